import PyProof.Rows.All
import Wide.All
import OpenK.AllK
import Wide.FinOn
import Lean
import PyProof.EqAt
import PyProof.EqKinds
import PyProof.TupleCall
import KE.KSortTup
import KE.KPairComp
import PyProof.P3Eq
import PyProof.DictWalks
import PyProof.StationsW
import PyProof.ExcClass2
import PyProof.ExcBaseAll.ValueError
import PyProof.RulesTry
import PyProof.RulesAs
import PyProof.NsDelKeeps
import PyProof.ExcAttrAll.ValueError
import KE.KIsAll
import PySem.Challenge.RW_farjump_k23_any_cells_read
set_option Elab.async false
set_option linter.all false
set_option maxRecDepth 100000
noncomputable section
namespace L2
open PySem PySem.Spec PyProof.Rows
abbrev Key:=Sum Int Str
noncomputable def uZ:Key→Value→Bool
 | .inl k,v=>Value.isInt k v
 | .inr x,v=>Value.isStrOf x v
noncomputable def Xd (w:World):Key→Int
 | .inl k=>hashInt k
 | .inr x=>hashStr w x
theorem cM:∀ {k:Key}{v:Value},uZ k v=true→(∃ i t,k=Sum.inl i∧v=Value.int i t)∨(∃ x t,k=Sum.inr x∧v=Value.str x t)
 | .inl i,v,h=>by
  obtain⟨t,e⟩:=Value.isInt_shape (k:=i) (v:=v) h
  exact .inl ⟨i,t,rfl,e⟩
 | .inr x,v,h=>by
  obtain⟨t,e⟩:=Value.isStrOf_shape (x:=x) (v:=v) h
  exact .inr ⟨x,t,rfl,e⟩
theorem Ey (i:Int) (t:Tok):uZ (.inl i) (.int i t)=true:=by simp[uZ,Value.isInt]
theorem Ez (x:Str) (t:Tok):uZ (.inr x) (.str x t)=true:=by simp[uZ,Value.isStrOf]
theorem Qm (a b:Int):decide ((Sum.inl a:Key)=Sum.inl b)=(a==b):=by
 by_cases e:a=b
 ·subst e;simp
 ·have h:¬ (Sum.inl a:Key)=Sum.inl b:=λ q=>e (Sum.inl.inj q)
  rw[decide_eq_false h]
  exact(beq_eq_false_iff_ne.mpr e).symm
theorem Qn (a b:Str):decide ((Sum.inr a:Key)=Sum.inr b)=decide (a=b):=by
 by_cases e:a=b
 ·subst e;simp
 ·have h:¬ (Sum.inr a:Key)=Sum.inr b:=λ q=>e (Sum.inr.inj q)
  rw[decide_eq_false h,decide_eq_false e]
theorem Qo (a:Int) (b:Str):decide ((Sum.inl a:Key)=Sum.inr b)=false:=decide_eq_false (λ q=>nomatch q)
theorem Qp (a:Str) (b:Int):decide ((Sum.inr a:Key)=Sum.inl b)=false:=decide_eq_false (λ q=>nomatch q)
noncomputable def cj (prog:Program) (w:World):PySem.KeyKind prog w Key where
 is:=uZ
 hash:=Xd w
 inj:=λ v a b ha hb=>by
  rcases cM ha with ⟨i,t,rfl,rfl⟩ | ⟨x,t,rfl,rfl⟩
  ·rcases cM hb with ⟨j,u,rfl,e⟩ | ⟨y,u,rfl,e⟩
   ·injection e with e1 _;rw[e1]
   ·exact nomatch e
  ·rcases cM hb with ⟨j,u,rfl,e⟩ | ⟨y,u,rfl,e⟩
   ·exact nomatch e
   ·injection e with e1 _;rw[e1]
 byValue:=λ k v h=>by
  rcases cM h with ⟨i,t,rfl,rfl⟩ | ⟨x,t,rfl,rfl⟩ <;> rfl
 pyHash:=λ hv h=>by
  rcases cM hv with ⟨i,t,rfl,rfl⟩ | ⟨x,t,rfl,rfl⟩
  ·exact wpAny_pyHash_int h
  ·exact wpAny_pyHash_str h
 eqBool:=λ hu hv h=>by
  rcases cM hu with ⟨i,t,rfl,rfl⟩ | ⟨x,t,rfl,rfl⟩
  ·rcases cM hv with ⟨j,u,rfl,rfl⟩ | ⟨y,u,rfl,rfl⟩
   ·rw[Qm] at h;exact wpAny_eqBool_int h
   ·rw[Qo] at h;exact SeqAt.EqAt.int_str i t y u _ _ _ _ h
  ·rcases cM hv with ⟨j,u,rfl,rfl⟩ | ⟨y,u,rfl,rfl⟩
   ·rw[Qp] at h;exact SeqAt.EqAt.str_int x t j u _ _ _ _ h
   ·rw[Qn] at h;exact wpAny_eqBool_str h
 «strs»:=λ k x t v h=>by
  rcases cM h with ⟨i,u,rfl,e⟩ | ⟨y,u,rfl,e⟩
  ·exact nomatch e
  ·injection e with e1 _
   subst e1
   cases v <;> rfl
theorem yF (prog:Program) (w:World) (i:Int) (t:Tok):(cj prog w).is (.inl i) (.int i t)=true:=Ey i t
theorem yG (prog:Program) (w:World) (x:Str) (t:Tok):(cj prog w).is (.inr x) (.str x t)=true:=Ez x t
end L2
namespace L2
open PySem PySem.Spec PyProof.Rows
inductive V where
 | non | bl (b:Bool) | int (i:Int) | str (x:Str) | byt (b:Array UInt8) | flt (b:UInt64) | ref (a:Addr) | ty (n:String)
 deriving DecidableEq
noncomputable def RelV:V→Value→Prop
 | .non,u=>u=Value.none
 | .bl b,u=>u=Value.bool b
 | .int i,u=>∃ t,u=Value.int i t
 | .str x,u=>∃ t,u=Value.str x t
 | .byt b,u=>∃ t,u=Value.bytes b t
 | .flt b,u=>∃ t,u=Value.float b t
 | .ref a,u=>u=Value.ref a
 | .ty n,u=>u=Value.type n
abbrev Vals:List V→List Value→Prop:=Paired RelV
theorem Vals.length {xs:List V}{us:List Value} (r:Vals xs us):xs.length=us.length:=Paired.length r
theorem Vals.get:∀ {xs:List V}{us:List Value}{i:Nat}{x:V},Vals xs us→xs[i]? = some x→∃ u,us[i]? = some u∧RelV x u
 | _,_,_,_,.nil,e=>by simp at e
 | _,_,0,_,.cons r _,e=>by simp at e;subst e;exact⟨_,rfl,r⟩
 | _,_,i+1,x,.cons _ t,e=>by
  obtain⟨u,h1,h2⟩:=Vals.get (i:=i) (x:=x) t (by simpa using e)
  exact⟨u,by simpa using h1,h2⟩
theorem Vals.set {x:V}{u:Value} (r:RelV x u):∀ {xs:List V}{us:List Value} (i:Nat),Vals xs us→Vals (xs.set i x) (us.set i u)
 | _,_,_,.nil=>.nil
 | _,_,0,.cons _ t=>.cons r t
 | _,_,i+1,.cons q t=>.cons q (Vals.set r i t)
theorem Vals.append:∀ {xs ys:List V}{us ws:List Value},Vals xs us→Vals ys ws→Vals (xs++ys) (us++ws)
 | _,_,_,_,.nil,s=>s
 | _,_,_,_,.cons r t,s=>.cons r (Vals.append t s)
theorem Vals.take:∀ {xs:List V}{us:List Value} (n:Nat),Vals xs us→Vals (xs.take n) (us.take n)
 | _,_,0,_=>.nil
 | _,_,_+1,.nil=>.nil
 | _,_,n+1,.cons r t=>.cons r (Vals.take n t)
theorem Vals.drop:∀ {xs:List V}{us:List Value} (n:Nat),Vals xs us→Vals (xs.drop n) (us.drop n)
 | _,_,0,r=>r
 | _,_,_+1,.nil=>.nil
 | _,_,n+1,.cons _ t=>Vals.drop n t
noncomputable def RelO:Option V→Option Value→Prop
 | some v,some u=>RelV v u
 | none,none=>True
 | _,_=>False
noncomputable def KV {κ:Type}:List (κ×V)→List (κ×Value)→Prop:=Paired λ (p:κ×V) (q:κ×Value)=>p.1=q.1∧RelV p.2 q.2
noncomputable def kV:Key→V
 | .inl i=>.int i
 | .inr x=>.str x
inductive HO where
 /-- a list -/
 | lst (xs:List V)
 /-- a tuple (never changes) -/
 | tup (xs:List V)
 /-- a dict whose keys are ints and texts;one whose keys are tuples of ints and texts (the empty one is both) -/
 | dK (kvs:List (Key×V)) | dT (kvs:List (List Key×V))
 /-- a set of ints: its members,its size -/
 | set (S:Int→Bool) (n:Nat)
 /-- an instance of the class at C,its dict at dx,its attributes -/
 | ins (C dx:Addr) (fs:List (Str×V))
 /-- the dict of the instance at x -/
 | own (x:Addr)
 /-- the dict of an exception -/
 | xd (fs:List (Str×V))
 /-- a bound method,f of x -/
 | met (f x:Addr)
 /-- a range object lo,lo+1,.. below hi -/
 | rng (lo hi:Int)
 /-- a thing that is known to the object (the script;a dict while a loop walks it): read,never written while it is so -/
 | frz (o:Obj) (u:HO)
 /-- a code object's table -/
 | tbl (ps:Array Value)
 | dE (ep:Nat) (kvs:List (Key×V))
 | xc (C:Addr) (fs:List (Str×V))
 /-- any other thing,by what is true of its one object (a def of one's own: SetO a S n:=HO.ext λ h=>..) -/
 | ext (φ:Heap→Prop)
abbrev Hp:=Addr→Option HO
noncomputable def upd (H:Hp) (a:Addr) (o:HO):Hp:=λ b=>if b=a then some o else H b
theorem aP {H:Hp}{a:Addr}{o:HO}:upd H a o a=some o:=by unfold upd;rw[if_pos rfl]
theorem aA {H:Hp}{a b:Addr}{o:HO} (h:b≠a):upd H a o b=H b:=by unfold upd;rw[if_neg h]
theorem fB {H:Hp}{a b:Addr}{o:HO} (h:H a=some o) (h':H b=none):a≠b:=by
 intro e;subst e;rw[h] at h';cases h'
section
variable (P:Program) (w:World)
noncomputable def ObjOk (H:Hp) (h:Heap) (a:Addr):HO→Prop
 | .lst xs=>xs.length≤sizeLine∧∃ (its:List Value) (n:Nat),Vals xs its∧h.get? a=some { cls:=.type "list",data:=.seq its.toArray n }
 | .tup xs=>xs.length≤sizeLine∧∃ its:List Value,Vals xs its∧IsTup h a its.toArray
 | .dK kvs=>kvs.length≤sizeLine∧(a==sysModules)=false∧∃ vs,KV kvs vs∧h.DictOf (cj P w) a vs
 | .dT kvs=>kvs.length≤sizeLine∧(a==sysModules)=false∧∃ xs:List (List Key×Addr×Value),
   Paired (λ (p:List Key×V) (q:List Key×Addr×Value)=>p.1=q.1∧H q.2.1=some (.tup (p.1.map kV))∧RelV p.2 q.2.2) kvs xs ∧
   ∃ o es ep,h.get? a=some o∧o.ExactDict∧o.data = .dict es ep∧es.toList=xs.map (entryOfKey (tupleKind (cj P w)))∧(xs.map (·.1)).Nodup
 | .set S n=>h.SetOf (intKind P w) a S n
 | .ins C dx fs=>H dx=some (.own a)∧fs.length≤1000∧dx≠a∧h.get? a=some (W.instObj C dx) ∧
   ∃ mA,h.Ns1 dx mA∧(∀ f,RelO (fs.lookup f) (mA f))∧PySem.Within mA (fs.map (·.1))
 | .own _=>∃ o,h.get? a=some o
 | .xd fs=>∃ mA,h.Ns1 a mA∧∀ f,RelO (fs.lookup f) (mA f)
 | .rng lo hi=>∃ t u v,h.get? a=some { cls:=.type "range",data:=.fields #[.int lo t,.int hi u,.int 1 v] }
 | .frz o u=>h.get? a=some o∧ObjOk H h a u
 | .tbl ps=>h.get? a=some { cls:=.none,data:=.fields ps }
 | .dE ep kvs=>kvs.length≤sizeLine∧(a==sysModules)=false∧∃ vs,KV kvs vs∧h.DictAt (cj P w) a vs ep
 | .xc C fs=>∃ oe vs,h.get? a=some oe∧oe.cls = .ref C∧oe.data = .fields vs∧((oe.dict=none∧fs=[])∨∃ dx mA,oe.dict=some dx∧dx≠a∧H dx=some (.own a)∧h.Ns1 dx mA∧∀ f,RelO (fs.lookup f) (mA f))
 | .met f x=>h.get? a=some (W.methodObj (.ref f) (.ref x))
 | .ext φ=>φ h∧(∃ o,h.get? a=some o)∧∀ h1 h2:Heap,φ h1→(∀ o,h1.get? a=some o→h2.get? a=some o)→φ h2
noncomputable def HOk (H:Hp) (h:Heap):Prop:=∀ a o,H a=some o→ObjOk P w H h a o
end
section
variable {P:Program}{w:World}{H H':Hp}{h h':Heap}{a:Addr}{o:HO}
theorem ObjOk.lt (x:ObjOk P w H h a o):a < h.objs.size:=by
 cases o with
 | lst xs=>obtain⟨_,_,_,_,e⟩:=x;exact Heap.lt_size e
 | tup xs=>obtain⟨_,_,_,p⟩:=x;exact p.lt
 | dK kvs=>obtain⟨_,_,_,_,o,_,_,e,_⟩:=x;exact Heap.lt_size e
 | dT kvs=>obtain⟨_,_,_,_,o,_,_,e,_⟩:=x;exact Heap.lt_size e
 | set S n=>obtain⟨o,_,_,_,e,_⟩:=x;exact Heap.lt_size e
 | ins C dx fs=>obtain⟨_,_,_,e,_⟩:=x;exact Heap.lt_size e
 | own y=>obtain⟨_,e⟩:=x;exact Heap.lt_size e
 | xd fs=>obtain⟨_,⟨_,_,_,e,_⟩,_⟩:=x;exact Heap.lt_size e
 | rng lo hi=>obtain⟨_,_,_,e⟩:=x;exact Heap.lt_size e
 | frz ob u=>obtain⟨e,_⟩:=x;exact Heap.lt_size e
 | tbl ps=>exact Heap.lt_size (show h.get? a=some _ from x)
 | dE ep kvs=>obtain⟨_,_,_,_,o,_,e,_⟩:=x;exact Heap.lt_size e
 | xc C fs=>obtain⟨_,_,e,_⟩:=x;exact Heap.lt_size e
 | met f y=>exact Heap.lt_size (show h.get? a=some _ from x)
 | ext φ=>obtain⟨_,⟨_,e⟩,_⟩:=x;exact Heap.lt_size e
theorem Paired.mapP {α β:Type}{F G:α→β→Prop}:∀ {l₁:List α}{l₂:List β},Paired F l₁ l₂→(∀ a b,F a b→G a b)→Paired G l₁ l₂
 | _,_,.nil,_=>.nil
 | _,_,.cons r t,f=>.cons (f _ _ r) (Paired.mapP t f)
theorem ObjOk.stay (x:ObjOk P w H h a o) (k:∀ b u,(b=a∨H b=some (.own a))→h.get? b=some u→h'.get? b=some u)
  (ho:∀ b,H b=some (.own a)→H' b=some (.own a)) (ht:∀ b xs,H b=some (.tup xs)→H' b=some (.tup xs)):ObjOk P w H' h' a o:=by
 induction o with
 | lst xs=>obtain⟨z,its,n,r,e⟩:=x;exact⟨z,its,n,r,k _ _ (.inl rfl) e⟩
 | tup xs=>obtain⟨z,its,r,ob,e,c⟩:=x;exact⟨z,its,r,ob,k _ _ (.inl rfl) e,c⟩
 | dK kvs=>obtain⟨z,y,vs,r,ob,es,ep,e,c⟩:=x;exact⟨z,y,vs,r,ob,es,ep,k _ _ (.inl rfl) e,c⟩
 | dT kvs=>
  obtain⟨z,y,xs,r,ob,es,ep,e,c⟩:=x
  exact⟨z,y,xs,Paired.mapP r λ p q z=>⟨z.1,ht _ _ z.2.1,z.2.2⟩,ob,es,ep,k _ _ (.inl rfl) e,c⟩
 | set S n=>obtain⟨ob,es,ep,t,e,c⟩:=x;exact⟨ob,es,ep,t,k _ _ (.inl rfl) e,c⟩
 | ins C dx fs=>
  obtain⟨d,z,ne,e,mA,⟨od,es,ep,e2,c⟩,r⟩:=x
  exact⟨ho _ d,z,ne,k _ _ (.inl rfl) e,mA,⟨od,es,ep,k _ _ (.inr d) e2,c⟩,r⟩
 | own y=>obtain⟨ob,e⟩:=x;exact⟨ob,k _ _ (.inl rfl) e⟩
 | xd fs=>obtain⟨mA,⟨od,es,ep,e,c⟩,r⟩:=x;exact⟨mA,⟨od,es,ep,k _ _ (.inl rfl) e,c⟩,r⟩
 | rng lo hi=>obtain⟨t,u,v,e⟩:=x;exact⟨t,u,v,k _ _ (.inl rfl) e⟩
 | frz ob u ih=>obtain⟨e,q⟩:=x;exact⟨k _ _ (.inl rfl) e,ih q⟩
 | dE ep kvs=>obtain⟨z,y,vs,r,ob,es,e,c⟩:=x;exact⟨z,y,vs,r,ob,es,k _ _ (.inl rfl) e,c⟩
 | xc C fs=>
  obtain⟨oe,vs,e,c1,c2,c3⟩:=x
  refine⟨oe,vs,k _ _ (.inl rfl) e,c1,c2,?_⟩
  rcases c3 with c3 | ⟨dx,mA,d1,d2,d3,⟨od,es,ep,e2,c⟩,d5⟩
  ·exact .inl c3
  ·exact .inr ⟨dx,mA,d1,d2,ho _ d3,⟨od,es,ep,k _ _ (.inr d3) e2,c⟩,d5⟩
 | tbl ps=>
  have e:h.get? a=some { cls:=.none,data:=.fields ps }:=x
  show h'.get? a=some { cls:=.none,data:=.fields ps }
  exact k a _ (.inl rfl) e
 | met f y=>
  have e:h.get? a=some (W.methodObj (.ref f) (.ref y)):=x
  show h'.get? a=some (W.methodObj (.ref f) (.ref y))
  exact k a _ (.inl rfl) e
 | ext φ=>obtain⟨p,⟨o,e⟩,st⟩:=x;exact⟨st _ _ p λ o q=>k _ _ (.inl rfl) q,⟨o,k _ _ (.inl rfl) e⟩,st⟩
theorem HOk.lt (x:HOk P w H h) (e:H a=some o):a < h.objs.size:=(x a o e).lt
theorem HOk.fresh (x:HOk P w H h) (e:h.objs.size≤a):H a=none:=by
 cases q:H a with
 | none=>rfl
 | some u=>exact absurd (Nat.lt_of_lt_of_le (x.lt q) e) (Nat.lt_irrefl _)
theorem HOk.kept (x:HOk P w H h) (k:∀ b u,h.get? b=some u→h'.get? b=some u):HOk P w H h':=λ a o e=>
 (x a o e).stay (λ b u _ q=>k b u q) (λ _ q=>q) λ _ _ q=>q
theorem HOk.laid (x:HOk P w H h) (k:∀ b u,h.get? b=some u→h'.get? b=some u) (hp:h.objs.size≤a) (new:ObjOk P w (upd H a o) h' a o):HOk P w (upd H a o) h':=λ b u e=>by
 have hn:=x.fresh hp
 by_cases hb:b=a
 ·subst hb;rw[aP] at e;cases e;exact new
 ·rw[aA hb] at e
  exact(x b u e).stay (λ c v _ q=>k c v q) (λ c q=>by rw[aA (fB q hn)];exact q) λ c xs q=>by rw[aA (fB q hn)];exact q
end
noncomputable def Rd (H:Hp) (a:Addr) (u:HO):Prop:=H a=some u∨∃ o,H a=some (.frz o u)
theorem Rd.ok {P:Program}{w:World}{H:Hp}{h:Heap}{a:Addr}{u:HO} (r:Rd H a u) (x:HOk P w H h):ObjOk P w H h a u:=by
 rcases r with r | ⟨o,r⟩
 ·exact x a u r
 ·obtain⟨_,q⟩:=x a _ r
  exact q
noncomputable def Uw:Option HO→Prop
 | some (.lst _)=>True
 | some (.dK _)=>True
 | some (.dT _)=>True
 | some (.set _ _)=>True
 | some (.ins _ _ _)=>True
 | some (.ext _)=>True
 | some (.dE _ _)=>True
 | _=>False
section
variable {P:Program}{w:World}{H:Hp}{h h':Heap}{x e:Addr}{o':HO}
theorem HOk.write (ok:HOk P w H h) (mu:Uw (H x)) (he:e=x∨H e=some (.own x)) (k:∀ b u,b≠e→h.get? b=some u→h'.get? b=some u) (heo:∃ u,h'.get? e=some u)
  (new:ObjOk P w (upd H x o') h' x o'):HOk P w (upd H x o') h':=λ b u q=>by
 have Ux:∀ c y,H c=some (.own y)→c≠x:=λ c y r z=>by subst z;rw[r] at mu;exact mu
 have Xe:∀ c xs,H c=some (.tup xs)→c≠x:=λ c xs r z=>by subst z;rw[r] at mu;exact mu
 by_cases hb:b=x
 ·subst hb;rw[aP] at q;cases q;exact new
 ·rw[aA hb] at q
  by_cases hbe:b=e
  ·have q':H b=some (.own x):=by
    rcases he with z | z
    ·exact absurd (hbe.trans z) hb
    ·rw[hbe];exact z
   rw[q] at q';cases q'
   obtain⟨v,hv⟩:=heo
   exact⟨v,by rw[hbe];exact hv⟩
  ·refine(ok b u q).stay (λ c v hc r=>k c v ?_ r) (λ c r=>by rw[aA (Ux c b r)];exact r) λ c xs r=>by rw[aA (Xe c xs r)];exact r
   rcases hc with rfl | hc
   ·exact hbe
   ·rintro rfl
    rcases he with z | z
    ·exact Ux c b hc z
    ·rw[hc] at z;cases z;exact hb rfl
end
structure Un (fs ex:List Addr) (H H':Hp) (h h':Heap):Prop where
 keep:∀ b o,h.get? b=some o→H b=none→b ∉ fs→b ∉ ex→h'.get? b=some o
 slot:∀ b o,h.get? b=some o→H b=none→b∈fs→b ∉ ex→∃ sl,h'.get? b=some { o with slots:=sl }
 free:∀ b o,h.get? b=some o→H b=none→b ∉ ex→H' b=none
 there:∀ b o,h.get? b=some o→b ∉ ex→∃ o',h'.get? b=some o'
 tups:∀ b xs,H b=some (.tup xs)→H' b=some (.tup xs)
 frzs:∀ b o u,H b=some (.frz o u)→H' b=some (.frz o u)
 tbls:∀ b ps,H b=some (.tbl ps)→∃ more,H' b=some (.tbl (ps++more))
section
variable {fs fs' ex ex':List Addr}{H H1 H2:Hp}{h h1 h2 h':Heap}{a x e:Addr}{o:HO}
theorem Un.any (u:Un fs ex H H1 h h1) {b:Addr}{ob:Obj} (q:h.get? b=some ob) (n:H b=none) (hx:b ∉ ex):∃ sl,h1.get? b=some { ob with slots:=sl }:=by
 by_cases hb:b∈fs
 ·exact u.slot b ob q n hb hx
 ·exact⟨ob.slots,u.keep b ob q n hb hx⟩
theorem Un.trans (a:Un fs ex H H1 h h1) (b:Un fs ex H1 H2 h1 h2):Un fs ex H H2 h h2 where
 keep:=λ c ob q n hc hx=>b.keep c ob (a.keep c ob q n hc hx) (a.free c ob q n hx) hc hx
 slot:=λ c ob q n hc hx=>by
  obtain⟨sl,e1⟩:=a.slot c ob q n hc hx
  obtain⟨sl',e2⟩:=b.slot c _ e1 (a.free c ob q n hx) hc hx
  exact⟨sl',e2⟩
 free:=λ c ob q n hx=>by
  obtain⟨o',e1⟩:=a.there c ob q hx
  exact b.free c o' e1 (a.free c ob q n hx) hx
 there:=λ c ob q hx=>by
  obtain⟨o',e1⟩:=a.there c ob q hx
  exact b.there c o' e1 hx
 tups:=λ c xs q=>b.tups c xs (a.tups c xs q)
 frzs:=λ c ob xs q=>b.frzs c ob xs (a.frzs c ob xs q)
 tbls:=λ c ps q=>by
  obtain⟨m1,e1⟩:=a.tbls c ps q
  obtain⟨m2,e2⟩:=b.tbls c _ e1
  exact⟨m1++m2,by rw[e2,Array.append_assoc]⟩
theorem Un.kept (k:∀ b u,h.get? b=some u→h'.get? b=some u):Un fs ex H H h h':=
 ⟨λ b ob q _ _ _=>k b ob q,λ b ob q _ _ _=>⟨ob.slots,k b ob q⟩,λ _ _ _ n _=>n,λ b ob q _=>⟨ob,k b ob q⟩,λ _ _ q=>q,λ _ _ _ q=>q,λ _ ps q=>⟨#[],by rw[q];simp⟩⟩
theorem Un.refl:Un fs ex H H h h:=Un.kept λ _ _ q=>q
theorem Un.laid (k:∀ b u,h.get? b=some u→h'.get? b=some u) (hp:h.objs.size≤a) (hn:H a=none):Un fs ex H (upd H a o) h h' where
 keep:=λ b u q _ _ _=>k b u q
 slot:=λ b u q _ _ _=>⟨u.slots,k b u q⟩
 free:=λ b u q n _=>by rw[aA (Nat.ne_of_lt (Nat.lt_of_lt_of_le (Heap.lt_size q) hp))];exact n
 there:=λ b u q _=>⟨u,k b u q⟩
 tups:=λ b xs q=>by rw[aA (fB q hn)];exact q
 frzs:=λ b u xs q=>by rw[aA (fB q hn)];exact q
 tbls:=λ b ps q=>⟨#[],by rw[aA (fB q hn),q];simp⟩
theorem Un.write (mu:Uw (H x)) (he:e=x∨H e=some (.own x)) (k:∀ b u,b≠e→h.get? b=some u→h'.get? b=some u) (heo:∃ u,h'.get? e=some u):Un fs ex H (upd H x o) h h':=by
 have hx:∀ b,H b=none→b≠x:=λ b n z=>by subst z;rw[n] at mu;exact mu
 have hb:∀ b,H b=none→b≠e:=λ b n z=>by
  subst z
  rcases he with r | r
  ·exact hx b n r
  ·rw[n] at r;cases r
 have hm:∀ b u,H b=some u→¬ Uw (some u)→b≠x:=λ b u q nm z=>by subst z;rw[q] at mu;exact nm mu
 refine⟨λ b u q n _ _=>k b u (hb b n) q,λ b u q n _ _=>⟨u.slots,k b u (hb b n) q⟩,λ b u q n _=>by rw[aA (hx b n)];exact n,λ b u q _=>?_,
  λ b xs q=>by rw[aA (hm b _ q λ z=>z)];exact q,λ b u xs q=>by rw[aA (hm b _ q λ z=>z)];exact q,λ b ps q=>⟨#[],by rw[aA (hm b _ q λ z=>z),q];simp⟩⟩
 by_cases hbe:b=e
 ·subst hbe;exact heo
 ·exact⟨u,k b u hbe q⟩
theorem Un.mono (u:Un fs ex H H1 h h1) (hs:∀ b∈fs,b∈fs') (hx:∀ b∈ex,b∈ex'):Un fs' ex' H H1 h h1:=
 ⟨λ b ob q n hb he=>u.keep b ob q n (λ z=>hb (hs b z)) λ z=>he (hx b z),λ _ _ q n _ he=>u.any q n λ z=>he (hx _ z),λ b ob q n he=>u.free b ob q n λ z=>he (hx b z),λ b ob q he=>u.there b ob q λ z=>he (hx b z),u.tups,u.frzs,u.tbls⟩
end
noncomputable def W0 (h:Heap) (H:Hp):List Addr:=(List.range h.objs.size).filter λ a=>(H a).isSome
noncomputable def v7 (h:Heap) (H:Hp):Heap:=W.hideAll h (W0 h H)
theorem EY (h:Heap) (H:Hp):(v7 h H).objs.size=h.objs.size:=W.hideAll_size _ _
theorem GZ {h:Heap}{H:Hp}{b:Addr}{o:Obj} (e:h.get? b=some o) (n:H b=none):(v7 h H).get? b=some o:=
 W.hideAll_get _ e λ hm=>by
  have q:(H b).isSome=true:=(List.mem_filter.mp hm).2
  rw[n] at q;simp at q
theorem KY {h:Heap}{H:Hp}{b:Addr}{o:Obj} (e:(v7 h H).get? b=some o):h.get? b=some o∧H b=none:=by
 have e':h.get? b=some o:=W.of_hideAll (W0 h H) e
 refine⟨e',?_⟩
 cases q:H b with
 | none=>rfl
 | some x=>
  have hm:b∈W0 h H:=List.mem_filter.mpr ⟨List.mem_range.mpr (Heap.lt_size e'),by simp[q]⟩
  have z:(v7 h H).get? b=none:=W.hideAll_none (W0 h H) hm
  rw[z] at e;cases e
noncomputable def KZ (g h:Heap) (L:Addr):List (Addr×Obj):=(List.range h.objs.size).filterMap λ a=>if a=L∨(g.get? a).isSome=true then none else (h.get? a).map λ o=>(a,o)
noncomputable def rest (g h:Heap) (L d:Addr):List (Addr×Obj):=(KZ g h L).filter λ p=>decide (p.1≠d)
end L2
namespace L2
open PySem PySem.Spec PyProof.Rows
structure Mod (K:W.Frag) (mg:Str→Option Value) (base:Heap):Prop where
 kin:K.In base
 glob:base.Ns mainGlobals mg
 blt:∃ mb,base.Ns builtinsNs mb∧∀ x:Str,x≠"__name__"→mb x=bootBuiltins x
 nolimit:base.NoLimit
structure Cx where
 prog:Program
 w:World
 K:W.Frag
 mg:Str→Option Value
 base:Heap
 A:Around
 N:List Str
 s₀:Shared
 H₀:Hp
 env:Env
 outer:List Env
 stack:List Env
 ex:List Addr
 fn:Str→Bool
 calm:Bool
 pn:List (Addr×Obj)
 xe:Value→Shared→Prop
noncomputable def frs (l:List Env):List Addr:=l.filterMap (·.frame)
abbrev Cx.fs (X:Cx):List Addr:=frs X.outer
noncomputable def Vis (sc:Scope) (x:Str):Prop:=sc.names.lookup x=some .local∨sc.names.lookup x=some .cell∨sc.names.lookup x=some .free
noncomputable def Loc (sc:Scope) (x:Str):Prop:=sc.names.lookup x=some .local∨sc.names.lookup x=some .cell
noncomputable def Look (env:Env) (h:Heap) (m:Str→Option Value) (x:Str) (u:Value):Prop:=
 (env.kindOf x=some .local∧m x=some u)∨((env.kindOf x=some .cell∨env.kindOf x=some .free)∧∃ c,env.cells.lookup x=some c∧h.IsCell c (some u))
structure Cx.Ok (X:Cx):Prop where
 mod:Mod X.K X.mg X.base
 kind:X.env.scope.kind = .function
 glob:X.env.globals=mainGlobals
 blt:X.env.builtins=builtinsNs
 above:X.s₀.heap.objs.size≤X.env.locals
 inj:∀ x y c,X.env.cells.lookup x=some c→X.env.cells.lookup y=some c→x=y
 has:∀ x,(X.env.kindOf x=some .cell∨X.env.kindOf x=some .free)→∃ c,X.env.cells.lookup x=some c
 cab:∀ x c,X.fn x=true→X.env.cells.lookup x=some c→X.s₀.heap.objs.size≤c
 hd:X.calm=true→X.A.handled=none
 frames:X.A.frames=some X.stack
 stk:X.stack=X.outer∨(X.stack=X.env::X.outer∧X.env.frame=some X.env.locals)
 exf:∀ b∈X.ex,b≠X.env.locals∧∀ x c,X.env.cells.lookup x=some c→c≠b
 bs:∀ b o,X.base.get? b=some o→X.s₀.heap.get? b=some o∧X.H₀ b=none
 bsz:X.base.objs.size≤X.s₀.heap.objs.size
 noex:∀ b o,X.base.get? b=some o→b ∉ X.ex
 exfs:∀ b∈X.ex,b ∉ X.fs
 funs:X.s₀.heap.FunFrames X.base X.outer
 frf:∀ b∈X.fs,X.H₀ b=none
structure Inv (X:Cx) (pins:List (Addr×Obj)) (σ:List (Option V)) (H:Hp) (s:Shared):Prop where
 ok:X.Ok
 os:s.os=X.s₀.os
 bare:AllBare s.gens
 base:Un X.fs X.ex X.H₀ H X.s₀.heap s.heap
 loc:∃ m,s.heap.Ns X.env.locals m∧∀ (i:Nat) (x:Str) (v:V),X.N[i]? = some x→σ[i]? = some (some v)→Vis X.env.scope x→∃ u,RelV v u∧Look X.env s.heap m x u
 cell:∀ x c,X.env.cells.lookup x=some c→∃ v,s.heap.IsCell c v
 free:H X.env.locals=none
 freeC:∀ x c,X.env.cells.lookup x=some c→H c=none
 pin:∀ p∈X.pn++pins,s.heap.get? p.1=some p.2∧H p.1=none∧p.1≠X.env.locals∧p.1 ∉ X.fs∧∀ v,p.2.data≠.cell v
 hok:HOk X.prog X.w H s.heap
 len:σ.length=X.N.length
section
variable {X:Cx}{pins:List (Addr×Obj)}{σ:List (Option V)}{H H':Hp}{s:Shared}{h':Heap}
theorem Cx.Ok.nofr (ok:X.Ok) {b:Addr}{o:Obj} (e:X.base.get? b=some o):b ∉ X.fs:=λ hb=>by
 have:=(ok.funs.mem hb).1
 rw[e] at this;cases this
theorem Inv.bs (I:Inv X pins σ H s):∀ b o,X.base.get? b=some o→s.heap.get? b=some o∧H b=none:=λ b o e=>
 ⟨I.base.keep b o (I.ok.bs b o e).1 (I.ok.bs b o e).2 (I.ok.nofr e) (I.ok.noex b o e),I.base.free b o (I.ok.bs b o e).1 (I.ok.bs b o e).2 (I.ok.noex b o e)⟩
theorem Inv.bk (I:Inv X pins σ H s):∀ b o,X.base.get? b=some o→s.heap.get? b=some o:=λ b o e=>(I.bs b o e).1
theorem Inv.mod (I:Inv X pins σ H s):Mod X.K X.mg X.base:=I.ok.mod
theorem Inv.kIn (I:Inv X pins σ H s):X.K.In s.heap:=I.ok.mod.kin.keeps I.bk
theorem Inv.fr (I:Inv X pins σ H s):∃ m,Fr X.base X.env.locals s.heap m:=
 let ⟨m,hn,_⟩:=I.loc
 ⟨m,hn,I.bk,Nat.le_trans I.ok.bsz I.ok.above⟩
theorem Inv.lt (I:Inv X pins σ H s):X.env.locals < s.heap.objs.size:=let ⟨_,hn,_⟩:=I.loc;hn.lt
theorem Inv.sz (I:Inv X pins σ H s):X.s₀.heap.objs.size≤s.heap.objs.size:=Nat.le_trans I.ok.above (Nat.le_of_lt I.lt)
theorem Inv.nofs (I:Inv X pins σ H s) {a:Addr} (h:s.heap.objs.size≤a):a ∉ X.fs:=λ hb=>by
 obtain⟨_,o,ho,_⟩:=I.ok.funs.mem hb
 exact absurd (Nat.lt_of_lt_of_le (Heap.lt_size ho) (Nat.le_trans I.sz h)) (Nat.lt_irrefl _)
theorem Inv.cne (I:Inv X pins σ H s):∀ x c,X.env.cells.lookup x=some c→c≠X.env.locals:=λ x c e z=>by
 obtain⟨v,o,ho,hd⟩:=I.cell x c e
 obtain⟨m,⟨o',es,ep,ho',hd',_⟩,_⟩:=I.loc
 rw[z,ho'] at ho;cases ho;rw[hd'] at hd;cases hd
theorem Inv.funs (I:Inv X pins σ H s):s.heap.FunFrames X.base X.outer:=by
 have all:∀ (l:List Env),(∀ b∈frs l,b∈X.fs)→X.s₀.heap.FunFrames X.base l→s.heap.FunFrames X.base l:=by
  intro l
  induction l with
  | nil=>intro _ _;trivial
  | cons env r ih=>
   intro hs hl
   obtain⟨hk,⟨L,o,hf,hn,ho,hd⟩,hr⟩:=hl
   have hL:L∈X.fs:=hs L (by unfold frs;rw[List.filterMap_cons,hf];exact List.mem_cons_self)
   obtain⟨sl,e⟩:=I.base.slot L o ho (I.ok.frf L hL) hL λ z=>I.ok.exfs L z hL
   exact⟨hk,⟨L,_,hf,hn,e,hd⟩,ih (λ b hb=>hs b (by unfold frs;rw[List.filterMap_cons,hf];exact List.mem_cons_of_mem _ hb)) hr⟩
 exact all X.outer (λ _ hb=>hb) I.ok.funs
theorem Inv.stack (I:Inv X pins σ H s):s.heap.FunFrames X.base X.stack:=by
 rcases I.ok.stk with e | ⟨e,hf⟩
 ·rw[e];exact I.funs
 ·rw[e]
  obtain⟨m,hn,_⟩:=I.loc
  refine .cons (by rw[I.ok.kind];decide) hf hn ?_ I.funs
  exact Heap.get?_none_of_le (Nat.le_trans I.ok.bsz I.ok.above)
theorem Inv.stkSub (I:Inv X pins σ H s):∀ b∈frs X.stack,b∈X.env.locals::X.fs:=λ b hb=>by
 rcases I.ok.stk with e | ⟨e,hf⟩
 ·rw[e] at hb;exact List.mem_cons_of_mem _ hb
 ·rw[e] at hb
  unfold frs at hb
  rw[List.filterMap_cons,hf] at hb
  exact hb
theorem Inv.stkFree (I:Inv X pins σ H s):∀ b∈frs X.stack,H b=none:=λ b hb=>by
 rcases List.mem_cons.mp (I.stkSub b hb) with e | hb
 ·rw[e];exact I.free
 ·obtain⟨_,o,ho,_⟩:=I.ok.funs.mem hb
  exact I.base.free b o ho (I.ok.frf b hb) λ z=>I.ok.exfs b z hb
theorem Inv.step {g':Array GenState}{t':Nat}{d':Drawn}{ch:List Addr} (I:Inv X pins σ H s)
  (hch:∀ b∈ch,(b∈X.ex∨X.s₀.heap.objs.size≤b)∧b≠X.env.locals∧(∀ x c,X.env.cells.lookup x=some c→c≠b)∧∀ p∈X.pn++pins,p.1≠b)
  (keep:∀ b o,b≠X.env.locals→b ∉ X.fs→b ∉ ch→s.heap.get? b=some o→H b=none→h'.get? b=some o)
  (slot:∀ b o,b≠X.env.locals→b∈X.fs→b ∉ ch→s.heap.get? b=some o→H b=none→∃ sl,h'.get? b=some { o with slots:=sl }) (free:∀ b o,b ∉ ch→s.heap.get? b=some o→H b=none→H' b=none)
  (there:∀ b o,b ∉ ch→s.heap.get? b=some o→∃ o',h'.get? b=some o')
  (tups:∀ b xs,H b=some (.tup xs)→H' b=some (.tup xs)) (frzs:∀ b o u,H b=some (.frz o u)→H' b=some (.frz o u)) (tbls:∀ b ps,H b=some (.tbl ps)→∃ more,H' b=some (.tbl (ps++more)))
  (ns:∀ m,s.heap.Ns X.env.locals m→h'.Ns X.env.locals m) (hok:HOk X.prog X.w H' h') (hg:AllBare g') :
  Inv X pins σ H' { s with heap:=h',gens:=g',drawn:=d',toks:=t' }:=by
 have Y4:∀ b o,X.s₀.heap.get? b=some o→b≠X.env.locals:=λ b o e=>Nat.ne_of_lt (Nat.lt_of_lt_of_le (Heap.lt_size e) I.ok.above)
 have W2:∀ b o,X.s₀.heap.get? b=some o→b ∉ X.ex→b ∉ ch:=λ b o e hx hb=>by
  rcases (hch b hb).1 with z | z
  ·exact hx z
  ·exact absurd (Nat.lt_of_lt_of_le (Heap.lt_size e) z) (Nat.lt_irrefl _)
 have cellK:∀ x c,X.env.cells.lookup x=some c→∀ v,s.heap.IsCell c v→h'.IsCell c v:=λ x c e v ⟨o,ho,hd⟩=>by
  have Uy:c ∉ ch:=λ z=>(hch c z).2.2.1 x c e rfl
  by_cases hc:c∈X.fs
  ·obtain⟨sl,q⟩:=slot c o (I.cne x c e) hc Uy ho (I.freeC x c e)
   exact⟨_,q,hd⟩
  ·exact⟨o,keep c o (I.cne x c e) hc Uy ho (I.freeC x c e),hd⟩
 refine⟨I.ok,I.os,hg,⟨λ b o e n hb hx=>?_,λ b o e n hb hx=>?_,λ b o e n hx=>?_,λ b o e hx=>?_,λ b xs e=>tups b xs (I.base.tups b xs e),λ b o xs e=>frzs b o xs (I.base.frzs b o xs e),λ b ps e=>?_⟩,?_,λ x c e=>?_,?_,λ x c e=>?_,λ p hp=>?_,hok,I.len⟩
 ·exact keep b o (Y4 b o e) hb (W2 b o e hx) (I.base.keep b o e n hb hx) (I.base.free b o e n hx)
 ·obtain⟨sl,e1⟩:=I.base.slot b o e n hb hx
  obtain⟨sl',e2⟩:=slot b _ (Y4 b o e) hb (W2 b o e hx) e1 (I.base.free b o e n hx)
  exact⟨sl',e2⟩
 ·obtain⟨o',e1⟩:=I.base.there b o e hx
  exact free b o' (W2 b o e hx) e1 (I.base.free b o e n hx)
 ·obtain⟨o',e1⟩:=I.base.there b o e hx
  exact there b o' (W2 b o e hx) e1
 ·obtain⟨m1,e1⟩:=I.base.tbls b ps e
  obtain⟨m2,e2⟩:=tbls b _ e1
  exact⟨m1++m2,by rw[e2,Array.append_assoc]⟩
 ·obtain⟨m,hn,hl⟩:=I.loc
  refine⟨m,ns m hn,λ i x v e1 e2 e3=>?_⟩
  obtain⟨u,r,l⟩:=hl i x v e1 e2 e3
  refine⟨u,r,?_⟩
  rcases l with l | ⟨k,c,e,z⟩
  ·exact .inl l
  ·exact .inr ⟨k,c,e,cellK x c e _ z⟩
 ·obtain⟨v,z⟩:=I.cell x c e
  exact⟨v,cellK x c e v z⟩
 ·obtain⟨m,⟨o,_,_,ho,_⟩,_⟩:=I.loc
  exact free _ o (λ z=>(hch _ z).2.1 rfl) ho I.free
 ·obtain⟨v,o,ho,hd⟩:=I.cell x c e
  exact free c o (λ z=>(hch c z).2.2.1 x c e rfl) ho (I.freeC x c e)
 ·obtain⟨e,n,ne,nf,d⟩:=I.pin p hp
  have Uy:p.1 ∉ ch:=λ z=>(hch p.1 z).2.2.2 p hp rfl
  exact⟨keep p.1 p.2 ne nf Uy e n,free p.1 p.2 Uy e n,ne,nf,d⟩
theorem Inv.un {t':Nat} (I:Inv X pins σ H s) (u:Un X.fs [] H H' s.heap h') (hok:HOk X.prog X.w H' h'):Inv X pins σ H' { s with heap:=h',toks:=t' }:=by
 obtain⟨m,⟨o,es,ep,ho,r⟩,_⟩:=id I.loc
 obtain⟨sl,hL⟩:=u.any ho I.free (by simp)
 exact I.step (g':=s.gens) (d':=s.drawn) (ch:=[]) (λ _ z=>nomatch z) (λ b o _ hb _ e n=>u.keep b o e n hb (by simp)) (λ b o _ hb _ e n=>u.slot b o e n hb (by simp)) (λ b o _ e n=>u.free b o e n (by simp)) (λ b o _ e=>u.there b o e (by simp)) u.tups u.frzs u.tbls (λ m' hm=>by
  obtain⟨o',es',ep',ho',r'⟩:=hm
  rw[ho] at ho';cases ho'
  exact⟨_,es',ep',hL,r'⟩) hok I.bare
theorem Inv.call {g':Array GenState}{t':Nat}{d':Drawn}{ch:List Addr} (I:Inv X pins σ H s) (u:Un (frs X.stack) ch H H' s.heap h') (hok:HOk X.prog X.w H' h') (hg:AllBare g')
  (hch:∀ b∈ch,(b∈X.ex∨X.s₀.heap.objs.size≤b)∧b≠X.env.locals∧(∀ x c,X.env.cells.lookup x=some c→c≠b)∧∀ p∈X.pn++pins,p.1≠b) :
  Inv X pins σ H' { s with heap:=h',gens:=g',drawn:=d',toks:=t' }:=by
 obtain⟨m,⟨o,es,ep,ho,r⟩,_⟩:=id I.loc
 obtain⟨sl,hL⟩:=u.any ho I.free λ z=>(hch _ z).2.1 rfl
 exact I.step (ch:=ch) hch (λ b o hL hb hc e n=>u.keep b o e n (λ z=>(List.mem_cons.mp (I.stkSub b z)).elim hL hb) hc) (λ b o _ _ hc e n=>u.any e n hc) (λ b o hc e n=>u.free b o e n hc) (λ b o hc e=>u.there b o e hc) u.tups u.frzs u.tbls (λ m' hm=>by
  obtain⟨o',es',ep',ho',r'⟩:=hm
  rw[ho] at ho';cases ho'
  exact⟨_,es',ep',hL,r'⟩) hok hg
theorem Inv.turned {t':Nat}{it:Addr} (I:Inv X pins σ H s) (k:∀ b o,b≠it→s.heap.get? b=some o→h'.get? b=some o) (hn:H it=none) (hL:it≠X.env.locals)
  (h1:it∈X.ex∨X.s₀.heap.objs.size≤it) (h2:∀ x c,X.env.cells.lookup x=some c→c≠it) (h3:∀ p∈X.pn++pins,p.1≠it):Inv X pins σ H { s with heap:=h',toks:=t' }:=by
 have Y5:∀ b u,H b=some u→b≠it:=λ b u e z=>by rw[z,hn] at e;cases e
 refine I.step (g':=s.gens) (d':=s.drawn) (ch:=[it]) (λ b hb=>?_) (λ b o _ _ hc e _=>k b o (λ z=>hc (by simp[z])) e) (λ b o _ _ hc e _=>⟨o.slots,k b o (λ z=>hc (by simp[z])) e⟩) (λ _ _ _ _ n=>n)
  (λ b o hc e=>⟨o,k b o (λ z=>hc (by simp[z])) e⟩) (λ _ _ e=>e) (λ _ _ _ e=>e) (λ b ps e=>⟨#[],by rw[e];simp⟩) (λ m hm=>?_) (λ b u e=>?_) I.bare
 ·have e:b=it:=by simpa using hb
  subst e
  exact⟨h1,hL,h2,h3⟩
 ·obtain⟨o,es,ep,ho,r⟩:=hm
  exact⟨o,es,ep,k _ o (Ne.symm hL) ho,r⟩
 ·refine(I.hok b u e).stay (λ c v hc q=>k c v ?_ q) (λ _ q=>q) λ _ _ q=>q
  rcases hc with z | z
  ·rw[z];exact Y5 b u e
  ·exact Y5 c _ z
theorem Inv.tok (I:Inv X pins σ H s) (t:Nat):Inv X pins σ H { s with toks:=t }:=I.un (h':=s.heap) (t':=t) Un.refl I.hok
theorem Inv.kept {t':Nat} (I:Inv X pins σ H s) (k:∀ b u,s.heap.get? b=some u→h'.get? b=some u):Inv X pins σ H { s with heap:=h',toks:=t' }:=I.un (Un.kept k) (I.hok.kept k)
theorem Inv.laid {a:Addr}{o:HO}{t':Nat} (I:Inv X pins σ H s) (k:∀ b u,s.heap.get? b=some u→h'.get? b=some u) (hp:s.heap.objs.size≤a) (new:ObjOk X.prog X.w (upd H a o) h' a o) :
  Inv X pins σ (upd H a o) { s with heap:=h',toks:=t' }:=I.un (Un.laid k hp (I.hok.fresh hp)) (I.hok.laid k hp new)
theorem Inv.write {x e:Addr}{o:HO}{t':Nat} (I:Inv X pins σ H s) (mu:Uw (H x)) (he:e=x∨H e=some (.own x)) (k:∀ b u,b≠e→s.heap.get? b=some u→h'.get? b=some u) (heo:∃ u,h'.get? e=some u)
  (new:ObjOk X.prog X.w (upd H x o) h' x o):Inv X pins σ (upd H x o) { s with heap:=h',toks:=t' }:=I.un (Un.write mu he k heo) (I.hok.write mu he k heo new)
theorem Inv.pins_of {qp:List (Addr×Obj)} (I:Inv X pins σ H s) (h:∀ p∈qp,s.heap.get? p.1=some p.2∧H p.1=none∧p.1≠X.env.locals∧p.1 ∉ X.fs∧∀ v,p.2.data≠.cell v):Inv X qp σ H s:=
 ⟨I.ok,I.os,I.bare,I.base,I.loc,I.cell,I.free,I.freeC,λ p hp=>(List.mem_append.mp hp).elim (λ z=>I.pin p (List.mem_append_left _ z)) (h p),I.hok,I.len⟩
theorem rA {N:List Str} (hN:N.Nodup) {i j:Nat}{x:Str} (a:N[i]? = some x) (b:N[j]? = some x):i=j:=by
 obtain⟨h1,e1⟩:=List.getElem?_eq_some_iff.mp a
 obtain⟨h2,e2⟩:=List.getElem?_eq_some_iff.mp b
 exact(List.getElem_inj hN).mp (e1.trans e2.symm)
theorem u0 {M:Model}{A:Around}{E:Value→Shared→Prop}{i:Nat}{x:Str}{v:V}{u:Value}{Q:Unit→Shared→Prop} (I:Inv X pins σ H s) (hN:X.N.Nodup) (hi:X.N[i]? = some x) (hx:Loc X.env.scope x) (r:RelV v u)
  (h:∀ s',Inv X pins (σ.set i (some v)) H s'→(∃ a,Heap.SameBut a s.heap s'.heap∧(a=X.env.locals∨X.env.cells.lookup x=some a))→Q () s') (hf:X.fn x=true∨X.env.scope.names.lookup x=some .local:=by first | exact .inl rfl | exact .inr rfl | assumption):wpAny M A (storeName X.env x u) Q E s:=by
 obtain⟨m,hn,hl⟩:=id I.loc
 have hcls:(X.env.scope.kind == .class || (X.env.scope.kind == .module&&X.env.locals != X.env.globals))=false:=by rw[I.ok.kind];rfl
 have Uz:i < σ.length:=by rw[I.len];exact(List.getElem?_eq_some_iff.mp hi).1
 have cne:=I.cne
 have tracked:∀ {a:Addr} {h':Heap},(∃ o,s.heap.get? a=some o∧H a=none)→Heap.SameBut a s.heap h'→HOk X.prog X.w H h':=λ {a h'} ha hs b ob e=>by
  obtain⟨_,_,hfree⟩:=ha
  refine(I.hok b ob e).stay (λ c w' hc q=>(hs.2 c ?_).trans q) (λ _ q=>q) λ _ _ q=>q
  rintro rfl
  rcases hc with rfl | hc
  ·rw[hfree] at e;cases e
  ·rw[hfree] at hc;cases hc
 rcases hx with hk | hk
 ·refine wpAny_storeName_local hk hn (λ h' hn' hs=>?_) hcls
  obtain⟨oL,_,_,hoL,_⟩:=id hn
  refine h _ ⟨I.ok,I.os,I.bare,⟨λ b o e n hb hx=>?_,λ b o e n hb hx=>?_,I.base.free,λ b o e hx=>?_,I.base.tups,I.base.frzs,I.base.tbls⟩,⟨_,hn',λ j y v' e1 e2 e3=>?_⟩,λ y c e=>?_,I.free,I.freeC,λ p hp=>?_,tracked ⟨oL,hoL,I.free⟩ hs,by simpa using I.len⟩ ⟨_,hs,.inl rfl⟩
  ·exact(hs.2 b (Nat.ne_of_lt (Nat.lt_of_lt_of_le (Heap.lt_size e) I.ok.above))).trans (I.base.keep b o e n hb hx)
  ·obtain⟨sl,e1⟩:=I.base.slot b o e n hb hx
   exact⟨sl,(hs.2 b (Nat.ne_of_lt (Nat.lt_of_lt_of_le (Heap.lt_size e) I.ok.above))).trans e1⟩
  ·obtain⟨o',e1⟩:=I.base.there b o e hx
   exact⟨o',(hs.2 b (Nat.ne_of_lt (Nat.lt_of_lt_of_le (Heap.lt_size e) I.ok.above))).trans e1⟩
  ·by_cases hj:j=i
   ·subst hj
    rw[hi] at e1;cases e1
    rw[List.getElem?_set_self Uz] at e2
    cases e2
    exact⟨u,r,.inl ⟨hk,by simp⟩⟩
   ·rw[List.getElem?_set_ne (Ne.symm hj)] at e2
    obtain⟨u',r',q⟩:=hl j y v' e1 e2 e3
    refine⟨u',r',?_⟩
    rcases q with ⟨k,e⟩ | ⟨k,c,e,z⟩
    ·refine .inl ⟨k,?_⟩
     have:y≠x:=λ e=>hj (rA hN e1 (e ▸ hi))
     simp[this,e]
    ·exact .inr ⟨k,c,e,z.sameBut hs (cne y c e)⟩
  ·obtain⟨w',z⟩:=I.cell y c e
   exact⟨w',z.sameBut hs (cne y c e)⟩
  ·obtain⟨e,n,ne,nf,d⟩:=I.pin p hp
   exact⟨(hs.2 p.1 ne).trans e,n,ne,nf,d⟩
 ·have hfn:X.fn x=true:=by
   rcases hf with z | z
   ·exact z
   ·rw[z] at hk;cases hk
  obtain⟨c,hc⟩:=I.ok.has x (.inl hk)
  obtain⟨w',z⟩:=I.cell x c hc
  refine wpAny_storeName_cell I.ok.kind hk hc z (λ h' hc' hs=>?_)
  obtain⟨oc,hoc,Xf⟩:=id z
  refine h { s with heap:=h' } ⟨I.ok,I.os,I.bare,⟨λ b o e n hb hx=>?_,λ b o e n hb hx=>?_,I.base.free,λ b o e hx=>?_,I.base.tups,I.base.frzs,I.base.tbls⟩,⟨m,hn.sameBut hs (Ne.symm (cne x c hc)),λ j y v' e1 e2 e3=>?_⟩,λ y c' e=>?_,I.free,I.freeC,λ p hp=>?_,tracked ⟨oc,hoc,I.freeC x c hc⟩ hs,by simpa using I.len⟩ ⟨c,hs,.inr hc⟩
  ·exact(hs.2 b (Nat.ne_of_lt (Nat.lt_of_lt_of_le (Heap.lt_size e) (I.ok.cab x c hfn hc)))).trans (I.base.keep b o e n hb hx)
  ·obtain⟨sl,e1⟩:=I.base.slot b o e n hb hx
   exact⟨sl,(hs.2 b (Nat.ne_of_lt (Nat.lt_of_lt_of_le (Heap.lt_size e) (I.ok.cab x c hfn hc)))).trans e1⟩
  ·obtain⟨o',e1⟩:=I.base.there b o e hx
   exact⟨o',(hs.2 b (Nat.ne_of_lt (Nat.lt_of_lt_of_le (Heap.lt_size e) (I.ok.cab x c hfn hc)))).trans e1⟩
  ·by_cases hj:j=i
   ·subst hj
    rw[hi] at e1;cases e1
    rw[List.getElem?_set_self Uz] at e2
    cases e2
    exact⟨u,r,.inr ⟨.inl hk,c,hc,hc'⟩⟩
   ·rw[List.getElem?_set_ne (Ne.symm hj)] at e2
    obtain⟨u',r',q⟩:=hl j y v' e1 e2 e3
    refine⟨u',r',?_⟩
    rcases q with q | ⟨k,c',e,z'⟩
    ·exact .inl q
    ·refine .inr ⟨k,c',e,z'.sameBut hs ?_⟩
     rintro rfl
     exact hj (rA hN e1 (I.ok.inj _ _ _ e hc ▸ hi))
  ·by_cases hcc:c'=c
   ·subst hcc;exact⟨_,hc'⟩
   ·obtain⟨w2,z2⟩:=I.cell y c' e
    exact⟨w2,z2.sameBut hs hcc⟩
  ·obtain⟨e,n,ne,nf,d⟩:=I.pin p hp
   refine⟨(hs.2 p.1 ?_).trans e,n,ne,nf,d⟩
   intro q
   rw[q,hoc] at e
   have q':oc=p.2:=Option.some.inj e
   exact d w' (by rw[← q'];exact Xf)
theorem yH {M:Model}{A:Around}{E:Value→Shared→Prop}{i:Nat}{x:Str}{v:V}{u:Value}{Q:Unit→Shared→Prop} (I:Inv X pins σ H s) (hN:X.N.Nodup) (hi:X.N[i]? = some x) (hx:Loc X.env.scope x) (r:RelV v u)
  (h:∀ s',Inv X pins (σ.set i (some v)) H s'→Q () s') (hf:X.fn x=true∨X.env.scope.names.lookup x=some .local:=by first | exact .inl rfl | exact .inr rfl | assumption):wpAny M A (storeName X.env x u) Q E s:=
 u0 I hN hi hx r (λ s' I' _=>h s' I') hf
theorem Inv.call' {s':Shared}{ch:List Addr} (I:Inv X pins σ H s) (ho:s'.os=s.os) (u:Un (frs X.stack) ch H H' s.heap s'.heap) (hok:HOk X.prog X.w H' s'.heap) (hg:AllBare s'.gens)
  (hch:∀ b∈ch,(b∈X.ex∨X.s₀.heap.objs.size≤b)∧b≠X.env.locals∧(∀ x c,X.env.cells.lookup x=some c→c≠b)∧∀ p∈X.pn++pins,p.1≠b):Inv X pins σ H' s':=by
 obtain⟨h',g',d',t',o'⟩:=s'
 have e:o'=s.os:=ho
 subst e
 exact I.call (g':=g') (t':=t') (d':=d') u hok hg hch
end
abbrev XK:=Value→Option Addr→Hp→Prop
abbrev St:=List (Option V)
abbrev VK:=V→Hp→Prop
abbrev TE:=St→Hp→VK→Prop
abbrev TT:=St→Hp→(Bool→Hp→Prop)→Prop
abbrev TA:=St→Hp→(List V→Hp→Prop)→Prop
structure Ends where
 nx:St→Hp→Prop
 rt:VK
 bk:St→Hp→Prop:=λ _ _=>False
 ct:St→Hp→Prop:=λ _ _=>False
abbrev TS:=Ends→St→Hp→Prop
noncomputable def EP (X:Cx) (pins:List (Addr×Obj)) (σ:St) (Q:VK) (u:Value) (s':Shared):Prop:=∃ v H',Inv X pins σ H' s'∧RelV v u∧Q v H'
noncomputable def TP (X:Cx) (pins:List (Addr×Obj)) (σ:St) (Q:Bool→Hp→Prop) (b:Bool) (s':Shared):Prop:=∃ H',Inv X pins σ H' s'∧Q b H'
noncomputable def AP (X:Cx) (pins:List (Addr×Obj)) (σ:St) (Q:List V→Hp→Prop) (us:List Value) (s':Shared):Prop:=∃ vs H',Inv X pins σ H' s'∧Vals vs us∧Q vs H'
noncomputable def SP (X:Cx) (pins:List (Addr×Obj)) (D:Ends) (f:Flow) (s':Shared):Prop:=
 match f with
 | .next=>∃ σ' H',Inv X pins σ' H' s'∧D.nx σ' H'
 | .brk=>∃ σ' H',Inv X pins σ' H' s'∧D.bk σ' H'
 | .cont=>∃ σ' H',Inv X pins σ' H' s'∧D.ct σ' H'
 | .ret u=>∃ v σ' H',Inv X pins σ' H' s'∧RelV v u∧D.rt v H'
noncomputable def PE (X:Cx) (e:Expr) (t:TE):Prop:=
 ∀ (pins:List (Addr×Obj)) (s:Shared) (σ:St) (H:Hp) (Q:VK),Inv X pins σ H s→t σ H Q→wpAny (model X.prog X.w) X.A (eval e X.env) (EP X pins σ Q) X.xe s
noncomputable def PT (X:Cx) (e:Expr) (t:TT):Prop:=
 ∀ (pins:List (Addr×Obj)) (s:Shared) (σ:St) (H:Hp) (Q:Bool→Hp→Prop),Inv X pins σ H s→t σ H Q→wpAny (model X.prog X.w) X.A (isTrue e X.env (eval e X.env)) (TP X pins σ Q) X.xe s
noncomputable def PW (X:Cx) (e:Expr) (t:TT):Prop:=
 ∀ (whole:Sem Value) (pins:List (Addr×Obj)) (s:Shared) (σ:St) (H:Hp) (Q:Bool→Hp→Prop),Inv X pins σ H s→t σ H Q→wpAny (model X.prog X.w) X.A (isTrue e X.env whole) (TP X pins σ Q) X.xe s
theorem PW.pt {X:Cx}{e:Expr}{t:TT} (h:PW X e t):PT X e t:=h _
noncomputable def PA (X:Cx) (es:List Expr) (t:TA):Prop:=
 ∀ (pos:Pos) (pins:List (Addr×Obj)) (s:Shared) (σ:St) (H:Hp) (Q:List V→Hp→Prop),Inv X pins σ H s→t σ H Q→wpAny (model X.prog X.w) X.A (spliced (backTo pos (starEach es X.env))) (AP X pins σ Q) X.xe s
noncomputable def PS (X:Cx) (st:Stmt) (t:TS):Prop:=
 ∀ (pins:List (Addr×Obj)) (s:Shared) (σ:St) (H:Hp) (D:Ends),Inv X pins σ H s→t D σ H→wpAny (model X.prog X.w) X.A (exec st X.env) (SP X pins D) X.xe s
noncomputable def PSs (X:Cx) (st:List Stmt) (t:TS):Prop:=
 ∀ (pins:List (Addr×Obj)) (s:Shared) (σ:St) (H:Hp) (D:Ends),Inv X pins σ H s→t D σ H→wpAny (model X.prog X.w) X.A (execs st X.env) (SP X pins D) X.xe s
theorem cY {α:Type}{t:Sem α}{Q Q':α→Shared→Prop}{M:Model}{A:Around}{E:Value→Shared→Prop}{s:Shared} (h:wpAny M A t Q E s) (hQ:∀ a s,Q a s→Q' a s):wpAny M A t Q' E s:=wpAny_mono h hQ λ _ _ x=>x
end L2
namespace L2
open PySem PySem.Spec PyProof.Rows
section
variable {X:Cx}
noncomputable def G3 (i:Nat):TE:=λ σ H Q=>∃ v,σ[i]? = some (some v)∧Q v H
noncomputable def tC (v:V):TE:=λ _ H Q=>Q v H
theorem pH {i:Nat}{x:Str}{pos:Pos} (hN:X.N[i]? = some x) (hv:Vis X.env.scope x) (hd:(x==("__debug__" : Str))=false:=by decide) (hcd:(x==("__classdict__" : Str))=false:=by decide):PE X (.Name x pos) (G3 i):=by
 intro pins s σ H Q I h
 obtain⟨v,e,h⟩:=h
 obtain⟨m,hn,hl⟩:=I.loc
 obtain⟨u,r,l⟩:=hl i x v hN e hv
 have fin:EP X pins σ Q u s:=⟨v,H,I,r,h⟩
 rcases l with ⟨hk,hm⟩ | ⟨hk,c,hc,hcell⟩
 ·exact wpAny_Name (wpAny_loadName_local I.ok.kind hk hn hm fin) hd
 ·rcases hk with hk | hk
  ·exact wpAny_Name (wpAny_loadName_cell I.ok.kind hk hc hcell fin) hd
  ·exact wpAny_Name (wpAny_loadName_free I.ok.kind hk hc hcell fin hcd) hd
theorem Qq {i j pos}:PE X (.Constant (.int i) j pos) (tC (.int i)):=λ _ _ _ H _ I h=>wpAny_Constant_int ⟨.int i,H,I.tok _,⟨_,rfl⟩,h⟩
theorem UG {b j pos}:PE X (.Constant (.bool b) j pos) (tC (.bl b)):=λ _ _ _ H _ I h=>Constant_bool ⟨.bl b,H,I,rfl,h⟩
theorem Qs {j pos}:PE X (.Constant .none j pos) (tC .non):=λ _ _ _ H _ I h=>Constant_none ⟨.non,H,I,rfl,h⟩
theorem G4 {x j pos}:PE X (.Constant (.str x) j pos) (tC (.str x)):=λ _ _ _ H _ I h=>Calls.Constant_str ⟨.str x,H,I.tok _,⟨_,rfl⟩,h⟩
noncomputable def Gl (X:Cx) (x:Str):Prop:=X.env.kindOf x=some .globalImplicit
theorem oh {E:Value→Shared→Prop}{pins:List (Addr×Obj)}{s:Shared}{σ:St}{H:Hp}{x:Str}{u:Value}{pos:Pos}{Q:Value→Shared→Prop} (I:Inv X pins σ H s) (hg:Gl X x) (hm:X.mg x=some u) (h:Q u s)
  (hd:(x==("__debug__" : Str))=false:=by decide):wpAny (model X.prog X.w) X.A (eval (.Name x pos) X.env) Q E s:=
 Calls.Name_function_global I.ok.kind hg (Calls.loadGlobal_global (by rw[I.ok.glob];exact I.mod.glob.keeps I.bk) hm h) hd
theorem pI {E:Value→Shared→Prop}{pins:List (Addr×Obj)}{s:Shared}{σ:St}{H:Hp}{x:Str}{u:Value}{pos:Pos}{Q:Value→Shared→Prop} (I:Inv X pins σ H s) (hg:Gl X x) (hm:X.mg x=none) (hv:bootBuiltins x=some u) (h:Q u s)
  (hn:x≠"__name__":=by decide) (hd:(x==("__debug__" : Str))=false:=by decide):wpAny (model X.prog X.w) X.A (eval (.Name x pos) X.env) Q E s:=by
 obtain⟨mb,h1,h2⟩:=I.mod.blt
 exact Calls.Name_function_global I.ok.kind hg (Calls.loadGlobal_builtin (by rw[I.ok.glob];exact I.mod.glob.keeps I.bk) hm (by rw[I.ok.blt];exact h1.keeps I.bk) ((h2 x hn).trans hv) h) hd
theorem Di {x:Str}{v:V}{u:Value}{pos:Pos} (hg:Gl X x) (hm:X.mg x=some u) (r:RelV v u) (hd:(x==("__debug__" : Str))=false:=by decide):PE X (.Name x pos) (tC v):=
 λ _ _ _ H _ I h=>oh I hg hm ⟨v,H,I,r,h⟩ hd
theorem K1 {x:Str}{v:V}{u:Value}{pos:Pos} (hg:Gl X x) (hm:X.mg x=none) (hv:bootBuiltins x=some u) (r:RelV v u) (hn:x≠"__name__":=by decide) (hd:(x==("__debug__" : Str))=false:=by decide):PE X (.Name x pos) (tC v):=
 λ _ _ _ H _ I h=>pI I hg hm hv ⟨v,H,I,r,h⟩ hn hd
variable {a b:Expr}{ta tb:TE}{pos:Pos}
noncomputable def tB (t:TE):TT:=λ σ H Q=>t σ H λ x H1=>∃ c,x = .bl c∧Q c H1
theorem Qt {e:Expr}{t:TE} (h:PE X e t) (he:∀ whole,isTrue e X.env whole=(do let v ← whole;standAt e.pos;holding [v] (truthy v)):=by intro _;rfl):PT X e (tB t):=by
 intro pins s σ H Q I hw
 refine isTrue_plain (cY (h pins s σ H _ I hw) λ v s1 ⟨x,H1,I1,r1,q1⟩=>?_) (he _)
 obtain⟨d,rfl,q⟩:=q1
 cases r1
 exact wpAny_truthy_bool ⟨H1,I1,q⟩
variable {tA G5:TT}{rest:List Expr}
noncomputable def Xg (t u:TT):TT:=λ σ H Q=>t σ H λ c H1=>if c=true then u σ H1 Q else Q false H1
noncomputable def Zv (t u:TT):TT:=λ σ H Q=>t σ H λ c H1=>if c=true then Q true H1 else u σ H1 Q
noncomputable def Xh (t:TT):TT:=λ σ H Q=>t σ H λ c H1=>Q (!c) H1
theorem K3 (ha:PT X a tA):PW X (.BoolOp .And [a] pos) tA:=by
 intro wh pins s σ H Q I h
 refine isTrue_and (cY (ha pins s σ H Q I h) λ c s1 e=>?_)
 cases c with
 | true=>exact isTrue_and_nil e
 | false=>exact e
theorem Qu (ha:PT X a tA):PW X (.BoolOp .Or [a] pos) tA:=by
 intro wh pins s σ H Q I h
 refine isTrue_or (cY (ha pins s σ H Q I h) λ c s1 e=>?_)
 cases c with
 | false=>exact isTrue_or_nil e
 | true=>exact e
theorem Qv (ha:PT X a tA) (hb:PW X (.BoolOp .And (b::rest) pos) G5):PW X (.BoolOp .And (a::b::rest) pos) (Xg tA G5):=by
 intro wh pins s σ H Q I h
 refine isTrue_and (cY (ha pins s σ H _ I h) λ c s1 ⟨H1,I1,q1⟩=>?_)
 cases c with
 | true=>exact hb wh pins s1 σ H1 Q I1 q1
 | false=>exact⟨H1,I1,q1⟩
theorem UJ (ha:PT X a tA) (hb:PW X (.BoolOp .Or (b::rest) pos) G5):PW X (.BoolOp .Or (a::b::rest) pos) (Zv tA G5):=by
 intro wh pins s σ H Q I h
 refine isTrue_or (cY (ha pins s σ H _ I h) λ c s1 ⟨H1,I1,q1⟩=>?_)
 cases c with
 | true=>exact⟨H1,I1,q1⟩
 | false=>exact hb wh pins s1 σ H1 Q I1 q1
theorem Qw (ha:PT X a tA):PT X (.UnaryOp .Not a pos) (Xh tA):=by
 intro pins s σ H Q I h
 exact isTrue_not (ha pins s σ H (λ c H1=>Q (!c) H1) I h)
noncomputable def Zw (t:TT) (ta tb:TE):TE:=λ σ H Q=>t σ H λ c H1=>if c=true then ta σ H1 Q else tb σ H1 Q
theorem G6 {c:Expr} (hc:PT X c tA) (ha:PE X a ta) (hb:PE X b tb):PE X (.IfExp c a b pos) (Zw tA ta tb):=by
 intro pins s σ H Q I h
 refine wpAny_IfExp (cY (hc pins s σ H _ I h) λ d s1 ⟨H1,I1,q1⟩=>?_)
 cases d with
 | true=>exact ha pins s1 σ H1 Q I1 q1
 | false=>exact hb pins s1 σ H1 Q I1 q1
end
end L2
namespace L2
open PySem PySem.Spec PyProof.Rows
noncomputable def SqL (K:W.Frag) (H:Hp) (a:Addr) (xs:List V):Prop:=
 Rd H a (.lst xs) ∨
  ∃ (o:Obj) (its:Array Value) (n:Nat),K.lookup a=some o∧o.cls = .type "list"∧o.dict=none∧o.data = .seq its n∧its.size≤sizeLine∧Vals xs its.toList
noncomputable def qJ (K:W.Frag) (H:Hp) (a:Addr) (xs:List V):Prop:=
 Rd H a (.tup xs) ∨
  ∃ (o:Obj) (its:Array Value) (n:Nat),K.lookup a=some o∧o.cls = .type "tuple"∧o.data = .seq its n∧its.size≤sizeLine∧Vals xs its.toList
noncomputable def Xi:Value→Option V
 | .none=>some .non
 | .bool b=>some (.bl b)
 | .int i _=>some (.int i)
 | .str x _=>some (.str x)
 | .bytes b _=>some (.byt b)
 | .float b _=>some (.flt b)
 | .ref a=>some (.ref a)
 | .type n=>some (.ty n)
 | _=>none
theorem RelV.abs {x:V}{u:Value} (r:RelV x u):Xi u=some x:=by
 cases x with
 | non=>cases r;rfl
 | bl _=>cases r;rfl
 | int _=>obtain⟨t,rfl⟩:=r;rfl
 | str _=>obtain⟨t,rfl⟩:=r;rfl
 | byt _=>obtain⟨t,rfl⟩:=r;rfl
 | flt _=>obtain⟨t,rfl⟩:=r;rfl
 | ref _=>cases r;rfl
 | ty _=>cases r;rfl
theorem RelV.inj {x y:V}{u:Value} (r:RelV x u) (q:RelV y u):x=y:=Option.some.inj (r.abs.symm.trans q.abs)
theorem Vals.inj:∀ {xs ys:List V}{us:List Value},Vals xs us→Vals ys us→xs=ys
 | _,_,_,.nil,.nil=>rfl
 | _,_,_,.cons r t,.cons r' t'=>by rw[r.inj r',Vals.inj t t']
section
variable {X:Cx}{pins:List (Addr×Obj)}{σ:St}{H:Hp}{s:Shared}{a:Addr}{xs ys:List V}
theorem SqL.of {K:W.Frag} (h:H a=some (.lst xs)):SqL K H a xs:=.inl (.inl h)
theorem Inv.list (I:Inv X pins σ H s) (h:SqL X.K H a xs):∃ its:List Value,Vals xs its∧PlainL s.heap a its.toArray∧xs.length≤sizeLine:=by
 rcases h with h | ⟨o,its,n,hk,hc,hd,hs,hz,r⟩
 ·obtain⟨z,its,n,r,e⟩:=h.ok I.hok
  exact⟨its,r,⟨_,n,e,rfl,rfl,rfl⟩,z⟩
 ·refine⟨its.toList,r,⟨o,n,I.kIn a o hk,hc,hd,by simpa using hs⟩,?_⟩
  have e:=r.length
  simp only [Array.length_toList] at e
  omega
theorem Inv.tuple (I:Inv X pins σ H s) (h:qJ X.K H a xs):∃ its:List Value,Vals xs its∧IsTup s.heap a its.toArray∧xs.length≤sizeLine:=by
 rcases h with h | ⟨o,its,n,hk,hc,hs,hz,r⟩
 ·obtain⟨z,its,r,p⟩:=h.ok I.hok
  exact⟨its,r,p,z⟩
 ·refine⟨its.toList,r,⟨o,I.kIn a o hk,hc,n,by simpa using hs⟩,?_⟩
  have e:=r.length
  simp only [Array.length_toList] at e
  omega
theorem Inv.list_inj (I:Inv X pins σ H s) (h:SqL X.K H a xs) (h':SqL X.K H a ys):xs=ys:=by
 obtain⟨its,r,⟨o,n,e,_,_,d⟩,_⟩:=I.list h
 obtain⟨its',r',⟨o',n',e',_,_,d'⟩,_⟩:=I.list h'
 rw[e] at e';cases e'
 rw[d] at d'
 injection d' with d1 _
 have:its=its':=by simpa using congrArg Array.toList d1
 subst this
 exact r.inj r'
theorem Inv.tuple_inj (I:Inv X pins σ H s) (h:qJ X.K H a xs) (h':qJ X.K H a ys):xs=ys:=by
 obtain⟨its,r,⟨o,e,_,n,d⟩,_⟩:=I.tuple h
 obtain⟨its',r',⟨o',e',_,n',d'⟩,_⟩:=I.tuple h'
 rw[e] at e';cases e'
 rw[d] at d'
 injection d' with d1 _
 have:its=its':=by simpa using congrArg Array.toList d1
 subst this
 exact r.inj r'
end
abbrev Cx.wish (X:Cx) (E:Value→Shared→Prop):Cx:={ X with xe:=E }
abbrev Cx.nox (X:Cx):Cx:=X.wish λ _ _=>False
theorem Cx.Ok.wish {X:Cx} (ok:X.Ok) (E:Value→Shared→Prop):(X.wish E).Ok:=
 ⟨ok.mod,ok.kind,ok.glob,ok.blt,ok.above,ok.inj,ok.has,ok.cab,ok.hd,ok.frames,ok.stk,ok.exf,ok.bs,ok.bsz,ok.noex,ok.exfs,ok.funs,ok.frf⟩
theorem Cx.Ok.unwish {X:Cx}{E:Value→Shared→Prop} (ok:(X.wish E).Ok):X.Ok:=
 ⟨ok.mod,ok.kind,ok.glob,ok.blt,ok.above,ok.inj,ok.has,ok.cab,ok.hd,ok.frames,ok.stk,ok.exf,ok.bs,ok.bsz,ok.noex,ok.exfs,ok.funs,ok.frf⟩
section
variable {X:Cx}{pins:List (Addr×Obj)}{σ:St}{H:Hp}{s:Shared}{E:Value→Shared→Prop}
theorem Inv.wish (I:Inv X pins σ H s) (E:Value→Shared→Prop):Inv (X.wish E) pins σ H s:=⟨I.ok.wish E,I.os,I.bare,I.base,I.loc,I.cell,I.free,I.freeC,I.pin,I.hok,I.len⟩
theorem Inv.unwish (I:Inv (X.wish E) pins σ H s):Inv X pins σ H s:=⟨I.ok.unwish,I.os,I.bare,I.base,I.loc,I.cell,I.free,I.freeC,I.pin,I.hok,I.len⟩
theorem SP.unwish {D:Ends}{f:Flow}{s':Shared} (h:SP (X.wish E) pins D f s'):SP X pins D f s':=by
 cases f with
 | next=>obtain⟨σ',H',I,q⟩:=h;exact⟨σ',H',I.unwish,q⟩
 | brk=>obtain⟨σ',H',I,q⟩:=h;exact⟨σ',H',I.unwish,q⟩
 | cont=>obtain⟨σ',H',I,q⟩:=h;exact⟨σ',H',I.unwish,q⟩
 | ret u=>obtain⟨v,σ',H',I,r,q⟩:=h;exact⟨v,σ',H',I.unwish,r,q⟩
theorem PSs.nox {st:List Stmt}{t:TS} (h:PSs X.nox st t):PSs X st t:=λ pins s σ H D I hw=>
 wpAny_mono (h pins s σ H D (I.wish _) hw) (λ _ _ q=>q.unwish) λ _ _ z=>False.elim z
end
section
variable {X:Cx}{st:Stmt}{rest:List Stmt}{t u:TS}{e:Expr}{te:TE}{pos:Pos}
noncomputable def UL:TS:=λ D σ H=>D.nx σ H
noncomputable def Qx (t u:TS):TS:=λ D σ H=>t { D with nx:=u D } σ H
theorem Dj:PSs X [] UL:=λ _ _ σ H _ I h=>wpAny_execs_nil ⟨σ,H,I,h⟩
theorem ou (h1:PS X st t) (h2:PSs X rest u):PSs X (st::rest) (Qx t u):=by
 intro pins s σ H D I h
 refine wpAny_execs_cons (cY (h1 pins s σ H { D with nx:=u D } I h) λ f s1 q=>?_)
 cases f with
 | next=>
  obtain⟨σ',H',I',q⟩:=q
  exact h2 pins s1 σ' H' D I' q
 | ret v=>exact q
 | brk=>exact q
 | cont=>exact q
theorem Dk (h1:PS X st t):PSs X [st] t:=by
 intro pins s σ H D I h
 refine wpAny_execs_cons (cY (h1 pins s σ H D I h) λ f s1 q=>?_)
 cases f with
 | next=>exact wpAny_execs_nil q
 | ret v=>exact q
 | brk=>exact q
 | cont=>exact q
theorem Inv.quiet {pins:List (Addr×Obj)}{σ:St}{H:Hp}{s:Shared} (I:Inv X pins σ H s):interactive X.env=false:=by simp[interactive,I.ok.kind]
noncomputable def Og (te:TE):TS:=λ D σ H=>te σ H λ _ H1=>D.nx σ H1
theorem Dl (he:PE X e te) (hs:swapsWith e none pos.line X.env=pure false:=by rfl):PS X (.Expr e pos) (Og te):=by
 intro pins s σ H D I h
 exact wpAny_Expr_any (cY (he pins s σ H _ I h) λ v s1 ⟨x,H1,I1,r1,q1⟩=>⟨σ,H1,I1,q1⟩) I.quiet hs
noncomputable def Xj (te:TE):TS:=λ D σ H=>te σ H D.rt
theorem G7 (he:PE X e te):PS X (.Return (some e) pos) (Xj te):=by
 intro pins s σ H D I h
 exact wpAny_Return_some (cY (he pins s σ H _ I h) λ v s1 ⟨x,H1,I1,r1,q1⟩=>⟨x,σ,H1,I1,r1,q1⟩)
noncomputable def Xk (c:TT) (t u:TS):TS:=λ D σ H=>c σ H λ b H1=>if b=true then t D σ H1 else u D σ H1
theorem Oh {c:Expr}{a b:List Stmt}{tc:TT} (hc:PT X c tc) (ha:PSs X a t) (hb:PSs X b u):PS X (.If c a b pos) (Xk tc t u):=by
 intro pins s σ H D I h
 refine wpAny_If (cY (hc pins s σ H _ I h) λ d s1 ⟨H1,I1,q1⟩=>?_)
 cases d with
 | true=>exact ha pins s1 σ H1 D I1 q1
 | false=>exact hb pins s1 σ H1 D I1 q1
end
abbrev TG:=V→St→Hp→(St→Hp→Prop)→Prop
abbrev TGs:=List V→St→Hp→(St→Hp→Prop)→Prop
noncomputable def PG (X:Cx) (target:Expr) (t:TG):Prop:=
 ∀ (pins:List (Addr×Obj)) (s:Shared) (σ:St) (H:Hp) (v:V) (u:Value) (Q:St→Hp→Prop),Inv X pins σ H s→RelV v u→t v σ H Q →
  wpAny (model X.prog X.w) X.A (assign target X.env u) (λ _ s'=>∃ σ' H',Inv X pins σ' H' s'∧Q σ' H') X.xe s
noncomputable def PGs (X:Cx) (ts:List Expr) (t:TGs):Prop:=
 ∀ (pins:List (Addr×Obj)) (s:Shared) (σ:St) (H:Hp) (vs:List V) (us:List Value) (Q:St→Hp→Prop),Inv X pins σ H s→Vals vs us→t vs σ H Q →
  wpAny (model X.prog X.w) X.A (assignInOrder ((assignEach ts X.env).map (·.2)) us) (λ _ s'=>∃ σ' H',Inv X pins σ' H' s'∧Q σ' H') X.xe s
abbrev Qy:=V→V→V→Hp→(Hp→Prop)→Prop
noncomputable def UW (X:Cx) (t:Qy):Prop:=
 ∀ (pins:List (Addr×Obj)) (s:Shared) (σ:St) (H:Hp) (o i v:V) (ov iv u:Value) (Q:Hp→Prop),Inv X pins σ H s→RelV o ov→RelV i iv→RelV v u→t o i v H Q →
  wpAny (model X.prog X.w) X.A (setItem ov iv u) (λ _ s'=>∃ H',Inv X pins σ H' s'∧Q H') X.xe s
section
variable {X:Cx}{pos:Pos}
noncomputable def Oi (i:Nat):TG:=λ v σ H Q=>Q (σ.set i (some v)) H
theorem K4 {i:Nat}{x:Str} (hN:X.N.Nodup) (hi:X.N[i]? = some x) (hx:Loc X.env.scope x) (hf:X.fn x=true∨X.env.scope.names.lookup x=some .local:=by first | exact .inl rfl | exact .inr rfl | assumption):PG X (.Name x pos) (Oi i):=by
 intro pins s σ H v u Q I r h
 exact wpAny_assign_Name (yH I hN hi hx r (λ s' I'=>⟨_,H,I',h⟩) hf)
noncomputable def Xl:TGs:=λ vs σ H Q=>vs=[]∧Q σ H
noncomputable def U0 (t:TG) (u:TGs):TGs:=λ vs σ H Q=>∃ v r,vs=v::r∧t v σ H λ σ' H'=>u r σ' H' Q
theorem K5:PGs X [] Xl:=by
 intro pins s σ H vs us Q I r h
 obtain⟨e,h⟩:=h
 subst e
 cases r
 exact assignInOrder_nil ⟨σ,H,I,h⟩
theorem G8 {e:Expr}{es:List Expr}{t:TG}{u:TGs} (h1:PG X e t) (h2:PGs X es u)
  (hs:(assignEach (e::es) X.env).map (·.2)=assign e X.env::(assignEach es X.env).map (·.2):=by rfl):PGs X (e::es) (U0 t u):=by
 intro pins s σ H vs us Q I r h
 obtain⟨v,vr,e1,h⟩:=h
 subst e1
 cases r with
 | cons r rr=>
  rw[hs]
  refine assignInOrder_cons (cY (h1 pins s σ H _ _ _ I r h) λ _ s1 ⟨σ1,H1,I1,q1⟩=>?_)
  exact h2 pins s1 σ1 H1 _ _ Q I1 rr q1
noncomputable def Xm (K:W.Frag) (n:Nat) (t:TGs):TG:=λ v σ H Q=>∃ a xs,v = .ref a∧qJ K H a xs∧xs.length=n∧t xs σ H Q
theorem Qz {es:List Expr}{k:Nat}{t:TGs}{n:Nat} (hc:X.calm=true) (h:PGs X es t)
  (hn:(assignEach es X.env).length=n:=by rfl) (hst:(assignEach es X.env).findIdx? (·.1)=none:=by rfl):PG X (.Tuple es k pos) (Xm X.K n t):=by
 intro pins s σ H v u Q I r hw
 obtain⟨a,xs,e1,hq,hl,hw⟩:=hw
 subst e1
 cases r
 obtain⟨its,rv,ht,hz⟩:=I.tuple hq
 refine assign_Tuple_tuple (I.ok.hd hc) ht (by simp[hn,← hl,rv.length]) hst λ h' hx=>?_
 have I1:Inv X pins σ H { s with heap:=h' }:=I.kept (t':=s.toks) λ b o e=>hx b o (Nat.ne_of_lt (Heap.lt_size e)) e
 exact h pins _ σ H xs _ Q I1 (by simpa using rv) hw
noncomputable def Xn (to ti:TE) (t:Qy):TG:=λ v σ H Q=>to σ H λ o H1=>ti σ H1 λ i H2=>t o i v H2 λ H3=>Q σ H3
theorem QC {o i:Expr}{to ti:TE}{t:Qy} (ho:PE X o to) (hi:PE X i ti) (hs:UW X t)
  (ha:∀ v,assign (.Subscript o i pos) X.env v=(do
   let ov ← holding [v] (eval o X.env)
   let iv ← holding [v,ov] (eval i X.env)
   standAt pos
   holding [v,ov,iv] (setItem ov iv v)
   release [v,ov,iv] []):=by intro _;rfl):PG X (.Subscript o i pos) (Xn to ti t):=by
 intro pins s σ H v u Q I r h
 rw[ha]
 refine wpAny_bind (wpAny_holding (cY (ho pins s σ H _ I h) λ ov s1 ⟨x,H1,I1,r1,q1⟩=>?_))
 refine wpAny_bind (wpAny_holding (cY (hi pins s1 σ H1 _ I1 q1) λ iv s2 ⟨y,H2,I2,r2,q2⟩=>?_))
 refine wpAny_bind (wpAny_standAt (wpAny_bind (wpAny_holding (cY (hs pins s2 σ H2 x y v ov iv u _ I2 r1 r2 r q2) λ _ s3 ⟨H3,I3,q3⟩=>?_))))
 exact wpAny_release ⟨σ,H3,I3,q3⟩
noncomputable def U3 (te:TE) (g:TG):TS:=λ D σ H=>te σ H λ x H1=>g x σ H1 D.nx
theorem QD {tg e:Expr}{te:TE}{g:TG} (he:PE X e te) (hg:PG X tg g) (hs:swapsWithSole [tg] e pos.line X.env=pure false:=by rfl) (hw:swappedStores [tg] e X.env=pure none:=by rfl)
  (h1:(assignEach [tg] X.env).map (·.2)=[assign tg X.env]:=by rfl):PS X (.Assign [tg] e pos) (U3 te g):=by
 intro pins s σ H D I h
 refine wpAny_Assign_stores (cY (he pins s σ H _ I h) λ v s1 ⟨x,H1,I1,r1,q1⟩=>?_) hs hw
 rw[h1]
 exact cY (hg pins s1 σ H1 x v _ I1 r1 q1) λ _ s2 q=>q
theorem G9 {i:Nat}{x:Str}{e:Expr}{te:TE}{pos':Pos} (hN:X.N.Nodup) (hi:X.N[i]? = some x) (hx:Loc X.env.scope x) (he:PE X e te) (hs:swapsWith e (some (.Name x pos')) pos.line X.env=pure false:=by rfl) (hf:X.fn x=true∨X.env.scope.names.lookup x=some .local:=by first | exact .inl rfl | exact .inr rfl | assumption) :
  PS X (.Assign [.Name x pos'] e pos) (U3 te (Oi i)):=by
 intro pins s σ H D I h
 refine wpAny_Assign_Name (cY (he pins s σ H _ I h) λ v s1 ⟨y,H1,I1,r1,q1⟩=>?_) hs
 exact yH I1 hN hi hx r1 (λ s2 I2=>⟨_,H1,I2,q1⟩) hf
end
section
variable {X:Cx}{pos:Pos}
end
structure It where
 go:Nat→Hp→Prop
 yld:Nat→Hp→V→Hp→Prop
 stop:Nat→Hp→Prop
noncomputable def FpOk (X:Cx) (pins:List (Addr×Obj)) (H:Hp) (b:Addr):Prop:=
 H b=none∧b≠X.env.locals∧b ∉ X.fs∧(b∈X.ex∨X.s₀.heap.objs.size≤b)∧(∀ x c,X.env.cells.lookup x=some c→c≠b)∧∀ p∈X.pn++pins,p.1≠b
theorem Inv.fpOk {X:Cx}{pins:List (Addr×Obj)}{σ:St}{H H':Hp}{s:Shared}{b:Addr} (I:Inv X pins σ H s) (hb:s.heap.objs.size≤b) (hn:H' b=none):FpOk X pins H' b:=by
 refine⟨hn,Nat.ne_of_gt (Nat.lt_of_lt_of_le I.lt hb),I.nofs hb,.inr (Nat.le_trans I.sz hb),λ x c e z=>?_,λ p hp z=>?_⟩
 ·obtain⟨v,q⟩:=I.cell x c e
  exact absurd (Nat.lt_of_lt_of_le q.lt (by rw[z];exact hb)) (Nat.lt_irrefl _)
 ·exact absurd (Nat.lt_of_lt_of_le (Heap.lt_size (I.pin p hp).1) (by rw[z];exact hb)) (Nat.lt_irrefl _)
structure Turn (P:Program) (w:World) (K:W.Frag) (tg:Expr) (J:It) (fp:List Addr) (it:Addr) (tn:Nat→Heap→Prop):Prop where
 mem:it∈fp
 obj:∀ i h,tn i h→∀ b∈fp,∃ o,h.get? b=some o∧∀ v,o.data≠.cell v
 keep:∀ i h h',tn i h→(∀ b∈fp,∀ o,h.get? b=some o→h'.get? b=some o)→tn i h'
 item:∀ (X:Cx),X.prog=P→X.w=w→X.K=K→X.calm=true→∀ (i:Nat) (pins:List (Addr×Obj)) (s:Shared) (σ:St) (H:Hp) (E:Value→Shared→Prop),Inv X pins σ H s→(∀ b∈fp,FpOk X pins H b)→tn i s.heap→J.go i H →
  wpAny (model P w) X.A (pyNext (.ref it)) (λ r s1=>∃ u,r=some u ∧
   wpAny (model P w) X.A (letOwnedTupleGo tg (.ref it) u) (λ _ s2=>∃ x H',Inv X pins σ H' s2∧RelV x u∧J.yld i H x H'∧tn (i+1) s2.heap∧∀ b∈fp,H' b=none) E s1) E s
 done:∀ (X:Cx),X.prog=P→X.w=w→X.K=K→X.calm=true→∀ (i:Nat) (pins:List (Addr×Obj)) (s:Shared) (σ:St) (H:Hp) (E:Value→Shared→Prop),Inv X pins σ H s→(∀ b∈fp,FpOk X pins H b)→tn i s.heap→J.stop i H →
  wpAny (model P w) X.A (pyNext (.ref it)) (λ r s1=>r=none∧Inv X pins σ H s1) E s
 self:∀ (A:Around) (i:Nat) (s:Shared) (Q:Value→Shared→Prop) (E:Value→Shared→Prop),tn i s.heap→Q (.ref it) s→wpAny (model P w) A (pyIter (.ref it)) Q E s
abbrev TI:=St→Hp→(It→Hp→Prop)→Prop
noncomputable def PIE (X:Cx) (pins:List (Addr×Obj)) (σ:St) (tg:Expr) (R:It→Hp→Prop) (itv:Value) (s2:Shared):Prop:=
 ∃ (it:Addr) (fp:List Addr) (tn:Nat→Heap→Prop) (J:It) (H':Hp),itv = .ref it∧Inv X pins σ H' s2∧Turn X.prog X.w X.K tg J fp it tn∧tn 0 s2.heap∧(∀ b∈fp,FpOk X pins H' b)∧R J H'
noncomputable def PI (X:Cx) (tg iter:Expr) (wi:TI):Prop:=
 ∀ (pins:List (Addr×Obj)) (s:Shared) (σ:St) (H:Hp) (R:It→Hp→Prop),Inv X pins σ H s→wi σ H R →
  wpAny (model X.prog X.w) X.A (eval iter X.env) (λ v s1=>wpAny (model X.prog X.w) X.A (pyIter v) (PIE X pins σ tg R) X.xe s1) X.xe s
theorem u5 {M:Model}{A:Around}{E:Value→Shared→Prop}{s:Shared}{tg:Expr}{it:Addr}{u:Value}{o:Obj}{n:String}{vs:Array Value}{Q:Unit→Shared→Prop} (ho:s.heap.get? it=some o) (hc:o.cls = .type n) (hd:o.data = .fields vs)
  (hn:["enumerate","zip","dict_itemiterator","dict_reverseitemiterator","odict_iterator","itertools.zip_longest","itertools.pairwise"].contains n=false) (hQ:Q () s):wpAny M A (letOwnedTupleGo tg (.ref it) u) Q E s:=by
 unfold letOwnedTupleGo
 cases tg <;> first
  | exact wpAny_pure hQ
  | (cases u <;> first
    | exact wpAny_pure hQ
    | (refine wpAny_bind (wpAny_load ho ?_)
       rw[hc,hd]
       show wpAny M A (if (["enumerate","zip","dict_itemiterator","dict_reverseitemiterator","odict_iterator","itertools.zip_longest","itertools.pairwise"].contains n&&vs[0]? == some (rawInt _))=true then _ else _) Q E s
       rw[if_neg (by intro h;rw[hn,Bool.false_and] at h;cases h)]
       exact wpAny_pure hQ))
noncomputable def Y6 (K:W.Frag) (a:Addr):It:=
 ⟨λ i H=>∃ xs x,SqL K H a xs∧xs[i]? = some x,λ i H x H'=>H'=H∧∀ xs,SqL K H a xs→xs[i]? = some x,λ i H=>∃ xs,SqL K H a xs∧xs.length≤i⟩
noncomputable def Y7 (K:W.Frag) (a:Addr):It:=
 ⟨λ i H=>∃ xs x,qJ K H a xs∧xs[i]? = some x,λ i H x H'=>H'=H∧∀ xs,qJ K H a xs→xs[i]? = some x,λ i H=>∃ xs,qJ K H a xs∧xs.length≤i⟩
noncomputable def U4 (lo:Int) (n:Nat):It:=⟨λ i _=>i < n,λ i H x H'=>H'=H∧x = .int (lo+i),λ i _=>n≤i⟩
theorem Fb {P:Program}{w:World}{K:W.Frag}{tg:Expr} (a it:Addr):Turn P w K tg (Y6 K a) [it] it (λ i h=>h.IsListIter it a i) where
 mem:=by simp
 obj:=λ i h st b hb=>by
  have e:b=it:=by simpa using hb
  subst e
  obtain⟨o,e,c,d⟩:=st
  exact⟨o,e,λ v z=>by rw[d] at z;cases z⟩
 keep:=λ i h h' st k=>st.at λ o e=>k it (by simp) o e
 item:=by
  intro X hP hw hK hc i pins s σ H E I hf st hg
  subst hP hw hK
  obtain⟨xs,x,hq,hx⟩:=hg
  obtain⟨its,rv,p,hz⟩:=I.list hq
  obtain⟨u,hu,ru⟩:=rv.get hx
  obtain⟨f0,f1,f2,f3,f4,f5⟩:=hf it (by simp)
  refine wpAny_pyNext_list_item st p.isList (x:=u) (by simpa using hu) λ h' st' sb=>?_
  have I1:Inv X pins σ H { s with heap:=h' }:=I.turned (t':=s.toks) (λ b o hb e=>(sb.2 b hb).trans e) f0 f1 f3 f4 f5
  obtain⟨o,e,c,d⟩:=id st'
  exact⟨u,rfl,u5 (s:={ s with heap:=h' }) e c d (by decide) ⟨x,H,I1,ru,⟨rfl,λ ys hy=>by rw[I.list_inj hy hq];exact hx⟩,st',λ b hb=>(hf b hb).1⟩⟩
 done:=by
  intro X hP hw hK hc i pins s σ H E I hf st hg
  subst hP hw hK
  obtain⟨xs,hq,hx⟩:=hg
  obtain⟨its,rv,p,hz⟩:=I.list hq
  obtain⟨f0,f1,f2,f3,f4,f5⟩:=hf it (by simp)
  have hl:=rv.length
  exact wpAny_pyNext_list_end (I.ok.hd hc) st p.isList (by simp;omega) λ h' eb=>⟨rfl,I.turned (t':=s.toks) (λ b o hb e=>eb b o hb e) f0 f1 f3 f4 f5⟩
 self:=λ _ _ _ _ _ st h=>wpAny_pyIter_listiter st h
theorem Bl {P:Program}{w:World}{K:W.Frag}{tg:Expr} (a it:Addr):Turn P w K tg (Y7 K a) [it] it (λ i h=>h.IsTupleIter it a i) where
 mem:=by simp
 obj:=λ i h st b hb=>by
  have e:b=it:=by simpa using hb
  subst e
  obtain⟨o,e,c,d⟩:=st
  exact⟨o,e,λ v z=>by rw[d] at z;cases z⟩
 keep:=λ i h h' st k=>st.at λ o e=>k it (by simp) o e
 item:=by
  intro X hP hw hK hc i pins s σ H E I hf st hg
  subst hP hw hK
  obtain⟨xs,x,hq,hx⟩:=hg
  obtain⟨its,rv,p,hz⟩:=I.tuple hq
  obtain⟨u,hu,ru⟩:=rv.get hx
  obtain⟨f0,f1,f2,f3,f4,f5⟩:=hf it (by simp)
  refine wpAny_pyNext_tuple_item st (show s.heap.IsTuple a its.toArray from p) (x:=u) (by simpa using hu) λ h' st' sb=>?_
  have I1:Inv X pins σ H { s with heap:=h' }:=I.turned (t':=s.toks) (λ b o hb e=>(sb.2 b hb).trans e) f0 f1 f3 f4 f5
  obtain⟨o,e,c,d⟩:=id st'
  exact⟨u,rfl,u5 (s:={ s with heap:=h' }) e c d (by decide) ⟨x,H,I1,ru,⟨rfl,λ ys hy=>by rw[I.tuple_inj hy hq];exact hx⟩,st',λ b hb=>(hf b hb).1⟩⟩
 done:=by
  intro X hP hw hK hc i pins s σ H E I hf st hg
  subst hP hw hK
  obtain⟨xs,hq,hx⟩:=hg
  obtain⟨its,rv,p,hz⟩:=I.tuple hq
  obtain⟨f0,f1,f2,f3,f4,f5⟩:=hf it (by simp)
  have hl:=rv.length
  exact wpAny_pyNext_tuple_end (I.ok.hd hc) st (show s.heap.IsTuple a its.toArray from p) (by simp;omega) λ h' eb=>⟨rfl,I.turned (t':=s.toks) (λ b o hb e=>eb b o hb e) f0 f1 f3 f4 f5⟩
 self:=λ _ _ _ _ _ st h=>wpAny_pyIter_tupleiter st h
theorem Bm {P:Program}{w:World}{K:W.Frag}{tg:Expr} (it:Addr) (lo:Int) (n:Nat):Turn P w K tg (U4 lo n) [it] it (λ i h=>IsRangeIter h it (lo+(i:Nat) * 1) ((n:Int) - (i:Nat)) 1) where
 mem:=by simp
 obj:=λ i h st b hb=>by
  have e:b=it:=by simpa using hb
  subst e
  exact⟨_,st,λ v z=>by
   have z':Data.fields _=Data.cell v:=z
   cases z'⟩
 keep:=λ i h h' st k=>k it (by simp) _ st
 item:=by
  intro X hP hw hK hc i pins s σ H E I hf st hg
  subst hP hw hK
  obtain⟨f0,f1,f2,f3,f4,f5⟩:=hf it (by simp)
  have W:=Walks.range (prog:=X.prog) (w:=X.w) (I.ok.hd hc) it lo 1 n
  refine W.item i s _ _ hg st λ v h' tk hv st' kk=>?_
  obtain⟨t,rfl⟩:=hv
  have I1:Inv X pins σ H { s with heap:=h',toks:=tk }:=I.turned (λ b o hb e=>kk b o (by simpa using hb) e) f0 f1 f3 f4 f5
  refine⟨_,rfl,u5 (s:={ s with heap:=h',toks:=tk }) (n:="range_iterator") st' rfl rfl (by decide) ⟨.int (lo+i),H,I1,⟨t,?_⟩,⟨rfl,rfl⟩,st',λ b hb=>(hf b hb).1⟩⟩
  rw[Int.mul_one]
 done:=by
  intro X hP hw hK hc i pins s σ H E I hf st hg
  subst hP hw hK
  obtain⟨f0,f1,f2,f3,f4,f5⟩:=hf it (by simp)
  exact wpAny_pyNext_range_end (I.ok.hd hc) st (by have:n≤i:=hg;omega) λ h' eb=>⟨rfl,I.turned (t':=s.toks) (λ b o hb e=>eb b o hb e) f0 f1 f3 f4 f5⟩
 self:=λ _ _ _ _ _ st h=>wpAny_pyIter_rangeiter st h
end L2
namespace L2
open PySem PySem.Spec PyProof.Rows
section
variable {X:Cx}{tg:Expr}
theorem yI {pins:List (Addr×Obj)}{σ:St}{H:Hp}{s:Shared}{R:It→Hp→Prop}{E:Value→Shared→Prop}{lo hi:Int}{t u v:Tok}{tk:Nat} (I:Inv X pins σ H s) (h1 : -(2 ^ 62)≤lo) (h2:lo < 2 ^ 62) (h3 : -(2 ^ 62)≤hi) (h4:hi < 2 ^ 62)
  (q:R (U4 lo (hi - lo).toNat) H):wpAny (model X.prog X.w) X.A (pyIter (.ref s.heap.objs.size)) (PIE X pins σ tg R) E { s with heap:=s.heap.push { cls:=.type "range",data:=.fields #[.int lo t,.int hi u,.int 1 v] },toks:=tk }:=by
 refine wpAny_pyIter_range (IsRange.new ..) (small_one h1 h2 h3 h4) ?_
 have I1:Inv X pins σ H { s with heap:=s.heap.push { cls:=.type "range",data:=.fields #[.int lo t,.int hi u,.int 1 v] },toks:=tk }:=I.kept λ b o e=>Heap.get?_push_of_some _ e
 refine⟨(s.heap.push { cls:=.type "range",data:=.fields #[.int lo t,.int hi u,.int 1 v] }).objs.size,[(s.heap.push { cls:=.type "range",data:=.fields #[.int lo t,.int hi u,.int 1 v] }).objs.size],_,_,H,rfl,
  I1.kept (t':=tk) λ b o e=>Heap.get?_push_of_some _ e,Bm _ lo (hi - lo).toNat,?_,λ b hb=>?_,q⟩
 ·have e1:lo+((0:Nat):Int) * 1=lo:=by simp
  have e2:(((hi - lo).toNat:Nat):Int) - ((0:Nat):Int)=Builtin.Range.rangeSize lo hi 1:=by rw[rangeSize_one];split <;> omega
  show IsRangeIter _ _ (lo+((0:Nat):Int) * 1) ((((hi - lo).toNat:Nat):Int) - ((0:Nat):Int)) 1
  rw[e1,e2]
  exact Heap.get?_push_size _ rfl
 ·have e:b=(s.heap.push { cls:=.type "range",data:=.fields #[.int lo t,.int hi u,.int 1 v] }).objs.size:=by simpa using hb
  subst e
  exact I1.fpOk (Nat.le_refl _) (I1.hok.fresh (Nat.le_refl _))
noncomputable def U5 (ta:TA):TI:=λ σ H R=>ta σ H λ vs H1=>∃ j:Int,vs=[.int j]∧-(2 ^ 62)≤j∧j < 2 ^ 62∧R (U4 0 j.toNat) H1
noncomputable def U6 (ta:TA):TI:=λ σ H R=>ta σ H λ vs H1=>∃ i j:Int,vs=[.int i,.int j]∧(-(2 ^ 62)≤i∧i < 2 ^ 62∧-(2 ^ 62)≤j∧j < 2 ^ 62)∧R (U4 i (j - i).toNat) H1
theorem Fd {a:Expr}{ta:TA}{p pos:Pos} (hg:Gl X "range") (hm:X.mg "range"=none) (ha:PA X [a] ta) (hs:starEach [a] X.env=[(false,eval a X.env)]:=by rfl):PI X tg (.Call (.Name "range" p) [a] [] pos) (U5 ta):=by
 intro pins s σ H R I h
 refine Call_ (pI I hg hm boot_range (PyProof.Rows.callWith_type1 (cY (ha pos pins s σ H _ I h) λ us s1 ⟨vs,H1,I1,r1,q1⟩=>?_) hs rfl))
 obtain⟨j,e,q1,q2,q⟩:=q1
 subst e
 cases r1 with
 | cons r rr=>
  cases rr
  obtain⟨t,rfl⟩:=r
  exact call_range_1 (yI I1 (by omega) (by omega) q1 q2 (by simpa using q))
theorem Fe {a b:Expr}{ta:TA}{p pos:Pos} (hg:Gl X "range") (hm:X.mg "range"=none) (ha:PA X [a,b] ta) (hs:starEach [a,b] X.env=[(false,eval a X.env),(false,eval b X.env)]:=by rfl) (hs2:starEach [b] X.env=[(false,eval b X.env)]:=by rfl) :
  PI X tg (.Call (.Name "range" p) [a,b] [] pos) (U6 ta):=by
 intro pins s σ H R I h
 refine Call_ (pI I hg hm boot_range (PyProof.Rows.callWith_type1 (cY (ha pos pins s σ H _ I h) λ us s1 ⟨vs,H1,I1,r1,q1⟩=>?_) (by rw[hs,hs2]) (by rw[hs2];rfl)))
 obtain⟨i,j,e,⟨q1,q2,q3,q4⟩,q⟩:=q1
 subst e
 cases r1 with
 | cons r rr=>
  cases rr with
  | cons r' rr=>
   cases rr
   obtain⟨t,rfl⟩:=r
   obtain⟨t',rfl⟩:=r'
   exact call_range_2 (yI I1 q1 q2 q3 q4 q)
noncomputable def Xo (wi:TI) (g:TG) (tb:TS):TS:=λ D σ H=>wi σ H λ J H1=>∃ W:Nat→Nat→St→Hp→Prop,(∃ m,W 0 m σ H1)∧∀ i m σ H,W i m σ H →
 (J.stop i H∧D.nx σ H)∨(J.go i H∧∃ N:St→Hp→Prop,(∀ σ' H',N σ' H'→∃ m',m' < m∧W (i+1) m' σ' H')∧∀ x H',J.yld i H x H'→g x σ H' λ σ2 H2=>tb { D with nx:=N,ct:=N,bk:=D.nx } σ2 H2)
noncomputable def rB (fp:List Addr) (h:Heap):List (Addr×Obj):=fp.filterMap λ b=>(h.get? b).map λ o=>(b,o)
theorem jE {fp:List Addr}{h:Heap}{b:Addr}{o:Obj} (hb:b∈fp) (e:h.get? b=some o):(b,o)∈rB fp h:=List.mem_filterMap.mpr ⟨b,hb,by rw[e];rfl⟩
theorem Fg {fp:List Addr}{h:Heap}{p:Addr×Obj} (hp:p∈rB fp h):p.1∈fp∧h.get? p.1=some p.2:=by
 obtain⟨b,hb,e⟩:=List.mem_filterMap.mp hp
 cases q:h.get? b with
 | none=>rw[q] at e;cases e
 | some o=>
  rw[q] at e
  have e':(b,o)=p:=Option.some.inj e
  subst e'
  exact⟨hb,q⟩
theorem Inv.pinned {pins:List (Addr×Obj)}{σ:St}{H:Hp}{s:Shared}{fp:List Addr} (I:Inv X pins σ H s) (hf:∀ b∈fp,FpOk X pins H b) (ho:∀ b∈fp,∃ o,s.heap.get? b=some o∧∀ v,o.data≠.cell v):Inv X (pins++rB fp s.heap) σ H s:=
 I.pins_of λ p hp=>(List.mem_append.mp hp).elim (λ z=>I.pin p (List.mem_append_right _ z)) λ z=>by
  obtain⟨hb,e⟩:=Fg z
  obtain⟨f0,f1,f2,_⟩:=hf p.1 hb
  obtain⟨o,e',d⟩:=ho p.1 hb
  rw[e] at e';cases e'
  exact⟨e,f0,f1,f2,d⟩
theorem Inv.unpinned {pins pl:List (Addr×Obj)}{σ:St}{H:Hp}{s:Shared} (I:Inv X (pins++pl) σ H s):Inv X pins σ H s:=I.pins_of λ p hp=>I.pin p (List.mem_append_right _ (List.mem_append_left _ hp))
theorem QH {iter:Expr}{body:List Stmt}{wi:TI}{g:TG}{tb:TS}{pos:Pos} (hp:PassesOwn (model X.prog X.w) X.A X.env X.xe) (hc:X.calm=true) (hi:PI X tg iter wi) (hg:PG X tg g) (hb:PSs X body tb)
  (hs:∀ x,foldedSetIterable iter X.env x=pure x:=by intro _;rfl):PS X (.For tg iter body [] pos) (Xo wi g tb):=by
 intro pins s σ H D I h
 refine wpAny_For (cY (hi pins s σ H _ I h) λ v s1 h1=>cY h1 λ itv s2 h2=>?_) hs
 obtain⟨it,fp,tn,J,H2,e,I2,T,st2,f2,W,⟨m0,w0⟩,turn⟩:=h2
 subst e
 have stat:∀ {H':Hp},(∀ b∈fp,H' b=none)→∀ b∈fp,FpOk X pins H' b:=λ hn b hb=>⟨hn b hb,(f2 b hb).2⟩
 refine codeAny_forLoop_any (λ n s'=>∃ i σ' H',Inv X pins σ' H' s'∧tn i s'.heap∧(∀ b∈fp,H' b=none)∧W i n σ' H') ?_ m0 ⟨0,σ,H2,I2,st2,λ b hb=>(f2 b hb).1,w0⟩
 rintro n s3 ⟨i,σ3,H3,I3,st3,Y8,w3⟩
 rcases turn i n σ3 H3 w3 with ⟨stop,qn⟩ | ⟨go,N,hN,step⟩
 ·refine wpAny_passesOwn hp (cY (T.done X rfl rfl rfl hc i pins s3 σ3 H3 X.xe I3 (stat Y8) st3 stop) λ r s4 ⟨hr,I4⟩=>?_)
  subst hr
  exact wpAny_execs_nil ⟨σ3,H3,I4,qn⟩
 ·refine wpAny_passesOwn hp (cY (T.item X rfl rfl rfl hc i pins s3 σ3 H3 X.xe I3 (stat Y8) st3 go) λ r s4 ⟨u,hr,h4⟩=>?_)
  subst hr
  refine wpAny_passesOwn hp (cY h4 λ _ s5 ⟨x,H5,I5,r5,y5,pG,Zx⟩=>?_)
  have Zy:=I5.pinned (stat Zx) (T.obj _ _ pG)
  refine wpAny_passesOwn hp (cY (hg _ s5 σ3 H5 x u _ Zy r5 (step x H5 y5)) λ _ s6 ⟨σ6,H6,I6,q6⟩=>?_)
  refine wpAny_passesOwn hp (cY (hb _ s6 σ6 H6 _ I6 q6) λ f s7 q7=>?_)
  have again:∀ {σ7:St} {H7:Hp},Inv X (pins++rB fp s5.heap) σ7 H7 s7→N σ7 H7→∃ m,m < n∧∃ i σ' H',Inv X pins σ' H' s7∧tn i s7.heap∧(∀ b∈fp,H' b=none)∧W i m σ' H':=λ {σ7 H7} I7 n7=>by
   obtain⟨m',hm,w7⟩:=hN σ7 H7 n7
   refine⟨m',hm,i+1,σ7,H7,I7.unpinned,T.keep _ _ _ pG λ b hb o e=>(I7.pin (b,o) (List.mem_append_right _ (List.mem_append_right _ (jE hb e)))).1,λ b hb=>?_,w7⟩
   obtain⟨o,e,d⟩:=T.obj _ _ pG b hb
   exact(I7.pin (b,o) (List.mem_append_right _ (List.mem_append_right _ (jE hb e)))).2.1
  cases f with
  | next=>obtain⟨σ7,H7,I7,n7⟩:=q7;exact again I7 n7
  | cont=>obtain⟨σ7,H7,I7,n7⟩:=q7;exact again I7 n7
  | brk=>obtain⟨σ7,H7,I7,q7⟩:=q7;exact⟨σ7,H7,I7.unpinned,q7⟩
  | ret v=>obtain⟨x7,σ7,H7,I7,r7,q7⟩:=q7;exact⟨x7,σ7,H7,I7.unpinned,r7,q7⟩
end
end L2
namespace L2
open PySem PySem.Spec PyProof.Rows
abbrev R2:=V→V→Hp→VK→Prop
noncomputable def OpR (X:Cx) (f:Value→Value→Sem Value) (r:R2):Prop:=
 ∀ (pins:List (Addr×Obj)) (s:Shared) (σ:St) (H:Hp) (x y:V) (v u:Value) (Q:VK),Inv X pins σ H s→RelV x v→RelV y u→r x y H Q →
  wpAny (model X.prog X.w) X.A (f v u) (EP X pins σ Q) X.xe s
noncomputable def UnR (X:Cx) (f:Value→Sem Value) (r:V→Hp→VK→Prop):Prop:=
 ∀ (pins:List (Addr×Obj)) (s:Shared) (σ:St) (H:Hp) (x:V) (v:Value) (Q:VK),Inv X pins σ H s→RelV x v→r x H Q →
  wpAny (model X.prog X.w) X.A (f v) (EP X pins σ Q) X.xe s
noncomputable def CallR (X:Cx) (f:Value) (r:List V→Hp→VK→Prop):Prop:=
 ∀ (pins:List (Addr×Obj)) (s:Shared) (σ:St) (H:Hp) (xs:List V) (us:List Value) (Q:VK),Inv X pins σ H s→Vals xs us→r xs H Q →
  wpAny (model X.prog X.w) X.A (call f us) (EP X pins σ Q) X.xe s
noncomputable def U7 (r:R2) (ta tb:TE):TE:=λ σ H Q=>ta σ H λ x H1=>tb σ H1 λ y H2=>r x y H2 Q
noncomputable def Zz (r:V→Hp→VK→Prop) (ta:TE):TE:=λ σ H Q=>ta σ H λ x H1=>r x H1 Q
noncomputable def rI (C:Int→Int→Prop) (g:Int→Int→V):R2:=λ x y H Q=>∃ i j,x = .int i∧y = .int j∧C i j∧Q (g i j) H
noncomputable def Oj (g:Int→Int→V):R2:=λ x y H Q=>∃ i j,x = .int i∧y = .int j∧Q (g i j) H
noncomputable def rU (g:Int→V):V→Hp→VK→Prop:=λ x H Q=>∃ i,x = .int i∧Q (g i) H
section
variable {X:Cx}{a b c:Expr}{ta tb tc:TE}{pos:Pos}
theorem QJ (ha:PE X a ta) (hb:PE X b tb) {pins:List (Addr×Obj)}{s:Shared}{σ:St}{H:Hp}{R:V→V→Hp→Prop} (I:Inv X pins σ H s)
  (h:ta σ H λ x H1=>tb σ H1 λ y H2=>R x y H2) {Q:Value→Shared→Prop} {f:Value→Value→Sem Value}
  (hf:∀ v u s2 x y H2,Inv X pins σ H2 s2→RelV x v→RelV y u→R x y H2→wpAny (model X.prog X.w) X.A (f v u) Q X.xe s2) :
  wpAny (model X.prog X.w) X.A (eval a X.env) (λ v s₁=>wpAny (model X.prog X.w) X.A (eval b X.env) (λ u s₂=>wpAny (model X.prog X.w) X.A (f v u) Q X.xe s₂) X.xe s₁) X.xe s:=by
 refine cY (ha pins s σ H _ I h) λ v s1 ⟨x,H1,I1,r1,q1⟩=>?_
 refine cY (hb pins s1 σ H1 _ I1 q1) λ u s2 ⟨y,H2,I2,r2,q2⟩=>?_
 exact hf v u s2 x y H2 I2 r1 r2 q2
theorem U8 {op:Operator}{r:R2} (ho:OpR X (binaryOp op) r) (ha:PE X a ta) (hb:PE X b tb):PE X (.BinOp a op b pos) (U7 r ta tb):=by
 intro pins s σ H Q I h
 exact wpAny_BinOp (QJ ha hb I h λ v u s2 x y H2 I2 rx ry q=>ho pins s2 σ H2 x y v u Q I2 rx ry q)
theorem U9 {op:UnaryOp}{r:V→Hp→VK→Prop} (ho:UnR X (unaryOp op) r) (ha:PE X a ta):PE X (.UnaryOp op a pos) (Zz r ta):=by
 intro pins s σ H Q I h
 exact UnaryOp_ (cY (ha pins s σ H _ I h) λ v s1 ⟨x,H1,I1,r1,q1⟩=>ho pins s1 σ H1 x v Q I1 r1 q1)
theorem W3 {f:Value→Value→Sem Value}{C:Int→Int→Prop}{g:Int→Int→Int}
  (rule:∀ (i j:Int) (t u:Tok) (s:Shared) (Q:Value→Shared→Prop) (E:Value→Shared→Prop),C i j→Q (.int (g i j) s.toks) { s with toks:=s.toks+1 }→wpAny (model X.prog X.w) X.A (f (.int i t) (.int j u)) Q E s) :
  OpR X f (rI C λ i j=>.int (g i j)):=by
 intro pins s σ H x y v u Q I rx ry h
 obtain⟨i,j,rfl,rfl,hc,q⟩:=h
 obtain⟨t,rfl⟩:=rx
 obtain⟨t',rfl⟩:=ry
 exact rule i j t t' s _ _ hc ⟨.int (g i j),H,I.tok _,⟨_,rfl⟩,q⟩
theorem Va {f:Value→Value→Sem Value}{g:Int→Int→Int}
  (rule:∀ (i j:Int) (t u:Tok) (s:Shared) (Q:Value→Shared→Prop) (E:Value→Shared→Prop),Q (.int (g i j) s.toks) { s with toks:=s.toks+1 }→wpAny (model X.prog X.w) X.A (f (.int i t) (.int j u)) Q E s) :
  OpR X f (Oj λ i j=>.int (g i j)):=by
 intro pins s σ H x y v u Q I rx ry h
 obtain⟨i,j,rfl,rfl,q⟩:=h
 obtain⟨t,rfl⟩:=rx
 obtain⟨t',rfl⟩:=ry
 exact rule i j t t' s _ _ ⟨.int (g i j),H,I.tok _,⟨_,rfl⟩,q⟩
theorem K6 {f:Value→Value→Sem Value}{g:Int→Int→Bool}
  (rule:∀ (i j:Int) (t u:Tok) (s:Shared) (Q:Value→Shared→Prop) (E:Value→Shared→Prop),Q (.bool (g i j)) s→wpAny (model X.prog X.w) X.A (f (.int i t) (.int j u)) Q E s) :
  OpR X f (Oj λ i j=>.bl (g i j)):=by
 intro pins s σ H x y v u Q I rx ry h
 obtain⟨i,j,rfl,rfl,q⟩:=h
 obtain⟨t,rfl⟩:=rx
 obtain⟨t',rfl⟩:=ry
 exact rule i j t t' s _ _ ⟨.bl (g i j),H,I,rfl,q⟩
noncomputable def Fi (i j:Int):Prop:=0 < j∧j < 1073741824
noncomputable def uh (i j:Int):Prop:=0≤j∧j≤1000000∧i.natAbs < 2 ^ 64
noncomputable def CMul (i j:Int):Prop:=(-(2 ^ 64) < i∧i < 2 ^ 64)∨(-(2 ^ 64) < j∧j < 2 ^ 64)
theorem CMul.ok {i j:Int} (h:CMul i j):IntMulOk i j:=by
 rcases h with ⟨h1,h2⟩ | ⟨h1,h2⟩
 ·exact .of_left (intBits_le_64 h1 h2)
 ·exact .of_right (intBits_le_64 h1 h2)
theorem QK:OpR X (binaryOp .Add) (Oj λ i j=>.int (i+j)):=Va λ _ _ _ _ _ _ _ q=>add_int q
theorem QL:OpR X (binaryOp .Sub) (Oj λ i j=>.int (i - j)):=Va λ _ _ _ _ _ _ _ q=>sub_int q
theorem QM:OpR X (binaryOp .Mult) (rI CMul λ i j=>.int (i * j)):=W3 λ _ _ _ _ _ _ _ hc q=>mul_int q hc.ok
theorem QV:OpR X (binaryOp .Mod) (rI (λ _ j=>0 < j) λ i j=>.int (i % j)):=W3 λ i j _ _ _ _ _ hc q=>by
 have h1:(0:Int) < j:=hc
 exact mod_int' (by omega) (by rw[Int.fmod_eq_emod_of_nonneg i (by omega)];exact q)
theorem QX:OpR X (binaryOp .Pow) (rI uh λ i j=>.int (i ^ j.toNat)):=W3 λ _ _ _ _ _ _ _ hc q=>pow_int_small hc.1 hc.2.1 hc.2.2 q
theorem ZC {f:Value→Sem Value}{g:Int→Int}
  (rule:∀ (i:Int) (t:Tok) (s:Shared) (Q:Value→Shared→Prop) (E:Value→Shared→Prop),Q (.int (g i) s.toks) { s with toks:=s.toks+1 }→wpAny (model X.prog X.w) X.A (f (.int i t)) Q E s) :
  UnR X f (rU λ i=>.int (g i)):=by
 intro pins s σ H x v Q I rx h
 obtain⟨i,rfl,q⟩:=h
 obtain⟨t,rfl⟩:=rx
 exact rule i t s _ _ ⟨.int (g i),H,I.tok _,⟨_,rfl⟩,q⟩
theorem QZ:UnR X (unaryOp .USub) (rU λ i=>.int (-i)):=ZC λ _ _ _ _ _ q=>neg_int q
end
noncomputable def Vb:V→V→Bool
 | .non,.non=>true | .non,.int _=>true | .int _,.non=>true | .non,.bl _=>true | .bl _,.non=>true | .non,.str _=>true | .str _,.non=>true
 | .int _,.int _=>true | .bl _,.bl _=>true | .str _,.str _=>true | .byt _,.byt _=>true
 | .int _,.str _=>true | .str _,.int _=>true | .bl _,.str _=>true | .str _,.bl _=>true
 | _,_=>false
noncomputable def ZD:R2:=λ x y H Q=>Vb x y=true∧Q (.bl (decide (x=y))) H
noncomputable def ZF:R2:=λ x y H Q=>Vb x y=true∧Q (.bl (!decide (x=y))) H
theorem v8 {i j:Int}:decide (V.int i=V.int j)=(i==j):=by
 rw[Bool.eq_iff_iff]
 simp
theorem Hg {i j:Bool}:decide (V.bl i=V.bl j)=(i==j):=by
 rw[Bool.eq_iff_iff]
 simp
theorem v9 {i j:Str}:decide (V.str i=V.str j)=(i==j):=by
 rw[Bool.eq_iff_iff]
 simp
theorem Dm {i j:Array UInt8}:decide (V.byt i=V.byt j)=(i.toList==j.toList):=by
 rw[Bool.eq_iff_iff]
 cases i
 cases j
 simp
section
variable {X:Cx}{a b c:Expr}{ta tb tc:TE}{pos:Pos}
theorem bB {pins:List (Addr×Obj)}{σ:St}{H:Hp}{s:Shared}{Q:VK}{k k':Bool} (I:Inv X pins σ H s) (q:Q (.bl k) H) (e:k=k'):EP X pins σ Q (.bool k') s:=by
 subst e
 exact⟨.bl k,H,I,rfl,q⟩
theorem Ol:OpR X (compareOp .Eq) ZD:=by
 intro pins s σ H x y v u Q I rx ry h
 obtain⟨hs,q⟩:=h
 cases x with
 | non=>
  cases rx
  cases y with
  | non=>cases ry;exact PySem.EqNone.eq_none_none (bB I q (by simp))
  | bl j=>cases ry;exact PySem.EqNone.eq_none_bool (bB I q (by simp))
  | int j=>obtain⟨t',rfl⟩:=ry;exact PySem.EqNone.eq_none_int (bB I q (by simp))
  | str j=>obtain⟨t',rfl⟩:=ry;exact PySem.EqNone.eq_none_str (bB I q (by simp))
  | _=>exact absurd (show false=true from hs) Bool.false_ne_true
 | bl i=>
  cases rx
  cases y with
  | non=>cases ry;exact PySem.EqNone.eq_bool_none (bB I q (by simp))
  | bl j=>cases ry;exact eq_bool (bB I q Hg)
  | str j=>obtain⟨t',rfl⟩:=ry;exact PySem.EqMixed.eq_bool_str (bB I q (by simp))
  | _=>exact absurd (show false=true from hs) Bool.false_ne_true
 | int i=>
  obtain⟨t,rfl⟩:=rx
  cases y with
  | non=>cases ry;exact PySem.EqNone.eq_int_none (bB I q (by simp))
  | int j=>obtain⟨t',rfl⟩:=ry;exact eq_int (bB I q v8)
  | str j=>obtain⟨t',rfl⟩:=ry;exact PySem.EqMixed.eq_int_str (bB I q (by simp))
  | _=>exact absurd (show false=true from hs) Bool.false_ne_true
 | str i=>
  obtain⟨t,rfl⟩:=rx
  cases y with
  | non=>cases ry;exact PySem.EqNone.eq_str_none (bB I q (by simp))
  | bl j=>cases ry;exact PySem.EqMixed.eq_str_bool (bB I q (by simp))
  | int j=>obtain⟨t',rfl⟩:=ry;exact PySem.EqMixed.eq_str_int (bB I q (by simp))
  | str j=>obtain⟨t',rfl⟩:=ry;exact eq_str (bB I q v9)
  | _=>exact absurd (show false=true from hs) Bool.false_ne_true
 | byt i=>
  obtain⟨t,rfl⟩:=rx
  cases y with
  | byt j=>obtain⟨t',rfl⟩:=ry;exact W.eq_bytes (bB I q Dm)
  | _=>exact absurd (show false=true from hs) Bool.false_ne_true
 | _=>cases y <;> exact absurd (show false=true from hs) Bool.false_ne_true
theorem Om:OpR X (compareOp .NotEq) ZF:=by
 intro pins s σ H x y v u Q I rx ry h
 obtain⟨hs,q⟩:=h
 cases x with
 | non=>
  cases rx
  cases y with
  | non=>cases ry;exact PySem.EqNone.ne_none_none (bB I q (by simp))
  | bl j=>cases ry;exact PySem.EqNone.ne_none_bool (bB I q (by simp))
  | int j=>obtain⟨t',rfl⟩:=ry;exact PySem.EqNone.ne_none_int (bB I q (by simp))
  | str j=>obtain⟨t',rfl⟩:=ry;exact PySem.EqNone.ne_none_str (bB I q (by simp))
  | _=>exact absurd (show false=true from hs) Bool.false_ne_true
 | bl i=>
  cases rx
  cases y with
  | non=>cases ry;exact PySem.EqNone.ne_bool_none (bB I q (by simp))
  | bl j=>cases ry;exact ne_bool (bB I q (congrArg not Hg))
  | str j=>obtain⟨t',rfl⟩:=ry;exact PySem.EqMixed.ne_bool_str (bB I q (by simp))
  | _=>exact absurd (show false=true from hs) Bool.false_ne_true
 | int i=>
  obtain⟨t,rfl⟩:=rx
  cases y with
  | non=>cases ry;exact PySem.EqNone.ne_int_none (bB I q (by simp))
  | int j=>obtain⟨t',rfl⟩:=ry;exact ne_int (bB I q (congrArg not v8))
  | str j=>obtain⟨t',rfl⟩:=ry;exact PySem.EqMixed.ne_int_str (bB I q (by simp))
  | _=>exact absurd (show false=true from hs) Bool.false_ne_true
 | str i=>
  obtain⟨t,rfl⟩:=rx
  cases y with
  | non=>cases ry;exact PySem.EqNone.ne_str_none (bB I q (by simp))
  | bl j=>cases ry;exact PySem.EqMixed.ne_str_bool (bB I q (by simp))
  | int j=>obtain⟨t',rfl⟩:=ry;exact PySem.EqMixed.ne_str_int (bB I q (by simp))
  | str j=>obtain⟨t',rfl⟩:=ry;exact ne_str (bB I q (congrArg not v9))
  | _=>exact absurd (show false=true from hs) Bool.false_ne_true
 | byt i=>
  obtain⟨t,rfl⟩:=rx
  cases y with
  | byt j=>obtain⟨t',rfl⟩:=ry;exact W.ne_bytes (bB I q (congrArg not Dm))
  | _=>exact absurd (show false=true from hs) Bool.false_ne_true
 | _=>cases y <;> exact absurd (show false=true from hs) Bool.false_ne_true
theorem Vc:OpR X (compareOp .Lt) (Oj λ i j=>.bl (decide (i < j))):=K6 λ _ _ _ _ _ _ _ q=>lt_int q
theorem Vd:OpR X (compareOp .LtE) (Oj λ i j=>.bl (decide (i≤j))):=K6 λ _ _ _ _ _ _ _ q=>le_int q
theorem Ve:OpR X (compareOp .Gt) (Oj λ i j=>.bl (decide (j < i))):=K6 λ _ _ _ _ _ _ _ q=>gt_int q
theorem Vf:OpR X (compareOp .GtE) (Oj λ i j=>.bl (decide (j≤i))):=K6 λ _ _ _ _ _ _ _ q=>ge_int q
theorem Fj:OpR X (compareOp .Lt) (λ x y H Q=>∃ i j,x = .str i∧y = .str j∧Q (.bl (decide (i.cps.toList < j.cps.toList))) H):=by
 intro pins s σ H x y v u Q I rx ry h
 obtain⟨i,j,rfl,rfl,q⟩:=h
 obtain⟨t,rfl⟩:=rx
 obtain⟨t',rfl⟩:=ry
 exact lt_str (bB I q rfl)
theorem Fl:OpR X (compareOp .In) (λ x y H Q=>∃ i j,x = .str i∧y = .str j∧Q (.bl (!(Builtin.Str.occurrences j i 0 j.length 1).isEmpty)) H):=by
 intro pins s σ H x y v u Q I rx ry h
 obtain⟨i,j,rfl,rfl,q⟩:=h
 obtain⟨t,rfl⟩:=rx
 obtain⟨t',rfl⟩:=ry
 exact in_str (bB I q rfl)
theorem Q0:OpR X (compareOp .Is) (λ x y H Q=>y = .non∧Q (.bl (decide (x = .non))) H):=by
 intro pins s σ H x y v u Q I rx ry h
 obtain⟨rfl,q⟩:=h
 cases ry
 refine is_none_gen (bB I q ?_)
 cases x <;> first
  | (cases rx;rfl)
  | (obtain⟨t,rfl⟩:=rx;rfl)
theorem K7:OpR X (compareOp .IsNot) (λ x y H Q=>y = .non∧Q (.bl (!decide (x = .non))) H):=by
 intro pins s σ H x y v u Q I rx ry h
 obtain⟨rfl,q⟩:=h
 cases ry
 refine isnot_none_gen (bB I q ?_)
 cases x <;> first
  | (cases rx;rfl)
  | (obtain⟨t,rfl⟩:=rx;rfl)
theorem K8 {op:CmpOp}{r:R2} (ho:OpR X (compareOp op) r) (ha:PE X a ta) (hb:PE X b tb) (hm:behindInMarks op b=false):PE X (.Compare a [op] [b] pos) (U7 r ta tb):=by
 intro pins s σ H Q I h
 exact wpAny_Compare1 (QJ ha hb I h λ v u s2 x y H2 I2 rx ry q=>ho pins s2 σ H2 x y v u Q I2 rx ry q) hm
noncomputable def Oo (t:TE):TT:=λ σ H Q=>t σ H λ x H'=>∃ k,x = .bl k∧Q k H'
theorem K9 {op:CmpOp}{r:R2} (ho:OpR X (compareOp op) r) (ha:PE X a ta) (hb:PE X b tb) (hm:behindInMarks op b=false):PT X (.Compare a [op] [b] pos) (Oo (U7 r ta tb)):=by
 intro pins s σ H Q I h
 refine wpAny_isTrue_Compare1 (cY (ha pins s σ H _ I h) λ v s1 ⟨x,H1,I1,r1,q1⟩=>cY (hb pins s1 σ H1 _ I1 q1) λ u s2 ⟨y,H2,I2,r2,q2⟩=>
  cY (ho pins s2 σ H2 x y v u _ I2 r1 r2 q2) λ c s3 ⟨z,H3,I3,r3,k,e,q3⟩=>?_) hm
 subst e
 cases r3
 exact wpAny_truthy_bool ⟨H3,I3,q3⟩
noncomputable def Bo (r r':R2) (ta tb tc:TE):TE:=λ σ H Q=>ta σ H λ x H1=>tb σ H1 λ y H2=>r x y H2 λ z H3=>∃ k,z = .bl k ∧
 (if k=true then tc σ H3 λ w' H4=>r' y w' H4 Q else Q (.bl false) H3)
theorem Hi {op op':CmpOp}{r r':R2} (ho:OpR X (compareOp op) r) (ho':OpR X (compareOp op') r') (ha:PE X a ta) (hb:PE X b tb) (hc:PE X c tc)
  (hm:lastMarks [op,op'] [b,c]=false:=by with_unfolding_all rfl):PE X (.Compare a [op,op'] [b,c] pos) (Bo r r' ta tb tc):=by
 intro pins s σ H Q I h
 refine Compare_chain (cY (ha pins s σ H _ I h) λ v s1 ⟨x,H1,I1,r1,q1⟩=>chain_link (cY (hb pins s1 σ H1 _ I1 q1) λ u s2 ⟨y,H2,I2,r2,q2⟩=>
  cY (ho pins s2 σ H2 x y v u _ I2 r1 r2 q2) λ d s3 ⟨z,H3,I3,r3,k,e,q3⟩=>?_)) hm
 subst e
 cases r3
 refine wpAny_truthy_bool ?_
 cases k with
 | false=>exact ite_ff ⟨.bl false,H3,I3,rfl,q3⟩
 | true=>exact ite_tt (chain_last (cY (hc pins s3 σ H3 _ I3 q3) λ w' s4 ⟨z',H4,I4,r4,q4⟩=>ho' pins s4 σ H4 y z' u w' Q I4 r2 r4 q4))
theorem Hj {op op':CmpOp}{r r':R2} (ho:OpR X (compareOp op) r) (ho':OpR X (compareOp op') r') (ha:PE X a ta) (hb:PE X b tb) (hc:PE X c tc)
  (hm:lastMarks [op,op'] [b,c]=false:=by with_unfolding_all rfl):PT X (.Compare a [op,op'] [b,c] pos) (Oo (Bo r r' ta tb tc)):=by
 intro pins s σ H Q I h
 refine isTrue_chain (cY (ha pins s σ H _ I h) λ v s1 ⟨x,H1,I1,r1,q1⟩=>test_link (cY (hb pins s1 σ H1 _ I1 q1) λ u s2 ⟨y,H2,I2,r2,q2⟩=>
  cY (ho pins s2 σ H2 x y v u _ I2 r1 r2 q2) λ d s3 ⟨z,H3,I3,r3,k,e,q3⟩=>?_)) hm
 subst e
 cases r3
 refine wpAny_truthy_bool ?_
 cases k with
 | false=>
  obtain⟨k',e',q'⟩:=q3
  cases e'
  exact ite_ff ⟨H3,I3,q'⟩
 | true=>
  refine ite_tt (test_last (cY (hc pins s3 σ H3 _ I3 q3) λ w' s4 ⟨z',H4,I4,r4,q4⟩=>cY (ho' pins s4 σ H4 y z' u w' _ I4 r2 r4 q4) λ d' s5 ⟨z2,H5,I5,r5,k2,e2,q5⟩=>?_))
  subst e2
  cases r5
  exact wpAny_truthy_bool ⟨H5,I5,q5⟩
theorem pJ:(sizeLine:Nat) < 2 ^ 63:=by rw[sizeLine_eq];decide
theorem Bp:OpR X (binaryOp .Add) (λ x y H Q=>∃ i j,x = .str i∧y = .str j∧i.length+j.length≤sizeLine∧Q (.str (i++j)) H):=by
 intro pins s σ H x y v u Q I rx ry h
 obtain⟨i,j,rfl,rfl,hz,q⟩:=h
 obtain⟨t,rfl⟩:=rx
 obtain⟨t',rfl⟩:=ry
 exact add_str (λ t' tk=>⟨.str (i++j),H,I.tok _,⟨_,rfl⟩,q⟩) hz
theorem vals1 {x:V}{us:List Value} (r:Vals [x] us):∃ u,us=[u]∧RelV x u:=by
 cases r with
 | cons r1 r2=>cases r2;exact⟨_,rfl,r1⟩
theorem vals2 {x y:V}{us:List Value} (r:Vals [x,y] us):∃ u w',us=[u,w']∧RelV x u∧RelV y w':=by
 cases r with
 | cons r1 r2=>
  cases r2 with
  | cons r3 r4=>cases r4;exact⟨_,_,rfl,r1,r3⟩
theorem u6:CallR X (.type "int") (λ xs H Q=>(∃ i,xs=[.int i]∧Q (.int i) H)∨∃ k,xs=[.bl k]∧Q (.int (if k then 1 else 0)) H):=by
 intro pins s σ H xs us Q I r h
 rcases h with ⟨i,rfl,q⟩ | ⟨k,rfl,q⟩
 ·obtain⟨u,rfl,t,rfl⟩:=vals1 r
  exact call_int_int ⟨.int i,H,I,⟨_,rfl⟩,q⟩
 ·obtain⟨u,rfl,r1⟩:=vals1 r
  cases r1
  exact call_int_bool ⟨.int (if k then 1 else 0),H,I.tok _,⟨_,rfl⟩,q⟩
theorem yJ:CallR X (.builtin "divmod") (λ xs H Q=>∃ i j,xs=[.int i,.int j]∧Fi i j∧∀ p,H p=none→Q (.ref p) (upd H p (.tup [.int (i / j),.int (i % j)]))):=by
 intro pins s σ H xs us Q I r h
 obtain⟨i,j,rfl,⟨h1,h2⟩,q⟩:=h
 obtain⟨u,w',rfl,⟨t,rfl⟩,⟨t',rfl⟩⟩:=vals2 r
 refine divmod_int (by omega) ?_ (.inl (PyProof.noPylong_small (by omega)))
 rw[Int.fdiv_eq_ediv_of_nonneg i (by omega),Int.fmod_eq_emod_of_nonneg i (by omega)]
 have hn:H s.heap.objs.size=none:=I.hok.fresh (Nat.le_refl _)
 refine⟨.ref s.heap.objs.size,_,?_,rfl,q _ hn⟩
 refine I.laid (λ b o e=>Heap.get?_push_of_some _ e) (Nat.le_refl _) ⟨by simp only [List.length_cons,List.length_nil];rw[sizeLine_eq];decide,[.int (i / j) s.toks,.int (i % j) (s.toks+1)],.cons ⟨_,rfl⟩ (.cons ⟨_,rfl⟩ .nil),?_⟩
 exact⟨_,Heap.get?_push_size s.heap rfl,rfl,0,rfl⟩
end
end L2
namespace L2
open PySem PySem.Spec PyProof.Rows
structure ObjM (h:Heap) (x dx C:Addr) (mA:Str→Option Value):Prop where
 obj:h.get? x=some (W.instObj C dx)
 ns:h.Ns1 dx mA
 ne:dx≠x
theorem u9 {h:Heap}{dx:Addr}{mA:Str→Option Value} (n:h.Ns1 dx mA):∃ od,h.get? dx=some od∧∀ name,W.lookIn name od=some (mA name):=by
 obtain⟨o,es,ep,ho,hd,hk,_,hm⟩:=n
 refine⟨o,ho,λ name=>?_⟩
 have e:=hm name
 unfold nsFind findBy at e
 rw[← Array.find?_toList] at e
 unfold W.lookIn
 rw[hd]
 dsimp only
 split
 ·rename_i y q
  rw[q] at e
  exact congrArg some e
 ·rename_i q
  rw[q] at e
  have a:es.toList.any (·.refKey)=false:=by
   rw[List.any_eq_false]
   intro y hy
   obtain⟨z,t,hkey⟩:=hk y (Array.mem_toList_iff.mp hy)
   simp[DictEntry.refKey,hkey]
  have a':¬ es.toList.any (·.refKey)=true:=by rw[a];exact Bool.false_ne_true
  rw[if_neg a']
  exact congrArg some e
theorem ObjM.look {h:Heap}{x dx C:Addr}{mA:Str→Option Value} (I:ObjM h x dx C mA):∃ od,W.InstAt h x (W.instObj C dx) C (some od)∧∀ name,W.lookIn name od=some (mA name):=
 let ⟨od,ho,hl⟩:=u9 I.ns
 ⟨od,⟨I.obj,rfl,rfl,ho⟩,hl⟩
section
variable {prog:Program}{w:World}{A:Around}{E:Value→Shared→Prop}{s:Shared}{K:W.Frag}{x dx C f:Addr}{mA:Str→Option Value}{name:Str}{v:Value}
end
noncomputable def oA (f:Str) (v:V):List (Str×V)→List (Str×V)
 | []=>[(f,v)]
 | (g,x)::r=>if g=f then (g,v)::r else (g,x)::oA f v r
theorem qt (f g:Str) (v:V):∀ fs:List (Str×V),(oA f v fs).lookup g=if g=f then some v else fs.lookup g
 | []=>by
  show List.lookup g [(f,v)]=_
  by_cases h:g=f
  ·have hb:(g==f)=true:=beq_iff_eq.mpr h
   simp only [List.lookup,hb,if_pos h]
  ·have hb:(g==f)=false:=beq_eq_false_iff_ne.mpr h
   simp only [List.lookup,hb,if_neg h]
 | (k,x)::r=>by
  have ih:=qt f g v r
  rw[show oA f v ((k,x)::r)=(if k=f then (k,v)::r else (k,x)::oA f v r) from rfl]
  by_cases hk:k=f
  ·rw[if_pos hk]
   by_cases h:g=k
   ·have hb:(g==k)=true:=beq_iff_eq.mpr h
    simp only [List.lookup,hb,if_pos (h.trans hk)]
   ·have hb:(g==k)=false:=beq_eq_false_iff_ne.mpr h
    simp only [List.lookup,hb,if_neg (λ e:g=f=>h (e.trans hk.symm))]
  ·rw[if_neg hk]
   by_cases h:g=k
   ·have hb:(g==k)=true:=beq_iff_eq.mpr h
    simp only [List.lookup,hb,if_neg (λ e:g=f=>hk (h.symm.trans e))]
   ·have hb:(g==k)=false:=beq_eq_false_iff_ne.mpr h
    simp only [List.lookup,hb]
    exact ih
theorem pL (f:Str) (v:V):∀ fs:List (Str×V),f∈(oA f v fs).map (·.1)∧∀ g,g∈fs.map (·.1)→g∈(oA f v fs).map (·.1)
 | []=>⟨by simp[oA],λ g h=>by simp at h⟩
 | (k,x)::r=>by
  obtain⟨i1,i2⟩:=pL f v r
  rw[show oA f v ((k,x)::r)=(if k=f then (k,v)::r else (k,x)::oA f v r) from rfl]
  by_cases hk:k=f
  ·rw[if_pos hk]
   subst hk
   exact⟨by simp,λ g h=>by simpa using h⟩
  ·rw[if_neg hk]
   refine⟨?_,λ g h=>?_⟩
   ·rw[List.map_cons]
    exact List.mem_cons_of_mem _ i1
   ·rw[List.map_cons] at h ⊢
    rcases List.mem_cons.mp h with e | e
    ·exact List.mem_cons.mpr (.inl e)
    ·exact List.mem_cons_of_mem _ (i2 g e)
theorem RelO.some_of {v:V}{o:Option Value} (r:RelO (some v) o):∃ u,o=some u∧RelV v u:=by
 cases o with
 | none=>exact(show False from r).elim
 | some u=>exact⟨u,rfl,r⟩
theorem Fo {v:V}{u:Value} (r:RelV v u):W.handedIn u=true:=by
 cases v with
 | non=>cases (show u=Value.none from r);rfl
 | bl b=>cases (show u=Value.bool b from r);rfl
 | int i=>obtain⟨t,e⟩:=(show ∃ t,u=Value.int i t from r);cases e;rfl
 | str x=>obtain⟨t,e⟩:=(show ∃ t,u=Value.str x t from r);cases e;rfl
 | byt b=>obtain⟨t,e⟩:=(show ∃ t,u=Value.bytes b t from r);cases e;rfl
 | flt b=>obtain⟨t,e⟩:=(show ∃ t,u=Value.float b t from r);cases e;rfl
 | ref a=>cases (show u=Value.ref a from r);rfl
 | ty n=>cases (show u=Value.type n from r);rfl
section
variable {P:Program}{w:World}{H H':Hp}{h h':Heap}{a C dx:Addr}{fs fs':List (Str×V)}
theorem La (hok:HOk P w H h) (e:H a=some (.ins C dx fs)):∃ mA,ObjM h a dx C mA∧(∀ f,RelO (fs.lookup f) (mA f))∧PySem.Within mA (fs.map (·.1))∧fs.length≤1000∧H dx=some (.own a):=by
 obtain⟨d,z,ne,ob,mA,n,r,q⟩:=(show ObjOk P w H h a (.ins C dx fs) from hok a _ e)
 exact⟨mA,⟨ob,n,ne⟩,r,q,z,d⟩
end
structure Cls (K:W.Frag) (C:Addr):Prop where
 pg:W.plainGet K C Str.empty=true
 hd:W.hasDictIn K C=true
 po:W.plainOver K C=true
 sa:W.findIn K (.ref C) "__setattr__"=some (some (.builtin "object.__setattr__"))
theorem Cls.get {K:W.Frag}{C:Addr} (c:Cls K C) (f:Str):W.plainGet K C f=true:=c.pg
noncomputable def NoAttr (K:W.Frag) (C:Addr) (f:Str):Prop:=W.findIn K (.ref C) f=some none
structure Con (K:W.Frag) (C:Addr) (f:Str) (v:V) (u:Value):Prop where
 at_:W.findIn K (.ref C) f=some (some u)
 rel:RelV v u
 get:W.specialIn K u "__get__"=some none
 cp:W.copiedNames.contains f=false
structure Meth (K:W.Frag) (C:Addr) (m:Str) (f:Addr):Prop where
 at_:W.findIn K (.ref C) m=some (some (.ref f))
 fn:W.isFn K (.ref f)=true
 kp:W.keepIn K (.ref f)=true
section
variable {X:Cx}{pins:List (Addr×Obj)}{σ:St}{H:Hp}{s:Shared}{a C dx:Addr}{fs:List (Str×V)}{f:Str}{v:V}{A:Around}{E:Value→Shared→Prop}
theorem Lb {prog:Program}{w:World}{env:Env}{e:Expr}{f:Str}{pos:Pos}{s:Shared}{Q:Value→Shared→Prop} (hb:attributeBase e f env (eval e env)=eval e env)
  (h:wpAny (model prog w) A (eval e env) (λ o s₁=>wpAny (model prog w) A (getAttr o f true) Q E s₁) E s):wpAny (model prog w) A (eval (.Attribute e f pos) env) Q E s:=
 Attribute_any_ h (by rw[arm_eval_Attribute,hb])
end
section
variable {X:Cx}{o e value:Expr}{f:Str}{pos pos' tpos:Pos}{ta tv:TE}
end
section
variable {X:Cx}{pins:List (Addr×Obj)}{σ:St}{H:Hp}{s:Shared}{A:Around}{E:Value→Shared→Prop}{Q:Value→Shared→Prop}{c:Value}{b:Bool}
inductive TyOf (K:W.Frag) (H:Hp):V→Value→Prop where
 | non:TyOf K H .non (.type "NoneType")
 | bl (x:Bool):TyOf K H (.bl x) (.type "bool")
 | int (i:Int):TyOf K H (.int i) (.type "int")
 | str (x:Str):TyOf K H (.str x) (.type "str")
 | flt (x:UInt64):TyOf K H (.flt x) (.type "float")
 | lst {a:Addr} {xs:List V} (e:H a=some (.lst xs)):TyOf K H (.ref a) (.type "list")
 | frz {a:Addr} {o:Obj} {xs:List V} (e:H a=some (.frz o (.lst xs))):TyOf K H (.ref a) (.type "list")
 | tup {a:Addr} {xs:List V} (e:H a=some (.tup xs)):TyOf K H (.ref a) (.type "tuple")
 | dK {a:Addr} {kvs:List (Key×V)} (e:H a=some (.dK kvs)):TyOf K H (.ref a) (.type "dict")
 | dT {a:Addr} {kvs:List (List Key×V)} (e:H a=some (.dT kvs)):TyOf K H (.ref a) (.type "dict")
 | ins {a C dx:Addr} {fs:List (Str×V)} (e:H a=some (.ins C dx fs)) (cl:Cls K C) (ha:W.findIn K (.ref C) "__class__"=some (some (.builtin "object.__class__")))
   (hn:W.specialIn K (.builtin "object.__class__") "__get__"=some (some (.builtin "getset_descriptor.__get__"))) (htk:W.takesIn K (.builtin "object.__class__")=some true)
   (hm:W.mroIn K C (.type "object")=some true):TyOf K H (.ref a) (.ref C)
theorem gW {x:V}{u t:Value} (I:Inv X pins σ H s) (rx:RelV x u) (ty:TyOf X.K H x t) (e:W.kitOne X.K t c=some b) (h:∀ tk,Q (.bool b) { s with toks:=tk }) :
  wpAny (model X.prog X.w) A (call (.builtin "isinstance") [u,c]) Q E s:=by
 cases ty with
 | non=>cases (show u=Value.none from rx);exact W.kia_one W.kitx_none I.kIn True.intro e (λ z=>nomatch z) h
 | bl y=>cases (show u=Value.bool y from rx);exact W.kia_one W.kitx_bool I.kIn True.intro e (λ z=>nomatch z) h
 | int i=>obtain⟨t,q⟩:=(show ∃ t,u=Value.int i t from rx);cases q;exact W.kia_one W.kitx_int I.kIn True.intro e (λ z=>nomatch z) h
 | str y=>obtain⟨t,q⟩:=(show ∃ t,u=Value.str y t from rx);cases q;exact W.kia_one W.kitx_str I.kIn True.intro e (λ z=>nomatch z) h
 | flt y=>obtain⟨t,q⟩:=(show ∃ t,u=Value.float y t from rx);cases q;exact W.kia_one W.kitx_float I.kIn True.intro e (λ z=>nomatch z) h
 | @lst a xs ea=>
  cases (show u=Value.ref a from rx)
  obtain⟨_,_,n,_,h1⟩:=(show ObjOk X.prog X.w H s.heap a (.lst xs) from I.hok a _ ea)
  exact W.kia_one W.kitx_list I.kIn ⟨_,h1,rfl⟩ e (λ z=>nomatch z) h
 | @frz a ob xs ea=>
  cases (show u=Value.ref a from rx)
  obtain⟨_,_,_,n,_,h1⟩:=(show ObjOk X.prog X.w H s.heap a (.frz ob (.lst xs)) from I.hok a _ ea)
  exact W.kia_one W.kitx_list I.kIn ⟨_,h1,rfl⟩ e (λ z=>nomatch z) h
 | @tup a xs ea=>
  cases (show u=Value.ref a from rx)
  obtain⟨_,_,_,p⟩:=(show ObjOk X.prog X.w H s.heap a (.tup xs) from I.hok a _ ea)
  obtain⟨o,h1,h2,_⟩:=p
  exact W.kia_one W.kitx_tuple I.kIn ⟨o,h1,h2⟩ e (λ z=>nomatch z) h
 | @dK a kvs ea=>
  cases (show u=Value.ref a from rx)
  obtain⟨_,_,vs,_,p⟩:=(show ObjOk X.prog X.w H s.heap a (.dK kvs) from I.hok a _ ea)
  obtain⟨o,es,ep,h1,h2,_⟩:=p
  exact W.kia_one W.kitx_dict I.kIn ⟨o,h1,h2.1⟩ e (λ z=>nomatch z) h
 | @dT a kvs ea=>
  cases (show u=Value.ref a from rx)
  obtain⟨_,_,xs,_,o,es,ep,h1,h2,_⟩:=(show ObjOk X.prog X.w H s.heap a (.dT kvs) from I.hok a _ ea)
  exact W.kia_one W.kitx_dict I.kIn ⟨o,h1,h2.1⟩ e (λ z=>nomatch z) h
 | @ins a C dx fs ea cl ha hn htk hm=>
  cases (show u=Value.ref a from rx)
  obtain⟨mA,O,_⟩:=La I.hok ea
  obtain⟨od,J,_⟩:=O.look
  exact W.kia_one (W.kitx_own (cl.get _) cl.hd ha hn htk hm) I.kIn J e (λ z=>nomatch z) h
end
end L2
namespace L2
open PySem PySem.Spec PyProof.Rows
structure Room (k:Nat) (A:Around):Prop where
 hd:A.handled=none
 dp:A.depth+3 * k+5 < recursionLimit
 un:A.units+16 * k+200 < cLine
theorem Room.mono {j k:Nat}{A:Around} (r:Room k A) (h:j≤k):Room j A:=⟨r.hd,by have:=r.dp;omega,by have:=r.un;omega⟩
theorem Room.deeper {k:Nat}{A:Around} (r:Room (k+1) A) (env:Env):Room k (A.deeper env):=
 ⟨r.hd,by have:=r.dp;show A.depth+1+3 * k+5 < _;omega,by have:=r.un;show A.units+3+16 * k+200 < _;omega⟩
theorem Bq {A:Around}{C:Addr}{us:List Value}{kw:List (Str×Value)}:(A.under (.builtin "type.__call__" ⟨.ref C::us,kw⟩)).depth=A.depth+1:=by
 first | rfl | simp[Around.under,Code.weight,Code.isCreation,Code.isGuard,Code.isCaller,Code.frames,Code.isFrame,guardIds]
theorem Br {A:Around}{C:Addr}{us:List Value}{kw:List (Str×Value)}:(A.under (.builtin "type.__call__" ⟨.ref C::us,kw⟩)).units=A.units+1:=by
 first | rfl | simp[Around.under,Code.cUnits,Code.frames,Code.isFrame]
theorem Room.make {k:Nat}{A:Around} (r:Room (k+1) A) (C:Addr) (us:List Value) (kw:List (Str×Value)):Room k (A.under (.builtin "type.__call__" ⟨.ref C::us,kw⟩)):=
 ⟨r.hd,by have:=r.dp;rw[Bq];omega,by have:=r.un;rw[Br];omega⟩
theorem Room.depth {k:Nat}{A:Around} (r:Room k A):A.depth < recursionLimit:=by have:=r.dp;omega
theorem Room.units {k:Nat}{A:Around} (r:Room k A):A.units+64 < cLine:=by have:=r.un;omega
noncomputable def Vg:TA:=λ _ H Q=>Q [] H
noncomputable def Hl (ta:TE) (tr:TA):TA:=λ σ H Q=>ta σ H λ x H1=>tr σ H1 λ xs H2=>Q (x::xs) H2
section
variable {X:Cx}{e:Expr}{es:List Expr}{te:TE}{t:TA}{pos:Pos}
theorem Ho:PA X [] Vg:=λ _ _ _ _ H Q I h=>Calls.spliced_nil ⟨[],H,I,.nil,h⟩
theorem wg (ha:PE X e te) (hr:PA X es t) (hs:starEach (e::es) X.env=(false,eval e X.env)::starEach es X.env:=by rfl):PA X (e::es) (Hl te t):=by
 intro pos pins s σ H Q I h
 rw[hs]
 show wpAny _ _ (spliced ((false,eval e X.env)::backTo pos (starEach es X.env))) _ _ s
 refine Calls.spliced_cons (cY (ha pins s σ H _ I h) λ u s1 ⟨x,H1,I1,r1,q1⟩=>?_)
 exact cY (hr pos pins s1 σ H1 _ I1 q1) λ us s2 ⟨xs,H2,I2,r2,q2⟩=>⟨x::xs,H2,I2,.cons r1 r2,q2⟩
noncomputable def Xp (t:TA):TE:=λ σ H Q=>t σ H λ xs H1=>xs.length≤sizeLine∧∀ p,H1 p=none→Q (.ref p) (upd H1 p (.tup xs))
noncomputable def Xq (t:TA):TE:=λ σ H Q=>t σ H λ xs H1=>xs.length≤sizeLine∧∀ p,H1 p=none→Q (.ref p) (upd H1 p (.lst xs))
theorem Q5 {x1} (h:PA X es t):PE X (.Tuple es x1 pos) (Xp t):=by
 intro pins s σ H Q I hq
 refine wpAny_Tuple_spliced (cY (h pos pins s σ H _ I hq) λ us s1 ⟨xs,H1,I1,r,z,q⟩=>⟨by rw[← r.length];exact z,?_⟩)
 have hf:H1 s1.heap.objs.size=none:=I1.hok.fresh (Nat.le_refl _)
 refine⟨.ref s1.heap.objs.size,upd H1 s1.heap.objs.size (.tup xs),I1.laid (t':=s1.toks) (λ b u e=>Heap.get?_push_of_some _ e) (Nat.le_refl _) ?_,rfl,q _ hf⟩
 exact⟨z,us,r,⟨_,Heap.get?_push_size _ rfl,rfl,_,rfl⟩⟩
theorem Q6 (h:PA X es t):PE X (.List es pos) (Xq t):=by
 intro pins s σ H Q I hq
 refine wpAny_List_spliced (cY (h pos pins s σ H _ I hq) λ us s1 ⟨xs,H1,I1,r,z,q⟩=>⟨by rw[← r.length];exact z,?_⟩)
 have hf:H1 s1.heap.objs.size=none:=I1.hok.fresh (Nat.le_refl _)
 refine⟨.ref s1.heap.objs.size,upd H1 s1.heap.objs.size (.lst xs),I1.laid (t':=s1.toks) (λ b u e=>Heap.get?_push_of_some _ e) (Nat.le_refl _) ?_,rfl,q _ hf⟩
 exact⟨z,us,0,r,Heap.get?_push_size _ rfl⟩
end
abbrev Sp:=List V→Hp→VK→XK→Prop
abbrev CXT:=List Env→Hp→Shared→XK→Value→Shared→Prop
structure Env0 (P:Program) (w:World) (K:W.Frag) (mg:Str→Option Value) (base:Heap) (A:Around) (outer:List Env) (s:Shared) (H:Hp):Prop where
 frames:A.frames=some outer
 mod:Mod K mg base
 bs:∀ b o,base.get? b=some o→s.heap.get? b=some o∧H b=none
 bsz:base.objs.size≤s.heap.objs.size
 funs:s.heap.FunFrames base outer
 frf:∀ b∈frs outer,H b=none
 hok:HOk P w H s.heap
 bare:AllBare s.gens
noncomputable def CE (outer:List Env) (P:Program) (w:World) (H:Hp) (s:Shared) (Q:VK) (u:Value) (s':Shared):Prop:=
 ∃ v H',s'.os=s.os∧AllBare s'.gens∧Un (frs outer) [] H H' s.heap s'.heap∧HOk P w H' s'.heap∧RelV v u∧Q v H'
noncomputable def CR (CX:CXT) (outer:List Env) (P:Program) (w:World) (H:Hp) (s:Shared) (Q:VK) (E:XK) (r:Result) (s':Shared):Prop:=
 match r with
 | .ok (.ret u)=>CE outer P w H s Q u s'
 | .ok _=>False
 | .error e=>CX outer H s E e s'
structure FnOk (P:Program) (w:World) (K:W.Frag) (mg:Str→Option Value) (base:Heap) (CX:CXT) (k:Nat) (f:Addr) (fd:FuncData) (ps:List Str) (sp:Sp):Prop where
 len:∀ vs H Q E,sp vs H Q E→vs.length=ps.length
 run:∀ (A:Around) (outer:List Env) (s:Shared) (H:Hp) (args:Args) (us:List Value) (vs:List V) (Q:VK) (E:XK),Room k A→Env0 P w K mg base A outer s H→BindsTo s fd args (ps.zip us)→Vals vs us→sp vs H Q E →
  codeAny (model P w) A (.call (.ref f) args) (CR CX outer P w H s Q E) s
theorem FnOk.mono {P:Program}{w:World}{K:W.Frag}{mg:Str→Option Value}{base:Heap}{CX:CXT}{j k:Nat}{f:Addr}{fd:FuncData}{ps:List Str}{sp:Sp} (F:FnOk P w K mg base CX j f fd ps sp) (h:j≤k) :
  FnOk P w K mg base CX k f fd ps sp:=⟨F.len,λ A outer s H args us vs Q E hr=>F.run A outer s H args us vs Q E (hr.mono h)⟩
theorem FnOk.imp {P:Program}{w:World}{K:W.Frag}{mg:Str→Option Value}{base:Heap}{CX:CXT}{k:Nat}{f:Addr}{fd:FuncData}{ps:List Str}{sp Oq:Sp} (F:FnOk P w K mg base CX k f fd ps sp)
  (h:∀ vs H Q E,Oq vs H Q E→sp vs H Q E):FnOk P w K mg base CX k f fd ps Oq:=
 ⟨λ vs H Q E q=>F.len vs H Q E (h _ _ _ _ q),λ A outer s H args us vs Q E hr he hb hv hs=>F.run A outer s H args us vs Q E hr he hb hv (h _ _ _ _ hs)⟩
theorem Env0.make {P:Program}{w:World}{K:W.Frag}{mg:Str→Option Value}{base:Heap}{A:Around}{outer:List Env}{s:Shared}{H:Hp} (e:Env0 P w K mg base A outer s H) (C:Addr) (us:List Value) (kw:List (Str×Value)) :
  Env0 P w K mg base (A.under (.builtin "type.__call__" ⟨.ref C::us,kw⟩)) outer s H:=⟨by first | exact e.frames | (simpa[Around.under,Code.envs,Code.isFrame,pushEnvs] using e.frames),e.mod,e.bs,e.bsz,e.funs,e.frf,e.hok,e.bare⟩
section
variable {X:Cx}{pins:List (Addr×Obj)}{σ:St}{H:Hp}{s s':Shared}
theorem Inv.env0 (I:Inv X pins σ H s):Env0 X.prog X.w X.K X.mg X.base X.A X.stack s H:=
 ⟨I.ok.frames,I.ok.mod,I.bs,Nat.le_trans I.ok.bsz I.sz,I.stack,I.stkFree,I.hok,I.bare⟩
theorem Inv.after {Q:VK}{u:Value} (I:Inv X pins σ H s) (h:CE X.stack X.prog X.w H s Q u s'):EP X pins σ Q u s':=by
 obtain⟨v,H',os,bare,un,hok,r,q⟩:=h
 obtain⟨hh,g,d,t,os'⟩:=s'
 obtain rfl:os'=s.os:=os
 exact⟨v,H',I.call (h':=hh) (g':=g) (d':=d) (t':=t) (ch:=[]) un hok bare (λ b z=>absurd z (by simp)),r,q⟩
end
noncomputable def Ot (sp:Sp) (Ou:List V) (E:XK) (t:TA):TE:=λ σ H Q=>t σ H λ vs H1=>sp (vs++Ou) H1 Q E
noncomputable def Binds (K:W.Frag) (fd:FuncData) (ps:List Str) (ds:List Value):Prop:=
 ∀ (s:Shared) (us:List Value),K.In s.heap→(us++ds).length=ps.length→BindsTo s fd ⟨us,[]⟩ (ps.zip (us++ds))
theorem Binds.all {K:W.Frag}{fd:FuncData}{ps:List Str} (h:∀ us:List Value,us.length=ps.length→bindArgs fd ⟨us,[]⟩=pure (ps.zip us)):Binds K fd ps []:=λ s us _ hl=>by
 rw[List.append_nil] at hl ⊢
 exact .of_eq (h us hl)
noncomputable def Passes (CX:CXT) (X:Cx) (E:XK):Prop:=∀ (pins:List (Addr×Obj)) (σ:St) (H:Hp) (s:Shared) (e:Value) (s':Shared),Inv X pins σ H s→CX X.stack H s E e s'→X.xe e s'
section
variable {X:Cx}{CX:CXT}{k:Nat}{f C:Addr}{fd:FuncData}{ps:List Str}{sp:Sp}{Ou:List V}{ds:List Value}{E:XK}{x m:Str}{p pos apos:Pos}{e o:Expr}{es:List Expr}{ta:TE}{t:TA}
theorem Q7 {pins:List (Addr×Obj)}{σ:St}{H:Hp}{s:Shared}{Q:VK}{us:List Value}{vs:List V} (F:FnOk X.prog X.w X.K X.mg X.base CX k f fd ps sp) (hr:Room k X.A) (hb:Binds X.K fd ps ds) (hd:Vals Ou ds) (hx:Passes CX X E)
  (I:Inv X pins σ H s) (r:Vals vs us) (h:sp (vs++Ou) H Q E):wpAny (model X.prog X.w) X.A (call (.ref f) us) (EP X pins σ Q) X.xe s:=by
 have r2:Vals (vs++Ou) (us++ds):=r.append hd
 have hl:(us++ds).length=ps.length:=by rw[← r2.length];exact F.len _ _ _ _ h
 refine wpAny_call (codeAny_mono (F.run X.A X.stack s H ⟨us,[]⟩ (us++ds) (vs++Ou) Q E hr I.env0 (hb s us I.kIn hl) r2 h) λ r s' hq=>?_)
 cases r with
 | error e=>exact hx pins σ H s e s' I hq
 | ok fl=>
  cases fl with
  | ret u=>exact I.after hq
  | next=>exact False.elim hq
  | brk=>exact False.elim hq
  | cont=>exact False.elim hq
theorem Ld (F:FnOk X.prog X.w X.K X.mg X.base CX k f fd ps sp) (hr:Room k X.A) (hg:Gl X x) (hm:X.mg x=some (.ref f)) (hk:W.keepIn X.K (.ref f)=true) (hb:Binds X.K fd ps ds) (hd:Vals Ou ds) (hx:Passes CX X E)
  (ha:PA X (e::es) t) (hdb:(x==("__debug__" : Str))=false:=by decide) (he:starEach (e::es) X.env=(false,eval e X.env)::starEach es X.env:=by rfl) (hpl:(backTo pos (starEach es X.env)).any (·.1)=false:=by rfl) :
  PE X (.Call (.Name x p) (e::es) [] pos) (Ot sp Ou E t):=by
 intro pins s σ H Q I h
 refine wpAny_Call_Name_kw (oh I hg hm ?_ hdb)
 refine W.callWith_K (h₀:=X.base) I.ok.mod.kin hk (cY (ha pos pins s σ H _ I h) λ us s1 ⟨vs,H1,I1,r,q⟩=>⟨I1.kIn,?_⟩) he hpl
 exact Q7 F hr hb hd hx I1 r q
structure Mk (K:W.Frag) (C f:Addr):Prop where
 makes:W.makesIn K C=true
 init:W.findIn K (.ref C) "__init__"=some (some (.ref f))
 fn:W.isFn K (.ref f)=true
 kp:W.keepIn K (.ref C)=true
end
section
variable {X:Cx}{CX:CXT}{k:Nat}{f C:Addr}{fd:FuncData}{ps ks:List Str}{sp:Sp}{E:XK}{x m:Str}{p pos apos kpos:Pos}{e o:Expr}{es:List Expr}{kws:List Keyword}{te ta:TE}{t tk:TA}{nm:Option Str}
structure KBinds (K:W.Frag) (fd:FuncData) (ps ks:List Str) (g:List Value→List Value→List Value) (gV:List V→List V→List V):Prop where
 to:∀ (s:Shared) (us ws:List Value),K.In s.heap→(g us ws).length=ps.length→BindsTo s fd ⟨us,ks.zip ws⟩ (ps.zip (g us ws))
 rel:∀ {vs:List V} {us:List Value} {zs:List V} {ws:List Value},Vals vs us→Vals zs ws→Vals (gV vs zs) (g us ws)
variable {g:List Value→List Value→List Value}{gV:List V→List V→List V}
end
structure FnScope (N P:List Str) (sc:Scope):Prop where
 kind:sc.kind = .function
 co:sc.isCoroutine=false
 gen:sc.isGenerator=false
 nd:N.Nodup
 pre:N.take P.length=P
 par:∀ x∈P,sc.names.lookup x=some .local∨sc.names.lookup x=some .cell
 nofree:∀ y∈sc.names,y.2≠.free
theorem vd {kindOf:Str→Option NameKind}{x:Str}:∀ {binds:List (Str×Value)}{m:Str→Option Value},(∀ v,(x,v) ∉ binds)→bindL kindOf binds m x=m x
 | [],_,_=>rfl
 | (n,v)::r,m,h=>by
  unfold bindL
  rw[vd λ w hw=>h w (List.mem_cons_of_mem _ hw)]
  split
  ·have:x≠n:=by rintro rfl;exact h v List.mem_cons_self
   simp[this]
  ·rfl
theorem vf {kindOf:Str→Option NameKind}{x:Str}:∀ {binds:List (Str×Value)}{m:Str→Option Value},(∀ v,(x,v) ∉ binds)→bindC kindOf binds m x=m x
 | [],_,_=>rfl
 | (n,v)::r,m,h=>by
  unfold bindC
  rw[vf λ w hw=>h w (List.mem_cons_of_mem _ hw)]
  split
  ·rfl
  ·have:x≠n:=by rintro rfl;exact h v List.mem_cons_self
   simp[this]
theorem vg {kindOf:Str→Option NameKind}{x:Str}{v:Value}:∀ {P:List Str}{vs:List Value}{i:Nat}{m:Str→Option Value},P.Nodup→P[i]? = some x→vs[i]? = some v→kindOf x=some .local →
  bindL kindOf (P.zip vs) m x=some v
 | [],_,_,_,_,h,_,_=>by simp at h
 | _::_,[],_,_,_,_,h,_=>by simp at h
 | p::P,w::vs,0,m,nd,h1,h2,hk=>by
  simp at h1 h2;subst h1;subst h2
  show bindL kindOf ((p,w)::P.zip vs) m p=_
  unfold bindL
  rw[vd λ v hv=>(List.nodup_cons.mp nd).1 (List.of_mem_zip hv).1,if_pos hk]
  simp
 | p::P,w::vs,i+1,m,nd,h1,h2,hk=>by
  show bindL kindOf ((p,w)::P.zip vs) m x=_
  unfold bindL
  exact vg (i:=i) (List.nodup_cons.mp nd).2 (by simpa using h1) (by simpa using h2) hk
theorem vh {kindOf:Str→Option NameKind}{x:Str}{v:Value}:∀ {P:List Str}{vs:List Value}{i:Nat}{m:Str→Option Value},P.Nodup→P[i]? = some x→vs[i]? = some v→kindOf x≠some .local →
  bindC kindOf (P.zip vs) m x=some v
 | [],_,_,_,_,h,_,_=>by simp at h
 | _::_,[],_,_,_,_,h,_=>by simp at h
 | p::P,w::vs,0,m,nd,h1,h2,hk=>by
  simp at h1 h2;subst h1;subst h2
  show bindC kindOf ((p,w)::P.zip vs) m p=_
  unfold bindC
  rw[vf λ v hv=>(List.nodup_cons.mp nd).1 (List.of_mem_zip hv).1,if_neg hk]
  simp
 | p::P,w::vs,i+1,m,nd,h1,h2,hk=>by
  show bindC kindOf ((p,w)::P.zip vs) m x=_
  unfold bindC
  exact vh (i:=i) (List.nodup_cons.mp nd).2 (by simpa using h1) (by simpa using h2) hk
noncomputable def start (N:List Str) (vs:List V):St:=vs.map some++List.replicate (N.length - vs.length) none
noncomputable def nj (CX:CXT) (P:Program) (w:World) (K:W.Frag) (mg:Str→Option Value) (base:Heap) (N:List Str) (qual:Str) (scope:Scope) (f:Addr) (cd:Value) (A:Around) (outer:List Env) (s:Shared) (H:Hp) (E:XK):Cx where
 prog:=P
 w:=w
 K:=K
 mg:=mg
 base:=base
 A:=A.deeper (envOfC qual scope s.heap.objs.size f cd)
 N:=N
 s₀:=s
 H₀:=H
 env:=envOfC qual scope s.heap.objs.size f cd
 outer:=outer
 stack:=envOfC qual scope s.heap.objs.size f cd::outer
 ex:=[]
 calm:=true
 fn:=λ _=>true
 pn:=[]
 xe:=λ e s'=>wpAny (model P w) (A.deeper (envOfC qual scope s.heap.objs.size f cd)) (leaving (envOfC qual scope s.heap.objs.size f cd) e) (λ _ s''=>CX outer H s E e s'') (λ e' s''=>CX outer H s E e' s'') s'
theorem yL {sc:Scope}{n:Nat}{x:Str} (h:sc.names.lookup x=some .cell):∃ c,(cellsFrom n sc.names []).lookup x=some c:=by
 have q:=W.cellsFrom_some sc.names n [] (.inl h)
 exact Option.isSome_iff_exists.mp q
theorem Fp {CX:CXT}{P:Program}{w:World}{K:W.Frag}{mg:Str→Option Value}{base:Heap}{N ps:List Str}{qual:Str}{scope:Scope}{f:Addr}{cd:Value}{A:Around}{outer:List Env}{s s1:Shared}{H:Hp}{E:XK}{us:List Value}{vs:List V}
  (S:FnScope N ps scope) (hd:A.handled=none) (e0:Env0 P w K mg base A outer s H) (hl:vs.length=ps.length) (r:Vals vs us)
  (x:InCallC s s.heap.objs.size (bindL (envOfC qual scope s.heap.objs.size f cd).kindOf (ps.zip us) λ _=>none) (cellsFrom (s.heap.objs.size+1) scope.names []) (bindC (envOfC qual scope s.heap.objs.size f cd).kindOf (ps.zip us) λ _=>none) s1) :
  Inv (nj CX P w K mg base N qual scope f cd A outer s H E) [] (start N vs) H s1:=by
 have hpl:ps.length≤N.length:=by have:=congrArg List.length S.pre;rw[List.length_take] at this;omega
 obtain⟨h1,tk,rfl,hk⟩:=x.done
 have Vh:∀ b:Addr,b ∉ (nj CX P w K mg base N qual scope f cd A outer s H E).ex:=λ b z=>absurd (show b∈([]:List Addr) from z) (by simp)
 refine⟨⟨e0.mod,S.kind,rfl,rfl,Nat.le_refl _,λ y z c h1 h2=>?_,λ y hy=>?_,λ y c _ h=>?_,λ _=>hd,Around.frames_deeper e0.frames,.inr ⟨rfl,rfl⟩,λ b z=>absurd z (Vh b),e0.bs,e0.bsz,λ b _ _=>Vh b,λ b z=>absurd z (Vh b),e0.funs,e0.frf⟩,
  rfl,e0.bare,Un.kept hk,⟨_,x.toInCall.ns,λ i y v h1 h2 h3=>?_⟩,λ y c h=>⟨_,x.cell y c h⟩,e0.hok.fresh (Nat.le_refl _),λ y c h=>?_,λ p hp=>absurd (show p∈([]:List (Addr×Obj)) from hp) (by simp),e0.hok.kept hk,?_⟩
 ·exact name_of_addr x.apart (PySem.mem_of_lookup h1) (PySem.mem_of_lookup h2)
 ·have hy:scope.names.lookup y=some .cell∨scope.names.lookup y=some .free:=hy
  rcases hy with hy | hy
  ·exact yL hy
  ·exact absurd rfl (S.nofree _ (PySem.mem_of_lookup hy))
 ·exact Nat.le_of_lt (x.above y c (PySem.mem_of_lookup h))
 ·have hi:i < vs.length:=by
   unfold start at h2
   by_cases hi:i < vs.length
   ·exact hi
   ·rw[List.getElem?_append_right (by simpa using hi)] at h2
    rw[List.getElem?_replicate] at h2
    split at h2 <;> cases h2
  have ha:vs[i]? = some v:=by
   unfold start at h2
   rw[List.getElem?_append_left (by simpa using hi),List.getElem?_map] at h2
   cases e:vs[i]? with
   | none=>rw[e] at h2;cases h2
   | some a=>rw[e] at h2;cases h2;rfl
  obtain⟨u,hu,rv⟩:=r.get ha
  have hp:ps[i]? = some y:=by
   rw[← S.pre,List.getElem?_take_of_lt (by omega)];exact h1
  have Y9:ps.Nodup:=by rw[← S.pre];exact S.nd.sublist (List.take_sublist _ _)
  refine⟨u,rv,?_⟩
  rcases S.par y (List.mem_of_getElem? hp) with k | k
  ·exact .inl ⟨k,vg Y9 hp hu k⟩
  ·obtain⟨c,e⟩:=yL (n:=s.heap.objs.size+1) k
   refine .inr ⟨.inl k,c,e,?_⟩
   have q:=x.cell y c e
   rw[vh Y9 hp hu (by show scope.names.lookup y≠_;rw[k];decide)] at q
   exact q
 ·exact e0.hok.fresh (Nat.le_of_lt (x.above y c (PySem.mem_of_lookup h)))
 ·unfold start
  show _=N.length
  rw[List.length_append,List.length_map,List.length_replicate]
  omega
theorem Ov {CX:CXT}{P:Program}{w:World}{K:W.Frag}{mg:Str→Option Value}{base:Heap}{k:Nat}{f:Addr}{name qual:Str}{params:Arguments}{body:List Stmt}{scope:Scope}{dV kV doc pm cdv ct oc:Value}{an od:Option Addr}
  {osl:Array (Option Value)} {N ps:List Str} {sp:Sp} (lk:K.lookup f=some ⟨oc,od,.func (W.fnOf name qual params body scope dV kV doc pm an cdv ct),osl⟩) (hcd:W.codeIn K cdv qual=true) (S:FnScope N ps scope)
  (len:∀ vs H Q E,sp vs H Q E→vs.length=ps.length)
  (hbody:∀ (A:Around) (outer:List Env) (s:Shared) (H:Hp) (vs:List V) (Q:VK) (E:XK),Room k (A.deeper (envOfC qual scope s.heap.objs.size f cdv))→sp vs H Q E →
   ∃ t,PSs (nj CX P w K mg base N qual scope f cdv A outer s H E) body t∧t { nx:=λ _ H'=>Q .non H',rt:=Q } (start N vs) H) :
  FnOk P w K mg base CX (k+1) f (W.fnOf name qual params body scope dV kV doc pm an cdv ct) ps sp:=by
 refine⟨len,λ A outer s H args us vs Q E hr e0 hb r hsp=>?_⟩
 have hl:=len _ _ _ _ hsp
 have KX:K.In s.heap:=e0.mod.kin.keeps λ b o e=>(e0.bs b o e).1
 have lim:s.heap.NoLimit:=e0.mod.nolimit.keeps λ b o e=>(e0.bs b o e).1
 have hkind:∀ y∈ps.zip us,scope.names.lookup y.1=some .local∨(scope.names.lookup y.1=some .cell∧((cellsFrom (s.heap.objs.size+1) scope.names []).lookup y.1).isSome=true):=λ ⟨n,v⟩ hy=>by
  rcases S.par n (List.of_mem_zip hy).1 with q | q
  ·exact .inl q
  ·exact .inr ⟨q,W.cellsFrom_some _ _ _ (.inl q)⟩
 refine codeAny_call_function hr.depth (KX _ _ lk) rfl S.co S.gen rfl (W.codeRec_of KX hcd) (hb _ _ _ _ ?_)
 refine wpAny_newFunctionEnv_cells S.kind hkind λ env he s1 x=>?_
 subst he
 refine⟨lim.keeps x.toInCall.keep,codeAny_func ?_⟩
 obtain⟨t,ht,hq⟩:=hbody A outer s H vs Q E (hr.deeper _) hsp
 have I:Inv (nj CX P w K mg base N qual scope f cdv A outer s H E) [] (start N vs) H s1:=Fp S hr.hd e0 hl r x
 refine wpAny_mono (ht [] s1 (start N vs) H _ I hq) (λ fl s' hs=>?_) λ e s' hs=>hs
 have fin:∀ {σ':St} {H':Hp} {v:V} {u:Value},Inv (nj CX P w K mg base N qual scope f cdv A outer s H E) [] σ' H' s'→RelV v u→Q v H'→CE outer P w H s Q u s':=
  λ {σ' H' v u} J rv q=>⟨v,H',J.os,J.bare,J.base,J.hok,rv,q⟩
 cases fl with
 | ret u=>
  obtain⟨v,σ',H',J,rv,q⟩:=hs
  exact fin J rv q
 | next=>
  obtain⟨σ',H',J,q⟩:=hs
  exact fin (v:=V.non) (u:=Value.none) J rfl q
 | brk=>
  obtain⟨_,_,_,q⟩:=hs
  exact False.elim q
 | cont=>
  obtain⟨_,_,_,q⟩:=hs
  exact False.elim q
end L2
namespace L2
open PySem PySem.Spec PyProof.Rows
section
variable {X:Cx}{x:Str}{p pos:Pos}{e:Expr}{es:List Expr}{t:TA}{id T:String}{r:List V→Hp→VK→Prop}
noncomputable def Xr (r:List V→Hp→VK→Prop) (t:TA):TE:=λ σ H Q=>t σ H λ vs H1=>r vs H1 Q
theorem Hq (hc:CallR X (.builtin id) r) (hg:Gl X x) (hm:X.mg x=none) (hv:bootBuiltins x=some (.builtin id)) (ha:PA X (e::es) t) (hn:x≠"__name__":=by decide) (hdb:(x==("__debug__" : Str))=false:=by decide)
  (he:starEach (e::es) X.env=(false,eval e X.env)::starEach es X.env:=by rfl) (hpl:(backTo pos (starEach es X.env)).any (·.1)=false:=by rfl):PE X (.Call (.Name x p) (e::es) [] pos) (Xr r t):=by
 intro pins s σ H Q I h
 refine wpAny_Call_Name_kw (pI I hg hm hv ?_ hn hdb)
 exact PyProof.Rows.callWith_builtin1 (cY (ha pos pins s σ H _ I h) λ us s1 ⟨vs,H1,I1,r1,q1⟩=>hc pins s1 σ H1 vs us Q I1 r1 q1) he hpl
theorem vm (hc:CallR X (.type T) r) (hg:Gl X x) (hm:X.mg x=none) (hv:bootBuiltins x=some (.type T)) (ha:PA X (e::es) t) (hn:x≠"__name__":=by decide) (hdb:(x==("__debug__" : Str))=false:=by decide)
  (he:starEach (e::es) X.env=(false,eval e X.env)::starEach es X.env:=by rfl) (hpl:(backTo pos (starEach es X.env)).any (·.1)=false:=by rfl):PE X (.Call (.Name x p) (e::es) [] pos) (Xr r t):=by
 intro pins s σ H Q I h
 refine wpAny_Call_Name_kw (pI I hg hm hv ?_ hn hdb)
 exact PyProof.Rows.callWith_type1 (cY (ha pos pins s σ H _ I h) λ us s1 ⟨vs,H1,I1,r1,q1⟩=>hc pins s1 σ H1 vs us Q I1 r1 q1) he hpl
end
end L2
namespace L2
open PySem PySem.Spec PyProof.Rows
section
variable {κ:Type} [DecidableEq κ]
noncomputable def nq (kvs:List (κ×V)) (k:κ):Option V:=(kvs.find? λ kv=>decide (kv.1=k)).map (·.2)
noncomputable def putK (kvs:List (κ×V)) (k:κ) (v:V):List (κ×V):=
 if (kvs.any λ kv=>decide (kv.1=k))=true then kvs.map (λ kv=>if kv.1=k then (kv.1,v) else kv) else kvs++[(k,v)]
theorem rC {p:κ×V}{r:List (κ×V)}{k:κ} (e:p.1=k):nq (p::r) k=some p.2:=by simp[nq,List.find?_cons,e]
theorem rE {p:κ×V}{r:List (κ×V)}{k:κ} (e:¬ p.1=k):nq (p::r) k=nq r k:=by simp[nq,List.find?_cons,e]
theorem yM (kvs:List (κ×V)) (k:κ) (v:V):(putK kvs k v).length≤kvs.length+1:=by
 unfold putK
 split
 ·rw[List.length_map];omega
 ·rw[List.length_append,List.length_cons,List.length_nil];omega
theorem RelO.isSome_eq {o:Option V}{u:Option Value} (r:RelO o u):o.isSome=u.isSome:=by
 cases o with
 | none=>cases u with
  | none=>rfl
  | some _=>exact(show False from r).elim
 | some _=>cases u with
  | none=>exact(show False from r).elim
  | some _=>rfl
theorem RelO.getD {o:Option V}{u:Option Value}{d:V}{d':Value} (r:RelO o u) (rd:RelV d d'):RelV (o.getD d) (u.getD d'):=by
 cases o with
 | none=>cases u with
  | none=>exact rd
  | some _=>exact(show False from r).elim
 | some _=>cases u with
  | none=>exact(show False from r).elim
  | some _=>exact r
theorem KV.val {kvs:List (κ×V)}{vs:List (κ×Value)} (r:KV kvs vs) (k:κ):RelO (nq kvs k) (valueAt vs k):=by
 unfold KV at r
 induction r with
 | nil=>exact True.intro
 | @cons p q ps qs h t ih=>
  obtain⟨h1,h2⟩:=h
  by_cases e:p.1=k
  ·have e':q.1=k:=h1.symm.trans e
   have b:valueAt (q::qs) k=some q.2:=by simp[valueAt,List.find?_cons,e']
   rw[rC e,b];exact h2
  ·have e':¬ q.1=k:=λ z=>e (h1.trans z)
   have b:valueAt (q::qs) k=valueAt qs k:=by simp[valueAt,List.find?_cons,e']
   rw[rE e,b];exact ih
theorem KV.any {kvs:List (κ×V)}{vs:List (κ×Value)} (r:KV kvs vs) (k:κ):(kvs.any λ kv=>decide (kv.1=k))=vs.any λ kv=>decide (kv.1=k):=by
 unfold KV at r
 induction r with
 | nil=>rfl
 | cons h t ih=>rw[List.any_cons,List.any_cons,ih,h.1]
theorem KV.repl {kvs:List (κ×V)}{vs:List (κ×Value)} (r:KV kvs vs) (k:κ) {y:V}{u:Value} (ry:RelV y u) :
  KV (kvs.map λ kv=>if kv.1=k then (kv.1,y) else kv) (vs.map λ kv=>if kv.1=k then (kv.1,u) else kv):=by
 unfold KV at r ⊢
 induction r with
 | nil=>exact .nil
 | @cons p q ps qs h t ih=>
  rw[List.map_cons,List.map_cons]
  refine .cons ?_ ih
  obtain⟨h1,h2⟩:=h
  by_cases e:p.1=k
  ·rw[if_pos e,if_pos (h1.symm.trans e)];exact⟨h1,ry⟩
  ·rw[if_neg e,if_neg (λ z=>e (h1.trans z))];exact⟨h1,h2⟩
theorem KV.put {kvs:List (κ×V)}{vs:List (κ×Value)} (r:KV kvs vs) (k:κ) {y:V}{u:Value} (ry:RelV y u):KV (putK kvs k y) (stored vs k u):=by
 unfold putK stored
 rw[r.any k]
 by_cases e:(vs.any λ kv=>decide (kv.1=k))=true
 ·rw[if_pos e,if_pos e];exact r.repl k ry
 ·rw[if_neg e,if_neg e];exact Paired.snoc r ⟨rfl,ry⟩
theorem KV.length {kvs:List (κ×V)}{vs:List (κ×Value)} (r:KV kvs vs):kvs.length=vs.length:=Paired.length r
end
theorem vo {P:Program}{w:World}{k:Key}{u:Value} (r:RelV (kV k) u):(cj P w).is k u=true:=by
 cases k with
 | inl i=>obtain⟨t,e⟩:=(show ∃ t,u=Value.int i t from r);subst e;exact yF P w i t
 | inr x=>obtain⟨t,e⟩:=(show ∃ t,u=Value.str x t from r);subst e;exact yG P w x t
theorem vq {P:Program}{w:World}:∀ {ks:List Key}{us:List Value},Vals (ks.map kV) us→ItemsAre (cj P w) ks us
 | [],_,r=>by rw[List.map_nil] at r;cases r;exact .nil
 | k::ks,_,r=>by
  rw[List.map_cons] at r
  cases r with
  | cons h t=>exact .cons (vo h) (vq t)
abbrev KT (H:Hp):List (List Key×V)→List (List Key×Addr×Value)→Prop:=Paired λ p q=>p.1=q.1∧H q.2.1=some (.tup (p.1.map kV))∧RelV p.2 q.2.2
theorem KT.val {H:Hp}{kvs:List (List Key×V)}{xs:List (List Key×Addr×Value)} (r:KT H kvs xs) (k:List Key):RelO (nq kvs k) ((atKey xs k).map (·.2)):=by
 induction r with
 | nil=>exact True.intro
 | @cons p q ps qs h t ih=>
  obtain⟨h1,_,h2⟩:=h
  by_cases e:p.1=k
  ·have e':q.1=k:=h1.symm.trans e
   have b:atKey (q::qs) k=some q.2:=by simp[atKey,List.find?_cons,e']
   rw[rC e,b];exact h2
  ·have e':¬ q.1=k:=λ z=>e (h1.trans z)
   have b:atKey (q::qs) k=atKey qs k:=by simp[atKey,List.find?_cons,e']
   rw[rE e,b];exact ih
theorem KT.repl {H:Hp}{kvs:List (List Key×V)}{xs:List (List Key×Addr×Value)} (r:KT H kvs xs) (k:List Key) {y:V}{u:Value} (ry:RelV y u) :
  KT H (kvs.map λ kv=>if kv.1=k then (kv.1,y) else kv) (xs.map (putAt k u)):=by
 induction r with
 | nil=>exact .nil
 | @cons p q ps qs h t ih=>
  rw[List.map_cons,List.map_cons]
  refine .cons ?_ ih
  obtain⟨h1,h2,h3⟩:=h
  unfold putAt
  by_cases e:p.1=k
  ·rw[if_pos e,if_pos (h1.symm.trans e)];exact⟨h1,h2,ry⟩
  ·rw[if_neg e,if_neg (λ z=>e (h1.trans z))];exact⟨h1,h2,h3⟩
theorem KT.keeps {H H':Hp}{kvs:List (List Key×V)}{xs:List (List Key×Addr×Value)} (r:KT H kvs xs) (ht:∀ b ys,H b=some (.tup ys)→H' b=some (.tup ys)):KT H' kvs xs:=
 Paired.mapP r λ _ _ z=>⟨z.1,ht _ _ z.2.1,z.2.2⟩
section
variable {P:Program}{w:World}{H:Hp}{h:Heap}{a:Addr}
theorem Ow {u:HO} (ok:HOk P w H h) (e:Rd H a u):ObjOk P w H h a u:=e.ok ok
theorem qu {kvs:List (Key×V)} (ok:HOk P w H h) (e:Rd H a (.dK kvs)):kvs.length≤sizeLine∧(a==sysModules)=false∧∃ vs,KV kvs vs∧h.DictOf (cj P w) a vs:=
 show ObjOk P w H h a (.dK kvs) from Ow ok e
theorem Vi {kvs:List (Key×V)} (ok:HOk P w H h) (e:H a=some (.dK kvs)):kvs.length≤sizeLine∧(a==sysModules)=false∧∃ vs,KV kvs vs∧h.DictOf (cj P w) a vs:=qu ok (.inl e)
theorem rF {ks:List Key} (ok:HOk P w H h) (e:H a=some (.tup (ks.map kV))):(tupleKind (cj P w)).is h ks a:=by
 obtain⟨_,its,r,o,h1,h2,n,h3⟩:=(show ObjOk P w H h a (.tup (ks.map kV)) from ok a _ e)
 exact⟨o,its.toArray,n,h1,h2,h3,by simpa using vq r⟩
theorem yN {kvs:List (List Key×V)} (ok:HOk P w H h) (e:Rd H a (.dT kvs)):kvs.length≤sizeLine∧(a==sysModules)=false ∧
  ∃ xs,KT H kvs xs∧h.DictOfH (tupleKind (cj P w)) a xs:=by
 obtain⟨z,y,xs,r,o,es,ep,h1,h2,h3,h4,h5⟩:=(show ObjOk P w H h a (.dT kvs) from Ow ok e)
 refine⟨z,y,xs,r,o,es,ep,h1,h2,h3,h4,λ x hx=>?_,h5⟩
 have all:∀ {l:List (List Key×V)} {m:List (List Key×Addr×Value)},KT H l m→∀ x∈m,(tupleKind (cj P w)).is h x.1 x.2.1:=by
  intro l m q
  induction q with
  | nil=>intro x hx;exact nomatch hx
  | @cons p q ps qs hq t ih=>
   intro x hx
   rcases List.mem_cons.mp hx with e | hx
   ·subst e
    exact rF ok (by rw[← hq.1];exact hq.2.1)
   ·exact ih x hx
 exact all r x hx
end
noncomputable def DGet (H:Hp) (a:Addr) (y:V) (r:Option V):Prop:=
 (∃ kvs k,Rd H a (.dK kvs)∧y=kV k∧r=nq kvs k)∨∃ kvs k b,Rd H a (.dT kvs)∧y = .ref b∧H b=some (.tup (k.map kV))∧r=nq kvs k
noncomputable def DPut (H:Hp) (a:Addr) (y v:V) (H':Hp):Prop:=
 (∃ kvs k,H a=some (.dK kvs)∧y=kV k∧kvs.length < sizeLine∧H'=upd H a (.dK (putK kvs k v))) ∨
 ∃ kvs k b,H a=some (.dT kvs)∧y = .ref b∧H b=some (.tup (k.map kV))∧kvs.length < sizeLine∧H'=upd H a (.dT (putK kvs k v))
theorem DGet.k {H:Hp}{a:Addr}{kvs:List (Key×V)}{k:Key} (e:H a=some (.dK kvs)):DGet H a (kV k) (nq kvs k):=.inl ⟨kvs,k,.inl e,rfl,rfl⟩
theorem DGet.t {H:Hp}{a b:Addr}{kvs:List (List Key×V)}{k:List Key} (e:H a=some (.dT kvs)) (eb:H b=some (.tup (k.map kV))):DGet H a (.ref b) (nq kvs k):=.inr ⟨kvs,k,b,.inl e,rfl,eb,rfl⟩
theorem DPut.k {H:Hp}{a:Addr}{kvs:List (Key×V)}{k:Key}{v:V} (e:H a=some (.dK kvs)) (hl:kvs.length < sizeLine):DPut H a (kV k) v (upd H a (.dK (putK kvs k v))):=.inl ⟨kvs,k,e,rfl,hl,rfl⟩
theorem DPut.t {H:Hp}{a b:Addr}{kvs:List (List Key×V)}{k:List Key}{v:V} (e:H a=some (.dT kvs)) (eb:H b=some (.tup (k.map kV))) (hl:kvs.length < sizeLine) :
  DPut H a (.ref b) v (upd H a (.dT (putK kvs k v))):=.inr ⟨kvs,k,b,e,rfl,eb,hl,rfl⟩
section
variable {X:Cx}{pins:List (Addr×Obj)}{σ:St}{H:Hp}{s:Shared}{a:Addr}{y v:V}{u r:Value}{o:Option V}{A:Around}{E:Value→Shared→Prop}
theorem Inv.big (I:Inv X pins σ H s):sysModules < s.heap.objs.size:=by
 have h:mainGlobals < s.heap.objs.size:=(I.mod.glob.keeps I.bk).lt
 exact Nat.lt_trans (by decide) h
theorem Fq {Q:Value→Shared→Prop} (hu:A.units+1 < cLine) (I:Inv X pins σ H s) (g:DGet H a y (some v)) (ry:RelV y u) (h:∀ w' s',Inv X pins σ H s'→RelV v w'→Q w' s') :
  wpAny (model X.prog X.w) A (getItem (.ref a) u) Q E s:=by
 rcases g with ⟨kvs,k,e,ey,l⟩ | ⟨kvs,k,b,e,ey,eb,l⟩
 ·subst ey
  obtain⟨z,hd,vs,rel,dd⟩:=qu I.hok e
  obtain⟨w',hw,rG⟩:=RelO.some_of (v:=v) (o:=valueAt vs k) (by rw[l];exact rel.val k)
  exact wpAny_getItem_of (vo ry) dd.mapOf hw (h w' _ (I.tok _) rG)
 ·subst ey
  cases (show u=Value.ref b from ry)
  obtain⟨z,hd,xs,rel,dd⟩:=yN I.hok e
  obtain⟨w',hw,rG⟩:=RelO.some_of (v:=v) (o:=(atKey xs k).map (·.2)) (by rw[l];exact rel.val k)
  obtain⟨p,hp,hp2⟩:=Option.map_eq_some_iff.mp hw
  refine wpAny_getItem_heap (tupleKind_room_in1 hu) (rF I.hok eb) dd hp ?_
  rw[hp2]
  exact h w' _ (I.tok _) rG
theorem Xu {Q:Value→Shared→Prop} (hu:A.units+1 < cLine) (I:Inv X pins σ H s) (g:DGet H a y o) (ry:RelV y u) (h:∀ s',Inv X pins σ H s'→Q (.bool o.isSome) s') :
  wpAny (model X.prog X.w) A (compareOp .In u (.ref a)) Q E s:=by
 rcases g with ⟨kvs,k,e,ey,l⟩ | ⟨kvs,k,b,e,ey,eb,l⟩
 ·subst ey
  obtain⟨z,hd,vs,rel,dd⟩:=qu I.hok e
  refine wpAny_in_of (vo ry) hd dd.mapOf ?_
  rw[← (rel.val k).isSome_eq,← l]
  exact h _ (I.tok _)
 ·subst ey
  cases (show u=Value.ref b from ry)
  obtain⟨z,hd,xs,rel,dd⟩:=yN I.hok e
  refine wpAny_in_heap (tupleKind_room_in1 hu) (rF I.hok eb) hd dd ?_
  have q:=(rel.val k).isSome_eq
  rw[Option.isSome_map] at q
  rw[← q,← l]
  exact h _ (I.tok _)
theorem Le {h':Heap}{t':Nat}{ob:HO} (I:Inv X pins σ H s) (mu:Uw (H a)) (hs:Heap.SameBut a s.heap h') (he:∃ q,h'.get? a=some q) (new:ObjOk X.prog X.w (upd H a ob) h' a ob) :
  Inv X pins σ (upd H a ob) { s with heap:=h',toks:=t' }:=
 I.write (x:=a) (e:=a) mu (.inl rfl) (λ b q hb z=>(hs.2 b hb).trans z) he new
theorem Q8 {P:Program}{w:World}{H':Hp}{h':Heap}{kvs:List (Key×V)}{vs:List (Key×Value)} (z:kvs.length≤sizeLine) (hd:(a==sysModules)=false) (rel:KV kvs vs) (dd:h'.DictOf (cj P w) a vs) :
  ObjOk P w H' h' a (.dK kvs):=⟨z,hd,vs,rel,dd⟩
end
section
variable {X:Cx}{pins:List (Addr×Obj)}{σ:St}{H:Hp}{s:Shared}{a:Addr}{kvs:List (Key×V)}{k:Key}{u:Value}{A:Around}{E:Value→Shared→Prop}
theorem Vj {Q:Value→Shared→Prop} (I:Inv X pins σ H s) (e:Rd H a (.dK kvs)) (h:∀ t s',Inv X pins σ H s'→Q (.int kvs.length t) s'):wpAny (model X.prog X.w) A (call (.builtin "len") [.ref a]) Q E s:=by
 obtain⟨z,hd,vs,rel,dd⟩:=qu I.hok e
 refine call_len_dict hd dd (by rw[← rel.length];rw[sizeLine_eq] at z;omega) ?_
 rw[← rel.length]
 exact h _ _ (I.tok _)
end
theorem qw {X:Cx}{pins:List (Addr×Obj)}{σ:St}{H:Hp}{s:Shared}{a:Addr}{y:V}{o:Option V} (I:Inv X pins σ H s) (g:DGet H a y o):s.TypeIs (.ref a) "dict":=by
 rcases g with ⟨kvs,k,e,_,_⟩ | ⟨kvs,k,b,e,_,_,_⟩
 ·obtain⟨_,_,vs,_,dd⟩:=qu I.hok e
  exact dd.typeIs
 ·obtain⟨_,_,xs,_,dd⟩:=yN I.hok e
  exact dd.typeIs
section
variable {X:Cx}{o i e value:Expr}{pos pos' tpos:Pos}{td ty tv:TE}
end
theorem Hr {P:Program}{w:World}{H:Hp} (h:Heap) (hb:sysModules < h.objs.size):ObjOk P w H (h.push { cls:=.type "dict",data:=.dict #[] }) h.objs.size (.dK []):=
 ⟨Nat.zero_le _,beq_eq_false_iff_ne.mpr (Ne.symm (Nat.ne_of_lt hb)),[],.nil,Heap.DictOf.new h⟩
section
variable {X:Cx}{pos:Pos}
end
noncomputable def tPairs:List (TE×TE)→St→Hp→(List (V×V)→Hp→Prop)→Prop
 | [],_,H,Q=>Q [] H
 | (tk,tv)::r,σ,H,Q=>tk σ H λ x H1=>tv σ H1 λ y H2=>tPairs r σ H2 λ ps H3=>Q ((x,y)::ps) H3
abbrev VV:List (V×V)→List (Value×Value)→Prop:=Paired λ p q=>RelV p.1 q.1∧RelV p.2 q.2
noncomputable def PPs (X:Cx) (pos:Pos) (keys:List (Option Expr)) (values:List Expr) (trs:List (TE×TE)):Prop:=
 ∀ (pins:List (Addr×Obj)) (s:Shared) (σ:St) (H:Hp) (Q:List (V×V)→Hp→Prop),Inv X pins σ H s→tPairs trs σ H Q →
  wpAny (model X.prog X.w) X.A (evalPairs (pairTrees keys values X.env pos)) (λ vs s'=>∃ ps H',Inv X pins σ H' s'∧VV ps vs∧Q ps H') X.xe s
theorem Lf {X:Cx}{pos:Pos}:PPs X pos [] [] []:=λ pins s σ H Q I h=>pairTrees_nil_walk ⟨[],H,I,.nil,h⟩
theorem Hs {X:Cx}{pos:Pos}{k v:Expr}{ks:List (Option Expr)}{vs:List Expr}{tk tv:TE}{trs:List (TE×TE)} (hk:PE X k tk) (hv:PE X v tv) (hr:PPs X pos ks vs trs) :
  PPs X pos (some k::ks) (v::vs) ((tk,tv)::trs):=λ pins s σ H Q I h=>
 pairTrees_cons_walk (cY (hk pins s σ H _ I h) λ u s1 ⟨x,H1,I1,rx,q1⟩=>cY (hv pins s1 σ H1 _ I1 q1) λ w2 s2 ⟨y,H2,I2,ry,q2⟩=>
  cY (hr pins s2 σ H2 _ I2 q2) λ ws s3 ⟨ps,H3,I3,rel,q3⟩=>⟨(x,y)::ps,H3,I3,.cons ⟨rx,ry⟩ rel,q3⟩)
noncomputable def kZ (kvs more:List (Key×V)):List (Key×V):=more.foldl (λ acc kv=>putK acc kv.1 kv.2) kvs
theorem KV.merge:∀ {more:List (Key×V)}{rs:List (Key×Value)}{kvs:List (Key×V)}{vs:List (Key×Value)},KV more rs→KV kvs vs→KV (kZ kvs more) (merged vs rs):=by
 intro more rs kvs vs r
 unfold KV at r
 induction r generalizing kvs vs with
 | nil=>intro q;exact q
 | @cons p q ps qs h t ih=>
  intro r0
  have e:KV (putK kvs p.1 p.2) (stored vs q.1 q.2):=by
   have:=r0.put p.1 h.2
   rw[← h.1];exact this
  exact ih e
theorem mX:∀ (more kvs:List (Key×V)),(kZ kvs more).length≤kvs.length+more.length
 | [],kvs=>by show kvs.length≤kvs.length+0;omega
 | p::r,kvs=>by
  have h1:=mX r (putK kvs p.1 p.2)
  have h2:=yM kvs p.1 p.2
  show (kZ (putK kvs p.1 p.2) r).length≤_
  rw[List.length_cons];omega
theorem rH {P:Program}{w:World}:∀ {kvs:List (Key×V)}{ws:List (Value×Value)},VV (kvs.map λ kv=>(kV kv.1,kv.2)) ws→∃ rs,Carries (cj P w) ws rs∧KV kvs rs
 | [],_,r=>by rw[List.map_nil] at r;cases r;exact⟨[],True.intro,.nil⟩
 | p::kvs,_,r=>by
  rw[List.map_cons] at r
  cases r with
  | @cons a b as bs h t=>
   obtain⟨rs,c,q⟩:=rH (P:=P) (w:=w) t
   obtain⟨b1,b2⟩:=b
   exact⟨(p.1,b2)::rs,⟨vo h.1,rfl,c⟩,.cons ⟨rfl,h.2⟩ q⟩
noncomputable def Vk (trs:List (TE×TE)):TE:=λ σ H Q=>∀ p,H p=none→tPairs trs σ (upd H p (.dK [])) λ ps H2=>H2 p=some (.dK [])∧∃ kvs:List (Key×V),ps=kvs.map (λ kv=>(kV kv.1,kv.2))∧kvs.length≤15∧Q (.ref p) (upd H2 p (.dK (kZ [] kvs)))
theorem Lg {X:Cx}{pos:Pos}{keys:List (Option Expr)}{values:List Expr}{trs:List (TE×TE)} (h:PPs X pos keys values trs) (hall:keys.all (·.isSome)=true) (hl:keys.length=values.length) (h0:keys≠[])
  (h15:keys.length≤15):PE X (.Dict keys values pos) (Vk trs):=by
 intro pins s σ H Q I q
 have hn:=I.hok.fresh (Nat.le_refl s.heap.objs.size)
 have I1:=I.laid (a:=s.heap.objs.size) (o:=.dK []) (h':=s.heap.push { cls:=.type "dict",data:=.dict #[] }) (t':=s.toks) (λ _ _ q=>Heap.get?_push_of_some _ q) (Nat.le_refl _) (Hr s.heap I.big)
 refine wpAny_Dict_walk (knd:=cj X.prog X.w) hall hl h0 h15 (cY (h pins _ σ _ _ I1 (q _ hn)) λ ws s2 ⟨ps,H2,I2,rel,e,kvs,ep,lk,q2⟩=>?_)
 subst ep
 obtain⟨rs,c,rk⟩:=rH (P:=X.prog) (w:=X.w) rel
 obtain⟨z,hd,vs0,r0,dd⟩:=Vi I2.hok e
 cases r0
 refine⟨rs,c,dd,λ h' W4 hs=>⟨.ref s.heap.objs.size,_,?_,rfl,q2⟩⟩
 have hz:(kZ [] kvs).length≤sizeLine:=by
  have h1:=mX kvs []
  rw[List.length_nil] at h1
  rw[sizeLine_eq];omega
 have he:∃ q,h'.get? s.heap.objs.size=some q:=let ⟨q,_,_,hq,_⟩:=W4;⟨q,hq⟩
 exact Le I2 (by rw[e];exact True.intro) hs he (Q8 hz hd (rk.merge .nil) W4)
structure M1 (X:Cx) (o:Expr) (m:Str) (apos:Pos) (e:Expr) (cpos:Pos):Prop where
 base:attributeBase o m X.env (eval o X.env)=eval o X.env
 few:((backTo cpos (starEach [e] X.env)).all (λ x=>!x.1)&&(backToKw cpos (keywordEach [] X.env)).all (λ x=>x.1.isSome)
  && decide (([e]:List Expr).length+([]:List Keyword).length+(if ([]:List Keyword).isEmpty then 0 else 1) < 30))=true
 line:(apos.endLine==cpos.line)=true
 trees:backTo cpos (starEach [e] X.env)=[(false,eval e X.env)]
structure M2 (X:Cx) (o:Expr) (m:Str) (apos:Pos) (e f:Expr) (cpos:Pos):Prop where
 base:attributeBase o m X.env (eval o X.env)=eval o X.env
 few:((backTo cpos (starEach [e,f] X.env)).all (λ x=>!x.1)&&(backToKw cpos (keywordEach [] X.env)).all (λ x=>x.1.isSome)
  && decide (([e,f]:List Expr).length+([]:List Keyword).length+(if ([]:List Keyword).isEmpty then 0 else 1) < 30))=true
 line:(apos.endLine==cpos.line)=true
 trees:backTo cpos (starEach [e,f] X.env)=[(false,eval e X.env),(false,eval f X.env)]
section
variable {X:Cx}{pins:List (Addr×Obj)}{σ:St}{H:Hp}{s:Shared}{a:Addr}{y d:V}{u r:Value}{o:Option V}{A:Around}{E:Value→Shared→Prop}
theorem Ht {Q:Value→Shared→Prop} (hu:A.units+1 < cLine) (I:Inv X pins σ H s) (g:DGet H a y o) (ry:RelV y u) (h:∀ w' s',Inv X pins σ H s'→RelV (o.getD .non) w'→Q w' s') :
  wpAny (model X.prog X.w) A (call (.builtin "dict.get") [.ref a,u]) Q E s:=by
 rcases g with ⟨kvs,k,e,ey,l⟩ | ⟨kvs,k,b,e,ey,eb,l⟩
 ·subst ey
  obtain⟨z,hd,vs,rel,dd⟩:=qu I.hok e
  refine call_meetsIn PySem.F.slot_dict_get dd.typeIs PySem.F.entry_dict_get (PySem.F.args_dict_get_2 _ _) (meets_dict_get (cj X.prog X.w) a (vo ry) hd) ⟨_,dd.mapOf,h _ _ (I.tok _) ?_⟩
  rw[l]
  exact(rel.val k).getD rfl
 ·subst ey
  cases (show u=Value.ref b from ry)
  obtain⟨z,hd,xs,rel,dd⟩:=yN I.hok e
  refine call_meetsIn PySem.F.slot_dict_get dd.typeIs PySem.F.entry_dict_get (PySem.F.args_dict_get_2 _ _) (meetsH_dict_get (tupleKind (cj X.prog X.w)) a b hd) ⟨tupleKind_room_in1 hu,k,xs,rF I.hok eb,dd,h _ _ (I.tok _) ?_⟩
  rw[l]
  exact(rel.val k).getD rfl
theorem Hu {Q:Value→Shared→Prop} (hu:A.units+1 < cLine) (I:Inv X pins σ H s) (g:DGet H a y o) (ry:RelV y u) (rd:RelV d r) (h:∀ w' s',Inv X pins σ H s'→RelV (o.getD d) w'→Q w' s') :
  wpAny (model X.prog X.w) A (call (.builtin "dict.get") [.ref a,u,r]) Q E s:=by
 rcases g with ⟨kvs,k,e,ey,l⟩ | ⟨kvs,k,b,e,ey,eb,l⟩
 ·subst ey
  obtain⟨z,hd,vs,rel,dd⟩:=qu I.hok e
  refine call_meetsIn PySem.F.slot_dict_get dd.typeIs PySem.F.entry_dict_get (PySem.F.args_dict_get_3 _ _ _) (meets_dict_get_default (cj X.prog X.w) a (vo ry) hd r) ⟨_,dd.mapOf,h _ _ (I.tok _) ?_⟩
  rw[l]
  exact(rel.val k).getD rd
 ·subst ey
  cases (show u=Value.ref b from ry)
  obtain⟨z,hd,xs,rel,dd⟩:=yN I.hok e
  refine call_meetsIn PySem.F.slot_dict_get dd.typeIs PySem.F.entry_dict_get (PySem.F.args_dict_get_3 _ _ _) (meetsH_dict_get_default (tupleKind (cj X.prog X.w)) a b hd r) ⟨tupleKind_room_in1 hu,k,xs,rF I.hok eb,dd,h _ _ (I.tok _) ?_⟩
  rw[l]
  exact(rel.val k).getD rd
end
section
variable {X:Cx}{o e f:Expr}{apos cpos:Pos}{td ty tx:TE}
end
section
variable {X:Cx}{pins:List (Addr×Obj)}{σ:St}{H:Hp}{s:Shared}{a:Addr}{kvs:List (Key×V)}{A:Around}{E:Value→Shared→Prop}
end
section
variable {X:Cx}{pins:List (Addr×Obj)}{σ:St}{H:Hp}{s:Shared}{a:Addr}{y:V}{u:Value}{A:Around}{E:Value→Shared→Prop}
end
end L2
namespace HT
open PySem PyProof.Rows
section
open PySem.SeqAt
open PySem.AutoSeq1 (wpAny_loadPart')
open PySem.MeetsSeq PySem.MeetsSeq2 PySem.MeetsSeq3
end
section
variable {prog:Program}{w:World}{A:Around}{E:Value→Shared→Prop}{s:Shared}
theorem cat_tup {t b:Addr}{vs ws:List Value}{Q:Value→Shared→Prop} (ht:IsTup s.heap t vs.toArray) (hb:IsTup s.heap b ws.toArray) (hv:vs≠[])
  (h1:ws=[]→Q (.ref t) s) (h2:ws≠[]→Q (.ref s.heap.objs.size) { s with heap:=s.heap.push { cls:=.type "tuple",data:=.seq (vs++ws).toArray } })
  (hsz:vs.length+ws.length≤sizeLine):wpAny (model prog w) A (binaryOp .Add (.ref t) (.ref b)) Q E s:=by
 obtain⟨⟨cls,dd,data,sl⟩,ho,hc,n,hd⟩:=id ht
 obtain⟨⟨cls2,dd2,data2,sl2⟩,ho2,hc2,n2,hd2⟩:=id hb
 simp only at hc hd hc2 hd2
 subst hc hd hc2 hd2
 have e:vs.toArray++ws.toArray=(vs++ws).toArray:=by simp
 by_cases hw:ws=[]
 ·exact concat_meets ⟨_,ho,rfl⟩ ⟨_,ho2,rfl⟩ noFill_tuple_add seq_tuple_add PySem.F.slot_tuple_add PySem.F.entry_tuple_add (PySem.F.args_tuple_add_2 _ _)
   (tuple_addW1 t b vs.toArray ws.toArray n n2 dd dd2 sl sl2 (by simpa using hv) (by simp[hw])) ⟨ho,ho2,h1 hw⟩
 ·refine concat_meets ⟨_,ho,rfl⟩ ⟨_,ho2,rfl⟩ noFill_tuple_add seq_tuple_add PySem.F.slot_tuple_add PySem.F.entry_tuple_add (PySem.F.args_tuple_add_2 _ _)
   (tuple_addW2 t b vs.toArray ws.toArray n n2 dd dd2 sl sl2 (by simpa using hv) (by simpa using hw) (by rw[List.size_toArray,List.size_toArray];exact hsz)) ⟨ho,ho2,?_⟩
  rw[e]
  exact h2 hw
noncomputable def sIx (n d:Nat):Option Int→Nat
 | none=>d
 | some v=>if v < 0 then (v+(n:Int)).toNat else min v.toNat n
theorem sIx_none (n d:Nat):sIx n d none=d:=rfl
theorem sIx_nat (n d k:Nat):sIx n d (some (k:Int))=min k n:=by
 show (if (k:Int) < 0 then ((k:Int)+(n:Int)).toNat else min (k:Int).toNat n)=min k n
 rw[if_neg (by omega),Int.toNat_natCast]
theorem Q9 (n d:Nat) (hd:d≤n) (o:Option Int):sIx n d o≤n:=by
 cases o with
 | none=>exact hd
 | some v=>
  show (if v < 0 then (v+(n:Int)).toNat else min v.toNat n)≤n
  by_cases hv:v < 0
  ·rw[if_pos hv];omega
  ·rw[if_neg hv];exact Nat.min_le_right _ _
theorem Dn (v:Int) (n d:Nat):(if v < 0 then max (v+(n:Int)) 0 else min v (n:Int))=((sIx n d (some v):Nat):Int):=by
 show (if v < 0 then max (v+(n:Int)) 0 else min v (n:Int))=(((if v < 0 then (v+(n:Int)).toNat else min v.toNat n):Nat):Int)
 by_cases hv:v < 0
 ·simp only [if_pos hv];omega
 ·simp only [if_neg hv];omega
theorem Bs (lo hi:Option Int) (n:Nat):Builtin.Slice.sliceAdjust lo hi 1 (n:Int)=(((sIx n 0 lo:Nat):Int),((sIx n n hi:Nat):Int)):=by
 have h1:¬ ((1:Int) < 0):=by omega
 unfold Builtin.Slice.sliceAdjust
 simp only [h1,if_false]
 refine Prod.ext ?_ ?_
 ·cases lo with
  | none=>rfl
  | some v=>exact Dn v n 0
 ·cases hi with
  | none=>rfl
  | some v=>exact Dn v n n
theorem Bt (i j:Nat):Builtin.Slice.slicePlaces (i:Int) (j:Int) 1=j - i:=by
 unfold Builtin.Slice.slicePlaces
 have h1:(1:Int) > 0:=by omega
 simp only [h1,if_true,Int.ediv_one]
 split <;> omega
theorem rJ {v:Value}{o:Option Int}{Q:Option Int→Shared→Prop} (p:IsPart v o) (h:Q o s):wpAny (model prog w) A (Builtin.Slice.slicePartIndex v) Q E s:=by
 cases p with
 | none=>exact slicePart_none h
 | int i t=>exact slicePart_int h
theorem pN {sl:Addr}{vl vu:Value}{lo hi:Option Int}{n:Nat}{Q:Int×Int×Nat→Shared→Prop} (hs:s.heap.IsSliceOf sl vl vu .none) (pl:IsPart vl lo) (pu:IsPart vu hi)
  (h:Q (((sIx n 0 lo:Nat):Int),1,sIx n n hi - sIx n 0 lo) s):wpAny (model prog w) A (Builtin.Slice.sliceApplied (.ref sl) (pure (n:Int))) Q E s:=by
 obtain⟨os,hos,hcs,hds⟩:=id hs
 unfold Builtin.Slice.sliceApplied Builtin.Slice.sliceFields
 refine wpAny_bind (wpAny_bind (wpAny_field hos hds (x:=vl) rfl (wpAny_bind (wpAny_field hos hds (x:=vu) rfl (wpAny_bind (wpAny_field hos hds (x:=.none) rfl (wpAny_pure ?_)))))))
 refine wpAny_bind (slicePart_none ?_)
 show wpAny _ _ (if ((1:Int)==0)=true then _ else _) _ _ s
 rw[if_neg (by decide)]
 refine wpAny_bind (rJ pl (wpAny_bind (rJ pu (wpAny_bind (wpAny_pure ?_)))))
 show wpAny _ _ (match Builtin.Slice.sliceAdjust lo hi 1 (n:Int) with | (lo,hi)=>pure (lo,(1:Int),Builtin.Slice.slicePlaces lo hi 1)) _ _ s
 rw[Bs lo hi n]
 show wpAny _ _ (pure (((sIx n 0 lo:Nat):Int),(1:Int),Builtin.Slice.slicePlaces ((sIx n 0 lo:Nat):Int) ((sIx n n hi:Nat):Int) 1)) _ _ s
 rw[Bt]
 exact wpAny_pure h
theorem Hv (xs:Array Value) (i k:Nat):((List.range k).filterMap λ (m:Nat)=>xs[((i:Int)+(m:Int) * 1).toNat]?).toArray=((xs.toList.drop i).take k).toArray:=by
 have e:(λ (m:Nat)=>xs[((i:Int)+(m:Int) * 1).toNat]?)=λ m=>xs[i+m]?:=by
  funext m
  have:((i:Int)+(m:Int) * 1).toNat=i+m:=by omega
  rw[this]
 rw[e]
 have:=pick_run xs i k
 rw[List.filterMap_map] at this
 have e2:((λ x=>xs[x]?) ∘ λ x=>i+x)=λ m=>xs[i+m]?:=rfl
 rw[e2] at this
 rw[this]
theorem getItem_tuple_cut {t sl:Addr}{items:Array Value}{vl vu:Value}{lo hi:Option Int}{Q:Value→Shared→Prop} (ht:IsTup s.heap t items) (hs:s.heap.IsSliceOf sl vl vu .none) (pl:IsPart vl lo) (pu:IsPart vu hi)
  (hw:¬ (sIx items.size 0 lo=0∧sIx items.size items.size hi=items.size))
  (h:Q (.ref s.heap.objs.size) { s with heap:=s.heap.push { cls:=.type "tuple",data:=.seq ((items.toList.drop (sIx items.size 0 lo)).take (sIx items.size items.size hi - sIx items.size 0 lo)).toArray } })
  (hsz:items.size≤sizeLine):wpAny (model prog w) A (getItem (.ref t) (.ref sl)) Q E s:=by
 have Dp:sizeOk (.seq ((items.toList.drop (sIx items.size 0 lo)).take (sIx items.size items.size hi - sIx items.size 0 lo)).toArray):=by
  show ((items.toList.drop (sIx items.size 0 lo)).take (sIx items.size items.size hi - sIx items.size 0 lo)).toArray.size≤sizeLine
  rw[List.size_toArray,List.length_take,List.length_drop,Array.length_toList]
  omega
 have hj:sIx items.size items.size hi≤items.size:=Q9 _ _ (Nat.le_refl _) hi
 obtain⟨os,hos,hcs,hds⟩:=id hs
 have hTs:s.TypeIs (.ref sl) "slice":=⟨os,hos,hcs⟩
 unfold getItem
 try with_reducible refine wpAny_holding ?_
 first | refine wpAny_bind (wpAny_pure ?_) | skip
 refine wpAny_bind (wpAny_sequenceKey ht.typeIs (by decide) ?_)
 refine wpAny_bind (wpAny_callSpecial?_slot (name:=Str.ofString "__getitem__") ht.typeIs PyProof.Rows.slot_tuple_getitem
  (wpAny_call_entry PyProof.Rows.slot_tuple_getitem ht.typeIs entry_tuple_getitem ?_ (args_tuple_getitem _ _)))
 show wpAny _ _ (Builtin.Tuple.tupleItemsOf (.ref t) >>= _) _ _ s
 refine wpAny_bind (tupleItemsOf_ ht ?_)
 refine wpAny_bind (wpAny_typeOf hTs ?_)
 rw[if_pos (by decide)]
 refine wpAny_bind (pN hs pl pu ?_)
 have hno:¬ ((((sIx items.size 0 lo:Nat):Int)==0&&(1:Int)==1&&(sIx items.size items.size hi - sIx items.size 0 lo)==items.size)=true):=by
  intro q
  rw[Bool.and_eq_true,Bool.and_eq_true] at q
  have q1:((sIx items.size 0 lo:Nat):Int)=0:=eq_of_beq q.1.1
  have q2:sIx items.size items.size hi - sIx items.size 0 lo=items.size:=eq_of_beq q.2
  exact hw ⟨by omega,by omega⟩
 show wpAny _ _ (if (((sIx items.size 0 lo:Nat):Int)==0&&(1:Int)==1&&(sIx items.size items.size hi - sIx items.size 0 lo)==items.size)=true then _ else _) _ _ s
 rw[if_neg hno,Hv]
 first
  | exact wpAny_bind (m:=Builtin.Tuple.tupleExact _) (wpAny_newObj_type (wpAny_pure ⟨_,rfl,wpAny_pure h⟩) Dp)
  | exact wpAny_bind (m:=Builtin.Tuple.tupleExact _) (wpAny_newObj_type (wpAny_bind (wpAny_pure (wpAny_pure ⟨_,rfl,wpAny_pure h⟩))) Dp)
  | exact wpAny_bind (wpAny_bind (m:=Builtin.Tuple.tupleExact _) (wpAny_newObj_type (wpAny_pure (wpAny_pure ⟨_,rfl,wpAny_pure h⟩)) Dp))
  | exact wpAny_bind (wpAny_bind (m:=Builtin.Tuple.tupleExact _) (wpAny_newObj_type (wpAny_pure ⟨_,rfl,wpAny_pure h⟩) Dp))
end
end HT
namespace L2
open PySem PySem.Spec PyProof.Rows
abbrev TO:=St→Hp→(Option Int→Hp→Prop)→Prop
noncomputable def PO (X:Cx) (e:Option Expr) (t:TO):Prop:=
 ∀ (pins:List (Addr×Obj)) (s:Shared) (σ:St) (H:Hp) (Q:Option Int→Hp→Prop),Inv X pins σ H s→t σ H Q →
  wpAny (model X.prog X.w) X.A (evalPart e X.env) (λ u s'=>∃ o H',Inv X pins σ H' s'∧IsPart u o∧Q o H') X.xe s
noncomputable def Lh:TO:=λ _ H Q=>Q none H
noncomputable def Vl (t:TE):TO:=λ σ H Q=>t σ H λ x H1=>∃ i,x = .int i∧Q (some i) H1
section
variable {X:Cx}{e:Expr}{te:TE}{lo hi:Option Expr}{tl th:TO}{pos p2:Pos}
theorem Li:PO X none Lh:=by
 intro pins s σ H Q I h
 rw[evalPart_none]
 exact wpAny_pure ⟨none,H,I,.none,h⟩
theorem Lj (h:PE X e te):PO X (some e) (Vl te):=by
 intro pins s σ H Q I hw
 rw[evalPart_some]
 refine cY (h pins s σ H _ I hw) λ u s1 ⟨x,H1,I1,r1,q1⟩=>?_
 obtain⟨i,rfl,q⟩:=q1
 obtain⟨t,rfl⟩:=r1
 exact⟨some i,H1,I1,.int i t,q⟩
noncomputable def SlR (X:Cx) (r:V→Option Int→Option Int→Hp→VK→Prop):Prop:=
 ∀ (pins:List (Addr×Obj)) (s:Shared) (σ:St) (H:Hp) (x:V) (v vl vu:Value) (lo hi:Option Int) (sl:Addr) (Q:VK),Inv X pins σ H s→RelV x v→s.heap.IsSliceOf sl vl vu .none→IsPart vl lo→IsPart vu hi→r x lo hi H Q →
  ∃ T id,typeLookup (.type T) "__getitem__"=pure (some (.builtin id))∧s.TypeIs v T∧wpAny (model X.prog X.w) X.A (getItem v (.ref sl)) (EP X pins σ Q) X.xe s
theorem SlR.or {r r':V→Option Int→Option Int→Hp→VK→Prop} (h:SlR X r) (h':SlR X r'):SlR X (λ x lo hi H Q=>r x lo hi H Q∨r' x lo hi H Q):=by
 intro pins s σ H x v vl vu lo hi sl Q I rx hs pl pu q
 rcases q with q | q
 ·exact h pins s σ H x v vl vu lo hi sl Q I rx hs pl pu q
 ·exact h' pins s σ H x v vl vu lo hi sl Q I rx hs pl pu q
noncomputable def ZG (r:V→Option Int→Option Int→Hp→VK→Prop) (te:TE) (tl th:TO):TE:=λ σ H Q=>te σ H λ x H1=>tl σ H1 λ l H2=>th σ H2 λ u H3=>r x l u H3 Q
theorem Hw {r:V→Option Int→Option Int→Hp→VK→Prop} (hr:SlR X r) (he:PE X e te) (hl:PO X lo tl) (hu:PO X hi th):PE X (.Subscript e (.Slice lo hi none p2) pos) (ZG r te tl th):=by
 intro pins s σ H Q I h
 refine Subscript_ (cY (he pins s σ H _ I h) λ v s1 ⟨x,H1,I1,r1,q1⟩=>?_)
 refine wpAny_Slice (cY (hl pins s1 σ H1 _ I1 q1) λ vl s2 ⟨l,H2,I2,pl,q2⟩=>cY (hu pins s2 σ H2 _ I2 q2) λ vu s3 ⟨u,H3,I3,pu,q3⟩=>?_)
 rw[evalPart_none]
 refine wpAny_pure ?_
 have I4:Inv X pins σ H3 { s3 with heap:=s3.heap.push { cls:=.type "slice",data:=.fields #[vl,vu,.none] } }:=I3.kept (t':=s3.toks) λ b ob q=>Heap.get?_push_of_some _ q
 obtain⟨T,id,hT,ht,hg⟩:=hr pins { s3 with heap:=s3.heap.push { cls:=.type "slice",data:=.fields #[vl,vu,.none] } } σ H3 x v vl vu l u s3.heap.objs.size Q I4 r1 (Heap.IsSliceOf.new ..) pl pu q3
 show wpAny (model X.prog X.w) X.A (subscriptTail e (.Slice lo hi none p2) v (.ref s3.heap.objs.size)) (EP X pins σ Q) X.xe { s3 with heap:=s3.heap.push { cls:=.type "slice",data:=.fields #[vl,vu,.none] } }
 exact tail_any (ops:=[.ref s3.heap.objs.size,v]) ht hT hg (by with_unfolding_all rfl)
noncomputable def yO (xs:List V) (lo hi:Option Int):List V:=(xs.drop (HT.sIx xs.length 0 lo)).take (HT.sIx xs.length xs.length hi - HT.sIx xs.length 0 lo)
theorem qx (xs:List V) (lo hi:Option Int):(yO xs lo hi).length≤xs.length:=by
 unfold yO
 rw[List.length_take,List.length_drop]
 omega
noncomputable def Xv (K:W.Frag):V→Option Int→Option Int→Hp→VK→Prop:=λ x lo hi H Q=>∃ a xs,x = .ref a∧qJ K H a xs ∧
 ¬ (HT.sIx xs.length 0 lo=0∧HT.sIx xs.length xs.length hi=xs.length)∧∀ p,H p=none→Q (.ref p) (upd H p (.tup (yO xs lo hi)))
theorem sl_tup:SlR X (Xv X.K):=by
 intro pins s σ H x v vl vu lo hi sl Q I rx hs pl pu h
 obtain⟨a,xs,rfl,hx,hw,q⟩:=h
 cases rx
 obtain⟨its,r,ht,hz⟩:=I.tuple hx
 have hlen:its.toArray.size=xs.length:=by rw[List.size_toArray];exact r.length.symm
 refine⟨"tuple",_,PyProof.Rows.slot_tuple_getitem.lookup,ht.typeIs,?_⟩
 refine HT.getItem_tuple_cut ht hs pl pu (by rw[hlen];exact hw) ?_ (by rw[hlen];exact hz)
 rw[hlen]
 refine⟨.ref s.heap.objs.size,_,I.laid (t':=s.toks) (o:=.tup (yO xs lo hi)) (λ b ob q=>Heap.get?_push_of_some _ q) (Nat.le_refl _) ?_,rfl,q _ (I.hok.fresh (Nat.le_refl _))⟩
 exact⟨Nat.le_trans (qx xs lo hi) hz,_,(r.drop (HT.sIx xs.length 0 lo)).take (HT.sIx xs.length xs.length hi - HT.sIx xs.length 0 lo),IsTup.new _ _⟩
noncomputable def Vm (K:W.Frag):R2:=λ x y H Q=>∃ a b xs ys,x = .ref a∧y = .ref b∧qJ K H a xs∧qJ K H b ys∧xs≠[]∧xs.length+ys.length≤sizeLine ∧
 (ys=[]→Q (.ref a) H)∧(ys≠[]→∀ p,H p=none→Q (.ref p) (upd H p (.tup (xs++ys))))
theorem Vals.nil_iff {xs:List V}{us:List Value} (r:Vals xs us):us=[] ↔ xs=[]:=by
 cases r with
 | nil=>simp
 | cons _ _=>simp
theorem Lk:OpR X (binaryOp .Add) (Vm X.K):=by
 intro pins s σ H x y v u Q I rx ry h
 obtain⟨a,b,xs,ys,rfl,rfl,ha,hb,hx,hz,q1,q2⟩:=h
 cases rx
 cases ry
 obtain⟨its,r1,p1,_⟩:=I.tuple ha
 obtain⟨its2,r2,p2,_⟩:=I.tuple hb
 refine HT.cat_tup p1 p2 (λ z=>hx (r1.nil_iff.mp z)) (λ z=>⟨.ref a,H,I,rfl,q1 (r2.nil_iff.mp z)⟩) (λ z=>?_) (by rw[← r1.length,← r2.length];exact hz)
 refine⟨.ref s.heap.objs.size,_,I.laid (t':=s.toks) (o:=.tup (xs++ys)) (λ b ob q=>Heap.get?_push_of_some _ q) (Nat.le_refl _) ?_,rfl,q2 (λ w=>z (r2.nil_iff.mpr w)) _ (I.hok.fresh (Nat.le_refl _))⟩
 exact⟨by rw[List.length_append];exact hz,_,r1.append r2,IsTup.new _ _⟩
end
end L2
namespace L2
open PySem PySem.Spec PyProof.Rows
noncomputable def Hx (n:Nat) (i:Int):Option Nat:=if 0≤i then (if i < n then some i.toNat else none) else if -(n:Int)≤i then some (i+n).toNat else none
noncomputable def rK {α:Type} (xs:List α) (i:Int):Option α:=(Hx xs.length i).bind λ j=>xs[j]?
theorem Dq {n:Nat}{i:Int}{j:Nat} (h:Hx n i=some j):seqIndex? i n=some j∧j < n∧-(n:Int)≤i∧i < n:=by
 unfold Hx at h
 by_cases h0:0≤i
 ·rw[if_pos h0] at h
  by_cases h1:i < n
  ·rw[if_pos h1] at h
   have e:i.toNat=j:=Option.some.inj h
   exact⟨by rw[seqIndex_of h0 h1,e],by omega,by omega,h1⟩
  ·rw[if_neg h1] at h;cases h
 ·rw[if_neg h0] at h
  by_cases h1 : -(n:Int)≤i
  ·rw[if_pos h1] at h
   have e:(i+n).toNat=j:=Option.some.inj h
   exact⟨by rw[seqIndex_neg (by omega) h1,e],by omega,h1,by omega⟩
  ·rw[if_neg h1] at h;cases h
theorem wj {α:Type}{xs:List α}{i:Int}{v:α} (h:rK xs i=some v):∃ j,seqIndex? i xs.length=some j∧xs[j]? = some v∧j < xs.length∧-(xs.length:Int)≤i∧i < xs.length:=by
 unfold rK at h
 cases e:Hx xs.length i with
 | none=>rw[e] at h;cases h
 | some j=>
  rw[e] at h
  obtain⟨h1,h2,h3,h4⟩:=Dq e
  exact⟨j,h1,h,h2,h3,h4⟩
noncomputable def Dr (b:Expr):Prop:=∀ o i,subscripted b false o i=operate [o,i] (getItem o i)
noncomputable def IxR (X:Cx) (r:R2):Prop:=
 ∀ (value slice:Expr) (pins:List (Addr×Obj)) (s:Shared) (σ:St) (H:Hp) (x y:V) (v u:Value) (Q:VK),Inv X pins σ H s→RelV x v→RelV y u→r x y H Q →
  subscripted slice false v u=operate [v,u] (getItem v u)→wpAny (model X.prog X.w) X.A (subscriptTail value slice v u) (EP X pins σ Q) X.xe s
noncomputable def MtR (X:Cx) (id:String) (r:V→List V→Hp→VK→Prop):Prop:=
 ∀ (pins:List (Addr×Obj)) (s:Shared) (σ:St) (H:Hp) (x:V) (xs:List V) (v:Value) (us:List Value) (Q:VK),Inv X pins σ H s→RelV x v→Vals xs us→r x xs H Q →
  wpAny (model X.prog X.w) X.A (call (.builtin id) (v::us)) (EP X pins σ Q) X.xe s
section
variable {X:Cx}{a b:Expr}{ta tb:TE}{pos:Pos}
theorem Vn {r:R2} (hr:IxR X r) (ha:PE X a ta) (hb:PE X b tb) (hs:Dr b):PE X (.Subscript a b pos) (U7 r ta tb):=by
 intro pins s σ H Q I h
 exact Subscript_ (QJ ha hb I h λ v u s2 x y H2 I2 rx ry q=>hr a b pins s2 σ H2 x y v u Q I2 rx ry q (hs _ _))
noncomputable def Xw (K:W.Frag):R2:=λ x y H Q=>∃ p xs i v,x = .ref p∧y = .int i∧SqL K H p xs∧rK xs i=some v∧Q v H
noncomputable def Xx (K:W.Frag):R2:=λ x y H Q=>∃ p xs i v,x = .ref p∧y = .int i∧qJ K H p xs∧rK xs i=some v∧Q v H
noncomputable def Xy:R2:=λ x y H Q=>∃ z i c,x = .str z∧y = .int i∧z.length≤sizeLine∧rK z.cps.toList i=some c∧Q (.str ⟨#[c]⟩) H
theorem Ds:IxR X (Xw X.K):=by
 intro value slice pins s σ H x y v u Q I rx ry h hs
 obtain⟨p,xs,i,z,rfl,rfl,hq,he,q⟩:=h
 cases rx
 obtain⟨t,rfl⟩:=ry
 obtain⟨its,r,pl,hz⟩:=I.list hq
 obtain⟨j,h1,h2,h3,h4,h5⟩:=wj he
 obtain⟨w,ew,rG⟩:=r.get h2
 have hl:=r.length
 have hn:=pJ
 have fin:EP X pins σ Q w s:=⟨z,H,I,rG,q⟩
 by_cases h0:0≤i
 ·have hj:i.toNat=j:=by
   rw[seqIndex_of h0 h5] at h1
   exact Option.some.inj h1
  exact item_listR pl.isList h0 (by omega) (by rw[hj];simpa using ew) fin hs
 ·have hj:(i+(its.toArray.size:Int)).toNat=j:=by
   rw[seqIndex_neg (by omega) h4] at h1
   rw[List.size_toArray,← hl]
   exact Option.some.inj h1
  exact subscriptTail_builtinR (x:=w) pl.isList.typeIs slot_list_getitem.lookup
   (wpAny_getItem_list_neg (Q:=λ r s'=>r=w∧EP X pins σ Q r s') pl.isList (by omega) (by rw[List.size_toArray] <;> omega) (by omega) (by rw[hj];simpa using ew) ⟨rfl,fin⟩) hs
theorem Ra:IxR X (Xx X.K):=by
 intro value slice pins s σ H x y v u Q I rx ry h hs
 obtain⟨p,xs,i,z,rfl,rfl,hq,he,q⟩:=h
 cases rx
 obtain⟨t,rfl⟩:=ry
 obtain⟨its,r,pl,hz⟩:=I.tuple hq
 obtain⟨j,h1,h2,h3,h4,h5⟩:=wj he
 obtain⟨w,ew,rG⟩:=r.get h2
 have hl:=r.length
 have hn:=pJ
 have fin:EP X pins σ Q w s:=⟨z,H,I,rG,q⟩
 exact subscriptTail_builtinR (x:=w) pl.typeIs slot_tuple_getitem.lookup
  (getItem_tuple (j:=j) (Q:=λ r s'=>r=w∧EP X pins σ Q r s') pl (by omega) (by omega) (by rw[List.size_toArray,← hl];exact h1) (by simpa using ew) ⟨rfl,fin⟩) hs
theorem Rb:IxR X Xy:=by
 intro value slice pins s σ H x y v u Q I rx ry h hs
 obtain⟨z,i,c,rfl,rfl,hz,he,q⟩:=h
 obtain⟨t,rfl⟩:=rx
 obtain⟨t',rfl⟩:=ry
 obtain⟨j,h1,h2,h3,h4,h5⟩:=wj he
 have hl:z.cps.toList.length=z.length:=by simp[Str.length]
 rw[hl] at h1 h4 h5
 have hn:=pJ
 exact tail_any (typeIs_str s z t) slot_str_getitem.lookup (getItem_str (c:=c) (by
  have e1:decide (i < -(2 ^ 63:Int))=false:=decide_eq_false (by omega)
  have e2:decide (i ≥ 2 ^ 63)=false:=decide_eq_false (by omega)
  rw[e1,e2,Bool.or_false]) (by rw[h1];simpa using h2) ⟨.str ⟨#[c]⟩,H,I.tok _,⟨_,rfl⟩,q⟩) hs
theorem Bu (its:List Value) (n j:Nat) (u:Value):Obj.mapSeq (·.setIfInBounds j u) { cls:=.type "list",data:=.seq its.toArray n } = { cls:=.type "list",data:=.seq (its.set j u).toArray n }:=by
 simp[Obj.mapSeq]
theorem Inv.lst {pins:List (Addr×Obj)}{σ:St}{H:Hp}{s:Shared}{p:Addr}{xs:List V} (I:Inv X pins σ H s) (h:H p=some (.lst xs)) :
  ∃ (its:List Value) (n:Nat),Vals xs its∧s.heap.get? p=some { cls:=.type "list",data:=.seq its.toArray n }∧xs.length≤sizeLine:=by
 obtain⟨z,its,n,r,e⟩:=I.hok p _ h
 exact⟨its,n,r,e,z⟩
theorem Inv.lstUpd {pins:List (Addr×Obj)}{σ:St}{H:Hp}{s:Shared}{p:Addr}{xs ys:List V}{its its':List Value}{n n':Nat}{f:Obj→Obj} (I:Inv X pins σ H s) (h:H p=some (.lst xs))
  (ho:s.heap.get? p=some { cls:=.type "list",data:=.seq its.toArray n }) (hf:f { cls:=.type "list",data:=.seq its.toArray n } = { cls:=.type "list",data:=.seq its'.toArray n' }) (r:Vals ys its') (hz:ys.length≤sizeLine) (t:Nat) :
  Inv X pins σ (upd H p (.lst ys)) { s with heap:=s.heap.update p f,toks:=t }:=by
 have e:(s.heap.update p f).get? p=some { cls:=.type "list",data:=.seq its'.toArray n' }:=by
  rw[Heap.get?_update_self f ho (by rw[hf] <;> rfl),hf]
 refine I.write (x:=p) (e:=p) (by rw[h];trivial) (.inl rfl) (λ b u hb q=>(Heap.get?_update_other _ _ (Ne.symm hb)).trans q) ⟨_,e⟩ ?_
 exact⟨hz,its',n',r,e⟩
noncomputable def Vo:V→V→V→Hp→(Hp→Prop)→Prop:=λ o i v H Q=>∃ p xs k j,o = .ref p∧i = .int k∧H p=some (.lst xs)∧Hx xs.length k=some j∧Q (upd H p (.lst (xs.set j v)))
theorem set_list:UW X Vo:=by
 intro pins s σ H o i v ov iv u Q I ro ri rv h
 obtain⟨p,xs,k,j,rfl,rfl,hp,hj,q⟩:=h
 cases ro
 obtain⟨t,rfl⟩:=ri
 obtain⟨its,n,r,ho,hz⟩:=I.lst hp
 obtain⟨h1,h2,h3,h4⟩:=Dq hj
 have hl:=r.length
 have hn:=pJ
 have I':Inv X pins σ (upd H p (.lst (xs.set j v))) { s with heap:=s.heap.update p (Obj.mapSeq (·.setIfInBounds j u)) }:=
  I.lstUpd hp ho (Bu its n j u) (r.set rv j) (by rw[List.length_set];exact hz) s.toks
 by_cases h0:0≤k
 ·have hk:k.toNat=j:=by
   rw[seqIndex_of h0 h4] at h1
   exact Option.some.inj h1
  exact W.ki_setAt ho h0 (by omega) (by rw[List.size_toArray,← hl];exact h4) (by rw[hk];exact⟨_,I',q⟩)
 ·have hk:(k+(its.toArray.size:Int)).toNat=j:=by
   rw[seqIndex_neg (by omega) h3] at h1
   rw[List.size_toArray,← hl]
   exact Option.some.inj h1
  exact W.ki_setBack ho (by omega) (by rw[List.size_toArray,← hl];exact h3) (by omega) (by rw[hk];exact⟨_,I',q⟩)
theorem wk (lo hi:Option Int) (n:Nat):(sliceBounds lo hi none n).1=((HT.sIx n 0 lo:Nat):Int)∧(sliceBounds lo hi none n).2.1=((HT.sIx n n hi:Nat):Int)∧(sliceBounds lo hi none n).2.2=1:=by
 refine⟨?_,?_,rfl⟩
 ·cases lo with
  | none=>simp[sliceBounds,HT.sIx]
  | some i=>
   simp only [sliceBounds,HT.sIx,Option.getD_none,show (1:Int) > 0 by decide,if_true]
   by_cases h:i < 0
   ·simp only [h,if_true] <;> omega
   ·simp only [h,if_false] <;> omega
 ·cases hi with
  | none=>simp[sliceBounds,HT.sIx]
  | some i=>
   simp only [sliceBounds,HT.sIx,Option.getD_none,show (1:Int) > 0 by decide,if_true]
   by_cases h:i < 0
   ·simp only [h,if_true] <;> omega
   ·simp only [h,if_false] <;> omega
theorem um (its:List Value) (lo hi:Option Int):slicePick its.toArray lo hi none=((its.drop (HT.sIx its.length 0 lo)).take (HT.sIx its.length its.length hi - HT.sIx its.length 0 lo)).toArray:=by
 obtain⟨h1,h2,h3⟩:=wk lo hi its.toArray.size
 unfold slicePick
 rw[h1,h2,h3]
 simp only [sliceRange_one,pick_run,List.size_toArray] <;> rfl
noncomputable def Xz (K:W.Frag):V→Option Int→Option Int→Hp→VK→Prop:=λ x lo hi H Q=>∃ a xs,x = .ref a∧SqL K H a xs∧∀ p,H p=none→Q (.ref p) (upd H p (.lst (yO xs lo hi)))
theorem sl_list:SlR X (Xz X.K):=by
 intro pins s σ H x v vl vu lo hi sl Q I rx hs pl pu h
 obtain⟨a,xs,rfl,hx,q⟩:=h
 cases rx
 obtain⟨its,r,ht,hz⟩:=I.list hx
 have hlen:=r.length
 refine⟨"list",_,slot_list_getitem.lookup,ht.isList.typeIs,?_⟩
 refine wpAny_getItem_list_slice ht.isList hs pl pu .none (by simp) ?_ (by rw[List.size_toArray] <;> omega)
 rw[um,← hlen]
 refine⟨.ref s.heap.objs.size,_,I.laid (t':=s.toks) (o:=.lst (yO xs lo hi)) (λ b ob q=>Heap.get?_push_of_some _ q) (Nat.le_refl _) ?_,rfl,q _ (I.hok.fresh (Nat.le_refl _))⟩
 exact⟨Nat.le_trans (qx xs lo hi) hz,_,0,(r.drop (HT.sIx xs.length 0 lo)).take (HT.sIx xs.length xs.length hi - HT.sIx xs.length 0 lo),Heap.get?_push_size _ rfl⟩
noncomputable def mY:V→Bool
 | .non=>true
 | .bl _=>true
 | .int _=>true
 | .str _=>true
 | _=>false
noncomputable def Ln:V→V→Bool
 | .non,.non=>true
 | .bl a,.bl b=>a==b
 | .bl a,.int b=>(if a then 1 else 0)==b
 | .int a,.bl b=>a==(if b then 1 else 0)
 | .int a,.int b=>a==b
 | .str a,.str b=>a==b
 | _,_=>false
theorem Rc {A:Around}{s:Shared}{y x:V}{u v:Value} (ry:RelV y u) (rx:RelV x v) (fy:mY y=true) (fx:mY x=true):SeqAt.EqAt A s u v (Ln y x):=by
 cases y with
 | non=>
  cases ry
  cases x with
  | non=>cases rx;exact SeqAt.EqAt.same _
  | bl b=>cases rx;exact SeqAt.EqAt.none_bool b
  | int b=>obtain⟨t,rfl⟩:=rx;exact SeqAt.EqAt.none_int b t
  | str b=>obtain⟨t,rfl⟩:=rx;exact SeqAt.EqAt.none_str b t
  | _=>exact absurd (show false=true from fx) Bool.false_ne_true
 | bl a=>
  cases ry
  cases x with
  | non=>cases rx;exact SeqAt.EqAt.bool_none a
  | bl b=>cases rx;exact SeqAt.EqAt.bool_bool a b
  | int b=>obtain⟨t,rfl⟩:=rx;exact SeqAt.EqAt.bool_int a b t
  | str b=>obtain⟨t,rfl⟩:=rx;exact SeqAt.EqAt.bool_str a b t
  | _=>exact absurd (show false=true from fx) Bool.false_ne_true
 | int a=>
  obtain⟨t',rfl⟩:=ry
  cases x with
  | non=>cases rx;exact SeqAt.EqAt.int_none a t'
  | bl b=>cases rx;exact SeqAt.EqAt.int_bool a t' b
  | int b=>obtain⟨t,rfl⟩:=rx;exact SeqAt.EqAt.int_int a t' b t
  | str b=>obtain⟨t,rfl⟩:=rx;exact SeqAt.EqAt.int_str a t' b t
  | _=>exact absurd (show false=true from fx) Bool.false_ne_true
 | str a=>
  obtain⟨t',rfl⟩:=ry
  cases x with
  | non=>cases rx;exact SeqAt.EqAt.str_none a t'
  | bl b=>cases rx;exact SeqAt.EqAt.str_bool a t' b
  | int b=>obtain⟨t,rfl⟩:=rx;exact SeqAt.EqAt.str_int a t' b t
  | str b=>obtain⟨t,rfl⟩:=rx;exact SeqAt.EqAt.str_str a t' b t
  | _=>exact absurd (show false=true from fx) Bool.false_ne_true
 | _=>exact absurd (show false=true from fy) Bool.false_ne_true
noncomputable def Lp (x:V) (u:Value):Bool:=match u with
 | .none=>Ln .non x
 | .bool b=>Ln (.bl b) x
 | .int i _=>Ln (.int i) x
 | .str z _=>Ln (.str z) x
 | _=>false
theorem Hy {x y:V}{u:Value} (r:RelV y u) (f:mY y=true):Lp x u=Ln y x:=by
 cases y with
 | non=>cases r;rfl
 | bl b=>cases r;rfl
 | int i=>obtain⟨t,rfl⟩:=r;rfl
 | str z=>obtain⟨t,rfl⟩:=r;rfl
 | _=>exact absurd (show false=true from f) Bool.false_ne_true
theorem wu {x:V}:∀ {xs:List V}{us:List Value},Vals xs us→xs.all mY=true→us.any (Lp x)=xs.any λ y=>Ln y x
 | _,_,.nil,_=>rfl
 | y::xs,u::us,.cons r t,f=>by
  rw[List.all_cons,Bool.and_eq_true] at f
  rw[List.any_cons,List.any_cons,Hy r f.1,wu t f.2]
theorem rM {A:Around}{s:Shared}{x:V}{v:Value} (rx:RelV x v) (fx:mY x=true):∀ {xs:List V}{us:List Value},Vals xs us→xs.all mY=true→∀ u∈us,SeqAt.EqAt A s u v (Lp x u)
 | _,_,.nil,_=>λ u hu=>by cases hu
 | y::xs,u::us,.cons r t,f=>λ u' hu=>by
  rw[List.all_cons,Bool.and_eq_true] at f
  rcases List.mem_cons.mp hu with rfl | hu
  ·rw[Hy r f.1];exact Rc r rx f.1 fx
  ·exact rM rx fx t f.2 u' hu
noncomputable def inV (x:V) (xs:List V):Bool:=xs.any λ y=>Ln y x
noncomputable def ZJ (K:W.Frag) (neg:Bool):R2:=λ x y H Q=>∃ p xs,y = .ref p∧(SqL K H p xs∨qJ K H p xs)∧mY x=true∧xs.all mY=true∧Q (.bl (if neg then !inV x xs else inV x xs)) H
theorem vA:OpR X (compareOp .In) (ZJ X.K false):=by
 intro pins s σ H x y v u Q I rx ry h
 obtain⟨p,xs,rfl,hq,fx,fs,q⟩:=h
 cases ry
 rcases hq with hq | hq
 ·obtain⟨its,r,pl,hz⟩:=I.list hq
  refine SeqAt.in_listAt (Lp x) pl.isList (λ w hw=>rM rx fx r fs w (by simpa using hw)) ⟨.bl _,H,I,rfl,?_⟩
  rw[show its.toArray.any (Lp x)=its.any (Lp x) by simp,wu r fs]
  exact q
 ·obtain⟨its,r,pl,hz⟩:=I.tuple hq
  refine SeqAt.in_tupleAt (Lp x) pl (λ w hw=>rM rx fx r fs w (by simpa using hw)) ⟨.bl _,H,I,rfl,?_⟩
  rw[show its.toArray.any (Lp x)=its.any (Lp x) by simp,wu r fs]
  exact q
theorem jF:CallR X (.builtin "len") (λ xs H Q=>∃ p ys,xs=[.ref p]∧(SqL X.K H p ys∨qJ X.K H p ys)∧Q (.int ys.length) H):=by
 intro pins s σ H xs us Q I r h
 obtain⟨p,ys,rfl,hq,q⟩:=h
 obtain⟨u,rfl,rx⟩:=vals1 r
 cases rx
 have hn:=pJ
 rcases hq with hq | hq
 ·obtain⟨its,r',pl,hz⟩:=I.list hq
  have hlen:=r'.length
  exact Calls.call_len_list pl.isList (by simp only [List.size_toArray] <;> omega) ⟨.int ys.length,H,I.tok _,⟨s.toks+1,by rw[List.size_toArray,hlen]⟩,q⟩
 ·obtain⟨its,r',pl,hz⟩:=I.tuple hq
  have hlen:=r'.length
  exact len_tuple pl (by simp only [List.size_toArray] <;> omega) ⟨.int ys.length,H,I.tok _,⟨s.toks+1,by rw[List.size_toArray,hlen]⟩,q⟩
theorem wz:CallR X (.builtin "len") (λ xs H Q=>∃ z,xs=[.str z]∧z.length≤sizeLine∧Q (.int z.length) H):=by
 intro pins s σ H xs us Q I r h
 obtain⟨z,rfl,hz,q⟩:=h
 obtain⟨u,rfl,t,rfl⟩:=vals1 r
 have hn:=pJ
 exact len_str (by omega) ⟨.int z.length,H,I.tok _,⟨_,rfl⟩,q⟩
theorem jG:CallR X (.type "list") (λ xs H Q=>∃ p ys,xs=[.ref p]∧(SqL X.K H p ys∨qJ X.K H p ys)∧∀ l,H l=none→Q (.ref l) (upd H l (.lst ys))):=by
 intro pins s σ H xs us Q I r h
 obtain⟨p,ys,rfl,hq,q⟩:=h
 obtain⟨u,rfl,rx⟩:=vals1 r
 cases rx
 have fin:∀ (its:List Value),Vals ys its→ys.length≤sizeLine→∀ (h':Heap) (c':Nat),(∀ b o',s.heap.get? b=some o'→h'.get? b=some o') →
   h'.get? s.heap.objs.size=some { cls:=.type "list",dict:=none,data:=.seq its.toArray c',slots:=#[] }→EP X pins σ Q (.ref s.heap.objs.size) { s with heap:=h' }:=λ its r' hz h' c' kp e=>
  ⟨.ref s.heap.objs.size,_,I.laid (t':=s.toks) kp (Nat.le_refl _) (show ObjOk X.prog X.w _ h' _ (.lst ys) from ⟨hz,its,c',r',e⟩),rfl,q _ (I.hok.fresh (Nat.le_refl _))⟩
 rcases hq with hq | hq
 ·obtain⟨its,r',pl,hz⟩:=I.list hq
  have hlen:=r'.length
  obtain⟨o,ho,hc,n,hd⟩:=pl.isList
  exact call_list_seq p (.inl rfl) ho hc hd (λ h' c' kp e=>fin its r' hz h' c' kp e) (by simp only [List.size_toArray] <;> omega)
 ·obtain⟨its,r',pl,hz⟩:=I.tuple hq
  have hlen:=r'.length
  obtain⟨o,ho,hc,n,hd⟩:=pl
  exact call_list_seq p (.inr rfl) ho hc hd (λ h' c' kp e=>fin its r' hz h' c' kp e) (by simp only [List.size_toArray] <;> omega)
theorem mZ:CallR X (.type "tuple") (λ xs H Q=>∃ p ys,xs=[.ref p]∧((SqL X.K H p ys∧∀ l,H l=none→Q (.ref l) (upd H l (.tup ys)))∨(qJ X.K H p ys∧Q (.ref p) H))):=by
 intro pins s σ H xs us Q I r h
 obtain⟨p,ys,rfl,h⟩:=h
 obtain⟨u,rfl,rx⟩:=vals1 r
 cases rx
 rcases h with ⟨hq,q⟩ | ⟨hq,q⟩
 ·obtain⟨its,r',pl,hz⟩:=I.list hq
  have hlen:=r'.length
  refine call_tuple_list pl.isList (λ h' kp=>?_) (by simp only [List.size_toArray] <;> omega)
  have I1:Inv X pins σ H { s with heap:=h' }:=I.kept (t':=s.toks) kp
  have I2:Inv X pins σ (upd H h'.objs.size (.tup ys)) { s with heap:=h'.push { cls:=.type "tuple",data:=.seq its.toArray } }:=
   I1.laid (t':=s.toks) (λ b o e=>Heap.get?_push_of_some _ e) (Nat.le_refl _) (show ObjOk X.prog X.w _ _ _ (.tup ys) from ⟨hz,its,r',IsTup.new _ _⟩)
  exact⟨.ref h'.objs.size,_,I2,rfl,q _ (I1.hok.fresh (Nat.le_refl _))⟩
 ·obtain⟨its,r',pl,hz⟩:=I.tuple hq
  exact call_tuple_same pl ⟨.ref p,H,I,rfl,q⟩
noncomputable def XC (K:W.Frag) (T:String) (x:V) (H:Hp):Prop:=match x with
 | .str _=>T="str"
 | .int _=>T="int"
 | .ref p=>(T="list"∧∃ xs,SqL K H p xs)∨(T="tuple"∧∃ o,K.lookup p=some o∧o.cls = .type "tuple"∧o.dict=none) ∨
   (T="dict"∧((∃ kvs,Rd H p (.dK kvs))∨(∃ kvs,H p=some (.dT kvs))∨∃ ep kvs,H p=some (.dE ep kvs)))∨(T="set"∧∃ S n,H p=some (.set S n))
 | _=>False
theorem Rf {pins:List (Addr×Obj)}{σ:St}{H:Hp}{s:Shared}{T:String}{x:V}{v:Value} (I:Inv X pins σ H s) (r:RelV x v) (ty:XC X.K T x H) :
  s.TypeIs v T∧∀ a,v = .ref a→∃ ob,s.heap.get? a=some ob∧ob.dict=none:=by
 cases x with
 | str z=>
  obtain⟨t,rfl⟩:=r
  cases (show T="str" from ty)
  exact⟨typeIs_str s z t,λ _ e=>nomatch e⟩
 | int i=>
  obtain⟨t,rfl⟩:=r
  cases (show T="int" from ty)
  exact⟨typeIs_int s i t,λ _ e=>nomatch e⟩
 | ref p=>
  cases r
  rcases ty with ⟨rfl,xs,hq⟩ | ⟨rfl,o,hk,hc,hd⟩ | ⟨rfl,hk⟩ | ⟨rfl,S,n,hk⟩
  ·obtain⟨its,_,pl,_⟩:=I.list hq
   refine⟨pl.isList.typeIs,λ a e=>?_⟩
   cases e
   obtain⟨o,n,e,c,hd,_⟩:=pl
   exact⟨o,e,hd⟩
  ·refine⟨⟨o,I.kIn p o hk,hc⟩,λ a e=>?_⟩
   cases e
   exact⟨o,I.kIn _ o hk,hd⟩
  ·have z:∃ o,s.heap.get? p=some o∧o.ExactDict:=by
    rcases hk with ⟨kvs,hk⟩ | ⟨kvs,hk⟩ | ⟨ep,kvs,hk⟩
    ·obtain⟨_,_,_,_,o,_,_,e,ex,_⟩:=hk.ok I.hok
     exact⟨o,e,ex⟩
    ·obtain⟨_,_,_,_,o,_,_,e,ex,_⟩:=I.hok p _ hk
     exact⟨o,e,ex⟩
    ·obtain⟨_,_,_,_,o,_,e,ex,_⟩:=I.hok p _ hk
     exact⟨o,e,ex⟩
   obtain⟨o,e,ex⟩:=z
   refine⟨⟨o,e,ex.1⟩,λ a e2=>?_⟩
   cases e2
   exact⟨o,e,ex.2.1⟩
  ·obtain⟨o,_,_,_,e,ex,_⟩:=I.hok p _ hk
   refine⟨⟨o,e,ex.1⟩,λ a e2=>?_⟩
   cases e2
   exact⟨o,e,ex.2.1⟩
 | _=>exact False.elim ty
noncomputable def ZK (K:W.Frag) (T:String) (r:V→List V→Hp→VK→Prop) (to:TE) (t:TA):TE:=λ σ H Q=>to σ H λ x H1=>XC K T x H1∧t σ H1 λ xs H2=>r x xs H2 Q
variable {o e:Expr}{es:List Expr}{to:TE}{t:TA}{name:Str}{apos cpos:Pos}{T id:String}{r:V→List V→Hp→VK→Prop}
theorem Vp (pa:PlainAttrs T) (slot:Slot T name id) (hty:typeOf (.builtin id)=pure (.type "method_descriptor")) (hm:MtR X id r) (ho:PE X o to) (ha:PA X (e::es) t)
  (hbase:attributeBase o name X.env (eval o X.env)=eval o X.env:=by rfl)
  (hfew:((backTo cpos (starEach (e::es) X.env)).all (λ x=>!x.1)&&(backToKw cpos (keywordEach [] X.env)).all (λ x=>x.1.isSome)
   && decide ((e::es).length+([]:List Keyword).length+(if ([]:List Keyword).isEmpty then 0 else 1) < 30))=true:=by rfl)
  (hline:(apos.endLine==cpos.line)=true:=by rfl) (hs:starEach (e::es) X.env=(false,eval e X.env)::starEach es X.env:=by rfl) (hplain:(backTo cpos (starEach es X.env)).any (·.1)=false:=by rfl) :
  PE X (.Call (.Attribute o name apos) (e::es) [] cpos) (ZK X.K T r to t):=by
 intro pins s σ H Q I h
 refine wpAny_Call_method_late hbase hfew hline rfl (cY (ho pins s σ H _ I h) λ v s1 ⟨x,H1,I1,r1,ty,q1⟩=>?_)
 obtain⟨h1,h2⟩:=Rf I1 r1 ty
 refine⟨T,id,pa,slot,hty,h1,h2,?_⟩
 have hA:=ha cpos pins s1 σ H1 _ I1 q1
 rw[hs] at hA ⊢
 refine Calls.callWith_builtin (by show (false || (backTo cpos (starEach es X.env)).any (·.1))=false;rw[hplain] <;> rfl) (Calls.evalArgs_plain ?_)
 exact cY hA λ us s2 ⟨vs,H2,I2,r2,q2⟩=>hm pins s2 σ H2 x vs v us Q I2 r1 r2 q2
end
end L2
namespace L2
open PySem PySem.Spec PyProof.Rows
noncomputable def Za (X:Cx) (id:String) (r:V→List V→Hp→VK→Prop):Prop:=
 ∀ (pins:List (Addr×Obj)) (s:Shared) (σ:St) (H:Hp) (x:V) (xs:List V) (v:Value) (us:List Value) (Q:VK),Inv X pins σ H s→RelV x v→Vals xs us→r x xs H Q →
  wpAny (model X.prog X.w) X.A (call (.builtin id) (v::us)) (EP X pins σ Q) X.xe s
theorem Vals.one:∀ {x:V}{us:List Value},Vals [x] us→∃ u,us=[u]∧RelV x u
 | _,_,.cons r .nil=>⟨_,rfl,r⟩
theorem Vals.two:∀ {x y:V}{us:List Value},Vals [x,y] us→∃ u v,us=[u,v]∧RelV x u∧RelV y v
 | _,_,_,.cons r (.cons q .nil)=>⟨_,_,rfl,r,q⟩
theorem Vals.rep {xs:List V}{us:List Value} (h:Vals xs us):∀ k:Nat,Vals (List.replicate k xs).flatten (List.replicate k us).flatten
 | 0=>.nil
 | k+1=>by
  rw[List.replicate_succ,List.replicate_succ,List.flatten_cons,List.flatten_cons]
  exact Vals.append h (Vals.rep h k)
theorem foldl_rep (its:List Value):∀ (k:Nat) (acc:List Value),
  List.foldl (λ x1 x2=>x1++x2) acc.toArray (List.replicate k its.toArray)=(acc++(List.replicate k its).flatten).toArray
 | 0,acc=>by simp
 | k+1,acc=>by
  have e:acc.toArray++its.toArray=(acc++its).toArray:=by simp
  have e2:(acc++its)++(List.replicate k its).flatten=acc++(List.replicate (k+1) its).flatten:=by
   rw[List.replicate_succ,List.flatten_cons,List.append_assoc]
  rw[← e2,← foldl_rep its k (acc++its),← e,List.replicate_succ,List.foldl_cons]
section
variable {X:Cx}{pins:List (Addr×Obj)}{σ:St}{H:Hp}{s:Shared}{l b:Addr}{xs ys zs:List V}
theorem Inv.lset {its its':List Value}{n:Nat}{f:Array Value→Array Value}{t':Nat} (I:Inv X pins σ H s) (hH:H l=some (.lst xs))
  (e:s.heap.get? l=some { cls:=.type "list",data:=.seq its.toArray n }) (hf:f its.toArray=its'.toArray) (hv:Vals ys its') (hz:ys.length≤sizeLine) :
  Inv X pins σ (upd H l (.lst ys)) { s with heap:=s.heap.update l (Obj.mapSeq f),toks:=t' }:=by
 have q:=PySem.IsL.update e f
 rw[hf] at q
 refine I.write (x:=l) (e:=l) (by rw[hH];exact trivial) (.inl rfl) (λ b' u hb hu=>(Heap.get?_update_other s.heap (Obj.mapSeq f) (Ne.symm hb)).trans hu) ⟨_,q⟩ ?_
 exact⟨hz,its',_,hv,q⟩
theorem Inv.lnew {its:List Value}{t':Nat} (I:Inv X pins σ H s) (hv:Vals ys its) (hz:ys.length≤sizeLine) :
  Inv X pins σ (upd H s.heap.objs.size (.lst ys)) { s with heap:=s.heap.push { cls:=.type "list",data:=.seq its.toArray },toks:=t' }:=
 I.laid (λ _ _ q=>Heap.get?_push_of_some _ q) (Nat.le_refl _) ⟨hz,its,0,hv,Heap.get?_push_size _ rfl⟩
theorem Inv.fresh (I:Inv X pins σ H s):H s.heap.objs.size=none:=I.hok.fresh (Nat.le_refl _)
theorem Inv.lstM (I:Inv X pins σ H s) (hH:H l=some (.lst xs)):xs.length≤sizeLine∧∃ (its:List Value) (n:Nat),Vals xs its∧xs.length=its.length∧s.heap.get? l=some { cls:=.type "list",data:=.seq its.toArray n }:=by
 obtain⟨z,its,n,r,e⟩:=I.hok l _ hH
 exact⟨z,its,n,r,r.length,e⟩
theorem oF {n:Nat} (h:n≤sizeLine):Builtin.List.listTooLong n=false:=by
 unfold Builtin.List.listTooLong
 exact decide_eq_false (by omega)
end
section
variable {X:Cx}
noncomputable def Lq:V→List V→Hp→VK→Prop:=λ x vs H Q=>∃ l xs y,x = .ref l∧vs=[y]∧H l=some (.lst xs)∧xs.length < sizeLine∧Q .non (upd H l (.lst (xs++[y])))
theorem vB:Za X "list.append" Lq:=by
 intro pins s σ H x vs v us Q I rx rv h
 obtain⟨l,xs,y,rfl,rfl,hH,hz,q⟩:=h
 cases rx
 obtain⟨u,rfl,ru⟩:=rv.one
 obtain⟨z,its,n,r,hl,e⟩:=I.lstM hH
 refine call_meets F.slot_list_append ⟨_,e,rfl⟩ F.entry_list_append (F.args_list_append_2 _ _) (PySem.list_append l its.toArray n u (by rw[List.size_toArray];omega)) ⟨e,?_⟩
 refine⟨.non,_,I.lset (its':=its++[u]) hH e (by simp) (r.append (.cons ru .nil)) ?_,rfl,q⟩
 rw[List.length_append,List.length_singleton]
 omega
noncomputable def Lr:V→List V→Hp→VK→Prop:=λ x vs H Q=>∃ l b xs zs,x = .ref l∧vs=[.ref b]∧H l=some (.lst xs)∧H b=some (.lst zs)∧xs.length+zs.length≤sizeLine∧Q .non (upd H l (.lst (xs++zs)))
theorem Ft:Za X "list.extend" Lr:=by
 intro pins s σ H x vs v us Q I rx rv h
 obtain⟨l,b,xs,zs,rfl,rfl,hH,hB,hz,q⟩:=h
 cases rx
 obtain⟨u,rfl,ru⟩:=rv.one
 cases ru
 obtain⟨z,its,n,r,hl,e⟩:=I.lstM hH
 obtain⟨z2,its2,n2,r2,hl2,e2⟩:=I.lstM hB
 have hsz:its.toArray.size+its2.toArray.size≤sizeLine:=by rw[List.size_toArray,List.size_toArray];omega
 have Hz:¬ (!its.toArray.isEmpty&&Builtin.List.listTooLong (its.toArray.size+its2.toArray.size))=true:=by
  rw[oF hsz,Bool.and_false]
  exact Bool.false_ne_true
 refine call_meets F.slot_list_extend ⟨_,e,rfl⟩ F.entry_list_extend (F.args_list_extend_2 _ _)
  (AutoSeq1.list_extend_list_list_0 l its.toArray n b its2.toArray n2 Hz (by rw[List.size_toArray];omega) (by omega)) ⟨e,e2,?_⟩
 refine⟨.non,_,I.lset (its':=its++its2) hH e (by simp) (r.append r2) ?_,rfl,q⟩
 rw[List.length_append]
 omega
noncomputable def XH:R2:=λ x y H Q=>∃ l b xs zs,x = .ref l∧y = .ref b∧H l=some (.lst xs)∧H b=some (.lst zs)∧xs.length+zs.length≤sizeLine∧∀ p,H p=none→Q (.ref p) (upd H p (.lst (xs++zs)))
theorem Rg:OpR X (binaryOp .Add) XH:=by
 intro pins s σ H x y v u Q I rx ry h
 obtain⟨l,b,xs,zs,rfl,rfl,hH,hB,hz,q⟩:=h
 cases rx
 cases ry
 obtain⟨z,its,n,r,hl,e⟩:=I.lstM hH
 obtain⟨z2,its2,n2,r2,hl2,e2⟩:=I.lstM hB
 refine PySem.P.add_list e e2 ?_ (by rw[List.size_toArray,List.size_toArray];omega)
 have ea:its.toArray++its2.toArray=(its++its2).toArray:=by simp
 rw[ea]
 exact⟨.ref _,_,I.lnew (t':=s.toks) (r.append r2) (by rw[List.length_append];omega),rfl,q _ I.fresh⟩
noncomputable def XJ:R2:=λ x y H Q=>∃ l k xs,x = .ref l∧y = .int k∧H l=some (.lst xs)∧-(2 ^ 63)≤k∧k < 2 ^ 63∧xs.length * k.toNat≤sizeLine ∧
 ∀ p,H p=none→Q (.ref p) (upd H p (.lst (List.replicate k.toNat xs).flatten))
theorem len_rep {α:Type} (xs:List α) (k:Nat):(List.replicate k xs).flatten.length=k * xs.length:=by
 induction k with
 | zero=>simp
 | succ k ih=>rw[List.replicate_succ,List.flatten_cons,List.length_append,ih,Nat.succ_mul,Nat.add_comm]
theorem Rh:OpR X (binaryOp .Mult) XJ:=by
 intro pins s σ H x y v u Q I rx ry h
 obtain⟨l,k,xs,rfl,rfl,hH,h1,h2,hz,q⟩:=h
 cases rx
 obtain⟨t,rfl⟩:=ry
 obtain⟨z,its,n,r,hl,e⟩:=I.lstM hH
 have hlen:its.toArray.size * k.toNat≤sizeLine:=by rw[List.size_toArray,← hl];exact hz
 have hcap:¬ its.toArray.size * k.toNat > (2 ^ 63 - 1) / 8:=by
  have:(sizeLine:Nat)≤(2 ^ 63 - 1) / 8:=by decide
  omega
 have hfit:¬ (!Builtin.List.listFitsIndex k)=true:=by
  rw[fitsIndex_both h1 h2]
  exact Bool.false_ne_true
 have Hz:¬ Builtin.List.listTooLong (its.toArray.size * k.toNat)=true:=by
  rw[oF hlen]
  exact Bool.false_ne_true
 have hnew:List.foldl (λ x1 x2=>x1++x2) #[] (List.replicate (if its.toArray.isEmpty=true then 0 else k.toNat) its.toArray)=(List.replicate k.toNat its).flatten.toArray:=by
  have f0:∀ m:Nat,List.foldl (λ x1 x2=>x1++x2) #[] (List.replicate m its.toArray)=(List.replicate m its).flatten.toArray:=λ m=>by
   have:=foldl_rep its m []
   rw[List.nil_append] at this
   exact this
  rw[f0]
  cases its with
  | nil=>simp
  | cons a r'=>rw[if_neg (by simp)]
 refine wpAny_binaryOp_repeat_ref (T:="list") (U:="int") (by decide) ⟨_,e,rfl⟩ (λ s'=>typeIs_int s' k t) noFill_list_mul F.fills_int_mul F.slot_int_rmul repeat_list F.slot_int_index.lookup
  (call_meets F.slot_int_rmul (typeIs_int s k t) F.entry_int_rmul (F.args_int_rmul_2 _ _) (int___rmul___int_list k t l its.toArray n)
   ⟨e,rfl,⟨_,e,rfl⟩,call_meets F.slot_list_mul ⟨_,e,rfl⟩ F.entry_list_mul (F.args_list_mul_2 _ _) (AutoListH.list___mul___list_int_3 l its.toArray n k t hfit hcap Hz) ⟨e,?_⟩⟩)
 rw[hnew]
 exact⟨.ref _,_,I.lnew (t':=s.toks) (r.rep k.toNat) (by rw[len_rep,Nat.mul_comm];exact hz),rfl,q _ I.fresh⟩
end
section
variable {prog:Program}{w:World}{A:Around}{E:Value→Shared→Prop}{s:Shared}
theorem Bv {a c n:Nat} (hac:a≤c) (hc:c≤n):sliceBounds (some (a:Int)) (some (c:Int)) none n=((a:Int),(c:Int),1):=by
 simp only [sliceBounds,Option.getD_none]
 have h1:¬ ((a:Int) < 0):=by omega
 have h2:¬ ((c:Int) < 0):=by omega
 simp only [h1,h2,if_false,show (1:Int) > 0 by decide,if_true]
 congr 1
 ·omega
 ·congr 1;omega
set_option maxRecDepth 100000 in
theorem Ku {l b sl:Addr}{items new:Array Value}{n n2:Nat}{vl vu:Value}{a c:Nat}{Q:Unit→Shared→Prop}
  (e:s.heap.get? l=some { cls:=.type "list",data:=.seq items n }) (e2:s.heap.get? b=some { cls:=.type "list",data:=.seq new n2 }) (hne:l≠b)
  (hs:s.heap.IsSliceOf sl vl vu .none) (pl:IsPart vl (some (a:Int))) (pu:IsPart vu (some (c:Int))) (hac:a≤c) (hc:c≤items.size)
  (hsz:items.size+new.size≤sizeLine) (h:Q () { s with heap:=s.heap.update l (Obj.mapSeq λ xs=>xs.extract 0 a++new++xs.extract c xs.size) }) :
  wpAny (model prog w) A (setItem (.ref l) (.ref sl) (.ref b)) Q E s:=by
 have hl:s.heap.IsList l items:=PySem.IsL.isList e
 have hb:s.heap.IsList b new:=PySem.IsL.isList e2
 obtain⟨os,hos,hcs,hds⟩:=id hs
 have hTs:s.TypeIs (.ref sl) "slice":=⟨os,hos,hcs⟩
 have hstep:¬ ((rawPart none==rawInt 0)=true):=Bool.false_ne_true
 have hsame:Builtin.List.listSameRef (.ref l) (.ref b)=false:=by
  unfold Builtin.List.listSameRef
  exact beq_eq_false_iff_ne.mpr hne
 have XM:(max (a:Int) (c:Int)).toNat=c:=by omega
 have hz':((λ xs:Array Value=>xs.extract 0 a++new++xs.extract c xs.size) items).size≤sizeLine+1:=by
  simp only [Array.size_append,Array.size_extract]
  omega
 unfold setItem
 try with_reducible refine wpAny_holding ?_
 first | refine wpAny_bind (wpAny_pure ?_) | skip
 refine wpAny_bind (wpAny_sequenceKey hl.typeIs (by decide) ?_)
 refine wpAny_bind (wpAny_callSpecial?_slot (name:=Str.ofString "__setitem__") hl.typeIs slot_list_setitem
  (wpAny_call_entry slot_list_setitem hl.typeIs entry_list_setitem ?_ (args_list_setitem _ _ _)))
 show wpAny _ _ (Builtin.List.listSubscript? (.ref sl) >>= _) _ _ s
 refine wpAny_bind ?_
 unfold Builtin.List.listSubscript?
 refine wpAny_bind (wpAny_specialOf hTs slice_no_index ?_)
 simp only [Option.isNone_none,if_true]
 refine wpAny_pure ?_
 show wpAny _ _ (typeOf (.ref sl) >>= _) _ _ s
 refine wpAny_bind (wpAny_typeOf hTs ?_)
 first
  | rw[if_neg (by decide)]
  | refine W.KFB.if_not (by decide) ?_
 rw[listSliceParts_eq]
 refine wpAny_bind (wpAny_bind (wpAny_field hos hds (x:=.none) rfl (wpAny_bind (wpAny_listPart .none ?_))))
 rw[if_neg hstep]
 refine wpAny_bind (wpAny_field hos hds (x:=vl) rfl (wpAny_bind (wpAny_listPart pl ?_)))
 refine wpAny_bind (wpAny_field hos hds (x:=vu) rfl (wpAny_bind (wpAny_listPart pu (wpAny_pure ?_))))
 first
  | simp only [hsame,Bool.false_eq_true,if_false]
  | refine W.KFB.if_not hsame ?_
  | (dsimp only
     rw[if_neg (by rw[hsame];exact Bool.false_ne_true)])
 refine wpAny_bind (m:=Builtin.List.listAllItems (.ref b) "must assign iterable to extended slice") ?_
 unfold Builtin.List.listAllItems
 refine wpAny_bind (wpAny_typeOf hb.typeIs ?_)
 first
  | refine W.KFB.if_so (by decide) ?_
  | rw[if_pos (by decide)]
  | simp only [beq_self_eq_true,Bool.true_or,if_true]
 unfold Builtin.List.listItems
 refine wpAny_bind (wpAny_seqItems e2 rfl (wpAny_pure ?_))
 refine wpAny_bind (wpAny_bind (wpAny_seqItems e rfl (wpAny_pure ?_)))
 refine wpAny_bind (wpAny_of_eq ((sliceIndices_raw (some (a:Int)) (some (c:Int)) none items.size (by simp)).trans (congrArg (pure:Int×Int×Int→Sem (Int×Int×Int)) (Bv hac hc))) ?_)
 show wpAny _ _ (if ((1:Int)==1)=true then _ else _) _ _ s
 rw[if_pos (by decide)]
 refine wpAny_bind (wpAny_rule ?_)
 first
  | simp only [oF hsz,Bool.false_eq_true,if_false]
  | refine W.KFB.if_not (oF hsz) ?_
 first | refine wpAny_bind (wpAny_pure ?_) | skip
 show wpAny _ _ (updateSeq l (λ xs=>xs.extract 0 ((a:Int)).toNat++new++xs.extract (max (a:Int) (c:Int)).toNat xs.size) >>= _) _ _ s
 rw[XM,Int.toNat_natCast]
 refine wpAny_bind (wpAny_updateSeq (hz:=Nat.le_trans (Nat.le_add_right _ _) hsz) (_hz':=hz') e rfl ?_)
 refine wpAny_bind (wpAny_letGo ?_)
 first
  | exact wpAny_bind (wpAny_pure (wpAny_pure ⟨.none,rfl,wpAny_pure h⟩))
  | exact wpAny_pure ⟨.none,rfl,wpAny_pure h⟩
end
section
variable {X:Cx}
end
end L2
namespace Att
open PySem PySem.W PySem.Calls PyProof.Rows
theorem qK {P:Params}{h:Heap}:∀ (ns:List Int) (vs:List Value),WellAll P h vs (ns.map WData.int)→IntsAre vs ns:=by
 intro ns
 induction ns with
 | nil=>
  intro vs w
  rw[List.map_nil] at w
  cases w
  exact .nil
 | cons n ns ih=>
  intro vs w
  rw[List.map_cons] at w
  cases w with
  | cons a b=>
   cases a
   exact .cons _ _ (ih _ b)
theorem Fv {l:OpenLaw}{n:Nat} (hn:l.most=some n) {P:Params}{h:Heap}{args:List WData}{vals:List Value}
  (hpre:l.row.toRowW.claim.pre args=true) (hwl:WellAll P h vals args) :
  ∃ a vs ns,vals=[Value.ref a]∧args=[WData.list (ns.map WData.int)]∧h.get? a=some { cls:=.type "list",data:=.seq vs.toArray }∧IntsAre vs ns∧ns.length≤n:=by
 have hsh:WShape.hasAll [] args [.list .int]=true:=(pre_splitW hpre).1
 have hc:l.pre.holds [] { args:=args } = true:=(pre_splitW hpre).2
 obtain⟨d,r,rfl,h1,h2⟩:=hasAllW_cons hsh
 obtain rfl:=hasAllW_nil h2
 obtain⟨xs,rfl,h3⟩:=hasW_list h1
 obtain⟨ns,rfl⟩:=items_int h3
 have hlen:ns.length≤n:=by
  unfold OpenLaw.pre at hc
  have h4:(WTm.not (.lt (.lit (.int (n:Int))) (.len (.arg 0)))).holds [] { args:=[.list (ns.map .int)] } = true:=by
   have h4:=(holds_andW hc).1
   rw[hn] at h4
   exact h4
  have h5:=condW_of h4 (w_not (w_lt w_lit (w_len_list (w_arg rfl))))
  rw[List.length_map] at h5
  refine Nat.le_of_not_lt λ q=>?_
  have q':(n:Int) < ((ns.length:Nat):Int):=by omega
  first
   | (rw[decide_eq_true q'] at h5;exact absurd h5 (by decide))
   | (simp at h5;omega)
 cases hwl with
 | cons w1 w2=>
  cases w2
  cases w1 with
  | list ho hall=>exact⟨_,_,ns,rfl,rfl,ho,qK ns _ hall,hlen⟩
theorem Fw (l:OpenLaw) (args:List WData):l.row.toRowW.claim.post args (.bool true) args=true:=
 postW_of (r:=l.row.toRowW) (X:=(true==true))
  (show WShape.has [] (.bool true) .bool=true by first | rfl | decide | simp[WShape.has,WShape.arms,WShape.armsAll])
  (show (WTm.eq .res (.lit (.bool true))).value [] { args:=args,res:=some (.bool true),after:=args } = some (.bool (true==true)) from w_eq_bool (w_res rfl) w_lit) rfl
theorem attach_call {l:OpenLaw}{n:Nat}{q:Program}{loose:List Str}{XP:(Str→Option Value)→Heap→Prop}{YP:World→Heap→Prop}{d:DefRec}
  (hn:l.most=some n) (hdf:d.params.defaults=[])
  (call:∀ (w:World) (s₀ s₁:Shared) (mg mb:Str→Option Value) (fa:Addr) (o:Obj) (pm cd doc:Value) (a:Addr) (vs:List Value) (ns:List Int),
   Ground q loose [] XP w s₀ mg mb s₁.heap→YP w s₁.heap →
   s₁.heap.get? fa=some o→o.data = .func (docDef d.name d.params d.body d.scope pm cd doc)→s₁.heap.CodeRec cd d.name→mg d.name=some (.ref fa) →
   s₁.heap.get? a=some { cls:=.type "list",data:=.seq vs.toArray }→IntsAre vs ns→ns.length≤n→s₁.gens = #[] →
   codeAny (model l.prog w) callerA (.call (.ref fa) ⟨[.ref a],[]⟩) (λ r s'=>r = .ok (.ret (.bool true))∧OldK s₁.heap s'.heap∧s'.os=s₁.os∧AllBare s'.gens) s₁) :
  WalkO q loose XP YP l.row.toRowW d [] (λ f vs=>PySem.call f vs):=by
 intro w s₀ s₁ mg mb G Y fa o pm cd doc dV kV ho hd hcd hD hmg hg args vals as hpre hlay hrd hwl hlo
 obtain rfl:dV = .none:=Dflts.none hD hdf
 obtain rfl:kV = .none:=Dflts.noKw hD
 obtain⟨a,vs,ns,rfl,rfl,hobj,hints,hlen⟩:=Fv hn hpre hwl
 refine enter_call (codeAny_mono (call w s₀ s₁ mg mb fa o pm cd doc a vs ns G Y ho (fd_plain hd) hcd hmg hobj hints hlen hg) λ r s' hq=>?_)
 obtain⟨rfl,h2,h3,h4⟩:=hq
 exact⟨.inl ⟨.bool true,.bool true,[],rfl,λ _=>rfl,.bool true,Fw l _,λ _=>⟨List.Pairwise.nil,λ _ hm=>(nomatch hm)⟩⟩,h2,h3,h4⟩
section
variable {prog:Program}{w:World}{A:Around}{E:Value→Shared→Prop}{s:Shared}{K:Frag}
end
end Att
namespace L2
open PySem PySem.Spec PyProof.Rows
theorem vC:∀ {vs:List Value}{ns:List Int},IntsAre vs ns→Vals (ns.map V.int) vs
 | _,_,.nil=>.nil
 | _,_,.cons n t h=>.cons ⟨t,rfl⟩ (vC h)
noncomputable def Only (H:Hp):Prop:=∀ b,H b=none∨∃ o xs,H b=some (.frz o (.lst xs))
theorem HB {P:Program}{w:World}{K:W.Frag}{mg mb:Str→Option Value}{CX:CXT}{k:Nat}{fa a:Addr}{fd:FuncData}{x:Str}{sp:Sp}{s₁:Shared}{vs:List Value}{ns:List Int}
  (KX:K.In s₁.heap) (hns:s₁.heap.Ns mainGlobals mg) (hb:s₁.heap.Ns builtinsNs mb) (hbb:∀ x:Str,x≠"__name__"→mb x=bootBuiltins x) (hlim:s₁.heap.NoLimit) (hg:s₁.gens = #[])
  (ha:s₁.heap.get? a=some { cls:=.type "list",data:=.seq vs.toArray }) (hi:IntsAre vs ns) (hl:ns.length≤sizeLine) (hr:Room k callerA)
  (F:∀ base:Heap,K.In base→base.Ns mainGlobals mg→FnOk P w K mg base CX k fa fd [x] sp) (hbind:∀ (s:Shared) (u:Value),BindsTo s fd ⟨[u],[]⟩ [(x,u)])
  (hsp:∀ H:Hp,Only H→SqL K H a (ns.map V.int)→sp [.ref a] H (λ v _=>v = .bl true) λ _ _ _=>False)
  (XQ:∀ H e s',CX [] H s₁ (λ _ _ _=>False) e s'→False) :
  codeAny (model P w) callerA (.call (.ref fa) ⟨[.ref a],[]⟩) (λ r s'=>r = .ok (.ret (.bool true))∧OldK s₁.heap s'.heap∧s'.os=s₁.os∧AllBare s'.gens) s₁:=by
 have rv:=vC hi
 have lenV:=hi.length
 have core:∀ H:Hp,Only H→SqL K H a (ns.map V.int)→HOk P w H s₁.heap→(∀ b,H b≠none→b=a)→(H a≠none→K.lookup a=none) →
   codeAny (model P w) callerA (.call (.ref fa) ⟨[.ref a],[]⟩) (λ r s'=>r = .ok (.ret (.bool true))∧OldK s₁.heap s'.heap∧s'.os=s₁.os∧AllBare s'.gens) s₁:=by
  intro H hO hS hok hA hK
  have Dt:∀ {b:Addr} {o:Obj},s₁.heap.get? b=some o→H b=none→(v7 s₁.heap H).get? b=some o:=λ e n=>GZ e n
  have Vh:∀ {b:Addr} {o:Obj} {es:Array DictEntry} {ep:Nat},s₁.heap.get? b=some o→o.data = .dict es ep→H b=none:=λ {b o es ep} e d=>by
   cases q:H b with
   | none=>rfl
   | some u=>
    have e':b=a:=hA b (by rw[q];simp)
    subst e'
    rw[ha] at e;cases e
    have d':Data.seq vs.toArray _=Data.dict es ep:=d
    cases d'
  have W5:∀ {b:Addr} {m:Str→Option Value},s₁.heap.Ns b m→(v7 s₁.heap H).Ns b m:=λ {b m} ⟨o,es,ep,e,d,r⟩=>⟨o,es,ep,Dt e (Vh e d),d,r⟩
  have Zb:K.In (v7 s₁.heap H):=λ b o e=>Dt (KX b o e) (by
   cases q:H b with
   | none=>rfl
   | some u=>
    have e':b=a:=hA b (by rw[q];simp)
    subst e'
    rw[hK (by rw[q];simp)] at e;cases e)
  have hM:Mod K mg (v7 s₁.heap H):=⟨Zb,W5 hns,⟨mb,W5 hb,hbb⟩,let ⟨mc,h1,h2⟩:=hlim;⟨mc,W5 h1,h2⟩⟩
  have e0:Env0 P w K mg (v7 s₁.heap H) callerA [] s₁ H:=⟨rfl,hM,λ b o e=>KY e,Nat.le_of_eq (EY _ _),trivial,λ b hb=>absurd (show b∈([]:List Addr) from hb) (by simp),hok,.of_eq hg⟩
  refine codeAny_mono ((F _ Zb (W5 hns)).run callerA [] s₁ H ⟨[.ref a],[]⟩ [.ref a] [.ref a] _ _ hr e0 (hbind s₁ (.ref a)) (.cons rfl .nil) (hsp H hO hS)) λ r s' h=>?_
  cases r with
  | error e=>exact(XQ H e s' h).elim
  | ok fl=>
   cases fl with
   | next=>exact False.elim h
   | brk=>exact False.elim h
   | cont=>exact False.elim h
   | ret u=>
    obtain⟨v,H',os,bare,un,hok',r',q⟩:=h
    have q':v = .bl true:=q
    subst q'
    obtain rfl:u=Value.bool true:=r'
    refine⟨rfl,OldK.of_keep λ b o e=>?_,os,bare⟩
    cases q:H b with
    | none=>exact un.keep b o e q (by intro z;exact absurd (show b∈([]:List Addr) from z) (by simp)) (by simp)
    | some u=>
     rcases hO b with z | ⟨ob,xs,z⟩
     ·rw[q] at z;cases z
     ·have z2:=un.frzs b ob _ z
      obtain⟨e1,_⟩:=hok b _ z
      obtain⟨e2,_⟩:=hok' b _ z2
      rw[e] at e1;cases e1
      exact e2
 cases hk:K.lookup a with
 | some o=>
  have e:=KX a o hk
  rw[ha] at e
  cases e
  refine core (λ _=>none) (λ _=>.inl rfl) (.inr ⟨_,vs.toArray,_,hk,rfl,rfl,rfl,by rw[List.size_toArray,lenV];exact hl,by simpa using rv⟩) (λ b u z=>by have z':(none:Option HO)=some u:=z;cases z') (λ b z=>absurd rfl z) λ z=>absurd rfl z
 | none=>
  refine core (λ b=>if b=a then some (.frz { cls:=.type "list",data:=.seq vs.toArray } (.lst (ns.map V.int))) else none) (λ b=>?_) (.inl (.inr ⟨{ cls:=.type "list",data:=.seq vs.toArray },if_pos rfl⟩)) (λ b u z=>?_) (λ b z=>?_) λ _=>hk
  ·by_cases hb:b=a
   ·exact .inr ⟨_,_,if_pos hb⟩
   ·exact .inl (if_neg hb)
  ·by_cases hb:b=a
   ·have z':=(if_pos hb).symm.trans z
    cases z'
    subst hb
    exact⟨ha,by rw[List.length_map];exact hl,vs,_,rv,ha⟩
   ·have z':=(if_neg hb).symm.trans z
    cases z'
  ·by_cases hb:b=a
   ·exact hb
   ·exact absurd (if_neg hb) z
end L2
namespace L2
open PySem PySem.Spec PyProof.Rows
abbrev KOf {K:W.Frag}{h:Heap} (_:K.In h):W.Frag:=K
theorem walk_of {l:W.OpenLaw}{n k:Nat}{q:Program}{loose:List Str}{XP:(Str→Option Value)→Heap→Prop}{YP:World→Heap→Prop}{d:DefRec}{K:Params→W.Frag}{CX:World→CXT}{sp:World→Sp}{x:Str}
  (hn:l.most=some n) (hn2:n≤sizeLine) (hdf:d.params.defaults=[]) (hr:Room k callerA)
  (hY:∀ (w:World) (h:Heap),YP w h→(K w.params).In h)
  (F:∀ (w:World) (mg:Str→Option Value) (fa:Addr) (h:Heap),(K w.params).In h→h.Ns mainGlobals mg→mg d.name=some (.ref fa) →
   ∃ fd:FuncData,(∀ (s:Shared) (u:Value),BindsTo s fd ⟨[u],[]⟩ [(x,u)]) ∧
    ∀ base:Heap,(K w.params).In base→base.Ns mainGlobals mg→FnOk l.prog w (K w.params) mg base (CX w) k fa fd [x] (sp w))
  (hsp:∀ (w:World) (H:Hp) (a:Addr) (ns:List Int),ns.length≤n→Only H→SqL (K w.params) H a (ns.map V.int)→sp w [.ref a] H (λ v _=>v = .bl true) λ _ _ _=>False)
  (XQ:∀ (w:World) (H:Hp) (s:Shared) (e:Value) (s':Shared),CX w [] H s (λ _ _ _=>False) e s'→False) :
  W.WalkO q loose XP YP l.row.toRowW d [] (λ f vs=>PySem.call f vs):=by
 refine Att.attach_call hn hdf λ w s₀ s₁ mg mb fa o pm cd doc a vs ns G Y ho hd hcd hmg hobj hints hlen hg=>?_
 have KX:=hY w _ Y
 obtain⟨fd,hb,hF⟩:=F w mg fa _ KX G.T.g hmg
 exact HB KX G.T.g G.T.b G.T.builtins G.T.nolimit hg hobj hints (Nat.le_trans hlen hn2) hr hF hb (λ H hO hS=>hsp w H a ns hlen hO hS) λ H e s'=>XQ w H s₁ e s'
end L2
namespace L2
open PySem PySem.Spec PyProof.Rows
noncomputable def inClass (s:Stmt) (j:Nat):Stmt:=match s with
 | .ClassDef _ _ _ body _ _ _ _ _ _ _=>body.getD j (.Pass ⟨0,0,0,0⟩)
 | _=>.Pass ⟨0,0,0,0⟩
noncomputable def defArgs (s:Stmt):Arguments:=match s with
 | .FunctionDef _ a _ _ _ _ _ _ _ _=>a
 | _=>{ posonlyargs:=[],args:=[],vararg:=none,kwonlyargs:=[],kw_defaults:=[],kwarg:=none,defaults:=[] }
noncomputable def defBody (s:Stmt):List Stmt:=match s with
 | .FunctionDef _ _ b _ _ _ _ _ _ _=>b
 | _=>[]
noncomputable def defScope (s:Stmt):Scope:=match s with
 | .FunctionDef _ _ _ _ _ _ sc _ _ _=>sc
 | _=>{ kind:=.function,names:=[],isGenerator:=false,isCoroutine:=false }
abbrev CX0:CXT:=λ _ _ _ _ _ _=>False
abbrev E0:XK:=λ _ _ _=>False
theorem Ox {X:Cx}:Passes CX0 X E0:=λ _ _ _ _ _ _ _ h=>h.elim
structure Fun (K:W.Frag) (x qual:Str) (st:Stmt) (f:Addr) (fd:FuncData):Prop where
 ex:∃ (oc:Value) (od:Option Addr) (kV doc pm:Value) (an:Option Addr) (cdv ct:Value) (osl:Array (Option Value)),
  fd=W.fnOf x qual (defArgs st) (defBody st) (defScope st) .none kV doc pm an cdv ct∧K.lookup f=some ⟨oc,od,.func fd,osl⟩∧W.codeIn K cdv qual=true
 kp:W.keepIn K (.ref f)=true
section
variable {P:Program}{w:World}{K:W.Frag}{mg:Str→Option Value}{base:Heap}
theorem Fun.ok {x qual:Str}{st:Stmt}{f:Addr}{fd:FuncData}{N ps:List Str}{k:Nat}{sp:Sp} (F:Fun K x qual st f fd) (S:FnScope N ps (defScope st)) (len:∀ vs H Q E,sp vs H Q E→vs.length=ps.length)
  (hbody:∀ (cdv:Value) (A:Around) (outer:List Env) (s:Shared) (H:Hp) (vs:List V) (Q:VK) (E:XK),Room k (A.deeper (envOfC qual (defScope st) s.heap.objs.size f cdv))→sp vs H Q E →
   ∃ t,PSs (nj CX0 P w K mg base N qual (defScope st) f cdv A outer s H E).nox (defBody st) t∧t { nx:=λ _ H'=>Q .non H',rt:=Q } (start N vs) H):FnOk P w K mg base CX0 (k+1) f fd ps sp:=by
 obtain⟨oc,od,kV,doc,pm,an,cdv,ct,osl,rfl,lk,hcd⟩:=F.ex
 refine Ov lk hcd S len λ A outer s H vs Q E hr hsp=>?_
 obtain⟨t,h,q⟩:=hbody cdv A outer s H vs Q E hr hsp
 exact⟨t,h.nox,q⟩
theorem Fun.binds {x qual:Str}{st:Stmt}{f:Addr}{fd:FuncData}{ps:List Str} (F:Fun K x qual st f fd)
  (h:∀ (kV doc pm:Value) (an:Option Addr) (cdv ct:Value) (us:List Value),us.length=ps.length→bindArgs (W.fnOf x qual (defArgs st) (defBody st) (defScope st) .none kV doc pm an cdv ct) ⟨us,[]⟩=pure (ps.zip us)):Binds K fd ps []:=by
 obtain⟨oc,od,kV,doc,pm,an,cdv,ct,osl,rfl,lk,hcd⟩:=F.ex
 exact .all (h kV doc pm an cdv ct)
theorem HD {x qual:Str}{st:Stmt}{f:Addr}{oc:Value}{od an:Option Addr}{osl:Array (Option Value)}{kV doc pm cdv ct:Value} (l:K.lookup f=some ⟨oc,od,.func (W.fnOf x qual (defArgs st) (defBody st) (defScope st) .none kV doc pm an cdv ct),osl⟩)
  (c:W.codeIn K cdv qual=true) (k:W.keepIn K (.ref f)=true):Fun K x qual st f (W.fnOf x qual (defArgs st) (defBody st) (defScope st) .none kV doc pm an cdv ct):=⟨⟨oc,od,kV,doc,pm,an,cdv,ct,osl,rfl,l,c⟩,k⟩
end
theorem cL {A:Around}{k:Nat} (hr:Room k A):A.units+1 < cLine:=Nat.lt_of_le_of_lt (Nat.add_le_add_left (by decide:1≤64) _) hr.units
section
variable {X:Cx}
end
noncomputable def Same (H H':Hp):Prop:=∀ b o,H b=some o→H' b=some o
theorem Same.refl (H:Hp):Same H H:=λ _ _ h=>h
theorem Same.trans {H H1 H2:Hp} (a:Same H H1) (b:Same H1 H2):Same H H2:=λ c o h=>b c o (a c o h)
theorem Same.free {H H':Hp} (e:Same H H') {l:Addr} (h:H' l=Option.none):H l=Option.none:=by
 cases q:H l with
 | none=>rfl
 | some o=>
  rw[e l o q] at h
  cases h
theorem Same.seq {K:W.Frag}{H H':Hp}{a:Addr}{xs:List V} (e:Same H H') (h:SqL K H a xs):SqL K H' a xs:=by
 rcases h with (h | ⟨o,h⟩) | h
 ·exact .inl (.inl (e _ _ h))
 ·exact .inl (.inr ⟨o,e _ _ h⟩)
 ·exact .inr h
section
variable {κ:Type} [DecidableEq κ]
end
end L2
set_option maxHeartbeats 4000000
namespace L2
open PySem PySem.Spec PyProof.Rows
noncomputable def qL (env:Env):List (Str×NameKind)→List (Str×Addr)→List (Str×Addr)
 | [],acc=>acc
 | (n,k)::r,acc=>qL env r (if (k==NameKind.free)=true then (n,(env.cells.lookup n).getD 0)::acc else acc)
theorem uo {scope:Scope}{env:Env} (h:∀ x∈scope.names,x.2 = .free→∃ c,env.cells.lookup x.1=some c):closureFor scope env=pure (qL env scope.names []):=by
 unfold closureFor
 generalize ([]:List (Str×Addr))=acc
 generalize scope.names=l at h
 induction l generalizing acc with
 | nil=>rfl
 | cons x r ih=>
  obtain⟨n,k⟩:=x
  have ih:=λ a=>ih a λ y hy=>h y (List.mem_cons_of_mem _ hy)
  simp only [List.forIn_cons,qL]
  by_cases hk:k = .free
  ·obtain⟨c,hc⟩:=h (n,k) List.mem_cons_self hk
   subst hk
   have e:cellOf env n=pure c:=by unfold cellOf;simp only at hc;rw[hc]
   simp only [beq_self_eq_true,if_true,e,hc,Option.getD_some]
   exact ih ((n,c)::acc)
  ·have:(k==NameKind.free)=false:=by simpa using hk
   simp only [this,Bool.false_eq_true,if_false]
   exact ih acc
theorem yP {env:Env}{y:Str}{c:Addr}:∀ (l:List (Str×NameKind)) (acc:List (Str×Addr)),(∀ z d,acc.lookup z=some d→env.cells.lookup z=some d)→(∀ x∈l,x.2 = .free→∃ c,env.cells.lookup x.1=some c) →
  (qL env l acc).lookup y=some c→env.cells.lookup y=some c
 | [],acc,ha,_,e=>ha y c e
 | (n,k)::r,acc,ha,hf,e=>by
  unfold qL at e
  refine yP r _ ?_ (λ x hx=>hf x (List.mem_cons_of_mem _ hx)) e
  intro z d hz
  split at hz
  ·rename_i hk
   have hk:k = .free:=by simpa using hk
   obtain⟨c',hc'⟩:=hf (n,k) List.mem_cons_self hk
   simp only at hc'
   rw[List.lookup_cons,hc'] at hz
   by_cases Zc:z=n
   ·subst Zc
    simp only [beq_self_eq_true,Option.getD_some] at hz
    rw[hc'];exact hz
   ·have:(z==n)=false:=by simpa using Zc
    rw[this] at hz
    exact ha z d hz
  ·exact ha z d hz
theorem rO {env:Env}{y:Str}:∀ (l:List (Str×NameKind)) (acc:List (Str×Addr)),((∃ c,acc.lookup y=some c)∨(y,NameKind.free)∈l)→∃ c,(qL env l acc).lookup y=some c
 | [],acc,h=>h.elim (λ x=>x) λ x=>by cases x
 | (n,k)::r,acc,h=>by
  unfold qL
  refine rO r _ ?_
  rcases h with ⟨c,hc⟩ | h
  ·left
   split
   ·rw[List.lookup_cons]
    split
    ·exact⟨_,rfl⟩
    ·exact⟨c,hc⟩
   ·exact⟨c,hc⟩
  ·rcases List.mem_cons.mp h with h | h
   ·cases h
    left
    simp
   ·exact .inr h
noncomputable def blk (X:Cx) (scope:Scope) (N:List Str) (C:Addr) (ex:List Addr) (pins:List (Addr×Obj)) (s₀:Shared) (H₀:Hp) (E:Value→Shared→Prop):Cx where
 prog:=X.prog
 w:=X.w
 K:=X.K
 mg:=X.mg
 base:=X.base
 A:=X.A
 N:=N
 s₀:=s₀
 H₀:=H₀
 env:=compEnvC scope (qL X.env scope.names []) C X.env
 outer:=X.stack
 stack:=X.stack
 ex:=ex
 fn:=λ _=>false
 calm:=X.calm
 pn:=X.pn++pins
 xe:=E
noncomputable def slots (fr:List (Option Nat)) (σ:St):St:=fr.map λ o=>match o with
 | none=>none
 | some j=>(σ[j]?).getD none
noncomputable def Du (N₀ N:List Str) (fr:List (Option Nat)) (scope oscope:Scope):Bool:=
 (N.zip fr).all (λ p=>match p.2 with
  | none=>true
  | some j=>decide (N₀[j]? = some p.1)&&decide (scope.names.lookup p.1=some .free)) &&
 scope.names.all (λ x=>x.2 != .cell&&(x.2 != .free || (oscope.names.lookup x.1==some .cell || oscope.names.lookup x.1==some .free))&&(x.2 != .local || decide (scope.names.lookup x.1=some .local))) &&
 decide (fr.length=N.length)&&(scope.kind == .function)
structure CompOk (X:Cx) (N:List Str) (fr:List (Option Nat)) (scope:Scope):Prop where
 cell:∀ y∈scope.names,y.2≠.cell
 free:∀ y∈scope.names,y.2 = .free→X.env.kindOf y.1=some .cell∨X.env.kindOf y.1=some .free
 loc:∀ y∈scope.names,y.2 = .local→scope.names.lookup y.1=some .local
 slot:∀ (i j:Nat) (x:Str),N[i]? = some x→fr[i]? = some (some j)→X.N[j]? = some x∧scope.names.lookup x=some .free
 len:fr.length=N.length
 kind:scope.kind = .function
theorem CompOk.of {X:Cx}{N N₀:List Str}{fr:List (Option Nat)}{scope oscope:Scope} (h:Du N₀ N fr scope oscope=true) (hN:X.N=N₀:=by rfl) (hs:X.env.scope.names=oscope.names:=by rfl):CompOk X N fr scope:=by
 unfold Du at h
 simp only [Bool.and_eq_true,decide_eq_true_eq,List.all_eq_true,beq_iff_eq] at h
 obtain⟨⟨⟨h1,h2⟩,h3⟩,h4⟩:=h
 refine⟨λ y hy=>?_,λ y hy hf=>?_,λ y hy hl=>?_,λ i j x e1 e2=>?_,h3,h4⟩
 ·have:=(h2 y hy).1.1
  simpa using this
 ·have:=(h2 y hy).1.2
  unfold Env.kindOf
  rw[hs]
  simpa[hf] using this
 ·have:=(h2 y hy).2
  simpa[hl] using this
 ·have hm:(x,some j)∈N.zip fr:=by
   refine List.mem_of_getElem? (i:=i) ?_
   rw[List.getElem?_zip_eq_some]
   exact⟨e1,e2⟩
  have:=h1 _ hm
  rw[hN]
  simpa using this
theorem Fx {fr:List (Option Nat)}{σ:St}{i:Nat}{v:V} (h:(slots fr σ)[i]? = some (some v)):∃ j:Nat,fr[i]? = some (some j)∧σ[j]? = some (some v):=by
 unfold slots at h
 rw[List.getElem?_map] at h
 cases e:fr[i]? with
 | none=>rw[e] at h;cases h
 | some o=>
  rw[e] at h
  cases o with
  | none=>cases h
  | some j=>
   refine⟨j,rfl,?_⟩
   have h':(σ[j]?).getD none=some v:=by simpa using h
   cases e2:σ[j]? with
   | none=>rw[e2] at h';cases h'
   | some q=>rw[e2] at h';simp at h';rw[h']
theorem jH {scope:Scope}{env:Env}:∀ {l:List (Str×NameKind)}{x:Str}{k:NameKind},
  (l.map λ (n,k)=>if (k==NameKind.free&&env.scope.kind == .function&&env.kindOf n==some .cell) then (n,NameKind.cell) else (n,k)).lookup x=some k →
  ∃ k',(x,k')∈l∧l.lookup x=some k'∧(k=k'∨(k' = .free∧k = .cell))
 | [],x,k,h=>by cases h
 | (n,k0)::r,x,k,h=>by
  simp only [List.map_cons] at h
  by_cases hx:x=n
  ·subst hx
   refine⟨k0,List.mem_cons_self,by simp,?_⟩
   split at h
   ·rename_i hc
    simp at h
    have:k0 = .free:=by simp at hc;exact hc.1.1
    exact .inr ⟨this,h.symm⟩
   ·simp at h
    exact .inl h.symm
  ·have hb:(x==n)=false:=by simpa using hx
   have h':(r.map λ (n,k)=>if (k==NameKind.free&&env.scope.kind == .function&&env.kindOf n==some .cell) then (n,NameKind.cell) else (n,k)).lookup x=some k:=by
    split at h <;> (rw[List.lookup_cons,hb] at h;exact h)
   obtain⟨k',m,l',q⟩:=jH (scope:=scope) h'
   exact⟨k',List.mem_cons_of_mem _ m,by rw[List.lookup_cons,hb];exact l',q⟩
theorem qy {env:Env}:∀ {l:List (Str×NameKind)}{x:Str},l.lookup x=some .free →
  (l.map λ (n,k)=>if (k==NameKind.free&&env.scope.kind == .function&&env.kindOf n==some .cell) then (n,NameKind.cell) else (n,k)).lookup x=some .cell ∨
  (l.map λ (n,k)=>if (k==NameKind.free&&env.scope.kind == .function&&env.kindOf n==some .cell) then (n,NameKind.cell) else (n,k)).lookup x=some .free
 | [],x,h=>by cases h
 | (n,k0)::r,x,h=>by
  simp only [List.map_cons]
  by_cases hx:x=n
  ·subst hx
   simp at h
   subst h
   split
   ·left;simp
   ·right;simp
  ·have hb:(x==n)=false:=by simpa using hx
   rw[List.lookup_cons,hb] at h
   have:=qy (env:=env) h
   split <;> (rw[List.lookup_cons,hb];exact this)
section
variable {X:Cx}{pins:List (Addr×Obj)}{σ:St}{H:Hp}{s:Shared}{N:List Str}{fr:List (Option Nat)}{scope:Scope}{fp:List Addr}{E:Value→Shared→Prop}
theorem Inv.clHas (I:Inv X pins σ H s) (c:CompOk X N fr scope):∀ x∈scope.names,x.2 = .free→∃ c,X.env.cells.lookup x.1=some c:=λ x hx hf=>I.ok.has x.1 (c.free x hx hf)
theorem Inv.clGet (I:Inv X pins σ H s) (c:CompOk X N fr scope) {y:Str}{a:Addr} (h:(qL X.env scope.names []).lookup y=some a):X.env.cells.lookup y=some a:=
 yP scope.names [] (λ _ _ e=>by cases e) (I.clHas c) h
theorem Inv.block (I:Inv X pins σ H s) (c:CompOk X N fr scope) (hf:∀ b∈fp,FpOk X pins H b) (hfp:∀ b∈fp,b < s.heap.objs.size) {h':Heap}{m:Str→Option Value}{t':Nat} (hn:h'.Ns s.heap.objs.size m) (hk:∀ b o,s.heap.get? b=some o→h'.get? b=some o) :
  Inv (blk X scope N s.heap.objs.size fp pins s H E) [] (slots fr σ) H { s with heap:=h',toks:=t' }:=by
 have cg:∀ y a,(qL X.env scope.names []).lookup y=some a→X.env.cells.lookup y=some a:=λ y a=>I.clGet c
 have XR:∀ y a,X.env.cells.lookup y=some a→a < s.heap.objs.size:=λ y a e=>by
  obtain⟨v,q⟩:=I.cell y a e
  exact q.lt
 refine⟨⟨I.ok.mod,c.kind,I.ok.glob,I.ok.blt,Nat.le_refl _,λ x y a h1 h2=>I.ok.inj x y a (cg x a h1) (cg y a h2),λ x hx=>?_,λ x a hf=>(by cases hf),I.ok.hd,I.ok.frames,.inl rfl,λ b hb=>?_,I.bs,Nat.le_trans I.ok.bsz I.sz,λ b o e hb=>?_,λ b hb=>?_,I.stack,I.stkFree⟩,
  rfl,I.bare,Un.kept hk,⟨m,hn,λ i x v e1 e2 e3=>?_⟩,λ x a e=>?_,I.hok.fresh (Nat.le_refl _),λ x a e=>I.freeC x a (cg x a e),λ p hp=>?_,I.hok.kept hk,?_⟩
 ·have hx':(relabel scope X.env).names.lookup x=some .cell∨(relabel scope X.env).names.lookup x=some .free:=hx
  have:(x,NameKind.free)∈scope.names:=by
   rcases hx' with h | h
   ·obtain⟨k',m',_,q⟩:=jH (scope:=scope) h
    rcases q with q | q
    ·subst q;exact absurd rfl (c.cell _ m')
    ·rw[← q.1];exact m'
   ·obtain⟨k',m',_,q⟩:=jH (scope:=scope) h
    rcases q with q | q
    ·subst q;exact m'
    ·cases q.2
  exact rO scope.names [] (.inr this)
 ·obtain⟨f0,f1,f2,f3,f4,f5⟩:=hf b hb
  exact⟨Nat.ne_of_lt (hfp b hb),λ x a e=>f4 x a (cg x a e)⟩
 ·obtain⟨f0,f1,f2,f3,f4,f5⟩:=hf b hb
  rcases f3 with f3 | f3
  ·exact I.ok.noex b o e f3
  ·exact absurd (Nat.lt_of_lt_of_le (Heap.lt_size e) (Nat.le_trans I.ok.bsz f3)) (Nat.lt_irrefl _)
 ·obtain⟨f0,f1,f2,f3,f4,f5⟩:=hf b hb
  intro z
  rcases List.mem_cons.mp (I.stkSub b z) with z | z
  ·exact f1 z
  ·exact f2 z
 ·obtain⟨j,f1,f2⟩:=Fx e2
  obtain⟨g1,g2⟩:=c.slot i j x e1 f1
  have hkx:X.env.kindOf x=some .cell∨X.env.kindOf x=some .free:=c.free (x,.free) (PySem.mem_of_lookup g2) rfl
  have vis:Vis X.env.scope x:=.inr hkx
  obtain⟨m0,_,hl⟩:=I.loc
  obtain⟨u,r,lk⟩:=hl j x v g1 f2 vis
  refine⟨u,r,.inr ⟨qy g2,?_⟩⟩
  obtain⟨a,ha⟩:=rO (env:=X.env) (y:=x) scope.names [] (.inr (PySem.mem_of_lookup g2))
  refine⟨a,ha,?_⟩
  have ha':=cg x a ha
  rcases lk with ⟨q,_⟩ | ⟨_,a',e',z⟩
  ·rcases hkx with w | w <;> (rw[q] at w;cases w)
  ·rw[ha'] at e';cases e'
   obtain⟨o,ho,hd⟩:=z
   exact⟨o,hk _ o ho,hd⟩
 ·obtain⟨v,o,ho,hd⟩:=I.cell x a (cg x a e)
  exact⟨v,o,hk _ o ho,hd⟩
 ·rw[List.append_nil] at hp
  obtain⟨e,n,ne,nf,d⟩:=I.pin p hp
  refine⟨hk _ _ e,n,Nat.ne_of_lt (Heap.lt_size e),λ z=>?_,d⟩
  rcases List.mem_cons.mp (I.stkSub p.1 z) with z | z
  ·exact ne z
  ·exact nf z
 ·unfold slots
  rw[List.length_map]
  exact c.len
theorem Inv.unblock {s':Shared}{σ':St}{H':Hp}{qp:List (Addr×Obj)}{C:Addr} (I:Inv X pins σ H s) (hf:∀ b∈fp,FpOk X pins H b) (J:Inv (blk X scope N C fp pins s H E) qp σ' H' s'):Inv X pins σ H' s':=
 I.call' (ch:=fp) J.os J.base J.hok J.bare λ b hb=>by
  obtain⟨f0,f1,f2,f3,f4,f5⟩:=hf b hb
  exact⟨f3,f1,f4,f5⟩
end
end L2
namespace L2
open PySem PySem.Spec PyProof.Rows
theorem lg {prog:Program}{w:World}{A:Around}{R:Result→Shared→Prop}{s:Shared}{elt target iter:Expr}{ifs:List Expr}{scope:Scope}{pos:Pos}{it acc:Value}{env:Env} (I:Nat→Shared→Prop)
  (turn:∀ n s,I n s→wpAny (model prog w) A (pyNext it) (λ r s₁=>match r with
   | none=>R (.ok .next) s₁
   | some v=>wpAny (model prog w) A (letOwnedTupleGo target it v) (λ _ s₁'=>wpAny (model prog w) A (assign target env v) (λ _ s₂=>
     wpAny (model prog w) A (forIn ifs true λ c r=>if r=true then do let ok ← isTrue c env (eval c env);pure (ForInStep.yield ok) else pure (ForInStep.yield r)) (λ ok s₃=>
      if ok=true then wpAny (model prog w) A (eval elt env) (λ x s₄=>
       wpAny (model prog w) A (call (.builtin "list.append") [acc,x]) (λ _ s₅=>∃ m,m < n∧I m s₅) (notedBy (model prog w) A env λ e s'=>R (.error e) s') s₄) (notedBy (model prog w) A env λ e s'=>R (.error e) s') s₃
      else ∃ m,m < n∧I m s₃) (notedBy (model prog w) A env λ e s'=>R (.error e) s') s₂) (notedBy (model prog w) A env λ e s'=>R (.error e) s') s₁') (notedBy (model prog w) A env λ e s'=>R (.error e) s') s₁) (notedBy (model prog w) A env λ e s'=>R (.error e) s') s)
  (n:Nat) (h:I n s) :
  codeAny (model prog w) A (.compLoop (.ListComp elt [⟨target,iter,ifs,0⟩] scope pos) 0 it acc env) R s:=by
 refine codeAny_loop rfl I (λ n s hI=>?_) n h
 show wpAny _ A ((compTurn (.ListComp elt [⟨target,iter,ifs,0⟩] scope pos) 0 it acc env).onRaise (λ x=>do noteFrame x env;theTreesLotGoes x)) _ _ s
 refine wpAny_noted ?_
 rw[compTurn_list]
 refine wpAny_bind (wpAny_standAt (wpAny_bind (wpAny_mono (turn n s hI) (λ r s₁ h₁=>?_) λ _ _ h'=>h')))
 cases r with
 | none=>exact wpAny_pure h₁
 | some v=>
  refine wpAny_bind (wpAny_mono h₁ (λ _ s₁' h₁'=>?_) λ _ _ h'=>h')
  refine wpAny_bind (wpAny_mono h₁' (λ _ s₂ h₂=>wpAny_bind (wpAny_mono h₂ (λ ok s₃ h₃=>?_) λ _ _ h'=>h')) λ _ _ h'=>h')
  cases ok with
  | false=>exact wpAny_pure ⟨rfl,h₃⟩
  | true=>
   exact wpAny_bind (wpAny_bind (wpAny_mono h₃ (λ x s₄ h₄=>wpAny_bind (wpAny_mono h₄ (λ _ s₅ h₅=>wpAny_pure (wpAny_pure ⟨rfl,h₅⟩)) λ _ _ h'=>h')) λ _ _ h'=>h'))
noncomputable def PIf (X:Cx) (ifs:List Expr) (t:TT):Prop:=
 ∀ (pins:List (Addr×Obj)) (s:Shared) (σ:St) (H:Hp) (Q:Bool→Hp→Prop),Inv X pins σ H s→t σ H Q →
  wpAny (model X.prog X.w) X.A (forIn ifs true λ c r=>if r=true then do let ok ← isTrue c X.env (eval c X.env);pure (ForInStep.yield ok) else pure (ForInStep.yield r)) (TP X pins σ Q) X.xe s
noncomputable def X3:TT:=λ _ H Q=>Q true H
theorem Ls {X:Cx}:PIf X [] X3:=λ _ _ _ H _ I h=>wpAny_tests_nil ⟨H,I,h⟩
noncomputable def HF (fr:List (Option Nat)) (wi:TI) (g:TG) (tt:TT) (te:TE):TE:=λ σ H Q=>wi σ H λ J H1=>∀ p,H1 p=none →
 ∃ W:Nat→Nat→List V→St→Hp→Prop,(∃ m,W 0 m [] (slots fr σ) (upd H1 p (.lst [])))∧∀ i m ys σ H,W i m ys σ H →
   (J.stop i H∧Q (.ref p) H)∨(J.go i H∧∃ N:List V→St→Hp→Prop,(∀ ys' σ' H',N ys' σ' H'→∃ m',m' < m∧W (i+1) m' ys' σ' H') ∧
   ∀ x H',J.yld i H x H'→g x σ H' λ σ2 H2=>tt σ2 H2 λ b H3=>if b=true then te σ2 H3 λ v H4=>H4 p=some (.lst ys)∧ys.length < sizeLine∧N (ys++[v]) σ2 (upd H4 p (.lst (ys++[v]))) else N ys σ2 H3)
section
variable {X:Cx}{N:List Str}{fr:List (Option Nat)}{scope:Scope}{elt target iter:Expr}{ifs:List Expr}{wi:TI}{g:TG}{tt:TT}{te:TE}{pos:Pos}
theorem Fy (c:CompOk X N fr scope) (hcalm:X.calm=true) (hi:PI X target iter wi)
  (hg:∀ C ex pins s₀ H₀,PG (blk X scope N C ex pins s₀ H₀ λ _ _=>False) target g)
  (ht:∀ C ex pins s₀ H₀,PIf (blk X scope N C ex pins s₀ H₀ λ _ _=>False) ifs tt)
  (he:∀ C ex pins s₀ H₀,PE (blk X scope N C ex pins s₀ H₀ λ _ _=>False) elt te)
  {pins:List (Addr×Obj)} {s:Shared} {σ:St} {H:Hp} {Q:VK} {R:Value→Addr→Result→Shared→Prop} (I:Inv X pins σ H s) (h:HF fr wi g tt te σ H Q)
  (fin:∀ p C m s' H',Inv X pins σ H' s'→FpOk X pins H' C→s'.heap.Ns C m→Q (.ref p) H'→R (.ref p) C (.ok .next) s') :
  wpAny (model X.prog X.w) X.A (eval iter X.env) (λ x s₁=>wpAny (model X.prog X.w) X.A (pyIter x) (λ it s₂=>wpAny (model X.prog X.w) X.A (newList []) (λ acc s₃=>
   wpAny (model X.prog X.w) X.A (newFunctionEnv scope X.env.globals (qL X.env scope.names []) [] X.env.qual none .none (some X.env)) (λ cenv s₄=>
    codeAny (model X.prog X.w) X.A (.compStart (.ListComp elt [⟨target,iter,ifs,0⟩] scope pos) 0 it acc { cenv with scope:=relabel scope X.env }) (R acc cenv.locals) s₄) X.xe s₃) X.xe s₂) X.xe s₁) X.xe s:=by
 refine cY (hi pins s σ H _ I h) λ v s1 h1=>cY h1 λ itv s2 h2=>?_
 obtain⟨it,fp,tn,J,H2,e,I2,T,st2,f2,h2⟩:=h2
 subst e
 have Vq:∀ b∈fp,b < s2.heap.objs.size:=λ b hb=>by
  obtain⟨o,e,_⟩:=T.obj _ _ st2 b hb
  exact Heap.lt_size e
 have hp0:H2 s2.heap.objs.size=none:=I2.fresh
 obtain⟨W,⟨m0,w0⟩,turn⟩:=h2 _ hp0
 refine wpAny_newObj_type ?_
 generalize hs3:({ s2 with heap:=s2.heap.push { cls:=.type "list",dict:=none,data:=.seq ([]:List Value).toArray } }:Shared)=s3
 have Ri:s3 = { s2 with heap:=s2.heap.push { cls:=.type "list",data:=.seq ([]:List Value).toArray },toks:=s2.toks }:=hs3.symm
 have I3:Inv X pins σ (upd H2 s2.heap.objs.size (.lst [])) s3:=by
  rw[Ri]
  exact I2.lnew .nil (Nat.zero_le _)
 have ZL:s3.heap.objs.size=s2.heap.objs.size+1:=by rw[Ri];exact Heap.size_push ..
 have ZM:∀ b∈fp,b≠s2.heap.objs.size:=λ b hb=>Nat.ne_of_lt (Vq b hb)
 have f3:∀ b∈fp,FpOk X pins (upd H2 s2.heap.objs.size (.lst [])) b:=λ b hb=>⟨by rw[aA (ZM b hb)];exact(f2 b hb).1,(f2 b hb).2⟩
 have st3:tn 0 s3.heap:=T.keep _ _ _ st2 λ b hb o e=>by rw[Ri];exact Heap.get?_push_of_some _ e
 refine wpAny_newFunctionEnv c.cell (by intro y hy;simp at hy) (λ h4 Zd hsb4=>?_) c.kind
 try dsimp only at Zd hsb4 ⊢
 have k4:∀ b o,s3.heap.get? b=some o→h4.get? b=some o:=λ b o e=>hsb4.extBut b o (Nat.ne_of_lt (Heap.lt_size e)) (Heap.get?_push_of_some _ e)
 have Oz:∀ b∈fp,b < s3.heap.objs.size:=λ b hb=>by rw[ZL];exact Nat.lt_succ_of_lt (Vq b hb)
 have I4:Inv (blk X scope N s3.heap.objs.size fp pins s3 (upd H2 s2.heap.objs.size (.lst [])) λ _ _=>False) [] (slots fr σ) (upd H2 s2.heap.objs.size (.lst [])) { s3 with heap:=h4,toks:=s3.toks+([]:List (Str×Value)).length }:=I3.block c f3 Oz Zd k4
 have Bj:tn 0 h4:=T.keep _ _ _ st3 λ b hb o e=>k4 b o e
 have stat:∀ {H':Hp},(∀ b∈fp,H' b=none)→∀ b∈fp,FpOk (blk X scope N s3.heap.objs.size fp pins s3 (upd H2 s2.heap.objs.size (.lst [])) λ _ _=>False) [] H' b:=λ {H'} hn b hb=>by
  obtain⟨g0,g1,g2,g3,g4,g5⟩:=f3 b hb
  refine⟨hn b hb,Nat.ne_of_lt (Oz b hb),λ z=>?_,.inl hb,λ x a e=>g4 x a (I3.clGet c e),λ p hp=>?_⟩
  ·rcases List.mem_cons.mp (I3.stkSub b z) with z | z
   ·exact g1 z
   ·exact g2 z
  ·rw[List.append_nil] at hp
   exact g5 p hp
 have loop:∀ s5:Shared,s5 = { s3 with heap:=h4,toks:=s3.toks+([]:List (Str×Value)).length }→codeAny (model X.prog X.w) X.A (.compLoop (.ListComp elt [⟨target,iter,ifs,0⟩] scope pos) 0 (.ref it) (.ref s2.heap.objs.size) (compEnvC scope (qL X.env scope.names []) s3.heap.objs.size X.env)) (R (.ref s2.heap.objs.size) s3.heap.objs.size) s5:=by
  rintro s5 rfl
  refine lg (λ n s'=>∃ i ys σ' H',Inv (blk X scope N s3.heap.objs.size fp pins s3 (upd H2 s2.heap.objs.size (.lst [])) λ _ _=>False) [] σ' H' s'∧tn i s'.heap∧(∀ b∈fp,H' b=none)∧W i n ys σ' H') ?_ m0
   ⟨0,[],slots fr σ,_,I4,Bj,λ b hb=>(f3 b hb).1,w0⟩
  rintro n s6 ⟨i,ys,σ6,H6,I6,Ze,Zf,w6⟩
  rcases turn i n ys σ6 H6 w6 with ⟨stop,q⟩ | ⟨go,Nx,hN,step⟩
  ·refine cY (T.done (blk X scope N s3.heap.objs.size fp pins s3 (upd H2 s2.heap.objs.size (.lst [])) λ _ _=>False) rfl rfl rfl hcalm i [] s6 σ6 H6 _ I6 (stat Zf) Ze stop) λ r s7 ⟨hr,I7⟩=>?_
   subst hr
   obtain⟨m7,n7,_⟩:=I7.loc
   exact fin _ _ m7 s7 H6 (I3.unblock f3 I7) (I3.fpOk (Nat.le_refl _) I7.free) n7 q
  ·refine cY (T.item (blk X scope N s3.heap.objs.size fp pins s3 (upd H2 s2.heap.objs.size (.lst [])) λ _ _=>False) rfl rfl rfl hcalm i [] s6 σ6 H6 _ I6 (stat Zf) Ze go) λ r s7 ⟨u,hr,h7⟩=>?_
   subst hr
   refine cY h7 λ _ s8 ⟨x,H8,I8,r8,y8,Rj,ZP⟩=>?_
   have ZQ:=I8.pinned (stat ZP) (T.obj _ _ Rj)
   refine wpAny_mono (hg _ _ _ _ _ _ s8 σ6 H8 x u _ ZQ r8 (step x H8 y8)) (λ _ s9 ⟨σ9,H9,I9,q9⟩=>?_) λ _ _ z=>False.elim z
   refine wpAny_mono (ht _ _ _ _ _ _ s9 σ9 H9 _ I9 q9) (λ b ZR ⟨ZS,Zg,W6⟩=>?_) λ _ _ z=>False.elim z
   have again:∀ {s11:Shared} {Lw:St} {Uo:Hp} {ys':List V},Inv (blk X scope N s3.heap.objs.size fp pins s3 (upd H2 s2.heap.objs.size (.lst [])) λ _ _=>False) ([]++rB fp s8.heap) Lw Uo s11→Nx ys' Lw Uo→∃ m,m < n∧∃ i ys σ' H',Inv (blk X scope N s3.heap.objs.size fp pins s3 (upd H2 s2.heap.objs.size (.lst [])) λ _ _=>False) [] σ' H' s11∧tn i s11.heap∧(∀ b∈fp,H' b=none)∧W i m ys σ' H':=λ {s11 Lw Uo ys'} I11 ZV=>by
    obtain⟨m',hm,w11⟩:=hN _ _ _ ZV
    refine⟨m',hm,i+1,ys',Lw,Uo,I11.unpinned,T.keep _ _ _ Rj λ b hb o e=>(I11.pin (b,o) (List.mem_append_right _ (List.mem_append_right _ (jE hb e)))).1,λ b hb=>?_,w11⟩
    obtain⟨o,e,d⟩:=T.obj _ _ Rj b hb
    exact(I11.pin (b,o) (List.mem_append_right _ (List.mem_append_right _ (jE hb e)))).2.1
   cases b with
   | false=>
    rw[if_neg Bool.false_ne_true] at W6 ⊢
    exact again Zg W6
   | true=>
    rw[if_pos rfl] at W6 ⊢
    refine wpAny_mono (he _ _ _ _ _ _ ZR σ9 ZS _ Zg W6) (λ ZW s11 ⟨x11,Uo,I11,r11,X4,X5,ZX⟩=>?_) λ _ _ z=>False.elim z
    refine wpAny_mono (vB (X:=blk X scope N s3.heap.objs.size fp pins s3 (upd H2 s2.heap.objs.size (.lst [])) λ _ _=>False) _ s11 σ9 Uo (.ref s2.heap.objs.size) [x11] (.ref s2.heap.objs.size) [ZW] (λ _ H'=>Nx (ys++[x11]) σ9 H') I11 rfl (.cons r11 .nil) ⟨_,ys,x11,rfl,rfl,X4,X5,ZX⟩) (λ _ s12 ⟨_,H12,Z0,_,Z1⟩=>?_) λ _ _ z=>False.elim z
    exact again Z0 Z1
 exact codeAny_compStart_list (loop _ rfl) (T.self X.A 0 _ _ _ Bj (loop _ rfl))
theorem Inv.letgo {pins:List (Addr×Obj)}{s:Shared}{σ:St}{H:Hp}{C:Addr}{h':Heap} (I:Inv X pins σ H s) (f:FpOk X pins H C) (hs:Heap.SameBut C s.heap h'):Inv X pins σ H { s with heap:=h' }:=by
 obtain⟨f0,f1,f2,f3,f4,f5⟩:=f
 exact I.turned (t':=s.toks) (λ b o hb e=>(hs.2 b hb).trans e) f0 f1 f3 f4 f5
theorem Lx (c:CompOk X N fr scope) (hcalm:X.calm=true) (hi:PI X target iter wi)
  (hg:∀ C ex pins s₀ H₀,PG (blk X scope N C ex pins s₀ H₀ λ _ _=>False) target g)
  (ht:∀ C ex pins s₀ H₀,PIf (blk X scope N C ex pins s₀ H₀ λ _ _=>False) ifs tt)
  (he:∀ C ex pins s₀ H₀,PE (blk X scope N C ex pins s₀ H₀ λ _ _=>False) elt te)
  (hs:∀ x,foldedSetIterable iter X.env x=pure x:=by intro _;rfl):PE X (.ListComp elt [⟨target,iter,ifs,0⟩] scope pos) (HF fr wi g tt te):=by
 intro pins s σ H Q I h
 rw[eval_ListComp]
 refine wpAny_comprehension_free (use:=none) rfl hs (uo (I.clHas c)) c.kind c.loc (Fy (R:=compPost (model X.prog X.w) X.A X.xe none (EP X pins σ Q)) c hcalm hi hg ht he I h λ p C m s' H' I' f hn q=>?_)
 exact⟨m,hn,λ h' hs'=>⟨.ref p,H',I'.letgo f hs',rfl,q⟩⟩
end
end L2
namespace L2
open PySem PySem.Spec PyProof.Rows
noncomputable def Its (x:Str):It:=⟨λ i _=>i < x.cps.size,λ i H v H'=>H'=H∧∃ c,x.cps[i]? = some c∧v = .str ⟨#[c]⟩,λ i _=>x.cps.size≤i⟩
theorem lq {x:Str}:strIterType x="str_ascii_iterator"∨strIterType x="str_iterator":=by
 unfold strIterType;split
 ·exact .inl rfl
 ·exact .inr rfl
theorem HJ {P:Program}{w:World}{K:W.Frag}{tg:Expr} (it:Addr) (x:Str) (t:Tok):Turn P w K tg (Its x) [it] it (λ i h=>h.IsStrIter it (strIterType x) x t i∧i≤x.cps.size) where
 mem:=by simp
 obj:=λ i h st b hb=>by
  have e:b=it:=by simpa using hb
  subst e
  obtain⟨⟨o,e,c,d⟩,_⟩:=st
  exact⟨o,e,λ v z=>by rw[d] at z;cases z⟩
 keep:=λ i h h' st k=>by
  obtain⟨⟨o,e,c,d⟩,l⟩:=st
  exact⟨⟨o,k it (by simp) o e,c,d⟩,l⟩
 item:=by
  intro X hP hw hK hc i pins s σ H E I hf st hg
  subst hP hw hK
  obtain⟨f0,f1,f2,f3,f4,f5⟩:=hf it (by simp)
  have hg:i < x.cps.size:=hg
  rcases lq (x:=x) with e | e
  ·rw[e] at st ⊢
   have W:=Walks.strAscii (prog:=X.prog) (w:=X.w) (I.ok.hd hc) it x t
   refine W.item i s _ _ hg st.1 λ v h' tk hv st' kk=>?_
   obtain⟨c,u,hcu,rfl⟩:=hv
   have I1:Inv X pins σ H { s with heap:=h',toks:=tk }:=I.turned (λ b o hb e=>kk b o (by simpa using hb) e) f0 f1 f3 f4 f5
   obtain⟨o,e1,c1,d1⟩:=id st'
   exact⟨_,rfl,u5 (s:={ s with heap:=h',toks:=tk }) e1 c1 d1 (by decide) ⟨.str ⟨#[c]⟩,H,I1,⟨u,rfl⟩,⟨rfl,c,hcu,rfl⟩,⟨st',hg⟩,λ b hb=>(hf b hb).1⟩⟩
  ·rw[e] at st ⊢
   have W:=Walks.strWide (prog:=X.prog) (w:=X.w) (I.ok.hd hc) it x t
   refine W.item i s _ _ hg st.1 λ v h' tk hv st' kk=>?_
   obtain⟨c,u,hcu,rfl⟩:=hv
   have I1:Inv X pins σ H { s with heap:=h',toks:=tk }:=I.turned (λ b o hb e=>kk b o (by simpa using hb) e) f0 f1 f3 f4 f5
   obtain⟨o,e1,c1,d1⟩:=id st'
   exact⟨_,rfl,u5 (s:={ s with heap:=h',toks:=tk }) e1 c1 d1 (by decide) ⟨.str ⟨#[c]⟩,H,I1,⟨u,rfl⟩,⟨rfl,c,hcu,rfl⟩,⟨st',hg⟩,λ b hb=>(hf b hb).1⟩⟩
 done:=by
  intro X hP hw hK hc i pins s σ H E I hf st hg
  subst hP hw hK
  obtain⟨f0,f1,f2,f3,f4,f5⟩:=hf it (by simp)
  have hg:x.cps.size≤i:=hg
  obtain⟨st,l⟩:=st
  have hi:i=x.cps.size:=by omega
  subst hi
  rcases lq (x:=x) with e | e
  ·rw[e] at st
   exact(Walks.strAscii (prog:=X.prog) (w:=X.w) (I.ok.hd hc) it x t).done s _ _ st λ h' tk kk=>⟨rfl,I.turned (λ b o hb e=>kk b o (by simpa using hb) e) f0 f1 f3 f4 f5⟩
  ·rw[e] at st
   exact(Walks.strWide (prog:=X.prog) (w:=X.w) (I.ok.hd hc) it x t).done s _ _ st λ h' tk kk=>⟨rfl,I.turned (λ b o hb e=>kk b o (by simpa using hb) e) f0 f1 f3 f4 f5⟩
 self:=λ A i s Q E st h=>by
  obtain⟨st,l⟩:=st
  rcases lq (x:=x) with e | e
  ·rw[e] at st;exact wpAny_pyIter_striter_ascii st h
  ·rw[e] at st;exact wpAny_pyIter_striter_wide st h
section
variable {X:Cx}{tg:Expr}
theorem Fz:OpR X (compareOp .LtE) (λ x y H Q=>∃ i j,x = .str i∧y = .str j∧Q (.bl (!decide (j.cps.toList < i.cps.toList))) H):=by
 intro pins s σ H x y v u Q I rx ry h
 obtain⟨i,j,rfl,rfl,q⟩:=h
 obtain⟨t,rfl⟩:=rx
 obtain⟨t',rfl⟩:=ry
 exact P.le_str (bB I q rfl)
theorem Rm:SlR X (λ x lo hi H Q=>∃ z,x = .str z∧z.length≤sizeLine∧Q (.str (Txt.slice z lo hi)) H):=by
 intro pins s σ H x v vl vu lo hi sl Q I rx hs pl pu h
 obtain⟨z,rfl,hz,q⟩:=h
 obtain⟨t,rfl⟩:=rx
 have key:∀ (l u:Option (Int×Tok)),partValue l=vl→partValue u=vu→l.map (·.1)=lo→u.map (·.1)=hi→wpAny (model X.prog X.w) X.A (getItem (.str z t) (.ref sl)) (EP X pins σ Q) X.xe s:=by
  rintro l u rfl rfl rfl rfl
  refine wpAny_getItem_str_slice (l:=l) (u:=u) (st:=none) hs rfl (post_val_or_str ⟨Nat.le_trans (Txt.slice_le z _ _) hz,λ t' k=>⟨.str _,H,I.tok k,⟨_,rfl⟩,q⟩⟩)
 refine⟨"str",_,F.slot_str_getitem.lookup,typeIs_str _ _ _,?_⟩
 cases pl with
 | none=>
  cases pu with
  | none=>exact key none none rfl rfl rfl rfl
  | int j u=>exact key none (some (j,u)) rfl rfl rfl rfl
 | int i t2=>
  cases pu with
  | none=>exact key (some (i,t2)) none rfl rfl rfl rfl
  | int j u=>exact key (some (i,t2)) (some (j,u)) rfl rfl rfl rfl
end
end L2
namespace L2
open PySem PySem.Spec PyProof.Rows
noncomputable def DefAt (K:W.Frag) (mg:Str→Option Value) (x:Str) (st:Stmt):Prop:=∃ f fd,Fun K x x st f fd∧mg x=some (.ref f)
noncomputable def Has (P:Program) (w:World) (K:W.Frag) (mg:Str→Option Value) (base:Heap) (k:Nat) (x:Str) (ps:List Str) (sp:Sp):Prop:=
 ∃ f fd,mg x=some (.ref f)∧W.keepIn K (.ref f)=true∧Binds K fd ps []∧FnOk P w K mg base CX0 k f fd ps sp
theorem defAt_mk {K:W.Frag}{h:Heap}{mg:Str→Option Value} (X:K.In h) (G:h.Ns mainGlobals mg) {x:Str}{st:Stmt}{f:Addr}{oc:Value}{od an:Option Addr}{osl:Array (Option Value)}{kV doc pm cdv ct:Value}
  (a:W.nsIn K mainGlobals x=some (some (.ref f))) (l:K.lookup f=some ⟨oc,od,.func (W.fnOf x x (defArgs st) (defBody st) (defScope st) .none kV doc pm an cdv ct),osl⟩)
  (c:W.codeIn K cdv x=true) (k:W.keepIn K (.ref f)=true):DefAt K mg x st:=⟨f,_,HD l c k,W.mg_of X G a⟩
section
variable {P:Program}{w:World}{K:W.Frag}{mg:Str→Option Value}{base:Heap}
theorem DefAt.has {x:Str}{st:Stmt}{N ps:List Str}{k:Nat}{sp:Sp} (F:DefAt K mg x st) (S:FnScope N ps (defScope st))
  (hb:∀ (kV doc pm:Value) (an:Option Addr) (cdv ct:Value) (us:List Value),us.length=ps.length→bindArgs (W.fnOf x x (defArgs st) (defBody st) (defScope st) .none kV doc pm an cdv ct) ⟨us,[]⟩=pure (ps.zip us))
  (len:∀ vs H Q E,sp vs H Q E→vs.length=ps.length)
  (hbody:∀ (f:Addr) (cdv:Value) (A:Around) (outer:List Env) (s:Shared) (H:Hp) (vs:List V) (Q:VK) (E:XK),Room k (A.deeper (envOfC x (defScope st) s.heap.objs.size f cdv))→sp vs H Q E →
   ∃ t,PSs (nj CX0 P w K mg base N x (defScope st) f cdv A outer s H E).nox (defBody st) t∧t { nx:=λ _ H'=>Q .non H',rt:=Q } (start N vs) H):Has P w K mg base (k+1) x ps sp:=by
 obtain⟨f,fd,F,m⟩:=F
 exact⟨f,fd,m,F.kp,F.binds hb,F.ok S len (hbody f)⟩
theorem Has.mono {j k:Nat}{x:Str}{ps:List Str}{sp:Sp} (h:Has P w K mg base j x ps sp) (hjk:j≤k):Has P w K mg base k x ps sp:=by
 obtain⟨f,fd,m,kp,b,F⟩:=h
 exact⟨f,fd,m,kp,b,F.mono hjk⟩
end
section
variable {X:Cx}{k:Nat}{x:Str}{ps:List Str}{sp:Sp}{p pos:Pos}{e:Expr}{es:List Expr}{t:TA}
theorem Vr (h:Has X.prog X.w X.K X.mg X.base k x ps sp) (hr:Room k X.A) (ha:PA X (e::es) t) (hg:Gl X x:=by rfl) (hdb:(x==("__debug__" : Str))=false:=by decide)
  (he:starEach (e::es) X.env=(false,eval e X.env)::starEach es X.env:=by rfl) (hpl:(backTo pos (starEach es X.env)).any (·.1)=false:=by rfl) :
  PE X (.Call (.Name x p) (e::es) [] pos) (Ot sp [] E0 t):=by
 obtain⟨f,fd,m,kp,b,F⟩:=h
 exact Ld F hr hg m kp b .nil Ox ha hdb he hpl
end
end L2
namespace L2
open PySem PySem.Spec PyProof.Rows
theorem oG {H:Hp}{p:Addr}{o:HO} (h:H p=none):Same H (upd H p o):=λ b u e=>by rw[aA (fB e h)];exact e
end L2
namespace L2
open PySem PySem.Spec PyProof.Rows
section
variable {P:Program}{w:World}{K:W.Frag}{mg:Str→Option Value}{base:Heap}
theorem DefAt.hasB {x:Str}{st:Stmt}{N ps:List Str}{k:Nat}{sp:Sp}{body:List Stmt}{scope:Scope} (F:DefAt K mg x st) (eb:defBody st=body) (es:defScope st=scope) (S:FnScope N ps scope)
  (hb:∀ (kV doc pm:Value) (an:Option Addr) (cdv ct:Value) (us:List Value),us.length=ps.length→bindArgs (W.fnOf x x (defArgs st) (defBody st) (defScope st) .none kV doc pm an cdv ct) ⟨us,[]⟩=pure (ps.zip us))
  (len:∀ vs H Q E,sp vs H Q E→vs.length=ps.length)
  (hbody:∀ (f:Addr) (cdv:Value) (A:Around) (outer:List Env) (s:Shared) (H:Hp) (vs:List V) (Q:VK) (E:XK),Room k (A.deeper (envOfC x scope s.heap.objs.size f cdv))→sp vs H Q E →
   ∃ t,PSs (nj CX0 P w K mg base N x scope f cdv A outer s H E).nox body t∧t { nx:=λ _ H'=>Q .non H',rt:=Q } (start N vs) H):Has P w K mg base (k+1) x ps sp:=by
 subst eb es
 exact F.has S hb len hbody
end
end L2
namespace L2
open PySem PySem.Spec PyProof.Rows
structure QE (X:Cx) (e:Expr) (t:TE):Prop where p:PE X e t
structure QT (X:Cx) (e:Expr) (t:TT):Prop where p:PT X e t
structure QW (X:Cx) (e:Expr) (t:TT):Prop where p:PW X e t
structure QA (X:Cx) (es:List Expr) (t:TA):Prop where p:PA X es t
structure QS (X:Cx) (st:Stmt) (t:TS):Prop where p:PS X st t
structure QB (X:Cx) (st:List Stmt) (t:TS):Prop where p:PSs X st t
structure QG (X:Cx) (tg:Expr) (g:TG):Prop where p:PG X tg g
structure QGs (X:Cx) (tg:List Expr) (g:TGs):Prop where p:PGs X tg g
structure QI (X:Cx) (tg iter:Expr) (wi:TI):Prop where p:PI X tg iter wi
structure QF (X:Cx) (ifs:List Expr) (t:TT):Prop where p:PIf X ifs t
structure QO (X:Cx) (e:Option Expr) (t:TO):Prop where p:PO X e t
structure ROp (X:Cx) (op:Operator) (r:R2):Prop where p:OpR X (binaryOp op) r
structure RCmp (X:Cx) (op:CmpOp) (r:R2):Prop where p:OpR X (compareOp op) r
structure RUn (X:Cx) (op:UnaryOp) (r:V→Hp→VK→Prop):Prop where p:UnR X (unaryOp op) r
structure RB (X:Cx) (id:String) (r:List V→Hp→VK→Prop):Prop where p:CallR X (.builtin id) r
structure RTy (X:Cx) (T:String) (r:List V→Hp→VK→Prop):Prop where p:CallR X (.type T) r
structure RIx (X:Cx) (r:R2):Prop where p:IxR X r
structure RSl (X:Cx) (r:V→Option Int→Option Int→Hp→VK→Prop):Prop where p:SlR X r
structure RMt (X:Cx) (id:String) (r:V→List V→Hp→VK→Prop):Prop where p:MtR X id r
section
variable {X:Cx}{a b c e:Expr}{es rest:List Expr}{ta tb tc te:TE}{t u:TS}{tA G5:TT}{tt:TA}{pos p p2 p3:Pos}{x:Str}
end
section
variable {P:Program}{w:World}{K:W.Frag}{mg:Str→Option Value}{base:Heap}
theorem DefAt.hasQ {x:Str}{st:Stmt}{N ps:List Str}{k:Nat}{sp:Sp}{body:List Stmt}{scope:Scope} (F:DefAt K mg x st) (eb:defBody st=body) (es:defScope st=scope) (S:FnScope N ps scope)
  (hb:∀ (kV doc pm:Value) (an:Option Addr) (cdv ct:Value) (us:List Value),us.length=ps.length→bindArgs (W.fnOf x x (defArgs st) (defBody st) (defScope st) .none kV doc pm an cdv ct) ⟨us,[]⟩=pure (ps.zip us))
  (len:∀ vs H Q E,sp vs H Q E→vs.length=ps.length)
  (hbody:∀ (f:Addr) (cdv:Value) (A:Around) (outer:List Env) (s:Shared) (H:Hp) (vs:List V) (Q:VK) (E:XK),Room k (A.deeper (envOfC x scope s.heap.objs.size f cdv))→sp vs H Q E →
   ∃ t,QB (nj CX0 P w K mg base N x scope f cdv A outer s H E).nox body t∧t { nx:=λ _ H'=>Q .non H',rt:=Q } (start N vs) H):Has P w K mg base (k+1) x ps sp:=
 F.hasB eb es S hb len λ f cdv A outer s H vs Q E hr h=>let ⟨t,q,z⟩:=hbody f cdv A outer s H vs Q E hr h;⟨t,q.p,z⟩
theorem Fun.binds1 {x y:Str}{st:Stmt}{f:Addr}{fd:FuncData} (F:Fun K x x st f fd)
  (h:∀ (kV doc pm:Value) (an:Option Addr) (cdv ct:Value) (u:Value),bindArgs (W.fnOf x x (defArgs st) (defBody st) (defScope st) .none kV doc pm an cdv ct) ⟨[u],[]⟩=pure [(y,u)]):∀ (s:Shared) (v:Value),BindsTo s fd ⟨[v],[]⟩ [(y,v)]:=by
 obtain⟨oc,od,kV,doc,pm,an,cdv,ct,osl,rfl,lk,hcd⟩:=F.ex
 exact λ s v=>.of_eq (h kV doc pm an cdv ct v)
end
end L2
namespace L2
open PySem PySem.Spec PyProof.Rows PySem.W
noncomputable def codeO (c:Addr) (q:Str):HO:=.ext λ h=>h.CodeRec (.ref c) q
structure GoodT (q:Str) (H:Hp) (ps:Array Value):Prop where
 ok:TriplesOk ps.toList
 cs:∀ pos v,codeAmong pos ps.toList=some v→∃ c,v = .ref c∧H c=some (codeO c q)
noncomputable def TabTo (P:Addr) (q:Str) (H H':Hp):Prop:=(∃ ps,H' P=some (.tbl ps)∧GoodT q H' ps)∧(H'=H∨∃ c ps,H c=none∧c≠P∧H'=upd (upd H c (codeO c q)) P (.tbl ps))
end L2
namespace L3
open PySem PySem.Spec PyProof.Rows L2
@[reducible] def vis:Option HO→Option HO
 | some (.tbl _)=>none
 | some (.ext _)=>none
 | o=>o
theorem HN {x:Option HO}{o:HO} (h:vis x=some o):x=some o∧vis (some o)=some o:=by
 cases x with
 | none=>cases h
 | some y=>cases y <;> first | (cases h;done) | (cases h;exact⟨rfl,rfl⟩)
theorem rP {x:Option HO} (h:vis x≠none):x≠none:=λ z=>h (by rw[z])
noncomputable def lams:List Str:=["by_name"]
noncomputable def lamQ (x:Str):Str:=x ++ ".<locals>." ++ "<lambda>"
noncomputable def Tb (K:W.Frag) (H:Hp):Prop:=∀ x∈lams,∀ c P,W.tabIn K x=some (c,P)→∃ ps,H P=some (.tbl ps)∧GoodT (lamQ x) H ps
theorem Tb.imp {K:W.Frag}{H H':Hp} (t:Tb K H) (h:∀ b o,H b=some o→vis (some o)=none→H' b=some o):Tb K H':=λ x hx c P e=>by
 obtain⟨ps,h1,h2,h3⟩:=t x hx c P e
 refine⟨ps,h _ _ h1 rfl,h2,λ pos v hv=>?_⟩
 obtain⟨c',e1,e2⟩:=h3 pos v hv
 exact⟨c',e1,h _ _ e2 rfl⟩
theorem Tb.same {K:W.Frag}{H H':Hp} (t:Tb K H) (h:Same H H'):Tb K H':=t.imp λ b o e _=>h b o e
theorem Tb.upd {K:W.Frag}{H:Hp}{p:Addr}{x:HO} (t:Tb K H) (h:vis (H p)≠none∨H p=none):Tb K (upd H p x):=t.imp λ b o e v=>by
 rw[aA λ z=>?_]
 ·exact e
 ·subst z
  rcases h with h | h
  ·rw[e] at h;exact h v
  ·rw[h] at e;cases e
end L3
namespace L3
open PySem PySem.Spec PyProof.Rows L2
inductive D where
 | non | bl (b:Bool) | int (i:Int) | str (x:Str) | ty (n:String)
 | tup (ds:List D) | lst (ds:List D) | dct (ks:List Key) (ds:List D)
 | ins (C:Addr) (ns:List Str) (ds:List D) | scr (ns:List Int) | loc (k:Nat) | cls (C:Addr) | exc (C:Addr) (ns:List Str) (ds:List D)
inductive OD where
 | lst (ds:List D) | dct (ks:List Key) (ds:List D) | ins (C:Addr) (ns:List Str) (ds:List D) | fz (k ep:Nat) (ks:List Key) (ds:List D)
abbrev Ms:=List (Option OD)
mutual
noncomputable def Rep (K:W.Frag) (α:List Addr) (H:Hp):D→V→Prop
 | .non,v=>v = .non
 | .bl b,v=>v = .bl b
 | .int i,v=>v = .int i
 | .str x,v=>v = .str x
 | .ty n,v=>v = .ty n
 | .tup ds,v=>∃ a vs,v = .ref a∧qJ K H a vs∧Reps K α H ds vs
 | .lst ds,v=>∃ a vs,v = .ref a∧H a=some (.lst vs)∧Reps K α H ds vs
 | .scr ns,v=>∃ a,v = .ref a∧SqL K H a (ns.map V.int)
 | .dct ks ds,v=>∃ a vs,v = .ref a∧Rd H a (.dK (ks.zip vs))∧ks.length=ds.length∧Reps K α H ds vs
 | .ins C ns ds,v=>∃ a dx vs,v = .ref a∧H a=some (.ins C dx (ns.zip vs))∧ns.length=ds.length∧Reps K α H ds vs
 | .loc k,v=>∃ a,α[k]? = some a∧v = .ref a
 | .cls C,v=>v = .ref C
 | .exc C ns ds,v=>∃ a vs,v = .ref a∧H a=some (.xc C (ns.zip vs))∧ns.length=ds.length∧Reps K α H ds vs
noncomputable def Reps (K:W.Frag) (α:List Addr) (H:Hp):List D→List V→Prop
 | [],vs=>vs=[]
 | d::ds,vs=>∃ v r,vs=v::r∧Rep K α H d v∧Reps K α H ds r
end
theorem mz {K:W.Frag}{H H':Hp}{a:Addr}{xs:List V} (e:Same H H') (h:qJ K H a xs):qJ K H' a xs:=by
 rcases h with (h | ⟨o,h⟩) | h
 ·exact .inl (.inl (e _ _ h))
 ·exact .inl (.inr ⟨o,e _ _ h⟩)
 ·exact .inr h
theorem dB {K:W.Frag}{H H':Hp}{a:Addr}{xs:List V} (e:Same H H') (h:SqL K H a xs):SqL K H' a xs:=by
 rcases h with (h | ⟨o,h⟩) | h
 ·exact .inl (.inl (e _ _ h))
 ·exact .inl (.inr ⟨o,e _ _ h⟩)
 ·exact .inr h
theorem Dv {H H':Hp}{a:Addr}{u:HO} (e:Same H H') (h:Rd H a u):Rd H' a u:=by
 rcases h with h | ⟨o,h⟩
 ·exact .inl (e _ _ h)
 ·exact .inr ⟨o,e _ _ h⟩
theorem wA {α β:List Addr} (p:α <+: β) {k:Nat}{a:Addr} (h:α[k]? = some a):β[k]? = some a:=by
 obtain⟨t,rfl⟩:=p
 have:=(List.getElem?_eq_some_iff.mp h).1
 rw[List.getElem?_append_left this];exact h
mutual
theorem Rep.mono {K:W.Frag}{α β:List Addr}{H H':Hp} (p:α <+: β) (e:Same H H'):∀ (d:D) (v:V),Rep K α H d v→Rep K β H' d v
 | .non,v,h=>by unfold Rep at h ⊢;exact h
 | .bl _,v,h=>by unfold Rep at h ⊢;exact h
 | .int _,v,h=>by unfold Rep at h ⊢;exact h
 | .str _,v,h=>by unfold Rep at h ⊢;exact h
 | .ty _,v,h=>by unfold Rep at h ⊢;exact h
 | .tup ds,v,h=>by
  unfold Rep at h ⊢
  obtain⟨a,vs,r,q,z⟩:=h
  exact⟨a,vs,r,mz e q,Reps.mono p e ds vs z⟩
 | .lst ds,v,h=>by
  unfold Rep at h ⊢
  obtain⟨a,vs,r,q,z⟩:=h
  exact⟨a,vs,r,e _ _ q,Reps.mono p e ds vs z⟩
 | .scr ns,v,h=>by
  unfold Rep at h ⊢
  obtain⟨a,r,q⟩:=h
  exact⟨a,r,dB e q⟩
 | .dct ks ds,v,h=>by
  unfold Rep at h ⊢
  obtain⟨a,vs,r,q,l,z⟩:=h
  exact⟨a,vs,r,Dv e q,l,Reps.mono p e ds vs z⟩
 | .ins C ns ds,v,h=>by
  unfold Rep at h ⊢
  obtain⟨a,dx,vs,r,q,l,z⟩:=h
  exact⟨a,dx,vs,r,e _ _ q,l,Reps.mono p e ds vs z⟩
 | .exc C ns ds,v,h=>by
  unfold Rep at h ⊢
  obtain⟨a,vs,r,q,l,z⟩:=h
  exact⟨a,vs,r,e _ _ q,l,Reps.mono p e ds vs z⟩
 | .loc k,v,h=>by
  unfold Rep at h ⊢
  obtain⟨a,r,q⟩:=h
  exact⟨a,wA p r,q⟩
 | .cls _,v,h=>by unfold Rep at h ⊢;exact h
theorem Reps.mono {K:W.Frag}{α β:List Addr}{H H':Hp} (p:α <+: β) (e:Same H H'):∀ (ds:List D) (vs:List V),Reps K α H ds vs→Reps K β H' ds vs
 | [],vs,h=>by unfold Reps at h ⊢;exact h
 | d::ds,vs,h=>by
  unfold Reps at h ⊢
  obtain⟨v,r,q,z,y⟩:=h
  exact⟨v,r,q,Rep.mono p e d v z,Reps.mono p e ds r y⟩
end
section
variable {K:W.Frag}{α:List Addr}{H:Hp}
theorem Reps.length:∀ (ds:List D) (vs:List V),Reps K α H ds vs→ds.length=vs.length
 | [],vs,h=>by unfold Reps at h;rw[h];rfl
 | d::ds,vs,h=>by
  unfold Reps at h
  obtain⟨v,r,rfl,_,y⟩:=h
  rw[List.length_cons,List.length_cons,Reps.length ds r y]
theorem Reps.get:∀ (ds:List D) (vs:List V) (i:Nat) (d:D),Reps K α H ds vs→ds[i]? = some d→∃ v,vs[i]? = some v∧Rep K α H d v
 | [],vs,i,d,h,e=>by simp at e
 | x::ds,vs,0,d,h,e=>by
  unfold Reps at h
  obtain⟨v,r,rfl,z,_⟩:=h
  simp at e;subst e
  exact⟨v,rfl,z⟩
 | x::ds,vs,i+1,d,h,e=>by
  unfold Reps at h
  obtain⟨v,r,rfl,_,y⟩:=h
  obtain⟨u,h1,h2⟩:=Reps.get ds r i d y (by simpa using e)
  exact⟨u,by simpa using h1,h2⟩
theorem Reps.get':∀ (ds:List D) (vs:List V) (i:Nat) (v:V),Reps K α H ds vs→vs[i]? = some v→∃ d,ds[i]? = some d∧Rep K α H d v
 | [],vs,i,d,h,e=>by unfold Reps at h;subst h;simp at e
 | x::ds,vs,0,d,h,e=>by
  unfold Reps at h
  obtain⟨v,r,rfl,z,_⟩:=h
  simp at e;subst e
  exact⟨x,rfl,z⟩
 | x::ds,vs,i+1,d,h,e=>by
  unfold Reps at h
  obtain⟨v,r,rfl,_,y⟩:=h
  obtain⟨u,h1,h2⟩:=Reps.get' ds r i d y (by simpa using e)
  exact⟨u,by simpa using h1,h2⟩
theorem Reps.append:∀ (ds es:List D) (vs us:List V),Reps K α H ds vs→Reps K α H es us→Reps K α H (ds++es) (vs++us)
 | [],es,vs,us,h,g=>by unfold Reps at h;subst h;exact g
 | d::ds,es,vs,us,h,g=>by
  unfold Reps at h
  obtain⟨v,r,rfl,z,y⟩:=h
  show Reps K α H (d::(ds++es)) (v::(r++us))
  unfold Reps
  exact⟨v,_,rfl,z,Reps.append ds es r us y g⟩
theorem Reps.nil:Reps K α H [] []:=by unfold Reps;rfl
theorem Reps.cons {d:D}{v:V}{ds:List D}{vs:List V} (q:Rep K α H d v) (h:Reps K α H ds vs):Reps K α H (d::ds) (v::vs):=by
 unfold Reps
 exact⟨v,vs,rfl,q,h⟩
theorem Reps.one {d:D}{v:V} (q:Rep K α H d v):Reps K α H [d] [v]:=Reps.cons q Reps.nil
theorem Reps.take:∀ (n:Nat) (ds:List D) (vs:List V),Reps K α H ds vs→Reps K α H (ds.take n) (vs.take n)
 | 0,ds,vs,h=>by simpa using Reps.nil
 | n+1,[],vs,h=>by unfold Reps at h;subst h;simpa using Reps.nil
 | n+1,d::ds,vs,h=>by
  unfold Reps at h
  obtain⟨v,r,rfl,z,y⟩:=h
  rw[List.take_succ_cons,List.take_succ_cons]
  exact Reps.cons z (Reps.take n ds r y)
theorem Reps.drop:∀ (n:Nat) (ds:List D) (vs:List V),Reps K α H ds vs→Reps K α H (ds.drop n) (vs.drop n)
 | 0,ds,vs,h=>h
 | n+1,[],vs,h=>by unfold Reps at h;subst h;simpa using Reps.nil
 | n+1,d::ds,vs,h=>by
  unfold Reps at h
  obtain⟨v,r,rfl,z,y⟩:=h
  rw[List.drop_succ_cons,List.drop_succ_cons]
  exact Reps.drop n ds r y
theorem Reps.set {d:D}{v:V} (q:Rep K α H d v):∀ (i:Nat) (ds:List D) (vs:List V),Reps K α H ds vs→Reps K α H (ds.set i d) (vs.set i v)
 | i,[],vs,h=>by unfold Reps at h;subst h;simpa using Reps.nil
 | 0,x::ds,vs,h=>by
  unfold Reps at h
  obtain⟨u,r,rfl,z,y⟩:=h
  exact Reps.cons q y
 | i+1,x::ds,vs,h=>by
  unfold Reps at h
  obtain⟨u,r,rfl,z,y⟩:=h
  exact Reps.cons z (Reps.set q i ds r y)
theorem Reps.of_map {β:Type} (f:β→D) (g:β→V) (h:∀ a,Rep K α H (f a) (g a)):∀ l:List β,Reps K α H (l.map f) (l.map g)
 | []=>Reps.nil
 | a::l=>Reps.cons (h a) (Reps.of_map f g h l)
theorem Reps.rep {ds:List D}{vs:List V} (h:Reps K α H ds vs):∀ k:Nat,Reps K α H (List.replicate k ds).flatten (List.replicate k vs).flatten
 | 0=>Reps.nil
 | k+1=>by
  rw[List.replicate_succ,List.replicate_succ,List.flatten_cons,List.flatten_cons]
  exact Reps.append _ _ _ _ h (Reps.rep h k)
theorem Reps.at {ds:List D}{vs:List V}{i:Int}{d:D} (h:Reps K α H ds vs) (e:rK ds i=some d):∃ v,rK vs i=some v∧Rep K α H d v:=by
 unfold rK at e ⊢
 rw[← Reps.length _ _ h]
 cases q:Hx ds.length i with
 | none=>rw[q] at e;cases e
 | some j=>
  rw[q] at e
  exact Reps.get ds vs j d h e
theorem bL {i:Int}:Rep K α H (.int i) (.int i):=by unfold Rep;rfl
theorem cD {i:Bool}:Rep K α H (.bl i) (.bl i):=by unfold Rep;rfl
theorem iQ {i:Str}:Rep K α H (.str i) (.str i):=by unfold Rep;rfl
theorem Ly {C:Addr}:Rep K α H (.cls C) (.ref C):=by unfold Rep;rfl
theorem gB:Rep K α H .non .non:=by unfold Rep;rfl
theorem Rn {n:String}:Rep K α H (.ty n) (.ty n):=by unfold Rep;rfl
end
noncomputable def hide (A:List Addr) (H:Hp):Hp:=λ b=>if b∈A then none else vis (H b)
theorem cG {A:List Addr}{H:Hp}{p:Addr} (h:p ∉ A):hide A H p=vis (H p):=by unfold hide;rw[if_neg h]
theorem dN {A:List Addr}{H:Hp}{p:Addr} (h:p∈A):hide A H p=none:=by unfold hide;rw[if_pos h]
theorem jz {A:List Addr}{H:Hp}{p:Addr}{o:HO} (h:hide A H p=some o):p ∉ A∧H p=some o∧vis (some o)=some o:=by
 by_cases z:p∈A
 ·rw[dN z] at h;cases h
 ·rw[cG z] at h;exact⟨z,HN h⟩
theorem bG {A:List Addr}{H:Hp}{p:Addr}{o:HO} (h:hide A H p=some o):p ∉ A∧H p=some o:=⟨(jz h).1,(jz h).2.1⟩
theorem bM {A:List Addr}{H:Hp}:Same (hide A H) H:=λ b o e=>(bG e).2
theorem dg {A:List Addr}{H:Hp}{p:Addr}{o:HO} (h:p ∉ A) (e:H p=some o) (v:vis (some o)=some o):hide A H p=some o:=by rw[cG h,e];exact v
theorem dO {A B:List Addr}{H H':Hp}{b:Addr}{o:HO} (h:hide A H b=some o) (hb:b ∉ B) (e:H' b=some o):hide B H' b=some o:=dg hb e (jz h).2.2
theorem vD {A:List Addr}{H H':Hp} (h:Same H H'):Same (hide A H) (hide A H'):=λ b o e=>dO e (bG e).1 (h b o (bG e).2)
noncomputable def lv:List Addr→Ms→List Addr
 | a::α,some _::M=>a::lv α M
 | _::α,none::M=>lv α M
 | _,_=>[]
theorem mem_lv:∀ {α:List Addr}{M:Ms}{a:Addr},a∈lv α M ↔ ∃ (k:Nat) (o:OD),α[k]? = some a∧M[k]? = some (some o)
 | [],M,a=>by cases M <;> simp[lv]
 | b::α,[],a=>by simp[lv]
 | b::α,some x::M,a=>by
  simp only [lv,List.mem_cons,mem_lv]
  constructor
  ·rintro (rfl | ⟨k,o,h1,h2⟩)
   ·exact⟨0,x,rfl,rfl⟩
   ·exact⟨k+1,o,by simpa using h1,by simpa using h2⟩
  ·rintro ⟨k,o,h1,h2⟩
   cases k with
   | zero=>left;simpa using h1.symm
   | succ k=>right;exact⟨k,o,by simpa using h1,by simpa using h2⟩
 | b::α,none::M,a=>by
  simp only [lv,mem_lv]
  constructor
  ·rintro ⟨k,o,h1,h2⟩
   exact⟨k+1,o,by simpa using h1,by simpa using h2⟩
  ·rintro ⟨k,o,h1,h2⟩
   cases k with
   | zero=>simp at h2
   | succ k=>exact⟨k,o,by simpa using h1,by simpa using h2⟩
abbrev hid (F α:List Addr) (M:Ms) (H:Hp):Hp:=hide (lv α M++F) H
noncomputable def RepM (K:W.Frag) (α:List Addr) (Hh H:Hp):OD→Addr→Prop
 | .lst ds,a=>∃ vs,H a=some (.lst vs)∧Reps K α Hh ds vs
 | .dct ks ds,a=>∃ vs,H a=some (.dK (ks.zip vs))∧ks.length=ds.length∧Reps K α Hh ds vs
 | .ins C ns ds,a=>∃ dx vs,H a=some (.ins C dx (ns.zip vs))∧ns.length=ds.length∧Reps K α Hh ds vs
 | .fz k ep ks ds,a=>α[k]? = some a∧∃ vs,H a=some (.dE ep (ks.zip vs))∧ks.length=ds.length∧Reps K α Hh ds vs
structure OK (K:W.Frag) (F α:List Addr) (H:Hp) (M:Ms):Prop where
 ml:α.length=M.length
 nd:α.Nodup
 fr:∀ a∈F,a ∉ α∧vis (H a)≠none
 al:∀ a∈α,vis (H a)≠none
 own:∀ (k:Nat) o,M[k]? = some (some o)→∃ a,α[k]? = some a∧RepM K α (hid F α M H) H o a
 tb:Tb K H
structure Ext (F α:List Addr) (H:Hp) (M:Ms) (α':List Addr) (H':Hp) (M':Ms):Prop where
 pre:α <+: α'
 same:Same (hid F α M H) (hid F α' M' H')
 fr:∀ a∈F,H' a=H a
abbrev DSt:=List (Option D)
structure R (K:W.Frag) (F α:List Addr) (H:Hp) (σ:L2.St) (δ:DSt) (M:Ms):Prop where
 ok:OK K F α H M
 len:σ.length=δ.length
 sl:∀ (i:Nat) d,δ[i]? = some (some d)→∃ v,σ[i]? = some (some v)∧Rep K α (hid F α M H) d v
section
variable {K:W.Frag}{F α α' α'':List Addr}{H H' Uq:Hp}{M M' M'':Ms}{σ:L2.St}{δ:DSt}
theorem Ext.refl:Ext F α H M α H M:=⟨List.prefix_refl _,Same.refl _,λ _ _=>rfl⟩
theorem Ext.trans (e:Ext F α H M α' H' M') (e':Ext F α' H' M' α'' Uq M''):Ext F α H M α'' Uq M'':=
 ⟨e.pre.trans e'.pre,e.same.trans e'.same,λ a h=>(e'.fr a h).trans (e.fr a h)⟩
theorem Ext.rep (e:Ext F α H M α' H' M') {d:D}{v:V} (h:Rep K α (hid F α M H) d v):Rep K α' (hid F α' M' H') d v:=Rep.mono e.pre e.same d v h
theorem Ext.reps (e:Ext F α H M α' H' M') {d:List D}{v:List V} (h:Reps K α (hid F α M H) d v):Reps K α' (hid F α' M' H') d v:=Reps.mono e.pre e.same d v h
theorem R.grow (r:R K F α H σ δ M) (e:Ext F α H M α' H' M') (o:OK K F α' H' M'):R K F α' H' σ δ M':=
 ⟨o,r.len,λ i d q=>by
  obtain⟨v,h1,h2⟩:=r.sl i d q
  exact⟨v,h1,e.rep h2⟩⟩
theorem OK.live (o:OK K F α H M):∀ a∈lv α M,H a≠none:=λ a ha=>by
 obtain⟨k,x,h1,h2⟩:=mem_lv.mp ha
 obtain⟨b,e,r⟩:=o.own k x h2
 rw[h1] at e;cases e
 cases x with
 | lst ds=>obtain⟨vs,e,_⟩:=r;rw[e];exact λ z=>by cases z
 | dct ks ds=>obtain⟨vs,e,_⟩:=r;rw[e];exact λ z=>by cases z
 | ins C ns ds=>obtain⟨dx,vs,e,_⟩:=r;rw[e];exact λ z=>by cases z
 | fz k ep ks ds=>obtain⟨_,vs,e,_⟩:=r;rw[e];exact λ z=>by cases z
theorem OK.new (o:OK K F α H M) {p:Addr} (h:H p=none):p ∉ lv α M++F:=λ z=>by
 rcases List.mem_append.mp z with z | z
 ·exact o.live p z h
 ·exact(o.fr p z).2 (by rw[h])
theorem RepM.vis {Hh:Hp}{x:OD}{a:Addr} (r:RepM K α Hh H x a):vis (H a)≠none:=by
 cases x with
 | lst ds=>obtain⟨vs,e,_⟩:=r;rw[e];exact λ z=>by cases z
 | dct ks ds=>obtain⟨vs,e,_⟩:=r;rw[e];exact λ z=>by cases z
 | ins C ns ds=>obtain⟨dx,vs,e,_⟩:=r;rw[e];exact λ z=>by cases z
 | fz k ep ks ds=>obtain⟨_,vs,e,_⟩:=r;rw[e];exact λ z=>by cases z
theorem RepM.some {Hh:Hp}{x:OD}{a:Addr} (r:RepM K α Hh H x a):H a≠none:=by
 cases x with
 | lst ds=>obtain⟨vs,e,_⟩:=r;rw[e];exact λ z=>by cases z
 | dct ks ds=>obtain⟨vs,e,_⟩:=r;rw[e];exact λ z=>by cases z
 | ins C ns ds=>obtain⟨dx,vs,e,_⟩:=r;rw[e];exact λ z=>by cases z
 | fz k ep ks ds=>obtain⟨_,vs,e,_⟩:=r;rw[e];exact λ z=>by cases z
theorem OK.liveV (o:OK K F α H M):∀ a∈lv α M,vis (H a)≠none:=λ a ha=>by
 obtain⟨k,x,h1,h2⟩:=mem_lv.mp ha
 obtain⟨b,e,r⟩:=o.own k x h2
 rw[h1] at e;cases e
 exact r.vis
theorem RepM.mono {Hh Zh:Hp} (p:α <+: α') (e:Same Hh Zh) {o:OD}{a:Addr} (ha:H' a=H a) (h:RepM K α Hh H o a):RepM K α' Zh H' o a:=by
 cases o with
 | lst ds=>obtain⟨vs,q,r⟩:=h;exact⟨vs,by rw[ha];exact q,Reps.mono p e _ _ r⟩
 | dct ks ds=>obtain⟨vs,q,l,r⟩:=h;exact⟨vs,by rw[ha];exact q,l,Reps.mono p e _ _ r⟩
 | ins C ns ds=>obtain⟨dx,vs,q,l,r⟩:=h;exact⟨dx,vs,by rw[ha];exact q,l,Reps.mono p e _ _ r⟩
 | fz k ep ks ds=>
  obtain⟨g,vs,q,l,r⟩:=h
  exact⟨by obtain⟨β,rfl⟩:=p;rw[List.getElem?_append_left (List.getElem?_eq_some_iff.mp g).1];exact g,vs,by rw[ha];exact q,l,Reps.mono p e _ _ r⟩
theorem OK.grow (o:OK K F α H M) (s:Same H H'):OK K F α H' M∧Ext F α H M α H' M:=by
 have frs:∀ a,H a≠none→H' a=H a:=λ a h=>by
  cases e:H a with
  | none=>exact absurd e h
  | some x=>exact s a x e
 refine⟨⟨o.ml,o.nd,λ a ha=>⟨(o.fr a ha).1,by rw[frs a (rP (o.fr a ha).2)];exact(o.fr a ha).2⟩,λ a ha=>by rw[frs a (rP (o.al a ha))];exact o.al a ha,λ k x h=>?_,o.tb.same s⟩,⟨List.prefix_refl _,(vD s),λ a ha=>frs a (rP (o.fr a ha).2)⟩⟩
 obtain⟨a,e,r⟩:=o.own k x h
 exact⟨a,e,r.mono (List.prefix_refl _) (vD s) (frs a (o.live a (mem_lv.mpr ⟨k,x,e,h⟩)))⟩
theorem OK.laid (o:OK K F α H M) {p:Addr}{x:HO} (h:H p=none):OK K F α (upd H p x) M∧Ext F α H M α (upd H p x) M:=o.grow (oG h)
theorem jA:∀ {α β:List Addr}{M N:Ms},α.length=M.length→lv (α++β) (M++N)=lv α M++lv β N
 | [],β,[],N,_=>by simp[lv]
 | a::α,β,some x::M,N,h=>by
  have:=jA (β:=β) (N:=N) (show α.length=M.length by simpa using h)
  simp[lv,this]
 | a::α,β,none::M,N,h=>by
  have:=jA (β:=β) (N:=N) (show α.length=M.length by simpa using h)
  simp[lv,this]
theorem OK.enter_same (o:OK K F α H M) {p:Addr}{x:OD} (h:H p=none) (s:Same H H'):Same (hid F α M H) (hid F (α++[p]) (M++[some x]) H'):=λ b y q=>by
 have hl:lv (α++[p]) (M++[some x])=lv α M++[p]:=by rw[jA o.ml];rfl
 have q0:=q
 obtain⟨z,q⟩:=bG q
 have hb:b≠p:=λ z=>by rw[z,h] at q;cases q
 show hide _ H' b=_
 rw[hl]
 refine dO q0 (λ w=>?_) (s b y q)
 ·simp only [List.mem_append,List.mem_singleton] at w z
  rcases w with (w | w) | w
  ·exact z (.inl w)
  ·exact hb w
  ·exact z (.inr w)
theorem OK.enter (o:OK K F α H M) {p:Addr}{x:OD} (h:H p=none) (s:Same H H') (r:RepM K (α++[p]) (hid F (α++[p]) (M++[some x]) H') H' x p) :
  OK K F (α++[p]) H' (M++[some x])∧Ext F α H M (α++[p]) H' (M++[some x]):=by
 have hp:p ∉ α:=λ z=>o.al p z (by rw[h])
 obtain⟨o',e'⟩:=o.grow s
 have sm:=o.enter_same (x:=x) h s
 have pf:p ∉ F:=λ z=>(o.fr p z).2 (by rw[h])
 refine⟨⟨by simp[o.ml],by rw[List.nodup_append];exact⟨o.nd,by simp,λ a ha b hb=>by simp at hb;subst hb;exact λ z=>hp (z ▸ ha)⟩,λ a ha=>⟨λ z=>?_,(o'.fr a ha).2⟩,λ a ha=>?_,λ k y hk=>?_,o'.tb⟩,⟨List.prefix_append _ _,sm,e'.fr⟩⟩
 ·rcases List.mem_append.mp z with z | z
  ·exact(o.fr a ha).1 z
  ·simp at z;subst z;exact pf ha
 ·rcases List.mem_append.mp ha with z | z
  ·exact o'.al a z
  ·simp at z;subst z;exact r.vis
 ·by_cases hk':k < M.length
  ·rw[List.getElem?_append_left hk'] at hk
   obtain⟨a,ea,ra⟩:=o.own k y hk
   refine⟨a,by rw[List.getElem?_append_left (by rw[o.ml];exact hk')];exact ea,ra.mono (List.prefix_append _ _) sm ?_⟩
   cases e:H a with
   | none=>exact absurd e (o.live a (mem_lv.mpr ⟨k,y,ea,hk⟩))
   | some z=>exact s a z e
  ·have:k=M.length:=by
    have:=(List.getElem?_eq_some_iff.mp hk).1
    simp at this;omega
   subst this
   simp at hk
   subst hk
   exact⟨p,by rw[← o.ml];simp,r⟩
theorem Bw:∀ {α:List Addr}{M:Ms}{k:Nat}{x y:OD},M[k]? = some (some x)→lv α (M.set k (some y))=lv α M
 | [],M,k,x,y,h=>by cases M <;> cases k <;> simp[lv]
 | a::α,[],k,x,y,h=>by simp at h
 | a::α,some z::M,0,x,y,h=>by simp[lv]
 | a::α,none::M,0,x,y,h=>by simp at h
 | a::α,some z::M,k+1,x,y,h=>by simp only [List.set_cons_succ,lv];rw[Bw (by simpa using h)]
 | a::α,none::M,k+1,x,y,h=>by simp only [List.set_cons_succ,lv];exact Bw (by simpa using h)
theorem OK.write (o:OK K F α H M) {k:Nat}{x y:OD}{a:Addr}{z:HO} (hk:M[k]? = some (some x)) (ha:α[k]? = some a) (r:∀ Hh,Hh=hid F α M H→RepM K α Hh (upd H a z) y a) :
  OK K F α (upd H a z) (M.set k (some y))∧Ext F α H M α (upd H a z) (M.set k (some y)):=by
 have hl:lv α (M.set k (some y))=lv α M:=Bw hk
 have hm:a∈lv α M:=mem_lv.mpr ⟨k,x,ha,hk⟩
 have eh:hid F α (M.set k (some y)) (upd H a z)=hid F α M H:=by
  funext b
  show hide _ _ b=hide _ _ b
  rw[hl]
  by_cases hb:b∈lv α M++F
  ·rw[dN hb,dN hb]
  ·rw[cG hb,cG hb,aA (λ e=>hb (by rw[e];exact List.mem_append_left _ hm))]
 have aF:a ∉ F:=λ w=>(o.fr a w).1 (List.mem_of_getElem? ha)
 refine⟨⟨by simp[o.ml],o.nd,λ b hb=>⟨(o.fr b hb).1,by rw[aA (λ e=>aF (by rw[← e];exact hb))];exact(o.fr b hb).2⟩,λ b hb=>(by
  by_cases e:b=a
  ·subst e;exact(r _ rfl).vis
  ·rw[aA e];exact o.al b hb),λ j w hj=>?_,o.tb.upd (.inl (o.al a (List.mem_of_getElem? ha)))⟩,⟨List.prefix_refl _,by rw[eh];exact Same.refl _,λ b hb=>aA (λ e=>aF (by rw[← e];exact hb))⟩⟩
 have hkl:k < M.length:=(List.getElem?_eq_some_iff.mp hk).1
 by_cases hjk:j=k
 ·subst hjk
  rw[List.getElem?_set_self hkl] at hj
  cases hj
  exact⟨a,ha,r _ eh⟩
 ·rw[List.getElem?_set_ne (Ne.symm hjk)] at hj
  obtain⟨b,eb,rb⟩:=o.own j w hj
  have hba:b≠a:=λ e=>hjk (by
   subst e
   have h1:=List.getElem?_eq_some_iff.mp ha
   have h2:=List.getElem?_eq_some_iff.mp eb
   exact(List.getElem_inj (h₀:=h2.1) (h₁:=h1.1) o.nd).mp (h2.2.trans h1.2.symm))
  refine⟨b,eb,?_⟩
  rw[eh]
  exact rb.mono (List.prefix_refl _) (Same.refl _) (aA hba)
theorem R.set (r:R K F α H σ δ M) {i:Nat}{d:D}{v:V} (q:Rep K α (hid F α M H) d v):R K F α H (σ.set i (some v)) (δ.set i (some d)) M:=by
 have hl:=r.len
 refine⟨r.ok,by simp[hl],λ j e h=>?_⟩
 by_cases hj:j=i
 ·subst hj
  have hjl:j < δ.length:=by
   rcases Nat.lt_or_ge j δ.length with x | x
   ·exact x
   ·rw[List.getElem?_eq_none (by simpa using x)] at h;cases h
  rw[List.getElem?_set_self hjl] at h
  cases h
  exact⟨v,List.getElem?_set_self (by omega),q⟩
 ·rw[List.getElem?_set_ne (Ne.symm hj)] at h ⊢
  exact r.sl j e h
end
end L3
namespace L3
open PySem PySem.Spec PyProof.Rows L2
theorem PE.weak {X:Cx}{e:Expr}{t t':TE} (h:PE X e t) (w:∀ σ H Q,t' σ H Q→t σ H Q):PE X e t':=λ pins s σ H Q I q=>h pins s σ H Q I (w σ H Q q)
theorem PT.weak {X:Cx}{e:Expr}{t t':TT} (h:PT X e t) (w:∀ σ H Q,t' σ H Q→t σ H Q):PT X e t':=λ pins s σ H Q I q=>h pins s σ H Q I (w σ H Q q)
theorem PW.weak {X:Cx}{e:Expr}{t t':TT} (h:PW X e t) (w:∀ σ H Q,t' σ H Q→t σ H Q):PW X e t':=λ wh pins s σ H Q I q=>h wh pins s σ H Q I (w σ H Q q)
theorem PA.weak {X:Cx}{e:List Expr}{t t':TA} (h:PA X e t) (w:∀ σ H Q,t' σ H Q→t σ H Q):PA X e t':=λ pos pins s σ H Q I q=>h pos pins s σ H Q I (w σ H Q q)
theorem PS.weak {X:Cx}{e:Stmt}{t t':TS} (h:PS X e t) (w:∀ D σ H,t' D σ H→t D σ H):PS X e t':=λ pins s σ H D I q=>h pins s σ H D I (w D σ H q)
theorem PSs.weak {X:Cx}{e:List Stmt}{t t':TS} (h:PSs X e t) (w:∀ D σ H,t' D σ H→t D σ H):PSs X e t':=λ pins s σ H D I q=>h pins s σ H D I (w D σ H q)
abbrev DK:=D→Ms→Prop
abbrev DE:=DSt→Ms→DK→Prop
abbrev DT:=DSt→Ms→(Bool→Ms→Prop)→Prop
abbrev DA:=DSt→Ms→(List D→Ms→Prop)→Prop
abbrev vK (K:W.Frag) (F α:List Addr) (H:Hp) (M:Ms) (Q:VK):DK:=λ d M'=>∀ v α' H',Ext F α H M α' H' M'→OK K F α' H' M'→Rep K α' (hid F α' M' H') d v→Q v H'
abbrev bK (K:W.Frag) (F α:List Addr) (H:Hp) (M:Ms) (Q:Bool→Hp→Prop):Bool→Ms→Prop:=λ b M'=>∀ α' H',Ext F α H M α' H' M'→OK K F α' H' M'→Q b H'
abbrev aK (K:W.Frag) (F α:List Addr) (H:Hp) (M:Ms) (Q:List V→Hp→Prop):List D→Ms→Prop:=λ ds M'=>∀ vs α' H',Ext F α H M α' H' M'→OK K F α' H' M'→Reps K α' (hid F α' M' H') ds vs→Q vs H'
noncomputable def lE (K:W.Frag) (t:DE):TE:=λ σ H Q=>∃ F α δ M,R K F α H σ δ M∧t δ M (vK K F α H M Q)
noncomputable def lT (K:W.Frag) (t:DT):TT:=λ σ H Q=>∃ F α δ M,R K F α H σ δ M∧t δ M (bK K F α H M Q)
noncomputable def lA (K:W.Frag) (t:DA):TA:=λ σ H Q=>∃ F α δ M,R K F α H σ δ M∧t δ M (aK K F α H M Q)
structure JE (X:Cx) (e:Expr) (t:DE):Prop where
 mono:∀ δ M (P Q:DK),(∀ d M,P d M→Q d M)→t δ M P→t δ M Q
 p:PE X e (lE X.K t)
structure JT (X:Cx) (e:Expr) (t:DT):Prop where
 mono:∀ δ M (P Q:Bool→Ms→Prop),(∀ d M,P d M→Q d M)→t δ M P→t δ M Q
 p:PT X e (lT X.K t)
structure JW (X:Cx) (e:Expr) (t:DT):Prop where
 mono:∀ δ M (P Q:Bool→Ms→Prop),(∀ d M,P d M→Q d M)→t δ M P→t δ M Q
 p:PW X e (lT X.K t)
structure JA (X:Cx) (es:List Expr) (t:DA):Prop where
 mono:∀ δ M (P Q:List D→Ms→Prop),(∀ d M,P d M→Q d M)→t δ M P→t δ M Q
 p:PA X es (lA X.K t)
section
variable {K:W.Frag}{F α α':List Addr}{H H':Hp}{M M':Ms}
theorem vK.grow {Q:VK} (e:Ext F α H M α' H' M'):∀ d M'',vK K F α H M Q d M''→vK K F α' H' M' Q d M'':=λ d M'' h v α2 H2 e2 o2 r2=>h v α2 H2 (e.trans e2) o2 r2
theorem bK.grow {Q:Bool→Hp→Prop} (e:Ext F α H M α' H' M'):∀ d M'',bK K F α H M Q d M''→bK K F α' H' M' Q d M'':=λ d M'' h α2 H2 e2 o2=>h α2 H2 (e.trans e2) o2
theorem aK.grow {Q:List V→Hp→Prop} (e:Ext F α H M α' H' M'):∀ d M'',aK K F α H M Q d M''→aK K F α' H' M' Q d M'':=λ d M'' h v α2 H2 e2 o2 r2=>h v α2 H2 (e.trans e2) o2 r2
theorem vK.now {Q:VK}{d:D}{v:V} (o:OK K F α H M) (h:vK K F α H M Q d M) (r:Rep K α (hid F α M H) d v):Q v H:=h v α H Ext.refl o r
theorem vK.new {Q:VK}{d:D}{v:V}{p:Addr}{x:HO} (o:OK K F α H M) (hp:H p=none) (h:vK K F α H M Q d M) (r:Ext F α H M α (upd H p x) M→Rep K α (hid F α M (upd H p x)) d v):Q v (upd H p x):=
 let ⟨o',e'⟩:=o.laid (x:=x) hp;h v α _ e' o' (r e')
end
abbrev G2:=D→D→Ms→DK→Prop
abbrev GN:=List D→Ms→DK→Prop
noncomputable def rD (K:W.Frag) (g:G2):R2:=λ x y H Q=>∃ F α M da db,OK K F α H M∧Rep K α (hid F α M H) da x∧Rep K α (hid F α M H) db y∧g da db M (vK K F α H M Q)
noncomputable def rDs (K:W.Frag) (g:GN):List V→Hp→VK→Prop:=λ xs H Q=>∃ F α M ds,OK K F α H M∧Reps K α (hid F α M H) ds xs∧g ds M (vK K F α H M Q)
abbrev mono2 (g:G2):Prop:=∀ x y M (P Q:DK),(∀ d M,P d M→Q d M)→g x y M P→g x y M Q
abbrev monoN (g:GN):Prop:=∀ xs M (P Q:DK),(∀ d M,P d M→Q d M)→g xs M P→g xs M Q
structure JO (X:Cx) (op:Operator) (g:G2):Prop where
 mono:mono2 g
 p:OpR X (binaryOp op) (rD X.K g)
structure JC (X:Cx) (op:CmpOp) (g:G2):Prop where
 mono:mono2 g
 p:OpR X (compareOp op) (rD X.K g)
structure JX (X:Cx) (g:G2):Prop where
 mono:mono2 g
 p:IxR X (rD X.K g)
structure JB (X:Cx) (f:Value) (g:GN):Prop where
 mono:monoN g
 p:CallR X f (rDs X.K g)
abbrev GS:=D→Option Int→Option Int→Ms→DK→Prop
noncomputable def rDsl (K:W.Frag) (g:GS):V→Option Int→Option Int→Hp→VK→Prop:=λ x lo hi H Q=>∃ F α M d,OK K F α H M∧Rep K α (hid F α M H) d x∧g d lo hi M (vK K F α H M Q)
structure JSl (X:Cx) (g:GS):Prop where
 mono:∀ x lo hi M (P Q:DK),(∀ d M,P d M→Q d M)→g x lo hi M P→g x lo hi M Q
 p:SlR X (rDsl X.K g)
section
variable {X:Cx}{a b c e:Expr}{es rest:List Expr}{ta tb tc te:DE}{tA G5:DT}{tt:DA}{pos p p2 p3:Pos}{x:Str}
noncomputable def ao (i:Nat):DE:=λ δ M Q=>match δ[i]? with | some (some d)=>Q d M | _=>False
theorem aG (i:Nat) (hN:X.N[i]? = some x:=by rfl) (hv:Vis X.env.scope x:=by first | exact Or.inl rfl | exact Or.inr (Or.inl rfl) | exact Or.inr (Or.inr rfl)) (hd:(x==("__debug__" : Str))=false:=by decide)
  (hcd:(x==("__classdict__" : Str))=false:=by decide):JE X (.Name x pos) (ao i):=by
 refine⟨λ δ M P Q h q=>?_,PE.weak (pH hN hv hd hcd) λ σ H Q h=>?_⟩
 ·unfold ao at *
  split at q
  ·exact h _ _ q
  ·exact q
 ·obtain⟨F,α,δ,M,r,h⟩:=h
  unfold ao at h
  split at h
  ·rename_i d hd
   obtain⟨v,e,q⟩:=r.sl i d hd
   exact⟨v,e,vK.now r.ok h q⟩
  ·exact h.elim
noncomputable def dC (d:D):DE:=λ _ M Q=>Q d M
theorem Ur {d:D}{v:V} (h:PE X e (tC v)) (r:∀ α H,Rep X.K α H d v):JE X e (dC d):=
 ⟨λ δ M P Q h q=>h _ _ q,PE.weak h λ σ H Q ⟨F,α,δ,M,rr,h⟩=>vK.now rr.ok h (r _ _)⟩
theorem aq {i j}:JE X (.Constant (.int i) j pos) (dC (.int i)):=Ur Qq λ _ _=>bL
theorem uq {b j}:JE X (.Constant (.bool b) j pos) (dC (.bl b)):=Ur UG λ _ _=>cD
theorem iR {j}:JE X (.Constant .none j pos) (dC .non):=Ur Qs λ _ _=>gB
theorem cZ {y j}:JE X (.Constant (.str y) j pos) (dC (.str y)):=Ur G4 λ _ _=>iQ
theorem Bx {d:D}{v:V}{u:Value} (hm:X.mg x=some u) (r:RelV v u) (rr:∀ α H,Rep X.K α H d v) (hg:Gl X x:=by rfl) (hd:(x==("__debug__" : Str))=false:=by decide):JE X (.Name x pos) (dC d):=Ur (Di hg hm r hd) rr
theorem Dw {i:Int} (hm:∃ t,X.mg x=some (.int i t)) (hg:Gl X x:=by rfl) (hd:(x==("__debug__" : Str))=false:=by decide):JE X (.Name x pos) (dC (.int i)):=by
 obtain⟨t,hm⟩:=hm
 exact Bx (v:=.int i) hm ⟨t,rfl⟩ (λ _ _=>bL) hg hd
theorem Dy {C:Addr} (hm:X.mg x=some (.ref C)) (hg:Gl X x:=by rfl) (hd:(x==("__debug__" : Str))=false:=by decide):JE X (.Name x pos) (dC (.cls C)):=Bx (v:=.ref C) hm rfl (λ _ _=>Ly) hg hd
theorem Ro {n:String} (hm:X.mg x=none) (hv:bootBuiltins x=some (.type n)) (hg:Gl X x:=by rfl) (hn:x≠"__name__":=by decide) (hd:(x==("__debug__" : Str))=false:=by decide):JE X (.Name x pos) (dC (.ty n)):=
 Ur (K1 (v:=.ty n) hg hm hv rfl hn hd) λ _ _=>Rn
noncomputable def aL (g:G2) (ta tb:DE):DE:=λ δ M Q=>ta δ M λ x M1=>tb δ M1 λ y M2=>g x y M2 Q
theorem rQ {g:G2} (mg:mono2 g) (ha:JE X a ta) (hb:JE X b tb):∀ δ M (P Q:DK),(∀ d M,P d M→Q d M)→aL g ta tb δ M P→aL g ta tb δ M Q:=
 λ δ M P Q h q=>ha.mono δ _ _ _ (λ d M1 q=>hb.mono δ _ _ _ (λ d' M2 q=>mg d d' M2 P Q h q) q) q
theorem Dz {g:G2} (mg:mono2 g) (ha:JE X a ta) (hb:JE X b tb) {σ:L2.St}{H:Hp}{Q:VK} (h:lE X.K (aL g ta tb) σ H Q):U7 (rD X.K g) (lE X.K ta) (lE X.K tb) σ H Q:=by
 obtain⟨F,α,δ,M,r,h⟩:=h
 exact⟨F,α,δ,M,r,ha.mono δ _ _ _ (λ da M1 h2 v α1 H1 e1 o1 r1=>⟨F,α1,δ,M1,r.grow e1 o1,hb.mono δ _ _ _ (λ db M2 h3 u α2 H2 e2 o2 r2=>
  ⟨F,α2,M2,da,db,o2,e2.rep r1,r2,mg _ _ _ _ _ (vK.grow (e1.trans e2)) h3⟩) h2⟩) h⟩
theorem aR {op:Operator}{g:G2} (o:JO X op g) (ha:JE X a ta) (hb:JE X b tb):JE X (.BinOp a op b pos) (aL g ta tb):=⟨rQ o.mono ha hb,PE.weak (U8 o.p ha.p hb.p) λ σ H Q h=>Dz o.mono ha hb h⟩
theorem vG {op:CmpOp}{g:G2} (o:JC X op g) (ha:JE X a ta) (hb:JE X b tb) (hm:behindInMarks op b=false:=by rfl):JE X (.Compare a [op] [b] pos) (aL g ta tb):=⟨rQ o.mono ha hb,PE.weak (K8 o.p ha.p hb.p hm) λ σ H Q h=>Dz o.mono ha hb h⟩
theorem cU {g:G2} (o:JX X g) (ha:JE X a ta) (hb:JE X b tb) (hs:Dr b:=by exact λ _ _=>rfl):JE X (.Subscript a b pos) (aL g ta tb):=⟨rQ o.mono ha hb,PE.weak (Vn o.p ha.p hb.p hs) λ σ H Q h=>Dz o.mono ha hb h⟩
noncomputable def aJ (te:DE):DT:=λ δ M Q=>te δ M λ d M1=>match d with | .bl b=>Q b M1 | _=>False
theorem nA (h:JE X e te):∀ δ M (P Q:Bool→Ms→Prop),(∀ d M,P d M→Q d M)→aJ te δ M P→aJ te δ M Q:=λ δ M P Q w q=>h.mono δ _ _ _ (λ d M1 q=>by
 cases d <;> first | exact w _ _ q | exact q) q
theorem pO (h:JE X e te) (he:∀ whole,isTrue e X.env whole=(do let v ← whole;standAt e.pos;holding [v] (truthy v)):=by intro _;rfl):JT X e (aJ te):=by
 refine⟨nA h,PT.weak (Qt h.p he) λ σ H Q q=>?_⟩
 obtain⟨F,α,δ,M,r,q⟩:=q
 refine⟨F,α,δ,M,r,h.mono δ _ _ _ (λ d M1 q v α1 H1 e1 o1 r1=>?_) q⟩
 cases d <;> first | exact q.elim | skip
 unfold Rep at r1
 exact⟨_,r1,q α1 H1 e1 o1⟩
theorem aX {op:CmpOp}{g:G2} (o:JC X op g) (ha:JE X a ta) (hb:JE X b tb) (hm:behindInMarks op b=false:=by rfl):JT X (.Compare a [op] [b] pos) (aJ (aL g ta tb)):=by
 have hE:JE X (.Compare a [op] [b] pos) (aL g ta tb):=vG o ha hb hm
 refine⟨nA hE,PT.weak (K9 o.p ha.p hb.p hm) λ σ H Q q=>?_⟩
 obtain⟨F,α,δ,M,r,q⟩:=q
 refine Dz o.mono ha hb ⟨F,α,δ,M,r,hE.mono δ _ _ _ (λ d M1 q v α1 H1 e1 o1 r1=>?_) q⟩
 cases d <;> first | exact q.elim | skip
 unfold Rep at r1
 exact⟨_,r1,q α1 H1 e1 o1⟩
noncomputable def gC (t:DT):DT:=λ δ M Q=>t δ M λ b M1=>Q (!b) M1
theorem nC (h:JT X a tA):JT X (.UnaryOp .Not a pos) (gC tA):=
 ⟨λ δ M P Q w q=>h.mono δ _ _ _ (λ b M1 q=>w _ _ q) q,PT.weak (Qw h.p) λ σ H Q ⟨F,α,δ,M,r,q⟩=>⟨F,α,δ,M,r,q⟩⟩
theorem oH (h:JW X e tA):JT X e tA:=⟨h.mono,h.p.pt⟩
noncomputable def rR (t u:DT):DT:=λ δ M Q=>t δ M λ b M1=>if b=true then u δ M1 Q else Q false M1
noncomputable def GX (t u:DT):DT:=λ δ M Q=>t δ M λ b M1=>if b=true then Q true M1 else u δ M1 Q
theorem qZ (h:JT X a tA):JW X (.BoolOp .And [a] pos) tA:=⟨h.mono,K3 h.p⟩
theorem rT (h:JT X a tA):JW X (.BoolOp .Or [a] pos) tA:=⟨h.mono,Qu h.p⟩
theorem wB (ha:JT X a tA) (hb:JW X (.BoolOp .And (b::rest) pos) G5):JW X (.BoolOp .And (a::b::rest) pos) (rR tA G5):=by
 refine⟨λ δ M P Q w q=>ha.mono δ _ _ _ (λ b M1 q=>?_) q,PW.weak (Qv ha.p hb.p) λ σ H Q q=>?_⟩
 ·cases b with
  | true=>rw[if_pos rfl] at q ⊢;exact hb.mono δ _ _ _ w q
  | false=>rw[if_neg Bool.false_ne_true] at q ⊢;exact w _ _ q
 ·obtain⟨F,α,δ,M,r,q⟩:=q
  refine⟨F,α,δ,M,r,ha.mono δ _ _ _ (λ b M1 q α1 H1 e1 o1=>?_) q⟩
  cases b with
  | true=>
   rw[if_pos rfl] at q
   show (if true=true then _ else _)
   rw[if_pos rfl]
   exact⟨F,α1,δ,M1,r.grow e1 o1,hb.mono δ _ _ _ (bK.grow e1) q⟩
  | false=>
   rw[if_neg Bool.false_ne_true] at q
   show (if false=true then _ else _)
   rw[if_neg Bool.false_ne_true]
   exact q α1 H1 e1 o1
theorem vH (ha:JT X a tA) (hb:JW X (.BoolOp .Or (b::rest) pos) G5):JW X (.BoolOp .Or (a::b::rest) pos) (GX tA G5):=by
 refine⟨λ δ M P Q w q=>ha.mono δ _ _ _ (λ b M1 q=>?_) q,PW.weak (UJ ha.p hb.p) λ σ H Q q=>?_⟩
 ·cases b with
  | true=>rw[if_pos rfl] at q ⊢;exact w _ _ q
  | false=>rw[if_neg Bool.false_ne_true] at q ⊢;exact hb.mono δ _ _ _ w q
 ·obtain⟨F,α,δ,M,r,q⟩:=q
  refine⟨F,α,δ,M,r,ha.mono δ _ _ _ (λ b M1 q α1 H1 e1 o1=>?_) q⟩
  cases b with
  | false=>
   rw[if_neg Bool.false_ne_true] at q
   show (if false=true then _ else _)
   rw[if_neg Bool.false_ne_true]
   exact⟨F,α1,δ,M1,r.grow e1 o1,hb.mono δ _ _ _ (bK.grow e1) q⟩
  | true=>
   rw[if_pos rfl] at q
   show (if true=true then _ else _)
   rw[if_pos rfl]
   exact q α1 H1 e1 o1
noncomputable def Vs (ta tb:DE):DE:=λ δ M Q=>ta δ M λ x M1=>match x with | .bl true=>tb δ M1 Q | .bl false=>Q (.bl false) M1 | _=>False
noncomputable def X6 (ta tb:DE):DE:=λ δ M Q=>ta δ M λ x M1=>match x with | .bl true=>Q (.bl true) M1 | .bl false=>tb δ M1 Q | _=>False
noncomputable def Vt (ta:DE):DE:=λ δ M Q=>ta δ M λ x M1=>match x with | .bl b=>Q (.bl (!b)) M1 | _=>False
noncomputable def W7 (t:DT) (ta tb:DE):DE:=λ δ M Q=>t δ M λ c M1=>if c=true then ta δ M1 Q else tb δ M1 Q
theorem Vu (hc:JT X c tA) (ha:JE X a ta) (hb:JE X b tb):JE X (.IfExp c a b pos) (W7 tA ta tb):=by
 refine⟨λ δ M P Q w q=>hc.mono δ _ _ _ (λ b M1 q=>?_) q,PE.weak (G6 hc.p ha.p hb.p) λ σ H Q q=>?_⟩
 ·cases b with
  | true=>rw[if_pos rfl] at q ⊢;exact ha.mono δ _ _ _ w q
  | false=>rw[if_neg Bool.false_ne_true] at q ⊢;exact hb.mono δ _ _ _ w q
 ·obtain⟨F,α,δ,M,r,q⟩:=q
  refine⟨F,α,δ,M,r,hc.mono δ _ _ _ (λ b M1 q α1 H1 e1 o1=>?_) q⟩
  cases b with
  | true=>
   rw[if_pos rfl] at q
   show (if true=true then _ else _)
   rw[if_pos rfl]
   exact⟨F,α1,δ,M1,r.grow e1 o1,ha.mono δ _ _ _ (vK.grow e1) q⟩
  | false=>
   rw[if_neg Bool.false_ne_true] at q
   show (if false=true then _ else _)
   rw[if_neg Bool.false_ne_true]
   exact⟨F,α1,δ,M1,r.grow e1 o1,hb.mono δ _ _ _ (vK.grow e1) q⟩
noncomputable def cR (g g':G2) (ta tb tc:DE):DE:=λ δ M Q=>ta δ M λ x M1=>tb δ M1 λ y M2=>g x y M2 λ z M3=>match z with | .bl true=>tc δ M3 λ w M4=>g' y w M4 Q | .bl false=>Q (.bl false) M3 | _=>False
theorem yQ {op op':CmpOp}{g g':G2} (o:JC X op g) (o':JC X op' g') (ha:JE X a ta) (hb:JE X b tb) (hc:JE X c tc):∀ δ M (P Q:DK),(∀ d M,P d M→Q d M)→cR g g' ta tb tc δ M P→cR g g' ta tb tc δ M Q:=
 λ δ M P Q w q=>ha.mono δ _ _ _ (λ x M1 q=>hb.mono δ _ _ _ (λ y M2 q=>o.mono _ _ _ _ _ (λ z M3 q=>by
  cases z <;> first | exact q.elim | skip
  rename_i k;cases k with
  | true=>exact hc.mono δ _ _ _ (λ u M4 q=>o'.mono _ _ _ _ _ w q) q
  | false=>exact w _ _ q) q) q) q
theorem vI {op op':CmpOp}{g g':G2} (o:JC X op g) (o':JC X op' g') (ha:JE X a ta) (hb:JE X b tb) (hc:JE X c tc) {σ:L2.St}{H:Hp}{Q:VK} (h:lE X.K (cR g g' ta tb tc) σ H Q):Bo (rD X.K g) (rD X.K g') (lE X.K ta) (lE X.K tb) (lE X.K tc) σ H Q:=by
 obtain⟨F,α,δ,M,r,h⟩:=h
 refine⟨F,α,δ,M,r,ha.mono δ _ _ _ (λ da M1 h2 v α1 H1 e1 o1 r1=>⟨F,α1,δ,M1,r.grow e1 o1,hb.mono δ _ _ _ (λ db M2 h3 u α2 H2 e2 o2 r2=>?_) h2⟩) h⟩
 refine⟨F,α2,M2,da,db,o2,e2.rep r1,r2,o.mono _ _ _ _ _ (λ d M3 h4 w α3 H3 e3 o3 r3=>?_) h3⟩
 have e13:=(e1.trans e2).trans e3
 cases d <;> first | exact h4.elim | skip
 unfold Rep at r3
 rename_i k
 refine⟨k,r3,?_⟩
 cases k with
 | false=>rw[if_neg Bool.false_ne_true];exact h4 _ α3 H3 e13 o3 cD
 | true=>
  rw[if_pos rfl]
  refine⟨F,α3,δ,M3,r.grow e13 o3,hc.mono δ _ _ _ (λ dc M4 h5 z α4 H4 e4 o4 r4=>?_) h4⟩
  exact⟨F,α4,M4,db,dc,o4,(e3.trans e4).rep r2,r4,o'.mono _ _ _ _ _ (vK.grow (e13.trans e4)) h5⟩
theorem Lz {op op':CmpOp}{g g':G2} (o:JC X op g) (o':JC X op' g') (ha:JE X a ta) (hb:JE X b tb) (hc:JE X c tc) (hm:lastMarks [op,op'] [b,c]=false:=by with_unfolding_all rfl):JE X (.Compare a [op,op'] [b,c] pos) (cR g g' ta tb tc):=
 ⟨yQ o o' ha hb hc,PE.weak (Hi o.p o'.p ha.p hb.p hc.p hm) λ σ H Q h=>vI o o' ha hb hc h⟩
theorem fV {op op':CmpOp}{g g':G2} (o:JC X op g) (o':JC X op' g') (ha:JE X a ta) (hb:JE X b tb) (hc:JE X c tc) (hm:lastMarks [op,op'] [b,c]=false:=by with_unfolding_all rfl):JT X (.Compare a [op,op'] [b,c] pos) (aJ (cR g g' ta tb tc)):=by
 have hE:JE X (.Compare a [op,op'] [b,c] pos) (cR g g' ta tb tc):=Lz o o' ha hb hc hm
 refine⟨nA hE,PT.weak (Hj o.p o'.p ha.p hb.p hc.p hm) λ σ H Q q=>?_⟩
 obtain⟨F,α,δ,M,r,q⟩:=q
 refine vI o o' ha hb hc ⟨F,α,δ,M,r,hE.mono δ _ _ _ (λ d M1 q v α1 H1 e1 o1 r1=>?_) q⟩
 cases d <;> first | exact q.elim | skip
 unfold Rep at r1
 exact⟨_,r1,q α1 H1 e1 o1⟩
noncomputable def aB:DA:=λ _ M Q=>Q [] M
noncomputable def ak (te:DE) (tt:DA):DA:=λ δ M Q=>te δ M λ x M1=>tt δ M1 λ xs M2=>Q (x::xs) M2
theorem au:JA X [] aB:=⟨λ δ M P Q w q=>w _ _ q,PA.weak Ho λ σ H Q ⟨F,α,δ,M,r,q⟩=>q [] α H Ext.refl r.ok Reps.nil⟩
theorem aj (ha:JE X e te) (hr:JA X es tt) (hs:starEach (e::es) X.env=(false,eval e X.env)::starEach es X.env:=by rfl):JA X (e::es) (ak te tt):=by
 refine⟨λ δ M P Q w q=>ha.mono δ _ _ _ (λ x M1 q=>hr.mono δ _ _ _ (λ xs M2 q=>w _ _ q) q) q,PA.weak (wg ha.p hr.p hs) λ σ H Q q=>?_⟩
 obtain⟨F,α,δ,M,r,q⟩:=q
 refine⟨F,α,δ,M,r,ha.mono δ _ _ _ (λ d M1 q v α1 H1 e1 o1 r1=>⟨F,α1,δ,M1,r.grow e1 o1,hr.mono δ _ _ _ (λ ds M2 q vs α2 H2 e2 o2 r2=>?_) q⟩) q⟩
 exact q (v::vs) α2 H2 (e1.trans e2) o2 (Reps.cons (e2.rep r1) r2)
theorem fW {K:W.Frag}{F α:List Addr}{H:Hp}{M:Ms}{p:Addr}{ds:List D}{vs:List V} (o:OK K F α H M) (hp:H p=none) (h:Reps K α (hid F α M H) ds vs) (e:Ext F α H M α (upd H p (.lst vs)) M):Rep K α (hid F α M (upd H p (.lst vs))) (.lst ds) (.ref p):=by
 unfold Rep
 exact⟨p,vs,rfl,by show hide _ _ p=_;rw[cG (o.new hp),aP],e.reps h⟩
theorem fX {K:W.Frag}{F α:List Addr}{H:Hp}{M:Ms}{p:Addr}{ds:List D}{vs:List V} (o:OK K F α H M) (hp:H p=none) (h:Reps K α (hid F α M H) ds vs) (e:Ext F α H M α (upd H p (.tup vs)) M):Rep K α (hid F α M (upd H p (.tup vs))) (.tup ds) (.ref p):=by
 unfold Rep
 exact⟨p,vs,rfl,.inl (.inl (by show hide _ _ p=_;rw[cG (o.new hp),aP])),e.reps h⟩
noncomputable def dTup (tt:DA):DE:=λ δ M Q=>tt δ M λ ds M1=>ds.length≤sizeLine∧Q (.tup ds) M1
theorem bQ {x1} (h:JA X es tt):JE X (.Tuple es x1 pos) (dTup tt):=by
 refine⟨λ δ M P Q w q=>h.mono δ _ _ _ (λ ds M1 q=>⟨q.1,w _ _ q.2⟩) q,PE.weak (Q5 h.p) λ σ H Q q=>?_⟩
 obtain⟨F,α,δ,M,r,q⟩:=q
 refine⟨F,α,δ,M,r,h.mono δ _ _ _ (λ ds M1 q vs α1 H1 e1 o1 r1=>?_) q⟩
 exact⟨by rw[← Reps.length ds vs r1];exact q.1,λ p hp=>vK.new o1 hp (vK.grow e1 _ _ q.2) (fX o1 hp r1)⟩
noncomputable def bT (g:GN) (tt:DA):DE:=λ δ M Q=>tt δ M λ ds M1=>g ds M1 Q
theorem rW {g:GN} (m:monoN g) (ha:JA X es tt):∀ δ M (P Q:DK),(∀ d M,P d M→Q d M)→bT g tt δ M P→bT g tt δ M Q:=λ δ M P Q w q=>ha.mono δ _ _ _ (λ ds M1 q=>m _ _ _ _ w q) q
theorem HS {f:Value}{g:GN} (o:JB X f g) (ha:JA X es tt) {σ:L2.St}{H:Hp}{Q:VK} (h:lE X.K (bT g tt) σ H Q):Xr (rDs X.K g) (lA X.K tt) σ H Q:=by
 obtain⟨F,α,δ,M,r,h⟩:=h
 exact⟨F,α,δ,M,r,ha.mono δ _ _ _ (λ ds M1 q vs α1 H1 e1 o1 r1=>⟨F,α1,M1,ds,o1,r1,o.mono _ _ _ _ (vK.grow e1) q⟩) h⟩
theorem yR {id:String}{g:GN} (o:JB X (.builtin id) g) (hm:X.mg x=none) (hv:bootBuiltins x=some (.builtin id)) (ha:JA X (e::es) tt) (hg:Gl X x:=by rfl) (hn:x≠"__name__":=by decide) (hdb:(x==("__debug__" : Str))=false:=by decide)
  (he:starEach (e::es) X.env=(false,eval e X.env)::starEach es X.env:=by rfl) (hpl:(backTo pos (starEach es X.env)).any (·.1)=false:=by rfl):JE X (.Call (.Name x p) (e::es) [] pos) (bT g tt):=
 ⟨rW o.mono ha,PE.weak (Hq o.p hg hm hv ha.p hn hdb he hpl) λ σ H Q h=>HS o ha h⟩
theorem Zi {T:String}{g:GN} (o:JB X (.type T) g) (hm:X.mg x=none) (hv:bootBuiltins x=some (.type T)) (ha:JA X (e::es) tt) (hg:Gl X x:=by rfl) (hn:x≠"__name__":=by decide) (hdb:(x==("__debug__" : Str))=false:=by decide)
  (he:starEach (e::es) X.env=(false,eval e X.env)::starEach es X.env:=by rfl) (hpl:(backTo pos (starEach es X.env)).any (·.1)=false:=by rfl):JE X (.Call (.Name x p) (e::es) [] pos) (bT g tt):=
 ⟨rW o.mono ha,PE.weak (vm o.p hg hm hv ha.p hn hdb he hpl) λ σ H Q h=>HS o ha h⟩
noncomputable def lSp (K:W.Frag) (g:GN):Sp:=λ vs H Q _=>∃ F α M ds,OK K F α H M∧Reps K α (hid F α M H) ds vs∧g ds M (vK K F α H M Q)
structure HasD (P:Program) (w:World) (K:W.Frag) (mg:Str→Option Value) (base:Heap) (k:Nat) (x:Str) (ps:List Str) (g:GN):Prop where
 mono:monoN g
 p:Has P w K mg base k x ps (lSp K g)
theorem HasD.up {P:Program}{w:World}{K:W.Frag}{mg:Str→Option Value}{base:Heap}{j k:Nat}{x:Str}{ps:List Str}{g:GN} (h:HasD P w K mg base j x ps g) (hjk:j≤k):HasD P w K mg base k x ps g:=⟨h.mono,h.p.mono hjk⟩
theorem HasD.imp {P:Program}{w:World}{K:W.Frag}{mg:Str→Option Value}{base:Heap}{k:Nat}{x:Str}{ps:List Str}{g g':GN} (h:HasD P w K mg base k x ps g) (m:monoN g') (i:∀ ds M Q,g' ds M Q→g ds M Q):HasD P w K mg base k x ps g':=
 ⟨m,by
  obtain⟨f,fd,m1,kp,b,F⟩:=h.p
  exact⟨f,fd,m1,kp,b,F.imp λ vs H Q E ⟨F,α,M,ds,o,r,q⟩=>⟨F,α,M,ds,o,r,i _ _ _ q⟩⟩⟩
theorem bZ {k:Nat}{ps:List Str}{g:GN} (h:HasD X.prog X.w X.K X.mg X.base k x ps g) (hr:Room k X.A) (ha:JA X (e::es) tt) (hg:Gl X x:=by rfl) (hdb:(x==("__debug__" : Str))=false:=by decide)
  (he:starEach (e::es) X.env=(false,eval e X.env)::starEach es X.env:=by rfl) (hpl:(backTo pos (starEach es X.env)).any (·.1)=false:=by rfl):JE X (.Call (.Name x p) (e::es) [] pos) (bT g tt):=by
 refine⟨rW h.mono ha,PE.weak (Vr h.p hr ha.p hg hdb he hpl) λ σ H Q q=>?_⟩
 obtain⟨F,α,δ,M,r,q⟩:=q
 refine⟨F,α,δ,M,r,ha.mono δ _ _ _ (λ ds M1 q vs α1 H1 e1 o1 r1=>?_) q⟩
 show lSp X.K g (vs++[]) H1 Q E0
 rw[List.append_nil]
 exact⟨F,α1,M1,ds,o1,r1,h.mono _ _ _ _ (vK.grow e1) q⟩
end
end L3
namespace L2
open PySem PySem.Spec PyProof.Rows
section
variable {X:Cx}{pins:List (Addr×Obj)}{σ:St}{H:Hp}{s:Shared}{a:Addr}{kvs:List (Key×V)}
theorem Inv.ghost {w w':HO} (I:Inv X pins σ H s) (ha:H a=some w) (n1:∀ xs,w≠.tup xs) (n2:∀ x,w≠.own x) (n3:∀ ps,w≠.tbl ps) (n4:∀ o u,X.H₀ a≠some (.frz o u))
  (ok:ObjOk X.prog X.w (upd H a w') s.heap a w'):Inv X pins σ (upd H a w') s:=by
 have hne:∀ b,H b=none→b≠a:=λ b h z=>by rw[z,ha] at h;cases h
 refine⟨I.ok,I.os,I.bare,⟨I.base.keep,I.base.slot,λ b o q n hx=>?_,I.base.there,λ b xs q=>?_,λ b o u q=>?_,λ b ps q=>?_⟩,I.loc,I.cell,?_,λ x c e=>?_,λ p hp=>?_,λ b ob q=>?_,I.len⟩
 ·have:=I.base.free b o q n hx
  rw[aA (hne b this)];exact this
 ·have:=I.base.tups b xs q
  rw[aA λ z=>by rw[z,ha] at this;exact n1 xs (Option.some.inj this)];exact this
 ·have:=I.base.frzs b o u q
  rw[aA λ z=>n4 o u (by rw[← z];exact q)];exact this
 ·obtain⟨m,e⟩:=I.base.tbls b ps q
  exact⟨m,by rw[aA λ z=>by rw[z,ha] at e;exact n3 _ (Option.some.inj e)];exact e⟩
 ·rw[aA (hne _ I.free)];exact I.free
 ·rw[aA (hne _ (I.freeC x c e))];exact I.freeC x c e
 ·obtain⟨p1,p2,p3⟩:=I.pin p hp
  exact⟨p1,by rw[aA (hne _ p2)];exact p2,p3⟩
 ·by_cases z:b=a
  ·subst z
   rw[aP] at q
   cases q
   exact ok
  ·rw[aA z] at q
   refine(I.hok b ob q).stay (λ c v _ r=>r) (λ c r=>?_) (λ c xs r=>?_)
   ·rw[aA λ z=>by rw[z,ha] at r;exact n2 _ (Option.some.inj r)];exact r
   ·rw[aA λ z=>by rw[z,ha] at r;exact n1 _ (Option.some.inj r)];exact r
theorem Inv.thaw {o:Obj} (I:Inv X pins σ H s) (ha:H a=some (.frz o (.dK kvs))) (n4:∀ o u,X.H₀ a≠some (.frz o u)):Inv X pins σ (upd H a (.dK kvs)) s:=by
 obtain⟨_,z,hd,vs,r,ob,es,ep,e,c⟩:=(show ObjOk X.prog X.w H s.heap a (.frz o (.dK kvs)) from I.hok a _ ha)
 exact I.ghost ha (λ _ z=>by cases z) (λ _ z=>by cases z) (λ _ z=>by cases z) n4 ⟨z,hd,vs,r,ob,es,ep,e,c⟩
noncomputable def TH (X:Cx) (P:Hp→Prop) (H:Hp):Prop:=P H∨∃ a o kvs,H a=some (.frz o (.dK kvs))∧(∀ o u,X.H₀ a≠some (.frz o u))∧P (upd H a (.dK kvs))
theorem TH.get {P:Hp→Prop} (I:Inv X pins σ H s) (h:TH X P H):∃ H',Inv X pins σ H' s∧P H':=by
 rcases h with h | ⟨a,o,kvs,e,n,h⟩
 ·exact⟨H,I,h⟩
 ·exact⟨_,I.thaw e n,h⟩
noncomputable def Zj (X:Cx) (D:Ends):Ends:=⟨λ σ=>TH X (D.nx σ),λ v=>TH X (D.rt v),λ σ=>TH X (D.bk σ),λ σ=>TH X (D.ct σ)⟩
theorem HW {st:Stmt}{t t':TS} (h:PS X st t) (w:∀ D σ H,t' D σ H→t (Zj X D) σ H):PS X st t':=λ pins s σ H D I q=>
 cY (h pins s σ H (Zj X D) I (w D σ H q)) λ f s' hf=>by
  cases f with
  | next=>obtain⟨σ',H',I',q⟩:=hf;obtain⟨H2,I2,q2⟩:=TH.get I' q;exact⟨σ',H2,I2,q2⟩
  | brk=>obtain⟨σ',H',I',q⟩:=hf;obtain⟨H2,I2,q2⟩:=TH.get I' q;exact⟨σ',H2,I2,q2⟩
  | cont=>obtain⟨σ',H',I',q⟩:=hf;obtain⟨H2,I2,q2⟩:=TH.get I' q;exact⟨σ',H2,I2,q2⟩
  | ret u=>obtain⟨v,σ',H',I',r,q⟩:=hf;obtain⟨H2,I2,q2⟩:=TH.get I' q;exact⟨v,σ',H2,I2,r,q2⟩
theorem HX {e:Expr}{t t':TE} (h:PE X e t) (w:∀ σ H Q,t' σ H Q→t σ H (λ v=>TH X (Q v))):PE X e t':=λ pins s σ H Q I q=>
 cY (h pins s σ H _ I (w σ H Q q)) λ u s' ⟨v,H',I',r,q⟩=>by
  obtain⟨H2,I2,q2⟩:=TH.get I' q
  exact⟨v,H2,I2,r,q2⟩
end
end L2
namespace L3
open PySem PySem.Spec PyProof.Rows L2
noncomputable def Alt (H H':Hp):Prop:=∀ b o,H b=some o→H' b=some o∨∃ kvs,(o = .dK kvs∨∃ ob,o = .frz ob (.dK kvs))∧Rd H' b (.dK kvs)
section
variable {K:W.Frag}{H H':Hp}{a:Addr}
theorem rY {u:HO} (e:Alt H H') (h:H a=some u) (n1:∀ kvs,u≠.dK kvs) (n2:∀ ob kvs,u≠.frz ob (.dK kvs)):H' a=some u:=by
 rcases e a u h with q | ⟨kvs,rfl | ⟨ob,rfl⟩,_⟩
 ·exact q
 ·exact absurd rfl (n1 kvs)
 ·exact absurd rfl (n2 ob kvs)
theorem HY {u:HO} (e:Alt H H') (h:Rd H a u) (n1:∀ kvs,u≠.dK kvs) (n2:∀ ob kvs,u≠.frz ob (.dK kvs)):Rd H' a u:=by
 rcases h with h | ⟨o,h⟩
 ·exact .inl (rY e h n1 n2)
 ·exact .inr ⟨o,rY e h (λ _ z=>by cases z) λ _ kvs z=>by cases z;exact n1 kvs rfl⟩
theorem Rp {kvs:List (Key×V)} (e:Alt H H') (h:Rd H a (.dK kvs)):Rd H' a (.dK kvs):=by
 rcases h with h | ⟨o,h⟩
 ·rcases e a _ h with q | ⟨l,z | ⟨ob,z⟩,q⟩
  ·exact .inl q
  ·cases z;exact q
  ·cases z
 ·rcases e a _ h with q | ⟨l,z | ⟨ob,z⟩,q⟩
  ·exact .inr ⟨o,q⟩
  ·cases z
  ·cases z;exact q
theorem Ia {xs:List V} (e:Alt H H') (h:qJ K H a xs):qJ K H' a xs:=by
 rcases h with h | h
 ·exact .inl (HY e h (λ _ z=>by cases z) λ _ _ z=>by cases z)
 ·exact .inr h
theorem Ib {xs:List V} (e:Alt H H') (h:SqL K H a xs):SqL K H' a xs:=by
 rcases h with h | h
 ·exact .inl (HY e h (λ _ z=>by cases z) λ _ _ z=>by cases z)
 ·exact .inr h
end
mutual
theorem Rep.alt {K:W.Frag}{α:List Addr}{H H':Hp} (e:Alt H H'):∀ (d:D) (v:V),Rep K α H d v→Rep K α H' d v
 | .non,v,h=>by unfold Rep at h ⊢;exact h
 | .bl _,v,h=>by unfold Rep at h ⊢;exact h
 | .int _,v,h=>by unfold Rep at h ⊢;exact h
 | .str _,v,h=>by unfold Rep at h ⊢;exact h
 | .ty _,v,h=>by unfold Rep at h ⊢;exact h
 | .tup ds,v,h=>by
  unfold Rep at h ⊢
  obtain⟨a,vs,r,q,z⟩:=h
  exact⟨a,vs,r,Ia e q,Reps.alt e ds vs z⟩
 | .lst ds,v,h=>by
  unfold Rep at h ⊢
  obtain⟨a,vs,r,q,z⟩:=h
  exact⟨a,vs,r,rY e q (λ _ z=>by cases z) (λ _ _ z=>by cases z),Reps.alt e ds vs z⟩
 | .scr ns,v,h=>by
  unfold Rep at h ⊢
  obtain⟨a,r,q⟩:=h
  exact⟨a,r,Ib e q⟩
 | .dct ks ds,v,h=>by
  unfold Rep at h ⊢
  obtain⟨a,vs,r,q,l,z⟩:=h
  exact⟨a,vs,r,Rp e q,l,Reps.alt e ds vs z⟩
 | .ins C ns ds,v,h=>by
  unfold Rep at h ⊢
  obtain⟨a,dx,vs,r,q,l,z⟩:=h
  exact⟨a,dx,vs,r,rY e q (λ _ z=>by cases z) (λ _ _ z=>by cases z),l,Reps.alt e ds vs z⟩
 | .exc C ns ds,v,h=>by
  unfold Rep at h ⊢
  obtain⟨a,vs,r,q,l,z⟩:=h
  exact⟨a,vs,r,rY e q (λ _ z=>by cases z) (λ _ _ z=>by cases z),l,Reps.alt e ds vs z⟩
 | .loc k,v,h=>by unfold Rep at h ⊢;exact h
 | .cls _,v,h=>by unfold Rep at h ⊢;exact h
theorem Reps.alt {K:W.Frag}{α:List Addr}{H H':Hp} (e:Alt H H'):∀ (ds:List D) (vs:List V),Reps K α H ds vs→Reps K α H' ds vs
 | [],vs,h=>by unfold Reps at h ⊢;exact h
 | d::ds,vs,h=>by
  unfold Reps at h ⊢
  obtain⟨v,r,q,z,y⟩:=h
  exact⟨v,r,q,Rep.alt e d v z,Reps.alt e ds r y⟩
end
section
variable {K:W.Frag}{F α:List Addr}{H:Hp}{M:Ms}{a:Addr}{kvs:List (Key×V)}{w w':HO}
noncomputable def Two (kvs:List (Key×V)) (w:HO):Prop:=w = .dK kvs∨∃ ob,w = .frz ob (.dK kvs)
theorem Two.vis (t:Two kvs w):vis (some w)=some w:=by rcases t with rfl | ⟨ob,rfl⟩ <;> rfl
theorem rm {A:List Addr} (ha:H a=some w) (t:Two kvs w) (t':Two kvs w'):Alt (hide A H) (hide A (upd H a w')):=λ b o e=>by
 obtain⟨n,q,v⟩:=jz e
 by_cases z:b=a
 ·subst z
  rw[ha] at q;cases q
  refine .inr ⟨kvs,t,?_⟩
  have g:hide A (upd H b w') b=some w':=dg n aP t'.vis
  rcases t' with rfl | ⟨ob,rfl⟩
  ·exact .inl g
  ·exact .inr ⟨ob,g⟩
 ·exact .inl (dg n (by rw[aA z];exact q) v)
theorem OK.two (o:OK K F α H M) (ha:H a=some w) (na:a ∉ lv α M++F) (t:Two kvs w) (t':Two kvs w'):OK K F α (upd H a w') M:=by
 refine⟨o.ml,o.nd,λ b hb=>⟨(o.fr b hb).1,?_⟩,λ b hb=>?_,λ k x hk=>?_,o.tb.upd (.inl ?_)⟩
 ·rw[aA λ z=>na (List.mem_append_right _ (by rw[← z];exact hb))]
  exact(o.fr b hb).2
 ·by_cases z:b=a
  ·rw[z,aP,t'.vis];exact λ z=>by cases z
  ·rw[aA z];exact o.al b hb
 ·obtain⟨b,e,r⟩:=o.own k x hk
  have nb:b≠a:=λ z=>na (List.mem_append_left _ (by rw[← z];exact mem_lv.mpr ⟨k,x,e,hk⟩))
  refine⟨b,e,?_⟩
  have al:Alt (hid F α M H) (hid F α M (upd H a w')):=rm ha t t'
  cases x with
  | lst ds=>obtain⟨vs,q,r⟩:=r;exact⟨vs,by rw[aA nb];exact q,Reps.alt al _ _ r⟩
  | dct ks ds=>obtain⟨vs,q,l,r⟩:=r;exact⟨vs,by rw[aA nb];exact q,l,Reps.alt al _ _ r⟩
  | ins C ns ds=>obtain⟨dx,vs,q,l,r⟩:=r;exact⟨dx,vs,by rw[aA nb];exact q,l,Reps.alt al _ _ r⟩
  | fz k ep ks ds=>obtain⟨g,vs,q,l,r⟩:=r;exact⟨g,vs,by rw[aA nb];exact q,l,Reps.alt al _ _ r⟩
 ·rw[ha,t.vis];exact λ z=>by cases z
theorem R.two {σ:L2.St}{δ:DSt} (r:R K F α H σ δ M) (ha:H a=some w) (na:a ∉ lv α M++F) (t:Two kvs w) (t':Two kvs w'):R K F α (upd H a w') σ δ M:=
 ⟨r.ok.two ha na t t',r.len,λ i d q=>by
  obtain⟨v,h1,h2⟩:=r.sl i d q
  exact⟨v,h1,Rep.alt (rm ha t t') d v h2⟩⟩
theorem Ext.thaw {α':List Addr}{H':Hp}{M':Ms}{ob:Obj} (ha:H a=some (.dK kvs)) (na:a ∉ lv α M++F) (e:Ext F α (upd H a (.frz ob (.dK kvs))) M α' H' M') :
  H' a=some (.frz ob (.dK kvs))∧a ∉ lv α' M'++F∧Ext F α H M α' (upd H' a (.dK kvs)) M':=by
 have g:=e.same a _ (dg na aP rfl)
 obtain⟨n2,g2⟩:=bG g
 refine⟨g2,n2,e.pre,λ b o q=>?_,λ b hb=>?_⟩
 ·obtain⟨n,q,v⟩:=jz q
  by_cases z:b=a
  ·subst z
   rw[ha] at q;cases q
   exact dg n2 aP rfl
  ·have:=e.same b o (dg n (by rw[aA z];exact q) v)
   obtain⟨n3,q3⟩:=bG this
   exact dg n3 (by rw[aA z];exact q3) v
 ·have nb:b≠a:=λ z=>na (List.mem_append_right _ (by rw[← z];exact hb))
  rw[aA nb,e.fr b hb,aA nb]
end
noncomputable def er (p:Addr) (H:Hp):Hp:=λ b=>if b=p then none else H b
structure Zed (X:Cx) (F α1:List Addr) (H1 Hf:Hp) (M1:Ms) (T:Hp→Hp):Prop where
 ok:OK X.K F α1 Hf M1
 rep:∀ d v,Rep X.K α1 (hid F α1 M1 H1) d v→Rep X.K α1 (hid F α1 M1 Hf) d v
 e:∀ α' H' M',Ext F α1 Hf M1 α' H' M'→OK X.K F α' H' M'→Ext F α1 H1 M1 α' (T H') M'∧OK X.K F α' (T H') M'∧∀ d v,Rep X.K α' (hid F α' M' H') d v→Rep X.K α' (hid F α' M' (T H')) d v
 h:∀ α' H' M' (P:Hp→Prop),Ext F α1 Hf M1 α' H' M'→P (T H')→TH X P H'
 c:∀ p H' x,Hf p=none→H' p=some x→upd (T (er p H')) p x=T H'
 n:∀ p H',Hf p=none→H' p=none→T H' p=none
 k:∀ α' H' M' b φ,Ext F α1 Hf M1 α' H' M'→H' b=some (.ext φ)→T H' b=some (.ext φ)
theorem Reps.imp {K:W.Frag}{α:List Addr}{H H':Hp} (f:∀ d v,Rep K α H d v→Rep K α H' d v):∀ (ds:List D) (vs:List V),Reps K α H ds vs→Reps K α H' ds vs
 | [],vs,h=>by unfold Reps at h ⊢;exact h
 | d::ds,vs,h=>by
  unfold Reps at h ⊢
  obtain⟨v,r,q,z,y⟩:=h
  exact⟨v,r,q,f d v z,Reps.imp f ds r y⟩
section
variable {X:Cx}{F α1:List Addr}{H1 Hf:Hp}{M1:Ms}{T:Hp→Hp}
theorem Zed.refl (o:OK X.K F α1 H1 M1):Zed X F α1 H1 H1 M1 id:=
 ⟨o,λ _ _ r=>r,λ _ _ _ e o=>⟨e,o,λ _ _ r=>r⟩,λ _ _ _ _ _ p=>.inl p,λ p H' x _ h=>by
  funext b
  show upd (er p H') p x b=H' b
  by_cases z:b=p
  ·rw[z,aP,h]
  ·rw[aA z];unfold er;rw[if_neg z],λ _ _ _ h=>h,λ _ _ _ _ _ _ h=>h⟩
theorem Zed.rs (z:Zed X F α1 H1 Hf M1 T) {σ:L2.St}{δ:DSt} (r:R X.K F α1 H1 σ δ M1):R X.K F α1 Hf σ δ M1:=⟨z.ok,r.len,λ i d q=>by
 obtain⟨v,h1,h2⟩:=r.sl i d q
 exact⟨v,h1,z.rep d v h2⟩⟩
theorem Zed.rt (z:Zed X F α1 H1 Hf M1 T) {α':List Addr}{H':Hp}{M':Ms}{σ':L2.St}{δ':DSt} (e:Ext F α1 Hf M1 α' H' M') (r':R X.K F α' H' σ' δ' M'):R X.K F α' (T H') σ' δ' M':=by
 obtain⟨_,h2,h3⟩:=z.e _ _ _ e r'.ok
 exact⟨h2,r'.len,λ i d q=>by
  obtain⟨v,q1,q2⟩:=r'.sl i d q
  exact⟨v,q1,h3 d v q2⟩⟩
theorem Zed.dict {a:Addr}{kvs:List (Key×V)}{ob:Obj} (o:OK X.K F α1 H1 M1) (ha:H1 a=some (.dK kvs)) (na:a ∉ lv α1 M1++F) (n4:∀ o u,X.H₀ a≠some (.frz o u)) :
  Zed X F α1 H1 (upd H1 a (.frz ob (.dK kvs))) M1 (λ H'=>upd H' a (.dK kvs)):=by
 have t:Two kvs (.dK kvs):=.inl rfl
 have t':Two kvs (.frz ob (.dK kvs)):=.inr ⟨ob,rfl⟩
 refine⟨o.two ha na t t',λ d v r=>Rep.alt (rm ha t t') d v r,λ α' H' M' e o=>?_,λ α' H' M' P e p=>?_,λ p H' x hp hx=>?_,λ p H' hp hn=>?_,λ α' H' M' b φ e h=>?_⟩
 ·obtain⟨g1,g2,g3⟩:=Ext.thaw ha na e
  exact⟨g3,o.two g1 g2 t' t,λ d v rr=>Rep.alt (rm g1 t' t) d v rr⟩
 ·obtain⟨g1,_,_⟩:=Ext.thaw ha na e
  exact .inr ⟨a,ob,_,g1,n4,p⟩
 ·have hpa:p≠a:=λ z=>by rw[z,aP] at hp;cases hp
  funext b
  by_cases z:b=p
  ·rw[z,aP,aA hpa];exact hx.symm
  ·rw[aA z]
   by_cases y:b=a
   ·rw[y,aP,aP]
   ·rw[aA y,aA y];unfold er;rw[if_neg z]
 ·rw[aA λ z=>by rw[z,aP] at hp;cases hp];exact hn
 ·obtain⟨g1,_,_⟩:=Ext.thaw ha na e
  rw[aA λ z=>by rw[z,g1] at h;cases h];exact h
end
end L3
namespace L3
open PySem PySem.Spec PyProof.Rows L2
noncomputable def X7 (K:W.Frag) (α:List Addr) (Hh:Hp):OD→HO→Prop
 | .lst ds,ho=>∃ vs,ho = .lst vs∧Reps K α Hh ds vs
 | .dct ks ds,ho=>∃ vs,ho = .dK (ks.zip vs)∧ks.length=ds.length∧Reps K α Hh ds vs
 | .ins _ _ _,_=>False
 | .fz _ _ _ _,_=>False
noncomputable def OD.toD:OD→D
 | .lst ds=>.lst ds
 | .dct ks ds=>.dct ks ds
 | .ins C ns ds=>.ins C ns ds
 | .fz k _ _ _=>.loc k
abbrev DF:=DSt→Ms→(OD→Ms→Prop)→Prop
abbrev fK (K:W.Frag) (F α:List Addr) (H:Hp) (M:Ms) (Q:VK):OD→Ms→Prop:=λ o M1=>∀ p ho α1 H1,Ext F α H M α1 H1 M1→OK K F α1 H1 M1→H1 p=none→X7 K α1 (hid F α1 M1 H1) o ho→Q (.ref p) (upd H1 p ho)
noncomputable def lF (K:W.Frag) (t:DF):TE:=λ σ H Q=>∃ F α δ M,R K F α H σ δ M∧t δ M (fK K F α H M Q)
structure JF (X:Cx) (e:Expr) (t:DF):Prop where
 mono:∀ δ M (P Q:OD→Ms→Prop),(∀ d M,P d M→Q d M)→t δ M P→t δ M Q
 p:PE X e (lF X.K t)
section
variable {K:W.Frag}{F α α':List Addr}{H H':Hp}{M M':Ms}
theorem fK.grow {Q:VK} (e:Ext F α H M α' H' M'):∀ d M'',fK K F α H M Q d M''→fK K F α' H' M' Q d M'':=λ d M'' h p ho α2 H2 e2 o2 hp r2=>h p ho α2 H2 (e.trans e2) o2 hp r2
theorem fK.frz {Q:VK}{o:OD}{M1:Ms} (h:vK K F α H M Q o.toD M1):fK K F α H M Q o M1:=by
 intro p ho α1 H1 e1 o1 hp rh
 have q:vK K F α1 H1 M1 Q o.toD M1:=vK.grow e1 _ _ h
 refine vK.new o1 hp q λ e=>?_
 cases o with
 | lst ds=>obtain⟨vs,rfl,r⟩:=rh;exact fW o1 hp r e
 | dct ks ds=>
  obtain⟨vs,rfl,l,r⟩:=rh
  show Rep K _ _ (.dct ks ds) _
  unfold Rep
  exact⟨p,vs,rfl,.inl (by show hide _ _ p=_;rw[cG (o1.new hp),aP]),l,e.reps r⟩
 | ins C ns ds=>exact rh.elim
 | fz k ep ks ds=>exact rh.elim
theorem fK.own {Q:VK}{o:OD}{M1:Ms} (h:vK K F α H M Q (.loc M1.length) (M1++[some o])):fK K F α H M Q o M1:=by
 intro p ho α1 H1 e1 o1 hp rh
 have sm:=o1.enter_same (x:=o) hp (oG (o:=ho) hp)
 obtain⟨o2,e2⟩:=o1.enter (x:=o) (H':=upd H1 p ho) hp (oG hp) (by
  cases o with
  | lst ds=>obtain⟨vs,rfl,r⟩:=rh;exact⟨vs,aP,Reps.mono (List.prefix_append _ _) sm _ _ r⟩
  | dct ks ds=>obtain⟨vs,rfl,l,r⟩:=rh;exact⟨vs,aP,l,Reps.mono (List.prefix_append _ _) sm _ _ r⟩
  | ins C ns ds=>exact rh.elim
  | fz k ep ks ds=>exact rh.elim)
 refine h _ _ _ (e1.trans e2) o2 ?_
 unfold Rep
 exact⟨p,by rw[← o1.ml];simp,rfl⟩
end
section
variable {X:Cx}{a b c e:Expr}{es rest:List Expr}{ta tb tc te:DE}{tA G5:DT}{tt:DA}{pos p p2 p3:Pos}{x:Str}{tf:DF}
noncomputable def dNew (t:DF):DE:=λ δ M Q=>t δ M λ o M1=>Q o.toD M1
noncomputable def Ie (t:DF):DE:=λ δ M Q=>t δ M λ o M1=>Q (.loc M1.length) (M1++[some o])
theorem dU (h:JF X e tf):JE X e (dNew tf):=⟨λ δ M P Q w q=>h.mono δ _ _ _ (λ o M1 q=>w _ _ q) q,PE.weak h.p λ σ H Q ⟨F,α,δ,M,r,q⟩=>⟨F,α,δ,M,r,h.mono δ _ _ _ (λ o M1 q=>fK.frz q) q⟩⟩
theorem DN (h:JF X e tf):JE X e (Ie tf):=⟨λ δ M P Q w q=>h.mono δ _ _ _ (λ o M1 q=>w _ _ q) q,PE.weak h.p λ σ H Q ⟨F,α,δ,M,r,q⟩=>⟨F,α,δ,M,r,h.mono δ _ _ _ (λ o M1 q=>fK.own q) q⟩⟩
noncomputable def kI (tt:DA):DF:=λ δ M Q=>tt δ M λ ds M1=>ds.length≤sizeLine∧Q (.lst ds) M1
theorem dR (h:JA X es tt):JF X (.List es pos) (kI tt):=by
 refine⟨λ δ M P Q w q=>h.mono δ _ _ _ (λ ds M1 q=>⟨q.1,w _ _ q.2⟩) q,PE.weak (Q6 h.p) λ σ H Q q=>?_⟩
 obtain⟨F,α,δ,M,r,q⟩:=q
 refine⟨F,α,δ,M,r,h.mono δ _ _ _ (λ ds M1 q vs α1 H1 e1 o1 r1=>?_) q⟩
 exact⟨by rw[← Reps.length ds vs r1];exact q.1,λ p hp=>q.2 p _ α1 H1 e1 o1 hp ⟨vs,rfl,r1⟩⟩
end
structure DEnds where
 nx:DSt→Ms→Prop
 rt:DK
 bk:DSt→Ms→Prop
 ct:DSt→Ms→Prop
abbrev DS:=DEnds→DSt→Ms→Prop
structure DEnds.le (P Q:DEnds):Prop where
 nx:∀ δ M,P.nx δ M→Q.nx δ M
 rt:∀ d M,P.rt d M→Q.rt d M
 bk:∀ δ M,P.bk δ M→Q.bk δ M
 ct:∀ δ M,P.ct δ M→Q.ct δ M
theorem DEnds.le.refl (P:DEnds):P.le P:=⟨λ _ _ h=>h,λ _ _ h=>h,λ _ _ h=>h,λ _ _ h=>h⟩
abbrev sK (K:W.Frag) (F α:List Addr) (H:Hp) (M:Ms) (Q:L2.St→Hp→Prop):DSt→Ms→Prop:=λ δ' M'=>∀ σ' α' H',Ext F α H M α' H' M'→R K F α' H' σ' δ' M'→Q σ' H'
noncomputable def lEnds (K:W.Frag) (F α:List Addr) (H:Hp) (M:Ms) (E:Ends):DEnds:=⟨sK K F α H M E.nx,vK K F α H M E.rt,sK K F α H M E.bk,sK K F α H M E.ct⟩
noncomputable def lS (K:W.Frag) (t:DS):TS:=λ E σ H=>∃ F α δ M,R K F α H σ δ M∧t (lEnds K F α H M E) δ M
section
variable {K:W.Frag}{F α α':List Addr}{H H':Hp}{M M':Ms}
theorem sK.grow {Q:L2.St→Hp→Prop} (e:Ext F α H M α' H' M'):∀ d M'',sK K F α H M Q d M''→sK K F α' H' M' Q d M'':=λ d M'' h v α2 H2 e2 o2=>h v α2 H2 (e.trans e2) o2
theorem lEnds.grow {E:Ends} (e:Ext F α H M α' H' M'):(lEnds K F α H M E).le (lEnds K F α' H' M' E):=⟨sK.grow e,vK.grow e,sK.grow e,sK.grow e⟩
end
structure JS (X:Cx) (st:Stmt) (t:DS):Prop where
 mono:∀ (P Q:DEnds) δ M,P.le Q→t P δ M→t Q δ M
 p:PS X st (lS X.K t)
structure JB' (X:Cx) (st:List Stmt) (t:DS):Prop where
 mono:∀ (P Q:DEnds) δ M,P.le Q→t P δ M→t Q δ M
 p:PSs X st (lS X.K t)
section
variable {X:Cx}{c e:Expr}{te:DE}{tA:DT}{t u:DS}{pos p p2:Pos}{x:Str}{st:Stmt}{sts as bs:List Stmt}
noncomputable def aW:DS:=λ E δ M=>E.nx δ M
noncomputable def aY (t u:DS):DS:=λ E δ M=>t { E with nx:=u E } δ M
theorem bw:JB' X [] aW:=⟨λ P Q δ M w q=>w.nx _ _ q,PSs.weak Dj λ E σ H ⟨F,α,δ,M,r,q⟩=>q σ α H Ext.refl r⟩
theorem aD (h:JS X st t):JB' X [st] t:=⟨h.mono,Dk h.p⟩
theorem aH (h1:JS X st t) (h2:JB' X sts u):JB' X (st::sts) (aY t u):=by
 refine⟨λ P Q δ M w q=>h1.mono { P with nx:=u P } { Q with nx:=u Q } _ _ ⟨λ δ M q=>h2.mono _ _ _ _ w q,w.rt,w.bk,w.ct⟩ q,PSs.weak (ou h1.p h2.p) λ E σ H q=>?_⟩
 obtain⟨F,α,δ,M,r,q⟩:=q
 refine⟨F,α,δ,M,r,h1.mono { lEnds X.K F α H M E with nx:=u (lEnds X.K F α H M E) } _ _ _ ⟨λ δ1 M1 q σ1 α1 H1 e1 r1=>⟨F,α1,δ1,M1,r1,h2.mono _ _ _ _ (lEnds.grow e1) q⟩,λ _ _ q=>q,λ _ _ q=>q,λ _ _ q=>q⟩ q⟩
noncomputable def bh (te:DE):DS:=λ E δ M=>te δ M E.rt
theorem aU (he:JE X e te):JS X (.Return (some e) pos) (bh te):=⟨λ P Q δ M w q=>he.mono δ _ _ _ w.rt q,PS.weak (G7 he.p) λ E σ H ⟨F,α,δ,M,r,q⟩=>⟨F,α,δ,M,r,q⟩⟩
noncomputable def Vv:DS:=λ E δ M=>E.rt .non M
noncomputable def bC (c:DT) (t u:DS):DS:=λ E δ M=>c δ M λ b M1=>if b=true then t E δ M1 else u E δ M1
theorem bU (hc:JT X c tA) (ha:JB' X as t) (hb:JB' X bs u):JS X (.If c as bs pos) (bC tA t u):=by
 refine⟨λ P Q δ M w q=>hc.mono δ _ _ _ (λ b M1 q=>?_) q,PS.weak (Oh hc.p ha.p hb.p) λ E σ H q=>?_⟩
 ·cases b with
  | true=>rw[if_pos rfl] at q ⊢;exact ha.mono _ _ _ _ w q
  | false=>rw[if_neg Bool.false_ne_true] at q ⊢;exact hb.mono _ _ _ _ w q
 ·obtain⟨F,α,δ,M,r,q⟩:=q
  refine⟨F,α,δ,M,r,hc.mono δ _ _ _ (λ b M1 q α1 H1 e1 o1=>?_) q⟩
  cases b with
  | true=>
   rw[if_pos rfl] at q
   show (if true=true then _ else _)
   rw[if_pos rfl]
   exact⟨F,α1,δ,M1,r.grow e1 o1,ha.mono _ _ _ _ (lEnds.grow e1) q⟩
  | false=>
   rw[if_neg Bool.false_ne_true] at q
   show (if false=true then _ else _)
   rw[if_neg Bool.false_ne_true]
   exact⟨F,α1,δ,M1,r.grow e1 o1,hb.mono _ _ _ _ (lEnds.grow e1) q⟩
noncomputable def iT (te:DE):DS:=λ E δ M=>te δ M λ _ M1=>E.nx δ M1
theorem mC (he:JE X e te) (hs:swapsWith e none pos.line X.env=pure false:=by rfl):JS X (.Expr e pos) (iT te):=by
 refine⟨λ P Q δ M w q=>he.mono δ _ _ _ (λ d M1 q=>w.nx _ _ q) q,PS.weak (Dl he.p hs) λ E σ H q=>?_⟩
 obtain⟨F,α,δ,M,r,q⟩:=q
 exact⟨F,α,δ,M,r,he.mono δ _ _ _ (λ d M1 q v α1 H1 e1 o1 r1=>q σ α1 H1 e1 (r.grow e1 o1)) q⟩
noncomputable def bW (i:Nat) (te:DE):DS:=λ E δ M=>te δ M λ d M1=>E.nx (δ.set i (some d)) M1
theorem bH (i:Nat) (hN:X.N.Nodup) (he:JE X e te) (hi:X.N[i]? = some x:=by rfl) (hx:Loc X.env.scope x:=by first | exact Or.inl rfl | exact Or.inr rfl) (hs:swapsWith e (some (.Name x p)) pos.line X.env=pure false:=by rfl)
  (hf:X.fn x=true∨X.env.scope.names.lookup x=some .local:=by first | exact .inl rfl | exact .inr rfl | assumption):JS X (.Assign [.Name x p] e pos) (bW i te):=by
 refine⟨λ P Q δ M w q=>he.mono δ _ _ _ (λ d M1 q=>w.nx _ _ q) q,PS.weak (G9 hN hi hx he.p hs hf) λ E σ H q=>?_⟩
 obtain⟨F,α,δ,M,r,q⟩:=q
 exact⟨F,α,δ,M,r,he.mono δ _ _ _ (λ d M1 q v α1 H1 e1 o1 r1=>q _ α1 H1 e1 ((r.grow e1 o1).set r1)) q⟩
abbrev DG:=D→DSt→Ms→(DSt→Ms→Prop)→Prop
abbrev DGs:=List D→DSt→Ms→(DSt→Ms→Prop)→Prop
noncomputable def lG (K:W.Frag) (g:DG):TG:=λ v σ H Q=>∃ F α δ M d,R K F α H σ δ M∧Rep K α (hid F α M H) d v∧g d δ M (sK K F α H M Q)
noncomputable def lGs (K:W.Frag) (g:DGs):TGs:=λ vs σ H Q=>∃ F α δ M ds,R K F α H σ δ M∧Reps K α (hid F α M H) ds vs∧g ds δ M (sK K F α H M Q)
structure JG (X:Cx) (tg:Expr) (g:DG):Prop where
 mono:∀ d δ M (P Q:DSt→Ms→Prop),(∀ δ M,P δ M→Q δ M)→g d δ M P→g d δ M Q
 p:PG X tg (lG X.K g)
structure JGs (X:Cx) (tg:List Expr) (g:DGs):Prop where
 mono:∀ d δ M (P Q:DSt→Ms→Prop),(∀ δ M,P δ M→Q δ M)→g d δ M P→g d δ M Q
 p:PGs X tg (lGs X.K g)
theorem PG.weak {tg:Expr}{g g':TG} (h:PG X tg g) (w:∀ v σ H Q,g' v σ H Q→g v σ H Q):PG X tg g':=λ pins s σ H v u Q I r q=>h pins s σ H v u Q I r (w v σ H Q q)
theorem PGs.weak {tg:List Expr}{g g':TGs} (h:PGs X tg g) (w:∀ v σ H Q,g' v σ H Q→g v σ H Q):PGs X tg g':=λ pins s σ H v u Q I r q=>h pins s σ H v u Q I r (w v σ H Q q)
noncomputable def aM (i:Nat):DG:=λ d δ M Q=>Q (δ.set i (some d)) M
theorem aV (i:Nat) (hN:X.N.Nodup) (hi:X.N[i]? = some x:=by rfl) (hx:Loc X.env.scope x:=by first | exact Or.inl rfl | exact Or.inr rfl) (hf:X.fn x=true∨X.env.scope.names.lookup x=some .local:=by first | exact .inl rfl | exact .inr rfl | assumption):JG X (.Name x pos) (aM i):=
 ⟨λ d δ M P Q w q=>w _ _ q,PG.weak (K4 hN hi hx hf) λ v σ H Q ⟨F,α,δ,M,d,r,rd,q⟩=>q _ α H Ext.refl (r.set rd)⟩
noncomputable def kj:DGs:=λ ds δ M Q=>ds=[]∧Q δ M
noncomputable def bI (g:DG) (gs:DGs):DGs:=λ ds δ M Q=>match ds with | d::r=>g d δ M λ δ1 M1=>gs r δ1 M1 Q | []=>False
theorem iU:JGs X [] kj:=⟨λ d δ M P Q w q=>⟨q.1,w _ _ q.2⟩,PGs.weak K5 λ v σ H Q ⟨F,α,δ,M,ds,r,rd,e,q⟩=>by
 subst e;unfold Reps at rd;exact⟨rd,q σ α H Ext.refl r⟩⟩
theorem bf {g:DG}{gs:DGs}{es:List Expr} (h1:JG X e g) (h2:JGs X es gs) (hs:(assignEach (e::es) X.env).map (·.2)=assign e X.env::(assignEach es X.env).map (·.2):=by rfl):JGs X (e::es) (bI g gs):=by
 refine⟨λ d δ M P Q w q=>?_,PGs.weak (G8 h1.p h2.p hs) λ v σ H Q q=>?_⟩
 ·cases d with
  | nil=>exact q.elim
  | cons d r=>exact h1.mono _ _ _ _ _ (λ δ M q=>h2.mono _ _ _ _ _ w q) q
 ·obtain⟨F,α,δ,M,ds,r,rd,q⟩:=q
  cases ds with
  | nil=>exact q.elim
  | cons d dr=>
   unfold Reps at rd
   obtain⟨v1,vr,rfl,r1,r2⟩:=rd
   refine⟨v1,vr,rfl,F,α,δ,M,d,r,r1,h1.mono _ _ _ _ _ (λ δ1 M1 q σ1 α1 H1 e1 R1=>?_) q⟩
   exact⟨F,α1,δ1,M1,dr,R1,e1.reps r2,h2.mono _ _ _ _ _ (sK.grow e1) q⟩
noncomputable def kE (n:Nat) (gs:DGs):DG:=λ d δ M Q=>match d with | .tup ds=>ds.length=n∧gs ds δ M Q | _=>False
theorem lu {es:List Expr}{k n:Nat}{gs:DGs} (h:JGs X es gs) (hc:X.calm=true:=by rfl) (hn:(assignEach es X.env).length=n:=by rfl) (hst:(assignEach es X.env).findIdx? (·.1)=none:=by rfl):JG X (.Tuple es k pos) (kE n gs):=by
 refine⟨λ d δ M P Q w q=>?_,PG.weak (Qz hc h.p hn hst) λ v σ H Q q=>?_⟩
 ·cases d <;> first | exact q.elim | exact⟨q.1,h.mono _ _ _ _ _ w q.2⟩
 ·obtain⟨F,α,δ,M,d,r,rd,q⟩:=q
  cases d <;> first | exact q.elim | skip
  unfold Rep at rd
  obtain⟨a,vs,rfl,sq,z⟩:=rd
  exact⟨a,vs,rfl,mz bM sq,by rw[← Reps.length _ _ z];exact q.1,F,α,δ,M,_,r,z,q.2⟩
noncomputable def ur (te:DE) (g:DG):DS:=λ E δ M=>te δ M λ d M1=>g d δ M1 E.nx
theorem nD {tg:Expr}{g:DG} (he:JE X e te) (hg:JG X tg g) (hs:swapsWithSole [tg] e pos.line X.env=pure false:=by rfl) (hw:swappedStores [tg] e X.env=pure none:=by rfl)
  (h1:(assignEach [tg] X.env).map (·.2)=[assign tg X.env]:=by rfl):JS X (.Assign [tg] e pos) (ur te g):=by
 refine⟨λ P Q δ M w q=>he.mono δ _ _ _ (λ d M1 q=>hg.mono _ _ _ _ _ w.nx q) q,PS.weak (QD he.p hg.p hs hw h1) λ E σ H q=>?_⟩
 obtain⟨F,α,δ,M,r,q⟩:=q
 refine⟨F,α,δ,M,r,he.mono δ _ _ _ (λ d M1 q v α1 H1 e1 o1 r1=>?_) q⟩
 exact⟨F,α1,δ,M1,d,r.grow e1 o1,r1,hg.mono _ _ _ _ _ (sK.grow e1) q⟩
structure ItOK (K:W.Frag) (F α1:List Addr) (H1:Hp) (M1:Ms) (J:It) (items:List D) (st:Ms→Prop):Prop where
 go:∀ i F' α' H' M',α1 <+: α'→Same (hid F α1 M1 H1) (hid F' α' M' H')→OK K F' α' H' M'→st M'→i < items.length→J.go i H'
 yld:∀ (i:Nat) F' α' H' M' x H2 d,α1 <+: α'→Same (hid F α1 M1 H1) (hid F' α' M' H')→OK K F' α' H' M'→st M'→items[i]? = some d→J.yld i H' x H2→OK K F' α' H2 M'∧Ext F' α' H' M' α' H2 M'∧Rep K α' (hid F' α' M' H2) d x
 stop:∀ F' α' H' M',α1 <+: α'→Same (hid F α1 M1 H1) (hid F' α' M' H')→OK K F' α' H' M'→st M'→J.stop items.length H'
abbrev DI:=DSt→Ms→(List D→(Ms→Prop)→Ms→Prop)→Prop
abbrev iK (X:Cx) (F α:List Addr) (H:Hp) (M:Ms) (Q:It→Hp→Prop):List D→(Ms→Prop)→Ms→Prop:=λ items st M1=>∀ J α1 H1 Hf T,Ext F α H M α1 H1 M1→OK X.K F α1 H1 M1→Zed X F α1 H1 Hf M1 T→ItOK X.K F α1 Hf M1 J items st→Q J Hf
noncomputable def lI (X:Cx) (t:DI):TI:=λ σ H Q=>∃ F α δ M,R X.K F α H σ δ M∧t δ M (iK X F α H M Q)
structure JI (X:Cx) (tg e:Expr) (t:DI):Prop where
 mono:∀ δ M (P Q:List D→(Ms→Prop)→Ms→Prop),(∀ l s M,P l s M→Q l s M)→t δ M P→t δ M Q
 p:PI X tg e (lI X t)
theorem PI.weak {tg:Expr}{t t':TI} (h:PI X tg e t) (w:∀ σ H Q,t' σ H Q→t σ H Q):PI X tg e t':=λ pins s σ H Q I q=>h pins s σ H Q I (w σ H Q q)
noncomputable def fj (g:DG) (tb:DS) (st:Ms→Prop) (E:DEnds):List D→DSt→Ms→Prop
 | []=>λ δ M=>E.nx δ M
 | x::xs=>λ δ M=>g x δ M λ δ1 M1=>tb { E with nx:=λ δ' M'=>st M'∧fj g tb st E xs δ' M',ct:=λ δ' M'=>st M'∧fj g tb st E xs δ' M',bk:=E.nx } δ1 M1
noncomputable def lB (ti:DI) (g:DG) (tb:DS):DS:=λ E δ M=>ti δ M λ items st M1=>st M1∧fj g tb st E items δ M1
theorem pP {g:DG}{tb:DS}{st:Ms→Prop} (hg:∀ d δ M (P Q:DSt→Ms→Prop),(∀ δ M,P δ M→Q δ M)→g d δ M P→g d δ M Q) (hb:∀ (P Q:DEnds) δ M,P.le Q→tb P δ M→tb Q δ M) {P Q:DEnds} (w:P.le Q):∀ xs δ M,fj g tb st P xs δ M→fj g tb st Q xs δ M
 | [],δ,M,q=>w.nx _ _ q
 | x::xs,δ,M,q=>hg _ _ _ _ _ (λ δ1 M1 q=>hb { P with nx:=λ δ' M'=>st M'∧fj g tb st P xs δ' M',ct:=λ δ' M'=>st M'∧fj g tb st P xs δ' M',bk:=P.nx } { Q with nx:=λ δ' M'=>st M'∧fj g tb st Q xs δ' M',ct:=λ δ' M'=>st M'∧fj g tb st Q xs δ' M',bk:=Q.nx } _ _ ⟨λ δ' M' q=>⟨q.1,pP hg hb w xs δ' M' q.2⟩,w.rt,w.nx,λ δ' M' q=>⟨q.1,pP hg hb w xs δ' M' q.2⟩⟩ q) q
theorem dX {tg:Expr}{body:List Stmt}{ti:DI}{g:DG}{tb:DS} (hi:JI X tg e ti) (hg:JG X tg g) (hb:JB' X body tb) (hp:PassesOwn (model X.prog X.w) X.A X.env X.xe:=by exact PassesOwn.never) (hc:X.calm=true:=by rfl)
  (hs:∀ x,foldedSetIterable e X.env x=pure x:=by intro _;rfl):JS X (.For tg e body [] pos) (lB ti g tb):=by
 refine⟨λ P Q δ M w q=>hi.mono δ _ _ _ (λ items st M1 q=>⟨q.1,pP hg.mono hb.mono w _ _ _ q.2⟩) q,HW (QH hp hc hi.p hg.p hb.p hs) λ E σ H q=>?_⟩
 obtain⟨F,α,δ,M,r,q⟩:=q
 refine⟨F,α,δ,M,r,hi.mono δ _ _ _ (λ items st M1 q J α1 H1 Hf T e1 o1 z it=>?_) q⟩
 obtain⟨s1,q⟩:=q
 refine⟨λ i m σ' H'=>m=items.length - i∧i≤items.length∧∃ α' δ' M',Ext F α1 Hf M1 α' H' M'∧R X.K F α' H' σ' δ' M'∧st M'∧fj g tb st (lEnds X.K F α H M E) (items.drop i) δ' M',⟨_,rfl,Nat.zero_le _,α1,δ,M1,Ext.refl,z.rs (r.grow e1 o1),s1,q⟩,?_⟩
 rintro i m σ' H' ⟨rfl,hi',α',δ',M',e',r',s',q'⟩
 by_cases hlt:i < items.length
 ·rw[List.drop_eq_getElem_cons hlt] at q'
  refine .inr ⟨it.go i F α' H' M' e'.pre e'.same r'.ok s' hlt,λ σ2 H2=>∃ α2 δ2 M2,Ext F α1 Hf M1 α2 H2 M2∧R X.K F α2 H2 σ2 δ2 M2∧st M2∧fj g tb st (lEnds X.K F α H M E) (items.drop (i+1)) δ2 M2,λ σ2 H2 h=>⟨_,by omega,rfl,hlt,h⟩,λ x H2 y=>?_⟩
  obtain⟨o2,e2,rx⟩:=it.yld i F α' H' M' x H2 items[i] e'.pre e'.same r'.ok s' (by simp[hlt]) y
  refine⟨F,α',δ',M',items[i],r'.grow e2 o2,rx,hg.mono _ _ _ _ _ (λ δ3 M3 q3 σ3 α3 H3 e3 r3=>⟨F,α3,δ3,M3,r3,hb.mono _ _ _ _ ?_ q3⟩) q'⟩
  have e13:=(e'.trans e2).trans e3
  refine⟨λ δ4 M4 q4 σ4 α4 H4 e4 r4=>⟨α4,δ4,M4,e13.trans e4,r4,q4⟩,λ d M4 q4 v α4 H4 e4 o4 r4=>?_,λ δ4 M4 q4 σ4 α4 H4 e4 r4=>?_,λ δ4 M4 q4 σ4 α4 H4 e4 r4=>⟨α4,δ4,M4,e13.trans e4,r4,q4⟩⟩
  ·obtain⟨t1,t2,t3⟩:=z.e α4 H4 M4 (e13.trans e4) o4
   exact z.h α4 H4 M4 _ (e13.trans e4) (q4 v α4 (T H4) (e1.trans t1) t2 (t3 d v r4))
  ·obtain⟨t1,_,_⟩:=z.e α4 H4 M4 (e13.trans e4) r4.ok
   exact z.h α4 H4 M4 _ (e13.trans e4) (q4 σ4 α4 (T H4) (e1.trans t1) (z.rt (e13.trans e4) r4))
 ·have e:i=items.length:=by omega
  subst e
  rw[List.drop_length] at q'
  obtain⟨t1,_,_⟩:=z.e α' H' M' e' r'.ok
  exact .inl ⟨it.stop F α' H' M' e'.pre e'.same r'.ok s',z.h α' H' M' _ e' (q' σ' α' (T H') (e1.trans t1) (z.rt e' r'))⟩
end
end L3
namespace L3
open PySem PySem.Spec PyProof.Rows L2
mutual
noncomputable def nl:D→Bool
 | .non | .bl _ | .int _ | .str _ | .ty _ | .scr _ | .cls _=>true
 | .loc _=>false
 | .tup ds | .lst ds | .dct _ ds | .ins _ _ ds | .exc _ _ ds=>nls ds
noncomputable def nls:List D→Bool
 | []=>true
 | d::ds=>nl d&&nls ds
end
mutual
theorem Rep.nl {K:W.Frag}{α β:List Addr}{H:Hp}:∀ (d:D) (v:V),L3.nl d=true→Rep K α H d v→Rep K β H d v
 | .non,v,_,h=>by unfold Rep at h ⊢;exact h
 | .bl _,v,_,h=>by unfold Rep at h ⊢;exact h
 | .int _,v,_,h=>by unfold Rep at h ⊢;exact h
 | .str _,v,_,h=>by unfold Rep at h ⊢;exact h
 | .ty _,v,_,h=>by unfold Rep at h ⊢;exact h
 | .scr _,v,_,h=>by unfold Rep at h ⊢;exact h
 | .cls _,v,_,h=>by unfold Rep at h ⊢;exact h
 | .loc _,v,n,h=>by unfold L3.nl at n;cases n
 | .tup ds,v,n,h=>by
  unfold Rep at h ⊢;unfold L3.nl at n
  obtain⟨a,vs,r,q,z⟩:=h
  exact⟨a,vs,r,q,Reps.nl ds vs n z⟩
 | .lst ds,v,n,h=>by
  unfold Rep at h ⊢;unfold L3.nl at n
  obtain⟨a,vs,r,q,z⟩:=h
  exact⟨a,vs,r,q,Reps.nl ds vs n z⟩
 | .dct ks ds,v,n,h=>by
  unfold Rep at h ⊢;unfold L3.nl at n
  obtain⟨a,vs,r,q,l,z⟩:=h
  exact⟨a,vs,r,q,l,Reps.nl ds vs n z⟩
 | .ins C ns ds,v,n,h=>by
  unfold Rep at h ⊢;unfold L3.nl at n
  obtain⟨a,dx,vs,r,q,l,z⟩:=h
  exact⟨a,dx,vs,r,q,l,Reps.nl ds vs n z⟩
 | .exc C ns ds,v,n,h=>by
  unfold Rep at h ⊢;unfold L3.nl at n
  obtain⟨a,vs,r,q,l,z⟩:=h
  exact⟨a,vs,r,q,l,Reps.nl ds vs n z⟩
theorem Reps.nl {K:W.Frag}{α β:List Addr}{H:Hp}:∀ (d:List D) (v:List V),L3.nls d=true→Reps K α H d v→Reps K β H d v
 | [],v,_,h=>by unfold Reps at h ⊢;exact h
 | d::ds,v,n,h=>by
  unfold Reps at h ⊢
  unfold L3.nls at n
  rw[Bool.and_eq_true] at n
  obtain⟨u,r,q,z,y⟩:=h
  exact⟨u,r,q,Rep.nl d u n.1 z,Reps.nl ds r n.2 y⟩
end
theorem wC:∀ ds:List D,nls ds=ds.all nl
 | []=>rfl
 | d::ds=>by unfold nls;rw[List.all_cons,wC ds]
theorem rZ (ds es:List D):nls (ds++es)=(nls ds&&nls es):=by simp[wC]
theorem LK {β:Type}{f:β→D} (h:∀ b,nl (f b)=true) (l:List β):nls (l.map f)=true:=by rw[wC];simp[h]
noncomputable def W8 (k:Nat):Option (Option OD)→D
 | some (some o)=>o.toD
 | _=>.loc k
noncomputable def vw (M:Ms):D→D
 | .loc k=>W8 k M[k]?
 | d=>d
noncomputable def fz (M:Ms):D→D
 | .tup ds=>.tup (ds.map (vw M))
 | d=>vw M d
section
variable {K:W.Frag}{F α:List Addr}{H:Hp}{M:Ms}
theorem jJ:Same (hid F α M H) (hide F H):=λ b o e=>by
 obtain⟨z,q⟩:=bG e
 exact dO e (λ w=>z (List.mem_append_right _ w)) q
theorem OK.notF (o:OK K F α H M) {a:Addr} (h:a∈α):a ∉ F:=λ w=>(o.fr a w).1 h
theorem wD (o:OK K F α H M):∀ (d:D) (v:V),Rep K α (hid F α M H) d v→Rep K α (hide F H) (vw M d) v:=λ d v h=>by
 have gen:Rep K α (hide F H) d v:=Rep.mono (List.prefix_refl _) jJ d v h
 cases d with
 | loc k=>
  show Rep K α _ (W8 k M[k]?) v
  cases e:M[k]? with
  | none=>exact gen
  | some x=>
   cases x with
   | none=>exact gen
   | some y=>
    obtain⟨a,ea,ra⟩:=o.own k y e
    unfold Rep at h
    obtain⟨a',yS,rfl⟩:=h
    rw[ea] at yS;cases yS
    have hF:a ∉ F:=o.notF (List.mem_of_getElem? ea)
    cases y with
    | lst ds=>
     obtain⟨vs,q,r⟩:=ra
     show Rep K α _ (.lst ds) _
     unfold Rep
     exact⟨a,vs,rfl,dg hF q rfl,Reps.mono (List.prefix_refl _) jJ _ _ r⟩
    | dct ks ds=>
     obtain⟨vs,q,l,r⟩:=ra
     show Rep K α _ (.dct ks ds) _
     unfold Rep
     exact⟨a,vs,rfl,.inl (dg hF q rfl),l,Reps.mono (List.prefix_refl _) jJ _ _ r⟩
    | ins C ns ds=>
     obtain⟨dx,vs,q,l,r⟩:=ra
     show Rep K α _ (.ins C ns ds) _
     unfold Rep
     exact⟨a,dx,vs,rfl,dg hF q rfl,l,Reps.mono (List.prefix_refl _) jJ _ _ r⟩
    | fz j ep ks ds=>
     show Rep K α _ (.loc j) _
     unfold Rep
     exact⟨a,ra.1,rfl⟩
 | _=>exact gen
theorem gj {k:Nat}{d:D} (e:vw M (.loc k)=d):d = .loc k∨∃ o,M[k]? = some (some o)∧d=o.toD:=by
 have e:W8 k M[k]? = d:=e
 cases h:M[k]? with
 | none=>rw[h] at e;exact .inl e.symm
 | some x=>
  cases x with
  | none=>rw[h] at e;exact .inl e.symm
  | some o=>rw[h] at e;exact .inr ⟨o,rfl,e.symm⟩
theorem DP (o:OK K F α H M):∀ (ds:List D) (vs:List V),Reps K α (hid F α M H) ds vs→Reps K α (hide F H) (ds.map (vw M)) vs
 | [],vs,h=>by unfold Reps at h;subst h;exact Reps.nil
 | d::ds,vs,h=>by
  unfold Reps at h
  obtain⟨v,r,rfl,z,y⟩:=h
  exact Reps.cons (wD o d v z) (DP o ds r y)
theorem Ig (o:OK K F α H M):∀ (d:D) (v:V),Rep K α (hid F α M H) d v→Rep K α (hide F H) (fz M d) v:=λ d v h=>by
 cases d with
 | tup ds=>
  unfold Rep at h
  obtain⟨a,vs,rfl,sq,z⟩:=h
  show Rep K α _ (.tup _) _
  unfold Rep
  exact⟨a,vs,rfl,mz jJ sq,DP o _ _ z⟩
 | _=>exact wD o _ v h
theorem dY (o:OK K F α H M) {d:D}{v:V}{ds:List D} (h:Rep K α (hid F α M H) d v) (e:vw M d = .lst ds):∃ a vs,v = .ref a∧H a=some (.lst vs)∧Reps K α (hid F α M H) ds vs:=by
 cases d with
 | lst es=>
  cases (show (D.lst es) = .lst ds from e)
  unfold Rep at h
  obtain⟨a,vs,rfl,q,z⟩:=h
  exact⟨a,vs,rfl,bM _ _ q,z⟩
 | loc k=>
  rcases gj e with e | ⟨x,hk,e⟩
  ·cases e
  ·cases x <;> cases e
   obtain⟨a,ea,vs,q,r⟩:=o.own k _ hk
   unfold Rep at h
   obtain⟨a',yS,rfl⟩:=h
   rw[ea] at yS;cases yS
   exact⟨a,vs,rfl,q,r⟩
 | _=>cases e
theorem _root_.L2.DGet.kr {H:Hp}{a:Addr}{kvs:List (Key×V)}{k:Key} (e:Rd H a (.dK kvs)):DGet H a (kV k) (nq kvs k):=.inl ⟨kvs,k,e,rfl,rfl⟩
theorem nF (o:OK K F α H M) {d:D}{v:V}{ks:List Key}{ds:List D} (h:Rep K α (hid F α M H) d v) (e:vw M d = .dct ks ds):∃ a vs,v = .ref a∧Rd H a (.dK (ks.zip vs))∧ks.length=ds.length∧Reps K α (hid F α M H) ds vs:=by
 cases d with
 | dct ls es=>
  cases (show (D.dct ls es) = .dct ks ds from e)
  unfold Rep at h
  obtain⟨a,vs,rfl,q,l,z⟩:=h
  exact⟨a,vs,rfl,Dv bM q,l,z⟩
 | loc k=>
  rcases gj e with e | ⟨x,hk,e⟩
  ·cases e
  ·cases x <;> cases e
   obtain⟨a,ea,vs,q,l,r⟩:=o.own k _ hk
   unfold Rep at h
   obtain⟨a',yS,rfl⟩:=h
   rw[ea] at yS;cases yS
   exact⟨a,vs,rfl,.inl q,l,r⟩
 | _=>cases e
theorem Rq (o:OK K F α H M) {d:D}{v:V}{C:Addr}{ns:List Str}{ds:List D} (h:Rep K α (hid F α M H) d v) (e:vw M d = .ins C ns ds):∃ a dx vs,v = .ref a∧H a=some (.ins C dx (ns.zip vs))∧ns.length=ds.length∧Reps K α (hid F α M H) ds vs:=by
 cases d with
 | ins C' ls es=>
  cases (show (D.ins C' ls es) = .ins C ns ds from e)
  unfold Rep at h
  obtain⟨a,dx,vs,rfl,q,l,z⟩:=h
  exact⟨a,dx,vs,rfl,bM _ _ q,l,z⟩
 | loc k=>
  rcases gj e with e | ⟨x,hk,e⟩
  ·cases e
  ·cases x <;> cases e
   obtain⟨a,ea,dx,vs,q,l,r⟩:=o.own k _ hk
   unfold Rep at h
   obtain⟨a',yS,rfl⟩:=h
   rw[ea] at yS;cases yS
   exact⟨a,dx,vs,rfl,q,l,r⟩
 | _=>cases e
theorem BJ {d:D}{ds:List D} (e:vw M d = .tup ds):d = .tup ds:=by
 cases d with
 | loc k=>rcases gj e with e | ⟨x,hk,e⟩ <;> first | cases e | (cases x <;> cases e)
 | _=>exact e
theorem fC {d:D}{x:Str} (e:vw M d = .str x):d = .str x:=by
 cases d with
 | loc k=>rcases gj e with e | ⟨x,hk,e⟩ <;> first | cases e | (cases x <;> cases e)
 | _=>exact e
theorem lC {d:D}{x:List Int} (e:vw M d = .scr x):d = .scr x:=by
 cases d with
 | loc k=>rcases gj e with e | ⟨x,hk,e⟩ <;> first | cases e | (cases x <;> cases e)
 | _=>exact e
theorem nG {d:D}{x:Int} (e:vw M d = .int x):d = .int x:=by
 cases d with
 | loc k=>rcases gj e with e | ⟨x,hk,e⟩ <;> first | cases e | (cases x <;> cases e)
 | _=>exact e
theorem gZ (o:OK K F α H M) {d:D}{v:V}{ds:List D} (h:Rep K α (hid F α M H) d v) (e:vw M d = .tup ds):∃ a vs,v = .ref a∧qJ K H a vs∧Reps K α (hid F α M H) ds vs:=by
 cases BJ e
 unfold Rep at h
 obtain⟨a,vs,rfl,q,z⟩:=h
 exact⟨a,vs,rfl,mz bM q,z⟩
end
abbrev GP:=List D→(D→Prop)→Prop
noncomputable def cl (g:GP):GN:=λ ds M Q=>nls ds=true∧g ds λ d=>Q d M
abbrev dh (g:GP):Prop:=∀ ds (P Q:D→Prop),(∀ d,P d→Q d)→g ds P→g ds Q
theorem LQ {g:GP} (m:dh g):monoN (cl g):=λ xs M P Q w q=>⟨q.1,m _ _ _ (λ d q=>w _ _ q) q.2⟩
noncomputable def dZ (n:Nat) (ds:List D):DSt:=ds.map some++List.replicate (n - ds.length) none
noncomputable def LR (n m:Nat) (tb:DS):GN:=λ ds M Q=>ds.length=m∧tb ⟨λ _ M'=>Q .non M',Q,λ _ _=>False,λ _ _=>False⟩ (dZ n ds) M
noncomputable def cQ (n m:Nat) (tb:DS):GP:=λ ds Q=>ds.length=m∧tb ⟨λ _ _=>Q .non,λ d M'=>nl (fz M' d)=true∧Q (fz M' d),λ _ _=>False,λ _ _=>False⟩ (dZ n ds) []
section
variable {P:Program}{w:World}{K:W.Frag}{mg:Str→Option Value}{base:Heap}
theorem wF {F α:List Addr}{H:Hp}{M:Ms}{N:List Str}{ds:List D}{vs:List V} (o:OK K F α H M) (r:Reps K α (hid F α M H) ds vs):R K F α H (L2.start N vs) (dZ N.length ds) M:=by
 have hl:=Reps.length _ _ r
 refine⟨o,by simp[L2.start,dZ,hl],λ i d h=>?_⟩
 unfold dZ at h
 by_cases hi:i < ds.length
 ·rw[List.getElem?_append_left (by simpa using hi)] at h
  rw[List.getElem?_map] at h
  cases e:ds[i]? with
  | none=>rw[e] at h;cases h
  | some x=>
   rw[e] at h
   cases h
   obtain⟨v,e1,r1⟩:=Reps.get ds vs i d r e
   refine⟨v,?_,r1⟩
   unfold L2.start
   rw[List.getElem?_append_left (by simp;omega),List.getElem?_map,e1];rfl
 ·rw[List.getElem?_append_right (by simp;omega)] at h
  have:=List.mem_of_getElem? h
  rw[List.mem_replicate] at this
  cases this.2
theorem Rr {n:List Str}{ps:List Str}{X:Cx}{body:List Stmt}{tb:DS} (hJ:JB' X body tb) {H:Hp}{vs:List V}{Q:VK}{E:XK} (hK:X.K=K) (h:lSp K (LR n.length ps.length tb) vs H Q E) :
  ∃ t,QB X body t∧t { nx:=λ _ H'=>Q .non H',rt:=Q } (L2.start n vs) H:=by
 subst hK
 obtain⟨F,α,M,ds,o,r,hl,q⟩:=h
 refine⟨_,⟨hJ.p⟩,F,α,dZ n.length ds,M,wF o r,?_⟩
 refine hJ.mono _ _ _ _ ?_ q
 exact⟨λ δ M' q σ' α' H' e r=>q _ α' H' e r.ok gB,λ _ _ q=>q,λ _ _ q=>q.elim,λ _ _ q=>q.elim⟩
theorem g8 {F α:List Addr}{H:Hp}{M:Ms}{α2:List Addr}{H2:Hp}{M2:Ms} (o:OK K F α H M) (e2:Ext (lv α M++F) [] H [] α2 H2 M2) (o2:OK K (lv α M++F) α2 H2 M2):Ext F α H M α H2 M∧OK K F α H2 M:=by
 have sm:Same (hid F α M H) (hid F α M H2):=λ b x h=>jJ _ _ (e2.same b x (by
  show hide (lv [] []++(lv α M++F)) H b=_
  exact h))
 have fr:∀ a∈lv α M++F,H2 a=H a:=e2.fr
 have al:∀ a,vis (H a)≠none→vis (H2 a)≠none:=λ a h=>by
  by_cases z:a∈lv α M++F
  ·rw[fr a z];exact h
  ·cases e:H a with
   | none=>exact absurd (by rw[e]) h
   | some x=>
    rw[e] at h
    have v:vis (some x)=some x:=by cases x <;> first | rfl | exact absurd rfl h
    have:=bM _ _ (sm a x (show hide _ H a=_ from dg z e v))
    rw[this,v];exact λ z=>by cases z
 refine⟨⟨List.prefix_refl _,sm,λ a ha=>fr a (List.mem_append_right _ ha)⟩,o.ml,o.nd,λ a ha=>⟨(o.fr a ha).1,al a (o.fr a ha).2⟩,λ a ha=>al a (o.al a ha),λ k x h=>?_,o2.tb⟩
 obtain⟨a,ea,ra⟩:=o.own k x h
 exact⟨a,ea,ra.mono (List.prefix_refl _) sm (fr a (List.mem_append_left _ (mem_lv.mpr ⟨k,x,ea,h⟩)))⟩
theorem Ih {n:List Str}{ps:List Str}{X:Cx}{body:List Stmt}{tb:DS} (hJ:JB' X body tb) {H:Hp}{vs:List V}{Q:VK}{E:XK} (hK:X.K=K) (h:lSp K (cl (cQ n.length ps.length tb)) vs H Q E) :
  ∃ t,QB X body t∧t { nx:=λ _ H'=>Q .non H',rt:=Q } (L2.start n vs) H:=by
 subst hK
 obtain⟨F,α,M,ds,o,r,hn,hl,q⟩:=h
 have o0:OK X.K (lv α M++F) [] H []:=⟨rfl,List.nodup_nil,λ a ha=>⟨by simp,by
  rcases List.mem_append.mp ha with ha | ha
  ·exact o.liveV a ha
  ·exact(o.fr a ha).2⟩,λ a ha=>(by simp at ha),λ k x h=>(by simp at h),o.tb⟩
 have r0:Reps X.K [] (hid (lv α M++F) [] [] H) ds vs:=Reps.nl ds vs hn r
 refine⟨_,⟨hJ.p⟩,lv α M++F,[],dZ n.length ds,[],wF o0 r0,?_⟩
 refine hJ.mono _ _ _ _ ?_ q
 refine⟨λ δ M' q σ' α' H' e r=>?_,λ d M' q v α' H' e o' r=>?_,λ _ _ q=>q.elim,λ _ _ q=>q.elim⟩
 ·obtain⟨e1,o1⟩:=g8 o e r.ok
  exact q _ α H' e1 o1 gB
 ·obtain⟨e1,o1⟩:=g8 o e o'
  exact q.2 v α H' e1 o1 (Rep.nl _ _ q.1 (Ig o' d v r))
end
end L3
namespace L3
open PySem PySem.Spec PyProof.Rows L2
noncomputable def nH (fr:List (Option Nat)) (δ:DSt):DSt:=fr.map λ o=>match o with
 | none=>none
 | some j=>(δ[j]?).getD none
noncomputable def rst (fr:List (Option Nat)) (δ:DSt):DSt:=List.zipWith (λ o d=>match o with | none=>none | some _=>d) fr δ
noncomputable def Ii (g:DG) (tt:DT) (te:DE) (x:D) (δ:DSt) (M:Ms) (Kk:Option D→DSt→Ms→Prop):Prop:=
 g x δ M λ δ1 M1=>tt δ1 M1 λ b M2=>if b=true then te δ1 M2 λ d M3=>Kk (some d) δ1 M3 else Kk none δ1 M2
noncomputable def lD (fr:List (Option Nat)) (g:DG) (tt:DT) (te:DE) (st:Ms→Prop) (Q:List D→Ms→Prop):List D→List D→DSt→Ms→Prop
 | [],acc,_,M=>Q acc M
 | x::xs,acc,δ,M=>Ii g tt te x δ M λ o δ1 M1=>st M1∧match o with
  | some d=>acc.length < sizeLine∧lD fr g tt te st Q xs (acc++[d]) (rst fr δ1) M1
  | none=>lD fr g tt te st Q xs acc (rst fr δ1) M1
noncomputable def qz (fr:List (Option Nat)) (ti:DI) (g:DG) (tt:DT) (te:DE):DF:=λ δ M Q=>ti δ M λ items st M1=>st M1∧lD fr g tt te st (λ ds M'=>Q (.lst ds) M') items [] (nH fr δ) M1
structure JIf (X:Cx) (ifs:List Expr) (t:DT):Prop where
 mono:∀ δ M (P Q:Bool→Ms→Prop),(∀ d M,P d M→Q d M)→t δ M P→t δ M Q
 p:PIf X ifs (lT X.K t)
noncomputable def uw:DT:=λ _ M Q=>Q true M
theorem mD {X:Cx}:JIf X [] uw:=⟨λ δ M P Q w q=>w _ _ q,λ pins s σ H Q I ⟨F,α,δ,M,r,q⟩=>Ls pins s σ H Q I (q α H Ext.refl r.ok)⟩
section
variable {K:W.Frag}{F α α' α'':List Addr}{H H' Uq:Hp}{M M' M'':Ms}{σ:L2.St}{δ:DSt}{p:Addr}
theorem R.slots (r:R K F α H σ δ M) (fr:List (Option Nat)):R K F α H (L2.slots fr σ) (nH fr δ) M:=by
 refine⟨r.ok,by simp[L2.slots,nH],λ i d h=>?_⟩
 unfold nH at h
 unfold L2.slots
 rw[List.getElem?_map] at h ⊢
 cases e:fr[i]? with
 | none=>rw[e] at h;cases h
 | some o=>
  rw[e] at h
  cases o with
  | none=>cases h
  | some j=>
   have h:(δ[j]?).getD none=some d:=by simpa using h
   cases e2:δ[j]? with
   | none=>rw[e2] at h;cases h
   | some q=>
    rw[e2] at h
    have h:q=some d:=h
    subst h
    obtain⟨v,e3,r3⟩:=r.sl j d e2
    exact⟨v,by show some ((σ[j]?).getD none)=_;rw[e3];rfl,r3⟩
theorem R.rst (r:R K F α H σ δ M) {fr:List (Option Nat)} (hl:fr.length=δ.length):R K F α H σ (L3.rst fr δ) M:=by
 refine⟨r.ok,by simp[L3.rst,hl,r.len],λ i d h=>?_⟩
 unfold L3.rst at h
 rw[List.getElem?_zipWith] at h
 cases e:fr[i]? with
 | none=>rw[e] at h;simp at h
 | some o=>
  cases e2:δ[i]? with
  | none=>rw[e,e2] at h;simp at h
  | some q=>
   rw[e,e2] at h
   cases o with
   | none=>simp at h
   | some j=>
    have h:q=some d:=by simpa using h
    subst h
    exact r.sl i d e2
theorem Ext.skip (o:OK K F α H M) (hp:H p=none) (e:Ext F α H M α' H' M') (e':Ext (p::F) α' H' M' α'' Uq M''):Ext F α H M α'' Uq M'':=by
 refine⟨e.pre.trans e'.pre,λ b x h=>?_,λ a ha=>(e'.fr a (List.mem_cons_of_mem _ ha)).trans (e.fr a ha)⟩
 have hb:b≠p:=λ z=>by
  have:=(bG h).2
  rw[z,hp] at this;cases this
 have h1:=bG (e.same b x h)
 have h2:hid (p::F) α' M' H' b=some x:=by
  show hide _ H' b=_
  refine dO h (λ w=>h1.1 ?_) h1.2
  ·simp only [List.mem_append,List.mem_cons] at w ⊢
   rcases w with w | w | w
   ·exact .inl w
   ·exact absurd w hb
   ·exact .inr w
 have h3:=bG (e'.same b x h2)
 show hide _ Uq b=_
 refine dO h (λ w=>h3.1 ?_) h3.2
 ·simp only [List.mem_append,List.mem_cons] at w ⊢
  rcases w with w | w
  ·exact .inl w
  ·exact .inr (.inr w)
theorem Ext.updp (hp:H p=none) (hF:p ∉ F) {x:HO} (e:Ext F α H M α' H' M'):Ext F α H M α' (upd H' p x) M':=by
 refine⟨e.pre,λ b y h=>?_,λ a ha=>by rw[aA λ z=>hF (by rw[← z];exact ha)];exact e.fr a ha⟩
 have hb:b≠p:=λ z=>by
  have:=(bG h).2
  rw[z,hp] at this;cases this
 have h1:=bG (e.same b y h)
 show hide _ _ b=_
 exact dO h h1.1 (by rw[aA hb];exact h1.2)
theorem su {x:HO}:hid (p::F) α M (upd H p x)=hid (p::F) α M H:=by
 funext b
 show hide _ _ b=hide _ _ b
 by_cases hb:b∈lv α M++p::F
 ·rw[dN hb,dN hb]
 ·rw[cG hb,cG hb,aA λ z=>hb (by rw[z];simp)]
theorem OK.updp (o:OK K (p::F) α H M) {x:HO} (vx:vis (some x)=some x:=by rfl):OK K (p::F) α (upd H p x) M:=by
 have hp:p ∉ α:=(o.fr p List.mem_cons_self).1
 refine⟨o.ml,o.nd,λ a ha=>⟨(o.fr a ha).1,?_⟩,λ a ha=>?_,λ k y h=>?_,o.tb.upd (.inl (o.fr p List.mem_cons_self).2)⟩
 ·by_cases e:a=p
  ·rw[e,aP,vx];exact λ z=>by cases z
  ·rw[aA e];exact(o.fr a ha).2
 ·rw[aA λ z=>hp (by rw[← z];exact ha)];exact o.al a ha
 ·obtain⟨a,ea,ra⟩:=o.own k y h
  rw[su]
  exact⟨a,ea,ra.mono (List.prefix_refl _) (Same.refl _) (aA λ z=>hp (by rw[← z];exact List.mem_of_getElem? ea))⟩
theorem R.updp (r:R K (p::F) α H σ δ M) {x:HO} (vx:vis (some x)=some x:=by rfl):R K (p::F) α (upd H p x) σ δ M:=⟨r.ok.updp vx,r.len,λ i d h=>by
 obtain⟨v,h1,h2⟩:=r.sl i d h
 rw[su]
 exact⟨v,h1,h2⟩⟩
theorem R.underp (r:R K F α H σ δ M) (hp:H p=none) {x:HO} (vx:vis (some x)=some x:=by rfl):R K (p::F) α (upd H p x) σ δ M:=by
 have o:=r.ok
 have hpa:p ∉ α:=λ z=>o.al p z (by rw[hp])
 have sm:Same (hid F α M H) (hid (p::F) α M (upd H p x)):=λ b y h=>by
  obtain⟨z,q⟩:=bG h
  have hb:b≠p:=λ z=>by rw[z,hp] at q;cases q
  show hide _ _ b=_
  refine dO h (λ w=>z ?_) (by rw[aA hb];exact q)
  ·simp only [List.mem_append,List.mem_cons] at w ⊢
   rcases w with w | w | w
   ·exact .inl w
   ·exact absurd w hb
   ·exact .inr w
 refine⟨⟨o.ml,o.nd,λ a ha=>?_,λ a ha=>?_,λ k y h=>?_,o.tb.upd (.inr hp)⟩,r.len,λ i d h=>?_⟩
 ·rcases List.mem_cons.mp ha with e | e
  ·subst e;exact⟨hpa,by rw[aP,vx];exact λ z=>by cases z⟩
  ·refine⟨(o.fr a e).1,?_⟩
   rw[aA λ z=>(o.fr a e).2 (by rw[z,hp])];exact(o.fr a e).2
 ·rw[aA λ z=>hpa (by rw[← z];exact ha)];exact o.al a ha
 ·obtain⟨a,ea,ra⟩:=o.own k y h
  exact⟨a,ea,ra.mono (List.prefix_refl _) sm (aA λ z=>hpa (by rw[← z];exact List.mem_of_getElem? ea))⟩
 ·obtain⟨v,h1,h2⟩:=r.sl i d h
  exact⟨v,h1,Rep.mono (List.prefix_refl _) sm _ _ h2⟩
theorem DQ:er p H p=none:=by unfold er;rw[if_pos rfl]
theorem sy {b:Addr} (h:b≠p):er p H b=H b:=by unfold er;rw[if_neg h]
theorem Ij (o:OK K (p::F) α H M):hid F α M (er p H)=hid (p::F) α M H:=by
 have hp:p ∉ α:=(o.fr p List.mem_cons_self).1
 funext b
 show hide _ _ b=hide _ _ b
 by_cases e:b=p
 ·subst e
  rw[dN (A:=lv α M++b::F) (by simp)]
  by_cases z:b∈lv α M++F
  ·rw[dN z]
  ·rw[cG z,DQ]
 ·by_cases z:b∈lv α M++F
  ·rw[dN z,dN (by simp only [List.mem_append,List.mem_cons] at z ⊢;rcases z with z | z;exact .inl z;exact .inr (.inr z))]
  ·rw[cG z,cG (by simp only [List.mem_append,List.mem_cons] at z ⊢;rintro (w | w | w);exact z (.inl w);exact e w;exact z (.inr w)),sy e]
theorem OK.er (o:OK K (p::F) α H M) (hF:p ∉ F):OK K F α (L3.er p H) M:=by
 have hp:p ∉ α:=(o.fr p List.mem_cons_self).1
 refine⟨o.ml,o.nd,λ a ha=>⟨(o.fr a (List.mem_cons_of_mem _ ha)).1,?_⟩,λ a ha=>?_,λ k x h=>?_,o.tb.imp λ b y e v=>?_⟩
 ·rw[sy λ z=>hF (by rw[← z];exact ha)];exact(o.fr a (List.mem_cons_of_mem _ ha)).2
 ·rw[sy λ z=>hp (by rw[← z];exact ha)];exact o.al a ha
 ·obtain⟨a,ea,ra⟩:=o.own k x h
  rw[Ij o]
  exact⟨a,ea,ra.mono (List.prefix_refl _) (Same.refl _) (sy λ z=>hp (by rw[← z];exact List.mem_of_getElem? ea))⟩
 ·rw[sy λ z=>(o.fr p List.mem_cons_self).2 (by rw[← z,e];exact v)];exact e
theorem Ext.er (hp:H p=none) (hF:p ∉ F) (e:Ext F α H M α' H' M'):Ext F α H M α' (L3.er p H') M':=by
 refine⟨e.pre,λ b y h=>?_,λ a ha=>by rw[sy λ z=>hF (by rw[← z];exact ha)];exact e.fr a ha⟩
 have hb:b≠p:=λ z=>by
  have:=(bG h).2
  rw[z,hp] at this;cases this
 have h1:=bG (e.same b y h)
 show hide _ _ b=_
 exact dO h h1.1 (by rw[sy hb];exact h1.2)
end
section
variable {X:Cx}{N:List Str}{fr:List (Option Nat)}{scope:Scope}{elt target iter:Expr}{ifs:List Expr}{ti:DI}{g:DG}{tt:DT}{te:DE}{pos:Pos}
theorem nJ (hg:∀ d δ M (P Q:DSt→Ms→Prop),(∀ δ M,P δ M→Q δ M)→g d δ M P→g d δ M Q) (ht:∀ δ M (P Q:Bool→Ms→Prop),(∀ d M,P d M→Q d M)→tt δ M P→tt δ M Q) (he:∀ δ M (P Q:DK),(∀ d M,P d M→Q d M)→te δ M P→te δ M Q)
  {st:Ms→Prop} {P Q:List D→Ms→Prop} (w:∀ l M,P l M→Q l M):∀ xs acc δ M,lD fr g tt te st P xs acc δ M→lD fr g tt te st Q xs acc δ M
 | [],acc,δ,M,q=>w _ _ q
 | x::xs,acc,δ,M,q=>by
  unfold lD Ii at q ⊢
  refine hg _ _ _ _ _ (λ δ1 M1 q=>ht _ _ _ _ (λ b M2 q=>?_) q) q
  cases b with
  | true=>
   rw[if_pos rfl] at q ⊢
   exact he _ _ _ _ (λ d M3 q=>⟨q.1,q.2.1,nJ hg ht he w xs _ _ _ q.2.2⟩) q
  | false=>
   rw[if_neg Bool.false_ne_true] at q ⊢
   exact⟨q.1,nJ hg ht he w xs _ _ _ q.2⟩
theorem FJ (hI:JI X target iter ti) (hg:∀ d δ M (P Q:DSt→Ms→Prop),(∀ δ M,P δ M→Q δ M)→g d δ M P→g d δ M Q) (ht:∀ δ M (P Q:Bool→Ms→Prop),(∀ d M,P d M→Q d M)→tt δ M P→tt δ M Q) (he:∀ δ M (P Q:DK),(∀ d M,P d M→Q d M)→te δ M P→te δ M Q)
  (X8:∀ d δ M (P:DSt→Ms→Prop),g d δ M P→g d δ M λ δ1 M1=>δ1.length=δ.length∧P δ1 M1) {σ:L2.St} {H:Hp} {Q:VK} (h:lF X.K (qz fr ti g tt te) σ H Q):HF fr (lI X ti) (lG X.K g) (lT X.K tt) (lE X.K te) σ H (λ v=>TH X (Q v)):=by
 obtain⟨F,α,δ,M,r,h⟩:=h
 refine⟨F,α,δ,M,r,hI.mono δ _ _ _ (λ items st M1 q J α1 H0 H1 T e1 o1 z it p hp=>?_) h⟩
 obtain⟨s1,q⟩:=q
 have OJ:p ∉ F:=λ w=>(z.ok.fr p w).2 (by rw[hp])
 refine⟨λ i m ys σ' H'=>m=items.length - i∧i≤items.length∧∃ α' δ' M' acc,Ext F α1 H1 M1 α' H' M'∧R X.K (p::F) α' H' σ' δ' M'∧δ'.length=fr.length∧st M'∧H' p=some (.lst ys)∧Reps X.K α' (hid (p::F) α' M' H') acc ys ∧
   lD fr g tt te st (λ ds M'=>fK X.K F α H M Q (.lst ds) M') (items.drop i) acc δ' M',⟨_,rfl,Nat.zero_le _,α1,nH fr δ,M1,[],Ext.refl.updp hp OJ,((z.rs (r.grow e1 o1)).slots fr).underp hp,by simp[nH],s1,aP,Reps.nil,q⟩,?_⟩
 rintro i m ys σ' H' ⟨rfl,hi',α',δ',M',acc,e',r',hl',s',hy,ry,q'⟩
 have sm':Same (hid F α1 M1 H1) (hid (p::F) α' M' H'):=λ b x h=>by
  have hb:b≠p:=λ w=>by
   have:=(bG h).2
   rw[w,hp] at this;cases this
  have h1:=bG (e'.same b x h)
  show hide _ H' b=_
  refine dO h (λ w=>h1.1 ?_) h1.2
  ·simp only [List.mem_append,List.mem_cons] at w ⊢
   rcases w with w | w | w
   ·exact .inl w
   ·exact absurd w hb
   ·exact .inr w
 by_cases hlt:i < items.length
 ·rw[List.drop_eq_getElem_cons hlt] at q'
  refine .inr ⟨it.go i (p::F) α' H' M' e'.pre sm' r'.ok s' hlt,λ ys2 σ2 H2=>∃ α2 δ2 M2 Vw,Ext F α1 H1 M1 α2 H2 M2∧R X.K (p::F) α2 H2 σ2 δ2 M2∧δ2.length=fr.length∧st M2∧H2 p=some (.lst ys2)∧Reps X.K α2 (hid (p::F) α2 M2 H2) Vw ys2 ∧
   lD fr g tt te st (λ ds M'=>fK X.K F α H M Q (.lst ds) M') (items.drop (i+1)) Vw δ2 M2,λ ys2 σ2 H2 h=>⟨_,by omega,rfl,hlt,h⟩,λ x H2 y=>?_⟩
  obtain⟨o2,e2,rx⟩:=it.yld i (p::F) α' H' M' x H2 items[i] e'.pre sm' r'.ok s' (by simp[hlt]) y
  unfold lD Ii at q'
  refine⟨p::F,α',δ',M',items[i],r'.grow e2 o2,rx,hg _ _ _ _ _ (λ δ3 M3 q3 σ3 α3 H3 e3 r3=>?_) (X8 _ _ _ _ q')⟩
  obtain⟨l3,q3⟩:=q3
  refine⟨p::F,α3,δ3,M3,r3,ht _ _ _ _ (λ b M4 q4 α4 H4 e4 o4=>?_) q3⟩
  have e24:=(e2.trans e3).trans e4
  have pm:p∈p::F:=List.mem_cons_self
  cases b with
  | false=>
   rw[if_neg Bool.false_ne_true] at q4
   show (if false=true then _ else _)
   rw[if_neg Bool.false_ne_true]
   refine⟨α4,rst fr δ3,M4,acc,Ext.skip z.ok hp e' e24,(r3.grow e4 o4).rst (by rw[l3,hl']),by simp[rst,l3,hl'],q4.1,by rw[e24.fr p pm];exact hy,e24.reps ry,q4.2⟩
  | true=>
   rw[if_pos rfl] at q4
   show (if true=true then _ else _)
   rw[if_pos rfl]
   refine⟨p::F,α4,δ3,M4,r3.grow e4 o4,he _ _ _ _ (λ d M5 q5 v α5 H5 e5 o5 r5=>?_) q4⟩
   have e25:=e24.trans e5
   have Z2:=e25.reps ry
   refine⟨by rw[e25.fr p pm];exact hy,by rw[← Reps.length _ _ ry];exact q5.2.1,α5,rst fr δ3,M5,acc++[d],(Ext.skip z.ok hp e' e25).updp hp OJ,(((r3.grow e4 o4).grow e5 o5).rst (by rw[l3,hl'])).updp,by simp[rst,l3,hl'],q5.1,aP,?_,q5.2.2⟩
   rw[su]
   exact Reps.append _ _ _ _ Z2 (Reps.one r5)
 ·have e:i=items.length:=by omega
  subst e
  rw[List.drop_length] at q'
  refine .inl ⟨it.stop (p::F) α' H' M' e'.pre sm' r'.ok s',?_⟩
  have eE:=e'.er hp OJ
  have oE:=r'.ok.er OJ
  obtain⟨t1,t2,t3⟩:=z.e α' (L3.er p H') M' eE oE
  have hn:T (L3.er p H') p=none:=z.n p _ hp DQ
  have:=q' p (.lst ys) α' (T (L3.er p H')) (e1.trans t1) t2 hn ⟨ys,rfl,?_⟩
  ·rw[z.c p H' _ hp hy] at this
   exact z.h α' H' M' _ e' this
  ·refine Reps.imp t3 _ _ ?_
   rw[Ij r'.ok]
   exact ry
abbrev Vx (g:DG):Prop:=∀ d δ M (P:DSt→Ms→Prop),g d δ M P→g d δ M λ δ1 M1=>δ1.length=δ.length∧P δ1 M1
theorem mF {i:Nat}:Vx (aM i):=λ d δ M P q=>⟨by simp,q⟩
theorem mG (c:CompOk X N fr scope) (hi:JI X target iter ti) (X8:Vx g)
  (hg:∀ C ex pins s₀ H₀,JG (blk X scope N C ex pins s₀ H₀ λ _ _=>False) target g) (ht:∀ C ex pins s₀ H₀,JIf (blk X scope N C ex pins s₀ H₀ λ _ _=>False) ifs tt) (he:∀ C ex pins s₀ H₀,JE (blk X scope N C ex pins s₀ H₀ λ _ _=>False) elt te)
  (hcalm:X.calm=true:=by rfl) (hs:∀ x,foldedSetIterable iter X.env x=pure x:=by intro _;rfl):JF X (.ListComp elt [⟨target,iter,ifs,0⟩] scope pos) (qz fr ti g tt te):=by
 have mg:=(hg 0 [] [] X.s₀ X.H₀).mono
 have mt:=(ht 0 [] [] X.s₀ X.H₀).mono
 have me:=(he 0 [] [] X.s₀ X.H₀).mono
 exact⟨λ δ M P Q w q=>hi.mono _ _ _ _ (λ l s M1 q=>⟨q.1,nJ mg mt me (λ l M q=>w _ _ q) _ _ _ _ q.2⟩) q,
  HX (Lx c hcalm hi.p (λ _ _ _ _ _=>(hg _ _ _ _ _).p) (λ _ _ _ _ _=>(ht _ _ _ _ _).p) (λ _ _ _ _ _=>(he _ _ _ _ _).p) hs) λ σ H Q h=>FJ hi mg mt me X8 h⟩
end
end L3
namespace L3
open PySem PySem.Spec PyProof.Rows L2
noncomputable def gI (C:Int→Int→Prop) (f:Int→Int→D):G2:=λ x y M Q=>match x,y with | .int i,.int j=>C i j∧Q (f i j) M | _,_=>False
theorem wG {C:Int→Int→Prop}{f:Int→Int→D}:mono2 (gI C f):=by
 intro x y M P Q w q
 unfold gI at *
 split at q
 ·exact⟨q.1,w _ _ q.2⟩
 ·exact q.elim
noncomputable def kJ (f:Int→Int→D):G2:=λ x y M Q=>match x,y with | .int i,.int j=>Q (f i j) M | _,_=>False
theorem sE {f:Int→Int→D}:mono2 (kJ f):=by
 intro x y M P Q w q
 unfold kJ at *
 split at q
 ·exact w _ _ q
 ·exact q.elim
section
variable {X:Cx}
theorem Ik {K:W.Frag}{f:Int→Int→D}{x y:V}{H:Hp}{Q:VK} (h:rD K (kJ f) x y H Q):∃ F α M i j,OK K F α H M∧x = .int i∧y = .int j∧vK K F α H M Q (f i j) M:=by
 obtain⟨F,α,M,da,db,o,ra,rb,h⟩:=h
 unfold kJ at h
 split at h <;> first | exact h.elim | skip
 unfold Rep at ra rb
 exact⟨F,α,M,_,_,o,ra,rb,h⟩
theorem Vy {K:W.Frag}{C:Int→Int→Prop}{f:Int→Int→D}{x y:V}{H:Hp}{Q:VK} (h:rD K (gI C f) x y H Q):∃ F α M i j,OK K F α H M∧x = .int i∧y = .int j∧C i j∧vK K F α H M Q (f i j) M:=by
 obtain⟨F,α,M,da,db,o,ra,rb,h⟩:=h
 unfold gI at h
 split at h <;> first | exact h.elim | skip
 unfold Rep at ra rb
 exact⟨F,α,M,_,_,o,ra,rb,h⟩
theorem ig:JO X .Sub (kJ λ i j=>.int (i - j)):=⟨sE,λ pins s σ H x y v u Q I rx ry h=>by
 obtain⟨F,α,M,i,j,o,ra,rb,h⟩:=Ik h
 exact QL pins s σ H x y v u Q I rx ry ⟨_,_,ra,rb,vK.now o h bL⟩⟩
theorem eF:JO X .Mod (gI (λ _ j=>0 < j) λ i j=>.int (i % j)):=⟨wG,λ pins s σ H x y v u Q I rx ry h=>by
 obtain⟨F,α,M,i,j,o,ra,rb,h,h'⟩:=Vy h
 exact QV pins s σ H x y v u Q I rx ry ⟨_,_,ra,rb,h,vK.now o h' bL⟩⟩
theorem wH:JO X .Pow (gI uh λ i j=>.int (i ^ j.toNat)):=⟨wG,λ pins s σ H x y v u Q I rx ry h=>by
 obtain⟨F,α,M,i,j,o,ra,rb,h,h'⟩:=Vy h
 exact QX pins s σ H x y v u Q I rx ry ⟨_,_,ra,rb,h,vK.now o h' bL⟩⟩
theorem vJ:JC X .Gt (kJ λ i j=>.bl (decide (j < i))):=⟨sE,λ pins s σ H x y v u Q I rx ry h=>by
 obtain⟨F,α,M,i,j,o,ra,rb,h⟩:=Ik h
 exact Ve pins s σ H x y v u Q I rx ry ⟨_,_,ra,rb,vK.now o h cD⟩⟩
theorem O1:JC X .GtE (kJ λ i j=>.bl (decide (j≤i))):=⟨sE,λ pins s σ H x y v u Q I rx ry h=>by
 obtain⟨F,α,M,i,j,o,ra,rb,h⟩:=Ik h
 exact Vf pins s σ H x y v u Q I rx ry ⟨_,_,ra,rb,vK.now o h cD⟩⟩
noncomputable def qM:G2:=λ x y M Q=>match x,y with | .int i,.int j=>Q (.bl (decide (i < j))) M | .str i,.str j=>Q (.bl (decide (i.cps.toList < j.cps.toList))) M | _,_=>False
noncomputable def pQ:G2:=λ x y M Q=>match x,y with | .int i,.int j=>Q (.bl (decide (i≤j))) M | .str i,.str j=>Q (.bl (!decide (j.cps.toList < i.cps.toList))) M | _,_=>False
theorem lH:JC X .Lt qM:=by
 refine⟨λ x y M P Q w q=>?_,λ pins s σ H x y v u Q I rx ry h=>?_⟩
 ·unfold qM at *;split at q <;> first | exact q.elim | exact w _ _ q
 ·obtain⟨F,α,M,da,db,o,ra,rb,h⟩:=h
  unfold qM at h;split at h <;> first | exact h.elim | skip
  ·unfold Rep at ra rb
   exact Vc pins s σ H x y v u Q I rx ry ⟨_,_,ra,rb,vK.now o h cD⟩
  ·unfold Rep at ra rb
   exact Fj pins s σ H x y v u Q I rx ry ⟨_,_,ra,rb,vK.now o h cD⟩
theorem lJ:JC X .LtE pQ:=by
 refine⟨λ x y M P Q w q=>?_,λ pins s σ H x y v u Q I rx ry h=>?_⟩
 ·unfold pQ at *;split at q <;> first | exact q.elim | exact w _ _ q
 ·obtain⟨F,α,M,da,db,o,ra,rb,h⟩:=h
  unfold pQ at h;split at h <;> first | exact h.elim | skip
  ·unfold Rep at ra rb
   exact Vd pins s σ H x y v u Q I rx ry ⟨_,_,ra,rb,vK.now o h cD⟩
  ·unfold Rep at ra rb
   exact Fz pins s σ H x y v u Q I rx ry ⟨_,_,ra,rb,vK.now o h cD⟩
noncomputable def Yb:D→Bool
 | .non=>true
 | _=>false
theorem DR {K:W.Frag}{α:List Addr}{H:Hp}{d:D}{v:V} (h:Rep K α H d v):decide (v = .non)=Yb d:=by
 cases d <;> unfold Rep at h
 case non=>subst h;rfl
 case tup=>obtain⟨_,_,rfl,_⟩:=h;rfl
 case lst=>obtain⟨_,_,rfl,_⟩:=h;rfl
 case dct=>obtain⟨_,_,rfl,_⟩:=h;rfl
 case ins=>obtain⟨_,_,_,rfl,_⟩:=h;rfl
 case exc=>obtain⟨_,_,rfl,_⟩:=h;rfl
 case scr=>obtain⟨_,rfl,_⟩:=h;rfl
 case loc=>obtain⟨_,_,rfl⟩:=h;rfl
 all_goals subst h;rfl
noncomputable def Vz:G2:=λ x y M Q=>match y with | .non=>Q (.bl (Yb x)) M | _=>False
noncomputable def sG:G2:=λ x y M Q=>match y with | .non=>Q (.bl (!Yb x)) M | _=>False
theorem O2:JC X .Is Vz:=by
 refine⟨λ x y M P Q w q=>?_,λ pins s σ H x y v u Q I rx ry h=>?_⟩
 ·cases y <;> first | exact q.elim | exact w _ _ q
 ·obtain⟨F,α,M,da,db,o,ra,rb,h⟩:=h
  cases db <;> first | exact h.elim | skip
  unfold Rep at rb
  exact Q0 pins s σ H x y v u Q I rx ry ⟨rb,by rw[DR ra];exact vK.now o h cD⟩
theorem yU:JC X .IsNot sG:=by
 refine⟨λ x y M P Q w q=>?_,λ pins s σ H x y v u Q I rx ry h=>?_⟩
 ·cases y <;> first | exact q.elim | exact w _ _ q
 ·obtain⟨F,α,M,da,db,o,ra,rb,h⟩:=h
  cases db <;> first | exact h.elim | skip
  unfold Rep at rb
  exact K7 pins s σ H x y v u Q I rx ry ⟨rb,by rw[DR ra];exact vK.now o h cD⟩
noncomputable def aN:G2:=λ x y M Q=>match vw M x,vw M y with
 | .int i,.int j=>Q (.int (i+j)) M
 | .str i,.str j=>i.length+j.length≤sizeLine∧Q (.str (i++j)) M
 | .lst xs,.lst ys=>xs.length+ys.length≤sizeLine∧Q (.lst (xs++ys)) M
 | .tup xs,.tup ys=>xs≠[]∧xs.length+ys.length≤sizeLine∧Q (.tup (xs++ys)) M
 | _,_=>False
theorem aO:JO X .Add aN:=by
 refine⟨λ x y M P Q w q=>?_,λ pins s σ H x y v u Q I rx ry h=>?_⟩
 ·unfold aN at q ⊢
  generalize vw M x=a at q ⊢
  generalize vw M y=b at q ⊢
  split at q <;> first | exact q.elim | exact w _ _ q | exact⟨q.1,w _ _ q.2⟩ | exact⟨q.1,q.2.1,w _ _ q.2.2⟩
 ·obtain⟨F,α,M,da,db,o,ra,rb,h⟩:=h
  unfold aN at h
  generalize e1:vw M da=a at h
  generalize e2:vw M db=b at h
  split at h <;> first | exact h.elim | skip
  ·cases nG e1;cases nG e2
   unfold Rep at ra rb
   exact QK pins s σ H x y v u Q I rx ry ⟨_,_,ra,rb,vK.now o h bL⟩
  ·cases fC e1;cases fC e2
   unfold Rep at ra rb
   exact Bp pins s σ H x y v u Q I rx ry ⟨_,_,ra,rb,h.1,vK.now o h.2 iQ⟩
  ·obtain⟨a,vs,rfl,qa,za⟩:=dY o ra e1
   obtain⟨b,us,rfl,qb,zb⟩:=dY o rb e2
   have l1:=Reps.length _ _ za
   have l2:=Reps.length _ _ zb
   exact Rg pins s σ H _ _ v u Q I rx ry ⟨a,b,vs,us,rfl,rfl,qa,qb,by rw[← l1,← l2];exact h.1,λ p hp=>vK.new o hp h.2 (fW o hp (Reps.append _ _ _ _ za zb))⟩
  ·obtain⟨a,vs,rfl,qa,za⟩:=gZ o ra e1
   obtain⟨b,us,rfl,qb,zb⟩:=gZ o rb e2
   have l1:=Reps.length _ _ za
   have l2:=Reps.length _ _ zb
   refine Lk pins s σ H _ _ v u Q I rx ry ⟨a,b,vs,us,rfl,rfl,qa,qb,?_,by rw[← l1,← l2];exact h.2.1,λ e=>?_,λ _ p hp=>vK.new o hp h.2.2 (fX o hp (Reps.append _ _ _ _ za zb))⟩
   ·intro e;subst e
    exact h.1 (List.length_eq_zero_iff.mp l1)
   ·subst e
    have:=List.length_eq_zero_iff.mp l2
    subst this
    refine vK.now o h.2.2 ?_
    rw[List.append_nil]
    rw[BJ e1] at ra
    exact ra
noncomputable def BK:D→Option Key
 | .int i=>some (.inl i)
 | .str x=>some (.inr x)
 | _=>none
noncomputable def valD (k:Key):List Key→List D→Option D
 | k'::ks,d::ds=>if k'=k then some d else valD k ks ds
 | _,_=>none
theorem lK {K:W.Frag}{α:List Addr}{H:Hp}{d:D}{v:V}{k:Key} (h:Rep K α H d v) (e:BK d=some k):v=kV k:=by
 cases d <;> cases e
 ·unfold Rep at h;exact h
 ·unfold Rep at h;exact h
theorem lM {K:W.Frag}{α:List Addr}{H:Hp}{k:Key}:∀ (ks:List Key) (ds:List D) (vs:List V),Reps K α H ds vs→ks.length=ds.length →
  (∀ d,valD k ks ds=some d→∃ v,nq (ks.zip vs) k=some v∧Rep K α H d v)∧(valD k ks ds=none→nq (ks.zip vs) k=none)
 | [],ds,vs,h,l=>⟨λ d e=>by simp[valD] at e,λ _=>rfl⟩
 | k'::ks,[],vs,h,l=>by simp at l
 | k'::ks,d::ds,vs,h,l=>by
  unfold Reps at h
  obtain⟨v,r,rfl,z,y⟩:=h
  have ih:=lM (k:=k) ks ds r y (by simpa using l)
  rw[List.zip_cons_cons]
  by_cases e:k'=k
  ·rw[rC (p:=(k',v)) e]
   unfold valD
   rw[if_pos e]
   exact⟨λ d' e'=>⟨v,rfl,by cases e';exact z⟩,λ e'=>by cases e'⟩
  ·rw[rE (p:=(k',v)) e]
   unfold valD
   rw[if_neg e]
   exact ih
theorem Ma (hu:X.A.units+1 < cLine):IxR X (λ x y H Q=>∃ a v,x = .ref a∧DGet H a y (some v)∧Q v H):=by
 intro value slice pins s σ H x y v u Q I rx ry h hs
 obtain⟨a,z,rfl,g,q⟩:=h
 cases rx
 unfold subscriptTail
 refine wpAny_bind ?_
 rw[getitemInPython_of_ne (qw I g).not_modules]
 refine wpAny_bind (wpAny_specialOf (qw I g) PySem.F.slot_dict_getitem.lookup ?_)
 have fin:wpAny (model X.prog X.w) X.A (subscripted slice false (.ref a) u) (λ r s₃=>wpAny (model X.prog X.w) X.A (letTemporaryGo value (.ref a) r >>= λ _=>pure r) (EP X pins σ Q) X.xe s₃) X.xe s:=by
  rw[hs]
  exact wpAny_operating (Fq hu I g ry λ w' s3 I3 rG=>wpAny_bind (wpAny_letTemporaryGo (wpAny_pure ⟨z,H,I3,rG,q⟩)))
 first
  | exact wpAny_pure (wpAny_bind fin)
  | exact wpAny_bind (wpAny_pure (wpAny_bind fin))
  | exact wpAny_bind fin
noncomputable def c7:G2:=λ x y M Q=>match vw M x,y with
 | .lst xs,.int i=>∃ d,rK xs i=some d∧Q d M
 | .tup xs,.int i=>∃ d,rK xs i=some d∧Q d M
 | .scr xs,.int i=>∃ d,rK xs i=some d∧Q (.int d) M
 | .str z,.int i=>z.length≤sizeLine∧∃ c,rK z.cps.toList i=some c∧Q (.str ⟨#[c]⟩) M
 | .dct ks ds,y=>∃ k d,BK y=some k∧valD k ks ds=some d∧Q d M
 | _,_=>False
theorem jx (hu:X.A.units+1 < cLine):JX X c7:=by
 refine⟨λ x y M P Q w q=>?_,λ value slice pins s σ H x y v u Q I rx ry h hs=>?_⟩
 ·unfold c7 at q ⊢
  generalize vw M x=a at q ⊢
  split at q <;> first
   | exact q.elim
   | (obtain⟨k,d,h1,h2,h3⟩:=q;exact⟨k,d,h1,h2,w _ _ h3⟩)
   | (obtain⟨d,h1,h3⟩:=q;exact⟨d,h1,w _ _ h3⟩)
   | (obtain⟨h0,d,h1,h3⟩:=q;exact⟨h0,d,h1,w _ _ h3⟩)
 ·obtain⟨F,α,M,da,db,o,ra,rb,h⟩:=h
  unfold c7 at h
  generalize e1:vw M da=a at h
  split at h <;> first | exact h.elim | skip
  ·obtain⟨a,vs,rfl,qa,za⟩:=dY o ra e1
   unfold Rep at rb
   obtain⟨d,e,h⟩:=h
   obtain⟨w,ew,rG⟩:=za.at e
   exact Ds value slice pins s σ H _ y v u Q I rx ry ⟨a,vs,_,w,rfl,rb,SqL.of qa,ew,vK.now o h rG⟩ hs
  ·obtain⟨a,vs,rfl,qa,za⟩:=gZ o ra e1
   unfold Rep at rb
   obtain⟨d,e,h⟩:=h
   obtain⟨w,ew,rG⟩:=za.at e
   exact Ra value slice pins s σ H _ y v u Q I rx ry ⟨a,vs,_,w,rfl,rb,qa,ew,vK.now o h rG⟩ hs
  ·cases lC e1
   unfold Rep at ra rb
   obtain⟨a,rfl,qa⟩:=ra
   obtain⟨d,e,h⟩:=h
   refine Ds value slice pins s σ H _ y v u Q I rx ry ⟨a,_,_,.int d,rfl,rb,dB bM qa,?_,vK.now o h bL⟩ hs
   unfold rK at e ⊢
   rw[List.length_map]
   cases q:Hx _ _ with
   | none=>rw[q] at e;cases e
   | some j=>
    rw[q] at e
    show (List.map V.int _)[j]? = _
    have e':(_:List Int)[j]? = some d:=e
    rw[List.getElem?_map,e']
    rfl
  ·cases fC e1
   unfold Rep at ra rb
   obtain⟨hz,c,e,h⟩:=h
   exact Rb value slice pins s σ H x y v u Q I rx ry ⟨_,_,c,ra,rb,hz,e,vK.now o h iQ⟩ hs
  ·obtain⟨k,d,h1,h2,h3⟩:=h
   obtain⟨a,vs,rfl,qa,hl,za⟩:=nF o ra e1
   obtain⟨v',hv,rv⟩:=(lM _ _ vs za hl).1 d h2
   cases lK rb h1
   exact Ma hu value slice pins s σ H _ _ v u Q I rx ry ⟨a,v',rfl,by rw[← hv];exact DGet.kr qa,vK.now o h3 rv⟩ hs
noncomputable def cutD {β:Type} (xs:List β) (lo hi:Option Int):List β:=(xs.drop (HT.sIx xs.length 0 lo)).take (HT.sIx xs.length xs.length hi - HT.sIx xs.length 0 lo)
theorem Reps.cut {K:W.Frag}{α:List Addr}{H:Hp}{ds:List D}{vs:List V} (h:Reps K α H ds vs) (lo hi:Option Int):Reps K α H (cutD ds lo hi) (yO vs lo hi):=by
 unfold cutD yO
 rw[Reps.length _ _ h]
 exact Reps.take _ _ _ (Reps.drop _ _ _ h)
end
end L3
namespace PySem
open Sem (wp)
open Builtin
section
variable {prog:Program}{w:World}{A:Around}{E:Value→Shared→Prop}{s:Shared}
end
section
variable {prog:Program}{w:World}{A:Around}{E:Value→Shared→Prop}{s:Shared}
end
end PySem
namespace PySem
open Sem (wp)
open Builtin
structure FjZip (z TI TO i1 i2:Addr) (fp1 fp2:List Addr):Prop where
 TIz:TI≠z
 TOz:TO≠z
 TITO:TI≠TO
 TIi1:TI≠i1
 TIi2:TI≠i2
 i1m:i1∈fp1
 i2m:i2∈fp2
 zf1:z ∉ fp1
 zf2:z ∉ fp2
 of1:TO ∉ fp1
 of2:TO ∉ fp2
 i1f2:i1 ∉ fp2
 i2f1:i2 ∉ fp1
section
variable {prog:Program}{w:World}{A:Around}{E:Value→Shared→Prop}{s:Shared}{z TI TO i1 i2:Addr}{fp1 fp2:List Addr}{n1 n2:Nat}{P1 P2:Nat→Value→Prop}{S1 S2:Nat→Heap→Prop}
end
noncomputable def Rt (v:Value) (ob:Obj) (h:Heap):Prop:=∀ (prog:Program) (w:World) (A:Around) (E:Value→Shared→Prop) (s:Shared) (Q:Value→Shared→Prop),s.heap=h→Q (.ref s.heap.objs.size) { s with heap:=s.heap.push ob }→wpAny (model prog w) A (pyIter v) Q E s
section
variable {prog:Program}{w:World}{A:Around}{E:Value→Shared→Prop}{s:Shared}
end
end PySem
namespace L2
open PySem PySem.Spec PyProof.Rows
section
variable {X:Cx}{pins:List (Addr×Obj)}{σ:L2.St}{H:Hp}{s:Shared}{h':Heap}
end
section
variable {X:Cx}{pins:List (Addr×Obj)}{σ:L2.St}{H:Hp}{s:Shared}{h':Heap}
end
inductive Sk where
 | L (a:Addr) | T (a:Addr) | S (z:Str) (t:Tok)
noncomputable def Sk.val:Sk→Value
 | .L a=>.ref a
 | .T a=>.ref a
 | .S z t=>.str z t
noncomputable def Sk.obj:Sk→Obj
 | .L a=>{ cls:=.type "list_iterator",data:=.fields #[.ref a,.int 0 0] }
 | .T a=>{ cls:=.type "tuple_iterator",data:=.fields #[.ref a,.int 0 0] }
 | .S z t=>{ cls:=.type (strIterType z),data:=.fields #[.str z t,.int 0 0] }
noncomputable def Sk.st (it:Addr):Sk→Nat→Heap→Prop
 | .L a,i,h=>h.IsListIter it a i
 | .T a,i,h=>h.IsTupleIter it a i
 | .S z t,i,h=>h.IsStrIter it (strIterType z) z t i
noncomputable def Sk.seq (K:W.Frag) (H:Hp):Sk→List V→Prop
 | .L a,ys=>SqL K H a ys
 | .T a,ys=>qJ K H a ys
 | .S z _,ys=>ys=z.cps.toList.map λ c=>V.str ⟨#[c]⟩
section
variable {X:Cx}{pins:List (Addr×Obj)}{σ:L2.St}{H:Hp}{s:Shared}
theorem Sk.inj (I:Inv X pins σ H s) {k:Sk}{ys zs:List V} (h:k.seq X.K H ys) (h':k.seq X.K H zs):ys=zs:=by
 cases k with
 | L a=>exact I.list_inj h h'
 | T a=>exact I.tuple_inj h h'
 | S z t=>exact h.trans h'.symm
theorem Sk.iter (I:Inv X pins σ H s) {k:Sk}{ys:List V} (hs:k.seq X.K H ys):Rt k.val k.obj s.heap:=by
 intro prog w A E s' Q e q
 cases k with
 | L a=>
  obtain⟨its,r,p,hz⟩:=I.list hs
  exact wpAny_pyIter_list (by rw[e];exact p.isList) q
 | T a=>
  obtain⟨its,r,p,hz⟩:=I.tuple hs
  exact wpAny_pyIter_tuple (by rw[e];exact(show s.heap.IsTuple a its.toArray from p)) q
 | S z t=>exact wpAny_pyIter_strU q
end
noncomputable def SkOf (K:W.Frag) (H:Hp) (x:V) (Rk:Sk→Prop):Prop:=(∃ a,x = .ref a∧(∃ ys,SqL K H a ys)∧Rk (.L a))∨(∃ a,x = .ref a∧(∃ ys,qJ K H a ys)∧Rk (.T a))∨(∃ z,x = .str z∧∀ t,Rk (.S z t))
theorem SkOf.get {K:W.Frag}{H:Hp}{x:V}{u:Value}{Rk:Sk→Prop} (h:SkOf K H x Rk) (r:RelV x u):∃ k:Sk,u=k.val∧(∃ ys,k.seq K H ys)∧Rk k:=by
 rcases h with ⟨a,rfl,⟨ys,h⟩,q⟩ | ⟨a,rfl,⟨ys,h⟩,q⟩ | ⟨z,rfl,q⟩
 ·exact⟨.L a,r,⟨ys,h⟩,q⟩
 ·exact⟨.T a,r,⟨ys,h⟩,q⟩
 ·obtain⟨t,rfl⟩:=r
  exact⟨.S z t,rfl,⟨_,rfl⟩,q t⟩
noncomputable def Sk.it (K:W.Frag):Sk→It
 | .L a=>Y6 K a
 | .T a=>Y7 K a
 | .S z _=>Its z
section
variable {X:Cx}{tg:Expr}
noncomputable def Yc (K:W.Frag) (te:TE):TI:=λ σ H R=>te σ H λ x H1=>SkOf K H1 x λ k=>R (k.it K) H1
theorem Ru {e:Expr}{te:TE} (he:PE X e te):PI X tg e (Yc X.K te):=by
 intro pins s σ H R I h
 refine cY (he pins s σ H _ I h) λ v s1 ⟨x,H1,I1,r1,q1⟩=>?_
 obtain⟨k,rfl,⟨ys,hs⟩,q⟩:=q1.get r1
 refine(Sk.iter I1 hs) _ _ _ _ s1 _ rfl ?_
 have hb:∀ b∈[s1.heap.objs.size],FpOk X pins H1 b:=λ b hb=>by
  have e:b=s1.heap.objs.size:=by simpa using hb
  subst e
  exact I1.fpOk (Nat.le_refl _) (I1.hok.fresh (Nat.le_refl _))
 have I2:Inv X pins σ H1 { s1 with heap:=s1.heap.push k.obj }:=I1.kept (t':=s1.toks) λ b o e=>Heap.get?_push_of_some _ e
 cases k with
 | L a=>exact⟨s1.heap.objs.size,[s1.heap.objs.size],_,_,H1,rfl,I2,Fb a _,⟨_,Heap.get?_push_size _ rfl,rfl,rfl⟩,hb,q⟩
 | T a=>exact⟨s1.heap.objs.size,[s1.heap.objs.size],_,_,H1,rfl,I2,Bl a _,⟨_,Heap.get?_push_size _ rfl,rfl,rfl⟩,hb,q⟩
 | S z t=>exact⟨s1.heap.objs.size,[s1.heap.objs.size],_,_,H1,rfl,I2,HJ _ z t,⟨⟨_,Heap.get?_push_size _ rfl,rfl,rfl⟩,Nat.zero_le _⟩,hb,q⟩
end
end L2
namespace L3
open PySem PySem.Spec PyProof.Rows L2
noncomputable def BL:D→Option (List D)
 | .lst ds=>some ds
 | .tup ds=>some ds
 | .scr ns=>some (ns.map D.int)
 | .str z=>some (z.cps.toList.map λ c=>D.str ⟨#[c]⟩)
 | _=>none
noncomputable def Zk (d:D) (v:V) (k:Sk):Prop:=match d with
 | .lst _ | .scr _=>∃ a,v = .ref a∧k = .L a
 | .tup _=>∃ a,v = .ref a∧k = .T a
 | .str z=>v = .str z∧∃ t,k = .S z t
 | _=>False
section
variable {K:W.Frag}{F α:List Addr}{H:Hp}{M:Ms}
theorem Mf (o:OK K F α H M) {d:D}{v:V}{items:List D}{k:Sk} (r:Rep K α (hid F α M H) d v) (e:BL (vw M d)=some items) (hk:Zk (vw M d) v k):∃ ys,k.seq K H ys∧Reps K α (hid F α M H) items ys:=by
 generalize e1:vw M d=x at e hk
 cases x <;> first | (exfalso;cases e;done) | skip
 ·cases e
  have e2:=fC e1
  subst e2
  obtain⟨rfl,t,rfl⟩:=hk
  exact⟨_,rfl,Reps.of_map _ _ (λ c=>iQ) _⟩
 ·cases e
  obtain⟨a,rfl,rfl⟩:=hk
  obtain⟨a',vs,e3,q,z⟩:=gZ o r e1
  cases e3
  exact⟨vs,q,z⟩
 ·cases e
  obtain⟨a,rfl,rfl⟩:=hk
  obtain⟨a',vs,e3,q,z⟩:=dY o r e1
  cases e3
  exact⟨vs,SqL.of q,z⟩
 ·cases e
  have e2:=lC e1
  subst e2
  obtain⟨a,rfl,rfl⟩:=hk
  unfold Rep at r
  obtain⟨a',e3,q⟩:=r
  cases e3
  exact⟨_,dB bM q,Reps.of_map _ _ (λ c=>bL) _⟩
theorem Rv (o:OK K F α H M) {d:D}{v:V}{items:List D}{Rk:Sk→Prop} (r:Rep K α (hid F α M H) d v) (e:BL (vw M d)=some items) (h:∀ k,Zk (vw M d) v k→Rk k):SkOf K H v Rk:=by
 generalize e1:vw M d=x at e h
 cases x <;> first | (exfalso;cases e;done) | skip
 ·have e2:=fC e1
  subst e2
  unfold Rep at r
  subst r
  exact .inr (.inr ⟨_,rfl,λ t=>h _ ⟨rfl,t,rfl⟩⟩)
 ·obtain⟨a',vs,rfl,q,z⟩:=gZ o r e1
  exact .inr (.inl ⟨a',rfl,⟨_,q⟩,h _ ⟨a',rfl,rfl⟩⟩)
 ·obtain⟨a',vs,rfl,q,z⟩:=dY o r e1
  exact .inl ⟨a',rfl,⟨_,SqL.of q⟩,h _ ⟨a',rfl,rfl⟩⟩
 ·have e2:=lC e1
  subst e2
  unfold Rep at r
  obtain⟨a',rfl,q⟩:=r
  exact .inl ⟨a',rfl,⟨_,dB bM q⟩,h _ ⟨a',rfl,rfl⟩⟩
end
section
variable {X:Cx}{tg e a b:Expr}{te:DE}{tt:DA}{p pos tpos:Pos}{elts:List Expr}{n:Nat}
noncomputable def iV (te:DE):DI:=λ δ M Q=>te δ M λ d M1=>∃ items,BL (vw M1 d)=some items∧Q items (λ M'=>vw M' d=vw M1 d) M1
theorem fD (he:JE X e te):JI X tg e (iV te):=by
 refine⟨λ δ M P Q w q=>he.mono δ _ _ _ (λ d M1 q=>?_) q,PI.weak (Ru he.p) λ σ H Q q=>?_⟩
 ·obtain⟨items,e,q⟩:=q
  exact⟨items,e,w _ _ _ q⟩
 ·obtain⟨F,α,δ,M,r,q⟩:=q
  refine⟨F,α,δ,M,r,he.mono δ _ _ _ (λ d M1 q v α1 H1 e1 o1 r1=>?_) q⟩
  obtain⟨items,ei,q⟩:=q
  refine Rv o1 r1 ei λ k hk=>q _ α1 H1 H1 id e1 o1 (Zed.refl o1) ?_
  have key:∀ F' α' H' M',α1 <+: α'→Same (hid F α1 M1 H1) (hid F' α' M' H')→OK X.K F' α' H' M'→vw M' d=vw M1 d→∃ ys,k.seq X.K H' ys∧Reps X.K α' (hid F' α' M' H') items ys:=λ F' α' H' M' hp hs o' hst=>
   Mf o' (Rep.mono hp hs d v r1) (by rw[hst];exact ei) (by rw[hst];exact hk)
  refine⟨λ i F' α' H' M' hp hs o' hst hi=>?_,λ i F' α' H' M' x H2 d' hp hs o' hst hd hy=>?_,λ F' α' H' M' hp hs o' hst=>?_⟩
  ·obtain⟨ys,h1,h2⟩:=key F' α' H' M' hp hs o' hst
   have hl:=Reps.length _ _ h2
   cases k with
   | L a=>exact⟨ys,ys[i],h1,by simp⟩
   | T a=>exact⟨ys,ys[i],h1,by simp⟩
   | S z t=>
    have h1:ys=z.cps.toList.map λ c=>V.str ⟨#[c]⟩:=h1
    show i < z.cps.size
    rw[h1] at hl
    simpa[hl] using hi
  ·obtain⟨ys,h1,h2⟩:=key F' α' H' M' hp hs o' hst
   have fin:∀ H2,H2=H'→ys[i]? = some x→OK X.K F' α' H2 M'∧Ext F' α' H' M' α' H2 M'∧Rep X.K α' (hid F' α' M' H2) d' x:=λ H2 e hx=>by
    subst e
    obtain⟨d2,e2,r2⟩:=Reps.get' _ _ i x h2 hx
    rw[hd] at e2;cases e2
    exact⟨o',Ext.refl,r2⟩
   cases k with
   | L a=>exact fin _ hy.1 (hy.2 ys h1)
   | T a=>exact fin _ hy.1 (hy.2 ys h1)
   | S z t=>
    obtain⟨e,c,hc,hx⟩:=hy
    have h1:ys=z.cps.toList.map λ c=>V.str ⟨#[c]⟩:=h1
    refine fin _ e ?_
    rw[h1,List.getElem?_map,Array.getElem?_toList,hc,hx];rfl
  ·obtain⟨ys,h1,h2⟩:=key F' α' H' M' hp hs o' hst
   have hl:=Reps.length _ _ h2
   cases k with
   | L a=>exact⟨ys,h1,by omega⟩
   | T a=>exact⟨ys,h1,by omega⟩
   | S z t=>
    have h1:ys=z.cps.toList.map λ c=>V.str ⟨#[c]⟩:=h1
    show z.cps.size≤items.length
    rw[hl,h1]
    simp
theorem m5 {K:W.Frag}{α:List Addr}{H:Hp}{d:D}{vs:List V} (h:Reps K α H [d] vs):∃ v,vs=[v]∧Rep K α H d v:=by
 unfold Reps at h
 obtain⟨v,r,rfl,z,y⟩:=h
 unfold Reps at y
 subst y
 exact⟨v,rfl,z⟩
theorem sH {K:W.Frag}{α:List Addr}{H:Hp}{d e:D}{vs:List V} (h:Reps K α H [d,e] vs):∃ v u,vs=[v,u]∧Rep K α H d v∧Rep K α H e u:=by
 unfold Reps at h
 obtain⟨v,r,rfl,z,y⟩:=h
 obtain⟨u,rfl,w⟩:=m5 y
 exact⟨v,u,rfl,z,w⟩
noncomputable def jw (lo:Int) (n:Nat):List D:=(List.range n).map λ (i:Nat)=>D.int (lo+(i:Int))
theorem Il {K:W.Frag}{F α1:List Addr}{H1:Hp}{M1:Ms}{lo:Int}{n:Nat}:ItOK K F α1 H1 M1 (U4 lo n) (jw lo n) λ _=>True:=by
 refine⟨λ i F' α' H' M' hp hs o' hst hi=>?_,λ i F' α' H' M' x H2 d' hp hs o' hst hd hy=>?_,λ F' α' H' M' hp hs o' hst=>?_⟩
 ·show i < n
  simpa[jw] using hi
 ·obtain⟨rfl,rfl⟩:=hy
  unfold jw at hd
  rw[List.getElem?_map] at hd
  cases e:(List.range n)[i]? with
  | none=>rw[e] at hd;cases hd
  | some j=>
   rw[e] at hd
   have:j=i:=by
    have:=List.getElem?_eq_some_iff.mp e
    obtain⟨h1,h2⟩:=this
    simpa using h2.symm
   subst this
   cases hd
   exact⟨o',Ext.refl,bL⟩
 ·show n≤(jw lo n).length
  simp[jw]
noncomputable def sI (tt:DA):DI:=λ δ M Q=>tt δ M λ ds M1=>match ds with
 | [.int j]=>(-(2 ^ 62)≤j∧j < 2 ^ 62)∧Q (jw 0 j.toNat) (λ _=>True) M1
 | _=>False
theorem pR (ha:JA X [a] tt) (hm:X.mg "range"=none) (hg:Gl X "range":=by rfl) (hs:starEach [a] X.env=[(false,eval a X.env)]:=by rfl):JI X tg (.Call (.Name "range" p) [a] [] pos) (sI tt):=by
 refine⟨λ δ M P Q w q=>ha.mono δ _ _ _ (λ ds M1 q=>?_) q,PI.weak (Fd hg hm ha.p hs) λ σ H Q q=>?_⟩
 ·match ds,q with
  | [.int j],⟨e,q⟩=>exact⟨e,w _ _ _ q⟩
 ·obtain⟨F,α,δ,M,r,q⟩:=q
  refine⟨F,α,δ,M,r,ha.mono δ _ _ _ (λ ds M1 q vs α1 H1 e1 o1 r1=>?_) q⟩
  match ds,q,r1 with
  | [.int j],⟨ei,q⟩,r1=>
   obtain⟨v,ev,rv⟩:=m5 r1
   subst ev
   unfold Rep at rv
   subst rv
   exact⟨j,rfl,ei.1,ei.2,q _ α1 H1 H1 id e1 o1 (Zed.refl o1) Il⟩
noncomputable def BP (tt:DA):DI:=λ δ M Q=>tt δ M λ ds M1=>match ds with
 | [.int i,.int j]=>(-(2 ^ 62)≤i∧i < 2 ^ 62∧-(2 ^ 62)≤j∧j < 2 ^ 62)∧Q (jw i (j - i).toNat) (λ _=>True) M1
 | _=>False
theorem FQ (ha:JA X [a,b] tt) (hm:X.mg "range"=none) (hg:Gl X "range":=by rfl) (hs:starEach [a,b] X.env=[(false,eval a X.env),(false,eval b X.env)]:=by rfl) (hs2:starEach [b] X.env=[(false,eval b X.env)]:=by rfl):JI X tg (.Call (.Name "range" p) [a,b] [] pos) (BP tt):=by
 refine⟨λ δ M P Q w q=>ha.mono δ _ _ _ (λ ds M1 q=>?_) q,PI.weak (Fe hg hm ha.p hs hs2) λ σ H Q q=>?_⟩
 ·match ds,q with
  | [.int i,.int j],⟨e,q⟩=>exact⟨e,w _ _ _ q⟩
 ·obtain⟨F,α,δ,M,r,q⟩:=q
  refine⟨F,α,δ,M,r,ha.mono δ _ _ _ (λ ds M1 q vs α1 H1 e1 o1 r1=>?_) q⟩
  match ds,q,r1 with
  | [.int i,.int j],⟨ei,q⟩,r1=>
   obtain⟨v,u,rfl,r1,r2⟩:=sH r1
   unfold Rep at r1 r2
   subst r1 r2
   exact⟨i,j,rfl,ei,q _ α1 H1 H1 id e1 o1 (Zed.refl o1) Il⟩
end
end L3
namespace L3
open PySem PySem.Spec PyProof.Rows L2
mutual
noncomputable def toP:D→PyData
 | .non=>.none
 | .bl b=>.bool b
 | .int i=>.int i
 | .str x=>.str x
 | .tup ds=>.tuple (kO ds)
 | .lst ds=>.list (kO ds)
 | .ty _ | .dct _ _ | .ins _ _ _ | .exc _ _ _ | .scr _ | .loc _ | .cls _=>.dict []
noncomputable def kO:List D→List PyData
 | []=>[]
 | d::ds=>toP d::kO ds
end
mutual
noncomputable def pl:D→Bool
 | .non | .bl _ | .int _=>true
 | .str x=>PyData.strOk x
 | .tup ds | .lst ds=>BR ds
 | .ty _ | .dct _ _ | .ins _ _ _ | .exc _ _ _ | .scr _ | .loc _ | .cls _=>false
noncomputable def BR:List D→Bool
 | []=>true
 | d::ds=>pl d&&BR ds
end
mutual
noncomputable def dp:D→Nat
 | .tup ds | .lst ds=>O4 ds+1
 | .non | .bl _ | .int _ | .str _ | .ty _ | .dct _ _ | .ins _ _ _ | .exc _ _ _ | .scr _ | .loc _ | .cls _=>0
noncomputable def O4:List D→Nat
 | []=>0
 | d::ds=>max (dp d) (O4 ds)
end
mutual
noncomputable def nM:D→D→Bool
 | .non,.non=>true
 | .bl a,.bl b=>a==b
 | .bl a,.int j=>(if a then 1 else 0)==j
 | .int i,.bl b=>i==(if b then 1 else 0)
 | .int i,.int j=>i==j
 | .str x,.str y=>x==y
 | .lst xs,.lst ys=>ux xs ys
 | .tup xs,.tup ys=>ux xs ys
 | _,_=>false
noncomputable def ux:List D→List D→Bool
 | [],[]=>true
 | x::xs,y::ys=>nM x y&&ux xs ys
 | _,_=>false
end
mutual
theorem DW:∀ d:D,pl d=true→(toP d).canLay0=true
 | .non,_=>rfl
 | .bl _,_=>rfl
 | .int _,_=>rfl
 | .str _,h=>by unfold toP;unfold pl at h;simpa[PyData.canLay0] using h
 | .tup ds,h=>by unfold toP;unfold pl at h;simp[PyData.canLay0,sJ ds h]
 | .lst ds,h=>by unfold toP;unfold pl at h;simp[PyData.canLay0,sJ ds h]
 | .ty _,h | .dct _ _,h | .ins _ _ _,h | .exc _ _ _,h | .scr _,h | .loc _,h | .cls _,h=>by unfold pl at h;cases h
theorem sJ:∀ ds:List D,BR ds=true→PyData.canLayAll0 (kO ds)=true
 | [],_=>by unfold kO;rfl
 | d::ds,h=>by
  unfold BR at h
  rw[Bool.and_eq_true] at h
  unfold kO
  simp[PyData.canLayAll0,DW d h.1,sJ ds h.2]
end
mutual
theorem vL:∀ d:D,(toP d).depth≤dp d+1
 | .non | .bl _ | .int _ | .str _=>by unfold toP;simp[PyData.depth]
 | .tup ds=>by unfold toP dp;have:=nO ds;simp only [PyData.depth];omega
 | .lst ds=>by unfold toP dp;have:=nO ds;simp only [PyData.depth];omega
 | .ty _ | .dct _ _ | .ins _ _ _ | .exc _ _ _ | .scr _ | .loc _ | .cls _=>by unfold toP;simp[PyData.depth,PyData.depthKv]
theorem nO:∀ ds:List D,PyData.depthAll (kO ds)≤O4 ds+1
 | []=>by unfold kO;simp[PyData.depthAll]
 | d::ds=>by
  unfold kO O4
  have h1:=vL d
  have h2:=nO ds
  simp only [PyData.depthAll]
  omega
end
mutual
theorem wI:∀ x y:D,pl x=true→pl y=true→(toP x).eqv (toP y)=nM x y
 | .non,y,_,h=>by cases y <;> first | (unfold pl at h;cases h;done) | (unfold toP nM;rfl)
 | .bl a,y,_,h=>by cases y <;> first | (unfold pl at h;cases h;done) | (unfold toP nM;rfl)
 | .int a,y,_,h=>by cases y <;> first | (unfold pl at h;cases h;done) | (unfold toP nM;rfl)
 | .str a,y,_,h=>by cases y <;> first | (unfold pl at h;cases h;done) | (unfold toP nM;rfl)
 | .tup xs,y,g,h=>by
  cases y <;> first | (unfold pl at h;cases h;done) | skip
  case tup ys=>unfold pl at g h;unfold toP nM;simp only [PyData.eqv];exact sO xs ys g h
  all_goals unfold toP nM;rfl
 | .lst xs,y,g,h=>by
  cases y <;> first | (unfold pl at h;cases h;done) | skip
  case lst ys=>unfold pl at g h;unfold toP nM;simp only [PyData.eqv];exact sO xs ys g h
  all_goals unfold toP nM;rfl
 | .ty _,_,g,_ | .dct _ _,_,g,_ | .ins _ _ _,_,g,_ | .exc _ _ _,_,g,_ | .scr _,_,g,_ | .loc _,_,g,_ | .cls _,_,g,_=>by unfold pl at g;cases g
theorem sO:∀ x y:List D,BR x=true→BR y=true→PyData.eqvAll (kO x) (kO y)=ux x y
 | [],[],_,_=>by unfold kO ux;rfl
 | [],y::ys,_,_=>by unfold kO ux;rfl
 | x::xs,[],_,_=>by unfold kO ux;rfl
 | x::xs,y::ys,g,h=>by
  unfold BR at g h
  rw[Bool.and_eq_true] at g h
  unfold kO ux
  simp only [PyData.eqvAll]
  rw[wI x y g.1 h.1,sO xs ys g.2 h.2]
end
mutual
theorem Rep.reads {X:Cx}{pins:List (Addr×Obj)}{σ:L2.St}{H:Hp}{s:Shared}{α:List Addr} (I:Inv X pins σ H s):∀ (d:D) (x:V) (v:Value),Rep X.K α H d x→RelV x v→pl d=true→∃ as,Reads s.heap v (toP d) as
 | .non,x,v,h,r,_=>by unfold Rep at h;subst h;cases r;unfold toP;exact⟨_,.none⟩
 | .bl _,x,v,h,r,_=>by unfold Rep at h;subst h;cases r;unfold toP;exact⟨_,.bool _⟩
 | .int _,x,v,h,r,_=>by unfold Rep at h;subst h;obtain⟨t,rfl⟩:=r;unfold toP;exact⟨_,.int _ _⟩
 | .str _,x,v,h,r,_=>by unfold Rep at h;subst h;obtain⟨t,rfl⟩:=r;unfold toP;exact⟨_,.str _ _⟩
 | .tup ds,x,v,h,r,c=>by
  unfold Rep at h
  obtain⟨a,vs,rfl,q,z⟩:=h
  cases r
  obtain⟨its,rv,⟨o,e,cl,n,dd⟩,_⟩:=I.tuple q
  obtain⟨as,w⟩:=Reps.reads I ds vs its z rv (by unfold pl at c;exact c)
  unfold toP
  exact⟨_,.tuple e cl dd (by simpa using w)⟩
 | .lst ds,x,v,h,r,c=>by
  unfold Rep at h
  obtain⟨a,vs,rfl,q,z⟩:=h
  cases r
  obtain⟨_,its,n,rv,e⟩:=I.hok a _ q
  obtain⟨as,w⟩:=Reps.reads I ds vs its z rv (by unfold pl at c;exact c)
  unfold toP
  exact⟨_,.list e rfl rfl (by simpa using w)⟩
 | .ty _,x,v,h,r,c | .dct _ _,x,v,h,r,c | .ins _ _ _,x,v,h,r,c | .exc _ _ _,x,v,h,r,c | .scr _,x,v,h,r,c | .loc _,x,v,h,r,c | .cls _,x,v,h,r,c=>by unfold pl at c;cases c
theorem Reps.reads {X:Cx}{pins:List (Addr×Obj)}{σ:L2.St}{H:Hp}{s:Shared}{α:List Addr} (I:Inv X pins σ H s):∀ (ds:List D) (xs:List V) (vs:List Value),Reps X.K α H ds xs→Vals xs vs→BR ds=true→∃ as,ReadsAll s.heap vs (kO ds) as
 | [],xs,vs,h,r,_=>by unfold Reps at h;subst h;cases r;unfold kO;exact⟨_,.nil⟩
 | d::ds,xs,vs,h,r,c=>by
  unfold Reps at h
  obtain⟨x,rx,rfl,q,z⟩:=h
  unfold BR at c
  rw[Bool.and_eq_true] at c
  unfold kO
  cases r with
  | cons r1 r2=>
   obtain⟨as,w1⟩:=Rep.reads I d x _ q r1 c.1
   obtain⟨bs,w2⟩:=Reps.reads I ds rx _ z r2 c.2
   exact⟨_,.cons w1 w2⟩
end
theorem mH {d:D} (h:pl d=true) (hd:dp d≤60):SeqAt.shaped (toP d)=true:=by
 unfold SeqAt.shaped
 have:=vL d
 rw[DW d h,Bool.true_and]
 exact decide_eq_true (by omega)
section
variable {X:Cx}
noncomputable def Zm (x y:D):Prop:=pl x=true∧pl y=true∧dp x≤60∧dp y≤60
noncomputable def wJ (x y:D) (Q:Bool→Prop):Prop:=match x,y with
 | .str a,.str b=>Q (a==b)
 | .int a,.int b=>Q (a==b)
 | x,y=>Zm x y∧Q (nM x y)
theorem vM {x y:D}{P Q:Bool→Prop} (w:∀ b,P b→Q b) (h:wJ x y P):wJ x y Q:=by
 unfold wJ at h ⊢
 split <;> simp only at h
 ·exact w _ h
 ·exact w _ h
 ·exact⟨h.1,w _ h.2⟩
noncomputable def jy:G2:=λ x y M Q=>wJ (vw M x) (vw M y) λ b=>Q (.bl b) M
noncomputable def Us:G2:=λ x y M Q=>wJ (vw M x) (vw M y) λ b=>Q (.bl (!b)) M
theorem DX (hu:X.A.units+64 < cLine) {pins:List (Addr×Obj)}{s:Shared}{σ:L2.St}{H:Hp}{x y:V}{v u:Value} (I:L2.Inv X pins σ H s) (rx:RelV x v) (ry:RelV y u) {F α:List Addr}{M:Ms}{da db:D} (o:OK X.K F α H M)
  (ra:Rep X.K α (hid F α M H) da x) (rb:Rep X.K α (hid F α M H) db y) {C:Bool→Prop} (h:wJ (vw M da) (vw M db) C) {Q:VK} (neg:Bool) (fin:∀ b,C b→Q (.bl (if neg then !b else b)) H) :
  wpAny (model X.prog X.w) X.A (compareOp (if neg then .NotEq else .Eq) v u) (EP X pins σ Q) X.xe s:=by
 unfold wJ at h
 split at h
 ·rename_i a b e1 e2
  cases fC e1;cases fC e2
  unfold Rep at ra rb
  subst ra rb
  have e:decide (V.str a=V.str b)=(a==b):=v9
  cases neg with
  | false=>exact Ol pins s σ H _ _ v u Q I rx ry ⟨rfl,by rw[e];exact fin _ h⟩
  | true=>exact Om pins s σ H _ _ v u Q I rx ry ⟨rfl,by rw[e];exact fin _ h⟩
 ·rename_i a b e1 e2
  cases nG e1;cases nG e2
  unfold Rep at ra rb
  subst ra rb
  have e:decide (V.int a=V.int b)=(a==b):=v8
  cases neg with
  | false=>exact Ol pins s σ H _ _ v u Q I rx ry ⟨rfl,by rw[e];exact fin _ h⟩
  | true=>exact Om pins s σ H _ _ v u Q I rx ry ⟨rfl,by rw[e];exact fin _ h⟩
 ·obtain⟨⟨c1,c2,c3,c4⟩,h⟩:=h
  obtain⟨as,w1⟩:=Rep.reads I _ x v (Rep.mono (List.prefix_refl _) bM _ _ (wD o _ _ ra)) rx c1
  obtain⟨bs,w2⟩:=Rep.reads I _ y u (Rep.mono (List.prefix_refl _) bM _ _ (wD o _ _ rb)) ry c2
  cases neg with
  | false=>
   refine eq_dataH w1 w2 (mH c1 c3) (mH c2 c4) hu ⟨.bl _,H,I,rfl,?_⟩
   rw[wI _ _ c1 c2]
   exact fin _ h
  | true=>
   refine ne_dataH w1 w2 (mH c1 c3) (mH c2 c4) hu ⟨.bl _,H,I,rfl,?_⟩
   rw[wI _ _ c1 c2]
   exact fin _ h
theorem dG (hu:X.A.units+64 < cLine):JC X .Eq jy:=by
 refine⟨λ x y M P Q w q=>vM (λ b q=>w _ _ q) q,λ pins s σ H x y v u Q I rx ry h=>?_⟩
 obtain⟨F,α,M,da,db,o,ra,rb,h⟩:=h
 exact DX hu I rx ry o ra rb h false λ b q=>vK.now o q cD
theorem O5 (hu:X.A.units+64 < cLine):JC X .NotEq Us:=by
 refine⟨λ x y M P Q w q=>vM (λ b q=>w _ _ q) q,λ pins s σ H x y v u Q I rx ry h=>?_⟩
 obtain⟨F,α,M,da,db,o,ra,rb,h⟩:=h
 exact DX hu I rx ry o ra rb h true λ b q=>vK.now o q cD
noncomputable def fl:D→Bool
 | .non | .bl _ | .int _ | .str _=>true
 | _=>false
noncomputable def W9:D→V
 | .bl b=>.bl b
 | .int i=>.int i
 | .str x=>.str x
 | _=>.non
theorem BW {K:W.Frag}{α:List Addr}{H:Hp}{d:D}{v:V} (h:fl d=true) (r:Rep K α H d v):v=W9 d∧mY v=true:=by
 cases d <;> first | (cases h;done) | skip
 all_goals unfold Rep at r;subst r;exact⟨rfl,rfl⟩
theorem VB {x y:D} (h:fl x=true) (g:fl y=true):Ln (W9 x) (W9 y)=nM x y:=by
 cases x <;> first | (cases h;done) | skip
 all_goals cases y <;> first | (cases g;done) | (unfold nM;rfl)
theorem wK {K:W.Frag}{α:List Addr}{H:Hp}{x:D} (hx:fl x=true):∀ (ds:List D) (vs:List V),ds.all fl=true→Reps K α H ds vs→vs.all mY=true∧inV (W9 x) vs=ds.any λ y=>nM y x
 | [],vs,_,h=>by unfold Reps at h;subst h;exact⟨rfl,rfl⟩
 | d::ds,vs,g,h=>by
  unfold Reps at h
  obtain⟨v,r,rfl,z,y⟩:=h
  rw[List.all_cons,Bool.and_eq_true] at g
  obtain⟨i1,i2⟩:=wK hx ds r g.2 y
  obtain⟨e1,e2⟩:=BW g.1 z
  subst e1
  refine⟨by rw[List.all_cons,e2,i1];rfl,?_⟩
  unfold inV at i2 ⊢
  rw[List.any_cons,List.any_cons,VB g.1 hx,i2]
theorem yV {K:W.Frag}{α:List Addr}{H:Hp}{k:Key}{ks:List Key}{ds:List D}{vs:List V} (h:Reps K α H ds vs) (hl:ks.length=ds.length):(nq (ks.zip vs) k).isSome=(valD k ks ds).isSome:=by
 obtain⟨h1,h2⟩:=lM (k:=k) ks ds vs h hl
 cases e:valD k ks ds with
 | none=>rw[h2 e];rfl
 | some d=>obtain⟨v',hv,_⟩:=h1 d e;rw[hv];rfl
noncomputable def inD (x y:D):Option Bool:=match y with
 | .lst ds=>if (fl x&&ds.all fl)=true then some (ds.any λ y=>nM y x) else none
 | .tup ds=>if (fl x&&ds.all fl)=true then some (ds.any λ y=>nM y x) else none
 | .str j=>match x with
  | .str i=>some (!(Builtin.Str.occurrences j i 0 j.length 1).isEmpty)
  | _=>none
 | .dct ks ds=>match BK x with
  | some k=>some (valD k ks ds).isSome
  | none=>none
 | _=>none
noncomputable def Rx (neg:Bool):G2:=λ x y M Q=>∃ b,inD x (vw M y)=some b∧Q (.bl (if neg then !b else b)) M
theorem Im {neg:Bool}:mono2 (Rx neg):=λ x y M P Q w ⟨b,e,q⟩=>⟨b,e,w _ _ q⟩
theorem O6 (hu:X.A.units+1 < cLine):JC X .In (Rx false):=by
 refine⟨Im,λ pins s σ H x y v u Q I rx ry h=>?_⟩
 obtain⟨F,α,M,da,db,o,ra,rb,b,eb,h⟩:=h
 generalize e1:vw M db=z at eb
 unfold inD at eb
 cases z <;> first | (cases eb;done) | skip
 ·have e2:=fC e1
  subst e2
  unfold Rep at rb
  subst rb
  cases da <;> first | (cases eb;done) | skip
  unfold Rep at ra
  subst ra
  cases eb
  exact Fl pins s σ H _ _ v u Q I rx ry ⟨_,_,rfl,rfl,vK.now o h cD⟩
 ·obtain⟨a,vs,rfl,q,zz⟩:=gZ o rb e1
  simp only at eb
  split at eb
  ·rename_i hc
   rw[Bool.and_eq_true] at hc
   cases eb
   obtain⟨f1,f2⟩:=BW hc.1 ra
   obtain⟨g1,g2⟩:=wK hc.1 _ _ hc.2 zz
   refine vA pins s σ H _ _ v u Q I rx ry ⟨a,vs,rfl,.inr q,f2,g1,?_⟩
   subst f1
   rw[g2]
   exact vK.now o h cD
  ·cases eb
 ·obtain⟨a,vs,rfl,q,zz⟩:=dY o rb e1
  simp only at eb
  split at eb
  ·rename_i hc
   rw[Bool.and_eq_true] at hc
   cases eb
   obtain⟨f1,f2⟩:=BW hc.1 ra
   obtain⟨g1,g2⟩:=wK hc.1 _ _ hc.2 zz
   refine vA pins s σ H _ _ v u Q I rx ry ⟨a,vs,rfl,.inl (SqL.of q),f2,g1,?_⟩
   subst f1
   rw[g2]
   exact vK.now o h cD
  ·cases eb
 ·obtain⟨a,vs,rfl,q,hl,zz⟩:=nF o rb e1
  simp only at eb
  split at eb
  ·rename_i k hk
   cases eb
   cases lK ra hk
   obtain rfl:u=Value.ref a:=ry
   refine Xu hu I (DGet.kr q) rx λ s' I'=>⟨.bl _,H,I',rfl,?_⟩
   rw[yV zz hl]
   exact vK.now o h cD
  ·cases eb
end
end L3
namespace L3
open PySem PySem.Spec PyProof.Rows L2
section
variable {X:Cx}{a b c e:Expr}{es rest:List Expr}{ta tb tc te:DE}{tA:DT}{tt:DA}{pos p p2 p3:Pos}{x:Str}
abbrev DO:=DSt→Ms→(Option Int→Ms→Prop)→Prop
noncomputable def lO (K:W.Frag) (t:DO):TO:=λ σ H Q=>∃ F α δ M,R K F α H σ δ M∧t δ M λ i M'=>∀ α' H',Ext F α H M α' H' M'→OK K F α' H' M'→Q i H'
structure JOp (X:Cx) (e:Option Expr) (t:DO):Prop where
 mono:∀ δ M (P Q:Option Int→Ms→Prop),(∀ d M,P d M→Q d M)→t δ M P→t δ M Q
 p:PO X e (lO X.K t)
theorem PO.weak {e:Option Expr}{t t':TO} (h:PO X e t) (w:∀ σ H Q,t' σ H Q→t σ H Q):PO X e t':=by
 intro pins s σ H Q I q
 exact h pins s σ H Q I (w σ H Q q)
noncomputable def wL:DO:=λ _ M Q=>Q none M
noncomputable def lN (te:DE):DO:=λ δ M Q=>te δ M λ d M1=>match d with | .int i=>Q (some i) M1 | _=>False
theorem yW:JOp X none wL:=⟨λ δ M P Q w q=>w _ _ q,PO.weak Li λ σ H Q ⟨F,α,δ,M,r,q⟩=>q α H Ext.refl r.ok⟩
theorem fY (h:JE X e te):JOp X (some e) (lN te):=by
 refine⟨λ δ M P Q w q=>h.mono δ _ _ _ (λ d M1 q=>?_) q,PO.weak (Lj h.p) λ σ H Q q=>?_⟩
 ·cases d <;> first | exact q.elim | exact w _ _ q
 ·obtain⟨F,α,δ,M,r,q⟩:=q
  refine⟨F,α,δ,M,r,h.mono δ _ _ _ (λ d M1 q v α1 H1 e1 o1 r1=>?_) q⟩
  cases d <;> first | exact q.elim | skip
  unfold Rep at r1
  exact⟨_,r1,q α1 H1 e1 o1⟩
noncomputable def Ry (te:DE) (tl th:DO):DE:=λ δ M Q=>te δ M λ d M1=>tl δ M1 λ lo M2=>th δ M2 λ hi M3=>match vw M3 d with
 | .lst xs=>Q (.lst (cutD xs lo hi)) M3
 | .scr xs=>Q (.lst (cutD (xs.map D.int) lo hi)) M3
 | .tup xs=>¬ (HT.sIx xs.length 0 lo=0∧HT.sIx xs.length xs.length hi=xs.length)∧Q (.tup (cutD xs lo hi)) M3
 | .str z=>z.length≤sizeLine∧Q (.str (Txt.slice z lo hi)) M3
 | _=>False
theorem Io {lo hi:Option Expr}{tl th:DO} (he:JE X e te) (hl:JOp X lo tl) (hh:JOp X hi th):JE X (.Subscript e (.Slice lo hi none p2) pos) (Ry te tl th):=by
 refine⟨λ δ M P Q w q=>he.mono δ _ _ _ (λ d M1 q=>hl.mono δ _ _ _ (λ i M2 q=>hh.mono δ _ _ _ (λ j M3 q=>?_) q) q) q,PE.weak (Hw (sl_list.or (sl_tup.or Rm)) he.p hl.p hh.p) λ σ H Q q=>?_⟩
 ·generalize vw M3 d=z at q ⊢
  cases z <;> first | exact q.elim | exact w _ _ q | exact⟨q.1,w _ _ q.2⟩
 ·obtain⟨F,α,δ,M,r,q⟩:=q
  refine⟨F,α,δ,M,r,he.mono δ _ _ _ (λ d M1 q v α1 H1 e1 o1 r1=>⟨F,α1,δ,M1,r.grow e1 o1,hl.mono δ _ _ _ (λ i M2 q α2 H2 e2 o2=>⟨F,α2,δ,M2,r.grow (e1.trans e2) o2,hh.mono δ _ _ _ (λ j M3 q α3 H3 e3 o3=>?_) q⟩) q⟩) q⟩
  have e13:=(e1.trans e2).trans e3
  have r3:=(e2.trans e3).rep r1
  have q2:(match vw M3 d with
   | .lst xs=>vK X.K F α3 H3 M3 Q (.lst (cutD xs i j)) M3
   | .scr xs=>vK X.K F α3 H3 M3 Q (.lst (cutD (xs.map D.int) i j)) M3
   | .tup xs=>¬ (HT.sIx xs.length 0 i=0∧HT.sIx xs.length xs.length j=xs.length)∧vK X.K F α3 H3 M3 Q (.tup (cutD xs i j)) M3
   | .str z=>z.length≤sizeLine∧vK X.K F α3 H3 M3 Q (.str (Txt.slice z i j)) M3
   | _=>False):=by
   generalize vw M3 d=z at q ⊢
   cases z <;> first | exact q.elim | exact vK.grow e13 _ _ q | exact⟨q.1,vK.grow e13 _ _ q.2⟩
  clear q
  generalize ez:vw M3 d=z at q2
  cases z <;> first | exact q2.elim | skip
  ·cases fC ez
   unfold Rep at r3
   exact .inr (.inr ⟨_,r3,q2.1,vK.now o3 q2.2 iQ⟩)
  ·obtain⟨a,vs,rfl,sq,zz⟩:=gZ o3 r3 ez
   have hl:=Reps.length _ _ zz
   refine .inr (.inl ⟨a,vs,rfl,sq,by rw[← hl];exact q2.1,λ p hp=>vK.new o3 hp q2.2 (fX o3 hp (Reps.cut zz i j))⟩)
  ·obtain⟨a,vs,rfl,sq,zz⟩:=dY o3 r3 ez
   exact .inl ⟨a,vs,rfl,SqL.of sq,λ p hp=>vK.new o3 hp q2 (fW o3 hp (Reps.cut zz i j))⟩
  ·cases lC ez
   unfold Rep at r3
   obtain⟨a,rfl,sq⟩:=r3
   refine .inl ⟨a,_,rfl,dB bM sq,λ p hp=>vK.new o3 hp q2 (fW o3 hp (Reps.cut (Reps.of_map _ _ (λ c=>bL) _) i j))⟩
noncomputable def Ip (te:DE):DE:=λ δ M Q=>te δ M λ d M1=>match d with | .int i=>Q (.int (-i)) M1 | _=>False
theorem O7 (h:JE X e te):JE X (.UnaryOp .USub e pos) (Ip te):=by
 refine⟨λ δ M P Q w q=>h.mono δ _ _ _ (λ d M1 q=>?_) q,PE.weak (U9 QZ h.p) λ σ H Q q=>?_⟩
 ·cases d <;> first | exact q.elim | exact w _ _ q
 ·obtain⟨F,α,δ,M,r,q⟩:=q
  refine⟨F,α,δ,M,r,h.mono δ _ _ _ (λ d M1 q v α1 H1 e1 o1 r1=>?_) q⟩
  cases d <;> first | exact q.elim | skip
  unfold Rep at r1
  exact⟨_,r1,q _ α1 H1 e1 o1 bL⟩
noncomputable def kW:G2:=λ x y M Q=>match vw M x,y with
 | .int i,.int j=>CMul i j∧Q (.int (i * j)) M
 | .lst xs,.int k=>(-(2 ^ 63)≤k∧k < 2 ^ 63∧xs.length * k.toNat≤sizeLine)∧Q (.lst (List.replicate k.toNat xs).flatten) M
 | .str z,.int k=>MulOk z k∧Q (.str (Txt.mul z k)) M
 | _,_=>False
theorem BX:OpR X (binaryOp .Mult) (λ x y H Q=>∃ z k,x = .str z∧y = .int k∧MulOk z k∧Q (.str (Txt.mul z k)) H):=by
 intro pins s σ H x y v u Q I rx ry h
 obtain⟨z,k,rfl,rfl,ok,q⟩:=h
 obtain⟨t,rfl⟩:=rx
 obtain⟨t',rfl⟩:=ry
 exact SB.mul ok λ t' k=>⟨.str _,H,I.tok _,⟨_,rfl⟩,q⟩
theorem fG:JO X .Mult kW:=by
 refine⟨λ x y M P Q w q=>?_,λ pins s σ H x y v u Q I rx ry h=>?_⟩
 ·unfold kW at q ⊢
  generalize vw M x=a at q ⊢
  split at q <;> first | exact q.elim | exact⟨q.1,w _ _ q.2⟩
 ·obtain⟨F,α,M,da,db,o,ra,rb,h⟩:=h
  unfold kW at h
  generalize e1:vw M da=a at h
  split at h <;> first | exact h.elim | skip
  ·cases nG e1
   unfold Rep at ra rb
   exact QM pins s σ H x y v u Q I rx ry ⟨_,_,ra,rb,h.1,vK.now o h.2 bL⟩
  ·obtain⟨a,vs,rfl,qa,za⟩:=dY o ra e1
   unfold Rep at rb
   subst rb
   have l1:=Reps.length _ _ za
   exact Rh pins s σ H _ _ v u Q I rx ry ⟨a,_,vs,rfl,rfl,qa,h.1.1,h.1.2.1,by rw[← l1];exact h.1.2.2,λ p hp=>vK.new o hp h.2 (fW o hp (Reps.rep za _))⟩
  ·cases fC e1
   unfold Rep at ra rb
   exact BX pins s σ H x y v u Q I rx ry ⟨_,_,ra,rb,h.1,vK.now o h.2 iQ⟩
noncomputable def BZ:D→Option Nat
 | .lst ds=>some ds.length
 | .tup ds=>some ds.length
 | .scr ns=>some ns.length
 | .str z=>if z.length≤sizeLine then some z.length else none
 | .dct ks _=>some ks.length
 | _=>none
noncomputable def kY:GN:=λ ds M Q=>match ds with
 | [d]=>∃ n:Nat,BZ (vw M d)=some n∧Q (.int n) M
 | _=>False
theorem iu:JB X (.builtin "len") kY:=by
 refine⟨λ ds M P Q w q=>?_,λ pins s σ H xs us Q I rs h=>?_⟩
 ·match ds,q with
  | [d],⟨n,e,q⟩=>exact⟨n,e,w _ _ q⟩
 ·obtain⟨F,α,M,ds,o,rr,h⟩:=h
  match ds,h,rr with
  | [d],⟨n,en,q⟩,rr=>
   obtain⟨v,ev,rv⟩:=m5 rr
   subst ev
   generalize e1:vw M d=z at en
   cases z <;> first | (cases en;done) | skip
   ·cases fC e1
    unfold Rep at rv
    subst rv
    rename_i y _
    have en:(if y.length≤sizeLine then some y.length else none)=some n:=en
    by_cases hy:y.length≤sizeLine
    ·rw[if_pos hy] at en
     cases en
     exact wz pins s σ H _ us Q I rs ⟨_,rfl,hy,vK.now o q bL⟩
    ·rw[if_neg hy] at en
     cases en
   ·cases en
    obtain⟨a,vs,rfl,sq,zz⟩:=gZ o rv e1
    have hl:=Reps.length _ _ zz
    refine jF pins s σ H _ us Q I rs ⟨a,vs,rfl,.inr sq,?_⟩
    rw[← hl];exact vK.now o q bL
   ·cases en
    obtain⟨a,vs,rfl,sq,zz⟩:=dY o rv e1
    have hl:=Reps.length _ _ zz
    refine jF pins s σ H _ us Q I rs ⟨a,vs,rfl,.inl (SqL.of sq),?_⟩
    rw[← hl];exact vK.now o q bL
   ·cases en
    obtain⟨a,vs,rfl,sq,hl0,zz⟩:=nF o rv e1
    have hl:=Reps.length _ _ zz
    obtain⟨u',rfl,Z4⟩:=vals1 rs
    cases Z4
    refine Vj I sq λ t s' I'=>⟨.int _,H,I',⟨t,rfl⟩,?_⟩
    rw[List.length_zip,← hl,hl0,Nat.min_self,← hl0]
    exact vK.now o q bL
   ·cases lC e1
    cases en
    unfold Rep at rv
    obtain⟨a,rfl,sq⟩:=rv
    refine jF pins s σ H _ us Q I rs ⟨a,_,rfl,.inl (dB bM sq),?_⟩
    rw[List.length_map];exact vK.now o q bL
noncomputable def kd:D→Option String
 | .non=>some "NoneType"
 | .bl _=>some "bool"
 | .int _=>some "int"
 | .str _=>some "str"
 | .tup _=>some "tuple"
 | .lst _ | .scr _=>some "list"
 | .dct _ _=>some "dict"
 | _=>none
noncomputable def Xa (k n:String):Option Bool:=if (["int","bool","str","tuple","list","dict"].contains n&&["NoneType","bool","int","str","tuple","list","dict"].contains k)=true then some (k==n || (k == "bool" && n == "int")) else none
noncomputable def gk (n:String) (d:D):Option Bool:=match kd d with
 | some k=>Xa k n
 | none=>none
theorem Mg {K:W.Frag}:(["int","bool","str","tuple","list","dict"].all λ n=>["NoneType","bool","int","str","tuple","list","dict"].all λ k=>W.kitOne K (.type k) (.type n)==Xa k n)=true:=rfl
theorem Mh {K:W.Frag}{k n:String}{b:Bool} (h:Xa k n=some b):W.kitOne K (.type k) (.type n)=some b:=by
 have h0:=h
 unfold Xa at h
 split at h
 ·rename_i hc
  rw[Bool.and_eq_true,List.contains_iff_mem,List.contains_iff_mem] at hc
  rw[eq_of_beq (List.all_eq_true.mp (List.all_eq_true.mp (Mg (K:=K)) n hc.1) k hc.2),h0]
 ·cases h
structure InsOk (K:W.Frag) (C:Addr):Prop where
 cl:Cls K C
 ha:W.findIn K (.ref C) "__class__"=some (some (.builtin "object.__class__"))
 hn:W.specialIn K (.builtin "object.__class__") "__get__"=some (some (.builtin "getset_descriptor.__get__"))
 htk:W.takesIn K (.builtin "object.__class__")=some true
 hm:W.mroIn K C (.type "object")=some true
noncomputable def Yd:D→Option Value
 | .non=>some (.type "NoneType")
 | .bl _=>some (.type "bool")
 | .int _=>some (.type "int")
 | .str _=>some (.type "str")
 | .tup _=>some (.type "tuple")
 | .lst _ | .scr _=>some (.type "list")
 | .dct _ _=>some (.type "dict")
 | .ins C _ _=>some (.ref C)
 | _=>none
theorem Mi {K:W.Frag}{n:String}{d:D}{b:Bool} (h:gk n d=some b):∃ t,Yd d=some t∧W.kitOne K t (.type n)=some b∧∀ C ns es,d≠.ins C ns es:=by
 cases d <;> first | (cases h;done) | exact⟨_,rfl,Mh h,λ _ _ _ z=>by cases z⟩
theorem yX {pins:List (Addr×Obj)}{s:Shared}{σ:L2.St}{H:Hp} (I:L2.Inv X pins σ H s) {F α:List Addr}{M:Ms}{d:D}{x:V}{u t c:Value}{bb:Bool}{Q:Value→Shared→Prop} (o:OK X.K F α H M) (r:Rep X.K α (hid F α M H) d x) (rx:RelV x u)
  (et:Yd (vw M d)=some t) (hi:∀ C ns es,vw M d = .ins C ns es→InsOk X.K C) (e:W.kitOne X.K t c=some bb) (h:∀ tk,Q (.bool bb) { s with toks:=tk }):wpAny (model X.prog X.w) X.A (call (.builtin "isinstance") [u,c]) Q X.xe s:=by
 generalize e1:vw M d=z at et hi
 cases z <;> first | (cases et;done) | skip
 case non=>
  have:d = .non:=by cases d with
   | loc k=>rcases gj e1 with e | ⟨y,hk,e⟩ <;> first | cases e | (cases y <;> cases e)
   | _=>exact e1
  subst this
  unfold Rep at r;subst r;cases et
  exact gW I rx .non e h
 case bl bz=>
  have:d = .bl bz:=by cases d with
   | loc k=>rcases gj e1 with e | ⟨y,hk,e⟩ <;> first | cases e | (cases y <;> cases e)
   | _=>exact e1
  subst this
  unfold Rep at r;subst r;cases et
  exact gW I rx (.bl _) e h
 case int=>
  cases nG e1
  unfold Rep at r;subst r;cases et
  exact gW I rx (.int _) e h
 case str=>
  cases fC e1
  unfold Rep at r;subst r;cases et
  exact gW I rx (.str _) e h
 case tup=>
  cases et
  obtain⟨a,vs,rfl,sq,zz⟩:=gZ o r e1
  obtain rfl:u=Value.ref a:=rx
  obtain⟨its,rv,⟨ob,h1,h2,_⟩,_⟩:=I.tuple sq
  exact W.kia_one W.kitx_tuple I.kIn ⟨ob,h1,h2⟩ e (λ z=>nomatch z) h
 case lst=>
  cases et
  obtain⟨a,vs,rfl,sq,zz⟩:=dY o r e1
  exact gW I rx (.lst sq) e h
 case dct=>
  cases et
  obtain⟨a,vs,rfl,sq,hl,zz⟩:=nF o r e1
  obtain rfl:u=Value.ref a:=rx
  obtain⟨_,_,vs2,_,ob,_,_,h1,h2,_⟩:=qu I.hok sq
  exact W.kia_one W.kitx_dict I.kIn ⟨ob,h1,h2.1⟩ e (λ z=>nomatch z) h
 case ins=>
  cases et
  obtain⟨a,dx,vs,rfl,sq,hl,zz⟩:=Rq o r e1
  have k:=hi _ _ _ rfl
  exact gW I rx (.ins sq k.cl k.ha k.hn k.htk k.hm) e h
 case scr=>
  cases et
  cases lC e1
  unfold Rep at r
  obtain⟨a,rfl,sq⟩:=r
  obtain rfl:u=Value.ref a:=rx
  obtain⟨its,rv,⟨ob,n,h1,h2,_⟩,_⟩:=I.list (dB bM sq)
  exact W.kia_one W.kitx_list I.kIn ⟨ob,h1,h2⟩ e (λ z=>nomatch z) h
noncomputable def yZ (K:W.Frag):GN:=λ ds M Q=>match ds with
 | [d,.ty n]=>∃ b,gk n (vw M d)=some b∧Q (.bl b) M
 | [d,.cls C]=>∃ t b,Yd (vw M d)=some t∧(∀ C ns es,vw M d = .ins C ns es→InsOk K C)∧W.kitOne K t (.ref C)=some b∧Q (.bl b) M
 | _=>False
theorem Ca:JB X (.builtin "isinstance") (yZ X.K):=by
 refine⟨λ ds M P Q w q=>?_,λ pins s σ H xs us Q I rs h=>?_⟩
 ·match ds,q with
  | [d,.ty n],⟨b,e,q⟩=>exact⟨b,e,w _ _ q⟩
  | [d,.cls n],⟨t,b,e1,e2,e3,q⟩=>exact⟨t,b,e1,e2,e3,w _ _ q⟩
 ·obtain⟨F,α,M,ds,o,rr,h⟩:=h
  match ds,h,rr with
  | [d,.ty n],⟨b,e,q⟩,rr=>
   obtain⟨v,u,ev,r1,r2⟩:=sH rr
   subst ev
   unfold Rep at r2
   subst r2
   obtain⟨u1,u2,rfl,q1,q2⟩:=vals2 rs
   obtain rfl:u2=Value.type n:=q2
   obtain⟨t,e1,e2,e3⟩:=Mi (K:=X.K) e
   exact yX I o r1 q1 e1 (λ C ns es z=>absurd z (e3 C ns es)) e2 λ tk=>⟨.bl b,H,I.tok tk,rfl,vK.now o q cD⟩
  | [d,.cls C],⟨t,b,e1,e2,e3,q⟩,rr=>
   obtain⟨v,u,ev,r1,r2⟩:=sH rr
   subst ev
   unfold Rep at r2
   subst r2
   obtain⟨u1,u2,rfl,q1,q2⟩:=vals2 rs
   obtain rfl:u2=Value.ref C:=q2
   exact yX I o r1 q1 e1 e2 e3 λ tk=>⟨.bl b,H,I.tok tk,rfl,vK.now o q cD⟩
noncomputable def Ir:GN:=λ ds M Q=>match ds with
 | [d]=>match vw M d with
  | .lst xs=>Q (.tup xs) M
  | .tup xs=>Q (.tup xs) M
  | _=>False
 | _=>False
theorem Iu:JB X (.type "tuple") Ir:=by
 refine⟨λ ds M P Q w q=>?_,λ pins s σ H xs us Q I rs h=>?_⟩
 ·match ds,q with
  | [d],q=>
   have q:(match vw M d with | .lst xs=>P (.tup xs) M | .tup xs=>P (.tup xs) M | _=>False):=q
   show (match vw M d with | .lst xs=>Q (.tup xs) M | .tup xs=>Q (.tup xs) M | _=>False)
   generalize vw M d=z at q ⊢
   cases z <;> first | exact q.elim | exact w _ _ q
 ·obtain⟨F,α,M,ds,o,rr,h⟩:=h
  match ds,h,rr with
  | [d],q,rr=>
   obtain⟨v,ev,rv⟩:=m5 rr
   subst ev
   have q:(match vw M d with | .lst xs=>vK X.K F α H M Q (.tup xs) M | .tup xs=>vK X.K F α H M Q (.tup xs) M | _=>False):=q
   generalize e1:vw M d=z at q
   cases z <;> first | exact q.elim | skip
   ·cases BJ e1
    obtain⟨a,vs,rfl,sq,zz⟩:=gZ o rv e1
    exact mZ pins s σ H _ us Q I rs ⟨a,vs,rfl,.inr ⟨sq,vK.now o q rv⟩⟩
   ·obtain⟨a,vs,rfl,sq,zz⟩:=dY o rv e1
    exact mZ pins s σ H _ us Q I rs ⟨a,vs,rfl,.inl ⟨SqL.of sq,λ p hp=>vK.new o hp q (fX o hp zz)⟩⟩
abbrev GF:=List D→Ms→(OD→Ms→Prop)→Prop
noncomputable def rDF (K:W.Frag) (g:GF):List V→Hp→VK→Prop:=λ xs H Q=>∃ F α M ds,OK K F α H M∧Reps K α (hid F α M H) ds xs∧g ds M (fK K F α H M Q)
structure JBF (X:Cx) (f:Value) (g:GF):Prop where
 mono:∀ xs M (P Q:OD→Ms→Prop),(∀ d M,P d M→Q d M)→g xs M P→g xs M Q
 p:CallR X f (rDF X.K g)
noncomputable def Ye (g:GF) (tt:DA):DF:=λ δ M Q=>tt δ M λ ds M1=>g ds M1 Q
theorem Yg {T:String}{g:GF} (o:JBF X (.type T) g) (hm:X.mg x=none) (hv:bootBuiltins x=some (.type T)) (ha:JA X (e::es) tt) (hg:Gl X x:=by rfl) (hn:x≠"__name__":=by decide) (hdb:(x==("__debug__" : Str))=false:=by decide)
  (he:starEach (e::es) X.env=(false,eval e X.env)::starEach es X.env:=by rfl) (hpl:(backTo pos (starEach es X.env)).any (·.1)=false:=by rfl):JF X (.Call (.Name x p) (e::es) [] pos) (Ye g tt):=by
 refine⟨λ δ M P Q w q=>ha.mono δ _ _ _ (λ ds M1 q=>o.mono _ _ _ _ w q) q,PE.weak (vm o.p hg hm hv ha.p hn hdb he hpl) λ σ H Q q=>?_⟩
 obtain⟨F,α,δ,M,r,q⟩:=q
 exact⟨F,α,δ,M,r,ha.mono δ _ _ _ (λ ds M1 q vs α1 H1 e1 o1 r1=>⟨F,α1,M1,ds,o1,r1,o.mono _ _ _ _ (fK.grow e1) q⟩) q⟩
noncomputable def Cd:GF:=λ ds M Q=>match ds with
 | [d]=>match vw M d with
  | .lst xs=>Q (.lst xs) M
  | .tup xs=>Q (.lst xs) M
  | .scr xs=>Q (.lst (xs.map D.int)) M
  | _=>False
 | _=>False
theorem Iv:JBF X (.type "list") Cd:=by
 refine⟨λ ds M P Q w q=>?_,λ pins s σ H xs us Q I rs h=>?_⟩
 ·match ds,q with
  | [d],q=>
   have q:(match vw M d with | .lst xs=>P (.lst xs) M | .tup xs=>P (.lst xs) M | .scr xs=>P (.lst (xs.map D.int)) M | _=>False):=q
   show (match vw M d with | .lst xs=>Q (.lst xs) M | .tup xs=>Q (.lst xs) M | .scr xs=>Q (.lst (xs.map D.int)) M | _=>False)
   generalize vw M d=z at q ⊢
   cases z <;> first | exact q.elim | exact w _ _ q
 ·obtain⟨F,α,M,ds,o,rr,h⟩:=h
  match ds,h,rr with
  | [d],q,rr=>
   obtain⟨v,ev,rv⟩:=m5 rr
   subst ev
   have q:(match vw M d with | .lst xs=>fK X.K F α H M Q (.lst xs) M | .tup xs=>fK X.K F α H M Q (.lst xs) M | .scr xs=>fK X.K F α H M Q (.lst (xs.map D.int)) M | _=>False):=q
   generalize e1:vw M d=z at q
   cases z <;> first | exact q.elim | skip
   ·obtain⟨a,vs,rfl,sq,zz⟩:=gZ o rv e1
    exact jG pins s σ H _ us Q I rs ⟨a,vs,rfl,.inr sq,λ p hp=>q p _ α H Ext.refl o hp ⟨vs,rfl,zz⟩⟩
   ·obtain⟨a,vs,rfl,sq,zz⟩:=dY o rv e1
    exact jG pins s σ H _ us Q I rs ⟨a,vs,rfl,.inl (SqL.of sq),λ p hp=>q p _ α H Ext.refl o hp ⟨vs,rfl,zz⟩⟩
   ·cases lC e1
    unfold Rep at rv
    obtain⟨a,rfl,sq⟩:=rv
    exact jG pins s σ H _ us Q I rs ⟨a,_,rfl,.inl (dB bM sq),λ p hp=>q p _ α H Ext.refl o hp ⟨_,rfl,Reps.of_map _ _ (λ c=>bL) _⟩⟩
end
end L3
namespace L3
open PySem PySem.Spec PyProof.Rows L2
structure FldOk (K:W.Frag) (C:Addr) (f:Str):Prop where
 cl:Cls K C
 na:NoAttr K C f
section
variable {X:Cx}{a b c e o value:Expr}{es rest:List Expr}{ta tb tc te to tv:DE}{tA:DT}{tt:DA}{pos pos' p p2 p3 apos cpos:Pos}{x f m:Str}
structure MethOk (P:Program) (w:World) (K:W.Frag) (mg:Str→Option Value) (base:Heap) (k:Nat) (C:Addr) (m:Str) (g:GN):Prop where
 mono:monoN g
 cl:Cls K C
 ok:∃ f fd ps,Meth K C m f∧Binds K fd ps []∧FnOk P w K mg base CX0 k f fd ps (lSp K g)
structure MakeOk (P:Program) (w:World) (K:W.Frag) (mg:Str→Option Value) (base:Heap) (k:Nat) (C:Addr) (g:GN):Prop where
 mono:monoN g
 ok:∃ f fd ps,Mk K C f∧Binds K fd ps []∧FnOk P w K mg base CX0 k f fd ps (lSp K g)
theorem Mj {α:List Addr}{M:Ms}{p:Addr}{o:OD} (h:α.length=M.length):lv (α++[p]) (M++[some o])=lv α M++[p]:=by rw[jA h];rfl
end
mutual
noncomputable def lb (n:Nat):D→Prop
 | .loc k=>k < n
 | .tup ds | .lst ds | .dct _ ds | .ins _ _ ds | .exc _ _ ds=>lbs n ds
 | .non | .bl _ | .int _ | .str _ | .ty _ | .scr _ | .cls _=>True
noncomputable def lbs (n:Nat):List D→Prop
 | []=>True
 | d::ds=>lb n d∧lbs n ds
end
mutual
theorem Rep.lb {K:W.Frag}{α:List Addr}{H:Hp}:∀ (d:D) (v:V),Rep K α H d v→L3.lb α.length d
 | .non,v,_ | .bl _,v,_ | .int _,v,_ | .str _,v,_ | .ty _,v,_ | .scr _,v,_ | .cls _,v,_=>by unfold L3.lb;trivial
 | .loc k,v,h=>by
  unfold Rep at h;unfold L3.lb
  obtain⟨a,e,_⟩:=h
  exact(List.getElem?_eq_some_iff.mp e).1
 | .tup ds,v,h=>by
  unfold Rep at h;unfold L3.lb
  obtain⟨a,vs,r,q,z⟩:=h
  exact Reps.lb ds vs z
 | .lst ds,v,h=>by
  unfold Rep at h;unfold L3.lb
  obtain⟨a,vs,r,q,z⟩:=h
  exact Reps.lb ds vs z
 | .dct ks ds,v,h=>by
  unfold Rep at h;unfold L3.lb
  obtain⟨a,vs,r,q,l,z⟩:=h
  exact Reps.lb ds vs z
 | .ins C ns ds,v,h=>by
  unfold Rep at h;unfold L3.lb
  obtain⟨a,dx,vs,r,q,l,z⟩:=h
  exact Reps.lb ds vs z
 | .exc C ns ds,v,h=>by
  unfold Rep at h;unfold L3.lb
  obtain⟨a,vs,r,q,l,z⟩:=h
  exact Reps.lb ds vs z
theorem Reps.lb {K:W.Frag}{α:List Addr}{H:Hp}:∀ (d:List D) (v:List V),Reps K α H d v→L3.lbs α.length d
 | [],v,h=>by unfold L3.lbs;trivial
 | d::ds,v,h=>by
  unfold Reps at h;unfold L3.lbs
  obtain⟨u,r,q,z,y⟩:=h
  exact⟨Rep.lb d u z,Reps.lb ds r y⟩
end
mutual
theorem Rep.shrink {K:W.Frag}{α β:List Addr}{H:Hp} (p:α <+: β):∀ (d:D) (v:V),L3.lb α.length d→Rep K β H d v→Rep K α H d v
 | .non,v,_,h | .bl _,v,_,h | .int _,v,_,h | .str _,v,_,h | .ty _,v,_,h | .scr _,v,_,h | .cls _,v,_,h=>by unfold Rep at h ⊢;exact h
 | .loc k,v,n,h=>by
  unfold Rep at h ⊢;unfold L3.lb at n
  obtain⟨a,e,r⟩:=h
  obtain⟨t,rfl⟩:=p
  rw[List.getElem?_append_left n] at e
  exact⟨a,e,r⟩
 | .tup ds,v,n,h=>by
  unfold Rep at h ⊢;unfold L3.lb at n
  obtain⟨a,vs,r,q,z⟩:=h
  exact⟨a,vs,r,q,Reps.shrink p ds vs n z⟩
 | .lst ds,v,n,h=>by
  unfold Rep at h ⊢;unfold L3.lb at n
  obtain⟨a,vs,r,q,z⟩:=h
  exact⟨a,vs,r,q,Reps.shrink p ds vs n z⟩
 | .dct ks ds,v,n,h=>by
  unfold Rep at h ⊢;unfold L3.lb at n
  obtain⟨a,vs,r,q,l,z⟩:=h
  exact⟨a,vs,r,q,l,Reps.shrink p ds vs n z⟩
 | .ins C ns ds,v,n,h=>by
  unfold Rep at h ⊢;unfold L3.lb at n
  obtain⟨a,dx,vs,r,q,l,z⟩:=h
  exact⟨a,dx,vs,r,q,l,Reps.shrink p ds vs n z⟩
 | .exc C ns ds,v,n,h=>by
  unfold Rep at h ⊢;unfold L3.lb at n
  obtain⟨a,vs,r,q,l,z⟩:=h
  exact⟨a,vs,r,q,l,Reps.shrink p ds vs n z⟩
theorem Reps.shrink {K:W.Frag}{α β:List Addr}{H:Hp} (p:α <+: β):∀ (d:List D) (v:List V),L3.lbs α.length d→Reps K β H d v→Reps K α H d v
 | [],v,_,h=>by unfold Reps at h ⊢;exact h
 | d::ds,v,n,h=>by
  unfold Reps at h ⊢;unfold L3.lbs at n
  obtain⟨u,r,q,z,y⟩:=h
  exact⟨u,r,q,Rep.shrink p d u n.1 z,Reps.shrink p ds r n.2 y⟩
end
theorem RepM.lbs {K:W.Frag}{α:List Addr}{Hh H:Hp}{o:OD}{a:Addr} (h:RepM K α Hh H o a):match o with | .lst ds=>L3.lbs α.length ds | .dct _ ds=>L3.lbs α.length ds | .ins _ _ ds=>L3.lbs α.length ds | .fz _ _ _ ds=>L3.lbs α.length ds:=by
 cases o with
 | lst ds=>obtain⟨vs,_,r⟩:=h;exact Reps.lb _ _ r
 | dct ks ds=>obtain⟨vs,_,_,r⟩:=h;exact Reps.lb _ _ r
 | ins C ns ds=>obtain⟨dx,vs,_,_,r⟩:=h;exact Reps.lb _ _ r
 | fz k ep ks ds=>obtain⟨_,vs,_,_,r⟩:=h;exact Reps.lb _ _ r
theorem OK.thaw {K:W.Frag}{F α0 α:List Addr}{H0 H:Hp}{M N:Ms} (h0:OK K F α0 H0 M) (h:OK K F α H (M++N)) (pre:α0 <+: α):OK K F α0 H M∧Same (hid F α (M++N) H) (hid F α0 M H):=by
 obtain⟨β,rfl⟩:=pre
 have hl0:=h0.ml
 have Z5:lv (α0++β) (M++N)=lv α0 M++lv β N:=jA hl0
 have sm:Same (hid F (α0++β) (M++N) H) (hid F α0 M H):=λ b y e=>by
  obtain⟨z,q⟩:=bG e
  rw[Z5] at z
  show hide _ H b=_
  refine dO e (λ w=>z ?_) q
  ·simp only [List.mem_append] at w ⊢
   rcases w with w | w
   ·exact .inl (.inl w)
   ·exact .inr w
 refine⟨⟨hl0,h0.nd,λ a ha=>⟨(h0.fr a ha).1,(h.fr a ha).2⟩,λ a ha=>h.al a (List.mem_append_left _ ha),λ k y hk=>?_,h.tb⟩,sm⟩
 have hk':k < M.length:=(List.getElem?_eq_some_iff.mp hk).1
 obtain⟨a,ea,ra⟩:=h.own k y (by rw[List.getElem?_append_left hk'];exact hk)
 rw[List.getElem?_append_left (by omega)] at ea
 obtain⟨a0,Ut,ra0⟩:=h0.own k y hk
 rw[ea] at Ut;cases Ut
 have hb:=ra0.lbs
 refine⟨a,ea,?_⟩
 cases y with
 | lst ds=>
  obtain⟨vs,q,r⟩:=ra
  exact⟨vs,q,Reps.shrink (List.prefix_append _ _) _ _ hb (Reps.mono (List.prefix_refl _) sm _ _ r)⟩
 | dct ks ds=>
  obtain⟨vs,q,l,r⟩:=ra
  exact⟨vs,q,l,Reps.shrink (List.prefix_append _ _) _ _ hb (Reps.mono (List.prefix_refl _) sm _ _ r)⟩
 | ins C ns ds=>
  obtain⟨dx,vs,q,l,r⟩:=ra
  exact⟨dx,vs,q,l,Reps.shrink (List.prefix_append _ _) _ _ hb (Reps.mono (List.prefix_refl _) sm _ _ r)⟩
 | fz k ep ks ds=>
  obtain⟨_,vs,q,l,r⟩:=ra
  exact⟨ra0.1,vs,q,l,Reps.shrink (List.prefix_append _ _) _ _ hb (Reps.mono (List.prefix_refl _) sm _ _ r)⟩
section
variable {X:Cx}{a b c e o value:Expr}{es rest:List Expr}{ta tb tc te to tv:DE}{tA:DT}{tt:DA}{pos pos' p p2 p3 apos cpos:Pos}{x f m:Str}
end
end L3
namespace L3
open PySem PySem.Spec PyProof.Rows L2
section
variable {P:Program}{w:World}{K:W.Frag}{mg:Str→Option Value}{base:Heap}
theorem Yh {x qual:Str}{st:Stmt}{f:Addr}{fd:FuncData}{N ps:List Str}{k:Nat}{body:List Stmt}{scope:Scope}{tb:DS} (F:Fun K x qual st f fd) (eb:defBody st=body) (es:defScope st=scope) (S:FnScope N ps scope)
  (hJ:∀ (cdv:Value) (A:Around) (outer:List Env) (s:Shared) (H:Hp) (E:XK),Room k (A.deeper (envOfC qual scope s.heap.objs.size f cdv))→JB' (nj CX0 P w K mg base N qual scope f cdv A outer s H E).nox body tb) :
  FnOk P w K mg base CX0 (k+1) f fd ps (lSp K (cl (cQ N.length ps.length tb))):=by
 subst eb es
 exact F.ok S (λ vs H Q E ⟨F,α,M,ds,o,r,hn,hl,q⟩=>by rw[← Reps.length _ _ r];exact hl) λ cdv A outer s H vs Q E hr h=>let ⟨t,q,z⟩:=Ih (ps:=ps) (hJ cdv A outer s H E hr) rfl h;⟨t,q.p,z⟩
end
abbrev GM:=D→List D→Ms→DK→Prop
noncomputable def rDm (K:W.Frag) (g:GM):V→List V→Hp→VK→Prop:=λ x xs H Q=>∃ F α M d ds,OK K F α H M∧Rep K α (hid F α M H) d x∧Reps K α (hid F α M H) ds xs∧g d ds M (vK K F α H M Q)
structure JM (X:Cx) (id:String) (g:GM):Prop where
 mono:∀ d ds M (P Q:DK),(∀ d M,P d M→Q d M)→g d ds M P→g d ds M Q
 p:MtR X id (rDm X.K g)
noncomputable def Yi (T:String) (d:D):Bool:=match d with
 | .lst _ | .scr _=>T == "list"
 | .str _=>T == "str"
 | .int _=>T == "int"
 | .dct _ _=>T == "dict"
 | _=>false
section
variable {X:Cx}{a b c e o value:Expr}{es rest:List Expr}{ta tb tc te to tv:DE}{tA:DT}{tt:DA}{pos pos' p p2 p3 apos cpos:Pos}{x f m name:Str}{T id:String}{g:GM}
theorem Rz {F α:List Addr}{H:Hp}{M:Ms}{d:D}{v:V} (ok:OK X.K F α H M) (r:Rep X.K α (hid F α M H) d v) (h:Yi T (vw M d)=true):XC X.K T v H:=by
 generalize e1:vw M d=z at h
 cases z <;> first | (cases h;done) | skip
 ·cases nG e1
  unfold Rep at r;subst r
  exact beq_iff_eq.mp h
 ·cases fC e1
  unfold Rep at r;subst r
  exact beq_iff_eq.mp h
 ·obtain⟨a,vs,rfl,sq,_⟩:=dY ok r e1
  exact .inl ⟨beq_iff_eq.mp h,vs,SqL.of sq⟩
 ·obtain⟨a,vs,rfl,sq,_⟩:=nF ok r e1
  exact .inr (.inr (.inl ⟨beq_iff_eq.mp h,.inl ⟨_,sq⟩⟩))
 ·cases lC e1
  unfold Rep at r
  obtain⟨a,rfl,sq⟩:=r
  exact .inl ⟨beq_iff_eq.mp h,_,dB bM sq⟩
noncomputable def zc (T:String) (g:GM) (to:DE) (tt:DA):DE:=λ δ M Q=>to δ M λ d M1=>Yi T (vw M1 d)=true∧tt δ M1 λ ds M2=>g d ds M2 Q
theorem zf (jm:JM X id g) (pa:PlainAttrs T) (slot:Slot T name id) (hty:typeOf (.builtin id)=pure (.type "method_descriptor")) (ho:JE X o to) (ha:JA X (e::es) tt)
  (hbase:attributeBase o name X.env (eval o X.env)=eval o X.env:=by rfl)
  (hfew:((backTo cpos (starEach (e::es) X.env)).all (λ x=>!x.1)&&(backToKw cpos (keywordEach [] X.env)).all (λ x=>x.1.isSome)
   && decide ((e::es).length+([]:List Keyword).length+(if ([]:List Keyword).isEmpty then 0 else 1) < 30))=true:=by rfl)
  (hline:(apos.endLine==cpos.line)=true:=by rfl) (hs:starEach (e::es) X.env=(false,eval e X.env)::starEach es X.env:=by rfl) (hplain:(backTo cpos (starEach es X.env)).any (·.1)=false:=by rfl) :
  JE X (.Call (.Attribute o name apos) (e::es) [] cpos) (zc T g to tt):=by
 refine⟨λ δ M P Q w q=>ho.mono δ _ _ _ (λ d M1 q=>⟨q.1,ha.mono δ _ _ _ (λ ds M2 q=>jm.mono _ _ _ _ _ w q) q.2⟩) q,PE.weak (Vp pa slot hty jm.p ho.p ha.p hbase hfew hline hs hplain) λ σ H Q q=>?_⟩
 obtain⟨F,α,δ,M,r,q⟩:=q
 refine⟨F,α,δ,M,r,ho.mono δ _ _ _ (λ d M1 q v α1 H1 e1 o1 r1=>⟨Rz o1 r1 q.1,F,α1,δ,M1,r.grow e1 o1,ha.mono δ _ _ _ (λ ds M2 q vs α2 H2 e2 o2 r2=>?_) q.2⟩) q⟩
 exact⟨F,α2,M2,d,ds,o2,e2.rep r1,r2,jm.mono _ _ _ _ _ (vK.grow (e1.trans e2)) q⟩
theorem wM {F α:List Addr}{H:Hp}{M:Ms}{k:Nat}{ds:List D}{v:V} (ok:OK X.K F α H M) (r:Rep X.K α (hid F α M H) (.loc k) v) (h:M[k]? = some (some (.lst ds))) :
  ∃ a vs,v = .ref a∧H a=some (.lst vs)∧Reps X.K α (hid F α M H) ds vs∧∀ es ws,Reps X.K α (hid F α M H) es ws→OK X.K F α (upd H a (.lst ws)) (M.set k (some (.lst es)))∧Ext F α H M α (upd H a (.lst ws)) (M.set k (some (.lst es))):=by
 unfold Rep at r
 obtain⟨a,ea,rfl⟩:=r
 obtain⟨a',yS,vs,hq,rr⟩:=ok.own k _ h
 rw[ea] at yS;cases yS
 exact⟨a,vs,rfl,hq,rr,λ es ws rG=>ok.write (y:=.lst es) (z:=.lst ws) h ea λ Hh eh=>by subst eh;exact⟨ws,aP,rG⟩⟩
noncomputable def dj:GM:=λ d ds M Q=>match d,ds with
 | .loc k,[x]=>∃ es,M[k]? = some (some (.lst es))∧es.length < sizeLine∧Q .non (M.set k (some (.lst (es++[x]))))
 | _,_=>False
theorem jB:JM X "list.append" dj:=by
 refine⟨λ d ds M P Q w q=>?_,λ pins s σ H x xs v us Q I rx rs h=>?_⟩
 ·match d,ds,q with
  | .loc k,[x],⟨es,h1,h2,q⟩=>exact⟨es,h1,h2,w _ _ q⟩
 ·obtain⟨F,α,M,d,ds,ok,r,rr,h⟩:=h
  match d,ds,h,r,rr with
  | .loc k,[y],⟨es,h1,h2,q⟩,r,rr=>
   obtain⟨a,vs,rfl,hH,r1,wr⟩:=wM ok r h1
   obtain⟨u,eu,ru⟩:=m5 rr
   subst eu
   obtain⟨o2,e2⟩:=wr (es++[y]) (vs++[u]) (Reps.append _ _ _ _ r1 (Reps.one ru))
   exact vB pins s σ H _ _ v us Q I rx rs ⟨a,vs,u,rfl,rfl,hH,by rw[← Reps.length _ _ r1];exact h2,q _ α _ e2 o2 gB⟩
noncomputable def vN (to ti:DE):DG:=λ v δ M Q=>to δ M λ o M1=>ti δ M1 λ i M2=>match o with
 | .loc k=>match M2[k]?,i with
  | some (some (.lst ds)),.int j=>∃ n,Hx ds.length j=some n∧Q δ (M2.set k (some (.lst (ds.set n v))))
  | _,_=>False
 | _=>False
theorem Iw (ho:JE X o to) (hi:JE X e te)
  (ha:∀ v,assign (.Subscript o e pos) X.env v=(do
   let ov ← holding [v] (eval o X.env)
   let iv ← holding [v,ov] (eval e X.env)
   standAt pos
   holding [v,ov,iv] (setItem ov iv v)
   release [v,ov,iv] []):=by intro _;rfl):JG X (.Subscript o e pos) (vN to te):=by
 refine⟨λ d δ M P Q w q=>ho.mono δ _ _ _ (λ od M1 q=>hi.mono δ _ _ _ (λ i M2 q=>?_) q) q,PG.weak (QC ho.p hi.p set_list ha) λ v σ H Q q=>?_⟩
 ·cases od <;> first | exact q.elim | skip
  rename_i k
  simp only at q ⊢
  split at q
  ·obtain⟨n,h1,q⟩:=q
   exact⟨n,h1,w _ _ q⟩
  ·exact q.elim
 ·obtain⟨F,α,δ,M,d,r,rd,q⟩:=q
  refine⟨F,α,δ,M,r,ho.mono δ _ _ _ (λ od M1 q u α1 H1 e1 o1 r1=>⟨F,α1,δ,M1,r.grow e1 o1,hi.mono δ _ _ _ (λ i M2 q w α2 H2 e2 o2 r2=>?_) q⟩) q⟩
  cases od <;> first | exact q.elim | skip
  rename_i k
  simp only at q
  split at q
  ·rename_i ds j hk
   obtain⟨n,h1,q⟩:=q
   unfold Rep at r2
   subst r2
   obtain⟨a,vs,rfl,hH,rr,wr⟩:=wM o2 (e2.rep r1) hk
   have Z6:=(e1.trans e2).rep rd
   obtain⟨o3,e3⟩:=wr (ds.set n d) (vs.set n v) (Reps.set Z6 n _ _ rr)
   exact⟨a,vs,j,n,rfl,rfl,hH,by rw[← Reps.length _ _ rr];exact h1,q σ α2 _ ((e1.trans e2).trans e3) (r.grow ((e1.trans e2).trans e3) o3)⟩
  ·exact q.elim
end
end L3
namespace L3
open PySem PySem.Spec PyProof.Rows L2 PyProof.Rows.KTD
noncomputable def conK (K:W.Frag) (d:D) (u:Value):Prop:=∃ v,RelV v u∧∀ α H,Rep K α H d v
structure TabK (K:W.Frag) (a:Addr) (rows:List (Str×D)):Prop where
 lo:(a==sysModules)=false
 ex:∃ o es ep,K.lookup a=some o∧o.ExactDict∧o.data = .dict es ep∧Rows (conK K) es.toList rows
section
variable {prog:Program}{w:World}{A:Around}{E:Value→Shared→Prop}{s:Shared}{K:W.Frag}{a:Addr}{rows:List (Str×D)}{k:Str}{tk:Tok}
theorem TabK.get {Q:Option Value→Shared→Prop} (T:TabK K a rows) (hK:K.In s.heap) (h1:∀ d v,datumAt k rows=some d→conK K d v→Q (some v) { s with toks:=s.toks+1 }) (h2:datumAt k rows=none→Q none { s with toks:=s.toks+1 }) :
  wpAny (model prog w) A (dictGet a (.str k tk)) Q E s:=by
 obtain⟨o,es,ep,ho,hc,hd,hr⟩:=T.ex
 have ho:=hK _ _ ho
 unfold dictGet
 try with_reducible refine wpAny_holding ?_
 refine wpAny_bind (wpAny_pyHash_str (wpAny_bind (kt_dictFind_strs (s:={ s with toks:=s.toks+1 }) ho hd (by obtain⟨l⟩:=es;simpa using hr.exact) ?_)))
 have hq:Q (findBy (λ k v=>v.isStr k) es k) { s with toks:=s.toks+1 }:=by
  have hf:findBy (λ k v=>v.isStr k) es k=(es.toList.find? λ e=>e.key.isStr k).map (·.val):=by
   obtain⟨l⟩:=es
   simp[findBy]
  rw[hf]
  cases hat:datumAt k rows with
  | some d=>obtain⟨v,hv,hfl⟩:=hr.find_some hat;rw[hv];exact h1 d v hat hfl
  | none=>rw[hr.find_none hat];exact h2 hat
 rw[findBy_of_findIdx?] at hq
 cases hi:es.findIdx? λ e=>e.key.isStr k with
 | none=>rw[hi] at hq;exact wpAny_pure hq
 | some i=>rw[hi] at hq;exact wpAny_bind (wpAny_dictEntries (s:={ s with toks:=s.toks+1 }) ho hd (wpAny_pure hq))
end
section
variable {X:Cx}{a:Addr}{rows:List (Str×D)}
end
end L3
namespace L3
open PySem PySem.Spec PyProof.Rows L2
section
variable {P:Program}{w:World}{K:W.Frag}{mg:Str→Option Value}{base:Heap}
theorem dH {x:Str}{st:Stmt}{N ps:List Str}{k:Nat}{body:List Stmt}{scope:Scope}{tb:DS} (F:DefAt K mg x st) (eb:defBody st=body) (es:defScope st=scope) (S:FnScope N ps scope)
  (hb:∀ (kV doc pm:Value) (an:Option Addr) (cdv ct:Value) (us:List Value),us.length=ps.length→bindArgs (W.fnOf x x (defArgs st) (defBody st) (defScope st) .none kV doc pm an cdv ct) ⟨us,[]⟩=pure (ps.zip us))
  (hJ:∀ (f:Addr) (cdv:Value) (A:Around) (outer:List Env) (s:Shared) (H:Hp) (E:XK),Room k (A.deeper (envOfC x scope s.heap.objs.size f cdv))→JB' (nj CX0 P w K mg base N x scope f cdv A outer s H E).nox body tb) :
  Has P w K mg base (k+1) x ps (lSp K (cl (cQ N.length ps.length tb))):=
 F.hasQ eb es S hb (λ vs H Q E ⟨F,α,M,ds,o,r,hn,hl,q⟩=>by rw[← Reps.length _ _ r];exact hl) λ f cdv A outer s H vs Q E hr h=>Ih (ps:=ps) (hJ f cdv A outer s H E hr) rfl h
theorem Iz {x:Str}{st:Stmt}{N ps:List Str}{k:Nat}{body:List Stmt}{scope:Scope}{tb:DS} (F:DefAt K mg x st) (eb:defBody st=body) (es:defScope st=scope) (S:FnScope N ps scope)
  (hb:∀ (kV doc pm:Value) (an:Option Addr) (cdv ct:Value) (us:List Value),us.length=ps.length→bindArgs (W.fnOf x x (defArgs st) (defBody st) (defScope st) .none kV doc pm an cdv ct) ⟨us,[]⟩=pure (ps.zip us))
  (hJ:∀ (f:Addr) (cdv:Value) (A:Around) (outer:List Env) (s:Shared) (H:Hp) (E:XK),Room k (A.deeper (envOfC x scope s.heap.objs.size f cdv))→JB' (nj CX0 P w K mg base N x scope f cdv A outer s H E).nox body tb) :
  Has P w K mg base (k+1) x ps (lSp K (LR N.length ps.length tb)):=
 F.hasQ eb es S hb (λ vs H Q E ⟨F,α,M,ds,o,r,hl,q⟩=>by rw[← Reps.length _ _ r];exact hl) λ f cdv A outer s H vs Q E hr h=>Rr (ps:=ps) (hJ f cdv A outer s H E hr) rfl h
theorem iM {k:Nat}{x:Str}{ps:List Str}{g g':GP} (h:Has P w K mg base k x ps (lSp K (cl g))) (m:dh g') (i:∀ ds Q,g' ds Q→g ds Q):HasD P w K mg base k x ps (cl g'):=
 ⟨LQ m,let ⟨f,fd,m1,kp,b,F⟩:=h;⟨f,fd,m1,kp,b,F.imp λ vs H Q E ⟨F,α,M,ds,o,r,n,q⟩=>⟨F,α,M,ds,o,r,n,i _ _ q⟩⟩⟩
theorem RD {k:Nat}{x:Str}{ps:List Str}{g g':GN} (h:Has P w K mg base k x ps (lSp K g)) (m:monoN g') (i:∀ ds M Q,g' ds M Q→g ds M Q):HasD P w K mg base k x ps g':=
 ⟨m,let ⟨f,fd,m1,kp,b,F⟩:=h;⟨f,fd,m1,kp,b,F.imp λ vs H Q E ⟨F,α,M,ds,o,r,q⟩=>⟨F,α,M,ds,o,r,i _ _ _ q⟩⟩⟩
end
end L3
namespace L3
open PySem PySem.Spec PyProof.Rows L2
section
variable {K:W.Frag}{F α:List Addr}{H:Hp}{M:Ms}
end
section
variable {X:Cx}
end
noncomputable def sc:D→Bool
 | .non | .bl _ | .int _ | .str _ | .ty _=>true
 | _=>false
theorem RG {K:W.Frag}{H:Hp} (t:Tb K H):OK K [] [] H []:=⟨rfl,List.nodup_nil,λ _ h=>by simp at h,λ _ h=>by simp at h,λ k o h=>by simp at h,t⟩
noncomputable def O8 (H H':Hp):Prop:=∀ b o,H b=some o→vis (some o)=some o→H' b=some o
theorem Ce {H:Hp}:O8 H (hide [] H):=λ b o e v=>dg (by simp) e v
theorem Cg {K:W.Frag}{H H':Hp}{a:Addr}{xs:List V} (e:O8 H H') (h:SqL K H a xs):SqL K H' a xs:=by
 rcases h with (h | ⟨o,h⟩) | h
 ·exact .inl (.inl (e _ _ h rfl))
 ·exact .inl (.inr ⟨o,e _ _ h rfl⟩)
 ·exact .inr h
section
variable {P:Program}{w:World}{K:W.Frag}{mg:Str→Option Value}{base:Heap}
end
end L3
namespace L3
open PySem PySem.Spec PyProof.Rows L2
theorem Ci {kvs:List (Key×V)}{k:Key}{v:V} (h:k ∉ kvs.map (·.1)):putK kvs k v=kvs++[(k,v)]:=by
 unfold putK
 rw[if_neg]
 intro z
 obtain⟨p,hp,e⟩:=List.any_eq_true.mp z
 exact h (List.mem_map.mpr ⟨p,hp,of_decide_eq_true e⟩)
theorem sS:∀ (more kvs:List (Key×V)),((kvs++more).map (·.1)).Nodup→kZ kvs more=kvs++more
 | [],kvs,_=>by rw[List.append_nil];rfl
 | p::r,kvs,h=>by
  have hp:p.1 ∉ kvs.map (·.1):=λ z=>by
   rw[List.map_append,List.nodup_append] at h
   exact h.2.2 p.1 z p.1 (by simp) rfl
  show kZ (putK kvs p.1 p.2) r=_
  rw[Ci hp,sS r (kvs++[(p.1,p.2)]) (by rw[List.append_assoc];exact h),List.append_assoc]
  rfl
noncomputable def dPairs:List (DE×DE)→DSt→Ms→(List (D×D)→Ms→Prop)→Prop
 | [],_,M,Q=>Q [] M
 | (tk,tv)::r,δ,M,Q=>tk δ M λ k M1=>tv δ M1 λ v M2=>dPairs r δ M2 λ ps M3=>Q ((k,v)::ps) M3
abbrev pK (K:W.Frag) (F α:List Addr) (H:Hp) (M:Ms) (Q:List (V×V)→Hp→Prop):List (D×D)→Ms→Prop:=λ ps M'=>∀ vs α' H',Ext F α H M α' H' M'→OK K F α' H' M'→Reps K α' (hid F α' M' H') (ps.map (·.1)) (vs.map (·.1))→Reps K α' (hid F α' M' H') (ps.map (·.2)) (vs.map (·.2))→Q vs H'
structure JP (X:Cx) (pos:Pos) (keys:List (Option Expr)) (values:List Expr) (ts:List (DE×DE)):Prop where
 mono:∀ δ M (P Q:List (D×D)→Ms→Prop),(∀ ps M,P ps M→Q ps M)→dPairs ts δ M P→dPairs ts δ M Q
 p:∃ trs,PPs X pos keys values trs∧∀ F α δ M σ H Q,R X.K F α H σ δ M→dPairs ts δ M (pK X.K F α H M Q)→tPairs trs σ H Q
section
variable {X:Cx}{pos:Pos}{k v:Expr}{keys:List (Option Expr)}{values:List Expr}{tk tv:DE}{ts:List (DE×DE)}
theorem IK:JP X pos [] [] []:=⟨λ δ M P Q w q=>w _ _ q,[],Lf,λ F α δ M σ H Q r q=>q [] α H Ext.refl r.ok Reps.nil Reps.nil⟩
theorem oJ (hk:JE X k tk) (hv:JE X v tv) (hr:JP X pos keys values ts):JP X pos (some k::keys) (v::values) ((tk,tv)::ts):=by
 obtain⟨trs,p1,p2⟩:=hr.p
 refine⟨λ δ M P Q w q=>hk.mono δ _ _ _ (λ _ M1 q=>hv.mono δ _ _ _ (λ _ M2 q=>hr.mono δ _ _ _ (λ ps M3 q=>w _ _ q) q) q) q,_,Hs hk.p hv.p p1,λ F α δ M σ H Q r q=>?_⟩
 refine⟨F,α,δ,M,r,hk.mono δ _ _ _ (λ dk M1 q x α1 H1 e1 o1 rx=>⟨F,α1,δ,M1,r.grow e1 o1,hv.mono δ _ _ _ (λ dv M2 q y α2 H2 e2 o2 ry=>?_) q⟩) q⟩
 refine p2 F α2 δ M2 σ H2 _ (r.grow (e1.trans e2) o2) (hr.mono δ _ _ _ (λ ps M3 q vs α3 H3 e3 o3 r1 r2=>?_) q)
 exact q ((x,y)::vs) α3 H3 ((e1.trans e2).trans e3) o3 (Reps.cons (e3.rep (e2.rep rx)) r1) (Reps.cons (e3.rep ry) r2)
noncomputable def zj:List (D×D)→Option (List Key)
 | []=>some []
 | (k,_)::r=>match BK k,zj r with
  | some k,some ks=>some (k::ks)
  | _,_=>none
noncomputable def zm (ts:List (DE×DE)):DF:=λ δ M Q=>dPairs ts δ (M++[some (.dct [] [])]) λ ps M1=>M1=M++[some (.dct [] [])]∧∃ ks,zj ps=some ks∧decide (ks.Nodup∧ks.length≤15)=true∧nls (ps.map (·.2))=true∧Q (.dct ks (ps.map (·.2))) M
theorem vO {K:W.Frag}{α:List Addr}{H:Hp}:∀ (ps:List (D×D)) (vs:List (V×V)) (ks:List Key),zj ps=some ks→Reps K α H (ps.map (·.1)) (vs.map (·.1))→vs=(ks.zip (vs.map (·.2))).map (λ kv=>(kV kv.1,kv.2))∧ks.length=vs.length
 | [],vs,ks,h,r=>by
  cases h
  cases vs with
  | nil=>exact⟨rfl,rfl⟩
  | cons p vs=>have:=Reps.length _ _ r;simp at this
 | (k,d)::ps,vs,ks,h,r=>by
  cases vs with
  | nil=>have:=Reps.length _ _ r;simp at this
  | cons p vs=>
   unfold zj at h
   rw[List.map_cons,List.map_cons] at r
   unfold Reps at r
   obtain⟨x,xs,e,r1,r2⟩:=r
   obtain⟨rfl,rfl⟩:=List.cons.inj e
   cases ek:BK k with
   | none=>rw[ek] at h;cases h
   | some kk=>
    cases er:zj ps with
    | none=>rw[ek,er] at h;cases h
    | some kr=>
     rw[ek,er] at h
     cases h
     obtain⟨i1,i2⟩:=vO ps vs kr er r2
     have:=lK r1 ek
     obtain⟨p1,p2⟩:=p
     subst this
     refine⟨?_,by simp[i2]⟩
     rw[List.map_cons,List.zip_cons_cons,List.map_cons,← i1]
theorem DY (h:JP X pos keys values ts) (hall:keys.all (·.isSome)=true) (hl:keys.length=values.length) (h0:keys≠[]) (h15:keys.length≤15):JF X (.Dict keys values pos) (zm ts):=by
 obtain⟨trs,p1,p2⟩:=h.p
 refine⟨λ δ M P Q w q=>h.mono δ _ _ _ (λ ps M1 ⟨q1,ks,q2,q3,q4,q⟩=>⟨q1,ks,q2,q3,q4,w _ _ q⟩) q,PE.weak (Lg p1 hall hl h0 h15) λ σ H Q q=>?_⟩
 obtain⟨F,α,δ,M,r,q⟩:=q
 unfold zm at q
 intro p hp
 obtain⟨o2,e2⟩:=r.ok.enter (x:=.dct [] []) hp (oG (o:=.dK []) hp) ⟨[],aP,rfl,Reps.nil⟩
 refine p2 F (α++[p]) δ (M++[some (.dct [] [])]) σ _ _ (r.grow e2 o2) (h.mono δ _ _ _ (λ ps M1 q vs α3 H3 e3 o3 rk rv=>?_) q)
 obtain⟨rfl,ks,q2,q3,q4,q⟩:=q
 obtain⟨ev,lk⟩:=vO ps vs ks q2 rk
 have pre:α <+: α3:=(List.prefix_append _ _).trans e3.pre
 have hloc:(α++[p])[M.length]? = some p:=by rw[← r.ok.ml];simp
 obtain⟨a,ea,ws,hq,_,rr⟩:=o3.own M.length (.dct [] []) (by simp)
 rw[wA e3.pre hloc] at ea;cases ea
 obtain⟨o4,sm⟩:=OK.thaw r.ok o3 pre
 have OJ:p ∉ F:=λ z=>(r.ok.fr p z).2 (by rw[hp])
 have hpa:p ∉ α:=λ z=>r.ok.al p z (by rw[hp])
 have hpl:p ∉ lv α M:=λ z=>r.ok.live p z hp
 let H4:Hp:=λ b=>if b=p then none else H3 b
 have Zn:H4 p=none:=if_pos rfl
 have Kv:∀ b,b≠p→H4 b=H3 b:=λ b hb=>if_neg hb
 have eu:∀ ho,upd H4 p ho=upd H3 p ho:=λ ho=>by
  funext b
  by_cases hb:b=p
  ·subst hb;rw[aP,aP]
  ·rw[aA hb,aA hb,Kv b hb]
 have hl3:α3=α++[p]:=by
  obtain⟨β,hβ⟩:=e3.pre
  have:=o3.ml
  rw[← hβ] at this
  simp[r.ok.ml] at this
  rw[← hβ,this];simp
 have eh:hid F α M H4=hid F α3 (M++[some (.dct [] [])]) H3:=by
  funext b
  show hide _ H4 b=hide _ H3 b
  rw[hl3,Mj r.ok.ml]
  by_cases hb:b=p
  ·subst hb
   rw[dN (A:=lv α M++[b]++F) (by simp),cG λ z=>(List.mem_append.mp z).elim hpl OJ]
   rw[Zn]
  ·by_cases hm:b∈lv α M++F
   ·rw[dN hm,dN (by simp only [List.mem_append] at hm ⊢;rcases hm with hm | hm;exact .inl (.inl hm);exact .inr hm)]
   ·rw[cG hm,cG (by simp only [List.mem_append,List.mem_singleton] at hm ⊢;intro z;rcases z with (z | z) | z;exact hm (.inl z);exact hb z;exact hm (.inr z)),Kv b hb]
 have o5:OK X.K F α H4 M:=by
  refine⟨o4.ml,o4.nd,λ a ha=>⟨(o4.fr a ha).1,by rw[Kv a (λ z=>OJ (z ▸ ha))];exact(o4.fr a ha).2⟩,λ a ha=>by rw[Kv a (λ z=>hpa (z ▸ ha))];exact o4.al a ha,λ k o hk=>?_,o3.tb.imp λ b y e v=>by rw[Kv b λ z=>by rw[z,hq] at e;cases e;cases v];exact e⟩
  obtain⟨a,ea,ra⟩:=o3.own k o (by rw[List.getElem?_append_left (List.getElem?_eq_some_iff.mp hk).1];exact hk)
  obtain⟨a0,Ut,ra0⟩:=r.ok.own k o hk
  have:a=a0:=by rw[wA pre Ut] at ea;exact(Option.some.inj ea).symm
  subst this
  refine⟨a,Ut,?_⟩
  have hb:=ra0.lbs
  have hap:a≠p:=λ z=>hpa (z ▸ List.mem_of_getElem? Ut)
  rw[eh]
  cases o with
  | lst ds=>obtain⟨us,q,rr⟩:=ra;exact⟨us,by rw[Kv a hap];exact q,Reps.shrink pre _ _ hb rr⟩
  | dct kk ds=>obtain⟨us,q,l,rr⟩:=ra;exact⟨us,by rw[Kv a hap];exact q,l,Reps.shrink pre _ _ hb rr⟩
  | ins C ns ds=>obtain⟨dx,us,q,l,rr⟩:=ra;exact⟨dx,us,by rw[Kv a hap];exact q,l,Reps.shrink pre _ _ hb rr⟩
  | fz k ep kk ds=>obtain⟨_,us,q,l,rr⟩:=ra;exact⟨ra0.1,us,by rw[Kv a hap];exact q,l,Reps.shrink pre _ _ hb rr⟩
 have e5:Ext F α H M α H4 M:=⟨List.prefix_refl _,by rw[eh];exact(e2.trans e3).same,λ a ha=>by rw[Kv a (λ z=>OJ (z ▸ ha))];exact(e2.trans e3).fr a ha⟩
 have ez:ws=[]:=by unfold Reps at rr;exact rr
 subst ez
 have nd:ks.Nodup:=(of_decide_eq_true q3).1
 have lz:(vs.map (·.2)).length=ks.length:=by rw[List.length_map,lk]
 have em:kZ [] (ks.zip (vs.map (·.2)))=ks.zip (vs.map (·.2)):=by
  have:=sS (ks.zip (vs.map (·.2))) [] (by rw[List.nil_append,List.map_fst_zip (by omega)];exact nd)
  rw[this,List.nil_append]
 refine⟨hq,ks.zip (vs.map (·.2)),ev,?_,?_⟩
 ·rw[List.length_zip,lz,Nat.min_self]
  exact(of_decide_eq_true q3).2
 ·rw[em,← eu]
  refine q p _ α H4 e5 o5 Zn ⟨vs.map (·.2),rfl,?_,?_⟩
  ·rw[lk];have:=Reps.length _ _ rv;simpa using this.symm
  ·rw[eh];exact Reps.nl _ _ q4 rv
end
end L3
namespace L3
open PySem PySem.Spec PyProof.Rows L2
section
variable {X:Cx}
end
end L3
namespace L3
open PySem PySem.Spec PyProof.Rows L2
section
variable {X:Cx}{x:Str}{pos:Pos}{a b:Expr}{ta tb:DE}
theorem wN {d:D} (h:∃ u,X.mg x=some u∧conK X.K d u) (hg:Gl X x:=by rfl) (hd:(x==("__debug__" : Str))=false:=by decide):JE X (.Name x pos) (dC d):=by
 obtain⟨u,hm,v,r,rr⟩:=h
 exact Bx hm r rr hg hd
noncomputable def wO:G2:=λ x y M Q=>match x,y with
 | .non,.bl _=>Q (.bl false) M
 | .bl c,.bl b=>Q (.bl (c==b)) M
 | _,_=>False
theorem sU:JC X .Is wO:=by
 refine⟨λ x y M P Q w q=>?_,λ pins s σ H x y v u Q I rx ry h=>?_⟩
 ·cases x <;> cases y <;> first | exact q.elim | exact w _ _ q
 ·obtain⟨F,α,M,da,db,o,ra,rb,h⟩:=h
  cases da <;> cases db <;> first | exact h.elim | skip
  ·unfold Rep at ra rb
   subst ra rb
   cases rx;cases ry
   exact wpAny_pure ⟨.bl false,H,I,rfl,vK.now o h cD⟩
  ·unfold Rep at ra rb
   subst ra rb
   cases rx;cases ry
   exact is_bool ⟨.bl _,H,I,rfl,vK.now o h cD⟩
noncomputable def fu (_ j:Int):Prop:=0 < j∧j < 18446744073709551616
theorem IV:OpR X (binaryOp .FloorDiv) (rI fu λ i j=>.int (i / j)):=W3 λ i j _ _ _ _ _ hc q=>by
 have h1:(0:Int) < j:=hc.1
 have h2:j < 18446744073709551616:=hc.2
 refine floordiv_int (by omega) (by rw[Int.fdiv_eq_ediv_of_nonneg i (by omega)];exact q) (.inl (PyProof.noPylong_of_log2 ?_))
 have hj:j.natAbs < 2 ^ 64:=by omega
 have:=(Nat.log2_lt (by omega:j.natAbs≠0)).mpr hj
 omega
theorem eG:JO X .FloorDiv (gI fu λ i j=>.int (i / j)):=⟨wG,λ pins s σ H x y v u Q I rx ry h=>by
 obtain⟨F,α,M,da,db,o,ra,rb,h⟩:=h
 cases da <;> cases db <;> first | exact h.elim | skip
 unfold Rep at ra rb
 exact IV pins s σ H x y v u Q I rx ry ⟨_,_,ra,rb,h.1,vK.now o h.2 bL⟩⟩
noncomputable def Ea:GN:=λ ds M Q=>match ds with
 | [.int i,.int j]=>Fi i j∧Q (.tup [.int (i / j),.int (i % j)]) M
 | _=>False
theorem FT:JB X (.builtin "divmod") Ea:=by
 refine⟨λ ds M P Q w q=>?_,λ pins s σ H xs us Q I rs h=>?_⟩
 ·match ds,q with
  | [.int i,.int j],q=>exact⟨q.1,w _ _ q.2⟩
 ·obtain⟨F,α,M,ds,o,rr,h⟩:=h
  match ds,h,rr with
  | [.int i,.int j],q,rr=>
   obtain⟨v,u,ev,r1,r2⟩:=sH rr
   subst ev
   unfold Rep at r1 r2
   subst r1 r2
   exact yJ pins s σ H _ us Q I rs ⟨i,j,rfl,q.1,λ p hp=>vK.new o hp q.2 (fX o hp (Reps.cons bL (Reps.one bL)))⟩
noncomputable def oK:GM:=λ d ds M Q=>match d,ds with
 | .loc k,[y]=>∃ es xs,M[k]? = some (some (.lst es))∧vw M y = .lst xs∧es.length+xs.length≤sizeLine∧Q .non (M.set k (some (.lst (es++xs))))
 | _,_=>False
theorem FW:JM X "list.extend" oK:=by
 refine⟨λ d ds M P Q w q=>?_,λ pins s σ H x xs v us Q I rx rs h=>?_⟩
 ·match d,ds,q with
  | .loc k,[x],⟨es,xs,h1,h2,h3,q⟩=>exact⟨es,xs,h1,h2,h3,w _ _ q⟩
 ·obtain⟨F,α,M,d,ds,ok,r,rr,h⟩:=h
  match d,ds,h,r,rr with
  | .loc k,[y],⟨es,xs,h1,h2,h3,q⟩,r,rr=>
   obtain⟨a,vs,rfl,hH,r1,wr⟩:=wM ok r h1
   obtain⟨u,eu,ru⟩:=m5 rr
   subst eu
   obtain⟨b,ws,rfl,hB,r2⟩:=dY ok ru h2
   obtain⟨o2,e2⟩:=wr (es++xs) (vs++ws) (Reps.append _ _ _ _ r1 r2)
   exact Ft pins s σ H _ _ v us Q I rx rs ⟨a,b,vs,ws,rfl,rfl,hH,hB,by rw[← Reps.length _ _ r1,← Reps.length _ _ r2];exact h3,q _ α _ e2 o2 gB⟩
end
end L3
namespace L3
open PySem PySem.Spec PyProof.Rows L2
noncomputable def Ml (lo c:Int) (n:Nat):It:=⟨λ i _=>i < n,λ i H x H'=>H'=H∧x = .int (lo+i * c),λ i _=>n≤i⟩
theorem zp {P:Program}{w:World}{K:W.Frag}{tg:Expr} (it:Addr) (lo c:Int) (n:Nat):Turn P w K tg (Ml lo c n) [it] it (λ i h=>IsRangeIter h it (lo+(i:Nat) * c) ((n:Int) - (i:Nat)) c) where
 mem:=by simp
 obj:=λ i h st b hb=>by
  have e:b=it:=by simpa using hb
  subst e
  exact⟨_,st,λ v z=>by
   have z':Data.fields _=Data.cell v:=z
   cases z'⟩
 keep:=λ i h h' st k=>k it (by simp) _ st
 item:=by
  intro X hP hw hK hc i pins s σ H E I hf st hg
  subst hP hw hK
  obtain⟨f0,f1,f2,f3,f4,f5⟩:=hf it (by simp)
  have W:=Walks.range (prog:=X.prog) (w:=X.w) (I.ok.hd hc) it lo c n
  refine W.item i s _ _ hg st λ v h' tk hv st' kk=>?_
  obtain⟨t,rfl⟩:=hv
  have I1:L2.Inv X pins σ H { s with heap:=h',toks:=tk }:=I.turned (λ b o hb e=>kk b o (by simpa using hb) e) f0 f1 f3 f4 f5
  exact⟨_,rfl,u5 (s:={ s with heap:=h',toks:=tk }) (n:="range_iterator") st' rfl rfl (by decide) ⟨.int (lo+i * c),H,I1,⟨t,rfl⟩,⟨rfl,rfl⟩,st',λ b hb=>(hf b hb).1⟩⟩
 done:=by
  intro X hP hw hK hc i pins s σ H E I hf st hg
  subst hP hw hK
  obtain⟨f0,f1,f2,f3,f4,f5⟩:=hf it (by simp)
  exact wpAny_pyNext_range_end (I.ok.hd hc) st (by have:n≤i:=hg;omega) λ h' eb=>⟨rfl,I.turned (t':=s.toks) (λ b o hb e=>eb b o hb e) f0 f1 f3 f4 f5⟩
 self:=λ _ _ _ _ _ st h=>wpAny_pyIter_rangeiter st h
noncomputable def C3 (i j c:Int):Prop:=(-(2 ^ 40)≤i∧i < 2 ^ 40∧-(2 ^ 40)≤j∧j < 2 ^ 40)∧(c=2∨c=4)
noncomputable def cnt (i j c:Int):Nat:=(Builtin.Range.rangeSize i j c).toNat
theorem RJ {i j c:Int} (h:C3 i j c):Builtin.Range.small i j c=true:=by
 obtain⟨h,rfl | rfl⟩:=h
 ·unfold Builtin.Range.small Builtin.Range.rangeSize
  simp only [Builtin.Range.rangeFitsLong,Bool.and_eq_true,Bool.or_eq_true,decide_eq_true_eq,beq_iff_eq,show (2:Int) > 0 by decide,if_true]
  split <;> omega
 ·unfold Builtin.Range.small Builtin.Range.rangeSize
  simp only [Builtin.Range.rangeFitsLong,Bool.and_eq_true,Bool.or_eq_true,decide_eq_true_eq,beq_iff_eq,show (4:Int) > 0 by decide,if_true]
  split <;> omega
theorem RK {i j c:Int} (h:C3 i j c):((cnt i j c:Nat):Int)=Builtin.Range.rangeSize i j c:=by
 unfold cnt Builtin.Range.rangeSize
 obtain⟨h,rfl | rfl⟩:=h
 ·simp only [show (2:Int) > 0 by decide,if_true]
  split <;> omega
 ·simp only [show (4:Int) > 0 by decide,if_true]
  split <;> omega
section
variable {X:Cx}{tg:Expr}{a b c:Expr}{tt:DA}{p pos:Pos}
noncomputable def VD (ta:TA):TI:=λ σ H R=>ta σ H λ vs H1=>∃ i j c:Int,vs=[.int i,.int j,.int c]∧C3 i j c∧R (Ml i c (cnt i j c)) H1
theorem FZ {pins:List (Addr×Obj)}{σ:L2.St}{H:Hp}{s:Shared}{R:It→Hp→Prop}{E:Value→Shared→Prop}{lo hi c:Int}{t u v:Tok}{tk:Nat} (I:L2.Inv X pins σ H s) (hc:C3 lo hi c)
  (q:R (Ml lo c (cnt lo hi c)) H):wpAny (model X.prog X.w) X.A (pyIter (.ref s.heap.objs.size)) (PIE X pins σ tg R) E { s with heap:=s.heap.push { cls:=.type "range",data:=.fields #[.int lo t,.int hi u,.int c v] },toks:=tk }:=by
 refine wpAny_pyIter_range (IsRange.new ..) (RJ hc) ?_
 have I1:L2.Inv X pins σ H { s with heap:=s.heap.push { cls:=.type "range",data:=.fields #[.int lo t,.int hi u,.int c v] },toks:=tk }:=I.kept λ b o e=>Heap.get?_push_of_some _ e
 refine⟨(s.heap.push { cls:=.type "range",data:=.fields #[.int lo t,.int hi u,.int c v] }).objs.size,[(s.heap.push { cls:=.type "range",data:=.fields #[.int lo t,.int hi u,.int c v] }).objs.size],_,_,H,rfl,
  I1.kept (t':=tk) λ b o e=>Heap.get?_push_of_some _ e,zp _ lo c (cnt lo hi c),?_,λ b hb=>?_,q⟩
 ·have e1:lo+((0:Nat):Int) * c=lo:=by simp
  have e2:((cnt lo hi c:Nat):Int) - ((0:Nat):Int)=Builtin.Range.rangeSize lo hi c:=by rw[RK hc];simp
  show IsRangeIter _ _ (lo+((0:Nat):Int) * c) (((cnt lo hi c:Nat):Int) - ((0:Nat):Int)) c
  rw[e1,e2]
  exact Heap.get?_push_size _ rfl
 ·have e:b=(s.heap.push { cls:=.type "range",data:=.fields #[.int lo t,.int hi u,.int c v] }).objs.size:=by simpa using hb
  subst e
  exact I1.fpOk (Nat.le_refl _) (I1.hok.fresh (Nat.le_refl _))
theorem Ga {ta:TA} (hg:Gl X "range") (hm:X.mg "range"=none) (ha:PA X [a,b,c] ta) (hs:starEach [a,b,c] X.env=[(false,eval a X.env),(false,eval b X.env),(false,eval c X.env)]:=by rfl) (hs2:starEach [b,c] X.env=[(false,eval b X.env),(false,eval c X.env)]:=by rfl) :
  PI X tg (.Call (.Name "range" p) [a,b,c] [] pos) (VD ta):=by
 intro pins s σ H R I h
 refine Call_ (pI I hg hm boot_range (PyProof.Rows.callWith_type1 (cY (ha pos pins s σ H _ I h) λ us s1 ⟨vs,H1,I1,r1,q1⟩=>?_) (by rw[hs,hs2]) (by rw[hs2];rfl)))
 obtain⟨i,j,k,e,hc,q⟩:=q1
 subst e
 cases r1 with
 | cons r rr=>
  cases rr with
  | cons r' rr=>
   cases rr with
   | cons r'' rr=>
    cases rr
    obtain⟨t,rfl⟩:=r
    obtain⟨t',rfl⟩:=r'
    obtain⟨t'',rfl⟩:=r''
    have hk:0 < k∧k < 1073741824:=by obtain⟨_,rfl | rfl⟩:=hc <;> exact⟨by decide,by decide⟩
    exact call_range_3 (by omega) (FZ I1 hc q) (.inl (PyProof.noPylong_small (by omega)))
noncomputable def sV (lo c:Int) (n:Nat):List D:=(List.range n).map λ (i:Nat)=>D.int (lo+(i:Int) * c)
theorem Mp {K:W.Frag}{F α1:List Addr}{H1:Hp}{M1:Ms}{lo c:Int}{n:Nat}:ItOK K F α1 H1 M1 (Ml lo c n) (sV lo c n) λ _=>True:=by
 refine⟨λ i F' α' H' M' hp hs o' hst hi=>?_,λ i F' α' H' M' x H2 d' hp hs o' hst hd hy=>?_,λ F' α' H' M' hp hs o' hst=>?_⟩
 ·show i < n
  simpa[sV] using hi
 ·obtain⟨rfl,rfl⟩:=hy
  unfold sV at hd
  rw[List.getElem?_map] at hd
  cases e:(List.range n)[i]? with
  | none=>rw[e] at hd;cases hd
  | some j=>
   rw[e] at hd
   have:j=i:=by
    have:=List.getElem?_eq_some_iff.mp e
    obtain⟨h1,h2⟩:=this
    simpa using h2.symm
   subst this
   cases hd
   exact⟨o',Ext.refl,bL⟩
 ·show n≤(sV lo c n).length
  simp[sV]
noncomputable def wQ (tt:DA):DI:=λ δ M Q=>tt δ M λ ds M1=>match ds with
 | [.int i,.int j,.int c]=>C3 i j c∧Q (sV i c (cnt i j c)) (λ _=>True) M1
 | _=>False
theorem pU (ha:JA X [a,b,c] tt) (hm:X.mg "range"=none) (hg:Gl X "range":=by rfl) (hs:starEach [a,b,c] X.env=[(false,eval a X.env),(false,eval b X.env),(false,eval c X.env)]:=by rfl) (hs2:starEach [b,c] X.env=[(false,eval b X.env),(false,eval c X.env)]:=by rfl):JI X tg (.Call (.Name "range" p) [a,b,c] [] pos) (wQ tt):=by
 refine⟨λ δ M P Q w q=>ha.mono δ _ _ _ (λ ds M1 q=>?_) q,PI.weak (Ga hg hm ha.p hs hs2) λ σ H Q q=>?_⟩
 ·match ds,q with
  | [.int i,.int j,.int c],⟨e,q⟩=>exact⟨e,w _ _ _ q⟩
 ·obtain⟨F,α,δ,M,r,q⟩:=q
  refine⟨F,α,δ,M,r,ha.mono δ _ _ _ (λ ds M1 q vs α1 H1 e1 o1 r1=>?_) q⟩
  match ds,q,r1 with
  | [.int i,.int j,.int c],⟨ei,q⟩,r1=>
   unfold Reps at r1
   obtain⟨v,r',rfl,ra,rr⟩:=r1
   obtain⟨u,z,rfl,rb,rc⟩:=sH rr
   unfold Rep at ra rb rc
   subst ra rb rc
   exact⟨i,j,c,rfl,ei,q _ α1 H1 H1 id e1 o1 (Zed.refl o1) Mp⟩
end
end L3
namespace L3
open PySem PySem.Spec PyProof.Rows L2
section
variable {X:Cx}{x:Str}{pos p tpos:Pos}{e o i:Expr}{te to ti tv:DE}{op:Operator}
end
end L3
namespace L3
open PySem PySem.Spec PyProof.Rows L2
section
variable {X:Cx}{x:Str}{pos p tpos:Pos}{e o i:Expr}{te to ti tv:DE}{op:Operator}
end
end L3
namespace L3
open PySem PySem.Spec PyProof.Rows L2
section
variable {β:Type}
end
end L3
namespace L2
open PySem PySem.Spec PyProof.Rows
section
variable {prog:Program}{w:World}{A:Around}{E:Value→Shared→Prop}{s:Shared}
end
section
variable {X:Cx}
end
end L2
namespace L3
open PySem PySem.Spec PyProof.Rows L2
section
variable {X:Cx}
end
end L3
namespace L2
open PySem PySem.Spec PyProof.Rows
section
variable {prog:Program}{w:World}{A:Around}{E:Value→Shared→Prop}{s:Shared}
end
end L2
namespace L2
open PySem PySem.Spec PyProof.Rows
section
variable {X:Cx}{p pos p2 pos2:Pos}{e:Expr}{te:TE}
end
end L2
namespace L3
open PySem PySem.Spec PyProof.Rows L2
section
variable {X:Cx}{p pos p2 pos2:Pos}{e:Expr}{te:DE}
end
end L3
namespace L2
open PySem PySem.Spec PyProof.Rows
section
variable {prog:Program}{w:World}{κ:Type} [DecidableEq κ] {knd:PySem.KeyKind prog w κ}{A:Around}{E:Value→Shared→Prop}{s:Shared}{d:Addr}{kvs:List (κ×Value)}{k:κ}{key v:Value}
end
section
variable {X:Cx}
end
end L2
namespace L3
open PySem PySem.Spec PyProof.Rows L2
section
variable {X:Cx}
end
end L3
namespace L2
open PySem PySem.Spec PyProof.Rows
section
variable {prog:Program}{w:World}{A:Around}{E:Value→Shared→Prop}{s:Shared}
end
end L2
namespace L2
open PySem PySem.Spec PyProof.Rows
section
variable {prog:Program}{w:World}{κ:Type} [DecidableEq κ] {knd:PySem.KeyKind prog w κ}{A:Around}{E:Value→Shared→Prop}{s:Shared}
end
end L2
namespace L2
open PySem PySem.Spec PyProof.Rows
section
variable {X:Cx}
end
end L2
namespace L3
open PySem PySem.Spec PyProof.Rows L2
section
variable {X:Cx}
end
end L3
namespace L2
open PySem PySem.Spec PyProof.Rows
section
variable {P:Program}{w:World}{A:Around}{E:Value→Shared→Prop}{H:Hp}{fs:List Addr}
structure Cq (P:Program) (w:World) (fs:List Addr) (H:Hp) (s s':Shared):Prop where
 os:s'.os=s.os
 bare:AllBare s'.gens
 hok:HOk P w H s'.heap
 un:Un fs [] H H s.heap s'.heap
theorem Cq.refl {s:Shared} (b:AllBare s.gens) (h:HOk P w H s.heap):Cq P w fs H s s:=⟨rfl,b,h,Un.refl⟩
theorem Cq.trans {s s1 s2:Shared} (a:Cq P w fs H s s1) (b:Cq P w fs H s1 s2):Cq P w fs H s s2:=⟨b.os.trans a.os,b.bare,b.hok,a.un.trans b.un⟩
theorem Cq.kept {s s1:Shared}{h':Heap}{tk:Nat} (c:Cq P w fs H s s1) (k:∀ b o,s1.heap.get? b=some o→h'.get? b=some o):Cq P w fs H s { s1 with heap:=h',toks:=tk }:=c.trans ⟨rfl,c.bare,c.hok.kept k,Un.kept k⟩
theorem Cq.at {s s1:Shared}{b:Addr}{o:Obj} (c:Cq P w fs H s s1) (e:s.heap.get? b=some o) (n:H b=none) (hb:b ∉ fs):s1.heap.get? b=some o:=c.un.keep b o e n hb (by simp)
section
variable {s0 s:Shared}{a kS:Addr}{vs:List Value}{ss:List Str}{keys:Array Value}{e e1:Nat}{Pq:PySem.Fin→Shared→Prop}
end
end
end L2
namespace L2
open PySem PySem.Spec PyProof.Rows
section
variable {P:Program}{w:World}{A:Around}{E:Value→Shared→Prop}{H:Hp}{fs:List Addr}{s0 s:Shared}{a kS:Addr}{vs:List Value}{ss:List Str}{e1:Nat}{Pq:PySem.Fin→Shared→Prop}{f:Value}
end
end L2
namespace L2
open PySem PySem.Spec PyProof.Rows PySem.W
structure LamK (base:Heap) (mg:Str→Option Value) (cd:Value) (c P:Addr):Prop where
 cd:cd = .ref c
 hd:CodeHd base c P
 bl:base.BuiltinsAt mg P
 gP:mainGlobals≠P
section
variable {X:Cx}{pins:List (Addr×Obj)}{σ:L2.St}{H:Hp}{s:Shared}{A:Around}{E:Value→Shared→Prop}{c P:Addr}{ps:Array Value}{params:Arguments}{body:Expr}{scope:Scope}{pos:Pos}{Q:Value→Shared→Prop}
end
end L2
namespace L2
open PySem PySem.Spec PyProof.Rows PySem.W
section
variable {P:Program}{w:World}{K:W.Frag}{mg:Str→Option Value}{base:Heap}{A:Around}{outer:List Env}{s:Shared}{H:Hp}{f c:Addr}{x qual:Str}{params:Arguments}{body:Expr}{scope:Scope}{pm ctv:Value}{t:TE}{u:Value}{v:V}{Q:VK}{k:Nat}
end
section
variable {K:W.Frag}{H H':Hp}
noncomputable def KeyedV (K:W.Frag) (H:Hp):List V→List Str→Prop
 | [],[]=>True
 | y::ys,k::ks=>(∃ a zs,y = .ref a∧qJ K H a (.str k::zs))∧KeyedV K H ys ks
 | _,_=>False
theorem KeyedV.length:∀ {ys:List V}{ks:List Str},KeyedV K H ys ks→ys.length=ks.length
 | [],[],_=>rfl
 | [],_::_,h=>h.elim
 | _::_,[],h=>h.elim
 | _::ys,_::ks,h=>by rw[List.length_cons,List.length_cons,KeyedV.length h.2]
theorem KeyedV.get:∀ {ys:List V}{ks:List Str}{i:Nat}{y:V}{k:Str},KeyedV K H ys ks→ys[i]? = some y→ks[i]? = some k→∃ a zs,y = .ref a∧qJ K H a (.str k::zs)
 | [],[],i,y,k,_,e,_=>by simp at e
 | [],_::_,_,_,_,h,_,_=>h.elim
 | _::_,[],_,_,_,h,_,_=>h.elim
 | y::ys,k::ks,0,_,_,h,e,g=>by simp at e g;subst e g;exact h.1
 | y::ys,k::ks,i+1,_,_,h,e,g=>KeyedV.get h.2 (by simpa using e) (by simpa using g)
theorem TabTo.keep {P:Addr}{q:Str} (t:TabTo P q H H') (hP:∃ ps,H P=some (.tbl ps)) {b:Addr}{o:HO} (e:H b=some o) (n:∀ ps,o≠.tbl ps):H' b=some o:=by
 obtain⟨ps,hP⟩:=hP
 rcases t.2 with h | ⟨c,ps',hc,cP,h⟩
 ·rw[h];exact e
 ·rw[h,aA (λ z=>by rw[z,hP] at e;exact n ps (Option.some.inj e).symm),aA (λ z=>by rw[z,hc] at e;cases e)];exact e
end
section
variable {X:Cx}{c P:Addr}{e:Expr}{te:TE}{p pos Yj kpos np sp cp:Pos}{params:Arguments}{scope:Scope}{x:Str}{k j:Nat}
end
end L2
namespace L3
open PySem PySem.Spec PyProof.Rows L2
section
variable {K:W.Frag}{α:List Addr}{H:Hp}
end
section
variable {X:Cx}{c P:Addr}{e:Expr}{te:DE}{p pos Yj kpos np sp cp:Pos}{params:Arguments}{scope:Scope}{x:Str}{k j:Nat}
structure LamD (X:Cx):Prop where
 ex:∃ c P,W.tabIn X.K "by_name"=some (c,P)∧LamK X.base X.mg X.env.code c P
 q:X.env.qual ++ "<lambda>"=lamQ "by_name"
end
end L3
namespace L3
open PySem PySem.Spec PyProof.Rows L2
structure TbBase (K:W.Frag) (mg:Str→Option Value) (base:Heap):Prop where
 kin:K.In base
 glob:base.Ns mainGlobals mg
 tab:∃ c P,W.tabIn K "by_name"=some (c,P)∧W.CodeHd base c P∧base.BuiltinsAt mg P∧mainGlobals≠P
section
variable {P:Program}{w:World}{K:W.Frag}{mg:Str→Option Value}{base:Heap}
end
end L3
namespace L3
open PySem PySem.Spec PyProof.Rows L2
end L3
namespace L2
open PySem PySem.Spec PyProof.Rows
section
variable {X:Cx}
end
end L2
namespace L3
open PySem PySem.Spec PyProof.Rows L2
section
variable {X:Cx}
end
end L3
namespace L2
open PySem PySem.Spec PyProof.Rows
section
variable {X:Cx}
end
end L2
namespace L3
open PySem PySem.Spec PyProof.Rows L2
section
variable {X:Cx}
end
end L3
namespace L2
open PySem PySem.W PyProof.Rows
section
variable {n:Nat}{f:Nat→Nat→Bool}{p:Array Nat}
structure Ord (n:Nat) (f:Nat→Nat→Bool):Prop where
 tr:∀ i j k,f i j=true→f j k=true→f i k=true
 tot:∀ i j,i < n→j < n→i≠j→f i j=false→f j i=true
structure Row (n:Nat) (p:Array Nat):Prop where
 sz:p.size=n
 pm:p.toList.Perm (List.range n)
abbrev at' (p:Array Nat) (i:Nat):Nat:=p.getD i 0
theorem IW {i:Nat} (h:i < p.size):p[i]? = some (at' p i):=by
 unfold at'
 rw[Array.getElem?_eq_getElem h]
 simp[Array.getD,h]
theorem Row.ne (r:Row n p) {i j:Nat} (hi:i < n) (hj:j < n) (h:i≠j):at' p i≠at' p j:=λ e=>by
 have nd:p.toList.Nodup:=r.pm.nodup_iff.mpr List.nodup_range
 have e1:=IW (p:=p) (i:=i) (by rw[r.sz];exact hi)
 have e2:=IW (p:=p) (i:=j) (by rw[r.sz];exact hj)
 rw[e] at e1
 rw[← Array.getElem?_toList] at e1 e2
 exact h ((List.getElem?_inj (by rw[Array.length_toList,r.sz];exact hi) nd).mp (e1.trans e2.symm))
noncomputable def Asc (f:Nat→Nat→Bool) (p:Array Nat) (m:Nat):Prop:=∀ i j,i < j→j < m→f (at' p i) (at' p j)=true
noncomputable def Desc (f:Nat→Nat→Bool) (p:Array Nat) (m:Nat):Prop:=∀ i j,i < j→j < m→f (at' p j) (at' p i)=true
theorem Asc.snoc (o:Ord n f) {m:Nat} (h:Asc f p m) (h1:1≤m) (e:f (at' p (m - 1)) (at' p m)=true):Asc f p (m+1):=λ i j hi hj=>by
 by_cases z:j < m
 ·exact h i j hi z
 ·have:j=m:=by omega
  subst this
  by_cases y:i=j - 1
  ·rw[y];exact e
  ·exact o.tr _ _ _ (h i (j - 1) (by omega) (by omega)) e
theorem Desc.snoc (o:Ord n f) {m:Nat} (h:Desc f p m) (h1:1≤m) (e:f (at' p m) (at' p (m - 1))=true):Desc f p (m+1):=λ i j hi hj=>by
 by_cases z:j < m
 ·exact h i j hi z
 ·have:j=m:=by omega
  subst this
  by_cases y:i=j - 1
  ·rw[y];exact e
  ·exact o.tr _ _ _ e (h i (j - 1) (by omega) (by omega))
end
end L2
namespace L2
open PySem PySem.Spec PyProof.Rows PySem.W
section
variable {prog:Program}{w:World}{A:Around}{E:Value→Shared→Prop}{s:Shared}
end
section
variable {X:Cx}
end
end L2
namespace L3
open PySem PySem.Spec PyProof.Rows L2
section
variable {X:Cx}
end
end L3
namespace L2
open PySem PySem.Spec PyProof.Rows
section
variable {X:Cx}{o:Expr}{to:TE}{apos cpos tpos:Pos}{elts:List Expr}{n:Nat}
end
end L2
namespace L3
open PySem PySem.Spec PyProof.Rows L2
section
variable {X:Cx}
end
end L3
namespace L2
open PySem PySem.Spec PyProof.Rows
section
variable {prog:Program}{w:World}{A:Around}{E:Value→Shared→Prop}{s:Shared}{a b:Addr}{K:Type} [DecidableEq K] {knd:PySem.KeyKind prog w K}{vs ws:List (K×Value)}
end
end L2
namespace L3
open PySem PySem.Spec PyProof.Rows L2
section
variable {X:Cx}
end
end L3
namespace L3
open PySem PySem.Spec PyProof.Rows L2
section
variable {X:Cx}
theorem Mq {α:List Addr}{M:Ms}{k:Nat}{b:Addr} (h:b∈lv α (M.set k none)):b∈lv α M:=by
 obtain⟨j,o,h1,h2⟩:=mem_lv.mp h
 have hj:j≠k:=λ z=>by
  subst z
  by_cases hl:j < M.length
  ·rw[List.getElem?_set_self hl] at h2;cases h2
  ·rw[List.getElem?_eq_none (by rw[List.length_set];omega)] at h2;cases h2
 rw[List.getElem?_set_ne λ z=>hj z.symm] at h2
 exact mem_lv.mpr ⟨j,o,h1,h2⟩
theorem OK.give {K:W.Frag}{F α:List Addr}{H:Hp}{M:Ms} (o:OK K F α H M) (k:Nat):OK K F α H (M.set k none)∧Ext F α H M α H (M.set k none):=by
 have sm:Same (hid F α M H) (hid F α (M.set k none) H):=λ b x h=>by
  obtain⟨n,q⟩:=bG h
  refine dO h (λ w=>n ?_) q
  rcases List.mem_append.mp w with w | w
  ·exact List.mem_append_left _ (Mq w)
  ·exact List.mem_append_right _ w
 refine⟨⟨by rw[List.length_set];exact o.ml,o.nd,o.fr,o.al,λ j x h=>?_,o.tb⟩,List.prefix_refl _,sm,λ _ _=>rfl⟩
 have hj:j≠k:=λ z=>by
  subst z
  by_cases hl:j < M.length
  ·rw[List.getElem?_set_self hl] at h;cases h
  ·rw[List.getElem?_eq_none (by rw[List.length_set];omega)] at h;cases h
 rw[List.getElem?_set_ne λ z=>hj z.symm] at h
 obtain⟨a,ea,ra⟩:=o.own j x h
 exact⟨a,ea,ra.mono (List.prefix_refl _) sm rfl⟩
noncomputable def O9 (i:Nat):DE:=λ δ M Q=>∃ (k:Nat) (es:List D),δ[i]? = some (some (.loc k))∧M[k]? = some (some (.lst es))∧Q (.lst es) (M.set k none)
theorem RL {x:Str}{pos:Pos} (i:Nat) (hN:X.N[i]? = some x:=by rfl) (hv:Vis X.env.scope x:=by first | exact Or.inl rfl | exact Or.inr (Or.inl rfl) | exact Or.inr (Or.inr rfl)) (hd:(x==("__debug__" : Str))=false:=by decide)
  (hcd:(x==("__classdict__" : Str))=false:=by decide):JE X (.Name x pos) (O9 i):=by
 refine⟨λ δ M P Q h q=>?_,PE.weak (pH hN hv hd hcd) λ σ H Q h=>?_⟩
 ·obtain⟨k,es,h1,h2,q⟩:=q
  exact⟨k,es,h1,h2,h _ _ q⟩
 ·obtain⟨F,α,δ,M,r,k,es,h1,h2,q⟩:=h
  obtain⟨v,e,rv⟩:=r.sl i _ h1
  unfold Rep at rv
  obtain⟨a,ea,rfl⟩:=rv
  obtain⟨a',yS,vs,hq,rr⟩:=r.ok.own k _ h2
  rw[ea] at yS;cases yS
  obtain⟨o2,e2⟩:=r.ok.give k
  refine⟨.ref a,e,q _ α H e2 o2 ?_⟩
  unfold Rep
  refine⟨a,vs,rfl,dg (λ w=>?_) hq rfl,e2.reps rr⟩
  rcases List.mem_append.mp w with w | w
  ·obtain⟨j,x,g1,g2⟩:=mem_lv.mp w
   have:j=k:=(List.getElem?_inj (List.getElem?_eq_some_iff.mp g1).1 r.ok.nd).mp (g1.trans ea.symm)
   subst this
   by_cases hl:j < M.length
   ·rw[List.getElem?_set_self hl] at g2;cases g2
   ·rw[List.getElem?_eq_none (by rw[List.length_set];omega)] at g2;cases g2
  ·exact(r.ok.fr a w).1 (List.mem_of_getElem? ea)
end
end L3
namespace L2
open PySem PySem.Spec PyProof.Rows
section
variable {prog:Program}{w:World}{A:Around}{E:Value→Shared→Prop}{s:Shared}
end
section
variable {X:Cx}{pos:Pos}
end
end L2
namespace L3
open PySem PySem.Spec PyProof.Rows L2
section
variable {X:Cx}{pos:Pos}
end
end L3
namespace L2
open PySem PySem.Spec PyProof.Rows
section
variable {X:Cx}{o:Expr}{to:TE}{apos cpos:Pos}{tg:Expr}
end
end L2
namespace L3
open PySem PySem.Spec PyProof.Rows L2
section
variable {X:Cx}
end
end L3
namespace L3
open PySem PySem.Spec PyProof.Rows L2
section
variable {K:W.Frag}{F α:List Addr}{H:Hp}{M:Ms}
end
end L3
namespace L2
open PySem PySem.Spec PyProof.Rows
noncomputable def Rec (h:Heap) (e:Addr) (cls:Value) (od:Option Addr) (T:Addr):Prop:=
 ∃ oe vs oT ts,h.get? e=some oe∧oe.cls=cls∧oe.dict=od∧oe.data = .fields vs∧vs[1]? = some (.ref T)∧T≠e∧h.get? T=some oT∧oT.data = .fields ts∧ts[3]? = some .none
noncomputable def Gb (h:Heap) (e:Addr) (cls:Value) (od:Option Addr):Prop:=∃ a0,h.get? e=some ⟨cls,od,.fields #[a0,.none,.none,.none,.bool false,.none],#[]⟩
noncomputable def Left (S R:List Addr) (h h':Heap):Prop:=∀ b o,h.get? b=some o→b ∉ R→(b ∉ S→h'.get? b=some o)∧∃ sl,h'.get? b=some { o with slots:=sl }
section
variable {M:Model}{A:Around}{E:Value→Shared→Prop}{s:Shared}
theorem sW (f:Array Value→Array Value) (o:Obj):(Obj.mapFields f o).dict=o.dict:=by
 unfold Obj.mapFields
 split <;> rfl
theorem Ja {base:Heap}{env:Env}{outer:List Env}{L e:Addr}{oe:Obj}{vs:Array Value}{head:Value}{hadNext:Bool}{Q:Unit→Shared→Prop}
  (hfr:A.frames=some (env::outer)) (hl:s.heap.FunFrames base (env::outer)) (hf:env.frame=some L)
  (he:s.heap.get? e=some oe) (hd:oe.data = .fields vs) (hsz:1 < vs.size)
  (h:∀ h' T,s.heap.objs.size≤T→Rec h' e oe.cls oe.dict T→Left (frs (env::outer)) [e] s.heap h'→Q () { s with heap:=h' }) :
  wpAny M A (do let a ← frameOf env;let pl ← entryPlaceOf L hadNext;let b ← EntryCells.newEntry head a .none (rawInt L) .none pl;setField (.ref e) 1 b) (λ _ s'=>wpAny M A (setFlight (.ref e) none) Q E s') E s:=by
 have hene:e ∉ (env::outer).filterMap (·.frame):=λ hm=>by
  obtain⟨_,o,ho,hnf⟩:=hl.mem hm
  rw[he] at ho;injection ho with ho;subst ho;exact hnf vs hd
 refine wpAny_bind (wpAny_frameOf_fun hfr hl hf λ h₁ hs₁=>?_)
 refine wpAny_bind (wpAny_entryPlaceOf λ pl hpl=>?_)
 unfold EntryCells.newEntry newFields
 refine wpAny_bind (wpAny_newObj_type ?_ (hpl.sizeOk5 _ _ _ _ _))
 have he₁:h₁.get? e=some oe:=(hs₁.2.1 e hene).trans he
 have he₂:=Heap.get?_push_of_some (h:=h₁) { cls:=.type "traceback",dict:=none,data:=.fields ([head,.ref L,.none,rawInt L,.none]++(if pl.isEmpty then List.replicate 6 Value.none else pl)).toArray } he₁
 refine wpAny_setField he₂ hd hsz ?_
 have hTe:h₁.objs.size≠e:=Nat.ne_of_gt (Heap.lt_size he₁)
 have hd₃:=Obj.data_mapFields hd (·.setIfInBounds 1 (Value.ref h₁.objs.size))
 have he₃:=Heap.get?_update_self (Obj.mapFields (·.setIfInBounds 1 (Value.ref h₁.objs.size))) he₂ (Obj.isFreed_of_fields hd₃)
 have hT₃:=(Heap.get?_update_other (h₁.push { cls:=.type "traceback",dict:=none,data:=.fields ([head,.ref L,.none,rawInt L,.none]++(if pl.isEmpty then List.replicate 6 Value.none else pl)).toArray })
  (Obj.mapFields (·.setIfInBounds 1 (Value.ref h₁.objs.size))) (Ne.symm hTe)).trans (Heap.get?_push_size h₁ rfl)
 unfold setFlight
 refine wpAny_bind (wpAny_field he₃ hd₃ (x:=.ref h₁.objs.size) (by simp[hsz]) ?_)
 rw[if_pos (show (Value.ref h₁.objs.size != Value.none)=true from by simp)]
 have keep:∀ b o,b≠e→h₁.get? b=some o →
   (((h₁.push { cls:=.type "traceback",dict:=none,data:=.fields ([head,.ref L,.none,rawInt L,.none]++(if pl.isEmpty then List.replicate 6 Value.none else pl)).toArray }).update e (Obj.mapFields (·.setIfInBounds 1 (Value.ref h₁.objs.size)))).update h₁.objs.size
    (Obj.mapFields (·.setIfInBounds 3 ((none:Option Addr).elim Value.none λ f=>rawInt f)))).get? b=some o:=λ b o hbe hb=>by
  have hbT:h₁.objs.size≠b:=Nat.ne_of_gt (Heap.lt_size hb)
  rw[Heap.get?_update_other _ _ hbT,Heap.get?_update_other _ _ (Ne.symm hbe)]
  exact Heap.get?_push_of_some _ hb
 refine wpAny_setField hT₃ rfl (by simp only [List.size_toArray,List.length_append,List.length_cons,List.length_nil] <;> omega) (h _ h₁.objs.size ?_ ?_ λ b o hb hn=>?_)
 ·exact Nat.le_of_eq hs₁.1.symm
 ·refine⟨_,_,_,_,?_,Obj.cls_mapFields _ _,sW _ _,hd₃,by simp[hsz],hTe,Heap.get?_update_self _ hT₃ (Obj.isFreed_of_fields (Obj.data_mapFields rfl _)),Obj.data_mapFields rfl _,by first | (simp;done) | (rcases hpl with rfl | ⟨_,_,_,_,_,_,_,rfl⟩ <;> simp)⟩
  rw[Heap.get?_update_other _ _ hTe];exact he₃
 ·have hbe:b≠e:=λ z=>hn (by simp[z])
  obtain⟨sl,hs⟩:=hs₁.2.2 b o hb
  exact⟨λ hS=>keep b o hbe ((hs₁.2.1 b hS).trans hb),sl,keep b _ hbe hs⟩
theorem zq {base:Heap}{env:Env}{outer:List Env}{L e:Addr}{cls:Value}{od:Option Addr}{Q:Unit→Shared→Prop}
  (hfr:A.frames=some (env::outer)) (hl:s.heap.FunFrames base (env::outer)) (hf:env.frame=some L) (hr:Gb s.heap e cls od)
  (h:∀ h' T,s.heap.objs.size≤T→Rec h' e cls od T→Left (frs (env::outer)) [e] s.heap h'→Q () { s with heap:=h' }):wpAny M A (leaving env (.ref e)) Q E s:=by
 obtain⟨a0,he⟩:=hr
 unfold leaving noteFrame
 simp only [hf]
 refine wpAny_bind (wpAny_bind (wpAny_field he rfl (x:=.none) rfl ?_))
 rw[if_neg (by decide)]
 exact Ja hfr hl hf he rfl (by show 1 < 6;decide) h
theorem vP {base:Heap}{env:Env}{outer:List Env}{L e T₀:Addr}{cls:Value}{od:Option Addr}{Q:Unit→Shared→Prop}
  (hfr:A.frames=some (env::outer)) (hl:s.heap.FunFrames base (env::outer)) (hf:env.frame=some L) (hr:Rec s.heap e cls od T₀)
  (h:∀ h' T,s.heap.objs.size≤T→Rec h' e cls od T→Left (frs (env::outer)) [e,T₀] s.heap h'→Q () { s with heap:=h' }):wpAny M A (noteFrame (.ref e) env) (λ _ s'=>wpAny M A (setFlight (.ref e) none) Q E s') E s:=by
 obtain⟨oe,vs,oT,ts,he,rfl,rfl,hd,h1,hTe,hT,hdT,h3⟩:=hr
 unfold noteFrame
 simp only [hf]
 refine wpAny_bind (wpAny_field he hd h1 ?_)
 rw[if_pos (show (Value.ref T₀ != Value.none)=true from by simp)]
 refine wpAny_bind (wpAny_field hT hdT h3 ?_)
 rw[if_neg (show ¬ ((Value.none==rawInt L)=true) from by simp[rawInt])]
 refine wpAny_bind (wpAny_setField hT hdT (Array.getElem?_eq_some_iff.mp h3).1 ?_)
 have other:∀ b,b≠T₀→(s.heap.update T₀ (Obj.mapFields (·.setIfInBounds 3 Value.none))).get? b=s.heap.get? b:=λ b hb=>Heap.get?_update_other _ _ (Ne.symm hb)
 have noRecord:∀ b o,s.heap.get? b=some o→(∀ vs,o.data≠.fields vs)→b≠T₀:=λ b o hb hnf q=>by
  rw[q,hT] at hb;injection hb with hb;subst hb;exact hnf ts hdT
 refine Ja (s:={ s with heap:=s.heap.update T₀ (Obj.mapFields (·.setIfInBounds 3 Value.none)) }) hfr (hl.of_keeps λ b o hb hnf=>⟨o,(other b (noRecord b o hb hnf)).trans hb,rfl⟩) hf ((other e (Ne.symm hTe)).trans he) hd (Array.getElem?_eq_some_iff.mp h1).1
  λ h' T hn hr hk=>h h' T ?_ hr λ b o hb hnb=>?_
 ·have e:=Heap.size_after_update s.heap T₀ (Obj.mapFields (·.setIfInBounds 3 Value.none))
  have hn:(s.heap.update T₀ (Obj.mapFields (·.setIfInBounds 3 Value.none))).objs.size≤T:=hn
  rw[e] at hn;exact hn
 ·exact hk b o ((other b λ z=>hnb (by simp[z])).trans hb) λ z=>hnb (by simp at z;simp[z])
theorem Cj {base:Heap}{env:Env}{outer:List Env}{L e T₀:Addr}{cls:Value}{od:Option Addr}{Q:Unit→Shared→Prop}
  (hfr:A.frames=some (env::outer)) (hl:s.heap.FunFrames base (env::outer)) (hf:env.frame=some L) (hr:Rec s.heap e cls od T₀)
  (h:∀ h' T,s.heap.objs.size≤T→Rec h' e cls od T→Left (frs (env::outer)) [e,T₀] s.heap h'→Q () { s with heap:=h' }):wpAny M A (leaving env (.ref e)) Q E s:=
 wpAny_bind (vP hfr hl hf hr h)
end
end L2
namespace L2
open PySem PySem.Spec PyProof.Rows
theorem ObjOk.there {P:Program}{w:World}{H:Hp}{h:Heap}{a:Addr}{o:HO} (x:ObjOk P w H h a o):∃ ob,h.get? a=some ob:=by
 cases o with
 | lst xs=>obtain⟨_,_,_,_,e⟩:=x;exact⟨_,e⟩
 | tup xs=>obtain⟨_,_,_,o,e,_⟩:=x;exact⟨_,e⟩
 | dK kvs=>obtain⟨_,_,_,_,o,_,_,e,_⟩:=x;exact⟨_,e⟩
 | dT kvs=>obtain⟨_,_,_,_,o,_,_,e,_⟩:=x;exact⟨_,e⟩
 | set S n=>obtain⟨o,_,_,_,e,_⟩:=x;exact⟨_,e⟩
 | ins C dx fs=>obtain⟨_,_,_,e,_⟩:=x;exact⟨_,e⟩
 | own y=>exact x
 | xd fs=>obtain⟨_,⟨_,_,_,e,_⟩,_⟩:=x;exact⟨_,e⟩
 | rng lo hi=>obtain⟨_,_,_,e⟩:=x;exact⟨_,e⟩
 | frz ob u=>obtain⟨e,_⟩:=x;exact⟨_,e⟩
 | tbl ps=>exact⟨_,(show h.get? a=some _ from x)⟩
 | dE ep kvs=>obtain⟨_,_,_,_,o,_,e,_⟩:=x;exact⟨_,e⟩
 | xc C fs=>obtain⟨_,_,e,_⟩:=x;exact⟨_,e⟩
 | met f y=>exact⟨_,(show h.get? a=some _ from x)⟩
 | ext φ=>obtain⟨_,e,_⟩:=x;exact e
theorem HOk.none {P:Program}{w:World}{H:Hp}{h:Heap}{a:Addr} (x:HOk P w H h) (e:h.get? a=none):H a=none:=by
 cases q:H a with
 | none=>rfl
 | some o=>obtain⟨ob,g⟩:=(x a o q).there;rw[e] at g;cases g
section
variable {X:Cx}{pins:List (Addr×Obj)}{σ:St}{H:Hp}{s:Shared}{h':Heap}
theorem Inv.frN (I:Inv X pins σ H s) {b:Addr} (hb:b∈frs X.stack):H b=none:=by
 rcases List.mem_cons.mp (I.stkSub b hb) with z | z
 ·rw[z];exact I.free
 ·obtain⟨_,o,ho,_⟩:=I.ok.funs.mem z
  exact I.base.free b o ho (I.ok.frf b z) λ q=>I.ok.exfs b q z
theorem Inv.left (I:Inv X pins σ H s) (hex:X.ex=[]) {R:List Addr} (hR:∀ b∈R,X.s₀.heap.get? b=none∧H b=none) (hL:Left (frs X.stack) R s.heap h') :
  Un X.fs [] X.H₀ H X.s₀.heap h'∧HOk X.prog X.w H h':=by
 have nx:∀ b,b ∉ X.ex:=λ b z=>by rw[hex] at z;cases z
 have nR:∀ b o,X.s₀.heap.get? b=some o→b ∉ R:=λ b o e z=>by rw[(hR b z).1] at e;cases e
 refine⟨⟨λ b o e n hb _=>?_,λ b o e n hb _=>?_,λ b o e n _=>I.base.free b o e n (nx b),λ b o e _=>?_,I.base.tups,I.base.frzs,I.base.tbls⟩,λ a o e=>?_⟩
 ·refine(hL b o (I.base.keep b o e n hb (nx b)) (nR b o e)).1 λ z=>?_
  rcases List.mem_cons.mp (I.stkSub b z) with q | q
  ·have:=Heap.lt_size e
   rw[q] at this
   exact absurd (Nat.lt_of_lt_of_le this I.ok.above) (Nat.lt_irrefl _)
  ·exact hb q
 ·obtain⟨sl,q⟩:=I.base.slot b o e n hb (nx b)
  obtain⟨sl',q'⟩:=(hL b _ q (nR b o e)).2
  exact⟨sl',q'⟩
 ·obtain⟨o',q⟩:=I.base.there b o e (nx b)
  obtain⟨sl',q'⟩:=(hL b _ q (nR b o e)).2
  exact⟨_,q'⟩
 ·refine(I.hok a o e).stay (λ b u hb q=>?_) (λ _ q=>q) λ _ _ q=>q
  have hn:H b≠none:=by
   rcases hb with rfl | hb
   ·rw[e];exact λ z=>by cases z
   ·rw[hb];exact λ z=>by cases z
  exact(hL b u q λ z=>hn (hR b z).2).1 λ z=>hn (I.frN z)
end
noncomputable def Mr (P:Program) (w:World):CXT:=λ outer H s E e s'=>∃ x C od H' T,e = .ref x∧s'.os=s.os∧AllBare s'.gens∧Un (frs outer) [] H H' s.heap s'.heap∧HOk P w H' s'.heap ∧
 Rec s'.heap x C od T∧s.heap.objs.size≤x∧s.heap.objs.size≤T∧H' x=none∧H' T=none∧E C od H'
section
variable {P:Program}{w:World}{K:W.Frag}{mg:Str→Option Value}{base:Heap}{N:List Str}{qual:Str}{scope:Scope}{f:Addr}{cd:Value}{A:Around}{outer:List Env}{s₀:Shared}{H₀:Hp}{E:XK}
abbrev qN (P:Program) (w:World) (K:W.Frag) (mg:Str→Option Value) (base:Heap) (N:List Str) (qual:Str) (scope:Scope) (f:Addr) (cd:Value) (A:Around) (outer:List Env) (s:Shared) (H:Hp) (E:XK):Cx:=nj (Mr P w) P w K mg base N qual scope f cd A outer s H E
theorem Inv.szle {X:Cx}{pins:List (Addr×Obj)}{σ:St}{H:Hp}{s:Shared} (I:Inv X pins σ H s):X.s₀.heap.objs.size≤s.heap.objs.size:=by
 obtain⟨m,⟨o,es,ep,ho,_⟩,_⟩:=I.loc
 exact Nat.le_of_lt (Nat.lt_of_le_of_lt I.ok.above (Heap.lt_size ho))
theorem Jb {pins:List (Addr×Obj)}{σ:St}{H:Hp}{s:Shared}{x:Addr}{C:Value}{od:Option Addr} (I:Inv (qN P w K mg base N qual scope f cd A outer s₀ H₀ E) pins σ H s)
  (hr:Gb s.heap x C od) (h0:s₀.heap.objs.size≤x) (hx:H x=none) (hE:E C od H):(qN P w K mg base N qual scope f cd A outer s₀ H₀ E).xe (.ref x) s:=by
 refine zq (base:=base) I.ok.frames I.stack rfl hr λ h' T hT hr' hL=>?_
 obtain⟨u,hok⟩:=I.left rfl (R:=[x]) (λ b hb=>by cases List.mem_singleton.mp hb;exact⟨Heap.get?_none_of_le h0,hx⟩) hL
 exact⟨x,C,od,H,T,rfl,I.os,I.bare,u,hok,hr',h0,Nat.le_trans I.szle hT,hx,I.hok.fresh hT,hE⟩
theorem VF:Passes (Mr P w) (qN P w K mg base N qual scope f cd A outer s₀ H₀ E) E:=λ pins σ H s e s' I h=>by
 obtain⟨x,C,od,H',T,rfl,ho,hg,u,hok,hr,hx,hT,hHx,RM,hE⟩:=h
 have I':=I.call' ho u hok hg (λ b hb=>by cases hb)
 refine Cj (base:=base) I'.ok.frames I'.stack rfl hr λ h' T' hT' hr' hL=>?_
 obtain⟨u',hok'⟩:=I'.left rfl (R:=[x,T]) (λ b hb=>by
  rcases List.mem_cons.mp hb with rfl | hb
  ·exact⟨Heap.get?_none_of_le (Nat.le_trans I.szle hx),hHx⟩
  ·cases List.mem_singleton.mp hb;exact⟨Heap.get?_none_of_le (Nat.le_trans I.szle hT),RM⟩) hL
 exact⟨x,C,od,H',T',rfl,I'.os,I'.bare,u',hok',hr',Nat.le_trans I.szle hx,Nat.le_trans I'.szle hT',hHx,I'.hok.fresh hT',hE⟩
end
end L2
namespace L2
open PySem PySem.Spec PyProof.Rows PySem.W PySem.Calls Builtin
section
variable {prog:Program}{w:World}{A:Around}{R:Result→Shared→Prop}{h:Heap}{g:Array GenState}{d:Drawn}{t:Nat}{os:OsState}
variable {nm q:Str}{C N f:Addr}{bs bm bmB:List Value}{hdct:Bool}{sn:List Str}{sub:List Value}{ab:Bool}{col:Option Bool}{dd:Option Addr}{k0 k1 k2 k3 k5:Option Value}{B newId initId:String}
abbrev gn (C t:Addr):Obj:={ cls:=.ref C,data:=.fields #[.ref t,.none,.none,.none,.bool false,.none] }
abbrev iw (us:List Value):Obj:={ cls:=.type "tuple",data:=.seq us.toArray }
theorem Jc (F:ExcBaseFacts B newId initId bmB) (T:OwnTail h bmB bm) {rest:List Value}
  (hC:h.get? C=some (excClassObj nm q C N bs bm hdct sn sub ab col dd k0 k1 k2 k3 k5 newId)) (call:Looks (model prog w) h (specialOf (.ref C) "__call__") (some (.builtin "type.__call__"))) (typ:Looks (model prog w) h (isInstance (.ref C) (.type "type")) true)
  (hi:Looks (model prog w) h (typeLookup (.ref C) "__init__") (some (.ref f))) (hb:∀ self,Looks (model prog w) h (bindSpecial (.ref f) self) (.ref f,[self])) (hrest:rest.length≤sizeLine)
  (hq:codeAny (model prog w) (A.under (.builtin "type.__call__" ⟨.ref C::rest,[]⟩)) (.call (.ref f) ⟨.ref (h.objs.size+1)::rest,[]⟩) (InitBack (h.objs.size+1) R) ⟨(h.push (iw rest)).push (gn C h.objs.size),g,d,t,os⟩) :
  codeAny (model prog w) A (.call (.ref C) ⟨rest,[]⟩) R ⟨h,g,d,t,os⟩:=by
 refine codeAny_of_tree ?_
 show wpAny _ _ (callAny (.ref C) _) _ _ _
 refine nd_load hC ?_
 show wpAny _ _ (callAny.viaDunder (.ref C) _) _ _ _
 unfold callAny.viaDunder
 refine wpAny_bind (call.at ?_)
 dsimp only
 rw[tc_bind]
 refine wpAny_bind (wpAny_pure (wpAny_bind (wpAny_pure ?_)))
 refine wpAny_pure (a:=Fin.again (.call (.builtin "type.__call__") ⟨.ref C::rest,[]⟩)) (And.intro rfl ?_)
 refine codeAny_call_builtin_at (Code.quiet_builtin _ (by decide +kernel)) entry_typeCall (check_slot tc_kind tc_split typ (tc_args _ _ _) ?_)
 unfold Builtin.«type.__call__»
 repeat (first | with_reducible refine wpAny_loadPart_at hC ?_ | with_reducible refine wpAny_madeBy_exc hC ?_ | wp_step)
 refine codeAny_call_builtin_code (Code.quiet_builtin _ F.quiet) (wpAny_check_new_subT F T hC ?_)
 refine codeAny_exc_new_subT F T hC ?_ hrest
 show wpAny _ _ _ _ _ _
 have k:∀ b o,h.get? b=some o→((h.push (iw rest)).push (gn C h.objs.size)).get? b=some o:=λ b o e=>Heap.get?_push_of_some _ (Heap.get?_push_of_some _ e)
 have hx:((h.push (iw rest)).push (gn C h.objs.size)).get? (h.objs.size+1)=some (gn C h.objs.size):=by heap_get
 have hC₁:=k _ _ hC
 have t1:Looks (model prog w) ((h.push (iw rest)).push (gn C h.objs.size)) (typeOf (.ref (h.objs.size+1))) (.ref C):=(Looks.ld hx).andThen .now
 have hcC:(Value.ref C::bm).contains (.ref C)=true:=by simp
 have s1:Looks (model prog w) ((h.push (iw rest)).push (gn C h.objs.size)) (isSubtype (.ref C) (.ref C)) true:=by
  intro A Q E s kk qq
  obtain⟨hh,g,d,t,os⟩:=s
  refine wpAny_isSubtype_exc (kk _ _ hC₁) ?_
  rw[hcC];exact qq
 have i1:=hi.keeps k
 have b1:=(hb (.ref (h.objs.size+1))).keeps k
 unfold isInstance callSpecial? specialOf
 repeat (first | with_reducible refine wpAny_call ?_ | lk)
 refine codeAny_mono hq λ r s' z=>?_
 rcases r with e | (v | _ | _ | _) <;> first | exact z | exact z.elim | skip
 obtain⟨rfl,z⟩:=z
 exact wpAny_pure (wpAny_pure z)
end
end L2
namespace L2
open PySem PySem.Spec PyProof.Rows PySem.W
section
variable {prog:Program}{w:World}{A:Around}{E:Value→Shared→Prop}{s:Shared}{K:W.Frag}{C x:Addr}{name:Str}{v:Value}
noncomputable def XF (h:Heap) (x:Addr) (od:Option Addr) (mA:Str→Option Value):Prop:=match od with
 | none=>∀ n,mA n=none
 | some dx=>dx≠x∧h.Ns1 dx mA
noncomputable def zu:List Value→Bool
 | [.type a,.type b,.type c,.type d]=>a == "ValueError" && b == "Exception" && c == "BaseException" && d == "object"
 | .ref _::r=>zu r
 | _=>false
theorem zx (self:Value):∀ l:List Value,zu l=true→refuseLoop self "__setattr__" l=pure ()
 | [.type a,.type b,.type c,.type d],h=>by
  simp only [zu,Bool.and_eq_true,beq_iff_eq] at h
  obtain⟨⟨⟨rfl,rfl⟩,rfl⟩,rfl⟩:=h
  exact PySem.F.store_ValueError.passes self
 | .ref C::r,h=>by
  rw[refuseLoop_ref]
  exact zx self r (by simpa only [zu] using h)
noncomputable def XOver (K:W.Frag) (C:Addr):Prop:=(W.clsIn K C).any (λ cd=>zu cd.mro)=true
theorem Gd {ox:Obj}{od:Option Obj}{tk:Tok}{R:Result→Shared→Prop} (X:K.In s.heap) (I:W.InstAt s.heap x ox C od) (hp:XOver K C) (hso:W.subIn K (.ref C) (.type "object")=some true) (hn:W.findIn K (.ref C) name=some none)
  (h:wpAny (model prog w) A.in1 (Builtin.ObjectAttr.storeInOwnDict (.ref x) (.ref C) (.str name tk) name v false)
   (λ fin s'=>match fin with
    | .done f=>R (.ok f) s'
    | .again c'=>c'.quiet=true∧codeAny (model prog w) A c' R s') (λ e s'=>R (.error e) s') s) :
  codeAny (model prog w) A (.call (.builtin "object.__setattr__") ⟨[.ref x,.str name tk,v],[]⟩) R s:=by
 have F:=PySem.F.store_ValueError
 obtain⟨cd,hcd,hov⟩:=W.any_some hp
 have t1:W.Looks (model prog w) s.heap (typeOf (.ref x)) (.ref C):=by
  obtain⟨hx,hc,_⟩:=I
  rw[← hc]
  exact(W.Looks.ld hx).andThen .now
 have s1:=W.looks_subIn (M:=model prog w) X hso
 have typ:W.Looks (model prog w) s.heap (isInstance (.ref x) (.type "object")) true:=by
  unfold isInstance
  exact t1.andThen s1
 have e1:=F.slot.plain
 have e2:=F.entry
 have e3:=F.args (.ref x) (.str name tk) v
 have e4:=F.kind
 have e5:=F.split
 clear F
 refine codeAny_call_builtin e1 e2 ?_
 with_reducible refine check_slot e4 e5 typ e3 ?_
 rw[W.osa_eq,refuse_eq]
 have m1:mroOf (.ref C)=(classData C >>= λ cd=>pure cd.mro):=rfl
 have tk0:Builtin.ObjectAttr.storeTaker? none=pure none:=rfl
 with_reducible refine wpAny_bind ?_
 with_reducible refine wpAny_bind ?_
 with_reducible refine t1.at ?_
 rw[m1]
 with_reducible refine wpAny_bind ?_
 with_reducible refine wpAny_bind ?_
 with_reducible refine(W.looks_clsIn X hcd).at ?_
 with_reducible refine wpAny_pure ?_
 rw[zx _ _ hov]
 with_reducible refine wpAny_pure ?_
 with_reducible refine wpAny_bind ?_
 with_reducible refine t1.at ?_
 with_reducible refine wpAny_bind ?_
 with_reducible refine(W.looks_findIn X hn).at ?_
 rw[tk0]
 with_reducible refine wpAny_bind ?_
 with_reducible refine wpAny_pure ?_
 exact h
theorem Mt {oe:Obj}{vs:Array Value}{mA:Str→Option Value}{ns:List Str}{Q:Unit→Shared→Prop} (X:K.In s.heap) (hx:s.heap.get? x=some oe) (hc:oe.cls = .ref C) (hf:oe.data = .fields vs) (hm:XF s.heap x oe.dict mA)
  (hs:W.findIn K (.ref C) "__setattr__"=some (some (.builtin "object.__setattr__"))) (hp:XOver K C) (hso:W.subIn K (.ref C) (.type "object")=some true) (ht:W.findIn K (.ref C) name=some none) (hh:W.hasDictIn K C=true)
  (hw:PySem.Within mA ns) (hsz:ns.length < sizeLine)
  (h:∀ h' dx t',h'.get? x=some { oe with dict:=some dx }→(oe.dict=some dx∨(oe.dict=none∧dx=s.heap.objs.size))→dx≠x→h'.Ns1 dx (λ y=>if y=name then some v else mA y)→(∀ b o,b≠x→b≠dx→s.heap.get? b=some o→h'.get? b=some o)→Q () { s with heap:=h',toks:=t' }) :
  wpAny (model prog w) A (setAttr (.ref x) name v) Q E s:=by
 have nf:oe.isFreed=false:=by have:=(Heap.get?_some_iff.mp hx).2;exact this
 obtain⟨oc,od,odt,osl⟩:=oe
 cases hc
 cases hf
 have I:∃ o',W.InstAt s.heap x ⟨.ref C,od,.fields vs,osl⟩ C o':=by
  cases od with
  | none=>exact⟨none,hx,rfl,rfl,trivial⟩
  | some dx=>
   obtain⟨_,o,es,ep,ho,_⟩:=hm
   exact⟨some o,hx,rfl,rfl,ho⟩
 obtain⟨o',I⟩:=I
 refine W.set_plain X I hs (Gd (s:={ s with toks:=s.toks+1 }) X I hp hso ht ?_)
 obtain⟨cd,hcd,hd'⟩:=W.any_some hh
 refine wpAny_bind (wpAny_pure (wpAny_bind (wpAny_bind (wpAny_loadPart hx ?_))))
 dsimp only
 refine wpAny_bind (W.Looks.here (s:={ s with toks:=s.toks+1 }) (W.looks_clsIn X hcd) ?_)
 rw[hd']
 cases od with
 | none=>
  have hm:∀ n,mA n=none:=hm
  have hx₁:(s.heap.push { cls:=.type "dict",data:=.dict #[] }).get? x=some ⟨.ref C,none,.fields vs,osl⟩:=Heap.get?_push_of_some _ hx
  have hxs:x≠s.heap.objs.size:=Nat.ne_of_lt (Heap.lt_size hx)
  show wpAny _ _ (do
   let d ← alloc { cls:=Value.type "dict",data:=Data.dict #[] }
   update x λ o=>{ cls:=o.cls,dict:=some d,data:=o.data,slots:=o.slots }
   dictMade (.ref C) x d) _ _ _
  refine wpAny_bind (wpAny_alloc ?_)
  refine wpAny_bind (wpAny_update hx₁ ?_)
  refine wpAny_pure ?_
  have hgd:((s.heap.push { cls:=.type "dict",data:=.dict #[] }).update x λ o=>{ cls:=o.cls,dict:=some s.heap.objs.size,data:=o.data,slots:=o.slots }).get? s.heap.objs.size
    = some { cls:=.type "dict",data:=.dict #[] }:=
   (Heap.get?_update_ne _ _ _ _ hxs.symm).trans (Heap.get?_push_at rfl rfl)
  have hnd:((s.heap.push { cls:=.type "dict",data:=.dict #[] }).update x λ o=>{ cls:=o.cls,dict:=some s.heap.objs.size,data:=o.data,slots:=o.slots }).Ns s.heap.objs.size (λ _=>none):=
   ⟨_,#[],_,hgd,rfl,λ e he=>absurd he (by simp),λ _=>rfl⟩
  show wpAny _ _ (Builtin.ObjectAttr.storeInDict s.heap.objs.size (.str name _) name v) _ _ _
  unfold Builtin.ObjectAttr.storeInDict Builtin.ObjectAttr.newKeyGuard
  refine wpAny_bind (wpAny_pure (wpAny_bind (wpAny_nsSet1 (Heap.Ns1.of_empty hnd) λ h' hn' hs=>?_)))
  obtain⟨oD,esD,epD,hoD,hdD,hcD⟩:=hn'.count (Within.cons name v Within.nil)
  refine wpAny_bind (wpAny_lookBehind hoD (by rw[hdD];exact pastItsLine_dict (Nat.le_trans hcD (by rw[List.length_cons,List.length_nil,sizeLine_eq];omega))) ?_)
  refine wpAny_pure (h h' s.heap.objs.size _ ?_ (.inr ⟨rfl,rfl⟩) hxs.symm ?_ λ b o hbx hbd hb=>?_)
  ·exact(hs.2 x hxs).trans (Heap.get?_update_self _ hx₁ rfl)
  ·obtain⟨o',es,ep,e1,e2,e3,eu,e4⟩:=hn'
   exact⟨o',es,ep,e1,e2,e3,eu,λ y=>by rw[e4 y];by_cases hy:y=name <;> simp[hy,hm]⟩
  ·exact(hs.2 b hbd).trans ((Heap.get?_update_ne _ _ _ _ hbx).trans (Heap.get?_push_of_some _ hb))
 | some dx=>
  obtain⟨hne,hns⟩:=(show dx≠x∧s.heap.Ns1 dx mA from hm)
  show wpAny _ _ (pure (some dx)) _ _ _
  refine wpAny_pure ?_
  show wpAny _ _ (Builtin.ObjectAttr.storeInDict dx (.str name _) name v) _ _ _
  unfold Builtin.ObjectAttr.storeInDict Builtin.ObjectAttr.newKeyGuard
  refine wpAny_bind (wpAny_pure (wpAny_bind (wpAny_nsSet1 (s:={ s with toks:=s.toks+1 }) hns λ h' hn' hs=>?_)))
  obtain⟨oD,esD,epD,hoD,hdD,hcD⟩:=hn'.count (Within.cons name v hw)
  refine wpAny_bind (wpAny_lookBehind hoD (by rw[hdD];exact pastItsLine_dict (Nat.le_trans hcD (by rw[List.length_cons];omega))) ?_)
  refine wpAny_pure (h h' dx _ ((hs.2 x hne.symm).trans hx) (.inl rfl) hne hn' λ b o hbx hbd hb=>(hs.2 b hbd).trans hb)
end
end L2
namespace L2
open PySem PySem.Spec PyProof.Rows PySem.W
section
variable {prog:Program}{w:World}{A:Around}{E:Value→Shared→Prop}{h:Heap}{g:Array GenState}{d:Drawn}{t:Nat}{os:OsState}
variable {nm q:Str}{C N x:Addr}{bs bm bmB:List Value}{hdct:Bool}{sn:List Str}{sub:List Value}{ab:Bool}{col:Option Bool}{dd:Option Addr}{k0 k1 k2 k3 k5:Option Value}{B newId initId:String}
theorem Jd (F:ExcBaseFacts B newId initId bmB) (T:OwnTail h bmB bm) {oe:Obj}{vs:Array Value}{u:Value}{Q:Value→Shared→Prop}
  (hC:h.get? C=some (excClassObj nm q C N bs bm hdct sn sub ab col dd k0 k1 k2 k3 k5 newId)) (he:h.get? x=some oe) (hcls:oe.cls = .ref C) (hd:oe.data = .fields vs) (hsz:1 < vs.size)
  (hq:∀ h' a,h'.get? x=some { oe with data:=.fields (vs.setIfInBounds 0 a) }→(∀ b o,b≠x→h.get? b=some o→h'.get? b=some o)→Q .none ⟨h',g,d,t,os⟩) :
  wpAny (model prog w) A (call (.builtin initId) [.ref x,u]) Q E ⟨h,g,d,t,os⟩:=by
 obtain⟨oc,od,odt,osl⟩:=oe
 cases hcls
 cases hd
 refine wpAny_call (codeAny_call_builtin F.init.plain F.initEntry (wpAny_check_init_subT F T hC he rfl ?_))
 wp_walk
 obtain⟨a0,h0⟩ : ∃ a,vs[0]? = some a:=⟨_,Array.getElem?_eq_getElem (by omega)⟩
 rw[h0]
 refine wpAny_pure ?_
 have he':=Heap.get?_push_of_some (h:=h) { cls:=.type "tuple",data:=.seq [u].toArray } he
 refine wpAny_bind (wpAny_setField he' rfl (by omega) ?_)
 have fin:∀ Q':Unit→Shared→Prop,Q' () ⟨(h.push { cls:=.type "tuple",data:=.seq [u].toArray }).update x (Obj.mapFields (·.setIfInBounds 0 (.ref h.objs.size))),g,d,t,os⟩→∀ E',wpAny (model prog w) A.in1 (match a0 with | Value.ref a_1=>letGo [a0] | x=>pure ()) Q' E' ⟨(h.push { cls:=.type "tuple",data:=.seq [u].toArray }).update x (Obj.mapFields (·.setIfInBounds 0 (.ref h.objs.size))),g,d,t,os⟩:=λ Q' q E'=>by
  cases a0 <;> first | exact wpAny_pure q | skip
  wp_walk
  exact q
 refine fin _ (wpAny_pure ?_) _
 refine hq _ (.ref h.objs.size) ?_ λ b o hb e=>?_
 ·exact Heap.get?_update_self _ he' (Obj.isFreed_of_fields (Obj.data_mapFields rfl _))
 ·rw[Heap.get?_update_other _ _ (Ne.symm hb)]
  exact Heap.get?_push_of_some _ e
end
end L2
namespace L2
open PySem PySem.Spec PyProof.Rows PySem.W
section
variable {X:Cx}{value e:Expr}{es:List Expr}{te:TE}{pos:Pos}
noncomputable def VG (te:TE):TE:=λ σ H Q=>te σ H λ x H1=>match x with
 | .str y=>y.length≤sizeLine∧Q (.str y) H1
 | .int i=>i.natAbs.log2 < 1920∧Q (.str (toString i)) H1
 | _=>False
theorem Inv.tk {pins:List (Addr×Obj)}{σ:St}{H:Hp}{s:Shared} (I:Inv X pins σ H s) (t':Nat):Inv X pins σ H { s with toks:=t' }:=⟨I.ok,I.os,I.bare,I.base,I.loc,I.cell,I.free,I.freeC,I.pin,I.hok,I.len⟩
theorem RN (h:PE X value te):PE X (.FormattedValue value (-1) none pos) (VG te):=by
 intro pins s σ H Q I hq
 refine FormattedValue_plain (cY (h pins s σ H _ I hq) λ v s1 ⟨x,H1,I1,r1,q⟩=>?_)
 cases x <;> first | exact q.elim | skip
 ·rename_i i
  obtain⟨t,rfl⟩:=r1
  refine formatField_int_small q.1 ?_
  exact⟨.str (toString i),H1,I1.tk _,⟨_,rfl⟩,q.2⟩
 ·rename_i y
  obtain⟨t,rfl⟩:=r1
  exact formatField_str (λ t' tk=>⟨.str y,H1,I1.tk _,⟨_,rfl⟩,q.2⟩) q.1
abbrev TJ:=Str→St→Hp→VK→Prop
noncomputable def PJ (X:Cx) (es:List Expr) (t:TJ):Prop:=∀ (acc:Str) (pins:List (Addr×Obj)) (s:Shared) (σ:St) (H:Hp) (Q:VK),Inv X pins σ H s→t acc σ H Q→wpAny (model X.prog X.w) X.A (joinParts acc (evalEach es X.env)) (EP X pins σ Q) X.xe s
noncomputable def Pa:TJ:=λ acc _ H Q=>acc.length≤sizeLine∧Q (.str acc) H
noncomputable def Je (te:TE) (tj:TJ):TJ:=λ acc σ H Q=>te σ H λ x H1=>∃ y,x = .str y∧(acc++y).length≤sizeLine∧tj (acc++y) σ H1 Q
theorem RP:PJ X [] Pa:=λ acc pins s σ H Q I q=>joinParts_nil ⟨.str acc,H,I.tk _,⟨_,rfl⟩,q.2⟩ q.1
theorem Eb {tj:TJ} (h:PE X e te) (hs:PJ X es tj):PJ X (e::es) (Je te tj):=by
 intro acc pins s σ H Q I hq
 show wpAny _ _ (joinParts acc (eval e X.env::evalEach es X.env)) _ _ _
 refine joinParts_cons (cY (h pins s σ H _ I hq) λ v s1 ⟨x,H1,I1,r1,y,e1,hz,q⟩=>?_)
 subst e1
 obtain⟨t,rfl⟩:=r1
 exact⟨hz,hs _ pins s1 σ H1 Q I1 q⟩
theorem Mu {tj:TJ}{e2:Expr} (h:PJ X (e::e2::es) tj):PE X (.JoinedStr (e::e2::es) pos) (tj Str.empty):=λ pins s σ H Q I q=>JoinedStr_many (h Str.empty pins s σ H Q I q)
end
end L2
namespace L2
open PySem PySem.Spec PyProof.Rows PySem.W
noncomputable def iy (x C:Addr) (od:Option Addr):HO:=.ext λ h=>Gb h x (.ref C) od
noncomputable def wR (dx:Addr) (fs:List (Str×V)):HO:=.ext λ h=>∃ mA,h.Ns1 dx mA∧(∀ f,RelO (fs.lookup f) (mA f))∧PySem.Within mA (fs.map (·.1))
structure XCls (K:W.Frag) (C:Addr):Prop where
 hd:W.hasDictIn K C=true
 po:XOver K C
 so:W.subIn K (.ref C) (.type "object")=some true
 sa:W.findIn K (.ref C) "__setattr__"=some (some (.builtin "object.__setattr__"))
theorem Ck {P:Program}{w:World}{H:Hp}{h:Heap}{x C:Addr}{od:Option Addr} (r:Gb h x (.ref C) od):ObjOk P w H h x (iy x C od):=by
 obtain⟨a0,e⟩:=r
 refine⟨⟨a0,e⟩,⟨_,e⟩,λ h1 h2 ⟨b,q⟩ k=>⟨b,k _ q⟩⟩
theorem VH {P:Program}{w:World}{H:Hp}{h:Heap}{dx:Addr}{fs:List (Str×V)}{mA:Str→Option Value} (n:h.Ns1 dx mA) (r:∀ f,RelO (fs.lookup f) (mA f)) (wi:PySem.Within mA (fs.map (·.1))):ObjOk P w H h dx (wR dx fs):=by
 obtain⟨o,es,ep,e,q⟩:=id n
 exact⟨⟨mA,n,r,wi⟩,⟨_,e⟩,λ h1 h2 ⟨mB,n',r'⟩ k=>⟨mB,n'.at k,r'⟩⟩
noncomputable def XD (H:Hp) (x:Addr) (od:Option Addr) (fs:List (Str×V)):Prop:=match od with
 | none=>fs=[]
 | some dx=>dx≠x∧H dx=some (wR dx fs)
section
variable {X:Cx}{pins:List (Addr×Obj)}{σ:St}{H:Hp}{s:Shared}{A:Around}{E:Value→Shared→Prop}{C x:Addr}{f:Str}
theorem Mv {od:Option Addr}{fs:List (Str×V)}{y:V}{u:Value}{Q:Unit→Shared→Prop} (I:Inv X pins σ H s) (ex:H x=some (iy x C od)) (hd:XD H x od fs) (c:XCls X.K C) (n:NoAttr X.K C f) (hl:fs.length < 1000) (ry:RelV y u)
  (h:∀ s' dx,(od=some dx∨(od=none∧H dx=none))→dx≠x→Inv X pins σ (upd (upd H dx (wR dx (oA f y fs))) x (iy x C (some dx))) s'→Q () s'):wpAny (model X.prog X.w) A (setAttr (.ref x) f u) Q E s:=by
 obtain⟨⟨a0,hx⟩,_,_⟩:=(show ObjOk X.prog X.w H s.heap x (iy x C od) from I.hok x _ ex)
 obtain⟨mA,xf,rl,wi⟩ : ∃ mA,XF s.heap x od mA∧(∀ g,RelO (fs.lookup g) (mA g))∧PySem.Within mA (fs.map (·.1)):=by
  cases od with
  | none=>
   cases (show fs=[] from hd)
   exact⟨λ _=>none,λ _=>rfl,λ _=>trivial,λ y hy=>absurd rfl hy⟩
  | some dx=>
   obtain⟨ne,hdx⟩:=(show dx≠x∧H dx=some (wR dx fs) from hd)
   obtain⟨⟨mA,nn,r,wi⟩,_,_⟩:=(show ObjOk X.prog X.w H s.heap dx (wR dx fs) from I.hok dx _ hdx)
   exact⟨mA,⟨ne,nn⟩,r,wi⟩
 refine Mt I.kIn hx rfl rfl xf c.sa c.po c.so n c.hd wi (by rw[List.length_map,sizeLine_eq];omega) λ h' dx t' hx' hod ne hn kp=>?_
 have hod:od=some dx∨(od=none∧dx=s.heap.objs.size):=hod
 have hod':od=some dx∨(od=none∧H dx=none):=by
  rcases hod with e | ⟨e,rfl⟩
  ·exact .inl e
  ·exact .inr ⟨e,I.hok.fresh (Nat.le_refl _)⟩
 have hdk:∀ b o,s.heap.get? b=some o→H b=none→b≠dx:=λ b o e q z=>by
  rcases hod with e2 | ⟨_,rfl⟩
  ·rw[e2] at hd
   have:=(show dx≠x∧H dx=some (wR dx fs) from hd).2
   rw[← z,q] at this;cases this
  ·have:=Heap.lt_size e
   rw[z] at this
   exact absurd this (Nat.lt_irrefl _)
 have nX:∀ b u,H b=some u→(∀ φ,u≠.ext φ)→b≠x∧b≠dx:=λ b u e nu=>by
  refine⟨λ z=>?_,λ z=>?_⟩
  ·rw[z,ex] at e;exact nu _ (Option.some.inj e).symm
  ·subst z
   rcases hod' with e2 | ⟨_,e2⟩
   ·rw[e2] at hd
    have:=(show b≠x∧H b=some (wR b fs) from hd).2
    rw[e] at this
    exact nu _ (Option.some.inj this)
   ·rw[e] at e2;cases e2
 have nx:∀ b,H b=none→b≠x:=λ b e z=>by rw[z,ex] at e;cases e
 have U:Un (frs X.stack) [] H (upd (upd H dx (wR dx (oA f y fs))) x (iy x C (some dx))) s.heap h':=by
  refine⟨λ b o e q _ _=>kp b o (nx b q) (hdk b o e q) e,λ b o e q _ _=>⟨o.slots,kp b o (nx b q) (hdk b o e q) e⟩,λ b o e q _=>?_,λ b o e _=>?_,λ b xs q=>?_,λ b o u q=>?_,λ b ps q=>⟨#[],?_⟩⟩
  ·rw[aA (nx b q),aA (hdk b o e q)];exact q
  ·by_cases z:b=x
   ·subst z;exact⟨_,hx'⟩
   ·by_cases z2:b=dx
    ·subst z2;obtain⟨o',_,_,e',_⟩:=hn;exact⟨_,e'⟩
    ·exact⟨o,kp b o z z2 e⟩
  ·have:=nX b _ q λ _ z=>by cases z
   rw[aA this.1,aA this.2];exact q
  ·have:=nX b _ q λ _ z=>by cases z
   rw[aA this.1,aA this.2];exact q
  ·have:=nX b _ q λ _ z=>by cases z
   rw[aA this.1,aA this.2,q];simp
 have hok:HOk X.prog X.w (upd (upd H dx (wR dx (oA f y fs))) x (iy x C (some dx))) h':=λ b u q=>by
  by_cases z:b=x
  ·subst z
   rw[aP] at q;cases q
   exact Ck ⟨a0,hx'⟩
  ·rw[aA z] at q
   by_cases z2:b=dx
   ·subst z2
    rw[aP] at q;cases q
    refine VH hn (λ g=>?_) λ g hg=>?_
    ·rw[qt]
     by_cases q:g=f
     ·rw[if_pos q,if_pos q];exact ry
     ·rw[if_neg q,if_neg q];exact rl g
    ·by_cases q:g=f
     ·rw[q];exact(pL f y fs).1
     ·refine(pL f y fs).2 g (wi g λ z=>hg ?_)
      show (if g=f then some u else mA g)=none
      rw[if_neg q];exact z
   ·rw[aA z2] at q
    refine(I.hok b u q).stay (λ c v hc r=>?_) (λ c r=>?_) λ c xs r=>?_
    ·rcases hc with rfl | hc
     ·exact kp c v z z2 r
     ·have:=nX c _ hc λ _ z=>by cases z
      exact kp c v this.1 this.2 r
    ·have:=nX c _ r λ _ z=>by cases z
     rw[aA this.1,aA this.2];exact r
    ·have:=nX c _ r λ _ z=>by cases z
     rw[aA this.1,aA this.2];exact r
 exact h _ dx hod' ne (I.call' (s':={ s with heap:=h',toks:=t' }) rfl U hok I.bare λ b hb=>by cases hb)
end
end L2
namespace L2
open PySem PySem.Spec PyProof.Rows PySem.W
structure XBase (K:W.Frag) (B:Addr):Prop where
 gs:W.specialIn K (.ref B) "__getattribute__"=some (some (.builtin "type.__getattribute__"))
 rd:W.readsIn K B (.type "type")=true
 fc:W.findCls K (.ref B) (.type "type") "__init__"=some (.val (.builtin "ValueError.__init__"))
structure XObj (K:W.Frag) (C:Addr):Prop where
 obj:∃ nm q N bs bm hdct sn sub ab col dd k0 k1 k2 k3 k5,K.lookup C=some (excClassObj nm q C N bs bm hdct sn sub ab col dd k0 k1 k2 k3 k5 "ValueError.__new__")∧∀ h,K.In h→OwnTail h [.type "ValueError",.type "Exception",.type "BaseException",.type "object"] bm
section
variable {X:Cx}{o e e2:Expr}{to t1 t2:TE}{ta:TA}{apos pos:Pos}{B:Addr}
noncomputable def Jf (K:W.Frag) (B:Addr) (to:TE) (ta:TA):TE:=λ σ H Q=>to σ H λ b H0=>b = .ref B∧ta σ H0 λ vs H1=>∃ x C od m,vs=[.ref x,m]∧H1 x=some (iy x C od)∧XObj K C∧Q .non H1
theorem Jg {pins:List (Addr×Obj)}{σ:St}{H:Hp}{s:Shared}{A:Around}{E:Value→Shared→Prop}{x C:Addr}{od:Option Addr}{u:Value}{Q:Value→Shared→Prop} (FB:ExcBaseFacts "ValueError" "ValueError.__new__" "ValueError.__init__" [.type "ValueError",.type "Exception",.type "BaseException",.type "object"])
  (I:Inv X pins σ H s) (ex:H x=some (iy x C od)) (c:XObj X.K C) (h:∀ s',Inv X pins σ H s'→Q .none s'):wpAny (model X.prog X.w) A (call (.builtin "ValueError.__init__") [.ref x,u]) Q E s:=by
 obtain⟨⟨a0,hx⟩,_,_⟩:=(show ObjOk X.prog X.w H s.heap x (iy x C od) from I.hok x _ ex)
 obtain⟨nm,q,N,bs,bm,hdct,sn,sub,ab,col,dd,k0,k1,k2,k3,k5,hC,T⟩:=c.obj
 have hC:=I.kIn _ _ hC
 have T:=T s.heap I.kIn
 have nx:∀ b,H b=none→b≠x:=λ b e z=>by rw[z,ex] at e;cases e
 have I0:=I
 obtain⟨hh,g,d,t,os⟩:=s
 refine Jd FB T hC hx rfl rfl (by show 1 < 6;decide) λ h' a hx' kp=>h _ ?_
 have hx2:Gb h' x (.ref C) od:=⟨a,hx'⟩
 refine I0.call' (ch:=[]) (s':=⟨h',g,d,t,os⟩) rfl ⟨λ b o e q _ _=>kp b o (nx b q) e,λ b o e q _ _=>⟨o.slots,kp b o (nx b q) e⟩,λ b o e q _=>q,λ b o e _=>?_,λ b xs q=>q,λ b o u q=>q,λ b ps q=>⟨#[],by rw[q];simp⟩⟩ (λ b u q=>?_) I0.bare λ b hb=>by cases hb
 ·by_cases z:b=x
  ·subst z;exact⟨_,hx'⟩
  ·exact⟨o,kp b o z e⟩
 ·by_cases z:b=x
  ·subst z
   rw[ex] at q;cases q
   exact Ck hx2
  ·refine(I0.hok b u q).stay (λ c v hc r=>kp c v ?_ r) (λ c r=>r) λ c xs r=>r
   rcases hc with rfl | hc
   ·exact z
   ·exact λ z=>by rw[z,ex] at hc;cases hc
theorem Jh {pl:Sem Bool} (FB:ExcBaseFacts "ValueError" "ValueError.__new__" "ValueError.__init__" [.type "ValueError",.type "Exception",.type "BaseException",.type "object"]) (hB:XBase X.K B) (ho:PE X o to) (ha:PA X [e,e2] ta)
  (ht:eval (.Call (.Attribute o "__init__" apos) [e,e2] [] pos) X.env=(do
   let ov ← eval o X.env
   standAt apos.atName
   let (f,first) ← holding [ov] (getMethod ov "__init__" pl)
   callWith pos f first (backTo pos (starEach [e,e2] X.env)) (backToKw pos (keywordEach [] X.env))):=by rfl)
  (hst:starEach [e,e2] X.env=(false,eval e X.env)::starEach [e2] X.env:=by rfl) (hpl:(backTo pos (starEach [e2] X.env)).any (·.1)=false:=by rfl) :
  PE X (.Call (.Attribute o "__init__" apos) [e,e2] [] pos) (Jf X.K B to ta):=by
 intro pins s σ H Q I h
 refine W.methodCall_KW (pl:=pl) (cY (ho pins s σ H _ I h) λ u s1 ⟨b,H0,I1,rb,eb,q⟩=>?_) ht
 subst eb
 obtain rfl:u=Value.ref B:=rb
 refine W.method_cls I1.kIn hB.gs (W.cls_value I1.kIn hB.rd hB.fc rfl ?_)
 have I1:=I1.tk (s1.toks+1)
 have hA:=ha pos pins _ σ H0 _ I1 q
 rw[hst] at hA ⊢
 refine Calls.callWith_builtin (by show (false || (backTo pos (starEach [e2] X.env)).any (·.1))=false;rw[hpl] <;> rfl) (Calls.evalArgs_plain ?_)
 refine cY hA λ us s2 ⟨vs,H2,I2,r2,x,C,od,m,ev,ex,c,q2⟩=>?_
 subst ev
 cases r2 with
 | cons r r'=>
  cases r' with
  | cons r1 r2=>
   cases r2
   cases r
   exact Jg FB I2 ex c λ s' I'=>⟨.non,H2,I',rfl,q2⟩
end
end L2
namespace L2
open PySem PySem.Spec PyProof.Rows PySem.W
noncomputable def Ky (x:Addr) (H:Hp):Hp:=λ b=>if b=x then none else H b
theorem oM {x:Addr}{H:Hp}:Ky x H x=none:=by unfold Ky;rw[if_pos rfl]
theorem wU {x b:Addr}{H:Hp} (h:b≠x):Ky x H b=H b:=by unfold Ky;rw[if_neg h]
section
variable {X:Cx}{pins:List (Addr×Obj)}{σ:St}{H:Hp}{s:Shared}
theorem Inv.drop {x:Addr}{φ:Heap→Prop} (I:Inv X pins σ H s) (hx:H x=some (.ext φ)):Inv X pins σ (Ky x H) s:=by
 have hn:∀ b,H b=none→Ky x H b=none:=λ b e=>by
  by_cases z:b=x
  ·rw[z];exact oM
  ·rw[wU z];exact e
 have hk:∀ b u,H b=some u→(∀ φ,u≠.ext φ)→Ky x H b=some u:=λ b u e nu=>by
  rw[wU λ z=>by rw[z,hx] at e;exact nu _ (Option.some.inj e).symm];exact e
 refine⟨I.ok,I.os,I.bare,⟨I.base.keep,I.base.slot,λ b o q n hx=>hn b (I.base.free b o q n hx),I.base.there,λ b xs q=>hk b _ (I.base.tups b xs q) (λ _ z=>by cases z),λ b o u q=>hk b _ (I.base.frzs b o u q) (λ _ z=>by cases z),λ b ps q=>?_⟩,I.loc,I.cell,hn _ I.free,λ x c e=>hn _ (I.freeC x c e),λ p hp=>?_,λ b u q=>?_,I.len⟩
 ·obtain⟨m,e⟩:=I.base.tbls b ps q
  exact⟨m,hk b _ e λ _ z=>by cases z⟩
 ·obtain⟨p1,p2,p3⟩:=I.pin p hp
  exact⟨p1,hn _ p2,p3⟩
 ·have z:b≠x:=λ z=>by rw[z,oM] at q;cases q
  rw[wU z] at q
  exact(I.hok b u q).stay (λ c v _ r=>r) (λ c r=>hk c _ r (λ _ z=>by cases z)) (λ c xs r=>hk c _ r (λ _ z=>by cases z))
end
section
variable {M:Model}{A:Around}{E:Value→Shared→Prop}{env:Env}{s:Shared}
variable {nm q:Str}{C N:Addr}{bs bm:List Value}{hdct:Bool}{sn:List Str}{sub:List Value}{ab:Bool}{col:Option Bool}{dd:Option Addr}{k0 k1 k2 k3 k5:Option Value}{newId:String}
theorem Ge {x:Sem Value}{Q:Flow→Shared→Prop} (hbase:bm.contains (.type "BaseException")=true) (hh:A.handled=none)
  (h:wpAny M A x (λ v s₁=>∃ e od,v = .ref e∧s₁.heap.get? C=some (excClassObj nm q C N bs bm hdct sn sub ab col dd k0 k1 k2 k3 k5 newId)∧Gb s₁.heap e (.ref C) od∧E (.ref e) s₁) E s) :
  wpAny M A (raiseStmt env (some x) none) Q E s:=by
 have hcB:(Value.ref C::bm).contains (.type "BaseException")=true:=by rw[List.contains_cons,hbase,Bool.or_true]
 unfold raiseStmt
 refine wpAny_bind (wpAny_mono h (λ v s₁ h₁=>?_) λ _ _ x=>x)
 obtain⟨e,od,rfl,hC,⟨a0,he⟩,hE⟩:=h₁
 obtain⟨hp,g,d,tk,os⟩:=s₁
 repeat (first | with_reducible refine wpAny_loadPart_at he ?_ | with_reducible refine wpAny_loadPart_at hC ?_ | (with_reducible refine wpAny_isSubtype_exc hC ?_;rw[hcB]) | wp_step)
 exact wpAny_raiseNew_none hh hE
end
structure XMk (K:W.Frag) (C f:Addr):Prop where
 x:XObj K C
 call:W.specialIn K (.ref C) "__call__"=some (some (.builtin "type.__call__"))
 typ:W.instIn K (.ref C) (.type "type")=some true
 init:W.findIn K (.ref C) "__init__"=some (some (.ref f))
 fn:W.isFn K (.ref f)=true
 kp:W.keepIn K (.ref C)=true
section
variable {X:Cx}{CX:CXT}{k:Nat}{f C:Addr}{fd:FuncData}{ps:List Str}{sp:Sp}{E:XK}
theorem Mw {pins:List (Addr×Obj)}{σ:St}{H:Hp}{s:Shared}{Q:VK}{us:List Value}{vs:List V} (M:XMk X.K C f) (F:FnOk X.prog X.w X.K X.mg X.base CX k f fd ps sp) (hr:Room (k+1) X.A) (hb:Binds X.K fd ps [])
  (hx:Passes CX X E) (I:Inv X pins σ H s) (r:Vals vs us) (hz:us.length≤sizeLine)
  (h:∀ x,H x=none→s.heap.objs.size≤x→sp (.ref x::vs) (upd H x (iy x C none)) (λ v H2=>v = .non∧Q (.ref x) H2) E) :
  wpAny (model X.prog X.w) X.A (call (.ref C) us) (EP X pins σ Q) X.xe s:=by
 have hq:=h (s.heap.objs.size+1) (I.hok.fresh (Nat.le_succ _)) (Nat.le_succ _)
 have k1:∀ b u,s.heap.get? b=some u→(s.heap.push (iw us)).get? b=some u:=λ b u e=>Heap.get?_push_of_some _ e
 have e2:((s.heap.push (iw us)).push (gn C s.heap.objs.size)).get? (s.heap.objs.size+1)=some (gn C s.heap.objs.size):=by
  have:=Heap.get?_push_size (s.heap.push (iw us)) (o:=gn C s.heap.objs.size) rfl
  rwa [Heap.size_push] at this
 have I2:Inv X pins σ (upd H (s.heap.objs.size+1) (iy (s.heap.objs.size+1) C none)) { s with heap:=(s.heap.push (iw us)).push (gn C s.heap.objs.size) }:=
  (I.kept (t':=s.toks) k1).laid (t':=s.toks) (λ b u e=>Heap.get?_push_of_some _ e) (Nat.le_of_eq (Heap.size_push _ _)) (Ck ⟨_,e2⟩)
 have r2:Vals (V.ref (s.heap.objs.size+1)::vs) (Value.ref (s.heap.objs.size+1)::us):=.cons rfl r
 have hl:(Value.ref (s.heap.objs.size+1)::us).length=ps.length:=by
  have e:=r2.length
  rw[F.len _ _ _ _ hq] at e
  exact e.symm
 obtain⟨nm,q,N,bs,bm,hdct,sn,sub,ab,col,dd,k0,k1,k2,k3,k5,hC,T⟩:=M.x.obj
 have hl2:(Value.ref (s.heap.objs.size+1)::us++[]).length=ps.length:=by rw[List.append_nil];exact hl
 have hB:=hb { s with heap:=(s.heap.push (iw us)).push (gn C s.heap.objs.size) } (Value.ref (s.heap.objs.size+1)::us) I2.kIn hl2
 rw[List.append_nil] at hB
 have key:=F.run _ X.stack _ _ ⟨Value.ref (s.heap.objs.size+1)::us,[]⟩ (Value.ref (s.heap.objs.size+1)::us) _ _ E (hr.make C us []) (I2.env0.make C us []) hB r2 hq
 have KX:=I.kIn
 have fin:∀ (r:Result) (s':Shared),CR CX X.stack X.prog X.w (upd H (s.heap.objs.size+1) (iy (s.heap.objs.size+1) C none)) { s with heap:=(s.heap.push (iw us)).push (gn C s.heap.objs.size) } (λ v H2=>v = .non∧Q (.ref (s.heap.objs.size+1)) H2) E r s' →
   W.InitBack (s.heap.objs.size+1) (λ r s'=>match r with | .ok (.ret v)=>EP X pins σ Q v s' | .ok _=>False | .error e=>X.xe e s') r s':=λ r s' hq'=>by
  cases r with
  | error e=>exact hx pins σ _ _ e s' I2 hq'
  | ok fl=>
   cases fl with
   | ret u=>
    obtain⟨v,H',I3,rv,ev,q3⟩:=I2.after hq'
    subst ev
    exact⟨rv,⟨V.ref (s.heap.objs.size+1),H',I3,rfl,q3⟩⟩
   | next=>exact False.elim hq'
   | brk=>exact False.elim hq'
   | cont=>exact False.elim hq'
 obtain⟨hh,g,d,t,os⟩:=s
 refine wpAny_call ?_
 refine Jc PySem.F.excBase_ValueError (T hh KX) (KX _ _ hC) (W.looks_specialIn KX M.call) (W.looks_instIn KX M.typ) (W.looks_findIn KX M.init) (λ self=>W.bind_fn KX self (beq_iff_eq.mp M.fn)) hz ?_
 exact codeAny_mono key fin
end
end L2
namespace L2
open PySem PySem.Spec PyProof.Rows PySem.W
section
variable {P:Program}{w:World}{K:W.Frag}{mg:Str→Option Value}{base:Heap}{N:List Str}{qual:Str}{scope:Scope}{fn:Addr}{cd:Value}{A:Around}{outer:List Env}{s₀:Shared}{H₀:Hp}{E:XK}
variable {k:Nat}{f C:Addr}{fd:FuncData}{ps:List Str}{sp:Sp}{x:Str}{p pos cpos:Pos}{e:Expr}{es:List Expr}{t:TA}
noncomputable def RQ (C:Addr) (sp:Sp) (E:XK) (t:TA):TS:=λ _ σ H=>t σ H λ vs H1=>vs.length≤sizeLine∧∀ x,H1 x=none→sp (.ref x::vs) (upd H1 x (iy x C none)) (λ v H2=>v = .non∧∃ od,H2 x=some (iy x C od)∧E (.ref C) od (Ky x H2)) E0
theorem Ji (M:XMk K C f) (F:FnOk P w K mg base CX0 k f fd ps sp) (mono:∀ vs H (Q Q':VK),(∀ v H,Q v H→Q' v H)→sp vs H Q E0→sp vs H Q' E0)
  (hr:Room (k+1) (qN P w K mg base N qual scope fn cd A outer s₀ H₀ E).A) (hb:Binds K fd ps []) (hg:Gl (qN P w K mg base N qual scope fn cd A outer s₀ H₀ E) x) (hm:mg x=some (.ref C))
  (ha:PA (qN P w K mg base N qual scope fn cd A outer s₀ H₀ E) (e::es) t) (hdb:(x==("__debug__" : Str))=false:=by decide)
  (he:starEach (e::es) (qN P w K mg base N qual scope fn cd A outer s₀ H₀ E).env=(false,eval e (qN P w K mg base N qual scope fn cd A outer s₀ H₀ E).env)::starEach es (qN P w K mg base N qual scope fn cd A outer s₀ H₀ E).env:=by rfl)
  (hpl:(backTo cpos (starEach es (qN P w K mg base N qual scope fn cd A outer s₀ H₀ E).env)).any (·.1)=false:=by rfl) :
  PS (qN P w K mg base N qual scope fn cd A outer s₀ H₀ E) (.Raise (some (.Call (.Name x p) (e::es) [] cpos)) none pos) (RQ C sp E t):=by
 intro pins s σ H D I h
 obtain⟨nm,q,N',bs,bm,hdct,sn,sub,ab,col,dd,k0,k1,k2,k3,k5,hC,T⟩:=M.x.obj
 have hbase:bm.contains (.type "BaseException")=true:=(T base I.ok.mod.kin).hasType PySem.F.excBase_ValueError.hasBase
 have hh:(qN P w K mg base N qual scope fn cd A outer s₀ H₀ E).A.handled=none:=I.ok.hd rfl
 rw[arm_exec_Raise]
 refine wpAny_bind (wpAny_standAt (Ge (C:=C) (nm:=nm) (q:=q) (N:=N') (bs:=bs) (bm:=bm) (hdct:=hdct) (sn:=sn) (sub:=sub) (ab:=ab) (col:=col) (dd:=dd) (k0:=k0) (k1:=k1) (k2:=k2) (k3:=k3) (k5:=k5) (newId:="ValueError.__new__") hbase hh ?_))
 refine wpAny_bind (cY (Q:=EP (qN P w K mg base N qual scope fn cd A outer s₀ H₀ E) pins σ λ v H2=>∃ y od,v = .ref y∧s₀.heap.objs.size≤y∧H2 y=some (iy y C od)∧E (.ref C) od (Ky y H2)) ?_ λ v s3 h3=>wpAny_bind (wpAny_standAt (wpAny_pure ?_)))
 ·refine wpAny_Call_Name_kw (oh I hg hm ?_ hdb)
  refine W.callWith_K (h₀:=base) I.ok.mod.kin M.kp (cY (ha cpos pins s σ H _ I h) λ us s1 ⟨vs,H1,I1,r,hz,q⟩=>⟨I1.kIn,?_⟩) he hpl
  refine Mw (X:=qN P w K mg base N qual scope fn cd A outer s₀ H₀ E) M F hr hb Ox I1 r (by rw[List.nil_append,← r.length];exact hz) λ y hy hn=>mono _ _ _ _ (λ v H2 ⟨e1,od,e2,e3⟩=>⟨e1,y,od,rfl,Nat.le_trans I1.szle hn,e2,e3⟩) (q y hy)
 ·obtain⟨v',H2,I2,rv,y,od,rfl,hn,ey,hE⟩:=h3
  cases rv
  obtain⟨hr0,_,_⟩:=(show ObjOk P w H2 s3.heap y (iy y C od) from I2.hok y _ ey)
  exact⟨y,od,rfl,I2.kIn _ _ hC,hr0,Jb (I2.drop ey) hr0 hn oM hE⟩
end
section
variable {X:Cx}{o value:Expr}{ta tv:TE}{f:Str}{pos pos':Pos}
noncomputable def Pb (K:W.Frag) (ta tv:TE) (f:Str):TS:=λ D σ H=>tv σ H λ y H1=>ta σ H1 λ x H2=>∃ a C od fs,x = .ref a∧H2 a=some (iy a C od)∧XD H2 a od fs∧XCls K C∧NoAttr K C f∧fs.length < 1000 ∧
 ∀ dx,(od=some dx∨(od=none∧H2 dx=none))→dx≠a→D.nx σ (upd (upd H2 dx (wR dx (oA f y fs))) a (iy a C (some dx)))
theorem Mx (ha:PE X o ta) (hv:PE X value tv) (hs:swapsWith value (some (.Attribute o f pos')) pos.line X.env=pure false):PS X (.Assign [.Attribute o f pos'] value pos) (Pb X.K ta tv f):=by
 intro pins s σ H D I h
 refine plainObj_wpAny_Assign_Attribute (cY (hv pins s σ H _ I h) λ u s1 ⟨y,H1,I1,ry,q⟩=>cY (ha pins s1 σ H1 _ I1 q) λ ov s2 ⟨x,H2,I2,rx,a,C,od,fs,ex,ea,hd,c,n,l,q2⟩=>?_) hs
 subst ex
 obtain rfl:ov=Value.ref a:=rx
 exact Mv I2 ea hd c n l ry λ s3 dx ho ne I3=>⟨σ,_,I3,q2 dx ho ne⟩
end
end L2
namespace L2
open PySem PySem.Spec PyProof.Rows PySem.W
structure Far (X:Cx) (pins:List (Addr×Obj)) (b:Addr):Prop where
 s0:X.s₀.heap.objs.size≤b
 lo:b≠X.env.locals
 ce:∀ x c,X.env.cells.lookup x=some c→c≠b
 pi:∀ p∈X.pn++pins,p.1≠b
section
variable {X:Cx}{pins:List (Addr×Obj)}{σ:St}{H:Hp}{s:Shared}{h':Heap}
theorem Inv.far (I:Inv X pins σ H s) {b:Addr} (hb:s.heap.objs.size≤b):Far X pins b:=by
 refine⟨Nat.le_trans I.szle hb,λ z=>?_,λ x c e z=>?_,λ p hp z=>?_⟩
 ·obtain⟨m,⟨o,es,ep,ho,_⟩,_⟩:=I.loc
  have:=Heap.lt_size ho
  rw[← z] at this
  exact absurd (Nat.lt_of_lt_of_le this hb) (Nat.lt_irrefl _)
 ·obtain⟨v,o,ho,_⟩:=I.cell x c e
  have:=Heap.lt_size ho
  rw[z] at this
  exact absurd (Nat.lt_of_lt_of_le this hb) (Nat.lt_irrefl _)
 ·have:=Heap.lt_size (I.pin p hp).1
  rw[z] at this
  exact absurd (Nat.lt_of_lt_of_le this hb) (Nat.lt_irrefl _)
theorem Inv.lefts {t':Nat} (I:Inv X pins σ H s) {R:List Addr} (hR:∀ b∈R,Far X pins b∧H b=none) (hL:Left (frs X.stack) R s.heap h'):Inv X pins σ H { s with heap:=h',toks:=t' }:=by
 refine I.call' (ch:=R) (s':={ s with heap:=h',toks:=t' }) rfl ⟨λ b o e n hb hx=>(hL b o e hx).1 hb,λ b o e n hb hx=>(hL b o e hx).2,λ b o e n hx=>n,λ b o e hx=>?_,λ b xs q=>q,λ b o u q=>q,λ b ps q=>⟨#[],by rw[q];simp⟩⟩ (λ a o e=>?_) I.bare λ b hb=>⟨.inr (hR b hb).1.s0,(hR b hb).1.lo,(hR b hb).1.ce,(hR b hb).1.pi⟩
 ·obtain⟨sl,q⟩:=(hL b o e hx).2
  exact⟨_,q⟩
 ·refine(I.hok a o e).stay (λ b u hb q=>?_) (λ _ q=>q) λ _ _ q=>q
  have hn:H b≠none:=by
   rcases hb with rfl | hb
   ·rw[e];exact λ z=>by cases z
   ·rw[hb];exact λ z=>by cases z
  exact(hL b u q λ z=>hn (hR b z).2).1 λ z=>hn (I.frN z)
theorem Inv.track {x:Addr}{o:HO} (I:Inv X pins σ H s) (hx:H x=none) (far:Far X pins x) (ok:ObjOk X.prog X.w (upd H x o) s.heap x o):Inv X pins σ (upd H x o) s:=by
 have hk:∀ b u,H b=some u→upd H x o b=some u:=λ b u e=>by rw[aA λ z=>by rw[z,hx] at e;cases e];exact e
 have n0:X.s₀.heap.get? x=none:=Heap.get?_none_of_le far.s0
 refine⟨I.ok,I.os,I.bare,⟨I.base.keep,I.base.slot,λ b ob q n hx'=>?_,I.base.there,λ b xs q=>hk b _ (I.base.tups b xs q),λ b ob u q=>hk b _ (I.base.frzs b ob u q),λ b ps q=>?_⟩,I.loc,I.cell,?_,λ y c e=>?_,λ p hp=>?_,λ b u q=>?_,I.len⟩
 ·rw[aA λ z=>by rw[z,n0] at q;cases q];exact I.base.free b ob q n hx'
 ·obtain⟨m,e⟩:=I.base.tbls b ps q
  exact⟨m,hk b _ e⟩
 ·rw[aA (Ne.symm far.lo)];exact I.free
 ·rw[aA (far.ce y c e)];exact I.freeC y c e
 ·obtain⟨p1,p2,p3⟩:=I.pin p hp
  exact⟨p1,by rw[aA (far.pi p hp)];exact p2,p3⟩
 ·by_cases z:b=x
  ·subst z
   rw[aP] at q;cases q
   exact ok
  ·rw[aA z] at q
   exact(I.hok b u q).stay (λ c v _ r=>r) (λ c r=>hk c _ r) (λ c xs r=>hk c _ r)
abbrev Cx.hdl (X:Cx) (e:Value):Cx:={ X with A:=X.A.mark (some e),calm:=false,xe:=λ _ _=>False }
theorem Inv.hdl (I:Inv X pins σ H s) (e:Value):Inv (X.hdl e) pins σ H s:=
 ⟨⟨I.ok.mod,I.ok.kind,I.ok.glob,I.ok.blt,I.ok.above,I.ok.inj,I.ok.has,I.ok.cab,(λ z=>by cases z),I.ok.frames,I.ok.stk,I.ok.exf,I.ok.bs,I.ok.bsz,I.ok.noex,I.ok.exfs,I.ok.funs,I.ok.frf⟩,I.os,I.bare,I.base,I.loc,I.cell,I.free,I.freeC,I.pin,I.hok,I.len⟩
theorem Inv.unhdl {e:Value} (ok:X.Ok) (I:Inv (X.hdl e) pins σ H s):Inv X pins σ H s:=⟨ok,I.os,I.bare,I.base,I.loc,I.cell,I.free,I.freeC,I.pin,I.hok,I.len⟩
theorem oN {i:Nat}{n:Str}{pos:Pos}{A:Around}{E:Value→Shared→Prop}{Q:Unit→Shared→Prop} (I:Inv X pins σ H s) (hN:X.N.Nodup) (hi:X.N[i]? = some n) (hk:X.env.kindOf n=some .local)
  (h:∀ s',Inv X pins (σ.set i none) H s'→Q () s'):wpAny (model X.prog X.w) A (do bindName X.env n .none;unbindBehindTheSuite X.env n pos) Q E s:=by
 obtain⟨m,hn,hl⟩:=id I.loc
 have cne:=I.cne
 refine wpAny_nameGoes_keeps hk hn (by rw[I.ok.kind];rfl) λ h' v hn' hs=>h _ ?_
 have hb:∀ b o,X.s₀.heap.get? b=some o→h'.get? b=s.heap.get? b:=λ b o e=>hs.2 b (Nat.ne_of_lt (Nat.lt_of_lt_of_le (Heap.lt_size e) I.ok.above))
 refine⟨I.ok,I.os,I.bare,⟨λ b o e n hb' hx=>(hb b o e).trans (I.base.keep b o e n hb' hx),λ b o e n hb' hx=>?_,I.base.free,λ b o e hx=>?_,I.base.tups,I.base.frzs,I.base.tbls⟩,⟨_,hn',λ j y v' e1 e2 e3=>?_⟩,λ y c e=>?_,I.free,I.freeC,λ p hp=>?_,λ b u e=>?_,by simpa using I.len⟩
 ·obtain⟨sl,e1⟩:=I.base.slot b o e n hb' hx
  exact⟨sl,(hb b o e).trans e1⟩
 ·obtain⟨o',e1⟩:=I.base.there b o e hx
  exact⟨o',(hb b o e).trans e1⟩
 ·have hj:j≠i:=λ z=>by
   subst z
   rw[List.getElem?_set] at e2
   rw[if_pos rfl] at e2
   split at e2 <;> cases e2
  rw[List.getElem?_set_ne (Ne.symm hj)] at e2
  obtain⟨u',r',q⟩:=hl j y v' e1 e2 e3
  refine⟨u',r',?_⟩
  rcases q with ⟨k,e⟩ | ⟨k,c,e,z⟩
  ·refine .inl ⟨k,?_⟩
   have:y≠n:=λ e=>hj (rA hN e1 (e ▸ hi))
   simp[this,e]
  ·exact .inr ⟨k,c,e,z.sameBut hs (cne y c e)⟩
 ·obtain⟨w',z⟩:=I.cell y c e
  exact⟨w',z.sameBut hs (cne y c e)⟩
 ·obtain⟨e,n,ne,nf,d⟩:=I.pin p hp
  exact⟨(hs.2 p.1 ne).trans e,n,ne,nf,d⟩
 ·refine(I.hok b u e).stay (λ c w' hc q=>(hs.2 c ?_).trans q) (λ _ q=>q) λ _ _ q=>q
  rintro rfl
  rcases hc with rfl | hc
  ·rw[I.free] at e;cases e
  ·rw[I.free] at hc;cases hc
end
end L2
namespace L2
open PySem PySem.Spec PyProof.Rows PySem.W
noncomputable def RT (H:Hp) (od:Option Addr) (fs:List (Str×V)):Prop:=match od with
 | none=>fs=[]
 | some dx=>H dx=some (wR dx fs)
noncomputable def hdH (H:Hp) (x C:Addr) (od:Option Addr) (fs:List (Str×V)):Hp:=match od with
 | none=>upd H x (.xc C fs)
 | some dx=>upd (upd H dx (.own x)) x (.xc C fs)
theorem Inv.caught {X:Cx}{pins:List (Addr×Obj)}{σ:St}{H:Hp}{s:Shared}{x C:Addr}{od:Option Addr}{fs:List (Str×V)}{oe:Obj}{vs:Array Value} (I:Inv X pins σ H s) (hx:H x=none) (far:Far X pins x) (hd:RT H od fs)
  (e:s.heap.get? x=some oe) (h1:oe.cls = .ref C) (h2:oe.dict=od) (h3:oe.data = .fields vs):Inv X pins σ (hdH H x C od fs) s:=by
 cases od with
 | none=>
  refine I.track hx far ⟨oe,vs,e,h1,h3,.inl ⟨h2,hd⟩⟩
 | some dx=>
  have hdx:H dx=some (wR dx fs):=hd
  have ne:dx≠x:=λ z=>by rw[z,hx] at hdx;cases hdx
  obtain⟨⟨mA,nn,r,wi⟩,⟨o,ho⟩,_⟩:=(show ObjOk X.prog X.w H s.heap dx (wR dx fs) from I.hok dx _ hdx)
  have n4:∀ o u,X.H₀ dx≠some (.frz o u):=λ o u z=>by
   have:=I.base.frzs dx o u z
   rw[hdx] at this;cases this
  have I2:=I.ghost (w':=.own x) hdx (λ _ z=>by cases z) (λ _ z=>by cases z) (λ _ z=>by cases z) n4 ⟨o,ho⟩
  refine I2.track (by rw[aA (Ne.symm ne)];exact hx) far ⟨oe,vs,e,h1,h3,.inr ⟨dx,mA,h2,ne,?_,nn,r⟩⟩
  rw[aA ne,aP]
structure XSub (K:W.Frag) (C B:Addr):Prop where
 c:∃ nm q N bs bm hdct sn sub ab col dd k0 k1 k2 k3 k5,K.lookup C=some (excClassObj nm q C N bs bm hdct sn sub ab col dd k0 k1 k2 k3 k5 "ValueError.__new__")∧(Value.ref C::bm).contains (.ref B)=true
 b:∃ nm q N bs bm hdct sn sub ab col dd k0 k1 k2 k3 k5,K.lookup B=some (excClassObj nm q B N bs bm hdct sn sub ab col dd k0 k1 k2 k3 k5 "ValueError.__new__")∧(Value.ref B::bm).contains (.type "BaseException")=true
section
variable {X:Cx}{pins:List (Addr×Obj)}{σ:St}{H:Hp}{s:Shared}{A:Around}{E:Value→Shared→Prop}
theorem Cm {x C B:Addr}{oe:Obj}{Q:Bool→Shared→Prop} (KX:X.K.In s.heap) (hx:s.heap.get? x=some oe) (hc:oe.cls = .ref C) (sub:XSub X.K C B) (h:Q true s):wpAny (model X.prog X.w) A (excMatches (.ref x) (.ref B)) Q E s:=by
 obtain⟨nm,q,N,bs,bm,hdct,sn,sub',ab,col,dd,k0,k1,k2,k3,k5,hC,hcC⟩:=sub.c
 obtain⟨nm',q',N',bs',bm',VJ,Z7,Zo,Z8,col',W4,Z9,k1',k2',k3',k5',hB,hcB⟩:=sub.b
 have hC:=KX _ _ hC
 have hB:=KX _ _ hB
 have f:=tc_notTuple
 obtain⟨hh,g,d,t,os⟩:=s
 unfold excMatches
 repeat (first | (with_reducible refine wpAny_loadPart_at hx ?_;rw[hc]) | with_reducible refine wpAny_loadPart_at hB ?_ | (with_reducible refine wpAny_isSubtype_exc hB ?_;rw[hcB]) | (with_reducible refine wpAny_isSubtype_exc hC ?_;rw[hcC]) | wp_step)
 exact h
theorem Gf {x T:Addr}{C:Value}{od:Option Addr}{Q:Unit→Shared→Prop} (I:Inv X pins σ H s) (hr:Rec s.heap x C od T) (fT:Far X pins T) (hT:H T=none) (h:∀ s',Inv X pins σ H s'→Rec s'.heap x C od T→Q () s') :
  wpAny (model X.prog X.w) A (setFlight (.ref x) none) Q E s:=by
 obtain⟨oe,vs,oT,ts,he,h1,h2,h3,h4,hne,hT',h5,h6⟩:=hr
 refine wpAny_setFlight_none he h3 h4 hT' h5 (Array.getElem?_eq_some_iff.mp h6).1 (h _ (I.lefts (t':=s.toks) (R:=[T]) (λ b hb=>by cases List.mem_singleton.mp hb;exact⟨fT,hT⟩) λ b o e hb=>?_) ?_)
 ·have:b≠T:=λ z=>hb (by simp[z])
  have q:=(Heap.get?_update_other s.heap (Obj.mapFields (·.setIfInBounds 3 .none)) (Ne.symm this)).trans e
  exact⟨λ _=>q,o.slots,q⟩
 ·refine⟨oe,vs,_,_,(Heap.get?_update_ne _ _ _ _ (Ne.symm hne)).trans he,h1,h2,h3,h4,hne,Heap.get?_update_self _ hT' (Obj.isFreed_of_fields (Obj.data_mapFields h5 _)),Obj.data_mapFields h5 _,by simp[Array.getElem?_setIfInBounds,(Array.getElem?_eq_some_iff.mp h6).1]⟩
end
end L2
namespace L2
open PySem PySem.Spec PyProof.Rows PySem.W
abbrev Cx.wp (X:Cx) (pn:List (Addr×Obj)) (E:Value→Shared→Prop):Cx:={ X with pn:=pn,xe:=E }
section
variable {X:Cx}{pins qp:List (Addr×Obj)}{σ:St}{H:Hp}{s:Shared}{E:Value→Shared→Prop}
theorem Cx.Ok.wp (ok:X.Ok) (pn:List (Addr×Obj)) (E:Value→Shared→Prop):(X.wp pn E).Ok:=
 ⟨ok.mod,ok.kind,ok.glob,ok.blt,ok.above,ok.inj,ok.has,ok.cab,ok.hd,ok.frames,ok.stk,ok.exf,ok.bs,ok.bsz,ok.noex,ok.exfs,ok.funs,ok.frf⟩
theorem Inv.wp (I:Inv X pins σ H s) (E:Value→Shared→Prop):Inv (X.wp (X.pn++pins) E) [] σ H s:=
 ⟨I.ok.wp _ _,I.os,I.bare,I.base,I.loc,I.cell,I.free,I.freeC,λ p hp=>I.pin p (by rw[List.append_nil] at hp;exact hp),I.hok,I.len⟩
theorem Inv.unwp (ok:X.Ok) (I:Inv (X.wp (X.pn++pins) E) qp σ H s):Inv X pins σ H s:=
 ⟨ok,I.os,I.bare,I.base,I.loc,I.cell,I.free,I.freeC,λ p hp=>I.pin p (List.mem_append_left _ hp),I.hok,I.len⟩
theorem SP.unwp {D:Ends}{f:Flow}{s':Shared} (ok:X.Ok) (h:SP (X.wp (X.pn++pins) E) [] D f s'):SP X pins D f s':=by
 cases f with
 | next=>obtain⟨σ',H',I,q⟩:=h;exact⟨σ',H',I.unwp ok,q⟩
 | brk=>obtain⟨σ',H',I,q⟩:=h;exact⟨σ',H',I.unwp ok,q⟩
 | cont=>obtain⟨σ',H',I,q⟩:=h;exact⟨σ',H',I.unwp ok,q⟩
 | ret u=>obtain⟨v,σ',H',I,r,q⟩:=h;exact⟨v,σ',H',I.unwp ok,r,q⟩
end
noncomputable def dE (i:Nat) (D:Ends):Ends:=⟨λ σ H=>D.nx (σ.set i none) H,D.rt,λ σ H=>D.bk (σ.set i none) H,λ σ H=>D.ct (σ.set i none) H⟩
section
variable {X:Cx}{i:Nat}{n tn:Str}{tp hpos pos:Pos}{B:Addr}{body:List Stmt}{b₀:Stmt}{suite:List Stmt}{tb:XK→TS}{th:TS}
end
end L2
namespace L2
open PySem PySem.Spec PyProof.Rows PySem.W
section
variable {prog:Program}{w:World}{A:Around}{E:Value→Shared→Prop}{s:Shared}{K:W.Frag}{x C:Addr}{name:Str}{v:Value}{ox:Obj}{od:Option Obj}
theorem Mz {expr:Bool}{Q:Value→Shared→Prop} (X:K.In s.heap) (I:InstAt s.heap x ox C od) (hga:findIn K (.ref C) "__getattribute__"=some (some (.builtin "BaseException.__getattribute__"))) (hgh:findIn K (.ref C) "__getattr__"=some none)
  (hsub:subIn K (.ref C) (.type "BaseException")=some true) (hf:findObj K C od name=some (.value v)) (hh:handedIn v=true) (h:Q v { s with toks:=s.toks+1 }):wpAny (model prog w) A (getAttr (.ref x) name expr) Q E s:=by
 have FB:=PySem.F.attrBase_ValueError
 have L0:=I.type (M:=model prog w)
 have L1:=looks_find (M:=model prog w) X I hf
 have hook:Looks (model prog w) s.heap (hookBefore (.ref C)) none:=looks_hook X (by rw[if_pos (by rfl)];exact hgh)
 refine wpAny_bind (wpAny_mkText (wpAny_holding (wpAny_bind (L0 _ _ _ _ (λ _ _ e=>e) (wpAny_bind (looks_findIn X hga _ _ _ _ (λ _ _ e=>e) ?_))))))
 dsimp only
 have hx2:(Value.builtin "BaseException.__getattribute__" == Value.builtin "object.__getattribute__")=false:=by decide +kernel
 rw[show (onTheHeap (Value.ref C)&&Value.builtin "BaseException.__getattribute__" == Value.builtin "object.__getattribute__")=false from by rw[hx2,Bool.and_false],if_neg (by decide)]
 refine wpAny_bind (hook _ _ _ _ (λ _ _ e=>e) (wpAny_bind (wpAny_attempt (wpAny_holding ?_))))
 unfold callGetattribute
 rw[show (expr&&onTheHeap (Value.builtin "BaseException.__getattribute__"))=false from Bool.and_false _,if_neg (by decide)]
 unfold boundAndCalled
 rw[FB.ga.bind]
 refine wpAny_bind (wpAny_pure ?_)
 show wpAny _ _ (call (.builtin "BaseException.__getattribute__") [.ref x,.str name s.toks]) _ _ _
 refine wpAny_call ?_
 refine codeAny_call_builtin FB.ga.plain PySem.F.entry_bexc_ga ?_
 refine @check_slot (model prog w) _ _ { s with toks:=s.toks+1 } "BaseException.__getattribute__" "BaseException" "__getattribute__" (.ref x) [.str name s.toks] [] _ (by decide +kernel) (by decide +kernel) (L0.andThen (looks_subIn X hsub)) (PySem.F.args_bexc_ga (.ref x) (.str name s.toks)) ?_
 obtain⟨hh',g,d,t,os⟩:=s
 refine wpAny_bind (wpAny_pure (wpAny_bind (wpAny_pure (wpAny_bind (L0.at (wpAny_bind (L1.at ?_)))))))
 refine wpAny_pure ?_
 show wpAny _ _ (handedOut v) _ _ _
 rw[handedOut_of hh];exact wpAny_pure h
end
end L2
namespace L2
open PySem PySem.Spec PyProof.Rows PySem.W
structure XGet (K:W.Frag) (C:Addr):Prop where
 hd:hasDictIn K C=true
 ga:findIn K (.ref C) "__getattribute__"=some (some (.builtin "BaseException.__getattribute__"))
 gh:findIn K (.ref C) "__getattr__"=some none
 sb:subIn K (.ref C) (.type "BaseException")=some true
 cl:findIn K (.ref C) "__class__"=some (some (.builtin "object.__class__"))
 cg:specialIn K (.builtin "object.__class__") "__get__"=some (some (.builtin "getset_descriptor.__get__"))
 tk:takesIn K (.builtin "object.__class__")=some true
 ob:mroIn K C (.type "object")=some true
section
variable {prog:Program}{w:World}{A:Around}{E:Value→Shared→Prop}{s:Shared}{K:W.Frag}{x C:Addr}{ox:Obj}{od:Option Obj}
theorem Gg {Q:Option Value→Shared→Prop} (G:XGet K C) (X:K.In s.heap) (I:InstAt s.heap x ox C od) (h:Q (some (.ref C)) { s with toks:=s.toks+1 }):wpAny (model prog w) A (getAttr? (.ref x) "__class__") Q E s:=by
 have FB:=PySem.F.attrBase_ValueError
 have hf:findObj K C od "__class__"=some (.bind (.builtin "getset_descriptor.__get__") (.builtin "object.__class__")):=by
  obtain⟨cd,hc,_⟩:=any_some G.hd
  unfold findObj
  rw[hc,Option.bind_some,G.cl,Option.bind_some]
  dsimp only
  rw[G.cg,Option.bind_some]
  dsimp only
  rw[G.tk];rfl
 have L0:=I.type (M:=model prog w)
 have L1:=looks_find (M:=model prog w) X I hf
 have hook:Looks (model prog w) s.heap (hookBefore (.ref C)) none:=looks_hook X (by rw[if_pos (by rfl)];exact G.gh)
 unfold getAttr? getAttrBy?
 refine wpAny_bind (wpAny_mkText (wpAny_bind (wpAny_attempt ?_)))
 unfold getAttrBy
 refine wpAny_holding (wpAny_bind (L0 _ _ _ _ (λ _ _ e=>e) (wpAny_bind (looks_findIn X G.ga _ _ _ _ (λ _ _ e=>e) ?_))))
 dsimp only
 have hx2:(Value.builtin "BaseException.__getattribute__" == Value.builtin "object.__getattribute__")=false:=by decide +kernel
 rw[show (onTheHeap (Value.ref C)&&Value.builtin "BaseException.__getattribute__" == Value.builtin "object.__getattribute__")=false from by rw[hx2,Bool.and_false],if_neg (by decide)]
 refine wpAny_bind (hook _ _ _ _ (λ _ _ e=>e) (wpAny_bind (wpAny_attempt (wpAny_holding ?_))))
 unfold callGetattribute
 rw[if_neg (by decide)]
 unfold boundAndCalled
 rw[FB.ga.bind]
 refine wpAny_bind (wpAny_pure ?_)
 show wpAny _ _ (call (.builtin "BaseException.__getattribute__") [.ref x,.str "__class__" s.toks]) _ _ _
 refine wpAny_call ?_
 refine codeAny_call_builtin FB.ga.plain PySem.F.entry_bexc_ga ?_
 refine @check_slot (model prog w) _ _ { s with toks:=s.toks+1 } "BaseException.__getattribute__" "BaseException" "__getattribute__" (.ref x) [.str "__class__" s.toks] [] _ (by decide +kernel) (by decide +kernel) (L0.andThen (looks_subIn X G.sb)) (PySem.F.args_bexc_ga (.ref x) (.str "__class__" s.toks)) ?_
 obtain⟨hh',g,d,t,os⟩:=s
 refine wpAny_bind (wpAny_pure (wpAny_bind (wpAny_pure (wpAny_bind (L0.at (wpAny_bind (L1.at ?_)))))))
 show wpAny _ _ (holding [Value.builtin "object.__class__"] (call (.builtin "getset_descriptor.__get__") [.builtin "object.__class__",.ref x,.ref C]) >>= ret) _ _ _
 refine wpAny_bind (wpAny_holding (wpAny_call (class_get (s:=⟨hh',g,d,t+1,os⟩) (ox:=ox) (od:=od) X I G.ob ?_)))
 refine wpAny_pure ?_
 show wpAny _ _ (handedOut (.ref C)) _ _ _
 rw[handedOut_of rfl]
 exact wpAny_pure (wpAny_pure h)
theorem Jj (G:XGet K C):KitX K (.ref x) (.ref C) (λ h=>InstAt h x ox C od) where
 ty:=λ _ _ _ I=>I.type
 it:=λ _ _ X _=>by
  obtain⟨cdD,hcD,_⟩:=any_some G.hd
  unfold clsIn at hcD
  split at hcD
  ·rename_i c' d' cd' sl' ho
   intro A' Q' E' s' k q
   unfold isType loadHead
   exact wpAny_bind (wpAny_loadPart (k _ _ (X _ _ ho)) (wpAny_pure q))
  ·cases hcD
 ne:=λ h tp dd its n sl X htp=>by
  obtain⟨cdD,hcD,_⟩:=any_some G.hd
  refine Bool.eq_false_iff.mpr λ q=>?_
  have e:C=tp:=Value.ref.inj (beq_iff_eq.mp q)
  subst e
  unfold clsIn at hcD
  split at hcD
  ·rename_i c' d' cd' sl' ho
   have z:=(X _ _ ho).symm.trans htp
   cases z
  ·cases hcD
 ca:=λ X I k=>Gg G X I k
end
section
variable {X:Cx}{pins:List (Addr×Obj)}{σ:St}{H:Hp}{s:Shared}{o:Expr}{ta:TE}{f:Str}{pos:Pos}
theorem Inv.excAt {a C:Addr}{fs:List (Str×V)}{f:Str} (I:Inv X pins σ H s) (ea:H a=some (.xc C fs)) :
  ∃ ox oo,InstAt s.heap a ox C oo∧∀ v,fs.lookup f=some v→∃ u d,oo=some d∧lookIn f d=some (some u)∧RelV v u:=by
 obtain⟨oe,vs,he,h1,h3,h4⟩:=(show ObjOk X.prog X.w H s.heap a (.xc C fs) from I.hok a _ ea)
 obtain⟨oc,odd,odt,osl⟩:=oe
 cases h1
 cases h3
 rcases h4 with ⟨h4,rfl⟩ | ⟨dx,mA,h4,ne,ho,nn,r⟩
 ·cases (show odd=none from h4)
  exact⟨_,none,⟨he,rfl,rfl,trivial⟩,λ v e=>by cases e⟩
 ·cases (show odd=some dx from h4)
  obtain⟨d,hd1,hd2⟩:=u9 nn
  refine⟨_,some d,⟨he,rfl,rfl,hd1⟩,λ v e=>?_⟩
  have q:=r f
  rw[e] at q
  cases z:mA f with
  | none=>rw[z] at q;exact q.elim
  | some u=>rw[z] at q;exact⟨u,d,rfl,by rw[hd2,z],q⟩
noncomputable def VL (K:W.Frag) (ta:TE) (f:Str):TE:=λ σ H Q=>ta σ H λ x H1=>∃ a C fs v,x = .ref a∧H1 a=some (.xc C fs)∧XGet K C∧NoAttr K C f∧fs.lookup f=some v∧Q v H1
theorem MF (he:PE X o ta) (hb:attributeBase o f X.env (eval o X.env)=eval o X.env):PE X (.Attribute o f pos) (VL X.K ta f):=by
 intro pins s σ H Q I h
 refine Lb hb (cY (he pins s σ H _ I h) λ u s1 ⟨x,H1,I1,rx,a,C,fs,v,ex,ea,G,na,hl,q⟩=>?_)
 subst ex
 obtain rfl:u=Value.ref a:=rx
 obtain⟨ox,oo,J,L⟩:=I1.excAt (f:=f) ea
 obtain⟨u,d,rfl,hlk,rv⟩:=L v hl
 exact Mz I1.kIn J G.ga G.gh G.sb (findObj_own G.hd na rfl hlk) (Fo rv) ⟨v,H1,I1.tk _,rv,q⟩
theorem MJ {A:Around}{E:Value→Shared→Prop}{a C:Addr}{fs:List (Str×V)}{c:Value}{b:Bool}{Q:Value→Shared→Prop} (I:Inv X pins σ H s) (ea:H a=some (.xc C fs)) (G:XGet X.K C) (e:kitOne X.K (.ref C) c=some b)
  (h:∀ tk,Q (.bool b) { s with toks:=tk }):wpAny (model X.prog X.w) A (call (.builtin "isinstance") [.ref a,c]) Q E s:=by
 obtain⟨ox,oo,J,_⟩:=I.excAt (f:=("" : Str)) ea
 exact kia_one (Jj G) I.kIn J e (λ z=>nomatch z) h
end
end L2
namespace L2
open PySem PySem.Spec PyProof.Rows PySem.W
abbrev XS:=St→XK
noncomputable def mJ (X:Cx) (E:XS):Prop:=∀ (pins:List (Addr×Obj)) (σ:St) (H:Hp) (s:Shared) (e:Value) (s':Shared),Inv X pins σ H s→Mr X.prog X.w X.stack H s (E σ) e s'→X.xe e s'
section
variable {P:Program}{w:World}{K:W.Frag}{mg:Str→Option Value}{base:Heap}{N:List Str}{qual:Str}{scope:Scope}{f:Addr}{cd:Value}{A:Around}{outer:List Env}{s₀:Shared}{H₀:Hp}{E:XK}
theorem Pg:mJ (qN P w K mg base N qual scope f cd A outer s₀ H₀ E) λ _=>E:=λ pins σ H s e s' I h=>VF pins σ H s e s' I h
end
section
variable {X:Cx}{k:Nat}{f C:Addr}{fd:FuncData}{ps:List Str}{sp:Sp}{E:XS}{x m:Str}{p pos apos:Pos}{e o:Expr}{es:List Expr}{ta:TE}{t:TA}
theorem MK {pins:List (Addr×Obj)}{σ:St}{H:Hp}{s:Shared}{Q:VK}{us:List Value}{vs:List V} (F:FnOk X.prog X.w X.K X.mg X.base (Mr X.prog X.w) k f fd ps sp) (hr:Room k X.A) (hb:Binds X.K fd ps []) (hx:mJ X E)
  (I:Inv X pins σ H s) (r:Vals vs us) (h:sp vs H Q (E σ)):wpAny (model X.prog X.w) X.A (call (.ref f) us) (EP X pins σ Q) X.xe s:=by
 have hl:us.length=ps.length:=by rw[← r.length];exact F.len _ _ _ _ h
 have hB:=hb s us I.kIn (by rw[List.append_nil];exact hl)
 rw[List.append_nil] at hB
 refine wpAny_call (codeAny_mono (F.run X.A X.stack s H ⟨us,[]⟩ us vs Q (E σ) hr I.env0 hB r h) λ r s' hq=>?_)
 cases r with
 | error e=>exact hx pins σ H s e s' I hq
 | ok fl=>
  cases fl with
  | ret u=>exact I.after hq
  | next=>exact False.elim hq
  | brk=>exact False.elim hq
  | cont=>exact False.elim hq
noncomputable def RV (sp:Sp) (E:XS) (t:TA):TE:=λ σ H Q=>t σ H λ vs H1=>sp vs H1 Q (E σ)
noncomputable def HasX (P:Program) (w:World) (K:W.Frag) (mg:Str→Option Value) (base:Heap) (k:Nat) (x:Str) (ps:List Str) (sp:Sp):Prop:=
 ∃ f fd,mg x=some (.ref f)∧W.keepIn K (.ref f)=true∧Binds K fd ps []∧FnOk P w K mg base (Mr P w) k f fd ps sp
theorem RW (h:HasX X.prog X.w X.K X.mg X.base k x ps sp) (hr:Room k X.A) (hx:mJ X E) (ha:PA X (e::es) t) (hg:Gl X x:=by rfl) (hdb:(x==("__debug__" : Str))=false:=by decide)
  (he:starEach (e::es) X.env=(false,eval e X.env)::starEach es X.env:=by rfl) (hpl:(backTo pos (starEach es X.env)).any (·.1)=false:=by rfl) :
  PE X (.Call (.Name x p) (e::es) [] pos) (RV sp E t):=by
 obtain⟨f,fd,m,kp,b,F⟩:=h
 intro pins s σ H Q I h
 refine wpAny_Call_Name_kw (oh I hg m ?_ hdb)
 refine W.callWith_K (h₀:=X.base) I.ok.mod.kin kp (cY (ha pos pins s σ H _ I h) λ us s1 ⟨vs,H1,I1,r,q⟩=>⟨I1.kIn,?_⟩) he hpl
 exact MK F hr b hx I1 r q
end
section
variable {P:Program}{w:World}{K:W.Frag}{mg:Str→Option Value}{base:Heap}
theorem HasX.mono {j k:Nat}{x:Str}{ps:List Str}{sp:Sp} (h:HasX P w K mg base j x ps sp) (hjk:j≤k):HasX P w K mg base k x ps sp:=by
 obtain⟨f,fd,m,kp,b,F⟩:=h
 exact⟨f,fd,m,kp,b,F.mono hjk⟩
theorem HasX.imp {k:Nat}{x:Str}{ps:List Str}{sp Oq:Sp} (h:HasX P w K mg base k x ps sp) (i:∀ vs H Q E,Oq vs H Q E→sp vs H Q E):HasX P w K mg base k x ps Oq:=by
 obtain⟨f,fd,m,kp,b,F⟩:=h
 exact⟨f,fd,m,kp,b,F.imp i⟩
theorem HasX.has {k:Nat}{x:Str}{ps:List Str}{sp:Sp} (h:HasX P w K mg base k x ps sp):Has P w K mg base k x ps λ vs H Q _=>sp vs H Q E0:=by
 obtain⟨f,fd,m,kp,b,F⟩:=h
 refine⟨f,fd,m,kp,b,λ vs H Q E q=>F.len _ _ _ _ q,λ A outer s H args us vs Q E hr e0 hb r q=>codeAny_mono (F.run A outer s H args us vs Q E0 hr e0 hb r q) λ r s' hq=>?_⟩
 cases r with
 | error e=>obtain⟨_,_,_,_,_,_,_,_,_,_,_,_,_,_,_,z⟩:=hq;exact z.elim
 | ok fl=>cases fl <;> exact hq
theorem DefAt.hasX {x:Str}{st:Stmt}{N ps:List Str}{k:Nat}{sp:Sp}{body:List Stmt}{scope:Scope} (F:DefAt K mg x st) (eb:defBody st=body) (es:defScope st=scope) (S:FnScope N ps scope)
  (hb:∀ (kV doc pm:Value) (an:Option Addr) (cdv ct:Value) (us:List Value),us.length=ps.length→bindArgs (W.fnOf x x (defArgs st) (defBody st) (defScope st) .none kV doc pm an cdv ct) ⟨us,[]⟩=pure (ps.zip us))
  (len:∀ vs H Q E,sp vs H Q E→vs.length=ps.length)
  (hbody:∀ (f:Addr) (cdv:Value) (A:Around) (outer:List Env) (s:Shared) (H:Hp) (vs:List V) (Q:VK) (E:XK),Room k (A.deeper (envOfC x scope s.heap.objs.size f cdv))→sp vs H Q E →
   ∃ t,PSs (qN P w K mg base N x scope f cdv A outer s H E) body t∧t { nx:=λ _ H'=>Q .non H',rt:=Q } (start N vs) H):HasX P w K mg base (k+1) x ps sp:=by
 subst eb es
 obtain⟨f,fd,F,m⟩:=F
 refine⟨f,fd,m,F.kp,F.binds hb,?_⟩
 obtain⟨oc,od,kV,doc,pm,an,cdv,ct,osl,rfl,lk,hcd⟩:=F.ex
 exact Ov lk hcd S len λ A outer s H vs Q E hr hsp=>hbody f cdv A outer s H vs Q E hr hsp
end
noncomputable def wV (H:Hp) (od:Option Addr):Prop:=∀ dx,od=some dx→∀ q,H dx≠some (L2.codeO dx q)
noncomputable def VN (K:W.Frag) (i:Nat) (B:Addr) (tb:XS→TS) (th:TS):TS:=λ D σ H=>
 tb (λ σ' C od H'=>∃ c fs,C = .ref c∧XSub K c B∧RT H' od fs∧∀ x,H' x=none→wV H' od→th (dE i D) (σ'.set i (some (.ref x))) (hdH H' x c od fs)) D σ H
theorem Inv.noCode {X:Cx}{pins:List (Addr×Obj)}{σ:St}{H:Hp}{s:Shared}{od:Option Addr}{fs:List (Str×V)} (I:Inv X pins σ H s) (h:RT H od fs):wV H od:=λ dx e q z=>by
 subst e
 obtain⟨⟨mA,nn,_,_⟩,_⟩:=(show ObjOk X.prog X.w H s.heap dx (wR dx fs) from I.hok dx _ h)
 obtain⟨c,_⟩:=(show ObjOk X.prog X.w H s.heap dx (L2.codeO dx q) from I.hok dx _ z)
 obtain⟨c',oc,vs,t,e,n2,n3,_⟩:=c
 cases e
 obtain⟨o,es,ep,n1⟩:=nn
 rw[n1.1] at n2
 cases n2
 rw[n1.2.1] at n3
 cases n3
section
variable {X:Cx}{i:Nat}{n tn:Str}{tp hpos pos:Pos}{B:Addr}{body:List Stmt}{b₀:Stmt}{suite:List Stmt}{tb:XS→TS}{th:TS}
theorem MN (hst:X.stack=X.env::X.outer) (hfr:X.env.frame=some X.env.locals) (hN:X.N.Nodup) (hi:X.N[i]? = some n) (hk:X.env.kindOf n=some .local) (hloc:Loc X.env.scope n) (hf:X.fn n=true∨X.env.scope.names.lookup n=some .local)
  (hg:Gl X tn) (hm:X.mg tn=some (.ref B)) (hdb:(tn==("__debug__" : Str))=false)
  (hb:∀ (pn:List (Addr×Obj)) (E':Value→Shared→Prop) (Ex:XS),mJ (X.wp pn E') Ex→PSs (X.wp pn E') body (tb Ex))
  (hh:∀ e,PSs (X.hdl e) (b₀::suite) th) :
  PS X (.Try body [.ExceptHandler (some (.Name tn tp)) (some n) (b₀::suite) hpos] [] [] pos) (VN X.K i B tb th):=by
 intro pins s σ H D I h
 refine wpAny_Try_except ?_
 have len:=I.len
 have okX:=I.ok
 refine wpAny_mono (hb (X.pn++pins) (λ e s₁=>wpAny (model X.prog X.w) X.A (noteFrame e X.env) (λ _ s₂=>wpAny (model X.prog X.w) X.A (setFlight e none) (λ _ s₃=>wpAny (model X.prog X.w) X.A (handleBy e X.env [.ExceptHandler (some (.Name tn tp)) (some n) (b₀::suite) hpos]) (SP X pins D) X.xe s₃) X.xe s₂) X.xe s₁)
  (λ σ' C od H'=>∃ c fs,C = .ref c∧XSub X.K c B∧RT H' od fs∧∀ x,H' x=none→wV H' od→th (dE i D) (σ'.set i (some (.ref x))) (hdH H' x c od fs)) ?_ [] s σ H D (I.wp _) h) (λ f s1 q=>?_) λ e s1 q=>q
 ·intro qp σ1 H1 s1 e s' I1 hc
  obtain⟨x,C,od,H',T,rfl,ho,hgb,u,hok,hr,hx,hT,hHx,RM,c,fs,rfl,sub,hxd,hth⟩:=hc
  have I2:=I1.call' (ch:=[]) ho u hok hgb (λ b hb=>by cases hb)
  have fx:=I1.far hx
  have fT:=I1.far hT
  have Yk:X.A.frames=some (X.env::X.outer):=by rw[← hst];exact okX.frames
  have Yl:s'.heap.FunFrames X.base (X.env::X.outer):=by rw[← hst];exact I2.stack
  refine vP Yk Yl hfr hr λ h' T' hT' hr' hL=>?_
  have hL':Left (frs X.stack) [x,T] s'.heap h':=by rw[hst];exact hL
  have I3:Inv (X.wp (X.pn++pins) _) qp σ1 H' { s' with heap:=h' }:=I2.lefts (t':=s'.toks) (R:=[x,T]) (λ b hb=>by
   rcases List.mem_cons.mp hb with rfl | hb
   ·exact⟨fx,hHx⟩
   ·cases List.mem_singleton.mp hb;exact⟨fT,RM⟩) hL'
  have fT':=I2.far hT'
  have Ym:H' T'=none:=I2.hok.fresh hT'
  have J:Inv X pins σ1 H' { s' with heap:=h' }:=I3.unwp okX
  have gx:Far X pins x:=⟨fx.s0,fx.lo,fx.ce,λ p hp=>fx.pi p (List.mem_append_left _ hp)⟩
  have gT:Far X pins T':=⟨fT'.s0,fT'.lo,fT'.ce,λ p hp=>fT'.pi p (List.mem_append_left _ hp)⟩
  have hr':Rec ({ s' with heap:=h' }:Shared).heap x (.ref c) od T':=hr'
  generalize ({ s' with heap:=h' }:Shared)=s3 at J hr' ⊢
  have J':=J.hdl (.ref x)
  refine wpAny_handleBy_cons (codeAny_handlers_test (oh (X:=X.hdl (.ref x)) J' hg hm ?_ hdb)) (by intro q;cases q)
  have hr0:=hr'
  obtain⟨oe,vs,oT,ts,he,hc1,hc2,_⟩:=hr0
  refine Cm (X:=X) J.kIn he hc1 sub ?_
  refine codeAny_handlers_suite_as (Gf (X:=X) J hr' gT Ym λ s4 J4 r4=>?_)
  refine u0 (X:=X) J4 hN hi hloc (v:=.ref x) rfl (λ s5 J5 ⟨a,hs,ha⟩=>?_) hf
  have hxa:x≠a:=by
   rcases ha with rfl | ha
   ·exact gx.lo
   ·exact Ne.symm (gx.ce _ a ha)
  have J6:Inv X pins (σ1.set i (some (.ref x))) (hdH H' x c od fs) s5:=by
   obtain⟨oe,vs,_,_,e,h1,h2,h3,_⟩:=r4
   exact J5.caught hHx gx hxd ((hs.2 x hxa).trans e) h1 h2 h3
  refine wpAny_mono (hh (.ref x) pins s5 _ _ (dE i D) (J6.hdl _) (hth x hHx (J.noCode hxd))) (λ f s6 q=>?_) λ _ _ z=>z.elim
  show wpAny (model X.prog X.w) X.A (do bindName X.env n .none;unbindBehindTheSuite X.env n hpos) (λ _ s7=>SP X pins D f s7) X.xe s6
  cases f with
  | next=>obtain⟨σ',H2,I',q⟩:=q;exact oN (I'.unhdl okX) hN hi hk λ s7 J7=>⟨_,H2,J7,q⟩
  | brk=>obtain⟨σ',H2,I',q⟩:=q;exact oN (I'.unhdl okX) hN hi hk λ s7 J7=>⟨_,H2,J7,q⟩
  | cont=>obtain⟨σ',H2,I',q⟩:=q;exact oN (I'.unhdl okX) hN hi hk λ s7 J7=>⟨_,H2,J7,q⟩
  | ret u=>obtain⟨v,σ',H2,I',r,q⟩:=q;exact oN (I'.unhdl okX) hN hi hk λ s7 J7=>⟨v,_,H2,J7,r,q⟩
 ·cases f with
  | next=>
   obtain⟨σ',H',I',q⟩:=q
   exact wpAny_execs_nil ⟨σ',H',I'.unwp okX,q⟩
  | brk=>exact SP.unwp (f:=.brk) okX q
  | cont=>exact SP.unwp (f:=.cont) okX q
  | ret u=>exact SP.unwp (f:=.ret u) okX q
end
end L2
namespace L3
open PySem PySem.Spec PyProof.Rows L2
structure EX where
 C:Addr
 ns:List Str
 ds:List D
abbrev DXK:=EX→DSt→Ms→Prop
noncomputable def DXK.le (x y:DXK):Prop:=∀ e δ M,x e δ M→y e δ M
theorem DXK.rfl (x:DXK):x.le x:=λ _ _ _ h=>h
abbrev xK (K:W.Frag) (F α:List Addr) (H:Hp) (M:Ms) (E:XS):DXK:=λ x δ' M'=>∀ σ' α' H' od vs,Ext F α H M α' H' M'→R K F α' H' σ' δ' M'→x.ns.length=x.ds.length→RT H' od (x.ns.zip vs)→Reps K α' (hid F α' M' H') x.ds vs→E σ' (.ref x.C) od H'
theorem xK.grow {K:W.Frag}{F α α':List Addr}{H H':Hp}{M M':Ms}{E:XS} (e:Ext F α H M α' H' M'):DXK.le (xK K F α H M E) (xK K F α' H' M' E):=λ x δ M'' h σ2 α2 H2 od vs e2=>h σ2 α2 H2 od vs (e.trans e2)
abbrev XE:=DXK→DE
abbrev XA:=DXK→DA
abbrev XB:=DXK→DS
noncomputable def lEX (K:W.Frag) (E:XS) (t:XE):TE:=λ σ H Q=>∃ F α δ M,R K F α H σ δ M∧t (xK K F α H M E) δ M (vK K F α H M Q)
noncomputable def lAX (K:W.Frag) (E:XS) (t:XA):TA:=λ σ H Q=>∃ F α δ M,R K F α H σ δ M∧t (xK K F α H M E) δ M (aK K F α H M Q)
noncomputable def lSX (K:W.Frag) (E:XS) (t:XB):TS:=λ D σ H=>∃ F α δ M,R K F α H σ δ M∧t (xK K F α H M E) (lEnds K F α H M D) δ M
structure JEX (X:Cx) (E:XS) (e:Expr) (t:XE):Prop where
 mono:∀ (x y:DXK) δ M (P Q:DK),x.le y→(∀ d M,P d M→Q d M)→t x δ M P→t y δ M Q
 p:PE X e (lEX X.K E t)
structure JAX (X:Cx) (E:XS) (es:List Expr) (t:XA):Prop where
 mono:∀ (x y:DXK) δ M (P Q:List D→Ms→Prop),x.le y→(∀ d M,P d M→Q d M)→t x δ M P→t y δ M Q
 p:PA X es (lAX X.K E t)
structure JSX (X:Cx) (E:XS) (st:Stmt) (t:XB):Prop where
 mono:∀ (x y:DXK) (P Q:DEnds) δ M,x.le y→P.le Q→t x P δ M→t y Q δ M
 p:PS X st (lSX X.K E t)
structure JBX (X:Cx) (E:XS) (st:List Stmt) (t:XB):Prop where
 mono:∀ (x y:DXK) (P Q:DEnds) δ M,x.le y→P.le Q→t x P δ M→t y Q δ M
 p:PSs X st (lSX X.K E t)
section
variable {X:Cx}{E:XS}{c e:Expr}{te:XE}{tt:XA}{tA:DT}{t u:XB}{pos p p2:Pos}{x:Str}{st:Stmt}{sts as bs:List Stmt}{es:List Expr}
theorem JA.tox {t:DA} (h:JA X es t):JAX X E es λ _=>t:=⟨λ x y δ M P Q _ w q=>h.mono _ _ _ _ w q,h.p⟩
theorem JS.tox {t:DS} (h:JS X st t):JSX X E st λ _=>t:=⟨λ x y P Q δ M _ w q=>h.mono _ _ _ _ w q,h.p⟩
theorem JB'.tox {t:DS} (h:JB' X sts t):JBX X E sts λ _=>t:=⟨λ x y P Q δ M _ w q=>h.mono _ _ _ _ w q,h.p⟩
abbrev GPX:=List D→(D→Prop)→(EX→Prop)→Prop
abbrev monoX (g:GPX):Prop:=∀ ds (P Q:D→Prop) (x y:EX→Prop),(∀ d,P d→Q d)→(∀ e,x e→y e)→g ds P x→g ds Q y
abbrev yK (K:W.Frag) (F α:List Addr) (H:Hp) (M:Ms) (E:XK):EX→Prop:=λ x=>∀ H' od vs,Ext F α H M α H' M→OK K F α H' M→x.ns.length=x.ds.length→RT H' od (x.ns.zip vs)→Reps K α (hid F α M H') x.ds vs→E (.ref x.C) od H'
noncomputable def lSpX (K:W.Frag) (g:GPX):Sp:=λ vs H Q E=>∃ F α M ds,OK K F α H M∧Reps K α (hid F α M H) ds vs∧nls ds=true∧g ds (λ d=>vK K F α H M Q d M) (yK K F α H M E)
structure HasDX (P:Program) (w:World) (K:W.Frag) (mg:Str→Option Value) (base:Heap) (k:Nat) (x:Str) (ps:List Str) (g:GPX):Prop where
 mono:monoX g
 p:HasX P w K mg base k x ps (lSpX K g)
noncomputable def Uu (g:GPX) (tt:XA):XE:=λ x δ M Q=>tt x δ M λ ds M1=>nls ds=true∧g ds (λ d=>Q d M1) λ e=>x e δ M1
theorem zy {k:Nat}{ps:List Str}{g:GPX} (h:HasDX X.prog X.w X.K X.mg X.base k x ps g) (hr:Room k X.A) (hx:mJ X E) (ha:JAX X E (e::es) tt) (hg:Gl X x:=by rfl) (hdb:(x==("__debug__" : Str))=false:=by decide)
  (he:starEach (e::es) X.env=(false,eval e X.env)::starEach es X.env:=by rfl) (hpl:(backTo pos (starEach es X.env)).any (·.1)=false:=by rfl):JEX X E (.Call (.Name x p) (e::es) [] pos) (Uu g tt):=by
 refine⟨λ x y δ M P Q v w q=>ha.mono _ _ δ _ _ _ v (λ ds M1 q=>⟨q.1,h.mono _ _ _ _ _ (λ d q=>w _ _ q) (λ e q=>v _ _ _ q) q.2⟩) q,PE.weak (RW h.p hr hx ha.p hg hdb he hpl) λ σ H Q q=>?_⟩
 obtain⟨F,α,δ,M,r,q⟩:=q
 refine⟨F,α,δ,M,r,ha.mono _ _ δ _ _ _ (DXK.rfl _) (λ ds M1 q vs α1 H1 e1 o1 r1=>?_) q⟩
 exact⟨F,α1,M1,ds,o1,r1,q.1,h.mono _ _ _ _ _ (λ d q=>vK.grow e1 _ _ q) (λ ex q H2 od ws e2 o2 l hx hr=>q σ α1 H2 od ws (e1.trans e2) ((r.grow e1 o1).grow e2 o2) l hx hr) q.2⟩
noncomputable def gD (t u:XB):XB:=λ x=>aY (t x) (u x)
theorem dD (h:JSX X E st t):JBX X E [st] t:=⟨h.mono,Dk h.p⟩
theorem cI (h1:JSX X E st t) (h2:JBX X E sts u):JBX X E (st::sts) (gD t u):=by
 refine⟨λ x y P Q δ M v w q=>h1.mono _ _ { P with nx:=u x P } { Q with nx:=u y Q } _ _ v ⟨λ δ M q=>h2.mono _ _ _ _ _ _ v w q,w.rt,w.bk,w.ct⟩ q,PSs.weak (ou h1.p h2.p) λ D σ H q=>?_⟩
 obtain⟨F,α,δ,M,r,q⟩:=q
 refine⟨F,α,δ,M,r,h1.mono _ _ _ _ _ _ (DXK.rfl _) ?_ q⟩
 exact⟨λ δ1 M1 q σ1 α1 H1 e1 r1=>⟨F,α1,δ1,M1,r1,h2.mono _ _ _ _ _ _ (xK.grow e1) (lEnds.grow e1) q⟩,λ _ _ q=>q,λ _ _ q=>q,λ _ _ q=>q⟩
noncomputable def MP (te:XE):XB:=λ x=>bh (te x)
theorem wW (he:JEX X E e te):JSX X E (.Return (some e) pos) (MP te):=
 ⟨λ x y P Q δ M v w q=>he.mono _ _ δ _ _ _ v w.rt q,PS.weak (G7 he.p) λ D σ H ⟨F,α,δ,M,r,q⟩=>⟨F,α,δ,M,r,q⟩⟩
noncomputable def Bk (c:DT) (t u:XB):XB:=λ x=>bC c (t x) (u x)
theorem lQ (hc:JT X c tA) (ha:JBX X E as t) (hb:JBX X E bs u):JSX X E (.If c as bs pos) (Bk tA t u):=by
 refine⟨λ x y P Q δ M v w q=>hc.mono δ _ _ _ (λ b M1 q=>?_) q,PS.weak (Oh hc.p ha.p hb.p) λ D σ H q=>?_⟩
 ·cases b with
  | true=>rw[if_pos rfl] at q ⊢;exact ha.mono _ _ _ _ _ _ v w q
  | false=>rw[if_neg Bool.false_ne_true] at q ⊢;exact hb.mono _ _ _ _ _ _ v w q
 ·obtain⟨F,α,δ,M,r,q⟩:=q
  refine⟨F,α,δ,M,r,hc.mono δ _ _ _ (λ b M1 q α1 H1 e1 o1=>?_) q⟩
  cases b with
  | true=>
   rw[if_pos rfl] at q
   show (if true=true then _ else _)
   rw[if_pos rfl]
   exact⟨F,α1,δ,M1,r.grow e1 o1,ha.mono _ _ _ _ _ _ (xK.grow e1) (lEnds.grow e1) q⟩
  | false=>
   rw[if_neg Bool.false_ne_true] at q
   show (if false=true then _ else _)
   rw[if_neg Bool.false_ne_true]
   exact⟨F,α1,δ,M1,r.grow e1 o1,hb.mono _ _ _ _ _ _ (xK.grow e1) (lEnds.grow e1) q⟩
noncomputable def RX (i:Nat) (te:XE):XB:=λ x=>bW i (te x)
theorem Ec (i:Nat) (hN:X.N.Nodup) (he:JEX X E e te) (hi:X.N[i]? = some x:=by rfl) (hx:Loc X.env.scope x:=by first | exact Or.inl rfl | exact Or.inr rfl) (hs:swapsWith e (some (.Name x p)) pos.line X.env=pure false:=by rfl)
  (hf:X.fn x=true∨X.env.scope.names.lookup x=some .local:=by first | exact .inl rfl | exact .inr rfl | assumption):JSX X E (.Assign [.Name x p] e pos) (RX i te):=by
 refine⟨λ x y P Q δ M v w q=>he.mono _ _ δ _ _ _ v (λ d M1 q=>w.nx _ _ q) q,PS.weak (G9 hN hi hx he.p hs hf) λ D σ H q=>?_⟩
 obtain⟨F,α,δ,M,r,q⟩:=q
 exact⟨F,α,δ,M,r,he.mono _ _ δ _ _ _ (DXK.rfl _) (λ d M1 q v α1 H1 e1 o1 r1=>q _ α1 H1 e1 ((r.grow e1 o1).set r1)) q⟩
end
end L3
namespace L3
open PySem PySem.Spec PyProof.Rows L2
noncomputable def nQ (n m:Nat) (tb:XB):GPX:=λ ds Q Ex=>ds.length=m∧tb (λ e _ _=>nls e.ds=true∧Ex e) ⟨λ _ _=>Q .non,λ d M'=>nl (fz M' d)=true∧Q (fz M' d),λ _ _=>False,λ _ _=>False⟩ (dZ n ds) []
section
variable {P:Program}{w:World}{K:W.Frag}{mg:Str→Option Value}{base:Heap}
theorem Gh {n m:Nat}{tb:XB} (hb:∀ (x y:DXK) (P Q:DEnds) δ M,x.le y→P.le Q→tb x P δ M→tb y Q δ M):monoX (nQ n m tb):=λ ds P Q x y w v q=>⟨q.1,by
 refine hb _ _ _ _ _ _ (λ e _ _ q=>⟨q.1,v _ q.2⟩) ?_ q.2
 exact⟨λ _ _ q=>w _ q,λ _ _ q=>⟨q.1,w _ q.2⟩,λ _ _ q=>q,λ _ _ q=>q⟩⟩
theorem M6 {n:List Str}{ps:List Str}{X:Cx}{body:List Stmt}{tb:XB}{E:XK} (hJ:JBX X (λ _=>E) body tb) {H:Hp}{vs:List V}{Q:VK} (hK:X.K=K) (h:lSpX K (nQ n.length ps.length tb) vs H Q E) :
  ∃ t,PSs X body t∧t { nx:=λ _ H'=>Q .non H',rt:=Q } (L2.start n vs) H:=by
 subst hK
 obtain⟨F,α,M,ds,o,r,hn,hl,q⟩:=h
 have o0:OK X.K (lv α M++F) [] H []:=⟨rfl,List.nodup_nil,λ a ha=>⟨by simp,by
  rcases List.mem_append.mp ha with ha | ha
  ·exact o.liveV a ha
  ·exact(o.fr a ha).2⟩,λ a ha=>(by simp at ha),λ k x h=>(by simp at h),o.tb⟩
 have r0:Reps X.K [] (hid (lv α M++F) [] [] H) ds vs:=Reps.nl ds vs hn r
 refine⟨_,hJ.p,lv α M++F,[],dZ n.length ds,[],wF o0 r0,?_⟩
 refine hJ.mono _ _ _ _ _ _ (λ e δ' M' ⟨nl,qe⟩ σ' α' H' od ws ext r' l xd rp=>?ex) ?le q
 case ex=>
  obtain⟨e1,o1⟩:=g8 o ext r'.ok
  exact qe H' od ws e1 o1 l xd (Reps.nl _ _ nl (Reps.mono (List.prefix_refl _) jJ _ _ rp))
 case le=>
  refine⟨λ δ M' q σ' α' H' e r=>?_,λ d M' q v α' H' e o' r=>?_,λ _ _ q=>q.elim,λ _ _ q=>q.elim⟩
  ·obtain⟨e1,o1⟩:=g8 o e r.ok
   exact q _ α H' e1 o1 gB
  ·obtain⟨e1,o1⟩:=g8 o e o'
   exact q.2 v α H' e1 o1 (Rep.nl _ _ q.1 (Ig o' d v r))
theorem Ed {k:Nat}{x:Str}{ps:List Str}{g g':GPX} (h:HasX P w K mg base k x ps (lSpX K g)) (m:monoX g') (i:∀ ds Q y,g' ds Q y→g ds Q y):HasDX P w K mg base k x ps g':=
 ⟨m,h.imp λ vs H Q E ⟨F,α,M,ds,o,r,n,q⟩=>⟨F,α,M,ds,o,r,n,i _ _ _ q⟩⟩
theorem HasDX.up {j k:Nat}{x:Str}{ps:List Str}{g:GPX} (h:HasDX P w K mg base j x ps g) (hjk:j≤k):HasDX P w K mg base k x ps g:=⟨h.mono,h.p.mono hjk⟩
end
noncomputable def RZ (v:V):Bool:=match v with | .int n=>decide (n.natAbs.log2 < 1920)&&decide ((toString n:Str).length≤4000) | .str y=>decide (y.length≤4000) | _=>false
noncomputable def Gi (v:D):Bool:=match v with | .int n=>decide (n.natAbs.log2 < 1920)&&decide ((toString n:Str).length≤4000) | .str y=>decide (y.length≤4000) | _=>false
theorem Jk {K:W.Frag}{α:List Addr}{H:Hp}:∀ (ds:List D) (vs:List V),Reps K α H ds vs→ds.all Gi=true→vs.all RZ=true
 | [],vs,r,_=>by unfold Reps at r;subst r;rfl
 | d::ds,vs,r,h=>by
  unfold Reps at r
  obtain⟨v,ws,rfl,r1,r2⟩:=r
  rw[List.all_cons,Bool.and_eq_true] at h ⊢
  refine⟨?_,Jk ds ws r2 h.2⟩
  have h1:=h.1
  cases d <;> first | (cases h1;done) | (unfold Rep at r1;subst r1;exact h1)
noncomputable def spI (C:Addr) (ns:List Str):Sp:=λ vs H Q _=>∃ x ws,vs = .ref x::ws∧ws.length=ns.length∧ws.all RZ=true∧H x=some (iy x C none) ∧
 ∀ dx,H dx=none→dx≠x→Q .non (upd (upd H dx (wR dx (ns.zip ws))) x (iy x C (some dx)))
theorem M7 {H:Hp}{x dx:Addr}{a b c:HO} (hx:H x=none) (ne:dx≠x):Ky x (upd (upd (upd H x a) dx b) x c)=upd H dx b:=by
 funext y
 by_cases h:y=x
 ·subst h;rw[oM,aA (Ne.symm ne),hx]
 ·rw[wU h,aA h]
  by_cases h2:y=dx
  ·subst h2;rw[aP,aP]
  ·rw[aA h2,aA h2,aA h]
noncomputable def iz (C:Addr) (ns:List Str) (tt:DA):XB:=λ x _ δ M=>tt δ M λ ds M1=>ds.length=ns.length∧ds.all Gi=true∧ds.length≤sizeLine∧x ⟨C,ns,ds⟩ δ M1
section
variable {P:Program}{w:World}{K:W.Frag}{mg:Str→Option Value}{base:Heap}{N:List Str}{qual:Str}{scope:Scope}{fn:Addr}{cd:Value}{A:Around}{outer:List Env}{s₀:Shared}{H₀:Hp}{E:XK}
variable {k:Nat}{f C:Addr}{fd:FuncData}{ps ns:List Str}{x:Str}{p pos cpos:Pos}{e:Expr}{es:List Expr}{tt:DA}
structure RaiseOk (P:Program) (w:World) (K:W.Frag) (mg:Str→Option Value) (base:Heap) (k:Nat) (x:Str) (C:Addr) (ns:List Str):Prop where
 m:mg x=some (.ref C)
 ok:∃ f fd ps,XMk K C f∧Binds K fd ps []∧FnOk P w K mg base CX0 k f fd ps (spI C ns)
theorem gY (h:RaiseOk P w K mg base k x C ns) (hr:Room (k+1) (qN P w K mg base N qual scope fn cd A outer s₀ H₀ E).A) (ha:JA (qN P w K mg base N qual scope fn cd A outer s₀ H₀ E) (e::es) tt) (hg:Gl (qN P w K mg base N qual scope fn cd A outer s₀ H₀ E) x:=by rfl)
  (hdb:(x==("__debug__" : Str))=false:=by decide)
  (he:starEach (e::es) (qN P w K mg base N qual scope fn cd A outer s₀ H₀ E).env=(false,eval e (qN P w K mg base N qual scope fn cd A outer s₀ H₀ E).env)::starEach es (qN P w K mg base N qual scope fn cd A outer s₀ H₀ E).env:=by rfl)
  (hpl:(backTo cpos (starEach es (qN P w K mg base N qual scope fn cd A outer s₀ H₀ E).env)).any (·.1)=false:=by rfl) :
  JSX (qN P w K mg base N qual scope fn cd A outer s₀ H₀ E) (λ _=>E) (.Raise (some (.Call (.Name x p) (e::es) [] cpos)) none pos) (iz C ns tt):=by
 obtain⟨hm,f,fd,ps,M,hb,F⟩:=h
 refine⟨λ x y P Q δ M v w q=>ha.mono δ _ _ _ (λ ds M1 q=>⟨q.1,q.2.1,q.2.2.1,v _ _ _ q.2.2.2⟩) q,PS.weak (Ji M F (λ vs H Q Q' w ⟨x,ws,q1,q2,q3,q4,q5⟩=>⟨x,ws,q1,q2,q3,q4,λ dx h1 h2=>w _ _ (q5 dx h1 h2)⟩) hr hb hg hm ha.p hdb he hpl) λ D σ H q=>?_⟩
 obtain⟨F,α,δ,M,r,q⟩:=q
 refine⟨F,α,δ,M,r,ha.mono δ _ _ _ (λ ds M1 q vs α1 H1 e1 o1 r1=>?_) q⟩
 obtain⟨q1,q2,q3,q4⟩:=q
 have hl:=Reps.length _ _ r1
 refine⟨by rw[← hl];exact q3,λ x hx=>⟨x,vs,rfl,by rw[← hl];exact q1,Jk _ _ r1 q2,aP,λ dx hdx ne=>⟨rfl,some dx,aP,?_⟩⟩⟩
 rw[aA ne] at hdx
 rw[M7 hx ne]
 obtain⟨o2,e2⟩:=o1.laid (x:=wR dx (ns.zip vs)) hdx
 exact q4 σ α1 _ (some dx) vs (e1.trans e2) ((r.grow e1 o1).grow e2 o2) q1.symm aP (e2.reps r1)
end
end L3
namespace L3
open PySem PySem.Spec PyProof.Rows L2
section
variable {K:W.Frag}{F α α':List Addr}{H H':Hp}{M M':Ms}{σ:L2.St}{δ:DSt}
theorem R.unset (r:R K F α H σ δ M) (i:Nat):R K F α H (σ.set i none) (δ.set i none) M:=by
 refine⟨r.ok,by simp[r.len],λ j d h=>?_⟩
 by_cases hj:j=i
 ·subst hj
  rw[List.getElem?_set] at h
  by_cases hl:j < δ.length
  ·simp[hl] at h
  ·simp[hl] at h
 ·rw[List.getElem?_set_ne (Ne.symm hj)] at h ⊢
  exact r.sl j d h
theorem OK.ghost (o:OK K F α H M) {p:Addr}{x:HO}{φ:Heap→Prop} (hp:H p=some (.ext φ)) (nc:∀ q,H p≠some (codeO p q)):OK K F α (upd H p x) M∧Ext F α H M α (upd H p x) M:=by
 have vp:vis (H p)=none:=by rw[hp]
 have frs:∀ a,vis (H a)≠none→upd H p x a=H a:=λ a h=>aA λ z=>by subst z;exact h vp
 have sm:Same (hid F α M H) (hid F α M (upd H p x)):=λ b y q=>by
  obtain⟨z,q1,q2⟩:=jz q
  exact dO q z (by rw[frs b (by rw[q1,q2];exact λ z=>by cases z)];exact q1)
 refine⟨⟨o.ml,o.nd,λ a ha=>⟨(o.fr a ha).1,by rw[frs a (o.fr a ha).2];exact(o.fr a ha).2⟩,λ a ha=>by rw[frs a (o.al a ha)];exact o.al a ha,λ k y h=>?_,λ y hy c P e=>?_⟩,⟨List.prefix_refl _,sm,λ a ha=>frs a (o.fr a ha).2⟩⟩
 ·obtain⟨a,e,r⟩:=o.own k y h
  exact⟨a,e,r.mono (List.prefix_refl _) sm (frs a r.vis)⟩
 ·obtain⟨ps,h1,h2,h3⟩:=o.tb y hy c P e
  refine⟨ps,by rw[aA λ z=>by rw[z,hp] at h1;cases h1];exact h1,h2,λ pos v hv=>?_⟩
  obtain⟨c',e1,e2⟩:=h3 pos v hv
  exact⟨c',e1,by rw[aA λ z=>by subst z;exact nc _ e2];exact e2⟩
theorem OK.caught (o:OK K F α H M) {x c:Addr}{od:Option Addr}{fs:List (Str×V)} (hx:H x=none) (xd:RT H od fs) (nc:wV H od):OK K F α (hdH H x c od fs) M∧Ext F α H M α (hdH H x c od fs) M∧hid F α M (hdH H x c od fs) x=some (.xc c fs):=by
 have hh:∀ H1,hide (lv α M++F) (upd H1 x (.xc c fs)) x=some (.xc c fs):=λ H1=>dg (o.new hx) aP rfl
 cases od with
 | none=>
  obtain⟨o1,e1⟩:=o.laid (x:=.xc c fs) hx
  exact⟨o1,e1,hh _⟩
 | some dx=>
  have hd:H dx=some (wR dx fs):=xd
  obtain⟨o1,e1⟩:=o.ghost (x:=.own x) hd (nc dx rfl)
  have ne:x≠dx:=λ z=>by rw[← z,hx] at hd;cases hd
  obtain⟨o2,e2⟩:=o1.laid (p:=x) (x:=.xc c fs) (by rw[aA ne];exact hx)
  exact⟨o2,e1.trans e2,hh _⟩
end
noncomputable def Zq (i:Nat) (E:DEnds):DEnds:=⟨λ δ M=>E.nx (δ.set i none) M,E.rt,λ δ M=>E.bk (δ.set i none) M,λ δ M=>E.ct (δ.set i none) M⟩
noncomputable def VP (K:W.Frag) (i:Nat) (B:Addr) (tb:XB) (th:DS):DS:=λ E δ M=>tb (λ e δ' M'=>XSub K e.C B∧th (Zq i E) (δ'.set i (some (.exc e.C e.ns e.ds))) M') E δ M
section
variable {X:Cx}{E:XS}{e:Expr}{pos:Pos}
theorem R0 {i:Nat}{n tn:Str}{tp hpos:Pos}{B:Addr}{body:List Stmt}{b₀:Stmt}{suite:List Stmt}{tb:XB}{th:DS} (hN:X.N.Nodup) (hm:X.mg tn=some (.ref B))
  (hb:∀ (pn:List (Addr×Obj)) (E':Value→Shared→Prop) (Ex:XS),mJ (X.wp pn E') Ex→JBX (X.wp pn E') Ex body tb)
  (hh:∀ e,JB' (X.hdl e) (b₀::suite) th) (hi:X.N[i]? = some n:=by rfl) (hk:X.env.kindOf n=some .local:=by rfl) (hloc:Loc X.env.scope n:=by first | exact Or.inl rfl | exact Or.inr rfl) (hf:X.fn n=true∨X.env.scope.names.lookup n=some .local:=by first | exact .inl rfl | exact .inr rfl | assumption)
  (hg:Gl X tn:=by rfl) (hdb:(tn==("__debug__" : Str))=false:=by decide) (hst:X.stack=X.env::X.outer:=by rfl) (hfr:X.env.frame=some X.env.locals:=by rfl) :
  JS X (.Try body [.ExceptHandler (some (.Name tn tp)) (some n) (b₀::suite) hpos] [] [] pos) (VP X.K i B tb th):=by
 have hM:=(hh .none).mono
 have hbm:=(hb [] (λ _ _=>True) (λ _ _ _ _=>False) λ _ _ _ _ _ _ _ _=>trivial).mono
 refine⟨λ P Q δ M w q=>hbm _ _ _ _ _ _ (λ e δ' M' q=>⟨q.1,hM _ _ _ _ ?_ q.2⟩) w q,PS.weak (MN (tb:=λ Ex=>lSX X.K Ex tb) (th:=lS X.K th) hst hfr hN hi hk hloc hf hg hm hdb (λ pn E' Ex hp=>(hb pn E' Ex hp).p) λ e=>(hh e).p) λ D σ H q=>?_⟩
 ·exact⟨λ _ _ q=>w.nx _ _ q,w.rt,λ _ _ q=>w.bk _ _ q,λ _ _ q=>w.ct _ _ q⟩
 ·obtain⟨F,α,δ,M,r,q⟩:=q
  refine⟨F,α,δ,M,r,hbm _ _ _ _ _ _ (λ ex δ' M' ⟨sub,q⟩ σ' α' H' od vs e1 r1 l xd rp=>⟨ex.C,ex.ns.zip vs,rfl,sub,xd,λ x hx nc=>?_⟩) (DEnds.le.refl _) q⟩
  obtain⟨o2,e2,hx2⟩:=r1.ok.caught (c:=ex.C) hx xd nc
  have rx:Rep X.K α' (hid F α' M' (hdH H' x ex.C od (ex.ns.zip vs))) (.exc ex.C ex.ns ex.ds) (.ref x):=by
   unfold Rep
   exact⟨x,vs,rfl,hx2,l,e2.reps rp⟩
  refine⟨F,α',_,M',(r1.grow e2 o2).set rx,hM _ _ _ _ ?_ q⟩
  have e12:=e1.trans e2
  exact⟨λ δ3 M3 q σ3 α3 H3 e3 r3=>q _ α3 H3 (e12.trans e3) (r3.unset i),vK.grow e12,λ δ3 M3 q σ3 α3 H3 e3 r3=>q _ α3 H3 (e12.trans e3) (r3.unset i),λ δ3 M3 q σ3 α3 H3 e3 r3=>q _ α3 H3 (e12.trans e3) (r3.unset i)⟩
end
end L3
namespace L2
open PySem PySem.Spec PyProof.Rows
inductive TC (H₀:Hp) (P:Hp→Prop):Hp→Prop
 | base {H:Hp}:P H→TC H₀ P H
 | thaw {H:Hp} {a:Addr} {o:Obj} {kvs:List (Key×V)}:H a=some (.frz o (.dK kvs))→(∀ o u,H₀ a≠some (.frz o u))→TC H₀ P (upd H a (.dK kvs))→TC H₀ P H
abbrev Uv (H₀:Hp) (E:XK):XK:=λ C od=>TC H₀ (E C od)
section
variable {P:Program}{w:World}
theorem Jl {outer:List Env}{H:Hp}{s:Shared}{E:XK}{e:Value}{s':Shared} (h:Mr P w outer H s (Uv H E) e s'):Mr P w outer H s E e s':=by
 obtain⟨x,C,od,H',T,rfl,ho,hg,u,hok,hr,hx,hT,hHx,RM,hE⟩:=h
 induction hE with
 | base h=>exact⟨x,C,od,_,T,rfl,ho,hg,u,hok,hr,hx,hT,hHx,RM,h⟩
 | @thaw H1 a o kvs ha n4 _ ih=>
  have hne:∀ b,H1 b=none→b≠a:=λ b h z=>by rw[z,ha] at h;cases h
  refine ih ⟨u.keep,u.slot,λ b o q n hx=>?_,u.there,λ b xs q=>?_,λ b o u' q=>?_,λ b ps q=>?_⟩ (λ b ob q=>?_) (by rw[aA (hne _ hHx)];exact hHx) (by rw[aA (hne _ RM)];exact RM)
  ·have:=u.free b o q n hx
   rw[aA (hne b this)];exact this
  ·have:=u.tups b xs q
   rw[aA λ z=>by rw[z,ha] at this;cases this];exact this
  ·have:=u.frzs b o u' q
   rw[aA λ z=>n4 o u' (by rw[← z];exact q)];exact this
  ·obtain⟨m,e⟩:=u.tbls b ps q
   exact⟨m,by rw[aA λ z=>by rw[z,ha] at e;cases e];exact e⟩
  ·by_cases z:b=a
   ·subst z
    rw[aP] at q
    cases q
    obtain⟨_,z,hd,vs,r,ob,es,ep,e,c⟩:=(show ObjOk P w H1 s'.heap b (.frz o (.dK kvs)) from hok b _ ha)
    exact⟨z,hd,vs,r,ob,es,ep,e,c⟩
   ·rw[aA z] at q
    refine(hok b ob q).stay (λ c v _ r=>r) (λ c r=>?_) (λ c xs r=>?_)
    ·rw[aA λ z=>by rw[z,ha] at r;cases r];exact r
    ·rw[aA λ z=>by rw[z,ha] at r;cases r];exact r
variable {K:W.Frag}{mg:Str→Option Value}{base:Heap}
theorem FnOk.thaw {k:Nat}{f:Addr}{fd:FuncData}{ps:List Str}{sp Oq:Sp} (F:FnOk P w K mg base (Mr P w) k f fd ps Oq) (h:∀ vs H Q E,sp vs H Q E→Oq vs H Q (Uv H E)):FnOk P w K mg base (Mr P w) k f fd ps sp:=
 ⟨λ vs H Q E q=>F.len _ _ _ _ (h _ _ _ _ q),λ A outer s H args us vs Q E hr e0 hb r q=>codeAny_mono (F.run A outer s H args us vs Q (Uv H E) hr e0 hb r (h _ _ _ _ q)) λ r s' hq=>by
  cases r with
  | error e=>exact Jl hq
  | ok fl=>cases fl <;> exact hq⟩
end
end L2
namespace L3
open PySem PySem.Spec PyProof.Rows L2
section
variable {P:Program}{w:World}{K:W.Frag}{mg:Str→Option Value}{base:Heap}
theorem Ef {x:Str}{st:Stmt}{N ps:List Str}{k:Nat}{body:List Stmt}{scope:Scope}{tb:XB} (F:DefAt K mg x st) (eb:defBody st=body) (es:defScope st=scope) (S:FnScope N ps scope)
  (hb:∀ (kV doc pm:Value) (an:Option Addr) (cdv ct:Value) (us:List Value),us.length=ps.length→bindArgs (W.fnOf x x (defArgs st) (defBody st) (defScope st) .none kV doc pm an cdv ct) ⟨us,[]⟩=pure (ps.zip us))
  (hJ:∀ (f:Addr) (cdv:Value) (A:Around) (outer:List Env) (s:Shared) (H:Hp) (E:XK),Room k (A.deeper (envOfC x scope s.heap.objs.size f cdv))→JBX (qN P w K mg base N x scope f cdv A outer s H (Uv H E)) (λ _=>Uv H E) body tb) :
  HasX P w K mg base (k+1) x ps (lSpX K (nQ N.length ps.length tb)):=by
 have h1:HasX P w K mg base (k+1) x ps (λ vs H Q E'=>∃ E,E'=Uv H E∧lSpX K (nQ N.length ps.length tb) vs H Q E):=
  F.hasX eb es S hb (λ vs H Q E' ⟨E,_,F,α,M,ds,o,r,hn,hl,q⟩=>by rw[← Reps.length _ _ r];exact hl) λ f cdv A outer s H vs Q E' hr ⟨E,e,F,α,M,ds,o,r,hn,q⟩=>by
   subst e
   exact M6 (ps:=ps) (hJ f cdv A outer s H E hr) rfl ⟨F,α,M,ds,o,r,hn,Gh (hJ f cdv A outer s H E hr).mono _ _ _ _ _ (λ _ q=>q) (λ ex q H' od ws e1 o1 l xd rp=>.base (q H' od ws e1 o1 l xd rp)) q⟩
 obtain⟨f,fd,m,kp,b,F1⟩:=h1
 exact⟨f,fd,m,kp,b,F1.thaw λ vs H Q E h=>⟨E,rfl,h⟩⟩
end
section
variable {X:Cx}{E:XS}{e:Expr}{pos:Pos}
end
end L3
namespace L2
open PySem PySem.Spec PyProof.Rows
noncomputable def Yn (h:Heap) (e:Addr) (cls:Value) (od:Option Addr) (T:Addr):Prop:=
 ∃ oe vs oT ts v,h.get? e=some oe∧oe.cls=cls∧oe.dict=od∧oe.data = .fields vs∧vs[1]? = some (.ref T)∧T≠e∧h.get? T=some oT∧oT.data = .fields ts∧ts[3]? = some v
theorem Rec.any {h:Heap}{e:Addr}{cls:Value}{od:Option Addr}{T:Addr} (r:Rec h e cls od T):Yn h e cls od T:=by
 obtain⟨oe,vs,oT,ts,h1,h2,h3,h4,h5,h6,h7,h8,h9⟩:=r
 exact⟨oe,vs,oT,ts,.none,h1,h2,h3,h4,h5,h6,h7,h8,h9⟩
section
variable {M:Model}{A:Around}{E:Value→Shared→Prop}{s:Shared}
theorem Left.refl {S R:List Addr}{h:Heap}:Left S R h h:=λ b o e _=>⟨λ _=>e,o.slots,e⟩
end
section
variable {P:Program}{w:World}{K:W.Frag}{mg:Str→Option Value}{base:Heap}{N:List Str}{qual:Str}{scope:Scope}{f:Addr}{cd:Value}{A:Around}{outer:List Env}{s₀:Shared}{H₀:Hp}{E:XK}
end
end L2
namespace L2
open PySem PySem.Spec PyProof.Rows
section
variable {X:Cx}{N:List Str}{fr:List (Option Nat)}{scope:Scope}{elt target iter:Expr}{ifs:List Expr}{wi:TI}{g:TG}{tt:TT}{te:TE}{pos:Pos}{Ex:XS}
end
section
variable {P:Program}{w:World}{K:W.Frag}{mg:Str→Option Value}{base:Heap}{N₀:List Str}{qual:Str}{oscope:Scope}{f:Addr}{cd:Value}{A:Around}{outer:List Env}{s₀:Shared}{H₀:Hp}{E:XK}
variable {N:List Str}{fr:List (Option Nat)}{scope:Scope}{elt target iter:Expr}{ifs:List Expr}{wi:TI}{g:TG}{tt:TT}{te:TE}{pos:Pos}
end
end L2
namespace L3
open PySem PySem.Spec PyProof.Rows L2
section
variable {K:W.Frag}{F α:List Addr}{H:Hp}{M:Ms}{σ:L2.St}{δ:DSt}{p:Addr}
end
section
variable {X:Cx}{N:List Str}{fr:List (Option Nat)}{scope:Scope}{elt target iter:Expr}{ifs:List Expr}{ti:DI}{g:DG}{tt:DT}{te:XE}{pos:Pos}{E:XS}
end
section
variable {P:Program}{w:World}{K:W.Frag}{mg:Str→Option Value}{base:Heap}{N₀:List Str}{qual:Str}{oscope:Scope}{f:Addr}{cd:Value}{A:Around}{outer:List Env}{s₀:Shared}{H₀:Hp}{E:XK}
variable {N:List Str}{fr:List (Option Nat)}{scope:Scope}{elt target iter:Expr}{ifs:List Expr}{ti:DI}{g:DG}{tt:DT}{te:XE}{pos:Pos}
end
end L3
namespace L2
open PySem PySem.Spec PyProof.Rows PySem.W PySem.Calls Builtin
section
variable {prog:Program}{w:World}{A:Around}{R:Result→Shared→Prop}{h:Heap}{g:Array GenState}{d:Drawn}{t:Nat}{os:OsState}
variable {nm q:Str}{C N f:Addr}{bs bm bmB:List Value}{hdct:Bool}{sn:List Str}{sub:List Value}{ab:Bool}{col:Option Bool}{dd:Option Addr}{k0 k1 k2 k3 k5:Option Value}{B newId initId:String}
end
section
variable {prog:Program}{w:World}{A:Around}{E:Value→Shared→Prop}{h:Heap}{g:Array GenState}{d:Drawn}{t:Nat}{os:OsState}
variable {nm q:Str}{C N x:Addr}{bs bm bmB:List Value}{hdct:Bool}{sn:List Str}{sub:List Value}{ab:Bool}{col:Option Bool}{dd:Option Addr}{k0 k1 k2 k3 k5:Option Value}{B newId initId:String}
end
section
variable {X:Cx}
structure XMk0 (K:W.Frag) (C:Addr):Prop where
 x:XObj K C
 call:W.specialIn K (.ref C) "__call__"=some (some (.builtin "type.__call__"))
 typ:W.instIn K (.ref C) (.type "type")=some true
 init:W.findIn K (.ref C) "__init__"=some (some (.builtin "ValueError.__init__"))
 kp:W.keepIn K (.ref C)=true
end
section
variable {P:Program}{w:World}{K:W.Frag}{mg:Str→Option Value}{base:Heap}{N:List Str}{qual:Str}{scope:Scope}{fn:Addr}{cd:Value}{A:Around}{outer:List Env}{s₀:Shared}{H₀:Hp}{E:XK}
variable {C:Addr}{x:Str}{p pos cpos:Pos}{e:Expr}{t:TA}
end
end L2
namespace L3
open PySem PySem.Spec PyProof.Rows L2
section
variable {P:Program}{w:World}{K:W.Frag}{mg:Str→Option Value}{base:Heap}{N:List Str}{qual:Str}{scope:Scope}{fn:Addr}{cd:Value}{A:Around}{outer:List Env}{s₀:Shared}{H₀:Hp}{E:XK}
variable {C:Addr}{x:Str}{p pos cpos:Pos}{e:Expr}{tt:DA}
end
end L3
namespace L3
open PySem PySem.Spec PyProof.Rows L2
section
variable {X:Cx}
noncomputable def oO:GM:=λ d ds M Q=>match vw M d,ds with
 | .dct ks es,[k]=>∃ kk,BK k=some kk∧Q ((valD kk ks es).getD .non) M
 | .dct ks es,[k,x]=>∃ kk,BK k=some kk∧Q ((valD kk ks es).getD x) M
 | _,_=>False
theorem Jm (hu:X.A.units+1 < cLine):JM X "dict.get" oO:=by
 refine⟨λ d ds M P Q w q=>?_,λ pins s σ H x xs v us Q I rx rs h=>?_⟩
 ·unfold oO at q ⊢
  generalize vw M d=a at q ⊢
  split at q <;> first
   | exact q.elim
   | (obtain⟨k,h1,h3⟩:=q;exact⟨k,h1,w _ _ h3⟩)
 ·obtain⟨F,α,M,d,ds,ok,r,rr,h⟩:=h
  unfold oO at h
  generalize e1:vw M d=a at h
  split at h <;> first | exact h.elim | skip
  ·obtain⟨kk,h1,h3⟩:=h
   obtain⟨a,vs,rfl,qa,hl,za⟩:=nF ok r e1
   obtain⟨u1,rfl,r1⟩:=m5 rr
   cases lK r1 h1
   obtain rfl:v=Value.ref a:=rx
   obtain⟨u1,rfl,q1⟩:=vals1 rs
   have g:=lM (k:=kk) _ _ vs za hl
   cases e:valD kk _ _ with
   | none=>
    rw[e] at h3
    refine Ht hu I (DGet.kr qa) q1 λ w' s3 I3 rG=>⟨_,H,I3,rG,?_⟩
    rw[g.2 e]
    exact vK.now ok h3 gB
   | some y=>
    rw[e] at h3
    obtain⟨v',hv,rv⟩:=g.1 y e
    refine Ht hu I (DGet.kr qa) q1 λ w' s3 I3 rG=>⟨_,H,I3,rG,?_⟩
    rw[hv]
    exact vK.now ok h3 rv
  ·obtain⟨kk,h1,h3⟩:=h
   obtain⟨a,vs,rfl,qa,hl,za⟩:=nF ok r e1
   obtain⟨u1,u2,rfl,r1,r2⟩:=sH rr
   cases lK r1 h1
   obtain rfl:v=Value.ref a:=rx
   obtain⟨u1,u2,rfl,q1,q2⟩:=vals2 rs
   have g:=lM (k:=kk) _ _ vs za hl
   cases e:valD kk _ _ with
   | none=>
    rw[e] at h3
    refine Hu hu I (DGet.kr qa) q1 q2 λ w' s3 I3 rG=>⟨_,H,I3,rG,?_⟩
    rw[g.2 e]
    exact vK.now ok h3 r2
   | some y=>
    rw[e] at h3
    obtain⟨v',hv,rv⟩:=g.1 y e
    refine Hu hu I (DGet.kr qa) q1 q2 λ w' s3 I3 rG=>⟨_,H,I3,rG,?_⟩
    rw[hv]
    exact vK.now ok h3 rv
noncomputable def Jo:GN:=λ ds M Q=>match ds with
 | [.int i]=>Q (.int i) M
 | [.bl b]=>Q (.int (if b then 1 else 0)) M
 | _=>False
theorem R3:JB X (.type "int") Jo:=by
 refine⟨λ ds M P Q w q=>?_,λ pins s σ H xs us Q I rs h=>?_⟩
 ·unfold Jo at q ⊢
  split at q <;> first | exact q.elim | exact w _ _ q
 ·obtain⟨F,α,M,ds,o,rr,h⟩:=h
  unfold Jo at h
  split at h <;> first | exact h.elim | skip
  ·obtain⟨v,rfl,rv⟩:=m5 rr
   unfold Rep at rv
   subst rv
   exact u6 pins s σ H _ us Q I rs (.inl ⟨_,rfl,vK.now o h bL⟩)
  ·obtain⟨v,rfl,rv⟩:=m5 rr
   unfold Rep at rv
   subst rv
   exact u6 pins s σ H _ us Q I rs (.inr ⟨_,rfl,vK.now o h bL⟩)
end
end L3
namespace L3
open PySem PySem.Spec PyProof.Rows L2
abbrev FP:=Str ⊕ Nat
noncomputable def tFP:FP→TE
 | .inl c=>tC (.str c)
 | .inr i=>VG (G3 i)
noncomputable def tJs:List FP→TJ
 | []=>Pa
 | p::ps=>Je (tFP p) (tJs ps)
structure FPs (X:Cx) (es:List Expr) (ps:List FP):Prop where
 p:PJ X es (tJs ps)
noncomputable def tFs (K:W.Frag):List Str→Nat→TS
 | [],_=>λ D σ H=>D.nx σ H
 | f::r,i=>Qx (Pb K (G3 0) (G3 i) f) (tFs K r (i+1))
structure JFs (X:Cx) (sts:List Stmt) (ns:List Str) (i:Nat):Prop where
 p:PSs X sts (tFs X.K ns i)
section
variable {X:Cx}{es:List Expr}{ps:List FP}{c x f:Str}{j:Option Str}{p pos pos':Pos}{i:Nat}{sts:List Stmt}{ns:List Str}
theorem M8:FPs X [] []:=⟨RP⟩
theorem VR {j} (h:FPs X es ps):FPs X (.Constant (.str c) j pos::es) (.inl c::ps):=⟨Eb G4 h.p⟩
theorem V0 (i:Nat) (h:FPs X es ps) (hN:X.N[i]? = some x:=by rfl) (hv:Vis X.env.scope x:=by first | exact Or.inl rfl | exact Or.inr (Or.inl rfl) | exact Or.inr (Or.inr rfl)) (hd:(x==("__debug__" : Str))=false:=by decide)
  (hcd:(x==("__classdict__" : Str))=false:=by decide):FPs X (.FormattedValue (.Name x p) (-1) none pos::es) (.inr i::ps):=⟨Eb (RN (pH hN hv hd hcd)) h.p⟩
theorem M9:JFs X [] [] i:=⟨Dj⟩
theorem Jp {p2:Pos}{s:Str} (h:JFs X sts ns (i+1)) (Yo:X.N[0]? = some s:=by rfl) (hN:X.N[i]? = some x:=by rfl) (hv0:Vis X.env.scope s:=by first | exact Or.inl rfl | exact Or.inr (Or.inl rfl) | exact Or.inr (Or.inr rfl)) (hv:Vis X.env.scope x:=by first | exact Or.inl rfl | exact Or.inr (Or.inl rfl) | exact Or.inr (Or.inr rfl))
  (hd0:(s==("__debug__" : Str))=false:=by decide) (R4:(s==("__classdict__" : Str))=false:=by decide) (hd:(x==("__debug__" : Str))=false:=by decide) (hcd:(x==("__classdict__" : Str))=false:=by decide)
  (hs:swapsWith (.Name x p2) (some (.Attribute (.Name s p) f pos')) pos.line X.env=pure false:=by rfl):JFs X (.Assign [.Attribute (.Name s p) f pos'] (.Name x p2) pos::sts) (f::ns) i:=
 ⟨ou (Mx (pH Yo hv0 hd0 R4) (pH hN hv hd hcd) hs) h.p⟩
end
noncomputable def okP (σ:L2.St):FP→Prop
 | .inl c=>c.length≤4000
 | .inr i=>∃ v,σ[i]? = some (some v)∧RZ v=true
theorem Jq {σ:L2.St}{H:Hp}{Q:VK} (hq:∀ y,Q (.str y) H):∀ (ps:List FP) (acc:Str),acc.length+4000 * ps.length≤sizeLine→(∀ p∈ps,okP σ p)→tJs ps acc σ H Q
 | [],acc,h,_=>⟨by simpa using h,hq acc⟩
 | p::ps,acc,h,ok=>by
  have hl:∀ y:Str,y.length≤4000→(acc++y).length≤sizeLine∧(acc++y).length+4000 * ps.length≤sizeLine:=λ y hy=>by
   have:(acc++y).length=acc.length+y.length:=PySem.Str.length_append _ _
   rw[List.length_cons] at h
   omega
  have go:∀ y:Str,y.length≤4000→tJs ps (acc++y) σ H Q:=λ y hy=>Jq hq ps _ (hl y hy).2 λ p hp=>ok p (List.mem_cons_of_mem _ hp)
  have o1:=ok p List.mem_cons_self
  cases p with
  | inl c=>exact⟨c,rfl,(hl c o1).1,go c o1⟩
  | inr i=>
   obtain⟨v,e,fv⟩:=o1
   refine⟨v,e,?_⟩
   cases v <;> first | (cases fv;done) | skip
   ·rename_i n
    have fv:(decide (n.natAbs.log2 < 1920)&&decide ((toString n:Str).length≤4000))=true:=fv
    rw[Bool.and_eq_true,decide_eq_true_eq,decide_eq_true_eq] at fv
    exact⟨fv.1,_,rfl,(hl _ fv.2).1,go _ fv.2⟩
   ·rename_i y
    have fv:decide (y.length≤4000)=true:=fv
    rw[decide_eq_true_eq] at fv
    exact⟨Nat.le_trans fv (by decide),_,rfl,(hl _ fv).1,go _ fv⟩
noncomputable def cH (H:Hp) (x dx C:Addr) (l:List (Str×V)):Hp:=upd (upd H dx (wR dx l)) x (iy x C (some dx))
theorem V1 {H:Hp}{x dx C:Addr}{l l':List (Str×V)} (ne:dx≠x):upd (upd (cH H x dx C l) dx (wR dx l')) x (iy x C (some dx))=cH H x dx C l':=by
 funext b
 unfold cH
 by_cases h:b=x
 ·subst h;rw[aP,aP]
 ·rw[aA h,aA h]
  by_cases h2:b=dx
  ·subst h2;rw[aP,aP]
  ·rw[aA h2,aA h2,aA h,aA h2]
theorem zA {f:Str}{y:V}:∀ {l:List (Str×V)},f ∉ l.map (·.1)→oA f y l=l++[(f,y)]
 | [],_=>rfl
 | (g,v)::l,h=>by
  have h1:g≠f:=λ z=>h (by rw[z];simp)
  show (if g=f then _ else _)=_
  rw[if_neg h1,zA λ z=>h (by rw[List.map_cons];exact List.mem_cons_of_mem _ z)];rfl
theorem Ph {K:W.Frag}{D:Ends}{σ:L2.St}{H:Hp}{x dx C:Addr} (hx:σ[0]? = some (some (.ref x))) (c:XCls K C) (ne:dx≠x):∀ (ns:List Str) (i:Nat) (ws:List V) (l:List (Str×V)),ns.length=ws.length→(∀ j v,ws[j]? = some v→σ[i+j]? = some (some v))→(l.map (·.1)++ns).Nodup→l.length+ns.length < 1000→(∀ f∈ns,NoAttr K C f) →
  D.nx σ (cH H x dx C (l++ns.zip ws))→tFs K ns i D σ (cH H x dx C l)
 | [],i,ws,l,_,_,_,_,_,q=>by
  rw[List.zip_nil_left,List.append_nil] at q;exact q
 | f::ns,i,[],l,e,_,_,_,_,q=>by cases e
 | f::ns,i,y::ws,l,e,hv,nd,hl,na,q=>by
  have hf:f ∉ l.map (·.1):=λ z=>by
   rw[List.nodup_append] at nd
   exact nd.2.2 f z f List.mem_cons_self rfl
  refine⟨y,by simpa using hv 0 y rfl,.ref x,hx,x,C,some dx,l,rfl,?_,⟨ne,?_⟩,c,na f List.mem_cons_self,by rw[List.length_cons] at hl;omega,λ dx' h' ne'=>?_⟩
  ·unfold cH;rw[aP]
  ·unfold cH;rw[aA ne,aP]
  ·rcases h' with h' | ⟨h',_⟩
   ·cases h'
    rw[V1 ne,zA hf]
    refine Ph hx c ne ns (i+1) ws (l++[(f,y)]) (by simpa using e) (λ j v h=>?_) ?_ (by simp at hl ⊢;omega) (λ g hg=>na g (List.mem_cons_of_mem _ hg)) ?_
    ·have:=hv (j+1) v (by simpa using h)
     rw[← this];congr 1;omega
    ·rw[List.map_append];simpa using nd
    ·rw[List.append_assoc];exact q
   ·cases h'
theorem Jr {K:W.Frag}{D:Ends}{σ:L2.St}{H:Hp}{x C:Addr}{f y}{ns:List Str}{ws:List V} (hx:σ[0]? = some (some (.ref x))) (c:XCls K C) (e:ns.length=ws.length) (hv:∀ j v,(y::ws)[j]? = some v→σ[1+j]? = some (some v)) (nd:(f::ns).Nodup) (hl:ns.length < 900) (na:∀ g∈f::ns,NoAttr K C g)
  (ex:H x=some (iy x C none)) (q:∀ dx,H dx=none→dx≠x→D.nx σ (cH H x dx C ((f::ns).zip (y::ws)))):tFs K (f::ns) 1 D σ H:=by
 refine⟨y,by simpa using hv 0 y rfl,.ref x,hx,x,C,none,[],rfl,ex,rfl,c,na f List.mem_cons_self,by decide,λ dx h' ne=>?_⟩
 rcases h' with h' | ⟨_,h'⟩
 ·cases h'
 ·refine Ph hx c ne ns 2 ws [(f,y)] e (λ j v h=>?_) (by simpa using nd) (by simp;omega) (λ g hg=>na g (List.mem_cons_of_mem _ hg)) (q dx h' ne)
  have:=hv (j+1) v (by simpa using h)
  rw[← this];congr 1;omega
theorem sX {N:List Str}{vs:List V}{i:Nat}{v:V} (h:vs[i]? = some v):(L2.start N vs)[i]? = some (some v):=by
 unfold L2.start
 have:=(List.getElem?_eq_some_iff.mp h).1
 rw[List.getElem?_append_left (by simpa using this),List.getElem?_map,h];rfl
abbrev V2 (K:W.Frag) (B:Addr) (fps:List FP) (ns:List Str):TS:=Qx (Og (Jf K B (tC (.ref B)) (Hl (G3 0) (Hl (tJs fps Str.empty) Vg)))) (tFs K ns 1)
theorem Yp {X:Cx}{b s:Str}{e e2:Expr}{es:List Expr}{sts:List Stmt}{fps:List FP}{ns:List Str}{B:Addr}{p p2 jp apos cpos pos:Pos}{pl:Sem Bool} (hB:XBase X.K B) (hm:X.mg b=some (.ref B)) (h1:FPs X (e::e2::es) fps) (h2:JFs X sts ns 1)
  (hg:Gl X b:=by rfl) (hdb:(b==("__debug__" : Str))=false:=by decide) (Yo:X.N[0]? = some s:=by rfl) (hv0:Vis X.env.scope s:=by first | exact Or.inl rfl | exact Or.inr (Or.inl rfl) | exact Or.inr (Or.inr rfl))
  (hd0:(s==("__debug__" : Str))=false:=by decide) (R4:(s==("__classdict__" : Str))=false:=by decide)
  (ht:eval (.Call (.Attribute (.Name b p) "__init__" apos) [.Name s p2,.JoinedStr (e::e2::es) jp] [] cpos) X.env=(do
   let ov ← eval (.Name b p) X.env
   standAt apos.atName
   let (f,first) ← holding [ov] (getMethod ov "__init__" pl)
   callWith cpos f first (backTo cpos (starEach [.Name s p2,.JoinedStr (e::e2::es) jp] X.env)) (backToKw cpos (keywordEach [] X.env))):=by rfl)
  (hst:starEach [.Name s p2,.JoinedStr (e::e2::es) jp] X.env=(false,eval (.Name s p2) X.env)::starEach [.JoinedStr (e::e2::es) jp] X.env:=by rfl) (hst2:starEach [.JoinedStr (e::e2::es) jp] X.env=(false,eval (.JoinedStr (e::e2::es) jp) X.env)::starEach [] X.env:=by rfl) (hpl:(backTo cpos (starEach [.JoinedStr (e::e2::es) jp] X.env)).any (·.1)=false:=by rfl)
  (hs:swapsWith (.Call (.Attribute (.Name b p) "__init__" apos) [.Name s p2,.JoinedStr (e::e2::es) jp] [] cpos) none pos.line X.env=pure false:=by rfl) :
  PSs X (.Expr (.Call (.Attribute (.Name b p) "__init__" apos) [.Name s p2,.JoinedStr (e::e2::es) jp] [] cpos) pos::sts) (V2 X.K B fps ns):=
 ou (Dl (Jh PySem.F.excBase_ValueError hB (Di hg hm rfl hdb) (wg (pH Yo hv0 hd0 R4) (wg (Mu h1.p) Ho hst2) hst) ht hst hpl) hs) h2.p
section
variable {P:Program}{w:World}{K:W.Frag}{mg:Str→Option Value}{base:Heap}
noncomputable def fpOk (n:Nat):FP→Bool
 | .inl c=>decide (c.length≤4000)
 | .inr i=>decide (1≤i)&&decide (i≤n)
theorem R5 {x qual:Str}{st:Stmt}{f:Addr}{fd:FuncData}{N ps:List Str}{k:Nat}{body:List Stmt}{scope:Scope}{C B:Addr}{ns:List Str}{fps:List FP} (F:Fun K x qual st f fd) (eb:defBody st=body) (es:defScope st=scope) (S:FnScope N ps scope)
  (c:XCls K C) (co:XObj K C) (na:∀ g∈ns,NoAttr K C g)
  (hJ:∀ (cdv:Value) (A:Around) (outer:List Env) (s:Shared) (H:Hp) (E:XK),PSs (nj CX0 P w K mg base N qual scope f cdv A outer s H E).nox body (V2 K B fps ns))
  (nd:ns.Nodup:=by decide) (hl:ns.length < 900:=by decide) (hne:0 < ns.length:=by decide) (hps:ps.length=ns.length+1:=by rfl) (hfp:fps.all (fpOk ns.length)=true:=by decide) (hfl:fps.length≤100:=by decide) :
  FnOk P w K mg base CX0 (k+1) f fd ps (spI C ns):=by
 subst eb es
 refine F.ok S (λ vs H Q E ⟨x,ws,e,hw,_⟩=>by rw[e,hps,List.length_cons,hw]) λ cdv A outer s H vs Q E hr h=>⟨_,hJ cdv A outer s H E,?_⟩
 obtain⟨x,ws,rfl,hw,hf,hx,q⟩:=h
 have h0:(L2.start N (.ref x::ws))[0]? = some (some (.ref x)):=sX rfl
 refine⟨rfl,.ref x,h0,Jq (λ y=>⟨x,C,none,.str y,rfl,hx,co,?fs⟩) fps _ ?sz λ p hp=>?op⟩
 case fs=>
  show tFs K ns 1 { nx:=λ _ H'=>Q .non H',rt:=Q } _ H
  cases ns with
  | nil=>cases hne
  | cons f ns=>
   cases ws with
   | nil=>cases hw
   | cons y ws=>exact Jr h0 c (by simpa using hw.symm) (λ j v h=>sX (by rw[Nat.add_comm];simpa using h)) nd (by rw[List.length_cons] at hl;omega) na hx λ dx h1 h2=>q dx h1 h2
 case sz=>
  show 0+_≤_
  have:sizeLine=16777216:=rfl
  omega
 case op=>
  have o:=List.all_eq_true.mp hfp p hp
  cases p with
  | inl c=>
   have o:decide (c.length≤4000)=true:=o
   rw[decide_eq_true_eq] at o
   exact o
  | inr i=>
   have o:(decide (1≤i)&&decide (i≤ns.length))=true:=o
   rw[Bool.and_eq_true,decide_eq_true_eq,decide_eq_true_eq] at o
   obtain⟨j,rfl⟩ : ∃ j,i=j+1:=⟨i - 1,by omega⟩
   have hj:j < ws.length:=by omega
   exact⟨ws[j],sX (by simp[hj]),List.all_eq_true.mp hf _ (List.getElem_mem hj)⟩
end
end L3
namespace L3
open PySem PySem.Spec PyProof.Rows L2
theorem zB {K:W.Frag}{α:List Addr}{H:Hp}{f:Str}:∀ (ns:List Str) (ds:List D) (vs:List V) (d:D),Reps K α H ds vs→(ns.zip ds).lookup f=some d→∃ v,(ns.zip vs).lookup f=some v∧Rep K α H d v
 | [],ds,vs,d,r,h=>by cases h
 | n::ns,[],vs,d,r,h=>by cases h
 | n::ns,x::ds,vs,d,r,h=>by
  unfold Reps at r
  obtain⟨v,ws,rfl,r1,r2⟩:=r
  rw[List.zip_cons_cons,List.lookup_cons] at h ⊢
  cases e:f==n with
  | true=>rw[e] at h;cases h;exact⟨v,rfl,r1⟩
  | false=>rw[e] at h;exact zB ns ds ws d r2 h
noncomputable def Js (K:W.Frag) (f:Str) (te:DE):DE:=λ δ M Q=>te δ M λ d M1=>match d with
 | .exc C ns ds=>XGet K C∧NoAttr K C f∧∃ d',(ns.zip ds).lookup f=some d'∧Q d' M1
 | _=>False
section
variable {X:Cx}{o:Expr}{te:DE}{f:Str}{pos:Pos}
theorem R6 (he:JE X o te) (hb:attributeBase o f X.env (eval o X.env)=eval o X.env:=by rfl):JE X (.Attribute o f pos) (Js X.K f te):=by
 refine⟨λ δ M P Q w q=>he.mono δ _ _ _ (λ d M1 q=>?_) q,PE.weak (MF he.p hb) λ σ H Q q=>?_⟩
 ·cases d <;> first | exact q.elim | skip
  obtain⟨q1,q2,d',q3,q4⟩:=q
  exact⟨q1,q2,d',q3,w _ _ q4⟩
 ·obtain⟨F,α,δ,M,r,q⟩:=q
  refine⟨F,α,δ,M,r,he.mono δ _ _ _ (λ d M1 q v α1 H1 e1 o1 r1=>?_) q⟩
  cases d <;> first | exact q.elim | skip
  obtain⟨q1,q2,d',q3,q4⟩:=q
  unfold Rep at r1
  obtain⟨a,vs,rfl,ha,l,rs⟩:=r1
  obtain⟨v,h1,h2⟩:=zB _ _ _ _ rs q3
  exact⟨a,_,_,v,rfl,bM _ _ ha,q1,q2,h1,q4 v α1 H1 e1 o1 h2⟩
noncomputable def Jt (K:W.Frag):GN:=λ ds M Q=>match ds with
 | [.exc C ns es,.cls B]=>∃ b,XGet K C∧W.kitOne K (.ref C) (.ref B)=some b∧Q (.bl b) M
 | _=>False
theorem Ju:JB X (.builtin "isinstance") (Jt X.K):=by
 refine⟨λ ds M P Q w q=>?_,λ pins s σ H xs us Q I rs h=>?_⟩
 ·match ds,q with
  | [.exc C ns es,.cls B],⟨b,e1,e2,q⟩=>exact⟨b,e1,e2,w _ _ q⟩
 ·obtain⟨F,α,M,ds,o,rr,h⟩:=h
  match ds,h,rr with
  | [.exc C ns es,.cls B],⟨b,e1,e2,q⟩,rr=>
   obtain⟨v,u,ev,r1,r2⟩:=sH rr
   subst ev
   unfold Rep at r1 r2
   subst r2
   obtain⟨a,vs,rfl,ha,l,rs'⟩:=r1
   obtain⟨u1,u2,rfl,q1,q2⟩:=vals2 rs
   obtain rfl:u1=Value.ref a:=q1
   obtain rfl:u2=Value.ref B:=q2
   exact MJ I (bM _ _ ha) e1 e2 λ tk=>⟨.bl b,H,I.tok tk,rfl,vK.now o q cD⟩
end
end L3
namespace K23
open PySem PySem.Spec PyProof.Rows L2 L3
noncomputable def top (i:Nat):Stmt:=PySem.Challenge.pw_farjump_k23_any_cells_read.main.body.getD i (.Pass ⟨0,0,0,0⟩)
section
variable {P:Program}{w:World}{K:W.Frag}{mg:Str→Option Value}{base:Heap}{k:Nat}
local macro_rules | `(tactic| walk_at "wl_") => `(tactic| (conv => lhs; whnf))
local macro_rules | `(tactic| walk_at "fsc_") => `(tactic| exact ⟨rfl, rfl, rfl, by decide +kernel, rfl, by decide +kernel, by decide +kernel⟩)
theorem Nb:∀ {us:List Value},us.length=1→∃ a,us=[a]
 | [a],_=>⟨a,rfl⟩
theorem Eh:∀ {us:List Value},us.length=2→∃ a b,us=[a,b]
 | [a,b],_=>⟨a,b,rfl⟩
theorem R7:∀ {us:List Value},us.length=3→∃ a b c,us=[a,b,c]
 | [a,b,c],_=>⟨a,b,c,rfl⟩
abbrev BF (s:Stmt):={ b:List Stmt // defBody s=b }
abbrev SF (s:Stmt):={ b:Scope // defScope s=b }
structure Zs (mg:Str→Option Value):Prop where
 divmod:mg "divmod"=none
 len:mg "len"=none
 tuple:mg "tuple"=none
 range:mg "range"=none
 int:mg "int"=none
 isinstance:mg "isinstance"=none
 list:mg "list"=none
 bool:mg "bool"=none
 e_GREATEST_NUMBER:∃ t,mg "GREATEST_NUMBER"=some (.int 2147483647 t)
 e_LAST_PLACE:∃ t,mg "LAST_PLACE"=some (.int 65535 t)
variable {f:Addr}{fd:FuncData}{aZ jK gF bY eH gG bD cV mK iW jL fM iY iZ jM bN bF iB jN jO jP bV jQ gH jc:GN}{bR jd mL:Addr}{cu je eO gJ:GPX}
theorem Nf:bootBuiltins "bool"=some (.type "bool"):=by decide +kernel
theorem Gj:bootBuiltins "divmod"=some (.builtin "divmod"):=by decide +kernel
theorem Jv:bootBuiltins "int"=some (.type "int"):=by decide +kernel
theorem dJ:bootBuiltins "isinstance"=some (.builtin "isinstance"):=by decide +kernel
theorem iC:bootBuiltins "len"=some (.builtin "len"):=by decide +kernel
theorem Ng:bootBuiltins "list"=some (.type "list"):=by decide +kernel
theorem zE:bootBuiltins "tuple"=some (.type "tuple"):=by decide +kernel
noncomputable def jR:D:=.tup [.tup [.str "set",.non,.int 16,.int 1,.int 4],.tup [.str "add",.non,.int 32,.int 2,.int 0],.tup [.str "take",.non,.int 48,.int 2,.int 0],.tup [.str "say",.non,.int 64,.int 1,.int 0],.tup [.str "ask",.non,.int 68,.int 1,.int 0],.tup [.str "jump",.bl true,.int 80,.int 0,.int 1],.tup [.str "jump",.bl false,.int 81,.int 0,.int 2],.tup [.str "call",.bl true,.int 82,.int 0,.int 1],.tup [.str "call",.bl false,.int 83,.int 0,.int 2],.tup [.str "jumpif",.bl true,.int 84,.int 1,.int 1],.tup [.str "jumpif",.bl false,.int 88,.int 1,.int 2],.tup [.str "back",.non,.int 98,.int 0,.int 0],.tup [.str "stop",.non,.int 99,.int 0,.int 0],.tup [.str "jumpby",.bl true,.int 100,.int 1,.int 1],.tup [.str "jumpby",.bl false,.int 104,.int 1,.int 2],.tup [.str "load",.bl true,.int 112,.int 2,.int 1],.tup [.str "load",.bl false,.int 128,.int 2,.int 2],.tup [.str "alike",.non,.int 144,.int 1,.int 4]]
noncomputable def cT:D:=.tup [.int 1,.int 4,.int 16]
abbrev dw:Stmt:=inClass (top 2) 0
noncomputable def b_NoCells_init:BF dw:=⟨_,by walk_at "wl_"⟩
noncomputable def c_NoCells_init:SF dw:=⟨_,by walk_at "wl_"⟩
theorem qO:FnScope ["self","place"] ["self","place"] c_NoCells_init.1:=by walk_at "fsc_"
theorem sY {B C:Addr} (F:Fun K "__init__" "NoCells.__init__" dw f fd) (hB:XBase K B) (m:mg "PartError"=some (.ref B)) (c:XCls K C) (co:XObj K C) (na:∀ g∈(["place"]:List Str),NoAttr K C g):FnOk P w K mg base CX0 (k+1) f fd ["self","place"] (spI C ["place"]):=
 R5 F b_NoCells_init.2 c_NoCells_init.2 qO c co na (λ cdv A outer s H E=>Yp (pl:=_) hB m (VR (V0 1 M8)) (Jp M9))
theorem qP (F:Fun K "__init__" "NoCells.__init__" dw f fd):Binds K fd ["self","place"] []:=F.binds λ _ _ _ _ _ _ us hl=>by obtain⟨_,_,rfl⟩:=Eh hl;rfl
abbrev fO:Stmt:=top 9
noncomputable def b_place_cells:BF fO:=⟨_,by walk_at "wl_"⟩
noncomputable def c_place_cells:SF fO:=⟨_,by walk_at "wl_"⟩
theorem sZ:FnScope ["place"] ["place"] c_place_cells.1:=by walk_at "fsc_"
noncomputable def m6  : DS:=(bh (dNew (kI (ak (aL (gI fu λ i j=>.int (i / j)) (ao 0) (dC (.int 256))) (ak (aL (gI (λ _ j=>0 < j) λ i j=>.int (i % j)) (ao 0) (dC (.int 256))) aB)))))
theorem uy (D:DefAt K mg "place_cells" fO)  : Has P w K mg base (k+1) "place_cells" ["place"] (lSp K (cl (cQ 1 1 m6))):=
 dH D b_place_cells.2 c_place_cells.2 sZ (λ _ _ _ _ _ _ us hl=>by obtain⟨_,rfl⟩:=Nb hl;rfl) λ f cdv A outer s H E hr=>by
 have hu:=cL hr
 exact(aD (aU (dU (dR (aj (aR eG (aG 0) aq) (aj (aR eF (aG 0) aq) au))))))
abbrev eU:Stmt:=top 10
noncomputable def b_number_cells:BF eU:=⟨_,by walk_at "wl_"⟩
noncomputable def c_number_cells:SF eU:=⟨_,by walk_at "wl_"⟩
theorem sc_number_cells:FnScope ["number","above","below"] ["number"] c_number_cells.1:=by walk_at "fsc_"
noncomputable def lR (aZ:GN):DS:=(aY (ur (bT Ea (ak (aL (gI (λ _ j=>0 < j) λ i j=>.int (i % j)) (ao 0) (aL (gI uh λ i j=>.int (i ^ j.toNat)) (dC (.int 2)) (dC (.int 32)))) (ak (aL (gI uh λ i j=>.int (i ^ j.toNat)) (dC (.int 2)) (dC (.int 16))) aB))) (kE 2 (bI (aM 1) (bI (aM 2) kj))))
 (bh (aL aN (bT aZ (ak (ao 1) aB)) (bT aZ (ak (ao 2) aB)))))
theorem tu (D:DefAt K mg "number_cells" eU) (Z:Zs mg) (h_place_cells:HasD P w K mg base k "place_cells" ["place"] aZ):Has P w K mg base (k+1) "number_cells" ["number"] (lSp K (cl (cQ 3 1 (lR aZ)))):=
 dH D b_number_cells.2 c_number_cells.2 sc_number_cells (λ _ _ _ _ _ _ us hl=>by obtain⟨_,rfl⟩:=Nb hl;rfl) λ f cdv A outer s H E hr=>by
 have hu:=cL hr
 exact(aH (nD (yR FT Z.divmod Gj (aj (aR eF (aG 0) (aR wH aq aq)) (aj (aR wH aq aq) au))) (lu (bf (aV 1 sc_number_cells.nd) (bf (aV 2 sc_number_cells.nd) iU))))
   (aD (aU (aR aO (bZ h_place_cells hr (aj (aG 1) au)) (bZ h_place_cells hr (aj (aG 2) au))))))
abbrev oR:Stmt:=top 11
noncomputable def b_joined:BF oR:=⟨_,by walk_at "wl_"⟩
noncomputable def c_joined:SF oR:=⟨_,by walk_at "wl_"⟩
theorem sc_joined:FnScope ["lists","cells","one"] ["lists"] c_joined.1:=by walk_at "fsc_"
noncomputable def zF  : DS:=(aY (bW 1 (Ie (kI aB)))
 (aY (lB (iV (ao 0)) (aM 2) (iT (zc "list" oK (ao 1) (ak (ao 2) aB))))
 (bh (ao 1))))
theorem Jw (D:DefAt K mg "joined" oR)  : Has P w K mg base (k+1) "joined" ["lists"] (lSp K (cl (cQ 3 1 zF))):=
 dH D b_joined.2 c_joined.2 sc_joined (λ _ _ _ _ _ _ us hl=>by obtain⟨_,rfl⟩:=Nb hl;rfl) λ f cdv A outer s H E hr=>by
 have hu:=cL hr
 exact(aH (bH 1 sc_joined.nd (DN (dR au)))
   (aH (dX (fD (aG 0)) (aV 2 sc_joined.nd) (aD (mC (zf FW PySem.F.plainAttrs_list PySem.F.slot_list_extend PySem.F.type_list_extend (aG 1) (aj (aG 2) au)))))
   (aD (aU (aG 1)))))
abbrev gK:Stmt:=top 12
noncomputable def b_box_number:BF gK:=⟨_,by walk_at "wl_"⟩
noncomputable def c_box_number:SF gK:=⟨_,by walk_at "wl_"⟩
theorem sc_box_number:FnScope ["boxes","number","box"] ["boxes"] c_box_number.1:=by walk_at "fsc_"
noncomputable def oU  : DS:=(aY (bW 1 (dC (.int 0)))
 (aY (lB (iV (ao 0)) (aM 2) (bW 1 (aL aN (aL kW (dC (.int 4)) (ao 1)) (ao 2))))
 (bh (ao 1))))
theorem wX (D:DefAt K mg "box_number" gK)  : Has P w K mg base (k+1) "box_number" ["boxes"] (lSp K (cl (cQ 3 1 oU))):=
 dH D b_box_number.2 c_box_number.2 sc_box_number (λ _ _ _ _ _ _ us hl=>by obtain⟨_,rfl⟩:=Nb hl;rfl) λ f cdv A outer s H E hr=>by
 have hu:=cL hr
 exact(aH (bH 1 sc_box_number.nd aq)
   (aH (dX (fD (aG 0)) (aV 2 sc_box_number.nd) (aD (bH 1 sc_box_number.nd (aR aO (aR fG aq (aG 1)) (aG 2)))))
   (aD (aU (aG 1)))))
abbrev jT:Stmt:=top 13
noncomputable def b_code_for:BF jT:=⟨_,by walk_at "wl_"⟩
noncomputable def c_code_for:SF jT:=⟨_,by walk_at "wl_"⟩
theorem sc_code_for:FnScope ["kind","near","code"] ["kind","near"] c_code_for.1:=by walk_at "fsc_"
noncomputable def tD  : DS:=(aY (lB (iV (dC jR)) (aM 2) (bC (rR (aJ (aL jy (aL c7 (ao 2) (dC (.int 0))) (ao 0))) (aJ (aL jy (aL c7 (ao 2) (dC (.int 1))) (ao 1)))) (bh (ao 2)) aW))
 (bh (dC .non)))
theorem Cp (D:DefAt K mg "code_for" jT) (wY:∃ u,mg "CODES"=some u∧conK K jR u):Has P w K mg base (k+1) "code_for" ["kind","near"] (lSp K (cl (cQ 3 2 tD))):=
 dH D b_code_for.2 c_code_for.2 sc_code_for (λ _ _ _ _ _ _ us hl=>by obtain⟨_,_,rfl⟩:=Eh hl;rfl) λ f cdv A outer s H E hr=>by
 have hu:=cL hr
 exact(aH (dX (fD (wN wY)) (aV 2 sc_code_for.nd) (aD (bU (oH (wB (aX (dG hr.units) (cU (jx hu) (aG 2) aq) (aG 0)) (qZ (aX (dG hr.units) (cU (jx hu) (aG 2) aq) (aG 1))))) (aD (aU (aG 2))) bw)))
   (aD (aU iR)))
abbrev gM:Stmt:=top 14
noncomputable def b_code_cells:BF gM:=⟨_,by walk_at "wl_"⟩
noncomputable def c_code_cells:SF gM:=⟨_,by walk_at "wl_"⟩
theorem sc_code_cells:FnScope ["row","at","near","kind","short","first","boxes","more","ahead","told"] ["row","at","near"] c_code_cells.1:=by walk_at "fsc_"
noncomputable def oV (jK:GN) (gF:GN) (bY:GN) (eH:GN) (aZ:GN):DS:=(aY (ur (bT jK (ak (aL c7 (ao 0) (dC (.int 0))) (ak (ao 2) aB))) (kE 5 (bI (aM 3) (bI (aM 4) (bI (aM 5) (bI (aM 6) (bI (aM 7) kj)))))))
 (aY (bW 8 (dNew (kI (ak (aL aN (ao 5) (bT gF (ak (Ry (ao 0) (lN (dC (.int 1))) (lN (aL aN (dC (.int 1)) (ao 6)))) aB))) aB))))
 (aY (bW 9 (Ry (ao 0) (lN (aL aN (dC (.int 1)) (ao 6))) wL))
 (aY (bC (aJ (aL jy (ao 3) (dC (.str "set")))) (bh (aL aN (ao 8) (bT bY (ak (aL c7 (ao 9) (dC (.int 0))) aB)))) aW)
 (aY (bC (aJ (aL wO (ao 4) (dC (.bl true)))) (bh (aL aN (ao 8) (dNew (kI (ak (aL (gI (λ _ j=>0 < j) λ i j=>.int (i % j)) (aL (kJ λ i j=>.int (i - j)) (aL c7 (ao 9) (dC (.int 0))) (aL aN (ao 1) (dC (.int 2)))) (dC (.int 256))) aB))))) aW)
 (bh (aL aN (ao 8) (bT eH (ak (dNew (qz [none] (iV (ao 9)) (aM 0) uw (bT aZ (ak (ao 0) aB)))) aB)))))))))
theorem wZ (D:DefAt K mg "code_cells" gM) (h_code_for:HasD P w K mg base k "code_for" ["kind","near"] jK) (h_box_number:HasD P w K mg base k "box_number" ["boxes"] gF) (h_number_cells:HasD P w K mg base k "number_cells" ["number"] bY) (h_joined:HasD P w K mg base k "joined" ["lists"] eH) (h_place_cells:HasD P w K mg base k "place_cells" ["place"] aZ):Has P w K mg base (k+1) "code_cells" ["row","at","near"] (lSp K (cl (cQ 10 3 (oV jK gF bY eH aZ)))):=
 dH D b_code_cells.2 c_code_cells.2 sc_code_cells (λ _ _ _ _ _ _ us hl=>by obtain⟨_,_,_,rfl⟩:=R7 hl;rfl) λ f cdv A outer s H E hr=>by
 have hu:=cL hr
 exact(aH (nD (bZ h_code_for hr (aj (cU (jx hu) (aG 0) aq) (aj (aG 2) au))) (lu (bf (aV 3 sc_code_cells.nd) (bf (aV 4 sc_code_cells.nd) (bf (aV 5 sc_code_cells.nd) (bf (aV 6 sc_code_cells.nd) (bf (aV 7 sc_code_cells.nd) iU)))))))
   (aH (bH 8 sc_code_cells.nd (dU (dR (aj (aR aO (aG 5) (bZ h_box_number hr (aj (Io (aG 0) (fY aq) (fY (aR aO aq (aG 6)))) au))) au))))
   (aH (bH 9 sc_code_cells.nd (Io (aG 0) (fY (aR aO aq (aG 6))) yW))
   (aH (bU (aX (dG hr.units) (aG 3) cZ) (aD (aU (aR aO (aG 8) (bZ h_number_cells hr (aj (cU (jx hu) (aG 9) aq) au))))) bw)
   (aH (bU (aX sU (aG 4) uq) (aD (aU (aR aO (aG 8) (dU (dR (aj (aR eF (aR ig (cU (jx hu) (aG 9) aq) (aR aO (aG 1) aq)) aq) au)))))) bw)
   (aD (aU (aR aO (aG 8) (bZ h_joined hr (aj (dU (mG (N:=["place"]) (fr:=[none]) (CompOk.of (N₀:=["row","at","near","kind","short","first","boxes","more","ahead","told"]) (oscope:=c_code_cells.1) (by decide +kernel)) (fD (aG 9)) mF (λ _ _ _ _ _=>(aV 0 (show List.Nodup (["place"]:List Str) by decide +kernel))) (λ _ _ _ _ _=>mD) (λ _ _ _ _ _=>(bZ h_place_cells hr (aj (aG 0) au))))) au))))))))))
abbrev jU:Stmt:=top 15
noncomputable def b_cells_of:BF jU:=⟨_,by walk_at "wl_"⟩
noncomputable def c_cells_of:SF jU:=⟨_,by walk_at "wl_"⟩
theorem zG:FnScope ["row","at","near"] ["row","at","near"] c_cells_of.1:=by walk_at "fsc_"
noncomputable def tE (aZ:GN) (eH:GN) (bY:GN) (gG:GN):DS:=(aY (bC (aJ (aL jy (aL c7 (ao 0) (dC (.int 0))) (dC (.str "numbers")))) (bh (aL aN (bT aZ (ak (bT kY (ak (aL c7 (ao 0) (dC (.int 1))) aB)) aB)) (bT eH (ak (dNew (qz [none] (iV (aL c7 (ao 0) (dC (.int 1)))) (aM 0) uw (bT bY (ak (ao 0) aB)))) aB)))) aW)
 (aY (bC (aJ (aL jy (aL c7 (ao 0) (dC (.int 0))) (dC (.str "table")))) (bh (aL aN (bT aZ (ak (bT kY (ak (aL c7 (ao 0) (dC (.int 1))) aB)) aB)) (bT eH (ak (dNew (qz [none] (iV (aL c7 (ao 0) (dC (.int 1)))) (aM 0) uw (bT aZ (ak (ao 0) aB)))) aB)))) aW)
 (bh (bT gG (ak (ao 0) (ak (ao 1) (ak (ao 2) aB)))))))
theorem Cr (D:DefAt K mg "cells_of" jU) (Z:Zs mg) (h_place_cells:HasD P w K mg base k "place_cells" ["place"] aZ) (h_joined:HasD P w K mg base k "joined" ["lists"] eH) (h_number_cells:HasD P w K mg base k "number_cells" ["number"] bY) (h_code_cells:HasD P w K mg base k "code_cells" ["row","at","near"] gG):Has P w K mg base (k+1) "cells_of" ["row","at","near"] (lSp K (cl (cQ 3 3 (tE aZ eH bY gG)))):=
 dH D b_cells_of.2 c_cells_of.2 zG (λ _ _ _ _ _ _ us hl=>by obtain⟨_,_,_,rfl⟩:=R7 hl;rfl) λ f cdv A outer s H E hr=>by
 have hu:=cL hr
 exact(aH (bU (aX (dG hr.units) (cU (jx hu) (aG 0) aq) cZ) (aD (aU (aR aO (bZ h_place_cells hr (aj (yR iu Z.len iC (aj (cU (jx hu) (aG 0) aq) au)) au)) (bZ h_joined hr (aj (dU (mG (N:=["number"]) (fr:=[none]) (CompOk.of (N₀:=["row","at","near"]) (oscope:=c_cells_of.1) (by decide +kernel)) (fD (cU (jx hu) (aG 0) aq)) mF (λ _ _ _ _ _=>(aV 0 (show List.Nodup (["number"]:List Str) by decide +kernel))) (λ _ _ _ _ _=>mD) (λ _ _ _ _ _=>(bZ h_number_cells hr (aj (aG 0) au))))) au))))) bw)
   (aH (bU (aX (dG hr.units) (cU (jx hu) (aG 0) aq) cZ) (aD (aU (aR aO (bZ h_place_cells hr (aj (yR iu Z.len iC (aj (cU (jx hu) (aG 0) aq) au)) au)) (bZ h_joined hr (aj (dU (mG (N:=["place"]) (fr:=[none]) (CompOk.of (N₀:=["row","at","near"]) (oscope:=c_cells_of.1) (by decide +kernel)) (fD (cU (jx hu) (aG 0) aq)) mF (λ _ _ _ _ _=>(aV 0 (show List.Nodup (["place"]:List Str) by decide +kernel))) (λ _ _ _ _ _=>mD) (λ _ _ _ _ _=>(bZ h_place_cells hr (aj (aG 0) au))))) au))))) bw)
   (aD (aU (bZ h_code_cells hr (aj (aG 0) (aj (aG 1) (aj (aG 2) au))))))))
abbrev jV:Stmt:=top 16
noncomputable def b_place_at:BF jV:=⟨_,by walk_at "wl_"⟩
noncomputable def c_place_at:SF jV:=⟨_,by walk_at "wl_"⟩
theorem zH:FnScope ["cells","at"] ["cells","at"] c_place_at.1:=by walk_at "fsc_"
noncomputable def tG  : DS:=(bh (aL aN (aL kW (dC (.int 256)) (aL c7 (ao 0) (ao 1))) (aL c7 (ao 0) (aL aN (ao 1) (dC (.int 1))))))
theorem Cu (D:DefAt K mg "place_at" jV)  : Has P w K mg base (k+1) "place_at" ["cells","at"] (lSp K (cl (cQ 2 2 tG))):=
 dH D b_place_at.2 c_place_at.2 zH (λ _ _ _ _ _ _ us hl=>by obtain⟨_,_,rfl⟩:=Eh hl;rfl) λ f cdv A outer s H E hr=>by
 have hu:=cL hr
 exact(aD (aU (aR aO (aR fG aq (cU (jx hu) (aG 0) (aG 1))) (cU (jx hu) (aG 0) (aR aO (aG 1) aq)))))
abbrev jf:Stmt:=top 17
noncomputable def b_number_at:BF jf:=⟨_,by walk_at "wl_"⟩
noncomputable def c_number_at:SF jf:=⟨_,by walk_at "wl_"⟩
theorem sc_number_at:FnScope ["cells","at","number"] ["cells","at"] c_number_at.1:=by walk_at "fsc_"
noncomputable def qC (bD:GN):DS:=(aY (bW 2 (aL aN (aL kW (aL (gI uh λ i j=>.int (i ^ j.toNat)) (dC (.int 2)) (dC (.int 16))) (bT bD (ak (ao 0) (ak (ao 1) aB)))) (bT bD (ak (ao 0) (ak (aL aN (ao 1) (dC (.int 2))) aB)))))
 (bh (W7 (aJ (aL pQ (ao 2) (dC (.int 2147483647)))) (ao 2) (aL (kJ λ i j=>.int (i - j)) (ao 2) (aL (gI uh λ i j=>.int (i ^ j.toNat)) (dC (.int 2)) (dC (.int 32)))))))
theorem zJ (D:DefAt K mg "number_at" jf) (Z:Zs mg) (h_place_at:HasD P w K mg base k "place_at" ["cells","at"] bD):Has P w K mg base (k+1) "number_at" ["cells","at"] (lSp K (cl (cQ 3 2 (qC bD)))):=
 dH D b_number_at.2 c_number_at.2 sc_number_at (λ _ _ _ _ _ _ us hl=>by obtain⟨_,_,rfl⟩:=Eh hl;rfl) λ f cdv A outer s H E hr=>by
 have hu:=cL hr
 exact(aH (bH 2 sc_number_at.nd (aR aO (aR fG (aR wH aq aq) (bZ h_place_at hr (aj (aG 0) (aj (aG 1) au)))) (bZ h_place_at hr (aj (aG 0) (aj (aR aO (aG 1) aq) au)))))
   (aD (aU (Vu (aX lJ (aG 2) (Dw Z.e_GREATEST_NUMBER)) (aG 2) (aR ig (aG 2) (aR wH aq aq))))))
abbrev mO:Stmt:=top 18
noncomputable def b_step_at:BF mO:=⟨_,by walk_at "wl_"⟩
noncomputable def c_step_at:SF mO:=⟨_,by walk_at "wl_"⟩
theorem Cv:FnScope ["cells","at"] ["cells","at"] c_step_at.1:=by walk_at "fsc_"
noncomputable def vQ  : DS:=(bh (W7 (aJ (aL pQ (aL c7 (ao 0) (ao 1)) (dC (.int 127)))) (aL c7 (ao 0) (ao 1)) (aL (kJ λ i j=>.int (i - j)) (aL c7 (ao 0) (ao 1)) (dC (.int 256)))))
theorem Gk (D:DefAt K mg "step_at" mO)  : Has P w K mg base (k+1) "step_at" ["cells","at"] (lSp K (cl (cQ 2 2 vQ))):=
 dH D b_step_at.2 c_step_at.2 Cv (λ _ _ _ _ _ _ us hl=>by obtain⟨_,_,rfl⟩:=Eh hl;rfl) λ f cdv A outer s H E hr=>by
 have hu:=cL hr
 exact(aD (aU (Vu (aX lJ (cU (jx hu) (aG 0) (aG 1)) aq) (cU (jx hu) (aG 0) (aG 1)) (aR ig (cU (jx hu) (aG 0) (aG 1)) aq))))
abbrev jW:Stmt:=top 19
noncomputable def b_boxes_in:BF jW:=⟨_,by walk_at "wl_"⟩
noncomputable def c_boxes_in:SF jW:=⟨_,by walk_at "wl_"⟩
theorem zK:FnScope ["number","count"] ["number","count"] c_boxes_in.1:=by walk_at "fsc_"
noncomputable def tH  : DS:=(aY (bC (aJ (aL jy (ao 1) (dC (.int 0)))) (bh (dTup aB)) aW)
 (aY (bC (aJ (aL jy (ao 1) (dC (.int 1)))) (bh (dTup (ak (ao 0) aB))) aW)
 (bh (dTup (ak (aL (gI fu λ i j=>.int (i / j)) (ao 0) (dC (.int 4))) (ak (aL (gI (λ _ j=>0 < j) λ i j=>.int (i % j)) (ao 0) (dC (.int 4))) aB))))))
theorem Cw (D:DefAt K mg "boxes_in" jW)  : Has P w K mg base (k+1) "boxes_in" ["number","count"] (lSp K (cl (cQ 2 2 tH))):=
 dH D b_boxes_in.2 c_boxes_in.2 zK (λ _ _ _ _ _ _ us hl=>by obtain⟨_,_,rfl⟩:=Eh hl;rfl) λ f cdv A outer s H E hr=>by
 have hu:=cL hr
 exact(aH (bU (aX (dG hr.units) (aG 1) aq) (aD (aU (bQ au))) bw)
   (aH (bU (aX (dG hr.units) (aG 1) aq) (aD (aU (bQ (aj (aG 0) au)))) bw)
   (aD (aU (bQ (aj (aR eG (aG 0) aq) (aj (aR eF (aG 0) aq) au)))))))
abbrev jg:Stmt:=top 20
noncomputable def b_code_from:BF jg:=⟨_,by walk_at "wl_"⟩
noncomputable def c_code_from:SF jg:=⟨_,by walk_at "wl_"⟩
theorem sc_code_from:FnScope ["cell","code"] ["cell"] c_code_from.1:=by walk_at "fsc_"
noncomputable def qD  : DS:=(aY (lB (iV (dC jR)) (aM 1) (bC (aJ (cR pQ qM (dC (.int 0)) (aL (kJ λ i j=>.int (i - j)) (ao 0) (aL c7 (ao 1) (dC (.int 2)))) (aL c7 (dC cT) (aL c7 (ao 1) (dC (.int 3)))))) (bh (ao 1)) aW))
 (bh (dC .non)))
theorem zL (D:DefAt K mg "code_from" jg) (wY:∃ u,mg "CODES"=some u∧conK K jR u) (uz:∃ u,mg "FIRST_CELLS"=some u∧conK K cT u):Has P w K mg base (k+1) "code_from" ["cell"] (lSp K (cl (cQ 2 1 qD))):=
 dH D b_code_from.2 c_code_from.2 sc_code_from (λ _ _ _ _ _ _ us hl=>by obtain⟨_,rfl⟩:=Nb hl;rfl) λ f cdv A outer s H E hr=>by
 have hu:=cL hr
 exact(aH (dX (fD (wN wY)) (aV 1 sc_code_from.nd) (aD (bU (fV lJ lH aq (aR ig (aG 0) (cU (jx hu) (aG 1) aq)) (cU (jx hu) (wN uz) (cU (jx hu) (aG 1) aq))) (aD (aU (aG 1))) bw)))
   (aD (aU iR)))
abbrev fP:Stmt:=top 21
noncomputable def b_told_behind:BF fP:=⟨_,by walk_at "wl_"⟩
noncomputable def c_told_behind:SF fP:=⟨_,by walk_at "wl_"⟩
theorem sc_told_behind:FnScope ["code","cells","at","kind","short","first","boxes","more"] ["code","cells","at"] c_told_behind.1:=by walk_at "fsc_"
noncomputable def m8 (cV:GN) (mK:GN) (bD:GN):DS:=(aY (ur (ao 0) (kE 5 (bI (aM 3) (bI (aM 4) (bI (aM 5) (bI (aM 6) (bI (aM 7) kj)))))))
 (aY (bC (aJ (aL jy (ao 3) (dC (.str "set")))) (bh (dTup (ak (bT cV (ak (ao 1) (ak (aL aN (ao 2) (dC (.int 1))) aB))) aB))) aW)
 (aY (bC (aJ (aL wO (ao 4) (dC (.bl true)))) (bh (dTup (ak (aL aN (aL aN (ao 2) (dC (.int 2))) (bT mK (ak (ao 1) (ak (aL aN (ao 2) (dC (.int 1))) aB)))) aB))) aW)
 (bh (bT Ir (ak (dNew (qz [none,some 1] (wQ (ak (aL aN (ao 2) (dC (.int 1))) (ak (aL aN (aL aN (ao 2) (dC (.int 1))) (ao 7)) (ak (dC (.int 2)) aB)))) (aM 0) uw (bT bD (ak (ao 1) (ak (ao 0) aB))))) aB))))))
theorem uD (D:DefAt K mg "told_behind" fP) (Z:Zs mg) (h_number_at:HasD P w K mg base k "number_at" ["cells","at"] cV) (h_step_at:HasD P w K mg base k "step_at" ["cells","at"] mK) (h_place_at:HasD P w K mg base k "place_at" ["cells","at"] bD):Has P w K mg base (k+1) "told_behind" ["code","cells","at"] (lSp K (cl (cQ 8 3 (m8 cV mK bD)))):=
 dH D b_told_behind.2 c_told_behind.2 sc_told_behind (λ _ _ _ _ _ _ us hl=>by obtain⟨_,_,_,rfl⟩:=R7 hl;rfl) λ f cdv A outer s H E hr=>by
 have hu:=cL hr
 exact(aH (nD (aG 0) (lu (bf (aV 3 sc_told_behind.nd) (bf (aV 4 sc_told_behind.nd) (bf (aV 5 sc_told_behind.nd) (bf (aV 6 sc_told_behind.nd) (bf (aV 7 sc_told_behind.nd) iU)))))))
   (aH (bU (aX (dG hr.units) (aG 3) cZ) (aD (aU (bQ (aj (bZ h_number_at hr (aj (aG 1) (aj (aR aO (aG 2) aq) au))) au)))) bw)
   (aH (bU (aX sU (aG 4) uq) (aD (aU (bQ (aj (aR aO (aR aO (aG 2) aq) (bZ h_step_at hr (aj (aG 1) (aj (aR aO (aG 2) aq) au)))) au)))) bw)
   (aD (aU (Zi Iu Z.tuple zE (aj (dU (mG (N:=["place","cells"]) (fr:=[none,some 1]) (CompOk.of (N₀:=["code","cells","at","kind","short","first","boxes","more"]) (oscope:=c_told_behind.1) (by decide +kernel)) (pU (aj (aR aO (aG 2) aq) (aj (aR aO (aR aO (aG 2) aq) (aG 7)) (aj aq au))) Z.range) mF (λ _ _ _ _ _=>(aV 0 (show List.Nodup (["place","cells"]:List Str) by decide +kernel))) (λ _ _ _ _ _=>mD) (λ _ _ _ _ _=>(bZ h_place_at hr (aj (aG 1) (aj (aG 0) au)))))) au)))))))
abbrev jh:Stmt:=top 22
noncomputable def b_read_code:BF jh:=⟨_,by walk_at "wl_"⟩
noncomputable def c_read_code:SF jh:=⟨_,by walk_at "wl_"⟩
theorem sc_read_code:FnScope ["cells","at","code","kind","near","first","boxes","more","behind","row"] ["cells","at"] c_read_code.1:=by walk_at "fsc_"
noncomputable def fZ (bR:Addr) (iW:GN) (jL:GN) (fM:GN):XB:=(gD (Bk (gC (aJ (cR pQ qM (dC (.int 0)) (ao 1) (bT kY (ak (ao 0) aB))))) (iz bR ["place"] (ak (ao 1) aB)) (λ _=>aW))
 (gD (λ _=>(bW 2 (bT iW (ak (aL c7 (ao 0) (ao 1)) aB))))
 (gD (Bk (aJ (aL Vz (ao 2) (dC .non))) (iz bR ["place"] (ak (ao 1) aB)) (λ _=>aW))
 (gD (λ _=>(ur (ao 2) (kE 5 (bI (aM 3) (bI (aM 4) (bI (aM 5) (bI (aM 6) (bI (aM 7) kj))))))))
 (gD (λ _=>(bW 8 (aL aN (aL aN (ao 1) (dC (.int 1))) (ao 7))))
 (gD (Bk (aJ (aL (kJ λ i j=>.bl (decide (j < i))) (ao 8) (bT kY (ak (ao 0) aB)))) (iz bR ["place"] (ak (ao 1) aB)) (λ _=>aW))
 (gD (λ _=>(bW 9 (aL aN (aL aN (dTup (ak (ao 3) aB)) (bT jL (ak (aL (kJ λ i j=>.int (i - j)) (aL c7 (ao 0) (ao 1)) (ao 5)) (ak (ao 6) aB)))) (bT fM (ak (ao 2) (ak (ao 0) (ak (ao 1) aB)))))))
 (gD (Bk (rR (aJ (aL wO (ao 4) (dC (.bl true)))) (gC (aJ (cR pQ pQ (dC (.int 0)) (aL c7 (ao 9) (Ip (dC (.int 1)))) (dC (.int 65535)))))) (iz bR ["place"] (ak (ao 1) aB)) (λ _=>aW))
 (λ _=>(bh (dTup (ak (ao 9) (ak (ao 4) (ak (ao 8) aB))))))))))))))
theorem zM (D:DefAt K mg "read_code" jh) (Z:Zs mg) (fH:RaiseOk P w K mg base k "NoCells" bR ["place"]) (h_code_from:HasD P w K mg base (k+1) "code_from" ["cell"] iW) (h_boxes_in:HasD P w K mg base (k+1) "boxes_in" ["number","count"] jL) (h_told_behind:HasD P w K mg base (k+1) "told_behind" ["code","cells","at"] fM):HasX P w K mg base ((k+1)+1) "read_code" ["cells","at"] (lSpX K (nQ 10 2 (fZ bR iW jL fM))):=
 Ef D b_read_code.2 c_read_code.2 sc_read_code (λ _ _ _ _ _ _ us hl=>by obtain⟨_,_,rfl⟩:=Eh hl;rfl) λ f cdv A outer s H E hr=>by
 have hu:=cL hr
 exact(cI (lQ (nC (fV lJ lH aq (aG 1) (yR iu Z.len iC (aj (aG 0) au)))) (dD (gY (ns:=["place"]) fH hr (aj (aG 1) au))) (JB'.tox bw))
   (cI (JS.tox (bH 2 sc_read_code.nd (bZ h_code_from hr (aj (cU (jx hu) (aG 0) (aG 1)) au))))
   (cI (lQ (aX O2 (aG 2) iR) (dD (gY (ns:=["place"]) fH hr (aj (aG 1) au))) (JB'.tox bw))
   (cI (JS.tox (nD (aG 2) (lu (bf (aV 3 sc_read_code.nd) (bf (aV 4 sc_read_code.nd) (bf (aV 5 sc_read_code.nd) (bf (aV 6 sc_read_code.nd) (bf (aV 7 sc_read_code.nd) iU))))))))
   (cI (JS.tox (bH 8 sc_read_code.nd (aR aO (aR aO (aG 1) aq) (aG 7))))
   (cI (lQ (aX vJ (aG 8) (yR iu Z.len iC (aj (aG 0) au))) (dD (gY (ns:=["place"]) fH hr (aj (aG 1) au))) (JB'.tox bw))
   (cI (JS.tox (bH 9 sc_read_code.nd (aR aO (aR aO (bQ (aj (aG 3) au)) (bZ h_boxes_in hr (aj (aR ig (cU (jx hu) (aG 0) (aG 1)) (aG 5)) (aj (aG 6) au)))) (bZ h_told_behind hr (aj (aG 2) (aj (aG 0) (aj (aG 1) au)))))))
   (cI (lQ (oH (wB (aX sU (aG 4) uq) (qZ (nC (fV lJ lJ aq (cU (jx hu) (aG 9) (O7 aq)) (Dw Z.e_LAST_PLACE)))))) (dD (gY (ns:=["place"]) fH hr (aj (aG 1) au))) (JB'.tox bw))
   (dD (JS.tox (aU (bQ (aj (aG 9) (aj (aG 4) (aj (aG 8) au)))))))))))))))
abbrev fQ:Stmt:=top 23
noncomputable def b_behind_list:BF fQ:=⟨_,by walk_at "wl_"⟩
noncomputable def c_behind_list:SF fQ:=⟨_,by walk_at "wl_"⟩
theorem sc_behind_list:FnScope ["cells","at","cells_for_one","behind"] ["cells","at","cells_for_one"] c_behind_list.1:=by walk_at "fsc_"
noncomputable def m9 (bR:Addr) (bD:GN):XB:=(gD (Bk (GX (aJ (aL qM (ao 1) (dC (.int 0)))) (aJ (aL (kJ λ i j=>.bl (decide (j < i))) (aL aN (ao 1) (dC (.int 2))) (bT kY (ak (ao 0) aB))))) (iz bR ["place"] (ak (ao 1) aB)) (λ _=>aW))
 (gD (λ _=>(bW 3 (aL aN (aL aN (ao 1) (dC (.int 2))) (aL kW (ao 2) (bT bD (ak (ao 0) (ak (ao 1) aB)))))))
 (gD (Bk (aJ (aL (kJ λ i j=>.bl (decide (j < i))) (ao 3) (bT kY (ak (ao 0) aB)))) (iz bR ["place"] (ak (ao 1) aB)) (λ _=>aW))
 (λ _=>(bh (ao 3))))))
theorem uE (D:DefAt K mg "behind_list" fQ) (Z:Zs mg) (fH:RaiseOk P w K mg base k "NoCells" bR ["place"]) (h_place_at:HasD P w K mg base (k+1) "place_at" ["cells","at"] bD):HasX P w K mg base ((k+1)+1) "behind_list" ["cells","at","cells_for_one"] (lSpX K (nQ 4 3 (m9 bR bD))):=
 Ef D b_behind_list.2 c_behind_list.2 sc_behind_list (λ _ _ _ _ _ _ us hl=>by obtain⟨_,_,_,rfl⟩:=R7 hl;rfl) λ f cdv A outer s H E hr=>by
 have hu:=cL hr
 exact(cI (lQ (oH (vH (aX lH (aG 1) aq) (rT (aX vJ (aR aO (aG 1) aq) (yR iu Z.len iC (aj (aG 0) au)))))) (dD (gY (ns:=["place"]) fH hr (aj (aG 1) au))) (JB'.tox bw))
   (cI (JS.tox (bH 3 sc_behind_list.nd (aR aO (aR aO (aG 1) aq) (aR fG (aG 2) (bZ h_place_at hr (aj (aG 0) (aj (aG 1) au)))))))
   (cI (lQ (aX vJ (aG 3) (yR iu Z.len iC (aj (aG 0) au))) (dD (gY (ns:=["place"]) fH hr (aj (aG 1) au))) (JB'.tox bw))
   (dD (JS.tox (aU (aG 3)))))))
abbrev eV:Stmt:=top 24
noncomputable def b_read_numbers:BF eV:=⟨_,by walk_at "wl_"⟩
noncomputable def c_read_numbers:SF eV:=⟨_,by walk_at "wl_"⟩
theorem sc_read_numbers:FnScope ["cells","at","behind"] ["cells","at"] c_read_numbers.1:=by walk_at "fsc_"
noncomputable def lU (cu:GPX) (cV:GN):XB:=(gD (RX 2 (Uu cu (λ _=>(ak (ao 0) (ak (ao 1) (ak (dC (.int 4)) aB))))))
 (λ _=>(bh (dTup (ak (dNew (qz [none,some 0] (wQ (ak (aL aN (ao 1) (dC (.int 2))) (ak (ao 2) (ak (dC (.int 4)) aB)))) (aM 0) uw (bT cV (ak (ao 1) (ak (ao 0) aB))))) (ak (ao 2) aB))))))
theorem tK (D:DefAt K mg "read_numbers" eV) (Z:Zs mg) (h_behind_list:HasDX P w K mg base k "behind_list" ["cells","at","cells_for_one"] cu) (h_number_at:HasD P w K mg base k "number_at" ["cells","at"] cV):HasX P w K mg base (k+1) "read_numbers" ["cells","at"] (lSpX K (nQ 3 2 (lU cu cV))):=
 Ef D b_read_numbers.2 c_read_numbers.2 sc_read_numbers (λ _ _ _ _ _ _ us hl=>by obtain⟨_,_,rfl⟩:=Eh hl;rfl) λ f cdv A outer s H E hr=>by
 have hu:=cL hr
 exact(cI (Ec 2 sc_read_numbers.nd (zy h_behind_list hr Pg (JA.tox (aj (aG 0) (aj (aG 1) (aj aq au))))))
   (dD (JS.tox (aU (bQ (aj (dU (mG (N:=["place","cells"]) (fr:=[none,some 0]) (CompOk.of (N₀:=["cells","at","behind"]) (oscope:=c_read_numbers.1) (by decide +kernel)) (pU (aj (aR aO (aG 1) aq) (aj (aG 2) (aj aq au))) Z.range) mF (λ _ _ _ _ _=>(aV 0 (show List.Nodup (["place","cells"]:List Str) by decide +kernel))) (λ _ _ _ _ _=>mD) (λ _ _ _ _ _=>(bZ h_number_at hr (aj (aG 1) (aj (aG 0) au)))))) (aj (aG 2) au)))))))
abbrev gO:Stmt:=top 25
noncomputable def b_read_table:BF gO:=⟨_,by walk_at "wl_"⟩
noncomputable def c_read_table:SF gO:=⟨_,by walk_at "wl_"⟩
theorem sc_read_table:FnScope ["cells","at","behind"] ["cells","at"] c_read_table.1:=by walk_at "fsc_"
noncomputable def oW (cu:GPX) (bD:GN):XB:=(gD (RX 2 (Uu cu (λ _=>(ak (ao 0) (ak (ao 1) (ak (dC (.int 2)) aB))))))
 (λ _=>(bh (dTup (ak (dNew (qz [none,some 0] (wQ (ak (aL aN (ao 1) (dC (.int 2))) (ak (ao 2) (ak (dC (.int 2)) aB)))) (aM 0) uw (bT bD (ak (ao 1) (ak (ao 0) aB))))) (ak (ao 2) aB))))))
theorem w5 (D:DefAt K mg "read_table" gO) (Z:Zs mg) (h_behind_list:HasDX P w K mg base k "behind_list" ["cells","at","cells_for_one"] cu) (h_place_at:HasD P w K mg base k "place_at" ["cells","at"] bD):HasX P w K mg base (k+1) "read_table" ["cells","at"] (lSpX K (nQ 3 2 (oW cu bD))):=
 Ef D b_read_table.2 c_read_table.2 sc_read_table (λ _ _ _ _ _ _ us hl=>by obtain⟨_,_,rfl⟩:=Eh hl;rfl) λ f cdv A outer s H E hr=>by
 have hu:=cL hr
 exact(cI (Ec 2 sc_read_table.nd (zy h_behind_list hr Pg (JA.tox (aj (aG 0) (aj (aG 1) (aj aq au))))))
   (dD (JS.tox (aU (bQ (aj (dU (mG (N:=["place","cells"]) (fr:=[none,some 0]) (CompOk.of (N₀:=["cells","at","behind"]) (oscope:=c_read_table.1) (by decide +kernel)) (pU (aj (aR aO (aG 1) aq) (aj (aG 2) (aj aq au))) Z.range) mF (λ _ _ _ _ _=>(aV 0 (show List.Nodup (["place","cells"]:List Str) by decide +kernel))) (λ _ _ _ _ _=>mD) (λ _ _ _ _ _=>(bZ h_place_at hr (aj (aG 1) (aj (aG 0) au)))))) (aj (aG 2) au)))))))
abbrev ji:Stmt:=top 28
noncomputable def b_law_mixed:BF ji:=⟨_,by walk_at "wl_"⟩
noncomputable def c_law_mixed:SF ji:=⟨_,by walk_at "wl_"⟩
theorem sc_law_mixed:FnScope ["_law_draw","_law_k","_law_number"] ["_law_draw","_law_k"] c_law_mixed.1:=by walk_at "fsc_"
noncomputable def qF  : DS:=(aY (bW 2 (aL (gI (λ _ j=>0 < j) λ i j=>.int (i % j)) (aL kW (aL aN (aL aN (aL (gI (λ _ j=>0 < j) λ i j=>.int (i % j)) (ao 0) (dC (.int 2147483629))) (aL kW (dC (.int 69621)) (ao 1))) (dC (.int 1))) (aL aN (dC (.int 48271)) (aL kW (dC (.int 2)) (ao 1)))) (dC (.int 2147483629))))
 (aY (bW 2 (aL (gI (λ _ j=>0 < j) λ i j=>.int (i % j)) (aL kW (ao 2) (aL aN (aL (gI fu λ i j=>.int (i / j)) (ao 2) (dC (.int 1009))) (dC (.int 69621)))) (dC (.int 2147483629))))
 (bh (aL (gI (λ _ j=>0 < j) λ i j=>.int (i % j)) (aL kW (ao 2) (aL aN (aL aN (aL (gI fu λ i j=>.int (i / j)) (ao 2) (dC (.int 907))) (dC (.int 16807))) (ao 1))) (dC (.int 2147483629))))))
theorem zN (D:DefAt K mg "_law_mixed" ji)  : Has P w K mg base (k+1) "_law_mixed" ["_law_draw","_law_k"] (lSp K (cl (cQ 3 2 qF))):=
 dH D b_law_mixed.2 c_law_mixed.2 sc_law_mixed (λ _ _ _ _ _ _ us hl=>by obtain⟨_,_,rfl⟩:=Eh hl;rfl) λ f cdv A outer s H E hr=>by
 have hu:=cL hr
 exact(aH (bH 2 sc_law_mixed.nd (aR eF (aR fG (aR aO (aR aO (aR eF (aG 0) aq) (aR fG aq (aG 1))) aq) (aR aO aq (aR fG aq (aG 1)))) aq))
   (aH (bH 2 sc_law_mixed.nd (aR eF (aR fG (aG 2) (aR aO (aR eG (aG 2) aq) aq)) aq))
   (aD (aU (aR eF (aR fG (aG 2) (aR aO (aR aO (aR eG (aG 2) aq) aq) (aG 1))) aq)))))
abbrev jX:Stmt:=top 29
noncomputable def b_law_next:BF jX:=⟨_,by walk_at "wl_"⟩
noncomputable def c_law_next:SF jX:=⟨_,by walk_at "wl_"⟩
theorem sc_law_next:FnScope ["_law_source_here","_law_many","_law_found"] ["_law_source_here","_law_many"] c_law_next.1:=by walk_at "fsc_"
noncomputable def nT (iY:GN):DS:=(aY (bC (rR (aJ (aL jy (aL c7 (ao 0) (dC (.int 1))) (dC (.int 0)))) (aJ (aL (kJ λ i j=>.bl (decide (j < i))) (aL c7 (ao 0) (dC (.int 0))) (dC (.int 1))))) (aY (bW 2 (aL (gI (λ _ j=>0 < j) λ i j=>.int (i % j)) (aL c7 (ao 0) (dC (.int 0))) (ao 1)))
 (aY (ur (aL (gI fu λ i j=>.int (i / j)) (aL c7 (ao 0) (dC (.int 0))) (ao 1)) (vN (ao 0) (dC (.int 0))))
 (bh (ao 2)))) aW)
 (aY (ur (aL aN (aL c7 (ao 0) (dC (.int 2))) (dC (.int 1))) (vN (ao 0) (dC (.int 2))))
 (bh (aL (gI (λ _ j=>0 < j) λ i j=>.int (i % j)) (bT iY (ak (aL c7 (ao 0) (dC (.int 3))) (ak (aL c7 (ao 0) (dC (.int 2))) aB))) (ao 1)))))
theorem Cy (D:DefAt K mg "_law_next" jX) (h_law_mixed:HasD P w K mg base k "_law_mixed" ["_law_draw","_law_k"] iY):Has P w K mg base (k+1) "_law_next" ["_law_source_here","_law_many"] (lSp K (LR 3 2 (nT iY))):=
 Iz D b_law_next.2 c_law_next.2 sc_law_next (λ _ _ _ _ _ _ us hl=>by obtain⟨_,_,rfl⟩:=Eh hl;rfl) λ f cdv A outer s H E hr=>by
 have hu:=cL hr
 exact(aH (bU (oH (wB (aX (dG hr.units) (cU (jx hu) (aG 0) aq) aq) (qZ (aX vJ (cU (jx hu) (aG 0) aq) aq)))) (aH (bH 2 sc_law_next.nd (aR eF (cU (jx hu) (aG 0) aq) (aG 1)))
   (aH (nD (aR eG (cU (jx hu) (aG 0) aq) (aG 1)) (Iw (aG 0) aq))
   (aD (aU (aG 2))))) bw)
   (aH (nD (aR aO (cU (jx hu) (aG 0) aq) aq) (Iw (aG 0) aq))
   (aD (aU (aR eF (bZ h_law_mixed hr (aj (cU (jx hu) (aG 0) aq) (aj (cU (jx hu) (aG 0) aq) au))) (aG 1))))))
abbrev gQ:Stmt:=top 30
noncomputable def b_law_source:BF gQ:=⟨_,by walk_at "wl_"⟩
noncomputable def c_law_source:SF gQ:=⟨_,by walk_at "wl_"⟩
theorem uF:FnScope ["_law_draw"] ["_law_draw"] c_law_source.1:=by walk_at "fsc_"
noncomputable def oX  : DS:=(bh (Ie (kI (ak (aL (gI fu λ i j=>.int (i / j)) (ao 0) (dC (.int 2))) (ak (aL (gI (λ _ j=>0 < j) λ i j=>.int (i % j)) (ao 0) (dC (.int 2))) (ak (dC (.int 0)) (ak (ao 0) aB)))))))
theorem xg (D:DefAt K mg "_law_source" gQ)  : Has P w K mg base (k+1) "_law_source" ["_law_draw"] (lSp K (LR 1 1 oX)):=
 Iz D b_law_source.2 c_law_source.2 uF (λ _ _ _ _ _ _ us hl=>by obtain⟨_,rfl⟩:=Nb hl;rfl) λ f cdv A outer s H E hr=>by
 have hu:=cL hr
 exact(aD (aU (DN (dR (aj (aR eG (aG 0) aq) (aj (aR eF (aG 0) aq) (aj aq (aj (aG 0) au))))))))
abbrev jY:Stmt:=top 31
noncomputable def b_law_wide:BF jY:=⟨_,by walk_at "wl_"⟩
noncomputable def c_law_wide:SF jY:=⟨_,by walk_at "wl_"⟩
theorem sc_law_wide:FnScope ["_law_cells","_law_at","_law_many","_law_found","_law_one"] ["_law_cells","_law_at","_law_many"] c_law_wide.1:=by walk_at "fsc_"
noncomputable def nU  : DS:=(aY (bW 3 (dC (.int 0)))
 (aY (lB (iV (Ry (ao 0) (lN (ao 1)) (lN (aL aN (ao 1) (ao 2))))) (aM 4) (bW 3 (aL aN (aL kW (dC (.int 256)) (ao 3)) (ao 4))))
 (bh (ao 3))))
theorem Cz (D:DefAt K mg "_law_wide" jY)  : Has P w K mg base (k+1) "_law_wide" ["_law_cells","_law_at","_law_many"] (lSp K (cl (cQ 5 3 nU))):=
 dH D b_law_wide.2 c_law_wide.2 sc_law_wide (λ _ _ _ _ _ _ us hl=>by obtain⟨_,_,_,rfl⟩:=R7 hl;rfl) λ f cdv A outer s H E hr=>by
 have hu:=cL hr
 exact(aH (bH 3 sc_law_wide.nd aq)
   (aH (dX (fD (Io (aG 0) (fY (aG 1)) (fY (aR aO (aG 1) (aG 2))))) (aV 4 sc_law_wide.nd) (aD (bH 3 sc_law_wide.nd (aR aO (aR fG aq (aG 3)) (aG 4)))))
   (aD (aU (aG 3)))))
abbrev gR:Stmt:=top 32
noncomputable def b_law_signed:BF gR:=⟨_,by walk_at "wl_"⟩
noncomputable def c_law_signed:SF gR:=⟨_,by walk_at "wl_"⟩
theorem uG:FnScope ["_law_number","_law_limit"] ["_law_number","_law_limit"] c_law_signed.1:=by walk_at "fsc_"
noncomputable def oY  : DS:=(aY (bC (aJ (aL (kJ λ i j=>.bl (decide (j≤i))) (ao 0) (aL (gI fu λ i j=>.int (i / j)) (ao 1) (dC (.int 2))))) (bh (aL (kJ λ i j=>.int (i - j)) (ao 0) (ao 1))) aW)
 (bh (ao 0)))
theorem xq (D:DefAt K mg "_law_signed" gR)  : Has P w K mg base (k+1) "_law_signed" ["_law_number","_law_limit"] (lSp K (cl (cQ 2 2 oY))):=
 dH D b_law_signed.2 c_law_signed.2 uG (λ _ _ _ _ _ _ us hl=>by obtain⟨_,_,rfl⟩:=Eh hl;rfl) λ f cdv A outer s H E hr=>by
 have hu:=cL hr
 exact(aH (bU (aX O1 (aG 0) (aR eG (aG 1) aq)) (aD (aU (aR ig (aG 0) (aG 1)))) bw)
   (aD (aU (aG 0))))
abbrev jj:Stmt:=top 33
noncomputable def b_law_boxed:BF jj:=⟨_,by walk_at "wl_"⟩
noncomputable def c_law_boxed:SF jj:=⟨_,by walk_at "wl_"⟩
theorem sc_law_boxed:FnScope ["_law_one","_law_kind_here","_law_first","_law_many"] ["_law_one"] c_law_boxed.1:=by walk_at "fsc_"
noncomputable def aQ  : DS:=(aY (lB (iV (dNew (kI (ak (dTup (ak (dC (.str "set")) (ak (dC (.int 16)) (ak (dC (.int 4)) aB)))) (ak (dTup (ak (dC (.str "say")) (ak (dC (.int 64)) (ak (dC (.int 4)) aB)))) (ak (dTup (ak (dC (.str "ask")) (ak (dC (.int 68)) (ak (dC (.int 4)) aB)))) (ak (dTup (ak (dC (.str "alike")) (ak (dC (.int 144)) (ak (dC (.int 4)) aB)))) aB))))))) (kE 3 (bI (aM 1) (bI (aM 2) (bI (aM 3) kj)))) (bC (aJ (cR pQ qM (ao 2) (ao 0) (aL aN (ao 2) (ao 3)))) (bh (dTup (ak (ao 1) (ak (dTup (ak (aL (kJ λ i j=>.int (i - j)) (ao 0) (ao 2)) aB)) (ak (dC .non) aB))))) aW))
 (aY (lB (iV (dNew (kI (ak (dTup (ak (dC (.str "add")) (ak (dC (.int 32)) aB))) (ak (dTup (ak (dC (.str "take")) (ak (dC (.int 48)) aB))) aB))))) (kE 2 (bI (aM 1) (bI (aM 2) kj))) (bC (aJ (cR pQ qM (ao 2) (ao 0) (aL aN (ao 2) (dC (.int 16))))) (bh (dTup (ak (ao 1) (ak (dTup (ak (aL (gI fu λ i j=>.int (i / j)) (aL (kJ λ i j=>.int (i - j)) (ao 0) (ao 2)) (dC (.int 4))) (ak (aL (gI (λ _ j=>0 < j) λ i j=>.int (i % j)) (aL (kJ λ i j=>.int (i - j)) (ao 0) (ao 2)) (dC (.int 4))) aB))) (ak (dC .non) aB))))) aW))
 (bh (dTup (ak (zc "dict" oO (dNew (zm [((dC (.int 98)),(dC (.str "back"))),((dC (.int 99)),(dC (.str "stop")))])) (ak (ao 0) (ak (dC (.str "")) aB))) (ak (dTup aB) (ak (dC .non) aB)))))))
theorem zO (D:DefAt K mg "_law_boxed" jj)  : Has P w K mg base (k+1) "_law_boxed" ["_law_one"] (lSp K (cl (cQ 4 1 aQ))):=
 dH D b_law_boxed.2 c_law_boxed.2 sc_law_boxed (λ _ _ _ _ _ _ us hl=>by obtain⟨_,rfl⟩:=Nb hl;rfl) λ f cdv A outer s H E hr=>by
 have hu:=cL hr
 exact(aH (dX (fD (dU (dR (aj (bQ (aj cZ (aj aq (aj aq au)))) (aj (bQ (aj cZ (aj aq (aj aq au)))) (aj (bQ (aj cZ (aj aq (aj aq au)))) (aj (bQ (aj cZ (aj aq (aj aq au)))) au))))))) (lu (bf (aV 1 sc_law_boxed.nd) (bf (aV 2 sc_law_boxed.nd) (bf (aV 3 sc_law_boxed.nd) iU)))) (aD (bU (fV lJ lH (aG 2) (aG 0) (aR aO (aG 2) (aG 3))) (aD (aU (bQ (aj (aG 1) (aj (bQ (aj (aR ig (aG 0) (aG 2)) au)) (aj iR au)))))) bw)))
   (aH (dX (fD (dU (dR (aj (bQ (aj cZ (aj aq au))) (aj (bQ (aj cZ (aj aq au))) au))))) (lu (bf (aV 1 sc_law_boxed.nd) (bf (aV 2 sc_law_boxed.nd) iU))) (aD (bU (fV lJ lH (aG 2) (aG 0) (aR aO (aG 2) aq)) (aD (aU (bQ (aj (aG 1) (aj (bQ (aj (aR eG (aR ig (aG 0) (aG 2)) aq) (aj (aR eF (aR ig (aG 0) (aG 2)) aq) au))) (aj iR au)))))) bw)))
   (aD (aU (bQ (aj (zf (Jm hu) PySem.F.plainAttrs_dict PySem.F.slot_dict_get PySem.F.type_dict_get (dU (DY (oJ aq cZ (oJ aq cZ IK)) rfl rfl (List.cons_ne_nil _ _) (Nat.le_of_ble_eq_true rfl))) (aj (aG 0) (aj cZ au))) (aj (bQ au) (aj iR au))))))))
abbrev jZ:Stmt:=top 34
noncomputable def b_law_kind:BF jZ:=⟨_,by walk_at "wl_"⟩
noncomputable def c_law_kind:SF jZ:=⟨_,by walk_at "wl_"⟩
theorem sc_law_kind:FnScope ["_law_one","_law_kind_here","_law_short","_law_long","_law_first"] ["_law_one"] c_law_kind.1:=by walk_at "fsc_"
noncomputable def aC (iZ:GN):DS:=(aY (bC (aJ (aL (Rx false) (ao 0) (dTup (ak (dC (.int 80)) (ak (dC (.int 81)) aB))))) (bh (dTup (ak (dC (.str "jump")) (ak (dTup aB) (ak (aL jy (ao 0) (dC (.int 80))) aB))))) aW)
 (aY (bC (aJ (aL (Rx false) (ao 0) (dTup (ak (dC (.int 82)) (ak (dC (.int 83)) aB))))) (bh (dTup (ak (dC (.str "call")) (ak (dTup aB) (ak (aL jy (ao 0) (dC (.int 82))) aB))))) aW)
 (aY (lB (iV (dNew (kI (ak (dTup (ak (dC (.str "jumpif")) (ak (dC (.int 84)) (ak (dC (.int 88)) aB)))) (ak (dTup (ak (dC (.str "jumpby")) (ak (dC (.int 100)) (ak (dC (.int 104)) aB)))) aB))))) (kE 3 (bI (aM 1) (bI (aM 2) (bI (aM 3) kj)))) (lB (iV (dNew (kI (ak (ao 2) (ak (ao 3) aB))))) (aM 4) (bC (aJ (cR pQ qM (ao 4) (ao 0) (aL aN (ao 4) (dC (.int 4))))) (bh (dTup (ak (ao 1) (ak (dTup (ak (aL (kJ λ i j=>.int (i - j)) (ao 0) (ao 4)) aB)) (ak (aL jy (ao 4) (ao 2)) aB))))) aW)))
 (aY (bC (aJ (cR pQ qM (dC (.int 112)) (ao 0) (dC (.int 144)))) (bh (dTup (ak (dC (.str "load")) (ak (dTup (ak (aL (gI fu λ i j=>.int (i / j)) (aL (gI (λ _ j=>0 < j) λ i j=>.int (i % j)) (ao 0) (dC (.int 16))) (dC (.int 4))) (ak (aL (gI (λ _ j=>0 < j) λ i j=>.int (i % j)) (ao 0) (dC (.int 4))) aB))) (ak (aL qM (ao 0) (dC (.int 128))) aB))))) aW)
 (bh (bT iZ (ak (ao 0) aB)))))))
theorem CG (D:DefAt K mg "_law_kind" jZ) (h_law_boxed:HasD P w K mg base k "_law_boxed" ["_law_one"] iZ):Has P w K mg base (k+1) "_law_kind" ["_law_one"] (lSp K (cl (cQ 5 1 (aC iZ)))):=
 dH D b_law_kind.2 c_law_kind.2 sc_law_kind (λ _ _ _ _ _ _ us hl=>by obtain⟨_,rfl⟩:=Nb hl;rfl) λ f cdv A outer s H E hr=>by
 have hu:=cL hr
 exact(aH (bU (aX (O6 hu) (aG 0) (bQ (aj aq (aj aq au)))) (aD (aU (bQ (aj cZ (aj (bQ au) (aj (vG (dG hr.units) (aG 0) aq) au)))))) bw)
   (aH (bU (aX (O6 hu) (aG 0) (bQ (aj aq (aj aq au)))) (aD (aU (bQ (aj cZ (aj (bQ au) (aj (vG (dG hr.units) (aG 0) aq) au)))))) bw)
   (aH (dX (fD (dU (dR (aj (bQ (aj cZ (aj aq (aj aq au)))) (aj (bQ (aj cZ (aj aq (aj aq au)))) au))))) (lu (bf (aV 1 sc_law_kind.nd) (bf (aV 2 sc_law_kind.nd) (bf (aV 3 sc_law_kind.nd) iU)))) (aD (dX (fD (dU (dR (aj (aG 2) (aj (aG 3) au))))) (aV 4 sc_law_kind.nd) (aD (bU (fV lJ lH (aG 4) (aG 0) (aR aO (aG 4) aq)) (aD (aU (bQ (aj (aG 1) (aj (bQ (aj (aR ig (aG 0) (aG 4)) au)) (aj (vG (dG hr.units) (aG 4) (aG 2)) au)))))) bw)))))
   (aH (bU (fV lJ lH aq (aG 0) aq) (aD (aU (bQ (aj cZ (aj (bQ (aj (aR eG (aR eF (aG 0) aq) aq) (aj (aR eF (aG 0) aq) au))) (aj (vG lH (aG 0) aq) au)))))) bw)
   (aD (aU (bZ h_law_boxed hr (aj (aG 0) au))))))))
abbrev j4:Stmt:=top 35
noncomputable def b_law_code:BF j4:=⟨_,by walk_at "wl_"⟩
noncomputable def c_law_code:SF j4:=⟨_,by walk_at "wl_"⟩
theorem sc_law_code:FnScope ["_law_cells","_law_at","_law_kind_here","_law_boxes","_law_near","_law_many","_law_row","_law_place"] ["_law_cells","_law_at"] c_law_code.1:=by walk_at "fsc_"
noncomputable def fJ (jM:GN) (bN:GN) (bF:GN):DS:=(aY (bC (gC (aJ (cR pQ qM (dC (.int 0)) (ao 1) (bT kY (ak (ao 0) aB))))) (bh (dC .non)) aW)
 (aY (ur (bT jM (ak (aL c7 (ao 0) (ao 1)) aB)) (kE 3 (bI (aM 2) (bI (aM 3) (bI (aM 4) kj)))))
 (aY (bW 5 (zc "dict" oO (dNew (zm [((dC (.str "")),(dC (.int 0))),((dC (.str "set")),(dC (.int 4))),((dC (.str "alike")),(dC (.int 4)))])) (ak (ao 2) (ak (dC (.int 0)) aB))))
 (aY (bC (aJ (aL sG (ao 4) (dC .non))) (bW 5 (aL (kJ λ i j=>.int (i - j)) (dC (.int 2)) (bT Jo (ak (ao 4) aB)))) aW)
 (aY (bC (GX (aJ (aL jy (ao 2) (dC (.str "")))) (aJ (aL (kJ λ i j=>.bl (decide (j≤i))) (aL aN (ao 1) (ao 5)) (bT kY (ak (ao 0) aB))))) (bh (dC .non)) aW)
 (aY (bW 6 (aL aN (dTup (ak (ao 2) aB)) (ao 3)))
 (aY (bC (aJ (aL jy (ao 2) (dC (.str "set")))) (bW 6 (aL aN (ao 6) (dTup (ak (bT bN (ak (bT bF (ak (ao 0) (ak (aL aN (ao 1) (dC (.int 1))) (ak (dC (.int 4)) aB)))) (ak (dC (.int 4294967296)) aB))) aB)))) (bC (aJ (aL jy (ao 2) (dC (.str "alike")))) (bW 6 (aL aN (ao 6) (dTup (ak (bT bF (ak (ao 0) (ak (aL aN (ao 1) (dC (.int 1))) (ak (dC (.int 2)) aB)))) (ak (bT bF (ak (ao 0) (ak (aL aN (ao 1) (dC (.int 3))) (ak (dC (.int 2)) aB)))) aB))))) (bC (aJ (aL wO (ao 4) (dC (.bl false)))) (bW 6 (aL aN (ao 6) (dTup (ak (bT bF (ak (ao 0) (ak (aL aN (ao 1) (dC (.int 1))) (ak (dC (.int 2)) aB)))) aB)))) (bC (aJ (aL wO (ao 4) (dC (.bl true)))) (aY (bW 7 (aL aN (aL aN (ao 1) (dC (.int 2))) (bT bN (ak (aL c7 (ao 0) (aL aN (ao 1) (dC (.int 1)))) (ak (dC (.int 256)) aB)))))
 (aY (bC (aJ (aL qM (ao 7) (dC (.int 0)))) (bh (dC .non)) aW)
 (bW 6 (aL aN (ao 6) (dTup (ak (ao 7) aB)))))) aW))))
 (bh (dTup (ak (ao 6) (ak (ao 4) (ak (aL aN (aL aN (ao 1) (ao 5)) (dC (.int 1))) aB))))))))))))
theorem CJ (D:DefAt K mg "_law_code" j4) (Z:Zs mg) (h_law_kind:HasD P w K mg base k "_law_kind" ["_law_one"] jM) (h_law_signed:HasD P w K mg base k "_law_signed" ["_law_number","_law_limit"] bN) (h_law_wide:HasD P w K mg base k "_law_wide" ["_law_cells","_law_at","_law_many"] bF):Has P w K mg base (k+1) "_law_code" ["_law_cells","_law_at"] (lSp K (cl (cQ 8 2 (fJ jM bN bF)))):=
 dH D b_law_code.2 c_law_code.2 sc_law_code (λ _ _ _ _ _ _ us hl=>by obtain⟨_,_,rfl⟩:=Eh hl;rfl) λ f cdv A outer s H E hr=>by
 have hu:=cL hr
 exact(aH (bU (nC (fV lJ lH aq (aG 1) (yR iu Z.len iC (aj (aG 0) au)))) (aD (aU iR)) bw)
   (aH (nD (bZ h_law_kind hr (aj (cU (jx hu) (aG 0) (aG 1)) au)) (lu (bf (aV 2 sc_law_code.nd) (bf (aV 3 sc_law_code.nd) (bf (aV 4 sc_law_code.nd) iU)))))
   (aH (bH 5 sc_law_code.nd (zf (Jm hu) PySem.F.plainAttrs_dict PySem.F.slot_dict_get PySem.F.type_dict_get (dU (DY (oJ cZ aq (oJ cZ aq (oJ cZ aq IK))) rfl rfl (List.cons_ne_nil _ _) (Nat.le_of_ble_eq_true rfl))) (aj (aG 2) (aj aq au))))
   (aH (bU (aX yU (aG 4) iR) (aD (bH 5 sc_law_code.nd (aR ig aq (Zi R3 Z.int Jv (aj (aG 4) au))))) bw)
   (aH (bU (oH (vH (aX (dG hr.units) (aG 2) cZ) (rT (aX O1 (aR aO (aG 1) (aG 5)) (yR iu Z.len iC (aj (aG 0) au)))))) (aD (aU iR)) bw)
   (aH (bH 6 sc_law_code.nd (aR aO (bQ (aj (aG 2) au)) (aG 3)))
   (aH (bU (aX (dG hr.units) (aG 2) cZ) (aD (bH 6 sc_law_code.nd (aR aO (aG 6) (bQ (aj (bZ h_law_signed hr (aj (bZ h_law_wide hr (aj (aG 0) (aj (aR aO (aG 1) aq) (aj aq au)))) (aj aq au))) au))))) (aD (bU (aX (dG hr.units) (aG 2) cZ) (aD (bH 6 sc_law_code.nd (aR aO (aG 6) (bQ (aj (bZ h_law_wide hr (aj (aG 0) (aj (aR aO (aG 1) aq) (aj aq au)))) (aj (bZ h_law_wide hr (aj (aG 0) (aj (aR aO (aG 1) aq) (aj aq au)))) au)))))) (aD (bU (aX sU (aG 4) uq) (aD (bH 6 sc_law_code.nd (aR aO (aG 6) (bQ (aj (bZ h_law_wide hr (aj (aG 0) (aj (aR aO (aG 1) aq) (aj aq au)))) au))))) (aD (bU (aX sU (aG 4) uq) (aH (bH 7 sc_law_code.nd (aR aO (aR aO (aG 1) aq) (bZ h_law_signed hr (aj (cU (jx hu) (aG 0) (aR aO (aG 1) aq)) (aj aq au)))))
   (aH (bU (aX lH (aG 7) aq) (aD (aU iR)) bw)
   (aD (bH 6 sc_law_code.nd (aR aO (aG 6) (bQ (aj (aG 7) au))))))) bw)))))))
   (aD (aU (bQ (aj (aG 6) (aj (aG 4) (aj (aR aO (aR aO (aG 1) (aG 5)) aq) au)))))))))))))
abbrev j5:Stmt:=top 36
noncomputable def b_law_list:BF j5:=⟨_,by walk_at "wl_"⟩
noncomputable def c_law_list:SF j5:=⟨_,by walk_at "wl_"⟩
theorem sc_law_list:FnScope ["_law_cells","_law_at","_law_size","_law_many","_law_found","_law_k","_law_number"] ["_law_cells","_law_at","_law_size"] c_law_list.1:=by walk_at "fsc_"
noncomputable def tL (bF:GN) (bN:GN):DS:=(aY (bC (GX (aJ (aL qM (ao 1) (dC (.int 0)))) (aJ (aL (kJ λ i j=>.bl (decide (j < i))) (aL aN (ao 1) (dC (.int 2))) (bT kY (ak (ao 0) aB))))) (bh (dC .non)) aW)
 (aY (bW 3 (bT bF (ak (ao 0) (ak (ao 1) (ak (dC (.int 2)) aB)))))
 (aY (bC (aJ (aL (kJ λ i j=>.bl (decide (j < i))) (aL aN (aL aN (ao 1) (dC (.int 2))) (aL kW (ao 3) (ao 2))) (bT kY (ak (ao 0) aB)))) (bh (dC .non)) aW)
 (aY (bW 4 (Ie (kI aB)))
 (aY (lB (sI (ak (ao 3) aB)) (aM 5) (aY (bW 6 (bT bF (ak (ao 0) (ak (aL aN (aL aN (ao 1) (dC (.int 2))) (aL kW (ao 5) (ao 2))) (ak (ao 2) aB)))))
 (aY (bC (aJ (aL jy (ao 2) (dC (.int 4)))) (bW 6 (bT bN (ak (ao 6) (ak (dC (.int 4294967296)) aB)))) aW)
 (iT (zc "list" dj (ao 4) (ak (ao 6) aB))))))
 (bh (dTup (ak (ao 4) (ak (aL aN (aL aN (ao 1) (dC (.int 2))) (aL kW (ao 3) (ao 2))) aB)))))))))
theorem CK (D:DefAt K mg "_law_list" j5) (Z:Zs mg) (h_law_wide:HasD P w K mg base k "_law_wide" ["_law_cells","_law_at","_law_many"] bF) (h_law_signed:HasD P w K mg base k "_law_signed" ["_law_number","_law_limit"] bN):Has P w K mg base (k+1) "_law_list" ["_law_cells","_law_at","_law_size"] (lSp K (cl (cQ 7 3 (tL bF bN)))):=
 dH D b_law_list.2 c_law_list.2 sc_law_list (λ _ _ _ _ _ _ us hl=>by obtain⟨_,_,_,rfl⟩:=R7 hl;rfl) λ f cdv A outer s H E hr=>by
 have hu:=cL hr
 exact(aH (bU (oH (vH (aX lH (aG 1) aq) (rT (aX vJ (aR aO (aG 1) aq) (yR iu Z.len iC (aj (aG 0) au)))))) (aD (aU iR)) bw)
   (aH (bH 3 sc_law_list.nd (bZ h_law_wide hr (aj (aG 0) (aj (aG 1) (aj aq au)))))
   (aH (bU (aX vJ (aR aO (aR aO (aG 1) aq) (aR fG (aG 3) (aG 2))) (yR iu Z.len iC (aj (aG 0) au))) (aD (aU iR)) bw)
   (aH (bH 4 sc_law_list.nd (DN (dR au)))
   (aH (dX (pR (aj (aG 3) au) Z.range) (aV 5 sc_law_list.nd) (aH (bH 6 sc_law_list.nd (bZ h_law_wide hr (aj (aG 0) (aj (aR aO (aR aO (aG 1) aq) (aR fG (aG 5) (aG 2))) (aj (aG 2) au)))))
   (aH (bU (aX (dG hr.units) (aG 2) aq) (aD (bH 6 sc_law_list.nd (bZ h_law_signed hr (aj (aG 6) (aj aq au))))) bw)
   (aD (mC (zf jB PySem.F.plainAttrs_list PySem.F.slot_list_append PySem.F.type_list_append (aG 4) (aj (aG 6) au)))))))
   (aD (aU (bQ (aj (aG 4) (aj (aR aO (aR aO (aG 1) aq) (aR fG (aG 3) (aG 2))) au))))))))))
abbrev j6:Stmt:=top 37
noncomputable def b_law_said:BF j6:=⟨_,by walk_at "wl_"⟩
noncomputable def c_law_said:SF j6:=⟨_,by walk_at "wl_"⟩
theorem sc_law_said:FnScope ["_law_way","_law_cells","_law_at","e"] ["_law_way","_law_cells","_law_at"] c_law_said.1:=by walk_at "fsc_"
noncomputable def tM (K:W.Frag) (jd:Addr) (je:GPX) (eO:GPX) (gJ:GPX) (bR:Addr) (mL:Addr):DS:=(aY (VP K 3 jd (gD (Bk (aJ (aL jy (ao 0) (dC (.int 0)))) (MP (Uu je (λ _=>(ak (ao 1) (ak (ao 2) aB))))) (λ _=>aW))
 (gD (Bk (aJ (aL jy (ao 0) (dC (.int 1)))) (MP (Uu eO (λ _=>(ak (ao 1) (ak (ao 2) aB))))) (λ _=>aW))
 (MP (Uu gJ (λ _=>(ak (ao 1) (ak (ao 2) aB))))))) (bC (rR (aJ (bT (Jt K) (ak (ao 3) (ak (dC (.cls bR)) aB)))) (gC (aJ (bT (Jt K) (ak (ao 3) (ak (dC (.cls mL)) aB)))))) (bh (Js K "place" (ao 3))) aW))
 (bh (dC (.str "other"))))
theorem CN (D:DefAt K mg "_law_said" j6) (Z:Zs mg) (zP:mg "PartError"=some (.ref jd)) (h_read_code:HasDX P w K mg base k "read_code" ["cells","at"] je) (h_read_numbers:HasDX P w K mg base k "read_numbers" ["cells","at"] eO) (h_read_table:HasDX P w K mg base k "read_table" ["cells","at"] gJ) (Gm:mg "NoCells"=some (.ref bR)) (Gn:mg "BadBase"=some (.ref mL)):Has P w K mg base (k+1) "_law_said" ["_law_way","_law_cells","_law_at"] (lSp K (cl (cQ 4 3 (tM K jd je eO gJ bR mL)))):=
 dH D b_law_said.2 c_law_said.2 sc_law_said (λ _ _ _ _ _ _ us hl=>by obtain⟨_,_,_,rfl⟩:=R7 hl;rfl) λ f cdv A outer s H E hr=>by
 have hu:=cL hr
 exact(aH (R0 (i:=3) sc_law_said.nd zP (λ _ _ _ hpx=>(cI (lQ (aX (dG hr.units) (aG 0) aq) (dD (wW (zy h_read_code hr hpx (JA.tox (aj (aG 1) (aj (aG 2) au)))))) (JB'.tox bw))
   (cI (lQ (aX (dG hr.units) (aG 0) aq) (dD (wW (zy h_read_numbers hr hpx (JA.tox (aj (aG 1) (aj (aG 2) au)))))) (JB'.tox bw))
   (dD (wW (zy h_read_table hr hpx (JA.tox (aj (aG 1) (aj (aG 2) au))))))))) (λ _=>(aD (bU (oH (wB (pO (yR Ju Z.isinstance dJ (aj (aG 3) (aj (Dy Gm) au)))) (qZ (nC (pO (yR Ju Z.isinstance dJ (aj (aG 3) (aj (Dy Gn) au)))))))) (aD (aU (R6 (aG 3)))) bw))))
   (aD (aU cZ)))
abbrev jk:Stmt:=top 38
noncomputable def b_law_right:BF jk:=⟨_,by walk_at "wl_"⟩
noncomputable def c_law_right:SF jk:=⟨_,by walk_at "wl_"⟩
theorem sc_law_right:FnScope ["_law_cells","_law_at","_law_due","_law_way","_law_found"] ["_law_cells","_law_at"] c_law_right.1:=by walk_at "fsc_"
noncomputable def qG (K:W.Frag) (iB:GN) (jN:GN) (jO:GN) (jP:GN):DS:=(aY (bW 2 (dNew (kI (ak (bT jN (ak (ao 0) (ak (ao 1) aB))) (ak (bT iB (ak (ao 0) (ak (ao 1) (ak (dC (.int 4)) aB)))) (ak (bT iB (ak (ao 0) (ak (ao 1) (ak (dC (.int 2)) aB)))) aB))))))
 (aY (lB (sI (ak (dC (.int 3)) aB)) (aM 3) (aY (bW 4 (bT jO (ak (ao 3) (ak (dNew (Ye Cd (ak (ao 0) aB))) (ak (ao 1) aB)))))
 (bC (aJ (aL Vz (aL c7 (ao 2) (ao 3)) (dC .non))) (bC (GX (aJ (bT (yZ K) (ak (ao 4) (ak (dC (.ty "bool")) aB)))) (GX (gC (aJ (bT (yZ K) (ak (ao 4) (ak (dC (.ty "int")) aB))))) (aJ (aL Us (ao 4) (ao 1))))) (bh (dC (.bl false))) aW) (bC (GX (gC (aJ (bT (yZ K) (ak (ao 4) (ak (dC (.ty "tuple")) aB))))) (aJ (aL Us (ao 4) (aL c7 (ao 2) (ao 3))))) (bh (dC (.bl false))) aW))))
 (aY (bC (aJ (aL sG (aL c7 (ao 2) (dC (.int 0))) (dC .non))) (bh (aL jy (bT jP (ak (aL c7 (aL c7 (ao 2) (dC (.int 0))) (dC (.int 0))) (ak (ao 1) (ak (aL c7 (aL c7 (ao 2) (dC (.int 0))) (dC (.int 1))) aB)))) (Ry (ao 0) (lN (ao 1)) (lN (aL c7 (aL c7 (ao 2) (dC (.int 0))) (dC (.int 2))))))) aW)
 (bh (dC (.bl true))))))
theorem zQ (D:DefAt K mg "_law_right" jk) (Z:Zs mg) (h_law_list:HasD P w K mg base k "_law_list" ["_law_cells","_law_at","_law_size"] iB) (h_law_code:HasD P w K mg base k "_law_code" ["_law_cells","_law_at"] jN) (h_law_said:HasD P w K mg base k "_law_said" ["_law_way","_law_cells","_law_at"] jO) (h_cells_of:HasD P w K mg base k "cells_of" ["row","at","near"] jP):Has P w K mg base (k+1) "_law_right" ["_law_cells","_law_at"] (lSp K (cl (cQ 5 2 (qG K iB jN jO jP)))):=
 dH D b_law_right.2 c_law_right.2 sc_law_right (λ _ _ _ _ _ _ us hl=>by obtain⟨_,_,rfl⟩:=Eh hl;rfl) λ f cdv A outer s H E hr=>by
 have hu:=cL hr
 exact(aH (bH 2 sc_law_right.nd (dU (dR (aj (bZ h_law_code hr (aj (aG 0) (aj (aG 1) au))) (aj (bZ h_law_list hr (aj (aG 0) (aj (aG 1) (aj aq au)))) (aj (bZ h_law_list hr (aj (aG 0) (aj (aG 1) (aj aq au)))) au))))))
   (aH (dX (pR (aj aq au) Z.range) (aV 3 sc_law_right.nd) (aH (bH 4 sc_law_right.nd (bZ h_law_said hr (aj (aG 3) (aj (dU (Yg Iv Z.list Ng (aj (aG 0) au))) (aj (aG 1) au)))))
   (aD (bU (aX O2 (cU (jx hu) (aG 2) (aG 3)) iR) (aD (bU (oH (vH (pO (yR Ca Z.isinstance dJ (aj (aG 4) (aj (Ro Z.bool Nf) au)))) (vH (nC (pO (yR Ca Z.isinstance dJ (aj (aG 4) (aj (Ro Z.int Jv) au))))) (rT (aX (O5 hr.units) (aG 4) (aG 1)))))) (aD (aU uq)) bw)) (aD (bU (oH (vH (nC (pO (yR Ca Z.isinstance dJ (aj (aG 4) (aj (Ro Z.tuple zE) au))))) (rT (aX (O5 hr.units) (aG 4) (cU (jx hu) (aG 2) (aG 3)))))) (aD (aU uq)) bw))))))
   (aH (bU (aX yU (cU (jx hu) (aG 2) aq) iR) (aD (aU (vG (dG hr.units) (bZ h_cells_of hr (aj (cU (jx hu) (cU (jx hu) (aG 2) aq) aq) (aj (aG 1) (aj (cU (jx hu) (cU (jx hu) (aG 2) aq) aq) au)))) (Io (aG 0) (fY (aG 1)) (fY (cU (jx hu) (cU (jx hu) (aG 2) aq) aq)))))) bw)
   (aD (aU uq)))))
abbrev j7:Stmt:=top 39
noncomputable def b_law_some:BF j7:=⟨_,by walk_at "wl_"⟩
noncomputable def c_law_some:SF j7:=⟨_,by walk_at "wl_"⟩
theorem sc_law_some:FnScope ["_law_source_here","_law_found","_law_k","_law_way","_law_firsts"] ["_law_source_here"] c_law_some.1:=by walk_at "fsc_"
noncomputable def tO (bV:GN):DS:=(aY (bW 1 (Ie (kI aB)))
 (aY (lB (sI (ak (aL aN (dC (.int 1)) (bT bV (ak (ao 0) (ak (dC (.int 14)) aB)))) aB)) (aM 2) (aY (bW 3 (bT bV (ak (ao 0) (ak (dC (.int 4)) aB))))
 (aY (bW 4 (dNew (kI (ak (dC (.int 16)) (ak (dC (.int 33)) (ak (dC (.int 50)) (ak (dC (.int 65)) (ak (dC (.int 70)) (ak (dC (.int 80)) (ak (dC (.int 81)) (ak (dC (.int 82)) (ak (dC (.int 83)) (ak (dC (.int 86)) (ak (dC (.int 90)) (ak (dC (.int 98)) (ak (dC (.int 99)) (ak (dC (.int 101)) (ak (dC (.int 107)) (ak (dC (.int 115)) (ak (dC (.int 140)) (ak (dC (.int 146)) (ak (dC (.int 147)) (ak (dC (.int 148)) (ak (dC (.int 143)) (ak (dC (.int 15)) (ak (dC (.int 79)) aB))))))))))))))))))))))))))
 (bC (aJ (aL jy (ao 3) (dC (.int 0)))) (iT (zc "list" dj (ao 1) (ak (bT bV (ak (ao 0) (ak (dC (.int 256)) aB))) aB))) (bC (aJ (aL jy (ao 3) (dC (.int 1)))) (iT (zc "list" dj (ao 1) (ak (dC (.int 0)) aB))) (bC (aJ (aL jy (ao 3) (dC (.int 2)))) (iT (zc "list" dj (ao 1) (ak (aL c7 (ao 4) (bT bV (ak (ao 0) (ak (dC (.int 23)) aB)))) aB))) (iT (zc "list" dj (ao 1) (ak (aL c7 (dNew (kI (ak (dC (.int 1)) (ak (dC (.int 2)) (ak (dC (.int 255)) (ak (dC (.int 128)) (ak (dC (.int 127)) aB))))))) (bT bV (ak (ao 0) (ak (dC (.int 5)) aB)))) aB)))))))))
 (bh (O9 1))))
theorem CP (D:DefAt K mg "_law_some" j7) (Z:Zs mg) (h_law_next:HasD P w K mg base k "_law_next" ["_law_source_here","_law_many"] bV):Has P w K mg base (k+1) "_law_some" ["_law_source_here"] (lSp K (LR 5 1 (tO bV))):=
 Iz D b_law_some.2 c_law_some.2 sc_law_some (λ _ _ _ _ _ _ us hl=>by obtain⟨_,rfl⟩:=Nb hl;rfl) λ f cdv A outer s H E hr=>by
 have hu:=cL hr
 exact(aH (bH 1 sc_law_some.nd (DN (dR au)))
   (aH (dX (pR (aj (aR aO aq (bZ h_law_next hr (aj (aG 0) (aj aq au)))) au) Z.range) (aV 2 sc_law_some.nd) (aH (bH 3 sc_law_some.nd (bZ h_law_next hr (aj (aG 0) (aj aq au))))
   (aH (bH 4 sc_law_some.nd (dU (dR (aj aq (aj aq (aj aq (aj aq (aj aq (aj aq (aj aq (aj aq (aj aq (aj aq (aj aq (aj aq (aj aq (aj aq (aj aq (aj aq (aj aq (aj aq (aj aq (aj aq (aj aq (aj aq (aj aq au))))))))))))))))))))))))))
   (aD (bU (aX (dG hr.units) (aG 3) aq) (aD (mC (zf jB PySem.F.plainAttrs_list PySem.F.slot_list_append PySem.F.type_list_append (aG 1) (aj (bZ h_law_next hr (aj (aG 0) (aj aq au))) au)))) (aD (bU (aX (dG hr.units) (aG 3) aq) (aD (mC (zf jB PySem.F.plainAttrs_list PySem.F.slot_list_append PySem.F.type_list_append (aG 1) (aj aq au)))) (aD (bU (aX (dG hr.units) (aG 3) aq) (aD (mC (zf jB PySem.F.plainAttrs_list PySem.F.slot_list_append PySem.F.type_list_append (aG 1) (aj (cU (jx hu) (aG 4) (bZ h_law_next hr (aj (aG 0) (aj aq au)))) au)))) (aD (mC (zf jB PySem.F.plainAttrs_list PySem.F.slot_list_append PySem.F.type_list_append (aG 1) (aj (cU (jx hu) (dU (dR (aj aq (aj aq (aj aq (aj aq (aj aq au))))))) (bZ h_law_next hr (aj (aG 0) (aj aq au)))) au)))))))))))))
   (aD (aU (RL 1)))))
abbrev Jx:Stmt:=top 40
noncomputable def b_law:BF Jx:=⟨_,by walk_at "wl_"⟩
noncomputable def c_law:SF Jx:=⟨_,by walk_at "wl_"⟩
theorem sc_law:FnScope ["_law_script","_law_draw","_law_cells","_law_at"] ["_law_script"] c_law.1:=by walk_at "fsc_"
noncomputable def Pj (jQ:GN) (gH:GN) (jc:GN):DS:=(aY (lB (iV (aL aN (Ry (ao 0) wL (lN (dC (.int 20)))) (dNew (kI (ak (dC (.int 0)) aB))))) (aM 1) (aY (bW 2 (bT jQ (ak (bT gH (ak (ao 1) aB)) aB)))
 (lB (BP (ak (Ip (dC (.int 1))) (ak (aL aN (bT kY (ak (ao 2) aB)) (dC (.int 2))) aB))) (aM 3) (bC (gC (aJ (bT jc (ak (ao 2) (ak (ao 3) aB))))) (bh (dC (.bl false))) aW))))
 (bh (dC (.bl true))))
theorem V3 (Z:Zs mg) (h_law_some:HasD P w K mg base k "_law_some" ["_law_source_here"] jQ) (h_law_source:HasD P w K mg base k "_law_source" ["_law_draw"] gH) (h_law_right:HasD P w K mg base k "_law_right" ["_law_cells","_law_at"] jc) (f:Addr) (cdv:Value) (A:Around) (outer:List Env) (s:Shared) (H:Hp) (E:XK) (hr:Room k (A.deeper (envOfC "law" c_law.1 s.heap.objs.size f cdv))) :
  JB' (nj CX0 P w K mg base ["_law_script","_law_draw","_law_cells","_law_at"] "law" c_law.1 f cdv A outer s H E).nox b_law.1 (Pj jQ gH jc):=by
 have hu:=cL hr
 exact(aH (dX (fD (aR aO (Io (aG 0) yW (fY aq)) (dU (dR (aj aq au))))) (aV 1 sc_law.nd) (aH (bH 2 sc_law.nd (bZ h_law_some hr (aj (bZ h_law_source hr (aj (aG 1) au)) au)))
   (aD (dX (FQ (aj (O7 aq) (aj (aR aO (yR iu Z.len iC (aj (aG 2) au)) aq) au)) Z.range) (aV 3 sc_law.nd) (aD (bU (nC (pO (bZ h_law_right hr (aj (aG 2) (aj (aG 3) au))))) (aD (aU uq)) bw))))))
   (aD (aU uq)))
end
end K23
namespace L3
open PySem PySem.Spec L2
section
variable {ta tb tc:DE}{δ:DSt}{M:Ms}{Q:DK}{R:Bool→Ms→Prop}{b:Bool}{g g':G2}{y:D}
noncomputable def V4 (tb:DE) (δ:DSt) (Q:DK):DK:=λ x M1=>match x with | .bl true=>tb δ M1 Q | .bl false=>Q (.bl false) M1 | _=>False
noncomputable def kOr (tb:DE) (δ:DSt) (Q:DK):DK:=λ x M1=>match x with | .bl true=>Q (.bl true) M1 | .bl false=>tb δ M1 Q | _=>False
noncomputable def V5 (Q:DK):DK:=λ x M1=>match x with | .bl b=>Q (.bl (!b)) M1 | _=>False
noncomputable def Pk (R:Bool→Ms→Prop):DK:=λ x M1=>match x with | .bl b=>R b M1 | _=>False
noncomputable def Jy (g':G2) (tc:DE) (δ:DSt) (y:D) (Q:DK):DK:=λ z M3=>match z with | .bl true=>tc δ M3 λ w M4=>g' y w M4 Q | .bl false=>Q (.bl false) M3 | _=>False
theorem Nh:Vs ta tb δ M Q=ta δ M (V4 tb δ Q):=rfl
theorem R8:X6 ta tb δ M Q=ta δ M (kOr tb δ Q):=rfl
theorem Ni:Vt ta δ M Q=ta δ M (V5 Q):=rfl
theorem jo:aJ ta δ M R=ta δ M (Pk R):=rfl
theorem iG:cR g g' ta tb tc δ M Q=ta δ M λ x M1=>tb δ M1 λ y M2=>g x y M2 (Jy g' tc δ y Q):=rfl
theorem Nj:V4 tb δ Q (.bl b) M=if b=true then tb δ M Q else Q (.bl false) M:=by cases b <;> rfl
theorem R9:kOr tb δ Q (.bl b) M=if b=true then Q (.bl true) M else tb δ M Q:=by cases b <;> rfl
theorem Nk:V5 Q (.bl b) M=Q (.bl (!b)) M:=rfl
theorem f9:Pk R (.bl b) M=R b M:=rfl
theorem fL:Jy g' tc δ y Q (.bl b) M=if b=true then tc δ M (λ w M4=>g' y w M4 Q) else Q (.bl false) M:=by cases b <;> rfl
theorem Jz {a c:Str}{P:Bool→Prop}:wJ (.str a) (.str c) P=P (a==c):=rfl
theorem zR {a c:Int}{P:Bool→Prop}:wJ (.int a) (.int c) P=P (a==c):=rfl
theorem jq {i j:Int}:pQ (.int i) (.int j) M Q=Q (.bl (decide (i≤j))) M:=rfl
theorem Nm {i j:Str}:pQ (.str i) (.str j) M Q=Q (.bl (!decide (j.cps.toList < i.cps.toList))) M:=rfl
theorem Np {K:W.Frag}{d:D}{n:String}:yZ K [d,.ty n] M Q = ∃ b,gk n (vw M d)=some b∧Q (.bl b) M:=rfl
theorem iH {d:D}:kY [d] M Q = ∃ n:Nat,BZ (vw M d)=some n∧Q (.int n) M:=rfl
theorem j8 {β:Type}{a:β}{p:β→Prop}:(∃ b,some a=some b∧p b)=p a:=by simp
theorem cX {d:D}:ao 0 (some d::δ) M Q=Q d M:=rfl
theorem dF {o:Option D}{i:Nat}:ao (i+1) (o::δ) M Q=ao i δ M Q:=rfl
end
section
variable {M:Ms}{b:Bool}{i:Int}{x:Str}{n:String}{ds:List D}{ns:List Int}{ks:List Key}{C:Addr}{ms:List Str}
theorem zT:gk "int" .non=some false:=rfl
theorem CQ:gk "int" (.bl b)=some true:=rfl
theorem zU:gk "int" (.int i)=some true:=rfl
theorem zV:gk "int" (.str x)=some false:=rfl
theorem zW:gk "int" (.tup ds)=some false:=rfl
theorem zX:gk "int" (.lst ds)=some false:=rfl
theorem zY:gk "int" (.scr ns)=some false:=rfl
theorem zZ:gk "int" (.dct ks ds)=some false:=rfl
theorem xr:gk "bool" .non=some false:=rfl
theorem z9:gk "bool" (.bl b)=some true:=rfl
theorem xu:gk "bool" (.int i)=some false:=rfl
theorem xG:gk "bool" (.str x)=some false:=rfl
theorem xH:gk "bool" (.tup ds)=some false:=rfl
theorem xJ:gk "bool" (.lst ds)=some false:=rfl
theorem xM:gk "bool" (.scr ns)=some false:=rfl
theorem xO:gk "bool" (.dct ks ds)=some false:=rfl
theorem Aa:gk "str" .non=some false:=rfl
theorem CT:gk "str" (.bl b)=some false:=rfl
theorem Ab:gk "str" (.int i)=some false:=rfl
theorem Ac:gk "str" (.str x)=some true:=rfl
theorem Ad:gk "str" (.tup ds)=some false:=rfl
theorem Ae:gk "str" (.lst ds)=some false:=rfl
theorem Af:gk "str" (.scr ns)=some false:=rfl
theorem Ag:gk "str" (.dct ks ds)=some false:=rfl
theorem uH:gk "tuple" .non=some false:=rfl
theorem xP:gk "tuple" (.bl b)=some false:=rfl
theorem uI:gk "tuple" (.int i)=some false:=rfl
theorem uJ:gk "tuple" (.str x)=some false:=rfl
theorem uK:gk "tuple" (.tup ds)=some true:=rfl
theorem uL:gk "tuple" (.lst ds)=some false:=rfl
theorem uM:gk "tuple" (.scr ns)=some false:=rfl
theorem uN:gk "tuple" (.dct ks ds)=some false:=rfl
theorem xQ:gk "list" .non=some false:=rfl
theorem Ah:gk "list" (.bl b)=some false:=rfl
theorem xR:gk "list" (.int i)=some false:=rfl
theorem xT:gk "list" (.str x)=some false:=rfl
theorem xU:gk "list" (.tup ds)=some false:=rfl
theorem xV:gk "list" (.lst ds)=some true:=rfl
theorem xW:gk "list" (.scr ns)=some true:=rfl
theorem xX:gk "list" (.dct ks ds)=some false:=rfl
theorem xY:gk "dict" .non=some false:=rfl
theorem Ai:gk "dict" (.bl b)=some false:=rfl
theorem xZ:gk "dict" (.int i)=some false:=rfl
theorem yc:gk "dict" (.str x)=some false:=rfl
theorem yd:gk "dict" (.tup ds)=some false:=rfl
theorem yg:gk "dict" (.lst ds)=some false:=rfl
theorem yh:gk "dict" (.scr ns)=some false:=rfl
theorem yj:gk "dict" (.dct ks ds)=some true:=rfl
theorem Sd:vw M .non = .non:=rfl
theorem Sg:fz M .non = .non:=rfl
theorem Sh:nl .non=true:=rfl
theorem V6:vw M (.bl b)=(.bl b):=rfl
theorem V7:fz M (.bl b)=(.bl b):=rfl
theorem V8:nl (.bl b)=true:=rfl
theorem JD:vw M (.int i)=(.int i):=rfl
theorem Sq:fz M (.int i)=(.int i):=rfl
theorem Ss:nl (.int i)=true:=rfl
theorem Sv:vw M (.str x)=(.str x):=rfl
theorem Sw:fz M (.str x)=(.str x):=rfl
theorem Sx:nl (.str x)=true:=rfl
theorem V9:vw M (.ty n)=(.ty n):=rfl
theorem Wa:fz M (.ty n)=(.ty n):=rfl
theorem Wb:nl (.ty n)=true:=rfl
theorem Sy:vw M (.tup ds)=(.tup ds):=rfl
theorem SJ:fz M (.tup ds) = .tup (ds.map (vw M)):=rfl
theorem SM:nl (.tup ds)=nls ds:=rfl
theorem nW:vw M (.lst ds)=(.lst ds):=rfl
theorem SN:fz M (.lst ds)=(.lst ds):=rfl
theorem SQ:nl (.lst ds)=nls ds:=rfl
theorem SX:vw M (.scr ns)=(.scr ns):=rfl
theorem S5:fz M (.scr ns)=(.scr ns):=rfl
theorem S6:nl (.scr ns)=true:=rfl
theorem S7:vw M (.dct ks ds)=(.dct ks ds):=rfl
theorem S8:fz M (.dct ks ds)=(.dct ks ds):=rfl
theorem S9:nl (.dct ks ds)=nls ds:=rfl
theorem Tc:vw M (.ins C ms ds)=(.ins C ms ds):=rfl
theorem Td:fz M (.ins C ms ds)=(.ins C ms ds):=rfl
theorem Te:nl (.ins C ms ds)=nls ds:=rfl
theorem Tf:vw M (.cls C)=(.cls C):=rfl
theorem Tg:fz M (.cls C)=(.cls C):=rfl
theorem Ti:nl (.cls C)=true:=rfl
theorem Tj:nls []=true:=rfl
theorem Nq {d:D}{ds:List D}:nls (d::ds)=(nl d&&nls ds):=rfl
end
theorem nY {ds:List D}:BZ (.lst ds)=some ds.length:=rfl
theorem Tn {ds:List D}:BZ (.tup ds)=some ds.length:=rfl
theorem Tp {ds:List Int}:BZ (.scr ds)=some ds.length:=rfl
theorem Tq {x:Str}:BZ (.str x)=if x.length≤sizeLine then some x.length else none:=rfl
theorem Tr {ks:List Key}{ds:List D}:BZ (.dct ks ds)=some ks.length:=rfl
theorem Tt {n:Nat}{gs:DGs}{ds:List D}{δ:DSt}{M:Ms}{Q:DSt→Ms→Prop}:kE n gs (.tup ds) δ M Q=(ds.length=n∧gs ds δ M Q):=rfl
theorem Nr {g:DG}{gs:DGs}{d:D}{ds:List D}{δ:DSt}{M:Ms}{Q:DSt→Ms→Prop}:bI g gs (d::ds) δ M Q=g d δ M λ δ1 M1=>gs ds δ1 M1 Q:=rfl
theorem Tv {δ:DSt}{M:Ms}{Q:DSt→Ms→Prop}:kj [] δ M Q=Q δ M:=by unfold kj;simp
local macro_rules | `(tactic| walk_at "rd_at") => `(tactic| simp (decide := true) only [cQ, cl, LR, aY, bW, aL, dC, bh, Vv, bC, gC, rR, GX, W7, aB, ak, bT, aW, uw, aM, nH, Option.getD_some, Option.getD_none, List.getElem?_cons_zero, List.getElem?_cons_succ, Nh, R8, Ni, jo, iG, Nj, R9, Nk, f9, fL, jy, Us, Jz, zR, jq, Nm, Np, iH, Tt, Nr, Tv, nY, Tn, Tp, Tq, Tr, cX, dF,
 zT,CQ,zU,zV,zW,zX,zY,zZ,xr,z9,xu,xG,xH,xJ,xM,xO,Aa,CT,Ab,Ac,Ad,Ae,Af,Ag,uH,xP,uI,uJ,uK,uL,uM,uN,xQ,Ah,xR,xT,xU,xV,xW,xX,xY,Ai,xZ,yc,yd,yg,yh,yj,dZ,List.map_cons,List.map_nil,List.length_cons,List.length_nil,List.replicate,List.cons_append,List.nil_append,List.append_nil,List.set_cons_zero,List.set_cons_succ,j8,Nat.reduceAdd,Nat.reduceSub,Nat.zero_add,true_and,and_true,if_true,if_false,reduceIte,Bool.not_true,Bool.not_false,Bool.false_eq_true,Bool.true_and,beq_iff_eq,Bool.and_true,Sd,Sg,Sh,V6,V7,V8,JD,Sq,Ss,Sv,Sw,Sx,V9,Wa,Wb,Sy,SJ,SM,nW,SN,SQ,SX,S5,S6,S7,S8,S9,Tc,Td,Te,Tf,Tg,Ti,Tj,Nq])
theorem Tw {C:Int→Int→Prop}{f:Int→Int→D}{i j:Int}{M:Ms}{Q:DK}:gI C f (.int i) (.int j) M Q=(C i j∧Q (f i j) M):=rfl
theorem Ei {f:Int→Int→D}{i j:Int}{M:Ms}{Q:DK}:kJ f (.int i) (.int j) M Q=Q (f i j) M:=rfl
theorem JH {i j:Int}{M:Ms}{Q:DK}:aN (.int i) (.int j) M Q=Q (.int (i+j)) M:=rfl
end L3
namespace K23
open PySem PySem.Spec L2 L3
abbrev iD (xs:List Int):List D:=xs.map D.int
theorem iI (xs:List Int):nls (iD xs)=true:=LK (λ _=>rfl) xs
local macro_rules | `(tactic| walk_at "ws1_tac") => `(tactic| ((conv => whnf); first
 | refine⟨_,rfl,?_⟩ | refine⟨rfl,?_⟩ | refine⟨Nat.le_of_ble_eq_true rfl,?_⟩ | refine⟨show (0:Int) < _ by decide,?_⟩ | refine⟨show fu _ _ from ⟨by decide,by decide⟩,?_⟩ | refine⟨show Fi _ _ from ⟨by decide,by decide⟩,?_⟩
 | refine⟨show uh _ _ from ⟨by decide,by decide,by decide⟩,?_⟩ | refine⟨show CMul _ _ from .inl ⟨by decide,by decide⟩,?_⟩ | refine⟨show CMul _ _ from .inr ⟨by decide,by decide⟩,?_⟩
 | refine⟨λ h=>absurd (show (1:Nat)=0 from h.1) (by decide),?_⟩ | refine⟨λ h=>absurd (show (2:Nat)=0 from h.1) (by decide),?_⟩ | refine⟨λ h=>absurd (show (3:Nat)=0 from h.1) (by decide),?_⟩))
local macro_rules | `(tactic| walk_at "ws_tac") => `(tactic| ((repeat walk_at "ws1_tac"); try (conv => whnf)))
noncomputable def two (p:Int):List Int:=[p / 256,p % 256]
noncomputable def four (n:Int):List Int:=two (n % 4294967296 / 65536)++two (n % 4294967296 % 65536)
noncomputable def vR:GP:=λ ds Q=>match ds with | [.int p]=>Q (.lst (iD (two p))) | _=>False
noncomputable def tQ:GP:=λ ds Q=>match ds with | [.int p]=>Q (.lst (iD (four p))) | _=>False
theorem CV:dh vR:=λ ds P Q w q=>by
 match ds,q with
 | [.int p],q=>exact w _ q
theorem Aj:dh tQ:=λ ds P Q w q=>by
 match ds,q with
 | [.int p],q=>exact w _ q
theorem tR:∀ ds Q,vR ds Q→cQ 1 1 m6 ds Q:=λ ds Q q=>by
 match ds,q with
 | [.int p],q=>
  refine⟨rfl,?_⟩
  walk_at "ws_tac"
  exact q
theorem qQ:∀ ds Q,tQ ds Q→cQ 3 1 (lR (cl vR)) ds Q:=λ ds Q q=>by
 match ds,q with
 | [.int p],q=>
  refine⟨rfl,?_⟩
  walk_at "ws_tac"
  exact q
noncomputable def Ej:GP:=λ ds Q=>match ds with
 | [.tup []]=>Q (.int 0)
 | [.tup [.int b]]=>Q (.int b)
 | [.tup [.int b,.int c]]=>Q (.int (4 * b+c))
 | _=>False
theorem CW:dh Ej:=λ ds P Q w q=>by
 match ds,q with
 | [.tup []],q=>exact w _ q
 | [.tup [.int b]],q=>exact w _ q
 | [.tup [.int b,.int c]],q=>exact w _ q
theorem Tz:∀ ds Q,Ej ds Q→cQ 3 1 oU ds Q:=λ ds Q q=>by
 match ds,q with
 | [.tup []],q=>refine⟨rfl,?_⟩;walk_at "ws_tac";exact q
 | [.tup [.int b]],q=>
  refine⟨rfl,?_⟩
  walk_at "ws_tac"
  have e:(4 * 0+b:Int)=b:=by omega
  have q:Q (.int b):=q
  rw[← e] at q
  exact q
 | [.tup [.int b,.int c]],q=>
  refine⟨rfl,?_⟩
  walk_at "ws_tac"
  have e:(4 * (4 * 0+b)+c:Int)=4 * b+c:=by omega
  have q:Q (.int (4 * b+c)):=q
  rw[← e] at q
  exact q
noncomputable def flat:List D→Option (List D)
 | []=>some []
 | .lst xs::r=>match flat r with
  | some ys=>some (xs++ys)
  | none=>none
 | _::_=>none
noncomputable def lV:GP:=λ ds Q=>match ds with
 | [.lst ls]=>∃ xs,flat ls=some xs∧xs.length≤sizeLine∧nls xs=true∧Q (.lst xs)
 | _=>False
theorem uO:dh lV:=λ ds P Q w q=>by
 match ds,q with
 | [.lst ls],⟨xs,h1,h2,h3,q⟩=>exact⟨xs,h1,h2,h3,w _ q⟩
theorem qH {E:DEnds}{a:Option D}{st:Ms→Prop} (hst:∀ M,st M):∀ (ls acc xs:List D) (δ:DSt),δ=[a,some (.loc 0),none]∨(∃ z,δ=[a,some (.loc 0),some z])→flat ls=some xs→(acc++xs).length≤sizeLine→(∀ δ',δ'[1]? = some (some (.loc 0))→E.nx δ' [some (.lst (acc++xs))])→fj (aM 2) (iT (zc "list" oK (ao 1) (ak (ao 2) aB))) st E ls δ [some (.lst acc)]
 | [],acc,xs,δ,hd,hf,hl,q=>by
  cases hf
  rw[List.append_nil] at q
  refine q δ ?_
  rcases hd with rfl | ⟨z,rfl⟩ <;> rfl
 | .lst ys::r,acc,xs,δ,hd,hf,hl,q=>by
  unfold flat at hf
  cases e:flat r with
  | none=>rw[e] at hf;cases hf
  | some zs=>
   rw[e] at hf
   cases hf
   have step:∀ δ',δ'=[a,some (.loc 0),some (.lst ys)]→fj (aM 2) (iT (zc "list" oK (ao 1) (ak (ao 2) aB))) st E r δ' [some (.lst (acc++ys))]:=λ δ' e'=>
    qH hst r (acc++ys) zs δ' (.inr ⟨_,e'⟩) e (by rw[List.append_assoc];exact hl) (by rw[List.append_assoc];exact q)
   have hz:acc.length+ys.length≤sizeLine:=by simp at hl;omega
   rcases hd with rfl | ⟨z,rfl⟩
   ·exact⟨rfl,acc,ys,rfl,rfl,hz,hst _,step _ rfl⟩
   ·exact⟨rfl,acc,ys,rfl,rfl,hz,hst _,step _ rfl⟩
 | .non::_,_,_,_,_,hf,_,_=>by cases hf
 | .bl _::_,_,_,_,_,hf,_,_=>by cases hf
 | .int _::_,_,_,_,_,hf,_,_=>by cases hf
 | .str _::_,_,_,_,_,hf,_,_=>by cases hf
 | .ty _::_,_,_,_,_,hf,_,_=>by cases hf
 | .tup _::_,_,_,_,_,hf,_,_=>by cases hf
 | .dct _ _::_,_,_,_,_,hf,_,_=>by cases hf
 | .ins _ _ _::_,_,_,_,_,hf,_,_=>by cases hf
 | .scr _::_,_,_,_,_,hf,_,_=>by cases hf
 | .loc _::_,_,_,_,_,hf,_,_=>by cases hf
 | .cls _::_,_,_,_,_,hf,_,_=>by cases hf
 | .exc _ _ _::_,_,_,_,_,hf,_,_=>by cases hf
theorem Gp:∀ ds Q,lV ds Q→cQ 3 1 zF ds Q:=λ ds Q q=>by
 match ds,q with
 | [.lst ls],⟨xs,h1,h2,h3,q⟩=>
  refine⟨rfl,?_⟩
  walk_at "ws_tac"
  refine qH (a:=some (.lst ls)) (λ M=>rfl) ls [] xs _ (.inl rfl) h1 h2 λ δ' e=>?_
  show bh (ao 1) _ δ' _
  unfold bh ao
  rw[e]
  exact⟨h3,q⟩
inductive Rw where
 | set (b n:Int) | add (b c:Int) | take (b c:Int) | say (b:Int) | ask (b:Int)
 | jump (s:Bool) (p:Int) | jumpif (s:Bool) (b p:Int) | call (s:Bool) (p:Int) | back | stop
 | load (s:Bool) (b c p:Int) | jumpby (s:Bool) (b p:Int) | alike (b p q:Int)
noncomputable def Rw.d:Rw→D
 | .set b n=>.tup [.str "set",.int b,.int n]
 | .add b c=>.tup [.str "add",.int b,.int c]
 | .take b c=>.tup [.str "take",.int b,.int c]
 | .say b=>.tup [.str "say",.int b]
 | .ask b=>.tup [.str "ask",.int b]
 | .jump _ p=>.tup [.str "jump",.int p]
 | .jumpif _ b p=>.tup [.str "jumpif",.int b,.int p]
 | .call _ p=>.tup [.str "call",.int p]
 | .back=>.tup [.str "back"]
 | .stop=>.tup [.str "stop"]
 | .load _ b c p=>.tup [.str "load",.int b,.int c,.int p]
 | .jumpby _ b p=>.tup [.str "jumpby",.int b,.int p]
 | .alike b p q=>.tup [.str "alike",.int b,.int p,.int q]
noncomputable def Rw.near:Rw→D
 | .jump s _ | .jumpif s _ _ | .call s _ | .load s _ _ _ | .jumpby s _ _=>.bl s
 | _=>.non
noncomputable def Rw.kind:Rw→Str
 | .set _ _=>"set" | .add _ _=>"add" | .take _ _=>"take" | .say _=>"say" | .ask _=>"ask" | .jump _ _=>"jump" | .jumpif _ _ _=>"jumpif" | .call _ _=>"call" | .back=>"back" | .stop=>"stop" | .load _ _ _ _=>"load" | .jumpby _ _ _=>"jumpby" | .alike _ _ _=>"alike"
noncomputable def Rw.code:Rw→D
 | .set _ _=>.tup [.str "set",.non,.int 16,.int 1,.int 4]
 | .add _ _=>.tup [.str "add",.non,.int 32,.int 2,.int 0]
 | .take _ _=>.tup [.str "take",.non,.int 48,.int 2,.int 0]
 | .say _=>.tup [.str "say",.non,.int 64,.int 1,.int 0]
 | .ask _=>.tup [.str "ask",.non,.int 68,.int 1,.int 0]
 | .jump true _=>.tup [.str "jump",.bl true,.int 80,.int 0,.int 1]
 | .jump false _=>.tup [.str "jump",.bl false,.int 81,.int 0,.int 2]
 | .call true _=>.tup [.str "call",.bl true,.int 82,.int 0,.int 1]
 | .call false _=>.tup [.str "call",.bl false,.int 83,.int 0,.int 2]
 | .jumpif true _ _=>.tup [.str "jumpif",.bl true,.int 84,.int 1,.int 1]
 | .jumpif false _ _=>.tup [.str "jumpif",.bl false,.int 88,.int 1,.int 2]
 | .back=>.tup [.str "back",.non,.int 98,.int 0,.int 0]
 | .stop=>.tup [.str "stop",.non,.int 99,.int 0,.int 0]
 | .jumpby true _ _=>.tup [.str "jumpby",.bl true,.int 100,.int 1,.int 1]
 | .jumpby false _ _=>.tup [.str "jumpby",.bl false,.int 104,.int 1,.int 2]
 | .load true _ _ _=>.tup [.str "load",.bl true,.int 112,.int 2,.int 1]
 | .load false _ _ _=>.tup [.str "load",.bl false,.int 128,.int 2,.int 2]
 | .alike _ _ _=>.tup [.str "alike",.non,.int 144,.int 1,.int 4]
theorem CZ {β:Type}{xs:List β}{k:Nat}{x:β} (h:xs[k]? = some x):rK xs (k:Int)=some x:=by
 have hk:=(List.getElem?_eq_some_iff.mp h).1
 unfold rK Hx
 rw[if_pos (by omega),if_pos (by omega)]
 simpa using h
theorem Nt {β:Type}{a:β}{t:List β}:rK (a::t) 0=some a:=CZ (k:=0) rfl
theorem Wc {β:Type}{a b:β}{t:List β}:rK (a::b::t) 1=some b:=CZ (k:=1) rfl
noncomputable def codeOf (kind:Str) (near:D):List D→Option D
 | .tup (.str k::n::r)::rest=>if (k==kind&&nM n near)=true then some (.tup (.str k::n::r)) else codeOf kind near rest
 | _=>none
noncomputable def codes:List D:=match jR with | .tup ds=>ds | _=>[]
noncomputable def nb:D→Bool
 | .non | .bl _=>true
 | _=>false
noncomputable def Xb:List D→Bool
 | .tup (.str _::n::_)::rest=>nb n&&Xb rest
 | []=>true
 | _=>false
theorem TF {x y:D} (hx:nb x=true) (hy:nb y=true) {M:Ms}{Q:DK} (q:Q (.bl (nM x y)) M):jy x y M Q:=by
 cases x <;> first | (cases hx;done) | skip
 all_goals cases y <;> first | (cases hy;done) | exact⟨⟨rfl,rfl,Nat.le_of_ble_eq_true rfl,Nat.le_of_ble_eq_true rfl⟩,q⟩
theorem vU {kind:Str}{near:D}{st:Ms→Prop} (hst:∀ M,st M) {E:DEnds} (hn:nb near=true):∀ (items:List D) (c:D) (z:Option D),Xb items=true→codeOf kind near items=some c→E.rt c [] →
  fj (aM 2) (bC (rR (aJ (aL jy (aL c7 (ao 2) (dC (.int 0))) (ao 0))) (aJ (aL jy (aL c7 (ao 2) (dC (.int 1))) (ao 1)))) (bh (ao 2)) aW) st E items [some (.str kind),some near,z] []
 | [],c,z,_,h,_=>by cases h
 | .tup (.str k::n::r)::rest,c,z,ho,h,q=>by
  unfold Xb at ho
  rw[Bool.and_eq_true] at ho
  unfold codeOf at h
  have again:(k==kind&&nM n near)=false→fj (aM 2) (bC (rR (aJ (aL jy (aL c7 (ao 2) (dC (.int 0))) (ao 0))) (aJ (aL jy (aL c7 (ao 2) (dC (.int 1))) (ao 1)))) (bh (ao 2)) aW) st E rest [some (.str kind),some near,some (.tup (.str k::n::r))] []:=λ e=>by
   rw[e] at h
   exact vU hst hn rest c _ ho.2 h q
  refine⟨_,Nt,?_⟩
  show (if (k==kind)=true then _ else _)
  cases e1:k==kind with
  | false=>
   rw[if_neg (by simp)]
   show (if false=true then _ else _)
   rw[if_neg (by simp)]
   exact⟨hst _,again (by rw[e1];rfl)⟩
  | true=>
   rw[if_pos rfl]
   refine⟨_,Wc,?_⟩
   simp only [List.set_cons_succ,List.set_cons_zero,dF,cX]
   refine TF ho.1 hn ?_
   show (if nM n near=true then _ else _)
   cases e2:nM n near with
   | false=>
    rw[if_neg (by simp)]
    exact⟨hst _,again (by rw[e1,e2];rfl)⟩
   | true=>
    rw[if_pos rfl]
    rw[e1,e2] at h
    cases h
    exact q
 | .tup (.str _::[])::_,_,_,_,h,_=>by cases h
 | .tup []::_,_,_,_,h,_=>by cases h
noncomputable def j9:GP:=λ ds Q=>∃ kind near c,ds=[.str kind,near]∧nb near=true∧codeOf kind near codes=some c∧nl (fz [] c)=true∧Q (fz [] c)
theorem qR:dh j9:=λ ds P Q w ⟨kind,near,c,h1,h2,h3,h4,q⟩=>⟨kind,near,c,h1,h2,h3,h4,w _ q⟩
theorem Gq:Xb codes=true:=by kernel_rfl
theorem Ak:∀ ds Q,j9 ds Q→cQ 3 2 tD ds Q:=λ ds Q ⟨kind,near,c,h,hn,hc,h4,q⟩=>by
 subst h
 refine⟨rfl,codes,rfl,rfl,?_⟩
 exact vU (λ _=>rfl) hn codes c none Gq hc ⟨h4,q⟩
theorem cJ:∀ r:Rw,codeOf r.kind r.near codes=some r.code
 | .set _ _=>by kernel_rfl
 | .add _ _=>by kernel_rfl
 | .take _ _=>by kernel_rfl
 | .say _=>by kernel_rfl
 | .ask _=>by kernel_rfl
 | .jump true _=>by kernel_rfl
 | .jump false _=>by kernel_rfl
 | .jumpif true _ _=>by kernel_rfl
 | .jumpif false _ _=>by kernel_rfl
 | .call true _=>by kernel_rfl
 | .call false _=>by kernel_rfl
 | .back=>by kernel_rfl
 | .stop=>by kernel_rfl
 | .load true _ _ _=>by kernel_rfl
 | .load false _ _ _=>by kernel_rfl
 | .jumpby true _ _=>by kernel_rfl
 | .jumpby false _ _=>by kernel_rfl
 | .alike _ _ _=>by kernel_rfl
end K23
namespace K23
open PySem PySem.Spec L2 L3
local macro_rules | `(tactic| walk_at "ws1_tac") => `(tactic| ((conv => whnf); first
 | refine⟨_,rfl,?_⟩ | refine⟨rfl,?_⟩ | refine⟨Nat.le_of_ble_eq_true rfl,?_⟩ | refine⟨show (0:Int) < _ by decide,?_⟩ | refine⟨show fu _ _ from ⟨by decide,by decide⟩,?_⟩ | refine⟨show Fi _ _ from ⟨by decide,by decide⟩,?_⟩
 | refine⟨show uh _ _ from ⟨by decide,by decide,by decide⟩,?_⟩ | refine⟨show CMul _ _ from .inl ⟨by decide,by decide⟩,?_⟩ | refine⟨show CMul _ _ from .inr ⟨by decide,by decide⟩,?_⟩
 | refine⟨λ h=>absurd (show (1:Nat)=0 from h.1) (by decide),?_⟩ | refine⟨λ h=>absurd (show (2:Nat)=0 from h.1) (by decide),?_⟩ | refine⟨λ h=>absurd (show (3:Nat)=0 from h.1) (by decide),?_⟩))
local macro_rules | `(tactic| walk_at "ws_tac") => `(tactic| ((repeat walk_at "ws1_tac"); try (conv => whnf)))
noncomputable def At (cs:List Int) (a:Int) (xs:List Int):Prop:=∃ pre post,cs=pre++(xs++post)∧(pre.length:Int)=a
theorem At.nn {cs:List Int}{a:Int}{xs:List Int} (h:At cs a xs):0≤a:=by obtain⟨_,_,_,rfl⟩:=h;omega
theorem At.le {cs:List Int}{a:Int}{xs:List Int} (h:At cs a xs):a+xs.length≤cs.length:=by
 obtain⟨pre,post,rfl,rfl⟩:=h
 simp only [List.length_append]
 omega
theorem At.hd {cs:List Int}{a x:Int}{xs:List Int} (h:At cs a (x::xs)):rK (iD cs) a=some (.int x):=by
 obtain⟨pre,post,rfl,rfl⟩:=h
 refine CZ ?_
 simp
theorem At.tl {cs:List Int}{a x:Int}{xs:List Int} (h:At cs a (x::xs)):At cs (a+1) xs:=by
 obtain⟨pre,post,rfl,rfl⟩:=h
 exact⟨pre++[x],post,by simp,by simp⟩
theorem At.take {cs:List Int}{xs ys:List Int}{a:Int} (h:At cs a (ys++xs)):At cs a ys:=by
 obtain⟨pre,post,e,l⟩:=h
 exact⟨pre,xs++post,by rw[e];simp,l⟩
noncomputable def dz:GP:=λ ds Q=>∃ (cs:List Int) (a x y:Int) (r:List Int),ds=[.lst (iD cs),.int a]∧At cs a (x::y::r)∧Q (.int (256 * x+y))
theorem qT:dh dz:=λ ds P Q w ⟨cs,a,x,y,r,h1,h2,q⟩=>⟨cs,a,x,y,r,h1,h2,w _ q⟩
theorem Al:∀ ds Q,dz ds Q→cQ 2 2 tG ds Q:=λ ds Q ⟨cs,a,x,y,r,h1,h2,q⟩=>by
 subst h1
 refine⟨rfl,?_⟩
 refine⟨_,h2.hd,.inl ⟨by decide,by decide⟩,_,h2.tl.hd,?_⟩
 exact⟨rfl,q⟩
noncomputable def sgn (v:Int):Int:=if v≤2147483647 then v else v - 4294967296
noncomputable def dW:GP:=λ ds Q=>∃ (cs:List Int) (a x y z u:Int) (r:List Int),ds=[.lst (iD cs),.int a]∧At cs a (x::y::z::u::r)∧Q (.int (sgn (65536 * (256 * x+y)+(256 * z+u))))
theorem pW:dh dW:=λ ds P Q w ⟨cs,a,x,y,z,u,r,h1,h2,q⟩=>⟨cs,a,x,y,z,u,r,h1,h2,w _ q⟩
theorem gA (cs:List Int) (a:Int):nls [.lst (iD cs),.int a]=true:=by
 show (nls (iD cs)&&(true&&true))=true
 rw[iI];rfl
theorem yp:∀ ds Q,dW ds Q→cQ 3 2 (qC (cl dz)) ds Q:=λ ds Q ⟨cs,a,x,y,z,u,r,h1,h2,q⟩=>by
 subst h1
 refine⟨rfl,?_⟩
 refine⟨⟨by decide,by decide,by decide⟩,gA cs a,cs,a,x,y,z::u::r,rfl,h2,.inl ⟨by decide,by decide⟩,?_⟩
 refine⟨gA cs _,cs,a+2,z,u,r,rfl,?_,?_⟩
 ·have:=h2.tl.tl
  rw[show a+1+1=a+2 by omega] at this
  exact this
 show (if decide (65536 * (256 * x+y)+(256 * z+u)≤2147483647)=true then _ else _)
 unfold sgn at q
 by_cases h:65536 * (256 * x+y)+(256 * z+u)≤2147483647
 ·rw[if_pos (decide_eq_true h)]
  rw[if_pos h] at q
  exact⟨rfl,q⟩
 ·rw[if_neg (λ e=>h (of_decide_eq_true e))]
  rw[if_neg h] at q
  exact⟨⟨by decide,by decide,by decide⟩,rfl,q⟩
noncomputable def stp (v:Int):Int:=if v≤127 then v else v - 256
noncomputable def mQ:GP:=λ ds Q=>∃ (cs:List Int) (a x:Int) (r:List Int),ds=[.lst (iD cs),.int a]∧At cs a (x::r)∧Q (.int (stp x))
theorem tU:dh mQ:=λ ds P Q w ⟨cs,a,x,r,h1,h2,q⟩=>⟨cs,a,x,r,h1,h2,w _ q⟩
theorem Dc:∀ ds Q,mQ ds Q→cQ 2 2 vQ ds Q:=λ ds Q ⟨cs,a,x,r,h1,h2,q⟩=>by
 subst h1
 refine⟨rfl,?_⟩
 refine⟨_,h2.hd,?_⟩
 show (if decide (x≤127)=true then _ else _)
 unfold stp at q
 by_cases h:x≤127
 ·rw[if_pos (decide_eq_true h)]
  rw[if_pos h] at q
  exact⟨_,h2.hd,rfl,q⟩
 ·rw[if_neg (λ e=>h (of_decide_eq_true e))]
  rw[if_neg h] at q
  exact⟨_,h2.hd,rfl,q⟩
noncomputable def bJ:GP:=λ ds Q=>match ds with
 | [.int n,.int c]=>(c=0∧Q (.tup []))∨(c=1∧Q (.tup [.int n]))∨(c=2∧Q (.tup [.int (n / 4),.int (n % 4)]))
 | _=>False
theorem qU:dh bJ:=λ ds P Q w q=>by
 match ds,q with
 | [.int n,.int c],q=>
  rcases q with ⟨h,q⟩ | ⟨h,q⟩ | ⟨h,q⟩
  ·exact .inl ⟨h,w _ q⟩
  ·exact .inr (.inl ⟨h,w _ q⟩)
  ·exact .inr (.inr ⟨h,w _ q⟩)
theorem Am:∀ ds Q,bJ ds Q→cQ 2 2 tH ds Q:=λ ds Q q=>by
 match ds,q with
 | [.int n,.int c],q=>
  refine⟨rfl,?_⟩
  rcases q with ⟨rfl,q⟩ | ⟨rfl,q⟩ | ⟨rfl,q⟩
  ·walk_at "ws_tac";exact q
  ·walk_at "ws_tac";exact q
  ·walk_at "ws_tac";exact q
theorem yq {s:Int}{n:Nat}:cnt s (s+2 * (n:Int)) 2=n:=by
 unfold cnt Builtin.Range.rangeSize
 simp only [show (2:Int) > 0 by decide,if_true]
 split <;> omega
theorem JK {s:Int}{n:Nat}:cnt s (s+4 * (n:Int)) 4=n:=by
 unfold cnt Builtin.Range.rangeSize
 simp only [show (4:Int) > 0 by decide,if_true]
 split <;> omega
theorem vV {s c:Int}{n:Nat}:sV s c (n+1) = .int s::sV (s+c) c n:=by
 unfold sV
 rw[List.range_succ_eq_map]
 simp only [List.map_cons,List.map_map]
 congr 1
 ·simp
 ·refine List.map_congr_left λ i _=>?_
  show D.int _=D.int _
  congr 1
  show s+((i+1:Nat):Int) * c=s+c+(i:Int) * c
  push_cast
  rw[Int.add_mul]
  omega
noncomputable def pairs:List Int→List Int
 | x::y::r=>(256 * x+y)::pairs r
 | _=>[]
noncomputable def jr:List Int→List Int
 | x::y::z::u::r=>sgn (65536 * (256 * x+y)+(256 * z+u))::jr r
 | _=>[]
theorem kh {j:Nat}{cs:List Int}{Q:List D→Ms→Prop}{M:Ms}:∀ (n:Nat) (s:Int) (body acc:List Int),At cs s body→body.length=2 * n→acc.length+n≤100→Q (iD (acc++pairs body)) M →
  lD [none,some j] (aM 0) uw (bT (cl dz) (ak (ao 1) (ak (ao 0) aB))) (λ _=>True) Q (sV s 2 n) (iD acc) [none,some (.lst (iD cs))] M
 | 0,s,body,acc,h,hl,ha,q=>by
  have:body=[]:=List.length_eq_zero_iff.mp hl
  subst this
  rw[show acc++pairs []=acc by simp[pairs]] at q
  exact q
 | n+1,s,body,acc,h,hl,ha,q=>by
  match body,hl with
  | x::y::r,hl=>
   rw[vV]
   refine⟨gA cs s,cs,s,x,y,r,rfl,h,True.intro,?_,?_⟩
   ·rw[List.length_map];exact Nat.lt_of_lt_of_le (show acc.length < 101 by omega) (by decide)
   ·have h2:=h.tl.tl
    rw[show s+1+1=s+2 by omega] at h2
    have:=kh (j:=j) n (s+2) r (acc++[256 * x+y]) h2 (by simp at hl;omega) (by simp;omega) (by rw[List.append_assoc];exact q)
    rw[show iD (acc++[256 * x+y])=iD acc++[.int (256 * x+y)] by simp] at this
    exact this
theorem tV {j:Nat}{cs:List Int}{Q:List D→Ms→Prop}{M:Ms}:∀ (n:Nat) (s:Int) (body acc:List Int),At cs s body→body.length=4 * n→acc.length+n≤100→Q (iD (acc++jr body)) M →
  lD [none,some j] (aM 0) uw (bT (cl dW) (ak (ao 1) (ak (ao 0) aB))) (λ _=>True) Q (sV s 4 n) (iD acc) [none,some (.lst (iD cs))] M
 | 0,s,body,acc,h,hl,ha,q=>by
  have:body=[]:=List.length_eq_zero_iff.mp hl
  subst this
  rw[show acc++jr []=acc by simp[jr]] at q
  exact q
 | n+1,s,body,acc,h,hl,ha,q=>by
  match body,hl with
  | x::y::z::u::r,hl=>
   rw[vV]
   refine⟨gA cs s,cs,s,x,y,z,u,r,rfl,h,True.intro,?_,?_⟩
   ·rw[List.length_map];exact Nat.lt_of_lt_of_le (show acc.length < 101 by omega) (by decide)
   ·have h2:=h.tl.tl.tl.tl
    rw[show s+1+1+1+1=s+4 by omega] at h2
    have:=tV (j:=j) n (s+4) r (acc++[sgn (65536 * (256 * x+y)+(256 * z+u))]) h2 (by simp at hl;omega) (by simp;omega) (by rw[List.append_assoc];exact q)
    rw[show iD (acc++[sgn (65536 * (256 * x+y)+(256 * z+u))])=iD acc++[.int (sgn (65536 * (256 * x+y)+(256 * z+u)))] by simp] at this
    exact this
end K23
namespace K23
open PySem PySem.Spec L2 L3
structure Cs (cs:List Int):Prop where
 c:∀ x∈cs,0≤x∧x < 256
 l:cs.length≤14
abbrev In (a:Int):Prop:=-2≤a∧a≤20
theorem TQ {a:Int} (h:In a):Gi (.int a)=true:=by
 have z:∀ n:Fin 23,Gi (.int ((n.1:Nat) - 2:Int))=true:=by decide +kernel
 have:=z ⟨(a+2).toNat,by omega⟩
 rw[show (((a+2).toNat:Nat):Int) - 2=a by omega] at this
 exact this
theorem oZ {cs:List Int}{a:Int} (h:0≤a) (h':a≤cs.length):At cs a (cs.drop a.toNat):=
 ⟨cs.take a.toNat,[],by rw[List.append_nil,List.take_append_drop],by rw[List.length_take];omega⟩
theorem Cs.drop {cs:List Int} (h:Cs cs) {n:Nat}:∀ x∈cs.drop n,0≤x∧x < 256:=λ x hx=>h.c x (List.mem_of_mem_drop hx)
noncomputable def lsN (j:Int) (cs:List Int) (a:Int):Option (Int×List Int):=
 if a < 0 then none else match cs.drop a.toNat with
  | x::y::r=>if j * (256 * x+y)≤r.length then some (256 * x+y,r.take (j * (256 * x+y)).toNat) else none
  | _=>none
abbrev Ao (C:Addr) (a:Int):EX:=⟨C,["place"],[.int a]⟩
theorem fmts {a:Int} (h:In a):[D.int a].all Gi=true:=by show (Gi (.int a)&&true)=true;rw[TQ h];rfl
theorem le1 {d:D}:[d].length≤sizeLine:=Nat.le_of_ble_eq_true rfl
noncomputable def lW (C:Addr):GPX:=λ ds Q X=>∃ (cs:List Int) (a j:Int),ds=[.lst (iD cs),.int a,.int j]∧Cs cs∧In a∧(j=2∨j=4)∧(match lsN j cs a with | some (n,_)=>Q (.int (a+2+j * n)) | none=>X (Ao C a))
theorem uP {C:Addr}:monoX (lW C):=λ ds P Q x y w v ⟨cs,a,j,h1,h2,h3,h4,q⟩=>⟨cs,a,j,h1,h2,h3,h4,by
 revert q
 cases lsN j cs a with
 | none=>exact v _
 | some z=>exact w _⟩
theorem Gr {C:Addr}:∀ ds Q X,lW C ds Q X→nQ 4 3 (m9 C (cl dz)) ds Q X:=λ ds Q X ⟨cs,a,j,h1,hc,ha,hj,q⟩=>by
 subst h1
 refine⟨rfl,?_⟩
 have hlen:((iD cs).length:Int)=cs.length:=by rw[List.length_map]
 show (if decide (a < 0)=true then _ else _)
 unfold lsN at q
 by_cases h0:a < 0
 ·rw[if_pos (decide_eq_true h0)]
  rw[if_pos h0] at q
  exact⟨rfl,fmts ha,le1,rfl,q⟩
 rw[if_neg (λ e=>h0 (of_decide_eq_true e))]
 rw[if_neg h0] at q
 refine⟨(iD cs).length,rfl,?_⟩
 show (if decide (((iD cs).length:Int) < a+2)=true then _ else _)
 have hd:=oZ (cs:=cs) (a:=a) (by omega)
 have hl:=List.length_drop (l:=cs) (i:=a.toNat)
 by_cases h1:(cs.length:Int) < a+2
 ·rw[if_pos (decide_eq_true (by rw[hlen];exact h1))]
  have:X (Ao C a):=by
   generalize cs.drop a.toNat=z at q hl
   rcases z with _ | ⟨x,_ | ⟨y,r⟩⟩
   ·exact q
   ·exact q
   ·rw[List.length_cons,List.length_cons] at hl;omega
  exact⟨rfl,fmts ha,le1,rfl,this⟩
 rw[if_neg (λ e=>h1 (by have:=of_decide_eq_true e;omega))]
 have hd:=hd (by omega)
 have hD:=hc.drop (n:=a.toNat)
 generalize cs.drop a.toNat=z at q hl hd hD
 rcases z with _ | ⟨x,_ | ⟨y,r⟩⟩
 ·simp at hl;omega
 ·simp at hl;omega
 ·refine⟨gA cs a,cs,a,x,y,r,rfl,hd,?_,?_⟩
  ·rcases hj with rfl | rfl <;> exact .inl ⟨by decide,by decide⟩
  refine⟨(iD cs).length,rfl,?_⟩
  show (if decide (((iD cs).length:Int) < a+2+j * (256 * x+y))=true then _ else _)
  rw[List.length_cons,List.length_cons] at hl
  have q:(match (if j * (256 * x+y)≤r.length then some (256 * x+y,r.take (j * (256 * x+y)).toNat) else none) with | some (n,_)=>Q (.int (a+2+j * n)) | none=>X (Ao C a)):=q
  by_cases h2:j * (256 * x+y)≤r.length
  ·rw[if_neg (λ e=>by have:=of_decide_eq_true e;omega)]
   rw[if_pos h2] at q
   exact⟨rfl,q⟩
  ·rw[if_pos (decide_eq_true (by omega))]
   rw[if_neg h2] at q
   exact⟨rfl,fmts ha,le1,rfl,q⟩
theorem eX (cs:List Int) (a j:Int):nls [.lst (iD cs),.int a,.int j]=true:=by
 show (nls (iD cs)&&(true&&(true&&true)))=true
 rw[iI];rfl
noncomputable def eY (C:Addr):GPX:=λ ds Q X=>∃ (cs:List Int) (a:Int),ds=[.lst (iD cs),.int a]∧Cs cs∧In a∧(match lsN 4 cs a with | some (n,b)=>Q (.tup [.lst (iD (jr b)),.int (a+2+4 * n)]) | none=>X (Ao C a))
theorem mW {C:Addr}:monoX (eY C):=λ ds P Q x y w v ⟨cs,a,h1,h2,h3,q⟩=>⟨cs,a,h1,h2,h3,by
 revert q
 cases lsN 4 cs a with
 | none=>exact v _
 | some z=>exact w _⟩
theorem tW {j:Int}{cs:List Int}{a n:Int}{b:List Int} (hc:Cs cs) (hj:j=2∨j=4) (h:lsN j cs a=some (n,b)):0≤a∧0≤n∧(b.length:Int)=j * n∧At cs (a+2) b∧a+2+j * n≤cs.length∧∃ x y r,cs.drop a.toNat=x::y::r∧n=256 * x+y∧b=r.take (j * n).toNat∧At cs a (x::y::r):=by
 unfold lsN at h
 split at h
 ·cases h
 rename_i h0
 split at h
 ·rename_i x y r e
  split at h
  ·rename_i h2
   cases h
   have hD:=hc.drop (n:=a.toNat)
   have hl:=List.length_drop (l:=cs) (i:=a.toNat)
   rw[e] at hl hD
   rw[List.length_cons,List.length_cons] at hl
   have hx:=hD x (by simp)
   have hy:=hD y (by simp)
   have hd:=oZ (cs:=cs) (a:=a) (by omega) (by omega)
   rw[e] at hd
   have h2':=hd.tl.tl
   rw[show a+1+1=a+2 by omega] at h2'
   have hjn:0≤j * (256 * x+y):=by rcases hj with rfl | rfl <;> omega
   refine⟨by omega,by omega,?_,?_,by omega,x,y,r,e,rfl,rfl,hd⟩
   ·rw[List.length_take];omega
   ·rw[← List.take_append_drop (j * (256 * x+y)).toNat r] at h2'
    exact h2'.take
  ·cases h
 ·cases h
theorem Pn {Q:D→Prop}{ts:List Int}{i:Int} (q:Q (.tup [.lst (iD ts),.int i])):nl (fz [] (.tup [.lst (iD ts),.int i]))=true∧Q (fz [] (.tup [.lst (iD ts),.int i])):=by
 refine⟨?_,q⟩
 show (nls (iD ts)&&(true&&true))=true
 rw[iI];rfl
theorem qW {C:Addr}:∀ ds Q X,eY C ds Q X→nQ 3 2 (lU (lW C) (cl dW)) ds Q X:=λ ds Q X ⟨cs,a,h1,hc,ha,q⟩=>by
 subst h1
 refine⟨rfl,eX cs a 4,cs,a,4,rfl,hc,ha,.inr rfl,?_⟩
 cases e:lsN 4 cs a with
 | none=>rw[e] at q;exact⟨rfl,q⟩
 | some z=>
  obtain⟨n,b⟩:=z
  rw[e] at q
  obtain⟨a0,n0,hb,hA,hle,_⟩:=tW hc (.inr rfl) e
  obtain⟨k,rfl⟩:=Int.eq_ofNat_of_zero_le n0
  have hl:=hc.l
  refine⟨⟨⟨by omega,by omega,by omega,by omega⟩,.inr rfl⟩,True.intro,?_⟩
  rw[JK]
  refine tV (acc:=[]) k (a+2) b hA (by omega) (by simp;omega) ?_
  exact⟨Nat.le_of_ble_eq_true rfl,Pn q⟩
noncomputable def gU (C:Addr):GPX:=λ ds Q X=>∃ (cs:List Int) (a:Int),ds=[.lst (iD cs),.int a]∧Cs cs∧In a∧(match lsN 2 cs a with | some (n,b)=>Q (.tup [.lst (iD (pairs b)),.int (a+2+2 * n)]) | none=>X (Ao C a))
theorem o7 {C:Addr}:monoX (gU C):=λ ds P Q x y w v ⟨cs,a,h1,h2,h3,q⟩=>⟨cs,a,h1,h2,h3,by
 revert q
 cases lsN 2 cs a with
 | none=>exact v _
 | some z=>exact w _⟩
theorem uQ {C:Addr}:∀ ds Q X,gU C ds Q X→nQ 3 2 (oW (lW C) (cl dz)) ds Q X:=λ ds Q X ⟨cs,a,h1,hc,ha,q⟩=>by
 subst h1
 refine⟨rfl,eX cs a 2,cs,a,2,rfl,hc,ha,.inl rfl,?_⟩
 cases e:lsN 2 cs a with
 | none=>rw[e] at q;exact⟨rfl,q⟩
 | some z=>
  obtain⟨n,b⟩:=z
  rw[e] at q
  obtain⟨a0,n0,hb,hA,hle,_⟩:=tW hc (.inl rfl) e
  obtain⟨k,rfl⟩:=Int.eq_ofNat_of_zero_le n0
  have hl:=hc.l
  refine⟨⟨⟨by omega,by omega,by omega,by omega⟩,.inl rfl⟩,True.intro,?_⟩
  rw[yq]
  refine kh (acc:=[]) k (a+2) b hA (by omega) (by simp;omega) ?_
  exact⟨Nat.le_of_ble_eq_true rfl,Pn q⟩
end K23
namespace K23
open PySem PySem.Spec L2 L3
noncomputable def many (b:Int):Int:=if b=0 then 1 else if b=1 then 4 else 16
noncomputable def codeFrom (c:Int):List D→Option D
 | .tup [.str k,n,.int f,.int b,.int m]::rest=>if 0≤c - f∧c - f < many b then some (.tup [.str k,n,.int f,.int b,.int m]) else codeFrom c rest
 | _=>none
noncomputable def Xc:List D→Bool
 | .tup [.str _,_,.int _,.int b,.int _]::rest=>(b==0 || b==1 || b==2)&&Xc rest
 | []=>true
 | _=>false
theorem Gs:Xc codes=true:=by kernel_rfl
theorem firsts {b:Int} (h:(b==0 || b==1 || b==2)=true) {M:Ms}{Q:DK} (q:Q (.int (many b)) M):c7 cT (.int b) M Q:=by
 simp only [Bool.or_eq_true,beq_iff_eq] at h
 rcases h with (rfl | rfl) | rfl
 ·exact⟨_,rfl,q⟩
 ·exact⟨_,rfl,q⟩
 ·exact⟨_,rfl,q⟩
theorem Gu {c:Int}{st:Ms→Prop} (hst:∀ M,st M) {E:DEnds}:∀ (items:List D) (z:Option D),Xc items=true→(∀ d,codeFrom c items=some d→E.rt d [])→(codeFrom c items=none→∀ z',E.nx [some (.int c),z'] []) →
  fj (aM 1) (bC (aJ (cR pQ qM (dC (.int 0)) (aL (kJ λ i j=>.int (i - j)) (ao 0) (aL c7 (ao 1) (dC (.int 2)))) (aL c7 (dC cT) (aL c7 (ao 1) (dC (.int 3)))))) (bh (ao 1)) aW) st E items [some (.int c),z] []:=by
 intro items
 induction items with
 | nil=>intro z _ _ q;exact q rfl z
 | cons it rest ih=>
  intro z ho h q
  unfold Xc at ho
  split at ho
  case h_1 x k n f b m rest' e=>
   obtain⟨rfl,rfl⟩:=List.cons.inj e
   rw[Bool.and_eq_true] at ho
   unfold codeFrom at h q
   refine⟨_,rfl,?_⟩
   have go:¬ (0≤c - f∧c - f < many b)→fj (aM 1) (bC (aJ (cR pQ qM (dC (.int 0)) (aL (kJ λ i j=>.int (i - j)) (ao 0) (aL c7 (ao 1) (dC (.int 2)))) (aL c7 (dC cT) (aL c7 (ao 1) (dC (.int 3)))))) (bh (ao 1)) aW) st E rest [some (.int c),some (.tup [.str k,n,.int f,.int b,.int m])] []:=λ hn=>by
    rw[if_neg hn] at h q
    exact ih _ ho.2 h q
   have gl:∀ (i j:Int) (M:Ms) (Q:DK),qM (.int i) (.int j) M Q=Q (.bl (decide (i < j))) M:=λ _ _ _ _=>rfl
   have g0:∀ (i j:Int) (M:Ms) (Q:DK),pQ (.int i) (.int j) M Q=Q (.bl (decide (i≤j))) M:=λ _ _ _ _=>rfl
   simp only [Ei,g0]
   by_cases h0:0≤c - f
   ·rw[decide_eq_true h0]
    refine⟨_,rfl,?_⟩
    simp only []
    refine firsts ho.1 ?_
    simp only [gl]
    by_cases h1:c - f < many b
    ·rw[decide_eq_true h1]
     rw[if_pos ⟨h0,h1⟩] at h
     exact h _ rfl
    ·rw[decide_eq_false h1]
     exact⟨hst _,go (λ z=>h1 z.2)⟩
   ·rw[decide_eq_false h0]
    exact⟨hst _,go (λ z=>h0 z.1)⟩
  case h_2 e=>cases e
  case h_3=>cases ho
noncomputable def cW:GP:=λ ds Q=>∃ c:Int,ds=[.int c]∧(∀ d,codeFrom c codes=some d→nl (fz [] d)=true∧Q (fz [] d))∧(codeFrom c codes=none→Q .non)
theorem pX:dh cW:=λ ds P Q w ⟨c,h1,h2,h3⟩=>⟨c,h1,λ d e=>⟨(h2 d e).1,w _ (h2 d e).2⟩,λ e=>w _ (h3 e)⟩
theorem yr:∀ ds Q,cW ds Q→cQ 2 1 qD ds Q:=λ ds Q ⟨c,h1,h2,h3⟩=>by
 subst h1
 refine⟨rfl,codes,rfl,rfl,?_⟩
 exact Gu (λ _=>rfl) codes none Gs h2 λ e z=>⟨rfl,h3 e⟩
theorem Pr {c f b m:Int}{k:Str}{n:D}{d:Option D}{rest:List D} (h:¬ (0≤c - f∧c - f < many b)) (r:codeFrom c rest=d):codeFrom c (.tup [.str k,n,.int f,.int b,.int m]::rest)=d:=by
 unfold codeFrom
 rw[if_neg h]
 exact r
theorem JL {c f b m:Int}{k:Str}{n:D}{rest:List D} (h:0≤c - f∧c - f < many b):codeFrom c (.tup [.str k,n,.int f,.int b,.int m]::rest)=some (.tup [.str k,n,.int f,.int b,.int m]):=by
 unfold codeFrom
 rw[if_pos h]
theorem m0:many 0=1:=rfl
theorem m1:many 1=4:=rfl
theorem m2:many 2=16:=rfl
local macro_rules | `(tactic| walk_at "cf_tac") => `(tactic| repeat (first | exact JL (by simp only [m0, m1, m2]; omega) | exact (rfl : codeFrom _ [] = none) | refine Pr (by simp only [m0, m1, m2]; omega) ?_))
noncomputable def cA:GP:=λ ds Q=>∃ (kind:Str) (near:D) (f b m:Int) (cs:List Int) (a:Int) (ts:List Int),ds=[.tup [.str kind,near,.int f,.int b,.int m],.lst (iD cs),.int a]∧0≤a∧a < 65536 ∧
 ((kind="set"∧∃ x y z u r,At cs (a+1) (x::y::z::u::r)∧ts=[sgn (65536 * (256 * x+y)+(256 * z+u))]) ∨
   ((kind == "set")=false∧near = .bl true∧∃ x r,At cs (a+1) (x::r)∧ts=[a+2+stp x]) ∨
   ((kind == "set")=false∧(near = .non∨near = .bl false)∧∃ (n:Nat) (body:List Int),At cs (a+1) body∧body.length=2 * n∧m=2 * n∧n≤50∧ts=pairs body))∧Q (.tup (iD ts))
theorem nZ:dh cA:=λ ds P Q w ⟨kind,near,f,b,m,cs,a,ts,h1,h2,h3,h4,q⟩=>⟨kind,near,f,b,m,cs,a,ts,h1,h2,h3,h4,w _ q⟩
theorem Nu (ts:List Int):nl (.tup (iD ts))=true:=iI ts
theorem Wd (ts:List Int) (M:Ms):(iD ts).map (vw M)=iD ts:=by
 rw[List.map_map];rfl
theorem Ek {Q:D→Prop}{ts:List Int} (q:Q (.tup (iD ts))):nl (fz [] (.tup (iD ts)))=true∧Q (fz [] (.tup (iD ts))):=by
 show nl (.tup ((iD ts).map (vw [])))=true∧Q (.tup ((iD ts).map (vw [])))
 rw[Wd]
 exact⟨Nu ts,q⟩
theorem tX:∀ ds Q,cA ds Q→cQ 8 3 (m8 (cl dW) (cl mQ) (cl dz)) ds Q:=λ ds Q ⟨kind,near,f,b,m,cs,a,ts,h1,a0,a1,h2,q⟩=>by
 subst h1
 refine⟨rfl,rfl,rfl,?_⟩
 show (if (kind == "set")=true then _ else _)
 rcases h2 with ⟨rfl,x,y,z,u,r,h,rfl⟩ | ⟨hk,rfl,x,r,h,rfl⟩ | ⟨hk,hn,n,body,h,hl,hm,hb,rfl⟩
 ·rw[if_pos (by simp)]
  exact⟨gA cs _,cs,a+1,x,y,z,u,r,rfl,h,Nat.le_of_ble_eq_true rfl,Ek q⟩
 ·rw[hk,if_neg (by simp)]
  exact⟨gA cs _,cs,a+1,x,r,rfl,h,Nat.le_of_ble_eq_true rfl,Ek q⟩
 ·rw[hk,if_neg (by simp)]
  subst hm
  have c3:C3 (a+1) (a+1+2 * (n:Int)) 2:=⟨⟨by omega,by omega,by omega,by omega⟩,.inl rfl⟩
  rcases hn with rfl | rfl
  ·refine⟨c3,True.intro,?_⟩
   rw[yq]
   refine kh (acc:=[]) n (a+1) body h hl (by simp;omega) ?_
   exact Ek q
  ·refine⟨c3,True.intro,?_⟩
   rw[yq]
   refine kh (acc:=[]) n (a+1) body h hl (by simp;omega) ?_
   exact Ek q
end K23
namespace K23
open PySem PySem.Spec L2 L3
noncomputable def dI (a:Int) (f:Int→Rw):List Int→Option Rw
 | x::_=>if 0≤a+2+stp x∧a+2+stp x≤65535 then some (f (a+2+stp x)) else none
 | []=>none
noncomputable def lX (f:Int→Rw):List Int→Option Rw
 | x::y::_=>some (f (256 * x+y))
 | _=>none
noncomputable def ni (f:Int→Int→Rw):List Int→Option Rw
 | x::y::z::u::_=>some (f (256 * x+y) (256 * z+u))
 | _=>none
noncomputable def bx (a c:Int) (r:List Int):Option Rw:=
 if c < 16 then none
 else if c < 20 then ni (λ p q=>.set (c - 16) (sgn (65536 * p+q))) r
 else if c < 32 then none
 else if c < 48 then some (.add ((c - 32) / 4) ((c - 32) % 4))
 else if c < 64 then some (.take ((c - 48) / 4) ((c - 48) % 4))
 else if c < 68 then some (.say (c - 64))
 else if c < 72 then some (.ask (c - 68))
 else if c < 80 then none
 else if c < 81 then dI a (.jump true) r
 else if c < 82 then lX (.jump false) r
 else if c < 83 then dI a (.call true) r
 else if c < 84 then lX (.call false) r
 else if c < 88 then dI a (.jumpif true (c - 84)) r
 else if c < 92 then lX (.jumpif false (c - 88)) r
 else if c < 98 then none
 else if c < 99 then some .back
 else if c < 100 then some .stop
 else if c < 104 then dI a (.jumpby true (c - 100)) r
 else if c < 108 then lX (.jumpby false (c - 104)) r
 else if c < 112 then none
 else if c < 128 then dI a (.load true ((c - 112) / 4) ((c - 112) % 4)) r
 else if c < 144 then lX (.load false ((c - 128) / 4) ((c - 128) % 4)) r
 else if c < 148 then ni (.alike (c - 144)) r
 else none
noncomputable def yD (cs:List Int) (a:Int):Option Rw:=if a < 0 then none else match cs.drop a.toNat with
 | c::r=>bx a c r
 | []=>none
noncomputable def Rw.len:Rw→Int
 | .set _ _ | .alike _ _ _=>5
 | .add _ _ | .take _ _ | .say _ | .ask _ | .back | .stop=>1
 | .jump s _ | .call s _ | .jumpif s _ _ | .jumpby s _ _ | .load s _ _ _=>if s=true then 2 else 3
abbrev yE (a:Int) (r:Rw):D:=.tup [r.d,r.near,.int (a+r.len)]
noncomputable def jt (C:Addr):GPX:=λ ds Q X=>∃ (cs:List Int) (a:Int),ds=[.lst (iD cs),.int a]∧Cs cs∧In a∧(∀ r,yD cs a=some r→Q (yE a r))∧(yD cs a=none→X (Ao C a))
theorem pY {C:Addr}:monoX (jt C):=λ ds P Q x y w v ⟨cs,a,h1,h2,h3,q1,q2⟩=>⟨cs,a,h1,h2,h3,λ r e=>w _ (q1 r e),λ e=>v _ (q2 e)⟩
abbrev T7 (C:Addr):XB:=gD (Bk (rR (aJ (aL wO (ao 4) (dC (.bl true)))) (gC (aJ (cR pQ pQ (dC (.int 0)) (aL c7 (ao 9) (Ip (dC (.int 1)))) (dC (.int 65535)))))) (iz C ["place"] (ak (ao 1) aB)) (λ _=>aW))
 (λ _=>(bh (dTup (ak (ao 9) (ak (ao 4) (ak (ao 8) aB))))))
theorem El {k:Str}{near:D}{f b m:Int} (hn:nb near=true):fz [] (.tup [.str k,near,.int f,.int b,.int m]) = .tup [.str k,near,.int f,.int b,.int m]:=by
 cases near <;> first | (cases hn;done) | rfl
theorem Em {k:Str}{near:D}{f b m:Int} (hn:nb near=true):nl (.tup [.str k,near,.int f,.int b,.int m])=true:=by
 cases near <;> first | (cases hn;done) | rfl
theorem pZ {i j:Int}{M:Ms}{Q:DK}:qM (.int i) (.int j) M Q=Q (.bl (decide (i < j))) M:=rfl
abbrev XX (X:EX→Prop):DXK:=λ e _ _=>nls e.ds=true∧X e
abbrev EE (Q:D→Prop):DEnds:=⟨λ _ _=>Q .non,λ d M'=>nl (fz M' d)=true∧Q (fz M' d),λ _ _=>False,λ _ _=>False⟩
section
variable {C:Addr}{cs:List Int}{a c f b m:Int}{rest:List Int}{kind:Str}{near:D}{Q:D→Prop}{X:EX→Prop}
theorem Pu (hA:At cs a (c::rest)) (ha:In a) {tl:XB} (h:codeFrom c codes=none→X (Ao C a)) (g:∀ k n f b m,codeFrom c codes=some (.tup [.str k,n,.int f,.int b,.int m])→nb n=true∧tl (XX X) (EE Q) [some (.lst (iD cs)),some (.int a),some (.tup [.str k,n,.int f,.int b,.int m]),none,none,none,none,none,none,none] []) (hcd:∀ d,codeFrom c codes=some d→∃ k n f b m,d = .tup [.str k,n,.int f,.int b,.int m]) :
  gD (Bk (gC (aJ (cR pQ qM (dC (.int 0)) (ao 1) (bT kY (ak (ao 0) aB))))) (iz C ["place"] (ak (ao 1) aB)) (λ _=>aW))
   (gD (λ _=>(bW 2 (bT (cl cW) (ak (aL c7 (ao 0) (ao 1)) aB))))
   (gD (Bk (aJ (aL Vz (ao 2) (dC .non))) (iz C ["place"] (ak (ao 1) aB)) (λ _=>aW)) tl)) (XX X) (EE Q) [some (.lst (iD cs)),some (.int a),none,none,none,none,none,none,none,none] []:=by
 have hle:=hA.le
 rw[List.length_cons] at hle
 push_cast at hle
 have a0:=hA.nn
 have e1:decide (0≤a)=true:=decide_eq_true a0
 have e2:decide (a < ((iD cs).length:Int))=true:=decide_eq_true (by rw[List.length_map];omega)
 simp only [gD,Bk,aY,bC,gC,jo,iG,dC,dF,cX,jq,e1,fL,if_true,bT,ak,aB,iH,nW,nY,j8,pZ,e2,f9,Bool.not_true,Bool.false_eq_true,if_false,aW]
 refine⟨_,hA.hd,rfl,c,rfl,λ d e=>?_,λ e=>?_⟩
 ·obtain⟨k,n,f,b,m,rfl⟩:=hcd d e
  obtain⟨hn,g⟩:=g k n f b m e
  refine⟨by rw[El hn];exact Em hn,?_⟩
  rw[El hn]
  exact g
 ·exact⟨rfl,fmts ha,le1,rfl,h e⟩
theorem mR (hA:At cs a (c::rest)) (ha:In a) (hc:codeFrom c codes=none) (q:X (Ao C a)):nQ 10 2 (fZ C (cl cW) (cl bJ) (cl cA)) [.lst (iD cs),.int a] Q X:=
 ⟨rfl,Pu hA ha (λ _=>q) (λ _ _ _ _ _ e=>by rw[hc] at e;cases e) λ _ e=>by rw[hc] at e;cases e⟩
theorem o8 (hA:At cs a (c::rest)) (hl:(cs.length:Int)=a+1+rest.length) (ha:In a) (hc:codeFrom c codes=some (.tup [.str kind,near,.int f,.int b,.int m])) (hn:nb near=true)
  (far:(rest.length:Int) < m→X (Ao C a))
  (ok:m≤rest.length→∃ bs ts:List Int,bs.length≤2∧ts.length≤50∧(∀ R:D→Prop,R (.tup (iD bs))→bJ [.int (c - f),.int b] R)∧(∀ R:D→Prop,R (.tup (iD ts))→cA [.tup [.str kind,near,.int f,.int b,.int m],.lst (iD cs),.int a] R) ∧
   T7 C (XX X) (EE Q) [some (.lst (iD cs)),some (.int a),some (.tup [.str kind,near,.int f,.int b,.int m]),some (.str kind),some near,some (.int f),some (.int b),some (.int m),some (.int (a+1+m)),some (.tup ([.str kind]++iD bs++iD ts))] []) :
  nQ 10 2 (fZ C (cl cW) (cl bJ) (cl cA)) [.lst (iD cs),.int a] Q X:=by
 refine⟨rfl,Pu hA ha (λ e=>by rw[hc] at e;cases e) (λ k' n' f' b' m' e=>?_) λ d e=>by rw[hc] at e;cases e;exact⟨_,_,_,_,_,rfl⟩⟩
 rw[hc] at e
 cases e
 refine⟨hn,rfl,rfl,?_⟩
 refine⟨(iD cs).length,rfl,?_⟩
 show (if decide (((iD cs).length:Int) < a+1+m)=true then _ else _)
 by_cases h:(rest.length:Int) < m
 ·rw[if_pos (decide_eq_true (by rw[List.length_map];omega))]
  exact⟨rfl,fmts ha,le1,rfl,far h⟩
 rw[if_neg (λ e=>absurd (of_decide_eq_true e) (by rw[List.length_map];omega))]
 obtain⟨bs,ts,Kz,htl,hb,ht,fin⟩:=ok (by omega)
 refine⟨Nat.le_of_ble_eq_true rfl,_,hA.hd,rfl,hb _ ?_⟩
 refine⟨List.cons_ne_nil _ _,?_,?_⟩
 ·rw[List.length_map];exact Nat.le_trans (show [D.str kind].length+bs.length≤3 by simp;omega) (by decide)
 refine⟨?_,ht _ ?_⟩
 ·show (nl (.tup [.str kind,near,.int f,.int b,.int m])&&(nls (iD cs)&&(true&&true)))=true
  rw[Em hn,iI];rfl
 refine⟨List.cons_ne_nil _ _,?_,fin⟩
 rw[List.length_append,List.length_map,List.length_map]
 exact Nat.le_trans (show [D.str kind].length+bs.length+ts.length≤53 by simp;omega) (by decide)
variable {bs ts:List Int}{i p:Int}{d0 d1 d2:Option D}{code:D}
theorem lY (hn:nb near=true) (q:Q (.tup [.tup ([.str kind]++iD bs++iD ts),near,.int i])):nl (fz [] (.tup [.tup ([.str kind]++iD bs++iD ts),near,.int i]))=true∧Q (fz [] (.tup [.tup ([.str kind]++iD bs++iD ts),near,.int i])):=by
 have e:fz [] (.tup [.tup ([.str kind]++iD bs++iD ts),near,.int i]) = .tup [.tup ([.str kind]++iD bs++iD ts),near,.int i]:=by
  cases near <;> first | (cases hn;done) | rfl
 rw[e]
 refine⟨?_,q⟩
 show (nls ([.str kind]++iD bs++iD ts)&&(nl near&&(true&&true)))=true
 rw[rZ,rZ,iI,iI]
 cases near <;> first | (cases hn;done) | rfl
theorem Nv {xs:List D}{x:D}:rK (xs++[x]) (-1)=some x:=by
 unfold rK Hx
 rw[if_neg (by decide),if_pos (by simp;omega)]
 have:((-1:Int)+((xs++[x]).length:Nat)).toNat=xs.length:=by simp;omega
 simp only [this]
 simp
theorem Dd (q:Q (.tup [.tup ([.str kind]++iD bs++iD ts),.non,.int i])):T7 C (XX X) (EE Q) [some (.lst (iD cs)),some (.int a),some code,some (.str kind),some .non,some (.int f),some (.int b),some (.int m),some (.int i),some (.tup ([.str kind]++iD bs++iD ts))] []:=
 ⟨Nat.le_of_ble_eq_true rfl,lY rfl q⟩
theorem TV (q:Q (.tup [.tup ([.str kind]++iD bs++iD ts),.bl false,.int i])):T7 C (XX X) (EE Q) [some (.lst (iD cs)),some (.int a),some code,some (.str kind),some (.bl false),some (.int f),some (.int b),some (.int m),some (.int i),some (.tup ([.str kind]++iD bs++iD ts))] []:=
 ⟨Nat.le_of_ble_eq_true rfl,lY rfl q⟩
theorem Ny (ha:In a) (q:0≤p∧p≤65535→Q (.tup [.tup ([.str kind]++iD bs++iD [p]),.bl true,.int i])) (x:¬ (0≤p∧p≤65535)→X (Ao C a)):T7 C (XX X) (EE Q) [some (.lst (iD cs)),some (.int a),some code,some (.str kind),some (.bl true),some (.int f),some (.int b),some (.int m),some (.int i),some (.tup ([.str kind]++iD bs++iD [p]))] []:=by
 refine⟨_,Nv (xs:=[.str kind]++iD bs) (x:=.int p),?_⟩
 simp only [jq]
 by_cases h0:0≤p
 ·rw[decide_eq_true h0]
  show (if (!decide (p≤65535))=true then _ else _)
  by_cases h1:p≤65535
  ·rw[if_neg (by simp[h1])]
   exact⟨Nat.le_of_ble_eq_true rfl,lY rfl (q ⟨h0,h1⟩)⟩
  ·rw[if_pos (by simp[h1])]
   exact⟨rfl,fmts ha,le1,rfl,x λ z=>h1 z.2⟩
 ·rw[decide_eq_false h0]
  exact⟨rfl,fmts ha,le1,rfl,x λ z=>h0 z.1⟩
end
end K23
namespace K23
open PySem PySem.Spec L2 L3
local macro_rules | `(tactic| walk_at "cf_tac") => `(tactic| repeat (first | exact JL (by simp only [m0, m1, m2]; omega) | exact (rfl : codeFrom _ [] = none) | refine Pr (by simp only [m0, m1, m2]; omega) ?_))
section
variable {C:Addr}{cs:List Int}{a c f b m:Int}{rest:List Int}{kind:Str}{near:D}{Q:D→Prop}{X:EX→Prop}
abbrev RC (C:Addr) (cs:List Int) (a:Int) (Q:D→Prop) (X:EX→Prop):Prop:=nQ 10 2 (fZ C (cl cW) (cl bJ) (cl cA)) [.lst (iD cs),.int a] Q X
theorem vW {n:Int} (R:D→Prop) (r:R (.tup (iD []))):bJ [.int n,.int 0] R:=.inl ⟨rfl,r⟩
theorem qI {n:Int} (R:D→Prop) (r:R (.tup (iD [n]))):bJ [.int n,.int 1] R:=.inr (.inl ⟨rfl,r⟩)
theorem En {n:Int} (R:D→Prop) (r:R (.tup (iD [n / 4,n % 4]))):bJ [.int n,.int 2] R:=.inr (.inr ⟨rfl,r⟩)
theorem p7 {bs:List Int} (hA:At cs a (c::rest)) (hl:(cs.length:Int)=a+1+rest.length) (ha:In a) (hc:codeFrom c codes=some (.tup [.str kind,.non,.int f,.int b,.int 0])) (hk:(kind == "set")=false) (Kz:bs.length≤2)
  (hb:∀ R:D→Prop,R (.tup (iD bs))→bJ [.int (c - f),.int b] R) (q:Q (.tup [.tup ([.str kind]++iD bs++iD []),.non,.int (a+1)])):RC C cs a Q X:=by
 have a0:=hA.nn
 refine o8 hA hl ha hc rfl (λ h=>by omega) λ _=>⟨bs,[],Kz,by simp,hb,λ R r=>⟨kind,.non,f,b,0,cs,a,[],rfl,a0,by omega,.inr (.inr ⟨hk,.inl rfl,0,[],At.take (ys:=[]) hA.tl,rfl,rfl,by decide,rfl⟩),r⟩,Dd ?_⟩
 rw[show a+1+0=a+1 by omega]
 exact q
theorem o9 {bs:List Int}{g:Int→Rw} (hA:At cs a (c::rest)) (hl:(cs.length:Int)=a+1+rest.length) (ha:In a) (hc:codeFrom c codes=some (.tup [.str kind,.bl true,.int f,.int b,.int 1])) (hk:(kind == "set")=false) (Kz:bs.length≤2)
  (hb:∀ R:D→Prop,R (.tup (iD bs))→bJ [.int (c - f),.int b] R) (q:∀ p,dI a g rest=some (g p)→Q (.tup [.tup ([.str kind]++iD bs++iD [p]),.bl true,.int (a+2)])) (x:dI a g rest=none→X (Ao C a)):RC C cs a Q X:=by
 have a0:=hA.nn
 refine o8 hA hl ha hc rfl (λ h=>x ?_) λ h=>?_
 ·cases rest with
  | nil=>rfl
  | cons y r=>rw[List.length_cons] at h;push_cast at h;omega
 ·cases rest with
  | nil=>simp at h
  | cons y r=>
   refine⟨bs,[a+2+stp y],Kz,by simp,hb,λ R r'=>⟨kind,.bl true,f,b,1,cs,a,_,rfl,a0,by omega,.inr (.inl ⟨hk,rfl,y,r,hA.tl,rfl⟩),r'⟩,Ny ha (λ hp=>?_) λ hp=>x ?_⟩
   ·rw[show a+1+1=a+2 by omega]
    exact q _ (if_pos hp)
   ·exact if_neg hp
theorem tY {bs:List Int}{g:Int→Rw} (hA:At cs a (c::rest)) (hl:(cs.length:Int)=a+1+rest.length) (ha:In a) (hc:codeFrom c codes=some (.tup [.str kind,.bl false,.int f,.int b,.int 2])) (hk:(kind == "set")=false) (Kz:bs.length≤2)
  (hb:∀ R:D→Prop,R (.tup (iD bs))→bJ [.int (c - f),.int b] R) (q:∀ p,lX g rest=some (g p)→Q (.tup [.tup ([.str kind]++iD bs++iD [p]),.bl false,.int (a+3)])) (x:lX g rest=none→X (Ao C a)):RC C cs a Q X:=by
 have a0:=hA.nn
 refine o8 hA hl ha hc rfl (λ h=>x ?_) λ h=>?_
 ·rcases rest with _ | ⟨y,_ | ⟨z,r⟩⟩
  ·rfl
  ·rfl
  ·rw[List.length_cons,List.length_cons] at h;push_cast at h;omega
 ·rcases rest with _ | ⟨y,_ | ⟨z,r⟩⟩
  ·simp at h
  ·simp at h
  ·refine⟨bs,[256 * y+z],Kz,by simp,hb,λ R r'=>⟨kind,.bl false,f,b,2,cs,a,_,rfl,a0,by omega,.inr (.inr ⟨hk,.inr rfl,1,[y,z],At.take (ys:=[y,z]) (xs:=r) hA.tl,rfl,rfl,by decide,rfl⟩),r'⟩,TV ?_⟩
   rw[show a+1+2=a+3 by omega]
   exact q _ rfl
theorem JN {bs:List Int}{g:Int→Int→Rw} (hA:At cs a (c::rest)) (hl:(cs.length:Int)=a+1+rest.length) (ha:In a) (hc:codeFrom c codes=some (.tup [.str kind,.non,.int f,.int b,.int 4])) (hk:(kind == "set")=false) (Kz:bs.length≤2)
  (hb:∀ R:D→Prop,R (.tup (iD bs))→bJ [.int (c - f),.int b] R) (q:∀ p p',ni g rest=some (g p p')→Q (.tup [.tup ([.str kind]++iD bs++iD [p,p']),.non,.int (a+5)])) (x:ni g rest=none→X (Ao C a)):RC C cs a Q X:=by
 have a0:=hA.nn
 refine o8 hA hl ha hc rfl (λ h=>x ?_) λ h=>?_
 ·rcases rest with _ | ⟨y,_ | ⟨z,_ | ⟨u,_ | ⟨v,r⟩⟩⟩⟩ <;> first | rfl | skip
  simp only [List.length_cons] at h;push_cast at h;omega
 ·rcases rest with _ | ⟨y,_ | ⟨z,_ | ⟨u,_ | ⟨v,r⟩⟩⟩⟩ <;> first | (simp only [List.length_cons,List.length_nil] at h;omega) | skip
  refine⟨bs,[256 * y+z,256 * u+v],Kz,by simp,hb,λ R r'=>⟨kind,.non,f,b,4,cs,a,_,rfl,a0,by omega,.inr (.inr ⟨hk,.inl rfl,2,[y,z,u,v],At.take (ys:=[y,z,u,v]) (xs:=r) hA.tl,rfl,rfl,by decide,rfl⟩),r'⟩,Dd ?_⟩
  rw[show a+1+4=a+5 by omega]
  exact q _ _ rfl
theorem TX {bs:List Int}{g:Int→Int→Rw} (hA:At cs a (c::rest)) (hl:(cs.length:Int)=a+1+rest.length) (ha:In a) (hc:codeFrom c codes=some (.tup [.str "set",.non,.int f,.int b,.int 4])) (Kz:bs.length≤2)
  (hb:∀ R:D→Prop,R (.tup (iD bs))→bJ [.int (c - f),.int b] R) (q:∀ p p',ni g rest=some (g p p')→Q (.tup [.tup ([.str "set"]++iD bs++iD [sgn (65536 * p+p')]),.non,.int (a+5)])) (x:ni g rest=none→X (Ao C a)):RC C cs a Q X:=by
 have a0:=hA.nn
 refine o8 hA hl ha hc rfl (λ h=>x ?_) λ h=>?_
 ·rcases rest with _ | ⟨y,_ | ⟨z,_ | ⟨u,_ | ⟨v,r⟩⟩⟩⟩ <;> first | rfl | skip
  simp only [List.length_cons] at h;push_cast at h;omega
 ·rcases rest with _ | ⟨y,_ | ⟨z,_ | ⟨u,_ | ⟨v,r⟩⟩⟩⟩ <;> first | (simp only [List.length_cons,List.length_nil] at h;omega) | skip
  refine⟨bs,_,Kz,?_,hb,λ R r'=>⟨"set",.non,f,b,4,cs,a,_,rfl,a0,by omega,.inl ⟨rfl,y,z,u,v,r,hA.tl,rfl⟩,r'⟩,Dd ?_⟩
  ·simp
  rw[show a+1+4=a+5 by omega]
  exact q _ _ rfl
local macro_rules | `(tactic| walk_at "rr_tac") => `(tactic| (unfold bx; repeat (first | rw [if_pos (by omega)] | rw [if_neg (by omega)])))
theorem Nz (hA:At cs a (c::rest)) (hl:(cs.length:Int)=a+1+rest.length) (ha:In a) (hx:0≤c∧c < 256) (q:∀ r,bx a c rest=some r→Q (yE a r)) (x:bx a c rest=none→X (Ao C a)):RC C cs a Q X:=by
 rcases Int.lt_or_le c 16 with Gv | Gv
 ·exact mR hA ha (by walk_at "cf_tac") (x (by walk_at "rr_tac"))
 rcases Int.lt_or_le c 20 with Gw | Gw
 ·exact TX (bs:=[c - 16]) (g:=λ p q=>.set (c - 16) (sgn (65536 * p+q))) hA hl ha (show codeFrom c codes=some (.tup [.str "set",.non,.int 16,.int 1,.int 4]) by walk_at "cf_tac") (by simp) qI (λ p p' e=>q _ (Eq.trans (by walk_at "rr_tac") e)) λ e=>x (Eq.trans (by walk_at "rr_tac") e)
 rcases Int.lt_or_le c 32 with Gx | Gx
 ·exact mR hA ha (by walk_at "cf_tac") (x (by walk_at "rr_tac"))
 rcases Int.lt_or_le c 48 with Gy | Gy
 ·exact p7 (bs:=[(c - 32) / 4,(c - 32) % 4]) hA hl ha (show codeFrom c codes=some (.tup [.str "add",.non,.int 32,.int 2,.int 0]) by walk_at "cf_tac") (by decide +kernel) (by simp) En (q (.add ((c - 32) / 4) ((c - 32) % 4)) (by walk_at "rr_tac"))
 rcases Int.lt_or_le c 64 with h64 | h64
 ·exact p7 (bs:=[(c - 48) / 4,(c - 48) % 4]) hA hl ha (show codeFrom c codes=some (.tup [.str "take",.non,.int 48,.int 2,.int 0]) by walk_at "cf_tac") (by decide +kernel) (by simp) En (q (.take ((c - 48) / 4) ((c - 48) % 4)) (by walk_at "rr_tac"))
 rcases Int.lt_or_le c 68 with Gz | Gz
 ·exact p7 (bs:=[c - 64]) hA hl ha (show codeFrom c codes=some (.tup [.str "say",.non,.int 64,.int 1,.int 0]) by walk_at "cf_tac") (by decide +kernel) (by simp) qI (q (.say (c - 64)) (by walk_at "rr_tac"))
 rcases Int.lt_or_le c 72 with GC | GC
 ·exact p7 (bs:=[c - 68]) hA hl ha (show codeFrom c codes=some (.tup [.str "ask",.non,.int 68,.int 1,.int 0]) by walk_at "cf_tac") (by decide +kernel) (by simp) qI (q (.ask (c - 68)) (by walk_at "rr_tac"))
 rcases Int.lt_or_le c 80 with KC | KC
 ·exact mR hA ha (by walk_at "cf_tac") (x (by walk_at "rr_tac"))
 rcases Int.lt_or_le c 81 with KD | KD
 ·exact o9 (bs:=[]) (g:=.jump true) hA hl ha (show codeFrom c codes=some (.tup [.str "jump",.bl true,.int 80,.int 0,.int 1]) by walk_at "cf_tac") (by decide +kernel) (by simp) vW (λ p e=>q _ (Eq.trans (by walk_at "rr_tac") e)) λ e=>x (Eq.trans (by walk_at "rr_tac") e)
 rcases Int.lt_or_le c 82 with KH | KH
 ·exact tY (bs:=[]) (g:=.jump false) hA hl ha (show codeFrom c codes=some (.tup [.str "jump",.bl false,.int 81,.int 0,.int 2]) by walk_at "cf_tac") (by decide +kernel) (by simp) vW (λ p e=>q _ (Eq.trans (by walk_at "rr_tac") e)) λ e=>x (Eq.trans (by walk_at "rr_tac") e)
 rcases Int.lt_or_le c 83 with KJ | KJ
 ·exact o9 (bs:=[]) (g:=.call true) hA hl ha (show codeFrom c codes=some (.tup [.str "call",.bl true,.int 82,.int 0,.int 1]) by walk_at "cf_tac") (by decide +kernel) (by simp) vW (λ p e=>q _ (Eq.trans (by walk_at "rr_tac") e)) λ e=>x (Eq.trans (by walk_at "rr_tac") e)
 rcases Int.lt_or_le c 84 with KN | KN
 ·exact tY (bs:=[]) (g:=.call false) hA hl ha (show codeFrom c codes=some (.tup [.str "call",.bl false,.int 83,.int 0,.int 2]) by walk_at "cf_tac") (by decide +kernel) (by simp) vW (λ p e=>q _ (Eq.trans (by walk_at "rr_tac") e)) λ e=>x (Eq.trans (by walk_at "rr_tac") e)
 rcases Int.lt_or_le c 88 with KQ | KQ
 ·exact o9 (bs:=[c - 84]) (g:=.jumpif true (c - 84)) hA hl ha (show codeFrom c codes=some (.tup [.str "jumpif",.bl true,.int 84,.int 1,.int 1]) by walk_at "cf_tac") (by decide +kernel) (by simp) qI (λ p e=>q _ (Eq.trans (by walk_at "rr_tac") e)) λ e=>x (Eq.trans (by walk_at "rr_tac") e)
 rcases Int.lt_or_le c 92 with KR | KR
 ·exact tY (bs:=[c - 88]) (g:=.jumpif false (c - 88)) hA hl ha (show codeFrom c codes=some (.tup [.str "jumpif",.bl false,.int 88,.int 1,.int 2]) by walk_at "cf_tac") (by decide +kernel) (by simp) qI (λ p e=>q _ (Eq.trans (by walk_at "rr_tac") e)) λ e=>x (Eq.trans (by walk_at "rr_tac") e)
 rcases Int.lt_or_le c 98 with GD | GD
 ·exact mR hA ha (by walk_at "cf_tac") (x (by walk_at "rr_tac"))
 rcases Int.lt_or_le c 99 with GJ | GJ
 ·exact p7 (bs:=[]) hA hl ha (show codeFrom c codes=some (.tup [.str "back",.non,.int 98,.int 0,.int 0]) by walk_at "cf_tac") (by decide +kernel) (by simp) vW (q (.back) (by walk_at "rr_tac"))
 rcases Int.lt_or_le c 100 with h100 | h100
 ·exact p7 (bs:=[]) hA hl ha (show codeFrom c codes=some (.tup [.str "stop",.non,.int 99,.int 0,.int 0]) by walk_at "cf_tac") (by decide +kernel) (by simp) vW (q (.stop) (by walk_at "rr_tac"))
 rcases Int.lt_or_le c 104 with uR | uR
 ·exact o9 (bs:=[c - 100]) (g:=.jumpby true (c - 100)) hA hl ha (show codeFrom c codes=some (.tup [.str "jumpby",.bl true,.int 100,.int 1,.int 1]) by walk_at "cf_tac") (by decide +kernel) (by simp) qI (λ p e=>q _ (Eq.trans (by walk_at "rr_tac") e)) λ e=>x (Eq.trans (by walk_at "rr_tac") e)
 rcases Int.lt_or_le c 108 with uT | uT
 ·exact tY (bs:=[c - 104]) (g:=.jumpby false (c - 104)) hA hl ha (show codeFrom c codes=some (.tup [.str "jumpby",.bl false,.int 104,.int 1,.int 2]) by walk_at "cf_tac") (by decide +kernel) (by simp) qI (λ p e=>q _ (Eq.trans (by walk_at "rr_tac") e)) λ e=>x (Eq.trans (by walk_at "rr_tac") e)
 rcases Int.lt_or_le c 112 with uU | uU
 ·exact mR hA ha (by walk_at "cf_tac") (x (by walk_at "rr_tac"))
 rcases Int.lt_or_le c 128 with uV | uV
 ·exact o9 (bs:=[(c - 112) / 4,(c - 112) % 4]) (g:=.load true ((c - 112) / 4) ((c - 112) % 4)) hA hl ha (show codeFrom c codes=some (.tup [.str "load",.bl true,.int 112,.int 2,.int 1]) by walk_at "cf_tac") (by decide +kernel) (by simp) En (λ p e=>q _ (Eq.trans (by walk_at "rr_tac") e)) λ e=>x (Eq.trans (by walk_at "rr_tac") e)
 rcases Int.lt_or_le c 144 with p8 | p8
 ·exact tY (bs:=[(c - 128) / 4,(c - 128) % 4]) (g:=.load false ((c - 128) / 4) ((c - 128) % 4)) hA hl ha (show codeFrom c codes=some (.tup [.str "load",.bl false,.int 128,.int 2,.int 2]) by walk_at "cf_tac") (by decide +kernel) (by simp) En (λ p e=>q _ (Eq.trans (by walk_at "rr_tac") e)) λ e=>x (Eq.trans (by walk_at "rr_tac") e)
 rcases Int.lt_or_le c 148 with qd | qd
 ·exact JN (bs:=[c - 144]) (g:=.alike (c - 144)) hA hl ha (show codeFrom c codes=some (.tup [.str "alike",.non,.int 144,.int 1,.int 4]) by walk_at "cf_tac") (by decide +kernel) (by simp) qI (λ p p' e=>q _ (Eq.trans (by walk_at "rr_tac") e)) λ e=>x (Eq.trans (by walk_at "rr_tac") e)
 ·exact mR hA ha (by walk_at "cf_tac") (x (by walk_at "rr_tac"))
theorem JQ (ha:In a) {tl:XB} (h:¬ (0≤a∧a < cs.length)) (q:X (Ao C a)) :
  gD (Bk (gC (aJ (cR pQ qM (dC (.int 0)) (ao 1) (bT kY (ak (ao 0) aB))))) (iz C ["place"] (ak (ao 1) aB)) (λ _=>aW)) tl (XX X) (EE Q) [some (.lst (iD cs)),some (.int a),none,none,none,none,none,none,none,none] []:=by
 by_cases h0:0≤a
 ·have e1:decide (0≤a)=true:=decide_eq_true h0
  have e2:decide (a < ((iD cs).length:Int))=false:=decide_eq_false (by rw[List.length_map];omega)
  simp only [gD,Bk,aY,bC,gC,jo,iG,dC,dF,cX,jq,e1,fL,if_true,bT,ak,aB,iH,nW,nY,j8,pZ,e2,f9,Bool.not_true,Bool.not_false,Bool.false_eq_true,if_false,aW]
  exact⟨rfl,fmts ha,le1,rfl,q⟩
 ·have e1:decide (0≤a)=false:=decide_eq_false h0
  simp only [gD,Bk,aY,bC,gC,jo,iG,dC,dF,cX,jq,e1,fL,if_true,bT,ak,aB,iH,nW,nY,j8,pZ,f9,Bool.not_true,Bool.not_false,Bool.false_eq_true,if_false,aW]
  exact⟨rfl,fmts ha,le1,rfl,q⟩
theorem yt:∀ ds Q X,jt C ds Q X→nQ 10 2 (fZ C (cl cW) (cl bJ) (cl cA)) ds Q X:=λ ds Q X ⟨cs,a,h1,hc,ha,q,x⟩=>by
 subst h1
 unfold yD at q x
 by_cases h0:a < 0
 ·rw[if_pos h0] at x
  exact⟨rfl,JQ ha (by omega) (x rfl)⟩
 ·rw[if_neg h0] at x
  have q:∀ r,(match cs.drop a.toNat with | c::r=>bx a c r | []=>none)=some r→Q (yE a r):=λ r e=>q r (by rw[if_neg h0];exact e)
  have hl:=List.length_drop (l:=cs) (i:=a.toNat)
  by_cases h1:a < cs.length
  ·have hd:=oZ (cs:=cs) (a:=a) (by omega) (by omega)
   have hD:=hc.drop (n:=a.toNat)
   generalize cs.drop a.toNat=z at q x hl hd hD
   cases z with
   | nil=>simp at hl;omega
   | cons c rest=>
    rw[List.length_cons] at hl
    exact Nz hd (by omega) ha (hD c (by simp)) q x
  ·generalize cs.drop a.toNat=z at q x hl
   cases z with
   | nil=>exact⟨rfl,JQ ha (by omega) (x rfl)⟩
   | cons c rest=>rw[List.length_cons] at hl;omega
end
end K23
namespace K23
open PySem PySem.Spec L2 L3
noncomputable def wd (acc:Int):List Int→Int
 | []=>acc
 | x::r=>wd (256 * acc+x) r
noncomputable def TY:GP:=λ ds Q=>∃ (cs:List Int) (a m:Nat),ds=[.lst (iD cs),.int a,.int m]∧Q (.int (wd 0 ((cs.drop a).take m)))
theorem Eo {β:Type} (xs:List β) (a m:Nat):cutD xs (some (a:Int)) (some ((a:Int)+(m:Int)))=(xs.drop a).take m:=by
 unfold cutD
 rw[show ((a:Int)+(m:Int))=((a+m:Nat):Int) by push_cast;rfl,HT.sIx_nat,HT.sIx_nat]
 rcases Nat.lt_or_ge a xs.length with h | h
 ·rw[Nat.min_eq_left (Nat.le_of_lt h)]
  rcases Nat.lt_or_ge (a+m) xs.length with g | g
  ·rw[Nat.min_eq_left (Nat.le_of_lt g)];congr 1;omega
  ·rw[Nat.min_eq_right g,List.take_of_length_le (by rw[List.length_drop];omega),List.take_of_length_le (by rw[List.length_drop];omega)]
 ·rw[List.drop_of_length_le h,List.drop_of_length_le (by omega)]
  simp
theorem vX {E:DEnds}{st:Ms→Prop} (hst:st []) {d0 d1 d2:Option D}:∀ (xs:List Int) (acc:Int) (z:Option D),(∀ z',E.nx [d0,d1,d2,some (.int (wd acc xs)),z'] []) →
  fj (aM 4) (bW 3 (aL aN (aL kW (dC (.int 256)) (ao 3)) (ao 4))) st E (iD xs) [d0,d1,d2,some (.int acc),z] []
 | [],acc,z,q=>q z
 | x::xs,acc,z,q=>⟨.inl ⟨by decide,by decide⟩,hst,vX hst xs (256 * acc+x) _ q⟩
theorem NK:∀ ds Q,TY ds Q→cQ 5 3 nU ds Q:=λ ds Q ⟨cs,a,m,h,q⟩=>by
 subst h
 refine⟨rfl,?_⟩
 refine⟨_,rfl,rfl,?_⟩
 have e:cutD (iD cs) (some (a:Int)) (some ((a:Int)+(m:Int)))=iD ((cs.drop a).take m):=by rw[Eo];show _=List.map D.int _;rw[List.map_take,List.map_drop]
 show fj _ _ _ _ (cutD (iD cs) (some (a:Int)) (some ((a:Int)+(m:Int)))) _ _
 rw[e]
 refine vX ?_ _ 0 none λ z'=>?_
 ·exact rfl
 ·exact⟨rfl,q⟩
noncomputable def dM:GP:=λ ds Q=>∃ n l:Int,ds=[.int n,.int l]∧0≤l∧Q (.int (if l / 2≤n then n - l else n))
theorem uW:dh dM:=λ ds P Q w ⟨n,l,h,h',q⟩=>⟨n,l,h,h',w _ q⟩
theorem GK:∀ ds Q,dM ds Q→cQ 2 2 oY ds Q:=λ ds Q ⟨n,l,h,h',q⟩=>by
 subst h
 refine⟨rfl,⟨by decide,by decide⟩,?_⟩
 show (if decide (l / 2≤n)=true then _ else _)
 by_cases h:l / 2≤n
 ·rw[if_pos (decide_eq_true h)]
  rw[if_pos h] at q
  exact⟨rfl,q⟩
 ·rw[if_neg (λ e=>h (of_decide_eq_true e))]
  rw[if_neg h] at q
  exact⟨rfl,q⟩
theorem T3 {n:Int}:(if (256:Int) / 2≤n then n - 256 else n)=stp n:=by unfold stp;split <;> split <;> omega
theorem Px {n:Int}:(if (4294967296:Int) / 2≤n then n - 4294967296 else n)=sgn n:=by unfold sgn;split <;> split <;> omega
theorem le_y {i j:Int}{M:Ms}{Q:DK} (h:i≤j) (q:Q (.bl true) M):pQ (.int i) (.int j) M Q:=by show Q (.bl (decide (i≤j))) M;rw[decide_eq_true h];exact q
theorem le_n {i j:Int}{M:Ms}{Q:DK} (h:j < i) (q:Q (.bl false) M):pQ (.int i) (.int j) M Q:=by show Q (.bl (decide (i≤j))) M;rw[decide_eq_false (by omega)];exact q
theorem lt_y {i j:Int}{M:Ms}{Q:DK} (h:i < j) (q:Q (.bl true) M):qM (.int i) (.int j) M Q:=by show Q (.bl (decide (i < j))) M;rw[decide_eq_true h];exact q
theorem lt_n {i j:Int}{M:Ms}{Q:DK} (h:j≤i) (q:Q (.bl false) M):qM (.int i) (.int j) M Q:=by show Q (.bl (decide (i < j))) M;rw[decide_eq_false (by omega)];exact q
theorem eq_y {i j:Int}{M:Ms}{Q:DK} (h:i=j) (q:Q (.bl true) M):jy (.int i) (.int j) M Q:=by show Q (.bl (i==j)) M;rw[beq_iff_eq.mpr h];exact q
theorem eq_n {i j:Int}{M:Ms}{Q:DK} (h:i < j∨j < i) (q:Q (.bl false) M):jy (.int i) (.int j) M Q:=by show Q (.bl (i==j)) M;rw[beq_eq_false_iff_ne.mpr (by omega)];exact q
theorem in_y {c i j:Int}{M:Ms}{Q:DK} (h:c=i∨c=j) (q:Q (.bl true) M):Rx false (.int c) (.tup [.int i,.int j]) M Q:=⟨true,by
 show some ((i==c) || ((j==c) || false))=_
 rcases h with rfl | rfl <;> simp,q⟩
theorem in_n {c i j:Int}{M:Ms}{Q:DK} (h:(c < i∨i < c)∧(c < j∨j < c)) (q:Q (.bl false) M):Rx false (.int c) (.tup [.int i,.int j]) M Q:=⟨false,by
 show some ((i==c) || ((j==c) || false))=_
 rw[beq_eq_false_iff_ne.mpr (by omega),beq_eq_false_iff_ne.mpr (by omega)];rfl,q⟩
noncomputable def bA:GP:=λ ds Q=>∃ c:Int,ds=[.int c]∧0≤c∧c < 256 ∧
 (16≤c→c < 20→Q (.tup [.str "set",.tup [.int (c - 16)],.non])) ∧
 (64≤c→c < 68→Q (.tup [.str "say",.tup [.int (c - 64)],.non])) ∧
 (68≤c→c < 72→Q (.tup [.str "ask",.tup [.int (c - 68)],.non])) ∧
 (144≤c→c < 148→Q (.tup [.str "alike",.tup [.int (c - 144)],.non])) ∧
 (32≤c→c < 48→Q (.tup [.str "add",.tup [.int ((c - 32) / 4),.int ((c - 32) % 4)],.non])) ∧
 (48≤c→c < 64→Q (.tup [.str "take",.tup [.int ((c - 48) / 4),.int ((c - 48) % 4)],.non])) ∧
 (c=98→Q (.tup [.str "back",.tup [],.non]))∧(c=99→Q (.tup [.str "stop",.tup [],.non])) ∧
 (c < 16∨(20≤c∧c < 32)∨(72≤c∧c < 98)∨(100≤c∧c < 144)∨148≤c→Q (.tup [.str "",.tup [],.non]))
theorem yu:dh bA:=λ ds P Q w ⟨c,h,h0,h',q1,q2,q3,q4,q5,q6,q7,q8,q9⟩=>⟨c,h,h0,h',λ a b=>w _ (q1 a b),λ a b=>w _ (q2 a b),λ a b=>w _ (q3 a b),λ a b=>w _ (q4 a b),λ a b=>w _ (q5 a b),λ a b=>w _ (q6 a b),λ a=>w _ (q7 a),λ a=>w _ (q8 a),λ a=>w _ (q9 a)⟩
theorem get_y {c i j:Int}{x y z:D}{M:Ms}{Q:DK} (h1:c=i→Q x M) (h2:i≠j→c=j→Q y M) (h3:c≠i→c≠j→Q z M):oO (.dct [.inl i,.inl j] [x,y]) [.int c,z] M Q:=by
 refine⟨.inl c,rfl,?_⟩
 unfold valD
 by_cases e1:i=c
 ·subst e1
  rw[if_pos rfl]
  exact h1 rfl
 ·rw[if_neg (λ e=>e1 (Sum.inl.inj e))]
  unfold valD
  by_cases e2:j=c
  ·subst e2
   rw[if_pos rfl]
   exact h2 e1 rfl
  ·rw[if_neg (λ e=>e2 (Sum.inl.inj e))]
   exact h3 (λ z=>e1 z.symm) (λ z=>e2 z.symm)
theorem eq_s {a b:Str}{r:Bool}{M:Ms}{Q:DK} (h:(a==b)=r) (q:Q (.bl r) M):jy (.str a) (.str b) M Q:=by show Q (.bl (a==b)) M;rw[h];exact q
theorem ge_y {i j:Int}{M:Ms}{Q:DK} (h:j≤i) (q:Q (.bl true) M):kJ (λ i j=>.bl (decide (j≤i))) (.int i) (.int j) M Q:=by show Q (.bl (decide (j≤i))) M;rw[decide_eq_true h];exact q
theorem ge_n {i j:Int}{M:Ms}{Q:DK} (h:i < j) (q:Q (.bl false) M):kJ (λ i j=>.bl (decide (j≤i))) (.int i) (.int j) M Q:=by show Q (.bl (decide (j≤i))) M;rw[decide_eq_false (by omega)];exact q
theorem gt_y {i j:Int}{M:Ms}{Q:DK} (h:j < i) (q:Q (.bl true) M):kJ (λ i j=>.bl (decide (j < i))) (.int i) (.int j) M Q:=by show Q (.bl (decide (j < i))) M;rw[decide_eq_true h];exact q
theorem gt_n {i j:Int}{M:Ms}{Q:DK} (h:i≤j) (q:Q (.bl false) M):kJ (λ i j=>.bl (decide (j < i))) (.int i) (.int j) M Q:=by show Q (.bl (decide (j < i))) M;rw[decide_eq_false (by omega)];exact q
abbrev manyD:D:=.dct [.inr "",.inr "set",.inr "alike"] [.int 0,.int 4,.int 4]
theorem get_s {k:Str}{n:Int}{M:Ms}{Q:DK} (h:(valD (.inr k) [.inr "",.inr "set",.inr "alike"] [.int 0,.int 4,.int 4]).getD (.int 0) = .int n) (q:Q (.int n) M):oO manyD [.str k,.int 0] M Q:=⟨.inr k,rfl,by rw[h];exact q⟩
structure GS where
 ge:G2
 gl:G2
 gq:G2
 gi:G2
 gg:GM
 g1:G2
 g2:G2
 le_y:∀ {i j:Int} {M:Ms} {Q:DK},i≤j→Q (.bl true) M→ge (.int i) (.int j) M Q
 le_n:∀ {i j:Int} {M:Ms} {Q:DK},j < i→Q (.bl false) M→ge (.int i) (.int j) M Q
 lt_y:∀ {i j:Int} {M:Ms} {Q:DK},i < j→Q (.bl true) M→gl (.int i) (.int j) M Q
 lt_n:∀ {i j:Int} {M:Ms} {Q:DK},j≤i→Q (.bl false) M→gl (.int i) (.int j) M Q
 eq_y:∀ {i j:Int} {M:Ms} {Q:DK},i=j→Q (.bl true) M→gq (.int i) (.int j) M Q
 eq_n:∀ {i j:Int} {M:Ms} {Q:DK},i < j∨j < i→Q (.bl false) M→gq (.int i) (.int j) M Q
 eq_s:∀ {a b:Str} {r:Bool} {M:Ms} {Q:DK},(a==b)=r→Q (.bl r) M→gq (.str a) (.str b) M Q
 in_y:∀ {c i j:Int} {M:Ms} {Q:DK},c=i∨c=j→Q (.bl true) M→gi (.int c) (.tup [.int i,.int j]) M Q
 in_n:∀ {c i j:Int} {M:Ms} {Q:DK},(c < i∨i < c)∧(c < j∨j < c)→Q (.bl false) M→gi (.int c) (.tup [.int i,.int j]) M Q
 get_y:∀ {c i j:Int} {x y z:D} {M:Ms} {Q:DK},(c=i→Q x M)→(i≠j→c=j→Q y M)→(c≠i→c≠j→Q z M)→gg (.dct [.inl i,.inl j] [x,y]) [.int c,z] M Q
 get_s:∀ {k:Str} {n:Int} {M:Ms} {Q:DK},(valD (.inr k) [.inr "",.inr "set",.inr "alike"] [.int 0,.int 4,.int 4]).getD (.int 0) = .int n→Q (.int n) M→gg manyD [.str k,.int 0] M Q
 ge_y:∀ {i j:Int} {M:Ms} {Q:DK},j≤i→Q (.bl true) M→g1 (.int i) (.int j) M Q
 ge_n:∀ {i j:Int} {M:Ms} {Q:DK},i < j→Q (.bl false) M→g1 (.int i) (.int j) M Q
 gt_y:∀ {i j:Int} {M:Ms} {Q:DK},j < i→Q (.bl true) M→g2 (.int i) (.int j) M Q
 gt_n:∀ {i j:Int} {M:Ms} {Q:DK},i≤j→Q (.bl false) M→g2 (.int i) (.int j) M Q
theorem JR:∃ S:GS,pQ=S.ge∧qM=S.gl∧jy=S.gq∧Rx false=S.gi∧oO=S.gg∧(kJ λ i j=>.bl (decide (j≤i)))=S.g1∧(kJ λ i j=>.bl (decide (j < i)))=S.g2:=
 ⟨⟨_,_,_,_,_,_,_,le_y,le_n,lt_y,lt_n,eq_y,eq_n,eq_s,in_y,in_n,get_y,get_s,ge_y,ge_n,gt_y,gt_n⟩,rfl,rfl,rfl,rfl,rfl,rfl,rfl⟩
local macro_rules | `(tactic| walk_at "kz0") => `(tactic| (obtain ⟨S, z1, z2, z3, z4, z5, z6, z7⟩ := JR; (try rw [z1]); (try rw [z2]); (try rw [z3]); (try rw [z4]); (try rw [z5]); (try rw [z6]); (try rw [z7]); clear z1 z2 z3 z4 z5 z6 z7))
local macro_rules | `(tactic| walk_at "kz1") => `(tactic| ((conv => whnf); first
 | refine⟨_,rfl,?_⟩ | refine⟨rfl,?_⟩ | refine⟨True.intro,?_⟩ | refine⟨Nat.le_of_ble_eq_true rfl,?_⟩ | refine⟨show (0:Int) < _ by decide,?_⟩ | refine⟨show fu _ _ from ⟨by decide,by decide⟩,?_⟩
 | refine GS.le_y _ (by omega) ?_ | refine GS.le_n _ (by omega) ?_ | refine GS.lt_y _ (by omega) ?_ | refine GS.lt_n _ (by omega) ?_ | refine GS.eq_y _ (by omega) ?_ | refine GS.eq_n _ (by omega) ?_ | refine GS.in_y _ (by omega) ?_ | refine GS.in_n _ (by omega) ?_))
local macro_rules | `(tactic| walk_at "kz2") => `(tactic| (walk_at "kz1"; try simp only [List.set_cons_succ, List.set_cons_zero]))
theorem Bj {d:D}:dZ 4 [d]=[some d,none,none,none]:=rfl
section
variable {c:Int}{Q:D→Prop}
theorem Yq (h0:0≤c) (h1:c < 16) (q:Q (.tup [.str "",.tup [],.non])):cQ 4 1 aQ [.int c] Q:=by
 refine⟨rfl,?_⟩
 rw[Bj]
 unfold aQ
 walk_at "kz0"
 repeat walk_at "kz2"
 refine GS.get_y _ (λ e=>absurd e (by omega)) (λ _ e=>absurd e (by omega)) λ _ _=>?_
 exact⟨Nat.le_of_ble_eq_true rfl,Nat.le_of_ble_eq_true rfl,rfl,q⟩
theorem Wf (h0:16≤c) (h1:c < 20) (q:Q (.tup [.str "set",.tup [.int (c - 16)],.non])):cQ 4 1 aQ [.int c] Q:=by
 refine⟨rfl,?_⟩
 rw[Bj]
 unfold aQ
 walk_at "kz0"
 repeat walk_at "kz2"
 exact q
theorem Wg (h0:20≤c) (h1:c < 32) (q:Q (.tup [.str "",.tup [],.non])):cQ 4 1 aQ [.int c] Q:=by
 refine⟨rfl,?_⟩
 rw[Bj]
 unfold aQ
 walk_at "kz0"
 repeat walk_at "kz2"
 refine GS.get_y _ (λ e=>absurd e (by omega)) (λ _ e=>absurd e (by omega)) λ _ _=>?_
 exact⟨Nat.le_of_ble_eq_true rfl,Nat.le_of_ble_eq_true rfl,rfl,q⟩
theorem Wh (h0:32≤c) (h1:c < 48) (q:Q (.tup [.str "add",.tup [.int ((c - 32) / 4),.int ((c - 32) % 4)],.non])):cQ 4 1 aQ [.int c] Q:=by
 refine⟨rfl,?_⟩
 rw[Bj]
 unfold aQ
 walk_at "kz0"
 repeat walk_at "kz2"
 exact q
theorem Wi (h0:48≤c) (h1:c < 64) (q:Q (.tup [.str "take",.tup [.int ((c - 48) / 4),.int ((c - 48) % 4)],.non])):cQ 4 1 aQ [.int c] Q:=by
 refine⟨rfl,?_⟩
 rw[Bj]
 unfold aQ
 walk_at "kz0"
 repeat walk_at "kz2"
 exact q
theorem Wj (h0:64≤c) (h1:c < 68) (q:Q (.tup [.str "say",.tup [.int (c - 64)],.non])):cQ 4 1 aQ [.int c] Q:=by
 refine⟨rfl,?_⟩
 rw[Bj]
 unfold aQ
 walk_at "kz0"
 repeat walk_at "kz2"
 exact q
theorem Wk (h0:68≤c) (h1:c < 72) (q:Q (.tup [.str "ask",.tup [.int (c - 68)],.non])):cQ 4 1 aQ [.int c] Q:=by
 refine⟨rfl,?_⟩
 rw[Bj]
 unfold aQ
 walk_at "kz0"
 repeat walk_at "kz2"
 exact q
theorem Wm (h0:72≤c) (h1:c < 98) (q:Q (.tup [.str "",.tup [],.non])):cQ 4 1 aQ [.int c] Q:=by
 refine⟨rfl,?_⟩
 rw[Bj]
 unfold aQ
 walk_at "kz0"
 repeat walk_at "kz2"
 refine GS.get_y _ (λ e=>absurd e (by omega)) (λ _ e=>absurd e (by omega)) λ _ _=>?_
 exact⟨Nat.le_of_ble_eq_true rfl,Nat.le_of_ble_eq_true rfl,rfl,q⟩
theorem Wn (h0:98≤c) (h1:c < 99) (q:Q (.tup [.str "back",.tup [],.non])):cQ 4 1 aQ [.int c] Q:=by
 refine⟨rfl,?_⟩
 rw[Bj]
 unfold aQ
 walk_at "kz0"
 repeat walk_at "kz2"
 refine GS.get_y _ (λ e=>?_) (λ _ e=>absurd e (by omega)) λ e _=>absurd (show c=98 by omega) e
 exact⟨Nat.le_of_ble_eq_true rfl,Nat.le_of_ble_eq_true rfl,rfl,q⟩
theorem Wo (h0:99≤c) (h1:c < 100) (q:Q (.tup [.str "stop",.tup [],.non])):cQ 4 1 aQ [.int c] Q:=by
 refine⟨rfl,?_⟩
 rw[Bj]
 unfold aQ
 walk_at "kz0"
 repeat walk_at "kz2"
 refine GS.get_y _ (λ e=>absurd e (by omega)) (λ _ e=>?_) λ _ e=>absurd (show c=99 by omega) e
 exact⟨Nat.le_of_ble_eq_true rfl,Nat.le_of_ble_eq_true rfl,rfl,q⟩
theorem T4 (h0:100≤c) (h1:c < 144) (q:Q (.tup [.str "",.tup [],.non])):cQ 4 1 aQ [.int c] Q:=by
 refine⟨rfl,?_⟩
 rw[Bj]
 unfold aQ
 walk_at "kz0"
 repeat walk_at "kz2"
 refine GS.get_y _ (λ e=>absurd e (by omega)) (λ _ e=>absurd e (by omega)) λ _ _=>?_
 exact⟨Nat.le_of_ble_eq_true rfl,Nat.le_of_ble_eq_true rfl,rfl,q⟩
theorem T5 (h0:144≤c) (h1:c < 148) (q:Q (.tup [.str "alike",.tup [.int (c - 144)],.non])):cQ 4 1 aQ [.int c] Q:=by
 refine⟨rfl,?_⟩
 rw[Bj]
 unfold aQ
 walk_at "kz0"
 repeat walk_at "kz2"
 exact q
theorem T6 (h0:148≤c) (h1:c < 256) (q:Q (.tup [.str "",.tup [],.non])):cQ 4 1 aQ [.int c] Q:=by
 refine⟨rfl,?_⟩
 rw[Bj]
 unfold aQ
 walk_at "kz0"
 repeat walk_at "kz2"
 refine GS.get_y _ (λ e=>absurd e (by omega)) (λ _ e=>absurd e (by omega)) λ _ _=>?_
 exact⟨Nat.le_of_ble_eq_true rfl,Nat.le_of_ble_eq_true rfl,rfl,q⟩
end
theorem JV:∀ ds Q,bA ds Q→cQ 4 1 aQ ds Q:=λ ds Q ⟨c,h,c0,c1,q1,q2,q3,q4,q5,q6,q7,q8,q9⟩=>by
 subst h
 rcases Int.lt_or_le c 16 with Gv | Gv
 ·exact Yq (by omega) Gv (q9 (by omega))
 rcases Int.lt_or_le c 20 with Gw | Gw
 ·exact Wf (by omega) Gw (q1 (by omega) (by omega))
 rcases Int.lt_or_le c 32 with Gx | Gx
 ·exact Wg (by omega) Gx (q9 (by omega))
 rcases Int.lt_or_le c 48 with Gy | Gy
 ·exact Wh (by omega) Gy (q5 (by omega) (by omega))
 rcases Int.lt_or_le c 64 with h64 | h64
 ·exact Wi (by omega) h64 (q6 (by omega) (by omega))
 rcases Int.lt_or_le c 68 with Gz | Gz
 ·exact Wj (by omega) Gz (q2 (by omega) (by omega))
 rcases Int.lt_or_le c 72 with GC | GC
 ·exact Wk (by omega) GC (q3 (by omega) (by omega))
 rcases Int.lt_or_le c 98 with GD | GD
 ·exact Wm (by omega) GD (q9 (by omega))
 rcases Int.lt_or_le c 99 with GJ | GJ
 ·exact Wn (by omega) GJ (q7 (by omega))
 rcases Int.lt_or_le c 100 with h100 | h100
 ·exact Wo (by omega) h100 (q8 (by omega))
 rcases Int.lt_or_le c 144 with p8 | p8
 ·exact T4 (by omega) p8 (q9 (by omega))
 rcases Int.lt_or_le c 148 with qd | qd
 ·exact T5 (by omega) qd (q4 (by omega) (by omega))
 exact T6 (by omega) c1 (q9 (by omega))
end K23
namespace K23
open PySem PySem.Spec L2 L3
local macro_rules | `(tactic| walk_at "kz0") => `(tactic| (obtain ⟨S, z1, z2, z3, z4, z5, z6, z7⟩ := JR; (try rw [z1]); (try rw [z2]); (try rw [z3]); (try rw [z4]); (try rw [z5]); (try rw [z6]); (try rw [z7]); clear z1 z2 z3 z4 z5 z6 z7))
local macro_rules | `(tactic| walk_at "kz1") => `(tactic| ((conv => whnf); first
 | refine⟨_,rfl,?_⟩ | refine⟨rfl,?_⟩ | refine⟨True.intro,?_⟩ | refine⟨Nat.le_of_ble_eq_true rfl,?_⟩ | refine⟨show (0:Int) < _ by decide,?_⟩ | refine⟨show fu _ _ from ⟨by decide,by decide⟩,?_⟩
 | refine GS.le_y _ (by omega) ?_ | refine GS.le_n _ (by omega) ?_ | refine GS.lt_y _ (by omega) ?_ | refine GS.lt_n _ (by omega) ?_ | refine GS.eq_y _ (by omega) ?_ | refine GS.eq_n _ (by omega) ?_ | refine GS.in_y _ (by omega) ?_ | refine GS.in_n _ (by omega) ?_))
local macro_rules | `(tactic| walk_at "kz2") => `(tactic| (walk_at "kz1"; try simp only [List.set_cons_succ, List.set_cons_zero]))
noncomputable def kd (c:Int):Str×List Int×D:=
 if c < 16 then ("",[],.non)
 else if c < 20 then ("set",[c - 16],.non)
 else if c < 32 then ("",[],.non)
 else if c < 48 then ("add",[(c - 32) / 4,(c - 32) % 4],.non)
 else if c < 64 then ("take",[(c - 48) / 4,(c - 48) % 4],.non)
 else if c < 68 then ("say",[c - 64],.non)
 else if c < 72 then ("ask",[c - 68],.non)
 else if c < 80 then ("",[],.non)
 else if c < 81 then ("jump",[],.bl true)
 else if c < 82 then ("jump",[],.bl false)
 else if c < 83 then ("call",[],.bl true)
 else if c < 84 then ("call",[],.bl false)
 else if c < 88 then ("jumpif",[c - 84],.bl true)
 else if c < 92 then ("jumpif",[c - 88],.bl false)
 else if c < 98 then ("",[],.non)
 else if c < 99 then ("back",[],.non)
 else if c < 100 then ("stop",[],.non)
 else if c < 104 then ("jumpby",[c - 100],.bl true)
 else if c < 108 then ("jumpby",[c - 104],.bl false)
 else if c < 112 then ("",[],.non)
 else if c < 128 then ("load",[(c - 112) / 4,(c - 112) % 4],.bl true)
 else if c < 144 then ("load",[(c - 128) / 4,(c - 128) % 4],.bl false)
 else if c < 148 then ("alike",[c - 144],.non)
 else ("",[],.non)
abbrev qX (c:Int):D:=.tup [.str (kd c).1,.tup (iD (kd c).2.1),(kd c).2.2]
noncomputable def qg:GP:=λ ds Q=>∃ c:Int,ds=[.int c]∧0≤c∧c < 256∧Q (qX c)
theorem Aq:dh qg:=λ ds P Q w ⟨c,h,h0,h',q⟩=>⟨c,h,h0,h',w _ q⟩
local macro_rules | `(tactic| walk_at "kk_tac") => `(tactic| (unfold kd; repeat (first | rw [if_pos (by omega)] | rw [if_neg (by omega)])))
theorem pG {d:D}:dZ 5 [d]=[some d,none,none,none,none]:=rfl
section
variable {c:Int}{Q:D→Prop}
theorem Wq (h0:0≤c) (h1:c < 16):kd c=(("" : Str),([]:List Int),(.non:D)):=by walk_at "kk_tac"
theorem Yr (h0:0≤c) (h1:c < 16) (q:Q (.tup [.str "",.tup [],.non])):cQ 5 1 (aC (cl bA)) [.int c] Q:=by
 refine⟨rfl,?_⟩
 rw[pG]
 unfold aC
 walk_at "kz0"
 repeat walk_at "kz2"
 refine⟨by omega,by omega,λ a b=>?_,λ a b=>?_,λ a b=>?_,λ a b=>?_,λ a b=>?_,λ a b=>?_,λ a=>?_,λ a=>?_,λ a=>?_⟩ <;> first | exact⟨rfl,q⟩ | (exfalso;omega)
theorem Py (h0:16≤c) (h1:c < 20):kd c=(("set" : Str),([c - 16]:List Int),(.non:D)):=by walk_at "kk_tac"
theorem Wr (h0:16≤c) (h1:c < 20) (q:Q (.tup [.str "set",.tup [.int (c - 16)],.non])):cQ 5 1 (aC (cl bA)) [.int c] Q:=by
 refine⟨rfl,?_⟩
 rw[pG]
 unfold aC
 walk_at "kz0"
 repeat walk_at "kz2"
 refine⟨by omega,by omega,λ a b=>?_,λ a b=>?_,λ a b=>?_,λ a b=>?_,λ a b=>?_,λ a b=>?_,λ a=>?_,λ a=>?_,λ a=>?_⟩ <;> first | exact⟨rfl,q⟩ | (exfalso;omega)
theorem Pz (h0:20≤c) (h1:c < 32):kd c=(("" : Str),([]:List Int),(.non:D)):=by walk_at "kk_tac"
theorem Ws (h0:20≤c) (h1:c < 32) (q:Q (.tup [.str "",.tup [],.non])):cQ 5 1 (aC (cl bA)) [.int c] Q:=by
 refine⟨rfl,?_⟩
 rw[pG]
 unfold aC
 walk_at "kz0"
 repeat walk_at "kz2"
 refine⟨by omega,by omega,λ a b=>?_,λ a b=>?_,λ a b=>?_,λ a b=>?_,λ a b=>?_,λ a b=>?_,λ a=>?_,λ a=>?_,λ a=>?_⟩ <;> first | exact⟨rfl,q⟩ | (exfalso;omega)
theorem PB (h0:32≤c) (h1:c < 48):kd c=(("add" : Str),([(c - 32) / 4,(c - 32) % 4]:List Int),(.non:D)):=by walk_at "kk_tac"
theorem Wt (h0:32≤c) (h1:c < 48) (q:Q (.tup [.str "add",.tup [.int ((c - 32) / 4),.int ((c - 32) % 4)],.non])):cQ 5 1 (aC (cl bA)) [.int c] Q:=by
 refine⟨rfl,?_⟩
 rw[pG]
 unfold aC
 walk_at "kz0"
 repeat walk_at "kz2"
 refine⟨by omega,by omega,λ a b=>?_,λ a b=>?_,λ a b=>?_,λ a b=>?_,λ a b=>?_,λ a b=>?_,λ a=>?_,λ a=>?_,λ a=>?_⟩ <;> first | exact⟨rfl,q⟩ | (exfalso;omega)
theorem PK (h0:48≤c) (h1:c < 64):kd c=(("take" : Str),([(c - 48) / 4,(c - 48) % 4]:List Int),(.non:D)):=by walk_at "kk_tac"
theorem Wu (h0:48≤c) (h1:c < 64) (q:Q (.tup [.str "take",.tup [.int ((c - 48) / 4),.int ((c - 48) % 4)],.non])):cQ 5 1 (aC (cl bA)) [.int c] Q:=by
 refine⟨rfl,?_⟩
 rw[pG]
 unfold aC
 walk_at "kz0"
 repeat walk_at "kz2"
 refine⟨by omega,by omega,λ a b=>?_,λ a b=>?_,λ a b=>?_,λ a b=>?_,λ a b=>?_,λ a b=>?_,λ a=>?_,λ a=>?_,λ a=>?_⟩ <;> first | exact⟨rfl,q⟩ | (exfalso;omega)
theorem PL (h0:64≤c) (h1:c < 68):kd c=(("say" : Str),([c - 64]:List Int),(.non:D)):=by walk_at "kk_tac"
theorem Wv (h0:64≤c) (h1:c < 68) (q:Q (.tup [.str "say",.tup [.int (c - 64)],.non])):cQ 5 1 (aC (cl bA)) [.int c] Q:=by
 refine⟨rfl,?_⟩
 rw[pG]
 unfold aC
 walk_at "kz0"
 repeat walk_at "kz2"
 refine⟨by omega,by omega,λ a b=>?_,λ a b=>?_,λ a b=>?_,λ a b=>?_,λ a b=>?_,λ a b=>?_,λ a=>?_,λ a=>?_,λ a=>?_⟩ <;> first | exact⟨rfl,q⟩ | (exfalso;omega)
theorem PN (h0:68≤c) (h1:c < 72):kd c=(("ask" : Str),([c - 68]:List Int),(.non:D)):=by walk_at "kk_tac"
theorem Ww (h0:68≤c) (h1:c < 72) (q:Q (.tup [.str "ask",.tup [.int (c - 68)],.non])):cQ 5 1 (aC (cl bA)) [.int c] Q:=by
 refine⟨rfl,?_⟩
 rw[pG]
 unfold aC
 walk_at "kz0"
 repeat walk_at "kz2"
 refine⟨by omega,by omega,λ a b=>?_,λ a b=>?_,λ a b=>?_,λ a b=>?_,λ a b=>?_,λ a b=>?_,λ a=>?_,λ a=>?_,λ a=>?_⟩ <;> first | exact⟨rfl,q⟩ | (exfalso;omega)
theorem PX (h0:72≤c) (h1:c < 80):kd c=(("" : Str),([]:List Int),(.non:D)):=by walk_at "kk_tac"
theorem Wx (h0:72≤c) (h1:c < 80) (q:Q (.tup [.str "",.tup [],.non])):cQ 5 1 (aC (cl bA)) [.int c] Q:=by
 refine⟨rfl,?_⟩
 rw[pG]
 unfold aC
 walk_at "kz0"
 repeat walk_at "kz2"
 refine⟨by omega,by omega,λ a b=>?_,λ a b=>?_,λ a b=>?_,λ a b=>?_,λ a b=>?_,λ a b=>?_,λ a=>?_,λ a=>?_,λ a=>?_⟩ <;> first | exact⟨rfl,q⟩ | (exfalso;omega)
theorem P0 (h0:80≤c) (h1:c < 81):kd c=(("jump" : Str),([]:List Int),(.bl true:D)):=by walk_at "kk_tac"
theorem Wy (h0:80≤c) (h1:c < 81) (q:Q (.tup [.str "jump",.tup [],.bl true])):cQ 5 1 (aC (cl bA)) [.int c] Q:=by
 refine⟨rfl,?_⟩
 rw[pG]
 unfold aC
 walk_at "kz0"
 repeat walk_at "kz2"
 exact q
theorem Qa (h0:81≤c) (h1:c < 82):kd c=(("jump" : Str),([]:List Int),(.bl false:D)):=by walk_at "kk_tac"
theorem Wz (h0:81≤c) (h1:c < 82) (q:Q (.tup [.str "jump",.tup [],.bl false])):cQ 5 1 (aC (cl bA)) [.int c] Q:=by
 refine⟨rfl,?_⟩
 rw[pG]
 unfold aC
 walk_at "kz0"
 repeat walk_at "kz2"
 exact q
theorem Qc (h0:82≤c) (h1:c < 83):kd c=(("call" : Str),([]:List Int),(.bl true:D)):=by walk_at "kk_tac"
theorem WD (h0:82≤c) (h1:c < 83) (q:Q (.tup [.str "call",.tup [],.bl true])):cQ 5 1 (aC (cl bA)) [.int c] Q:=by
 refine⟨rfl,?_⟩
 rw[pG]
 unfold aC
 walk_at "kz0"
 repeat walk_at "kz2"
 exact q
theorem Qd (h0:83≤c) (h1:c < 84):kd c=(("call" : Str),([]:List Int),(.bl false:D)):=by walk_at "kk_tac"
theorem WK (h0:83≤c) (h1:c < 84) (q:Q (.tup [.str "call",.tup [],.bl false])):cQ 5 1 (aC (cl bA)) [.int c] Q:=by
 refine⟨rfl,?_⟩
 rw[pG]
 unfold aC
 walk_at "kz0"
 repeat walk_at "kz2"
 exact q
theorem Qe (h0:84≤c) (h1:c < 88):kd c=(("jumpif" : Str),([c - 84]:List Int),(.bl true:D)):=by walk_at "kk_tac"
theorem WL (h0:84≤c) (h1:c < 88) (q:Q (.tup [.str "jumpif",.tup [.int (c - 84)],.bl true])):cQ 5 1 (aC (cl bA)) [.int c] Q:=by
 refine⟨rfl,?_⟩
 rw[pG]
 unfold aC
 walk_at "kz0"
 repeat walk_at "kz2"
 exact q
theorem Qf (h0:88≤c) (h1:c < 92):kd c=(("jumpif" : Str),([c - 88]:List Int),(.bl false:D)):=by walk_at "kk_tac"
theorem WM (h0:88≤c) (h1:c < 92) (q:Q (.tup [.str "jumpif",.tup [.int (c - 88)],.bl false])):cQ 5 1 (aC (cl bA)) [.int c] Q:=by
 refine⟨rfl,?_⟩
 rw[pG]
 unfold aC
 walk_at "kz0"
 repeat walk_at "kz2"
 exact q
theorem Qg (h0:92≤c) (h1:c < 98):kd c=(("" : Str),([]:List Int),(.non:D)):=by walk_at "kk_tac"
theorem WQ (h0:92≤c) (h1:c < 98) (q:Q (.tup [.str "",.tup [],.non])):cQ 5 1 (aC (cl bA)) [.int c] Q:=by
 refine⟨rfl,?_⟩
 rw[pG]
 unfold aC
 walk_at "kz0"
 repeat walk_at "kz2"
 refine⟨by omega,by omega,λ a b=>?_,λ a b=>?_,λ a b=>?_,λ a b=>?_,λ a b=>?_,λ a b=>?_,λ a=>?_,λ a=>?_,λ a=>?_⟩ <;> first | exact⟨rfl,q⟩ | (exfalso;omega)
theorem Qh (h0:98≤c) (h1:c < 99):kd c=(("back" : Str),([]:List Int),(.non:D)):=by walk_at "kk_tac"
theorem WR (h0:98≤c) (h1:c < 99) (q:Q (.tup [.str "back",.tup [],.non])):cQ 5 1 (aC (cl bA)) [.int c] Q:=by
 refine⟨rfl,?_⟩
 rw[pG]
 unfold aC
 walk_at "kz0"
 repeat walk_at "kz2"
 refine⟨by omega,by omega,λ a b=>?_,λ a b=>?_,λ a b=>?_,λ a b=>?_,λ a b=>?_,λ a b=>?_,λ a=>?_,λ a=>?_,λ a=>?_⟩ <;> first | exact⟨rfl,q⟩ | (exfalso;omega)
theorem Qi (h0:99≤c) (h1:c < 100):kd c=(("stop" : Str),([]:List Int),(.non:D)):=by walk_at "kk_tac"
theorem WT (h0:99≤c) (h1:c < 100) (q:Q (.tup [.str "stop",.tup [],.non])):cQ 5 1 (aC (cl bA)) [.int c] Q:=by
 refine⟨rfl,?_⟩
 rw[pG]
 unfold aC
 walk_at "kz0"
 repeat walk_at "kz2"
 refine⟨by omega,by omega,λ a b=>?_,λ a b=>?_,λ a b=>?_,λ a b=>?_,λ a b=>?_,λ a b=>?_,λ a=>?_,λ a=>?_,λ a=>?_⟩ <;> first | exact⟨rfl,q⟩ | (exfalso;omega)
theorem JZ (h0:100≤c) (h1:c < 104):kd c=(("jumpby" : Str),([c - 100]:List Int),(.bl true:D)):=by walk_at "kk_tac"
theorem T8 (h0:100≤c) (h1:c < 104) (q:Q (.tup [.str "jumpby",.tup [.int (c - 100)],.bl true])):cQ 5 1 (aC (cl bA)) [.int c] Q:=by
 refine⟨rfl,?_⟩
 rw[pG]
 unfold aC
 walk_at "kz0"
 repeat walk_at "kz2"
 exact q
theorem J0 (h0:104≤c) (h1:c < 108):kd c=(("jumpby" : Str),([c - 104]:List Int),(.bl false:D)):=by walk_at "kk_tac"
theorem T9 (h0:104≤c) (h1:c < 108) (q:Q (.tup [.str "jumpby",.tup [.int (c - 104)],.bl false])):cQ 5 1 (aC (cl bA)) [.int c] Q:=by
 refine⟨rfl,?_⟩
 rw[pG]
 unfold aC
 walk_at "kz0"
 repeat walk_at "kz2"
 exact q
theorem J1 (h0:108≤c) (h1:c < 112):kd c=(("" : Str),([]:List Int),(.non:D)):=by walk_at "kk_tac"
theorem Ua (h0:108≤c) (h1:c < 112) (q:Q (.tup [.str "",.tup [],.non])):cQ 5 1 (aC (cl bA)) [.int c] Q:=by
 refine⟨rfl,?_⟩
 rw[pG]
 unfold aC
 walk_at "kz0"
 repeat walk_at "kz2"
 refine⟨by omega,by omega,λ a b=>?_,λ a b=>?_,λ a b=>?_,λ a b=>?_,λ a b=>?_,λ a b=>?_,λ a=>?_,λ a=>?_,λ a=>?_⟩ <;> first | exact⟨rfl,q⟩ | (exfalso;omega)
theorem J2 (h0:112≤c) (h1:c < 128):kd c=(("load" : Str),([(c - 112) / 4,(c - 112) % 4]:List Int),(.bl true:D)):=by walk_at "kk_tac"
theorem Ub (h0:112≤c) (h1:c < 128) (q:Q (.tup [.str "load",.tup [.int (c % 16 / 4),.int (c % 4)],.bl true])):cQ 5 1 (aC (cl bA)) [.int c] Q:=by
 refine⟨rfl,?_⟩
 rw[pG]
 unfold aC
 walk_at "kz0"
 repeat walk_at "kz2"
 exact q
theorem J3 (h0:128≤c) (h1:c < 144):kd c=(("load" : Str),([(c - 128) / 4,(c - 128) % 4]:List Int),(.bl false:D)):=by walk_at "kk_tac"
theorem Uc (h0:128≤c) (h1:c < 144) (q:Q (.tup [.str "load",.tup [.int (c % 16 / 4),.int (c % 4)],.bl false])):cQ 5 1 (aC (cl bA)) [.int c] Q:=by
 refine⟨rfl,?_⟩
 rw[pG]
 unfold aC
 walk_at "kz0"
 repeat walk_at "kz2"
 exact q
theorem J8 (h0:144≤c) (h1:c < 148):kd c=(("alike" : Str),([c - 144]:List Int),(.non:D)):=by walk_at "kk_tac"
theorem Ud (h0:144≤c) (h1:c < 148) (q:Q (.tup [.str "alike",.tup [.int (c - 144)],.non])):cQ 5 1 (aC (cl bA)) [.int c] Q:=by
 refine⟨rfl,?_⟩
 rw[pG]
 unfold aC
 walk_at "kz0"
 repeat walk_at "kz2"
 refine⟨by omega,by omega,λ a b=>?_,λ a b=>?_,λ a b=>?_,λ a b=>?_,λ a b=>?_,λ a b=>?_,λ a=>?_,λ a=>?_,λ a=>?_⟩ <;> first | exact⟨rfl,q⟩ | (exfalso;omega)
theorem J9 (h0:148≤c) (h1:c < 256):kd c=(("" : Str),([]:List Int),(.non:D)):=by walk_at "kk_tac"
theorem Ue (h0:148≤c) (h1:c < 256) (q:Q (.tup [.str "",.tup [],.non])):cQ 5 1 (aC (cl bA)) [.int c] Q:=by
 refine⟨rfl,?_⟩
 rw[pG]
 unfold aC
 walk_at "kz0"
 repeat walk_at "kz2"
 refine⟨by omega,by omega,λ a b=>?_,λ a b=>?_,λ a b=>?_,λ a b=>?_,λ a b=>?_,λ a b=>?_,λ a=>?_,λ a=>?_,λ a=>?_⟩ <;> first | exact⟨rfl,q⟩ | (exfalso;omega)
end
theorem NP:∀ ds Q,qg ds Q→cQ 5 1 (aC (cl bA)) ds Q:=λ ds Q ⟨c,h,c0,c1,q⟩=>by
 subst h
 rcases Int.lt_or_le c 16 with Gv | Gv
 ·have e:=Wq (c:=c) (by omega) Gv
  unfold qX at q
  rw[e] at q
  exact Yr (by omega) Gv q
 rcases Int.lt_or_le c 20 with Gw | Gw
 ·have e:=Py (c:=c) (by omega) Gw
  unfold qX at q
  rw[e] at q
  exact Wr (by omega) Gw q
 rcases Int.lt_or_le c 32 with Gx | Gx
 ·have e:=Pz (c:=c) (by omega) Gx
  unfold qX at q
  rw[e] at q
  exact Ws (by omega) Gx q
 rcases Int.lt_or_le c 48 with Gy | Gy
 ·have e:=PB (c:=c) (by omega) Gy
  unfold qX at q
  rw[e] at q
  exact Wt (by omega) Gy q
 rcases Int.lt_or_le c 64 with h64 | h64
 ·have e:=PK (c:=c) (by omega) h64
  unfold qX at q
  rw[e] at q
  exact Wu (by omega) h64 q
 rcases Int.lt_or_le c 68 with Gz | Gz
 ·have e:=PL (c:=c) (by omega) Gz
  unfold qX at q
  rw[e] at q
  exact Wv (by omega) Gz q
 rcases Int.lt_or_le c 72 with GC | GC
 ·have e:=PN (c:=c) (by omega) GC
  unfold qX at q
  rw[e] at q
  exact Ww (by omega) GC q
 rcases Int.lt_or_le c 80 with KC | KC
 ·have e:=PX (c:=c) (by omega) KC
  unfold qX at q
  rw[e] at q
  exact Wx (by omega) KC q
 rcases Int.lt_or_le c 81 with KD | KD
 ·have e:=P0 (c:=c) (by omega) KD
  unfold qX at q
  rw[e] at q
  exact Wy (by omega) KD q
 rcases Int.lt_or_le c 82 with KH | KH
 ·have e:=Qa (c:=c) (by omega) KH
  unfold qX at q
  rw[e] at q
  exact Wz (by omega) KH q
 rcases Int.lt_or_le c 83 with KJ | KJ
 ·have e:=Qc (c:=c) (by omega) KJ
  unfold qX at q
  rw[e] at q
  exact WD (by omega) KJ q
 rcases Int.lt_or_le c 84 with KN | KN
 ·have e:=Qd (c:=c) (by omega) KN
  unfold qX at q
  rw[e] at q
  exact WK (by omega) KN q
 rcases Int.lt_or_le c 88 with KQ | KQ
 ·have e:=Qe (c:=c) (by omega) KQ
  unfold qX at q
  rw[e] at q
  exact WL (by omega) KQ q
 rcases Int.lt_or_le c 92 with KR | KR
 ·have e:=Qf (c:=c) (by omega) KR
  unfold qX at q
  rw[e] at q
  exact WM (by omega) KR q
 rcases Int.lt_or_le c 98 with GD | GD
 ·have e:=Qg (c:=c) (by omega) GD
  unfold qX at q
  rw[e] at q
  exact WQ (by omega) GD q
 rcases Int.lt_or_le c 99 with GJ | GJ
 ·have e:=Qh (c:=c) (by omega) GJ
  unfold qX at q
  rw[e] at q
  exact WR (by omega) GJ q
 rcases Int.lt_or_le c 100 with h100 | h100
 ·have e:=Qi (c:=c) (by omega) h100
  unfold qX at q
  rw[e] at q
  exact WT (by omega) h100 q
 rcases Int.lt_or_le c 104 with uR | uR
 ·have e:=JZ (c:=c) (by omega) uR
  unfold qX at q
  rw[e] at q
  exact T8 (by omega) uR q
 rcases Int.lt_or_le c 108 with uT | uT
 ·have e:=J0 (c:=c) (by omega) uT
  unfold qX at q
  rw[e] at q
  exact T9 (by omega) uT q
 rcases Int.lt_or_le c 112 with uU | uU
 ·have e:=J1 (c:=c) (by omega) uU
  unfold qX at q
  rw[e] at q
  exact Ua (by omega) uU q
 rcases Int.lt_or_le c 128 with uV | uV
 ·have e:=J2 (c:=c) (by omega) uV
  unfold qX at q
  rw[e] at q
  have q:Q (.tup [.str "load",.tup [.int ((c - 112) / 4),.int ((c - 112) % 4)],.bl true]):=q
  rw[show (c - 112) / 4=c % 16 / 4 by omega,show (c - 112) % 4=c % 4 by omega] at q
  exact Ub (by omega) uV q
 rcases Int.lt_or_le c 144 with p8 | p8
 ·have e:=J3 (c:=c) (by omega) p8
  unfold qX at q
  rw[e] at q
  have q:Q (.tup [.str "load",.tup [.int ((c - 128) / 4),.int ((c - 128) % 4)],.bl false]):=q
  rw[show (c - 128) / 4=c % 16 / 4 by omega,show (c - 128) % 4=c % 4 by omega] at q
  exact Uc (by omega) p8 q
 rcases Int.lt_or_le c 148 with qd | qd
 ·have e:=J8 (c:=c) (by omega) qd
  unfold qX at q
  rw[e] at q
  exact Ud (by omega) qd q
 have e:=J9 (c:=c) (by omega) c1
 unfold qX at q
 rw[e] at q
 exact Ue (by omega) c1 q
end K23
namespace K23
open PySem PySem.Spec L2 L3
local macro_rules | `(tactic| walk_at "kz0") => `(tactic| (obtain ⟨S, z1, z2, z3, z4, z5, z6, z7⟩ := JR; (try rw [z1]); (try rw [z2]); (try rw [z3]); (try rw [z4]); (try rw [z5]); (try rw [z6]); (try rw [z7]); clear z1 z2 z3 z4 z5 z6 z7))
noncomputable def eZ:GP:=λ ds Q=>∃ (cs:List Int) (a m:Int) (xs r:List Int),ds=[.lst (iD cs),.int a,.int m]∧At cs a (xs++r)∧(xs.length:Int)=m∧Q (.int (wd 0 xs))
theorem yw:dh eZ:=λ ds P Q w ⟨cs,a,m,xs,r,h,h1,h2,q⟩=>⟨cs,a,m,xs,r,h,h1,h2,w _ q⟩
theorem Ka:∀ ds Q,eZ ds Q→cQ 5 3 nU ds Q:=λ ds Q ⟨cs,a,m,xs,r,h,h1,h2,q⟩=>by
 subst h
 obtain⟨pre,post,rfl,rfl⟩:=h1
 subst h2
 refine NK _ _ ⟨_,pre.length,xs.length,rfl,?_⟩
 rw[List.drop_left,List.append_assoc,List.take_left]
 exact q
theorem WW {x y:Int}:wd 0 [x,y]=256 * x+y:=by show 256 * (256 * 0+x)+y=_;omega
theorem Zr {x y z u:Int}:wd 0 [x,y,z,u]=65536 * (256 * x+y)+(256 * z+u):=by show 256 * (256 * (256 * (256 * 0+x)+y)+z)+u=_;omega
noncomputable def iJ:GP:=λ ds Q=>∃ (cs:List Int) (a:Int),ds=[.lst (iD cs),.int a]∧Cs cs∧In a∧(∀ r,yD cs a=some r→Q (yE a r))∧(yD cs a=none→Q .non)
theorem qY:dh iJ:=λ ds P Q w ⟨cs,a,h1,h2,h3,q1,q2⟩=>⟨cs,a,h1,h2,h3,λ r e=>w _ (q1 r e),λ e=>w _ (q2 e)⟩
abbrev LC (cs:List Int) (a:Int) (Q:D→Prop):Prop:=cQ 8 2 (fJ (cl qg) (cl dM) (cl eZ)) [.lst (iD cs),.int a] Q
theorem Rj {d e:D}:dZ 8 [d,e]=[some d,some e,none,none,none,none,none,none]:=rfl
local macro_rules | `(tactic| walk_at "lz1") => `(tactic| ((conv => whnf); first
 | refine⟨rfl,?_⟩ | refine⟨_,rfl,?_⟩ | refine⟨True.intro,?_⟩ | refine⟨Nat.le_of_ble_eq_true rfl,?_⟩ | refine⟨show (0:Int) < _ by decide,?_⟩ | refine⟨show fu _ _ from ⟨by decide,by decide⟩,?_⟩
 | refine GS.le_y _ (by omega) ?_ | refine GS.le_n _ (by omega) ?_ | refine GS.lt_y _ (by omega) ?_ | refine GS.lt_n _ (by omega) ?_ | refine GS.ge_y _ (by omega) ?_ | refine GS.ge_n _ (by omega) ?_ | refine GS.gt_y _ (by omega) ?_ | refine GS.gt_n _ (by omega) ?_
 | refine⟨List.cons_ne_nil _ _,by assumption,?_⟩ | refine GS.eq_s _ (by assumption) ?_ | refine GS.get_s _ (by assumption) ?_))
theorem iI0:(if false=true then (1:Int) else 0)=0:=rfl
theorem iI2:(if True then (1:Int) else 0)=1:=rfl
theorem iI1:(if true=true then (1:Int) else 0)=1:=rfl
local macro_rules | `(tactic| walk_at "lz2") => `(tactic| (walk_at "lz1"; try simp only [List.set_cons_succ, List.set_cons_zero, iI0, iI1, iI2]))
section
variable {cs:List Int}{a c:Int}{rest bs:List Int}{k:Str}{near:D}{Q:D→Prop}
theorem Kc {tl:DS} (hA:At cs a (c::rest)) (hl:(cs.length:Int)=a+1+rest.length) (hx:0≤c∧c < 256) (hk:kd c=(k,bs,near)) (h:tl (EE Q) [some (.lst (iD cs)),some (.int a),some (.str k),some (.tup (iD bs)),some near,none,none,none] []) :
  aY (bC (gC (aJ (cR pQ qM (dC (.int 0)) (ao 1) (bT kY (ak (ao 0) aB))))) (bh (dC .non)) aW)
   (aY (ur (bT (cl qg) (ak (aL c7 (ao 0) (ao 1)) aB)) (kE 3 (bI (aM 2) (bI (aM 3) (bI (aM 4) kj))))) tl) (EE Q) [some (.lst (iD cs)),some (.int a),none,none,none,none,none,none] []:=by
 have a0:=hA.nn
 have e1:decide (0≤a)=true:=decide_eq_true a0
 have e2:decide (a < ((iD cs).length:Int))=true:=decide_eq_true (by rw[List.length_map];omega)
 simp only [aY,bC,gC,jo,iG,dC,dF,cX,jq,e1,fL,if_true,bT,ak,aB,iH,nW,nY,j8,pZ,e2,f9,Bool.not_true,Bool.false_eq_true,if_false,aW]
 refine⟨_,hA.hd,rfl,c,rfl,hx.1,hx.2,?_⟩
 show kE 3 _ (.tup [.str (kd c).1,.tup (iD (kd c).2.1),(kd c).2.2]) _ _ _
 rw[hk]
 exact⟨rfl,rfl,h⟩
theorem Kd (h:¬ (0≤a∧a < cs.length)) (q:Q .non):LC cs a Q:=by
 refine⟨rfl,?_⟩
 rw[Rj]
 unfold fJ
 by_cases h0:0≤a
 ·have e1:decide (0≤a)=true:=decide_eq_true h0
  have e2:decide (a < ((iD cs).length:Int))=false:=decide_eq_false (by rw[List.length_map];omega)
  simp only [aY,bC,gC,jo,iG,dC,dF,cX,jq,e1,fL,if_true,bT,ak,aB,iH,nW,nY,j8,pZ,e2,f9,Bool.not_true,Bool.not_false,Bool.false_eq_true,if_false,aW]
  exact⟨rfl,q⟩
 ·have e1:decide (0≤a)=false:=decide_eq_false h0
  simp only [aY,bC,gC,jo,iG,dC,dF,cX,jq,e1,fL,if_true,bT,ak,aB,iH,nW,nY,j8,pZ,f9,Bool.not_true,Bool.not_false,Bool.false_eq_true,if_false,aW]
  exact⟨rfl,q⟩
theorem mU (hA:At cs a (c::rest)) (hl:(cs.length:Int)=a+1+rest.length) (hx:0≤c∧c < 256) (hk:kd c=(("" : Str),([]:List Int),(.non:D))) (q:Q .non):LC cs a Q:=by
 refine⟨rfl,?_⟩
 rw[Rj]
 unfold fJ
 refine Kc hA hl hx hk ?_
 clear hA hl hx hk
 have e1:(("" : Str) == "")=true:=by decide +kernel
 have e4:(valD (.inr "") [.inr "",.inr "set",.inr "alike"] [.int 0,.int 4,.int 4]).getD (.int 0) = .int 0:=by kernel_rfl
 walk_at "kz0"
 repeat walk_at "lz2"
 exact q
structure Kw (k:Str):Prop where
 e1:(k == "")=false
 e2:(k == "set")=false
 e3:(k == "alike")=false
 e4:(valD (.inr k) [.inr "",.inr "set",.inr "alike"] [.int 0,.int 4,.int 4]).getD (.int 0) = .int 0
theorem Ke {xs:List Int}{k:Str} (h:xs.length≤50):[D.str k].length+(iD xs).length≤sizeLine:=by
 rw[List.length_map]
 exact Nat.le_trans (show [D.str k].length+xs.length≤51 by simp;omega) (by decide)
theorem WX {k:Str}:([D.str k]++iD bs)=[D.str k]++iD bs++iD []:=by simp
abbrev Ar (bN bF:GN):DS:=(aY (bW 5 (zc "dict" oO (dNew (zm [((dC (.str "")),(dC (.int 0))),((dC (.str "set")),(dC (.int 4))),((dC (.str "alike")),(dC (.int 4)))])) (ak (ao 2) (ak (dC (.int 0)) aB))))
 (aY (bC (aJ (aL sG (ao 4) (dC .non))) (bW 5 (aL (kJ λ i j=>.int (i - j)) (dC (.int 2)) (bT Jo (ak (ao 4) aB)))) aW)
 (aY (bC (GX (aJ (aL jy (ao 2) (dC (.str "")))) (aJ (aL (kJ λ i j=>.bl (decide (j≤i))) (aL aN (ao 1) (ao 5)) (bT kY (ak (ao 0) aB))))) (bh (dC .non)) aW)
 (aY (bW 6 (aL aN (dTup (ak (ao 2) aB)) (ao 3)))
 (aY (bC (aJ (aL jy (ao 2) (dC (.str "set")))) (bW 6 (aL aN (ao 6) (dTup (ak (bT bN (ak (bT bF (ak (ao 0) (ak (aL aN (ao 1) (dC (.int 1))) (ak (dC (.int 4)) aB)))) (ak (dC (.int 4294967296)) aB))) aB)))) (bC (aJ (aL jy (ao 2) (dC (.str "alike")))) (bW 6 (aL aN (ao 6) (dTup (ak (bT bF (ak (ao 0) (ak (aL aN (ao 1) (dC (.int 1))) (ak (dC (.int 2)) aB)))) (ak (bT bF (ak (ao 0) (ak (aL aN (ao 1) (dC (.int 3))) (ak (dC (.int 2)) aB)))) aB))))) (bC (aJ (aL wO (ao 4) (dC (.bl false)))) (bW 6 (aL aN (ao 6) (dTup (ak (bT bF (ak (ao 0) (ak (aL aN (ao 1) (dC (.int 1))) (ak (dC (.int 2)) aB)))) aB)))) (bC (aJ (aL wO (ao 4) (dC (.bl true)))) (aY (bW 7 (aL aN (aL aN (ao 1) (dC (.int 2))) (bT bN (ak (aL c7 (ao 0) (aL aN (ao 1) (dC (.int 1)))) (ak (dC (.int 256)) aB)))))
 (aY (bC (aJ (aL qM (ao 7) (dC (.int 0)))) (bh (dC .non)) aW)
 (bW 6 (aL aN (ao 6) (dTup (ak (ao 7) aB)))))) aW))))
 (bh (dTup (ak (ao 6) (ak (ao 4) (ak (aL aN (aL aN (ao 1) (ao 5)) (dC (.int 1))) aB))))))))))
theorem NQ {xs:List Int}{k:Str}{ys:List D} (h:xs.length≤50) (h':ys.length≤5):([D.str k]++iD xs).length+ys.length≤sizeLine:=by
 rw[List.length_append,List.length_map]
 exact Nat.le_trans (show [D.str k].length+xs.length+ys.length≤56 by simp;omega) (by decide)
theorem qj {gs gw:GN}{n:Int} (hn:((iD cs).length:Int)=n) (h:a < n) (kw:Kw k) (hb:bs.length≤50) (q:Q (.tup [.tup ([.str k]++iD bs),.non,.int (a+0+1)])):Ar gs gw (EE Q) [some (.lst (iD cs)),some (.int a),some (.str k),some (.tup (iD bs)),some .non,none,none,none] []:=by
 obtain⟨e1,e2,e3,e4⟩:=kw
 have hq:=Ke (k:=k) hb
 have rt:=lY (kind:=k) (bs:=bs) (ts:=[]) (near:=.non) (i:=a+0+1) (Q:=Q) rfl (by rw[← WX];exact q)
 rw[← WX] at rt
 clear q hb
 unfold Ar
 walk_at "kz0"
 repeat walk_at "lz2"
 exact rt
theorem fU {gs gw:GN}{n:Int} (hn:((iD cs).length:Int)=n) (h:n≤a+2) (kw:Kw k) (q:Q .non):Ar gs gw (EE Q) [some (.lst (iD cs)),some (.int a),some (.str k),some (.tup (iD bs)),some (.bl false),none,none,none] []:=by
 obtain⟨e1,e2,e3,e4⟩:=kw
 unfold Ar
 walk_at "kz0"
 repeat walk_at "lz2"
 exact q
theorem pq {gs:GN}{n x y:Int}{r:List Int} (hn:((iD cs).length:Int)=n) (h:a+2 < n) (hA:At cs (a+1) (x::y::r)) (kw:Kw k) (hb:bs.length≤50) (q:Q (.tup [.tup ([.str k]++iD bs++iD [256 * x+y]),.bl false,.int (a+2+1)])):Ar gs (cl eZ) (EE Q) [some (.lst (iD cs)),some (.int a),some (.str k),some (.tup (iD bs)),some (.bl false),none,none,none] []:=by
 obtain⟨e1,e2,e3,e4⟩:=kw
 have hq:=Ke (k:=k) hb
 have hq2:=NQ (k:=k) (ys:=[D.int (256 * x+y)]) hb (by simp)
 have rt:=lY (kind:=k) (bs:=bs) (ts:=[256 * x+y]) (near:=.bl false) (i:=a+2+1) (Q:=Q) rfl q
 clear q hb
 unfold Ar
 walk_at "kz0"
 repeat walk_at "lz2"
 refine⟨eX cs _ _,cs,_,_,[x,y],r,rfl,hA,rfl,?_⟩
 rw[WW]
 repeat walk_at "lz2"
 exact rt
theorem lZ {gs gw:GN}{n:Int} (hn:((iD cs).length:Int)=n) (h:n≤a+1) (kw:Kw k) (q:Q .non):Ar gs gw (EE Q) [some (.lst (iD cs)),some (.int a),some (.str k),some (.tup (iD bs)),some (.bl true),none,none,none] []:=by
 obtain⟨e1,e2,e3,e4⟩:=kw
 unfold Ar
 walk_at "kz0"
 repeat walk_at "lz2"
 exact q
theorem mj {gw:GN}{n x:Int}{r:List Int} (hn:((iD cs).length:Int)=n) (h:a+1 < n) (hA:At cs (a+1) (x::r)) (kw:Kw k) (hb:bs.length≤50) (q:0≤a+2+stp x→Q (.tup [.tup ([.str k]++iD bs++iD [a+2+stp x]),.bl true,.int (a+1+1)])) (q0:a+2+stp x < 0→Q .non):Ar (cl dM) gw (EE Q) [some (.lst (iD cs)),some (.int a),some (.str k),some (.tup (iD bs)),some (.bl true),none,none,none] []:=by
 obtain⟨e1,e2,e3,e4⟩:=kw
 have hq:=Ke (k:=k) hb
 have hq2:=NQ (k:=k) (ys:=[D.int (a+2+stp x)]) hb (by simp)
 have rt:=λ p=>lY (kind:=k) (bs:=bs) (ts:=[a+2+stp x]) (near:=.bl true) (i:=a+1+1) (Q:=Q) rfl (q p)
 clear q hb
 unfold Ar
 walk_at "kz0"
 repeat walk_at "lz2"
 refine⟨_,hA.hd,?_⟩
 refine⟨rfl,x,256,rfl,by decide,?_⟩
 rw[T3]
 by_cases hp:0≤a+2+stp x
 ·have rt:=rt hp
  clear q0
  repeat walk_at "lz2"
  exact rt
 ·have q0:=q0 (by omega)
  clear rt
  repeat walk_at "lz2"
  exact q0
theorem gb {gs gw:GN}{n:Int} (hn:((iD cs).length:Int)=n) (h:n≤a+4) (hk:k="set"∨k="alike") (q:Q .non):Ar gs gw (EE Q) [some (.lst (iD cs)),some (.int a),some (.str k),some (.tup (iD bs)),some .non,none,none,none] []:=by
 have e1:(k == "")=false:=by rcases hk with rfl | rfl <;> decide +kernel
 have e4:(valD (.inr k) [.inr "",.inr "set",.inr "alike"] [.int 0,.int 4,.int 4]).getD (.int 0) = .int 4:=by rcases hk with rfl | rfl <;> kernel_rfl
 clear hk
 unfold Ar
 walk_at "kz0"
 repeat walk_at "lz2"
 exact q
theorem Ug {n x y z u:Int}{r:List Int} (hn:((iD cs).length:Int)=n) (h:a+4 < n) (hA:At cs (a+1) (x::y::z::u::r)) (hb:bs.length≤50) (q:Q (.tup [.tup ([.str "set"]++iD bs++iD [sgn (65536 * (256 * x+y)+(256 * z+u))]),.non,.int (a+4+1)])):Ar (cl dM) (cl eZ) (EE Q) [some (.lst (iD cs)),some (.int a),some (.str "set"),some (.tup (iD bs)),some .non,none,none,none] []:=by
 have e1:(("set" : Str) == "")=false:=by decide +kernel
 have e2:(("set" : Str) == "set")=true:=by decide +kernel
 have e4:(valD (.inr "set") [.inr "",.inr "set",.inr "alike"] [.int 0,.int 4,.int 4]).getD (.int 0) = .int 4:=by kernel_rfl
 have hq:=Ke (k:="set") hb
 have hq2:=NQ (k:="set") (ys:=[D.int (sgn (65536 * (256 * x+y)+(256 * z+u)))]) hb (by simp)
 have rt:=lY (kind:="set") (bs:=bs) (ts:=[sgn (65536 * (256 * x+y)+(256 * z+u))]) (near:=.non) (i:=a+4+1) (Q:=Q) rfl q
 clear q hb
 unfold Ar
 walk_at "kz0"
 repeat walk_at "lz2"
 refine⟨eX cs _ _,cs,_,_,[x,y,z,u],r,rfl,hA,rfl,?_⟩
 rw[Zr]
 refine⟨rfl,_,4294967296,rfl,by decide,?_⟩
 rw[Px]
 repeat walk_at "lz2"
 exact rt
theorem Kf {gs:GN}{n x y z u:Int}{r:List Int} (hn:((iD cs).length:Int)=n) (h:a+4 < n) (hA:At cs (a+1) (x::y::z::u::r)) (hb:bs.length≤50) (q:Q (.tup [.tup ([.str "alike"]++iD bs++iD [256 * x+y,256 * z+u]),.non,.int (a+4+1)])):Ar gs (cl eZ) (EE Q) [some (.lst (iD cs)),some (.int a),some (.str "alike"),some (.tup (iD bs)),some .non,none,none,none] []:=by
 have e1:(("alike" : Str) == "")=false:=by decide +kernel
 have e2:(("alike" : Str) == "set")=false:=by decide +kernel
 have e3:(("alike" : Str) == "alike")=true:=by decide +kernel
 have e4:(valD (.inr "alike") [.inr "",.inr "set",.inr "alike"] [.int 0,.int 4,.int 4]).getD (.int 0) = .int 4:=by kernel_rfl
 have hq:=Ke (k:="alike") hb
 have hq2:=NQ (k:="alike") (ys:=[D.int (256 * x+y),D.int (256 * z+u)]) hb (by simp)
 have rt:=lY (kind:="alike") (bs:=bs) (ts:=[256 * x+y,256 * z+u]) (near:=.non) (i:=a+4+1) (Q:=Q) rfl q
 have Zt:=hA.tl.tl
 rw[show a+1+1+1=a+3 by omega] at Zt
 clear q hb
 unfold Ar
 walk_at "kz0"
 repeat walk_at "lz2"
 refine⟨eX cs _ _,cs,_,_,[x,y],z::u::r,rfl,hA,rfl,?_⟩
 rw[WW]
 refine⟨eX cs _ _,cs,_,_,[z,u],r,rfl,Zt,rfl,?_⟩
 rw[WW]
 repeat walk_at "lz2"
 exact rt
end
end K23
namespace K23
open PySem PySem.Spec L2 L3
local macro_rules | `(tactic| walk_at "rr_tac") => `(tactic| (unfold bx; repeat (first | rw [if_pos (by omega)] | rw [if_neg (by omega)])))
theorem Uh:Kw "add":=⟨by decide +kernel,by decide +kernel,by decide +kernel,by kernel_rfl⟩
theorem NT:Kw "take":=⟨by decide +kernel,by decide +kernel,by decide +kernel,by kernel_rfl⟩
theorem Ui:Kw "say":=⟨by decide +kernel,by decide +kernel,by decide +kernel,by kernel_rfl⟩
theorem Uj:Kw "ask":=⟨by decide +kernel,by decide +kernel,by decide +kernel,by kernel_rfl⟩
theorem NZ:Kw "back":=⟨by decide +kernel,by decide +kernel,by decide +kernel,by kernel_rfl⟩
theorem N5:Kw "stop":=⟨by decide +kernel,by decide +kernel,by decide +kernel,by kernel_rfl⟩
theorem pA:Kw "jump":=⟨by decide +kernel,by decide +kernel,by decide +kernel,by kernel_rfl⟩
theorem pB:Kw "call":=⟨by decide +kernel,by decide +kernel,by decide +kernel,by kernel_rfl⟩
theorem jC:Kw "jumpif":=⟨by decide +kernel,by decide +kernel,by decide +kernel,by kernel_rfl⟩
theorem jD:Kw "jumpby":=⟨by decide +kernel,by decide +kernel,by decide +kernel,by kernel_rfl⟩
theorem pC:Kw "load":=⟨by decide +kernel,by decide +kernel,by decide +kernel,by kernel_rfl⟩
section
variable {cs:List Int}{a c:Int}{rest:List Int}{Q:D→Prop}
theorem bO {k:Str}{bs:List Int}{near:D} (hA:At cs a (c::rest)) (hl:(cs.length:Int)=a+1+rest.length) (hx:0≤c∧c < 256) (hk:kd c=(k,bs,near)) (h:Ar (cl dM) (cl eZ) (EE Q) [some (.lst (iD cs)),some (.int a),some (.str k),some (.tup (iD bs)),some near,none,none,none] []):LC cs a Q:=by
 refine⟨rfl,?_⟩
 rw[Rj]
 unfold fJ
 exact Kc hA hl hx hk h
theorem N6 (hA:At cs a (c::rest)) (hl:(cs.length:Int)=a+1+rest.length) (ha:In a) (hx:0≤c∧c < 256) (hr:∀ x∈rest,0≤x∧x < 256) (q:∀ r,bx a c rest=some r→Q (yE a r)) (x:bx a c rest=none→Q .non):LC cs a Q:=by
 have hn:((iD cs).length:Int)=a+1+rest.length:=by rw[List.length_map];exact hl
 rcases Int.lt_or_le c 16 with Gv | Gv
 ·have e:=Wq (c:=c) (by omega) Gv
  exact mU hA hl hx e (x (by walk_at "rr_tac"))
 rcases Int.lt_or_le c 20 with Gw | Gw
 ·have e:=Py (c:=c) (by omega) Gw
  have er:bx a c rest=ni (λ p q=>.set (c - 16) (sgn (65536 * p+q))) rest:=by walk_at "rr_tac"
  rcases rest with _ | ⟨y,_ | ⟨z,_ | ⟨u,_ | ⟨v,r⟩⟩⟩⟩
  ·exact bO hA hl hx e (gb hn (by simp only [List.length_cons,List.length_nil];omega) (.inl rfl) (x er))
  ·exact bO hA hl hx e (gb hn (by simp only [List.length_cons,List.length_nil];omega) (.inl rfl) (x er))
  ·exact bO hA hl hx e (gb hn (by simp only [List.length_cons,List.length_nil];omega) (.inl rfl) (x er))
  ·exact bO hA hl hx e (gb hn (by simp only [List.length_cons,List.length_nil];omega) (.inl rfl) (x er))
  ·exact bO hA hl hx e (Ug hn (by simp only [List.length_cons];push_cast;omega) hA.tl (by simp) (by rw[show a+4+1=a+5 by omega];exact q _ er))
 rcases Int.lt_or_le c 32 with Gx | Gx
 ·have e:=Pz (c:=c) (by omega) Gx
  exact mU hA hl hx e (x (by walk_at "rr_tac"))
 rcases Int.lt_or_le c 48 with Gy | Gy
 ·have e:=PB (c:=c) (by omega) Gy
  exact bO hA hl hx e (qj hn (by omega) Uh (by simp) (by rw[show a+0+1=a+1 by omega];exact q (.add ((c - 32) / 4) ((c - 32) % 4)) (by walk_at "rr_tac")))
 rcases Int.lt_or_le c 64 with h64 | h64
 ·have e:=PK (c:=c) (by omega) h64
  exact bO hA hl hx e (qj hn (by omega) NT (by simp) (by rw[show a+0+1=a+1 by omega];exact q (.take ((c - 48) / 4) ((c - 48) % 4)) (by walk_at "rr_tac")))
 rcases Int.lt_or_le c 68 with Gz | Gz
 ·have e:=PL (c:=c) (by omega) Gz
  exact bO hA hl hx e (qj hn (by omega) Ui (by simp) (by rw[show a+0+1=a+1 by omega];exact q (.say (c - 64)) (by walk_at "rr_tac")))
 rcases Int.lt_or_le c 72 with GC | GC
 ·have e:=PN (c:=c) (by omega) GC
  exact bO hA hl hx e (qj hn (by omega) Uj (by simp) (by rw[show a+0+1=a+1 by omega];exact q (.ask (c - 68)) (by walk_at "rr_tac")))
 rcases Int.lt_or_le c 80 with KC | KC
 ·have e:=PX (c:=c) (by omega) KC
  exact mU hA hl hx e (x (by walk_at "rr_tac"))
 rcases Int.lt_or_le c 81 with KD | KD
 ·have e:=P0 (c:=c) (by omega) KD
  have er:bx a c rest=dI a (.jump true) rest:=by walk_at "rr_tac"
  rcases rest with _ | ⟨y,r⟩
  ·exact bO hA hl hx e (lZ hn (by simp only [List.length_cons,List.length_nil];omega) pA (x er))
  ·have hy:=hr y (by simp)
   have hs:a+2+stp y≤65535:=by unfold stp;split <;> omega
   exact bO hA hl hx e (mj hn (by simp only [List.length_cons];push_cast;omega) hA.tl pA (by simp) (λ p=>by rw[show a+1+1=a+2 by omega];exact q _ (er.trans (if_pos ⟨p,hs⟩))) λ p=>x (er.trans (if_neg λ z=>by omega)))
 rcases Int.lt_or_le c 82 with KH | KH
 ·have e:=Qa (c:=c) (by omega) KH
  have er:bx a c rest=lX (.jump false) rest:=by walk_at "rr_tac"
  rcases rest with _ | ⟨y,_ | ⟨z,r⟩⟩
  ·exact bO hA hl hx e (fU hn (by simp only [List.length_cons,List.length_nil];omega) pA (x er))
  ·exact bO hA hl hx e (fU hn (by simp only [List.length_cons,List.length_nil];omega) pA (x er))
  ·exact bO hA hl hx e (pq hn (by simp only [List.length_cons];push_cast;omega) hA.tl pA (by simp) (by rw[show a+2+1=a+3 by omega];exact q _ er))
 rcases Int.lt_or_le c 83 with KJ | KJ
 ·have e:=Qc (c:=c) (by omega) KJ
  have er:bx a c rest=dI a (.call true) rest:=by walk_at "rr_tac"
  rcases rest with _ | ⟨y,r⟩
  ·exact bO hA hl hx e (lZ hn (by simp only [List.length_cons,List.length_nil];omega) pB (x er))
  ·have hy:=hr y (by simp)
   have hs:a+2+stp y≤65535:=by unfold stp;split <;> omega
   exact bO hA hl hx e (mj hn (by simp only [List.length_cons];push_cast;omega) hA.tl pB (by simp) (λ p=>by rw[show a+1+1=a+2 by omega];exact q _ (er.trans (if_pos ⟨p,hs⟩))) λ p=>x (er.trans (if_neg λ z=>by omega)))
 rcases Int.lt_or_le c 84 with KN | KN
 ·have e:=Qd (c:=c) (by omega) KN
  have er:bx a c rest=lX (.call false) rest:=by walk_at "rr_tac"
  rcases rest with _ | ⟨y,_ | ⟨z,r⟩⟩
  ·exact bO hA hl hx e (fU hn (by simp only [List.length_cons,List.length_nil];omega) pB (x er))
  ·exact bO hA hl hx e (fU hn (by simp only [List.length_cons,List.length_nil];omega) pB (x er))
  ·exact bO hA hl hx e (pq hn (by simp only [List.length_cons];push_cast;omega) hA.tl pB (by simp) (by rw[show a+2+1=a+3 by omega];exact q _ er))
 rcases Int.lt_or_le c 88 with KQ | KQ
 ·have e:=Qe (c:=c) (by omega) KQ
  have er:bx a c rest=dI a (.jumpif true (c - 84)) rest:=by walk_at "rr_tac"
  rcases rest with _ | ⟨y,r⟩
  ·exact bO hA hl hx e (lZ hn (by simp only [List.length_cons,List.length_nil];omega) jC (x er))
  ·have hy:=hr y (by simp)
   have hs:a+2+stp y≤65535:=by unfold stp;split <;> omega
   exact bO hA hl hx e (mj hn (by simp only [List.length_cons];push_cast;omega) hA.tl jC (by simp) (λ p=>by rw[show a+1+1=a+2 by omega];exact q _ (er.trans (if_pos ⟨p,hs⟩))) λ p=>x (er.trans (if_neg λ z=>by omega)))
 rcases Int.lt_or_le c 92 with KR | KR
 ·have e:=Qf (c:=c) (by omega) KR
  have er:bx a c rest=lX (.jumpif false (c - 88)) rest:=by walk_at "rr_tac"
  rcases rest with _ | ⟨y,_ | ⟨z,r⟩⟩
  ·exact bO hA hl hx e (fU hn (by simp only [List.length_cons,List.length_nil];omega) jC (x er))
  ·exact bO hA hl hx e (fU hn (by simp only [List.length_cons,List.length_nil];omega) jC (x er))
  ·exact bO hA hl hx e (pq hn (by simp only [List.length_cons];push_cast;omega) hA.tl jC (by simp) (by rw[show a+2+1=a+3 by omega];exact q _ er))
 rcases Int.lt_or_le c 98 with GD | GD
 ·have e:=Qg (c:=c) (by omega) GD
  exact mU hA hl hx e (x (by walk_at "rr_tac"))
 rcases Int.lt_or_le c 99 with GJ | GJ
 ·have e:=Qh (c:=c) (by omega) GJ
  exact bO hA hl hx e (qj hn (by omega) NZ (by simp) (by rw[show a+0+1=a+1 by omega];exact q (.back) (by walk_at "rr_tac")))
 rcases Int.lt_or_le c 100 with h100 | h100
 ·have e:=Qi (c:=c) (by omega) h100
  exact bO hA hl hx e (qj hn (by omega) N5 (by simp) (by rw[show a+0+1=a+1 by omega];exact q (.stop) (by walk_at "rr_tac")))
 rcases Int.lt_or_le c 104 with uR | uR
 ·have e:=JZ (c:=c) (by omega) uR
  have er:bx a c rest=dI a (.jumpby true (c - 100)) rest:=by walk_at "rr_tac"
  rcases rest with _ | ⟨y,r⟩
  ·exact bO hA hl hx e (lZ hn (by simp only [List.length_cons,List.length_nil];omega) jD (x er))
  ·have hy:=hr y (by simp)
   have hs:a+2+stp y≤65535:=by unfold stp;split <;> omega
   exact bO hA hl hx e (mj hn (by simp only [List.length_cons];push_cast;omega) hA.tl jD (by simp) (λ p=>by rw[show a+1+1=a+2 by omega];exact q _ (er.trans (if_pos ⟨p,hs⟩))) λ p=>x (er.trans (if_neg λ z=>by omega)))
 rcases Int.lt_or_le c 108 with uT | uT
 ·have e:=J0 (c:=c) (by omega) uT
  have er:bx a c rest=lX (.jumpby false (c - 104)) rest:=by walk_at "rr_tac"
  rcases rest with _ | ⟨y,_ | ⟨z,r⟩⟩
  ·exact bO hA hl hx e (fU hn (by simp only [List.length_cons,List.length_nil];omega) jD (x er))
  ·exact bO hA hl hx e (fU hn (by simp only [List.length_cons,List.length_nil];omega) jD (x er))
  ·exact bO hA hl hx e (pq hn (by simp only [List.length_cons];push_cast;omega) hA.tl jD (by simp) (by rw[show a+2+1=a+3 by omega];exact q _ er))
 rcases Int.lt_or_le c 112 with uU | uU
 ·have e:=J1 (c:=c) (by omega) uU
  exact mU hA hl hx e (x (by walk_at "rr_tac"))
 rcases Int.lt_or_le c 128 with uV | uV
 ·have e:=J2 (c:=c) (by omega) uV
  have er:bx a c rest=dI a (.load true ((c - 112) / 4) ((c - 112) % 4)) rest:=by walk_at "rr_tac"
  rcases rest with _ | ⟨y,r⟩
  ·exact bO hA hl hx e (lZ hn (by simp only [List.length_cons,List.length_nil];omega) pC (x er))
  ·have hy:=hr y (by simp)
   have hs:a+2+stp y≤65535:=by unfold stp;split <;> omega
   exact bO hA hl hx e (mj hn (by simp only [List.length_cons];push_cast;omega) hA.tl pC (by simp) (λ p=>by rw[show a+1+1=a+2 by omega];exact q _ (er.trans (if_pos ⟨p,hs⟩))) λ p=>x (er.trans (if_neg λ z=>by omega)))
 rcases Int.lt_or_le c 144 with p8 | p8
 ·have e:=J3 (c:=c) (by omega) p8
  have er:bx a c rest=lX (.load false ((c - 128) / 4) ((c - 128) % 4)) rest:=by walk_at "rr_tac"
  rcases rest with _ | ⟨y,_ | ⟨z,r⟩⟩
  ·exact bO hA hl hx e (fU hn (by simp only [List.length_cons,List.length_nil];omega) pC (x er))
  ·exact bO hA hl hx e (fU hn (by simp only [List.length_cons,List.length_nil];omega) pC (x er))
  ·exact bO hA hl hx e (pq hn (by simp only [List.length_cons];push_cast;omega) hA.tl pC (by simp) (by rw[show a+2+1=a+3 by omega];exact q _ er))
 rcases Int.lt_or_le c 148 with qd | qd
 ·have e:=J8 (c:=c) (by omega) qd
  have er:bx a c rest=ni (.alike (c - 144)) rest:=by walk_at "rr_tac"
  rcases rest with _ | ⟨y,_ | ⟨z,_ | ⟨u,_ | ⟨v,r⟩⟩⟩⟩
  ·exact bO hA hl hx e (gb hn (by simp only [List.length_cons,List.length_nil];omega) (.inr rfl) (x er))
  ·exact bO hA hl hx e (gb hn (by simp only [List.length_cons,List.length_nil];omega) (.inr rfl) (x er))
  ·exact bO hA hl hx e (gb hn (by simp only [List.length_cons,List.length_nil];omega) (.inr rfl) (x er))
  ·exact bO hA hl hx e (gb hn (by simp only [List.length_cons,List.length_nil];omega) (.inr rfl) (x er))
  ·exact bO hA hl hx e (Kf hn (by simp only [List.length_cons];push_cast;omega) hA.tl (by simp) (by rw[show a+4+1=a+5 by omega];exact q _ er))
 have e:=J9 (c:=c) (by omega) hx.2
 exact mU hA hl hx e (x (by walk_at "rr_tac"))
theorem Av:∀ ds Q,iJ ds Q→cQ 8 2 (fJ (cl qg) (cl dM) (cl eZ)) ds Q:=λ ds Q ⟨cs,a,h1,hc,ha,q,x⟩=>by
 subst h1
 unfold yD at q x
 by_cases h0:a < 0
 ·rw[if_pos h0] at x
  exact Kd (by omega) (x rfl)
 ·rw[if_neg h0] at x
  have q:∀ r,(match cs.drop a.toNat with | c::r=>bx a c r | []=>none)=some r→Q (yE a r):=λ r e=>q r (by rw[if_neg h0];exact e)
  have hl:=List.length_drop (l:=cs) (i:=a.toNat)
  by_cases h1:a < cs.length
  ·have hd:=oZ (cs:=cs) (a:=a) (by omega) (by omega)
   have hD:=hc.drop (n:=a.toNat)
   generalize cs.drop a.toNat=z at q x hl hd hD
   cases z with
   | nil=>simp at hl;omega
   | cons c rest=>
    rw[List.length_cons] at hl
    exact N6 hd (by omega) ha (hD c (by simp)) (λ x hx=>hD x (by simp[hx])) q x
  ·generalize cs.drop a.toNat=z at q x hl
   cases z with
   | nil=>exact Kd (by omega) (x rfl)
   | cons c rest=>rw[List.length_cons] at hl;omega
end
end K23
namespace K23
open PySem PySem.Spec L2 L3
noncomputable def Ys (j:Int) (b:List Int):List Int:=if j=4 then jr b else pairs b
abbrev N7 (j a:Int) (n:Int) (b:List Int):D:=.tup [.lst (iD (Ys j b)),.int (a+2+n * j)]
noncomputable def ql:GP:=λ ds Q=>∃ (cs:List Int) (a j:Int),ds=[.lst (iD cs),.int a,.int j]∧Cs cs∧In a∧(j=2∨j=4)∧(∀ n b,lsN j cs a=some (n,b)→Q (N7 j a n b))∧(lsN j cs a=none→Q .non)
theorem Aw:dh ql:=λ ds P Q w ⟨cs,a,j,h1,h2,h3,h4,q1,q2⟩=>⟨cs,a,j,h1,h2,h3,h4,λ n b e=>w _ (q1 n b e),λ e=>w _ (q2 e)⟩
theorem tZ {i n:Nat}:jw (i:Int) (n+1) = .int i::jw ((i+1:Nat):Int) n:=by
 unfold jw
 rw[List.range_succ_eq_map,List.map_cons,List.map_map]
 congr 1
 simp
 intro a _
 omega
noncomputable def Ep:DS:=(aY (bW 6 (bT (cl eZ) (ak (ao 0) (ak (aL aN (aL aN (ao 1) (dC (.int 2))) (aL kW (ao 5) (ao 2))) (ak (ao 2) aB)))))
 (aY (bC (aJ (aL jy (ao 2) (dC (.int 4)))) (bW 6 (bT (cl dM) (ak (ao 6) (ak (dC (.int 4294967296)) aB)))) aW)
 (iT (zc "list" dj (ao 4) (ak (ao 6) aB)))))
theorem Df {i j:Int} (h:j=2∨j=4):CMul i j:=by rcases h with rfl | rfl <;> exact .inr ⟨by decide,by decide⟩
theorem Qj {cs:List Int}{a:Int}{E:DEnds}{d3:Option D}:∀ (n:Nat) (i:Nat) (b acc:List Int) (d5 d6:Option D),(b.length:Int)=2 * n→At cs (a+2+(i:Int) * 2) b→acc.length+n≤100→(∀ d5 d6,E.nx [some (.lst (iD cs)),some (.int a),some (.int 2),d3,some (.loc 0),d5,d6] [some (.lst (iD (acc++pairs b)))]) →
  fj (aM 5) Ep (λ _=>True) E (jw i n) [some (.lst (iD cs)),some (.int a),some (.int 2),d3,some (.loc 0),d5,d6] [some (.lst (iD acc))]
 | 0,i,b,acc,d5,d6,hl,hA,hs,q=>by
  have:b=[]:=List.length_eq_zero_iff.mp (by omega)
  subst this
  have:=q d5 d6
  rw[show acc++pairs []=acc by simp[pairs]] at this
  exact this
 | n+1,i,b,acc,d5,d6,hl,hA,hs,q=>by
  rcases b with _ | ⟨x,_ | ⟨y,r⟩⟩
  ·simp at hl;omega
  ·simp at hl;omega
  have h2:=hA.tl.tl
  rw[show a+2+(i:Int) * 2+1+1=a+2+((i+1:Nat):Int) * 2 by push_cast;omega] at h2
  have ih:=Qj (cs:=cs) (a:=a) (E:=E) (d3:=d3) n (i+1) r (acc++[256 * x+y]) (some (.int i)) (some (.int (256 * x+y))) (by simp only [List.length_cons] at hl;push_cast at hl ⊢;omega) h2 (by simp;omega) (λ d5 d6=>by rw[List.append_assoc];exact q d5 d6)
  rw[show iD (acc++[256 * x+y])=iD acc++[.int (256 * x+y)] by simp] at ih
  have hz:(iD acc).length < sizeLine:=by rw[List.length_map];exact Nat.lt_of_lt_of_le (show acc.length < 101 by omega) (by decide)
  rw[tZ]
  refine⟨.inr ⟨by decide,by decide⟩,eX cs _ _,cs,_,_,[x,y],r,rfl,hA,rfl,?_⟩
  rw[WW]
  exact⟨rfl,_,rfl,hz,True.intro,ih⟩
theorem Qk {cs:List Int}{a:Int}{E:DEnds}{d3:Option D}:∀ (n:Nat) (i:Nat) (b acc:List Int) (d5 d6:Option D),(b.length:Int)=4 * n→At cs (a+2+(i:Int) * 4) b→acc.length+n≤100→(∀ d5 d6,E.nx [some (.lst (iD cs)),some (.int a),some (.int 4),d3,some (.loc 0),d5,d6] [some (.lst (iD (acc++jr b)))]) →
  fj (aM 5) Ep (λ _=>True) E (jw i n) [some (.lst (iD cs)),some (.int a),some (.int 4),d3,some (.loc 0),d5,d6] [some (.lst (iD acc))]
 | 0,i,b,acc,d5,d6,hl,hA,hs,q=>by
  have:b=[]:=List.length_eq_zero_iff.mp (by omega)
  subst this
  have:=q d5 d6
  rw[show acc++jr []=acc by simp[jr]] at this
  exact this
 | n+1,i,b,acc,d5,d6,hl,hA,hs,q=>by
  rcases b with _ | ⟨x,_ | ⟨y,_ | ⟨z,_ | ⟨u,r⟩⟩⟩⟩
  ·simp at hl;omega
  ·simp at hl;omega
  ·simp at hl;omega
  ·simp at hl;omega
  have h2:=hA.tl.tl.tl.tl
  rw[show a+2+(i:Int) * 4+1+1+1+1=a+2+((i+1:Nat):Int) * 4 by push_cast;omega] at h2
  have ih:=Qk (cs:=cs) (a:=a) (E:=E) (d3:=d3) n (i+1) r (acc++[sgn (65536 * (256 * x+y)+(256 * z+u))]) (some (.int i)) (some (.int (sgn (65536 * (256 * x+y)+(256 * z+u))))) (by simp only [List.length_cons] at hl;push_cast at hl ⊢;omega) h2 (by simp;omega) (λ d5 d6=>by rw[List.append_assoc];exact q d5 d6)
  rw[show iD (acc++[sgn (65536 * (256 * x+y)+(256 * z+u))])=iD acc++[.int (sgn (65536 * (256 * x+y)+(256 * z+u)))] by simp] at ih
  have hz:(iD acc).length < sizeLine:=by rw[List.length_map];exact Nat.lt_of_lt_of_le (show acc.length < 101 by omega) (by decide)
  rw[tZ]
  refine⟨.inr ⟨by decide,by decide⟩,eX cs _ _,cs,_,_,[x,y,z,u],r,rfl,hA,rfl,?_⟩
  rw[Zr]
  refine⟨rfl,_,4294967296,rfl,by decide,?_⟩
  rw[Px]
  exact⟨rfl,_,rfl,hz,True.intro,ih⟩
theorem Kg {Q:D→Prop}{ts:List Int}{i:Int} (q:Q (.tup [.lst (iD ts),.int i])):nl (fz [some (.lst (iD ts))] (.tup [.loc 0,.int i]))=true∧Q (fz [some (.lst (iD ts))] (.tup [.loc 0,.int i])):=by
 refine⟨?_,q⟩
 show (nls (iD ts)&&(true&&true))=true
 rw[iI];rfl
theorem N8:∀ ds Q,ql ds Q→cQ 7 3 (tL (cl eZ) (cl dM)) ds Q:=λ ds Q ⟨cs,a,j,h1,hc,ha,hj,q,x⟩=>by
 subst h1
 refine⟨rfl,?_⟩
 have hlen:((iD cs).length:Int)=cs.length:=by rw[List.length_map]
 show (if decide (a < 0)=true then _ else _)
 by_cases h0:a < 0
 ·rw[if_pos (decide_eq_true h0)]
  exact⟨rfl,x (by unfold lsN;rw[if_pos h0])⟩
 rw[if_neg (λ e=>h0 (of_decide_eq_true e))]
 refine⟨(iD cs).length,rfl,?_⟩
 show (if decide (((iD cs).length:Int) < a+2)=true then _ else _)
 have hd:=oZ (cs:=cs) (a:=a) (by omega)
 have hl:=List.length_drop (l:=cs) (i:=a.toNat)
 by_cases h1:(cs.length:Int) < a+2
 ·rw[if_pos (decide_eq_true (by rw[hlen];exact h1))]
  refine⟨rfl,x ?_⟩
  unfold lsN
  rw[if_neg h0]
  generalize cs.drop a.toNat=z at hl
  rcases z with _ | ⟨x,_ | ⟨y,r⟩⟩
  ·rfl
  ·rfl
  ·rw[List.length_cons,List.length_cons] at hl;omega
 rw[if_neg (λ e=>h1 (by have:=of_decide_eq_true e;omega))]
 have hd:=hd (by omega)
 have hD:=hc.drop (n:=a.toNat)
 cases e:cs.drop a.toNat with
 | nil=>rw[e] at hl;simp at hl;omega
 | cons v z=>
  cases z with
  | nil=>rw[e] at hl;simp at hl;omega
  | cons y r=>
   have eL:lsN j cs a=if j * (256 * v+y)≤r.length then some (256 * v+y,r.take (j * (256 * v+y)).toNat) else none:=by
    unfold lsN
    rw[if_neg h0,e]
   rw[e] at hl hd hD
   rw[List.length_cons,List.length_cons] at hl
   refine⟨eX cs a 2,cs,a,2,[v,y],r,rfl,hd,rfl,?_⟩
   rw[WW]
   refine⟨Df hj,(iD cs).length,rfl,?_⟩
   show (if decide (((iD cs).length:Int) < a+2+(256 * v+y) * j)=true then _ else _)
   have hm:(256 * v+y) * j=j * (256 * v+y):=Int.mul_comm _ _
   by_cases h2:j * (256 * v+y)≤r.length
   ·rw[if_neg (λ e=>by have:=of_decide_eq_true e;rw[hm] at this;omega)]
    rw[if_pos h2] at eL
    have q:=q _ _ eL
    obtain⟨_,n0,hb,hA,hle,_⟩:=tW hc hj eL
    obtain⟨k,hk⟩:=Int.eq_ofNat_of_zero_le n0
    have hcl:=hc.l
    rw[hk] at q hb hle hA ⊢
    have Zu:∀ i:Int,At cs (a+2) (r.take (j * (k:Int)).toNat)→At cs (a+2+((0:Nat):Int) * i) (r.take (j * (k:Int)).toNat):=λ i h=>by
     rw[show a+2+((0:Nat):Int) * i=a+2 by simp];exact h
    rcases hj with rfl | rfl
    ·refine⟨Nat.le_of_ble_eq_true rfl,⟨by omega,by omega⟩,True.intro,?_⟩
     show fj (aM 5) Ep _ _ (jw ((0:Nat):Int) (k:Int).toNat) _ _
     rw[Int.toNat_natCast]
     refine Qj k 0 _ [] none none hb (Zu 2 hA) (by simp;omega) λ d5 d6=>?_
     refine⟨Df (.inl rfl),Nat.le_of_ble_eq_true rfl,?_⟩
     exact Kg q
    ·refine⟨Nat.le_of_ble_eq_true rfl,⟨by omega,by omega⟩,True.intro,?_⟩
     show fj (aM 5) Ep _ _ (jw ((0:Nat):Int) (k:Int).toNat) _ _
     rw[Int.toNat_natCast]
     refine Qk k 0 _ [] none none hb (Zu 4 hA) (by simp;omega) λ d5 d6=>?_
     refine⟨Df (.inr rfl),Nat.le_of_ble_eq_true rfl,?_⟩
     exact Kg q
   ·rw[if_pos (decide_eq_true (by rw[hm];omega))]
    rw[if_neg h2] at eL
    exact⟨rfl,x eL⟩
end K23
namespace K23
open PySem PySem.Spec L2 L3
local macro_rules | `(tactic| walk_at "ws1_tac") => `(tactic| ((conv => whnf); first
 | refine⟨_,rfl,?_⟩ | refine⟨rfl,?_⟩ | refine⟨Nat.le_of_ble_eq_true rfl,?_⟩ | refine⟨show (0:Int) < _ by decide,?_⟩ | refine⟨show fu _ _ from ⟨by decide,by decide⟩,?_⟩ | refine⟨show Fi _ _ from ⟨by decide,by decide⟩,?_⟩
 | refine⟨show uh _ _ from ⟨by decide,by decide,by decide⟩,?_⟩ | refine⟨show CMul _ _ from .inl ⟨by decide,by decide⟩,?_⟩ | refine⟨show CMul _ _ from .inr ⟨by decide,by decide⟩,?_⟩
 | refine⟨λ h=>absurd (show (1:Nat)=0 from h.1) (by decide),?_⟩ | refine⟨λ h=>absurd (show (2:Nat)=0 from h.1) (by decide),?_⟩ | refine⟨λ h=>absurd (show (3:Nat)=0 from h.1) (by decide),?_⟩))
local macro_rules | `(tactic| walk_at "ws_tac") => `(tactic| ((repeat walk_at "ws1_tac"); try (conv => whnf)))
noncomputable def Rw.cells (a:Int):Rw→List Int
 | .set b n=>(16+b)::four n
 | .add b c=>[32+(4 * b+c)]
 | .take b c=>[48+(4 * b+c)]
 | .say b=>[64+b]
 | .ask b=>[68+b]
 | .jump true p=>[80+0,(p - (a+2)) % 256]
 | .jump false p=>(81+0)::two p
 | .call true p=>[82+0,(p - (a+2)) % 256]
 | .call false p=>(83+0)::two p
 | .jumpif true b p=>[84+b,(p - (a+2)) % 256]
 | .jumpif false b p=>(88+b)::two p
 | .back=>[98+0]
 | .stop=>[99+0]
 | .jumpby true b p=>[100+b,(p - (a+2)) % 256]
 | .jumpby false b p=>(104+b)::two p
 | .load true b c p=>[112+(4 * b+c),(p - (a+2)) % 256]
 | .load false b c p=>(128+(4 * b+c))::two p
 | .alike b p q=>(144+b)::(two p++two q)
noncomputable def cO:GP:=λ ds Q=>∃ (r:Rw) (a:Int),ds=[r.d,.int a,r.near]∧Q (.lst (iD (r.cells a)))
theorem ju:dh cO:=λ ds P Q w ⟨r,a,h,q⟩=>⟨r,a,h,w _ q⟩
theorem uX:∀ ds Q,cO ds Q→cQ 10 3 (oV (cl j9) (cl Ej) (cl tQ) (cl lV) (cl vR)) ds Q:=λ ds Q ⟨r,a,h,q⟩=>by
 subst h
 refine⟨rfl,?_⟩
 cases r with
 | set b n=>walk_at "ws_tac";refine⟨_,_,_,rfl,rfl,cJ (.set b n),rfl,?_⟩;walk_at "ws_tac";exact q
 | add b c=>walk_at "ws_tac";refine⟨_,_,_,rfl,rfl,cJ (.add b c),rfl,?_⟩;walk_at "ws_tac";exact q
 | take b c=>walk_at "ws_tac";refine⟨_,_,_,rfl,rfl,cJ (.take b c),rfl,?_⟩;walk_at "ws_tac";exact q
 | say b=>walk_at "ws_tac";refine⟨_,_,_,rfl,rfl,cJ (.say b),rfl,?_⟩;walk_at "ws_tac";exact q
 | ask b=>walk_at "ws_tac";refine⟨_,_,_,rfl,rfl,cJ (.ask b),rfl,?_⟩;walk_at "ws_tac";exact q
 | jump s p=>
  cases s
  ·walk_at "ws_tac";refine⟨_,_,_,rfl,rfl,cJ (.jump false p),rfl,?_⟩;walk_at "ws_tac";exact q
  ·walk_at "ws_tac";refine⟨_,_,_,rfl,rfl,cJ (.jump true p),rfl,?_⟩;walk_at "ws_tac";exact q
 | jumpif s b p=>
  cases s
  ·walk_at "ws_tac";refine⟨_,_,_,rfl,rfl,cJ (.jumpif false b p),rfl,?_⟩;walk_at "ws_tac";exact q
  ·walk_at "ws_tac";refine⟨_,_,_,rfl,rfl,cJ (.jumpif true b p),rfl,?_⟩;walk_at "ws_tac";exact q
 | call s p=>
  cases s
  ·walk_at "ws_tac";refine⟨_,_,_,rfl,rfl,cJ (.call false p),rfl,?_⟩;walk_at "ws_tac";exact q
  ·walk_at "ws_tac";refine⟨_,_,_,rfl,rfl,cJ (.call true p),rfl,?_⟩;walk_at "ws_tac";exact q
 | back  => walk_at "ws_tac";refine⟨_,_,_,rfl,rfl,cJ (.back ),rfl,?_⟩;walk_at "ws_tac";exact q
 | stop  => walk_at "ws_tac";refine⟨_,_,_,rfl,rfl,cJ (.stop ),rfl,?_⟩;walk_at "ws_tac";exact q
 | load s b c p=>
  cases s
  ·walk_at "ws_tac";refine⟨_,_,_,rfl,rfl,cJ (.load false b c p),rfl,?_⟩;walk_at "ws_tac";exact q
  ·walk_at "ws_tac";refine⟨_,_,_,rfl,rfl,cJ (.load true b c p),rfl,?_⟩;walk_at "ws_tac";exact q
 | jumpby s b p=>
  cases s
  ·walk_at "ws_tac";refine⟨_,_,_,rfl,rfl,cJ (.jumpby false b p),rfl,?_⟩;walk_at "ws_tac";exact q
  ·walk_at "ws_tac";refine⟨_,_,_,rfl,rfl,cJ (.jumpby true b p),rfl,?_⟩;walk_at "ws_tac";exact q
 | alike b p p'=>walk_at "ws_tac";refine⟨_,_,_,rfl,rfl,cJ (.alike b p p'),rfl,?_⟩;walk_at "ws_tac";exact q
theorem Yt (a:Int):∀ r:Rw,nls [r.d,.int a,r.near]=true
 | .set _ _ | .add _ _ | .take _ _ | .say _ | .ask _ | .jump _ _ | .jumpif _ _ _ | .call _ _ | .back | .stop | .load _ _ _ _ | .jumpby _ _ _ | .alike _ _ _=>rfl
theorem Ax:∀ ds Q,cO ds Q→cQ 3 3 (tE (cl vR) (cl lV) (cl tQ) (cl cO)) ds Q:=λ ds Q ⟨r,a,h,q⟩=>by
 subst h
 refine⟨rfl,?_⟩
 have q':nl (fz [] (.lst (iD (r.cells a))))=true∧Q (fz [] (.lst (iD (r.cells a)))):=⟨iI _,q⟩
 cases r <;> (walk_at "ws_tac";exact⟨_,a,rfl,q'⟩)
end K23
namespace K23
open PySem PySem.Spec L2 L3
local macro_rules | `(tactic| walk_at "rr_tac") => `(tactic| (unfold bx; repeat (first | rw [if_pos (by omega)] | rw [if_neg (by omega)])))
theorem l1 {a b:Int} (h:a=b):[a]=[b]:=by rw[h]
theorem l2 {a b c d:Int} (h:a=b) (g:c=d):[a,c]=[b,d]:=by rw[h,g]
theorem l3 {a b c d e f:Int} (h:a=b) (g:c=d) (i:e=f):[a,c,e]=[b,d,f]:=by rw[h,g,i]
theorem l5 {a b c d e f g h i j:Int} (h1:a=b) (h2:c=d) (h3:e=f) (h4:g=h) (h5:i=j):[a,c,e,g,i]=[b,d,f,h,j]:=by rw[h1,h2,h3,h4,h5]
theorem Kh {x y z u:Int} (hx:0≤x∧x < 256) (hy:0≤y∧y < 256) (hz:0≤z∧z < 256) (hu:0≤u∧u < 256):four (sgn (65536 * (256 * x+y)+(256 * z+u)))=[x,y,z,u]:=by
 have e:sgn (65536 * (256 * x+y)+(256 * z+u)) % 4294967296=65536 * (256 * x+y)+(256 * z+u):=by unfold sgn;split <;> omega
 unfold four
 rw[e]
 show [_,_,_,_]=_
 rw[show (65536 * (256 * x+y)+(256 * z+u)) / 65536=256 * x+y by omega,show (65536 * (256 * x+y)+(256 * z+u)) % 65536=256 * z+u by omega,show (256 * x+y) / 256=x by omega,show (256 * x+y) % 256=y by omega,show (256 * z+u) / 256=z by omega,show (256 * z+u) % 256=u by omega]
theorem pD {a x:Int} (hx:0≤x∧x < 256):(a+2+stp x - (a+2)) % 256=x:=by unfold stp;split <;> omega
section
variable {a c:Int}{rest:List Int}{r:Rw}
theorem GQ (hx:0≤c∧c < 256) (hr:∀ x∈rest,0≤x∧x < 256) (h:bx a c rest=some r):r.cells a=(c::rest).take r.len.toNat∧r.len.toNat≤rest.length+1∧0≤r.len:=by
 rcases Int.lt_or_le c 16 with Gv | Gv
 ·have er:bx a c rest=none:=by walk_at "rr_tac"
  rw[er] at h;cases h
 rcases Int.lt_or_le c 20 with Gw | Gw
 ·have er:bx a c rest=ni (λ p q=>.set (c - 16) (sgn (65536 * p+q))) rest:=by walk_at "rr_tac"
  rw[er] at h
  rcases rest with _ | ⟨y,_ | ⟨z,_ | ⟨u,_ | ⟨v,r⟩⟩⟩⟩ <;> first | (cases h;done) | skip
  cases h
  have hy:=hr y (by simp)
  have hz:=hr z (by simp)
  have hu:=hr u (by simp)
  have hv:=hr v (by simp)
  refine⟨?_,by show (5:Nat)≤_;simp only [List.length_cons];omega,by show (0:Int)≤5;decide⟩
  show (16+(c - 16))::four _=[c,y,z,u,v]
  rw[Kh hy hz hu hv,show 16+(c - 16)=c by omega]
 rcases Int.lt_or_le c 32 with Gx | Gx
 ·have er:bx a c rest=none:=by walk_at "rr_tac"
  rw[er] at h;cases h
 rcases Int.lt_or_le c 48 with Gy | Gy
 ·have er:bx a c rest=some (.add ((c - 32) / 4) ((c - 32) % 4)):=by walk_at "rr_tac"
  rw[er] at h;cases h
  exact⟨l1 (by omega),by show (1:Nat)≤_;omega,by show (0:Int)≤1;decide⟩
 rcases Int.lt_or_le c 64 with h64 | h64
 ·have er:bx a c rest=some (.take ((c - 48) / 4) ((c - 48) % 4)):=by walk_at "rr_tac"
  rw[er] at h;cases h
  exact⟨l1 (by omega),by show (1:Nat)≤_;omega,by show (0:Int)≤1;decide⟩
 rcases Int.lt_or_le c 68 with Gz | Gz
 ·have er:bx a c rest=some (.say (c - 64)):=by walk_at "rr_tac"
  rw[er] at h;cases h
  exact⟨l1 (by omega),by show (1:Nat)≤_;omega,by show (0:Int)≤1;decide⟩
 rcases Int.lt_or_le c 72 with GC | GC
 ·have er:bx a c rest=some (.ask (c - 68)):=by walk_at "rr_tac"
  rw[er] at h;cases h
  exact⟨l1 (by omega),by show (1:Nat)≤_;omega,by show (0:Int)≤1;decide⟩
 rcases Int.lt_or_le c 80 with KC | KC
 ·have er:bx a c rest=none:=by walk_at "rr_tac"
  rw[er] at h;cases h
 rcases Int.lt_or_le c 81 with KD | KD
 ·have er:bx a c rest=dI a (.jump true) rest:=by walk_at "rr_tac"
  rw[er] at h
  rcases rest with _ | ⟨y,r⟩ <;> first | (cases h;done) | skip
  have hy:=hr y (by simp)
  unfold dI at h
  simp only at h
  split at h <;> cases h
  exact⟨l2 (by omega) (pD hy),by show (2:Nat)≤_;simp only [List.length_cons];omega,by show (0:Int)≤2;decide⟩
 rcases Int.lt_or_le c 82 with KH | KH
 ·have er:bx a c rest=lX (.jump false) rest:=by walk_at "rr_tac"
  rw[er] at h
  rcases rest with _ | ⟨y,_ | ⟨z,r⟩⟩ <;> first | (cases h;done) | skip
  cases h
  have hy:=hr y (by simp)
  have hz:=hr z (by simp)
  exact⟨l3 (by omega) (by omega) (by omega),by show (3:Nat)≤_;simp only [List.length_cons];omega,by show (0:Int)≤3;decide⟩
 rcases Int.lt_or_le c 83 with KJ | KJ
 ·have er:bx a c rest=dI a (.call true) rest:=by walk_at "rr_tac"
  rw[er] at h
  rcases rest with _ | ⟨y,r⟩ <;> first | (cases h;done) | skip
  have hy:=hr y (by simp)
  unfold dI at h
  simp only at h
  split at h <;> cases h
  exact⟨l2 (by omega) (pD hy),by show (2:Nat)≤_;simp only [List.length_cons];omega,by show (0:Int)≤2;decide⟩
 rcases Int.lt_or_le c 84 with KN | KN
 ·have er:bx a c rest=lX (.call false) rest:=by walk_at "rr_tac"
  rw[er] at h
  rcases rest with _ | ⟨y,_ | ⟨z,r⟩⟩ <;> first | (cases h;done) | skip
  cases h
  have hy:=hr y (by simp)
  have hz:=hr z (by simp)
  exact⟨l3 (by omega) (by omega) (by omega),by show (3:Nat)≤_;simp only [List.length_cons];omega,by show (0:Int)≤3;decide⟩
 rcases Int.lt_or_le c 88 with KQ | KQ
 ·have er:bx a c rest=dI a (.jumpif true (c - 84)) rest:=by walk_at "rr_tac"
  rw[er] at h
  rcases rest with _ | ⟨y,r⟩ <;> first | (cases h;done) | skip
  have hy:=hr y (by simp)
  unfold dI at h
  simp only at h
  split at h <;> cases h
  exact⟨l2 (by omega) (pD hy),by show (2:Nat)≤_;simp only [List.length_cons];omega,by show (0:Int)≤2;decide⟩
 rcases Int.lt_or_le c 92 with KR | KR
 ·have er:bx a c rest=lX (.jumpif false (c - 88)) rest:=by walk_at "rr_tac"
  rw[er] at h
  rcases rest with _ | ⟨y,_ | ⟨z,r⟩⟩ <;> first | (cases h;done) | skip
  cases h
  have hy:=hr y (by simp)
  have hz:=hr z (by simp)
  exact⟨l3 (by omega) (by omega) (by omega),by show (3:Nat)≤_;simp only [List.length_cons];omega,by show (0:Int)≤3;decide⟩
 rcases Int.lt_or_le c 98 with GD | GD
 ·have er:bx a c rest=none:=by walk_at "rr_tac"
  rw[er] at h;cases h
 rcases Int.lt_or_le c 99 with GJ | GJ
 ·have er:bx a c rest=some (.back):=by walk_at "rr_tac"
  rw[er] at h;cases h
  exact⟨l1 (by omega),by show (1:Nat)≤_;omega,by show (0:Int)≤1;decide⟩
 rcases Int.lt_or_le c 100 with h100 | h100
 ·have er:bx a c rest=some (.stop):=by walk_at "rr_tac"
  rw[er] at h;cases h
  exact⟨l1 (by omega),by show (1:Nat)≤_;omega,by show (0:Int)≤1;decide⟩
 rcases Int.lt_or_le c 104 with uR | uR
 ·have er:bx a c rest=dI a (.jumpby true (c - 100)) rest:=by walk_at "rr_tac"
  rw[er] at h
  rcases rest with _ | ⟨y,r⟩ <;> first | (cases h;done) | skip
  have hy:=hr y (by simp)
  unfold dI at h
  simp only at h
  split at h <;> cases h
  exact⟨l2 (by omega) (pD hy),by show (2:Nat)≤_;simp only [List.length_cons];omega,by show (0:Int)≤2;decide⟩
 rcases Int.lt_or_le c 108 with uT | uT
 ·have er:bx a c rest=lX (.jumpby false (c - 104)) rest:=by walk_at "rr_tac"
  rw[er] at h
  rcases rest with _ | ⟨y,_ | ⟨z,r⟩⟩ <;> first | (cases h;done) | skip
  cases h
  have hy:=hr y (by simp)
  have hz:=hr z (by simp)
  exact⟨l3 (by omega) (by omega) (by omega),by show (3:Nat)≤_;simp only [List.length_cons];omega,by show (0:Int)≤3;decide⟩
 rcases Int.lt_or_le c 112 with uU | uU
 ·have er:bx a c rest=none:=by walk_at "rr_tac"
  rw[er] at h;cases h
 rcases Int.lt_or_le c 128 with uV | uV
 ·have er:bx a c rest=dI a (.load true ((c - 112) / 4) ((c - 112) % 4)) rest:=by walk_at "rr_tac"
  rw[er] at h
  rcases rest with _ | ⟨y,r⟩ <;> first | (cases h;done) | skip
  have hy:=hr y (by simp)
  unfold dI at h
  simp only at h
  split at h <;> cases h
  exact⟨l2 (by omega) (pD hy),by show (2:Nat)≤_;simp only [List.length_cons];omega,by show (0:Int)≤2;decide⟩
 rcases Int.lt_or_le c 144 with p8 | p8
 ·have er:bx a c rest=lX (.load false ((c - 128) / 4) ((c - 128) % 4)) rest:=by walk_at "rr_tac"
  rw[er] at h
  rcases rest with _ | ⟨y,_ | ⟨z,r⟩⟩ <;> first | (cases h;done) | skip
  cases h
  have hy:=hr y (by simp)
  have hz:=hr z (by simp)
  exact⟨l3 (by omega) (by omega) (by omega),by show (3:Nat)≤_;simp only [List.length_cons];omega,by show (0:Int)≤3;decide⟩
 rcases Int.lt_or_le c 148 with qd | qd
 ·have er:bx a c rest=ni (.alike (c - 144)) rest:=by walk_at "rr_tac"
  rw[er] at h
  rcases rest with _ | ⟨y,_ | ⟨z,_ | ⟨u,_ | ⟨v,r⟩⟩⟩⟩ <;> first | (cases h;done) | skip
  cases h
  have hy:=hr y (by simp)
  have hz:=hr z (by simp)
  have hu:=hr u (by simp)
  have hv:=hr v (by simp)
  exact⟨l5 (by omega) (by omega) (by omega) (by omega) (by omega),by show (5:Nat)≤_;simp only [List.length_cons];omega,by show (0:Int)≤5;decide⟩
 have er:bx a c rest=none:=by walk_at "rr_tac"
 rw[er] at h;cases h
theorem Kl {cs:List Int} (hc:Cs cs) (h:yD cs a=some r):0≤a∧0≤r.len∧iD (r.cells a)=cutD (iD cs) (some a) (some (a+r.len)):=by
 unfold yD at h
 split at h
 ·cases h
 rename_i h0
 have hD:=hc.drop (n:=a.toNat)
 cases e:cs.drop a.toNat with
 | nil=>rw[e] at h;cases h
 | cons c rest=>
  rw[e] at h hD
  have h:bx a c rest=some r:=h
  obtain⟨e1,e2,e3⟩:=GQ (hD c (by simp)) (λ x hx=>hD x (by simp[hx])) h
  refine⟨by omega,e3,?_⟩
  obtain⟨n,rfl⟩:=Int.eq_ofNat_of_zero_le (show 0≤a by omega)
  obtain⟨m,hm⟩:=Int.eq_ofNat_of_zero_le e3
  rw[hm,Eo]
  show List.map D.int _=List.take m (List.drop n (List.map D.int cs))
  rw[← List.map_drop,← List.map_take,e1,hm]
  rw[Int.toNat_natCast] at e
  rw[e,Int.toNat_natCast]
end
end K23
namespace K23
open PySem PySem.Spec L2 L3
local macro_rules | `(tactic| walk_at "ws1_tac") => `(tactic| ((conv => whnf); first
 | refine⟨_,rfl,?_⟩ | refine⟨rfl,?_⟩ | refine⟨Nat.le_of_ble_eq_true rfl,?_⟩ | refine⟨show (0:Int) < _ by decide,?_⟩ | refine⟨show fu _ _ from ⟨by decide,by decide⟩,?_⟩ | refine⟨show Fi _ _ from ⟨by decide,by decide⟩,?_⟩
 | refine⟨show uh _ _ from ⟨by decide,by decide,by decide⟩,?_⟩ | refine⟨show CMul _ _ from .inl ⟨by decide,by decide⟩,?_⟩ | refine⟨show CMul _ _ from .inr ⟨by decide,by decide⟩,?_⟩
 | refine⟨λ h=>absurd (show (1:Nat)=0 from h.1) (by decide),?_⟩ | refine⟨λ h=>absurd (show (2:Nat)=0 from h.1) (by decide),?_⟩ | refine⟨λ h=>absurd (show (3:Nat)=0 from h.1) (by decide),?_⟩))
local macro_rules | `(tactic| walk_at "ws_tac") => `(tactic| ((repeat walk_at "ws1_tac"); try (conv => whnf)))
noncomputable def Yu (o:Option (Option OD)) (n:Int):Prop:=∃ a m c d:Int,o=some (some (.lst [.int a,.int m,.int c,.int d]))∧0≤c∧c≤n
noncomputable def Src (M:Ms) (k:Nat) (n:Int):Prop:=Yu M[k]? n
noncomputable def Sib (M M':Ms) (k:Nat):Prop:=M.length≤M'.length∧∀ j,j < M.length→j≠k→M'[j]? = M[j]?
theorem Sib.refl {M:Ms}{k:Nat}:Sib M M k:=⟨Nat.le_refl _,λ _ _ _=>rfl⟩
theorem Sib.trans {M M' M'':Ms}{k:Nat} (a:Sib M M' k) (b:Sib M' M'' k):Sib M M'' k:=⟨Nat.le_trans a.1 b.1,λ j h e=>(b.2 j (Nat.lt_of_lt_of_le h a.1) e).trans (a.2 j h e)⟩
theorem Sib.set {M:Ms}{k:Nat}{o:Option OD}:Sib M (M.set k o) k:=⟨by simp,λ j _ e=>by rw[List.getElem?_set_ne (λ z=>e z.symm)]⟩
theorem Src.lt {M:Ms}{k:Nat}{n:Int} (h:Src M k n):k < M.length:=by
 obtain⟨_,_,_,_,e,_⟩:=h
 exact(List.getElem?_eq_some_iff.mp e).1
theorem Src.set {M:Ms}{k:Nat}{n a m c d:Int} (h:k < M.length) (h0:0≤c) (h1:c≤n):Src (M.set k (some (.lst [.int a,.int m,.int c,.int d]))) k n:=⟨a,m,c,d,List.getElem?_set_self h,h0,h1⟩
theorem Src.push {M:Ms}{k:Nat}{n:Int}{o:Option OD} (h:Src M k n):Src (M++[o]) k n:=by
 have hl:=h.lt
 unfold Src
 rw[List.getElem?_append_left hl]
 exact h
noncomputable def pF:GP:=λ ds Q=>match ds with
 | [.int i,.int c]=>0≤c∧c≤1000000∧∀ r:Int,0≤r→r < 2147483629→Q (.int r)
 | _=>False
theorem yx:dh pF:=λ ds P Q w q=>by
 match ds,q with
 | [.int i,.int c],⟨h1,h2,q⟩=>exact⟨h1,h2,λ r a b=>w _ (q r a b)⟩
theorem Km:∀ ds Q,pF ds Q→cQ 3 2 qF ds Q:=λ ds Q q=>by
 match ds,q with
 | [.int i,.int c],⟨h1,h2,q⟩=>
  refine⟨rfl,?_⟩
  have hm:∀ x:Int,0≤x % 2147483629∧x % 2147483629 < 2147483629:=λ x=>⟨Int.emod_nonneg _ (by decide),Int.emod_lt_of_pos _ (by decide)⟩
  walk_at "ws_tac"
  refine⟨show CMul _ _ from .inr ⟨?_,?_⟩,?_⟩
  ·omega
  ·omega
  walk_at "ws_tac"
  refine⟨show CMul _ _ from .inl ⟨?_,?_⟩,?_⟩
  ·have:=hm ((i % 2147483629+69621 * c+1) * (48271+2 * c));omega
  ·have:=hm ((i % 2147483629+69621 * c+1) * (48271+2 * c));omega
  walk_at "ws_tac"
  refine⟨show CMul _ _ from .inl ⟨?_,?_⟩,?_⟩
  ·refine Int.lt_of_lt_of_le ?_ (hm _).1;decide
  ·exact Int.lt_trans (hm _).2 (by decide)
  walk_at "ws_tac"
  exact q _ (hm _).1 (hm _).2
noncomputable def n6:GN:=λ ds M Q=>∃ (k:Nat) (many n:Int),ds=[.loc k,.int many]∧0 < many∧many < 18446744073709551616∧Src M k n∧n < 1000000∧∀ (r:Int) (M':Ms),0≤r→r < many→Src M' k (n+1)→Sib M M' k→Q (.int r) M'
theorem Ay:monoN n6:=λ ds M P Q w ⟨k,many,n,h1,h2,h3,h4,h5,q⟩=>⟨k,many,n,h1,h2,h3,h4,h5,λ r M' a b c d=>w _ _ (q r M' a b c d)⟩
theorem gj {M:Ms}{k:Nat}{o:OD} (h:M[k]? = some (some o)):vw M (.loc k)=o.toD:=by
 show W8 k M[k]? = _
 rw[h]
 rfl
theorem n8 {M:Ms}{k:Nat}{xs:List D}{i:Int}{d:D}{Q:DK} (h:M[k]? = some (some (.lst xs))) (e:rK xs i=some d) (q:Q d M):c7 (.loc k) (.int i) M Q:=by
 unfold c7
 rw[gj h]
 exact⟨d,e,q⟩
theorem Er {δ:DSt}{M:Ms}{k:Nat}{xs:List D}{i:Int}{n:Nat}{v:D}{Q:DSt→Ms→Prop} (h0:δ[0]? = some (some (.loc k))) (h:M[k]? = some (some (.lst xs))) (e:Hx xs.length i=some n) (q:Q δ (M.set k (some (.lst (xs.set n v))))):vN (ao 0) (dC (.int i)) v δ M Q:=by
 unfold vN ao dC
 rw[h0]
 simp only [h]
 exact⟨n,e,q⟩
local macro_rules | `(tactic| walk_at "rs_tac") => `(tactic| simp only [aY, aW, ur, aL, dC, bC, rR, jo, cX, dF, bh, bT, ak, aB, bW, dZ, jy, JD, zR, f9, Tw, Ei, JH, List.map_cons, List.map_nil, List.cons_append, List.nil_append, List.replicate, List.length_cons, List.length_nil, Nat.reduceAdd, Nat.reduceSub, List.set_cons_succ, List.set_cons_zero, if_true, if_false, reduceIte, Bool.false_eq_true])
theorem Oa:∀ ds M Q,n6 ds M Q→LR 3 2 (nT (cl pF)) ds M Q:=λ ds M Q ⟨k,many,n,h1,h2,h3,h4,h5,q⟩=>by
 subst h1
 have hl:=h4.lt
 obtain⟨a,m,c,d,e,c0,c1⟩:=h4
 refine⟨rfl,?_⟩
 have hmod:∀ x:Int,0≤x % many∧x % many < many:=λ x=>⟨Int.emod_nonneg _ (by omega),Int.emod_lt_of_pos _ h2⟩
 have e2:(M.set k (some (.lst [.int a,.int m,.int (c+1),.int d])))[k]? = some (some (.lst [.int a,.int m,.int (c+1),.int d])):=List.getElem?_set_self hl
 have Az:c7 (.loc k) (.int 2) M λ x M1=>aN x (.int 1) M1 λ v M2=>vN (ao 0) (dC (.int 2)) v [some (.loc k),some (.int many),none] M2 λ δ M3=>(bh (aL (gI (λ _ j=>0 < j) λ i j=>.int (i % j)) (bT (cl pF) (ak (aL c7 (ao 0) (dC (.int 3))) (ak (aL c7 (ao 0) (dC (.int 2))) aB))) (ao 1))) ⟨λ _ M'=>Q .non M',Q,λ _ _=>False,λ _ _=>False⟩ δ M3:=by
  refine n8 e (CZ (k:=2) rfl) ?_
  walk_at "rs_tac"
  refine Er rfl e rfl ?_
  walk_at "rs_tac"
  refine n8 e2 (CZ (k:=3) rfl) ?_
  refine n8 e2 (CZ (k:=2) rfl) ?_
  refine⟨rfl,?_,?_,λ r r0 r1=>⟨h2,?_⟩⟩
  ·omega
  ·omega
  ·exact q _ _ (hmod r).1 (hmod r).2 (Src.set hl (by omega) (by omega)) Sib.set
 unfold nT
 walk_at "rs_tac"
 refine n8 e Wc ?_
 walk_at "rs_tac"
 cases em:m==0 with
 | false=>walk_at "rs_tac";exact Az
 | true=>
  walk_at "rs_tac"
  refine n8 e Nt ?_
  walk_at "rs_tac"
  by_cases ha:1 < a
  ·rw[if_pos (decide_eq_true ha)]
   refine n8 e Nt ?_
   refine⟨h2,?_⟩
   refine n8 e Nt ?_
   refine⟨⟨h2,h3⟩,?_⟩
   refine Er rfl e rfl ?_
   exact q _ _ (hmod a).1 (hmod a).2 (Src.set hl c0 (by omega)) Sib.set
  ·rw[if_neg (by simp[ha])]
   exact Az
noncomputable def mq:GN:=λ ds M Q=>match ds with
 | [.int i]=>Q (.loc M.length) (M++[some (.lst [.int (i / 2),.int (i % 2),.int 0,.int i])])
 | _=>False
theorem uY:monoN mq:=λ ds M P Q w q=>by
 match ds,q with
 | [.int i],q=>exact w _ _ q
theorem GR:∀ ds M Q,mq ds M Q→LR 1 1 oX ds M Q:=λ ds M Q q=>by
 match ds,q with
 | [.int i],q=>
  refine⟨rfl,?_⟩
  walk_at "ws_tac"
  exact q
theorem Uk {xs:List Int}{r:Int} (h0:0≤r) (h1:r < xs.length):∃ i∈xs,rK (iD xs) r=some (.int i):=by
 obtain⟨k,rfl⟩:=Int.eq_ofNat_of_zero_le h0
 have hk:k < xs.length:=by omega
 exact⟨xs[k],List.getElem_mem hk,CZ (by simp[hk])⟩
theorem Ko {xs:List Int}{r:Int}{M:Ms}{Q:DK} (h0:0≤r) (h1:r < xs.length) (q:∀ i∈xs,Q (.int i) M):c7 (.lst (iD xs)) (.int r) M Q:=by
 obtain⟨i,hi,e⟩:=Uk h0 h1
 exact⟨_,e,q i hi⟩
end K23
namespace K23
open PySem PySem.Spec L2 L3
structure XF (K:W.Frag) (P C B:Addr):Prop where
 sub:XSub K C P
 get:XGet K C
 na:NoAttr K C "place"
 yes:W.kitOne K (.ref C) (.ref C)=some true
 no:W.kitOne K (.ref C) (.ref B)=some false
noncomputable def said (cs:List Int) (a:Int):Nat→D
 | 0=>match yD cs a with | some r=>yE a r | none=>.int a
 | 1=>match lsN 4 cs a with | some (n,b)=>.tup [.lst (iD (jr b)),.int (a+2+4 * n)] | none=>.int a
 | _=>match lsN 2 cs a with | some (n,b)=>.tup [.lst (iD (pairs b)),.int (a+2+2 * n)] | none=>.int a
noncomputable def uc:GP:=λ ds Q=>∃ (cs:List Int) (a:Int) (w:Nat),ds=[.int w,.lst (iD cs),.int a]∧w < 3∧Cs cs∧In a∧nl (said cs a w)=true∧(∀ M,fz M (said cs a w)=said cs a w)∧Q (said cs a w)
theorem Ba:dh uc:=λ ds P Q w ⟨cs,a,v,h1,h2,h3,h4,h5,h6,q⟩=>⟨cs,a,v,h1,h2,h3,h4,h5,h6,w _ q⟩
theorem Ob {K:W.Frag}{P C B:Addr} (xf:XF K P C B):∀ ds Q,uc ds Q→cQ 4 3 (tM K P (jt C) (eY C) (gU C) C B) ds Q:=λ ds Q ⟨cs,a,v,h1,h2,hc,ha,h5,h6,q⟩=>by
 subst h1
 have hdl:∀ δ:DSt,XSub K (Ao C a).C P∧(bC (rR (aJ (bT (Jt K) (ak (ao 3) (ak (dC (.cls C)) aB)))) (gC (aJ (bT (Jt K) (ak (ao 3) (ak (dC (.cls B)) aB)))))) (bh (Js K "place" (ao 3))) aW) (Zq 3 ⟨bh (dC (.str "other")) ⟨λ _ _=>Q .non,λ d M'=>nl (fz M' d)=true∧Q (fz M' d),λ _ _=>False,λ _ _=>False⟩,λ d M'=>nl (fz M' d)=true∧Q (fz M' d),λ _ _=>False,λ _ _=>False⟩) [some (.int v),some (.lst (iD cs)),some (.int a),some (.exc C ["place"] [.int a])] []∨¬ Q (.int a):=λ δ=>by
  by_cases hq:Q (.int a)
  ·refine .inl ⟨xf.sub,?_⟩
   exact⟨true,xf.get,xf.yes,false,xf.get,xf.no,xf.get,xf.na,.int a,rfl,rfl,hq⟩
  ·exact .inr hq
 have hdl:Q (.int a)→_:=λ hq=>(hdl []).resolve_right λ z=>z hq
 refine⟨rfl,?_⟩
 have hv:v=0∨v=1∨v=2:=by omega
 rcases hv with rfl | rfl | rfl
 ·refine⟨gA cs a,cs,a,rfl,hc,ha,λ r e=>?_,λ e=>?_⟩
  ·have e':said cs a 0=yE a r:=by show (match yD cs a with | some r=>yE a r | none=>.int a)=_;rw[e]
   rw[e'] at q h5
   have h6:=h6 []
   rw[e'] at h6
   show nl (fz [] _)=true∧Q (fz [] _)
   rw[h6]
   exact⟨h5,q⟩
  ·have e':said cs a 0 = .int a:=by show (match yD cs a with | some r=>yE a r | none=>.int a)=_;rw[e]
   rw[e'] at q
   exact hdl q
 ·refine⟨gA cs a,cs,a,rfl,hc,ha,?_⟩
  have e':said cs a 1=(match lsN 4 cs a with | some (n,b)=>.tup [.lst (iD (jr b)),.int (a+2+4 * n)] | none=>.int a):=rfl
  rw[e'] at q h5
  have h6:=h6 []
  rw[e'] at h6
  cases e:lsN 4 cs a with
  | none=>rw[e] at q;exact hdl q
  | some z=>
   rw[e] at q h5 h6
   show nl (fz [] _)=true∧Q (fz [] _)
   exact⟨h5,q⟩
 ·refine⟨gA cs a,cs,a,rfl,hc,ha,?_⟩
  have e':said cs a 2=(match lsN 2 cs a with | some (n,b)=>.tup [.lst (iD (pairs b)),.int (a+2+2 * n)] | none=>.int a):=rfl
  rw[e'] at q h5
  have h6:=h6 []
  rw[e'] at h6
  cases e:lsN 2 cs a with
  | none=>rw[e] at q;exact hdl q
  | some z=>
   rw[e] at q h5 h6
   show nl (fz [] _)=true∧Q (fz [] _)
   exact⟨h5,q⟩
theorem Kp {x:Str} (h:x.cps.toList.all (λ c=>decide (c < 0x110000))=true):PyData.strOk x=true:=by
 unfold PyData.strOk
 rw[← Array.all_toList]
 exact h
theorem Bb (ns:List Int):BR (ns.map D.int)=true:=by induction ns with | nil=>rfl | cons n ns ih=>rw[List.map_cons];unfold BR;rw[ih];rfl
theorem Bc (ns:List Int):O4 (ns.map D.int)=0:=by induction ns with | nil=>rfl | cons n ns ih=>rw[List.map_cons];unfold O4;rw[ih];rfl
mutual
theorem ud:∀ d:D,pl d=true→nM d d=true
 | .non,_=>rfl
 | .bl b,_=>by unfold nM;simp
 | .int i,_=>by unfold nM;simp
 | .str x,_=>by unfold nM;simp
 | .tup ds,h=>by unfold nM;unfold pl at h;exact qm ds h
 | .lst ds,h=>by unfold nM;unfold pl at h;exact qm ds h
 | .ty _,h=>by unfold pl at h;cases h
 | .dct _ _,h=>by unfold pl at h;cases h
 | .ins _ _ _,h=>by unfold pl at h;cases h
 | .exc _ _ _,h=>by unfold pl at h;cases h
 | .scr _,h=>by unfold pl at h;cases h
 | .loc _,h=>by unfold pl at h;cases h
 | .cls _,h=>by unfold pl at h;cases h
theorem qm:∀ ds:List D,BR ds=true→ux ds ds=true
 | [],_=>rfl
 | d::ds,h=>by unfold ux;unfold BR at h;rw[Bool.and_eq_true] at h;rw[ud d h.1,qm ds h.2];rfl
end
structure Go (d:D):Prop where
 nl:nl d=true
 pl:pl d=true
 dp:dp d≤60
 fz:∀ M,fz M d=d
 tp:∃ ds,d = .tup ds
theorem Ul (a:Int) (r:Rw):Go (yE a r):=by
 have hp:pl r.d=true:=by cases r <;> simp only [Rw.d,pl,BR,Bool.and_eq_true] <;> (repeat' apply And.intro) <;> first | rfl | trivial | exact Kp rfl
 have hn:L3.pl r.near=true:=by cases r <;> rfl
 refine⟨?_,?_,?_,?_,⟨_,rfl⟩⟩
 ·cases r <;> rfl
 ·show (L3.pl r.d&&(L3.pl r.near&&(true&&true)))=true
  rw[hp,hn];rfl
 ·cases r <;> exact Nat.le_of_ble_eq_true rfl
 ·intro M;cases r <;> rfl
theorem Es (xs:List Int) (i:Int):Go (.tup [.lst (iD xs),.int i]):=by
 refine⟨?_,?_,?_,λ _=>rfl,⟨_,rfl⟩⟩
 ·show (nls (iD xs)&&(true&&true))=true;rw[iI];rfl
 ·show (BR (xs.map D.int)&&(true&&true))=true;rw[Bb];rfl
 ·show max (O4 (xs.map D.int)+1) (max 0 0)+1≤60;rw[Bc];decide
end K23
namespace K23
open PySem PySem.Spec L2 L3
noncomputable def due (cs:List Int) (a:Int):Nat→D
 | 0=>match yD cs a with | some r=>yE a r | none=>.non
 | 1=>match lsN 4 cs a with | some (n,b)=>N7 4 a n b | none=>.non
 | _=>match lsN 2 cs a with | some (n,b)=>N7 2 a n b | none=>.non
theorem Bd {cs:List Int}{a:Int}{w:Nat} (h:w < 3):(due cs a w = .non∧said cs a w = .int a)∨(Go (due cs a w)∧said cs a w=due cs a w):=by
 have hw:w=0∨w=1∨w=2:=by omega
 rcases hw with rfl | rfl | rfl
 ·show ((match yD cs a with | some r=>yE a r | none=>.non)=D.non∧(match yD cs a with | some r=>yE a r | none=>.int a) = .int a)∨_∧(match yD cs a with | some r=>yE a r | none=>.int a)=(match yD cs a with | some r=>yE a r | none=>.non)
  cases e:yD cs a with
  | none=>exact .inl ⟨rfl,rfl⟩
  | some r=>exact .inr ⟨by unfold due;rw[e];exact Ul a r,rfl⟩
 ·show ((match lsN 4 cs a with | some (n,b)=>N7 4 a n b | none=>.non)=D.non∧(match lsN 4 cs a with | some (n,b)=>D.tup [D.lst (iD (jr b)),D.int (a+2+4 * n)] | none=>D.int a) = .int a)∨_∧(match lsN 4 cs a with | some (n,b)=>D.tup [D.lst (iD (jr b)),D.int (a+2+4 * n)] | none=>D.int a)=(match lsN 4 cs a with | some (n,b)=>N7 4 a n b | none=>.non)
  cases e:lsN 4 cs a with
  | none=>exact .inl ⟨rfl,rfl⟩
  | some z=>
   refine .inr ⟨by unfold due;rw[e];exact Es _ _,?_⟩
   show D.tup [.lst (iD (jr z.2)),.int (a+2+4 * z.1)] = .tup [.lst (iD (Ys 4 z.2)),.int (a+2+z.1 * 4)]
   rw[Int.mul_comm 4 z.1]
   rfl
 ·show ((match lsN 2 cs a with | some (n,b)=>N7 2 a n b | none=>.non)=D.non∧(match lsN 2 cs a with | some (n,b)=>D.tup [D.lst (iD (pairs b)),D.int (a+2+2 * n)] | none=>D.int a) = .int a)∨_∧(match lsN 2 cs a with | some (n,b)=>D.tup [D.lst (iD (pairs b)),D.int (a+2+2 * n)] | none=>D.int a)=(match lsN 2 cs a with | some (n,b)=>N7 2 a n b | none=>.non)
  cases e:lsN 2 cs a with
  | none=>exact .inl ⟨rfl,rfl⟩
  | some z=>
   refine .inr ⟨by unfold due;rw[e];exact Es _ _,?_⟩
   show D.tup [.lst (iD (pairs z.2)),.int (a+2+2 * z.1)] = .tup [.lst (iD (Ys 2 z.2)),.int (a+2+z.1 * 2)]
   rw[Int.mul_comm 2 z.1]
   rfl
theorem Oc {cs:List Int}{a:Int}{w:Nat} (h:w < 3):nl (said cs a w)=true∧∀ M,fz M (said cs a w)=said cs a w:=by
 rcases Bd (cs:=cs) (a:=a) h with ⟨_,e⟩ | ⟨g,e⟩
 ·rw[e];exact⟨rfl,λ _=>rfl⟩
 ·rw[e];exact⟨g.nl,g.fz⟩
noncomputable def mV:GP:=λ ds Q=>∃ (cs:List Int) (a:Int),ds=[.lst (iD cs),.int a]∧Cs cs∧In a∧Q (.bl true)
theorem yC:dh mV:=λ ds P Q w ⟨cs,a,h1,h2,h3,q⟩=>⟨cs,a,h1,h2,h3,w _ q⟩
theorem Od (w a:Int) (cs:List Int):nls [.int w,.lst (iD cs),.int a]=true:=by
 show (true&&(nls (iD cs)&&(true&&true)))=true
 rw[iI];rfl
noncomputable def Ql (K:W.Frag):DS:=(aY (bW 4 (bT (cl uc) (ak (ao 3) (ak (dNew (Ye Cd (ak (ao 0) aB))) (ak (ao 1) aB)))))
 (bC (aJ (aL Vz (aL c7 (ao 2) (ao 3)) (dC .non))) (bC (GX (aJ (bT (yZ K) (ak (ao 4) (ak (dC (.ty "bool")) aB)))) (GX (gC (aJ (bT (yZ K) (ak (ao 4) (ak (dC (.ty "int")) aB))))) (aJ (aL Us (ao 4) (ao 1))))) (bh (dC (.bl false))) aW) (bC (GX (gC (aJ (bT (yZ K) (ak (ao 4) (ak (dC (.ty "tuple")) aB))))) (aJ (aL Us (ao 4) (aL c7 (ao 2) (ao 3))))) (bh (dC (.bl false))) aW)))
theorem Dg {K:W.Frag}{cs:List Int}{a:Int}{w:Nat} (hw:w < 3) (hc:Cs cs) (ha:In a) {E:DEnds}{dd:D}{z:Option D} (hdd:dd = .lst [due cs a 0,due cs a 1,due cs a 2]) (q:E.nx [some (.lst (iD cs)),some (.int a),some dd,some (.int w),some (said cs a w)] []) :
  Ql K E [some (.lst (iD cs)),some (.int a),some dd,some (.int w),z] []:=by
 obtain⟨s1,s2⟩:=Oc (cs:=cs) (a:=a) hw
 subst hdd
 refine⟨Od w a cs,cs,a,w,rfl,hw,hc,ha,s1,s2,?_⟩
 have hat:rK [due cs a 0,due cs a 1,due cs a 2] (w:Int)=some (due cs a w):=by
  have hv:w=0∨w=1∨w=2:=by omega
  rcases hv with rfl | rfl | rfl <;> rfl
 refine⟨due cs a w,hat,?_⟩
 rcases Bd (cs:=cs) (a:=a) hw with ⟨e1,e2⟩ | ⟨g,e2⟩
 ·rw[e1,e2]
  rw[e2] at q
  refine⟨false,rfl,true,rfl,?_⟩
  show (if (!(a==a))=true then _ else _)
  rw[beq_self_eq_true]
  exact q
 ·obtain⟨ds,e3⟩:=g.tp
  have g':=g
  rw[e3] at e2 g
  rw[e3,e2]
  rw[e2] at q
  refine⟨true,rfl,due cs a w,hat,?_⟩
  rw[e3]
  have e9:nM (.tup ds) (.tup ds)=true:=ud _ g.pl
  refine⟨⟨g.pl,g.pl,g.dp,g.dp⟩,?_⟩
  show (if (!(nM (.tup ds) (.tup ds)))=true then _ else _)
  rw[e9]
  exact q
theorem Kq {K:W.Frag}:∀ ds Q,mV ds Q→cQ 5 2 (qG K (cl ql) (cl iJ) (cl uc) (cl cO)) ds Q:=λ ds Q ⟨cs,a,h1,hc,ha,q⟩=>by
 subst h1
 refine⟨rfl,?_⟩
 have Yv:∀ dd:D,dd = .lst [due cs a 0,due cs a 1,due cs a 2]→(aY (lB (sI (ak (dC (.int 3)) aB)) (aM 3) (Ql K))
   (aY (bC (aJ (aL sG (aL c7 (ao 2) (dC (.int 0))) (dC .non))) (bh (aL jy (bT (cl cO) (ak (aL c7 (aL c7 (ao 2) (dC (.int 0))) (dC (.int 0))) (ak (ao 1) (ak (aL c7 (aL c7 (ao 2) (dC (.int 0))) (dC (.int 1))) aB)))) (Ry (ao 0) (lN (ao 1)) (lN (aL c7 (aL c7 (ao 2) (dC (.int 0))) (dC (.int 2))))))) aW)
   (bh (dC (.bl true))))) (EE Q) [some (.lst (iD cs)),some (.int a),some dd,none,none] []:=λ dd hdd=>by
  refine⟨⟨by decide,by decide⟩,True.intro,?_⟩
  refine Dg (w:=0) (by decide) hc ha hdd ⟨True.intro,?_⟩
  refine Dg (w:=1) (by decide) hc ha hdd ⟨True.intro,?_⟩
  refine Dg (w:=2) (by decide) hc ha hdd ⟨True.intro,?_⟩
  subst hdd
  refine⟨due cs a 0,rfl,?_⟩
  cases e:yD cs a with
  | none=>
   have e0:due cs a 0 = .non:=by unfold due;rw[e];rfl
   rw[e0]
   exact⟨rfl,q⟩
  | some r=>
   have e0:due cs a 0=yE a r:=by unfold due;rw[e];rfl
   rw[e0]
   obtain⟨a0,l0,ec⟩:=Kl hc e
   refine⟨_,rfl,_,rfl,_,rfl,_,rfl,Yt a r,r,a,rfl,?_⟩
   refine⟨_,rfl,_,rfl,?_⟩
   have hp:L3.pl (.lst (iD (r.cells a)))=true:=Bb _
   have hd:dp (.lst (iD (r.cells a)))≤60:=by show O4 ((r.cells a).map D.int)+1≤60;rw[Bc];decide
   show Zm (.lst (iD (r.cells a))) (.lst (cutD (iD cs) (some a) (some (a+r.len))))∧_
   rw[← ec]
   refine⟨⟨hp,hp,hd,hd⟩,?_⟩
   show nl (fz [] (.bl (nM (.lst (iD (r.cells a))) (.lst (iD (r.cells a))))))=true∧Q (.bl (nM (.lst (iD (r.cells a))) (.lst (iD (r.cells a)))))
   rw[ud _ hp]
   exact⟨rfl,q⟩
 have k1:∀ (Q:D→Prop),Q (due cs a 0)→iJ [.lst (iD cs),.int a] Q:=λ Q q=>⟨cs,a,rfl,hc,ha,λ r e=>by
  have e0:due cs a 0=yE a r:=by unfold due;rw[e];rfl
  rw[← e0];exact q,λ e=>by
  have e0:due cs a 0 = .non:=by unfold due;rw[e];rfl
  rw[← e0];exact q⟩
 have k2:∀ (Q:D→Prop),Q (due cs a 1)→ql [.lst (iD cs),.int a,.int 4] Q:=λ Q q=>⟨cs,a,4,rfl,hc,ha,.inr rfl,λ n b e=>by
  have e0:due cs a 1=N7 4 a n b:=by unfold due;rw[e];rfl
  rw[← e0];exact q,λ e=>by
  have e0:due cs a 1 = .non:=by unfold due;rw[e];rfl
  rw[← e0];exact q⟩
 have k3:∀ (Q:D→Prop),Q (due cs a 2)→ql [.lst (iD cs),.int a,.int 2] Q:=λ Q q=>⟨cs,a,2,rfl,hc,ha,.inl rfl,λ n b e=>by
  have e0:due cs a 2=N7 2 a n b:=by unfold due;rw[e];rfl
  rw[← e0];exact q,λ e=>by
  have e0:due cs a 2 = .non:=by unfold due;rw[e];rfl
  rw[← e0];exact q⟩
 refine⟨gA cs a,k1 _ ⟨eX cs a 4,k2 _ ⟨eX cs a 2,k3 _ ?_⟩⟩⟩
 refine⟨Nat.le_of_ble_eq_true rfl,?_⟩
 exact Yv _ rfl
end K23
namespace K23
open PySem PySem.Spec L2 L3
structure Sm (k j:Nat) (n:Int) (M:Ms) (acc:List Int):Prop where
 s:Src M k n
 l:M[j]? = some (some (.lst (iD acc)))
 ne:j≠k
 c:∀ x∈acc,0≤x∧x < 256
theorem Sm.jl {k j:Nat}{n:Int}{M:Ms}{acc:List Int} (h:Sm k j n M acc):j < M.length:=(List.getElem?_eq_some_iff.mp h.l).1
theorem Sm.next {k j:Nat}{n n':Int}{M M':Ms}{acc:List Int} (h:Sm k j n M acc) (s:Src M' k n') (b:Sib M M' k):Sm k j n' M' acc:=⟨s,(b.2 j h.jl h.ne).trans h.l,h.ne,h.c⟩
theorem Sm.push {k j:Nat}{n:Int}{M:Ms}{acc:List Int} (h:Sm k j n M acc) {x:Int} (hx:0≤x∧x < 256):Sm k j n (M.set j (some (.lst (iD acc++[.int x])))) (acc++[x]):=by
 refine⟨?_,?_,h.ne,?_⟩
 ·unfold Src
  rw[List.getElem?_set_ne h.ne]
  exact h.s
 ·rw[List.getElem?_set_self h.jl]
  show _=some (some (OD.lst (List.map D.int (acc++[x]))))
  rw[List.map_append];rfl
 ·intro y hy
  rcases List.mem_append.mp hy with hy | hy
  ·exact h.c y hy
  ·simp at hy;subst hy;exact hx
theorem Sm.ty {k j:Nat}{n:Int}{M:Ms}{acc:List Int} (h:Sm k j n M acc):Yi "list" (vw M (.loc j))=true:=by rw[gj h.l];rfl
noncomputable def uf (bV:GN):DS:=(aY (bW 3 (bT bV (ak (ao 0) (ak (dC (.int 4)) aB))))
 (aY (bW 4 (dNew (kI (ak (dC (.int 16)) (ak (dC (.int 33)) (ak (dC (.int 50)) (ak (dC (.int 65)) (ak (dC (.int 70)) (ak (dC (.int 80)) (ak (dC (.int 81)) (ak (dC (.int 82)) (ak (dC (.int 83)) (ak (dC (.int 86)) (ak (dC (.int 90)) (ak (dC (.int 98)) (ak (dC (.int 99)) (ak (dC (.int 101)) (ak (dC (.int 107)) (ak (dC (.int 115)) (ak (dC (.int 140)) (ak (dC (.int 146)) (ak (dC (.int 147)) (ak (dC (.int 148)) (ak (dC (.int 143)) (ak (dC (.int 15)) (ak (dC (.int 79)) aB))))))))))))))))))))))))))
 (bC (aJ (aL jy (ao 3) (dC (.int 0)))) (iT (zc "list" dj (ao 1) (ak (bT bV (ak (ao 0) (ak (dC (.int 256)) aB))) aB))) (bC (aJ (aL jy (ao 3) (dC (.int 1)))) (iT (zc "list" dj (ao 1) (ak (dC (.int 0)) aB))) (bC (aJ (aL jy (ao 3) (dC (.int 2)))) (iT (zc "list" dj (ao 1) (ak (aL c7 (ao 4) (bT bV (ak (ao 0) (ak (dC (.int 23)) aB)))) aB))) (iT (zc "list" dj (ao 1) (ak (aL c7 (dNew (kI (ak (dC (.int 1)) (ak (dC (.int 2)) (ak (dC (.int 255)) (ak (dC (.int 128)) (ak (dC (.int 127)) aB))))))) (bT bV (ak (ao 0) (ak (dC (.int 5)) aB)))) aB))))))))
abbrev Kr:List Int:=[16,33,50,65,70,80,81,82,83,86,90,98,99,101,107,115,140,146,147,148,143,15,79]
abbrev WY:List Int:=[1,2,255,128,127]
theorem vY {k j:Nat}{E:DEnds}:∀ (m i:Nat) (acc:List Int) (M:Ms) (n:Int) (z2 z3 z4:Option D),Sm k j n M acc→n+2 * (m:Int) < 999000→acc.length+m≤14→(∀ M' acc' n' z2 z3 z4,Sm k j n' M' acc'→acc'.length=acc.length+m→E.nx [some (.loc k),some (.loc j),z2,z3,z4] M') →
  fj (aM 2) (uf n6) (λ _=>True) E (jw i m) [some (.loc k),some (.loc j),z2,z3,z4] M
 | 0,i,acc,M,n,z2,z3,z4,h,hn,hl,q=>q M acc n z2 z3 z4 h rfl
 | m+1,i,acc,M,n,z2,z3,z4,h,hn,hl,q=>by
  rw[tZ]
  have again:∀ (M2:Ms) (n2 x:Int) (z3 z4:Option D),0≤x∧x < 256→n2≤n+2→Sm k j n2 M2 acc→True∧fj (aM 2) (uf n6) (λ _=>True) E (jw ((i+1:Nat):Int) m) [some (.loc k),some (.loc j),some (.int i),z3,z4] (M2.set j (some (.lst (iD acc++[.int x])))):=λ M2 n2 x z3 z4 hx hn2 h2=>
   ⟨True.intro,vY m (i+1) (acc++[x]) _ n2 _ z3 z4 (h2.push hx) (by push_cast at hn;omega) (by simp;omega) λ M' acc' n' z2 z3 z4 h' hl'=>q M' acc' n' z2 z3 z4 h' (by rw[hl'];simp;omega)⟩
  have hz:(iD acc).length < sizeLine:=by rw[List.length_map];exact Nat.lt_of_lt_of_le (show acc.length < 15 by omega) (by decide)
  refine⟨k,4,n,rfl,by decide,by decide,h.s,by omega,λ r M1 r0 r1 s1 b1=>?_⟩
  have h1:=h.next s1 b1
  refine⟨Nat.le_of_ble_eq_true rfl,?_⟩
  have hr:r=0∨r=1∨r=2∨r=3:=by omega
  clear r0 r1
  rcases hr with rfl | rfl | rfl | rfl
  ·refine⟨h1.ty,k,256,n+1,rfl,by decide,by decide,s1,by omega,λ x M2 x0 x1 s2 b2=>?_⟩
   have h2:=h1.next s2 b2
   exact⟨_,h2.l,hz,again M2 _ x _ _ ⟨x0,x1⟩ (by omega) h2⟩
  ·exact⟨h1.ty,_,h1.l,hz,again M1 _ 0 _ _ (by decide) (by omega) h1⟩
  ·refine⟨h1.ty,k,23,n+1,rfl,by decide,by decide,s1,by omega,λ x M2 x0 x1 s2 b2=>?_⟩
   have h2:=h1.next s2 b2
   refine Ko (xs:=Kr) x0 x1 λ y hy=>?_
   have hy':0≤y∧y < 256:=by simp at hy;omega
   exact⟨_,h2.l,hz,again M2 _ y _ _ hy' (by omega) h2⟩
  ·refine⟨h1.ty,Nat.le_of_ble_eq_true rfl,k,5,n+1,rfl,by decide,by decide,s1,by omega,λ x M2 x0 x1 s2 b2=>?_⟩
   have h2:=h1.next s2 b2
   refine Ko (xs:=WY) x0 x1 λ y hy=>?_
   have hy':0≤y∧y < 256:=by simp at hy;omega
   exact⟨_,h2.l,hz,again M2 _ y _ _ hy' (by omega) h2⟩
noncomputable def ug:GN:=λ ds M Q=>∃ k:Nat,ds=[.loc k]∧Src M k 0∧∀ cs M',Cs cs→Q (.lst (iD cs)) M'
theorem Bf:monoN ug:=λ ds M P Q w ⟨k,h1,h2,q⟩=>⟨k,h1,h2,λ cs M' h=>w _ _ (q cs M' h)⟩
theorem Oe:∀ ds M Q,ug ds M Q→LR 5 1 (tO n6) ds M Q:=λ ds M Q ⟨k,h1,h2,q⟩=>by
 subst h1
 have hk:=h2.lt
 refine⟨rfl,?_⟩
 refine⟨Nat.le_of_ble_eq_true rfl,k,14,0,rfl,by decide,by decide,h2.push,by decide,λ r M1 r0 r1 s1 b1=>?_⟩
 have hm:M1[M.length]? = some (some (.lst (iD []))):=(b1.2 M.length (by simp) (by omega)).trans (by simp)
 refine⟨⟨by omega,by omega⟩,True.intro,?_⟩
 obtain⟨n,hn⟩:=Int.eq_ofNat_of_zero_le (show 0≤1+r by omega)
 show fj (aM 2) (uf n6) _ _ (jw ((0:Nat):Int) (1+r).toNat) [some (.loc k),some (.loc M.length),none,none,none] M1
 rw[hn,Int.toNat_natCast]
 refine vY n 0 [] M1 1 none none none ⟨s1,hm,by omega,λ x hx=>by simp at hx⟩ (by omega) (by simp;omega) λ M' acc' n' z2 z3 z4 h' hl'=>?_
 refine⟨M.length,_,rfl,h'.l,q _ _ ⟨h'.c,by rw[hl'];simp;omega⟩⟩
end K23
namespace L3
open PySem PySem.Spec PyProof.Rows L2
abbrev exTail:List Value:=[.type "ValueError",.type "Exception",.type "BaseException",.type "object"]
structure ExC (K:W.Frag) (C P:Addr):Prop where
 hd:W.hasDictIn K C=true
 po:XOver K C
 so:W.subIn K (.ref C) (.type "object")=some true
 sa:W.findIn K (.ref C) "__setattr__"=some (some (.builtin "object.__setattr__"))
 call:W.specialIn K (.ref C) "__call__"=some (some (.builtin "type.__call__"))
 typ:W.instIn K (.ref C) (.type "type")=some true
 kp:W.keepIn K (.ref C)=true
 ga:W.findIn K (.ref C) "__getattribute__"=some (some (.builtin "BaseException.__getattribute__"))
 gh:W.findIn K (.ref C) "__getattr__"=some none
 sb:W.subIn K (.ref C) (.type "BaseException")=some true
 cl:W.findIn K (.ref C) "__class__"=some (some (.builtin "object.__class__"))
 cg:W.specialIn K (.builtin "object.__class__") "__get__"=some (some (.builtin "getset_descriptor.__get__"))
 tk:W.takesIn K (.builtin "object.__class__")=some true
 ob:W.mroIn K C (.type "object")=some true
 oc:∃ nm q N bs bm hdct sn sub ab col dd k0 k1 k2 k3 k5,K.lookup C=some (excClassObj nm q C N bs bm hdct sn sub ab col dd k0 k1 k2 k3 k5 "ValueError.__new__")∧W.tailIn K exTail bm=true∧(Value.ref C::bm).contains (.ref P)=true∧(Value.ref C::bm).contains (.type "BaseException")=true
theorem exc_oc {K:W.Frag}{C P:Addr}{nm q:Str}{N:Addr}{bs bm:List Value}{hdct:Bool}{sn:List Str}{sub:List Value}{ab:Bool}{col:Option Bool}{dd:Option Addr}{k0 k1 k2 k3 k5:Option Value} (l:K.lookup C=some (excClassObj nm q C N bs bm hdct sn sub ab col dd k0 k1 k2 k3 k5 "ValueError.__new__"))
  (t:W.tailIn K exTail bm=true) (c:(Value.ref C::bm).contains (.ref P)=true) (b:(Value.ref C::bm).contains (.type "BaseException")=true):∃ nm q N bs bm hdct sn sub ab col dd k0 k1 k2 k3 k5,K.lookup C=some (excClassObj nm q C N bs bm hdct sn sub ab col dd k0 k1 k2 k3 k5 "ValueError.__new__")∧W.tailIn K exTail bm=true∧(Value.ref C::bm).contains (.ref P)=true∧(Value.ref C::bm).contains (.type "BaseException")=true:=
 ⟨_,_,_,_,_,_,_,_,_,_,_,_,_,_,_,_,l,t,c,b⟩
section
variable {K:W.Frag}{C P:Addr}
theorem ExC.cls (h:ExC K C P):XCls K C:=⟨h.hd,h.po,h.so,h.sa⟩
theorem ExC.get (h:ExC K C P):XGet K C:=⟨h.hd,h.ga,h.gh,h.sb,h.cl,h.cg,h.tk,h.ob⟩
theorem ExC.obj (h:ExC K C P):XObj K C:=by
 obtain⟨nm,q,N,bs,bm,hdct,sn,sub,ab,col,dd,k0,k1,k2,k3,k5,l,t,_⟩:=h.oc
 exact⟨nm,q,N,bs,bm,hdct,sn,sub,ab,col,dd,k0,k1,k2,k3,k5,l,λ h X=>W.tail_of_in X t⟩
theorem ExC.sub {Q:Addr} (h:ExC K C P) (b:ExC K P Q):XSub K C P:=by
 obtain⟨nm,q,N,bs,bm,hdct,sn,sub,ab,col,dd,k0,k1,k2,k3,k5,l,t,c,_⟩:=h.oc
 obtain⟨nm',q',N',bs',bm',VJ,Z7,sub',Z8,col',W4,Z9,k1',k2',k3',k5',l',t',c',b'⟩:=b.oc
 exact⟨⟨_,_,_,_,_,_,_,_,_,_,_,_,_,_,_,_,l,c⟩,⟨_,_,_,_,_,_,_,_,_,_,_,_,_,_,_,_,l',b'⟩⟩
structure ExI (K:W.Frag) (C f:Addr) (q:Str) (st:Stmt):Prop where
 init:W.findIn K (.ref C) "__init__"=some (some (.ref f))
 ex:∃ fd,Fun K "__init__" q st f fd
 fn:W.isFn K (.ref f)=true
theorem exi_mk {qual:Str}{st:Stmt}{f:Addr}{oc:Value}{od an:Option Addr}{osl:Array (Option Value)}{kV doc pm cdv ct:Value} (i:W.findIn K (.ref C) "__init__"=some (some (.ref f))) (l:K.lookup f=some ⟨oc,od,.func (W.fnOf "__init__" qual (defArgs st) (defBody st) (defScope st) .none kV doc pm an cdv ct),osl⟩)
  (c:W.codeIn K cdv qual=true) (k:W.keepIn K (.ref f)=true) (n:W.isFn K (.ref f)=true):ExI K C f qual st:=⟨i,⟨_,HD l c k⟩,n⟩
theorem ExC.mk_ (h:ExC K C P) {f:Addr}{q:Str}{st:Stmt} (i:ExI K C f q st):XMk K C f:=⟨h.obj,h.call,h.typ,i.init,i.fn,h.kp⟩
end
end L3
namespace K23
open PySem PySem.Spec L2 L3
noncomputable def Et:GP:=λ ds Q=>∃ ns:List Int,ds=[.scr ns]∧Q (.bl true)
theorem Ks {xs:List D}:cutD xs none (some 20)=xs.take 20:=by
 show cutD xs none (some ((20:Nat):Int))=_
 unfold cutD
 rw[HT.sIx_nat,HT.sIx_none]
 simp
theorem Eu {E:DEnds}{cs:List Int}{d0 d1:Option D} (hc:Cs cs) {M:Ms}:∀ (m:Nat) (i:Int) (z:Option D),-1≤i→i+m≤16→(∀ z,E.nx [d0,d1,some (.lst (iD cs)),z] M) →
  fj (aM 3) (bC (gC (aJ (bT (cl mV) (ak (ao 2) (ak (ao 3) aB))))) (bh (dC (.bl false))) aW) (λ _=>True) E (jw i m) [d0,d1,some (.lst (iD cs)),z] M
 | 0,i,z,h0,h1,q=>q z
 | m+1,i,z,h0,h1,q=>by
  have e:jw i (m+1) = .int i::jw (i+1) m:=by
   unfold jw
   rw[List.range_succ_eq_map,List.map_cons,List.map_map]
   congr 1
   ·simp
   ·refine List.map_congr_left λ x _=>?_
    show D.int _=D.int _
    rw[show (i+((x+1:Nat):Int))=i+1+(x:Int) by push_cast;omega]
  rw[e]
  exact⟨gA cs i,cs,i,rfl,hc,⟨by omega,by omega⟩,True.intro,Eu hc m (i+1) _ (by omega) (by push_cast at h1;omega) q⟩
theorem Bg {st:Ms→Prop} (hst:∀ M,st M) {E:DEnds}{d0:Option D} (q:∀ δ M,E.nx δ M):∀ (xs:List Int) (z1 z2 z3:Option D) (M:Ms),
  fj (aM 1) (aY (bW 2 (bT ug (ak (bT mq (ak (ao 1) aB)) aB)))
   (lB (BP (ak (Ip (dC (.int 1))) (ak (aL aN (bT kY (ak (ao 2) aB)) (dC (.int 2))) aB))) (aM 3) (bC (gC (aJ (bT (cl mV) (ak (ao 2) (ak (ao 3) aB))))) (bh (dC (.bl false))) aW))) st E (iD xs) [d0,z1,z2,z3] M
 | [],z1,z2,z3,M=>q _ _
 | x::xs,z1,z2,z3,M=>by
  refine⟨M.length,rfl,⟨x / 2,x % 2,0,x,by simp,by decide,by decide⟩,λ cs M' hc=>?_⟩
  have hl:=hc.l
  have hlen:((iD cs).length:Int)=cs.length:=by rw[List.length_map]
  refine⟨(iD cs).length,rfl,⟨by decide,by decide,by omega,by omega⟩,True.intro,?_⟩
  refine Eu hc _ (-1) _ (by decide) (by omega) λ z=>⟨hst _,Bg hst q xs _ _ _ M'⟩
theorem Um:∀ ds Q,Et ds Q→cQ 4 1 (Pj ug mq (cl mV)) ds Q:=λ ds Q ⟨ns,h,q⟩=>by
 subst h
 refine⟨rfl,?_⟩
 refine⟨Nat.le_of_ble_eq_true rfl,?_,?_⟩
 ·rw[Ks];simp;exact Nat.le_trans (show min 20 ns.length+1≤21 by omega) (by decide)
 refine⟨iD (ns.take 20++[0]),?_,rfl,?_⟩
 ·show some (cutD (ns.map D.int) none (some 20)++[D.int 0])=_
  rw[Ks];simp
 refine Bg (λ M=>rfl) ?_ _ _ _ _ _
 exact λ δ M=>⟨rfl,q⟩
end K23
namespace L3
open PySem PySem.Spec L2
mutual
noncomputable def Dh (K:W.Frag):Nat→D→Value→Bool
 | _,.non,.none=>true
 | _,.bl b,.bool c=>b==c
 | _,.int i,.int j _=>i==j
 | _,.str x,.str y _=>x==y
 | n+1,.tup ds,.ref a=>match K.lookup a with
  | some o=>match o.cls,o.data with
   | .type t,.seq us _=>t == "tuple" && Nat.ble us.size 1000&&vZ K n ds us.toList
   | _,_=>false
  | none=>false
 | _,_,_=>false
noncomputable def vZ (K:W.Frag):Nat→List D→List Value→Bool
 | _,[],[]=>true
 | n,d::ds,u::us=>Dh K n d u&&vZ K n ds us
 | _,_,_=>false
end
theorem Bh {K:W.Frag}{n:Nat} (ih:∀ d u,Dh K n d u=true→conK K d u):∀ (ds:List D) (us:List Value),vZ K n ds us=true→∃ vs,Vals vs us∧∀ α H,Reps K α H ds vs
 | [],[],_=>⟨[],.nil,λ _ _=>Reps.nil⟩
 | d::ds,u::us,h=>by
  unfold vZ at h
  rw[Bool.and_eq_true] at h
  obtain⟨v,r,rr⟩:=ih d u h.1
  obtain⟨vs,rz,rrz⟩:=Bh ih ds us h.2
  exact⟨v::vs,.cons r rz,λ α H=>Reps.cons (rr α H) (rrz α H)⟩
 | [],_::_,h=>by unfold vZ at h;cases h
 | _::_,[],h=>by unfold vZ at h;cases h
theorem Ew {K:W.Frag}:∀ (n:Nat) (d:D) (u:Value),Dh K n d u=true→conK K d u:=λ n=>by
 induction n with
 | zero=>
  intro d u h
  unfold Dh at h
  split at h
  ·exact⟨.non,rfl,λ _ _=>gB⟩
  ·cases beq_iff_eq.mp h;exact⟨.bl _,rfl,λ _ _=>cD⟩
  ·cases beq_iff_eq.mp h;exact⟨.int _,⟨_,rfl⟩,λ _ _=>bL⟩
  ·cases beq_iff_eq.mp h;exact⟨.str _,⟨_,rfl⟩,λ _ _=>iQ⟩
  ·rename_i n' ds a e;cases e
  ·cases h
 | succ n ih=>
  intro d u h
  unfold Dh at h
  split at h
  ·exact⟨.non,rfl,λ _ _=>gB⟩
  ·cases beq_iff_eq.mp h;exact⟨.bl _,rfl,λ _ _=>cD⟩
  ·cases beq_iff_eq.mp h;exact⟨.int _,⟨_,rfl⟩,λ _ _=>bL⟩
  ·cases beq_iff_eq.mp h;exact⟨.str _,⟨_,rfl⟩,λ _ _=>iQ⟩
  ·rename_i n' ds a e
   cases e
   split at h
   ·rename_i o ho
    split at h
    ·rename_i t us z hc hd
     rw[Bool.and_eq_true,Bool.and_eq_true] at h
     obtain⟨⟨h1,h2⟩,h3⟩:=h
     obtain⟨vs,rv,rr⟩:=Bh ih ds us.toList h3
     refine⟨.ref a,rfl,λ α H=>?_⟩
     unfold Rep
     exact⟨a,vs,rfl,.inr ⟨o,us,z,ho,by rw[hc,beq_iff_eq.mp h1],hd,Nat.le_trans (Nat.le_of_ble_eq_true h2) (by decide),rv⟩,rr α H⟩
    ·cases h
   ·cases h
  ·cases h
end L3
namespace K23
open PySem PySem.Spec L2 L3
theorem all_mk {l:W.OpenLaw}{w:World}{K:W.Frag}{h:Heap}{mg:Str→Option Value}{fa:Addr} (X:K.In h) (G:h.Ns mainGlobals mg) (hfa:mg "law"=some (.ref fa))
  {cC cF cN cP cB fN:Addr} (n1:W.nsIn K mainGlobals "CODES"=some (some (.ref cC))) (cc:Dh K 2 jR (.ref cC)=true) (n2:W.nsIn K mainGlobals "FIRST_CELLS"=some (some (.ref cF))) (cg:Dh K 2 cT (.ref cF)=true)
  (nN:W.nsIn K mainGlobals "NoCells"=some (some (.ref cN))) (nP:W.nsIn K mainGlobals "PartError"=some (some (.ref cP))) (nB:W.nsIn K mainGlobals "BadBase"=some (some (.ref cB)))
  (eN:ExC K cN cP) (eP:ExC K cP cP) (iN:ExI K cN fN "NoCells.__init__" dw) (xb:XBase K cP) (na:W.findIn K (.ref cN) "place"=some none) (k1:W.kitOne K (.ref cN) (.ref cN)=some true) (k2:W.kitOne K (.ref cN) (.ref cB)=some false)
  {t1 t2:Tok} (i1:W.nsIn K mainGlobals "GREATEST_NUMBER"=some (some (.int 2147483647 t1))) (i2:W.nsIn K mainGlobals "LAST_PLACE"=some (some (.int 65535 t2)))
  (z1:W.nsIn K mainGlobals "divmod"=some none) (z2:W.nsIn K mainGlobals "len"=some none) (z3:W.nsIn K mainGlobals "tuple"=some none) (z4:W.nsIn K mainGlobals "range"=some none) (z5:W.nsIn K mainGlobals "int"=some none) (z6:W.nsIn K mainGlobals "isinstance"=some none) (z7:W.nsIn K mainGlobals "list"=some none) (z8:W.nsIn K mainGlobals "bool"=some none)
  (d1:DefAt K mg "place_cells" fO) (d2:DefAt K mg "number_cells" eU) (d3:DefAt K mg "joined" oR) (d4:DefAt K mg "box_number" gK) (d5:DefAt K mg "code_for" jT) (d6:DefAt K mg "code_cells" gM) (d7:DefAt K mg "cells_of" jU) (d8:DefAt K mg "place_at" jV) (d9:DefAt K mg "number_at" jf) (Yw:DefAt K mg "step_at" mO) (Yx:DefAt K mg "boxes_in" jW) (Yy:DefAt K mg "code_from" jg) (Yz:DefAt K mg "told_behind" fP) (YB:DefAt K mg "read_code" jh) (YC:DefAt K mg "behind_list" fQ) (YD:DefAt K mg "read_numbers" eV) (YF:DefAt K mg "read_table" gO) (YG:DefAt K mg "_law_mixed" ji) (YH:DefAt K mg "_law_next" jX) (YJ:DefAt K mg "_law_source" gQ) (YK:DefAt K mg "_law_wide" jY) (YL:DefAt K mg "_law_signed" gR) (YM:DefAt K mg "_law_boxed" jj) (YQ:DefAt K mg "_law_kind" jZ) (YS:DefAt K mg "_law_code" j4) (YT:DefAt K mg "_law_list" j5) (YW:DefAt K mg "_law_said" j6) (YX:DefAt K mg "_law_right" jk) (YZ:DefAt K mg "_law_some" j7) (Y0:DefAt K mg "law" Jx) :
  ∃ fd:FuncData,(∀ (s:Shared) (v:Value),BindsTo s fd ⟨[v],[]⟩ [("_law_script",v)])∧∀ base:Heap,K.In base→base.Ns mainGlobals mg→FnOk l.prog w K mg base CX0 7 fa fd ["_law_script"] (lSp K (cl Et)):=by
 obtain⟨f,fd,F,m⟩:=id Y0
 have e:=hfa.symm.trans m
 cases e
 have Z:Zs mg:=⟨W.mg_none_of X G z1,W.mg_none_of X G z2,W.mg_none_of X G z3,W.mg_none_of X G z4,W.mg_none_of X G z5,W.mg_none_of X G z6,W.mg_none_of X G z7,W.mg_none_of X G z8,⟨_,W.mg_of X G i1⟩,⟨_,W.mg_of X G i2⟩⟩
 have n1:∃ u,mg "CODES"=some u∧conK K jR u:=⟨_,W.mg_of X G n1,Ew 2 _ _ cc⟩
 have n2:∃ u,mg "FIRST_CELLS"=some u∧conK K cT u:=⟨_,W.mg_of X G n2,Ew 2 _ _ cg⟩
 have nN:=W.mg_of X G nN
 have nP:=W.mg_of X G nP
 have nB:=W.mg_of X G nB
 have xf:XF K cP cN cB:=⟨eN.sub eP,eN.get,na,k1,k2⟩
 refine⟨fd,F.binds1 λ _ _ _ _ _ _ _=>rfl,λ base _ _=>?_⟩
 obtain⟨fdN,FN⟩:=iN.ex
 have rN:∀ j,RaiseOk l.prog w K mg base (j+1) "NoCells" cN ["place"]:=λ j=>⟨nN,fN,fdN,_,eN.mk_ iN,qP FN,sY (k:=j) FN xb nP eN.cls eN.obj λ g hg=>by simp at hg;subst hg;exact na⟩
 have h_place_cells:HasD l.prog w K mg base 1 "place_cells" ["place"] (cl vR):=iM (uy (k:=0) d1) CV tR
 have h_number_cells:HasD l.prog w K mg base 2 "number_cells" ["number"] (cl tQ):=iM (tu (k:=1) d2 Z (h_place_cells.up (by decide))) Aj qQ
 have h_joined:HasD l.prog w K mg base 1 "joined" ["lists"] (cl lV):=iM (Jw (k:=0) d3) uO Gp
 have h_box_number:HasD l.prog w K mg base 1 "box_number" ["boxes"] (cl Ej):=iM (wX (k:=0) d4) CW Tz
 have h_code_for:HasD l.prog w K mg base 1 "code_for" ["kind","near"] (cl j9):=iM (Cp (k:=0) d5 n1) qR Ak
 have h_code_cells:HasD l.prog w K mg base 3 "code_cells" ["row","at","near"] (cl cO):=iM (wZ (k:=2) d6 (h_code_for.up (by decide)) (h_box_number.up (by decide)) (h_number_cells.up (by decide)) (h_joined.up (by decide)) (h_place_cells.up (by decide))) ju uX
 have h_cells_of:HasD l.prog w K mg base 4 "cells_of" ["row","at","near"] (cl cO):=iM (Cr (k:=3) d7 Z (h_place_cells.up (by decide)) (h_joined.up (by decide)) (h_number_cells.up (by decide)) (h_code_cells.up (by decide))) ju Ax
 have h_place_at:HasD l.prog w K mg base 1 "place_at" ["cells","at"] (cl dz):=iM (Cu (k:=0) d8) qT Al
 have h_number_at:HasD l.prog w K mg base 2 "number_at" ["cells","at"] (cl dW):=iM (zJ (k:=1) d9 Z (h_place_at.up (by decide))) pW yp
 have h_step_at:HasD l.prog w K mg base 1 "step_at" ["cells","at"] (cl mQ):=iM (Gk (k:=0) Yw) tU Dc
 have h_boxes_in:HasD l.prog w K mg base 1 "boxes_in" ["number","count"] (cl bJ):=iM (Cw (k:=0) Yx) qU Am
 have h_code_from:HasD l.prog w K mg base 1 "code_from" ["cell"] (cl cW):=iM (zL (k:=0) Yy n1 n2) pX yr
 have h_told_behind:HasD l.prog w K mg base 3 "told_behind" ["code","cells","at"] (cl cA):=iM (uD (k:=2) Yz Z (h_number_at.up (by decide)) (h_step_at.up (by decide)) (h_place_at.up (by decide))) nZ tX
 have h_read_code:HasDX l.prog w K mg base 4 "read_code" ["cells","at"] (jt cN):=Ed (zM (k:=2) YB Z (rN 1) (h_code_from.up (by decide)) (h_boxes_in.up (by decide)) (h_told_behind.up (by decide))) pY yt
 have h_behind_list:HasDX l.prog w K mg base 3 "behind_list" ["cells","at","cells_for_one"] (lW cN):=Ed (uE (k:=1) YC Z (rN 0) (h_place_at.up (by decide))) uP Gr
 have h_read_numbers:HasDX l.prog w K mg base 4 "read_numbers" ["cells","at"] (eY cN):=Ed (tK (k:=3) YD Z (h_behind_list.up (by decide)) (h_number_at.up (by decide))) mW qW
 have h_read_table:HasDX l.prog w K mg base 4 "read_table" ["cells","at"] (gU cN):=Ed (w5 (k:=3) YF Z (h_behind_list.up (by decide)) (h_place_at.up (by decide))) o7 uQ
 have h_law_mixed:HasD l.prog w K mg base 1 "_law_mixed" ["_law_draw","_law_k"] (cl pF):=iM (zN (k:=0) YG) yx Km
 have h_law_next:HasD l.prog w K mg base 2 "_law_next" ["_law_source_here","_law_many"] n6:=RD (Cy (k:=1) YH (h_law_mixed.up (by decide))) Ay Oa
 have h_law_source:HasD l.prog w K mg base 1 "_law_source" ["_law_draw"] mq:=RD (xg (k:=0) YJ) uY GR
 have h_law_wide:HasD l.prog w K mg base 1 "_law_wide" ["_law_cells","_law_at","_law_many"] (cl eZ):=iM (Cz (k:=0) YK) yw Ka
 have h_law_signed:HasD l.prog w K mg base 1 "_law_signed" ["_law_number","_law_limit"] (cl dM):=iM (xq (k:=0) YL) uW GK
 have h_law_boxed:HasD l.prog w K mg base 1 "_law_boxed" ["_law_one"] (cl bA):=iM (zO (k:=0) YM) yu JV
 have h_law_kind:HasD l.prog w K mg base 2 "_law_kind" ["_law_one"] (cl qg):=iM (CG (k:=1) YQ (h_law_boxed.up (by decide))) Aq NP
 have h_law_code:HasD l.prog w K mg base 3 "_law_code" ["_law_cells","_law_at"] (cl iJ):=iM (CJ (k:=2) YS Z (h_law_kind.up (by decide)) (h_law_signed.up (by decide)) (h_law_wide.up (by decide))) qY Av
 have h_law_list:HasD l.prog w K mg base 2 "_law_list" ["_law_cells","_law_at","_law_size"] (cl ql):=iM (CK (k:=1) YT Z (h_law_wide.up (by decide)) (h_law_signed.up (by decide))) Aw N8
 have h_law_said:HasD l.prog w K mg base 5 "_law_said" ["_law_way","_law_cells","_law_at"] (cl uc):=iM (CN (k:=4) YW Z nP (h_read_code.up (by decide)) (h_read_numbers.up (by decide)) (h_read_table.up (by decide)) nN nB) Ba (Ob xf)
 have h_law_right:HasD l.prog w K mg base 6 "_law_right" ["_law_cells","_law_at"] (cl mV):=iM (zQ (k:=5) YX Z (h_law_list.up (by decide)) (h_law_code.up (by decide)) (h_law_said.up (by decide)) (h_cells_of.up (by decide))) yC Kq
 have h_law_some:HasD l.prog w K mg base 3 "_law_some" ["_law_source_here"] ug:=RD (CP (k:=2) YZ Z (h_law_next.up (by decide))) Bf Oe
 have hL:=Yh F b_law.2 c_law.2 sc_law (λ cdv A outer s H E hr=>V3 (P:=l.prog) (w:=w) (base:=base) (k:=6) Z (h_law_some.up (by decide)) (h_law_source.up (by decide)) (h_law_right.up (by decide)) fa cdv A outer s H E hr)
 exact hL.imp λ vs H Q E ⟨F,α,M,ds,o,r,n,q⟩=>⟨F,α,M,ds,o,r,n,Um _ _ q⟩
theorem tb0 {K:W.Frag}{H:Hp} (h:W.nsIn K mainGlobals "by_name"=some none):Tb K H:=λ x hx c P e=>by
 simp only [lams,List.mem_singleton] at hx
 subst hx
 unfold W.tabIn at e
 rw[h] at e
 cases e
theorem walk {l:W.OpenLaw}{q:Program}{loose:List Str}{XP:(Str→Option Value)→Heap→Prop}{YP:World→Heap→Prop}{d:DefRec}{K:Params→W.Frag} (hn:l.most=some 63) (hdf:d.params.defaults=[])
  (hY:∀ (w:World) (h:Heap),YP w h→(K w.params).In h) (nb:∀ w:World,W.nsIn (K w.params) mainGlobals "by_name"=some none)
  (F:∀ (w:World) (mg:Str→Option Value) (fa:Addr) (h:Heap),(K w.params).In h→h.Ns mainGlobals mg→mg d.name=some (.ref fa) →
   ∃ fd:FuncData,(∀ (s:Shared) (u:Value),BindsTo s fd ⟨[u],[]⟩ [("_law_script",u)])∧∀ base:Heap,(K w.params).In base→base.Ns mainGlobals mg→FnOk l.prog w (K w.params) mg base CX0 7 fa fd ["_law_script"] (lSp (K w.params) (cl Et))) :
  W.WalkO q loose XP YP l.row.toRowW d [] (λ f vs=>PySem.call f vs):=
 L2.walk_of (n:=63) (k:=7) (x:="_law_script") (CX:=λ _=>CX0) (sp:=λ w=>lSp (K w.params) (cl Et)) hn (by decide) hdf ⟨rfl,by decide,by decide⟩ hY F (λ w H a ns hl _ hS=>⟨[],[],[],[.scr ns],RG (tb0 (nb w)),by
  refine Reps.one ?_
  unfold Rep
  refine⟨a,rfl,?_⟩
  show SqL _ (hide ([]++[]) H) a _
  rw[List.append_nil]
  exact Cg Ce hS,rfl,ns,rfl,λ v α' H' e o r=>by unfold Rep at r;exact r⟩) λ _ _ _ _ _ z=>z
end K23
open PySem PySem.W PyProof.Rows
local macro_rules | `(tactic| walk_at "k_def") => `(tactic| (refine' L2.defAt_mk (by assumption) (by assumption) ?a ?l ?c ?k; (case a => k_is); (case l => k_is); (case c => k_is); (case k => k_is)))
local macro_rules | `(tactic| walk_at "k_kr") => `(tactic| first | k_is | kernel_rfl | rfl)
local macro_rules | `(tactic| walk_at "k_exc") => `(tactic| (refine' ⟨?e1, ?e2, ?e3, ?e4, ?e5, ?e6, ?e7, ?e8, ?e9, ?e10, ?e11, ?e12, ?e13, ?e14, L3.exc_oc ?e15 ?e16 ?e17 ?e18⟩; (case e1 => walk_at "k_kr"); (case e2 => unfold L2.XOver; kernel_rfl); (case e3 => walk_at "k_kr"); (case e4 => walk_at "k_kr"); (case e5 => walk_at "k_kr"); (case e6 => walk_at "k_kr"); (case e7 => walk_at "k_kr"); (case e8 => walk_at "k_kr"); (case e9 => walk_at "k_kr"); (case e10 => walk_at "k_kr"); (case e11 => walk_at "k_kr"); (case e12 => walk_at "k_kr"); (case e13 => walk_at "k_kr"); (case e14 => walk_at "k_kr"); (case e15 => k_is); (case e16 => walk_at "k_kr"); (case e17 => first | rfl | kernel_rfl | k_is); (case e18 => first | rfl | kernel_rfl | k_is)))
local macro_rules | `(tactic| walk_at "k_exi") => `(tactic| (refine' L3.exi_mk ?e1 ?e2 ?e3 ?e4 ?e5; (case e1 => k_is); (case e2 => k_is); (case e3 => k_is); (case e4 => k_is); (case e5 => k_is)))
namespace PySem.W.Fast
def tw13184841387145782020:=0
def tw1185616615804337766:=0
def tw13093197061506621579:=0
def tw10490399758978646743:=0
def tw4964019793795109499:=0
def tw18378635295853721243:=0
def tw10141273221486629627:=0
def tw14934593929665275867:=0
def tw3660115351984119580:=0
def tw104616303402644637:=0
def tw2078706490123117665:=0
def tw16336076147011960403:=0
def tw16504456860447658644:=0
def tw13814823789557513088:=0
def tw12060751352557549006:=0
def tw14348480680816100622:=0
def tw1040920611363790190:=0
def tw6239691693584994319:=0
def tw3305555509426834769:=0
def tw18054936675382018023:=0
def tw738733252680234814:=0
def tw16862222988959803856:=0
def tw1258595444538163751:=0
def tw2163313379979652408:=0
def tw9640592795370450772:=0
def tw17805112884660723845:=0
def tw13740165457721407964:=0
def tw2044951587484793298:=0
def tw18305068530994783122:=0
def tw232936703313498882:=0
def tw2383422132635662877:=0
def tw2930112897890307871:=0
def tw10219016628969514909:=0
def tw17885943887043425952:=0
def tw6591015661703017276:=0
def tw8346503670853431736:=0
def tw10218962395271502582:=0
def tw17697122022757461359:=0
def tw8921983527500661085:=0
def tw3060149844842445399:=0
def tw10250592745997843121:=0
def tw1728201139992470920:=0
def tw2324617376692237800:=0
def tw18068823461006073027:=0
def tw11427346042370221803:=0
def tw6508553987849258390:=0
def tw637712964138110109:=0
end PySem.W.Fast
set_option maxRecDepth 100000 in
set_option maxHeartbeats 0 in
theorem PySem.Challenge.cw_farjump_k23_any_cells_read_holds : PySem.Challenge.rw_farjump_k23_any_cells_read.Holds := by
 w_on;o_law;k_head;(case hw=>w_witness2)
 k_fill
 refine K23.walk (l:=PySem.Challenge.rw_farjump_k23_any_cells_read) rfl rfl (λ w h Y=>PySem.W.kIn_of Y) ?nb ?F
 case nb=>intro w;first | k_is | kernel_rfl | rfl
 case F=>
  intro w mg fa h KX G hmg
  refine' K23.all_mk KX G hmg ?n1 ?cc ?n2 ?cg ?nN ?nP ?nB ?eN ?eP ?iN ?xb ?na ?k1 ?k2 ?i1 ?i2 ?z1 ?z2 ?z3 ?z4 ?z5 ?z6 ?z7 ?z8 ?d1 ?d2 ?d3 ?d4 ?d5 ?d6 ?d7 ?d8 ?d9 ?Yw ?Yx ?Yy ?Yz ?YB ?YC ?YD ?YF ?YG ?YH ?YJ ?YK ?YL ?YM ?YQ ?YS ?YT ?YW ?YX ?YZ ?Y0
  (case n1=>k_is);(case n2=>k_is);(case nN=>k_is);(case nP=>k_is);(case nB=>k_is);(case i1=>k_is);(case i2=>k_is)
  (case z1=>k_is);(case z2=>k_is);(case z3=>k_is);(case z4=>k_is);(case z5=>k_is);(case z6=>k_is);(case z7=>k_is);(case z8=>k_is)
  (case d1=>walk_at "k_def");(case d2=>walk_at "k_def");(case d3=>walk_at "k_def");(case d4=>walk_at "k_def");(case d5=>walk_at "k_def");(case d6=>walk_at "k_def");(case d7=>walk_at "k_def");(case d8=>walk_at "k_def");(case d9=>walk_at "k_def");(case Yw=>walk_at "k_def");(case Yx=>walk_at "k_def");(case Yy=>walk_at "k_def");(case Yz=>walk_at "k_def");(case YB=>walk_at "k_def");(case YC=>walk_at "k_def");(case YD=>walk_at "k_def");(case YF=>walk_at "k_def");(case YG=>walk_at "k_def");(case YH=>walk_at "k_def");(case YJ=>walk_at "k_def");(case YK=>walk_at "k_def");(case YL=>walk_at "k_def");(case YM=>walk_at "k_def");(case YQ=>walk_at "k_def");(case YS=>walk_at "k_def");(case YT=>walk_at "k_def");(case YW=>walk_at "k_def");(case YX=>walk_at "k_def");(case YZ=>walk_at "k_def");(case Y0=>walk_at "k_def")
  (case cc=>kernel_rfl);(case cg=>kernel_rfl)
  (case iN=>walk_at "k_exi")
  (case eN=>walk_at "k_exc")
  (case eP=>walk_at "k_exc")
  (case xb=>refine' ⟨?x1,?x2,?x3⟩;(case x1=>walk_at "k_kr");(case x2=>walk_at "k_kr");(case x3=>walk_at "k_kr"))
  (case na=>walk_at "k_kr")
  (case k1=>first | rfl | kernel_rfl | k_is)
  (case k2=>first | rfl | kernel_rfl | k_is)
#print axioms PySem.Challenge.cw_farjump_k23_any_cells_read_holds
