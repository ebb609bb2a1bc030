import PyProof.Rows.All
import Wide.All
import OpenK.AllK
import Wide.FinOn
import Lean
import PyProof.EqAt
import PyProof.EqKinds
import PyProof.TupleCall
import KE.KSortTup
import KE.KPairComp
import PyProof.P3Eq
import PyProof.DictWalks
import PyProof.StationsW
import PyProof.ExcClass2
import KE.KIntText
import PyProof.CallStr
import PyProof.StrCalls2
import PyProof.StrLawsChain
import PyProof.StrLawsTight
import PyProof.Rows.ReprOcc
import PySem.Challenge.RW_farjump_k61_parts_written
set_option Elab.async false
set_option linter.all false
set_option maxRecDepth 100000
theorem zE1{A:Sort _}{p:A->Prop}{G:Prop}(h:∃a,p a)(k:∀a,p a->G):G:=h.elim k
theorem zE2{A:Sort _}{B:Sort _}{p:A->B->Prop}{G:Prop}(h:∃a b,p a b)(k:∀a b,p a b->G):G:=zE1 h λa h=>zE1 h (k a)
theorem zE3{A:Sort _}{B:Sort _}{C:Sort _}{p:A->B->C->Prop}{G:Prop}(h:∃a b c,p a b c)(k:∀a b c,p a b c->G):G:=zE1 h λa h=>zE2 h (k a)
theorem zE4{A:Sort _}{B:Sort _}{C:Sort _}{D:Sort _}{p:A->B->C->D->Prop}{G:Prop}(h:∃a b c d,p a b c d)(k:∀a b c d,p a b c d->G):G:=zE1 h λa h=>zE3 h (k a)
theorem zE5{A:Sort _}{B:Sort _}{C:Sort _}{D:Sort _}{E:Sort _}{p:A->B->C->D->E->Prop}{G:Prop}(h:∃a b c d e,p a b c d e)(k:∀a b c d e,p a b c d e->G):G:=zE1 h λa h=>zE4 h (k a)
theorem zE6{A:Sort _}{B:Sort _}{C:Sort _}{D:Sort _}{E:Sort _}{F:Sort _}{p:A->B->C->D->E->F->Prop}{G:Prop}(h:∃a b c d e f,p a b c d e f)(k:∀a b c d e f,p a b c d e f->G):G:=zE1 h λa h=>zE5 h (k a)
theorem zA2{p q G:Prop}(h:p/\q)(f:p->q->G):G:=f h.1 h.2
theorem zA3{p q r G:Prop}(h:p/\q/\r)(f:p->q->r->G):G:=zA2 h.2 (f h.1)
theorem zA4{p q r s G:Prop}(h:p/\q/\r/\s)(f:p->q->r->s->G):G:=zA3 h.2 (f h.1)
theorem zA5{p q r s t G:Prop}(h:p/\q/\r/\s/\t)(f:p->q->r->s->t->G):G:=zA4 h.2 (f h.1)
theorem zA6{p q r s t u G:Prop}(h:p/\q/\r/\s/\t/\u)(f:p->q->r->s->t->u->G):G:=zA5 h.2 (f h.1)
theorem zA7{p q r s t u v G:Prop}(h:p/\q/\r/\s/\t/\u/\v)(f:p->q->r->s->t->u->v->G):G:=zA6 h.2 (f h.1)
theorem zA8{p q r s t u v w G:Prop}(h:p/\q/\r/\s/\t/\u/\v/\w)(f:p->q->r->s->t->u->v->w->G):G:=zA7 h.2 (f h.1)
theorem zA9{p q r s t u v w x G:Prop}(h:p/\q/\r/\s/\t/\u/\v/\w/\x)(f:p->q->r->s->t->u->v->w->x->G):G:=zA8 h.2 (f h.1)
theorem zA10{p q r s t u v w x y G:Prop}(h:p/\q/\r/\s/\t/\u/\v/\w/\x/\y)(f:p->q->r->s->t->u->v->w->x->y->G):G:=zA9 h.2 (f h.1)
theorem zI2{A:Sort _}{B:Sort _}{p:A->B->Prop}(a:A)(b:B)(h:p a b):∃a b,p a b:=⟨a,b,h⟩
theorem zI3{A:Sort _}{B:Sort _}{C:Sort _}{p:A->B->C->Prop}(a:A)(b:B)(c:C)(h:p a b c):∃a b c,p a b c:=⟨a,b,c,h⟩
theorem zI4{A:Sort _}{B:Sort _}{C:Sort _}{D:Sort _}{p:A->B->C->D->Prop}(a:A)(b:B)(c:C)(d:D)(h:p a b c d):∃a b c d,p a b c d:=⟨a,b,c,d,h⟩
theorem zI5{A:Sort _}{B:Sort _}{C:Sort _}{D:Sort _}{E:Sort _}{p:A->B->C->D->E->Prop}(a:A)(b:B)(c:C)(d:D)(e:E)(h:p a b c d e):∃a b c d e,p a b c d e:=⟨a,b,c,d,e,h⟩
open Lean in
local macro_rules
|`(tactic|rcases $h:ident with ⟨$ps,*⟩)=>`(tactic|obtain ⟨$ps,*⟩:=$h)
|`(tactic|rintro $rs:rintroPat*)=>do
 let l:=rs[rs.size-1]!.raw[0]
 unless l.isOfKind ``Parser.Tactic.rcasesPat.tuple do Macro.throwUnsupported
 let p:TSyntax `rcasesPat:=⟨l⟩
 let z:=mkIdent (<-Macro.addMacroScope `zz)
 let r:=rs.pop
 if r.size==0 then `(tactic|(intro $z:ident;obtain $p:rcasesPat := $z)) else `(tactic|(rintro $r*;intro $z:ident;obtain $p:rcasesPat := $z))
|`(tactic|exact ⟨$es,*⟩)=>do if es.getElems.size<3 then Macro.throwUnsupported else `(tactic|refine ⟨$es,*⟩)
|`(tactic|refine ⟨$es,*⟩)=>do
 let es:=es.getElems
 let n:=es.size
 if n<3 then Macro.throwUnsupported
 let m:=min 5 (n-1)
 let mut al:Array (TSyntax `tactic):=#[]
 for z in [0:m-1] do
  let i:=m-z
  let r:=es[i:n].toArray
  let q<-if r.size==1 then pure r[0]! else `(⟨$r,*⟩)
  al:=al.push (<-`(tactic|refine $(mkIdent (.mkSimple s!"zI{i}")) $(es[0:i].toArray)* $q))
 `(tactic|first $[|$al:tactic]*)
|`(tactic|obtain ⟨$ps,*⟩:=$h:term)=>do
 let ps:=ps.getElems
 let n:=ps.size
 if n<2 then Macro.throwUnsupported
 let nw(s:String):MacroM Ident:=do return mkIdent (<-Macro.addMacroScope (.mkSimple s))
 unless h.raw.isIdent do
  let t<-nw "zz"
  return <-`(tactic|(have $t := $h;obtain ⟨$ps,*⟩:=$t))
 let h:Ident:=⟨h.raw⟩
 let mut bs:Array Ident:=#[]
 let mut mo:Array (Option (TSyntax `tactic)):=#[]
 let sh(q:Syntax):String:=(q.reprint.getD "").trimAscii.toString
 for i in [0:n] do
  let q:=ps[i]!.raw
  let o:=(q.find? λs=>s.isOfKind ``Parser.Tactic.rcasesPat.one).getD .missing
  if sh o==sh q&&sh q != "rfl" then
   bs:=bs.push ⟨o[0]⟩
   mo:=mo.push none
  else
   let x<-nw s!"x{i}"
   bs:=bs.push x
   if sh q=="_" then mo:=mo.push none
   else
    let p:TSyntax ``Parser.Tactic.rcasesPatMed:=⟨q[0]⟩
    mo:=mo.push (some (<-`(tactic|obtain $p:rcasesPatMed := $x)))
 let t<-nw "xx"
 let y<-nw "yy"
 let mut al:Array (TSyntax `tactic):=#[]
 let k:=((List.range n).find? λi=>((sh ps[i]!.raw).splitOn "rfl").length>1).getD n
 for (c,m) in [("zE",min 6 (n-1)),("zA",min 10 n-1)] do
  let m:=min m (k+1)
  for z in [0:m] do
   let i:=m-z
   let w:=i+1==n&&k+1>=n
   let mut ws:Array (TSyntax ``binderIdent):=#[]
   let mut hit:=false
   let mut g:Array Ident:=#[]
   for x in if w then bs else bs[0:i].toArray.push t do
    if x.getId==h.getId then
     hit:=true
     ws:=#[<-`(binderIdent|$x:ident)]
     g:=g.push y
    else
     if x.getId.hasMacroScopes then ws:=ws.push (<-`(binderIdent|_))
     g:=g.push x
   let mut s:Array (TSyntax `tactic):=#[<-`(tactic|refine $(mkIdent (.mkSimple s!"{c}{if c=="zE" then i else i+1}")) $h fun $g* => ?_),<-`(tactic|try clear $h)]
   if hit then s:=s.push (<-`(tactic|rename_i $ws*))
   for j in [0:if w then n else i] do
    if let some y:=mo[j]! then s:=s.push y
   unless w do
    let r:=ps[i:n].toArray
    if r.size==1 then
     s:=s++#[<-`(tactic|have $(bs[n-1]!) := $t),<-`(tactic|clear $t)]
     if let some y:=mo[n-1]! then s:=s.push y
    else s:=s.push (<-`(tactic|obtain ⟨$r,*⟩:=$t))
   al:=al.push (<-`(tactic|($[$s:tactic];*)))
 `(tactic|first $[|$al:tactic]*)
noncomputable section
namespace L2
open PySem PySem.Spec PyProof.Rows
abbrev Key := Sum Int Str
noncomputable def keyIs : Key → Value → Bool
  | .inl k, v => Value.isInt k v
  | .inr x, v => Value.isStrOf x v
noncomputable def keyH (w : World) : Key → Int
  | .inl k => hashInt k
  | .inr x => hashStr w x
theorem keyIs_shape : ∀ {k : Key} {v : Value}, keyIs k v = true → (∃ i t, k = Sum.inl i ∧ v = Value.int i t) ∨ (∃ x t, k = Sum.inr x ∧ v = Value.str x t)
  | .inl i, v, h => by
    obtain ⟨t, e⟩ := Value.isInt_shape (k := i) (v := v) h
    exact .inl ⟨i, t, rfl, e⟩
  | .inr x, v, h => by
    obtain ⟨t, e⟩ := Value.isStrOf_shape (x := x) (v := v) h
    exact .inr ⟨x, t, rfl, e⟩
theorem keyIs_int (i : Int) (t : Tok) : keyIs (.inl i) (.int i t) = true := by simp [keyIs, Value.isInt]
theorem keyIs_str (x : Str) (t : Tok) : keyIs (.inr x) (.str x t) = true := by simp [keyIs, Value.isStrOf]
theorem key_ll (a b : Int) : decide ((Sum.inl a : Key) = Sum.inl b) = (a == b) := by
  by_cases e : a = b
  · subst e; simp
  · have h : ¬ (Sum.inl a : Key) = Sum.inl b := fun q => e (Sum.inl.inj q)
    rw [decide_eq_false h]
    exact (beq_eq_false_iff_ne.mpr e).symm
theorem key_rr (a b : Str) : decide ((Sum.inr a : Key) = Sum.inr b) = decide (a = b) := by
  by_cases e : a = b
  · subst e; simp
  · have h : ¬ (Sum.inr a : Key) = Sum.inr b := fun q => e (Sum.inr.inj q)
    rw [decide_eq_false h, decide_eq_false e]
theorem key_lr (a : Int) (b : Str) : decide ((Sum.inl a : Key) = Sum.inr b) = false := decide_eq_false (fun q => nomatch q)
theorem key_rl (a : Str) (b : Int) : decide ((Sum.inr a : Key) = Sum.inl b) = false := decide_eq_false (fun q => nomatch q)
noncomputable def mixKind (prog : Program) (w : World) : PySem.KeyKind prog w Key where
  is := keyIs
  hash := keyH w
  inj := fun v a b ha hb => by
    rcases keyIs_shape ha with ⟨i, t, rfl, rfl⟩ | ⟨x, t, rfl, rfl⟩
    · rcases keyIs_shape hb with ⟨j, u, rfl, e⟩ | ⟨y, u, rfl, e⟩
      · injection e with e1 _; rw [e1]
      · exact nomatch e
    · rcases keyIs_shape hb with ⟨j, u, rfl, e⟩ | ⟨y, u, rfl, e⟩
      · exact nomatch e
      · injection e with e1 _; rw [e1]
  byValue := fun k v h => by
    rcases keyIs_shape h with ⟨i, t, rfl, rfl⟩ | ⟨x, t, rfl, rfl⟩ <;> rfl
  pyHash := fun hv h => by
    rcases keyIs_shape hv with ⟨i, t, rfl, rfl⟩ | ⟨x, t, rfl, rfl⟩
    · exact wpAny_pyHash_int h
    · exact wpAny_pyHash_str h
  eqBool := fun hu hv h => by
    rcases keyIs_shape hu with ⟨i, t, rfl, rfl⟩ | ⟨x, t, rfl, rfl⟩
    · rcases keyIs_shape hv with ⟨j, u, rfl, rfl⟩ | ⟨y, u, rfl, rfl⟩
      · rw [key_ll] at h; exact wpAny_eqBool_int h
      · rw [key_lr] at h; exact SeqAt.EqAt.int_str i t y u _ _ _ _ h
    · rcases keyIs_shape hv with ⟨j, u, rfl, rfl⟩ | ⟨y, u, rfl, rfl⟩
      · rw [key_rl] at h; exact SeqAt.EqAt.str_int x t j u _ _ _ _ h
      · rw [key_rr] at h; exact wpAny_eqBool_str h
  «strs» := fun k x t v h => by
    rcases keyIs_shape h with ⟨i, u, rfl, e⟩ | ⟨y, u, rfl, e⟩
    · exact nomatch e
    · injection e with e1 _
      subst e1
      cases v <;> rfl
theorem mixKind_int (prog : Program) (w : World) (i : Int) (t : Tok) : (mixKind prog w).is (.inl i) (.int i t) = true := keyIs_int i t
theorem mixKind_str (prog : Program) (w : World) (x : Str) (t : Tok) : (mixKind prog w).is (.inr x) (.str x t) = true := keyIs_str x t
end L2
namespace L2
open PySem PySem.Spec PyProof.Rows
inductive V where
  | non | bl (b : Bool) | int (i : Int) | str (x : Str) | byt (b : Array UInt8) | flt (b : UInt64) | ref (a : Addr) | ty (n : String)
  deriving DecidableEq
def RelV : V → Value → Prop
  | .non, u => u = Value.none
  | .bl b, u => u = Value.bool b
  | .int i, u => ∃ t, u = Value.int i t
  | .str x, u => ∃ t, u = Value.str x t
  | .byt b, u => ∃ t, u = Value.bytes b t
  | .flt b, u => ∃ t, u = Value.float b t
  | .ref a, u => u = Value.ref a
  | .ty n, u => u = Value.type n
abbrev Vals : List V → List Value → Prop := Paired RelV
theorem Vals.length {xs : List V} {us : List Value} (r : Vals xs us) : xs.length = us.length := Paired.length r
theorem Vals.get : ∀ {xs : List V} {us : List Value} {i : Nat} {x : V}, Vals xs us → xs[i]? = some x → ∃ u, us[i]? = some u ∧ RelV x u
  | _, _, _, _, .nil, e => by simp at e
  | _, _, 0, _, .cons r _, e => by simp at e; subst e; exact ⟨_, rfl, r⟩
  | _, _, i + 1, x, .cons _ t, e => by
    obtain ⟨u, h1, h2⟩ := Vals.get (i := i) (x := x) t (by simpa using e)
    exact ⟨u, by simpa using h1, h2⟩
theorem Vals.set {x : V} {u : Value} (r : RelV x u) : ∀ {xs : List V} {us : List Value} (i : Nat), Vals xs us → Vals (xs.set i x) (us.set i u)
  | _, _, _, .nil => .nil
  | _, _, 0, .cons _ t => .cons r t
  | _, _, i + 1, .cons q t => .cons q (Vals.set r i t)
theorem Vals.append : ∀ {xs ys : List V} {us ws : List Value}, Vals xs us → Vals ys ws → Vals (xs ++ ys) (us ++ ws)
  | _, _, _, _, .nil, s => s
  | _, _, _, _, .cons r t, s => .cons r (Vals.append t s)
theorem Vals.take : ∀ {xs : List V} {us : List Value} (n : Nat), Vals xs us → Vals (xs.take n) (us.take n)
  | _, _, 0, _ => .nil
  | _, _, _ + 1, .nil => .nil
  | _, _, n + 1, .cons r t => .cons r (Vals.take n t)
theorem Vals.drop : ∀ {xs : List V} {us : List Value} (n : Nat), Vals xs us → Vals (xs.drop n) (us.drop n)
  | _, _, 0, r => r
  | _, _, _ + 1, .nil => .nil
  | _, _, n + 1, .cons _ t => Vals.drop n t
def RelO : Option V → Option Value → Prop
  | some v, some u => RelV v u
  | none, none => True
  | _, _ => False
def KV {κ : Type} : List (κ × V) → List (κ × Value) → Prop := Paired fun (p : κ × V) (q : κ × Value) => p.1 = q.1 ∧ RelV p.2 q.2
noncomputable def kV : Key → V
  | .inl i => .int i
  | .inr x => .str x
inductive HO where
  /-- a list -/
  | lst (xs : List V)
  /-- a tuple (never changes) -/
  | tup (xs : List V)
  /-- a dict whose keys are ints and texts; one whose keys are tuples of ints and texts (the empty one is both) -/
  | dK (kvs : List (Key × V)) | dT (kvs : List (List Key × V))
  /-- a set of ints: its members, its size -/
  | set (S : Int → Bool) (n : Nat)
  /-- an instance of the class at C, its dict at dx, its attributes -/
  | ins (C dx : Addr) (fs : List (Str × V))
  /-- the dict of the instance at x -/
  | own (x : Addr)
  /-- the dict of an exception -/
  | xd (fs : List (Str × V))
  /-- a bound method, f of x -/
  | met (f x : Addr)
  /-- a range object lo, lo + 1, .. below hi -/
  | rng (lo hi : Int)
  /-- a thing that is known to the object (the script; a dict while a loop walks it): read, never written while it is so -/
  | frz (o : Obj) (u : HO)
  /-- a code object's table -/
  | tbl (ps : Array Value)
  | dE (ep : Nat) (kvs : List (Key × V))
  | xc (C : Addr) (fs : List (Str × V))
  /-- any other thing, by what is true of its one object (a def of one's own: SetO a S n := HO.ext fun h => ..) -/
  | ext (φ : Heap → Prop)
abbrev Hp := Addr → Option HO
noncomputable def upd (H : Hp) (a : Addr) (o : HO) : Hp := fun b => if b = a then some o else H b
theorem upd_same {H : Hp} {a : Addr} {o : HO} : upd H a o a = some o := by unfold upd; rw [if_pos rfl]
theorem upd_ne {H : Hp} {a b : Addr} {o : HO} (h : b ≠ a) : upd H a o b = H b := by unfold upd; rw [if_neg h]
theorem ne_of_none {H : Hp} {a b : Addr} {o : HO} (h : H a = some o) (h' : H b = none) : a ≠ b := by
  intro e; subst e; rw [h] at h'; cases h'
section
variable (P : Program) (w : World)
def ObjOk (H : Hp) (h : Heap) (a : Addr) : HO → Prop
  | .lst xs => xs.length ≤ sizeLine ∧ ∃ (its : List Value) (n : Nat), Vals xs its ∧ h.get? a = some { cls := .type "list", data := .seq its.toArray n }
  | .tup xs => xs.length ≤ sizeLine ∧ ∃ its : List Value, Vals xs its ∧ IsTup h a its.toArray
  | .dK kvs => kvs.length ≤ sizeLine ∧ (a == sysModules) = false ∧ ∃ vs, KV kvs vs ∧ h.DictOf (mixKind P w) a vs
  | .dT kvs => kvs.length ≤ sizeLine ∧ (a == sysModules) = false ∧ ∃ xs : List (List Key × Addr × Value),
      Paired (fun (p : List Key × V) (q : List Key × Addr × Value) => p.1 = q.1 ∧ H q.2.1 = some (.tup (p.1.map kV)) ∧ RelV p.2 q.2.2) kvs xs ∧
      ∃ o es ep, h.get? a = some o ∧ o.ExactDict ∧ o.data = .dict es ep ∧ es.toList = xs.map (entryOfKey (tupleKind (mixKind P w))) ∧ (xs.map (·.1)).Nodup
  | .set S n => h.SetOf (intKind P w) a S n
  | .ins C dx fs => H dx = some (.own a) ∧ fs.length ≤ 1000 ∧ dx ≠ a ∧ h.get? a = some (PySem.W.instObj C dx) ∧
      ∃ mA, h.Ns1 dx mA ∧ (∀ f, RelO (fs.lookup f) (mA f)) ∧ PySem.Within mA (fs.map (·.1))
  | .own _ => ∃ o, h.get? a = some o
  | .xd fs => ∃ mA, h.Ns1 a mA ∧ ∀ f, RelO (fs.lookup f) (mA f)
  | .rng lo hi => ∃ t u v, h.get? a = some { cls := .type "range", data := .fields #[.int lo t, .int hi u, .int 1 v] }
  | .frz o u => h.get? a = some o ∧ ObjOk H h a u
  | .tbl ps => h.get? a = some { cls := .none, data := .fields ps }
  | .dE ep kvs => kvs.length ≤ sizeLine ∧ (a == sysModules) = false ∧ ∃ vs, KV kvs vs ∧ h.DictAt (mixKind P w) a vs ep
  | .xc C fs => ∃ oe vs, h.get? a = some oe ∧ oe.cls = .ref C ∧ oe.data = .fields vs ∧ ((oe.dict = none ∧ fs = []) ∨ ∃ dx mA, oe.dict = some dx ∧ dx ≠ a ∧ H dx = some (.own a) ∧ h.Ns1 dx mA ∧ ∀ f, RelO (fs.lookup f) (mA f))
  | .met f x => h.get? a = some (PySem.W.methodObj (.ref f) (.ref x))
  | .ext φ => φ h ∧ (∃ o, h.get? a = some o) ∧ ∀ h1 h2 : Heap, φ h1 → (∀ o, h1.get? a = some o → h2.get? a = some o) → φ h2
def HOk (H : Hp) (h : Heap) : Prop := ∀ a o, H a = some o → ObjOk P w H h a o
end
section
variable {P : Program} {w : World} {H H' : Hp} {h h' : Heap} {a : Addr} {o : HO}
theorem ObjOk.lt (x : ObjOk P w H h a o) : a < h.objs.size := by
  cases o with
  | lst xs => obtain ⟨_, _, _, _, e⟩ := x; exact Heap.lt_size e
  | tup xs => obtain ⟨_, _, _, p⟩ := x; exact p.lt
  | dK kvs => obtain ⟨_, _, _, _, o, _, _, e, _⟩ := x; exact Heap.lt_size e
  | dT kvs => obtain ⟨_, _, _, _, o, _, _, e, _⟩ := x; exact Heap.lt_size e
  | set S n => obtain ⟨o, _, _, _, e, _⟩ := x; exact Heap.lt_size e
  | ins C dx fs => obtain ⟨_, _, _, e, _⟩ := x; exact Heap.lt_size e
  | own y => obtain ⟨_, e⟩ := x; exact Heap.lt_size e
  | xd fs => obtain ⟨_, ⟨_, _, _, e, _⟩, _⟩ := x; exact Heap.lt_size e
  | rng lo hi => obtain ⟨_, _, _, e⟩ := x; exact Heap.lt_size e
  | frz ob u => obtain ⟨e, _⟩ := x; exact Heap.lt_size e
  | tbl ps => exact Heap.lt_size (show h.get? a = some _ from x)
  | dE ep kvs => obtain ⟨_, _, _, _, o, _, e, _⟩ := x; exact Heap.lt_size e
  | xc C fs => obtain ⟨_, _, e, _⟩ := x; exact Heap.lt_size e
  | met f y => exact Heap.lt_size (show h.get? a = some _ from x)
  | ext φ => obtain ⟨_, ⟨_, e⟩, _⟩ := x; exact Heap.lt_size e
theorem Paired.mapP {α β : Type} {F G : α → β → Prop} : ∀ {l₁ : List α} {l₂ : List β}, Paired F l₁ l₂ → (∀ a b, F a b → G a b) → Paired G l₁ l₂
  | _, _, .nil, _ => .nil
  | _, _, .cons r t, f => .cons (f _ _ r) (Paired.mapP t f)
theorem ObjOk.stay (x : ObjOk P w H h a o) (k : ∀ b u, (b = a ∨ H b = some (.own a)) → h.get? b = some u → h'.get? b = some u)
    (ho : ∀ b, H b = some (.own a) → H' b = some (.own a)) (ht : ∀ b xs, H b = some (.tup xs) → H' b = some (.tup xs)) : ObjOk P w H' h' a o := by
  induction o with
  | lst xs => obtain ⟨z, its, n, r, e⟩ := x; exact ⟨z, its, n, r, k _ _ (.inl rfl) e⟩
  | tup xs => obtain ⟨z, its, r, ob, e, c⟩ := x; exact ⟨z, its, r, ob, k _ _ (.inl rfl) e, c⟩
  | dK kvs => obtain ⟨z, y, vs, r, ob, es, ep, e, c⟩ := x; exact ⟨z, y, vs, r, ob, es, ep, k _ _ (.inl rfl) e, c⟩
  | dT kvs =>
    obtain ⟨z, y, xs, r, ob, es, ep, e, c⟩ := x
    exact ⟨z, y, xs, Paired.mapP r fun p q z => ⟨z.1, ht _ _ z.2.1, z.2.2⟩, ob, es, ep, k _ _ (.inl rfl) e, c⟩
  | set S n => obtain ⟨ob, es, ep, t, e, c⟩ := x; exact ⟨ob, es, ep, t, k _ _ (.inl rfl) e, c⟩
  | ins C dx fs =>
    obtain ⟨d, z, ne, e, mA, ⟨od, es, ep, e2, c⟩, r⟩ := x
    exact ⟨ho _ d, z, ne, k _ _ (.inl rfl) e, mA, ⟨od, es, ep, k _ _ (.inr d) e2, c⟩, r⟩
  | own y => obtain ⟨ob, e⟩ := x; exact ⟨ob, k _ _ (.inl rfl) e⟩
  | xd fs => obtain ⟨mA, ⟨od, es, ep, e, c⟩, r⟩ := x; exact ⟨mA, ⟨od, es, ep, k _ _ (.inl rfl) e, c⟩, r⟩
  | rng lo hi => obtain ⟨t, u, v, e⟩ := x; exact ⟨t, u, v, k _ _ (.inl rfl) e⟩
  | frz ob u ih => obtain ⟨e, q⟩ := x; exact ⟨k _ _ (.inl rfl) e, ih q⟩
  | dE ep kvs => obtain ⟨z, y, vs, r, ob, es, e, c⟩ := x; exact ⟨z, y, vs, r, ob, es, k _ _ (.inl rfl) e, c⟩
  | xc C fs =>
    obtain ⟨oe, vs, e, c1, c2, c3⟩ := x
    refine ⟨oe, vs, k _ _ (.inl rfl) e, c1, c2, ?_⟩
    rcases c3 with c3 | ⟨dx, mA, d1, d2, d3, ⟨od, es, ep, e2, c⟩, d5⟩
    · exact .inl c3
    · exact .inr ⟨dx, mA, d1, d2, ho _ d3, ⟨od, es, ep, k _ _ (.inr d3) e2, c⟩, d5⟩
  | tbl ps =>
    have e : h.get? a = some { cls := .none, data := .fields ps } := x
    show h'.get? a = some { cls := .none, data := .fields ps }
    exact k a _ (.inl rfl) e
  | met f y =>
    have e : h.get? a = some (PySem.W.methodObj (.ref f) (.ref y)) := x
    show h'.get? a = some (PySem.W.methodObj (.ref f) (.ref y))
    exact k a _ (.inl rfl) e
  | ext φ => obtain ⟨p, ⟨o, e⟩, st⟩ := x; exact ⟨st _ _ p fun o q => k _ _ (.inl rfl) q, ⟨o, k _ _ (.inl rfl) e⟩, st⟩
theorem HOk.lt (x : HOk P w H h) (e : H a = some o) : a < h.objs.size := (x a o e).lt
theorem HOk.fresh (x : HOk P w H h) (e : h.objs.size ≤ a) : H a = none := by
  cases q : H a with
  | none => rfl
  | some u => exact absurd (Nat.lt_of_lt_of_le (x.lt q) e) (Nat.lt_irrefl _)
theorem HOk.kept (x : HOk P w H h) (k : ∀ b u, h.get? b = some u → h'.get? b = some u) : HOk P w H h' := fun a o e =>
  (x a o e).stay (fun b u _ q => k b u q) (fun _ q => q) fun _ _ q => q
theorem HOk.laid (x : HOk P w H h) (k : ∀ b u, h.get? b = some u → h'.get? b = some u) (hp : h.objs.size ≤ a) (new : ObjOk P w (upd H a o) h' a o) : HOk P w (upd H a o) h' := fun b u e => by
  have hn := x.fresh hp
  by_cases hb : b = a
  · subst hb; rw [upd_same] at e; cases e; exact new
  · rw [upd_ne hb] at e
    exact (x b u e).stay (fun c v _ q => k c v q) (fun c q => by rw [upd_ne (ne_of_none q hn)]; exact q) fun c xs q => by rw [upd_ne (ne_of_none q hn)]; exact q
end
def Rd (H : Hp) (a : Addr) (u : HO) : Prop := H a = some u ∨ ∃ o, H a = some (.frz o u)
theorem Rd.ok {P : Program} {w : World} {H : Hp} {h : Heap} {a : Addr} {u : HO} (r : Rd H a u) (x : HOk P w H h) : ObjOk P w H h a u := by
  rcases r with r | ⟨o, r⟩
  · exact x a u r
  · obtain ⟨_, q⟩ := x a _ r
    exact q
def Mut : Option HO → Prop
  | some (.lst _) => True
  | some (.dK _) => True
  | some (.dT _) => True
  | some (.set _ _) => True
  | some (.ins _ _ _) => True
  | some (.ext _) => True
  | some (.dE _ _) => True
  | _ => False
section
variable {P : Program} {w : World} {H : Hp} {h h' : Heap} {x e : Addr} {o' : HO}
theorem HOk.write (ok : HOk P w H h) (mu : Mut (H x)) (he : e = x ∨ H e = some (.own x)) (k : ∀ b u, b ≠ e → h.get? b = some u → h'.get? b = some u) (heo : ∃ u, h'.get? e = some u)
    (new : ObjOk P w (upd H x o') h' x o') : HOk P w (upd H x o') h' := fun b u q => by
  have nown : ∀ c y, H c = some (.own y) → c ≠ x := fun c y r z => by subst z; rw [r] at mu; exact mu
  have ntup : ∀ c xs, H c = some (.tup xs) → c ≠ x := fun c xs r z => by subst z; rw [r] at mu; exact mu
  by_cases hb : b = x
  · subst hb; rw [upd_same] at q; cases q; exact new
  · rw [upd_ne hb] at q
    by_cases hbe : b = e
    · have q' : H b = some (.own x) := by
        rcases he with z | z
        · exact absurd (hbe.trans z) hb
        · rw [hbe]; exact z
      rw [q] at q'; cases q'
      obtain ⟨v, hv⟩ := heo
      exact ⟨v, by rw [hbe]; exact hv⟩
    · refine (ok b u q).stay (fun c v hc r => k c v ?_ r) (fun c r => by rw [upd_ne (nown c b r)]; exact r) fun c xs r => by rw [upd_ne (ntup c xs r)]; exact r
      rcases hc with rfl | hc
      · exact hbe
      · rintro rfl
        rcases he with z | z
        · exact nown c b hc z
        · rw [hc] at z; cases z; exact hb rfl
end
structure Un (fs ex : List Addr) (H H' : Hp) (h h' : Heap) : Prop where
  keep : ∀ b o, h.get? b = some o → H b = none → b ∉ fs → b ∉ ex → h'.get? b = some o
  slot : ∀ b o, h.get? b = some o → H b = none → b ∈ fs → b ∉ ex → ∃ sl, h'.get? b = some { o with slots := sl }
  free : ∀ b o, h.get? b = some o → H b = none → b ∉ ex → H' b = none
  there : ∀ b o, h.get? b = some o → b ∉ ex → ∃ o', h'.get? b = some o'
  tups : ∀ b xs, H b = some (.tup xs) → H' b = some (.tup xs)
  frzs : ∀ b o u, H b = some (.frz o u) → H' b = some (.frz o u)
  tbls : ∀ b ps, H b = some (.tbl ps) → ∃ more, H' b = some (.tbl (ps ++ more))
section
variable {fs fs' ex ex' : List Addr} {H H1 H2 : Hp} {h h1 h2 h' : Heap} {a x e : Addr} {o : HO}
theorem Un.any (u : Un fs ex H H1 h h1) {b : Addr} {ob : Obj} (q : h.get? b = some ob) (n : H b = none) (hx : b ∉ ex) : ∃ sl, h1.get? b = some { ob with slots := sl } := by
  by_cases hb : b ∈ fs
  · exact u.slot b ob q n hb hx
  · exact ⟨ob.slots, u.keep b ob q n hb hx⟩
theorem Un.kept (k : ∀ b u, h.get? b = some u → h'.get? b = some u) : Un fs ex H H h h' :=
  ⟨fun b ob q _ _ _ => k b ob q, fun b ob q _ _ _ => ⟨ob.slots, k b ob q⟩, fun _ _ _ n _ => n, fun b ob q _ => ⟨ob, k b ob q⟩, fun _ _ q => q, fun _ _ _ q => q, fun _ ps q => ⟨#[], by rw [q]; simp⟩⟩
theorem Un.refl : Un fs ex H H h h := Un.kept fun _ _ q => q
theorem Un.laid (k : ∀ b u, h.get? b = some u → h'.get? b = some u) (hp : h.objs.size ≤ a) (hn : H a = none) : Un fs ex H (upd H a o) h h' where
  keep := fun b u q _ _ _ => k b u q
  slot := fun b u q _ _ _ => ⟨u.slots, k b u q⟩
  free := fun b u q n _ => by rw [upd_ne (Nat.ne_of_lt (Nat.lt_of_lt_of_le (Heap.lt_size q) hp))]; exact n
  there := fun b u q _ => ⟨u, k b u q⟩
  tups := fun b xs q => by rw [upd_ne (ne_of_none q hn)]; exact q
  frzs := fun b u xs q => by rw [upd_ne (ne_of_none q hn)]; exact q
  tbls := fun b ps q => ⟨#[], by rw [upd_ne (ne_of_none q hn), q]; simp⟩
theorem Un.write (mu : Mut (H x)) (he : e = x ∨ H e = some (.own x)) (k : ∀ b u, b ≠ e → h.get? b = some u → h'.get? b = some u) (heo : ∃ u, h'.get? e = some u) : Un fs ex H (upd H x o) h h' := by
  have hx : ∀ b, H b = none → b ≠ x := fun b n z => by subst z; rw [n] at mu; exact mu
  have hb : ∀ b, H b = none → b ≠ e := fun b n z => by
    subst z
    rcases he with r | r
    · exact hx b n r
    · rw [n] at r; cases r
  have hm : ∀ b u, H b = some u → ¬ Mut (some u) → b ≠ x := fun b u q nm z => by subst z; rw [q] at mu; exact nm mu
  refine ⟨fun b u q n _ _ => k b u (hb b n) q, fun b u q n _ _ => ⟨u.slots, k b u (hb b n) q⟩, fun b u q n _ => by rw [upd_ne (hx b n)]; exact n, fun b u q _ => ?_,
    fun b xs q => by rw [upd_ne (hm b _ q fun z => z)]; exact q, fun b u xs q => by rw [upd_ne (hm b _ q fun z => z)]; exact q, fun b ps q => ⟨#[], by rw [upd_ne (hm b _ q fun z => z), q]; simp⟩⟩
  by_cases hbe : b = e
  · subst hbe; exact heo
  · exact ⟨u, k b u hbe q⟩
end
noncomputable def trk (h : Heap) (H : Hp) : List Addr := (List.range h.objs.size).filter fun a => (H a).isSome
noncomputable def hidT (h : Heap) (H : Hp) : Heap := PySem.W.hideAll h (trk h H)
theorem hidT_size (h : Heap) (H : Hp) : (hidT h H).objs.size = h.objs.size := PySem.W.hideAll_size _ _
theorem hidT_get {h : Heap} {H : Hp} {b : Addr} {o : Obj} (e : h.get? b = some o) (n : H b = none) : (hidT h H).get? b = some o :=
  PySem.W.hideAll_get _ e fun hm => by
    have q : (H b).isSome = true := (List.mem_filter.mp hm).2
    rw [n] at q; simp at q
theorem of_hidT {h : Heap} {H : Hp} {b : Addr} {o : Obj} (e : (hidT h H).get? b = some o) : h.get? b = some o ∧ H b = none := by
  have e' : h.get? b = some o := PySem.W.of_hideAll (trk h H) e
  refine ⟨e', ?_⟩
  cases q : H b with
  | none => rfl
  | some x =>
    have hm : b ∈ trk h H := List.mem_filter.mpr ⟨List.mem_range.mpr (Heap.lt_size e'), by simp [q]⟩
    have z : (hidT h H).get? b = none := PySem.W.hideAll_none (trk h H) hm
    rw [z] at e; cases e
noncomputable def allNews (g h : Heap) (L : Addr) : List (Addr × Obj) := (List.range h.objs.size).filterMap fun a => if a = L ∨ (g.get? a).isSome = true then none else (h.get? a).map fun o => (a, o)
noncomputable def rest (g h : Heap) (L d : Addr) : List (Addr × Obj) := (allNews g h L).filter fun p => decide (p.1 ≠ d)
end L2
namespace L2
open PySem PySem.Spec PyProof.Rows
structure Mod (K : PySem.W.Frag) (mg : Str → Option Value) (base : Heap) : Prop where
  kin : K.In base
  glob : base.Ns mainGlobals mg
  blt : ∃ mb, base.Ns builtinsNs mb ∧ ∀ x : Str, x ≠ "__name__" → mb x = bootBuiltins x
  nolimit : base.NoLimit
structure Cx where
  prog : Program
  w : World
  K : PySem.W.Frag
  mg : Str → Option Value
  base : Heap
  A : Around
  N : List Str
  s₀ : Shared
  H₀ : Hp
  env : Env
  outer : List Env
  stack : List Env
  ex : List Addr
  fn : Str → Bool
  calm : Bool
  pn : List (Addr × Obj)
  xe : Value → Shared → Prop
noncomputable def frs (l : List Env) : List Addr := l.filterMap (·.frame)
abbrev Cx.fs (X : Cx) : List Addr := frs X.outer
def Vis (sc : Scope) (x : Str) : Prop := sc.names.lookup x = some .local ∨ sc.names.lookup x = some .cell ∨ sc.names.lookup x = some .free
def Loc (sc : Scope) (x : Str) : Prop := sc.names.lookup x = some .local ∨ sc.names.lookup x = some .cell
def Look (env : Env) (h : Heap) (m : Str → Option Value) (x : Str) (u : Value) : Prop :=
  (env.kindOf x = some .local ∧ m x = some u) ∨ ((env.kindOf x = some .cell ∨ env.kindOf x = some .free) ∧ ∃ c, env.cells.lookup x = some c ∧ h.IsCell c (some u))
structure Cx.Ok (X : Cx) : Prop where
  mod : Mod X.K X.mg X.base
  kind : X.env.scope.kind = .function
  glob : X.env.globals = mainGlobals
  blt : X.env.builtins = builtinsNs
  above : X.s₀.heap.objs.size ≤ X.env.locals
  inj : ∀ x y c, X.env.cells.lookup x = some c → X.env.cells.lookup y = some c → x = y
  has : ∀ x, (X.env.kindOf x = some .cell ∨ X.env.kindOf x = some .free) → ∃ c, X.env.cells.lookup x = some c
  cab : ∀ x c, X.fn x = true → X.env.cells.lookup x = some c → X.s₀.heap.objs.size ≤ c
  hd : X.calm = true → X.A.handled = none
  frames : X.A.frames = some X.stack
  stk : X.stack = X.outer ∨ (X.stack = X.env :: X.outer ∧ X.env.frame = some X.env.locals)
  exf : ∀ b ∈ X.ex, b ≠ X.env.locals ∧ ∀ x c, X.env.cells.lookup x = some c → c ≠ b
  bs : ∀ b o, X.base.get? b = some o → X.s₀.heap.get? b = some o ∧ X.H₀ b = none
  bsz : X.base.objs.size ≤ X.s₀.heap.objs.size
  noex : ∀ b o, X.base.get? b = some o → b ∉ X.ex
  exfs : ∀ b ∈ X.ex, b ∉ X.fs
  funs : X.s₀.heap.FunFrames X.base X.outer
  frf : ∀ b ∈ X.fs, X.H₀ b = none
structure Inv (X : Cx) (pins : List (Addr × Obj)) (σ : List (Option V)) (H : Hp) (s : Shared) : Prop where
  ok : X.Ok
  os : s.os = X.s₀.os
  bare : AllBare s.gens
  base : Un X.fs X.ex X.H₀ H X.s₀.heap s.heap
  loc : ∃ m, s.heap.Ns X.env.locals m ∧ ∀ (i : Nat) (x : Str) (v : V), X.N[i]? = some x → σ[i]? = some (some v) → Vis X.env.scope x → ∃ u, RelV v u ∧ Look X.env s.heap m x u
  cell : ∀ x c, X.env.cells.lookup x = some c → ∃ v, s.heap.IsCell c v
  free : H X.env.locals = none
  freeC : ∀ x c, X.env.cells.lookup x = some c → H c = none
  pin : ∀ p ∈ X.pn ++ pins, s.heap.get? p.1 = some p.2 ∧ H p.1 = none ∧ p.1 ≠ X.env.locals ∧ p.1 ∉ X.fs ∧ ∀ v, p.2.data ≠ .cell v
  hok : HOk X.prog X.w H s.heap
  len : σ.length = X.N.length
section
variable {X : Cx} {pins : List (Addr × Obj)} {σ : List (Option V)} {H H' : Hp} {s : Shared} {h' : Heap}
theorem Cx.Ok.nofr (ok : X.Ok) {b : Addr} {o : Obj} (e : X.base.get? b = some o) : b ∉ X.fs := fun hb => by
  have := (ok.funs.mem hb).1
  rw [e] at this; cases this
theorem Inv.bs (I : Inv X pins σ H s) : ∀ b o, X.base.get? b = some o → s.heap.get? b = some o ∧ H b = none := fun b o e =>
  ⟨I.base.keep b o (I.ok.bs b o e).1 (I.ok.bs b o e).2 (I.ok.nofr e) (I.ok.noex b o e), I.base.free b o (I.ok.bs b o e).1 (I.ok.bs b o e).2 (I.ok.noex b o e)⟩
theorem Inv.bk (I : Inv X pins σ H s) : ∀ b o, X.base.get? b = some o → s.heap.get? b = some o := fun b o e => (I.bs b o e).1
theorem Inv.mod (I : Inv X pins σ H s) : Mod X.K X.mg X.base := I.ok.mod
theorem Inv.kIn (I : Inv X pins σ H s) : X.K.In s.heap := I.ok.mod.kin.keeps I.bk
theorem Inv.lt (I : Inv X pins σ H s) : X.env.locals < s.heap.objs.size := let ⟨_, hn, _⟩ := I.loc; hn.lt
theorem Inv.sz (I : Inv X pins σ H s) : X.s₀.heap.objs.size ≤ s.heap.objs.size := Nat.le_trans I.ok.above (Nat.le_of_lt I.lt)
theorem Inv.nofs (I : Inv X pins σ H s) {a : Addr} (h : s.heap.objs.size ≤ a) : a ∉ X.fs := fun hb => by
  obtain ⟨_, o, ho, _⟩ := I.ok.funs.mem hb
  exact absurd (Nat.lt_of_lt_of_le (Heap.lt_size ho) (Nat.le_trans I.sz h)) (Nat.lt_irrefl _)
theorem Inv.cne (I : Inv X pins σ H s) : ∀ x c, X.env.cells.lookup x = some c → c ≠ X.env.locals := fun x c e z => by
  obtain ⟨v, o, ho, hd⟩ := I.cell x c e
  obtain ⟨m, ⟨o', es, ep, ho', hd', _⟩, _⟩ := I.loc
  rw [z, ho'] at ho; cases ho; rw [hd'] at hd; cases hd
theorem Inv.funs (I : Inv X pins σ H s) : s.heap.FunFrames X.base X.outer := by
  have all : ∀ (l : List Env), (∀ b ∈ frs l, b ∈ X.fs) → X.s₀.heap.FunFrames X.base l → s.heap.FunFrames X.base l := by
    intro l
    induction l with
    | nil => intro _ _; trivial
    | cons env r ih =>
      intro hs hl
      obtain ⟨hk, ⟨L, o, hf, hn, ho, hd⟩, hr⟩ := hl
      have hL : L ∈ X.fs := hs L (by unfold frs; rw [List.filterMap_cons, hf]; exact List.mem_cons_self)
      obtain ⟨sl, e⟩ := I.base.slot L o ho (I.ok.frf L hL) hL fun z => I.ok.exfs L z hL
      exact ⟨hk, ⟨L, _, hf, hn, e, hd⟩, ih (fun b hb => hs b (by unfold frs; rw [List.filterMap_cons, hf]; exact List.mem_cons_of_mem _ hb)) hr⟩
  exact all X.outer (fun _ hb => hb) I.ok.funs
theorem Inv.stack (I : Inv X pins σ H s) : s.heap.FunFrames X.base X.stack := by
  rcases I.ok.stk with e | ⟨e, hf⟩
  · rw [e]; exact I.funs
  · rw [e]
    obtain ⟨m, hn, _⟩ := I.loc
    refine .cons (by rw [I.ok.kind]; decide) hf hn ?_ I.funs
    exact Heap.get?_none_of_le (Nat.le_trans I.ok.bsz I.ok.above)
theorem Inv.stkSub (I : Inv X pins σ H s) : ∀ b ∈ frs X.stack, b ∈ X.env.locals :: X.fs := fun b hb => by
  rcases I.ok.stk with e | ⟨e, hf⟩
  · rw [e] at hb; exact List.mem_cons_of_mem _ hb
  · rw [e] at hb
    unfold frs at hb
    rw [List.filterMap_cons, hf] at hb
    exact hb
theorem Inv.stkFree (I : Inv X pins σ H s) : ∀ b ∈ frs X.stack, H b = none := fun b hb => by
  rcases List.mem_cons.mp (I.stkSub b hb) with e | hb
  · rw [e]; exact I.free
  · obtain ⟨_, o, ho, _⟩ := I.ok.funs.mem hb
    exact I.base.free b o ho (I.ok.frf b hb) fun z => I.ok.exfs b z hb
theorem Inv.step {g' : Array GenState} {t' : Nat} {d' : Drawn} {ch : List Addr} (I : Inv X pins σ H s)
    (hch : ∀ b ∈ ch, (b ∈ X.ex ∨ X.s₀.heap.objs.size ≤ b) ∧ b ≠ X.env.locals ∧ (∀ x c, X.env.cells.lookup x = some c → c ≠ b) ∧ ∀ p ∈ X.pn ++ pins, p.1 ≠ b)
    (keep : ∀ b o, b ≠ X.env.locals → b ∉ X.fs → b ∉ ch → s.heap.get? b = some o → H b = none → h'.get? b = some o)
    (slot : ∀ b o, b ≠ X.env.locals → b ∈ X.fs → b ∉ ch → s.heap.get? b = some o → H b = none → ∃ sl, h'.get? b = some { o with slots := sl }) (free : ∀ b o, b ∉ ch → s.heap.get? b = some o → H b = none → H' b = none)
    (there : ∀ b o, b ∉ ch → s.heap.get? b = some o → ∃ o', h'.get? b = some o')
    (tups : ∀ b xs, H b = some (.tup xs) → H' b = some (.tup xs)) (frzs : ∀ b o u, H b = some (.frz o u) → H' b = some (.frz o u)) (tbls : ∀ b ps, H b = some (.tbl ps) → ∃ more, H' b = some (.tbl (ps ++ more)))
    (ns : ∀ m, s.heap.Ns X.env.locals m → h'.Ns X.env.locals m) (hok : HOk X.prog X.w H' h') (hg : AllBare g') :
    Inv X pins σ H' { s with heap := h', gens := g', drawn := d', toks := t' } := by
  have neL : ∀ b o, X.s₀.heap.get? b = some o → b ≠ X.env.locals := fun b o e => Nat.ne_of_lt (Nat.lt_of_lt_of_le (Heap.lt_size e) I.ok.above)
  have neC : ∀ b o, X.s₀.heap.get? b = some o → b ∉ X.ex → b ∉ ch := fun b o e hx hb => by
    rcases (hch b hb).1 with z | z
    · exact hx z
    · exact absurd (Nat.lt_of_lt_of_le (Heap.lt_size e) z) (Nat.lt_irrefl _)
  have cellK : ∀ x c, X.env.cells.lookup x = some c → ∀ v, s.heap.IsCell c v → h'.IsCell c v := fun x c e v ⟨o, ho, hd⟩ => by
    have nch : c ∉ ch := fun z => (hch c z).2.2.1 x c e rfl
    by_cases hc : c ∈ X.fs
    · obtain ⟨sl, q⟩ := slot c o (I.cne x c e) hc nch ho (I.freeC x c e)
      exact ⟨_, q, hd⟩
    · exact ⟨o, keep c o (I.cne x c e) hc nch ho (I.freeC x c e), hd⟩
  refine ⟨I.ok, I.os, hg, ⟨fun b o e n hb hx => ?_, fun b o e n hb hx => ?_, fun b o e n hx => ?_, fun b o e hx => ?_, fun b xs e => tups b xs (I.base.tups b xs e), fun b o xs e => frzs b o xs (I.base.frzs b o xs e), fun b ps e => ?_⟩, ?_, fun x c e => ?_, ?_, fun x c e => ?_, fun p hp => ?_, hok, I.len⟩
  · exact keep b o (neL b o e) hb (neC b o e hx) (I.base.keep b o e n hb hx) (I.base.free b o e n hx)
  · obtain ⟨sl, e1⟩ := I.base.slot b o e n hb hx
    obtain ⟨sl', e2⟩ := slot b _ (neL b o e) hb (neC b o e hx) e1 (I.base.free b o e n hx)
    exact ⟨sl', e2⟩
  · obtain ⟨o', e1⟩ := I.base.there b o e hx
    exact free b o' (neC b o e hx) e1 (I.base.free b o e n hx)
  · obtain ⟨o', e1⟩ := I.base.there b o e hx
    exact there b o' (neC b o e hx) e1
  · obtain ⟨m1, e1⟩ := I.base.tbls b ps e
    obtain ⟨m2, e2⟩ := tbls b _ e1
    exact ⟨m1 ++ m2, by rw [e2, Array.append_assoc]⟩
  · obtain ⟨m, hn, hl⟩ := I.loc
    refine ⟨m, ns m hn, fun i x v e1 e2 e3 => ?_⟩
    obtain ⟨u, r, l⟩ := hl i x v e1 e2 e3
    refine ⟨u, r, ?_⟩
    rcases l with l | ⟨k, c, e, z⟩
    · exact .inl l
    · exact .inr ⟨k, c, e, cellK x c e _ z⟩
  · obtain ⟨v, z⟩ := I.cell x c e
    exact ⟨v, cellK x c e v z⟩
  · obtain ⟨m, ⟨o, _, _, ho, _⟩, _⟩ := I.loc
    exact free _ o (fun z => (hch _ z).2.1 rfl) ho I.free
  · obtain ⟨v, o, ho, hd⟩ := I.cell x c e
    exact free c o (fun z => (hch c z).2.2.1 x c e rfl) ho (I.freeC x c e)
  · obtain ⟨e, n, ne, nf, d⟩ := I.pin p hp
    have nch : p.1 ∉ ch := fun z => (hch p.1 z).2.2.2 p hp rfl
    exact ⟨keep p.1 p.2 ne nf nch e n, free p.1 p.2 nch e n, ne, nf, d⟩
theorem Inv.un {t' : Nat} (I : Inv X pins σ H s) (u : Un X.fs [] H H' s.heap h') (hok : HOk X.prog X.w H' h') : Inv X pins σ H' { s with heap := h', toks := t' } := by
  obtain ⟨m, ⟨o, es, ep, ho, r⟩, _⟩ := id I.loc
  obtain ⟨sl, hL⟩ := u.any ho I.free (by simp)
  exact I.step (g' := s.gens) (d' := s.drawn) (ch := []) (fun _ z => nomatch z) (fun b o _ hb _ e n => u.keep b o e n hb (by simp)) (fun b o _ hb _ e n => u.slot b o e n hb (by simp)) (fun b o _ e n => u.free b o e n (by simp)) (fun b o _ e => u.there b o e (by simp)) u.tups u.frzs u.tbls (fun m' hm => by
    obtain ⟨o', es', ep', ho', r'⟩ := hm
    rw [ho] at ho'; cases ho'
    exact ⟨_, es', ep', hL, r'⟩) hok I.bare
theorem Inv.call {g' : Array GenState} {t' : Nat} {d' : Drawn} {ch : List Addr} (I : Inv X pins σ H s) (u : Un (frs X.stack) ch H H' s.heap h') (hok : HOk X.prog X.w H' h') (hg : AllBare g')
    (hch : ∀ b ∈ ch, (b ∈ X.ex ∨ X.s₀.heap.objs.size ≤ b) ∧ b ≠ X.env.locals ∧ (∀ x c, X.env.cells.lookup x = some c → c ≠ b) ∧ ∀ p ∈ X.pn ++ pins, p.1 ≠ b) :
    Inv X pins σ H' { s with heap := h', gens := g', drawn := d', toks := t' } := by
  obtain ⟨m, ⟨o, es, ep, ho, r⟩, _⟩ := id I.loc
  obtain ⟨sl, hL⟩ := u.any ho I.free fun z => (hch _ z).2.1 rfl
  exact I.step (ch := ch) hch (fun b o hL hb hc e n => u.keep b o e n (fun z => (List.mem_cons.mp (I.stkSub b z)).elim hL hb) hc) (fun b o _ _ hc e n => u.any e n hc) (fun b o hc e n => u.free b o e n hc) (fun b o hc e => u.there b o e hc) u.tups u.frzs u.tbls (fun m' hm => by
    obtain ⟨o', es', ep', ho', r'⟩ := hm
    rw [ho] at ho'; cases ho'
    exact ⟨_, es', ep', hL, r'⟩) hok hg
theorem Inv.turned {t' : Nat} {it : Addr} (I : Inv X pins σ H s) (k : ∀ b o, b ≠ it → s.heap.get? b = some o → h'.get? b = some o) (hn : H it = none) (hL : it ≠ X.env.locals)
    (h1 : it ∈ X.ex ∨ X.s₀.heap.objs.size ≤ it) (h2 : ∀ x c, X.env.cells.lookup x = some c → c ≠ it) (h3 : ∀ p ∈ X.pn ++ pins, p.1 ≠ it) : Inv X pins σ H { s with heap := h', toks := t' } := by
  have nit : ∀ b u, H b = some u → b ≠ it := fun b u e z => by rw [z, hn] at e; cases e
  refine I.step (g' := s.gens) (d' := s.drawn) (ch := [it]) (fun b hb => ?_) (fun b o _ _ hc e _ => k b o (fun z => hc (by simp [z])) e) (fun b o _ _ hc e _ => ⟨o.slots, k b o (fun z => hc (by simp [z])) e⟩) (fun _ _ _ _ n => n)
    (fun b o hc e => ⟨o, k b o (fun z => hc (by simp [z])) e⟩) (fun _ _ e => e) (fun _ _ _ e => e) (fun b ps e => ⟨#[], by rw [e]; simp⟩) (fun m hm => ?_) (fun b u e => ?_) I.bare
  · have e : b = it := by simpa using hb
    subst e
    exact ⟨h1, hL, h2, h3⟩
  · obtain ⟨o, es, ep, ho, r⟩ := hm
    exact ⟨o, es, ep, k _ o (Ne.symm hL) ho, r⟩
  · refine (I.hok b u e).stay (fun c v hc q => k c v ?_ q) (fun _ q => q) fun _ _ q => q
    rcases hc with z | z
    · rw [z]; exact nit b u e
    · exact nit c _ z
theorem Inv.tok (I : Inv X pins σ H s) (t : Nat) : Inv X pins σ H { s with toks := t } := I.un (h' := s.heap) (t' := t) Un.refl I.hok
theorem Inv.kept {t' : Nat} (I : Inv X pins σ H s) (k : ∀ b u, s.heap.get? b = some u → h'.get? b = some u) : Inv X pins σ H { s with heap := h', toks := t' } := I.un (Un.kept k) (I.hok.kept k)
theorem Inv.laid {a : Addr} {o : HO} {t' : Nat} (I : Inv X pins σ H s) (k : ∀ b u, s.heap.get? b = some u → h'.get? b = some u) (hp : s.heap.objs.size ≤ a) (new : ObjOk X.prog X.w (upd H a o) h' a o) :
    Inv X pins σ (upd H a o) { s with heap := h', toks := t' } := I.un (Un.laid k hp (I.hok.fresh hp)) (I.hok.laid k hp new)
theorem Inv.write {x e : Addr} {o : HO} {t' : Nat} (I : Inv X pins σ H s) (mu : Mut (H x)) (he : e = x ∨ H e = some (.own x)) (k : ∀ b u, b ≠ e → s.heap.get? b = some u → h'.get? b = some u) (heo : ∃ u, h'.get? e = some u)
    (new : ObjOk X.prog X.w (upd H x o) h' x o) : Inv X pins σ (upd H x o) { s with heap := h', toks := t' } := I.un (Un.write mu he k heo) (I.hok.write mu he k heo new)
theorem Inv.pins_of {pins' : List (Addr × Obj)} (I : Inv X pins σ H s) (h : ∀ p ∈ pins', s.heap.get? p.1 = some p.2 ∧ H p.1 = none ∧ p.1 ≠ X.env.locals ∧ p.1 ∉ X.fs ∧ ∀ v, p.2.data ≠ .cell v) : Inv X pins' σ H s :=
  ⟨I.ok, I.os, I.bare, I.base, I.loc, I.cell, I.free, I.freeC, fun p hp => (List.mem_append.mp hp).elim (fun z => I.pin p (List.mem_append_left _ z)) (h p), I.hok, I.len⟩
theorem nodup_ix {N : List Str} (hN : N.Nodup) {i j : Nat} {x : Str} (a : N[i]? = some x) (b : N[j]? = some x) : i = j := by
  obtain ⟨h1, e1⟩ := List.getElem?_eq_some_iff.mp a
  obtain ⟨h2, e2⟩ := List.getElem?_eq_some_iff.mp b
  exact (List.getElem_inj hN).mp (e1.trans e2.symm)
theorem store_ok2 {M : Model} {A : Around} {E : Value → Shared → Prop} {i : Nat} {x : Str} {v : V} {u : Value} {Q : Unit → Shared → Prop} (I : Inv X pins σ H s) (hN : X.N.Nodup) (hi : X.N[i]? = some x) (hx : Loc X.env.scope x) (r : RelV v u)
    (h : ∀ s', Inv X pins (σ.set i (some v)) H s' → (∃ a, Heap.SameBut a s.heap s'.heap ∧ (a = X.env.locals ∨ X.env.cells.lookup x = some a)) → Q () s') (hf : X.fn x = true ∨ X.env.scope.names.lookup x = some .local := by first | exact .inl rfl | exact .inr rfl | assumption) : wpAny M A (storeName X.env x u) Q E s := by
  obtain ⟨m, hn, hl⟩ := id I.loc
  have hcls : (X.env.scope.kind == .class || (X.env.scope.kind == .module && X.env.locals != X.env.globals)) = false := by rw [I.ok.kind]; rfl
  have hiσ : i < σ.length := by rw [I.len]; exact (List.getElem?_eq_some_iff.mp hi).1
  have cne := I.cne
  have tracked : ∀ {a : Addr} {h' : Heap}, (∃ o, s.heap.get? a = some o ∧ H a = none) → Heap.SameBut a s.heap h' → HOk X.prog X.w H h' := fun {a h'} ha hs b ob e => by
    obtain ⟨_, _, hfree⟩ := ha
    refine (I.hok b ob e).stay (fun c w' hc q => (hs.2 c ?_).trans q) (fun _ q => q) fun _ _ q => q
    rintro rfl
    rcases hc with rfl | hc
    · rw [hfree] at e; cases e
    · rw [hfree] at hc; cases hc
  rcases hx with hk | hk
  · refine wpAny_storeName_local hk hn (fun h' hn' hs => ?_) hcls
    obtain ⟨oL, _, _, hoL, _⟩ := id hn
    refine h _ ⟨I.ok, I.os, I.bare, ⟨fun b o e n hb hx => ?_, fun b o e n hb hx => ?_, I.base.free, fun b o e hx => ?_, I.base.tups, I.base.frzs, I.base.tbls⟩, ⟨_, hn', fun j y v' e1 e2 e3 => ?_⟩, fun y c e => ?_, I.free, I.freeC, fun p hp => ?_, tracked ⟨oL, hoL, I.free⟩ hs, by simpa using I.len⟩ ⟨_, hs, .inl rfl⟩
    · exact (hs.2 b (Nat.ne_of_lt (Nat.lt_of_lt_of_le (Heap.lt_size e) I.ok.above))).trans (I.base.keep b o e n hb hx)
    · obtain ⟨sl, e1⟩ := I.base.slot b o e n hb hx
      exact ⟨sl, (hs.2 b (Nat.ne_of_lt (Nat.lt_of_lt_of_le (Heap.lt_size e) I.ok.above))).trans e1⟩
    · obtain ⟨o', e1⟩ := I.base.there b o e hx
      exact ⟨o', (hs.2 b (Nat.ne_of_lt (Nat.lt_of_lt_of_le (Heap.lt_size e) I.ok.above))).trans e1⟩
    · by_cases hj : j = i
      · subst hj
        rw [hi] at e1; cases e1
        rw [List.getElem?_set_self hiσ] at e2
        cases e2
        exact ⟨u, r, .inl ⟨hk, by simp⟩⟩
      · rw [List.getElem?_set_ne (Ne.symm hj)] at e2
        obtain ⟨u', r', q⟩ := hl j y v' e1 e2 e3
        refine ⟨u', r', ?_⟩
        rcases q with ⟨k, e⟩ | ⟨k, c, e, z⟩
        · refine .inl ⟨k, ?_⟩
          have : y ≠ x := fun e => hj (nodup_ix hN e1 (e ▸ hi))
          simp [this, e]
        · exact .inr ⟨k, c, e, z.sameBut hs (cne y c e)⟩
    · obtain ⟨w', z⟩ := I.cell y c e
      exact ⟨w', z.sameBut hs (cne y c e)⟩
    · obtain ⟨e, n, ne, nf, d⟩ := I.pin p hp
      exact ⟨(hs.2 p.1 ne).trans e, n, ne, nf, d⟩
  · have hfn : X.fn x = true := by
      rcases hf with z | z
      · exact z
      · rw [z] at hk; cases hk
    obtain ⟨c, hc⟩ := I.ok.has x (.inl hk)
    obtain ⟨w', z⟩ := I.cell x c hc
    refine wpAny_storeName_cell I.ok.kind hk hc z (fun h' hc' hs => ?_)
    obtain ⟨oc, hoc, hocd⟩ := id z
    refine h { s with heap := h' } ⟨I.ok, I.os, I.bare, ⟨fun b o e n hb hx => ?_, fun b o e n hb hx => ?_, I.base.free, fun b o e hx => ?_, I.base.tups, I.base.frzs, I.base.tbls⟩, ⟨m, hn.sameBut hs (Ne.symm (cne x c hc)), fun j y v' e1 e2 e3 => ?_⟩, fun y c' e => ?_, I.free, I.freeC, fun p hp => ?_, tracked ⟨oc, hoc, I.freeC x c hc⟩ hs, by simpa using I.len⟩ ⟨c, hs, .inr hc⟩
    · exact (hs.2 b (Nat.ne_of_lt (Nat.lt_of_lt_of_le (Heap.lt_size e) (I.ok.cab x c hfn hc)))).trans (I.base.keep b o e n hb hx)
    · obtain ⟨sl, e1⟩ := I.base.slot b o e n hb hx
      exact ⟨sl, (hs.2 b (Nat.ne_of_lt (Nat.lt_of_lt_of_le (Heap.lt_size e) (I.ok.cab x c hfn hc)))).trans e1⟩
    · obtain ⟨o', e1⟩ := I.base.there b o e hx
      exact ⟨o', (hs.2 b (Nat.ne_of_lt (Nat.lt_of_lt_of_le (Heap.lt_size e) (I.ok.cab x c hfn hc)))).trans e1⟩
    · by_cases hj : j = i
      · subst hj
        rw [hi] at e1; cases e1
        rw [List.getElem?_set_self hiσ] at e2
        cases e2
        exact ⟨u, r, .inr ⟨.inl hk, c, hc, hc'⟩⟩
      · rw [List.getElem?_set_ne (Ne.symm hj)] at e2
        obtain ⟨u', r', q⟩ := hl j y v' e1 e2 e3
        refine ⟨u', r', ?_⟩
        rcases q with q | ⟨k, c', e, z'⟩
        · exact .inl q
        · refine .inr ⟨k, c', e, z'.sameBut hs ?_⟩
          rintro rfl
          exact hj (nodup_ix hN e1 (I.ok.inj _ _ _ e hc ▸ hi))
    · by_cases hcc : c' = c
      · subst hcc; exact ⟨_, hc'⟩
      · obtain ⟨w2, z2⟩ := I.cell y c' e
        exact ⟨w2, z2.sameBut hs hcc⟩
    · obtain ⟨e, n, ne, nf, d⟩ := I.pin p hp
      refine ⟨(hs.2 p.1 ?_).trans e, n, ne, nf, d⟩
      intro q
      rw [q, hoc] at e
      have q' : oc = p.2 := Option.some.inj e
      exact d w' (by rw [← q']; exact hocd)
theorem store_ok {M : Model} {A : Around} {E : Value → Shared → Prop} {i : Nat} {x : Str} {v : V} {u : Value} {Q : Unit → Shared → Prop} (I : Inv X pins σ H s) (hN : X.N.Nodup) (hi : X.N[i]? = some x) (hx : Loc X.env.scope x) (r : RelV v u)
    (h : ∀ s', Inv X pins (σ.set i (some v)) H s' → Q () s') (hf : X.fn x = true ∨ X.env.scope.names.lookup x = some .local := by first | exact .inl rfl | exact .inr rfl | assumption) : wpAny M A (storeName X.env x u) Q E s :=
  store_ok2 I hN hi hx r (fun s' I' _ => h s' I') hf
theorem Inv.call' {s' : Shared} {ch : List Addr} (I : Inv X pins σ H s) (ho : s'.os = s.os) (u : Un (frs X.stack) ch H H' s.heap s'.heap) (hok : HOk X.prog X.w H' s'.heap) (hg : AllBare s'.gens)
    (hch : ∀ b ∈ ch, (b ∈ X.ex ∨ X.s₀.heap.objs.size ≤ b) ∧ b ≠ X.env.locals ∧ (∀ x c, X.env.cells.lookup x = some c → c ≠ b) ∧ ∀ p ∈ X.pn ++ pins, p.1 ≠ b) : Inv X pins σ H' s' := by
  obtain ⟨h', g', d', t', o'⟩ := s'
  have e : o' = s.os := ho
  subst e
  exact I.call (g' := g') (t' := t') (d' := d') u hok hg hch
end
abbrev XK := Value → Option Addr → Hp → Prop
abbrev St := List (Option V)
abbrev VK := V → Hp → Prop
abbrev TE := St → Hp → VK → Prop
abbrev TT := St → Hp → (Bool → Hp → Prop) → Prop
abbrev TA := St → Hp → (List V → Hp → Prop) → Prop
structure Ends where
  nx : St → Hp → Prop
  rt : VK
  bk : St → Hp → Prop := fun _ _ => False
  ct : St → Hp → Prop := fun _ _ => False
abbrev TS := Ends → St → Hp → Prop
def EP (X : Cx) (pins : List (Addr × Obj)) (σ : St) (Q : VK) (u : Value) (s' : Shared) : Prop := ∃ v H', Inv X pins σ H' s' ∧ RelV v u ∧ Q v H'
def TP (X : Cx) (pins : List (Addr × Obj)) (σ : St) (Q : Bool → Hp → Prop) (b : Bool) (s' : Shared) : Prop := ∃ H', Inv X pins σ H' s' ∧ Q b H'
def AP (X : Cx) (pins : List (Addr × Obj)) (σ : St) (Q : List V → Hp → Prop) (us : List Value) (s' : Shared) : Prop := ∃ vs H', Inv X pins σ H' s' ∧ Vals vs us ∧ Q vs H'
def SP (X : Cx) (pins : List (Addr × Obj)) (D : Ends) (f : Flow) (s' : Shared) : Prop :=
  match f with
  | .next => ∃ σ' H', Inv X pins σ' H' s' ∧ D.nx σ' H'
  | .brk => ∃ σ' H', Inv X pins σ' H' s' ∧ D.bk σ' H'
  | .cont => ∃ σ' H', Inv X pins σ' H' s' ∧ D.ct σ' H'
  | .ret u => ∃ v σ' H', Inv X pins σ' H' s' ∧ RelV v u ∧ D.rt v H'
def PE (X : Cx) (e : Expr) (t : TE) : Prop :=
  ∀ (pins : List (Addr × Obj)) (s : Shared) (σ : St) (H : Hp) (Q : VK), Inv X pins σ H s → t σ H Q → wpAny (model X.prog X.w) X.A (eval e X.env) (EP X pins σ Q) X.xe s
def PT (X : Cx) (e : Expr) (t : TT) : Prop :=
  ∀ (pins : List (Addr × Obj)) (s : Shared) (σ : St) (H : Hp) (Q : Bool → Hp → Prop), Inv X pins σ H s → t σ H Q → wpAny (model X.prog X.w) X.A (isTrue e X.env (eval e X.env)) (TP X pins σ Q) X.xe s
def PW (X : Cx) (e : Expr) (t : TT) : Prop :=
  ∀ (whole : Sem Value) (pins : List (Addr × Obj)) (s : Shared) (σ : St) (H : Hp) (Q : Bool → Hp → Prop), Inv X pins σ H s → t σ H Q → wpAny (model X.prog X.w) X.A (isTrue e X.env whole) (TP X pins σ Q) X.xe s
theorem PW.pt {X : Cx} {e : Expr} {t : TT} (h : PW X e t) : PT X e t := h _
def PA (X : Cx) (es : List Expr) (t : TA) : Prop :=
  ∀ (pos : Pos) (pins : List (Addr × Obj)) (s : Shared) (σ : St) (H : Hp) (Q : List V → Hp → Prop), Inv X pins σ H s → t σ H Q → wpAny (model X.prog X.w) X.A (spliced (backTo pos (starEach es X.env))) (AP X pins σ Q) X.xe s
def PS (X : Cx) (st : Stmt) (t : TS) : Prop :=
  ∀ (pins : List (Addr × Obj)) (s : Shared) (σ : St) (H : Hp) (D : Ends), Inv X pins σ H s → t D σ H → wpAny (model X.prog X.w) X.A (exec st X.env) (SP X pins D) X.xe s
def PSs (X : Cx) (st : List Stmt) (t : TS) : Prop :=
  ∀ (pins : List (Addr × Obj)) (s : Shared) (σ : St) (H : Hp) (D : Ends), Inv X pins σ H s → t D σ H → wpAny (model X.prog X.w) X.A (execs st X.env) (SP X pins D) X.xe s
theorem thn {α : Type} {t : Sem α} {Q Q' : α → Shared → Prop} {M : Model} {A : Around} {E : Value → Shared → Prop} {s : Shared} (h : wpAny M A t Q E s) (hQ : ∀ a s, Q a s → Q' a s) : wpAny M A t Q' E s := wpAny_mono h hQ fun _ _ x => x
end L2
namespace L2
open PySem PySem.Spec PyProof.Rows
section
variable {X : Cx}
def tVar (i : Nat) : TE := fun σ H Q => ∃ v, σ[i]? = some (some v) ∧ Q v H
def tC (v : V) : TE := fun _ H Q => Q v H
theorem pe_var {i : Nat} {x : Str} {pos : Pos} (hN : X.N[i]? = some x) (hv : Vis X.env.scope x) (hd : (x == ("__debug__" : Str)) = false := by decide) (hcd : (x == ("__classdict__" : Str)) = false := by decide) : PE X (.Name x pos) (tVar i) := by
  intro pins s σ H Q I h
  obtain ⟨v, e, h⟩ := h
  obtain ⟨m, hn, hl⟩ := I.loc
  obtain ⟨u, r, l⟩ := hl i x v hN e hv
  have fin : EP X pins σ Q u s := ⟨v, H, I, r, h⟩
  rcases l with ⟨hk, hm⟩ | ⟨hk, c, hc, hcell⟩
  · exact wpAny_Name (wpAny_loadName_local I.ok.kind hk hn hm fin) hd
  · rcases hk with hk | hk
    · exact wpAny_Name (wpAny_loadName_cell I.ok.kind hk hc hcell fin) hd
    · exact wpAny_Name (wpAny_loadName_free I.ok.kind hk hc hcell fin hcd) hd
theorem pe_int {i j pos} : PE X (.Constant (.int i) j pos) (tC (.int i)) := fun _ _ _ H _ I h => wpAny_Constant_int ⟨.int i, H, I.tok _, ⟨_, rfl⟩, h⟩
theorem pe_bl {b j pos} : PE X (.Constant (.bool b) j pos) (tC (.bl b)) := fun _ _ _ H _ I h => Constant_bool ⟨.bl b, H, I, rfl, h⟩
theorem pe_non {j pos} : PE X (.Constant .none j pos) (tC .non) := fun _ _ _ H _ I h => Constant_none ⟨.non, H, I, rfl, h⟩
theorem pe_str {x j pos} : PE X (.Constant (.str x) j pos) (tC (.str x)) := fun _ _ _ H _ I h => Calls.Constant_str ⟨.str x, H, I.tok _, ⟨_, rfl⟩, h⟩
def Gl (X : Cx) (x : Str) : Prop := X.env.kindOf x = some .globalImplicit
theorem ld_glob {E : Value → Shared → Prop} {pins : List (Addr × Obj)} {s : Shared} {σ : St} {H : Hp} {x : Str} {u : Value} {pos : Pos} {Q : Value → Shared → Prop} (I : Inv X pins σ H s) (hg : Gl X x) (hm : X.mg x = some u) (h : Q u s)
    (hd : (x == ("__debug__" : Str)) = false := by decide) : wpAny (model X.prog X.w) X.A (eval (.Name x pos) X.env) Q E s :=
  Calls.Name_function_global I.ok.kind hg (Calls.loadGlobal_global (by rw [I.ok.glob]; exact I.mod.glob.keeps I.bk) hm h) hd
theorem ld_blt {E : Value → Shared → Prop} {pins : List (Addr × Obj)} {s : Shared} {σ : St} {H : Hp} {x : Str} {u : Value} {pos : Pos} {Q : Value → Shared → Prop} (I : Inv X pins σ H s) (hg : Gl X x) (hm : X.mg x = none) (hv : bootBuiltins x = some u) (h : Q u s)
    (hn : x ≠ "__name__" := by decide) (hd : (x == ("__debug__" : Str)) = false := by decide) : wpAny (model X.prog X.w) X.A (eval (.Name x pos) X.env) Q E s := by
  obtain ⟨mb, h1, h2⟩ := I.mod.blt
  exact Calls.Name_function_global I.ok.kind hg (Calls.loadGlobal_builtin (by rw [I.ok.glob]; exact I.mod.glob.keeps I.bk) hm (by rw [I.ok.blt]; exact h1.keeps I.bk) ((h2 x hn).trans hv) h) hd
theorem pe_glob {x : Str} {v : V} {u : Value} {pos : Pos} (hg : Gl X x) (hm : X.mg x = some u) (r : RelV v u) (hd : (x == ("__debug__" : Str)) = false := by decide) : PE X (.Name x pos) (tC v) :=
  fun _ _ _ H _ I h => ld_glob I hg hm ⟨v, H, I, r, h⟩ hd
theorem pe_bltn {x : Str} {v : V} {u : Value} {pos : Pos} (hg : Gl X x) (hm : X.mg x = none) (hv : bootBuiltins x = some u) (r : RelV v u) (hn : x ≠ "__name__" := by decide) (hd : (x == ("__debug__" : Str)) = false := by decide) : PE X (.Name x pos) (tC v) :=
  fun _ _ _ H _ I h => ld_blt I hg hm hv ⟨v, H, I, r, h⟩ hn hd
variable {a b : Expr} {ta tb : TE} {pos : Pos}
def tB (t : TE) : TT := fun σ H Q => t σ H fun x H1 => ∃ c, x = .bl c ∧ Q c H1
theorem pt_val {e : Expr} {t : TE} (h : PE X e t) (he : ∀ whole, isTrue e X.env whole = (do let v ← whole; standAt e.pos; holding [v] (truthy v)) := by intro _; rfl) : PT X e (tB t) := by
  intro pins s σ H Q I hw
  refine isTrue_plain (thn (h pins s σ H _ I hw) fun v s1 ⟨x, H1, I1, r1, q1⟩ => ?_) (he _)
  obtain ⟨d, rfl, q⟩ := q1
  cases r1
  exact wpAny_truthy_bool ⟨H1, I1, q⟩
variable {tA tB' : TT} {rest : List Expr}
def tAnd (t u : TT) : TT := fun σ H Q => t σ H fun c H1 => if c = true then u σ H1 Q else Q false H1
def tOr (t u : TT) : TT := fun σ H Q => t σ H fun c H1 => if c = true then Q true H1 else u σ H1 Q
def tNot (t : TT) : TT := fun σ H Q => t σ H fun c H1 => Q (!c) H1
theorem pw_and1 (ha : PT X a tA) : PW X (.BoolOp .And [a] pos) tA := by
  intro wh pins s σ H Q I h
  refine isTrue_and (thn (ha pins s σ H Q I h) fun c s1 e => ?_)
  cases c with
  | true => exact isTrue_and_nil e
  | false => exact e
theorem pw_or1 (ha : PT X a tA) : PW X (.BoolOp .Or [a] pos) tA := by
  intro wh pins s σ H Q I h
  refine isTrue_or (thn (ha pins s σ H Q I h) fun c s1 e => ?_)
  cases c with
  | false => exact isTrue_or_nil e
  | true => exact e
theorem pw_and (ha : PT X a tA) (hb : PW X (.BoolOp .And (b :: rest) pos) tB') : PW X (.BoolOp .And (a :: b :: rest) pos) (tAnd tA tB') := by
  intro wh pins s σ H Q I h
  refine isTrue_and (thn (ha pins s σ H _ I h) fun c s1 zq => ?_)
  obtain ⟨H1, I1, q1⟩ := zq
  cases c with
  | true => exact hb wh pins s1 σ H1 Q I1 q1
  | false => exact ⟨H1, I1, q1⟩
theorem pw_or (ha : PT X a tA) (hb : PW X (.BoolOp .Or (b :: rest) pos) tB') : PW X (.BoolOp .Or (a :: b :: rest) pos) (tOr tA tB') := by
  intro wh pins s σ H Q I h
  refine isTrue_or (thn (ha pins s σ H _ I h) fun c s1 zq => ?_)
  obtain ⟨H1, I1, q1⟩ := zq
  cases c with
  | true => exact ⟨H1, I1, q1⟩
  | false => exact hb wh pins s1 σ H1 Q I1 q1
theorem pt_not (ha : PT X a tA) : PT X (.UnaryOp .Not a pos) (tNot tA) := by
  intro pins s σ H Q I h
  exact isTrue_not (ha pins s σ H (fun c H1 => Q (!c) H1) I h)
def tAndV (ta tb : TE) : TE := fun σ H Q => ta σ H fun x H1 => ∃ c, x = .bl c ∧ if c = true then tb σ H1 Q else Q (.bl false) H1
def tNotV (ta : TE) : TE := fun σ H Q => ta σ H fun x H1 => ∃ c, x = .bl c ∧ Q (.bl (!c)) H1
theorem pe_one {op} {t : TE} (h : PE X a t) : PE X (.BoolOp op [a] pos) t := fun pins s σ H Q I hw => BoolOp_one (h pins s σ H Q I hw)
theorem pe_and (ha : PE X a ta) (hb : PE X (.BoolOp .And (b :: rest) pos) tb) : PE X (.BoolOp .And (a :: b :: rest) pos) (tAndV ta tb) := by
  intro pins s σ H Q I h
  refine BoolOp_and (thn (ha pins s σ H _ I h) fun v s1 zq => ?_)
  obtain ⟨x, H1, I1, r1, q1⟩ := zq
  obtain ⟨c, rfl, q1⟩ := q1
  cases r1
  refine wpAny_truthy_bool ?_
  cases c with
  | true => exact hb pins s1 σ H1 Q I1 q1
  | false => exact ⟨.bl false, H1, I1, rfl, q1⟩
theorem pe_not (ha : PE X a ta) : PE X (.UnaryOp .Not a pos) (tNotV ta) := by
  intro pins s σ H Q I h
  refine UnaryOp_ (thn (ha pins s σ H _ I h) fun v s1 zq => ?_)
  obtain ⟨x, H1, I1, r1, q1⟩ := zq
  obtain ⟨c, rfl, q1⟩ := q1
  cases r1
  exact not_of (wpAny_truthy_bool ⟨.bl (!c), H1, I1, rfl, q1⟩)
def tIf (t : TT) (ta tb : TE) : TE := fun σ H Q => t σ H fun c H1 => if c = true then ta σ H1 Q else tb σ H1 Q
theorem pe_ifExp {c : Expr} (hc : PT X c tA) (ha : PE X a ta) (hb : PE X b tb) : PE X (.IfExp c a b pos) (tIf tA ta tb) := by
  intro pins s σ H Q I h
  refine wpAny_IfExp (thn (hc pins s σ H _ I h) fun d s1 zq => ?_)
  obtain ⟨H1, I1, q1⟩ := zq
  cases d with
  | true => exact ha pins s1 σ H1 Q I1 q1
  | false => exact hb pins s1 σ H1 Q I1 q1
end
end L2
namespace L2
open PySem PySem.Spec PyProof.Rows
def SqL (K : PySem.W.Frag) (H : Hp) (a : Addr) (xs : List V) : Prop :=
  Rd H a (.lst xs) ∨
    ∃ (o : Obj) (its : Array Value) (n : Nat), K.lookup a = some o ∧ o.cls = .type "list" ∧ o.dict = none ∧ o.data = .seq its n ∧ its.size ≤ sizeLine ∧ Vals xs its.toList
def SqT (K : PySem.W.Frag) (H : Hp) (a : Addr) (xs : List V) : Prop :=
  Rd H a (.tup xs) ∨
    ∃ (o : Obj) (its : Array Value) (n : Nat), K.lookup a = some o ∧ o.cls = .type "tuple" ∧ o.data = .seq its n ∧ its.size ≤ sizeLine ∧ Vals xs its.toList
noncomputable def absV : Value → Option V
  | .none => some .non
  | .bool b => some (.bl b)
  | .int i _ => some (.int i)
  | .str x _ => some (.str x)
  | .bytes b _ => some (.byt b)
  | .float b _ => some (.flt b)
  | .ref a => some (.ref a)
  | .type n => some (.ty n)
  | _ => none
theorem RelV.abs {x : V} {u : Value} (r : RelV x u) : absV u = some x := by
  cases x with
  | non => cases r; rfl
  | bl _ => cases r; rfl
  | int _ => obtain ⟨t, rfl⟩ := r; rfl
  | str _ => obtain ⟨t, rfl⟩ := r; rfl
  | byt _ => obtain ⟨t, rfl⟩ := r; rfl
  | flt _ => obtain ⟨t, rfl⟩ := r; rfl
  | ref _ => cases r; rfl
  | ty _ => cases r; rfl
theorem RelV.inj {x y : V} {u : Value} (r : RelV x u) (q : RelV y u) : x = y := Option.some.inj (r.abs.symm.trans q.abs)
theorem Vals.inj : ∀ {xs ys : List V} {us : List Value}, Vals xs us → Vals ys us → xs = ys
  | _, _, _, .nil, .nil => rfl
  | _, _, _, .cons r t, .cons r' t' => by rw [r.inj r', Vals.inj t t']
section
variable {X : Cx} {pins : List (Addr × Obj)} {σ : St} {H : Hp} {s : Shared} {a : Addr} {xs ys : List V}
theorem SqL.of {K : PySem.W.Frag} (h : H a = some (.lst xs)) : SqL K H a xs := .inl (.inl h)
theorem Inv.list (I : Inv X pins σ H s) (h : SqL X.K H a xs) : ∃ its : List Value, Vals xs its ∧ PlainL s.heap a its.toArray ∧ xs.length ≤ sizeLine := by
  rcases h with h | ⟨o, its, n, hk, hc, hd, hs, hz, r⟩
  · obtain ⟨z, its, n, r, e⟩ := h.ok I.hok
    exact ⟨its, r, ⟨_, n, e, rfl, rfl, rfl⟩, z⟩
  · refine ⟨its.toList, r, ⟨o, n, I.kIn a o hk, hc, hd, by simpa using hs⟩, ?_⟩
    have e := r.length
    simp only [Array.length_toList] at e
    omega
theorem Inv.tuple (I : Inv X pins σ H s) (h : SqT X.K H a xs) : ∃ its : List Value, Vals xs its ∧ IsTup s.heap a its.toArray ∧ xs.length ≤ sizeLine := by
  rcases h with h | ⟨o, its, n, hk, hc, hs, hz, r⟩
  · obtain ⟨z, its, r, p⟩ := h.ok I.hok
    exact ⟨its, r, p, z⟩
  · refine ⟨its.toList, r, ⟨o, I.kIn a o hk, hc, n, by simpa using hs⟩, ?_⟩
    have e := r.length
    simp only [Array.length_toList] at e
    omega
theorem Inv.list_inj (I : Inv X pins σ H s) (h : SqL X.K H a xs) (h' : SqL X.K H a ys) : xs = ys := by
  obtain ⟨its, r, ⟨o, n, e, _, _, d⟩, _⟩ := I.list h
  obtain ⟨its', r', ⟨o', n', e', _, _, d'⟩, _⟩ := I.list h'
  rw [e] at e'; cases e'
  rw [d] at d'
  injection d' with d1 _
  have : its = its' := by simpa using congrArg Array.toList d1
  subst this
  exact r.inj r'
theorem Inv.tuple_inj (I : Inv X pins σ H s) (h : SqT X.K H a xs) (h' : SqT X.K H a ys) : xs = ys := by
  obtain ⟨its, r, ⟨o, e, _, n, d⟩, _⟩ := I.tuple h
  obtain ⟨its', r', ⟨o', e', _, n', d'⟩, _⟩ := I.tuple h'
  rw [e] at e'; cases e'
  rw [d] at d'
  injection d' with d1 _
  have : its = its' := by simpa using congrArg Array.toList d1
  subst this
  exact r.inj r'
end
abbrev Cx.wish (X : Cx) (E : Value → Shared → Prop) : Cx := { X with xe := E }
abbrev Cx.nox (X : Cx) : Cx := X.wish fun _ _ => False
theorem Cx.Ok.wish {X : Cx} (ok : X.Ok) (E : Value → Shared → Prop) : (X.wish E).Ok :=
  ⟨ok.mod, ok.kind, ok.glob, ok.blt, ok.above, ok.inj, ok.has, ok.cab, ok.hd, ok.frames, ok.stk, ok.exf, ok.bs, ok.bsz, ok.noex, ok.exfs, ok.funs, ok.frf⟩
theorem Cx.Ok.unwish {X : Cx} {E : Value → Shared → Prop} (ok : (X.wish E).Ok) : X.Ok :=
  ⟨ok.mod, ok.kind, ok.glob, ok.blt, ok.above, ok.inj, ok.has, ok.cab, ok.hd, ok.frames, ok.stk, ok.exf, ok.bs, ok.bsz, ok.noex, ok.exfs, ok.funs, ok.frf⟩
section
variable {X : Cx} {pins : List (Addr × Obj)} {σ : St} {H : Hp} {s : Shared} {E : Value → Shared → Prop}
theorem Inv.wish (I : Inv X pins σ H s) (E : Value → Shared → Prop) : Inv (X.wish E) pins σ H s := ⟨I.ok.wish E, I.os, I.bare, I.base, I.loc, I.cell, I.free, I.freeC, I.pin, I.hok, I.len⟩
theorem Inv.unwish (I : Inv (X.wish E) pins σ H s) : Inv X pins σ H s := ⟨I.ok.unwish, I.os, I.bare, I.base, I.loc, I.cell, I.free, I.freeC, I.pin, I.hok, I.len⟩
theorem SP.unwish {D : Ends} {f : Flow} {s' : Shared} (h : SP (X.wish E) pins D f s') : SP X pins D f s' := by
  cases f with
  | next => obtain ⟨σ', H', I, q⟩ := h; exact ⟨σ', H', I.unwish, q⟩
  | brk => obtain ⟨σ', H', I, q⟩ := h; exact ⟨σ', H', I.unwish, q⟩
  | cont => obtain ⟨σ', H', I, q⟩ := h; exact ⟨σ', H', I.unwish, q⟩
  | ret u => obtain ⟨v, σ', H', I, r, q⟩ := h; exact ⟨v, σ', H', I.unwish, r, q⟩
theorem PSs.nox {st : List Stmt} {t : TS} (h : PSs X.nox st t) : PSs X st t := fun pins s σ H D I hw =>
  wpAny_mono (h pins s σ H D (I.wish _) hw) (fun _ _ q => q.unwish) fun _ _ z => False.elim z
end
section
variable {X : Cx} {st : Stmt} {rest : List Stmt} {t u : TS} {e : Expr} {te : TE} {pos : Pos}
def tNext : TS := fun D σ H => D.nx σ H
def tSeq (t u : TS) : TS := fun D σ H => t { D with nx := u D } σ H
theorem pss_nil : PSs X [] tNext := fun _ _ σ H _ I h => wpAny_execs_nil ⟨σ, H, I, h⟩
theorem pss_cons (h1 : PS X st t) (h2 : PSs X rest u) : PSs X (st :: rest) (tSeq t u) := by
  intro pins s σ H D I h
  refine wpAny_execs_cons (thn (h1 pins s σ H { D with nx := u D } I h) fun f s1 q => ?_)
  cases f with
  | next =>
    obtain ⟨σ', H', I', q⟩ := q
    exact h2 pins s1 σ' H' D I' q
  | ret v => exact q
  | brk => exact q
  | cont => exact q
theorem pss_one (h1 : PS X st t) : PSs X [st] t := by
  intro pins s σ H D I h
  refine wpAny_execs_cons (thn (h1 pins s σ H D I h) fun f s1 q => ?_)
  cases f with
  | next => exact wpAny_execs_nil q
  | ret v => exact q
  | brk => exact q
  | cont => exact q
theorem Inv.quiet {pins : List (Addr × Obj)} {σ : St} {H : Hp} {s : Shared} (I : Inv X pins σ H s) : interactive X.env = false := by simp [interactive, I.ok.kind]
def tDrop (te : TE) : TS := fun D σ H => te σ H fun _ H1 => D.nx σ H1
theorem ps_expr (he : PE X e te) (hs : swapsWith e none pos.line X.env = pure false := by rfl) : PS X (.Expr e pos) (tDrop te) := by
  intro pins s σ H D I h
  exact wpAny_Expr_any (thn (he pins s σ H _ I h) fun v s1 ⟨x, H1, I1, r1, q1⟩ => ⟨σ, H1, I1, q1⟩) I.quiet hs
def tRet (te : TE) : TS := fun D σ H => te σ H D.rt
theorem ps_ret (he : PE X e te) : PS X (.Return (some e) pos) (tRet te) := by
  intro pins s σ H D I h
  exact wpAny_Return_some (thn (he pins s σ H _ I h) fun v s1 ⟨x, H1, I1, r1, q1⟩ => ⟨x, σ, H1, I1, r1, q1⟩)
def tIfS (c : TT) (t u : TS) : TS := fun D σ H => c σ H fun b H1 => if b = true then t D σ H1 else u D σ H1
theorem ps_if {c : Expr} {a b : List Stmt} {tc : TT} (hc : PT X c tc) (ha : PSs X a t) (hb : PSs X b u) : PS X (.If c a b pos) (tIfS tc t u) := by
  intro pins s σ H D I h
  refine wpAny_If (thn (hc pins s σ H _ I h) fun d s1 zq => ?_)
  obtain ⟨H1, I1, q1⟩ := zq
  cases d with
  | true => exact ha pins s1 σ H1 D I1 q1
  | false => exact hb pins s1 σ H1 D I1 q1
def tNever : TS := fun _ _ _ => False
theorem ps_never : PS X st tNever := fun _ _ _ _ _ _ h => h.elim
end
abbrev TG := V → St → Hp → (St → Hp → Prop) → Prop
abbrev TGs := List V → St → Hp → (St → Hp → Prop) → Prop
def PG (X : Cx) (target : Expr) (t : TG) : Prop :=
  ∀ (pins : List (Addr × Obj)) (s : Shared) (σ : St) (H : Hp) (v : V) (u : Value) (Q : St → Hp → Prop), Inv X pins σ H s → RelV v u → t v σ H Q →
    wpAny (model X.prog X.w) X.A (assign target X.env u) (fun _ s' => ∃ σ' H', Inv X pins σ' H' s' ∧ Q σ' H') X.xe s
def PGs (X : Cx) (ts : List Expr) (t : TGs) : Prop :=
  ∀ (pins : List (Addr × Obj)) (s : Shared) (σ : St) (H : Hp) (vs : List V) (us : List Value) (Q : St → Hp → Prop), Inv X pins σ H s → Vals vs us → t vs σ H Q →
    wpAny (model X.prog X.w) X.A (assignInOrder ((assignEach ts X.env).map (·.2)) us) (fun _ s' => ∃ σ' H', Inv X pins σ' H' s' ∧ Q σ' H') X.xe s
abbrev TSet := V → V → V → Hp → (Hp → Prop) → Prop
def PSet (X : Cx) (t : TSet) : Prop :=
  ∀ (pins : List (Addr × Obj)) (s : Shared) (σ : St) (H : Hp) (o i v : V) (ov iv u : Value) (Q : Hp → Prop), Inv X pins σ H s → RelV o ov → RelV i iv → RelV v u → t o i v H Q →
    wpAny (model X.prog X.w) X.A (setItem ov iv u) (fun _ s' => ∃ H', Inv X pins σ H' s' ∧ Q H') X.xe s
section
variable {X : Cx} {pos : Pos}
def gName (i : Nat) : TG := fun v σ H Q => Q (σ.set i (some v)) H
theorem pg_name {i : Nat} {x : Str} (hN : X.N.Nodup) (hi : X.N[i]? = some x) (hx : Loc X.env.scope x) (hf : X.fn x = true ∨ X.env.scope.names.lookup x = some .local := by first | exact .inl rfl | exact .inr rfl | assumption) : PG X (.Name x pos) (gName i) := by
  intro pins s σ H v u Q I r h
  exact wpAny_assign_Name (store_ok I hN hi hx r (fun s' I' => ⟨_, H, I', h⟩) hf)
def gNil : TGs := fun vs σ H Q => vs = [] ∧ Q σ H
def gCons (t : TG) (u : TGs) : TGs := fun vs σ H Q => ∃ v r, vs = v :: r ∧ t v σ H fun σ' H' => u r σ' H' Q
theorem pgs_nil : PGs X [] gNil := by
  intro pins s σ H vs us Q I r h
  obtain ⟨e, h⟩ := h
  subst e
  cases r
  exact assignInOrder_nil ⟨σ, H, I, h⟩
theorem pgs_cons {e : Expr} {es : List Expr} {t : TG} {u : TGs} (h1 : PG X e t) (h2 : PGs X es u)
    (hs : (assignEach (e :: es) X.env).map (·.2) = assign e X.env :: (assignEach es X.env).map (·.2) := by rfl) : PGs X (e :: es) (gCons t u) := by
  intro pins s σ H vs us Q I r h
  obtain ⟨v, vr, e1, h⟩ := h
  subst e1
  cases r with
  | cons r rr =>
    rw [hs]
    refine assignInOrder_cons (thn (h1 pins s σ H _ _ _ I r h) fun _ s1 zq => ?_)
    obtain ⟨σ1, H1, I1, q1⟩ := zq
    exact h2 pins s1 σ1 H1 _ _ Q I1 rr q1
def gTup (K : PySem.W.Frag) (n : Nat) (t : TGs) : TG := fun v σ H Q => ∃ a xs, v = .ref a ∧ SqT K H a xs ∧ xs.length = n ∧ t xs σ H Q
theorem pg_tup {es : List Expr} {k : Nat} {t : TGs} {n : Nat} (hc : X.calm = true) (h : PGs X es t)
    (hn : (assignEach es X.env).length = n := by rfl) (hst : (assignEach es X.env).findIdx? (·.1) = none := by rfl) : PG X (.Tuple es k pos) (gTup X.K n t) := by
  intro pins s σ H v u Q I r hw
  obtain ⟨a, xs, e1, hq, hl, hw⟩ := hw
  subst e1
  cases r
  obtain ⟨its, rv, ht, hz⟩ := I.tuple hq
  refine assign_Tuple_tuple (I.ok.hd hc) ht (by simp [hn, ← hl, rv.length]) hst fun h' hx => ?_
  have I1 : Inv X pins σ H { s with heap := h' } := I.kept (t' := s.toks) fun b o e => hx b o (Nat.ne_of_lt (Heap.lt_size e)) e
  exact h pins _ σ H xs _ Q I1 (by simpa using rv) hw
def gSub (to ti : TE) (t : TSet) : TG := fun v σ H Q => to σ H fun o H1 => ti σ H1 fun i H2 => t o i v H2 fun H3 => Q σ H3
theorem pg_sub {o i : Expr} {to ti : TE} {t : TSet} (ho : PE X o to) (hi : PE X i ti) (hs : PSet X t)
    (ha : ∀ v, assign (.Subscript o i pos) X.env v = (do
      let ov ← holding [v] (eval o X.env)
      let iv ← holding [v, ov] (eval i X.env)
      standAt pos
      holding [v, ov, iv] (setItem ov iv v)
      release [v, ov, iv] []) := by intro _; rfl) : PG X (.Subscript o i pos) (gSub to ti t) := by
  intro pins s σ H v u Q I r h
  rw [ha]
  refine wpAny_bind (wpAny_holding (thn (ho pins s σ H _ I h) fun ov s1 zq => ?_))
  obtain ⟨x, H1, I1, r1, q1⟩ := zq
  refine wpAny_bind (wpAny_holding (thn (hi pins s1 σ H1 _ I1 q1) fun iv s2 zq => ?_))
  obtain ⟨y, H2, I2, r2, q2⟩ := zq
  refine wpAny_bind (wpAny_standAt (wpAny_bind (wpAny_holding (thn (hs pins s2 σ H2 x y v ov iv u _ I2 r1 r2 r q2) fun _ s3 zq => ?_))))
  obtain ⟨H3, I3, q3⟩ := zq
  exact wpAny_release ⟨σ, H3, I3, q3⟩
def tAsg (te : TE) (g : TG) : TS := fun D σ H => te σ H fun x H1 => g x σ H1 D.nx
theorem ps_asg {tg e : Expr} {te : TE} {g : TG} (he : PE X e te) (hg : PG X tg g) (hs : swapsWithSole [tg] e pos.line X.env = pure false := by rfl) (hw : swappedStores [tg] e X.env = pure none := by rfl)
    (h1 : (assignEach [tg] X.env).map (·.2) = [assign tg X.env] := by rfl) : PS X (.Assign [tg] e pos) (tAsg te g) := by
  intro pins s σ H D I h
  refine wpAny_Assign_stores (thn (he pins s σ H _ I h) fun v s1 ⟨x, H1, I1, r1, q1⟩ => ?_) hs hw
  rw [h1]
  exact thn (hg pins s1 σ H1 x v _ I1 r1 q1) fun _ s2 q => q
theorem ps_set {i : Nat} {x : Str} {e : Expr} {te : TE} {pos' : Pos} (hN : X.N.Nodup) (hi : X.N[i]? = some x) (hx : Loc X.env.scope x) (he : PE X e te) (hs : swapsWith e (some (.Name x pos')) pos.line X.env = pure false := by rfl) (hf : X.fn x = true ∨ X.env.scope.names.lookup x = some .local := by first | exact .inl rfl | exact .inr rfl | assumption) :
    PS X (.Assign [.Name x pos'] e pos) (tAsg te (gName i)) := by
  intro pins s σ H D I h
  refine wpAny_Assign_Name (thn (he pins s σ H _ I h) fun v s1 ⟨y, H1, I1, r1, q1⟩ => ?_) hs
  exact store_ok I1 hN hi hx r1 (fun s2 I2 => ⟨_, H1, I2, q1⟩) hf
end
section
variable {X : Cx} {pos : Pos}
end
structure It where
  go : Nat → Hp → Prop
  yld : Nat → Hp → V → Hp → Prop
  stop : Nat → Hp → Prop
def FpOk (X : Cx) (pins : List (Addr × Obj)) (H : Hp) (b : Addr) : Prop :=
  H b = none ∧ b ≠ X.env.locals ∧ b ∉ X.fs ∧ (b ∈ X.ex ∨ X.s₀.heap.objs.size ≤ b) ∧ (∀ x c, X.env.cells.lookup x = some c → c ≠ b) ∧ ∀ p ∈ X.pn ++ pins, p.1 ≠ b
theorem Inv.fpOk {X : Cx} {pins : List (Addr × Obj)} {σ : St} {H H' : Hp} {s : Shared} {b : Addr} (I : Inv X pins σ H s) (hb : s.heap.objs.size ≤ b) (hn : H' b = none) : FpOk X pins H' b := by
  refine ⟨hn, Nat.ne_of_gt (Nat.lt_of_lt_of_le I.lt hb), I.nofs hb, .inr (Nat.le_trans I.sz hb), fun x c e z => ?_, fun p hp z => ?_⟩
  · obtain ⟨v, q⟩ := I.cell x c e
    exact absurd (Nat.lt_of_lt_of_le q.lt (by rw [z]; exact hb)) (Nat.lt_irrefl _)
  · exact absurd (Nat.lt_of_lt_of_le (Heap.lt_size (I.pin p hp).1) (by rw [z]; exact hb)) (Nat.lt_irrefl _)
structure Turn (P : Program) (w : World) (K : PySem.W.Frag) (tg : Expr) (J : It) (fp : List Addr) (it : Addr) (tn : Nat → Heap → Prop) : Prop where
  mem : it ∈ fp
  obj : ∀ i h, tn i h → ∀ b ∈ fp, ∃ o, h.get? b = some o ∧ ∀ v, o.data ≠ .cell v
  keep : ∀ i h h', tn i h → (∀ b ∈ fp, ∀ o, h.get? b = some o → h'.get? b = some o) → tn i h'
  item : ∀ (X : Cx), X.prog = P → X.w = w → X.K = K → X.calm = true → ∀ (i : Nat) (pins : List (Addr × Obj)) (s : Shared) (σ : St) (H : Hp) (E : Value → Shared → Prop), Inv X pins σ H s → (∀ b ∈ fp, FpOk X pins H b) → tn i s.heap → J.go i H →
    wpAny (model P w) X.A (pyNext (.ref it)) (fun r s1 => ∃ u, r = some u ∧
      wpAny (model P w) X.A (letOwnedTupleGo tg (.ref it) u) (fun _ s2 => ∃ x H', Inv X pins σ H' s2 ∧ RelV x u ∧ J.yld i H x H' ∧ tn (i + 1) s2.heap ∧ ∀ b ∈ fp, H' b = none) E s1) E s
  done : ∀ (X : Cx), X.prog = P → X.w = w → X.K = K → X.calm = true → ∀ (i : Nat) (pins : List (Addr × Obj)) (s : Shared) (σ : St) (H : Hp) (E : Value → Shared → Prop), Inv X pins σ H s → (∀ b ∈ fp, FpOk X pins H b) → tn i s.heap → J.stop i H →
    wpAny (model P w) X.A (pyNext (.ref it)) (fun r s1 => r = none ∧ Inv X pins σ H s1) E s
  self : ∀ (A : Around) (i : Nat) (s : Shared) (Q : Value → Shared → Prop) (E : Value → Shared → Prop), tn i s.heap → Q (.ref it) s → wpAny (model P w) A (pyIter (.ref it)) Q E s
abbrev TI := St → Hp → (It → Hp → Prop) → Prop
def PIE (X : Cx) (pins : List (Addr × Obj)) (σ : St) (tg : Expr) (R : It → Hp → Prop) (itv : Value) (s2 : Shared) : Prop :=
  ∃ (it : Addr) (fp : List Addr) (tn : Nat → Heap → Prop) (J : It) (H' : Hp), itv = .ref it ∧ Inv X pins σ H' s2 ∧ Turn X.prog X.w X.K tg J fp it tn ∧ tn 0 s2.heap ∧ (∀ b ∈ fp, FpOk X pins H' b) ∧ R J H'
def PI (X : Cx) (tg iter : Expr) (wi : TI) : Prop :=
  ∀ (pins : List (Addr × Obj)) (s : Shared) (σ : St) (H : Hp) (R : It → Hp → Prop), Inv X pins σ H s → wi σ H R →
    wpAny (model X.prog X.w) X.A (eval iter X.env) (fun v s1 => wpAny (model X.prog X.w) X.A (pyIter v) (PIE X pins σ tg R) X.xe s1) X.xe s
theorem go_of {M : Model} {A : Around} {E : Value → Shared → Prop} {s : Shared} {tg : Expr} {it : Addr} {u : Value} {o : Obj} {n : String} {vs : Array Value} {Q : Unit → Shared → Prop} (ho : s.heap.get? it = some o) (hc : o.cls = .type n) (hd : o.data = .fields vs)
    (hn : ["enumerate", "zip", "dict_itemiterator", "dict_reverseitemiterator", "odict_iterator", "itertools.zip_longest", "itertools.pairwise"].contains n = false) (hQ : Q () s) : wpAny M A (letOwnedTupleGo tg (.ref it) u) Q E s := by
  unfold letOwnedTupleGo
  cases tg <;> first
    | exact wpAny_pure hQ
    | (cases u <;> first
        | exact wpAny_pure hQ
        | (refine wpAny_bind (wpAny_load ho ?_)
           rw [hc, hd]
           show wpAny M A (if (["enumerate", "zip", "dict_itemiterator", "dict_reverseitemiterator", "odict_iterator", "itertools.zip_longest", "itertools.pairwise"].contains n && vs[0]? == some (rawInt _)) = true then _ else _) Q E s
           rw [if_neg (by intro h; rw [hn, Bool.false_and] at h; cases h)]
           exact wpAny_pure hQ))
noncomputable def Itl (K : PySem.W.Frag) (a : Addr) : It :=
  ⟨fun i H => ∃ xs x, SqL K H a xs ∧ xs[i]? = some x, fun i H x H' => H' = H ∧ ∀ xs, SqL K H a xs → xs[i]? = some x, fun i H => ∃ xs, SqL K H a xs ∧ xs.length ≤ i⟩
noncomputable def Itt (K : PySem.W.Frag) (a : Addr) : It :=
  ⟨fun i H => ∃ xs x, SqT K H a xs ∧ xs[i]? = some x, fun i H x H' => H' = H ∧ ∀ xs, SqT K H a xs → xs[i]? = some x, fun i H => ∃ xs, SqT K H a xs ∧ xs.length ≤ i⟩
noncomputable def Itr (lo : Int) (n : Nat) : It := ⟨fun i _ => i < n, fun i H x H' => H' = H ∧ x = .int (lo + i), fun i _ => n ≤ i⟩
theorem turn_list {P : Program} {w : World} {K : PySem.W.Frag} {tg : Expr} (a it : Addr) : Turn P w K tg (Itl K a) [it] it (fun i h => h.IsListIter it a i) where
  mem := by simp
  obj := fun i h st b hb => by
    have e : b = it := by simpa using hb
    subst e
    obtain ⟨o, e, c, d⟩ := st
    exact ⟨o, e, fun v z => by rw [d] at z; cases z⟩
  keep := fun i h h' st k => st.at fun o e => k it (by simp) o e
  item := by
    intro X hP hw hK hc i pins s σ H E I hf st hg
    subst hP hw hK
    obtain ⟨xs, x, hq, hx⟩ := hg
    obtain ⟨its, rv, p, hz⟩ := I.list hq
    obtain ⟨u, hu, ru⟩ := rv.get hx
    obtain ⟨f0, f1, f2, f3, f4, f5⟩ := hf it (by simp)
    refine wpAny_pyNext_list_item st p.isList (x := u) (by simpa using hu) fun h' st' sb => ?_
    have I1 : Inv X pins σ H { s with heap := h' } := I.turned (t' := s.toks) (fun b o hb e => (sb.2 b hb).trans e) f0 f1 f3 f4 f5
    obtain ⟨o, e, c, d⟩ := id st'
    exact ⟨u, rfl, go_of (s := { s with heap := h' }) e c d (by decide) ⟨x, H, I1, ru, ⟨rfl, fun ys hy => by rw [I.list_inj hy hq]; exact hx⟩, st', fun b hb => (hf b hb).1⟩⟩
  done := by
    intro X hP hw hK hc i pins s σ H E I hf st hg
    subst hP hw hK
    obtain ⟨xs, hq, hx⟩ := hg
    obtain ⟨its, rv, p, hz⟩ := I.list hq
    obtain ⟨f0, f1, f2, f3, f4, f5⟩ := hf it (by simp)
    have hl := rv.length
    exact wpAny_pyNext_list_end (I.ok.hd hc) st p.isList (by simp; omega) fun h' eb => ⟨rfl, I.turned (t' := s.toks) (fun b o hb e => eb b o hb e) f0 f1 f3 f4 f5⟩
  self := fun _ _ _ _ _ st h => wpAny_pyIter_listiter st h
theorem turn_tuple {P : Program} {w : World} {K : PySem.W.Frag} {tg : Expr} (a it : Addr) : Turn P w K tg (Itt K a) [it] it (fun i h => h.IsTupleIter it a i) where
  mem := by simp
  obj := fun i h st b hb => by
    have e : b = it := by simpa using hb
    subst e
    obtain ⟨o, e, c, d⟩ := st
    exact ⟨o, e, fun v z => by rw [d] at z; cases z⟩
  keep := fun i h h' st k => st.at fun o e => k it (by simp) o e
  item := by
    intro X hP hw hK hc i pins s σ H E I hf st hg
    subst hP hw hK
    obtain ⟨xs, x, hq, hx⟩ := hg
    obtain ⟨its, rv, p, hz⟩ := I.tuple hq
    obtain ⟨u, hu, ru⟩ := rv.get hx
    obtain ⟨f0, f1, f2, f3, f4, f5⟩ := hf it (by simp)
    refine wpAny_pyNext_tuple_item st (show s.heap.IsTuple a its.toArray from p) (x := u) (by simpa using hu) fun h' st' sb => ?_
    have I1 : Inv X pins σ H { s with heap := h' } := I.turned (t' := s.toks) (fun b o hb e => (sb.2 b hb).trans e) f0 f1 f3 f4 f5
    obtain ⟨o, e, c, d⟩ := id st'
    exact ⟨u, rfl, go_of (s := { s with heap := h' }) e c d (by decide) ⟨x, H, I1, ru, ⟨rfl, fun ys hy => by rw [I.tuple_inj hy hq]; exact hx⟩, st', fun b hb => (hf b hb).1⟩⟩
  done := by
    intro X hP hw hK hc i pins s σ H E I hf st hg
    subst hP hw hK
    obtain ⟨xs, hq, hx⟩ := hg
    obtain ⟨its, rv, p, hz⟩ := I.tuple hq
    obtain ⟨f0, f1, f2, f3, f4, f5⟩ := hf it (by simp)
    have hl := rv.length
    exact wpAny_pyNext_tuple_end (I.ok.hd hc) st (show s.heap.IsTuple a its.toArray from p) (by simp; omega) fun h' eb => ⟨rfl, I.turned (t' := s.toks) (fun b o hb e => eb b o hb e) f0 f1 f3 f4 f5⟩
  self := fun _ _ _ _ _ st h => wpAny_pyIter_tupleiter st h
theorem turn_range {P : Program} {w : World} {K : PySem.W.Frag} {tg : Expr} (it : Addr) (lo : Int) (n : Nat) : Turn P w K tg (Itr lo n) [it] it (fun i h => IsRangeIter h it (lo + (i : Nat) * 1) ((n : Int) - (i : Nat)) 1) where
  mem := by simp
  obj := fun i h st b hb => by
    have e : b = it := by simpa using hb
    subst e
    exact ⟨_, st, fun v z => by
      have z' : Data.fields _ = Data.cell v := z
      cases z'⟩
  keep := fun i h h' st k => k it (by simp) _ st
  item := by
    intro X hP hw hK hc i pins s σ H E I hf st hg
    subst hP hw hK
    obtain ⟨f0, f1, f2, f3, f4, f5⟩ := hf it (by simp)
    have W := Walks.range (prog := X.prog) (w := X.w) (I.ok.hd hc) it lo 1 n
    refine W.item i s _ _ hg st fun v h' tk hv st' kk => ?_
    obtain ⟨t, rfl⟩ := hv
    have I1 : Inv X pins σ H { s with heap := h', toks := tk } := I.turned (fun b o hb e => kk b o (by simpa using hb) e) f0 f1 f3 f4 f5
    refine ⟨_, rfl, go_of (s := { s with heap := h', toks := tk }) (n := "range_iterator") st' rfl rfl (by decide) ⟨.int (lo + i), H, I1, ⟨t, ?_⟩, ⟨rfl, rfl⟩, st', fun b hb => (hf b hb).1⟩⟩
    rw [Int.mul_one]
  done := by
    intro X hP hw hK hc i pins s σ H E I hf st hg
    subst hP hw hK
    obtain ⟨f0, f1, f2, f3, f4, f5⟩ := hf it (by simp)
    exact wpAny_pyNext_range_end (I.ok.hd hc) st (by have : n ≤ i := hg; omega) fun h' eb => ⟨rfl, I.turned (t' := s.toks) (fun b o hb e => eb b o hb e) f0 f1 f3 f4 f5⟩
  self := fun _ _ _ _ _ st h => wpAny_pyIter_rangeiter st h
end L2
namespace L2
open PySem PySem.Spec PyProof.Rows
section
variable {X : Cx} {tg : Expr}
theorem range_it {pins : List (Addr × Obj)} {σ : St} {H : Hp} {s : Shared} {R : It → Hp → Prop} {E : Value → Shared → Prop} {lo hi : Int} {t u v : Tok} {tk : Nat} (I : Inv X pins σ H s) (h1 : -(2 ^ 62) ≤ lo) (h2 : lo < 2 ^ 62) (h3 : -(2 ^ 62) ≤ hi) (h4 : hi < 2 ^ 62)
    (q : R (Itr lo (hi - lo).toNat) H) : wpAny (model X.prog X.w) X.A (pyIter (.ref s.heap.objs.size)) (PIE X pins σ tg R) E { s with heap := s.heap.push { cls := .type "range", data := .fields #[.int lo t, .int hi u, .int 1 v] }, toks := tk } := by
  refine wpAny_pyIter_range (IsRange.new ..) (small_one h1 h2 h3 h4) ?_
  have I1 : Inv X pins σ H { s with heap := s.heap.push { cls := .type "range", data := .fields #[.int lo t, .int hi u, .int 1 v] }, toks := tk } := I.kept fun b o e => Heap.get?_push_of_some _ e
  refine ⟨(s.heap.push { cls := .type "range", data := .fields #[.int lo t, .int hi u, .int 1 v] }).objs.size, [(s.heap.push { cls := .type "range", data := .fields #[.int lo t, .int hi u, .int 1 v] }).objs.size], _, _, H, rfl,
    I1.kept (t' := tk) fun b o e => Heap.get?_push_of_some _ e, turn_range _ lo (hi - lo).toNat, ?_, fun b hb => ?_, q⟩
  · have e1 : lo + ((0 : Nat) : Int) * 1 = lo := by simp
    have e2 : (((hi - lo).toNat : Nat) : Int) - ((0 : Nat) : Int) = Builtin.Range.rangeSize lo hi 1 := by rw [rangeSize_one]; split <;> omega
    show IsRangeIter _ _ (lo + ((0 : Nat) : Int) * 1) ((((hi - lo).toNat : Nat) : Int) - ((0 : Nat) : Int)) 1
    rw [e1, e2]
    exact Heap.get?_push_size _ rfl
  · have e : b = (s.heap.push { cls := .type "range", data := .fields #[.int lo t, .int hi u, .int 1 v] }).objs.size := by simpa using hb
    subst e
    exact I1.fpOk (Nat.le_refl _) (I1.hok.fresh (Nat.le_refl _))
def iRng1 (ta : TA) : TI := fun σ H R => ta σ H fun vs H1 => ∃ j : Int, vs = [.int j] ∧ -(2 ^ 62) ≤ j ∧ j < 2 ^ 62 ∧ R (Itr 0 j.toNat) H1
theorem pi_range1 {a : Expr} {ta : TA} {p pos : Pos} (hg : Gl X "range") (hm : X.mg "range" = none) (ha : PA X [a] ta) (hs : starEach [a] X.env = [(false, eval a X.env)] := by rfl) : PI X tg (.Call (.Name "range" p) [a] [] pos) (iRng1 ta) := by
  intro pins s σ H R I h
  refine Call_ (ld_blt I hg hm boot_range (PyProof.Rows.callWith_type1 (thn (ha pos pins s σ H _ I h) fun us s1 ⟨vs, H1, I1, r1, q1⟩ => ?_) hs rfl))
  obtain ⟨j, e, q1, q2, q⟩ := q1
  subst e
  cases r1 with
  | cons r rr =>
    cases rr
    obtain ⟨t, rfl⟩ := r
    exact call_range_1 (range_it I1 (by omega) (by omega) q1 q2 (by simpa using q))
def tFor (wi : TI) (g : TG) (tb : TS) : TS := fun D σ H => wi σ H fun J H1 => ∃ W : Nat → Nat → St → Hp → Prop, (∃ m, W 0 m σ H1) ∧ ∀ i m σ H, W i m σ H →
  (J.stop i H ∧ D.nx σ H) ∨ (J.go i H ∧ ∃ N : St → Hp → Prop, (∀ σ' H', N σ' H' → ∃ m', m' < m ∧ W (i + 1) m' σ' H') ∧ ∀ x H', J.yld i H x H' → g x σ H' fun σ2 H2 => tb { D with nx := N, ct := N, bk := D.nx } σ2 H2)
noncomputable def pinsAt (fp : List Addr) (h : Heap) : List (Addr × Obj) := fp.filterMap fun b => (h.get? b).map fun o => (b, o)
theorem mem_pinsAt {fp : List Addr} {h : Heap} {b : Addr} {o : Obj} (hb : b ∈ fp) (e : h.get? b = some o) : (b, o) ∈ pinsAt fp h := List.mem_filterMap.mpr ⟨b, hb, by rw [e]; rfl⟩
theorem of_pinsAt {fp : List Addr} {h : Heap} {p : Addr × Obj} (hp : p ∈ pinsAt fp h) : p.1 ∈ fp ∧ h.get? p.1 = some p.2 := by
  obtain ⟨b, hb, e⟩ := List.mem_filterMap.mp hp
  cases q : h.get? b with
  | none => rw [q] at e; cases e
  | some o =>
    rw [q] at e
    have e' : (b, o) = p := Option.some.inj e
    subst e'
    exact ⟨hb, q⟩
theorem Inv.pinned {pins : List (Addr × Obj)} {σ : St} {H : Hp} {s : Shared} {fp : List Addr} (I : Inv X pins σ H s) (hf : ∀ b ∈ fp, FpOk X pins H b) (ho : ∀ b ∈ fp, ∃ o, s.heap.get? b = some o ∧ ∀ v, o.data ≠ .cell v) : Inv X (pins ++ pinsAt fp s.heap) σ H s :=
  I.pins_of fun p hp => (List.mem_append.mp hp).elim (fun z => I.pin p (List.mem_append_right _ z)) fun z => by
    obtain ⟨hb, e⟩ := of_pinsAt z
    obtain ⟨f0, f1, f2, _⟩ := hf p.1 hb
    obtain ⟨o, e', d⟩ := ho p.1 hb
    rw [e] at e'; cases e'
    exact ⟨e, f0, f1, f2, d⟩
theorem Inv.unpinned {pins pl : List (Addr × Obj)} {σ : St} {H : Hp} {s : Shared} (I : Inv X (pins ++ pl) σ H s) : Inv X pins σ H s := I.pins_of fun p hp => I.pin p (List.mem_append_right _ (List.mem_append_left _ hp))
theorem ps_for {iter : Expr} {body : List Stmt} {wi : TI} {g : TG} {tb : TS} {pos : Pos} (hp : PassesOwn (model X.prog X.w) X.A X.env X.xe) (hc : X.calm = true) (hi : PI X tg iter wi) (hg : PG X tg g) (hb : PSs X body tb)
    (hs : ∀ x, foldedSetIterable iter X.env x = pure x := by intro _; rfl) : PS X (.For tg iter body [] pos) (tFor wi g tb) := by
  intro pins s σ H D I h
  refine wpAny_For (thn (hi pins s σ H _ I h) fun v s1 h1 => thn h1 fun itv s2 h2 => ?_) hs
  obtain ⟨it, fp, tn, J, H2, e, I2, T, st2, f2, W, ⟨m0, w0⟩, turn⟩ := h2
  subst e
  have stat : ∀ {H' : Hp}, (∀ b ∈ fp, H' b = none) → ∀ b ∈ fp, FpOk X pins H' b := fun hn b hb => ⟨hn b hb, (f2 b hb).2⟩
  refine codeAny_forLoop_any (fun n s' => ∃ i σ' H', Inv X pins σ' H' s' ∧ tn i s'.heap ∧ (∀ b ∈ fp, H' b = none) ∧ W i n σ' H') ?_ m0 ⟨0, σ, H2, I2, st2, fun b hb => (f2 b hb).1, w0⟩
  intro n s3 zq
  obtain ⟨i, σ3, H3, I3, st3, fr3, w3⟩ := zq
  rcases turn i n σ3 H3 w3 with ⟨stop, qn⟩ | ⟨go, N, hN, step⟩
  · refine wpAny_passesOwn hp (thn (T.done X rfl rfl rfl hc i pins s3 σ3 H3 X.xe I3 (stat fr3) st3 stop) fun r s4 zq => ?_)
    obtain ⟨hr, I4⟩ := zq
    subst hr
    exact wpAny_execs_nil ⟨σ3, H3, I4, qn⟩
  · refine wpAny_passesOwn hp (thn (T.item X rfl rfl rfl hc i pins s3 σ3 H3 X.xe I3 (stat fr3) st3 go) fun r s4 zq => ?_)
    obtain ⟨u, hr, h4⟩ := zq
    subst hr
    refine wpAny_passesOwn hp (thn h4 fun _ s5 zq => ?_)
    obtain ⟨x, H5, I5, r5, y5, st5, fr5⟩ := zq
    have I5' := I5.pinned (stat fr5) (T.obj _ _ st5)
    refine wpAny_passesOwn hp (thn (hg _ s5 σ3 H5 x u _ I5' r5 (step x H5 y5)) fun _ s6 zq => ?_)
    obtain ⟨σ6, H6, I6, q6⟩ := zq
    refine wpAny_passesOwn hp (thn (hb _ s6 σ6 H6 _ I6 q6) fun f s7 q7 => ?_)
    have again : ∀ {σ7 : St} {H7 : Hp}, Inv X (pins ++ pinsAt fp s5.heap) σ7 H7 s7 → N σ7 H7 → ∃ m, m < n ∧ ∃ i σ' H', Inv X pins σ' H' s7 ∧ tn i s7.heap ∧ (∀ b ∈ fp, H' b = none) ∧ W i m σ' H' := fun {σ7 H7} I7 n7 => by
      obtain ⟨m', hm, w7⟩ := hN σ7 H7 n7
      refine ⟨m', hm, i + 1, σ7, H7, I7.unpinned, T.keep _ _ _ st5 fun b hb o e => (I7.pin (b, o) (List.mem_append_right _ (List.mem_append_right _ (mem_pinsAt hb e)))).1, fun b hb => ?_, w7⟩
      obtain ⟨o, e, d⟩ := T.obj _ _ st5 b hb
      exact (I7.pin (b, o) (List.mem_append_right _ (List.mem_append_right _ (mem_pinsAt hb e)))).2.1
    cases f with
    | next => obtain ⟨σ7, H7, I7, n7⟩ := q7; exact again I7 n7
    | cont => obtain ⟨σ7, H7, I7, n7⟩ := q7; exact again I7 n7
    | brk => obtain ⟨σ7, H7, I7, q7⟩ := q7; exact ⟨σ7, H7, I7.unpinned, q7⟩
    | ret v => obtain ⟨x7, σ7, H7, I7, r7, q7⟩ := q7; exact ⟨x7, σ7, H7, I7.unpinned, r7, q7⟩
end
end L2
namespace L2
open PySem PySem.Spec PyProof.Rows
abbrev R2 := V → V → Hp → VK → Prop
def OpR (X : Cx) (f : Value → Value → Sem Value) (r : R2) : Prop :=
  ∀ (pins : List (Addr × Obj)) (s : Shared) (σ : St) (H : Hp) (x y : V) (v u : Value) (Q : VK), Inv X pins σ H s → RelV x v → RelV y u → r x y H Q →
    wpAny (model X.prog X.w) X.A (f v u) (EP X pins σ Q) X.xe s
def UnR (X : Cx) (f : Value → Sem Value) (r : V → Hp → VK → Prop) : Prop :=
  ∀ (pins : List (Addr × Obj)) (s : Shared) (σ : St) (H : Hp) (x : V) (v : Value) (Q : VK), Inv X pins σ H s → RelV x v → r x H Q →
    wpAny (model X.prog X.w) X.A (f v) (EP X pins σ Q) X.xe s
def CallR (X : Cx) (f : Value) (r : List V → Hp → VK → Prop) : Prop :=
  ∀ (pins : List (Addr × Obj)) (s : Shared) (σ : St) (H : Hp) (xs : List V) (us : List Value) (Q : VK), Inv X pins σ H s → Vals xs us → r xs H Q →
    wpAny (model X.prog X.w) X.A (call f us) (EP X pins σ Q) X.xe s
def tOp (r : R2) (ta tb : TE) : TE := fun σ H Q => ta σ H fun x H1 => tb σ H1 fun y H2 => r x y H2 Q
def tUn (r : V → Hp → VK → Prop) (ta : TE) : TE := fun σ H Q => ta σ H fun x H1 => r x H1 Q
def rI (C : Int → Int → Prop) (g : Int → Int → V) : R2 := fun x y H Q => ∃ i j, x = .int i ∧ y = .int j ∧ C i j ∧ Q (g i j) H
def rI0 (g : Int → Int → V) : R2 := fun x y H Q => ∃ i j, x = .int i ∧ y = .int j ∧ Q (g i j) H
def rU (g : Int → V) : V → Hp → VK → Prop := fun x H Q => ∃ i, x = .int i ∧ Q (g i) H
section
variable {X : Cx} {a b c : Expr} {ta tb tc : TE} {pos : Pos}
theorem binT (ha : PE X a ta) (hb : PE X b tb) {pins : List (Addr × Obj)} {s : Shared} {σ : St} {H : Hp} {R : V → V → Hp → Prop} (I : Inv X pins σ H s)
    (h : ta σ H fun x H1 => tb σ H1 fun y H2 => R x y H2) {Q : Value → Shared → Prop} {f : Value → Value → Sem Value}
    (hf : ∀ v u s2 x y H2, Inv X pins σ H2 s2 → RelV x v → RelV y u → R x y H2 → wpAny (model X.prog X.w) X.A (f v u) Q X.xe s2) :
    wpAny (model X.prog X.w) X.A (eval a X.env) (fun v s₁ => wpAny (model X.prog X.w) X.A (eval b X.env) (fun u s₂ => wpAny (model X.prog X.w) X.A (f v u) Q X.xe s₂) X.xe s₁) X.xe s := by
  refine thn (ha pins s σ H _ I h) fun v s1 zq => ?_
  obtain ⟨x, H1, I1, r1, q1⟩ := zq
  refine thn (hb pins s1 σ H1 _ I1 q1) fun u s2 zq => ?_
  obtain ⟨y, H2, I2, r2, q2⟩ := zq
  exact hf v u s2 x y H2 I2 r1 r2 q2
theorem pe_op {op : Operator} {r : R2} (ho : OpR X (binaryOp op) r) (ha : PE X a ta) (hb : PE X b tb) : PE X (.BinOp a op b pos) (tOp r ta tb) := by
  intro pins s σ H Q I h
  exact wpAny_BinOp (binT ha hb I h fun v u s2 x y H2 I2 rx ry q => ho pins s2 σ H2 x y v u Q I2 rx ry q)
theorem pe_un {op : UnaryOp} {r : V → Hp → VK → Prop} (ho : UnR X (unaryOp op) r) (ha : PE X a ta) : PE X (.UnaryOp op a pos) (tUn r ta) := by
  intro pins s σ H Q I h
  exact UnaryOp_ (thn (ha pins s σ H _ I h) fun v s1 ⟨x, H1, I1, r1, q1⟩ => ho pins s1 σ H1 x v Q I1 r1 q1)
theorem opI {f : Value → Value → Sem Value} {C : Int → Int → Prop} {g : Int → Int → Int}
    (rule : ∀ (i j : Int) (t u : Tok) (s : Shared) (Q : Value → Shared → Prop) (E : Value → Shared → Prop), C i j → Q (.int (g i j) s.toks) { s with toks := s.toks + 1 } → wpAny (model X.prog X.w) X.A (f (.int i t) (.int j u)) Q E s) :
    OpR X f (rI C fun i j => .int (g i j)) := by
  intro pins s σ H x y v u Q I rx ry h
  obtain ⟨i, j, rfl, rfl, hc, q⟩ := h
  obtain ⟨t, rfl⟩ := rx
  obtain ⟨t', rfl⟩ := ry
  exact rule i j t t' s _ _ hc ⟨.int (g i j), H, I.tok _, ⟨_, rfl⟩, q⟩
theorem opI0 {f : Value → Value → Sem Value} {g : Int → Int → Int}
    (rule : ∀ (i j : Int) (t u : Tok) (s : Shared) (Q : Value → Shared → Prop) (E : Value → Shared → Prop), Q (.int (g i j) s.toks) { s with toks := s.toks + 1 } → wpAny (model X.prog X.w) X.A (f (.int i t) (.int j u)) Q E s) :
    OpR X f (rI0 fun i j => .int (g i j)) := by
  intro pins s σ H x y v u Q I rx ry h
  obtain ⟨i, j, rfl, rfl, q⟩ := h
  obtain ⟨t, rfl⟩ := rx
  obtain ⟨t', rfl⟩ := ry
  exact rule i j t t' s _ _ ⟨.int (g i j), H, I.tok _, ⟨_, rfl⟩, q⟩
theorem opB0 {f : Value → Value → Sem Value} {g : Int → Int → Bool}
    (rule : ∀ (i j : Int) (t u : Tok) (s : Shared) (Q : Value → Shared → Prop) (E : Value → Shared → Prop), Q (.bool (g i j)) s → wpAny (model X.prog X.w) X.A (f (.int i t) (.int j u)) Q E s) :
    OpR X f (rI0 fun i j => .bl (g i j)) := by
  intro pins s σ H x y v u Q I rx ry h
  obtain ⟨i, j, rfl, rfl, q⟩ := h
  obtain ⟨t, rfl⟩ := rx
  obtain ⟨t', rfl⟩ := ry
  exact rule i j t t' s _ _ ⟨.bl (g i j), H, I, rfl, q⟩
def CDiv (i j : Int) : Prop := 0 < j ∧ j < 1073741824
def CPow (i j : Int) : Prop := 0 ≤ j ∧ j ≤ 1000000 ∧ i.natAbs < 2 ^ 64
def CMul (i j : Int) : Prop := (-(2 ^ 64) < i ∧ i < 2 ^ 64) ∨ (-(2 ^ 64) < j ∧ j < 2 ^ 64)
theorem CMul.ok {i j : Int} (h : CMul i j) : IntMulOk i j := by
  rcases h with ⟨h1, h2⟩ | ⟨h1, h2⟩
  · exact .of_left (intBits_le_64 h1 h2)
  · exact .of_right (intBits_le_64 h1 h2)
theorem op_add : OpR X (binaryOp .Add) (rI0 fun i j => .int (i + j)) := opI0 fun _ _ _ _ _ _ _ q => add_int q
theorem op_sub : OpR X (binaryOp .Sub) (rI0 fun i j => .int (i - j)) := opI0 fun _ _ _ _ _ _ _ q => sub_int q
theorem op_mul : OpR X (binaryOp .Mult) (rI CMul fun i j => .int (i * j)) := opI fun _ _ _ _ _ _ _ hc q => mul_int q hc.ok
theorem op_mod : OpR X (binaryOp .Mod) (rI (fun _ j => 0 < j) fun i j => .int (i % j)) := opI fun i j _ _ _ _ _ hc q => by
  have h1 : (0 : Int) < j := hc
  exact mod_int' (by omega) (by rw [Int.fmod_eq_emod_of_nonneg i (by omega)]; exact q)
theorem unI {f : Value → Sem Value} {g : Int → Int}
    (rule : ∀ (i : Int) (t : Tok) (s : Shared) (Q : Value → Shared → Prop) (E : Value → Shared → Prop), Q (.int (g i) s.toks) { s with toks := s.toks + 1 } → wpAny (model X.prog X.w) X.A (f (.int i t)) Q E s) :
    UnR X f (rU fun i => .int (g i)) := by
  intro pins s σ H x v Q I rx h
  obtain ⟨i, rfl, q⟩ := h
  obtain ⟨t, rfl⟩ := rx
  exact rule i t s _ _ ⟨.int (g i), H, I.tok _, ⟨_, rfl⟩, q⟩
theorem un_neg : UnR X (unaryOp .USub) (rU fun i => .int (-i)) := unI fun _ _ _ _ _ q => neg_int q
end
noncomputable def scal : V → V → Bool
  | .non, .non => true | .non, .int _ => true | .int _, .non => true | .non, .bl _ => true | .bl _, .non => true | .non, .str _ => true | .str _, .non => true
  | .int _, .int _ => true | .bl _, .bl _ => true | .str _, .str _ => true | .byt _, .byt _ => true
  | .int _, .str _ => true | .str _, .int _ => true | .bl _, .str _ => true | .str _, .bl _ => true
  | _, _ => false
def rEq : R2 := fun x y H Q => scal x y = true ∧ Q (.bl (decide (x = y))) H
def rNe : R2 := fun x y H Q => scal x y = true ∧ Q (.bl (!decide (x = y))) H
theorem dec_int {i j : Int} : decide (V.int i = V.int j) = (i == j) := by
  rw [Bool.eq_iff_iff]
  simp
theorem dec_bl {i j : Bool} : decide (V.bl i = V.bl j) = (i == j) := by
  rw [Bool.eq_iff_iff]
  simp
theorem dec_str {i j : Str} : decide (V.str i = V.str j) = (i == j) := by
  rw [Bool.eq_iff_iff]
  simp
theorem dec_byt {i j : Array UInt8} : decide (V.byt i = V.byt j) = (i.toList == j.toList) := by
  rw [Bool.eq_iff_iff]
  cases i
  cases j
  simp
section
variable {X : Cx} {a b c : Expr} {ta tb tc : TE} {pos : Pos}
theorem fin_bl {pins : List (Addr × Obj)} {σ : St} {H : Hp} {s : Shared} {Q : VK} {k k' : Bool} (I : Inv X pins σ H s) (q : Q (.bl k) H) (e : k = k') : EP X pins σ Q (.bool k') s := by
  subst e
  exact ⟨.bl k, H, I, rfl, q⟩
theorem op_eq : OpR X (compareOp .Eq) rEq := by
  intro pins s σ H x y v u Q I rx ry h
  obtain ⟨hs, q⟩ := h
  cases x with
  | non =>
    cases rx
    cases y with
    | non => cases ry; exact PySem.EqNone.eq_none_none (fin_bl I q (by simp))
    | bl j => cases ry; exact PySem.EqNone.eq_none_bool (fin_bl I q (by simp))
    | int j => obtain ⟨t', rfl⟩ := ry; exact PySem.EqNone.eq_none_int (fin_bl I q (by simp))
    | str j => obtain ⟨t', rfl⟩ := ry; exact PySem.EqNone.eq_none_str (fin_bl I q (by simp))
    | _ => exact absurd (show false = true from hs) Bool.false_ne_true
  | bl i =>
    cases rx
    cases y with
    | non => cases ry; exact PySem.EqNone.eq_bool_none (fin_bl I q (by simp))
    | bl j => cases ry; exact eq_bool (fin_bl I q dec_bl)
    | str j => obtain ⟨t', rfl⟩ := ry; exact PySem.EqMixed.eq_bool_str (fin_bl I q (by simp))
    | _ => exact absurd (show false = true from hs) Bool.false_ne_true
  | int i =>
    obtain ⟨t, rfl⟩ := rx
    cases y with
    | non => cases ry; exact PySem.EqNone.eq_int_none (fin_bl I q (by simp))
    | int j => obtain ⟨t', rfl⟩ := ry; exact eq_int (fin_bl I q dec_int)
    | str j => obtain ⟨t', rfl⟩ := ry; exact PySem.EqMixed.eq_int_str (fin_bl I q (by simp))
    | _ => exact absurd (show false = true from hs) Bool.false_ne_true
  | str i =>
    obtain ⟨t, rfl⟩ := rx
    cases y with
    | non => cases ry; exact PySem.EqNone.eq_str_none (fin_bl I q (by simp))
    | bl j => cases ry; exact PySem.EqMixed.eq_str_bool (fin_bl I q (by simp))
    | int j => obtain ⟨t', rfl⟩ := ry; exact PySem.EqMixed.eq_str_int (fin_bl I q (by simp))
    | str j => obtain ⟨t', rfl⟩ := ry; exact eq_str (fin_bl I q dec_str)
    | _ => exact absurd (show false = true from hs) Bool.false_ne_true
  | byt i =>
    obtain ⟨t, rfl⟩ := rx
    cases y with
    | byt j => obtain ⟨t', rfl⟩ := ry; exact PySem.W.eq_bytes (fin_bl I q dec_byt)
    | _ => exact absurd (show false = true from hs) Bool.false_ne_true
  | _ => cases y <;> exact absurd (show false = true from hs) Bool.false_ne_true
theorem op_ne : OpR X (compareOp .NotEq) rNe := by
  intro pins s σ H x y v u Q I rx ry h
  obtain ⟨hs, q⟩ := h
  cases x with
  | non =>
    cases rx
    cases y with
    | non => cases ry; exact PySem.EqNone.ne_none_none (fin_bl I q (by simp))
    | bl j => cases ry; exact PySem.EqNone.ne_none_bool (fin_bl I q (by simp))
    | int j => obtain ⟨t', rfl⟩ := ry; exact PySem.EqNone.ne_none_int (fin_bl I q (by simp))
    | str j => obtain ⟨t', rfl⟩ := ry; exact PySem.EqNone.ne_none_str (fin_bl I q (by simp))
    | _ => exact absurd (show false = true from hs) Bool.false_ne_true
  | bl i =>
    cases rx
    cases y with
    | non => cases ry; exact PySem.EqNone.ne_bool_none (fin_bl I q (by simp))
    | bl j => cases ry; exact ne_bool (fin_bl I q (congrArg not dec_bl))
    | str j => obtain ⟨t', rfl⟩ := ry; exact PySem.EqMixed.ne_bool_str (fin_bl I q (by simp))
    | _ => exact absurd (show false = true from hs) Bool.false_ne_true
  | int i =>
    obtain ⟨t, rfl⟩ := rx
    cases y with
    | non => cases ry; exact PySem.EqNone.ne_int_none (fin_bl I q (by simp))
    | int j => obtain ⟨t', rfl⟩ := ry; exact ne_int (fin_bl I q (congrArg not dec_int))
    | str j => obtain ⟨t', rfl⟩ := ry; exact PySem.EqMixed.ne_int_str (fin_bl I q (by simp))
    | _ => exact absurd (show false = true from hs) Bool.false_ne_true
  | str i =>
    obtain ⟨t, rfl⟩ := rx
    cases y with
    | non => cases ry; exact PySem.EqNone.ne_str_none (fin_bl I q (by simp))
    | bl j => cases ry; exact PySem.EqMixed.ne_str_bool (fin_bl I q (by simp))
    | int j => obtain ⟨t', rfl⟩ := ry; exact PySem.EqMixed.ne_str_int (fin_bl I q (by simp))
    | str j => obtain ⟨t', rfl⟩ := ry; exact ne_str (fin_bl I q (congrArg not dec_str))
    | _ => exact absurd (show false = true from hs) Bool.false_ne_true
  | byt i =>
    obtain ⟨t, rfl⟩ := rx
    cases y with
    | byt j => obtain ⟨t', rfl⟩ := ry; exact PySem.W.ne_bytes (fin_bl I q (congrArg not dec_byt))
    | _ => exact absurd (show false = true from hs) Bool.false_ne_true
  | _ => cases y <;> exact absurd (show false = true from hs) Bool.false_ne_true
theorem op_lt : OpR X (compareOp .Lt) (rI0 fun i j => .bl (decide (i < j))) := opB0 fun _ _ _ _ _ _ _ q => lt_int q
theorem op_le : OpR X (compareOp .LtE) (rI0 fun i j => .bl (decide (i ≤ j))) := opB0 fun _ _ _ _ _ _ _ q => le_int q
theorem op_gt : OpR X (compareOp .Gt) (rI0 fun i j => .bl (decide (j < i))) := opB0 fun _ _ _ _ _ _ _ q => gt_int q
theorem op_lt_str : OpR X (compareOp .Lt) (fun x y H Q => ∃ i j, x = .str i ∧ y = .str j ∧ Q (.bl (decide (i.cps.toList < j.cps.toList))) H) := by
  intro pins s σ H x y v u Q I rx ry h
  obtain ⟨i, j, rfl, rfl, q⟩ := h
  obtain ⟨t, rfl⟩ := rx
  obtain ⟨t', rfl⟩ := ry
  exact lt_str (fin_bl I q rfl)
theorem op_in_str : OpR X (compareOp .In) (fun x y H Q => ∃ i j, x = .str i ∧ y = .str j ∧ Q (.bl (!(Builtin.Str.occurrences j i 0 j.length 1).isEmpty)) H) := by
  intro pins s σ H x y v u Q I rx ry h
  obtain ⟨i, j, rfl, rfl, q⟩ := h
  obtain ⟨t, rfl⟩ := rx
  obtain ⟨t', rfl⟩ := ry
  exact in_str (fin_bl I q rfl)
theorem op_notN : OpR X (compareOp .IsNot) (fun x y H Q => y = .non ∧ Q (.bl (!decide (x = .non))) H) := by
  intro pins s σ H x y v u Q I rx ry h
  obtain ⟨rfl, q⟩ := h
  cases ry
  refine isnot_none_gen (fin_bl I q ?_)
  cases x <;> first
    | (cases rx; rfl)
    | (obtain ⟨t, rfl⟩ := rx; rfl)
theorem pe_cmpR {op : CmpOp} {r : R2} (ho : OpR X (compareOp op) r) (ha : PE X a ta) (hb : PE X b tb) (hm : behindInMarks op b = false) : PE X (.Compare a [op] [b] pos) (tOp r ta tb) := by
  intro pins s σ H Q I h
  exact wpAny_Compare1 (binT ha hb I h fun v u s2 x y H2 I2 rx ry q => ho pins s2 σ H2 x y v u Q I2 rx ry q) hm
def tTest (t : TE) : TT := fun σ H Q => t σ H fun x H' => ∃ k, x = .bl k ∧ Q k H'
theorem pt_cmpR {op : CmpOp} {r : R2} (ho : OpR X (compareOp op) r) (ha : PE X a ta) (hb : PE X b tb) (hm : behindInMarks op b = false) : PT X (.Compare a [op] [b] pos) (tTest (tOp r ta tb)) := by
  intro pins s σ H Q I h
  refine wpAny_isTrue_Compare1 (thn (ha pins s σ H _ I h) fun v s1 ⟨x, H1, I1, r1, q1⟩ => thn (hb pins s1 σ H1 _ I1 q1) fun u s2 ⟨y, H2, I2, r2, q2⟩ =>
    thn (ho pins s2 σ H2 x y v u _ I2 r1 r2 q2) fun c s3 ⟨z, H3, I3, r3, k, e, q3⟩ => ?_) hm
  subst e
  cases r3
  exact wpAny_truthy_bool ⟨H3, I3, q3⟩
def tChain (r r' : R2) (ta tb tc : TE) : TE := fun σ H Q => ta σ H fun x H1 => tb σ H1 fun y H2 => r x y H2 fun z H3 => ∃ k, z = .bl k ∧
  (if k = true then tc σ H3 fun w' H4 => r' y w' H4 Q else Q (.bl false) H3)
theorem pe_chain {op op' : CmpOp} {r r' : R2} (ho : OpR X (compareOp op) r) (ho' : OpR X (compareOp op') r') (ha : PE X a ta) (hb : PE X b tb) (hc : PE X c tc)
    (hm : lastMarks [op, op'] [b, c] = false := by with_unfolding_all rfl) : PE X (.Compare a [op, op'] [b, c] pos) (tChain r r' ta tb tc) := by
  intro pins s σ H Q I h
  refine Compare_chain (thn (ha pins s σ H _ I h) fun v s1 ⟨x, H1, I1, r1, q1⟩ => chain_link (thn (hb pins s1 σ H1 _ I1 q1) fun u s2 ⟨y, H2, I2, r2, q2⟩ =>
    thn (ho pins s2 σ H2 x y v u _ I2 r1 r2 q2) fun d s3 ⟨z, H3, I3, r3, k, e, q3⟩ => ?_)) hm
  subst e
  cases r3
  refine wpAny_truthy_bool ?_
  cases k with
  | false => exact ite_ff ⟨.bl false, H3, I3, rfl, q3⟩
  | true => exact ite_tt (chain_last (thn (hc pins s3 σ H3 _ I3 q3) fun w' s4 ⟨z', H4, I4, r4, q4⟩ => ho' pins s4 σ H4 y z' u w' Q I4 r2 r4 q4))
theorem pt_chain {op op' : CmpOp} {r r' : R2} (ho : OpR X (compareOp op) r) (ho' : OpR X (compareOp op') r') (ha : PE X a ta) (hb : PE X b tb) (hc : PE X c tc)
    (hm : lastMarks [op, op'] [b, c] = false := by with_unfolding_all rfl) : PT X (.Compare a [op, op'] [b, c] pos) (tTest (tChain r r' ta tb tc)) := by
  intro pins s σ H Q I h
  refine isTrue_chain (thn (ha pins s σ H _ I h) fun v s1 ⟨x, H1, I1, r1, q1⟩ => test_link (thn (hb pins s1 σ H1 _ I1 q1) fun u s2 ⟨y, H2, I2, r2, q2⟩ =>
    thn (ho pins s2 σ H2 x y v u _ I2 r1 r2 q2) fun d s3 ⟨z, H3, I3, r3, k, e, q3⟩ => ?_)) hm
  subst e
  cases r3
  refine wpAny_truthy_bool ?_
  cases k with
  | false =>
    obtain ⟨k', e', q'⟩ := q3
    cases e'
    exact ite_ff ⟨H3, I3, q'⟩
  | true =>
    refine ite_tt (test_last (thn (hc pins s3 σ H3 _ I3 q3) fun w' s4 ⟨z', H4, I4, r4, q4⟩ => thn (ho' pins s4 σ H4 y z' u w' _ I4 r2 r4 q4) fun d' s5 zq => ?_))
    obtain ⟨z2, H5, I5, r5, k2, e2, q5⟩ := zq
    subst e2
    cases r5
    exact wpAny_truthy_bool ⟨H5, I5, q5⟩
theorem line63 : (sizeLine : Nat) < 2 ^ 63 := by rw [sizeLine_eq]; decide
theorem op_add_str : OpR X (binaryOp .Add) (fun x y H Q => ∃ i j, x = .str i ∧ y = .str j ∧ i.length + j.length ≤ sizeLine ∧ Q (.str (i ++ j)) H) := by
  intro pins s σ H x y v u Q I rx ry h
  obtain ⟨i, j, rfl, rfl, hz, q⟩ := h
  obtain ⟨t, rfl⟩ := rx
  obtain ⟨t', rfl⟩ := ry
  exact add_str (fun t' tk => ⟨.str (i ++ j), H, I.tok _, ⟨_, rfl⟩, q⟩) hz
theorem vals1 {x : V} {us : List Value} (r : Vals [x] us) : ∃ u, us = [u] ∧ RelV x u := by
  cases r with
  | cons r1 r2 => cases r2; exact ⟨_, rfl, r1⟩
theorem vals2 {x y : V} {us : List Value} (r : Vals [x, y] us) : ∃ u w', us = [u, w'] ∧ RelV x u ∧ RelV y w' := by
  cases r with
  | cons r1 r2 =>
    cases r2 with
    | cons r3 r4 => cases r4; exact ⟨_, _, rfl, r1, r3⟩
theorem call_int1 : CallR X (.type "int") (fun xs H Q => (∃ i, xs = [.int i] ∧ Q (.int i) H) ∨ ∃ k, xs = [.bl k] ∧ Q (.int (if k then 1 else 0)) H) := by
  intro pins s σ H xs us Q I r h
  rcases h with ⟨i, rfl, q⟩ | ⟨k, rfl, q⟩
  · obtain ⟨u, rfl, t, rfl⟩ := vals1 r
    exact call_int_int ⟨.int i, H, I, ⟨_, rfl⟩, q⟩
  · obtain ⟨u, rfl, r1⟩ := vals1 r
    cases r1
    exact call_int_bool ⟨.int (if k then 1 else 0), H, I.tok _, ⟨_, rfl⟩, q⟩
end
end L2
namespace L2
open PySem PySem.Spec PyProof.Rows
structure ObjM (h : Heap) (x dx C : Addr) (mA : Str → Option Value) : Prop where
  obj : h.get? x = some (PySem.W.instObj C dx)
  ns : h.Ns1 dx mA
  ne : dx ≠ x
theorem lookIn_ns {h : Heap} {dx : Addr} {mA : Str → Option Value} (n : h.Ns1 dx mA) : ∃ od, h.get? dx = some od ∧ ∀ name, PySem.W.lookIn name od = some (mA name) := by
  obtain ⟨o, es, ep, ho, hd, hk, _, hm⟩ := n
  refine ⟨o, ho, fun name => ?_⟩
  have e := hm name
  unfold nsFind findBy at e
  rw [← Array.find?_toList] at e
  unfold PySem.W.lookIn
  rw [hd]
  dsimp only
  split
  · rename_i y q
    rw [q] at e
    exact congrArg some e
  · rename_i q
    rw [q] at e
    have a : es.toList.any (·.refKey) = false := by
      rw [List.any_eq_false]
      intro y hy
      obtain ⟨z, t, hkey⟩ := hk y (Array.mem_toList_iff.mp hy)
      simp [DictEntry.refKey, hkey]
    have a' : ¬ es.toList.any (·.refKey) = true := by rw [a]; exact Bool.false_ne_true
    rw [if_neg a']
    exact congrArg some e
theorem ObjM.look {h : Heap} {x dx C : Addr} {mA : Str → Option Value} (I : ObjM h x dx C mA) : ∃ od, PySem.W.InstAt h x (PySem.W.instObj C dx) C (some od) ∧ ∀ name, PySem.W.lookIn name od = some (mA name) :=
  let ⟨od, ho, hl⟩ := lookIn_ns I.ns
  ⟨od, ⟨I.obj, rfl, rfl, ho⟩, hl⟩
section
variable {prog : Program} {w : World} {A : Around} {E : Value → Shared → Prop} {s : Shared} {K : PySem.W.Frag} {x dx C f : Addr} {mA : Str → Option Value} {name : Str} {v : Value}
end
theorem RelO.some_of {v : V} {o : Option Value} (r : RelO (some v) o) : ∃ u, o = some u ∧ RelV v u := by
  cases o with
  | none => exact (show False from r).elim
  | some u => exact ⟨u, rfl, r⟩
section
variable {P : Program} {w : World} {H H' : Hp} {h h' : Heap} {a C dx : Addr} {fs fs' : List (Str × V)}
theorem ins_get (hok : HOk P w H h) (e : H a = some (.ins C dx fs)) : ∃ mA, ObjM h a dx C mA ∧ (∀ f, RelO (fs.lookup f) (mA f)) ∧ PySem.Within mA (fs.map (·.1)) ∧ fs.length ≤ 1000 ∧ H dx = some (.own a) := by
  obtain ⟨d, z, ne, ob, mA, n, r, q⟩ := (show ObjOk P w H h a (.ins C dx fs) from hok a _ e)
  exact ⟨mA, ⟨ob, n, ne⟩, r, q, z, d⟩
end
structure Cls (K : PySem.W.Frag) (C : Addr) : Prop where
  pg : PySem.W.plainGet K C Str.empty = true
  hd : PySem.W.hasDictIn K C = true
  po : PySem.W.plainOver K C = true
  sa : PySem.W.findIn K (.ref C) "__setattr__" = some (some (.builtin "object.__setattr__"))
theorem Cls.get {K : PySem.W.Frag} {C : Addr} (c : Cls K C) (f : Str) : PySem.W.plainGet K C f = true := c.pg
def NoAttr (K : PySem.W.Frag) (C : Addr) (f : Str) : Prop := PySem.W.findIn K (.ref C) f = some none
structure Con (K : PySem.W.Frag) (C : Addr) (f : Str) (v : V) (u : Value) : Prop where
  at_ : PySem.W.findIn K (.ref C) f = some (some u)
  rel : RelV v u
  get : PySem.W.specialIn K u "__get__" = some none
  cp : PySem.W.copiedNames.contains f = false
structure Meth (K : PySem.W.Frag) (C : Addr) (m : Str) (f : Addr) : Prop where
  at_ : PySem.W.findIn K (.ref C) m = some (some (.ref f))
  fn : PySem.W.isFn K (.ref f) = true
  kp : PySem.W.keepIn K (.ref f) = true
section
variable {X : Cx} {pins : List (Addr × Obj)} {σ : St} {H : Hp} {s : Shared} {a C dx : Addr} {fs : List (Str × V)} {f : Str} {v : V} {A : Around} {E : Value → Shared → Prop}
end
section
variable {X : Cx} {o e value : Expr} {f : Str} {pos pos' tpos : Pos} {ta tv : TE}
end
section
variable {X : Cx} {pins : List (Addr × Obj)} {σ : St} {H : Hp} {s : Shared} {A : Around} {E : Value → Shared → Prop} {Q : Value → Shared → Prop} {c : Value} {b : Bool}
inductive TyOf (K : PySem.W.Frag) (H : Hp) : V → Value → Prop where
  | non : TyOf K H .non (.type "NoneType")
  | bl (x : Bool) : TyOf K H (.bl x) (.type "bool")
  | int (i : Int) : TyOf K H (.int i) (.type "int")
  | str (x : Str) : TyOf K H (.str x) (.type "str")
  | flt (x : UInt64) : TyOf K H (.flt x) (.type "float")
  | lst {a : Addr} {xs : List V} (e : H a = some (.lst xs)) : TyOf K H (.ref a) (.type "list")
  | frz {a : Addr} {o : Obj} {xs : List V} (e : H a = some (.frz o (.lst xs))) : TyOf K H (.ref a) (.type "list")
  | tup {a : Addr} {xs : List V} (e : H a = some (.tup xs)) : TyOf K H (.ref a) (.type "tuple")
  | dK {a : Addr} {kvs : List (Key × V)} (e : H a = some (.dK kvs)) : TyOf K H (.ref a) (.type "dict")
  | dT {a : Addr} {kvs : List (List Key × V)} (e : H a = some (.dT kvs)) : TyOf K H (.ref a) (.type "dict")
  | ins {a C dx : Addr} {fs : List (Str × V)} (e : H a = some (.ins C dx fs)) (cl : Cls K C) (ha : PySem.W.findIn K (.ref C) "__class__" = some (some (.builtin "object.__class__")))
      (hn : PySem.W.specialIn K (.builtin "object.__class__") "__get__" = some (some (.builtin "getset_descriptor.__get__"))) (htk : PySem.W.takesIn K (.builtin "object.__class__") = some true)
      (hm : PySem.W.mroIn K C (.type "object") = some true) : TyOf K H (.ref a) (.ref C)
theorem isinst_ok {x : V} {u t : Value} (I : Inv X pins σ H s) (rx : RelV x u) (ty : TyOf X.K H x t) (e : PySem.W.kitOne X.K t c = some b) (h : ∀ tk, Q (.bool b) { s with toks := tk }) :
    wpAny (model X.prog X.w) A (call (.builtin "isinstance") [u, c]) Q E s := by
  cases ty with
  | non => cases (show u = Value.none from rx); exact PySem.W.kia_one PySem.W.kitx_none I.kIn True.intro e (fun z => nomatch z) h
  | bl y => cases (show u = Value.bool y from rx); exact PySem.W.kia_one PySem.W.kitx_bool I.kIn True.intro e (fun z => nomatch z) h
  | int i => obtain ⟨t, q⟩ := (show ∃ t, u = Value.int i t from rx); cases q; exact PySem.W.kia_one PySem.W.kitx_int I.kIn True.intro e (fun z => nomatch z) h
  | str y => obtain ⟨t, q⟩ := (show ∃ t, u = Value.str y t from rx); cases q; exact PySem.W.kia_one PySem.W.kitx_str I.kIn True.intro e (fun z => nomatch z) h
  | flt y => obtain ⟨t, q⟩ := (show ∃ t, u = Value.float y t from rx); cases q; exact PySem.W.kia_one PySem.W.kitx_float I.kIn True.intro e (fun z => nomatch z) h
  | @lst a xs ea =>
    cases (show u = Value.ref a from rx)
    obtain ⟨_, _, n, _, h1⟩ := (show ObjOk X.prog X.w H s.heap a (.lst xs) from I.hok a _ ea)
    exact PySem.W.kia_one PySem.W.kitx_list I.kIn ⟨_, h1, rfl⟩ e (fun z => nomatch z) h
  | @frz a ob xs ea =>
    cases (show u = Value.ref a from rx)
    obtain ⟨_, _, _, n, _, h1⟩ := (show ObjOk X.prog X.w H s.heap a (.frz ob (.lst xs)) from I.hok a _ ea)
    exact PySem.W.kia_one PySem.W.kitx_list I.kIn ⟨_, h1, rfl⟩ e (fun z => nomatch z) h
  | @tup a xs ea =>
    cases (show u = Value.ref a from rx)
    obtain ⟨_, _, _, p⟩ := (show ObjOk X.prog X.w H s.heap a (.tup xs) from I.hok a _ ea)
    obtain ⟨o, h1, h2, _⟩ := p
    exact PySem.W.kia_one PySem.W.kitx_tuple I.kIn ⟨o, h1, h2⟩ e (fun z => nomatch z) h
  | @dK a kvs ea =>
    cases (show u = Value.ref a from rx)
    obtain ⟨_, _, vs, _, p⟩ := (show ObjOk X.prog X.w H s.heap a (.dK kvs) from I.hok a _ ea)
    obtain ⟨o, es, ep, h1, h2, _⟩ := p
    exact PySem.W.kia_one PySem.W.kitx_dict I.kIn ⟨o, h1, h2.1⟩ e (fun z => nomatch z) h
  | @dT a kvs ea =>
    cases (show u = Value.ref a from rx)
    obtain ⟨_, _, xs, _, o, es, ep, h1, h2, _⟩ := (show ObjOk X.prog X.w H s.heap a (.dT kvs) from I.hok a _ ea)
    exact PySem.W.kia_one PySem.W.kitx_dict I.kIn ⟨o, h1, h2.1⟩ e (fun z => nomatch z) h
  | @ins a C dx fs ea cl ha hn htk hm =>
    cases (show u = Value.ref a from rx)
    obtain ⟨mA, O, _⟩ := ins_get I.hok ea
    obtain ⟨od, J, _⟩ := O.look
    exact PySem.W.kia_one (PySem.W.kitx_own (cl.get _) cl.hd ha hn htk hm) I.kIn J e (fun z => nomatch z) h
end
end L2
namespace L2
open PySem PySem.Spec PyProof.Rows
structure Room (k : Nat) (A : Around) : Prop where
  hd : A.handled = none
  dp : A.depth + 3 * k + 5 < recursionLimit
  un : A.units + 16 * k + 200 < cLine
  gd : A.guards = some []
theorem Room.mono {j k : Nat} {A : Around} (r : Room k A) (h : j ≤ k) : Room j A := ⟨r.hd, by have := r.dp; omega, by have := r.un; omega, r.gd⟩
theorem Room.deeper {k : Nat} {A : Around} (r : Room (k + 1) A) (env : Env) : Room k (A.deeper env) :=
  ⟨r.hd, by have := r.dp; show A.depth + 1 + 3 * k + 5 < _; omega, by have := r.un; show A.units + 3 + 16 * k + 200 < _; omega, r.gd⟩
theorem Room.depth {k : Nat} {A : Around} (r : Room k A) : A.depth < recursionLimit := by have := r.dp; omega
theorem Room.units {k : Nat} {A : Around} (r : Room k A) : A.units + 64 < cLine := by have := r.un; omega
def tNil : TA := fun _ H Q => Q [] H
def tCons (ta : TE) (tr : TA) : TA := fun σ H Q => ta σ H fun x H1 => tr σ H1 fun xs H2 => Q (x :: xs) H2
section
variable {X : Cx} {e : Expr} {es : List Expr} {te : TE} {t : TA} {pos : Pos}
theorem pa_nil : PA X [] tNil := fun _ _ _ _ H Q I h => Calls.spliced_nil ⟨[], H, I, .nil, h⟩
theorem pa_cons (ha : PE X e te) (hr : PA X es t) (hs : starEach (e :: es) X.env = (false, eval e X.env) :: starEach es X.env := by rfl) : PA X (e :: es) (tCons te t) := by
  intro pos pins s σ H Q I h
  rw [hs]
  show wpAny _ _ (spliced ((false, eval e X.env) :: backTo pos (starEach es X.env))) _ _ s
  refine Calls.spliced_cons (thn (ha pins s σ H _ I h) fun u s1 zq => ?_)
  obtain ⟨x, H1, I1, r1, q1⟩ := zq
  exact thn (hr pos pins s1 σ H1 _ I1 q1) fun us s2 ⟨xs, H2, I2, r2, q2⟩ => ⟨x :: xs, H2, I2, .cons r1 r2, q2⟩
def tTup (t : TA) : TE := fun σ H Q => t σ H fun xs H1 => xs.length ≤ sizeLine ∧ ∀ p, H1 p = none → Q (.ref p) (upd H1 p (.tup xs))
def tLst (t : TA) : TE := fun σ H Q => t σ H fun xs H1 => xs.length ≤ sizeLine ∧ ∀ p, H1 p = none → Q (.ref p) (upd H1 p (.lst xs))
theorem pe_tup {x1} (h : PA X es t) : PE X (.Tuple es x1 pos) (tTup t) := by
  intro pins s σ H Q I hq
  refine wpAny_Tuple_spliced (thn (h pos pins s σ H _ I hq) fun us s1 ⟨xs, H1, I1, r, z, q⟩ => ⟨by rw [← r.length]; exact z, ?_⟩)
  have hf : H1 s1.heap.objs.size = none := I1.hok.fresh (Nat.le_refl _)
  refine ⟨.ref s1.heap.objs.size, upd H1 s1.heap.objs.size (.tup xs), I1.laid (t' := s1.toks) (fun b u e => Heap.get?_push_of_some _ e) (Nat.le_refl _) ?_, rfl, q _ hf⟩
  exact ⟨z, us, r, ⟨_, Heap.get?_push_size _ rfl, rfl, _, rfl⟩⟩
theorem pe_lst (h : PA X es t) : PE X (.List es pos) (tLst t) := by
  intro pins s σ H Q I hq
  refine wpAny_List_spliced (thn (h pos pins s σ H _ I hq) fun us s1 ⟨xs, H1, I1, r, z, q⟩ => ⟨by rw [← r.length]; exact z, ?_⟩)
  have hf : H1 s1.heap.objs.size = none := I1.hok.fresh (Nat.le_refl _)
  refine ⟨.ref s1.heap.objs.size, upd H1 s1.heap.objs.size (.lst xs), I1.laid (t' := s1.toks) (fun b u e => Heap.get?_push_of_some _ e) (Nat.le_refl _) ?_, rfl, q _ hf⟩
  exact ⟨z, us, 0, r, Heap.get?_push_size _ rfl⟩
end
abbrev Sp := List V → Hp → VK → XK → Prop
abbrev CXT := List Env → Hp → Shared → XK → Value → Shared → Prop
structure Env0 (P : Program) (w : World) (K : PySem.W.Frag) (mg : Str → Option Value) (base : Heap) (A : Around) (outer : List Env) (s : Shared) (H : Hp) : Prop where
  frames : A.frames = some outer
  mod : Mod K mg base
  bs : ∀ b o, base.get? b = some o → s.heap.get? b = some o ∧ H b = none
  bsz : base.objs.size ≤ s.heap.objs.size
  funs : s.heap.FunFrames base outer
  frf : ∀ b ∈ frs outer, H b = none
  hok : HOk P w H s.heap
  bare : AllBare s.gens
def CE (outer : List Env) (P : Program) (w : World) (H : Hp) (s : Shared) (Q : VK) (u : Value) (s' : Shared) : Prop :=
  ∃ v H', s'.os = s.os ∧ AllBare s'.gens ∧ Un (frs outer) [] H H' s.heap s'.heap ∧ HOk P w H' s'.heap ∧ RelV v u ∧ Q v H'
def CR (CX : CXT) (outer : List Env) (P : Program) (w : World) (H : Hp) (s : Shared) (Q : VK) (E : XK) (r : Result) (s' : Shared) : Prop :=
  match r with
  | .ok (.ret u) => CE outer P w H s Q u s'
  | .ok _ => False
  | .error e => CX outer H s E e s'
structure FnOk (P : Program) (w : World) (K : PySem.W.Frag) (mg : Str → Option Value) (base : Heap) (CX : CXT) (k : Nat) (f : Addr) (fd : FuncData) (ps : List Str) (sp : Sp) : Prop where
  len : ∀ vs H Q E, sp vs H Q E → vs.length = ps.length
  run : ∀ (A : Around) (outer : List Env) (s : Shared) (H : Hp) (args : Args) (us : List Value) (vs : List V) (Q : VK) (E : XK), Room k A → Env0 P w K mg base A outer s H → BindsTo s fd args (ps.zip us) → Vals vs us → sp vs H Q E →
    codeAny (model P w) A (.call (.ref f) args) (CR CX outer P w H s Q E) s
theorem FnOk.mono {P : Program} {w : World} {K : PySem.W.Frag} {mg : Str → Option Value} {base : Heap} {CX : CXT} {j k : Nat} {f : Addr} {fd : FuncData} {ps : List Str} {sp : Sp} (F : FnOk P w K mg base CX j f fd ps sp) (h : j ≤ k) :
    FnOk P w K mg base CX k f fd ps sp := ⟨F.len, fun A outer s H args us vs Q E hr => F.run A outer s H args us vs Q E (hr.mono h)⟩
theorem FnOk.imp {P : Program} {w : World} {K : PySem.W.Frag} {mg : Str → Option Value} {base : Heap} {CX : CXT} {k : Nat} {f : Addr} {fd : FuncData} {ps : List Str} {sp sp' : Sp} (F : FnOk P w K mg base CX k f fd ps sp)
    (h : ∀ vs H Q E, sp' vs H Q E → sp vs H Q E) : FnOk P w K mg base CX k f fd ps sp' :=
  ⟨fun vs H Q E q => F.len vs H Q E (h _ _ _ _ q), fun A outer s H args us vs Q E hr he hb hv hs => F.run A outer s H args us vs Q E hr he hb hv (h _ _ _ _ hs)⟩
section
variable {X : Cx} {pins : List (Addr × Obj)} {σ : St} {H : Hp} {s s' : Shared}
theorem Inv.env0 (I : Inv X pins σ H s) : Env0 X.prog X.w X.K X.mg X.base X.A X.stack s H :=
  ⟨I.ok.frames, I.ok.mod, I.bs, Nat.le_trans I.ok.bsz I.sz, I.stack, I.stkFree, I.hok, I.bare⟩
theorem Inv.after {Q : VK} {u : Value} (I : Inv X pins σ H s) (h : CE X.stack X.prog X.w H s Q u s') : EP X pins σ Q u s' := by
  obtain ⟨v, H', os, bare, un, hok, r, q⟩ := h
  obtain ⟨hh, g, d, t, os'⟩ := s'
  obtain rfl : os' = s.os := os
  exact ⟨v, H', I.call (h' := hh) (g' := g) (d' := d) (t' := t) (ch := []) un hok bare (fun b z => absurd z (by simp)), r, q⟩
end
def tCall (sp : Sp) (dvs : List V) (E : XK) (t : TA) : TE := fun σ H Q => t σ H fun vs H1 => sp (vs ++ dvs) H1 Q E
def Binds (K : PySem.W.Frag) (fd : FuncData) (ps : List Str) (ds : List Value) : Prop :=
  ∀ (s : Shared) (us : List Value), K.In s.heap → (us ++ ds).length = ps.length → BindsTo s fd ⟨us, []⟩ (ps.zip (us ++ ds))
theorem Binds.all {K : PySem.W.Frag} {fd : FuncData} {ps : List Str} (h : ∀ us : List Value, us.length = ps.length → bindArgs fd ⟨us, []⟩ = pure (ps.zip us)) : Binds K fd ps [] := fun s us _ hl => by
  rw [List.append_nil] at hl ⊢
  exact .of_eq (h us hl)
def Passes (CX : CXT) (X : Cx) (E : XK) : Prop := ∀ (pins : List (Addr × Obj)) (σ : St) (H : Hp) (s : Shared) (e : Value) (s' : Shared), Inv X pins σ H s → CX X.stack H s E e s' → X.xe e s'
section
variable {X : Cx} {CX : CXT} {k : Nat} {f C : Addr} {fd : FuncData} {ps : List Str} {sp : Sp} {dvs : List V} {ds : List Value} {E : XK} {x m : Str} {p pos apos : Pos} {e o : Expr} {es : List Expr} {ta : TE} {t : TA}
theorem run_fn {pins : List (Addr × Obj)} {σ : St} {H : Hp} {s : Shared} {Q : VK} {us : List Value} {vs : List V} (F : FnOk X.prog X.w X.K X.mg X.base CX k f fd ps sp) (hr : Room k X.A) (hb : Binds X.K fd ps ds) (hd : Vals dvs ds) (hx : Passes CX X E)
    (I : Inv X pins σ H s) (r : Vals vs us) (h : sp (vs ++ dvs) H Q E) : wpAny (model X.prog X.w) X.A (call (.ref f) us) (EP X pins σ Q) X.xe s := by
  have r2 : Vals (vs ++ dvs) (us ++ ds) := r.append hd
  have hl : (us ++ ds).length = ps.length := by rw [← r2.length]; exact F.len _ _ _ _ h
  refine wpAny_call (codeAny_mono (F.run X.A X.stack s H ⟨us, []⟩ (us ++ ds) (vs ++ dvs) Q E hr I.env0 (hb s us I.kIn hl) r2 h) fun r s' hq => ?_)
  cases r with
  | error e => exact hx pins σ H s e s' I hq
  | ok fl =>
    cases fl with
    | ret u => exact I.after hq
    | next => exact False.elim hq
    | brk => exact False.elim hq
    | cont => exact False.elim hq
theorem pe_call (F : FnOk X.prog X.w X.K X.mg X.base CX k f fd ps sp) (hr : Room k X.A) (hg : Gl X x) (hm : X.mg x = some (.ref f)) (hk : PySem.W.keepIn X.K (.ref f) = true) (hb : Binds X.K fd ps ds) (hd : Vals dvs ds) (hx : Passes CX X E)
    (ha : PA X (e :: es) t) (hdb : (x == ("__debug__" : Str)) = false := by decide) (he : starEach (e :: es) X.env = (false, eval e X.env) :: starEach es X.env := by rfl) (hpl : (backTo pos (starEach es X.env)).any (·.1) = false := by rfl) :
    PE X (.Call (.Name x p) (e :: es) [] pos) (tCall sp dvs E t) := by
  intro pins s σ H Q I h
  refine wpAny_Call_Name_kw (ld_glob I hg hm ?_ hdb)
  refine PySem.W.callWith_K (h₀ := X.base) I.ok.mod.kin hk (thn (ha pos pins s σ H _ I h) fun us s1 ⟨vs, H1, I1, r, q⟩ => ⟨I1.kIn, ?_⟩) he hpl
  exact run_fn F hr hb hd hx I1 r q
structure Mk (K : PySem.W.Frag) (C f : Addr) : Prop where
  makes : PySem.W.makesIn K C = true
  init : PySem.W.findIn K (.ref C) "__init__" = some (some (.ref f))
  fn : PySem.W.isFn K (.ref f) = true
  kp : PySem.W.keepIn K (.ref C) = true
end
section
variable {X : Cx} {CX : CXT} {k : Nat} {f C : Addr} {fd : FuncData} {ps ks : List Str} {sp : Sp} {E : XK} {x m : Str} {p pos apos kpos : Pos} {e o : Expr} {es : List Expr} {kws : List Keyword} {te ta : TE} {t tk : TA} {nm : Option Str}
structure KBinds (K : PySem.W.Frag) (fd : FuncData) (ps ks : List Str) (g : List Value → List Value → List Value) (gV : List V → List V → List V) : Prop where
  to : ∀ (s : Shared) (us ws : List Value), K.In s.heap → (g us ws).length = ps.length → BindsTo s fd ⟨us, ks.zip ws⟩ (ps.zip (g us ws))
  rel : ∀ {vs : List V} {us : List Value} {zs : List V} {ws : List Value}, Vals vs us → Vals zs ws → Vals (gV vs zs) (g us ws)
variable {g : List Value → List Value → List Value} {gV : List V → List V → List V}
end
structure FnScope (N P : List Str) (sc : Scope) : Prop where
  kind : sc.kind = .function
  co : sc.isCoroutine = false
  gen : sc.isGenerator = false
  nd : N.Nodup
  pre : N.take P.length = P
  par : ∀ x ∈ P, sc.names.lookup x = some .local ∨ sc.names.lookup x = some .cell
  nofree : ∀ y ∈ sc.names, y.2 ≠ .free
theorem bindL_out {kindOf : Str → Option NameKind} {x : Str} : ∀ {binds : List (Str × Value)} {m : Str → Option Value}, (∀ v, (x, v) ∉ binds) → bindL kindOf binds m x = m x
  | [], _, _ => rfl
  | (n, v) :: r, m, h => by
    unfold bindL
    rw [bindL_out fun w hw => h w (List.mem_cons_of_mem _ hw)]
    split
    · have : x ≠ n := by rintro rfl; exact h v List.mem_cons_self
      simp [this]
    · rfl
theorem bindC_out {kindOf : Str → Option NameKind} {x : Str} : ∀ {binds : List (Str × Value)} {m : Str → Option Value}, (∀ v, (x, v) ∉ binds) → bindC kindOf binds m x = m x
  | [], _, _ => rfl
  | (n, v) :: r, m, h => by
    unfold bindC
    rw [bindC_out fun w hw => h w (List.mem_cons_of_mem _ hw)]
    split
    · rfl
    · have : x ≠ n := by rintro rfl; exact h v List.mem_cons_self
      simp [this]
theorem bindL_get {kindOf : Str → Option NameKind} {x : Str} {v : Value} : ∀ {P : List Str} {vs : List Value} {i : Nat} {m : Str → Option Value}, P.Nodup → P[i]? = some x → vs[i]? = some v → kindOf x = some .local →
    bindL kindOf (P.zip vs) m x = some v
  | [], _, _, _, _, h, _, _ => by simp at h
  | _ :: _, [], _, _, _, _, h, _ => by simp at h
  | p :: P, w :: vs, 0, m, nd, h1, h2, hk => by
    simp at h1 h2; subst h1; subst h2
    show bindL kindOf ((p, w) :: P.zip vs) m p = _
    unfold bindL
    rw [bindL_out fun v hv => (List.nodup_cons.mp nd).1 (List.of_mem_zip hv).1, if_pos hk]
    simp
  | p :: P, w :: vs, i + 1, m, nd, h1, h2, hk => by
    show bindL kindOf ((p, w) :: P.zip vs) m x = _
    unfold bindL
    exact bindL_get (i := i) (List.nodup_cons.mp nd).2 (by simpa using h1) (by simpa using h2) hk
theorem bindC_get {kindOf : Str → Option NameKind} {x : Str} {v : Value} : ∀ {P : List Str} {vs : List Value} {i : Nat} {m : Str → Option Value}, P.Nodup → P[i]? = some x → vs[i]? = some v → kindOf x ≠ some .local →
    bindC kindOf (P.zip vs) m x = some v
  | [], _, _, _, _, h, _, _ => by simp at h
  | _ :: _, [], _, _, _, _, h, _ => by simp at h
  | p :: P, w :: vs, 0, m, nd, h1, h2, hk => by
    simp at h1 h2; subst h1; subst h2
    show bindC kindOf ((p, w) :: P.zip vs) m p = _
    unfold bindC
    rw [bindC_out fun v hv => (List.nodup_cons.mp nd).1 (List.of_mem_zip hv).1, if_neg hk]
    simp
  | p :: P, w :: vs, i + 1, m, nd, h1, h2, hk => by
    show bindC kindOf ((p, w) :: P.zip vs) m x = _
    unfold bindC
    exact bindC_get (i := i) (List.nodup_cons.mp nd).2 (by simpa using h1) (by simpa using h2) hk
noncomputable def start (N : List Str) (vs : List V) : St := vs.map some ++ List.replicate (N.length - vs.length) none
noncomputable def cxOf (CX : CXT) (P : Program) (w : World) (K : PySem.W.Frag) (mg : Str → Option Value) (base : Heap) (N : List Str) (qual : Str) (scope : Scope) (f : Addr) (cd : Value) (A : Around) (outer : List Env) (s : Shared) (H : Hp) (E : XK) : Cx where
  prog := P
  w := w
  K := K
  mg := mg
  base := base
  A := A.deeper (envOfC qual scope s.heap.objs.size f cd)
  N := N
  s₀ := s
  H₀ := H
  env := envOfC qual scope s.heap.objs.size f cd
  outer := outer
  stack := envOfC qual scope s.heap.objs.size f cd :: outer
  ex := []
  calm := true
  fn := fun _ => true
  pn := []
  xe := fun e s' => wpAny (model P w) (A.deeper (envOfC qual scope s.heap.objs.size f cd)) (leaving (envOfC qual scope s.heap.objs.size f cd) e) (fun _ s'' => CX outer H s E e s'') (fun e' s'' => CX outer H s E e' s'') s'
theorem cell_has {sc : Scope} {n : Nat} {x : Str} (h : sc.names.lookup x = some .cell) : ∃ c, (cellsFrom n sc.names []).lookup x = some c := by
  have q := PySem.W.cellsFrom_some sc.names n [] (.inl h)
  exact Option.isSome_iff_exists.mp q
theorem inv_start {CX : CXT} {P : Program} {w : World} {K : PySem.W.Frag} {mg : Str → Option Value} {base : Heap} {N ps : List Str} {qual : Str} {scope : Scope} {f : Addr} {cd : Value} {A : Around} {outer : List Env} {s s1 : Shared} {H : Hp} {E : XK} {us : List Value} {vs : List V}
    (S : FnScope N ps scope) (hd : A.handled = none) (e0 : Env0 P w K mg base A outer s H) (hl : vs.length = ps.length) (r : Vals vs us)
    (x : InCallC s s.heap.objs.size (bindL (envOfC qual scope s.heap.objs.size f cd).kindOf (ps.zip us) fun _ => none) (cellsFrom (s.heap.objs.size + 1) scope.names []) (bindC (envOfC qual scope s.heap.objs.size f cd).kindOf (ps.zip us) fun _ => none) s1) :
    Inv (cxOf CX P w K mg base N qual scope f cd A outer s H E) [] (start N vs) H s1 := by
  have hpl : ps.length ≤ N.length := by have := congrArg List.length S.pre; rw [List.length_take] at this; omega
  obtain ⟨h1, tk, rfl, hk⟩ := x.done
  have noA : ∀ b : Addr, b ∉ (cxOf CX P w K mg base N qual scope f cd A outer s H E).ex := fun b z => absurd (show b ∈ ([] : List Addr) from z) (by simp)
  refine ⟨⟨e0.mod, S.kind, rfl, rfl, Nat.le_refl _, fun y z c h1 h2 => ?_, fun y hy => ?_, fun y c _ h => ?_, fun _ => hd, Around.frames_deeper e0.frames, .inr ⟨rfl, rfl⟩, fun b z => absurd z (noA b), e0.bs, e0.bsz, fun b _ _ => noA b, fun b z => absurd z (noA b), e0.funs, e0.frf⟩,
    rfl, e0.bare, Un.kept hk, ⟨_, x.toInCall.ns, fun i y v h1 h2 h3 => ?_⟩, fun y c h => ⟨_, x.cell y c h⟩, e0.hok.fresh (Nat.le_refl _), fun y c h => ?_, fun p hp => absurd (show p ∈ ([] : List (Addr × Obj)) from hp) (by simp), e0.hok.kept hk, ?_⟩
  · exact name_of_addr x.apart (PySem.mem_of_lookup h1) (PySem.mem_of_lookup h2)
  · have hy : scope.names.lookup y = some .cell ∨ scope.names.lookup y = some .free := hy
    rcases hy with hy | hy
    · exact cell_has hy
    · exact absurd rfl (S.nofree _ (PySem.mem_of_lookup hy))
  · exact Nat.le_of_lt (x.above y c (PySem.mem_of_lookup h))
  · have hi : i < vs.length := by
      unfold start at h2
      by_cases hi : i < vs.length
      · exact hi
      · rw [List.getElem?_append_right (by simpa using hi)] at h2
        rw [List.getElem?_replicate] at h2
        split at h2 <;> cases h2
    have ha : vs[i]? = some v := by
      unfold start at h2
      rw [List.getElem?_append_left (by simpa using hi), List.getElem?_map] at h2
      cases e : vs[i]? with
      | none => rw [e] at h2; cases h2
      | some a => rw [e] at h2; cases h2; rfl
    obtain ⟨u, hu, rv⟩ := r.get ha
    have hp : ps[i]? = some y := by
      rw [← S.pre, List.getElem?_take_of_lt (by omega)]; exact h1
    have ndP : ps.Nodup := by rw [← S.pre]; exact S.nd.sublist (List.take_sublist _ _)
    refine ⟨u, rv, ?_⟩
    rcases S.par y (List.mem_of_getElem? hp) with k | k
    · exact .inl ⟨k, bindL_get ndP hp hu k⟩
    · obtain ⟨c, e⟩ := cell_has (n := s.heap.objs.size + 1) k
      refine .inr ⟨.inl k, c, e, ?_⟩
      have q := x.cell y c e
      rw [bindC_get ndP hp hu (by show scope.names.lookup y ≠ _; rw [k]; decide)] at q
      exact q
  · exact e0.hok.fresh (Nat.le_of_lt (x.above y c (PySem.mem_of_lookup h)))
  · unfold start
    show _ = N.length
    rw [List.length_append, List.length_map, List.length_replicate]
    omega
theorem fn_of {CX : CXT} {P : Program} {w : World} {K : PySem.W.Frag} {mg : Str → Option Value} {base : Heap} {k : Nat} {f : Addr} {name qual : Str} {params : Arguments} {body : List Stmt} {scope : Scope} {dV kV doc pm cdv ct oc : Value} {an od : Option Addr}
    {osl : Array (Option Value)} {N ps : List Str} {sp : Sp} (lk : K.lookup f = some ⟨oc, od, .func (PySem.W.fnOf name qual params body scope dV kV doc pm an cdv ct), osl⟩) (hcd : PySem.W.codeIn K cdv qual = true) (S : FnScope N ps scope)
    (len : ∀ vs H Q E, sp vs H Q E → vs.length = ps.length)
    (hbody : ∀ (A : Around) (outer : List Env) (s : Shared) (H : Hp) (vs : List V) (Q : VK) (E : XK), Room k (A.deeper (envOfC qual scope s.heap.objs.size f cdv)) → sp vs H Q E →
      ∃ t, PSs (cxOf CX P w K mg base N qual scope f cdv A outer s H E) body t ∧ t { nx := fun _ H' => Q .non H', rt := Q } (start N vs) H) :
    FnOk P w K mg base CX (k + 1) f (PySem.W.fnOf name qual params body scope dV kV doc pm an cdv ct) ps sp := by
  refine ⟨len, fun A outer s H args us vs Q E hr e0 hb r hsp => ?_⟩
  have hl := len _ _ _ _ hsp
  have KX : K.In s.heap := e0.mod.kin.keeps fun b o e => (e0.bs b o e).1
  have lim : s.heap.NoLimit := e0.mod.nolimit.keeps fun b o e => (e0.bs b o e).1
  have hkind : ∀ y ∈ ps.zip us, scope.names.lookup y.1 = some .local ∨ (scope.names.lookup y.1 = some .cell ∧ ((cellsFrom (s.heap.objs.size + 1) scope.names []).lookup y.1).isSome = true) := fun ⟨n, v⟩ hy => by
    rcases S.par n (List.of_mem_zip hy).1 with q | q
    · exact .inl q
    · exact .inr ⟨q, PySem.W.cellsFrom_some _ _ _ (.inl q)⟩
  refine codeAny_call_function hr.depth (KX _ _ lk) rfl S.co S.gen rfl (PySem.W.codeRec_of KX hcd) (hb _ _ _ _ ?_)
  refine wpAny_newFunctionEnv_cells S.kind hkind fun env he s1 x => ?_
  subst he
  refine ⟨lim.keeps x.toInCall.keep, codeAny_func ?_⟩
  obtain ⟨t, ht, hq⟩ := hbody A outer s H vs Q E (hr.deeper _) hsp
  have I : Inv (cxOf CX P w K mg base N qual scope f cdv A outer s H E) [] (start N vs) H s1 := inv_start S hr.hd e0 hl r x
  refine wpAny_mono (ht [] s1 (start N vs) H _ I hq) (fun fl s' hs => ?_) fun e s' hs => hs
  have fin : ∀ {σ' : St} {H' : Hp} {v : V} {u : Value}, Inv (cxOf CX P w K mg base N qual scope f cdv A outer s H E) [] σ' H' s' → RelV v u → Q v H' → CE outer P w H s Q u s' :=
    fun {σ' H' v u} J rv q => ⟨v, H', J.os, J.bare, J.base, J.hok, rv, q⟩
  cases fl with
  | ret u =>
    obtain ⟨v, σ', H', J, rv, q⟩ := hs
    exact fin J rv q
  | next =>
    obtain ⟨σ', H', J, q⟩ := hs
    exact fin (v := V.non) (u := Value.none) J rfl q
  | brk =>
    obtain ⟨_, _, _, q⟩ := hs
    exact False.elim q
  | cont =>
    obtain ⟨_, _, _, q⟩ := hs
    exact False.elim q
end L2
namespace L2
open PySem PySem.Spec PyProof.Rows
section
variable {X : Cx} {x : Str} {p pos : Pos} {e : Expr} {es : List Expr} {t : TA} {id T : String} {r : List V → Hp → VK → Prop}
def tCB (r : List V → Hp → VK → Prop) (t : TA) : TE := fun σ H Q => t σ H fun vs H1 => r vs H1 Q
theorem pe_callB (hc : CallR X (.builtin id) r) (hg : Gl X x) (hm : X.mg x = none) (hv : bootBuiltins x = some (.builtin id)) (ha : PA X (e :: es) t) (hn : x ≠ "__name__" := by decide) (hdb : (x == ("__debug__" : Str)) = false := by decide)
    (he : starEach (e :: es) X.env = (false, eval e X.env) :: starEach es X.env := by rfl) (hpl : (backTo pos (starEach es X.env)).any (·.1) = false := by rfl) : PE X (.Call (.Name x p) (e :: es) [] pos) (tCB r t) := by
  intro pins s σ H Q I h
  refine wpAny_Call_Name_kw (ld_blt I hg hm hv ?_ hn hdb)
  exact PyProof.Rows.callWith_builtin1 (thn (ha pos pins s σ H _ I h) fun us s1 ⟨vs, H1, I1, r1, q1⟩ => hc pins s1 σ H1 vs us Q I1 r1 q1) he hpl
theorem pe_callTy (hc : CallR X (.type T) r) (hg : Gl X x) (hm : X.mg x = none) (hv : bootBuiltins x = some (.type T)) (ha : PA X (e :: es) t) (hn : x ≠ "__name__" := by decide) (hdb : (x == ("__debug__" : Str)) = false := by decide)
    (he : starEach (e :: es) X.env = (false, eval e X.env) :: starEach es X.env := by rfl) (hpl : (backTo pos (starEach es X.env)).any (·.1) = false := by rfl) : PE X (.Call (.Name x p) (e :: es) [] pos) (tCB r t) := by
  intro pins s σ H Q I h
  refine wpAny_Call_Name_kw (ld_blt I hg hm hv ?_ hn hdb)
  exact PyProof.Rows.callWith_type1 (thn (ha pos pins s σ H _ I h) fun us s1 ⟨vs, H1, I1, r1, q1⟩ => hc pins s1 σ H1 vs us Q I1 r1 q1) he hpl
end
end L2
namespace L2
open PySem PySem.Spec PyProof.Rows
section
variable {κ : Type} [DecidableEq κ]
noncomputable def valV (kvs : List (κ × V)) (k : κ) : Option V := (kvs.find? fun kv => decide (kv.1 = k)).map (·.2)
noncomputable def putK (kvs : List (κ × V)) (k : κ) (v : V) : List (κ × V) :=
  if (kvs.any fun kv => decide (kv.1 = k)) = true then kvs.map (fun kv => if kv.1 = k then (kv.1, v) else kv) else kvs ++ [(k, v)]
theorem valV_pos {p : κ × V} {r : List (κ × V)} {k : κ} (e : p.1 = k) : valV (p :: r) k = some p.2 := by simp [valV, List.find?_cons, e]
theorem valV_neg {p : κ × V} {r : List (κ × V)} {k : κ} (e : ¬ p.1 = k) : valV (p :: r) k = valV r k := by simp [valV, List.find?_cons, e]
theorem RelO.isSome_eq {o : Option V} {u : Option Value} (r : RelO o u) : o.isSome = u.isSome := by
  cases o with
  | none => cases u with
    | none => rfl
    | some _ => exact (show False from r).elim
  | some _ => cases u with
    | none => exact (show False from r).elim
    | some _ => rfl
theorem KV.val {kvs : List (κ × V)} {vs : List (κ × Value)} (r : KV kvs vs) (k : κ) : RelO (valV kvs k) (valueAt vs k) := by
  unfold KV at r
  induction r with
  | nil => exact True.intro
  | @cons p q ps qs h t ih =>
    obtain ⟨h1, h2⟩ := h
    by_cases e : p.1 = k
    · have e' : q.1 = k := h1.symm.trans e
      have b : valueAt (q :: qs) k = some q.2 := by simp [valueAt, List.find?_cons, e']
      rw [valV_pos e, b]; exact h2
    · have e' : ¬ q.1 = k := fun z => e (h1.trans z)
      have b : valueAt (q :: qs) k = valueAt qs k := by simp [valueAt, List.find?_cons, e']
      rw [valV_neg e, b]; exact ih
theorem KV.any {kvs : List (κ × V)} {vs : List (κ × Value)} (r : KV kvs vs) (k : κ) : (kvs.any fun kv => decide (kv.1 = k)) = vs.any fun kv => decide (kv.1 = k) := by
  unfold KV at r
  induction r with
  | nil => rfl
  | cons h t ih => rw [List.any_cons, List.any_cons, ih, h.1]
theorem KV.keys {kvs : List (κ × V)} {vs : List (κ × Value)} (r : KV kvs vs) : kvs.map (·.1) = vs.map (·.1) := by
  unfold KV at r
  induction r with
  | nil => rfl
  | cons h t ih => rw [List.map_cons, List.map_cons, ih, h.1]
theorem KV.length {kvs : List (κ × V)} {vs : List (κ × Value)} (r : KV kvs vs) : kvs.length = vs.length := Paired.length r
end
theorem kV_is {P : Program} {w : World} {k : Key} {u : Value} (r : RelV (kV k) u) : (mixKind P w).is k u = true := by
  cases k with
  | inl i => obtain ⟨t, e⟩ := (show ∃ t, u = Value.int i t from r); subst e; exact mixKind_int P w i t
  | inr x => obtain ⟨t, e⟩ := (show ∃ t, u = Value.str x t from r); subst e; exact mixKind_str P w x t
theorem items_are {P : Program} {w : World} : ∀ {ks : List Key} {us : List Value}, Vals (ks.map kV) us → ItemsAre (mixKind P w) ks us
  | [], _, r => by rw [List.map_nil] at r; cases r; exact .nil
  | k :: ks, _, r => by
    rw [List.map_cons] at r
    cases r with
    | cons h t => exact .cons (kV_is h) (items_are t)
abbrev KT (H : Hp) : List (List Key × V) → List (List Key × Addr × Value) → Prop := Paired fun p q => p.1 = q.1 ∧ H q.2.1 = some (.tup (p.1.map kV)) ∧ RelV p.2 q.2.2
theorem KT.val {H : Hp} {kvs : List (List Key × V)} {xs : List (List Key × Addr × Value)} (r : KT H kvs xs) (k : List Key) : RelO (valV kvs k) ((atKey xs k).map (·.2)) := by
  induction r with
  | nil => exact True.intro
  | @cons p q ps qs h t ih =>
    obtain ⟨h1, _, h2⟩ := h
    by_cases e : p.1 = k
    · have e' : q.1 = k := h1.symm.trans e
      have b : atKey (q :: qs) k = some q.2 := by simp [atKey, List.find?_cons, e']
      rw [valV_pos e, b]; exact h2
    · have e' : ¬ q.1 = k := fun z => e (h1.trans z)
      have b : atKey (q :: qs) k = atKey qs k := by simp [atKey, List.find?_cons, e']
      rw [valV_neg e, b]; exact ih
section
variable {P : Program} {w : World} {H : Hp} {h : Heap} {a : Addr}
theorem rd_of {u : HO} (ok : HOk P w H h) (e : Rd H a u) : ObjOk P w H h a u := e.ok ok
theorem dk_rd {kvs : List (Key × V)} (ok : HOk P w H h) (e : Rd H a (.dK kvs)) : kvs.length ≤ sizeLine ∧ (a == sysModules) = false ∧ ∃ vs, KV kvs vs ∧ h.DictOf (mixKind P w) a vs :=
  show ObjOk P w H h a (.dK kvs) from rd_of ok e
theorem key_of {ks : List Key} (ok : HOk P w H h) (e : H a = some (.tup (ks.map kV))) : (tupleKind (mixKind P w)).is h ks a := by
  obtain ⟨_, its, r, o, h1, h2, n, h3⟩ := (show ObjOk P w H h a (.tup (ks.map kV)) from ok a _ e)
  exact ⟨o, its.toArray, n, h1, h2, h3, by simpa using items_are r⟩
theorem dt_rd {kvs : List (List Key × V)} (ok : HOk P w H h) (e : Rd H a (.dT kvs)) : kvs.length ≤ sizeLine ∧ (a == sysModules) = false ∧
    ∃ xs, KT H kvs xs ∧ h.DictOfH (tupleKind (mixKind P w)) a xs := by
  obtain ⟨z, y, xs, r, o, es, ep, h1, h2, h3, h4, h5⟩ := (show ObjOk P w H h a (.dT kvs) from rd_of ok e)
  refine ⟨z, y, xs, r, o, es, ep, h1, h2, h3, h4, fun x hx => ?_, h5⟩
  have all : ∀ {l : List (List Key × V)} {m : List (List Key × Addr × Value)}, KT H l m → ∀ x ∈ m, (tupleKind (mixKind P w)).is h x.1 x.2.1 := by
    intro l m q
    induction q with
    | nil => intro x hx; exact nomatch hx
    | @cons p q ps qs hq t ih =>
      intro x hx
      rcases List.mem_cons.mp hx with e | hx
      · subst e
        exact key_of ok (by rw [← hq.1]; exact hq.2.1)
      · exact ih x hx
  exact all r x hx
end
def DGet (H : Hp) (a : Addr) (y : V) (r : Option V) : Prop :=
  (∃ kvs k, Rd H a (.dK kvs) ∧ y = kV k ∧ r = valV kvs k) ∨ ∃ kvs k b, Rd H a (.dT kvs) ∧ y = .ref b ∧ H b = some (.tup (k.map kV)) ∧ r = valV kvs k
def DPut (H : Hp) (a : Addr) (y v : V) (H' : Hp) : Prop :=
  (∃ kvs k, H a = some (.dK kvs) ∧ y = kV k ∧ kvs.length < sizeLine ∧ H' = upd H a (.dK (putK kvs k v))) ∨
  ∃ kvs k b, H a = some (.dT kvs) ∧ y = .ref b ∧ H b = some (.tup (k.map kV)) ∧ kvs.length < sizeLine ∧ H' = upd H a (.dT (putK kvs k v))
theorem DGet.k {H : Hp} {a : Addr} {kvs : List (Key × V)} {k : Key} (e : H a = some (.dK kvs)) : DGet H a (kV k) (valV kvs k) := .inl ⟨kvs, k, .inl e, rfl, rfl⟩
theorem DGet.t {H : Hp} {a b : Addr} {kvs : List (List Key × V)} {k : List Key} (e : H a = some (.dT kvs)) (eb : H b = some (.tup (k.map kV))) : DGet H a (.ref b) (valV kvs k) := .inr ⟨kvs, k, b, .inl e, rfl, eb, rfl⟩
theorem DPut.k {H : Hp} {a : Addr} {kvs : List (Key × V)} {k : Key} {v : V} (e : H a = some (.dK kvs)) (hl : kvs.length < sizeLine) : DPut H a (kV k) v (upd H a (.dK (putK kvs k v))) := .inl ⟨kvs, k, e, rfl, hl, rfl⟩
theorem DPut.t {H : Hp} {a b : Addr} {kvs : List (List Key × V)} {k : List Key} {v : V} (e : H a = some (.dT kvs)) (eb : H b = some (.tup (k.map kV))) (hl : kvs.length < sizeLine) :
    DPut H a (.ref b) v (upd H a (.dT (putK kvs k v))) := .inr ⟨kvs, k, b, e, rfl, eb, hl, rfl⟩
section
variable {X : Cx} {pins : List (Addr × Obj)} {σ : St} {H : Hp} {s : Shared} {a : Addr} {y v : V} {u r : Value} {o : Option V} {A : Around} {E : Value → Shared → Prop}
theorem d_getItem {Q : Value → Shared → Prop} (hu : A.units + 1 < cLine) (I : Inv X pins σ H s) (g : DGet H a y (some v)) (ry : RelV y u) (h : ∀ w' s', Inv X pins σ H s' → RelV v w' → Q w' s') :
    wpAny (model X.prog X.w) A (getItem (.ref a) u) Q E s := by
  rcases g with ⟨kvs, k, e, ey, l⟩ | ⟨kvs, k, b, e, ey, eb, l⟩
  · subst ey
    obtain ⟨z, hd, vs, rel, dd⟩ := dk_rd I.hok e
    obtain ⟨w', hw, rw'⟩ := RelO.some_of (v := v) (o := valueAt vs k) (by rw [l]; exact rel.val k)
    exact wpAny_getItem_of (kV_is ry) dd.mapOf hw (h w' _ (I.tok _) rw')
  · subst ey
    cases (show u = Value.ref b from ry)
    obtain ⟨z, hd, xs, rel, dd⟩ := dt_rd I.hok e
    obtain ⟨w', hw, rw'⟩ := RelO.some_of (v := v) (o := (atKey xs k).map (·.2)) (by rw [l]; exact rel.val k)
    obtain ⟨p, hp, hp2⟩ := Option.map_eq_some_iff.mp hw
    refine wpAny_getItem_heap (tupleKind_room_in1 hu) (key_of I.hok eb) dd hp ?_
    rw [hp2]
    exact h w' _ (I.tok _) rw'
theorem d_in {Q : Value → Shared → Prop} (hu : A.units + 1 < cLine) (I : Inv X pins σ H s) (g : DGet H a y o) (ry : RelV y u) (h : ∀ s', Inv X pins σ H s' → Q (.bool o.isSome) s') :
    wpAny (model X.prog X.w) A (compareOp .In u (.ref a)) Q E s := by
  rcases g with ⟨kvs, k, e, ey, l⟩ | ⟨kvs, k, b, e, ey, eb, l⟩
  · subst ey
    obtain ⟨z, hd, vs, rel, dd⟩ := dk_rd I.hok e
    refine wpAny_in_of (kV_is ry) hd dd.mapOf ?_
    rw [← (rel.val k).isSome_eq, ← l]
    exact h _ (I.tok _)
  · subst ey
    cases (show u = Value.ref b from ry)
    obtain ⟨z, hd, xs, rel, dd⟩ := dt_rd I.hok e
    refine wpAny_in_heap (tupleKind_room_in1 hu) (key_of I.hok eb) hd dd ?_
    have q := (rel.val k).isSome_eq
    rw [Option.isSome_map] at q
    rw [← q, ← l]
    exact h _ (I.tok _)
end
section
variable {X : Cx} {pins : List (Addr × Obj)} {σ : St} {H : Hp} {s : Shared} {a : Addr} {kvs : List (Key × V)} {k : Key} {u : Value} {A : Around} {E : Value → Shared → Prop}
theorem d_len {Q : Value → Shared → Prop} (I : Inv X pins σ H s) (e : Rd H a (.dK kvs)) (h : ∀ t s', Inv X pins σ H s' → Q (.int kvs.length t) s') : wpAny (model X.prog X.w) A (call (.builtin "len") [.ref a]) Q E s := by
  obtain ⟨z, hd, vs, rel, dd⟩ := dk_rd I.hok e
  refine call_len_dict hd dd (by rw [← rel.length]; rw [sizeLine_eq] at z; omega) ?_
  rw [← rel.length]
  exact h _ _ (I.tok _)
end
theorem dict_typeIs {X : Cx} {pins : List (Addr × Obj)} {σ : St} {H : Hp} {s : Shared} {a : Addr} {y : V} {o : Option V} (I : Inv X pins σ H s) (g : DGet H a y o) : s.TypeIs (.ref a) "dict" := by
  rcases g with ⟨kvs, k, e, _, _⟩ | ⟨kvs, k, b, e, _, _, _⟩
  · obtain ⟨_, _, vs, _, dd⟩ := dk_rd I.hok e
    exact dd.typeIs
  · obtain ⟨_, _, xs, _, dd⟩ := dt_rd I.hok e
    exact dd.typeIs
section
variable {X : Cx} {o i e value : Expr} {pos pos' tpos : Pos} {td ty tv : TE}
end
section
variable {X : Cx} {pos : Pos}
end
def tPairs : List (TE × TE) → St → Hp → (List (V × V) → Hp → Prop) → Prop
  | [], _, H, Q => Q [] H
  | (tk, tv) :: r, σ, H, Q => tk σ H fun x H1 => tv σ H1 fun y H2 => tPairs r σ H2 fun ps H3 => Q ((x, y) :: ps) H3
abbrev VV : List (V × V) → List (Value × Value) → Prop := Paired fun p q => RelV p.1 q.1 ∧ RelV p.2 q.2
def PPs (X : Cx) (pos : Pos) (keys : List (Option Expr)) (values : List Expr) (trs : List (TE × TE)) : Prop :=
  ∀ (pins : List (Addr × Obj)) (s : Shared) (σ : St) (H : Hp) (Q : List (V × V) → Hp → Prop), Inv X pins σ H s → tPairs trs σ H Q →
    wpAny (model X.prog X.w) X.A (evalPairs (pairTrees keys values X.env pos)) (fun vs s' => ∃ ps H', Inv X pins σ H' s' ∧ VV ps vs ∧ Q ps H') X.xe s
structure M1 (X : Cx) (o : Expr) (m : Str) (apos : Pos) (e : Expr) (cpos : Pos) : Prop where
  base : attributeBase o m X.env (eval o X.env) = eval o X.env
  few : ((backTo cpos (starEach [e] X.env)).all (fun x => !x.1) && (backToKw cpos (keywordEach [] X.env)).all (fun x => x.1.isSome)
    && decide (([e] : List Expr).length + ([] : List Keyword).length + (if ([] : List Keyword).isEmpty then 0 else 1) < 30)) = true
  line : (apos.endLine == cpos.line) = true
  trees : backTo cpos (starEach [e] X.env) = [(false, eval e X.env)]
structure M2 (X : Cx) (o : Expr) (m : Str) (apos : Pos) (e f : Expr) (cpos : Pos) : Prop where
  base : attributeBase o m X.env (eval o X.env) = eval o X.env
  few : ((backTo cpos (starEach [e, f] X.env)).all (fun x => !x.1) && (backToKw cpos (keywordEach [] X.env)).all (fun x => x.1.isSome)
    && decide (([e, f] : List Expr).length + ([] : List Keyword).length + (if ([] : List Keyword).isEmpty then 0 else 1) < 30)) = true
  line : (apos.endLine == cpos.line) = true
  trees : backTo cpos (starEach [e, f] X.env) = [(false, eval e X.env), (false, eval f X.env)]
section
variable {X : Cx} {pins : List (Addr × Obj)} {σ : St} {H : Hp} {s : Shared} {a : Addr} {y d : V} {u r : Value} {o : Option V} {A : Around} {E : Value → Shared → Prop}
end
section
variable {X : Cx} {o e f : Expr} {apos cpos : Pos} {td ty tx : TE}
end
section
variable {X : Cx} {pins : List (Addr × Obj)} {σ : St} {H : Hp} {s : Shared} {a : Addr} {kvs : List (Key × V)} {A : Around} {E : Value → Shared → Prop}
end
section
variable {X : Cx} {pins : List (Addr × Obj)} {σ : St} {H : Hp} {s : Shared} {a : Addr} {y : V} {u : Value} {A : Around} {E : Value → Shared → Prop}
end
end L2
namespace HT
open PySem PyProof.Rows
section
open PySem.SeqAt
open PySem.AutoSeq1 (wpAny_loadPart')
open PySem.MeetsSeq PySem.MeetsSeq2 PySem.MeetsSeq3
end
section
variable {prog : Program} {w : World} {A : Around} {E : Value → Shared → Prop} {s : Shared}
theorem cat_tup {t b : Addr} {vs ws : List Value} {Q : Value → Shared → Prop} (ht : IsTup s.heap t vs.toArray) (hb : IsTup s.heap b ws.toArray) (hv : vs ≠ [])
    (h1 : ws = [] → Q (.ref t) s) (h2 : ws ≠ [] → Q (.ref s.heap.objs.size) { s with heap := s.heap.push { cls := .type "tuple", data := .seq (vs ++ ws).toArray } })
    (hsz : vs.length + ws.length ≤ sizeLine) : wpAny (model prog w) A (binaryOp .Add (.ref t) (.ref b)) Q E s := by
  obtain ⟨⟨cls, dd, data, sl⟩, ho, hc, n, hd⟩ := id ht
  obtain ⟨⟨cls2, dd2, data2, sl2⟩, ho2, hc2, n2, hd2⟩ := id hb
  simp only at hc hd hc2 hd2
  subst hc hd hc2 hd2
  have e : vs.toArray ++ ws.toArray = (vs ++ ws).toArray := by simp
  by_cases hw : ws = []
  · exact concat_meets ⟨_, ho, rfl⟩ ⟨_, ho2, rfl⟩ noFill_tuple_add seq_tuple_add PySem.F.slot_tuple_add PySem.F.entry_tuple_add (PySem.F.args_tuple_add_2 _ _)
      (tuple_addW1 t b vs.toArray ws.toArray n n2 dd dd2 sl sl2 (by simpa using hv) (by simp [hw])) ⟨ho, ho2, h1 hw⟩
  · refine concat_meets ⟨_, ho, rfl⟩ ⟨_, ho2, rfl⟩ noFill_tuple_add seq_tuple_add PySem.F.slot_tuple_add PySem.F.entry_tuple_add (PySem.F.args_tuple_add_2 _ _)
      (tuple_addW2 t b vs.toArray ws.toArray n n2 dd dd2 sl sl2 (by simpa using hv) (by simpa using hw) (by rw [List.size_toArray, List.size_toArray]; exact hsz)) ⟨ho, ho2, ?_⟩
    rw [e]
    exact h2 hw
noncomputable def sIx (n d : Nat) : Option Int → Nat
  | none => d
  | some v => if v < 0 then (v + (n : Int)).toNat else min v.toNat n
theorem sIx_none (n d : Nat) : sIx n d none = d := rfl
theorem sIx_nat (n d k : Nat) : sIx n d (some (k : Int)) = min k n := by
  show (if (k : Int) < 0 then ((k : Int) + (n : Int)).toNat else min (k : Int).toNat n) = min k n
  rw [if_neg (by omega), Int.toNat_natCast]
theorem sIx_le (n d : Nat) (hd : d ≤ n) (o : Option Int) : sIx n d o ≤ n := by
  cases o with
  | none => exact hd
  | some v =>
    show (if v < 0 then (v + (n : Int)).toNat else min v.toNat n) ≤ n
    by_cases hv : v < 0
    · rw [if_pos hv]; omega
    · rw [if_neg hv]; exact Nat.min_le_right _ _
theorem clip_eq (v : Int) (n d : Nat) : (if v < 0 then max (v + (n : Int)) 0 else min v (n : Int)) = ((sIx n d (some v) : Nat) : Int) := by
  show (if v < 0 then max (v + (n : Int)) 0 else min v (n : Int)) = (((if v < 0 then (v + (n : Int)).toNat else min v.toNat n) : Nat) : Int)
  by_cases hv : v < 0
  · simp only [if_pos hv]; omega
  · simp only [if_neg hv]; omega
theorem adjust_gen (lo hi : Option Int) (n : Nat) : Builtin.Slice.sliceAdjust lo hi 1 (n : Int) = (((sIx n 0 lo : Nat) : Int), ((sIx n n hi : Nat) : Int)) := by
  have h1 : ¬ ((1 : Int) < 0) := by omega
  unfold Builtin.Slice.sliceAdjust
  simp only [h1, if_false]
  refine Prod.ext ?_ ?_
  · cases lo with
    | none => rfl
    | some v => exact clip_eq v n 0
  · cases hi with
    | none => rfl
    | some v => exact clip_eq v n n
theorem places_gen (i j : Nat) : Builtin.Slice.slicePlaces (i : Int) (j : Int) 1 = j - i := by
  unfold Builtin.Slice.slicePlaces
  have h1 : (1 : Int) > 0 := by omega
  simp only [h1, if_true, Int.ediv_one]
  split <;> omega
theorem slicePart_ {v : Value} {o : Option Int} {Q : Option Int → Shared → Prop} (p : IsPart v o) (h : Q o s) : wpAny (model prog w) A (Builtin.Slice.slicePartIndex v) Q E s := by
  cases p with
  | none => exact slicePart_none h
  | int i t => exact slicePart_int h
theorem sliceApplied_gen {sl : Addr} {vl vu : Value} {lo hi : Option Int} {n : Nat} {Q : Int × Int × Nat → Shared → Prop} (hs : s.heap.IsSliceOf sl vl vu .none) (pl : IsPart vl lo) (pu : IsPart vu hi)
    (h : Q (((sIx n 0 lo : Nat) : Int), 1, sIx n n hi - sIx n 0 lo) s) : wpAny (model prog w) A (Builtin.Slice.sliceApplied (.ref sl) (pure (n : Int))) Q E s := by
  obtain ⟨os, hos, hcs, hds⟩ := id hs
  unfold Builtin.Slice.sliceApplied Builtin.Slice.sliceFields
  refine wpAny_bind (wpAny_bind (wpAny_field hos hds (x := vl) rfl (wpAny_bind (wpAny_field hos hds (x := vu) rfl (wpAny_bind (wpAny_field hos hds (x := .none) rfl (wpAny_pure ?_)))))))
  refine wpAny_bind (slicePart_none ?_)
  show wpAny _ _ (if ((1 : Int) == 0) = true then _ else _) _ _ s
  rw [if_neg (by decide)]
  refine wpAny_bind (slicePart_ pl (wpAny_bind (slicePart_ pu (wpAny_bind (wpAny_pure ?_)))))
  show wpAny _ _ (match Builtin.Slice.sliceAdjust lo hi 1 (n : Int) with | (lo, hi) => pure (lo, (1 : Int), Builtin.Slice.slicePlaces lo hi 1)) _ _ s
  rw [adjust_gen lo hi n]
  show wpAny _ _ (pure (((sIx n 0 lo : Nat) : Int), (1 : Int), Builtin.Slice.slicePlaces ((sIx n 0 lo : Nat) : Int) ((sIx n n hi : Nat) : Int) 1)) _ _ s
  rw [places_gen]
  exact wpAny_pure h
theorem pick_gen (xs : Array Value) (i k : Nat) : ((List.range k).filterMap fun (m : Nat) => xs[((i : Int) + (m : Int) * 1).toNat]?).toArray = ((xs.toList.drop i).take k).toArray := by
  have e : (fun (m : Nat) => xs[((i : Int) + (m : Int) * 1).toNat]?) = fun m => xs[i + m]? := by
    funext m
    have : ((i : Int) + (m : Int) * 1).toNat = i + m := by omega
    rw [this]
  rw [e]
  have := pick_run xs i k
  rw [List.filterMap_map] at this
  have e2 : ((fun x => xs[x]?) ∘ fun x => i + x) = fun m => xs[i + m]? := rfl
  rw [e2] at this
  rw [this]
theorem getItem_tuple_cut {t sl : Addr} {items : Array Value} {vl vu : Value} {lo hi : Option Int} {Q : Value → Shared → Prop} (ht : IsTup s.heap t items) (hs : s.heap.IsSliceOf sl vl vu .none) (pl : IsPart vl lo) (pu : IsPart vu hi)
    (hw : ¬ (sIx items.size 0 lo = 0 ∧ sIx items.size items.size hi = items.size))
    (h : Q (.ref s.heap.objs.size) { s with heap := s.heap.push { cls := .type "tuple", data := .seq ((items.toList.drop (sIx items.size 0 lo)).take (sIx items.size items.size hi - sIx items.size 0 lo)).toArray } })
    (hsz : items.size ≤ sizeLine) : wpAny (model prog w) A (getItem (.ref t) (.ref sl)) Q E s := by
  have htake : sizeOk (.seq ((items.toList.drop (sIx items.size 0 lo)).take (sIx items.size items.size hi - sIx items.size 0 lo)).toArray) := by
    show ((items.toList.drop (sIx items.size 0 lo)).take (sIx items.size items.size hi - sIx items.size 0 lo)).toArray.size ≤ sizeLine
    rw [List.size_toArray, List.length_take, List.length_drop, Array.length_toList]
    omega
  have hj : sIx items.size items.size hi ≤ items.size := sIx_le _ _ (Nat.le_refl _) hi
  obtain ⟨os, hos, hcs, hds⟩ := id hs
  have hTs : s.TypeIs (.ref sl) "slice" := ⟨os, hos, hcs⟩
  unfold getItem
  try with_reducible refine wpAny_holding ?_
  first | refine wpAny_bind (wpAny_pure ?_) | skip
  refine wpAny_bind (wpAny_sequenceKey ht.typeIs (by decide) ?_)
  refine wpAny_bind (wpAny_callSpecial?_slot (name := Str.ofString "__getitem__") ht.typeIs PyProof.Rows.slot_tuple_getitem
    (wpAny_call_entry PyProof.Rows.slot_tuple_getitem ht.typeIs entry_tuple_getitem ?_ (args_tuple_getitem _ _)))
  show wpAny _ _ (Builtin.Tuple.tupleItemsOf (.ref t) >>= _) _ _ s
  refine wpAny_bind (tupleItemsOf_ ht ?_)
  refine wpAny_bind (wpAny_typeOf hTs ?_)
  rw [if_pos (by decide)]
  refine wpAny_bind (sliceApplied_gen hs pl pu ?_)
  have hno : ¬ ((((sIx items.size 0 lo : Nat) : Int) == 0 && (1 : Int) == 1 && (sIx items.size items.size hi - sIx items.size 0 lo) == items.size) = true) := by
    intro q
    rw [Bool.and_eq_true, Bool.and_eq_true] at q
    have q1 : ((sIx items.size 0 lo : Nat) : Int) = 0 := eq_of_beq q.1.1
    have q2 : sIx items.size items.size hi - sIx items.size 0 lo = items.size := eq_of_beq q.2
    exact hw ⟨by omega, by omega⟩
  show wpAny _ _ (if (((sIx items.size 0 lo : Nat) : Int) == 0 && (1 : Int) == 1 && (sIx items.size items.size hi - sIx items.size 0 lo) == items.size) = true then _ else _) _ _ s
  rw [if_neg hno, pick_gen]
  first
    | exact wpAny_bind (m := Builtin.Tuple.tupleExact _) (wpAny_newObj_type (wpAny_pure ⟨_, rfl, wpAny_pure h⟩) htake)
    | exact wpAny_bind (m := Builtin.Tuple.tupleExact _) (wpAny_newObj_type (wpAny_bind (wpAny_pure (wpAny_pure ⟨_, rfl, wpAny_pure h⟩))) htake)
    | exact wpAny_bind (wpAny_bind (m := Builtin.Tuple.tupleExact _) (wpAny_newObj_type (wpAny_pure (wpAny_pure ⟨_, rfl, wpAny_pure h⟩)) htake))
    | exact wpAny_bind (wpAny_bind (m := Builtin.Tuple.tupleExact _) (wpAny_newObj_type (wpAny_pure ⟨_, rfl, wpAny_pure h⟩) htake))
end
end HT
namespace L2
open PySem PySem.Spec PyProof.Rows
abbrev TO := St → Hp → (Option Int → Hp → Prop) → Prop
def PO (X : Cx) (e : Option Expr) (t : TO) : Prop :=
  ∀ (pins : List (Addr × Obj)) (s : Shared) (σ : St) (H : Hp) (Q : Option Int → Hp → Prop), Inv X pins σ H s → t σ H Q →
    wpAny (model X.prog X.w) X.A (evalPart e X.env) (fun u s' => ∃ o H', Inv X pins σ H' s' ∧ IsPart u o ∧ Q o H') X.xe s
def tNoPart : TO := fun _ H Q => Q none H
def tPart (t : TE) : TO := fun σ H Q => t σ H fun x H1 => ∃ i, x = .int i ∧ Q (some i) H1
section
variable {X : Cx} {e : Expr} {te : TE} {lo hi : Option Expr} {tl th : TO} {pos p2 : Pos}
theorem po_none : PO X none tNoPart := by
  intro pins s σ H Q I h
  rw [evalPart_none]
  exact wpAny_pure ⟨none, H, I, .none, h⟩
theorem po_some (h : PE X e te) : PO X (some e) (tPart te) := by
  intro pins s σ H Q I hw
  rw [evalPart_some]
  refine thn (h pins s σ H _ I hw) fun u s1 zq => ?_
  obtain ⟨x, H1, I1, r1, q1⟩ := zq
  obtain ⟨i, rfl, q⟩ := q1
  obtain ⟨t, rfl⟩ := r1
  exact ⟨some i, H1, I1, .int i t, q⟩
def SlR (X : Cx) (r : V → Option Int → Option Int → Hp → VK → Prop) : Prop :=
  ∀ (pins : List (Addr × Obj)) (s : Shared) (σ : St) (H : Hp) (x : V) (v vl vu : Value) (lo hi : Option Int) (sl : Addr) (Q : VK), Inv X pins σ H s → RelV x v → s.heap.IsSliceOf sl vl vu .none → IsPart vl lo → IsPart vu hi → r x lo hi H Q →
    ∃ T id, typeLookup (.type T) "__getitem__" = pure (some (.builtin id)) ∧ s.TypeIs v T ∧ wpAny (model X.prog X.w) X.A (getItem v (.ref sl)) (EP X pins σ Q) X.xe s
theorem SlR.or {r r' : V → Option Int → Option Int → Hp → VK → Prop} (h : SlR X r) (h' : SlR X r') : SlR X (fun x lo hi H Q => r x lo hi H Q ∨ r' x lo hi H Q) := by
  intro pins s σ H x v vl vu lo hi sl Q I rx hs pl pu q
  rcases q with q | q
  · exact h pins s σ H x v vl vu lo hi sl Q I rx hs pl pu q
  · exact h' pins s σ H x v vl vu lo hi sl Q I rx hs pl pu q
def tSl (r : V → Option Int → Option Int → Hp → VK → Prop) (te : TE) (tl th : TO) : TE := fun σ H Q => te σ H fun x H1 => tl σ H1 fun l H2 => th σ H2 fun u H3 => r x l u H3 Q
theorem pe_slice {r : V → Option Int → Option Int → Hp → VK → Prop} (hr : SlR X r) (he : PE X e te) (hl : PO X lo tl) (hu : PO X hi th) : PE X (.Subscript e (.Slice lo hi none p2) pos) (tSl r te tl th) := by
  intro pins s σ H Q I h
  refine Subscript_ (thn (he pins s σ H _ I h) fun v s1 zq => ?_)
  obtain ⟨x, H1, I1, r1, q1⟩ := zq
  refine wpAny_Slice (thn (hl pins s1 σ H1 _ I1 q1) fun vl s2 ⟨l, H2, I2, pl, q2⟩ => thn (hu pins s2 σ H2 _ I2 q2) fun vu s3 zq => ?_)
  obtain ⟨u, H3, I3, pu, q3⟩ := zq
  rw [evalPart_none]
  refine wpAny_pure ?_
  have I4 : Inv X pins σ H3 { s3 with heap := s3.heap.push { cls := .type "slice", data := .fields #[vl, vu, .none] } } := I3.kept (t' := s3.toks) fun b ob q => Heap.get?_push_of_some _ q
  obtain ⟨T, id, hT, ht, hg⟩ := hr pins { s3 with heap := s3.heap.push { cls := .type "slice", data := .fields #[vl, vu, .none] } } σ H3 x v vl vu l u s3.heap.objs.size Q I4 r1 (Heap.IsSliceOf.new ..) pl pu q3
  show wpAny (model X.prog X.w) X.A (subscriptTail e (.Slice lo hi none p2) v (.ref s3.heap.objs.size)) (EP X pins σ Q) X.xe { s3 with heap := s3.heap.push { cls := .type "slice", data := .fields #[vl, vu, .none] } }
  exact tail_any (ops := [.ref s3.heap.objs.size, v]) ht hT hg (by with_unfolding_all rfl)
noncomputable def cutV (xs : List V) (lo hi : Option Int) : List V := (xs.drop (HT.sIx xs.length 0 lo)).take (HT.sIx xs.length xs.length hi - HT.sIx xs.length 0 lo)
theorem cutV_length (xs : List V) (lo hi : Option Int) : (cutV xs lo hi).length ≤ xs.length := by
  unfold cutV
  rw [List.length_take, List.length_drop]
  omega
def rSlT (K : PySem.W.Frag) : V → Option Int → Option Int → Hp → VK → Prop := fun x lo hi H Q => ∃ a xs, x = .ref a ∧ SqT K H a xs ∧
  ¬ (HT.sIx xs.length 0 lo = 0 ∧ HT.sIx xs.length xs.length hi = xs.length) ∧ ∀ p, H p = none → Q (.ref p) (upd H p (.tup (cutV xs lo hi)))
theorem sl_tup : SlR X (rSlT X.K) := by
  intro pins s σ H x v vl vu lo hi sl Q I rx hs pl pu h
  obtain ⟨a, xs, rfl, hx, hw, q⟩ := h
  cases rx
  obtain ⟨its, r, ht, hz⟩ := I.tuple hx
  have hlen : its.toArray.size = xs.length := by rw [List.size_toArray]; exact r.length.symm
  refine ⟨"tuple", _, PyProof.Rows.slot_tuple_getitem.lookup, ht.typeIs, ?_⟩
  refine HT.getItem_tuple_cut ht hs pl pu (by rw [hlen]; exact hw) ?_ (by rw [hlen]; exact hz)
  rw [hlen]
  refine ⟨.ref s.heap.objs.size, _, I.laid (t' := s.toks) (o := .tup (cutV xs lo hi)) (fun b ob q => Heap.get?_push_of_some _ q) (Nat.le_refl _) ?_, rfl, q _ (I.hok.fresh (Nat.le_refl _))⟩
  exact ⟨Nat.le_trans (cutV_length xs lo hi) hz, _, (r.drop (HT.sIx xs.length 0 lo)).take (HT.sIx xs.length xs.length hi - HT.sIx xs.length 0 lo), IsTup.new _ _⟩
def rCatT (K : PySem.W.Frag) : R2 := fun x y H Q => ∃ a b xs ys, x = .ref a ∧ y = .ref b ∧ SqT K H a xs ∧ SqT K H b ys ∧ xs ≠ [] ∧ xs.length + ys.length ≤ sizeLine ∧
  (ys = [] → Q (.ref a) H) ∧ (ys ≠ [] → ∀ p, H p = none → Q (.ref p) (upd H p (.tup (xs ++ ys))))
theorem Vals.nil_iff {xs : List V} {us : List Value} (r : Vals xs us) : us = [] ↔ xs = [] := by
  cases r with
  | nil => simp
  | cons _ _ => simp
theorem op_catT : OpR X (binaryOp .Add) (rCatT X.K) := by
  intro pins s σ H x y v u Q I rx ry h
  obtain ⟨a, b, xs, ys, rfl, rfl, ha, hb, hx, hz, q1, q2⟩ := h
  cases rx
  cases ry
  obtain ⟨its, r1, p1, _⟩ := I.tuple ha
  obtain ⟨its2, r2, p2, _⟩ := I.tuple hb
  refine HT.cat_tup p1 p2 (fun z => hx (r1.nil_iff.mp z)) (fun z => ⟨.ref a, H, I, rfl, q1 (r2.nil_iff.mp z)⟩) (fun z => ?_) (by rw [← r1.length, ← r2.length]; exact hz)
  refine ⟨.ref s.heap.objs.size, _, I.laid (t' := s.toks) (o := .tup (xs ++ ys)) (fun b ob q => Heap.get?_push_of_some _ q) (Nat.le_refl _) ?_, rfl, q2 (fun w => z (r2.nil_iff.mpr w)) _ (I.hok.fresh (Nat.le_refl _))⟩
  exact ⟨by rw [List.length_append]; exact hz, _, r1.append r2, IsTup.new _ _⟩
end
end L2
namespace L2
open PySem PySem.Spec PyProof.Rows
noncomputable def ixN (n : Nat) (i : Int) : Option Nat := if 0 ≤ i then (if i < n then some i.toNat else none) else if -(n : Int) ≤ i then some (i + n).toNat else none
noncomputable def atI {α : Type} (xs : List α) (i : Int) : Option α := (ixN xs.length i).bind fun j => xs[j]?
theorem ixN_seq {n : Nat} {i : Int} {j : Nat} (h : ixN n i = some j) : seqIndex? i n = some j ∧ j < n ∧ -(n : Int) ≤ i ∧ i < n := by
  unfold ixN at h
  by_cases h0 : 0 ≤ i
  · rw [if_pos h0] at h
    by_cases h1 : i < n
    · rw [if_pos h1] at h
      have e : i.toNat = j := Option.some.inj h
      exact ⟨by rw [seqIndex_of h0 h1, e], by omega, by omega, h1⟩
    · rw [if_neg h1] at h; cases h
  · rw [if_neg h0] at h
    by_cases h1 : -(n : Int) ≤ i
    · rw [if_pos h1] at h
      have e : (i + n).toNat = j := Option.some.inj h
      exact ⟨by rw [seqIndex_neg (by omega) h1, e], by omega, h1, by omega⟩
    · rw [if_neg h1] at h; cases h
theorem atI_get {α : Type} {xs : List α} {i : Int} {v : α} (h : atI xs i = some v) : ∃ j, seqIndex? i xs.length = some j ∧ xs[j]? = some v ∧ j < xs.length ∧ -(xs.length : Int) ≤ i ∧ i < xs.length := by
  unfold atI at h
  cases e : ixN xs.length i with
  | none => rw [e] at h; cases h
  | some j =>
    rw [e] at h
    obtain ⟨h1, h2, h3, h4⟩ := ixN_seq e
    exact ⟨j, h1, h, h2, h3, h4⟩
def PlainIx (b : Expr) : Prop := ∀ o i, subscripted b false o i = operate [o, i] (getItem o i)
def IxR (X : Cx) (r : R2) : Prop :=
  ∀ (value slice : Expr) (pins : List (Addr × Obj)) (s : Shared) (σ : St) (H : Hp) (x y : V) (v u : Value) (Q : VK), Inv X pins σ H s → RelV x v → RelV y u → r x y H Q →
    subscripted slice false v u = operate [v, u] (getItem v u) → wpAny (model X.prog X.w) X.A (subscriptTail value slice v u) (EP X pins σ Q) X.xe s
def MtR (X : Cx) (id : String) (r : V → List V → Hp → VK → Prop) : Prop :=
  ∀ (pins : List (Addr × Obj)) (s : Shared) (σ : St) (H : Hp) (x : V) (xs : List V) (v : Value) (us : List Value) (Q : VK), Inv X pins σ H s → RelV x v → Vals xs us → r x xs H Q →
    wpAny (model X.prog X.w) X.A (call (.builtin id) (v :: us)) (EP X pins σ Q) X.xe s
section
variable {X : Cx} {a b : Expr} {ta tb : TE} {pos : Pos}
theorem pe_ix {r : R2} (hr : IxR X r) (ha : PE X a ta) (hb : PE X b tb) (hs : PlainIx b) : PE X (.Subscript a b pos) (tOp r ta tb) := by
  intro pins s σ H Q I h
  exact Subscript_ (binT ha hb I h fun v u s2 x y H2 I2 rx ry q => hr a b pins s2 σ H2 x y v u Q I2 rx ry q (hs _ _))
def rIxL (K : PySem.W.Frag) : R2 := fun x y H Q => ∃ p xs i v, x = .ref p ∧ y = .int i ∧ SqL K H p xs ∧ atI xs i = some v ∧ Q v H
def rIxT (K : PySem.W.Frag) : R2 := fun x y H Q => ∃ p xs i v, x = .ref p ∧ y = .int i ∧ SqT K H p xs ∧ atI xs i = some v ∧ Q v H
def rIxS : R2 := fun x y H Q => ∃ z i c, x = .str z ∧ y = .int i ∧ z.length ≤ sizeLine ∧ atI z.cps.toList i = some c ∧ Q (.str ⟨#[c]⟩) H
theorem ix_list : IxR X (rIxL X.K) := by
  intro value slice pins s σ H x y v u Q I rx ry h hs
  obtain ⟨p, xs, i, z, rfl, rfl, hq, he, q⟩ := h
  cases rx
  obtain ⟨t, rfl⟩ := ry
  obtain ⟨its, r, pl, hz⟩ := I.list hq
  obtain ⟨j, h1, h2, h3, h4, h5⟩ := atI_get he
  obtain ⟨w, ew, rw'⟩ := r.get h2
  have hl := r.length
  have hn := line63
  have fin : EP X pins σ Q w s := ⟨z, H, I, rw', q⟩
  by_cases h0 : 0 ≤ i
  · have hj : i.toNat = j := by
      rw [seqIndex_of h0 h5] at h1
      exact Option.some.inj h1
    exact item_listR pl.isList h0 (by omega) (by rw [hj]; simpa using ew) fin hs
  · have hj : (i + (its.toArray.size : Int)).toNat = j := by
      rw [seqIndex_neg (by omega) h4] at h1
      rw [List.size_toArray, ← hl]
      exact Option.some.inj h1
    exact subscriptTail_builtinR (x := w) pl.isList.typeIs slot_list_getitem.lookup
      (wpAny_getItem_list_neg (Q := fun r s' => r = w ∧ EP X pins σ Q r s') pl.isList (by omega) (by rw [List.size_toArray] <;> omega) (by omega) (by rw [hj]; simpa using ew) ⟨rfl, fin⟩) hs
theorem ix_tup : IxR X (rIxT X.K) := by
  intro value slice pins s σ H x y v u Q I rx ry h hs
  obtain ⟨p, xs, i, z, rfl, rfl, hq, he, q⟩ := h
  cases rx
  obtain ⟨t, rfl⟩ := ry
  obtain ⟨its, r, pl, hz⟩ := I.tuple hq
  obtain ⟨j, h1, h2, h3, h4, h5⟩ := atI_get he
  obtain ⟨w, ew, rw'⟩ := r.get h2
  have hl := r.length
  have hn := line63
  have fin : EP X pins σ Q w s := ⟨z, H, I, rw', q⟩
  exact subscriptTail_builtinR (x := w) pl.typeIs slot_tuple_getitem.lookup
    (getItem_tuple (j := j) (Q := fun r s' => r = w ∧ EP X pins σ Q r s') pl (by omega) (by omega) (by rw [List.size_toArray, ← hl]; exact h1) (by simpa using ew) ⟨rfl, fin⟩) hs
theorem ix_str : IxR X rIxS := by
  intro value slice pins s σ H x y v u Q I rx ry h hs
  obtain ⟨z, i, c, rfl, rfl, hz, he, q⟩ := h
  obtain ⟨t, rfl⟩ := rx
  obtain ⟨t', rfl⟩ := ry
  obtain ⟨j, h1, h2, h3, h4, h5⟩ := atI_get he
  have hl : z.cps.toList.length = z.length := by simp [Str.length]
  rw [hl] at h1 h4 h5
  have hn := line63
  exact tail_any (typeIs_str s z t) slot_str_getitem.lookup (getItem_str (c := c) (by
    have e1 : decide (i < -(2 ^ 63 : Int)) = false := decide_eq_false (by omega)
    have e2 : decide (i ≥ 2 ^ 63) = false := decide_eq_false (by omega)
    rw [e1, e2, Bool.or_false]) (by rw [h1]; simpa using h2) ⟨.str ⟨#[c]⟩, H, I.tok _, ⟨_, rfl⟩, q⟩) hs
theorem mapSeq_set (its : List Value) (n j : Nat) (u : Value) : Obj.mapSeq (·.setIfInBounds j u) { cls := .type "list", data := .seq its.toArray n } = { cls := .type "list", data := .seq (its.set j u).toArray n } := by
  simp [Obj.mapSeq]
theorem Inv.lst {pins : List (Addr × Obj)} {σ : St} {H : Hp} {s : Shared} {p : Addr} {xs : List V} (I : Inv X pins σ H s) (h : H p = some (.lst xs)) :
    ∃ (its : List Value) (n : Nat), Vals xs its ∧ s.heap.get? p = some { cls := .type "list", data := .seq its.toArray n } ∧ xs.length ≤ sizeLine := by
  obtain ⟨z, its, n, r, e⟩ := I.hok p _ h
  exact ⟨its, n, r, e, z⟩
theorem Inv.lstUpd {pins : List (Addr × Obj)} {σ : St} {H : Hp} {s : Shared} {p : Addr} {xs ys : List V} {its its' : List Value} {n n' : Nat} {f : Obj → Obj} (I : Inv X pins σ H s) (h : H p = some (.lst xs))
    (ho : s.heap.get? p = some { cls := .type "list", data := .seq its.toArray n }) (hf : f { cls := .type "list", data := .seq its.toArray n } = { cls := .type "list", data := .seq its'.toArray n' }) (r : Vals ys its') (hz : ys.length ≤ sizeLine) (t : Nat) :
    Inv X pins σ (upd H p (.lst ys)) { s with heap := s.heap.update p f, toks := t } := by
  have e : (s.heap.update p f).get? p = some { cls := .type "list", data := .seq its'.toArray n' } := by
    rw [Heap.get?_update_self f ho (by rw [hf] <;> rfl), hf]
  refine I.write (x := p) (e := p) (by rw [h]; trivial) (.inl rfl) (fun b u hb q => (Heap.get?_update_other _ _ (Ne.symm hb)).trans q) ⟨_, e⟩ ?_
  exact ⟨hz, its', n', r, e⟩
def rSetL : V → V → V → Hp → (Hp → Prop) → Prop := fun o i v H Q => ∃ p xs k j, o = .ref p ∧ i = .int k ∧ H p = some (.lst xs) ∧ ixN xs.length k = some j ∧ Q (upd H p (.lst (xs.set j v)))
theorem set_list : PSet X rSetL := by
  intro pins s σ H o i v ov iv u Q I ro ri rv h
  obtain ⟨p, xs, k, j, rfl, rfl, hp, hj, q⟩ := h
  cases ro
  obtain ⟨t, rfl⟩ := ri
  obtain ⟨its, n, r, ho, hz⟩ := I.lst hp
  obtain ⟨h1, h2, h3, h4⟩ := ixN_seq hj
  have hl := r.length
  have hn := line63
  have I' : Inv X pins σ (upd H p (.lst (xs.set j v))) { s with heap := s.heap.update p (Obj.mapSeq (·.setIfInBounds j u)) } :=
    I.lstUpd hp ho (mapSeq_set its n j u) (r.set rv j) (by rw [List.length_set]; exact hz) s.toks
  by_cases h0 : 0 ≤ k
  · have hk : k.toNat = j := by
      rw [seqIndex_of h0 h4] at h1
      exact Option.some.inj h1
    exact PySem.W.ki_setAt ho h0 (by omega) (by rw [List.size_toArray, ← hl]; exact h4) (by rw [hk]; exact ⟨_, I', q⟩)
  · have hk : (k + (its.toArray.size : Int)).toNat = j := by
      rw [seqIndex_neg (by omega) h3] at h1
      rw [List.size_toArray, ← hl]
      exact Option.some.inj h1
    exact PySem.W.ki_setBack ho (by omega) (by rw [List.size_toArray, ← hl]; exact h3) (by omega) (by rw [hk]; exact ⟨_, I', q⟩)
theorem slice_bounds (lo hi : Option Int) (n : Nat) : (sliceBounds lo hi none n).1 = ((HT.sIx n 0 lo : Nat) : Int) ∧ (sliceBounds lo hi none n).2.1 = ((HT.sIx n n hi : Nat) : Int) ∧ (sliceBounds lo hi none n).2.2 = 1 := by
  refine ⟨?_, ?_, rfl⟩
  · cases lo with
    | none => simp [sliceBounds, HT.sIx]
    | some i =>
      simp only [sliceBounds, HT.sIx, Option.getD_none, show (1 : Int) > 0 by decide, if_true]
      by_cases h : i < 0
      · simp only [h, if_true] <;> omega
      · simp only [h, if_false] <;> omega
  · cases hi with
    | none => simp [sliceBounds, HT.sIx]
    | some i =>
      simp only [sliceBounds, HT.sIx, Option.getD_none, show (1 : Int) > 0 by decide, if_true]
      by_cases h : i < 0
      · simp only [h, if_true] <;> omega
      · simp only [h, if_false] <;> omega
theorem slicePick_cut (its : List Value) (lo hi : Option Int) : slicePick its.toArray lo hi none = ((its.drop (HT.sIx its.length 0 lo)).take (HT.sIx its.length its.length hi - HT.sIx its.length 0 lo)).toArray := by
  obtain ⟨h1, h2, h3⟩ := slice_bounds lo hi its.toArray.size
  unfold slicePick
  rw [h1, h2, h3]
  simp only [sliceRange_one, pick_run, List.size_toArray] <;> rfl
def rSlL (K : PySem.W.Frag) : V → Option Int → Option Int → Hp → VK → Prop := fun x lo hi H Q => ∃ a xs, x = .ref a ∧ SqL K H a xs ∧ ∀ p, H p = none → Q (.ref p) (upd H p (.lst (cutV xs lo hi)))
theorem sl_list : SlR X (rSlL X.K) := by
  intro pins s σ H x v vl vu lo hi sl Q I rx hs pl pu h
  obtain ⟨a, xs, rfl, hx, q⟩ := h
  cases rx
  obtain ⟨its, r, ht, hz⟩ := I.list hx
  have hlen := r.length
  refine ⟨"list", _, slot_list_getitem.lookup, ht.isList.typeIs, ?_⟩
  refine wpAny_getItem_list_slice ht.isList hs pl pu .none (by simp) ?_ (by rw [List.size_toArray] <;> omega)
  rw [slicePick_cut, ← hlen]
  refine ⟨.ref s.heap.objs.size, _, I.laid (t' := s.toks) (o := .lst (cutV xs lo hi)) (fun b ob q => Heap.get?_push_of_some _ q) (Nat.le_refl _) ?_, rfl, q _ (I.hok.fresh (Nat.le_refl _))⟩
  exact ⟨Nat.le_trans (cutV_length xs lo hi) hz, _, 0, (r.drop (HT.sIx xs.length 0 lo)).take (HT.sIx xs.length xs.length hi - HT.sIx xs.length 0 lo), Heap.get?_push_size _ rfl⟩
noncomputable def flatV : V → Bool
  | .non => true
  | .bl _ => true
  | .int _ => true
  | .str _ => true
  | _ => false
noncomputable def eqV : V → V → Bool
  | .non, .non => true
  | .bl a, .bl b => a == b
  | .bl a, .int b => (if a then 1 else 0) == b
  | .int a, .bl b => a == (if b then 1 else 0)
  | .int a, .int b => a == b
  | .str a, .str b => a == b
  | _, _ => false
theorem eqAt_V {A : Around} {s : Shared} {y x : V} {u v : Value} (ry : RelV y u) (rx : RelV x v) (fy : flatV y = true) (fx : flatV x = true) : SeqAt.EqAt A s u v (eqV y x) := by
  cases y with
  | non =>
    cases ry
    cases x with
    | non => cases rx; exact SeqAt.EqAt.same _
    | bl b => cases rx; exact SeqAt.EqAt.none_bool b
    | int b => obtain ⟨t, rfl⟩ := rx; exact SeqAt.EqAt.none_int b t
    | str b => obtain ⟨t, rfl⟩ := rx; exact SeqAt.EqAt.none_str b t
    | _ => exact absurd (show false = true from fx) Bool.false_ne_true
  | bl a =>
    cases ry
    cases x with
    | non => cases rx; exact SeqAt.EqAt.bool_none a
    | bl b => cases rx; exact SeqAt.EqAt.bool_bool a b
    | int b => obtain ⟨t, rfl⟩ := rx; exact SeqAt.EqAt.bool_int a b t
    | str b => obtain ⟨t, rfl⟩ := rx; exact SeqAt.EqAt.bool_str a b t
    | _ => exact absurd (show false = true from fx) Bool.false_ne_true
  | int a =>
    obtain ⟨t', rfl⟩ := ry
    cases x with
    | non => cases rx; exact SeqAt.EqAt.int_none a t'
    | bl b => cases rx; exact SeqAt.EqAt.int_bool a t' b
    | int b => obtain ⟨t, rfl⟩ := rx; exact SeqAt.EqAt.int_int a t' b t
    | str b => obtain ⟨t, rfl⟩ := rx; exact SeqAt.EqAt.int_str a t' b t
    | _ => exact absurd (show false = true from fx) Bool.false_ne_true
  | str a =>
    obtain ⟨t', rfl⟩ := ry
    cases x with
    | non => cases rx; exact SeqAt.EqAt.str_none a t'
    | bl b => cases rx; exact SeqAt.EqAt.str_bool a t' b
    | int b => obtain ⟨t, rfl⟩ := rx; exact SeqAt.EqAt.str_int a t' b t
    | str b => obtain ⟨t, rfl⟩ := rx; exact SeqAt.EqAt.str_str a t' b t
    | _ => exact absurd (show false = true from fx) Bool.false_ne_true
  | _ => exact absurd (show false = true from fy) Bool.false_ne_true
noncomputable def eqU (x : V) (u : Value) : Bool := match u with
  | .none => eqV .non x
  | .bool b => eqV (.bl b) x
  | .int i _ => eqV (.int i) x
  | .str z _ => eqV (.str z) x
  | _ => false
theorem eqU_of {x y : V} {u : Value} (r : RelV y u) (f : flatV y = true) : eqU x u = eqV y x := by
  cases y with
  | non => cases r; rfl
  | bl b => cases r; rfl
  | int i => obtain ⟨t, rfl⟩ := r; rfl
  | str z => obtain ⟨t, rfl⟩ := r; rfl
  | _ => exact absurd (show false = true from f) Bool.false_ne_true
theorem any_eqU {x : V} : ∀ {xs : List V} {us : List Value}, Vals xs us → xs.all flatV = true → us.any (eqU x) = xs.any fun y => eqV y x
  | _, _, .nil, _ => rfl
  | y :: xs, u :: us, .cons r t, f => by
    rw [List.all_cons, Bool.and_eq_true] at f
    rw [List.any_cons, List.any_cons, eqU_of r f.1, any_eqU t f.2]
theorem mem_eqAt {A : Around} {s : Shared} {x : V} {v : Value} (rx : RelV x v) (fx : flatV x = true) : ∀ {xs : List V} {us : List Value}, Vals xs us → xs.all flatV = true → ∀ u ∈ us, SeqAt.EqAt A s u v (eqU x u)
  | _, _, .nil, _ => fun u hu => by cases hu
  | y :: xs, u :: us, .cons r t, f => fun u' hu => by
    rw [List.all_cons, Bool.and_eq_true] at f
    rcases List.mem_cons.mp hu with rfl | hu
    · rw [eqU_of r f.1]; exact eqAt_V r rx f.1 fx
    · exact mem_eqAt rx fx t f.2 u' hu
noncomputable def inV (x : V) (xs : List V) : Bool := xs.any fun y => eqV y x
def rIn (K : PySem.W.Frag) (neg : Bool) : R2 := fun x y H Q => ∃ p xs, y = .ref p ∧ (SqL K H p xs ∨ SqT K H p xs) ∧ flatV x = true ∧ xs.all flatV = true ∧ Q (.bl (if neg then !inV x xs else inV x xs)) H
theorem op_in_seq : OpR X (compareOp .In) (rIn X.K false) := by
  intro pins s σ H x y v u Q I rx ry h
  obtain ⟨p, xs, rfl, hq, fx, fs, q⟩ := h
  cases ry
  rcases hq with hq | hq
  · obtain ⟨its, r, pl, hz⟩ := I.list hq
    refine SeqAt.in_listAt (eqU x) pl.isList (fun w hw => mem_eqAt rx fx r fs w (by simpa using hw)) ⟨.bl _, H, I, rfl, ?_⟩
    rw [show its.toArray.any (eqU x) = its.any (eqU x) by simp, any_eqU r fs]
    exact q
  · obtain ⟨its, r, pl, hz⟩ := I.tuple hq
    refine SeqAt.in_tupleAt (eqU x) pl (fun w hw => mem_eqAt rx fx r fs w (by simpa using hw)) ⟨.bl _, H, I, rfl, ?_⟩
    rw [show its.toArray.any (eqU x) = its.any (eqU x) by simp, any_eqU r fs]
    exact q
theorem call_len_seq : CallR X (.builtin "len") (fun xs H Q => ∃ p ys, xs = [.ref p] ∧ (SqL X.K H p ys ∨ SqT X.K H p ys) ∧ Q (.int ys.length) H) := by
  intro pins s σ H xs us Q I r h
  obtain ⟨p, ys, rfl, hq, q⟩ := h
  obtain ⟨u, rfl, rx⟩ := vals1 r
  cases rx
  have hn := line63
  rcases hq with hq | hq
  · obtain ⟨its, r', pl, hz⟩ := I.list hq
    have hlen := r'.length
    exact Calls.call_len_list pl.isList (by simp only [List.size_toArray] <;> omega) ⟨.int ys.length, H, I.tok _, ⟨s.toks + 1, by rw [List.size_toArray, hlen]⟩, q⟩
  · obtain ⟨its, r', pl, hz⟩ := I.tuple hq
    have hlen := r'.length
    exact len_tuple pl (by simp only [List.size_toArray] <;> omega) ⟨.int ys.length, H, I.tok _, ⟨s.toks + 1, by rw [List.size_toArray, hlen]⟩, q⟩
theorem call_len_str : CallR X (.builtin "len") (fun xs H Q => ∃ z, xs = [.str z] ∧ z.length ≤ sizeLine ∧ Q (.int z.length) H) := by
  intro pins s σ H xs us Q I r h
  obtain ⟨z, rfl, hz, q⟩ := h
  obtain ⟨u, rfl, t, rfl⟩ := vals1 r
  have hn := line63
  exact len_str (by omega) ⟨.int z.length, H, I.tok _, ⟨_, rfl⟩, q⟩
theorem call_list_of : CallR X (.type "list") (fun xs H Q => ∃ p ys, xs = [.ref p] ∧ (SqL X.K H p ys ∨ SqT X.K H p ys) ∧ ∀ l, H l = none → Q (.ref l) (upd H l (.lst ys))) := by
  intro pins s σ H xs us Q I r h
  obtain ⟨p, ys, rfl, hq, q⟩ := h
  obtain ⟨u, rfl, rx⟩ := vals1 r
  cases rx
  have fin : ∀ (its : List Value), Vals ys its → ys.length ≤ sizeLine → ∀ (h' : Heap) (c' : Nat), (∀ b o', s.heap.get? b = some o' → h'.get? b = some o') →
      h'.get? s.heap.objs.size = some { cls := .type "list", dict := none, data := .seq its.toArray c', slots := #[] } → EP X pins σ Q (.ref s.heap.objs.size) { s with heap := h' } := fun its r' hz h' c' kp e =>
    ⟨.ref s.heap.objs.size, _, I.laid (t' := s.toks) kp (Nat.le_refl _) (show ObjOk X.prog X.w _ h' _ (.lst ys) from ⟨hz, its, c', r', e⟩), rfl, q _ (I.hok.fresh (Nat.le_refl _))⟩
  rcases hq with hq | hq
  · obtain ⟨its, r', pl, hz⟩ := I.list hq
    have hlen := r'.length
    obtain ⟨o, ho, hc, n, hd⟩ := pl.isList
    exact call_list_seq p (.inl rfl) ho hc hd (fun h' c' kp e => fin its r' hz h' c' kp e) (by simp only [List.size_toArray] <;> omega)
  · obtain ⟨its, r', pl, hz⟩ := I.tuple hq
    have hlen := r'.length
    obtain ⟨o, ho, hc, n, hd⟩ := pl
    exact call_list_seq p (.inr rfl) ho hc hd (fun h' c' kp e => fin its r' hz h' c' kp e) (by simp only [List.size_toArray] <;> omega)
theorem call_tuple_of : CallR X (.type "tuple") (fun xs H Q => ∃ p ys, xs = [.ref p] ∧ ((SqL X.K H p ys ∧ ∀ l, H l = none → Q (.ref l) (upd H l (.tup ys))) ∨ (SqT X.K H p ys ∧ Q (.ref p) H))) := by
  intro pins s σ H xs us Q I r h
  obtain ⟨p, ys, rfl, h⟩ := h
  obtain ⟨u, rfl, rx⟩ := vals1 r
  cases rx
  rcases h with ⟨hq, q⟩ | ⟨hq, q⟩
  · obtain ⟨its, r', pl, hz⟩ := I.list hq
    have hlen := r'.length
    refine call_tuple_list pl.isList (fun h' kp => ?_) (by simp only [List.size_toArray] <;> omega)
    have I1 : Inv X pins σ H { s with heap := h' } := I.kept (t' := s.toks) kp
    have I2 : Inv X pins σ (upd H h'.objs.size (.tup ys)) { s with heap := h'.push { cls := .type "tuple", data := .seq its.toArray } } :=
      I1.laid (t' := s.toks) (fun b o e => Heap.get?_push_of_some _ e) (Nat.le_refl _) (show ObjOk X.prog X.w _ _ _ (.tup ys) from ⟨hz, its, r', IsTup.new _ _⟩)
    exact ⟨.ref h'.objs.size, _, I2, rfl, q _ (I1.hok.fresh (Nat.le_refl _))⟩
  · obtain ⟨its, r', pl, hz⟩ := I.tuple hq
    exact call_tuple_same pl ⟨.ref p, H, I, rfl, q⟩
def tyV (K : PySem.W.Frag) (T : String) (x : V) (H : Hp) : Prop := match x with
  | .str _ => T = "str"
  | .int _ => T = "int"
  | .ref p => (T = "list" ∧ ∃ xs, SqL K H p xs) ∨ (T = "tuple" ∧ ∃ o, K.lookup p = some o ∧ o.cls = .type "tuple" ∧ o.dict = none) ∨
      (T = "dict" ∧ ((∃ kvs, Rd H p (.dK kvs)) ∨ (∃ kvs, H p = some (.dT kvs)) ∨ ∃ ep kvs, H p = some (.dE ep kvs))) ∨ (T = "set" ∧ ∃ S n, H p = some (.set S n))
  | _ => False
theorem tyV_is {pins : List (Addr × Obj)} {σ : St} {H : Hp} {s : Shared} {T : String} {x : V} {v : Value} (I : Inv X pins σ H s) (r : RelV x v) (ty : tyV X.K T x H) :
    s.TypeIs v T ∧ ∀ a, v = .ref a → ∃ ob, s.heap.get? a = some ob ∧ ob.dict = none := by
  cases x with
  | str z =>
    obtain ⟨t, rfl⟩ := r
    cases (show T = "str" from ty)
    exact ⟨typeIs_str s z t, fun _ e => nomatch e⟩
  | int i =>
    obtain ⟨t, rfl⟩ := r
    cases (show T = "int" from ty)
    exact ⟨typeIs_int s i t, fun _ e => nomatch e⟩
  | ref p =>
    cases r
    rcases ty with ⟨rfl, xs, hq⟩ | ⟨rfl, o, hk, hc, hd⟩ | ⟨rfl, hk⟩ | ⟨rfl, S, n, hk⟩
    · obtain ⟨its, _, pl, _⟩ := I.list hq
      refine ⟨pl.isList.typeIs, fun a e => ?_⟩
      cases e
      obtain ⟨o, n, e, c, hd, _⟩ := pl
      exact ⟨o, e, hd⟩
    · refine ⟨⟨o, I.kIn p o hk, hc⟩, fun a e => ?_⟩
      cases e
      exact ⟨o, I.kIn _ o hk, hd⟩
    · have z : ∃ o, s.heap.get? p = some o ∧ o.ExactDict := by
        rcases hk with ⟨kvs, hk⟩ | ⟨kvs, hk⟩ | ⟨ep, kvs, hk⟩
        · obtain ⟨_, _, _, _, o, _, _, e, ex, _⟩ := hk.ok I.hok
          exact ⟨o, e, ex⟩
        · obtain ⟨_, _, _, _, o, _, _, e, ex, _⟩ := I.hok p _ hk
          exact ⟨o, e, ex⟩
        · obtain ⟨_, _, _, _, o, _, e, ex, _⟩ := I.hok p _ hk
          exact ⟨o, e, ex⟩
      obtain ⟨o, e, ex⟩ := z
      refine ⟨⟨o, e, ex.1⟩, fun a e2 => ?_⟩
      cases e2
      exact ⟨o, e, ex.2.1⟩
    · obtain ⟨o, _, _, _, e, ex, _⟩ := I.hok p _ hk
      refine ⟨⟨o, e, ex.1⟩, fun a e2 => ?_⟩
      cases e2
      exact ⟨o, e, ex.2.1⟩
  | _ => exact False.elim ty
def tBM0 (K : PySem.W.Frag) (T : String) (r : V → List V → Hp → VK → Prop) (to : TE) : TE := fun σ H Q => to σ H fun x H1 => tyV K T x H1 ∧ r x [] H1 Q
def tBM (K : PySem.W.Frag) (T : String) (r : V → List V → Hp → VK → Prop) (to : TE) (t : TA) : TE := fun σ H Q => to σ H fun x H1 => tyV K T x H1 ∧ t σ H1 fun xs H2 => r x xs H2 Q
variable {o e : Expr} {es : List Expr} {to : TE} {t : TA} {name : Str} {apos cpos : Pos} {T id : String} {r : V → List V → Hp → VK → Prop}
theorem pe_bm0 (pa : PlainAttrs T) (slot : Slot T name id) (hty : typeOf (.builtin id) = pure (.type "method_descriptor")) (hm : MtR X id r) (ho : PE X o to)
    (hbase : attributeBase o name X.env (eval o X.env) = eval o X.env := by rfl) (hline : (apos.endLine == cpos.line) = true := by rfl) : PE X (.Call (.Attribute o name apos) [] [] cpos) (tBM0 X.K T r to) := by
  intro pins s σ H Q I h
  refine wpAny_Call_method0_late hbase hline (thn (ho pins s σ H _ I h) fun v s1 zq => ?_)
  obtain ⟨x, H1, I1, r1, ty, q1⟩ := zq
  obtain ⟨h1, h2⟩ := tyV_is I1 r1 ty
  exact ⟨T, id, pa, slot, hty, h1, h2, Calls.callWith_builtin rfl (PySem.evalArgs_none (hm pins s1 σ H1 x [] v [] Q I1 r1 .nil q1))⟩
theorem pe_bm (pa : PlainAttrs T) (slot : Slot T name id) (hty : typeOf (.builtin id) = pure (.type "method_descriptor")) (hm : MtR X id r) (ho : PE X o to) (ha : PA X (e :: es) t)
    (hbase : attributeBase o name X.env (eval o X.env) = eval o X.env := by rfl)
    (hfew : ((backTo cpos (starEach (e :: es) X.env)).all (fun x => !x.1) && (backToKw cpos (keywordEach [] X.env)).all (fun x => x.1.isSome)
      && decide ((e :: es).length + ([] : List Keyword).length + (if ([] : List Keyword).isEmpty then 0 else 1) < 30)) = true := by rfl)
    (hline : (apos.endLine == cpos.line) = true := by rfl) (hs : starEach (e :: es) X.env = (false, eval e X.env) :: starEach es X.env := by rfl) (hplain : (backTo cpos (starEach es X.env)).any (·.1) = false := by rfl) :
    PE X (.Call (.Attribute o name apos) (e :: es) [] cpos) (tBM X.K T r to t) := by
  intro pins s σ H Q I h
  refine wpAny_Call_method_late hbase hfew hline rfl (thn (ho pins s σ H _ I h) fun v s1 zq => ?_)
  obtain ⟨x, H1, I1, r1, ty, q1⟩ := zq
  obtain ⟨h1, h2⟩ := tyV_is I1 r1 ty
  refine ⟨T, id, pa, slot, hty, h1, h2, ?_⟩
  have hA := ha cpos pins s1 σ H1 _ I1 q1
  rw [hs] at hA ⊢
  refine Calls.callWith_builtin (by show (false || (backTo cpos (starEach es X.env)).any (·.1)) = false; rw [hplain] <;> rfl) (Calls.evalArgs_plain ?_)
  exact thn hA fun us s2 ⟨vs, H2, I2, r2, q2⟩ => hm pins s2 σ H2 x vs v us Q I2 r1 r2 q2
/- xs.append(e), list.index on a module's tuple .. are MtR facts of 06m -/
end
end L2
namespace L2
open PySem PySem.Spec PyProof.Rows
def MtM (X : Cx) (id : String) (r : V → List V → Hp → VK → Prop) : Prop :=
  ∀ (pins : List (Addr × Obj)) (s : Shared) (σ : St) (H : Hp) (x : V) (xs : List V) (v : Value) (us : List Value) (Q : VK), Inv X pins σ H s → RelV x v → Vals xs us → r x xs H Q →
    wpAny (model X.prog X.w) X.A (call (.builtin id) (v :: us)) (EP X pins σ Q) X.xe s
theorem Vals.one : ∀ {x : V} {us : List Value}, Vals [x] us → ∃ u, us = [u] ∧ RelV x u
  | _, _, .cons r .nil => ⟨_, rfl, r⟩
theorem Vals.zero : ∀ {us : List Value}, Vals [] us → us = []
  | _, .nil => rfl
theorem Vals.dropLast {xs : List V} {us : List Value} (h : Vals xs us) : Vals xs.dropLast us.dropLast := by
  induction h with
  | nil => exact .nil
  | cons r t ih =>
    cases t with
    | nil => exact .nil
    | cons q t' => exact .cons r ih
theorem Vals.eraseIdx : ∀ {xs : List V} {us : List Value} (i : Nat), Vals xs us → Vals (xs.eraseIdx i) (us.eraseIdx i)
  | _, _, _, .nil => .nil
  | _, _, 0, .cons _ t => t
  | _, _, i + 1, .cons r t => .cons r (Vals.eraseIdx i t)
theorem Vals.rep {xs : List V} {us : List Value} (h : Vals xs us) : ∀ k : Nat, Vals (List.replicate k xs).flatten (List.replicate k us).flatten
  | 0 => .nil
  | k + 1 => by
    rw [List.replicate_succ, List.replicate_succ, List.flatten_cons, List.flatten_cons]
    exact Vals.append h (Vals.rep h k)
theorem erase_last {α : Type} (l : List α) : l.eraseIdx (l.length - 1) = l.dropLast := by
  induction l with
  | nil => rfl
  | cons a r ih =>
    cases r with
    | nil => rfl
    | cons b r =>
      have e : (a :: b :: r).length - 1 = ((b :: r).length - 1) + 1 := by
        have h1 : (a :: b :: r).length = r.length + 2 := rfl
        have h2 : (b :: r).length = r.length + 1 := rfl
        omega
      rw [e, List.eraseIdx_cons_succ, ih]
      all_goals rfl
theorem len_erase {α : Type} : ∀ (l : List α) (i : Nat), (l.eraseIdx i).length ≤ l.length
  | [], _ => Nat.le_refl _
  | _ :: _, 0 => Nat.le_succ _
  | _ :: r, i + 1 => Nat.succ_le_succ (len_erase r i)
theorem foldl_rep (its : List Value) : ∀ (k : Nat) (acc : List Value),
    List.foldl (fun x1 x2 => x1 ++ x2) acc.toArray (List.replicate k its.toArray) = (acc ++ (List.replicate k its).flatten).toArray
  | 0, acc => by simp
  | k + 1, acc => by
    have e : acc.toArray ++ its.toArray = (acc ++ its).toArray := by simp
    have e2 : (acc ++ its) ++ (List.replicate k its).flatten = acc ++ (List.replicate (k + 1) its).flatten := by
      rw [List.replicate_succ, List.flatten_cons, List.append_assoc]
    rw [← e2, ← foldl_rep its k (acc ++ its), ← e, List.replicate_succ, List.foldl_cons]
section
variable {X : Cx} {pins : List (Addr × Obj)} {σ : St} {H : Hp} {s : Shared} {l b : Addr} {xs ys zs : List V}
theorem Inv.lset {its its' : List Value} {n : Nat} {f : Array Value → Array Value} {t' : Nat} (I : Inv X pins σ H s) (hH : H l = some (.lst xs))
    (e : s.heap.get? l = some { cls := .type "list", data := .seq its.toArray n }) (hf : f its.toArray = its'.toArray) (hv : Vals ys its') (hz : ys.length ≤ sizeLine) :
    Inv X pins σ (upd H l (.lst ys)) { s with heap := s.heap.update l (Obj.mapSeq f), toks := t' } := by
  have q := PySem.IsL.update e f
  rw [hf] at q
  refine I.write (x := l) (e := l) (by rw [hH]; exact trivial) (.inl rfl) (fun b' u hb hu => (Heap.get?_update_other s.heap (Obj.mapSeq f) (Ne.symm hb)).trans hu) ⟨_, q⟩ ?_
  exact ⟨hz, its', _, hv, q⟩
theorem Inv.lnew {its : List Value} {t' : Nat} (I : Inv X pins σ H s) (hv : Vals ys its) (hz : ys.length ≤ sizeLine) :
    Inv X pins σ (upd H s.heap.objs.size (.lst ys)) { s with heap := s.heap.push { cls := .type "list", data := .seq its.toArray }, toks := t' } :=
  I.laid (fun _ _ q => Heap.get?_push_of_some _ q) (Nat.le_refl _) ⟨hz, its, 0, hv, Heap.get?_push_size _ rfl⟩
theorem Inv.fresh (I : Inv X pins σ H s) : H s.heap.objs.size = none := I.hok.fresh (Nat.le_refl _)
theorem Inv.lstM (I : Inv X pins σ H s) (hH : H l = some (.lst xs)) : xs.length ≤ sizeLine ∧ ∃ (its : List Value) (n : Nat), Vals xs its ∧ xs.length = its.length ∧ s.heap.get? l = some { cls := .type "list", data := .seq its.toArray n } := by
  obtain ⟨z, its, n, r, e⟩ := I.hok l _ hH
  exact ⟨z, its, n, r, r.length, e⟩
theorem notLongL {n : Nat} (h : n ≤ sizeLine) : Builtin.List.listTooLong n = false := by
  unfold Builtin.List.listTooLong
  exact decide_eq_false (by omega)
end
section
variable {X : Cx}
def rAppend : V → List V → Hp → VK → Prop := fun x vs H Q => ∃ l xs y, x = .ref l ∧ vs = [y] ∧ H l = some (.lst xs) ∧ xs.length < sizeLine ∧ Q .non (upd H l (.lst (xs ++ [y])))
theorem mt_append : MtM X "list.append" rAppend := by
  intro pins s σ H x vs v us Q I rx rv h
  obtain ⟨l, xs, y, rfl, rfl, hH, hz, q⟩ := h
  cases rx
  obtain ⟨u, rfl, ru⟩ := rv.one
  obtain ⟨z, its, n, r, hl, e⟩ := I.lstM hH
  refine call_meets F.slot_list_append ⟨_, e, rfl⟩ F.entry_list_append (F.args_list_append_2 _ _) (PySem.list_append l its.toArray n u (by rw [List.size_toArray]; omega)) ⟨e, ?_⟩
  refine ⟨.non, _, I.lset (its' := its ++ [u]) hH e (by simp) (r.append (.cons ru .nil)) ?_, rfl, q⟩
  rw [List.length_append, List.length_singleton]
  omega
def rExtend : V → List V → Hp → VK → Prop := fun x vs H Q => ∃ l b xs zs, x = .ref l ∧ vs = [.ref b] ∧ H l = some (.lst xs) ∧ H b = some (.lst zs) ∧ xs.length + zs.length ≤ sizeLine ∧ Q .non (upd H l (.lst (xs ++ zs)))
theorem mt_extend : MtM X "list.extend" rExtend := by
  intro pins s σ H x vs v us Q I rx rv h
  obtain ⟨l, b, xs, zs, rfl, rfl, hH, hB, hz, q⟩ := h
  cases rx
  obtain ⟨u, rfl, ru⟩ := rv.one
  cases ru
  obtain ⟨z, its, n, r, hl, e⟩ := I.lstM hH
  obtain ⟨z2, its2, n2, r2, hl2, e2⟩ := I.lstM hB
  have hsz : its.toArray.size + its2.toArray.size ≤ sizeLine := by rw [List.size_toArray, List.size_toArray]; omega
  have hlong : ¬ (!its.toArray.isEmpty && Builtin.List.listTooLong (its.toArray.size + its2.toArray.size)) = true := by
    rw [notLongL hsz, Bool.and_false]
    exact Bool.false_ne_true
  refine call_meets F.slot_list_extend ⟨_, e, rfl⟩ F.entry_list_extend (F.args_list_extend_2 _ _)
    (AutoSeq1.list_extend_list_list_0 l its.toArray n b its2.toArray n2 hlong (by rw [List.size_toArray]; omega) (by omega)) ⟨e, e2, ?_⟩
  refine ⟨.non, _, I.lset (its' := its ++ its2) hH e (by simp) (r.append r2) ?_, rfl, q⟩
  rw [List.length_append]
  omega
def rPop : V → List V → Hp → VK → Prop := fun x vs H Q => ∃ l xs y, x = .ref l ∧ vs = [] ∧ H l = some (.lst xs) ∧ xs[xs.length - 1]? = some y ∧ Q y (upd H l (.lst xs.dropLast))
theorem mt_pop : MtM X "list.pop" rPop := by
  intro pins s σ H x vs v us Q I rx rv h
  obtain ⟨l, xs, y, rfl, rfl, hH, hy, q⟩ := h
  cases rx
  have hus := rv.zero
  subst hus
  obtain ⟨z, its, n, r, hl, e⟩ := I.lstM hH
  obtain ⟨u, hu, ru⟩ := r.get hy
  have hy' : its.toArray[its.toArray.size - 1]? = some u := by
    show its.toArray[its.length - 1]? = some u
    rw [← Array.getElem?_toList, ← hl]
    exact hu
  refine call_meets F.slot_list_pop ⟨_, e, rfl⟩ F.entry_list_pop (F.args_list_pop_1 _) (MeetsSeq.list_pop_last l its.toArray n u hy' (by rw [List.size_toArray]; omega)) ⟨e, ?_⟩
  refine ⟨y, _, I.lset (its' := its.dropLast) hH e ?_ r.dropLast ?_, ru, q⟩
  · show its.toArray.eraseIdxIfInBounds (its.toArray.size - 1) = its.dropLast.toArray
    rw [List.size_toArray, List.eraseIdxIfInBounds_toArray, erase_last]
  · rw [List.length_dropLast]
    omega
def rPopAt : V → List V → Hp → VK → Prop := fun x vs H Q => ∃ l xs i k y, x = .ref l ∧ vs = [.int i] ∧ H l = some (.lst xs) ∧ -(2 ^ 63) ≤ i ∧ i < 2 ^ 63 ∧ seqIndex? i xs.length = some k ∧ xs[k]? = some y ∧ Q y (upd H l (.lst (xs.eraseIdx k)))
theorem mt_popAt : MtM X "list.pop" rPopAt := by
  intro pins s σ H x vs v us Q I rx rv h
  obtain ⟨l, xs, i, k, y, rfl, rfl, hH, h1, h2, hk, hy, q⟩ := h
  cases rx
  obtain ⟨u, rfl, ru⟩ := rv.one
  obtain ⟨t, rfl⟩ := ru
  obtain ⟨z, its, n, r, hl, e⟩ := I.lstM hH
  obtain ⟨w, hw, rw'⟩ := r.get hy
  refine call_meets F.slot_list_pop ⟨_, e, rfl⟩ F.entry_list_pop (F.args_list_pop_2 _ _)
    (MeetsSeq.list_pop_at l its.toArray n i t k w (fitsIndex_both h1 h2) (by rw [List.size_toArray, ← hl]; exact hk) (by rw [← Array.getElem?_toList]; exact hw) (by rw [List.size_toArray]; omega)) ⟨e, ?_⟩
  refine ⟨y, _, I.lset (its' := its.eraseIdx k) hH e ?_ (r.eraseIdx k) ?_, rw', q⟩
  · show its.toArray.eraseIdxIfInBounds k = (its.eraseIdx k).toArray
    rw [List.eraseIdxIfInBounds_toArray]
  · have := len_erase xs k
    omega
def rCat : R2 := fun x y H Q => ∃ l b xs zs, x = .ref l ∧ y = .ref b ∧ H l = some (.lst xs) ∧ H b = some (.lst zs) ∧ xs.length + zs.length ≤ sizeLine ∧ ∀ p, H p = none → Q (.ref p) (upd H p (.lst (xs ++ zs)))
theorem op_cat : OpR X (binaryOp .Add) rCat := by
  intro pins s σ H x y v u Q I rx ry h
  obtain ⟨l, b, xs, zs, rfl, rfl, hH, hB, hz, q⟩ := h
  cases rx
  cases ry
  obtain ⟨z, its, n, r, hl, e⟩ := I.lstM hH
  obtain ⟨z2, its2, n2, r2, hl2, e2⟩ := I.lstM hB
  refine PySem.P.add_list e e2 ?_ (by rw [List.size_toArray, List.size_toArray]; omega)
  have ea : its.toArray ++ its2.toArray = (its ++ its2).toArray := by simp
  rw [ea]
  exact ⟨.ref _, _, I.lnew (t' := s.toks) (r.append r2) (by rw [List.length_append]; omega), rfl, q _ I.fresh⟩
def rRep : R2 := fun x y H Q => ∃ l k xs, x = .ref l ∧ y = .int k ∧ H l = some (.lst xs) ∧ -(2 ^ 63) ≤ k ∧ k < 2 ^ 63 ∧ xs.length * k.toNat ≤ sizeLine ∧
  ∀ p, H p = none → Q (.ref p) (upd H p (.lst (List.replicate k.toNat xs).flatten))
theorem len_rep {α : Type} (xs : List α) (k : Nat) : (List.replicate k xs).flatten.length = k * xs.length := by
  induction k with
  | zero => simp
  | succ k ih => rw [List.replicate_succ, List.flatten_cons, List.length_append, ih, Nat.succ_mul, Nat.add_comm]
theorem op_rep : OpR X (binaryOp .Mult) rRep := by
  intro pins s σ H x y v u Q I rx ry h
  obtain ⟨l, k, xs, rfl, rfl, hH, h1, h2, hz, q⟩ := h
  cases rx
  obtain ⟨t, rfl⟩ := ry
  obtain ⟨z, its, n, r, hl, e⟩ := I.lstM hH
  have hlen : its.toArray.size * k.toNat ≤ sizeLine := by rw [List.size_toArray, ← hl]; exact hz
  have hcap : ¬ its.toArray.size * k.toNat > (2 ^ 63 - 1) / 8 := by
    have : (sizeLine : Nat) ≤ (2 ^ 63 - 1) / 8 := by decide
    omega
  have hfit : ¬ (!Builtin.List.listFitsIndex k) = true := by
    rw [fitsIndex_both h1 h2]
    exact Bool.false_ne_true
  have hlong : ¬ Builtin.List.listTooLong (its.toArray.size * k.toNat) = true := by
    rw [notLongL hlen]
    exact Bool.false_ne_true
  have hnew : List.foldl (fun x1 x2 => x1 ++ x2) #[] (List.replicate (if its.toArray.isEmpty = true then 0 else k.toNat) its.toArray) = (List.replicate k.toNat its).flatten.toArray := by
    have f0 : ∀ m : Nat, List.foldl (fun x1 x2 => x1 ++ x2) #[] (List.replicate m its.toArray) = (List.replicate m its).flatten.toArray := fun m => by
      have := foldl_rep its m []
      rw [List.nil_append] at this
      exact this
    rw [f0]
    cases its with
    | nil => simp
    | cons a r' => rw [if_neg (by simp)]
  refine wpAny_binaryOp_repeat_ref (T := "list") (U := "int") (by decide) ⟨_, e, rfl⟩ (fun s' => typeIs_int s' k t) noFill_list_mul F.fills_int_mul F.slot_int_rmul repeat_list F.slot_int_index.lookup
    (call_meets F.slot_int_rmul (typeIs_int s k t) F.entry_int_rmul (F.args_int_rmul_2 _ _) (int___rmul___int_list k t l its.toArray n)
      ⟨e, rfl, ⟨_, e, rfl⟩, call_meets F.slot_list_mul ⟨_, e, rfl⟩ F.entry_list_mul (F.args_list_mul_2 _ _) (AutoListH.list___mul___list_int_3 l its.toArray n k t hfit hcap hlong) ⟨e, ?_⟩⟩)
  rw [hnew]
  exact ⟨.ref _, _, I.lnew (t' := s.toks) (r.rep k.toNat) (by rw [len_rep, Nat.mul_comm]; exact hz), rfl, q _ I.fresh⟩
end
section
variable {prog : Program} {w : World} {A : Around} {E : Value → Shared → Prop} {s : Shared}
end
section
variable {X : Cx}
end
end L2
namespace Att
open PySem PySem.W PySem.Calls PyProof.Rows
theorem ints_of_wellAll {P : Params} {h : Heap} : ∀ (ns : List Int) (vs : List Value), WellAll P h vs (ns.map WData.int) → IntsAre vs ns := by
  intro ns
  induction ns with
  | nil =>
    intro vs w
    rw [List.map_nil] at w
    cases w
    exact .nil
  | cons n ns ih =>
    intro vs w
    rw [List.map_cons] at w
    cases w with
    | cons a b =>
      cases a
      exact .cons _ _ (ih _ b)
theorem script_of {l : OpenLaw} {n : Nat} (hn : l.most = some n) {P : Params} {h : Heap} {args : List WData} {vals : List Value}
    (hpre : l.row.toRowW.claim.pre args = true) (hwl : WellAll P h vals args) :
    ∃ a vs ns, vals = [Value.ref a] ∧ args = [WData.list (ns.map WData.int)] ∧ h.get? a = some { cls := .type "list", data := .seq vs.toArray } ∧ IntsAre vs ns ∧ ns.length ≤ n := by
  have hsh : WShape.hasAll [] args [.list .int] = true := (pre_splitW hpre).1
  have hc : l.pre.holds [] { args := args } = true := (pre_splitW hpre).2
  obtain ⟨d, r, rfl, h1, h2⟩ := hasAllW_cons hsh
  obtain rfl := hasAllW_nil h2
  obtain ⟨xs, rfl, h3⟩ := hasW_list h1
  obtain ⟨ns, rfl⟩ := items_int h3
  have hlen : ns.length ≤ n := by
    unfold OpenLaw.pre at hc
    have h4 : (WTm.not (.lt (.lit (.int (n : Int))) (.len (.arg 0)))).holds [] { args := [.list (ns.map .int)] } = true := by
      have h4 := (holds_andW hc).1
      rw [hn] at h4
      exact h4
    have h5 := condW_of h4 (w_not (w_lt w_lit (w_len_list (w_arg rfl))))
    rw [List.length_map] at h5
    refine Nat.le_of_not_lt fun q => ?_
    have q' : (n : Int) < ((ns.length : Nat) : Int) := by omega
    first
      | (rw [decide_eq_true q'] at h5; exact absurd h5 (by decide))
      | (simp at h5; omega)
  cases hwl with
  | cons w1 w2 =>
    cases w2
    cases w1 with
    | list ho hall => exact ⟨_, _, ns, rfl, rfl, ho, ints_of_wellAll ns _ hall, hlen⟩
theorem post_true (l : OpenLaw) (args : List WData) : l.row.toRowW.claim.post args (.bool true) args = true :=
  postW_of (r := l.row.toRowW) (X := (true == true))
    (show WShape.has [] (.bool true) .bool = true by first | rfl | decide | simp [WShape.has, WShape.arms, WShape.armsAll])
    (show (WTm.eq .res (.lit (.bool true))).value [] { args := args, res := some (.bool true), after := args } = some (.bool (true == true)) from w_eq_bool (w_res rfl) w_lit) rfl
theorem attach_call {l : OpenLaw} {n : Nat} {q : Program} {loose : List Str} {XP : (Str → Option Value) → Heap → Prop} {YP : World → Heap → Prop} {d : DefRec}
    (hn : l.most = some n) (hdf : d.params.defaults = [])
    (call : ∀ (w : World) (s₀ s₁ : Shared) (mg mb : Str → Option Value) (fa : Addr) (o : Obj) (pm cd doc : Value) (a : Addr) (vs : List Value) (ns : List Int),
      Ground q loose [] XP w s₀ mg mb s₁.heap → YP w s₁.heap →
      s₁.heap.get? fa = some o → o.data = .func (docDef d.name d.params d.body d.scope pm cd doc) → s₁.heap.CodeRec cd d.name → mg d.name = some (.ref fa) →
      s₁.heap.get? a = some { cls := .type "list", data := .seq vs.toArray } → IntsAre vs ns → ns.length ≤ n → s₁.gens = #[] →
      codeAny (model l.prog w) callerA (.call (.ref fa) ⟨[.ref a], []⟩) (fun r s' => r = .ok (.ret (.bool true)) ∧ OldK s₁.heap s'.heap ∧ s'.os = s₁.os ∧ AllBare s'.gens) s₁) :
    WalkO q loose XP YP l.row.toRowW d [] (fun f vs => PySem.call f vs) := by
  intro w s₀ s₁ mg mb G Y fa o pm cd doc dV kV ho hd hcd hD hmg hg args vals as hpre hlay hrd hwl hlo
  obtain rfl : dV = .none := Dflts.none hD hdf
  obtain rfl : kV = .none := Dflts.noKw hD
  obtain ⟨a, vs, ns, rfl, rfl, hobj, hints, hlen⟩ := script_of hn hpre hwl
  refine enter_call (codeAny_mono (call w s₀ s₁ mg mb fa o pm cd doc a vs ns G Y ho (fd_plain hd) hcd hmg hobj hints hlen hg) fun r s' hq => ?_)
  obtain ⟨rfl, h2, h3, h4⟩ := hq
  exact ⟨.inl ⟨.bool true, .bool true, [], rfl, fun _ => rfl, .bool true, post_true l _, fun _ => ⟨List.Pairwise.nil, fun _ hm => (nomatch hm)⟩⟩, h2, h3, h4⟩
section
variable {prog : Program} {w : World} {A : Around} {E : Value → Shared → Prop} {s : Shared} {K : Frag}
end
end Att
namespace L2
open PySem PySem.Spec PyProof.Rows
theorem vals_ints : ∀ {vs : List Value} {ns : List Int}, IntsAre vs ns → Vals (ns.map V.int) vs
  | _, _, .nil => .nil
  | _, _, .cons n t h => .cons ⟨t, rfl⟩ (vals_ints h)
def Only (H : Hp) : Prop := ∀ b, H b = none ∨ ∃ o xs, H b = some (.frz o (.lst xs))
theorem law_call {P : Program} {w : World} {K : PySem.W.Frag} {mg mb : Str → Option Value} {CX : CXT} {k : Nat} {fa a : Addr} {fd : FuncData} {x : Str} {sp : Sp} {s₁ : Shared} {vs : List Value} {ns : List Int}
    (KX : K.In s₁.heap) (hns : s₁.heap.Ns mainGlobals mg) (hb : s₁.heap.Ns builtinsNs mb) (hbb : ∀ x : Str, x ≠ "__name__" → mb x = bootBuiltins x) (hlim : s₁.heap.NoLimit) (hg : s₁.gens = #[])
    (ha : s₁.heap.get? a = some { cls := .type "list", data := .seq vs.toArray }) (hi : IntsAre vs ns) (hl : ns.length ≤ sizeLine) (hr : Room k callerA)
    (F : ∀ base : Heap, K.In base → base.Ns mainGlobals mg → FnOk P w K mg base CX k fa fd [x] sp) (hbind : ∀ (s : Shared) (u : Value), BindsTo s fd ⟨[u], []⟩ [(x, u)])
    (hsp : ∀ H : Hp, Only H → SqL K H a (ns.map V.int) → sp [.ref a] H (fun v _ => v = .bl true) fun _ _ _ => False)
    (hCX : ∀ H e s', CX [] H s₁ (fun _ _ _ => False) e s' → False) :
    codeAny (model P w) callerA (.call (.ref fa) ⟨[.ref a], []⟩) (fun r s' => r = .ok (.ret (.bool true)) ∧ OldK s₁.heap s'.heap ∧ s'.os = s₁.os ∧ AllBare s'.gens) s₁ := by
  have rv := vals_ints hi
  have lenV := hi.length
  have core : ∀ H : Hp, Only H → SqL K H a (ns.map V.int) → HOk P w H s₁.heap → (∀ b, H b ≠ none → b = a) → (H a ≠ none → K.lookup a = none) →
      codeAny (model P w) callerA (.call (.ref fa) ⟨[.ref a], []⟩) (fun r s' => r = .ok (.ret (.bool true)) ∧ OldK s₁.heap s'.heap ∧ s'.os = s₁.os ∧ AllBare s'.gens) s₁ := by
    intro H hO hS hok hA hK
    have base_of : ∀ {b : Addr} {o : Obj}, s₁.heap.get? b = some o → H b = none → (hidT s₁.heap H).get? b = some o := fun e n => hidT_get e n
    have noA : ∀ {b : Addr} {o : Obj} {es : Array DictEntry} {ep : Nat}, s₁.heap.get? b = some o → o.data = .dict es ep → H b = none := fun {b o es ep} e d => by
      cases q : H b with
      | none => rfl
      | some u =>
        have e' : b = a := hA b (by rw [q]; simp)
        subst e'
        rw [ha] at e; cases e
        have d' : Data.seq vs.toArray _ = Data.dict es ep := d
        cases d'
    have nsK : ∀ {b : Addr} {m : Str → Option Value}, s₁.heap.Ns b m → (hidT s₁.heap H).Ns b m := fun {b m} ⟨o, es, ep, e, d, r⟩ => ⟨o, es, ep, base_of e (noA e d), d, r⟩
    have hKb : K.In (hidT s₁.heap H) := fun b o e => base_of (KX b o e) (by
      cases q : H b with
      | none => rfl
      | some u =>
        have e' : b = a := hA b (by rw [q]; simp)
        subst e'
        rw [hK (by rw [q]; simp)] at e; cases e)
    have hM : Mod K mg (hidT s₁.heap H) := ⟨hKb, nsK hns, ⟨mb, nsK hb, hbb⟩, let ⟨mc, h1, h2⟩ := hlim; ⟨mc, nsK h1, h2⟩⟩
    have e0 : Env0 P w K mg (hidT s₁.heap H) callerA [] s₁ H := ⟨rfl, hM, fun b o e => of_hidT e, Nat.le_of_eq (hidT_size _ _), trivial, fun b hb => absurd (show b ∈ ([] : List Addr) from hb) (by simp), hok, .of_eq hg⟩
    refine codeAny_mono ((F _ hKb (nsK hns)).run callerA [] s₁ H ⟨[.ref a], []⟩ [.ref a] [.ref a] _ _ hr e0 (hbind s₁ (.ref a)) (.cons rfl .nil) (hsp H hO hS)) fun r s' h => ?_
    cases r with
    | error e => exact (hCX H e s' h).elim
    | ok fl =>
      cases fl with
      | next => exact False.elim h
      | brk => exact False.elim h
      | cont => exact False.elim h
      | ret u =>
        obtain ⟨v, H', os, bare, un, hok', r', q⟩ := h
        have q' : v = .bl true := q
        subst q'
        obtain rfl : u = Value.bool true := r'
        refine ⟨rfl, OldK.of_keep fun b o e => ?_, os, bare⟩
        cases q : H b with
        | none => exact un.keep b o e q (by intro z; exact absurd (show b ∈ ([] : List Addr) from z) (by simp)) (by simp)
        | some u =>
          rcases hO b with z | ⟨ob, xs, z⟩
          · rw [q] at z; cases z
          · have z2 := un.frzs b ob _ z
            obtain ⟨e1, _⟩ := hok b _ z
            obtain ⟨e2, _⟩ := hok' b _ z2
            rw [e] at e1; cases e1
            exact e2
  cases hk : K.lookup a with
  | some o =>
    have e := KX a o hk
    rw [ha] at e
    cases e
    refine core (fun _ => none) (fun _ => .inl rfl) (.inr ⟨_, vs.toArray, _, hk, rfl, rfl, rfl, by rw [List.size_toArray, lenV]; exact hl, by simpa using rv⟩) (fun b u z => by have z' : (none : Option HO) = some u := z; cases z') (fun b z => absurd rfl z) fun z => absurd rfl z
  | none =>
    refine core (fun b => if b = a then some (.frz { cls := .type "list", data := .seq vs.toArray } (.lst (ns.map V.int))) else none) (fun b => ?_) (.inl (.inr ⟨{ cls := .type "list", data := .seq vs.toArray }, if_pos rfl⟩)) (fun b u z => ?_) (fun b z => ?_) fun _ => hk
    · by_cases hb : b = a
      · exact .inr ⟨_, _, if_pos hb⟩
      · exact .inl (if_neg hb)
    · by_cases hb : b = a
      · have z' := (if_pos hb).symm.trans z
        cases z'
        subst hb
        exact ⟨ha, by rw [List.length_map]; exact hl, vs, _, rv, ha⟩
      · have z' := (if_neg hb).symm.trans z
        cases z'
    · by_cases hb : b = a
      · exact hb
      · exact absurd (if_neg hb) z
end L2
namespace L2
open PySem PySem.Spec PyProof.Rows
abbrev KOf {K : PySem.W.Frag} {h : Heap} (_ : K.In h) : PySem.W.Frag := K
theorem walk_of {l : PySem.W.OpenLaw} {n k : Nat} {q : Program} {loose : List Str} {XP : (Str → Option Value) → Heap → Prop} {YP : World → Heap → Prop} {d : DefRec} {K : Params → PySem.W.Frag} {CX : World → CXT} {sp : World → Sp} {x : Str}
    (hn : l.most = some n) (hn2 : n ≤ sizeLine) (hdf : d.params.defaults = []) (hr : Room k callerA)
    (hY : ∀ (w : World) (h : Heap), YP w h → (K w.params).In h)
    (F : ∀ (w : World) (mg : Str → Option Value) (fa : Addr) (h : Heap), (K w.params).In h → h.Ns mainGlobals mg → mg d.name = some (.ref fa) →
      ∃ fd : FuncData, (∀ (s : Shared) (u : Value), BindsTo s fd ⟨[u], []⟩ [(x, u)]) ∧
        ∀ base : Heap, (K w.params).In base → base.Ns mainGlobals mg → FnOk l.prog w (K w.params) mg base (CX w) k fa fd [x] (sp w))
    (hsp : ∀ (w : World) (H : Hp) (a : Addr) (ns : List Int), ns.length ≤ n → Only H → SqL (K w.params) H a (ns.map V.int) → sp w [.ref a] H (fun v _ => v = .bl true) fun _ _ _ => False)
    (hCX : ∀ (w : World) (H : Hp) (s : Shared) (e : Value) (s' : Shared), CX w [] H s (fun _ _ _ => False) e s' → False) :
    PySem.W.WalkO q loose XP YP l.row.toRowW d [] (fun f vs => PySem.call f vs) := by
  refine Att.attach_call hn hdf fun w s₀ s₁ mg mb fa o pm cd doc a vs ns G Y ho hd hcd hmg hobj hints hlen hg => ?_
  have KX := hY w _ Y
  obtain ⟨fd, hb, hF⟩ := F w mg fa _ KX G.T.g hmg
  exact law_call KX G.T.g G.T.b G.T.builtins G.T.nolimit hg hobj hints (Nat.le_trans hlen hn2) hr hF hb (fun H hO hS => hsp w H a ns hlen hO hS) fun H e s' => hCX w H s₁ e s'
end L2
/- THE LAST THEOREM (shape; LID, My.* are yours):
   My.Adr: a structure of the addresses that your layer names (classes, functions); My.Txt K t: a structure (Prop) of the equations over K;
   My.txt_mk : {K} {implicit addresses ..} (e1 : nsIn K mainGlobals "law" = some (some (.ref f))) (e2 : K.lookup f = some ⟨oc, od, .func (fnOf "law" "law" params body scope dV kV doc pm an cdv ct), sl⟩) (e3 : codeIn K cdv "law" = true) .. : ∃ t, My.Txt K t
set_option maxRecDepth 100000 in
set_option maxHeartbeats 0 in
theorem PySem.Challenge.cw_LID_holds : PySem.Challenge.rw_LID.Holds := by
  w_on; o_law; k_head; (case hw => w_witness2)
  k_fill
  refine L2.walk_of (l := PySem.Challenge.rw_LID) (n := 63) (k := 40) (x := "script") (CX := fun w => ..) (sp := fun _ => My.sp_law) rfl (by decide) rfl ⟨rfl, by decide, by decide⟩ (fun w h Y => PySem.W.kIn_of Y) ?F ?S ?C
  case F =>
    intro w mg fa h KX G hmg
    have T : ∃ t, My.Txt (L2.KOf KX) t := by
      dsimp only [L2.KOf]                          -- K must stand as «<heap const> w.params» for k_is
      refine' My.txt_mk ?e1 ?e2 ?e3 ..
      (case e1 => PySem.W.k_is)                    -- in the order: a name -> its address -> its object -> its parts
      (case e2 => PySem.W.k_is)
      ..
    obtain ⟨t, T⟩ := T
    have e0 := hmg.symm.trans (PySem.W.mg_of KX G T.law)
    cases e0                                       -- fa is the law's own address
    exact ⟨_, fun s u => .of_eq rfl, fun base kb nb => My.law_fn T kb nb⟩     -- if «.of_eq rfl» comes too early: refine' ⟨_, ?b, fun base kb nb => My.law_fn T kb nb⟩; exact fun s u => .of_eq rfl
  case S => exact fun w H a ns hl hO hS => ..
  case C => exact ..
(the tactic k_is has no namespace: write k_is) -/
namespace L2
open PySem PySem.Spec PyProof.Rows
noncomputable def defArgs (s : Stmt) : Arguments := match s with
  | .FunctionDef _ a _ _ _ _ _ _ _ _ => a
  | _ => { posonlyargs := [], args := [], vararg := none, kwonlyargs := [], kw_defaults := [], kwarg := none, defaults := [] }
noncomputable def defBody (s : Stmt) : List Stmt := match s with
  | .FunctionDef _ _ b _ _ _ _ _ _ _ => b
  | _ => []
noncomputable def defScope (s : Stmt) : Scope := match s with
  | .FunctionDef _ _ _ _ _ _ sc _ _ _ => sc
  | _ => { kind := .function, names := [], isGenerator := false, isCoroutine := false }
abbrev CX0 : CXT := fun _ _ _ _ _ _ => False
abbrev E0 : XK := fun _ _ _ => False
theorem pass0 {X : Cx} : Passes CX0 X E0 := fun _ _ _ _ _ _ _ h => h.elim
structure Fun (K : PySem.W.Frag) (x qual : Str) (st : Stmt) (f : Addr) (fd : FuncData) : Prop where
  ex : ∃ (oc : Value) (od : Option Addr) (kV doc pm : Value) (an : Option Addr) (cdv ct : Value) (osl : Array (Option Value)),
    fd = PySem.W.fnOf x qual (defArgs st) (defBody st) (defScope st) .none kV doc pm an cdv ct ∧ K.lookup f = some ⟨oc, od, .func fd, osl⟩ ∧ PySem.W.codeIn K cdv qual = true
  kp : PySem.W.keepIn K (.ref f) = true
section
variable {P : Program} {w : World} {K : PySem.W.Frag} {mg : Str → Option Value} {base : Heap}
theorem Fun.ok {x qual : Str} {st : Stmt} {f : Addr} {fd : FuncData} {N ps : List Str} {k : Nat} {sp : Sp} (F : Fun K x qual st f fd) (S : FnScope N ps (defScope st)) (len : ∀ vs H Q E, sp vs H Q E → vs.length = ps.length)
    (hbody : ∀ (cdv : Value) (A : Around) (outer : List Env) (s : Shared) (H : Hp) (vs : List V) (Q : VK) (E : XK), Room k (A.deeper (envOfC qual (defScope st) s.heap.objs.size f cdv)) → sp vs H Q E →
      ∃ t, PSs (cxOf CX0 P w K mg base N qual (defScope st) f cdv A outer s H E).nox (defBody st) t ∧ t { nx := fun _ H' => Q .non H', rt := Q } (start N vs) H) : FnOk P w K mg base CX0 (k + 1) f fd ps sp := by
  obtain ⟨oc, od, kV, doc, pm, an, cdv, ct, osl, rfl, lk, hcd⟩ := F.ex
  refine fn_of lk hcd S len fun A outer s H vs Q E hr hsp => ?_
  obtain ⟨t, h, q⟩ := hbody cdv A outer s H vs Q E hr hsp
  exact ⟨t, h.nox, q⟩
theorem Fun.binds {x qual : Str} {st : Stmt} {f : Addr} {fd : FuncData} {ps : List Str} (F : Fun K x qual st f fd)
    (h : ∀ (kV doc pm : Value) (an : Option Addr) (cdv ct : Value) (us : List Value), us.length = ps.length → bindArgs (PySem.W.fnOf x qual (defArgs st) (defBody st) (defScope st) .none kV doc pm an cdv ct) ⟨us, []⟩ = pure (ps.zip us)) : Binds K fd ps [] := by
  obtain ⟨oc, od, kV, doc, pm, an, cdv, ct, osl, rfl, lk, hcd⟩ := F.ex
  exact .all (h kV doc pm an cdv ct)
theorem fun_mk {x qual : Str} {st : Stmt} {f : Addr} {oc : Value} {od an : Option Addr} {osl : Array (Option Value)} {kV doc pm cdv ct : Value} (l : K.lookup f = some ⟨oc, od, .func (PySem.W.fnOf x qual (defArgs st) (defBody st) (defScope st) .none kV doc pm an cdv ct), osl⟩)
    (c : PySem.W.codeIn K cdv qual = true) (k : PySem.W.keepIn K (.ref f) = true) : Fun K x qual st f (PySem.W.fnOf x qual (defArgs st) (defBody st) (defScope st) .none kV doc pm an cdv ct) := ⟨⟨oc, od, kV, doc, pm, an, cdv, ct, osl, rfl, l, c⟩, k⟩
end
theorem hu_of {A : Around} {k : Nat} (hr : Room k A) : A.units + 1 < cLine := Nat.lt_of_le_of_lt (Nat.add_le_add_left (by decide : 1 ≤ 64) _) hr.units
section
variable {X : Cx}
end
def Same (H H' : Hp) : Prop := ∀ b o, H b = some o → H' b = some o
theorem Same.refl (H : Hp) : Same H H := fun _ _ h => h
theorem Same.trans {H H1 H2 : Hp} (a : Same H H1) (b : Same H1 H2) : Same H H2 := fun c o h => b c o (a c o h)
section
variable {κ : Type} [DecidableEq κ]
end
end L2
set_option Elab.async false
set_option linter.all false
set_option maxRecDepth 100000
set_option maxHeartbeats 4000000
namespace L2
open PySem PySem.Spec PyProof.Rows
noncomputable def clOf (env : Env) : List (Str × NameKind) → List (Str × Addr) → List (Str × Addr)
  | [], acc => acc
  | (n, k) :: r, acc => clOf env r (if (k == NameKind.free) = true then (n, (env.cells.lookup n).getD 0) :: acc else acc)
theorem closureFor_ok {scope : Scope} {env : Env} (h : ∀ x ∈ scope.names, x.2 = .free → ∃ c, env.cells.lookup x.1 = some c) : closureFor scope env = pure (clOf env scope.names []) := by
  unfold closureFor
  generalize ([] : List (Str × Addr)) = acc
  generalize scope.names = l at h
  induction l generalizing acc with
  | nil => rfl
  | cons x r ih =>
    obtain ⟨n, k⟩ := x
    have ih := fun a => ih a fun y hy => h y (List.mem_cons_of_mem _ hy)
    simp only [List.forIn_cons, clOf]
    by_cases hk : k = .free
    · obtain ⟨c, hc⟩ := h (n, k) List.mem_cons_self hk
      subst hk
      have e : cellOf env n = pure c := by unfold cellOf; simp only at hc; rw [hc]
      simp only [beq_self_eq_true, if_true, e, hc, Option.getD_some]
      exact ih ((n, c) :: acc)
    · have : (k == NameKind.free) = false := by simpa using hk
      simp only [this, Bool.false_eq_true, if_false]
      exact ih acc
theorem clOf_get {env : Env} {y : Str} {c : Addr} : ∀ (l : List (Str × NameKind)) (acc : List (Str × Addr)), (∀ z d, acc.lookup z = some d → env.cells.lookup z = some d) → (∀ x ∈ l, x.2 = .free → ∃ c, env.cells.lookup x.1 = some c) →
    (clOf env l acc).lookup y = some c → env.cells.lookup y = some c
  | [], acc, ha, _, e => ha y c e
  | (n, k) :: r, acc, ha, hf, e => by
    unfold clOf at e
    refine clOf_get r _ ?_ (fun x hx => hf x (List.mem_cons_of_mem _ hx)) e
    intro z d hz
    split at hz
    · rename_i hk
      have hk : k = .free := by simpa using hk
      obtain ⟨c', hc'⟩ := hf (n, k) List.mem_cons_self hk
      simp only at hc'
      rw [List.lookup_cons, hc'] at hz
      by_cases hzn : z = n
      · subst hzn
        simp only [beq_self_eq_true, Option.getD_some] at hz
        rw [hc']; exact hz
      · have : (z == n) = false := by simpa using hzn
        rw [this] at hz
        exact ha z d hz
    · exact ha z d hz
theorem clOf_has {env : Env} {y : Str} : ∀ (l : List (Str × NameKind)) (acc : List (Str × Addr)), ((∃ c, acc.lookup y = some c) ∨ (y, NameKind.free) ∈ l) → ∃ c, (clOf env l acc).lookup y = some c
  | [], acc, h => h.elim (fun x => x) fun x => by cases x
  | (n, k) :: r, acc, h => by
    unfold clOf
    refine clOf_has r _ ?_
    rcases h with ⟨c, hc⟩ | h
    · left
      split
      · rw [List.lookup_cons]
        split
        · exact ⟨_, rfl⟩
        · exact ⟨c, hc⟩
      · exact ⟨c, hc⟩
    · rcases List.mem_cons.mp h with h | h
      · cases h
        left
        simp
      · exact .inr h
noncomputable def blk (X : Cx) (scope : Scope) (N : List Str) (C : Addr) (ex : List Addr) (pins : List (Addr × Obj)) (s₀ : Shared) (H₀ : Hp) (E : Value → Shared → Prop) : Cx where
  prog := X.prog
  w := X.w
  K := X.K
  mg := X.mg
  base := X.base
  A := X.A
  N := N
  s₀ := s₀
  H₀ := H₀
  env := compEnvC scope (clOf X.env scope.names []) C X.env
  outer := X.stack
  stack := X.stack
  ex := ex
  fn := fun _ => false
  calm := X.calm
  pn := X.pn ++ pins
  xe := E
noncomputable def slots (fr : List (Option Nat)) (σ : St) : St := fr.map fun o => match o with
  | none => none
  | some j => (σ[j]?).getD none
noncomputable def compChk (N₀ N : List Str) (fr : List (Option Nat)) (scope oscope : Scope) : Bool :=
  (N.zip fr).all (fun p => match p.2 with
    | none => true
    | some j => decide (N₀[j]? = some p.1) && decide (scope.names.lookup p.1 = some .free)) &&
  scope.names.all (fun x => x.2 != .cell && (x.2 != .free || (oscope.names.lookup x.1 == some .cell || oscope.names.lookup x.1 == some .free)) && (x.2 != .local || decide (scope.names.lookup x.1 = some .local))) &&
  decide (fr.length = N.length) && (scope.kind == .function)
structure CompOk (X : Cx) (N : List Str) (fr : List (Option Nat)) (scope : Scope) : Prop where
  cell : ∀ y ∈ scope.names, y.2 ≠ .cell
  free : ∀ y ∈ scope.names, y.2 = .free → X.env.kindOf y.1 = some .cell ∨ X.env.kindOf y.1 = some .free
  loc : ∀ y ∈ scope.names, y.2 = .local → scope.names.lookup y.1 = some .local
  slot : ∀ (i j : Nat) (x : Str), N[i]? = some x → fr[i]? = some (some j) → X.N[j]? = some x ∧ scope.names.lookup x = some .free
  len : fr.length = N.length
  kind : scope.kind = .function
theorem CompOk.of {X : Cx} {N N₀ : List Str} {fr : List (Option Nat)} {scope oscope : Scope} (h : compChk N₀ N fr scope oscope = true) (hN : X.N = N₀ := by rfl) (hs : X.env.scope.names = oscope.names := by rfl) : CompOk X N fr scope := by
  unfold compChk at h
  simp only [Bool.and_eq_true, decide_eq_true_eq, List.all_eq_true, beq_iff_eq] at h
  obtain ⟨⟨⟨h1, h2⟩, h3⟩, h4⟩ := h
  refine ⟨fun y hy => ?_, fun y hy hf => ?_, fun y hy hl => ?_, fun i j x e1 e2 => ?_, h3, h4⟩
  · have := (h2 y hy).1.1
    simpa using this
  · have := (h2 y hy).1.2
    unfold Env.kindOf
    rw [hs]
    simpa [hf] using this
  · have := (h2 y hy).2
    simpa [hl] using this
  · have hm : (x, some j) ∈ N.zip fr := by
      refine List.mem_of_getElem? (i := i) ?_
      rw [List.getElem?_zip_eq_some]
      exact ⟨e1, e2⟩
    have := h1 _ hm
    rw [hN]
    simpa using this
theorem slots_get {fr : List (Option Nat)} {σ : St} {i : Nat} {v : V} (h : (slots fr σ)[i]? = some (some v)) : ∃ j : Nat, fr[i]? = some (some j) ∧ σ[j]? = some (some v) := by
  unfold slots at h
  rw [List.getElem?_map] at h
  cases e : fr[i]? with
  | none => rw [e] at h; cases h
  | some o =>
    rw [e] at h
    cases o with
    | none => cases h
    | some j =>
      refine ⟨j, rfl, ?_⟩
      have h' : (σ[j]?).getD none = some v := by simpa using h
      cases e2 : σ[j]? with
      | none => rw [e2] at h'; cases h'
      | some q => rw [e2] at h'; simp at h'; rw [h']
theorem relabel_kind {scope : Scope} {env : Env} : ∀ {l : List (Str × NameKind)} {x : Str} {k : NameKind},
    (l.map fun (n, k) => if (k == NameKind.free && env.scope.kind == .function && env.kindOf n == some .cell) then (n, NameKind.cell) else (n, k)).lookup x = some k →
    ∃ k', (x, k') ∈ l ∧ l.lookup x = some k' ∧ (k = k' ∨ (k' = .free ∧ k = .cell))
  | [], x, k, h => by cases h
  | (n, k0) :: r, x, k, h => by
    simp only [List.map_cons] at h
    by_cases hx : x = n
    · subst hx
      refine ⟨k0, List.mem_cons_self, by simp, ?_⟩
      split at h
      · rename_i hc
        simp at h
        have : k0 = .free := by simp at hc; exact hc.1.1
        exact .inr ⟨this, h.symm⟩
      · simp at h
        exact .inl h.symm
    · have hb : (x == n) = false := by simpa using hx
      have h' : (r.map fun (n, k) => if (k == NameKind.free && env.scope.kind == .function && env.kindOf n == some .cell) then (n, NameKind.cell) else (n, k)).lookup x = some k := by
        split at h <;> (rw [List.lookup_cons, hb] at h; exact h)
      obtain ⟨k', m, l', q⟩ := relabel_kind (scope := scope) h'
      exact ⟨k', List.mem_cons_of_mem _ m, by rw [List.lookup_cons, hb]; exact l', q⟩
theorem relabel_vis {env : Env} : ∀ {l : List (Str × NameKind)} {x : Str}, l.lookup x = some .free →
    (l.map fun (n, k) => if (k == NameKind.free && env.scope.kind == .function && env.kindOf n == some .cell) then (n, NameKind.cell) else (n, k)).lookup x = some .cell ∨
    (l.map fun (n, k) => if (k == NameKind.free && env.scope.kind == .function && env.kindOf n == some .cell) then (n, NameKind.cell) else (n, k)).lookup x = some .free
  | [], x, h => by cases h
  | (n, k0) :: r, x, h => by
    simp only [List.map_cons]
    by_cases hx : x = n
    · subst hx
      simp at h
      subst h
      split
      · left; simp
      · right; simp
    · have hb : (x == n) = false := by simpa using hx
      rw [List.lookup_cons, hb] at h
      have := relabel_vis (env := env) h
      split <;> (rw [List.lookup_cons, hb]; exact this)
section
variable {X : Cx} {pins : List (Addr × Obj)} {σ : St} {H : Hp} {s : Shared} {N : List Str} {fr : List (Option Nat)} {scope : Scope} {fp : List Addr} {E : Value → Shared → Prop}
theorem Inv.clHas (I : Inv X pins σ H s) (c : CompOk X N fr scope) : ∀ x ∈ scope.names, x.2 = .free → ∃ c, X.env.cells.lookup x.1 = some c := fun x hx hf => I.ok.has x.1 (c.free x hx hf)
theorem Inv.clGet (I : Inv X pins σ H s) (c : CompOk X N fr scope) {y : Str} {a : Addr} (h : (clOf X.env scope.names []).lookup y = some a) : X.env.cells.lookup y = some a :=
  clOf_get scope.names [] (fun _ _ e => by cases e) (I.clHas c) h
theorem Inv.block (I : Inv X pins σ H s) (c : CompOk X N fr scope) (hf : ∀ b ∈ fp, FpOk X pins H b) (hfp : ∀ b ∈ fp, b < s.heap.objs.size) {h' : Heap} {m : Str → Option Value} {t' : Nat} (hn : h'.Ns s.heap.objs.size m) (hk : ∀ b o, s.heap.get? b = some o → h'.get? b = some o) :
    Inv (blk X scope N s.heap.objs.size fp pins s H E) [] (slots fr σ) H { s with heap := h', toks := t' } := by
  have cg : ∀ y a, (clOf X.env scope.names []).lookup y = some a → X.env.cells.lookup y = some a := fun y a => I.clGet c
  have cellLt : ∀ y a, X.env.cells.lookup y = some a → a < s.heap.objs.size := fun y a e => by
    obtain ⟨v, q⟩ := I.cell y a e
    exact q.lt
  refine ⟨⟨I.ok.mod, c.kind, I.ok.glob, I.ok.blt, Nat.le_refl _, fun x y a h1 h2 => I.ok.inj x y a (cg x a h1) (cg y a h2), fun x hx => ?_, fun x a hf => (by cases hf), I.ok.hd, I.ok.frames, .inl rfl, fun b hb => ?_, I.bs, Nat.le_trans I.ok.bsz I.sz, fun b o e hb => ?_, fun b hb => ?_, I.stack, I.stkFree⟩,
    rfl, I.bare, Un.kept hk, ⟨m, hn, fun i x v e1 e2 e3 => ?_⟩, fun x a e => ?_, I.hok.fresh (Nat.le_refl _), fun x a e => I.freeC x a (cg x a e), fun p hp => ?_, I.hok.kept hk, ?_⟩
  · have hx' : (relabel scope X.env).names.lookup x = some .cell ∨ (relabel scope X.env).names.lookup x = some .free := hx
    have : (x, NameKind.free) ∈ scope.names := by
      rcases hx' with h | h
      · obtain ⟨k', m', _, q⟩ := relabel_kind (scope := scope) h
        rcases q with q | q
        · subst q; exact absurd rfl (c.cell _ m')
        · rw [← q.1]; exact m'
      · obtain ⟨k', m', _, q⟩ := relabel_kind (scope := scope) h
        rcases q with q | q
        · subst q; exact m'
        · cases q.2
    exact clOf_has scope.names [] (.inr this)
  · obtain ⟨f0, f1, f2, f3, f4, f5⟩ := hf b hb
    exact ⟨Nat.ne_of_lt (hfp b hb), fun x a e => f4 x a (cg x a e)⟩
  · obtain ⟨f0, f1, f2, f3, f4, f5⟩ := hf b hb
    rcases f3 with f3 | f3
    · exact I.ok.noex b o e f3
    · exact absurd (Nat.lt_of_lt_of_le (Heap.lt_size e) (Nat.le_trans I.ok.bsz f3)) (Nat.lt_irrefl _)
  · obtain ⟨f0, f1, f2, f3, f4, f5⟩ := hf b hb
    intro z
    rcases List.mem_cons.mp (I.stkSub b z) with z | z
    · exact f1 z
    · exact f2 z
  · obtain ⟨j, f1, f2⟩ := slots_get e2
    obtain ⟨g1, g2⟩ := c.slot i j x e1 f1
    have hkx : X.env.kindOf x = some .cell ∨ X.env.kindOf x = some .free := c.free (x, .free) (PySem.mem_of_lookup g2) rfl
    have vis : Vis X.env.scope x := .inr hkx
    obtain ⟨m0, _, hl⟩ := I.loc
    obtain ⟨u, r, lk⟩ := hl j x v g1 f2 vis
    refine ⟨u, r, .inr ⟨relabel_vis g2, ?_⟩⟩
    obtain ⟨a, ha⟩ := clOf_has (env := X.env) (y := x) scope.names [] (.inr (PySem.mem_of_lookup g2))
    refine ⟨a, ha, ?_⟩
    have ha' := cg x a ha
    rcases lk with ⟨q, _⟩ | ⟨_, a', e', z⟩
    · rcases hkx with w | w <;> (rw [q] at w; cases w)
    · rw [ha'] at e'; cases e'
      obtain ⟨o, ho, hd⟩ := z
      exact ⟨o, hk _ o ho, hd⟩
  · obtain ⟨v, o, ho, hd⟩ := I.cell x a (cg x a e)
    exact ⟨v, o, hk _ o ho, hd⟩
  · rw [List.append_nil] at hp
    obtain ⟨e, n, ne, nf, d⟩ := I.pin p hp
    refine ⟨hk _ _ e, n, Nat.ne_of_lt (Heap.lt_size e), fun z => ?_, d⟩
    rcases List.mem_cons.mp (I.stkSub p.1 z) with z | z
    · exact ne z
    · exact nf z
  · unfold slots
    rw [List.length_map]
    exact c.len
theorem Inv.unblock {s' : Shared} {σ' : St} {H' : Hp} {pins' : List (Addr × Obj)} {C : Addr} (I : Inv X pins σ H s) (hf : ∀ b ∈ fp, FpOk X pins H b) (J : Inv (blk X scope N C fp pins s H E) pins' σ' H' s') : Inv X pins σ H' s' :=
  I.call' (ch := fp) J.os J.base J.hok J.bare fun b hb => by
    obtain ⟨f0, f1, f2, f3, f4, f5⟩ := hf b hb
    exact ⟨f3, f1, f4, f5⟩
end
end L2
set_option Elab.async false
set_option linter.all false
set_option maxRecDepth 100000
set_option maxHeartbeats 4000000
namespace L2
open PySem PySem.Spec PyProof.Rows
theorem codeAny_compLoop_any {prog : Program} {w : World} {A : Around} {R : Result → Shared → Prop} {s : Shared} {elt target iter : Expr} {ifs : List Expr} {scope : Scope} {pos : Pos} {it acc : Value} {env : Env} (I : Nat → Shared → Prop)
    (turn : ∀ n s, I n s → wpAny (model prog w) A (pyNext it) (fun r s₁ => match r with
      | none => R (.ok .next) s₁
      | some v => wpAny (model prog w) A (letOwnedTupleGo target it v) (fun _ s₁' => wpAny (model prog w) A (assign target env v) (fun _ s₂ =>
          wpAny (model prog w) A (forIn ifs true fun c r => if r = true then do let ok ← isTrue c env (eval c env); pure (ForInStep.yield ok) else pure (ForInStep.yield r)) (fun ok s₃ =>
            if ok = true then wpAny (model prog w) A (eval elt env) (fun x s₄ =>
              wpAny (model prog w) A (call (.builtin "list.append") [acc, x]) (fun _ s₅ => ∃ m, m < n ∧ I m s₅) (notedBy (model prog w) A env fun e s' => R (.error e) s') s₄) (notedBy (model prog w) A env fun e s' => R (.error e) s') s₃
            else ∃ m, m < n ∧ I m s₃) (notedBy (model prog w) A env fun e s' => R (.error e) s') s₂) (notedBy (model prog w) A env fun e s' => R (.error e) s') s₁') (notedBy (model prog w) A env fun e s' => R (.error e) s') s₁) (notedBy (model prog w) A env fun e s' => R (.error e) s') s)
    (n : Nat) (h : I n s) :
    codeAny (model prog w) A (.compLoop (.ListComp elt [⟨target, iter, ifs, 0⟩] scope pos) 0 it acc env) R s := by
  refine codeAny_loop rfl I (fun n s hI => ?_) n h
  show wpAny _ A ((compTurn (.ListComp elt [⟨target, iter, ifs, 0⟩] scope pos) 0 it acc env).onRaise (fun x => do noteFrame x env; theTreesLotGoes x)) _ _ s
  refine wpAny_noted ?_
  rw [compTurn_list]
  refine wpAny_bind (wpAny_standAt (wpAny_bind (wpAny_mono (turn n s hI) (fun r s₁ h₁ => ?_) fun _ _ h' => h')))
  cases r with
  | none => exact wpAny_pure h₁
  | some v =>
    refine wpAny_bind (wpAny_mono h₁ (fun _ s₁' h₁' => ?_) fun _ _ h' => h')
    refine wpAny_bind (wpAny_mono h₁' (fun _ s₂ h₂ => wpAny_bind (wpAny_mono h₂ (fun ok s₃ h₃ => ?_) fun _ _ h' => h')) fun _ _ h' => h')
    cases ok with
    | false => exact wpAny_pure ⟨rfl, h₃⟩
    | true =>
      exact wpAny_bind (wpAny_bind (wpAny_mono h₃ (fun x s₄ h₄ => wpAny_bind (wpAny_mono h₄ (fun _ s₅ h₅ => wpAny_pure (wpAny_pure ⟨rfl, h₅⟩)) fun _ _ h' => h')) fun _ _ h' => h'))
def PIf (X : Cx) (ifs : List Expr) (t : TT) : Prop :=
  ∀ (pins : List (Addr × Obj)) (s : Shared) (σ : St) (H : Hp) (Q : Bool → Hp → Prop), Inv X pins σ H s → t σ H Q →
    wpAny (model X.prog X.w) X.A (forIn ifs true fun c r => if r = true then do let ok ← isTrue c X.env (eval c X.env); pure (ForInStep.yield ok) else pure (ForInStep.yield r)) (TP X pins σ Q) X.xe s
def tYes : TT := fun _ H Q => Q true H
theorem pif_nil {X : Cx} : PIf X [] tYes := fun _ _ _ H _ I h => wpAny_tests_nil ⟨H, I, h⟩
def tComp (fr : List (Option Nat)) (wi : TI) (g : TG) (tt : TT) (te : TE) : TE := fun σ H Q => wi σ H fun J H1 => ∀ p, H1 p = none →
  ∃ W : Nat → Nat → List V → St → Hp → Prop, (∃ m, W 0 m [] (slots fr σ) (upd H1 p (.lst []))) ∧ ∀ i m ys σ H, W i m ys σ H →
   (J.stop i H ∧ Q (.ref p) H) ∨ (J.go i H ∧ ∃ N : List V → St → Hp → Prop, (∀ ys' σ' H', N ys' σ' H' → ∃ m', m' < m ∧ W (i + 1) m' ys' σ' H') ∧
      ∀ x H', J.yld i H x H' → g x σ H' fun σ2 H2 => tt σ2 H2 fun b H3 => if b = true then te σ2 H3 fun v H4 => H4 p = some (.lst ys) ∧ ys.length < sizeLine ∧ N (ys ++ [v]) σ2 (upd H4 p (.lst (ys ++ [v]))) else N ys σ2 H3)
section
variable {X : Cx} {N : List Str} {fr : List (Option Nat)} {scope : Scope} {elt target iter : Expr} {ifs : List Expr} {wi : TI} {g : TG} {tt : TT} {te : TE} {pos : Pos}
theorem comp_core (c : CompOk X N fr scope) (hcalm : X.calm = true) (hi : PI X target iter wi)
    (hg : ∀ C ex pins s₀ H₀, PG (blk X scope N C ex pins s₀ H₀ fun _ _ => False) target g)
    (ht : ∀ C ex pins s₀ H₀, PIf (blk X scope N C ex pins s₀ H₀ fun _ _ => False) ifs tt)
    (he : ∀ C ex pins s₀ H₀, PE (blk X scope N C ex pins s₀ H₀ fun _ _ => False) elt te)
    {pins : List (Addr × Obj)} {s : Shared} {σ : St} {H : Hp} {Q : VK} {R : Value → Addr → Result → Shared → Prop} (I : Inv X pins σ H s) (h : tComp fr wi g tt te σ H Q)
    (fin : ∀ p C m s' H', Inv X pins σ H' s' → FpOk X pins H' C → s'.heap.Ns C m → Q (.ref p) H' → R (.ref p) C (.ok .next) s') :
    wpAny (model X.prog X.w) X.A (eval iter X.env) (fun x s₁ => wpAny (model X.prog X.w) X.A (pyIter x) (fun it s₂ => wpAny (model X.prog X.w) X.A (newList []) (fun acc s₃ =>
      wpAny (model X.prog X.w) X.A (newFunctionEnv scope X.env.globals (clOf X.env scope.names []) [] X.env.qual none .none (some X.env)) (fun cenv s₄ =>
        codeAny (model X.prog X.w) X.A (.compStart (.ListComp elt [⟨target, iter, ifs, 0⟩] scope pos) 0 it acc { cenv with scope := relabel scope X.env }) (R acc cenv.locals) s₄) X.xe s₃) X.xe s₂) X.xe s₁) X.xe s := by
  refine thn (hi pins s σ H _ I h) fun v s1 h1 => thn h1 fun itv s2 h2 => ?_
  obtain ⟨it, fp, tn, J, H2, e, I2, T, st2, f2, h2⟩ := h2
  subst e
  have fpLt : ∀ b ∈ fp, b < s2.heap.objs.size := fun b hb => by
    obtain ⟨o, e, _⟩ := T.obj _ _ st2 b hb
    exact Heap.lt_size e
  have hp0 : H2 s2.heap.objs.size = none := I2.fresh
  obtain ⟨W, ⟨m0, w0⟩, turn⟩ := h2 _ hp0
  refine wpAny_newObj_type ?_
  generalize hs3 : ({ s2 with heap := s2.heap.push { cls := .type "list", dict := none, data := .seq ([] : List Value).toArray } } : Shared) = s3
  have hs3' : s3 = { s2 with heap := s2.heap.push { cls := .type "list", data := .seq ([] : List Value).toArray }, toks := s2.toks } := hs3.symm
  have I3 : Inv X pins σ (upd H2 s2.heap.objs.size (.lst [])) s3 := by
    rw [hs3']
    exact I2.lnew .nil (Nat.zero_le _)
  have sz3 : s3.heap.objs.size = s2.heap.objs.size + 1 := by rw [hs3']; exact Heap.size_push ..
  have nep : ∀ b ∈ fp, b ≠ s2.heap.objs.size := fun b hb => Nat.ne_of_lt (fpLt b hb)
  have f3 : ∀ b ∈ fp, FpOk X pins (upd H2 s2.heap.objs.size (.lst [])) b := fun b hb => ⟨by rw [upd_ne (nep b hb)]; exact (f2 b hb).1, (f2 b hb).2⟩
  have st3 : tn 0 s3.heap := T.keep _ _ _ st2 fun b hb o e => by rw [hs3']; exact Heap.get?_push_of_some _ e
  refine wpAny_newFunctionEnv c.cell (by intro y hy; simp at hy) (fun h4 hn4 hsb4 => ?_) c.kind
  try dsimp only at hn4 hsb4 ⊢
  have k4 : ∀ b o, s3.heap.get? b = some o → h4.get? b = some o := fun b o e => hsb4.extBut b o (Nat.ne_of_lt (Heap.lt_size e)) (Heap.get?_push_of_some _ e)
  have fpLt3 : ∀ b ∈ fp, b < s3.heap.objs.size := fun b hb => by rw [sz3]; exact Nat.lt_succ_of_lt (fpLt b hb)
  have I4 : Inv (blk X scope N s3.heap.objs.size fp pins s3 (upd H2 s2.heap.objs.size (.lst [])) fun _ _ => False) [] (slots fr σ) (upd H2 s2.heap.objs.size (.lst [])) { s3 with heap := h4, toks := s3.toks + ([] : List (Str × Value)).length } := I3.block c f3 fpLt3 hn4 k4
  have st4 : tn 0 h4 := T.keep _ _ _ st3 fun b hb o e => k4 b o e
  have stat : ∀ {H' : Hp}, (∀ b ∈ fp, H' b = none) → ∀ b ∈ fp, FpOk (blk X scope N s3.heap.objs.size fp pins s3 (upd H2 s2.heap.objs.size (.lst [])) fun _ _ => False) [] H' b := fun {H'} hn b hb => by
    obtain ⟨g0, g1, g2, g3, g4, g5⟩ := f3 b hb
    refine ⟨hn b hb, Nat.ne_of_lt (fpLt3 b hb), fun z => ?_, .inl hb, fun x a e => g4 x a (I3.clGet c e), fun p hp => ?_⟩
    · rcases List.mem_cons.mp (I3.stkSub b z) with z | z
      · exact g1 z
      · exact g2 z
    · rw [List.append_nil] at hp
      exact g5 p hp
  have loop : ∀ s5 : Shared, s5 = { s3 with heap := h4, toks := s3.toks + ([] : List (Str × Value)).length } → codeAny (model X.prog X.w) X.A (.compLoop (.ListComp elt [⟨target, iter, ifs, 0⟩] scope pos) 0 (.ref it) (.ref s2.heap.objs.size) (compEnvC scope (clOf X.env scope.names []) s3.heap.objs.size X.env)) (R (.ref s2.heap.objs.size) s3.heap.objs.size) s5 := by
    rintro s5 rfl
    refine codeAny_compLoop_any (fun n s' => ∃ i ys σ' H', Inv (blk X scope N s3.heap.objs.size fp pins s3 (upd H2 s2.heap.objs.size (.lst [])) fun _ _ => False) [] σ' H' s' ∧ tn i s'.heap ∧ (∀ b ∈ fp, H' b = none) ∧ W i n ys σ' H') ?_ m0
      ⟨0, [], slots fr σ, _, I4, st4, fun b hb => (f3 b hb).1, w0⟩
    rintro n s6 ⟨i, ys, σ6, H6, I6, st6, fr6, w6⟩
    rcases turn i n ys σ6 H6 w6 with ⟨stop, q⟩ | ⟨go, Nx, hN, step⟩
    · refine thn (T.done (blk X scope N s3.heap.objs.size fp pins s3 (upd H2 s2.heap.objs.size (.lst [])) fun _ _ => False) rfl rfl rfl hcalm i [] s6 σ6 H6 _ I6 (stat fr6) st6 stop) fun r s7 zq => ?_
      obtain ⟨hr, I7⟩ := zq
      subst hr
      obtain ⟨m7, n7, _⟩ := I7.loc
      exact fin _ _ m7 s7 H6 (I3.unblock f3 I7) (I3.fpOk (Nat.le_refl _) I7.free) n7 q
    · refine thn (T.item (blk X scope N s3.heap.objs.size fp pins s3 (upd H2 s2.heap.objs.size (.lst [])) fun _ _ => False) rfl rfl rfl hcalm i [] s6 σ6 H6 _ I6 (stat fr6) st6 go) fun r s7 zq => ?_
      obtain ⟨u, hr, h7⟩ := zq
      subst hr
      refine thn h7 fun _ s8 zq => ?_
      obtain ⟨x, H8, I8, r8, y8, st8, fr8⟩ := zq
      have I8' := I8.pinned (stat fr8) (T.obj _ _ st8)
      refine wpAny_mono (hg _ _ _ _ _ _ s8 σ6 H8 x u _ I8' r8 (step x H8 y8)) (fun _ s9 ⟨σ9, H9, I9, q9⟩ => ?_) fun _ _ z => False.elim z
      refine wpAny_mono (ht _ _ _ _ _ _ s9 σ9 H9 _ I9 q9) (fun b s10 ⟨H10, I10, q10⟩ => ?_) fun _ _ z => False.elim z
      have again : ∀ {s11 : Shared} {σ11 : St} {H11 : Hp} {ys' : List V}, Inv (blk X scope N s3.heap.objs.size fp pins s3 (upd H2 s2.heap.objs.size (.lst [])) fun _ _ => False) ([] ++ pinsAt fp s8.heap) σ11 H11 s11 → Nx ys' σ11 H11 → ∃ m, m < n ∧ ∃ i ys σ' H', Inv (blk X scope N s3.heap.objs.size fp pins s3 (upd H2 s2.heap.objs.size (.lst [])) fun _ _ => False) [] σ' H' s11 ∧ tn i s11.heap ∧ (∀ b ∈ fp, H' b = none) ∧ W i m ys σ' H' := fun {s11 σ11 H11 ys'} I11 n11 => by
        obtain ⟨m', hm, w11⟩ := hN _ _ _ n11
        refine ⟨m', hm, i + 1, ys', σ11, H11, I11.unpinned, T.keep _ _ _ st8 fun b hb o e => (I11.pin (b, o) (List.mem_append_right _ (List.mem_append_right _ (mem_pinsAt hb e)))).1, fun b hb => ?_, w11⟩
        obtain ⟨o, e, d⟩ := T.obj _ _ st8 b hb
        exact (I11.pin (b, o) (List.mem_append_right _ (List.mem_append_right _ (mem_pinsAt hb e)))).2.1
      cases b with
      | false =>
        rw [if_neg Bool.false_ne_true] at q10 ⊢
        exact again I10 q10
      | true =>
        rw [if_pos rfl] at q10 ⊢
        refine wpAny_mono (he _ _ _ _ _ _ s10 σ9 H10 _ I10 q10) (fun u11 s11 ⟨x11, H11, I11, r11, hp11, hz11, q11⟩ => ?_) fun _ _ z => False.elim z
        refine wpAny_mono (mt_append (X := blk X scope N s3.heap.objs.size fp pins s3 (upd H2 s2.heap.objs.size (.lst [])) fun _ _ => False) _ s11 σ9 H11 (.ref s2.heap.objs.size) [x11] (.ref s2.heap.objs.size) [u11] (fun _ H' => Nx (ys ++ [x11]) σ9 H') I11 rfl (.cons r11 .nil) ⟨_, ys, x11, rfl, rfl, hp11, hz11, q11⟩) (fun _ s12 ⟨_, H12, I12, _, q12⟩ => ?_) fun _ _ z => False.elim z
        exact again I12 q12
  exact codeAny_compStart_list (loop _ rfl) (T.self X.A 0 _ _ _ st4 (loop _ rfl))
theorem Inv.letgo {pins : List (Addr × Obj)} {s : Shared} {σ : St} {H : Hp} {C : Addr} {h' : Heap} (I : Inv X pins σ H s) (f : FpOk X pins H C) (hs : Heap.SameBut C s.heap h') : Inv X pins σ H { s with heap := h' } := by
  obtain ⟨f0, f1, f2, f3, f4, f5⟩ := f
  exact I.turned (t' := s.toks) (fun b o hb e => (hs.2 b hb).trans e) f0 f1 f3 f4 f5
theorem pe_comp (c : CompOk X N fr scope) (hcalm : X.calm = true) (hi : PI X target iter wi)
    (hg : ∀ C ex pins s₀ H₀, PG (blk X scope N C ex pins s₀ H₀ fun _ _ => False) target g)
    (ht : ∀ C ex pins s₀ H₀, PIf (blk X scope N C ex pins s₀ H₀ fun _ _ => False) ifs tt)
    (he : ∀ C ex pins s₀ H₀, PE (blk X scope N C ex pins s₀ H₀ fun _ _ => False) elt te)
    (hs : ∀ x, foldedSetIterable iter X.env x = pure x := by intro _; rfl) : PE X (.ListComp elt [⟨target, iter, ifs, 0⟩] scope pos) (tComp fr wi g tt te) := by
  intro pins s σ H Q I h
  rw [eval_ListComp]
  refine wpAny_comprehension_free (use := none) rfl hs (closureFor_ok (I.clHas c)) c.kind c.loc (comp_core (R := compPost (model X.prog X.w) X.A X.xe none (EP X pins σ Q)) c hcalm hi hg ht he I h fun p C m s' H' I' f hn q => ?_)
  exact ⟨m, hn, fun h' hs' => ⟨.ref p, H', I'.letgo f hs', rfl, q⟩⟩
def tSetE (i : Nat) (te : TE) : TS := fun D σ H => te σ H fun v H1 => D.nx (σ.set i (some v)) H1
theorem ps_comp {i : Nat} {y : Str} {py spos : Pos} (c : CompOk X N fr scope) (hcalm : X.calm = true) (hi : PI X target iter wi)
    (hg : ∀ C ex pins s₀ H₀, PG (blk X scope N C ex pins s₀ H₀ fun _ _ => False) target g)
    (ht : ∀ C ex pins s₀ H₀, PIf (blk X scope N C ex pins s₀ H₀ fun _ _ => False) ifs tt)
    (he : ∀ C ex pins s₀ H₀, PE (blk X scope N C ex pins s₀ H₀ fun _ _ => False) elt te)
    (hN : X.N.Nodup) (hy : X.N[i]? = some y) (hx : Loc X.env.scope y)
    (hsw : swapsWith (.ListComp elt [⟨target, iter, ifs, 0⟩] scope pos) (some (.Name y py)) spos.line X.env = pure true := by rfl) (hf : X.fn y = true ∨ X.env.scope.names.lookup y = some .local := by first | exact .inl rfl | exact .inr rfl | assumption)
    (hs : ∀ x, foldedSetIterable iter X.env x = pure x := by intro _; rfl) : PS X (.Assign [.Name y py] (.ListComp elt [⟨target, iter, ifs, 0⟩] scope pos) spos) (tSetE i (tComp fr wi g tt te)) := by
  intro pins s σ H D I h
  rw [exec_Assign_Name_used _ _ _ _ hsw]
  refine wpAny_bind (wpAny_standAt (wpAny_bind ?_))
  show wpAny _ X.A (do let _ ← comprehension (.ListComp elt [⟨target, iter, ifs, 0⟩] scope pos) scope X.env _ (newList []) false (eval iter X.env) (some (assign (.Name y py) X.env))) _ _ s
  refine wpAny_bind (thn (wpAny_comprehension_free (use := some (assign (.Name y py) X.env)) (Q := fun _ s' => SP X pins D .next s') rfl hs (closureFor_ok (I.clHas c)) c.kind c.loc
    (comp_core (R := compPost (model X.prog X.w) X.A X.xe (some (assign (.Name y py) X.env)) (fun _ s' => SP X pins D .next s')) c hcalm hi hg ht he I h fun p C m s' H' I' f hn q => ?_)) (fun _ s' hq => wpAny_pure (wpAny_pure hq)))
  show wpAny _ X.A (assign (.Name y py) X.env (.ref p)) _ _ s'
  refine wpAny_assign_Name (store_ok2 (v := .ref p) I' hN hy hx rfl (fun s2 I2 hsb => ?_) hf)
  obtain ⟨a, sb, ha⟩ := hsb
  have hCa : C ≠ a := by
    rcases ha with ha | ha
    · rw [ha]; exact f.2.1
    · exact fun e => f.2.2.2.2.1 y a ha e.symm
  exact ⟨m, hn.sameBut sb hCa, fun h' hs' => ⟨_, H', I2.letgo f hs', q⟩⟩
end
end L2
set_option Elab.async false
set_option linter.all false
set_option maxRecDepth 100000
set_option maxHeartbeats 4000000
namespace L2
open PySem PySem.Spec PyProof.Rows
noncomputable def Its (x : Str) : It := ⟨fun i _ => i < x.cps.size, fun i H v H' => H' = H ∧ ∃ c, x.cps[i]? = some c ∧ v = .str ⟨#[c]⟩, fun i _ => x.cps.size ≤ i⟩
theorem strIter_str {x : Str} : strIterType x = "str_ascii_iterator" ∨ strIterType x = "str_iterator" := by
  unfold strIterType; split
  · exact .inl rfl
  · exact .inr rfl
theorem turn_str {P : Program} {w : World} {K : PySem.W.Frag} {tg : Expr} (it : Addr) (x : Str) (t : Tok) : Turn P w K tg (Its x) [it] it (fun i h => h.IsStrIter it (strIterType x) x t i ∧ i ≤ x.cps.size) where
  mem := by simp
  obj := fun i h st b hb => by
    have e : b = it := by simpa using hb
    subst e
    obtain ⟨⟨o, e, c, d⟩, _⟩ := st
    exact ⟨o, e, fun v z => by rw [d] at z; cases z⟩
  keep := fun i h h' st k => by
    obtain ⟨⟨o, e, c, d⟩, l⟩ := st
    exact ⟨⟨o, k it (by simp) o e, c, d⟩, l⟩
  item := by
    intro X hP hw hK hc i pins s σ H E I hf st hg
    subst hP hw hK
    obtain ⟨f0, f1, f2, f3, f4, f5⟩ := hf it (by simp)
    have hg : i < x.cps.size := hg
    rcases strIter_str (x := x) with e | e
    · rw [e] at st ⊢
      have W := Walks.strAscii (prog := X.prog) (w := X.w) (I.ok.hd hc) it x t
      refine W.item i s _ _ hg st.1 fun v h' tk hv st' kk => ?_
      obtain ⟨c, u, hcu, rfl⟩ := hv
      have I1 : Inv X pins σ H { s with heap := h', toks := tk } := I.turned (fun b o hb e => kk b o (by simpa using hb) e) f0 f1 f3 f4 f5
      obtain ⟨o, e1, c1, d1⟩ := id st'
      exact ⟨_, rfl, go_of (s := { s with heap := h', toks := tk }) e1 c1 d1 (by decide) ⟨.str ⟨#[c]⟩, H, I1, ⟨u, rfl⟩, ⟨rfl, c, hcu, rfl⟩, ⟨st', hg⟩, fun b hb => (hf b hb).1⟩⟩
    · rw [e] at st ⊢
      have W := Walks.strWide (prog := X.prog) (w := X.w) (I.ok.hd hc) it x t
      refine W.item i s _ _ hg st.1 fun v h' tk hv st' kk => ?_
      obtain ⟨c, u, hcu, rfl⟩ := hv
      have I1 : Inv X pins σ H { s with heap := h', toks := tk } := I.turned (fun b o hb e => kk b o (by simpa using hb) e) f0 f1 f3 f4 f5
      obtain ⟨o, e1, c1, d1⟩ := id st'
      exact ⟨_, rfl, go_of (s := { s with heap := h', toks := tk }) e1 c1 d1 (by decide) ⟨.str ⟨#[c]⟩, H, I1, ⟨u, rfl⟩, ⟨rfl, c, hcu, rfl⟩, ⟨st', hg⟩, fun b hb => (hf b hb).1⟩⟩
  done := by
    intro X hP hw hK hc i pins s σ H E I hf st hg
    subst hP hw hK
    obtain ⟨f0, f1, f2, f3, f4, f5⟩ := hf it (by simp)
    have hg : x.cps.size ≤ i := hg
    obtain ⟨st, l⟩ := st
    have hi : i = x.cps.size := by omega
    subst hi
    rcases strIter_str (x := x) with e | e
    · rw [e] at st
      exact (Walks.strAscii (prog := X.prog) (w := X.w) (I.ok.hd hc) it x t).done s _ _ st fun h' tk kk => ⟨rfl, I.turned (fun b o hb e => kk b o (by simpa using hb) e) f0 f1 f3 f4 f5⟩
    · rw [e] at st
      exact (Walks.strWide (prog := X.prog) (w := X.w) (I.ok.hd hc) it x t).done s _ _ st fun h' tk kk => ⟨rfl, I.turned (fun b o hb e => kk b o (by simpa using hb) e) f0 f1 f3 f4 f5⟩
  self := fun A i s Q E st h => by
    obtain ⟨st, l⟩ := st
    rcases strIter_str (x := x) with e | e
    · rw [e] at st; exact wpAny_pyIter_striter_ascii st h
    · rw [e] at st; exact wpAny_pyIter_striter_wide st h
section
variable {X : Cx} {tg : Expr}
theorem call_all (hc : X.calm = true) : CallR X (.builtin "all") (fun xs H Q => ∃ (a : Addr) (bs : List Bool), xs = [V.ref a] ∧ SqL X.K H a (bs.map V.bl) ∧ Q (.bl (bs.all id)) H) := by
  intro pins s σ H xs us Q I r h
  obtain ⟨a, bs, rfl, hq, q⟩ := h
  obtain ⟨u, rfl, ru⟩ := vals1 r
  cases ru
  obtain ⟨its, rv, p, hz⟩ := I.list hq
  have hhd : X.A.in1.handled = none := I.ok.hd hc
  refine call_all_walk (wpAny_pyIter_list p.isList ?_)
  have hlt : a < s.heap.objs.size := by obtain ⟨o, n, e, _⟩ := p; exact Heap.lt_size e
  have hlen : its.length = bs.length := by have := rv.length; rw [List.length_map] at this; exact this.symm
  have hit : ∀ (i : Nat) (v : Value), its[i]? = some v → v = .bool (bs.getD i false) := fun i v e => by
    have hi : i < its.length := (List.getElem?_eq_some_iff.mp e).1
    have hb : (bs.map V.bl)[i]? = some (V.bl (bs.getD i false)) := by
      rw [List.getElem?_map, List.getD_eq_getElem?_getD, List.getElem?_eq_getElem (by omega)]; rfl
    obtain ⟨u, hu, ru⟩ := rv.get hb
    rw [e] at hu
    cases hu
    exact ru
  refine ⟨s.heap.objs.size, _, _, _, _, _, fun i => bs.getD i false, rfl, Walks.list hhd s.heap.objs.size a (Nat.ne_of_lt hlt) its.toArray, ⟨⟨_, Heap.get?_push_size _ rfl, rfl, rfl⟩, p.isList.push _⟩, fun i v s' Q' E' hP hQ => ?_, fun h' tk hk => ?_⟩
  · have := hit i v (by simpa using hP)
    subst this
    exact wpAny_truthy_bool hQ
  · have e : (List.range its.toArray.size).all (fun i => bs.getD i false) = bs.all id := by
      rw [List.size_toArray, hlen]
      have key : ∀ l : List Bool, (List.range l.length).all (fun i => l.getD i false) = l.all id := by
        intro l
        rw [Bool.eq_iff_iff]
        simp only [List.all_eq_true, List.mem_range, id]
        constructor
        · intro h x hx
          obtain ⟨i, hi, rfl⟩ := List.mem_iff_getElem.mp hx
          have := h i hi
          rwa [List.getD_eq_getElem?_getD, List.getElem?_eq_getElem hi] at this
        · intro h i hi
          rw [List.getD_eq_getElem?_getD, List.getElem?_eq_getElem hi]
          exact h _ (List.getElem_mem hi)
      exact key bs
    rw [e]
    refine ⟨.bl _, H, I.kept (t' := tk) fun b o eb => ?_, rfl, q⟩
    exact hk b o (by simpa using Nat.ne_of_lt (Heap.lt_size eb)) (Heap.get?_push_of_some _ eb)
theorem op_le_str : OpR X (compareOp .LtE) (fun x y H Q => ∃ i j, x = .str i ∧ y = .str j ∧ Q (.bl (!decide (j.cps.toList < i.cps.toList))) H) := by
  intro pins s σ H x y v u Q I rx ry h
  obtain ⟨i, j, rfl, rfl, q⟩ := h
  obtain ⟨t, rfl⟩ := rx
  obtain ⟨t', rfl⟩ := ry
  exact P.le_str (fin_bl I q rfl)
theorem sl_str : SlR X (fun x lo hi H Q => ∃ z, x = .str z ∧ z.length ≤ sizeLine ∧ Q (.str (Txt.slice z lo hi)) H) := by
  intro pins s σ H x v vl vu lo hi sl Q I rx hs pl pu h
  obtain ⟨z, rfl, hz, q⟩ := h
  obtain ⟨t, rfl⟩ := rx
  have key : ∀ (l u : Option (Int × Tok)), partValue l = vl → partValue u = vu → l.map (·.1) = lo → u.map (·.1) = hi → wpAny (model X.prog X.w) X.A (getItem (.str z t) (.ref sl)) (EP X pins σ Q) X.xe s := by
    rintro l u rfl rfl rfl rfl
    refine wpAny_getItem_str_slice (l := l) (u := u) (st := none) hs rfl (post_val_or_str ⟨Nat.le_trans (Txt.slice_le z _ _) hz, fun t' k => ⟨.str _, H, I.tok k, ⟨_, rfl⟩, q⟩⟩)
  refine ⟨"str", _, F.slot_str_getitem.lookup, typeIs_str _ _ _, ?_⟩
  cases pl with
  | none =>
    cases pu with
    | none => exact key none none rfl rfl rfl rfl
    | int j u => exact key none (some (j, u)) rfl rfl rfl rfl
  | int i t2 =>
    cases pu with
    | none => exact key (some (i, t2)) none rfl rfl rfl rfl
    | int j u => exact key (some (i, t2)) (some (j, u)) rfl rfl rfl rfl
end
end L2
set_option Elab.async false
set_option linter.all false
set_option maxRecDepth 100000
set_option maxHeartbeats 4000000
namespace L2
open PySem PySem.Spec PyProof.Rows
def DefAt (K : PySem.W.Frag) (mg : Str → Option Value) (x : Str) (st : Stmt) : Prop := ∃ f fd, Fun K x x st f fd ∧ mg x = some (.ref f)
def Has (P : Program) (w : World) (K : PySem.W.Frag) (mg : Str → Option Value) (base : Heap) (k : Nat) (x : Str) (ps : List Str) (sp : Sp) : Prop :=
  ∃ f fd, mg x = some (.ref f) ∧ PySem.W.keepIn K (.ref f) = true ∧ Binds K fd ps [] ∧ FnOk P w K mg base CX0 k f fd ps sp
theorem defAt_mk {K : PySem.W.Frag} {h : Heap} {mg : Str → Option Value} (X : K.In h) (G : h.Ns mainGlobals mg) {x : Str} {st : Stmt} {f : Addr} {oc : Value} {od an : Option Addr} {osl : Array (Option Value)} {kV doc pm cdv ct : Value}
    (a : PySem.W.nsIn K mainGlobals x = some (some (.ref f))) (l : K.lookup f = some ⟨oc, od, .func (PySem.W.fnOf x x (defArgs st) (defBody st) (defScope st) .none kV doc pm an cdv ct), osl⟩)
    (c : PySem.W.codeIn K cdv x = true) (k : PySem.W.keepIn K (.ref f) = true) : DefAt K mg x st := ⟨f, _, fun_mk l c k, PySem.W.mg_of X G a⟩
section
variable {P : Program} {w : World} {K : PySem.W.Frag} {mg : Str → Option Value} {base : Heap}
theorem DefAt.has {x : Str} {st : Stmt} {N ps : List Str} {k : Nat} {sp : Sp} (F : DefAt K mg x st) (S : FnScope N ps (defScope st))
    (hb : ∀ (kV doc pm : Value) (an : Option Addr) (cdv ct : Value) (us : List Value), us.length = ps.length → bindArgs (PySem.W.fnOf x x (defArgs st) (defBody st) (defScope st) .none kV doc pm an cdv ct) ⟨us, []⟩ = pure (ps.zip us))
    (len : ∀ vs H Q E, sp vs H Q E → vs.length = ps.length)
    (hbody : ∀ (f : Addr) (cdv : Value) (A : Around) (outer : List Env) (s : Shared) (H : Hp) (vs : List V) (Q : VK) (E : XK), Room k (A.deeper (envOfC x (defScope st) s.heap.objs.size f cdv)) → sp vs H Q E →
      ∃ t, PSs (cxOf CX0 P w K mg base N x (defScope st) f cdv A outer s H E).nox (defBody st) t ∧ t { nx := fun _ H' => Q .non H', rt := Q } (start N vs) H) : Has P w K mg base (k + 1) x ps sp := by
  obtain ⟨f, fd, F, m⟩ := F
  exact ⟨f, fd, m, F.kp, F.binds hb, F.ok S len (hbody f)⟩
theorem Has.mono {j k : Nat} {x : Str} {ps : List Str} {sp : Sp} (h : Has P w K mg base j x ps sp) (hjk : j ≤ k) : Has P w K mg base k x ps sp := by
  obtain ⟨f, fd, m, kp, b, F⟩ := h
  exact ⟨f, fd, m, kp, b, F.mono hjk⟩
end
section
variable {X : Cx} {k : Nat} {x : Str} {ps : List Str} {sp : Sp} {p pos : Pos} {e : Expr} {es : List Expr} {t : TA}
theorem pe_fn (h : Has X.prog X.w X.K X.mg X.base k x ps sp) (hr : Room k X.A) (ha : PA X (e :: es) t) (hg : Gl X x := by rfl) (hdb : (x == ("__debug__" : Str)) = false := by decide)
    (he : starEach (e :: es) X.env = (false, eval e X.env) :: starEach es X.env := by rfl) (hpl : (backTo pos (starEach es X.env)).any (·.1) = false := by rfl) :
    PE X (.Call (.Name x p) (e :: es) [] pos) (tCall sp [] E0 t) := by
  obtain ⟨f, fd, m, kp, b, F⟩ := h
  exact pe_call F hr hg m kp b .nil pass0 ha hdb he hpl
end
end L2
set_option Elab.async false
set_option linter.all false
set_option maxRecDepth 100000
set_option maxHeartbeats 4000000
namespace L2
open PySem PySem.Spec PyProof.Rows
theorem same_upd {H : Hp} {p : Addr} {o : HO} (h : H p = none) : Same H (upd H p o) := fun b u e => by rw [upd_ne (ne_of_none e h)]; exact e
end L2
set_option Elab.async false
set_option linter.all false
set_option maxRecDepth 100000
set_option maxHeartbeats 4000000
namespace L2
open PySem PySem.Spec PyProof.Rows
section
variable {P : Program} {w : World} {K : PySem.W.Frag} {mg : Str → Option Value} {base : Heap}
theorem DefAt.hasB {x : Str} {st : Stmt} {N ps : List Str} {k : Nat} {sp : Sp} {body : List Stmt} {scope : Scope} (F : DefAt K mg x st) (eb : defBody st = body) (es : defScope st = scope) (S : FnScope N ps scope)
    (hb : ∀ (kV doc pm : Value) (an : Option Addr) (cdv ct : Value) (us : List Value), us.length = ps.length → bindArgs (PySem.W.fnOf x x (defArgs st) (defBody st) (defScope st) .none kV doc pm an cdv ct) ⟨us, []⟩ = pure (ps.zip us))
    (len : ∀ vs H Q E, sp vs H Q E → vs.length = ps.length)
    (hbody : ∀ (f : Addr) (cdv : Value) (A : Around) (outer : List Env) (s : Shared) (H : Hp) (vs : List V) (Q : VK) (E : XK), Room k (A.deeper (envOfC x scope s.heap.objs.size f cdv)) → sp vs H Q E →
      ∃ t, PSs (cxOf CX0 P w K mg base N x scope f cdv A outer s H E).nox body t ∧ t { nx := fun _ H' => Q .non H', rt := Q } (start N vs) H) : Has P w K mg base (k + 1) x ps sp := by
  subst eb es
  exact F.has S hb len hbody
end
end L2
set_option Elab.async false
set_option linter.all false
set_option maxRecDepth 100000
set_option maxHeartbeats 4000000
namespace L2
open PySem PySem.Spec PyProof.Rows
structure QE (X : Cx) (e : Expr) (t : TE) : Prop where p : PE X e t
structure QT (X : Cx) (e : Expr) (t : TT) : Prop where p : PT X e t
structure QW (X : Cx) (e : Expr) (t : TT) : Prop where p : PW X e t
structure QA (X : Cx) (es : List Expr) (t : TA) : Prop where p : PA X es t
structure QS (X : Cx) (st : Stmt) (t : TS) : Prop where p : PS X st t
structure QB (X : Cx) (st : List Stmt) (t : TS) : Prop where p : PSs X st t
structure QG (X : Cx) (tg : Expr) (g : TG) : Prop where p : PG X tg g
structure QGs (X : Cx) (tg : List Expr) (g : TGs) : Prop where p : PGs X tg g
structure QI (X : Cx) (tg iter : Expr) (wi : TI) : Prop where p : PI X tg iter wi
structure QF (X : Cx) (ifs : List Expr) (t : TT) : Prop where p : PIf X ifs t
structure QO (X : Cx) (e : Option Expr) (t : TO) : Prop where p : PO X e t
structure ROp (X : Cx) (op : Operator) (r : R2) : Prop where p : OpR X (binaryOp op) r
structure RCmp (X : Cx) (op : CmpOp) (r : R2) : Prop where p : OpR X (compareOp op) r
structure RUn (X : Cx) (op : UnaryOp) (r : V → Hp → VK → Prop) : Prop where p : UnR X (unaryOp op) r
structure RB (X : Cx) (id : String) (r : List V → Hp → VK → Prop) : Prop where p : CallR X (.builtin id) r
structure RTy (X : Cx) (T : String) (r : List V → Hp → VK → Prop) : Prop where p : CallR X (.type T) r
structure RIx (X : Cx) (r : R2) : Prop where p : IxR X r
structure RSl (X : Cx) (r : V → Option Int → Option Int → Hp → VK → Prop) : Prop where p : SlR X r
structure RMt (X : Cx) (id : String) (r : V → List V → Hp → VK → Prop) : Prop where p : MtR X id r
section
variable {X : Cx} {a b c e : Expr} {es rest : List Expr} {ta tb tc te : TE} {t u : TS} {tA tB' : TT} {tt : TA} {pos p p2 p3 : Pos} {x : Str}
end
section
variable {P : Program} {w : World} {K : PySem.W.Frag} {mg : Str → Option Value} {base : Heap}
theorem DefAt.hasQ {x : Str} {st : Stmt} {N ps : List Str} {k : Nat} {sp : Sp} {body : List Stmt} {scope : Scope} (F : DefAt K mg x st) (eb : defBody st = body) (es : defScope st = scope) (S : FnScope N ps scope)
    (hb : ∀ (kV doc pm : Value) (an : Option Addr) (cdv ct : Value) (us : List Value), us.length = ps.length → bindArgs (PySem.W.fnOf x x (defArgs st) (defBody st) (defScope st) .none kV doc pm an cdv ct) ⟨us, []⟩ = pure (ps.zip us))
    (len : ∀ vs H Q E, sp vs H Q E → vs.length = ps.length)
    (hbody : ∀ (f : Addr) (cdv : Value) (A : Around) (outer : List Env) (s : Shared) (H : Hp) (vs : List V) (Q : VK) (E : XK), Room k (A.deeper (envOfC x scope s.heap.objs.size f cdv)) → sp vs H Q E →
      ∃ t, QB (cxOf CX0 P w K mg base N x scope f cdv A outer s H E).nox body t ∧ t { nx := fun _ H' => Q .non H', rt := Q } (start N vs) H) : Has P w K mg base (k + 1) x ps sp :=
  F.hasB eb es S hb len fun f cdv A outer s H vs Q E hr h => let ⟨t, q, z⟩ := hbody f cdv A outer s H vs Q E hr h; ⟨t, q.p, z⟩
theorem Fun.binds1 {x y : Str} {st : Stmt} {f : Addr} {fd : FuncData} (F : Fun K x x st f fd)
    (h : ∀ (kV doc pm : Value) (an : Option Addr) (cdv ct : Value) (u : Value), bindArgs (PySem.W.fnOf x x (defArgs st) (defBody st) (defScope st) .none kV doc pm an cdv ct) ⟨[u], []⟩ = pure [(y, u)]) : ∀ (s : Shared) (v : Value), BindsTo s fd ⟨[v], []⟩ [(y, v)] := by
  obtain ⟨oc, od, kV, doc, pm, an, cdv, ct, osl, rfl, lk, hcd⟩ := F.ex
  exact fun s v => .of_eq (h kV doc pm an cdv ct v)
end
end L2
set_option Elab.async false
set_option linter.all false
set_option maxRecDepth 100000
set_option maxHeartbeats 4000000
namespace L2
open PySem PySem.Spec PyProof.Rows PySem.W
noncomputable def codeO (c : Addr) (q : Str) : HO := .ext fun h => h.CodeRec (.ref c) q
structure GoodT (q : Str) (H : Hp) (ps : Array Value) : Prop where
  ok : TriplesOk ps.toList
  cs : ∀ pos v, codeAmong pos ps.toList = some v → ∃ c, v = .ref c ∧ H c = some (codeO c q)
def TabTo (P : Addr) (q : Str) (H H' : Hp) : Prop := (∃ ps, H' P = some (.tbl ps) ∧ GoodT q H' ps) ∧ (H' = H ∨ ∃ c ps, H c = none ∧ c ≠ P ∧ H' = upd (upd H c (codeO c q)) P (.tbl ps))
end L2
namespace L3
open PySem PySem.Spec PyProof.Rows L2
@[reducible] def vis : Option HO → Option HO
  | some (.tbl _) => none
  | some (.ext _) => none
  | o => o
theorem vis_some {x : Option HO} {o : HO} (h : vis x = some o) : x = some o ∧ vis (some o) = some o := by
  cases x with
  | none => cases h
  | some y => cases y <;> first | (cases h; done) | (cases h; exact ⟨rfl, rfl⟩)
theorem vis_none {x : Option HO} (h : vis x ≠ none) : x ≠ none := fun z => h (by rw [z])
noncomputable def lams : List Str := ["by_name"]
noncomputable def lamQ (x : Str) : Str := x ++ ".<locals>." ++ "<lambda>"
def Tb (K : PySem.W.Frag) (H : Hp) : Prop := ∀ x ∈ lams, ∀ c P, PySem.W.tabIn K x = some (c, P) → ∃ ps, H P = some (.tbl ps) ∧ GoodT (lamQ x) H ps
theorem Tb.imp {K : PySem.W.Frag} {H H' : Hp} (t : Tb K H) (h : ∀ b o, H b = some o → vis (some o) = none → H' b = some o) : Tb K H' := fun x hx c P e => by
  obtain ⟨ps, h1, h2, h3⟩ := t x hx c P e
  refine ⟨ps, h _ _ h1 rfl, h2, fun pos v hv => ?_⟩
  obtain ⟨c', e1, e2⟩ := h3 pos v hv
  exact ⟨c', e1, h _ _ e2 rfl⟩
theorem Tb.same {K : PySem.W.Frag} {H H' : Hp} (t : Tb K H) (h : Same H H') : Tb K H' := t.imp fun b o e _ => h b o e
theorem Tb.upd {K : PySem.W.Frag} {H : Hp} {p : Addr} {x : HO} (t : Tb K H) (h : vis (H p) ≠ none ∨ H p = none) : Tb K (upd H p x) := t.imp fun b o e v => by
  rw [upd_ne fun z => ?_]
  · exact e
  · subst z
    rcases h with h | h
    · rw [e] at h; exact h v
    · rw [h] at e; cases e
end L3
set_option Elab.async false
set_option linter.all false
set_option maxRecDepth 100000
set_option maxHeartbeats 4000000
namespace L3
open PySem PySem.Spec PyProof.Rows L2
inductive D where
  | non | bl (b : Bool) | int (i : Int) | str (x : Str) | ty (n : String)
  | tup (ds : List D) | lst (ds : List D) | dct (ks : List Key) (ds : List D)
  | ins (C : Addr) (ns : List Str) (ds : List D) | scr (ns : List Int) | loc (k : Nat) | cls (C : Addr) | exc (C : Addr) (ns : List Str) (ds : List D)
inductive OD where
  | lst (ds : List D) | dct (ks : List Key) (ds : List D) | ins (C : Addr) (ns : List Str) (ds : List D) | fz (k ep : Nat) (ks : List Key) (ds : List D)
abbrev Ms := List (Option OD)
mutual
def Rep (K : PySem.W.Frag) (α : List Addr) (H : Hp) : D → V → Prop
  | .non, v => v = .non
  | .bl b, v => v = .bl b
  | .int i, v => v = .int i
  | .str x, v => v = .str x
  | .ty n, v => v = .ty n
  | .tup ds, v => ∃ a vs, v = .ref a ∧ SqT K H a vs ∧ Reps K α H ds vs
  | .lst ds, v => ∃ a vs, v = .ref a ∧ H a = some (.lst vs) ∧ Reps K α H ds vs
  | .scr ns, v => ∃ a, v = .ref a ∧ SqL K H a (ns.map V.int)
  | .dct ks ds, v => ∃ a vs, v = .ref a ∧ Rd H a (.dK (ks.zip vs)) ∧ ks.length = ds.length ∧ Reps K α H ds vs
  | .ins C ns ds, v => ∃ a dx vs, v = .ref a ∧ H a = some (.ins C dx (ns.zip vs)) ∧ ns.length = ds.length ∧ Reps K α H ds vs
  | .loc k, v => ∃ a, α[k]? = some a ∧ v = .ref a
  | .cls C, v => v = .ref C
  | .exc C ns ds, v => ∃ a vs, v = .ref a ∧ H a = some (.xc C (ns.zip vs)) ∧ ns.length = ds.length ∧ Reps K α H ds vs
def Reps (K : PySem.W.Frag) (α : List Addr) (H : Hp) : List D → List V → Prop
  | [], vs => vs = []
  | d :: ds, vs => ∃ v r, vs = v :: r ∧ Rep K α H d v ∧ Reps K α H ds r
end
theorem same_seqT {K : PySem.W.Frag} {H H' : Hp} {a : Addr} {xs : List V} (e : Same H H') (h : SqT K H a xs) : SqT K H' a xs := by
  rcases h with (h | ⟨o, h⟩) | h
  · exact .inl (.inl (e _ _ h))
  · exact .inl (.inr ⟨o, e _ _ h⟩)
  · exact .inr h
theorem same_seqL {K : PySem.W.Frag} {H H' : Hp} {a : Addr} {xs : List V} (e : Same H H') (h : SqL K H a xs) : SqL K H' a xs := by
  rcases h with (h | ⟨o, h⟩) | h
  · exact .inl (.inl (e _ _ h))
  · exact .inl (.inr ⟨o, e _ _ h⟩)
  · exact .inr h
theorem same_rd {H H' : Hp} {a : Addr} {u : HO} (e : Same H H') (h : Rd H a u) : Rd H' a u := by
  rcases h with h | ⟨o, h⟩
  · exact .inl (e _ _ h)
  · exact .inr ⟨o, e _ _ h⟩
theorem pre_get {α β : List Addr} (p : α <+: β) {k : Nat} {a : Addr} (h : α[k]? = some a) : β[k]? = some a := by
  obtain ⟨t, rfl⟩ := p
  have := (List.getElem?_eq_some_iff.mp h).1
  rw [List.getElem?_append_left this]; exact h
mutual
theorem Rep.mono {K : PySem.W.Frag} {α β : List Addr} {H H' : Hp} (p : α <+: β) (e : Same H H') : ∀ (d : D) (v : V), Rep K α H d v → Rep K β H' d v
  | .non, v, h => by unfold Rep at h ⊢; exact h
  | .bl _, v, h => by unfold Rep at h ⊢; exact h
  | .int _, v, h => by unfold Rep at h ⊢; exact h
  | .str _, v, h => by unfold Rep at h ⊢; exact h
  | .ty _, v, h => by unfold Rep at h ⊢; exact h
  | .tup ds, v, h => by
    unfold Rep at h ⊢
    obtain ⟨a, vs, r, q, z⟩ := h
    exact ⟨a, vs, r, same_seqT e q, Reps.mono p e ds vs z⟩
  | .lst ds, v, h => by
    unfold Rep at h ⊢
    obtain ⟨a, vs, r, q, z⟩ := h
    exact ⟨a, vs, r, e _ _ q, Reps.mono p e ds vs z⟩
  | .scr ns, v, h => by
    unfold Rep at h ⊢
    obtain ⟨a, r, q⟩ := h
    exact ⟨a, r, same_seqL e q⟩
  | .dct ks ds, v, h => by
    unfold Rep at h ⊢
    obtain ⟨a, vs, r, q, l, z⟩ := h
    exact ⟨a, vs, r, same_rd e q, l, Reps.mono p e ds vs z⟩
  | .ins C ns ds, v, h => by
    unfold Rep at h ⊢
    obtain ⟨a, dx, vs, r, q, l, z⟩ := h
    exact ⟨a, dx, vs, r, e _ _ q, l, Reps.mono p e ds vs z⟩
  | .exc C ns ds, v, h => by
    unfold Rep at h ⊢
    obtain ⟨a, vs, r, q, l, z⟩ := h
    exact ⟨a, vs, r, e _ _ q, l, Reps.mono p e ds vs z⟩
  | .loc k, v, h => by
    unfold Rep at h ⊢
    obtain ⟨a, r, q⟩ := h
    exact ⟨a, pre_get p r, q⟩
  | .cls _, v, h => by unfold Rep at h ⊢; exact h
theorem Reps.mono {K : PySem.W.Frag} {α β : List Addr} {H H' : Hp} (p : α <+: β) (e : Same H H') : ∀ (ds : List D) (vs : List V), Reps K α H ds vs → Reps K β H' ds vs
  | [], vs, h => by unfold Reps at h ⊢; exact h
  | d :: ds, vs, h => by
    unfold Reps at h ⊢
    obtain ⟨v, r, q, z, y⟩ := h
    exact ⟨v, r, q, Rep.mono p e d v z, Reps.mono p e ds r y⟩
end
section
variable {K : PySem.W.Frag} {α : List Addr} {H : Hp}
theorem Reps.length : ∀ (ds : List D) (vs : List V), Reps K α H ds vs → ds.length = vs.length
  | [], vs, h => by unfold Reps at h; rw [h]; rfl
  | d :: ds, vs, h => by
    unfold Reps at h
    obtain ⟨v, r, rfl, _, y⟩ := h
    rw [List.length_cons, List.length_cons, Reps.length ds r y]
theorem Reps.get : ∀ (ds : List D) (vs : List V) (i : Nat) (d : D), Reps K α H ds vs → ds[i]? = some d → ∃ v, vs[i]? = some v ∧ Rep K α H d v
  | [], vs, i, d, h, e => by simp at e
  | x :: ds, vs, 0, d, h, e => by
    unfold Reps at h
    obtain ⟨v, r, rfl, z, _⟩ := h
    simp at e; subst e
    exact ⟨v, rfl, z⟩
  | x :: ds, vs, i + 1, d, h, e => by
    unfold Reps at h
    obtain ⟨v, r, rfl, _, y⟩ := h
    obtain ⟨u, h1, h2⟩ := Reps.get ds r i d y (by simpa using e)
    exact ⟨u, by simpa using h1, h2⟩
theorem Reps.get' : ∀ (ds : List D) (vs : List V) (i : Nat) (v : V), Reps K α H ds vs → vs[i]? = some v → ∃ d, ds[i]? = some d ∧ Rep K α H d v
  | [], vs, i, d, h, e => by unfold Reps at h; subst h; simp at e
  | x :: ds, vs, 0, d, h, e => by
    unfold Reps at h
    obtain ⟨v, r, rfl, z, _⟩ := h
    simp at e; subst e
    exact ⟨x, rfl, z⟩
  | x :: ds, vs, i + 1, d, h, e => by
    unfold Reps at h
    obtain ⟨v, r, rfl, _, y⟩ := h
    obtain ⟨u, h1, h2⟩ := Reps.get' ds r i d y (by simpa using e)
    exact ⟨u, by simpa using h1, h2⟩
theorem Reps.append : ∀ (ds es : List D) (vs us : List V), Reps K α H ds vs → Reps K α H es us → Reps K α H (ds ++ es) (vs ++ us)
  | [], es, vs, us, h, g => by unfold Reps at h; subst h; exact g
  | d :: ds, es, vs, us, h, g => by
    unfold Reps at h
    obtain ⟨v, r, rfl, z, y⟩ := h
    show Reps K α H (d :: (ds ++ es)) (v :: (r ++ us))
    unfold Reps
    exact ⟨v, _, rfl, z, Reps.append ds es r us y g⟩
theorem Reps.nil : Reps K α H [] [] := by unfold Reps; rfl
theorem Reps.cons {d : D} {v : V} {ds : List D} {vs : List V} (q : Rep K α H d v) (h : Reps K α H ds vs) : Reps K α H (d :: ds) (v :: vs) := by
  unfold Reps
  exact ⟨v, vs, rfl, q, h⟩
theorem Reps.one {d : D} {v : V} (q : Rep K α H d v) : Reps K α H [d] [v] := Reps.cons q Reps.nil
theorem Reps.take : ∀ (n : Nat) (ds : List D) (vs : List V), Reps K α H ds vs → Reps K α H (ds.take n) (vs.take n)
  | 0, ds, vs, h => by simpa using Reps.nil
  | n + 1, [], vs, h => by unfold Reps at h; subst h; simpa using Reps.nil
  | n + 1, d :: ds, vs, h => by
    unfold Reps at h
    obtain ⟨v, r, rfl, z, y⟩ := h
    rw [List.take_succ_cons, List.take_succ_cons]
    exact Reps.cons z (Reps.take n ds r y)
theorem Reps.drop : ∀ (n : Nat) (ds : List D) (vs : List V), Reps K α H ds vs → Reps K α H (ds.drop n) (vs.drop n)
  | 0, ds, vs, h => h
  | n + 1, [], vs, h => by unfold Reps at h; subst h; simpa using Reps.nil
  | n + 1, d :: ds, vs, h => by
    unfold Reps at h
    obtain ⟨v, r, rfl, z, y⟩ := h
    rw [List.drop_succ_cons, List.drop_succ_cons]
    exact Reps.drop n ds r y
theorem Reps.set {d : D} {v : V} (q : Rep K α H d v) : ∀ (i : Nat) (ds : List D) (vs : List V), Reps K α H ds vs → Reps K α H (ds.set i d) (vs.set i v)
  | i, [], vs, h => by unfold Reps at h; subst h; simpa using Reps.nil
  | 0, x :: ds, vs, h => by
    unfold Reps at h
    obtain ⟨u, r, rfl, z, y⟩ := h
    exact Reps.cons q y
  | i + 1, x :: ds, vs, h => by
    unfold Reps at h
    obtain ⟨u, r, rfl, z, y⟩ := h
    exact Reps.cons z (Reps.set q i ds r y)
theorem Reps.of_map {β : Type} (f : β → D) (g : β → V) (h : ∀ a, Rep K α H (f a) (g a)) : ∀ l : List β, Reps K α H (l.map f) (l.map g)
  | [] => Reps.nil
  | a :: l => Reps.cons (h a) (Reps.of_map f g h l)
theorem Reps.rep {ds : List D} {vs : List V} (h : Reps K α H ds vs) : ∀ k : Nat, Reps K α H (List.replicate k ds).flatten (List.replicate k vs).flatten
  | 0 => Reps.nil
  | k + 1 => by
    rw [List.replicate_succ, List.replicate_succ, List.flatten_cons, List.flatten_cons]
    exact Reps.append _ _ _ _ h (Reps.rep h k)
theorem Reps.at {ds : List D} {vs : List V} {i : Int} {d : D} (h : Reps K α H ds vs) (e : atI ds i = some d) : ∃ v, atI vs i = some v ∧ Rep K α H d v := by
  unfold atI at e ⊢
  rw [← Reps.length _ _ h]
  cases q : ixN ds.length i with
  | none => rw [q] at e; cases e
  | some j =>
    rw [q] at e
    exact Reps.get ds vs j d h e
theorem rep_int {i : Int} : Rep K α H (.int i) (.int i) := by unfold Rep; rfl
theorem rep_bl {i : Bool} : Rep K α H (.bl i) (.bl i) := by unfold Rep; rfl
theorem rep_str {i : Str} : Rep K α H (.str i) (.str i) := by unfold Rep; rfl
theorem rep_cls {C : Addr} : Rep K α H (.cls C) (.ref C) := by unfold Rep; rfl
theorem rep_non : Rep K α H .non .non := by unfold Rep; rfl
theorem rep_ty {n : String} : Rep K α H (.ty n) (.ty n) := by unfold Rep; rfl
end
noncomputable def hide (A : List Addr) (H : Hp) : Hp := fun b => if b ∈ A then none else vis (H b)
theorem hide_out {A : List Addr} {H : Hp} {p : Addr} (h : p ∉ A) : hide A H p = vis (H p) := by unfold hide; rw [if_neg h]
theorem hide_in {A : List Addr} {H : Hp} {p : Addr} (h : p ∈ A) : hide A H p = none := by unfold hide; rw [if_pos h]
theorem hide_all {A : List Addr} {H : Hp} {p : Addr} {o : HO} (h : hide A H p = some o) : p ∉ A ∧ H p = some o ∧ vis (some o) = some o := by
  by_cases z : p ∈ A
  · rw [hide_in z] at h; cases h
  · rw [hide_out z] at h; exact ⟨z, vis_some h⟩
theorem hide_some {A : List Addr} {H : Hp} {p : Addr} {o : HO} (h : hide A H p = some o) : p ∉ A ∧ H p = some o := ⟨(hide_all h).1, (hide_all h).2.1⟩
theorem hide_same {A : List Addr} {H : Hp} : Same (hide A H) H := fun b o e => (hide_some e).2
theorem hide_mk {A : List Addr} {H : Hp} {p : Addr} {o : HO} (h : p ∉ A) (e : H p = some o) (v : vis (some o) = some o) : hide A H p = some o := by rw [hide_out h, e]; exact v
theorem hide_go {A B : List Addr} {H H' : Hp} {b : Addr} {o : HO} (h : hide A H b = some o) (hb : b ∉ B) (e : H' b = some o) : hide B H' b = some o := hide_mk hb e (hide_all h).2.2
theorem same_hide {A : List Addr} {H H' : Hp} (h : Same H H') : Same (hide A H) (hide A H') := fun b o e => hide_go e (hide_some e).1 (h b o (hide_some e).2)
noncomputable def lv : List Addr → Ms → List Addr
  | a :: α, some _ :: M => a :: lv α M
  | _ :: α, none :: M => lv α M
  | _, _ => []
theorem mem_lv : ∀ {α : List Addr} {M : Ms} {a : Addr}, a ∈ lv α M ↔ ∃ (k : Nat) (o : OD), α[k]? = some a ∧ M[k]? = some (some o)
  | [], M, a => by cases M <;> simp [lv]
  | b :: α, [], a => by simp [lv]
  | b :: α, some x :: M, a => by
    simp only [lv, List.mem_cons, mem_lv]
    constructor
    · rintro (rfl | ⟨k, o, h1, h2⟩)
      · exact ⟨0, x, rfl, rfl⟩
      · exact ⟨k + 1, o, by simpa using h1, by simpa using h2⟩
    · rintro ⟨k, o, h1, h2⟩
      cases k with
      | zero => left; simpa using h1.symm
      | succ k => right; exact ⟨k, o, by simpa using h1, by simpa using h2⟩
  | b :: α, none :: M, a => by
    simp only [lv, mem_lv]
    constructor
    · rintro ⟨k, o, h1, h2⟩
      exact ⟨k + 1, o, by simpa using h1, by simpa using h2⟩
    · rintro ⟨k, o, h1, h2⟩
      cases k with
      | zero => simp at h2
      | succ k => exact ⟨k, o, by simpa using h1, by simpa using h2⟩
abbrev hid (F α : List Addr) (M : Ms) (H : Hp) : Hp := hide (lv α M ++ F) H
def RepM (K : PySem.W.Frag) (α : List Addr) (Hh H : Hp) : OD → Addr → Prop
  | .lst ds, a => ∃ vs, H a = some (.lst vs) ∧ Reps K α Hh ds vs
  | .dct ks ds, a => ∃ vs, H a = some (.dK (ks.zip vs)) ∧ ks.length = ds.length ∧ Reps K α Hh ds vs
  | .ins C ns ds, a => ∃ dx vs, H a = some (.ins C dx (ns.zip vs)) ∧ ns.length = ds.length ∧ Reps K α Hh ds vs
  | .fz k ep ks ds, a => α[k]? = some a ∧ ∃ vs, H a = some (.dE ep (ks.zip vs)) ∧ ks.length = ds.length ∧ Reps K α Hh ds vs
structure OK (K : PySem.W.Frag) (F α : List Addr) (H : Hp) (M : Ms) : Prop where
  ml : α.length = M.length
  nd : α.Nodup
  fr : ∀ a ∈ F, a ∉ α ∧ vis (H a) ≠ none
  al : ∀ a ∈ α, vis (H a) ≠ none
  own : ∀ (k : Nat) o, M[k]? = some (some o) → ∃ a, α[k]? = some a ∧ RepM K α (hid F α M H) H o a
  tb : Tb K H
structure Ext (F α : List Addr) (H : Hp) (M : Ms) (α' : List Addr) (H' : Hp) (M' : Ms) : Prop where
  pre : α <+: α'
  same : Same (hid F α M H) (hid F α' M' H')
  fr : ∀ a ∈ F, H' a = H a
abbrev DSt := List (Option D)
structure R (K : PySem.W.Frag) (F α : List Addr) (H : Hp) (σ : L2.St) (δ : DSt) (M : Ms) : Prop where
  ok : OK K F α H M
  len : σ.length = δ.length
  sl : ∀ (i : Nat) d, δ[i]? = some (some d) → ∃ v, σ[i]? = some (some v) ∧ Rep K α (hid F α M H) d v
section
variable {K : PySem.W.Frag} {F α α' α'' : List Addr} {H H' H'' : Hp} {M M' M'' : Ms} {σ : L2.St} {δ : DSt}
theorem Ext.refl : Ext F α H M α H M := ⟨List.prefix_refl _, Same.refl _, fun _ _ => rfl⟩
theorem Ext.trans (e : Ext F α H M α' H' M') (e' : Ext F α' H' M' α'' H'' M'') : Ext F α H M α'' H'' M'' :=
  ⟨e.pre.trans e'.pre, e.same.trans e'.same, fun a h => (e'.fr a h).trans (e.fr a h)⟩
theorem Ext.rep (e : Ext F α H M α' H' M') {d : D} {v : V} (h : Rep K α (hid F α M H) d v) : Rep K α' (hid F α' M' H') d v := Rep.mono e.pre e.same d v h
theorem Ext.reps (e : Ext F α H M α' H' M') {d : List D} {v : List V} (h : Reps K α (hid F α M H) d v) : Reps K α' (hid F α' M' H') d v := Reps.mono e.pre e.same d v h
theorem R.grow (r : R K F α H σ δ M) (e : Ext F α H M α' H' M') (o : OK K F α' H' M') : R K F α' H' σ δ M' :=
  ⟨o, r.len, fun i d q => by
    obtain ⟨v, h1, h2⟩ := r.sl i d q
    exact ⟨v, h1, e.rep h2⟩⟩
theorem OK.live (o : OK K F α H M) : ∀ a ∈ lv α M, H a ≠ none := fun a ha => by
  obtain ⟨k, x, h1, h2⟩ := mem_lv.mp ha
  obtain ⟨b, e, r⟩ := o.own k x h2
  rw [h1] at e; cases e
  cases x with
  | lst ds => obtain ⟨vs, e, _⟩ := r; rw [e]; exact fun z => by cases z
  | dct ks ds => obtain ⟨vs, e, _⟩ := r; rw [e]; exact fun z => by cases z
  | ins C ns ds => obtain ⟨dx, vs, e, _⟩ := r; rw [e]; exact fun z => by cases z
  | fz k ep ks ds => obtain ⟨_, vs, e, _⟩ := r; rw [e]; exact fun z => by cases z
theorem OK.new (o : OK K F α H M) {p : Addr} (h : H p = none) : p ∉ lv α M ++ F := fun z => by
  rcases List.mem_append.mp z with z | z
  · exact o.live p z h
  · exact (o.fr p z).2 (by rw [h])
theorem RepM.vis {Hh : Hp} {x : OD} {a : Addr} (r : RepM K α Hh H x a) : vis (H a) ≠ none := by
  cases x with
  | lst ds => obtain ⟨vs, e, _⟩ := r; rw [e]; exact fun z => by cases z
  | dct ks ds => obtain ⟨vs, e, _⟩ := r; rw [e]; exact fun z => by cases z
  | ins C ns ds => obtain ⟨dx, vs, e, _⟩ := r; rw [e]; exact fun z => by cases z
  | fz k ep ks ds => obtain ⟨_, vs, e, _⟩ := r; rw [e]; exact fun z => by cases z
theorem RepM.some {Hh : Hp} {x : OD} {a : Addr} (r : RepM K α Hh H x a) : H a ≠ none := by
  cases x with
  | lst ds => obtain ⟨vs, e, _⟩ := r; rw [e]; exact fun z => by cases z
  | dct ks ds => obtain ⟨vs, e, _⟩ := r; rw [e]; exact fun z => by cases z
  | ins C ns ds => obtain ⟨dx, vs, e, _⟩ := r; rw [e]; exact fun z => by cases z
  | fz k ep ks ds => obtain ⟨_, vs, e, _⟩ := r; rw [e]; exact fun z => by cases z
theorem OK.liveV (o : OK K F α H M) : ∀ a ∈ lv α M, vis (H a) ≠ none := fun a ha => by
  obtain ⟨k, x, h1, h2⟩ := mem_lv.mp ha
  obtain ⟨b, e, r⟩ := o.own k x h2
  rw [h1] at e; cases e
  exact r.vis
theorem RepM.mono {Hh Hh' : Hp} (p : α <+: α') (e : Same Hh Hh') {o : OD} {a : Addr} (ha : H' a = H a) (h : RepM K α Hh H o a) : RepM K α' Hh' H' o a := by
  cases o with
  | lst ds => obtain ⟨vs, q, r⟩ := h; exact ⟨vs, by rw [ha]; exact q, Reps.mono p e _ _ r⟩
  | dct ks ds => obtain ⟨vs, q, l, r⟩ := h; exact ⟨vs, by rw [ha]; exact q, l, Reps.mono p e _ _ r⟩
  | ins C ns ds => obtain ⟨dx, vs, q, l, r⟩ := h; exact ⟨dx, vs, by rw [ha]; exact q, l, Reps.mono p e _ _ r⟩
  | fz k ep ks ds =>
    obtain ⟨g, vs, q, l, r⟩ := h
    exact ⟨by obtain ⟨β, rfl⟩ := p; rw [List.getElem?_append_left (List.getElem?_eq_some_iff.mp g).1]; exact g, vs, by rw [ha]; exact q, l, Reps.mono p e _ _ r⟩
theorem OK.grow (o : OK K F α H M) (s : Same H H') : OK K F α H' M ∧ Ext F α H M α H' M := by
  have frs : ∀ a, H a ≠ none → H' a = H a := fun a h => by
    cases e : H a with
    | none => exact absurd e h
    | some x => exact s a x e
  refine ⟨⟨o.ml, o.nd, fun a ha => ⟨(o.fr a ha).1, by rw [frs a (vis_none (o.fr a ha).2)]; exact (o.fr a ha).2⟩, fun a ha => by rw [frs a (vis_none (o.al a ha))]; exact o.al a ha, fun k x h => ?_, o.tb.same s⟩, ⟨List.prefix_refl _, (same_hide s), fun a ha => frs a (vis_none (o.fr a ha).2)⟩⟩
  obtain ⟨a, e, r⟩ := o.own k x h
  exact ⟨a, e, r.mono (List.prefix_refl _) (same_hide s) (frs a (o.live a (mem_lv.mpr ⟨k, x, e, h⟩)))⟩
theorem OK.laid (o : OK K F α H M) {p : Addr} {x : HO} (h : H p = none) : OK K F α (upd H p x) M ∧ Ext F α H M α (upd H p x) M := o.grow (same_upd h)
theorem lv_append : ∀ {α β : List Addr} {M N : Ms}, α.length = M.length → lv (α ++ β) (M ++ N) = lv α M ++ lv β N
  | [], β, [], N, _ => by simp [lv]
  | a :: α, β, some x :: M, N, h => by
    have := lv_append (β := β) (N := N) (show α.length = M.length by simpa using h)
    simp [lv, this]
  | a :: α, β, none :: M, N, h => by
    have := lv_append (β := β) (N := N) (show α.length = M.length by simpa using h)
    simp [lv, this]
theorem OK.enter_same (o : OK K F α H M) {p : Addr} {x : OD} (h : H p = none) (s : Same H H') : Same (hid F α M H) (hid F (α ++ [p]) (M ++ [some x]) H') := fun b y q => by
  have hl : lv (α ++ [p]) (M ++ [some x]) = lv α M ++ [p] := by rw [lv_append o.ml]; rfl
  have q0 := q
  obtain ⟨z, q⟩ := hide_some q
  have hb : b ≠ p := fun z => by rw [z, h] at q; cases q
  show hide _ H' b = _
  rw [hl]
  refine hide_go q0 (fun w => ?_) (s b y q)
  · simp only [List.mem_append, List.mem_singleton] at w z
    rcases w with (w | w) | w
    · exact z (.inl w)
    · exact hb w
    · exact z (.inr w)
theorem OK.enter (o : OK K F α H M) {p : Addr} {x : OD} (h : H p = none) (s : Same H H') (r : RepM K (α ++ [p]) (hid F (α ++ [p]) (M ++ [some x]) H') H' x p) :
    OK K F (α ++ [p]) H' (M ++ [some x]) ∧ Ext F α H M (α ++ [p]) H' (M ++ [some x]) := by
  have hp : p ∉ α := fun z => o.al p z (by rw [h])
  obtain ⟨o', e'⟩ := o.grow s
  have sm := o.enter_same (x := x) h s
  have pf : p ∉ F := fun z => (o.fr p z).2 (by rw [h])
  refine ⟨⟨by simp [o.ml], by rw [List.nodup_append]; exact ⟨o.nd, by simp, fun a ha b hb => by simp at hb; subst hb; exact fun z => hp (z ▸ ha)⟩, fun a ha => ⟨fun z => ?_, (o'.fr a ha).2⟩, fun a ha => ?_, fun k y hk => ?_, o'.tb⟩, ⟨List.prefix_append _ _, sm, e'.fr⟩⟩
  · rcases List.mem_append.mp z with z | z
    · exact (o.fr a ha).1 z
    · simp at z; subst z; exact pf ha
  · rcases List.mem_append.mp ha with z | z
    · exact o'.al a z
    · simp at z; subst z; exact r.vis
  · by_cases hk' : k < M.length
    · rw [List.getElem?_append_left hk'] at hk
      obtain ⟨a, ea, ra⟩ := o.own k y hk
      refine ⟨a, by rw [List.getElem?_append_left (by rw [o.ml]; exact hk')]; exact ea, ra.mono (List.prefix_append _ _) sm ?_⟩
      cases e : H a with
      | none => exact absurd e (o.live a (mem_lv.mpr ⟨k, y, ea, hk⟩))
      | some z => exact s a z e
    · have : k = M.length := by
        have := (List.getElem?_eq_some_iff.mp hk).1
        simp at this; omega
      subst this
      simp at hk
      subst hk
      exact ⟨p, by rw [← o.ml]; simp, r⟩
theorem lv_set : ∀ {α : List Addr} {M : Ms} {k : Nat} {x y : OD}, M[k]? = some (some x) → lv α (M.set k (some y)) = lv α M
  | [], M, k, x, y, h => by cases M <;> cases k <;> simp [lv]
  | a :: α, [], k, x, y, h => by simp at h
  | a :: α, some z :: M, 0, x, y, h => by simp [lv]
  | a :: α, none :: M, 0, x, y, h => by simp at h
  | a :: α, some z :: M, k + 1, x, y, h => by simp only [List.set_cons_succ, lv]; rw [lv_set (by simpa using h)]
  | a :: α, none :: M, k + 1, x, y, h => by simp only [List.set_cons_succ, lv]; exact lv_set (by simpa using h)
theorem OK.write (o : OK K F α H M) {k : Nat} {x y : OD} {a : Addr} {z : HO} (hk : M[k]? = some (some x)) (ha : α[k]? = some a) (r : ∀ Hh, Hh = hid F α M H → RepM K α Hh (upd H a z) y a) :
    OK K F α (upd H a z) (M.set k (some y)) ∧ Ext F α H M α (upd H a z) (M.set k (some y)) := by
  have hl : lv α (M.set k (some y)) = lv α M := lv_set hk
  have hm : a ∈ lv α M := mem_lv.mpr ⟨k, x, ha, hk⟩
  have eh : hid F α (M.set k (some y)) (upd H a z) = hid F α M H := by
    funext b
    show hide _ _ b = hide _ _ b
    rw [hl]
    by_cases hb : b ∈ lv α M ++ F
    · rw [hide_in hb, hide_in hb]
    · rw [hide_out hb, hide_out hb, upd_ne (fun e => hb (by rw [e]; exact List.mem_append_left _ hm))]
  have aF : a ∉ F := fun w => (o.fr a w).1 (List.mem_of_getElem? ha)
  refine ⟨⟨by simp [o.ml], o.nd, fun b hb => ⟨(o.fr b hb).1, by rw [upd_ne (fun e => aF (by rw [← e]; exact hb))]; exact (o.fr b hb).2⟩, fun b hb => (by
    by_cases e : b = a
    · subst e; exact (r _ rfl).vis
    · rw [upd_ne e]; exact o.al b hb), fun j w hj => ?_, o.tb.upd (.inl (o.al a (List.mem_of_getElem? ha)))⟩, ⟨List.prefix_refl _, by rw [eh]; exact Same.refl _, fun b hb => upd_ne (fun e => aF (by rw [← e]; exact hb))⟩⟩
  have hkl : k < M.length := (List.getElem?_eq_some_iff.mp hk).1
  by_cases hjk : j = k
  · subst hjk
    rw [List.getElem?_set_self hkl] at hj
    cases hj
    exact ⟨a, ha, r _ eh⟩
  · rw [List.getElem?_set_ne (Ne.symm hjk)] at hj
    obtain ⟨b, eb, rb⟩ := o.own j w hj
    have hba : b ≠ a := fun e => hjk (by
      subst e
      have h1 := List.getElem?_eq_some_iff.mp ha
      have h2 := List.getElem?_eq_some_iff.mp eb
      exact (List.getElem_inj (h₀ := h2.1) (h₁ := h1.1) o.nd).mp (h2.2.trans h1.2.symm))
    refine ⟨b, eb, ?_⟩
    rw [eh]
    exact rb.mono (List.prefix_refl _) (Same.refl _) (upd_ne hba)
theorem R.set (r : R K F α H σ δ M) {i : Nat} {d : D} {v : V} (q : Rep K α (hid F α M H) d v) : R K F α H (σ.set i (some v)) (δ.set i (some d)) M := by
  have hl := r.len
  refine ⟨r.ok, by simp [hl], fun j e h => ?_⟩
  by_cases hj : j = i
  · subst hj
    have hjl : j < δ.length := by
      rcases Nat.lt_or_ge j δ.length with x | x
      · exact x
      · rw [List.getElem?_eq_none (by simpa using x)] at h; cases h
    rw [List.getElem?_set_self hjl] at h
    cases h
    exact ⟨v, List.getElem?_set_self (by omega), q⟩
  · rw [List.getElem?_set_ne (Ne.symm hj)] at h ⊢
    exact r.sl j e h
end
end L3
set_option Elab.async false
set_option linter.all false
set_option maxRecDepth 100000
set_option maxHeartbeats 4000000
namespace L3
open PySem PySem.Spec PyProof.Rows L2
theorem PE.weak {X : Cx} {e : Expr} {t t' : TE} (h : PE X e t) (w : ∀ σ H Q, t' σ H Q → t σ H Q) : PE X e t' := fun pins s σ H Q I q => h pins s σ H Q I (w σ H Q q)
theorem PT.weak {X : Cx} {e : Expr} {t t' : TT} (h : PT X e t) (w : ∀ σ H Q, t' σ H Q → t σ H Q) : PT X e t' := fun pins s σ H Q I q => h pins s σ H Q I (w σ H Q q)
theorem PW.weak {X : Cx} {e : Expr} {t t' : TT} (h : PW X e t) (w : ∀ σ H Q, t' σ H Q → t σ H Q) : PW X e t' := fun wh pins s σ H Q I q => h wh pins s σ H Q I (w σ H Q q)
theorem PA.weak {X : Cx} {e : List Expr} {t t' : TA} (h : PA X e t) (w : ∀ σ H Q, t' σ H Q → t σ H Q) : PA X e t' := fun pos pins s σ H Q I q => h pos pins s σ H Q I (w σ H Q q)
theorem PS.weak {X : Cx} {e : Stmt} {t t' : TS} (h : PS X e t) (w : ∀ D σ H, t' D σ H → t D σ H) : PS X e t' := fun pins s σ H D I q => h pins s σ H D I (w D σ H q)
theorem PSs.weak {X : Cx} {e : List Stmt} {t t' : TS} (h : PSs X e t) (w : ∀ D σ H, t' D σ H → t D σ H) : PSs X e t' := fun pins s σ H D I q => h pins s σ H D I (w D σ H q)
abbrev DK := D → Ms → Prop
abbrev DE := DSt → Ms → DK → Prop
abbrev DT := DSt → Ms → (Bool → Ms → Prop) → Prop
abbrev DA := DSt → Ms → (List D → Ms → Prop) → Prop
abbrev vK (K : PySem.W.Frag) (F α : List Addr) (H : Hp) (M : Ms) (Q : VK) : DK := fun d M' => ∀ v α' H', Ext F α H M α' H' M' → OK K F α' H' M' → Rep K α' (hid F α' M' H') d v → Q v H'
abbrev bK (K : PySem.W.Frag) (F α : List Addr) (H : Hp) (M : Ms) (Q : Bool → Hp → Prop) : Bool → Ms → Prop := fun b M' => ∀ α' H', Ext F α H M α' H' M' → OK K F α' H' M' → Q b H'
abbrev aK (K : PySem.W.Frag) (F α : List Addr) (H : Hp) (M : Ms) (Q : List V → Hp → Prop) : List D → Ms → Prop := fun ds M' => ∀ vs α' H', Ext F α H M α' H' M' → OK K F α' H' M' → Reps K α' (hid F α' M' H') ds vs → Q vs H'
def lE (K : PySem.W.Frag) (t : DE) : TE := fun σ H Q => ∃ F α δ M, R K F α H σ δ M ∧ t δ M (vK K F α H M Q)
def lT (K : PySem.W.Frag) (t : DT) : TT := fun σ H Q => ∃ F α δ M, R K F α H σ δ M ∧ t δ M (bK K F α H M Q)
def lA (K : PySem.W.Frag) (t : DA) : TA := fun σ H Q => ∃ F α δ M, R K F α H σ δ M ∧ t δ M (aK K F α H M Q)
structure JE (X : Cx) (e : Expr) (t : DE) : Prop where
  mono : ∀ δ M (P Q : DK), (∀ d M, P d M → Q d M) → t δ M P → t δ M Q
  p : PE X e (lE X.K t)
structure JT (X : Cx) (e : Expr) (t : DT) : Prop where
  mono : ∀ δ M (P Q : Bool → Ms → Prop), (∀ d M, P d M → Q d M) → t δ M P → t δ M Q
  p : PT X e (lT X.K t)
structure JW (X : Cx) (e : Expr) (t : DT) : Prop where
  mono : ∀ δ M (P Q : Bool → Ms → Prop), (∀ d M, P d M → Q d M) → t δ M P → t δ M Q
  p : PW X e (lT X.K t)
structure JA (X : Cx) (es : List Expr) (t : DA) : Prop where
  mono : ∀ δ M (P Q : List D → Ms → Prop), (∀ d M, P d M → Q d M) → t δ M P → t δ M Q
  p : PA X es (lA X.K t)
section
variable {K : PySem.W.Frag} {F α α' : List Addr} {H H' : Hp} {M M' : Ms}
theorem vK.grow {Q : VK} (e : Ext F α H M α' H' M') : ∀ d M'', vK K F α H M Q d M'' → vK K F α' H' M' Q d M'' := fun d M'' h v α2 H2 e2 o2 r2 => h v α2 H2 (e.trans e2) o2 r2
theorem bK.grow {Q : Bool → Hp → Prop} (e : Ext F α H M α' H' M') : ∀ d M'', bK K F α H M Q d M'' → bK K F α' H' M' Q d M'' := fun d M'' h α2 H2 e2 o2 => h α2 H2 (e.trans e2) o2
theorem vK.now {Q : VK} {d : D} {v : V} (o : OK K F α H M) (h : vK K F α H M Q d M) (r : Rep K α (hid F α M H) d v) : Q v H := h v α H Ext.refl o r
theorem vK.new {Q : VK} {d : D} {v : V} {p : Addr} {x : HO} (o : OK K F α H M) (hp : H p = none) (h : vK K F α H M Q d M) (r : Ext F α H M α (upd H p x) M → Rep K α (hid F α M (upd H p x)) d v) : Q v (upd H p x) :=
  let ⟨o', e'⟩ := o.laid (x := x) hp; h v α _ e' o' (r e')
end
abbrev G2 := D → D → Ms → DK → Prop
abbrev GN := List D → Ms → DK → Prop
def rD (K : PySem.W.Frag) (g : G2) : R2 := fun x y H Q => ∃ F α M da db, OK K F α H M ∧ Rep K α (hid F α M H) da x ∧ Rep K α (hid F α M H) db y ∧ g da db M (vK K F α H M Q)
def rDs (K : PySem.W.Frag) (g : GN) : List V → Hp → VK → Prop := fun xs H Q => ∃ F α M ds, OK K F α H M ∧ Reps K α (hid F α M H) ds xs ∧ g ds M (vK K F α H M Q)
abbrev mono2 (g : G2) : Prop := ∀ x y M (P Q : DK), (∀ d M, P d M → Q d M) → g x y M P → g x y M Q
abbrev monoN (g : GN) : Prop := ∀ xs M (P Q : DK), (∀ d M, P d M → Q d M) → g xs M P → g xs M Q
structure JO (X : Cx) (op : Operator) (g : G2) : Prop where
  mono : mono2 g
  p : OpR X (binaryOp op) (rD X.K g)
structure JC (X : Cx) (op : CmpOp) (g : G2) : Prop where
  mono : mono2 g
  p : OpR X (compareOp op) (rD X.K g)
structure JX (X : Cx) (g : G2) : Prop where
  mono : mono2 g
  p : IxR X (rD X.K g)
structure JB (X : Cx) (f : Value) (g : GN) : Prop where
  mono : monoN g
  p : CallR X f (rDs X.K g)
abbrev GS := D → Option Int → Option Int → Ms → DK → Prop
def rDsl (K : PySem.W.Frag) (g : GS) : V → Option Int → Option Int → Hp → VK → Prop := fun x lo hi H Q => ∃ F α M d, OK K F α H M ∧ Rep K α (hid F α M H) d x ∧ g d lo hi M (vK K F α H M Q)
structure JSl (X : Cx) (g : GS) : Prop where
  mono : ∀ x lo hi M (P Q : DK), (∀ d M, P d M → Q d M) → g x lo hi M P → g x lo hi M Q
  p : SlR X (rDsl X.K g)
section
variable {X : Cx} {a b c e : Expr} {es rest : List Expr} {ta tb tc te : DE} {tA tB' : DT} {tt : DA} {pos p p2 p3 : Pos} {x : Str}
def dVar (i : Nat) : DE := fun δ M Q => match δ[i]? with | some (some d) => Q d M | _ => False
theorem j_v (i : Nat) (hN : X.N[i]? = some x := by rfl) (hv : Vis X.env.scope x := by first | exact Or.inl rfl | exact Or.inr (Or.inl rfl) | exact Or.inr (Or.inr rfl)) (hd : (x == ("__debug__" : Str)) = false := by decide)
    (hcd : (x == ("__classdict__" : Str)) = false := by decide) : JE X (.Name x pos) (dVar i) := by
  refine ⟨fun δ M P Q h q => ?_, PE.weak (pe_var hN hv hd hcd) fun σ H Q h => ?_⟩
  · unfold dVar at *
    split at q
    · exact h _ _ q
    · exact q
  · obtain ⟨F, α, δ, M, r, h⟩ := h
    unfold dVar at h
    split at h
    · rename_i d hd
      obtain ⟨v, e, q⟩ := r.sl i d hd
      exact ⟨v, e, vK.now r.ok h q⟩
    · exact h.elim
def dC (d : D) : DE := fun _ M Q => Q d M
theorem j_c {d : D} {v : V} (h : PE X e (tC v)) (r : ∀ α H, Rep X.K α H d v) : JE X e (dC d) :=
  ⟨fun δ M P Q h q => h _ _ q, PE.weak h fun σ H Q ⟨F, α, δ, M, rr, h⟩ => vK.now rr.ok h (r _ _)⟩
theorem j_int {i j} : JE X (.Constant (.int i) j pos) (dC (.int i)) := j_c pe_int fun _ _ => rep_int
theorem j_bl {b j} : JE X (.Constant (.bool b) j pos) (dC (.bl b)) := j_c pe_bl fun _ _ => rep_bl
theorem j_non {j} : JE X (.Constant .none j pos) (dC .non) := j_c pe_non fun _ _ => rep_non
theorem j_str {y j} : JE X (.Constant (.str y) j pos) (dC (.str y)) := j_c pe_str fun _ _ => rep_str
theorem j_glob {d : D} {v : V} {u : Value} (hm : X.mg x = some u) (r : RelV v u) (rr : ∀ α H, Rep X.K α H d v) (hg : Gl X x := by rfl) (hd : (x == ("__debug__" : Str)) = false := by decide) : JE X (.Name x pos) (dC d) := j_c (pe_glob hg hm r hd) rr
theorem j_globI {i : Int} (hm : ∃ t, X.mg x = some (.int i t)) (hg : Gl X x := by rfl) (hd : (x == ("__debug__" : Str)) = false := by decide) : JE X (.Name x pos) (dC (.int i)) := by
  obtain ⟨t, hm⟩ := hm
  exact j_glob (v := .int i) hm ⟨t, rfl⟩ (fun _ _ => rep_int) hg hd
theorem j_globC {C : Addr} (hm : X.mg x = some (.ref C)) (hg : Gl X x := by rfl) (hd : (x == ("__debug__" : Str)) = false := by decide) : JE X (.Name x pos) (dC (.cls C)) := j_glob (v := .ref C) hm rfl (fun _ _ => rep_cls) hg hd
theorem j_ty {n : String} (hm : X.mg x = none) (hv : bootBuiltins x = some (.type n)) (hg : Gl X x := by rfl) (hn : x ≠ "__name__" := by decide) (hd : (x == ("__debug__" : Str)) = false := by decide) : JE X (.Name x pos) (dC (.ty n)) :=
  j_c (pe_bltn (v := .ty n) hg hm hv rfl hn hd) fun _ _ => rep_ty
def dOp (g : G2) (ta tb : DE) : DE := fun δ M Q => ta δ M fun x M1 => tb δ M1 fun y M2 => g x y M2 Q
theorem dOp_mono {g : G2} (mg : mono2 g) (ha : JE X a ta) (hb : JE X b tb) : ∀ δ M (P Q : DK), (∀ d M, P d M → Q d M) → dOp g ta tb δ M P → dOp g ta tb δ M Q :=
  fun δ M P Q h q => ha.mono δ _ _ _ (fun d M1 q => hb.mono δ _ _ _ (fun d' M2 q => mg d d' M2 P Q h q) q) q
theorem lift2 {g : G2} (mg : mono2 g) (ha : JE X a ta) (hb : JE X b tb) {σ : L2.St} {H : Hp} {Q : VK} (h : lE X.K (dOp g ta tb) σ H Q) : tOp (rD X.K g) (lE X.K ta) (lE X.K tb) σ H Q := by
  obtain ⟨F, α, δ, M, r, h⟩ := h
  exact ⟨F, α, δ, M, r, ha.mono δ _ _ _ (fun da M1 h2 v α1 H1 e1 o1 r1 => ⟨F, α1, δ, M1, r.grow e1 o1, hb.mono δ _ _ _ (fun db M2 h3 u α2 H2 e2 o2 r2 =>
    ⟨F, α2, M2, da, db, o2, e2.rep r1, r2, mg _ _ _ _ _ (vK.grow (e1.trans e2)) h3⟩) h2⟩) h⟩
theorem j_op {op : Operator} {g : G2} (o : JO X op g) (ha : JE X a ta) (hb : JE X b tb) : JE X (.BinOp a op b pos) (dOp g ta tb) := ⟨dOp_mono o.mono ha hb, PE.weak (pe_op o.p ha.p hb.p) fun σ H Q h => lift2 o.mono ha hb h⟩
theorem j_cmp {op : CmpOp} {g : G2} (o : JC X op g) (ha : JE X a ta) (hb : JE X b tb) (hm : behindInMarks op b = false := by rfl) : JE X (.Compare a [op] [b] pos) (dOp g ta tb) := ⟨dOp_mono o.mono ha hb, PE.weak (pe_cmpR o.p ha.p hb.p hm) fun σ H Q h => lift2 o.mono ha hb h⟩
theorem j_ix {g : G2} (o : JX X g) (ha : JE X a ta) (hb : JE X b tb) (hs : PlainIx b := by exact fun _ _ => rfl) : JE X (.Subscript a b pos) (dOp g ta tb) := ⟨dOp_mono o.mono ha hb, PE.weak (pe_ix o.p ha.p hb.p hs) fun σ H Q h => lift2 o.mono ha hb h⟩
def dTest (te : DE) : DT := fun δ M Q => te δ M fun d M1 => match d with | .bl b => Q b M1 | _ => False
theorem dTest_mono (h : JE X e te) : ∀ δ M (P Q : Bool → Ms → Prop), (∀ d M, P d M → Q d M) → dTest te δ M P → dTest te δ M Q := fun δ M P Q w q => h.mono δ _ _ _ (fun d M1 q => by
  cases d <;> first | exact w _ _ q | exact q) q
theorem jt_val (h : JE X e te) (he : ∀ whole, isTrue e X.env whole = (do let v ← whole; standAt e.pos; holding [v] (truthy v)) := by intro _; rfl) : JT X e (dTest te) := by
  refine ⟨dTest_mono h, PT.weak (pt_val h.p he) fun σ H Q q => ?_⟩
  obtain ⟨F, α, δ, M, r, q⟩ := q
  refine ⟨F, α, δ, M, r, h.mono δ _ _ _ (fun d M1 q v α1 H1 e1 o1 r1 => ?_) q⟩
  cases d <;> first | exact q.elim | skip
  unfold Rep at r1
  exact ⟨_, r1, q α1 H1 e1 o1⟩
theorem jt_cmp {op : CmpOp} {g : G2} (o : JC X op g) (ha : JE X a ta) (hb : JE X b tb) (hm : behindInMarks op b = false := by rfl) : JT X (.Compare a [op] [b] pos) (dTest (dOp g ta tb)) := by
  have hE : JE X (.Compare a [op] [b] pos) (dOp g ta tb) := j_cmp o ha hb hm
  refine ⟨dTest_mono hE, PT.weak (pt_cmpR o.p ha.p hb.p hm) fun σ H Q q => ?_⟩
  obtain ⟨F, α, δ, M, r, q⟩ := q
  refine lift2 o.mono ha hb ⟨F, α, δ, M, r, hE.mono δ _ _ _ (fun d M1 q v α1 H1 e1 o1 r1 => ?_) q⟩
  cases d <;> first | exact q.elim | skip
  unfold Rep at r1
  exact ⟨_, r1, q α1 H1 e1 o1⟩
def dNot (t : DT) : DT := fun δ M Q => t δ M fun b M1 => Q (!b) M1
theorem jt_not (h : JT X a tA) : JT X (.UnaryOp .Not a pos) (dNot tA) :=
  ⟨fun δ M P Q w q => h.mono δ _ _ _ (fun b M1 q => w _ _ q) q, PT.weak (pt_not h.p) fun σ H Q ⟨F, α, δ, M, r, q⟩ => ⟨F, α, δ, M, r, q⟩⟩
theorem jt_of (h : JW X e tA) : JT X e tA := ⟨h.mono, h.p.pt⟩
def dAnd (t u : DT) : DT := fun δ M Q => t δ M fun b M1 => if b = true then u δ M1 Q else Q false M1
def dOr (t u : DT) : DT := fun δ M Q => t δ M fun b M1 => if b = true then Q true M1 else u δ M1 Q
theorem jw_and1 (h : JT X a tA) : JW X (.BoolOp .And [a] pos) tA := ⟨h.mono, pw_and1 h.p⟩
theorem jw_or1 (h : JT X a tA) : JW X (.BoolOp .Or [a] pos) tA := ⟨h.mono, pw_or1 h.p⟩
theorem jw_and (ha : JT X a tA) (hb : JW X (.BoolOp .And (b :: rest) pos) tB') : JW X (.BoolOp .And (a :: b :: rest) pos) (dAnd tA tB') := by
  refine ⟨fun δ M P Q w q => ha.mono δ _ _ _ (fun b M1 q => ?_) q, PW.weak (pw_and ha.p hb.p) fun σ H Q q => ?_⟩
  · cases b with
    | true => rw [if_pos rfl] at q ⊢; exact hb.mono δ _ _ _ w q
    | false => rw [if_neg Bool.false_ne_true] at q ⊢; exact w _ _ q
  · obtain ⟨F, α, δ, M, r, q⟩ := q
    refine ⟨F, α, δ, M, r, ha.mono δ _ _ _ (fun b M1 q α1 H1 e1 o1 => ?_) q⟩
    cases b with
    | true =>
      rw [if_pos rfl] at q
      show (if true = true then _ else _)
      rw [if_pos rfl]
      exact ⟨F, α1, δ, M1, r.grow e1 o1, hb.mono δ _ _ _ (bK.grow e1) q⟩
    | false =>
      rw [if_neg Bool.false_ne_true] at q
      show (if false = true then _ else _)
      rw [if_neg Bool.false_ne_true]
      exact q α1 H1 e1 o1
theorem jw_or (ha : JT X a tA) (hb : JW X (.BoolOp .Or (b :: rest) pos) tB') : JW X (.BoolOp .Or (a :: b :: rest) pos) (dOr tA tB') := by
  refine ⟨fun δ M P Q w q => ha.mono δ _ _ _ (fun b M1 q => ?_) q, PW.weak (pw_or ha.p hb.p) fun σ H Q q => ?_⟩
  · cases b with
    | true => rw [if_pos rfl] at q ⊢; exact w _ _ q
    | false => rw [if_neg Bool.false_ne_true] at q ⊢; exact hb.mono δ _ _ _ w q
  · obtain ⟨F, α, δ, M, r, q⟩ := q
    refine ⟨F, α, δ, M, r, ha.mono δ _ _ _ (fun b M1 q α1 H1 e1 o1 => ?_) q⟩
    cases b with
    | false =>
      rw [if_neg Bool.false_ne_true] at q
      show (if false = true then _ else _)
      rw [if_neg Bool.false_ne_true]
      exact ⟨F, α1, δ, M1, r.grow e1 o1, hb.mono δ _ _ _ (bK.grow e1) q⟩
    | true =>
      rw [if_pos rfl] at q
      show (if true = true then _ else _)
      rw [if_pos rfl]
      exact q α1 H1 e1 o1
def dAndV (ta tb : DE) : DE := fun δ M Q => ta δ M fun x M1 => match x with | .bl true => tb δ M1 Q | .bl false => Q (.bl false) M1 | _ => False
def dNotV (ta : DE) : DE := fun δ M Q => ta δ M fun x M1 => match x with | .bl b => Q (.bl (!b)) M1 | _ => False
theorem j_one {op} (h : JE X a te) : JE X (.BoolOp op [a] pos) te := ⟨h.mono, pe_one h.p⟩
theorem j_and (ha : JE X a ta) (hb : JE X (.BoolOp .And (b :: rest) pos) tb) : JE X (.BoolOp .And (a :: b :: rest) pos) (dAndV ta tb) := by
  refine ⟨fun δ M P Q w q => ha.mono δ _ _ _ (fun d M1 q => ?_) q, PE.weak (pe_and ha.p hb.p) fun σ H Q q => ?_⟩
  · cases d <;> first | exact q.elim | skip
    rename_i b; cases b with
    | true => exact hb.mono δ _ _ _ w q
    | false => exact w _ _ q
  · obtain ⟨F, α, δ, M, r, q⟩ := q
    refine ⟨F, α, δ, M, r, ha.mono δ _ _ _ (fun d M1 q v α1 H1 e1 o1 r1 => ?_) q⟩
    cases d <;> first | exact q.elim | skip
    unfold Rep at r1
    rename_i b; cases b with
    | true =>
      refine ⟨true, r1, ?_⟩
      rw [if_pos rfl]
      exact ⟨F, α1, δ, M1, r.grow e1 o1, hb.mono δ _ _ _ (vK.grow e1) q⟩
    | false =>
      refine ⟨false, r1, ?_⟩
      rw [if_neg Bool.false_ne_true]
      exact q _ α1 H1 e1 o1 rep_bl
theorem j_not (ha : JE X a ta) : JE X (.UnaryOp .Not a pos) (dNotV ta) := by
  refine ⟨fun δ M P Q w q => ha.mono δ _ _ _ (fun d M1 q => ?_) q, PE.weak (pe_not ha.p) fun σ H Q q => ?_⟩
  · cases d <;> first | exact q.elim | exact w _ _ q
  · obtain ⟨F, α, δ, M, r, q⟩ := q
    refine ⟨F, α, δ, M, r, ha.mono δ _ _ _ (fun d M1 q v α1 H1 e1 o1 r1 => ?_) q⟩
    cases d <;> first | exact q.elim | skip
    unfold Rep at r1
    exact ⟨_, r1, q _ α1 H1 e1 o1 rep_bl⟩
def dIf (t : DT) (ta tb : DE) : DE := fun δ M Q => t δ M fun c M1 => if c = true then ta δ M1 Q else tb δ M1 Q
theorem j_if (hc : JT X c tA) (ha : JE X a ta) (hb : JE X b tb) : JE X (.IfExp c a b pos) (dIf tA ta tb) := by
  refine ⟨fun δ M P Q w q => hc.mono δ _ _ _ (fun b M1 q => ?_) q, PE.weak (pe_ifExp hc.p ha.p hb.p) fun σ H Q q => ?_⟩
  · cases b with
    | true => rw [if_pos rfl] at q ⊢; exact ha.mono δ _ _ _ w q
    | false => rw [if_neg Bool.false_ne_true] at q ⊢; exact hb.mono δ _ _ _ w q
  · obtain ⟨F, α, δ, M, r, q⟩ := q
    refine ⟨F, α, δ, M, r, hc.mono δ _ _ _ (fun b M1 q α1 H1 e1 o1 => ?_) q⟩
    cases b with
    | true =>
      rw [if_pos rfl] at q
      show (if true = true then _ else _)
      rw [if_pos rfl]
      exact ⟨F, α1, δ, M1, r.grow e1 o1, ha.mono δ _ _ _ (vK.grow e1) q⟩
    | false =>
      rw [if_neg Bool.false_ne_true] at q
      show (if false = true then _ else _)
      rw [if_neg Bool.false_ne_true]
      exact ⟨F, α1, δ, M1, r.grow e1 o1, hb.mono δ _ _ _ (vK.grow e1) q⟩
def dChain (g g' : G2) (ta tb tc : DE) : DE := fun δ M Q => ta δ M fun x M1 => tb δ M1 fun y M2 => g x y M2 fun z M3 => match z with | .bl true => tc δ M3 fun w M4 => g' y w M4 Q | .bl false => Q (.bl false) M3 | _ => False
theorem dChain_mono {op op' : CmpOp} {g g' : G2} (o : JC X op g) (o' : JC X op' g') (ha : JE X a ta) (hb : JE X b tb) (hc : JE X c tc) : ∀ δ M (P Q : DK), (∀ d M, P d M → Q d M) → dChain g g' ta tb tc δ M P → dChain g g' ta tb tc δ M Q :=
  fun δ M P Q w q => ha.mono δ _ _ _ (fun x M1 q => hb.mono δ _ _ _ (fun y M2 q => o.mono _ _ _ _ _ (fun z M3 q => by
    cases z <;> first | exact q.elim | skip
    rename_i k; cases k with
    | true => exact hc.mono δ _ _ _ (fun u M4 q => o'.mono _ _ _ _ _ w q) q
    | false => exact w _ _ q) q) q) q
theorem liftChain {op op' : CmpOp} {g g' : G2} (o : JC X op g) (o' : JC X op' g') (ha : JE X a ta) (hb : JE X b tb) (hc : JE X c tc) {σ : L2.St} {H : Hp} {Q : VK} (h : lE X.K (dChain g g' ta tb tc) σ H Q) : tChain (rD X.K g) (rD X.K g') (lE X.K ta) (lE X.K tb) (lE X.K tc) σ H Q := by
  obtain ⟨F, α, δ, M, r, h⟩ := h
  refine ⟨F, α, δ, M, r, ha.mono δ _ _ _ (fun da M1 h2 v α1 H1 e1 o1 r1 => ⟨F, α1, δ, M1, r.grow e1 o1, hb.mono δ _ _ _ (fun db M2 h3 u α2 H2 e2 o2 r2 => ?_) h2⟩) h⟩
  refine ⟨F, α2, M2, da, db, o2, e2.rep r1, r2, o.mono _ _ _ _ _ (fun d M3 h4 w α3 H3 e3 o3 r3 => ?_) h3⟩
  have e13 := (e1.trans e2).trans e3
  cases d <;> first | exact h4.elim | skip
  unfold Rep at r3
  rename_i k
  refine ⟨k, r3, ?_⟩
  cases k with
  | false => rw [if_neg Bool.false_ne_true]; exact h4 _ α3 H3 e13 o3 rep_bl
  | true =>
    rw [if_pos rfl]
    refine ⟨F, α3, δ, M3, r.grow e13 o3, hc.mono δ _ _ _ (fun dc M4 h5 z α4 H4 e4 o4 r4 => ?_) h4⟩
    exact ⟨F, α4, M4, db, dc, o4, (e3.trans e4).rep r2, r4, o'.mono _ _ _ _ _ (vK.grow (e13.trans e4)) h5⟩
theorem j_chain {op op' : CmpOp} {g g' : G2} (o : JC X op g) (o' : JC X op' g') (ha : JE X a ta) (hb : JE X b tb) (hc : JE X c tc) (hm : lastMarks [op, op'] [b, c] = false := by with_unfolding_all rfl) : JE X (.Compare a [op, op'] [b, c] pos) (dChain g g' ta tb tc) :=
  ⟨dChain_mono o o' ha hb hc, PE.weak (pe_chain o.p o'.p ha.p hb.p hc.p hm) fun σ H Q h => liftChain o o' ha hb hc h⟩
theorem jt_chain {op op' : CmpOp} {g g' : G2} (o : JC X op g) (o' : JC X op' g') (ha : JE X a ta) (hb : JE X b tb) (hc : JE X c tc) (hm : lastMarks [op, op'] [b, c] = false := by with_unfolding_all rfl) : JT X (.Compare a [op, op'] [b, c] pos) (dTest (dChain g g' ta tb tc)) := by
  have hE : JE X (.Compare a [op, op'] [b, c] pos) (dChain g g' ta tb tc) := j_chain o o' ha hb hc hm
  refine ⟨dTest_mono hE, PT.weak (pt_chain o.p o'.p ha.p hb.p hc.p hm) fun σ H Q q => ?_⟩
  obtain ⟨F, α, δ, M, r, q⟩ := q
  refine liftChain o o' ha hb hc ⟨F, α, δ, M, r, hE.mono δ _ _ _ (fun d M1 q v α1 H1 e1 o1 r1 => ?_) q⟩
  cases d <;> first | exact q.elim | skip
  unfold Rep at r1
  exact ⟨_, r1, q α1 H1 e1 o1⟩
def dNil : DA := fun _ M Q => Q [] M
def dCons (te : DE) (tt : DA) : DA := fun δ M Q => te δ M fun x M1 => tt δ M1 fun xs M2 => Q (x :: xs) M2
theorem ja_nil : JA X [] dNil := ⟨fun δ M P Q w q => w _ _ q, PA.weak pa_nil fun σ H Q ⟨F, α, δ, M, r, q⟩ => q [] α H Ext.refl r.ok Reps.nil⟩
theorem ja_cons (ha : JE X e te) (hr : JA X es tt) (hs : starEach (e :: es) X.env = (false, eval e X.env) :: starEach es X.env := by rfl) : JA X (e :: es) (dCons te tt) := by
  refine ⟨fun δ M P Q w q => ha.mono δ _ _ _ (fun x M1 q => hr.mono δ _ _ _ (fun xs M2 q => w _ _ q) q) q, PA.weak (pa_cons ha.p hr.p hs) fun σ H Q q => ?_⟩
  obtain ⟨F, α, δ, M, r, q⟩ := q
  refine ⟨F, α, δ, M, r, ha.mono δ _ _ _ (fun d M1 q v α1 H1 e1 o1 r1 => ⟨F, α1, δ, M1, r.grow e1 o1, hr.mono δ _ _ _ (fun ds M2 q vs α2 H2 e2 o2 r2 => ?_) q⟩) q⟩
  exact q (v :: vs) α2 H2 (e1.trans e2) o2 (Reps.cons (e2.rep r1) r2)
theorem rep_lst_new {K : PySem.W.Frag} {F α : List Addr} {H : Hp} {M : Ms} {p : Addr} {ds : List D} {vs : List V} (o : OK K F α H M) (hp : H p = none) (h : Reps K α (hid F α M H) ds vs) (e : Ext F α H M α (upd H p (.lst vs)) M) : Rep K α (hid F α M (upd H p (.lst vs))) (.lst ds) (.ref p) := by
  unfold Rep
  exact ⟨p, vs, rfl, by show hide _ _ p = _; rw [hide_out (o.new hp), upd_same], e.reps h⟩
theorem rep_tup_new {K : PySem.W.Frag} {F α : List Addr} {H : Hp} {M : Ms} {p : Addr} {ds : List D} {vs : List V} (o : OK K F α H M) (hp : H p = none) (h : Reps K α (hid F α M H) ds vs) (e : Ext F α H M α (upd H p (.tup vs)) M) : Rep K α (hid F α M (upd H p (.tup vs))) (.tup ds) (.ref p) := by
  unfold Rep
  exact ⟨p, vs, rfl, .inl (.inl (by show hide _ _ p = _; rw [hide_out (o.new hp), upd_same])), e.reps h⟩
def dTup (tt : DA) : DE := fun δ M Q => tt δ M fun ds M1 => ds.length ≤ sizeLine ∧ Q (.tup ds) M1
theorem j_tup {x1} (h : JA X es tt) : JE X (.Tuple es x1 pos) (dTup tt) := by
  refine ⟨fun δ M P Q w q => h.mono δ _ _ _ (fun ds M1 q => ⟨q.1, w _ _ q.2⟩) q, PE.weak (pe_tup h.p) fun σ H Q q => ?_⟩
  obtain ⟨F, α, δ, M, r, q⟩ := q
  refine ⟨F, α, δ, M, r, h.mono δ _ _ _ (fun ds M1 q vs α1 H1 e1 o1 r1 => ?_) q⟩
  exact ⟨by rw [← Reps.length ds vs r1]; exact q.1, fun p hp => vK.new o1 hp (vK.grow e1 _ _ q.2) (rep_tup_new o1 hp r1)⟩
def dCB (g : GN) (tt : DA) : DE := fun δ M Q => tt δ M fun ds M1 => g ds M1 Q
theorem dCB_mono {g : GN} (m : monoN g) (ha : JA X es tt) : ∀ δ M (P Q : DK), (∀ d M, P d M → Q d M) → dCB g tt δ M P → dCB g tt δ M Q := fun δ M P Q w q => ha.mono δ _ _ _ (fun ds M1 q => m _ _ _ _ w q) q
theorem liftCB {f : Value} {g : GN} (o : JB X f g) (ha : JA X es tt) {σ : L2.St} {H : Hp} {Q : VK} (h : lE X.K (dCB g tt) σ H Q) : tCB (rDs X.K g) (lA X.K tt) σ H Q := by
  obtain ⟨F, α, δ, M, r, h⟩ := h
  exact ⟨F, α, δ, M, r, ha.mono δ _ _ _ (fun ds M1 q vs α1 H1 e1 o1 r1 => ⟨F, α1, M1, ds, o1, r1, o.mono _ _ _ _ (vK.grow e1) q⟩) h⟩
theorem j_b {id : String} {g : GN} (o : JB X (.builtin id) g) (hm : X.mg x = none) (hv : bootBuiltins x = some (.builtin id)) (ha : JA X (e :: es) tt) (hg : Gl X x := by rfl) (hn : x ≠ "__name__" := by decide) (hdb : (x == ("__debug__" : Str)) = false := by decide)
    (he : starEach (e :: es) X.env = (false, eval e X.env) :: starEach es X.env := by rfl) (hpl : (backTo pos (starEach es X.env)).any (·.1) = false := by rfl) : JE X (.Call (.Name x p) (e :: es) [] pos) (dCB g tt) :=
  ⟨dCB_mono o.mono ha, PE.weak (pe_callB o.p hg hm hv ha.p hn hdb he hpl) fun σ H Q h => liftCB o ha h⟩
theorem j_t {T : String} {g : GN} (o : JB X (.type T) g) (hm : X.mg x = none) (hv : bootBuiltins x = some (.type T)) (ha : JA X (e :: es) tt) (hg : Gl X x := by rfl) (hn : x ≠ "__name__" := by decide) (hdb : (x == ("__debug__" : Str)) = false := by decide)
    (he : starEach (e :: es) X.env = (false, eval e X.env) :: starEach es X.env := by rfl) (hpl : (backTo pos (starEach es X.env)).any (·.1) = false := by rfl) : JE X (.Call (.Name x p) (e :: es) [] pos) (dCB g tt) :=
  ⟨dCB_mono o.mono ha, PE.weak (pe_callTy o.p hg hm hv ha.p hn hdb he hpl) fun σ H Q h => liftCB o ha h⟩
def lSp (K : PySem.W.Frag) (g : GN) : Sp := fun vs H Q _ => ∃ F α M ds, OK K F α H M ∧ Reps K α (hid F α M H) ds vs ∧ g ds M (vK K F α H M Q)
structure HasD (P : Program) (w : World) (K : PySem.W.Frag) (mg : Str → Option Value) (base : Heap) (k : Nat) (x : Str) (ps : List Str) (g : GN) : Prop where
  mono : monoN g
  p : Has P w K mg base k x ps (lSp K g)
theorem HasD.up {P : Program} {w : World} {K : PySem.W.Frag} {mg : Str → Option Value} {base : Heap} {j k : Nat} {x : Str} {ps : List Str} {g : GN} (h : HasD P w K mg base j x ps g) (hjk : j ≤ k) : HasD P w K mg base k x ps g := ⟨h.mono, h.p.mono hjk⟩
theorem j_fn {k : Nat} {ps : List Str} {g : GN} (h : HasD X.prog X.w X.K X.mg X.base k x ps g) (hr : Room k X.A) (ha : JA X (e :: es) tt) (hg : Gl X x := by rfl) (hdb : (x == ("__debug__" : Str)) = false := by decide)
    (he : starEach (e :: es) X.env = (false, eval e X.env) :: starEach es X.env := by rfl) (hpl : (backTo pos (starEach es X.env)).any (·.1) = false := by rfl) : JE X (.Call (.Name x p) (e :: es) [] pos) (dCB g tt) := by
  refine ⟨dCB_mono h.mono ha, PE.weak (pe_fn h.p hr ha.p hg hdb he hpl) fun σ H Q q => ?_⟩
  obtain ⟨F, α, δ, M, r, q⟩ := q
  refine ⟨F, α, δ, M, r, ha.mono δ _ _ _ (fun ds M1 q vs α1 H1 e1 o1 r1 => ?_) q⟩
  show lSp X.K g (vs ++ []) H1 Q E0
  rw [List.append_nil]
  exact ⟨F, α1, M1, ds, o1, r1, h.mono _ _ _ _ (vK.grow e1) q⟩
end
end L3
set_option Elab.async false
set_option linter.all false
set_option maxRecDepth 100000
set_option maxHeartbeats 4000000
namespace L2
open PySem PySem.Spec PyProof.Rows
section
variable {X : Cx} {pins : List (Addr × Obj)} {σ : St} {H : Hp} {s : Shared} {a : Addr} {kvs : List (Key × V)}
theorem Inv.ghost {w w' : HO} (I : Inv X pins σ H s) (ha : H a = some w) (n1 : ∀ xs, w ≠ .tup xs) (n2 : ∀ x, w ≠ .own x) (n3 : ∀ ps, w ≠ .tbl ps) (n4 : ∀ o u, X.H₀ a ≠ some (.frz o u))
    (ok : ObjOk X.prog X.w (upd H a w') s.heap a w') : Inv X pins σ (upd H a w') s := by
  have hne : ∀ b, H b = none → b ≠ a := fun b h z => by rw [z, ha] at h; cases h
  refine ⟨I.ok, I.os, I.bare, ⟨I.base.keep, I.base.slot, fun b o q n hx => ?_, I.base.there, fun b xs q => ?_, fun b o u q => ?_, fun b ps q => ?_⟩, I.loc, I.cell, ?_, fun x c e => ?_, fun p hp => ?_, fun b ob q => ?_, I.len⟩
  · have := I.base.free b o q n hx
    rw [upd_ne (hne b this)]; exact this
  · have := I.base.tups b xs q
    rw [upd_ne fun z => by rw [z, ha] at this; exact n1 xs (Option.some.inj this)]; exact this
  · have := I.base.frzs b o u q
    rw [upd_ne fun z => n4 o u (by rw [← z]; exact q)]; exact this
  · obtain ⟨m, e⟩ := I.base.tbls b ps q
    exact ⟨m, by rw [upd_ne fun z => by rw [z, ha] at e; exact n3 _ (Option.some.inj e)]; exact e⟩
  · rw [upd_ne (hne _ I.free)]; exact I.free
  · rw [upd_ne (hne _ (I.freeC x c e))]; exact I.freeC x c e
  · obtain ⟨p1, p2, p3⟩ := I.pin p hp
    exact ⟨p1, by rw [upd_ne (hne _ p2)]; exact p2, p3⟩
  · by_cases z : b = a
    · subst z
      rw [upd_same] at q
      cases q
      exact ok
    · rw [upd_ne z] at q
      refine (I.hok b ob q).stay (fun c v _ r => r) (fun c r => ?_) (fun c xs r => ?_)
      · rw [upd_ne fun z => by rw [z, ha] at r; exact n2 _ (Option.some.inj r)]; exact r
      · rw [upd_ne fun z => by rw [z, ha] at r; exact n1 _ (Option.some.inj r)]; exact r
theorem Inv.thaw {o : Obj} (I : Inv X pins σ H s) (ha : H a = some (.frz o (.dK kvs))) (n4 : ∀ o u, X.H₀ a ≠ some (.frz o u)) : Inv X pins σ (upd H a (.dK kvs)) s := by
  obtain ⟨_, z, hd, vs, r, ob, es, ep, e, c⟩ := (show ObjOk X.prog X.w H s.heap a (.frz o (.dK kvs)) from I.hok a _ ha)
  exact I.ghost ha (fun _ z => by cases z) (fun _ z => by cases z) (fun _ z => by cases z) n4 ⟨z, hd, vs, r, ob, es, ep, e, c⟩
def TH (X : Cx) (P : Hp → Prop) (H : Hp) : Prop := P H ∨ ∃ a o kvs, H a = some (.frz o (.dK kvs)) ∧ (∀ o u, X.H₀ a ≠ some (.frz o u)) ∧ P (upd H a (.dK kvs))
theorem TH.get {P : Hp → Prop} (I : Inv X pins σ H s) (h : TH X P H) : ∃ H', Inv X pins σ H' s ∧ P H' := by
  rcases h with h | ⟨a, o, kvs, e, n, h⟩
  · exact ⟨H, I, h⟩
  · exact ⟨_, I.thaw e n, h⟩
noncomputable def thD (X : Cx) (D : Ends) : Ends := ⟨fun σ => TH X (D.nx σ), fun v => TH X (D.rt v), fun σ => TH X (D.bk σ), fun σ => TH X (D.ct σ)⟩
theorem ps_ghost {st : Stmt} {t t' : TS} (h : PS X st t) (w : ∀ D σ H, t' D σ H → t (thD X D) σ H) : PS X st t' := fun pins s σ H D I q =>
  thn (h pins s σ H (thD X D) I (w D σ H q)) fun f s' hf => by
    cases f with
    | next => obtain ⟨σ', H', I', q⟩ := hf; obtain ⟨H2, I2, q2⟩ := TH.get I' q; exact ⟨σ', H2, I2, q2⟩
    | brk => obtain ⟨σ', H', I', q⟩ := hf; obtain ⟨H2, I2, q2⟩ := TH.get I' q; exact ⟨σ', H2, I2, q2⟩
    | cont => obtain ⟨σ', H', I', q⟩ := hf; obtain ⟨H2, I2, q2⟩ := TH.get I' q; exact ⟨σ', H2, I2, q2⟩
    | ret u => obtain ⟨v, σ', H', I', r, q⟩ := hf; obtain ⟨H2, I2, q2⟩ := TH.get I' q; exact ⟨v, σ', H2, I2, r, q2⟩
theorem pe_ghost {e : Expr} {t t' : TE} (h : PE X e t) (w : ∀ σ H Q, t' σ H Q → t σ H (fun v => TH X (Q v))) : PE X e t' := fun pins s σ H Q I q =>
  thn (h pins s σ H _ I (w σ H Q q)) fun u s' ⟨v, H', I', r, q⟩ => by
    obtain ⟨H2, I2, q2⟩ := TH.get I' q
    exact ⟨v, H2, I2, r, q2⟩
end
end L2
namespace L3
open PySem PySem.Spec PyProof.Rows L2
section
variable {K : PySem.W.Frag} {H H' : Hp} {a : Addr}
end
section
variable {K : PySem.W.Frag} {F α : List Addr} {H : Hp} {M : Ms} {a : Addr} {kvs : List (Key × V)} {w w' : HO}
end
noncomputable def er (p : Addr) (H : Hp) : Hp := fun b => if b = p then none else H b
structure Zed (X : Cx) (F α1 : List Addr) (H1 Hf : Hp) (M1 : Ms) (T : Hp → Hp) : Prop where
  ok : OK X.K F α1 Hf M1
  rep : ∀ d v, Rep X.K α1 (hid F α1 M1 H1) d v → Rep X.K α1 (hid F α1 M1 Hf) d v
  e : ∀ α' H' M', Ext F α1 Hf M1 α' H' M' → OK X.K F α' H' M' → Ext F α1 H1 M1 α' (T H') M' ∧ OK X.K F α' (T H') M' ∧ ∀ d v, Rep X.K α' (hid F α' M' H') d v → Rep X.K α' (hid F α' M' (T H')) d v
  h : ∀ α' H' M' (P : Hp → Prop), Ext F α1 Hf M1 α' H' M' → P (T H') → TH X P H'
  c : ∀ p H' x, Hf p = none → H' p = some x → upd (T (er p H')) p x = T H'
  n : ∀ p H', Hf p = none → H' p = none → T H' p = none
  k : ∀ α' H' M' b φ, Ext F α1 Hf M1 α' H' M' → H' b = some (.ext φ) → T H' b = some (.ext φ)
theorem Reps.imp {K : PySem.W.Frag} {α : List Addr} {H H' : Hp} (f : ∀ d v, Rep K α H d v → Rep K α H' d v) : ∀ (ds : List D) (vs : List V), Reps K α H ds vs → Reps K α H' ds vs
  | [], vs, h => by unfold Reps at h ⊢; exact h
  | d :: ds, vs, h => by
    unfold Reps at h ⊢
    obtain ⟨v, r, q, z, y⟩ := h
    exact ⟨v, r, q, f d v z, Reps.imp f ds r y⟩
section
variable {X : Cx} {F α1 : List Addr} {H1 Hf : Hp} {M1 : Ms} {T : Hp → Hp}
theorem Zed.refl (o : OK X.K F α1 H1 M1) : Zed X F α1 H1 H1 M1 id :=
  ⟨o, fun _ _ r => r, fun _ _ _ e o => ⟨e, o, fun _ _ r => r⟩, fun _ _ _ _ _ p => .inl p, fun p H' x _ h => by
    funext b
    show upd (er p H') p x b = H' b
    by_cases z : b = p
    · rw [z, upd_same, h]
    · rw [upd_ne z]; unfold er; rw [if_neg z], fun _ _ _ h => h, fun _ _ _ _ _ _ h => h⟩
theorem Zed.rs (z : Zed X F α1 H1 Hf M1 T) {σ : L2.St} {δ : DSt} (r : R X.K F α1 H1 σ δ M1) : R X.K F α1 Hf σ δ M1 := ⟨z.ok, r.len, fun i d q => by
  obtain ⟨v, h1, h2⟩ := r.sl i d q
  exact ⟨v, h1, z.rep d v h2⟩⟩
theorem Zed.rt (z : Zed X F α1 H1 Hf M1 T) {α' : List Addr} {H' : Hp} {M' : Ms} {σ' : L2.St} {δ' : DSt} (e : Ext F α1 Hf M1 α' H' M') (r' : R X.K F α' H' σ' δ' M') : R X.K F α' (T H') σ' δ' M' := by
  obtain ⟨_, h2, h3⟩ := z.e _ _ _ e r'.ok
  exact ⟨h2, r'.len, fun i d q => by
    obtain ⟨v, q1, q2⟩ := r'.sl i d q
    exact ⟨v, q1, h3 d v q2⟩⟩
end
end L3
set_option Elab.async false
set_option linter.all false
set_option maxRecDepth 100000
set_option maxHeartbeats 4000000
namespace L3
open PySem PySem.Spec PyProof.Rows L2
def RepH (K : PySem.W.Frag) (α : List Addr) (Hh : Hp) : OD → HO → Prop
  | .lst ds, ho => ∃ vs, ho = .lst vs ∧ Reps K α Hh ds vs
  | .dct ks ds, ho => ∃ vs, ho = .dK (ks.zip vs) ∧ ks.length = ds.length ∧ Reps K α Hh ds vs
  | .ins _ _ _, _ => False
  | .fz _ _ _ _, _ => False
noncomputable def OD.toD : OD → D
  | .lst ds => .lst ds
  | .dct ks ds => .dct ks ds
  | .ins C ns ds => .ins C ns ds
  | .fz k _ _ _ => .loc k
abbrev DF := DSt → Ms → (OD → Ms → Prop) → Prop
abbrev fK (K : PySem.W.Frag) (F α : List Addr) (H : Hp) (M : Ms) (Q : VK) : OD → Ms → Prop := fun o M1 => ∀ p ho α1 H1, Ext F α H M α1 H1 M1 → OK K F α1 H1 M1 → H1 p = none → RepH K α1 (hid F α1 M1 H1) o ho → Q (.ref p) (upd H1 p ho)
def lF (K : PySem.W.Frag) (t : DF) : TE := fun σ H Q => ∃ F α δ M, R K F α H σ δ M ∧ t δ M (fK K F α H M Q)
structure JF (X : Cx) (e : Expr) (t : DF) : Prop where
  mono : ∀ δ M (P Q : OD → Ms → Prop), (∀ d M, P d M → Q d M) → t δ M P → t δ M Q
  p : PE X e (lF X.K t)
section
variable {K : PySem.W.Frag} {F α α' : List Addr} {H H' : Hp} {M M' : Ms}
theorem fK.grow {Q : VK} (e : Ext F α H M α' H' M') : ∀ d M'', fK K F α H M Q d M'' → fK K F α' H' M' Q d M'' := fun d M'' h p ho α2 H2 e2 o2 hp r2 => h p ho α2 H2 (e.trans e2) o2 hp r2
theorem fK.frz {Q : VK} {o : OD} {M1 : Ms} (h : vK K F α H M Q o.toD M1) : fK K F α H M Q o M1 := by
  intro p ho α1 H1 e1 o1 hp rh
  have q : vK K F α1 H1 M1 Q o.toD M1 := vK.grow e1 _ _ h
  refine vK.new o1 hp q fun e => ?_
  cases o with
  | lst ds => obtain ⟨vs, rfl, r⟩ := rh; exact rep_lst_new o1 hp r e
  | dct ks ds =>
    obtain ⟨vs, rfl, l, r⟩ := rh
    show Rep K _ _ (.dct ks ds) _
    unfold Rep
    exact ⟨p, vs, rfl, .inl (by show hide _ _ p = _; rw [hide_out (o1.new hp), upd_same]), l, e.reps r⟩
  | ins C ns ds => exact rh.elim
  | fz k ep ks ds => exact rh.elim
theorem fK.own {Q : VK} {o : OD} {M1 : Ms} (h : vK K F α H M Q (.loc M1.length) (M1 ++ [some o])) : fK K F α H M Q o M1 := by
  intro p ho α1 H1 e1 o1 hp rh
  have sm := o1.enter_same (x := o) hp (same_upd (o := ho) hp)
  obtain ⟨o2, e2⟩ := o1.enter (x := o) (H' := upd H1 p ho) hp (same_upd hp) (by
    cases o with
    | lst ds => obtain ⟨vs, rfl, r⟩ := rh; exact ⟨vs, upd_same, Reps.mono (List.prefix_append _ _) sm _ _ r⟩
    | dct ks ds => obtain ⟨vs, rfl, l, r⟩ := rh; exact ⟨vs, upd_same, l, Reps.mono (List.prefix_append _ _) sm _ _ r⟩
    | ins C ns ds => exact rh.elim
    | fz k ep ks ds => exact rh.elim)
  refine h _ _ _ (e1.trans e2) o2 ?_
  unfold Rep
  exact ⟨p, by rw [← o1.ml]; simp, rfl⟩
end
section
variable {X : Cx} {a b c e : Expr} {es rest : List Expr} {ta tb tc te : DE} {tA tB' : DT} {tt : DA} {pos p p2 p3 : Pos} {x : Str} {tf : DF}
def dNew (t : DF) : DE := fun δ M Q => t δ M fun o M1 => Q o.toD M1
def dOwn (t : DF) : DE := fun δ M Q => t δ M fun o M1 => Q (.loc M1.length) (M1 ++ [some o])
theorem j_new (h : JF X e tf) : JE X e (dNew tf) := ⟨fun δ M P Q w q => h.mono δ _ _ _ (fun o M1 q => w _ _ q) q, PE.weak h.p fun σ H Q ⟨F, α, δ, M, r, q⟩ => ⟨F, α, δ, M, r, h.mono δ _ _ _ (fun o M1 q => fK.frz q) q⟩⟩
theorem j_own (h : JF X e tf) : JE X e (dOwn tf) := ⟨fun δ M P Q w q => h.mono δ _ _ _ (fun o M1 q => w _ _ q) q, PE.weak h.p fun σ H Q ⟨F, α, δ, M, r, q⟩ => ⟨F, α, δ, M, r, h.mono δ _ _ _ (fun o M1 q => fK.own q) q⟩⟩
def fLst (tt : DA) : DF := fun δ M Q => tt δ M fun ds M1 => ds.length ≤ sizeLine ∧ Q (.lst ds) M1
theorem jf_lst (h : JA X es tt) : JF X (.List es pos) (fLst tt) := by
  refine ⟨fun δ M P Q w q => h.mono δ _ _ _ (fun ds M1 q => ⟨q.1, w _ _ q.2⟩) q, PE.weak (pe_lst h.p) fun σ H Q q => ?_⟩
  obtain ⟨F, α, δ, M, r, q⟩ := q
  refine ⟨F, α, δ, M, r, h.mono δ _ _ _ (fun ds M1 q vs α1 H1 e1 o1 r1 => ?_) q⟩
  exact ⟨by rw [← Reps.length ds vs r1]; exact q.1, fun p hp => q.2 p _ α1 H1 e1 o1 hp ⟨vs, rfl, r1⟩⟩
end
structure DEnds where
  nx : DSt → Ms → Prop
  rt : DK
  bk : DSt → Ms → Prop
  ct : DSt → Ms → Prop
abbrev DS := DEnds → DSt → Ms → Prop
structure DEnds.le (P Q : DEnds) : Prop where
  nx : ∀ δ M, P.nx δ M → Q.nx δ M
  rt : ∀ d M, P.rt d M → Q.rt d M
  bk : ∀ δ M, P.bk δ M → Q.bk δ M
  ct : ∀ δ M, P.ct δ M → Q.ct δ M
abbrev sK (K : PySem.W.Frag) (F α : List Addr) (H : Hp) (M : Ms) (Q : L2.St → Hp → Prop) : DSt → Ms → Prop := fun δ' M' => ∀ σ' α' H', Ext F α H M α' H' M' → R K F α' H' σ' δ' M' → Q σ' H'
noncomputable def lEnds (K : PySem.W.Frag) (F α : List Addr) (H : Hp) (M : Ms) (E : Ends) : DEnds := ⟨sK K F α H M E.nx, vK K F α H M E.rt, sK K F α H M E.bk, sK K F α H M E.ct⟩
def lS (K : PySem.W.Frag) (t : DS) : TS := fun E σ H => ∃ F α δ M, R K F α H σ δ M ∧ t (lEnds K F α H M E) δ M
section
variable {K : PySem.W.Frag} {F α α' : List Addr} {H H' : Hp} {M M' : Ms}
theorem sK.grow {Q : L2.St → Hp → Prop} (e : Ext F α H M α' H' M') : ∀ d M'', sK K F α H M Q d M'' → sK K F α' H' M' Q d M'' := fun d M'' h v α2 H2 e2 o2 => h v α2 H2 (e.trans e2) o2
theorem lEnds.grow {E : Ends} (e : Ext F α H M α' H' M') : (lEnds K F α H M E).le (lEnds K F α' H' M' E) := ⟨sK.grow e, vK.grow e, sK.grow e, sK.grow e⟩
end
structure JS (X : Cx) (st : Stmt) (t : DS) : Prop where
  mono : ∀ (P Q : DEnds) δ M, P.le Q → t P δ M → t Q δ M
  p : PS X st (lS X.K t)
structure JB' (X : Cx) (st : List Stmt) (t : DS) : Prop where
  mono : ∀ (P Q : DEnds) δ M, P.le Q → t P δ M → t Q δ M
  p : PSs X st (lS X.K t)
section
variable {X : Cx} {c e : Expr} {te : DE} {tA : DT} {t u : DS} {pos p p2 : Pos} {x : Str} {st : Stmt} {sts as bs : List Stmt}
def dNext : DS := fun E δ M => E.nx δ M
def dSeq (t u : DS) : DS := fun E δ M => t { E with nx := u E } δ M
theorem jb_nil : JB' X [] dNext := ⟨fun P Q δ M w q => w.nx _ _ q, PSs.weak pss_nil fun E σ H ⟨F, α, δ, M, r, q⟩ => q σ α H Ext.refl r⟩
theorem jb_one (h : JS X st t) : JB' X [st] t := ⟨h.mono, pss_one h.p⟩
theorem jb_cons (h1 : JS X st t) (h2 : JB' X sts u) : JB' X (st :: sts) (dSeq t u) := by
  refine ⟨fun P Q δ M w q => h1.mono { P with nx := u P } { Q with nx := u Q } _ _ ⟨fun δ M q => h2.mono _ _ _ _ w q, w.rt, w.bk, w.ct⟩ q, PSs.weak (pss_cons h1.p h2.p) fun E σ H q => ?_⟩
  obtain ⟨F, α, δ, M, r, q⟩ := q
  refine ⟨F, α, δ, M, r, h1.mono { lEnds X.K F α H M E with nx := u (lEnds X.K F α H M E) } _ _ _ ⟨fun δ1 M1 q σ1 α1 H1 e1 r1 => ⟨F, α1, δ1, M1, r1, h2.mono _ _ _ _ (lEnds.grow e1) q⟩, fun _ _ q => q, fun _ _ q => q, fun _ _ q => q⟩ q⟩
def dRet (te : DE) : DS := fun E δ M => te δ M E.rt
theorem js_ret (he : JE X e te) : JS X (.Return (some e) pos) (dRet te) := ⟨fun P Q δ M w q => he.mono δ _ _ _ w.rt q, PS.weak (ps_ret he.p) fun E σ H ⟨F, α, δ, M, r, q⟩ => ⟨F, α, δ, M, r, q⟩⟩
def dNever : DS := fun _ _ _ => False
theorem js_never : JS X st dNever := ⟨fun P Q δ M w q => q, PS.weak ps_never fun E σ H ⟨F, α, δ, M, r, q⟩ => q⟩
def dIfS (c : DT) (t u : DS) : DS := fun E δ M => c δ M fun b M1 => if b = true then t E δ M1 else u E δ M1
theorem js_if (hc : JT X c tA) (ha : JB' X as t) (hb : JB' X bs u) : JS X (.If c as bs pos) (dIfS tA t u) := by
  refine ⟨fun P Q δ M w q => hc.mono δ _ _ _ (fun b M1 q => ?_) q, PS.weak (ps_if hc.p ha.p hb.p) fun E σ H q => ?_⟩
  · cases b with
    | true => rw [if_pos rfl] at q ⊢; exact ha.mono _ _ _ _ w q
    | false => rw [if_neg Bool.false_ne_true] at q ⊢; exact hb.mono _ _ _ _ w q
  · obtain ⟨F, α, δ, M, r, q⟩ := q
    refine ⟨F, α, δ, M, r, hc.mono δ _ _ _ (fun b M1 q α1 H1 e1 o1 => ?_) q⟩
    cases b with
    | true =>
      rw [if_pos rfl] at q
      show (if true = true then _ else _)
      rw [if_pos rfl]
      exact ⟨F, α1, δ, M1, r.grow e1 o1, ha.mono _ _ _ _ (lEnds.grow e1) q⟩
    | false =>
      rw [if_neg Bool.false_ne_true] at q
      show (if false = true then _ else _)
      rw [if_neg Bool.false_ne_true]
      exact ⟨F, α1, δ, M1, r.grow e1 o1, hb.mono _ _ _ _ (lEnds.grow e1) q⟩
def dDrop (te : DE) : DS := fun E δ M => te δ M fun _ M1 => E.nx δ M1
theorem js_expr (he : JE X e te) (hs : swapsWith e none pos.line X.env = pure false := by rfl) : JS X (.Expr e pos) (dDrop te) := by
  refine ⟨fun P Q δ M w q => he.mono δ _ _ _ (fun d M1 q => w.nx _ _ q) q, PS.weak (ps_expr he.p hs) fun E σ H q => ?_⟩
  obtain ⟨F, α, δ, M, r, q⟩ := q
  exact ⟨F, α, δ, M, r, he.mono δ _ _ _ (fun d M1 q v α1 H1 e1 o1 r1 => q σ α1 H1 e1 (r.grow e1 o1)) q⟩
def dSet (i : Nat) (te : DE) : DS := fun E δ M => te δ M fun d M1 => E.nx (δ.set i (some d)) M1
theorem js_set (i : Nat) (hN : X.N.Nodup) (he : JE X e te) (hi : X.N[i]? = some x := by rfl) (hx : Loc X.env.scope x := by first | exact Or.inl rfl | exact Or.inr rfl) (hs : swapsWith e (some (.Name x p)) pos.line X.env = pure false := by rfl)
    (hf : X.fn x = true ∨ X.env.scope.names.lookup x = some .local := by first | exact .inl rfl | exact .inr rfl | assumption) : JS X (.Assign [.Name x p] e pos) (dSet i te) := by
  refine ⟨fun P Q δ M w q => he.mono δ _ _ _ (fun d M1 q => w.nx _ _ q) q, PS.weak (ps_set hN hi hx he.p hs hf) fun E σ H q => ?_⟩
  obtain ⟨F, α, δ, M, r, q⟩ := q
  exact ⟨F, α, δ, M, r, he.mono δ _ _ _ (fun d M1 q v α1 H1 e1 o1 r1 => q _ α1 H1 e1 ((r.grow e1 o1).set r1)) q⟩
abbrev DG := D → DSt → Ms → (DSt → Ms → Prop) → Prop
abbrev DGs := List D → DSt → Ms → (DSt → Ms → Prop) → Prop
def lG (K : PySem.W.Frag) (g : DG) : TG := fun v σ H Q => ∃ F α δ M d, R K F α H σ δ M ∧ Rep K α (hid F α M H) d v ∧ g d δ M (sK K F α H M Q)
def lGs (K : PySem.W.Frag) (g : DGs) : TGs := fun vs σ H Q => ∃ F α δ M ds, R K F α H σ δ M ∧ Reps K α (hid F α M H) ds vs ∧ g ds δ M (sK K F α H M Q)
structure JG (X : Cx) (tg : Expr) (g : DG) : Prop where
  mono : ∀ d δ M (P Q : DSt → Ms → Prop), (∀ δ M, P δ M → Q δ M) → g d δ M P → g d δ M Q
  p : PG X tg (lG X.K g)
structure JGs (X : Cx) (tg : List Expr) (g : DGs) : Prop where
  mono : ∀ d δ M (P Q : DSt → Ms → Prop), (∀ δ M, P δ M → Q δ M) → g d δ M P → g d δ M Q
  p : PGs X tg (lGs X.K g)
theorem PG.weak {tg : Expr} {g g' : TG} (h : PG X tg g) (w : ∀ v σ H Q, g' v σ H Q → g v σ H Q) : PG X tg g' := fun pins s σ H v u Q I r q => h pins s σ H v u Q I r (w v σ H Q q)
theorem PGs.weak {tg : List Expr} {g g' : TGs} (h : PGs X tg g) (w : ∀ v σ H Q, g' v σ H Q → g v σ H Q) : PGs X tg g' := fun pins s σ H v u Q I r q => h pins s σ H v u Q I r (w v σ H Q q)
def dgName (i : Nat) : DG := fun d δ M Q => Q (δ.set i (some d)) M
theorem jg_name (i : Nat) (hN : X.N.Nodup) (hi : X.N[i]? = some x := by rfl) (hx : Loc X.env.scope x := by first | exact Or.inl rfl | exact Or.inr rfl) (hf : X.fn x = true ∨ X.env.scope.names.lookup x = some .local := by first | exact .inl rfl | exact .inr rfl | assumption) : JG X (.Name x pos) (dgName i) :=
  ⟨fun d δ M P Q w q => w _ _ q, PG.weak (pg_name hN hi hx hf) fun v σ H Q ⟨F, α, δ, M, d, r, rd, q⟩ => q _ α H Ext.refl (r.set rd)⟩
def dgNil : DGs := fun ds δ M Q => ds = [] ∧ Q δ M
def dgCons (g : DG) (gs : DGs) : DGs := fun ds δ M Q => match ds with | d :: r => g d δ M fun δ1 M1 => gs r δ1 M1 Q | [] => False
theorem jgs_nil : JGs X [] dgNil := ⟨fun d δ M P Q w q => ⟨q.1, w _ _ q.2⟩, PGs.weak pgs_nil fun v σ H Q ⟨F, α, δ, M, ds, r, rd, e, q⟩ => by
  subst e; unfold Reps at rd; exact ⟨rd, q σ α H Ext.refl r⟩⟩
theorem jgs_cons {g : DG} {gs : DGs} {es : List Expr} (h1 : JG X e g) (h2 : JGs X es gs) (hs : (assignEach (e :: es) X.env).map (·.2) = assign e X.env :: (assignEach es X.env).map (·.2) := by rfl) : JGs X (e :: es) (dgCons g gs) := by
  refine ⟨fun d δ M P Q w q => ?_, PGs.weak (pgs_cons h1.p h2.p hs) fun v σ H Q q => ?_⟩
  · cases d with
    | nil => exact q.elim
    | cons d r => exact h1.mono _ _ _ _ _ (fun δ M q => h2.mono _ _ _ _ _ w q) q
  · obtain ⟨F, α, δ, M, ds, r, rd, q⟩ := q
    cases ds with
    | nil => exact q.elim
    | cons d dr =>
      unfold Reps at rd
      obtain ⟨v1, vr, rfl, r1, r2⟩ := rd
      refine ⟨v1, vr, rfl, F, α, δ, M, d, r, r1, h1.mono _ _ _ _ _ (fun δ1 M1 q σ1 α1 H1 e1 R1 => ?_) q⟩
      exact ⟨F, α1, δ1, M1, dr, R1, e1.reps r2, h2.mono _ _ _ _ _ (sK.grow e1) q⟩
def dgTup (n : Nat) (gs : DGs) : DG := fun d δ M Q => match d with | .tup ds => ds.length = n ∧ gs ds δ M Q | _ => False
theorem jg_tup {es : List Expr} {k n : Nat} {gs : DGs} (h : JGs X es gs) (hc : X.calm = true := by rfl) (hn : (assignEach es X.env).length = n := by rfl) (hst : (assignEach es X.env).findIdx? (·.1) = none := by rfl) : JG X (.Tuple es k pos) (dgTup n gs) := by
  refine ⟨fun d δ M P Q w q => ?_, PG.weak (pg_tup hc h.p hn hst) fun v σ H Q q => ?_⟩
  · cases d <;> first | exact q.elim | exact ⟨q.1, h.mono _ _ _ _ _ w q.2⟩
  · obtain ⟨F, α, δ, M, d, r, rd, q⟩ := q
    cases d <;> first | exact q.elim | skip
    unfold Rep at rd
    obtain ⟨a, vs, rfl, sq, z⟩ := rd
    exact ⟨a, vs, rfl, same_seqT hide_same sq, by rw [← Reps.length _ _ z]; exact q.1, F, α, δ, M, _, r, z, q.2⟩
def dAsg (te : DE) (g : DG) : DS := fun E δ M => te δ M fun d M1 => g d δ M1 E.nx
theorem js_asg {tg : Expr} {g : DG} (he : JE X e te) (hg : JG X tg g) (hs : swapsWithSole [tg] e pos.line X.env = pure false := by rfl) (hw : swappedStores [tg] e X.env = pure none := by rfl)
    (h1 : (assignEach [tg] X.env).map (·.2) = [assign tg X.env] := by rfl) : JS X (.Assign [tg] e pos) (dAsg te g) := by
  refine ⟨fun P Q δ M w q => he.mono δ _ _ _ (fun d M1 q => hg.mono _ _ _ _ _ w.nx q) q, PS.weak (ps_asg he.p hg.p hs hw h1) fun E σ H q => ?_⟩
  obtain ⟨F, α, δ, M, r, q⟩ := q
  refine ⟨F, α, δ, M, r, he.mono δ _ _ _ (fun d M1 q v α1 H1 e1 o1 r1 => ?_) q⟩
  exact ⟨F, α1, δ, M1, d, r.grow e1 o1, r1, hg.mono _ _ _ _ _ (sK.grow e1) q⟩
structure ItOK (K : PySem.W.Frag) (F α1 : List Addr) (H1 : Hp) (M1 : Ms) (J : It) (items : List D) (st : Ms → Prop) : Prop where
  go : ∀ i F' α' H' M', α1 <+: α' → Same (hid F α1 M1 H1) (hid F' α' M' H') → OK K F' α' H' M' → st M' → i < items.length → J.go i H'
  yld : ∀ (i : Nat) F' α' H' M' x H2 d, α1 <+: α' → Same (hid F α1 M1 H1) (hid F' α' M' H') → OK K F' α' H' M' → st M' → items[i]? = some d → J.yld i H' x H2 → OK K F' α' H2 M' ∧ Ext F' α' H' M' α' H2 M' ∧ Rep K α' (hid F' α' M' H2) d x
  stop : ∀ F' α' H' M', α1 <+: α' → Same (hid F α1 M1 H1) (hid F' α' M' H') → OK K F' α' H' M' → st M' → J.stop items.length H'
abbrev DI := DSt → Ms → (List D → (Ms → Prop) → Ms → Prop) → Prop
abbrev iK (X : Cx) (F α : List Addr) (H : Hp) (M : Ms) (Q : It → Hp → Prop) : List D → (Ms → Prop) → Ms → Prop := fun items st M1 => ∀ J α1 H1 Hf T, Ext F α H M α1 H1 M1 → OK X.K F α1 H1 M1 → Zed X F α1 H1 Hf M1 T → ItOK X.K F α1 Hf M1 J items st → Q J Hf
def lI (X : Cx) (t : DI) : TI := fun σ H Q => ∃ F α δ M, R X.K F α H σ δ M ∧ t δ M (iK X F α H M Q)
structure JI (X : Cx) (tg e : Expr) (t : DI) : Prop where
  mono : ∀ δ M (P Q : List D → (Ms → Prop) → Ms → Prop), (∀ l s M, P l s M → Q l s M) → t δ M P → t δ M Q
  p : PI X tg e (lI X t)
theorem PI.weak {tg : Expr} {t t' : TI} (h : PI X tg e t) (w : ∀ σ H Q, t' σ H Q → t σ H Q) : PI X tg e t' := fun pins s σ H Q I q => h pins s σ H Q I (w σ H Q q)
def forD (g : DG) (tb : DS) (st : Ms → Prop) (E : DEnds) : List D → DSt → Ms → Prop
  | [] => fun δ M => E.nx δ M
  | x :: xs => fun δ M => g x δ M fun δ1 M1 => tb { E with nx := fun δ' M' => st M' ∧ forD g tb st E xs δ' M', ct := fun δ' M' => st M' ∧ forD g tb st E xs δ' M', bk := E.nx } δ1 M1
def dFor (ti : DI) (g : DG) (tb : DS) : DS := fun E δ M => ti δ M fun items st M1 => st M1 ∧ forD g tb st E items δ M1
theorem forD_mono {g : DG} {tb : DS} {st : Ms → Prop} (hg : ∀ d δ M (P Q : DSt → Ms → Prop), (∀ δ M, P δ M → Q δ M) → g d δ M P → g d δ M Q) (hb : ∀ (P Q : DEnds) δ M, P.le Q → tb P δ M → tb Q δ M) {P Q : DEnds} (w : P.le Q) : ∀ xs δ M, forD g tb st P xs δ M → forD g tb st Q xs δ M
  | [], δ, M, q => w.nx _ _ q
  | x :: xs, δ, M, q => hg _ _ _ _ _ (fun δ1 M1 q => hb { P with nx := fun δ' M' => st M' ∧ forD g tb st P xs δ' M', ct := fun δ' M' => st M' ∧ forD g tb st P xs δ' M', bk := P.nx } { Q with nx := fun δ' M' => st M' ∧ forD g tb st Q xs δ' M', ct := fun δ' M' => st M' ∧ forD g tb st Q xs δ' M', bk := Q.nx } _ _ ⟨fun δ' M' q => ⟨q.1, forD_mono hg hb w xs δ' M' q.2⟩, w.rt, w.nx, fun δ' M' q => ⟨q.1, forD_mono hg hb w xs δ' M' q.2⟩⟩ q) q
theorem js_for {tg : Expr} {body : List Stmt} {ti : DI} {g : DG} {tb : DS} (hi : JI X tg e ti) (hg : JG X tg g) (hb : JB' X body tb) (hp : PassesOwn (model X.prog X.w) X.A X.env X.xe := by exact PassesOwn.never) (hc : X.calm = true := by rfl)
    (hs : ∀ x, foldedSetIterable e X.env x = pure x := by intro _; rfl) : JS X (.For tg e body [] pos) (dFor ti g tb) := by
  refine ⟨fun P Q δ M w q => hi.mono δ _ _ _ (fun items st M1 q => ⟨q.1, forD_mono hg.mono hb.mono w _ _ _ q.2⟩) q, ps_ghost (ps_for hp hc hi.p hg.p hb.p hs) fun E σ H q => ?_⟩
  obtain ⟨F, α, δ, M, r, q⟩ := q
  refine ⟨F, α, δ, M, r, hi.mono δ _ _ _ (fun items st M1 q J α1 H1 Hf T e1 o1 z it => ?_) q⟩
  obtain ⟨s1, q⟩ := q
  refine ⟨fun i m σ' H' => m = items.length - i ∧ i ≤ items.length ∧ ∃ α' δ' M', Ext F α1 Hf M1 α' H' M' ∧ R X.K F α' H' σ' δ' M' ∧ st M' ∧ forD g tb st (lEnds X.K F α H M E) (items.drop i) δ' M', ⟨_, rfl, Nat.zero_le _, α1, δ, M1, Ext.refl, z.rs (r.grow e1 o1), s1, q⟩, ?_⟩
  rintro i m σ' H' ⟨rfl, hi', α', δ', M', e', r', s', q'⟩
  by_cases hlt : i < items.length
  · rw [List.drop_eq_getElem_cons hlt] at q'
    refine .inr ⟨it.go i F α' H' M' e'.pre e'.same r'.ok s' hlt, fun σ2 H2 => ∃ α2 δ2 M2, Ext F α1 Hf M1 α2 H2 M2 ∧ R X.K F α2 H2 σ2 δ2 M2 ∧ st M2 ∧ forD g tb st (lEnds X.K F α H M E) (items.drop (i + 1)) δ2 M2, fun σ2 H2 h => ⟨_, by omega, rfl, hlt, h⟩, fun x H2 y => ?_⟩
    obtain ⟨o2, e2, rx⟩ := it.yld i F α' H' M' x H2 items[i] e'.pre e'.same r'.ok s' (by simp [hlt]) y
    refine ⟨F, α', δ', M', items[i], r'.grow e2 o2, rx, hg.mono _ _ _ _ _ (fun δ3 M3 q3 σ3 α3 H3 e3 r3 => ⟨F, α3, δ3, M3, r3, hb.mono _ _ _ _ ?_ q3⟩) q'⟩
    have e13 := (e'.trans e2).trans e3
    refine ⟨fun δ4 M4 q4 σ4 α4 H4 e4 r4 => ⟨α4, δ4, M4, e13.trans e4, r4, q4⟩, fun d M4 q4 v α4 H4 e4 o4 r4 => ?_, fun δ4 M4 q4 σ4 α4 H4 e4 r4 => ?_, fun δ4 M4 q4 σ4 α4 H4 e4 r4 => ⟨α4, δ4, M4, e13.trans e4, r4, q4⟩⟩
    · obtain ⟨t1, t2, t3⟩ := z.e α4 H4 M4 (e13.trans e4) o4
      exact z.h α4 H4 M4 _ (e13.trans e4) (q4 v α4 (T H4) (e1.trans t1) t2 (t3 d v r4))
    · obtain ⟨t1, _, _⟩ := z.e α4 H4 M4 (e13.trans e4) r4.ok
      exact z.h α4 H4 M4 _ (e13.trans e4) (q4 σ4 α4 (T H4) (e1.trans t1) (z.rt (e13.trans e4) r4))
  · have e : i = items.length := by omega
    subst e
    rw [List.drop_length] at q'
    obtain ⟨t1, _, _⟩ := z.e α' H' M' e' r'.ok
    exact .inl ⟨it.stop F α' H' M' e'.pre e'.same r'.ok s', z.h α' H' M' _ e' (q' σ' α' (T H') (e1.trans t1) (z.rt e' r'))⟩
end
end L3
set_option Elab.async false
set_option linter.all false
set_option maxRecDepth 100000
set_option maxHeartbeats 4000000
namespace L3
open PySem PySem.Spec PyProof.Rows L2
mutual
noncomputable def nl : D → Bool
  | .non | .bl _ | .int _ | .str _ | .ty _ | .scr _ | .cls _ => true
  | .loc _ => false
  | .tup ds | .lst ds | .dct _ ds | .ins _ _ ds | .exc _ _ ds => nls ds
noncomputable def nls : List D → Bool
  | [] => true
  | d :: ds => nl d && nls ds
end
mutual
theorem Rep.nl {K : PySem.W.Frag} {α β : List Addr} {H : Hp} : ∀ (d : D) (v : V), L3.nl d = true → Rep K α H d v → Rep K β H d v
  | .non, v, _, h => by unfold Rep at h ⊢; exact h
  | .bl _, v, _, h => by unfold Rep at h ⊢; exact h
  | .int _, v, _, h => by unfold Rep at h ⊢; exact h
  | .str _, v, _, h => by unfold Rep at h ⊢; exact h
  | .ty _, v, _, h => by unfold Rep at h ⊢; exact h
  | .scr _, v, _, h => by unfold Rep at h ⊢; exact h
  | .cls _, v, _, h => by unfold Rep at h ⊢; exact h
  | .loc _, v, n, h => by unfold L3.nl at n; cases n
  | .tup ds, v, n, h => by
    unfold Rep at h ⊢; unfold L3.nl at n
    obtain ⟨a, vs, r, q, z⟩ := h
    exact ⟨a, vs, r, q, Reps.nl ds vs n z⟩
  | .lst ds, v, n, h => by
    unfold Rep at h ⊢; unfold L3.nl at n
    obtain ⟨a, vs, r, q, z⟩ := h
    exact ⟨a, vs, r, q, Reps.nl ds vs n z⟩
  | .dct ks ds, v, n, h => by
    unfold Rep at h ⊢; unfold L3.nl at n
    obtain ⟨a, vs, r, q, l, z⟩ := h
    exact ⟨a, vs, r, q, l, Reps.nl ds vs n z⟩
  | .ins C ns ds, v, n, h => by
    unfold Rep at h ⊢; unfold L3.nl at n
    obtain ⟨a, dx, vs, r, q, l, z⟩ := h
    exact ⟨a, dx, vs, r, q, l, Reps.nl ds vs n z⟩
  | .exc C ns ds, v, n, h => by
    unfold Rep at h ⊢; unfold L3.nl at n
    obtain ⟨a, vs, r, q, l, z⟩ := h
    exact ⟨a, vs, r, q, l, Reps.nl ds vs n z⟩
theorem Reps.nl {K : PySem.W.Frag} {α β : List Addr} {H : Hp} : ∀ (d : List D) (v : List V), L3.nls d = true → Reps K α H d v → Reps K β H d v
  | [], v, _, h => by unfold Reps at h ⊢; exact h
  | d :: ds, v, n, h => by
    unfold Reps at h ⊢
    unfold L3.nls at n
    rw [Bool.and_eq_true] at n
    obtain ⟨u, r, q, z, y⟩ := h
    exact ⟨u, r, q, Rep.nl d u n.1 z, Reps.nl ds r n.2 y⟩
end
theorem nls_all : ∀ ds : List D, nls ds = ds.all nl
  | [] => rfl
  | d :: ds => by unfold nls; rw [List.all_cons, nls_all ds]
theorem nls_map {β : Type} {f : β → D} (h : ∀ b, nl (f b) = true) (l : List β) : nls (l.map f) = true := by rw [nls_all]; simp [h]
noncomputable def vwk (k : Nat) : Option (Option OD) → D
  | some (some o) => o.toD
  | _ => .loc k
noncomputable def vw (M : Ms) : D → D
  | .loc k => vwk k M[k]?
  | d => d
noncomputable def fz (M : Ms) : D → D
  | .tup ds => .tup (ds.map (vw M))
  | d => vw M d
section
variable {K : PySem.W.Frag} {F α : List Addr} {H : Hp} {M : Ms}
theorem hid_sub : Same (hid F α M H) (hide F H) := fun b o e => by
  obtain ⟨z, q⟩ := hide_some e
  exact hide_go e (fun w => z (List.mem_append_right _ w)) q
theorem OK.notF (o : OK K F α H M) {a : Addr} (h : a ∈ α) : a ∉ F := fun w => (o.fr a w).1 h
theorem rep_vw (o : OK K F α H M) : ∀ (d : D) (v : V), Rep K α (hid F α M H) d v → Rep K α (hide F H) (vw M d) v := fun d v h => by
  have gen : Rep K α (hide F H) d v := Rep.mono (List.prefix_refl _) hid_sub d v h
  cases d with
  | loc k =>
    show Rep K α _ (vwk k M[k]?) v
    cases e : M[k]? with
    | none => exact gen
    | some x =>
      cases x with
      | none => exact gen
      | some y =>
        obtain ⟨a, ea, ra⟩ := o.own k y e
        unfold Rep at h
        obtain ⟨a', ea', rfl⟩ := h
        rw [ea] at ea'; cases ea'
        have hF : a ∉ F := o.notF (List.mem_of_getElem? ea)
        cases y with
        | lst ds =>
          obtain ⟨vs, q, r⟩ := ra
          show Rep K α _ (.lst ds) _
          unfold Rep
          exact ⟨a, vs, rfl, hide_mk hF q rfl, Reps.mono (List.prefix_refl _) hid_sub _ _ r⟩
        | dct ks ds =>
          obtain ⟨vs, q, l, r⟩ := ra
          show Rep K α _ (.dct ks ds) _
          unfold Rep
          exact ⟨a, vs, rfl, .inl (hide_mk hF q rfl), l, Reps.mono (List.prefix_refl _) hid_sub _ _ r⟩
        | ins C ns ds =>
          obtain ⟨dx, vs, q, l, r⟩ := ra
          show Rep K α _ (.ins C ns ds) _
          unfold Rep
          exact ⟨a, dx, vs, rfl, hide_mk hF q rfl, l, Reps.mono (List.prefix_refl _) hid_sub _ _ r⟩
        | fz j ep ks ds =>
          show Rep K α _ (.loc j) _
          unfold Rep
          exact ⟨a, ra.1, rfl⟩
  | _ => exact gen
theorem vw_loc {k : Nat} {d : D} (e : vw M (.loc k) = d) : d = .loc k ∨ ∃ o, M[k]? = some (some o) ∧ d = o.toD := by
  have e : vwk k M[k]? = d := e
  cases h : M[k]? with
  | none => rw [h] at e; exact .inl e.symm
  | some x =>
    cases x with
    | none => rw [h] at e; exact .inl e.symm
    | some o => rw [h] at e; exact .inr ⟨o, rfl, e.symm⟩
theorem reps_vw (o : OK K F α H M) : ∀ (ds : List D) (vs : List V), Reps K α (hid F α M H) ds vs → Reps K α (hide F H) (ds.map (vw M)) vs
  | [], vs, h => by unfold Reps at h; subst h; exact Reps.nil
  | d :: ds, vs, h => by
    unfold Reps at h
    obtain ⟨v, r, rfl, z, y⟩ := h
    exact Reps.cons (rep_vw o d v z) (reps_vw o ds r y)
theorem rep_fz (o : OK K F α H M) : ∀ (d : D) (v : V), Rep K α (hid F α M H) d v → Rep K α (hide F H) (fz M d) v := fun d v h => by
  cases d with
  | tup ds =>
    unfold Rep at h
    obtain ⟨a, vs, rfl, sq, z⟩ := h
    show Rep K α _ (.tup _) _
    unfold Rep
    exact ⟨a, vs, rfl, same_seqT hid_sub sq, reps_vw o _ _ z⟩
  | _ => exact rep_vw o _ v h
theorem rd_lst (o : OK K F α H M) {d : D} {v : V} {ds : List D} (h : Rep K α (hid F α M H) d v) (e : vw M d = .lst ds) : ∃ a vs, v = .ref a ∧ H a = some (.lst vs) ∧ Reps K α (hid F α M H) ds vs := by
  cases d with
  | lst es =>
    cases (show (D.lst es) = .lst ds from e)
    unfold Rep at h
    obtain ⟨a, vs, rfl, q, z⟩ := h
    exact ⟨a, vs, rfl, hide_same _ _ q, z⟩
  | loc k =>
    rcases vw_loc e with e | ⟨x, hk, e⟩
    · cases e
    · cases x <;> cases e
      obtain ⟨a, ea, vs, q, r⟩ := o.own k _ hk
      unfold Rep at h
      obtain ⟨a', ea', rfl⟩ := h
      rw [ea] at ea'; cases ea'
      exact ⟨a, vs, rfl, q, r⟩
  | _ => cases e
theorem _root_.L2.DGet.kr {H : Hp} {a : Addr} {kvs : List (Key × V)} {k : Key} (e : Rd H a (.dK kvs)) : DGet H a (kV k) (valV kvs k) := .inl ⟨kvs, k, e, rfl, rfl⟩
theorem rd_dct (o : OK K F α H M) {d : D} {v : V} {ks : List Key} {ds : List D} (h : Rep K α (hid F α M H) d v) (e : vw M d = .dct ks ds) : ∃ a vs, v = .ref a ∧ Rd H a (.dK (ks.zip vs)) ∧ ks.length = ds.length ∧ Reps K α (hid F α M H) ds vs := by
  cases d with
  | dct ls es =>
    cases (show (D.dct ls es) = .dct ks ds from e)
    unfold Rep at h
    obtain ⟨a, vs, rfl, q, l, z⟩ := h
    exact ⟨a, vs, rfl, same_rd hide_same q, l, z⟩
  | loc k =>
    rcases vw_loc e with e | ⟨x, hk, e⟩
    · cases e
    · cases x <;> cases e
      obtain ⟨a, ea, vs, q, l, r⟩ := o.own k _ hk
      unfold Rep at h
      obtain ⟨a', ea', rfl⟩ := h
      rw [ea] at ea'; cases ea'
      exact ⟨a, vs, rfl, .inl q, l, r⟩
  | _ => cases e
theorem rd_ins (o : OK K F α H M) {d : D} {v : V} {C : Addr} {ns : List Str} {ds : List D} (h : Rep K α (hid F α M H) d v) (e : vw M d = .ins C ns ds) : ∃ a dx vs, v = .ref a ∧ H a = some (.ins C dx (ns.zip vs)) ∧ ns.length = ds.length ∧ Reps K α (hid F α M H) ds vs := by
  cases d with
  | ins C' ls es =>
    cases (show (D.ins C' ls es) = .ins C ns ds from e)
    unfold Rep at h
    obtain ⟨a, dx, vs, rfl, q, l, z⟩ := h
    exact ⟨a, dx, vs, rfl, hide_same _ _ q, l, z⟩
  | loc k =>
    rcases vw_loc e with e | ⟨x, hk, e⟩
    · cases e
    · cases x <;> cases e
      obtain ⟨a, ea, dx, vs, q, l, r⟩ := o.own k _ hk
      unfold Rep at h
      obtain ⟨a', ea', rfl⟩ := h
      rw [ea] at ea'; cases ea'
      exact ⟨a, dx, vs, rfl, q, l, r⟩
  | _ => cases e
theorem vw_tup {d : D} {ds : List D} (e : vw M d = .tup ds) : d = .tup ds := by
  cases d with
  | loc k => rcases vw_loc e with e | ⟨x, hk, e⟩ <;> first | cases e | (cases x <;> cases e)
  | _ => exact e
theorem vw_str {d : D} {x : Str} (e : vw M d = .str x) : d = .str x := by
  cases d with
  | loc k => rcases vw_loc e with e | ⟨x, hk, e⟩ <;> first | cases e | (cases x <;> cases e)
  | _ => exact e
theorem vw_scr {d : D} {x : List Int} (e : vw M d = .scr x) : d = .scr x := by
  cases d with
  | loc k => rcases vw_loc e with e | ⟨x, hk, e⟩ <;> first | cases e | (cases x <;> cases e)
  | _ => exact e
theorem vw_int {d : D} {x : Int} (e : vw M d = .int x) : d = .int x := by
  cases d with
  | loc k => rcases vw_loc e with e | ⟨x, hk, e⟩ <;> first | cases e | (cases x <;> cases e)
  | _ => exact e
theorem rd_tup (o : OK K F α H M) {d : D} {v : V} {ds : List D} (h : Rep K α (hid F α M H) d v) (e : vw M d = .tup ds) : ∃ a vs, v = .ref a ∧ SqT K H a vs ∧ Reps K α (hid F α M H) ds vs := by
  cases vw_tup e
  unfold Rep at h
  obtain ⟨a, vs, rfl, q, z⟩ := h
  exact ⟨a, vs, rfl, same_seqT hide_same q, z⟩
end
abbrev GP := List D → (D → Prop) → Prop
def cl (g : GP) : GN := fun ds M Q => nls ds = true ∧ g ds fun d => Q d M
abbrev monoP (g : GP) : Prop := ∀ ds (P Q : D → Prop), (∀ d, P d → Q d) → g ds P → g ds Q
theorem cl_mono {g : GP} (m : monoP g) : monoN (cl g) := fun xs M P Q w q => ⟨q.1, m _ _ _ (fun d q => w _ _ q) q.2⟩
noncomputable def startD (n : Nat) (ds : List D) : DSt := ds.map some ++ List.replicate (n - ds.length) none
def fnG (n m : Nat) (tb : DS) : GN := fun ds M Q => ds.length = m ∧ tb ⟨fun _ M' => Q .non M', Q, fun _ _ => False, fun _ _ => False⟩ (startD n ds) M
def fnC (n m : Nat) (tb : DS) : GP := fun ds Q => ds.length = m ∧ tb ⟨fun _ _ => Q .non, fun d M' => nl (fz M' d) = true ∧ Q (fz M' d), fun _ _ => False, fun _ _ => False⟩ (startD n ds) []
section
variable {P : Program} {w : World} {K : PySem.W.Frag} {mg : Str → Option Value} {base : Heap}
theorem r_start {F α : List Addr} {H : Hp} {M : Ms} {N : List Str} {ds : List D} {vs : List V} (o : OK K F α H M) (r : Reps K α (hid F α M H) ds vs) : R K F α H (L2.start N vs) (startD N.length ds) M := by
  have hl := Reps.length _ _ r
  refine ⟨o, by simp [L2.start, startD, hl], fun i d h => ?_⟩
  unfold startD at h
  by_cases hi : i < ds.length
  · rw [List.getElem?_append_left (by simpa using hi)] at h
    rw [List.getElem?_map] at h
    cases e : ds[i]? with
    | none => rw [e] at h; cases h
    | some x =>
      rw [e] at h
      cases h
      obtain ⟨v, e1, r1⟩ := Reps.get ds vs i d r e
      refine ⟨v, ?_, r1⟩
      unfold L2.start
      rw [List.getElem?_append_left (by simp; omega), List.getElem?_map, e1]; rfl
  · rw [List.getElem?_append_right (by simp; omega)] at h
    have := List.mem_of_getElem? h
    rw [List.mem_replicate] at this
    cases this.2
theorem body_G {n : List Str} {ps : List Str} {X : Cx} {body : List Stmt} {tb : DS} (hJ : JB' X body tb) {H : Hp} {vs : List V} {Q : VK} {E : XK} (hK : X.K = K) (h : lSp K (fnG n.length ps.length tb) vs H Q E) :
    ∃ t, QB X body t ∧ t { nx := fun _ H' => Q .non H', rt := Q } (L2.start n vs) H := by
  subst hK
  obtain ⟨F, α, M, ds, o, r, hl, q⟩ := h
  refine ⟨_, ⟨hJ.p⟩, F, α, startD n.length ds, M, r_start o r, ?_⟩
  refine hJ.mono _ _ _ _ ?_ q
  exact ⟨fun δ M' q σ' α' H' e r => q _ α' H' e r.ok rep_non, fun _ _ q => q, fun _ _ q => q.elim, fun _ _ q => q.elim⟩
theorem closed_end {F α : List Addr} {H : Hp} {M : Ms} {α2 : List Addr} {H2 : Hp} {M2 : Ms} (o : OK K F α H M) (e2 : Ext (lv α M ++ F) [] H [] α2 H2 M2) (o2 : OK K (lv α M ++ F) α2 H2 M2) : Ext F α H M α H2 M ∧ OK K F α H2 M := by
  have sm : Same (hid F α M H) (hid F α M H2) := fun b x h => hid_sub _ _ (e2.same b x (by
    show hide (lv [] [] ++ (lv α M ++ F)) H b = _
    exact h))
  have fr : ∀ a ∈ lv α M ++ F, H2 a = H a := e2.fr
  have al : ∀ a, vis (H a) ≠ none → vis (H2 a) ≠ none := fun a h => by
    by_cases z : a ∈ lv α M ++ F
    · rw [fr a z]; exact h
    · cases e : H a with
      | none => exact absurd (by rw [e]) h
      | some x =>
        rw [e] at h
        have v : vis (some x) = some x := by cases x <;> first | rfl | exact absurd rfl h
        have := hide_same _ _ (sm a x (show hide _ H a = _ from hide_mk z e v))
        rw [this, v]; exact fun z => by cases z
  refine ⟨⟨List.prefix_refl _, sm, fun a ha => fr a (List.mem_append_right _ ha)⟩, o.ml, o.nd, fun a ha => ⟨(o.fr a ha).1, al a (o.fr a ha).2⟩, fun a ha => al a (o.al a ha), fun k x h => ?_, o2.tb⟩
  obtain ⟨a, ea, ra⟩ := o.own k x h
  exact ⟨a, ea, ra.mono (List.prefix_refl _) sm (fr a (List.mem_append_left _ (mem_lv.mpr ⟨k, x, ea, h⟩)))⟩
theorem body_C {n : List Str} {ps : List Str} {X : Cx} {body : List Stmt} {tb : DS} (hJ : JB' X body tb) {H : Hp} {vs : List V} {Q : VK} {E : XK} (hK : X.K = K) (h : lSp K (cl (fnC n.length ps.length tb)) vs H Q E) :
    ∃ t, QB X body t ∧ t { nx := fun _ H' => Q .non H', rt := Q } (L2.start n vs) H := by
  subst hK
  obtain ⟨F, α, M, ds, o, r, hn, hl, q⟩ := h
  have o0 : OK X.K (lv α M ++ F) [] H [] := ⟨rfl, List.nodup_nil, fun a ha => ⟨by simp, by
    rcases List.mem_append.mp ha with ha | ha
    · exact o.liveV a ha
    · exact (o.fr a ha).2⟩, fun a ha => (by simp at ha), fun k x h => (by simp at h), o.tb⟩
  have r0 : Reps X.K [] (hid (lv α M ++ F) [] [] H) ds vs := Reps.nl ds vs hn r
  refine ⟨_, ⟨hJ.p⟩, lv α M ++ F, [], startD n.length ds, [], r_start o0 r0, ?_⟩
  refine hJ.mono _ _ _ _ ?_ q
  refine ⟨fun δ M' q σ' α' H' e r => ?_, fun d M' q v α' H' e o' r => ?_, fun _ _ q => q.elim, fun _ _ q => q.elim⟩
  · obtain ⟨e1, o1⟩ := closed_end o e r.ok
    exact q _ α H' e1 o1 rep_non
  · obtain ⟨e1, o1⟩ := closed_end o e o'
    exact q.2 v α H' e1 o1 (Rep.nl _ _ q.1 (rep_fz o' d v r))
end
end L3
set_option Elab.async false
set_option linter.all false
set_option maxRecDepth 100000
set_option maxHeartbeats 4000000
namespace L3
open PySem PySem.Spec PyProof.Rows L2
noncomputable def dslots (fr : List (Option Nat)) (δ : DSt) : DSt := fr.map fun o => match o with
  | none => none
  | some j => (δ[j]?).getD none
noncomputable def rst (fr : List (Option Nat)) (δ : DSt) : DSt := List.zipWith (fun o d => match o with | none => none | some _ => d) fr δ
def stepD (g : DG) (tt : DT) (te : DE) (x : D) (δ : DSt) (M : Ms) (Kk : Option D → DSt → Ms → Prop) : Prop :=
  g x δ M fun δ1 M1 => tt δ1 M1 fun b M2 => if b = true then te δ1 M2 fun d M3 => Kk (some d) δ1 M3 else Kk none δ1 M2
def compD (fr : List (Option Nat)) (g : DG) (tt : DT) (te : DE) (st : Ms → Prop) (Q : List D → Ms → Prop) : List D → List D → DSt → Ms → Prop
  | [], acc, _, M => Q acc M
  | x :: xs, acc, δ, M => stepD g tt te x δ M fun o δ1 M1 => st M1 ∧ match o with
    | some d => acc.length < sizeLine ∧ compD fr g tt te st Q xs (acc ++ [d]) (rst fr δ1) M1
    | none => compD fr g tt te st Q xs acc (rst fr δ1) M1
def fComp (fr : List (Option Nat)) (ti : DI) (g : DG) (tt : DT) (te : DE) : DF := fun δ M Q => ti δ M fun items st M1 => st M1 ∧ compD fr g tt te st (fun ds M' => Q (.lst ds) M') items [] (dslots fr δ) M1
structure JIf (X : Cx) (ifs : List Expr) (t : DT) : Prop where
  mono : ∀ δ M (P Q : Bool → Ms → Prop), (∀ d M, P d M → Q d M) → t δ M P → t δ M Q
  p : PIf X ifs (lT X.K t)
def dYes : DT := fun _ M Q => Q true M
theorem jif_nil {X : Cx} : JIf X [] dYes := ⟨fun δ M P Q w q => w _ _ q, fun pins s σ H Q I ⟨F, α, δ, M, r, q⟩ => pif_nil pins s σ H Q I (q α H Ext.refl r.ok)⟩
section
variable {K : PySem.W.Frag} {F α α' α'' : List Addr} {H H' H'' : Hp} {M M' M'' : Ms} {σ : L2.St} {δ : DSt} {p : Addr}
theorem R.slots (r : R K F α H σ δ M) (fr : List (Option Nat)) : R K F α H (L2.slots fr σ) (dslots fr δ) M := by
  refine ⟨r.ok, by simp [L2.slots, dslots], fun i d h => ?_⟩
  unfold dslots at h
  unfold L2.slots
  rw [List.getElem?_map] at h ⊢
  cases e : fr[i]? with
  | none => rw [e] at h; cases h
  | some o =>
    rw [e] at h
    cases o with
    | none => cases h
    | some j =>
      have h : (δ[j]?).getD none = some d := by simpa using h
      cases e2 : δ[j]? with
      | none => rw [e2] at h; cases h
      | some q =>
        rw [e2] at h
        have h : q = some d := h
        subst h
        obtain ⟨v, e3, r3⟩ := r.sl j d e2
        exact ⟨v, by show some ((σ[j]?).getD none) = _; rw [e3]; rfl, r3⟩
theorem R.rst (r : R K F α H σ δ M) {fr : List (Option Nat)} (hl : fr.length = δ.length) : R K F α H σ (L3.rst fr δ) M := by
  refine ⟨r.ok, by simp [L3.rst, hl, r.len], fun i d h => ?_⟩
  unfold L3.rst at h
  rw [List.getElem?_zipWith] at h
  cases e : fr[i]? with
  | none => rw [e] at h; simp at h
  | some o =>
    cases e2 : δ[i]? with
    | none => rw [e, e2] at h; simp at h
    | some q =>
      rw [e, e2] at h
      cases o with
      | none => simp at h
      | some j =>
        have h : q = some d := by simpa using h
        subst h
        exact r.sl i d e2
theorem Ext.skip (o : OK K F α H M) (hp : H p = none) (e : Ext F α H M α' H' M') (e' : Ext (p :: F) α' H' M' α'' H'' M'') : Ext F α H M α'' H'' M'' := by
  refine ⟨e.pre.trans e'.pre, fun b x h => ?_, fun a ha => (e'.fr a (List.mem_cons_of_mem _ ha)).trans (e.fr a ha)⟩
  have hb : b ≠ p := fun z => by
    have := (hide_some h).2
    rw [z, hp] at this; cases this
  have h1 := hide_some (e.same b x h)
  have h2 : hid (p :: F) α' M' H' b = some x := by
    show hide _ H' b = _
    refine hide_go h (fun w => h1.1 ?_) h1.2
    · simp only [List.mem_append, List.mem_cons] at w ⊢
      rcases w with w | w | w
      · exact .inl w
      · exact absurd w hb
      · exact .inr w
  have h3 := hide_some (e'.same b x h2)
  show hide _ H'' b = _
  refine hide_go h (fun w => h3.1 ?_) h3.2
  · simp only [List.mem_append, List.mem_cons] at w ⊢
    rcases w with w | w
    · exact .inl w
    · exact .inr (.inr w)
theorem Ext.updp (hp : H p = none) (hF : p ∉ F) {x : HO} (e : Ext F α H M α' H' M') : Ext F α H M α' (upd H' p x) M' := by
  refine ⟨e.pre, fun b y h => ?_, fun a ha => by rw [upd_ne fun z => hF (by rw [← z]; exact ha)]; exact e.fr a ha⟩
  have hb : b ≠ p := fun z => by
    have := (hide_some h).2
    rw [z, hp] at this; cases this
  have h1 := hide_some (e.same b y h)
  show hide _ _ b = _
  exact hide_go h h1.1 (by rw [upd_ne hb]; exact h1.2)
theorem hid_updp {x : HO} : hid (p :: F) α M (upd H p x) = hid (p :: F) α M H := by
  funext b
  show hide _ _ b = hide _ _ b
  by_cases hb : b ∈ lv α M ++ p :: F
  · rw [hide_in hb, hide_in hb]
  · rw [hide_out hb, hide_out hb, upd_ne fun z => hb (by rw [z]; simp)]
theorem OK.updp (o : OK K (p :: F) α H M) {x : HO} (vx : vis (some x) = some x := by rfl) : OK K (p :: F) α (upd H p x) M := by
  have hp : p ∉ α := (o.fr p List.mem_cons_self).1
  refine ⟨o.ml, o.nd, fun a ha => ⟨(o.fr a ha).1, ?_⟩, fun a ha => ?_, fun k y h => ?_, o.tb.upd (.inl (o.fr p List.mem_cons_self).2)⟩
  · by_cases e : a = p
    · rw [e, upd_same, vx]; exact fun z => by cases z
    · rw [upd_ne e]; exact (o.fr a ha).2
  · rw [upd_ne fun z => hp (by rw [← z]; exact ha)]; exact o.al a ha
  · obtain ⟨a, ea, ra⟩ := o.own k y h
    rw [hid_updp]
    exact ⟨a, ea, ra.mono (List.prefix_refl _) (Same.refl _) (upd_ne fun z => hp (by rw [← z]; exact List.mem_of_getElem? ea))⟩
theorem R.updp (r : R K (p :: F) α H σ δ M) {x : HO} (vx : vis (some x) = some x := by rfl) : R K (p :: F) α (upd H p x) σ δ M := ⟨r.ok.updp vx, r.len, fun i d h => by
  obtain ⟨v, h1, h2⟩ := r.sl i d h
  rw [hid_updp]
  exact ⟨v, h1, h2⟩⟩
theorem R.underp (r : R K F α H σ δ M) (hp : H p = none) {x : HO} (vx : vis (some x) = some x := by rfl) : R K (p :: F) α (upd H p x) σ δ M := by
  have o := r.ok
  have hpa : p ∉ α := fun z => o.al p z (by rw [hp])
  have sm : Same (hid F α M H) (hid (p :: F) α M (upd H p x)) := fun b y h => by
    obtain ⟨z, q⟩ := hide_some h
    have hb : b ≠ p := fun z => by rw [z, hp] at q; cases q
    show hide _ _ b = _
    refine hide_go h (fun w => z ?_) (by rw [upd_ne hb]; exact q)
    · simp only [List.mem_append, List.mem_cons] at w ⊢
      rcases w with w | w | w
      · exact .inl w
      · exact absurd w hb
      · exact .inr w
  refine ⟨⟨o.ml, o.nd, fun a ha => ?_, fun a ha => ?_, fun k y h => ?_, o.tb.upd (.inr hp)⟩, r.len, fun i d h => ?_⟩
  · rcases List.mem_cons.mp ha with e | e
    · subst e; exact ⟨hpa, by rw [upd_same, vx]; exact fun z => by cases z⟩
    · refine ⟨(o.fr a e).1, ?_⟩
      rw [upd_ne fun z => (o.fr a e).2 (by rw [z, hp])]; exact (o.fr a e).2
  · rw [upd_ne fun z => hpa (by rw [← z]; exact ha)]; exact o.al a ha
  · obtain ⟨a, ea, ra⟩ := o.own k y h
    exact ⟨a, ea, ra.mono (List.prefix_refl _) sm (upd_ne fun z => hpa (by rw [← z]; exact List.mem_of_getElem? ea))⟩
  · obtain ⟨v, h1, h2⟩ := r.sl i d h
    exact ⟨v, h1, Rep.mono (List.prefix_refl _) sm _ _ h2⟩
theorem er_self : er p H p = none := by unfold er; rw [if_pos rfl]
theorem er_ne {b : Addr} (h : b ≠ p) : er p H b = H b := by unfold er; rw [if_neg h]
theorem hid_er (o : OK K (p :: F) α H M) : hid F α M (er p H) = hid (p :: F) α M H := by
  have hp : p ∉ α := (o.fr p List.mem_cons_self).1
  funext b
  show hide _ _ b = hide _ _ b
  by_cases e : b = p
  · subst e
    rw [hide_in (A := lv α M ++ b :: F) (by simp)]
    by_cases z : b ∈ lv α M ++ F
    · rw [hide_in z]
    · rw [hide_out z, er_self]
  · by_cases z : b ∈ lv α M ++ F
    · rw [hide_in z, hide_in (by simp only [List.mem_append, List.mem_cons] at z ⊢; rcases z with z | z; exact .inl z; exact .inr (.inr z))]
    · rw [hide_out z, hide_out (by simp only [List.mem_append, List.mem_cons] at z ⊢; rintro (w | w | w); exact z (.inl w); exact e w; exact z (.inr w)), er_ne e]
theorem OK.er (o : OK K (p :: F) α H M) (hF : p ∉ F) : OK K F α (L3.er p H) M := by
  have hp : p ∉ α := (o.fr p List.mem_cons_self).1
  refine ⟨o.ml, o.nd, fun a ha => ⟨(o.fr a (List.mem_cons_of_mem _ ha)).1, ?_⟩, fun a ha => ?_, fun k x h => ?_, o.tb.imp fun b y e v => ?_⟩
  · rw [er_ne fun z => hF (by rw [← z]; exact ha)]; exact (o.fr a (List.mem_cons_of_mem _ ha)).2
  · rw [er_ne fun z => hp (by rw [← z]; exact ha)]; exact o.al a ha
  · obtain ⟨a, ea, ra⟩ := o.own k x h
    rw [hid_er o]
    exact ⟨a, ea, ra.mono (List.prefix_refl _) (Same.refl _) (er_ne fun z => hp (by rw [← z]; exact List.mem_of_getElem? ea))⟩
  · rw [er_ne fun z => (o.fr p List.mem_cons_self).2 (by rw [← z, e]; exact v)]; exact e
theorem Ext.er (hp : H p = none) (hF : p ∉ F) (e : Ext F α H M α' H' M') : Ext F α H M α' (L3.er p H') M' := by
  refine ⟨e.pre, fun b y h => ?_, fun a ha => by rw [er_ne fun z => hF (by rw [← z]; exact ha)]; exact e.fr a ha⟩
  have hb : b ≠ p := fun z => by
    have := (hide_some h).2
    rw [z, hp] at this; cases this
  have h1 := hide_some (e.same b y h)
  show hide _ _ b = _
  exact hide_go h h1.1 (by rw [er_ne hb]; exact h1.2)
end
section
variable {X : Cx} {N : List Str} {fr : List (Option Nat)} {scope : Scope} {elt target iter : Expr} {ifs : List Expr} {ti : DI} {g : DG} {tt : DT} {te : DE} {pos : Pos}
theorem compD_mono (hg : ∀ d δ M (P Q : DSt → Ms → Prop), (∀ δ M, P δ M → Q δ M) → g d δ M P → g d δ M Q) (ht : ∀ δ M (P Q : Bool → Ms → Prop), (∀ d M, P d M → Q d M) → tt δ M P → tt δ M Q) (he : ∀ δ M (P Q : DK), (∀ d M, P d M → Q d M) → te δ M P → te δ M Q)
    {st : Ms → Prop} {P Q : List D → Ms → Prop} (w : ∀ l M, P l M → Q l M) : ∀ xs acc δ M, compD fr g tt te st P xs acc δ M → compD fr g tt te st Q xs acc δ M
  | [], acc, δ, M, q => w _ _ q
  | x :: xs, acc, δ, M, q => by
    unfold compD stepD at q ⊢
    refine hg _ _ _ _ _ (fun δ1 M1 q => ht _ _ _ _ (fun b M2 q => ?_) q) q
    cases b with
    | true =>
      rw [if_pos rfl] at q ⊢
      exact he _ _ _ _ (fun d M3 q => ⟨q.1, q.2.1, compD_mono hg ht he w xs _ _ _ q.2.2⟩) q
    | false =>
      rw [if_neg Bool.false_ne_true] at q ⊢
      exact ⟨q.1, compD_mono hg ht he w xs _ _ _ q.2⟩
theorem lift_comp (hI : JI X target iter ti) (hg : ∀ d δ M (P Q : DSt → Ms → Prop), (∀ δ M, P δ M → Q δ M) → g d δ M P → g d δ M Q) (ht : ∀ δ M (P Q : Bool → Ms → Prop), (∀ d M, P d M → Q d M) → tt δ M P → tt δ M Q) (he : ∀ δ M (P Q : DK), (∀ d M, P d M → Q d M) → te δ M P → te δ M Q)
    (hgl : ∀ d δ M (P : DSt → Ms → Prop), g d δ M P → g d δ M fun δ1 M1 => δ1.length = δ.length ∧ P δ1 M1) {σ : L2.St} {H : Hp} {Q : VK} (h : lF X.K (fComp fr ti g tt te) σ H Q) : tComp fr (lI X ti) (lG X.K g) (lT X.K tt) (lE X.K te) σ H (fun v => TH X (Q v)) := by
  obtain ⟨F, α, δ, M, r, h⟩ := h
  refine ⟨F, α, δ, M, r, hI.mono δ _ _ _ (fun items st M1 q J α1 H0 H1 T e1 o1 z it p hp => ?_) h⟩
  obtain ⟨s1, q⟩ := q
  have hpF : p ∉ F := fun w => (z.ok.fr p w).2 (by rw [hp])
  refine ⟨fun i m ys σ' H' => m = items.length - i ∧ i ≤ items.length ∧ ∃ α' δ' M' acc, Ext F α1 H1 M1 α' H' M' ∧ R X.K (p :: F) α' H' σ' δ' M' ∧ δ'.length = fr.length ∧ st M' ∧ H' p = some (.lst ys) ∧ Reps X.K α' (hid (p :: F) α' M' H') acc ys ∧
      compD fr g tt te st (fun ds M' => fK X.K F α H M Q (.lst ds) M') (items.drop i) acc δ' M', ⟨_, rfl, Nat.zero_le _, α1, dslots fr δ, M1, [], Ext.refl.updp hp hpF, ((z.rs (r.grow e1 o1)).slots fr).underp hp, by simp [dslots], s1, upd_same, Reps.nil, q⟩, ?_⟩
  rintro i m ys σ' H' ⟨rfl, hi', α', δ', M', acc, e', r', hl', s', hy, ry, q'⟩
  have sm' : Same (hid F α1 M1 H1) (hid (p :: F) α' M' H') := fun b x h => by
    have hb : b ≠ p := fun w => by
      have := (hide_some h).2
      rw [w, hp] at this; cases this
    have h1 := hide_some (e'.same b x h)
    show hide _ H' b = _
    refine hide_go h (fun w => h1.1 ?_) h1.2
    · simp only [List.mem_append, List.mem_cons] at w ⊢
      rcases w with w | w | w
      · exact .inl w
      · exact absurd w hb
      · exact .inr w
  by_cases hlt : i < items.length
  · rw [List.drop_eq_getElem_cons hlt] at q'
    refine .inr ⟨it.go i (p :: F) α' H' M' e'.pre sm' r'.ok s' hlt, fun ys2 σ2 H2 => ∃ α2 δ2 M2 acc2, Ext F α1 H1 M1 α2 H2 M2 ∧ R X.K (p :: F) α2 H2 σ2 δ2 M2 ∧ δ2.length = fr.length ∧ st M2 ∧ H2 p = some (.lst ys2) ∧ Reps X.K α2 (hid (p :: F) α2 M2 H2) acc2 ys2 ∧
      compD fr g tt te st (fun ds M' => fK X.K F α H M Q (.lst ds) M') (items.drop (i + 1)) acc2 δ2 M2, fun ys2 σ2 H2 h => ⟨_, by omega, rfl, hlt, h⟩, fun x H2 y => ?_⟩
    obtain ⟨o2, e2, rx⟩ := it.yld i (p :: F) α' H' M' x H2 items[i] e'.pre sm' r'.ok s' (by simp [hlt]) y
    unfold compD stepD at q'
    refine ⟨p :: F, α', δ', M', items[i], r'.grow e2 o2, rx, hg _ _ _ _ _ (fun δ3 M3 q3 σ3 α3 H3 e3 r3 => ?_) (hgl _ _ _ _ q')⟩
    obtain ⟨l3, q3⟩ := q3
    refine ⟨p :: F, α3, δ3, M3, r3, ht _ _ _ _ (fun b M4 q4 α4 H4 e4 o4 => ?_) q3⟩
    have e24 := (e2.trans e3).trans e4
    have pm : p ∈ p :: F := List.mem_cons_self
    cases b with
    | false =>
      rw [if_neg Bool.false_ne_true] at q4
      show (if false = true then _ else _)
      rw [if_neg Bool.false_ne_true]
      refine ⟨α4, rst fr δ3, M4, acc, Ext.skip z.ok hp e' e24, (r3.grow e4 o4).rst (by rw [l3, hl']), by simp [rst, l3, hl'], q4.1, by rw [e24.fr p pm]; exact hy, e24.reps ry, q4.2⟩
    | true =>
      rw [if_pos rfl] at q4
      show (if true = true then _ else _)
      rw [if_pos rfl]
      refine ⟨p :: F, α4, δ3, M4, r3.grow e4 o4, he _ _ _ _ (fun d M5 q5 v α5 H5 e5 o5 r5 => ?_) q4⟩
      have e25 := e24.trans e5
      have ry5 := e25.reps ry
      refine ⟨by rw [e25.fr p pm]; exact hy, by rw [← Reps.length _ _ ry]; exact q5.2.1, α5, rst fr δ3, M5, acc ++ [d], (Ext.skip z.ok hp e' e25).updp hp hpF, (((r3.grow e4 o4).grow e5 o5).rst (by rw [l3, hl'])).updp, by simp [rst, l3, hl'], q5.1, upd_same, ?_, q5.2.2⟩
      rw [hid_updp]
      exact Reps.append _ _ _ _ ry5 (Reps.one r5)
  · have e : i = items.length := by omega
    subst e
    rw [List.drop_length] at q'
    refine .inl ⟨it.stop (p :: F) α' H' M' e'.pre sm' r'.ok s', ?_⟩
    have eE := e'.er hp hpF
    have oE := r'.ok.er hpF
    obtain ⟨t1, t2, t3⟩ := z.e α' (L3.er p H') M' eE oE
    have hn : T (L3.er p H') p = none := z.n p _ hp er_self
    have := q' p (.lst ys) α' (T (L3.er p H')) (e1.trans t1) t2 hn ⟨ys, rfl, ?_⟩
    · rw [z.c p H' _ hp hy] at this
      exact z.h α' H' M' _ e' this
    · refine Reps.imp t3 _ _ ?_
      rw [hid_er r'.ok]
      exact ry
abbrev glen (g : DG) : Prop := ∀ d δ M (P : DSt → Ms → Prop), g d δ M P → g d δ M fun δ1 M1 => δ1.length = δ.length ∧ P δ1 M1
abbrev glens (g : DGs) : Prop := ∀ d δ M (P : DSt → Ms → Prop), g d δ M P → g d δ M fun δ1 M1 => δ1.length = δ.length ∧ P δ1 M1
theorem gl_name {i : Nat} : glen (dgName i) := fun d δ M P q => ⟨by simp, q⟩
theorem gl_nil : glens dgNil := fun d δ M P q => ⟨q.1, rfl, q.2⟩
theorem gl_tup {n : Nat} {gs : DGs} (hs : glens gs) : glen (dgTup n gs) := fun d δ M P q => by
  cases d <;> first | exact q.elim | exact ⟨q.1, hs _ _ _ _ q.2⟩
theorem jf_comp (c : CompOk X N fr scope) (hi : JI X target iter ti) (hgl : glen g)
    (hg : ∀ C ex pins s₀ H₀, JG (blk X scope N C ex pins s₀ H₀ fun _ _ => False) target g) (ht : ∀ C ex pins s₀ H₀, JIf (blk X scope N C ex pins s₀ H₀ fun _ _ => False) ifs tt) (he : ∀ C ex pins s₀ H₀, JE (blk X scope N C ex pins s₀ H₀ fun _ _ => False) elt te)
    (hcalm : X.calm = true := by rfl) (hs : ∀ x, foldedSetIterable iter X.env x = pure x := by intro _; rfl) : JF X (.ListComp elt [⟨target, iter, ifs, 0⟩] scope pos) (fComp fr ti g tt te) := by
  have mg := (hg 0 [] [] X.s₀ X.H₀).mono
  have mt := (ht 0 [] [] X.s₀ X.H₀).mono
  have me := (he 0 [] [] X.s₀ X.H₀).mono
  exact ⟨fun δ M P Q w q => hi.mono _ _ _ _ (fun l s M1 q => ⟨q.1, compD_mono mg mt me (fun l M q => w _ _ q) _ _ _ _ q.2⟩) q,
    pe_ghost (pe_comp c hcalm hi.p (fun _ _ _ _ _ => (hg _ _ _ _ _).p) (fun _ _ _ _ _ => (ht _ _ _ _ _).p) (fun _ _ _ _ _ => (he _ _ _ _ _).p) hs) fun σ H Q h => lift_comp hi mg mt me hgl h⟩
theorem js_compN (i : Nat) {x : Str} {p p3 : Pos} (hN : X.N.Nodup) (c : CompOk X N fr scope) (hi : JI X target iter ti) (hgl : glen g)
    (hg : ∀ C ex pins s₀ H₀, JG (blk X scope N C ex pins s₀ H₀ fun _ _ => False) target g) (ht : ∀ C ex pins s₀ H₀, JIf (blk X scope N C ex pins s₀ H₀ fun _ _ => False) ifs tt) (he : ∀ C ex pins s₀ H₀, JE (blk X scope N C ex pins s₀ H₀ fun _ _ => False) elt te)
    (hy : X.N[i]? = some x := by rfl) (hx : Loc X.env.scope x := by first | exact Or.inl rfl | exact Or.inr rfl)
    (hsw : swapsWith (.ListComp elt [⟨target, iter, ifs, 0⟩] scope pos) (some (.Name x p)) p3.line X.env = pure true := by rfl) (hf : X.fn x = true ∨ X.env.scope.names.lookup x = some .local := by first | exact .inl rfl | exact .inr rfl | assumption)
    (hcalm : X.calm = true := by rfl) (hs : ∀ x, foldedSetIterable iter X.env x = pure x := by intro _; rfl) :
    JS X (.Assign [.Name x p] (.ListComp elt [⟨target, iter, ifs, 0⟩] scope pos) p3) (dSet i (dNew (fComp fr ti g tt te))) := by
  have mg := (hg 0 [] [] X.s₀ X.H₀).mono
  have mt := (ht 0 [] [] X.s₀ X.H₀).mono
  have me := (he 0 [] [] X.s₀ X.H₀).mono
  have hF : JF X (.ListComp elt [⟨target, iter, ifs, 0⟩] scope pos) (fComp fr ti g tt te) := jf_comp c hi hgl hg ht he hcalm hs
  have base := ps_comp (pos := pos) (py := p) (spos := p3) (wi := lI X ti) (g := lG X.K g) (tt := lT X.K tt) (te := lE X.K te) c hcalm hi.p (fun _ _ _ _ _ => (hg _ _ _ _ _).p) (fun _ _ _ _ _ => (ht _ _ _ _ _).p) (fun _ _ _ _ _ => (he _ _ _ _ _).p) hN hy hx hsw hf hs
  refine ⟨fun P Q δ M w q => ?_, ps_ghost base fun E σ H q => lift_comp (Q := fun v => E.nx _) hi mg mt me hgl ?_⟩
  · unfold dSet dNew at q ⊢
    refine hF.mono _ _ _ _ ?_ q
    exact fun o M1 q => w.nx _ _ q
  · obtain ⟨F, α, δ, M, r, q⟩ := q
    refine ⟨F, α, δ, M, r, ?_⟩
    unfold dSet dNew at q
    refine hF.mono _ _ _ _ ?_ q
    exact fun o M1 q => fK.frz fun v α' H' e1 o1 r1 => q _ α' H' e1 ((r.grow e1 o1).set r1)
theorem js_compO (i : Nat) {x : Str} {p p3 : Pos} (hN : X.N.Nodup) (c : CompOk X N fr scope) (hi : JI X target iter ti) (hgl : glen g)
    (hg : ∀ C ex pins s₀ H₀, JG (blk X scope N C ex pins s₀ H₀ fun _ _ => False) target g) (ht : ∀ C ex pins s₀ H₀, JIf (blk X scope N C ex pins s₀ H₀ fun _ _ => False) ifs tt) (he : ∀ C ex pins s₀ H₀, JE (blk X scope N C ex pins s₀ H₀ fun _ _ => False) elt te)
    (hy : X.N[i]? = some x := by rfl) (hx : Loc X.env.scope x := by first | exact Or.inl rfl | exact Or.inr rfl)
    (hsw : swapsWith (.ListComp elt [⟨target, iter, ifs, 0⟩] scope pos) (some (.Name x p)) p3.line X.env = pure true := by rfl) (hf : X.fn x = true ∨ X.env.scope.names.lookup x = some .local := by first | exact .inl rfl | exact .inr rfl | assumption)
    (hcalm : X.calm = true := by rfl) (hs : ∀ x, foldedSetIterable iter X.env x = pure x := by intro _; rfl) :
    JS X (.Assign [.Name x p] (.ListComp elt [⟨target, iter, ifs, 0⟩] scope pos) p3) (dSet i (dOwn (fComp fr ti g tt te))) := by
  have mg := (hg 0 [] [] X.s₀ X.H₀).mono
  have mt := (ht 0 [] [] X.s₀ X.H₀).mono
  have me := (he 0 [] [] X.s₀ X.H₀).mono
  have hF : JF X (.ListComp elt [⟨target, iter, ifs, 0⟩] scope pos) (fComp fr ti g tt te) := jf_comp c hi hgl hg ht he hcalm hs
  have base := ps_comp (pos := pos) (py := p) (spos := p3) (wi := lI X ti) (g := lG X.K g) (tt := lT X.K tt) (te := lE X.K te) c hcalm hi.p (fun _ _ _ _ _ => (hg _ _ _ _ _).p) (fun _ _ _ _ _ => (ht _ _ _ _ _).p) (fun _ _ _ _ _ => (he _ _ _ _ _).p) hN hy hx hsw hf hs
  refine ⟨fun P Q δ M w q => ?_, ps_ghost base fun E σ H q => lift_comp (Q := fun v => E.nx _) hi mg mt me hgl ?_⟩
  · unfold dSet dOwn at q ⊢
    refine hF.mono _ _ _ _ ?_ q
    exact fun o M1 q => w.nx _ _ q
  · obtain ⟨F, α, δ, M, r, q⟩ := q
    refine ⟨F, α, δ, M, r, ?_⟩
    unfold dSet dOwn at q
    refine hF.mono _ _ _ _ ?_ q
    exact fun o M1 q => fK.own fun v α' H' e1 o1 r1 => q _ α' H' e1 ((r.grow e1 o1).set r1)
end
end L3
set_option Elab.async false
set_option linter.all false
set_option maxRecDepth 100000
set_option maxHeartbeats 4000000
namespace L3
open PySem PySem.Spec PyProof.Rows L2
def gI (C : Int → Int → Prop) (f : Int → Int → D) : G2 := fun x y M Q => match x, y with | .int i, .int j => C i j ∧ Q (f i j) M | _, _ => False
theorem gI_mono {C : Int → Int → Prop} {f : Int → Int → D} : mono2 (gI C f) := by
  intro x y M P Q w q
  unfold gI at *
  split at q
  · exact ⟨q.1, w _ _ q.2⟩
  · exact q.elim
def gI0 (f : Int → Int → D) : G2 := fun x y M Q => match x, y with | .int i, .int j => Q (f i j) M | _, _ => False
theorem gI0_mono {f : Int → Int → D} : mono2 (gI0 f) := by
  intro x y M P Q w q
  unfold gI0 at *
  split at q
  · exact w _ _ q
  · exact q.elim
section
variable {X : Cx}
theorem rD_I0 {K : PySem.W.Frag} {f : Int → Int → D} {x y : V} {H : Hp} {Q : VK} (h : rD K (gI0 f) x y H Q) : ∃ F α M i j, OK K F α H M ∧ x = .int i ∧ y = .int j ∧ vK K F α H M Q (f i j) M := by
  obtain ⟨F, α, M, da, db, o, ra, rb, h⟩ := h
  unfold gI0 at h
  split at h <;> first | exact h.elim | skip
  unfold Rep at ra rb
  exact ⟨F, α, M, _, _, o, ra, rb, h⟩
theorem rD_I {K : PySem.W.Frag} {C : Int → Int → Prop} {f : Int → Int → D} {x y : V} {H : Hp} {Q : VK} (h : rD K (gI C f) x y H Q) : ∃ F α M i j, OK K F α H M ∧ x = .int i ∧ y = .int j ∧ C i j ∧ vK K F α H M Q (f i j) M := by
  obtain ⟨F, α, M, da, db, o, ra, rb, h⟩ := h
  unfold gI at h
  split at h <;> first | exact h.elim | skip
  unfold Rep at ra rb
  exact ⟨F, α, M, _, _, o, ra, rb, h⟩
theorem jo_sub : JO X .Sub (gI0 fun i j => .int (i - j)) := ⟨gI0_mono, fun pins s σ H x y v u Q I rx ry h => by
  obtain ⟨F, α, M, i, j, o, ra, rb, h⟩ := rD_I0 h
  exact op_sub pins s σ H x y v u Q I rx ry ⟨_, _, ra, rb, vK.now o h rep_int⟩⟩
theorem jo_mod : JO X .Mod (gI (fun _ j => 0 < j) fun i j => .int (i % j)) := ⟨gI_mono, fun pins s σ H x y v u Q I rx ry h => by
  obtain ⟨F, α, M, i, j, o, ra, rb, h, h'⟩ := rD_I h
  exact op_mod pins s σ H x y v u Q I rx ry ⟨_, _, ra, rb, h, vK.now o h' rep_int⟩⟩
theorem jc_gt : JC X .Gt (gI0 fun i j => .bl (decide (j < i))) := ⟨gI0_mono, fun pins s σ H x y v u Q I rx ry h => by
  obtain ⟨F, α, M, i, j, o, ra, rb, h⟩ := rD_I0 h
  exact op_gt pins s σ H x y v u Q I rx ry ⟨_, _, ra, rb, vK.now o h rep_bl⟩⟩
def gLt : G2 := fun x y M Q => match x, y with | .int i, .int j => Q (.bl (decide (i < j))) M | .str i, .str j => Q (.bl (decide (i.cps.toList < j.cps.toList))) M | _, _ => False
def gLe : G2 := fun x y M Q => match x, y with | .int i, .int j => Q (.bl (decide (i ≤ j))) M | .str i, .str j => Q (.bl (!decide (j.cps.toList < i.cps.toList))) M | _, _ => False
theorem jc_lt : JC X .Lt gLt := by
  refine ⟨fun x y M P Q w q => ?_, fun pins s σ H x y v u Q I rx ry h => ?_⟩
  · unfold gLt at *; split at q <;> first | exact q.elim | exact w _ _ q
  · obtain ⟨F, α, M, da, db, o, ra, rb, h⟩ := h
    unfold gLt at h; split at h <;> first | exact h.elim | skip
    · unfold Rep at ra rb
      exact op_lt pins s σ H x y v u Q I rx ry ⟨_, _, ra, rb, vK.now o h rep_bl⟩
    · unfold Rep at ra rb
      exact op_lt_str pins s σ H x y v u Q I rx ry ⟨_, _, ra, rb, vK.now o h rep_bl⟩
theorem jc_le : JC X .LtE gLe := by
  refine ⟨fun x y M P Q w q => ?_, fun pins s σ H x y v u Q I rx ry h => ?_⟩
  · unfold gLe at *; split at q <;> first | exact q.elim | exact w _ _ q
  · obtain ⟨F, α, M, da, db, o, ra, rb, h⟩ := h
    unfold gLe at h; split at h <;> first | exact h.elim | skip
    · unfold Rep at ra rb
      exact op_le pins s σ H x y v u Q I rx ry ⟨_, _, ra, rb, vK.now o h rep_bl⟩
    · unfold Rep at ra rb
      exact op_le_str pins s σ H x y v u Q I rx ry ⟨_, _, ra, rb, vK.now o h rep_bl⟩
noncomputable def isN : D → Bool
  | .non => true
  | _ => false
theorem isN_rep {K : PySem.W.Frag} {α : List Addr} {H : Hp} {d : D} {v : V} (h : Rep K α H d v) : decide (v = .non) = isN d := by
  cases d <;> unfold Rep at h
  case non => subst h; rfl
  case tup => obtain ⟨_, _, rfl, _⟩ := h; rfl
  case lst => obtain ⟨_, _, rfl, _⟩ := h; rfl
  case dct => obtain ⟨_, _, rfl, _⟩ := h; rfl
  case ins => obtain ⟨_, _, _, rfl, _⟩ := h; rfl
  case exc => obtain ⟨_, _, rfl, _⟩ := h; rfl
  case scr => obtain ⟨_, rfl, _⟩ := h; rfl
  case loc => obtain ⟨_, _, rfl⟩ := h; rfl
  all_goals subst h; rfl
def gIsNot : G2 := fun x y M Q => match y with | .non => Q (.bl (!isN x)) M | _ => False
theorem jc_isNot : JC X .IsNot gIsNot := by
  refine ⟨fun x y M P Q w q => ?_, fun pins s σ H x y v u Q I rx ry h => ?_⟩
  · cases y <;> first | exact q.elim | exact w _ _ q
  · obtain ⟨F, α, M, da, db, o, ra, rb, h⟩ := h
    cases db <;> first | exact h.elim | skip
    unfold Rep at rb
    exact op_notN pins s σ H x y v u Q I rx ry ⟨rb, by rw [isN_rep ra]; exact vK.now o h rep_bl⟩
def gPlus : G2 := fun x y M Q => match vw M x, vw M y with
  | .int i, .int j => Q (.int (i + j)) M
  | .str i, .str j => i.length + j.length ≤ sizeLine ∧ Q (.str (i ++ j)) M
  | .lst xs, .lst ys => xs.length + ys.length ≤ sizeLine ∧ Q (.lst (xs ++ ys)) M
  | .tup xs, .tup ys => xs ≠ [] ∧ xs.length + ys.length ≤ sizeLine ∧ Q (.tup (xs ++ ys)) M
  | _, _ => False
theorem jo_add : JO X .Add gPlus := by
  refine ⟨fun x y M P Q w q => ?_, fun pins s σ H x y v u Q I rx ry h => ?_⟩
  · unfold gPlus at q ⊢
    generalize vw M x = a at q ⊢
    generalize vw M y = b at q ⊢
    split at q <;> first | exact q.elim | exact w _ _ q | exact ⟨q.1, w _ _ q.2⟩ | exact ⟨q.1, q.2.1, w _ _ q.2.2⟩
  · obtain ⟨F, α, M, da, db, o, ra, rb, h⟩ := h
    unfold gPlus at h
    generalize e1 : vw M da = a at h
    generalize e2 : vw M db = b at h
    split at h <;> first | exact h.elim | skip
    · cases vw_int e1; cases vw_int e2
      unfold Rep at ra rb
      exact op_add pins s σ H x y v u Q I rx ry ⟨_, _, ra, rb, vK.now o h rep_int⟩
    · cases vw_str e1; cases vw_str e2
      unfold Rep at ra rb
      exact op_add_str pins s σ H x y v u Q I rx ry ⟨_, _, ra, rb, h.1, vK.now o h.2 rep_str⟩
    · obtain ⟨a, vs, rfl, qa, za⟩ := rd_lst o ra e1
      obtain ⟨b, us, rfl, qb, zb⟩ := rd_lst o rb e2
      have l1 := Reps.length _ _ za
      have l2 := Reps.length _ _ zb
      exact op_cat pins s σ H _ _ v u Q I rx ry ⟨a, b, vs, us, rfl, rfl, qa, qb, by rw [← l1, ← l2]; exact h.1, fun p hp => vK.new o hp h.2 (rep_lst_new o hp (Reps.append _ _ _ _ za zb))⟩
    · obtain ⟨a, vs, rfl, qa, za⟩ := rd_tup o ra e1
      obtain ⟨b, us, rfl, qb, zb⟩ := rd_tup o rb e2
      have l1 := Reps.length _ _ za
      have l2 := Reps.length _ _ zb
      refine op_catT pins s σ H _ _ v u Q I rx ry ⟨a, b, vs, us, rfl, rfl, qa, qb, ?_, by rw [← l1, ← l2]; exact h.2.1, fun e => ?_, fun _ p hp => vK.new o hp h.2.2 (rep_tup_new o hp (Reps.append _ _ _ _ za zb))⟩
      · intro e; subst e
        exact h.1 (List.length_eq_zero_iff.mp l1)
      · subst e
        have := List.length_eq_zero_iff.mp l2
        subst this
        refine vK.now o h.2.2 ?_
        rw [List.append_nil]
        rw [vw_tup e1] at ra
        exact ra
noncomputable def keyD : D → Option Key
  | .int i => some (.inl i)
  | .str x => some (.inr x)
  | _ => none
noncomputable def valD (k : Key) : List Key → List D → Option D
  | k' :: ks, d :: ds => if k' = k then some d else valD k ks ds
  | _, _ => none
theorem keyD_rep {K : PySem.W.Frag} {α : List Addr} {H : Hp} {d : D} {v : V} {k : Key} (h : Rep K α H d v) (e : keyD d = some k) : v = kV k := by
  cases d <;> cases e
  · unfold Rep at h; exact h
  · unfold Rep at h; exact h
theorem valD_rep {K : PySem.W.Frag} {α : List Addr} {H : Hp} {k : Key} : ∀ (ks : List Key) (ds : List D) (vs : List V), Reps K α H ds vs → ks.length = ds.length →
    (∀ d, valD k ks ds = some d → ∃ v, valV (ks.zip vs) k = some v ∧ Rep K α H d v) ∧ (valD k ks ds = none → valV (ks.zip vs) k = none)
  | [], ds, vs, h, l => ⟨fun d e => by simp [valD] at e, fun _ => rfl⟩
  | k' :: ks, [], vs, h, l => by simp at l
  | k' :: ks, d :: ds, vs, h, l => by
    unfold Reps at h
    obtain ⟨v, r, rfl, z, y⟩ := h
    have ih := valD_rep (k := k) ks ds r y (by simpa using l)
    rw [List.zip_cons_cons]
    by_cases e : k' = k
    · rw [valV_pos (p := (k', v)) e]
      unfold valD
      rw [if_pos e]
      exact ⟨fun d' e' => ⟨v, rfl, by cases e'; exact z⟩, fun e' => by cases e'⟩
    · rw [valV_neg (p := (k', v)) e]
      unfold valD
      rw [if_neg e]
      exact ih
theorem ix_dict (hu : X.A.units + 1 < cLine) : IxR X (fun x y H Q => ∃ a v, x = .ref a ∧ DGet H a y (some v) ∧ Q v H) := by
  intro value slice pins s σ H x y v u Q I rx ry h hs
  obtain ⟨a, z, rfl, g, q⟩ := h
  cases rx
  unfold subscriptTail
  refine wpAny_bind ?_
  rw [getitemInPython_of_ne (dict_typeIs I g).not_modules]
  refine wpAny_bind (wpAny_specialOf (dict_typeIs I g) PySem.F.slot_dict_getitem.lookup ?_)
  have fin : wpAny (model X.prog X.w) X.A (subscripted slice false (.ref a) u) (fun r s₃ => wpAny (model X.prog X.w) X.A (letTemporaryGo value (.ref a) r >>= fun _ => pure r) (EP X pins σ Q) X.xe s₃) X.xe s := by
    rw [hs]
    exact wpAny_operating (d_getItem hu I g ry fun w' s3 I3 rw' => wpAny_bind (wpAny_letTemporaryGo (wpAny_pure ⟨z, H, I3, rw', q⟩)))
  first
    | exact wpAny_pure (wpAny_bind fin)
    | exact wpAny_bind (wpAny_pure (wpAny_bind fin))
    | exact wpAny_bind fin
def gIx : G2 := fun x y M Q => match vw M x, y with
  | .lst xs, .int i => ∃ d, atI xs i = some d ∧ Q d M
  | .tup xs, .int i => ∃ d, atI xs i = some d ∧ Q d M
  | .scr xs, .int i => ∃ d, atI xs i = some d ∧ Q (.int d) M
  | .str z, .int i => z.length ≤ sizeLine ∧ ∃ c, atI z.cps.toList i = some c ∧ Q (.str ⟨#[c]⟩) M
  | .dct ks ds, y => ∃ k d, keyD y = some k ∧ valD k ks ds = some d ∧ Q d M
  | _, _ => False
theorem jx (hu : X.A.units + 1 < cLine) : JX X gIx := by
  refine ⟨fun x y M P Q w q => ?_, fun value slice pins s σ H x y v u Q I rx ry h hs => ?_⟩
  · unfold gIx at q ⊢
    generalize vw M x = a at q ⊢
    split at q <;> first
      | exact q.elim
      | (obtain ⟨k, d, h1, h2, h3⟩ := q; exact ⟨k, d, h1, h2, w _ _ h3⟩)
      | (obtain ⟨d, h1, h3⟩ := q; exact ⟨d, h1, w _ _ h3⟩)
      | (obtain ⟨h0, d, h1, h3⟩ := q; exact ⟨h0, d, h1, w _ _ h3⟩)
  · obtain ⟨F, α, M, da, db, o, ra, rb, h⟩ := h
    unfold gIx at h
    generalize e1 : vw M da = a at h
    split at h <;> first | exact h.elim | skip
    · obtain ⟨a, vs, rfl, qa, za⟩ := rd_lst o ra e1
      unfold Rep at rb
      obtain ⟨d, e, h⟩ := h
      obtain ⟨w, ew, rw'⟩ := za.at e
      exact ix_list value slice pins s σ H _ y v u Q I rx ry ⟨a, vs, _, w, rfl, rb, SqL.of qa, ew, vK.now o h rw'⟩ hs
    · obtain ⟨a, vs, rfl, qa, za⟩ := rd_tup o ra e1
      unfold Rep at rb
      obtain ⟨d, e, h⟩ := h
      obtain ⟨w, ew, rw'⟩ := za.at e
      exact ix_tup value slice pins s σ H _ y v u Q I rx ry ⟨a, vs, _, w, rfl, rb, qa, ew, vK.now o h rw'⟩ hs
    · cases vw_scr e1
      unfold Rep at ra rb
      obtain ⟨a, rfl, qa⟩ := ra
      obtain ⟨d, e, h⟩ := h
      refine ix_list value slice pins s σ H _ y v u Q I rx ry ⟨a, _, _, .int d, rfl, rb, same_seqL hide_same qa, ?_, vK.now o h rep_int⟩ hs
      unfold atI at e ⊢
      rw [List.length_map]
      cases q : ixN _ _ with
      | none => rw [q] at e; cases e
      | some j =>
        rw [q] at e
        show (List.map V.int _)[j]? = _
        have e' : (_ : List Int)[j]? = some d := e
        rw [List.getElem?_map, e']
        rfl
    · cases vw_str e1
      unfold Rep at ra rb
      obtain ⟨hz, c, e, h⟩ := h
      exact ix_str value slice pins s σ H x y v u Q I rx ry ⟨_, _, c, ra, rb, hz, e, vK.now o h rep_str⟩ hs
    · obtain ⟨k, d, h1, h2, h3⟩ := h
      obtain ⟨a, vs, rfl, qa, hl, za⟩ := rd_dct o ra e1
      obtain ⟨v', hv, rv⟩ := (valD_rep _ _ vs za hl).1 d h2
      cases keyD_rep rb h1
      exact ix_dict hu value slice pins s σ H _ _ v u Q I rx ry ⟨a, v', rfl, by rw [← hv]; exact DGet.kr qa, vK.now o h3 rv⟩ hs
noncomputable def cutD {β : Type} (xs : List β) (lo hi : Option Int) : List β := (xs.drop (HT.sIx xs.length 0 lo)).take (HT.sIx xs.length xs.length hi - HT.sIx xs.length 0 lo)
theorem Reps.cut {K : PySem.W.Frag} {α : List Addr} {H : Hp} {ds : List D} {vs : List V} (h : Reps K α H ds vs) (lo hi : Option Int) : Reps K α H (cutD ds lo hi) (cutV vs lo hi) := by
  unfold cutD cutV
  rw [Reps.length _ _ h]
  exact Reps.take _ _ _ (Reps.drop _ _ _ h)
end
end L3
set_option Elab.async false
set_option linter.all false
set_option maxRecDepth 100000
set_option maxHeartbeats 4000000
namespace PySem
open Sem (wp)
open Builtin
section
variable {prog : Program} {w : World} {A : Around} {E : Value → Shared → Prop} {s : Shared}
theorem fj_nextOf_tuple_item {it t : Addr} {i : Nat} {items} {x : Value} {Q : Value → Shared → Prop} (hit : s.heap.IsTupleIter it t i)
    (ht : s.heap.IsTuple t items) (hx : items[i]? = some x)
    (hQ : ∀ h', h'.IsTupleIter it t (i + 1) → Heap.SameBut it s.heap h' → Q x { s with heap := h' }) :
    wpAny (model prog w) A (Builtin.SmallTypes.nextOf (.ref it)) Q E s := by
  obtain ⟨o, ho, hc, hd⟩ := id hit
  obtain ⟨ol, hol, _, nl, hdl⟩ := ht
  unfold Builtin.SmallTypes.nextOf
  refine wpAny_bind (wpAny_callSpecial?_slot (name := Str.ofString "__next__") hit.typeIs F.slot_tuple_iterator_next
    (wpAny_call_entry F.slot_tuple_iterator_next hit.typeIs F.entry_tuple_iterator_next ?_ (F.args_tuple_iterator_next_1 _)))
  show wpAny _ _ (field (.ref it) 0 >>= _) _ _ s
  refine wpAny_bind (wpAny_field ho hd (x := .ref t) rfl ?_)
  show wpAny _ _ (if (Value.ref t == Value.none) = true then _ else _) _ _ s
  rw [if_neg (show ¬ ((Value.ref t == Value.none) = true) from Bool.false_ne_true)]
  show wpAny _ _ (field (.ref it) 1 >>= _) _ _ s
  refine wpAny_bind (wpAny_field ho hd (x := .int i 0) rfl ?_)
  show wpAny _ _ (seqItems? (.ref t) >>= _) _ _ s
  refine wpAny_bind (wpAny_seqItems hol hdl ?_)
  simp only [Int.toNat_natCast, hx]
  refine wpAny_bind (wpAny_setField ho hd (by simp) (wpAny_pure ⟨x, rfl, wpAny_pure (hQ _ ?_ (Heap.SameBut.update ..))⟩))
  exact ⟨_, Heap.get?_update_self _ ho (Obj.isFreed_of_fields (Obj.data_mapFields hd _)), (Obj.cls_mapFields ..).trans hc, by
    rw [Obj.data_mapFields hd]; simp [rawInt]⟩
theorem fj_nextOf_tuple_end {it l : Addr} {i : Nat} {items} {Q : Value → Shared → Prop} (hh : A.handled = none)
    (hit : s.heap.IsTupleIter it l i) (hl : s.heap.IsTuple l items) (hx : items[i]? = none)
    (hE : ∀ h' e, Heap.ExtBut it s.heap h' → (∃ o, h'.get? e = some o ∧ o.cls = .type "StopIteration") → E (.ref e) { s with heap := h' }) :
    wpAny (model prog w) A (Builtin.SmallTypes.nextOf (.ref it)) Q E s := by
  obtain ⟨o, ho, hc, hd⟩ := id hit
  obtain ⟨ol, hol, _, nl, hdl⟩ := hl
  unfold Builtin.SmallTypes.nextOf
  refine wpAny_bind (wpAny_callSpecial?_slot (name := Str.ofString "__next__") hit.typeIs F.slot_tuple_iterator_next
    (wpAny_call_entry F.slot_tuple_iterator_next hit.typeIs F.entry_tuple_iterator_next ?_ (F.args_tuple_iterator_next_1 _)))
  show wpAny _ _ (field (.ref it) 0 >>= _) _ _ s
  refine wpAny_bind (wpAny_field ho hd (x := .ref l) rfl ?_)
  show wpAny _ _ (if (Value.ref l == Value.none) = true then _ else _) _ _ s
  rw [if_neg (show ¬ ((Value.ref l == Value.none) = true) from Bool.false_ne_true)]
  show wpAny _ _ (field (.ref it) 1 >>= _) _ _ s
  refine wpAny_bind (wpAny_field ho hd (x := .int i 0) rfl ?_)
  show wpAny _ _ (seqItems? (.ref l) >>= _) _ _ s
  refine wpAny_bind (wpAny_seqItems hol hdl ?_)
  simp only [Int.toNat_natCast, hx]
  refine wpAny_bind (wpAny_rule (wpAny_bind (wpAny_setField ho hd (by simp) ?_)))
  show wpAny _ _ (newExc (.type "StopIteration") [] >>= _) _ _ _
  refine wpAny_bind ?_
  simp only [newExc, newTuple]
  refine wpAny_bind (wpAny_newObj_type ?_ (by size_fits))
  refine wpAny_bind (m := firstArgMember _ _) (wpAny_of_eq (a := Value.none) (by first | rfl | (simp only [firstArgMember]; rfl)) ?_)
  refine wpAny_newObj_type ?_ (by size_fits)
  simp only [raiseNew]
  refine wpAny_bind (wpAny_handled ?_)
  first | rw [show A.in1.handled = none from hh] | rw [hh]
  refine wpAny_bind (wpAny_pure (wpAny_throw ?_))
  exact hE _ _ (((Heap.SameBut.update ..).extBut.push _).push _) ⟨_, Heap.get?_push_size _ rfl, rfl⟩
end
theorem fj_draws_tuple {prog : Program} {w : World} {A : Around} (hh : A.handled = none) (it l : Addr) (hne : l ≠ it) (items : Array Value) :
    Draws prog w A it [it, l] items.size (fun i v => items[i]? = some v) (fun i h => h.IsTupleIter it l i ∧ h.IsTuple l items) where
  live := fun _ _ st => let ⟨o, ho, _⟩ := st.1; ⟨o, ho⟩
  frame := fun _ _ _ st hk => ⟨let ⟨o, ho, r⟩ := st.1; ⟨o, hk it (by simp) o ho, r⟩, let ⟨o, ho, r⟩ := st.2; ⟨o, hk l (by simp) o ho, r⟩⟩
  item := fun i s Q E hi st hQ => by
    refine fj_nextOf_tuple_item st.1 st.2 (x := items[i]) (by simp [hi]) fun h' hit' hs' => ?_
    exact hQ _ h' s.toks (by simp [hi]) ⟨hit', st.2.extBut hs'.extBut hne⟩ hs'
  done := fun s Q E st hE => fj_nextOf_tuple_end hh st.1 st.2 (by simp) hE
theorem fj_draws_map {prog : Program} {w : World} {A : Around} {it : Addr} {fp : List Addr} {n : Nat} {P P' : Nat → Value → Prop} {St : Nat → Heap → Prop} (D : Draws prog w A it fp n P St) (h : ∀ i v, P i v → P' i v) : Draws prog w A it fp n P' St where
  live := D.live
  frame := D.frame
  item := fun i s Q E hi st hQ => D.item i s Q E hi st fun x h' tk p => hQ x h' tk (h _ _ p)
  done := D.done
theorem fj_meets_enum_T (l : Addr) (items : Array Value) :
    Meets (Builtin.«enumerate.__new__» ⟨[.type "enumerate", .ref l], []⟩) (fun _ R s => s.heap.IsTuple l items ∧
      R (.ok (.ret (.ref (s.heap.push { cls := .type "tuple_iterator", data := .fields #[.ref l, .int 0 0] }).objs.size)))
        { s with heap := (s.heap.push { cls := .type "tuple_iterator", data := .fields #[.ref l, .int 0 0] }).push { cls := .type "enumerate", data := .fields #[.none, .bool false, .ref s.heap.objs.size, rawInt 0, .none, .none] } }) :=
  .of_wp fun prog w A R s h => by
    obtain ⟨hp, g, d, tk, os⟩ := s; obtain ⟨hL, h⟩ := h
    have hsub := sub_enumerate
    have hL' : Heap.IsTuple (Shared.heap ⟨hp, g, d, tk, os⟩) l items := hL
    obtain ⟨⟨c, dct, dt, sl⟩, hl, hc, n, hd⟩ := hL
    replace hc : c = .type "tuple" := hc
    replace hd : dt = .seq items n := hd
    subst hc hd
    wp_walk using AutoSeq1.wpAny_loadPart' hl
    refine wpAny_stack_any fun st => wpAny_pure ?_
    split
    · rename_i c _ _ _ _ _
      cases (c == Value.type "enumerate")
      · wp_walk using AutoSeq1.wpAny_loadPart' hl, wpAny_pyIter_tuple hL'
        exact ⟨_, rfl, h⟩
      · wp_walk using AutoSeq1.wpAny_loadPart' hl, wpAny_pyIter_tuple hL'
        exact ⟨_, rfl, h⟩
    · wp_walk using AutoSeq1.wpAny_loadPart' hl, wpAny_pyIter_tuple hL'
      exact ⟨_, rfl, h⟩
section
variable {prog : Program} {w : World} {A : Around} {E : Value → Shared → Prop} {s : Shared}
theorem fj_call_enum_T {l : Addr} {items : Array Value} {Q : Value → Shared → Prop} (hL : s.heap.IsTuple l items)
    (h : ∀ h', IsEnum h' (s.heap.objs.size + 1) s.heap.objs.size 0 .none → h'.IsTupleIter s.heap.objs.size l 0 → h'.objs.size = s.heap.objs.size + 2 →
      (∀ b o, s.heap.get? b = some o → h'.get? b = some o) → Q (.ref (s.heap.objs.size + 1)) { s with heap := h' }) :
    wpAny (model prog w) A (call (.type "enumerate") [.ref l]) Q E s := by
  refine callType_new F.called_enumerate (by decide) (F.typeCall_enumerate_1 _) (F.newCall_enumerate_1 _) (fun obj => F.args_object_init_2 obj _) F.entry_enumerate_new
    (fj_meets_enum_T l items) ⟨hL, ?_⟩
  have hz : (s.heap.push { cls := .type "tuple_iterator", data := .fields #[.ref l, .int 0 0] }).objs.size = s.heap.objs.size + 1 := Heap.size_push ..
  show _ ∧ _
  rw [hz]
  have he : IsEnum ((s.heap.push { cls := .type "tuple_iterator", data := .fields #[.ref l, .int 0 0] }).push
      { cls := .type "enumerate", data := .fields #[.none, .bool false, .ref s.heap.objs.size, rawInt 0, .none, .none] }) (s.heap.objs.size + 1) s.heap.objs.size 0 .none := by
    have := Heap.get?_push_size (s.heap.push { cls := .type "tuple_iterator", data := .fields #[.ref l, .int 0 0] })
      (o := { cls := .type "enumerate", data := .fields #[.none, .bool false, .ref s.heap.objs.size, rawInt 0, .none, .none] }) rfl
    rw [hz] at this; exact this
  refine ⟨⟨_, he, rfl⟩, h _ he ⟨_, Heap.get?_push_of_some _ (Heap.get?_push_size _ rfl), rfl, rfl⟩ (by rw [Heap.size_push, hz]) fun b o x => Heap.get?_push_of_some _ (Heap.get?_push_of_some _ x)⟩
end
end PySem
set_option Elab.async false
set_option linter.all false
set_option maxRecDepth 100000
set_option maxHeartbeats 4000000
namespace PySem
open Sem (wp)
open Builtin
structure FjZip (z TI TO i1 i2 : Addr) (fp1 fp2 : List Addr) : Prop where
  TIz : TI ≠ z
  TOz : TO ≠ z
  TITO : TI ≠ TO
  TIi1 : TI ≠ i1
  TIi2 : TI ≠ i2
  i1m : i1 ∈ fp1
  i2m : i2 ∈ fp2
  zf1 : z ∉ fp1
  zf2 : z ∉ fp2
  of1 : TO ∉ fp1
  of2 : TO ∉ fp2
  i1f2 : i1 ∉ fp2
  i2f1 : i2 ∉ fp1
section
variable {prog : Program} {w : World} {A : Around} {E : Value → Shared → Prop} {s : Shared} {z TI TO i1 i2 : Addr} {fp1 fp2 : List Addr} {n1 n2 : Nat} {P1 P2 : Nat → Value → Prop} {S1 S2 : Nat → Heap → Prop}
theorem fj_keep {it : Addr} {fp : List Addr} {n : Nat} {P : Nat → Value → Prop} {St : Nat → Heap → Prop} {i : Nat} {h h' : Heap} {c : Addr} (D : Draws prog w A it fp n P St) (st : St i h) (hs : Heap.SameBut c h h') (hc : c ∉ fp) : St i h' :=
  D.frame _ _ _ st fun b hb o e => hs.extBut b o (fun q => hc (by rw [← q]; exact hb)) e
theorem fj_zip_next_item {i : Nat} {a b : Value} {Q : Value → Shared → Prop} (Z : FjZip z TI TO i1 i2 fp1 fp2) (D1 : Draws prog w A i1 fp1 n1 P1 S1) (D2 : Draws prog w A i2 fp2 n2 P2 S2)
    (hz : IsZip s.heap z TI TO .none) (hTI : IsPair s.heap TI (.ref i1) (.ref i2)) (hTO : IsPair s.heap TO a b) (h1 : S1 i s.heap) (h2 : S2 i s.heap) (l1 : i < n1) (l2 : i < n2)
    (hQ : ∀ x y h' tk, P1 i x → P2 i y → IsZip h' z TI TO (rawInt s.heap.objs.size) → IsPair h' TO x y → S1 (i + 1) h' → S2 (i + 1) h' → IsPair h' s.heap.objs.size x y → h'.objs.size = s.heap.objs.size + 1 →
      (∀ c o, c ≠ z → c ≠ TO → c ≠ i1 → c ≠ i2 → s.heap.get? c = some o → h'.get? c = some o) → Q (.ref s.heap.objs.size) { s with heap := h', toks := tk }) :
    wpAny (model prog w) A (Builtin.«zip.__next__» ⟨[.ref z], []⟩) (fun fin s' => ∃ v, fin = .done (.ret v) ∧ Q v s') E s := by
  have i1z : i1 ≠ z := fun q => Z.zf1 (by rw [← q]; exact Z.i1m)
  have i2z : i2 ≠ z := fun q => Z.zf2 (by rw [← q]; exact Z.i2m)
  have TOi1 : TO ≠ i1 := fun q => Z.of1 (by rw [q]; exact Z.i1m)
  have TOi2 : TO ≠ i2 := fun q => Z.of2 (by rw [q]; exact Z.i2m)
  show wpAny _ _ (field (.ref z) 2 >>= _) _ _ _
  refine wpAny_bind (wpAny_field hz rfl (x := .bool false) rfl ?_)
  show wpAny _ _ (field (.ref z) 3 >>= _) _ _ _
  refine wpAny_bind (wpAny_field hz rfl (x := .ref TI) rfl ?_)
  refine wpAny_bind (wpAny_seqItems hTI rfl ?_)
  show wpAny _ _ (Builtin.SmallTypes.ownedTupleIsFree (.ref z) >>= _) _ _ _
  refine wpAny_bind ?_
  unfold Builtin.SmallTypes.ownedTupleIsFree
  refine wpAny_bind (wpAny_field hz rfl (x := .none) rfl (wpAny_pure ?_))
  simp only [if_true]
  refine wpAny_bind (wpAny_rule ?_)
  refine wpAny_bind (wpAny_field hz rfl (x := .ref TO) rfl ?_)
  refine wpAny_bind (wpAny_setField_rec hz (by simp) fun h₁ hz₁ hs₁ => ?_)
  replace hz₁ : IsZip h₁ z TI TO .ellipsis := hz₁
  refine wpAny_bind ?_
  simp only [List.zipIdx_cons, List.zipIdx_nil, List.forIn_cons, List.forIn_nil]
  refine wpAny_bind (wpAny_bind (wpAny_onRaise ?_))
  show wpAny _ _ (Builtin.SmallTypes.nextOf (.ref i1) >>= _) _ _ _
  refine wpAny_bind (D1.item i { s with heap := h₁ } _ _ l1 (fj_keep D1 h1 hs₁ Z.zf1) fun x h₂ tk1 p1 h1₂ hs₂ => wpAny_pure ?_)
  replace hs₂ : Heap.SameBut i1 h₁ h₂ := hs₂
  have hTO₂ : IsPair h₂ TO a b := hs₂.extBut _ _ TOi1 (hs₁.extBut _ _ Z.TOz hTO)
  refine wpAny_bind (wpAny_seqItems (s := { s with heap := h₂, toks := tk1 }) hTO₂ rfl ?_)
  refine wpAny_bind (wpAny_updateSeq_pair (s := { s with heap := h₂, toks := tk1 }) hTO₂ fun h₃ hTO₃ hs₃ => ?_)
  replace hTO₃ : IsPair h₃ TO x b := hTO₃
  replace hs₃ : Heap.SameBut TO h₂ h₃ := hs₃
  refine wpAny_bind (wpAny_letGo (wpAny_pure ?_))
  refine wpAny_bind (wpAny_bind (wpAny_onRaise ?_))
  show wpAny _ _ (Builtin.SmallTypes.nextOf (.ref i2) >>= _) _ _ _
  refine wpAny_bind (D2.item i { s with heap := h₃, toks := tk1 } _ _ l2 (fj_keep D2 (fj_keep D2 (fj_keep D2 h2 hs₁ Z.zf2) hs₂ Z.i1f2) hs₃ Z.of2) fun y h₄ tk2 p2 h2₄ hs₄ => wpAny_pure ?_)
  replace hs₄ : Heap.SameBut i2 h₃ h₄ := hs₄
  have hTO₄ : IsPair h₄ TO x b := hs₄.extBut _ _ TOi2 hTO₃
  refine wpAny_bind (wpAny_seqItems (s := { s with heap := h₄, toks := tk2 }) hTO₄ rfl ?_)
  refine wpAny_bind (wpAny_updateSeq_pair (s := { s with heap := h₄, toks := tk2 }) hTO₄ fun h₅ hTO₅ hs₅ => ?_)
  replace hTO₅ : IsPair h₅ TO x y := hTO₅
  replace hs₅ : Heap.SameBut TO h₄ h₅ := hs₅
  refine wpAny_bind (wpAny_letGo (wpAny_pure (wpAny_pure ?_)))
  refine wpAny_bind (wpAny_seqItems (s := { s with heap := h₅, toks := tk2 }) hTO₅ rfl ?_)
  refine wpAny_bind (wpAny_newTuple ?_)
  have hsz : h₅.objs.size = s.heap.objs.size := by rw [hs₅.1, hs₄.1, hs₃.1, hs₂.1, hs₁.1]
  have hz₅ : IsZip h₅ z TI TO .ellipsis := hs₅.extBut _ _ Z.TOz.symm (hs₄.extBut _ _ i2z.symm (hs₃.extBut _ _ Z.TOz.symm (hs₂.extBut _ _ i1z.symm hz₁)))
  have hk₅ : ∀ c o, c ≠ z → c ≠ TO → c ≠ i1 → c ≠ i2 → s.heap.get? c = some o → h₅.get? c = some o := fun c o c1 c2 c3 c4 e =>
    hs₅.extBut _ _ c2 (hs₄.extBut _ _ c4 (hs₃.extBut _ _ c2 (hs₂.extBut _ _ c3 (hs₁.extBut _ _ c1 e))))
  have h1₅ : S1 (i + 1) h₅ := fj_keep D1 (fj_keep D1 (fj_keep D1 h1₂ hs₃ Z.of1) hs₄ Z.i2f1) hs₅ Z.of1
  have h2₅ : S2 (i + 1) h₅ := fj_keep D2 h2₄ hs₅ Z.of2
  have hzlt : z < h₅.objs.size := Heap.lt_size hz₅
  show wpAny _ _ (Builtin.SmallTypes.ownedTupleHandOut (.ref z) (.ref h₅.objs.size) >>= _) _ _ _
  refine wpAny_bind ?_
  unfold Builtin.SmallTypes.ownedTupleHandOut
  have hz₆ : IsZip (h₅.push { cls := .type "tuple", data := .seq #[x, y] }) z TI TO .ellipsis := Heap.get?_push_of_some _ hz₅
  refine wpAny_bind (wpAny_setField_rec (s := { s with heap := h₅.push { cls := .type "tuple", data := .seq #[x, y] }, toks := tk2 }) hz₆ (by simp) fun h₇ hz₇ hs₇ => ?_)
  replace hz₇ : IsZip h₇ z TI TO (rawInt h₅.objs.size) := hz₇
  replace hs₇ : Heap.SameBut z (h₅.push { cls := .type "tuple", data := .seq #[x, y] }) h₇ := hs₇
  refine wpAny_setField_rec (s := { s with heap := h₇, toks := tk2 }) hz₇ (by simp) fun h₈ hz₈ hs₈ => ?_
  replace hz₈ : IsZip h₈ z TI TO (rawInt h₅.objs.size) := hz₈
  replace hs₈ : Heap.SameBut z h₇ h₈ := hs₈
  have up : ∀ c o, c ≠ z → h₅.get? c = some o → h₈.get? c = some o := fun c o c1 e => hs₈.extBut _ _ c1 (hs₇.extBut _ _ c1 (Heap.get?_push_of_some _ e))
  have hT₈ : IsPair h₈ h₅.objs.size x y := hs₈.extBut _ _ (Nat.ne_of_gt hzlt) (hs₇.extBut _ _ (Nat.ne_of_gt hzlt) (Heap.get?_push_size _ rfl))
  have hz8 : h₈.objs.size = h₅.objs.size + 1 := by rw [hs₈.1, hs₇.1, Heap.size_push]
  rw [hsz] at hz₈ hT₈ hz8
  refine wpAny_pure ⟨_, rfl, ?_⟩
  show Q (.ref h₅.objs.size) _
  rw [hsz]
  exact hQ x y h₈ tk2 p1 p2 hz₈ (up _ _ Z.TOz hTO₅) (D1.frame _ _ _ h1₅ fun c hc o e => up c o (fun q => Z.zf1 (by rw [← q]; exact hc)) e) (D2.frame _ _ _ h2₅ fun c hc o e => up c o (fun q => Z.zf2 (by rw [← q]; exact hc)) e) hT₈ hz8
    fun c o c1 c2 c3 c4 e => up c o c1 (hk₅ c o c1 c2 c3 c4 e)
theorem fj_zip_next_end {i : Nat} {a b : Value} {Q : Fin → Shared → Prop} (Z : FjZip z TI TO i1 i2 fp1 fp2) (D1 : Draws prog w A i1 fp1 n1 P1 S1) (D2 : Draws prog w A i2 fp2 n2 P2 S2)
    (hz : IsZip s.heap z TI TO .none) (hTI : IsPair s.heap TI (.ref i1) (.ref i2)) (hTO : IsPair s.heap TO a b) (h1 : S1 i s.heap) (h2 : S2 i s.heap) (hend : i = n1 ∨ (i < n1 ∧ i = n2))
    (hE : ∀ h' e tk, (∀ c o, c ≠ z → c ≠ TO → c ≠ i1 → c ≠ i2 → s.heap.get? c = some o → h'.get? c = some o) → (∃ o, h'.get? e = some o ∧ o.cls = .type "StopIteration") → E (.ref e) { s with heap := h', toks := tk }) :
    wpAny (model prog w) A (Builtin.«zip.__next__» ⟨[.ref z], []⟩) Q E s := by
  have i1z : i1 ≠ z := fun q => Z.zf1 (by rw [← q]; exact Z.i1m)
  have i2z : i2 ≠ z := fun q => Z.zf2 (by rw [← q]; exact Z.i2m)
  have TOi1 : TO ≠ i1 := fun q => Z.of1 (by rw [q]; exact Z.i1m)
  have TOi2 : TO ≠ i2 := fun q => Z.of2 (by rw [q]; exact Z.i2m)
  show wpAny _ _ (field (.ref z) 2 >>= _) _ _ _
  refine wpAny_bind (wpAny_field hz rfl (x := .bool false) rfl ?_)
  show wpAny _ _ (field (.ref z) 3 >>= _) _ _ _
  refine wpAny_bind (wpAny_field hz rfl (x := .ref TI) rfl ?_)
  refine wpAny_bind (wpAny_seqItems hTI rfl ?_)
  show wpAny _ _ (Builtin.SmallTypes.ownedTupleIsFree (.ref z) >>= _) _ _ _
  refine wpAny_bind ?_
  unfold Builtin.SmallTypes.ownedTupleIsFree
  refine wpAny_bind (wpAny_field hz rfl (x := .none) rfl (wpAny_pure ?_))
  simp only [if_true]
  refine wpAny_bind (wpAny_rule ?_)
  refine wpAny_bind (wpAny_field hz rfl (x := .ref TO) rfl ?_)
  refine wpAny_bind (wpAny_setField_rec hz (by simp) fun h₁ hz₁ hs₁ => ?_)
  replace hz₁ : IsZip h₁ z TI TO .ellipsis := hz₁
  refine wpAny_bind ?_
  simp only [List.zipIdx_cons, List.zipIdx_nil, List.forIn_cons, List.forIn_nil]
  refine wpAny_bind (wpAny_bind (wpAny_onRaise ?_))
  show wpAny _ _ (Builtin.SmallTypes.nextOf (.ref i1) >>= _) _ _ _
  rcases hend with rfl | ⟨l1, rfl⟩
  · refine wpAny_bind (D1.done { s with heap := h₁ } _ _ (fj_keep D1 h1 hs₁ Z.zf1) fun h₂ e hs₂ he => ?_)
    obtain ⟨oe, hoe, hce⟩ := he
    replace hs₂ : Heap.ExtBut i1 h₁ h₂ := hs₂
    have hz₂ : IsZip h₂ z TI TO .ellipsis := hs₂ _ _ i1z.symm hz₁
    have hez : e ≠ z := fun x => by subst x; rw [hz₂] at hoe; cases hoe; simp at hce
    exact wpAny_setField_rec (s := { s with heap := h₂ }) hz₂ (by simp) fun h₃ _ hs₃ => hE h₃ e s.toks (fun c o c1 _ c3 _ x => hs₃.extBut _ _ c1 (hs₂ _ _ c3 (hs₁.extBut _ _ c1 x))) ⟨oe, hs₃.extBut _ _ hez hoe, hce⟩
  · refine wpAny_bind (D1.item i { s with heap := h₁ } _ _ l1 (fj_keep D1 h1 hs₁ Z.zf1) fun x h₂ tk1 p1 h1₂ hs₂ => wpAny_pure ?_)
    replace hs₂ : Heap.SameBut i1 h₁ h₂ := hs₂
    have hTO₂ : IsPair h₂ TO a b := hs₂.extBut _ _ TOi1 (hs₁.extBut _ _ Z.TOz hTO)
    refine wpAny_bind (wpAny_seqItems (s := { s with heap := h₂, toks := tk1 }) hTO₂ rfl ?_)
    refine wpAny_bind (wpAny_updateSeq_pair (s := { s with heap := h₂, toks := tk1 }) hTO₂ fun h₃ hTO₃ hs₃ => ?_)
    replace hs₃ : Heap.SameBut TO h₂ h₃ := hs₃
    refine wpAny_bind (wpAny_letGo (wpAny_pure ?_))
    refine wpAny_bind (wpAny_bind (wpAny_onRaise ?_))
    show wpAny _ _ (Builtin.SmallTypes.nextOf (.ref i2) >>= _) _ _ _
    refine wpAny_bind (D2.done { s with heap := h₃, toks := tk1 } _ _ (fj_keep D2 (fj_keep D2 (fj_keep D2 h2 hs₁ Z.zf2) hs₂ Z.i1f2) hs₃ Z.of2) fun h₄ e hs₄ he => ?_)
    obtain ⟨oe, hoe, hce⟩ := he
    replace hs₄ : Heap.ExtBut i2 h₃ h₄ := hs₄
    have hz₄ : IsZip h₄ z TI TO .ellipsis := hs₄ _ _ i2z.symm (hs₃.extBut _ _ Z.TOz.symm (hs₂.extBut _ _ i1z.symm hz₁))
    have hez : e ≠ z := fun x => by subst x; rw [hz₄] at hoe; cases hoe; simp at hce
    exact wpAny_setField_rec (s := { s with heap := h₄, toks := tk1 }) hz₄ (by simp) fun h₅ _ hs₅ => hE h₅ e tk1 (fun c o c1 c2 c3 c4 x => hs₅.extBut _ _ c1 (hs₄ _ _ c4 (hs₃.extBut _ _ c2 (hs₂.extBut _ _ c3 (hs₁.extBut _ _ c1 x))))) ⟨oe, hs₅.extBut _ _ hez hoe, hce⟩
theorem fj_zip_item {i : Nat} {a b : Value} {Q : Option Value → Shared → Prop} (Z : FjZip z TI TO i1 i2 fp1 fp2) (D1 : Draws prog w A.in1 i1 fp1 n1 P1 S1) (D2 : Draws prog w A.in1 i2 fp2 n2 P2 S2)
    (hz : IsZip s.heap z TI TO .none) (hTI : IsPair s.heap TI (.ref i1) (.ref i2)) (hTO : IsPair s.heap TO a b) (h1 : S1 i s.heap) (h2 : S2 i s.heap) (l1 : i < n1) (l2 : i < n2)
    (hQ : ∀ x y h' tk, P1 i x → P2 i y → IsZip h' z TI TO (rawInt s.heap.objs.size) → IsPair h' TO x y → S1 (i + 1) h' → S2 (i + 1) h' → IsPair h' s.heap.objs.size x y → h'.objs.size = s.heap.objs.size + 1 →
      (∀ c o, c ≠ z → c ≠ TO → c ≠ i1 → c ≠ i2 → s.heap.get? c = some o → h'.get? c = some o) → Q (some (.ref s.heap.objs.size)) { s with heap := h', toks := tk }) :
    wpAny (model prog w) A (pyNext (.ref z)) Q E s := by
  have hT : s.TypeIs (.ref z) "zip" := ⟨_, hz, rfl⟩
  unfold pyNext
  exact wpAny_bind (wpAny_attempt (wpAny_callSpecial?_slot (name := Str.ofString "__next__") hT F.slot_zip_next
    (wpAny_call_entry F.slot_zip_next hT F.entry_zip_next
      (fj_zip_next_item Z D1 D2 hz hTI hTO h1 h2 l1 l2 fun x y h' tk b1 b2 a1 a2 a3 a4 a5 a6 a7 => wpAny_pure (hQ x y h' tk b1 b2 a1 a2 a3 a4 a5 a6 a7)) (F.args_zip_next_1 _))))
theorem fj_zip_end {i : Nat} {a b : Value} {Q : Option Value → Shared → Prop} (Z : FjZip z TI TO i1 i2 fp1 fp2) (D1 : Draws prog w A.in1 i1 fp1 n1 P1 S1) (D2 : Draws prog w A.in1 i2 fp2 n2 P2 S2)
    (hz : IsZip s.heap z TI TO .none) (hTI : IsPair s.heap TI (.ref i1) (.ref i2)) (hTO : IsPair s.heap TO a b) (h1 : S1 i s.heap) (h2 : S2 i s.heap) (hend : i = n1 ∨ (i < n1 ∧ i = n2))
    (hQ : ∀ h' tk, (∀ c o, c ≠ z → c ≠ TO → c ≠ i1 → c ≠ i2 → s.heap.get? c = some o → h'.get? c = some o) → Q none { s with heap := h', toks := tk }) : wpAny (model prog w) A (pyNext (.ref z)) Q E s := by
  have hT : s.TypeIs (.ref z) "zip" := ⟨_, hz, rfl⟩
  unfold pyNext
  refine wpAny_bind (wpAny_attempt (wpAny_callSpecial?_slot (name := Str.ofString "__next__") hT F.slot_zip_next
    (wpAny_call_entry F.slot_zip_next hT F.entry_zip_next (fj_zip_next_end Z D1 D2 hz hTI hTO h1 h2 hend fun h' e tk hk he => ?_) (F.args_zip_next_1 _))))
  obtain ⟨o, ho, hc⟩ := he
  refine wpAny_bind (wpAny_isInstance (T := "StopIteration") (b := true) ⟨o, ho, hc⟩ isSubtype_stop ?_)
  exact wpAny_pure (hQ _ _ hk)
end
def FjIter (v : Value) (ob : Obj) (h : Heap) : Prop := ∀ (prog : Program) (w : World) (A : Around) (E : Value → Shared → Prop) (s : Shared) (Q : Value → Shared → Prop), s.heap = h → Q (.ref s.heap.objs.size) { s with heap := s.heap.push ob } → wpAny (model prog w) A (pyIter v) Q E s
abbrev fjz2 (h : Heap) (o1 o2 : Obj) : Heap := (h.push o1).push o2
abbrev fjz3 (h : Heap) (o1 o2 : Obj) : Heap := (fjz2 h o1 o2).push { cls := .type "tuple", data := .seq #[.ref h.objs.size, .ref (h.push o1).objs.size] }
abbrev fjz4 (h : Heap) (o1 o2 : Obj) : Heap := (fjz3 h o1 o2).push { cls := .type "tuple", data := .seq #[.none, .none] }
abbrev fjz5 (h : Heap) (o1 o2 : Obj) : Heap := (fjz4 h o1 o2).push { cls := .type "zip", data := .fields #[.none, .bool false, .bool false, .ref (fjz2 h o1 o2).objs.size, .ref (fjz3 h o1 o2).objs.size] }
theorem fj_meets_zip (v1 v2 : Value) (o1 o2 : Obj) :
    Meets (Builtin.«zip.__new__» ⟨[.type "zip", v1, v2], []⟩) (fun _ R s => FjIter v1 o1 s.heap ∧ FjIter v2 o2 (s.heap.push o1) ∧
      R (.ok (.ret (.ref (fjz4 s.heap o1 o2).objs.size))) { s with heap := fjz5 s.heap o1 o2 }) :=
  .of_wp fun prog w A R s h => by
    obtain ⟨hp, g, d, tk, os⟩ := s; obtain ⟨hl1, hl2, h⟩ := h
    have hsub := sub_zip
    have hL1 : ∀ (A : Around) (E : Value → Shared → Prop) (Q : Value → Shared → Prop), Q (.ref hp.objs.size) ⟨hp.push o1, g, d, tk, os⟩ → wpAny (model prog w) A (pyIter v1) Q E ⟨hp, g, d, tk, os⟩ := fun A E Q q => hl1 prog w A E ⟨hp, g, d, tk, os⟩ Q rfl q
    have hL2 : ∀ (A : Around) (E : Value → Shared → Prop) (Q : Value → Shared → Prop), Q (.ref (hp.push o1).objs.size) ⟨(hp.push o1).push o2, g, d, tk, os⟩ → wpAny (model prog w) A (pyIter v2) Q E ⟨hp.push o1, g, d, tk, os⟩ := fun A E Q q => hl2 prog w A E ⟨hp.push o1, g, d, tk, os⟩ Q rfl q
    wp_walk using hL1 _ _ _, hL2 _ _ _
    exact ⟨_, rfl, h⟩
section
variable {prog : Program} {w : World} {A : Around} {E : Value → Shared → Prop} {s : Shared}
theorem fj_call_zip {v1 v2 : Value} {o1 o2 : Obj} {Q : Value → Shared → Prop} (h1 : FjIter v1 o1 s.heap) (h2 : FjIter v2 o2 (s.heap.push o1)) (f1 : o1.isFreed = false) (f2 : o2.isFreed = false)
    (h : ∀ h', IsZip h' (s.heap.objs.size + 4) (s.heap.objs.size + 2) (s.heap.objs.size + 3) .none → IsPair h' (s.heap.objs.size + 2) (.ref s.heap.objs.size) (.ref (s.heap.objs.size + 1)) →
      IsPair h' (s.heap.objs.size + 3) .none .none → h'.get? s.heap.objs.size = some o1 → h'.get? (s.heap.objs.size + 1) = some o2 → h'.objs.size = s.heap.objs.size + 5 →
      (∀ c o, s.heap.get? c = some o → h'.get? c = some o) → Q (.ref (s.heap.objs.size + 4)) { s with heap := h' }) :
    wpAny (model prog w) A (call (.type "zip") [v1, v2]) Q E s := by
  refine callType_new F.called_zip (by decide) (F.typeCall_zip_2 _ _) (F.newCall_zip_2 _ _) (fun obj => F.args_object_init_3 obj _ _) F.entry_zip_new
    (fj_meets_zip v1 v2 o1 o2) ⟨h1, h2, ?_⟩
  have z1 : (s.heap.push o1).objs.size = s.heap.objs.size + 1 := Heap.size_push ..
  have z2 : (fjz2 s.heap o1 o2).objs.size = s.heap.objs.size + 2 := by rw [Heap.size_push, z1]
  have z3 : (fjz3 s.heap o1 o2).objs.size = s.heap.objs.size + 3 := by rw [Heap.size_push, z2]
  have z4 : (fjz4 s.heap o1 o2).objs.size = s.heap.objs.size + 4 := by rw [Heap.size_push, z3]
  have z5 : (fjz5 s.heap o1 o2).objs.size = s.heap.objs.size + 5 := by rw [Heap.size_push, z4]
  have g5 : (fjz5 s.heap o1 o2).get? (fjz4 s.heap o1 o2).objs.size = some _ := Heap.get?_push_size _ rfl
  have g4 : (fjz5 s.heap o1 o2).get? (fjz3 s.heap o1 o2).objs.size = some _ := Heap.get?_push_of_some _ (Heap.get?_push_size _ rfl)
  have g3 : (fjz5 s.heap o1 o2).get? (fjz2 s.heap o1 o2).objs.size = some _ := Heap.get?_push_of_some _ (Heap.get?_push_of_some _ (Heap.get?_push_size _ rfl))
  have g2 : (fjz5 s.heap o1 o2).get? (s.heap.push o1).objs.size = some o2 := Heap.get?_push_of_some _ (Heap.get?_push_of_some _ (Heap.get?_push_of_some _ (Heap.get?_push_size _ f2)))
  have g1 : (fjz5 s.heap o1 o2).get? s.heap.objs.size = some o1 := Heap.get?_push_of_some _ (Heap.get?_push_of_some _ (Heap.get?_push_of_some _ (Heap.get?_push_of_some _ (Heap.get?_push_size _ f1))))
  show _ ∧ _
  rw [z2, z3, z4] at g5
  rw [z1, z2] at g3
  rw [z3] at g4
  rw [z1] at g2
  rw [z4]
  exact ⟨⟨_, g5, rfl⟩, h _ g5 g3 g4 g1 g2 z5 fun c o x =>
    Heap.get?_push_of_some _ (Heap.get?_push_of_some _ (Heap.get?_push_of_some _ (Heap.get?_push_of_some _ (Heap.get?_push_of_some _ x))))⟩
end
end PySem
set_option Elab.async false
set_option linter.all false
set_option maxRecDepth 100000
set_option maxHeartbeats 4000000
namespace L2
open PySem PySem.Spec PyProof.Rows
section
variable {X : Cx} {pins : List (Addr × Obj)} {σ : L2.St} {H : Hp} {s : Shared} {h' : Heap}
theorem Inv.turnedL {t' : Nat} (ch : List Addr) (I : Inv X pins σ H s) (k : ∀ b o, b ∉ ch → s.heap.get? b = some o → h'.get? b = some o) (hf : ∀ b ∈ ch, FpOk X pins H b) : Inv X pins σ H { s with heap := h', toks := t' } := by
  have nit : ∀ b u, H b = some u → b ∉ ch := fun b u e z => by
    have := (hf b z).1
    rw [this] at e; cases e
  have hL : X.env.locals ∉ ch := fun z => (hf _ z).2.1 rfl
  refine I.step (g' := s.gens) (d' := s.drawn) (ch := ch) (fun b hb => ?_) (fun b o _ _ hc e _ => k b o hc e) (fun b o _ _ hc e _ => ⟨o.slots, k b o hc e⟩) (fun _ _ _ _ n => n)
    (fun b o hc e => ⟨o, k b o hc e⟩) (fun _ _ e => e) (fun _ _ _ e => e) (fun b ps e => ⟨#[], by rw [e]; simp⟩) (fun m hm => ?_) (fun b u e => ?_) I.bare
  · obtain ⟨f0, f1, f2, f3, f4, f5⟩ := hf b hb
    exact ⟨f3, f1, f4, f5⟩
  · obtain ⟨o, es, ep, ho, r⟩ := hm
    exact ⟨o, es, ep, k _ o hL ho, r⟩
  · refine (I.hok b u e).stay (fun c v hc q => k c v ?_ q) (fun _ q => q) fun _ _ q => q
    rcases hc with z | z
    · rw [z]; exact nit b u e
    · exact nit c _ z
end
section
variable {X : Cx} {pins : List (Addr × Obj)} {σ : L2.St} {H : Hp} {s : Shared} {h' : Heap}
theorem Inv.turnedT {t' : Nat} (ch : List Addr) {T : Addr} {ys : List V} {its : List Value} (I : Inv X pins σ H s) (k : ∀ b o, b ∉ ch → s.heap.get? b = some o → h'.get? b = some o) (hf : ∀ b ∈ ch, FpOk X pins H b) (hT : s.heap.objs.size ≤ T)
    (hz : ys.length ≤ sizeLine) (r : Vals ys its) (ht : IsTup h' T its.toArray) : Inv X pins σ (upd H T (.tup ys)) { s with heap := h', toks := t' } := by
  have nit : ∀ b u, H b = some u → b ∉ ch := fun b u e z => by
    have := (hf b z).1
    rw [this] at e; cases e
  have hTH : H T = none := I.hok.fresh hT
  have neT : ∀ b o, s.heap.get? b = some o → b ≠ T := fun b o e => Nat.ne_of_lt (Nat.lt_of_lt_of_le (Heap.lt_size e) hT)
  have hL : X.env.locals ∉ ch := fun z => (hf _ z).2.1 rfl
  refine I.step (g' := s.gens) (d' := s.drawn) (ch := ch) (fun b hb => ?_) (fun b o _ _ hc e _ => k b o hc e) (fun b o _ _ hc e _ => ⟨o.slots, k b o hc e⟩) (fun b o _ e n => by rw [upd_ne (neT b o e)]; exact n)
    (fun b o hc e => ⟨o, k b o hc e⟩) (fun b xs e => by rw [upd_ne (ne_of_none e hTH)]; exact e) (fun b o u e => by rw [upd_ne (ne_of_none e hTH)]; exact e) (fun b ps e => ⟨#[], by rw [upd_ne (ne_of_none e hTH), e]; simp⟩) (fun m hm => ?_) (fun b u e => ?_) I.bare
  · obtain ⟨f0, f1, f2, f3, f4, f5⟩ := hf b hb
    exact ⟨f3, f1, f4, f5⟩
  · obtain ⟨o, es, ep, ho, r⟩ := hm
    exact ⟨o, es, ep, k _ o hL ho, r⟩
  · by_cases hb : b = T
    · subst hb
      rw [upd_same] at e
      cases e
      exact ⟨hz, its, r, ht⟩
    · rw [upd_ne hb] at e
      refine (I.hok b u e).stay (fun c v hc q => k c v ?_ q) (fun c q => by rw [upd_ne (ne_of_none q hTH)]; exact q) fun c xs q => by rw [upd_ne (ne_of_none q hTH)]; exact q
      rcases hc with z | z
      · rw [z]; exact nit b u e
      · exact nit c _ z
end
inductive Sk where
  | L (a : Addr) | T (a : Addr) | S (z : Str) (t : Tok)
noncomputable def Sk.val : Sk → Value
  | .L a => .ref a
  | .T a => .ref a
  | .S z t => .str z t
noncomputable def Sk.obj : Sk → Obj
  | .L a => { cls := .type "list_iterator", data := .fields #[.ref a, .int 0 0] }
  | .T a => { cls := .type "tuple_iterator", data := .fields #[.ref a, .int 0 0] }
  | .S z t => { cls := .type (strIterType z), data := .fields #[.str z t, .int 0 0] }
def Sk.st (it : Addr) : Sk → Nat → Heap → Prop
  | .L a, i, h => h.IsListIter it a i
  | .T a, i, h => h.IsTupleIter it a i
  | .S z t, i, h => h.IsStrIter it (strIterType z) z t i
def Sk.seq (K : PySem.W.Frag) (H : Hp) : Sk → List V → Prop
  | .L a, ys => SqL K H a ys
  | .T a, ys => SqT K H a ys
  | .S z _, ys => ys = z.cps.toList.map fun c => V.str ⟨#[c]⟩
theorem Sk.st_get {it : Addr} {k : Sk} {i : Nat} {h : Heap} (st : k.st it i h) : ∃ o, h.get? it = some o ∧ ∃ n fs, o.cls = .type n ∧ o.data = .fields fs ∧ ["enumerate", "zip", "dict_itemiterator", "dict_reverseitemiterator", "odict_iterator", "itertools.zip_longest", "itertools.pairwise"].contains n = false := by
  cases k with
  | L a => obtain ⟨o, e, c, d⟩ := st; exact ⟨o, e, _, _, c, d, by decide⟩
  | T a => obtain ⟨o, e, c, d⟩ := st; exact ⟨o, e, _, _, c, d, by decide⟩
  | S z t =>
    obtain ⟨o, e, c, d⟩ := st
    refine ⟨o, e, _, _, c, d, ?_⟩
    rcases strIter_str (x := z) with q | q <;> (rw [q]; decide)
theorem Sk.st_keep {it : Addr} {k : Sk} {i : Nat} {h h' : Heap} (st : k.st it i h) (kk : ∀ o, h.get? it = some o → h'.get? it = some o) : k.st it i h' := by
  cases k with
  | L a => obtain ⟨o, e, r⟩ := st; exact ⟨o, kk o e, r⟩
  | T a => obtain ⟨o, e, r⟩ := st; exact ⟨o, kk o e, r⟩
  | S z t => obtain ⟨o, e, r⟩ := st; exact ⟨o, kk o e, r⟩
theorem Sk.obj_st {it : Addr} {k : Sk} {h : Heap} (e : h.get? it = some k.obj) : k.st it 0 h := by
  cases k with
  | L a => exact ⟨_, e, rfl, rfl⟩
  | T a => exact ⟨_, e, rfl, rfl⟩
  | S z t => exact ⟨_, e, rfl, rfl⟩
section
variable {X : Cx} {pins : List (Addr × Obj)} {σ : L2.St} {H : Hp} {s : Shared}
theorem Sk.inj (I : Inv X pins σ H s) {k : Sk} {ys zs : List V} (h : k.seq X.K H ys) (h' : k.seq X.K H zs) : ys = zs := by
  cases k with
  | L a => exact I.list_inj h h'
  | T a => exact I.tuple_inj h h'
  | S z t => exact h.trans h'.symm
theorem fp_base (I : Inv X pins σ H s) {b : Addr} (hf : FpOk X pins H b) : H b = none ∧ X.K.lookup b = none := by
  refine ⟨hf.1, ?_⟩
  cases e : X.K.lookup b with
  | none => rfl
  | some o =>
    have hb := I.ok.mod.kin b o e
    rcases hf.2.2.2.1 with z | z
    · exact absurd z (I.ok.noex b o hb)
    · exact absurd (Nat.lt_of_lt_of_le (Heap.lt_size hb) (Nat.le_trans I.ok.bsz z)) (Nat.lt_irrefl _)
theorem Sk.fp_ne (I : Inv X pins σ H s) {b a : Addr} (hf : FpOk X pins H b) {ys : List V} (h : SqL X.K H a ys ∨ SqT X.K H a ys) : a ≠ b := fun e => by
  subst e
  obtain ⟨h1, h2⟩ := fp_base I hf
  rcases h with ((h | ⟨_, h⟩) | ⟨_, _, _, h, _⟩) | ((h | ⟨_, h⟩) | ⟨_, _, _, h, _⟩)
  all_goals first | (rw [h1] at h; cases h) | (rw [h2] at h; cases h)
theorem Sk.draws {A : Around} (I : Inv X pins σ H s) (hh : A.handled = none) {k : Sk} {ys : List V} (hs : k.seq X.K H ys) {it : Addr} (hf : FpOk X pins H it) {i : Nat} (st : k.st it i s.heap) :
    ∃ fp St, Draws X.prog X.w A it fp ys.length (fun i v => ∃ y, ys[i]? = some y ∧ RelV y v) St ∧ St i s.heap ∧ it ∈ fp ∧ (∀ b, FpOk X pins H b → b ≠ it → b ∉ fp) ∧ ∀ j h, St j h → k.st it j h := by
  cases k with
  | L a =>
    obtain ⟨its, r, p, hz⟩ := I.list hs
    have hne : a ≠ it := Sk.fp_ne I hf (.inl hs)
    refine ⟨[it, a], (fun i h => h.IsListIter it a i ∧ h.IsList a its.toArray), ?_, ⟨st, p.isList⟩, by simp, fun b hb e => ?_, fun j h q => q.1⟩
    · have D := fj_draws_map (P' := fun i v => ∃ y, ys[i]? = some y ∧ RelV y v) (Draws.list (prog := X.prog) (w := X.w) hh it a hne its.toArray) (fun i v e => by
        have hi : i < its.length := by
          have := (Array.getElem?_eq_some_iff.mp e).1
          simpa using this
        have hy : i < ys.length := by rw [r.length]; exact hi
        obtain ⟨u, hu, ru⟩ := r.get (i := i) (x := ys[i]) (by simp [hy])
        have : u = v := by
          have e' : its[i]? = some v := by simpa using e
          rw [hu] at e'; exact Option.some.inj e'
        subst this
        exact ⟨ys[i], by simp [hy], ru⟩)
      rw [List.size_toArray, ← r.length] at D
      exact D
    · have := Sk.fp_ne I hb (.inl hs)
      simp only [List.mem_cons, List.not_mem_nil, or_false]
      rintro (q | q)
      · exact e q
      · exact this q.symm
  | T a =>
    obtain ⟨its, r, p, hz⟩ := I.tuple hs
    have hne : a ≠ it := Sk.fp_ne I hf (.inr hs)
    refine ⟨[it, a], (fun i h => h.IsTupleIter it a i ∧ h.IsTuple a its.toArray), ?_, ⟨st, (show s.heap.IsTuple a its.toArray from p)⟩, by simp, fun b hb e => ?_, fun j h q => q.1⟩
    · have D := fj_draws_map (P' := fun i v => ∃ y, ys[i]? = some y ∧ RelV y v) (fj_draws_tuple (prog := X.prog) (w := X.w) hh it a hne its.toArray) (fun i v e => by
        have hi : i < its.length := by
          have := (Array.getElem?_eq_some_iff.mp e).1
          simpa using this
        have hy : i < ys.length := by rw [r.length]; exact hi
        obtain ⟨u, hu, ru⟩ := r.get (i := i) (x := ys[i]) (by simp [hy])
        have : u = v := by
          have e' : its[i]? = some v := by simpa using e
          rw [hu] at e'; exact Option.some.inj e'
        subst this
        exact ⟨ys[i], by simp [hy], ru⟩)
      rw [List.size_toArray, ← r.length] at D
      exact D
    · have := Sk.fp_ne I hb (.inr hs)
      simp only [List.mem_cons, List.not_mem_nil, or_false]
      rintro (q | q)
      · exact e q
      · exact this q.symm
  | S z t =>
    have hs : ys = z.cps.toList.map fun c => V.str ⟨#[c]⟩ := hs
    subst hs
    have P' : ∀ (i : Nat) (v : Value), (∃ (c : Nat) (u : Tok), z.cps[i]? = some c ∧ v = Value.str ⟨#[c]⟩ u) → ∃ y, (z.cps.toList.map fun c => V.str ⟨#[c]⟩)[i]? = some y ∧ RelV y v := by
      rintro i v ⟨c, u, h1, h2⟩
      refine ⟨.str ⟨#[c]⟩, ?_, u, h2⟩
      rw [List.getElem?_map, Array.getElem?_toList, h1]; rfl
    have hl : (z.cps.toList.map fun c => V.str ⟨#[c]⟩).length = z.cps.size := by simp
    have key : strIterType z = "str_ascii_iterator" ∨ strIterType z = "str_iterator" := strIter_str
    rcases key with e | e
    · have st' : s.heap.IsStrIter it "str_ascii_iterator" z t i := by rw [← e]; exact st
      refine ⟨[it], _, by rw [hl]; exact fj_draws_map (Draws.strAscii hh it z t) P', st', by simp, fun b hb e => by simpa using e, fun j h q => by show h.IsStrIter it (strIterType z) z t j; rw [e]; exact q⟩
    · have st' : s.heap.IsStrIter it "str_iterator" z t i := by rw [← e]; exact st
      refine ⟨[it], _, by rw [hl]; exact fj_draws_map (Draws.strWide hh it z t) P', st', by simp, fun b hb e => by simpa using e, fun j h q => by show h.IsStrIter it (strIterType z) z t j; rw [e]; exact q⟩
theorem Sk.iter (I : Inv X pins σ H s) {k : Sk} {ys : List V} (hs : k.seq X.K H ys) : FjIter k.val k.obj s.heap := by
  intro prog w A E s' Q e q
  cases k with
  | L a =>
    obtain ⟨its, r, p, hz⟩ := I.list hs
    exact wpAny_pyIter_list (by rw [e]; exact p.isList) q
  | T a =>
    obtain ⟨its, r, p, hz⟩ := I.tuple hs
    exact wpAny_pyIter_tuple (by rw [e]; exact (show s.heap.IsTuple a its.toArray from p)) q
  | S z t => exact wpAny_pyIter_strU q
theorem Sk.iter2 (I : Inv X pins σ H s) {k : Sk} {ys : List V} (hs : k.seq X.K H ys) (o : Obj) : FjIter k.val k.obj (s.heap.push o) := by
  intro prog w A E s' Q e q
  cases k with
  | L a =>
    obtain ⟨its, r, p, hz⟩ := I.list hs
    exact wpAny_pyIter_list (by rw [e]; exact p.isList.push _) q
  | T a =>
    obtain ⟨its, r, p, hz⟩ := I.tuple hs
    exact wpAny_pyIter_tuple (by rw [e]; exact Heap.IsTuple.push (show s.heap.IsTuple a its.toArray from p) _) q
  | S z t => exact wpAny_pyIter_strU q
end
theorem Sk.freed (k : Sk) : k.obj.isFreed = false := by cases k <;> rfl
noncomputable def Ite (K : PySem.W.Frag) (k : Sk) : It := ⟨fun i H => ∃ ys y, k.seq K H ys ∧ ys[i]? = some y, fun i H x H' => ∃ p, x = .ref p ∧ H p = none ∧ ∀ ys, k.seq K H ys → ∃ y, ys[i]? = some y ∧ H' = upd H p (.tup [.int i, y]), fun i H => ∃ ys, k.seq K H ys ∧ ys.length = i⟩
theorem turn_enum {P : Program} {w : World} {K : PySem.W.Frag} {elts : List Expr} {n : Nat} {pos : Pos} (k : Sk) (e it : Addr) (hne : e ≠ it) : Turn P w K (.Tuple elts n pos) (Ite K k) [e, it] e (fun i h => (∃ old, IsEnum h e it i old) ∧ k.st it i h) where
  mem := by simp
  obj := fun i h st b hb => by
    obtain ⟨⟨old, he⟩, s⟩ := st
    simp only [List.mem_cons, List.not_mem_nil, or_false] at hb
    rcases hb with rfl | rfl
    · exact ⟨_, he, fun v z => by cases z⟩
    · obtain ⟨o, e, n, fs, c, d, _⟩ := Sk.st_get s
      exact ⟨o, e, fun v z => by rw [d] at z; cases z⟩
  keep := fun i h h' st kk => by
    obtain ⟨⟨old, he⟩, s⟩ := st
    exact ⟨⟨old, kk e (by simp) _ he⟩, Sk.st_keep s fun o q => kk it (by simp) o q⟩
  item := by
    intro X hP hw hK hc i pins s σ H E I hf st hg
    subst hP hw hK
    obtain ⟨ys, y, hq, hy⟩ := hg
    obtain ⟨⟨old, he⟩, sti⟩ := st
    have hfe := hf e (by simp)
    have hfi := hf it (by simp)
    have hhd : X.A.in1.handled = none := I.ok.hd hc
    obtain ⟨fp, St, D, st0, hm, hout, hst⟩ := Sk.draws I hhd hq hfi sti
    have W := WalksT.enumerateD (A := X.A) D e hne (hout e hfe hne) hm
    have hi : i < ys.length := (List.getElem?_eq_some_iff.mp hy).1
    refine W.item i s _ _ hi ⟨⟨old, he⟩, st0⟩ fun T vals h' tk hP hT hTup hMid hk => ⟨.ref T, rfl, ?_⟩
    obtain ⟨t, x, ⟨y', hy', ry⟩, rfl⟩ := hP
    have : y' = y := by rw [hy] at hy'; exact (Option.some.inj hy').symm
    subst this
    have hap := W.apart i T h' hMid
    refine W.go elts n pos i T { s with heap := h', toks := tk } _ E hMid fun h'' hSt hk2 => ?_
    have hTn : T ∉ [e, it] := hap
    have kk : ∀ b o, b ∉ [e, it] → s.heap.get? b = some o → h''.get? b = some o := fun b o hb eb => hk2 b o hb (hk b o hb eb)
    have hTs : h''.IsTuple T #[.int i t, x] := by
      obtain ⟨o, ho, r⟩ := hTup
      exact ⟨o, hk2 T o hTn ho, r⟩
    have hTH : H T = none := I.hok.fresh hT
    have I2 : Inv X pins σ (upd H T (.tup [.int i, y'])) { s with heap := h'', toks := tk } := I.turnedT [e, it] kk (fun b hb => hf b hb) hT (by show 2 ≤ sizeLine; decide) (its := [.int i t, x]) (.cons ⟨t, rfl⟩ (.cons ry .nil)) hTs
    refine ⟨.ref T, _, I2, rfl, ⟨T, rfl, hTH, fun zs hz => ?_⟩, ⟨hSt.1, hst _ _ hSt.2⟩, fun b hb => ?_⟩
    · rw [Sk.inj I hz hq]; exact ⟨y', hy, rfl⟩
    · rw [upd_ne fun q => hTn (by rw [← q]; exact hb)]
      exact (hf b hb).1
  done := by
    intro X hP hw hK hc i pins s σ H E I hf st hg
    subst hP hw hK
    obtain ⟨ys, hq, hy⟩ := hg
    obtain ⟨⟨old, he⟩, sti⟩ := st
    have hfe := hf e (by simp)
    have hfi := hf it (by simp)
    have hhd : X.A.in1.handled = none := I.ok.hd hc
    obtain ⟨fp, St, D, st0, hm, hout, hst⟩ := Sk.draws I hhd hq hfi sti
    have W := WalksT.enumerateD (A := X.A) D e hne (hout e hfe hne) hm
    subst hy
    exact W.done s _ _ ⟨⟨old, he⟩, st0⟩ fun h' tk hk => ⟨rfl, I.turnedL [e, it] hk (fun b hb => hf b hb)⟩
  self := fun A i s Q E st h => by
    obtain ⟨⟨old, he⟩, _⟩ := st
    exact wpAny_pyIter_enum he h
noncomputable def Itz (K : PySem.W.Frag) (k k2 : Sk) : It := ⟨fun i H => ∃ ys zs y z, k.seq K H ys ∧ k2.seq K H zs ∧ ys[i]? = some y ∧ zs[i]? = some z,
  fun i H x H' => ∃ p, x = .ref p ∧ H p = none ∧ ∀ ys zs, k.seq K H ys → k2.seq K H zs → ∃ y z, ys[i]? = some y ∧ zs[i]? = some z ∧ H' = upd H p (.tup [y, z]),
  fun i H => ∃ ys zs, k.seq K H ys ∧ k2.seq K H zs ∧ (i = ys.length ∨ (i < ys.length ∧ i = zs.length))⟩
theorem turn_zip {P : Program} {w : World} {K : PySem.W.Frag} {elts : List Expr} {n : Nat} {pos : Pos} (k k2 : Sk) (z TI TO i1 i2 : Addr) (nd : [z, TI, TO, i1, i2].Nodup) : Turn P w K (.Tuple elts n pos) (Itz K k k2) [z, TI, TO, i1, i2] z
    (fun i h => IsZip h z TI TO .none ∧ IsPair h TI (.ref i1) (.ref i2) ∧ (∃ a b, IsPair h TO a b) ∧ k.st i1 i h ∧ k2.st i2 i h) where
  mem := by simp
  obj := fun i h st b hb => by
    obtain ⟨h1, h2, ⟨a, c, h3⟩, h4, h5⟩ := st
    simp only [List.mem_cons, List.not_mem_nil, or_false] at hb
    rcases hb with rfl | rfl | rfl | rfl | rfl
    · exact ⟨_, h1, fun v z => by cases z⟩
    · exact ⟨_, h2, fun v z => by cases z⟩
    · exact ⟨_, h3, fun v z => by cases z⟩
    · obtain ⟨o, e, n, fs, c, d, _⟩ := Sk.st_get h4
      exact ⟨o, e, fun v z => by rw [d] at z; cases z⟩
    · obtain ⟨o, e, n, fs, c, d, _⟩ := Sk.st_get h5
      exact ⟨o, e, fun v z => by rw [d] at z; cases z⟩
  keep := fun i h h' st kk => by
    obtain ⟨h1, h2, ⟨a, c, h3⟩, h4, h5⟩ := st
    exact ⟨kk z (by simp) _ h1, kk TI (by simp) _ h2, ⟨a, c, kk TO (by simp) _ h3⟩, Sk.st_keep h4 fun o q => kk i1 (by simp) o q, Sk.st_keep h5 fun o q => kk i2 (by simp) o q⟩
  item := by
    intro X hP hw hK hc i pins s σ H E I hf st hg
    subst hP hw hK
    obtain ⟨ys, zs, y, y2, hq, hq2, hy, hy2⟩ := hg
    obtain ⟨h1, h2, ⟨a, c, h3⟩, h4, h5⟩ := st
    have hz0 := hf z (by simp)
    have hTI := hf TI (by simp)
    have hTO := hf TO (by simp)
    have hi1 := hf i1 (by simp)
    have hi2 := hf i2 (by simp)
    simp only [List.nodup_cons, List.mem_cons, List.not_mem_nil, or_false, not_or, List.nodup_nil, and_true, not_false_eq_true] at nd
    obtain ⟨⟨n1, n2, n3, n4⟩, ⟨n5, n6, n7⟩, ⟨n8, n9⟩, n10⟩ := nd
    have hhd : X.A.in1.handled = none := I.ok.hd hc
    obtain ⟨fp, St, D, st0, hm, hout, hst⟩ := Sk.draws I hhd hq hi1 h4
    obtain ⟨fp2, St2, D2, st02, hm2, hout2, hst2⟩ := Sk.draws I hhd hq2 hi2 h5
    have Z : FjZip z TI TO i1 i2 fp fp2 := ⟨Ne.symm n1, Ne.symm n2, n5, n6, n7, hm, hm2, hout z hz0 n3, hout2 z hz0 n4, hout TO hTO n8, hout2 TO hTO n9, hout2 i1 hi1 n10, hout i2 hi2 (Ne.symm n10)⟩
    have l1 : i < ys.length := (List.getElem?_eq_some_iff.mp hy).1
    have l2 : i < zs.length := (List.getElem?_eq_some_iff.mp hy2).1
    refine fj_zip_item Z D D2 h1 h2 h3 st0 st02 l1 l2 fun u v h' tk p1 p2 g1 g2 g3 g4 g5 g6 g7 => ⟨.ref s.heap.objs.size, rfl, ?_⟩
    obtain ⟨y', hy', ry⟩ := p1
    obtain ⟨y2', hy2', ry2⟩ := p2
    have e1 : y' = y := by rw [hy] at hy'; exact (Option.some.inj hy').symm
    have e2 : y2' = y2 := by rw [hy2] at hy2'; exact (Option.some.inj hy2').symm
    subst e1 e2
    refine wpAny_letOwnedTupleGo_zip (s := { s with heap := h', toks := tk }) g1 fun h'' hz'' hs'' => ?_
    replace hs'' : Heap.SameBut z h' h'' := hs''
    have lt : ∀ {c o}, s.heap.get? c = some o → s.heap.objs.size ≠ c := fun e => Nat.ne_of_gt (Heap.lt_size e)
    have kk : ∀ b o, b ∉ [z, TI, TO, i1, i2] → s.heap.get? b = some o → h''.get? b = some o := fun b o hb eb => by
      simp only [List.mem_cons, List.not_mem_nil, or_false, not_or] at hb
      exact hs''.extBut _ _ hb.1 (g7 b o hb.1 hb.2.2.1 hb.2.2.2.1 hb.2.2.2.2 eb)
    have hTz : s.heap.objs.size ≠ z := lt h1
    have hTn : s.heap.objs.size ∉ [z, TI, TO, i1, i2] := by
      simp only [List.mem_cons, List.not_mem_nil, or_false, not_or]
      refine ⟨hTz, lt h2, lt h3, ?_, ?_⟩
      · obtain ⟨o, e, _⟩ := Sk.st_get h4; exact lt e
      · obtain ⟨o, e, _⟩ := Sk.st_get h5; exact lt e
    have hTs : IsTup h'' s.heap.objs.size #[u, v] := ⟨_, hs''.extBut _ _ hTz g5, rfl, _, rfl⟩
    have hTH : H s.heap.objs.size = none := I.hok.fresh (Nat.le_refl _)
    have I2 : Inv X pins σ (upd H s.heap.objs.size (.tup [y', y2'])) { s with heap := h'', toks := tk } := I.turnedT [z, TI, TO, i1, i2] kk (fun b hb => hf b hb) (Nat.le_refl _) (by show 2 ≤ sizeLine; decide) (its := [u, v]) (.cons ry (.cons ry2 .nil)) hTs
    have up : ∀ c o, c ≠ z → h'.get? c = some o → h''.get? c = some o := fun c o hc e => hs''.extBut _ _ hc e
    refine ⟨.ref s.heap.objs.size, _, I2, rfl, ⟨_, rfl, hTH, fun as bs ha hb => ?_⟩, ⟨hz'', up _ _ (Ne.symm n1) (g7 _ _ (Ne.symm n1) n5 n6 n7 h2), ⟨_, _, up _ _ (Ne.symm n2) g2⟩, Sk.st_keep (hst _ _ g3) fun o q => up _ _ (Ne.symm n3) q, Sk.st_keep (hst2 _ _ g4) fun o q => up _ _ (Ne.symm n4) q⟩, fun b hb => ?_⟩
    · rw [Sk.inj I ha hq, Sk.inj I hb hq2]; exact ⟨y', y2', hy, hy2, rfl⟩
    · rw [upd_ne fun q => hTn (by rw [← q]; exact hb)]
      exact (hf b hb).1
  done := by
    intro X hP hw hK hc i pins s σ H E I hf st hg
    subst hP hw hK
    obtain ⟨ys, zs, hq, hq2, hend⟩ := hg
    obtain ⟨h1, h2, ⟨a, c, h3⟩, h4, h5⟩ := st
    have hz0 := hf z (by simp)
    have hTI := hf TI (by simp)
    have hTO := hf TO (by simp)
    have hi1 := hf i1 (by simp)
    have hi2 := hf i2 (by simp)
    simp only [List.nodup_cons, List.mem_cons, List.not_mem_nil, or_false, not_or, List.nodup_nil, and_true, not_false_eq_true] at nd
    obtain ⟨⟨n1, n2, n3, n4⟩, ⟨n5, n6, n7⟩, ⟨n8, n9⟩, n10⟩ := nd
    have hhd : X.A.in1.handled = none := I.ok.hd hc
    obtain ⟨fp, St, D, st0, hm, hout, hst⟩ := Sk.draws I hhd hq hi1 h4
    obtain ⟨fp2, St2, D2, st02, hm2, hout2, hst2⟩ := Sk.draws I hhd hq2 hi2 h5
    have Z : FjZip z TI TO i1 i2 fp fp2 := ⟨Ne.symm n1, Ne.symm n2, n5, n6, n7, hm, hm2, hout z hz0 n3, hout2 z hz0 n4, hout TO hTO n8, hout2 TO hTO n9, hout2 i1 hi1 n10, hout i2 hi2 (Ne.symm n10)⟩
    refine fj_zip_end Z D D2 h1 h2 h3 st0 st02 hend fun h' tk hk => ⟨rfl, I.turnedL [z, TI, TO, i1, i2] (fun b o hb eb => ?_) (fun b hb => hf b hb)⟩
    simp only [List.mem_cons, List.not_mem_nil, or_false, not_or] at hb
    exact hk b o hb.1 hb.2.2.1 hb.2.2.2.1 hb.2.2.2.2 eb
  self := fun A i s Q E st h => wpAny_pyIter_zip st.1 h
def SkOf (K : PySem.W.Frag) (H : Hp) (x : V) (Rk : Sk → Prop) : Prop := (∃ a, x = .ref a ∧ (∃ ys, SqL K H a ys) ∧ Rk (.L a)) ∨ (∃ a, x = .ref a ∧ (∃ ys, SqT K H a ys) ∧ Rk (.T a)) ∨ (∃ z, x = .str z ∧ ∀ t, Rk (.S z t))
theorem SkOf.get {K : PySem.W.Frag} {H : Hp} {x : V} {u : Value} {Rk : Sk → Prop} (h : SkOf K H x Rk) (r : RelV x u) : ∃ k : Sk, u = k.val ∧ (∃ ys, k.seq K H ys) ∧ Rk k := by
  rcases h with ⟨a, rfl, ⟨ys, h⟩, q⟩ | ⟨a, rfl, ⟨ys, h⟩, q⟩ | ⟨z, rfl, q⟩
  · exact ⟨.L a, r, ⟨ys, h⟩, q⟩
  · exact ⟨.T a, r, ⟨ys, h⟩, q⟩
  · obtain ⟨t, rfl⟩ := r
    exact ⟨.S z t, rfl, ⟨_, rfl⟩, q t⟩
noncomputable def Sk.it (K : PySem.W.Frag) : Sk → It
  | .L a => Itl K a
  | .T a => Itt K a
  | .S z _ => Its z
section
variable {X : Cx} {tg : Expr}
def iAny (K : PySem.W.Frag) (te : TE) : TI := fun σ H R => te σ H fun x H1 => SkOf K H1 x fun k => R (k.it K) H1
theorem pi_any {e : Expr} {te : TE} (he : PE X e te) : PI X tg e (iAny X.K te) := by
  intro pins s σ H R I h
  refine thn (he pins s σ H _ I h) fun v s1 zq => ?_
  obtain ⟨x, H1, I1, r1, q1⟩ := zq
  obtain ⟨k, rfl, ⟨ys, hs⟩, q⟩ := q1.get r1
  refine (Sk.iter I1 hs) _ _ _ _ s1 _ rfl ?_
  have hb : ∀ b ∈ [s1.heap.objs.size], FpOk X pins H1 b := fun b hb => by
    have e : b = s1.heap.objs.size := by simpa using hb
    subst e
    exact I1.fpOk (Nat.le_refl _) (I1.hok.fresh (Nat.le_refl _))
  have I2 : Inv X pins σ H1 { s1 with heap := s1.heap.push k.obj } := I1.kept (t' := s1.toks) fun b o e => Heap.get?_push_of_some _ e
  cases k with
  | L a => exact ⟨s1.heap.objs.size, [s1.heap.objs.size], _, _, H1, rfl, I2, turn_list a _, ⟨_, Heap.get?_push_size _ rfl, rfl, rfl⟩, hb, q⟩
  | T a => exact ⟨s1.heap.objs.size, [s1.heap.objs.size], _, _, H1, rfl, I2, turn_tuple a _, ⟨_, Heap.get?_push_size _ rfl, rfl, rfl⟩, hb, q⟩
  | S z t => exact ⟨s1.heap.objs.size, [s1.heap.objs.size], _, _, H1, rfl, I2, turn_str _ z t, ⟨⟨_, Heap.get?_push_size _ rfl, rfl, rfl⟩, Nat.zero_le _⟩, hb, q⟩
def iEnum (K : PySem.W.Frag) (ta : TA) : TI := fun σ H R => ta σ H fun vs H1 => ∃ x, vs = [x] ∧ SkOf K H1 x fun k => R (Ite K k) H1
theorem pi_enum {a : Expr} {ta : TA} {p pos tpos : Pos} {elts : List Expr} {n : Nat} (hg : Gl X "enumerate") (hm : X.mg "enumerate" = none) (ha : PA X [a] ta) (hs : starEach [a] X.env = [(false, eval a X.env)] := by rfl) :
    PI X (.Tuple elts n tpos) (.Call (.Name "enumerate" p) [a] [] pos) (iEnum X.K ta) := by
  intro pins s σ H R I h
  refine Call_ (ld_blt I hg hm boot_enumerate (PyProof.Rows.callWith_type1 (thn (ha pos pins s σ H _ I h) fun us s1 ⟨vs, H1, I1, r1, q1⟩ => ?_) hs rfl))
  obtain ⟨x, rfl, q1⟩ := q1
  obtain ⟨u, rfl, ru⟩ := vals1 r1
  obtain ⟨k, rfl, ⟨ys, hs⟩, q⟩ := q1.get ru
  have fin : ∀ h' : Heap, IsEnum h' (s1.heap.objs.size + 1) s1.heap.objs.size 0 .none → k.st s1.heap.objs.size 0 h' → (∀ b o, s1.heap.get? b = some o → h'.get? b = some o) →
      wpAny (model X.prog X.w) X.A (pyIter (.ref (s1.heap.objs.size + 1))) (PIE X pins σ (.Tuple elts n tpos) R) X.xe { s1 with heap := h' } := fun h' g1 g2 g3 => by
    refine wpAny_pyIter_enum (s := { s1 with heap := h' }) g1 ?_
    have ne : s1.heap.objs.size + 1 ≠ s1.heap.objs.size := by omega
    refine ⟨s1.heap.objs.size + 1, [s1.heap.objs.size + 1, s1.heap.objs.size], _, _, H1, rfl, I1.kept (t' := s1.toks) g3, turn_enum k _ _ ne, ⟨⟨_, g1⟩, g2⟩, fun b hb => ?_, q⟩
    have hle : s1.heap.objs.size ≤ b := by
      simp only [List.mem_cons, List.not_mem_nil, or_false] at hb
      rcases hb with rfl | rfl <;> omega
    exact I1.fpOk hle (I1.hok.fresh hle)
  cases k with
  | L a =>
    obtain ⟨its, r, pl, hz⟩ := I1.list hs
    exact call_enumerate_list pl.isList fun h' g1 g2 g3 g4 => fin h' g1 g2 g4
  | T a =>
    obtain ⟨its, r, pl, hz⟩ := I1.tuple hs
    exact fj_call_enum_T (show s1.heap.IsTuple a its.toArray from pl) fun h' g1 g2 g3 g4 => fin h' g1 g2 g4
  | S z t => exact call_enumerate_str fun h' g1 g2 g3 g4 => fin h' g1 g2 g4
theorem boot_zip' : bootBuiltins "zip" = some (.type "zip") := by decide +kernel
def iZip (K : PySem.W.Frag) (ta : TA) : TI := fun σ H R => ta σ H fun vs H1 => ∃ x y, vs = [x, y] ∧ SkOf K H1 x fun k => SkOf K H1 y fun k2 => R (Itz K k k2) H1
theorem pi_zip {a b : Expr} {ta : TA} {p pos tpos : Pos} {elts : List Expr} {n : Nat} (hg : Gl X "zip") (hm : X.mg "zip" = none) (ha : PA X [a, b] ta) (hs : starEach [a, b] X.env = [(false, eval a X.env), (false, eval b X.env)] := by rfl) (hs2 : starEach [b] X.env = [(false, eval b X.env)] := by rfl) :
    PI X (.Tuple elts n tpos) (.Call (.Name "zip" p) [a, b] [] pos) (iZip X.K ta) := by
  intro pins s σ H R I h
  refine Call_ (ld_blt I hg hm boot_zip' (PyProof.Rows.callWith_type1 (thn (ha pos pins s σ H _ I h) fun us s1 ⟨vs, H1, I1, r1, q1⟩ => ?_) (by rw [hs, hs2]) (by rw [hs2]; rfl)))
  obtain ⟨x, y, rfl, q1⟩ := q1
  obtain ⟨u, v, rfl, ru, rv⟩ := vals2 r1
  obtain ⟨k, rfl, ⟨ys, hs⟩, q⟩ := q1.get ru
  obtain ⟨k2, rfl, ⟨zs, hs2⟩, q⟩ := q.get rv
  refine fj_call_zip (Sk.iter I1 hs) (Sk.iter2 I1 hs2 _) k.freed k2.freed fun h' g1 g2 g3 g4 g5 g6 g7 => ?_
  refine wpAny_pyIter_zip (s := { s1 with heap := h' }) g1 ?_
  refine ⟨_, [s1.heap.objs.size + 4, s1.heap.objs.size + 2, s1.heap.objs.size + 3, s1.heap.objs.size, s1.heap.objs.size + 1], _, _, H1, rfl, I1.kept (t' := s1.toks) g7, turn_zip k k2 _ _ _ _ _ (by simp), ⟨g1, g2, ⟨_, _, g3⟩, Sk.obj_st g4, Sk.obj_st g5⟩, fun b hb => ?_, q⟩
  have hle : s1.heap.objs.size ≤ b := by
    simp only [List.mem_cons, List.not_mem_nil, or_false] at hb
    rcases hb with rfl | rfl | rfl | rfl | rfl <;> omega
  exact I1.fpOk hle (I1.hok.fresh hle)
end
end L2
set_option Elab.async false
set_option linter.all false
set_option maxRecDepth 100000
set_option maxHeartbeats 4000000
namespace L3
open PySem PySem.Spec PyProof.Rows L2
noncomputable def itemsD : D → Option (List D)
  | .lst ds => some ds
  | .tup ds => some ds
  | .scr ns => some (ns.map D.int)
  | .str z => some (z.cps.toList.map fun c => D.str ⟨#[c]⟩)
  | _ => none
def SkV (d : D) (v : V) (k : Sk) : Prop := match d with
  | .lst _ | .scr _ => ∃ a, v = .ref a ∧ k = .L a
  | .tup _ => ∃ a, v = .ref a ∧ k = .T a
  | .str z => v = .str z ∧ ∃ t, k = .S z t
  | _ => False
section
variable {K : PySem.W.Frag} {F α : List Addr} {H : Hp} {M : Ms}
theorem src_seq (o : OK K F α H M) {d : D} {v : V} {items : List D} {k : Sk} (r : Rep K α (hid F α M H) d v) (e : itemsD (vw M d) = some items) (hk : SkV (vw M d) v k) : ∃ ys, k.seq K H ys ∧ Reps K α (hid F α M H) items ys := by
  generalize e1 : vw M d = x at e hk
  cases x <;> first | (exfalso; cases e; done) | skip
  · cases e
    have e2 := vw_str e1
    subst e2
    obtain ⟨rfl, t, rfl⟩ := hk
    exact ⟨_, rfl, Reps.of_map _ _ (fun c => rep_str) _⟩
  · cases e
    obtain ⟨a, rfl, rfl⟩ := hk
    obtain ⟨a', vs, e3, q, z⟩ := rd_tup o r e1
    cases e3
    exact ⟨vs, q, z⟩
  · cases e
    obtain ⟨a, rfl, rfl⟩ := hk
    obtain ⟨a', vs, e3, q, z⟩ := rd_lst o r e1
    cases e3
    exact ⟨vs, SqL.of q, z⟩
  · cases e
    have e2 := vw_scr e1
    subst e2
    obtain ⟨a, rfl, rfl⟩ := hk
    unfold Rep at r
    obtain ⟨a', e3, q⟩ := r
    cases e3
    exact ⟨_, same_seqL hide_same q, Reps.of_map _ _ (fun c => rep_int) _⟩
theorem src_of (o : OK K F α H M) {d : D} {v : V} {items : List D} {Rk : Sk → Prop} (r : Rep K α (hid F α M H) d v) (e : itemsD (vw M d) = some items) (h : ∀ k, SkV (vw M d) v k → Rk k) : SkOf K H v Rk := by
  generalize e1 : vw M d = x at e h
  cases x <;> first | (exfalso; cases e; done) | skip
  · have e2 := vw_str e1
    subst e2
    unfold Rep at r
    subst r
    exact .inr (.inr ⟨_, rfl, fun t => h _ ⟨rfl, t, rfl⟩⟩)
  · obtain ⟨a', vs, rfl, q, z⟩ := rd_tup o r e1
    exact .inr (.inl ⟨a', rfl, ⟨_, q⟩, h _ ⟨a', rfl, rfl⟩⟩)
  · obtain ⟨a', vs, rfl, q, z⟩ := rd_lst o r e1
    exact .inl ⟨a', rfl, ⟨_, SqL.of q⟩, h _ ⟨a', rfl, rfl⟩⟩
  · have e2 := vw_scr e1
    subst e2
    unfold Rep at r
    obtain ⟨a', rfl, q⟩ := r
    exact .inl ⟨a', rfl, ⟨_, same_seqL hide_same q⟩, h _ ⟨a', rfl, rfl⟩⟩
end
section
variable {X : Cx} {tg e a b : Expr} {te : DE} {tt : DA} {p pos tpos : Pos} {elts : List Expr} {n : Nat}
def iAnyD (te : DE) : DI := fun δ M Q => te δ M fun d M1 => ∃ items, itemsD (vw M1 d) = some items ∧ Q items (fun M' => vw M' d = vw M1 d) M1
theorem ji_any (he : JE X e te) : JI X tg e (iAnyD te) := by
  refine ⟨fun δ M P Q w q => he.mono δ _ _ _ (fun d M1 q => ?_) q, PI.weak (pi_any he.p) fun σ H Q q => ?_⟩
  · obtain ⟨items, e, q⟩ := q
    exact ⟨items, e, w _ _ _ q⟩
  · obtain ⟨F, α, δ, M, r, q⟩ := q
    refine ⟨F, α, δ, M, r, he.mono δ _ _ _ (fun d M1 q v α1 H1 e1 o1 r1 => ?_) q⟩
    obtain ⟨items, ei, q⟩ := q
    refine src_of o1 r1 ei fun k hk => q _ α1 H1 H1 id e1 o1 (Zed.refl o1) ?_
    have key : ∀ F' α' H' M', α1 <+: α' → Same (hid F α1 M1 H1) (hid F' α' M' H') → OK X.K F' α' H' M' → vw M' d = vw M1 d → ∃ ys, k.seq X.K H' ys ∧ Reps X.K α' (hid F' α' M' H') items ys := fun F' α' H' M' hp hs o' hst =>
      src_seq o' (Rep.mono hp hs d v r1) (by rw [hst]; exact ei) (by rw [hst]; exact hk)
    refine ⟨fun i F' α' H' M' hp hs o' hst hi => ?_, fun i F' α' H' M' x H2 d' hp hs o' hst hd hy => ?_, fun F' α' H' M' hp hs o' hst => ?_⟩
    · obtain ⟨ys, h1, h2⟩ := key F' α' H' M' hp hs o' hst
      have hl := Reps.length _ _ h2
      cases k with
      | L a => exact ⟨ys, ys[i], h1, by simp⟩
      | T a => exact ⟨ys, ys[i], h1, by simp⟩
      | S z t =>
        have h1 : ys = z.cps.toList.map fun c => V.str ⟨#[c]⟩ := h1
        show i < z.cps.size
        rw [h1] at hl
        simpa [hl] using hi
    · obtain ⟨ys, h1, h2⟩ := key F' α' H' M' hp hs o' hst
      have fin : ∀ H2, H2 = H' → ys[i]? = some x → OK X.K F' α' H2 M' ∧ Ext F' α' H' M' α' H2 M' ∧ Rep X.K α' (hid F' α' M' H2) d' x := fun H2 e hx => by
        subst e
        obtain ⟨d2, e2, r2⟩ := Reps.get' _ _ i x h2 hx
        rw [hd] at e2; cases e2
        exact ⟨o', Ext.refl, r2⟩
      cases k with
      | L a => exact fin _ hy.1 (hy.2 ys h1)
      | T a => exact fin _ hy.1 (hy.2 ys h1)
      | S z t =>
        obtain ⟨e, c, hc, hx⟩ := hy
        have h1 : ys = z.cps.toList.map fun c => V.str ⟨#[c]⟩ := h1
        refine fin _ e ?_
        rw [h1, List.getElem?_map, Array.getElem?_toList, hc, hx]; rfl
    · obtain ⟨ys, h1, h2⟩ := key F' α' H' M' hp hs o' hst
      have hl := Reps.length _ _ h2
      cases k with
      | L a => exact ⟨ys, h1, by omega⟩
      | T a => exact ⟨ys, h1, by omega⟩
      | S z t =>
        have h1 : ys = z.cps.toList.map fun c => V.str ⟨#[c]⟩ := h1
        show z.cps.size ≤ items.length
        rw [hl, h1]
        simp
def iEnumD (tt : DA) : DI := fun δ M Q => tt δ M fun ds M1 => match ds with
  | [d] => ∃ items, itemsD (vw M1 d) = some items ∧ Q (items.mapIdx fun i d => .tup [.int i, d]) (fun M' => vw M' d = vw M1 d) M1
  | _ => False
theorem reps2 {K : PySem.W.Frag} {α : List Addr} {H : Hp} {d : D} {vs : List V} (h : Reps K α H [d] vs) : ∃ v, vs = [v] ∧ Rep K α H d v := by
  unfold Reps at h
  obtain ⟨v, r, rfl, z, y⟩ := h
  unfold Reps at y
  subst y
  exact ⟨v, rfl, z⟩
theorem reps3 {K : PySem.W.Frag} {α : List Addr} {H : Hp} {d e : D} {vs : List V} (h : Reps K α H [d, e] vs) : ∃ v u, vs = [v, u] ∧ Rep K α H d v ∧ Rep K α H e u := by
  unfold Reps at h
  obtain ⟨v, r, rfl, z, y⟩ := h
  obtain ⟨u, rfl, w⟩ := reps2 y
  exact ⟨v, u, rfl, z, w⟩
theorem ji_enum (ha : JA X [a] tt) (hm : X.mg "enumerate" = none) (hg : Gl X "enumerate" := by rfl) (hs : starEach [a] X.env = [(false, eval a X.env)] := by rfl) : JI X (.Tuple elts n tpos) (.Call (.Name "enumerate" p) [a] [] pos) (iEnumD tt) := by
  refine ⟨fun δ M P Q w q => ha.mono δ _ _ _ (fun ds M1 q => ?_) q, PI.weak (pi_enum hg hm ha.p hs) fun σ H Q q => ?_⟩
  · match ds, q with
    | [d], ⟨items, e, q⟩ => exact ⟨items, e, w _ _ _ q⟩
  · obtain ⟨F, α, δ, M, r, q⟩ := q
    refine ⟨F, α, δ, M, r, ha.mono δ _ _ _ (fun ds M1 q vs α1 H1 e1 o1 r1 => ?_) q⟩
    match ds, q, r1 with
    | [d], ⟨items, ei, q⟩, r1 =>
      obtain ⟨v, ev, rv⟩ := reps2 r1
      subst ev
      refine ⟨v, rfl, src_of o1 rv ei fun k hk => q _ α1 H1 H1 id e1 o1 (Zed.refl o1) ?_⟩
      have key : ∀ F' α' H' M', α1 <+: α' → Same (hid F α1 M1 H1) (hid F' α' M' H') → OK X.K F' α' H' M' → vw M' d = vw M1 d → ∃ ys, k.seq X.K H' ys ∧ Reps X.K α' (hid F' α' M' H') items ys := fun F' α' H' M' hp hs o' hst =>
        src_seq o' (Rep.mono hp hs d v rv) (by rw [hst]; exact ei) (by rw [hst]; exact hk)
      refine ⟨fun i F' α' H' M' hp hs o' hst hi => ?_, fun i F' α' H' M' x H2 d' hp hs o' hst hd hy => ?_, fun F' α' H' M' hp hs o' hst => ?_⟩
      · obtain ⟨ys, h1, h2⟩ := key F' α' H' M' hp hs o' hst
        have hl := Reps.length _ _ h2
        rw [List.length_mapIdx] at hi
        exact ⟨ys, ys[i]'(by omega), h1, by simp⟩
      · obtain ⟨ys, h1, h2⟩ := key F' α' H' M' hp hs o' hst
        obtain ⟨p, rfl, hp', hy⟩ := hy
        obtain ⟨y, hy1, rfl⟩ := hy ys h1
        obtain ⟨d2, e2, r2⟩ := Reps.get' _ _ i y h2 hy1
        rw [List.getElem?_mapIdx, e2] at hd
        cases hd
        obtain ⟨o2, e2'⟩ := o'.laid (x := .tup [.int i, y]) hp'
        exact ⟨o2, e2', rep_tup_new o' hp' (Reps.cons rep_int (Reps.one r2)) e2'⟩
      · obtain ⟨ys, h1, h2⟩ := key F' α' H' M' hp hs o' hst
        have hl := Reps.length _ _ h2
        exact ⟨ys, h1, by rw [List.length_mapIdx]; omega⟩
def iZipD (tt : DA) : DI := fun δ M Q => tt δ M fun ds M1 => match ds with
  | [d, e] => ∃ xs ys, itemsD (vw M1 d) = some xs ∧ itemsD (vw M1 e) = some ys ∧ Q (List.zipWith (fun a b => .tup [a, b]) xs ys) (fun M' => vw M' d = vw M1 d ∧ vw M' e = vw M1 e) M1
  | _ => False
theorem ji_zip (ha : JA X [a, b] tt) (hm : X.mg "zip" = none) (hg : Gl X "zip" := by rfl) (hs : starEach [a, b] X.env = [(false, eval a X.env), (false, eval b X.env)] := by rfl) (hs2 : starEach [b] X.env = [(false, eval b X.env)] := by rfl) :
    JI X (.Tuple elts n tpos) (.Call (.Name "zip" p) [a, b] [] pos) (iZipD tt) := by
  refine ⟨fun δ M P Q w q => ha.mono δ _ _ _ (fun ds M1 q => ?_) q, PI.weak (pi_zip hg hm ha.p hs hs2) fun σ H Q q => ?_⟩
  · match ds, q with
    | [d, e], ⟨xs, ys, e1, e2, q⟩ => exact ⟨xs, ys, e1, e2, w _ _ _ q⟩
  · obtain ⟨F, α, δ, M, r, q⟩ := q
    refine ⟨F, α, δ, M, r, ha.mono δ _ _ _ (fun ds M1 q vs α1 H1 e1 o1 r1 => ?_) q⟩
    match ds, q, r1 with
    | [d, d2], ⟨items, items2, ei, ei2, q⟩, r1 =>
      obtain ⟨v, u, rfl, r1, r2⟩ := reps3 r1
      refine ⟨v, u, rfl, src_of o1 r1 ei fun k hk => src_of o1 r2 ei2 fun k2 hk2 => q _ α1 H1 H1 id e1 o1 (Zed.refl o1) ?_⟩
      have key : ∀ F' α' H' M', α1 <+: α' → Same (hid F α1 M1 H1) (hid F' α' M' H') → OK X.K F' α' H' M' → vw M' d = vw M1 d → ∃ ys, k.seq X.K H' ys ∧ Reps X.K α' (hid F' α' M' H') items ys := fun F' α' H' M' hp hs o' hst =>
        src_seq o' (Rep.mono hp hs d v r1) (by rw [hst]; exact ei) (by rw [hst]; exact hk)
      have key2 : ∀ F' α' H' M', α1 <+: α' → Same (hid F α1 M1 H1) (hid F' α' M' H') → OK X.K F' α' H' M' → vw M' d2 = vw M1 d2 → ∃ ys, k2.seq X.K H' ys ∧ Reps X.K α' (hid F' α' M' H') items2 ys := fun F' α' H' M' hp hs o' hst =>
        src_seq o' (Rep.mono hp hs d2 u r2) (by rw [hst]; exact ei2) (by rw [hst]; exact hk2)
      refine ⟨fun i F' α' H' M' hp hs o' hst hi => ?_, fun i F' α' H' M' x H2 d' hp hs o' hst hd hy => ?_, fun F' α' H' M' hp hs o' hst => ?_⟩
      · obtain ⟨ys, h1, h2⟩ := key F' α' H' M' hp hs o' hst.1
        obtain ⟨zs, h3, h4⟩ := key2 F' α' H' M' hp hs o' hst.2
        have hl := Reps.length _ _ h2
        have hl2 := Reps.length _ _ h4
        rw [List.length_zipWith] at hi
        exact ⟨ys, zs, ys[i]'(by omega), zs[i]'(by omega), h1, h3, by simp, by simp⟩
      · obtain ⟨ys, h1, h2⟩ := key F' α' H' M' hp hs o' hst.1
        obtain ⟨zs, h3, h4⟩ := key2 F' α' H' M' hp hs o' hst.2
        obtain ⟨p, rfl, hp', hy⟩ := hy
        obtain ⟨y, z, hy1, hz1, rfl⟩ := hy ys zs h1 h3
        obtain ⟨x1, e2, r2⟩ := Reps.get' _ _ i y h2 hy1
        obtain ⟨x2, e3, r3⟩ := Reps.get' _ _ i z h4 hz1
        rw [List.getElem?_zipWith, e2, e3] at hd
        cases hd
        obtain ⟨o2, e2'⟩ := o'.laid (x := .tup [y, z]) hp'
        exact ⟨o2, e2', rep_tup_new o' hp' (Reps.cons r2 (Reps.one r3)) e2'⟩
      · obtain ⟨ys, h1, h2⟩ := key F' α' H' M' hp hs o' hst.1
        obtain ⟨zs, h3, h4⟩ := key2 F' α' H' M' hp hs o' hst.2
        have hl := Reps.length _ _ h2
        have hl2 := Reps.length _ _ h4
        refine ⟨ys, zs, h1, h3, ?_⟩
        rw [List.length_zipWith]
        omega
noncomputable def rngD (lo : Int) (n : Nat) : List D := (List.range n).map fun (i : Nat) => D.int (lo + (i : Int))
theorem rng_ok {K : PySem.W.Frag} {F α1 : List Addr} {H1 : Hp} {M1 : Ms} {lo : Int} {n : Nat} : ItOK K F α1 H1 M1 (Itr lo n) (rngD lo n) fun _ => True := by
  refine ⟨fun i F' α' H' M' hp hs o' hst hi => ?_, fun i F' α' H' M' x H2 d' hp hs o' hst hd hy => ?_, fun F' α' H' M' hp hs o' hst => ?_⟩
  · show i < n
    simpa [rngD] using hi
  · obtain ⟨rfl, rfl⟩ := hy
    unfold rngD at hd
    rw [List.getElem?_map] at hd
    cases e : (List.range n)[i]? with
    | none => rw [e] at hd; cases hd
    | some j =>
      rw [e] at hd
      have : j = i := by
        have := List.getElem?_eq_some_iff.mp e
        obtain ⟨h1, h2⟩ := this
        simpa using h2.symm
      subst this
      cases hd
      exact ⟨o', Ext.refl, rep_int⟩
  · show n ≤ (rngD lo n).length
    simp [rngD]
def iRng1D (tt : DA) : DI := fun δ M Q => tt δ M fun ds M1 => match ds with
  | [.int j] => (-(2 ^ 62) ≤ j ∧ j < 2 ^ 62) ∧ Q (rngD 0 j.toNat) (fun _ => True) M1
  | _ => False
theorem ji_range1 (ha : JA X [a] tt) (hm : X.mg "range" = none) (hg : Gl X "range" := by rfl) (hs : starEach [a] X.env = [(false, eval a X.env)] := by rfl) : JI X tg (.Call (.Name "range" p) [a] [] pos) (iRng1D tt) := by
  refine ⟨fun δ M P Q w q => ha.mono δ _ _ _ (fun ds M1 q => ?_) q, PI.weak (pi_range1 hg hm ha.p hs) fun σ H Q q => ?_⟩
  · match ds, q with
    | [.int j], ⟨e, q⟩ => exact ⟨e, w _ _ _ q⟩
  · obtain ⟨F, α, δ, M, r, q⟩ := q
    refine ⟨F, α, δ, M, r, ha.mono δ _ _ _ (fun ds M1 q vs α1 H1 e1 o1 r1 => ?_) q⟩
    match ds, q, r1 with
    | [.int j], ⟨ei, q⟩, r1 =>
      obtain ⟨v, ev, rv⟩ := reps2 r1
      subst ev
      unfold Rep at rv
      subst rv
      exact ⟨j, rfl, ei.1, ei.2, q _ α1 H1 H1 id e1 o1 (Zed.refl o1) rng_ok⟩
end
end L3
set_option Elab.async false
set_option linter.all false
set_option maxRecDepth 100000
set_option maxHeartbeats 4000000
namespace L3
open PySem PySem.Spec PyProof.Rows L2
mutual
noncomputable def toP : D → PyData
  | .non => .none
  | .bl b => .bool b
  | .int i => .int i
  | .str x => .str x
  | .tup ds => .tuple (toPs ds)
  | .lst ds => .list (toPs ds)
  | .ty _ | .dct _ _ | .ins _ _ _ | .exc _ _ _ | .scr _ | .loc _ | .cls _ => .dict []
noncomputable def toPs : List D → List PyData
  | [] => []
  | d :: ds => toP d :: toPs ds
end
mutual
noncomputable def pl : D → Bool
  | .non | .bl _ | .int _ => true
  | .str x => PyData.strOk x
  | .tup ds | .lst ds => pls ds
  | .ty _ | .dct _ _ | .ins _ _ _ | .exc _ _ _ | .scr _ | .loc _ | .cls _ => false
noncomputable def pls : List D → Bool
  | [] => true
  | d :: ds => pl d && pls ds
end
mutual
noncomputable def dp : D → Nat
  | .tup ds | .lst ds => dps ds + 1
  | .non | .bl _ | .int _ | .str _ | .ty _ | .dct _ _ | .ins _ _ _ | .exc _ _ _ | .scr _ | .loc _ | .cls _ => 0
noncomputable def dps : List D → Nat
  | [] => 0
  | d :: ds => max (dp d) (dps ds)
end
mutual
noncomputable def eqD : D → D → Bool
  | .non, .non => true
  | .bl a, .bl b => a == b
  | .bl a, .int j => (if a then 1 else 0) == j
  | .int i, .bl b => i == (if b then 1 else 0)
  | .int i, .int j => i == j
  | .str x, .str y => x == y
  | .lst xs, .lst ys => eqDs xs ys
  | .tup xs, .tup ys => eqDs xs ys
  | _, _ => false
noncomputable def eqDs : List D → List D → Bool
  | [], [] => true
  | x :: xs, y :: ys => eqD x y && eqDs xs ys
  | _, _ => false
end
mutual
theorem toP_lay : ∀ d : D, pl d = true → (toP d).canLay0 = true
  | .non, _ => rfl
  | .bl _, _ => rfl
  | .int _, _ => rfl
  | .str _, h => by unfold toP; unfold pl at h; simpa [PyData.canLay0] using h
  | .tup ds, h => by unfold toP; unfold pl at h; simp [PyData.canLay0, toPs_lay ds h]
  | .lst ds, h => by unfold toP; unfold pl at h; simp [PyData.canLay0, toPs_lay ds h]
  | .ty _, h | .dct _ _, h | .ins _ _ _, h | .exc _ _ _, h | .scr _, h | .loc _, h | .cls _, h => by unfold pl at h; cases h
theorem toPs_lay : ∀ ds : List D, pls ds = true → PyData.canLayAll0 (toPs ds) = true
  | [], _ => by unfold toPs; rfl
  | d :: ds, h => by
    unfold pls at h
    rw [Bool.and_eq_true] at h
    unfold toPs
    simp [PyData.canLayAll0, toP_lay d h.1, toPs_lay ds h.2]
end
mutual
theorem toP_depth : ∀ d : D, (toP d).depth ≤ dp d + 1
  | .non | .bl _ | .int _ | .str _ => by unfold toP; simp [PyData.depth]
  | .tup ds => by unfold toP dp; have := toPs_depth ds; simp only [PyData.depth]; omega
  | .lst ds => by unfold toP dp; have := toPs_depth ds; simp only [PyData.depth]; omega
  | .ty _ | .dct _ _ | .ins _ _ _ | .exc _ _ _ | .scr _ | .loc _ | .cls _ => by unfold toP; simp [PyData.depth, PyData.depthKv]
theorem toPs_depth : ∀ ds : List D, PyData.depthAll (toPs ds) ≤ dps ds + 1
  | [] => by unfold toPs; simp [PyData.depthAll]
  | d :: ds => by
    unfold toPs dps
    have h1 := toP_depth d
    have h2 := toPs_depth ds
    simp only [PyData.depthAll]
    omega
end
mutual
theorem toP_eqv : ∀ x y : D, pl x = true → pl y = true → (toP x).eqv (toP y) = eqD x y
  | .non, y, _, h => by cases y <;> first | (unfold pl at h; cases h; done) | (unfold toP eqD; rfl)
  | .bl a, y, _, h => by cases y <;> first | (unfold pl at h; cases h; done) | (unfold toP eqD; rfl)
  | .int a, y, _, h => by cases y <;> first | (unfold pl at h; cases h; done) | (unfold toP eqD; rfl)
  | .str a, y, _, h => by cases y <;> first | (unfold pl at h; cases h; done) | (unfold toP eqD; rfl)
  | .tup xs, y, g, h => by
    cases y <;> first | (unfold pl at h; cases h; done) | skip
    case tup ys => unfold pl at g h; unfold toP eqD; simp only [PyData.eqv]; exact toPs_eqv xs ys g h
    all_goals unfold toP eqD; rfl
  | .lst xs, y, g, h => by
    cases y <;> first | (unfold pl at h; cases h; done) | skip
    case lst ys => unfold pl at g h; unfold toP eqD; simp only [PyData.eqv]; exact toPs_eqv xs ys g h
    all_goals unfold toP eqD; rfl
  | .ty _, _, g, _ | .dct _ _, _, g, _ | .ins _ _ _, _, g, _ | .exc _ _ _, _, g, _ | .scr _, _, g, _ | .loc _, _, g, _ | .cls _, _, g, _ => by unfold pl at g; cases g
theorem toPs_eqv : ∀ x y : List D, pls x = true → pls y = true → PyData.eqvAll (toPs x) (toPs y) = eqDs x y
  | [], [], _, _ => by unfold toPs eqDs; rfl
  | [], y :: ys, _, _ => by unfold toPs eqDs; rfl
  | x :: xs, [], _, _ => by unfold toPs eqDs; rfl
  | x :: xs, y :: ys, g, h => by
    unfold pls at g h
    rw [Bool.and_eq_true] at g h
    unfold toPs eqDs
    simp only [PyData.eqvAll]
    rw [toP_eqv x y g.1 h.1, toPs_eqv xs ys g.2 h.2]
end
mutual
theorem Rep.reads {X : Cx} {pins : List (Addr × Obj)} {σ : L2.St} {H : Hp} {s : Shared} {α : List Addr} (I : Inv X pins σ H s) : ∀ (d : D) (x : V) (v : Value), Rep X.K α H d x → RelV x v → pl d = true → ∃ as, Reads s.heap v (toP d) as
  | .non, x, v, h, r, _ => by unfold Rep at h; subst h; cases r; unfold toP; exact ⟨_, .none⟩
  | .bl _, x, v, h, r, _ => by unfold Rep at h; subst h; cases r; unfold toP; exact ⟨_, .bool _⟩
  | .int _, x, v, h, r, _ => by unfold Rep at h; subst h; obtain ⟨t, rfl⟩ := r; unfold toP; exact ⟨_, .int _ _⟩
  | .str _, x, v, h, r, _ => by unfold Rep at h; subst h; obtain ⟨t, rfl⟩ := r; unfold toP; exact ⟨_, .str _ _⟩
  | .tup ds, x, v, h, r, c => by
    unfold Rep at h
    obtain ⟨a, vs, rfl, q, z⟩ := h
    cases r
    obtain ⟨its, rv, ⟨o, e, cl, n, dd⟩, _⟩ := I.tuple q
    obtain ⟨as, w⟩ := Reps.reads I ds vs its z rv (by unfold pl at c; exact c)
    unfold toP
    exact ⟨_, .tuple e cl dd (by simpa using w)⟩
  | .lst ds, x, v, h, r, c => by
    unfold Rep at h
    obtain ⟨a, vs, rfl, q, z⟩ := h
    cases r
    obtain ⟨_, its, n, rv, e⟩ := I.hok a _ q
    obtain ⟨as, w⟩ := Reps.reads I ds vs its z rv (by unfold pl at c; exact c)
    unfold toP
    exact ⟨_, .list e rfl rfl (by simpa using w)⟩
  | .ty _, x, v, h, r, c | .dct _ _, x, v, h, r, c | .ins _ _ _, x, v, h, r, c | .exc _ _ _, x, v, h, r, c | .scr _, x, v, h, r, c | .loc _, x, v, h, r, c | .cls _, x, v, h, r, c => by unfold pl at c; cases c
theorem Reps.reads {X : Cx} {pins : List (Addr × Obj)} {σ : L2.St} {H : Hp} {s : Shared} {α : List Addr} (I : Inv X pins σ H s) : ∀ (ds : List D) (xs : List V) (vs : List Value), Reps X.K α H ds xs → Vals xs vs → pls ds = true → ∃ as, ReadsAll s.heap vs (toPs ds) as
  | [], xs, vs, h, r, _ => by unfold Reps at h; subst h; cases r; unfold toPs; exact ⟨_, .nil⟩
  | d :: ds, xs, vs, h, r, c => by
    unfold Reps at h
    obtain ⟨x, rx, rfl, q, z⟩ := h
    unfold pls at c
    rw [Bool.and_eq_true] at c
    unfold toPs
    cases r with
    | cons r1 r2 =>
      obtain ⟨as, w1⟩ := Rep.reads I d x _ q r1 c.1
      obtain ⟨bs, w2⟩ := Reps.reads I ds rx _ z r2 c.2
      exact ⟨_, .cons w1 w2⟩
end
theorem shaped_of {d : D} (h : pl d = true) (hd : dp d ≤ 60) : SeqAt.shaped (toP d) = true := by
  unfold SeqAt.shaped
  have := toP_depth d
  rw [toP_lay d h, Bool.true_and]
  exact decide_eq_true (by omega)
section
variable {X : Cx}
def okE (x y : D) : Prop := pl x = true ∧ pl y = true ∧ dp x ≤ 60 ∧ dp y ≤ 60
def cmpE (x y : D) (Q : Bool → Prop) : Prop := match x, y with
  | .str a, .str b => Q (a == b)
  | .int a, .int b => Q (a == b)
  | x, y => okE x y ∧ Q (eqD x y)
theorem cmpE_mono {x y : D} {P Q : Bool → Prop} (w : ∀ b, P b → Q b) (h : cmpE x y P) : cmpE x y Q := by
  unfold cmpE at h ⊢
  split <;> simp only at h
  · exact w _ h
  · exact w _ h
  · exact ⟨h.1, w _ h.2⟩
def gEq : G2 := fun x y M Q => cmpE (vw M x) (vw M y) fun b => Q (.bl b) M
def gNe : G2 := fun x y M Q => cmpE (vw M x) (vw M y) fun b => Q (.bl (!b)) M
theorem eq_core (hu : X.A.units + 64 < cLine) {pins : List (Addr × Obj)} {s : Shared} {σ : L2.St} {H : Hp} {x y : V} {v u : Value} (I : L2.Inv X pins σ H s) (rx : RelV x v) (ry : RelV y u) {F α : List Addr} {M : Ms} {da db : D} (o : OK X.K F α H M)
    (ra : Rep X.K α (hid F α M H) da x) (rb : Rep X.K α (hid F α M H) db y) {C : Bool → Prop} (h : cmpE (vw M da) (vw M db) C) {Q : VK} (neg : Bool) (fin : ∀ b, C b → Q (.bl (if neg then !b else b)) H) :
    wpAny (model X.prog X.w) X.A (compareOp (if neg then .NotEq else .Eq) v u) (EP X pins σ Q) X.xe s := by
  unfold cmpE at h
  split at h
  · rename_i a b e1 e2
    cases vw_str e1; cases vw_str e2
    unfold Rep at ra rb
    subst ra rb
    have e : decide (V.str a = V.str b) = (a == b) := dec_str
    cases neg with
    | false => exact op_eq pins s σ H _ _ v u Q I rx ry ⟨rfl, by rw [e]; exact fin _ h⟩
    | true => exact op_ne pins s σ H _ _ v u Q I rx ry ⟨rfl, by rw [e]; exact fin _ h⟩
  · rename_i a b e1 e2
    cases vw_int e1; cases vw_int e2
    unfold Rep at ra rb
    subst ra rb
    have e : decide (V.int a = V.int b) = (a == b) := dec_int
    cases neg with
    | false => exact op_eq pins s σ H _ _ v u Q I rx ry ⟨rfl, by rw [e]; exact fin _ h⟩
    | true => exact op_ne pins s σ H _ _ v u Q I rx ry ⟨rfl, by rw [e]; exact fin _ h⟩
  · obtain ⟨⟨c1, c2, c3, c4⟩, h⟩ := h
    obtain ⟨as, w1⟩ := Rep.reads I _ x v (Rep.mono (List.prefix_refl _) hide_same _ _ (rep_vw o _ _ ra)) rx c1
    obtain ⟨bs, w2⟩ := Rep.reads I _ y u (Rep.mono (List.prefix_refl _) hide_same _ _ (rep_vw o _ _ rb)) ry c2
    cases neg with
    | false =>
      refine eq_dataH w1 w2 (shaped_of c1 c3) (shaped_of c2 c4) hu ⟨.bl _, H, I, rfl, ?_⟩
      rw [toP_eqv _ _ c1 c2]
      exact fin _ h
    | true =>
      refine ne_dataH w1 w2 (shaped_of c1 c3) (shaped_of c2 c4) hu ⟨.bl _, H, I, rfl, ?_⟩
      rw [toP_eqv _ _ c1 c2]
      exact fin _ h
theorem jc_eq (hu : X.A.units + 64 < cLine) : JC X .Eq gEq := by
  refine ⟨fun x y M P Q w q => cmpE_mono (fun b q => w _ _ q) q, fun pins s σ H x y v u Q I rx ry h => ?_⟩
  obtain ⟨F, α, M, da, db, o, ra, rb, h⟩ := h
  exact eq_core hu I rx ry o ra rb h false fun b q => vK.now o q rep_bl
theorem jc_ne (hu : X.A.units + 64 < cLine) : JC X .NotEq gNe := by
  refine ⟨fun x y M P Q w q => cmpE_mono (fun b q => w _ _ q) q, fun pins s σ H x y v u Q I rx ry h => ?_⟩
  obtain ⟨F, α, M, da, db, o, ra, rb, h⟩ := h
  exact eq_core hu I rx ry o ra rb h true fun b q => vK.now o q rep_bl
noncomputable def fl : D → Bool
  | .non | .bl _ | .int _ | .str _ => true
  | _ => false
noncomputable def vOf : D → V
  | .bl b => .bl b
  | .int i => .int i
  | .str x => .str x
  | _ => .non
theorem fl_rep {K : PySem.W.Frag} {α : List Addr} {H : Hp} {d : D} {v : V} (h : fl d = true) (r : Rep K α H d v) : v = vOf d ∧ flatV v = true := by
  cases d <;> first | (cases h; done) | skip
  all_goals unfold Rep at r; subst r; exact ⟨rfl, rfl⟩
theorem fl_eq {x y : D} (h : fl x = true) (g : fl y = true) : eqV (vOf x) (vOf y) = eqD x y := by
  cases x <;> first | (cases h; done) | skip
  all_goals cases y <;> first | (cases g; done) | (unfold eqD; rfl)
theorem fl_reps {K : PySem.W.Frag} {α : List Addr} {H : Hp} {x : D} (hx : fl x = true) : ∀ (ds : List D) (vs : List V), ds.all fl = true → Reps K α H ds vs → vs.all flatV = true ∧ inV (vOf x) vs = ds.any fun y => eqD y x
  | [], vs, _, h => by unfold Reps at h; subst h; exact ⟨rfl, rfl⟩
  | d :: ds, vs, g, h => by
    unfold Reps at h
    obtain ⟨v, r, rfl, z, y⟩ := h
    rw [List.all_cons, Bool.and_eq_true] at g
    obtain ⟨i1, i2⟩ := fl_reps hx ds r g.2 y
    obtain ⟨e1, e2⟩ := fl_rep g.1 z
    subst e1
    refine ⟨by rw [List.all_cons, e2, i1]; rfl, ?_⟩
    unfold inV at i2 ⊢
    rw [List.any_cons, List.any_cons, fl_eq g.1 hx, i2]
theorem valD_isSome {K : PySem.W.Frag} {α : List Addr} {H : Hp} {k : Key} {ks : List Key} {ds : List D} {vs : List V} (h : Reps K α H ds vs) (hl : ks.length = ds.length) : (valV (ks.zip vs) k).isSome = (valD k ks ds).isSome := by
  obtain ⟨h1, h2⟩ := valD_rep (k := k) ks ds vs h hl
  cases e : valD k ks ds with
  | none => rw [h2 e]; rfl
  | some d => obtain ⟨v', hv, _⟩ := h1 d e; rw [hv]; rfl
noncomputable def inD (x y : D) : Option Bool := match y with
  | .lst ds => if (fl x && ds.all fl) = true then some (ds.any fun y => eqD y x) else none
  | .tup ds => if (fl x && ds.all fl) = true then some (ds.any fun y => eqD y x) else none
  | .str j => match x with
    | .str i => some (!(Builtin.Str.occurrences j i 0 j.length 1).isEmpty)
    | _ => none
  | .dct ks ds => match keyD x with
    | some k => some (valD k ks ds).isSome
    | none => none
  | _ => none
def gIn (neg : Bool) : G2 := fun x y M Q => ∃ b, inD x (vw M y) = some b ∧ Q (.bl (if neg then !b else b)) M
theorem gIn_mono {neg : Bool} : mono2 (gIn neg) := by
  rintro x y M P Q w ⟨b, e, q⟩
  exact ⟨b, e, w _ _ q⟩
theorem jc_in (hu : X.A.units + 1 < cLine) : JC X .In (gIn false) := by
  refine ⟨gIn_mono, fun pins s σ H x y v u Q I rx ry h => ?_⟩
  obtain ⟨F, α, M, da, db, o, ra, rb, b, eb, h⟩ := h
  generalize e1 : vw M db = z at eb
  unfold inD at eb
  cases z <;> first | (cases eb; done) | skip
  · have e2 := vw_str e1
    subst e2
    unfold Rep at rb
    subst rb
    cases da <;> first | (cases eb; done) | skip
    unfold Rep at ra
    subst ra
    cases eb
    exact op_in_str pins s σ H _ _ v u Q I rx ry ⟨_, _, rfl, rfl, vK.now o h rep_bl⟩
  · obtain ⟨a, vs, rfl, q, zz⟩ := rd_tup o rb e1
    simp only at eb
    split at eb
    · rename_i hc
      rw [Bool.and_eq_true] at hc
      cases eb
      obtain ⟨f1, f2⟩ := fl_rep hc.1 ra
      obtain ⟨g1, g2⟩ := fl_reps hc.1 _ _ hc.2 zz
      refine op_in_seq pins s σ H _ _ v u Q I rx ry ⟨a, vs, rfl, .inr q, f2, g1, ?_⟩
      subst f1
      rw [g2]
      exact vK.now o h rep_bl
    · cases eb
  · obtain ⟨a, vs, rfl, q, zz⟩ := rd_lst o rb e1
    simp only at eb
    split at eb
    · rename_i hc
      rw [Bool.and_eq_true] at hc
      cases eb
      obtain ⟨f1, f2⟩ := fl_rep hc.1 ra
      obtain ⟨g1, g2⟩ := fl_reps hc.1 _ _ hc.2 zz
      refine op_in_seq pins s σ H _ _ v u Q I rx ry ⟨a, vs, rfl, .inl (SqL.of q), f2, g1, ?_⟩
      subst f1
      rw [g2]
      exact vK.now o h rep_bl
    · cases eb
  · obtain ⟨a, vs, rfl, q, hl, zz⟩ := rd_dct o rb e1
    simp only at eb
    split at eb
    · rename_i k hk
      cases eb
      cases keyD_rep ra hk
      obtain rfl : u = Value.ref a := ry
      refine d_in hu I (DGet.kr q) rx fun s' I' => ⟨.bl _, H, I', rfl, ?_⟩
      rw [valD_isSome zz hl]
      exact vK.now o h rep_bl
    · cases eb
end
end L3
set_option Elab.async false
set_option linter.all false
set_option maxRecDepth 100000
set_option maxHeartbeats 4000000
namespace L3
open PySem PySem.Spec PyProof.Rows L2
section
variable {X : Cx} {a b c e : Expr} {es rest : List Expr} {ta tb tc te : DE} {tA : DT} {tt : DA} {pos p p2 p3 : Pos} {x : Str}
abbrev DO := DSt → Ms → (Option Int → Ms → Prop) → Prop
def lO (K : PySem.W.Frag) (t : DO) : TO := fun σ H Q => ∃ F α δ M, R K F α H σ δ M ∧ t δ M fun i M' => ∀ α' H', Ext F α H M α' H' M' → OK K F α' H' M' → Q i H'
structure JOp (X : Cx) (e : Option Expr) (t : DO) : Prop where
  mono : ∀ δ M (P Q : Option Int → Ms → Prop), (∀ d M, P d M → Q d M) → t δ M P → t δ M Q
  p : PO X e (lO X.K t)
theorem PO.weak {e : Option Expr} {t t' : TO} (h : PO X e t) (w : ∀ σ H Q, t' σ H Q → t σ H Q) : PO X e t' := by
  intro pins s σ H Q I q
  exact h pins s σ H Q I (w σ H Q q)
def dNoPart : DO := fun _ M Q => Q none M
def dPart (te : DE) : DO := fun δ M Q => te δ M fun d M1 => match d with | .int i => Q (some i) M1 | _ => False
theorem jop_none : JOp X none dNoPart := ⟨fun δ M P Q w q => w _ _ q, PO.weak po_none fun σ H Q ⟨F, α, δ, M, r, q⟩ => q α H Ext.refl r.ok⟩
theorem jop_some (h : JE X e te) : JOp X (some e) (dPart te) := by
  refine ⟨fun δ M P Q w q => h.mono δ _ _ _ (fun d M1 q => ?_) q, PO.weak (po_some h.p) fun σ H Q q => ?_⟩
  · cases d <;> first | exact q.elim | exact w _ _ q
  · obtain ⟨F, α, δ, M, r, q⟩ := q
    refine ⟨F, α, δ, M, r, h.mono δ _ _ _ (fun d M1 q v α1 H1 e1 o1 r1 => ?_) q⟩
    cases d <;> first | exact q.elim | skip
    unfold Rep at r1
    exact ⟨_, r1, q α1 H1 e1 o1⟩
def dSl (te : DE) (tl th : DO) : DE := fun δ M Q => te δ M fun d M1 => tl δ M1 fun lo M2 => th δ M2 fun hi M3 => match vw M3 d with
  | .lst xs => Q (.lst (cutD xs lo hi)) M3
  | .scr xs => Q (.lst (cutD (xs.map D.int) lo hi)) M3
  | .tup xs => ¬ (HT.sIx xs.length 0 lo = 0 ∧ HT.sIx xs.length xs.length hi = xs.length) ∧ Q (.tup (cutD xs lo hi)) M3
  | .str z => z.length ≤ sizeLine ∧ Q (.str (Txt.slice z lo hi)) M3
  | _ => False
theorem j_sl {lo hi : Option Expr} {tl th : DO} (he : JE X e te) (hl : JOp X lo tl) (hh : JOp X hi th) : JE X (.Subscript e (.Slice lo hi none p2) pos) (dSl te tl th) := by
  refine ⟨fun δ M P Q w q => he.mono δ _ _ _ (fun d M1 q => hl.mono δ _ _ _ (fun i M2 q => hh.mono δ _ _ _ (fun j M3 q => ?_) q) q) q, PE.weak (pe_slice (sl_list.or (sl_tup.or sl_str)) he.p hl.p hh.p) fun σ H Q q => ?_⟩
  · generalize vw M3 d = z at q ⊢
    cases z <;> first | exact q.elim | exact w _ _ q | exact ⟨q.1, w _ _ q.2⟩
  · obtain ⟨F, α, δ, M, r, q⟩ := q
    refine ⟨F, α, δ, M, r, he.mono δ _ _ _ (fun d M1 q v α1 H1 e1 o1 r1 => ⟨F, α1, δ, M1, r.grow e1 o1, hl.mono δ _ _ _ (fun i M2 q α2 H2 e2 o2 => ⟨F, α2, δ, M2, r.grow (e1.trans e2) o2, hh.mono δ _ _ _ (fun j M3 q α3 H3 e3 o3 => ?_) q⟩) q⟩) q⟩
    have e13 := (e1.trans e2).trans e3
    have r3 := (e2.trans e3).rep r1
    have q2 : (match vw M3 d with
      | .lst xs => vK X.K F α3 H3 M3 Q (.lst (cutD xs i j)) M3
      | .scr xs => vK X.K F α3 H3 M3 Q (.lst (cutD (xs.map D.int) i j)) M3
      | .tup xs => ¬ (HT.sIx xs.length 0 i = 0 ∧ HT.sIx xs.length xs.length j = xs.length) ∧ vK X.K F α3 H3 M3 Q (.tup (cutD xs i j)) M3
      | .str z => z.length ≤ sizeLine ∧ vK X.K F α3 H3 M3 Q (.str (Txt.slice z i j)) M3
      | _ => False) := by
      generalize vw M3 d = z at q ⊢
      cases z <;> first | exact q.elim | exact vK.grow e13 _ _ q | exact ⟨q.1, vK.grow e13 _ _ q.2⟩
    clear q
    generalize ez : vw M3 d = z at q2
    cases z <;> first | exact q2.elim | skip
    · cases vw_str ez
      unfold Rep at r3
      exact .inr (.inr ⟨_, r3, q2.1, vK.now o3 q2.2 rep_str⟩)
    · obtain ⟨a, vs, rfl, sq, zz⟩ := rd_tup o3 r3 ez
      have hl := Reps.length _ _ zz
      refine .inr (.inl ⟨a, vs, rfl, sq, by rw [← hl]; exact q2.1, fun p hp => vK.new o3 hp q2.2 (rep_tup_new o3 hp (Reps.cut zz i j))⟩)
    · obtain ⟨a, vs, rfl, sq, zz⟩ := rd_lst o3 r3 ez
      exact .inl ⟨a, vs, rfl, SqL.of sq, fun p hp => vK.new o3 hp q2 (rep_lst_new o3 hp (Reps.cut zz i j))⟩
    · cases vw_scr ez
      unfold Rep at r3
      obtain ⟨a, rfl, sq⟩ := r3
      refine .inl ⟨a, _, rfl, same_seqL hide_same sq, fun p hp => vK.new o3 hp q2 (rep_lst_new o3 hp (Reps.cut (Reps.of_map _ _ (fun c => rep_int) _) i j))⟩
def dNeg (te : DE) : DE := fun δ M Q => te δ M fun d M1 => match d with | .int i => Q (.int (-i)) M1 | _ => False
theorem j_neg (h : JE X e te) : JE X (.UnaryOp .USub e pos) (dNeg te) := by
  refine ⟨fun δ M P Q w q => h.mono δ _ _ _ (fun d M1 q => ?_) q, PE.weak (pe_un un_neg h.p) fun σ H Q q => ?_⟩
  · cases d <;> first | exact q.elim | exact w _ _ q
  · obtain ⟨F, α, δ, M, r, q⟩ := q
    refine ⟨F, α, δ, M, r, h.mono δ _ _ _ (fun d M1 q v α1 H1 e1 o1 r1 => ?_) q⟩
    cases d <;> first | exact q.elim | skip
    unfold Rep at r1
    exact ⟨_, r1, q _ α1 H1 e1 o1 rep_int⟩
def gMul : G2 := fun x y M Q => match vw M x, y with
  | .int i, .int j => CMul i j ∧ Q (.int (i * j)) M
  | .lst xs, .int k => (-(2 ^ 63) ≤ k ∧ k < 2 ^ 63 ∧ xs.length * k.toNat ≤ sizeLine) ∧ Q (.lst (List.replicate k.toNat xs).flatten) M
  | .str z, .int k => MulOk z k ∧ Q (.str (Txt.mul z k)) M
  | _, _ => False
theorem op_mul_str : OpR X (binaryOp .Mult) (fun x y H Q => ∃ z k, x = .str z ∧ y = .int k ∧ MulOk z k ∧ Q (.str (Txt.mul z k)) H) := by
  intro pins s σ H x y v u Q I rx ry h
  obtain ⟨z, k, rfl, rfl, ok, q⟩ := h
  obtain ⟨t, rfl⟩ := rx
  obtain ⟨t', rfl⟩ := ry
  exact SB.mul ok fun t' k => ⟨.str _, H, I.tok _, ⟨_, rfl⟩, q⟩
theorem jo_mul : JO X .Mult gMul := by
  refine ⟨fun x y M P Q w q => ?_, fun pins s σ H x y v u Q I rx ry h => ?_⟩
  · unfold gMul at q ⊢
    generalize vw M x = a at q ⊢
    split at q <;> first | exact q.elim | exact ⟨q.1, w _ _ q.2⟩
  · obtain ⟨F, α, M, da, db, o, ra, rb, h⟩ := h
    unfold gMul at h
    generalize e1 : vw M da = a at h
    split at h <;> first | exact h.elim | skip
    · cases vw_int e1
      unfold Rep at ra rb
      exact op_mul pins s σ H x y v u Q I rx ry ⟨_, _, ra, rb, h.1, vK.now o h.2 rep_int⟩
    · obtain ⟨a, vs, rfl, qa, za⟩ := rd_lst o ra e1
      unfold Rep at rb
      subst rb
      have l1 := Reps.length _ _ za
      exact op_rep pins s σ H _ _ v u Q I rx ry ⟨a, _, vs, rfl, rfl, qa, h.1.1, h.1.2.1, by rw [← l1]; exact h.1.2.2, fun p hp => vK.new o hp h.2 (rep_lst_new o hp (Reps.rep za _))⟩
    · cases vw_str e1
      unfold Rep at ra rb
      exact op_mul_str pins s σ H x y v u Q I rx ry ⟨_, _, ra, rb, h.1, vK.now o h.2 rep_str⟩
noncomputable def lenD : D → Option Nat
  | .lst ds => some ds.length
  | .tup ds => some ds.length
  | .scr ns => some ns.length
  | .str z => if z.length ≤ sizeLine then some z.length else none
  | .dct ks _ => some ks.length
  | _ => none
def gLen : GN := fun ds M Q => match ds with
  | [d] => ∃ n : Nat, lenD (vw M d) = some n ∧ Q (.int n) M
  | _ => False
theorem jb_len : JB X (.builtin "len") gLen := by
  refine ⟨fun ds M P Q w q => ?_, fun pins s σ H xs us Q I rs h => ?_⟩
  · match ds, q with
    | [d], ⟨n, e, q⟩ => exact ⟨n, e, w _ _ q⟩
  · obtain ⟨F, α, M, ds, o, rr, h⟩ := h
    match ds, h, rr with
    | [d], ⟨n, en, q⟩, rr =>
      obtain ⟨v, ev, rv⟩ := reps2 rr
      subst ev
      generalize e1 : vw M d = z at en
      cases z <;> first | (cases en; done) | skip
      · cases vw_str e1
        unfold Rep at rv
        subst rv
        rename_i y _
        have en : (if y.length ≤ sizeLine then some y.length else none) = some n := en
        by_cases hy : y.length ≤ sizeLine
        · rw [if_pos hy] at en
          cases en
          exact call_len_str pins s σ H _ us Q I rs ⟨_, rfl, hy, vK.now o q rep_int⟩
        · rw [if_neg hy] at en
          cases en
      · cases en
        obtain ⟨a, vs, rfl, sq, zz⟩ := rd_tup o rv e1
        have hl := Reps.length _ _ zz
        refine call_len_seq pins s σ H _ us Q I rs ⟨a, vs, rfl, .inr sq, ?_⟩
        rw [← hl]; exact vK.now o q rep_int
      · cases en
        obtain ⟨a, vs, rfl, sq, zz⟩ := rd_lst o rv e1
        have hl := Reps.length _ _ zz
        refine call_len_seq pins s σ H _ us Q I rs ⟨a, vs, rfl, .inl (SqL.of sq), ?_⟩
        rw [← hl]; exact vK.now o q rep_int
      · cases en
        obtain ⟨a, vs, rfl, sq, hl0, zz⟩ := rd_dct o rv e1
        have hl := Reps.length _ _ zz
        obtain ⟨u', rfl, ru'⟩ := vals1 rs
        cases ru'
        refine d_len I sq fun t s' I' => ⟨.int _, H, I', ⟨t, rfl⟩, ?_⟩
        rw [List.length_zip, ← hl, hl0, Nat.min_self, ← hl0]
        exact vK.now o q rep_int
      · cases vw_scr e1
        cases en
        unfold Rep at rv
        obtain ⟨a, rfl, sq⟩ := rv
        refine call_len_seq pins s σ H _ us Q I rs ⟨a, _, rfl, .inl (same_seqL hide_same sq), ?_⟩
        rw [List.length_map]; exact vK.now o q rep_int
def gAll : GN := fun ds M Q => match ds with
  | [d] => ∃ bs : List Bool, vw M d = .lst (bs.map D.bl) ∧ Q (.bl (bs.all id)) M
  | _ => False
theorem reps_bls {K : PySem.W.Frag} {α : List Addr} {H : Hp} : ∀ (bs : List Bool) (vs : List V), Reps K α H (bs.map D.bl) vs → vs = bs.map V.bl
  | [], vs, h => by unfold Reps at h; exact h
  | b :: bs, vs, h => by
    rw [List.map_cons] at h
    unfold Reps at h
    obtain ⟨v, r, rfl, z, y⟩ := h
    unfold Rep at z
    subst z
    rw [reps_bls bs r y]; rfl
theorem jb_all (hc : X.calm = true := by rfl) : JB X (.builtin "all") gAll := by
  refine ⟨fun ds M P Q w q => ?_, fun pins s σ H xs us Q I rs h => ?_⟩
  · match ds, q with
    | [d], ⟨n, e, q⟩ => exact ⟨n, e, w _ _ q⟩
  · obtain ⟨F, α, M, ds, o, rr, h⟩ := h
    match ds, h, rr with
    | [d], ⟨bs, en, q⟩, rr =>
      obtain ⟨v, ev, rv⟩ := reps2 rr
      subst ev
      obtain ⟨a, vs, rfl, sq, zz⟩ := rd_lst o rv en
      have := reps_bls bs vs zz
      subst this
      exact call_all hc pins s σ H _ us Q I rs ⟨a, bs, rfl, SqL.of sq, vK.now o q rep_bl⟩
noncomputable def kd : D → Option String
  | .non => some "NoneType"
  | .bl _ => some "bool"
  | .int _ => some "int"
  | .str _ => some "str"
  | .tup _ => some "tuple"
  | .lst _ | .scr _ => some "list"
  | .dct _ _ => some "dict"
  | _ => none
noncomputable def isK (k n : String) : Option Bool := if (["int", "bool", "str", "tuple", "list", "dict"].contains n && ["NoneType", "bool", "int", "str", "tuple", "list", "dict"].contains k) = true then some (k == n || (k == "bool" && n == "int")) else none
noncomputable def isT (n : String) (d : D) : Option Bool := match kd d with
  | some k => isK k n
  | none => none
theorem isK_all {K : PySem.W.Frag} : (["int", "bool", "str", "tuple", "list", "dict"].all fun n => ["NoneType", "bool", "int", "str", "tuple", "list", "dict"].all fun k => PySem.W.kitOne K (.type k) (.type n) == isK k n) = true := rfl
theorem isK_kit {K : PySem.W.Frag} {k n : String} {b : Bool} (h : isK k n = some b) : PySem.W.kitOne K (.type k) (.type n) = some b := by
  have h0 := h
  unfold isK at h
  split at h
  · rename_i hc
    rw [Bool.and_eq_true, List.contains_iff_mem, List.contains_iff_mem] at hc
    rw [eq_of_beq (List.all_eq_true.mp (List.all_eq_true.mp (isK_all (K := K)) n hc.1) k hc.2), h0]
  · cases h
structure InsOk (K : PySem.W.Frag) (C : Addr) : Prop where
  cl : Cls K C
  ha : PySem.W.findIn K (.ref C) "__class__" = some (some (.builtin "object.__class__"))
  hn : PySem.W.specialIn K (.builtin "object.__class__") "__get__" = some (some (.builtin "getset_descriptor.__get__"))
  htk : PySem.W.takesIn K (.builtin "object.__class__") = some true
  hm : PySem.W.mroIn K C (.type "object") = some true
noncomputable def tyv : D → Option Value
  | .non => some (.type "NoneType")
  | .bl _ => some (.type "bool")
  | .int _ => some (.type "int")
  | .str _ => some (.type "str")
  | .tup _ => some (.type "tuple")
  | .lst _ | .scr _ => some (.type "list")
  | .dct _ _ => some (.type "dict")
  | .ins C _ _ => some (.ref C)
  | _ => none
theorem isT_kit {K : PySem.W.Frag} {n : String} {d : D} {b : Bool} (h : isT n d = some b) : ∃ t, tyv d = some t ∧ PySem.W.kitOne K t (.type n) = some b ∧ ∀ C ns es, d ≠ .ins C ns es := by
  cases d <;> first | (cases h; done) | exact ⟨_, rfl, isK_kit h, fun _ _ _ z => by cases z⟩
theorem isi_core {pins : List (Addr × Obj)} {s : Shared} {σ : L2.St} {H : Hp} (I : L2.Inv X pins σ H s) {F α : List Addr} {M : Ms} {d : D} {x : V} {u t c : Value} {bb : Bool} {Q : Value → Shared → Prop} (o : OK X.K F α H M) (r : Rep X.K α (hid F α M H) d x) (rx : RelV x u)
    (et : tyv (vw M d) = some t) (hi : ∀ C ns es, vw M d = .ins C ns es → InsOk X.K C) (e : PySem.W.kitOne X.K t c = some bb) (h : ∀ tk, Q (.bool bb) { s with toks := tk }) : wpAny (model X.prog X.w) X.A (call (.builtin "isinstance") [u, c]) Q X.xe s := by
  generalize e1 : vw M d = z at et hi
  cases z <;> first | (cases et; done) | skip
  case non =>
    have : d = .non := by cases d with
      | loc k => rcases vw_loc e1 with e | ⟨y, hk, e⟩ <;> first | cases e | (cases y <;> cases e)
      | _ => exact e1
    subst this
    unfold Rep at r; subst r; cases et
    exact isinst_ok I rx .non e h
  case bl bz =>
    have : d = .bl bz := by cases d with
      | loc k => rcases vw_loc e1 with e | ⟨y, hk, e⟩ <;> first | cases e | (cases y <;> cases e)
      | _ => exact e1
    subst this
    unfold Rep at r; subst r; cases et
    exact isinst_ok I rx (.bl _) e h
  case int =>
    cases vw_int e1
    unfold Rep at r; subst r; cases et
    exact isinst_ok I rx (.int _) e h
  case str =>
    cases vw_str e1
    unfold Rep at r; subst r; cases et
    exact isinst_ok I rx (.str _) e h
  case tup =>
    cases et
    obtain ⟨a, vs, rfl, sq, zz⟩ := rd_tup o r e1
    obtain rfl : u = Value.ref a := rx
    obtain ⟨its, rv, ⟨ob, h1, h2, _⟩, _⟩ := I.tuple sq
    exact PySem.W.kia_one PySem.W.kitx_tuple I.kIn ⟨ob, h1, h2⟩ e (fun z => nomatch z) h
  case lst =>
    cases et
    obtain ⟨a, vs, rfl, sq, zz⟩ := rd_lst o r e1
    exact isinst_ok I rx (.lst sq) e h
  case dct =>
    cases et
    obtain ⟨a, vs, rfl, sq, hl, zz⟩ := rd_dct o r e1
    obtain rfl : u = Value.ref a := rx
    obtain ⟨_, _, vs2, _, ob, _, _, h1, h2, _⟩ := dk_rd I.hok sq
    exact PySem.W.kia_one PySem.W.kitx_dict I.kIn ⟨ob, h1, h2.1⟩ e (fun z => nomatch z) h
  case ins =>
    cases et
    obtain ⟨a, dx, vs, rfl, sq, hl, zz⟩ := rd_ins o r e1
    have k := hi _ _ _ rfl
    exact isinst_ok I rx (.ins sq k.cl k.ha k.hn k.htk k.hm) e h
  case scr =>
    cases et
    cases vw_scr e1
    unfold Rep at r
    obtain ⟨a, rfl, sq⟩ := r
    obtain rfl : u = Value.ref a := rx
    obtain ⟨its, rv, ⟨ob, n, h1, h2, _⟩, _⟩ := I.list (same_seqL hide_same sq)
    exact PySem.W.kia_one PySem.W.kitx_list I.kIn ⟨ob, h1, h2⟩ e (fun z => nomatch z) h
def gIsi (K : PySem.W.Frag) : GN := fun ds M Q => match ds with
  | [d, .ty n] => ∃ b, isT n (vw M d) = some b ∧ Q (.bl b) M
  | [d, .cls C] => ∃ t b, tyv (vw M d) = some t ∧ (∀ C ns es, vw M d = .ins C ns es → InsOk K C) ∧ PySem.W.kitOne K t (.ref C) = some b ∧ Q (.bl b) M
  | _ => False
theorem jb_isi : JB X (.builtin "isinstance") (gIsi X.K) := by
  refine ⟨fun ds M P Q w q => ?_, fun pins s σ H xs us Q I rs h => ?_⟩
  · match ds, q with
    | [d, .ty n], ⟨b, e, q⟩ => exact ⟨b, e, w _ _ q⟩
    | [d, .cls n], ⟨t, b, e1, e2, e3, q⟩ => exact ⟨t, b, e1, e2, e3, w _ _ q⟩
  · obtain ⟨F, α, M, ds, o, rr, h⟩ := h
    match ds, h, rr with
    | [d, .ty n], ⟨b, e, q⟩, rr =>
      obtain ⟨v, u, ev, r1, r2⟩ := reps3 rr
      subst ev
      unfold Rep at r2
      subst r2
      obtain ⟨u1, u2, rfl, q1, q2⟩ := vals2 rs
      obtain rfl : u2 = Value.type n := q2
      obtain ⟨t, e1, e2, e3⟩ := isT_kit (K := X.K) e
      exact isi_core I o r1 q1 e1 (fun C ns es z => absurd z (e3 C ns es)) e2 fun tk => ⟨.bl b, H, I.tok tk, rfl, vK.now o q rep_bl⟩
    | [d, .cls C], ⟨t, b, e1, e2, e3, q⟩, rr =>
      obtain ⟨v, u, ev, r1, r2⟩ := reps3 rr
      subst ev
      unfold Rep at r2
      subst r2
      obtain ⟨u1, u2, rfl, q1, q2⟩ := vals2 rs
      obtain rfl : u2 = Value.ref C := q2
      exact isi_core I o r1 q1 e1 e2 e3 fun tk => ⟨.bl b, H, I.tok tk, rfl, vK.now o q rep_bl⟩
def gTuple : GN := fun ds M Q => match ds with
  | [d] => match vw M d with
    | .lst xs => Q (.tup xs) M
    | .tup xs => Q (.tup xs) M
    | _ => False
  | _ => False
theorem jb_tuple : JB X (.type "tuple") gTuple := by
  refine ⟨fun ds M P Q w q => ?_, fun pins s σ H xs us Q I rs h => ?_⟩
  · match ds, q with
    | [d], q =>
      have q : (match vw M d with | .lst xs => P (.tup xs) M | .tup xs => P (.tup xs) M | _ => False) := q
      show (match vw M d with | .lst xs => Q (.tup xs) M | .tup xs => Q (.tup xs) M | _ => False)
      generalize vw M d = z at q ⊢
      cases z <;> first | exact q.elim | exact w _ _ q
  · obtain ⟨F, α, M, ds, o, rr, h⟩ := h
    match ds, h, rr with
    | [d], q, rr =>
      obtain ⟨v, ev, rv⟩ := reps2 rr
      subst ev
      have q : (match vw M d with | .lst xs => vK X.K F α H M Q (.tup xs) M | .tup xs => vK X.K F α H M Q (.tup xs) M | _ => False) := q
      generalize e1 : vw M d = z at q
      cases z <;> first | exact q.elim | skip
      · cases vw_tup e1
        obtain ⟨a, vs, rfl, sq, zz⟩ := rd_tup o rv e1
        exact call_tuple_of pins s σ H _ us Q I rs ⟨a, vs, rfl, .inr ⟨sq, vK.now o q rv⟩⟩
      · obtain ⟨a, vs, rfl, sq, zz⟩ := rd_lst o rv e1
        exact call_tuple_of pins s σ H _ us Q I rs ⟨a, vs, rfl, .inl ⟨SqL.of sq, fun p hp => vK.new o hp q (rep_tup_new o hp zz)⟩⟩
abbrev GF := List D → Ms → (OD → Ms → Prop) → Prop
def rDF (K : PySem.W.Frag) (g : GF) : List V → Hp → VK → Prop := fun xs H Q => ∃ F α M ds, OK K F α H M ∧ Reps K α (hid F α M H) ds xs ∧ g ds M (fK K F α H M Q)
structure JBF (X : Cx) (f : Value) (g : GF) : Prop where
  mono : ∀ xs M (P Q : OD → Ms → Prop), (∀ d M, P d M → Q d M) → g xs M P → g xs M Q
  p : CallR X f (rDF X.K g)
def fCB (g : GF) (tt : DA) : DF := fun δ M Q => tt δ M fun ds M1 => g ds M1 Q
theorem jf_t {T : String} {g : GF} (o : JBF X (.type T) g) (hm : X.mg x = none) (hv : bootBuiltins x = some (.type T)) (ha : JA X (e :: es) tt) (hg : Gl X x := by rfl) (hn : x ≠ "__name__" := by decide) (hdb : (x == ("__debug__" : Str)) = false := by decide)
    (he : starEach (e :: es) X.env = (false, eval e X.env) :: starEach es X.env := by rfl) (hpl : (backTo pos (starEach es X.env)).any (·.1) = false := by rfl) : JF X (.Call (.Name x p) (e :: es) [] pos) (fCB g tt) := by
  refine ⟨fun δ M P Q w q => ha.mono δ _ _ _ (fun ds M1 q => o.mono _ _ _ _ w q) q, PE.weak (pe_callTy o.p hg hm hv ha.p hn hdb he hpl) fun σ H Q q => ?_⟩
  obtain ⟨F, α, δ, M, r, q⟩ := q
  exact ⟨F, α, δ, M, r, ha.mono δ _ _ _ (fun ds M1 q vs α1 H1 e1 o1 r1 => ⟨F, α1, M1, ds, o1, r1, o.mono _ _ _ _ (fK.grow e1) q⟩) q⟩
def gfList : GF := fun ds M Q => match ds with
  | [d] => match vw M d with
    | .lst xs => Q (.lst xs) M
    | .tup xs => Q (.lst xs) M
    | .scr xs => Q (.lst (xs.map D.int)) M
    | _ => False
  | _ => False
theorem jbf_list : JBF X (.type "list") gfList := by
  refine ⟨fun ds M P Q w q => ?_, fun pins s σ H xs us Q I rs h => ?_⟩
  · match ds, q with
    | [d], q =>
      have q : (match vw M d with | .lst xs => P (.lst xs) M | .tup xs => P (.lst xs) M | .scr xs => P (.lst (xs.map D.int)) M | _ => False) := q
      show (match vw M d with | .lst xs => Q (.lst xs) M | .tup xs => Q (.lst xs) M | .scr xs => Q (.lst (xs.map D.int)) M | _ => False)
      generalize vw M d = z at q ⊢
      cases z <;> first | exact q.elim | exact w _ _ q
  · obtain ⟨F, α, M, ds, o, rr, h⟩ := h
    match ds, h, rr with
    | [d], q, rr =>
      obtain ⟨v, ev, rv⟩ := reps2 rr
      subst ev
      have q : (match vw M d with | .lst xs => fK X.K F α H M Q (.lst xs) M | .tup xs => fK X.K F α H M Q (.lst xs) M | .scr xs => fK X.K F α H M Q (.lst (xs.map D.int)) M | _ => False) := q
      generalize e1 : vw M d = z at q
      cases z <;> first | exact q.elim | skip
      · obtain ⟨a, vs, rfl, sq, zz⟩ := rd_tup o rv e1
        exact call_list_of pins s σ H _ us Q I rs ⟨a, vs, rfl, .inr sq, fun p hp => q p _ α H Ext.refl o hp ⟨vs, rfl, zz⟩⟩
      · obtain ⟨a, vs, rfl, sq, zz⟩ := rd_lst o rv e1
        exact call_list_of pins s σ H _ us Q I rs ⟨a, vs, rfl, .inl (SqL.of sq), fun p hp => q p _ α H Ext.refl o hp ⟨vs, rfl, zz⟩⟩
      · cases vw_scr e1
        unfold Rep at rv
        obtain ⟨a, rfl, sq⟩ := rv
        exact call_list_of pins s σ H _ us Q I rs ⟨a, _, rfl, .inl (same_seqL hide_same sq), fun p hp => q p _ α H Ext.refl o hp ⟨_, rfl, Reps.of_map _ _ (fun c => rep_int) _⟩⟩
end
end L3
set_option Elab.async false
set_option linter.all false
set_option maxRecDepth 100000
set_option maxHeartbeats 4000000
namespace L3
open PySem PySem.Spec PyProof.Rows L2
structure FldOk (K : PySem.W.Frag) (C : Addr) (f : Str) : Prop where
  cl : Cls K C
  na : NoAttr K C f
section
variable {X : Cx} {a b c e o value : Expr} {es rest : List Expr} {ta tb tc te to tv : DE} {tA : DT} {tt : DA} {pos pos' p p2 p3 apos cpos : Pos} {x f m : Str}
structure MethOk (P : Program) (w : World) (K : PySem.W.Frag) (mg : Str → Option Value) (base : Heap) (k : Nat) (C : Addr) (m : Str) (g : GN) : Prop where
  mono : monoN g
  cl : Cls K C
  ok : ∃ f fd ps, Meth K C m f ∧ Binds K fd ps [] ∧ FnOk P w K mg base CX0 k f fd ps (lSp K g)
structure MakeOk (P : Program) (w : World) (K : PySem.W.Frag) (mg : Str → Option Value) (base : Heap) (k : Nat) (C : Addr) (g : GN) : Prop where
  mono : monoN g
  ok : ∃ f fd ps, Mk K C f ∧ Binds K fd ps [] ∧ FnOk P w K mg base CX0 k f fd ps (lSp K g)
end
section
variable {X : Cx} {a b c e o value : Expr} {es rest : List Expr} {ta tb tc te to tv : DE} {tA : DT} {tt : DA} {pos pos' p p2 p3 apos cpos : Pos} {x f m : Str}
end
end L3
set_option Elab.async false
set_option linter.all false
set_option maxRecDepth 100000
set_option maxHeartbeats 4000000
namespace L3
open PySem PySem.Spec PyProof.Rows L2
section
variable {P : Program} {w : World} {K : PySem.W.Frag} {mg : Str → Option Value} {base : Heap}
theorem funC {x qual : Str} {st : Stmt} {f : Addr} {fd : FuncData} {N ps : List Str} {k : Nat} {body : List Stmt} {scope : Scope} {tb : DS} (F : Fun K x qual st f fd) (eb : defBody st = body) (es : defScope st = scope) (S : FnScope N ps scope)
    (hJ : ∀ (cdv : Value) (A : Around) (outer : List Env) (s : Shared) (H : Hp) (E : XK), Room k (A.deeper (envOfC qual scope s.heap.objs.size f cdv)) → JB' (cxOf CX0 P w K mg base N qual scope f cdv A outer s H E).nox body tb) :
    FnOk P w K mg base CX0 (k + 1) f fd ps (lSp K (cl (fnC N.length ps.length tb))) := by
  subst eb es
  exact F.ok S (fun vs H Q E ⟨F, α, M, ds, o, r, hn, hl, q⟩ => by rw [← Reps.length _ _ r]; exact hl) fun cdv A outer s H vs Q E hr h => let ⟨t, q, z⟩ := body_C (ps := ps) (hJ cdv A outer s H E hr) rfl h; ⟨t, q.p, z⟩
theorem hasNo {x : Str} {st : Stmt} {ps : List Str} (k : Nat) (F : DefAt K mg x st)
    (hb : ∀ (kV doc pm : Value) (an : Option Addr) (cdv ct : Value) (us : List Value), us.length = ps.length → bindArgs (PySem.W.fnOf x x (defArgs st) (defBody st) (defScope st) .none kV doc pm an cdv ct) ⟨us, []⟩ = pure (ps.zip us)) : HasD P w K mg base k x ps fun _ _ _ => False := by
  obtain ⟨f, fd, F, m⟩ := F
  exact ⟨fun _ _ _ _ _ q => q, f, fd, m, F.kp, F.binds hb, ⟨fun vs H Q E ⟨_, _, _, _, _, _, q⟩ => q.elim, fun A outer s H args us vs Q E _ _ _ _ ⟨_, _, _, _, _, _, q⟩ => q.elim⟩⟩
end
abbrev GM := D → List D → Ms → DK → Prop
def rDm (K : PySem.W.Frag) (g : GM) : V → List V → Hp → VK → Prop := fun x xs H Q => ∃ F α M d ds, OK K F α H M ∧ Rep K α (hid F α M H) d x ∧ Reps K α (hid F α M H) ds xs ∧ g d ds M (vK K F α H M Q)
structure JM (X : Cx) (id : String) (g : GM) : Prop where
  mono : ∀ d ds M (P Q : DK), (∀ d M, P d M → Q d M) → g d ds M P → g d ds M Q
  p : MtR X id (rDm X.K g)
noncomputable def tyD (T : String) (d : D) : Bool := match d with
  | .lst _ | .scr _ => T == "list"
  | .str _ => T == "str"
  | .int _ => T == "int"
  | .dct _ _ => T == "dict"
  | _ => false
section
variable {X : Cx} {a b c e o value : Expr} {es rest : List Expr} {ta tb tc te to tv : DE} {tA : DT} {tt : DA} {pos pos' p p2 p3 apos cpos : Pos} {x f m name : Str} {T id : String} {g : GM}
theorem tyD_is {F α : List Addr} {H : Hp} {M : Ms} {d : D} {v : V} (ok : OK X.K F α H M) (r : Rep X.K α (hid F α M H) d v) (h : tyD T (vw M d) = true) : tyV X.K T v H := by
  generalize e1 : vw M d = z at h
  cases z <;> first | (cases h; done) | skip
  · cases vw_int e1
    unfold Rep at r; subst r
    exact beq_iff_eq.mp h
  · cases vw_str e1
    unfold Rep at r; subst r
    exact beq_iff_eq.mp h
  · obtain ⟨a, vs, rfl, sq, _⟩ := rd_lst ok r e1
    exact .inl ⟨beq_iff_eq.mp h, vs, SqL.of sq⟩
  · obtain ⟨a, vs, rfl, sq, _⟩ := rd_dct ok r e1
    exact .inr (.inr (.inl ⟨beq_iff_eq.mp h, .inl ⟨_, sq⟩⟩))
  · cases vw_scr e1
    unfold Rep at r
    obtain ⟨a, rfl, sq⟩ := r
    exact .inl ⟨beq_iff_eq.mp h, _, same_seqL hide_same sq⟩
def dBM (T : String) (g : GM) (to : DE) (tt : DA) : DE := fun δ M Q => to δ M fun d M1 => tyD T (vw M1 d) = true ∧ tt δ M1 fun ds M2 => g d ds M2 Q
theorem j_bm (jm : JM X id g) (pa : PlainAttrs T) (slot : Slot T name id) (hty : typeOf (.builtin id) = pure (.type "method_descriptor")) (ho : JE X o to) (ha : JA X (e :: es) tt)
    (hbase : attributeBase o name X.env (eval o X.env) = eval o X.env := by rfl)
    (hfew : ((backTo cpos (starEach (e :: es) X.env)).all (fun x => !x.1) && (backToKw cpos (keywordEach [] X.env)).all (fun x => x.1.isSome)
      && decide ((e :: es).length + ([] : List Keyword).length + (if ([] : List Keyword).isEmpty then 0 else 1) < 30)) = true := by rfl)
    (hline : (apos.endLine == cpos.line) = true := by rfl) (hs : starEach (e :: es) X.env = (false, eval e X.env) :: starEach es X.env := by rfl) (hplain : (backTo cpos (starEach es X.env)).any (·.1) = false := by rfl) :
    JE X (.Call (.Attribute o name apos) (e :: es) [] cpos) (dBM T g to tt) := by
  refine ⟨fun δ M P Q w q => ho.mono δ _ _ _ (fun d M1 q => ⟨q.1, ha.mono δ _ _ _ (fun ds M2 q => jm.mono _ _ _ _ _ w q) q.2⟩) q, PE.weak (pe_bm pa slot hty jm.p ho.p ha.p hbase hfew hline hs hplain) fun σ H Q q => ?_⟩
  obtain ⟨F, α, δ, M, r, q⟩ := q
  refine ⟨F, α, δ, M, r, ho.mono δ _ _ _ (fun d M1 q v α1 H1 e1 o1 r1 => ⟨tyD_is o1 r1 q.1, F, α1, δ, M1, r.grow e1 o1, ha.mono δ _ _ _ (fun ds M2 q vs α2 H2 e2 o2 r2 => ?_) q.2⟩) q⟩
  exact ⟨F, α2, M2, d, ds, o2, e2.rep r1, r2, jm.mono _ _ _ _ _ (vK.grow (e1.trans e2)) q⟩
theorem j_bm0 (jm : JM X id g) (pa : PlainAttrs T) (slot : Slot T name id) (hty : typeOf (.builtin id) = pure (.type "method_descriptor")) (ho : JE X o to)
    (hbase : attributeBase o name X.env (eval o X.env) = eval o X.env := by rfl) (hline : (apos.endLine == cpos.line) = true := by rfl) : JE X (.Call (.Attribute o name apos) [] [] cpos) (dBM T g to dNil) := by
  refine ⟨fun δ M P Q w q => ho.mono δ _ _ _ (fun d M1 q => ⟨q.1, jm.mono _ _ _ _ _ w q.2⟩) q, PE.weak (pe_bm0 pa slot hty jm.p ho.p hbase hline) fun σ H Q q => ?_⟩
  obtain ⟨F, α, δ, M, r, q⟩ := q
  refine ⟨F, α, δ, M, r, ho.mono δ _ _ _ (fun d M1 q v α1 H1 e1 o1 r1 => ⟨tyD_is o1 r1 q.1, F, α1, M1, d, [], o1, r1, Reps.nil, jm.mono _ _ _ _ _ (vK.grow e1) q.2⟩) q⟩
theorem own_lst {F α : List Addr} {H : Hp} {M : Ms} {k : Nat} {ds : List D} {v : V} (ok : OK X.K F α H M) (r : Rep X.K α (hid F α M H) (.loc k) v) (h : M[k]? = some (some (.lst ds))) :
    ∃ a vs, v = .ref a ∧ H a = some (.lst vs) ∧ Reps X.K α (hid F α M H) ds vs ∧ ∀ es ws, Reps X.K α (hid F α M H) es ws → OK X.K F α (upd H a (.lst ws)) (M.set k (some (.lst es))) ∧ Ext F α H M α (upd H a (.lst ws)) (M.set k (some (.lst es))) := by
  unfold Rep at r
  obtain ⟨a, ea, rfl⟩ := r
  obtain ⟨a', ea', vs, hq, rr⟩ := ok.own k _ h
  rw [ea] at ea'; cases ea'
  exact ⟨a, vs, rfl, hq, rr, fun es ws rw' => ok.write (y := .lst es) (z := .lst ws) h ea fun Hh eh => by subst eh; exact ⟨ws, upd_same, rw'⟩⟩
def gmAppend : GM := fun d ds M Q => match d, ds with
  | .loc k, [x] => ∃ es, M[k]? = some (some (.lst es)) ∧ es.length < sizeLine ∧ Q .non (M.set k (some (.lst (es ++ [x]))))
  | _, _ => False
theorem jm_append : JM X "list.append" gmAppend := by
  refine ⟨fun d ds M P Q w q => ?_, fun pins s σ H x xs v us Q I rx rs h => ?_⟩
  · match d, ds, q with
    | .loc k, [x], ⟨es, h1, h2, q⟩ => exact ⟨es, h1, h2, w _ _ q⟩
  · obtain ⟨F, α, M, d, ds, ok, r, rr, h⟩ := h
    match d, ds, h, r, rr with
    | .loc k, [y], ⟨es, h1, h2, q⟩, r, rr =>
      obtain ⟨a, vs, rfl, hH, r1, wr⟩ := own_lst ok r h1
      obtain ⟨u, eu, ru⟩ := reps2 rr
      subst eu
      obtain ⟨o2, e2⟩ := wr (es ++ [y]) (vs ++ [u]) (Reps.append _ _ _ _ r1 (Reps.one ru))
      exact mt_append pins s σ H _ _ v us Q I rx rs ⟨a, vs, u, rfl, rfl, hH, by rw [← Reps.length _ _ r1]; exact h2, q _ α _ e2 o2 rep_non⟩
def gmPop : GM := fun d ds M Q => match d, ds with
  | .loc k, [] => ∃ es x, M[k]? = some (some (.lst (es ++ [x]))) ∧ Q x (M.set k (some (.lst es)))
  | .loc k, [.int 0] => ∃ x es, M[k]? = some (some (.lst (x :: es))) ∧ Q x (M.set k (some (.lst es)))
  | _, _ => False
theorem Reps.dropLast {K : PySem.W.Frag} {α : List Addr} {H : Hp} {es : List D} {x : D} {vs : List V} (h : Reps K α H (es ++ [x]) vs) : ∃ us v, vs = us ++ [v] ∧ Reps K α H es us ∧ Rep K α H x v := by
  induction es generalizing vs with
  | nil =>
    obtain ⟨v, rfl, r⟩ := reps2 h
    exact ⟨[], v, rfl, Reps.nil, r⟩
  | cons d es ih =>
    rw [List.cons_append] at h
    unfold Reps at h
    obtain ⟨v, r, rfl, z, y⟩ := h
    obtain ⟨us, u, rfl, h1, h2⟩ := ih y
    exact ⟨v :: us, u, rfl, Reps.cons z h1, h2⟩
theorem jm_pop : JM X "list.pop" gmPop := by
  refine ⟨fun d ds M P Q w q => ?_, fun pins s σ H x xs v us Q I rx rs h => ?_⟩
  · match d, ds, q with
    | .loc k, [], ⟨es, x, h1, q⟩ => exact ⟨es, x, h1, w _ _ q⟩
    | .loc k, [.int 0], ⟨x, es, h1, q⟩ => exact ⟨x, es, h1, w _ _ q⟩
  · obtain ⟨F, α, M, d, ds, ok, r, rr, h⟩ := h
    match d, ds, h, r, rr with
    | .loc k, [], ⟨es, x, h1, q⟩, r, rr =>
      obtain ⟨a, vs, rfl, hH, r1, wr⟩ := own_lst ok r h1
      unfold Reps at rr
      subst rr
      obtain ⟨ws, u, rfl, r2, r3⟩ := r1.dropLast
      obtain ⟨o2, e2⟩ := wr es ws r2
      exact mt_pop pins s σ H _ _ v us Q I rx rs ⟨a, _, u, rfl, rfl, hH, by simp, by rw [List.dropLast_concat]; exact q _ α _ e2 o2 (e2.rep r3)⟩
    | .loc k, [.int 0], ⟨x, es, h1, q⟩, r, rr =>
      obtain ⟨a, vs, rfl, hH, r1, wr⟩ := own_lst ok r h1
      obtain ⟨u, eu, ru⟩ := reps2 rr
      subst eu
      unfold Rep at ru
      subst ru
      unfold Reps at r1
      obtain ⟨y, ws, rfl, r3, r2⟩ := r1
      obtain ⟨o2, e2⟩ := wr es ws r2
      exact mt_popAt pins s σ H _ _ v us Q I rx rs ⟨a, _, 0, 0, y, rfl, rfl, hH, by decide, by decide, by simp [seqIndex?], by simp, q _ α _ e2 o2 (e2.rep r3)⟩
def dgSub (to ti : DE) : DG := fun v δ M Q => to δ M fun o M1 => ti δ M1 fun i M2 => match o with
  | .loc k => match M2[k]?, i with
    | some (some (.lst ds)), .int j => ∃ n, ixN ds.length j = some n ∧ Q δ (M2.set k (some (.lst (ds.set n v))))
    | _, _ => False
  | _ => False
theorem jg_sub (ho : JE X o to) (hi : JE X e te)
    (ha : ∀ v, assign (.Subscript o e pos) X.env v = (do
      let ov ← holding [v] (eval o X.env)
      let iv ← holding [v, ov] (eval e X.env)
      standAt pos
      holding [v, ov, iv] (setItem ov iv v)
      release [v, ov, iv] []) := by intro _; rfl) : JG X (.Subscript o e pos) (dgSub to te) := by
  refine ⟨fun d δ M P Q w q => ho.mono δ _ _ _ (fun od M1 q => hi.mono δ _ _ _ (fun i M2 q => ?_) q) q, PG.weak (pg_sub ho.p hi.p set_list ha) fun v σ H Q q => ?_⟩
  · cases od <;> first | exact q.elim | skip
    rename_i k
    simp only at q ⊢
    split at q
    · obtain ⟨n, h1, q⟩ := q
      exact ⟨n, h1, w _ _ q⟩
    · exact q.elim
  · obtain ⟨F, α, δ, M, d, r, rd, q⟩ := q
    refine ⟨F, α, δ, M, r, ho.mono δ _ _ _ (fun od M1 q u α1 H1 e1 o1 r1 => ⟨F, α1, δ, M1, r.grow e1 o1, hi.mono δ _ _ _ (fun i M2 q w α2 H2 e2 o2 r2 => ?_) q⟩) q⟩
    cases od <;> first | exact q.elim | skip
    rename_i k
    simp only at q
    split at q
    · rename_i ds j hk
      obtain ⟨n, h1, q⟩ := q
      unfold Rep at r2
      subst r2
      obtain ⟨a, vs, rfl, hH, rr, wr⟩ := own_lst o2 (e2.rep r1) hk
      have rd2 := (e1.trans e2).rep rd
      obtain ⟨o3, e3⟩ := wr (ds.set n d) (vs.set n v) (Reps.set rd2 n _ _ rr)
      exact ⟨a, vs, j, n, rfl, rfl, hH, by rw [← Reps.length _ _ rr]; exact h1, q σ α2 _ ((e1.trans e2).trans e3) (r.grow ((e1.trans e2).trans e3) o3)⟩
    · exact q.elim
end
end L3
set_option Elab.async false
set_option linter.all false
set_option maxRecDepth 100000
set_option maxHeartbeats 4000000
namespace L3
open PySem PySem.Spec PyProof.Rows L2 PyProof.Rows.KTD
def conK (K : PySem.W.Frag) (d : D) (u : Value) : Prop := ∃ v, RelV v u ∧ ∀ α H, Rep K α H d v
structure TabK (K : PySem.W.Frag) (a : Addr) (rows : List (Str × D)) : Prop where
  lo : (a == sysModules) = false
  ex : ∃ o es ep, K.lookup a = some o ∧ o.ExactDict ∧ o.data = .dict es ep ∧ Rows (conK K) es.toList rows
section
variable {prog : Program} {w : World} {A : Around} {E : Value → Shared → Prop} {s : Shared} {K : PySem.W.Frag} {a : Addr} {rows : List (Str × D)} {k : Str} {tk : Tok}
theorem TabK.typeIs (T : TabK K a rows) (h : K.In s.heap) : s.TypeIs (.ref a) "dict" := let ⟨o, _, _, ho, hc, _⟩ := T.ex; ⟨o, h _ _ ho, hc.1⟩
theorem TabK.get {Q : Option Value → Shared → Prop} (T : TabK K a rows) (hK : K.In s.heap) (h1 : ∀ d v, datumAt k rows = some d → conK K d v → Q (some v) { s with toks := s.toks + 1 }) (h2 : datumAt k rows = none → Q none { s with toks := s.toks + 1 }) :
    wpAny (model prog w) A (dictGet a (.str k tk)) Q E s := by
  obtain ⟨o, es, ep, ho, hc, hd, hr⟩ := T.ex
  have ho := hK _ _ ho
  unfold dictGet
  try with_reducible refine wpAny_holding ?_
  refine wpAny_bind (wpAny_pyHash_str (wpAny_bind (kt_dictFind_strs (s := { s with toks := s.toks + 1 }) ho hd (by obtain ⟨l⟩ := es; simpa using hr.exact) ?_)))
  have hq : Q (findBy (fun k v => v.isStr k) es k) { s with toks := s.toks + 1 } := by
    have hf : findBy (fun k v => v.isStr k) es k = (es.toList.find? fun e => e.key.isStr k).map (·.val) := by
      obtain ⟨l⟩ := es
      simp [findBy]
    rw [hf]
    cases hat : datumAt k rows with
    | some d => obtain ⟨v, hv, hfl⟩ := hr.find_some hat; rw [hv]; exact h1 d v hat hfl
    | none => rw [hr.find_none hat]; exact h2 hat
  rw [findBy_of_findIdx?] at hq
  cases hi : es.findIdx? fun e => e.key.isStr k with
  | none => rw [hi] at hq; exact wpAny_pure hq
  | some i => rw [hi] at hq; exact wpAny_bind (wpAny_dictEntries (s := { s with toks := s.toks + 1 }) ho hd (wpAny_pure hq))
theorem TabK.item {Q : Value → Shared → Prop} (T : TabK K a rows) (hK : K.In s.heap) {d : D} (hm : datumAt k rows = some d) (h : ∀ v, conK K d v → Q v { s with toks := s.toks + 1 }) :
    wpAny (model prog w) A (getItem (.ref a) (.str k tk)) Q E s := by
  have ht : s.TypeIs (.ref a) "dict" := T.typeIs hK
  unfold getItem
  try with_reducible refine wpAny_holding ?_
  refine wpAny_bind (wpAny_sequenceKey ht (by decide) ?_)
  refine wpAny_bind (wpAny_callSpecial?_slot (name := Str.ofString "__getitem__") ht slot_dict_getitem
    (wpAny_call_entry slot_dict_getitem ht entry_dict_getitem ?_ (args_dict_getitem _ _)))
  show wpAny _ _ (dictGet a (.str k tk) >>= _) _ _ s
  exact wpAny_bind (T.get hK (fun d' v ha hv => wpAny_pure ⟨v, rfl, wpAny_pure (h v (by rw [hm] at ha; cases ha; exact hv))⟩) fun hn => by rw [hm] at hn; cases hn)
theorem TabK.isin {Q : Value → Shared → Prop} (T : TabK K a rows) (hK : K.In s.heap) (neg : Bool) (h : Q (.bool (if neg then !inKeys k rows else inKeys k rows)) { s with toks := s.toks + 1 }) : wpAny (model prog w) A (compareOp (if neg then .NotIn else .In) (.str k tk) (.ref a)) Q E s := by
  have ht : s.TypeIs (.ref a) "dict" := T.typeIs hK
  have key : ∀ (Q' : Bool → Shared → Prop), Q' (inKeys k rows) { s with toks := s.toks + 1 } → wpAny (model prog w) A (contains (.ref a) (.str k tk)) Q' E s := fun Q' h => by
    unfold contains
    try with_reducible refine wpAny_holding ?_
    refine wpAny_bind (wpAny_specialOf ht slot_dict_contains.lookup ?_)
    show wpAny _ _ (if (some (Value.builtin "dict.__contains__") == some Value.none) = true then _ else _) _ E s
    rw [if_neg (by rw [beq_builtin_none]; exact Bool.false_ne_true)]
    refine wpAny_bind (wpAny_callSpecialUnlessNone?_slot (name := Str.ofString "__contains__") ht slot_dict_contains
      (wpAny_call_entry slot_dict_contains ht entry_dict_contains ?_ (args_dict_contains _ _)))
    show wpAny _ _ (dictGet a (.str k tk) >>= _) _ _ s
    refine wpAny_bind (T.get hK (fun d v ha _ => ?_) fun hn => ?_)
    · have hb : inKeys k rows = true := by rw [← isSome_datumAt, ha]; rfl
      rw [hb] at h
      show wpAny _ _ (ret (.bool true)) _ _ _
      exact wpAny_pure ⟨_, rfl, wpAny_truthy_bool h⟩
    · have hb : inKeys k rows = false := by rw [← isSome_datumAt, hn]; rfl
      rw [hb] at h
      show wpAny _ _ (Builtin.Dict.pendingKey? a (.str k tk) >>= _) _ _ _
      exact wpAny_bind (wpAny_pendingKey_other T.lo (wpAny_pure ⟨_, rfl, wpAny_truthy_bool h⟩))
  cases neg with
  | false =>
    show wpAny _ _ (do return .bool (← contains (.ref a) (.str k tk))) Q E s
    exact wpAny_bind (key _ (wpAny_pure h))
  | true =>
    show wpAny _ _ (do return .bool (!(← contains (.ref a) (.str k tk)))) Q E s
    exact wpAny_bind (key _ (wpAny_pure h))
end
section
variable {X : Cx} {a : Addr} {rows : List (Str × D)}
def gIxTab (a : Addr) (rows : List (Str × D)) : G2 := fun x y M Q => match x, y with
  | .cls b, .str k => b = a ∧ ∃ d, datumAt k rows = some d ∧ Q d M
  | _, _ => False
theorem jx_tab (T : TabK X.K a rows) : JX X (gIxTab a rows) := by
  refine ⟨fun x y M P Q w q => ?_, fun value slice pins s σ H x y v u Q I rx ry h hs => ?_⟩
  · unfold gIxTab at *; split at q <;> first | exact q.elim | (obtain ⟨h1, d, h2, q⟩ := q; exact ⟨h1, d, h2, w _ _ q⟩)
  · obtain ⟨F, α, M, da, db, o, ra, rb, h⟩ := h
    unfold gIxTab at h; split at h <;> first | exact h.elim | skip
    obtain ⟨rfl, d, hd, q⟩ := h
    unfold Rep at ra rb
    subst ra rb
    rename_i b k
    obtain rfl : v = Value.ref b := rx
    obtain ⟨t, rfl⟩ := ry
    have ht : s.TypeIs (.ref b) "dict" := T.typeIs I.kIn
    unfold subscriptTail
    refine wpAny_bind ?_
    rw [getitemInPython_of_ne ht.not_modules]
    refine wpAny_bind (wpAny_specialOf ht PySem.F.slot_dict_getitem.lookup ?_)
    have fin : wpAny (model X.prog X.w) X.A (subscripted slice false (.ref b) (.str k t)) (fun r s₃ => wpAny (model X.prog X.w) X.A (letTemporaryGo value (.ref b) r >>= fun _ => pure r) (EP X pins σ Q) X.xe s₃) X.xe s := by
      rw [hs]
      refine wpAny_operating (T.item I.kIn hd fun v' cv => wpAny_bind (wpAny_letTemporaryGo (wpAny_pure ?_)))
      obtain ⟨vv, r1, r2⟩ := cv
      exact ⟨vv, H, I.tok _, r1, vK.now o q (r2 _ _)⟩
    first
      | exact wpAny_pure (wpAny_bind fin)
      | exact wpAny_bind (wpAny_pure (wpAny_bind fin))
      | exact wpAny_bind fin
def gInTab (neg : Bool) (a : Addr) (rows : List (Str × D)) : G2 := fun x y M Q => match x, y with
  | .str k, .cls b => b = a ∧ Q (.bl (if neg then !inKeys k rows else inKeys k rows)) M
  | _, _ => False
theorem jc_notInTab (T : TabK X.K a rows) : JC X .NotIn (gInTab true a rows) := by
  refine ⟨fun x y M P Q w q => ?_, fun pins s σ H x y v u Q I rx ry h => ?_⟩
  · unfold gInTab at *; split at q <;> first | exact q.elim | exact ⟨q.1, w _ _ q.2⟩
  · obtain ⟨F, α, M, da, db, o, ra, rb, h⟩ := h
    unfold gInTab at h; split at h <;> first | exact h.elim | skip
    obtain ⟨rfl, q⟩ := h
    unfold Rep at ra rb
    subst ra rb
    obtain ⟨t, rfl⟩ := rx
    rename_i k b
    obtain rfl : u = Value.ref b := ry
    exact T.isin I.kIn true ⟨.bl _, H, I.tok _, rfl, vK.now o q rep_bl⟩
end
end L3
set_option Elab.async false
set_option linter.all false
set_option maxRecDepth 100000
set_option maxHeartbeats 4000000
namespace L3
open PySem PySem.Spec PyProof.Rows L2
section
variable {P : Program} {w : World} {K : PySem.W.Frag} {mg : Str → Option Value} {base : Heap}
theorem hasCw {x : Str} {st : Stmt} {N ps : List Str} {k : Nat} {body : List Stmt} {scope : Scope} {tb : DS} (F : DefAt K mg x st) (eb : defBody st = body) (es : defScope st = scope) (S : FnScope N ps scope)
    (hb : ∀ (kV doc pm : Value) (an : Option Addr) (cdv ct : Value) (us : List Value), us.length = ps.length → bindArgs (PySem.W.fnOf x x (defArgs st) (defBody st) (defScope st) .none kV doc pm an cdv ct) ⟨us, []⟩ = pure (ps.zip us))
    (hJ : ∀ (f : Addr) (cdv : Value) (A : Around) (outer : List Env) (s : Shared) (H : Hp) (E : XK), Room k (A.deeper (envOfC x scope s.heap.objs.size f cdv)) → JB' (cxOf CX0 P w K mg base N x scope f cdv A outer s H E).nox body tb) :
    Has P w K mg base (k + 1) x ps (lSp K (cl (fnC N.length ps.length tb))) :=
  F.hasQ eb es S hb (fun vs H Q E ⟨F, α, M, ds, o, r, hn, hl, q⟩ => by rw [← Reps.length _ _ r]; exact hl) fun f cdv A outer s H vs Q E hr h => body_C (ps := ps) (hJ f cdv A outer s H E hr) rfl h
theorem hasGw {x : Str} {st : Stmt} {N ps : List Str} {k : Nat} {body : List Stmt} {scope : Scope} {tb : DS} (F : DefAt K mg x st) (eb : defBody st = body) (es : defScope st = scope) (S : FnScope N ps scope)
    (hb : ∀ (kV doc pm : Value) (an : Option Addr) (cdv ct : Value) (us : List Value), us.length = ps.length → bindArgs (PySem.W.fnOf x x (defArgs st) (defBody st) (defScope st) .none kV doc pm an cdv ct) ⟨us, []⟩ = pure (ps.zip us))
    (hJ : ∀ (f : Addr) (cdv : Value) (A : Around) (outer : List Env) (s : Shared) (H : Hp) (E : XK), Room k (A.deeper (envOfC x scope s.heap.objs.size f cdv)) → JB' (cxOf CX0 P w K mg base N x scope f cdv A outer s H E).nox body tb) :
    Has P w K mg base (k + 1) x ps (lSp K (fnG N.length ps.length tb)) :=
  F.hasQ eb es S hb (fun vs H Q E ⟨F, α, M, ds, o, r, hl, q⟩ => by rw [← Reps.length _ _ r]; exact hl) fun f cdv A outer s H vs Q E hr h => body_G (ps := ps) (hJ f cdv A outer s H E hr) rfl h
theorem hasP {k : Nat} {x : Str} {ps : List Str} {g g' : GP} (h : Has P w K mg base k x ps (lSp K (cl g))) (m : monoP g') (i : ∀ ds Q, g' ds Q → g ds Q) : HasD P w K mg base k x ps (cl g') :=
  ⟨cl_mono m, let ⟨f, fd, m1, kp, b, F⟩ := h; ⟨f, fd, m1, kp, b, F.imp fun vs H Q E ⟨F, α, M, ds, o, r, n, q⟩ => ⟨F, α, M, ds, o, r, n, i _ _ q⟩⟩⟩
theorem hasM {k : Nat} {x : Str} {ps : List Str} {g g' : GN} (h : Has P w K mg base k x ps (lSp K g)) (m : monoN g') (i : ∀ ds M Q, g' ds M Q → g ds M Q) : HasD P w K mg base k x ps g' :=
  ⟨m, let ⟨f, fd, m1, kp, b, F⟩ := h; ⟨f, fd, m1, kp, b, F.imp fun vs H Q E ⟨F, α, M, ds, o, r, q⟩ => ⟨F, α, M, ds, o, r, i _ _ _ q⟩⟩⟩
end
theorem gl_cons' {i : Nat} {gs : DGs} (h : glen (dgName i)) (hs : glens gs) : glens (dgCons (dgName i) gs) := fun d δ M P q => by
  cases d with
  | nil => exact q.elim
  | cons d r =>
    have := hs r (δ.set i (some d)) M P q
    simpa [dgCons, dgName] using this
theorem gl_tup' {n : Nat} {gs : DGs} (hs : glens gs) : glen (dgTup n gs) := gl_tup hs
theorem compD_map {fr : List (Option Nat)} {g : DG} {tt : DT} {te : DE} {st : Ms → Prop} {Q : List D → Ms → Prop} {δ : DSt} {M : Ms} (f : D → D) (hst : st M) : ∀ (xs acc : List D), acc.length + xs.length ≤ sizeLine →
    (∀ x ∈ xs, ∀ Kk : Option D → DSt → Ms → Prop, (∀ δ1, rst fr δ1 = δ → Kk (some (f x)) δ1 M) → stepD g tt te x δ M Kk) → Q (acc ++ xs.map f) M → compD fr g tt te st Q xs acc δ M
  | [], acc, _, _, q => by rw [List.map_nil, List.append_nil] at q; exact q
  | x :: xs, acc, hl, h, q => by
    unfold compD
    refine h x List.mem_cons_self _ fun δ1 e1 => ⟨hst, by simp at hl; omega, ?_⟩
    rw [e1]
    refine compD_map f hst xs (acc ++ [f x]) (by simp at hl ⊢; omega) (fun y hy => h y (List.mem_cons_of_mem _ hy)) ?_
    rw [List.append_assoc]
    exact q
theorem forD_inv {g : DG} {tb : DS} {st : Ms → Prop} {E : DEnds} (Pv : Nat → DSt → Ms → Prop) (hst : ∀ j δ M, Pv j δ M → st M) : ∀ (xs : List D) (i : Nat) (δ : DSt) (M : Ms), Pv i δ M →
    (∀ j x δ M, xs[j]? = some x → Pv (i + j) δ M → ∀ N : DSt → Ms → Prop, (∀ δ' M', Pv (i + j + 1) δ' M' → N δ' M') → g x δ M fun δ1 M1 => tb { E with nx := N, ct := N, bk := E.nx } δ1 M1) →
    (∀ δ M, Pv (i + xs.length) δ M → E.nx δ M) → forD g tb st E xs δ M
  | [], i, δ, M, p, _, e => e δ M p
  | x :: xs, i, δ, M, p, h, e => by
    unfold forD
    refine h 0 x δ M rfl p _ fun δ' M' p' => ⟨hst _ _ _ p', ?_⟩
    exact forD_inv Pv hst xs (i + 1) δ' M' p' (fun j y δ M hj pj N hN => h (j + 1) y δ M (by simpa using hj) (by rw [show i + (j + 1) = i + 1 + j by omega]; exact pj) N fun δ' M' q => hN δ' M' (by rw [show i + 1 + j + 1 = i + (j + 1) + 1 by omega]; exact q))
      (fun δ M p => e δ M (by rw [List.length_cons, show i + (xs.length + 1) = i + 1 + xs.length by omega]; exact p))
end L3
set_option Elab.async false
set_option linter.all false
set_option maxRecDepth 100000
set_option maxHeartbeats 4000000
namespace L3
open PySem PySem.Spec PyProof.Rows L2
mutual
noncomputable def dv (M : Ms) : D → D
  | .non => .non | .bl b => .bl b | .int i => .int i | .str x => .str x | .ty n => .ty n | .scr ns => .scr ns | .cls C => .cls C
  | .loc k => vw M (.loc k)
  | .tup ds => .tup (dvs M ds) | .lst ds => .lst (dvs M ds) | .dct ks ds => .dct ks (dvs M ds) | .ins C ns ds => .ins C ns (dvs M ds) | .exc C ns ds => .exc C ns (dvs M ds)
noncomputable def dvs (M : Ms) : List D → List D
  | [] => []
  | d :: ds => dv M d :: dvs M ds
end
theorem dvs_map (M : Ms) : ∀ ds : List D, dvs M ds = ds.map (dv M)
  | [] => rfl
  | d :: ds => by unfold dvs; rw [dvs_map M ds]; rfl
theorem dvs_length (M : Ms) (ds : List D) : (dvs M ds).length = ds.length := by rw [dvs_map, List.length_map]
section
variable {K : PySem.W.Frag} {F α : List Addr} {H : Hp} {M : Ms}
mutual
theorem rep_dv (o : OK K F α H M) : ∀ (d : D) (v : V), Rep K α (hid F α M H) d v → Rep K α H (dv M d) v
  | .non, v, h => by unfold dv; unfold Rep at h ⊢; exact h
  | .bl _, v, h => by unfold dv; unfold Rep at h ⊢; exact h
  | .int _, v, h => by unfold dv; unfold Rep at h ⊢; exact h
  | .str _, v, h => by unfold dv; unfold Rep at h ⊢; exact h
  | .ty _, v, h => by unfold dv; unfold Rep at h ⊢; exact h
  | .cls _, v, h => by unfold dv; unfold Rep at h ⊢; exact h
  | .scr ns, v, h => by
    unfold dv; unfold Rep at h ⊢
    obtain ⟨a, r, q⟩ := h
    exact ⟨a, r, same_seqL hide_same q⟩
  | .loc k, v, h => by unfold dv; exact Rep.mono (List.prefix_refl _) hide_same _ _ (rep_vw o _ _ h)
  | .tup ds, v, h => by
    unfold dv; unfold Rep at h ⊢
    obtain ⟨a, vs, r, q, z⟩ := h
    exact ⟨a, vs, r, same_seqT hide_same q, reps_dv o ds vs z⟩
  | .lst ds, v, h => by
    unfold dv; unfold Rep at h ⊢
    obtain ⟨a, vs, r, q, z⟩ := h
    exact ⟨a, vs, r, hide_same _ _ q, reps_dv o ds vs z⟩
  | .dct ks ds, v, h => by
    unfold dv; unfold Rep at h ⊢
    obtain ⟨a, vs, r, q, l, z⟩ := h
    exact ⟨a, vs, r, same_rd hide_same q, by rw [dvs_length]; exact l, reps_dv o ds vs z⟩
  | .ins C ns ds, v, h => by
    unfold dv; unfold Rep at h ⊢
    obtain ⟨a, dx, vs, r, q, l, z⟩ := h
    exact ⟨a, dx, vs, r, hide_same _ _ q, by rw [dvs_length]; exact l, reps_dv o ds vs z⟩
  | .exc C ns ds, v, h => by
    unfold dv; unfold Rep at h ⊢
    obtain ⟨a, vs, r, q, l, z⟩ := h
    exact ⟨a, vs, r, hide_same _ _ q, by rw [dvs_length]; exact l, reps_dv o ds vs z⟩
theorem reps_dv (o : OK K F α H M) : ∀ (ds : List D) (vs : List V), Reps K α (hid F α M H) ds vs → Reps K α H (dvs M ds) vs
  | [], vs, h => by unfold dvs; unfold Reps at h ⊢; exact h
  | d :: ds, vs, h => by
    unfold dvs; unfold Reps at h ⊢
    obtain ⟨v, r, q, z, y⟩ := h
    exact ⟨v, r, q, rep_dv o d v z, reps_dv o ds r y⟩
end
end
section
variable {X : Cx}
end
noncomputable def sc : D → Bool
  | .non | .bl _ | .int _ | .str _ | .ty _ => true
  | _ => false
def bor (g : GP) : GN := fun ds M Q => nls (dvs M ds) = true ∧ g (dvs M ds) fun d => sc d = true ∧ Q d M
theorem bor_mono {g : GP} (m : monoP g) : monoN (bor g) := fun ds M P Q w q => ⟨q.1, m _ _ _ (fun d q => ⟨q.1, w _ _ q.2⟩) q.2⟩
theorem sc_rep {K : PySem.W.Frag} {α β : List Addr} {H H' : Hp} {d : D} {v : V} (h : sc d = true) (r : Rep K α H d v) : Rep K β H' d v := by
  cases d <;> first | (cases h; done) | (unfold Rep at r ⊢; exact r)
theorem ok_nil {K : PySem.W.Frag} {H : Hp} (t : Tb K H) : OK K [] [] H [] := ⟨rfl, List.nodup_nil, fun _ h => by simp at h, fun _ h => by simp at h, fun k o h => by simp at h, t⟩
def SameV (H H' : Hp) : Prop := ∀ b o, H b = some o → vis (some o) = some o → H' b = some o
theorem sameV_hide {H : Hp} : SameV H (hide [] H) := fun b o e v => hide_mk (by simp) e v
theorem sameV_seqT {K : PySem.W.Frag} {H H' : Hp} {a : Addr} {xs : List V} (e : SameV H H') (h : SqT K H a xs) : SqT K H' a xs := by
  rcases h with (h | ⟨o, h⟩) | h
  · exact .inl (.inl (e _ _ h rfl))
  · exact .inl (.inr ⟨o, e _ _ h rfl⟩)
  · exact .inr h
theorem sameV_seqL {K : PySem.W.Frag} {H H' : Hp} {a : Addr} {xs : List V} (e : SameV H H') (h : SqL K H a xs) : SqL K H' a xs := by
  rcases h with (h | ⟨o, h⟩) | h
  · exact .inl (.inl (e _ _ h rfl))
  · exact .inl (.inr ⟨o, e _ _ h rfl⟩)
  · exact .inr h
mutual
theorem Rep.monoV {K : PySem.W.Frag} {α : List Addr} {H H' : Hp} (e : SameV H H') : ∀ (d : D) (v : V), Rep K α H d v → Rep K α H' d v
  | .non, v, h => by unfold Rep at h ⊢; exact h
  | .bl _, v, h => by unfold Rep at h ⊢; exact h
  | .int _, v, h => by unfold Rep at h ⊢; exact h
  | .str _, v, h => by unfold Rep at h ⊢; exact h
  | .ty _, v, h => by unfold Rep at h ⊢; exact h
  | .tup ds, v, h => by
    unfold Rep at h ⊢
    obtain ⟨a, vs, r, q, z⟩ := h
    exact ⟨a, vs, r, sameV_seqT e q, Reps.monoV e ds vs z⟩
  | .lst ds, v, h => by
    unfold Rep at h ⊢
    obtain ⟨a, vs, r, q, z⟩ := h
    exact ⟨a, vs, r, e _ _ q rfl, Reps.monoV e ds vs z⟩
  | .scr ns, v, h => by
    unfold Rep at h ⊢
    obtain ⟨a, r, q⟩ := h
    exact ⟨a, r, sameV_seqL e q⟩
  | .dct ks ds, v, h => by
    unfold Rep at h ⊢
    obtain ⟨a, vs, r, q, l, z⟩ := h
    exact ⟨a, vs, r, (by rcases q with q | ⟨o, q⟩ <;> first | exact .inl (e _ _ q rfl) | exact .inr ⟨o, e _ _ q rfl⟩), l, Reps.monoV e ds vs z⟩
  | .ins C ns ds, v, h => by
    unfold Rep at h ⊢
    obtain ⟨a, dx, vs, r, q, l, z⟩ := h
    exact ⟨a, dx, vs, r, e _ _ q rfl, l, Reps.monoV e ds vs z⟩
  | .exc C ns ds, v, h => by
    unfold Rep at h ⊢
    obtain ⟨a, vs, r, q, l, z⟩ := h
    exact ⟨a, vs, r, e _ _ q rfl, l, Reps.monoV e ds vs z⟩
  | .loc k, v, h => by unfold Rep at h ⊢; exact h
  | .cls _, v, h => by unfold Rep at h ⊢; exact h
theorem Reps.monoV {K : PySem.W.Frag} {α : List Addr} {H H' : Hp} (e : SameV H H') : ∀ (ds : List D) (vs : List V), Reps K α H ds vs → Reps K α H' ds vs
  | [], vs, h => by unfold Reps at h ⊢; exact h
  | d :: ds, vs, h => by
    unfold Reps at h ⊢
    obtain ⟨v, r, q, z, y⟩ := h
    exact ⟨v, r, q, Rep.monoV e d v z, Reps.monoV e ds r y⟩
end
theorem OK.growV {K : PySem.W.Frag} {F α : List Addr} {H H' : Hp} {M : Ms} (o : OK K F α H M) (s : SameV H H') (t : Tb K H') : OK K F α H' M ∧ Ext F α H M α H' M := by
  have frs : ∀ a, vis (H a) ≠ none → H' a = H a := fun a h => by
    cases e : H a with
    | none => exact absurd (by rw [e]) h
    | some x =>
      rw [e] at h
      exact s a x e (by cases x <;> first | rfl | exact absurd rfl h)
  have sh : ∀ A, Same (hide A H) (hide A H') := fun A b x e => by
    obtain ⟨h1, h2, h3⟩ := hide_all e
    exact hide_mk h1 (s b x h2 h3) h3
  refine ⟨⟨o.ml, o.nd, fun a ha => ⟨(o.fr a ha).1, by rw [frs a (o.fr a ha).2]; exact (o.fr a ha).2⟩, fun a ha => by rw [frs a (o.al a ha)]; exact o.al a ha, fun k x h => ?_, t⟩, ⟨List.prefix_refl _, sh _, fun a ha => frs a (o.fr a ha).2⟩⟩
  obtain ⟨a, e, r⟩ := o.own k x h
  exact ⟨a, e, r.mono (List.prefix_refl _) (sh _) (frs a (o.liveV a (mem_lv.mpr ⟨k, x, e, h⟩)))⟩
section
variable {P : Program} {w : World} {K : PySem.W.Frag} {mg : Str → Option Value} {base : Heap}
theorem hasB {k : Nat} {x : Str} {ps : List Str} {g g' : GP} (h : Has P w K mg base k x ps (lSp K (cl g))) (m : monoP g') (i : ∀ ds Q, g' ds Q → g ds Q) : HasD P w K mg base k x ps (bor g') :=
  ⟨bor_mono m, let ⟨f, fd, m1, kp, b, F⟩ := h; ⟨f, fd, m1, kp, b, F.imp fun vs H Q E ⟨F, α, M, ds, o, r, n, q⟩ => by
    refine ⟨[], [], [], dvs M ds, ok_nil o.tb, ?_, n, i _ _ (m _ _ _ (fun d q => ?_) q)⟩
    · show Reps K [] (hide ([] ++ []) H) _ _
      rw [List.append_nil]
      exact Reps.monoV sameV_hide _ _ (Reps.nl _ _ n (reps_dv o _ _ r))
    · obtain ⟨hs, q⟩ := q
      intro v α' H' e' o' r'
      have s : SameV H H' := fun b ob hb vb => by
        have := e'.same b ob (by show hide ([] ++ []) H b = _; rw [List.append_nil]; exact hide_mk (by simp) hb vb)
        exact hide_same _ _ this
      obtain ⟨o2, e2⟩ := o.growV s o'.tb
      exact q v α H' e2 o2 (sc_rep hs r')⟩⟩
end
end L3
set_option Elab.async false
set_option linter.all false
set_option maxRecDepth 100000
set_option maxHeartbeats 4000000
namespace L3
open PySem PySem.Spec PyProof.Rows L2
def dPairs : List (DE × DE) → DSt → Ms → (List (D × D) → Ms → Prop) → Prop
  | [], _, M, Q => Q [] M
  | (tk, tv) :: r, δ, M, Q => tk δ M fun k M1 => tv δ M1 fun v M2 => dPairs r δ M2 fun ps M3 => Q ((k, v) :: ps) M3
abbrev pK (K : PySem.W.Frag) (F α : List Addr) (H : Hp) (M : Ms) (Q : List (V × V) → Hp → Prop) : List (D × D) → Ms → Prop := fun ps M' => ∀ vs α' H', Ext F α H M α' H' M' → OK K F α' H' M' → Reps K α' (hid F α' M' H') (ps.map (·.1)) (vs.map (·.1)) → Reps K α' (hid F α' M' H') (ps.map (·.2)) (vs.map (·.2)) → Q vs H'
structure JP (X : Cx) (pos : Pos) (keys : List (Option Expr)) (values : List Expr) (ts : List (DE × DE)) : Prop where
  mono : ∀ δ M (P Q : List (D × D) → Ms → Prop), (∀ ps M, P ps M → Q ps M) → dPairs ts δ M P → dPairs ts δ M Q
  p : ∃ trs, PPs X pos keys values trs ∧ ∀ F α δ M σ H Q, R X.K F α H σ δ M → dPairs ts δ M (pK X.K F α H M Q) → tPairs trs σ H Q
section
variable {X : Cx} {pos : Pos} {k v : Expr} {keys : List (Option Expr)} {values : List Expr} {tk tv : DE} {ts : List (DE × DE)}
end
end L3
namespace L3
open PySem PySem.Spec PyProof.Rows L2
section
variable {X : Cx}
end
end L3
set_option Elab.async false
set_option linter.all false
set_option maxRecDepth 100000
set_option maxHeartbeats 4000000
namespace L3
open PySem PySem.Spec PyProof.Rows L2
section
variable {X : Cx} {x : Str} {pos : Pos} {a b : Expr} {ta tb : DE}
def CDivL (_ j : Int) : Prop := 0 < j ∧ j < 18446744073709551616
theorem op_fdivL : OpR X (binaryOp .FloorDiv) (rI CDivL fun i j => .int (i / j)) := opI fun i j _ _ _ _ _ hc q => by
  have h1 : (0 : Int) < j := hc.1
  have h2 : j < 18446744073709551616 := hc.2
  refine floordiv_int (by omega) (by rw [Int.fdiv_eq_ediv_of_nonneg i (by omega)]; exact q) (.inl (PyProof.noPylong_of_log2 ?_))
  have hj : j.natAbs < 2 ^ 64 := by omega
  have := (Nat.log2_lt (by omega : j.natAbs ≠ 0)).mpr hj
  omega
theorem jo_fdivL : JO X .FloorDiv (gI CDivL fun i j => .int (i / j)) := ⟨gI_mono, fun pins s σ H x y v u Q I rx ry h => by
  obtain ⟨F, α, M, da, db, o, ra, rb, h⟩ := h
  cases da <;> cases db <;> first | exact h.elim | skip
  unfold Rep at ra rb
  exact op_fdivL pins s σ H x y v u Q I rx ry ⟨_, _, ra, rb, h.1, vK.now o h.2 rep_int⟩⟩
def gmExtend : GM := fun d ds M Q => match d, ds with
  | .loc k, [y] => ∃ es xs, M[k]? = some (some (.lst es)) ∧ vw M y = .lst xs ∧ es.length + xs.length ≤ sizeLine ∧ Q .non (M.set k (some (.lst (es ++ xs))))
  | _, _ => False
theorem jm_extend : JM X "list.extend" gmExtend := by
  refine ⟨fun d ds M P Q w q => ?_, fun pins s σ H x xs v us Q I rx rs h => ?_⟩
  · match d, ds, q with
    | .loc k, [x], ⟨es, xs, h1, h2, h3, q⟩ => exact ⟨es, xs, h1, h2, h3, w _ _ q⟩
  · obtain ⟨F, α, M, d, ds, ok, r, rr, h⟩ := h
    match d, ds, h, r, rr with
    | .loc k, [y], ⟨es, xs, h1, h2, h3, q⟩, r, rr =>
      obtain ⟨a, vs, rfl, hH, r1, wr⟩ := own_lst ok r h1
      obtain ⟨u, eu, ru⟩ := reps2 rr
      subst eu
      obtain ⟨b, ws, rfl, hB, r2⟩ := rd_lst ok ru h2
      obtain ⟨o2, e2⟩ := wr (es ++ xs) (vs ++ ws) (Reps.append _ _ _ _ r1 r2)
      exact mt_extend pins s σ H _ _ v us Q I rx rs ⟨a, b, vs, ws, rfl, rfl, hH, hB, by rw [← Reps.length _ _ r1, ← Reps.length _ _ r2]; exact h3, q _ α _ e2 o2 rep_non⟩
def gfPlus (x y : D) (M : Ms) (Q : OD → Ms → Prop) : Prop := match vw M x, vw M y with
  | .lst xs, .lst ys => xs.length + ys.length ≤ sizeLine ∧ Q (.lst (xs ++ ys)) M
  | _, _ => False
theorem gfPlus_mono {x y : D} {M : Ms} {P Q : OD → Ms → Prop} (w : ∀ o M, P o M → Q o M) (q : gfPlus x y M P) : gfPlus x y M Q := by
  unfold gfPlus at q ⊢
  generalize vw M x = a at q ⊢
  generalize vw M y = b at q ⊢
  cases a <;> cases b <;> first | exact q.elim | exact ⟨q.1, w _ _ q.2⟩
def fPlus (ta tb : DE) : DF := fun δ M Q => ta δ M fun x M1 => tb δ M1 fun y M2 => gfPlus x y M2 Q
theorem jf_plus (ha : JE X a ta) (hb : JE X b tb) : JF X (.BinOp a .Add b pos) (fPlus ta tb) := by
  refine ⟨fun δ M P Q w q => ha.mono δ _ _ _ (fun x M1 q => hb.mono δ _ _ _ (fun y M2 q => gfPlus_mono w q) q) q, PE.weak (pe_op op_cat ha.p hb.p) fun σ H Q q => ?_⟩
  obtain ⟨F, α, δ, M, r, q⟩ := q
  refine ⟨F, α, δ, M, r, ha.mono δ _ _ _ (fun da M1 q v α1 H1 e1 o1 r1 => ⟨F, α1, δ, M1, r.grow e1 o1, hb.mono δ _ _ _ (fun db M2 q u α2 H2 e2 o2 r2 => ?_) q⟩) q⟩
  unfold gfPlus at q
  generalize h1 : vw M2 da = x at q
  generalize h2 : vw M2 db = y at q
  cases x <;> cases y <;> first | exact q.elim | skip
  obtain ⟨a1, vs, rfl, qa, za⟩ := rd_lst o2 (e2.rep r1) h1
  obtain ⟨b1, us, rfl, qb, zb⟩ := rd_lst o2 r2 h2
  have l1 := Reps.length _ _ za
  have l2 := Reps.length _ _ zb
  exact ⟨a1, b1, vs, us, rfl, rfl, qa, qb, by rw [← l1, ← l2]; exact q.1, fun p hp => q.2 p _ α2 H2 (e1.trans e2) o2 hp ⟨vs ++ us, rfl, Reps.append _ _ _ _ za zb⟩⟩
end
end L3
set_option Elab.async false
set_option linter.all false
set_option maxRecDepth 100000
set_option maxHeartbeats 4000000
namespace L3
open PySem PySem.Spec PyProof.Rows L2
section
variable {X : Cx} {tg : Expr} {a b c : Expr} {tt : DA} {p pos : Pos}
end
end L3
set_option Elab.async false
set_option linter.all false
set_option maxRecDepth 100000
set_option maxHeartbeats 4000000
namespace L3
open PySem PySem.Spec PyProof.Rows L2
section
variable {X : Cx} {x : Str} {pos p tpos : Pos} {e o i : Expr} {te to ti tv : DE} {op : Operator}
end
end L3
set_option Elab.async false
set_option linter.all false
set_option maxRecDepth 100000
set_option maxHeartbeats 4000000
namespace L3
open PySem PySem.Spec PyProof.Rows L2
section
variable {X : Cx} {x : Str} {pos p tpos : Pos} {e o i : Expr} {te to ti tv : DE} {op : Operator}
end
end L3
set_option Elab.async false
set_option linter.all false
set_option maxRecDepth 100000
set_option maxHeartbeats 4000000
namespace L3
open PySem PySem.Spec PyProof.Rows L2
section
variable {β : Type}
end
end L3
namespace L2
open PySem PySem.Spec PyProof.Rows
section
variable {prog : Program} {w : World} {A : Around} {E : Value → Shared → Prop} {s : Shared}
end
section
variable {prog : Program} {w : World} {A : Around} {E : Value → Shared → Prop} {s : Shared} {a₀ : Array Keyed} {κ : PyProof.Rows.KeyKind}
end
section
variable {X : Cx}
end
end L2
namespace L3
open PySem PySem.Spec PyProof.Rows L2
section
variable {X : Cx}
theorem reps_strs {K : PySem.W.Frag} {α : List Addr} {H : Hp} : ∀ {ss : List Str} {vs : List V}, Reps K α H (ss.map D.str) vs → vs = ss.map V.str
  | [], vs, h => by unfold Reps at h; exact h
  | x :: ss, vs, h => by
    unfold List.map Reps at h
    obtain ⟨v, r, rfl, z, y⟩ := h
    unfold Rep at z
    rw [z, reps_strs y]; rfl
end
end L3
set_option Elab.async false
set_option linter.all false
set_option maxRecDepth 100000
set_option maxHeartbeats 4000000
namespace L2
open PySem PySem.Spec PyProof.Rows
section
variable {prog : Program} {w : World} {A : Around} {E : Value → Shared → Prop} {s : Shared}
end
end L2
set_option Elab.async false
set_option linter.all false
set_option maxRecDepth 100000
set_option maxHeartbeats 4000000
namespace L2
open PySem PySem.Spec PyProof.Rows
section
variable {X : Cx} {p pos p2 pos2 : Pos} {e : Expr} {te : TE}
end
end L2
namespace L3
open PySem PySem.Spec PyProof.Rows L2
section
variable {X : Cx} {p pos p2 pos2 : Pos} {e : Expr} {te : DE}
end
end L3
set_option Elab.async false
set_option linter.all false
set_option maxRecDepth 100000
set_option maxHeartbeats 4000000
namespace L2
open PySem PySem.Spec PyProof.Rows
section
variable {prog : Program} {w : World} {κ : Type} [DecidableEq κ] {knd : PySem.KeyKind prog w κ} {A : Around} {E : Value → Shared → Prop} {s : Shared} {d : Addr} {kvs : List (κ × Value)} {k : κ} {key v : Value}
end
section
variable {X : Cx}
end
end L2
namespace L3
open PySem PySem.Spec PyProof.Rows L2
section
variable {X : Cx}
end
end L3
set_option Elab.async false
set_option linter.all false
set_option maxRecDepth 100000
set_option maxHeartbeats 4000000
namespace L2
open PySem PySem.Spec PyProof.Rows
section
variable {prog : Program} {w : World} {A : Around} {E : Value → Shared → Prop} {s : Shared}
end
end L2
set_option Elab.async false
set_option linter.all false
set_option maxRecDepth 100000
set_option maxHeartbeats 4000000
namespace L2
open PySem PySem.Spec PyProof.Rows
section
variable {prog : Program} {w : World} {κ : Type} [DecidableEq κ] {knd : PySem.KeyKind prog w κ} {A : Around} {E : Value → Shared → Prop} {s : Shared}
end
end L2
namespace L2
open PySem PySem.Spec PyProof.Rows
section
variable {X : Cx}
end
end L2
namespace L3
open PySem PySem.Spec PyProof.Rows L2
section
variable {X : Cx}
end
end L3
set_option Elab.async false
set_option linter.all false
set_option maxRecDepth 100000
set_option maxHeartbeats 4000000
namespace L2
open PySem PySem.Spec PyProof.Rows
section
variable {P : Program} {w : World} {A : Around} {E : Value → Shared → Prop} {H : Hp} {fs : List Addr}
structure Cq (P : Program) (w : World) (fs : List Addr) (H : Hp) (s s' : Shared) : Prop where
  os : s'.os = s.os
  bare : AllBare s'.gens
  hok : HOk P w H s'.heap
  un : Un fs [] H H s.heap s'.heap
theorem Cq.at {s s1 : Shared} {b : Addr} {o : Obj} (c : Cq P w fs H s s1) (e : s.heap.get? b = some o) (n : H b = none) (hb : b ∉ fs) : s1.heap.get? b = some o := c.un.keep b o e n hb (by simp)
section
variable {s0 s : Shared} {a kS : Addr} {vs : List Value} {ss : List Str} {keys : Array Value} {e e1 : Nat} {Pq : PySem.Fin → Shared → Prop}
end
end
end L2
set_option Elab.async false
set_option linter.all false
set_option maxRecDepth 100000
set_option maxHeartbeats 4000000
namespace L2
open PySem PySem.Spec PyProof.Rows
section
variable {P : Program} {w : World} {A : Around} {E : Value → Shared → Prop} {H : Hp} {fs : List Addr} {s0 s : Shared} {a kS : Addr} {vs : List Value} {ss : List Str} {e1 : Nat} {Pq : PySem.Fin → Shared → Prop} {f : Value}
end
end L2
set_option Elab.async false
set_option linter.all false
set_option maxRecDepth 100000
set_option maxHeartbeats 4000000
namespace L2
open PySem PySem.Spec PyProof.Rows PySem.W
structure LamK (base : Heap) (mg : Str → Option Value) (cd : Value) (c P : Addr) : Prop where
  cd : cd = .ref c
  hd : CodeHd base c P
  bl : base.BuiltinsAt mg P
  gP : mainGlobals ≠ P
section
variable {X : Cx} {pins : List (Addr × Obj)} {σ : L2.St} {H : Hp} {s : Shared} {A : Around} {E : Value → Shared → Prop} {c P : Addr} {ps : Array Value} {params : Arguments} {body : Expr} {scope : Scope} {pos : Pos} {Q : Value → Shared → Prop}
end
end L2
set_option Elab.async false
set_option linter.all false
set_option maxRecDepth 100000
set_option maxHeartbeats 4000000
namespace L2
open PySem PySem.Spec PyProof.Rows PySem.W
section
variable {P : Program} {w : World} {K : PySem.W.Frag} {mg : Str → Option Value} {base : Heap} {A : Around} {outer : List Env} {s : Shared} {H : Hp} {f c : Addr} {x qual : Str} {params : Arguments} {body : Expr} {scope : Scope} {pm ctv : Value} {t : TE} {u : Value} {v : V} {Q : VK} {k : Nat}
end
section
variable {K : PySem.W.Frag} {H H' : Hp}
def KeyedV (K : PySem.W.Frag) (H : Hp) : List V → List Str → Prop
  | [], [] => True
  | y :: ys, k :: ks => (∃ a zs, y = .ref a ∧ SqT K H a (.str k :: zs)) ∧ KeyedV K H ys ks
  | _, _ => False
theorem KeyedV.length : ∀ {ys : List V} {ks : List Str}, KeyedV K H ys ks → ys.length = ks.length
  | [], [], _ => rfl
  | [], _ :: _, h => h.elim
  | _ :: _, [], h => h.elim
  | _ :: ys, _ :: ks, h => by rw [List.length_cons, List.length_cons, KeyedV.length h.2]
theorem TabTo.keep {P : Addr} {q : Str} (t : TabTo P q H H') (hP : ∃ ps, H P = some (.tbl ps)) {b : Addr} {o : HO} (e : H b = some o) (n : ∀ ps, o ≠ .tbl ps) : H' b = some o := by
  obtain ⟨ps, hP⟩ := hP
  rcases t.2 with h | ⟨c, ps', hc, cP, h⟩
  · rw [h]; exact e
  · rw [h, upd_ne (fun z => by rw [z, hP] at e; exact n ps (Option.some.inj e).symm), upd_ne (fun z => by rw [z, hc] at e; cases e)]; exact e
end
section
variable {X : Cx} {c P : Addr} {e : Expr} {te : TE} {p pos lpos kpos np sp cp : Pos} {params : Arguments} {scope : Scope} {x : Str} {k j : Nat}
end
end L2
set_option Elab.async false
set_option linter.all false
set_option maxRecDepth 100000
set_option maxHeartbeats 4000000
namespace L3
open PySem PySem.Spec PyProof.Rows L2
section
variable {K : PySem.W.Frag} {α : List Addr} {H : Hp}
end
section
variable {X : Cx} {c P : Addr} {e : Expr} {te : DE} {p pos lpos kpos np sp cp : Pos} {params : Arguments} {scope : Scope} {x : Str} {k j : Nat}
structure LamD (X : Cx) : Prop where
  ex : ∃ c P, PySem.W.tabIn X.K "by_name" = some (c, P) ∧ LamK X.base X.mg X.env.code c P
  q : X.env.qual ++ "<lambda>" = lamQ "by_name"
end
end L3
set_option Elab.async false
set_option linter.all false
set_option maxRecDepth 100000
set_option maxHeartbeats 4000000
namespace L3
open PySem PySem.Spec PyProof.Rows L2
structure TbBase (K : PySem.W.Frag) (mg : Str → Option Value) (base : Heap) : Prop where
  kin : K.In base
  glob : base.Ns mainGlobals mg
  tab : ∃ c P, PySem.W.tabIn K "by_name" = some (c, P) ∧ PySem.W.CodeHd base c P ∧ base.BuiltinsAt mg P ∧ mainGlobals ≠ P
section
variable {P : Program} {w : World} {K : PySem.W.Frag} {mg : Str → Option Value} {base : Heap}
end
end L3
set_option Elab.async false
set_option linter.all false
set_option maxRecDepth 100000
set_option maxHeartbeats 4000000
namespace L3
open PySem PySem.Spec PyProof.Rows L2
end L3
set_option Elab.async false
set_option linter.all false
set_option maxRecDepth 100000
set_option maxHeartbeats 4000000
namespace L2
open PySem PySem.Spec PyProof.Rows
section
variable {X : Cx}
end
end L2
namespace L3
open PySem PySem.Spec PyProof.Rows L2
section
variable {X : Cx}
end
end L3
set_option Elab.async false
set_option linter.all false
set_option maxRecDepth 100000
set_option maxHeartbeats 4000000
namespace L2
open PySem PySem.Spec PyProof.Rows
section
variable {X : Cx}
end
end L2
namespace L3
open PySem PySem.Spec PyProof.Rows L2
section
variable {X : Cx}
end
end L3
set_option Elab.async false
set_option linter.all false
set_option maxRecDepth 100000
set_option maxHeartbeats 4000000
namespace L2
open PySem PySem.W PyProof.Rows
section
variable {n : Nat} {f : Nat → Nat → Bool} {p : Array Nat}
structure Ord (n : Nat) (f : Nat → Nat → Bool) : Prop where
  tr : ∀ i j k, f i j = true → f j k = true → f i k = true
  tot : ∀ i j, i < n → j < n → i ≠ j → f i j = false → f j i = true
structure Row (n : Nat) (p : Array Nat) : Prop where
  sz : p.size = n
  pm : p.toList.Perm (List.range n)
end
end L2
set_option Elab.async false
set_option linter.all false
set_option maxRecDepth 100000
set_option maxHeartbeats 4000000
namespace L2
open PySem PySem.Spec PyProof.Rows PySem.W
section
variable {prog : Program} {w : World} {A : Around} {E : Value → Shared → Prop} {s : Shared}
end
section
variable {X : Cx}
end
end L2
namespace L3
open PySem PySem.Spec PyProof.Rows L2
section
variable {X : Cx}
end
end L3
set_option Elab.async false
set_option linter.all false
set_option maxRecDepth 100000
set_option maxHeartbeats 4000000
namespace L2
open PySem PySem.Spec PyProof.Rows
section
variable {X : Cx} {o : Expr} {to : TE} {apos cpos tpos : Pos} {elts : List Expr} {n : Nat}
end
end L2
set_option Elab.async false
set_option linter.all false
set_option maxRecDepth 100000
set_option maxHeartbeats 4000000
namespace L3
open PySem PySem.Spec PyProof.Rows L2
section
variable {X : Cx}
end
end L3
set_option Elab.async false
set_option linter.all false
set_option maxRecDepth 100000
set_option maxHeartbeats 4000000
namespace L2
open PySem PySem.Spec PyProof.Rows
section
variable {prog : Program} {w : World} {A : Around} {E : Value → Shared → Prop} {s : Shared} {a b : Addr} {K : Type} [DecidableEq K] {knd : PySem.KeyKind prog w K} {vs ws : List (K × Value)}
end
end L2
namespace L3
open PySem PySem.Spec PyProof.Rows L2
section
variable {X : Cx}
end
end L3
set_option Elab.async false
set_option linter.all false
set_option maxRecDepth 100000
set_option maxHeartbeats 4000000
namespace L3
open PySem PySem.Spec PyProof.Rows L2
section
variable {X : Cx}
theorem lv_less {α : List Addr} {M : Ms} {k : Nat} {b : Addr} (h : b ∈ lv α (M.set k none)) : b ∈ lv α M := by
  obtain ⟨j, o, h1, h2⟩ := mem_lv.mp h
  have hj : j ≠ k := fun z => by
    subst z
    by_cases hl : j < M.length
    · rw [List.getElem?_set_self hl] at h2; cases h2
    · rw [List.getElem?_eq_none (by rw [List.length_set]; omega)] at h2; cases h2
  rw [List.getElem?_set_ne fun z => hj z.symm] at h2
  exact mem_lv.mpr ⟨j, o, h1, h2⟩
theorem OK.give {K : PySem.W.Frag} {F α : List Addr} {H : Hp} {M : Ms} (o : OK K F α H M) (k : Nat) : OK K F α H (M.set k none) ∧ Ext F α H M α H (M.set k none) := by
  have sm : Same (hid F α M H) (hid F α (M.set k none) H) := fun b x h => by
    obtain ⟨n, q⟩ := hide_some h
    refine hide_go h (fun w => n ?_) q
    rcases List.mem_append.mp w with w | w
    · exact List.mem_append_left _ (lv_less w)
    · exact List.mem_append_right _ w
  refine ⟨⟨by rw [List.length_set]; exact o.ml, o.nd, o.fr, o.al, fun j x h => ?_, o.tb⟩, List.prefix_refl _, sm, fun _ _ => rfl⟩
  have hj : j ≠ k := fun z => by
    subst z
    by_cases hl : j < M.length
    · rw [List.getElem?_set_self hl] at h; cases h
    · rw [List.getElem?_eq_none (by rw [List.length_set]; omega)] at h; cases h
  rw [List.getElem?_set_ne fun z => hj z.symm] at h
  obtain ⟨a, ea, ra⟩ := o.own j x h
  exact ⟨a, ea, ra.mono (List.prefix_refl _) sm rfl⟩
def dGive (i : Nat) : DE := fun δ M Q => ∃ (k : Nat) (es : List D), δ[i]? = some (some (.loc k)) ∧ M[k]? = some (some (.lst es)) ∧ Q (.lst es) (M.set k none)
theorem j_give {x : Str} {pos : Pos} (i : Nat) (hN : X.N[i]? = some x := by rfl) (hv : Vis X.env.scope x := by first | exact Or.inl rfl | exact Or.inr (Or.inl rfl) | exact Or.inr (Or.inr rfl)) (hd : (x == ("__debug__" : Str)) = false := by decide)
    (hcd : (x == ("__classdict__" : Str)) = false := by decide) : JE X (.Name x pos) (dGive i) := by
  refine ⟨fun δ M P Q h q => ?_, PE.weak (pe_var hN hv hd hcd) fun σ H Q h => ?_⟩
  · obtain ⟨k, es, h1, h2, q⟩ := q
    exact ⟨k, es, h1, h2, h _ _ q⟩
  · obtain ⟨F, α, δ, M, r, k, es, h1, h2, q⟩ := h
    obtain ⟨v, e, rv⟩ := r.sl i _ h1
    unfold Rep at rv
    obtain ⟨a, ea, rfl⟩ := rv
    obtain ⟨a', ea', vs, hq, rr⟩ := r.ok.own k _ h2
    rw [ea] at ea'; cases ea'
    obtain ⟨o2, e2⟩ := r.ok.give k
    refine ⟨.ref a, e, q _ α H e2 o2 ?_⟩
    unfold Rep
    refine ⟨a, vs, rfl, hide_mk (fun w => ?_) hq rfl, e2.reps rr⟩
    rcases List.mem_append.mp w with w | w
    · obtain ⟨j, x, g1, g2⟩ := mem_lv.mp w
      have : j = k := (List.getElem?_inj (List.getElem?_eq_some_iff.mp g1).1 r.ok.nd).mp (g1.trans ea.symm)
      subst this
      by_cases hl : j < M.length
      · rw [List.getElem?_set_self hl] at g2; cases g2
      · rw [List.getElem?_eq_none (by rw [List.length_set]; omega)] at g2; cases g2
    · exact (r.ok.fr a w).1 (List.mem_of_getElem? ea)
end
end L3
set_option Elab.async false
set_option linter.all false
set_option maxRecDepth 100000
set_option maxHeartbeats 4000000
namespace L2
open PySem PySem.Spec PyProof.Rows
section
variable {prog : Program} {w : World} {A : Around} {E : Value → Shared → Prop} {s : Shared}
end
section
variable {X : Cx} {pos : Pos}
end
end L2
namespace L3
open PySem PySem.Spec PyProof.Rows L2
section
variable {X : Cx} {pos : Pos}
end
end L3
set_option Elab.async false
set_option linter.all false
set_option maxRecDepth 100000
set_option maxHeartbeats 4000000
namespace L2
open PySem PySem.Spec PyProof.Rows
section
variable {X : Cx} {o : Expr} {to : TE} {apos cpos : Pos} {tg : Expr}
end
end L2
namespace L3
open PySem PySem.Spec PyProof.Rows L2
section
variable {X : Cx}
end
end L3
set_option Elab.async false
set_option linter.all false
set_option maxRecDepth 100000
set_option maxHeartbeats 4000000
namespace L3
open PySem PySem.Spec PyProof.Rows L2
section
variable {K : PySem.W.Frag} {F α : List Addr} {H : Hp} {M : Ms}
end
end L3
set_option Elab.async false
set_option linter.all false
set_option maxRecDepth 100000
set_option maxHeartbeats 4000000
namespace L3
open PySem PySem.Spec PyProof.Rows L2
section
variable {X : Cx}
def gInt : GN := fun ds M Q => match ds with
  | [.int i] => Q (.int i) M
  | [.bl b] => Q (.int (if b then 1 else 0)) M
  | _ => False
theorem jb_int : JB X (.type "int") gInt := by
  refine ⟨fun ds M P Q w q => ?_, fun pins s σ H xs us Q I rs h => ?_⟩
  · unfold gInt at q ⊢
    split at q <;> first | exact q.elim | exact w _ _ q
  · obtain ⟨F, α, M, ds, o, rr, h⟩ := h
    unfold gInt at h
    split at h <;> first | exact h.elim | skip
    · obtain ⟨v, rfl, rv⟩ := reps2 rr
      unfold Rep at rv
      subst rv
      exact call_int1 pins s σ H _ us Q I rs (.inl ⟨_, rfl, vK.now o h rep_int⟩)
    · obtain ⟨v, rfl, rv⟩ := reps2 rr
      unfold Rep at rv
      subst rv
      exact call_int1 pins s σ H _ us Q I rs (.inr ⟨_, rfl, vK.now o h rep_int⟩)
end
end L3
set_option Elab.async false
set_option linter.all false
set_option maxRecDepth 100000
set_option maxHeartbeats 4000000
namespace FJ
open PySem PySem.Spec L2 L3
def t_is_whole (K : PySem.W.Frag)  : DS := (dRet (dAndV (dCB (gIsi K) (dCons (dVar 0) (dCons (dC (.ty "int")) dNil))) (dNotV (dCB (gIsi K) (dCons (dVar 0) (dCons (dC (.ty "bool")) dNil))))))
def t_is_word (K : PySem.W.Frag)  : DS := (dSeq (dIfS (dOr (dNot (dTest (dCB (gIsi K) (dCons (dVar 0) (dCons (dC (.ty "str")) dNil))))) (dNot (dTest (dChain gLe gLe (dC (.int 1)) (dCB gLen (dCons (dVar 0) dNil)) (dC (.int 8)))))) (dRet (dC (.bl false))) dNext)
  (dRet (dCB gAll (dCons (dNew (fComp [none] (iAnyD (dVar 0)) (dgName 0) dYes (dChain gLe gLe (dC (.str "a")) (dVar 0) (dC (.str "z"))))) dNil))))
def t_is_list_of (K : PySem.W.Frag) (g_fits : GN) : DS := (dSeq (dIfS (dOr (dNot (dTest (dCB (gIsi K) (dCons (dVar 1) (dCons (dC (.ty "list")) dNil))))) (dNot (dTest (dChain gLe gLe (dC (.int 1)) (dCB gLen (dCons (dVar 1) dNil)) (dC (.int 60)))))) (dRet (dC (.bl false))) dNext)
  (dRet (dCB gAll (dCons (dNew (fComp [none, some 0] (iAnyD (dVar 1)) (dgName 0) dYes (dCB g_fits (dCons (dVar 1) (dCons (dVar 0) dNil))))) dNil))))
def t_fits (K : PySem.W.Frag) (g_is_word : GN) (g_is_whole : GN) (g_is_list_of : GN) : DS := (dSeq (dIfS (dTest (dOp gEq (dVar 0) (dC (.str "word")))) (dRet (dCB g_is_word (dCons (dVar 1) dNil))) dNext)
  (dSeq (dIfS (dTest (dOp gEq (dVar 0) (dC (.str "box")))) (dRet (dAndV (dCB g_is_whole (dCons (dVar 1) dNil)) (dChain gLe gLe (dC (.int 0)) (dVar 1) (dC (.int 3))))) dNext)
  (dSeq (dIfS (dTest (dOp gEq (dVar 0) (dC (.str "number")))) (dRet (dAndV (dCB g_is_whole (dCons (dVar 1) dNil)) (dChain gLe gLe (dC (.int (-2147483648))) (dVar 1) (dC (.int 2147483647))))) dNext)
  (dSeq (dIfS (dTest (dOp gEq (dVar 0) (dC (.str "truth")))) (dRet (dCB (gIsi K) (dCons (dVar 1) (dCons (dC (.ty "bool")) dNil)))) dNext)
  (dSeq (dIfS (dTest (dOp gEq (dVar 0) (dC (.str "numbers")))) (dRet (dCB g_is_list_of (dCons (dC (.str "number")) (dCons (dVar 1) dNil)))) dNext)
  (dRet (dCB g_is_list_of (dCons (dC (.str "word")) (dCons (dVar 1) dNil)))))))))
def t_is_row (K : PySem.W.Frag) (c_FORMS : Addr) (r_FORMS : List (Str × D)) (g_fits : GN) : DS := (dSeq (dIfS (dOr (dNot (dTest (dCB (gIsi K) (dCons (dVar 0) (dCons (dC (.ty "tuple")) dNil))))) (dTest (dOp gEq (dCB gLen (dCons (dVar 0) dNil)) (dC (.int 0))))) (dRet (dC (.bl false))) dNext)
  (dSeq (dIfS (dOr (dNot (dTest (dCB (gIsi K) (dCons (dOp gIx (dVar 0) (dC (.int 0))) (dCons (dC (.ty "str")) dNil))))) (dTest (dOp (gInTab true c_FORMS r_FORMS) (dOp gIx (dVar 0) (dC (.int 0))) (dC (.cls c_FORMS))))) (dRet (dC (.bl false))) dNext)
  (dSeq (dSet 1 (dOp (gIxTab c_FORMS r_FORMS) (dC (.cls c_FORMS)) (dOp gIx (dVar 0) (dC (.int 0)))))
  (dSeq (dIfS (dTest (dOp gNe (dCB gLen (dCons (dVar 0) dNil)) (dOp gPlus (dC (.int 1)) (dCB gLen (dCons (dVar 1) dNil))))) (dRet (dC (.bl false))) dNext)
  (dRet (dCB gAll (dCons (dNew (fComp [none, none] (iZipD (dCons (dVar 1) (dCons (dSl (dVar 0) (dPart (dC (.int 1))) dNoPart) dNil))) (dgTup 2 (dgCons (dgName 0) (dgCons (dgName 1) dgNil))) dYes (dCB g_fits (dCons (dVar 0) (dCons (dVar 1) dNil))))) dNil)))))))
noncomputable def low (x : Str) : Bool := x.cps.toList.all fun c => decide (97 ≤ c) && decide (c ≤ 122)
noncomputable def isW (x : Str) : Bool := decide (1 ≤ x.length) && decide (x.length ≤ 8) && low x
noncomputable def okB (b : Int) : Bool := decide (0 ≤ b) && decide (b ≤ 3)
noncomputable def okN (n : Int) : Bool := decide (-2147483648 ≤ n) && decide (n ≤ 2147483647)
def P_is_whole : GP := fun ds Q => ∃ i : Int, ds = [.int i] ∧ Q (.bl true)
theorem P_is_whole_mono : monoP P_is_whole := by
  rintro ds P Q w ⟨i, h, q⟩
  exact ⟨i, h, w _ q⟩
theorem sp_is_whole (K : PySem.W.Frag) : ∀ ds Q, P_is_whole ds Q → fnC 1 1 (t_is_whole K) ds Q := by
  rintro ds Q ⟨i, h, q⟩
  subst h
  exact ⟨rfl, _, rfl, _, rfl, rfl, q⟩
def P_is_word : GP := fun ds Q => ∃ w : Str, isW w = true ∧ ds = [.str w] ∧ Q (.bl true)
theorem P_is_word_mono : monoP P_is_word := by
  rintro ds P Q w ⟨i, h0, h, q⟩
  exact ⟨i, h0, h, w _ q⟩
theorem gLe_yes {a b : Int} {M : Ms} {Q : DK} (h : a ≤ b) (q : Q (.bl true) M) : gLe (.int a) (.int b) M Q := by
  show Q (.bl (decide (a ≤ b))) M
  rw [decide_eq_true h]; exact q
theorem gLe_a {c : Nat} {M : Ms} {Q : DK} (h : 97 ≤ c) (q : Q (.bl true) M) : gLe (.str "a") (.str ⟨#[c]⟩) M Q := by
  show Q (.bl (!decide ([c] < [97]))) M
  rw [show decide ([c] < [97]) = false by simp [List.cons_lt_cons_iff]; omega]; exact q
theorem gLe_z {c : Nat} {M : Ms} {Q : DK} (h : c ≤ 122) (q : Q (.bl true) M) : gLe (.str ⟨#[c]⟩) (.str "z") M Q := by
  show Q (.bl (!decide ([122] < [c]))) M
  rw [show decide ([122] < [c]) = false by simp [List.cons_lt_cons_iff]; omega]; exact q
theorem all_true {xs : List D} {Q : DK} {M : Ms} (q : Q (.bl true) M) : gAll [.lst ([] ++ xs.map fun _ => D.bl true)] M Q := by
  refine ⟨xs.map fun _ => true, by show D.lst _ = D.lst _; rw [List.nil_append, List.map_map]; rfl, ?_⟩
  rw [show (xs.map fun _ => true).all id = true by simp]; exact q
theorem sp_is_word (K : PySem.W.Frag) : ∀ ds Q, P_is_word ds Q → fnC 1 1 (t_is_word K) ds Q := by
  rintro ds Q ⟨x, hw, h, q⟩
  subst h
  unfold isW at hw
  rw [Bool.and_eq_true, Bool.and_eq_true, decide_eq_true_eq, decide_eq_true_eq] at hw
  obtain ⟨⟨h1, h2⟩, h3⟩ := hw
  have hs : x.length ≤ sizeLine := Nat.le_trans h2 (by decide)
  have ly := @gLe_yes
  have la := @gLe_a
  have lz := @gLe_z
  unfold t_is_word
  generalize gLe = ge at ly la lz ⊢
  refine ⟨rfl, _, rfl, _, show (if x.length ≤ sizeLine then _ else _) = _ from if_pos hs, ?_⟩
  refine ly (by omega) ?_
  refine ly (by omega) ?_
  refine ⟨_, rfl, rfl, ?_⟩
  refine compD_map (fun _ => .bl true) ?_ _ _ ?_ (fun y hy Kk hK => ?_) ?_
  · exact rfl
  · rw [List.length_nil, Nat.zero_add, List.length_map, Array.length_toList]; exact hs
  · obtain ⟨c, hc, rfl⟩ := List.mem_map.mp hy
    have := List.all_eq_true.mp h3 c hc
    rw [Bool.and_eq_true, decide_eq_true_eq, decide_eq_true_eq] at this
    exact la this.1 (lz this.2 (hK _ rfl))
  · exact all_true ⟨rfl, q⟩
inductive FitA : Str → D → Prop
  | w {x : Str} : isW x = true → FitA "word" (.str x)
  | b {i : Int} : okB i = true → FitA "box" (.int i)
  | n {i : Int} : okN i = true → FitA "number" (.int i)
  | t {b : Bool} : FitA "truth" (.bl b)
inductive Fit : Str → D → Prop
  | a {f : Str} {d : D} : FitA f d → Fit f d
  | ns {ds : List D} : 1 ≤ ds.length → ds.length ≤ 60 → (∀ d ∈ ds, FitA "number" d) → Fit "numbers" (.lst ds)
  | ws {ds : List D} : 1 ≤ ds.length → ds.length ≤ 60 → (∀ d ∈ ds, FitA "word" d) → Fit "words" (.lst ds)
theorem FitA.nl {f : Str} {d : D} (h : FitA f d) : nl d = true := by cases h <;> rfl
theorem fits_nls {f : Str} {ds : List D} (h : ∀ d ∈ ds, FitA f d) : nls ds = true := by rw [nls_all]; exact List.all_eq_true.mpr fun d hd => (h d hd).nl
theorem Fit.nl {f : Str} {d : D} (h : Fit f d) : nls [.str f, d] = true := by
  have : L3.nl d = true := by
    cases h with
    | a h => exact h.nl
    | ns _ _ h => exact fits_nls h
    | ws _ _ h => exact fits_nls h
  show (true && (L3.nl d && true)) = true
  rw [this]; rfl
def P_fits0 : GP := fun ds Q => ∃ f d, FitA f d ∧ ds = [.str f, d] ∧ Q (.bl true)
theorem P_fits0_mono : monoP P_fits0 := by
  rintro ds P Q w ⟨f, d, h0, h, q⟩
  exact ⟨f, d, h0, h, w _ q⟩
def P_il : GP := fun ds Q => ∃ f xs, 1 ≤ xs.length ∧ xs.length ≤ 60 ∧ (∀ d ∈ xs, FitA f d) ∧ ds = [.str f, .lst xs] ∧ Q (.bl true)
theorem P_il_mono : monoP P_il := by
  rintro ds P Q w ⟨f, d, h0, h1, h2, h, q⟩
  exact ⟨f, d, h0, h1, h2, h, w _ q⟩
def P_fits : GP := fun ds Q => ∃ f d, Fit f d ∧ ds = [.str f, d] ∧ Q (.bl true)
theorem P_fits_mono : monoP P_fits := by
  rintro ds P Q w ⟨f, d, h0, h, q⟩
  exact ⟨f, d, h0, h, w _ q⟩
theorem fits_A {K : PySem.W.Frag} {g : GN} {f : Str} {d : D} {Q : D → Prop} (h : FitA f d) (q : Q (.bl true)) : fnC 2 2 (t_fits K (cl P_is_word) (cl P_is_whole) g) [.str f, d] Q := by
  have ly := @gLe_yes
  unfold t_fits
  generalize gLe = ge at ly ⊢
  cases h with
  | w h => exact ⟨rfl, rfl, _, h, rfl, rfl, q⟩
  | b h =>
    unfold okB at h
    rw [Bool.and_eq_true, decide_eq_true_eq, decide_eq_true_eq] at h
    exact ⟨rfl, rfl, _, rfl, ly h.1 (ly h.2 ⟨rfl, q⟩)⟩
  | n h =>
    unfold okN at h
    rw [Bool.and_eq_true, decide_eq_true_eq, decide_eq_true_eq] at h
    exact ⟨rfl, rfl, _, rfl, ly h.1 (ly h.2 ⟨rfl, q⟩)⟩
  | t => exact ⟨rfl, _, rfl, rfl, q⟩
theorem sp_fits0 (K : PySem.W.Frag) (g : GN) : ∀ ds Q, P_fits0 ds Q → fnC 2 2 (t_fits K (cl P_is_word) (cl P_is_whole) g) ds Q := by
  rintro ds Q ⟨f, d, h, e, q⟩
  subst e
  exact fits_A h q
theorem sp_il (K : PySem.W.Frag) : ∀ ds Q, P_il ds Q → fnC 2 2 (t_is_list_of K (cl P_fits0)) ds Q := by
  rintro ds Q ⟨f, xs, h1, h2, h3, e, q⟩
  subst e
  have ly := @gLe_yes
  unfold t_is_list_of
  generalize gLe = ge at ly ⊢
  refine ⟨rfl, _, rfl, _, rfl, ?_⟩
  refine ly (by omega) ?_
  refine ly (by omega) ?_
  refine ⟨_, rfl, rfl, ?_⟩
  refine compD_map (fun _ => .bl true) ?_ _ _ ?_ (fun y hy Kk hK => ?_) ?_
  · exact rfl
  · rw [List.length_nil, Nat.zero_add]; exact Nat.le_trans h2 (by decide)
  · exact ⟨Fit.nl (.a (h3 y hy)), f, y, h3 y hy, rfl, hK _ rfl⟩
  · exact all_true ⟨rfl, q⟩
theorem sp_fits (K : PySem.W.Frag) : ∀ ds Q, P_fits ds Q → fnC 2 2 (t_fits K (cl P_is_word) (cl P_is_whole) (cl P_il)) ds Q := by
  rintro ds Q ⟨f, d, h, e, q⟩
  subst e
  cases h with
  | a h => exact fits_A h q
  | ns h1 h2 h3 => exact ⟨rfl, (Fit.ns h1 h2 h3).nl, _, _, h1, h2, h3, rfl, rfl, q⟩
  | ws h1 h2 h3 => exact ⟨rfl, (Fit.ws h1 h2 h3).nl, _, _, h1, h2, h3, rfl, rfl, q⟩
open PySem PySem.Spec PyProof.Rows.KTD L2 L3
noncomputable def fm (l : List Str) : D := .tup (l.map .str)
noncomputable def rowsF : List (Str × D) := [("mark", fm ["word", "truth"]), ("set", fm ["box", "number"]), ("add", fm ["box", "box"]), ("take", fm ["box", "box"]), ("say", fm ["box"]), ("ask", fm ["box"]), ("jump", fm ["word"]), ("jumpif", fm ["box", "word"]), ("call", fm ["word"]), ("back", fm []), ("stop", fm []), ("load", fm ["box", "box", "word"]), ("jumpby", fm ["box", "word"]), ("alike", fm ["box", "word", "word"]), ("numbers", fm ["numbers"]), ("table", fm ["words"])]
local macro_rules | `(tactic| walk_at "wk1") => `(tactic| ((conv => whnf); first | refine ⟨_, rfl, ?_⟩ | refine ⟨rfl, ?_⟩ | refine ⟨Nat.le_of_ble_eq_true rfl, ?_⟩))
local macro_rules | `(tactic| walk_at "wk") => `(tactic| ((repeat walk_at "wk1"); try (conv => whnf)))
inductive Rw
  | mark (w : Str) (b : Bool) | set (b n : Int) | add (b c : Int) | take (b c : Int) | say (b : Int) | ask (b : Int) | jump (w : Str) | jumpif (b : Int) (w : Str) | call (w : Str) | back | stop
  | load (b c : Int) (w : Str) | jumpby (b : Int) (w : Str) | alike (b : Int) (w v : Str) | numbers (ns : List Int) | table (ws : List Str)
  deriving DecidableEq
noncomputable def Rw.d : Rw → D
  | .mark w b => .tup [.str "mark", .str w, .bl b] | .set b n => .tup [.str "set", .int b, .int n] | .add b c => .tup [.str "add", .int b, .int c] | .take b c => .tup [.str "take", .int b, .int c]
  | .say b => .tup [.str "say", .int b] | .ask b => .tup [.str "ask", .int b] | .jump w => .tup [.str "jump", .str w] | .jumpif b w => .tup [.str "jumpif", .int b, .str w] | .call w => .tup [.str "call", .str w]
  | .back => .tup [.str "back"] | .stop => .tup [.str "stop"] | .load b c w => .tup [.str "load", .int b, .int c, .str w] | .jumpby b w => .tup [.str "jumpby", .int b, .str w] | .alike b w v => .tup [.str "alike", .int b, .str w, .str v]
  | .numbers ns => .tup [.str "numbers", .lst (ns.map .int)] | .table ws => .tup [.str "table", .lst (ws.map .str)]
noncomputable def Rw.t : Rw → D
  | .numbers ns => .tup [.str "numbers", .tup (ns.map .int)] | .table ws => .tup [.str "table", .tup (ws.map .str)]
  | r => r.d
noncomputable def Rw.ok : Rw → Bool
  | .mark w _ => isW w | .set b n => okB b && okN n | .add b c => okB b && okB c | .take b c => okB b && okB c | .say b => okB b | .ask b => okB b | .jump w => isW w | .jumpif b w => okB b && isW w | .call w => isW w
  | .back => true | .stop => true | .load b c w => okB b && okB c && isW w | .jumpby b w => okB b && isW w | .alike b w v => okB b && isW w && isW v
  | .numbers ns => decide (1 ≤ ns.length) && decide (ns.length ≤ 60) && ns.all okN
  | .table ws => decide (1 ≤ ws.length) && decide (ws.length ≤ 60) && ws.all isW
theorem b1 {a b : Bool} (h : (a && b) = true) : a = true := (Bool.and_eq_true _ _ ▸ h).1
theorem b2 {a b : Bool} (h : (a && b) = true) : b = true := (Bool.and_eq_true _ _ ▸ h).2
def P_is_row : GP := fun ds Q => ∃ r : Rw, r.ok = true ∧ ds = [r.d] ∧ Q (.bl true)
theorem pf {f : Str} {d : D} {M : Ms} {Q : DK} (h : Fit f d) (q : Q (.bl true) M) : cl P_fits [.str f, d] M Q := ⟨h.nl, f, d, h, rfl, q⟩
theorem fit_ns {ns : List Int} (h : (Rw.numbers ns).ok = true) : Fit "numbers" (.lst (ns.map .int)) := by
  have h := h
  unfold Rw.ok at h
  refine .ns (by rw [List.length_map]; exact of_decide_eq_true (b1 (b1 h))) (by rw [List.length_map]; exact of_decide_eq_true (b2 (b1 h))) fun d hd => ?_
  obtain ⟨n, hn, rfl⟩ := List.mem_map.mp hd
  exact .n (List.all_eq_true.mp (b2 h) n hn)
theorem fit_ws {ws : List Str} (h : (Rw.table ws).ok = true) : Fit "words" (.lst (ws.map .str)) := by
  have h := h
  unfold Rw.ok at h
  refine .ws (by rw [List.length_map]; exact of_decide_eq_true (b1 (b1 h))) (by rw [List.length_map]; exact of_decide_eq_true (b2 (b1 h))) fun d hd => ?_
  obtain ⟨n, hn, rfl⟩ := List.mem_map.mp hd
  exact .w (List.all_eq_true.mp (b2 h) n hn)
theorem sp_is_row (K : PySem.W.Frag) (c : Addr) : ∀ ds Q, P_is_row ds Q → fnC 2 1 (t_is_row K c rowsF (cl P_fits)) ds Q := by
  rintro ds Q ⟨r, h, e, q⟩
  subst e
  have pf := @pf
  unfold t_is_row
  generalize cl P_fits = g at pf ⊢
  have L : ∀ {a b : Nat}, Nat.ble a b = true → a ≤ b := Nat.le_of_ble_eq_true
  refine ⟨rfl, ?_⟩
  cases r
  all_goals walk_at "wk"; refine ⟨fun h => Nat.one_ne_zero h.1, _, _, rfl, rfl, ⟨rfl, rfl⟩, ?_⟩
  case mark => exact ⟨rfl, rfl, pf (.a (.w h)) ⟨⟨rfl, rfl⟩, L rfl, rfl, rfl, pf (.a .t) ⟨⟨rfl, rfl⟩, L rfl, [true, true], rfl, rfl, q⟩⟩⟩
  case set => exact ⟨rfl, rfl, pf (.a (.b (b1 h))) ⟨⟨rfl, rfl⟩, L rfl, rfl, rfl, pf (.a (.n (b2 h))) ⟨⟨rfl, rfl⟩, L rfl, [true, true], rfl, rfl, q⟩⟩⟩
  case add => exact ⟨rfl, rfl, pf (.a (.b (b1 h))) ⟨⟨rfl, rfl⟩, L rfl, rfl, rfl, pf (.a (.b (b2 h))) ⟨⟨rfl, rfl⟩, L rfl, [true, true], rfl, rfl, q⟩⟩⟩
  case take => exact ⟨rfl, rfl, pf (.a (.b (b1 h))) ⟨⟨rfl, rfl⟩, L rfl, rfl, rfl, pf (.a (.b (b2 h))) ⟨⟨rfl, rfl⟩, L rfl, [true, true], rfl, rfl, q⟩⟩⟩
  case say => exact ⟨rfl, rfl, pf (.a (.b h)) ⟨⟨rfl, rfl⟩, L rfl, [true], rfl, rfl, q⟩⟩
  case ask => exact ⟨rfl, rfl, pf (.a (.b h)) ⟨⟨rfl, rfl⟩, L rfl, [true], rfl, rfl, q⟩⟩
  case jump => exact ⟨rfl, rfl, pf (.a (.w h)) ⟨⟨rfl, rfl⟩, L rfl, [true], rfl, rfl, q⟩⟩
  case jumpif => exact ⟨rfl, rfl, pf (.a (.b (b1 h))) ⟨⟨rfl, rfl⟩, L rfl, rfl, rfl, pf (.a (.w (b2 h))) ⟨⟨rfl, rfl⟩, L rfl, [true, true], rfl, rfl, q⟩⟩⟩
  case call => exact ⟨rfl, rfl, pf (.a (.w h)) ⟨⟨rfl, rfl⟩, L rfl, [true], rfl, rfl, q⟩⟩
  case back => exact ⟨[], rfl, rfl, q⟩
  case stop => exact ⟨[], rfl, rfl, q⟩
  case load => exact ⟨rfl, rfl, pf (.a (.b (b1 (b1 h)))) ⟨⟨rfl, rfl⟩, L rfl, rfl, rfl, pf (.a (.b (b2 (b1 h)))) ⟨⟨rfl, rfl⟩, L rfl, rfl, rfl, pf (.a (.w (b2 h))) ⟨⟨rfl, rfl⟩, L rfl, [true, true, true], rfl, rfl, q⟩⟩⟩⟩
  case jumpby => exact ⟨rfl, rfl, pf (.a (.b (b1 h))) ⟨⟨rfl, rfl⟩, L rfl, rfl, rfl, pf (.a (.w (b2 h))) ⟨⟨rfl, rfl⟩, L rfl, [true, true], rfl, rfl, q⟩⟩⟩
  case alike => exact ⟨rfl, rfl, pf (.a (.b (b1 (b1 h)))) ⟨⟨rfl, rfl⟩, L rfl, rfl, rfl, pf (.a (.w (b2 (b1 h)))) ⟨⟨rfl, rfl⟩, L rfl, rfl, rfl, pf (.a (.w (b2 h))) ⟨⟨rfl, rfl⟩, L rfl, [true, true, true], rfl, rfl, q⟩⟩⟩⟩
  case numbers => exact ⟨rfl, rfl, pf (fit_ns h) ⟨⟨rfl, rfl⟩, L rfl, [true], rfl, rfl, q⟩⟩
  case table => exact ⟨rfl, rfl, pf (fit_ws h) ⟨⟨rfl, rfl⟩, L rfl, [true], rfl, rfl, q⟩⟩
structure CA where
  (Row Mark Code Data Box Last Set Alike Aim Leave Numbers Table : Addr)
inductive Kn
  | Mark | Box | Last | Set | Alike | Aim | Leave | Numbers | Table
noncomputable def CA.at (c : CA) : Kn → Addr
  | .Mark => c.Mark | .Box => c.Box | .Last => c.Last | .Set => c.Set | .Alike => c.Alike | .Aim => c.Aim | .Leave => c.Leave | .Numbers => c.Numbers | .Table => c.Table
noncomputable def Rw.kn : Rw → Kn
  | .mark _ _ => .Mark | .set _ _ => .Set | .add _ _ | .take _ _ | .say _ | .ask _ => .Box | .jump _ | .jumpby _ _ => .Leave | .jumpif _ _ | .call _ | .load _ _ _ => .Aim | .back | .stop => .Last
  | .alike _ _ _ => .Alike | .numbers _ => .Numbers | .table _ => .Table
noncomputable def Rw.cls (c : CA) (r : Rw) : Addr := c.at r.kn
noncomputable def Rw.ins (c : CA) (r : Rw) : D := .ins (r.cls c) ["told"] [r.t]
noncomputable def Rw.code : Rw → Bool
  | .mark _ _ | .numbers _ | .table _ => false
  | _ => true
structure FOk (K : PySem.W.Frag) (c : CA) : Prop where
  f : ∀ r : Rw, FldOk K (r.cls c) "told"
theorem Rw.nld (r : Rw) : nl r.d = true := by cases r <;> first | rfl | exact (show (true && (nls (List.map _ _) && true)) = true by rw [nls_map (fun _ => rfl)]; rfl)
noncomputable def Rw.goes : Rw → Bool
  | .mark _ _ | .numbers _ | .table _ | .jump _ | .jumpby _ _ | .back | .stop => false
  | _ => true
noncomputable def Rw.names : Rw → List D
  | .jump w | .jumpif _ w | .call w | .load _ _ w | .jumpby _ w => [.str w]
  | .alike _ w v => [.str w, .str v]
  | .table ws => ws.map .str
  | _ => []
noncomputable def Rw.its (r : Rw) : List D := match r.t with | .tup ds => ds | _ => []
def t_law_mixed  : DS := (dSeq (dSet 2 (dOp (gI (fun _ j => 0 < j) fun i j => .int (i % j)) (dOp gMul (dOp gPlus (dOp gPlus (dOp (gI (fun _ j => 0 < j) fun i j => .int (i % j)) (dVar 0) (dC (.int 2147483647))) (dOp gMul (dC (.int 7919)) (dVar 1))) (dC (.int 1))) (dC (.int 48271))) (dC (.int 2147483647))))
  (dSeq (dSet 2 (dOp (gI (fun _ j => 0 < j) fun i j => .int (i % j)) (dOp gMul (dVar 2) (dOp gPlus (dOp (gI CDiv fun i j => .int (i / j)) (dVar 2) (dC (.int 1009))) (dC (.int 69621)))) (dC (.int 2147483647))))
  (dRet (dOp (gI (fun _ j => 0 < j) fun i j => .int (i % j)) (dOp gMul (dOp gPlus (dVar 2) (dOp gMul (dC (.int 31)) (dVar 1))) (dOp gPlus (dOp (gI CDiv fun i j => .int (i / j)) (dVar 2) (dC (.int 16807))) (dC (.int 40692)))) (dC (.int 2147483629))))))
def P_mixed : GP := fun ds Q => ∃ a k : Int, ds = [.int a, .int k] ∧ 0 ≤ k ∧ k ≤ 1000 ∧ ∀ n : Int, 0 ≤ n → n < 2147483629 → Q (.int n)
theorem at_nat {β : Type} {xs : List β} {k : Nat} {x : β} (h : xs[k]? = some x) : atI xs (k : Int) = some x := by
  have hk := (List.getElem?_eq_some_iff.mp h).1
  unfold atI ixN
  rw [if_pos (by omega), if_pos (by omega)]
  simpa using h
structure CF (K : PySem.W.Frag) (C : Addr) : Prop where
  pg : PySem.W.plainGet K C Str.empty = true
  hd : PySem.W.hasDictIn K C = true
  po : PySem.W.plainOver K C = true
  sa : PySem.W.findIn K (.ref C) "__setattr__" = some (some (.builtin "object.__setattr__"))
  mks : PySem.W.makesIn K C = true
  kc : PySem.W.keepIn K (.ref C) = true
  ha : PySem.W.findIn K (.ref C) "__class__" = some (some (.builtin "object.__class__"))
  hn : PySem.W.specialIn K (.builtin "object.__class__") "__get__" = some (some (.builtin "getset_descriptor.__get__"))
  htk : PySem.W.takesIn K (.builtin "object.__class__") = some true
  hm : PySem.W.mroIn K C (.type "object") = some true
theorem CF.cls {K : PySem.W.Frag} {C : Addr} (h : CF K C) : Cls K C := ⟨h.pg, h.hd, h.po, h.sa⟩
structure RF (K : PySem.W.Frag) (C fI fW fA fG fL : Addr) : Prop where
  c : CF K C
  nT : PySem.W.findIn K (.ref C) "told" = some none
  aI : PySem.W.findIn K (.ref C) "__init__" = some (some (.ref fI))
  aW : PySem.W.findIn K (.ref C) "words" = some (some (.ref fW))
  aA : PySem.W.findIn K (.ref C) "asked" = some (some (.ref fA))
  aG : PySem.W.findIn K (.ref C) "goes_on" = some (some (.ref fG))
  aL : PySem.W.findIn K (.ref C) "lengths" = some (some (.ref fL))
structure MF (K : PySem.W.Frag) (n q : Str) (st : Stmt) (f : Addr) : Prop where
  ex : ∃ fd, Fun K n q st f fd
  fn : PySem.W.isFn K (.ref f) = true
  kp : PySem.W.keepIn K (.ref f) = true
section
variable {P : Program} {w : World} {K : PySem.W.Frag} {mg : Str → Option Value} {base : Heap}
end
theorem con_fm {K : PySem.W.Frag} {b : Addr} {o : Obj} {us : List Value} {n : Nat} {fs : List Str} (l : K.lookup b = some o) (hc : o.cls = .type "tuple") (hs : o.data = .seq us.toArray n) (hz : us.length ≤ sizeLine) (hv : Vals (fs.map V.str) us) : conK K (fm fs) (.ref b) :=
  ⟨.ref b, rfl, fun α H => by
    unfold fm Rep
    exact ⟨b, fs.map V.str, rfl, .inr ⟨o, us.toArray, n, l, hc, hs, by simpa using hz, by simpa using hv⟩, Reps.of_map _ _ (fun _ => rep_str) _⟩⟩
theorem vals_nil : Vals (([] : List Str).map V.str) [] := .nil
theorem vals_cons {x : Str} {t : Tok} {fs : List Str} {us : List Value} (h : Vals (fs.map V.str) us) : Vals ((x :: fs).map V.str) (.str x t :: us) := .cons ⟨t, rfl⟩ h
theorem tab_mk {K : PySem.W.Frag} {a : Addr} {o : Obj} {es : List DictEntry} {ep : Nat} {rows : List (Str × D)} (lo : (a == sysModules) = false) (l : K.lookup a = some o) (hc : o.ExactDict) (hd : o.data = .dict es.toArray ep) (hr : Rows (conK K) es rows) : TabK K a rows :=
  ⟨lo, o, es.toArray, ep, l, hc, hd, by simpa using hr⟩
end FJ
set_option Elab.async false
set_option linter.all false
set_option maxRecDepth 100000
set_option maxHeartbeats 4000000
namespace L2
open PySem PySem.Spec PyProof.Rows
section
variable {M : Model} {A : Around} {E : Value → Shared → Prop} {s : Shared}
end
end L2
set_option Elab.async false
set_option linter.all false
set_option maxRecDepth 100000
set_option maxHeartbeats 4000000
namespace L2
open PySem PySem.Spec PyProof.Rows
theorem ObjOk.there {P : Program} {w : World} {H : Hp} {h : Heap} {a : Addr} {o : HO} (x : ObjOk P w H h a o) : ∃ ob, h.get? a = some ob := by
  cases o with
  | lst xs => obtain ⟨_, _, _, _, e⟩ := x; exact ⟨_, e⟩
  | tup xs => obtain ⟨_, _, _, o, e, _⟩ := x; exact ⟨_, e⟩
  | dK kvs => obtain ⟨_, _, _, _, o, _, _, e, _⟩ := x; exact ⟨_, e⟩
  | dT kvs => obtain ⟨_, _, _, _, o, _, _, e, _⟩ := x; exact ⟨_, e⟩
  | set S n => obtain ⟨o, _, _, _, e, _⟩ := x; exact ⟨_, e⟩
  | ins C dx fs => obtain ⟨_, _, _, e, _⟩ := x; exact ⟨_, e⟩
  | own y => exact x
  | xd fs => obtain ⟨_, ⟨_, _, _, e, _⟩, _⟩ := x; exact ⟨_, e⟩
  | rng lo hi => obtain ⟨_, _, _, e⟩ := x; exact ⟨_, e⟩
  | frz ob u => obtain ⟨e, _⟩ := x; exact ⟨_, e⟩
  | tbl ps => exact ⟨_, (show h.get? a = some _ from x)⟩
  | dE ep kvs => obtain ⟨_, _, _, _, o, _, e, _⟩ := x; exact ⟨_, e⟩
  | xc C fs => obtain ⟨_, _, e, _⟩ := x; exact ⟨_, e⟩
  | met f y => exact ⟨_, (show h.get? a = some _ from x)⟩
  | ext φ => obtain ⟨_, e, _⟩ := x; exact e
theorem HOk.none {P : Program} {w : World} {H : Hp} {h : Heap} {a : Addr} (x : HOk P w H h) (e : h.get? a = none) : H a = none := by
  cases q : H a with
  | none => rfl
  | some o => obtain ⟨ob, g⟩ := (x a o q).there; rw [e] at g; cases g
section
variable {X : Cx} {pins : List (Addr × Obj)} {σ : St} {H : Hp} {s : Shared} {h' : Heap}
end
section
variable {P : Program} {w : World} {K : PySem.W.Frag} {mg : Str → Option Value} {base : Heap} {N : List Str} {qual : Str} {scope : Scope} {f : Addr} {cd : Value} {A : Around} {outer : List Env} {s₀ : Shared} {H₀ : Hp} {E : XK}
end
end L2
set_option Elab.async false
set_option linter.all false
set_option maxRecDepth 100000
set_option maxHeartbeats 4000000
namespace L2
open PySem PySem.Spec PyProof.Rows PySem.W PySem.Calls Builtin
section
variable {prog : Program} {w : World} {A : Around} {R : Result → Shared → Prop} {h : Heap} {g : Array GenState} {d : Drawn} {t : Nat} {os : OsState}
variable {nm q : Str} {C N f : Addr} {bs bm bmB : List Value} {hdct : Bool} {sn : List Str} {sub : List Value} {ab : Bool} {col : Option Bool} {dd : Option Addr} {k0 k1 k2 k3 k5 : Option Value} {B newId initId : String}
end
end L2
set_option Elab.async false
set_option linter.all false
set_option maxRecDepth 100000
set_option maxHeartbeats 4000000
namespace L2
open PySem PySem.Spec PyProof.Rows PySem.W
section
variable {prog : Program} {w : World} {A : Around} {E : Value → Shared → Prop} {s : Shared} {K : PySem.W.Frag} {C x : Addr} {name : Str} {v : Value}
end
end L2
set_option Elab.async false
set_option linter.all false
set_option maxRecDepth 100000
set_option maxHeartbeats 4000000
namespace L2
open PySem PySem.Spec PyProof.Rows PySem.W
section
variable {prog : Program} {w : World} {A : Around} {E : Value → Shared → Prop} {h : Heap} {g : Array GenState} {d : Drawn} {t : Nat} {os : OsState}
variable {nm q : Str} {C N x : Addr} {bs bm bmB : List Value} {hdct : Bool} {sn : List Str} {sub : List Value} {ab : Bool} {col : Option Bool} {dd : Option Addr} {k0 k1 k2 k3 k5 : Option Value} {B newId initId : String}
end
end L2
set_option Elab.async false
set_option linter.all false
set_option maxRecDepth 100000
set_option maxHeartbeats 4000000
namespace L2
open PySem PySem.Spec PyProof.Rows PySem.W
section
variable {X : Cx} {value e : Expr} {es : List Expr} {te : TE} {pos : Pos}
def tFmt (te : TE) : TE := fun σ H Q => te σ H fun x H1 => match x with
  | .str y => y.length ≤ sizeLine ∧ Q (.str y) H1
  | .int i => i.natAbs.log2 < 1920 ∧ Q (.str (toString i)) H1
  | _ => False
theorem Inv.tk {pins : List (Addr × Obj)} {σ : St} {H : Hp} {s : Shared} (I : Inv X pins σ H s) (t' : Nat) : Inv X pins σ H { s with toks := t' } := ⟨I.ok, I.os, I.bare, I.base, I.loc, I.cell, I.free, I.freeC, I.pin, I.hok, I.len⟩
theorem pe_fmt (h : PE X value te) : PE X (.FormattedValue value (-1) none pos) (tFmt te) := by
  intro pins s σ H Q I hq
  refine FormattedValue_plain (thn (h pins s σ H _ I hq) fun v s1 zq => ?_)
  obtain ⟨x, H1, I1, r1, q⟩ := zq
  cases x <;> first | exact q.elim | skip
  · rename_i i
    obtain ⟨t, rfl⟩ := r1
    refine formatField_int_small q.1 ?_
    exact ⟨.str (toString i), H1, I1.tk _, ⟨_, rfl⟩, q.2⟩
  · rename_i y
    obtain ⟨t, rfl⟩ := r1
    exact formatField_str (fun t' tk => ⟨.str y, H1, I1.tk _, ⟨_, rfl⟩, q.2⟩) q.1
abbrev TJ := Str → St → Hp → VK → Prop
def PJ (X : Cx) (es : List Expr) (t : TJ) : Prop := ∀ (acc : Str) (pins : List (Addr × Obj)) (s : Shared) (σ : St) (H : Hp) (Q : VK), Inv X pins σ H s → t acc σ H Q → wpAny (model X.prog X.w) X.A (joinParts acc (evalEach es X.env)) (EP X pins σ Q) X.xe s
def tJnil : TJ := fun acc _ H Q => acc.length ≤ sizeLine ∧ Q (.str acc) H
def tJcons (te : TE) (tj : TJ) : TJ := fun acc σ H Q => te σ H fun x H1 => ∃ y, x = .str y ∧ (acc ++ y).length ≤ sizeLine ∧ tj (acc ++ y) σ H1 Q
theorem pj_nil : PJ X [] tJnil := fun acc pins s σ H Q I q => joinParts_nil ⟨.str acc, H, I.tk _, ⟨_, rfl⟩, q.2⟩ q.1
theorem pj_cons {tj : TJ} (h : PE X e te) (hs : PJ X es tj) : PJ X (e :: es) (tJcons te tj) := by
  intro acc pins s σ H Q I hq
  show wpAny _ _ (joinParts acc (eval e X.env :: evalEach es X.env)) _ _ _
  refine joinParts_cons (thn (h pins s σ H _ I hq) fun v s1 zq => ?_)
  obtain ⟨x, H1, I1, r1, y, e1, hz, q⟩ := zq
  subst e1
  obtain ⟨t, rfl⟩ := r1
  exact ⟨hz, hs _ pins s1 σ H1 Q I1 q⟩
theorem pe_join {tj : TJ} {e2 : Expr} (h : PJ X (e :: e2 :: es) tj) : PE X (.JoinedStr (e :: e2 :: es) pos) (tj Str.empty) := fun pins s σ H Q I q => JoinedStr_many (h Str.empty pins s σ H Q I q)
end
end L2
set_option Elab.async false
set_option linter.all false
set_option maxRecDepth 100000
set_option maxHeartbeats 4000000
namespace L2
open PySem PySem.Spec PyProof.Rows PySem.W
section
variable {X : Cx} {value : Expr} {te : TE} {pos : Pos}
theorem mt_sw : MtR X "str.startswith" (fun v vs H Q => ∃ x y, v = .str x ∧ vs = [.str y] ∧ Q (.bl (Txt.startswith x y)) H) := by
  intro pins s σ H v vs u us Q I rx rs h
  obtain ⟨x, y, rfl, rfl, q⟩ := h
  obtain ⟨t, rfl⟩ := rx
  obtain ⟨w, rfl, t', rfl⟩ := vals1 rs
  exact SC.startswith ⟨.bl _, H, I, rfl, q⟩
theorem mt_ew : MtR X "str.endswith" (fun v vs H Q => ∃ x y, v = .str x ∧ vs = [.str y] ∧ Q (.bl (Txt.endswith x y)) H) := by
  intro pins s σ H v vs u us Q I rx rs h
  obtain ⟨x, y, rfl, rfl, q⟩ := h
  obtain ⟨t, rfl⟩ := rx
  obtain ⟨w, rfl, t', rfl⟩ := vals1 rs
  exact SC.endswith ⟨.bl _, H, I, rfl, q⟩
theorem valsT : ∀ {ss : List Str} {us : List Value}, Vals (ss.map V.str) us → ∃ l : List (Str × Tok), us = strValues l ∧ l.map (·.1) = ss
  | [], _, .nil => ⟨[], rfl, rfl⟩
  | s :: ss, _, .cons r t => by
    obtain ⟨k, rfl⟩ := r
    obtain ⟨l, rfl, rfl⟩ := valsT t
    exact ⟨(s, k) :: l, rfl, rfl⟩
theorem mt_join : MtR X "str.join" (fun v vs H Q => ∃ x a ss, v = .str x ∧ vs = [.ref a] ∧ SqL X.K H a (ss.map V.str) ∧ JoinOk x ss = true ∧ Q (.str (Txt.join x ss)) H) := by
  intro pins s σ H v vs u us Q I rx rs h
  obtain ⟨x, a, ss, rfl, rfl, hq, hj, q⟩ := h
  obtain ⟨t, rfl⟩ := rx
  obtain ⟨w, rfl, ru⟩ := vals1 rs
  cases ru
  obtain ⟨its, rv, p, hz⟩ := I.list hq
  obtain ⟨l, rfl, e⟩ := valsT rv
  exact SC.join p.isList e hj fun t' k => ⟨.str _, H, I.tk _, ⟨_, rfl⟩, q⟩
theorem vals_num (tk : Nat) : ∀ ss : List Str, Vals (ss.map V.str) (strsFrom tk ss)
  | [] => .nil
  | s :: ss => .cons ⟨_, rfl⟩ (vals_num _ ss)
theorem mt_split : MtR X "str.split" (fun v vs H Q => ∃ x y, v = .str x ∧ vs = [.str y] ∧ (y.length == 0) = false ∧ x.length ≤ sizeLine ∧ (Txt.split x y).length ≤ sizeLine ∧ ∀ p, H p = none → Q (.ref p) (upd H p (.lst ((Txt.split x y).map V.str)))) := by
  intro pins s σ H v vs u us Q I rx rs h
  obtain ⟨x, y, rfl, rfl, hy, hx, hl, q⟩ := h
  obtain ⟨t, rfl⟩ := rx
  obtain ⟨w, rfl, t', rfl⟩ := vals1 rs
  have one : Txt.split x y = [x] → wants (EP X pins σ Q) X.xe (.ok (.ret (.ref s.heap.objs.size))) { s with heap := s.heap.push { cls := .type "list", data := .seq [Value.str x t].toArray } } := fun e => by
    rw [e] at q
    exact ⟨.ref _, _, I.lnew (t' := s.toks) (ys := [V.str x]) (its := [Value.str x t]) (.cons ⟨_, rfl⟩ .nil) (show 1 ≤ sizeLine by decide), rfl, q _ I.fresh⟩
  cases h1 : (decide (x.length < y.length) || decide (Builtin.Str.strKind x < Builtin.Str.strKind y))
  · cases hf : (Builtin.Str.occurrences x y 0 x.length (x.length + 1)).isEmpty
    · have e : Txt.split x y = Builtin.Str.partsBetween x (Builtin.Str.occurrences x y 0 x.length (x.length + 1)) y.length := (if_neg (ne_true_of_eq_false h1)).trans (if_neg (ne_true_of_eq_false hf))
      rw [e] at hl q
      refine call_meets F.slot_str_split (typeIs_str _ _ _) F.entry_str_split (F.args_str_split_2 _ _) (meets_str_split_sep x y t t' h1 hy hf hx hl) ?_
      exact ⟨.ref _, _, I.lnew (vals_num _ _) (by rw [List.length_map]; exact hl), rfl, q _ I.fresh⟩
    · exact call_meets F.slot_str_split (typeIs_str _ _ _) F.entry_str_split (F.args_str_split_2 _ _) (meets_str_split_not_found x y t t' h1 hy hf) (one ((if_neg (ne_true_of_eq_false h1)).trans (if_pos hf)))
  · exact call_meets F.slot_str_split (typeIs_str _ _ _) F.entry_str_split (F.args_str_split_2 _ _) (meets_str_split_cannot_occur x y t t' h1) (one (if_pos h1))
theorem call_strV : CallR X (.type "str") (fun xs H Q => (∃ y, xs = [.str y] ∧ Q (.str y) H) ∨ ∃ i : Int, xs = [.int i] ∧ i.natAbs.log2 < 1920 ∧ Q (.str (toString i)) H) := by
  intro pins s σ H xs us Q I r h
  rcases h with ⟨y, rfl, q⟩ | ⟨i, rfl, hi, q⟩
  · obtain ⟨w, rfl, t', rfl⟩ := vals1 r
    exact PySem.P.str_of_str ⟨.str y, H, I, ⟨_, rfl⟩, q⟩
  · obtain ⟨w, rfl, t', rfl⟩ := vals1 r
    exact PySem.P.str_of_int hi ⟨.str _, H, I.tk _, ⟨_, rfl⟩, q⟩
theorem call_intT : CallR X (.type "int") (fun xs H Q => ∃ y n, xs = [.str y] ∧ y.length ≤ 640 ∧ PySem.intText? y = some n ∧ Q (.int n) H) := by
  intro pins s σ H xs us Q I r h
  obtain ⟨y, n, rfl, hl, hn, q⟩ := h
  obtain ⟨w, rfl, t', rfl⟩ := vals1 r
  exact KIN.call_text hn hl ⟨.int n, H, I.tk _, ⟨_, rfl⟩, q⟩
end
end L2
namespace L3
open PySem PySem.Spec PyProof.Rows L2 PyProof.Rows.KTD
section
variable {X : Cx}
def gmSw : GM := fun d ds M Q => match d, ds with
  | .str x, [.str y] => Q (.bl (Txt.startswith x y)) M
  | _, _ => False
theorem jm_sw : JM X "str.startswith" gmSw := by
  refine ⟨fun d ds M P Q w q => ?_, fun pins s σ H x xs v us Q I rx rs h => ?_⟩
  · unfold gmSw at q ⊢; split at q <;> first | exact q.elim | exact w _ _ q
  · obtain ⟨F, α, M, d, ds, ok, r, rr, h⟩ := h
    unfold gmSw at h; split at h <;> first | exact h.elim | skip
    obtain ⟨u, rfl, ru⟩ := reps2 rr
    unfold Rep at r ru
    subst r ru
    exact mt_sw pins s σ H _ _ v us Q I rx rs ⟨_, _, rfl, rfl, vK.now ok h rep_bl⟩
def gmEw : GM := fun d ds M Q => match d, ds with
  | .str x, [.str y] => Q (.bl (Txt.endswith x y)) M
  | _, _ => False
theorem jm_ew : JM X "str.endswith" gmEw := by
  refine ⟨fun d ds M P Q w q => ?_, fun pins s σ H x xs v us Q I rx rs h => ?_⟩
  · unfold gmEw at q ⊢; split at q <;> first | exact q.elim | exact w _ _ q
  · obtain ⟨F, α, M, d, ds, ok, r, rr, h⟩ := h
    unfold gmEw at h; split at h <;> first | exact h.elim | skip
    obtain ⟨u, rfl, ru⟩ := reps2 rr
    unfold Rep at r ru
    subst r ru
    exact mt_ew pins s σ H _ _ v us Q I rx rs ⟨_, _, rfl, rfl, vK.now ok h rep_bl⟩
def gmJoin : GM := fun d ds M Q => match d, ds with
  | .str x, [y] => ∃ ss : List Str, vw M y = .lst (ss.map D.str) ∧ JoinOk x ss = true ∧ Q (.str (Txt.join x ss)) M
  | _, _ => False
theorem jm_join : JM X "str.join" gmJoin := by
  refine ⟨fun d ds M P Q w q => ?_, fun pins s σ H x xs v us Q I rx rs h => ?_⟩
  · unfold gmJoin at q ⊢; split at q <;> first | exact q.elim | exact let ⟨a, b, c, q⟩ := q; ⟨a, b, c, w _ _ q⟩
  · obtain ⟨F, α, M, d, ds, ok, r, rr, h⟩ := h
    unfold gmJoin at h; split at h <;> first | exact h.elim | skip
    obtain ⟨ss, e, hj, h⟩ := h
    obtain ⟨u, rfl, ru⟩ := reps2 rr
    unfold Rep at r
    subst r
    obtain ⟨a, vs, rfl, ea, ra⟩ := rd_lst ok ru e
    cases reps_strs ra
    exact mt_join pins s σ H _ _ v us Q I rx rs ⟨_, a, ss, rfl, rfl, SqL.of ea, hj, vK.now ok h rep_str⟩
theorem reps_of_strs {K : PySem.W.Frag} {α : List Addr} {H : Hp} : ∀ ss : List Str, Reps K α H (ss.map D.str) (ss.map V.str)
  | [] => by unfold Reps; rfl
  | w :: ss => by
    show Reps K α H (D.str w :: ss.map D.str) _
    unfold Reps
    exact ⟨.str w, ss.map V.str, rfl, by unfold Rep; rfl, reps_of_strs ss⟩
def gmSplit : GM := fun d ds M Q => match d, ds with
  | .str x, [.str y] => (y.length == 0) = false ∧ x.length ≤ sizeLine ∧ (Txt.split x y).length ≤ sizeLine ∧ Q (.lst ((Txt.split x y).map D.str)) M
  | _, _ => False
theorem jm_split : JM X "str.split" gmSplit := by
  refine ⟨fun d ds M P Q w q => ?_, fun pins s σ H x xs v us Q I rx rs h => ?_⟩
  · unfold gmSplit at q ⊢; split at q <;> first | exact q.elim | exact let ⟨a, b, c, q⟩ := q; ⟨a, b, c, w _ _ q⟩
  · obtain ⟨F, α, M, d, ds, ok, r, rr, h⟩ := h
    unfold gmSplit at h; split at h <;> first | exact h.elim | skip
    obtain ⟨h1, h2, h3, h⟩ := h
    obtain ⟨u, rfl, ru⟩ := reps2 rr
    unfold Rep at r ru
    subst r ru
    refine mt_split pins s σ H _ _ v us Q I rx rs ⟨_, _, rfl, rfl, h1, h2, h3, fun p hp => vK.new ok hp h fun e => rep_lst_new ok hp (reps_of_strs _) e⟩
def gStr : GN := fun ds M Q => match ds with
  | [.str y] => Q (.str y) M
  | [.int i] => i.natAbs.log2 < 1920 ∧ Q (.str (toString i)) M
  | _ => False
theorem jb_str : JB X (.type "str") gStr := by
  refine ⟨fun ds M P Q w q => ?_, fun pins s σ H xs us Q I rs h => ?_⟩
  · unfold gStr at q ⊢
    split at q <;> first | exact q.elim | exact w _ _ q | exact ⟨q.1, w _ _ q.2⟩
  · obtain ⟨F, α, M, ds, o, rr, h⟩ := h
    unfold gStr at h
    split at h <;> first | exact h.elim | skip
    · obtain ⟨v, rfl, rv⟩ := reps2 rr
      unfold Rep at rv
      subst rv
      exact call_strV pins s σ H _ us Q I rs (.inl ⟨_, rfl, vK.now o h rep_str⟩)
    · obtain ⟨v, rfl, rv⟩ := reps2 rr
      unfold Rep at rv
      subst rv
      exact call_strV pins s σ H _ us Q I rs (.inr ⟨_, rfl, h.1, vK.now o h.2 rep_str⟩)
def gIntT : GN := fun ds M Q => match ds with
  | [.str y] => ∃ n, y.length ≤ 640 ∧ PySem.intText? y = some n ∧ Q (.int n) M
  | _ => False
theorem jb_intT : JB X (.type "int") gIntT := by
  refine ⟨fun ds M P Q w q => ?_, fun pins s σ H xs us Q I rs h => ?_⟩
  · unfold gIntT at q ⊢
    split at q <;> first | exact q.elim | exact let ⟨a, b, c, q⟩ := q; ⟨a, b, c, w _ _ q⟩
  · obtain ⟨F, α, M, ds, o, rr, h⟩ := h
    unfold gIntT at h
    split at h <;> first | exact h.elim | skip
    obtain ⟨n, h1, h2, h⟩ := h
    obtain ⟨v, rfl, rv⟩ := reps2 rr
    unfold Rep at rv
    subst rv
    exact call_intT pins s σ H _ us Q I rs ⟨_, n, rfl, h1, h2, vK.now o h rep_int⟩
def dFs (c : Str) (te : DE) : DE := fun δ M Q => te δ M fun d M1 => match d with
  | .str y => c.length + y.length ≤ sizeLine ∧ Q (.str (c ++ y)) M1
  | _ => False
theorem j_fs {e : Expr} {te : DE} {c : Str} {j} {p1 p2 pos : Pos} (he : JE X e te) (hc : c.length ≤ sizeLine := by decide) : JE X (.JoinedStr [.Constant (.str c) j p1, .FormattedValue e (-1) none p2] pos) (dFs c te) := by
  refine ⟨fun δ M P Q w q => he.mono δ _ _ _ (fun d M1 q => ?_) q, PE.weak (pe_join (pj_cons pe_str (pj_cons (pe_fmt he.p) pj_nil))) fun σ H Q q => ?_⟩
  · cases d <;> first | exact q.elim | exact ⟨q.1, w _ _ q.2⟩
  · obtain ⟨F, α, δ, M, r, q⟩ := q
    have e0 : Str.empty ++ c = c := by show Str.mk (#[] ++ c.cps) = c; rw [Array.empty_append]
    have lz : ∀ a b : Str, (a ++ b).length = a.length + b.length := PySem.Str.length_append
    refine ⟨c, rfl, ?_, F, α, δ, M, r, he.mono δ _ _ _ (fun d M1 q v α1 H1 e1 o1 r1 => ?_) q⟩
    · rw [e0]; exact hc
    · cases d <;> first | exact q.elim | skip
      unfold Rep at r1
      subst r1
      have q1 := q.1
      refine ⟨by omega, _, rfl, ?_⟩
      rw [e0]
      exact ⟨by rw [lz]; exact q.1, by rw [lz]; exact q.1, q.2 _ α1 H1 e1 o1 rep_str⟩
theorem TabK.getX {prog : Program} {w : World} {A : Around} {E : Value → Shared → Prop} {s : Shared} {K : PySem.W.Frag} {a : Addr} {rows : List (Str × D)} {k : Str} {tk : Tok} {dflt : Value} {Q : Value → Shared → Prop} (T : TabK K a rows) (hK : K.In s.heap)
    (h1 : ∀ d v, datumAt k rows = some d → conK K d v → Q v { s with toks := s.toks + 1 }) (h2 : datumAt k rows = none → Q dflt { s with toks := s.toks + 1 }) : wpAny (model prog w) A (call (.builtin "dict.get") [.ref a, .str k tk, dflt]) Q E s := by
  refine wpAny_call_entry PySem.F.slot_dict_get (T.typeIs hK) PySem.F.entry_dict_get ?_ (PySem.F.args_dict_get_3 _ _ _)
  show wpAny _ _ (dictGet a (.str k tk) >>= _) _ _ s
  refine wpAny_bind (T.get hK (fun d v ha hv => wpAny_pure ⟨v, rfl, h1 d v ha hv⟩) fun hn => ?_)
  show wpAny _ _ (Builtin.Dict.missed a (.str k tk) >>= _) _ _ _
  exact wpAny_bind (wpAny_missed_other T.lo (wpAny_pure ⟨dflt, rfl, h2 hn⟩))
def dGetTab (rows : List (Str × D)) (tt : DA) : DE := fun δ M Q => tt δ M fun ds M1 => ∃ k x, ds = [.str k, x] ∧ Q ((datumAt k rows).getD x) M1
theorem j_getTab {o e : Expr} {es : List Expr} {tt : DA} {a : Addr} {rows : List (Str × D)} {apos cpos : Pos} (T : TabK X.K a rows) (ho : JE X o (dC (.cls a))) (ha : JA X (e :: es) tt)
    (hbase : attributeBase o "get" X.env (eval o X.env) = eval o X.env := by rfl)
    (hfew : ((backTo cpos (starEach (e :: es) X.env)).all (fun x => !x.1) && (backToKw cpos (keywordEach [] X.env)).all (fun x => x.1.isSome)
      && decide ((e :: es).length + ([] : List Keyword).length + (if ([] : List Keyword).isEmpty then 0 else 1) < 30)) = true := by rfl)
    (hline : (apos.endLine == cpos.line) = true := by rfl) (hs : starEach (e :: es) X.env = (false, eval e X.env) :: starEach es X.env := by rfl) (hplain : (backTo cpos (starEach es X.env)).any (·.1) = false := by rfl) :
    JE X (.Call (.Attribute o "get" apos) (e :: es) [] cpos) (dGetTab rows tt) := by
  refine ⟨fun δ M P Q w q => ha.mono δ _ _ _ (fun ds M1 ⟨k, x, e, q⟩ => ⟨k, x, e, w _ _ q⟩) q, fun pins s σ H Q I q => ?_⟩
  obtain ⟨F, α, δ, M, r, q⟩ := q
  refine wpAny_Call_method_late hbase hfew hline rfl (thn (ho.p pins s σ H (fun v H1 => v = .ref a ∧ lA X.K tt σ H1 fun vs H2 => ∃ k x d, vs = [.str k, x] ∧ (∃ F α M, OK X.K F α H2 M ∧ Rep X.K α (hid F α M H2) d x ∧ vK X.K F α H2 M Q ((datumAt k rows).getD d) M)) I ⟨F, α, δ, M, r, fun v α1 H1 e1 o1 r1 => ?_⟩) fun v s1 zq => ?_)
  · unfold Rep at r1
    refine ⟨r1, F, α1, δ, M, r.grow e1 o1, ha.mono δ _ _ _ (fun ds M1 q vs α2 H2 e2 o2 r2 => ?_) q⟩
    obtain ⟨k, x, rfl, q⟩ := q
    obtain ⟨u1, u2, rfl, z1, z2⟩ := reps3 r2
    unfold Rep at z1
    subst z1
    exact ⟨k, u2, x, rfl, F, α2, M1, o2, z2, vK.grow (e1.trans e2) _ _ q⟩
  · obtain ⟨x, H1, I1, r1, rfl, q1⟩ := zq
    obtain rfl : v = Value.ref a := r1
    refine ⟨"dict", "dict.get", PySem.F.plainAttrs_dict, PySem.F.slot_dict_get, PySem.F.type_dict_get, T.typeIs I1.kIn, fun b hb => ?_, ?_⟩
    · cases hb
      obtain ⟨o, es, ep, ho, hc, _⟩ := T.ex
      exact ⟨o, I1.kIn _ _ ho, hc.2.1⟩
    have hA := ha.p cpos pins s1 σ H1 _ I1 q1
    rw [hs] at hA ⊢
    refine Calls.callWith_builtin (by show (false || (backTo cpos (starEach es X.env)).any (·.1)) = false; rw [hplain] <;> rfl) (Calls.evalArgs_plain ?_)
    refine thn hA fun us s2 zq => ?_
    obtain ⟨vs, H2, I2, r2, k, x, d, rfl, F, α, M, ok, rx, q⟩ := zq
    obtain ⟨u1, u2, rfl, ⟨t, rfl⟩, q2⟩ := vals2 r2
    refine T.getX I2.kIn (fun d' v hd cv => ?_) fun hn => ?_
    · rw [hd] at q
      obtain ⟨vv, r1, r2⟩ := cv
      exact ⟨vv, H2, I2.tok _, r1, vK.now ok q (r2 _ _)⟩
    · rw [hn] at q
      exact ⟨x, H2, I2.tok _, q2, vK.now ok q rx⟩
end
end L3
set_option Elab.async false
set_option linter.all false
set_option maxRecDepth 100000
set_option maxHeartbeats 4000000
namespace L3
open PySem PySem.Spec PyProof.Rows L2
noncomputable def fzD (M : Ms) : Nat → D → D
  | 0, d => d
  | n + 1, d => match vw M d with
    | .lst ds => .lst (ds.map (fzD M n))
    | .tup ds => .tup (ds.map (fzD M n))
    | z => z
section
variable {K : PySem.W.Frag} {F α : List Addr} {H : Hp} {M : Ms}
theorem reps_fun {H' : Hp} {f : D → D} (h : ∀ d v, Rep K α H d v → Rep K α H' (f d) v) : ∀ (ds : List D) (vs : List V), Reps K α H ds vs → Reps K α H' (ds.map f) vs
  | [], vs, r => by unfold Reps at r; subst r; exact Reps.nil
  | d :: ds, vs, r => by
    unfold Reps at r
    obtain ⟨v, r, rfl, z, y⟩ := r
    exact Reps.cons (h d v z) (reps_fun h ds r y)
theorem rep_fzD (o : OK K F α H M) : ∀ (n : Nat) (d : D) (v : V), Rep K α (hid F α M H) d v → Rep K α (hide F H) (fzD M n d) v
  | 0, d, v, h => Rep.mono (List.prefix_refl _) hid_sub d v h
  | n + 1, d, v, h => by
    have h2 := rep_vw o d v h
    unfold fzD
    generalize e : vw M d = z at h2 ⊢
    cases z <;> first | exact h2 | skip
    · cases d <;> first | (cases e; done) | skip
      · cases e
        unfold Rep at h
        obtain ⟨a, vs, rfl, sq, z⟩ := h
        show Rep K α _ (.tup _) _
        unfold Rep
        exact ⟨a, vs, rfl, same_seqT hid_sub sq, reps_fun (rep_fzD o n) _ _ z⟩
      · rcases vw_loc e with e | ⟨x, hk, e⟩
        · cases e
        · cases x <;> cases e
    · obtain ⟨a, vs, rfl, q, r⟩ := rd_lst o h e
      unfold Rep at h2
      obtain ⟨a', vs', e', q', r'⟩ := h2
      cases e'
      have := hide_same _ _ q'
      rw [q] at this
      cases this
      show Rep K α _ (.lst _) _
      unfold Rep
      exact ⟨a, vs, rfl, q', reps_fun (rep_fzD o n) _ _ r⟩
def fnCn (n m : Nat) (tb : DS) : GP := fun ds Q => ds.length = m ∧ tb ⟨fun _ _ => Q .non, fun d M' => nl (fzD M' 3 d) = true ∧ Q (fzD M' 3 d), fun _ _ => False, fun _ _ => False⟩ (startD n ds) []
theorem body_Cn {n : List Str} {ps : List Str} {X : Cx} {body : List Stmt} {tb : DS} (hJ : JB' X body tb) {H : Hp} {vs : List V} {Q : VK} {E : XK} (hK : X.K = K) (h : lSp K (cl (fnCn n.length ps.length tb)) vs H Q E) :
    ∃ t, QB X body t ∧ t { nx := fun _ H' => Q .non H', rt := Q } (L2.start n vs) H := by
  subst hK
  obtain ⟨F, α, M, ds, o, r, hn, hl, q⟩ := h
  have o0 : OK X.K (lv α M ++ F) [] H [] := ⟨rfl, List.nodup_nil, fun a ha => ⟨by simp, by
    rcases List.mem_append.mp ha with ha | ha
    · exact o.liveV a ha
    · exact (o.fr a ha).2⟩, fun a ha => (by simp at ha), fun k x h => (by simp at h), o.tb⟩
  have r0 : Reps X.K [] (hid (lv α M ++ F) [] [] H) ds vs := Reps.nl ds vs hn r
  refine ⟨_, ⟨hJ.p⟩, lv α M ++ F, [], startD n.length ds, [], r_start o0 r0, ?_⟩
  refine hJ.mono _ _ _ _ ?_ q
  refine ⟨fun δ M' q σ' α' H' e r => ?_, fun d M' q v α' H' e o' r => ?_, fun _ _ q => q.elim, fun _ _ q => q.elim⟩
  · obtain ⟨e1, o1⟩ := closed_end o e r.ok
    exact q _ α H' e1 o1 rep_non
  · obtain ⟨e1, o1⟩ := closed_end o e o'
    exact q.2 v α H' e1 o1 (Rep.nl _ _ q.1 (rep_fzD o' 3 d v r))
end
theorem hasCnw {P : Program} {w : World} {K : PySem.W.Frag} {mg : Str → Option Value} {base : Heap} {x : Str} {st : Stmt} {N ps : List Str} {k : Nat} {body : List Stmt} {scope : Scope} {tb : DS} (F : DefAt K mg x st) (eb : defBody st = body) (es : defScope st = scope) (S : FnScope N ps scope)
    (hb : ∀ (kV doc pm : Value) (an : Option Addr) (cdv ct : Value) (us : List Value), us.length = ps.length → bindArgs (PySem.W.fnOf x x (defArgs st) (defBody st) (defScope st) .none kV doc pm an cdv ct) ⟨us, []⟩ = pure (ps.zip us))
    (hJ : ∀ (f : Addr) (cdv : Value) (A : Around) (outer : List Env) (s : Shared) (H : Hp) (E : XK), Room k (A.deeper (envOfC x scope s.heap.objs.size f cdv)) → JB' (cxOf CX0 P w K mg base N x scope f cdv A outer s H E).nox body tb) :
    Has P w K mg base (k + 1) x ps (lSp K (cl (fnCn N.length ps.length tb))) :=
  F.hasQ eb es S hb (fun vs H Q E ⟨F, α, M, ds, o, r, hn, hl, q⟩ => by rw [← Reps.length _ _ r]; exact hl) fun f cdv A outer s H vs Q E hr h => body_Cn (ps := ps) (hJ f cdv A outer s H E hr) rfl h
end L3
set_option Elab.async false
set_option linter.all false
set_option maxRecDepth 100000
set_option maxHeartbeats 4000000
namespace K61
open PySem PySem.Spec PyProof.Rows L2 L3 FJ
noncomputable def top (i : Nat) : Stmt := PySem.Challenge.pw_farjump_k61_parts_written.main.body.getD i (.Pass ⟨0, 0, 0, 0⟩)
section
variable {P : Program} {w : World} {K : PySem.W.Frag} {mg : Str → Option Value} {base : Heap} {k : Nat}
structure FI (s : Stmt) (N ps : List Str) where
  b : List Stmt
  c : Scope
  hb : defBody s = b
  hc : defScope s = c
  sc : FnScope N ps c
local macro_rules | `(tactic| walk_at "fi_") => `(tactic| exact ⟨_, _, by (conv => lhs; whnf), by (conv => lhs; whnf), rfl, rfl, rfl, by decide +kernel, rfl, by decide +kernel, by decide +kernel⟩)
theorem us1 : ∀ {us : List Value}, us.length = 1 → ∃ a, us = [a]
  | [a], _ => ⟨a, rfl⟩
theorem us2 {us : List Value} (h : us.length = 2) : ∃ a b, us = [a, b] := by
  cases us with
  | nil => nomatch h
  | cons a r =>
    obtain ⟨b, q⟩ := us1 (Nat.succ.inj h)
    exact ⟨a, b, congrArg (a :: ·) q⟩
theorem us3 {us : List Value} (h : us.length = 3) : ∃ a b c, us = [a, b, c] := by
  cases us with
  | nil => nomatch h
  | cons a r =>
    obtain ⟨b, c, q⟩ := us2 (Nat.succ.inj h)
    exact ⟨a, b, c, congrArg (a :: ·) q⟩
theorem us4 {us : List Value} (h : us.length = 4) : ∃ a b c d, us = [a, b, c, d] := by
  cases us with
  | nil => nomatch h
  | cons a r =>
    obtain ⟨b, c, d, q⟩ := us3 (Nat.succ.inj h)
    exact ⟨a, b, c, d, congrArg (a :: ·) q⟩
theorem us5 {us : List Value} (h : us.length = 5) : ∃ a b c d e, us = [a, b, c, d, e] := by
  cases us with
  | nil => nomatch h
  | cons a r =>
    obtain ⟨b, c, d, e, q⟩ := us4 (Nat.succ.inj h)
    exact ⟨a, b, c, d, e, congrArg (a :: ·) q⟩
local macro_rules | `(tactic| walk_at "u_") => `(tactic| (intro _ _ _ _ _ _ us hl; first | (obtain ⟨_, e⟩ := us1 hl; subst e; rfl) | (obtain ⟨_, _, e⟩ := us2 hl; subst e; rfl) | (obtain ⟨_, _, _, e⟩ := us3 hl; subst e; rfl) | (obtain ⟨_, _, _, _, e⟩ := us4 hl; subst e; rfl) | (obtain ⟨_, _, _, _, _, e⟩ := us5 hl; subst e; rfl) | (obtain ⟨_, _, _, _, _, _, e⟩ := us6 hl; subst e; rfl)))
structure Zs (mg : Str → Option Value) : Prop where
  isinstance : mg "isinstance" = none
  int : mg "int" = none
  bool : mg "bool" = none
  str : mg "str" = none
  len : mg "len" = none
  all : mg "all" = none
  list : mg "list" = none
  tuple : mg "tuple" = none
  zip : mg "zip" = none
  enumerate : mg "enumerate" = none
  range : mg "range" = none
  e_LONGEST_WORD : ∃ t, mg "LONGEST_WORD" = some (.int 8 t)
  e_LONGEST_LIST : ∃ t, mg "LONGEST_LIST" = some (.int 60 t)
  e_LAST_BOX : ∃ t, mg "LAST_BOX" = some (.int 3 t)
  e_LEAST_NUMBER : ∃ t, mg "LEAST_NUMBER" = some (.int (-2147483648) t)
  e_GREATEST_NUMBER : ∃ t, mg "GREATEST_NUMBER" = some (.int 2147483647 t)
  e_MOST_FIGURES : ∃ t, mg "MOST_FIGURES" = some (.int 60 t)
variable {f : Addr} {fd : FuncData} {g_fits g_is_word g_is_whole g_is_list_of g_joined_by_blanks g_show_row g_read_number g_row_in g_is_row g_read_name g_read_row g_lacks_rows g_law_mixed g_law_next g_law_aim g_law_code_row g_law_last_row g_law_weak g_law_word g_law_part g_law_line g_law_parts g_law_source g_law_text g_show_parts g_law_right g_read_parts gg_read_parts : GN} {c_FORMS : Addr} {r_FORMS : List (Str × D)}
theorem bo_all : bootBuiltins "all" = some (.builtin "all") := by decide +kernel
theorem bo_bool : bootBuiltins "bool" = some (.type "bool") := by decide +kernel
theorem bo_int : bootBuiltins "int" = some (.type "int") := by decide +kernel
theorem bo_isinstance : bootBuiltins "isinstance" = some (.builtin "isinstance") := by decide +kernel
theorem bo_len : bootBuiltins "len" = some (.builtin "len") := by decide +kernel
theorem bo_list : bootBuiltins "list" = some (.type "list") := by decide +kernel
theorem bo_str : bootBuiltins "str" = some (.type "str") := by decide +kernel
theorem bo_tuple : bootBuiltins "tuple" = some (.type "tuple") := by decide +kernel
noncomputable def b_is_whole : FI (top 5) ["thing"] ["thing"] := by walk_at "fi_"
theorem o_is_whole (D : DefAt K mg "is_whole" (top 5)) (Z : Zs mg) : Has P w K mg base (k + 1) "is_whole" ["thing"] (lSp K (cl (fnC 1 1 (t_is_whole K)))) :=
  hasCw D b_is_whole.hb b_is_whole.hc b_is_whole.sc (by walk_at "u_") fun f cdv A outer s H E hr => by
  have hu := hu_of hr
  exact (jb_one (js_ret (j_and (j_b jb_isi Z.isinstance bo_isinstance (ja_cons (j_v 0) (ja_cons (j_ty Z.int bo_int) ja_nil))) (j_one (j_not (j_b jb_isi Z.isinstance bo_isinstance (ja_cons (j_v 0) (ja_cons (j_ty Z.bool bo_bool) ja_nil))))))))
noncomputable def b_is_word : FI (top 6) ["thing"] ["thing"] := by walk_at "fi_"
theorem o_is_word (D : DefAt K mg "is_word" (top 6)) (Z : Zs mg) : Has P w K mg base (k + 1) "is_word" ["thing"] (lSp K (cl (fnC 1 1 (t_is_word K)))) :=
  hasCw D b_is_word.hb b_is_word.hc b_is_word.sc (by walk_at "u_") fun f cdv A outer s H E hr => by
  have hu := hu_of hr
  exact (jb_cons (js_if (jt_of (jw_or (jt_not (jt_val (j_b jb_isi Z.isinstance bo_isinstance (ja_cons (j_v 0) (ja_cons (j_ty Z.str bo_str) ja_nil))))) (jw_or1 (jt_not (jt_chain jc_le jc_le j_int (j_b jb_len Z.len bo_len (ja_cons (j_v 0) ja_nil)) (j_globI Z.e_LONGEST_WORD)))))) (jb_one (js_ret j_bl)) jb_nil)
      (jb_one (js_ret (j_b jb_all Z.all bo_all (ja_cons (j_new (jf_comp (N := ["sign"]) (fr := [none]) (CompOk.of (N₀ := ["thing"]) (oscope := b_is_word.c) (by decide +kernel)) (ji_any (j_v 0)) gl_name (fun _ _ _ _ _ => (jg_name 0 (show List.Nodup (["sign"] : List Str) by decide +kernel))) (fun _ _ _ _ _ => jif_nil) (fun _ _ _ _ _ => (j_chain jc_le jc_le j_str (j_v 0) j_str)))) ja_nil)))))
noncomputable def b_is_list_of : FI (top 13) ["form", "thing"] ["form", "thing"] := by walk_at "fi_"
theorem o_is_list_of (D : DefAt K mg "is_list_of" (top 13)) (Z : Zs mg) (h_fits : HasD P w K mg base k "fits" ["form", "thing"] g_fits) : Has P w K mg base (k + 1) "is_list_of" ["form", "thing"] (lSp K (cl (fnC 2 2 (t_is_list_of K g_fits)))) :=
  hasCw D b_is_list_of.hb b_is_list_of.hc b_is_list_of.sc (by walk_at "u_") fun f cdv A outer s H E hr => by
  have hu := hu_of hr
  exact (jb_cons (js_if (jt_of (jw_or (jt_not (jt_val (j_b jb_isi Z.isinstance bo_isinstance (ja_cons (j_v 1) (ja_cons (j_ty Z.list bo_list) ja_nil))))) (jw_or1 (jt_not (jt_chain jc_le jc_le j_int (j_b jb_len Z.len bo_len (ja_cons (j_v 1) ja_nil)) (j_globI Z.e_LONGEST_LIST)))))) (jb_one (js_ret j_bl)) jb_nil)
      (jb_one (js_ret (j_b jb_all Z.all bo_all (ja_cons (j_new (jf_comp (N := ["one", "form"]) (fr := [none, some 0]) (CompOk.of (N₀ := ["form", "thing"]) (oscope := b_is_list_of.c) (by decide +kernel)) (ji_any (j_v 1)) gl_name (fun _ _ _ _ _ => (jg_name 0 (show List.Nodup (["one", "form"] : List Str) by decide +kernel))) (fun _ _ _ _ _ => jif_nil) (fun _ _ _ _ _ => (j_fn h_fits hr (ja_cons (j_v 1) (ja_cons (j_v 0) ja_nil)))))) ja_nil)))))
noncomputable def b_fits : FI (top 14) ["form", "thing"] ["form", "thing"] := by walk_at "fi_"
theorem o_fits (D : DefAt K mg "fits" (top 14)) (Z : Zs mg) (h_is_word : HasD P w K mg base k "is_word" ["thing"] g_is_word) (h_is_whole : HasD P w K mg base k "is_whole" ["thing"] g_is_whole) (h_is_list_of : HasD P w K mg base k "is_list_of" ["form", "thing"] g_is_list_of) : Has P w K mg base (k + 1) "fits" ["form", "thing"] (lSp K (cl (fnC 2 2 (t_fits K g_is_word g_is_whole g_is_list_of)))) :=
  hasCw D b_fits.hb b_fits.hc b_fits.sc (by walk_at "u_") fun f cdv A outer s H E hr => by
  have hu := hu_of hr
  exact (jb_cons (js_if (jt_cmp (jc_eq hr.units) (j_v 0) j_str) (jb_one (js_ret (j_fn h_is_word hr (ja_cons (j_v 1) ja_nil)))) jb_nil)
      (jb_cons (js_if (jt_cmp (jc_eq hr.units) (j_v 0) j_str) (jb_one (js_ret (j_and (j_fn h_is_whole hr (ja_cons (j_v 1) ja_nil)) (j_one (j_chain jc_le jc_le j_int (j_v 1) (j_globI Z.e_LAST_BOX)))))) jb_nil)
      (jb_cons (js_if (jt_cmp (jc_eq hr.units) (j_v 0) j_str) (jb_one (js_ret (j_and (j_fn h_is_whole hr (ja_cons (j_v 1) ja_nil)) (j_one (j_chain jc_le jc_le (j_globI Z.e_LEAST_NUMBER) (j_v 1) (j_globI Z.e_GREATEST_NUMBER)))))) jb_nil)
      (jb_cons (js_if (jt_cmp (jc_eq hr.units) (j_v 0) j_str) (jb_one (js_ret (j_b jb_isi Z.isinstance bo_isinstance (ja_cons (j_v 1) (ja_cons (j_ty Z.bool bo_bool) ja_nil))))) jb_nil)
      (jb_cons (js_if (jt_cmp (jc_eq hr.units) (j_v 0) j_str) (jb_one (js_ret (j_fn h_is_list_of hr (ja_cons j_str (ja_cons (j_v 1) ja_nil))))) jb_nil)
      (jb_one (js_ret (j_fn h_is_list_of hr (ja_cons j_str (ja_cons (j_v 1) ja_nil))))))))))
noncomputable def b_is_row : FI (top 15) ["thing", "forms"] ["thing"] := by walk_at "fi_"
theorem o_is_row (D : DefAt K mg "is_row" (top 15)) (Z : Zs mg) (m_FORMS : mg "FORMS" = some (.ref c_FORMS)) (tb_FORMS : TabK K c_FORMS r_FORMS) (h_fits : HasD P w K mg base k "fits" ["form", "thing"] g_fits) : Has P w K mg base (k + 1) "is_row" ["thing"] (lSp K (cl (fnC 2 1 (t_is_row K c_FORMS r_FORMS g_fits)))) :=
  hasCw D b_is_row.hb b_is_row.hc b_is_row.sc (by walk_at "u_") fun f cdv A outer s H E hr => by
  have hu := hu_of hr
  exact (jb_cons (js_if (jt_of (jw_or (jt_not (jt_val (j_b jb_isi Z.isinstance bo_isinstance (ja_cons (j_v 0) (ja_cons (j_ty Z.tuple bo_tuple) ja_nil))))) (jw_or1 (jt_cmp (jc_eq hr.units) (j_b jb_len Z.len bo_len (ja_cons (j_v 0) ja_nil)) j_int)))) (jb_one (js_ret j_bl)) jb_nil)
      (jb_cons (js_if (jt_of (jw_or (jt_not (jt_val (j_b jb_isi Z.isinstance bo_isinstance (ja_cons (j_ix (jx hu) (j_v 0) j_int) (ja_cons (j_ty Z.str bo_str) ja_nil))))) (jw_or1 (jt_cmp (jc_notInTab tb_FORMS) (j_ix (jx hu) (j_v 0) j_int) (j_globC m_FORMS))))) (jb_one (js_ret j_bl)) jb_nil)
      (jb_cons (js_set 1 b_is_row.sc.nd (j_ix (jx_tab tb_FORMS) (j_globC m_FORMS) (j_ix (jx hu) (j_v 0) j_int)))
      (jb_cons (js_if (jt_cmp (jc_ne hr.units) (j_b jb_len Z.len bo_len (ja_cons (j_v 0) ja_nil)) (j_op jo_add j_int (j_b jb_len Z.len bo_len (ja_cons (j_v 1) ja_nil)))) (jb_one (js_ret j_bl)) jb_nil)
      (jb_one (js_ret (j_b jb_all Z.all bo_all (ja_cons (j_new (jf_comp (N := ["form", "one"]) (fr := [none, none]) (CompOk.of (N₀ := ["thing", "forms"]) (oscope := b_is_row.c) (by decide +kernel)) (ji_zip (ja_cons (j_v 1) (ja_cons (j_sl (j_v 0) (jop_some j_int) jop_none) ja_nil)) Z.zip) (gl_tup' (gl_cons' gl_name (gl_cons' gl_name gl_nil))) (fun _ _ _ _ _ => (jg_tup (jgs_cons (jg_name 0 (show List.Nodup (["form", "one"] : List Str) by decide +kernel)) (jgs_cons (jg_name 1 (show List.Nodup (["form", "one"] : List Str) by decide +kernel)) jgs_nil)))) (fun _ _ _ _ _ => jif_nil) (fun _ _ _ _ _ => (j_fn h_fits hr (ja_cons (j_v 0) (ja_cons (j_v 1) ja_nil)))))) ja_nil))))))))
noncomputable def b_joined_by_blanks : FI (top 18) ["things"] ["things"] := by walk_at "fi_"
def t_joined_by_blanks  : DS := (dRet (dBM "str" gmJoin (dC (.str " ")) (dCons (dNew (fComp [none] (iAnyD (dVar 0)) (dgName 0) dYes (dCB gStr (dCons (dVar 0) dNil)))) dNil)))
theorem o_joined_by_blanks (D : DefAt K mg "joined_by_blanks" (top 18)) (Z : Zs mg) : Has P w K mg base (k + 1) "joined_by_blanks" ["things"] (lSp K (cl (fnC 1 1 t_joined_by_blanks))) :=
  hasCw D b_joined_by_blanks.hb b_joined_by_blanks.hc b_joined_by_blanks.sc (by walk_at "u_") fun f cdv A outer s H E hr => by
  have hu := hu_of hr
  exact (jb_one (js_ret (j_bm jm_join PySem.F.plainAttrs_str PySem.F.slot_str_join PySem.F.type_str_join j_str (ja_cons (j_new (jf_comp (N := ["thing"]) (fr := [none]) (CompOk.of (N₀ := ["things"]) (oscope := b_joined_by_blanks.c) (by decide +kernel)) (ji_any (j_v 0)) gl_name (fun _ _ _ _ _ => (jg_name 0 (show List.Nodup (["thing"] : List Str) by decide +kernel))) (fun _ _ _ _ _ => jif_nil) (fun _ _ _ _ _ => (j_t jb_str Z.str bo_str (ja_cons (j_v 0) ja_nil))))) ja_nil))))
noncomputable def b_show_row : FI (top 19) ["row", "words", "one"] ["row"] := by walk_at "fi_"
def t_show_row (K : PySem.W.Frag) (g_joined_by_blanks : GN) : DS := (dSeq (dIfS (dTest (dOp gEq (dOp gIx (dVar 0) (dC (.int 0))) (dC (.str "mark")))) (dRet (dOp gPlus (dOp gIx (dVar 0) (dC (.int 1))) (dIf (dTest (dOp gIx (dVar 0) (dC (.int 2)))) (dC (.str "::")) (dC (.str ":"))))) dNext)
  (dSeq (dSet 1 (dOwn (fLst dNil)))
  (dSeq (dFor (iAnyD (dVar 0)) (dgName 2) (dIfS (dTest (dCB (gIsi K) (dCons (dVar 2) (dCons (dC (.ty "list")) dNil)))) (dDrop (dBM "list" gmExtend (dVar 1) (dCons (dVar 2) dNil))) (dDrop (dBM "list" gmAppend (dVar 1) (dCons (dVar 2) dNil)))))
  (dRet (dCB g_joined_by_blanks (dCons (dVar 1) dNil))))))
theorem o_show_row (D : DefAt K mg "show_row" (top 19)) (Z : Zs mg) (h_joined_by_blanks : HasD P w K mg base k "joined_by_blanks" ["things"] g_joined_by_blanks) : Has P w K mg base (k + 1) "show_row" ["row"] (lSp K (cl (fnC 3 1 (t_show_row K g_joined_by_blanks)))) :=
  hasCw D b_show_row.hb b_show_row.hc b_show_row.sc (by walk_at "u_") fun f cdv A outer s H E hr => by
  have hu := hu_of hr
  exact (jb_cons (js_if (jt_cmp (jc_eq hr.units) (j_ix (jx hu) (j_v 0) j_int) j_str) (jb_one (js_ret (j_op jo_add (j_ix (jx hu) (j_v 0) j_int) (j_if (jt_val (j_ix (jx hu) (j_v 0) j_int)) j_str j_str)))) jb_nil)
      (jb_cons (js_set 1 b_show_row.sc.nd (j_own (jf_lst ja_nil)))
      (jb_cons (js_for (ji_any (j_v 0)) (jg_name 2 b_show_row.sc.nd) (jb_one (js_if (jt_val (j_b jb_isi Z.isinstance bo_isinstance (ja_cons (j_v 2) (ja_cons (j_ty Z.list bo_list) ja_nil)))) (jb_one (js_expr (j_bm jm_extend PySem.F.plainAttrs_list PySem.F.slot_list_extend PySem.F.type_list_extend (j_v 1) (ja_cons (j_v 2) ja_nil)))) (jb_one (js_expr (j_bm jm_append PySem.F.plainAttrs_list PySem.F.slot_list_append PySem.F.type_list_append (j_v 1) (ja_cons (j_v 2) ja_nil)))))))
      (jb_one (js_ret (j_fn h_joined_by_blanks hr (ja_cons (j_v 1) ja_nil)))))))
noncomputable def b_show_parts : FI (top 20) ["parts", "lines", "name", "rows"] ["parts"] := by walk_at "fi_"
def t_show_parts (g_show_row : GN) : DS := (dSeq (dSet 1 (dOwn (fLst dNil)))
  (dSeq (dFor (iAnyD (dVar 0)) (dgTup 2 (dgCons (dgName 2) (dgCons (dgName 3) dgNil))) (dSeq (dDrop (dBM "list" gmAppend (dVar 1) (dCons (dFs "part " (dVar 2)) dNil)))
  (dDrop (dBM "list" gmExtend (dVar 1) (dCons (dNew (fComp [none] (iAnyD (dVar 3)) (dgName 0) dYes (dCB g_show_row (dCons (dVar 0) dNil)))) dNil)))))
  (dRet (dBM "str" gmJoin (dC (.str "\n")) (dCons (dVar 1) dNil)))))
theorem o_show_parts (D : DefAt K mg "show_parts" (top 20)) (h_show_row : HasD P w K mg base k "show_row" ["row"] g_show_row) : Has P w K mg base (k + 1) "show_parts" ["parts"] (lSp K (cl (fnC 4 1 (t_show_parts g_show_row)))) :=
  hasCw D b_show_parts.hb b_show_parts.hc b_show_parts.sc (by walk_at "u_") fun f cdv A outer s H E hr => by
  have hu := hu_of hr
  exact (jb_cons (js_set 1 b_show_parts.sc.nd (j_own (jf_lst ja_nil)))
      (jb_cons (js_for (ji_any (j_v 0)) (jg_tup (jgs_cons (jg_name 2 b_show_parts.sc.nd) (jgs_cons (jg_name 3 b_show_parts.sc.nd) jgs_nil))) (jb_cons (js_expr (j_bm jm_append PySem.F.plainAttrs_list PySem.F.slot_list_append PySem.F.type_list_append (j_v 1) (ja_cons (j_fs (j_v 2)) ja_nil)))
      (jb_one (js_expr (j_bm jm_extend PySem.F.plainAttrs_list PySem.F.slot_list_extend PySem.F.type_list_extend (j_v 1) (ja_cons (j_new (jf_comp (N := ["row"]) (fr := [none]) (CompOk.of (N₀ := ["parts", "lines", "name", "rows"]) (oscope := b_show_parts.c) (by decide +kernel)) (ji_any (j_v 3)) gl_name (fun _ _ _ _ _ => (jg_name 0 (show List.Nodup (["row"] : List Str) by decide +kernel))) (fun _ _ _ _ _ => jif_nil) (fun _ _ _ _ _ => (j_fn h_show_row hr (ja_cons (j_v 0) ja_nil))))) ja_nil))))))
      (jb_one (js_ret (j_bm jm_join PySem.F.plainAttrs_str PySem.F.slot_str_join PySem.F.type_str_join j_str (ja_cons (j_v 1) ja_nil))))))
noncomputable def b_read_number : FI (top 21) ["text", "figures"] ["text"] := by walk_at "fi_"
def t_read_number  : DS := (dSeq (dSet 1 (dIf (dTest (dBM "str" gmSw (dVar 0) (dCons (dC (.str "-")) dNil))) (dSl (dVar 0) (dPart (dC (.int 1))) dNoPart) (dVar 0)))
  (dSeq (dIfS (dNot (dTest (dChain gLe gLe (dC (.int 1)) (dCB gLen (dCons (dVar 1) dNil)) (dC (.int 60))))) (dRet (dC .non)) dNext)
  (dSeq (dIfS (dNot (dTest (dCB gAll (dCons (dNew (fComp [none] (iAnyD (dVar 1)) (dgName 0) dYes (dChain gLe gLe (dC (.str "0")) (dVar 0) (dC (.str "9"))))) dNil)))) (dRet (dC .non)) dNext)
  (dSeq (dIfS (dAnd (dTest (dBM "str" gmSw (dVar 1) (dCons (dC (.str "0")) dNil))) (dTest (dOp gNe (dVar 0) (dC (.str "0"))))) (dRet (dC .non)) dNext)
  (dRet (dCB gIntT (dCons (dVar 0) dNil)))))))
theorem o_read_number (D : DefAt K mg "read_number" (top 21)) (Z : Zs mg) : Has P w K mg base (k + 1) "read_number" ["text"] (lSp K (cl (fnC 2 1 t_read_number))) :=
  hasCw D b_read_number.hb b_read_number.hc b_read_number.sc (by walk_at "u_") fun f cdv A outer s H E hr => by
  have hu := hu_of hr
  exact (jb_cons (js_set 1 b_read_number.sc.nd (j_if (jt_val (j_bm jm_sw PySem.F.plainAttrs_str PySem.F.slot_str_startswith PySem.F.type_str_startswith (j_v 0) (ja_cons j_str ja_nil))) (j_sl (j_v 0) (jop_some j_int) jop_none) (j_v 0)))
      (jb_cons (js_if (jt_not (jt_chain jc_le jc_le j_int (j_b jb_len Z.len bo_len (ja_cons (j_v 1) ja_nil)) (j_globI Z.e_MOST_FIGURES))) (jb_one (js_ret j_non)) jb_nil)
      (jb_cons (js_if (jt_not (jt_val (j_b jb_all Z.all bo_all (ja_cons (j_new (jf_comp (N := ["sign"]) (fr := [none]) (CompOk.of (N₀ := ["text", "figures"]) (oscope := b_read_number.c) (by decide +kernel)) (ji_any (j_v 1)) gl_name (fun _ _ _ _ _ => (jg_name 0 (show List.Nodup (["sign"] : List Str) by decide +kernel))) (fun _ _ _ _ _ => jif_nil) (fun _ _ _ _ _ => (j_chain jc_le jc_le j_str (j_v 0) j_str)))) ja_nil)))) (jb_one (js_ret j_non)) jb_nil)
      (jb_cons (js_if (jt_of (jw_and (jt_val (j_bm jm_sw PySem.F.plainAttrs_str PySem.F.slot_str_startswith PySem.F.type_str_startswith (j_v 1) (ja_cons j_str ja_nil))) (jw_and1 (jt_cmp (jc_ne hr.units) (j_v 0) j_str)))) (jb_one (js_ret j_non)) jb_nil)
      (jb_one (js_ret (j_t jb_intT Z.int bo_int (ja_cons (j_v 0) ja_nil))))))))
noncomputable def b_row_in : FI (top 22) ["line", "words", "kind", "told", "forms"] ["line"] := by walk_at "fi_"
def t_row_in (g_read_number : GN) (c_FORMS : Addr) (r_FORMS : List (Str × D)) : DS := (dSeq (dIfS (dTest (dBM "str" gmEw (dVar 0) (dCons (dC (.str "::")) dNil))) (dRet (dTup (dCons (dC (.str "mark")) (dCons (dSl (dVar 0) dNoPart (dPart (dNeg (dC (.int 2))))) (dCons (dC (.bl true)) dNil))))) dNext)
  (dSeq (dIfS (dTest (dBM "str" gmEw (dVar 0) (dCons (dC (.str ":")) dNil))) (dRet (dTup (dCons (dC (.str "mark")) (dCons (dSl (dVar 0) dNoPart (dPart (dNeg (dC (.int 1))))) (dCons (dC (.bl false)) dNil))))) dNext)
  (dSeq (dSet 1 (dBM "str" gmSplit (dVar 0) (dCons (dC (.str " ")) dNil)))
  (dSeq (dSet 2 (dOp gIx (dVar 1) (dC (.int 0))))
  (dSeq (dSet 3 (dSl (dVar 1) (dPart (dC (.int 1))) dNoPart))
  (dSeq (dIfS (dTest (dOp gEq (dVar 2) (dC (.str "numbers")))) (dRet (dTup (dCons (dVar 2) (dCons (dNew (fComp [none] (iAnyD (dVar 3)) (dgName 0) dYes (dCB g_read_number (dCons (dVar 0) dNil)))) dNil)))) dNext)
  (dSeq (dIfS (dTest (dOp gEq (dVar 2) (dC (.str "table")))) (dRet (dTup (dCons (dVar 2) (dCons (dVar 3) dNil)))) dNext)
  (dSeq (dSet 4 (dGetTab r_FORMS (dCons (dVar 2) (dCons (dTup dNil) dNil))))
  (dSeq (dIfS (dTest (dOp gNe (dCB gLen (dCons (dVar 3) dNil)) (dCB gLen (dCons (dVar 4) dNil)))) (dRet (dC .non)) dNext)
  (dRet (dOp gPlus (dTup (dCons (dVar 2) dNil)) (dCB gTuple (dCons (dNew (fComp [none, none] (iZipD (dCons (dVar 4) (dCons (dVar 3) dNil))) (dgTup 2 (dgCons (dgName 0) (dgCons (dgName 1) dgNil))) dYes (dIf (dTest (dOp gEq (dVar 0) (dC (.str "word")))) (dVar 1) (dCB g_read_number (dCons (dVar 1) dNil))))) dNil)))))))))))))
theorem o_row_in (D : DefAt K mg "row_in" (top 22)) (Z : Zs mg) (h_read_number : HasD P w K mg base k "read_number" ["text"] g_read_number) (m_FORMS : mg "FORMS" = some (.ref c_FORMS)) (tb_FORMS : TabK K c_FORMS r_FORMS) : Has P w K mg base (k + 1) "row_in" ["line"] (lSp K (cl (fnC 5 1 (t_row_in g_read_number c_FORMS r_FORMS)))) :=
  hasCw D b_row_in.hb b_row_in.hc b_row_in.sc (by walk_at "u_") fun f cdv A outer s H E hr => by
  have hu := hu_of hr
  exact (jb_cons (js_if (jt_val (j_bm jm_ew PySem.F.plainAttrs_str PySem.F.slot_str_endswith PySem.F.type_str_endswith (j_v 0) (ja_cons j_str ja_nil))) (jb_one (js_ret (j_tup (ja_cons j_str (ja_cons (j_sl (j_v 0) jop_none (jop_some (j_neg j_int))) (ja_cons j_bl ja_nil)))))) jb_nil)
      (jb_cons (js_if (jt_val (j_bm jm_ew PySem.F.plainAttrs_str PySem.F.slot_str_endswith PySem.F.type_str_endswith (j_v 0) (ja_cons j_str ja_nil))) (jb_one (js_ret (j_tup (ja_cons j_str (ja_cons (j_sl (j_v 0) jop_none (jop_some (j_neg j_int))) (ja_cons j_bl ja_nil)))))) jb_nil)
      (jb_cons (js_set 1 b_row_in.sc.nd (j_bm jm_split PySem.F.plainAttrs_str PySem.F.slot_str_split PySem.F.type_str_split (j_v 0) (ja_cons j_str ja_nil)))
      (jb_cons (js_set 2 b_row_in.sc.nd (j_ix (jx hu) (j_v 1) j_int))
      (jb_cons (js_set 3 b_row_in.sc.nd (j_sl (j_v 1) (jop_some j_int) jop_none))
      (jb_cons (js_if (jt_cmp (jc_eq hr.units) (j_v 2) j_str) (jb_one (js_ret (j_tup (ja_cons (j_v 2) (ja_cons (j_new (jf_comp (N := ["word"]) (fr := [none]) (CompOk.of (N₀ := ["line", "words", "kind", "told", "forms"]) (oscope := b_row_in.c) (by decide +kernel)) (ji_any (j_v 3)) gl_name (fun _ _ _ _ _ => (jg_name 0 (show List.Nodup (["word"] : List Str) by decide +kernel))) (fun _ _ _ _ _ => jif_nil) (fun _ _ _ _ _ => (j_fn h_read_number hr (ja_cons (j_v 0) ja_nil))))) ja_nil))))) jb_nil)
      (jb_cons (js_if (jt_cmp (jc_eq hr.units) (j_v 2) j_str) (jb_one (js_ret (j_tup (ja_cons (j_v 2) (ja_cons (j_v 3) ja_nil))))) jb_nil)
      (jb_cons (js_set 4 b_row_in.sc.nd (j_getTab tb_FORMS (j_globC m_FORMS) (ja_cons (j_v 2) (ja_cons (j_tup ja_nil) ja_nil))))
      (jb_cons (js_if (jt_cmp (jc_ne hr.units) (j_b jb_len Z.len bo_len (ja_cons (j_v 3) ja_nil)) (j_b jb_len Z.len bo_len (ja_cons (j_v 4) ja_nil))) (jb_one (js_ret j_non)) jb_nil)
      (jb_one (js_ret (j_op jo_add (j_tup (ja_cons (j_v 2) ja_nil)) (j_t jb_tuple Z.tuple bo_tuple (ja_cons (j_new (jf_comp (N := ["form", "word"]) (fr := [none, none]) (CompOk.of (N₀ := ["line", "words", "kind", "told", "forms"]) (oscope := b_row_in.c) (by decide +kernel)) (ji_zip (ja_cons (j_v 4) (ja_cons (j_v 3) ja_nil)) Z.zip) (gl_tup' (gl_cons' gl_name (gl_cons' gl_name gl_nil))) (fun _ _ _ _ _ => (jg_tup (jgs_cons (jg_name 0 (show List.Nodup (["form", "word"] : List Str) by decide +kernel)) (jgs_cons (jg_name 1 (show List.Nodup (["form", "word"] : List Str) by decide +kernel)) jgs_nil)))) (fun _ _ _ _ _ => jif_nil) (fun _ _ _ _ _ => (j_if (jt_cmp (jc_eq hr.units) (j_v 0) j_str) (j_v 1) (j_fn h_read_number hr (ja_cons (j_v 1) ja_nil)))))) ja_nil))))))))))))))
noncomputable def b_read_row : FI (top 23) ["line", "row"] ["line"] := by walk_at "fi_"
def t_read_row (g_row_in : GN) (g_is_row : GN) : DS := (dSeq (dSet 1 (dCB g_row_in (dCons (dVar 0) dNil)))
  (dRet (dIf (dTest (dCB g_is_row (dCons (dVar 1) dNil))) (dVar 1) (dC .non))))
theorem o_read_row (D : DefAt K mg "read_row" (top 23)) (h_row_in : HasD P w K mg base k "row_in" ["line"] g_row_in) (h_is_row : HasD P w K mg base k "is_row" ["thing"] g_is_row) : Has P w K mg base (k + 1) "read_row" ["line"] (lSp K (cl (fnC 2 1 (t_read_row g_row_in g_is_row)))) :=
  hasCw D b_read_row.hb b_read_row.hc b_read_row.sc (by walk_at "u_") fun f cdv A outer s H E hr => by
  have hu := hu_of hr
  exact (jb_cons (js_set 1 b_read_row.sc.nd (j_fn h_row_in hr (ja_cons (j_v 0) ja_nil)))
      (jb_one (js_ret (j_if (jt_val (j_fn h_is_row hr (ja_cons (j_v 1) ja_nil))) (j_v 1) j_non))))
noncomputable def b_read_name : FI (top 24) ["line", "words"] ["line"] := by walk_at "fi_"
def t_read_name (g_is_word : GN) : DS := (dSeq (dSet 1 (dBM "str" gmSplit (dVar 0) (dCons (dC (.str " ")) dNil)))
  (dSeq (dIfS (dAnd (dTest (dOp gEq (dCB gLen (dCons (dVar 1) dNil)) (dC (.int 2)))) (dAnd (dTest (dOp gEq (dOp gIx (dVar 1) (dC (.int 0))) (dC (.str "part")))) (dTest (dCB g_is_word (dCons (dOp gIx (dVar 1) (dC (.int 1))) dNil))))) (dRet (dOp gIx (dVar 1) (dC (.int 1)))) dNext)
  (dRet (dC .non))))
theorem o_read_name (D : DefAt K mg "read_name" (top 24)) (Z : Zs mg) (h_is_word : HasD P w K mg base k "is_word" ["thing"] g_is_word) : Has P w K mg base (k + 1) "read_name" ["line"] (lSp K (cl (fnC 2 1 (t_read_name g_is_word)))) :=
  hasCw D b_read_name.hb b_read_name.hc b_read_name.sc (by walk_at "u_") fun f cdv A outer s H E hr => by
  have hu := hu_of hr
  exact (jb_cons (js_set 1 b_read_name.sc.nd (j_bm jm_split PySem.F.plainAttrs_str PySem.F.slot_str_split PySem.F.type_str_split (j_v 0) (ja_cons j_str ja_nil)))
      (jb_cons (js_if (jt_of (jw_and (jt_cmp (jc_eq hr.units) (j_b jb_len Z.len bo_len (ja_cons (j_v 1) ja_nil)) j_int) (jw_and (jt_cmp (jc_eq hr.units) (j_ix (jx hu) (j_v 1) j_int) j_str) (jw_and1 (jt_val (j_fn h_is_word hr (ja_cons (j_ix (jx hu) (j_v 1) j_int) ja_nil))))))) (jb_one (js_ret (j_ix (jx hu) (j_v 1) j_int))) jb_nil)
      (jb_one (js_ret j_non))))
noncomputable def b_lacks_rows : FI (top 25) ["parts"] ["parts"] := by walk_at "fi_"
def t_lacks_rows  : DS := (dRet (dAndV (dOp (gI0 fun i j => .bl (decide (j < i))) (dCB gLen (dCons (dVar 0) dNil)) (dC (.int 0))) (dOp gEq (dCB gLen (dCons (dOp gIx (dOp gIx (dVar 0) (dNeg (dC (.int 1)))) (dC (.int 1))) dNil)) (dC (.int 0)))))
theorem o_lacks_rows (D : DefAt K mg "lacks_rows" (top 25)) (Z : Zs mg) : Has P w K mg base (k + 1) "lacks_rows" ["parts"] (lSp K (fnG 1 1 t_lacks_rows)) :=
  hasGw D b_lacks_rows.hb b_lacks_rows.hc b_lacks_rows.sc (by walk_at "u_") fun f cdv A outer s H E hr => by
  have hu := hu_of hr
  exact (jb_one (js_ret (j_and (j_cmp jc_gt (j_b jb_len Z.len bo_len (ja_cons (j_v 0) ja_nil)) j_int) (j_one (j_cmp (jc_eq hr.units) (j_b jb_len Z.len bo_len (ja_cons (j_ix (jx hu) (j_ix (jx hu) (j_v 0) (j_neg j_int)) j_int) ja_nil)) j_int)))))
noncomputable def b_read_parts : FI (top 26) ["text", "lines", "parts", "number", "line", "name", "row"] ["text"] := by walk_at "fi_"
def t_read_parts (K : PySem.W.Frag) (g_read_name : GN) (g_read_row : GN) (g_lacks_rows : GN) : DS := (dSeq (dIfS (dNot (dTest (dCB (gIsi K) (dCons (dVar 0) (dCons (dC (.ty "str")) dNil))))) dNever dNext)
  (dSeq (dSet 1 (dBM "str" gmSplit (dVar 0) (dCons (dC (.str "\n")) dNil)))
  (dSeq (dSet 2 (dOwn (fLst dNil)))
  (dSeq (dFor (iEnumD (dCons (dVar 1) dNil)) (dgTup 2 (dgCons (dgName 3) (dgCons (dgName 4) dgNil))) (dSeq (dSet 5 (dCB g_read_name (dCons (dVar 4) dNil)))
  (dSeq (dSet 6 (dCB g_read_row (dCons (dVar 4) dNil)))
  (dIfS (dAnd (dTest (dOp gIsNot (dVar 5) (dC .non))) (dNot (dTest (dCB g_lacks_rows (dCons (dVar 2) dNil))))) (dDrop (dBM "list" gmAppend (dVar 2) (dCons (dTup (dCons (dVar 5) (dCons (dOwn (fLst dNil)) dNil))) dNil))) (dIfS (dAnd (dTest (dOp gIsNot (dVar 6) (dC .non))) (dTest (dOp (gI0 fun i j => .bl (decide (j < i))) (dCB gLen (dCons (dVar 2) dNil)) (dC (.int 0))))) (dDrop (dBM "list" gmAppend (dOp gIx (dOp gIx (dVar 2) (dNeg (dC (.int 1)))) (dC (.int 1))) (dCons (dVar 6) dNil))) dNever)))))
  (dSeq (dIfS (dTest (dCB g_lacks_rows (dCons (dVar 2) dNil))) dNever dNext)
  (dRet (dVar 2)))))))
theorem j_read_parts (Z : Zs mg) (h_read_name : HasD P w K mg base k "read_name" ["line"] g_read_name) (h_read_row : HasD P w K mg base k "read_row" ["line"] g_read_row) (h_lacks_rows : HasD P w K mg base k "lacks_rows" ["parts"] g_lacks_rows) (f : Addr) (cdv : Value) (A : Around) (outer : List Env) (s : Shared) (H : Hp) (E : XK) (hr : Room k (A.deeper (envOfC "read_parts" b_read_parts.c s.heap.objs.size f cdv))) :
    JB' (cxOf CX0 P w K mg base ["text", "lines", "parts", "number", "line", "name", "row"] "read_parts" b_read_parts.c f cdv A outer s H E).nox b_read_parts.b (t_read_parts K g_read_name g_read_row g_lacks_rows) := by
  have hu := hu_of hr
  exact (jb_cons (js_if (jt_not (jt_val (j_b jb_isi Z.isinstance bo_isinstance (ja_cons (j_v 0) (ja_cons (j_ty Z.str bo_str) ja_nil))))) (jb_one js_never) jb_nil)
      (jb_cons (js_set 1 b_read_parts.sc.nd (j_bm jm_split PySem.F.plainAttrs_str PySem.F.slot_str_split PySem.F.type_str_split (j_v 0) (ja_cons j_str ja_nil)))
      (jb_cons (js_set 2 b_read_parts.sc.nd (j_own (jf_lst ja_nil)))
      (jb_cons (js_for (ji_enum (ja_cons (j_v 1) ja_nil) Z.enumerate) (jg_tup (jgs_cons (jg_name 3 b_read_parts.sc.nd) (jgs_cons (jg_name 4 b_read_parts.sc.nd) jgs_nil))) (jb_cons (js_set 5 b_read_parts.sc.nd (j_fn h_read_name hr (ja_cons (j_v 4) ja_nil)))
      (jb_cons (js_set 6 b_read_parts.sc.nd (j_fn h_read_row hr (ja_cons (j_v 4) ja_nil)))
      (jb_one (js_if (jt_of (jw_and (jt_cmp jc_isNot (j_v 5) j_non) (jw_and1 (jt_not (jt_val (j_fn h_lacks_rows hr (ja_cons (j_v 2) ja_nil))))))) (jb_one (js_expr (j_bm jm_append PySem.F.plainAttrs_list PySem.F.slot_list_append PySem.F.type_list_append (j_v 2) (ja_cons (j_tup (ja_cons (j_v 5) (ja_cons (j_own (jf_lst ja_nil)) ja_nil))) ja_nil)))) (jb_one (js_if (jt_of (jw_and (jt_cmp jc_isNot (j_v 6) j_non) (jw_and1 (jt_cmp jc_gt (j_b jb_len Z.len bo_len (ja_cons (j_v 2) ja_nil)) j_int)))) (jb_one (js_expr (j_bm jm_append PySem.F.plainAttrs_list PySem.F.slot_list_append PySem.F.type_list_append (j_ix (jx hu) (j_ix (jx hu) (j_v 2) (j_neg j_int)) j_int) (ja_cons (j_v 6) ja_nil)))) (jb_one js_never))))))))
      (jb_cons (js_if (jt_val (j_fn h_lacks_rows hr (ja_cons (j_v 2) ja_nil))) (jb_one js_never) jb_nil)
      (jb_one (js_ret (j_v 2))))))))
theorem o_read_parts (D : DefAt K mg "read_parts" (top 26)) (Z : Zs mg) (h_read_name : HasD P w K mg base k "read_name" ["line"] g_read_name) (h_read_row : HasD P w K mg base k "read_row" ["line"] g_read_row) (h_lacks_rows : HasD P w K mg base k "lacks_rows" ["parts"] g_lacks_rows) : Has P w K mg base (k + 1) "read_parts" ["text"] (lSp K (cl (fnCn 7 1 (t_read_parts K g_read_name g_read_row g_lacks_rows)))) :=
  hasCnw D b_read_parts.hb b_read_parts.hc b_read_parts.sc (by walk_at "u_") (fun f cdv A outer s H E hr => j_read_parts Z h_read_name h_read_row h_lacks_rows f cdv A outer s H E hr)
theorem og_read_parts (D : DefAt K mg "read_parts" (top 26)) (Z : Zs mg) (h_read_name : HasD P w K mg base k "read_name" ["line"] g_read_name) (h_read_row : HasD P w K mg base k "read_row" ["line"] g_read_row) (h_lacks_rows : HasD P w K mg base k "lacks_rows" ["parts"] g_lacks_rows) : Has P w K mg base (k + 1) "read_parts" ["text"] (lSp K (fnG 7 1 (t_read_parts K g_read_name g_read_row g_lacks_rows))) :=
  hasGw D b_read_parts.hb b_read_parts.hc b_read_parts.sc (by walk_at "u_") (fun f cdv A outer s H E hr => j_read_parts Z h_read_name h_read_row h_lacks_rows f cdv A outer s H E hr)
noncomputable def b_law_mixed : FI (top 29) ["_law_draw", "_law_k", "_law_number"] ["_law_draw", "_law_k"] := by walk_at "fi_"
def t_law_mixed  : DS := (dSeq (dSet 2 (dOp (gI (fun _ j => 0 < j) fun i j => .int (i % j)) (dOp gMul (dOp gPlus (dOp gPlus (dOp (gI (fun _ j => 0 < j) fun i j => .int (i % j)) (dVar 0) (dC (.int 2147483629))) (dOp gMul (dC (.int 69621)) (dVar 1))) (dC (.int 1))) (dOp gPlus (dC (.int 48271)) (dOp gMul (dC (.int 2)) (dVar 1)))) (dC (.int 2147483629))))
  (dSeq (dSet 2 (dOp (gI (fun _ j => 0 < j) fun i j => .int (i % j)) (dOp gMul (dVar 2) (dOp gPlus (dOp (gI CDivL fun i j => .int (i / j)) (dVar 2) (dC (.int 1009))) (dC (.int 69621)))) (dC (.int 2147483629))))
  (dRet (dOp (gI (fun _ j => 0 < j) fun i j => .int (i % j)) (dOp gMul (dVar 2) (dOp gPlus (dOp gPlus (dOp (gI CDivL fun i j => .int (i / j)) (dVar 2) (dC (.int 907))) (dC (.int 16807))) (dVar 1))) (dC (.int 2147483629))))))
theorem o_law_mixed (D : DefAt K mg "_law_mixed" (top 29))  : Has P w K mg base (k + 1) "_law_mixed" ["_law_draw", "_law_k"] (lSp K (cl (fnC 3 2 t_law_mixed))) :=
  hasCw D b_law_mixed.hb b_law_mixed.hc b_law_mixed.sc (by walk_at "u_") fun f cdv A outer s H E hr => by
  have hu := hu_of hr
  exact (jb_cons (js_set 2 b_law_mixed.sc.nd (j_op jo_mod (j_op jo_mul (j_op jo_add (j_op jo_add (j_op jo_mod (j_v 0) j_int) (j_op jo_mul j_int (j_v 1))) j_int) (j_op jo_add j_int (j_op jo_mul j_int (j_v 1)))) j_int))
      (jb_cons (js_set 2 b_law_mixed.sc.nd (j_op jo_mod (j_op jo_mul (j_v 2) (j_op jo_add (j_op jo_fdivL (j_v 2) j_int) j_int)) j_int))
      (jb_one (js_ret (j_op jo_mod (j_op jo_mul (j_v 2) (j_op jo_add (j_op jo_add (j_op jo_fdivL (j_v 2) j_int) j_int) (j_v 1))) j_int)))))
noncomputable def b_law_next : FI (top 30) ["_law_source_here", "_law_many", "_law_found"] ["_law_source_here", "_law_many"] := by walk_at "fi_"
def t_law_next (g_law_mixed : GN) : DS := (dSeq (dIfS (dAnd (dTest (dOp gEq (dOp gIx (dVar 0) (dC (.int 1))) (dC (.int 0)))) (dTest (dOp (gI0 fun i j => .bl (decide (j < i))) (dOp gIx (dVar 0) (dC (.int 0))) (dC (.int 1))))) (dSeq (dSet 2 (dOp (gI (fun _ j => 0 < j) fun i j => .int (i % j)) (dOp gIx (dVar 0) (dC (.int 0))) (dVar 1)))
  (dSeq (dAsg (dOp (gI CDivL fun i j => .int (i / j)) (dOp gIx (dVar 0) (dC (.int 0))) (dVar 1)) (dgSub (dVar 0) (dC (.int 0))))
  (dRet (dVar 2)))) dNext)
  (dSeq (dAsg (dOp gPlus (dOp gIx (dVar 0) (dC (.int 2))) (dC (.int 1))) (dgSub (dVar 0) (dC (.int 2))))
  (dRet (dOp (gI (fun _ j => 0 < j) fun i j => .int (i % j)) (dCB g_law_mixed (dCons (dOp gIx (dVar 0) (dC (.int 3))) (dCons (dOp gIx (dVar 0) (dC (.int 2))) dNil))) (dVar 1)))))
theorem o_law_next (D : DefAt K mg "_law_next" (top 30)) (h_law_mixed : HasD P w K mg base k "_law_mixed" ["_law_draw", "_law_k"] g_law_mixed) : Has P w K mg base (k + 1) "_law_next" ["_law_source_here", "_law_many"] (lSp K (fnG 3 2 (t_law_next g_law_mixed))) :=
  hasGw D b_law_next.hb b_law_next.hc b_law_next.sc (by walk_at "u_") fun f cdv A outer s H E hr => by
  have hu := hu_of hr
  exact (jb_cons (js_if (jt_of (jw_and (jt_cmp (jc_eq hr.units) (j_ix (jx hu) (j_v 0) j_int) j_int) (jw_and1 (jt_cmp jc_gt (j_ix (jx hu) (j_v 0) j_int) j_int)))) (jb_cons (js_set 2 b_law_next.sc.nd (j_op jo_mod (j_ix (jx hu) (j_v 0) j_int) (j_v 1)))
      (jb_cons (js_asg (j_op jo_fdivL (j_ix (jx hu) (j_v 0) j_int) (j_v 1)) (jg_sub (j_v 0) j_int))
      (jb_one (js_ret (j_v 2))))) jb_nil)
      (jb_cons (js_asg (j_op jo_add (j_ix (jx hu) (j_v 0) j_int) j_int) (jg_sub (j_v 0) j_int))
      (jb_one (js_ret (j_op jo_mod (j_fn h_law_mixed hr (ja_cons (j_ix (jx hu) (j_v 0) j_int) (ja_cons (j_ix (jx hu) (j_v 0) j_int) ja_nil))) (j_v 1))))))
noncomputable def b_law_source : FI (top 31) ["_law_draw"] ["_law_draw"] := by walk_at "fi_"
def t_law_source  : DS := (dRet (dOwn (fLst (dCons (dOp (gI CDivL fun i j => .int (i / j)) (dVar 0) (dC (.int 2))) (dCons (dOp (gI (fun _ j => 0 < j) fun i j => .int (i % j)) (dVar 0) (dC (.int 2))) (dCons (dC (.int 0)) (dCons (dVar 0) dNil)))))))
theorem o_law_source (D : DefAt K mg "_law_source" (top 31))  : Has P w K mg base (k + 1) "_law_source" ["_law_draw"] (lSp K (fnG 1 1 t_law_source)) :=
  hasGw D b_law_source.hb b_law_source.hc b_law_source.sc (by walk_at "u_") fun f cdv A outer s H E hr => by
  have hu := hu_of hr
  exact (jb_one (js_ret (j_own (jf_lst (ja_cons (j_op jo_fdivL (j_v 0) j_int) (ja_cons (j_op jo_mod (j_v 0) j_int) (ja_cons j_int (ja_cons (j_v 0) ja_nil))))))))
noncomputable def b_law_word : FI (top 32) ["_law_k", "_law_letters"] ["_law_k"] := by walk_at "fi_"
def t_law_word  : DS := (dSeq (dSet 1 (dC (.str "abcdefghijklmnopqrstuvwxyz")))
  (dRet (dOp gPlus (dOp gIx (dC (.str "abcdefgh")) (dOp (gI (fun _ j => 0 < j) fun i j => .int (i % j)) (dVar 0) (dC (.int 8)))) (dOp gMul (dOp gIx (dVar 1) (dOp (gI (fun _ j => 0 < j) fun i j => .int (i % j)) (dOp (gI CDivL fun i j => .int (i / j)) (dVar 0) (dC (.int 8))) (dC (.int 26)))) (dOp (gI (fun _ j => 0 < j) fun i j => .int (i % j)) (dOp (gI CDivL fun i j => .int (i / j)) (dVar 0) (dC (.int 208))) (dC (.int 3)))))))
theorem o_law_word (D : DefAt K mg "_law_word" (top 32))  : Has P w K mg base (k + 1) "_law_word" ["_law_k"] (lSp K (cl (fnC 2 1 t_law_word))) :=
  hasCw D b_law_word.hb b_law_word.hc b_law_word.sc (by walk_at "u_") fun f cdv A outer s H E hr => by
  have hu := hu_of hr
  exact (jb_cons (js_set 1 b_law_word.sc.nd j_str)
      (jb_one (js_ret (j_op jo_add (j_ix (jx hu) j_str (j_op jo_mod (j_v 0) j_int)) (j_op jo_mul (j_ix (jx hu) (j_v 1) (j_op jo_mod (j_op jo_fdivL (j_v 0) j_int) j_int)) (j_op jo_mod (j_op jo_fdivL (j_v 0) j_int) j_int))))))
noncomputable def b_law_aim : FI (top 33) ["_law_source_here", "_law_pool"] ["_law_source_here", "_law_pool"] := by walk_at "fi_"
def t_law_aim (g_law_next : GN) : DS := (dRet (dOp gIx (dVar 1) (dCB g_law_next (dCons (dVar 0) (dCons (dCB gLen (dCons (dVar 1) dNil)) dNil)))))
theorem o_law_aim (D : DefAt K mg "_law_aim" (top 33)) (Z : Zs mg) (h_law_next : HasD P w K mg base k "_law_next" ["_law_source_here", "_law_many"] g_law_next) : Has P w K mg base (k + 1) "_law_aim" ["_law_source_here", "_law_pool"] (lSp K (fnG 2 2 (t_law_aim g_law_next))) :=
  hasGw D b_law_aim.hb b_law_aim.hc b_law_aim.sc (by walk_at "u_") fun f cdv A outer s H E hr => by
  have hu := hu_of hr
  exact (jb_one (js_ret (j_ix (jx hu) (j_v 1) (j_fn h_law_next hr (ja_cons (j_v 0) (ja_cons (j_b jb_len Z.len bo_len (ja_cons (j_v 1) ja_nil)) ja_nil))))))
noncomputable def b_law_code_row : FI (top 34) ["_law_source_here", "_law_pools", "_law_kind", "_law_b", "_law_c", "_law_every"] ["_law_source_here", "_law_pools"] := by walk_at "fi_"
def t_law_code_row (g_law_next : GN) (g_law_aim : GN) : DS := (dSeq (dSet 2 (dCB g_law_next (dCons (dVar 0) (dCons (dC (.int 14)) dNil))))
  (dSeq (dSet 3 (dCB g_law_next (dCons (dVar 0) (dCons (dC (.int 4)) dNil))))
  (dSeq (dSet 4 (dCB g_law_next (dCons (dVar 0) (dCons (dC (.int 4)) dNil))))
  (dSeq (dIfS (dTest (dOp gLt (dVar 2) (dC (.int 2)))) (dRet (dTup (dCons (dC (.str "set")) (dCons (dVar 3) (dCons (dOp (gI0 fun i j => .int (i - j)) (dCB g_law_next (dCons (dVar 0) (dCons (dC (.int 7)) dNil))) (dC (.int 2))) dNil))))) dNext)
  (dSeq (dIfS (dTest (dOp gLt (dVar 2) (dC (.int 6)))) (dRet (dOp gIx (dNew (fLst (dCons (dTup (dCons (dC (.str "add")) (dCons (dVar 3) (dCons (dVar 4) dNil)))) (dCons (dTup (dCons (dC (.str "take")) (dCons (dVar 3) (dCons (dVar 4) dNil)))) (dCons (dTup (dCons (dC (.str "say")) (dCons (dVar 3) dNil))) (dCons (dTup (dCons (dC (.str "ask")) (dCons (dVar 3) dNil))) dNil)))))) (dOp (gI0 fun i j => .int (i - j)) (dVar 2) (dC (.int 2))))) dNext)
  (dSeq (dIfS (dTest (dOp gEq (dVar 2) (dC (.int 6)))) (dRet (dTup (dCons (dC (.str "jumpif")) (dCons (dVar 3) (dCons (dCB g_law_aim (dCons (dVar 0) (dCons (dOp gIx (dVar 1) (dC (.int 0))) dNil))) dNil))))) dNext)
  (dSeq (dIfS (dTest (dOp gEq (dVar 2) (dC (.int 7)))) (dRet (dTup (dCons (dC (.str "call")) (dCons (dCB g_law_aim (dCons (dVar 0) (dCons (dOp gIx (dVar 1) (dC (.int 0))) dNil))) dNil)))) dNext)
  (dSeq (dIfS (dTest (dOp gEq (dVar 2) (dC (.int 8)))) (dRet (dTup (dCons (dC (.str "load")) (dCons (dVar 3) (dCons (dVar 4) (dCons (dCB g_law_aim (dCons (dVar 0) (dCons (dOp gIx (dVar 1) (dC (.int 1))) dNil))) dNil)))))) dNext)
  (dSeq (dIfS (dTest (dOp gEq (dVar 2) (dC (.int 9)))) (dSeq (dSet 5 (dOp gPlus (dOp gPlus (dOp gIx (dVar 1) (dC (.int 0))) (dOp gIx (dVar 1) (dC (.int 1)))) (dOp gIx (dVar 1) (dC (.int 2)))))
  (dRet (dTup (dCons (dC (.str "alike")) (dCons (dVar 3) (dCons (dCB g_law_aim (dCons (dVar 0) (dCons (dVar 5) dNil))) (dCons (dCB g_law_aim (dCons (dVar 0) (dCons (dVar 5) dNil))) dNil))))))) dNext)
  (dSeq (dIfS (dTest (dOp gEq (dVar 2) (dC (.int 10)))) (dRet (dTup (dCons (dC (.str "set")) (dCons (dVar 3) (dCons (dOp (gI0 fun i j => .int (i - j)) (dCB g_law_next (dCons (dVar 0) (dCons (dC (.int 4294967296)) dNil))) (dC (.int 2147483648))) dNil))))) dNext)
  (dRet (dTup (dCons (dC (.str "say")) (dCons (dVar 3) dNil))))))))))))))
theorem o_law_code_row (D : DefAt K mg "_law_code_row" (top 34)) (h_law_next : HasD P w K mg base k "_law_next" ["_law_source_here", "_law_many"] g_law_next) (h_law_aim : HasD P w K mg base k "_law_aim" ["_law_source_here", "_law_pool"] g_law_aim) : Has P w K mg base (k + 1) "_law_code_row" ["_law_source_here", "_law_pools"] (lSp K (fnG 6 2 (t_law_code_row g_law_next g_law_aim))) :=
  hasGw D b_law_code_row.hb b_law_code_row.hc b_law_code_row.sc (by walk_at "u_") fun f cdv A outer s H E hr => by
  have hu := hu_of hr
  exact (jb_cons (js_set 2 b_law_code_row.sc.nd (j_fn h_law_next hr (ja_cons (j_v 0) (ja_cons j_int ja_nil))))
      (jb_cons (js_set 3 b_law_code_row.sc.nd (j_fn h_law_next hr (ja_cons (j_v 0) (ja_cons j_int ja_nil))))
      (jb_cons (js_set 4 b_law_code_row.sc.nd (j_fn h_law_next hr (ja_cons (j_v 0) (ja_cons j_int ja_nil))))
      (jb_cons (js_if (jt_cmp jc_lt (j_v 2) j_int) (jb_one (js_ret (j_tup (ja_cons j_str (ja_cons (j_v 3) (ja_cons (j_op jo_sub (j_fn h_law_next hr (ja_cons (j_v 0) (ja_cons j_int ja_nil))) j_int) ja_nil)))))) jb_nil)
      (jb_cons (js_if (jt_cmp jc_lt (j_v 2) j_int) (jb_one (js_ret (j_ix (jx hu) (j_new (jf_lst (ja_cons (j_tup (ja_cons j_str (ja_cons (j_v 3) (ja_cons (j_v 4) ja_nil)))) (ja_cons (j_tup (ja_cons j_str (ja_cons (j_v 3) (ja_cons (j_v 4) ja_nil)))) (ja_cons (j_tup (ja_cons j_str (ja_cons (j_v 3) ja_nil))) (ja_cons (j_tup (ja_cons j_str (ja_cons (j_v 3) ja_nil))) ja_nil)))))) (j_op jo_sub (j_v 2) j_int)))) jb_nil)
      (jb_cons (js_if (jt_cmp (jc_eq hr.units) (j_v 2) j_int) (jb_one (js_ret (j_tup (ja_cons j_str (ja_cons (j_v 3) (ja_cons (j_fn h_law_aim hr (ja_cons (j_v 0) (ja_cons (j_ix (jx hu) (j_v 1) j_int) ja_nil))) ja_nil)))))) jb_nil)
      (jb_cons (js_if (jt_cmp (jc_eq hr.units) (j_v 2) j_int) (jb_one (js_ret (j_tup (ja_cons j_str (ja_cons (j_fn h_law_aim hr (ja_cons (j_v 0) (ja_cons (j_ix (jx hu) (j_v 1) j_int) ja_nil))) ja_nil))))) jb_nil)
      (jb_cons (js_if (jt_cmp (jc_eq hr.units) (j_v 2) j_int) (jb_one (js_ret (j_tup (ja_cons j_str (ja_cons (j_v 3) (ja_cons (j_v 4) (ja_cons (j_fn h_law_aim hr (ja_cons (j_v 0) (ja_cons (j_ix (jx hu) (j_v 1) j_int) ja_nil))) ja_nil))))))) jb_nil)
      (jb_cons (js_if (jt_cmp (jc_eq hr.units) (j_v 2) j_int) (jb_cons (js_set 5 b_law_code_row.sc.nd (j_op jo_add (j_op jo_add (j_ix (jx hu) (j_v 1) j_int) (j_ix (jx hu) (j_v 1) j_int)) (j_ix (jx hu) (j_v 1) j_int)))
      (jb_one (js_ret (j_tup (ja_cons j_str (ja_cons (j_v 3) (ja_cons (j_fn h_law_aim hr (ja_cons (j_v 0) (ja_cons (j_v 5) ja_nil))) (ja_cons (j_fn h_law_aim hr (ja_cons (j_v 0) (ja_cons (j_v 5) ja_nil))) ja_nil)))))))) jb_nil)
      (jb_cons (js_if (jt_cmp (jc_eq hr.units) (j_v 2) j_int) (jb_one (js_ret (j_tup (ja_cons j_str (ja_cons (j_v 3) (ja_cons (j_op jo_sub (j_fn h_law_next hr (ja_cons (j_v 0) (ja_cons j_int ja_nil))) j_int) ja_nil)))))) jb_nil)
      (jb_one (js_ret (j_tup (ja_cons j_str (ja_cons (j_v 3) ja_nil)))))))))))))))
noncomputable def b_law_last_row : FI (top 35) ["_law_source_here", "_law_pools", "_law_kind"] ["_law_source_here", "_law_pools"] := by walk_at "fi_"
def t_law_last_row (g_law_next : GN) (g_law_aim : GN) : DS := (dSeq (dSet 2 (dCB g_law_next (dCons (dVar 0) (dCons (dC (.int 5)) dNil))))
  (dSeq (dIfS (dTest (dOp gEq (dVar 2) (dC (.int 0)))) (dRet (dTup (dCons (dC (.str "jump")) (dCons (dCB g_law_aim (dCons (dVar 0) (dCons (dOp gIx (dVar 1) (dC (.int 0))) dNil))) dNil)))) dNext)
  (dSeq (dIfS (dTest (dOp gEq (dVar 2) (dC (.int 1)))) (dRet (dTup (dCons (dC (.str "jumpby")) (dCons (dCB g_law_next (dCons (dVar 0) (dCons (dC (.int 4)) dNil))) (dCons (dCB g_law_aim (dCons (dVar 0) (dCons (dOp gIx (dVar 1) (dC (.int 2))) dNil))) dNil))))) dNext)
  (dSeq (dIfS (dTest (dOp gEq (dVar 2) (dC (.int 2)))) (dRet (dTup (dCons (dC (.str "back")) dNil))) dNext)
  (dRet (dTup (dCons (dC (.str "stop")) dNil)))))))
theorem o_law_last_row (D : DefAt K mg "_law_last_row" (top 35)) (h_law_next : HasD P w K mg base k "_law_next" ["_law_source_here", "_law_many"] g_law_next) (h_law_aim : HasD P w K mg base k "_law_aim" ["_law_source_here", "_law_pool"] g_law_aim) : Has P w K mg base (k + 1) "_law_last_row" ["_law_source_here", "_law_pools"] (lSp K (fnG 3 2 (t_law_last_row g_law_next g_law_aim))) :=
  hasGw D b_law_last_row.hb b_law_last_row.hc b_law_last_row.sc (by walk_at "u_") fun f cdv A outer s H E hr => by
  have hu := hu_of hr
  exact (jb_cons (js_set 2 b_law_last_row.sc.nd (j_fn h_law_next hr (ja_cons (j_v 0) (ja_cons j_int ja_nil))))
      (jb_cons (js_if (jt_cmp (jc_eq hr.units) (j_v 2) j_int) (jb_one (js_ret (j_tup (ja_cons j_str (ja_cons (j_fn h_law_aim hr (ja_cons (j_v 0) (ja_cons (j_ix (jx hu) (j_v 1) j_int) ja_nil))) ja_nil))))) jb_nil)
      (jb_cons (js_if (jt_cmp (jc_eq hr.units) (j_v 2) j_int) (jb_one (js_ret (j_tup (ja_cons j_str (ja_cons (j_fn h_law_next hr (ja_cons (j_v 0) (ja_cons j_int ja_nil))) (ja_cons (j_fn h_law_aim hr (ja_cons (j_v 0) (ja_cons (j_ix (jx hu) (j_v 1) j_int) ja_nil))) ja_nil)))))) jb_nil)
      (jb_cons (js_if (jt_cmp (jc_eq hr.units) (j_v 2) j_int) (jb_one (js_ret (j_tup (ja_cons j_str ja_nil)))) jb_nil)
      (jb_one (js_ret (j_tup (ja_cons j_str ja_nil))))))))
noncomputable def b_law_weak : FI (top 36) ["_law_source_here", "_law_names", "_law_some", "_law_k"] ["_law_source_here", "_law_names"] := by walk_at "fi_"
def t_law_weak (g_law_next : GN) (g_law_aim : GN) : DS := (dSeq (dSet 2 (dOwn (fLst dNil)))
  (dSeq (dFor (iRng1D (dCons (dCB g_law_next (dCons (dVar 0) (dCons (dC (.int 3)) dNil))) dNil)) (dgName 3) (dDrop (dBM "list" gmAppend (dVar 2) (dCons (dTup (dCons (dC (.str "mark")) (dCons (dCB g_law_aim (dCons (dVar 0) (dCons (dVar 1) dNil))) (dCons (dC (.bl false)) dNil)))) dNil))))
  (dRet (dGive 2))))
theorem o_law_weak (D : DefAt K mg "_law_weak" (top 36)) (Z : Zs mg) (h_law_next : HasD P w K mg base k "_law_next" ["_law_source_here", "_law_many"] g_law_next) (h_law_aim : HasD P w K mg base k "_law_aim" ["_law_source_here", "_law_pool"] g_law_aim) : Has P w K mg base (k + 1) "_law_weak" ["_law_source_here", "_law_names"] (lSp K (fnG 4 2 (t_law_weak g_law_next g_law_aim))) :=
  hasGw D b_law_weak.hb b_law_weak.hc b_law_weak.sc (by walk_at "u_") fun f cdv A outer s H E hr => by
  have hu := hu_of hr
  exact (jb_cons (js_set 2 b_law_weak.sc.nd (j_own (jf_lst ja_nil)))
      (jb_cons (js_for (ji_range1 (ja_cons (j_fn h_law_next hr (ja_cons (j_v 0) (ja_cons j_int ja_nil))) ja_nil) Z.range) (jg_name 3 b_law_weak.sc.nd) (jb_one (js_expr (j_bm jm_append PySem.F.plainAttrs_list PySem.F.slot_list_append PySem.F.type_list_append (j_v 2) (ja_cons (j_tup (ja_cons j_str (ja_cons (j_fn h_law_aim hr (ja_cons (j_v 0) (ja_cons (j_v 1) ja_nil))) (ja_cons j_bl ja_nil)))) ja_nil)))))
      (jb_one (js_ret (j_give 2)))))
noncomputable def b_law_part : FI (top 37) ["_law_source_here", "_law_name", "_law_k", "_law_pools", "_law_names", "_law_codes", "_law_inner", "_law_other", "_law_rows", "_law_j", "_law_row", "_law_many", "_law_low"] ["_law_source_here", "_law_name", "_law_k", "_law_pools", "_law_names"] := by walk_at "fi_"
def t_law_part (g_law_next : GN) (g_law_code_row : GN) (g_law_last_row : GN) (g_law_weak : GN) (g_law_aim : GN) : DS := (dSeq (dSet 5 (dOwn (fComp [none, some 0, some 3] (iRng1D (dCons (dOp gPlus (dC (.int 1)) (dCB g_law_next (dCons (dVar 0) (dCons (dC (.int 6)) dNil)))) dNil)) (dgName 0) dYes (dCB g_law_code_row (dCons (dVar 1) (dCons (dVar 2) dNil))))))
  (dSeq (dDrop (dBM "list" gmAppend (dVar 5) (dCons (dCB g_law_last_row (dCons (dVar 0) (dCons (dVar 3) dNil))) dNil)))
  (dSeq (dSet 6 (dCB g_law_next (dCons (dVar 0) (dCons (dCB gLen (dCons (dVar 5) dNil)) dNil))))
  (dSeq (dSet 7 (dCB g_law_next (dCons (dVar 0) (dCons (dCB gLen (dCons (dVar 5) dNil)) dNil))))
  (dSeq (dSet 8 (dOwn (fLst (dCons (dTup (dCons (dC (.str "mark")) (dCons (dOp gIx (dOp gIx (dVar 3) (dC (.int 0))) (dOp gMul (dC (.int 2)) (dVar 2))) (dCons (dOp gEq (dCB g_law_next (dCons (dVar 0) (dCons (dC (.int 2)) dNil))) (dC (.int 0))) dNil)))) dNil))))
  (dSeq (dFor (iEnumD (dCons (dVar 5) dNil)) (dgTup 2 (dgCons (dgName 9) (dgCons (dgName 10) dgNil))) (dSeq (dIfS (dTest (dOp gEq (dVar 9) (dVar 6))) (dDrop (dBM "list" gmAppend (dVar 8) (dCons (dTup (dCons (dC (.str "mark")) (dCons (dOp gIx (dOp gIx (dVar 3) (dC (.int 0))) (dOp gPlus (dOp gMul (dC (.int 2)) (dVar 2)) (dC (.int 1)))) (dCons (dOp gEq (dCB g_law_next (dCons (dVar 0) (dCons (dC (.int 2)) dNil))) (dC (.int 0))) dNil)))) dNil))) dNext)
  (dSeq (dIfS (dTest (dOp gEq (dVar 9) (dVar 7))) (dSet 8 (dOwn (fPlus (dVar 8) (dCB g_law_weak (dCons (dVar 0) (dCons (dOp gPlus (dOp gIx (dVar 3) (dC (.int 0))) (dVar 4)) dNil)))))) dNext)
  (dDrop (dBM "list" gmAppend (dVar 8) (dCons (dVar 10) dNil))))))
  (dSeq (dSet 11 (dOp gIx (dNew (fLst (dCons (dC (.int 1)) (dCons (dC (.int 3)) (dCons (dC (.int 20)) (dCons (dC (.int 40)) (dCons (dC (.int 60)) dNil))))))) (dCB g_law_next (dCons (dVar 0) (dCons (dC (.int 5)) dNil)))))
  (dSeq (dSet 12 (dOp (gI0 fun i j => .int (i - j)) (dCB g_law_next (dCons (dVar 0) (dCons (dC (.int 90)) dNil))) (dC (.int 9))))
  (dSeq (dDrop (dBM "list" gmAppend (dVar 8) (dCons (dTup (dCons (dC (.str "mark")) (dCons (dOp gIx (dOp gIx (dVar 3) (dC (.int 1))) (dVar 2)) (dCons (dOp gEq (dCB g_law_next (dCons (dVar 0) (dCons (dC (.int 2)) dNil))) (dC (.int 0))) dNil)))) dNil)))
  (dSeq (dSet 8 (dOwn (fPlus (dVar 8) (dCB g_law_weak (dCons (dVar 0) (dCons (dOp gIx (dVar 3) (dC (.int 1))) dNil))))))
  (dSeq (dDrop (dBM "list" gmAppend (dVar 8) (dCons (dTup (dCons (dC (.str "numbers")) (dCons (dNew (fComp [none, some 12] (iRng1D (dCons (dVar 11) dNil)) (dgName 0) dYes (dOp (gI0 fun i j => .int (i - j)) (dOp gMul (dVar 1) (dVar 0)) (dC (.int 3))))) dNil))) dNil)))
  (dSeq (dSet 8 (dOwn (fPlus (dOp gPlus (dVar 8) (dCB g_law_weak (dCons (dVar 0) (dCons (dOp gIx (dVar 3) (dC (.int 2))) dNil)))) (dNew (fLst (dCons (dTup (dCons (dC (.str "mark")) (dCons (dOp gIx (dOp gIx (dVar 3) (dC (.int 2))) (dVar 2)) (dCons (dC (.bl false)) dNil)))) dNil))))))
  (dSeq (dDrop (dBM "list" gmAppend (dVar 8) (dCons (dTup (dCons (dC (.str "table")) (dCons (dNew (fComp [none, some 0, some 3] (iRng1D (dCons (dOp gPlus (dC (.int 1)) (dCB g_law_next (dCons (dVar 0) (dCons (dC (.int 4)) dNil)))) dNil)) (dgName 0) dYes (dCB g_law_aim (dCons (dVar 1) (dCons (dOp gIx (dVar 2) (dC (.int 0))) dNil))))) dNil))) dNil)))
  (dRet (dTup (dCons (dVar 1) (dCons (dGive 8) dNil)))))))))))))))))
theorem o_law_part (D : DefAt K mg "_law_part" (top 37)) (Z : Zs mg) (h_law_next : HasD P w K mg base k "_law_next" ["_law_source_here", "_law_many"] g_law_next) (h_law_code_row : HasD P w K mg base k "_law_code_row" ["_law_source_here", "_law_pools"] g_law_code_row) (h_law_last_row : HasD P w K mg base k "_law_last_row" ["_law_source_here", "_law_pools"] g_law_last_row) (h_law_weak : HasD P w K mg base k "_law_weak" ["_law_source_here", "_law_names"] g_law_weak) (h_law_aim : HasD P w K mg base k "_law_aim" ["_law_source_here", "_law_pool"] g_law_aim) : Has P w K mg base (k + 1) "_law_part" ["_law_source_here", "_law_name", "_law_k", "_law_pools", "_law_names"] (lSp K (fnG 13 5 (t_law_part g_law_next g_law_code_row g_law_last_row g_law_weak g_law_aim))) :=
  hasGw D b_law_part.hb b_law_part.hc b_law_part.sc (by walk_at "u_") fun f cdv A outer s H E hr => by
  have hu := hu_of hr
  exact (jb_cons (js_compO 5 b_law_part.sc.nd (N := ["_law_j", "_law_source_here", "_law_pools"]) (fr := [none, some 0, some 3]) (CompOk.of (N₀ := ["_law_source_here", "_law_name", "_law_k", "_law_pools", "_law_names", "_law_codes", "_law_inner", "_law_other", "_law_rows", "_law_j", "_law_row", "_law_many", "_law_low"]) (oscope := b_law_part.c) (by decide +kernel)) (ji_range1 (ja_cons (j_op jo_add j_int (j_fn h_law_next hr (ja_cons (j_v 0) (ja_cons j_int ja_nil)))) ja_nil) Z.range) gl_name (fun _ _ _ _ _ => (jg_name 0 (show List.Nodup (["_law_j", "_law_source_here", "_law_pools"] : List Str) by decide +kernel))) (fun _ _ _ _ _ => jif_nil) (fun _ _ _ _ _ => (j_fn h_law_code_row hr (ja_cons (j_v 1) (ja_cons (j_v 2) ja_nil)))))
      (jb_cons (js_expr (j_bm jm_append PySem.F.plainAttrs_list PySem.F.slot_list_append PySem.F.type_list_append (j_v 5) (ja_cons (j_fn h_law_last_row hr (ja_cons (j_v 0) (ja_cons (j_v 3) ja_nil))) ja_nil)))
      (jb_cons (js_set 6 b_law_part.sc.nd (j_fn h_law_next hr (ja_cons (j_v 0) (ja_cons (j_b jb_len Z.len bo_len (ja_cons (j_v 5) ja_nil)) ja_nil))))
      (jb_cons (js_set 7 b_law_part.sc.nd (j_fn h_law_next hr (ja_cons (j_v 0) (ja_cons (j_b jb_len Z.len bo_len (ja_cons (j_v 5) ja_nil)) ja_nil))))
      (jb_cons (js_set 8 b_law_part.sc.nd (j_own (jf_lst (ja_cons (j_tup (ja_cons j_str (ja_cons (j_ix (jx hu) (j_ix (jx hu) (j_v 3) j_int) (j_op jo_mul j_int (j_v 2))) (ja_cons (j_cmp (jc_eq hr.units) (j_fn h_law_next hr (ja_cons (j_v 0) (ja_cons j_int ja_nil))) j_int) ja_nil)))) ja_nil))))
      (jb_cons (js_for (ji_enum (ja_cons (j_v 5) ja_nil) Z.enumerate) (jg_tup (jgs_cons (jg_name 9 b_law_part.sc.nd) (jgs_cons (jg_name 10 b_law_part.sc.nd) jgs_nil))) (jb_cons (js_if (jt_cmp (jc_eq hr.units) (j_v 9) (j_v 6)) (jb_one (js_expr (j_bm jm_append PySem.F.plainAttrs_list PySem.F.slot_list_append PySem.F.type_list_append (j_v 8) (ja_cons (j_tup (ja_cons j_str (ja_cons (j_ix (jx hu) (j_ix (jx hu) (j_v 3) j_int) (j_op jo_add (j_op jo_mul j_int (j_v 2)) j_int)) (ja_cons (j_cmp (jc_eq hr.units) (j_fn h_law_next hr (ja_cons (j_v 0) (ja_cons j_int ja_nil))) j_int) ja_nil)))) ja_nil)))) jb_nil)
      (jb_cons (js_if (jt_cmp (jc_eq hr.units) (j_v 9) (j_v 7)) (jb_one (js_set 8 b_law_part.sc.nd (j_own (jf_plus (j_v 8) (j_fn h_law_weak hr (ja_cons (j_v 0) (ja_cons (j_op jo_add (j_ix (jx hu) (j_v 3) j_int) (j_v 4)) ja_nil))))))) jb_nil)
      (jb_one (js_expr (j_bm jm_append PySem.F.plainAttrs_list PySem.F.slot_list_append PySem.F.type_list_append (j_v 8) (ja_cons (j_v 10) ja_nil)))))))
      (jb_cons (js_set 11 b_law_part.sc.nd (j_ix (jx hu) (j_new (jf_lst (ja_cons j_int (ja_cons j_int (ja_cons j_int (ja_cons j_int (ja_cons j_int ja_nil))))))) (j_fn h_law_next hr (ja_cons (j_v 0) (ja_cons j_int ja_nil)))))
      (jb_cons (js_set 12 b_law_part.sc.nd (j_op jo_sub (j_fn h_law_next hr (ja_cons (j_v 0) (ja_cons j_int ja_nil))) j_int))
      (jb_cons (js_expr (j_bm jm_append PySem.F.plainAttrs_list PySem.F.slot_list_append PySem.F.type_list_append (j_v 8) (ja_cons (j_tup (ja_cons j_str (ja_cons (j_ix (jx hu) (j_ix (jx hu) (j_v 3) j_int) (j_v 2)) (ja_cons (j_cmp (jc_eq hr.units) (j_fn h_law_next hr (ja_cons (j_v 0) (ja_cons j_int ja_nil))) j_int) ja_nil)))) ja_nil)))
      (jb_cons (js_set 8 b_law_part.sc.nd (j_own (jf_plus (j_v 8) (j_fn h_law_weak hr (ja_cons (j_v 0) (ja_cons (j_ix (jx hu) (j_v 3) j_int) ja_nil))))))
      (jb_cons (js_expr (j_bm jm_append PySem.F.plainAttrs_list PySem.F.slot_list_append PySem.F.type_list_append (j_v 8) (ja_cons (j_tup (ja_cons j_str (ja_cons (j_new (jf_comp (N := ["_law_j", "_law_low"]) (fr := [none, some 12]) (CompOk.of (N₀ := ["_law_source_here", "_law_name", "_law_k", "_law_pools", "_law_names", "_law_codes", "_law_inner", "_law_other", "_law_rows", "_law_j", "_law_row", "_law_many", "_law_low"]) (oscope := b_law_part.c) (by decide +kernel)) (ji_range1 (ja_cons (j_v 11) ja_nil) Z.range) gl_name (fun _ _ _ _ _ => (jg_name 0 (show List.Nodup (["_law_j", "_law_low"] : List Str) by decide +kernel))) (fun _ _ _ _ _ => jif_nil) (fun _ _ _ _ _ => (j_op jo_sub (j_op jo_mul (j_v 1) (j_v 0)) j_int)))) ja_nil))) ja_nil)))
      (jb_cons (js_set 8 b_law_part.sc.nd (j_own (jf_plus (j_op jo_add (j_v 8) (j_fn h_law_weak hr (ja_cons (j_v 0) (ja_cons (j_ix (jx hu) (j_v 3) j_int) ja_nil)))) (j_new (jf_lst (ja_cons (j_tup (ja_cons j_str (ja_cons (j_ix (jx hu) (j_ix (jx hu) (j_v 3) j_int) (j_v 2)) (ja_cons j_bl ja_nil)))) ja_nil))))))
      (jb_cons (js_expr (j_bm jm_append PySem.F.plainAttrs_list PySem.F.slot_list_append PySem.F.type_list_append (j_v 8) (ja_cons (j_tup (ja_cons j_str (ja_cons (j_new (jf_comp (N := ["_law_j", "_law_source_here", "_law_pools"]) (fr := [none, some 0, some 3]) (CompOk.of (N₀ := ["_law_source_here", "_law_name", "_law_k", "_law_pools", "_law_names", "_law_codes", "_law_inner", "_law_other", "_law_rows", "_law_j", "_law_row", "_law_many", "_law_low"]) (oscope := b_law_part.c) (by decide +kernel)) (ji_range1 (ja_cons (j_op jo_add j_int (j_fn h_law_next hr (ja_cons (j_v 0) (ja_cons j_int ja_nil)))) ja_nil) Z.range) gl_name (fun _ _ _ _ _ => (jg_name 0 (show List.Nodup (["_law_j", "_law_source_here", "_law_pools"] : List Str) by decide +kernel))) (fun _ _ _ _ _ => jif_nil) (fun _ _ _ _ _ => (j_fn h_law_aim hr (ja_cons (j_v 1) (ja_cons (j_ix (jx hu) (j_v 2) j_int) ja_nil)))))) ja_nil))) ja_nil)))
      (jb_one (js_ret (j_tup (ja_cons (j_v 1) (ja_cons (j_give 8) ja_nil))))))))))))))))))
noncomputable def b_law_parts : FI (top 38) ["_law_source_here", "_law_many", "_law_first", "_law_names", "_law_bodies", "_law_pools", "_law_k", "_law_found", "_law_turn"] ["_law_source_here"] := by walk_at "fi_"
def t_law_parts (g_law_next : GN) (g_law_word : GN) (g_law_part : GN) : DS := (dSeq (dSet 1 (dOp gPlus (dC (.int 1)) (dCB g_law_next (dCons (dVar 0) (dCons (dC (.int 4)) dNil)))))
  (dSeq (dSet 2 (dCB g_law_next (dCons (dVar 0) (dCons (dC (.int 500)) dNil))))
  (dSeq (dSet 3 (dNew (fComp [none, some 2] (iRng1D (dCons (dVar 1) dNil)) (dgName 0) dYes (dCB g_law_word (dCons (dOp gPlus (dVar 1) (dOp gMul (dC (.int 7)) (dVar 0))) dNil)))))
  (dSeq (dSet 4 (dOp gIx (dNew (fLst (dCons (dNew (fLst (dCons (dC (.str "c")) (dCons (dC (.str "i")) (dCons (dC (.str "n")) (dCons (dC (.str "t")) dNil)))))) (dCons (dNew (fLst (dCons (dC (.str "caller")) (dCons (dC (.str "inner")) (dCons (dC (.str "number")) (dCons (dC (.str "table")) dNil)))))) dNil)))) (dCB g_law_next (dCons (dVar 0) (dCons (dC (.int 2)) dNil)))))
  (dSeq (dSet 5 (dOwn (fLst (dCons (dNew (fLst dNil)) (dCons (dNew (fLst dNil)) (dCons (dNew (fLst dNil)) dNil))))))
  (dSeq (dFor (iRng1D (dCons (dVar 1) dNil)) (dgName 6) (dSeq (dAsg (dOp gPlus (dOp gIx (dVar 5) (dC (.int 0))) (dNew (fLst (dCons (dOp gPlus (dOp gIx (dVar 4) (dC (.int 0))) (dOp gIx (dC (.str "abcd")) (dVar 6))) (dCons (dOp gPlus (dOp gIx (dVar 4) (dC (.int 1))) (dOp gMul (dOp gIx (dC (.str "abcd")) (dVar 6)) (dC (.int 2)))) dNil))))) (dgSub (dVar 5) (dC (.int 0))))
  (dSeq (dAsg (dOp gPlus (dOp gIx (dVar 5) (dC (.int 1))) (dNew (fLst (dCons (dOp gPlus (dOp gIx (dVar 4) (dC (.int 2))) (dOp gIx (dC (.str "abcd")) (dVar 6))) dNil)))) (dgSub (dVar 5) (dC (.int 1))))
  (dAsg (dOp gPlus (dOp gIx (dVar 5) (dC (.int 2))) (dNew (fLst (dCons (dOp gPlus (dOp gIx (dVar 4) (dC (.int 3))) (dOp gIx (dC (.str "abcd")) (dVar 6))) dNil)))) (dgSub (dVar 5) (dC (.int 2)))))))
  (dSeq (dSet 7 (dNew (fComp [none, some 0, some 5, some 3] (iRng1D (dCons (dVar 1) dNil)) (dgName 0) dYes (dCB g_law_part (dCons (dVar 1) (dCons (dOp gIx (dVar 3) (dVar 0)) (dCons (dVar 0) (dCons (dVar 2) (dCons (dVar 3) dNil)))))))))
  (dSeq (dSet 8 (dCB g_law_next (dCons (dVar 0) (dCons (dVar 1) dNil))))
  (dRet (dTup (dCons (dOp gPlus (dSl (dVar 7) (dPart (dVar 8)) dNoPart) (dSl (dVar 7) dNoPart (dPart (dVar 8)))) (dCons (dGive 5) dNil))))))))))))
theorem o_law_parts (D : DefAt K mg "_law_parts" (top 38)) (Z : Zs mg) (h_law_next : HasD P w K mg base k "_law_next" ["_law_source_here", "_law_many"] g_law_next) (h_law_word : HasD P w K mg base k "_law_word" ["_law_k"] g_law_word) (h_law_part : HasD P w K mg base k "_law_part" ["_law_source_here", "_law_name", "_law_k", "_law_pools", "_law_names"] g_law_part) : Has P w K mg base (k + 1) "_law_parts" ["_law_source_here"] (lSp K (fnG 9 1 (t_law_parts g_law_next g_law_word g_law_part))) :=
  hasGw D b_law_parts.hb b_law_parts.hc b_law_parts.sc (by walk_at "u_") fun f cdv A outer s H E hr => by
  have hu := hu_of hr
  exact (jb_cons (js_set 1 b_law_parts.sc.nd (j_op jo_add j_int (j_fn h_law_next hr (ja_cons (j_v 0) (ja_cons j_int ja_nil)))))
      (jb_cons (js_set 2 b_law_parts.sc.nd (j_fn h_law_next hr (ja_cons (j_v 0) (ja_cons j_int ja_nil))))
      (jb_cons (js_set 3 b_law_parts.sc.nd (j_new (jf_comp (N := ["_law_k", "_law_first"]) (fr := [none, some 2]) (CompOk.of (N₀ := ["_law_source_here", "_law_many", "_law_first", "_law_names", "_law_bodies", "_law_pools", "_law_k", "_law_found", "_law_turn"]) (oscope := b_law_parts.c) (by decide +kernel)) (ji_range1 (ja_cons (j_v 1) ja_nil) Z.range) gl_name (fun _ _ _ _ _ => (jg_name 0 (show List.Nodup (["_law_k", "_law_first"] : List Str) by decide +kernel))) (fun _ _ _ _ _ => jif_nil) (fun _ _ _ _ _ => (j_fn h_law_word hr (ja_cons (j_op jo_add (j_v 1) (j_op jo_mul j_int (j_v 0))) ja_nil))))))
      (jb_cons (js_set 4 b_law_parts.sc.nd (j_ix (jx hu) (j_new (jf_lst (ja_cons (j_new (jf_lst (ja_cons j_str (ja_cons j_str (ja_cons j_str (ja_cons j_str ja_nil)))))) (ja_cons (j_new (jf_lst (ja_cons j_str (ja_cons j_str (ja_cons j_str (ja_cons j_str ja_nil)))))) ja_nil)))) (j_fn h_law_next hr (ja_cons (j_v 0) (ja_cons j_int ja_nil)))))
      (jb_cons (js_set 5 b_law_parts.sc.nd (j_own (jf_lst (ja_cons (j_new (jf_lst ja_nil)) (ja_cons (j_new (jf_lst ja_nil)) (ja_cons (j_new (jf_lst ja_nil)) ja_nil))))))
      (jb_cons (js_for (ji_range1 (ja_cons (j_v 1) ja_nil) Z.range) (jg_name 6 b_law_parts.sc.nd) (jb_cons (js_asg (j_op jo_add (j_ix (jx hu) (j_v 5) j_int) (j_new (jf_lst (ja_cons (j_op jo_add (j_ix (jx hu) (j_v 4) j_int) (j_ix (jx hu) j_str (j_v 6))) (ja_cons (j_op jo_add (j_ix (jx hu) (j_v 4) j_int) (j_op jo_mul (j_ix (jx hu) j_str (j_v 6)) j_int)) ja_nil))))) (jg_sub (j_v 5) j_int))
      (jb_cons (js_asg (j_op jo_add (j_ix (jx hu) (j_v 5) j_int) (j_new (jf_lst (ja_cons (j_op jo_add (j_ix (jx hu) (j_v 4) j_int) (j_ix (jx hu) j_str (j_v 6))) ja_nil)))) (jg_sub (j_v 5) j_int))
      (jb_one (js_asg (j_op jo_add (j_ix (jx hu) (j_v 5) j_int) (j_new (jf_lst (ja_cons (j_op jo_add (j_ix (jx hu) (j_v 4) j_int) (j_ix (jx hu) j_str (j_v 6))) ja_nil)))) (jg_sub (j_v 5) j_int))))))
      (jb_cons (js_compN 7 b_law_parts.sc.nd (N := ["_law_k", "_law_source_here", "_law_pools", "_law_names"]) (fr := [none, some 0, some 5, some 3]) (CompOk.of (N₀ := ["_law_source_here", "_law_many", "_law_first", "_law_names", "_law_bodies", "_law_pools", "_law_k", "_law_found", "_law_turn"]) (oscope := b_law_parts.c) (by decide +kernel)) (ji_range1 (ja_cons (j_v 1) ja_nil) Z.range) gl_name (fun _ _ _ _ _ => (jg_name 0 (show List.Nodup (["_law_k", "_law_source_here", "_law_pools", "_law_names"] : List Str) by decide +kernel))) (fun _ _ _ _ _ => jif_nil) (fun _ _ _ _ _ => (j_fn h_law_part hr (ja_cons (j_v 1) (ja_cons (j_ix (jx hu) (j_v 3) (j_v 0)) (ja_cons (j_v 0) (ja_cons (j_v 2) (ja_cons (j_v 3) ja_nil))))))))
      (jb_cons (js_set 8 b_law_parts.sc.nd (j_fn h_law_next hr (ja_cons (j_v 0) (ja_cons (j_v 1) ja_nil))))
      (jb_one (js_ret (j_tup (ja_cons (j_op jo_add (j_sl (j_v 7) (jop_some (j_v 8)) jop_none) (j_sl (j_v 7) jop_none (jop_some (j_v 8)))) (ja_cons (j_give 5) ja_nil)))))))))))))
noncomputable def b_law_line : FI (top 39) ["_law_row", "_law_text_here", "_law_some", "_law_one"] ["_law_row"] := by walk_at "fi_"
def t_law_line  : DS := (dSeq (dIfS (dTest (dOp gEq (dOp gIx (dVar 0) (dC (.int 0))) (dC (.str "mark")))) (dRet (dOp gPlus (dOp gIx (dVar 0) (dC (.int 1))) (dOp gIx (dNew (fLst (dCons (dC (.str ":")) (dCons (dC (.str "::")) dNil)))) (dCB gInt (dCons (dOp gIx (dVar 0) (dC (.int 2))) dNil))))) dNext)
  (dSeq (dSet 1 (dOp gIx (dVar 0) (dC (.int 0))))
  (dSeq (dSet 2 (dSl (dVar 0) (dPart (dC (.int 1))) dNoPart))
  (dSeq (dIfS (dTest (dOp (gIn false) (dOp gIx (dVar 0) (dC (.int 0))) (dTup (dCons (dC (.str "numbers")) (dCons (dC (.str "table")) dNil))))) (dSet 2 (dOp gIx (dVar 0) (dC (.int 1)))) dNext)
  (dSeq (dFor (iAnyD (dVar 2)) (dgName 3) (dSet 1 (dOp gPlus (dOp gPlus (dVar 1) (dC (.str " "))) (dCB gStr (dCons (dVar 3) dNil)))))
  (dRet (dVar 1)))))))
theorem o_law_line (D : DefAt K mg "_law_line" (top 39)) (Z : Zs mg) : Has P w K mg base (k + 1) "_law_line" ["_law_row"] (lSp K (cl (fnC 4 1 t_law_line))) :=
  hasCw D b_law_line.hb b_law_line.hc b_law_line.sc (by walk_at "u_") fun f cdv A outer s H E hr => by
  have hu := hu_of hr
  exact (jb_cons (js_if (jt_cmp (jc_eq hr.units) (j_ix (jx hu) (j_v 0) j_int) j_str) (jb_one (js_ret (j_op jo_add (j_ix (jx hu) (j_v 0) j_int) (j_ix (jx hu) (j_new (jf_lst (ja_cons j_str (ja_cons j_str ja_nil)))) (j_t jb_int Z.int bo_int (ja_cons (j_ix (jx hu) (j_v 0) j_int) ja_nil)))))) jb_nil)
      (jb_cons (js_set 1 b_law_line.sc.nd (j_ix (jx hu) (j_v 0) j_int))
      (jb_cons (js_set 2 b_law_line.sc.nd (j_sl (j_v 0) (jop_some j_int) jop_none))
      (jb_cons (js_if (jt_cmp (jc_in hu) (j_ix (jx hu) (j_v 0) j_int) (j_tup (ja_cons j_str (ja_cons j_str ja_nil)))) (jb_one (js_set 2 b_law_line.sc.nd (j_ix (jx hu) (j_v 0) j_int))) jb_nil)
      (jb_cons (js_for (ji_any (j_v 2)) (jg_name 3 b_law_line.sc.nd) (jb_one (js_set 1 b_law_line.sc.nd (j_op jo_add (j_op jo_add (j_v 1) j_str) (j_t jb_str Z.str bo_str (ja_cons (j_v 3) ja_nil))))))
      (jb_one (js_ret (j_v 1))))))))
noncomputable def b_law_text : FI (top 40) ["_law_parts_here", "_law_lines", "_law_name", "_law_rows"] ["_law_parts_here"] := by walk_at "fi_"
def t_law_text (g_law_line : GN) : DS := (dSeq (dSet 1 (dNew (fLst dNil)))
  (dSeq (dFor (iAnyD (dVar 0)) (dgTup 2 (dgCons (dgName 2) (dgCons (dgName 3) dgNil))) (dSet 1 (dOp gPlus (dOp gPlus (dVar 1) (dNew (fLst (dCons (dOp gPlus (dC (.str "part ")) (dVar 2)) dNil)))) (dNew (fComp [none] (iAnyD (dVar 3)) (dgName 0) dYes (dCB g_law_line (dCons (dVar 0) dNil)))))))
  (dRet (dBM "str" gmJoin (dC (.str "\n")) (dCons (dVar 1) dNil)))))
theorem o_law_text (D : DefAt K mg "_law_text" (top 40)) (h_law_line : HasD P w K mg base k "_law_line" ["_law_row"] g_law_line) : Has P w K mg base (k + 1) "_law_text" ["_law_parts_here"] (lSp K (cl (fnC 4 1 (t_law_text g_law_line)))) :=
  hasCw D b_law_text.hb b_law_text.hc b_law_text.sc (by walk_at "u_") fun f cdv A outer s H E hr => by
  have hu := hu_of hr
  exact (jb_cons (js_set 1 b_law_text.sc.nd (j_new (jf_lst ja_nil)))
      (jb_cons (js_for (ji_any (j_v 0)) (jg_tup (jgs_cons (jg_name 2 b_law_text.sc.nd) (jgs_cons (jg_name 3 b_law_text.sc.nd) jgs_nil))) (jb_one (js_set 1 b_law_text.sc.nd (j_op jo_add (j_op jo_add (j_v 1) (j_new (jf_lst (ja_cons (j_op jo_add j_str (j_v 2)) ja_nil)))) (j_new (jf_comp (N := ["_law_row"]) (fr := [none]) (CompOk.of (N₀ := ["_law_parts_here", "_law_lines", "_law_name", "_law_rows"]) (oscope := b_law_text.c) (by decide +kernel)) (ji_any (j_v 3)) gl_name (fun _ _ _ _ _ => (jg_name 0 (show List.Nodup (["_law_row"] : List Str) by decide +kernel))) (fun _ _ _ _ _ => jif_nil) (fun _ _ _ _ _ => (j_fn h_law_line hr (ja_cons (j_v 0) ja_nil)))))))))
      (jb_one (js_ret (j_bm jm_join PySem.F.plainAttrs_str PySem.F.slot_str_join PySem.F.type_str_join j_str (ja_cons (j_v 1) ja_nil))))))
noncomputable def b_law_right : FI (top 41) ["_law_found", "_law_parts_here", "_law_part_here"] ["_law_found", "_law_parts_here"] := by walk_at "fi_"
def t_law_right (K : PySem.W.Frag)  : DS := (dSeq (dIfS (dOr (dNot (dTest (dCB (gIsi K) (dCons (dVar 0) (dCons (dC (.ty "list")) dNil))))) (dTest (dOp gNe (dVar 0) (dVar 1)))) (dRet (dC (.bl false))) dNext)
  (dSeq (dFor (iAnyD (dVar 0)) (dgName 2) (dSeq (dIfS (dOr (dNot (dTest (dCB (gIsi K) (dCons (dVar 2) (dCons (dC (.ty "tuple")) dNil))))) (dNot (dTest (dCB (gIsi K) (dCons (dOp gIx (dVar 2) (dC (.int 1))) (dCons (dC (.ty "list")) dNil)))))) (dRet (dC (.bl false))) dNext)
  (dIfS (dNot (dTest (dCB gAll (dCons (dNew (fComp [none] (iAnyD (dOp gIx (dVar 2) (dC (.int 1)))) (dgName 0) dYes (dCB (gIsi K) (dCons (dVar 0) (dCons (dC (.ty "tuple")) dNil))))) dNil)))) (dRet (dC (.bl false))) dNext)))
  (dRet (dC (.bl true)))))
theorem o_law_right (D : DefAt K mg "_law_right" (top 41)) (Z : Zs mg) : Has P w K mg base (k + 1) "_law_right" ["_law_found", "_law_parts_here"] (lSp K (cl (fnC 3 2 (t_law_right K)))) :=
  hasCw D b_law_right.hb b_law_right.hc b_law_right.sc (by walk_at "u_") fun f cdv A outer s H E hr => by
  have hu := hu_of hr
  exact (jb_cons (js_if (jt_of (jw_or (jt_not (jt_val (j_b jb_isi Z.isinstance bo_isinstance (ja_cons (j_v 0) (ja_cons (j_ty Z.list bo_list) ja_nil))))) (jw_or1 (jt_cmp (jc_ne hr.units) (j_v 0) (j_v 1))))) (jb_one (js_ret j_bl)) jb_nil)
      (jb_cons (js_for (ji_any (j_v 0)) (jg_name 2 b_law_right.sc.nd) (jb_cons (js_if (jt_of (jw_or (jt_not (jt_val (j_b jb_isi Z.isinstance bo_isinstance (ja_cons (j_v 2) (ja_cons (j_ty Z.tuple bo_tuple) ja_nil))))) (jw_or1 (jt_not (jt_val (j_b jb_isi Z.isinstance bo_isinstance (ja_cons (j_ix (jx hu) (j_v 2) j_int) (ja_cons (j_ty Z.list bo_list) ja_nil)))))))) (jb_one (js_ret j_bl)) jb_nil)
      (jb_one (js_if (jt_not (jt_val (j_b jb_all Z.all bo_all (ja_cons (j_new (jf_comp (N := ["_law_row"]) (fr := [none]) (CompOk.of (N₀ := ["_law_found", "_law_parts_here", "_law_part_here"]) (oscope := b_law_right.c) (by decide +kernel)) (ji_any (j_ix (jx hu) (j_v 2) j_int)) gl_name (fun _ _ _ _ _ => (jg_name 0 (show List.Nodup (["_law_row"] : List Str) by decide +kernel))) (fun _ _ _ _ _ => jif_nil) (fun _ _ _ _ _ => (j_b jb_isi Z.isinstance bo_isinstance (ja_cons (j_v 0) (ja_cons (j_ty Z.tuple bo_tuple) ja_nil)))))) ja_nil)))) (jb_one (js_ret j_bl)) jb_nil))))
      (jb_one (js_ret j_bl))))
noncomputable def b_law : FI (top 42) ["_law_script", "_law_draw", "_law_parts_here", "_law_pools", "_law_text_here", "_law_handed", "_law_found", "_law_name", "_law_rows"] ["_law_script"] := by walk_at "fi_"
def t_law (g_law_parts : GN) (g_law_source : GN) (g_law_text : GN) (g_show_parts : GN) (g_law_right : GN) (g_read_parts : GN) (gg_read_parts : GN) (g_show_row : GN) (g_law_line : GN) : DS := (dSeq (dFor (iAnyD (dOp gPlus (dSl (dVar 0) dNoPart (dPart (dC (.int 6)))) (dNew (fLst (dCons (dC (.int 0)) dNil))))) (dgName 1) (dSeq (dAsg (dCB g_law_parts (dCons (dCB g_law_source (dCons (dVar 1) dNil)) dNil)) (dgTup 2 (dgCons (dgName 2) (dgCons (dgName 3) dgNil))))
  (dSeq (dSet 4 (dCB g_law_text (dCons (dVar 2) dNil)))
  (dSeq (dSet 5 (dNew (fComp [none, none] (iAnyD (dVar 2)) (dgTup 2 (dgCons (dgName 0) (dgCons (dgName 1) dgNil))) dYes (dTup (dCons (dVar 0) (dCons (dNew (fCB gfList (dCons (dVar 1) dNil))) dNil))))))
  (dSeq (dIfS (dOr (dTest (dOp gNe (dCB g_show_parts (dCons (dVar 5) dNil)) (dVar 4))) (dOr (dTest (dOp gNe (dVar 5) (dVar 2))) (dNot (dTest (dCB g_law_right (dCons (dCB g_read_parts (dCons (dVar 4) dNil)) (dCons (dVar 2) dNil))))))) (dRet (dC (.bl false))) dNext)
  (dSeq (dSet 6 (dCB gg_read_parts (dCons (dVar 4) dNil)))
  (dSeq (dDrop (dBM "list" gmPop (dOp gIx (dOp gIx (dVar 6) (dC (.int 0))) (dC (.int 1))) dNil))
  (dSeq (dDrop (dBM "list" gmPop (dVar 6) dNil))
  (dSeq (dIfS (dOr (dNot (dTest (dCB g_law_right (dCons (dCB g_read_parts (dCons (dVar 4) dNil)) (dCons (dVar 2) dNil))))) (dTest (dOp gNe (dCB g_show_parts (dCons (dCB g_read_parts (dCons (dVar 4) dNil)) dNil)) (dVar 4)))) (dRet (dC (.bl false))) dNext)
  (dFor (iAnyD (dVar 2)) (dgTup 2 (dgCons (dgName 7) (dgCons (dgName 8) dgNil))) (dIfS (dTest (dOp gNe (dNew (fComp [none] (iAnyD (dVar 8)) (dgName 0) dYes (dCB g_show_row (dCons (dVar 0) dNil)))) (dNew (fComp [none] (iAnyD (dVar 8)) (dgName 0) dYes (dCB g_law_line (dCons (dVar 0) dNil)))))) (dRet (dC (.bl false))) dNext)))))))))))
  (dRet (dAndV (dOp gEq (dCB g_show_row (dCons (dTup (dCons (dC (.str "load")) (dCons (dC (.int 1)) (dCons (dC (.int 0)) (dCons (dC (.int 65535)) dNil))))) dNil)) (dC (.str "load 1 0 65535"))) (dOp gEq (dCB g_show_row (dCons (dTup (dCons (dC (.str "table")) (dCons (dNew (fLst (dCons (dC (.int 7)) (dCons (dC (.int 0)) dNil)))) dNil))) dNil)) (dC (.str "table 7 0"))))))
theorem j_law (Z : Zs mg) (h_law_parts : HasD P w K mg base k "_law_parts" ["_law_source_here"] g_law_parts) (h_law_source : HasD P w K mg base k "_law_source" ["_law_draw"] g_law_source) (h_law_text : HasD P w K mg base k "_law_text" ["_law_parts_here"] g_law_text) (h_show_parts : HasD P w K mg base k "show_parts" ["parts"] g_show_parts) (h_law_right : HasD P w K mg base k "_law_right" ["_law_found", "_law_parts_here"] g_law_right) (h_read_parts : HasD P w K mg base k "read_parts" ["text"] g_read_parts) (hg_read_parts : HasD P w K mg base k "read_parts" ["text"] gg_read_parts) (h_show_row : HasD P w K mg base k "show_row" ["row"] g_show_row) (h_law_line : HasD P w K mg base k "_law_line" ["_law_row"] g_law_line) (f : Addr) (cdv : Value) (A : Around) (outer : List Env) (s : Shared) (H : Hp) (E : XK) (hr : Room k (A.deeper (envOfC "law" b_law.c s.heap.objs.size f cdv))) :
    JB' (cxOf CX0 P w K mg base ["_law_script", "_law_draw", "_law_parts_here", "_law_pools", "_law_text_here", "_law_handed", "_law_found", "_law_name", "_law_rows"] "law" b_law.c f cdv A outer s H E).nox b_law.b (t_law g_law_parts g_law_source g_law_text g_show_parts g_law_right g_read_parts gg_read_parts g_show_row g_law_line) := by
  have hu := hu_of hr
  exact (jb_cons (js_for (ji_any (j_op jo_add (j_sl (j_v 0) jop_none (jop_some j_int)) (j_new (jf_lst (ja_cons j_int ja_nil))))) (jg_name 1 b_law.sc.nd) (jb_cons (js_asg (j_fn h_law_parts hr (ja_cons (j_fn h_law_source hr (ja_cons (j_v 1) ja_nil)) ja_nil)) (jg_tup (jgs_cons (jg_name 2 b_law.sc.nd) (jgs_cons (jg_name 3 b_law.sc.nd) jgs_nil))))
      (jb_cons (js_set 4 b_law.sc.nd (j_fn h_law_text hr (ja_cons (j_v 2) ja_nil)))
      (jb_cons (js_compN 5 b_law.sc.nd (N := ["_law_name", "_law_rows"]) (fr := [none, none]) (CompOk.of (N₀ := ["_law_script", "_law_draw", "_law_parts_here", "_law_pools", "_law_text_here", "_law_handed", "_law_found", "_law_name", "_law_rows"]) (oscope := b_law.c) (by decide +kernel)) (ji_any (j_v 2)) (gl_tup' (gl_cons' gl_name (gl_cons' gl_name gl_nil))) (fun _ _ _ _ _ => (jg_tup (jgs_cons (jg_name 0 (show List.Nodup (["_law_name", "_law_rows"] : List Str) by decide +kernel)) (jgs_cons (jg_name 1 (show List.Nodup (["_law_name", "_law_rows"] : List Str) by decide +kernel)) jgs_nil)))) (fun _ _ _ _ _ => jif_nil) (fun _ _ _ _ _ => (j_tup (ja_cons (j_v 0) (ja_cons (j_new (jf_t jbf_list Z.list bo_list (ja_cons (j_v 1) ja_nil))) ja_nil)))))
      (jb_cons (js_if (jt_of (jw_or (jt_cmp (jc_ne hr.units) (j_fn h_show_parts hr (ja_cons (j_v 5) ja_nil)) (j_v 4)) (jw_or (jt_cmp (jc_ne hr.units) (j_v 5) (j_v 2)) (jw_or1 (jt_not (jt_val (j_fn h_law_right hr (ja_cons (j_fn h_read_parts hr (ja_cons (j_v 4) ja_nil)) (ja_cons (j_v 2) ja_nil))))))))) (jb_one (js_ret j_bl)) jb_nil)
      (jb_cons (js_set 6 b_law.sc.nd (j_fn hg_read_parts hr (ja_cons (j_v 4) ja_nil)))
      (jb_cons (js_expr (j_bm0 jm_pop PySem.F.plainAttrs_list PySem.F.slot_list_pop PySem.F.type_list_pop (j_ix (jx hu) (j_ix (jx hu) (j_v 6) j_int) j_int)))
      (jb_cons (js_expr (j_bm0 jm_pop PySem.F.plainAttrs_list PySem.F.slot_list_pop PySem.F.type_list_pop (j_v 6)))
      (jb_cons (js_if (jt_of (jw_or (jt_not (jt_val (j_fn h_law_right hr (ja_cons (j_fn h_read_parts hr (ja_cons (j_v 4) ja_nil)) (ja_cons (j_v 2) ja_nil))))) (jw_or1 (jt_cmp (jc_ne hr.units) (j_fn h_show_parts hr (ja_cons (j_fn h_read_parts hr (ja_cons (j_v 4) ja_nil)) ja_nil)) (j_v 4))))) (jb_one (js_ret j_bl)) jb_nil)
      (jb_one (js_for (ji_any (j_v 2)) (jg_tup (jgs_cons (jg_name 7 b_law.sc.nd) (jgs_cons (jg_name 8 b_law.sc.nd) jgs_nil))) (jb_one (js_if (jt_cmp (jc_ne hr.units) (j_new (jf_comp (N := ["_law_row"]) (fr := [none]) (CompOk.of (N₀ := ["_law_script", "_law_draw", "_law_parts_here", "_law_pools", "_law_text_here", "_law_handed", "_law_found", "_law_name", "_law_rows"]) (oscope := b_law.c) (by decide +kernel)) (ji_any (j_v 8)) gl_name (fun _ _ _ _ _ => (jg_name 0 (show List.Nodup (["_law_row"] : List Str) by decide +kernel))) (fun _ _ _ _ _ => jif_nil) (fun _ _ _ _ _ => (j_fn h_show_row hr (ja_cons (j_v 0) ja_nil))))) (j_new (jf_comp (N := ["_law_row"]) (fr := [none]) (CompOk.of (N₀ := ["_law_script", "_law_draw", "_law_parts_here", "_law_pools", "_law_text_here", "_law_handed", "_law_found", "_law_name", "_law_rows"]) (oscope := b_law.c) (by decide +kernel)) (ji_any (j_v 8)) gl_name (fun _ _ _ _ _ => (jg_name 0 (show List.Nodup (["_law_row"] : List Str) by decide +kernel))) (fun _ _ _ _ _ => jif_nil) (fun _ _ _ _ _ => (j_fn h_law_line hr (ja_cons (j_v 0) ja_nil)))))) (jb_one (js_ret j_bl)) jb_nil)))))))))))))
      (jb_one (js_ret (j_and (j_cmp (jc_eq hr.units) (j_fn h_show_row hr (ja_cons (j_tup (ja_cons j_str (ja_cons j_int (ja_cons j_int (ja_cons j_int ja_nil))))) ja_nil)) j_str) (j_one (j_cmp (jc_eq hr.units) (j_fn h_show_row hr (ja_cons (j_tup (ja_cons j_str (ja_cons (j_new (jf_lst (ja_cons j_int (ja_cons j_int ja_nil)))) ja_nil))) ja_nil)) j_str))))))
end
end K61
set_option Elab.async false
set_option linter.all false
set_option maxRecDepth 100000
set_option maxHeartbeats 4000000
namespace K61
open PySem PySem.Spec L2 L3 FJ
noncomputable def jl (c : Nat) : List (List Nat) → List Nat
  | [] => []
  | [x] => x
  | x :: y :: r => x ++ c :: jl c (y :: r)
theorem cps_app (a b : Str) : (a ++ b).cps.toList = a.cps.toList ++ b.cps.toList := by
  show (a.cps ++ b.cps).toList = _
  simp
theorem cps_join (c : Nat) : ∀ l : List Str, (Str.join ⟨#[c]⟩ l).cps.toList = jl c (l.map fun s => s.cps.toList)
  | [] => rfl
  | [x] => rfl
  | x :: y :: r => by
    show (x ++ ⟨#[c]⟩ ++ Str.join ⟨#[c]⟩ (y :: r)).cps.toList = x.cps.toList ++ c :: jl c _
    rw [cps_app, cps_app, cps_join c (y :: r), List.append_assoc]; rfl
theorem cut_inj {c : Nat} : ∀ {x y r s : List Nat}, c ∉ x → c ∉ y → x ++ c :: r = y ++ c :: s → x = y ∧ r = s
  | [], [], r, s, _, _, h => ⟨rfl, (List.cons.inj h).2⟩
  | [], b :: y, r, s, _, hy, h => absurd ((List.cons.inj h).1 ▸ List.mem_cons_self) hy
  | a :: x, [], r, s, hx, _, h => absurd ((List.cons.inj h).1 ▸ List.mem_cons_self) hx
  | a :: x, b :: y, r, s, hx, hy, h => by
    obtain ⟨h1, h2⟩ := List.cons.inj h
    obtain ⟨h3, h4⟩ := cut_inj (fun z => hx (List.mem_cons_of_mem _ z)) (fun z => hy (List.mem_cons_of_mem _ z)) h2
    exact ⟨by rw [h1, h3], h4⟩
theorem jl_inj {c : Nat} : ∀ {l m : List (List Nat)}, l ≠ [] → m ≠ [] → (∀ p ∈ l, c ∉ p) → (∀ p ∈ m, c ∉ p) → jl c l = jl c m → l = m
  | [], _, h, _, _, _, _ => absurd rfl h
  | _ :: _, [], _, h, _, _, _ => absurd rfl h
  | [x], [y], _, _, _, _, h => by rw [show x = y from h]
  | [x], y :: z :: s, _, _, hl, _, h => absurd (by rw [show x = y ++ c :: jl c (z :: s) from h]; simp) (hl x (by simp))
  | x :: y :: r, [z], _, _, _, hm, h => absurd (by rw [show z = x ++ c :: jl c (y :: r) from h.symm]; simp) (hm z (by simp))
  | x :: y :: r, z :: u :: s, _, _, hl, hm, h => by
    obtain ⟨h1, h2⟩ := cut_inj (hl x (by simp)) (hm z (by simp)) (show x ++ c :: jl c (y :: r) = z ++ c :: jl c (u :: s) from h)
    rw [h1, jl_inj (by simp) (by simp) (fun p hp => hl p (List.mem_cons_of_mem _ hp)) (fun p hp => hm p (List.mem_cons_of_mem _ hp)) h2]
theorem str_ext {a b : Str} (h : a.cps.toList = b.cps.toList) : a = b := by
  obtain ⟨⟨a⟩⟩ := a
  obtain ⟨⟨b⟩⟩ := b
  cases (show a = b from h); rfl
theorem split_ne (x : Str) (c : Nat) : Txt.split x ⟨#[c]⟩ ≠ [] := by
  unfold Txt.split
  split
  · simp
  · split
    · simp
    · rw [StrLaws.partsBetween_eq]
      obtain ⟨p, r, h⟩ := StrLaws.partsFrom_ne x (Str.length ⟨#[c]⟩) 0 (Builtin.Str.occurrences x ⟨#[c]⟩ 0 x.length (x.length + 1))
      rw [h]; simp
theorem split_join {c : Nat} {l : List Str} (ne : l ≠ []) (h : ∀ p ∈ l, c ∉ p.cps.toList) : Txt.split (Str.join ⟨#[c]⟩ l) ⟨#[c]⟩ = l := by
  have e := StrLaws.join_split (Str.join ⟨#[c]⟩ l) ⟨#[c]⟩
  have f := StrLaws.split_free (Str.join ⟨#[c]⟩ l) c
  have n := split_ne (Str.join ⟨#[c]⟩ l) c
  generalize Txt.split (Str.join ⟨#[c]⟩ l) ⟨#[c]⟩ = m at e f n
  have e2 := congrArg (fun s => s.cps.toList) e
  rw [cps_join, cps_join] at e2
  have := jl_inj (c := c) (by simpa using n) (by simpa using ne) (fun p hp => by obtain ⟨s, h1, rfl⟩ := List.mem_map.mp hp; exact f s h1) (fun p hp => by obtain ⟨s, h1, rfl⟩ := List.mem_map.mp hp; exact h s h1) e2
  exact List.map_inj_right (fun _ _ h => str_ext h) |>.mp this
theorem txt_nat (m : Nat) : (Str.ofString (toString (m : Int))).cps.toList = (Nat.toDigits 10 m).map Char.toNat := PySem.W.KIN.signs_num m
theorem txt_neg (m : Nat) : (Str.ofString (toString (Int.negSucc m))).cps.toList = 45 :: (Nat.toDigits 10 (m + 1)).map Char.toNat := by
  rw [PyProof.Rows.signs_ofString]
  show ("-" ++ Nat.repr (m + 1)).toList.map Char.toNat = _
  rw [String.toList_append, List.map_append, Nat.toList_repr]; rfl
end K61
set_option Elab.async false
set_option linter.all false
set_option maxRecDepth 100000
set_option maxHeartbeats 4000000
namespace K61
open PySem PySem.Spec L2 L3 FJ PySem.NumText
abbrev nT (n : Int) : Str := Str.ofString (toString n)
noncomputable def dg (m : Nat) : List Nat := (Nat.toDigits 10 m).map Char.toNat
theorem dg_all (m : Nat) : AllDigits (dg m) := fun c hc => by
  obtain ⟨ch, h, rfl⟩ := List.mem_map.mp hc
  exact PyProof.Rows.digit_range (Nat.isDigit_of_mem_toDigits (by decide) (by decide) h)
theorem dg_ne (m : Nat) : dg m ≠ [] := fun e => by
  have h := PySem.toDigits_len_ge 10 m
  rw [List.map_eq_nil_iff.mp e] at h
  exact absurd h (by decide)
theorem dg_val (m : Nat) : digitsVal (dg m) = m := PySem.W.KIN.val_back m
theorem dg_zero {m : Nat} {r : List Nat} (h : dg m = 48 :: r) : m = 0 := by
  have e := toDigits_all (dg m) (dg_all m)
  rw [dg_val, h] at e
  have l : (dg m).length = (Nat.toDigits 10 m).length := List.length_map _
  rw [h] at l
  rw [List.dropWhile_cons, if_pos (by rfl)] at e
  have le : (r.dropWhile (· == 48)).length ≤ r.length := (List.dropWhile_sublist _).length_le
  cases hd : r.dropWhile (· == 48) with
  | nil =>
    rw [hd] at e
    have : dg m = [48] := by unfold dg; rw [e]; rfl
    have v := dg_val m
    rw [this] at v
    exact v.symm
  | cons c s =>
    rw [hd] at e le
    rw [e, List.length_map] at l
    simp only [List.length_cons] at l le
    omega
theorem dg_len {m : Nat} (h : m < 10 ^ 10) : (dg m).length ≤ 10 := by
  have := PySem.W.KT.len_num (n := (m : Int)) (by omega) (by omega)
  rw [← show (nT m).cps.toList.length = (nT m).length by simp [Str.length], txt_nat] at this
  exact this
noncomputable def sgn (n : Int) : List Nat := match n with
  | .ofNat m => dg m
  | .negSucc m => 45 :: dg (m + 1)
theorem nT_cps (n : Int) : (nT n).cps.toList = sgn n := by
  cases n with
  | ofNat m => exact txt_nat m
  | negSucc m => exact txt_neg m
theorem len_cps (x : Str) : x.length = x.cps.toList.length := by simp [Str.length]
theorem sw_one (x : Str) (c : Nat) : Txt.startswith x ⟨#[c]⟩ = (x.cps.toList.head? == some c) := by
  obtain ⟨⟨l⟩⟩ := x
  unfold Txt.startswith
  cases l with
  | nil => rfl
  | cons a l =>
    show (decide (0 + 1 ≤ (a :: l).length) && Builtin.Str.subAt ⟨⟨a :: l⟩⟩ ⟨#[c]⟩ 0) = _
    rw [decide_eq_true (by simp), Bool.true_and]
    unfold Builtin.Str.subAt
    show ((⟨a :: l⟩ : Array Nat).extract 0 (0 + 1) == #[c]) = (some a == some c)
    rw [show (⟨a :: l⟩ : Array Nat).extract 0 (0 + 1) = #[a] by simp]
    simp
theorem fm_range (l : List Nat) : ∀ (k a : Nat), a + k ≤ l.length → ((List.range k).map fun i => a + i).filterMap (l[·]?) = (l.drop a).take k
  | 0, a, _ => by simp
  | k + 1, a, h => by
    rw [List.range_succ, List.map_append, List.filterMap_append, fm_range l k a (by omega), List.take_add_one]
    congr 1
    show ([a + k].filterMap (l[·]?)) = _
    rw [List.getElem?_drop, List.getElem?_eq_getElem (show a + k < l.length by omega)]
    simp [List.getElem?_eq_getElem (show a + k < l.length by omega)]
theorem slice_of (x : Str) (l u : Option Int) (a k : Nat) (h : Builtin.Str.strSliceIndices l u 1 x.length = (List.range k).map fun i => a + i) (ak : a + k ≤ x.length) : (Txt.slice x l u).cps.toList = (x.cps.toList.drop a).take k := by
  unfold Txt.slice
  rw [h]
  have hl := len_cps x
  split
  · rename_i e
    have e : k = x.length := by simpa using e
    rw [show a = 0 by omega, List.drop_zero, List.take_of_length_le (by omega)]
  · show (List.filterMap (fun i => x.cps[i]?) _).toArray.toList = _
    rw [List.toList_toArray, ← fm_range _ k a (by omega)]
    congr 1
    funext i
    simp
theorem sr {a b : Nat} (h : a ≤ b) : sliceRange (a : Int) (b : Int) 1 = (List.range (b - a)).map fun i => a + i := by
  unfold sliceRange
  have e : ((if (1 : Int) > 0 then (if (a : Int) < b then ((b : Int) - a + 1 - 1) / 1 else 0) else (if (a : Int) > b then ((a : Int) - b - 1 - 1) / (-1) else 0)) : Int).toNat = b - a := by
    rw [if_pos (by decide)]
    split <;> simp <;> omega
  show (List.range (Int.toNat _)).map _ = _
  rw [e]
  refine List.map_congr_left fun i _ => ?_
  omega
theorem slice1 {x : Str} (h : 1 ≤ x.length) : (Txt.slice x (some 1) none).cps.toList = x.cps.toList.drop 1 := by
  have hl := len_cps x
  rw [slice_of x (some 1) none 1 (x.length - 1) ?_ (by omega), List.take_of_length_le (by rw [List.length_drop]; omega)]
  show sliceRange (max 0 (min (if (1 : Int) < 0 then 1 + (x.length : Int) else 1) (x.length : Int))) (x.length : Int) 1 = _
  rw [show max 0 (min (if (1 : Int) < 0 then 1 + (x.length : Int) else 1) (x.length : Int)) = ((1 : Nat) : Int) by rw [if_neg (by decide)]; omega]
  exact sr h
theorem sliceE {x : Str} {n : Nat} (h : n ≤ x.length) (h0 : 1 ≤ n) : (Txt.slice x none (some (-(n : Int)))).cps.toList = x.cps.toList.take (x.length - n) := by
  rw [slice_of x none (some (-(n : Int))) 0 (x.length - n) ?_ (by omega), List.drop_zero]
  show sliceRange 0 (max 0 (min (if -(n : Int) < 0 then -(n : Int) + (x.length : Int) else -(n : Int)) (x.length : Int))) 1 = _
  rw [show max 0 (min (if -(n : Int) < 0 then -(n : Int) + (x.length : Int) else -(n : Int)) (x.length : Int)) = ((x.length - n : Nat) : Int) by rw [if_pos (by omega)]; omega]
  exact sr (Nat.zero_le _)
theorem intT_n {n : Int} (h : n.natAbs < 10 ^ 10) : PySem.intText? (nT n) = some n := by
  cases n with
  | ofNat m =>
    have := dg_len (m := m) (by simpa using h)
    have e := intText_digits (x := nT (Int.ofNat m)) (by rw [nT_cps]; exact dg_all m) (by rw [nT_cps]; exact dg_ne m) (by rw [len_cps, nT_cps]; show (dg m).length ≤ _; omega)
    rw [nT_cps] at e
    rw [e]; show some ((digitsVal (dg m) : Nat) : Int) = _; rw [dg_val]; rfl
  | negSucc m =>
    have := dg_len (m := m + 1) (by simp at h; omega)
    have e := intText_neg (x := nT (Int.negSucc m)) (nT_cps _) (dg_all (m + 1)) (dg_ne (m + 1)) (by rw [len_cps, nT_cps]; show (dg (m + 1)).length + 1 ≤ _; omega)
    rw [e, dg_val]; rfl
theorem gLe_0 {c : Nat} {M : Ms} {Q : DK} (h : 48 ≤ c) (q : Q (.bl true) M) : gLe (.str "0") (.str ⟨#[c]⟩) M Q := by
  show Q (.bl (!decide ([c] < [48]))) M
  rw [show decide ([c] < [48]) = false by simp [List.cons_lt_cons_iff]; omega]; exact q
theorem gLe_9 {c : Nat} {M : Ms} {Q : DK} (h : c ≤ 57) (q : Q (.bl true) M) : gLe (.str ⟨#[c]⟩) (.str "9") M Q := by
  show Q (.bl (!decide ([57] < [c]))) M
  rw [show decide ([57] < [c]) = false by simp [List.cons_lt_cons_iff]; omega]; exact q
def P_rn : GP := fun ds Q => ∃ n : Int, n.natAbs < 10 ^ 10 ∧ ds = [.str (nT n)] ∧ Q (.int n)
theorem P_rn_mono : monoP P_rn := fun ds P Q w ⟨n, h, e, q⟩ => ⟨n, h, e, w _ q⟩
theorem rn_tail {t f : Str} {n : Int} {M : Ms} {Q : D → Prop} (hf : ∃ m, f.cps.toList = dg m ∧ m < 10 ^ 10 ∧ (m = 0 → t = "0")) (hi : PySem.intText? t = some n) (ht : t.length ≤ 640) (q : Q (.int n)) :
    (dSeq (dIfS (dNot (dTest (dChain gLe gLe (dC (.int 1)) (dCB gLen (dCons (dVar 1) dNil)) (dC (.int 60))))) (dRet (dC .non)) dNext)
    (dSeq (dIfS (dNot (dTest (dCB gAll (dCons (dNew (fComp [none] (iAnyD (dVar 1)) (dgName 0) dYes (dChain gLe gLe (dC (.str "0")) (dVar 0) (dC (.str "9"))))) dNil)))) (dRet (dC .non)) dNext)
    (dSeq (dIfS (dAnd (dTest (dBM "str" gmSw (dVar 1) (dCons (dC (.str "0")) dNil))) (dTest (dOp gNe (dVar 0) (dC (.str "0"))))) (dRet (dC .non)) dNext)
    (dRet (dCB gIntT (dCons (dVar 0) dNil)))))) ⟨fun _ _ => Q .non, fun d M' => nl (fz M' d) = true ∧ Q (fz M' d), fun _ _ => False, fun _ _ => False⟩ [some (.str t), some (.str f)] M := by
  obtain ⟨m, e, hm, h0⟩ := hf
  have l1 : f.length ≤ 10 := by rw [len_cps, e]; exact dg_len hm
  have l0 : 1 ≤ f.length := by rw [len_cps, e]; exact List.length_pos_iff.mpr (dg_ne m)
  have hs : f.length ≤ sizeLine := Nat.le_trans l1 (by decide)
  have ly := @gLe_yes
  have la := @gLe_0
  have lz := @gLe_9
  generalize gLe = ge at ly la lz ⊢
  refine ⟨_, show (if f.length ≤ sizeLine then _ else _) = _ from if_pos hs, ?_⟩
  refine ly (by omega) ?_
  refine ly (by omega) ?_
  refine ⟨_, rfl, rfl, ?_⟩
  refine compD_map (fun _ => .bl true) ?_ _ _ ?_ (fun y hy Kk hK => ?_) ?_
  · exact rfl
  · rw [List.length_nil, Nat.zero_add, List.length_map, Array.length_toList]; exact hs
  · obtain ⟨c, hc, rfl⟩ := List.mem_map.mp hy
    rw [e] at hc
    have := dg_all m c hc
    exact la this.1 (lz this.2 (hK _ rfl))
  · refine ⟨f.cps.toList.map fun _ => true, by show D.lst _ = D.lst _; rw [List.nil_append, List.map_map, List.map_map]; rfl, ?_⟩
    rw [show (f.cps.toList.map fun _ => true).all id = true by simp]
    refine ⟨rfl, ?_⟩
    have sw : Txt.startswith f "0" = (f.cps.toList.head? == some 48) := sw_one f 48
    cases hb : Txt.startswith f "0" with
    | false =>
      refine (show (if Txt.startswith f "0" = true then _ else _) from ?_)
      rw [hb, if_neg Bool.false_ne_true]
      exact ⟨n, ht, hi, rfl, q⟩
    | true =>
      refine (show (if Txt.startswith f "0" = true then _ else _) from ?_)
      rw [hb, if_pos rfl]
      rw [hb, e] at sw
      have t0 : t = "0" := by
        cases h : dg m with
        | nil => exact absurd h (dg_ne m)
        | cons a r =>
          rw [h] at sw
          have : a = 48 := by simpa using sw.symm
          exact h0 (dg_zero (by rw [h, this]))
      subst t0
      exact ⟨n, ht, hi, rfl, q⟩
theorem sp_rn : ∀ ds Q, P_rn ds Q → fnC 2 1 t_read_number ds Q := by
  rintro ds Q ⟨n, hn, h, q⟩
  subst h
  have hi := intT_n hn
  have sw : Txt.startswith (nT n) "-" = ((nT n).cps.toList.head? == some 45) := sw_one (nT n) 45
  refine ⟨rfl, rfl, ?_⟩
  rw [nT_cps] at sw
  cases n with
  | ofNat m =>
    have hm : m < 10 ^ 10 := by simpa using hn
    have l1 := dg_len hm
    have hb : Txt.startswith (nT (Int.ofNat m)) "-" = false := by
      rw [sw]
      show ((dg m).head? == some 45) = false
      cases h : dg m with
      | nil => rfl
      | cons a r =>
        have := dg_all m a (by rw [h]; simp)
        simp; omega
    refine (show (if Txt.startswith (nT (Int.ofNat m)) "-" = true then _ else _) from ?_)
    rw [hb, if_neg Bool.false_ne_true]
    exact rn_tail ⟨m, nT_cps _, hm, fun z => by subst z; rfl⟩ hi (by rw [len_cps, nT_cps]; show (dg m).length ≤ _; omega) q
  | negSucc m =>
    have hm : m + 1 < 10 ^ 10 := by simp at hn; omega
    have l1 := dg_len hm
    have hl : (nT (Int.negSucc m)).length = (dg (m + 1)).length + 1 := by rw [len_cps, nT_cps]; rfl
    have hb : Txt.startswith (nT (Int.negSucc m)) "-" = true := by rw [sw]; rfl
    refine (show (if Txt.startswith (nT (Int.negSucc m)) "-" = true then _ else _) from ?_)
    rw [hb, if_pos rfl]
    refine ⟨Nat.le_trans (show (nT (Int.negSucc m)).length ≤ 100 by omega) (by decide), ?_⟩
    exact rn_tail ⟨m + 1, by rw [slice1 (by omega), nT_cps]; rfl, hm, fun z => by cases z⟩ hi (by omega) q
end K61
set_option Elab.async false
set_option linter.all false
set_option maxRecDepth 100000
set_option maxHeartbeats 4000000
namespace FJ
open PySem PySem.Spec PyProof.Rows.KTD L2 L3
abbrev Pt := Str × List Rw
noncomputable def ptD (p : Pt) : D := .tup [.str p.1, .lst (p.2.map Rw.d)]
noncomputable def Rw.isMark : Rw → Bool
  | .mark _ _ => true
  | _ => false
noncomputable def nMarks (rs : List Rw) : Nat := (rs.filter Rw.isMark).length
noncomputable def nOth (rs : List Rw) : Nat := rs.length - nMarks rs
theorem nls_rows (rs : List Rw) : nls (rs.map Rw.d) = true := nls_map Rw.nld rs
structure PtOk (p : Pt) : Prop where
  w : isW p.1 = true
  lo : 1 ≤ nOth p.2
  hi : nOth p.2 ≤ 60
  len : p.2.length ≤ 1000
theorem ptD_nl (p : Pt) : nl (ptD p) = true := by show (true && (nls (p.2.map Rw.d) && true)) = true; rw [nls_rows]; rfl
structure PsOk (ps : List Pt) : Prop where
  lo : 1 ≤ ps.length
  hi : ps.length ≤ 12
  all : ∀ p ∈ ps, PtOk p
  nd : (ps.map Prod.fst).Nodup
  rows : (ps.map fun p => (nOth p.2 : Int)).sum ≤ 200
  marks : (ps.map fun p => (nMarks p.2 : Int)).sum ≤ 200
theorem nls_parts (ps : List Pt) : nls (ps.map ptD) = true := nls_map ptD_nl ps
theorem get_map {β γ : Type} {f : β → γ} {l : List β} {j : Nat} {y : γ} (h : (l.map f)[j]? = some y) : ∃ x, l[j]? = some x ∧ y = f x := by
  rw [List.getElem?_map] at h
  cases e : l[j]? with
  | none => rw [e] at h; cases h
  | some x => rw [e] at h; cases h; exact ⟨x, rfl, rfl⟩
theorem get_enum {l : List D} {j : Nat} {y : D} (h : (l.mapIdx fun i d => D.tup [.int i, d])[j]? = some y) : ∃ x, l[j]? = some x ∧ y = .tup [.int j, x] := by
  rw [List.getElem?_mapIdx] at h
  cases e : l[j]? with
  | none => rw [e] at h; cases h
  | some x => rw [e] at h; cases h; exact ⟨x, rfl, rfl⟩
noncomputable def fstBut : List Rw → Option Rw
  | [] => none
  | r :: rs => if r.isMark then fstBut rs else some r
structure KOk (K : PySem.W.Frag) (c : CA) : Prop where
  io : ∀ k : Kn, InsOk K (c.at k)
  mark : ∀ k, PySem.W.kitOne K (.ref (c.at k)) (.ref c.Mark) = some (match k with | .Mark => true | _ => false)
  code : ∀ k, PySem.W.kitOne K (.ref (c.at k)) (.ref c.Code) = some (match k with | .Mark | .Numbers | .Table => false | _ => true)
  nums : ∀ k, PySem.W.kitOne K (.ref (c.at k)) (.ref c.Numbers) = some (match k with | .Numbers => true | _ => false)
  tabl : ∀ k, PySem.W.kitOne K (.ref (c.at k)) (.ref c.Table) = some (match k with | .Table => true | _ => false)
  nonC : PySem.W.kitOne K (.type "NoneType") (.ref c.Code) = some false
section
end
noncomputable def optCode : Option Rw → Bool
  | some r => r.code
  | none => false
noncomputable def endsOk : List Rw → Bool
  | [] => true
  | r :: rs => (!r.goes || optCode (fstBut rs)) && (!r.isMark || (fstBut rs).isSome) && endsOk rs
section
end
structure LkOk (ps : List Pt) : Prop where
  pso : PsOk ps
  rows : ∀ p ∈ ps, ∀ r ∈ p.2, r.ok = true
  ends : ∀ p ∈ ps, endsOk p.2 = true
theorem compD_fam {β : Type} {fr : List (Option Nat)} {g : DG} {tt : DT} {te : DE} {st : Ms → Prop} {Q : List D → Ms → Prop} {δ : DSt} {M : Ms} (e f : β → D) (hst : st M) : ∀ (xs : List β) (acc : List D), acc.length + xs.length ≤ sizeLine →
    (∀ x ∈ xs, ∀ Kk : Option D → DSt → Ms → Prop, (∀ δ1, rst fr δ1 = δ → Kk (some (f x)) δ1 M) → stepD g tt te (e x) δ M Kk) → Q (acc ++ xs.map f) M → compD fr g tt te st Q (xs.map e) acc δ M
  | [], acc, _, _, q => by rw [List.map_nil, List.append_nil] at q; exact q
  | x :: xs, acc, hl, h, q => by
    rw [List.map_cons]
    unfold compD
    refine h x List.mem_cons_self _ fun δ1 e1 => ⟨hst, by simp at hl; omega, ?_⟩
    rw [e1]
    refine compD_fam e f hst xs (acc ++ [f x]) (by simp at hl ⊢; omega) (fun y hy => h y (List.mem_cons_of_mem _ hy)) ?_
    rw [List.append_assoc]
    exact q
theorem forD_fam {β : Type} {g : DG} {tb : DS} {st : Ms → Prop} {E : DEnds} (e : β → D) (Pv : List β → List β → DSt → Ms → Prop) (hst : ∀ a b δ M, Pv a b δ M → st M) : ∀ (xs pre : List β) (δ : DSt) (M : Ms), Pv pre xs δ M →
    (∀ pre x xs δ M, Pv pre (x :: xs) δ M → ∀ N : DSt → Ms → Prop, (∀ δ' M', Pv (pre ++ [x]) xs δ' M' → N δ' M') → g (e x) δ M fun δ1 M1 => tb { E with nx := N, ct := N, bk := E.nx } δ1 M1) →
    (∀ pre δ M, Pv pre [] δ M → E.nx δ M) → forD g tb st E (xs.map e) δ M
  | [], pre, δ, M, p, _, z => z pre δ M p
  | x :: xs, pre, δ, M, p, h, z => by
    rw [List.map_cons]
    unfold forD
    exact h pre x xs δ M p _ fun δ' M' p' => ⟨hst _ _ _ _ p', forD_fam e Pv hst xs _ δ' M' p' h z⟩
end FJ
set_option Elab.async false
set_option linter.all false
set_option maxRecDepth 100000
set_option maxHeartbeats 4000000
namespace K61
open PySem PySem.Spec L2 L3 FJ
noncomputable def txD : D → Str
  | .str s => s
  | .int n => nT n
  | _ => ""
noncomputable def itk : D → Bool
  | .str s => isW s
  | .int n => decide (n.natAbs < 10 ^ 10)
  | _ => false
noncomputable def Rw.kd : Rw → Str
  | .mark _ _ => "mark" | .set _ _ => "set" | .add _ _ => "add" | .take _ _ => "take" | .say _ => "say" | .ask _ => "ask" | .jump _ => "jump" | .jumpif _ _ => "jumpif" | .call _ => "call"
  | .back => "back" | .stop => "stop" | .load _ _ _ => "load" | .jumpby _ _ => "jumpby" | .alike _ _ _ => "alike" | .numbers _ => "numbers" | .table _ => "table"
noncomputable def Rw.it : Rw → List D
  | .mark w b => [.str w, .bl b] | .set b n => [.int b, .int n] | .add b c => [.int b, .int c] | .take b c => [.int b, .int c] | .say b => [.int b] | .ask b => [.int b] | .jump w => [.str w] | .jumpif b w => [.int b, .str w] | .call w => [.str w]
  | .back => [] | .stop => [] | .load b c w => [.int b, .int c, .str w] | .jumpby b w => [.int b, .str w] | .alike b w v => [.int b, .str w, .str v] | .numbers ns => ns.map .int | .table ws => ws.map .str
theorem ok_b {b : Int} (h : okB b = true) : itk (.int b) = true := by
  unfold okB at h
  rw [Bool.and_eq_true, decide_eq_true_eq, decide_eq_true_eq] at h
  exact decide_eq_true (by omega)
theorem ok_n {b : Int} (h : okN b = true) : itk (.int b) = true := by
  unfold okN at h
  rw [Bool.and_eq_true, decide_eq_true_eq, decide_eq_true_eq] at h
  exact decide_eq_true (by omega)
theorem it_ok {r : Rw} (h : r.ok = true) (hm : r.isMark = false) : ∀ d ∈ Rw.it r, itk d = true := by
  cases r <;> unfold Rw.ok at h <;> unfold Rw.it <;> first | (cases hm; done) | skip
  case numbers ns =>
    intro d hd
    obtain ⟨n, hn, rfl⟩ := List.mem_map.mp hd
    exact ok_n (List.all_eq_true.mp (b2 h) n hn)
  case table ws =>
    intro d hd
    obtain ⟨n, hn, rfl⟩ := List.mem_map.mp hd
    exact List.all_eq_true.mp (b2 h) n hn
  all_goals (intro d hd; simp only [List.mem_cons, List.not_mem_nil, or_false] at hd)
  all_goals first | (rcases hd with rfl | rfl | rfl) | (rcases hd with rfl | rfl) | subst hd | exact hd.elim
  all_goals first | exact ok_b (b1 h) | exact ok_b (b2 h) | exact ok_n (b2 h) | exact ok_b h | exact h | exact b2 h | exact ok_b (b1 (b1 h)) | exact ok_b (b2 (b1 h)) | exact b2 (b1 h)
theorem it_len {r : Rw} (h : r.ok = true) : (Rw.it r).length ≤ 60 := by
  cases r <;> unfold Rw.it
  case numbers ns => unfold Rw.ok at h; rw [List.length_map]; exact of_decide_eq_true (b2 (b1 h))
  case table ns => unfold Rw.ok at h; rw [List.length_map]; exact of_decide_eq_true (b2 (b1 h))
  all_goals exact Nat.le_of_ble_eq_true rfl
noncomputable def lineW (r : Rw) : List Str := Rw.kd r :: (Rw.it r).map txD
noncomputable def line : Rw → Str
  | .mark w b => w ++ (if b then "::" else ":")
  | r => Str.join ⟨#[32]⟩ (lineW r)
theorem tx_len {d : D} (h : itk d = true) : (txD d).length ≤ 11 ∧ 1 ≤ (txD d).length := by
  cases d <;> first | (cases h; done) | skip
  · rename_i n
    have h : n.natAbs < 10 ^ 10 := of_decide_eq_true h
    show (nT n).length ≤ 11 ∧ 1 ≤ (nT n).length
    rw [len_cps, nT_cps]
    cases n with
    | ofNat m => have := dg_len (m := m) (by simpa using h); have := List.length_pos_iff.mpr (dg_ne m); show (dg m).length ≤ 11 ∧ 1 ≤ (dg m).length; omega
    | negSucc m => have := dg_len (m := m + 1) (by simp at h; omega); show (dg (m + 1)).length + 1 ≤ 11 ∧ 1 ≤ (dg (m + 1)).length + 1; omega
  · rename_i x
    have h : isW x = true := h
    unfold isW at h
    rw [Bool.and_eq_true, Bool.and_eq_true, decide_eq_true_eq, decide_eq_true_eq] at h
    show x.length ≤ 11 ∧ 1 ≤ x.length
    omega
def okC (c : Nat) : Prop := c = 45 ∨ (48 ≤ c ∧ c ≤ 57) ∨ (97 ≤ c ∧ c ≤ 122)
theorem word_c {x : Str} (h : isW x = true) : ∀ c ∈ x.cps.toList, 97 ≤ c ∧ c ≤ 122 := fun c hc => by
  unfold isW low at h
  rw [Bool.and_eq_true] at h
  have := List.all_eq_true.mp h.2 c hc
  rw [Bool.and_eq_true, decide_eq_true_eq, decide_eq_true_eq] at this
  exact this
theorem tx_c {d : D} (h : itk d = true) : ∀ c ∈ (txD d).cps.toList, okC c := by
  cases d <;> first | (cases h; done) | skip
  · rename_i n
    show ∀ c ∈ (nT n).cps.toList, okC c
    rw [nT_cps]
    cases n with
    | ofNat m => exact fun c hc => .inr (.inl (dg_all m c hc))
    | negSucc m => exact fun c hc => (List.mem_cons.mp hc).elim .inl fun hc => .inr (.inl (dg_all (m + 1) c hc))
  · exact fun c hc => .inr (.inr (word_c h c hc))
theorem kd_c (r : Rw) : ∀ c ∈ (Rw.kd r).cps.toList, okC c := by
  have : ∀ s ∈ (["mark", "set", "add", "take", "say", "ask", "jump", "jumpif", "call", "back", "stop", "load", "jumpby", "alike", "numbers", "table"] : List Str), ∀ c ∈ s.cps.toList, 97 ≤ c ∧ c ≤ 122 := by decide +kernel
  refine fun c hc => .inr (.inr (this (Rw.kd r) ?_ c hc))
  cases r <;> simp [Rw.kd]
theorem joinOk {x : Str} {ss : List Str} (n : Nat) (h : ∀ s ∈ ss, s.length ≤ n) (hl : ss.length * (n + x.length) ≤ sizeLine) : JoinOk x ss = true := by
  have gen : ∀ (ss : List Str) (a : Nat), (∀ s ∈ ss, s.length ≤ n) → ss.foldl (fun a s => a + s.length + x.length) a ≤ a + ss.length * (n + x.length) := by
    intro ss
    induction ss with
    | nil => intro a _; simp
    | cons s ss ih =>
      intro a h
      have h1 := h s List.mem_cons_self
      have h2 := ih (a + s.length + x.length) fun s hs => h s (List.mem_cons_of_mem _ hs)
      rw [List.foldl_cons, List.length_cons, Nat.succ_mul]
      omega
  unfold JoinOk Builtin.Str.tooLong
  have := gen ss 0 h
  rw [Bool.not_eq_true', decide_eq_false_iff_not]
  show ¬ (ss.toArray.foldl (fun a s => a + s.length + x.length) 0 > sizeLine)
  rw [List.foldl_toArray]
  omega
def P_jb : GP := fun ds Q => ∃ xs : List D, ds = [.lst xs] ∧ (∀ d ∈ xs, (∃ s : Str, d = .str s ∧ s.length ≤ 11) ∨ ∃ n : Int, d = .int n ∧ n.natAbs < 10 ^ 10) ∧ xs.length ≤ 61 ∧ Q (.str (Str.join ⟨#[32]⟩ (xs.map txD)))
theorem P_jb_mono : monoP P_jb := fun ds P Q w ⟨n, h, e, l, q⟩ => ⟨n, h, e, l, w _ q⟩
theorem log_small {n : Int} (h : n.natAbs < 10 ^ 10) : n.natAbs.log2 < 1920 := by
  rcases Nat.eq_zero_or_pos n.natAbs with e | e
  · rw [e]; decide
  · exact (Nat.log2_lt (by omega)).mpr (Nat.lt_of_lt_of_le h (by decide))
theorem sp_jb : ∀ ds Q, P_jb ds Q → fnC 1 1 t_joined_by_blanks ds Q := by
  rintro ds Q ⟨xs, h, hx, hl, q⟩
  subst h
  refine ⟨rfl, rfl, _, rfl, rfl, ?_⟩
  refine compD_map (fun d => .str (txD d)) ?_ _ _ ?_ (fun y hy Kk hK => ?_) ?_
  · exact rfl
  · rw [List.length_nil, Nat.zero_add]; exact Nat.le_trans hl (by decide)
  · rcases hx y hy with ⟨s, rfl, _⟩ | ⟨n, rfl, hn⟩
    · exact hK _ rfl
    · exact ⟨log_small hn, hK _ rfl⟩
  · refine ⟨xs.map txD, by show D.lst _ = D.lst _; rw [List.nil_append, List.map_map]; rfl, joinOk 11 (fun s hs => ?_) ?_, rfl, ?_⟩
    · obtain ⟨d, hd, rfl⟩ := List.mem_map.mp hs
      rcases hx d hd with ⟨s, rfl, h⟩ | ⟨n, rfl, hn⟩
      · exact h
      · exact (tx_len (d := .int n) (decide_eq_true hn)).1
    · rw [List.length_map]
      exact Nat.le_trans (Nat.mul_le_mul_right _ hl) (by decide)
    · show Q (.str (Txt.join " " (xs.map txD)))
      unfold Txt.join
      rw [StrLaws.glued_eq_join]
      exact q
end K61
set_option Elab.async false
set_option linter.all false
set_option maxRecDepth 100000
set_option maxHeartbeats 4000000
namespace K61
open PySem PySem.Spec L2 L3 FJ
noncomputable def fl : List D → List D
  | [] => []
  | .lst ys :: r => ys ++ fl r
  | x :: r => x :: fl r
theorem fl_app : ∀ a b : List D, fl (a ++ b) = fl a ++ fl b
  | [], b => rfl
  | x :: a, b => by
    have := fl_app a b
    cases x <;> simp [fl, this]
def okI (d : D) : Prop := (∃ s : Str, d = .str s ∧ s.length ≤ 11) ∨ ∃ n : Int, d = .int n ∧ n.natAbs < 10 ^ 10
def okX (d : D) : Prop := okI d ∨ ∃ ys, d = .lst ys ∧ ∀ y ∈ ys, okI y
inductive Sh : D → Str → Prop
  | mark {w : Str} {b : Bool} : w.length ≤ 11 → Sh (.tup [.str "mark", .str w, .bl b]) (w ++ (if b then "::" else ":"))
  | row {k : Str} {xs : List D} : (k == "mark") = false → k.length ≤ 11 → (∀ d ∈ xs, okX d) → (fl xs).length ≤ 60 → Sh (.tup (.str k :: xs)) (Str.join ⟨#[32]⟩ (k :: (fl xs).map txD))
theorem forD_id {g : DG} {tb : DS} {st : Ms → Prop} {E : DEnds} (Pv : List D → List D → DSt → Ms → Prop) (hst : ∀ a b δ M, Pv a b δ M → st M) (xs : List D) (δ : DSt) (M : Ms) (h0 : Pv [] xs δ M)
    (hs : ∀ pre x xs δ M, Pv pre (x :: xs) δ M → ∀ N : DSt → Ms → Prop, (∀ δ' M', Pv (pre ++ [x]) xs δ' M' → N δ' M') → g x δ M fun δ1 M1 => tb { E with nx := N, ct := N, bk := E.nx } δ1 M1) (hn : ∀ pre δ M, Pv pre [] δ M → E.nx δ M) : forD g tb st E xs δ M := by
  have := forD_fam id Pv hst xs [] δ M h0 hs hn
  rwa [List.map_id] at this
def P_show : GP := fun ds Q => ∃ d s, Sh d s ∧ ds = [d] ∧ Q (.str s)
theorem P_show_mono : monoP P_show := fun ds P Q w ⟨d, s, h, e, q⟩ => ⟨d, s, h, e, w _ q⟩
theorem sp_show (K : PySem.W.Frag) : ∀ ds Q, P_show ds Q → fnC 3 1 (t_show_row K (bor P_jb)) ds Q := by
  rintro ds Q ⟨d, s, h, e, q⟩
  subst e
  cases h with
  | mark hw =>
    rename_i w b
    refine ⟨rfl, _, rfl, _, rfl, _, rfl, ?_⟩
    have hs : ∀ x : Str, x.length ≤ 2 → w.length + x.length ≤ sizeLine := fun x hx => Nat.le_trans (show w.length + x.length ≤ 13 by omega) (by decide)
    cases b with
    | true => exact ⟨hs _ (by decide), rfl, q⟩
    | false => exact ⟨hs _ (by decide), rfl, q⟩
  | row hk hl hx hn =>
    rename_i k xs
    refine ⟨rfl, _, at_nat (k := 0) rfl, ?_⟩
    refine (show (if (k == ("mark" : Str)) = true then _ else _) from ?_)
    rw [hk, if_neg Bool.false_ne_true]
    refine ⟨Nat.zero_le _, ?_⟩
    conv => whnf
    refine ⟨_, rfl, rfl, ?_⟩
    have hk1 : okX (.str k) := .inl (.inl ⟨k, rfl, hl⟩)
    have hall : ∀ d ∈ (.str k :: xs : List D), okX d := fun d hd => (List.mem_cons.mp hd).elim (fun z => z ▸ hk1) (hx d)
    have hfl : fl (.str k :: xs) = .str k :: fl xs := rfl
    have hlen : (fl (.str k :: xs)).length ≤ 61 := by rw [hfl, List.length_cons]; omega
    have q : Q (.str (Str.join ⟨#[32]⟩ ((fl (.str k :: xs)).map txD))) := q
    generalize (.str k :: xs : List D) = ys at hall hlen q ⊢
    refine forD_id (fun a b δ M => ys = a ++ b ∧ ∃ o, M = [some (.lst (fl a))] ∧ δ = [some (.tup ys), some (.loc 0), o]) (fun _ _ _ _ _ => rfl) ys _ _ ⟨rfl, none, rfl, rfl⟩ (fun pre x xs δ M hp N hN => ?_) (fun pre δ M hp => ?_)
    · obtain ⟨he, o, rfl, rfl⟩ := hp
      have hx := hall x (by rw [he]; simp)
      have he2 : ys = pre ++ [x] ++ xs := by rw [he, List.append_assoc]; rfl
      have hle : (fl (pre ++ [x])).length ≤ 61 := by
        rw [he2, fl_app, List.length_append] at hlen; omega
      have hf := fl_app pre [x]
      rcases hx with (⟨s, rfl, _⟩ | ⟨n, rfl, _⟩) | ⟨zs, rfl, _⟩
      · refine ⟨_, rfl, rfl, _, rfl, Nat.lt_of_lt_of_le (show (fl pre).length < 62 by rw [hf, List.length_append] at hle; omega) (by decide), hN _ _ ⟨he2, _, by rw [hf]; rfl, rfl⟩⟩
      · refine ⟨_, rfl, rfl, _, rfl, Nat.lt_of_lt_of_le (show (fl pre).length < 62 by rw [hf, List.length_append] at hle; omega) (by decide), hN _ _ ⟨he2, _, by rw [hf]; rfl, rfl⟩⟩
      · rw [hf, List.length_append] at hle
        have : (fl [.lst zs]).length = zs.length := by simp [fl]
        refine ⟨_, rfl, rfl, _, _, rfl, rfl, Nat.le_trans (show (fl pre).length + zs.length ≤ 61 by omega) (by decide), hN _ _ ⟨he2, _, by rw [hf]; simp [fl], rfl⟩⟩
    · obtain ⟨he, o, rfl, rfl⟩ := hp
      rw [List.append_nil] at he
      subst he
      have nls_fl : ∀ zs : List D, (∀ d ∈ zs, okX d) → (∀ d ∈ fl zs, okI d) := by
        intro zs
        induction zs with
        | nil => intro _ d hd; cases hd
        | cons z zs ih =>
          intro h d hd
          have ih := ih fun d hd => h d (List.mem_cons_of_mem _ hd)
          rcases h z List.mem_cons_self with (⟨s, rfl, hs⟩ | ⟨n, rfl, hn⟩) | ⟨us, rfl, hu⟩
          · rcases List.mem_cons.mp hd with rfl | hd
            · exact .inl ⟨s, rfl, hs⟩
            · exact ih d hd
          · rcases List.mem_cons.mp hd with rfl | hd
            · exact .inr ⟨n, rfl, hn⟩
            · exact ih d hd
          · rcases List.mem_append.mp hd with hd | hd
            · exact hu d hd
            · exact ih d hd
      have hi := nls_fl _ hall
      have dv0 : ∀ d : D, okI d → dv [some (.lst (fl ys))] d = d ∧ nl d = true := fun d hd => by
        rcases hd with ⟨s, rfl, _⟩ | ⟨n, rfl, _⟩ <;> exact ⟨rfl, rfl⟩
      have e1 : dvs [some (.lst (fl ys))] [.loc 0] = [.lst (fl ys)] := by unfold dvs dvs dv; rfl
      refine (show bor P_jb [.loc 0] [some (.lst (fl ys))] _ from ?_)
      refine ⟨?_, fl ys, e1, fun d hd => hi d hd, hlen, rfl, rfl, q⟩
      rw [e1]
      show (nls (fl ys) && true) = true
      rw [nls_all, List.all_eq_true.mpr fun d hd => (dv0 d (hi d hd)).2]; rfl
end K61
set_option Elab.async false
set_option linter.all false
set_option maxRecDepth 100000
set_option maxHeartbeats 4000000
namespace K61
open PySem PySem.Spec L2 L3 FJ
noncomputable def cat (k : Str) (zs : List D) : Str := zs.foldl (fun t d => t ++ ⟨#[32]⟩ ++ txD d) k
theorem cat_join : ∀ (zs : List D) (k : Str), cat k zs = Str.join ⟨#[32]⟩ (k :: zs.map txD)
  | [], k => rfl
  | d :: zs, k => by
    show cat (k ++ ⟨#[32]⟩ ++ txD d) zs = k ++ ⟨#[32]⟩ ++ Str.join ⟨#[32]⟩ (txD d :: zs.map txD)
    rw [cat_join zs]
    cases zs with
    | nil => rfl
    | cons e zs =>
      show k ++ ⟨#[32]⟩ ++ txD d ++ ⟨#[32]⟩ ++ Str.join ⟨#[32]⟩ (txD e :: zs.map txD) = k ++ ⟨#[32]⟩ ++ (txD d ++ ⟨#[32]⟩ ++ Str.join ⟨#[32]⟩ (txD e :: zs.map txD))
      rw [Str.append_assoc (k ++ ⟨#[32]⟩ ++ txD d), Str.append_assoc (k ++ ⟨#[32]⟩) (txD d), Str.append_assoc (txD d)]
theorem okI_len {d : D} (h : okI d) : (txD d).length ≤ 11 := by
  rcases h with ⟨s, rfl, h⟩ | ⟨n, rfl, h⟩
  · exact h
  · exact (tx_len (d := .int n) (decide_eq_true h)).1
theorem cat_len : ∀ (zs : List D) (k : Str), (∀ d ∈ zs, okI d) → (cat k zs).length ≤ k.length + 12 * zs.length
  | [], k, _ => Nat.le_refl _
  | d :: zs, k, h => by
    have h1 := okI_len (h d List.mem_cons_self)
    have h2 := cat_len zs (k ++ ⟨#[32]⟩ ++ txD d) fun d hd => h d (List.mem_cons_of_mem _ hd)
    have l1 : (k ++ ⟨#[32]⟩ ++ txD d).length = k.length + 1 + (txD d).length := by
      rw [PySem.Str.length_append, PySem.Str.length_append]; rfl
    show (cat (k ++ ⟨#[32]⟩ ++ txD d) zs).length ≤ _
    rw [List.length_cons]
    omega
theorem cat_snoc (k : Str) (a : List D) (d : D) : cat k (a ++ [d]) = cat k a ++ ⟨#[32]⟩ ++ txD d := by
  unfold cat
  rw [List.foldl_append]; rfl
theorem ll_loop {Q : DK} {st : Ms → Prop} {d0 d2 : Option D} {k : Str} {zs : List D} {N : DSt → Ms → Prop} {B C : DSt → Ms → Prop} {o : Option D} (hst : st []) (hz : ∀ d ∈ zs, okI d) (hk : k.length ≤ 11) (hl : zs.length ≤ 60) (q : ∀ o, N [d0, some (.str (cat k zs)), d2, o] []) :
    forD (dgName 3) (dSet 1 (dOp gPlus (dOp gPlus (dVar 1) (dC (.str " "))) (dCB gStr (dCons (dVar 3) dNil)))) st ⟨N, Q, B, C⟩ zs [d0, some (.str k), d2, o] [] := by
  refine forD_id (fun a b δ M => zs = a ++ b ∧ M = [] ∧ ∃ o, δ = [d0, some (.str (cat k a)), d2, o]) (fun _ _ _ _ ⟨_, e, _⟩ => by rw [e]; exact hst) zs _ _ ⟨rfl, rfl, o, rfl⟩ (fun pre x xs δ M hp N hN => ?_) (fun pre δ M hp => ?_)
  · obtain ⟨he, rfl, o, rfl⟩ := hp
    have hx := hz x (by rw [he]; simp)
    have he2 : zs = pre ++ [x] ++ xs := by rw [he, List.append_assoc]; rfl
    have l1 := cat_len pre k fun d hd => hz d (by rw [he]; exact List.mem_append_left _ hd)
    have l2 : pre.length ≤ 60 := by rw [he, List.length_append] at hl; omega
    have l3 := okI_len hx
    have z1 : sizeLine = 16777216 := rfl
    have z2 : (" " : Str).length = 1 := rfl
    have z3 : (cat k pre ++ " ").length = (cat k pre).length + 1 := by rw [PySem.Str.length_append]; rfl
    have fin : N [d0, some (.str (cat k pre ++ " " ++ txD x)), d2, some x] [] := hN _ _ ⟨he2, rfl, _, by rw [cat_snoc]; rfl⟩
    rcases hx with ⟨s, rfl, h⟩ | ⟨n, rfl, h⟩
    · exact ⟨by omega, by rw [z3]; have : (txD (.str s)).length = s.length := rfl; omega, fin⟩
    · exact ⟨by omega, log_small h, by rw [z3]; have l3 : (Str.ofString (toString n)).length ≤ 11 := l3; omega, fin⟩
  · obtain ⟨he, rfl, o, rfl⟩ := hp
    rw [List.append_nil] at he
    rw [← he]
    exact q o
def P_line : GP := fun ds Q => ∃ r : Rw, r.ok = true ∧ ds = [r.d] ∧ Q (.str (line r))
theorem P_line_mono : monoP P_line := fun ds P Q w ⟨d, s, h, q⟩ => ⟨d, s, h, w _ q⟩
theorem itk_I {d : D} (h : itk d = true) : okI d := by
  cases d <;> first | (cases h; done) | skip
  · exact .inr ⟨_, rfl, of_decide_eq_true h⟩
  · exact .inl ⟨_, rfl, (tx_len (d := .str _) h).1⟩
theorem line_eq {r : Rw} (hm : r.isMark = false) : line r = Str.join ⟨#[32]⟩ (lineW r) := by
  cases r <;> first | (cases hm; done) | rfl
theorem sp_line : ∀ ds Q, P_line ds Q → fnC 4 1 t_law_line ds Q := by
  rintro ds Q ⟨r, h, e, q⟩
  subst e
  refine ⟨rfl, ?_⟩
  cases hm : r.isMark with
  | true =>
    cases r <;> first | (cases hm; done) | skip
    rename_i w b
    have hw : w.length ≤ 8 := by
      have h : isW w = true := h
      unfold isW at h
      rw [Bool.and_eq_true, Bool.and_eq_true, decide_eq_true_eq, decide_eq_true_eq] at h
      exact h.1.2
    have hs : ∀ x : Str, x.length ≤ 2 → w.length + x.length ≤ sizeLine := fun x hx => Nat.le_trans (show w.length + x.length ≤ 13 by omega) (by decide)
    refine ⟨_, rfl, _, rfl, Nat.le_of_ble_eq_true rfl, _, rfl, ?_⟩
    cases b with
    | true => exact ⟨_, rfl, hs _ (by decide), rfl, q⟩
    | false => exact ⟨_, rfl, hs _ (by decide), rfl, q⟩
  | false =>
    have hz : ∀ d ∈ Rw.it r, okI d := fun d hd => itk_I (it_ok h hm d hd)
    have hl := it_len h
    have qc : Q (.str (cat (Rw.kd r) (Rw.it r))) := by rw [cat_join]; rw [line_eq hm] at q; exact q
    cases r <;> first | (cases hm; done) | skip
    case numbers ns =>
      refine ⟨_, rfl, _, rfl, fun h => Nat.one_ne_zero h.1, _, rfl, Nat.le_of_ble_eq_true rfl, _, rfl, _, rfl, _, rfl, rfl, ?_⟩
      exact ll_loop rfl hz (by decide) hl fun o => ⟨rfl, qc⟩
    case table ns =>
      refine ⟨_, rfl, _, rfl, fun h => Nat.one_ne_zero h.1, _, rfl, Nat.le_of_ble_eq_true rfl, _, rfl, _, rfl, _, rfl, rfl, ?_⟩
      exact ll_loop rfl hz (by decide) hl fun o => ⟨rfl, qc⟩
    all_goals
      refine ⟨_, rfl, _, rfl, fun h => Nat.one_ne_zero h.1, _, rfl, Nat.le_of_ble_eq_true rfl, _, rfl, _, rfl, rfl, ?_⟩
      exact ll_loop rfl hz (by decide) hl fun o => ⟨rfl, qc⟩
end K61
set_option Elab.async false
set_option linter.all false
set_option maxRecDepth 100000
set_option maxHeartbeats 4000000
namespace K61
open PySem PySem.Spec L2 L3 FJ
noncomputable def lns (p : Pt) : List Str := ("part " ++ p.1) :: p.2.map line
noncomputable def lnsOf (ps : List Pt) : List Str := ps.flatMap lns
noncomputable def text (ps : List Pt) : Str := Str.join ⟨#[10]⟩ (lnsOf ps)
structure PsT (ps : List Pt) : Prop where
  hi : ps.length ≤ 4
  lo : 1 ≤ ps.length
  w : ∀ p ∈ ps, isW p.1 = true
  n : ∀ p ∈ ps, 1 ≤ p.2.length ∧ p.2.length ≤ 100
  ok : ∀ p ∈ ps, ∀ r ∈ p.2, r.ok = true
theorem isW_len {w : Str} (h : isW w = true) : w.length ≤ 8 := by
  unfold isW at h
  rw [Bool.and_eq_true, Bool.and_eq_true, decide_eq_true_eq, decide_eq_true_eq] at h
  exact h.1.2
theorem fl_it {r : Rw} (hm : r.isMark = false) : ∃ xs, r.d = .tup (.str (Rw.kd r) :: xs) ∧ fl xs = Rw.it r ∧ ((Rw.kd r) == ("mark" : Str)) = false ∧ (Rw.kd r).length ≤ 11 := by
  cases r <;> first | (cases hm; done) | skip
  case numbers ns => exact ⟨_, rfl, List.append_nil _, rfl, Nat.le_of_ble_eq_true rfl⟩
  case table ns => exact ⟨_, rfl, List.append_nil _, rfl, Nat.le_of_ble_eq_true rfl⟩
  all_goals exact ⟨_, rfl, rfl, rfl, Nat.le_of_ble_eq_true rfl⟩
theorem sh_row {r : Rw} (h : r.ok = true) : Sh r.d (line r) := by
  cases hm : r.isMark with
  | true =>
    cases r <;> first | (cases hm; done) | skip
    exact .mark (Nat.le_trans (isW_len h) (by decide))
  | false =>
    obtain ⟨xs, e, f, k1, k2⟩ := fl_it hm
    have hz : ∀ d ∈ Rw.it r, okI d := fun d hd => itk_I (it_ok h hm d hd)
    have hl := it_len h
    rw [line_eq hm, e]
    unfold lineW
    rw [← f] at hz hl ⊢
    refine .row k1 k2 (fun d hd => ?_) hl
    cases r <;> first | (cases hm; done) | skip
    case numbers ns => cases e; rw [List.mem_singleton] at hd; subst hd; exact .inr ⟨_, rfl, fun y hy => hz y (List.mem_append_left _ hy)⟩
    case table ns => cases e; rw [List.mem_singleton] at hd; subst hd; exact .inr ⟨_, rfl, fun y hy => hz y (List.mem_append_left _ hy)⟩
    all_goals (cases e; exact .inl (hz d hd))
theorem join_le (sep : Str) : ∀ (ss : List Str) (n : Nat), (∀ s ∈ ss, s.length ≤ n) → (Str.join sep ss).length ≤ ss.length * (n + sep.length)
  | [], n, _ => by show 0 ≤ _; omega
  | [x], n, h => by have := h x (by simp); show x.length ≤ 1 * _; omega
  | x :: y :: r, n, h => by
    have h1 := h x (by simp)
    have h2 := join_le sep (y :: r) n fun s hs => h s (List.mem_cons_of_mem _ hs)
    show (x ++ sep ++ Str.join sep (y :: r)).length ≤ _
    rw [PySem.Str.length_append, PySem.Str.length_append, List.length_cons, Nat.succ_mul]
    omega
theorem line_len {r : Rw} (h : r.ok = true) : (line r).length ≤ 1000 := by
  cases hm : r.isMark with
  | true =>
    cases r <;> first | (cases hm; done) | skip
    rename_i w b
    have := isW_len h
    show (w ++ _).length ≤ 1000
    rw [PySem.Str.length_append]
    cases b
    · show w.length + 1 ≤ 1000; omega
    · show w.length + 2 ≤ 1000; omega
  | false =>
    rw [line_eq hm]
    have hl := it_len h
    obtain ⟨xs, e, f, k1, k2⟩ := fl_it hm
    have := join_le ⟨#[32]⟩ (lineW r) 11 fun s hs => by
      rcases List.mem_cons.mp hs with rfl | hs
      · exact k2
      · obtain ⟨d, hd, rfl⟩ := List.mem_map.mp hs
        exact okI_len (itk_I (it_ok h hm d hd))
    have l : (lineW r).length ≤ 61 := by unfold lineW; rw [List.length_cons, List.length_map]; omega
    have z : (⟨#[32]⟩ : Str).length = 1 := rfl
    rw [z] at this
    have := Nat.mul_le_mul_right 12 l
    omega
theorem lns_len {ps : List Pt} (h : PsT ps) : ∀ s ∈ lnsOf ps, s.length ≤ 1000 := fun s hs => by
  obtain ⟨p, hp, hs⟩ := List.mem_flatMap.mp hs
  rcases List.mem_cons.mp hs with rfl | hs
  · rw [PySem.Str.length_append]
    have := isW_len (h.w p hp)
    show 5 + p.1.length ≤ 1000
    omega
  · obtain ⟨r, hr, rfl⟩ := List.mem_map.mp hs
    exact line_len (h.ok p hp r hr)
theorem lns_many : ∀ {ps : List Pt}, (∀ p ∈ ps, p.2.length ≤ 100) → (lnsOf ps).length ≤ 101 * ps.length
  | [], _ => Nat.le_refl _
  | p :: ps, h => by
    have h1 := h p List.mem_cons_self
    have h2 := lns_many fun p hp => h p (List.mem_cons_of_mem _ hp)
    show (lns p ++ lnsOf ps).length ≤ _
    have : (lns p).length = p.2.length + 1 := by unfold lns; rw [List.length_cons, List.length_map]
    rw [List.length_append, List.length_cons, this]
    omega
theorem lnsOf_app (a b : List Pt) : lnsOf (a ++ b) = lnsOf a ++ lnsOf b := List.flatMap_append
theorem PsT.many {ps : List Pt} (h : PsT ps) : (lnsOf ps).length ≤ 404 := by
  have := lns_many (ps := ps) fun p hp => (h.n p hp).2
  have := h.hi
  omega
theorem PsT.join {ps : List Pt} (h : PsT ps) : JoinOk "\n" (lnsOf ps) = true := joinOk 1000 (lns_len h) (Nat.le_trans (Nat.mul_le_mul_right _ h.many) (by decide))
def P_shp : GP := fun ds Q => ∃ ps : List Pt, PsT ps ∧ ds = [.lst (ps.map ptD)] ∧ Q (.str (text ps))
theorem P_shp_mono : monoP P_shp := fun ds P Q w ⟨d, s, h, q⟩ => ⟨d, s, h, w _ q⟩
theorem sp_shp : ∀ ds Q, P_shp ds Q → fnC 4 1 (t_show_parts (cl P_show)) ds Q := by
  rintro ds Q ⟨ps, h, e, q⟩
  subst e
  have hm := h.many
  refine ⟨rfl, Nat.zero_le _, _, rfl, rfl, ?_⟩
  refine forD_fam ptD (fun a b δ M => ps = a ++ b ∧ M = [some (.lst ((lnsOf a).map .str))] ∧ ∃ o1 o2, δ = [some (.lst (ps.map ptD)), some (.loc 0), o1, o2]) (fun _ _ _ _ _ => rfl) ps [] _ _ ⟨rfl, rfl, none, none, rfl⟩ (fun pre p xs δ M hp N hN => ?_) (fun pre δ M hp => ?_)
  · obtain ⟨he, rfl, o1, o2, rfl⟩ := hp
    have hp : p ∈ ps := by rw [he]; simp
    have he2 : ps = pre ++ [p] ++ xs := by rw [he, List.append_assoc]; rfl
    have hl : (lnsOf pre).length + (p.2.length + 1) ≤ 404 := by
      rw [he2, lnsOf_app, lnsOf_app, List.length_append, List.length_append] at hm
      have : (lnsOf [p]).length = p.2.length + 1 := by show (lns p ++ []).length = _; rw [List.append_nil]; unfold lns; rw [List.length_cons, List.length_map]
      omega
    have hw := isW_len (h.w p hp)
    have z5 : ("part " : Str).length = 5 := rfl
    refine ⟨rfl, rfl, rfl, Nat.le_trans (show ("part " : Str).length + p.1.length ≤ 100 by omega) (by decide), _, rfl, by rw [List.length_map]; exact Nat.lt_of_lt_of_le (show (lnsOf pre).length < 405 by omega) (by decide), ?_⟩
    refine ⟨rfl, _, rfl, rfl, ?_⟩
    refine compD_fam Rw.d (fun r => .str (line r)) ?_ p.2 [] ?_ (fun r hr Kk hK => ?_) ?_
    · exact rfl
    · rw [List.length_nil, Nat.zero_add]; exact Nat.le_trans (show p.2.length ≤ 404 by omega) (by decide)
    · exact ⟨by show (nl r.d && true) = true; rw [r.nld]; rfl, _, _, sh_row (h.ok p hp r hr), rfl, hK _ rfl⟩
    · refine ⟨_, _, rfl, rfl, ?_, hN _ _ ⟨he2, ?_, _, _, rfl⟩⟩
      · simp only [List.length_append, List.length_map, List.nil_append, List.length_singleton]
        exact Nat.le_trans (show (lnsOf pre).length + 1 + p.2.length ≤ 404 by omega) (by decide)
      · rw [lnsOf_app, List.map_append]
        show _ = [some (OD.lst ((lnsOf pre).map D.str ++ (lns p ++ []).map D.str))]
        rw [List.append_nil]
        unfold lns
        rw [List.map_cons, List.map_map, List.nil_append, List.append_assoc]; rfl
  · obtain ⟨he, rfl, o1, o2, rfl⟩ := hp
    rw [List.append_nil] at he
    subst he
    refine ⟨rfl, lnsOf ps, rfl, h.join, rfl, ?_⟩
    show Q (.str (Txt.join "\n" (lnsOf ps)))
    unfold Txt.join
    rw [StrLaws.glued_eq_join]
    exact q
theorem sp_ltx : ∀ ds Q, P_shp ds Q → fnC 4 1 (t_law_text (cl P_line)) ds Q := by
  rintro ds Q ⟨ps, h, e, q⟩
  subst e
  have hm := h.many
  refine ⟨rfl, Nat.zero_le _, _, rfl, rfl, ?_⟩
  refine forD_fam ptD (fun a b δ M => ps = a ++ b ∧ M = [] ∧ ∃ o1 o2, δ = [some (.lst (ps.map ptD)), some (.lst ((lnsOf a).map .str)), o1, o2]) (fun _ _ _ _ _ => rfl) ps [] _ _ ⟨rfl, rfl, none, none, rfl⟩ (fun pre p xs δ M hp N hN => ?_) (fun pre δ M hp => ?_)
  · obtain ⟨he, rfl, o1, o2, rfl⟩ := hp
    have hp : p ∈ ps := by rw [he]; simp
    have he2 : ps = pre ++ [p] ++ xs := by rw [he, List.append_assoc]; rfl
    have hl : (lnsOf pre).length + (p.2.length + 1) ≤ 404 := by
      rw [he2, lnsOf_app, lnsOf_app, List.length_append, List.length_append] at hm
      have : (lnsOf [p]).length = p.2.length + 1 := by show (lns p ++ []).length = _; rw [List.append_nil]; unfold lns; rw [List.length_cons, List.length_map]
      omega
    have hw := isW_len (h.w p hp)
    have z5 : ("part " : Str).length = 5 := rfl
    refine ⟨rfl, rfl, Nat.le_trans (show ("part " : Str).length + p.1.length ≤ 100 by omega) (by decide), Nat.le_of_ble_eq_true rfl, ?_, _, rfl, rfl, ?_⟩
    · rw [List.length_map]; exact Nat.le_trans (show (lnsOf pre).length + 1 ≤ 404 by omega) (by decide)
    refine compD_fam Rw.d (fun r => .str (line r)) ?_ p.2 [] ?_ (fun r hr Kk hK => ?_) ?_
    · exact rfl
    · rw [List.length_nil, Nat.zero_add]; exact Nat.le_trans (show p.2.length ≤ 404 by omega) (by decide)
    · exact ⟨by show (nl r.d && true) = true; rw [r.nld]; rfl, r, h.ok p hp r hr, rfl, hK _ rfl⟩
    · refine ⟨?_, hN _ _ ⟨he2, rfl, some (.str p.1), some (.lst (p.2.map Rw.d)), ?_⟩⟩
      · simp only [List.length_append, List.length_map, List.nil_append, List.length_singleton]
        exact Nat.le_trans (show (lnsOf pre).length + 1 + p.2.length ≤ 404 by omega) (by decide)
      · rw [lnsOf_app, List.map_append]
        show _ = [some _, some (D.lst ((lnsOf pre).map D.str ++ (lns p ++ []).map D.str)), _, _]
        rw [List.append_nil]
        unfold lns
        rw [List.map_cons, List.map_map, List.nil_append, List.append_assoc]; rfl
  · obtain ⟨he, rfl, o1, o2, rfl⟩ := hp
    rw [List.append_nil] at he
    subst he
    refine ⟨rfl, lnsOf ps, rfl, h.join, rfl, ?_⟩
    show Q (.str (Txt.join "\n" (lnsOf ps)))
    unfold Txt.join
    rw [StrLaws.glued_eq_join]
    exact q
end K61
set_option Elab.async false
set_option linter.all false
set_option maxRecDepth 100000
set_option maxHeartbeats 4000000
namespace K61
open PySem PySem.Spec L2 L3 FJ
theorem ew_iff (x y : Str) : Txt.endswith x y = true ↔ ∃ a, x.cps.toList = a ++ y.cps.toList := by
  have lx := len_cps x
  have ly := len_cps y
  unfold Txt.endswith Builtin.Str.subAt
  rw [Bool.and_eq_true, decide_eq_true_eq, beq_iff_eq]
  constructor
  · rintro ⟨h, e⟩
    refine ⟨x.cps.toList.take (x.length - y.length), ?_⟩
    have e := congrArg Array.toList e
    rw [Array.toList_extract, List.extract_eq_take_drop] at e
    rw [List.take_of_length_le (by rw [List.length_drop]; omega)] at e
    rw [← e, List.take_append_drop]
  · rintro ⟨a, e⟩
    have l : x.cps.toList.length = a.length + y.cps.toList.length := by rw [e, List.length_append]
    refine ⟨by omega, ?_⟩
    apply Array.toList_inj.mp
    rw [Array.toList_extract, List.extract_eq_take_drop, e, show x.length - y.length = a.length by omega, List.drop_left, List.take_of_length_le (by omega)]
theorem mem_jl {s : Nat} : ∀ {l : List (List Nat)} {c : Nat}, c ∈ jl s l → c = s ∨ ∃ x ∈ l, c ∈ x
  | [], c, h => by cases h
  | [x], c, h => .inr ⟨x, by simp, h⟩
  | x :: y :: r, c, h => by
    rcases List.mem_append.mp (show c ∈ x ++ s :: jl s (y :: r) from h) with h | h
    · exact .inr ⟨x, by simp, h⟩
    · rcases List.mem_cons.mp h with h | h
      · exact .inl h
      · rcases mem_jl h with h | ⟨z, h1, h2⟩
        · exact .inl h
        · exact .inr ⟨z, List.mem_cons_of_mem _ h1, h2⟩
theorem lineW_c {r : Rw} (h : r.ok = true) (hm : r.isMark = false) : ∀ s ∈ lineW r, ∀ c ∈ s.cps.toList, okC c := fun s hs c hc => by
  rcases List.mem_cons.mp hs with rfl | hs
  · exact kd_c r c hc
  · obtain ⟨d, hd, rfl⟩ := List.mem_map.mp hs
    exact tx_c (it_ok h hm d hd) c hc
theorem join_c {s : Nat} {ss : List Str} {c : Nat} (h : c ∈ (Str.join ⟨#[s]⟩ ss).cps.toList) : c = s ∨ ∃ x ∈ ss, c ∈ x.cps.toList := by
  rw [cps_join] at h
  rcases mem_jl h with h | ⟨x, h1, h2⟩
  · exact .inl h
  · obtain ⟨y, hy, rfl⟩ := List.mem_map.mp h1
    exact .inr ⟨y, hy, h2⟩
theorem line_c {r : Rw} (h : r.ok = true) (hm : r.isMark = false) : ∀ c ∈ (line r).cps.toList, okC c ∨ c = 32 := fun c hc => by
  rw [line_eq hm] at hc
  rcases join_c hc with h' | ⟨x, h1, h2⟩
  · exact .inr h'
  · exact .inl (lineW_c h hm x h1 c h2)
theorem okC_not {c : Nat} (h : okC c) : c ≠ 32 ∧ c ≠ 10 ∧ c ≠ 58 := by unfold okC at h; omega
theorem split_line {r : Rw} (h : r.ok = true) (hm : r.isMark = false) : Txt.split (line r) ⟨#[32]⟩ = lineW r := by
  rw [line_eq hm]
  exact split_join (by unfold lineW; simp) fun s hs hc => (okC_not (lineW_c h hm s hs 32 hc)).1 rfl
theorem no_colon {x y : Str} (h : ∀ c ∈ x.cps.toList, c ≠ 58) (hy : y.cps.toList.getLast? = some 58) : Txt.endswith x y = false := by
  rw [Bool.eq_false_iff]
  intro z
  obtain ⟨a, e⟩ := (ew_iff x y).mp z
  have : 58 ∈ y.cps.toList := List.mem_of_getLast? hy
  exact h 58 (by rw [e]; exact List.mem_append_right _ this) rfl
theorem pn {n : Int} {M : Ms} {Q : DK} (h : n.natAbs < 10 ^ 10) (q : Q (.int n) M) : cl P_rn [.str (nT n)] M Q := ⟨rfl, n, h, rfl, q⟩
def P_rin : GP := fun ds Q => (∃ r : Rw, r.ok = true ∧ ds = [.str (line r)] ∧ Q r.d) ∨ ∃ w : Str, isW w = true ∧ ds = [.str ("part " ++ w)] ∧ Q .non
theorem P_rin_mono : monoP P_rin := fun ds P Q w h => h.elim (fun ⟨r, a, b, q⟩ => .inl ⟨r, a, b, w _ q⟩) fun ⟨r, a, b, q⟩ => .inr ⟨r, a, b, w _ q⟩
theorem cut1 {xs : List D} {d : D} : cutD (d :: xs) (some 1) none = xs := by
  unfold cutD
  have e : HT.sIx (d :: xs).length 0 (some 1) = 1 := by
    rw [show (some (1 : Int)) = some ((1 : Nat) : Int) from rfl, HT.sIx_nat, List.length_cons]; omega
  rw [e, HT.sIx_none, List.drop_succ_cons, List.drop_zero, List.take_of_length_le (by rw [List.length_cons]; omega)]
def riT (g : GN) : DS := (dSeq (dIfS (dTest (dOp gEq (dVar 2) (dC (.str "numbers")))) (dRet (dTup (dCons (dVar 2) (dCons (dNew (fComp [none] (iAnyD (dVar 3)) (dgName 0) dYes (dCB g (dCons (dVar 0) dNil)))) dNil)))) dNext)
  (dSeq (dIfS (dTest (dOp gEq (dVar 2) (dC (.str "table")))) (dRet (dTup (dCons (dVar 2) (dCons (dVar 3) dNil)))) dNext)
  (dSeq (dSet 4 (dGetTab rowsF (dCons (dVar 2) (dCons (dTup dNil) dNil))))
  (dSeq (dIfS (dTest (dOp gNe (dCB gLen (dCons (dVar 3) dNil)) (dCB gLen (dCons (dVar 4) dNil)))) (dRet (dC .non)) dNext)
  (dRet (dOp gPlus (dTup (dCons (dVar 2) dNil)) (dCB gTuple (dCons (dNew (fComp [none, none] (iZipD (dCons (dVar 4) (dCons (dVar 3) dNil))) (dgTup 2 (dgCons (dgName 0) (dgCons (dgName 1) dgNil))) dYes (dIf (dTest (dOp gEq (dVar 0) (dC (.str "word")))) (dVar 1) (dCB g (dCons (dVar 1) dNil))))) dNil))))))))
abbrev fE (Q : D → Prop) : DEnds := ⟨fun _ _ => Q .non, fun d M' => nl (fz M' d) = true ∧ Q (fz M' d), fun _ _ => False, fun _ _ => False⟩
theorem ri_tail {g : GN} (pn : ∀ {n : Int} {M : Ms} {Q : DK}, n.natAbs < 10 ^ 10 → Q (.int n) M → g [.str (nT n)] M Q) {r : Rw} (h : r.ok = true) (hm : r.isMark = false) {d0 d1 : Option D} {Q : D → Prop} (q : Q r.d) :
    riT g (fE Q) [d0, d1, some (.str (Rw.kd r)), some (.lst (((Rw.it r).map txD).map .str)), none] [] := by
  have hb : ∀ {b : Int}, okB b = true → b.natAbs < 10 ^ 10 := fun h => of_decide_eq_true (ok_b h)
  have hn : ∀ {b : Int}, okN b = true → b.natAbs < 10 ^ 10 := fun h => of_decide_eq_true (ok_n h)
  have L : ∀ {a b : Nat}, Nat.ble a b = true → a ≤ b := Nat.le_of_ble_eq_true
  have hl := it_len h
  cases r <;> first | (cases hm; done) | skip
  case numbers ns =>
    have e : ((Rw.it (.numbers ns)).map txD).map D.str = ns.map fun n => .str (nT n) := by
      show ((ns.map D.int).map txD).map D.str = _
      rw [List.map_map, List.map_map]; rfl
    have hl : ns.length ≤ 60 := by rw [← List.length_map (f := D.int)]; exact hl
    have ho : ∀ n ∈ ns, okN n = true := List.all_eq_true.mp (b2 (show (_ && _) = true from h))
    rw [e]
    refine ⟨_, rfl, rfl, ?_⟩
    refine compD_fam (fun n : Int => D.str (nT n)) (fun n => .int n) ?_ ns [] ?_ (fun n hn' Kk hK => ?_) ?_
    · exact rfl
    · rw [List.length_nil, Nat.zero_add]; exact Nat.le_trans hl (by decide)
    · exact pn (hn (ho n hn')) (hK _ rfl)
    · refine ⟨L rfl, ?_, q⟩
      show (true && (nls ([] ++ ns.map D.int) && true)) = true
      rw [List.nil_append, nls_map fun _ => rfl]; rfl
  case table ns =>
    have e : ((Rw.it (.table ns)).map txD).map D.str = ns.map .str := by
      show ((ns.map D.str).map txD).map D.str = _
      rw [List.map_map, List.map_map]; rfl
    rw [e]
    refine ⟨L rfl, ?_, q⟩
    show (true && (nls (ns.map D.str) && true)) = true
    rw [nls_map fun _ => rfl]; rfl
  all_goals refine ⟨Nat.zero_le _, _, _, rfl, _, rfl, _, rfl, L rfl, _, _, rfl, rfl, ⟨rfl, rfl⟩, ?_⟩
  case set b n => exact ⟨rfl, rfl, pn (hb (b1 h)) ⟨⟨rfl, rfl⟩, L rfl, rfl, rfl, pn (hn (b2 h)) ⟨⟨rfl, rfl⟩, L rfl, List.cons_ne_nil _ _, L rfl, rfl, q⟩⟩⟩
  case add b n => exact ⟨rfl, rfl, pn (hb (b1 h)) ⟨⟨rfl, rfl⟩, L rfl, rfl, rfl, pn (hb (b2 h)) ⟨⟨rfl, rfl⟩, L rfl, List.cons_ne_nil _ _, L rfl, rfl, q⟩⟩⟩
  case take b n => exact ⟨rfl, rfl, pn (hb (b1 h)) ⟨⟨rfl, rfl⟩, L rfl, rfl, rfl, pn (hb (b2 h)) ⟨⟨rfl, rfl⟩, L rfl, List.cons_ne_nil _ _, L rfl, rfl, q⟩⟩⟩
  case say b => exact ⟨rfl, rfl, pn (hb h) ⟨⟨rfl, rfl⟩, L rfl, List.cons_ne_nil _ _, L rfl, rfl, q⟩⟩
  case ask b => exact ⟨rfl, rfl, pn (hb h) ⟨⟨rfl, rfl⟩, L rfl, List.cons_ne_nil _ _, L rfl, rfl, q⟩⟩
  case jump w => exact ⟨rfl, rfl, ⟨rfl, rfl⟩, L rfl, List.cons_ne_nil _ _, L rfl, rfl, q⟩
  case jumpif b w => exact ⟨rfl, rfl, pn (hb (b1 h)) ⟨⟨rfl, rfl⟩, L rfl, rfl, rfl, ⟨rfl, rfl⟩, L rfl, List.cons_ne_nil _ _, L rfl, rfl, q⟩⟩
  case call w => exact ⟨rfl, rfl, ⟨rfl, rfl⟩, L rfl, List.cons_ne_nil _ _, L rfl, rfl, q⟩
  case back => exact ⟨List.cons_ne_nil _ _, L rfl, rfl, q⟩
  case stop => exact ⟨List.cons_ne_nil _ _, L rfl, rfl, q⟩
  case load b c w => exact ⟨rfl, rfl, pn (hb (b1 (b1 h))) ⟨⟨rfl, rfl⟩, L rfl, rfl, rfl, pn (hb (b2 (b1 h))) ⟨⟨rfl, rfl⟩, L rfl, rfl, rfl, ⟨rfl, rfl⟩, L rfl, List.cons_ne_nil _ _, L rfl, rfl, q⟩⟩⟩
  case jumpby b w => exact ⟨rfl, rfl, pn (hb (b1 h)) ⟨⟨rfl, rfl⟩, L rfl, rfl, rfl, ⟨rfl, rfl⟩, L rfl, List.cons_ne_nil _ _, L rfl, rfl, q⟩⟩
  case alike b w v => exact ⟨rfl, rfl, pn (hb (b1 (b1 h))) ⟨⟨rfl, rfl⟩, L rfl, rfl, rfl, ⟨rfl, rfl⟩, L rfl, rfl, rfl, ⟨rfl, rfl⟩, L rfl, List.cons_ne_nil _ _, L rfl, rfl, q⟩⟩
theorem part_eq (w : Str) : Str.join ⟨#[32]⟩ ["part", w] = "part " ++ w := by
  show "part" ++ ⟨#[32]⟩ ++ w = _
  rw [show ("part" ++ ⟨#[32]⟩ : Str) = "part " by decide +kernel]
theorem word_ok {w : Str} (h : isW w = true) : ∀ c ∈ w.cps.toList, okC c := fun c hc => .inr (.inr (word_c h c hc))
theorem part_ok {w : Str} (h : isW w = true) : ∀ s ∈ (["part", w] : List Str), ∀ c ∈ s.cps.toList, okC c := fun s hs c hc => by
  rcases List.mem_cons.mp hs with rfl | hs
  · have : ∀ c ∈ ("part" : Str).cps.toList, 97 ≤ c ∧ c ≤ 122 := by decide +kernel
    exact .inr (.inr (this c hc))
  · rw [List.mem_singleton.mp hs] at hc
    exact word_ok h c hc
theorem split_part {w : Str} (h : isW w = true) : Txt.split ("part " ++ w) ⟨#[32]⟩ = [("part" : Str), w] := by
  rw [← part_eq]
  exact split_join (by simp) fun s hs hc => (okC_not (part_ok h s hs 32 hc)).1 rfl
theorem part_c {w : Str} (h : isW w = true) : ∀ c ∈ ("part " ++ w).cps.toList, okC c ∨ c = 32 := fun c hc => by
  rw [← part_eq] at hc
  rcases join_c hc with h' | ⟨x, h1, h2⟩
  · exact .inr h'
  · exact .inl (part_ok h x h1 c h2)
theorem part_nc {w : Str} (h : isW w = true) : ∀ c ∈ ("part " ++ w).cps.toList, c ≠ 58 := fun c hc z => by
  rcases part_c h c hc with h' | h'
  · exact (okC_not h').2.2 z
  · omega
theorem sp_rin {c : Addr} : ∀ ds Q, P_rin ds Q → fnC 5 1 (t_row_in (cl P_rn) c rowsF) ds Q := by
  rintro ds Q (⟨r, h, e, q⟩ | ⟨w, h, e, q⟩)
  · subst e
    have hlen := line_len h
    have hs : (line r).length ≤ sizeLine := Nat.le_trans hlen (by decide)
    have pn := @pn
    unfold t_row_in
    generalize cl P_rn = g at pn ⊢
    refine ⟨rfl, rfl, ?_⟩
    cases hm : r.isMark with
    | true =>
      cases r <;> first | (cases hm; done) | skip
      rename_i w b
      have hw : isW w = true := h
      have wl := isW_len hw
      have wc := word_c hw
      have cl : ∀ x : Str, (w ++ x).cps.toList = w.cps.toList ++ x.cps.toList := cps_app w
      have ll : ∀ x : Str, (w ++ x).length = w.length + x.length := PySem.Str.length_append w
      have fin : ∀ (x : Str) (n : Nat), x.length = n → 1 ≤ n → Txt.slice (w ++ x) none (some (-(n : Int))) = w := fun x n hx h1 => str_ext (by rw [sliceE (by rw [ll]; omega) h1, cl, ll, hx, Nat.add_sub_cancel, len_cps, List.take_left])
      cases b with
      | true =>
        have e1 : Txt.endswith (w ++ "::") "::" = true := (ew_iff _ _).mpr ⟨_, cl _⟩
        refine (show (if Txt.endswith (w ++ "::") "::" = true then _ else _) from ?_)
        rw [e1, if_pos rfl]
        refine ⟨hs, Nat.le_of_ble_eq_true rfl, rfl, ?_⟩
        show Q (.tup [.str "mark", .str (Txt.slice (w ++ "::") none (some (-((2 : Nat) : Int)))), .bl true])
        rw [fin "::" 2 rfl (by decide)]
        exact q
      | false =>
        have e1 : Txt.endswith (w ++ ":") "::" = false := by
          rw [Bool.eq_false_iff]
          intro z
          obtain ⟨a, e⟩ := (ew_iff _ _).mp z
          rw [cl] at e
          have e : w.cps.toList ++ [58] = (a ++ [58]) ++ [58] := by rw [List.append_assoc]; exact e
          have e := (List.append_inj' e rfl).1
          have := wc 58 (by rw [e]; simp)
          omega
        have e2 : Txt.endswith (w ++ ":") ":" = true := (ew_iff _ _).mpr ⟨_, cl _⟩
        refine (show (if Txt.endswith (w ++ ":") "::" = true then _ else _) from ?_)
        rw [e1, if_neg Bool.false_ne_true]
        refine ⟨rfl, ?_⟩
        refine (show (if Txt.endswith (w ++ ":") ":" = true then _ else _) from ?_)
        rw [e2, if_pos rfl]
        refine ⟨hs, Nat.le_of_ble_eq_true rfl, rfl, ?_⟩
        show Q (.tup [.str "mark", .str (Txt.slice (w ++ ":") none (some (-((1 : Nat) : Int)))), .bl false])
        rw [fin ":" 1 rfl (by decide)]
        exact q
    | false =>
      have nc : ∀ c ∈ (line r).cps.toList, c ≠ 58 := fun c hc z => by
        rcases line_c h hm c hc with h' | h'
        · exact (okC_not h').2.2 z
        · omega
      have e1 : Txt.endswith (line r) "::" = false := no_colon nc rfl
      have e2 : Txt.endswith (line r) ":" = false := no_colon nc rfl
      have e3 : Txt.split (line r) " " = lineW r := split_line h hm
      have hl := it_len h
      refine (show (if Txt.endswith (line r) "::" = true then _ else _) from ?_)
      rw [e1, if_neg Bool.false_ne_true]
      refine ⟨rfl, ?_⟩
      refine (show (if Txt.endswith (line r) ":" = true then _ else _) from ?_)
      rw [e2, if_neg Bool.false_ne_true]
      refine ⟨rfl, rfl, hs, ?_, ?_⟩
      · rw [e3]
        exact Nat.le_trans (show (lineW r).length ≤ 61 by unfold lineW; rw [List.length_cons, List.length_map]; omega) (by decide)
      rw [e3]
      unfold lineW
      rw [List.map_cons]
      refine ⟨_, at_nat (k := 0) rfl, ?_⟩
      have key : riT g (fE Q) [some (.str (line r)), some (.lst (.str (Rw.kd r) :: ((Rw.it r).map txD).map .str)), some (.str (Rw.kd r)), some (.lst (cutD (.str (Rw.kd r) :: ((Rw.it r).map txD).map .str) (some 1) none)), none] [] := by
        rw [cut1]
        exact ri_tail pn h hm q
      exact key
  · subst e
    have wl := isW_len h
    have pe := part_eq w
    have ll : ("part " ++ w).length = 5 + w.length := PySem.Str.length_append _ _
    have hs : ("part " ++ w).length ≤ sizeLine := Nat.le_trans (show ("part " ++ w).length ≤ 13 by omega) (by decide)
    have e3 : Txt.split ("part " ++ w) " " = [("part" : Str), w] := split_part h
    have nc := part_nc h
    have e1 : Txt.endswith ("part " ++ w) "::" = false := no_colon nc rfl
    have e2 : Txt.endswith ("part " ++ w) ":" = false := no_colon nc rfl
    refine ⟨rfl, rfl, ?_⟩
    refine (show (if Txt.endswith ("part " ++ w) "::" = true then _ else _) from ?_)
    rw [e1, if_neg Bool.false_ne_true]
    refine ⟨rfl, ?_⟩
    refine (show (if Txt.endswith ("part " ++ w) ":" = true then _ else _) from ?_)
    rw [e2, if_neg Bool.false_ne_true]
    refine ⟨rfl, rfl, hs, by rw [e3]; exact Nat.le_of_ble_eq_true rfl, ?_⟩
    rw [e3]
    exact ⟨_, rfl, Nat.zero_le _, _, _, rfl, _, rfl, _, rfl, rfl, q⟩
end K61
set_option Elab.async false
set_option linter.all false
set_option maxRecDepth 100000
set_option maxHeartbeats 4000000
namespace K61
open PySem PySem.Spec L2 L3 FJ
def P_isr : GP := fun ds Q => (∃ r : Rw, r.ok = true ∧ ds = [r.d] ∧ Q (.bl true)) ∨ (ds = [.non] ∧ Q (.bl false))
theorem P_isr_mono : monoP P_isr := fun ds P Q w h => h.elim (fun ⟨r, a, b, q⟩ => .inl ⟨r, a, b, w _ q⟩) fun ⟨b, q⟩ => .inr ⟨b, w _ q⟩
theorem sp_isr (K : PySem.W.Frag) (c : Addr) : ∀ ds Q, P_isr ds Q → fnC 2 1 (t_is_row K c rowsF (cl P_fits)) ds Q := by
  rintro ds Q (h | ⟨e, q⟩)
  · exact sp_is_row K c ds Q h
  · subst e
    exact ⟨rfl, _, rfl, rfl, q⟩
def P_rrow : GP := P_rin
theorem sp_rrow : ∀ ds Q, P_rrow ds Q → fnC 2 1 (t_read_row (cl P_rin) (cl P_isr)) ds Q := by
  rintro ds Q (⟨r, h, e, q⟩ | ⟨w, h, e, q⟩)
  · subst e
    have n : nls [r.d] = true := by show (nl r.d && true) = true; rw [r.nld]; rfl
    have f : fz [] r.d = r.d := by cases r <;> rfl
    refine ⟨rfl, rfl, .inl ⟨r, h, rfl, n, .inl ⟨r, h, rfl, ?_⟩⟩⟩
    show nl (fz [] r.d) = true ∧ Q (fz [] r.d)
    rw [f]
    exact ⟨r.nld, q⟩
  · subst e
    exact ⟨rfl, rfl, .inr ⟨w, h, rfl, rfl, .inr ⟨rfl, rfl, q⟩⟩⟩
def P_rname : GP := fun ds Q => (∃ r : Rw, r.ok = true ∧ ds = [.str (line r)] ∧ Q .non) ∨ ∃ w : Str, isW w = true ∧ ds = [.str ("part " ++ w)] ∧ Q (.str w)
theorem P_rname_mono : monoP P_rname := fun ds P Q w h => h.elim (fun ⟨r, a, b, q⟩ => .inl ⟨r, a, b, w _ q⟩) fun ⟨r, a, b, q⟩ => .inr ⟨r, a, b, w _ q⟩
theorem sp_rname : ∀ ds Q, P_rname ds Q → fnC 2 1 (t_read_name (cl P_is_word)) ds Q := by
  rintro ds Q (⟨r, h, e, q⟩ | ⟨w, h, e, q⟩)
  · subst e
    have hs : (line r).length ≤ sizeLine := Nat.le_trans (line_len h) (by decide)
    have hl := it_len h
    cases hm : r.isMark with
    | true =>
      have e3 : Txt.split (line r) " " = [line r] := by
        refine split_join (c := 32) (l := [line r]) (by simp) fun s hs hc => ?_
        rw [List.mem_singleton.mp hs] at hc
        clear hs
        clear hs
        cases r <;> first | (cases hm; done) | skip
        case mark w b =>
          have go : ∀ x : Str, 32 ∉ x.cps.toList → 32 ∈ (w ++ x).cps.toList → False := fun x hx hc => by
            rw [cps_app] at hc
            rcases List.mem_append.mp hc with hc | hc
            · have := word_c h 32 hc; omega
            · exact hx hc
          cases b
          · exact go ":" (by decide +kernel) hc
          · exact go "::" (by decide +kernel) hc
      refine ⟨rfl, rfl, rfl, hs, by rw [e3]; exact Nat.le_of_ble_eq_true rfl, ?_⟩
      rw [e3]
      exact ⟨_, rfl, rfl, q⟩
    | false =>
      have e3 : Txt.split (line r) " " = lineW r := split_line h hm
      refine ⟨rfl, rfl, rfl, hs, ?_, ?_⟩
      · rw [e3]
        exact Nat.le_trans (show (lineW r).length ≤ 61 by unfold lineW; rw [List.length_cons, List.length_map]; omega) (by decide)
      rw [e3]
      refine ⟨_, rfl, ?_⟩
      have kp : (Rw.kd r == ("part" : Str)) = false := by cases r <;> rfl
      refine (show (if ((((lineW r).map D.str).length : Int) == 2) = true then _ else _) from ?_)
      cases (((lineW r).map D.str).length : Int) == 2 with
      | false => rw [if_neg Bool.false_ne_true]; exact ⟨rfl, q⟩
      | true =>
        rw [if_pos rfl]
        refine ⟨_, at_nat (k := 0) rfl, ?_⟩
        refine (show (if (Rw.kd r == ("part" : Str)) = true then _ else _) from ?_)
        rw [kp, if_neg Bool.false_ne_true]; exact ⟨rfl, q⟩
  · subst e
    have wl := isW_len h
    have ll : ("part " ++ w).length = 5 + w.length := PySem.Str.length_append _ _
    have hs : ("part " ++ w).length ≤ sizeLine := Nat.le_trans (show ("part " ++ w).length ≤ 13 by omega) (by decide)
    have e3 : Txt.split ("part " ++ w) " " = [("part" : Str), w] := split_part h
    refine ⟨rfl, rfl, rfl, hs, by rw [e3]; exact Nat.le_of_ble_eq_true rfl, ?_⟩
    rw [e3]
    exact ⟨_, rfl, _, rfl, _, rfl, rfl, w, h, rfl, _, rfl, rfl, q⟩
end K61
set_option Elab.async false
set_option linter.all false
set_option maxRecDepth 100000
set_option maxHeartbeats 4000000
namespace K61
open PySem PySem.Spec L2 L3 FJ
noncomputable def tups (k : Nat) (qs : List Pt) : List D := qs.mapIdx fun i p => .tup [.str p.1, .loc (k + 1 + i)]
noncomputable def mkM (M0 : Ms) (qs : List Pt) : Ms := M0 ++ some (.lst (tups M0.length qs)) :: qs.map fun p => some (.lst (p.2.map Rw.d))
theorem mkM_len (M0 : Ms) (qs : List Pt) : (mkM M0 qs).length = M0.length + 1 + qs.length := by
  unfold mkM
  rw [List.length_append, List.length_cons, List.length_map]; omega
theorem mkM_0 (M0 : Ms) (qs : List Pt) : (mkM M0 qs)[M0.length]? = some (some (.lst (tups M0.length qs))) := by
  unfold mkM
  rw [List.getElem?_append_right (Nat.le_refl _), Nat.sub_self]; rfl
theorem mkM_i {M0 : Ms} {qs : List Pt} {i : Nat} {p : Pt} (h : qs[i]? = some p) : (mkM M0 qs)[M0.length + 1 + i]? = some (some (.lst (p.2.map Rw.d))) := by
  unfold mkM
  rw [List.getElem?_append_right (by omega), show M0.length + 1 + i - M0.length = i + 1 by omega, List.getElem?_cons_succ, List.getElem?_map, h]; rfl
theorem tups_len (k : Nat) (qs : List Pt) : (tups k qs).length = qs.length := by unfold tups; rw [List.length_mapIdx]
theorem tups_snoc (k : Nat) (qs : List Pt) (p : Pt) : tups k (qs ++ [p]) = tups k qs ++ [.tup [.str p.1, .loc (k + 1 + qs.length)]] := by
  unfold tups
  rw [List.mapIdx_append, List.mapIdx_singleton, Nat.zero_add]
theorem at_last {xs : List D} {d : D} : atI (xs ++ [d]) (-1) = some d := by
  unfold atI ixN
  have l : (xs ++ [d]).length = xs.length + 1 := by rw [List.length_append]; rfl
  rw [if_neg (by decide), if_pos (by rw [l]; omega), show (-1 + ((xs ++ [d]).length : Int)).toNat = xs.length by rw [l]; omega]
  show (xs ++ [d])[xs.length]? = _
  rw [List.getElem?_append_right (Nat.le_refl _), Nat.sub_self]; rfl
theorem mkM_new (M0 : Ms) (qs : List Pt) (n : Str) : (mkM M0 qs ++ [some (OD.lst [])]).set M0.length (some (OD.lst (tups M0.length qs ++ [D.tup [.str n, .loc (mkM M0 qs).length]]))) = mkM M0 (qs ++ [(n, [])]) := by
  rw [mkM_len]
  unfold mkM
  rw [List.append_assoc, List.set_append_right _ _ (Nat.le_refl _), Nat.sub_self, tups_snoc, List.map_append]
  rfl
theorem mkM_row (M0 : Ms) (qs : List Pt) (n : Str) (rs : List Rw) (r : Rw) : (mkM M0 (qs ++ [(n, rs)])).set (M0.length + 1 + qs.length) (some (.lst (rs.map Rw.d ++ [r.d]))) = mkM M0 (qs ++ [(n, rs ++ [r])]) := by
  have e : tups M0.length (qs ++ [(n, rs)]) = tups M0.length (qs ++ [(n, rs ++ [r])]) := by rw [tups_snoc, tups_snoc]
  unfold mkM
  rw [List.set_append_right _ _ (by omega), show M0.length + 1 + qs.length - M0.length = qs.length + 1 by omega, List.set_cons_succ, List.map_append, List.map_append, List.set_append_right _ _ (by rw [List.length_map]; exact Nat.le_refl _), List.length_map, Nat.sub_self, e]
  show M0 ++ some _ :: (_ ++ [some (OD.lst (rs.map Rw.d ++ [r.d]))]) = M0 ++ some _ :: (_ ++ [some (OD.lst ((rs ++ [r]).map Rw.d))])
  rw [List.map_append]; rfl
theorem ix_last {M0 : Ms} {ini : List Pt} {p : Pt} {Q : DK} (q : Q (.tup [.str p.1, .loc (M0.length + 1 + ini.length)]) (mkM M0 (ini ++ [p]))) : gIx (.loc M0.length) (.int (-1)) (mkM M0 (ini ++ [p])) Q := by
  have v : vw (mkM M0 (ini ++ [p])) (.loc M0.length) = .lst (tups M0.length (ini ++ [p])) := by
    show vwk _ (mkM M0 (ini ++ [p]))[M0.length]? = _
    rw [mkM_0]; rfl
  unfold gIx
  rw [v, tups_snoc]
  exact ⟨_, at_last, q⟩
theorem ix_one {a b : D} {M : Ms} {Q : DK} (q : Q b M) : gIx (.tup [a, b]) (.int 1) M Q := ⟨_, rfl, q⟩
noncomputable def lks (qs : List Pt) : Bool := match qs.getLast? with | none => false | some p => p.2.isEmpty
def P_lk : GN := fun ds M Q => ∃ M0 qs, ds = [.loc M0.length] ∧ M = mkM M0 qs ∧ Q (.bl (lks qs)) M
theorem P_lk_mono : monoN P_lk := fun ds M P Q w ⟨a, b, c, d, q⟩ => ⟨a, b, c, d, w _ _ q⟩
theorem vw_0 (M0 : Ms) (qs : List Pt) : vw (mkM M0 qs) (.loc M0.length) = .lst (tups M0.length qs) := by
  show vwk _ (mkM M0 qs)[M0.length]? = _
  rw [mkM_0]; rfl
theorem sp_lk : ∀ ds M Q, P_lk ds M Q → fnG 1 1 t_lacks_rows ds M Q := by
  rintro ds M Q ⟨M0, qs, rfl, rfl, q⟩
  refine ⟨rfl, qs.length, by rw [vw_0]; show some (tups _ _).length = _; rw [tups_len], ?_⟩
  rcases List.eq_nil_or_concat qs with rfl | ⟨ini, p, e⟩
  · exact q
  · rw [List.concat_eq_append] at e
    subst e
    have hl : (ini ++ [p])[ini.length]? = some p := by rw [List.getElem?_append_right (Nat.le_refl _), Nat.sub_self]; rfl
    have vi : vw (mkM M0 (ini ++ [p])) (.loc (M0.length + 1 + ini.length)) = .lst (p.2.map Rw.d) := by
      show vwk _ (mkM M0 (ini ++ [p]))[M0.length + 1 + ini.length]? = _
      rw [mkM_i hl]; rfl
    have e1 : lks (ini ++ [p]) = (((p.2.map Rw.d).length : Int) == 0) := by
      unfold lks
      rw [List.getLast?_concat, List.length_map]
      cases h : p.2 with
      | nil => simp [h]
      | cons a b => simp [h]; omega
    have c1 : decide ((0 : Int) < ((ini ++ [p]).length : Nat)) = true := decide_eq_true (by rw [List.length_append]; show (0 : Int) < ((ini.length + 1 : Nat) : Int); omega)
    have hd : ∀ (b : Bool) (T : DE) δ M (Q : DK), b = true → T δ M Q → dAndV (fun _ M Q => Q (.bl b) M) T δ M Q := fun b T δ M Q h t => by subst h; exact t
    refine hd (decide ((0 : Int) < ((ini ++ [p]).length : Nat))) (dOp gEq (dCB gLen (dCons (dOp gIx (dOp gIx (dVar 0) (dNeg (dC (.int 1)))) (dC (.int 1))) dNil)) (dC (.int 0))) _ _ _ c1 ?_
    have f1 := @ix_last
    have f2 := @ix_one
    generalize gIx = gx at f1 f2 ⊢
    refine f1 (f2 ⟨(p.2.map Rw.d).length, by rw [vi]; rfl, ?_⟩)
    rw [e1] at q
    exact q
end K61
set_option Elab.async false
set_option linter.all false
set_option maxRecDepth 100000
set_option maxHeartbeats 4000000
namespace K61
open PySem PySem.Spec L2 L3 FJ
theorem line_10 {r : Rw} (h : r.ok = true) : 10 ∉ (line r).cps.toList := fun hc => by
  cases hm : r.isMark with
  | true =>
    cases r <;> first | (cases hm; done) | skip
    case mark w b =>
      have go : ∀ x : Str, 10 ∉ x.cps.toList → 10 ∈ (w ++ x).cps.toList → False := fun x hx hc => by
        rw [cps_app] at hc
        rcases List.mem_append.mp hc with hc | hc
        · have := word_c h 10 hc; omega
        · exact hx hc
      cases b
      · exact go ":" (by decide +kernel) hc
      · exact go "::" (by decide +kernel) hc
  | false =>
    rcases line_c h hm 10 hc with h' | h'
    · exact (okC_not h').2.1 rfl
    · omega
theorem lnsOf_ne {ps : List Pt} (h : PsT ps) : lnsOf ps ≠ [] := by
  cases ps with
  | nil => exact absurd h.lo (by decide)
  | cons p ps => show lns p ++ _ ≠ []; unfold lns; simp
theorem split_text {ps : List Pt} (h : PsT ps) : Txt.split (text ps) ⟨#[10]⟩ = lnsOf ps := by
  refine split_join (lnsOf_ne h) fun s hs hc => ?_
  obtain ⟨p, hp, hs⟩ := List.mem_flatMap.mp hs
  rcases List.mem_cons.mp hs with rfl | hs
  · rcases part_c (h.w p hp) 10 hc with h' | h'
    · exact (okC_not h').2.1 rfl
    · omega
  · obtain ⟨r, hr, rfl⟩ := List.mem_map.mp hs
    exact line_10 (h.ok p hp r hr) hc
def At (ps : List Pt) (a : List Str) (qs : List Pt) : Prop := (∃ rest, ps = qs ++ rest ∧ a = lnsOf qs) ∨ ∃ done p pre post rest, ps = done ++ p :: rest ∧ p.2 = pre ++ post ∧ post ≠ [] ∧ a = lnsOf done ++ (("part " : Str) ++ p.1) :: pre.map line ∧ qs = done ++ [(p.1, pre)]
theorem lnsOf_one (p : Pt) : lnsOf [p] = lns p := List.append_nil _
theorem lnsOf_cons (p : Pt) (ps : List Pt) : lnsOf (p :: ps) = lns p ++ lnsOf ps := rfl
theorem at_go {ps : List Pt} {done rest : List Pt} {p : Pt} {pre post : List Rw} (e : ps = done ++ p :: rest) (e2 : p.2 = pre ++ post) : At ps (lnsOf done ++ ("part " ++ p.1) :: pre.map line) (done ++ [(p.1, pre)]) := by
  by_cases h : post = []
  · subst h
    rw [List.append_nil] at e2
    refine .inl ⟨rest, by rw [e, List.append_assoc, ← e2]; rfl, ?_⟩
    rw [lnsOf_app, lnsOf_one]; rfl
  · exact .inr ⟨done, p, pre, post, rest, e, e2, h, rfl, rfl⟩
theorem at_step {ps : List Pt} (h : PsT ps) {a b : List Str} {x : Str} {qs : List Pt} (A : At ps a qs) (e : lnsOf ps = a ++ x :: b) :
    (∃ p ∈ ps, x = "part " ++ p.1 ∧ lks qs = false ∧ At ps (a ++ [x]) (qs ++ [(p.1, [])])) ∨ ∃ r n ini rs, r.ok = true ∧ x = line r ∧ qs = ini ++ [(n, rs)] ∧ At ps (a ++ [x]) (ini ++ [(n, rs ++ [r])]) := by
  rcases A with ⟨rest, e1, rfl⟩ | ⟨done, p, pre, post, rest, e1, e2, hne, rfl, rfl⟩
  · rw [e1, lnsOf_app] at e
    have e := List.append_cancel_left e
    cases rest with
    | nil => cases e
    | cons p rest =>
      obtain ⟨rfl, _⟩ := List.cons.inj (show ("part " ++ p.1) :: (p.2.map line ++ lnsOf rest) = x :: b from e)
      refine .inl ⟨p, by rw [e1]; simp, rfl, ?_, at_go (pre := []) (post := p.2) e1 rfl⟩
      unfold lks
      cases hq : qs.getLast? with
      | none => rfl
      | some q =>
        have hm : q ∈ ps := by rw [e1]; exact List.mem_append_left _ (List.mem_of_getLast? hq)
        have := (h.n q hm).1
        show q.2.isEmpty = false
        cases h2 : q.2 with
        | nil => rw [h2] at this; cases this
        | cons _ _ => rfl
  · cases post with
    | nil => exact absurd rfl hne
    | cons r post =>
      have hp : p ∈ ps := by rw [e1]; simp
      rw [e1, lnsOf_app, lnsOf_cons, List.append_assoc] at e
      have e := List.append_cancel_left e
      have e : ("part " ++ p.1) :: (p.2.map line ++ lnsOf rest) = ("part " ++ p.1) :: (pre.map line ++ x :: b) := e
      rw [e2, List.map_append, List.append_assoc] at e
      have e := List.append_cancel_left (List.cons.inj e).2
      obtain ⟨rfl, _⟩ := List.cons.inj (show line r :: (post.map line ++ lnsOf rest) = x :: b from e)
      refine .inr ⟨r, p.1, done, pre, h.ok p hp r (by rw [e2]; simp), rfl, rfl, ?_⟩
      have := at_go (ps := ps) (pre := pre ++ [r]) (post := post) e1 (by rw [e2, List.append_assoc]; rfl)
      rw [List.map_append] at this
      rw [List.append_assoc]
      exact this
theorem at_end {ps qs : List Pt} (A : At ps (lnsOf ps) qs) : qs = ps := by
  rcases A with ⟨rest, e1, e⟩ | ⟨done, p, pre, post, rest, e1, e2, hne, e, rfl⟩
  · rw [e1, lnsOf_app] at e
    have e := List.append_cancel_left (show lnsOf qs ++ lnsOf rest = lnsOf qs ++ [] by rw [e, List.append_nil])
    cases rest with
    | nil => rw [e1, List.append_nil]
    | cons p rest => cases e
  · rw [e1, lnsOf_app, lnsOf_cons] at e
    have e := List.append_cancel_left e
    have e : ("part " ++ p.1) :: (p.2.map line ++ lnsOf rest) = ("part " ++ p.1) :: pre.map line := e
    rw [e2, List.map_append, List.append_assoc] at e
    have e := List.append_cancel_left (show pre.map line ++ _ = pre.map line ++ [] by rw [(List.cons.inj e).2, List.append_nil])
    cases post with
    | nil => exact absurd rfl hne
    | cons r post => cases e
end K61
set_option Elab.async false
set_option linter.all false
set_option maxRecDepth 100000
set_option maxHeartbeats 4000000
namespace K61
open PySem PySem.Spec L2 L3 FJ
theorem isn_row (r : Rw) {M : Ms} {Q : DK} (q : Q (.bl true) M) : gIsNot r.d .non M Q := by cases r <;> exact q
theorem isn_non {M : Ms} {Q : DK} (q : Q (.bl false) M) : gIsNot .non .non M Q := q
theorem isn_str {w : Str} {M : Ms} {Q : DK} (q : Q (.bl true) M) : gIsNot (.str w) .non M Q := q
theorem len_0 {M0 : Ms} {qs : List Pt} {Q : DK} (q : Q (.int qs.length) (mkM M0 qs)) : gLen [.loc M0.length] (mkM M0 qs) Q := ⟨qs.length, by rw [vw_0]; show some (tups _ _).length = _; rw [tups_len], q⟩
theorem app_row {M0 : Ms} {ini : List Pt} {n : Str} {rs : List Rw} {r : Rw} {Q : DK} (hl : rs.length < sizeLine) (q : Q .non (mkM M0 (ini ++ [(n, rs ++ [r])]))) : gmAppend (.loc (M0.length + 1 + ini.length)) [r.d] (mkM M0 (ini ++ [(n, rs)])) Q := by
  have e : (ini ++ [(n, rs)])[ini.length]? = some (n, rs) := by rw [List.getElem?_append_right (Nat.le_refl _), Nat.sub_self]; rfl
  refine ⟨_, mkM_i e, by rw [List.length_map]; exact hl, ?_⟩
  rw [mkM_row]; exact q
theorem app_part {M0 : Ms} {qs : List Pt} {n : Str} {Q : DK} (hl : qs.length < sizeLine) (q : Q .non (mkM M0 (qs ++ [(n, [])]))) : gmAppend (.loc M0.length) [.tup [.str n, .loc (mkM M0 qs).length]] (mkM M0 qs ++ [some (.lst [])]) Q := by
  refine ⟨tups M0.length qs, ?_, by rw [tups_len]; exact hl, ?_⟩
  · rw [List.getElem?_append_left (by rw [mkM_len]; omega), mkM_0]
  · rw [mkM_new]; exact q
theorem At.small {ps : List Pt} (h : PsT ps) {a : List Str} {qs : List Pt} (A : At ps a qs) : qs.length ≤ 4 ∧ ∀ p ∈ qs, p.2.length ≤ 100 := by
  have hi := h.hi
  rcases A with ⟨rest, e1, rfl⟩ | ⟨done, p, pre, post, rest, e1, e2, hne, rfl, rfl⟩
  · exact ⟨by rw [e1, List.length_append] at hi; omega, fun p hp => (h.n p (by rw [e1]; exact List.mem_append_left _ hp)).2⟩
  · refine ⟨?_, fun z hz => ?_⟩
    · rw [e1, List.length_append, List.length_cons] at hi
      rw [List.length_append]; show done.length + 1 ≤ 4; omega
    · rcases List.mem_append.mp hz with hz | hz
      · exact (h.n z (by rw [e1]; exact List.mem_append_left _ hz)).2
      · rw [List.mem_singleton.mp hz]
        have := (h.n p (by rw [e1]; simp)).2
        rw [e2, List.length_append] at this
        show pre.length ≤ 100; omega
theorem rp_core {K : PySem.W.Frag} {E : DEnds} {M0 : Ms} {ps : List Pt} (h : PsT ps) (q : E.rt (.loc M0.length) (mkM M0 ps)) : t_read_parts K (cl P_rname) (cl P_rrow) P_lk E (startD 7 [.str (text ps)]) M0 := by
  have e3 : Txt.split (text ps) "\n" = lnsOf ps := split_text h
  have hm := h.many
  have hs : (text ps).length ≤ sizeLine := by
    have h1 := join_le ⟨#[10]⟩ (lnsOf ps) 1000 (lns_len h)
    have h2 := Nat.mul_le_mul_right (1000 + (⟨#[10]⟩ : Str).length) hm
    exact Nat.le_trans (Nat.le_trans h1 h2) (by decide)
  have n1 := @isn_row
  have n2 := @isn_non
  have n3 := @isn_str
  have x1 := @ix_last
  have x2 := @ix_one
  have l0 := @len_0
  have a1 := @app_row
  have a2 := @app_part
  have lk : ∀ {M0 : Ms} {qs : List Pt} {Q : DK}, Q (.bl (lks qs)) (mkM M0 qs) → P_lk [.loc M0.length] (mkM M0 qs) Q := fun q => ⟨_, _, rfl, rfl, q⟩
  unfold t_read_parts
  generalize gIsNot = gn at n1 n2 n3 ⊢
  generalize gIx = gx at x1 x2 ⊢
  generalize gLen = gl at l0 ⊢
  generalize P_lk = gk at lk ⊢
  generalize gmAppend = ga at a1 a2 ⊢
  refine ⟨_, rfl, rfl, rfl, hs, by rw [e3]; exact Nat.le_trans hm (by decide), ?_⟩
  rw [e3]
  refine ⟨Nat.zero_le _, _, rfl, rfl, ?_⟩
  refine forD_inv (fun j δ M => ∃ qs, At ps ((lnsOf ps).take j) qs ∧ M = mkM M0 qs ∧ ∃ o3 o4 o5 o6, δ = [some (.str (text ps)), some (.lst ((lnsOf ps).map .str)), some (.loc M0.length), o3, o4, o5, o6]) (fun _ _ _ _ => rfl) _ 0 _ _ ⟨[], .inl ⟨ps, rfl, rfl⟩, rfl, none, none, none, none, rfl⟩ (fun j x δ M hx hp N hN => ?_) (fun δ M hp => ?_)
  · obtain ⟨qs, A, rfl, o3, o4, o5, o6, rfl⟩ := hp
    obtain ⟨y, hy, rfl⟩ := get_enum hx
    obtain ⟨s, hs', rfl⟩ := get_map hy
    rw [Nat.zero_add] at A hN
    have hj := (List.getElem?_eq_some_iff.mp hs').1
    have et : (lnsOf ps).take (j + 1) = (lnsOf ps).take j ++ [s] := by rw [List.take_add_one, hs']; rfl
    have ed : lnsOf ps = (lnsOf ps).take j ++ s :: (lnsOf ps).drop (j + 1) := by
      conv => lhs; rw [← List.take_append_drop (j + 1) (lnsOf ps), et, List.append_assoc]
      rfl
    obtain ⟨sm1, sm2⟩ := A.small h
    refine ⟨rfl, rfl, ?_⟩
    rcases at_step h A ed with ⟨p, hp, rfl, hk, A'⟩ | ⟨r, n, ini, rs, hr, rfl, rfl, A'⟩
    · refine ⟨rfl, .inr ⟨p.1, h.w p hp, rfl, rfl, .inr ⟨p.1, h.w p hp, rfl, ?_⟩⟩⟩
      refine n3 (lk ?_)
      rw [hk]
      refine ⟨by show tyD "list" (vw (mkM M0 qs) (.loc M0.length)) = true; rw [vw_0]; rfl, Nat.zero_le _, Nat.le_of_ble_eq_true rfl, a2 (Nat.lt_of_le_of_lt sm1 (by decide)) (hN _ _ ⟨_, by rw [et]; exact A', rfl, _, _, _, _, rfl⟩)⟩
    · refine ⟨rfl, .inl ⟨r, hr, rfl, rfl, .inl ⟨r, hr, rfl, ?_⟩⟩⟩
      refine n2 (n1 r (l0 ?_))
      have hl : (ini ++ [(n, rs)]).length = ini.length + 1 := by rw [List.length_append]; rfl
      have hv : vw (mkM M0 (ini ++ [(n, rs)])) (.loc (M0.length + 1 + ini.length)) = .lst (rs.map Rw.d) := by
        show vwk _ (mkM M0 (ini ++ [(n, rs)]))[M0.length + 1 + ini.length]? = _
        rw [mkM_i (p := (n, rs)) (by rw [List.getElem?_append_right (Nat.le_refl _), Nat.sub_self]; rfl)]; rfl
      refine (show (if decide ((0 : Int) < ((ini ++ [(n, rs)]).length : Nat)) = true then _ else _) from ?_)
      rw [if_pos (decide_eq_true (by rw [hl]; omega))]
      refine x1 (x2 ⟨by show tyD "list" (vw (mkM M0 (ini ++ [(n, rs)])) (.loc (M0.length + 1 + ini.length))) = true; rw [hv]; rfl, a1 (Nat.lt_of_le_of_lt (sm2 (n, rs) (by simp)) (by decide)) (hN _ _ ⟨_, by rw [et]; exact A', rfl, _, _, _, _, rfl⟩)⟩)
  · obtain ⟨qs, A, rfl, o3, o4, o5, o6, rfl⟩ := hp
    rw [Nat.zero_add, List.length_mapIdx, List.length_map, List.take_length] at A
    cases at_end A
    have hk : lks ps = false := by
      unfold lks
      cases hq : ps.getLast? with
      | none => rfl
      | some p =>
        have := (h.n p (List.mem_of_getLast? hq)).1
        show p.2.isEmpty = false
        cases h2 : p.2 with
        | nil => rw [h2] at this; cases this
        | cons _ _ => rfl
    refine lk ?_
    rw [hk]
    exact q
def P_rpG : GN := fun ds M Q => ∃ ps, PsT ps ∧ ds = [.str (text ps)] ∧ Q (.loc M.length) (mkM M ps)
theorem P_rpG_mono : monoN P_rpG := fun ds M P Q w ⟨a, b, c, q⟩ => ⟨a, b, c, w _ _ q⟩
theorem sp_rpG (K : PySem.W.Frag) : ∀ ds M Q, P_rpG ds M Q → fnG 7 1 (t_read_parts K (cl P_rname) (cl P_rrow) P_lk) ds M Q := by
  rintro ds M Q ⟨ps, h, rfl, q⟩
  exact ⟨rfl, rp_core h q⟩
def P_rpC : GP := fun ds Q => ∃ ps, PsT ps ∧ ds = [.str (text ps)] ∧ Q (.lst (ps.map ptD))
theorem P_rpC_mono : monoP P_rpC := fun ds P Q w ⟨a, b, c, q⟩ => ⟨a, b, c, w _ q⟩
theorem fz_parts (ps : List Pt) : fzD (mkM [] ps) 3 (.loc 0) = .lst (ps.map ptD) := by
  have v0 : vw (mkM [] ps) (.loc 0) = .lst (tups 0 ps) := vw_0 [] ps
  show (match vw (mkM [] ps) (.loc 0) with | .lst ds => D.lst (ds.map (fzD (mkM [] ps) 2)) | .tup ds => .tup (ds.map (fzD (mkM [] ps) 2)) | z => z) = _
  rw [v0]
  show D.lst ((tups 0 ps).map (fzD (mkM [] ps) 2)) = _
  congr 1
  apply List.ext_getElem?
  intro i
  unfold tups
  rw [List.getElem?_map, List.getElem?_mapIdx, List.getElem?_map]
  cases e : ps[i]? with
  | none => rfl
  | some p =>
    have vi : vw (mkM [] ps) (.loc (0 + 1 + i)) = .lst (p.2.map Rw.d) := by
      show vwk _ (mkM [] ps)[0 + 1 + i]? = _
      rw [show (0 + 1 + i) = ([] : Ms).length + 1 + i from rfl, mkM_i e]; rfl
    show some (fzD (mkM [] ps) 2 (.tup [.str p.1, .loc (0 + 1 + i)])) = some (ptD p)
    congr 1
    have e1 : fzD (mkM [] ps) 1 (.loc (0 + 1 + i)) = .lst (p.2.map Rw.d) := by
      show (match vw (mkM [] ps) (.loc (0 + 1 + i)) with | .lst ds => D.lst (ds.map (fzD (mkM [] ps) 0)) | .tup ds => .tup (ds.map (fzD (mkM [] ps) 0)) | z => z) = _
      rw [vi]
      show D.lst ((p.2.map Rw.d).map (fzD (mkM [] ps) 0)) = _
      rw [show fzD (mkM [] ps) 0 = id from rfl, List.map_id]
    show D.tup [.str p.1, fzD (mkM [] ps) 1 (.loc (0 + 1 + i))] = .tup [.str p.1, .lst (p.2.map Rw.d)]
    rw [e1]
theorem sp_rpC (K : PySem.W.Frag) : ∀ ds Q, P_rpC ds Q → fnCn 7 1 (t_read_parts K (cl P_rname) (cl P_rrow) P_lk) ds Q := by
  rintro ds Q ⟨ps, h, rfl, q⟩
  refine ⟨rfl, rp_core (M0 := []) h ?_⟩
  show nl (fzD (mkM [] ps) 3 (.loc 0)) = true ∧ Q (fzD (mkM [] ps) 3 (.loc 0))
  rw [fz_parts]
  exact ⟨nls_parts ps, q⟩
end K61
set_option Elab.async false
set_option linter.all false
set_option maxRecDepth 100000
set_option maxHeartbeats 4000000
namespace L3
open PySem PySem.Spec L2
section
variable {ta tb tc : DE} {δ : DSt} {M : Ms} {Q : DK} {R : Bool → Ms → Prop} {b : Bool} {g g' : G2} {y : D}
def kAnd (tb : DE) (δ : DSt) (Q : DK) : DK := fun x M1 => match x with | .bl true => tb δ M1 Q | .bl false => Q (.bl false) M1 | _ => False
def kNot (Q : DK) : DK := fun x M1 => match x with | .bl b => Q (.bl (!b)) M1 | _ => False
def kTest (R : Bool → Ms → Prop) : DK := fun x M1 => match x with | .bl b => R b M1 | _ => False
def kChain (g' : G2) (tc : DE) (δ : DSt) (y : D) (Q : DK) : DK := fun z M3 => match z with | .bl true => tc δ M3 fun w M4 => g' y w M4 Q | .bl false => Q (.bl false) M3 | _ => False
theorem rd_andV : dAndV ta tb δ M Q = ta δ M (kAnd tb δ Q) := rfl
theorem rd_notV : dNotV ta δ M Q = ta δ M (kNot Q) := rfl
theorem rd_test : dTest ta δ M R = ta δ M (kTest R) := rfl
theorem rd_chain : dChain g g' ta tb tc δ M Q = ta δ M fun x M1 => tb δ M1 fun y M2 => g x y M2 (kChain g' tc δ y Q) := rfl
theorem kNot_bl : kNot Q (.bl b) M = Q (.bl (!b)) M := rfl
theorem kTest_bl : kTest R (.bl b) M = R b M := rfl
theorem cmpE_int {a c : Int} {P : Bool → Prop} : cmpE (.int a) (.int c) P = P (a == c) := rfl
theorem gLe_int {i j : Int} : gLe (.int i) (.int j) M Q = Q (.bl (decide (i ≤ j))) M := rfl
theorem gLe_str {i j : Str} : gLe (.str i) (.str j) M Q = Q (.bl (!decide (j.cps.toList < i.cps.toList))) M := rfl
theorem gIsi_ty {K : PySem.W.Frag} {d : D} {n : String} : gIsi K [d, .ty n] M Q = ∃ b, isT n (vw M d) = some b ∧ Q (.bl b) M := rfl
theorem gLen_one {d : D} : gLen [d] M Q = ∃ n : Nat, lenD (vw M d) = some n ∧ Q (.int n) M := rfl
theorem dVar_cons0 {d : D} : dVar 0 (some d :: δ) M Q = Q d M := rfl
theorem dVar_succ {o : Option D} {i : Nat} : dVar (i + 1) (o :: δ) M Q = dVar i δ M Q := rfl
end
section
variable {M : Ms} {b : Bool} {i : Int} {x : Str} {n : String} {ds : List D} {ns : List Int} {ks : List Key} {C : Addr} {ms : List Str}
theorem isT_non_int : isT "int" .non = some false := rfl
theorem isT_bl_int : isT "int" (.bl b) = some true := rfl
theorem isT_int_int : isT "int" (.int i) = some true := rfl
theorem isT_str_int : isT "int" (.str x) = some false := rfl
theorem isT_tup_int : isT "int" (.tup ds) = some false := rfl
theorem isT_lst_int : isT "int" (.lst ds) = some false := rfl
theorem isT_dct_int : isT "int" (.dct ks ds) = some false := rfl
theorem isT_non_bool : isT "bool" .non = some false := rfl
theorem isT_bl_bool : isT "bool" (.bl b) = some true := rfl
theorem isT_int_bool : isT "bool" (.int i) = some false := rfl
theorem isT_str_bool : isT "bool" (.str x) = some false := rfl
theorem isT_tup_bool : isT "bool" (.tup ds) = some false := rfl
theorem isT_lst_bool : isT "bool" (.lst ds) = some false := rfl
theorem isT_dct_bool : isT "bool" (.dct ks ds) = some false := rfl
theorem isT_non_str : isT "str" .non = some false := rfl
theorem isT_bl_str : isT "str" (.bl b) = some false := rfl
theorem isT_int_str : isT "str" (.int i) = some false := rfl
theorem isT_str_str : isT "str" (.str x) = some true := rfl
theorem isT_tup_str : isT "str" (.tup ds) = some false := rfl
theorem isT_lst_str : isT "str" (.lst ds) = some false := rfl
theorem isT_dct_str : isT "str" (.dct ks ds) = some false := rfl
theorem isT_tup_tuple : isT "tuple" (.tup ds) = some true := rfl
theorem isT_non_list : isT "list" .non = some false := rfl
theorem isT_bl_list : isT "list" (.bl b) = some false := rfl
theorem isT_int_list : isT "list" (.int i) = some false := rfl
theorem isT_str_list : isT "list" (.str x) = some false := rfl
theorem isT_tup_list : isT "list" (.tup ds) = some false := rfl
theorem isT_lst_list : isT "list" (.lst ds) = some true := rfl
theorem isT_dct_list : isT "list" (.dct ks ds) = some false := rfl
theorem rv_non : vw M .non = .non := rfl
theorem rv_bl : vw M (.bl b) = (.bl b) := rfl
theorem rf_bl : fz M (.bl b) = (.bl b) := rfl
theorem rn_bl : nl (.bl b) = true := rfl
theorem rv_int : vw M (.int i) = (.int i) := rfl
theorem rv_str : vw M (.str x) = (.str x) := rfl
theorem rn_str : nl (.str x) = true := rfl
theorem rv_tup : vw M (.tup ds) = (.tup ds) := rfl
theorem rv_lst : vw M (.lst ds) = (.lst ds) := rfl
theorem rv_dct : vw M (.dct ks ds) = (.dct ks ds) := rfl
theorem rn_nil : nls [] = true := rfl
theorem rn_cons {d : D} {ds : List D} : nls (d :: ds) = (nl d && nls ds) := rfl
end
theorem rl_lst {ds : List D} : lenD (.lst ds) = some ds.length := rfl
theorem rl_tup {ds : List D} : lenD (.tup ds) = some ds.length := rfl
theorem rl_str {x : Str} : lenD (.str x) = if x.length ≤ sizeLine then some x.length else none := rfl
theorem rg_tup {n : Nat} {gs : DGs} {ds : List D} {δ : DSt} {M : Ms} {Q : DSt → Ms → Prop} : dgTup n gs (.tup ds) δ M Q = (ds.length = n ∧ gs ds δ M Q) := rfl
theorem rg_cons {g : DG} {gs : DGs} {d : D} {ds : List D} {δ : DSt} {M : Ms} {Q : DSt → Ms → Prop} : dgCons g gs (d :: ds) δ M Q = g d δ M fun δ1 M1 => gs ds δ1 M1 Q := rfl
local macro_rules | `(tactic| walk_at "rd_at") => `(tactic| simp (decide := true) only [fnC, cl, dSeq, dSet, dOp, dC, dRet, dIfS, dNot, dOr, dNil, dCons, dCB, dNext, dgName, dslots, Option.getD_some, List.getElem?_cons_zero, rd_andV, rd_notV, rd_test, rd_chain, kNot_bl, gNe, cmpE_int, gLe_int, gLe_str, gIsi_ty, gLen_one, rg_tup, rg_cons, rl_lst, rl_tup, rl_str, dVar_cons0, dVar_succ, isT_non_int, isT_bl_int, isT_int_int, isT_str_int, isT_tup_int, isT_lst_int, isT_dct_int, isT_non_bool, isT_bl_bool, isT_int_bool, isT_str_bool, isT_tup_bool, isT_lst_bool, isT_dct_bool, isT_non_str, isT_bl_str, isT_int_str, isT_str_str, isT_tup_str, isT_lst_str, isT_dct_str, isT_tup_tuple, isT_non_list, isT_bl_list, isT_int_list, isT_str_list, isT_tup_list, isT_lst_list, isT_dct_list, startD, List.map_cons, List.map_nil, List.length_cons, List.length_nil, List.replicate, List.cons_append, List.nil_append, List.set_cons_zero, List.set_cons_succ, true_and, Bool.true_and, Bool.and_true, rv_non, rv_bl, rf_bl, rn_bl, rv_int, rv_str, rn_str, rv_tup, rv_lst, rv_dct, rn_nil, rn_cons])
theorem gI_int {C : Int → Int → Prop} {f : Int → Int → D} {i j : Int} {M : Ms} {Q : DK} : gI C f (.int i) (.int j) M Q = (C i j ∧ Q (f i j) M) := rfl
theorem gI0_int {f : Int → Int → D} {i j : Int} {M : Ms} {Q : DK} : gI0 f (.int i) (.int j) M Q = Q (f i j) M := rfl
theorem gPlus_ii {i j : Int} {M : Ms} {Q : DK} : gPlus (.int i) (.int j) M Q = Q (.int (i + j)) M := rfl
end L3
set_option Elab.async false
set_option linter.all false
set_option maxRecDepth 100000
set_option maxHeartbeats 4000000
namespace K61
open PySem PySem.Spec L2 L3
abbrev iD (xs : List Int) : List D := xs.map D.int
local macro_rules | `(tactic| walk_at "ws1_tac") => `(tactic| ((conv => whnf); first
  | refine ⟨_, rfl, ?_⟩ | refine ⟨rfl, ?_⟩ | refine ⟨Nat.le_of_ble_eq_true rfl, ?_⟩ | refine ⟨show (0 : Int) < _ by decide, ?_⟩ | refine ⟨show CDivL _ _ from ⟨by decide, by decide⟩, ?_⟩ | refine ⟨show CDiv _ _ from ⟨by decide, by decide⟩, ?_⟩
  | refine ⟨show CPow _ _ from ⟨by decide, by decide, by decide⟩, ?_⟩ | refine ⟨show CMul _ _ from .inl ⟨by decide, by decide⟩, ?_⟩ | refine ⟨show CMul _ _ from .inr ⟨by decide, by decide⟩, ?_⟩
  | refine ⟨fun h => absurd (show (1 : Nat) = 0 from h.1) (by decide), ?_⟩ | refine ⟨fun h => absurd (show (2 : Nat) = 0 from h.1) (by decide), ?_⟩ | refine ⟨fun h => absurd (show (3 : Nat) = 0 from h.1) (by decide), ?_⟩))
local macro_rules | `(tactic| walk_at "ws_tac") => `(tactic| ((repeat walk_at "ws1_tac"); try (conv => whnf)))
theorem at_n {β : Type} {xs : List β} {k : Nat} {x : β} (h : xs[k]? = some x) : atI xs (k : Int) = some x := by
  have hk := (List.getElem?_eq_some_iff.mp h).1
  unfold atI ixN
  rw [if_pos (by omega), if_pos (by omega)]
  simpa using h
theorem at_0 {β : Type} {a : β} {t : List β} : atI (a :: t) 0 = some a := at_n (k := 0) rfl
theorem at_1 {β : Type} {a b : β} {t : List β} : atI (a :: b :: t) 1 = some b := at_n (k := 1) rfl
def SrcO (o : Option (Option OD)) (n : Int) : Prop := ∃ a m c d : Int, o = some (some (.lst [.int a, .int m, .int c, .int d])) ∧ 0 ≤ c ∧ c ≤ n
def Src (M : Ms) (k : Nat) (n : Int) : Prop := SrcO M[k]? n
def Sib (M M' : Ms) (k : Nat) : Prop := M.length ≤ M'.length ∧ ∀ j, j < M.length → j ≠ k → M'[j]? = M[j]?
theorem Sib.refl {M : Ms} {k : Nat} : Sib M M k := ⟨Nat.le_refl _, fun _ _ _ => rfl⟩
theorem Sib.trans {M M' M'' : Ms} {k : Nat} (a : Sib M M' k) (b : Sib M' M'' k) : Sib M M'' k := ⟨Nat.le_trans a.1 b.1, fun j h e => (b.2 j (Nat.lt_of_lt_of_le h a.1) e).trans (a.2 j h e)⟩
theorem Sib.set {M : Ms} {k : Nat} {o : Option OD} : Sib M (M.set k o) k := ⟨by simp, fun j _ e => by rw [List.getElem?_set_ne (fun z => e z.symm)]⟩
theorem Sib.push {M : Ms} {k : Nat} {o : Option OD} : Sib M (M ++ [o]) k := ⟨by simp, fun j h _ => List.getElem?_append_left h⟩
theorem Src.lt {M : Ms} {k : Nat} {n : Int} (h : Src M k n) : k < M.length := by
  obtain ⟨_, _, _, _, e, _⟩ := h
  exact (List.getElem?_eq_some_iff.mp e).1
theorem Src.set {M : Ms} {k : Nat} {n a m c d : Int} (h : k < M.length) (h0 : 0 ≤ c) (h1 : c ≤ n) : Src (M.set k (some (.lst [.int a, .int m, .int c, .int d]))) k n := ⟨a, m, c, d, List.getElem?_set_self h, h0, h1⟩
theorem Src.le {M : Ms} {k : Nat} {n n' : Int} (h : Src M k n) (e : n ≤ n') : Src M k n' := by
  obtain ⟨a, m, c, d, e1, e2, e3⟩ := h
  exact ⟨a, m, c, d, e1, e2, by omega⟩
theorem Src.push {M : Ms} {k : Nat} {n : Int} {o : Option OD} (h : Src M k n) : Src (M ++ [o]) k n := by
  have hl := h.lt
  unfold Src
  rw [List.getElem?_append_left hl]
  exact h
def P_mixed : GP := fun ds Q => match ds with
  | [.int i, .int c] => 0 ≤ c ∧ c ≤ 1000000 ∧ ∀ r : Int, 0 ≤ r → r < 2147483629 → Q (.int r)
  | _ => False
theorem P_mixed_mono : monoP P_mixed := fun ds P Q w q => by
  match ds, q with
  | [.int i, .int c], ⟨h1, h2, q⟩ => exact ⟨h1, h2, fun r a b => w _ (q r a b)⟩
theorem sp_mixed : ∀ ds Q, P_mixed ds Q → fnC 3 2 t_law_mixed ds Q := fun ds Q q => by
  match ds, q with
  | [.int i, .int c], ⟨h1, h2, q⟩ =>
    refine ⟨rfl, ?_⟩
    have hm : ∀ x : Int, 0 ≤ x % 2147483629 ∧ x % 2147483629 < 2147483629 := fun x => ⟨Int.emod_nonneg _ (by decide), Int.emod_lt_of_pos _ (by decide)⟩
    walk_at "ws_tac"
    refine ⟨show CMul _ _ from .inr ⟨?_, ?_⟩, ?_⟩
    · omega
    · omega
    walk_at "ws_tac"
    refine ⟨show CMul _ _ from .inl ⟨?_, ?_⟩, ?_⟩
    · have := hm ((i % 2147483629 + 69621 * c + 1) * (48271 + 2 * c)); omega
    · have := hm ((i % 2147483629 + 69621 * c + 1) * (48271 + 2 * c)); omega
    walk_at "ws_tac"
    refine ⟨show CMul _ _ from .inl ⟨?_, ?_⟩, ?_⟩
    · refine Int.lt_of_lt_of_le ?_ (hm _).1; decide
    · exact Int.lt_trans (hm _).2 (by decide)
    walk_at "ws_tac"
    exact q _ (hm _).1 (hm _).2
def P_next : GN := fun ds M Q => ∃ (k : Nat) (many n : Int), ds = [.loc k, .int many] ∧ 0 < many ∧ many < 18446744073709551616 ∧ Src M k n ∧ n < 1000000 ∧ ∀ (r : Int) (M' : Ms), 0 ≤ r → r < many → Src M' k (n + 1) → Sib M M' k → Q (.int r) M'
theorem P_next_mono : monoN P_next := fun ds M P Q w ⟨k, many, n, h1, h2, h3, h4, h5, q⟩ => ⟨k, many, n, h1, h2, h3, h4, h5, fun r M' a b c d => w _ _ (q r M' a b c d)⟩
theorem vw_loc {M : Ms} {k : Nat} {o : OD} (h : M[k]? = some (some o)) : vw M (.loc k) = o.toD := by
  show vwk k M[k]? = _
  rw [h]
  rfl
theorem ix_loc {M : Ms} {k : Nat} {xs : List D} {i : Int} {d : D} {Q : DK} (h : M[k]? = some (some (.lst xs))) (e : atI xs i = some d) (q : Q d M) : gIx (.loc k) (.int i) M Q := by
  unfold gIx
  rw [vw_loc h]
  exact ⟨d, e, q⟩
theorem sub_loc {δ : DSt} {M : Ms} {k : Nat} {xs : List D} {i : Int} {n : Nat} {v : D} {Q : DSt → Ms → Prop} (h0 : δ[0]? = some (some (.loc k))) (h : M[k]? = some (some (.lst xs))) (e : ixN xs.length i = some n) (q : Q δ (M.set k (some (.lst (xs.set n v))))) : dgSub (dVar 0) (dC (.int i)) v δ M Q := by
  unfold dgSub dVar dC
  rw [h0]
  simp only [h]
  exact ⟨n, e, q⟩
local macro_rules | `(tactic| walk_at "rs_tac") => `(tactic| simp only [dSeq, dNext, dAsg, dOp, dC, dIfS, dAnd, rd_test, dVar_cons0, dVar_succ, dRet, dCB, dCons, dNil, dSet, startD, gEq, rv_int, cmpE_int, kTest_bl, gI_int, gI0_int, gPlus_ii, List.map_cons, List.map_nil, List.cons_append, List.nil_append, List.replicate, List.length_cons, List.length_nil, Nat.reduceAdd, Nat.reduceSub, List.set_cons_succ, List.set_cons_zero, if_true, if_false, reduceIte, Bool.false_eq_true])
theorem sp_next : ∀ ds M Q, P_next ds M Q → fnG 3 2 (t_law_next (cl P_mixed)) ds M Q := fun ds M Q ⟨k, many, n, h1, h2, h3, h4, h5, q⟩ => by
  subst h1
  have hl := h4.lt
  obtain ⟨a, m, c, d, e, c0, c1⟩ := h4
  refine ⟨rfl, ?_⟩
  have hmod : ∀ x : Int, 0 ≤ x % many ∧ x % many < many := fun x => ⟨Int.emod_nonneg _ (by omega), Int.emod_lt_of_pos _ h2⟩
  have e2 : (M.set k (some (.lst [.int a, .int m, .int (c + 1), .int d])))[k]? = some (some (.lst [.int a, .int m, .int (c + 1), .int d])) := List.getElem?_set_self hl
  have mixedWay : gIx (.loc k) (.int 2) M fun x M1 => gPlus x (.int 1) M1 fun v M2 => dgSub (dVar 0) (dC (.int 2)) v [some (.loc k), some (.int many), none] M2 fun δ M3 => (dRet (dOp (gI (fun _ j => 0 < j) fun i j => .int (i % j)) (dCB (cl P_mixed) (dCons (dOp gIx (dVar 0) (dC (.int 3))) (dCons (dOp gIx (dVar 0) (dC (.int 2))) dNil))) (dVar 1))) ⟨fun _ M' => Q .non M', Q, fun _ _ => False, fun _ _ => False⟩ δ M3 := by
    refine ix_loc e (at_n (k := 2) rfl) ?_
    walk_at "rs_tac"
    refine sub_loc rfl e rfl ?_
    walk_at "rs_tac"
    refine ix_loc e2 (at_n (k := 3) rfl) ?_
    refine ix_loc e2 (at_n (k := 2) rfl) ?_
    refine ⟨rfl, ?_, ?_, fun r r0 r1 => ⟨h2, ?_⟩⟩
    · omega
    · omega
    · exact q _ _ (hmod r).1 (hmod r).2 (Src.set hl (by omega) (by omega)) Sib.set
  unfold t_law_next
  walk_at "rs_tac"
  refine ix_loc e at_1 ?_
  walk_at "rs_tac"
  cases em : m == 0 with
  | false => walk_at "rs_tac"; exact mixedWay
  | true =>
    walk_at "rs_tac"
    refine ix_loc e at_0 ?_
    walk_at "rs_tac"
    by_cases ha : 1 < a
    · rw [if_pos (decide_eq_true ha)]
      refine ix_loc e at_0 ?_
      refine ⟨h2, ?_⟩
      refine ix_loc e at_0 ?_
      refine ⟨⟨h2, h3⟩, ?_⟩
      refine sub_loc rfl e rfl ?_
      exact q _ _ (hmod a).1 (hmod a).2 (Src.set hl c0 (by omega)) Sib.set
    · rw [if_neg (by simp [ha])]
      exact mixedWay
def P_source : GN := fun ds M Q => match ds with
  | [.int i] => Q (.loc M.length) (M ++ [some (.lst [.int (i / 2), .int (i % 2), .int 0, .int i])])
  | _ => False
theorem P_source_mono : monoN P_source := fun ds M P Q w q => by
  match ds, q with
  | [.int i], q => exact w _ _ q
theorem sp_source : ∀ ds M Q, P_source ds M Q → fnG 1 1 t_law_source ds M Q := fun ds M Q q => by
  match ds, q with
  | [.int i], q =>
    refine ⟨rfl, ?_⟩
    walk_at "ws_tac"
    exact q
theorem at_lit {xs : List Int} {r : Int} (h0 : 0 ≤ r) (h1 : r < xs.length) : ∃ i ∈ xs, atI (iD xs) r = some (.int i) := by
  obtain ⟨k, rfl⟩ := Int.eq_ofNat_of_zero_le h0
  have hk : k < xs.length := by omega
  exact ⟨xs[k], List.getElem_mem hk, at_n (by simp [hk])⟩
theorem ix_lit {xs : List Int} {r : Int} {M : Ms} {Q : DK} (h0 : 0 ≤ r) (h1 : r < xs.length) (q : ∀ i ∈ xs, Q (.int i) M) : gIx (.lst (iD xs)) (.int r) M Q := by
  obtain ⟨i, hi, e⟩ := at_lit h0 h1
  exact ⟨_, e, q i hi⟩
end K61
set_option Elab.async false
set_option linter.all false
set_option maxRecDepth 100000
set_option maxHeartbeats 4000000
namespace K61
open PySem PySem.Spec L2 L3
open FJ (Rw isW okB okN ptD Pt low)
theorem nx {k : Nat} {many n : Int} {M : Ms} {Q : DK} (h : Src M k n) (hn : n < 1000000) (h0 : 0 < many) (h1 : many < 18446744073709551616) (q : ∀ (r : Int) (M' : Ms), 0 ≤ r → r < many → Src M' k (n + 1) → Sib M M' k → Q (.int r) M') : P_next [.loc k, .int many] M Q := ⟨k, many, n, rfl, h0, h1, h, hn, q⟩
theorem Sib.set_out {M M' : Ms} {k j : Nat} {o : Option OD} (h : Sib M M' k) (hj : M.length ≤ j) : Sib M (M'.set j o) k := ⟨by rw [List.length_set]; exact h.1, fun i hi hk => by rw [List.getElem?_set_ne (by omega)]; exact h.2 i hi hk⟩
theorem Src.set_ne {M : Ms} {k j : Nat} {n : Int} {o : Option OD} (h : Src M k n) (hj : j ≠ k) : Src (M.set j o) k n := by
  unfold Src
  rw [List.getElem?_set_ne hj]; exact h
theorem Sib.unpush {M M' : Ms} {k : Nat} {o : Option OD} (h : Sib (M ++ [o]) M' k) : Sib M M' k := ⟨by have := h.1; rw [List.length_append] at this; omega, fun j hj hk => by rw [h.2 j (by rw [List.length_append]; omega) hk, List.getElem?_append_left hj]⟩
def Pool (ws : List Str) : Prop := 1 ≤ ws.length ∧ ws.length ≤ 50 ∧ ∀ w ∈ ws, isW w = true
def P_aim : GN := fun ds M Q => ∃ (k : Nat) (n : Int) (ws : List Str), ds = [.loc k, .lst (ws.map .str)] ∧ Pool ws ∧ Src M k n ∧ n < 1000000 ∧ ∀ (w : Str) (M' : Ms), isW w = true → Src M' k (n + 1) → Sib M M' k → Q (.str w) M'
theorem P_aim_mono : monoN P_aim := fun ds M P Q w ⟨k, n, ws, h1, h2, h3, h4, q⟩ => ⟨k, n, ws, h1, h2, h3, h4, fun r M' a b c => w _ _ (q r M' a b c)⟩
theorem sp_aim : ∀ ds M Q, P_aim ds M Q → fnG 2 2 (t_law_aim P_next) ds M Q := fun ds M Q ⟨k, n, ws, h1, ⟨p0, p1, p2⟩, h3, h4, q⟩ => by
  subst h1
  have nx := @nx
  unfold t_law_aim
  generalize P_next = gn at nx ⊢
  refine ⟨rfl, ws.length, by show some (ws.map D.str).length = _; rw [List.length_map], nx h3 h4 (by omega) (by omega) fun r M' r0 r1 s sb => ?_⟩
  obtain ⟨j, rfl⟩ := Int.eq_ofNat_of_zero_le r0
  have hj : j < ws.length := by omega
  exact ⟨_, at_n (k := j) (by rw [List.getElem?_map, List.getElem?_eq_getElem hj]; rfl), q _ _ (p2 _ (List.getElem_mem hj)) s sb⟩
theorem am {k : Nat} {n : Int} {ws : List Str} {M : Ms} {Q : DK} (p : Pool ws) (h : Src M k n) (hn : n < 1000000) (q : ∀ (w : Str) (M' : Ms), isW w = true → Src M' k (n + 1) → Sib M M' k → Q (.str w) M') : P_aim [.loc k, .lst (ws.map .str)] M Q := ⟨k, n, ws, rfl, p, h, hn, q⟩
structure Pools (M : Ms) (kp : Nat) (a b c : List Str) : Prop where
  e : M[kp]? = some (some (.lst [.lst (a.map .str), .lst (b.map .str), .lst (c.map .str)]))
  pa : Pool a
  pb : Pool b
  pc : Pool c
  l : a.length + b.length + c.length ≤ 40
theorem Pools.sib {M M' : Ms} {kp k : Nat} {a b c : List Str} (h : Pools M kp a b c) (s : Sib M M' k) (ne : kp ≠ k) : Pools M' kp a b c := by
  have hl := (List.getElem?_eq_some_iff.mp h.e).1
  exact ⟨by rw [s.2 kp hl ne]; exact h.e, h.pa, h.pb, h.pc, h.l⟩
theorem Pools.ix {M : Ms} {kp : Nat} {a b c : List Str} (h : Pools M kp a b c) {Q : DK} : (Q (.lst (a.map .str)) M → gIx (.loc kp) (.int 0) M Q) ∧ (Q (.lst (b.map .str)) M → gIx (.loc kp) (.int 1) M Q) ∧ (Q (.lst (c.map .str)) M → gIx (.loc kp) (.int 2) M Q) :=
  ⟨fun q => ix_loc h.e (at_n (k := 0) rfl) q, fun q => ix_loc h.e (at_n (k := 1) rfl) q, fun q => ix_loc h.e (at_n (k := 2) rfl) q⟩
def P_code : GN := fun ds M Q => ∃ (k kp : Nat) (n : Int) (a b c : List Str), ds = [.loc k, .loc kp] ∧ kp ≠ k ∧ Pools M kp a b c ∧ Src M k n ∧ n < 900000 ∧ ∀ (r : Rw) (M' : Ms), r.ok = true → Src M' k (n + 6) → Sib M M' k → Q r.d M'
theorem P_code_mono : monoN P_code := fun ds M P Q w ⟨k, kp, n, a, b, c, h1, h2, h3, h4, h5, q⟩ => ⟨k, kp, n, a, b, c, h1, h2, h3, h4, h5, fun r M' a b c => w _ _ (q r M' a b c)⟩
theorem okB_lt {b : Int} (h0 : 0 ≤ b) (h1 : b < 4) : okB b = true := by unfold okB; rw [Bool.and_eq_true, decide_eq_true_eq, decide_eq_true_eq]; omega
theorem okN_lt {b : Int} (h0 : -2147483648 ≤ b) (h1 : b ≤ 2147483647) : okN b = true := by unfold okN; rw [Bool.and_eq_true, decide_eq_true_eq, decide_eq_true_eq]; omega
theorem sp_code : ∀ ds M Q, P_code ds M Q → fnG 6 2 (t_law_code_row P_next P_aim) ds M Q := fun ds M Q ⟨k, kp, n, A, B, C, h1, hk, hp, hs, hn, q⟩ => by
  subst h1
  have nx := @nx
  have am := @am
  have i0 := @Pools.ix
  have il : ∀ {xs : List D} {i : Int} {d : D} {M : Ms} {Q : DK}, atI xs i = some d → Q d M → gIx (.lst xs) (.int i) M Q := fun e q => ⟨_, e, q⟩
  have L : ∀ {a b : Nat}, Nat.ble a b = true → a ≤ b := Nat.le_of_ble_eq_true
  unfold t_law_code_row
  generalize P_next = gn at nx ⊢
  generalize P_aim = ga at am ⊢
  generalize gIx = gx at i0 il ⊢
  refine ⟨rfl, nx hs (by omega) (by decide) (by decide) fun r0 M0 a0 a1 s0 b0 => ?_⟩
  refine nx s0 (by omega) (by decide) (by decide) fun r1 M1 b0' b1 s1 b1' => ?_
  refine nx s1 (by omega) (by decide) (by decide) fun r2 M2 c0 c1 s2 b2 => ?_
  have sb := (b0.trans b1').trans b2
  have hp2 := hp.sib sb hk
  have ob := okB_lt b0' b1
  have oc := okB_lt c0 c1
  have fin : ∀ (r : Rw) (M' : Ms) (n' : Int), r.ok = true → Src M' k n' → n' ≤ n + 6 → Sib M2 M' k → Q r.d M' := fun r M' n' h s hn sb' => q r M' h (s.le hn) (sb.trans sb')
  have hv : r0 = 0 ∨ r0 = 1 ∨ r0 = 2 ∨ r0 = 3 ∨ r0 = 4 ∨ r0 = 5 ∨ r0 = 6 ∨ r0 = 7 ∨ r0 = 8 ∨ r0 = 9 ∨ r0 = 10 ∨ r0 = 11 ∨ r0 = 12 ∨ r0 = 13 := by omega
  have bb : (okB r1 && okB r2) = true := by rw [ob, oc]; rfl
  rcases hv with rfl | rfl | rfl | rfl | rfl | rfl | rfl | rfl | rfl | rfl | rfl | rfl | rfl | rfl
  · exact nx s2 (by omega) (by decide) (by decide) fun x M3 x0 x1 s3 b3 => ⟨L rfl, fin (.set r1 (x - 2)) _ _ (by show (okB r1 && okN _) = true; rw [ob, okN_lt (by omega) (by omega)]; rfl) s3 (by omega) b3⟩
  · exact nx s2 (by omega) (by decide) (by decide) fun x M3 x0 x1 s3 b3 => ⟨L rfl, fin (.set r1 (x - 2)) _ _ (by show (okB r1 && okN _) = true; rw [ob, okN_lt (by omega) (by omega)]; rfl) s3 (by omega) b3⟩
  · exact ⟨L rfl, L rfl, L rfl, L rfl, L rfl, il rfl (fin (.add r1 r2) _ _ bb s2 (by omega) Sib.refl)⟩
  · exact ⟨L rfl, L rfl, L rfl, L rfl, L rfl, il rfl (fin (.take r1 r2) _ _ bb s2 (by omega) Sib.refl)⟩
  · exact ⟨L rfl, L rfl, L rfl, L rfl, L rfl, il rfl (fin (.say r1) _ _ ob s2 (by omega) Sib.refl)⟩
  · exact ⟨L rfl, L rfl, L rfl, L rfl, L rfl, il rfl (fin (.ask r1) _ _ ob s2 (by omega) Sib.refl)⟩
  · exact (i0 hp2).1 (am hp2.pa s2 (by omega) fun w M3 hw s3 b3 => ⟨L rfl, fin (.jumpif r1 w) _ _ (by show (okB r1 && isW w) = true; rw [ob, hw]; rfl) s3 (by omega) b3⟩)
  · exact (i0 hp2).1 (am hp2.pa s2 (by omega) fun w M3 hw s3 b3 => ⟨L rfl, fin (.call w) _ _ hw s3 (by omega) b3⟩)
  · exact (i0 hp2).2.1 (am hp2.pb s2 (by omega) fun w M3 hw s3 b3 => ⟨L rfl, fin (.load r1 r2 w) _ _ (by show (okB r1 && okB r2 && isW w) = true; rw [ob, oc, hw]; rfl) s3 (by omega) b3⟩)
  · have l1 := hp2.pa
    have l2 := hp2.pb
    have l3 := hp2.pc
    have ll := hp2.l
    have pl : Pool (A ++ B ++ C) := ⟨by rw [List.length_append, List.length_append]; have := l1.1; omega, by rw [List.length_append, List.length_append]; omega, fun w hw => by
      rcases List.mem_append.mp hw with hw | hw
      · rcases List.mem_append.mp hw with hw | hw
        · exact l1.2.2 w hw
        · exact l2.2.2 w hw
      · exact l3.2.2 w hw⟩
    have em : A.map D.str ++ B.map D.str ++ C.map D.str = (A ++ B ++ C).map D.str := by rw [List.map_append, List.map_append]
    refine (i0 hp2).1 ((i0 hp2).2.1 ⟨?_, (i0 hp2).2.2 ⟨?_, ?_⟩⟩)
    · rw [List.length_map, List.length_map]; exact Nat.le_trans (show A.length + B.length ≤ 40 by omega) (by decide)
    · rw [List.length_append, List.length_map, List.length_map, List.length_map]; exact Nat.le_trans ll (by decide)
    rw [em]
    refine am pl s2 (by omega) fun w M3 hw s3 b3 => ?_
    exact am pl s3 (by omega) fun v M4 hv s4 b4 => ⟨L rfl, fin (.alike r1 w v) _ _ (by show (okB r1 && isW w && isW v) = true; rw [ob, hw, hv]; rfl) s4 (by omega) (b3.trans b4)⟩
  · exact nx s2 (by omega) (by decide) (by decide) fun x M3 x0 x1 s3 b3 => ⟨L rfl, fin (.set r1 (x - 2147483648)) _ _ (by show (okB r1 && okN _) = true; rw [ob, okN_lt (by omega) (by omega)]; rfl) s3 (by omega) b3⟩
  all_goals exact ⟨L rfl, fin (.say r1) _ _ ob s2 (by omega) Sib.refl⟩
def P_last : GN := fun ds M Q => ∃ (k kp : Nat) (n : Int) (a b c : List Str), ds = [.loc k, .loc kp] ∧ kp ≠ k ∧ Pools M kp a b c ∧ Src M k n ∧ n < 900000 ∧ ∀ (r : Rw) (M' : Ms), r.ok = true → Src M' k (n + 3) → Sib M M' k → Q r.d M'
theorem P_last_mono : monoN P_last := fun ds M P Q w ⟨k, kp, n, a, b, c, h1, h2, h3, h4, h5, q⟩ => ⟨k, kp, n, a, b, c, h1, h2, h3, h4, h5, fun r M' a b c => w _ _ (q r M' a b c)⟩
theorem sp_last : ∀ ds M Q, P_last ds M Q → fnG 3 2 (t_law_last_row P_next P_aim) ds M Q := fun ds M Q ⟨k, kp, n, A, B, C, h1, hk, hp, hs, hn, q⟩ => by
  subst h1
  have nx := @nx
  have am := @am
  have i0 := @Pools.ix
  have L : ∀ {a b : Nat}, Nat.ble a b = true → a ≤ b := Nat.le_of_ble_eq_true
  unfold t_law_last_row
  generalize P_next = gn at nx ⊢
  generalize P_aim = ga at am ⊢
  generalize gIx = gx at i0 ⊢
  refine ⟨rfl, nx hs (by omega) (by decide) (by decide) fun r0 M0 a0 a1 s0 b0 => ?_⟩
  have hp2 := hp.sib b0 hk
  have fin : ∀ (r : Rw) (M' : Ms) (n' : Int), r.ok = true → Src M' k n' → n' ≤ n + 3 → Sib M0 M' k → Q r.d M' := fun r M' n' h s hn sb' => q r M' h (s.le hn) (b0.trans sb')
  have hv : r0 = 0 ∨ r0 = 1 ∨ r0 = 2 ∨ r0 = 3 ∨ r0 = 4 := by omega
  rcases hv with rfl | rfl | rfl | rfl | rfl
  · exact (i0 hp2).1 (am hp2.pa s0 (by omega) fun w M3 hw s3 b3 => ⟨L rfl, fin (.jump w) _ _ hw s3 (by omega) b3⟩)
  · refine nx s0 (by omega) (by decide) (by decide) fun x M3 x0 x1 s3 b3 => ?_
    have hp3 := hp2.sib b3 hk
    exact (i0 hp3).2.2 (am hp3.pc s3 (by omega) fun w M4 hw s4 b4 => ⟨L rfl, fin (.jumpby x w) _ _ (by show (okB x && isW w) = true; rw [okB_lt x0 x1, hw]; rfl) s4 (by omega) (b3.trans b4)⟩)
  · exact ⟨L rfl, fin .back _ _ rfl s0 (by omega) Sib.refl⟩
  · exact ⟨L rfl, fin .stop _ _ rfl s0 (by omega) Sib.refl⟩
  · exact ⟨L rfl, fin .stop _ _ rfl s0 (by omega) Sib.refl⟩
def P_weak : GN := fun ds M Q => ∃ (k : Nat) (n : Int) (ws : List Str), ds = [.loc k, .lst (ws.map .str)] ∧ Pool ws ∧ Src M k n ∧ n < 900000 ∧ ∀ (rs : List Rw) (M' : Ms), (∀ r ∈ rs, r.ok = true) → rs.length ≤ 2 → Src M' k (n + 3) → Sib M M' k → Q (.lst (rs.map Rw.d)) M'
theorem P_weak_mono : monoN P_weak := fun ds M P Q w ⟨k, n, ws, h1, h2, h3, h4, q⟩ => ⟨k, n, ws, h1, h2, h3, h4, fun r M' a b c d => w _ _ (q r M' a b c d)⟩
theorem sp_weak : ∀ ds M Q, P_weak ds M Q → fnG 4 2 (t_law_weak P_next P_aim) ds M Q := fun ds M Q ⟨k, n, ws, h1, hp, hs, hn, q⟩ => by
  subst h1
  have nx := @nx
  have am := @am
  have L : ∀ {a b : Nat}, Nat.ble a b = true → a ≤ b := Nat.le_of_ble_eq_true
  have hk := hs.lt
  unfold t_law_weak
  generalize P_next = gn at nx ⊢
  generalize P_aim = ga at am ⊢
  refine ⟨rfl, L rfl, nx hs.push (by omega) (by decide) (by decide) fun r0 M0 a0 a1 s0 b0 => ?_⟩
  refine ⟨⟨by omega, by omega⟩, trivial, ?_⟩
  have ne : M.length ≠ k := by omega
  have e0 : M0[M.length]? = some (some (.lst [])) := by
    rw [b0.2 M.length (by simp) ne]; simp
  refine forD_inv (fun j δ M' => ∃ rs : List Rw, (∀ r ∈ rs, r.ok = true) ∧ rs.length = j ∧ Src M' k (n + 1 + j) ∧ Sib M M' k ∧ M'[M.length]? = some (some (.lst (rs.map Rw.d))) ∧ ∃ o, δ = [some (.loc k), some (.lst (ws.map .str)), some (.loc M.length), o]) (fun _ _ _ _ => trivial) _ 0 _ _ ⟨[], (fun _ h => nomatch h), rfl, by simpa using s0, b0.unpush, e0, none, rfl⟩ (fun j x δ M' hx hp' N hN => ?_) (fun δ M' hp' => ?_)
  · obtain ⟨rs, h1, h2, h3, h4, h5, o, rfl⟩ := hp'
    have hj : j < r0.toNat := by
      have := (List.getElem?_eq_some_iff.mp hx).1
      unfold rngD at this
      simpa using this
    have hv : vw M' (.loc M.length) = .lst (rs.map Rw.d) := vw_loc h5
    refine ⟨by show tyD "list" (vw M' (.loc M.length)) = true; rw [hv]; rfl, am hp h3 (by omega) fun w M2 hw s2 b2 => ?_⟩
    have hl2 : M.length < M'.length := (List.getElem?_eq_some_iff.mp h5).1
    have e2 : M2[M.length]? = some (some (.lst (rs.map Rw.d))) := by rw [b2.2 _ hl2 ne]; exact h5
    have hl3 : M.length < M2.length := (List.getElem?_eq_some_iff.mp e2).1
    refine ⟨L rfl, _, e2, by rw [List.length_map]; exact Nat.lt_of_le_of_lt (show rs.length ≤ 10 by omega) (by decide), hN _ _ ⟨rs ++ [.mark w false], ?_, ?_, ?_, ?_, ?_, _, rfl⟩⟩
    · intro r hr
      rcases List.mem_append.mp hr with hr | hr
      · exact h1 r hr
      · rw [List.mem_singleton.mp hr]; exact hw
    · rw [List.length_append, h2]; rfl
    · exact (s2.le (by omega)).set_ne ne
    · exact (h4.trans b2).set_out (Nat.le_refl _)
    · rw [List.getElem?_set_self hl3, List.map_append]; rfl
  · obtain ⟨rs, h1, h2, h3, h4, h5, o, rfl⟩ := hp'
    have hz : (rngD 0 r0.toNat).length = r0.toNat := by unfold rngD; simp
    rw [hz] at h2 h3
    refine ⟨M.length, _, rfl, h5, q rs _ h1 (by omega) ((h3.le (by omega)).set_ne ne) (h4.set_out (Nat.le_refl _))⟩
end K61
set_option Elab.async false
set_option linter.all false
set_option maxRecDepth 100000
set_option maxHeartbeats 4000000
namespace K61
open PySem PySem.Spec L2 L3
open FJ (Rw isW okB okN ptD Pt low)
theorem compD_inv {fr : List (Option Nat)} {g : DG} {tt : DT} {te : DE} {st : Ms → Prop} {Q : List D → Ms → Prop} {δ0 : DSt} (Pv : Nat → List D → Ms → Prop) (hst : ∀ j a M, Pv j a M → st M) : ∀ (xs : List D) (i : Nat) (acc : List D) (M : Ms), Pv i acc M → acc.length + xs.length ≤ sizeLine →
    (∀ j x acc M, xs[j]? = some x → Pv (i + j) acc M → ∀ Kk : Option D → DSt → Ms → Prop, (∀ d δ1 M1, rst fr δ1 = δ0 → Pv (i + j + 1) (acc ++ [d]) M1 → Kk (some d) δ1 M1) → stepD g tt te x δ0 M Kk) → (∀ acc M, Pv (i + xs.length) acc M → Q acc M) → compD fr g tt te st Q xs acc δ0 M
  | [], i, acc, M, p, _, _, z => z acc M p
  | x :: xs, i, acc, M, p, hl, h, z => by
    unfold compD
    rw [List.length_cons] at hl
    refine h 0 x acc M rfl p _ fun d δ1 M1 e1 p1 => ⟨hst _ _ _ p1, by omega, ?_⟩
    rw [e1]
    refine compD_inv Pv hst xs (i + 1) (acc ++ [d]) M1 p1 (by rw [List.length_append]; show acc.length + 1 + _ ≤ _; omega) (fun j x acc M hx hp Kk hK => ?_) fun acc M hp => z acc M (by rw [List.length_cons]; rw [show i + 1 + xs.length = i + (xs.length + 1) by omega] at hp; exact hp)
    have := h (j + 1) x acc M (by simpa using hx) (by rw [show i + (j + 1) = i + 1 + j by omega]; exact hp) Kk
    rw [show i + (j + 1) + 1 = i + 1 + j + 1 by omega] at this
    exact this hK
structure Rs (B0 : Ms) (k kc : Nat) (cs : List D) (M : Ms) (kr : Nat) (rs : List Rw) (n : Int) : Prop where
  src : Src M k n
  sib : Sib B0 M k
  e : M[kr]? = some (some (.lst (rs.map Rw.d)))
  c : M[kc]? = some (some (.lst cs))
  lr : B0.length ≤ kr
  lc : B0.length ≤ kc
  ne : kr ≠ kc
  k0 : k < B0.length
  ok : ∀ r ∈ rs, r.ok = true
section
variable {B0 M M' : Ms} {k kc kr : Nat} {cs : List D} {rs rs' : List Rw} {n n' : Int}
theorem Rs.go (h : Rs B0 k kc cs M kr rs n) (s : Src M' k n') (b : Sib M M' k) : Rs B0 k kc cs M' kr rs n' := by
  have h1 := (List.getElem?_eq_some_iff.mp h.e).1
  have h2 := (List.getElem?_eq_some_iff.mp h.c).1
  have := h.lr; have := h.lc; have := h.k0
  exact ⟨s, h.sib.trans b, by rw [b.2 kr h1 (by omega)]; exact h.e, by rw [b.2 kc h2 (by omega)]; exact h.c, h.lr, h.lc, h.ne, h.k0, h.ok⟩
theorem ok_app (h : ∀ r ∈ rs, r.ok = true) (h' : ∀ r ∈ rs', r.ok = true) : ∀ r ∈ rs ++ rs', r.ok = true := fun r hr => (List.mem_append.mp hr).elim (h r) (h' r)
theorem Rs.ap {r : Rw} {Q : DK} (h : Rs B0 k kc cs M kr rs n) (hl : rs.length ≤ 90) (hr : r.ok = true) (q : ∀ M', Rs B0 k kc cs M' kr (rs ++ [r]) n → Q .non M') : gmAppend (.loc kr) [r.d] M Q := by
  have h1 := (List.getElem?_eq_some_iff.mp h.e).1
  have := h.lr; have := h.lc; have := h.k0
  refine ⟨_, h.e, by rw [List.length_map]; exact Nat.lt_of_le_of_lt hl (by decide), q _ ⟨h.src.set_ne (by omega), h.sib.set_out h.lr, ?_, ?_, h.lr, h.lc, h.ne, h.k0, ok_app h.ok fun x hx => by rw [List.mem_singleton.mp hx]; exact hr⟩⟩
  · rw [List.getElem?_set_self h1, List.map_append]; rfl
  · rw [List.getElem?_set_ne h.ne]; exact h.c
theorem Rs.new (h : Rs B0 k kc cs M kr rs n) (h' : ∀ r ∈ rs', r.ok = true) : Rs B0 k kc cs (M ++ [some (.lst (rs'.map Rw.d))]) M.length rs' n := by
  have h2 := (List.getElem?_eq_some_iff.mp h.c).1
  have := h.sib.1
  exact ⟨h.src.push, h.sib.trans Sib.push, by simp, by rw [List.getElem?_append_left h2]; exact h.c, this, h.lc, by omega, h.k0, h'⟩
theorem Rs.ty (h : Rs B0 k kc cs M kr rs n) : tyD "list" (vw M (.loc kr)) = true := by rw [vw_loc h.e]; rfl
theorem Rs.plus (h : Rs B0 k kc cs M kr rs n) (hl : rs.length + rs'.length ≤ 90) {Q : OD → Ms → Prop} (q : Q (.lst ((rs ++ rs').map Rw.d)) M) : gfPlus (.loc kr) (.lst (rs'.map Rw.d)) M Q := by
  unfold gfPlus
  rw [vw_loc h.e]
  refine ⟨by rw [List.length_map, List.length_map]; exact Nat.le_trans hl (by decide), ?_⟩
  rw [← List.map_append]; exact q
end
def lpD (g_law_next : GN) (g_law_weak : GN) (g_law_aim : GN) : DS := (dSeq (dDrop (dBM "list" gmAppend (dVar 8) (dCons (dTup (dCons (dC (.str "numbers")) (dCons (dNew (fComp [none, some 12] (iRng1D (dCons (dVar 11) dNil)) (dgName 0) dYes (dOp (gI0 fun i j => .int (i - j)) (dOp gMul (dVar 1) (dVar 0)) (dC (.int 3))))) dNil))) dNil)))
  (dSeq (dSet 8 (dOwn (fPlus (dOp gPlus (dVar 8) (dCB g_law_weak (dCons (dVar 0) (dCons (dOp gIx (dVar 3) (dC (.int 2))) dNil)))) (dNew (fLst (dCons (dTup (dCons (dC (.str "mark")) (dCons (dOp gIx (dOp gIx (dVar 3) (dC (.int 2))) (dVar 2)) (dCons (dC (.bl false)) dNil)))) dNil))))))
  (dSeq (dDrop (dBM "list" gmAppend (dVar 8) (dCons (dTup (dCons (dC (.str "table")) (dCons (dNew (fComp [none, some 0, some 3] (iRng1D (dCons (dOp gPlus (dC (.int 1)) (dCB g_law_next (dCons (dVar 0) (dCons (dC (.int 4)) dNil)))) dNil)) (dgName 0) dYes (dCB g_law_aim (dCons (dVar 1) (dCons (dOp gIx (dVar 2) (dC (.int 0))) dNil))))) dNil))) dNil)))
  (dRet (dTup (dCons (dVar 1) (dCons (dGive 8) dNil)))))))
def lpC (g_law_next : GN) (g_law_weak : GN) (g_law_aim : GN) : DS := (dSeq (dSet 11 (dOp gIx (dNew (fLst (dCons (dC (.int 1)) (dCons (dC (.int 3)) (dCons (dC (.int 20)) (dCons (dC (.int 40)) (dCons (dC (.int 60)) dNil))))))) (dCB g_law_next (dCons (dVar 0) (dCons (dC (.int 5)) dNil)))))
  (dSeq (dSet 12 (dOp (gI0 fun i j => .int (i - j)) (dCB g_law_next (dCons (dVar 0) (dCons (dC (.int 90)) dNil))) (dC (.int 9))))
  (dSeq (dDrop (dBM "list" gmAppend (dVar 8) (dCons (dTup (dCons (dC (.str "mark")) (dCons (dOp gIx (dOp gIx (dVar 3) (dC (.int 1))) (dVar 2)) (dCons (dOp gEq (dCB g_law_next (dCons (dVar 0) (dCons (dC (.int 2)) dNil))) (dC (.int 0))) dNil)))) dNil)))
  (dSeq (dSet 8 (dOwn (fPlus (dVar 8) (dCB g_law_weak (dCons (dVar 0) (dCons (dOp gIx (dVar 3) (dC (.int 1))) dNil))))))
  (lpD g_law_next g_law_weak g_law_aim)))))
def lpB (g_law_next : GN) (g_law_weak : GN) (g_law_aim : GN) : DS := (dSeq (dSet 8 (dOwn (fLst (dCons (dTup (dCons (dC (.str "mark")) (dCons (dOp gIx (dOp gIx (dVar 3) (dC (.int 0))) (dOp gMul (dC (.int 2)) (dVar 2))) (dCons (dOp gEq (dCB g_law_next (dCons (dVar 0) (dCons (dC (.int 2)) dNil))) (dC (.int 0))) dNil)))) dNil))))
  (dSeq (dFor (iEnumD (dCons (dVar 5) dNil)) (dgTup 2 (dgCons (dgName 9) (dgCons (dgName 10) dgNil))) (dSeq (dIfS (dTest (dOp gEq (dVar 9) (dVar 6))) (dDrop (dBM "list" gmAppend (dVar 8) (dCons (dTup (dCons (dC (.str "mark")) (dCons (dOp gIx (dOp gIx (dVar 3) (dC (.int 0))) (dOp gPlus (dOp gMul (dC (.int 2)) (dVar 2)) (dC (.int 1)))) (dCons (dOp gEq (dCB g_law_next (dCons (dVar 0) (dCons (dC (.int 2)) dNil))) (dC (.int 0))) dNil)))) dNil))) dNext)
  (dSeq (dIfS (dTest (dOp gEq (dVar 9) (dVar 7))) (dSet 8 (dOwn (fPlus (dVar 8) (dCB g_law_weak (dCons (dVar 0) (dCons (dOp gPlus (dOp gIx (dVar 3) (dC (.int 0))) (dVar 4)) dNil)))))) dNext)
  (dDrop (dBM "list" gmAppend (dVar 8) (dCons (dVar 10) dNil))))))
  (lpC g_law_next g_law_weak g_law_aim)))
theorem part_eq0 (g_law_next : GN) (g_law_code_row : GN) (g_law_last_row : GN) (g_law_weak : GN) (g_law_aim : GN) : t_law_part g_law_next g_law_code_row g_law_last_row g_law_weak g_law_aim = (dSeq (dSet 5 (dOwn (fComp [none, some 0, some 3] (iRng1D (dCons (dOp gPlus (dC (.int 1)) (dCB g_law_next (dCons (dVar 0) (dCons (dC (.int 6)) dNil)))) dNil)) (dgName 0) dYes (dCB g_law_code_row (dCons (dVar 1) (dCons (dVar 2) dNil))))))
  (dSeq (dDrop (dBM "list" gmAppend (dVar 5) (dCons (dCB g_law_last_row (dCons (dVar 0) (dCons (dVar 3) dNil))) dNil)))
  (dSeq (dSet 6 (dCB g_law_next (dCons (dVar 0) (dCons (dCB gLen (dCons (dVar 5) dNil)) dNil))))
  (dSeq (dSet 7 (dCB g_law_next (dCons (dVar 0) (dCons (dCB gLen (dCons (dVar 5) dNil)) dNil))))
  (lpB g_law_next g_law_weak g_law_aim))))) := rfl
end K61
set_option Elab.async false
set_option linter.all false
set_option maxRecDepth 100000
set_option maxHeartbeats 4000000
namespace K61
open PySem PySem.Spec L2 L3
open FJ (Rw isW okB okN ptD Pt low)
structure PX (M : Ms) (kp : Nat) (A B C nms : List Str) (i : Nat) : Prop where
  p : Pools M kp A B C
  a : 2 * i + 1 < A.length
  b : i < B.length
  c : i < C.length
  n : Pool (A ++ nms)
theorem PX.sib {M M' : Ms} {kp k i : Nat} {A B C nms : List Str} (h : PX M kp A B C nms i) (s : Sib M M' k) (ne : kp ≠ k) : PX M' kp A B C nms i := ⟨h.p.sib s ne, h.a, h.b, h.c, h.n⟩
theorem wek {k : Nat} {n : Int} {ws : List Str} {M : Ms} {Q : DK} (p : Pool ws) (h : Src M k n) (hn : n < 900000) (q : ∀ (rs : List Rw) (M' : Ms), (∀ r ∈ rs, r.ok = true) → rs.length ≤ 2 → Src M' k (n + 3) → Sib M M' k → Q (.lst (rs.map Rw.d)) M') : P_weak [.loc k, .lst (ws.map .str)] M Q := ⟨k, n, ws, rfl, p, h, hn, q⟩
theorem il {xs : List D} {i : Int} {d : D} {M : Ms} {Q : DK} (e : atI xs i = some d) (q : Q d M) : gIx (.lst xs) (.int i) M Q := ⟨_, e, q⟩
theorem il_w {ws : List Str} {i : Nat} {M : Ms} {Q : DK} (hw : ∀ w ∈ ws, isW w = true) (h : i < ws.length) (q : ∀ w : Str, isW w = true → Q (.str w) M) : gIx (.lst (ws.map .str)) (.int i) M Q :=
  ⟨_, at_n (k := i) (by rw [List.getElem?_map, List.getElem?_eq_getElem h]; rfl), q _ (hw _ (List.getElem_mem h))⟩
theorem Rs.gplus {B0 M : Ms} {k kc kr : Nat} {cs : List D} {rs rs' : List Rw} {n : Int} (h : Rs B0 k kc cs M kr rs n) (hl : rs.length + rs'.length ≤ 90) {Q : DK} (q : Q (.lst ((rs ++ rs').map Rw.d)) M) : gPlus (.loc kr) (.lst (rs'.map Rw.d)) M Q := by
  unfold gPlus
  rw [vw_loc h.e]
  refine ⟨by rw [List.length_map, List.length_map]; exact Nat.le_trans hl (by decide), ?_⟩
  rw [← List.map_append]; exact q
theorem lpD_ok {B0 M : Ms} {k kc kp kr i : Nat} {cs : List D} {rs : List Rw} {n many low : Int} {A B C nms : List Str} {w : Str} {d5 d6 d7 d9 d10 : Option D} {Q : DK} {N : DSt → Ms → Prop} (h : Rs B0 k kc cs M kr rs n) (hk : kp ≠ k) (px : PX B0 kp A B C nms i) (hl : rs.length ≤ 80) (hn : n < 800000) (m1 : 1 ≤ many) (m2 : many ≤ 60) (l1 : -9 ≤ low) (l2 : low ≤ 100)
    (q : ∀ (rs : List Rw) (M' : Ms), (∀ r ∈ rs, r.ok = true) → 1 ≤ rs.length → rs.length ≤ 100 → Src M' k (n + 20) → Sib B0 M' k → Q (.tup [.str w, .lst (rs.map Rw.d)]) M') :
    lpD P_next P_weak P_aim ⟨N, Q, fun _ _ => False, fun _ _ => False⟩ [some (.loc k), some (.str w), some (.int i), some (.loc kp), some (.lst (nms.map .str)), d5, d6, d7, some (.loc kr), d9, d10, some (.int many), some (.int low)] M := by
  have nx := @nx
  have am := @am
  have wek := @wek
  have ap := @Rs.ap
  have i0 := @Pools.ix
  have il := @il_w
  have L : ∀ {a b : Nat}, Nat.ble a b = true → a ≤ b := Nat.le_of_ble_eq_true
  unfold lpD
  generalize P_next = gn at nx ⊢
  generalize P_aim = ga at am ⊢
  generalize P_weak = gw at wek ⊢
  generalize gmAppend = gp at ap ⊢
  generalize gIx = gx at i0 il ⊢
  refine ⟨h.ty, ⟨by omega, by omega⟩, trivial, ?_⟩
  have hm : many.toNat ≤ 60 := by omega
  refine compD_map (fun d => match d with | .int j => .int (low * j - 3) | d => d) trivial _ _ ?_ (fun y hy Kk hK => ?_) ?_
  · unfold rngD
    rw [List.length_nil, Nat.zero_add, List.length_map, List.length_range]; exact Nat.le_trans hm (by decide)
  · obtain ⟨j, hj, rfl⟩ := List.mem_map.mp hy
    have := List.mem_range.mp hj
    exact ⟨.inl ⟨by omega, by omega⟩, hK _ rfl⟩
  have en : ([] ++ (rngD 0 many.toNat).map fun d => match d with | .int j => D.int (low * j - 3) | d => d) = ((List.range many.toNat).map fun (j : Nat) => low * (0 + (j : Int)) - 3).map D.int := by
    unfold rngD
    rw [List.nil_append, List.map_map, List.map_map]; rfl
  rw [en]
  refine ⟨L rfl, ap h (by omega) (r := .numbers ((List.range many.toNat).map fun (j : Nat) => low * (0 + (j : Int)) - 3)) ?_ fun M1 h1 => ?_⟩
  · show (decide (1 ≤ _) && decide (_ ≤ 60) && _) = true
    rw [List.length_map, List.length_range, decide_eq_true (by omega), decide_eq_true hm]
    refine List.all_eq_true.mpr fun x hx => ?_
    obtain ⟨j, hj, rfl⟩ := List.mem_map.mp hx
    have := List.mem_range.mp hj
    refine okN_lt ?_ ?_
    · have : low * (0 + (j : Int)) ≥ -9 * 60 := by
        rcases Int.le_total 0 low with h0 | h0
        · exact Int.le_trans (by decide) (Int.mul_nonneg h0 (by omega))
        · have := Int.mul_le_mul (show -low ≤ 9 by omega) (show 0 + (j : Int) ≤ 60 by omega) (by omega) (by decide)
          rw [Int.neg_mul] at this
          omega
      omega
    · have : low * (0 + (j : Int)) ≤ 100 * 60 := by
        rcases Int.le_total 0 low with h0 | h0
        · exact Int.mul_le_mul l2 (by omega) (by omega) (by decide)
        · have := Int.mul_nonneg (show (0 : Int) ≤ -low by omega) (show (0 : Int) ≤ 0 + (j : Int) by omega)
          rw [Int.neg_mul] at this
          omega
      omega
  have px1 := px.sib h1.sib hk
  refine (i0 px1.p).2.2 (wek px1.p.pc h1.src (by omega) fun rs1 M2 ok1 len1 s2 b2 => ?_)
  have h2 := h1.go s2 b2
  have px2 := px.sib h2.sib hk
  have hlen : (rs ++ [Rw.numbers ((List.range many.toNat).map fun (j : Nat) => low * (0 + (j : Int)) - 3)]).length ≤ 81 := by rw [List.length_append]; show rs.length + 1 ≤ 81; omega
  generalize rs ++ [Rw.numbers ((List.range many.toNat).map fun (j : Nat) => low * (0 + (j : Int)) - 3)] = rs0 at h1 h2 hlen ⊢
  refine h2.gplus (by omega) ?_
  refine (i0 px2.p).2.2 (il px2.p.pc.2.2 px2.c fun v hv => ⟨L rfl, L rfl, ?_⟩)
  refine ⟨by rw [List.length_map, List.length_append]; exact Nat.le_trans (show rs0.length + rs1.length + 1 ≤ 90 by omega) (by decide), ?_⟩
  have em : (rs0 ++ rs1).map Rw.d ++ [D.tup [.str "mark", .str v, .bl false]] = (rs0 ++ rs1 ++ [Rw.mark v false]).map Rw.d := (List.map_append (f := Rw.d) (l₁ := rs0 ++ rs1) (l₂ := [Rw.mark v false])).symm
  rw [em]
  have ok3 : ∀ r ∈ rs0 ++ rs1 ++ [Rw.mark v false], r.ok = true := ok_app (ok_app h2.ok ok1) fun x hx => by rw [List.mem_singleton.mp hx]; exact hv
  have len3 : (rs0 ++ rs1 ++ [Rw.mark v false]).length ≤ 84 := by rw [List.length_append, List.length_append]; show rs0.length + rs1.length + 1 ≤ 84; omega
  have h3 := h2.new ok3
  generalize rs0 ++ rs1 ++ [Rw.mark v false] = rs3 at h3 ok3 len3 ⊢
  have px3 := px.sib h3.sib hk
  refine ⟨h3.ty, nx h3.src (by omega) (by decide) (by decide) fun x M4 x0 x1 s4 b4 => ⟨⟨by omega, by omega⟩, trivial, ?_⟩⟩
  have h4 := h3.go s4 b4
  have hx : (rngD 0 (1 + x).toNat).length = (1 + x).toNat := by unfold rngD; simp
  refine compD_inv (fun j acc M' => ∃ ws : List Str, acc = ws.map .str ∧ (∀ w ∈ ws, isW w = true) ∧ ws.length = j ∧ Src M' k (n + 3 + 1 + j) ∧ Sib M4 M' k) (fun _ _ _ _ => trivial) _ 0 _ _ ⟨[], rfl, (fun _ h => nomatch h), rfl, by simpa using s4, Sib.refl⟩ ?_ (fun j y acc M' hy hp Kk hK => ?_) (fun acc M5 hp => ?_)
  · rw [hx, List.length_nil, Nat.zero_add]; exact Nat.le_trans (show (1 + x).toNat ≤ 60 by omega) (by decide)
  · obtain ⟨ws, rfl, w1, w2, w3, w4⟩ := hp
    have hj : j < (1 + x).toNat := by have := (List.getElem?_eq_some_iff.mp hy).1; rw [hx] at this; exact this
    have p5 := (px3.sib b4 hk).sib w4 hk
    refine (i0 p5.p).1 (am p5.p.pa w3 (by omega) fun u M6 hu s6 b6 => hK _ _ _ rfl ⟨ws ++ [u], by rw [List.map_append]; rfl, fun z hz => ?_, by rw [List.length_append, w2]; rfl, s6.le (by omega), w4.trans b6⟩)
    rcases List.mem_append.mp hz with hz | hz
    · exact w1 z hz
    · rw [List.mem_singleton.mp hz]; exact hu
  · obtain ⟨ws, rfl, w1, w2, w3, w4⟩ := hp
    rw [hx] at w2 w3
    have h5 := h4.go w3 w4
    refine ⟨L rfl, ap h5 (by omega) (r := .table ws) ?_ fun M6 h6 => ?_⟩
    · show (decide (1 ≤ _) && decide (_ ≤ 60) && _) = true
      rw [decide_eq_true (by omega), decide_eq_true (by omega)]
      exact List.all_eq_true.mpr w1
    · have := h6.k0; have := h6.lr
      exact ⟨_, _, rfl, h6.e, L rfl, q _ _ h6.ok (by rw [List.length_append]; exact Nat.le_add_left _ _) (by rw [List.length_append]; show rs3.length + 1 ≤ 100; omega) ((h6.src.le (by omega)).set_ne (by omega)) (h6.sib.set_out h6.lr)⟩
end K61
set_option Elab.async false
set_option linter.all false
set_option maxRecDepth 100000
set_option maxHeartbeats 4000000
namespace K61
open PySem PySem.Spec L2 L3
open FJ (Rw isW okB okN ptD Pt low)
theorem lpC_ok {B0 M : Ms} {k kc kp kr i : Nat} {cs : List D} {rs : List Rw} {n : Int} {A B C nms : List Str} {w : Str} {d5 d6 d7 d9 d10 d11 d12 : Option D} {Q : DK} {N : DSt → Ms → Prop} (h : Rs B0 k kc cs M kr rs n) (hk : kp ≠ k) (px : PX B0 kp A B C nms i) (hl : rs.length ≤ 70) (hn : n < 700000)
    (q : ∀ (rs : List Rw) (M' : Ms), (∀ r ∈ rs, r.ok = true) → 1 ≤ rs.length → rs.length ≤ 100 → Src M' k (n + 30) → Sib B0 M' k → Q (.tup [.str w, .lst (rs.map Rw.d)]) M') :
    lpC P_next P_weak P_aim ⟨N, Q, fun _ _ => False, fun _ _ => False⟩ [some (.loc k), some (.str w), some (.int i), some (.loc kp), some (.lst (nms.map .str)), d5, d6, d7, some (.loc kr), d9, d10, d11, d12] M := by
  have nx := @nx
  have wek := @wek
  have ap := @Rs.ap
  have i0 := @Pools.ix
  have il := @il_w
  have i2 := @ix_lit
  have ld : ∀ {M : Ms} {kr : Nat} {rs : List Rw} {n many low : Int} {d5 d6 d7 d9 d10 : Option D}, Rs B0 k kc cs M kr rs n → rs.length ≤ 80 → n < 800000 → 1 ≤ many → many ≤ 60 → -9 ≤ low → low ≤ 100 → (∀ (rs : List Rw) (M' : Ms), (∀ r ∈ rs, r.ok = true) → 1 ≤ rs.length → rs.length ≤ 100 → Src M' k (n + 20) → Sib B0 M' k → Q (.tup [.str w, .lst (rs.map Rw.d)]) M') →
    lpD P_next P_weak P_aim ⟨N, Q, fun _ _ => False, fun _ _ => False⟩ [some (.loc k), some (.str w), some (.int i), some (.loc kp), some (.lst (nms.map .str)), d5, d6, d7, some (.loc kr), d9, d10, some (.int many), some (.int low)] M := fun h a b c d e f q => lpD_ok h hk px a b c d e f q
  have L : ∀ {a b : Nat}, Nat.ble a b = true → a ≤ b := Nat.le_of_ble_eq_true
  unfold lpC
  generalize hd : lpD P_next P_weak P_aim = lD at ld ⊢
  clear hd
  generalize P_next = gn at nx ⊢
  generalize P_weak = gw at wek ⊢
  generalize gmAppend = gp at ap ⊢
  generalize gIx = gx at i0 il i2 ⊢
  refine ⟨L rfl, nx h.src (by omega) (by decide) (by decide) fun r0 M1 a0 a1 s1 b1 => i2 (xs := [1, 3, 20, 40, 60]) a0 a1 fun many hm => ?_⟩
  have m12 : 1 ≤ many ∧ many ≤ 60 := by
    simp only [List.mem_cons, List.not_mem_nil, or_false] at hm
    omega
  refine nx s1 (by omega) (by decide) (by decide) fun r1 M2 c0 c1 s2 b2 => ?_
  have h2 := (h.go s1 b1).go s2 b2
  have px2 := px.sib h2.sib hk
  refine ⟨h2.ty, ?_⟩
  refine (i0 px2.p).2.1 (il px2.p.pb.2.2 px2.b fun v hv => nx s2 (by omega) (by decide) (by decide) fun r2 M3 e0 e1 s3 b3 => ?_)
  have h3 := h2.go s3 b3
  refine ⟨L rfl, ap h3 (by omega) (r := .mark v (r2 == 0)) hv fun M4 h4 => ?_⟩
  have px4 := px.sib h4.sib hk
  refine (i0 px4.p).2.1 (wek px4.p.pb h4.src (by omega) fun rs1 M5 ok1 len1 s5 b5 => ?_)
  have h5 := h4.go s5 b5
  have hlen : (rs ++ [Rw.mark v (r2 == 0)]).length ≤ 71 := by rw [List.length_append]; show rs.length + 1 ≤ 71; omega
  refine h5.plus (by omega) ?_
  exact ld (h5.new (ok_app h5.ok ok1)) (by rw [List.length_append]; omega) (by omega) m12.1 m12.2 (by omega) (by omega) fun rs M' a b c d e => q rs M' a b c (d.le (by omega)) e
end K61
set_option Elab.async false
set_option linter.all false
set_option maxRecDepth 100000
set_option maxHeartbeats 4000000
namespace K61
open PySem PySem.Spec L2 L3
open FJ (Rw isW okB okN ptD Pt low)
theorem if_eq {t1 t2 : DS} {E : DEnds} {δ : DSt} {M : Ms} {a b : Int} {i j : Nat} (h1 : δ[i]? = some (some (.int a))) (h2 : δ[j]? = some (some (.int b))) (y : t1 E δ M) (z : t2 E δ M) : dIfS (dTest (dOp gEq (dVar i) (dVar j))) t1 t2 E δ M := by
  unfold dIfS dOp dVar
  rw [rd_test]
  simp only [h1, h2, gEq, rv_int, cmpE_int, kTest_bl]
  split
  · exact y
  · exact z
theorem lpB_ok {B0 M : Ms} {k kc kp i : Nat} {cs : List Rw} {n a b : Int} {A B C nms : List Str} {w : Str} {d8 d9 d10 d11 d12 : Option D} {Q : DK} {N : DSt → Ms → Prop} (src : Src M k n) (sib : Sib B0 M k) (c : M[kc]? = some (some (.lst (cs.map Rw.d)))) (lc : B0.length ≤ kc) (k0 : k < B0.length) (okc : ∀ r ∈ cs, r.ok = true) (hk : kp ≠ k) (px : PX B0 kp A B C nms i) (hl : cs.length ≤ 8) (hn : n < 600000)
    (q : ∀ (rs : List Rw) (M' : Ms), (∀ r ∈ rs, r.ok = true) → 1 ≤ rs.length → rs.length ≤ 100 → Src M' k (n + 70) → Sib B0 M' k → Q (.tup [.str w, .lst (rs.map Rw.d)]) M') :
    lpB P_next P_weak P_aim ⟨N, Q, fun _ _ => False, fun _ _ => False⟩ [some (.loc k), some (.str w), some (.int i), some (.loc kp), some (.lst (nms.map .str)), some (.loc kc), some (.int a), some (.int b), d8, d9, d10, d11, d12] M := by
  have nx := @nx
  have wek := @wek
  have ap := @Rs.ap
  have i0 := @Pools.ix
  have il := @il_w
  have lC : ∀ {M : Ms} {kr : Nat} {rs : List Rw} {n : Int} {d9 d10 d11 d12 : Option D}, Rs B0 k kc (cs.map Rw.d) M kr rs n → rs.length ≤ 70 → n < 700000 → (∀ (rs : List Rw) (M' : Ms), (∀ r ∈ rs, r.ok = true) → 1 ≤ rs.length → rs.length ≤ 100 → Src M' k (n + 30) → Sib B0 M' k → Q (.tup [.str w, .lst (rs.map Rw.d)]) M') →
    lpC P_next P_weak P_aim ⟨N, Q, fun _ _ => False, fun _ _ => False⟩ [some (.loc k), some (.str w), some (.int i), some (.loc kp), some (.lst (nms.map .str)), some (.loc kc), some (.int a), some (.int b), some (.loc kr), d9, d10, d11, d12] M := fun h a b q => lpC_ok h hk px a b q
  have L : ∀ {a b : Nat}, Nat.ble a b = true → a ≤ b := Nat.le_of_ble_eq_true
  unfold lpB
  generalize hd : lpC P_next P_weak P_aim = lD at lC ⊢
  clear hd
  have ieq := @if_eq
  generalize P_next = gn at nx ⊢
  generalize P_weak = gw at wek ⊢
  generalize gmAppend = gp at ap ⊢
  generalize gIx = gx at i0 il ⊢
  have px0 := px.sib sib hk
  have pa := px.a
  have e2 : (2 : Int) * (i : Int) = ((2 * i : Nat) : Int) := by omega
  have hlc := (List.getElem?_eq_some_iff.mp c).1
  refine (i0 px0.p).1 ⟨.inl ⟨by decide, by decide⟩, ?_⟩
  rw [e2]
  refine il px0.p.pa.2.2 (by omega) fun v hv => nx src (by omega) (by decide) (by decide) fun r2 M1 e0 e1 s1 b1 => ?_
  have c1 : M1[kc]? = some (some (.lst (cs.map Rw.d))) := by rw [b1.2 kc hlc (by omega)]; exact c
  have hlc1 := (List.getElem?_eq_some_iff.mp c1).1
  have sb1 := sib.trans b1
  have h1 : Rs B0 k kc (cs.map Rw.d) (M1 ++ [some (.lst [.tup [.str "mark", .str v, .bl (r2 == 0)]])]) M1.length [Rw.mark v (r2 == 0)] (n + 1) := ⟨s1.push, sb1.trans Sib.push, by simp; rfl, by rw [List.getElem?_append_left hlc1]; exact c1, sb1.1, lc, by omega, k0, fun x hx => by rw [List.mem_singleton.mp hx]; exact hv⟩
  refine ⟨L rfl, L rfl, ?_⟩
  refine ⟨cs.map Rw.d, by rw [vw_loc h1.c]; rfl, rfl, ?_⟩
  have hlen : ((cs.map Rw.d).mapIdx fun i d => D.tup [.int i, d]).length = cs.length := by rw [List.length_mapIdx, List.length_map]
  refine forD_inv (fun j δ M' => ∃ (kr : Nat) (rs : List Rw), Rs B0 k kc (cs.map Rw.d) M' kr rs (n + 1 + 4 * j) ∧ rs.length ≤ 1 + 4 * j ∧ ∃ d9 d10, δ = [some (.loc k), some (.str w), some (.int i), some (.loc kp), some (.lst (nms.map .str)), some (.loc kc), some (.int a), some (.int b), some (.loc kr), d9, d10, d11, d12]) (fun j δ M' hp => ?_) _ 0 _ _ ⟨_, _, by simpa using h1, Nat.le_refl _, _, _, rfl⟩ (fun j x δ M' hx hp N' hN => ?_) (fun δ M' hp => ?_)
  · obtain ⟨kr, rs, h, _⟩ := hp
    rw [vw_loc h.c, vw_loc h1.c]
  · obtain ⟨kr, rs, h, hr, d9, d10, rfl⟩ := hp
    have hj : j < cs.length := by have := (List.getElem?_eq_some_iff.mp hx).1; rw [hlen] at this; exact this
    rw [List.getElem?_mapIdx, List.getElem?_map, List.getElem?_eq_getElem hj] at hx
    have hx' := Option.some.inj hx
    subst hx'
    have okj := okc _ (List.getElem_mem hj)
    generalize cs[j] = cj at okj ⊢
    refine ⟨rfl, rfl, ?_⟩
    have last : ∀ {X : DSt → Ms → Prop} {M' : Ms} {kr : Nat} {rs : List Rw}, Rs B0 k kc (cs.map Rw.d) M' kr rs (n + 1 + 4 * j + 4) → rs.length ≤ 4 + 4 * j → dDrop (dBM "list" gp (dVar 8) (dCons (dVar 10) dNil)) ⟨N', Q, X, N'⟩ [some (.loc k), some (.str w), some (.int i), some (.loc kp), some (.lst (nms.map .str)), some (.loc kc), some (.int a), some (.int b), some (.loc kr), some (.int j), some cj.d, d11, d12] M' := fun h hr => ⟨h.ty, ap h (by omega) okj fun M2 h2 => hN _ _ ⟨_, _, by rw [show n + 1 + 4 * ((0 + j + 1 : Nat) : Int) = n + 1 + 4 * j + 4 by omega]; exact h2, by rw [List.length_append]; show _ + 1 ≤ _; omega, _, _, rfl⟩⟩
    have mid : ∀ {X : DSt → Ms → Prop} {M' : Ms} {kr : Nat} {rs : List Rw}, Rs B0 k kc (cs.map Rw.d) M' kr rs (n + 1 + 4 * j + 1) → rs.length ≤ 2 + 4 * j → (dSeq (dIfS (dTest (dOp gEq (dVar 9) (dVar 7))) (dSet 8 (dOwn (fPlus (dVar 8) (dCB gw (dCons (dVar 0) (dCons (dOp gPlus (dOp gx (dVar 3) (dC (.int 0))) (dVar 4)) dNil)))))) dNext)
  (dDrop (dBM "list" gp (dVar 8) (dCons (dVar 10) dNil)))) ⟨N', Q, X, N'⟩ [some (.loc k), some (.str w), some (.int i), some (.loc kp), some (.lst (nms.map .str)), some (.loc kc), some (.int a), some (.int b), some (.loc kr), some (.int j), some cj.d, d11, d12] M' := fun {X M' kr rs} h hr => by
      refine ieq (a := j) (b := b) (i := 9) (j := 7) rfl rfl ?_ (last ⟨h.src.le (by omega), h.sib, h.e, h.c, h.lr, h.lc, h.ne, h.k0, h.ok⟩ (by omega))
      have px1 := px.sib h.sib hk
      refine (i0 px1.p).1 ?_
      have pl := px1.n
      refine ⟨?_, ?_⟩
      · rw [List.length_map, List.length_map]
        have := pl.2.1
        rw [List.length_append] at this
        exact Nat.le_trans this (by decide)
      rw [← List.map_append]
      refine wek pl h.src (by omega) fun rs1 M2 ok1 len1 s2 b2 => ?_
      have h2 := h.go s2 b2
      refine h2.plus (by omega) ?_
      have h3 := h2.new (ok_app h2.ok ok1)
      exact last ⟨h3.src.le (by omega), h3.sib, h3.e, h3.c, h3.lr, h3.lc, h3.ne, h3.k0, h3.ok⟩ (by rw [List.length_append]; omega)
    rw [show n + 1 + 4 * ((0 + j : Nat) : Int) = n + 1 + 4 * j by omega] at h
    refine ieq (a := j) (b := a) (i := 9) (j := 6) rfl rfl ?_ (mid ⟨h.src.le (by omega), h.sib, h.e, h.c, h.lr, h.lc, h.ne, h.k0, h.ok⟩ (by omega))
    have px1 := px.sib h.sib hk
    refine ⟨h.ty, (i0 px1.p).1 ⟨.inl ⟨by decide, by decide⟩, ?_⟩⟩
    refine il (i := 2 * i + 1) px1.p.pa.2.2 pa fun v hv => nx h.src (by omega) (by decide) (by decide) fun r3 M2 f0 f1 s2 b2 => ⟨L rfl, ap (h.go s2 b2) (by omega) (r := .mark v (r3 == 0)) hv fun M3 h3 => mid h3 (by rw [List.length_append]; show _ + 1 ≤ _; omega)⟩
  · obtain ⟨kr, rs, h, hr, d9, d10, rfl⟩ := hp
    rw [hlen] at h hr
    exact lC h (by omega) (by omega) fun rs M' a b c d e => q rs M' a b c (d.le (by omega)) e
end K61
set_option Elab.async false
set_option linter.all false
set_option maxRecDepth 100000
set_option maxHeartbeats 4000000
namespace K61
open PySem PySem.Spec L2 L3
open FJ (Rw isW okB okN ptD Pt low)
theorem cd {k kp : Nat} {n : Int} {A B C : List Str} {M : Ms} {Q : DK} (hk : kp ≠ k) (p : Pools M kp A B C) (h : Src M k n) (hn : n < 900000) (q : ∀ (r : Rw) (M' : Ms), r.ok = true → Src M' k (n + 6) → Sib M M' k → Q r.d M') : P_code [.loc k, .loc kp] M Q := ⟨k, kp, n, A, B, C, rfl, hk, p, h, hn, q⟩
theorem ls {k kp : Nat} {n : Int} {A B C : List Str} {M : Ms} {Q : DK} (hk : kp ≠ k) (p : Pools M kp A B C) (h : Src M k n) (hn : n < 900000) (q : ∀ (r : Rw) (M' : Ms), r.ok = true → Src M' k (n + 3) → Sib M M' k → Q r.d M') : P_last [.loc k, .loc kp] M Q := ⟨k, kp, n, A, B, C, rfl, hk, p, h, hn, q⟩
def P_part : GN := fun ds M Q => ∃ (k kp i : Nat) (n : Int) (A B C nms : List Str) (w : Str), ds = [.loc k, .str w, .int i, .loc kp, .lst (nms.map .str)] ∧ kp ≠ k ∧ PX M kp A B C nms i ∧ Src M k n ∧ n < 500000 ∧ ∀ (rs : List Rw) (M' : Ms), (∀ r ∈ rs, r.ok = true) → 1 ≤ rs.length → rs.length ≤ 100 → Src M' k (n + 200) → Sib M M' k → Q (.tup [.str w, .lst (rs.map Rw.d)]) M'
theorem P_part_mono : monoN P_part := fun ds M P Q w ⟨k, kp, i, n, A, B, C, nms, v, h1, h2, h3, h4, h5, q⟩ => ⟨k, kp, i, n, A, B, C, nms, v, h1, h2, h3, h4, h5, fun r M' a b c d e => w _ _ (q r M' a b c d e)⟩
theorem sp_part : ∀ ds M Q, P_part ds M Q → fnG 13 5 (t_law_part P_next P_code P_last P_weak P_aim) ds M Q := fun ds M Q ⟨k, kp, i, n, A, B, C, nms, v, h1, hk, px, hs, hn, q⟩ => by
  subst h1
  rw [part_eq0]
  have nx := @nx
  have cd := @cd
  have ls := @ls
  have k0 := hs.lt
  have L : ∀ {a b : Nat}, Nat.ble a b = true → a ≤ b := Nat.le_of_ble_eq_true
  have lB : ∀ {M1 : Ms} {kc : Nat} {cs : List Rw} {n' a b : Int} {d8 d9 d10 d11 d12 : Option D} {N : DSt → Ms → Prop}, Src M1 k n' → Sib M M1 k → M1[kc]? = some (some (.lst (cs.map Rw.d))) → M.length ≤ kc → (∀ r ∈ cs, r.ok = true) → cs.length ≤ 8 → n' < n + 130 →
    lpB P_next P_weak P_aim ⟨N, Q, fun _ _ => False, fun _ _ => False⟩ [some (.loc k), some (.str v), some (.int i), some (.loc kp), some (.lst (nms.map .str)), some (.loc kc), some (.int a), some (.int b), d8, d9, d10, d11, d12] M1 := fun s b c lc ok hl hn => lpB_ok s b c lc k0 ok hk px hl (by omega) fun rs M' x y z s' b' => q rs M' x y z (s'.le (by omega)) b'
  generalize hd : lpB P_next P_weak P_aim = lD at lB ⊢
  clear hd
  generalize P_next = gn at nx ⊢
  generalize P_code = gc at cd ⊢
  generalize P_last = gl at ls ⊢
  refine ⟨rfl, nx hs (by omega) (by decide) (by decide) fun x M1 x0 x1 s1 b1 => ⟨⟨by omega, by omega⟩, trivial, ?_⟩⟩
  have hx : (rngD 0 (1 + x).toNat).length = (1 + x).toNat := by unfold rngD; simp
  refine compD_inv (fun j acc M' => ∃ rs : List Rw, acc = rs.map Rw.d ∧ (∀ r ∈ rs, r.ok = true) ∧ rs.length = j ∧ Src M' k (n + 1 + 6 * j) ∧ Sib M M' k) (fun _ _ _ _ => trivial) _ 0 _ _ ⟨[], rfl, (fun _ h => nomatch h), rfl, by simpa using s1, b1⟩ ?_ (fun j y acc M' hy hp Kk hK => ?_) (fun acc M2 hp => ?_)
  · rw [hx, List.length_nil, Nat.zero_add]; exact Nat.le_trans (show (1 + x).toNat ≤ 60 by omega) (by decide)
  · obtain ⟨rs, rfl, w1, w2, w3, w4⟩ := hp
    have hj : j < (1 + x).toNat := by have := (List.getElem?_eq_some_iff.mp hy).1; rw [hx] at this; exact this
    refine cd hk (px.sib w4 hk).p w3 (by omega) fun r M3 hr s3 b3 => hK _ _ _ rfl ⟨rs ++ [r], by rw [List.map_append]; rfl, ok_app w1 fun z hz => by rw [List.mem_singleton.mp hz]; exact hr, by rw [List.length_append, w2]; rfl, s3.le (by omega), w4.trans b3⟩
  · obtain ⟨cs, rfl, w1, w2, w3, w4⟩ := hp
    rw [hx] at w2 w3
    have hlen := w4.1
    have px2 := px.sib (w4.trans (Sib.push (o := some (.lst (cs.map Rw.d))))) hk
    have e2 : (M2 ++ [some (OD.lst (cs.map Rw.d))])[M2.length]? = some (some (.lst (cs.map Rw.d))) := by simp
    refine ⟨by show tyD "list" (vw (M2 ++ [some (OD.lst (cs.map Rw.d))]) (.loc M2.length)) = true; rw [vw_loc e2]; rfl, ?_⟩
    refine ls hk px2.p w3.push (by omega) fun r M3 hr s3 b3 => ?_
    have e3 : M3[M2.length]? = some (some (.lst (cs.map Rw.d))) := by rw [b3.2 _ (by simp) (by omega)]; exact e2
    have l3 := (List.getElem?_eq_some_iff.mp e3).1
    refine ⟨_, e3, by rw [List.length_map]; exact Nat.lt_of_le_of_lt (show cs.length ≤ 10 by omega) (by decide), ?_⟩
    have e4 : (M3.set M2.length (some (OD.lst (cs.map Rw.d ++ [r.d]))))[M2.length]? = some (some (.lst ((cs ++ [r]).map Rw.d))) := by
      rw [List.getElem?_set_self l3, List.map_append]; rfl
    have s4 : Src (M3.set M2.length (some (OD.lst (cs.map Rw.d ++ [r.d])))) k (n + 50) := (s3.le (by omega)).set_ne (by omega)
    have b4 : Sib M (M3.set M2.length (some (OD.lst (cs.map Rw.d ++ [r.d])))) k := (w4.trans b3.unpush).set_out hlen
    have okc := ok_app w1 fun z hz => by rw [List.mem_singleton.mp hz]; exact hr
    have lcs : (cs ++ [r]).length ≤ 8 ∧ 1 ≤ (cs ++ [r]).length := by rw [List.length_append]; exact ⟨by show cs.length + 1 ≤ 8; omega, Nat.le_add_left _ _⟩
    generalize M3.set M2.length (some (OD.lst (cs.map Rw.d ++ [r.d]))) = M4 at e4 s4 b4 ⊢
    generalize cs ++ [r] = cs' at e4 okc lcs ⊢
    have gl : ∀ {M5 : Ms}, M5[M2.length]? = some (some (.lst (cs'.map Rw.d))) → lenD (vw M5 (.loc M2.length)) = some cs'.length := fun {M5} e => by rw [vw_loc e]; show some (cs'.map Rw.d).length = _; rw [List.length_map]
    refine ⟨cs'.length, gl e4, ?_⟩
    refine nx (many := cs'.length) s4 (by omega) (by omega) (by omega) fun a M5 a0 a1 s5 b5 => ?_
    have e5 : M5[M2.length]? = some (some (.lst (cs'.map Rw.d))) := by rw [b5.2 _ (List.getElem?_eq_some_iff.mp e4).1 (by omega)]; exact e4
    refine ⟨cs'.length, gl e5, ?_⟩
    refine nx (many := cs'.length) s5 (by omega) (by omega) (by omega) fun b M6 c0 c1 s6 b6 => ?_
    have e6 : M6[M2.length]? = some (some (.lst (cs'.map Rw.d))) := by rw [b6.2 _ (List.getElem?_eq_some_iff.mp e5).1 (by omega)]; exact e5
    exact lB s6 ((b4.trans b5).trans b6) e6 hlen okc lcs.1 (by omega)
end K61
set_option Elab.async false
set_option linter.all false
set_option maxRecDepth 100000
set_option maxHeartbeats 4000000
namespace K61
open PySem PySem.Spec L2 L3
open FJ (Rw isW okB okN ptD Pt low)
theorem low_app {u v : Str} (hu : low u = true) (hv : low v = true) : low (u ++ v) = true := by
  unfold low at *
  show ((u.cps ++ v.cps).toList.all _) = true
  rw [Array.toList_append, List.all_append, hu, hv]; rfl
theorem isW_app {u v : Str} (hu : low u = true) (hv : low v = true) (l1 : 1 ≤ u.length) (l2 : u.length ≤ 6) (l3 : v.length ≤ 2) : isW (u ++ v) = true := by
  unfold isW
  rw [low_app hu hv, PySem.Str.length_append, decide_eq_true (by omega), decide_eq_true (by omega)]; rfl
theorem low_at {z : Str} (h : low z = true) {r : Int} (h0 : 0 ≤ r) (h1 : r < z.length) : ∃ c, atI z.cps.toList r = some c ∧ low ⟨#[c]⟩ = true ∧ low ⟨#[c, c]⟩ = true := by
  obtain ⟨j, rfl⟩ := Int.eq_ofNat_of_zero_le h0
  have hj : j < z.cps.toList.length := by have : z.length = z.cps.toList.length := Array.length_toList.symm; omega
  refine ⟨z.cps.toList[j], at_n (k := j) (List.getElem?_eq_getElem hj), ?_⟩
  have := List.all_eq_true.mp h _ (List.getElem_mem hj)
  generalize z.cps.toList[j] = c at this
  constructor
  · show ([c].all _) = true
    rw [List.all_cons, this]; rfl
  · show ([c, c].all _) = true
    rw [List.all_cons, List.all_cons, this]; rfl
theorem mul_ok (c : Nat) (n : Int) (h : n = 0 ∨ n = 1 ∨ n = 2) : MulOk ⟨#[c]⟩ n := by
  rcases h with rfl | rfl | rfl
  · exact ⟨rfl, fun h => absurd (by decide) h, fun h => absurd (by decide) h⟩
  · exact ⟨rfl, fun _ h => (nomatch (show true = false from h)), fun _ h => (nomatch (show true = false from h))⟩
  · exact ⟨rfl, fun _ _ => (by decide : ¬ ((1 : Int) > (2 ^ 63 - 1) / 2)), fun _ _ => rfl⟩
theorem mul_low {c : Nat} {n : Int} (h1 : low ⟨#[c]⟩ = true) (h2 : low ⟨#[c, c]⟩ = true) (h : n = 0 ∨ n = 1 ∨ n = 2) : low (Txt.mul ⟨#[c]⟩ n) = true ∧ (Txt.mul ⟨#[c]⟩ n).length ≤ 2 := by
  rcases h with rfl | rfl | rfl
  · exact ⟨rfl, Nat.zero_le 2⟩
  · exact ⟨h1, Nat.le_succ 1⟩
  · exact ⟨h2, Nat.le_refl 2⟩
def P_word : GP := fun ds Q => ∃ i : Int, 0 ≤ i ∧ i < 1000 ∧ ds = [.int i] ∧ ∀ w, isW w = true → Q (.str w)
theorem P_word_mono : monoP P_word := fun ds P Q w ⟨i, h1, h2, h3, q⟩ => ⟨i, h1, h2, h3, fun v hv => w _ (q v hv)⟩
theorem sp_word : ∀ ds Q, P_word ds Q → fnC 2 1 t_law_word ds Q := fun ds Q ⟨i, h1, h2, h3, q⟩ => by
  subst h3
  have L : ∀ {a b : Nat}, Nat.ble a b = true → a ≤ b := Nat.le_of_ble_eq_true
  obtain ⟨c, hc, c1, c2⟩ := low_at (z := "abcdefgh") rfl (r := i % 8) (by omega) (by show _ < (8 : Int); omega)
  obtain ⟨d, hd, d1, d2⟩ := low_at (z := "abcdefghijklmnopqrstuvwxyz") rfl (r := i / 8 % 26) (by omega) (by show _ < (26 : Int); omega)
  have hm : i / 208 % 3 = 0 ∨ i / 208 % 3 = 1 ∨ i / 208 % 3 = 2 := by omega
  have ml := mul_low d1 d2 hm
  have one : (⟨#[c]⟩ : Str).length = 1 := rfl
  refine ⟨rfl, (by decide : (0 : Int) < 8), L rfl, c, hc, ⟨by decide, by decide⟩, (by decide : (0 : Int) < 26), L rfl, d, hd, ⟨by decide, by decide⟩, (by decide : (0 : Int) < 3), mul_ok _ _ hm, ?_, ?_⟩
  · exact Nat.le_trans (Nat.add_le_add (Nat.le_of_eq one) ml.2) (by decide)
  · exact ⟨rfl, q _ (isW_app c1 ml.1 (by omega) (by omega) ml.2)⟩
end K61
set_option Elab.async false
set_option linter.all false
set_option maxRecDepth 100000
set_option maxHeartbeats 4000000
namespace K61
open PySem PySem.Spec L2 L3
open FJ (Rw isW okB okN ptD Pt low)
theorem sub_at {s : Nat} {δ : DSt} {M : Ms} {k : Nat} {xs : List D} {i : Int} {n : Nat} {v : D} {Q : DSt → Ms → Prop} (h0 : δ[s]? = some (some (.loc k))) (h : M[k]? = some (some (.lst xs))) (e : ixN xs.length i = some n) (q : Q δ (M.set k (some (.lst (xs.set n v))))) : dgSub (dVar s) (dC (.int i)) v δ M Q := by
  unfold dgSub dVar dC
  rw [h0]
  simp only [h]
  exact ⟨n, e, q⟩
def Bd (b : Str) : Prop := low b = true ∧ 1 ≤ b.length ∧ b.length ≤ 6
def lqA : DS := (dSeq (dAsg (dOp gPlus (dOp gIx (dVar 5) (dC (.int 0))) (dNew (fLst (dCons (dOp gPlus (dOp gIx (dVar 4) (dC (.int 0))) (dOp gIx (dC (.str "abcd")) (dVar 6))) (dCons (dOp gPlus (dOp gIx (dVar 4) (dC (.int 1))) (dOp gMul (dOp gIx (dC (.str "abcd")) (dVar 6)) (dC (.int 2)))) dNil))))) (dgSub (dVar 5) (dC (.int 0))))
  (dSeq (dAsg (dOp gPlus (dOp gIx (dVar 5) (dC (.int 1))) (dNew (fLst (dCons (dOp gPlus (dOp gIx (dVar 4) (dC (.int 2))) (dOp gIx (dC (.str "abcd")) (dVar 6))) dNil)))) (dgSub (dVar 5) (dC (.int 1))))
  (dAsg (dOp gPlus (dOp gIx (dVar 5) (dC (.int 2))) (dNew (fLst (dCons (dOp gPlus (dOp gIx (dVar 4) (dC (.int 3))) (dOp gIx (dC (.str "abcd")) (dVar 6))) dNil)))) (dgSub (dVar 5) (dC (.int 2))))))
structure Po (M : Ms) (kp j : Nat) (A B C : List Str) : Prop where
  e : M[kp]? = some (some (.lst [.lst (A.map .str), .lst (B.map .str), .lst (C.map .str)]))
  a : A.length = 2 * j
  b : B.length = j
  c : C.length = j
  wa : ∀ w ∈ A, isW w = true
  wb : ∀ w ∈ B, isW w = true
  wc : ∀ w ∈ C, isW w = true
theorem all_app {α : Type} {P : α → Prop} {a b : List α} (h : ∀ x ∈ a, P x) (h' : ∀ x ∈ b, P x) : ∀ x ∈ a ++ b, P x := fun x hx => (List.mem_append.mp hx).elim (h x) (h' x)
theorem one_mem {α : Type} {P : α → Prop} {a : α} (h : P a) : ∀ x ∈ [a], P x := fun x hx => by rw [List.mem_singleton.mp hx]; exact h
theorem lqA_ok {M : Ms} {k kp j : Nat} {A B C : List Str} {b0 b1 b2 b3 : Str} {x1 x2 x3 x7 x8 : Option D} {E : DEnds} (p : Po M kp j A B C) (hj : j < 4) (h0 : Bd b0) (h1 : Bd b1) (h2 : Bd b2) (h3 : Bd b3)
    (q : ∀ (A B C : List Str) (M' : Ms) (o : OD), Po M' kp (j + 1) A B C → M' = M.set kp (some o) → E.nx [some (.loc k), x1, x2, x3, some (.lst [.str b0, .str b1, .str b2, .str b3]), some (.loc kp), some (.int j), x7, x8] M') :
    lqA E [some (.loc k), x1, x2, x3, some (.lst [.str b0, .str b1, .str b2, .str b3]), some (.loc kp), some (.int j), x7, x8] M := by
  have L : ∀ {a b : Nat}, Nat.ble a b = true → a ≤ b := Nat.le_of_ble_eq_true
  have ixl := @ix_loc
  have il := @il
  have is : ∀ {z : Str} {i : Int} {c : Nat} {M : Ms} {Q : DK}, z.length ≤ sizeLine → atI z.cps.toList i = some c → Q (.str ⟨#[c]⟩) M → gIx (.str z) (.int i) M Q := fun l e q => ⟨l, _, e, q⟩
  have sb := @sub_at
  obtain ⟨c, hc, c1, c2⟩ := low_at (z := "abcd") rfl (r := j) (by omega) (by show _ < (4 : Int); omega)
  have len : ∀ {b : Str} {v : Str}, Bd b → v.length ≤ 2 → b.length + v.length ≤ sizeLine := fun h h' => Nat.le_trans (Nat.add_le_add h.2.2 h') (by decide)
  have u1 : (⟨#[c]⟩ : Str).length ≤ 2 := Nat.le_succ 1
  have u2 : (Txt.mul ⟨#[c]⟩ 2).length ≤ 2 := (mul_low c1 c2 (.inr (.inr rfl))).2
  have lu2 : low (Txt.mul ⟨#[c]⟩ 2) = true := (mul_low c1 c2 (.inr (.inr rfl))).1
  have ls : ∀ {a : List Str} {ys : List D}, a.length ≤ 10 → ys.length ≤ 10 → (a.map D.str).length + ys.length ≤ sizeLine := fun h h' => by rw [List.length_map]; exact Nat.le_trans (Nat.add_le_add h h') (by decide)
  have kl := (List.getElem?_eq_some_iff.mp p.e).1
  have := p.a; have := p.b; have := p.c
  have w0 := isW_app h0.1 c1 h0.2.1 h0.2.2 u1
  have w1 := isW_app h1.1 lu2 h1.2.1 h1.2.2 u2
  have w2 := isW_app h2.1 c1 h2.2.1 h2.2.2 u1
  have w3 := isW_app h3.1 c1 h3.2.1 h3.2.2 u1
  unfold lqA
  generalize gIx = gx at ixl il is ⊢
  refine ixl p.e (at_n (k := 0) rfl) (il (at_n (k := 0) rfl) (is (L rfl) hc ⟨len h0 u1, ?_⟩))
  refine il (at_n (k := 1) rfl) (is (L rfl) hc ⟨mul_ok _ _ (.inr (.inr rfl)), len h1 u2, L rfl, ls (by omega) (L rfl), ?_⟩)
  refine sb (n := 0) rfl p.e rfl ?_
  have e1 := List.getElem?_set_self (a := some (OD.lst ([.lst (A.map D.str), .lst (B.map D.str), .lst (C.map D.str)].set 0 (.lst (A.map D.str ++ [.str (b0 ++ ⟨#[c]⟩), .str (b1 ++ Txt.mul ⟨#[c]⟩ 2)]))))) kl
  refine ixl e1 (at_n (k := 1) rfl) (il (at_n (k := 2) rfl) (is (L rfl) hc ⟨len h2 u1, L rfl, ls (by omega) (L rfl), ?_⟩))
  refine sb (n := 1) rfl e1 rfl ?_
  rw [List.set_set]
  have e2 := List.getElem?_set_self (a := some (OD.lst [.lst (A.map D.str ++ [.str (b0 ++ ⟨#[c]⟩), .str (b1 ++ Txt.mul ⟨#[c]⟩ 2)]), .lst (B.map D.str ++ [.str (b2 ++ ⟨#[c]⟩)]), .lst (C.map D.str)])) kl
  refine ixl e2 (at_n (k := 2) rfl) (il (at_n (k := 3) rfl) (is (L rfl) hc ⟨len h3 u1, L rfl, ls (by omega) (L rfl), ?_⟩))
  refine sb (n := 2) rfl e2 rfl ?_
  rw [List.set_set]
  refine q (A ++ [b0 ++ ⟨#[c]⟩, b1 ++ Txt.mul ⟨#[c]⟩ 2]) (B ++ [b2 ++ ⟨#[c]⟩]) (C ++ [b3 ++ ⟨#[c]⟩]) _ _ ⟨?_, ?_, ?_, ?_, ?_, ?_, ?_⟩ rfl
  · rw [List.getElem?_set_self kl, List.map_append, List.map_append, List.map_append]; rfl
  · rw [List.length_append]; show A.length + 2 = _; omega
  · rw [List.length_append]; show B.length + 1 = _; omega
  · rw [List.length_append]; show C.length + 1 = _; omega
  · exact all_app p.wa fun x hx => by
      rcases List.mem_cons.mp hx with rfl | hx
      · exact w0
      · rw [List.mem_singleton.mp hx]; exact w1
  · exact all_app p.wb (one_mem w2)
  · exact all_app p.wc (one_mem w3)
end K61
set_option Elab.async false
set_option linter.all false
set_option maxRecDepth 100000
set_option maxHeartbeats 4000000
namespace K61
open PySem PySem.Spec L2 L3
open FJ (Rw isW okB okN ptD Pt low)
theorem pt {k kp i : Nat} {n : Int} {A B C nms : List Str} {w : Str} {M : Ms} {Q : DK} (hk : kp ≠ k) (px : PX M kp A B C nms i) (h : Src M k n) (hn : n < 500000) (q : ∀ (rs : List Rw) (M' : Ms), (∀ r ∈ rs, r.ok = true) → 1 ≤ rs.length → rs.length ≤ 100 → Src M' k (n + 200) → Sib M M' k → Q (.tup [.str w, .lst (rs.map Rw.d)]) M') : P_part [.loc k, .str w, .int i, .loc kp, .lst (nms.map .str)] M Q := ⟨k, kp, i, n, A, B, C, nms, w, rfl, hk, px, h, hn, q⟩
def lqC (g_law_next g_law_part : GN) : DS := (dSeq (dSet 7 (dNew (fComp [none, some 0, some 5, some 3] (iRng1D (dCons (dVar 1) dNil)) (dgName 0) dYes (dCB g_law_part (dCons (dVar 1) (dCons (dOp gIx (dVar 3) (dVar 0)) (dCons (dVar 0) (dCons (dVar 2) (dCons (dVar 3) dNil)))))))))
  (dSeq (dSet 8 (dCB g_law_next (dCons (dVar 0) (dCons (dVar 1) dNil))))
  (dRet (dTup (dCons (dOp gPlus (dSl (dVar 7) (dPart (dVar 8)) dNoPart) (dSl (dVar 7) dNoPart (dPart (dVar 8)))) (dCons (dGive 5) dNil))))))
def lqB (g_law_next g_law_part : GN) : DS := (dSeq (dSet 4 (dOp gIx (dNew (fLst (dCons (dNew (fLst (dCons (dC (.str "c")) (dCons (dC (.str "i")) (dCons (dC (.str "n")) (dCons (dC (.str "t")) dNil)))))) (dCons (dNew (fLst (dCons (dC (.str "caller")) (dCons (dC (.str "inner")) (dCons (dC (.str "number")) (dCons (dC (.str "table")) dNil)))))) dNil)))) (dCB g_law_next (dCons (dVar 0) (dCons (dC (.int 2)) dNil)))))
  (dSeq (dSet 5 (dOwn (fLst (dCons (dNew (fLst dNil)) (dCons (dNew (fLst dNil)) (dCons (dNew (fLst dNil)) dNil))))))
  (dSeq (dFor (iRng1D (dCons (dVar 1) dNil)) (dgName 6) lqA)
  (lqC g_law_next g_law_part))))
theorem parts_eq0 (g_law_next g_law_word g_law_part : GN) : t_law_parts g_law_next g_law_word g_law_part = (dSeq (dSet 1 (dOp gPlus (dC (.int 1)) (dCB g_law_next (dCons (dVar 0) (dCons (dC (.int 4)) dNil)))))
  (dSeq (dSet 2 (dCB g_law_next (dCons (dVar 0) (dCons (dC (.int 500)) dNil))))
  (dSeq (dSet 3 (dNew (fComp [none, some 2] (iRng1D (dCons (dVar 1) dNil)) (dgName 0) dYes (dCB g_law_word (dCons (dOp gPlus (dVar 1) (dOp gMul (dC (.int 7)) (dVar 0))) dNil)))))
  (lqB g_law_next g_law_part)))) := rfl
theorem cut_all {α : Type} {xs : List α} {lo hi : Option Int} : ∀ x ∈ cutD xs lo hi, x ∈ xs := fun x hx => List.mem_of_mem_drop (List.mem_of_mem_take hx)
theorem cut_map {α β : Type} (f : α → β) {xs : List α} {lo hi : Option Int} : cutD (xs.map f) lo hi = (cutD xs lo hi).map f := by
  unfold cutD
  rw [List.length_map, List.map_take, List.map_drop]
theorem cut_len {α : Type} (xs : List α) (r : Int) : (cutD xs (some r) none).length + (cutD xs none (some r)).length = xs.length := by
  unfold cutD
  rw [List.length_take, List.length_drop, List.length_take, List.length_drop]
  show min (xs.length - HT.sIx xs.length 0 (some r)) _ + min (HT.sIx xs.length 0 (some r) - 0) (xs.length - 0) = _
  generalize HT.sIx xs.length 0 (some r) = a
  omega
def okP (p : Pt) : Prop := isW p.1 = true ∧ (1 ≤ p.2.length ∧ p.2.length ≤ 100) ∧ ∀ r ∈ p.2, r.ok = true
theorem PsT.of {ps : List Pt} (h : ∀ p ∈ ps, okP p) (l1 : 1 ≤ ps.length) (l4 : ps.length ≤ 4) : PsT ps := ⟨l4, l1, fun p hp => (h p hp).1, fun p hp => (h p hp).2.1, fun p hp => (h p hp).2.2⟩
theorem lqC_ok {M0 M : Ms} {k kp m : Nat} {n : Int} {A B C nms : List Str} {x2 x4 x6 x7 x8 : Option D} {Q : DK} {N : DSt → Ms → Prop} (p : Po M kp m A B C) (m1 : 1 ≤ m) (m4 : m ≤ 4) (hn : nms.length = m) (hw : ∀ w ∈ nms, isW w = true) (s : Src M k n) (b : Sib M0 M k) (lp : M0.length ≤ kp) (k0 : k < M0.length) (n0 : n < 10000)
    (q : ∀ (ps : List Pt) (d : D) (M' : Ms), PsT ps → Sib M0 M' k → Q (.tup [.lst (ps.map ptD), d]) M') :
    lqC P_next P_part ⟨N, Q, fun _ _ => False, fun _ _ => False⟩ [some (.loc k), some (.int m), x2, some (.lst (nms.map .str)), x4, some (.loc kp), x6, x7, x8] M := by
  have nx := @nx
  have pt := @pt
  have il := @il
  have L : ∀ {a b : Nat}, Nat.ble a b = true → a ≤ b := Nat.le_of_ble_eq_true
  have pa := p.a; have pb := p.b; have pc := p.c
  have hk : kp ≠ k := by omega
  have px : ∀ i, i < m → PX M kp A B C nms i := fun i hi => ⟨⟨p.e, ⟨by omega, by omega, p.wa⟩, ⟨by omega, by omega, p.wb⟩, ⟨by omega, by omega, p.wc⟩, by omega⟩, by omega, by omega, by omega, ⟨by rw [List.length_append]; omega, by rw [List.length_append]; omega, all_app p.wa hw⟩⟩
  unfold lqC
  generalize P_next = gn at nx ⊢
  generalize P_part = gp at pt ⊢
  generalize gIx = gx at il ⊢
  have hx : (rngD 0 ((m : Int)).toNat).length = m := by unfold rngD; simp
  refine ⟨⟨by omega, by omega⟩, trivial, ?_⟩
  refine compD_inv (fun j acc M' => ∃ ps : List Pt, acc = ps.map ptD ∧ (∀ p ∈ ps, okP p) ∧ ps.length = j ∧ Src M' k (n + 200 * j) ∧ Sib M M' k) (fun _ _ _ _ => trivial) _ 0 _ _ ⟨[], rfl, (fun _ h => nomatch h), rfl, by simpa using s, Sib.refl⟩ ?_ (fun j y acc M' hy hp Kk hK => ?_) (fun acc M2 hp => ?_)
  · rw [hx, List.length_nil, Nat.zero_add]; exact Nat.le_trans (show m ≤ 60 by omega) (by decide)
  · obtain ⟨ps, rfl, w1, w2, w3, w4⟩ := hp
    have hj : j < m := by have := (List.getElem?_eq_some_iff.mp hy).1; rw [hx] at this; exact this
    have ey : y = .int (j : Int) := by
      unfold rngD at hy
      rw [List.getElem?_map, List.getElem?_eq_getElem (by simpa using hj)] at hy
      rw [← Option.some.inj hy]
      simp
    subst ey
    refine il (at_n (k := j) (by rw [List.getElem?_map, List.getElem?_eq_getElem (by omega)]; rfl)) ?_
    refine pt hk ((px j hj).sib w4 hk) w3 (by omega) fun rs M3 r1 r2 r3 s3 b3 => hK _ _ _ rfl ⟨ps ++ [(_, rs)], by rw [List.map_append]; rfl, all_app w1 (one_mem ⟨hw _ (List.getElem_mem _), ⟨r2, r3⟩, r1⟩), by rw [List.length_append, w2]; rfl, s3.le (by omega), w4.trans b3⟩
  · obtain ⟨ps, rfl, w1, w2, w3, w4⟩ := hp
    rw [hx] at w2 w3
    have e2 : M2[kp]? = some (some (.lst [.lst (A.map .str), .lst (B.map .str), .lst (C.map .str)])) := by rw [w4.2 kp (List.getElem?_eq_some_iff.mp p.e).1 hk]; exact p.e
    refine nx (many := m) w3 (by omega) (by omega) (by omega) fun r M3 r0 r1 s3 b3 => ?_
    have e3 : M3[kp]? = some (some (.lst [.lst (A.map .str), .lst (B.map .str), .lst (C.map .str)])) := by rw [b3.2 kp (List.getElem?_eq_some_iff.mp e2).1 hk]; exact e2
    have cl := cut_len ps r
    refine ⟨?_, _, _, rfl, e3, L rfl, ?_⟩
    · rw [cut_map, cut_map, List.length_map, List.length_map, cl]; exact Nat.le_trans (show ps.length ≤ 4 by omega) (by decide)
    · rw [cut_map, cut_map, ← List.map_append]
      refine q _ _ _ (.of (all_app (fun p hp => w1 p (cut_all p hp)) fun p hp => w1 p (cut_all p hp)) ?_ ?_) (((b.trans w4).trans b3).set_out lp)
      · rw [List.length_append, cl]; omega
      · rw [List.length_append, cl]; omega
end K61
set_option Elab.async false
set_option linter.all false
set_option maxRecDepth 100000
set_option maxHeartbeats 4000000
namespace K61
open PySem PySem.Spec L2 L3
open FJ (Rw isW okB okN ptD Pt low)
theorem rng_at {m j : Nat} {y : D} (h : (rngD 0 ((m : Int)).toNat)[j]? = some y) : j < m ∧ y = .int (j : Int) := by
  have hx : (rngD 0 ((m : Int)).toNat).length = m := by unfold rngD; simp
  have hj : j < m := by have := (List.getElem?_eq_some_iff.mp h).1; rw [hx] at this; exact this
  refine ⟨hj, ?_⟩
  unfold rngD at h
  rw [List.getElem?_map, List.getElem?_eq_getElem (by simpa using hj)] at h
  rw [← Option.some.inj h]
  simp
theorem lqB_ok {M : Ms} {k m : Nat} {n : Int} {nms : List Str} {x2 x4 x5 x6 x7 x8 : Option D} {Q : DK} {N : DSt → Ms → Prop} (m1 : 1 ≤ m) (m4 : m ≤ 4) (hn : nms.length = m) (hw : ∀ w ∈ nms, isW w = true) (s : Src M k n) (n0 : n < 9000)
    (q : ∀ (ps : List Pt) (d : D) (M' : Ms), PsT ps → Sib M M' k → Q (.tup [.lst (ps.map ptD), d]) M') :
    lqB P_next P_part ⟨N, Q, fun _ _ => False, fun _ _ => False⟩ [some (.loc k), some (.int m), x2, some (.lst (nms.map .str)), x4, x5, x6, x7, x8] M := by
  have nx := @nx
  have il := @il
  have lA := @lqA_ok
  have k0 := s.lt
  have lC : ∀ {M1 : Ms} {kp : Nat} {n : Int} {A B C : List Str} {x4 x6 : Option D}, Po M1 kp m A B C → Src M1 k n → Sib M M1 k → M.length ≤ kp → n < 10000 → lqC P_next P_part ⟨N, Q, fun _ _ => False, fun _ _ => False⟩ [some (.loc k), some (.int m), x2, some (.lst (nms.map .str)), x4, some (.loc kp), x6, x7, x8] M1 := fun p s b lp n0 => lqC_ok p m1 m4 hn hw s b lp k0 n0 q
  have L : ∀ {a b : Nat}, Nat.ble a b = true → a ≤ b := Nat.le_of_ble_eq_true
  unfold lqB
  generalize hd : lqC P_next P_part = lD at lC ⊢
  clear hd
  generalize P_next = gn at nx ⊢
  generalize gIx = gx at il ⊢
  generalize lqA = gA at lA ⊢
  refine ⟨L rfl, L rfl, L rfl, nx s (by omega) (by decide) (by decide) fun r M1 r0 r1 s1 b1 => ?_⟩
  have hb : ∃ b0 b1 b2 b3 : Str, atI [D.lst [.str "c", .str "i", .str "n", .str "t"], D.lst [.str "caller", .str "inner", .str "number", .str "table"]] r = some (.lst [.str b0, .str b1, .str b2, .str b3]) ∧ Bd b0 ∧ Bd b1 ∧ Bd b2 ∧ Bd b3 := by
    have hr : r = 0 ∨ r = 1 := by omega
    rcases hr with rfl | rfl
    · exact ⟨"c", "i", "n", "t", rfl, ⟨rfl, L rfl, L rfl⟩, ⟨rfl, L rfl, L rfl⟩, ⟨rfl, L rfl, L rfl⟩, rfl, L rfl, L rfl⟩
    · exact ⟨"caller", "inner", "number", "table", rfl, ⟨rfl, L rfl, L rfl⟩, ⟨rfl, L rfl, L rfl⟩, ⟨rfl, L rfl, L rfl⟩, rfl, L rfl, L rfl⟩
  obtain ⟨b0, b1', b2, b3, hb, h0, h1, h2, h3⟩ := hb
  refine il hb ⟨L rfl, L rfl, L rfl, L rfl, ⟨by omega, by omega⟩, trivial, ?_⟩
  have hx : (rngD 0 ((m : Int)).toNat).length = m := by unfold rngD; simp
  refine forD_inv (fun j δ M' => ∃ (A B C : List Str) (o : Option D), Po M' M1.length j A B C ∧ Src M' k (n + 1) ∧ Sib M M' k ∧ δ = [some (.loc k), some (.int m), x2, some (.lst (nms.map .str)), some (.lst [.str b0, .str b1', .str b2, .str b3]), some (.loc M1.length), o, x7, x8]) (fun _ _ _ _ => trivial) _ 0 _ _ ⟨[], [], [], _, ⟨by simp; rfl, rfl, rfl, rfl, (fun _ h => nomatch h), (fun _ h => nomatch h), fun _ h => nomatch h⟩, s1.push, b1.trans Sib.push, rfl⟩ (fun j x δ M' hy hp N' hN => ?_) (fun δ M' hp => ?_)
  · obtain ⟨A, B, C, o, p, s', b', rfl⟩ := hp
    obtain ⟨hj, rfl⟩ := rng_at hy
    rw [Nat.zero_add] at p hN
    refine lA p (by omega) h0 h1 h2 h3 fun A B C M2 o p2 e2 => hN _ _ ⟨A, B, C, _, p2, ?_, ?_, rfl⟩
    · rw [e2]; have := b1.1; exact s'.set_ne (by omega)
    · rw [e2]; exact b'.set_out b1.1
  · obtain ⟨A, B, C, o, p, s', b', rfl⟩ := hp
    rw [hx, Nat.zero_add] at p
    exact lC p s' b' b1.1 (by omega)
def P_parts : GN := fun ds M Q => ∃ (k : Nat) (n : Int), ds = [.loc k] ∧ Src M k n ∧ n < 1000 ∧ ∀ (ps : List Pt) (d : D) (M' : Ms), PsT ps → Sib M M' k → Q (.tup [.lst (ps.map ptD), d]) M'
theorem P_parts_mono : monoN P_parts := fun ds M P Q w ⟨k, n, h1, h2, h3, q⟩ => ⟨k, n, h1, h2, h3, fun ps d M' a b => w _ _ (q ps d M' a b)⟩
theorem sp_parts : ∀ ds M Q, P_parts ds M Q → fnG 9 1 (t_law_parts P_next (cl P_word) P_part) ds M Q := fun ds M Q ⟨k, n, h1, s, hn, q⟩ => by
  subst h1
  rw [parts_eq0]
  have nx := @nx
  have L : ∀ {a b : Nat}, Nat.ble a b = true → a ≤ b := Nat.le_of_ble_eq_true
  have lB : ∀ {M1 : Ms} {n' : Int} {m : Nat} {nms : List Str} {x2 x4 x5 x6 x7 x8 : Option D} {N : DSt → Ms → Prop}, 1 ≤ m → m ≤ 4 → nms.length = m → (∀ w ∈ nms, isW w = true) → Src M1 k n' → Sib M M1 k → n' < 9000 → lqB P_next P_part ⟨N, Q, fun _ _ => False, fun _ _ => False⟩ [some (.loc k), some (.int m), x2, some (.lst (nms.map .str)), x4, x5, x6, x7, x8] M1 := fun m1 m4 hn hw s b n0 => lqB_ok m1 m4 hn hw s n0 fun ps d M' p b' => q ps d M' p (b.trans b')
  generalize hd : lqB P_next P_part = lD at lB ⊢
  clear hd
  have wd : ∀ {i : Int} {Q : D → Prop}, 0 ≤ i → i < 1000 → (∀ w, isW w = true → Q (.str w)) → P_word [.int i] Q := fun h1 h2 q => ⟨_, h1, h2, rfl, q⟩
  generalize P_next = gn at nx ⊢
  generalize P_word = gw at wd ⊢
  refine ⟨rfl, nx s (by omega) (by decide) (by decide) fun r M1 r0 r1 s1 b1 => nx s1 (by omega) (by decide) (by decide) fun f M2 f0 f1 s2 b2 => ?_⟩
  obtain ⟨m, hm⟩ := Int.eq_ofNat_of_zero_le (show 0 ≤ 1 + r by omega)
  have hx : (rngD 0 ((m : Int)).toNat).length = m := by unfold rngD; simp
  rw [hm]
  refine ⟨⟨by omega, by omega⟩, trivial, ?_⟩
  refine compD_inv (fun j acc M' => ∃ ws : List Str, acc = ws.map .str ∧ (∀ w ∈ ws, isW w = true) ∧ ws.length = j ∧ M' = M2) (fun _ _ _ _ => trivial) _ 0 _ _ ⟨[], rfl, (fun _ h => nomatch h), rfl, rfl⟩ ?_ (fun j y acc M' hy hp Kk hK => ?_) (fun acc M3 hp => ?_)
  · rw [hx, List.length_nil, Nat.zero_add]; exact Nat.le_trans (show m ≤ 60 by omega) (by decide)
  · obtain ⟨ws, rfl, w1, w2, rfl⟩ := hp
    obtain ⟨hj, rfl⟩ := rng_at hy
    exact ⟨.inl ⟨by decide, by decide⟩, rfl, wd (by omega) (by omega) fun w hw => hK _ _ _ rfl ⟨ws ++ [w], by rw [List.map_append]; rfl, all_app w1 (one_mem hw), by rw [List.length_append, w2]; rfl, rfl⟩⟩
  · obtain ⟨ws, rfl, w1, w2, rfl⟩ := hp
    rw [hx, Nat.zero_add] at w2
    exact lB (by omega) (by omega) w2 w1 s2 (b1.trans b2) (by omega)
end K61
set_option Elab.async false
set_option linter.all false
set_option maxRecDepth 100000
set_option maxHeartbeats 4000000
namespace K61
open PySem PySem.Spec L2 L3
open FJ (Rw isW okB okN ptD Pt low forD_fam compD_fam)
mutual
theorem eqD_refl : ∀ d : D, L3.pl d = true → eqD d d = true
  | .non, _ => rfl
  | .bl b, _ => by cases b <;> rfl
  | .int i, _ => by unfold eqD; simp
  | .str s, _ => by unfold eqD; simp
  | .tup ds, h => by unfold eqD; unfold L3.pl at h; exact eqDs_refl ds h
  | .lst ds, h => by unfold eqD; unfold L3.pl at h; exact eqDs_refl ds h
  | .ty _, h => by unfold L3.pl at h; cases h
  | .scr ns, h => by unfold L3.pl at h; cases h
  | .cls _, h => by unfold L3.pl at h; cases h
  | .loc _, h => by unfold L3.pl at h; cases h
  | .dct _ _, h => by unfold L3.pl at h; cases h
  | .ins _ _ _, h => by unfold L3.pl at h; cases h
  | .exc _ _ _, h => by unfold L3.pl at h; cases h
theorem eqDs_refl : ∀ ds : List D, L3.pls ds = true → eqDs ds ds = true
  | [], _ => rfl
  | d :: ds, h => by
    unfold eqDs; unfold pls at h
    rw [Bool.and_eq_true] at h
    rw [eqD_refl d h.1, eqDs_refl ds h.2]; rfl
end
theorem pls_map {β : Type} {f : β → D} : ∀ l : List β, (∀ x ∈ l, L3.pl (f x) = true) → pls (l.map f) = true
  | [], _ => rfl
  | x :: l, h => by show (L3.pl (f x) && pls (l.map f)) = true; rw [h x List.mem_cons_self, pls_map l fun y hy => h y (List.mem_cons_of_mem _ hy)]; rfl
theorem dps_map {β : Type} {f : β → D} {n : Nat} : ∀ l : List β, (∀ x ∈ l, dp (f x) ≤ n) → dps (l.map f) ≤ n
  | [], _ => Nat.zero_le _
  | x :: l, h => by
    show max (dp (f x)) (dps (l.map f)) ≤ n
    have := h x List.mem_cons_self
    have := dps_map (f := f) (n := n) l fun y hy => h y (List.mem_cons_of_mem _ hy)
    omega
theorem strOk_w {w : Str} (h : isW w = true) : PyData.strOk w = true := by
  unfold isW low at h
  rw [Bool.and_eq_true] at h
  have h := h.2
  unfold PyData.strOk
  rw [List.all_eq_true] at h
  rw [← Array.all_toList, List.all_eq_true]
  intro c hc
  have := h c hc
  rw [Bool.and_eq_true] at this
  have := of_decide_eq_true this.2
  exact decide_eq_true (by omega)
theorem pls_strs {ws : List Str} (h : ws.all isW = true) : L3.pls (ws.map D.str) = true := pls_map ws fun w hw => strOk_w (List.all_eq_true.mp h w hw)
theorem pl_d {r : Rw} (h : r.ok = true) : L3.pl r.d = true := by
  cases r <;> unfold Rw.ok at h <;> simp only [Bool.and_eq_true, decide_eq_true_eq] at h <;> simp only [Rw.d, L3.pl, L3.pls, Bool.and_eq_true] <;> (repeat' apply And.intro)
  all_goals first | rfl | trivial | exact strOk_w rfl | exact strOk_w h | exact strOk_w h.1 | exact strOk_w h.2 | exact strOk_w h.1.2 | exact pls_map _ fun _ _ => rfl | exact pls_strs h.2
theorem dp_d (r : Rw) : dp r.d ≤ 2 := by
  cases r
  case numbers ns => have := dps_map (f := D.int) (n := 0) ns fun _ _ => Nat.le_refl _; show max 0 (max (dps (ns.map D.int) + 1) 0) + 1 ≤ 2; omega
  case table ns => have := dps_map (f := D.str) (n := 0) ns fun _ _ => Nat.le_refl _; show max 0 (max (dps (ns.map D.str) + 1) 0) + 1 ≤ 2; omega
  all_goals exact Nat.le_of_ble_eq_true rfl
theorem pl_parts {ps : List Pt} (ok : PsT ps) : L3.pl (.lst (ps.map ptD)) = true ∧ dp (.lst (ps.map ptD)) ≤ 60 := by
  refine ⟨pls_map ps fun p hp => ?_, ?_⟩
  · show (PyData.strOk p.1 && (pls (p.2.map Rw.d) && true)) = true
    rw [strOk_w (ok.w p hp), pls_map p.2 fun r hr => pl_d (ok.ok p hp r hr)]; rfl
  · have := dps_map (f := ptD) (n := 4) ps fun p _ => by
      have := dps_map (f := Rw.d) (n := 2) p.2 fun r _ => dp_d r
      show max 0 (max (dps (p.2.map Rw.d) + 1) 0) + 1 ≤ 4
      omega
    show dps (ps.map ptD) + 1 ≤ 60
    omega
theorem ne_self {ds : List D} {M : Ms} {Q : DK} (hp : L3.pl (.lst ds) = true) (hd : dp (.lst ds) ≤ 60) (q : Q (.bl false) M) : gNe (.lst ds) (.lst ds) M Q := by
  refine ⟨⟨hp, hp, hd, hd⟩, ?_⟩
  show Q (.bl (!eqD (.lst ds) (.lst ds))) M
  rw [eqD_refl _ hp]; exact q
theorem rd_tup (M : Ms) (r : Rw) : isT "tuple" (vw M r.d) = some true := by cases r <;> rfl
def P_right : GP := fun ds Q => ∃ ps : List Pt, PsT ps ∧ ds = [.lst (ps.map ptD), .lst (ps.map ptD)] ∧ Q (.bl true)
theorem P_right_mono : monoP P_right := fun ds P Q w ⟨ps, h1, h2, q⟩ => ⟨ps, h1, h2, w _ q⟩
theorem sp_right (K : PySem.W.Frag) : ∀ ds Q, P_right ds Q → fnC 3 2 (t_law_right K) ds Q := by
  rintro ds Q ⟨ps, h, e, q⟩
  subst e
  have pp := pl_parts h
  have ne : ∀ {M : Ms} {Q : DK}, Q (.bl false) M → gNe (.lst (ps.map ptD)) (.lst (ps.map ptD)) M Q := fun q => ne_self pp.1 pp.2 q
  unfold t_law_right
  generalize gNe = gn at ne ⊢
  refine ⟨rfl, _, rfl, ne ?_⟩
  refine ⟨_, rfl, rfl, ?_⟩
  refine forD_fam ptD (fun a b δ M => ps = a ++ b ∧ M = [] ∧ ∃ o, δ = [some (.lst (ps.map ptD)), some (.lst (ps.map ptD)), o]) (fun _ _ _ _ e => by rw [e.2.1]) ps [] _ _ ⟨rfl, rfl, none, rfl⟩ (fun pre p xs δ M hp N hN => ?_) (fun pre δ M hp => ?_)
  · obtain ⟨he, rfl, o, rfl⟩ := hp
    have he2 : ps = pre ++ [p] ++ xs := by rw [he, List.append_assoc]; rfl
    have hm : p ∈ ps := by rw [he]; simp
    refine ⟨_, rfl, ⟨_, rfl, _, rfl, ?_⟩⟩
    refine ⟨_, rfl, _, rfl, rfl, ?_⟩
    refine compD_fam Rw.d (fun r => .bl true) ?_ p.2 [] ?_ (fun r hr Kk hK => ?_) ?_
    · exact rfl
    · rw [List.length_nil, Nat.zero_add]; exact Nat.le_trans (h.n p hm).2 (by decide)
    · exact ⟨true, rd_tup _ r, hK _ rfl⟩
    · refine ⟨p.2.map fun _ => true, ?_, ?_⟩
      · show D.lst _ = D.lst _
        rw [List.map_map]; rfl
      · rw [show (p.2.map fun _ => true).all id = true by simp]
        exact hN _ _ ⟨he2, rfl, _, rfl⟩
  · obtain ⟨he, rfl, o, rfl⟩ := hp
    exact ⟨rfl, q⟩
end K61
set_option Elab.async false
set_option linter.all false
set_option maxRecDepth 100000
set_option maxHeartbeats 4000000
namespace K61
open PySem PySem.Spec L2 L3
open FJ (Rw isW okB okN ptD Pt low forD_fam compD_fam nls_parts)
theorem strOk_c {s : Str} (h : ∀ c ∈ s.cps.toList, c < 1000) : PyData.strOk s = true := by
  unfold PyData.strOk
  rw [← Array.all_toList, List.all_eq_true]
  exact fun c hc => decide_eq_true (Nat.lt_trans (h c hc) (by decide))
theorem line_ok {r : Rw} (h : r.ok = true) : PyData.strOk (line r) = true := by
  cases hm : r.isMark with
  | true =>
    cases r <;> first | (cases hm; done) | skip
    case mark w b =>
      have go : ∀ x : Str, (∀ c ∈ x.cps.toList, c < 1000) → PyData.strOk (w ++ x) = true := fun x hx => strOk_c fun c hc => by
        rw [cps_app] at hc
        rcases List.mem_append.mp hc with hc | hc
        · have := word_c h c hc; omega
        · exact hx c hc
      cases b
      · exact go ":" (by decide +kernel)
      · exact go "::" (by decide +kernel)
  | false =>
    refine strOk_c fun c hc => ?_
    rcases line_c h hm c hc with h' | h'
    · unfold okC at h'; omega
    · omega
theorem ne_str {t : Str} {M : Ms} {Q : DK} (q : Q (.bl false) M) : gNe (.str t) (.str t) M Q := by
  show Q (.bl (!(t == t))) M
  rw [beq_self_eq_true]; exact q
theorem nl1 (ps : List Pt) : nls [.lst (ps.map ptD)] = true := by show (nls (ps.map ptD) && true) = true; rw [nls_parts]; rfl
theorem nl2 (ps : List Pt) : nls [.lst (ps.map ptD), .lst (ps.map ptD)] = true := by show (nls (ps.map ptD) && (nls (ps.map ptD) && true)) = true; rw [nls_parts]; rfl
def lawE (g_show_row g_law_line : GN) : DS := (dFor (iAnyD (dVar 2)) (dgTup 2 (dgCons (dgName 7) (dgCons (dgName 8) dgNil))) (dIfS (dTest (dOp gNe (dNew (fComp [none] (iAnyD (dVar 8)) (dgName 0) dYes (dCB g_show_row (dCons (dVar 0) dNil)))) (dNew (fComp [none] (iAnyD (dVar 8)) (dgName 0) dYes (dCB g_law_line (dCons (dVar 0) dNil)))))) (dRet (dC (.bl false))) dNext))
def lawD (g_show_parts g_law_right g_read_parts g_show_row g_law_line : GN) : DS := (dSeq (dIfS (dOr (dNot (dTest (dCB g_law_right (dCons (dCB g_read_parts (dCons (dVar 4) dNil)) (dCons (dVar 2) dNil))))) (dTest (dOp gNe (dCB g_show_parts (dCons (dCB g_read_parts (dCons (dVar 4) dNil)) dNil)) (dVar 4)))) (dRet (dC (.bl false))) dNext)
  (lawE g_show_row g_law_line))
def lawC (g_show_parts g_law_right g_read_parts gg_read_parts g_show_row g_law_line : GN) : DS := (dSeq (dSet 6 (dCB gg_read_parts (dCons (dVar 4) dNil)))
  (dSeq (dDrop (dBM "list" gmPop (dOp gIx (dOp gIx (dVar 6) (dC (.int 0))) (dC (.int 1))) dNil))
  (dSeq (dDrop (dBM "list" gmPop (dVar 6) dNil))
  (lawD g_show_parts g_law_right g_read_parts g_show_row g_law_line))))
def lawB (g_show_parts g_law_right g_read_parts gg_read_parts g_show_row g_law_line : GN) : DS := (dSeq (dIfS (dOr (dTest (dOp gNe (dCB g_show_parts (dCons (dVar 5) dNil)) (dVar 4))) (dOr (dTest (dOp gNe (dVar 5) (dVar 2))) (dNot (dTest (dCB g_law_right (dCons (dCB g_read_parts (dCons (dVar 4) dNil)) (dCons (dVar 2) dNil))))))) (dRet (dC (.bl false))) dNext)
  (lawC g_show_parts g_law_right g_read_parts gg_read_parts g_show_row g_law_line))
def lawA (g_law_parts g_law_source g_law_text g_show_parts g_law_right g_read_parts gg_read_parts g_show_row g_law_line : GN) : DS := (dSeq (dAsg (dCB g_law_parts (dCons (dCB g_law_source (dCons (dVar 1) dNil)) dNil)) (dgTup 2 (dgCons (dgName 2) (dgCons (dgName 3) dgNil))))
  (dSeq (dSet 4 (dCB g_law_text (dCons (dVar 2) dNil)))
  (dSeq (dSet 5 (dNew (fComp [none, none] (iAnyD (dVar 2)) (dgTup 2 (dgCons (dgName 0) (dgCons (dgName 1) dgNil))) dYes (dTup (dCons (dVar 0) (dCons (dNew (fCB gfList (dCons (dVar 1) dNil))) dNil))))))
  (lawB g_show_parts g_law_right g_read_parts gg_read_parts g_show_row g_law_line))))
def lawZ (g_show_row : GN) : DS := (dRet (dAndV (dOp gEq (dCB g_show_row (dCons (dTup (dCons (dC (.str "load")) (dCons (dC (.int 1)) (dCons (dC (.int 0)) (dCons (dC (.int 65535)) dNil))))) dNil)) (dC (.str "load 1 0 65535"))) (dOp gEq (dCB g_show_row (dCons (dTup (dCons (dC (.str "table")) (dCons (dNew (fLst (dCons (dC (.int 7)) (dCons (dC (.int 0)) dNil)))) dNil))) dNil)) (dC (.str "table 7 0")))))
theorem law_eq0 (g_law_parts g_law_source g_law_text g_show_parts g_law_right g_read_parts gg_read_parts g_show_row g_law_line : GN) : t_law g_law_parts g_law_source g_law_text g_show_parts g_law_right g_read_parts gg_read_parts g_show_row g_law_line = dSeq (dFor (iAnyD (dOp gPlus (dSl (dVar 0) dNoPart (dPart (dC (.int 6)))) (dNew (fLst (dCons (dC (.int 0)) dNil))))) (dgName 1) (lawA g_law_parts g_law_source g_law_text g_show_parts g_law_right g_read_parts gg_read_parts g_show_row g_law_line)) (lawZ g_show_row) := rfl
section
variable {E : DEnds} {M : Ms} {ps : List Pt} {x0 x1 x3 x4 x5 x6 x7 x8 : Option D}
theorem lawE_ok (h : PsT ps) (q : ∀ o7 o8, E.nx [x0, x1, some (.lst (ps.map ptD)), x3, x4, x5, x6, o7, o8] M) : lawE (cl P_show) (cl P_line) E [x0, x1, some (.lst (ps.map ptD)), x3, x4, x5, x6, x7, x8] M := by
  have ne := @ne_self
  unfold lawE
  generalize gNe = gn at ne ⊢
  refine ⟨_, rfl, rfl, ?_⟩
  refine forD_fam ptD (fun a b δ M' => ps = a ++ b ∧ M' = M ∧ ∃ o7 o8, δ = [x0, x1, some (.lst (ps.map ptD)), x3, x4, x5, x6, o7, o8]) (fun _ _ _ _ _ => rfl) ps [] _ _ ⟨rfl, rfl, _, _, rfl⟩ (fun pre p xs δ M' hp N hN => ?_) (fun pre δ M' hp => ?_)
  · obtain ⟨he, rfl, o7, o8, rfl⟩ := hp
    have he2 : ps = pre ++ [p] ++ xs := by rw [he, List.append_assoc]; rfl
    have hm : p ∈ ps := by rw [he]; simp
    have len : ([] : List D).length + p.2.length ≤ sizeLine := by rw [List.length_nil, Nat.zero_add]; exact Nat.le_trans (h.n p hm).2 (by decide)
    refine ⟨rfl, rfl, _, rfl, rfl, ?_⟩
    refine compD_fam Rw.d (fun r => .str (line r)) ?_ p.2 [] len (fun r hr Kk hK => ?_) ?_
    · exact rfl
    · exact ⟨by show (nl r.d && true) = true; rw [r.nld]; rfl, _, _, sh_row (h.ok p hm r hr), rfl, hK _ rfl⟩
    refine ⟨_, rfl, rfl, ?_⟩
    refine compD_fam Rw.d (fun r => .str (line r)) ?_ p.2 [] len (fun r hr Kk hK => ?_) ?_
    · exact rfl
    · exact ⟨by show (nl r.d && true) = true; rw [r.nld]; rfl, r, h.ok p hm r hr, rfl, hK _ rfl⟩
    refine ne (pls_map p.2 fun r hr => line_ok (h.ok p hm r hr)) ?_ (hN _ _ ⟨he2, rfl, _, _, rfl⟩)
    have := dps_map (f := fun r => D.str (line r)) (n := 0) p.2 fun _ _ => Nat.le_refl _
    show dps (p.2.map fun r => D.str (line r)) + 1 ≤ 60
    omega
  · obtain ⟨he, rfl, o7, o8, rfl⟩ := hp
    exact q _ _
theorem lawD_ok (h : PsT ps) (q : ∀ o7 o8, E.nx [x0, x1, some (.lst (ps.map ptD)), x3, some (.str (text ps)), x5, x6, o7, o8] M) : lawD (cl P_shp) (cl P_right) (cl P_rpC) (cl P_show) (cl P_line) E [x0, x1, some (.lst (ps.map ptD)), x3, some (.str (text ps)), x5, x6, x7, x8] M := by
  have le : ∀ {E : DEnds}, (∀ o7 o8, E.nx [x0, x1, some (.lst (ps.map ptD)), x3, some (.str (text ps)), x5, x6, o7, o8] M) → lawE (cl P_show) (cl P_line) E [x0, x1, some (.lst (ps.map ptD)), x3, some (.str (text ps)), x5, x6, x7, x8] M := fun q => lawE_ok h q
  have ne := @ne_str
  unfold lawD
  generalize lawE (cl P_show) (cl P_line) = lE at le ⊢
  generalize gNe = gn at ne ⊢
  exact ⟨rfl, ps, h, rfl, nl2 ps, ps, h, rfl, rfl, ps, h, rfl, nl1 ps, ps, h, rfl, ne (le q)⟩
theorem lawC_ok (h : PsT ps) (q : ∀ o6 o7 o8 M', E.nx [x0, x1, some (.lst (ps.map ptD)), x3, some (.str (text ps)), x5, o6, o7, o8] M') : lawC (cl P_shp) (cl P_right) (cl P_rpC) P_rpG (cl P_show) (cl P_line) E [x0, x1, some (.lst (ps.map ptD)), x3, some (.str (text ps)), x5, x6, x7, x8] M := by
  have ld : ∀ {E : DEnds} {M : Ms} {x6 : Option D}, (∀ o7 o8, E.nx [x0, x1, some (.lst (ps.map ptD)), x3, some (.str (text ps)), x5, x6, o7, o8] M) → lawD (cl P_shp) (cl P_right) (cl P_rpC) (cl P_show) (cl P_line) E [x0, x1, some (.lst (ps.map ptD)), x3, some (.str (text ps)), x5, x6, x7, x8] M := fun q => lawD_ok h q
  have ixl := @ix_loc
  have it : ∀ {xs : List D} {i : Int} {d : D} {M : Ms} {Q : DK}, atI xs i = some d → Q d M → gIx (.tup xs) (.int i) M Q := fun e q => ⟨_, e, q⟩
  unfold lawC
  generalize lawD (cl P_shp) (cl P_right) (cl P_rpC) (cl P_show) (cl P_line) = lD at ld ⊢
  generalize gIx = gx at ixl it ⊢
  have l0 : 0 < ps.length := h.lo
  have e0 : ps[0]? = some ps[0] := List.getElem?_eq_getElem l0
  have n0 := (h.n ps[0] (List.getElem_mem _)).1
  have m0 := mkM_0 M ps
  have mi := mkM_i (M0 := M) e0
  have tl : (tups M.length ps).length = ps.length := by unfold tups; rw [List.length_mapIdx]
  have t0 : (tups M.length ps)[0]? = some (.tup [.str ps[0].1, .loc (M.length + 1 + 0)]) := by unfold tups; rw [List.getElem?_mapIdx, e0]; rfl
  have ne1 : (ps[0].2.map Rw.d) ≠ [] := fun e => by have := congrArg List.length e; rw [List.length_map] at this; rw [this] at n0; exact absurd n0 (by decide)
  have ne2 : tups M.length ps ≠ [] := fun e => by have := congrArg List.length e; rw [tl] at this; rw [this] at l0; exact absurd l0 (by decide)
  obtain ⟨es, x, ee⟩ : ∃ es x, ps[0].2.map Rw.d = es ++ [x] := ⟨_, _, (List.dropLast_concat_getLast ne1).symm⟩
  obtain ⟨fs, y, ef⟩ : ∃ es x, tups M.length ps = es ++ [x] := ⟨_, _, (List.dropLast_concat_getLast ne2).symm⟩
  rw [ee] at mi
  refine ⟨ps, h, rfl, ixl m0 (at_n (k := 0) t0) (it (at_n (k := 1) rfl) ⟨?_, es, x, mi, ?_⟩)⟩
  · rw [vw_loc mi]; rfl
  have m1 : ((mkM M ps).set (M.length + 1 + 0) (some (.lst es)))[M.length]? = some (some (.lst (fs ++ [y]))) := by
    rw [List.getElem?_set_ne (by omega), m0, ef]
  refine ⟨?_, fs, y, m1, ld fun o7 o8 => q _ _ _ _⟩
  show tyD "list" (vw _ (.loc M.length)) = true
  rw [vw_loc m1]; rfl
theorem lawB_ok (h : PsT ps) (q : ∀ o5 o6 o7 o8 M', E.nx [x0, x1, some (.lst (ps.map ptD)), x3, some (.str (text ps)), o5, o6, o7, o8] M') : lawB (cl P_shp) (cl P_right) (cl P_rpC) P_rpG (cl P_show) (cl P_line) E [x0, x1, some (.lst (ps.map ptD)), x3, some (.str (text ps)), some (.lst (ps.map ptD)), x6, x7, x8] M := by
  have lc : ∀ {E : DEnds} {x5 : Option D}, (∀ o6 o7 o8 M', E.nx [x0, x1, some (.lst (ps.map ptD)), x3, some (.str (text ps)), x5, o6, o7, o8] M') → lawC (cl P_shp) (cl P_right) (cl P_rpC) P_rpG (cl P_show) (cl P_line) E [x0, x1, some (.lst (ps.map ptD)), x3, some (.str (text ps)), x5, x6, x7, x8] M := fun q => lawC_ok h q
  have ne := @ne_str
  have pp := pl_parts h
  have ne2 : ∀ {M : Ms} {Q : DK}, Q (.bl false) M → gNe (.lst (ps.map ptD)) (.lst (ps.map ptD)) M Q := fun q => ne_self pp.1 pp.2 q
  unfold lawB
  generalize lawC (cl P_shp) (cl P_right) (cl P_rpC) P_rpG (cl P_show) (cl P_line) = lC at lc ⊢
  generalize gNe = gn at ne ne2 ⊢
  exact ⟨nl1 ps, ps, h, rfl, ne (ne2 ⟨rfl, ps, h, rfl, nl2 ps, ps, h, rfl, lc (q _)⟩)⟩
end
end K61
set_option Elab.async false
set_option linter.all false
set_option maxRecDepth 100000
set_option maxHeartbeats 4000000
namespace K61
open PySem PySem.Spec L2 L3
open FJ (Rw isW okB okN ptD Pt low forD_fam compD_fam nls_parts)
section
variable {E : DEnds} {M : Ms} {x0 x2 x3 x4 x5 x6 x7 x8 : Option D}
theorem lawA_ok {i : Int} (q : ∀ o2 o3 o4 o5 o6 o7 o8 M', E.nx [x0, some (.int i), o2, o3, o4, o5, o6, o7, o8] M') : lawA P_parts P_source (cl P_shp) (cl P_shp) (cl P_right) (cl P_rpC) P_rpG (cl P_show) (cl P_line) E [x0, some (.int i), x2, x3, x4, x5, x6, x7, x8] M := by
  have lb : ∀ {E : DEnds} {M : Ms} {ps : List Pt} {x3 : Option D}, PsT ps → (∀ o5 o6 o7 o8 M', E.nx [x0, some (.int i), some (.lst (ps.map ptD)), x3, some (.str (text ps)), o5, o6, o7, o8] M') → lawB (cl P_shp) (cl P_right) (cl P_rpC) P_rpG (cl P_show) (cl P_line) E [x0, some (.int i), some (.lst (ps.map ptD)), x3, some (.str (text ps)), some (.lst (ps.map ptD)), x6, x7, x8] M := fun h q => lawB_ok h q
  unfold lawA
  generalize lawB (cl P_shp) (cl P_right) (cl P_rpC) P_rpG (cl P_show) (cl P_line) = lB at lb ⊢
  refine ⟨M.length, 0, rfl, ⟨i / 2, i % 2, 0, i, by simp, Int.le_refl _, Int.le_refl _⟩, by decide, fun ps d M1 h _ => ⟨rfl, rfl, nl1 ps, ps, h, rfl, ?_⟩⟩
  refine ⟨_, rfl, rfl, ?_⟩
  refine compD_fam ptD ptD ?_ ps [] ?_ (fun p hp Kk hK => ?_) ?_
  · exact rfl
  · rw [List.length_nil, Nat.zero_add]; exact Nat.le_trans h.hi (by decide)
  · exact ⟨rfl, rfl, Nat.le_of_ble_eq_true rfl, hK _ rfl⟩
  exact lb h (q _ _ _)
end
def P_law : GP := fun ds Q => ∃ ns : List Int, ds = [.scr ns] ∧ Q (.bl true)
theorem cut_6 {xs : List D} : cutD xs none (some 6) = xs.take 6 := by
  show cutD xs none (some ((6 : Nat) : Int)) = _
  unfold cutD
  rw [HT.sIx_nat, HT.sIx_none]
  simp
theorem eq_str {s t : Str} {M : Ms} {Q : DK} (e : (s == t) = true) (q : Q (.bl true) M) : gEq (.str s) (.str t) M Q := by
  show Q (.bl (s == t)) M
  rw [e]; exact q
theorem sh_load : Sh (.tup [.str "load", .int 1, .int 0, .int 65535]) (Str.join ⟨#[32]⟩ ("load" :: (fl [.int 1, .int 0, .int 65535]).map txD)) := .row rfl (Nat.le_of_ble_eq_true rfl) (fun d hd => .inl (.inr (by
  simp only [List.mem_cons, List.not_mem_nil, or_false] at hd
  rcases hd with rfl | rfl | rfl <;> exact ⟨_, rfl, by decide⟩))) (by decide)
theorem sh_table : Sh (.tup [.str "table", .lst [.int 7, .int 0]]) (Str.join ⟨#[32]⟩ ("table" :: (fl [.lst [.int 7, .int 0]]).map txD)) := .row rfl (Nat.le_of_ble_eq_true rfl) (fun d hd => .inr ⟨_, List.mem_singleton.mp hd, fun y hy => .inr (by
  simp only [List.mem_cons, List.not_mem_nil, or_false] at hy
  rcases hy with rfl | rfl <;> exact ⟨_, rfl, by decide⟩)⟩) (by decide)
theorem lawZ_ok {E : DEnds} {δ : DSt} {M : Ms} (q : E.rt (.bl true) M) : lawZ (cl P_show) E δ M := by
  have eqs := @eq_str
  have h1 : (Str.join ⟨#[32]⟩ ("load" :: (fl [.int 1, .int 0, .int 65535]).map txD) == "load 1 0 65535") = true := by decide +kernel
  have h2 : (Str.join ⟨#[32]⟩ ("table" :: (fl [.lst [.int 7, .int 0]]).map txD) == "table 7 0") = true := by decide +kernel
  unfold lawZ
  generalize gEq = ge at eqs ⊢
  have L : ∀ {a b : Nat}, Nat.ble a b = true → a ≤ b := Nat.le_of_ble_eq_true
  exact ⟨L rfl, rfl, _, _, sh_load, rfl, eqs h1 ⟨L rfl, L rfl, rfl, _, _, sh_table, rfl, eqs h2 q⟩⟩
theorem sp_law : ∀ ds Q, P_law ds Q → fnC 9 1 (t_law P_parts P_source (cl P_shp) (cl P_shp) (cl P_right) (cl P_rpC) P_rpG (cl P_show) (cl P_line)) ds Q := fun ds Q ⟨ns, h, q⟩ => by
  subst h
  rw [law_eq0]
  have la := @lawA_ok
  have lz := @lawZ_ok
  generalize lawA P_parts P_source (cl P_shp) (cl P_shp) (cl P_right) (cl P_rpC) P_rpG (cl P_show) (cl P_line) = lA at la ⊢
  generalize lawZ (cl P_show) = lZ at lz ⊢
  refine ⟨rfl, ?_⟩
  refine ⟨Nat.le_of_ble_eq_true rfl, ?_, ?_⟩
  · rw [cut_6]; simp; exact Nat.le_trans (show min 6 ns.length + 1 ≤ 13 by omega) (by decide)
  refine ⟨iD (ns.take 6 ++ [0]), ?_, rfl, ?_⟩
  · show some (cutD (ns.map D.int) none (some 6) ++ [D.int 0]) = _
    rw [cut_6]; simp
  refine forD_fam D.int (fun _ _ δ _ => ∃ o1 o2 o3 o4 o5 o6 o7 o8, δ = [some (.scr ns), o1, o2, o3, o4, o5, o6, o7, o8]) (fun _ _ _ _ _ => rfl) _ [] _ _ ⟨_, _, _, _, _, _, _, _, rfl⟩ (fun pre i xs δ M' hp N hN => ?_) (fun pre δ M' hp => ?_)
  · obtain ⟨o1, o2, o3, o4, o5, o6, o7, o8, rfl⟩ := hp
    exact la fun o2 o3 o4 o5 o6 o7 o8 M' => hN _ _ ⟨_, _, _, _, _, _, _, _, rfl⟩
  · exact lz ⟨rfl, q⟩
end K61
set_option Elab.async false
set_option linter.all false
set_option maxRecDepth 100000
set_option maxHeartbeats 4000000
namespace K61
open PySem PySem.Spec L2 L3 FJ
theorem all_mk {l : PySem.W.OpenLaw} {w : World} {K : PySem.W.Frag} {h : Heap} {mg : Str → Option Value} {fa : Addr} (X : K.In h) (G : h.Ns mainGlobals mg) (hfa : mg "law" = some (.ref fa))
    {cF : Addr} {t0 t1 t2 t3 t4 t5 : Tok}
    (nFORMS : PySem.W.nsIn K mainGlobals "FORMS" = some (some (.ref cF)))
    (tb : TabK K cF rowsF)
    (i_LONGEST_WORD : PySem.W.nsIn K mainGlobals "LONGEST_WORD" = some (some (.int (8) t0)))
    (i_LONGEST_LIST : PySem.W.nsIn K mainGlobals "LONGEST_LIST" = some (some (.int (60) t1)))
    (i_LAST_BOX : PySem.W.nsIn K mainGlobals "LAST_BOX" = some (some (.int (3) t2)))
    (i_LEAST_NUMBER : PySem.W.nsIn K mainGlobals "LEAST_NUMBER" = some (some (.int (-2147483648) t3)))
    (i_GREATEST_NUMBER : PySem.W.nsIn K mainGlobals "GREATEST_NUMBER" = some (some (.int (2147483647) t4)))
    (i_MOST_FIGURES : PySem.W.nsIn K mainGlobals "MOST_FIGURES" = some (some (.int (60) t5)))
    (z_isinstance : PySem.W.nsIn K mainGlobals "isinstance" = some none)
    (z_int : PySem.W.nsIn K mainGlobals "int" = some none)
    (z_bool : PySem.W.nsIn K mainGlobals "bool" = some none)
    (z_str : PySem.W.nsIn K mainGlobals "str" = some none)
    (z_len : PySem.W.nsIn K mainGlobals "len" = some none)
    (z_all : PySem.W.nsIn K mainGlobals "all" = some none)
    (z_list : PySem.W.nsIn K mainGlobals "list" = some none)
    (z_tuple : PySem.W.nsIn K mainGlobals "tuple" = some none)
    (z_zip : PySem.W.nsIn K mainGlobals "zip" = some none)
    (z_enumerate : PySem.W.nsIn K mainGlobals "enumerate" = some none)
    (z_range : PySem.W.nsIn K mainGlobals "range" = some none)
    (d_is_whole : DefAt K mg "is_whole" (top 5))
    (d_is_word : DefAt K mg "is_word" (top 6))
    (d_is_list_of : DefAt K mg "is_list_of" (top 13))
    (d_fits : DefAt K mg "fits" (top 14))
    (d_is_row : DefAt K mg "is_row" (top 15))
    (d_joined_by_blanks : DefAt K mg "joined_by_blanks" (top 18))
    (d_show_row : DefAt K mg "show_row" (top 19))
    (d_show_parts : DefAt K mg "show_parts" (top 20))
    (d_read_number : DefAt K mg "read_number" (top 21))
    (d_row_in : DefAt K mg "row_in" (top 22))
    (d_read_row : DefAt K mg "read_row" (top 23))
    (d_read_name : DefAt K mg "read_name" (top 24))
    (d_lacks_rows : DefAt K mg "lacks_rows" (top 25))
    (d_read_parts : DefAt K mg "read_parts" (top 26))
    (d__law_mixed : DefAt K mg "_law_mixed" (top 29))
    (d__law_next : DefAt K mg "_law_next" (top 30))
    (d__law_source : DefAt K mg "_law_source" (top 31))
    (d__law_word : DefAt K mg "_law_word" (top 32))
    (d__law_aim : DefAt K mg "_law_aim" (top 33))
    (d__law_code_row : DefAt K mg "_law_code_row" (top 34))
    (d__law_last_row : DefAt K mg "_law_last_row" (top 35))
    (d__law_weak : DefAt K mg "_law_weak" (top 36))
    (d__law_part : DefAt K mg "_law_part" (top 37))
    (d__law_parts : DefAt K mg "_law_parts" (top 38))
    (d__law_line : DefAt K mg "_law_line" (top 39))
    (d__law_text : DefAt K mg "_law_text" (top 40))
    (d__law_right : DefAt K mg "_law_right" (top 41))
    (d_law : DefAt K mg "law" (top 42))
    : ∃ fd : FuncData, (∀ (s : Shared) (v : Value), BindsTo s fd ⟨[v], []⟩ [("_law_script", v)]) ∧ ∀ base : Heap, K.In base → base.Ns mainGlobals mg → FnOk l.prog w K mg base CX0 12 fa fd ["_law_script"] (lSp K (cl P_law)) := by
  obtain ⟨f, fd, F, m⟩ := id d_law
  have e := hfa.symm.trans m
  cases e
  have z_isinstance := PySem.W.mg_none_of X G z_isinstance
  have z_int := PySem.W.mg_none_of X G z_int
  have z_bool := PySem.W.mg_none_of X G z_bool
  have z_str := PySem.W.mg_none_of X G z_str
  have z_len := PySem.W.mg_none_of X G z_len
  have z_all := PySem.W.mg_none_of X G z_all
  have z_list := PySem.W.mg_none_of X G z_list
  have z_tuple := PySem.W.mg_none_of X G z_tuple
  have z_zip := PySem.W.mg_none_of X G z_zip
  have z_enumerate := PySem.W.mg_none_of X G z_enumerate
  have z_range := PySem.W.mg_none_of X G z_range
  have i_LONGEST_WORD : ∃ t, mg "LONGEST_WORD" = some (.int (8) t) := ⟨_, PySem.W.mg_of X G i_LONGEST_WORD⟩
  have i_LONGEST_LIST : ∃ t, mg "LONGEST_LIST" = some (.int (60) t) := ⟨_, PySem.W.mg_of X G i_LONGEST_LIST⟩
  have i_LAST_BOX : ∃ t, mg "LAST_BOX" = some (.int (3) t) := ⟨_, PySem.W.mg_of X G i_LAST_BOX⟩
  have i_LEAST_NUMBER : ∃ t, mg "LEAST_NUMBER" = some (.int (-2147483648) t) := ⟨_, PySem.W.mg_of X G i_LEAST_NUMBER⟩
  have i_GREATEST_NUMBER : ∃ t, mg "GREATEST_NUMBER" = some (.int (2147483647) t) := ⟨_, PySem.W.mg_of X G i_GREATEST_NUMBER⟩
  have i_MOST_FIGURES : ∃ t, mg "MOST_FIGURES" = some (.int (60) t) := ⟨_, PySem.W.mg_of X G i_MOST_FIGURES⟩
  have nFORMS := PySem.W.mg_of X G nFORMS
  have Z : Zs mg := ⟨z_isinstance, z_int, z_bool, z_str, z_len, z_all, z_list, z_tuple, z_zip, z_enumerate, z_range, i_LONGEST_WORD, i_LONGEST_LIST, i_LAST_BOX, i_LEAST_NUMBER, i_GREATEST_NUMBER, i_MOST_FIGURES⟩
  refine ⟨fd, F.binds1 fun _ _ _ _ _ _ _ => rfl, fun base _ _ => ?_⟩
  have hWhole : ∀ j, HasD l.prog w K mg base (j + 1) "is_whole" ["thing"] (cl P_is_whole) := fun j => hasP (o_is_whole d_is_whole Z) P_is_whole_mono (sp_is_whole K)
  have hWord : ∀ j, HasD l.prog w K mg base (j + 1) "is_word" ["thing"] (cl P_is_word) := fun j => hasP (o_is_word d_is_word Z) P_is_word_mono (sp_is_word K)
  have hFits0 : HasD l.prog w K mg base 2 "fits" ["form", "thing"] (cl P_fits0) := hasP (o_fits (g_is_list_of := fun _ _ _ => False) d_fits Z (hWord 0) (hWhole 0) (hasNo 1 d_is_list_of (fun _ _ _ _ _ _ us hl => match us, hl with | [_, _], _ => rfl))) P_fits0_mono (sp_fits0 K _)
  have hIl : HasD l.prog w K mg base 3 "is_list_of" ["form", "thing"] (cl P_il) := hasP (o_is_list_of d_is_list_of Z hFits0) P_il_mono (sp_il K)
  have hFits : HasD l.prog w K mg base 4 "fits" ["form", "thing"] (cl P_fits) := hasP (o_fits d_fits Z (hWord 2) (hWhole 2) hIl) P_fits_mono (sp_fits K)
  have hIsr : HasD l.prog w K mg base 5 "is_row" ["thing"] (cl P_isr) := hasP (o_is_row d_is_row Z nFORMS tb hFits) P_isr_mono (sp_isr K _)
  have hJb : ∀ j, HasD l.prog w K mg base (j + 1) "joined_by_blanks" ["things"] (bor P_jb) := fun j => hasB (o_joined_by_blanks d_joined_by_blanks Z) P_jb_mono sp_jb
  have hShow : ∀ j, HasD l.prog w K mg base (j + 2) "show_row" ["row"] (cl P_show) := fun j => hasP (o_show_row d_show_row Z (hJb j)) P_show_mono (sp_show K)
  have hShp : ∀ j, HasD l.prog w K mg base (j + 3) "show_parts" ["parts"] (cl P_shp) := fun j => hasP (o_show_parts d_show_parts (hShow j)) P_shp_mono sp_shp
  have hRn : ∀ j, HasD l.prog w K mg base (j + 1) "read_number" ["text"] (cl P_rn) := fun j => hasP (o_read_number d_read_number Z) P_rn_mono sp_rn
  have hRin : ∀ j, HasD l.prog w K mg base (j + 2) "row_in" ["line"] (cl P_rin) := fun j => hasP (o_row_in d_row_in Z (hRn j) nFORMS tb) P_rin_mono sp_rin
  have hRrow : HasD l.prog w K mg base 6 "read_row" ["line"] (cl P_rrow) := hasP (o_read_row d_read_row (hRin 3) hIsr) P_rin_mono sp_rrow
  have hRname : ∀ j, HasD l.prog w K mg base (j + 2) "read_name" ["line"] (cl P_rname) := fun j => hasP (o_read_name d_read_name Z (hWord j)) P_rname_mono sp_rname
  have hLk : ∀ j, HasD l.prog w K mg base (j + 1) "lacks_rows" ["parts"] P_lk := fun j => hasM (o_lacks_rows d_lacks_rows Z) P_lk_mono sp_lk
  have hRpC : HasD l.prog w K mg base 7 "read_parts" ["text"] (cl P_rpC) := hasP (o_read_parts d_read_parts Z (hRname 4) hRrow (hLk 5)) P_rpC_mono (sp_rpC K)
  have hRpG : HasD l.prog w K mg base 7 "read_parts" ["text"] P_rpG := hasM (og_read_parts d_read_parts Z (hRname 4) hRrow (hLk 5)) P_rpG_mono (sp_rpG K)
  have hMixed : ∀ j, HasD l.prog w K mg base (j + 1) "_law_mixed" ["_law_draw", "_law_k"] (cl P_mixed) := fun j => hasP (o_law_mixed d__law_mixed) P_mixed_mono sp_mixed
  have hNext : ∀ j, HasD l.prog w K mg base (j + 2) "_law_next" ["_law_source_here", "_law_many"] P_next := fun j => hasM (o_law_next d__law_next (hMixed j)) P_next_mono sp_next
  have hSource : ∀ j, HasD l.prog w K mg base (j + 1) "_law_source" ["_law_draw"] P_source := fun j => hasM (o_law_source d__law_source) P_source_mono sp_source
  have hWd : ∀ j, HasD l.prog w K mg base (j + 1) "_law_word" ["_law_k"] (cl P_word) := fun j => hasP (o_law_word d__law_word) P_word_mono sp_word
  have hAim : ∀ j, HasD l.prog w K mg base (j + 3) "_law_aim" ["_law_source_here", "_law_pool"] P_aim := fun j => hasM (o_law_aim d__law_aim Z (hNext j)) P_aim_mono sp_aim
  have hCode : ∀ j, HasD l.prog w K mg base (j + 4) "_law_code_row" ["_law_source_here", "_law_pools"] P_code := fun j => hasM (o_law_code_row d__law_code_row (hNext (j + 1)) (hAim j)) P_code_mono sp_code
  have hLast : ∀ j, HasD l.prog w K mg base (j + 4) "_law_last_row" ["_law_source_here", "_law_pools"] P_last := fun j => hasM (o_law_last_row d__law_last_row (hNext (j + 1)) (hAim j)) P_last_mono sp_last
  have hWeak : ∀ j, HasD l.prog w K mg base (j + 4) "_law_weak" ["_law_source_here", "_law_names"] P_weak := fun j => hasM (o_law_weak d__law_weak Z (hNext (j + 1)) (hAim j)) P_weak_mono sp_weak
  have hPart : ∀ j, HasD l.prog w K mg base (j + 5) "_law_part" ["_law_source_here", "_law_name", "_law_k", "_law_pools", "_law_names"] P_part := fun j => hasM (o_law_part d__law_part Z (hNext (j + 2)) (hCode j) (hLast j) (hWeak j) (hAim (j + 1))) P_part_mono sp_part
  have hParts : ∀ j, HasD l.prog w K mg base (j + 6) "_law_parts" ["_law_source_here"] P_parts := fun j => hasM (o_law_parts d__law_parts Z (hNext (j + 3)) (hWd (j + 4)) (hPart j)) P_parts_mono sp_parts
  have hLine : ∀ j, HasD l.prog w K mg base (j + 1) "_law_line" ["_law_row"] (cl P_line) := fun j => hasP (o_law_line d__law_line Z) P_line_mono sp_line
  have hText : ∀ j, HasD l.prog w K mg base (j + 2) "_law_text" ["_law_parts_here"] (cl P_shp) := fun j => hasP (o_law_text d__law_text (hLine j)) P_shp_mono sp_ltx
  have hRight : ∀ j, HasD l.prog w K mg base (j + 1) "_law_right" ["_law_found", "_law_parts_here"] (cl P_right) := fun j => hasP (o_law_right d__law_right Z) P_right_mono (sp_right K)
  have hL := funC F b_law.hb b_law.hc b_law.sc (fun cdv A outer s H E hr => j_law (P := l.prog) (w := w) (base := base) (k := 11) Z (hParts 5) (hSource 10) (hText 9) (hShp 8) (hRight 10) (hRpC.up (by decide)) (hRpG.up (by decide)) (hShow 9) (hLine 10) fa cdv A outer s H E hr)
  exact hL.imp fun vs H Q E ⟨F, α, M, ds, o, r, n, q⟩ => ⟨F, α, M, ds, o, r, n, sp_law _ _ q⟩
theorem tb0 {K : PySem.W.Frag} {H : Hp} (h : PySem.W.nsIn K mainGlobals "by_name" = some none) : Tb K H := fun x hx c P e => by
  simp only [lams, List.mem_singleton] at hx
  subst hx
  unfold PySem.W.tabIn at e
  rw [h] at e
  cases e
theorem walk {l : PySem.W.OpenLaw} {q : Program} {loose : List Str} {XP : (Str → Option Value) → Heap → Prop} {YP : World → Heap → Prop} {d : DefRec} {K : Params → PySem.W.Frag} (hn : l.most = some 63) (hdf : d.params.defaults = [])
    (hY : ∀ (w : World) (h : Heap), YP w h → (K w.params).In h) (nb : ∀ w : World, PySem.W.nsIn (K w.params) mainGlobals "by_name" = some none)
    (F : ∀ (w : World) (mg : Str → Option Value) (fa : Addr) (h : Heap), (K w.params).In h → h.Ns mainGlobals mg → mg d.name = some (.ref fa) →
      ∃ fd : FuncData, (∀ (s : Shared) (u : Value), BindsTo s fd ⟨[u], []⟩ [("_law_script", u)]) ∧ ∀ base : Heap, (K w.params).In base → base.Ns mainGlobals mg → FnOk l.prog w (K w.params) mg base CX0 12 fa fd ["_law_script"] (lSp (K w.params) (cl P_law))) :
    PySem.W.WalkO q loose XP YP l.row.toRowW d [] (fun f vs => PySem.call f vs) :=
  L2.walk_of (n := 63) (k := 12) (x := "_law_script") (CX := fun _ => CX0) (sp := fun w => lSp (K w.params) (cl P_law)) hn (by decide) hdf ⟨rfl, by decide, by decide, rfl⟩ hY F (fun w H a ns hl _ hS => ⟨[], [], [], [.scr ns], ok_nil (tb0 (nb w)), by
    refine Reps.one ?_
    unfold Rep
    refine ⟨a, rfl, ?_⟩
    show SqL _ (hide ([] ++ []) H) a _
    rw [List.append_nil]
    exact sameV_seqL sameV_hide hS, rfl, ns, rfl, fun v α' H' e o r => by unfold Rep at r; exact r⟩) fun _ _ _ _ _ z => z
end K61
set_option Elab.async false
set_option linter.all false
open PySem PySem.W PyProof.Rows
local macro_rules | `(tactic| walk_at "k_def") => `(tactic| (refine' L2.defAt_mk (by assumption) (by assumption) ?a ?l ?c ?k; (case a => k_is); (case l => k_is); (case c => k_is); (case k => k_is)))
local macro_rules | `(tactic| walk_at "k_row") => `(tactic| (refine KTD.Rows.cons rfl ?_ ?_; focus (refine' FJ.con_fm ?va ?vb ?vc ?vd ?ve; (case va => k_is); (case vb => rfl); (case vc => rfl); (case vd => exact Nat.le_of_ble_eq_true rfl); (case ve => (repeat (first | exact FJ.vals_nil | refine FJ.vals_cons ?_))))))
namespace PySem.W.Fast
def tw6340051189798943812:=0
def tw5336663980356241574:=0
def tw10203260625558059881:=0
def tw17243658465283166350:=0
def tw1380573199736012494:=0
def tw6773648462544399157:=0
def tw8913761453951204023:=0
def tw3577794609503598393:=0
def tw3423249000664426079:=0
def tw6076996660494600819:=0
def tw4578958666898921212:=0
def tw12994878029014253384:=0
def tw8673518769512260234:=0
def tw13766661310173501590:=0
def tw11395437806036027080:=0
def tw11748074748759054288:=0
def tw18328024187394745140:=0
def tw13414012118963181422:=0
def tw14153174014508152015:=0
def tw4823833323286906801:=0
def tw17190819713702373283:=0
def tw8290872438211201667:=0
def tw14734625647130582561:=0
def tw15819772615374633655:=0
def tw6605380907926982066:=0
def tw18427682698350768709:=0
def tw8993418776603738910:=0
def tw14364375982703821136:=0
def tw18359523898581442297:=0
def tw6625432836250620600:=0
def tw8302045608596650092:=0
def tw1857804153404817050:=0
def tw12316962219415168001:=0
def tw1038867995563656725:=0
def tw9755445043186592091:=0
def tw10500718496905626794:=0
def tw4420715235455777169:=0
def tw9298150717917826423:=0
def tw7424585421104440079:=0
def tw8440837714547313612:=0
def tw5506731124309533845:=0
def tw15120876495666190856:=0
def tw4801002349268935972:=0
def tw2509153678435254979:=0
def tw12633495468398172454:=0
def tw14935665136544494517:=0
def tw15890825441907747622:=0
def tw13093526505468096059:=0
def tw838407024672994083:=0
def tw1261092290564473451:=0
def tw8249535153599894022:=0
def tw17594970688660766659:=0
def tw5911190875485476693:=0
def tw11322121105233477999:=0
def tw8215988659879273155:=0
def tw12892341415974542767:=0
def tw16723967756245620033:=0
def tw14664778956942992925:=0
def tw15257931726132191022:=0
end PySem.W.Fast
set_option maxRecDepth 100000 in
set_option maxHeartbeats 0 in
theorem PySem.Challenge.cw_farjump_k61_parts_written_holds : PySem.Challenge.rw_farjump_k61_parts_written.Holds := by
  w_on; o_law; k_head; (case hw => w_witness2)
  k_fill
  refine K61.walk (l := PySem.Challenge.rw_farjump_k61_parts_written) rfl rfl (fun w h Y => PySem.W.kIn_of Y) ?nb ?F
  case nb => intro w; first | k_is | kernel_rfl | rfl
  case F =>
    intro w mg fa h KX G hmg
    refine' K61.all_mk KX G hmg ?nFORMS ?tb ?i_LONGEST_WORD ?i_LONGEST_LIST ?i_LAST_BOX ?i_LEAST_NUMBER ?i_GREATEST_NUMBER ?i_MOST_FIGURES ?z_isinstance ?z_int ?z_bool ?z_str ?z_len ?z_all ?z_list ?z_tuple ?z_zip ?z_enumerate ?z_range ?d_is_whole ?d_is_word ?d_is_list_of ?d_fits ?d_is_row ?d_joined_by_blanks ?d_show_row ?d_show_parts ?d_read_number ?d_row_in ?d_read_row ?d_read_name ?d_lacks_rows ?d_read_parts ?d__law_mixed ?d__law_next ?d__law_source ?d__law_word ?d__law_aim ?d__law_code_row ?d__law_last_row ?d__law_weak ?d__law_part ?d__law_parts ?d__law_line ?d__law_text ?d__law_right ?d_law
    (case nFORMS => k_is)
    (case i_LONGEST_WORD => k_is)
    (case i_LONGEST_LIST => k_is)
    (case i_LAST_BOX => k_is)
    (case i_LEAST_NUMBER => k_is)
    (case i_GREATEST_NUMBER => k_is)
    (case i_MOST_FIGURES => k_is)
    (case z_isinstance => k_is)
    (case z_int => k_is)
    (case z_bool => k_is)
    (case z_str => k_is)
    (case z_len => k_is)
    (case z_all => k_is)
    (case z_list => k_is)
    (case z_tuple => k_is)
    (case z_zip => k_is)
    (case z_enumerate => k_is)
    (case z_range => k_is)
    (case d_is_whole => walk_at "k_def")
    (case d_is_word => walk_at "k_def")
    (case d_is_list_of => walk_at "k_def")
    (case d_fits => walk_at "k_def")
    (case d_is_row => walk_at "k_def")
    (case d_joined_by_blanks => walk_at "k_def")
    (case d_show_row => walk_at "k_def")
    (case d_show_parts => walk_at "k_def")
    (case d_read_number => walk_at "k_def")
    (case d_row_in => walk_at "k_def")
    (case d_read_row => walk_at "k_def")
    (case d_read_name => walk_at "k_def")
    (case d_lacks_rows => walk_at "k_def")
    (case d_read_parts => walk_at "k_def")
    (case d__law_mixed => walk_at "k_def")
    (case d__law_next => walk_at "k_def")
    (case d__law_source => walk_at "k_def")
    (case d__law_word => walk_at "k_def")
    (case d__law_aim => walk_at "k_def")
    (case d__law_code_row => walk_at "k_def")
    (case d__law_last_row => walk_at "k_def")
    (case d__law_weak => walk_at "k_def")
    (case d__law_part => walk_at "k_def")
    (case d__law_parts => walk_at "k_def")
    (case d__law_line => walk_at "k_def")
    (case d__law_text => walk_at "k_def")
    (case d__law_right => walk_at "k_def")
    (case d_law => walk_at "k_def")
    case tb =>
      refine' FJ.tab_mk ?tlo ?tl ?tc ?td ?tr
      case tl => k_is
      case tlo => rfl
      case tc => exact ⟨rfl, rfl, rfl⟩
      case td => rfl
      case tr =>
        iterate 16 walk_at "k_row"
        exact KTD.Rows.nil
#print axioms PySem.Challenge.cw_farjump_k61_parts_written_holds
