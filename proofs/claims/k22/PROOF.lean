import PyProof.Rows.All
import Wide.All
import OpenK.AllK
import Wide.FinOn
import Lean
import PyProof.EqAt
import PyProof.EqKinds
import PyProof.TupleCall
import PySem.Challenge.RW_farjump_k22_cells_read_back
set_option Elab.async false
set_option linter.all false
set_option maxRecDepth 100000
namespace L2
open PySem PySem.Spec PyProof.Rows
abbrev Key := Sum Int Str
def keyIs : Key → Value → Bool
  | .inl k, v => Value.isInt k v
  | .inr x, v => Value.isStrOf x v
def keyH (w : World) : Key → Int
  | .inl k => hashInt k
  | .inr x => hashStr w x
theorem keyIs_shape : ∀ {k : Key} {v : Value}, keyIs k v = true → (∃ i t, k = Sum.inl i ∧ v = Value.int i t) ∨ (∃ x t, k = Sum.inr x ∧ v = Value.str x t)
  | .inl i, v, h => by
    obtain ⟨t, e⟩ := Value.isInt_shape (k := i) (v := v) h
    exact .inl ⟨i, t, rfl, e⟩
  | .inr x, v, h => by
    obtain ⟨t, e⟩ := Value.isStrOf_shape (x := x) (v := v) h
    exact .inr ⟨x, t, rfl, e⟩
theorem keyIs_int (i : Int) (t : Tok) : keyIs (.inl i) (.int i t) = true := by simp [keyIs, Value.isInt]
theorem keyIs_str (x : Str) (t : Tok) : keyIs (.inr x) (.str x t) = true := by simp [keyIs, Value.isStrOf]
theorem key_ll (a b : Int) : decide ((Sum.inl a : Key) = Sum.inl b) = (a == b) := by
  by_cases e : a = b
  · subst e; simp
  · have h : ¬ (Sum.inl a : Key) = Sum.inl b := fun q => e (Sum.inl.inj q)
    rw [decide_eq_false h]
    exact (beq_eq_false_iff_ne.mpr e).symm
theorem key_rr (a b : Str) : decide ((Sum.inr a : Key) = Sum.inr b) = decide (a = b) := by
  by_cases e : a = b
  · subst e; simp
  · have h : ¬ (Sum.inr a : Key) = Sum.inr b := fun q => e (Sum.inr.inj q)
    rw [decide_eq_false h, decide_eq_false e]
theorem key_lr (a : Int) (b : Str) : decide ((Sum.inl a : Key) = Sum.inr b) = false := decide_eq_false (fun q => nomatch q)
theorem key_rl (a : Str) (b : Int) : decide ((Sum.inr a : Key) = Sum.inl b) = false := decide_eq_false (fun q => nomatch q)
def mixKind (prog : Program) (w : World) : PySem.KeyKind prog w Key where
  is := keyIs
  hash := keyH w
  inj := fun v a b ha hb => by
    rcases keyIs_shape ha with ⟨i, t, rfl, rfl⟩ | ⟨x, t, rfl, rfl⟩
    · rcases keyIs_shape hb with ⟨j, u, rfl, e⟩ | ⟨y, u, rfl, e⟩
      · injection e with e1 _; rw [e1]
      · exact nomatch e
    · rcases keyIs_shape hb with ⟨j, u, rfl, e⟩ | ⟨y, u, rfl, e⟩
      · exact nomatch e
      · injection e with e1 _; rw [e1]
  byValue := fun k v h => by
    rcases keyIs_shape h with ⟨i, t, rfl, rfl⟩ | ⟨x, t, rfl, rfl⟩ <;> rfl
  pyHash := fun hv h => by
    rcases keyIs_shape hv with ⟨i, t, rfl, rfl⟩ | ⟨x, t, rfl, rfl⟩
    · exact wpAny_pyHash_int h
    · exact wpAny_pyHash_str h
  eqBool := fun hu hv h => by
    rcases keyIs_shape hu with ⟨i, t, rfl, rfl⟩ | ⟨x, t, rfl, rfl⟩
    · rcases keyIs_shape hv with ⟨j, u, rfl, rfl⟩ | ⟨y, u, rfl, rfl⟩
      · rw [key_ll] at h; exact wpAny_eqBool_int h
      · rw [key_lr] at h; exact SeqAt.EqAt.int_str i t y u _ _ _ _ h
    · rcases keyIs_shape hv with ⟨j, u, rfl, rfl⟩ | ⟨y, u, rfl, rfl⟩
      · rw [key_rl] at h; exact SeqAt.EqAt.str_int x t j u _ _ _ _ h
      · rw [key_rr] at h; exact wpAny_eqBool_str h
  «strs» := fun k x t v h => by
    rcases keyIs_shape h with ⟨i, u, rfl, e⟩ | ⟨y, u, rfl, e⟩
    · exact nomatch e
    · injection e with e1 _
      subst e1
      cases v <;> rfl
theorem mixKind_int (prog : Program) (w : World) (i : Int) (t : Tok) : (mixKind prog w).is (.inl i) (.int i t) = true := keyIs_int i t
theorem mixKind_str (prog : Program) (w : World) (x : Str) (t : Tok) : (mixKind prog w).is (.inr x) (.str x t) = true := keyIs_str x t
end L2
namespace L2
open PySem PySem.Spec PyProof.Rows
inductive V where
  | non | bl (b : Bool) | int (i : Int) | str (x : Str) | byt (b : Array UInt8) | flt (b : UInt64) | ref (a : Addr) | ty (n : String)
  deriving DecidableEq
def RelV : V → Value → Prop
  | .non, u => u = Value.none
  | .bl b, u => u = Value.bool b
  | .int i, u => ∃ t, u = Value.int i t
  | .str x, u => ∃ t, u = Value.str x t
  | .byt b, u => ∃ t, u = Value.bytes b t
  | .flt b, u => ∃ t, u = Value.float b t
  | .ref a, u => u = Value.ref a
  | .ty n, u => u = Value.type n
abbrev Vals : List V → List Value → Prop := Paired RelV
theorem Vals.length {xs : List V} {us : List Value} (r : Vals xs us) : xs.length = us.length := Paired.length r
theorem Vals.get : ∀ {xs : List V} {us : List Value} {i : Nat} {x : V}, Vals xs us → xs[i]? = some x → ∃ u, us[i]? = some u ∧ RelV x u
  | _, _, _, _, .nil, e => by simp at e
  | _, _, 0, _, .cons r _, e => by simp at e; subst e; exact ⟨_, rfl, r⟩
  | _, _, i + 1, x, .cons _ t, e => by
    obtain ⟨u, h1, h2⟩ := Vals.get (i := i) (x := x) t (by simpa using e)
    exact ⟨u, by simpa using h1, h2⟩
theorem Vals.set {x : V} {u : Value} (r : RelV x u) : ∀ {xs : List V} {us : List Value} (i : Nat), Vals xs us → Vals (xs.set i x) (us.set i u)
  | _, _, _, .nil => .nil
  | _, _, 0, .cons _ t => .cons r t
  | _, _, i + 1, .cons q t => .cons q (Vals.set r i t)
theorem Vals.append : ∀ {xs ys : List V} {us ws : List Value}, Vals xs us → Vals ys ws → Vals (xs ++ ys) (us ++ ws)
  | _, _, _, _, .nil, s => s
  | _, _, _, _, .cons r t, s => .cons r (Vals.append t s)
theorem Vals.take : ∀ {xs : List V} {us : List Value} (n : Nat), Vals xs us → Vals (xs.take n) (us.take n)
  | _, _, 0, _ => .nil
  | _, _, _ + 1, .nil => .nil
  | _, _, n + 1, .cons r t => .cons r (Vals.take n t)
theorem Vals.drop : ∀ {xs : List V} {us : List Value} (n : Nat), Vals xs us → Vals (xs.drop n) (us.drop n)
  | _, _, 0, r => r
  | _, _, _ + 1, .nil => .nil
  | _, _, n + 1, .cons _ t => Vals.drop n t
def RelO : Option V → Option Value → Prop
  | some v, some u => RelV v u
  | none, none => True
  | _, _ => False
def KV {κ : Type} : List (κ × V) → List (κ × Value) → Prop := Paired fun (p : κ × V) (q : κ × Value) => p.1 = q.1 ∧ RelV p.2 q.2
def kV : Key → V
  | .inl i => .int i
  | .inr x => .str x
inductive HO where
  /-- a list -/
  | lst (xs : List V)
  /-- a tuple (never changes) -/
  | tup (xs : List V)
  /-- a dict whose keys are ints and texts; one whose keys are tuples of ints and texts (the empty one is both) -/
  | dK (kvs : List (Key × V)) | dT (kvs : List (List Key × V))
  /-- a set of ints: its members, its size -/
  | set (S : Int → Bool) (n : Nat)
  /-- an instance of the class at C, its dict at dx, its attributes -/
  | ins (C dx : Addr) (fs : List (Str × V))
  /-- the dict of the instance at x -/
  | own (x : Addr)
  /-- the dict of an exception -/
  | xd (fs : List (Str × V))
  /-- a bound method, f of x -/
  | met (f x : Addr)
  /-- a range object lo, lo + 1, .. below hi -/
  | rng (lo hi : Int)
  /-- a thing that is known to the object (the script; a dict while a loop walks it): read, never written while it is so -/
  | frz (o : Obj) (u : HO)
  /-- a code object's table -/
  | tbl (ps : Array Value)
  /-- any other thing, by what is true of its one object (a def of one's own: SetO a S n := HO.ext fun h => ..) -/
  | ext (φ : Heap → Prop)
abbrev Hp := Addr → Option HO
def upd (H : Hp) (a : Addr) (o : HO) : Hp := fun b => if b = a then some o else H b
theorem upd_same {H : Hp} {a : Addr} {o : HO} : upd H a o a = some o := by unfold upd; rw [if_pos rfl]
theorem upd_ne {H : Hp} {a b : Addr} {o : HO} (h : b ≠ a) : upd H a o b = H b := by unfold upd; rw [if_neg h]
theorem ne_of_none {H : Hp} {a b : Addr} {o : HO} (h : H a = some o) (h' : H b = none) : a ≠ b := by
  intro e; subst e; rw [h] at h'; cases h'
section
variable (P : Program) (w : World)
def ObjOk (H : Hp) (h : Heap) (a : Addr) : HO → Prop
  | .lst xs => xs.length ≤ sizeLine ∧ ∃ (its : List Value) (n : Nat), Vals xs its ∧ h.get? a = some { cls := .type "list", data := .seq its.toArray n }
  | .tup xs => xs.length ≤ sizeLine ∧ ∃ its : List Value, Vals xs its ∧ IsTup h a its.toArray
  | .dK kvs => kvs.length ≤ sizeLine ∧ (a == sysModules) = false ∧ ∃ vs, KV kvs vs ∧ h.DictOf (mixKind P w) a vs
  | .dT kvs => kvs.length ≤ sizeLine ∧ (a == sysModules) = false ∧ ∃ xs : List (List Key × Addr × Value),
      Paired (fun (p : List Key × V) (q : List Key × Addr × Value) => p.1 = q.1 ∧ H q.2.1 = some (.tup (p.1.map kV)) ∧ RelV p.2 q.2.2) kvs xs ∧
      ∃ o es ep, h.get? a = some o ∧ o.ExactDict ∧ o.data = .dict es ep ∧ es.toList = xs.map (entryOfKey (tupleKind (mixKind P w))) ∧ (xs.map (·.1)).Nodup
  | .set S n => h.SetOf (intKind P w) a S n
  | .ins C dx fs => H dx = some (.own a) ∧ fs.length ≤ 1000 ∧ dx ≠ a ∧ h.get? a = some (PySem.W.instObj C dx) ∧
      ∃ mA, h.Ns1 dx mA ∧ (∀ f, RelO (fs.lookup f) (mA f)) ∧ PySem.Within mA (fs.map (·.1))
  | .own _ => ∃ o, h.get? a = some o
  | .xd fs => ∃ mA, h.Ns1 a mA ∧ ∀ f, RelO (fs.lookup f) (mA f)
  | .rng lo hi => ∃ t u v, h.get? a = some { cls := .type "range", data := .fields #[.int lo t, .int hi u, .int 1 v] }
  | .frz o u => h.get? a = some o ∧ ObjOk H h a u
  | .tbl ps => h.get? a = some { cls := .none, data := .fields ps }
  | .met f x => h.get? a = some (PySem.W.methodObj (.ref f) (.ref x))
  | .ext φ => φ h ∧ (∃ o, h.get? a = some o) ∧ ∀ h1 h2 : Heap, φ h1 → (∀ o, h1.get? a = some o → h2.get? a = some o) → φ h2
def HOk (H : Hp) (h : Heap) : Prop := ∀ a o, H a = some o → ObjOk P w H h a o
end
section
variable {P : Program} {w : World} {H H' : Hp} {h h' : Heap} {a : Addr} {o : HO}
theorem ObjOk.lt (x : ObjOk P w H h a o) : a < h.objs.size := by
  cases o with
  | lst xs => obtain ⟨_, _, _, _, e⟩ := x; exact Heap.lt_size e
  | tup xs => obtain ⟨_, _, _, p⟩ := x; exact p.lt
  | dK kvs => obtain ⟨_, _, _, _, o, _, _, e, _⟩ := x; exact Heap.lt_size e
  | dT kvs => obtain ⟨_, _, _, _, o, _, _, e, _⟩ := x; exact Heap.lt_size e
  | set S n => obtain ⟨o, _, _, _, e, _⟩ := x; exact Heap.lt_size e
  | ins C dx fs => obtain ⟨_, _, _, e, _⟩ := x; exact Heap.lt_size e
  | own y => obtain ⟨_, e⟩ := x; exact Heap.lt_size e
  | xd fs => obtain ⟨_, ⟨_, _, _, e, _⟩, _⟩ := x; exact Heap.lt_size e
  | rng lo hi => obtain ⟨_, _, _, e⟩ := x; exact Heap.lt_size e
  | frz ob u => obtain ⟨e, _⟩ := x; exact Heap.lt_size e
  | tbl ps => exact Heap.lt_size (show h.get? a = some _ from x)
  | met f y => exact Heap.lt_size (show h.get? a = some _ from x)
  | ext φ => obtain ⟨_, ⟨_, e⟩, _⟩ := x; exact Heap.lt_size e
theorem Paired.mapP {α β : Type} {F G : α → β → Prop} : ∀ {l₁ : List α} {l₂ : List β}, Paired F l₁ l₂ → (∀ a b, F a b → G a b) → Paired G l₁ l₂
  | _, _, .nil, _ => .nil
  | _, _, .cons r t, f => .cons (f _ _ r) (Paired.mapP t f)
theorem ObjOk.stay (x : ObjOk P w H h a o) (k : ∀ b u, (b = a ∨ H b = some (.own a)) → h.get? b = some u → h'.get? b = some u)
    (ho : ∀ b, H b = some (.own a) → H' b = some (.own a)) (ht : ∀ b xs, H b = some (.tup xs) → H' b = some (.tup xs)) : ObjOk P w H' h' a o := by
  induction o with
  | lst xs => obtain ⟨z, its, n, r, e⟩ := x; exact ⟨z, its, n, r, k _ _ (.inl rfl) e⟩
  | tup xs => obtain ⟨z, its, r, ob, e, c⟩ := x; exact ⟨z, its, r, ob, k _ _ (.inl rfl) e, c⟩
  | dK kvs => obtain ⟨z, y, vs, r, ob, es, ep, e, c⟩ := x; exact ⟨z, y, vs, r, ob, es, ep, k _ _ (.inl rfl) e, c⟩
  | dT kvs =>
    obtain ⟨z, y, xs, r, ob, es, ep, e, c⟩ := x
    exact ⟨z, y, xs, Paired.mapP r fun p q z => ⟨z.1, ht _ _ z.2.1, z.2.2⟩, ob, es, ep, k _ _ (.inl rfl) e, c⟩
  | set S n => obtain ⟨ob, es, ep, t, e, c⟩ := x; exact ⟨ob, es, ep, t, k _ _ (.inl rfl) e, c⟩
  | ins C dx fs =>
    obtain ⟨d, z, ne, e, mA, ⟨od, es, ep, e2, c⟩, r⟩ := x
    exact ⟨ho _ d, z, ne, k _ _ (.inl rfl) e, mA, ⟨od, es, ep, k _ _ (.inr d) e2, c⟩, r⟩
  | own y => obtain ⟨ob, e⟩ := x; exact ⟨ob, k _ _ (.inl rfl) e⟩
  | xd fs => obtain ⟨mA, ⟨od, es, ep, e, c⟩, r⟩ := x; exact ⟨mA, ⟨od, es, ep, k _ _ (.inl rfl) e, c⟩, r⟩
  | rng lo hi => obtain ⟨t, u, v, e⟩ := x; exact ⟨t, u, v, k _ _ (.inl rfl) e⟩
  | frz ob u ih => obtain ⟨e, q⟩ := x; exact ⟨k _ _ (.inl rfl) e, ih q⟩
  | tbl ps =>
    have e : h.get? a = some { cls := .none, data := .fields ps } := x
    show h'.get? a = some { cls := .none, data := .fields ps }
    exact k a _ (.inl rfl) e
  | met f y =>
    have e : h.get? a = some (PySem.W.methodObj (.ref f) (.ref y)) := x
    show h'.get? a = some (PySem.W.methodObj (.ref f) (.ref y))
    exact k a _ (.inl rfl) e
  | ext φ => obtain ⟨p, ⟨o, e⟩, st⟩ := x; exact ⟨st _ _ p fun o q => k _ _ (.inl rfl) q, ⟨o, k _ _ (.inl rfl) e⟩, st⟩
theorem HOk.lt (x : HOk P w H h) (e : H a = some o) : a < h.objs.size := (x a o e).lt
theorem HOk.fresh (x : HOk P w H h) (e : h.objs.size ≤ a) : H a = none := by
  cases q : H a with
  | none => rfl
  | some u => exact absurd (Nat.lt_of_lt_of_le (x.lt q) e) (Nat.lt_irrefl _)
theorem HOk.kept (x : HOk P w H h) (k : ∀ b u, h.get? b = some u → h'.get? b = some u) : HOk P w H h' := fun a o e =>
  (x a o e).stay (fun b u _ q => k b u q) (fun _ q => q) fun _ _ q => q
theorem HOk.laid (x : HOk P w H h) (k : ∀ b u, h.get? b = some u → h'.get? b = some u) (hp : h.objs.size ≤ a) (new : ObjOk P w (upd H a o) h' a o) : HOk P w (upd H a o) h' := fun b u e => by
  have hn := x.fresh hp
  by_cases hb : b = a
  · subst hb; rw [upd_same] at e; cases e; exact new
  · rw [upd_ne hb] at e
    exact (x b u e).stay (fun c v _ q => k c v q) (fun c q => by rw [upd_ne (ne_of_none q hn)]; exact q) fun c xs q => by rw [upd_ne (ne_of_none q hn)]; exact q
end
def Rd (H : Hp) (a : Addr) (u : HO) : Prop := H a = some u ∨ ∃ o, H a = some (.frz o u)
theorem Rd.ok {P : Program} {w : World} {H : Hp} {h : Heap} {a : Addr} {u : HO} (r : Rd H a u) (x : HOk P w H h) : ObjOk P w H h a u := by
  rcases r with r | ⟨o, r⟩
  · exact x a u r
  · obtain ⟨_, q⟩ := x a _ r
    exact q
def Mut : Option HO → Prop
  | some (.lst _) => True
  | some (.dK _) => True
  | some (.dT _) => True
  | some (.set _ _) => True
  | some (.ins _ _ _) => True
  | some (.ext _) => True
  | _ => False
section
variable {P : Program} {w : World} {H : Hp} {h h' : Heap} {x e : Addr} {o' : HO}
theorem HOk.write (ok : HOk P w H h) (mu : Mut (H x)) (he : e = x ∨ H e = some (.own x)) (k : ∀ b u, b ≠ e → h.get? b = some u → h'.get? b = some u) (heo : ∃ u, h'.get? e = some u)
    (new : ObjOk P w (upd H x o') h' x o') : HOk P w (upd H x o') h' := fun b u q => by
  have nown : ∀ c y, H c = some (.own y) → c ≠ x := fun c y r z => by subst z; rw [r] at mu; exact mu
  have ntup : ∀ c xs, H c = some (.tup xs) → c ≠ x := fun c xs r z => by subst z; rw [r] at mu; exact mu
  by_cases hb : b = x
  · subst hb; rw [upd_same] at q; cases q; exact new
  · rw [upd_ne hb] at q
    by_cases hbe : b = e
    · have q' : H b = some (.own x) := by
        rcases he with z | z
        · exact absurd (hbe.trans z) hb
        · rw [hbe]; exact z
      rw [q] at q'; cases q'
      obtain ⟨v, hv⟩ := heo
      exact ⟨v, by rw [hbe]; exact hv⟩
    · refine (ok b u q).stay (fun c v hc r => k c v ?_ r) (fun c r => by rw [upd_ne (nown c b r)]; exact r) fun c xs r => by rw [upd_ne (ntup c xs r)]; exact r
      rcases hc with rfl | hc
      · exact hbe
      · rintro rfl
        rcases he with z | z
        · exact nown c b hc z
        · rw [hc] at z; cases z; exact hb rfl
end
structure Un (fs ex : List Addr) (H H' : Hp) (h h' : Heap) : Prop where
  keep : ∀ b o, h.get? b = some o → H b = none → b ∉ fs → b ∉ ex → h'.get? b = some o
  slot : ∀ b o, h.get? b = some o → H b = none → b ∈ fs → b ∉ ex → ∃ sl, h'.get? b = some { o with slots := sl }
  free : ∀ b o, h.get? b = some o → H b = none → b ∉ ex → H' b = none
  there : ∀ b o, h.get? b = some o → b ∉ ex → ∃ o', h'.get? b = some o'
  tups : ∀ b xs, H b = some (.tup xs) → H' b = some (.tup xs)
  frzs : ∀ b o u, H b = some (.frz o u) → H' b = some (.frz o u)
  tbls : ∀ b ps, H b = some (.tbl ps) → ∃ more, H' b = some (.tbl (ps ++ more))
section
variable {fs fs' ex ex' : List Addr} {H H1 H2 : Hp} {h h1 h2 h' : Heap} {a x e : Addr} {o : HO}
theorem Un.any (u : Un fs ex H H1 h h1) {b : Addr} {ob : Obj} (q : h.get? b = some ob) (n : H b = none) (hx : b ∉ ex) : ∃ sl, h1.get? b = some { ob with slots := sl } := by
  by_cases hb : b ∈ fs
  · exact u.slot b ob q n hb hx
  · exact ⟨ob.slots, u.keep b ob q n hb hx⟩
theorem Un.trans (a : Un fs ex H H1 h h1) (b : Un fs ex H1 H2 h1 h2) : Un fs ex H H2 h h2 where
  keep := fun c ob q n hc hx => b.keep c ob (a.keep c ob q n hc hx) (a.free c ob q n hx) hc hx
  slot := fun c ob q n hc hx => by
    obtain ⟨sl, e1⟩ := a.slot c ob q n hc hx
    obtain ⟨sl', e2⟩ := b.slot c _ e1 (a.free c ob q n hx) hc hx
    exact ⟨sl', e2⟩
  free := fun c ob q n hx => by
    obtain ⟨o', e1⟩ := a.there c ob q hx
    exact b.free c o' e1 (a.free c ob q n hx) hx
  there := fun c ob q hx => by
    obtain ⟨o', e1⟩ := a.there c ob q hx
    exact b.there c o' e1 hx
  tups := fun c xs q => b.tups c xs (a.tups c xs q)
  frzs := fun c ob xs q => b.frzs c ob xs (a.frzs c ob xs q)
  tbls := fun c ps q => by
    obtain ⟨m1, e1⟩ := a.tbls c ps q
    obtain ⟨m2, e2⟩ := b.tbls c _ e1
    exact ⟨m1 ++ m2, by rw [e2, Array.append_assoc]⟩
theorem Un.kept (k : ∀ b u, h.get? b = some u → h'.get? b = some u) : Un fs ex H H h h' :=
  ⟨fun b ob q _ _ _ => k b ob q, fun b ob q _ _ _ => ⟨ob.slots, k b ob q⟩, fun _ _ _ n _ => n, fun b ob q _ => ⟨ob, k b ob q⟩, fun _ _ q => q, fun _ _ _ q => q, fun _ ps q => ⟨#[], by rw [q]; simp⟩⟩
theorem Un.refl : Un fs ex H H h h := Un.kept fun _ _ q => q
theorem Un.laid (k : ∀ b u, h.get? b = some u → h'.get? b = some u) (hp : h.objs.size ≤ a) (hn : H a = none) : Un fs ex H (upd H a o) h h' where
  keep := fun b u q _ _ _ => k b u q
  slot := fun b u q _ _ _ => ⟨u.slots, k b u q⟩
  free := fun b u q n _ => by rw [upd_ne (Nat.ne_of_lt (Nat.lt_of_lt_of_le (Heap.lt_size q) hp))]; exact n
  there := fun b u q _ => ⟨u, k b u q⟩
  tups := fun b xs q => by rw [upd_ne (ne_of_none q hn)]; exact q
  frzs := fun b u xs q => by rw [upd_ne (ne_of_none q hn)]; exact q
  tbls := fun b ps q => ⟨#[], by rw [upd_ne (ne_of_none q hn), q]; simp⟩
theorem Un.write (mu : Mut (H x)) (he : e = x ∨ H e = some (.own x)) (k : ∀ b u, b ≠ e → h.get? b = some u → h'.get? b = some u) (heo : ∃ u, h'.get? e = some u) : Un fs ex H (upd H x o) h h' := by
  have hx : ∀ b, H b = none → b ≠ x := fun b n z => by subst z; rw [n] at mu; exact mu
  have hb : ∀ b, H b = none → b ≠ e := fun b n z => by
    subst z
    rcases he with r | r
    · exact hx b n r
    · rw [n] at r; cases r
  have hm : ∀ b u, H b = some u → ¬ Mut (some u) → b ≠ x := fun b u q nm z => by subst z; rw [q] at mu; exact nm mu
  refine ⟨fun b u q n _ _ => k b u (hb b n) q, fun b u q n _ _ => ⟨u.slots, k b u (hb b n) q⟩, fun b u q n _ => by rw [upd_ne (hx b n)]; exact n, fun b u q _ => ?_,
    fun b xs q => by rw [upd_ne (hm b _ q fun z => z)]; exact q, fun b u xs q => by rw [upd_ne (hm b _ q fun z => z)]; exact q, fun b ps q => ⟨#[], by rw [upd_ne (hm b _ q fun z => z), q]; simp⟩⟩
  by_cases hbe : b = e
  · subst hbe; exact heo
  · exact ⟨u, k b u hbe q⟩
theorem Un.mono (u : Un fs ex H H1 h h1) (hs : ∀ b ∈ fs, b ∈ fs') (hx : ∀ b ∈ ex, b ∈ ex') : Un fs' ex' H H1 h h1 :=
  ⟨fun b ob q n hb he => u.keep b ob q n (fun z => hb (hs b z)) fun z => he (hx b z), fun _ _ q n _ he => u.any q n fun z => he (hx _ z), fun b ob q n he => u.free b ob q n fun z => he (hx b z), fun b ob q he => u.there b ob q fun z => he (hx b z), u.tups, u.frzs, u.tbls⟩
end
def trk (h : Heap) (H : Hp) : List Addr := (List.range h.objs.size).filter fun a => (H a).isSome
def hidT (h : Heap) (H : Hp) : Heap := PySem.W.hideAll h (trk h H)
theorem hidT_size (h : Heap) (H : Hp) : (hidT h H).objs.size = h.objs.size := PySem.W.hideAll_size _ _
theorem hidT_get {h : Heap} {H : Hp} {b : Addr} {o : Obj} (e : h.get? b = some o) (n : H b = none) : (hidT h H).get? b = some o :=
  PySem.W.hideAll_get _ e fun hm => by
    have q : (H b).isSome = true := (List.mem_filter.mp hm).2
    rw [n] at q; simp at q
theorem of_hidT {h : Heap} {H : Hp} {b : Addr} {o : Obj} (e : (hidT h H).get? b = some o) : h.get? b = some o ∧ H b = none := by
  have e' : h.get? b = some o := PySem.W.of_hideAll (trk h H) e
  refine ⟨e', ?_⟩
  cases q : H b with
  | none => rfl
  | some x =>
    have hm : b ∈ trk h H := List.mem_filter.mpr ⟨List.mem_range.mpr (Heap.lt_size e'), by simp [q]⟩
    have z : (hidT h H).get? b = none := PySem.W.hideAll_none (trk h H) hm
    rw [z] at e; cases e
def allNews (g h : Heap) (L : Addr) : List (Addr × Obj) := (List.range h.objs.size).filterMap fun a => if a = L ∨ (g.get? a).isSome = true then none else (h.get? a).map fun o => (a, o)
def rest (g h : Heap) (L d : Addr) : List (Addr × Obj) := (allNews g h L).filter fun p => decide (p.1 ≠ d)
end L2
namespace L2
open PySem PySem.Spec PyProof.Rows
structure Mod (K : PySem.W.Frag) (mg : Str → Option Value) (base : Heap) : Prop where
  kin : K.In base
  glob : base.Ns mainGlobals mg
  blt : ∃ mb, base.Ns builtinsNs mb ∧ ∀ x : Str, x ≠ "__name__" → mb x = bootBuiltins x
  nolimit : base.NoLimit
structure Cx where
  prog : Program
  w : World
  K : PySem.W.Frag
  mg : Str → Option Value
  base : Heap
  A : Around
  N : List Str
  s₀ : Shared
  H₀ : Hp
  env : Env
  outer : List Env
  stack : List Env
  ex : List Addr
  fn : Str → Bool
  calm : Bool
  pn : List (Addr × Obj)
  xe : Value → Shared → Prop
def frs (l : List Env) : List Addr := l.filterMap (·.frame)
abbrev Cx.fs (X : Cx) : List Addr := frs X.outer
def Vis (sc : Scope) (x : Str) : Prop := sc.names.lookup x = some .local ∨ sc.names.lookup x = some .cell ∨ sc.names.lookup x = some .free
def Loc (sc : Scope) (x : Str) : Prop := sc.names.lookup x = some .local ∨ sc.names.lookup x = some .cell
def Look (env : Env) (h : Heap) (m : Str → Option Value) (x : Str) (u : Value) : Prop :=
  (env.kindOf x = some .local ∧ m x = some u) ∨ ((env.kindOf x = some .cell ∨ env.kindOf x = some .free) ∧ ∃ c, env.cells.lookup x = some c ∧ h.IsCell c (some u))
structure Cx.Ok (X : Cx) : Prop where
  mod : Mod X.K X.mg X.base
  kind : X.env.scope.kind = .function
  glob : X.env.globals = mainGlobals
  blt : X.env.builtins = builtinsNs
  above : X.s₀.heap.objs.size ≤ X.env.locals
  inj : ∀ x y c, X.env.cells.lookup x = some c → X.env.cells.lookup y = some c → x = y
  has : ∀ x, (X.env.kindOf x = some .cell ∨ X.env.kindOf x = some .free) → ∃ c, X.env.cells.lookup x = some c
  cab : ∀ x c, X.fn x = true → X.env.cells.lookup x = some c → X.s₀.heap.objs.size ≤ c
  hd : X.calm = true → X.A.handled = none
  frames : X.A.frames = some X.stack
  stk : X.stack = X.outer ∨ (X.stack = X.env :: X.outer ∧ X.env.frame = some X.env.locals)
  exf : ∀ b ∈ X.ex, b ≠ X.env.locals ∧ ∀ x c, X.env.cells.lookup x = some c → c ≠ b
  bs : ∀ b o, X.base.get? b = some o → X.s₀.heap.get? b = some o ∧ X.H₀ b = none
  bsz : X.base.objs.size ≤ X.s₀.heap.objs.size
  noex : ∀ b o, X.base.get? b = some o → b ∉ X.ex
  exfs : ∀ b ∈ X.ex, b ∉ X.fs
  funs : X.s₀.heap.FunFrames X.base X.outer
  frf : ∀ b ∈ X.fs, X.H₀ b = none
structure Inv (X : Cx) (pins : List (Addr × Obj)) (σ : List (Option V)) (H : Hp) (s : Shared) : Prop where
  ok : X.Ok
  os : s.os = X.s₀.os
  bare : AllBare s.gens
  base : Un X.fs X.ex X.H₀ H X.s₀.heap s.heap
  loc : ∃ m, s.heap.Ns X.env.locals m ∧ ∀ (i : Nat) (x : Str) (v : V), X.N[i]? = some x → σ[i]? = some (some v) → Vis X.env.scope x → ∃ u, RelV v u ∧ Look X.env s.heap m x u
  cell : ∀ x c, X.env.cells.lookup x = some c → ∃ v, s.heap.IsCell c v
  free : H X.env.locals = none
  freeC : ∀ x c, X.env.cells.lookup x = some c → H c = none
  pin : ∀ p ∈ X.pn ++ pins, s.heap.get? p.1 = some p.2 ∧ H p.1 = none ∧ p.1 ≠ X.env.locals ∧ p.1 ∉ X.fs ∧ ∀ v, p.2.data ≠ .cell v
  hok : HOk X.prog X.w H s.heap
  len : σ.length = X.N.length
section
variable {X : Cx} {pins : List (Addr × Obj)} {σ : List (Option V)} {H H' : Hp} {s : Shared} {h' : Heap}
theorem Cx.Ok.nofr (ok : X.Ok) {b : Addr} {o : Obj} (e : X.base.get? b = some o) : b ∉ X.fs := fun hb => by
  have := (ok.funs.mem hb).1
  rw [e] at this; cases this
theorem Inv.bs (I : Inv X pins σ H s) : ∀ b o, X.base.get? b = some o → s.heap.get? b = some o ∧ H b = none := fun b o e =>
  ⟨I.base.keep b o (I.ok.bs b o e).1 (I.ok.bs b o e).2 (I.ok.nofr e) (I.ok.noex b o e), I.base.free b o (I.ok.bs b o e).1 (I.ok.bs b o e).2 (I.ok.noex b o e)⟩
theorem Inv.bk (I : Inv X pins σ H s) : ∀ b o, X.base.get? b = some o → s.heap.get? b = some o := fun b o e => (I.bs b o e).1
theorem Inv.mod (I : Inv X pins σ H s) : Mod X.K X.mg X.base := I.ok.mod
theorem Inv.kIn (I : Inv X pins σ H s) : X.K.In s.heap := I.ok.mod.kin.keeps I.bk
theorem Inv.fr (I : Inv X pins σ H s) : ∃ m, Fr X.base X.env.locals s.heap m :=
  let ⟨m, hn, _⟩ := I.loc
  ⟨m, hn, I.bk, Nat.le_trans I.ok.bsz I.ok.above⟩
theorem Inv.lt (I : Inv X pins σ H s) : X.env.locals < s.heap.objs.size := let ⟨_, hn, _⟩ := I.loc; hn.lt
theorem Inv.sz (I : Inv X pins σ H s) : X.s₀.heap.objs.size ≤ s.heap.objs.size := Nat.le_trans I.ok.above (Nat.le_of_lt I.lt)
theorem Inv.nofs (I : Inv X pins σ H s) {a : Addr} (h : s.heap.objs.size ≤ a) : a ∉ X.fs := fun hb => by
  obtain ⟨_, o, ho, _⟩ := I.ok.funs.mem hb
  exact absurd (Nat.lt_of_lt_of_le (Heap.lt_size ho) (Nat.le_trans I.sz h)) (Nat.lt_irrefl _)
theorem Inv.cne (I : Inv X pins σ H s) : ∀ x c, X.env.cells.lookup x = some c → c ≠ X.env.locals := fun x c e z => by
  obtain ⟨v, o, ho, hd⟩ := I.cell x c e
  obtain ⟨m, ⟨o', es, ep, ho', hd', _⟩, _⟩ := I.loc
  rw [z, ho'] at ho; cases ho; rw [hd'] at hd; cases hd
theorem Inv.funs (I : Inv X pins σ H s) : s.heap.FunFrames X.base X.outer := by
  have all : ∀ (l : List Env), (∀ b ∈ frs l, b ∈ X.fs) → X.s₀.heap.FunFrames X.base l → s.heap.FunFrames X.base l := by
    intro l
    induction l with
    | nil => intro _ _; trivial
    | cons env r ih =>
      intro hs hl
      obtain ⟨hk, ⟨L, o, hf, hn, ho, hd⟩, hr⟩ := hl
      have hL : L ∈ X.fs := hs L (by unfold frs; rw [List.filterMap_cons, hf]; exact List.mem_cons_self)
      obtain ⟨sl, e⟩ := I.base.slot L o ho (I.ok.frf L hL) hL fun z => I.ok.exfs L z hL
      exact ⟨hk, ⟨L, _, hf, hn, e, hd⟩, ih (fun b hb => hs b (by unfold frs; rw [List.filterMap_cons, hf]; exact List.mem_cons_of_mem _ hb)) hr⟩
  exact all X.outer (fun _ hb => hb) I.ok.funs
theorem Inv.stack (I : Inv X pins σ H s) : s.heap.FunFrames X.base X.stack := by
  rcases I.ok.stk with e | ⟨e, hf⟩
  · rw [e]; exact I.funs
  · rw [e]
    obtain ⟨m, hn, _⟩ := I.loc
    refine .cons (by rw [I.ok.kind]; decide) hf hn ?_ I.funs
    exact Heap.get?_none_of_le (Nat.le_trans I.ok.bsz I.ok.above)
theorem Inv.stkSub (I : Inv X pins σ H s) : ∀ b ∈ frs X.stack, b ∈ X.env.locals :: X.fs := fun b hb => by
  rcases I.ok.stk with e | ⟨e, hf⟩
  · rw [e] at hb; exact List.mem_cons_of_mem _ hb
  · rw [e] at hb
    unfold frs at hb
    rw [List.filterMap_cons, hf] at hb
    exact hb
theorem Inv.stkFree (I : Inv X pins σ H s) : ∀ b ∈ frs X.stack, H b = none := fun b hb => by
  rcases List.mem_cons.mp (I.stkSub b hb) with e | hb
  · rw [e]; exact I.free
  · obtain ⟨_, o, ho, _⟩ := I.ok.funs.mem hb
    exact I.base.free b o ho (I.ok.frf b hb) fun z => I.ok.exfs b z hb
theorem Inv.step {g' : Array GenState} {t' : Nat} {d' : Drawn} {ch : List Addr} (I : Inv X pins σ H s)
    (hch : ∀ b ∈ ch, (b ∈ X.ex ∨ X.s₀.heap.objs.size ≤ b) ∧ b ≠ X.env.locals ∧ (∀ x c, X.env.cells.lookup x = some c → c ≠ b) ∧ ∀ p ∈ X.pn ++ pins, p.1 ≠ b)
    (keep : ∀ b o, b ≠ X.env.locals → b ∉ X.fs → b ∉ ch → s.heap.get? b = some o → H b = none → h'.get? b = some o)
    (slot : ∀ b o, b ≠ X.env.locals → b ∈ X.fs → b ∉ ch → s.heap.get? b = some o → H b = none → ∃ sl, h'.get? b = some { o with slots := sl }) (free : ∀ b o, b ∉ ch → s.heap.get? b = some o → H b = none → H' b = none)
    (there : ∀ b o, b ∉ ch → s.heap.get? b = some o → ∃ o', h'.get? b = some o')
    (tups : ∀ b xs, H b = some (.tup xs) → H' b = some (.tup xs)) (frzs : ∀ b o u, H b = some (.frz o u) → H' b = some (.frz o u)) (tbls : ∀ b ps, H b = some (.tbl ps) → ∃ more, H' b = some (.tbl (ps ++ more)))
    (ns : ∀ m, s.heap.Ns X.env.locals m → h'.Ns X.env.locals m) (hok : HOk X.prog X.w H' h') (hg : AllBare g') :
    Inv X pins σ H' { s with heap := h', gens := g', drawn := d', toks := t' } := by
  have neL : ∀ b o, X.s₀.heap.get? b = some o → b ≠ X.env.locals := fun b o e => Nat.ne_of_lt (Nat.lt_of_lt_of_le (Heap.lt_size e) I.ok.above)
  have neC : ∀ b o, X.s₀.heap.get? b = some o → b ∉ X.ex → b ∉ ch := fun b o e hx hb => by
    rcases (hch b hb).1 with z | z
    · exact hx z
    · exact absurd (Nat.lt_of_lt_of_le (Heap.lt_size e) z) (Nat.lt_irrefl _)
  have cellK : ∀ x c, X.env.cells.lookup x = some c → ∀ v, s.heap.IsCell c v → h'.IsCell c v := fun x c e v ⟨o, ho, hd⟩ => by
    have nch : c ∉ ch := fun z => (hch c z).2.2.1 x c e rfl
    by_cases hc : c ∈ X.fs
    · obtain ⟨sl, q⟩ := slot c o (I.cne x c e) hc nch ho (I.freeC x c e)
      exact ⟨_, q, hd⟩
    · exact ⟨o, keep c o (I.cne x c e) hc nch ho (I.freeC x c e), hd⟩
  refine ⟨I.ok, I.os, hg, ⟨fun b o e n hb hx => ?_, fun b o e n hb hx => ?_, fun b o e n hx => ?_, fun b o e hx => ?_, fun b xs e => tups b xs (I.base.tups b xs e), fun b o xs e => frzs b o xs (I.base.frzs b o xs e), fun b ps e => ?_⟩, ?_, fun x c e => ?_, ?_, fun x c e => ?_, fun p hp => ?_, hok, I.len⟩
  · exact keep b o (neL b o e) hb (neC b o e hx) (I.base.keep b o e n hb hx) (I.base.free b o e n hx)
  · obtain ⟨sl, e1⟩ := I.base.slot b o e n hb hx
    obtain ⟨sl', e2⟩ := slot b _ (neL b o e) hb (neC b o e hx) e1 (I.base.free b o e n hx)
    exact ⟨sl', e2⟩
  · obtain ⟨o', e1⟩ := I.base.there b o e hx
    exact free b o' (neC b o e hx) e1 (I.base.free b o e n hx)
  · obtain ⟨o', e1⟩ := I.base.there b o e hx
    exact there b o' (neC b o e hx) e1
  · obtain ⟨m1, e1⟩ := I.base.tbls b ps e
    obtain ⟨m2, e2⟩ := tbls b _ e1
    exact ⟨m1 ++ m2, by rw [e2, Array.append_assoc]⟩
  · obtain ⟨m, hn, hl⟩ := I.loc
    refine ⟨m, ns m hn, fun i x v e1 e2 e3 => ?_⟩
    obtain ⟨u, r, l⟩ := hl i x v e1 e2 e3
    refine ⟨u, r, ?_⟩
    rcases l with l | ⟨k, c, e, z⟩
    · exact .inl l
    · exact .inr ⟨k, c, e, cellK x c e _ z⟩
  · obtain ⟨v, z⟩ := I.cell x c e
    exact ⟨v, cellK x c e v z⟩
  · obtain ⟨m, ⟨o, _, _, ho, _⟩, _⟩ := I.loc
    exact free _ o (fun z => (hch _ z).2.1 rfl) ho I.free
  · obtain ⟨v, o, ho, hd⟩ := I.cell x c e
    exact free c o (fun z => (hch c z).2.2.1 x c e rfl) ho (I.freeC x c e)
  · obtain ⟨e, n, ne, nf, d⟩ := I.pin p hp
    have nch : p.1 ∉ ch := fun z => (hch p.1 z).2.2.2 p hp rfl
    exact ⟨keep p.1 p.2 ne nf nch e n, free p.1 p.2 nch e n, ne, nf, d⟩
theorem Inv.un {t' : Nat} (I : Inv X pins σ H s) (u : Un X.fs [] H H' s.heap h') (hok : HOk X.prog X.w H' h') : Inv X pins σ H' { s with heap := h', toks := t' } := by
  obtain ⟨m, ⟨o, es, ep, ho, r⟩, _⟩ := id I.loc
  obtain ⟨sl, hL⟩ := u.any ho I.free (by simp)
  exact I.step (g' := s.gens) (d' := s.drawn) (ch := []) (fun _ z => nomatch z) (fun b o _ hb _ e n => u.keep b o e n hb (by simp)) (fun b o _ hb _ e n => u.slot b o e n hb (by simp)) (fun b o _ e n => u.free b o e n (by simp)) (fun b o _ e => u.there b o e (by simp)) u.tups u.frzs u.tbls (fun m' hm => by
    obtain ⟨o', es', ep', ho', r'⟩ := hm
    rw [ho] at ho'; cases ho'
    exact ⟨_, es', ep', hL, r'⟩) hok I.bare
theorem Inv.call {g' : Array GenState} {t' : Nat} {d' : Drawn} {ch : List Addr} (I : Inv X pins σ H s) (u : Un (frs X.stack) ch H H' s.heap h') (hok : HOk X.prog X.w H' h') (hg : AllBare g')
    (hch : ∀ b ∈ ch, (b ∈ X.ex ∨ X.s₀.heap.objs.size ≤ b) ∧ b ≠ X.env.locals ∧ (∀ x c, X.env.cells.lookup x = some c → c ≠ b) ∧ ∀ p ∈ X.pn ++ pins, p.1 ≠ b) :
    Inv X pins σ H' { s with heap := h', gens := g', drawn := d', toks := t' } := by
  obtain ⟨m, ⟨o, es, ep, ho, r⟩, _⟩ := id I.loc
  obtain ⟨sl, hL⟩ := u.any ho I.free fun z => (hch _ z).2.1 rfl
  exact I.step (ch := ch) hch (fun b o hL hb hc e n => u.keep b o e n (fun z => (List.mem_cons.mp (I.stkSub b z)).elim hL hb) hc) (fun b o _ _ hc e n => u.any e n hc) (fun b o hc e n => u.free b o e n hc) (fun b o hc e => u.there b o e hc) u.tups u.frzs u.tbls (fun m' hm => by
    obtain ⟨o', es', ep', ho', r'⟩ := hm
    rw [ho] at ho'; cases ho'
    exact ⟨_, es', ep', hL, r'⟩) hok hg
theorem Inv.turned {t' : Nat} {it : Addr} (I : Inv X pins σ H s) (k : ∀ b o, b ≠ it → s.heap.get? b = some o → h'.get? b = some o) (hn : H it = none) (hL : it ≠ X.env.locals)
    (h1 : it ∈ X.ex ∨ X.s₀.heap.objs.size ≤ it) (h2 : ∀ x c, X.env.cells.lookup x = some c → c ≠ it) (h3 : ∀ p ∈ X.pn ++ pins, p.1 ≠ it) : Inv X pins σ H { s with heap := h', toks := t' } := by
  have nit : ∀ b u, H b = some u → b ≠ it := fun b u e z => by rw [z, hn] at e; cases e
  refine I.step (g' := s.gens) (d' := s.drawn) (ch := [it]) (fun b hb => ?_) (fun b o _ _ hc e _ => k b o (fun z => hc (by simp [z])) e) (fun b o _ _ hc e _ => ⟨o.slots, k b o (fun z => hc (by simp [z])) e⟩) (fun _ _ _ _ n => n)
    (fun b o hc e => ⟨o, k b o (fun z => hc (by simp [z])) e⟩) (fun _ _ e => e) (fun _ _ _ e => e) (fun b ps e => ⟨#[], by rw [e]; simp⟩) (fun m hm => ?_) (fun b u e => ?_) I.bare
  · have e : b = it := by simpa using hb
    subst e
    exact ⟨h1, hL, h2, h3⟩
  · obtain ⟨o, es, ep, ho, r⟩ := hm
    exact ⟨o, es, ep, k _ o (Ne.symm hL) ho, r⟩
  · refine (I.hok b u e).stay (fun c v hc q => k c v ?_ q) (fun _ q => q) fun _ _ q => q
    rcases hc with z | z
    · rw [z]; exact nit b u e
    · exact nit c _ z
theorem Inv.tok (I : Inv X pins σ H s) (t : Nat) : Inv X pins σ H { s with toks := t } := I.un (h' := s.heap) (t' := t) Un.refl I.hok
theorem Inv.kept {t' : Nat} (I : Inv X pins σ H s) (k : ∀ b u, s.heap.get? b = some u → h'.get? b = some u) : Inv X pins σ H { s with heap := h', toks := t' } := I.un (Un.kept k) (I.hok.kept k)
theorem Inv.laid {a : Addr} {o : HO} {t' : Nat} (I : Inv X pins σ H s) (k : ∀ b u, s.heap.get? b = some u → h'.get? b = some u) (hp : s.heap.objs.size ≤ a) (new : ObjOk X.prog X.w (upd H a o) h' a o) :
    Inv X pins σ (upd H a o) { s with heap := h', toks := t' } := I.un (Un.laid k hp (I.hok.fresh hp)) (I.hok.laid k hp new)
theorem Inv.write {x e : Addr} {o : HO} {t' : Nat} (I : Inv X pins σ H s) (mu : Mut (H x)) (he : e = x ∨ H e = some (.own x)) (k : ∀ b u, b ≠ e → s.heap.get? b = some u → h'.get? b = some u) (heo : ∃ u, h'.get? e = some u)
    (new : ObjOk X.prog X.w (upd H x o) h' x o) : Inv X pins σ (upd H x o) { s with heap := h', toks := t' } := I.un (Un.write mu he k heo) (I.hok.write mu he k heo new)
theorem Inv.pins_of {pins' : List (Addr × Obj)} (I : Inv X pins σ H s) (h : ∀ p ∈ pins', s.heap.get? p.1 = some p.2 ∧ H p.1 = none ∧ p.1 ≠ X.env.locals ∧ p.1 ∉ X.fs ∧ ∀ v, p.2.data ≠ .cell v) : Inv X pins' σ H s :=
  ⟨I.ok, I.os, I.bare, I.base, I.loc, I.cell, I.free, I.freeC, fun p hp => (List.mem_append.mp hp).elim (fun z => I.pin p (List.mem_append_left _ z)) (h p), I.hok, I.len⟩
theorem nodup_ix {N : List Str} (hN : N.Nodup) {i j : Nat} {x : Str} (a : N[i]? = some x) (b : N[j]? = some x) : i = j := by
  obtain ⟨h1, e1⟩ := List.getElem?_eq_some_iff.mp a
  obtain ⟨h2, e2⟩ := List.getElem?_eq_some_iff.mp b
  exact (List.getElem_inj hN).mp (e1.trans e2.symm)
theorem store_ok2 {M : Model} {A : Around} {E : Value → Shared → Prop} {i : Nat} {x : Str} {v : V} {u : Value} {Q : Unit → Shared → Prop} (I : Inv X pins σ H s) (hN : X.N.Nodup) (hi : X.N[i]? = some x) (hx : Loc X.env.scope x) (r : RelV v u)
    (h : ∀ s', Inv X pins (σ.set i (some v)) H s' → (∃ a, Heap.SameBut a s.heap s'.heap ∧ (a = X.env.locals ∨ X.env.cells.lookup x = some a)) → Q () s') (hf : X.fn x = true ∨ X.env.scope.names.lookup x = some .local := by first | exact .inl rfl | exact .inr rfl | assumption) : wpAny M A (storeName X.env x u) Q E s := by
  obtain ⟨m, hn, hl⟩ := id I.loc
  have hcls : (X.env.scope.kind == .class || (X.env.scope.kind == .module && X.env.locals != X.env.globals)) = false := by rw [I.ok.kind]; rfl
  have hiσ : i < σ.length := by rw [I.len]; exact (List.getElem?_eq_some_iff.mp hi).1
  have cne := I.cne
  have tracked : ∀ {a : Addr} {h' : Heap}, (∃ o, s.heap.get? a = some o ∧ H a = none) → Heap.SameBut a s.heap h' → HOk X.prog X.w H h' := fun {a h'} ha hs b ob e => by
    obtain ⟨_, _, hfree⟩ := ha
    refine (I.hok b ob e).stay (fun c w' hc q => (hs.2 c ?_).trans q) (fun _ q => q) fun _ _ q => q
    rintro rfl
    rcases hc with rfl | hc
    · rw [hfree] at e; cases e
    · rw [hfree] at hc; cases hc
  rcases hx with hk | hk
  · refine wpAny_storeName_local hk hn (fun h' hn' hs => ?_) hcls
    obtain ⟨oL, _, _, hoL, _⟩ := id hn
    refine h _ ⟨I.ok, I.os, I.bare, ⟨fun b o e n hb hx => ?_, fun b o e n hb hx => ?_, I.base.free, fun b o e hx => ?_, I.base.tups, I.base.frzs, I.base.tbls⟩, ⟨_, hn', fun j y v' e1 e2 e3 => ?_⟩, fun y c e => ?_, I.free, I.freeC, fun p hp => ?_, tracked ⟨oL, hoL, I.free⟩ hs, by simpa using I.len⟩ ⟨_, hs, .inl rfl⟩
    · exact (hs.2 b (Nat.ne_of_lt (Nat.lt_of_lt_of_le (Heap.lt_size e) I.ok.above))).trans (I.base.keep b o e n hb hx)
    · obtain ⟨sl, e1⟩ := I.base.slot b o e n hb hx
      exact ⟨sl, (hs.2 b (Nat.ne_of_lt (Nat.lt_of_lt_of_le (Heap.lt_size e) I.ok.above))).trans e1⟩
    · obtain ⟨o', e1⟩ := I.base.there b o e hx
      exact ⟨o', (hs.2 b (Nat.ne_of_lt (Nat.lt_of_lt_of_le (Heap.lt_size e) I.ok.above))).trans e1⟩
    · by_cases hj : j = i
      · subst hj
        rw [hi] at e1; cases e1
        rw [List.getElem?_set_self hiσ] at e2
        cases e2
        exact ⟨u, r, .inl ⟨hk, by simp⟩⟩
      · rw [List.getElem?_set_ne (Ne.symm hj)] at e2
        obtain ⟨u', r', q⟩ := hl j y v' e1 e2 e3
        refine ⟨u', r', ?_⟩
        rcases q with ⟨k, e⟩ | ⟨k, c, e, z⟩
        · refine .inl ⟨k, ?_⟩
          have : y ≠ x := fun e => hj (nodup_ix hN e1 (e ▸ hi))
          simp [this, e]
        · exact .inr ⟨k, c, e, z.sameBut hs (cne y c e)⟩
    · obtain ⟨w', z⟩ := I.cell y c e
      exact ⟨w', z.sameBut hs (cne y c e)⟩
    · obtain ⟨e, n, ne, nf, d⟩ := I.pin p hp
      exact ⟨(hs.2 p.1 ne).trans e, n, ne, nf, d⟩
  · have hfn : X.fn x = true := by
      rcases hf with z | z
      · exact z
      · rw [z] at hk; cases hk
    obtain ⟨c, hc⟩ := I.ok.has x (.inl hk)
    obtain ⟨w', z⟩ := I.cell x c hc
    refine wpAny_storeName_cell I.ok.kind hk hc z (fun h' hc' hs => ?_)
    obtain ⟨oc, hoc, hocd⟩ := id z
    refine h { s with heap := h' } ⟨I.ok, I.os, I.bare, ⟨fun b o e n hb hx => ?_, fun b o e n hb hx => ?_, I.base.free, fun b o e hx => ?_, I.base.tups, I.base.frzs, I.base.tbls⟩, ⟨m, hn.sameBut hs (Ne.symm (cne x c hc)), fun j y v' e1 e2 e3 => ?_⟩, fun y c' e => ?_, I.free, I.freeC, fun p hp => ?_, tracked ⟨oc, hoc, I.freeC x c hc⟩ hs, by simpa using I.len⟩ ⟨c, hs, .inr hc⟩
    · exact (hs.2 b (Nat.ne_of_lt (Nat.lt_of_lt_of_le (Heap.lt_size e) (I.ok.cab x c hfn hc)))).trans (I.base.keep b o e n hb hx)
    · obtain ⟨sl, e1⟩ := I.base.slot b o e n hb hx
      exact ⟨sl, (hs.2 b (Nat.ne_of_lt (Nat.lt_of_lt_of_le (Heap.lt_size e) (I.ok.cab x c hfn hc)))).trans e1⟩
    · obtain ⟨o', e1⟩ := I.base.there b o e hx
      exact ⟨o', (hs.2 b (Nat.ne_of_lt (Nat.lt_of_lt_of_le (Heap.lt_size e) (I.ok.cab x c hfn hc)))).trans e1⟩
    · by_cases hj : j = i
      · subst hj
        rw [hi] at e1; cases e1
        rw [List.getElem?_set_self hiσ] at e2
        cases e2
        exact ⟨u, r, .inr ⟨.inl hk, c, hc, hc'⟩⟩
      · rw [List.getElem?_set_ne (Ne.symm hj)] at e2
        obtain ⟨u', r', q⟩ := hl j y v' e1 e2 e3
        refine ⟨u', r', ?_⟩
        rcases q with q | ⟨k, c', e, z'⟩
        · exact .inl q
        · refine .inr ⟨k, c', e, z'.sameBut hs ?_⟩
          rintro rfl
          exact hj (nodup_ix hN e1 (I.ok.inj _ _ _ e hc ▸ hi))
    · by_cases hcc : c' = c
      · subst hcc; exact ⟨_, hc'⟩
      · obtain ⟨w2, z2⟩ := I.cell y c' e
        exact ⟨w2, z2.sameBut hs hcc⟩
    · obtain ⟨e, n, ne, nf, d⟩ := I.pin p hp
      refine ⟨(hs.2 p.1 ?_).trans e, n, ne, nf, d⟩
      intro q
      rw [q, hoc] at e
      have q' : oc = p.2 := Option.some.inj e
      exact d w' (by rw [← q']; exact hocd)
theorem store_ok {M : Model} {A : Around} {E : Value → Shared → Prop} {i : Nat} {x : Str} {v : V} {u : Value} {Q : Unit → Shared → Prop} (I : Inv X pins σ H s) (hN : X.N.Nodup) (hi : X.N[i]? = some x) (hx : Loc X.env.scope x) (r : RelV v u)
    (h : ∀ s', Inv X pins (σ.set i (some v)) H s' → Q () s') (hf : X.fn x = true ∨ X.env.scope.names.lookup x = some .local := by first | exact .inl rfl | exact .inr rfl | assumption) : wpAny M A (storeName X.env x u) Q E s :=
  store_ok2 I hN hi hx r (fun s' I' _ => h s' I') hf
theorem Inv.call' {s' : Shared} {ch : List Addr} (I : Inv X pins σ H s) (ho : s'.os = s.os) (u : Un (frs X.stack) ch H H' s.heap s'.heap) (hok : HOk X.prog X.w H' s'.heap) (hg : AllBare s'.gens)
    (hch : ∀ b ∈ ch, (b ∈ X.ex ∨ X.s₀.heap.objs.size ≤ b) ∧ b ≠ X.env.locals ∧ (∀ x c, X.env.cells.lookup x = some c → c ≠ b) ∧ ∀ p ∈ X.pn ++ pins, p.1 ≠ b) : Inv X pins σ H' s' := by
  obtain ⟨h', g', d', t', o'⟩ := s'
  have e : o' = s.os := ho
  subst e
  exact I.call (g' := g') (t' := t') (d' := d') u hok hg hch
end
abbrev XK := Value → Option Addr → Hp → Prop
abbrev St := List (Option V)
abbrev VK := V → Hp → Prop
abbrev TE := St → Hp → VK → Prop
abbrev TT := St → Hp → (Bool → Hp → Prop) → Prop
abbrev TA := St → Hp → (List V → Hp → Prop) → Prop
structure Ends where
  nx : St → Hp → Prop
  rt : VK
  bk : St → Hp → Prop := fun _ _ => False
  ct : St → Hp → Prop := fun _ _ => False
abbrev TS := Ends → St → Hp → Prop
def EP (X : Cx) (pins : List (Addr × Obj)) (σ : St) (Q : VK) (u : Value) (s' : Shared) : Prop := ∃ v H', Inv X pins σ H' s' ∧ RelV v u ∧ Q v H'
def TP (X : Cx) (pins : List (Addr × Obj)) (σ : St) (Q : Bool → Hp → Prop) (b : Bool) (s' : Shared) : Prop := ∃ H', Inv X pins σ H' s' ∧ Q b H'
def AP (X : Cx) (pins : List (Addr × Obj)) (σ : St) (Q : List V → Hp → Prop) (us : List Value) (s' : Shared) : Prop := ∃ vs H', Inv X pins σ H' s' ∧ Vals vs us ∧ Q vs H'
def SP (X : Cx) (pins : List (Addr × Obj)) (D : Ends) (f : Flow) (s' : Shared) : Prop :=
  match f with
  | .next => ∃ σ' H', Inv X pins σ' H' s' ∧ D.nx σ' H'
  | .brk => ∃ σ' H', Inv X pins σ' H' s' ∧ D.bk σ' H'
  | .cont => ∃ σ' H', Inv X pins σ' H' s' ∧ D.ct σ' H'
  | .ret u => ∃ v σ' H', Inv X pins σ' H' s' ∧ RelV v u ∧ D.rt v H'
def PE (X : Cx) (e : Expr) (t : TE) : Prop :=
  ∀ (pins : List (Addr × Obj)) (s : Shared) (σ : St) (H : Hp) (Q : VK), Inv X pins σ H s → t σ H Q → wpAny (model X.prog X.w) X.A (eval e X.env) (EP X pins σ Q) X.xe s
def PT (X : Cx) (e : Expr) (t : TT) : Prop :=
  ∀ (pins : List (Addr × Obj)) (s : Shared) (σ : St) (H : Hp) (Q : Bool → Hp → Prop), Inv X pins σ H s → t σ H Q → wpAny (model X.prog X.w) X.A (isTrue e X.env (eval e X.env)) (TP X pins σ Q) X.xe s
def PW (X : Cx) (e : Expr) (t : TT) : Prop :=
  ∀ (whole : Sem Value) (pins : List (Addr × Obj)) (s : Shared) (σ : St) (H : Hp) (Q : Bool → Hp → Prop), Inv X pins σ H s → t σ H Q → wpAny (model X.prog X.w) X.A (isTrue e X.env whole) (TP X pins σ Q) X.xe s
theorem PW.pt {X : Cx} {e : Expr} {t : TT} (h : PW X e t) : PT X e t := h _
def PA (X : Cx) (es : List Expr) (t : TA) : Prop :=
  ∀ (pos : Pos) (pins : List (Addr × Obj)) (s : Shared) (σ : St) (H : Hp) (Q : List V → Hp → Prop), Inv X pins σ H s → t σ H Q → wpAny (model X.prog X.w) X.A (spliced (backTo pos (starEach es X.env))) (AP X pins σ Q) X.xe s
def PS (X : Cx) (st : Stmt) (t : TS) : Prop :=
  ∀ (pins : List (Addr × Obj)) (s : Shared) (σ : St) (H : Hp) (D : Ends), Inv X pins σ H s → t D σ H → wpAny (model X.prog X.w) X.A (exec st X.env) (SP X pins D) X.xe s
def PSs (X : Cx) (st : List Stmt) (t : TS) : Prop :=
  ∀ (pins : List (Addr × Obj)) (s : Shared) (σ : St) (H : Hp) (D : Ends), Inv X pins σ H s → t D σ H → wpAny (model X.prog X.w) X.A (execs st X.env) (SP X pins D) X.xe s
theorem thn {α : Type} {t : Sem α} {Q Q' : α → Shared → Prop} {M : Model} {A : Around} {E : Value → Shared → Prop} {s : Shared} (h : wpAny M A t Q E s) (hQ : ∀ a s, Q a s → Q' a s) : wpAny M A t Q' E s := wpAny_mono h hQ fun _ _ x => x
end L2
namespace L2
open PySem PySem.Spec PyProof.Rows
section
variable {X : Cx}
def tVar (i : Nat) : TE := fun σ H Q => ∃ v, σ[i]? = some (some v) ∧ Q v H
def tC (v : V) : TE := fun _ H Q => Q v H
theorem pe_var {i : Nat} {x : Str} {pos : Pos} (hN : X.N[i]? = some x) (hv : Vis X.env.scope x) (hd : (x == ("__debug__" : Str)) = false := by decide) (hcd : (x == ("__classdict__" : Str)) = false := by decide) : PE X (.Name x pos) (tVar i) := by
  intro pins s σ H Q I h
  obtain ⟨v, e, h⟩ := h
  obtain ⟨m, hn, hl⟩ := I.loc
  obtain ⟨u, r, l⟩ := hl i x v hN e hv
  have fin : EP X pins σ Q u s := ⟨v, H, I, r, h⟩
  rcases l with ⟨hk, hm⟩ | ⟨hk, c, hc, hcell⟩
  · exact wpAny_Name (wpAny_loadName_local I.ok.kind hk hn hm fin) hd
  · rcases hk with hk | hk
    · exact wpAny_Name (wpAny_loadName_cell I.ok.kind hk hc hcell fin) hd
    · exact wpAny_Name (wpAny_loadName_free I.ok.kind hk hc hcell fin hcd) hd
theorem pe_int {i j pos} : PE X (.Constant (.int i) j pos) (tC (.int i)) := fun _ _ _ H _ I h => wpAny_Constant_int ⟨.int i, H, I.tok _, ⟨_, rfl⟩, h⟩
theorem pe_bl {b j pos} : PE X (.Constant (.bool b) j pos) (tC (.bl b)) := fun _ _ _ H _ I h => Constant_bool ⟨.bl b, H, I, rfl, h⟩
theorem pe_non {j pos} : PE X (.Constant .none j pos) (tC .non) := fun _ _ _ H _ I h => Constant_none ⟨.non, H, I, rfl, h⟩
theorem pe_str {x j pos} : PE X (.Constant (.str x) j pos) (tC (.str x)) := fun _ _ _ H _ I h => Calls.Constant_str ⟨.str x, H, I.tok _, ⟨_, rfl⟩, h⟩
def Gl (X : Cx) (x : Str) : Prop := X.env.kindOf x = some .globalImplicit
theorem ld_glob {E : Value → Shared → Prop} {pins : List (Addr × Obj)} {s : Shared} {σ : St} {H : Hp} {x : Str} {u : Value} {pos : Pos} {Q : Value → Shared → Prop} (I : Inv X pins σ H s) (hg : Gl X x) (hm : X.mg x = some u) (h : Q u s)
    (hd : (x == ("__debug__" : Str)) = false := by decide) : wpAny (model X.prog X.w) X.A (eval (.Name x pos) X.env) Q E s :=
  Calls.Name_function_global I.ok.kind hg (Calls.loadGlobal_global (by rw [I.ok.glob]; exact I.mod.glob.keeps I.bk) hm h) hd
theorem ld_blt {E : Value → Shared → Prop} {pins : List (Addr × Obj)} {s : Shared} {σ : St} {H : Hp} {x : Str} {u : Value} {pos : Pos} {Q : Value → Shared → Prop} (I : Inv X pins σ H s) (hg : Gl X x) (hm : X.mg x = none) (hv : bootBuiltins x = some u) (h : Q u s)
    (hn : x ≠ "__name__" := by decide) (hd : (x == ("__debug__" : Str)) = false := by decide) : wpAny (model X.prog X.w) X.A (eval (.Name x pos) X.env) Q E s := by
  obtain ⟨mb, h1, h2⟩ := I.mod.blt
  exact Calls.Name_function_global I.ok.kind hg (Calls.loadGlobal_builtin (by rw [I.ok.glob]; exact I.mod.glob.keeps I.bk) hm (by rw [I.ok.blt]; exact h1.keeps I.bk) ((h2 x hn).trans hv) h) hd
theorem pe_glob {x : Str} {v : V} {u : Value} {pos : Pos} (hg : Gl X x) (hm : X.mg x = some u) (r : RelV v u) (hd : (x == ("__debug__" : Str)) = false := by decide) : PE X (.Name x pos) (tC v) :=
  fun _ _ _ H _ I h => ld_glob I hg hm ⟨v, H, I, r, h⟩ hd
theorem pe_bltn {x : Str} {v : V} {u : Value} {pos : Pos} (hg : Gl X x) (hm : X.mg x = none) (hv : bootBuiltins x = some u) (r : RelV v u) (hn : x ≠ "__name__" := by decide) (hd : (x == ("__debug__" : Str)) = false := by decide) : PE X (.Name x pos) (tC v) :=
  fun _ _ _ H _ I h => ld_blt I hg hm hv ⟨v, H, I, r, h⟩ hn hd
variable {a b : Expr} {ta tb : TE} {pos : Pos}
def tB (t : TE) : TT := fun σ H Q => t σ H fun x H1 => ∃ c, x = .bl c ∧ Q c H1
theorem pt_val {e : Expr} {t : TE} (h : PE X e t) (he : ∀ whole, isTrue e X.env whole = (do let v ← whole; standAt e.pos; holding [v] (truthy v)) := by intro _; rfl) : PT X e (tB t) := by
  intro pins s σ H Q I hw
  refine isTrue_plain (thn (h pins s σ H _ I hw) fun v s1 ⟨x, H1, I1, r1, q1⟩ => ?_) (he _)
  obtain ⟨d, rfl, q⟩ := q1
  cases r1
  exact wpAny_truthy_bool ⟨H1, I1, q⟩
variable {tA tB' : TT} {rest : List Expr}
def tAnd (t u : TT) : TT := fun σ H Q => t σ H fun c H1 => if c = true then u σ H1 Q else Q false H1
def tOr (t u : TT) : TT := fun σ H Q => t σ H fun c H1 => if c = true then Q true H1 else u σ H1 Q
def tNot (t : TT) : TT := fun σ H Q => t σ H fun c H1 => Q (!c) H1
theorem pw_and1 (ha : PT X a tA) : PW X (.BoolOp .And [a] pos) tA := by
  intro wh pins s σ H Q I h
  refine isTrue_and (thn (ha pins s σ H Q I h) fun c s1 e => ?_)
  cases c with
  | true => exact isTrue_and_nil e
  | false => exact e
theorem pw_or1 (ha : PT X a tA) : PW X (.BoolOp .Or [a] pos) tA := by
  intro wh pins s σ H Q I h
  refine isTrue_or (thn (ha pins s σ H Q I h) fun c s1 e => ?_)
  cases c with
  | false => exact isTrue_or_nil e
  | true => exact e
theorem pw_and (ha : PT X a tA) (hb : PW X (.BoolOp .And (b :: rest) pos) tB') : PW X (.BoolOp .And (a :: b :: rest) pos) (tAnd tA tB') := by
  intro wh pins s σ H Q I h
  refine isTrue_and (thn (ha pins s σ H _ I h) fun c s1 ⟨H1, I1, q1⟩ => ?_)
  cases c with
  | true => exact hb wh pins s1 σ H1 Q I1 q1
  | false => exact ⟨H1, I1, q1⟩
theorem pw_or (ha : PT X a tA) (hb : PW X (.BoolOp .Or (b :: rest) pos) tB') : PW X (.BoolOp .Or (a :: b :: rest) pos) (tOr tA tB') := by
  intro wh pins s σ H Q I h
  refine isTrue_or (thn (ha pins s σ H _ I h) fun c s1 ⟨H1, I1, q1⟩ => ?_)
  cases c with
  | true => exact ⟨H1, I1, q1⟩
  | false => exact hb wh pins s1 σ H1 Q I1 q1
theorem pt_not (ha : PT X a tA) : PT X (.UnaryOp .Not a pos) (tNot tA) := by
  intro pins s σ H Q I h
  exact isTrue_not (ha pins s σ H (fun c H1 => Q (!c) H1) I h)
def tAndV (ta tb : TE) : TE := fun σ H Q => ta σ H fun x H1 => ∃ c, x = .bl c ∧ if c = true then tb σ H1 Q else Q (.bl false) H1
theorem pe_one {op} {t : TE} (h : PE X a t) : PE X (.BoolOp op [a] pos) t := fun pins s σ H Q I hw => BoolOp_one (h pins s σ H Q I hw)
theorem pe_and (ha : PE X a ta) (hb : PE X (.BoolOp .And (b :: rest) pos) tb) : PE X (.BoolOp .And (a :: b :: rest) pos) (tAndV ta tb) := by
  intro pins s σ H Q I h
  refine BoolOp_and (thn (ha pins s σ H _ I h) fun v s1 ⟨x, H1, I1, r1, q1⟩ => ?_)
  obtain ⟨c, rfl, q1⟩ := q1
  cases r1
  refine wpAny_truthy_bool ?_
  cases c with
  | true => exact hb pins s1 σ H1 Q I1 q1
  | false => exact ⟨.bl false, H1, I1, rfl, q1⟩
def tIf (t : TT) (ta tb : TE) : TE := fun σ H Q => t σ H fun c H1 => if c = true then ta σ H1 Q else tb σ H1 Q
theorem pe_ifExp {c : Expr} (hc : PT X c tA) (ha : PE X a ta) (hb : PE X b tb) : PE X (.IfExp c a b pos) (tIf tA ta tb) := by
  intro pins s σ H Q I h
  refine wpAny_IfExp (thn (hc pins s σ H _ I h) fun d s1 ⟨H1, I1, q1⟩ => ?_)
  cases d with
  | true => exact ha pins s1 σ H1 Q I1 q1
  | false => exact hb pins s1 σ H1 Q I1 q1
end
end L2
namespace L2
open PySem PySem.Spec PyProof.Rows
def SqL (K : PySem.W.Frag) (H : Hp) (a : Addr) (xs : List V) : Prop :=
  Rd H a (.lst xs) ∨
    ∃ (o : Obj) (its : Array Value) (n : Nat), K.lookup a = some o ∧ o.cls = .type "list" ∧ o.dict = none ∧ o.data = .seq its n ∧ its.size ≤ sizeLine ∧ Vals xs its.toList
def SqT (K : PySem.W.Frag) (H : Hp) (a : Addr) (xs : List V) : Prop :=
  Rd H a (.tup xs) ∨
    ∃ (o : Obj) (its : Array Value) (n : Nat), K.lookup a = some o ∧ o.cls = .type "tuple" ∧ o.data = .seq its n ∧ its.size ≤ sizeLine ∧ Vals xs its.toList
def absV : Value → Option V
  | .none => some .non
  | .bool b => some (.bl b)
  | .int i _ => some (.int i)
  | .str x _ => some (.str x)
  | .bytes b _ => some (.byt b)
  | .float b _ => some (.flt b)
  | .ref a => some (.ref a)
  | .type n => some (.ty n)
  | _ => none
theorem RelV.abs {x : V} {u : Value} (r : RelV x u) : absV u = some x := by
  cases x with
  | non => cases r; rfl
  | bl _ => cases r; rfl
  | int _ => obtain ⟨t, rfl⟩ := r; rfl
  | str _ => obtain ⟨t, rfl⟩ := r; rfl
  | byt _ => obtain ⟨t, rfl⟩ := r; rfl
  | flt _ => obtain ⟨t, rfl⟩ := r; rfl
  | ref _ => cases r; rfl
  | ty _ => cases r; rfl
theorem RelV.inj {x y : V} {u : Value} (r : RelV x u) (q : RelV y u) : x = y := Option.some.inj (r.abs.symm.trans q.abs)
theorem Vals.inj : ∀ {xs ys : List V} {us : List Value}, Vals xs us → Vals ys us → xs = ys
  | _, _, _, .nil, .nil => rfl
  | _, _, _, .cons r t, .cons r' t' => by rw [r.inj r', Vals.inj t t']
section
variable {X : Cx} {pins : List (Addr × Obj)} {σ : St} {H : Hp} {s : Shared} {a : Addr} {xs ys : List V}
theorem SqL.of {K : PySem.W.Frag} (h : H a = some (.lst xs)) : SqL K H a xs := .inl (.inl h)
theorem Inv.list (I : Inv X pins σ H s) (h : SqL X.K H a xs) : ∃ its : List Value, Vals xs its ∧ PlainL s.heap a its.toArray ∧ xs.length ≤ sizeLine := by
  rcases h with h | ⟨o, its, n, hk, hc, hd, hs, hz, r⟩
  · obtain ⟨z, its, n, r, e⟩ := h.ok I.hok
    exact ⟨its, r, ⟨_, n, e, rfl, rfl, rfl⟩, z⟩
  · refine ⟨its.toList, r, ⟨o, n, I.kIn a o hk, hc, hd, by simpa using hs⟩, ?_⟩
    have e := r.length
    simp only [Array.length_toList] at e
    omega
theorem Inv.tuple (I : Inv X pins σ H s) (h : SqT X.K H a xs) : ∃ its : List Value, Vals xs its ∧ IsTup s.heap a its.toArray ∧ xs.length ≤ sizeLine := by
  rcases h with h | ⟨o, its, n, hk, hc, hs, hz, r⟩
  · obtain ⟨z, its, r, p⟩ := h.ok I.hok
    exact ⟨its, r, p, z⟩
  · refine ⟨its.toList, r, ⟨o, I.kIn a o hk, hc, n, by simpa using hs⟩, ?_⟩
    have e := r.length
    simp only [Array.length_toList] at e
    omega
theorem Inv.list_inj (I : Inv X pins σ H s) (h : SqL X.K H a xs) (h' : SqL X.K H a ys) : xs = ys := by
  obtain ⟨its, r, ⟨o, n, e, _, _, d⟩, _⟩ := I.list h
  obtain ⟨its', r', ⟨o', n', e', _, _, d'⟩, _⟩ := I.list h'
  rw [e] at e'; cases e'
  rw [d] at d'
  injection d' with d1 _
  have : its = its' := by simpa using congrArg Array.toList d1
  subst this
  exact r.inj r'
theorem Inv.tuple_inj (I : Inv X pins σ H s) (h : SqT X.K H a xs) (h' : SqT X.K H a ys) : xs = ys := by
  obtain ⟨its, r, ⟨o, e, _, n, d⟩, _⟩ := I.tuple h
  obtain ⟨its', r', ⟨o', e', _, n', d'⟩, _⟩ := I.tuple h'
  rw [e] at e'; cases e'
  rw [d] at d'
  injection d' with d1 _
  have : its = its' := by simpa using congrArg Array.toList d1
  subst this
  exact r.inj r'
end
abbrev Cx.wish (X : Cx) (E : Value → Shared → Prop) : Cx := { X with xe := E }
abbrev Cx.nox (X : Cx) : Cx := X.wish fun _ _ => False
theorem Cx.Ok.wish {X : Cx} (ok : X.Ok) (E : Value → Shared → Prop) : (X.wish E).Ok :=
  ⟨ok.mod, ok.kind, ok.glob, ok.blt, ok.above, ok.inj, ok.has, ok.cab, ok.hd, ok.frames, ok.stk, ok.exf, ok.bs, ok.bsz, ok.noex, ok.exfs, ok.funs, ok.frf⟩
theorem Cx.Ok.unwish {X : Cx} {E : Value → Shared → Prop} (ok : (X.wish E).Ok) : X.Ok :=
  ⟨ok.mod, ok.kind, ok.glob, ok.blt, ok.above, ok.inj, ok.has, ok.cab, ok.hd, ok.frames, ok.stk, ok.exf, ok.bs, ok.bsz, ok.noex, ok.exfs, ok.funs, ok.frf⟩
section
variable {X : Cx} {pins : List (Addr × Obj)} {σ : St} {H : Hp} {s : Shared} {E : Value → Shared → Prop}
theorem Inv.wish (I : Inv X pins σ H s) (E : Value → Shared → Prop) : Inv (X.wish E) pins σ H s := ⟨I.ok.wish E, I.os, I.bare, I.base, I.loc, I.cell, I.free, I.freeC, I.pin, I.hok, I.len⟩
theorem Inv.unwish (I : Inv (X.wish E) pins σ H s) : Inv X pins σ H s := ⟨I.ok.unwish, I.os, I.bare, I.base, I.loc, I.cell, I.free, I.freeC, I.pin, I.hok, I.len⟩
theorem SP.unwish {D : Ends} {f : Flow} {s' : Shared} (h : SP (X.wish E) pins D f s') : SP X pins D f s' := by
  cases f with
  | next => obtain ⟨σ', H', I, q⟩ := h; exact ⟨σ', H', I.unwish, q⟩
  | brk => obtain ⟨σ', H', I, q⟩ := h; exact ⟨σ', H', I.unwish, q⟩
  | cont => obtain ⟨σ', H', I, q⟩ := h; exact ⟨σ', H', I.unwish, q⟩
  | ret u => obtain ⟨v, σ', H', I, r, q⟩ := h; exact ⟨v, σ', H', I.unwish, r, q⟩
theorem PSs.nox {st : List Stmt} {t : TS} (h : PSs X.nox st t) : PSs X st t := fun pins s σ H D I hw =>
  wpAny_mono (h pins s σ H D (I.wish _) hw) (fun _ _ q => q.unwish) fun _ _ z => False.elim z
end
section
variable {X : Cx} {st : Stmt} {rest : List Stmt} {t u : TS} {e : Expr} {te : TE} {pos : Pos}
def tNext : TS := fun D σ H => D.nx σ H
def tSeq (t u : TS) : TS := fun D σ H => t { D with nx := u D } σ H
theorem pss_nil : PSs X [] tNext := fun _ _ σ H _ I h => wpAny_execs_nil ⟨σ, H, I, h⟩
theorem pss_cons (h1 : PS X st t) (h2 : PSs X rest u) : PSs X (st :: rest) (tSeq t u) := by
  intro pins s σ H D I h
  refine wpAny_execs_cons (thn (h1 pins s σ H { D with nx := u D } I h) fun f s1 q => ?_)
  cases f with
  | next =>
    obtain ⟨σ', H', I', q⟩ := q
    exact h2 pins s1 σ' H' D I' q
  | ret v => exact q
  | brk => exact q
  | cont => exact q
theorem pss_one (h1 : PS X st t) : PSs X [st] t := by
  intro pins s σ H D I h
  refine wpAny_execs_cons (thn (h1 pins s σ H D I h) fun f s1 q => ?_)
  cases f with
  | next => exact wpAny_execs_nil q
  | ret v => exact q
  | brk => exact q
  | cont => exact q
theorem Inv.quiet {pins : List (Addr × Obj)} {σ : St} {H : Hp} {s : Shared} (I : Inv X pins σ H s) : interactive X.env = false := by simp [interactive, I.ok.kind]
def tDrop (te : TE) : TS := fun D σ H => te σ H fun _ H1 => D.nx σ H1
theorem ps_expr (he : PE X e te) (hs : swapsWith e none pos.line X.env = pure false := by rfl) : PS X (.Expr e pos) (tDrop te) := by
  intro pins s σ H D I h
  exact wpAny_Expr_any (thn (he pins s σ H _ I h) fun v s1 ⟨x, H1, I1, r1, q1⟩ => ⟨σ, H1, I1, q1⟩) I.quiet hs
def tRet (te : TE) : TS := fun D σ H => te σ H D.rt
theorem ps_ret (he : PE X e te) : PS X (.Return (some e) pos) (tRet te) := by
  intro pins s σ H D I h
  exact wpAny_Return_some (thn (he pins s σ H _ I h) fun v s1 ⟨x, H1, I1, r1, q1⟩ => ⟨x, σ, H1, I1, r1, q1⟩)
def tIfS (c : TT) (t u : TS) : TS := fun D σ H => c σ H fun b H1 => if b = true then t D σ H1 else u D σ H1
theorem ps_if {c : Expr} {a b : List Stmt} {tc : TT} (hc : PT X c tc) (ha : PSs X a t) (hb : PSs X b u) : PS X (.If c a b pos) (tIfS tc t u) := by
  intro pins s σ H D I h
  refine wpAny_If (thn (hc pins s σ H _ I h) fun d s1 ⟨H1, I1, q1⟩ => ?_)
  cases d with
  | true => exact ha pins s1 σ H1 D I1 q1
  | false => exact hb pins s1 σ H1 D I1 q1
def tNever : TS := fun _ _ _ => False
theorem ps_never : PS X st tNever := fun _ _ _ _ _ _ h => h.elim
end
abbrev TG := V → St → Hp → (St → Hp → Prop) → Prop
abbrev TGs := List V → St → Hp → (St → Hp → Prop) → Prop
def PG (X : Cx) (target : Expr) (t : TG) : Prop :=
  ∀ (pins : List (Addr × Obj)) (s : Shared) (σ : St) (H : Hp) (v : V) (u : Value) (Q : St → Hp → Prop), Inv X pins σ H s → RelV v u → t v σ H Q →
    wpAny (model X.prog X.w) X.A (assign target X.env u) (fun _ s' => ∃ σ' H', Inv X pins σ' H' s' ∧ Q σ' H') X.xe s
def PGs (X : Cx) (ts : List Expr) (t : TGs) : Prop :=
  ∀ (pins : List (Addr × Obj)) (s : Shared) (σ : St) (H : Hp) (vs : List V) (us : List Value) (Q : St → Hp → Prop), Inv X pins σ H s → Vals vs us → t vs σ H Q →
    wpAny (model X.prog X.w) X.A (assignInOrder ((assignEach ts X.env).map (·.2)) us) (fun _ s' => ∃ σ' H', Inv X pins σ' H' s' ∧ Q σ' H') X.xe s
abbrev TSet := V → V → V → Hp → (Hp → Prop) → Prop
def PSet (X : Cx) (t : TSet) : Prop :=
  ∀ (pins : List (Addr × Obj)) (s : Shared) (σ : St) (H : Hp) (o i v : V) (ov iv u : Value) (Q : Hp → Prop), Inv X pins σ H s → RelV o ov → RelV i iv → RelV v u → t o i v H Q →
    wpAny (model X.prog X.w) X.A (setItem ov iv u) (fun _ s' => ∃ H', Inv X pins σ H' s' ∧ Q H') X.xe s
section
variable {X : Cx} {pos : Pos}
def gName (i : Nat) : TG := fun v σ H Q => Q (σ.set i (some v)) H
theorem pg_name {i : Nat} {x : Str} (hN : X.N.Nodup) (hi : X.N[i]? = some x) (hx : Loc X.env.scope x) (hf : X.fn x = true ∨ X.env.scope.names.lookup x = some .local := by first | exact .inl rfl | exact .inr rfl | assumption) : PG X (.Name x pos) (gName i) := by
  intro pins s σ H v u Q I r h
  exact wpAny_assign_Name (store_ok I hN hi hx r (fun s' I' => ⟨_, H, I', h⟩) hf)
def gNil : TGs := fun vs σ H Q => vs = [] ∧ Q σ H
def gCons (t : TG) (u : TGs) : TGs := fun vs σ H Q => ∃ v r, vs = v :: r ∧ t v σ H fun σ' H' => u r σ' H' Q
theorem pgs_nil : PGs X [] gNil := by
  intro pins s σ H vs us Q I r h
  obtain ⟨e, h⟩ := h
  subst e
  cases r
  exact assignInOrder_nil ⟨σ, H, I, h⟩
theorem pgs_cons {e : Expr} {es : List Expr} {t : TG} {u : TGs} (h1 : PG X e t) (h2 : PGs X es u)
    (hs : (assignEach (e :: es) X.env).map (·.2) = assign e X.env :: (assignEach es X.env).map (·.2) := by rfl) : PGs X (e :: es) (gCons t u) := by
  intro pins s σ H vs us Q I r h
  obtain ⟨v, vr, e1, h⟩ := h
  subst e1
  cases r with
  | cons r rr =>
    rw [hs]
    refine assignInOrder_cons (thn (h1 pins s σ H _ _ _ I r h) fun _ s1 ⟨σ1, H1, I1, q1⟩ => ?_)
    exact h2 pins s1 σ1 H1 _ _ Q I1 rr q1
def gTup (K : PySem.W.Frag) (n : Nat) (t : TGs) : TG := fun v σ H Q => ∃ a xs, v = .ref a ∧ SqT K H a xs ∧ xs.length = n ∧ t xs σ H Q
theorem pg_tup {es : List Expr} {k : Nat} {t : TGs} {n : Nat} (hc : X.calm = true) (h : PGs X es t)
    (hn : (assignEach es X.env).length = n := by rfl) (hst : (assignEach es X.env).findIdx? (·.1) = none := by rfl) : PG X (.Tuple es k pos) (gTup X.K n t) := by
  intro pins s σ H v u Q I r hw
  obtain ⟨a, xs, e1, hq, hl, hw⟩ := hw
  subst e1
  cases r
  obtain ⟨its, rv, ht, hz⟩ := I.tuple hq
  refine assign_Tuple_tuple (I.ok.hd hc) ht (by simp [hn, ← hl, rv.length]) hst fun h' hx => ?_
  have I1 : Inv X pins σ H { s with heap := h' } := I.kept (t' := s.toks) fun b o e => hx b o (Nat.ne_of_lt (Heap.lt_size e)) e
  exact h pins _ σ H xs _ Q I1 (by simpa using rv) hw
def gSub (to ti : TE) (t : TSet) : TG := fun v σ H Q => to σ H fun o H1 => ti σ H1 fun i H2 => t o i v H2 fun H3 => Q σ H3
theorem pg_sub {o i : Expr} {to ti : TE} {t : TSet} (ho : PE X o to) (hi : PE X i ti) (hs : PSet X t)
    (ha : ∀ v, assign (.Subscript o i pos) X.env v = (do
      let ov ← holding [v] (eval o X.env)
      let iv ← holding [v, ov] (eval i X.env)
      standAt pos
      holding [v, ov, iv] (setItem ov iv v)
      release [v, ov, iv] []) := by intro _; rfl) : PG X (.Subscript o i pos) (gSub to ti t) := by
  intro pins s σ H v u Q I r h
  rw [ha]
  refine wpAny_bind (wpAny_holding (thn (ho pins s σ H _ I h) fun ov s1 ⟨x, H1, I1, r1, q1⟩ => ?_))
  refine wpAny_bind (wpAny_holding (thn (hi pins s1 σ H1 _ I1 q1) fun iv s2 ⟨y, H2, I2, r2, q2⟩ => ?_))
  refine wpAny_bind (wpAny_standAt (wpAny_bind (wpAny_holding (thn (hs pins s2 σ H2 x y v ov iv u _ I2 r1 r2 r q2) fun _ s3 ⟨H3, I3, q3⟩ => ?_))))
  exact wpAny_release ⟨σ, H3, I3, q3⟩
def tAsg (te : TE) (g : TG) : TS := fun D σ H => te σ H fun x H1 => g x σ H1 D.nx
theorem ps_asg {tg e : Expr} {te : TE} {g : TG} (he : PE X e te) (hg : PG X tg g) (hs : swapsWithSole [tg] e pos.line X.env = pure false := by rfl) (hw : swappedStores [tg] e X.env = pure none := by rfl)
    (h1 : (assignEach [tg] X.env).map (·.2) = [assign tg X.env] := by rfl) : PS X (.Assign [tg] e pos) (tAsg te g) := by
  intro pins s σ H D I h
  refine wpAny_Assign_stores (thn (he pins s σ H _ I h) fun v s1 ⟨x, H1, I1, r1, q1⟩ => ?_) hs hw
  rw [h1]
  exact thn (hg pins s1 σ H1 x v _ I1 r1 q1) fun _ s2 q => q
theorem ps_set {i : Nat} {x : Str} {e : Expr} {te : TE} {pos' : Pos} (hN : X.N.Nodup) (hi : X.N[i]? = some x) (hx : Loc X.env.scope x) (he : PE X e te) (hs : swapsWith e (some (.Name x pos')) pos.line X.env = pure false := by rfl) (hf : X.fn x = true ∨ X.env.scope.names.lookup x = some .local := by first | exact .inl rfl | exact .inr rfl | assumption) :
    PS X (.Assign [.Name x pos'] e pos) (tAsg te (gName i)) := by
  intro pins s σ H D I h
  refine wpAny_Assign_Name (thn (he pins s σ H _ I h) fun v s1 ⟨y, H1, I1, r1, q1⟩ => ?_) hs
  exact store_ok I1 hN hi hx r1 (fun s2 I2 => ⟨_, H1, I2, q1⟩) hf
end
section
variable {X : Cx} {pos : Pos}
end
structure It where
  go : Nat → Hp → Prop
  yld : Nat → Hp → V → Hp → Prop
  stop : Nat → Hp → Prop
def FpOk (X : Cx) (pins : List (Addr × Obj)) (H : Hp) (b : Addr) : Prop :=
  H b = none ∧ b ≠ X.env.locals ∧ b ∉ X.fs ∧ (b ∈ X.ex ∨ X.s₀.heap.objs.size ≤ b) ∧ (∀ x c, X.env.cells.lookup x = some c → c ≠ b) ∧ ∀ p ∈ X.pn ++ pins, p.1 ≠ b
theorem Inv.fpOk {X : Cx} {pins : List (Addr × Obj)} {σ : St} {H H' : Hp} {s : Shared} {b : Addr} (I : Inv X pins σ H s) (hb : s.heap.objs.size ≤ b) (hn : H' b = none) : FpOk X pins H' b := by
  refine ⟨hn, Nat.ne_of_gt (Nat.lt_of_lt_of_le I.lt hb), I.nofs hb, .inr (Nat.le_trans I.sz hb), fun x c e z => ?_, fun p hp z => ?_⟩
  · obtain ⟨v, q⟩ := I.cell x c e
    exact absurd (Nat.lt_of_lt_of_le q.lt (by rw [z]; exact hb)) (Nat.lt_irrefl _)
  · exact absurd (Nat.lt_of_lt_of_le (Heap.lt_size (I.pin p hp).1) (by rw [z]; exact hb)) (Nat.lt_irrefl _)
structure Turn (P : Program) (w : World) (K : PySem.W.Frag) (tg : Expr) (J : It) (fp : List Addr) (it : Addr) (tn : Nat → Heap → Prop) : Prop where
  mem : it ∈ fp
  obj : ∀ i h, tn i h → ∀ b ∈ fp, ∃ o, h.get? b = some o ∧ ∀ v, o.data ≠ .cell v
  keep : ∀ i h h', tn i h → (∀ b ∈ fp, ∀ o, h.get? b = some o → h'.get? b = some o) → tn i h'
  item : ∀ (X : Cx), X.prog = P → X.w = w → X.K = K → X.calm = true → ∀ (i : Nat) (pins : List (Addr × Obj)) (s : Shared) (σ : St) (H : Hp) (E : Value → Shared → Prop), Inv X pins σ H s → (∀ b ∈ fp, FpOk X pins H b) → tn i s.heap → J.go i H →
    wpAny (model P w) X.A (pyNext (.ref it)) (fun r s1 => ∃ u, r = some u ∧
      wpAny (model P w) X.A (letOwnedTupleGo tg (.ref it) u) (fun _ s2 => ∃ x H', Inv X pins σ H' s2 ∧ RelV x u ∧ J.yld i H x H' ∧ tn (i + 1) s2.heap ∧ ∀ b ∈ fp, H' b = none) E s1) E s
  done : ∀ (X : Cx), X.prog = P → X.w = w → X.K = K → X.calm = true → ∀ (i : Nat) (pins : List (Addr × Obj)) (s : Shared) (σ : St) (H : Hp) (E : Value → Shared → Prop), Inv X pins σ H s → (∀ b ∈ fp, FpOk X pins H b) → tn i s.heap → J.stop i H →
    wpAny (model P w) X.A (pyNext (.ref it)) (fun r s1 => r = none ∧ Inv X pins σ H s1) E s
  self : ∀ (A : Around) (i : Nat) (s : Shared) (Q : Value → Shared → Prop) (E : Value → Shared → Prop), tn i s.heap → Q (.ref it) s → wpAny (model P w) A (pyIter (.ref it)) Q E s
abbrev TI := St → Hp → (It → Hp → Prop) → Prop
def PIE (X : Cx) (pins : List (Addr × Obj)) (σ : St) (tg : Expr) (R : It → Hp → Prop) (itv : Value) (s2 : Shared) : Prop :=
  ∃ (it : Addr) (fp : List Addr) (tn : Nat → Heap → Prop) (J : It) (H' : Hp), itv = .ref it ∧ Inv X pins σ H' s2 ∧ Turn X.prog X.w X.K tg J fp it tn ∧ tn 0 s2.heap ∧ (∀ b ∈ fp, FpOk X pins H' b) ∧ R J H'
def PI (X : Cx) (tg iter : Expr) (wi : TI) : Prop :=
  ∀ (pins : List (Addr × Obj)) (s : Shared) (σ : St) (H : Hp) (R : It → Hp → Prop), Inv X pins σ H s → wi σ H R →
    wpAny (model X.prog X.w) X.A (eval iter X.env) (fun v s1 => wpAny (model X.prog X.w) X.A (pyIter v) (PIE X pins σ tg R) X.xe s1) X.xe s
theorem go_of {M : Model} {A : Around} {E : Value → Shared → Prop} {s : Shared} {tg : Expr} {it : Addr} {u : Value} {o : Obj} {n : String} {vs : Array Value} {Q : Unit → Shared → Prop} (ho : s.heap.get? it = some o) (hc : o.cls = .type n) (hd : o.data = .fields vs)
    (hn : ["enumerate", "zip", "dict_itemiterator", "dict_reverseitemiterator", "odict_iterator", "itertools.zip_longest", "itertools.pairwise"].contains n = false) (hQ : Q () s) : wpAny M A (letOwnedTupleGo tg (.ref it) u) Q E s := by
  unfold letOwnedTupleGo
  cases tg <;> first
    | exact wpAny_pure hQ
    | (cases u <;> first
        | exact wpAny_pure hQ
        | (refine wpAny_bind (wpAny_load ho ?_)
           rw [hc, hd]
           show wpAny M A (if (["enumerate", "zip", "dict_itemiterator", "dict_reverseitemiterator", "odict_iterator", "itertools.zip_longest", "itertools.pairwise"].contains n && vs[0]? == some (rawInt _)) = true then _ else _) Q E s
           rw [if_neg (by intro h; rw [hn, Bool.false_and] at h; cases h)]
           exact wpAny_pure hQ))
def Itl (K : PySem.W.Frag) (a : Addr) : It :=
  ⟨fun i H => ∃ xs x, SqL K H a xs ∧ xs[i]? = some x, fun i H x H' => H' = H ∧ ∀ xs, SqL K H a xs → xs[i]? = some x, fun i H => ∃ xs, SqL K H a xs ∧ xs.length ≤ i⟩
def Itt (K : PySem.W.Frag) (a : Addr) : It :=
  ⟨fun i H => ∃ xs x, SqT K H a xs ∧ xs[i]? = some x, fun i H x H' => H' = H ∧ ∀ xs, SqT K H a xs → xs[i]? = some x, fun i H => ∃ xs, SqT K H a xs ∧ xs.length ≤ i⟩
def Itr (lo : Int) (n : Nat) : It := ⟨fun i _ => i < n, fun i H x H' => H' = H ∧ x = .int (lo + i), fun i _ => n ≤ i⟩
theorem turn_list {P : Program} {w : World} {K : PySem.W.Frag} {tg : Expr} (a it : Addr) : Turn P w K tg (Itl K a) [it] it (fun i h => h.IsListIter it a i) where
  mem := by simp
  obj := fun i h st b hb => by
    have e : b = it := by simpa using hb
    subst e
    obtain ⟨o, e, c, d⟩ := st
    exact ⟨o, e, fun v z => by rw [d] at z; cases z⟩
  keep := fun i h h' st k => st.at fun o e => k it (by simp) o e
  item := by
    intro X hP hw hK hc i pins s σ H E I hf st hg
    subst hP hw hK
    obtain ⟨xs, x, hq, hx⟩ := hg
    obtain ⟨its, rv, p, hz⟩ := I.list hq
    obtain ⟨u, hu, ru⟩ := rv.get hx
    obtain ⟨f0, f1, f2, f3, f4, f5⟩ := hf it (by simp)
    refine wpAny_pyNext_list_item st p.isList (x := u) (by simpa using hu) fun h' st' sb => ?_
    have I1 : Inv X pins σ H { s with heap := h' } := I.turned (t' := s.toks) (fun b o hb e => (sb.2 b hb).trans e) f0 f1 f3 f4 f5
    obtain ⟨o, e, c, d⟩ := id st'
    exact ⟨u, rfl, go_of (s := { s with heap := h' }) e c d (by decide) ⟨x, H, I1, ru, ⟨rfl, fun ys hy => by rw [I.list_inj hy hq]; exact hx⟩, st', fun b hb => (hf b hb).1⟩⟩
  done := by
    intro X hP hw hK hc i pins s σ H E I hf st hg
    subst hP hw hK
    obtain ⟨xs, hq, hx⟩ := hg
    obtain ⟨its, rv, p, hz⟩ := I.list hq
    obtain ⟨f0, f1, f2, f3, f4, f5⟩ := hf it (by simp)
    have hl := rv.length
    exact wpAny_pyNext_list_end (I.ok.hd hc) st p.isList (by simp; omega) fun h' eb => ⟨rfl, I.turned (t' := s.toks) (fun b o hb e => eb b o hb e) f0 f1 f3 f4 f5⟩
  self := fun _ _ _ _ _ st h => wpAny_pyIter_listiter st h
theorem turn_tuple {P : Program} {w : World} {K : PySem.W.Frag} {tg : Expr} (a it : Addr) : Turn P w K tg (Itt K a) [it] it (fun i h => h.IsTupleIter it a i) where
  mem := by simp
  obj := fun i h st b hb => by
    have e : b = it := by simpa using hb
    subst e
    obtain ⟨o, e, c, d⟩ := st
    exact ⟨o, e, fun v z => by rw [d] at z; cases z⟩
  keep := fun i h h' st k => st.at fun o e => k it (by simp) o e
  item := by
    intro X hP hw hK hc i pins s σ H E I hf st hg
    subst hP hw hK
    obtain ⟨xs, x, hq, hx⟩ := hg
    obtain ⟨its, rv, p, hz⟩ := I.tuple hq
    obtain ⟨u, hu, ru⟩ := rv.get hx
    obtain ⟨f0, f1, f2, f3, f4, f5⟩ := hf it (by simp)
    refine wpAny_pyNext_tuple_item st (show s.heap.IsTuple a its.toArray from p) (x := u) (by simpa using hu) fun h' st' sb => ?_
    have I1 : Inv X pins σ H { s with heap := h' } := I.turned (t' := s.toks) (fun b o hb e => (sb.2 b hb).trans e) f0 f1 f3 f4 f5
    obtain ⟨o, e, c, d⟩ := id st'
    exact ⟨u, rfl, go_of (s := { s with heap := h' }) e c d (by decide) ⟨x, H, I1, ru, ⟨rfl, fun ys hy => by rw [I.tuple_inj hy hq]; exact hx⟩, st', fun b hb => (hf b hb).1⟩⟩
  done := by
    intro X hP hw hK hc i pins s σ H E I hf st hg
    subst hP hw hK
    obtain ⟨xs, hq, hx⟩ := hg
    obtain ⟨its, rv, p, hz⟩ := I.tuple hq
    obtain ⟨f0, f1, f2, f3, f4, f5⟩ := hf it (by simp)
    have hl := rv.length
    exact wpAny_pyNext_tuple_end (I.ok.hd hc) st (show s.heap.IsTuple a its.toArray from p) (by simp; omega) fun h' eb => ⟨rfl, I.turned (t' := s.toks) (fun b o hb e => eb b o hb e) f0 f1 f3 f4 f5⟩
  self := fun _ _ _ _ _ st h => wpAny_pyIter_tupleiter st h
theorem turn_range {P : Program} {w : World} {K : PySem.W.Frag} {tg : Expr} (it : Addr) (lo : Int) (n : Nat) : Turn P w K tg (Itr lo n) [it] it (fun i h => IsRangeIter h it (lo + (i : Nat) * 1) ((n : Int) - (i : Nat)) 1) where
  mem := by simp
  obj := fun i h st b hb => by
    have e : b = it := by simpa using hb
    subst e
    exact ⟨_, st, fun v z => by
      have z' : Data.fields _ = Data.cell v := z
      cases z'⟩
  keep := fun i h h' st k => k it (by simp) _ st
  item := by
    intro X hP hw hK hc i pins s σ H E I hf st hg
    subst hP hw hK
    obtain ⟨f0, f1, f2, f3, f4, f5⟩ := hf it (by simp)
    have W := Walks.range (prog := X.prog) (w := X.w) (I.ok.hd hc) it lo 1 n
    refine W.item i s _ _ hg st fun v h' tk hv st' kk => ?_
    obtain ⟨t, rfl⟩ := hv
    have I1 : Inv X pins σ H { s with heap := h', toks := tk } := I.turned (fun b o hb e => kk b o (by simpa using hb) e) f0 f1 f3 f4 f5
    refine ⟨_, rfl, go_of (s := { s with heap := h', toks := tk }) (n := "range_iterator") st' rfl rfl (by decide) ⟨.int (lo + i), H, I1, ⟨t, ?_⟩, ⟨rfl, rfl⟩, st', fun b hb => (hf b hb).1⟩⟩
    rw [Int.mul_one]
  done := by
    intro X hP hw hK hc i pins s σ H E I hf st hg
    subst hP hw hK
    obtain ⟨f0, f1, f2, f3, f4, f5⟩ := hf it (by simp)
    exact wpAny_pyNext_range_end (I.ok.hd hc) st (by have : n ≤ i := hg; omega) fun h' eb => ⟨rfl, I.turned (t' := s.toks) (fun b o hb e => eb b o hb e) f0 f1 f3 f4 f5⟩
  self := fun _ _ _ _ _ st h => wpAny_pyIter_rangeiter st h
end L2
namespace L2
open PySem PySem.Spec PyProof.Rows
section
variable {X : Cx} {tg : Expr}
theorem range_it {pins : List (Addr × Obj)} {σ : St} {H : Hp} {s : Shared} {R : It → Hp → Prop} {E : Value → Shared → Prop} {lo hi : Int} {t u v : Tok} {tk : Nat} (I : Inv X pins σ H s) (h1 : -(2 ^ 62) ≤ lo) (h2 : lo < 2 ^ 62) (h3 : -(2 ^ 62) ≤ hi) (h4 : hi < 2 ^ 62)
    (q : R (Itr lo (hi - lo).toNat) H) : wpAny (model X.prog X.w) X.A (pyIter (.ref s.heap.objs.size)) (PIE X pins σ tg R) E { s with heap := s.heap.push { cls := .type "range", data := .fields #[.int lo t, .int hi u, .int 1 v] }, toks := tk } := by
  refine wpAny_pyIter_range (IsRange.new ..) (small_one h1 h2 h3 h4) ?_
  have I1 : Inv X pins σ H { s with heap := s.heap.push { cls := .type "range", data := .fields #[.int lo t, .int hi u, .int 1 v] }, toks := tk } := I.kept fun b o e => Heap.get?_push_of_some _ e
  refine ⟨(s.heap.push { cls := .type "range", data := .fields #[.int lo t, .int hi u, .int 1 v] }).objs.size, [(s.heap.push { cls := .type "range", data := .fields #[.int lo t, .int hi u, .int 1 v] }).objs.size], _, _, H, rfl,
    I1.kept (t' := tk) fun b o e => Heap.get?_push_of_some _ e, turn_range _ lo (hi - lo).toNat, ?_, fun b hb => ?_, q⟩
  · have e1 : lo + ((0 : Nat) : Int) * 1 = lo := by simp
    have e2 : (((hi - lo).toNat : Nat) : Int) - ((0 : Nat) : Int) = Builtin.Range.rangeSize lo hi 1 := by rw [rangeSize_one]; split <;> omega
    show IsRangeIter _ _ (lo + ((0 : Nat) : Int) * 1) ((((hi - lo).toNat : Nat) : Int) - ((0 : Nat) : Int)) 1
    rw [e1, e2]
    exact Heap.get?_push_size _ rfl
  · have e : b = (s.heap.push { cls := .type "range", data := .fields #[.int lo t, .int hi u, .int 1 v] }).objs.size := by simpa using hb
    subst e
    exact I1.fpOk (Nat.le_refl _) (I1.hok.fresh (Nat.le_refl _))
def iRng1 (ta : TA) : TI := fun σ H R => ta σ H fun vs H1 => ∃ j : Int, vs = [.int j] ∧ -(2 ^ 62) ≤ j ∧ j < 2 ^ 62 ∧ R (Itr 0 j.toNat) H1
theorem pi_range1 {a : Expr} {ta : TA} {p pos : Pos} (hg : Gl X "range") (hm : X.mg "range" = none) (ha : PA X [a] ta) (hs : starEach [a] X.env = [(false, eval a X.env)] := by rfl) : PI X tg (.Call (.Name "range" p) [a] [] pos) (iRng1 ta) := by
  intro pins s σ H R I h
  refine Call_ (ld_blt I hg hm boot_range (PyProof.Rows.callWith_type1 (thn (ha pos pins s σ H _ I h) fun us s1 ⟨vs, H1, I1, r1, q1⟩ => ?_) hs rfl))
  obtain ⟨j, e, q1, q2, q⟩ := q1
  subst e
  cases r1 with
  | cons r rr =>
    cases rr
    obtain ⟨t, rfl⟩ := r
    exact call_range_1 (range_it I1 (by omega) (by omega) q1 q2 (by simpa using q))
def tFor (wi : TI) (g : TG) (tb : TS) : TS := fun D σ H => wi σ H fun J H1 => ∃ W : Nat → Nat → St → Hp → Prop, (∃ m, W 0 m σ H1) ∧ ∀ i m σ H, W i m σ H →
  (J.stop i H ∧ D.nx σ H) ∨ (J.go i H ∧ ∃ N : St → Hp → Prop, (∀ σ' H', N σ' H' → ∃ m', m' < m ∧ W (i + 1) m' σ' H') ∧ ∀ x H', J.yld i H x H' → g x σ H' fun σ2 H2 => tb { D with nx := N, ct := N, bk := D.nx } σ2 H2)
def pinsAt (fp : List Addr) (h : Heap) : List (Addr × Obj) := fp.filterMap fun b => (h.get? b).map fun o => (b, o)
theorem mem_pinsAt {fp : List Addr} {h : Heap} {b : Addr} {o : Obj} (hb : b ∈ fp) (e : h.get? b = some o) : (b, o) ∈ pinsAt fp h := List.mem_filterMap.mpr ⟨b, hb, by rw [e]; rfl⟩
theorem of_pinsAt {fp : List Addr} {h : Heap} {p : Addr × Obj} (hp : p ∈ pinsAt fp h) : p.1 ∈ fp ∧ h.get? p.1 = some p.2 := by
  obtain ⟨b, hb, e⟩ := List.mem_filterMap.mp hp
  cases q : h.get? b with
  | none => rw [q] at e; cases e
  | some o =>
    rw [q] at e
    have e' : (b, o) = p := Option.some.inj e
    subst e'
    exact ⟨hb, q⟩
theorem Inv.pinned {pins : List (Addr × Obj)} {σ : St} {H : Hp} {s : Shared} {fp : List Addr} (I : Inv X pins σ H s) (hf : ∀ b ∈ fp, FpOk X pins H b) (ho : ∀ b ∈ fp, ∃ o, s.heap.get? b = some o ∧ ∀ v, o.data ≠ .cell v) : Inv X (pins ++ pinsAt fp s.heap) σ H s :=
  I.pins_of fun p hp => (List.mem_append.mp hp).elim (fun z => I.pin p (List.mem_append_right _ z)) fun z => by
    obtain ⟨hb, e⟩ := of_pinsAt z
    obtain ⟨f0, f1, f2, _⟩ := hf p.1 hb
    obtain ⟨o, e', d⟩ := ho p.1 hb
    rw [e] at e'; cases e'
    exact ⟨e, f0, f1, f2, d⟩
theorem Inv.unpinned {pins pl : List (Addr × Obj)} {σ : St} {H : Hp} {s : Shared} (I : Inv X (pins ++ pl) σ H s) : Inv X pins σ H s := I.pins_of fun p hp => I.pin p (List.mem_append_right _ (List.mem_append_left _ hp))
theorem ps_for {iter : Expr} {body : List Stmt} {wi : TI} {g : TG} {tb : TS} {pos : Pos} (hp : PassesOwn (model X.prog X.w) X.A X.env X.xe) (hc : X.calm = true) (hi : PI X tg iter wi) (hg : PG X tg g) (hb : PSs X body tb)
    (hs : ∀ x, foldedSetIterable iter X.env x = pure x := by intro _; rfl) : PS X (.For tg iter body [] pos) (tFor wi g tb) := by
  intro pins s σ H D I h
  refine wpAny_For (thn (hi pins s σ H _ I h) fun v s1 h1 => thn h1 fun itv s2 h2 => ?_) hs
  obtain ⟨it, fp, tn, J, H2, e, I2, T, st2, f2, W, ⟨m0, w0⟩, turn⟩ := h2
  subst e
  have stat : ∀ {H' : Hp}, (∀ b ∈ fp, H' b = none) → ∀ b ∈ fp, FpOk X pins H' b := fun hn b hb => ⟨hn b hb, (f2 b hb).2⟩
  refine codeAny_forLoop_any (fun n s' => ∃ i σ' H', Inv X pins σ' H' s' ∧ tn i s'.heap ∧ (∀ b ∈ fp, H' b = none) ∧ W i n σ' H') ?_ m0 ⟨0, σ, H2, I2, st2, fun b hb => (f2 b hb).1, w0⟩
  rintro n s3 ⟨i, σ3, H3, I3, st3, fr3, w3⟩
  rcases turn i n σ3 H3 w3 with ⟨stop, qn⟩ | ⟨go, N, hN, step⟩
  · refine wpAny_passesOwn hp (thn (T.done X rfl rfl rfl hc i pins s3 σ3 H3 X.xe I3 (stat fr3) st3 stop) fun r s4 ⟨hr, I4⟩ => ?_)
    subst hr
    exact wpAny_execs_nil ⟨σ3, H3, I4, qn⟩
  · refine wpAny_passesOwn hp (thn (T.item X rfl rfl rfl hc i pins s3 σ3 H3 X.xe I3 (stat fr3) st3 go) fun r s4 ⟨u, hr, h4⟩ => ?_)
    subst hr
    refine wpAny_passesOwn hp (thn h4 fun _ s5 ⟨x, H5, I5, r5, y5, st5, fr5⟩ => ?_)
    have I5' := I5.pinned (stat fr5) (T.obj _ _ st5)
    refine wpAny_passesOwn hp (thn (hg _ s5 σ3 H5 x u _ I5' r5 (step x H5 y5)) fun _ s6 ⟨σ6, H6, I6, q6⟩ => ?_)
    refine wpAny_passesOwn hp (thn (hb _ s6 σ6 H6 _ I6 q6) fun f s7 q7 => ?_)
    have again : ∀ {σ7 : St} {H7 : Hp}, Inv X (pins ++ pinsAt fp s5.heap) σ7 H7 s7 → N σ7 H7 → ∃ m, m < n ∧ ∃ i σ' H', Inv X pins σ' H' s7 ∧ tn i s7.heap ∧ (∀ b ∈ fp, H' b = none) ∧ W i m σ' H' := fun {σ7 H7} I7 n7 => by
      obtain ⟨m', hm, w7⟩ := hN σ7 H7 n7
      refine ⟨m', hm, i + 1, σ7, H7, I7.unpinned, T.keep _ _ _ st5 fun b hb o e => (I7.pin (b, o) (List.mem_append_right _ (List.mem_append_right _ (mem_pinsAt hb e)))).1, fun b hb => ?_, w7⟩
      obtain ⟨o, e, d⟩ := T.obj _ _ st5 b hb
      exact (I7.pin (b, o) (List.mem_append_right _ (List.mem_append_right _ (mem_pinsAt hb e)))).2.1
    cases f with
    | next => obtain ⟨σ7, H7, I7, n7⟩ := q7; exact again I7 n7
    | cont => obtain ⟨σ7, H7, I7, n7⟩ := q7; exact again I7 n7
    | brk => obtain ⟨σ7, H7, I7, q7⟩ := q7; exact ⟨σ7, H7, I7.unpinned, q7⟩
    | ret v => obtain ⟨x7, σ7, H7, I7, r7, q7⟩ := q7; exact ⟨x7, σ7, H7, I7.unpinned, r7, q7⟩
end
end L2
namespace L2
open PySem PySem.Spec PyProof.Rows
abbrev R2 := V → V → Hp → VK → Prop
def OpR (X : Cx) (f : Value → Value → Sem Value) (r : R2) : Prop :=
  ∀ (pins : List (Addr × Obj)) (s : Shared) (σ : St) (H : Hp) (x y : V) (v u : Value) (Q : VK), Inv X pins σ H s → RelV x v → RelV y u → r x y H Q →
    wpAny (model X.prog X.w) X.A (f v u) (EP X pins σ Q) X.xe s
def UnR (X : Cx) (f : Value → Sem Value) (r : V → Hp → VK → Prop) : Prop :=
  ∀ (pins : List (Addr × Obj)) (s : Shared) (σ : St) (H : Hp) (x : V) (v : Value) (Q : VK), Inv X pins σ H s → RelV x v → r x H Q →
    wpAny (model X.prog X.w) X.A (f v) (EP X pins σ Q) X.xe s
def CallR (X : Cx) (f : Value) (r : List V → Hp → VK → Prop) : Prop :=
  ∀ (pins : List (Addr × Obj)) (s : Shared) (σ : St) (H : Hp) (xs : List V) (us : List Value) (Q : VK), Inv X pins σ H s → Vals xs us → r xs H Q →
    wpAny (model X.prog X.w) X.A (call f us) (EP X pins σ Q) X.xe s
def tOp (r : R2) (ta tb : TE) : TE := fun σ H Q => ta σ H fun x H1 => tb σ H1 fun y H2 => r x y H2 Q
def tUn (r : V → Hp → VK → Prop) (ta : TE) : TE := fun σ H Q => ta σ H fun x H1 => r x H1 Q
def rI (C : Int → Int → Prop) (g : Int → Int → V) : R2 := fun x y H Q => ∃ i j, x = .int i ∧ y = .int j ∧ C i j ∧ Q (g i j) H
def rI0 (g : Int → Int → V) : R2 := fun x y H Q => ∃ i j, x = .int i ∧ y = .int j ∧ Q (g i j) H
def rU (g : Int → V) : V → Hp → VK → Prop := fun x H Q => ∃ i, x = .int i ∧ Q (g i) H
section
variable {X : Cx} {a b c : Expr} {ta tb tc : TE} {pos : Pos}
theorem binT (ha : PE X a ta) (hb : PE X b tb) {pins : List (Addr × Obj)} {s : Shared} {σ : St} {H : Hp} {R : V → V → Hp → Prop} (I : Inv X pins σ H s)
    (h : ta σ H fun x H1 => tb σ H1 fun y H2 => R x y H2) {Q : Value → Shared → Prop} {f : Value → Value → Sem Value}
    (hf : ∀ v u s2 x y H2, Inv X pins σ H2 s2 → RelV x v → RelV y u → R x y H2 → wpAny (model X.prog X.w) X.A (f v u) Q X.xe s2) :
    wpAny (model X.prog X.w) X.A (eval a X.env) (fun v s₁ => wpAny (model X.prog X.w) X.A (eval b X.env) (fun u s₂ => wpAny (model X.prog X.w) X.A (f v u) Q X.xe s₂) X.xe s₁) X.xe s := by
  refine thn (ha pins s σ H _ I h) fun v s1 ⟨x, H1, I1, r1, q1⟩ => ?_
  refine thn (hb pins s1 σ H1 _ I1 q1) fun u s2 ⟨y, H2, I2, r2, q2⟩ => ?_
  exact hf v u s2 x y H2 I2 r1 r2 q2
theorem pe_op {op : Operator} {r : R2} (ho : OpR X (binaryOp op) r) (ha : PE X a ta) (hb : PE X b tb) : PE X (.BinOp a op b pos) (tOp r ta tb) := by
  intro pins s σ H Q I h
  exact wpAny_BinOp (binT ha hb I h fun v u s2 x y H2 I2 rx ry q => ho pins s2 σ H2 x y v u Q I2 rx ry q)
theorem pe_un {op : UnaryOp} {r : V → Hp → VK → Prop} (ho : UnR X (unaryOp op) r) (ha : PE X a ta) : PE X (.UnaryOp op a pos) (tUn r ta) := by
  intro pins s σ H Q I h
  exact UnaryOp_ (thn (ha pins s σ H _ I h) fun v s1 ⟨x, H1, I1, r1, q1⟩ => ho pins s1 σ H1 x v Q I1 r1 q1)
theorem opI {f : Value → Value → Sem Value} {C : Int → Int → Prop} {g : Int → Int → Int}
    (rule : ∀ (i j : Int) (t u : Tok) (s : Shared) (Q : Value → Shared → Prop) (E : Value → Shared → Prop), C i j → Q (.int (g i j) s.toks) { s with toks := s.toks + 1 } → wpAny (model X.prog X.w) X.A (f (.int i t) (.int j u)) Q E s) :
    OpR X f (rI C fun i j => .int (g i j)) := by
  intro pins s σ H x y v u Q I rx ry h
  obtain ⟨i, j, rfl, rfl, hc, q⟩ := h
  obtain ⟨t, rfl⟩ := rx
  obtain ⟨t', rfl⟩ := ry
  exact rule i j t t' s _ _ hc ⟨.int (g i j), H, I.tok _, ⟨_, rfl⟩, q⟩
theorem opI0 {f : Value → Value → Sem Value} {g : Int → Int → Int}
    (rule : ∀ (i j : Int) (t u : Tok) (s : Shared) (Q : Value → Shared → Prop) (E : Value → Shared → Prop), Q (.int (g i j) s.toks) { s with toks := s.toks + 1 } → wpAny (model X.prog X.w) X.A (f (.int i t) (.int j u)) Q E s) :
    OpR X f (rI0 fun i j => .int (g i j)) := by
  intro pins s σ H x y v u Q I rx ry h
  obtain ⟨i, j, rfl, rfl, q⟩ := h
  obtain ⟨t, rfl⟩ := rx
  obtain ⟨t', rfl⟩ := ry
  exact rule i j t t' s _ _ ⟨.int (g i j), H, I.tok _, ⟨_, rfl⟩, q⟩
theorem opB0 {f : Value → Value → Sem Value} {g : Int → Int → Bool}
    (rule : ∀ (i j : Int) (t u : Tok) (s : Shared) (Q : Value → Shared → Prop) (E : Value → Shared → Prop), Q (.bool (g i j)) s → wpAny (model X.prog X.w) X.A (f (.int i t) (.int j u)) Q E s) :
    OpR X f (rI0 fun i j => .bl (g i j)) := by
  intro pins s σ H x y v u Q I rx ry h
  obtain ⟨i, j, rfl, rfl, q⟩ := h
  obtain ⟨t, rfl⟩ := rx
  obtain ⟨t', rfl⟩ := ry
  exact rule i j t t' s _ _ ⟨.bl (g i j), H, I, rfl, q⟩
def CDiv (i j : Int) : Prop := 0 < j ∧ j < 1073741824
def CPow (i j : Int) : Prop := 0 ≤ j ∧ j ≤ 1000000 ∧ i.natAbs < 2 ^ 64
def CMul (i j : Int) : Prop := (-(2 ^ 64) < i ∧ i < 2 ^ 64) ∨ (-(2 ^ 64) < j ∧ j < 2 ^ 64)
theorem CMul.ok {i j : Int} (h : CMul i j) : IntMulOk i j := by
  rcases h with ⟨h1, h2⟩ | ⟨h1, h2⟩
  · exact .of_left (intBits_le_64 h1 h2)
  · exact .of_right (intBits_le_64 h1 h2)
theorem op_add : OpR X (binaryOp .Add) (rI0 fun i j => .int (i + j)) := opI0 fun _ _ _ _ _ _ _ q => add_int q
theorem op_sub : OpR X (binaryOp .Sub) (rI0 fun i j => .int (i - j)) := opI0 fun _ _ _ _ _ _ _ q => sub_int q
theorem op_mul : OpR X (binaryOp .Mult) (rI CMul fun i j => .int (i * j)) := opI fun _ _ _ _ _ _ _ hc q => mul_int q hc.ok
theorem op_mod : OpR X (binaryOp .Mod) (rI (fun _ j => 0 < j) fun i j => .int (i % j)) := opI fun i j _ _ _ _ _ hc q => by
  have h1 : (0 : Int) < j := hc
  exact mod_int' (by omega) (by rw [Int.fmod_eq_emod_of_nonneg i (by omega)]; exact q)
theorem op_pow : OpR X (binaryOp .Pow) (rI CPow fun i j => .int (i ^ j.toNat)) := opI fun _ _ _ _ _ _ _ hc q => pow_int_small hc.1 hc.2.1 hc.2.2 q
theorem unI {f : Value → Sem Value} {g : Int → Int}
    (rule : ∀ (i : Int) (t : Tok) (s : Shared) (Q : Value → Shared → Prop) (E : Value → Shared → Prop), Q (.int (g i) s.toks) { s with toks := s.toks + 1 } → wpAny (model X.prog X.w) X.A (f (.int i t)) Q E s) :
    UnR X f (rU fun i => .int (g i)) := by
  intro pins s σ H x v Q I rx h
  obtain ⟨i, rfl, q⟩ := h
  obtain ⟨t, rfl⟩ := rx
  exact rule i t s _ _ ⟨.int (g i), H, I.tok _, ⟨_, rfl⟩, q⟩
theorem un_neg : UnR X (unaryOp .USub) (rU fun i => .int (-i)) := unI fun _ _ _ _ _ q => neg_int q
end
def scal : V → V → Bool
  | .non, .non => true | .non, .int _ => true | .int _, .non => true | .non, .bl _ => true | .bl _, .non => true | .non, .str _ => true | .str _, .non => true
  | .int _, .int _ => true | .bl _, .bl _ => true | .str _, .str _ => true | .byt _, .byt _ => true
  | .int _, .str _ => true | .str _, .int _ => true | .bl _, .str _ => true | .str _, .bl _ => true
  | _, _ => false
def rEq : R2 := fun x y H Q => scal x y = true ∧ Q (.bl (decide (x = y))) H
def rNe : R2 := fun x y H Q => scal x y = true ∧ Q (.bl (!decide (x = y))) H
theorem dec_int {i j : Int} : decide (V.int i = V.int j) = (i == j) := by
  rw [Bool.eq_iff_iff]
  simp
theorem dec_bl {i j : Bool} : decide (V.bl i = V.bl j) = (i == j) := by
  rw [Bool.eq_iff_iff]
  simp
theorem dec_str {i j : Str} : decide (V.str i = V.str j) = (i == j) := by
  rw [Bool.eq_iff_iff]
  simp
theorem dec_byt {i j : Array UInt8} : decide (V.byt i = V.byt j) = (i.toList == j.toList) := by
  rw [Bool.eq_iff_iff]
  cases i
  cases j
  simp
section
variable {X : Cx} {a b c : Expr} {ta tb tc : TE} {pos : Pos}
theorem fin_bl {pins : List (Addr × Obj)} {σ : St} {H : Hp} {s : Shared} {Q : VK} {k k' : Bool} (I : Inv X pins σ H s) (q : Q (.bl k) H) (e : k = k') : EP X pins σ Q (.bool k') s := by
  subst e
  exact ⟨.bl k, H, I, rfl, q⟩
theorem op_eq : OpR X (compareOp .Eq) rEq := by
  intro pins s σ H x y v u Q I rx ry h
  obtain ⟨hs, q⟩ := h
  cases x with
  | non =>
    cases rx
    cases y with
    | non => cases ry; exact PySem.EqNone.eq_none_none (fin_bl I q (by simp))
    | bl j => cases ry; exact PySem.EqNone.eq_none_bool (fin_bl I q (by simp))
    | int j => obtain ⟨t', rfl⟩ := ry; exact PySem.EqNone.eq_none_int (fin_bl I q (by simp))
    | str j => obtain ⟨t', rfl⟩ := ry; exact PySem.EqNone.eq_none_str (fin_bl I q (by simp))
    | _ => exact absurd (show false = true from hs) Bool.false_ne_true
  | bl i =>
    cases rx
    cases y with
    | non => cases ry; exact PySem.EqNone.eq_bool_none (fin_bl I q (by simp))
    | bl j => cases ry; exact eq_bool (fin_bl I q dec_bl)
    | str j => obtain ⟨t', rfl⟩ := ry; exact PySem.EqMixed.eq_bool_str (fin_bl I q (by simp))
    | _ => exact absurd (show false = true from hs) Bool.false_ne_true
  | int i =>
    obtain ⟨t, rfl⟩ := rx
    cases y with
    | non => cases ry; exact PySem.EqNone.eq_int_none (fin_bl I q (by simp))
    | int j => obtain ⟨t', rfl⟩ := ry; exact eq_int (fin_bl I q dec_int)
    | str j => obtain ⟨t', rfl⟩ := ry; exact PySem.EqMixed.eq_int_str (fin_bl I q (by simp))
    | _ => exact absurd (show false = true from hs) Bool.false_ne_true
  | str i =>
    obtain ⟨t, rfl⟩ := rx
    cases y with
    | non => cases ry; exact PySem.EqNone.eq_str_none (fin_bl I q (by simp))
    | bl j => cases ry; exact PySem.EqMixed.eq_str_bool (fin_bl I q (by simp))
    | int j => obtain ⟨t', rfl⟩ := ry; exact PySem.EqMixed.eq_str_int (fin_bl I q (by simp))
    | str j => obtain ⟨t', rfl⟩ := ry; exact eq_str (fin_bl I q dec_str)
    | _ => exact absurd (show false = true from hs) Bool.false_ne_true
  | byt i =>
    obtain ⟨t, rfl⟩ := rx
    cases y with
    | byt j => obtain ⟨t', rfl⟩ := ry; exact PySem.W.eq_bytes (fin_bl I q dec_byt)
    | _ => exact absurd (show false = true from hs) Bool.false_ne_true
  | _ => cases y <;> exact absurd (show false = true from hs) Bool.false_ne_true
theorem op_ne : OpR X (compareOp .NotEq) rNe := by
  intro pins s σ H x y v u Q I rx ry h
  obtain ⟨hs, q⟩ := h
  cases x with
  | non =>
    cases rx
    cases y with
    | non => cases ry; exact PySem.EqNone.ne_none_none (fin_bl I q (by simp))
    | bl j => cases ry; exact PySem.EqNone.ne_none_bool (fin_bl I q (by simp))
    | int j => obtain ⟨t', rfl⟩ := ry; exact PySem.EqNone.ne_none_int (fin_bl I q (by simp))
    | str j => obtain ⟨t', rfl⟩ := ry; exact PySem.EqNone.ne_none_str (fin_bl I q (by simp))
    | _ => exact absurd (show false = true from hs) Bool.false_ne_true
  | bl i =>
    cases rx
    cases y with
    | non => cases ry; exact PySem.EqNone.ne_bool_none (fin_bl I q (by simp))
    | bl j => cases ry; exact ne_bool (fin_bl I q (congrArg not dec_bl))
    | str j => obtain ⟨t', rfl⟩ := ry; exact PySem.EqMixed.ne_bool_str (fin_bl I q (by simp))
    | _ => exact absurd (show false = true from hs) Bool.false_ne_true
  | int i =>
    obtain ⟨t, rfl⟩ := rx
    cases y with
    | non => cases ry; exact PySem.EqNone.ne_int_none (fin_bl I q (by simp))
    | int j => obtain ⟨t', rfl⟩ := ry; exact ne_int (fin_bl I q (congrArg not dec_int))
    | str j => obtain ⟨t', rfl⟩ := ry; exact PySem.EqMixed.ne_int_str (fin_bl I q (by simp))
    | _ => exact absurd (show false = true from hs) Bool.false_ne_true
  | str i =>
    obtain ⟨t, rfl⟩ := rx
    cases y with
    | non => cases ry; exact PySem.EqNone.ne_str_none (fin_bl I q (by simp))
    | bl j => cases ry; exact PySem.EqMixed.ne_str_bool (fin_bl I q (by simp))
    | int j => obtain ⟨t', rfl⟩ := ry; exact PySem.EqMixed.ne_str_int (fin_bl I q (by simp))
    | str j => obtain ⟨t', rfl⟩ := ry; exact ne_str (fin_bl I q (congrArg not dec_str))
    | _ => exact absurd (show false = true from hs) Bool.false_ne_true
  | byt i =>
    obtain ⟨t, rfl⟩ := rx
    cases y with
    | byt j => obtain ⟨t', rfl⟩ := ry; exact PySem.W.ne_bytes (fin_bl I q (congrArg not dec_byt))
    | _ => exact absurd (show false = true from hs) Bool.false_ne_true
  | _ => cases y <;> exact absurd (show false = true from hs) Bool.false_ne_true
theorem op_lt : OpR X (compareOp .Lt) (rI0 fun i j => .bl (decide (i < j))) := opB0 fun _ _ _ _ _ _ _ q => lt_int q
theorem op_le : OpR X (compareOp .LtE) (rI0 fun i j => .bl (decide (i ≤ j))) := opB0 fun _ _ _ _ _ _ _ q => le_int q
theorem op_gt : OpR X (compareOp .Gt) (rI0 fun i j => .bl (decide (j < i))) := opB0 fun _ _ _ _ _ _ _ q => gt_int q
theorem op_lt_str : OpR X (compareOp .Lt) (fun x y H Q => ∃ i j, x = .str i ∧ y = .str j ∧ Q (.bl (decide (i.cps.toList < j.cps.toList))) H) := by
  intro pins s σ H x y v u Q I rx ry h
  obtain ⟨i, j, rfl, rfl, q⟩ := h
  obtain ⟨t, rfl⟩ := rx
  obtain ⟨t', rfl⟩ := ry
  exact lt_str (fin_bl I q rfl)
theorem op_in_str : OpR X (compareOp .In) (fun x y H Q => ∃ i j, x = .str i ∧ y = .str j ∧ Q (.bl (!(Builtin.Str.occurrences j i 0 j.length 1).isEmpty)) H) := by
  intro pins s σ H x y v u Q I rx ry h
  obtain ⟨i, j, rfl, rfl, q⟩ := h
  obtain ⟨t, rfl⟩ := rx
  obtain ⟨t', rfl⟩ := ry
  exact in_str (fin_bl I q rfl)
theorem op_isN : OpR X (compareOp .Is) (fun x y H Q => y = .non ∧ Q (.bl (decide (x = .non))) H) := by
  intro pins s σ H x y v u Q I rx ry h
  obtain ⟨rfl, q⟩ := h
  cases ry
  refine is_none_gen (fin_bl I q ?_)
  cases x <;> first
    | (cases rx; rfl)
    | (obtain ⟨t, rfl⟩ := rx; rfl)
theorem op_notN : OpR X (compareOp .IsNot) (fun x y H Q => y = .non ∧ Q (.bl (!decide (x = .non))) H) := by
  intro pins s σ H x y v u Q I rx ry h
  obtain ⟨rfl, q⟩ := h
  cases ry
  refine isnot_none_gen (fin_bl I q ?_)
  cases x <;> first
    | (cases rx; rfl)
    | (obtain ⟨t, rfl⟩ := rx; rfl)
theorem pe_cmpR {op : CmpOp} {r : R2} (ho : OpR X (compareOp op) r) (ha : PE X a ta) (hb : PE X b tb) (hm : behindInMarks op b = false) : PE X (.Compare a [op] [b] pos) (tOp r ta tb) := by
  intro pins s σ H Q I h
  exact wpAny_Compare1 (binT ha hb I h fun v u s2 x y H2 I2 rx ry q => ho pins s2 σ H2 x y v u Q I2 rx ry q) hm
def tTest (t : TE) : TT := fun σ H Q => t σ H fun x H' => ∃ k, x = .bl k ∧ Q k H'
theorem pt_cmpR {op : CmpOp} {r : R2} (ho : OpR X (compareOp op) r) (ha : PE X a ta) (hb : PE X b tb) (hm : behindInMarks op b = false) : PT X (.Compare a [op] [b] pos) (tTest (tOp r ta tb)) := by
  intro pins s σ H Q I h
  refine wpAny_isTrue_Compare1 (thn (ha pins s σ H _ I h) fun v s1 ⟨x, H1, I1, r1, q1⟩ => thn (hb pins s1 σ H1 _ I1 q1) fun u s2 ⟨y, H2, I2, r2, q2⟩ =>
    thn (ho pins s2 σ H2 x y v u _ I2 r1 r2 q2) fun c s3 ⟨z, H3, I3, r3, k, e, q3⟩ => ?_) hm
  subst e
  cases r3
  exact wpAny_truthy_bool ⟨H3, I3, q3⟩
def tChain (r r' : R2) (ta tb tc : TE) : TE := fun σ H Q => ta σ H fun x H1 => tb σ H1 fun y H2 => r x y H2 fun z H3 => ∃ k, z = .bl k ∧
  (if k = true then tc σ H3 fun w' H4 => r' y w' H4 Q else Q (.bl false) H3)
theorem pe_chain {op op' : CmpOp} {r r' : R2} (ho : OpR X (compareOp op) r) (ho' : OpR X (compareOp op') r') (ha : PE X a ta) (hb : PE X b tb) (hc : PE X c tc)
    (hm : lastMarks [op, op'] [b, c] = false := by with_unfolding_all rfl) : PE X (.Compare a [op, op'] [b, c] pos) (tChain r r' ta tb tc) := by
  intro pins s σ H Q I h
  refine Compare_chain (thn (ha pins s σ H _ I h) fun v s1 ⟨x, H1, I1, r1, q1⟩ => chain_link (thn (hb pins s1 σ H1 _ I1 q1) fun u s2 ⟨y, H2, I2, r2, q2⟩ =>
    thn (ho pins s2 σ H2 x y v u _ I2 r1 r2 q2) fun d s3 ⟨z, H3, I3, r3, k, e, q3⟩ => ?_)) hm
  subst e
  cases r3
  refine wpAny_truthy_bool ?_
  cases k with
  | false => exact ite_ff ⟨.bl false, H3, I3, rfl, q3⟩
  | true => exact ite_tt (chain_last (thn (hc pins s3 σ H3 _ I3 q3) fun w' s4 ⟨z', H4, I4, r4, q4⟩ => ho' pins s4 σ H4 y z' u w' Q I4 r2 r4 q4))
theorem pt_chain {op op' : CmpOp} {r r' : R2} (ho : OpR X (compareOp op) r) (ho' : OpR X (compareOp op') r') (ha : PE X a ta) (hb : PE X b tb) (hc : PE X c tc)
    (hm : lastMarks [op, op'] [b, c] = false := by with_unfolding_all rfl) : PT X (.Compare a [op, op'] [b, c] pos) (tTest (tChain r r' ta tb tc)) := by
  intro pins s σ H Q I h
  refine isTrue_chain (thn (ha pins s σ H _ I h) fun v s1 ⟨x, H1, I1, r1, q1⟩ => test_link (thn (hb pins s1 σ H1 _ I1 q1) fun u s2 ⟨y, H2, I2, r2, q2⟩ =>
    thn (ho pins s2 σ H2 x y v u _ I2 r1 r2 q2) fun d s3 ⟨z, H3, I3, r3, k, e, q3⟩ => ?_)) hm
  subst e
  cases r3
  refine wpAny_truthy_bool ?_
  cases k with
  | false =>
    obtain ⟨k', e', q'⟩ := q3
    cases e'
    exact ite_ff ⟨H3, I3, q'⟩
  | true =>
    refine ite_tt (test_last (thn (hc pins s3 σ H3 _ I3 q3) fun w' s4 ⟨z', H4, I4, r4, q4⟩ => thn (ho' pins s4 σ H4 y z' u w' _ I4 r2 r4 q4) fun d' s5 ⟨z2, H5, I5, r5, k2, e2, q5⟩ => ?_))
    subst e2
    cases r5
    exact wpAny_truthy_bool ⟨H5, I5, q5⟩
theorem line63 : (sizeLine : Nat) < 2 ^ 63 := by rw [sizeLine_eq]; decide
theorem op_add_str : OpR X (binaryOp .Add) (fun x y H Q => ∃ i j, x = .str i ∧ y = .str j ∧ i.length + j.length ≤ sizeLine ∧ Q (.str (i ++ j)) H) := by
  intro pins s σ H x y v u Q I rx ry h
  obtain ⟨i, j, rfl, rfl, hz, q⟩ := h
  obtain ⟨t, rfl⟩ := rx
  obtain ⟨t', rfl⟩ := ry
  exact add_str (fun t' tk => ⟨.str (i ++ j), H, I.tok _, ⟨_, rfl⟩, q⟩) hz
theorem vals1 {x : V} {us : List Value} (r : Vals [x] us) : ∃ u, us = [u] ∧ RelV x u := by
  cases r with
  | cons r1 r2 => cases r2; exact ⟨_, rfl, r1⟩
theorem vals2 {x y : V} {us : List Value} (r : Vals [x, y] us) : ∃ u w', us = [u, w'] ∧ RelV x u ∧ RelV y w' := by
  cases r with
  | cons r1 r2 =>
    cases r2 with
    | cons r3 r4 => cases r4; exact ⟨_, _, rfl, r1, r3⟩
theorem call_divmod : CallR X (.builtin "divmod") (fun xs H Q => ∃ i j, xs = [.int i, .int j] ∧ CDiv i j ∧ ∀ p, H p = none → Q (.ref p) (upd H p (.tup [.int (i / j), .int (i % j)]))) := by
  intro pins s σ H xs us Q I r h
  obtain ⟨i, j, rfl, ⟨h1, h2⟩, q⟩ := h
  obtain ⟨u, w', rfl, ⟨t, rfl⟩, ⟨t', rfl⟩⟩ := vals2 r
  refine divmod_int (by omega) ?_ (.inl (PyProof.noPylong_small (by omega)))
  rw [Int.fdiv_eq_ediv_of_nonneg i (by omega), Int.fmod_eq_emod_of_nonneg i (by omega)]
  have hn : H s.heap.objs.size = none := I.hok.fresh (Nat.le_refl _)
  refine ⟨.ref s.heap.objs.size, _, ?_, rfl, q _ hn⟩
  refine I.laid (fun b o e => Heap.get?_push_of_some _ e) (Nat.le_refl _) ⟨by simp only [List.length_cons, List.length_nil]; rw [sizeLine_eq]; decide, [.int (i / j) s.toks, .int (i % j) (s.toks + 1)], .cons ⟨_, rfl⟩ (.cons ⟨_, rfl⟩ .nil), ?_⟩
  exact ⟨_, Heap.get?_push_size s.heap rfl, rfl, 0, rfl⟩
end
end L2
namespace L2
open PySem PySem.Spec PyProof.Rows
structure ObjM (h : Heap) (x dx C : Addr) (mA : Str → Option Value) : Prop where
  obj : h.get? x = some (PySem.W.instObj C dx)
  ns : h.Ns1 dx mA
  ne : dx ≠ x
theorem lookIn_ns {h : Heap} {dx : Addr} {mA : Str → Option Value} (n : h.Ns1 dx mA) : ∃ od, h.get? dx = some od ∧ ∀ name, PySem.W.lookIn name od = some (mA name) := by
  obtain ⟨o, es, ep, ho, hd, hk, _, hm⟩ := n
  refine ⟨o, ho, fun name => ?_⟩
  have e := hm name
  unfold nsFind findBy at e
  rw [← Array.find?_toList] at e
  unfold PySem.W.lookIn
  rw [hd]
  dsimp only
  split
  · rename_i y q
    rw [q] at e
    exact congrArg some e
  · rename_i q
    rw [q] at e
    have a : es.toList.any (·.refKey) = false := by
      rw [List.any_eq_false]
      intro y hy
      obtain ⟨z, t, hkey⟩ := hk y (Array.mem_toList_iff.mp hy)
      simp [DictEntry.refKey, hkey]
    have a' : ¬ es.toList.any (·.refKey) = true := by rw [a]; exact Bool.false_ne_true
    rw [if_neg a']
    exact congrArg some e
theorem ObjM.look {h : Heap} {x dx C : Addr} {mA : Str → Option Value} (I : ObjM h x dx C mA) : ∃ od, PySem.W.InstAt h x (PySem.W.instObj C dx) C (some od) ∧ ∀ name, PySem.W.lookIn name od = some (mA name) :=
  let ⟨od, ho, hl⟩ := lookIn_ns I.ns
  ⟨od, ⟨I.obj, rfl, rfl, ho⟩, hl⟩
section
variable {prog : Program} {w : World} {A : Around} {E : Value → Shared → Prop} {s : Shared} {K : PySem.W.Frag} {x dx C f : Addr} {mA : Str → Option Value} {name : Str} {v : Value}
end
theorem RelO.some_of {v : V} {o : Option Value} (r : RelO (some v) o) : ∃ u, o = some u ∧ RelV v u := by
  cases o with
  | none => exact (show False from r).elim
  | some u => exact ⟨u, rfl, r⟩
section
variable {P : Program} {w : World} {H H' : Hp} {h h' : Heap} {a C dx : Addr} {fs fs' : List (Str × V)}
theorem ins_get (hok : HOk P w H h) (e : H a = some (.ins C dx fs)) : ∃ mA, ObjM h a dx C mA ∧ (∀ f, RelO (fs.lookup f) (mA f)) ∧ PySem.Within mA (fs.map (·.1)) ∧ fs.length ≤ 1000 ∧ H dx = some (.own a) := by
  obtain ⟨d, z, ne, ob, mA, n, r, q⟩ := (show ObjOk P w H h a (.ins C dx fs) from hok a _ e)
  exact ⟨mA, ⟨ob, n, ne⟩, r, q, z, d⟩
end
structure Cls (K : PySem.W.Frag) (C : Addr) : Prop where
  pg : PySem.W.plainGet K C Str.empty = true
  hd : PySem.W.hasDictIn K C = true
  po : PySem.W.plainOver K C = true
  sa : PySem.W.findIn K (.ref C) "__setattr__" = some (some (.builtin "object.__setattr__"))
theorem Cls.get {K : PySem.W.Frag} {C : Addr} (c : Cls K C) (f : Str) : PySem.W.plainGet K C f = true := c.pg
def NoAttr (K : PySem.W.Frag) (C : Addr) (f : Str) : Prop := PySem.W.findIn K (.ref C) f = some none
structure Con (K : PySem.W.Frag) (C : Addr) (f : Str) (v : V) (u : Value) : Prop where
  at_ : PySem.W.findIn K (.ref C) f = some (some u)
  rel : RelV v u
  get : PySem.W.specialIn K u "__get__" = some none
  cp : PySem.W.copiedNames.contains f = false
structure Meth (K : PySem.W.Frag) (C : Addr) (m : Str) (f : Addr) : Prop where
  at_ : PySem.W.findIn K (.ref C) m = some (some (.ref f))
  fn : PySem.W.isFn K (.ref f) = true
  kp : PySem.W.keepIn K (.ref f) = true
section
variable {X : Cx} {pins : List (Addr × Obj)} {σ : St} {H : Hp} {s : Shared} {a C dx : Addr} {fs : List (Str × V)} {f : Str} {v : V} {A : Around} {E : Value → Shared → Prop}
end
section
variable {X : Cx} {o e value : Expr} {f : Str} {pos pos' tpos : Pos} {ta tv : TE}
end
section
variable {X : Cx} {pins : List (Addr × Obj)} {σ : St} {H : Hp} {s : Shared} {A : Around} {E : Value → Shared → Prop} {Q : Value → Shared → Prop} {c : Value} {b : Bool}
inductive TyOf (K : PySem.W.Frag) (H : Hp) : V → Value → Prop where
  | non : TyOf K H .non (.type "NoneType")
  | bl (x : Bool) : TyOf K H (.bl x) (.type "bool")
  | int (i : Int) : TyOf K H (.int i) (.type "int")
  | str (x : Str) : TyOf K H (.str x) (.type "str")
  | flt (x : UInt64) : TyOf K H (.flt x) (.type "float")
  | lst {a : Addr} {xs : List V} (e : H a = some (.lst xs)) : TyOf K H (.ref a) (.type "list")
  | frz {a : Addr} {o : Obj} {xs : List V} (e : H a = some (.frz o (.lst xs))) : TyOf K H (.ref a) (.type "list")
  | tup {a : Addr} {xs : List V} (e : H a = some (.tup xs)) : TyOf K H (.ref a) (.type "tuple")
  | dK {a : Addr} {kvs : List (Key × V)} (e : H a = some (.dK kvs)) : TyOf K H (.ref a) (.type "dict")
  | dT {a : Addr} {kvs : List (List Key × V)} (e : H a = some (.dT kvs)) : TyOf K H (.ref a) (.type "dict")
  | ins {a C dx : Addr} {fs : List (Str × V)} (e : H a = some (.ins C dx fs)) (cl : Cls K C) (ha : PySem.W.findIn K (.ref C) "__class__" = some (some (.builtin "object.__class__")))
      (hn : PySem.W.specialIn K (.builtin "object.__class__") "__get__" = some (some (.builtin "getset_descriptor.__get__"))) (htk : PySem.W.takesIn K (.builtin "object.__class__") = some true)
      (hm : PySem.W.mroIn K C (.type "object") = some true) : TyOf K H (.ref a) (.ref C)
theorem isinst_ok {x : V} {u t : Value} (I : Inv X pins σ H s) (rx : RelV x u) (ty : TyOf X.K H x t) (e : PySem.W.kitOne X.K t c = some b) (h : ∀ tk, Q (.bool b) { s with toks := tk }) :
    wpAny (model X.prog X.w) A (call (.builtin "isinstance") [u, c]) Q E s := by
  cases ty with
  | non => cases (show u = Value.none from rx); exact PySem.W.kia_one PySem.W.kitx_none I.kIn True.intro e (fun z => nomatch z) h
  | bl y => cases (show u = Value.bool y from rx); exact PySem.W.kia_one PySem.W.kitx_bool I.kIn True.intro e (fun z => nomatch z) h
  | int i => obtain ⟨t, q⟩ := (show ∃ t, u = Value.int i t from rx); cases q; exact PySem.W.kia_one PySem.W.kitx_int I.kIn True.intro e (fun z => nomatch z) h
  | str y => obtain ⟨t, q⟩ := (show ∃ t, u = Value.str y t from rx); cases q; exact PySem.W.kia_one PySem.W.kitx_str I.kIn True.intro e (fun z => nomatch z) h
  | flt y => obtain ⟨t, q⟩ := (show ∃ t, u = Value.float y t from rx); cases q; exact PySem.W.kia_one PySem.W.kitx_float I.kIn True.intro e (fun z => nomatch z) h
  | @lst a xs ea =>
    cases (show u = Value.ref a from rx)
    obtain ⟨_, _, n, _, h1⟩ := (show ObjOk X.prog X.w H s.heap a (.lst xs) from I.hok a _ ea)
    exact PySem.W.kia_one PySem.W.kitx_list I.kIn ⟨_, h1, rfl⟩ e (fun z => nomatch z) h
  | @frz a ob xs ea =>
    cases (show u = Value.ref a from rx)
    obtain ⟨_, _, _, n, _, h1⟩ := (show ObjOk X.prog X.w H s.heap a (.frz ob (.lst xs)) from I.hok a _ ea)
    exact PySem.W.kia_one PySem.W.kitx_list I.kIn ⟨_, h1, rfl⟩ e (fun z => nomatch z) h
  | @tup a xs ea =>
    cases (show u = Value.ref a from rx)
    obtain ⟨_, _, _, p⟩ := (show ObjOk X.prog X.w H s.heap a (.tup xs) from I.hok a _ ea)
    obtain ⟨o, h1, h2, _⟩ := p
    exact PySem.W.kia_one PySem.W.kitx_tuple I.kIn ⟨o, h1, h2⟩ e (fun z => nomatch z) h
  | @dK a kvs ea =>
    cases (show u = Value.ref a from rx)
    obtain ⟨_, _, vs, _, p⟩ := (show ObjOk X.prog X.w H s.heap a (.dK kvs) from I.hok a _ ea)
    obtain ⟨o, es, ep, h1, h2, _⟩ := p
    exact PySem.W.kia_one PySem.W.kitx_dict I.kIn ⟨o, h1, h2.1⟩ e (fun z => nomatch z) h
  | @dT a kvs ea =>
    cases (show u = Value.ref a from rx)
    obtain ⟨_, _, xs, _, o, es, ep, h1, h2, _⟩ := (show ObjOk X.prog X.w H s.heap a (.dT kvs) from I.hok a _ ea)
    exact PySem.W.kia_one PySem.W.kitx_dict I.kIn ⟨o, h1, h2.1⟩ e (fun z => nomatch z) h
  | @ins a C dx fs ea cl ha hn htk hm =>
    cases (show u = Value.ref a from rx)
    obtain ⟨mA, O, _⟩ := ins_get I.hok ea
    obtain ⟨od, J, _⟩ := O.look
    exact PySem.W.kia_one (PySem.W.kitx_own (cl.get _) cl.hd ha hn htk hm) I.kIn J e (fun z => nomatch z) h
end
end L2
namespace L2
open PySem PySem.Spec PyProof.Rows
structure Room (k : Nat) (A : Around) : Prop where
  hd : A.handled = none
  dp : A.depth + 3 * k + 5 < recursionLimit
  un : A.units + 16 * k + 200 < cLine
theorem Room.mono {j k : Nat} {A : Around} (r : Room k A) (h : j ≤ k) : Room j A := ⟨r.hd, by have := r.dp; omega, by have := r.un; omega⟩
theorem Room.deeper {k : Nat} {A : Around} (r : Room (k + 1) A) (env : Env) : Room k (A.deeper env) :=
  ⟨r.hd, by have := r.dp; show A.depth + 1 + 3 * k + 5 < _; omega, by have := r.un; show A.units + 3 + 16 * k + 200 < _; omega⟩
theorem Room.depth {k : Nat} {A : Around} (r : Room k A) : A.depth < recursionLimit := by have := r.dp; omega
theorem Room.units {k : Nat} {A : Around} (r : Room k A) : A.units + 64 < cLine := by have := r.un; omega
def tNil : TA := fun _ H Q => Q [] H
def tCons (ta : TE) (tr : TA) : TA := fun σ H Q => ta σ H fun x H1 => tr σ H1 fun xs H2 => Q (x :: xs) H2
section
variable {X : Cx} {e : Expr} {es : List Expr} {te : TE} {t : TA} {pos : Pos}
theorem pa_nil : PA X [] tNil := fun _ _ _ _ H Q I h => Calls.spliced_nil ⟨[], H, I, .nil, h⟩
theorem pa_cons (ha : PE X e te) (hr : PA X es t) (hs : starEach (e :: es) X.env = (false, eval e X.env) :: starEach es X.env := by rfl) : PA X (e :: es) (tCons te t) := by
  intro pos pins s σ H Q I h
  rw [hs]
  show wpAny _ _ (spliced ((false, eval e X.env) :: backTo pos (starEach es X.env))) _ _ s
  refine Calls.spliced_cons (thn (ha pins s σ H _ I h) fun u s1 ⟨x, H1, I1, r1, q1⟩ => ?_)
  exact thn (hr pos pins s1 σ H1 _ I1 q1) fun us s2 ⟨xs, H2, I2, r2, q2⟩ => ⟨x :: xs, H2, I2, .cons r1 r2, q2⟩
def tTup (t : TA) : TE := fun σ H Q => t σ H fun xs H1 => xs.length ≤ sizeLine ∧ ∀ p, H1 p = none → Q (.ref p) (upd H1 p (.tup xs))
def tLst (t : TA) : TE := fun σ H Q => t σ H fun xs H1 => xs.length ≤ sizeLine ∧ ∀ p, H1 p = none → Q (.ref p) (upd H1 p (.lst xs))
theorem pe_tup {x1} (h : PA X es t) : PE X (.Tuple es x1 pos) (tTup t) := by
  intro pins s σ H Q I hq
  refine wpAny_Tuple_spliced (thn (h pos pins s σ H _ I hq) fun us s1 ⟨xs, H1, I1, r, z, q⟩ => ⟨by rw [← r.length]; exact z, ?_⟩)
  have hf : H1 s1.heap.objs.size = none := I1.hok.fresh (Nat.le_refl _)
  refine ⟨.ref s1.heap.objs.size, upd H1 s1.heap.objs.size (.tup xs), I1.laid (t' := s1.toks) (fun b u e => Heap.get?_push_of_some _ e) (Nat.le_refl _) ?_, rfl, q _ hf⟩
  exact ⟨z, us, r, ⟨_, Heap.get?_push_size _ rfl, rfl, _, rfl⟩⟩
theorem pe_lst (h : PA X es t) : PE X (.List es pos) (tLst t) := by
  intro pins s σ H Q I hq
  refine wpAny_List_spliced (thn (h pos pins s σ H _ I hq) fun us s1 ⟨xs, H1, I1, r, z, q⟩ => ⟨by rw [← r.length]; exact z, ?_⟩)
  have hf : H1 s1.heap.objs.size = none := I1.hok.fresh (Nat.le_refl _)
  refine ⟨.ref s1.heap.objs.size, upd H1 s1.heap.objs.size (.lst xs), I1.laid (t' := s1.toks) (fun b u e => Heap.get?_push_of_some _ e) (Nat.le_refl _) ?_, rfl, q _ hf⟩
  exact ⟨z, us, 0, r, Heap.get?_push_size _ rfl⟩
end
abbrev Sp := List V → Hp → VK → XK → Prop
abbrev CXT := List Env → Hp → Shared → XK → Value → Shared → Prop
structure Env0 (P : Program) (w : World) (K : PySem.W.Frag) (mg : Str → Option Value) (base : Heap) (A : Around) (outer : List Env) (s : Shared) (H : Hp) : Prop where
  frames : A.frames = some outer
  mod : Mod K mg base
  bs : ∀ b o, base.get? b = some o → s.heap.get? b = some o ∧ H b = none
  bsz : base.objs.size ≤ s.heap.objs.size
  funs : s.heap.FunFrames base outer
  frf : ∀ b ∈ frs outer, H b = none
  hok : HOk P w H s.heap
  bare : AllBare s.gens
def CE (outer : List Env) (P : Program) (w : World) (H : Hp) (s : Shared) (Q : VK) (u : Value) (s' : Shared) : Prop :=
  ∃ v H', s'.os = s.os ∧ AllBare s'.gens ∧ Un (frs outer) [] H H' s.heap s'.heap ∧ HOk P w H' s'.heap ∧ RelV v u ∧ Q v H'
def CR (CX : CXT) (outer : List Env) (P : Program) (w : World) (H : Hp) (s : Shared) (Q : VK) (E : XK) (r : Result) (s' : Shared) : Prop :=
  match r with
  | .ok (.ret u) => CE outer P w H s Q u s'
  | .ok _ => False
  | .error e => CX outer H s E e s'
structure FnOk (P : Program) (w : World) (K : PySem.W.Frag) (mg : Str → Option Value) (base : Heap) (CX : CXT) (k : Nat) (f : Addr) (fd : FuncData) (ps : List Str) (sp : Sp) : Prop where
  len : ∀ vs H Q E, sp vs H Q E → vs.length = ps.length
  run : ∀ (A : Around) (outer : List Env) (s : Shared) (H : Hp) (args : Args) (us : List Value) (vs : List V) (Q : VK) (E : XK), Room k A → Env0 P w K mg base A outer s H → BindsTo s fd args (ps.zip us) → Vals vs us → sp vs H Q E →
    codeAny (model P w) A (.call (.ref f) args) (CR CX outer P w H s Q E) s
theorem FnOk.mono {P : Program} {w : World} {K : PySem.W.Frag} {mg : Str → Option Value} {base : Heap} {CX : CXT} {j k : Nat} {f : Addr} {fd : FuncData} {ps : List Str} {sp : Sp} (F : FnOk P w K mg base CX j f fd ps sp) (h : j ≤ k) :
    FnOk P w K mg base CX k f fd ps sp := ⟨F.len, fun A outer s H args us vs Q E hr => F.run A outer s H args us vs Q E (hr.mono h)⟩
theorem FnOk.imp {P : Program} {w : World} {K : PySem.W.Frag} {mg : Str → Option Value} {base : Heap} {CX : CXT} {k : Nat} {f : Addr} {fd : FuncData} {ps : List Str} {sp sp' : Sp} (F : FnOk P w K mg base CX k f fd ps sp)
    (h : ∀ vs H Q E, sp' vs H Q E → sp vs H Q E) : FnOk P w K mg base CX k f fd ps sp' :=
  ⟨fun vs H Q E q => F.len vs H Q E (h _ _ _ _ q), fun A outer s H args us vs Q E hr he hb hv hs => F.run A outer s H args us vs Q E hr he hb hv (h _ _ _ _ hs)⟩
section
variable {X : Cx} {pins : List (Addr × Obj)} {σ : St} {H : Hp} {s s' : Shared}
theorem Inv.env0 (I : Inv X pins σ H s) : Env0 X.prog X.w X.K X.mg X.base X.A X.stack s H :=
  ⟨I.ok.frames, I.ok.mod, I.bs, Nat.le_trans I.ok.bsz I.sz, I.stack, I.stkFree, I.hok, I.bare⟩
theorem Inv.after {Q : VK} {u : Value} (I : Inv X pins σ H s) (h : CE X.stack X.prog X.w H s Q u s') : EP X pins σ Q u s' := by
  obtain ⟨v, H', os, bare, un, hok, r, q⟩ := h
  obtain ⟨hh, g, d, t, os'⟩ := s'
  obtain rfl : os' = s.os := os
  exact ⟨v, H', I.call (h' := hh) (g' := g) (d' := d) (t' := t) (ch := []) un hok bare (fun b z => absurd z (by simp)), r, q⟩
end
def tCall (sp : Sp) (dvs : List V) (E : XK) (t : TA) : TE := fun σ H Q => t σ H fun vs H1 => sp (vs ++ dvs) H1 Q E
def Binds (K : PySem.W.Frag) (fd : FuncData) (ps : List Str) (ds : List Value) : Prop :=
  ∀ (s : Shared) (us : List Value), K.In s.heap → (us ++ ds).length = ps.length → BindsTo s fd ⟨us, []⟩ (ps.zip (us ++ ds))
theorem Binds.all {K : PySem.W.Frag} {fd : FuncData} {ps : List Str} (h : ∀ us : List Value, us.length = ps.length → bindArgs fd ⟨us, []⟩ = pure (ps.zip us)) : Binds K fd ps [] := fun s us _ hl => by
  rw [List.append_nil] at hl ⊢
  exact .of_eq (h us hl)
def Passes (CX : CXT) (X : Cx) (E : XK) : Prop := ∀ (pins : List (Addr × Obj)) (σ : St) (H : Hp) (s : Shared) (e : Value) (s' : Shared), Inv X pins σ H s → CX X.stack H s E e s' → X.xe e s'
section
variable {X : Cx} {CX : CXT} {k : Nat} {f C : Addr} {fd : FuncData} {ps : List Str} {sp : Sp} {dvs : List V} {ds : List Value} {E : XK} {x m : Str} {p pos apos : Pos} {e o : Expr} {es : List Expr} {ta : TE} {t : TA}
theorem run_fn {pins : List (Addr × Obj)} {σ : St} {H : Hp} {s : Shared} {Q : VK} {us : List Value} {vs : List V} (F : FnOk X.prog X.w X.K X.mg X.base CX k f fd ps sp) (hr : Room k X.A) (hb : Binds X.K fd ps ds) (hd : Vals dvs ds) (hx : Passes CX X E)
    (I : Inv X pins σ H s) (r : Vals vs us) (h : sp (vs ++ dvs) H Q E) : wpAny (model X.prog X.w) X.A (call (.ref f) us) (EP X pins σ Q) X.xe s := by
  have r2 : Vals (vs ++ dvs) (us ++ ds) := r.append hd
  have hl : (us ++ ds).length = ps.length := by rw [← r2.length]; exact F.len _ _ _ _ h
  refine wpAny_call (codeAny_mono (F.run X.A X.stack s H ⟨us, []⟩ (us ++ ds) (vs ++ dvs) Q E hr I.env0 (hb s us I.kIn hl) r2 h) fun r s' hq => ?_)
  cases r with
  | error e => exact hx pins σ H s e s' I hq
  | ok fl =>
    cases fl with
    | ret u => exact I.after hq
    | next => exact False.elim hq
    | brk => exact False.elim hq
    | cont => exact False.elim hq
theorem pe_call (F : FnOk X.prog X.w X.K X.mg X.base CX k f fd ps sp) (hr : Room k X.A) (hg : Gl X x) (hm : X.mg x = some (.ref f)) (hk : PySem.W.keepIn X.K (.ref f) = true) (hb : Binds X.K fd ps ds) (hd : Vals dvs ds) (hx : Passes CX X E)
    (ha : PA X (e :: es) t) (hdb : (x == ("__debug__" : Str)) = false := by decide) (he : starEach (e :: es) X.env = (false, eval e X.env) :: starEach es X.env := by rfl) (hpl : (backTo pos (starEach es X.env)).any (·.1) = false := by rfl) :
    PE X (.Call (.Name x p) (e :: es) [] pos) (tCall sp dvs E t) := by
  intro pins s σ H Q I h
  refine wpAny_Call_Name_kw (ld_glob I hg hm ?_ hdb)
  refine PySem.W.callWith_K (h₀ := X.base) I.ok.mod.kin hk (thn (ha pos pins s σ H _ I h) fun us s1 ⟨vs, H1, I1, r, q⟩ => ⟨I1.kIn, ?_⟩) he hpl
  exact run_fn F hr hb hd hx I1 r q
structure Mk (K : PySem.W.Frag) (C f : Addr) : Prop where
  makes : PySem.W.makesIn K C = true
  init : PySem.W.findIn K (.ref C) "__init__" = some (some (.ref f))
  fn : PySem.W.isFn K (.ref f) = true
  kp : PySem.W.keepIn K (.ref C) = true
end
section
variable {X : Cx} {CX : CXT} {k : Nat} {f C : Addr} {fd : FuncData} {ps ks : List Str} {sp : Sp} {E : XK} {x m : Str} {p pos apos kpos : Pos} {e o : Expr} {es : List Expr} {kws : List Keyword} {te ta : TE} {t tk : TA} {nm : Option Str}
structure KBinds (K : PySem.W.Frag) (fd : FuncData) (ps ks : List Str) (g : List Value → List Value → List Value) (gV : List V → List V → List V) : Prop where
  to : ∀ (s : Shared) (us ws : List Value), K.In s.heap → (g us ws).length = ps.length → BindsTo s fd ⟨us, ks.zip ws⟩ (ps.zip (g us ws))
  rel : ∀ {vs : List V} {us : List Value} {zs : List V} {ws : List Value}, Vals vs us → Vals zs ws → Vals (gV vs zs) (g us ws)
variable {g : List Value → List Value → List Value} {gV : List V → List V → List V}
end
structure FnScope (N P : List Str) (sc : Scope) : Prop where
  kind : sc.kind = .function
  co : sc.isCoroutine = false
  gen : sc.isGenerator = false
  nd : N.Nodup
  pre : N.take P.length = P
  par : ∀ x ∈ P, sc.names.lookup x = some .local ∨ sc.names.lookup x = some .cell
  nofree : ∀ y ∈ sc.names, y.2 ≠ .free
theorem bindL_out {kindOf : Str → Option NameKind} {x : Str} : ∀ {binds : List (Str × Value)} {m : Str → Option Value}, (∀ v, (x, v) ∉ binds) → bindL kindOf binds m x = m x
  | [], _, _ => rfl
  | (n, v) :: r, m, h => by
    unfold bindL
    rw [bindL_out fun w hw => h w (List.mem_cons_of_mem _ hw)]
    split
    · have : x ≠ n := by rintro rfl; exact h v List.mem_cons_self
      simp [this]
    · rfl
theorem bindC_out {kindOf : Str → Option NameKind} {x : Str} : ∀ {binds : List (Str × Value)} {m : Str → Option Value}, (∀ v, (x, v) ∉ binds) → bindC kindOf binds m x = m x
  | [], _, _ => rfl
  | (n, v) :: r, m, h => by
    unfold bindC
    rw [bindC_out fun w hw => h w (List.mem_cons_of_mem _ hw)]
    split
    · rfl
    · have : x ≠ n := by rintro rfl; exact h v List.mem_cons_self
      simp [this]
theorem bindL_get {kindOf : Str → Option NameKind} {x : Str} {v : Value} : ∀ {P : List Str} {vs : List Value} {i : Nat} {m : Str → Option Value}, P.Nodup → P[i]? = some x → vs[i]? = some v → kindOf x = some .local →
    bindL kindOf (P.zip vs) m x = some v
  | [], _, _, _, _, h, _, _ => by simp at h
  | _ :: _, [], _, _, _, _, h, _ => by simp at h
  | p :: P, w :: vs, 0, m, nd, h1, h2, hk => by
    simp at h1 h2; subst h1; subst h2
    show bindL kindOf ((p, w) :: P.zip vs) m p = _
    unfold bindL
    rw [bindL_out fun v hv => (List.nodup_cons.mp nd).1 (List.of_mem_zip hv).1, if_pos hk]
    simp
  | p :: P, w :: vs, i + 1, m, nd, h1, h2, hk => by
    show bindL kindOf ((p, w) :: P.zip vs) m x = _
    unfold bindL
    exact bindL_get (i := i) (List.nodup_cons.mp nd).2 (by simpa using h1) (by simpa using h2) hk
theorem bindC_get {kindOf : Str → Option NameKind} {x : Str} {v : Value} : ∀ {P : List Str} {vs : List Value} {i : Nat} {m : Str → Option Value}, P.Nodup → P[i]? = some x → vs[i]? = some v → kindOf x ≠ some .local →
    bindC kindOf (P.zip vs) m x = some v
  | [], _, _, _, _, h, _, _ => by simp at h
  | _ :: _, [], _, _, _, _, h, _ => by simp at h
  | p :: P, w :: vs, 0, m, nd, h1, h2, hk => by
    simp at h1 h2; subst h1; subst h2
    show bindC kindOf ((p, w) :: P.zip vs) m p = _
    unfold bindC
    rw [bindC_out fun v hv => (List.nodup_cons.mp nd).1 (List.of_mem_zip hv).1, if_neg hk]
    simp
  | p :: P, w :: vs, i + 1, m, nd, h1, h2, hk => by
    show bindC kindOf ((p, w) :: P.zip vs) m x = _
    unfold bindC
    exact bindC_get (i := i) (List.nodup_cons.mp nd).2 (by simpa using h1) (by simpa using h2) hk
def start (N : List Str) (vs : List V) : St := vs.map some ++ List.replicate (N.length - vs.length) none
def cxOf (CX : CXT) (P : Program) (w : World) (K : PySem.W.Frag) (mg : Str → Option Value) (base : Heap) (N : List Str) (qual : Str) (scope : Scope) (f : Addr) (cd : Value) (A : Around) (outer : List Env) (s : Shared) (H : Hp) (E : XK) : Cx where
  prog := P
  w := w
  K := K
  mg := mg
  base := base
  A := A.deeper (envOfC qual scope s.heap.objs.size f cd)
  N := N
  s₀ := s
  H₀ := H
  env := envOfC qual scope s.heap.objs.size f cd
  outer := outer
  stack := envOfC qual scope s.heap.objs.size f cd :: outer
  ex := []
  calm := true
  fn := fun _ => true
  pn := []
  xe := fun e s' => wpAny (model P w) (A.deeper (envOfC qual scope s.heap.objs.size f cd)) (leaving (envOfC qual scope s.heap.objs.size f cd) e) (fun _ s'' => CX outer H s E e s'') (fun e' s'' => CX outer H s E e' s'') s'
theorem cell_has {sc : Scope} {n : Nat} {x : Str} (h : sc.names.lookup x = some .cell) : ∃ c, (cellsFrom n sc.names []).lookup x = some c := by
  have q := PySem.W.cellsFrom_some sc.names n [] (.inl h)
  exact Option.isSome_iff_exists.mp q
theorem inv_start {CX : CXT} {P : Program} {w : World} {K : PySem.W.Frag} {mg : Str → Option Value} {base : Heap} {N ps : List Str} {qual : Str} {scope : Scope} {f : Addr} {cd : Value} {A : Around} {outer : List Env} {s s1 : Shared} {H : Hp} {E : XK} {us : List Value} {vs : List V}
    (S : FnScope N ps scope) (hd : A.handled = none) (e0 : Env0 P w K mg base A outer s H) (hl : vs.length = ps.length) (r : Vals vs us)
    (x : InCallC s s.heap.objs.size (bindL (envOfC qual scope s.heap.objs.size f cd).kindOf (ps.zip us) fun _ => none) (cellsFrom (s.heap.objs.size + 1) scope.names []) (bindC (envOfC qual scope s.heap.objs.size f cd).kindOf (ps.zip us) fun _ => none) s1) :
    Inv (cxOf CX P w K mg base N qual scope f cd A outer s H E) [] (start N vs) H s1 := by
  have hpl : ps.length ≤ N.length := by have := congrArg List.length S.pre; rw [List.length_take] at this; omega
  obtain ⟨h1, tk, rfl, hk⟩ := x.done
  have noA : ∀ b : Addr, b ∉ (cxOf CX P w K mg base N qual scope f cd A outer s H E).ex := fun b z => absurd (show b ∈ ([] : List Addr) from z) (by simp)
  refine ⟨⟨e0.mod, S.kind, rfl, rfl, Nat.le_refl _, fun y z c h1 h2 => ?_, fun y hy => ?_, fun y c _ h => ?_, fun _ => hd, Around.frames_deeper e0.frames, .inr ⟨rfl, rfl⟩, fun b z => absurd z (noA b), e0.bs, e0.bsz, fun b _ _ => noA b, fun b z => absurd z (noA b), e0.funs, e0.frf⟩,
    rfl, e0.bare, Un.kept hk, ⟨_, x.toInCall.ns, fun i y v h1 h2 h3 => ?_⟩, fun y c h => ⟨_, x.cell y c h⟩, e0.hok.fresh (Nat.le_refl _), fun y c h => ?_, fun p hp => absurd (show p ∈ ([] : List (Addr × Obj)) from hp) (by simp), e0.hok.kept hk, ?_⟩
  · exact name_of_addr x.apart (PySem.mem_of_lookup h1) (PySem.mem_of_lookup h2)
  · have hy : scope.names.lookup y = some .cell ∨ scope.names.lookup y = some .free := hy
    rcases hy with hy | hy
    · exact cell_has hy
    · exact absurd rfl (S.nofree _ (PySem.mem_of_lookup hy))
  · exact Nat.le_of_lt (x.above y c (PySem.mem_of_lookup h))
  · have hi : i < vs.length := by
      unfold start at h2
      by_cases hi : i < vs.length
      · exact hi
      · rw [List.getElem?_append_right (by simpa using hi)] at h2
        rw [List.getElem?_replicate] at h2
        split at h2 <;> cases h2
    have ha : vs[i]? = some v := by
      unfold start at h2
      rw [List.getElem?_append_left (by simpa using hi), List.getElem?_map] at h2
      cases e : vs[i]? with
      | none => rw [e] at h2; cases h2
      | some a => rw [e] at h2; cases h2; rfl
    obtain ⟨u, hu, rv⟩ := r.get ha
    have hp : ps[i]? = some y := by
      rw [← S.pre, List.getElem?_take_of_lt (by omega)]; exact h1
    have ndP : ps.Nodup := by rw [← S.pre]; exact S.nd.sublist (List.take_sublist _ _)
    refine ⟨u, rv, ?_⟩
    rcases S.par y (List.mem_of_getElem? hp) with k | k
    · exact .inl ⟨k, bindL_get ndP hp hu k⟩
    · obtain ⟨c, e⟩ := cell_has (n := s.heap.objs.size + 1) k
      refine .inr ⟨.inl k, c, e, ?_⟩
      have q := x.cell y c e
      rw [bindC_get ndP hp hu (by show scope.names.lookup y ≠ _; rw [k]; decide)] at q
      exact q
  · exact e0.hok.fresh (Nat.le_of_lt (x.above y c (PySem.mem_of_lookup h)))
  · unfold start
    show _ = N.length
    rw [List.length_append, List.length_map, List.length_replicate]
    omega
theorem fn_of {CX : CXT} {P : Program} {w : World} {K : PySem.W.Frag} {mg : Str → Option Value} {base : Heap} {k : Nat} {f : Addr} {name qual : Str} {params : Arguments} {body : List Stmt} {scope : Scope} {dV kV doc pm cdv ct oc : Value} {an od : Option Addr}
    {osl : Array (Option Value)} {N ps : List Str} {sp : Sp} (lk : K.lookup f = some ⟨oc, od, .func (PySem.W.fnOf name qual params body scope dV kV doc pm an cdv ct), osl⟩) (hcd : PySem.W.codeIn K cdv qual = true) (S : FnScope N ps scope)
    (len : ∀ vs H Q E, sp vs H Q E → vs.length = ps.length)
    (hbody : ∀ (A : Around) (outer : List Env) (s : Shared) (H : Hp) (vs : List V) (Q : VK) (E : XK), Room k (A.deeper (envOfC qual scope s.heap.objs.size f cdv)) → sp vs H Q E →
      ∃ t, PSs (cxOf CX P w K mg base N qual scope f cdv A outer s H E) body t ∧ t { nx := fun _ H' => Q .non H', rt := Q } (start N vs) H) :
    FnOk P w K mg base CX (k + 1) f (PySem.W.fnOf name qual params body scope dV kV doc pm an cdv ct) ps sp := by
  refine ⟨len, fun A outer s H args us vs Q E hr e0 hb r hsp => ?_⟩
  have hl := len _ _ _ _ hsp
  have KX : K.In s.heap := e0.mod.kin.keeps fun b o e => (e0.bs b o e).1
  have lim : s.heap.NoLimit := e0.mod.nolimit.keeps fun b o e => (e0.bs b o e).1
  have hkind : ∀ y ∈ ps.zip us, scope.names.lookup y.1 = some .local ∨ (scope.names.lookup y.1 = some .cell ∧ ((cellsFrom (s.heap.objs.size + 1) scope.names []).lookup y.1).isSome = true) := fun ⟨n, v⟩ hy => by
    rcases S.par n (List.of_mem_zip hy).1 with q | q
    · exact .inl q
    · exact .inr ⟨q, PySem.W.cellsFrom_some _ _ _ (.inl q)⟩
  refine codeAny_call_function hr.depth (KX _ _ lk) rfl S.co S.gen rfl (PySem.W.codeRec_of KX hcd) (hb _ _ _ _ ?_)
  refine wpAny_newFunctionEnv_cells S.kind hkind fun env he s1 x => ?_
  subst he
  refine ⟨lim.keeps x.toInCall.keep, codeAny_func ?_⟩
  obtain ⟨t, ht, hq⟩ := hbody A outer s H vs Q E (hr.deeper _) hsp
  have I : Inv (cxOf CX P w K mg base N qual scope f cdv A outer s H E) [] (start N vs) H s1 := inv_start S hr.hd e0 hl r x
  refine wpAny_mono (ht [] s1 (start N vs) H _ I hq) (fun fl s' hs => ?_) fun e s' hs => hs
  have fin : ∀ {σ' : St} {H' : Hp} {v : V} {u : Value}, Inv (cxOf CX P w K mg base N qual scope f cdv A outer s H E) [] σ' H' s' → RelV v u → Q v H' → CE outer P w H s Q u s' :=
    fun {σ' H' v u} J rv q => ⟨v, H', J.os, J.bare, J.base, J.hok, rv, q⟩
  cases fl with
  | ret u =>
    obtain ⟨v, σ', H', J, rv, q⟩ := hs
    exact fin J rv q
  | next =>
    obtain ⟨σ', H', J, q⟩ := hs
    exact fin (v := V.non) (u := Value.none) J rfl q
  | brk =>
    obtain ⟨_, _, _, q⟩ := hs
    exact False.elim q
  | cont =>
    obtain ⟨_, _, _, q⟩ := hs
    exact False.elim q
end L2
namespace L2
open PySem PySem.Spec PyProof.Rows
section
variable {X : Cx} {x : Str} {p pos : Pos} {e : Expr} {es : List Expr} {t : TA} {id T : String} {r : List V → Hp → VK → Prop}
def tCB (r : List V → Hp → VK → Prop) (t : TA) : TE := fun σ H Q => t σ H fun vs H1 => r vs H1 Q
theorem pe_callB (hc : CallR X (.builtin id) r) (hg : Gl X x) (hm : X.mg x = none) (hv : bootBuiltins x = some (.builtin id)) (ha : PA X (e :: es) t) (hn : x ≠ "__name__" := by decide) (hdb : (x == ("__debug__" : Str)) = false := by decide)
    (he : starEach (e :: es) X.env = (false, eval e X.env) :: starEach es X.env := by rfl) (hpl : (backTo pos (starEach es X.env)).any (·.1) = false := by rfl) : PE X (.Call (.Name x p) (e :: es) [] pos) (tCB r t) := by
  intro pins s σ H Q I h
  refine wpAny_Call_Name_kw (ld_blt I hg hm hv ?_ hn hdb)
  exact PyProof.Rows.callWith_builtin1 (thn (ha pos pins s σ H _ I h) fun us s1 ⟨vs, H1, I1, r1, q1⟩ => hc pins s1 σ H1 vs us Q I1 r1 q1) he hpl
theorem pe_callTy (hc : CallR X (.type T) r) (hg : Gl X x) (hm : X.mg x = none) (hv : bootBuiltins x = some (.type T)) (ha : PA X (e :: es) t) (hn : x ≠ "__name__" := by decide) (hdb : (x == ("__debug__" : Str)) = false := by decide)
    (he : starEach (e :: es) X.env = (false, eval e X.env) :: starEach es X.env := by rfl) (hpl : (backTo pos (starEach es X.env)).any (·.1) = false := by rfl) : PE X (.Call (.Name x p) (e :: es) [] pos) (tCB r t) := by
  intro pins s σ H Q I h
  refine wpAny_Call_Name_kw (ld_blt I hg hm hv ?_ hn hdb)
  exact PyProof.Rows.callWith_type1 (thn (ha pos pins s σ H _ I h) fun us s1 ⟨vs, H1, I1, r1, q1⟩ => hc pins s1 σ H1 vs us Q I1 r1 q1) he hpl
end
end L2
namespace L2
open PySem PySem.Spec PyProof.Rows
section
variable {κ : Type} [DecidableEq κ]
def valV (kvs : List (κ × V)) (k : κ) : Option V := (kvs.find? fun kv => decide (kv.1 = k)).map (·.2)
def putK (kvs : List (κ × V)) (k : κ) (v : V) : List (κ × V) :=
  if (kvs.any fun kv => decide (kv.1 = k)) = true then kvs.map (fun kv => if kv.1 = k then (kv.1, v) else kv) else kvs ++ [(k, v)]
theorem valV_pos {p : κ × V} {r : List (κ × V)} {k : κ} (e : p.1 = k) : valV (p :: r) k = some p.2 := by simp [valV, List.find?_cons, e]
theorem valV_neg {p : κ × V} {r : List (κ × V)} {k : κ} (e : ¬ p.1 = k) : valV (p :: r) k = valV r k := by simp [valV, List.find?_cons, e]
theorem length_putK (kvs : List (κ × V)) (k : κ) (v : V) : (putK kvs k v).length ≤ kvs.length + 1 := by
  unfold putK
  split
  · rw [List.length_map]; omega
  · rw [List.length_append, List.length_cons, List.length_nil]; omega
theorem RelO.isSome_eq {o : Option V} {u : Option Value} (r : RelO o u) : o.isSome = u.isSome := by
  cases o with
  | none => cases u with
    | none => rfl
    | some _ => exact (show False from r).elim
  | some _ => cases u with
    | none => exact (show False from r).elim
    | some _ => rfl
theorem KV.val {kvs : List (κ × V)} {vs : List (κ × Value)} (r : KV kvs vs) (k : κ) : RelO (valV kvs k) (valueAt vs k) := by
  unfold KV at r
  induction r with
  | nil => exact True.intro
  | @cons p q ps qs h t ih =>
    obtain ⟨h1, h2⟩ := h
    by_cases e : p.1 = k
    · have e' : q.1 = k := h1.symm.trans e
      have b : valueAt (q :: qs) k = some q.2 := by simp [valueAt, List.find?_cons, e']
      rw [valV_pos e, b]; exact h2
    · have e' : ¬ q.1 = k := fun z => e (h1.trans z)
      have b : valueAt (q :: qs) k = valueAt qs k := by simp [valueAt, List.find?_cons, e']
      rw [valV_neg e, b]; exact ih
theorem KV.any {kvs : List (κ × V)} {vs : List (κ × Value)} (r : KV kvs vs) (k : κ) : (kvs.any fun kv => decide (kv.1 = k)) = vs.any fun kv => decide (kv.1 = k) := by
  unfold KV at r
  induction r with
  | nil => rfl
  | cons h t ih => rw [List.any_cons, List.any_cons, ih, h.1]
theorem KV.repl {kvs : List (κ × V)} {vs : List (κ × Value)} (r : KV kvs vs) (k : κ) {y : V} {u : Value} (ry : RelV y u) :
    KV (kvs.map fun kv => if kv.1 = k then (kv.1, y) else kv) (vs.map fun kv => if kv.1 = k then (kv.1, u) else kv) := by
  unfold KV at r ⊢
  induction r with
  | nil => exact .nil
  | @cons p q ps qs h t ih =>
    rw [List.map_cons, List.map_cons]
    refine .cons ?_ ih
    obtain ⟨h1, h2⟩ := h
    by_cases e : p.1 = k
    · rw [if_pos e, if_pos (h1.symm.trans e)]; exact ⟨h1, ry⟩
    · rw [if_neg e, if_neg (fun z => e (h1.trans z))]; exact ⟨h1, h2⟩
theorem KV.put {kvs : List (κ × V)} {vs : List (κ × Value)} (r : KV kvs vs) (k : κ) {y : V} {u : Value} (ry : RelV y u) : KV (putK kvs k y) (stored vs k u) := by
  unfold putK stored
  rw [r.any k]
  by_cases e : (vs.any fun kv => decide (kv.1 = k)) = true
  · rw [if_pos e, if_pos e]; exact r.repl k ry
  · rw [if_neg e, if_neg e]; exact Paired.snoc r ⟨rfl, ry⟩
theorem KV.length {kvs : List (κ × V)} {vs : List (κ × Value)} (r : KV kvs vs) : kvs.length = vs.length := Paired.length r
end
theorem kV_is {P : Program} {w : World} {k : Key} {u : Value} (r : RelV (kV k) u) : (mixKind P w).is k u = true := by
  cases k with
  | inl i => obtain ⟨t, e⟩ := (show ∃ t, u = Value.int i t from r); subst e; exact mixKind_int P w i t
  | inr x => obtain ⟨t, e⟩ := (show ∃ t, u = Value.str x t from r); subst e; exact mixKind_str P w x t
theorem items_are {P : Program} {w : World} : ∀ {ks : List Key} {us : List Value}, Vals (ks.map kV) us → ItemsAre (mixKind P w) ks us
  | [], _, r => by rw [List.map_nil] at r; cases r; exact .nil
  | k :: ks, _, r => by
    rw [List.map_cons] at r
    cases r with
    | cons h t => exact .cons (kV_is h) (items_are t)
abbrev KT (H : Hp) : List (List Key × V) → List (List Key × Addr × Value) → Prop := Paired fun p q => p.1 = q.1 ∧ H q.2.1 = some (.tup (p.1.map kV)) ∧ RelV p.2 q.2.2
theorem KT.val {H : Hp} {kvs : List (List Key × V)} {xs : List (List Key × Addr × Value)} (r : KT H kvs xs) (k : List Key) : RelO (valV kvs k) ((atKey xs k).map (·.2)) := by
  induction r with
  | nil => exact True.intro
  | @cons p q ps qs h t ih =>
    obtain ⟨h1, _, h2⟩ := h
    by_cases e : p.1 = k
    · have e' : q.1 = k := h1.symm.trans e
      have b : atKey (q :: qs) k = some q.2 := by simp [atKey, List.find?_cons, e']
      rw [valV_pos e, b]; exact h2
    · have e' : ¬ q.1 = k := fun z => e (h1.trans z)
      have b : atKey (q :: qs) k = atKey qs k := by simp [atKey, List.find?_cons, e']
      rw [valV_neg e, b]; exact ih
theorem KT.repl {H : Hp} {kvs : List (List Key × V)} {xs : List (List Key × Addr × Value)} (r : KT H kvs xs) (k : List Key) {y : V} {u : Value} (ry : RelV y u) :
    KT H (kvs.map fun kv => if kv.1 = k then (kv.1, y) else kv) (xs.map (putAt k u)) := by
  induction r with
  | nil => exact .nil
  | @cons p q ps qs h t ih =>
    rw [List.map_cons, List.map_cons]
    refine .cons ?_ ih
    obtain ⟨h1, h2, h3⟩ := h
    unfold putAt
    by_cases e : p.1 = k
    · rw [if_pos e, if_pos (h1.symm.trans e)]; exact ⟨h1, h2, ry⟩
    · rw [if_neg e, if_neg (fun z => e (h1.trans z))]; exact ⟨h1, h2, h3⟩
theorem KT.keeps {H H' : Hp} {kvs : List (List Key × V)} {xs : List (List Key × Addr × Value)} (r : KT H kvs xs) (ht : ∀ b ys, H b = some (.tup ys) → H' b = some (.tup ys)) : KT H' kvs xs :=
  Paired.mapP r fun _ _ z => ⟨z.1, ht _ _ z.2.1, z.2.2⟩
section
variable {P : Program} {w : World} {H : Hp} {h : Heap} {a : Addr}
theorem rd_of {u : HO} (ok : HOk P w H h) (e : Rd H a u) : ObjOk P w H h a u := e.ok ok
theorem dk_rd {kvs : List (Key × V)} (ok : HOk P w H h) (e : Rd H a (.dK kvs)) : kvs.length ≤ sizeLine ∧ (a == sysModules) = false ∧ ∃ vs, KV kvs vs ∧ h.DictOf (mixKind P w) a vs :=
  show ObjOk P w H h a (.dK kvs) from rd_of ok e
theorem dk_of {kvs : List (Key × V)} (ok : HOk P w H h) (e : H a = some (.dK kvs)) : kvs.length ≤ sizeLine ∧ (a == sysModules) = false ∧ ∃ vs, KV kvs vs ∧ h.DictOf (mixKind P w) a vs := dk_rd ok (.inl e)
theorem key_of {ks : List Key} (ok : HOk P w H h) (e : H a = some (.tup (ks.map kV))) : (tupleKind (mixKind P w)).is h ks a := by
  obtain ⟨_, its, r, o, h1, h2, n, h3⟩ := (show ObjOk P w H h a (.tup (ks.map kV)) from ok a _ e)
  exact ⟨o, its.toArray, n, h1, h2, h3, by simpa using items_are r⟩
theorem dt_rd {kvs : List (List Key × V)} (ok : HOk P w H h) (e : Rd H a (.dT kvs)) : kvs.length ≤ sizeLine ∧ (a == sysModules) = false ∧
    ∃ xs, KT H kvs xs ∧ h.DictOfH (tupleKind (mixKind P w)) a xs := by
  obtain ⟨z, y, xs, r, o, es, ep, h1, h2, h3, h4, h5⟩ := (show ObjOk P w H h a (.dT kvs) from rd_of ok e)
  refine ⟨z, y, xs, r, o, es, ep, h1, h2, h3, h4, fun x hx => ?_, h5⟩
  have all : ∀ {l : List (List Key × V)} {m : List (List Key × Addr × Value)}, KT H l m → ∀ x ∈ m, (tupleKind (mixKind P w)).is h x.1 x.2.1 := by
    intro l m q
    induction q with
    | nil => intro x hx; exact nomatch hx
    | @cons p q ps qs hq t ih =>
      intro x hx
      rcases List.mem_cons.mp hx with e | hx
      · subst e
        exact key_of ok (by rw [← hq.1]; exact hq.2.1)
      · exact ih x hx
  exact all r x hx
end
def DGet (H : Hp) (a : Addr) (y : V) (r : Option V) : Prop :=
  (∃ kvs k, Rd H a (.dK kvs) ∧ y = kV k ∧ r = valV kvs k) ∨ ∃ kvs k b, Rd H a (.dT kvs) ∧ y = .ref b ∧ H b = some (.tup (k.map kV)) ∧ r = valV kvs k
def DPut (H : Hp) (a : Addr) (y v : V) (H' : Hp) : Prop :=
  (∃ kvs k, H a = some (.dK kvs) ∧ y = kV k ∧ kvs.length < sizeLine ∧ H' = upd H a (.dK (putK kvs k v))) ∨
  ∃ kvs k b, H a = some (.dT kvs) ∧ y = .ref b ∧ H b = some (.tup (k.map kV)) ∧ kvs.length < sizeLine ∧ H' = upd H a (.dT (putK kvs k v))
theorem DGet.k {H : Hp} {a : Addr} {kvs : List (Key × V)} {k : Key} (e : H a = some (.dK kvs)) : DGet H a (kV k) (valV kvs k) := .inl ⟨kvs, k, .inl e, rfl, rfl⟩
theorem DGet.t {H : Hp} {a b : Addr} {kvs : List (List Key × V)} {k : List Key} (e : H a = some (.dT kvs)) (eb : H b = some (.tup (k.map kV))) : DGet H a (.ref b) (valV kvs k) := .inr ⟨kvs, k, b, .inl e, rfl, eb, rfl⟩
theorem DPut.k {H : Hp} {a : Addr} {kvs : List (Key × V)} {k : Key} {v : V} (e : H a = some (.dK kvs)) (hl : kvs.length < sizeLine) : DPut H a (kV k) v (upd H a (.dK (putK kvs k v))) := .inl ⟨kvs, k, e, rfl, hl, rfl⟩
theorem DPut.t {H : Hp} {a b : Addr} {kvs : List (List Key × V)} {k : List Key} {v : V} (e : H a = some (.dT kvs)) (eb : H b = some (.tup (k.map kV))) (hl : kvs.length < sizeLine) :
    DPut H a (.ref b) v (upd H a (.dT (putK kvs k v))) := .inr ⟨kvs, k, b, e, rfl, eb, hl, rfl⟩
section
variable {X : Cx} {pins : List (Addr × Obj)} {σ : St} {H : Hp} {s : Shared} {a : Addr} {y v : V} {u r : Value} {o : Option V} {A : Around} {E : Value → Shared → Prop}
theorem Inv.big (I : Inv X pins σ H s) : sysModules < s.heap.objs.size := by
  have h : mainGlobals < s.heap.objs.size := (I.mod.glob.keeps I.bk).lt
  exact Nat.lt_trans (by decide) h
theorem d_getItem {Q : Value → Shared → Prop} (hu : A.units + 1 < cLine) (I : Inv X pins σ H s) (g : DGet H a y (some v)) (ry : RelV y u) (h : ∀ w' s', Inv X pins σ H s' → RelV v w' → Q w' s') :
    wpAny (model X.prog X.w) A (getItem (.ref a) u) Q E s := by
  rcases g with ⟨kvs, k, e, ey, l⟩ | ⟨kvs, k, b, e, ey, eb, l⟩
  · subst ey
    obtain ⟨z, hd, vs, rel, dd⟩ := dk_rd I.hok e
    obtain ⟨w', hw, rw'⟩ := RelO.some_of (v := v) (o := valueAt vs k) (by rw [l]; exact rel.val k)
    exact wpAny_getItem_of (kV_is ry) dd.mapOf hw (h w' _ (I.tok _) rw')
  · subst ey
    cases (show u = Value.ref b from ry)
    obtain ⟨z, hd, xs, rel, dd⟩ := dt_rd I.hok e
    obtain ⟨w', hw, rw'⟩ := RelO.some_of (v := v) (o := (atKey xs k).map (·.2)) (by rw [l]; exact rel.val k)
    obtain ⟨p, hp, hp2⟩ := Option.map_eq_some_iff.mp hw
    refine wpAny_getItem_heap (tupleKind_room_in1 hu) (key_of I.hok eb) dd hp ?_
    rw [hp2]
    exact h w' _ (I.tok _) rw'
theorem d_in {Q : Value → Shared → Prop} (hu : A.units + 1 < cLine) (I : Inv X pins σ H s) (g : DGet H a y o) (ry : RelV y u) (h : ∀ s', Inv X pins σ H s' → Q (.bool o.isSome) s') :
    wpAny (model X.prog X.w) A (compareOp .In u (.ref a)) Q E s := by
  rcases g with ⟨kvs, k, e, ey, l⟩ | ⟨kvs, k, b, e, ey, eb, l⟩
  · subst ey
    obtain ⟨z, hd, vs, rel, dd⟩ := dk_rd I.hok e
    refine wpAny_in_of (kV_is ry) hd dd.mapOf ?_
    rw [← (rel.val k).isSome_eq, ← l]
    exact h _ (I.tok _)
  · subst ey
    cases (show u = Value.ref b from ry)
    obtain ⟨z, hd, xs, rel, dd⟩ := dt_rd I.hok e
    refine wpAny_in_heap (tupleKind_room_in1 hu) (key_of I.hok eb) hd dd ?_
    have q := (rel.val k).isSome_eq
    rw [Option.isSome_map] at q
    rw [← q, ← l]
    exact h _ (I.tok _)
theorem d_write {h' : Heap} {t' : Nat} {ob : HO} (I : Inv X pins σ H s) (mu : Mut (H a)) (hs : Heap.SameBut a s.heap h') (he : ∃ q, h'.get? a = some q) (new : ObjOk X.prog X.w (upd H a ob) h' a ob) :
    Inv X pins σ (upd H a ob) { s with heap := h', toks := t' } :=
  I.write (x := a) (e := a) mu (.inl rfl) (fun b q hb z => (hs.2 b hb).trans z) he new
theorem dk_new {P : Program} {w : World} {H' : Hp} {h' : Heap} {kvs : List (Key × V)} {vs : List (Key × Value)} (z : kvs.length ≤ sizeLine) (hd : (a == sysModules) = false) (rel : KV kvs vs) (dd : h'.DictOf (mixKind P w) a vs) :
    ObjOk P w H' h' a (.dK kvs) := ⟨z, hd, vs, rel, dd⟩
end
section
variable {X : Cx} {pins : List (Addr × Obj)} {σ : St} {H : Hp} {s : Shared} {a : Addr} {kvs : List (Key × V)} {k : Key} {u : Value} {A : Around} {E : Value → Shared → Prop}
theorem d_len {Q : Value → Shared → Prop} (I : Inv X pins σ H s) (e : Rd H a (.dK kvs)) (h : ∀ t s', Inv X pins σ H s' → Q (.int kvs.length t) s') : wpAny (model X.prog X.w) A (call (.builtin "len") [.ref a]) Q E s := by
  obtain ⟨z, hd, vs, rel, dd⟩ := dk_rd I.hok e
  refine call_len_dict hd dd (by rw [← rel.length]; rw [sizeLine_eq] at z; omega) ?_
  rw [← rel.length]
  exact h _ _ (I.tok _)
end
theorem dict_typeIs {X : Cx} {pins : List (Addr × Obj)} {σ : St} {H : Hp} {s : Shared} {a : Addr} {y : V} {o : Option V} (I : Inv X pins σ H s) (g : DGet H a y o) : s.TypeIs (.ref a) "dict" := by
  rcases g with ⟨kvs, k, e, _, _⟩ | ⟨kvs, k, b, e, _, _, _⟩
  · obtain ⟨_, _, vs, _, dd⟩ := dk_rd I.hok e
    exact dd.typeIs
  · obtain ⟨_, _, xs, _, dd⟩ := dt_rd I.hok e
    exact dd.typeIs
section
variable {X : Cx} {o i e value : Expr} {pos pos' tpos : Pos} {td ty tv : TE}
end
theorem dk_empty {P : Program} {w : World} {H : Hp} (h : Heap) (hb : sysModules < h.objs.size) : ObjOk P w H (h.push { cls := .type "dict", data := .dict #[] }) h.objs.size (.dK []) :=
  ⟨Nat.zero_le _, beq_eq_false_iff_ne.mpr (Ne.symm (Nat.ne_of_lt hb)), [], .nil, Heap.DictOf.new h⟩
section
variable {X : Cx} {pos : Pos}
end
def tPairs : List (TE × TE) → St → Hp → (List (V × V) → Hp → Prop) → Prop
  | [], _, H, Q => Q [] H
  | (tk, tv) :: r, σ, H, Q => tk σ H fun x H1 => tv σ H1 fun y H2 => tPairs r σ H2 fun ps H3 => Q ((x, y) :: ps) H3
abbrev VV : List (V × V) → List (Value × Value) → Prop := Paired fun p q => RelV p.1 q.1 ∧ RelV p.2 q.2
def PPs (X : Cx) (pos : Pos) (keys : List (Option Expr)) (values : List Expr) (trs : List (TE × TE)) : Prop :=
  ∀ (pins : List (Addr × Obj)) (s : Shared) (σ : St) (H : Hp) (Q : List (V × V) → Hp → Prop), Inv X pins σ H s → tPairs trs σ H Q →
    wpAny (model X.prog X.w) X.A (evalPairs (pairTrees keys values X.env pos)) (fun vs s' => ∃ ps H', Inv X pins σ H' s' ∧ VV ps vs ∧ Q ps H') X.xe s
theorem pps_nil {X : Cx} {pos : Pos} : PPs X pos [] [] [] := fun pins s σ H Q I h => pairTrees_nil_walk ⟨[], H, I, .nil, h⟩
theorem pps_cons {X : Cx} {pos : Pos} {k v : Expr} {ks : List (Option Expr)} {vs : List Expr} {tk tv : TE} {trs : List (TE × TE)} (hk : PE X k tk) (hv : PE X v tv) (hr : PPs X pos ks vs trs) :
    PPs X pos (some k :: ks) (v :: vs) ((tk, tv) :: trs) := fun pins s σ H Q I h =>
  pairTrees_cons_walk (thn (hk pins s σ H _ I h) fun u s1 ⟨x, H1, I1, rx, q1⟩ => thn (hv pins s1 σ H1 _ I1 q1) fun w2 s2 ⟨y, H2, I2, ry, q2⟩ =>
    thn (hr pins s2 σ H2 _ I2 q2) fun ws s3 ⟨ps, H3, I3, rel, q3⟩ => ⟨(x, y) :: ps, H3, I3, .cons ⟨rx, ry⟩ rel, q3⟩)
def mergeK (kvs more : List (Key × V)) : List (Key × V) := more.foldl (fun acc kv => putK acc kv.1 kv.2) kvs
theorem KV.merge : ∀ {more : List (Key × V)} {rs : List (Key × Value)} {kvs : List (Key × V)} {vs : List (Key × Value)}, KV more rs → KV kvs vs → KV (mergeK kvs more) (merged vs rs) := by
  intro more rs kvs vs r
  unfold KV at r
  induction r generalizing kvs vs with
  | nil => intro q; exact q
  | @cons p q ps qs h t ih =>
    intro r0
    have e : KV (putK kvs p.1 p.2) (stored vs q.1 q.2) := by
      have := r0.put p.1 h.2
      rw [← h.1]; exact this
    exact ih e
theorem length_mergeK : ∀ (more kvs : List (Key × V)), (mergeK kvs more).length ≤ kvs.length + more.length
  | [], kvs => by show kvs.length ≤ kvs.length + 0; omega
  | p :: r, kvs => by
    have h1 := length_mergeK r (putK kvs p.1 p.2)
    have h2 := length_putK kvs p.1 p.2
    show (mergeK (putK kvs p.1 p.2) r).length ≤ _
    rw [List.length_cons]; omega
theorem carries_of {P : Program} {w : World} : ∀ {kvs : List (Key × V)} {ws : List (Value × Value)}, VV (kvs.map fun kv => (kV kv.1, kv.2)) ws → ∃ rs, Carries (mixKind P w) ws rs ∧ KV kvs rs
  | [], _, r => by rw [List.map_nil] at r; cases r; exact ⟨[], True.intro, .nil⟩
  | p :: kvs, _, r => by
    rw [List.map_cons] at r
    cases r with
    | @cons a b as bs h t =>
      obtain ⟨rs, c, q⟩ := carries_of (P := P) (w := w) t
      obtain ⟨b1, b2⟩ := b
      exact ⟨(p.1, b2) :: rs, ⟨kV_is h.1, rfl, c⟩, .cons ⟨rfl, h.2⟩ q⟩
def tDisp (trs : List (TE × TE)) : TE := fun σ H Q => ∀ p, H p = none → tPairs trs σ (upd H p (.dK [])) fun ps H2 => H2 p = some (.dK []) ∧ ∃ kvs : List (Key × V), ps = kvs.map (fun kv => (kV kv.1, kv.2)) ∧ kvs.length ≤ 15 ∧ Q (.ref p) (upd H2 p (.dK (mergeK [] kvs)))
theorem pe_disp {X : Cx} {pos : Pos} {keys : List (Option Expr)} {values : List Expr} {trs : List (TE × TE)} (h : PPs X pos keys values trs) (hall : keys.all (·.isSome) = true) (hl : keys.length = values.length) (h0 : keys ≠ [])
    (h15 : keys.length ≤ 15) : PE X (.Dict keys values pos) (tDisp trs) := by
  intro pins s σ H Q I q
  have hn := I.hok.fresh (Nat.le_refl s.heap.objs.size)
  have I1 := I.laid (a := s.heap.objs.size) (o := .dK []) (h' := s.heap.push { cls := .type "dict", data := .dict #[] }) (t' := s.toks) (fun _ _ q => Heap.get?_push_of_some _ q) (Nat.le_refl _) (dk_empty s.heap I.big)
  refine wpAny_Dict_walk (knd := mixKind X.prog X.w) hall hl h0 h15 (thn (h pins _ σ _ _ I1 (q _ hn)) fun ws s2 ⟨ps, H2, I2, rel, e, kvs, ep, lk, q2⟩ => ?_)
  subst ep
  obtain ⟨rs, c, rk⟩ := carries_of (P := X.prog) (w := X.w) rel
  obtain ⟨z, hd, vs0, r0, dd⟩ := dk_of I2.hok e
  cases r0
  refine ⟨rs, c, dd, fun h' dd' hs => ⟨.ref s.heap.objs.size, _, ?_, rfl, q2⟩⟩
  have hz : (mergeK [] kvs).length ≤ sizeLine := by
    have h1 := length_mergeK kvs []
    rw [List.length_nil] at h1
    rw [sizeLine_eq]; omega
  have he : ∃ q, h'.get? s.heap.objs.size = some q := let ⟨q, _, _, hq, _⟩ := dd'; ⟨q, hq⟩
  exact d_write I2 (by rw [e]; exact True.intro) hs he (dk_new hz hd (rk.merge .nil) dd')
structure M1 (X : Cx) (o : Expr) (m : Str) (apos : Pos) (e : Expr) (cpos : Pos) : Prop where
  base : attributeBase o m X.env (eval o X.env) = eval o X.env
  few : ((backTo cpos (starEach [e] X.env)).all (fun x => !x.1) && (backToKw cpos (keywordEach [] X.env)).all (fun x => x.1.isSome)
    && decide (([e] : List Expr).length + ([] : List Keyword).length + (if ([] : List Keyword).isEmpty then 0 else 1) < 30)) = true
  line : (apos.endLine == cpos.line) = true
  trees : backTo cpos (starEach [e] X.env) = [(false, eval e X.env)]
structure M2 (X : Cx) (o : Expr) (m : Str) (apos : Pos) (e f : Expr) (cpos : Pos) : Prop where
  base : attributeBase o m X.env (eval o X.env) = eval o X.env
  few : ((backTo cpos (starEach [e, f] X.env)).all (fun x => !x.1) && (backToKw cpos (keywordEach [] X.env)).all (fun x => x.1.isSome)
    && decide (([e, f] : List Expr).length + ([] : List Keyword).length + (if ([] : List Keyword).isEmpty then 0 else 1) < 30)) = true
  line : (apos.endLine == cpos.line) = true
  trees : backTo cpos (starEach [e, f] X.env) = [(false, eval e X.env), (false, eval f X.env)]
section
variable {X : Cx} {pins : List (Addr × Obj)} {σ : St} {H : Hp} {s : Shared} {a : Addr} {y d : V} {u r : Value} {o : Option V} {A : Around} {E : Value → Shared → Prop}
end
section
variable {X : Cx} {o e f : Expr} {apos cpos : Pos} {td ty tx : TE}
end
section
variable {X : Cx} {pins : List (Addr × Obj)} {σ : St} {H : Hp} {s : Shared} {a : Addr} {kvs : List (Key × V)} {A : Around} {E : Value → Shared → Prop}
end
section
variable {X : Cx} {pins : List (Addr × Obj)} {σ : St} {H : Hp} {s : Shared} {a : Addr} {y : V} {u : Value} {A : Around} {E : Value → Shared → Prop}
end
end L2
namespace HT
open PySem PyProof.Rows
section
open PySem.SeqAt
open PySem.AutoSeq1 (wpAny_loadPart')
open PySem.MeetsSeq PySem.MeetsSeq2 PySem.MeetsSeq3
end
section
variable {prog : Program} {w : World} {A : Around} {E : Value → Shared → Prop} {s : Shared}
theorem cat_tup {t b : Addr} {vs ws : List Value} {Q : Value → Shared → Prop} (ht : IsTup s.heap t vs.toArray) (hb : IsTup s.heap b ws.toArray) (hv : vs ≠ [])
    (h1 : ws = [] → Q (.ref t) s) (h2 : ws ≠ [] → Q (.ref s.heap.objs.size) { s with heap := s.heap.push { cls := .type "tuple", data := .seq (vs ++ ws).toArray } })
    (hsz : vs.length + ws.length ≤ sizeLine) : wpAny (model prog w) A (binaryOp .Add (.ref t) (.ref b)) Q E s := by
  obtain ⟨⟨cls, dd, data, sl⟩, ho, hc, n, hd⟩ := id ht
  obtain ⟨⟨cls2, dd2, data2, sl2⟩, ho2, hc2, n2, hd2⟩ := id hb
  simp only at hc hd hc2 hd2
  subst hc hd hc2 hd2
  have e : vs.toArray ++ ws.toArray = (vs ++ ws).toArray := by simp
  by_cases hw : ws = []
  · exact concat_meets ⟨_, ho, rfl⟩ ⟨_, ho2, rfl⟩ noFill_tuple_add seq_tuple_add PySem.F.slot_tuple_add PySem.F.entry_tuple_add (PySem.F.args_tuple_add_2 _ _)
      (tuple_addW1 t b vs.toArray ws.toArray n n2 dd dd2 sl sl2 (by simpa using hv) (by simp [hw])) ⟨ho, ho2, h1 hw⟩
  · refine concat_meets ⟨_, ho, rfl⟩ ⟨_, ho2, rfl⟩ noFill_tuple_add seq_tuple_add PySem.F.slot_tuple_add PySem.F.entry_tuple_add (PySem.F.args_tuple_add_2 _ _)
      (tuple_addW2 t b vs.toArray ws.toArray n n2 dd dd2 sl sl2 (by simpa using hv) (by simpa using hw) (by rw [List.size_toArray, List.size_toArray]; exact hsz)) ⟨ho, ho2, ?_⟩
    rw [e]
    exact h2 hw
def sIx (n d : Nat) : Option Int → Nat
  | none => d
  | some v => if v < 0 then (v + (n : Int)).toNat else min v.toNat n
theorem sIx_none (n d : Nat) : sIx n d none = d := rfl
theorem sIx_nat (n d k : Nat) : sIx n d (some (k : Int)) = min k n := by
  show (if (k : Int) < 0 then ((k : Int) + (n : Int)).toNat else min (k : Int).toNat n) = min k n
  rw [if_neg (by omega), Int.toNat_natCast]
theorem sIx_le (n d : Nat) (hd : d ≤ n) (o : Option Int) : sIx n d o ≤ n := by
  cases o with
  | none => exact hd
  | some v =>
    show (if v < 0 then (v + (n : Int)).toNat else min v.toNat n) ≤ n
    by_cases hv : v < 0
    · rw [if_pos hv]; omega
    · rw [if_neg hv]; exact Nat.min_le_right _ _
theorem clip_eq (v : Int) (n d : Nat) : (if v < 0 then max (v + (n : Int)) 0 else min v (n : Int)) = ((sIx n d (some v) : Nat) : Int) := by
  show (if v < 0 then max (v + (n : Int)) 0 else min v (n : Int)) = (((if v < 0 then (v + (n : Int)).toNat else min v.toNat n) : Nat) : Int)
  by_cases hv : v < 0
  · simp only [if_pos hv]; omega
  · simp only [if_neg hv]; omega
theorem adjust_gen (lo hi : Option Int) (n : Nat) : Builtin.Slice.sliceAdjust lo hi 1 (n : Int) = (((sIx n 0 lo : Nat) : Int), ((sIx n n hi : Nat) : Int)) := by
  have h1 : ¬ ((1 : Int) < 0) := by omega
  unfold Builtin.Slice.sliceAdjust
  simp only [h1, if_false]
  refine Prod.ext ?_ ?_
  · cases lo with
    | none => rfl
    | some v => exact clip_eq v n 0
  · cases hi with
    | none => rfl
    | some v => exact clip_eq v n n
theorem places_gen (i j : Nat) : Builtin.Slice.slicePlaces (i : Int) (j : Int) 1 = j - i := by
  unfold Builtin.Slice.slicePlaces
  have h1 : (1 : Int) > 0 := by omega
  simp only [h1, if_true, Int.ediv_one]
  split <;> omega
theorem slicePart_ {v : Value} {o : Option Int} {Q : Option Int → Shared → Prop} (p : IsPart v o) (h : Q o s) : wpAny (model prog w) A (Builtin.Slice.slicePartIndex v) Q E s := by
  cases p with
  | none => exact slicePart_none h
  | int i t => exact slicePart_int h
theorem sliceApplied_gen {sl : Addr} {vl vu : Value} {lo hi : Option Int} {n : Nat} {Q : Int × Int × Nat → Shared → Prop} (hs : s.heap.IsSliceOf sl vl vu .none) (pl : IsPart vl lo) (pu : IsPart vu hi)
    (h : Q (((sIx n 0 lo : Nat) : Int), 1, sIx n n hi - sIx n 0 lo) s) : wpAny (model prog w) A (Builtin.Slice.sliceApplied (.ref sl) (pure (n : Int))) Q E s := by
  obtain ⟨os, hos, hcs, hds⟩ := id hs
  unfold Builtin.Slice.sliceApplied Builtin.Slice.sliceFields
  refine wpAny_bind (wpAny_bind (wpAny_field hos hds (x := vl) rfl (wpAny_bind (wpAny_field hos hds (x := vu) rfl (wpAny_bind (wpAny_field hos hds (x := .none) rfl (wpAny_pure ?_)))))))
  refine wpAny_bind (slicePart_none ?_)
  show wpAny _ _ (if ((1 : Int) == 0) = true then _ else _) _ _ s
  rw [if_neg (by decide)]
  refine wpAny_bind (slicePart_ pl (wpAny_bind (slicePart_ pu (wpAny_bind (wpAny_pure ?_)))))
  show wpAny _ _ (match Builtin.Slice.sliceAdjust lo hi 1 (n : Int) with | (lo, hi) => pure (lo, (1 : Int), Builtin.Slice.slicePlaces lo hi 1)) _ _ s
  rw [adjust_gen lo hi n]
  show wpAny _ _ (pure (((sIx n 0 lo : Nat) : Int), (1 : Int), Builtin.Slice.slicePlaces ((sIx n 0 lo : Nat) : Int) ((sIx n n hi : Nat) : Int) 1)) _ _ s
  rw [places_gen]
  exact wpAny_pure h
theorem pick_gen (xs : Array Value) (i k : Nat) : ((List.range k).filterMap fun (m : Nat) => xs[((i : Int) + (m : Int) * 1).toNat]?).toArray = ((xs.toList.drop i).take k).toArray := by
  have e : (fun (m : Nat) => xs[((i : Int) + (m : Int) * 1).toNat]?) = fun m => xs[i + m]? := by
    funext m
    have : ((i : Int) + (m : Int) * 1).toNat = i + m := by omega
    rw [this]
  rw [e]
  have := pick_run xs i k
  rw [List.filterMap_map] at this
  have e2 : ((fun x => xs[x]?) ∘ fun x => i + x) = fun m => xs[i + m]? := rfl
  rw [e2] at this
  rw [this]
theorem getItem_tuple_cut {t sl : Addr} {items : Array Value} {vl vu : Value} {lo hi : Option Int} {Q : Value → Shared → Prop} (ht : IsTup s.heap t items) (hs : s.heap.IsSliceOf sl vl vu .none) (pl : IsPart vl lo) (pu : IsPart vu hi)
    (hw : ¬ (sIx items.size 0 lo = 0 ∧ sIx items.size items.size hi = items.size))
    (h : Q (.ref s.heap.objs.size) { s with heap := s.heap.push { cls := .type "tuple", data := .seq ((items.toList.drop (sIx items.size 0 lo)).take (sIx items.size items.size hi - sIx items.size 0 lo)).toArray } })
    (hsz : items.size ≤ sizeLine) : wpAny (model prog w) A (getItem (.ref t) (.ref sl)) Q E s := by
  have htake : sizeOk (.seq ((items.toList.drop (sIx items.size 0 lo)).take (sIx items.size items.size hi - sIx items.size 0 lo)).toArray) := by
    show ((items.toList.drop (sIx items.size 0 lo)).take (sIx items.size items.size hi - sIx items.size 0 lo)).toArray.size ≤ sizeLine
    rw [List.size_toArray, List.length_take, List.length_drop, Array.length_toList]
    omega
  have hj : sIx items.size items.size hi ≤ items.size := sIx_le _ _ (Nat.le_refl _) hi
  obtain ⟨os, hos, hcs, hds⟩ := id hs
  have hTs : s.TypeIs (.ref sl) "slice" := ⟨os, hos, hcs⟩
  unfold getItem
  try with_reducible refine wpAny_holding ?_
  first | refine wpAny_bind (wpAny_pure ?_) | skip
  refine wpAny_bind (wpAny_sequenceKey ht.typeIs (by decide) ?_)
  refine wpAny_bind (wpAny_callSpecial?_slot (name := Str.ofString "__getitem__") ht.typeIs PyProof.Rows.slot_tuple_getitem
    (wpAny_call_entry PyProof.Rows.slot_tuple_getitem ht.typeIs entry_tuple_getitem ?_ (args_tuple_getitem _ _)))
  show wpAny _ _ (Builtin.Tuple.tupleItemsOf (.ref t) >>= _) _ _ s
  refine wpAny_bind (tupleItemsOf_ ht ?_)
  refine wpAny_bind (wpAny_typeOf hTs ?_)
  rw [if_pos (by decide)]
  refine wpAny_bind (sliceApplied_gen hs pl pu ?_)
  have hno : ¬ ((((sIx items.size 0 lo : Nat) : Int) == 0 && (1 : Int) == 1 && (sIx items.size items.size hi - sIx items.size 0 lo) == items.size) = true) := by
    intro q
    rw [Bool.and_eq_true, Bool.and_eq_true] at q
    have q1 : ((sIx items.size 0 lo : Nat) : Int) = 0 := eq_of_beq q.1.1
    have q2 : sIx items.size items.size hi - sIx items.size 0 lo = items.size := eq_of_beq q.2
    exact hw ⟨by omega, by omega⟩
  show wpAny _ _ (if (((sIx items.size 0 lo : Nat) : Int) == 0 && (1 : Int) == 1 && (sIx items.size items.size hi - sIx items.size 0 lo) == items.size) = true then _ else _) _ _ s
  rw [if_neg hno, pick_gen]
  first
    | exact wpAny_bind (m := Builtin.Tuple.tupleExact _) (wpAny_newObj_type (wpAny_pure ⟨_, rfl, wpAny_pure h⟩) htake)
    | exact wpAny_bind (m := Builtin.Tuple.tupleExact _) (wpAny_newObj_type (wpAny_bind (wpAny_pure (wpAny_pure ⟨_, rfl, wpAny_pure h⟩))) htake)
    | exact wpAny_bind (wpAny_bind (m := Builtin.Tuple.tupleExact _) (wpAny_newObj_type (wpAny_pure (wpAny_pure ⟨_, rfl, wpAny_pure h⟩)) htake))
    | exact wpAny_bind (wpAny_bind (m := Builtin.Tuple.tupleExact _) (wpAny_newObj_type (wpAny_pure ⟨_, rfl, wpAny_pure h⟩) htake))
end
end HT
namespace L2
open PySem PySem.Spec PyProof.Rows
abbrev TO := St → Hp → (Option Int → Hp → Prop) → Prop
def PO (X : Cx) (e : Option Expr) (t : TO) : Prop :=
  ∀ (pins : List (Addr × Obj)) (s : Shared) (σ : St) (H : Hp) (Q : Option Int → Hp → Prop), Inv X pins σ H s → t σ H Q →
    wpAny (model X.prog X.w) X.A (evalPart e X.env) (fun u s' => ∃ o H', Inv X pins σ H' s' ∧ IsPart u o ∧ Q o H') X.xe s
def tNoPart : TO := fun _ H Q => Q none H
def tPart (t : TE) : TO := fun σ H Q => t σ H fun x H1 => ∃ i, x = .int i ∧ Q (some i) H1
section
variable {X : Cx} {e : Expr} {te : TE} {lo hi : Option Expr} {tl th : TO} {pos p2 : Pos}
theorem po_none : PO X none tNoPart := by
  intro pins s σ H Q I h
  rw [evalPart_none]
  exact wpAny_pure ⟨none, H, I, .none, h⟩
theorem po_some (h : PE X e te) : PO X (some e) (tPart te) := by
  intro pins s σ H Q I hw
  rw [evalPart_some]
  refine thn (h pins s σ H _ I hw) fun u s1 ⟨x, H1, I1, r1, q1⟩ => ?_
  obtain ⟨i, rfl, q⟩ := q1
  obtain ⟨t, rfl⟩ := r1
  exact ⟨some i, H1, I1, .int i t, q⟩
def SlR (X : Cx) (r : V → Option Int → Option Int → Hp → VK → Prop) : Prop :=
  ∀ (pins : List (Addr × Obj)) (s : Shared) (σ : St) (H : Hp) (x : V) (v vl vu : Value) (lo hi : Option Int) (sl : Addr) (Q : VK), Inv X pins σ H s → RelV x v → s.heap.IsSliceOf sl vl vu .none → IsPart vl lo → IsPart vu hi → r x lo hi H Q →
    ∃ T id, typeLookup (.type T) "__getitem__" = pure (some (.builtin id)) ∧ s.TypeIs v T ∧ wpAny (model X.prog X.w) X.A (getItem v (.ref sl)) (EP X pins σ Q) X.xe s
theorem SlR.or {r r' : V → Option Int → Option Int → Hp → VK → Prop} (h : SlR X r) (h' : SlR X r') : SlR X (fun x lo hi H Q => r x lo hi H Q ∨ r' x lo hi H Q) := by
  intro pins s σ H x v vl vu lo hi sl Q I rx hs pl pu q
  rcases q with q | q
  · exact h pins s σ H x v vl vu lo hi sl Q I rx hs pl pu q
  · exact h' pins s σ H x v vl vu lo hi sl Q I rx hs pl pu q
def tSl (r : V → Option Int → Option Int → Hp → VK → Prop) (te : TE) (tl th : TO) : TE := fun σ H Q => te σ H fun x H1 => tl σ H1 fun l H2 => th σ H2 fun u H3 => r x l u H3 Q
theorem pe_slice {r : V → Option Int → Option Int → Hp → VK → Prop} (hr : SlR X r) (he : PE X e te) (hl : PO X lo tl) (hu : PO X hi th) : PE X (.Subscript e (.Slice lo hi none p2) pos) (tSl r te tl th) := by
  intro pins s σ H Q I h
  refine Subscript_ (thn (he pins s σ H _ I h) fun v s1 ⟨x, H1, I1, r1, q1⟩ => ?_)
  refine wpAny_Slice (thn (hl pins s1 σ H1 _ I1 q1) fun vl s2 ⟨l, H2, I2, pl, q2⟩ => thn (hu pins s2 σ H2 _ I2 q2) fun vu s3 ⟨u, H3, I3, pu, q3⟩ => ?_)
  rw [evalPart_none]
  refine wpAny_pure ?_
  have I4 : Inv X pins σ H3 { s3 with heap := s3.heap.push { cls := .type "slice", data := .fields #[vl, vu, .none] } } := I3.kept (t' := s3.toks) fun b ob q => Heap.get?_push_of_some _ q
  obtain ⟨T, id, hT, ht, hg⟩ := hr pins { s3 with heap := s3.heap.push { cls := .type "slice", data := .fields #[vl, vu, .none] } } σ H3 x v vl vu l u s3.heap.objs.size Q I4 r1 (Heap.IsSliceOf.new ..) pl pu q3
  show wpAny (model X.prog X.w) X.A (subscriptTail e (.Slice lo hi none p2) v (.ref s3.heap.objs.size)) (EP X pins σ Q) X.xe { s3 with heap := s3.heap.push { cls := .type "slice", data := .fields #[vl, vu, .none] } }
  exact tail_any (ops := [.ref s3.heap.objs.size, v]) ht hT hg (by with_unfolding_all rfl)
def cutV (xs : List V) (lo hi : Option Int) : List V := (xs.drop (HT.sIx xs.length 0 lo)).take (HT.sIx xs.length xs.length hi - HT.sIx xs.length 0 lo)
theorem cutV_length (xs : List V) (lo hi : Option Int) : (cutV xs lo hi).length ≤ xs.length := by
  unfold cutV
  rw [List.length_take, List.length_drop]
  omega
def rSlT (K : PySem.W.Frag) : V → Option Int → Option Int → Hp → VK → Prop := fun x lo hi H Q => ∃ a xs, x = .ref a ∧ SqT K H a xs ∧
  ¬ (HT.sIx xs.length 0 lo = 0 ∧ HT.sIx xs.length xs.length hi = xs.length) ∧ ∀ p, H p = none → Q (.ref p) (upd H p (.tup (cutV xs lo hi)))
theorem sl_tup : SlR X (rSlT X.K) := by
  intro pins s σ H x v vl vu lo hi sl Q I rx hs pl pu h
  obtain ⟨a, xs, rfl, hx, hw, q⟩ := h
  cases rx
  obtain ⟨its, r, ht, hz⟩ := I.tuple hx
  have hlen : its.toArray.size = xs.length := by rw [List.size_toArray]; exact r.length.symm
  refine ⟨"tuple", _, PyProof.Rows.slot_tuple_getitem.lookup, ht.typeIs, ?_⟩
  refine HT.getItem_tuple_cut ht hs pl pu (by rw [hlen]; exact hw) ?_ (by rw [hlen]; exact hz)
  rw [hlen]
  refine ⟨.ref s.heap.objs.size, _, I.laid (t' := s.toks) (o := .tup (cutV xs lo hi)) (fun b ob q => Heap.get?_push_of_some _ q) (Nat.le_refl _) ?_, rfl, q _ (I.hok.fresh (Nat.le_refl _))⟩
  exact ⟨Nat.le_trans (cutV_length xs lo hi) hz, _, (r.drop (HT.sIx xs.length 0 lo)).take (HT.sIx xs.length xs.length hi - HT.sIx xs.length 0 lo), IsTup.new _ _⟩
def rCatT (K : PySem.W.Frag) : R2 := fun x y H Q => ∃ a b xs ys, x = .ref a ∧ y = .ref b ∧ SqT K H a xs ∧ SqT K H b ys ∧ xs ≠ [] ∧ xs.length + ys.length ≤ sizeLine ∧
  (ys = [] → Q (.ref a) H) ∧ (ys ≠ [] → ∀ p, H p = none → Q (.ref p) (upd H p (.tup (xs ++ ys))))
theorem Vals.nil_iff {xs : List V} {us : List Value} (r : Vals xs us) : us = [] ↔ xs = [] := by
  cases r with
  | nil => simp
  | cons _ _ => simp
theorem op_catT : OpR X (binaryOp .Add) (rCatT X.K) := by
  intro pins s σ H x y v u Q I rx ry h
  obtain ⟨a, b, xs, ys, rfl, rfl, ha, hb, hx, hz, q1, q2⟩ := h
  cases rx
  cases ry
  obtain ⟨its, r1, p1, _⟩ := I.tuple ha
  obtain ⟨its2, r2, p2, _⟩ := I.tuple hb
  refine HT.cat_tup p1 p2 (fun z => hx (r1.nil_iff.mp z)) (fun z => ⟨.ref a, H, I, rfl, q1 (r2.nil_iff.mp z)⟩) (fun z => ?_) (by rw [← r1.length, ← r2.length]; exact hz)
  refine ⟨.ref s.heap.objs.size, _, I.laid (t' := s.toks) (o := .tup (xs ++ ys)) (fun b ob q => Heap.get?_push_of_some _ q) (Nat.le_refl _) ?_, rfl, q2 (fun w => z (r2.nil_iff.mpr w)) _ (I.hok.fresh (Nat.le_refl _))⟩
  exact ⟨by rw [List.length_append]; exact hz, _, r1.append r2, IsTup.new _ _⟩
end
end L2
namespace L2
open PySem PySem.Spec PyProof.Rows
def ixN (n : Nat) (i : Int) : Option Nat := if 0 ≤ i then (if i < n then some i.toNat else none) else if -(n : Int) ≤ i then some (i + n).toNat else none
def atI {α : Type} (xs : List α) (i : Int) : Option α := (ixN xs.length i).bind fun j => xs[j]?
theorem ixN_seq {n : Nat} {i : Int} {j : Nat} (h : ixN n i = some j) : seqIndex? i n = some j ∧ j < n ∧ -(n : Int) ≤ i ∧ i < n := by
  unfold ixN at h
  by_cases h0 : 0 ≤ i
  · rw [if_pos h0] at h
    by_cases h1 : i < n
    · rw [if_pos h1] at h
      have e : i.toNat = j := Option.some.inj h
      exact ⟨by rw [seqIndex_of h0 h1, e], by omega, by omega, h1⟩
    · rw [if_neg h1] at h; cases h
  · rw [if_neg h0] at h
    by_cases h1 : -(n : Int) ≤ i
    · rw [if_pos h1] at h
      have e : (i + n).toNat = j := Option.some.inj h
      exact ⟨by rw [seqIndex_neg (by omega) h1, e], by omega, h1, by omega⟩
    · rw [if_neg h1] at h; cases h
theorem atI_get {α : Type} {xs : List α} {i : Int} {v : α} (h : atI xs i = some v) : ∃ j, seqIndex? i xs.length = some j ∧ xs[j]? = some v ∧ j < xs.length ∧ -(xs.length : Int) ≤ i ∧ i < xs.length := by
  unfold atI at h
  cases e : ixN xs.length i with
  | none => rw [e] at h; cases h
  | some j =>
    rw [e] at h
    obtain ⟨h1, h2, h3, h4⟩ := ixN_seq e
    exact ⟨j, h1, h, h2, h3, h4⟩
def PlainIx (b : Expr) : Prop := ∀ o i, subscripted b false o i = operate [o, i] (getItem o i)
def IxR (X : Cx) (r : R2) : Prop :=
  ∀ (value slice : Expr) (pins : List (Addr × Obj)) (s : Shared) (σ : St) (H : Hp) (x y : V) (v u : Value) (Q : VK), Inv X pins σ H s → RelV x v → RelV y u → r x y H Q →
    subscripted slice false v u = operate [v, u] (getItem v u) → wpAny (model X.prog X.w) X.A (subscriptTail value slice v u) (EP X pins σ Q) X.xe s
def MtR (X : Cx) (id : String) (r : V → List V → Hp → VK → Prop) : Prop :=
  ∀ (pins : List (Addr × Obj)) (s : Shared) (σ : St) (H : Hp) (x : V) (xs : List V) (v : Value) (us : List Value) (Q : VK), Inv X pins σ H s → RelV x v → Vals xs us → r x xs H Q →
    wpAny (model X.prog X.w) X.A (call (.builtin id) (v :: us)) (EP X pins σ Q) X.xe s
section
variable {X : Cx} {a b : Expr} {ta tb : TE} {pos : Pos}
theorem pe_ix {r : R2} (hr : IxR X r) (ha : PE X a ta) (hb : PE X b tb) (hs : PlainIx b) : PE X (.Subscript a b pos) (tOp r ta tb) := by
  intro pins s σ H Q I h
  exact Subscript_ (binT ha hb I h fun v u s2 x y H2 I2 rx ry q => hr a b pins s2 σ H2 x y v u Q I2 rx ry q (hs _ _))
def rIxL (K : PySem.W.Frag) : R2 := fun x y H Q => ∃ p xs i v, x = .ref p ∧ y = .int i ∧ SqL K H p xs ∧ atI xs i = some v ∧ Q v H
def rIxT (K : PySem.W.Frag) : R2 := fun x y H Q => ∃ p xs i v, x = .ref p ∧ y = .int i ∧ SqT K H p xs ∧ atI xs i = some v ∧ Q v H
def rIxS : R2 := fun x y H Q => ∃ z i c, x = .str z ∧ y = .int i ∧ z.length ≤ sizeLine ∧ atI z.cps.toList i = some c ∧ Q (.str ⟨#[c]⟩) H
theorem ix_list : IxR X (rIxL X.K) := by
  intro value slice pins s σ H x y v u Q I rx ry h hs
  obtain ⟨p, xs, i, z, rfl, rfl, hq, he, q⟩ := h
  cases rx
  obtain ⟨t, rfl⟩ := ry
  obtain ⟨its, r, pl, hz⟩ := I.list hq
  obtain ⟨j, h1, h2, h3, h4, h5⟩ := atI_get he
  obtain ⟨w, ew, rw'⟩ := r.get h2
  have hl := r.length
  have hn := line63
  have fin : EP X pins σ Q w s := ⟨z, H, I, rw', q⟩
  by_cases h0 : 0 ≤ i
  · have hj : i.toNat = j := by
      rw [seqIndex_of h0 h5] at h1
      exact Option.some.inj h1
    exact item_listR pl.isList h0 (by omega) (by rw [hj]; simpa using ew) fin hs
  · have hj : (i + (its.toArray.size : Int)).toNat = j := by
      rw [seqIndex_neg (by omega) h4] at h1
      rw [List.size_toArray, ← hl]
      exact Option.some.inj h1
    exact subscriptTail_builtinR (x := w) pl.isList.typeIs slot_list_getitem.lookup
      (wpAny_getItem_list_neg (Q := fun r s' => r = w ∧ EP X pins σ Q r s') pl.isList (by omega) (by rw [List.size_toArray] <;> omega) (by omega) (by rw [hj]; simpa using ew) ⟨rfl, fin⟩) hs
theorem ix_tup : IxR X (rIxT X.K) := by
  intro value slice pins s σ H x y v u Q I rx ry h hs
  obtain ⟨p, xs, i, z, rfl, rfl, hq, he, q⟩ := h
  cases rx
  obtain ⟨t, rfl⟩ := ry
  obtain ⟨its, r, pl, hz⟩ := I.tuple hq
  obtain ⟨j, h1, h2, h3, h4, h5⟩ := atI_get he
  obtain ⟨w, ew, rw'⟩ := r.get h2
  have hl := r.length
  have hn := line63
  have fin : EP X pins σ Q w s := ⟨z, H, I, rw', q⟩
  exact subscriptTail_builtinR (x := w) pl.typeIs slot_tuple_getitem.lookup
    (getItem_tuple (j := j) (Q := fun r s' => r = w ∧ EP X pins σ Q r s') pl (by omega) (by omega) (by rw [List.size_toArray, ← hl]; exact h1) (by simpa using ew) ⟨rfl, fin⟩) hs
theorem ix_str : IxR X rIxS := by
  intro value slice pins s σ H x y v u Q I rx ry h hs
  obtain ⟨z, i, c, rfl, rfl, hz, he, q⟩ := h
  obtain ⟨t, rfl⟩ := rx
  obtain ⟨t', rfl⟩ := ry
  obtain ⟨j, h1, h2, h3, h4, h5⟩ := atI_get he
  have hl : z.cps.toList.length = z.length := by simp [Str.length]
  rw [hl] at h1 h4 h5
  have hn := line63
  exact tail_any (typeIs_str s z t) slot_str_getitem.lookup (getItem_str (c := c) (by
    have e1 : decide (i < -(2 ^ 63 : Int)) = false := decide_eq_false (by omega)
    have e2 : decide (i ≥ 2 ^ 63) = false := decide_eq_false (by omega)
    rw [e1, e2, Bool.or_false]) (by rw [h1]; simpa using h2) ⟨.str ⟨#[c]⟩, H, I.tok _, ⟨_, rfl⟩, q⟩) hs
theorem mapSeq_set (its : List Value) (n j : Nat) (u : Value) : Obj.mapSeq (·.setIfInBounds j u) { cls := .type "list", data := .seq its.toArray n } = { cls := .type "list", data := .seq (its.set j u).toArray n } := by
  simp [Obj.mapSeq]
theorem Inv.lst {pins : List (Addr × Obj)} {σ : St} {H : Hp} {s : Shared} {p : Addr} {xs : List V} (I : Inv X pins σ H s) (h : H p = some (.lst xs)) :
    ∃ (its : List Value) (n : Nat), Vals xs its ∧ s.heap.get? p = some { cls := .type "list", data := .seq its.toArray n } ∧ xs.length ≤ sizeLine := by
  obtain ⟨z, its, n, r, e⟩ := I.hok p _ h
  exact ⟨its, n, r, e, z⟩
theorem Inv.lstUpd {pins : List (Addr × Obj)} {σ : St} {H : Hp} {s : Shared} {p : Addr} {xs ys : List V} {its its' : List Value} {n n' : Nat} {f : Obj → Obj} (I : Inv X pins σ H s) (h : H p = some (.lst xs))
    (ho : s.heap.get? p = some { cls := .type "list", data := .seq its.toArray n }) (hf : f { cls := .type "list", data := .seq its.toArray n } = { cls := .type "list", data := .seq its'.toArray n' }) (r : Vals ys its') (hz : ys.length ≤ sizeLine) (t : Nat) :
    Inv X pins σ (upd H p (.lst ys)) { s with heap := s.heap.update p f, toks := t } := by
  have e : (s.heap.update p f).get? p = some { cls := .type "list", data := .seq its'.toArray n' } := by
    rw [Heap.get?_update_self f ho (by rw [hf] <;> rfl), hf]
  refine I.write (x := p) (e := p) (by rw [h]; trivial) (.inl rfl) (fun b u hb q => (Heap.get?_update_other _ _ (Ne.symm hb)).trans q) ⟨_, e⟩ ?_
  exact ⟨hz, its', n', r, e⟩
def rSetL : V → V → V → Hp → (Hp → Prop) → Prop := fun o i v H Q => ∃ p xs k j, o = .ref p ∧ i = .int k ∧ H p = some (.lst xs) ∧ ixN xs.length k = some j ∧ Q (upd H p (.lst (xs.set j v)))
theorem set_list : PSet X rSetL := by
  intro pins s σ H o i v ov iv u Q I ro ri rv h
  obtain ⟨p, xs, k, j, rfl, rfl, hp, hj, q⟩ := h
  cases ro
  obtain ⟨t, rfl⟩ := ri
  obtain ⟨its, n, r, ho, hz⟩ := I.lst hp
  obtain ⟨h1, h2, h3, h4⟩ := ixN_seq hj
  have hl := r.length
  have hn := line63
  have I' : Inv X pins σ (upd H p (.lst (xs.set j v))) { s with heap := s.heap.update p (Obj.mapSeq (·.setIfInBounds j u)) } :=
    I.lstUpd hp ho (mapSeq_set its n j u) (r.set rv j) (by rw [List.length_set]; exact hz) s.toks
  by_cases h0 : 0 ≤ k
  · have hk : k.toNat = j := by
      rw [seqIndex_of h0 h4] at h1
      exact Option.some.inj h1
    exact PySem.W.ki_setAt ho h0 (by omega) (by rw [List.size_toArray, ← hl]; exact h4) (by rw [hk]; exact ⟨_, I', q⟩)
  · have hk : (k + (its.toArray.size : Int)).toNat = j := by
      rw [seqIndex_neg (by omega) h3] at h1
      rw [List.size_toArray, ← hl]
      exact Option.some.inj h1
    exact PySem.W.ki_setBack ho (by omega) (by rw [List.size_toArray, ← hl]; exact h3) (by omega) (by rw [hk]; exact ⟨_, I', q⟩)
theorem slice_bounds (lo hi : Option Int) (n : Nat) : (sliceBounds lo hi none n).1 = ((HT.sIx n 0 lo : Nat) : Int) ∧ (sliceBounds lo hi none n).2.1 = ((HT.sIx n n hi : Nat) : Int) ∧ (sliceBounds lo hi none n).2.2 = 1 := by
  refine ⟨?_, ?_, rfl⟩
  · cases lo with
    | none => simp [sliceBounds, HT.sIx]
    | some i =>
      simp only [sliceBounds, HT.sIx, Option.getD_none, show (1 : Int) > 0 by decide, if_true]
      by_cases h : i < 0
      · simp only [h, if_true] <;> omega
      · simp only [h, if_false] <;> omega
  · cases hi with
    | none => simp [sliceBounds, HT.sIx]
    | some i =>
      simp only [sliceBounds, HT.sIx, Option.getD_none, show (1 : Int) > 0 by decide, if_true]
      by_cases h : i < 0
      · simp only [h, if_true] <;> omega
      · simp only [h, if_false] <;> omega
theorem slicePick_cut (its : List Value) (lo hi : Option Int) : slicePick its.toArray lo hi none = ((its.drop (HT.sIx its.length 0 lo)).take (HT.sIx its.length its.length hi - HT.sIx its.length 0 lo)).toArray := by
  obtain ⟨h1, h2, h3⟩ := slice_bounds lo hi its.toArray.size
  unfold slicePick
  rw [h1, h2, h3]
  simp only [sliceRange_one, pick_run, List.size_toArray] <;> rfl
def rSlL (K : PySem.W.Frag) : V → Option Int → Option Int → Hp → VK → Prop := fun x lo hi H Q => ∃ a xs, x = .ref a ∧ SqL K H a xs ∧ ∀ p, H p = none → Q (.ref p) (upd H p (.lst (cutV xs lo hi)))
theorem sl_list : SlR X (rSlL X.K) := by
  intro pins s σ H x v vl vu lo hi sl Q I rx hs pl pu h
  obtain ⟨a, xs, rfl, hx, q⟩ := h
  cases rx
  obtain ⟨its, r, ht, hz⟩ := I.list hx
  have hlen := r.length
  refine ⟨"list", _, slot_list_getitem.lookup, ht.isList.typeIs, ?_⟩
  refine wpAny_getItem_list_slice ht.isList hs pl pu .none (by simp) ?_ (by rw [List.size_toArray] <;> omega)
  rw [slicePick_cut, ← hlen]
  refine ⟨.ref s.heap.objs.size, _, I.laid (t' := s.toks) (o := .lst (cutV xs lo hi)) (fun b ob q => Heap.get?_push_of_some _ q) (Nat.le_refl _) ?_, rfl, q _ (I.hok.fresh (Nat.le_refl _))⟩
  exact ⟨Nat.le_trans (cutV_length xs lo hi) hz, _, 0, (r.drop (HT.sIx xs.length 0 lo)).take (HT.sIx xs.length xs.length hi - HT.sIx xs.length 0 lo), Heap.get?_push_size _ rfl⟩
def flatV : V → Bool
  | .non => true
  | .bl _ => true
  | .int _ => true
  | .str _ => true
  | _ => false
def eqV : V → V → Bool
  | .non, .non => true
  | .bl a, .bl b => a == b
  | .bl a, .int b => (if a then 1 else 0) == b
  | .int a, .bl b => a == (if b then 1 else 0)
  | .int a, .int b => a == b
  | .str a, .str b => a == b
  | _, _ => false
theorem eqAt_V {A : Around} {s : Shared} {y x : V} {u v : Value} (ry : RelV y u) (rx : RelV x v) (fy : flatV y = true) (fx : flatV x = true) : SeqAt.EqAt A s u v (eqV y x) := by
  cases y with
  | non =>
    cases ry
    cases x with
    | non => cases rx; exact SeqAt.EqAt.same _
    | bl b => cases rx; exact SeqAt.EqAt.none_bool b
    | int b => obtain ⟨t, rfl⟩ := rx; exact SeqAt.EqAt.none_int b t
    | str b => obtain ⟨t, rfl⟩ := rx; exact SeqAt.EqAt.none_str b t
    | _ => exact absurd (show false = true from fx) Bool.false_ne_true
  | bl a =>
    cases ry
    cases x with
    | non => cases rx; exact SeqAt.EqAt.bool_none a
    | bl b => cases rx; exact SeqAt.EqAt.bool_bool a b
    | int b => obtain ⟨t, rfl⟩ := rx; exact SeqAt.EqAt.bool_int a b t
    | str b => obtain ⟨t, rfl⟩ := rx; exact SeqAt.EqAt.bool_str a b t
    | _ => exact absurd (show false = true from fx) Bool.false_ne_true
  | int a =>
    obtain ⟨t', rfl⟩ := ry
    cases x with
    | non => cases rx; exact SeqAt.EqAt.int_none a t'
    | bl b => cases rx; exact SeqAt.EqAt.int_bool a t' b
    | int b => obtain ⟨t, rfl⟩ := rx; exact SeqAt.EqAt.int_int a t' b t
    | str b => obtain ⟨t, rfl⟩ := rx; exact SeqAt.EqAt.int_str a t' b t
    | _ => exact absurd (show false = true from fx) Bool.false_ne_true
  | str a =>
    obtain ⟨t', rfl⟩ := ry
    cases x with
    | non => cases rx; exact SeqAt.EqAt.str_none a t'
    | bl b => cases rx; exact SeqAt.EqAt.str_bool a t' b
    | int b => obtain ⟨t, rfl⟩ := rx; exact SeqAt.EqAt.str_int a t' b t
    | str b => obtain ⟨t, rfl⟩ := rx; exact SeqAt.EqAt.str_str a t' b t
    | _ => exact absurd (show false = true from fx) Bool.false_ne_true
  | _ => exact absurd (show false = true from fy) Bool.false_ne_true
def eqU (x : V) (u : Value) : Bool := match u with
  | .none => eqV .non x
  | .bool b => eqV (.bl b) x
  | .int i _ => eqV (.int i) x
  | .str z _ => eqV (.str z) x
  | _ => false
theorem eqU_of {x y : V} {u : Value} (r : RelV y u) (f : flatV y = true) : eqU x u = eqV y x := by
  cases y with
  | non => cases r; rfl
  | bl b => cases r; rfl
  | int i => obtain ⟨t, rfl⟩ := r; rfl
  | str z => obtain ⟨t, rfl⟩ := r; rfl
  | _ => exact absurd (show false = true from f) Bool.false_ne_true
theorem any_eqU {x : V} : ∀ {xs : List V} {us : List Value}, Vals xs us → xs.all flatV = true → us.any (eqU x) = xs.any fun y => eqV y x
  | _, _, .nil, _ => rfl
  | y :: xs, u :: us, .cons r t, f => by
    rw [List.all_cons, Bool.and_eq_true] at f
    rw [List.any_cons, List.any_cons, eqU_of r f.1, any_eqU t f.2]
theorem mem_eqAt {A : Around} {s : Shared} {x : V} {v : Value} (rx : RelV x v) (fx : flatV x = true) : ∀ {xs : List V} {us : List Value}, Vals xs us → xs.all flatV = true → ∀ u ∈ us, SeqAt.EqAt A s u v (eqU x u)
  | _, _, .nil, _ => fun u hu => by cases hu
  | y :: xs, u :: us, .cons r t, f => fun u' hu => by
    rw [List.all_cons, Bool.and_eq_true] at f
    rcases List.mem_cons.mp hu with rfl | hu
    · rw [eqU_of r f.1]; exact eqAt_V r rx f.1 fx
    · exact mem_eqAt rx fx t f.2 u' hu
def inV (x : V) (xs : List V) : Bool := xs.any fun y => eqV y x
def rIn (K : PySem.W.Frag) (neg : Bool) : R2 := fun x y H Q => ∃ p xs, y = .ref p ∧ (SqL K H p xs ∨ SqT K H p xs) ∧ flatV x = true ∧ xs.all flatV = true ∧ Q (.bl (if neg then !inV x xs else inV x xs)) H
theorem op_in_seq : OpR X (compareOp .In) (rIn X.K false) := by
  intro pins s σ H x y v u Q I rx ry h
  obtain ⟨p, xs, rfl, hq, fx, fs, q⟩ := h
  cases ry
  rcases hq with hq | hq
  · obtain ⟨its, r, pl, hz⟩ := I.list hq
    refine SeqAt.in_listAt (eqU x) pl.isList (fun w hw => mem_eqAt rx fx r fs w (by simpa using hw)) ⟨.bl _, H, I, rfl, ?_⟩
    rw [show its.toArray.any (eqU x) = its.any (eqU x) by simp, any_eqU r fs]
    exact q
  · obtain ⟨its, r, pl, hz⟩ := I.tuple hq
    refine SeqAt.in_tupleAt (eqU x) pl (fun w hw => mem_eqAt rx fx r fs w (by simpa using hw)) ⟨.bl _, H, I, rfl, ?_⟩
    rw [show its.toArray.any (eqU x) = its.any (eqU x) by simp, any_eqU r fs]
    exact q
theorem call_len_seq : CallR X (.builtin "len") (fun xs H Q => ∃ p ys, xs = [.ref p] ∧ (SqL X.K H p ys ∨ SqT X.K H p ys) ∧ Q (.int ys.length) H) := by
  intro pins s σ H xs us Q I r h
  obtain ⟨p, ys, rfl, hq, q⟩ := h
  obtain ⟨u, rfl, rx⟩ := vals1 r
  cases rx
  have hn := line63
  rcases hq with hq | hq
  · obtain ⟨its, r', pl, hz⟩ := I.list hq
    have hlen := r'.length
    exact Calls.call_len_list pl.isList (by simp only [List.size_toArray] <;> omega) ⟨.int ys.length, H, I.tok _, ⟨s.toks + 1, by rw [List.size_toArray, hlen]⟩, q⟩
  · obtain ⟨its, r', pl, hz⟩ := I.tuple hq
    have hlen := r'.length
    exact len_tuple pl (by simp only [List.size_toArray] <;> omega) ⟨.int ys.length, H, I.tok _, ⟨s.toks + 1, by rw [List.size_toArray, hlen]⟩, q⟩
theorem call_len_str : CallR X (.builtin "len") (fun xs H Q => ∃ z, xs = [.str z] ∧ z.length ≤ sizeLine ∧ Q (.int z.length) H) := by
  intro pins s σ H xs us Q I r h
  obtain ⟨z, rfl, hz, q⟩ := h
  obtain ⟨u, rfl, t, rfl⟩ := vals1 r
  have hn := line63
  exact len_str (by omega) ⟨.int z.length, H, I.tok _, ⟨_, rfl⟩, q⟩
theorem call_list_of : CallR X (.type "list") (fun xs H Q => ∃ p ys, xs = [.ref p] ∧ (SqL X.K H p ys ∨ SqT X.K H p ys) ∧ ∀ l, H l = none → Q (.ref l) (upd H l (.lst ys))) := by
  intro pins s σ H xs us Q I r h
  obtain ⟨p, ys, rfl, hq, q⟩ := h
  obtain ⟨u, rfl, rx⟩ := vals1 r
  cases rx
  have fin : ∀ (its : List Value), Vals ys its → ys.length ≤ sizeLine → ∀ (h' : Heap) (c' : Nat), (∀ b o', s.heap.get? b = some o' → h'.get? b = some o') →
      h'.get? s.heap.objs.size = some { cls := .type "list", dict := none, data := .seq its.toArray c', slots := #[] } → EP X pins σ Q (.ref s.heap.objs.size) { s with heap := h' } := fun its r' hz h' c' kp e =>
    ⟨.ref s.heap.objs.size, _, I.laid (t' := s.toks) kp (Nat.le_refl _) (show ObjOk X.prog X.w _ h' _ (.lst ys) from ⟨hz, its, c', r', e⟩), rfl, q _ (I.hok.fresh (Nat.le_refl _))⟩
  rcases hq with hq | hq
  · obtain ⟨its, r', pl, hz⟩ := I.list hq
    have hlen := r'.length
    obtain ⟨o, ho, hc, n, hd⟩ := pl.isList
    exact call_list_seq p (.inl rfl) ho hc hd (fun h' c' kp e => fin its r' hz h' c' kp e) (by simp only [List.size_toArray] <;> omega)
  · obtain ⟨its, r', pl, hz⟩ := I.tuple hq
    have hlen := r'.length
    obtain ⟨o, ho, hc, n, hd⟩ := pl
    exact call_list_seq p (.inr rfl) ho hc hd (fun h' c' kp e => fin its r' hz h' c' kp e) (by simp only [List.size_toArray] <;> omega)
theorem call_tuple_of : CallR X (.type "tuple") (fun xs H Q => ∃ p ys, xs = [.ref p] ∧ ((SqL X.K H p ys ∧ ∀ l, H l = none → Q (.ref l) (upd H l (.tup ys))) ∨ (SqT X.K H p ys ∧ Q (.ref p) H))) := by
  intro pins s σ H xs us Q I r h
  obtain ⟨p, ys, rfl, h⟩ := h
  obtain ⟨u, rfl, rx⟩ := vals1 r
  cases rx
  rcases h with ⟨hq, q⟩ | ⟨hq, q⟩
  · obtain ⟨its, r', pl, hz⟩ := I.list hq
    have hlen := r'.length
    refine call_tuple_list pl.isList (fun h' kp => ?_) (by simp only [List.size_toArray] <;> omega)
    have I1 : Inv X pins σ H { s with heap := h' } := I.kept (t' := s.toks) kp
    have I2 : Inv X pins σ (upd H h'.objs.size (.tup ys)) { s with heap := h'.push { cls := .type "tuple", data := .seq its.toArray } } :=
      I1.laid (t' := s.toks) (fun b o e => Heap.get?_push_of_some _ e) (Nat.le_refl _) (show ObjOk X.prog X.w _ _ _ (.tup ys) from ⟨hz, its, r', IsTup.new _ _⟩)
    exact ⟨.ref h'.objs.size, _, I2, rfl, q _ (I1.hok.fresh (Nat.le_refl _))⟩
  · obtain ⟨its, r', pl, hz⟩ := I.tuple hq
    exact call_tuple_same pl ⟨.ref p, H, I, rfl, q⟩
def tyV (K : PySem.W.Frag) (T : String) (x : V) (H : Hp) : Prop := match x with
  | .str _ => T = "str"
  | .int _ => T = "int"
  | .ref p => (T = "list" ∧ ∃ xs, SqL K H p xs) ∨ (T = "tuple" ∧ ∃ o, K.lookup p = some o ∧ o.cls = .type "tuple" ∧ o.dict = none) ∨
      (T = "dict" ∧ ((∃ kvs, H p = some (.dK kvs)) ∨ ∃ kvs, H p = some (.dT kvs))) ∨ (T = "set" ∧ ∃ S n, H p = some (.set S n))
  | _ => False
theorem tyV_is {pins : List (Addr × Obj)} {σ : St} {H : Hp} {s : Shared} {T : String} {x : V} {v : Value} (I : Inv X pins σ H s) (r : RelV x v) (ty : tyV X.K T x H) :
    s.TypeIs v T ∧ ∀ a, v = .ref a → ∃ ob, s.heap.get? a = some ob ∧ ob.dict = none := by
  cases x with
  | str z =>
    obtain ⟨t, rfl⟩ := r
    cases (show T = "str" from ty)
    exact ⟨typeIs_str s z t, fun _ e => nomatch e⟩
  | int i =>
    obtain ⟨t, rfl⟩ := r
    cases (show T = "int" from ty)
    exact ⟨typeIs_int s i t, fun _ e => nomatch e⟩
  | ref p =>
    cases r
    rcases ty with ⟨rfl, xs, hq⟩ | ⟨rfl, o, hk, hc, hd⟩ | ⟨rfl, hk⟩ | ⟨rfl, S, n, hk⟩
    · obtain ⟨its, _, pl, _⟩ := I.list hq
      refine ⟨pl.isList.typeIs, fun a e => ?_⟩
      cases e
      obtain ⟨o, n, e, c, hd, _⟩ := pl
      exact ⟨o, e, hd⟩
    · refine ⟨⟨o, I.kIn p o hk, hc⟩, fun a e => ?_⟩
      cases e
      exact ⟨o, I.kIn _ o hk, hd⟩
    · have z : ∃ o, s.heap.get? p = some o ∧ o.ExactDict := by
        rcases hk with ⟨kvs, hk⟩ | ⟨kvs, hk⟩
        · obtain ⟨_, _, _, _, o, _, _, e, ex, _⟩ := I.hok p _ hk
          exact ⟨o, e, ex⟩
        · obtain ⟨_, _, _, _, o, _, _, e, ex, _⟩ := I.hok p _ hk
          exact ⟨o, e, ex⟩
      obtain ⟨o, e, ex⟩ := z
      refine ⟨⟨o, e, ex.1⟩, fun a e2 => ?_⟩
      cases e2
      exact ⟨o, e, ex.2.1⟩
    · obtain ⟨o, _, _, _, e, ex, _⟩ := I.hok p _ hk
      refine ⟨⟨o, e, ex.1⟩, fun a e2 => ?_⟩
      cases e2
      exact ⟨o, e, ex.2.1⟩
  | _ => exact False.elim ty
def tBM (K : PySem.W.Frag) (T : String) (r : V → List V → Hp → VK → Prop) (to : TE) (t : TA) : TE := fun σ H Q => to σ H fun x H1 => tyV K T x H1 ∧ t σ H1 fun xs H2 => r x xs H2 Q
variable {o e : Expr} {es : List Expr} {to : TE} {t : TA} {name : Str} {apos cpos : Pos} {T id : String} {r : V → List V → Hp → VK → Prop}
theorem pe_bm (pa : PlainAttrs T) (slot : Slot T name id) (hty : typeOf (.builtin id) = pure (.type "method_descriptor")) (hm : MtR X id r) (ho : PE X o to) (ha : PA X (e :: es) t)
    (hbase : attributeBase o name X.env (eval o X.env) = eval o X.env := by rfl)
    (hfew : ((backTo cpos (starEach (e :: es) X.env)).all (fun x => !x.1) && (backToKw cpos (keywordEach [] X.env)).all (fun x => x.1.isSome)
      && decide ((e :: es).length + ([] : List Keyword).length + (if ([] : List Keyword).isEmpty then 0 else 1) < 30)) = true := by rfl)
    (hline : (apos.endLine == cpos.line) = true := by rfl) (hs : starEach (e :: es) X.env = (false, eval e X.env) :: starEach es X.env := by rfl) (hplain : (backTo cpos (starEach es X.env)).any (·.1) = false := by rfl) :
    PE X (.Call (.Attribute o name apos) (e :: es) [] cpos) (tBM X.K T r to t) := by
  intro pins s σ H Q I h
  refine wpAny_Call_method_late hbase hfew hline rfl (thn (ho pins s σ H _ I h) fun v s1 ⟨x, H1, I1, r1, ty, q1⟩ => ?_)
  obtain ⟨h1, h2⟩ := tyV_is I1 r1 ty
  refine ⟨T, id, pa, slot, hty, h1, h2, ?_⟩
  have hA := ha cpos pins s1 σ H1 _ I1 q1
  rw [hs] at hA ⊢
  refine Calls.callWith_builtin (by show (false || (backTo cpos (starEach es X.env)).any (·.1)) = false; rw [hplain] <;> rfl) (Calls.evalArgs_plain ?_)
  exact thn hA fun us s2 ⟨vs, H2, I2, r2, q2⟩ => hm pins s2 σ H2 x vs v us Q I2 r1 r2 q2
/- xs.append(e), list.index on a module's tuple .. are MtR facts of 06m -/
end
end L2
namespace L2
open PySem PySem.Spec PyProof.Rows
def MtM (X : Cx) (id : String) (r : V → List V → Hp → VK → Prop) : Prop :=
  ∀ (pins : List (Addr × Obj)) (s : Shared) (σ : St) (H : Hp) (x : V) (xs : List V) (v : Value) (us : List Value) (Q : VK), Inv X pins σ H s → RelV x v → Vals xs us → r x xs H Q →
    wpAny (model X.prog X.w) X.A (call (.builtin id) (v :: us)) (EP X pins σ Q) X.xe s
theorem Vals.one : ∀ {x : V} {us : List Value}, Vals [x] us → ∃ u, us = [u] ∧ RelV x u
  | _, _, .cons r .nil => ⟨_, rfl, r⟩
theorem Vals.two : ∀ {x y : V} {us : List Value}, Vals [x, y] us → ∃ u v, us = [u, v] ∧ RelV x u ∧ RelV y v
  | _, _, _, .cons r (.cons q .nil) => ⟨_, _, rfl, r, q⟩
theorem Vals.rep {xs : List V} {us : List Value} (h : Vals xs us) : ∀ k : Nat, Vals (List.replicate k xs).flatten (List.replicate k us).flatten
  | 0 => .nil
  | k + 1 => by
    rw [List.replicate_succ, List.replicate_succ, List.flatten_cons, List.flatten_cons]
    exact Vals.append h (Vals.rep h k)
theorem foldl_rep (its : List Value) : ∀ (k : Nat) (acc : List Value),
    List.foldl (fun x1 x2 => x1 ++ x2) acc.toArray (List.replicate k its.toArray) = (acc ++ (List.replicate k its).flatten).toArray
  | 0, acc => by simp
  | k + 1, acc => by
    have e : acc.toArray ++ its.toArray = (acc ++ its).toArray := by simp
    have e2 : (acc ++ its) ++ (List.replicate k its).flatten = acc ++ (List.replicate (k + 1) its).flatten := by
      rw [List.replicate_succ, List.flatten_cons, List.append_assoc]
    rw [← e2, ← foldl_rep its k (acc ++ its), ← e, List.replicate_succ, List.foldl_cons]
section
variable {X : Cx} {pins : List (Addr × Obj)} {σ : St} {H : Hp} {s : Shared} {l b : Addr} {xs ys zs : List V}
theorem Inv.lset {its its' : List Value} {n : Nat} {f : Array Value → Array Value} {t' : Nat} (I : Inv X pins σ H s) (hH : H l = some (.lst xs))
    (e : s.heap.get? l = some { cls := .type "list", data := .seq its.toArray n }) (hf : f its.toArray = its'.toArray) (hv : Vals ys its') (hz : ys.length ≤ sizeLine) :
    Inv X pins σ (upd H l (.lst ys)) { s with heap := s.heap.update l (Obj.mapSeq f), toks := t' } := by
  have q := PySem.IsL.update e f
  rw [hf] at q
  refine I.write (x := l) (e := l) (by rw [hH]; exact trivial) (.inl rfl) (fun b' u hb hu => (Heap.get?_update_other s.heap (Obj.mapSeq f) (Ne.symm hb)).trans hu) ⟨_, q⟩ ?_
  exact ⟨hz, its', _, hv, q⟩
theorem Inv.lnew {its : List Value} {t' : Nat} (I : Inv X pins σ H s) (hv : Vals ys its) (hz : ys.length ≤ sizeLine) :
    Inv X pins σ (upd H s.heap.objs.size (.lst ys)) { s with heap := s.heap.push { cls := .type "list", data := .seq its.toArray }, toks := t' } :=
  I.laid (fun _ _ q => Heap.get?_push_of_some _ q) (Nat.le_refl _) ⟨hz, its, 0, hv, Heap.get?_push_size _ rfl⟩
theorem Inv.fresh (I : Inv X pins σ H s) : H s.heap.objs.size = none := I.hok.fresh (Nat.le_refl _)
theorem Inv.lstM (I : Inv X pins σ H s) (hH : H l = some (.lst xs)) : xs.length ≤ sizeLine ∧ ∃ (its : List Value) (n : Nat), Vals xs its ∧ xs.length = its.length ∧ s.heap.get? l = some { cls := .type "list", data := .seq its.toArray n } := by
  obtain ⟨z, its, n, r, e⟩ := I.hok l _ hH
  exact ⟨z, its, n, r, r.length, e⟩
theorem notLongL {n : Nat} (h : n ≤ sizeLine) : Builtin.List.listTooLong n = false := by
  unfold Builtin.List.listTooLong
  exact decide_eq_false (by omega)
end
section
variable {X : Cx}
def rAppend : V → List V → Hp → VK → Prop := fun x vs H Q => ∃ l xs y, x = .ref l ∧ vs = [y] ∧ H l = some (.lst xs) ∧ xs.length < sizeLine ∧ Q .non (upd H l (.lst (xs ++ [y])))
theorem mt_append : MtM X "list.append" rAppend := by
  intro pins s σ H x vs v us Q I rx rv h
  obtain ⟨l, xs, y, rfl, rfl, hH, hz, q⟩ := h
  cases rx
  obtain ⟨u, rfl, ru⟩ := rv.one
  obtain ⟨z, its, n, r, hl, e⟩ := I.lstM hH
  refine call_meets F.slot_list_append ⟨_, e, rfl⟩ F.entry_list_append (F.args_list_append_2 _ _) (PySem.list_append l its.toArray n u (by rw [List.size_toArray]; omega)) ⟨e, ?_⟩
  refine ⟨.non, _, I.lset (its' := its ++ [u]) hH e (by simp) (r.append (.cons ru .nil)) ?_, rfl, q⟩
  rw [List.length_append, List.length_singleton]
  omega
def rExtend : V → List V → Hp → VK → Prop := fun x vs H Q => ∃ l b xs zs, x = .ref l ∧ vs = [.ref b] ∧ H l = some (.lst xs) ∧ H b = some (.lst zs) ∧ xs.length + zs.length ≤ sizeLine ∧ Q .non (upd H l (.lst (xs ++ zs)))
theorem mt_extend : MtM X "list.extend" rExtend := by
  intro pins s σ H x vs v us Q I rx rv h
  obtain ⟨l, b, xs, zs, rfl, rfl, hH, hB, hz, q⟩ := h
  cases rx
  obtain ⟨u, rfl, ru⟩ := rv.one
  cases ru
  obtain ⟨z, its, n, r, hl, e⟩ := I.lstM hH
  obtain ⟨z2, its2, n2, r2, hl2, e2⟩ := I.lstM hB
  have hsz : its.toArray.size + its2.toArray.size ≤ sizeLine := by rw [List.size_toArray, List.size_toArray]; omega
  have hlong : ¬ (!its.toArray.isEmpty && Builtin.List.listTooLong (its.toArray.size + its2.toArray.size)) = true := by
    rw [notLongL hsz, Bool.and_false]
    exact Bool.false_ne_true
  refine call_meets F.slot_list_extend ⟨_, e, rfl⟩ F.entry_list_extend (F.args_list_extend_2 _ _)
    (AutoSeq1.list_extend_list_list_0 l its.toArray n b its2.toArray n2 hlong (by rw [List.size_toArray]; omega) (by omega)) ⟨e, e2, ?_⟩
  refine ⟨.non, _, I.lset (its' := its ++ its2) hH e (by simp) (r.append r2) ?_, rfl, q⟩
  rw [List.length_append]
  omega
def rCat : R2 := fun x y H Q => ∃ l b xs zs, x = .ref l ∧ y = .ref b ∧ H l = some (.lst xs) ∧ H b = some (.lst zs) ∧ xs.length + zs.length ≤ sizeLine ∧ ∀ p, H p = none → Q (.ref p) (upd H p (.lst (xs ++ zs)))
theorem op_cat : OpR X (binaryOp .Add) rCat := by
  intro pins s σ H x y v u Q I rx ry h
  obtain ⟨l, b, xs, zs, rfl, rfl, hH, hB, hz, q⟩ := h
  cases rx
  cases ry
  obtain ⟨z, its, n, r, hl, e⟩ := I.lstM hH
  obtain ⟨z2, its2, n2, r2, hl2, e2⟩ := I.lstM hB
  refine PySem.P.add_list e e2 ?_ (by rw [List.size_toArray, List.size_toArray]; omega)
  have ea : its.toArray ++ its2.toArray = (its ++ its2).toArray := by simp
  rw [ea]
  exact ⟨.ref _, _, I.lnew (t' := s.toks) (r.append r2) (by rw [List.length_append]; omega), rfl, q _ I.fresh⟩
def rRep : R2 := fun x y H Q => ∃ l k xs, x = .ref l ∧ y = .int k ∧ H l = some (.lst xs) ∧ -(2 ^ 63) ≤ k ∧ k < 2 ^ 63 ∧ xs.length * k.toNat ≤ sizeLine ∧
  ∀ p, H p = none → Q (.ref p) (upd H p (.lst (List.replicate k.toNat xs).flatten))
theorem len_rep {α : Type} (xs : List α) (k : Nat) : (List.replicate k xs).flatten.length = k * xs.length := by
  induction k with
  | zero => simp
  | succ k ih => rw [List.replicate_succ, List.flatten_cons, List.length_append, ih, Nat.succ_mul, Nat.add_comm]
theorem op_rep : OpR X (binaryOp .Mult) rRep := by
  intro pins s σ H x y v u Q I rx ry h
  obtain ⟨l, k, xs, rfl, rfl, hH, h1, h2, hz, q⟩ := h
  cases rx
  obtain ⟨t, rfl⟩ := ry
  obtain ⟨z, its, n, r, hl, e⟩ := I.lstM hH
  have hlen : its.toArray.size * k.toNat ≤ sizeLine := by rw [List.size_toArray, ← hl]; exact hz
  have hcap : ¬ its.toArray.size * k.toNat > (2 ^ 63 - 1) / 8 := by
    have : (sizeLine : Nat) ≤ (2 ^ 63 - 1) / 8 := by decide
    omega
  have hfit : ¬ (!Builtin.List.listFitsIndex k) = true := by
    rw [fitsIndex_both h1 h2]
    exact Bool.false_ne_true
  have hlong : ¬ Builtin.List.listTooLong (its.toArray.size * k.toNat) = true := by
    rw [notLongL hlen]
    exact Bool.false_ne_true
  have hnew : List.foldl (fun x1 x2 => x1 ++ x2) #[] (List.replicate (if its.toArray.isEmpty = true then 0 else k.toNat) its.toArray) = (List.replicate k.toNat its).flatten.toArray := by
    have f0 : ∀ m : Nat, List.foldl (fun x1 x2 => x1 ++ x2) #[] (List.replicate m its.toArray) = (List.replicate m its).flatten.toArray := fun m => by
      have := foldl_rep its m []
      rw [List.nil_append] at this
      exact this
    rw [f0]
    cases its with
    | nil => simp
    | cons a r' => rw [if_neg (by simp)]
  refine wpAny_binaryOp_repeat_ref (T := "list") (U := "int") (by decide) ⟨_, e, rfl⟩ (fun s' => typeIs_int s' k t) noFill_list_mul F.fills_int_mul F.slot_int_rmul repeat_list F.slot_int_index.lookup
    (call_meets F.slot_int_rmul (typeIs_int s k t) F.entry_int_rmul (F.args_int_rmul_2 _ _) (int___rmul___int_list k t l its.toArray n)
      ⟨e, rfl, ⟨_, e, rfl⟩, call_meets F.slot_list_mul ⟨_, e, rfl⟩ F.entry_list_mul (F.args_list_mul_2 _ _) (AutoListH.list___mul___list_int_3 l its.toArray n k t hfit hcap hlong) ⟨e, ?_⟩⟩)
  rw [hnew]
  exact ⟨.ref _, _, I.lnew (t' := s.toks) (r.rep k.toNat) (by rw [len_rep, Nat.mul_comm]; exact hz), rfl, q _ I.fresh⟩
end
section
variable {prog : Program} {w : World} {A : Around} {E : Value → Shared → Prop} {s : Shared}
theorem bounds_run {a c n : Nat} (hac : a ≤ c) (hc : c ≤ n) : sliceBounds (some (a : Int)) (some (c : Int)) none n = ((a : Int), (c : Int), 1) := by
  simp only [sliceBounds, Option.getD_none]
  have h1 : ¬ ((a : Int) < 0) := by omega
  have h2 : ¬ ((c : Int) < 0) := by omega
  simp only [h1, h2, if_false, show (1 : Int) > 0 by decide, if_true]
  congr 1
  · omega
  · congr 1; omega
set_option maxRecDepth 100000 in
theorem setItem_slice {l b sl : Addr} {items new : Array Value} {n n2 : Nat} {vl vu : Value} {a c : Nat} {Q : Unit → Shared → Prop}
    (e : s.heap.get? l = some { cls := .type "list", data := .seq items n }) (e2 : s.heap.get? b = some { cls := .type "list", data := .seq new n2 }) (hne : l ≠ b)
    (hs : s.heap.IsSliceOf sl vl vu .none) (pl : IsPart vl (some (a : Int))) (pu : IsPart vu (some (c : Int))) (hac : a ≤ c) (hc : c ≤ items.size)
    (hsz : items.size + new.size ≤ sizeLine) (h : Q () { s with heap := s.heap.update l (Obj.mapSeq fun xs => xs.extract 0 a ++ new ++ xs.extract c xs.size) }) :
    wpAny (model prog w) A (setItem (.ref l) (.ref sl) (.ref b)) Q E s := by
  have hl : s.heap.IsList l items := PySem.IsL.isList e
  have hb : s.heap.IsList b new := PySem.IsL.isList e2
  obtain ⟨os, hos, hcs, hds⟩ := id hs
  have hTs : s.TypeIs (.ref sl) "slice" := ⟨os, hos, hcs⟩
  have hstep : ¬ ((rawPart none == rawInt 0) = true) := Bool.false_ne_true
  have hsame : Builtin.List.listSameRef (.ref l) (.ref b) = false := by
    unfold Builtin.List.listSameRef
    exact beq_eq_false_iff_ne.mpr hne
  have hmax : (max (a : Int) (c : Int)).toNat = c := by omega
  have hz' : ((fun xs : Array Value => xs.extract 0 a ++ new ++ xs.extract c xs.size) items).size ≤ sizeLine + 1 := by
    simp only [Array.size_append, Array.size_extract]
    omega
  unfold setItem
  try with_reducible refine wpAny_holding ?_
  first | refine wpAny_bind (wpAny_pure ?_) | skip
  refine wpAny_bind (wpAny_sequenceKey hl.typeIs (by decide) ?_)
  refine wpAny_bind (wpAny_callSpecial?_slot (name := Str.ofString "__setitem__") hl.typeIs slot_list_setitem
    (wpAny_call_entry slot_list_setitem hl.typeIs entry_list_setitem ?_ (args_list_setitem _ _ _)))
  show wpAny _ _ (Builtin.List.listSubscript? (.ref sl) >>= _) _ _ s
  refine wpAny_bind ?_
  unfold Builtin.List.listSubscript?
  refine wpAny_bind (wpAny_specialOf hTs slice_no_index ?_)
  simp only [Option.isNone_none, if_true]
  refine wpAny_pure ?_
  show wpAny _ _ (typeOf (.ref sl) >>= _) _ _ s
  refine wpAny_bind (wpAny_typeOf hTs ?_)
  first
    | rw [if_neg (by decide)]
    | refine PySem.W.KFB.if_not (by decide) ?_
  rw [listSliceParts_eq]
  refine wpAny_bind (wpAny_bind (wpAny_field hos hds (x := .none) rfl (wpAny_bind (wpAny_listPart .none ?_))))
  rw [if_neg hstep]
  refine wpAny_bind (wpAny_field hos hds (x := vl) rfl (wpAny_bind (wpAny_listPart pl ?_)))
  refine wpAny_bind (wpAny_field hos hds (x := vu) rfl (wpAny_bind (wpAny_listPart pu (wpAny_pure ?_))))
  first
    | simp only [hsame, Bool.false_eq_true, if_false]
    | refine PySem.W.KFB.if_not hsame ?_
    | (dsimp only
       rw [if_neg (by rw [hsame]; exact Bool.false_ne_true)])
  refine wpAny_bind (m := Builtin.List.listAllItems (.ref b) "must assign iterable to extended slice") ?_
  unfold Builtin.List.listAllItems
  refine wpAny_bind (wpAny_typeOf hb.typeIs ?_)
  first
    | refine PySem.W.KFB.if_so (by decide) ?_
    | rw [if_pos (by decide)]
    | simp only [beq_self_eq_true, Bool.true_or, if_true]
  unfold Builtin.List.listItems
  refine wpAny_bind (wpAny_seqItems e2 rfl (wpAny_pure ?_))
  refine wpAny_bind (wpAny_bind (wpAny_seqItems e rfl (wpAny_pure ?_)))
  refine wpAny_bind (wpAny_of_eq ((sliceIndices_raw (some (a : Int)) (some (c : Int)) none items.size (by simp)).trans (congrArg (pure : Int × Int × Int → Sem (Int × Int × Int)) (bounds_run hac hc))) ?_)
  show wpAny _ _ (if ((1 : Int) == 1) = true then _ else _) _ _ s
  rw [if_pos (by decide)]
  refine wpAny_bind (wpAny_rule ?_)
  first
    | simp only [notLongL hsz, Bool.false_eq_true, if_false]
    | refine PySem.W.KFB.if_not (notLongL hsz) ?_
  first | refine wpAny_bind (wpAny_pure ?_) | skip
  show wpAny _ _ (updateSeq l (fun xs => xs.extract 0 ((a : Int)).toNat ++ new ++ xs.extract (max (a : Int) (c : Int)).toNat xs.size) >>= _) _ _ s
  rw [hmax, Int.toNat_natCast]
  refine wpAny_bind (wpAny_updateSeq (hz := Nat.le_trans (Nat.le_add_right _ _) hsz) (_hz' := hz') e rfl ?_)
  refine wpAny_bind (wpAny_letGo ?_)
  first
    | exact wpAny_bind (wpAny_pure (wpAny_pure ⟨.none, rfl, wpAny_pure h⟩))
    | exact wpAny_pure ⟨.none, rfl, wpAny_pure h⟩
end
section
variable {X : Cx}
end
end L2
namespace Att
open PySem PySem.W PySem.Calls PyProof.Rows
theorem ints_of_wellAll {P : Params} {h : Heap} : ∀ (ns : List Int) (vs : List Value), WellAll P h vs (ns.map WData.int) → IntsAre vs ns := by
  intro ns
  induction ns with
  | nil =>
    intro vs w
    rw [List.map_nil] at w
    cases w
    exact .nil
  | cons n ns ih =>
    intro vs w
    rw [List.map_cons] at w
    cases w with
    | cons a b =>
      cases a
      exact .cons _ _ (ih _ b)
theorem script_of {l : OpenLaw} {n : Nat} (hn : l.most = some n) {P : Params} {h : Heap} {args : List WData} {vals : List Value}
    (hpre : l.row.toRowW.claim.pre args = true) (hwl : WellAll P h vals args) :
    ∃ a vs ns, vals = [Value.ref a] ∧ args = [WData.list (ns.map WData.int)] ∧ h.get? a = some { cls := .type "list", data := .seq vs.toArray } ∧ IntsAre vs ns ∧ ns.length ≤ n := by
  have hsh : WShape.hasAll [] args [.list .int] = true := (pre_splitW hpre).1
  have hc : l.pre.holds [] { args := args } = true := (pre_splitW hpre).2
  obtain ⟨d, r, rfl, h1, h2⟩ := hasAllW_cons hsh
  obtain rfl := hasAllW_nil h2
  obtain ⟨xs, rfl, h3⟩ := hasW_list h1
  obtain ⟨ns, rfl⟩ := items_int h3
  have hlen : ns.length ≤ n := by
    unfold OpenLaw.pre at hc
    have h4 : (WTm.not (.lt (.lit (.int (n : Int))) (.len (.arg 0)))).holds [] { args := [.list (ns.map .int)] } = true := by
      have h4 := (holds_andW hc).1
      rw [hn] at h4
      exact h4
    have h5 := condW_of h4 (w_not (w_lt w_lit (w_len_list (w_arg rfl))))
    rw [List.length_map] at h5
    refine Nat.le_of_not_lt fun q => ?_
    have q' : (n : Int) < ((ns.length : Nat) : Int) := by omega
    first
      | (rw [decide_eq_true q'] at h5; exact absurd h5 (by decide))
      | (simp at h5; omega)
  cases hwl with
  | cons w1 w2 =>
    cases w2
    cases w1 with
    | list ho hall => exact ⟨_, _, ns, rfl, rfl, ho, ints_of_wellAll ns _ hall, hlen⟩
theorem post_true (l : OpenLaw) (args : List WData) : l.row.toRowW.claim.post args (.bool true) args = true :=
  postW_of (r := l.row.toRowW) (X := (true == true))
    (show WShape.has [] (.bool true) .bool = true by first | rfl | decide | simp [WShape.has, WShape.arms, WShape.armsAll])
    (show (WTm.eq .res (.lit (.bool true))).value [] { args := args, res := some (.bool true), after := args } = some (.bool (true == true)) from w_eq_bool (w_res rfl) w_lit) rfl
theorem attach_call {l : OpenLaw} {n : Nat} {q : Program} {loose : List Str} {XP : (Str → Option Value) → Heap → Prop} {YP : World → Heap → Prop} {d : DefRec}
    (hn : l.most = some n) (hdf : d.params.defaults = [])
    (call : ∀ (w : World) (s₀ s₁ : Shared) (mg mb : Str → Option Value) (fa : Addr) (o : Obj) (pm cd doc : Value) (a : Addr) (vs : List Value) (ns : List Int),
      Ground q loose [] XP w s₀ mg mb s₁.heap → YP w s₁.heap →
      s₁.heap.get? fa = some o → o.data = .func (docDef d.name d.params d.body d.scope pm cd doc) → s₁.heap.CodeRec cd d.name → mg d.name = some (.ref fa) →
      s₁.heap.get? a = some { cls := .type "list", data := .seq vs.toArray } → IntsAre vs ns → ns.length ≤ n → s₁.gens = #[] →
      codeAny (model l.prog w) callerA (.call (.ref fa) ⟨[.ref a], []⟩) (fun r s' => r = .ok (.ret (.bool true)) ∧ OldK s₁.heap s'.heap ∧ s'.os = s₁.os ∧ AllBare s'.gens) s₁) :
    WalkO q loose XP YP l.row.toRowW d [] (fun f vs => PySem.call f vs) := by
  intro w s₀ s₁ mg mb G Y fa o pm cd doc dV kV ho hd hcd hD hmg hg args vals as hpre hlay hrd hwl hlo
  obtain rfl : dV = .none := Dflts.none hD hdf
  obtain rfl : kV = .none := Dflts.noKw hD
  obtain ⟨a, vs, ns, rfl, rfl, hobj, hints, hlen⟩ := script_of hn hpre hwl
  refine enter_call (codeAny_mono (call w s₀ s₁ mg mb fa o pm cd doc a vs ns G Y ho (fd_plain hd) hcd hmg hobj hints hlen hg) fun r s' hq => ?_)
  obtain ⟨rfl, h2, h3, h4⟩ := hq
  exact ⟨.inl ⟨.bool true, .bool true, [], rfl, fun _ => rfl, .bool true, post_true l _, fun _ => ⟨List.Pairwise.nil, fun _ hm => (nomatch hm)⟩⟩, h2, h3, h4⟩
section
variable {prog : Program} {w : World} {A : Around} {E : Value → Shared → Prop} {s : Shared} {K : Frag}
end
end Att
namespace L2
open PySem PySem.Spec PyProof.Rows
theorem vals_ints : ∀ {vs : List Value} {ns : List Int}, IntsAre vs ns → Vals (ns.map V.int) vs
  | _, _, .nil => .nil
  | _, _, .cons n t h => .cons ⟨t, rfl⟩ (vals_ints h)
def Only (H : Hp) : Prop := ∀ b, H b = none ∨ ∃ o xs, H b = some (.frz o (.lst xs))
theorem law_call {P : Program} {w : World} {K : PySem.W.Frag} {mg mb : Str → Option Value} {CX : CXT} {k : Nat} {fa a : Addr} {fd : FuncData} {x : Str} {sp : Sp} {s₁ : Shared} {vs : List Value} {ns : List Int}
    (KX : K.In s₁.heap) (hns : s₁.heap.Ns mainGlobals mg) (hb : s₁.heap.Ns builtinsNs mb) (hbb : ∀ x : Str, x ≠ "__name__" → mb x = bootBuiltins x) (hlim : s₁.heap.NoLimit) (hg : s₁.gens = #[])
    (ha : s₁.heap.get? a = some { cls := .type "list", data := .seq vs.toArray }) (hi : IntsAre vs ns) (hl : ns.length ≤ sizeLine) (hr : Room k callerA)
    (F : ∀ base : Heap, K.In base → base.Ns mainGlobals mg → FnOk P w K mg base CX k fa fd [x] sp) (hbind : ∀ (s : Shared) (u : Value), BindsTo s fd ⟨[u], []⟩ [(x, u)])
    (hsp : ∀ H : Hp, Only H → SqL K H a (ns.map V.int) → sp [.ref a] H (fun v _ => v = .bl true) fun _ _ _ => False)
    (hCX : ∀ H e s', CX [] H s₁ (fun _ _ _ => False) e s' → False) :
    codeAny (model P w) callerA (.call (.ref fa) ⟨[.ref a], []⟩) (fun r s' => r = .ok (.ret (.bool true)) ∧ OldK s₁.heap s'.heap ∧ s'.os = s₁.os ∧ AllBare s'.gens) s₁ := by
  have rv := vals_ints hi
  have lenV := hi.length
  have core : ∀ H : Hp, Only H → SqL K H a (ns.map V.int) → HOk P w H s₁.heap → (∀ b, H b ≠ none → b = a) → (H a ≠ none → K.lookup a = none) →
      codeAny (model P w) callerA (.call (.ref fa) ⟨[.ref a], []⟩) (fun r s' => r = .ok (.ret (.bool true)) ∧ OldK s₁.heap s'.heap ∧ s'.os = s₁.os ∧ AllBare s'.gens) s₁ := by
    intro H hO hS hok hA hK
    have base_of : ∀ {b : Addr} {o : Obj}, s₁.heap.get? b = some o → H b = none → (hidT s₁.heap H).get? b = some o := fun e n => hidT_get e n
    have noA : ∀ {b : Addr} {o : Obj} {es : Array DictEntry} {ep : Nat}, s₁.heap.get? b = some o → o.data = .dict es ep → H b = none := fun {b o es ep} e d => by
      cases q : H b with
      | none => rfl
      | some u =>
        have e' : b = a := hA b (by rw [q]; simp)
        subst e'
        rw [ha] at e; cases e
        have d' : Data.seq vs.toArray _ = Data.dict es ep := d
        cases d'
    have nsK : ∀ {b : Addr} {m : Str → Option Value}, s₁.heap.Ns b m → (hidT s₁.heap H).Ns b m := fun {b m} ⟨o, es, ep, e, d, r⟩ => ⟨o, es, ep, base_of e (noA e d), d, r⟩
    have hKb : K.In (hidT s₁.heap H) := fun b o e => base_of (KX b o e) (by
      cases q : H b with
      | none => rfl
      | some u =>
        have e' : b = a := hA b (by rw [q]; simp)
        subst e'
        rw [hK (by rw [q]; simp)] at e; cases e)
    have hM : Mod K mg (hidT s₁.heap H) := ⟨hKb, nsK hns, ⟨mb, nsK hb, hbb⟩, let ⟨mc, h1, h2⟩ := hlim; ⟨mc, nsK h1, h2⟩⟩
    have e0 : Env0 P w K mg (hidT s₁.heap H) callerA [] s₁ H := ⟨rfl, hM, fun b o e => of_hidT e, Nat.le_of_eq (hidT_size _ _), trivial, fun b hb => absurd (show b ∈ ([] : List Addr) from hb) (by simp), hok, .of_eq hg⟩
    refine codeAny_mono ((F _ hKb (nsK hns)).run callerA [] s₁ H ⟨[.ref a], []⟩ [.ref a] [.ref a] _ _ hr e0 (hbind s₁ (.ref a)) (.cons rfl .nil) (hsp H hO hS)) fun r s' h => ?_
    cases r with
    | error e => exact (hCX H e s' h).elim
    | ok fl =>
      cases fl with
      | next => exact False.elim h
      | brk => exact False.elim h
      | cont => exact False.elim h
      | ret u =>
        obtain ⟨v, H', os, bare, un, hok', r', q⟩ := h
        have q' : v = .bl true := q
        subst q'
        obtain rfl : u = Value.bool true := r'
        refine ⟨rfl, OldK.of_keep fun b o e => ?_, os, bare⟩
        cases q : H b with
        | none => exact un.keep b o e q (by intro z; exact absurd (show b ∈ ([] : List Addr) from z) (by simp)) (by simp)
        | some u =>
          rcases hO b with z | ⟨ob, xs, z⟩
          · rw [q] at z; cases z
          · have z2 := un.frzs b ob _ z
            obtain ⟨e1, _⟩ := hok b _ z
            obtain ⟨e2, _⟩ := hok' b _ z2
            rw [e] at e1; cases e1
            exact e2
  cases hk : K.lookup a with
  | some o =>
    have e := KX a o hk
    rw [ha] at e
    cases e
    refine core (fun _ => none) (fun _ => .inl rfl) (.inr ⟨_, vs.toArray, _, hk, rfl, rfl, rfl, by rw [List.size_toArray, lenV]; exact hl, by simpa using rv⟩) (fun b u z => by have z' : (none : Option HO) = some u := z; cases z') (fun b z => absurd rfl z) fun z => absurd rfl z
  | none =>
    refine core (fun b => if b = a then some (.frz { cls := .type "list", data := .seq vs.toArray } (.lst (ns.map V.int))) else none) (fun b => ?_) (.inl (.inr ⟨{ cls := .type "list", data := .seq vs.toArray }, if_pos rfl⟩)) (fun b u z => ?_) (fun b z => ?_) fun _ => hk
    · by_cases hb : b = a
      · exact .inr ⟨_, _, if_pos hb⟩
      · exact .inl (if_neg hb)
    · by_cases hb : b = a
      · have z' := (if_pos hb).symm.trans z
        cases z'
        subst hb
        exact ⟨ha, by rw [List.length_map]; exact hl, vs, _, rv, ha⟩
      · have z' := (if_neg hb).symm.trans z
        cases z'
    · by_cases hb : b = a
      · exact hb
      · exact absurd (if_neg hb) z
end L2
namespace L2
open PySem PySem.Spec PyProof.Rows
abbrev KOf {K : PySem.W.Frag} {h : Heap} (_ : K.In h) : PySem.W.Frag := K
theorem walk_of {l : PySem.W.OpenLaw} {n k : Nat} {q : Program} {loose : List Str} {XP : (Str → Option Value) → Heap → Prop} {YP : World → Heap → Prop} {d : DefRec} {K : Params → PySem.W.Frag} {CX : World → CXT} {sp : World → Sp} {x : Str}
    (hn : l.most = some n) (hn2 : n ≤ sizeLine) (hdf : d.params.defaults = []) (hr : Room k callerA)
    (hY : ∀ (w : World) (h : Heap), YP w h → (K w.params).In h)
    (F : ∀ (w : World) (mg : Str → Option Value) (fa : Addr) (h : Heap), (K w.params).In h → h.Ns mainGlobals mg → mg d.name = some (.ref fa) →
      ∃ fd : FuncData, (∀ (s : Shared) (u : Value), BindsTo s fd ⟨[u], []⟩ [(x, u)]) ∧
        ∀ base : Heap, (K w.params).In base → base.Ns mainGlobals mg → FnOk l.prog w (K w.params) mg base (CX w) k fa fd [x] (sp w))
    (hsp : ∀ (w : World) (H : Hp) (a : Addr) (ns : List Int), ns.length ≤ n → Only H → SqL (K w.params) H a (ns.map V.int) → sp w [.ref a] H (fun v _ => v = .bl true) fun _ _ _ => False)
    (hCX : ∀ (w : World) (H : Hp) (s : Shared) (e : Value) (s' : Shared), CX w [] H s (fun _ _ _ => False) e s' → False) :
    PySem.W.WalkO q loose XP YP l.row.toRowW d [] (fun f vs => PySem.call f vs) := by
  refine Att.attach_call hn hdf fun w s₀ s₁ mg mb fa o pm cd doc a vs ns G Y ho hd hcd hmg hobj hints hlen hg => ?_
  have KX := hY w _ Y
  obtain ⟨fd, hb, hF⟩ := F w mg fa _ KX G.T.g hmg
  exact law_call KX G.T.g G.T.b G.T.builtins G.T.nolimit hg hobj hints (Nat.le_trans hlen hn2) hr hF hb (fun H hO hS => hsp w H a ns hlen hO hS) fun H e s' => hCX w H s₁ e s'
end L2
/- THE LAST THEOREM (shape; LID, My.* are yours):
   My.Adr: a structure of the addresses that your layer names (classes, functions); My.Txt K t: a structure (Prop) of the equations over K;
   My.txt_mk : {K} {implicit addresses ..} (e1 : nsIn K mainGlobals "law" = some (some (.ref f))) (e2 : K.lookup f = some ⟨oc, od, .func (fnOf "law" "law" params body scope dV kV doc pm an cdv ct), sl⟩) (e3 : codeIn K cdv "law" = true) .. : ∃ t, My.Txt K t
set_option maxRecDepth 100000 in
set_option maxHeartbeats 0 in
theorem PySem.Challenge.cw_LID_holds : PySem.Challenge.rw_LID.Holds := by
  w_on; o_law; k_head; (case hw => w_witness2)
  k_fill
  refine L2.walk_of (l := PySem.Challenge.rw_LID) (n := 63) (k := 40) (x := "script") (CX := fun w => ..) (sp := fun _ => My.sp_law) rfl (by decide) rfl ⟨rfl, by decide, by decide⟩ (fun w h Y => PySem.W.kIn_of Y) ?F ?S ?C
  case F =>
    intro w mg fa h KX G hmg
    have T : ∃ t, My.Txt (L2.KOf KX) t := by
      dsimp only [L2.KOf]                          -- K must stand as «<heap const> w.params» for k_is
      refine' My.txt_mk ?e1 ?e2 ?e3 ..
      (case e1 => PySem.W.k_is)                    -- in the order: a name -> its address -> its object -> its parts
      (case e2 => PySem.W.k_is)
      ..
    obtain ⟨t, T⟩ := T
    have e0 := hmg.symm.trans (PySem.W.mg_of KX G T.law)
    cases e0                                       -- fa is the law's own address
    exact ⟨_, fun s u => .of_eq rfl, fun base kb nb => My.law_fn T kb nb⟩     -- if «.of_eq rfl» comes too early: refine' ⟨_, ?b, fun base kb nb => My.law_fn T kb nb⟩; exact fun s u => .of_eq rfl
  case S => exact fun w H a ns hl hO hS => ..
  case C => exact ..
(the tactic k_is has no namespace: write k_is) -/
namespace L2
open PySem PySem.Spec PyProof.Rows
def defArgs (s : Stmt) : Arguments := match s with
  | .FunctionDef _ a _ _ _ _ _ _ _ _ => a
  | _ => { posonlyargs := [], args := [], vararg := none, kwonlyargs := [], kw_defaults := [], kwarg := none, defaults := [] }
def defBody (s : Stmt) : List Stmt := match s with
  | .FunctionDef _ _ b _ _ _ _ _ _ _ => b
  | _ => []
def defScope (s : Stmt) : Scope := match s with
  | .FunctionDef _ _ _ _ _ _ sc _ _ _ => sc
  | _ => { kind := .function, names := [], isGenerator := false, isCoroutine := false }
abbrev CX0 : CXT := fun _ _ _ _ _ _ => False
abbrev E0 : XK := fun _ _ _ => False
theorem pass0 {X : Cx} : Passes CX0 X E0 := fun _ _ _ _ _ _ _ h => h.elim
structure Fun (K : PySem.W.Frag) (x qual : Str) (st : Stmt) (f : Addr) (fd : FuncData) : Prop where
  ex : ∃ (oc : Value) (od : Option Addr) (kV doc pm : Value) (an : Option Addr) (cdv ct : Value) (osl : Array (Option Value)),
    fd = PySem.W.fnOf x qual (defArgs st) (defBody st) (defScope st) .none kV doc pm an cdv ct ∧ K.lookup f = some ⟨oc, od, .func fd, osl⟩ ∧ PySem.W.codeIn K cdv qual = true
  kp : PySem.W.keepIn K (.ref f) = true
section
variable {P : Program} {w : World} {K : PySem.W.Frag} {mg : Str → Option Value} {base : Heap}
theorem Fun.ok {x qual : Str} {st : Stmt} {f : Addr} {fd : FuncData} {N ps : List Str} {k : Nat} {sp : Sp} (F : Fun K x qual st f fd) (S : FnScope N ps (defScope st)) (len : ∀ vs H Q E, sp vs H Q E → vs.length = ps.length)
    (hbody : ∀ (cdv : Value) (A : Around) (outer : List Env) (s : Shared) (H : Hp) (vs : List V) (Q : VK) (E : XK), Room k (A.deeper (envOfC qual (defScope st) s.heap.objs.size f cdv)) → sp vs H Q E →
      ∃ t, PSs (cxOf CX0 P w K mg base N qual (defScope st) f cdv A outer s H E).nox (defBody st) t ∧ t { nx := fun _ H' => Q .non H', rt := Q } (start N vs) H) : FnOk P w K mg base CX0 (k + 1) f fd ps sp := by
  obtain ⟨oc, od, kV, doc, pm, an, cdv, ct, osl, rfl, lk, hcd⟩ := F.ex
  refine fn_of lk hcd S len fun A outer s H vs Q E hr hsp => ?_
  obtain ⟨t, h, q⟩ := hbody cdv A outer s H vs Q E hr hsp
  exact ⟨t, h.nox, q⟩
theorem Fun.binds {x qual : Str} {st : Stmt} {f : Addr} {fd : FuncData} {ps : List Str} (F : Fun K x qual st f fd)
    (h : ∀ (kV doc pm : Value) (an : Option Addr) (cdv ct : Value) (us : List Value), us.length = ps.length → bindArgs (PySem.W.fnOf x qual (defArgs st) (defBody st) (defScope st) .none kV doc pm an cdv ct) ⟨us, []⟩ = pure (ps.zip us)) : Binds K fd ps [] := by
  obtain ⟨oc, od, kV, doc, pm, an, cdv, ct, osl, rfl, lk, hcd⟩ := F.ex
  exact .all (h kV doc pm an cdv ct)
theorem fun_mk {x qual : Str} {st : Stmt} {f : Addr} {oc : Value} {od an : Option Addr} {osl : Array (Option Value)} {kV doc pm cdv ct : Value} (l : K.lookup f = some ⟨oc, od, .func (PySem.W.fnOf x qual (defArgs st) (defBody st) (defScope st) .none kV doc pm an cdv ct), osl⟩)
    (c : PySem.W.codeIn K cdv qual = true) (k : PySem.W.keepIn K (.ref f) = true) : Fun K x qual st f (PySem.W.fnOf x qual (defArgs st) (defBody st) (defScope st) .none kV doc pm an cdv ct) := ⟨⟨oc, od, kV, doc, pm, an, cdv, ct, osl, rfl, l, c⟩, k⟩
end
theorem hu_of {A : Around} {k : Nat} (hr : Room k A) : A.units + 1 < cLine := Nat.lt_of_le_of_lt (Nat.add_le_add_left (by decide : 1 ≤ 64) _) hr.units
section
variable {X : Cx}
theorem call_lenD : CallR X (.builtin "len") (fun xs H Q => ∃ a kvs, xs = [V.ref a] ∧ H a = some (.dK kvs) ∧ Q (.int kvs.length) H) := by
  intro pins s σ H xs us Q I r h
  obtain ⟨a, kvs, rfl, ha, q⟩ := h
  obtain ⟨u, rfl, ru⟩ := vals1 r
  cases ru
  exact d_len I (.inl ha) fun t s' I' => ⟨.int kvs.length, H, I', ⟨t, rfl⟩, q⟩
end
def Same (H H' : Hp) : Prop := ∀ b o, H b = some o → H' b = some o
theorem Same.refl (H : Hp) : Same H H := fun _ _ h => h
theorem Same.trans {H H1 H2 : Hp} (a : Same H H1) (b : Same H1 H2) : Same H H2 := fun c o h => b c o (a c o h)
theorem Same.free {H H' : Hp} (e : Same H H') {l : Addr} (h : H' l = Option.none) : H l = Option.none := by
  cases q : H l with
  | none => rfl
  | some o =>
    rw [e l o q] at h
    cases h
section
variable {κ : Type} [DecidableEq κ]
end
end L2
set_option Elab.async false
set_option linter.all false
set_option maxRecDepth 100000
set_option maxHeartbeats 4000000
namespace L2
open PySem PySem.Spec PyProof.Rows
def clOf (env : Env) : List (Str × NameKind) → List (Str × Addr) → List (Str × Addr)
  | [], acc => acc
  | (n, k) :: r, acc => clOf env r (if (k == NameKind.free) = true then (n, (env.cells.lookup n).getD 0) :: acc else acc)
theorem closureFor_ok {scope : Scope} {env : Env} (h : ∀ x ∈ scope.names, x.2 = .free → ∃ c, env.cells.lookup x.1 = some c) : closureFor scope env = pure (clOf env scope.names []) := by
  unfold closureFor
  generalize ([] : List (Str × Addr)) = acc
  generalize scope.names = l at h
  induction l generalizing acc with
  | nil => rfl
  | cons x r ih =>
    obtain ⟨n, k⟩ := x
    have ih := fun a => ih a fun y hy => h y (List.mem_cons_of_mem _ hy)
    simp only [List.forIn_cons, clOf]
    by_cases hk : k = .free
    · obtain ⟨c, hc⟩ := h (n, k) List.mem_cons_self hk
      subst hk
      have e : cellOf env n = pure c := by unfold cellOf; simp only at hc; rw [hc]
      simp only [beq_self_eq_true, if_true, e, hc, Option.getD_some]
      exact ih ((n, c) :: acc)
    · have : (k == NameKind.free) = false := by simpa using hk
      simp only [this, Bool.false_eq_true, if_false]
      exact ih acc
theorem clOf_get {env : Env} {y : Str} {c : Addr} : ∀ (l : List (Str × NameKind)) (acc : List (Str × Addr)), (∀ z d, acc.lookup z = some d → env.cells.lookup z = some d) → (∀ x ∈ l, x.2 = .free → ∃ c, env.cells.lookup x.1 = some c) →
    (clOf env l acc).lookup y = some c → env.cells.lookup y = some c
  | [], acc, ha, _, e => ha y c e
  | (n, k) :: r, acc, ha, hf, e => by
    unfold clOf at e
    refine clOf_get r _ ?_ (fun x hx => hf x (List.mem_cons_of_mem _ hx)) e
    intro z d hz
    split at hz
    · rename_i hk
      have hk : k = .free := by simpa using hk
      obtain ⟨c', hc'⟩ := hf (n, k) List.mem_cons_self hk
      simp only at hc'
      rw [List.lookup_cons, hc'] at hz
      by_cases hzn : z = n
      · subst hzn
        simp only [beq_self_eq_true, Option.getD_some] at hz
        rw [hc']; exact hz
      · have : (z == n) = false := by simpa using hzn
        rw [this] at hz
        exact ha z d hz
    · exact ha z d hz
theorem clOf_has {env : Env} {y : Str} : ∀ (l : List (Str × NameKind)) (acc : List (Str × Addr)), ((∃ c, acc.lookup y = some c) ∨ (y, NameKind.free) ∈ l) → ∃ c, (clOf env l acc).lookup y = some c
  | [], acc, h => h.elim (fun x => x) fun x => by cases x
  | (n, k) :: r, acc, h => by
    unfold clOf
    refine clOf_has r _ ?_
    rcases h with ⟨c, hc⟩ | h
    · left
      split
      · rw [List.lookup_cons]
        split
        · exact ⟨_, rfl⟩
        · exact ⟨c, hc⟩
      · exact ⟨c, hc⟩
    · rcases List.mem_cons.mp h with h | h
      · cases h
        left
        simp
      · exact .inr h
def blk (X : Cx) (scope : Scope) (N : List Str) (C : Addr) (ex : List Addr) (pins : List (Addr × Obj)) (s₀ : Shared) (H₀ : Hp) (E : Value → Shared → Prop) : Cx where
  prog := X.prog
  w := X.w
  K := X.K
  mg := X.mg
  base := X.base
  A := X.A
  N := N
  s₀ := s₀
  H₀ := H₀
  env := compEnvC scope (clOf X.env scope.names []) C X.env
  outer := X.stack
  stack := X.stack
  ex := ex
  fn := fun _ => false
  calm := X.calm
  pn := X.pn ++ pins
  xe := E
def slots (fr : List (Option Nat)) (σ : St) : St := fr.map fun o => match o with
  | none => none
  | some j => (σ[j]?).getD none
def compChk (N₀ N : List Str) (fr : List (Option Nat)) (scope oscope : Scope) : Bool :=
  (N.zip fr).all (fun p => match p.2 with
    | none => true
    | some j => decide (N₀[j]? = some p.1) && decide (scope.names.lookup p.1 = some .free)) &&
  scope.names.all (fun x => x.2 != .cell && (x.2 != .free || (oscope.names.lookup x.1 == some .cell || oscope.names.lookup x.1 == some .free)) && (x.2 != .local || decide (scope.names.lookup x.1 = some .local))) &&
  decide (fr.length = N.length) && (scope.kind == .function)
structure CompOk (X : Cx) (N : List Str) (fr : List (Option Nat)) (scope : Scope) : Prop where
  cell : ∀ y ∈ scope.names, y.2 ≠ .cell
  free : ∀ y ∈ scope.names, y.2 = .free → X.env.kindOf y.1 = some .cell ∨ X.env.kindOf y.1 = some .free
  loc : ∀ y ∈ scope.names, y.2 = .local → scope.names.lookup y.1 = some .local
  slot : ∀ (i j : Nat) (x : Str), N[i]? = some x → fr[i]? = some (some j) → X.N[j]? = some x ∧ scope.names.lookup x = some .free
  len : fr.length = N.length
  kind : scope.kind = .function
theorem CompOk.of {X : Cx} {N N₀ : List Str} {fr : List (Option Nat)} {scope oscope : Scope} (h : compChk N₀ N fr scope oscope = true) (hN : X.N = N₀ := by rfl) (hs : X.env.scope.names = oscope.names := by rfl) : CompOk X N fr scope := by
  unfold compChk at h
  simp only [Bool.and_eq_true, decide_eq_true_eq, List.all_eq_true, beq_iff_eq] at h
  obtain ⟨⟨⟨h1, h2⟩, h3⟩, h4⟩ := h
  refine ⟨fun y hy => ?_, fun y hy hf => ?_, fun y hy hl => ?_, fun i j x e1 e2 => ?_, h3, h4⟩
  · have := (h2 y hy).1.1
    simpa using this
  · have := (h2 y hy).1.2
    unfold Env.kindOf
    rw [hs]
    simpa [hf] using this
  · have := (h2 y hy).2
    simpa [hl] using this
  · have hm : (x, some j) ∈ N.zip fr := by
      refine List.mem_of_getElem? (i := i) ?_
      rw [List.getElem?_zip_eq_some]
      exact ⟨e1, e2⟩
    have := h1 _ hm
    rw [hN]
    simpa using this
theorem slots_get {fr : List (Option Nat)} {σ : St} {i : Nat} {v : V} (h : (slots fr σ)[i]? = some (some v)) : ∃ j : Nat, fr[i]? = some (some j) ∧ σ[j]? = some (some v) := by
  unfold slots at h
  rw [List.getElem?_map] at h
  cases e : fr[i]? with
  | none => rw [e] at h; cases h
  | some o =>
    rw [e] at h
    cases o with
    | none => cases h
    | some j =>
      refine ⟨j, rfl, ?_⟩
      have h' : (σ[j]?).getD none = some v := by simpa using h
      cases e2 : σ[j]? with
      | none => rw [e2] at h'; cases h'
      | some q => rw [e2] at h'; simp at h'; rw [h']
theorem relabel_kind {scope : Scope} {env : Env} : ∀ {l : List (Str × NameKind)} {x : Str} {k : NameKind},
    (l.map fun (n, k) => if (k == NameKind.free && env.scope.kind == .function && env.kindOf n == some .cell) then (n, NameKind.cell) else (n, k)).lookup x = some k →
    ∃ k', (x, k') ∈ l ∧ l.lookup x = some k' ∧ (k = k' ∨ (k' = .free ∧ k = .cell))
  | [], x, k, h => by cases h
  | (n, k0) :: r, x, k, h => by
    simp only [List.map_cons] at h
    by_cases hx : x = n
    · subst hx
      refine ⟨k0, List.mem_cons_self, by simp, ?_⟩
      split at h
      · rename_i hc
        simp at h
        have : k0 = .free := by simp at hc; exact hc.1.1
        exact .inr ⟨this, h.symm⟩
      · simp at h
        exact .inl h.symm
    · have hb : (x == n) = false := by simpa using hx
      have h' : (r.map fun (n, k) => if (k == NameKind.free && env.scope.kind == .function && env.kindOf n == some .cell) then (n, NameKind.cell) else (n, k)).lookup x = some k := by
        split at h <;> (rw [List.lookup_cons, hb] at h; exact h)
      obtain ⟨k', m, l', q⟩ := relabel_kind (scope := scope) h'
      exact ⟨k', List.mem_cons_of_mem _ m, by rw [List.lookup_cons, hb]; exact l', q⟩
theorem relabel_vis {env : Env} : ∀ {l : List (Str × NameKind)} {x : Str}, l.lookup x = some .free →
    (l.map fun (n, k) => if (k == NameKind.free && env.scope.kind == .function && env.kindOf n == some .cell) then (n, NameKind.cell) else (n, k)).lookup x = some .cell ∨
    (l.map fun (n, k) => if (k == NameKind.free && env.scope.kind == .function && env.kindOf n == some .cell) then (n, NameKind.cell) else (n, k)).lookup x = some .free
  | [], x, h => by cases h
  | (n, k0) :: r, x, h => by
    simp only [List.map_cons]
    by_cases hx : x = n
    · subst hx
      simp at h
      subst h
      split
      · left; simp
      · right; simp
    · have hb : (x == n) = false := by simpa using hx
      rw [List.lookup_cons, hb] at h
      have := relabel_vis (env := env) h
      split <;> (rw [List.lookup_cons, hb]; exact this)
section
variable {X : Cx} {pins : List (Addr × Obj)} {σ : St} {H : Hp} {s : Shared} {N : List Str} {fr : List (Option Nat)} {scope : Scope} {fp : List Addr} {E : Value → Shared → Prop}
theorem Inv.clHas (I : Inv X pins σ H s) (c : CompOk X N fr scope) : ∀ x ∈ scope.names, x.2 = .free → ∃ c, X.env.cells.lookup x.1 = some c := fun x hx hf => I.ok.has x.1 (c.free x hx hf)
theorem Inv.clGet (I : Inv X pins σ H s) (c : CompOk X N fr scope) {y : Str} {a : Addr} (h : (clOf X.env scope.names []).lookup y = some a) : X.env.cells.lookup y = some a :=
  clOf_get scope.names [] (fun _ _ e => by cases e) (I.clHas c) h
theorem Inv.block (I : Inv X pins σ H s) (c : CompOk X N fr scope) (hf : ∀ b ∈ fp, FpOk X pins H b) (hfp : ∀ b ∈ fp, b < s.heap.objs.size) {h' : Heap} {m : Str → Option Value} {t' : Nat} (hn : h'.Ns s.heap.objs.size m) (hk : ∀ b o, s.heap.get? b = some o → h'.get? b = some o) :
    Inv (blk X scope N s.heap.objs.size fp pins s H E) [] (slots fr σ) H { s with heap := h', toks := t' } := by
  have cg : ∀ y a, (clOf X.env scope.names []).lookup y = some a → X.env.cells.lookup y = some a := fun y a => I.clGet c
  have cellLt : ∀ y a, X.env.cells.lookup y = some a → a < s.heap.objs.size := fun y a e => by
    obtain ⟨v, q⟩ := I.cell y a e
    exact q.lt
  refine ⟨⟨I.ok.mod, c.kind, I.ok.glob, I.ok.blt, Nat.le_refl _, fun x y a h1 h2 => I.ok.inj x y a (cg x a h1) (cg y a h2), fun x hx => ?_, fun x a hf => (by cases hf), I.ok.hd, I.ok.frames, .inl rfl, fun b hb => ?_, I.bs, Nat.le_trans I.ok.bsz I.sz, fun b o e hb => ?_, fun b hb => ?_, I.stack, I.stkFree⟩,
    rfl, I.bare, Un.kept hk, ⟨m, hn, fun i x v e1 e2 e3 => ?_⟩, fun x a e => ?_, I.hok.fresh (Nat.le_refl _), fun x a e => I.freeC x a (cg x a e), fun p hp => ?_, I.hok.kept hk, ?_⟩
  · have hx' : (relabel scope X.env).names.lookup x = some .cell ∨ (relabel scope X.env).names.lookup x = some .free := hx
    have : (x, NameKind.free) ∈ scope.names := by
      rcases hx' with h | h
      · obtain ⟨k', m', _, q⟩ := relabel_kind (scope := scope) h
        rcases q with q | q
        · subst q; exact absurd rfl (c.cell _ m')
        · rw [← q.1]; exact m'
      · obtain ⟨k', m', _, q⟩ := relabel_kind (scope := scope) h
        rcases q with q | q
        · subst q; exact m'
        · cases q.2
    exact clOf_has scope.names [] (.inr this)
  · obtain ⟨f0, f1, f2, f3, f4, f5⟩ := hf b hb
    exact ⟨Nat.ne_of_lt (hfp b hb), fun x a e => f4 x a (cg x a e)⟩
  · obtain ⟨f0, f1, f2, f3, f4, f5⟩ := hf b hb
    rcases f3 with f3 | f3
    · exact I.ok.noex b o e f3
    · exact absurd (Nat.lt_of_lt_of_le (Heap.lt_size e) (Nat.le_trans I.ok.bsz f3)) (Nat.lt_irrefl _)
  · obtain ⟨f0, f1, f2, f3, f4, f5⟩ := hf b hb
    intro z
    rcases List.mem_cons.mp (I.stkSub b z) with z | z
    · exact f1 z
    · exact f2 z
  · obtain ⟨j, f1, f2⟩ := slots_get e2
    obtain ⟨g1, g2⟩ := c.slot i j x e1 f1
    have hkx : X.env.kindOf x = some .cell ∨ X.env.kindOf x = some .free := c.free (x, .free) (PySem.mem_of_lookup g2) rfl
    have vis : Vis X.env.scope x := .inr hkx
    obtain ⟨m0, _, hl⟩ := I.loc
    obtain ⟨u, r, lk⟩ := hl j x v g1 f2 vis
    refine ⟨u, r, .inr ⟨relabel_vis g2, ?_⟩⟩
    obtain ⟨a, ha⟩ := clOf_has (env := X.env) (y := x) scope.names [] (.inr (PySem.mem_of_lookup g2))
    refine ⟨a, ha, ?_⟩
    have ha' := cg x a ha
    rcases lk with ⟨q, _⟩ | ⟨_, a', e', z⟩
    · rcases hkx with w | w <;> (rw [q] at w; cases w)
    · rw [ha'] at e'; cases e'
      obtain ⟨o, ho, hd⟩ := z
      exact ⟨o, hk _ o ho, hd⟩
  · obtain ⟨v, o, ho, hd⟩ := I.cell x a (cg x a e)
    exact ⟨v, o, hk _ o ho, hd⟩
  · rw [List.append_nil] at hp
    obtain ⟨e, n, ne, nf, d⟩ := I.pin p hp
    refine ⟨hk _ _ e, n, Nat.ne_of_lt (Heap.lt_size e), fun z => ?_, d⟩
    rcases List.mem_cons.mp (I.stkSub p.1 z) with z | z
    · exact ne z
    · exact nf z
  · unfold slots
    rw [List.length_map]
    exact c.len
theorem Inv.unblock {s' : Shared} {σ' : St} {H' : Hp} {pins' : List (Addr × Obj)} {C : Addr} (I : Inv X pins σ H s) (hf : ∀ b ∈ fp, FpOk X pins H b) (J : Inv (blk X scope N C fp pins s H E) pins' σ' H' s') : Inv X pins σ H' s' :=
  I.call' (ch := fp) J.os J.base J.hok J.bare fun b hb => by
    obtain ⟨f0, f1, f2, f3, f4, f5⟩ := hf b hb
    exact ⟨f3, f1, f4, f5⟩
end
end L2
set_option Elab.async false
set_option linter.all false
set_option maxRecDepth 100000
set_option maxHeartbeats 4000000
namespace L2
open PySem PySem.Spec PyProof.Rows
theorem codeAny_compLoop_any {prog : Program} {w : World} {A : Around} {R : Result → Shared → Prop} {s : Shared} {elt target iter : Expr} {ifs : List Expr} {scope : Scope} {pos : Pos} {it acc : Value} {env : Env} (I : Nat → Shared → Prop)
    (turn : ∀ n s, I n s → wpAny (model prog w) A (pyNext it) (fun r s₁ => match r with
      | none => R (.ok .next) s₁
      | some v => wpAny (model prog w) A (letOwnedTupleGo target it v) (fun _ s₁' => wpAny (model prog w) A (assign target env v) (fun _ s₂ =>
          wpAny (model prog w) A (forIn ifs true fun c r => if r = true then do let ok ← isTrue c env (eval c env); pure (ForInStep.yield ok) else pure (ForInStep.yield r)) (fun ok s₃ =>
            if ok = true then wpAny (model prog w) A (eval elt env) (fun x s₄ =>
              wpAny (model prog w) A (call (.builtin "list.append") [acc, x]) (fun _ s₅ => ∃ m, m < n ∧ I m s₅) (notedBy (model prog w) A env fun e s' => R (.error e) s') s₄) (notedBy (model prog w) A env fun e s' => R (.error e) s') s₃
            else ∃ m, m < n ∧ I m s₃) (notedBy (model prog w) A env fun e s' => R (.error e) s') s₂) (notedBy (model prog w) A env fun e s' => R (.error e) s') s₁') (notedBy (model prog w) A env fun e s' => R (.error e) s') s₁) (notedBy (model prog w) A env fun e s' => R (.error e) s') s)
    (n : Nat) (h : I n s) :
    codeAny (model prog w) A (.compLoop (.ListComp elt [⟨target, iter, ifs, 0⟩] scope pos) 0 it acc env) R s := by
  refine codeAny_loop rfl I (fun n s hI => ?_) n h
  show wpAny _ A ((compTurn (.ListComp elt [⟨target, iter, ifs, 0⟩] scope pos) 0 it acc env).onRaise (fun x => do noteFrame x env; theTreesLotGoes x)) _ _ s
  refine wpAny_noted ?_
  rw [compTurn_list]
  refine wpAny_bind (wpAny_standAt (wpAny_bind (wpAny_mono (turn n s hI) (fun r s₁ h₁ => ?_) fun _ _ h' => h')))
  cases r with
  | none => exact wpAny_pure h₁
  | some v =>
    refine wpAny_bind (wpAny_mono h₁ (fun _ s₁' h₁' => ?_) fun _ _ h' => h')
    refine wpAny_bind (wpAny_mono h₁' (fun _ s₂ h₂ => wpAny_bind (wpAny_mono h₂ (fun ok s₃ h₃ => ?_) fun _ _ h' => h')) fun _ _ h' => h')
    cases ok with
    | false => exact wpAny_pure ⟨rfl, h₃⟩
    | true =>
      exact wpAny_bind (wpAny_bind (wpAny_mono h₃ (fun x s₄ h₄ => wpAny_bind (wpAny_mono h₄ (fun _ s₅ h₅ => wpAny_pure (wpAny_pure ⟨rfl, h₅⟩)) fun _ _ h' => h')) fun _ _ h' => h'))
def PIf (X : Cx) (ifs : List Expr) (t : TT) : Prop :=
  ∀ (pins : List (Addr × Obj)) (s : Shared) (σ : St) (H : Hp) (Q : Bool → Hp → Prop), Inv X pins σ H s → t σ H Q →
    wpAny (model X.prog X.w) X.A (forIn ifs true fun c r => if r = true then do let ok ← isTrue c X.env (eval c X.env); pure (ForInStep.yield ok) else pure (ForInStep.yield r)) (TP X pins σ Q) X.xe s
def tYes : TT := fun _ H Q => Q true H
theorem pif_nil {X : Cx} : PIf X [] tYes := fun _ _ _ H _ I h => wpAny_tests_nil ⟨H, I, h⟩
def tComp (fr : List (Option Nat)) (wi : TI) (g : TG) (tt : TT) (te : TE) : TE := fun σ H Q => wi σ H fun J H1 => ∀ p, H1 p = none →
  ∃ W : Nat → Nat → List V → St → Hp → Prop, (∃ m, W 0 m [] (slots fr σ) (upd H1 p (.lst []))) ∧ ∀ i m ys σ H, W i m ys σ H →
   (J.stop i H ∧ Q (.ref p) H) ∨ (J.go i H ∧ ∃ N : List V → St → Hp → Prop, (∀ ys' σ' H', N ys' σ' H' → ∃ m', m' < m ∧ W (i + 1) m' ys' σ' H') ∧
      ∀ x H', J.yld i H x H' → g x σ H' fun σ2 H2 => tt σ2 H2 fun b H3 => if b = true then te σ2 H3 fun v H4 => H4 p = some (.lst ys) ∧ ys.length < sizeLine ∧ N (ys ++ [v]) σ2 (upd H4 p (.lst (ys ++ [v]))) else N ys σ2 H3)
section
variable {X : Cx} {N : List Str} {fr : List (Option Nat)} {scope : Scope} {elt target iter : Expr} {ifs : List Expr} {wi : TI} {g : TG} {tt : TT} {te : TE} {pos : Pos}
theorem comp_core (c : CompOk X N fr scope) (hcalm : X.calm = true) (hi : PI X target iter wi)
    (hg : ∀ C ex pins s₀ H₀, PG (blk X scope N C ex pins s₀ H₀ fun _ _ => False) target g)
    (ht : ∀ C ex pins s₀ H₀, PIf (blk X scope N C ex pins s₀ H₀ fun _ _ => False) ifs tt)
    (he : ∀ C ex pins s₀ H₀, PE (blk X scope N C ex pins s₀ H₀ fun _ _ => False) elt te)
    {pins : List (Addr × Obj)} {s : Shared} {σ : St} {H : Hp} {Q : VK} {R : Value → Addr → Result → Shared → Prop} (I : Inv X pins σ H s) (h : tComp fr wi g tt te σ H Q)
    (fin : ∀ p C m s' H', Inv X pins σ H' s' → FpOk X pins H' C → s'.heap.Ns C m → Q (.ref p) H' → R (.ref p) C (.ok .next) s') :
    wpAny (model X.prog X.w) X.A (eval iter X.env) (fun x s₁ => wpAny (model X.prog X.w) X.A (pyIter x) (fun it s₂ => wpAny (model X.prog X.w) X.A (newList []) (fun acc s₃ =>
      wpAny (model X.prog X.w) X.A (newFunctionEnv scope X.env.globals (clOf X.env scope.names []) [] X.env.qual none .none (some X.env)) (fun cenv s₄ =>
        codeAny (model X.prog X.w) X.A (.compStart (.ListComp elt [⟨target, iter, ifs, 0⟩] scope pos) 0 it acc { cenv with scope := relabel scope X.env }) (R acc cenv.locals) s₄) X.xe s₃) X.xe s₂) X.xe s₁) X.xe s := by
  refine thn (hi pins s σ H _ I h) fun v s1 h1 => thn h1 fun itv s2 h2 => ?_
  obtain ⟨it, fp, tn, J, H2, e, I2, T, st2, f2, h2⟩ := h2
  subst e
  have fpLt : ∀ b ∈ fp, b < s2.heap.objs.size := fun b hb => by
    obtain ⟨o, e, _⟩ := T.obj _ _ st2 b hb
    exact Heap.lt_size e
  have hp0 : H2 s2.heap.objs.size = none := I2.fresh
  obtain ⟨W, ⟨m0, w0⟩, turn⟩ := h2 _ hp0
  refine wpAny_newObj_type ?_
  generalize hs3 : ({ s2 with heap := s2.heap.push { cls := .type "list", dict := none, data := .seq ([] : List Value).toArray } } : Shared) = s3
  have hs3' : s3 = { s2 with heap := s2.heap.push { cls := .type "list", data := .seq ([] : List Value).toArray }, toks := s2.toks } := hs3.symm
  have I3 : Inv X pins σ (upd H2 s2.heap.objs.size (.lst [])) s3 := by
    rw [hs3']
    exact I2.lnew .nil (Nat.zero_le _)
  have sz3 : s3.heap.objs.size = s2.heap.objs.size + 1 := by rw [hs3']; exact Heap.size_push ..
  have nep : ∀ b ∈ fp, b ≠ s2.heap.objs.size := fun b hb => Nat.ne_of_lt (fpLt b hb)
  have f3 : ∀ b ∈ fp, FpOk X pins (upd H2 s2.heap.objs.size (.lst [])) b := fun b hb => ⟨by rw [upd_ne (nep b hb)]; exact (f2 b hb).1, (f2 b hb).2⟩
  have st3 : tn 0 s3.heap := T.keep _ _ _ st2 fun b hb o e => by rw [hs3']; exact Heap.get?_push_of_some _ e
  refine wpAny_newFunctionEnv c.cell (by intro y hy; simp at hy) (fun h4 hn4 hsb4 => ?_) c.kind
  try dsimp only at hn4 hsb4 ⊢
  have k4 : ∀ b o, s3.heap.get? b = some o → h4.get? b = some o := fun b o e => hsb4.extBut b o (Nat.ne_of_lt (Heap.lt_size e)) (Heap.get?_push_of_some _ e)
  have fpLt3 : ∀ b ∈ fp, b < s3.heap.objs.size := fun b hb => by rw [sz3]; exact Nat.lt_succ_of_lt (fpLt b hb)
  have I4 : Inv (blk X scope N s3.heap.objs.size fp pins s3 (upd H2 s2.heap.objs.size (.lst [])) fun _ _ => False) [] (slots fr σ) (upd H2 s2.heap.objs.size (.lst [])) { s3 with heap := h4, toks := s3.toks + ([] : List (Str × Value)).length } := I3.block c f3 fpLt3 hn4 k4
  have st4 : tn 0 h4 := T.keep _ _ _ st3 fun b hb o e => k4 b o e
  have stat : ∀ {H' : Hp}, (∀ b ∈ fp, H' b = none) → ∀ b ∈ fp, FpOk (blk X scope N s3.heap.objs.size fp pins s3 (upd H2 s2.heap.objs.size (.lst [])) fun _ _ => False) [] H' b := fun {H'} hn b hb => by
    obtain ⟨g0, g1, g2, g3, g4, g5⟩ := f3 b hb
    refine ⟨hn b hb, Nat.ne_of_lt (fpLt3 b hb), fun z => ?_, .inl hb, fun x a e => g4 x a (I3.clGet c e), fun p hp => ?_⟩
    · rcases List.mem_cons.mp (I3.stkSub b z) with z | z
      · exact g1 z
      · exact g2 z
    · rw [List.append_nil] at hp
      exact g5 p hp
  have loop : ∀ s5 : Shared, s5 = { s3 with heap := h4, toks := s3.toks + ([] : List (Str × Value)).length } → codeAny (model X.prog X.w) X.A (.compLoop (.ListComp elt [⟨target, iter, ifs, 0⟩] scope pos) 0 (.ref it) (.ref s2.heap.objs.size) (compEnvC scope (clOf X.env scope.names []) s3.heap.objs.size X.env)) (R (.ref s2.heap.objs.size) s3.heap.objs.size) s5 := by
    rintro s5 rfl
    refine codeAny_compLoop_any (fun n s' => ∃ i ys σ' H', Inv (blk X scope N s3.heap.objs.size fp pins s3 (upd H2 s2.heap.objs.size (.lst [])) fun _ _ => False) [] σ' H' s' ∧ tn i s'.heap ∧ (∀ b ∈ fp, H' b = none) ∧ W i n ys σ' H') ?_ m0
      ⟨0, [], slots fr σ, _, I4, st4, fun b hb => (f3 b hb).1, w0⟩
    rintro n s6 ⟨i, ys, σ6, H6, I6, st6, fr6, w6⟩
    rcases turn i n ys σ6 H6 w6 with ⟨stop, q⟩ | ⟨go, Nx, hN, step⟩
    · refine thn (T.done (blk X scope N s3.heap.objs.size fp pins s3 (upd H2 s2.heap.objs.size (.lst [])) fun _ _ => False) rfl rfl rfl hcalm i [] s6 σ6 H6 _ I6 (stat fr6) st6 stop) fun r s7 ⟨hr, I7⟩ => ?_
      subst hr
      obtain ⟨m7, n7, _⟩ := I7.loc
      exact fin _ _ m7 s7 H6 (I3.unblock f3 I7) (I3.fpOk (Nat.le_refl _) I7.free) n7 q
    · refine thn (T.item (blk X scope N s3.heap.objs.size fp pins s3 (upd H2 s2.heap.objs.size (.lst [])) fun _ _ => False) rfl rfl rfl hcalm i [] s6 σ6 H6 _ I6 (stat fr6) st6 go) fun r s7 ⟨u, hr, h7⟩ => ?_
      subst hr
      refine thn h7 fun _ s8 ⟨x, H8, I8, r8, y8, st8, fr8⟩ => ?_
      have I8' := I8.pinned (stat fr8) (T.obj _ _ st8)
      refine wpAny_mono (hg _ _ _ _ _ _ s8 σ6 H8 x u _ I8' r8 (step x H8 y8)) (fun _ s9 ⟨σ9, H9, I9, q9⟩ => ?_) fun _ _ z => False.elim z
      refine wpAny_mono (ht _ _ _ _ _ _ s9 σ9 H9 _ I9 q9) (fun b s10 ⟨H10, I10, q10⟩ => ?_) fun _ _ z => False.elim z
      have again : ∀ {s11 : Shared} {σ11 : St} {H11 : Hp} {ys' : List V}, Inv (blk X scope N s3.heap.objs.size fp pins s3 (upd H2 s2.heap.objs.size (.lst [])) fun _ _ => False) ([] ++ pinsAt fp s8.heap) σ11 H11 s11 → Nx ys' σ11 H11 → ∃ m, m < n ∧ ∃ i ys σ' H', Inv (blk X scope N s3.heap.objs.size fp pins s3 (upd H2 s2.heap.objs.size (.lst [])) fun _ _ => False) [] σ' H' s11 ∧ tn i s11.heap ∧ (∀ b ∈ fp, H' b = none) ∧ W i m ys σ' H' := fun {s11 σ11 H11 ys'} I11 n11 => by
        obtain ⟨m', hm, w11⟩ := hN _ _ _ n11
        refine ⟨m', hm, i + 1, ys', σ11, H11, I11.unpinned, T.keep _ _ _ st8 fun b hb o e => (I11.pin (b, o) (List.mem_append_right _ (List.mem_append_right _ (mem_pinsAt hb e)))).1, fun b hb => ?_, w11⟩
        obtain ⟨o, e, d⟩ := T.obj _ _ st8 b hb
        exact (I11.pin (b, o) (List.mem_append_right _ (List.mem_append_right _ (mem_pinsAt hb e)))).2.1
      cases b with
      | false =>
        rw [if_neg Bool.false_ne_true] at q10 ⊢
        exact again I10 q10
      | true =>
        rw [if_pos rfl] at q10 ⊢
        refine wpAny_mono (he _ _ _ _ _ _ s10 σ9 H10 _ I10 q10) (fun u11 s11 ⟨x11, H11, I11, r11, hp11, hz11, q11⟩ => ?_) fun _ _ z => False.elim z
        refine wpAny_mono (mt_append (X := blk X scope N s3.heap.objs.size fp pins s3 (upd H2 s2.heap.objs.size (.lst [])) fun _ _ => False) _ s11 σ9 H11 (.ref s2.heap.objs.size) [x11] (.ref s2.heap.objs.size) [u11] (fun _ H' => Nx (ys ++ [x11]) σ9 H') I11 rfl (.cons r11 .nil) ⟨_, ys, x11, rfl, rfl, hp11, hz11, q11⟩) (fun _ s12 ⟨_, H12, I12, _, q12⟩ => ?_) fun _ _ z => False.elim z
        exact again I12 q12
  exact codeAny_compStart_list (loop _ rfl) (T.self X.A 0 _ _ _ st4 (loop _ rfl))
theorem Inv.letgo {pins : List (Addr × Obj)} {s : Shared} {σ : St} {H : Hp} {C : Addr} {h' : Heap} (I : Inv X pins σ H s) (f : FpOk X pins H C) (hs : Heap.SameBut C s.heap h') : Inv X pins σ H { s with heap := h' } := by
  obtain ⟨f0, f1, f2, f3, f4, f5⟩ := f
  exact I.turned (t' := s.toks) (fun b o hb e => (hs.2 b hb).trans e) f0 f1 f3 f4 f5
theorem pe_comp (c : CompOk X N fr scope) (hcalm : X.calm = true) (hi : PI X target iter wi)
    (hg : ∀ C ex pins s₀ H₀, PG (blk X scope N C ex pins s₀ H₀ fun _ _ => False) target g)
    (ht : ∀ C ex pins s₀ H₀, PIf (blk X scope N C ex pins s₀ H₀ fun _ _ => False) ifs tt)
    (he : ∀ C ex pins s₀ H₀, PE (blk X scope N C ex pins s₀ H₀ fun _ _ => False) elt te)
    (hs : ∀ x, foldedSetIterable iter X.env x = pure x := by intro _; rfl) : PE X (.ListComp elt [⟨target, iter, ifs, 0⟩] scope pos) (tComp fr wi g tt te) := by
  intro pins s σ H Q I h
  rw [eval_ListComp]
  refine wpAny_comprehension_free (use := none) rfl hs (closureFor_ok (I.clHas c)) c.kind c.loc (comp_core (R := compPost (model X.prog X.w) X.A X.xe none (EP X pins σ Q)) c hcalm hi hg ht he I h fun p C m s' H' I' f hn q => ?_)
  exact ⟨m, hn, fun h' hs' => ⟨.ref p, H', I'.letgo f hs', rfl, q⟩⟩
def tSetE (i : Nat) (te : TE) : TS := fun D σ H => te σ H fun v H1 => D.nx (σ.set i (some v)) H1
theorem ps_comp {i : Nat} {y : Str} {py spos : Pos} (c : CompOk X N fr scope) (hcalm : X.calm = true) (hi : PI X target iter wi)
    (hg : ∀ C ex pins s₀ H₀, PG (blk X scope N C ex pins s₀ H₀ fun _ _ => False) target g)
    (ht : ∀ C ex pins s₀ H₀, PIf (blk X scope N C ex pins s₀ H₀ fun _ _ => False) ifs tt)
    (he : ∀ C ex pins s₀ H₀, PE (blk X scope N C ex pins s₀ H₀ fun _ _ => False) elt te)
    (hN : X.N.Nodup) (hy : X.N[i]? = some y) (hx : Loc X.env.scope y)
    (hsw : swapsWith (.ListComp elt [⟨target, iter, ifs, 0⟩] scope pos) (some (.Name y py)) spos.line X.env = pure true := by rfl) (hf : X.fn y = true ∨ X.env.scope.names.lookup y = some .local := by first | exact .inl rfl | exact .inr rfl | assumption)
    (hs : ∀ x, foldedSetIterable iter X.env x = pure x := by intro _; rfl) : PS X (.Assign [.Name y py] (.ListComp elt [⟨target, iter, ifs, 0⟩] scope pos) spos) (tSetE i (tComp fr wi g tt te)) := by
  intro pins s σ H D I h
  rw [exec_Assign_Name_used _ _ _ _ hsw]
  refine wpAny_bind (wpAny_standAt (wpAny_bind ?_))
  show wpAny _ X.A (do let _ ← comprehension (.ListComp elt [⟨target, iter, ifs, 0⟩] scope pos) scope X.env _ (newList []) false (eval iter X.env) (some (assign (.Name y py) X.env))) _ _ s
  refine wpAny_bind (thn (wpAny_comprehension_free (use := some (assign (.Name y py) X.env)) (Q := fun _ s' => SP X pins D .next s') rfl hs (closureFor_ok (I.clHas c)) c.kind c.loc
    (comp_core (R := compPost (model X.prog X.w) X.A X.xe (some (assign (.Name y py) X.env)) (fun _ s' => SP X pins D .next s')) c hcalm hi hg ht he I h fun p C m s' H' I' f hn q => ?_)) (fun _ s' hq => wpAny_pure (wpAny_pure hq)))
  show wpAny _ X.A (assign (.Name y py) X.env (.ref p)) _ _ s'
  refine wpAny_assign_Name (store_ok2 (v := .ref p) I' hN hy hx rfl (fun s2 I2 hsb => ?_) hf)
  obtain ⟨a, sb, ha⟩ := hsb
  have hCa : C ≠ a := by
    rcases ha with ha | ha
    · rw [ha]; exact f.2.1
    · exact fun e => f.2.2.2.2.1 y a ha e.symm
  exact ⟨m, hn.sameBut sb hCa, fun h' hs' => ⟨_, H', I2.letgo f hs', q⟩⟩
end
end L2
set_option Elab.async false
set_option linter.all false
set_option maxRecDepth 100000
set_option maxHeartbeats 4000000
namespace L2
open PySem PySem.Spec PyProof.Rows
def Its (x : Str) : It := ⟨fun i _ => i < x.cps.size, fun i H v H' => H' = H ∧ ∃ c, x.cps[i]? = some c ∧ v = .str ⟨#[c]⟩, fun i _ => x.cps.size ≤ i⟩
theorem strIter_str {x : Str} : strIterType x = "str_ascii_iterator" ∨ strIterType x = "str_iterator" := by
  unfold strIterType; split
  · exact .inl rfl
  · exact .inr rfl
theorem turn_str {P : Program} {w : World} {K : PySem.W.Frag} {tg : Expr} (it : Addr) (x : Str) (t : Tok) : Turn P w K tg (Its x) [it] it (fun i h => h.IsStrIter it (strIterType x) x t i ∧ i ≤ x.cps.size) where
  mem := by simp
  obj := fun i h st b hb => by
    have e : b = it := by simpa using hb
    subst e
    obtain ⟨⟨o, e, c, d⟩, _⟩ := st
    exact ⟨o, e, fun v z => by rw [d] at z; cases z⟩
  keep := fun i h h' st k => by
    obtain ⟨⟨o, e, c, d⟩, l⟩ := st
    exact ⟨⟨o, k it (by simp) o e, c, d⟩, l⟩
  item := by
    intro X hP hw hK hc i pins s σ H E I hf st hg
    subst hP hw hK
    obtain ⟨f0, f1, f2, f3, f4, f5⟩ := hf it (by simp)
    have hg : i < x.cps.size := hg
    rcases strIter_str (x := x) with e | e
    · rw [e] at st ⊢
      have W := Walks.strAscii (prog := X.prog) (w := X.w) (I.ok.hd hc) it x t
      refine W.item i s _ _ hg st.1 fun v h' tk hv st' kk => ?_
      obtain ⟨c, u, hcu, rfl⟩ := hv
      have I1 : Inv X pins σ H { s with heap := h', toks := tk } := I.turned (fun b o hb e => kk b o (by simpa using hb) e) f0 f1 f3 f4 f5
      obtain ⟨o, e1, c1, d1⟩ := id st'
      exact ⟨_, rfl, go_of (s := { s with heap := h', toks := tk }) e1 c1 d1 (by decide) ⟨.str ⟨#[c]⟩, H, I1, ⟨u, rfl⟩, ⟨rfl, c, hcu, rfl⟩, ⟨st', hg⟩, fun b hb => (hf b hb).1⟩⟩
    · rw [e] at st ⊢
      have W := Walks.strWide (prog := X.prog) (w := X.w) (I.ok.hd hc) it x t
      refine W.item i s _ _ hg st.1 fun v h' tk hv st' kk => ?_
      obtain ⟨c, u, hcu, rfl⟩ := hv
      have I1 : Inv X pins σ H { s with heap := h', toks := tk } := I.turned (fun b o hb e => kk b o (by simpa using hb) e) f0 f1 f3 f4 f5
      obtain ⟨o, e1, c1, d1⟩ := id st'
      exact ⟨_, rfl, go_of (s := { s with heap := h', toks := tk }) e1 c1 d1 (by decide) ⟨.str ⟨#[c]⟩, H, I1, ⟨u, rfl⟩, ⟨rfl, c, hcu, rfl⟩, ⟨st', hg⟩, fun b hb => (hf b hb).1⟩⟩
  done := by
    intro X hP hw hK hc i pins s σ H E I hf st hg
    subst hP hw hK
    obtain ⟨f0, f1, f2, f3, f4, f5⟩ := hf it (by simp)
    have hg : x.cps.size ≤ i := hg
    obtain ⟨st, l⟩ := st
    have hi : i = x.cps.size := by omega
    subst hi
    rcases strIter_str (x := x) with e | e
    · rw [e] at st
      exact (Walks.strAscii (prog := X.prog) (w := X.w) (I.ok.hd hc) it x t).done s _ _ st fun h' tk kk => ⟨rfl, I.turned (fun b o hb e => kk b o (by simpa using hb) e) f0 f1 f3 f4 f5⟩
    · rw [e] at st
      exact (Walks.strWide (prog := X.prog) (w := X.w) (I.ok.hd hc) it x t).done s _ _ st fun h' tk kk => ⟨rfl, I.turned (fun b o hb e => kk b o (by simpa using hb) e) f0 f1 f3 f4 f5⟩
  self := fun A i s Q E st h => by
    obtain ⟨st, l⟩ := st
    rcases strIter_str (x := x) with e | e
    · rw [e] at st; exact wpAny_pyIter_striter_ascii st h
    · rw [e] at st; exact wpAny_pyIter_striter_wide st h
section
variable {X : Cx} {tg : Expr}
theorem op_le_str : OpR X (compareOp .LtE) (fun x y H Q => ∃ i j, x = .str i ∧ y = .str j ∧ Q (.bl (!decide (j.cps.toList < i.cps.toList))) H) := by
  intro pins s σ H x y v u Q I rx ry h
  obtain ⟨i, j, rfl, rfl, q⟩ := h
  obtain ⟨t, rfl⟩ := rx
  obtain ⟨t', rfl⟩ := ry
  exact P.le_str (fin_bl I q rfl)
theorem sl_str : SlR X (fun x lo hi H Q => ∃ z, x = .str z ∧ z.length ≤ sizeLine ∧ Q (.str (Txt.slice z lo hi)) H) := by
  intro pins s σ H x v vl vu lo hi sl Q I rx hs pl pu h
  obtain ⟨z, rfl, hz, q⟩ := h
  obtain ⟨t, rfl⟩ := rx
  have key : ∀ (l u : Option (Int × Tok)), partValue l = vl → partValue u = vu → l.map (·.1) = lo → u.map (·.1) = hi → wpAny (model X.prog X.w) X.A (getItem (.str z t) (.ref sl)) (EP X pins σ Q) X.xe s := by
    rintro l u rfl rfl rfl rfl
    refine wpAny_getItem_str_slice (l := l) (u := u) (st := none) hs rfl (post_val_or_str ⟨Nat.le_trans (Txt.slice_le z _ _) hz, fun t' k => ⟨.str _, H, I.tok k, ⟨_, rfl⟩, q⟩⟩)
  refine ⟨"str", _, F.slot_str_getitem.lookup, typeIs_str _ _ _, ?_⟩
  cases pl with
  | none =>
    cases pu with
    | none => exact key none none rfl rfl rfl rfl
    | int j u => exact key none (some (j, u)) rfl rfl rfl rfl
  | int i t2 =>
    cases pu with
    | none => exact key (some (i, t2)) none rfl rfl rfl rfl
    | int j u => exact key (some (i, t2)) (some (j, u)) rfl rfl rfl rfl
end
end L2
set_option Elab.async false
set_option linter.all false
set_option maxRecDepth 100000
set_option maxHeartbeats 4000000
namespace L2
open PySem PySem.Spec PyProof.Rows
def DefAt (K : PySem.W.Frag) (mg : Str → Option Value) (x : Str) (st : Stmt) : Prop := ∃ f fd, Fun K x x st f fd ∧ mg x = some (.ref f)
def Has (P : Program) (w : World) (K : PySem.W.Frag) (mg : Str → Option Value) (base : Heap) (k : Nat) (x : Str) (ps : List Str) (sp : Sp) : Prop :=
  ∃ f fd, mg x = some (.ref f) ∧ PySem.W.keepIn K (.ref f) = true ∧ Binds K fd ps [] ∧ FnOk P w K mg base CX0 k f fd ps sp
theorem defAt_mk {K : PySem.W.Frag} {h : Heap} {mg : Str → Option Value} (X : K.In h) (G : h.Ns mainGlobals mg) {x : Str} {st : Stmt} {f : Addr} {oc : Value} {od an : Option Addr} {osl : Array (Option Value)} {kV doc pm cdv ct : Value}
    (a : PySem.W.nsIn K mainGlobals x = some (some (.ref f))) (l : K.lookup f = some ⟨oc, od, .func (PySem.W.fnOf x x (defArgs st) (defBody st) (defScope st) .none kV doc pm an cdv ct), osl⟩)
    (c : PySem.W.codeIn K cdv x = true) (k : PySem.W.keepIn K (.ref f) = true) : DefAt K mg x st := ⟨f, _, fun_mk l c k, PySem.W.mg_of X G a⟩
section
variable {P : Program} {w : World} {K : PySem.W.Frag} {mg : Str → Option Value} {base : Heap}
theorem DefAt.has {x : Str} {st : Stmt} {N ps : List Str} {k : Nat} {sp : Sp} (F : DefAt K mg x st) (S : FnScope N ps (defScope st))
    (hb : ∀ (kV doc pm : Value) (an : Option Addr) (cdv ct : Value) (us : List Value), us.length = ps.length → bindArgs (PySem.W.fnOf x x (defArgs st) (defBody st) (defScope st) .none kV doc pm an cdv ct) ⟨us, []⟩ = pure (ps.zip us))
    (len : ∀ vs H Q E, sp vs H Q E → vs.length = ps.length)
    (hbody : ∀ (f : Addr) (cdv : Value) (A : Around) (outer : List Env) (s : Shared) (H : Hp) (vs : List V) (Q : VK) (E : XK), Room k (A.deeper (envOfC x (defScope st) s.heap.objs.size f cdv)) → sp vs H Q E →
      ∃ t, PSs (cxOf CX0 P w K mg base N x (defScope st) f cdv A outer s H E).nox (defBody st) t ∧ t { nx := fun _ H' => Q .non H', rt := Q } (start N vs) H) : Has P w K mg base (k + 1) x ps sp := by
  obtain ⟨f, fd, F, m⟩ := F
  exact ⟨f, fd, m, F.kp, F.binds hb, F.ok S len (hbody f)⟩
theorem Has.mono {j k : Nat} {x : Str} {ps : List Str} {sp : Sp} (h : Has P w K mg base j x ps sp) (hjk : j ≤ k) : Has P w K mg base k x ps sp := by
  obtain ⟨f, fd, m, kp, b, F⟩ := h
  exact ⟨f, fd, m, kp, b, F.mono hjk⟩
end
section
variable {X : Cx} {k : Nat} {x : Str} {ps : List Str} {sp : Sp} {p pos : Pos} {e : Expr} {es : List Expr} {t : TA}
theorem pe_fn (h : Has X.prog X.w X.K X.mg X.base k x ps sp) (hr : Room k X.A) (ha : PA X (e :: es) t) (hg : Gl X x := by rfl) (hdb : (x == ("__debug__" : Str)) = false := by decide)
    (he : starEach (e :: es) X.env = (false, eval e X.env) :: starEach es X.env := by rfl) (hpl : (backTo pos (starEach es X.env)).any (·.1) = false := by rfl) :
    PE X (.Call (.Name x p) (e :: es) [] pos) (tCall sp [] E0 t) := by
  obtain ⟨f, fd, m, kp, b, F⟩ := h
  exact pe_call F hr hg m kp b .nil pass0 ha hdb he hpl
end
end L2
set_option Elab.async false
set_option linter.all false
set_option maxRecDepth 100000
set_option maxHeartbeats 4000000
namespace L2
open PySem PySem.Spec PyProof.Rows
theorem same_upd {H : Hp} {p : Addr} {o : HO} (h : H p = none) : Same H (upd H p o) := fun b u e => by rw [upd_ne (ne_of_none e h)]; exact e
end L2
set_option Elab.async false
set_option linter.all false
set_option maxRecDepth 100000
set_option maxHeartbeats 4000000
namespace L2
open PySem PySem.Spec PyProof.Rows
section
variable {P : Program} {w : World} {K : PySem.W.Frag} {mg : Str → Option Value} {base : Heap}
theorem DefAt.hasB {x : Str} {st : Stmt} {N ps : List Str} {k : Nat} {sp : Sp} {body : List Stmt} {scope : Scope} (F : DefAt K mg x st) (eb : defBody st = body) (es : defScope st = scope) (S : FnScope N ps scope)
    (hb : ∀ (kV doc pm : Value) (an : Option Addr) (cdv ct : Value) (us : List Value), us.length = ps.length → bindArgs (PySem.W.fnOf x x (defArgs st) (defBody st) (defScope st) .none kV doc pm an cdv ct) ⟨us, []⟩ = pure (ps.zip us))
    (len : ∀ vs H Q E, sp vs H Q E → vs.length = ps.length)
    (hbody : ∀ (f : Addr) (cdv : Value) (A : Around) (outer : List Env) (s : Shared) (H : Hp) (vs : List V) (Q : VK) (E : XK), Room k (A.deeper (envOfC x scope s.heap.objs.size f cdv)) → sp vs H Q E →
      ∃ t, PSs (cxOf CX0 P w K mg base N x scope f cdv A outer s H E).nox body t ∧ t { nx := fun _ H' => Q .non H', rt := Q } (start N vs) H) : Has P w K mg base (k + 1) x ps sp := by
  subst eb es
  exact F.has S hb len hbody
end
end L2
set_option Elab.async false
set_option linter.all false
set_option maxRecDepth 100000
set_option maxHeartbeats 4000000
namespace L2
open PySem PySem.Spec PyProof.Rows
structure QE (X : Cx) (e : Expr) (t : TE) : Prop where p : PE X e t
structure QT (X : Cx) (e : Expr) (t : TT) : Prop where p : PT X e t
structure QW (X : Cx) (e : Expr) (t : TT) : Prop where p : PW X e t
structure QA (X : Cx) (es : List Expr) (t : TA) : Prop where p : PA X es t
structure QS (X : Cx) (st : Stmt) (t : TS) : Prop where p : PS X st t
structure QB (X : Cx) (st : List Stmt) (t : TS) : Prop where p : PSs X st t
structure QG (X : Cx) (tg : Expr) (g : TG) : Prop where p : PG X tg g
structure QGs (X : Cx) (tg : List Expr) (g : TGs) : Prop where p : PGs X tg g
structure QI (X : Cx) (tg iter : Expr) (wi : TI) : Prop where p : PI X tg iter wi
structure QF (X : Cx) (ifs : List Expr) (t : TT) : Prop where p : PIf X ifs t
structure QO (X : Cx) (e : Option Expr) (t : TO) : Prop where p : PO X e t
structure ROp (X : Cx) (op : Operator) (r : R2) : Prop where p : OpR X (binaryOp op) r
structure RCmp (X : Cx) (op : CmpOp) (r : R2) : Prop where p : OpR X (compareOp op) r
structure RUn (X : Cx) (op : UnaryOp) (r : V → Hp → VK → Prop) : Prop where p : UnR X (unaryOp op) r
structure RB (X : Cx) (id : String) (r : List V → Hp → VK → Prop) : Prop where p : CallR X (.builtin id) r
structure RTy (X : Cx) (T : String) (r : List V → Hp → VK → Prop) : Prop where p : CallR X (.type T) r
structure RIx (X : Cx) (r : R2) : Prop where p : IxR X r
structure RSl (X : Cx) (r : V → Option Int → Option Int → Hp → VK → Prop) : Prop where p : SlR X r
structure RMt (X : Cx) (id : String) (r : V → List V → Hp → VK → Prop) : Prop where p : MtR X id r
section
variable {X : Cx} {a b c e : Expr} {es rest : List Expr} {ta tb tc te : TE} {t u : TS} {tA tB' : TT} {tt : TA} {pos p p2 p3 : Pos} {x : Str}
end
section
variable {P : Program} {w : World} {K : PySem.W.Frag} {mg : Str → Option Value} {base : Heap}
theorem DefAt.hasQ {x : Str} {st : Stmt} {N ps : List Str} {k : Nat} {sp : Sp} {body : List Stmt} {scope : Scope} (F : DefAt K mg x st) (eb : defBody st = body) (es : defScope st = scope) (S : FnScope N ps scope)
    (hb : ∀ (kV doc pm : Value) (an : Option Addr) (cdv ct : Value) (us : List Value), us.length = ps.length → bindArgs (PySem.W.fnOf x x (defArgs st) (defBody st) (defScope st) .none kV doc pm an cdv ct) ⟨us, []⟩ = pure (ps.zip us))
    (len : ∀ vs H Q E, sp vs H Q E → vs.length = ps.length)
    (hbody : ∀ (f : Addr) (cdv : Value) (A : Around) (outer : List Env) (s : Shared) (H : Hp) (vs : List V) (Q : VK) (E : XK), Room k (A.deeper (envOfC x scope s.heap.objs.size f cdv)) → sp vs H Q E →
      ∃ t, QB (cxOf CX0 P w K mg base N x scope f cdv A outer s H E).nox body t ∧ t { nx := fun _ H' => Q .non H', rt := Q } (start N vs) H) : Has P w K mg base (k + 1) x ps sp :=
  F.hasB eb es S hb len fun f cdv A outer s H vs Q E hr h => let ⟨t, q, z⟩ := hbody f cdv A outer s H vs Q E hr h; ⟨t, q.p, z⟩
theorem Fun.binds1 {x y : Str} {st : Stmt} {f : Addr} {fd : FuncData} (F : Fun K x x st f fd)
    (h : ∀ (kV doc pm : Value) (an : Option Addr) (cdv ct : Value) (u : Value), bindArgs (PySem.W.fnOf x x (defArgs st) (defBody st) (defScope st) .none kV doc pm an cdv ct) ⟨[u], []⟩ = pure [(y, u)]) : ∀ (s : Shared) (v : Value), BindsTo s fd ⟨[v], []⟩ [(y, v)] := by
  obtain ⟨oc, od, kV, doc, pm, an, cdv, ct, osl, rfl, lk, hcd⟩ := F.ex
  exact fun s v => .of_eq (h kV doc pm an cdv ct v)
end
end L2
set_option Elab.async false
set_option linter.all false
set_option maxRecDepth 100000
set_option maxHeartbeats 4000000
namespace L3
open PySem PySem.Spec PyProof.Rows L2
inductive D where
  | non | bl (b : Bool) | int (i : Int) | str (x : Str) | ty (n : String)
  | tup (ds : List D) | lst (ds : List D) | dct (ks : List Key) (ds : List D)
  | ins (C : Addr) (ns : List Str) (ds : List D) | scr (ns : List Int) | loc (k : Nat) | cls (C : Addr)
inductive OD where
  | lst (ds : List D) | dct (ks : List Key) (ds : List D) | ins (C : Addr) (ns : List Str) (ds : List D)
abbrev Ms := List (Option OD)
mutual
def Rep (K : PySem.W.Frag) (α : List Addr) (H : Hp) : D → V → Prop
  | .non, v => v = .non
  | .bl b, v => v = .bl b
  | .int i, v => v = .int i
  | .str x, v => v = .str x
  | .ty n, v => v = .ty n
  | .tup ds, v => ∃ a vs, v = .ref a ∧ SqT K H a vs ∧ Reps K α H ds vs
  | .lst ds, v => ∃ a vs, v = .ref a ∧ H a = some (.lst vs) ∧ Reps K α H ds vs
  | .scr ns, v => ∃ a, v = .ref a ∧ SqL K H a (ns.map V.int)
  | .dct ks ds, v => ∃ a vs, v = .ref a ∧ H a = some (.dK (ks.zip vs)) ∧ ks.length = ds.length ∧ Reps K α H ds vs
  | .ins C ns ds, v => ∃ a dx vs, v = .ref a ∧ H a = some (.ins C dx (ns.zip vs)) ∧ ns.length = ds.length ∧ Reps K α H ds vs
  | .loc k, v => ∃ a, α[k]? = some a ∧ v = .ref a
  | .cls C, v => v = .ref C
def Reps (K : PySem.W.Frag) (α : List Addr) (H : Hp) : List D → List V → Prop
  | [], vs => vs = []
  | d :: ds, vs => ∃ v r, vs = v :: r ∧ Rep K α H d v ∧ Reps K α H ds r
end
theorem same_seqT {K : PySem.W.Frag} {H H' : Hp} {a : Addr} {xs : List V} (e : Same H H') (h : SqT K H a xs) : SqT K H' a xs := by
  rcases h with (h | ⟨o, h⟩) | h
  · exact .inl (.inl (e _ _ h))
  · exact .inl (.inr ⟨o, e _ _ h⟩)
  · exact .inr h
theorem same_seqL {K : PySem.W.Frag} {H H' : Hp} {a : Addr} {xs : List V} (e : Same H H') (h : SqL K H a xs) : SqL K H' a xs := by
  rcases h with (h | ⟨o, h⟩) | h
  · exact .inl (.inl (e _ _ h))
  · exact .inl (.inr ⟨o, e _ _ h⟩)
  · exact .inr h
theorem pre_get {α β : List Addr} (p : α <+: β) {k : Nat} {a : Addr} (h : α[k]? = some a) : β[k]? = some a := by
  obtain ⟨t, rfl⟩ := p
  have := (List.getElem?_eq_some_iff.mp h).1
  rw [List.getElem?_append_left this]; exact h
mutual
theorem Rep.mono {K : PySem.W.Frag} {α β : List Addr} {H H' : Hp} (p : α <+: β) (e : Same H H') : ∀ (d : D) (v : V), Rep K α H d v → Rep K β H' d v
  | .non, v, h => by unfold Rep at h ⊢; exact h
  | .bl _, v, h => by unfold Rep at h ⊢; exact h
  | .int _, v, h => by unfold Rep at h ⊢; exact h
  | .str _, v, h => by unfold Rep at h ⊢; exact h
  | .ty _, v, h => by unfold Rep at h ⊢; exact h
  | .tup ds, v, h => by
    unfold Rep at h ⊢
    obtain ⟨a, vs, r, q, z⟩ := h
    exact ⟨a, vs, r, same_seqT e q, Reps.mono p e ds vs z⟩
  | .lst ds, v, h => by
    unfold Rep at h ⊢
    obtain ⟨a, vs, r, q, z⟩ := h
    exact ⟨a, vs, r, e _ _ q, Reps.mono p e ds vs z⟩
  | .scr ns, v, h => by
    unfold Rep at h ⊢
    obtain ⟨a, r, q⟩ := h
    exact ⟨a, r, same_seqL e q⟩
  | .dct ks ds, v, h => by
    unfold Rep at h ⊢
    obtain ⟨a, vs, r, q, l, z⟩ := h
    exact ⟨a, vs, r, e _ _ q, l, Reps.mono p e ds vs z⟩
  | .ins C ns ds, v, h => by
    unfold Rep at h ⊢
    obtain ⟨a, dx, vs, r, q, l, z⟩ := h
    exact ⟨a, dx, vs, r, e _ _ q, l, Reps.mono p e ds vs z⟩
  | .loc k, v, h => by
    unfold Rep at h ⊢
    obtain ⟨a, r, q⟩ := h
    exact ⟨a, pre_get p r, q⟩
  | .cls _, v, h => by unfold Rep at h ⊢; exact h
theorem Reps.mono {K : PySem.W.Frag} {α β : List Addr} {H H' : Hp} (p : α <+: β) (e : Same H H') : ∀ (ds : List D) (vs : List V), Reps K α H ds vs → Reps K β H' ds vs
  | [], vs, h => by unfold Reps at h ⊢; exact h
  | d :: ds, vs, h => by
    unfold Reps at h ⊢
    obtain ⟨v, r, q, z, y⟩ := h
    exact ⟨v, r, q, Rep.mono p e d v z, Reps.mono p e ds r y⟩
end
section
variable {K : PySem.W.Frag} {α : List Addr} {H : Hp}
theorem Reps.length : ∀ (ds : List D) (vs : List V), Reps K α H ds vs → ds.length = vs.length
  | [], vs, h => by unfold Reps at h; rw [h]; rfl
  | d :: ds, vs, h => by
    unfold Reps at h
    obtain ⟨v, r, rfl, _, y⟩ := h
    rw [List.length_cons, List.length_cons, Reps.length ds r y]
theorem Reps.get : ∀ (ds : List D) (vs : List V) (i : Nat) (d : D), Reps K α H ds vs → ds[i]? = some d → ∃ v, vs[i]? = some v ∧ Rep K α H d v
  | [], vs, i, d, h, e => by simp at e
  | x :: ds, vs, 0, d, h, e => by
    unfold Reps at h
    obtain ⟨v, r, rfl, z, _⟩ := h
    simp at e; subst e
    exact ⟨v, rfl, z⟩
  | x :: ds, vs, i + 1, d, h, e => by
    unfold Reps at h
    obtain ⟨v, r, rfl, _, y⟩ := h
    obtain ⟨u, h1, h2⟩ := Reps.get ds r i d y (by simpa using e)
    exact ⟨u, by simpa using h1, h2⟩
theorem Reps.get' : ∀ (ds : List D) (vs : List V) (i : Nat) (v : V), Reps K α H ds vs → vs[i]? = some v → ∃ d, ds[i]? = some d ∧ Rep K α H d v
  | [], vs, i, d, h, e => by unfold Reps at h; subst h; simp at e
  | x :: ds, vs, 0, d, h, e => by
    unfold Reps at h
    obtain ⟨v, r, rfl, z, _⟩ := h
    simp at e; subst e
    exact ⟨x, rfl, z⟩
  | x :: ds, vs, i + 1, d, h, e => by
    unfold Reps at h
    obtain ⟨v, r, rfl, _, y⟩ := h
    obtain ⟨u, h1, h2⟩ := Reps.get' ds r i d y (by simpa using e)
    exact ⟨u, by simpa using h1, h2⟩
theorem Reps.append : ∀ (ds es : List D) (vs us : List V), Reps K α H ds vs → Reps K α H es us → Reps K α H (ds ++ es) (vs ++ us)
  | [], es, vs, us, h, g => by unfold Reps at h; subst h; exact g
  | d :: ds, es, vs, us, h, g => by
    unfold Reps at h
    obtain ⟨v, r, rfl, z, y⟩ := h
    show Reps K α H (d :: (ds ++ es)) (v :: (r ++ us))
    unfold Reps
    exact ⟨v, _, rfl, z, Reps.append ds es r us y g⟩
theorem Reps.nil : Reps K α H [] [] := by unfold Reps; rfl
theorem Reps.cons {d : D} {v : V} {ds : List D} {vs : List V} (q : Rep K α H d v) (h : Reps K α H ds vs) : Reps K α H (d :: ds) (v :: vs) := by
  unfold Reps
  exact ⟨v, vs, rfl, q, h⟩
theorem Reps.one {d : D} {v : V} (q : Rep K α H d v) : Reps K α H [d] [v] := Reps.cons q Reps.nil
theorem Reps.take : ∀ (n : Nat) (ds : List D) (vs : List V), Reps K α H ds vs → Reps K α H (ds.take n) (vs.take n)
  | 0, ds, vs, h => by simpa using Reps.nil
  | n + 1, [], vs, h => by unfold Reps at h; subst h; simpa using Reps.nil
  | n + 1, d :: ds, vs, h => by
    unfold Reps at h
    obtain ⟨v, r, rfl, z, y⟩ := h
    rw [List.take_succ_cons, List.take_succ_cons]
    exact Reps.cons z (Reps.take n ds r y)
theorem Reps.drop : ∀ (n : Nat) (ds : List D) (vs : List V), Reps K α H ds vs → Reps K α H (ds.drop n) (vs.drop n)
  | 0, ds, vs, h => h
  | n + 1, [], vs, h => by unfold Reps at h; subst h; simpa using Reps.nil
  | n + 1, d :: ds, vs, h => by
    unfold Reps at h
    obtain ⟨v, r, rfl, z, y⟩ := h
    rw [List.drop_succ_cons, List.drop_succ_cons]
    exact Reps.drop n ds r y
theorem Reps.set {d : D} {v : V} (q : Rep K α H d v) : ∀ (i : Nat) (ds : List D) (vs : List V), Reps K α H ds vs → Reps K α H (ds.set i d) (vs.set i v)
  | i, [], vs, h => by unfold Reps at h; subst h; simpa using Reps.nil
  | 0, x :: ds, vs, h => by
    unfold Reps at h
    obtain ⟨u, r, rfl, z, y⟩ := h
    exact Reps.cons q y
  | i + 1, x :: ds, vs, h => by
    unfold Reps at h
    obtain ⟨u, r, rfl, z, y⟩ := h
    exact Reps.cons z (Reps.set q i ds r y)
theorem Reps.of_map {β : Type} (f : β → D) (g : β → V) (h : ∀ a, Rep K α H (f a) (g a)) : ∀ l : List β, Reps K α H (l.map f) (l.map g)
  | [] => Reps.nil
  | a :: l => Reps.cons (h a) (Reps.of_map f g h l)
theorem Reps.rep {ds : List D} {vs : List V} (h : Reps K α H ds vs) : ∀ k : Nat, Reps K α H (List.replicate k ds).flatten (List.replicate k vs).flatten
  | 0 => Reps.nil
  | k + 1 => by
    rw [List.replicate_succ, List.replicate_succ, List.flatten_cons, List.flatten_cons]
    exact Reps.append _ _ _ _ h (Reps.rep h k)
theorem Reps.at {ds : List D} {vs : List V} {i : Int} {d : D} (h : Reps K α H ds vs) (e : atI ds i = some d) : ∃ v, atI vs i = some v ∧ Rep K α H d v := by
  unfold atI at e ⊢
  rw [← Reps.length _ _ h]
  cases q : ixN ds.length i with
  | none => rw [q] at e; cases e
  | some j =>
    rw [q] at e
    exact Reps.get ds vs j d h e
theorem rep_int {i : Int} : Rep K α H (.int i) (.int i) := by unfold Rep; rfl
theorem rep_bl {i : Bool} : Rep K α H (.bl i) (.bl i) := by unfold Rep; rfl
theorem rep_str {i : Str} : Rep K α H (.str i) (.str i) := by unfold Rep; rfl
theorem rep_non : Rep K α H .non .non := by unfold Rep; rfl
theorem rep_ty {n : String} : Rep K α H (.ty n) (.ty n) := by unfold Rep; rfl
end
def hide (A : List Addr) (H : Hp) : Hp := fun b => if b ∈ A then none else H b
theorem hide_same {A : List Addr} {H : Hp} : Same (hide A H) H := fun b o e => by
  unfold hide at e
  split at e
  · cases e
  · exact e
theorem hide_out {A : List Addr} {H : Hp} {p : Addr} (h : p ∉ A) : hide A H p = H p := by unfold hide; rw [if_neg h]
theorem hide_in {A : List Addr} {H : Hp} {p : Addr} (h : p ∈ A) : hide A H p = none := by unfold hide; rw [if_pos h]
theorem hide_some {A : List Addr} {H : Hp} {p : Addr} {o : HO} (h : hide A H p = some o) : p ∉ A ∧ H p = some o := by
  by_cases z : p ∈ A
  · rw [hide_in z] at h; cases h
  · exact ⟨z, by rwa [hide_out z] at h⟩
theorem same_hide {A : List Addr} {H H' : Hp} (h : Same H H') : Same (hide A H) (hide A H') := fun b o e => by
  obtain ⟨z, q⟩ := hide_some e
  rw [hide_out z]; exact h b o q
def lv : List Addr → Ms → List Addr
  | a :: α, some _ :: M => a :: lv α M
  | _ :: α, none :: M => lv α M
  | _, _ => []
theorem mem_lv : ∀ {α : List Addr} {M : Ms} {a : Addr}, a ∈ lv α M ↔ ∃ (k : Nat) (o : OD), α[k]? = some a ∧ M[k]? = some (some o)
  | [], M, a => by cases M <;> simp [lv]
  | b :: α, [], a => by simp [lv]
  | b :: α, some x :: M, a => by
    simp only [lv, List.mem_cons, mem_lv]
    constructor
    · rintro (rfl | ⟨k, o, h1, h2⟩)
      · exact ⟨0, x, rfl, rfl⟩
      · exact ⟨k + 1, o, by simpa using h1, by simpa using h2⟩
    · rintro ⟨k, o, h1, h2⟩
      cases k with
      | zero => left; simpa using h1.symm
      | succ k => right; exact ⟨k, o, by simpa using h1, by simpa using h2⟩
  | b :: α, none :: M, a => by
    simp only [lv, mem_lv]
    constructor
    · rintro ⟨k, o, h1, h2⟩
      exact ⟨k + 1, o, by simpa using h1, by simpa using h2⟩
    · rintro ⟨k, o, h1, h2⟩
      cases k with
      | zero => simp at h2
      | succ k => exact ⟨k, o, by simpa using h1, by simpa using h2⟩
abbrev hid (F α : List Addr) (M : Ms) (H : Hp) : Hp := hide (lv α M ++ F) H
def RepM (K : PySem.W.Frag) (α : List Addr) (Hh H : Hp) : OD → Addr → Prop
  | .lst ds, a => ∃ vs, H a = some (.lst vs) ∧ Reps K α Hh ds vs
  | .dct ks ds, a => ∃ vs, H a = some (.dK (ks.zip vs)) ∧ ks.length = ds.length ∧ Reps K α Hh ds vs
  | .ins C ns ds, a => ∃ dx vs, H a = some (.ins C dx (ns.zip vs)) ∧ ns.length = ds.length ∧ Reps K α Hh ds vs
structure OK (K : PySem.W.Frag) (F α : List Addr) (H : Hp) (M : Ms) : Prop where
  ml : α.length = M.length
  nd : α.Nodup
  fr : ∀ a ∈ F, a ∉ α ∧ H a ≠ none
  al : ∀ a ∈ α, H a ≠ none
  own : ∀ (k : Nat) o, M[k]? = some (some o) → ∃ a, α[k]? = some a ∧ RepM K α (hid F α M H) H o a
structure Ext (F α : List Addr) (H : Hp) (M : Ms) (α' : List Addr) (H' : Hp) (M' : Ms) : Prop where
  pre : α <+: α'
  same : Same (hid F α M H) (hid F α' M' H')
  fr : ∀ a ∈ F, H' a = H a
abbrev DSt := List (Option D)
structure R (K : PySem.W.Frag) (F α : List Addr) (H : Hp) (σ : L2.St) (δ : DSt) (M : Ms) : Prop where
  ok : OK K F α H M
  len : σ.length = δ.length
  sl : ∀ (i : Nat) d, δ[i]? = some (some d) → ∃ v, σ[i]? = some (some v) ∧ Rep K α (hid F α M H) d v
section
variable {K : PySem.W.Frag} {F α α' α'' : List Addr} {H H' H'' : Hp} {M M' M'' : Ms} {σ : L2.St} {δ : DSt}
theorem Ext.refl : Ext F α H M α H M := ⟨List.prefix_refl _, Same.refl _, fun _ _ => rfl⟩
theorem Ext.trans (e : Ext F α H M α' H' M') (e' : Ext F α' H' M' α'' H'' M'') : Ext F α H M α'' H'' M'' :=
  ⟨e.pre.trans e'.pre, e.same.trans e'.same, fun a h => (e'.fr a h).trans (e.fr a h)⟩
theorem Ext.rep (e : Ext F α H M α' H' M') {d : D} {v : V} (h : Rep K α (hid F α M H) d v) : Rep K α' (hid F α' M' H') d v := Rep.mono e.pre e.same d v h
theorem Ext.reps (e : Ext F α H M α' H' M') {d : List D} {v : List V} (h : Reps K α (hid F α M H) d v) : Reps K α' (hid F α' M' H') d v := Reps.mono e.pre e.same d v h
theorem R.grow (r : R K F α H σ δ M) (e : Ext F α H M α' H' M') (o : OK K F α' H' M') : R K F α' H' σ δ M' :=
  ⟨o, r.len, fun i d q => by
    obtain ⟨v, h1, h2⟩ := r.sl i d q
    exact ⟨v, h1, e.rep h2⟩⟩
theorem OK.live (o : OK K F α H M) : ∀ a ∈ lv α M, H a ≠ none := fun a ha => by
  obtain ⟨k, x, h1, h2⟩ := mem_lv.mp ha
  obtain ⟨b, e, r⟩ := o.own k x h2
  rw [h1] at e; cases e
  cases x with
  | lst ds => obtain ⟨vs, e, _⟩ := r; rw [e]; exact fun z => by cases z
  | dct ks ds => obtain ⟨vs, e, _⟩ := r; rw [e]; exact fun z => by cases z
  | ins C ns ds => obtain ⟨dx, vs, e, _⟩ := r; rw [e]; exact fun z => by cases z
theorem OK.new (o : OK K F α H M) {p : Addr} (h : H p = none) : p ∉ lv α M ++ F := fun z => by
  rcases List.mem_append.mp z with z | z
  · exact o.live p z h
  · exact (o.fr p z).2 h
theorem RepM.some {Hh : Hp} {x : OD} {a : Addr} (r : RepM K α Hh H x a) : H a ≠ none := by
  cases x with
  | lst ds => obtain ⟨vs, e, _⟩ := r; rw [e]; exact fun z => by cases z
  | dct ks ds => obtain ⟨vs, e, _⟩ := r; rw [e]; exact fun z => by cases z
  | ins C ns ds => obtain ⟨dx, vs, e, _⟩ := r; rw [e]; exact fun z => by cases z
theorem RepM.mono {Hh Hh' : Hp} (p : α <+: α') (e : Same Hh Hh') {o : OD} {a : Addr} (ha : H' a = H a) (h : RepM K α Hh H o a) : RepM K α' Hh' H' o a := by
  cases o with
  | lst ds => obtain ⟨vs, q, r⟩ := h; exact ⟨vs, by rw [ha]; exact q, Reps.mono p e _ _ r⟩
  | dct ks ds => obtain ⟨vs, q, l, r⟩ := h; exact ⟨vs, by rw [ha]; exact q, l, Reps.mono p e _ _ r⟩
  | ins C ns ds => obtain ⟨dx, vs, q, l, r⟩ := h; exact ⟨dx, vs, by rw [ha]; exact q, l, Reps.mono p e _ _ r⟩
theorem OK.grow (o : OK K F α H M) (s : Same H H') : OK K F α H' M ∧ Ext F α H M α H' M := by
  have frs : ∀ a, H a ≠ none → H' a = H a := fun a h => by
    cases e : H a with
    | none => exact absurd e h
    | some x => exact s a x e
  refine ⟨⟨o.ml, o.nd, fun a ha => ⟨(o.fr a ha).1, by rw [frs a (o.fr a ha).2]; exact (o.fr a ha).2⟩, fun a ha => by rw [frs a (o.al a ha)]; exact o.al a ha, fun k x h => ?_⟩, ⟨List.prefix_refl _, (same_hide s), fun a ha => frs a (o.fr a ha).2⟩⟩
  obtain ⟨a, e, r⟩ := o.own k x h
  exact ⟨a, e, r.mono (List.prefix_refl _) (same_hide s) (frs a (o.live a (mem_lv.mpr ⟨k, x, e, h⟩)))⟩
theorem OK.laid (o : OK K F α H M) {p : Addr} {x : HO} (h : H p = none) : OK K F α (upd H p x) M ∧ Ext F α H M α (upd H p x) M := o.grow (same_upd h)
theorem lv_append : ∀ {α β : List Addr} {M N : Ms}, α.length = M.length → lv (α ++ β) (M ++ N) = lv α M ++ lv β N
  | [], β, [], N, _ => by simp [lv]
  | a :: α, β, some x :: M, N, h => by
    have := lv_append (β := β) (N := N) (show α.length = M.length by simpa using h)
    simp [lv, this]
  | a :: α, β, none :: M, N, h => by
    have := lv_append (β := β) (N := N) (show α.length = M.length by simpa using h)
    simp [lv, this]
theorem OK.enter_same (o : OK K F α H M) {p : Addr} {x : OD} (h : H p = none) (s : Same H H') : Same (hid F α M H) (hid F (α ++ [p]) (M ++ [some x]) H') := fun b y q => by
  have hl : lv (α ++ [p]) (M ++ [some x]) = lv α M ++ [p] := by rw [lv_append o.ml]; rfl
  obtain ⟨z, q⟩ := hide_some q
  have hb : b ≠ p := fun z => by rw [z, h] at q; cases q
  show hide _ H' b = _
  rw [hl, hide_out fun w => ?_]
  · exact s b y q
  · simp only [List.mem_append, List.mem_singleton] at w z
    rcases w with (w | w) | w
    · exact z (.inl w)
    · exact hb w
    · exact z (.inr w)
theorem OK.enter (o : OK K F α H M) {p : Addr} {x : OD} (h : H p = none) (s : Same H H') (r : RepM K (α ++ [p]) (hid F (α ++ [p]) (M ++ [some x]) H') H' x p) :
    OK K F (α ++ [p]) H' (M ++ [some x]) ∧ Ext F α H M (α ++ [p]) H' (M ++ [some x]) := by
  have hp : p ∉ α := fun z => o.al p z h
  obtain ⟨o', e'⟩ := o.grow s
  have sm := o.enter_same (x := x) h s
  have pf : p ∉ F := fun z => (o.fr p z).2 h
  refine ⟨⟨by simp [o.ml], by rw [List.nodup_append]; exact ⟨o.nd, by simp, fun a ha b hb => by simp at hb; subst hb; exact fun z => hp (z ▸ ha)⟩, fun a ha => ⟨fun z => ?_, (o'.fr a ha).2⟩, fun a ha => ?_, fun k y hk => ?_⟩, ⟨List.prefix_append _ _, sm, e'.fr⟩⟩
  · rcases List.mem_append.mp z with z | z
    · exact (o.fr a ha).1 z
    · simp at z; subst z; exact pf ha
  · rcases List.mem_append.mp ha with z | z
    · exact o'.al a z
    · simp at z; subst z; exact r.some
  · by_cases hk' : k < M.length
    · rw [List.getElem?_append_left hk'] at hk
      obtain ⟨a, ea, ra⟩ := o.own k y hk
      refine ⟨a, by rw [List.getElem?_append_left (by rw [o.ml]; exact hk')]; exact ea, ra.mono (List.prefix_append _ _) sm ?_⟩
      cases e : H a with
      | none => exact absurd e (o.live a (mem_lv.mpr ⟨k, y, ea, hk⟩))
      | some z => exact s a z e
    · have : k = M.length := by
        have := (List.getElem?_eq_some_iff.mp hk).1
        simp at this; omega
      subst this
      simp at hk
      subst hk
      exact ⟨p, by rw [← o.ml]; simp, r⟩
theorem lv_set : ∀ {α : List Addr} {M : Ms} {k : Nat} {x y : OD}, M[k]? = some (some x) → lv α (M.set k (some y)) = lv α M
  | [], M, k, x, y, h => by cases M <;> cases k <;> simp [lv]
  | a :: α, [], k, x, y, h => by simp at h
  | a :: α, some z :: M, 0, x, y, h => by simp [lv]
  | a :: α, none :: M, 0, x, y, h => by simp at h
  | a :: α, some z :: M, k + 1, x, y, h => by simp only [List.set_cons_succ, lv]; rw [lv_set (by simpa using h)]
  | a :: α, none :: M, k + 1, x, y, h => by simp only [List.set_cons_succ, lv]; exact lv_set (by simpa using h)
theorem OK.write (o : OK K F α H M) {k : Nat} {x y : OD} {a : Addr} {z : HO} (hk : M[k]? = some (some x)) (ha : α[k]? = some a) (r : ∀ Hh, Hh = hid F α M H → RepM K α Hh (upd H a z) y a) :
    OK K F α (upd H a z) (M.set k (some y)) ∧ Ext F α H M α (upd H a z) (M.set k (some y)) := by
  have hl : lv α (M.set k (some y)) = lv α M := lv_set hk
  have hm : a ∈ lv α M := mem_lv.mpr ⟨k, x, ha, hk⟩
  have eh : hid F α (M.set k (some y)) (upd H a z) = hid F α M H := by
    funext b
    show hide _ _ b = hide _ _ b
    rw [hl]
    by_cases hb : b ∈ lv α M ++ F
    · rw [hide_in hb, hide_in hb]
    · rw [hide_out hb, hide_out hb, upd_ne (fun e => hb (by rw [e]; exact List.mem_append_left _ hm))]
  have aF : a ∉ F := fun w => (o.fr a w).1 (List.mem_of_getElem? ha)
  refine ⟨⟨by simp [o.ml], o.nd, fun b hb => ⟨(o.fr b hb).1, by rw [upd_ne (fun e => aF (by rw [← e]; exact hb))]; exact (o.fr b hb).2⟩, fun b hb => (by
    by_cases e : b = a
    · subst e; rw [upd_same]; exact fun z => by cases z
    · rw [upd_ne e]; exact o.al b hb), fun j w hj => ?_⟩, ⟨List.prefix_refl _, by rw [eh]; exact Same.refl _, fun b hb => upd_ne (fun e => aF (by rw [← e]; exact hb))⟩⟩
  have hkl : k < M.length := (List.getElem?_eq_some_iff.mp hk).1
  by_cases hjk : j = k
  · subst hjk
    rw [List.getElem?_set_self hkl] at hj
    cases hj
    exact ⟨a, ha, r _ eh⟩
  · rw [List.getElem?_set_ne (Ne.symm hjk)] at hj
    obtain ⟨b, eb, rb⟩ := o.own j w hj
    have hba : b ≠ a := fun e => hjk (by
      subst e
      have h1 := List.getElem?_eq_some_iff.mp ha
      have h2 := List.getElem?_eq_some_iff.mp eb
      exact (List.getElem_inj (h₀ := h2.1) (h₁ := h1.1) o.nd).mp (h2.2.trans h1.2.symm))
    refine ⟨b, eb, ?_⟩
    rw [eh]
    exact rb.mono (List.prefix_refl _) (Same.refl _) (upd_ne hba)
theorem R.set (r : R K F α H σ δ M) {i : Nat} {d : D} {v : V} (q : Rep K α (hid F α M H) d v) : R K F α H (σ.set i (some v)) (δ.set i (some d)) M := by
  have hl := r.len
  refine ⟨r.ok, by simp [hl], fun j e h => ?_⟩
  by_cases hj : j = i
  · subst hj
    have hjl : j < δ.length := by
      rcases Nat.lt_or_ge j δ.length with x | x
      · exact x
      · rw [List.getElem?_eq_none (by simpa using x)] at h; cases h
    rw [List.getElem?_set_self hjl] at h
    cases h
    exact ⟨v, List.getElem?_set_self (by omega), q⟩
  · rw [List.getElem?_set_ne (Ne.symm hj)] at h ⊢
    exact r.sl j e h
end
end L3
set_option Elab.async false
set_option linter.all false
set_option maxRecDepth 100000
set_option maxHeartbeats 4000000
namespace L3
open PySem PySem.Spec PyProof.Rows L2
theorem PE.weak {X : Cx} {e : Expr} {t t' : TE} (h : PE X e t) (w : ∀ σ H Q, t' σ H Q → t σ H Q) : PE X e t' := fun pins s σ H Q I q => h pins s σ H Q I (w σ H Q q)
theorem PT.weak {X : Cx} {e : Expr} {t t' : TT} (h : PT X e t) (w : ∀ σ H Q, t' σ H Q → t σ H Q) : PT X e t' := fun pins s σ H Q I q => h pins s σ H Q I (w σ H Q q)
theorem PW.weak {X : Cx} {e : Expr} {t t' : TT} (h : PW X e t) (w : ∀ σ H Q, t' σ H Q → t σ H Q) : PW X e t' := fun wh pins s σ H Q I q => h wh pins s σ H Q I (w σ H Q q)
theorem PA.weak {X : Cx} {e : List Expr} {t t' : TA} (h : PA X e t) (w : ∀ σ H Q, t' σ H Q → t σ H Q) : PA X e t' := fun pos pins s σ H Q I q => h pos pins s σ H Q I (w σ H Q q)
theorem PS.weak {X : Cx} {e : Stmt} {t t' : TS} (h : PS X e t) (w : ∀ D σ H, t' D σ H → t D σ H) : PS X e t' := fun pins s σ H D I q => h pins s σ H D I (w D σ H q)
theorem PSs.weak {X : Cx} {e : List Stmt} {t t' : TS} (h : PSs X e t) (w : ∀ D σ H, t' D σ H → t D σ H) : PSs X e t' := fun pins s σ H D I q => h pins s σ H D I (w D σ H q)
abbrev DK := D → Ms → Prop
abbrev DE := DSt → Ms → DK → Prop
abbrev DT := DSt → Ms → (Bool → Ms → Prop) → Prop
abbrev DA := DSt → Ms → (List D → Ms → Prop) → Prop
abbrev vK (K : PySem.W.Frag) (F α : List Addr) (H : Hp) (M : Ms) (Q : VK) : DK := fun d M' => ∀ v α' H', Ext F α H M α' H' M' → OK K F α' H' M' → Rep K α' (hid F α' M' H') d v → Q v H'
abbrev bK (K : PySem.W.Frag) (F α : List Addr) (H : Hp) (M : Ms) (Q : Bool → Hp → Prop) : Bool → Ms → Prop := fun b M' => ∀ α' H', Ext F α H M α' H' M' → OK K F α' H' M' → Q b H'
abbrev aK (K : PySem.W.Frag) (F α : List Addr) (H : Hp) (M : Ms) (Q : List V → Hp → Prop) : List D → Ms → Prop := fun ds M' => ∀ vs α' H', Ext F α H M α' H' M' → OK K F α' H' M' → Reps K α' (hid F α' M' H') ds vs → Q vs H'
def lE (K : PySem.W.Frag) (t : DE) : TE := fun σ H Q => ∃ F α δ M, R K F α H σ δ M ∧ t δ M (vK K F α H M Q)
def lT (K : PySem.W.Frag) (t : DT) : TT := fun σ H Q => ∃ F α δ M, R K F α H σ δ M ∧ t δ M (bK K F α H M Q)
def lA (K : PySem.W.Frag) (t : DA) : TA := fun σ H Q => ∃ F α δ M, R K F α H σ δ M ∧ t δ M (aK K F α H M Q)
structure JE (X : Cx) (e : Expr) (t : DE) : Prop where
  mono : ∀ δ M (P Q : DK), (∀ d M, P d M → Q d M) → t δ M P → t δ M Q
  p : PE X e (lE X.K t)
structure JT (X : Cx) (e : Expr) (t : DT) : Prop where
  mono : ∀ δ M (P Q : Bool → Ms → Prop), (∀ d M, P d M → Q d M) → t δ M P → t δ M Q
  p : PT X e (lT X.K t)
structure JW (X : Cx) (e : Expr) (t : DT) : Prop where
  mono : ∀ δ M (P Q : Bool → Ms → Prop), (∀ d M, P d M → Q d M) → t δ M P → t δ M Q
  p : PW X e (lT X.K t)
structure JA (X : Cx) (es : List Expr) (t : DA) : Prop where
  mono : ∀ δ M (P Q : List D → Ms → Prop), (∀ d M, P d M → Q d M) → t δ M P → t δ M Q
  p : PA X es (lA X.K t)
section
variable {K : PySem.W.Frag} {F α α' : List Addr} {H H' : Hp} {M M' : Ms}
theorem vK.grow {Q : VK} (e : Ext F α H M α' H' M') : ∀ d M'', vK K F α H M Q d M'' → vK K F α' H' M' Q d M'' := fun d M'' h v α2 H2 e2 o2 r2 => h v α2 H2 (e.trans e2) o2 r2
theorem bK.grow {Q : Bool → Hp → Prop} (e : Ext F α H M α' H' M') : ∀ d M'', bK K F α H M Q d M'' → bK K F α' H' M' Q d M'' := fun d M'' h α2 H2 e2 o2 => h α2 H2 (e.trans e2) o2
theorem aK.grow {Q : List V → Hp → Prop} (e : Ext F α H M α' H' M') : ∀ d M'', aK K F α H M Q d M'' → aK K F α' H' M' Q d M'' := fun d M'' h v α2 H2 e2 o2 r2 => h v α2 H2 (e.trans e2) o2 r2
theorem vK.now {Q : VK} {d : D} {v : V} (o : OK K F α H M) (h : vK K F α H M Q d M) (r : Rep K α (hid F α M H) d v) : Q v H := h v α H Ext.refl o r
theorem vK.new {Q : VK} {d : D} {v : V} {p : Addr} {x : HO} (o : OK K F α H M) (hp : H p = none) (h : vK K F α H M Q d M) (r : Ext F α H M α (upd H p x) M → Rep K α (hid F α M (upd H p x)) d v) : Q v (upd H p x) :=
  let ⟨o', e'⟩ := o.laid (x := x) hp; h v α _ e' o' (r e')
end
abbrev G2 := D → D → Ms → DK → Prop
abbrev GN := List D → Ms → DK → Prop
def rD (K : PySem.W.Frag) (g : G2) : R2 := fun x y H Q => ∃ F α M da db, OK K F α H M ∧ Rep K α (hid F α M H) da x ∧ Rep K α (hid F α M H) db y ∧ g da db M (vK K F α H M Q)
def rDs (K : PySem.W.Frag) (g : GN) : List V → Hp → VK → Prop := fun xs H Q => ∃ F α M ds, OK K F α H M ∧ Reps K α (hid F α M H) ds xs ∧ g ds M (vK K F α H M Q)
abbrev mono2 (g : G2) : Prop := ∀ x y M (P Q : DK), (∀ d M, P d M → Q d M) → g x y M P → g x y M Q
abbrev monoN (g : GN) : Prop := ∀ xs M (P Q : DK), (∀ d M, P d M → Q d M) → g xs M P → g xs M Q
structure JO (X : Cx) (op : Operator) (g : G2) : Prop where
  mono : mono2 g
  p : OpR X (binaryOp op) (rD X.K g)
structure JC (X : Cx) (op : CmpOp) (g : G2) : Prop where
  mono : mono2 g
  p : OpR X (compareOp op) (rD X.K g)
structure JX (X : Cx) (g : G2) : Prop where
  mono : mono2 g
  p : IxR X (rD X.K g)
structure JB (X : Cx) (f : Value) (g : GN) : Prop where
  mono : monoN g
  p : CallR X f (rDs X.K g)
abbrev GS := D → Option Int → Option Int → Ms → DK → Prop
def rDsl (K : PySem.W.Frag) (g : GS) : V → Option Int → Option Int → Hp → VK → Prop := fun x lo hi H Q => ∃ F α M d, OK K F α H M ∧ Rep K α (hid F α M H) d x ∧ g d lo hi M (vK K F α H M Q)
structure JSl (X : Cx) (g : GS) : Prop where
  mono : ∀ x lo hi M (P Q : DK), (∀ d M, P d M → Q d M) → g x lo hi M P → g x lo hi M Q
  p : SlR X (rDsl X.K g)
section
variable {X : Cx} {a b c e : Expr} {es rest : List Expr} {ta tb tc te : DE} {tA tB' : DT} {tt : DA} {pos p p2 p3 : Pos} {x : Str}
def dVar (i : Nat) : DE := fun δ M Q => match δ[i]? with | some (some d) => Q d M | _ => False
theorem j_v (i : Nat) (hN : X.N[i]? = some x := by rfl) (hv : Vis X.env.scope x := by first | exact Or.inl rfl | exact Or.inr (Or.inl rfl) | exact Or.inr (Or.inr rfl)) (hd : (x == ("__debug__" : Str)) = false := by decide)
    (hcd : (x == ("__classdict__" : Str)) = false := by decide) : JE X (.Name x pos) (dVar i) := by
  refine ⟨fun δ M P Q h q => ?_, PE.weak (pe_var hN hv hd hcd) fun σ H Q h => ?_⟩
  · unfold dVar at *
    split at q
    · exact h _ _ q
    · exact q
  · obtain ⟨F, α, δ, M, r, h⟩ := h
    unfold dVar at h
    split at h
    · rename_i d hd
      obtain ⟨v, e, q⟩ := r.sl i d hd
      exact ⟨v, e, vK.now r.ok h q⟩
    · exact h.elim
def dC (d : D) : DE := fun _ M Q => Q d M
theorem j_c {d : D} {v : V} (h : PE X e (tC v)) (r : ∀ α H, Rep X.K α H d v) : JE X e (dC d) :=
  ⟨fun δ M P Q h q => h _ _ q, PE.weak h fun σ H Q ⟨F, α, δ, M, rr, h⟩ => vK.now rr.ok h (r _ _)⟩
theorem j_int {i j} : JE X (.Constant (.int i) j pos) (dC (.int i)) := j_c pe_int fun _ _ => rep_int
theorem j_bl {b j} : JE X (.Constant (.bool b) j pos) (dC (.bl b)) := j_c pe_bl fun _ _ => rep_bl
theorem j_non {j} : JE X (.Constant .none j pos) (dC .non) := j_c pe_non fun _ _ => rep_non
theorem j_str {y j} : JE X (.Constant (.str y) j pos) (dC (.str y)) := j_c pe_str fun _ _ => rep_str
theorem j_glob {d : D} {v : V} {u : Value} (hm : X.mg x = some u) (r : RelV v u) (rr : ∀ α H, Rep X.K α H d v) (hg : Gl X x := by rfl) (hd : (x == ("__debug__" : Str)) = false := by decide) : JE X (.Name x pos) (dC d) := j_c (pe_glob hg hm r hd) rr
theorem j_globI {i : Int} (hm : ∃ t, X.mg x = some (.int i t)) (hg : Gl X x := by rfl) (hd : (x == ("__debug__" : Str)) = false := by decide) : JE X (.Name x pos) (dC (.int i)) := by
  obtain ⟨t, hm⟩ := hm
  exact j_glob (v := .int i) hm ⟨t, rfl⟩ (fun _ _ => rep_int) hg hd
theorem j_ty {n : String} (hm : X.mg x = none) (hv : bootBuiltins x = some (.type n)) (hg : Gl X x := by rfl) (hn : x ≠ "__name__" := by decide) (hd : (x == ("__debug__" : Str)) = false := by decide) : JE X (.Name x pos) (dC (.ty n)) :=
  j_c (pe_bltn (v := .ty n) hg hm hv rfl hn hd) fun _ _ => rep_ty
def dOp (g : G2) (ta tb : DE) : DE := fun δ M Q => ta δ M fun x M1 => tb δ M1 fun y M2 => g x y M2 Q
theorem dOp_mono {g : G2} (mg : mono2 g) (ha : JE X a ta) (hb : JE X b tb) : ∀ δ M (P Q : DK), (∀ d M, P d M → Q d M) → dOp g ta tb δ M P → dOp g ta tb δ M Q :=
  fun δ M P Q h q => ha.mono δ _ _ _ (fun d M1 q => hb.mono δ _ _ _ (fun d' M2 q => mg d d' M2 P Q h q) q) q
theorem lift2 {g : G2} (mg : mono2 g) (ha : JE X a ta) (hb : JE X b tb) {σ : L2.St} {H : Hp} {Q : VK} (h : lE X.K (dOp g ta tb) σ H Q) : tOp (rD X.K g) (lE X.K ta) (lE X.K tb) σ H Q := by
  obtain ⟨F, α, δ, M, r, h⟩ := h
  exact ⟨F, α, δ, M, r, ha.mono δ _ _ _ (fun da M1 h2 v α1 H1 e1 o1 r1 => ⟨F, α1, δ, M1, r.grow e1 o1, hb.mono δ _ _ _ (fun db M2 h3 u α2 H2 e2 o2 r2 =>
    ⟨F, α2, M2, da, db, o2, e2.rep r1, r2, mg _ _ _ _ _ (vK.grow (e1.trans e2)) h3⟩) h2⟩) h⟩
theorem j_op {op : Operator} {g : G2} (o : JO X op g) (ha : JE X a ta) (hb : JE X b tb) : JE X (.BinOp a op b pos) (dOp g ta tb) := ⟨dOp_mono o.mono ha hb, PE.weak (pe_op o.p ha.p hb.p) fun σ H Q h => lift2 o.mono ha hb h⟩
theorem j_cmp {op : CmpOp} {g : G2} (o : JC X op g) (ha : JE X a ta) (hb : JE X b tb) (hm : behindInMarks op b = false := by rfl) : JE X (.Compare a [op] [b] pos) (dOp g ta tb) := ⟨dOp_mono o.mono ha hb, PE.weak (pe_cmpR o.p ha.p hb.p hm) fun σ H Q h => lift2 o.mono ha hb h⟩
theorem j_ix {g : G2} (o : JX X g) (ha : JE X a ta) (hb : JE X b tb) (hs : PlainIx b := by exact fun _ _ => rfl) : JE X (.Subscript a b pos) (dOp g ta tb) := ⟨dOp_mono o.mono ha hb, PE.weak (pe_ix o.p ha.p hb.p hs) fun σ H Q h => lift2 o.mono ha hb h⟩
def dTest (te : DE) : DT := fun δ M Q => te δ M fun d M1 => match d with | .bl b => Q b M1 | _ => False
theorem dTest_mono (h : JE X e te) : ∀ δ M (P Q : Bool → Ms → Prop), (∀ d M, P d M → Q d M) → dTest te δ M P → dTest te δ M Q := fun δ M P Q w q => h.mono δ _ _ _ (fun d M1 q => by
  cases d <;> first | exact w _ _ q | exact q) q
theorem jt_val (h : JE X e te) (he : ∀ whole, isTrue e X.env whole = (do let v ← whole; standAt e.pos; holding [v] (truthy v)) := by intro _; rfl) : JT X e (dTest te) := by
  refine ⟨dTest_mono h, PT.weak (pt_val h.p he) fun σ H Q q => ?_⟩
  obtain ⟨F, α, δ, M, r, q⟩ := q
  refine ⟨F, α, δ, M, r, h.mono δ _ _ _ (fun d M1 q v α1 H1 e1 o1 r1 => ?_) q⟩
  cases d <;> first | exact q.elim | skip
  unfold Rep at r1
  exact ⟨_, r1, q α1 H1 e1 o1⟩
theorem jt_cmp {op : CmpOp} {g : G2} (o : JC X op g) (ha : JE X a ta) (hb : JE X b tb) (hm : behindInMarks op b = false := by rfl) : JT X (.Compare a [op] [b] pos) (dTest (dOp g ta tb)) := by
  have hE : JE X (.Compare a [op] [b] pos) (dOp g ta tb) := j_cmp o ha hb hm
  refine ⟨dTest_mono hE, PT.weak (pt_cmpR o.p ha.p hb.p hm) fun σ H Q q => ?_⟩
  obtain ⟨F, α, δ, M, r, q⟩ := q
  refine lift2 o.mono ha hb ⟨F, α, δ, M, r, hE.mono δ _ _ _ (fun d M1 q v α1 H1 e1 o1 r1 => ?_) q⟩
  cases d <;> first | exact q.elim | skip
  unfold Rep at r1
  exact ⟨_, r1, q α1 H1 e1 o1⟩
def dNot (t : DT) : DT := fun δ M Q => t δ M fun b M1 => Q (!b) M1
theorem jt_not (h : JT X a tA) : JT X (.UnaryOp .Not a pos) (dNot tA) :=
  ⟨fun δ M P Q w q => h.mono δ _ _ _ (fun b M1 q => w _ _ q) q, PT.weak (pt_not h.p) fun σ H Q ⟨F, α, δ, M, r, q⟩ => ⟨F, α, δ, M, r, q⟩⟩
theorem jt_of (h : JW X e tA) : JT X e tA := ⟨h.mono, h.p.pt⟩
def dAnd (t u : DT) : DT := fun δ M Q => t δ M fun b M1 => if b = true then u δ M1 Q else Q false M1
def dOr (t u : DT) : DT := fun δ M Q => t δ M fun b M1 => if b = true then Q true M1 else u δ M1 Q
theorem jw_and1 (h : JT X a tA) : JW X (.BoolOp .And [a] pos) tA := ⟨h.mono, pw_and1 h.p⟩
theorem jw_or1 (h : JT X a tA) : JW X (.BoolOp .Or [a] pos) tA := ⟨h.mono, pw_or1 h.p⟩
theorem jw_and (ha : JT X a tA) (hb : JW X (.BoolOp .And (b :: rest) pos) tB') : JW X (.BoolOp .And (a :: b :: rest) pos) (dAnd tA tB') := by
  refine ⟨fun δ M P Q w q => ha.mono δ _ _ _ (fun b M1 q => ?_) q, PW.weak (pw_and ha.p hb.p) fun σ H Q q => ?_⟩
  · cases b with
    | true => rw [if_pos rfl] at q ⊢; exact hb.mono δ _ _ _ w q
    | false => rw [if_neg Bool.false_ne_true] at q ⊢; exact w _ _ q
  · obtain ⟨F, α, δ, M, r, q⟩ := q
    refine ⟨F, α, δ, M, r, ha.mono δ _ _ _ (fun b M1 q α1 H1 e1 o1 => ?_) q⟩
    cases b with
    | true =>
      rw [if_pos rfl] at q
      show (if true = true then _ else _)
      rw [if_pos rfl]
      exact ⟨F, α1, δ, M1, r.grow e1 o1, hb.mono δ _ _ _ (bK.grow e1) q⟩
    | false =>
      rw [if_neg Bool.false_ne_true] at q
      show (if false = true then _ else _)
      rw [if_neg Bool.false_ne_true]
      exact q α1 H1 e1 o1
theorem jw_or (ha : JT X a tA) (hb : JW X (.BoolOp .Or (b :: rest) pos) tB') : JW X (.BoolOp .Or (a :: b :: rest) pos) (dOr tA tB') := by
  refine ⟨fun δ M P Q w q => ha.mono δ _ _ _ (fun b M1 q => ?_) q, PW.weak (pw_or ha.p hb.p) fun σ H Q q => ?_⟩
  · cases b with
    | true => rw [if_pos rfl] at q ⊢; exact w _ _ q
    | false => rw [if_neg Bool.false_ne_true] at q ⊢; exact hb.mono δ _ _ _ w q
  · obtain ⟨F, α, δ, M, r, q⟩ := q
    refine ⟨F, α, δ, M, r, ha.mono δ _ _ _ (fun b M1 q α1 H1 e1 o1 => ?_) q⟩
    cases b with
    | false =>
      rw [if_neg Bool.false_ne_true] at q
      show (if false = true then _ else _)
      rw [if_neg Bool.false_ne_true]
      exact ⟨F, α1, δ, M1, r.grow e1 o1, hb.mono δ _ _ _ (bK.grow e1) q⟩
    | true =>
      rw [if_pos rfl] at q
      show (if true = true then _ else _)
      rw [if_pos rfl]
      exact q α1 H1 e1 o1
def dAndV (ta tb : DE) : DE := fun δ M Q => ta δ M fun x M1 => match x with | .bl true => tb δ M1 Q | .bl false => Q (.bl false) M1 | _ => False
theorem j_one {op} (h : JE X a te) : JE X (.BoolOp op [a] pos) te := ⟨h.mono, pe_one h.p⟩
theorem j_and (ha : JE X a ta) (hb : JE X (.BoolOp .And (b :: rest) pos) tb) : JE X (.BoolOp .And (a :: b :: rest) pos) (dAndV ta tb) := by
  refine ⟨fun δ M P Q w q => ha.mono δ _ _ _ (fun d M1 q => ?_) q, PE.weak (pe_and ha.p hb.p) fun σ H Q q => ?_⟩
  · cases d <;> first | exact q.elim | skip
    rename_i b; cases b with
    | true => exact hb.mono δ _ _ _ w q
    | false => exact w _ _ q
  · obtain ⟨F, α, δ, M, r, q⟩ := q
    refine ⟨F, α, δ, M, r, ha.mono δ _ _ _ (fun d M1 q v α1 H1 e1 o1 r1 => ?_) q⟩
    cases d <;> first | exact q.elim | skip
    unfold Rep at r1
    rename_i b; cases b with
    | true =>
      refine ⟨true, r1, ?_⟩
      rw [if_pos rfl]
      exact ⟨F, α1, δ, M1, r.grow e1 o1, hb.mono δ _ _ _ (vK.grow e1) q⟩
    | false =>
      refine ⟨false, r1, ?_⟩
      rw [if_neg Bool.false_ne_true]
      exact q _ α1 H1 e1 o1 rep_bl
def dIf (t : DT) (ta tb : DE) : DE := fun δ M Q => t δ M fun c M1 => if c = true then ta δ M1 Q else tb δ M1 Q
theorem j_if (hc : JT X c tA) (ha : JE X a ta) (hb : JE X b tb) : JE X (.IfExp c a b pos) (dIf tA ta tb) := by
  refine ⟨fun δ M P Q w q => hc.mono δ _ _ _ (fun b M1 q => ?_) q, PE.weak (pe_ifExp hc.p ha.p hb.p) fun σ H Q q => ?_⟩
  · cases b with
    | true => rw [if_pos rfl] at q ⊢; exact ha.mono δ _ _ _ w q
    | false => rw [if_neg Bool.false_ne_true] at q ⊢; exact hb.mono δ _ _ _ w q
  · obtain ⟨F, α, δ, M, r, q⟩ := q
    refine ⟨F, α, δ, M, r, hc.mono δ _ _ _ (fun b M1 q α1 H1 e1 o1 => ?_) q⟩
    cases b with
    | true =>
      rw [if_pos rfl] at q
      show (if true = true then _ else _)
      rw [if_pos rfl]
      exact ⟨F, α1, δ, M1, r.grow e1 o1, ha.mono δ _ _ _ (vK.grow e1) q⟩
    | false =>
      rw [if_neg Bool.false_ne_true] at q
      show (if false = true then _ else _)
      rw [if_neg Bool.false_ne_true]
      exact ⟨F, α1, δ, M1, r.grow e1 o1, hb.mono δ _ _ _ (vK.grow e1) q⟩
def dChain (g g' : G2) (ta tb tc : DE) : DE := fun δ M Q => ta δ M fun x M1 => tb δ M1 fun y M2 => g x y M2 fun z M3 => match z with | .bl true => tc δ M3 fun w M4 => g' y w M4 Q | .bl false => Q (.bl false) M3 | _ => False
theorem dChain_mono {op op' : CmpOp} {g g' : G2} (o : JC X op g) (o' : JC X op' g') (ha : JE X a ta) (hb : JE X b tb) (hc : JE X c tc) : ∀ δ M (P Q : DK), (∀ d M, P d M → Q d M) → dChain g g' ta tb tc δ M P → dChain g g' ta tb tc δ M Q :=
  fun δ M P Q w q => ha.mono δ _ _ _ (fun x M1 q => hb.mono δ _ _ _ (fun y M2 q => o.mono _ _ _ _ _ (fun z M3 q => by
    cases z <;> first | exact q.elim | skip
    rename_i k; cases k with
    | true => exact hc.mono δ _ _ _ (fun u M4 q => o'.mono _ _ _ _ _ w q) q
    | false => exact w _ _ q) q) q) q
theorem liftChain {op op' : CmpOp} {g g' : G2} (o : JC X op g) (o' : JC X op' g') (ha : JE X a ta) (hb : JE X b tb) (hc : JE X c tc) {σ : L2.St} {H : Hp} {Q : VK} (h : lE X.K (dChain g g' ta tb tc) σ H Q) : tChain (rD X.K g) (rD X.K g') (lE X.K ta) (lE X.K tb) (lE X.K tc) σ H Q := by
  obtain ⟨F, α, δ, M, r, h⟩ := h
  refine ⟨F, α, δ, M, r, ha.mono δ _ _ _ (fun da M1 h2 v α1 H1 e1 o1 r1 => ⟨F, α1, δ, M1, r.grow e1 o1, hb.mono δ _ _ _ (fun db M2 h3 u α2 H2 e2 o2 r2 => ?_) h2⟩) h⟩
  refine ⟨F, α2, M2, da, db, o2, e2.rep r1, r2, o.mono _ _ _ _ _ (fun d M3 h4 w α3 H3 e3 o3 r3 => ?_) h3⟩
  have e13 := (e1.trans e2).trans e3
  cases d <;> first | exact h4.elim | skip
  unfold Rep at r3
  rename_i k
  refine ⟨k, r3, ?_⟩
  cases k with
  | false => rw [if_neg Bool.false_ne_true]; exact h4 _ α3 H3 e13 o3 rep_bl
  | true =>
    rw [if_pos rfl]
    refine ⟨F, α3, δ, M3, r.grow e13 o3, hc.mono δ _ _ _ (fun dc M4 h5 z α4 H4 e4 o4 r4 => ?_) h4⟩
    exact ⟨F, α4, M4, db, dc, o4, (e3.trans e4).rep r2, r4, o'.mono _ _ _ _ _ (vK.grow (e13.trans e4)) h5⟩
theorem j_chain {op op' : CmpOp} {g g' : G2} (o : JC X op g) (o' : JC X op' g') (ha : JE X a ta) (hb : JE X b tb) (hc : JE X c tc) (hm : lastMarks [op, op'] [b, c] = false := by with_unfolding_all rfl) : JE X (.Compare a [op, op'] [b, c] pos) (dChain g g' ta tb tc) :=
  ⟨dChain_mono o o' ha hb hc, PE.weak (pe_chain o.p o'.p ha.p hb.p hc.p hm) fun σ H Q h => liftChain o o' ha hb hc h⟩
theorem jt_chain {op op' : CmpOp} {g g' : G2} (o : JC X op g) (o' : JC X op' g') (ha : JE X a ta) (hb : JE X b tb) (hc : JE X c tc) (hm : lastMarks [op, op'] [b, c] = false := by with_unfolding_all rfl) : JT X (.Compare a [op, op'] [b, c] pos) (dTest (dChain g g' ta tb tc)) := by
  have hE : JE X (.Compare a [op, op'] [b, c] pos) (dChain g g' ta tb tc) := j_chain o o' ha hb hc hm
  refine ⟨dTest_mono hE, PT.weak (pt_chain o.p o'.p ha.p hb.p hc.p hm) fun σ H Q q => ?_⟩
  obtain ⟨F, α, δ, M, r, q⟩ := q
  refine liftChain o o' ha hb hc ⟨F, α, δ, M, r, hE.mono δ _ _ _ (fun d M1 q v α1 H1 e1 o1 r1 => ?_) q⟩
  cases d <;> first | exact q.elim | skip
  unfold Rep at r1
  exact ⟨_, r1, q α1 H1 e1 o1⟩
def dNil : DA := fun _ M Q => Q [] M
def dCons (te : DE) (tt : DA) : DA := fun δ M Q => te δ M fun x M1 => tt δ M1 fun xs M2 => Q (x :: xs) M2
theorem ja_nil : JA X [] dNil := ⟨fun δ M P Q w q => w _ _ q, PA.weak pa_nil fun σ H Q ⟨F, α, δ, M, r, q⟩ => q [] α H Ext.refl r.ok Reps.nil⟩
theorem ja_cons (ha : JE X e te) (hr : JA X es tt) (hs : starEach (e :: es) X.env = (false, eval e X.env) :: starEach es X.env := by rfl) : JA X (e :: es) (dCons te tt) := by
  refine ⟨fun δ M P Q w q => ha.mono δ _ _ _ (fun x M1 q => hr.mono δ _ _ _ (fun xs M2 q => w _ _ q) q) q, PA.weak (pa_cons ha.p hr.p hs) fun σ H Q q => ?_⟩
  obtain ⟨F, α, δ, M, r, q⟩ := q
  refine ⟨F, α, δ, M, r, ha.mono δ _ _ _ (fun d M1 q v α1 H1 e1 o1 r1 => ⟨F, α1, δ, M1, r.grow e1 o1, hr.mono δ _ _ _ (fun ds M2 q vs α2 H2 e2 o2 r2 => ?_) q⟩) q⟩
  exact q (v :: vs) α2 H2 (e1.trans e2) o2 (Reps.cons (e2.rep r1) r2)
theorem rep_lst_new {K : PySem.W.Frag} {F α : List Addr} {H : Hp} {M : Ms} {p : Addr} {ds : List D} {vs : List V} (o : OK K F α H M) (hp : H p = none) (h : Reps K α (hid F α M H) ds vs) (e : Ext F α H M α (upd H p (.lst vs)) M) : Rep K α (hid F α M (upd H p (.lst vs))) (.lst ds) (.ref p) := by
  unfold Rep
  exact ⟨p, vs, rfl, by show hide _ _ p = _; rw [hide_out (o.new hp), upd_same], e.reps h⟩
theorem rep_tup_new {K : PySem.W.Frag} {F α : List Addr} {H : Hp} {M : Ms} {p : Addr} {ds : List D} {vs : List V} (o : OK K F α H M) (hp : H p = none) (h : Reps K α (hid F α M H) ds vs) (e : Ext F α H M α (upd H p (.tup vs)) M) : Rep K α (hid F α M (upd H p (.tup vs))) (.tup ds) (.ref p) := by
  unfold Rep
  exact ⟨p, vs, rfl, .inl (.inl (by show hide _ _ p = _; rw [hide_out (o.new hp), upd_same])), e.reps h⟩
def dTup (tt : DA) : DE := fun δ M Q => tt δ M fun ds M1 => ds.length ≤ sizeLine ∧ Q (.tup ds) M1
theorem j_tup {x1} (h : JA X es tt) : JE X (.Tuple es x1 pos) (dTup tt) := by
  refine ⟨fun δ M P Q w q => h.mono δ _ _ _ (fun ds M1 q => ⟨q.1, w _ _ q.2⟩) q, PE.weak (pe_tup h.p) fun σ H Q q => ?_⟩
  obtain ⟨F, α, δ, M, r, q⟩ := q
  refine ⟨F, α, δ, M, r, h.mono δ _ _ _ (fun ds M1 q vs α1 H1 e1 o1 r1 => ?_) q⟩
  exact ⟨by rw [← Reps.length ds vs r1]; exact q.1, fun p hp => vK.new o1 hp (vK.grow e1 _ _ q.2) (rep_tup_new o1 hp r1)⟩
def dCB (g : GN) (tt : DA) : DE := fun δ M Q => tt δ M fun ds M1 => g ds M1 Q
theorem dCB_mono {g : GN} (m : monoN g) (ha : JA X es tt) : ∀ δ M (P Q : DK), (∀ d M, P d M → Q d M) → dCB g tt δ M P → dCB g tt δ M Q := fun δ M P Q w q => ha.mono δ _ _ _ (fun ds M1 q => m _ _ _ _ w q) q
theorem liftCB {f : Value} {g : GN} (o : JB X f g) (ha : JA X es tt) {σ : L2.St} {H : Hp} {Q : VK} (h : lE X.K (dCB g tt) σ H Q) : tCB (rDs X.K g) (lA X.K tt) σ H Q := by
  obtain ⟨F, α, δ, M, r, h⟩ := h
  exact ⟨F, α, δ, M, r, ha.mono δ _ _ _ (fun ds M1 q vs α1 H1 e1 o1 r1 => ⟨F, α1, M1, ds, o1, r1, o.mono _ _ _ _ (vK.grow e1) q⟩) h⟩
theorem j_b {id : String} {g : GN} (o : JB X (.builtin id) g) (hm : X.mg x = none) (hv : bootBuiltins x = some (.builtin id)) (ha : JA X (e :: es) tt) (hg : Gl X x := by rfl) (hn : x ≠ "__name__" := by decide) (hdb : (x == ("__debug__" : Str)) = false := by decide)
    (he : starEach (e :: es) X.env = (false, eval e X.env) :: starEach es X.env := by rfl) (hpl : (backTo pos (starEach es X.env)).any (·.1) = false := by rfl) : JE X (.Call (.Name x p) (e :: es) [] pos) (dCB g tt) :=
  ⟨dCB_mono o.mono ha, PE.weak (pe_callB o.p hg hm hv ha.p hn hdb he hpl) fun σ H Q h => liftCB o ha h⟩
theorem j_t {T : String} {g : GN} (o : JB X (.type T) g) (hm : X.mg x = none) (hv : bootBuiltins x = some (.type T)) (ha : JA X (e :: es) tt) (hg : Gl X x := by rfl) (hn : x ≠ "__name__" := by decide) (hdb : (x == ("__debug__" : Str)) = false := by decide)
    (he : starEach (e :: es) X.env = (false, eval e X.env) :: starEach es X.env := by rfl) (hpl : (backTo pos (starEach es X.env)).any (·.1) = false := by rfl) : JE X (.Call (.Name x p) (e :: es) [] pos) (dCB g tt) :=
  ⟨dCB_mono o.mono ha, PE.weak (pe_callTy o.p hg hm hv ha.p hn hdb he hpl) fun σ H Q h => liftCB o ha h⟩
def lSp (K : PySem.W.Frag) (g : GN) : Sp := fun vs H Q _ => ∃ F α M ds, OK K F α H M ∧ Reps K α (hid F α M H) ds vs ∧ g ds M (vK K F α H M Q)
structure HasD (P : Program) (w : World) (K : PySem.W.Frag) (mg : Str → Option Value) (base : Heap) (k : Nat) (x : Str) (ps : List Str) (g : GN) : Prop where
  mono : monoN g
  p : Has P w K mg base k x ps (lSp K g)
theorem j_fn {k : Nat} {ps : List Str} {g : GN} (h : HasD X.prog X.w X.K X.mg X.base k x ps g) (hr : Room k X.A) (ha : JA X (e :: es) tt) (hg : Gl X x := by rfl) (hdb : (x == ("__debug__" : Str)) = false := by decide)
    (he : starEach (e :: es) X.env = (false, eval e X.env) :: starEach es X.env := by rfl) (hpl : (backTo pos (starEach es X.env)).any (·.1) = false := by rfl) : JE X (.Call (.Name x p) (e :: es) [] pos) (dCB g tt) := by
  refine ⟨dCB_mono h.mono ha, PE.weak (pe_fn h.p hr ha.p hg hdb he hpl) fun σ H Q q => ?_⟩
  obtain ⟨F, α, δ, M, r, q⟩ := q
  refine ⟨F, α, δ, M, r, ha.mono δ _ _ _ (fun ds M1 q vs α1 H1 e1 o1 r1 => ?_) q⟩
  show lSp X.K g (vs ++ []) H1 Q E0
  rw [List.append_nil]
  exact ⟨F, α1, M1, ds, o1, r1, h.mono _ _ _ _ (vK.grow e1) q⟩
end
end L3
set_option Elab.async false
set_option linter.all false
set_option maxRecDepth 100000
set_option maxHeartbeats 4000000
namespace L3
open PySem PySem.Spec PyProof.Rows L2
def RepH (K : PySem.W.Frag) (α : List Addr) (Hh : Hp) : OD → HO → Prop
  | .lst ds, ho => ∃ vs, ho = .lst vs ∧ Reps K α Hh ds vs
  | .dct ks ds, ho => ∃ vs, ho = .dK (ks.zip vs) ∧ ks.length = ds.length ∧ Reps K α Hh ds vs
  | .ins _ _ _, _ => False
def OD.toD : OD → D
  | .lst ds => .lst ds
  | .dct ks ds => .dct ks ds
  | .ins C ns ds => .ins C ns ds
abbrev DF := DSt → Ms → (OD → Ms → Prop) → Prop
abbrev fK (K : PySem.W.Frag) (F α : List Addr) (H : Hp) (M : Ms) (Q : VK) : OD → Ms → Prop := fun o M1 => ∀ p ho α1 H1, Ext F α H M α1 H1 M1 → OK K F α1 H1 M1 → H1 p = none → RepH K α1 (hid F α1 M1 H1) o ho → Q (.ref p) (upd H1 p ho)
def lF (K : PySem.W.Frag) (t : DF) : TE := fun σ H Q => ∃ F α δ M, R K F α H σ δ M ∧ t δ M (fK K F α H M Q)
structure JF (X : Cx) (e : Expr) (t : DF) : Prop where
  mono : ∀ δ M (P Q : OD → Ms → Prop), (∀ d M, P d M → Q d M) → t δ M P → t δ M Q
  p : PE X e (lF X.K t)
section
variable {K : PySem.W.Frag} {F α α' : List Addr} {H H' : Hp} {M M' : Ms}
theorem fK.grow {Q : VK} (e : Ext F α H M α' H' M') : ∀ d M'', fK K F α H M Q d M'' → fK K F α' H' M' Q d M'' := fun d M'' h p ho α2 H2 e2 o2 hp r2 => h p ho α2 H2 (e.trans e2) o2 hp r2
theorem fK.frz {Q : VK} {o : OD} {M1 : Ms} (h : vK K F α H M Q o.toD M1) : fK K F α H M Q o M1 := by
  intro p ho α1 H1 e1 o1 hp rh
  have q : vK K F α1 H1 M1 Q o.toD M1 := vK.grow e1 _ _ h
  refine vK.new o1 hp q fun e => ?_
  cases o with
  | lst ds => obtain ⟨vs, rfl, r⟩ := rh; exact rep_lst_new o1 hp r e
  | dct ks ds =>
    obtain ⟨vs, rfl, l, r⟩ := rh
    show Rep K _ _ (.dct ks ds) _
    unfold Rep
    exact ⟨p, vs, rfl, by show hide _ _ p = _; rw [hide_out (o1.new hp), upd_same], l, e.reps r⟩
  | ins C ns ds => exact rh.elim
theorem fK.own {Q : VK} {o : OD} {M1 : Ms} (h : vK K F α H M Q (.loc M1.length) (M1 ++ [some o])) : fK K F α H M Q o M1 := by
  intro p ho α1 H1 e1 o1 hp rh
  have sm := o1.enter_same (x := o) hp (same_upd (o := ho) hp)
  obtain ⟨o2, e2⟩ := o1.enter (x := o) (H' := upd H1 p ho) hp (same_upd hp) (by
    cases o with
    | lst ds => obtain ⟨vs, rfl, r⟩ := rh; exact ⟨vs, upd_same, Reps.mono (List.prefix_append _ _) sm _ _ r⟩
    | dct ks ds => obtain ⟨vs, rfl, l, r⟩ := rh; exact ⟨vs, upd_same, l, Reps.mono (List.prefix_append _ _) sm _ _ r⟩
    | ins C ns ds => exact rh.elim)
  refine h _ _ _ (e1.trans e2) o2 ?_
  unfold Rep
  exact ⟨p, by rw [← o1.ml]; simp, rfl⟩
end
section
variable {X : Cx} {a b c e : Expr} {es rest : List Expr} {ta tb tc te : DE} {tA tB' : DT} {tt : DA} {pos p p2 p3 : Pos} {x : Str} {tf : DF}
def dNew (t : DF) : DE := fun δ M Q => t δ M fun o M1 => Q o.toD M1
def dOwn (t : DF) : DE := fun δ M Q => t δ M fun o M1 => Q (.loc M1.length) (M1 ++ [some o])
theorem j_new (h : JF X e tf) : JE X e (dNew tf) := ⟨fun δ M P Q w q => h.mono δ _ _ _ (fun o M1 q => w _ _ q) q, PE.weak h.p fun σ H Q ⟨F, α, δ, M, r, q⟩ => ⟨F, α, δ, M, r, h.mono δ _ _ _ (fun o M1 q => fK.frz q) q⟩⟩
theorem j_own (h : JF X e tf) : JE X e (dOwn tf) := ⟨fun δ M P Q w q => h.mono δ _ _ _ (fun o M1 q => w _ _ q) q, PE.weak h.p fun σ H Q ⟨F, α, δ, M, r, q⟩ => ⟨F, α, δ, M, r, h.mono δ _ _ _ (fun o M1 q => fK.own q) q⟩⟩
def fLst (tt : DA) : DF := fun δ M Q => tt δ M fun ds M1 => ds.length ≤ sizeLine ∧ Q (.lst ds) M1
theorem jf_lst (h : JA X es tt) : JF X (.List es pos) (fLst tt) := by
  refine ⟨fun δ M P Q w q => h.mono δ _ _ _ (fun ds M1 q => ⟨q.1, w _ _ q.2⟩) q, PE.weak (pe_lst h.p) fun σ H Q q => ?_⟩
  obtain ⟨F, α, δ, M, r, q⟩ := q
  refine ⟨F, α, δ, M, r, h.mono δ _ _ _ (fun ds M1 q vs α1 H1 e1 o1 r1 => ?_) q⟩
  exact ⟨by rw [← Reps.length ds vs r1]; exact q.1, fun p hp => q.2 p _ α1 H1 e1 o1 hp ⟨vs, rfl, r1⟩⟩
end
structure DEnds where
  nx : DSt → Ms → Prop
  rt : DK
  bk : DSt → Ms → Prop
  ct : DSt → Ms → Prop
abbrev DS := DEnds → DSt → Ms → Prop
structure DEnds.le (P Q : DEnds) : Prop where
  nx : ∀ δ M, P.nx δ M → Q.nx δ M
  rt : ∀ d M, P.rt d M → Q.rt d M
  bk : ∀ δ M, P.bk δ M → Q.bk δ M
  ct : ∀ δ M, P.ct δ M → Q.ct δ M
theorem DEnds.le.refl (P : DEnds) : P.le P := ⟨fun _ _ h => h, fun _ _ h => h, fun _ _ h => h, fun _ _ h => h⟩
abbrev sK (K : PySem.W.Frag) (F α : List Addr) (H : Hp) (M : Ms) (Q : L2.St → Hp → Prop) : DSt → Ms → Prop := fun δ' M' => ∀ σ' α' H', Ext F α H M α' H' M' → R K F α' H' σ' δ' M' → Q σ' H'
def lEnds (K : PySem.W.Frag) (F α : List Addr) (H : Hp) (M : Ms) (E : Ends) : DEnds := ⟨sK K F α H M E.nx, vK K F α H M E.rt, sK K F α H M E.bk, sK K F α H M E.ct⟩
def lS (K : PySem.W.Frag) (t : DS) : TS := fun E σ H => ∃ F α δ M, R K F α H σ δ M ∧ t (lEnds K F α H M E) δ M
section
variable {K : PySem.W.Frag} {F α α' : List Addr} {H H' : Hp} {M M' : Ms}
theorem sK.grow {Q : L2.St → Hp → Prop} (e : Ext F α H M α' H' M') : ∀ d M'', sK K F α H M Q d M'' → sK K F α' H' M' Q d M'' := fun d M'' h v α2 H2 e2 o2 => h v α2 H2 (e.trans e2) o2
theorem lEnds.grow {E : Ends} (e : Ext F α H M α' H' M') : (lEnds K F α H M E).le (lEnds K F α' H' M' E) := ⟨sK.grow e, vK.grow e, sK.grow e, sK.grow e⟩
end
structure JS (X : Cx) (st : Stmt) (t : DS) : Prop where
  mono : ∀ (P Q : DEnds) δ M, P.le Q → t P δ M → t Q δ M
  p : PS X st (lS X.K t)
structure JB' (X : Cx) (st : List Stmt) (t : DS) : Prop where
  mono : ∀ (P Q : DEnds) δ M, P.le Q → t P δ M → t Q δ M
  p : PSs X st (lS X.K t)
section
variable {X : Cx} {c e : Expr} {te : DE} {tA : DT} {t u : DS} {pos p p2 : Pos} {x : Str} {st : Stmt} {sts as bs : List Stmt}
def dNext : DS := fun E δ M => E.nx δ M
def dSeq (t u : DS) : DS := fun E δ M => t { E with nx := u E } δ M
theorem jb_nil : JB' X [] dNext := ⟨fun P Q δ M w q => w.nx _ _ q, PSs.weak pss_nil fun E σ H ⟨F, α, δ, M, r, q⟩ => q σ α H Ext.refl r⟩
theorem jb_one (h : JS X st t) : JB' X [st] t := ⟨h.mono, pss_one h.p⟩
theorem jb_cons (h1 : JS X st t) (h2 : JB' X sts u) : JB' X (st :: sts) (dSeq t u) := by
  refine ⟨fun P Q δ M w q => h1.mono { P with nx := u P } { Q with nx := u Q } _ _ ⟨fun δ M q => h2.mono _ _ _ _ w q, w.rt, w.bk, w.ct⟩ q, PSs.weak (pss_cons h1.p h2.p) fun E σ H q => ?_⟩
  obtain ⟨F, α, δ, M, r, q⟩ := q
  refine ⟨F, α, δ, M, r, h1.mono { lEnds X.K F α H M E with nx := u (lEnds X.K F α H M E) } _ _ _ ⟨fun δ1 M1 q σ1 α1 H1 e1 r1 => ⟨F, α1, δ1, M1, r1, h2.mono _ _ _ _ (lEnds.grow e1) q⟩, fun _ _ q => q, fun _ _ q => q, fun _ _ q => q⟩ q⟩
def dRet (te : DE) : DS := fun E δ M => te δ M E.rt
theorem js_ret (he : JE X e te) : JS X (.Return (some e) pos) (dRet te) := ⟨fun P Q δ M w q => he.mono δ _ _ _ w.rt q, PS.weak (ps_ret he.p) fun E σ H ⟨F, α, δ, M, r, q⟩ => ⟨F, α, δ, M, r, q⟩⟩
def dNever : DS := fun _ _ _ => False
theorem js_never : JS X st dNever := ⟨fun P Q δ M w q => q, PS.weak ps_never fun E σ H ⟨F, α, δ, M, r, q⟩ => q⟩
def dIfS (c : DT) (t u : DS) : DS := fun E δ M => c δ M fun b M1 => if b = true then t E δ M1 else u E δ M1
theorem js_if (hc : JT X c tA) (ha : JB' X as t) (hb : JB' X bs u) : JS X (.If c as bs pos) (dIfS tA t u) := by
  refine ⟨fun P Q δ M w q => hc.mono δ _ _ _ (fun b M1 q => ?_) q, PS.weak (ps_if hc.p ha.p hb.p) fun E σ H q => ?_⟩
  · cases b with
    | true => rw [if_pos rfl] at q ⊢; exact ha.mono _ _ _ _ w q
    | false => rw [if_neg Bool.false_ne_true] at q ⊢; exact hb.mono _ _ _ _ w q
  · obtain ⟨F, α, δ, M, r, q⟩ := q
    refine ⟨F, α, δ, M, r, hc.mono δ _ _ _ (fun b M1 q α1 H1 e1 o1 => ?_) q⟩
    cases b with
    | true =>
      rw [if_pos rfl] at q
      show (if true = true then _ else _)
      rw [if_pos rfl]
      exact ⟨F, α1, δ, M1, r.grow e1 o1, ha.mono _ _ _ _ (lEnds.grow e1) q⟩
    | false =>
      rw [if_neg Bool.false_ne_true] at q
      show (if false = true then _ else _)
      rw [if_neg Bool.false_ne_true]
      exact ⟨F, α1, δ, M1, r.grow e1 o1, hb.mono _ _ _ _ (lEnds.grow e1) q⟩
def dDrop (te : DE) : DS := fun E δ M => te δ M fun _ M1 => E.nx δ M1
theorem js_expr (he : JE X e te) (hs : swapsWith e none pos.line X.env = pure false := by rfl) : JS X (.Expr e pos) (dDrop te) := by
  refine ⟨fun P Q δ M w q => he.mono δ _ _ _ (fun d M1 q => w.nx _ _ q) q, PS.weak (ps_expr he.p hs) fun E σ H q => ?_⟩
  obtain ⟨F, α, δ, M, r, q⟩ := q
  exact ⟨F, α, δ, M, r, he.mono δ _ _ _ (fun d M1 q v α1 H1 e1 o1 r1 => q σ α1 H1 e1 (r.grow e1 o1)) q⟩
def dSet (i : Nat) (te : DE) : DS := fun E δ M => te δ M fun d M1 => E.nx (δ.set i (some d)) M1
theorem js_set (i : Nat) (hN : X.N.Nodup) (he : JE X e te) (hi : X.N[i]? = some x := by rfl) (hx : Loc X.env.scope x := by first | exact Or.inl rfl | exact Or.inr rfl) (hs : swapsWith e (some (.Name x p)) pos.line X.env = pure false := by rfl)
    (hf : X.fn x = true ∨ X.env.scope.names.lookup x = some .local := by first | exact .inl rfl | exact .inr rfl | assumption) : JS X (.Assign [.Name x p] e pos) (dSet i te) := by
  refine ⟨fun P Q δ M w q => he.mono δ _ _ _ (fun d M1 q => w.nx _ _ q) q, PS.weak (ps_set hN hi hx he.p hs hf) fun E σ H q => ?_⟩
  obtain ⟨F, α, δ, M, r, q⟩ := q
  exact ⟨F, α, δ, M, r, he.mono δ _ _ _ (fun d M1 q v α1 H1 e1 o1 r1 => q _ α1 H1 e1 ((r.grow e1 o1).set r1)) q⟩
abbrev DG := D → DSt → Ms → (DSt → Ms → Prop) → Prop
abbrev DGs := List D → DSt → Ms → (DSt → Ms → Prop) → Prop
def lG (K : PySem.W.Frag) (g : DG) : TG := fun v σ H Q => ∃ F α δ M d, R K F α H σ δ M ∧ Rep K α (hid F α M H) d v ∧ g d δ M (sK K F α H M Q)
def lGs (K : PySem.W.Frag) (g : DGs) : TGs := fun vs σ H Q => ∃ F α δ M ds, R K F α H σ δ M ∧ Reps K α (hid F α M H) ds vs ∧ g ds δ M (sK K F α H M Q)
structure JG (X : Cx) (tg : Expr) (g : DG) : Prop where
  mono : ∀ d δ M (P Q : DSt → Ms → Prop), (∀ δ M, P δ M → Q δ M) → g d δ M P → g d δ M Q
  p : PG X tg (lG X.K g)
structure JGs (X : Cx) (tg : List Expr) (g : DGs) : Prop where
  mono : ∀ d δ M (P Q : DSt → Ms → Prop), (∀ δ M, P δ M → Q δ M) → g d δ M P → g d δ M Q
  p : PGs X tg (lGs X.K g)
theorem PG.weak {tg : Expr} {g g' : TG} (h : PG X tg g) (w : ∀ v σ H Q, g' v σ H Q → g v σ H Q) : PG X tg g' := fun pins s σ H v u Q I r q => h pins s σ H v u Q I r (w v σ H Q q)
theorem PGs.weak {tg : List Expr} {g g' : TGs} (h : PGs X tg g) (w : ∀ v σ H Q, g' v σ H Q → g v σ H Q) : PGs X tg g' := fun pins s σ H v u Q I r q => h pins s σ H v u Q I r (w v σ H Q q)
def dgName (i : Nat) : DG := fun d δ M Q => Q (δ.set i (some d)) M
theorem jg_name (i : Nat) (hN : X.N.Nodup) (hi : X.N[i]? = some x := by rfl) (hx : Loc X.env.scope x := by first | exact Or.inl rfl | exact Or.inr rfl) (hf : X.fn x = true ∨ X.env.scope.names.lookup x = some .local := by first | exact .inl rfl | exact .inr rfl | assumption) : JG X (.Name x pos) (dgName i) :=
  ⟨fun d δ M P Q w q => w _ _ q, PG.weak (pg_name hN hi hx hf) fun v σ H Q ⟨F, α, δ, M, d, r, rd, q⟩ => q _ α H Ext.refl (r.set rd)⟩
def dgNil : DGs := fun ds δ M Q => ds = [] ∧ Q δ M
def dgCons (g : DG) (gs : DGs) : DGs := fun ds δ M Q => match ds with | d :: r => g d δ M fun δ1 M1 => gs r δ1 M1 Q | [] => False
theorem jgs_nil : JGs X [] dgNil := ⟨fun d δ M P Q w q => ⟨q.1, w _ _ q.2⟩, PGs.weak pgs_nil fun v σ H Q ⟨F, α, δ, M, ds, r, rd, e, q⟩ => by
  subst e; unfold Reps at rd; exact ⟨rd, q σ α H Ext.refl r⟩⟩
theorem jgs_cons {g : DG} {gs : DGs} {es : List Expr} (h1 : JG X e g) (h2 : JGs X es gs) (hs : (assignEach (e :: es) X.env).map (·.2) = assign e X.env :: (assignEach es X.env).map (·.2) := by rfl) : JGs X (e :: es) (dgCons g gs) := by
  refine ⟨fun d δ M P Q w q => ?_, PGs.weak (pgs_cons h1.p h2.p hs) fun v σ H Q q => ?_⟩
  · cases d with
    | nil => exact q.elim
    | cons d r => exact h1.mono _ _ _ _ _ (fun δ M q => h2.mono _ _ _ _ _ w q) q
  · obtain ⟨F, α, δ, M, ds, r, rd, q⟩ := q
    cases ds with
    | nil => exact q.elim
    | cons d dr =>
      unfold Reps at rd
      obtain ⟨v1, vr, rfl, r1, r2⟩ := rd
      refine ⟨v1, vr, rfl, F, α, δ, M, d, r, r1, h1.mono _ _ _ _ _ (fun δ1 M1 q σ1 α1 H1 e1 R1 => ?_) q⟩
      exact ⟨F, α1, δ1, M1, dr, R1, e1.reps r2, h2.mono _ _ _ _ _ (sK.grow e1) q⟩
def dgTup (n : Nat) (gs : DGs) : DG := fun d δ M Q => match d with | .tup ds => ds.length = n ∧ gs ds δ M Q | _ => False
theorem jg_tup {es : List Expr} {k n : Nat} {gs : DGs} (h : JGs X es gs) (hc : X.calm = true := by rfl) (hn : (assignEach es X.env).length = n := by rfl) (hst : (assignEach es X.env).findIdx? (·.1) = none := by rfl) : JG X (.Tuple es k pos) (dgTup n gs) := by
  refine ⟨fun d δ M P Q w q => ?_, PG.weak (pg_tup hc h.p hn hst) fun v σ H Q q => ?_⟩
  · cases d <;> first | exact q.elim | exact ⟨q.1, h.mono _ _ _ _ _ w q.2⟩
  · obtain ⟨F, α, δ, M, d, r, rd, q⟩ := q
    cases d <;> first | exact q.elim | skip
    unfold Rep at rd
    obtain ⟨a, vs, rfl, sq, z⟩ := rd
    exact ⟨a, vs, rfl, same_seqT hide_same sq, by rw [← Reps.length _ _ z]; exact q.1, F, α, δ, M, _, r, z, q.2⟩
def dAsg (te : DE) (g : DG) : DS := fun E δ M => te δ M fun d M1 => g d δ M1 E.nx
theorem js_asg {tg : Expr} {g : DG} (he : JE X e te) (hg : JG X tg g) (hs : swapsWithSole [tg] e pos.line X.env = pure false := by rfl) (hw : swappedStores [tg] e X.env = pure none := by rfl)
    (h1 : (assignEach [tg] X.env).map (·.2) = [assign tg X.env] := by rfl) : JS X (.Assign [tg] e pos) (dAsg te g) := by
  refine ⟨fun P Q δ M w q => he.mono δ _ _ _ (fun d M1 q => hg.mono _ _ _ _ _ w.nx q) q, PS.weak (ps_asg he.p hg.p hs hw h1) fun E σ H q => ?_⟩
  obtain ⟨F, α, δ, M, r, q⟩ := q
  refine ⟨F, α, δ, M, r, he.mono δ _ _ _ (fun d M1 q v α1 H1 e1 o1 r1 => ?_) q⟩
  exact ⟨F, α1, δ, M1, d, r.grow e1 o1, r1, hg.mono _ _ _ _ _ (sK.grow e1) q⟩
structure ItOK (K : PySem.W.Frag) (F α1 : List Addr) (H1 : Hp) (M1 : Ms) (J : It) (items : List D) (st : Ms → Prop) : Prop where
  go : ∀ i F' α' H' M', α1 <+: α' → Same (hid F α1 M1 H1) (hid F' α' M' H') → OK K F' α' H' M' → st M' → i < items.length → J.go i H'
  yld : ∀ (i : Nat) F' α' H' M' x H2 d, α1 <+: α' → Same (hid F α1 M1 H1) (hid F' α' M' H') → OK K F' α' H' M' → st M' → items[i]? = some d → J.yld i H' x H2 → OK K F' α' H2 M' ∧ Ext F' α' H' M' α' H2 M' ∧ Rep K α' (hid F' α' M' H2) d x
  stop : ∀ F' α' H' M', α1 <+: α' → Same (hid F α1 M1 H1) (hid F' α' M' H') → OK K F' α' H' M' → st M' → J.stop items.length H'
abbrev DI := DSt → Ms → (List D → (Ms → Prop) → Ms → Prop) → Prop
abbrev iK (K : PySem.W.Frag) (F α : List Addr) (H : Hp) (M : Ms) (Q : It → Hp → Prop) : List D → (Ms → Prop) → Ms → Prop := fun items st M1 => ∀ J α1 H1, Ext F α H M α1 H1 M1 → OK K F α1 H1 M1 → ItOK K F α1 H1 M1 J items st → Q J H1
def lI (K : PySem.W.Frag) (t : DI) : TI := fun σ H Q => ∃ F α δ M, R K F α H σ δ M ∧ t δ M (iK K F α H M Q)
structure JI (X : Cx) (tg e : Expr) (t : DI) : Prop where
  mono : ∀ δ M (P Q : List D → (Ms → Prop) → Ms → Prop), (∀ l s M, P l s M → Q l s M) → t δ M P → t δ M Q
  p : PI X tg e (lI X.K t)
theorem PI.weak {tg : Expr} {t t' : TI} (h : PI X tg e t) (w : ∀ σ H Q, t' σ H Q → t σ H Q) : PI X tg e t' := fun pins s σ H Q I q => h pins s σ H Q I (w σ H Q q)
def forD (g : DG) (tb : DS) (st : Ms → Prop) (E : DEnds) : List D → DSt → Ms → Prop
  | [] => fun δ M => E.nx δ M
  | x :: xs => fun δ M => g x δ M fun δ1 M1 => tb { E with nx := fun δ' M' => st M' ∧ forD g tb st E xs δ' M', ct := fun δ' M' => st M' ∧ forD g tb st E xs δ' M', bk := E.nx } δ1 M1
def dFor (ti : DI) (g : DG) (tb : DS) : DS := fun E δ M => ti δ M fun items st M1 => st M1 ∧ forD g tb st E items δ M1
theorem forD_mono {g : DG} {tb : DS} {st : Ms → Prop} (hg : ∀ d δ M (P Q : DSt → Ms → Prop), (∀ δ M, P δ M → Q δ M) → g d δ M P → g d δ M Q) (hb : ∀ (P Q : DEnds) δ M, P.le Q → tb P δ M → tb Q δ M) {P Q : DEnds} (w : P.le Q) : ∀ xs δ M, forD g tb st P xs δ M → forD g tb st Q xs δ M
  | [], δ, M, q => w.nx _ _ q
  | x :: xs, δ, M, q => hg _ _ _ _ _ (fun δ1 M1 q => hb { P with nx := fun δ' M' => st M' ∧ forD g tb st P xs δ' M', ct := fun δ' M' => st M' ∧ forD g tb st P xs δ' M', bk := P.nx } { Q with nx := fun δ' M' => st M' ∧ forD g tb st Q xs δ' M', ct := fun δ' M' => st M' ∧ forD g tb st Q xs δ' M', bk := Q.nx } _ _ ⟨fun δ' M' q => ⟨q.1, forD_mono hg hb w xs δ' M' q.2⟩, w.rt, w.nx, fun δ' M' q => ⟨q.1, forD_mono hg hb w xs δ' M' q.2⟩⟩ q) q
theorem js_for {tg : Expr} {body : List Stmt} {ti : DI} {g : DG} {tb : DS} (hi : JI X tg e ti) (hg : JG X tg g) (hb : JB' X body tb) (hp : PassesOwn (model X.prog X.w) X.A X.env X.xe := by exact PassesOwn.never) (hc : X.calm = true := by rfl)
    (hs : ∀ x, foldedSetIterable e X.env x = pure x := by intro _; rfl) : JS X (.For tg e body [] pos) (dFor ti g tb) := by
  refine ⟨fun P Q δ M w q => hi.mono δ _ _ _ (fun items st M1 q => ⟨q.1, forD_mono hg.mono hb.mono w _ _ _ q.2⟩) q, PS.weak (ps_for hp hc hi.p hg.p hb.p hs) fun E σ H q => ?_⟩
  obtain ⟨F, α, δ, M, r, q⟩ := q
  refine ⟨F, α, δ, M, r, hi.mono δ _ _ _ (fun items st M1 q J α1 H1 e1 o1 it => ?_) q⟩
  obtain ⟨s1, q⟩ := q
  refine ⟨fun i m σ' H' => m = items.length - i ∧ i ≤ items.length ∧ ∃ α' δ' M', Ext F α1 H1 M1 α' H' M' ∧ R X.K F α' H' σ' δ' M' ∧ st M' ∧ forD g tb st (lEnds X.K F α H M E) (items.drop i) δ' M', ⟨_, rfl, Nat.zero_le _, α1, δ, M1, Ext.refl, r.grow e1 o1, s1, q⟩, ?_⟩
  rintro i m σ' H' ⟨rfl, hi', α', δ', M', e', r', s', q'⟩
  by_cases hlt : i < items.length
  · rw [List.drop_eq_getElem_cons hlt] at q'
    refine .inr ⟨it.go i F α' H' M' e'.pre e'.same r'.ok s' hlt, fun σ2 H2 => ∃ α2 δ2 M2, Ext F α1 H1 M1 α2 H2 M2 ∧ R X.K F α2 H2 σ2 δ2 M2 ∧ st M2 ∧ forD g tb st (lEnds X.K F α H M E) (items.drop (i + 1)) δ2 M2, fun σ2 H2 h => ⟨_, by omega, rfl, hlt, h⟩, fun x H2 y => ?_⟩
    obtain ⟨o2, e2, rx⟩ := it.yld i F α' H' M' x H2 items[i] e'.pre e'.same r'.ok s' (by simp [hlt]) y
    refine ⟨F, α', δ', M', items[i], r'.grow e2 o2, rx, hg.mono _ _ _ _ _ (fun δ3 M3 q3 σ3 α3 H3 e3 r3 => ⟨F, α3, δ3, M3, r3, hb.mono _ _ _ _ ?_ q3⟩) q'⟩
    have e03 := ((e1.trans e').trans e2).trans e3
    have e13 := (e'.trans e2).trans e3
    exact ⟨fun δ4 M4 q4 σ4 α4 H4 e4 r4 => ⟨α4, δ4, M4, e13.trans e4, r4, q4⟩, vK.grow e03, sK.grow e03, fun δ4 M4 q4 σ4 α4 H4 e4 r4 => ⟨α4, δ4, M4, e13.trans e4, r4, q4⟩⟩
  · have e : i = items.length := by omega
    subst e
    rw [List.drop_length] at q'
    exact .inl ⟨it.stop F α' H' M' e'.pre e'.same r'.ok s', q' σ' α' H' (e1.trans e') r'⟩
end
end L3
set_option Elab.async false
set_option linter.all false
set_option maxRecDepth 100000
set_option maxHeartbeats 4000000
namespace L3
open PySem PySem.Spec PyProof.Rows L2
mutual
def nl : D → Bool
  | .non | .bl _ | .int _ | .str _ | .ty _ | .scr _ | .cls _ => true
  | .loc _ => false
  | .tup ds | .lst ds | .dct _ ds | .ins _ _ ds => nls ds
def nls : List D → Bool
  | [] => true
  | d :: ds => nl d && nls ds
end
mutual
theorem Rep.nl {K : PySem.W.Frag} {α β : List Addr} {H : Hp} : ∀ (d : D) (v : V), L3.nl d = true → Rep K α H d v → Rep K β H d v
  | .non, v, _, h => by unfold Rep at h ⊢; exact h
  | .bl _, v, _, h => by unfold Rep at h ⊢; exact h
  | .int _, v, _, h => by unfold Rep at h ⊢; exact h
  | .str _, v, _, h => by unfold Rep at h ⊢; exact h
  | .ty _, v, _, h => by unfold Rep at h ⊢; exact h
  | .scr _, v, _, h => by unfold Rep at h ⊢; exact h
  | .cls _, v, _, h => by unfold Rep at h ⊢; exact h
  | .loc _, v, n, h => by unfold L3.nl at n; cases n
  | .tup ds, v, n, h => by
    unfold Rep at h ⊢; unfold L3.nl at n
    obtain ⟨a, vs, r, q, z⟩ := h
    exact ⟨a, vs, r, q, Reps.nl ds vs n z⟩
  | .lst ds, v, n, h => by
    unfold Rep at h ⊢; unfold L3.nl at n
    obtain ⟨a, vs, r, q, z⟩ := h
    exact ⟨a, vs, r, q, Reps.nl ds vs n z⟩
  | .dct ks ds, v, n, h => by
    unfold Rep at h ⊢; unfold L3.nl at n
    obtain ⟨a, vs, r, q, l, z⟩ := h
    exact ⟨a, vs, r, q, l, Reps.nl ds vs n z⟩
  | .ins C ns ds, v, n, h => by
    unfold Rep at h ⊢; unfold L3.nl at n
    obtain ⟨a, dx, vs, r, q, l, z⟩ := h
    exact ⟨a, dx, vs, r, q, l, Reps.nl ds vs n z⟩
theorem Reps.nl {K : PySem.W.Frag} {α β : List Addr} {H : Hp} : ∀ (d : List D) (v : List V), L3.nls d = true → Reps K α H d v → Reps K β H d v
  | [], v, _, h => by unfold Reps at h ⊢; exact h
  | d :: ds, v, n, h => by
    unfold Reps at h ⊢
    unfold L3.nls at n
    rw [Bool.and_eq_true] at n
    obtain ⟨u, r, q, z, y⟩ := h
    exact ⟨u, r, q, Rep.nl d u n.1 z, Reps.nl ds r n.2 y⟩
end
theorem nls_all : ∀ ds : List D, nls ds = ds.all nl
  | [] => rfl
  | d :: ds => by unfold nls; rw [List.all_cons, nls_all ds]
theorem nls_append (ds es : List D) : nls (ds ++ es) = (nls ds && nls es) := by simp [nls_all]
theorem nls_map {β : Type} {f : β → D} (h : ∀ b, nl (f b) = true) (l : List β) : nls (l.map f) = true := by rw [nls_all]; simp [h]
def vwk (k : Nat) : Option (Option OD) → D
  | some (some o) => o.toD
  | _ => .loc k
def vw (M : Ms) : D → D
  | .loc k => vwk k M[k]?
  | d => d
def fz (M : Ms) : D → D
  | .tup ds => .tup (ds.map (vw M))
  | d => vw M d
section
variable {K : PySem.W.Frag} {F α : List Addr} {H : Hp} {M : Ms}
theorem hid_sub : Same (hid F α M H) (hide F H) := fun b o e => by
  obtain ⟨z, q⟩ := hide_some e
  rw [hide_out fun w => z (List.mem_append_right _ w)]
  exact q
theorem OK.notF (o : OK K F α H M) {a : Addr} (h : a ∈ α) : a ∉ F := fun w => (o.fr a w).1 h
theorem rep_vw (o : OK K F α H M) : ∀ (d : D) (v : V), Rep K α (hid F α M H) d v → Rep K α (hide F H) (vw M d) v := fun d v h => by
  have gen : Rep K α (hide F H) d v := Rep.mono (List.prefix_refl _) hid_sub d v h
  cases d with
  | loc k =>
    show Rep K α _ (vwk k M[k]?) v
    cases e : M[k]? with
    | none => exact gen
    | some x =>
      cases x with
      | none => exact gen
      | some y =>
        obtain ⟨a, ea, ra⟩ := o.own k y e
        unfold Rep at h
        obtain ⟨a', ea', rfl⟩ := h
        rw [ea] at ea'; cases ea'
        have hF : a ∉ F := o.notF (List.mem_of_getElem? ea)
        cases y with
        | lst ds =>
          obtain ⟨vs, q, r⟩ := ra
          show Rep K α _ (.lst ds) _
          unfold Rep
          exact ⟨a, vs, rfl, by rw [hide_out hF]; exact q, Reps.mono (List.prefix_refl _) hid_sub _ _ r⟩
        | dct ks ds =>
          obtain ⟨vs, q, l, r⟩ := ra
          show Rep K α _ (.dct ks ds) _
          unfold Rep
          exact ⟨a, vs, rfl, by rw [hide_out hF]; exact q, l, Reps.mono (List.prefix_refl _) hid_sub _ _ r⟩
        | ins C ns ds =>
          obtain ⟨dx, vs, q, l, r⟩ := ra
          show Rep K α _ (.ins C ns ds) _
          unfold Rep
          exact ⟨a, dx, vs, rfl, by rw [hide_out hF]; exact q, l, Reps.mono (List.prefix_refl _) hid_sub _ _ r⟩
  | _ => exact gen
theorem vw_loc {k : Nat} {d : D} (e : vw M (.loc k) = d) : d = .loc k ∨ ∃ o, M[k]? = some (some o) ∧ d = o.toD := by
  have e : vwk k M[k]? = d := e
  cases h : M[k]? with
  | none => rw [h] at e; exact .inl e.symm
  | some x =>
    cases x with
    | none => rw [h] at e; exact .inl e.symm
    | some o => rw [h] at e; exact .inr ⟨o, rfl, e.symm⟩
theorem reps_vw (o : OK K F α H M) : ∀ (ds : List D) (vs : List V), Reps K α (hid F α M H) ds vs → Reps K α (hide F H) (ds.map (vw M)) vs
  | [], vs, h => by unfold Reps at h; subst h; exact Reps.nil
  | d :: ds, vs, h => by
    unfold Reps at h
    obtain ⟨v, r, rfl, z, y⟩ := h
    exact Reps.cons (rep_vw o d v z) (reps_vw o ds r y)
theorem rep_fz (o : OK K F α H M) : ∀ (d : D) (v : V), Rep K α (hid F α M H) d v → Rep K α (hide F H) (fz M d) v := fun d v h => by
  cases d with
  | tup ds =>
    unfold Rep at h
    obtain ⟨a, vs, rfl, sq, z⟩ := h
    show Rep K α _ (.tup _) _
    unfold Rep
    exact ⟨a, vs, rfl, same_seqT hid_sub sq, reps_vw o _ _ z⟩
  | _ => exact rep_vw o _ v h
theorem rd_lst (o : OK K F α H M) {d : D} {v : V} {ds : List D} (h : Rep K α (hid F α M H) d v) (e : vw M d = .lst ds) : ∃ a vs, v = .ref a ∧ H a = some (.lst vs) ∧ Reps K α (hid F α M H) ds vs := by
  cases d with
  | lst es =>
    cases (show (D.lst es) = .lst ds from e)
    unfold Rep at h
    obtain ⟨a, vs, rfl, q, z⟩ := h
    exact ⟨a, vs, rfl, hide_same _ _ q, z⟩
  | loc k =>
    rcases vw_loc e with e | ⟨x, hk, e⟩
    · cases e
    · cases x <;> cases e
      obtain ⟨a, ea, vs, q, r⟩ := o.own k _ hk
      unfold Rep at h
      obtain ⟨a', ea', rfl⟩ := h
      rw [ea] at ea'; cases ea'
      exact ⟨a, vs, rfl, q, r⟩
  | _ => cases e
theorem rd_dct (o : OK K F α H M) {d : D} {v : V} {ks : List Key} {ds : List D} (h : Rep K α (hid F α M H) d v) (e : vw M d = .dct ks ds) : ∃ a vs, v = .ref a ∧ H a = some (.dK (ks.zip vs)) ∧ ks.length = ds.length ∧ Reps K α (hid F α M H) ds vs := by
  cases d with
  | dct ls es =>
    cases (show (D.dct ls es) = .dct ks ds from e)
    unfold Rep at h
    obtain ⟨a, vs, rfl, q, l, z⟩ := h
    exact ⟨a, vs, rfl, hide_same _ _ q, l, z⟩
  | loc k =>
    rcases vw_loc e with e | ⟨x, hk, e⟩
    · cases e
    · cases x <;> cases e
      obtain ⟨a, ea, vs, q, l, r⟩ := o.own k _ hk
      unfold Rep at h
      obtain ⟨a', ea', rfl⟩ := h
      rw [ea] at ea'; cases ea'
      exact ⟨a, vs, rfl, q, l, r⟩
  | _ => cases e
theorem rd_ins (o : OK K F α H M) {d : D} {v : V} {C : Addr} {ns : List Str} {ds : List D} (h : Rep K α (hid F α M H) d v) (e : vw M d = .ins C ns ds) : ∃ a dx vs, v = .ref a ∧ H a = some (.ins C dx (ns.zip vs)) ∧ ns.length = ds.length ∧ Reps K α (hid F α M H) ds vs := by
  cases d with
  | ins C' ls es =>
    cases (show (D.ins C' ls es) = .ins C ns ds from e)
    unfold Rep at h
    obtain ⟨a, dx, vs, rfl, q, l, z⟩ := h
    exact ⟨a, dx, vs, rfl, hide_same _ _ q, l, z⟩
  | loc k =>
    rcases vw_loc e with e | ⟨x, hk, e⟩
    · cases e
    · cases x <;> cases e
      obtain ⟨a, ea, dx, vs, q, l, r⟩ := o.own k _ hk
      unfold Rep at h
      obtain ⟨a', ea', rfl⟩ := h
      rw [ea] at ea'; cases ea'
      exact ⟨a, dx, vs, rfl, q, l, r⟩
  | _ => cases e
theorem vw_tup {d : D} {ds : List D} (e : vw M d = .tup ds) : d = .tup ds := by
  cases d with
  | loc k => rcases vw_loc e with e | ⟨x, hk, e⟩ <;> first | cases e | (cases x <;> cases e)
  | _ => exact e
theorem vw_str {d : D} {x : Str} (e : vw M d = .str x) : d = .str x := by
  cases d with
  | loc k => rcases vw_loc e with e | ⟨x, hk, e⟩ <;> first | cases e | (cases x <;> cases e)
  | _ => exact e
theorem vw_scr {d : D} {x : List Int} (e : vw M d = .scr x) : d = .scr x := by
  cases d with
  | loc k => rcases vw_loc e with e | ⟨x, hk, e⟩ <;> first | cases e | (cases x <;> cases e)
  | _ => exact e
theorem vw_int {d : D} {x : Int} (e : vw M d = .int x) : d = .int x := by
  cases d with
  | loc k => rcases vw_loc e with e | ⟨x, hk, e⟩ <;> first | cases e | (cases x <;> cases e)
  | _ => exact e
theorem rd_tup (o : OK K F α H M) {d : D} {v : V} {ds : List D} (h : Rep K α (hid F α M H) d v) (e : vw M d = .tup ds) : ∃ a vs, v = .ref a ∧ SqT K H a vs ∧ Reps K α (hid F α M H) ds vs := by
  cases vw_tup e
  unfold Rep at h
  obtain ⟨a, vs, rfl, q, z⟩ := h
  exact ⟨a, vs, rfl, same_seqT hide_same q, z⟩
end
abbrev GP := List D → (D → Prop) → Prop
def cl (g : GP) : GN := fun ds M Q => nls ds = true ∧ g ds fun d => Q d M
abbrev monoP (g : GP) : Prop := ∀ ds (P Q : D → Prop), (∀ d, P d → Q d) → g ds P → g ds Q
theorem cl_mono {g : GP} (m : monoP g) : monoN (cl g) := fun xs M P Q w q => ⟨q.1, m _ _ _ (fun d q => w _ _ q) q.2⟩
def startD (n : Nat) (ds : List D) : DSt := ds.map some ++ List.replicate (n - ds.length) none
def fnG (n m : Nat) (tb : DS) : GN := fun ds M Q => ds.length = m ∧ tb ⟨fun _ M' => Q .non M', Q, fun _ _ => False, fun _ _ => False⟩ (startD n ds) M
def fnC (n m : Nat) (tb : DS) : GP := fun ds Q => ds.length = m ∧ tb ⟨fun _ _ => Q .non, fun d M' => nl (fz M' d) = true ∧ Q (fz M' d), fun _ _ => False, fun _ _ => False⟩ (startD n ds) []
section
variable {P : Program} {w : World} {K : PySem.W.Frag} {mg : Str → Option Value} {base : Heap}
theorem r_start {F α : List Addr} {H : Hp} {M : Ms} {N : List Str} {ds : List D} {vs : List V} (o : OK K F α H M) (r : Reps K α (hid F α M H) ds vs) : R K F α H (L2.start N vs) (startD N.length ds) M := by
  have hl := Reps.length _ _ r
  refine ⟨o, by simp [L2.start, startD, hl], fun i d h => ?_⟩
  unfold startD at h
  by_cases hi : i < ds.length
  · rw [List.getElem?_append_left (by simpa using hi)] at h
    rw [List.getElem?_map] at h
    cases e : ds[i]? with
    | none => rw [e] at h; cases h
    | some x =>
      rw [e] at h
      cases h
      obtain ⟨v, e1, r1⟩ := Reps.get ds vs i d r e
      refine ⟨v, ?_, r1⟩
      unfold L2.start
      rw [List.getElem?_append_left (by simp; omega), List.getElem?_map, e1]; rfl
  · rw [List.getElem?_append_right (by simp; omega)] at h
    have := List.mem_of_getElem? h
    rw [List.mem_replicate] at this
    cases this.2
theorem body_G {n : List Str} {ps : List Str} {X : Cx} {body : List Stmt} {tb : DS} (hJ : JB' X body tb) {H : Hp} {vs : List V} {Q : VK} {E : XK} (hK : X.K = K) (h : lSp K (fnG n.length ps.length tb) vs H Q E) :
    ∃ t, QB X body t ∧ t { nx := fun _ H' => Q .non H', rt := Q } (L2.start n vs) H := by
  subst hK
  obtain ⟨F, α, M, ds, o, r, hl, q⟩ := h
  refine ⟨_, ⟨hJ.p⟩, F, α, startD n.length ds, M, r_start o r, ?_⟩
  refine hJ.mono _ _ _ _ ?_ q
  exact ⟨fun δ M' q σ' α' H' e r => q _ α' H' e r.ok rep_non, fun _ _ q => q, fun _ _ q => q.elim, fun _ _ q => q.elim⟩
theorem closed_end {F α : List Addr} {H : Hp} {M : Ms} {α2 : List Addr} {H2 : Hp} {M2 : Ms} (o : OK K F α H M) (e2 : Ext (lv α M ++ F) [] H [] α2 H2 M2) (o2 : OK K (lv α M ++ F) α2 H2 M2) : Ext F α H M α H2 M ∧ OK K F α H2 M := by
  have sm : Same (hid F α M H) (hid F α M H2) := fun b x h => hid_sub _ _ (e2.same b x (by
    show hide (lv [] [] ++ (lv α M ++ F)) H b = _
    exact h))
  have fr : ∀ a ∈ lv α M ++ F, H2 a = H a := e2.fr
  have al : ∀ a, H a ≠ none → H2 a ≠ none := fun a h => by
    by_cases z : a ∈ lv α M ++ F
    · rw [fr a z]; exact h
    · cases e : H a with
      | none => exact absurd e h
      | some x =>
        have := hide_same _ _ (sm a x (by show hide _ H a = _; rw [hide_out z]; exact e))
        rw [this]; exact fun z => by cases z
  refine ⟨⟨List.prefix_refl _, sm, fun a ha => fr a (List.mem_append_right _ ha)⟩, o.ml, o.nd, fun a ha => ⟨(o.fr a ha).1, al a (o.fr a ha).2⟩, fun a ha => al a (o.al a ha), fun k x h => ?_⟩
  obtain ⟨a, ea, ra⟩ := o.own k x h
  exact ⟨a, ea, ra.mono (List.prefix_refl _) sm (fr a (List.mem_append_left _ (mem_lv.mpr ⟨k, x, ea, h⟩)))⟩
theorem body_C {n : List Str} {ps : List Str} {X : Cx} {body : List Stmt} {tb : DS} (hJ : JB' X body tb) {H : Hp} {vs : List V} {Q : VK} {E : XK} (hK : X.K = K) (h : lSp K (cl (fnC n.length ps.length tb)) vs H Q E) :
    ∃ t, QB X body t ∧ t { nx := fun _ H' => Q .non H', rt := Q } (L2.start n vs) H := by
  subst hK
  obtain ⟨F, α, M, ds, o, r, hn, hl, q⟩ := h
  have o0 : OK X.K (lv α M ++ F) [] H [] := ⟨rfl, List.nodup_nil, fun a ha => ⟨by simp, by
    rcases List.mem_append.mp ha with ha | ha
    · exact o.live a ha
    · exact (o.fr a ha).2⟩, fun a ha => (by simp at ha), fun k x h => (by simp at h)⟩
  have r0 : Reps X.K [] (hid (lv α M ++ F) [] [] H) ds vs := Reps.nl ds vs hn r
  refine ⟨_, ⟨hJ.p⟩, lv α M ++ F, [], startD n.length ds, [], r_start o0 r0, ?_⟩
  refine hJ.mono _ _ _ _ ?_ q
  refine ⟨fun δ M' q σ' α' H' e r => ?_, fun d M' q v α' H' e o' r => ?_, fun _ _ q => q.elim, fun _ _ q => q.elim⟩
  · obtain ⟨e1, o1⟩ := closed_end o e r.ok
    exact q _ α H' e1 o1 rep_non
  · obtain ⟨e1, o1⟩ := closed_end o e o'
    exact q.2 v α H' e1 o1 (Rep.nl _ _ q.1 (rep_fz o' d v r))
end
end L3
set_option Elab.async false
set_option linter.all false
set_option maxRecDepth 100000
set_option maxHeartbeats 4000000
namespace L3
open PySem PySem.Spec PyProof.Rows L2
def dslots (fr : List (Option Nat)) (δ : DSt) : DSt := fr.map fun o => match o with
  | none => none
  | some j => (δ[j]?).getD none
def rst (fr : List (Option Nat)) (δ : DSt) : DSt := List.zipWith (fun o d => match o with | none => none | some _ => d) fr δ
def stepD (g : DG) (tt : DT) (te : DE) (x : D) (δ : DSt) (M : Ms) (Kk : Option D → DSt → Ms → Prop) : Prop :=
  g x δ M fun δ1 M1 => tt δ1 M1 fun b M2 => if b = true then te δ1 M2 fun d M3 => Kk (some d) δ1 M3 else Kk none δ1 M2
def compD (fr : List (Option Nat)) (g : DG) (tt : DT) (te : DE) (st : Ms → Prop) (Q : List D → Ms → Prop) : List D → List D → DSt → Ms → Prop
  | [], acc, _, M => Q acc M
  | x :: xs, acc, δ, M => stepD g tt te x δ M fun o δ1 M1 => st M1 ∧ match o with
    | some d => acc.length < sizeLine ∧ compD fr g tt te st Q xs (acc ++ [d]) (rst fr δ1) M1
    | none => compD fr g tt te st Q xs acc (rst fr δ1) M1
def fComp (fr : List (Option Nat)) (ti : DI) (g : DG) (tt : DT) (te : DE) : DF := fun δ M Q => ti δ M fun items st M1 => st M1 ∧ compD fr g tt te st (fun ds M' => Q (.lst ds) M') items [] (dslots fr δ) M1
structure JIf (X : Cx) (ifs : List Expr) (t : DT) : Prop where
  mono : ∀ δ M (P Q : Bool → Ms → Prop), (∀ d M, P d M → Q d M) → t δ M P → t δ M Q
  p : PIf X ifs (lT X.K t)
def dYes : DT := fun _ M Q => Q true M
theorem jif_nil {X : Cx} : JIf X [] dYes := ⟨fun δ M P Q w q => w _ _ q, fun pins s σ H Q I ⟨F, α, δ, M, r, q⟩ => pif_nil pins s σ H Q I (q α H Ext.refl r.ok)⟩
section
variable {K : PySem.W.Frag} {F α α' α'' : List Addr} {H H' H'' : Hp} {M M' M'' : Ms} {σ : L2.St} {δ : DSt} {p : Addr}
theorem R.slots (r : R K F α H σ δ M) (fr : List (Option Nat)) : R K F α H (L2.slots fr σ) (dslots fr δ) M := by
  refine ⟨r.ok, by simp [L2.slots, dslots], fun i d h => ?_⟩
  unfold dslots at h
  unfold L2.slots
  rw [List.getElem?_map] at h ⊢
  cases e : fr[i]? with
  | none => rw [e] at h; cases h
  | some o =>
    rw [e] at h
    cases o with
    | none => cases h
    | some j =>
      have h : (δ[j]?).getD none = some d := by simpa using h
      cases e2 : δ[j]? with
      | none => rw [e2] at h; cases h
      | some q =>
        rw [e2] at h
        have h : q = some d := h
        subst h
        obtain ⟨v, e3, r3⟩ := r.sl j d e2
        exact ⟨v, by show some ((σ[j]?).getD none) = _; rw [e3]; rfl, r3⟩
theorem R.rst (r : R K F α H σ δ M) {fr : List (Option Nat)} (hl : fr.length = δ.length) : R K F α H σ (L3.rst fr δ) M := by
  refine ⟨r.ok, by simp [L3.rst, hl, r.len], fun i d h => ?_⟩
  unfold L3.rst at h
  rw [List.getElem?_zipWith] at h
  cases e : fr[i]? with
  | none => rw [e] at h; simp at h
  | some o =>
    cases e2 : δ[i]? with
    | none => rw [e, e2] at h; simp at h
    | some q =>
      rw [e, e2] at h
      cases o with
      | none => simp at h
      | some j =>
        have h : q = some d := by simpa using h
        subst h
        exact r.sl i d e2
theorem Ext.skip (o : OK K F α H M) (hp : H p = none) (e : Ext F α H M α' H' M') (e' : Ext (p :: F) α' H' M' α'' H'' M'') : Ext F α H M α'' H'' M'' := by
  refine ⟨e.pre.trans e'.pre, fun b x h => ?_, fun a ha => (e'.fr a (List.mem_cons_of_mem _ ha)).trans (e.fr a ha)⟩
  have hb : b ≠ p := fun z => by
    have := (hide_some h).2
    rw [z, hp] at this; cases this
  have h1 := hide_some (e.same b x h)
  have h2 : hid (p :: F) α' M' H' b = some x := by
    show hide _ H' b = _
    rw [hide_out fun w => h1.1 ?_]
    · exact h1.2
    · simp only [List.mem_append, List.mem_cons] at w ⊢
      rcases w with w | w | w
      · exact .inl w
      · exact absurd w hb
      · exact .inr w
  have h3 := hide_some (e'.same b x h2)
  show hide _ H'' b = _
  rw [hide_out fun w => h3.1 ?_]
  · exact h3.2
  · simp only [List.mem_append, List.mem_cons] at w ⊢
    rcases w with w | w
    · exact .inl w
    · exact .inr (.inr w)
theorem Ext.updp (hp : H p = none) (hF : p ∉ F) {x : HO} (e : Ext F α H M α' H' M') : Ext F α H M α' (upd H' p x) M' := by
  refine ⟨e.pre, fun b y h => ?_, fun a ha => by rw [upd_ne fun z => hF (by rw [← z]; exact ha)]; exact e.fr a ha⟩
  have hb : b ≠ p := fun z => by
    have := (hide_some h).2
    rw [z, hp] at this; cases this
  have h1 := hide_some (e.same b y h)
  show hide _ _ b = _
  rw [hide_out h1.1, upd_ne hb]
  exact h1.2
theorem hid_updp {x : HO} : hid (p :: F) α M (upd H p x) = hid (p :: F) α M H := by
  funext b
  show hide _ _ b = hide _ _ b
  by_cases hb : b ∈ lv α M ++ p :: F
  · rw [hide_in hb, hide_in hb]
  · rw [hide_out hb, hide_out hb, upd_ne fun z => hb (by rw [z]; simp)]
theorem OK.updp (o : OK K (p :: F) α H M) {x : HO} : OK K (p :: F) α (upd H p x) M := by
  have hp : p ∉ α := (o.fr p List.mem_cons_self).1
  refine ⟨o.ml, o.nd, fun a ha => ⟨(o.fr a ha).1, ?_⟩, fun a ha => ?_, fun k y h => ?_⟩
  · by_cases e : a = p
    · rw [e, upd_same]; exact fun z => by cases z
    · rw [upd_ne e]; exact (o.fr a ha).2
  · rw [upd_ne fun z => hp (by rw [← z]; exact ha)]; exact o.al a ha
  · obtain ⟨a, ea, ra⟩ := o.own k y h
    rw [hid_updp]
    exact ⟨a, ea, ra.mono (List.prefix_refl _) (Same.refl _) (upd_ne fun z => hp (by rw [← z]; exact List.mem_of_getElem? ea))⟩
theorem R.updp (r : R K (p :: F) α H σ δ M) {x : HO} : R K (p :: F) α (upd H p x) σ δ M := ⟨r.ok.updp, r.len, fun i d h => by
  obtain ⟨v, h1, h2⟩ := r.sl i d h
  rw [hid_updp]
  exact ⟨v, h1, h2⟩⟩
theorem R.underp (r : R K F α H σ δ M) (hp : H p = none) {x : HO} : R K (p :: F) α (upd H p x) σ δ M := by
  have o := r.ok
  have hpa : p ∉ α := fun z => o.al p z hp
  have sm : Same (hid F α M H) (hid (p :: F) α M (upd H p x)) := fun b y h => by
    obtain ⟨z, q⟩ := hide_some h
    have hb : b ≠ p := fun z => by rw [z, hp] at q; cases q
    show hide _ _ b = _
    rw [hide_out fun w => z ?_, upd_ne hb]
    · exact q
    · simp only [List.mem_append, List.mem_cons] at w ⊢
      rcases w with w | w | w
      · exact .inl w
      · exact absurd w hb
      · exact .inr w
  refine ⟨⟨o.ml, o.nd, fun a ha => ?_, fun a ha => ?_, fun k y h => ?_⟩, r.len, fun i d h => ?_⟩
  · rcases List.mem_cons.mp ha with e | e
    · subst e; exact ⟨hpa, by rw [upd_same]; exact fun z => by cases z⟩
    · refine ⟨(o.fr a e).1, ?_⟩
      rw [upd_ne fun z => (o.fr a e).2 (by rw [z]; exact hp)]; exact (o.fr a e).2
  · rw [upd_ne fun z => hpa (by rw [← z]; exact ha)]; exact o.al a ha
  · obtain ⟨a, ea, ra⟩ := o.own k y h
    exact ⟨a, ea, ra.mono (List.prefix_refl _) sm (upd_ne fun z => hpa (by rw [← z]; exact List.mem_of_getElem? ea))⟩
  · obtain ⟨v, h1, h2⟩ := r.sl i d h
    exact ⟨v, h1, Rep.mono (List.prefix_refl _) sm _ _ h2⟩
def er (p : Addr) (H : Hp) : Hp := fun b => if b = p then none else H b
theorem er_self : er p H p = none := by unfold er; rw [if_pos rfl]
theorem er_ne {b : Addr} (h : b ≠ p) : er p H b = H b := by unfold er; rw [if_neg h]
theorem er_upd {x : HO} (h : H p = some x) : upd (er p H) p x = H := by
  funext b
  by_cases e : b = p
  · rw [e, upd_same, h]
  · rw [upd_ne e, er_ne e]
theorem hid_er (o : OK K (p :: F) α H M) : hid F α M (er p H) = hid (p :: F) α M H := by
  have hp : p ∉ α := (o.fr p List.mem_cons_self).1
  funext b
  show hide _ _ b = hide _ _ b
  by_cases e : b = p
  · subst e
    rw [hide_in (A := lv α M ++ b :: F) (by simp)]
    by_cases z : b ∈ lv α M ++ F
    · rw [hide_in z]
    · rw [hide_out z, er_self]
  · by_cases z : b ∈ lv α M ++ F
    · rw [hide_in z, hide_in (by simp only [List.mem_append, List.mem_cons] at z ⊢; rcases z with z | z; exact .inl z; exact .inr (.inr z))]
    · rw [hide_out z, hide_out (by simp only [List.mem_append, List.mem_cons] at z ⊢; rintro (w | w | w); exact z (.inl w); exact e w; exact z (.inr w)), er_ne e]
theorem OK.er (o : OK K (p :: F) α H M) (hF : p ∉ F) : OK K F α (L3.er p H) M := by
  have hp : p ∉ α := (o.fr p List.mem_cons_self).1
  refine ⟨o.ml, o.nd, fun a ha => ⟨(o.fr a (List.mem_cons_of_mem _ ha)).1, ?_⟩, fun a ha => ?_, fun k x h => ?_⟩
  · rw [er_ne fun z => hF (by rw [← z]; exact ha)]; exact (o.fr a (List.mem_cons_of_mem _ ha)).2
  · rw [er_ne fun z => hp (by rw [← z]; exact ha)]; exact o.al a ha
  · obtain ⟨a, ea, ra⟩ := o.own k x h
    rw [hid_er o]
    exact ⟨a, ea, ra.mono (List.prefix_refl _) (Same.refl _) (er_ne fun z => hp (by rw [← z]; exact List.mem_of_getElem? ea))⟩
theorem Ext.er (hp : H p = none) (hF : p ∉ F) (e : Ext F α H M α' H' M') : Ext F α H M α' (L3.er p H') M' := by
  refine ⟨e.pre, fun b y h => ?_, fun a ha => by rw [er_ne fun z => hF (by rw [← z]; exact ha)]; exact e.fr a ha⟩
  have hb : b ≠ p := fun z => by
    have := (hide_some h).2
    rw [z, hp] at this; cases this
  have h1 := hide_some (e.same b y h)
  show hide _ _ b = _
  rw [hide_out h1.1, er_ne hb]
  exact h1.2
end
section
variable {X : Cx} {N : List Str} {fr : List (Option Nat)} {scope : Scope} {elt target iter : Expr} {ifs : List Expr} {ti : DI} {g : DG} {tt : DT} {te : DE} {pos : Pos}
theorem compD_mono (hg : ∀ d δ M (P Q : DSt → Ms → Prop), (∀ δ M, P δ M → Q δ M) → g d δ M P → g d δ M Q) (ht : ∀ δ M (P Q : Bool → Ms → Prop), (∀ d M, P d M → Q d M) → tt δ M P → tt δ M Q) (he : ∀ δ M (P Q : DK), (∀ d M, P d M → Q d M) → te δ M P → te δ M Q)
    {st : Ms → Prop} {P Q : List D → Ms → Prop} (w : ∀ l M, P l M → Q l M) : ∀ xs acc δ M, compD fr g tt te st P xs acc δ M → compD fr g tt te st Q xs acc δ M
  | [], acc, δ, M, q => w _ _ q
  | x :: xs, acc, δ, M, q => by
    unfold compD stepD at q ⊢
    refine hg _ _ _ _ _ (fun δ1 M1 q => ht _ _ _ _ (fun b M2 q => ?_) q) q
    cases b with
    | true =>
      rw [if_pos rfl] at q ⊢
      exact he _ _ _ _ (fun d M3 q => ⟨q.1, q.2.1, compD_mono hg ht he w xs _ _ _ q.2.2⟩) q
    | false =>
      rw [if_neg Bool.false_ne_true] at q ⊢
      exact ⟨q.1, compD_mono hg ht he w xs _ _ _ q.2⟩
theorem lift_comp (hI : JI X target iter ti) (hg : ∀ d δ M (P Q : DSt → Ms → Prop), (∀ δ M, P δ M → Q δ M) → g d δ M P → g d δ M Q) (ht : ∀ δ M (P Q : Bool → Ms → Prop), (∀ d M, P d M → Q d M) → tt δ M P → tt δ M Q) (he : ∀ δ M (P Q : DK), (∀ d M, P d M → Q d M) → te δ M P → te δ M Q)
    (hgl : ∀ d δ M (P : DSt → Ms → Prop), g d δ M P → g d δ M fun δ1 M1 => δ1.length = δ.length ∧ P δ1 M1) {σ : L2.St} {H : Hp} {Q : VK} (h : lF X.K (fComp fr ti g tt te) σ H Q) : tComp fr (lI X.K ti) (lG X.K g) (lT X.K tt) (lE X.K te) σ H Q := by
  obtain ⟨F, α, δ, M, r, h⟩ := h
  refine ⟨F, α, δ, M, r, hI.mono δ _ _ _ (fun items st M1 q J α1 H1 e1 o1 it p hp => ?_) h⟩
  obtain ⟨s1, q⟩ := q
  have hpF : p ∉ F := fun z => (o1.fr p z).2 hp
  refine ⟨fun i m ys σ' H' => m = items.length - i ∧ i ≤ items.length ∧ ∃ α' δ' M' acc, Ext F α1 H1 M1 α' H' M' ∧ R X.K (p :: F) α' H' σ' δ' M' ∧ δ'.length = fr.length ∧ st M' ∧ H' p = some (.lst ys) ∧ Reps X.K α' (hid (p :: F) α' M' H') acc ys ∧
      compD fr g tt te st (fun ds M' => fK X.K F α H M Q (.lst ds) M') (items.drop i) acc δ' M', ⟨_, rfl, Nat.zero_le _, α1, dslots fr δ, M1, [], Ext.refl.updp hp hpF, ((r.grow e1 o1).slots fr).underp hp, by simp [dslots], s1, upd_same, Reps.nil, q⟩, ?_⟩
  rintro i m ys σ' H' ⟨rfl, hi', α', δ', M', acc, e', r', hl', s', hy, ry, q'⟩
  have sm' : Same (hid F α1 M1 H1) (hid (p :: F) α' M' H') := fun b x h => by
    have hb : b ≠ p := fun z => by
      have := (hide_some h).2
      rw [z, hp] at this; cases this
    have h1 := hide_some (e'.same b x h)
    show hide _ H' b = _
    rw [hide_out fun w => h1.1 ?_]
    · exact h1.2
    · simp only [List.mem_append, List.mem_cons] at w ⊢
      rcases w with w | w | w
      · exact .inl w
      · exact absurd w hb
      · exact .inr w
  by_cases hlt : i < items.length
  · rw [List.drop_eq_getElem_cons hlt] at q'
    refine .inr ⟨it.go i (p :: F) α' H' M' e'.pre sm' r'.ok s' hlt, fun ys2 σ2 H2 => ∃ α2 δ2 M2 acc2, Ext F α1 H1 M1 α2 H2 M2 ∧ R X.K (p :: F) α2 H2 σ2 δ2 M2 ∧ δ2.length = fr.length ∧ st M2 ∧ H2 p = some (.lst ys2) ∧ Reps X.K α2 (hid (p :: F) α2 M2 H2) acc2 ys2 ∧
      compD fr g tt te st (fun ds M' => fK X.K F α H M Q (.lst ds) M') (items.drop (i + 1)) acc2 δ2 M2, fun ys2 σ2 H2 h => ⟨_, by omega, rfl, hlt, h⟩, fun x H2 y => ?_⟩
    obtain ⟨o2, e2, rx⟩ := it.yld i (p :: F) α' H' M' x H2 items[i] e'.pre sm' r'.ok s' (by simp [hlt]) y
    unfold compD stepD at q'
    refine ⟨p :: F, α', δ', M', items[i], r'.grow e2 o2, rx, hg _ _ _ _ _ (fun δ3 M3 q3 σ3 α3 H3 e3 r3 => ?_) (hgl _ _ _ _ q')⟩
    obtain ⟨l3, q3⟩ := q3
    refine ⟨p :: F, α3, δ3, M3, r3, ht _ _ _ _ (fun b M4 q4 α4 H4 e4 o4 => ?_) q3⟩
    have e24 := (e2.trans e3).trans e4
    have pm : p ∈ p :: F := List.mem_cons_self
    cases b with
    | false =>
      rw [if_neg Bool.false_ne_true] at q4
      show (if false = true then _ else _)
      rw [if_neg Bool.false_ne_true]
      refine ⟨α4, rst fr δ3, M4, acc, Ext.skip o1 hp e' e24, (r3.grow e4 o4).rst (by rw [l3, hl']), by simp [rst, l3, hl'], q4.1, by rw [e24.fr p pm]; exact hy, e24.reps ry, q4.2⟩
    | true =>
      rw [if_pos rfl] at q4
      show (if true = true then _ else _)
      rw [if_pos rfl]
      refine ⟨p :: F, α4, δ3, M4, r3.grow e4 o4, he _ _ _ _ (fun d M5 q5 v α5 H5 e5 o5 r5 => ?_) q4⟩
      have e25 := e24.trans e5
      have ry5 := e25.reps ry
      refine ⟨by rw [e25.fr p pm]; exact hy, by rw [← Reps.length _ _ ry]; exact q5.2.1, α5, rst fr δ3, M5, acc ++ [d], (Ext.skip o1 hp e' e25).updp hp hpF, (((r3.grow e4 o4).grow e5 o5).rst (by rw [l3, hl'])).updp, by simp [rst, l3, hl'], q5.1, upd_same, ?_, q5.2.2⟩
      rw [hid_updp]
      exact Reps.append _ _ _ _ ry5 (Reps.one r5)
  · have e : i = items.length := by omega
    subst e
    rw [List.drop_length] at q'
    refine .inl ⟨it.stop (p :: F) α' H' M' e'.pre sm' r'.ok s', ?_⟩
    have := q' p (.lst ys) α' (er p H') (e1.trans (e'.er hp hpF)) (r'.ok.er hpF) er_self ⟨ys, rfl, by rw [hid_er r'.ok]; exact ry⟩
    rw [er_upd hy] at this
    exact this
abbrev glen (g : DG) : Prop := ∀ d δ M (P : DSt → Ms → Prop), g d δ M P → g d δ M fun δ1 M1 => δ1.length = δ.length ∧ P δ1 M1
theorem gl_name {i : Nat} : glen (dgName i) := fun d δ M P q => ⟨by simp, q⟩
theorem jf_comp (c : CompOk X N fr scope) (hi : JI X target iter ti) (hgl : glen g)
    (hg : ∀ C ex pins s₀ H₀, JG (blk X scope N C ex pins s₀ H₀ fun _ _ => False) target g) (ht : ∀ C ex pins s₀ H₀, JIf (blk X scope N C ex pins s₀ H₀ fun _ _ => False) ifs tt) (he : ∀ C ex pins s₀ H₀, JE (blk X scope N C ex pins s₀ H₀ fun _ _ => False) elt te)
    (hcalm : X.calm = true := by rfl) (hs : ∀ x, foldedSetIterable iter X.env x = pure x := by intro _; rfl) : JF X (.ListComp elt [⟨target, iter, ifs, 0⟩] scope pos) (fComp fr ti g tt te) := by
  have mg := (hg 0 [] [] X.s₀ X.H₀).mono
  have mt := (ht 0 [] [] X.s₀ X.H₀).mono
  have me := (he 0 [] [] X.s₀ X.H₀).mono
  exact ⟨fun δ M P Q w q => hi.mono _ _ _ _ (fun l s M1 q => ⟨q.1, compD_mono mg mt me (fun l M q => w _ _ q) _ _ _ _ q.2⟩) q,
    PE.weak (pe_comp c hcalm hi.p (fun _ _ _ _ _ => (hg _ _ _ _ _).p) (fun _ _ _ _ _ => (ht _ _ _ _ _).p) (fun _ _ _ _ _ => (he _ _ _ _ _).p) hs) fun σ H Q h => lift_comp hi mg mt me hgl h⟩
theorem js_compN (i : Nat) {x : Str} {p p3 : Pos} (hN : X.N.Nodup) (c : CompOk X N fr scope) (hi : JI X target iter ti) (hgl : glen g)
    (hg : ∀ C ex pins s₀ H₀, JG (blk X scope N C ex pins s₀ H₀ fun _ _ => False) target g) (ht : ∀ C ex pins s₀ H₀, JIf (blk X scope N C ex pins s₀ H₀ fun _ _ => False) ifs tt) (he : ∀ C ex pins s₀ H₀, JE (blk X scope N C ex pins s₀ H₀ fun _ _ => False) elt te)
    (hy : X.N[i]? = some x := by rfl) (hx : Loc X.env.scope x := by first | exact Or.inl rfl | exact Or.inr rfl)
    (hsw : swapsWith (.ListComp elt [⟨target, iter, ifs, 0⟩] scope pos) (some (.Name x p)) p3.line X.env = pure true := by rfl) (hf : X.fn x = true ∨ X.env.scope.names.lookup x = some .local := by first | exact .inl rfl | exact .inr rfl | assumption)
    (hcalm : X.calm = true := by rfl) (hs : ∀ x, foldedSetIterable iter X.env x = pure x := by intro _; rfl) :
    JS X (.Assign [.Name x p] (.ListComp elt [⟨target, iter, ifs, 0⟩] scope pos) p3) (dSet i (dNew (fComp fr ti g tt te))) := by
  have mg := (hg 0 [] [] X.s₀ X.H₀).mono
  have mt := (ht 0 [] [] X.s₀ X.H₀).mono
  have me := (he 0 [] [] X.s₀ X.H₀).mono
  have hF : JF X (.ListComp elt [⟨target, iter, ifs, 0⟩] scope pos) (fComp fr ti g tt te) := jf_comp c hi hgl hg ht he hcalm hs
  have base := ps_comp (pos := pos) (py := p) (spos := p3) (wi := lI X.K ti) (g := lG X.K g) (tt := lT X.K tt) (te := lE X.K te) c hcalm hi.p (fun _ _ _ _ _ => (hg _ _ _ _ _).p) (fun _ _ _ _ _ => (ht _ _ _ _ _).p) (fun _ _ _ _ _ => (he _ _ _ _ _).p) hN hy hx hsw hf hs
  refine ⟨fun P Q δ M w q => ?_, PS.weak base fun E σ H q => lift_comp hi mg mt me hgl ?_⟩
  · unfold dSet dNew at q ⊢
    refine hF.mono _ _ _ _ ?_ q
    exact fun o M1 q => w.nx _ _ q
  · obtain ⟨F, α, δ, M, r, q⟩ := q
    refine ⟨F, α, δ, M, r, ?_⟩
    unfold dSet dNew at q
    refine hF.mono _ _ _ _ ?_ q
    exact fun o M1 q => fK.frz fun v α' H' e1 o1 r1 => q _ α' H' e1 ((r.grow e1 o1).set r1)
end
end L3
set_option Elab.async false
set_option linter.all false
set_option maxRecDepth 100000
set_option maxHeartbeats 4000000
namespace L3
open PySem PySem.Spec PyProof.Rows L2
def gI (C : Int → Int → Prop) (f : Int → Int → D) : G2 := fun x y M Q => match x, y with | .int i, .int j => C i j ∧ Q (f i j) M | _, _ => False
theorem gI_mono {C : Int → Int → Prop} {f : Int → Int → D} : mono2 (gI C f) := by
  intro x y M P Q w q
  cases x <;> cases y <;> first | exact q.elim | exact ⟨q.1, w _ _ q.2⟩
def gI0 (f : Int → Int → D) : G2 := fun x y M Q => match x, y with | .int i, .int j => Q (f i j) M | _, _ => False
theorem gI0_mono {f : Int → Int → D} : mono2 (gI0 f) := by
  intro x y M P Q w q
  cases x <;> cases y <;> first | exact q.elim | exact w _ _ q
section
variable {X : Cx}
theorem jo_sub : JO X .Sub (gI0 fun i j => .int (i - j)) := ⟨gI0_mono, fun pins s σ H x y v u Q I rx ry h => by
  obtain ⟨F, α, M, da, db, o, ra, rb, h⟩ := h
  cases da <;> cases db <;> first | exact h.elim | skip
  unfold Rep at ra rb
  exact op_sub pins s σ H x y v u Q I rx ry ⟨_, _, ra, rb, vK.now o h rep_int⟩⟩
theorem jo_mod : JO X .Mod (gI (fun _ j => 0 < j) fun i j => .int (i % j)) := ⟨gI_mono, fun pins s σ H x y v u Q I rx ry h => by
  obtain ⟨F, α, M, da, db, o, ra, rb, h⟩ := h
  cases da <;> cases db <;> first | exact h.elim | skip
  unfold Rep at ra rb
  exact op_mod pins s σ H x y v u Q I rx ry ⟨_, _, ra, rb, h.1, vK.now o h.2 rep_int⟩⟩
theorem jo_pow : JO X .Pow (gI CPow fun i j => .int (i ^ j.toNat)) := ⟨gI_mono, fun pins s σ H x y v u Q I rx ry h => by
  obtain ⟨F, α, M, da, db, o, ra, rb, h⟩ := h
  cases da <;> cases db <;> first | exact h.elim | skip
  unfold Rep at ra rb
  exact op_pow pins s σ H x y v u Q I rx ry ⟨_, _, ra, rb, h.1, vK.now o h.2 rep_int⟩⟩
theorem jc_gt : JC X .Gt (gI0 fun i j => .bl (decide (j < i))) := ⟨gI0_mono, fun pins s σ H x y v u Q I rx ry h => by
  obtain ⟨F, α, M, da, db, o, ra, rb, h⟩ := h
  cases da <;> cases db <;> first | exact h.elim | skip
  unfold Rep at ra rb
  exact op_gt pins s σ H x y v u Q I rx ry ⟨_, _, ra, rb, vK.now o h rep_bl⟩⟩
def gLt : G2 := fun x y M Q => match x, y with | .int i, .int j => Q (.bl (decide (i < j))) M | .str i, .str j => Q (.bl (decide (i.cps.toList < j.cps.toList))) M | _, _ => False
def gLe : G2 := fun x y M Q => match x, y with | .int i, .int j => Q (.bl (decide (i ≤ j))) M | .str i, .str j => Q (.bl (!decide (j.cps.toList < i.cps.toList))) M | _, _ => False
theorem jc_lt : JC X .Lt gLt := by
  refine ⟨fun x y M P Q w q => ?_, fun pins s σ H x y v u Q I rx ry h => ?_⟩
  · cases x <;> cases y <;> first | exact q.elim | exact w _ _ q
  · obtain ⟨F, α, M, da, db, o, ra, rb, h⟩ := h
    cases da <;> cases db <;> first | exact h.elim | skip
    · unfold Rep at ra rb
      exact op_lt pins s σ H x y v u Q I rx ry ⟨_, _, ra, rb, vK.now o h rep_bl⟩
    · unfold Rep at ra rb
      exact op_lt_str pins s σ H x y v u Q I rx ry ⟨_, _, ra, rb, vK.now o h rep_bl⟩
theorem jc_le : JC X .LtE gLe := by
  refine ⟨fun x y M P Q w q => ?_, fun pins s σ H x y v u Q I rx ry h => ?_⟩
  · cases x <;> cases y <;> first | exact q.elim | exact w _ _ q
  · obtain ⟨F, α, M, da, db, o, ra, rb, h⟩ := h
    cases da <;> cases db <;> first | exact h.elim | skip
    · unfold Rep at ra rb
      exact op_le pins s σ H x y v u Q I rx ry ⟨_, _, ra, rb, vK.now o h rep_bl⟩
    · unfold Rep at ra rb
      exact op_le_str pins s σ H x y v u Q I rx ry ⟨_, _, ra, rb, vK.now o h rep_bl⟩
def isN : D → Bool
  | .non => true
  | _ => false
theorem isN_rep {K : PySem.W.Frag} {α : List Addr} {H : Hp} {d : D} {v : V} (h : Rep K α H d v) : decide (v = .non) = isN d := by
  cases d <;> unfold Rep at h
  case non => subst h; rfl
  case tup => obtain ⟨_, _, rfl, _⟩ := h; rfl
  case lst => obtain ⟨_, _, rfl, _⟩ := h; rfl
  case dct => obtain ⟨_, _, rfl, _⟩ := h; rfl
  case ins => obtain ⟨_, _, _, rfl, _⟩ := h; rfl
  case scr => obtain ⟨_, rfl, _⟩ := h; rfl
  case loc => obtain ⟨_, _, rfl⟩ := h; rfl
  all_goals subst h; rfl
def gIs : G2 := fun x y M Q => match y with | .non => Q (.bl (isN x)) M | _ => False
def gIsNot : G2 := fun x y M Q => match y with | .non => Q (.bl (!isN x)) M | _ => False
theorem jc_is : JC X .Is gIs := by
  refine ⟨fun x y M P Q w q => ?_, fun pins s σ H x y v u Q I rx ry h => ?_⟩
  · cases y <;> first | exact q.elim | exact w _ _ q
  · obtain ⟨F, α, M, da, db, o, ra, rb, h⟩ := h
    cases db <;> first | exact h.elim | skip
    unfold Rep at rb
    exact op_isN pins s σ H x y v u Q I rx ry ⟨rb, by rw [isN_rep ra]; exact vK.now o h rep_bl⟩
theorem jc_isNot : JC X .IsNot gIsNot := by
  refine ⟨fun x y M P Q w q => ?_, fun pins s σ H x y v u Q I rx ry h => ?_⟩
  · cases y <;> first | exact q.elim | exact w _ _ q
  · obtain ⟨F, α, M, da, db, o, ra, rb, h⟩ := h
    cases db <;> first | exact h.elim | skip
    unfold Rep at rb
    exact op_notN pins s σ H x y v u Q I rx ry ⟨rb, by rw [isN_rep ra]; exact vK.now o h rep_bl⟩
def gPlus : G2 := fun x y M Q => match vw M x, vw M y with
  | .int i, .int j => Q (.int (i + j)) M
  | .str i, .str j => i.length + j.length ≤ sizeLine ∧ Q (.str (i ++ j)) M
  | .lst xs, .lst ys => xs.length + ys.length ≤ sizeLine ∧ Q (.lst (xs ++ ys)) M
  | .tup xs, .tup ys => xs ≠ [] ∧ xs.length + ys.length ≤ sizeLine ∧ Q (.tup (xs ++ ys)) M
  | _, _ => False
theorem jo_add : JO X .Add gPlus := by
  refine ⟨fun x y M P Q w q => ?_, fun pins s σ H x y v u Q I rx ry h => ?_⟩
  · unfold gPlus at q ⊢
    generalize vw M x = a at q ⊢
    generalize vw M y = b at q ⊢
    cases a <;> cases b <;> first | exact q.elim | exact w _ _ q | exact ⟨q.1, w _ _ q.2⟩ | exact ⟨q.1, q.2.1, w _ _ q.2.2⟩
  · obtain ⟨F, α, M, da, db, o, ra, rb, h⟩ := h
    unfold gPlus at h
    generalize e1 : vw M da = a at h
    generalize e2 : vw M db = b at h
    cases a <;> cases b <;> first | exact h.elim | skip
    · cases vw_int e1; cases vw_int e2
      unfold Rep at ra rb
      exact op_add pins s σ H x y v u Q I rx ry ⟨_, _, ra, rb, vK.now o h rep_int⟩
    · cases vw_str e1; cases vw_str e2
      unfold Rep at ra rb
      exact op_add_str pins s σ H x y v u Q I rx ry ⟨_, _, ra, rb, h.1, vK.now o h.2 rep_str⟩
    · obtain ⟨a, vs, rfl, qa, za⟩ := rd_tup o ra e1
      obtain ⟨b, us, rfl, qb, zb⟩ := rd_tup o rb e2
      have l1 := Reps.length _ _ za
      have l2 := Reps.length _ _ zb
      refine op_catT pins s σ H _ _ v u Q I rx ry ⟨a, b, vs, us, rfl, rfl, qa, qb, ?_, by rw [← l1, ← l2]; exact h.2.1, fun e => ?_, fun _ p hp => vK.new o hp h.2.2 (rep_tup_new o hp (Reps.append _ _ _ _ za zb))⟩
      · intro e; subst e
        exact h.1 (List.length_eq_zero_iff.mp l1)
      · subst e
        have := List.length_eq_zero_iff.mp l2
        subst this
        refine vK.now o h.2.2 ?_
        rw [List.append_nil]
        rw [vw_tup e1] at ra
        exact ra
    · obtain ⟨a, vs, rfl, qa, za⟩ := rd_lst o ra e1
      obtain ⟨b, us, rfl, qb, zb⟩ := rd_lst o rb e2
      have l1 := Reps.length _ _ za
      have l2 := Reps.length _ _ zb
      exact op_cat pins s σ H _ _ v u Q I rx ry ⟨a, b, vs, us, rfl, rfl, qa, qb, by rw [← l1, ← l2]; exact h.1, fun p hp => vK.new o hp h.2 (rep_lst_new o hp (Reps.append _ _ _ _ za zb))⟩
def keyD : D → Option Key
  | .int i => some (.inl i)
  | .str x => some (.inr x)
  | _ => none
def valD (k : Key) : List Key → List D → Option D
  | k' :: ks, d :: ds => if k' = k then some d else valD k ks ds
  | _, _ => none
theorem keyD_rep {K : PySem.W.Frag} {α : List Addr} {H : Hp} {d : D} {v : V} {k : Key} (h : Rep K α H d v) (e : keyD d = some k) : v = kV k := by
  cases d <;> cases e
  · unfold Rep at h; exact h
  · unfold Rep at h; exact h
theorem valD_rep {K : PySem.W.Frag} {α : List Addr} {H : Hp} {k : Key} : ∀ (ks : List Key) (ds : List D) (vs : List V), Reps K α H ds vs → ks.length = ds.length →
    (∀ d, valD k ks ds = some d → ∃ v, valV (ks.zip vs) k = some v ∧ Rep K α H d v) ∧ (valD k ks ds = none → valV (ks.zip vs) k = none)
  | [], ds, vs, h, l => ⟨fun d e => by simp [valD] at e, fun _ => rfl⟩
  | k' :: ks, [], vs, h, l => by simp at l
  | k' :: ks, d :: ds, vs, h, l => by
    unfold Reps at h
    obtain ⟨v, r, rfl, z, y⟩ := h
    have ih := valD_rep (k := k) ks ds r y (by simpa using l)
    rw [List.zip_cons_cons]
    by_cases e : k' = k
    · rw [valV_pos (p := (k', v)) e]
      unfold valD
      rw [if_pos e]
      exact ⟨fun d' e' => ⟨v, rfl, by cases e'; exact z⟩, fun e' => by cases e'⟩
    · rw [valV_neg (p := (k', v)) e]
      unfold valD
      rw [if_neg e]
      exact ih
theorem ix_dict (hu : X.A.units + 1 < cLine) : IxR X (fun x y H Q => ∃ a v, x = .ref a ∧ DGet H a y (some v) ∧ Q v H) := by
  intro value slice pins s σ H x y v u Q I rx ry h hs
  obtain ⟨a, z, rfl, g, q⟩ := h
  cases rx
  unfold subscriptTail
  refine wpAny_bind ?_
  rw [getitemInPython_of_ne (dict_typeIs I g).not_modules]
  refine wpAny_bind (wpAny_specialOf (dict_typeIs I g) PySem.F.slot_dict_getitem.lookup ?_)
  have fin : wpAny (model X.prog X.w) X.A (subscripted slice false (.ref a) u) (fun r s₃ => wpAny (model X.prog X.w) X.A (letTemporaryGo value (.ref a) r >>= fun _ => pure r) (EP X pins σ Q) X.xe s₃) X.xe s := by
    rw [hs]
    exact wpAny_operating (d_getItem hu I g ry fun w' s3 I3 rw' => wpAny_bind (wpAny_letTemporaryGo (wpAny_pure ⟨z, H, I3, rw', q⟩)))
  first
    | exact wpAny_pure (wpAny_bind fin)
    | exact wpAny_bind (wpAny_pure (wpAny_bind fin))
    | exact wpAny_bind fin
def gIx : G2 := fun x y M Q => match vw M x, y with
  | .lst xs, .int i => ∃ d, atI xs i = some d ∧ Q d M
  | .tup xs, .int i => ∃ d, atI xs i = some d ∧ Q d M
  | .scr xs, .int i => ∃ d, atI xs i = some d ∧ Q (.int d) M
  | .str z, .int i => z.length ≤ sizeLine ∧ ∃ c, atI z.cps.toList i = some c ∧ Q (.str ⟨#[c]⟩) M
  | .dct ks ds, y => ∃ k d, keyD y = some k ∧ valD k ks ds = some d ∧ Q d M
  | _, _ => False
theorem jx (hu : X.A.units + 1 < cLine) : JX X gIx := by
  refine ⟨fun x y M P Q w q => ?_, fun value slice pins s σ H x y v u Q I rx ry h hs => ?_⟩
  · unfold gIx at q ⊢
    generalize vw M x = a at q ⊢
    cases a <;> first
      | (obtain ⟨k, d, h1, h2, h3⟩ := q; exact ⟨k, d, h1, h2, w _ _ h3⟩)
      | (cases y <;> first | exact q.elim | exact ⟨q.choose, q.choose_spec.1, w _ _ q.choose_spec.2⟩ | exact ⟨q.1, q.2.choose, q.2.choose_spec.1, w _ _ q.2.choose_spec.2⟩)
  · obtain ⟨F, α, M, da, db, o, ra, rb, h⟩ := h
    unfold gIx at h
    generalize e1 : vw M da = a at h
    cases a with
    | dct ks ds =>
      obtain ⟨k, d, h1, h2, h3⟩ := h
      obtain ⟨a, vs, rfl, qa, hl, za⟩ := rd_dct o ra e1
      obtain ⟨v', hv, rv⟩ := (valD_rep ks ds vs za hl).1 d h2
      cases keyD_rep rb h1
      exact ix_dict hu value slice pins s σ H _ _ v u Q I rx ry ⟨a, v', rfl, by rw [← hv]; exact DGet.k qa, vK.now o h3 rv⟩ hs
    | str z =>
      cases db <;> first | exact h.elim | skip
      cases vw_str e1
      unfold Rep at ra rb
      obtain ⟨hz, c, e, h⟩ := h
      exact ix_str value slice pins s σ H x y v u Q I rx ry ⟨_, _, c, ra, rb, hz, e, vK.now o h rep_str⟩ hs
    | tup xs =>
      cases db <;> first | exact h.elim | skip
      obtain ⟨a, vs, rfl, qa, za⟩ := rd_tup o ra e1
      unfold Rep at rb
      obtain ⟨d, e, h⟩ := h
      obtain ⟨w, ew, rw'⟩ := za.at e
      exact ix_tup value slice pins s σ H _ y v u Q I rx ry ⟨a, vs, _, w, rfl, rb, qa, ew, vK.now o h rw'⟩ hs
    | lst xs =>
      cases db <;> first | exact h.elim | skip
      obtain ⟨a, vs, rfl, qa, za⟩ := rd_lst o ra e1
      unfold Rep at rb
      obtain ⟨d, e, h⟩ := h
      obtain ⟨w, ew, rw'⟩ := za.at e
      exact ix_list value slice pins s σ H _ y v u Q I rx ry ⟨a, vs, _, w, rfl, rb, SqL.of qa, ew, vK.now o h rw'⟩ hs
    | scr ns =>
      cases db <;> first | exact h.elim | skip
      cases vw_scr e1
      unfold Rep at ra rb
      obtain ⟨a, rfl, qa⟩ := ra
      obtain ⟨d, e, h⟩ := h
      refine ix_list value slice pins s σ H _ y v u Q I rx ry ⟨a, _, _, .int d, rfl, rb, same_seqL hide_same qa, ?_, vK.now o h rep_int⟩ hs
      unfold atI at e ⊢
      rw [List.length_map]
      cases q : ixN _ _ with
      | none => rw [q] at e; cases e
      | some j =>
        rw [q] at e
        show (List.map V.int _)[j]? = _
        have e' : (_ : List Int)[j]? = some d := e
        rw [List.getElem?_map, e']
        rfl
    | _ => exact h.elim
def cutD {β : Type} (xs : List β) (lo hi : Option Int) : List β := (xs.drop (HT.sIx xs.length 0 lo)).take (HT.sIx xs.length xs.length hi - HT.sIx xs.length 0 lo)
theorem Reps.cut {K : PySem.W.Frag} {α : List Addr} {H : Hp} {ds : List D} {vs : List V} (h : Reps K α H ds vs) (lo hi : Option Int) : Reps K α H (cutD ds lo hi) (cutV vs lo hi) := by
  unfold cutD cutV
  rw [Reps.length _ _ h]
  exact Reps.take _ _ _ (Reps.drop _ _ _ h)
end
end L3
set_option Elab.async false
set_option linter.all false
set_option maxRecDepth 100000
set_option maxHeartbeats 4000000
namespace PySem
open Sem (wp)
open Builtin
section
variable {prog : Program} {w : World} {A : Around} {E : Value → Shared → Prop} {s : Shared}
end
section
variable {prog : Program} {w : World} {A : Around} {E : Value → Shared → Prop} {s : Shared}
end
end PySem
set_option Elab.async false
set_option linter.all false
set_option maxRecDepth 100000
set_option maxHeartbeats 4000000
namespace PySem
open Sem (wp)
open Builtin
structure FjZip (z TI TO i1 i2 : Addr) (fp1 fp2 : List Addr) : Prop where
  TIz : TI ≠ z
  TOz : TO ≠ z
  TITO : TI ≠ TO
  TIi1 : TI ≠ i1
  TIi2 : TI ≠ i2
  i1m : i1 ∈ fp1
  i2m : i2 ∈ fp2
  zf1 : z ∉ fp1
  zf2 : z ∉ fp2
  of1 : TO ∉ fp1
  of2 : TO ∉ fp2
  i1f2 : i1 ∉ fp2
  i2f1 : i2 ∉ fp1
section
variable {prog : Program} {w : World} {A : Around} {E : Value → Shared → Prop} {s : Shared} {z TI TO i1 i2 : Addr} {fp1 fp2 : List Addr} {n1 n2 : Nat} {P1 P2 : Nat → Value → Prop} {S1 S2 : Nat → Heap → Prop}
end
def FjIter (v : Value) (ob : Obj) (h : Heap) : Prop := ∀ (prog : Program) (w : World) (A : Around) (E : Value → Shared → Prop) (s : Shared) (Q : Value → Shared → Prop), s.heap = h → Q (.ref s.heap.objs.size) { s with heap := s.heap.push ob } → wpAny (model prog w) A (pyIter v) Q E s
section
variable {prog : Program} {w : World} {A : Around} {E : Value → Shared → Prop} {s : Shared}
end
end PySem
set_option Elab.async false
set_option linter.all false
set_option maxRecDepth 100000
set_option maxHeartbeats 4000000
namespace L2
open PySem PySem.Spec PyProof.Rows
section
variable {X : Cx} {pins : List (Addr × Obj)} {σ : L2.St} {H : Hp} {s : Shared} {h' : Heap}
end
section
variable {X : Cx} {pins : List (Addr × Obj)} {σ : L2.St} {H : Hp} {s : Shared} {h' : Heap}
end
inductive Sk where
  | L (a : Addr) | T (a : Addr) | S (z : Str) (t : Tok)
def Sk.val : Sk → Value
  | .L a => .ref a
  | .T a => .ref a
  | .S z t => .str z t
def Sk.obj : Sk → Obj
  | .L a => { cls := .type "list_iterator", data := .fields #[.ref a, .int 0 0] }
  | .T a => { cls := .type "tuple_iterator", data := .fields #[.ref a, .int 0 0] }
  | .S z t => { cls := .type (strIterType z), data := .fields #[.str z t, .int 0 0] }
def Sk.st (it : Addr) : Sk → Nat → Heap → Prop
  | .L a, i, h => h.IsListIter it a i
  | .T a, i, h => h.IsTupleIter it a i
  | .S z t, i, h => h.IsStrIter it (strIterType z) z t i
def Sk.seq (K : PySem.W.Frag) (H : Hp) : Sk → List V → Prop
  | .L a, ys => SqL K H a ys
  | .T a, ys => SqT K H a ys
  | .S z _, ys => ys = z.cps.toList.map fun c => V.str ⟨#[c]⟩
section
variable {X : Cx} {pins : List (Addr × Obj)} {σ : L2.St} {H : Hp} {s : Shared}
theorem Sk.inj (I : Inv X pins σ H s) {k : Sk} {ys zs : List V} (h : k.seq X.K H ys) (h' : k.seq X.K H zs) : ys = zs := by
  cases k with
  | L a => exact I.list_inj h h'
  | T a => exact I.tuple_inj h h'
  | S z t => exact h.trans h'.symm
theorem Sk.iter (I : Inv X pins σ H s) {k : Sk} {ys : List V} (hs : k.seq X.K H ys) : FjIter k.val k.obj s.heap := by
  intro prog w A E s' Q e q
  cases k with
  | L a =>
    obtain ⟨its, r, p, hz⟩ := I.list hs
    exact wpAny_pyIter_list (by rw [e]; exact p.isList) q
  | T a =>
    obtain ⟨its, r, p, hz⟩ := I.tuple hs
    exact wpAny_pyIter_tuple (by rw [e]; exact (show s.heap.IsTuple a its.toArray from p)) q
  | S z t => exact wpAny_pyIter_strU q
end
def SkOf (K : PySem.W.Frag) (H : Hp) (x : V) (Rk : Sk → Prop) : Prop := (∃ a, x = .ref a ∧ (∃ ys, SqL K H a ys) ∧ Rk (.L a)) ∨ (∃ a, x = .ref a ∧ (∃ ys, SqT K H a ys) ∧ Rk (.T a)) ∨ (∃ z, x = .str z ∧ ∀ t, Rk (.S z t))
theorem SkOf.get {K : PySem.W.Frag} {H : Hp} {x : V} {u : Value} {Rk : Sk → Prop} (h : SkOf K H x Rk) (r : RelV x u) : ∃ k : Sk, u = k.val ∧ (∃ ys, k.seq K H ys) ∧ Rk k := by
  rcases h with ⟨a, rfl, ⟨ys, h⟩, q⟩ | ⟨a, rfl, ⟨ys, h⟩, q⟩ | ⟨z, rfl, q⟩
  · exact ⟨.L a, r, ⟨ys, h⟩, q⟩
  · exact ⟨.T a, r, ⟨ys, h⟩, q⟩
  · obtain ⟨t, rfl⟩ := r
    exact ⟨.S z t, rfl, ⟨_, rfl⟩, q t⟩
def Sk.it (K : PySem.W.Frag) : Sk → It
  | .L a => Itl K a
  | .T a => Itt K a
  | .S z _ => Its z
section
variable {X : Cx} {tg : Expr}
def iAny (K : PySem.W.Frag) (te : TE) : TI := fun σ H R => te σ H fun x H1 => SkOf K H1 x fun k => R (k.it K) H1
theorem pi_any {e : Expr} {te : TE} (he : PE X e te) : PI X tg e (iAny X.K te) := by
  intro pins s σ H R I h
  refine thn (he pins s σ H _ I h) fun v s1 ⟨x, H1, I1, r1, q1⟩ => ?_
  obtain ⟨k, rfl, ⟨ys, hs⟩, q⟩ := q1.get r1
  refine (Sk.iter I1 hs) _ _ _ _ s1 _ rfl ?_
  have hb : ∀ b ∈ [s1.heap.objs.size], FpOk X pins H1 b := fun b hb => by
    have e : b = s1.heap.objs.size := by simpa using hb
    subst e
    exact I1.fpOk (Nat.le_refl _) (I1.hok.fresh (Nat.le_refl _))
  have I2 : Inv X pins σ H1 { s1 with heap := s1.heap.push k.obj } := I1.kept (t' := s1.toks) fun b o e => Heap.get?_push_of_some _ e
  cases k with
  | L a => exact ⟨s1.heap.objs.size, [s1.heap.objs.size], _, _, H1, rfl, I2, turn_list a _, ⟨_, Heap.get?_push_size _ rfl, rfl, rfl⟩, hb, q⟩
  | T a => exact ⟨s1.heap.objs.size, [s1.heap.objs.size], _, _, H1, rfl, I2, turn_tuple a _, ⟨_, Heap.get?_push_size _ rfl, rfl, rfl⟩, hb, q⟩
  | S z t => exact ⟨s1.heap.objs.size, [s1.heap.objs.size], _, _, H1, rfl, I2, turn_str _ z t, ⟨⟨_, Heap.get?_push_size _ rfl, rfl, rfl⟩, Nat.zero_le _⟩, hb, q⟩
end
end L2
set_option Elab.async false
set_option linter.all false
set_option maxRecDepth 100000
set_option maxHeartbeats 4000000
namespace L3
open PySem PySem.Spec PyProof.Rows L2
def itemsD : D → Option (List D)
  | .lst ds => some ds
  | .tup ds => some ds
  | .scr ns => some (ns.map D.int)
  | .str z => some (z.cps.toList.map fun c => D.str ⟨#[c]⟩)
  | _ => none
def SkV (d : D) (v : V) (k : Sk) : Prop := match d with
  | .lst _ | .scr _ => ∃ a, v = .ref a ∧ k = .L a
  | .tup _ => ∃ a, v = .ref a ∧ k = .T a
  | .str z => v = .str z ∧ ∃ t, k = .S z t
  | _ => False
section
variable {K : PySem.W.Frag} {F α : List Addr} {H : Hp} {M : Ms}
theorem src_seq (o : OK K F α H M) {d : D} {v : V} {items : List D} {k : Sk} (r : Rep K α (hid F α M H) d v) (e : itemsD (vw M d) = some items) (hk : SkV (vw M d) v k) : ∃ ys, k.seq K H ys ∧ Reps K α (hid F α M H) items ys := by
  generalize e1 : vw M d = x at e hk
  cases x <;> first | (exfalso; cases e; done) | skip
  · cases e
    have e2 := vw_str e1
    subst e2
    obtain ⟨rfl, t, rfl⟩ := hk
    exact ⟨_, rfl, Reps.of_map _ _ (fun c => rep_str) _⟩
  · cases e
    obtain ⟨a, rfl, rfl⟩ := hk
    obtain ⟨a', vs, e3, q, z⟩ := rd_tup o r e1
    cases e3
    exact ⟨vs, q, z⟩
  · cases e
    obtain ⟨a, rfl, rfl⟩ := hk
    obtain ⟨a', vs, e3, q, z⟩ := rd_lst o r e1
    cases e3
    exact ⟨vs, SqL.of q, z⟩
  · cases e
    have e2 := vw_scr e1
    subst e2
    obtain ⟨a, rfl, rfl⟩ := hk
    unfold Rep at r
    obtain ⟨a', e3, q⟩ := r
    cases e3
    exact ⟨_, same_seqL hide_same q, Reps.of_map _ _ (fun c => rep_int) _⟩
theorem src_of (o : OK K F α H M) {d : D} {v : V} {items : List D} {Rk : Sk → Prop} (r : Rep K α (hid F α M H) d v) (e : itemsD (vw M d) = some items) (h : ∀ k, SkV (vw M d) v k → Rk k) : SkOf K H v Rk := by
  generalize e1 : vw M d = x at e h
  cases x <;> first | (exfalso; cases e; done) | skip
  · have e2 := vw_str e1
    subst e2
    unfold Rep at r
    subst r
    exact .inr (.inr ⟨_, rfl, fun t => h _ ⟨rfl, t, rfl⟩⟩)
  · obtain ⟨a', vs, rfl, q, z⟩ := rd_tup o r e1
    exact .inr (.inl ⟨a', rfl, ⟨_, q⟩, h _ ⟨a', rfl, rfl⟩⟩)
  · obtain ⟨a', vs, rfl, q, z⟩ := rd_lst o r e1
    exact .inl ⟨a', rfl, ⟨_, SqL.of q⟩, h _ ⟨a', rfl, rfl⟩⟩
  · have e2 := vw_scr e1
    subst e2
    unfold Rep at r
    obtain ⟨a', rfl, q⟩ := r
    exact .inl ⟨a', rfl, ⟨_, same_seqL hide_same q⟩, h _ ⟨a', rfl, rfl⟩⟩
end
section
variable {X : Cx} {tg e a b : Expr} {te : DE} {tt : DA} {p pos tpos : Pos} {elts : List Expr} {n : Nat}
def iAnyD (te : DE) : DI := fun δ M Q => te δ M fun d M1 => ∃ items, itemsD (vw M1 d) = some items ∧ Q items (fun M' => vw M' d = vw M1 d) M1
theorem ji_any (he : JE X e te) : JI X tg e (iAnyD te) := by
  refine ⟨fun δ M P Q w q => he.mono δ _ _ _ (fun d M1 q => ?_) q, PI.weak (pi_any he.p) fun σ H Q q => ?_⟩
  · obtain ⟨items, e, q⟩ := q
    exact ⟨items, e, w _ _ _ q⟩
  · obtain ⟨F, α, δ, M, r, q⟩ := q
    refine ⟨F, α, δ, M, r, he.mono δ _ _ _ (fun d M1 q v α1 H1 e1 o1 r1 => ?_) q⟩
    obtain ⟨items, ei, q⟩ := q
    refine src_of o1 r1 ei fun k hk => q _ α1 H1 e1 o1 ?_
    have key : ∀ F' α' H' M', α1 <+: α' → Same (hid F α1 M1 H1) (hid F' α' M' H') → OK X.K F' α' H' M' → vw M' d = vw M1 d → ∃ ys, k.seq X.K H' ys ∧ Reps X.K α' (hid F' α' M' H') items ys := fun F' α' H' M' hp hs o' hst =>
      src_seq o' (Rep.mono hp hs d v r1) (by rw [hst]; exact ei) (by rw [hst]; exact hk)
    refine ⟨fun i F' α' H' M' hp hs o' hst hi => ?_, fun i F' α' H' M' x H2 d' hp hs o' hst hd hy => ?_, fun F' α' H' M' hp hs o' hst => ?_⟩
    · obtain ⟨ys, h1, h2⟩ := key F' α' H' M' hp hs o' hst
      have hl := Reps.length _ _ h2
      cases k with
      | L a => exact ⟨ys, ys[i], h1, by simp⟩
      | T a => exact ⟨ys, ys[i], h1, by simp⟩
      | S z t =>
        have h1 : ys = z.cps.toList.map fun c => V.str ⟨#[c]⟩ := h1
        show i < z.cps.size
        rw [h1] at hl
        simpa [hl] using hi
    · obtain ⟨ys, h1, h2⟩ := key F' α' H' M' hp hs o' hst
      have fin : ∀ H2, H2 = H' → ys[i]? = some x → OK X.K F' α' H2 M' ∧ Ext F' α' H' M' α' H2 M' ∧ Rep X.K α' (hid F' α' M' H2) d' x := fun H2 e hx => by
        subst e
        obtain ⟨d2, e2, r2⟩ := Reps.get' _ _ i x h2 hx
        rw [hd] at e2; cases e2
        exact ⟨o', Ext.refl, r2⟩
      cases k with
      | L a => exact fin _ hy.1 (hy.2 ys h1)
      | T a => exact fin _ hy.1 (hy.2 ys h1)
      | S z t =>
        obtain ⟨e, c, hc, hx⟩ := hy
        have h1 : ys = z.cps.toList.map fun c => V.str ⟨#[c]⟩ := h1
        refine fin _ e ?_
        rw [h1, List.getElem?_map, Array.getElem?_toList, hc, hx]; rfl
    · obtain ⟨ys, h1, h2⟩ := key F' α' H' M' hp hs o' hst
      have hl := Reps.length _ _ h2
      cases k with
      | L a => exact ⟨ys, h1, by omega⟩
      | T a => exact ⟨ys, h1, by omega⟩
      | S z t =>
        have h1 : ys = z.cps.toList.map fun c => V.str ⟨#[c]⟩ := h1
        show z.cps.size ≤ items.length
        rw [hl, h1]
        simp
theorem reps2 {K : PySem.W.Frag} {α : List Addr} {H : Hp} {d : D} {vs : List V} (h : Reps K α H [d] vs) : ∃ v, vs = [v] ∧ Rep K α H d v := by
  unfold Reps at h
  obtain ⟨v, r, rfl, z, y⟩ := h
  unfold Reps at y
  subst y
  exact ⟨v, rfl, z⟩
theorem reps3 {K : PySem.W.Frag} {α : List Addr} {H : Hp} {d e : D} {vs : List V} (h : Reps K α H [d, e] vs) : ∃ v u, vs = [v, u] ∧ Rep K α H d v ∧ Rep K α H e u := by
  unfold Reps at h
  obtain ⟨v, r, rfl, z, y⟩ := h
  obtain ⟨u, rfl, w⟩ := reps2 y
  exact ⟨v, u, rfl, z, w⟩
def rngD (lo : Int) (n : Nat) : List D := (List.range n).map fun (i : Nat) => D.int (lo + (i : Int))
theorem rng_ok {K : PySem.W.Frag} {F α1 : List Addr} {H1 : Hp} {M1 : Ms} {lo : Int} {n : Nat} : ItOK K F α1 H1 M1 (Itr lo n) (rngD lo n) fun _ => True := by
  refine ⟨fun i F' α' H' M' hp hs o' hst hi => ?_, fun i F' α' H' M' x H2 d' hp hs o' hst hd hy => ?_, fun F' α' H' M' hp hs o' hst => ?_⟩
  · show i < n
    simpa [rngD] using hi
  · obtain ⟨rfl, rfl⟩ := hy
    unfold rngD at hd
    rw [List.getElem?_map] at hd
    cases e : (List.range n)[i]? with
    | none => rw [e] at hd; cases hd
    | some j =>
      rw [e] at hd
      have : j = i := by
        have := List.getElem?_eq_some_iff.mp e
        obtain ⟨h1, h2⟩ := this
        simpa using h2.symm
      subst this
      cases hd
      exact ⟨o', Ext.refl, rep_int⟩
  · show n ≤ (rngD lo n).length
    simp [rngD]
def iRng1D (tt : DA) : DI := fun δ M Q => tt δ M fun ds M1 => match ds with
  | [.int j] => (-(2 ^ 62) ≤ j ∧ j < 2 ^ 62) ∧ Q (rngD 0 j.toNat) (fun _ => True) M1
  | _ => False
theorem ji_range1 (ha : JA X [a] tt) (hm : X.mg "range" = none) (hg : Gl X "range" := by rfl) (hs : starEach [a] X.env = [(false, eval a X.env)] := by rfl) : JI X tg (.Call (.Name "range" p) [a] [] pos) (iRng1D tt) := by
  refine ⟨fun δ M P Q w q => ha.mono δ _ _ _ (fun ds M1 q => ?_) q, PI.weak (pi_range1 hg hm ha.p hs) fun σ H Q q => ?_⟩
  · match ds, q with
    | [.int j], ⟨e, q⟩ => exact ⟨e, w _ _ _ q⟩
  · obtain ⟨F, α, δ, M, r, q⟩ := q
    refine ⟨F, α, δ, M, r, ha.mono δ _ _ _ (fun ds M1 q vs α1 H1 e1 o1 r1 => ?_) q⟩
    match ds, q, r1 with
    | [.int j], ⟨ei, q⟩, r1 =>
      obtain ⟨v, ev, rv⟩ := reps2 r1
      subst ev
      unfold Rep at rv
      subst rv
      exact ⟨j, rfl, ei.1, ei.2, q _ α1 H1 e1 o1 rng_ok⟩
end
end L3
set_option Elab.async false
set_option linter.all false
set_option maxRecDepth 100000
set_option maxHeartbeats 4000000
namespace L3
open PySem PySem.Spec PyProof.Rows L2
mutual
def toP : D → PyData
  | .non => .none
  | .bl b => .bool b
  | .int i => .int i
  | .str x => .str x
  | .tup ds => .tuple (toPs ds)
  | .lst ds => .list (toPs ds)
  | .ty _ | .dct _ _ | .ins _ _ _ | .scr _ | .loc _ | .cls _ => .dict []
def toPs : List D → List PyData
  | [] => []
  | d :: ds => toP d :: toPs ds
end
mutual
def pl : D → Bool
  | .non | .bl _ | .int _ => true
  | .str x => PyData.strOk x
  | .tup ds | .lst ds => pls ds
  | .ty _ | .dct _ _ | .ins _ _ _ | .scr _ | .loc _ | .cls _ => false
def pls : List D → Bool
  | [] => true
  | d :: ds => pl d && pls ds
end
mutual
def dp : D → Nat
  | .tup ds | .lst ds => dps ds + 1
  | .non | .bl _ | .int _ | .str _ | .ty _ | .dct _ _ | .ins _ _ _ | .scr _ | .loc _ | .cls _ => 0
def dps : List D → Nat
  | [] => 0
  | d :: ds => max (dp d) (dps ds)
end
mutual
def eqD : D → D → Bool
  | .non, .non => true
  | .bl a, .bl b => a == b
  | .bl a, .int j => (if a then 1 else 0) == j
  | .int i, .bl b => i == (if b then 1 else 0)
  | .int i, .int j => i == j
  | .str x, .str y => x == y
  | .lst xs, .lst ys => eqDs xs ys
  | .tup xs, .tup ys => eqDs xs ys
  | _, _ => false
def eqDs : List D → List D → Bool
  | [], [] => true
  | x :: xs, y :: ys => eqD x y && eqDs xs ys
  | _, _ => false
end
mutual
theorem toP_lay : ∀ d : D, pl d = true → (toP d).canLay0 = true
  | .non, _ => rfl
  | .bl _, _ => rfl
  | .int _, _ => rfl
  | .str _, h => by unfold toP; unfold pl at h; simpa [PyData.canLay0] using h
  | .tup ds, h => by unfold toP; unfold pl at h; simp [PyData.canLay0, toPs_lay ds h]
  | .lst ds, h => by unfold toP; unfold pl at h; simp [PyData.canLay0, toPs_lay ds h]
  | .ty _, h | .dct _ _, h | .ins _ _ _, h | .scr _, h | .loc _, h | .cls _, h => by unfold pl at h; cases h
theorem toPs_lay : ∀ ds : List D, pls ds = true → PyData.canLayAll0 (toPs ds) = true
  | [], _ => by unfold toPs; rfl
  | d :: ds, h => by
    unfold pls at h
    rw [Bool.and_eq_true] at h
    unfold toPs
    simp [PyData.canLayAll0, toP_lay d h.1, toPs_lay ds h.2]
end
mutual
theorem toP_depth : ∀ d : D, (toP d).depth ≤ dp d + 1
  | .non | .bl _ | .int _ | .str _ => by unfold toP; simp [PyData.depth]
  | .tup ds => by unfold toP dp; have := toPs_depth ds; simp only [PyData.depth]; omega
  | .lst ds => by unfold toP dp; have := toPs_depth ds; simp only [PyData.depth]; omega
  | .ty _ | .dct _ _ | .ins _ _ _ | .scr _ | .loc _ | .cls _ => by unfold toP; simp [PyData.depth, PyData.depthKv]
theorem toPs_depth : ∀ ds : List D, PyData.depthAll (toPs ds) ≤ dps ds + 1
  | [] => by unfold toPs; simp [PyData.depthAll]
  | d :: ds => by
    unfold toPs dps
    have h1 := toP_depth d
    have h2 := toPs_depth ds
    simp only [PyData.depthAll]
    omega
end
mutual
theorem toP_eqv : ∀ x y : D, pl x = true → pl y = true → (toP x).eqv (toP y) = eqD x y
  | .non, y, _, h => by cases y <;> first | (unfold pl at h; cases h; done) | (unfold toP eqD; rfl)
  | .bl a, y, _, h => by cases y <;> first | (unfold pl at h; cases h; done) | (unfold toP eqD; rfl)
  | .int a, y, _, h => by cases y <;> first | (unfold pl at h; cases h; done) | (unfold toP eqD; rfl)
  | .str a, y, _, h => by cases y <;> first | (unfold pl at h; cases h; done) | (unfold toP eqD; rfl)
  | .tup xs, y, g, h => by
    cases y <;> first | (unfold pl at h; cases h; done) | skip
    case tup ys => unfold pl at g h; unfold toP eqD; simp only [PyData.eqv]; exact toPs_eqv xs ys g h
    all_goals unfold toP eqD; rfl
  | .lst xs, y, g, h => by
    cases y <;> first | (unfold pl at h; cases h; done) | skip
    case lst ys => unfold pl at g h; unfold toP eqD; simp only [PyData.eqv]; exact toPs_eqv xs ys g h
    all_goals unfold toP eqD; rfl
  | .ty _, _, g, _ | .dct _ _, _, g, _ | .ins _ _ _, _, g, _ | .scr _, _, g, _ | .loc _, _, g, _ | .cls _, _, g, _ => by unfold pl at g; cases g
theorem toPs_eqv : ∀ x y : List D, pls x = true → pls y = true → PyData.eqvAll (toPs x) (toPs y) = eqDs x y
  | [], [], _, _ => by unfold toPs eqDs; rfl
  | [], y :: ys, _, _ => by unfold toPs eqDs; rfl
  | x :: xs, [], _, _ => by unfold toPs eqDs; rfl
  | x :: xs, y :: ys, g, h => by
    unfold pls at g h
    rw [Bool.and_eq_true] at g h
    unfold toPs eqDs
    simp only [PyData.eqvAll]
    rw [toP_eqv x y g.1 h.1, toPs_eqv xs ys g.2 h.2]
end
mutual
theorem Rep.reads {X : Cx} {pins : List (Addr × Obj)} {σ : L2.St} {H : Hp} {s : Shared} {α : List Addr} (I : Inv X pins σ H s) : ∀ (d : D) (x : V) (v : Value), Rep X.K α H d x → RelV x v → pl d = true → ∃ as, Reads s.heap v (toP d) as
  | .non, x, v, h, r, _ => by unfold Rep at h; subst h; cases r; unfold toP; exact ⟨_, .none⟩
  | .bl _, x, v, h, r, _ => by unfold Rep at h; subst h; cases r; unfold toP; exact ⟨_, .bool _⟩
  | .int _, x, v, h, r, _ => by unfold Rep at h; subst h; obtain ⟨t, rfl⟩ := r; unfold toP; exact ⟨_, .int _ _⟩
  | .str _, x, v, h, r, _ => by unfold Rep at h; subst h; obtain ⟨t, rfl⟩ := r; unfold toP; exact ⟨_, .str _ _⟩
  | .tup ds, x, v, h, r, c => by
    unfold Rep at h
    obtain ⟨a, vs, rfl, q, z⟩ := h
    cases r
    obtain ⟨its, rv, ⟨o, e, cl, n, dd⟩, _⟩ := I.tuple q
    obtain ⟨as, w⟩ := Reps.reads I ds vs its z rv (by unfold pl at c; exact c)
    unfold toP
    exact ⟨_, .tuple e cl dd (by simpa using w)⟩
  | .lst ds, x, v, h, r, c => by
    unfold Rep at h
    obtain ⟨a, vs, rfl, q, z⟩ := h
    cases r
    obtain ⟨_, its, n, rv, e⟩ := I.hok a _ q
    obtain ⟨as, w⟩ := Reps.reads I ds vs its z rv (by unfold pl at c; exact c)
    unfold toP
    exact ⟨_, .list e rfl rfl (by simpa using w)⟩
  | .ty _, x, v, h, r, c | .dct _ _, x, v, h, r, c | .ins _ _ _, x, v, h, r, c | .scr _, x, v, h, r, c | .loc _, x, v, h, r, c | .cls _, x, v, h, r, c => by unfold pl at c; cases c
theorem Reps.reads {X : Cx} {pins : List (Addr × Obj)} {σ : L2.St} {H : Hp} {s : Shared} {α : List Addr} (I : Inv X pins σ H s) : ∀ (ds : List D) (xs : List V) (vs : List Value), Reps X.K α H ds xs → Vals xs vs → pls ds = true → ∃ as, ReadsAll s.heap vs (toPs ds) as
  | [], xs, vs, h, r, _ => by unfold Reps at h; subst h; cases r; unfold toPs; exact ⟨_, .nil⟩
  | d :: ds, xs, vs, h, r, c => by
    unfold Reps at h
    obtain ⟨x, rx, rfl, q, z⟩ := h
    unfold pls at c
    rw [Bool.and_eq_true] at c
    unfold toPs
    cases r with
    | cons r1 r2 =>
      obtain ⟨as, w1⟩ := Rep.reads I d x _ q r1 c.1
      obtain ⟨bs, w2⟩ := Reps.reads I ds rx _ z r2 c.2
      exact ⟨_, .cons w1 w2⟩
end
theorem shaped_of {d : D} (h : pl d = true) (hd : dp d ≤ 60) : SeqAt.shaped (toP d) = true := by
  unfold SeqAt.shaped
  have := toP_depth d
  rw [toP_lay d h, Bool.true_and]
  exact decide_eq_true (by omega)
section
variable {X : Cx}
def okE (x y : D) : Prop := pl x = true ∧ pl y = true ∧ dp x ≤ 60 ∧ dp y ≤ 60
def cmpE (x y : D) (Q : Bool → Prop) : Prop := match x, y with
  | .str a, .str b => Q (a == b)
  | .int a, .int b => Q (a == b)
  | x, y => okE x y ∧ Q (eqD x y)
theorem cmpE_mono {x y : D} {P Q : Bool → Prop} (w : ∀ b, P b → Q b) (h : cmpE x y P) : cmpE x y Q := by
  unfold cmpE at h ⊢
  split <;> simp only at h
  · exact w _ h
  · exact w _ h
  · exact ⟨h.1, w _ h.2⟩
def gEq : G2 := fun x y M Q => cmpE (vw M x) (vw M y) fun b => Q (.bl b) M
theorem eq_core (hu : X.A.units + 64 < cLine) {pins : List (Addr × Obj)} {s : Shared} {σ : L2.St} {H : Hp} {x y : V} {v u : Value} (I : L2.Inv X pins σ H s) (rx : RelV x v) (ry : RelV y u) {F α : List Addr} {M : Ms} {da db : D} (o : OK X.K F α H M)
    (ra : Rep X.K α (hid F α M H) da x) (rb : Rep X.K α (hid F α M H) db y) {C : Bool → Prop} (h : cmpE (vw M da) (vw M db) C) {Q : VK} (neg : Bool) (fin : ∀ b, C b → Q (.bl (if neg then !b else b)) H) :
    wpAny (model X.prog X.w) X.A (compareOp (if neg then .NotEq else .Eq) v u) (EP X pins σ Q) X.xe s := by
  unfold cmpE at h
  split at h
  · rename_i a b e1 e2
    cases vw_str e1; cases vw_str e2
    unfold Rep at ra rb
    subst ra rb
    have e : decide (V.str a = V.str b) = (a == b) := dec_str
    cases neg with
    | false => exact op_eq pins s σ H _ _ v u Q I rx ry ⟨rfl, by rw [e]; exact fin _ h⟩
    | true => exact op_ne pins s σ H _ _ v u Q I rx ry ⟨rfl, by rw [e]; exact fin _ h⟩
  · rename_i a b e1 e2
    cases vw_int e1; cases vw_int e2
    unfold Rep at ra rb
    subst ra rb
    have e : decide (V.int a = V.int b) = (a == b) := dec_int
    cases neg with
    | false => exact op_eq pins s σ H _ _ v u Q I rx ry ⟨rfl, by rw [e]; exact fin _ h⟩
    | true => exact op_ne pins s σ H _ _ v u Q I rx ry ⟨rfl, by rw [e]; exact fin _ h⟩
  · obtain ⟨⟨c1, c2, c3, c4⟩, h⟩ := h
    obtain ⟨as, w1⟩ := Rep.reads I _ x v (Rep.mono (List.prefix_refl _) hide_same _ _ (rep_vw o _ _ ra)) rx c1
    obtain ⟨bs, w2⟩ := Rep.reads I _ y u (Rep.mono (List.prefix_refl _) hide_same _ _ (rep_vw o _ _ rb)) ry c2
    cases neg with
    | false =>
      refine eq_dataH w1 w2 (shaped_of c1 c3) (shaped_of c2 c4) hu ⟨.bl _, H, I, rfl, ?_⟩
      rw [toP_eqv _ _ c1 c2]
      exact fin _ h
    | true =>
      refine ne_dataH w1 w2 (shaped_of c1 c3) (shaped_of c2 c4) hu ⟨.bl _, H, I, rfl, ?_⟩
      rw [toP_eqv _ _ c1 c2]
      exact fin _ h
theorem jc_eq (hu : X.A.units + 64 < cLine) : JC X .Eq gEq := by
  refine ⟨fun x y M P Q w q => cmpE_mono (fun b q => w _ _ q) q, fun pins s σ H x y v u Q I rx ry h => ?_⟩
  obtain ⟨F, α, M, da, db, o, ra, rb, h⟩ := h
  exact eq_core hu I rx ry o ra rb h false fun b q => vK.now o q rep_bl
def fl : D → Bool
  | .non | .bl _ | .int _ | .str _ => true
  | _ => false
def vOf : D → V
  | .bl b => .bl b
  | .int i => .int i
  | .str x => .str x
  | _ => .non
theorem fl_rep {K : PySem.W.Frag} {α : List Addr} {H : Hp} {d : D} {v : V} (h : fl d = true) (r : Rep K α H d v) : v = vOf d ∧ flatV v = true := by
  cases d <;> first | (cases h; done) | skip
  all_goals unfold Rep at r; subst r; exact ⟨rfl, rfl⟩
theorem fl_eq {x y : D} (h : fl x = true) (g : fl y = true) : eqV (vOf x) (vOf y) = eqD x y := by
  cases x <;> first | (cases h; done) | skip
  all_goals cases y <;> first | (cases g; done) | (unfold eqD; rfl)
theorem fl_reps {K : PySem.W.Frag} {α : List Addr} {H : Hp} {x : D} (hx : fl x = true) : ∀ (ds : List D) (vs : List V), ds.all fl = true → Reps K α H ds vs → vs.all flatV = true ∧ inV (vOf x) vs = ds.any fun y => eqD y x
  | [], vs, _, h => by unfold Reps at h; subst h; exact ⟨rfl, rfl⟩
  | d :: ds, vs, g, h => by
    unfold Reps at h
    obtain ⟨v, r, rfl, z, y⟩ := h
    rw [List.all_cons, Bool.and_eq_true] at g
    obtain ⟨i1, i2⟩ := fl_reps hx ds r g.2 y
    obtain ⟨e1, e2⟩ := fl_rep g.1 z
    subst e1
    refine ⟨by rw [List.all_cons, e2, i1]; rfl, ?_⟩
    unfold inV at i2 ⊢
    rw [List.any_cons, List.any_cons, fl_eq g.1 hx, i2]
theorem valD_isSome {K : PySem.W.Frag} {α : List Addr} {H : Hp} {k : Key} {ks : List Key} {ds : List D} {vs : List V} (h : Reps K α H ds vs) (hl : ks.length = ds.length) : (valV (ks.zip vs) k).isSome = (valD k ks ds).isSome := by
  obtain ⟨h1, h2⟩ := valD_rep (k := k) ks ds vs h hl
  cases e : valD k ks ds with
  | none => rw [h2 e]; rfl
  | some d => obtain ⟨v', hv, _⟩ := h1 d e; rw [hv]; rfl
def inD (x y : D) : Option Bool := match y with
  | .lst ds => if (fl x && ds.all fl) = true then some (ds.any fun y => eqD y x) else none
  | .tup ds => if (fl x && ds.all fl) = true then some (ds.any fun y => eqD y x) else none
  | .str j => match x with
    | .str i => some (!(Builtin.Str.occurrences j i 0 j.length 1).isEmpty)
    | _ => none
  | .dct ks ds => match keyD x with
    | some k => some (valD k ks ds).isSome
    | none => none
  | _ => none
def gIn (neg : Bool) : G2 := fun x y M Q => ∃ b, inD x (vw M y) = some b ∧ Q (.bl (if neg then !b else b)) M
theorem gIn_mono {neg : Bool} : mono2 (gIn neg) := fun x y M P Q w ⟨b, e, q⟩ => ⟨b, e, w _ _ q⟩
theorem jc_in (hu : X.A.units + 1 < cLine) : JC X .In (gIn false) := by
  refine ⟨gIn_mono, fun pins s σ H x y v u Q I rx ry h => ?_⟩
  obtain ⟨F, α, M, da, db, o, ra, rb, b, eb, h⟩ := h
  generalize e1 : vw M db = z at eb
  unfold inD at eb
  cases z <;> first | (cases eb; done) | skip
  · have e2 := vw_str e1
    subst e2
    unfold Rep at rb
    subst rb
    cases da <;> first | (cases eb; done) | skip
    unfold Rep at ra
    subst ra
    cases eb
    exact op_in_str pins s σ H _ _ v u Q I rx ry ⟨_, _, rfl, rfl, vK.now o h rep_bl⟩
  · obtain ⟨a, vs, rfl, q, zz⟩ := rd_tup o rb e1
    simp only at eb
    split at eb
    · rename_i hc
      rw [Bool.and_eq_true] at hc
      cases eb
      obtain ⟨f1, f2⟩ := fl_rep hc.1 ra
      obtain ⟨g1, g2⟩ := fl_reps hc.1 _ _ hc.2 zz
      refine op_in_seq pins s σ H _ _ v u Q I rx ry ⟨a, vs, rfl, .inr q, f2, g1, ?_⟩
      subst f1
      rw [g2]
      exact vK.now o h rep_bl
    · cases eb
  · obtain ⟨a, vs, rfl, q, zz⟩ := rd_lst o rb e1
    simp only at eb
    split at eb
    · rename_i hc
      rw [Bool.and_eq_true] at hc
      cases eb
      obtain ⟨f1, f2⟩ := fl_rep hc.1 ra
      obtain ⟨g1, g2⟩ := fl_reps hc.1 _ _ hc.2 zz
      refine op_in_seq pins s σ H _ _ v u Q I rx ry ⟨a, vs, rfl, .inl (SqL.of q), f2, g1, ?_⟩
      subst f1
      rw [g2]
      exact vK.now o h rep_bl
    · cases eb
  · obtain ⟨a, vs, rfl, q, hl, zz⟩ := rd_dct o rb e1
    simp only at eb
    split at eb
    · rename_i k hk
      cases eb
      cases keyD_rep ra hk
      obtain rfl : u = Value.ref a := ry
      refine d_in hu I (DGet.k q) rx fun s' I' => ⟨.bl _, H, I', rfl, ?_⟩
      rw [valD_isSome zz hl]
      exact vK.now o h rep_bl
    · cases eb
end
end L3
set_option Elab.async false
set_option linter.all false
set_option maxRecDepth 100000
set_option maxHeartbeats 4000000
namespace L3
open PySem PySem.Spec PyProof.Rows L2
section
variable {X : Cx} {a b c e : Expr} {es rest : List Expr} {ta tb tc te : DE} {tA : DT} {tt : DA} {pos p p2 p3 : Pos} {x : Str}
abbrev DO := DSt → Ms → (Option Int → Ms → Prop) → Prop
def lO (K : PySem.W.Frag) (t : DO) : TO := fun σ H Q => ∃ F α δ M, R K F α H σ δ M ∧ t δ M fun i M' => ∀ α' H', Ext F α H M α' H' M' → OK K F α' H' M' → Q i H'
structure JOp (X : Cx) (e : Option Expr) (t : DO) : Prop where
  mono : ∀ δ M (P Q : Option Int → Ms → Prop), (∀ d M, P d M → Q d M) → t δ M P → t δ M Q
  p : PO X e (lO X.K t)
theorem PO.weak {e : Option Expr} {t t' : TO} (h : PO X e t) (w : ∀ σ H Q, t' σ H Q → t σ H Q) : PO X e t' := by
  intro pins s σ H Q I q
  exact h pins s σ H Q I (w σ H Q q)
def dNoPart : DO := fun _ M Q => Q none M
def dPart (te : DE) : DO := fun δ M Q => te δ M fun d M1 => match d with | .int i => Q (some i) M1 | _ => False
theorem jop_none : JOp X none dNoPart := ⟨fun δ M P Q w q => w _ _ q, PO.weak po_none fun σ H Q ⟨F, α, δ, M, r, q⟩ => q α H Ext.refl r.ok⟩
theorem jop_some (h : JE X e te) : JOp X (some e) (dPart te) := by
  refine ⟨fun δ M P Q w q => h.mono δ _ _ _ (fun d M1 q => ?_) q, PO.weak (po_some h.p) fun σ H Q q => ?_⟩
  · cases d <;> first | exact q.elim | exact w _ _ q
  · obtain ⟨F, α, δ, M, r, q⟩ := q
    refine ⟨F, α, δ, M, r, h.mono δ _ _ _ (fun d M1 q v α1 H1 e1 o1 r1 => ?_) q⟩
    cases d <;> first | exact q.elim | skip
    unfold Rep at r1
    exact ⟨_, r1, q α1 H1 e1 o1⟩
def dSl (te : DE) (tl th : DO) : DE := fun δ M Q => te δ M fun d M1 => tl δ M1 fun lo M2 => th δ M2 fun hi M3 => match vw M3 d with
  | .lst xs => Q (.lst (cutD xs lo hi)) M3
  | .scr xs => Q (.lst (cutD (xs.map D.int) lo hi)) M3
  | .tup xs => ¬ (HT.sIx xs.length 0 lo = 0 ∧ HT.sIx xs.length xs.length hi = xs.length) ∧ Q (.tup (cutD xs lo hi)) M3
  | .str z => z.length ≤ sizeLine ∧ Q (.str (Txt.slice z lo hi)) M3
  | _ => False
theorem j_sl {lo hi : Option Expr} {tl th : DO} (he : JE X e te) (hl : JOp X lo tl) (hh : JOp X hi th) : JE X (.Subscript e (.Slice lo hi none p2) pos) (dSl te tl th) := by
  refine ⟨fun δ M P Q w q => he.mono δ _ _ _ (fun d M1 q => hl.mono δ _ _ _ (fun i M2 q => hh.mono δ _ _ _ (fun j M3 q => ?_) q) q) q, PE.weak (pe_slice (sl_list.or (sl_tup.or sl_str)) he.p hl.p hh.p) fun σ H Q q => ?_⟩
  · generalize vw M3 d = z at q ⊢
    cases z <;> first | exact q.elim | exact w _ _ q | exact ⟨q.1, w _ _ q.2⟩
  · obtain ⟨F, α, δ, M, r, q⟩ := q
    refine ⟨F, α, δ, M, r, he.mono δ _ _ _ (fun d M1 q v α1 H1 e1 o1 r1 => ⟨F, α1, δ, M1, r.grow e1 o1, hl.mono δ _ _ _ (fun i M2 q α2 H2 e2 o2 => ⟨F, α2, δ, M2, r.grow (e1.trans e2) o2, hh.mono δ _ _ _ (fun j M3 q α3 H3 e3 o3 => ?_) q⟩) q⟩) q⟩
    have e13 := (e1.trans e2).trans e3
    have r3 := (e2.trans e3).rep r1
    have q2 : (match vw M3 d with
      | .lst xs => vK X.K F α3 H3 M3 Q (.lst (cutD xs i j)) M3
      | .scr xs => vK X.K F α3 H3 M3 Q (.lst (cutD (xs.map D.int) i j)) M3
      | .tup xs => ¬ (HT.sIx xs.length 0 i = 0 ∧ HT.sIx xs.length xs.length j = xs.length) ∧ vK X.K F α3 H3 M3 Q (.tup (cutD xs i j)) M3
      | .str z => z.length ≤ sizeLine ∧ vK X.K F α3 H3 M3 Q (.str (Txt.slice z i j)) M3
      | _ => False) := by
      generalize vw M3 d = z at q ⊢
      cases z <;> first | exact q.elim | exact vK.grow e13 _ _ q | exact ⟨q.1, vK.grow e13 _ _ q.2⟩
    clear q
    generalize ez : vw M3 d = z at q2
    cases z <;> first | exact q2.elim | skip
    · cases vw_str ez
      unfold Rep at r3
      exact .inr (.inr ⟨_, r3, q2.1, vK.now o3 q2.2 rep_str⟩)
    · obtain ⟨a, vs, rfl, sq, zz⟩ := rd_tup o3 r3 ez
      have hl := Reps.length _ _ zz
      refine .inr (.inl ⟨a, vs, rfl, sq, by rw [← hl]; exact q2.1, fun p hp => vK.new o3 hp q2.2 (rep_tup_new o3 hp (Reps.cut zz i j))⟩)
    · obtain ⟨a, vs, rfl, sq, zz⟩ := rd_lst o3 r3 ez
      exact .inl ⟨a, vs, rfl, SqL.of sq, fun p hp => vK.new o3 hp q2 (rep_lst_new o3 hp (Reps.cut zz i j))⟩
    · cases vw_scr ez
      unfold Rep at r3
      obtain ⟨a, rfl, sq⟩ := r3
      refine .inl ⟨a, _, rfl, same_seqL hide_same sq, fun p hp => vK.new o3 hp q2 (rep_lst_new o3 hp (Reps.cut (Reps.of_map _ _ (fun c => rep_int) _) i j))⟩
def dNeg (te : DE) : DE := fun δ M Q => te δ M fun d M1 => match d with | .int i => Q (.int (-i)) M1 | _ => False
theorem j_neg (h : JE X e te) : JE X (.UnaryOp .USub e pos) (dNeg te) := by
  refine ⟨fun δ M P Q w q => h.mono δ _ _ _ (fun d M1 q => ?_) q, PE.weak (pe_un un_neg h.p) fun σ H Q q => ?_⟩
  · cases d <;> first | exact q.elim | exact w _ _ q
  · obtain ⟨F, α, δ, M, r, q⟩ := q
    refine ⟨F, α, δ, M, r, h.mono δ _ _ _ (fun d M1 q v α1 H1 e1 o1 r1 => ?_) q⟩
    cases d <;> first | exact q.elim | skip
    unfold Rep at r1
    exact ⟨_, r1, q _ α1 H1 e1 o1 rep_int⟩
def gMul : G2 := fun x y M Q => match vw M x, y with
  | .int i, .int j => CMul i j ∧ Q (.int (i * j)) M
  | .lst xs, .int k => (-(2 ^ 63) ≤ k ∧ k < 2 ^ 63 ∧ xs.length * k.toNat ≤ sizeLine) ∧ Q (.lst (List.replicate k.toNat xs).flatten) M
  | .str z, .int k => MulOk z k ∧ Q (.str (Txt.mul z k)) M
  | _, _ => False
theorem op_mul_str : OpR X (binaryOp .Mult) (fun x y H Q => ∃ z k, x = .str z ∧ y = .int k ∧ MulOk z k ∧ Q (.str (Txt.mul z k)) H) := by
  intro pins s σ H x y v u Q I rx ry h
  obtain ⟨z, k, rfl, rfl, ok, q⟩ := h
  obtain ⟨t, rfl⟩ := rx
  obtain ⟨t', rfl⟩ := ry
  exact SB.mul ok fun t' k => ⟨.str _, H, I.tok _, ⟨_, rfl⟩, q⟩
theorem jo_mul : JO X .Mult gMul := by
  refine ⟨fun x y M P Q w q => ?_, fun pins s σ H x y v u Q I rx ry h => ?_⟩
  · unfold gMul at q ⊢
    generalize vw M x = a at q ⊢
    cases a <;> cases y <;> first | exact q.elim | exact ⟨q.1, w _ _ q.2⟩
  · obtain ⟨F, α, M, da, db, o, ra, rb, h⟩ := h
    unfold gMul at h
    generalize e1 : vw M da = a at h
    cases a <;> cases db <;> first | exact h.elim | skip
    · cases vw_int e1
      unfold Rep at ra rb
      exact op_mul pins s σ H x y v u Q I rx ry ⟨_, _, ra, rb, h.1, vK.now o h.2 rep_int⟩
    · cases vw_str e1
      unfold Rep at ra rb
      exact op_mul_str pins s σ H x y v u Q I rx ry ⟨_, _, ra, rb, h.1, vK.now o h.2 rep_str⟩
    · obtain ⟨a, vs, rfl, qa, za⟩ := rd_lst o ra e1
      unfold Rep at rb
      subst rb
      have l1 := Reps.length _ _ za
      exact op_rep pins s σ H _ _ v u Q I rx ry ⟨a, _, vs, rfl, rfl, qa, h.1.1, h.1.2.1, by rw [← l1]; exact h.1.2.2, fun p hp => vK.new o hp h.2 (rep_lst_new o hp (Reps.rep za _))⟩
def lenD : D → Option Nat
  | .lst ds => some ds.length
  | .tup ds => some ds.length
  | .scr ns => some ns.length
  | .str z => if z.length ≤ sizeLine then some z.length else none
  | .dct ks _ => some ks.length
  | _ => none
def gLen : GN := fun ds M Q => match ds with
  | [d] => ∃ n : Nat, lenD (vw M d) = some n ∧ Q (.int n) M
  | _ => False
theorem jb_len : JB X (.builtin "len") gLen := by
  refine ⟨fun ds M P Q w q => ?_, fun pins s σ H xs us Q I rs h => ?_⟩
  · match ds, q with
    | [d], ⟨n, e, q⟩ => exact ⟨n, e, w _ _ q⟩
  · obtain ⟨F, α, M, ds, o, rr, h⟩ := h
    match ds, h, rr with
    | [d], ⟨n, en, q⟩, rr =>
      obtain ⟨v, ev, rv⟩ := reps2 rr
      subst ev
      generalize e1 : vw M d = z at en
      cases z <;> first | (cases en; done) | skip
      · cases vw_str e1
        unfold Rep at rv
        subst rv
        rename_i y _
        have en : (if y.length ≤ sizeLine then some y.length else none) = some n := en
        by_cases hy : y.length ≤ sizeLine
        · rw [if_pos hy] at en
          cases en
          exact call_len_str pins s σ H _ us Q I rs ⟨_, rfl, hy, vK.now o q rep_int⟩
        · rw [if_neg hy] at en
          cases en
      · cases en
        obtain ⟨a, vs, rfl, sq, zz⟩ := rd_tup o rv e1
        have hl := Reps.length _ _ zz
        refine call_len_seq pins s σ H _ us Q I rs ⟨a, vs, rfl, .inr sq, ?_⟩
        rw [← hl]; exact vK.now o q rep_int
      · cases en
        obtain ⟨a, vs, rfl, sq, zz⟩ := rd_lst o rv e1
        have hl := Reps.length _ _ zz
        refine call_len_seq pins s σ H _ us Q I rs ⟨a, vs, rfl, .inl (SqL.of sq), ?_⟩
        rw [← hl]; exact vK.now o q rep_int
      · cases en
        obtain ⟨a, vs, rfl, sq, hl0, zz⟩ := rd_dct o rv e1
        have hl := Reps.length _ _ zz
        refine call_lenD pins s σ H _ us Q I rs ⟨a, _, rfl, sq, ?_⟩
        rw [List.length_zip, ← hl, hl0, Nat.min_self, ← hl0]
        exact vK.now o q rep_int
      · cases vw_scr e1
        cases en
        unfold Rep at rv
        obtain ⟨a, rfl, sq⟩ := rv
        refine call_len_seq pins s σ H _ us Q I rs ⟨a, _, rfl, .inl (same_seqL hide_same sq), ?_⟩
        rw [List.length_map]; exact vK.now o q rep_int
def kd : D → Option String
  | .non => some "NoneType"
  | .bl _ => some "bool"
  | .int _ => some "int"
  | .str _ => some "str"
  | .tup _ => some "tuple"
  | .lst _ | .scr _ => some "list"
  | .dct _ _ => some "dict"
  | _ => none
def isK (k n : String) : Option Bool := if (["int", "bool", "str", "tuple", "list", "dict"].contains n && ["NoneType", "bool", "int", "str", "tuple", "list", "dict"].contains k) = true then some (k == n || (k == "bool" && n == "int")) else none
def isT (n : String) (d : D) : Option Bool := match kd d with
  | some k => isK k n
  | none => none
theorem isK_kit {K : PySem.W.Frag} {k n : String} {b : Bool} (h : isK k n = some b) : PySem.W.kitOne K (.type k) (.type n) = some b := by
  unfold isK at h
  split at h
  · rename_i hc
    simp only [Bool.and_eq_true, List.contains_iff_mem, List.mem_cons, List.not_mem_nil, or_false] at hc
    obtain ⟨h1, h2⟩ := hc
    rcases h1 with rfl | rfl | rfl | rfl | rfl | rfl <;> rcases h2 with rfl | rfl | rfl | rfl | rfl | rfl | rfl <;> (cases h; rfl)
  · cases h
structure InsOk (K : PySem.W.Frag) (C : Addr) : Prop where
  cl : Cls K C
  ha : PySem.W.findIn K (.ref C) "__class__" = some (some (.builtin "object.__class__"))
  hn : PySem.W.specialIn K (.builtin "object.__class__") "__get__" = some (some (.builtin "getset_descriptor.__get__"))
  htk : PySem.W.takesIn K (.builtin "object.__class__") = some true
  hm : PySem.W.mroIn K C (.type "object") = some true
def tyv : D → Option Value
  | .non => some (.type "NoneType")
  | .bl _ => some (.type "bool")
  | .int _ => some (.type "int")
  | .str _ => some (.type "str")
  | .tup _ => some (.type "tuple")
  | .lst _ | .scr _ => some (.type "list")
  | .dct _ _ => some (.type "dict")
  | .ins C _ _ => some (.ref C)
  | _ => none
theorem isT_kit {K : PySem.W.Frag} {n : String} {d : D} {b : Bool} (h : isT n d = some b) : ∃ t, tyv d = some t ∧ PySem.W.kitOne K t (.type n) = some b ∧ ∀ C ns es, d ≠ .ins C ns es := by
  cases d <;> first | (cases h; done) | exact ⟨_, rfl, isK_kit h, fun _ _ _ z => by cases z⟩
theorem isi_core {pins : List (Addr × Obj)} {s : Shared} {σ : L2.St} {H : Hp} (I : L2.Inv X pins σ H s) {F α : List Addr} {M : Ms} {d : D} {x : V} {u t c : Value} {bb : Bool} {Q : Value → Shared → Prop} (o : OK X.K F α H M) (r : Rep X.K α (hid F α M H) d x) (rx : RelV x u)
    (et : tyv (vw M d) = some t) (hi : ∀ C ns es, vw M d = .ins C ns es → InsOk X.K C) (e : PySem.W.kitOne X.K t c = some bb) (h : ∀ tk, Q (.bool bb) { s with toks := tk }) : wpAny (model X.prog X.w) X.A (call (.builtin "isinstance") [u, c]) Q X.xe s := by
  generalize e1 : vw M d = z at et hi
  cases z <;> first | (cases et; done) | skip
  case non =>
    have : d = .non := by cases d with
      | loc k => rcases vw_loc e1 with e | ⟨y, hk, e⟩ <;> first | cases e | (cases y <;> cases e)
      | _ => exact e1
    subst this
    unfold Rep at r; subst r; cases et
    exact isinst_ok I rx .non e h
  case bl bz =>
    have : d = .bl bz := by cases d with
      | loc k => rcases vw_loc e1 with e | ⟨y, hk, e⟩ <;> first | cases e | (cases y <;> cases e)
      | _ => exact e1
    subst this
    unfold Rep at r; subst r; cases et
    exact isinst_ok I rx (.bl _) e h
  case int =>
    cases vw_int e1
    unfold Rep at r; subst r; cases et
    exact isinst_ok I rx (.int _) e h
  case str =>
    cases vw_str e1
    unfold Rep at r; subst r; cases et
    exact isinst_ok I rx (.str _) e h
  case tup =>
    cases et
    obtain ⟨a, vs, rfl, sq, zz⟩ := rd_tup o r e1
    obtain rfl : u = Value.ref a := rx
    obtain ⟨its, rv, ⟨ob, h1, h2, _⟩, _⟩ := I.tuple sq
    exact PySem.W.kia_one PySem.W.kitx_tuple I.kIn ⟨ob, h1, h2⟩ e (fun z => nomatch z) h
  case lst =>
    cases et
    obtain ⟨a, vs, rfl, sq, zz⟩ := rd_lst o r e1
    exact isinst_ok I rx (.lst sq) e h
  case dct =>
    cases et
    obtain ⟨a, vs, rfl, sq, hl, zz⟩ := rd_dct o r e1
    exact isinst_ok I rx (.dK sq) e h
  case ins =>
    cases et
    obtain ⟨a, dx, vs, rfl, sq, hl, zz⟩ := rd_ins o r e1
    have k := hi _ _ _ rfl
    exact isinst_ok I rx (.ins sq k.cl k.ha k.hn k.htk k.hm) e h
  case scr =>
    cases et
    cases vw_scr e1
    unfold Rep at r
    obtain ⟨a, rfl, sq⟩ := r
    obtain rfl : u = Value.ref a := rx
    obtain ⟨its, rv, ⟨ob, n, h1, h2, _⟩, _⟩ := I.list (same_seqL hide_same sq)
    exact PySem.W.kia_one PySem.W.kitx_list I.kIn ⟨ob, h1, h2⟩ e (fun z => nomatch z) h
def gIsi (K : PySem.W.Frag) : GN := fun ds M Q => match ds with
  | [d, .ty n] => ∃ b, isT n (vw M d) = some b ∧ Q (.bl b) M
  | [d, .cls C] => ∃ t b, tyv (vw M d) = some t ∧ (∀ C ns es, vw M d = .ins C ns es → InsOk K C) ∧ PySem.W.kitOne K t (.ref C) = some b ∧ Q (.bl b) M
  | _ => False
theorem jb_isi : JB X (.builtin "isinstance") (gIsi X.K) := by
  refine ⟨fun ds M P Q w q => ?_, fun pins s σ H xs us Q I rs h => ?_⟩
  · match ds, q with
    | [d, .ty n], ⟨b, e, q⟩ => exact ⟨b, e, w _ _ q⟩
    | [d, .cls n], ⟨t, b, e1, e2, e3, q⟩ => exact ⟨t, b, e1, e2, e3, w _ _ q⟩
  · obtain ⟨F, α, M, ds, o, rr, h⟩ := h
    match ds, h, rr with
    | [d, .ty n], ⟨b, e, q⟩, rr =>
      obtain ⟨v, u, ev, r1, r2⟩ := reps3 rr
      subst ev
      unfold Rep at r2
      subst r2
      obtain ⟨u1, u2, rfl, q1, q2⟩ := vals2 rs
      obtain rfl : u2 = Value.type n := q2
      obtain ⟨t, e1, e2, e3⟩ := isT_kit (K := X.K) e
      exact isi_core I o r1 q1 e1 (fun C ns es z => absurd z (e3 C ns es)) e2 fun tk => ⟨.bl b, H, I.tok tk, rfl, vK.now o q rep_bl⟩
    | [d, .cls C], ⟨t, b, e1, e2, e3, q⟩, rr =>
      obtain ⟨v, u, ev, r1, r2⟩ := reps3 rr
      subst ev
      unfold Rep at r2
      subst r2
      obtain ⟨u1, u2, rfl, q1, q2⟩ := vals2 rs
      obtain rfl : u2 = Value.ref C := q2
      exact isi_core I o r1 q1 e1 e2 e3 fun tk => ⟨.bl b, H, I.tok tk, rfl, vK.now o q rep_bl⟩
def gTuple : GN := fun ds M Q => match ds with
  | [d] => match vw M d with
    | .lst xs => Q (.tup xs) M
    | .tup xs => Q (.tup xs) M
    | _ => False
  | _ => False
theorem jb_tuple : JB X (.type "tuple") gTuple := by
  refine ⟨fun ds M P Q w q => ?_, fun pins s σ H xs us Q I rs h => ?_⟩
  · match ds, q with
    | [d], q =>
      have q : (match vw M d with | .lst xs => P (.tup xs) M | .tup xs => P (.tup xs) M | _ => False) := q
      show (match vw M d with | .lst xs => Q (.tup xs) M | .tup xs => Q (.tup xs) M | _ => False)
      generalize vw M d = z at q ⊢
      cases z <;> first | exact q.elim | exact w _ _ q
  · obtain ⟨F, α, M, ds, o, rr, h⟩ := h
    match ds, h, rr with
    | [d], q, rr =>
      obtain ⟨v, ev, rv⟩ := reps2 rr
      subst ev
      have q : (match vw M d with | .lst xs => vK X.K F α H M Q (.tup xs) M | .tup xs => vK X.K F α H M Q (.tup xs) M | _ => False) := q
      generalize e1 : vw M d = z at q
      cases z <;> first | exact q.elim | skip
      · cases vw_tup e1
        obtain ⟨a, vs, rfl, sq, zz⟩ := rd_tup o rv e1
        exact call_tuple_of pins s σ H _ us Q I rs ⟨a, vs, rfl, .inr ⟨sq, vK.now o q rv⟩⟩
      · obtain ⟨a, vs, rfl, sq, zz⟩ := rd_lst o rv e1
        exact call_tuple_of pins s σ H _ us Q I rs ⟨a, vs, rfl, .inl ⟨SqL.of sq, fun p hp => vK.new o hp q (rep_tup_new o hp zz)⟩⟩
abbrev GF := List D → Ms → (OD → Ms → Prop) → Prop
def rDF (K : PySem.W.Frag) (g : GF) : List V → Hp → VK → Prop := fun xs H Q => ∃ F α M ds, OK K F α H M ∧ Reps K α (hid F α M H) ds xs ∧ g ds M (fK K F α H M Q)
structure JBF (X : Cx) (f : Value) (g : GF) : Prop where
  mono : ∀ xs M (P Q : OD → Ms → Prop), (∀ d M, P d M → Q d M) → g xs M P → g xs M Q
  p : CallR X f (rDF X.K g)
def fCB (g : GF) (tt : DA) : DF := fun δ M Q => tt δ M fun ds M1 => g ds M1 Q
theorem jf_t {T : String} {g : GF} (o : JBF X (.type T) g) (hm : X.mg x = none) (hv : bootBuiltins x = some (.type T)) (ha : JA X (e :: es) tt) (hg : Gl X x := by rfl) (hn : x ≠ "__name__" := by decide) (hdb : (x == ("__debug__" : Str)) = false := by decide)
    (he : starEach (e :: es) X.env = (false, eval e X.env) :: starEach es X.env := by rfl) (hpl : (backTo pos (starEach es X.env)).any (·.1) = false := by rfl) : JF X (.Call (.Name x p) (e :: es) [] pos) (fCB g tt) := by
  refine ⟨fun δ M P Q w q => ha.mono δ _ _ _ (fun ds M1 q => o.mono _ _ _ _ w q) q, PE.weak (pe_callTy o.p hg hm hv ha.p hn hdb he hpl) fun σ H Q q => ?_⟩
  obtain ⟨F, α, δ, M, r, q⟩ := q
  exact ⟨F, α, δ, M, r, ha.mono δ _ _ _ (fun ds M1 q vs α1 H1 e1 o1 r1 => ⟨F, α1, M1, ds, o1, r1, o.mono _ _ _ _ (fK.grow e1) q⟩) q⟩
def gfList : GF := fun ds M Q => match ds with
  | [d] => match vw M d with
    | .lst xs => Q (.lst xs) M
    | .tup xs => Q (.lst xs) M
    | .scr xs => Q (.lst (xs.map D.int)) M
    | _ => False
  | _ => False
theorem jbf_list : JBF X (.type "list") gfList := by
  refine ⟨fun ds M P Q w q => ?_, fun pins s σ H xs us Q I rs h => ?_⟩
  · match ds, q with
    | [d], q =>
      have q : (match vw M d with | .lst xs => P (.lst xs) M | .tup xs => P (.lst xs) M | .scr xs => P (.lst (xs.map D.int)) M | _ => False) := q
      show (match vw M d with | .lst xs => Q (.lst xs) M | .tup xs => Q (.lst xs) M | .scr xs => Q (.lst (xs.map D.int)) M | _ => False)
      generalize vw M d = z at q ⊢
      cases z <;> first | exact q.elim | exact w _ _ q
  · obtain ⟨F, α, M, ds, o, rr, h⟩ := h
    match ds, h, rr with
    | [d], q, rr =>
      obtain ⟨v, ev, rv⟩ := reps2 rr
      subst ev
      have q : (match vw M d with | .lst xs => fK X.K F α H M Q (.lst xs) M | .tup xs => fK X.K F α H M Q (.lst xs) M | .scr xs => fK X.K F α H M Q (.lst (xs.map D.int)) M | _ => False) := q
      generalize e1 : vw M d = z at q
      cases z <;> first | exact q.elim | skip
      · obtain ⟨a, vs, rfl, sq, zz⟩ := rd_tup o rv e1
        exact call_list_of pins s σ H _ us Q I rs ⟨a, vs, rfl, .inr sq, fun p hp => q p _ α H Ext.refl o hp ⟨vs, rfl, zz⟩⟩
      · obtain ⟨a, vs, rfl, sq, zz⟩ := rd_lst o rv e1
        exact call_list_of pins s σ H _ us Q I rs ⟨a, vs, rfl, .inl (SqL.of sq), fun p hp => q p _ α H Ext.refl o hp ⟨vs, rfl, zz⟩⟩
      · cases vw_scr e1
        unfold Rep at rv
        obtain ⟨a, rfl, sq⟩ := rv
        exact call_list_of pins s σ H _ us Q I rs ⟨a, _, rfl, .inl (same_seqL hide_same sq), fun p hp => q p _ α H Ext.refl o hp ⟨_, rfl, Reps.of_map _ _ (fun c => rep_int) _⟩⟩
end
end L3
set_option Elab.async false
set_option linter.all false
set_option maxRecDepth 100000
set_option maxHeartbeats 4000000
namespace L3
open PySem PySem.Spec PyProof.Rows L2
structure FldOk (K : PySem.W.Frag) (C : Addr) (f : Str) : Prop where
  cl : Cls K C
  na : NoAttr K C f
section
variable {X : Cx} {a b c e o value : Expr} {es rest : List Expr} {ta tb tc te to tv : DE} {tA : DT} {tt : DA} {pos pos' p p2 p3 apos cpos : Pos} {x f m : Str}
structure MethOk (P : Program) (w : World) (K : PySem.W.Frag) (mg : Str → Option Value) (base : Heap) (k : Nat) (C : Addr) (m : Str) (g : GN) : Prop where
  mono : monoN g
  cl : Cls K C
  ok : ∃ f fd ps, Meth K C m f ∧ Binds K fd ps [] ∧ FnOk P w K mg base CX0 k f fd ps (lSp K g)
structure MakeOk (P : Program) (w : World) (K : PySem.W.Frag) (mg : Str → Option Value) (base : Heap) (k : Nat) (C : Addr) (g : GN) : Prop where
  mono : monoN g
  ok : ∃ f fd ps, Mk K C f ∧ Binds K fd ps [] ∧ FnOk P w K mg base CX0 k f fd ps (lSp K g)
theorem lv_snoc {α : List Addr} {M : Ms} {p : Addr} {o : OD} (h : α.length = M.length) : lv (α ++ [p]) (M ++ [some o]) = lv α M ++ [p] := by rw [lv_append h]; rfl
end
mutual
def lb (n : Nat) : D → Prop
  | .loc k => k < n
  | .tup ds | .lst ds | .dct _ ds | .ins _ _ ds => lbs n ds
  | .non | .bl _ | .int _ | .str _ | .ty _ | .scr _ | .cls _ => True
def lbs (n : Nat) : List D → Prop
  | [] => True
  | d :: ds => lb n d ∧ lbs n ds
end
mutual
theorem Rep.lb {K : PySem.W.Frag} {α : List Addr} {H : Hp} : ∀ (d : D) (v : V), Rep K α H d v → L3.lb α.length d
  | .non, v, _ | .bl _, v, _ | .int _, v, _ | .str _, v, _ | .ty _, v, _ | .scr _, v, _ | .cls _, v, _ => by unfold L3.lb; trivial
  | .loc k, v, h => by
    unfold Rep at h; unfold L3.lb
    obtain ⟨a, e, _⟩ := h
    exact (List.getElem?_eq_some_iff.mp e).1
  | .tup ds, v, h => by
    unfold Rep at h; unfold L3.lb
    obtain ⟨a, vs, r, q, z⟩ := h
    exact Reps.lb ds vs z
  | .lst ds, v, h => by
    unfold Rep at h; unfold L3.lb
    obtain ⟨a, vs, r, q, z⟩ := h
    exact Reps.lb ds vs z
  | .dct ks ds, v, h => by
    unfold Rep at h; unfold L3.lb
    obtain ⟨a, vs, r, q, l, z⟩ := h
    exact Reps.lb ds vs z
  | .ins C ns ds, v, h => by
    unfold Rep at h; unfold L3.lb
    obtain ⟨a, dx, vs, r, q, l, z⟩ := h
    exact Reps.lb ds vs z
theorem Reps.lb {K : PySem.W.Frag} {α : List Addr} {H : Hp} : ∀ (d : List D) (v : List V), Reps K α H d v → L3.lbs α.length d
  | [], v, h => by unfold L3.lbs; trivial
  | d :: ds, v, h => by
    unfold Reps at h; unfold L3.lbs
    obtain ⟨u, r, q, z, y⟩ := h
    exact ⟨Rep.lb d u z, Reps.lb ds r y⟩
end
mutual
theorem Rep.shrink {K : PySem.W.Frag} {α β : List Addr} {H : Hp} (p : α <+: β) : ∀ (d : D) (v : V), L3.lb α.length d → Rep K β H d v → Rep K α H d v
  | .non, v, _, h | .bl _, v, _, h | .int _, v, _, h | .str _, v, _, h | .ty _, v, _, h | .scr _, v, _, h | .cls _, v, _, h => by unfold Rep at h ⊢; exact h
  | .loc k, v, n, h => by
    unfold Rep at h ⊢; unfold L3.lb at n
    obtain ⟨a, e, r⟩ := h
    obtain ⟨t, rfl⟩ := p
    rw [List.getElem?_append_left n] at e
    exact ⟨a, e, r⟩
  | .tup ds, v, n, h => by
    unfold Rep at h ⊢; unfold L3.lb at n
    obtain ⟨a, vs, r, q, z⟩ := h
    exact ⟨a, vs, r, q, Reps.shrink p ds vs n z⟩
  | .lst ds, v, n, h => by
    unfold Rep at h ⊢; unfold L3.lb at n
    obtain ⟨a, vs, r, q, z⟩ := h
    exact ⟨a, vs, r, q, Reps.shrink p ds vs n z⟩
  | .dct ks ds, v, n, h => by
    unfold Rep at h ⊢; unfold L3.lb at n
    obtain ⟨a, vs, r, q, l, z⟩ := h
    exact ⟨a, vs, r, q, l, Reps.shrink p ds vs n z⟩
  | .ins C ns ds, v, n, h => by
    unfold Rep at h ⊢; unfold L3.lb at n
    obtain ⟨a, dx, vs, r, q, l, z⟩ := h
    exact ⟨a, dx, vs, r, q, l, Reps.shrink p ds vs n z⟩
theorem Reps.shrink {K : PySem.W.Frag} {α β : List Addr} {H : Hp} (p : α <+: β) : ∀ (d : List D) (v : List V), L3.lbs α.length d → Reps K β H d v → Reps K α H d v
  | [], v, _, h => by unfold Reps at h ⊢; exact h
  | d :: ds, v, n, h => by
    unfold Reps at h ⊢; unfold L3.lbs at n
    obtain ⟨u, r, q, z, y⟩ := h
    exact ⟨u, r, q, Rep.shrink p d u n.1 z, Reps.shrink p ds r n.2 y⟩
end
theorem RepM.lbs {K : PySem.W.Frag} {α : List Addr} {Hh H : Hp} {o : OD} {a : Addr} (h : RepM K α Hh H o a) : match o with | .lst ds => L3.lbs α.length ds | .dct _ ds => L3.lbs α.length ds | .ins _ _ ds => L3.lbs α.length ds := by
  cases o with
  | lst ds => obtain ⟨vs, _, r⟩ := h; exact Reps.lb _ _ r
  | dct ks ds => obtain ⟨vs, _, _, r⟩ := h; exact Reps.lb _ _ r
  | ins C ns ds => obtain ⟨dx, vs, _, _, r⟩ := h; exact Reps.lb _ _ r
theorem OK.thaw {K : PySem.W.Frag} {F α0 α : List Addr} {H0 H : Hp} {M N : Ms} (h0 : OK K F α0 H0 M) (h : OK K F α H (M ++ N)) (pre : α0 <+: α) : OK K F α0 H M ∧ Same (hid F α (M ++ N) H) (hid F α0 M H) := by
  obtain ⟨β, rfl⟩ := pre
  have hl0 := h0.ml
  have hlv : lv (α0 ++ β) (M ++ N) = lv α0 M ++ lv β N := lv_append hl0
  have sm : Same (hid F (α0 ++ β) (M ++ N) H) (hid F α0 M H) := fun b y e => by
    obtain ⟨z, q⟩ := hide_some e
    rw [hlv] at z
    show hide _ H b = _
    rw [hide_out fun w => z ?_]
    · exact q
    · simp only [List.mem_append] at w ⊢
      rcases w with w | w
      · exact .inl (.inl w)
      · exact .inr w
  refine ⟨⟨hl0, h0.nd, fun a ha => ⟨(h0.fr a ha).1, (h.fr a ha).2⟩, fun a ha => h.al a (List.mem_append_left _ ha), fun k y hk => ?_⟩, sm⟩
  have hk' : k < M.length := (List.getElem?_eq_some_iff.mp hk).1
  obtain ⟨a, ea, ra⟩ := h.own k y (by rw [List.getElem?_append_left hk']; exact hk)
  rw [List.getElem?_append_left (by omega)] at ea
  obtain ⟨a0, ea0, ra0⟩ := h0.own k y hk
  rw [ea] at ea0; cases ea0
  have hb := ra0.lbs
  refine ⟨a, ea, ?_⟩
  cases y with
  | lst ds =>
    obtain ⟨vs, q, r⟩ := ra
    exact ⟨vs, q, Reps.shrink (List.prefix_append _ _) _ _ hb (Reps.mono (List.prefix_refl _) sm _ _ r)⟩
  | dct ks ds =>
    obtain ⟨vs, q, l, r⟩ := ra
    exact ⟨vs, q, l, Reps.shrink (List.prefix_append _ _) _ _ hb (Reps.mono (List.prefix_refl _) sm _ _ r)⟩
  | ins C ns ds =>
    obtain ⟨dx, vs, q, l, r⟩ := ra
    exact ⟨dx, vs, q, l, Reps.shrink (List.prefix_append _ _) _ _ hb (Reps.mono (List.prefix_refl _) sm _ _ r)⟩
section
variable {X : Cx} {a b c e o value : Expr} {es rest : List Expr} {ta tb tc te to tv : DE} {tA : DT} {tt : DA} {pos pos' p p2 p3 apos cpos : Pos} {x f m : Str}
end
end L3
set_option Elab.async false
set_option linter.all false
set_option maxRecDepth 100000
set_option maxHeartbeats 4000000
namespace L3
open PySem PySem.Spec PyProof.Rows L2
section
variable {P : Program} {w : World} {K : PySem.W.Frag} {mg : Str → Option Value} {base : Heap}
theorem funC {x qual : Str} {st : Stmt} {f : Addr} {fd : FuncData} {N ps : List Str} {k : Nat} {body : List Stmt} {scope : Scope} {tb : DS} (F : Fun K x qual st f fd) (eb : defBody st = body) (es : defScope st = scope) (S : FnScope N ps scope)
    (hJ : ∀ (cdv : Value) (A : Around) (outer : List Env) (s : Shared) (H : Hp) (E : XK), Room k (A.deeper (envOfC qual scope s.heap.objs.size f cdv)) → JB' (cxOf CX0 P w K mg base N qual scope f cdv A outer s H E).nox body tb) :
    FnOk P w K mg base CX0 (k + 1) f fd ps (lSp K (cl (fnC N.length ps.length tb))) := by
  subst eb es
  exact F.ok S (fun vs H Q E ⟨F, α, M, ds, o, r, hn, hl, q⟩ => by rw [← Reps.length _ _ r]; exact hl) fun cdv A outer s H vs Q E hr h => let ⟨t, q, z⟩ := body_C (ps := ps) (hJ cdv A outer s H E hr) rfl h; ⟨t, q.p, z⟩
end
abbrev GM := D → List D → Ms → DK → Prop
def rDm (K : PySem.W.Frag) (g : GM) : V → List V → Hp → VK → Prop := fun x xs H Q => ∃ F α M d ds, OK K F α H M ∧ Rep K α (hid F α M H) d x ∧ Reps K α (hid F α M H) ds xs ∧ g d ds M (vK K F α H M Q)
structure JM (X : Cx) (id : String) (g : GM) : Prop where
  mono : ∀ d ds M (P Q : DK), (∀ d M, P d M → Q d M) → g d ds M P → g d ds M Q
  p : MtR X id (rDm X.K g)
def tyD (T : String) (d : D) : Bool := match d with
  | .lst _ | .scr _ => T == "list"
  | .str _ => T == "str"
  | .int _ => T == "int"
  | .dct _ _ => T == "dict"
  | _ => false
section
variable {X : Cx} {a b c e o value : Expr} {es rest : List Expr} {ta tb tc te to tv : DE} {tA : DT} {tt : DA} {pos pos' p p2 p3 apos cpos : Pos} {x f m name : Str} {T id : String} {g : GM}
theorem tyD_is {F α : List Addr} {H : Hp} {M : Ms} {d : D} {v : V} (ok : OK X.K F α H M) (r : Rep X.K α (hid F α M H) d v) (h : tyD T (vw M d) = true) : tyV X.K T v H := by
  generalize e1 : vw M d = z at h
  cases z <;> first | (cases h; done) | skip
  · cases vw_int e1
    unfold Rep at r; subst r
    exact beq_iff_eq.mp h
  · cases vw_str e1
    unfold Rep at r; subst r
    exact beq_iff_eq.mp h
  · obtain ⟨a, vs, rfl, sq, _⟩ := rd_lst ok r e1
    exact .inl ⟨beq_iff_eq.mp h, vs, SqL.of sq⟩
  · obtain ⟨a, vs, rfl, sq, _⟩ := rd_dct ok r e1
    exact .inr (.inr (.inl ⟨beq_iff_eq.mp h, .inl ⟨_, sq⟩⟩))
  · cases vw_scr e1
    unfold Rep at r
    obtain ⟨a, rfl, sq⟩ := r
    exact .inl ⟨beq_iff_eq.mp h, _, same_seqL hide_same sq⟩
def dBM (T : String) (g : GM) (to : DE) (tt : DA) : DE := fun δ M Q => to δ M fun d M1 => tyD T (vw M1 d) = true ∧ tt δ M1 fun ds M2 => g d ds M2 Q
theorem j_bm (jm : JM X id g) (pa : PlainAttrs T) (slot : Slot T name id) (hty : typeOf (.builtin id) = pure (.type "method_descriptor")) (ho : JE X o to) (ha : JA X (e :: es) tt)
    (hbase : attributeBase o name X.env (eval o X.env) = eval o X.env := by rfl)
    (hfew : ((backTo cpos (starEach (e :: es) X.env)).all (fun x => !x.1) && (backToKw cpos (keywordEach [] X.env)).all (fun x => x.1.isSome)
      && decide ((e :: es).length + ([] : List Keyword).length + (if ([] : List Keyword).isEmpty then 0 else 1) < 30)) = true := by rfl)
    (hline : (apos.endLine == cpos.line) = true := by rfl) (hs : starEach (e :: es) X.env = (false, eval e X.env) :: starEach es X.env := by rfl) (hplain : (backTo cpos (starEach es X.env)).any (·.1) = false := by rfl) :
    JE X (.Call (.Attribute o name apos) (e :: es) [] cpos) (dBM T g to tt) := by
  refine ⟨fun δ M P Q w q => ho.mono δ _ _ _ (fun d M1 q => ⟨q.1, ha.mono δ _ _ _ (fun ds M2 q => jm.mono _ _ _ _ _ w q) q.2⟩) q, PE.weak (pe_bm pa slot hty jm.p ho.p ha.p hbase hfew hline hs hplain) fun σ H Q q => ?_⟩
  obtain ⟨F, α, δ, M, r, q⟩ := q
  refine ⟨F, α, δ, M, r, ho.mono δ _ _ _ (fun d M1 q v α1 H1 e1 o1 r1 => ⟨tyD_is o1 r1 q.1, F, α1, δ, M1, r.grow e1 o1, ha.mono δ _ _ _ (fun ds M2 q vs α2 H2 e2 o2 r2 => ?_) q.2⟩) q⟩
  exact ⟨F, α2, M2, d, ds, o2, e2.rep r1, r2, jm.mono _ _ _ _ _ (vK.grow (e1.trans e2)) q⟩
theorem own_lst {F α : List Addr} {H : Hp} {M : Ms} {k : Nat} {ds : List D} {v : V} (ok : OK X.K F α H M) (r : Rep X.K α (hid F α M H) (.loc k) v) (h : M[k]? = some (some (.lst ds))) :
    ∃ a vs, v = .ref a ∧ H a = some (.lst vs) ∧ Reps X.K α (hid F α M H) ds vs ∧ ∀ es ws, Reps X.K α (hid F α M H) es ws → OK X.K F α (upd H a (.lst ws)) (M.set k (some (.lst es))) ∧ Ext F α H M α (upd H a (.lst ws)) (M.set k (some (.lst es))) := by
  unfold Rep at r
  obtain ⟨a, ea, rfl⟩ := r
  obtain ⟨a', ea', vs, hq, rr⟩ := ok.own k _ h
  rw [ea] at ea'; cases ea'
  exact ⟨a, vs, rfl, hq, rr, fun es ws rw' => ok.write (y := .lst es) (z := .lst ws) h ea fun Hh eh => by subst eh; exact ⟨ws, upd_same, rw'⟩⟩
def gmAppend : GM := fun d ds M Q => match d, ds with
  | .loc k, [x] => ∃ es, M[k]? = some (some (.lst es)) ∧ es.length < sizeLine ∧ Q .non (M.set k (some (.lst (es ++ [x]))))
  | _, _ => False
theorem jm_append : JM X "list.append" gmAppend := by
  refine ⟨fun d ds M P Q w q => ?_, fun pins s σ H x xs v us Q I rx rs h => ?_⟩
  · match d, ds, q with
    | .loc k, [x], ⟨es, h1, h2, q⟩ => exact ⟨es, h1, h2, w _ _ q⟩
  · obtain ⟨F, α, M, d, ds, ok, r, rr, h⟩ := h
    match d, ds, h, r, rr with
    | .loc k, [y], ⟨es, h1, h2, q⟩, r, rr =>
      obtain ⟨a, vs, rfl, hH, r1, wr⟩ := own_lst ok r h1
      obtain ⟨u, eu, ru⟩ := reps2 rr
      subst eu
      obtain ⟨o2, e2⟩ := wr (es ++ [y]) (vs ++ [u]) (Reps.append _ _ _ _ r1 (Reps.one ru))
      exact mt_append pins s σ H _ _ v us Q I rx rs ⟨a, vs, u, rfl, rfl, hH, by rw [← Reps.length _ _ r1]; exact h2, q _ α _ e2 o2 rep_non⟩
def dgSub (to ti : DE) : DG := fun v δ M Q => to δ M fun o M1 => ti δ M1 fun i M2 => match o with
  | .loc k => match M2[k]?, i with
    | some (some (.lst ds)), .int j => ∃ n, ixN ds.length j = some n ∧ Q δ (M2.set k (some (.lst (ds.set n v))))
    | _, _ => False
  | _ => False
theorem jg_sub (ho : JE X o to) (hi : JE X e te)
    (ha : ∀ v, assign (.Subscript o e pos) X.env v = (do
      let ov ← holding [v] (eval o X.env)
      let iv ← holding [v, ov] (eval e X.env)
      standAt pos
      holding [v, ov, iv] (setItem ov iv v)
      release [v, ov, iv] []) := by intro _; rfl) : JG X (.Subscript o e pos) (dgSub to te) := by
  refine ⟨fun d δ M P Q w q => ho.mono δ _ _ _ (fun od M1 q => hi.mono δ _ _ _ (fun i M2 q => ?_) q) q, PG.weak (pg_sub ho.p hi.p set_list ha) fun v σ H Q q => ?_⟩
  · cases od <;> first | exact q.elim | skip
    rename_i k
    simp only at q ⊢
    split at q
    · obtain ⟨n, h1, q⟩ := q
      exact ⟨n, h1, w _ _ q⟩
    · exact q.elim
  · obtain ⟨F, α, δ, M, d, r, rd, q⟩ := q
    refine ⟨F, α, δ, M, r, ho.mono δ _ _ _ (fun od M1 q u α1 H1 e1 o1 r1 => ⟨F, α1, δ, M1, r.grow e1 o1, hi.mono δ _ _ _ (fun i M2 q w α2 H2 e2 o2 r2 => ?_) q⟩) q⟩
    cases od <;> first | exact q.elim | skip
    rename_i k
    simp only at q
    split at q
    · rename_i ds j hk
      obtain ⟨n, h1, q⟩ := q
      unfold Rep at r2
      subst r2
      obtain ⟨a, vs, rfl, hH, rr, wr⟩ := own_lst o2 (e2.rep r1) hk
      have rd2 := (e1.trans e2).rep rd
      obtain ⟨o3, e3⟩ := wr (ds.set n d) (vs.set n v) (Reps.set rd2 n _ _ rr)
      exact ⟨a, vs, j, n, rfl, rfl, hH, by rw [← Reps.length _ _ rr]; exact h1, q σ α2 _ ((e1.trans e2).trans e3) (r.grow ((e1.trans e2).trans e3) o3)⟩
    · exact q.elim
end
end L3
set_option Elab.async false
set_option linter.all false
set_option maxRecDepth 100000
set_option maxHeartbeats 4000000
namespace L3
open PySem PySem.Spec PyProof.Rows L2 PyProof.Rows.KTD
def conK (K : PySem.W.Frag) (d : D) (u : Value) : Prop := ∃ v, RelV v u ∧ ∀ α H, Rep K α H d v
structure TabK (K : PySem.W.Frag) (a : Addr) (rows : List (Str × D)) : Prop where
  lo : (a == sysModules) = false
  ex : ∃ o es ep, K.lookup a = some o ∧ o.ExactDict ∧ o.data = .dict es ep ∧ Rows (conK K) es.toList rows
section
variable {prog : Program} {w : World} {A : Around} {E : Value → Shared → Prop} {s : Shared} {K : PySem.W.Frag} {a : Addr} {rows : List (Str × D)} {k : Str} {tk : Tok}
theorem TabK.get {Q : Option Value → Shared → Prop} (T : TabK K a rows) (hK : K.In s.heap) (h1 : ∀ d v, datumAt k rows = some d → conK K d v → Q (some v) { s with toks := s.toks + 1 }) (h2 : datumAt k rows = none → Q none { s with toks := s.toks + 1 }) :
    wpAny (model prog w) A (dictGet a (.str k tk)) Q E s := by
  obtain ⟨o, es, ep, ho, hc, hd, hr⟩ := T.ex
  have ho := hK _ _ ho
  unfold dictGet
  try with_reducible refine wpAny_holding ?_
  refine wpAny_bind (wpAny_pyHash_str (wpAny_bind (kt_dictFind_strs (s := { s with toks := s.toks + 1 }) ho hd (by obtain ⟨l⟩ := es; simpa using hr.exact) ?_)))
  have hq : Q (findBy (fun k v => v.isStr k) es k) { s with toks := s.toks + 1 } := by
    have hf : findBy (fun k v => v.isStr k) es k = (es.toList.find? fun e => e.key.isStr k).map (·.val) := by
      obtain ⟨l⟩ := es
      simp [findBy]
    rw [hf]
    cases hat : datumAt k rows with
    | some d => obtain ⟨v, hv, hfl⟩ := hr.find_some hat; rw [hv]; exact h1 d v hat hfl
    | none => rw [hr.find_none hat]; exact h2 hat
  rw [findBy_of_findIdx?] at hq
  cases hi : es.findIdx? fun e => e.key.isStr k with
  | none => rw [hi] at hq; exact wpAny_pure hq
  | some i => rw [hi] at hq; exact wpAny_bind (wpAny_dictEntries (s := { s with toks := s.toks + 1 }) ho hd (wpAny_pure hq))
end
section
variable {X : Cx} {a : Addr} {rows : List (Str × D)}
end
end L3
set_option Elab.async false
set_option linter.all false
set_option maxRecDepth 100000
set_option maxHeartbeats 4000000
namespace L3
open PySem PySem.Spec PyProof.Rows L2
section
variable {P : Program} {w : World} {K : PySem.W.Frag} {mg : Str → Option Value} {base : Heap}
theorem hasCw {x : Str} {st : Stmt} {N ps : List Str} {k : Nat} {body : List Stmt} {scope : Scope} {tb : DS} (F : DefAt K mg x st) (eb : defBody st = body) (es : defScope st = scope) (S : FnScope N ps scope)
    (hb : ∀ (kV doc pm : Value) (an : Option Addr) (cdv ct : Value) (us : List Value), us.length = ps.length → bindArgs (PySem.W.fnOf x x (defArgs st) (defBody st) (defScope st) .none kV doc pm an cdv ct) ⟨us, []⟩ = pure (ps.zip us))
    (hJ : ∀ (f : Addr) (cdv : Value) (A : Around) (outer : List Env) (s : Shared) (H : Hp) (E : XK), Room k (A.deeper (envOfC x scope s.heap.objs.size f cdv)) → JB' (cxOf CX0 P w K mg base N x scope f cdv A outer s H E).nox body tb) :
    Has P w K mg base (k + 1) x ps (lSp K (cl (fnC N.length ps.length tb))) :=
  F.hasQ eb es S hb (fun vs H Q E ⟨F, α, M, ds, o, r, hn, hl, q⟩ => by rw [← Reps.length _ _ r]; exact hl) fun f cdv A outer s H vs Q E hr h => body_C (ps := ps) (hJ f cdv A outer s H E hr) rfl h
theorem hasGw {x : Str} {st : Stmt} {N ps : List Str} {k : Nat} {body : List Stmt} {scope : Scope} {tb : DS} (F : DefAt K mg x st) (eb : defBody st = body) (es : defScope st = scope) (S : FnScope N ps scope)
    (hb : ∀ (kV doc pm : Value) (an : Option Addr) (cdv ct : Value) (us : List Value), us.length = ps.length → bindArgs (PySem.W.fnOf x x (defArgs st) (defBody st) (defScope st) .none kV doc pm an cdv ct) ⟨us, []⟩ = pure (ps.zip us))
    (hJ : ∀ (f : Addr) (cdv : Value) (A : Around) (outer : List Env) (s : Shared) (H : Hp) (E : XK), Room k (A.deeper (envOfC x scope s.heap.objs.size f cdv)) → JB' (cxOf CX0 P w K mg base N x scope f cdv A outer s H E).nox body tb) :
    Has P w K mg base (k + 1) x ps (lSp K (fnG N.length ps.length tb)) :=
  F.hasQ eb es S hb (fun vs H Q E ⟨F, α, M, ds, o, r, hl, q⟩ => by rw [← Reps.length _ _ r]; exact hl) fun f cdv A outer s H vs Q E hr h => body_G (ps := ps) (hJ f cdv A outer s H E hr) rfl h
theorem hasP {k : Nat} {x : Str} {ps : List Str} {g g' : GP} (h : Has P w K mg base k x ps (lSp K (cl g))) (m : monoP g') (i : ∀ ds Q, g' ds Q → g ds Q) : HasD P w K mg base k x ps (cl g') :=
  ⟨cl_mono m, let ⟨f, fd, m1, kp, b, F⟩ := h; ⟨f, fd, m1, kp, b, F.imp fun vs H Q E ⟨F, α, M, ds, o, r, n, q⟩ => ⟨F, α, M, ds, o, r, n, i _ _ q⟩⟩⟩
theorem hasM {k : Nat} {x : Str} {ps : List Str} {g g' : GN} (h : Has P w K mg base k x ps (lSp K g)) (m : monoN g') (i : ∀ ds M Q, g' ds M Q → g ds M Q) : HasD P w K mg base k x ps g' :=
  ⟨m, let ⟨f, fd, m1, kp, b, F⟩ := h; ⟨f, fd, m1, kp, b, F.imp fun vs H Q E ⟨F, α, M, ds, o, r, q⟩ => ⟨F, α, M, ds, o, r, i _ _ _ q⟩⟩⟩
end
theorem compD_map {fr : List (Option Nat)} {g : DG} {tt : DT} {te : DE} {st : Ms → Prop} {Q : List D → Ms → Prop} {δ : DSt} {M : Ms} (f : D → D) (hst : st M) : ∀ (xs acc : List D), acc.length + xs.length ≤ sizeLine →
    (∀ x ∈ xs, ∀ Kk : Option D → DSt → Ms → Prop, (∀ δ1, rst fr δ1 = δ → Kk (some (f x)) δ1 M) → stepD g tt te x δ M Kk) → Q (acc ++ xs.map f) M → compD fr g tt te st Q xs acc δ M
  | [], acc, _, _, q => by rw [List.map_nil, List.append_nil] at q; exact q
  | x :: xs, acc, hl, h, q => by
    unfold compD
    refine h x List.mem_cons_self _ fun δ1 e1 => ⟨hst, by simp at hl; omega, ?_⟩
    rw [e1]
    refine compD_map f hst xs (acc ++ [f x]) (by simp at hl ⊢; omega) (fun y hy => h y (List.mem_cons_of_mem _ hy)) ?_
    rw [List.append_assoc]
    exact q
end L3
set_option Elab.async false
set_option linter.all false
set_option maxRecDepth 100000
set_option maxHeartbeats 4000000
namespace L3
open PySem PySem.Spec PyProof.Rows L2
mutual
def dv (M : Ms) : D → D
  | .non => .non | .bl b => .bl b | .int i => .int i | .str x => .str x | .ty n => .ty n | .scr ns => .scr ns | .cls C => .cls C
  | .loc k => vw M (.loc k)
  | .tup ds => .tup (dvs M ds) | .lst ds => .lst (dvs M ds) | .dct ks ds => .dct ks (dvs M ds) | .ins C ns ds => .ins C ns (dvs M ds)
def dvs (M : Ms) : List D → List D
  | [] => []
  | d :: ds => dv M d :: dvs M ds
end
theorem dvs_map (M : Ms) : ∀ ds : List D, dvs M ds = ds.map (dv M)
  | [] => rfl
  | d :: ds => by unfold dvs; rw [dvs_map M ds]; rfl
mutual
theorem dv_nl (M : Ms) : ∀ d : D, nl d = true → dv M d = d
  | .non, _ => rfl | .bl _, _ => rfl | .int _, _ => rfl | .str _, _ => rfl | .ty _, _ => rfl | .scr _, _ => rfl | .cls _, _ => rfl
  | .loc _, h => by unfold nl at h; cases h
  | .tup ds, h => by unfold dv; unfold nl at h; rw [dvs_nl M ds h]
  | .lst ds, h => by unfold dv; unfold nl at h; rw [dvs_nl M ds h]
  | .dct ks ds, h => by unfold dv; unfold nl at h; rw [dvs_nl M ds h]
  | .ins C ns ds, h => by unfold dv; unfold nl at h; rw [dvs_nl M ds h]
theorem dvs_nl (M : Ms) : ∀ ds : List D, nls ds = true → dvs M ds = ds
  | [], _ => rfl
  | d :: ds, h => by unfold dvs; unfold nls at h; rw [Bool.and_eq_true] at h; rw [dv_nl M d h.1, dvs_nl M ds h.2]
end
theorem dvs_length (M : Ms) (ds : List D) : (dvs M ds).length = ds.length := by rw [dvs_map, List.length_map]
section
variable {K : PySem.W.Frag} {F α : List Addr} {H : Hp} {M : Ms}
mutual
theorem rep_dv (o : OK K F α H M) : ∀ (d : D) (v : V), Rep K α (hid F α M H) d v → Rep K α H (dv M d) v
  | .non, v, h => by unfold dv; unfold Rep at h ⊢; exact h
  | .bl _, v, h => by unfold dv; unfold Rep at h ⊢; exact h
  | .int _, v, h => by unfold dv; unfold Rep at h ⊢; exact h
  | .str _, v, h => by unfold dv; unfold Rep at h ⊢; exact h
  | .ty _, v, h => by unfold dv; unfold Rep at h ⊢; exact h
  | .cls _, v, h => by unfold dv; unfold Rep at h ⊢; exact h
  | .scr ns, v, h => by
    unfold dv; unfold Rep at h ⊢
    obtain ⟨a, r, q⟩ := h
    exact ⟨a, r, same_seqL hide_same q⟩
  | .loc k, v, h => by unfold dv; exact Rep.mono (List.prefix_refl _) hide_same _ _ (rep_vw o _ _ h)
  | .tup ds, v, h => by
    unfold dv; unfold Rep at h ⊢
    obtain ⟨a, vs, r, q, z⟩ := h
    exact ⟨a, vs, r, same_seqT hide_same q, reps_dv o ds vs z⟩
  | .lst ds, v, h => by
    unfold dv; unfold Rep at h ⊢
    obtain ⟨a, vs, r, q, z⟩ := h
    exact ⟨a, vs, r, hide_same _ _ q, reps_dv o ds vs z⟩
  | .dct ks ds, v, h => by
    unfold dv; unfold Rep at h ⊢
    obtain ⟨a, vs, r, q, l, z⟩ := h
    exact ⟨a, vs, r, hide_same _ _ q, by rw [dvs_length]; exact l, reps_dv o ds vs z⟩
  | .ins C ns ds, v, h => by
    unfold dv; unfold Rep at h ⊢
    obtain ⟨a, dx, vs, r, q, l, z⟩ := h
    exact ⟨a, dx, vs, r, hide_same _ _ q, by rw [dvs_length]; exact l, reps_dv o ds vs z⟩
theorem reps_dv (o : OK K F α H M) : ∀ (ds : List D) (vs : List V), Reps K α (hid F α M H) ds vs → Reps K α H (dvs M ds) vs
  | [], vs, h => by unfold dvs; unfold Reps at h ⊢; exact h
  | d :: ds, vs, h => by
    unfold dvs; unfold Reps at h ⊢
    obtain ⟨v, r, q, z, y⟩ := h
    exact ⟨v, r, q, rep_dv o d v z, reps_dv o ds r y⟩
end
end
section
variable {X : Cx}
def gEqD : G2 := fun x y M Q => okE (dv M x) (dv M y) ∧ Q (.bl (eqD (dv M x) (dv M y))) M
def gNeD : G2 := fun x y M Q => okE (dv M x) (dv M y) ∧ Q (.bl (!eqD (dv M x) (dv M y))) M
theorem jc_eqD (hu : X.A.units + 64 < cLine) : JC X .Eq gEqD := by
  refine ⟨fun x y M P Q w q => ⟨q.1, w _ _ q.2⟩, fun pins s σ H x y v u Q I rx ry h => ?_⟩
  obtain ⟨F, α, M, da, db, o, ra, rb, ⟨c1, c2, c3, c4⟩, h⟩ := h
  obtain ⟨as, w1⟩ := Rep.reads I _ x v (rep_dv o _ _ ra) rx c1
  obtain ⟨bs, w2⟩ := Rep.reads I _ y u (rep_dv o _ _ rb) ry c2
  refine eq_dataH w1 w2 (shaped_of c1 c3) (shaped_of c2 c4) hu ⟨.bl _, H, I, rfl, ?_⟩
  rw [toP_eqv _ _ c1 c2]
  exact vK.now o h rep_bl
theorem jc_neD (hu : X.A.units + 64 < cLine) : JC X .NotEq gNeD := by
  refine ⟨fun x y M P Q w q => ⟨q.1, w _ _ q.2⟩, fun pins s σ H x y v u Q I rx ry h => ?_⟩
  obtain ⟨F, α, M, da, db, o, ra, rb, ⟨c1, c2, c3, c4⟩, h⟩ := h
  obtain ⟨as, w1⟩ := Rep.reads I _ x v (rep_dv o _ _ ra) rx c1
  obtain ⟨bs, w2⟩ := Rep.reads I _ y u (rep_dv o _ _ rb) ry c2
  refine ne_dataH w1 w2 (shaped_of c1 c3) (shaped_of c2 c4) hu ⟨.bl _, H, I, rfl, ?_⟩
  rw [toP_eqv _ _ c1 c2]
  exact vK.now o h rep_bl
end
def sc : D → Bool
  | .non | .bl _ | .int _ | .str _ | .ty _ => true
  | _ => false
theorem ok_nil {K : PySem.W.Frag} {H : Hp} : OK K [] [] H [] := ⟨rfl, List.nodup_nil, fun _ h => by simp at h, fun _ h => by simp at h, fun k o h => by simp at h⟩
theorem hide_nil {H : Hp} : hide [] H = H := by funext b; unfold hide; simp
section
variable {P : Program} {w : World} {K : PySem.W.Frag} {mg : Str → Option Value} {base : Heap}
end
end L3
set_option Elab.async false
set_option linter.all false
set_option maxRecDepth 100000
set_option maxHeartbeats 4000000
namespace L3
open PySem PySem.Spec PyProof.Rows L2
theorem putK_fresh {kvs : List (Key × V)} {k : Key} {v : V} (h : k ∉ kvs.map (·.1)) : putK kvs k v = kvs ++ [(k, v)] := by
  unfold putK
  rw [if_neg]
  intro z
  obtain ⟨p, hp, e⟩ := List.any_eq_true.mp z
  exact h (List.mem_map.mpr ⟨p, hp, of_decide_eq_true e⟩)
theorem mergeK_app : ∀ (more kvs : List (Key × V)), ((kvs ++ more).map (·.1)).Nodup → mergeK kvs more = kvs ++ more
  | [], kvs, _ => by rw [List.append_nil]; rfl
  | p :: r, kvs, h => by
    have hp : p.1 ∉ kvs.map (·.1) := fun z => by
      rw [List.map_append, List.nodup_append] at h
      exact h.2.2 p.1 z p.1 (by simp) rfl
    show mergeK (putK kvs p.1 p.2) r = _
    rw [putK_fresh hp, mergeK_app r (kvs ++ [(p.1, p.2)]) (by rw [List.append_assoc]; exact h), List.append_assoc]
    rfl
def dPairs : List (DE × DE) → DSt → Ms → (List (D × D) → Ms → Prop) → Prop
  | [], _, M, Q => Q [] M
  | (tk, tv) :: r, δ, M, Q => tk δ M fun k M1 => tv δ M1 fun v M2 => dPairs r δ M2 fun ps M3 => Q ((k, v) :: ps) M3
abbrev pK (K : PySem.W.Frag) (F α : List Addr) (H : Hp) (M : Ms) (Q : List (V × V) → Hp → Prop) : List (D × D) → Ms → Prop := fun ps M' => ∀ vs α' H', Ext F α H M α' H' M' → OK K F α' H' M' → Reps K α' (hid F α' M' H') (ps.map (·.1)) (vs.map (·.1)) → Reps K α' (hid F α' M' H') (ps.map (·.2)) (vs.map (·.2)) → Q vs H'
structure JP (X : Cx) (pos : Pos) (keys : List (Option Expr)) (values : List Expr) (ts : List (DE × DE)) : Prop where
  mono : ∀ δ M (P Q : List (D × D) → Ms → Prop), (∀ ps M, P ps M → Q ps M) → dPairs ts δ M P → dPairs ts δ M Q
  p : ∃ trs, PPs X pos keys values trs ∧ ∀ F α δ M σ H Q, R X.K F α H σ δ M → dPairs ts δ M (pK X.K F α H M Q) → tPairs trs σ H Q
section
variable {X : Cx} {pos : Pos} {k v : Expr} {keys : List (Option Expr)} {values : List Expr} {tk tv : DE} {ts : List (DE × DE)}
theorem jp_nil : JP X pos [] [] [] := ⟨fun δ M P Q w q => w _ _ q, [], pps_nil, fun F α δ M σ H Q r q => q [] α H Ext.refl r.ok Reps.nil Reps.nil⟩
theorem jp_cons (hk : JE X k tk) (hv : JE X v tv) (hr : JP X pos keys values ts) : JP X pos (some k :: keys) (v :: values) ((tk, tv) :: ts) := by
  obtain ⟨trs, p1, p2⟩ := hr.p
  refine ⟨fun δ M P Q w q => hk.mono δ _ _ _ (fun _ M1 q => hv.mono δ _ _ _ (fun _ M2 q => hr.mono δ _ _ _ (fun ps M3 q => w _ _ q) q) q) q, _, pps_cons hk.p hv.p p1, fun F α δ M σ H Q r q => ?_⟩
  refine ⟨F, α, δ, M, r, hk.mono δ _ _ _ (fun dk M1 q x α1 H1 e1 o1 rx => ⟨F, α1, δ, M1, r.grow e1 o1, hv.mono δ _ _ _ (fun dv M2 q y α2 H2 e2 o2 ry => ?_) q⟩) q⟩
  refine p2 F α2 δ M2 σ H2 _ (r.grow (e1.trans e2) o2) (hr.mono δ _ _ _ (fun ps M3 q vs α3 H3 e3 o3 r1 r2 => ?_) q)
  exact q ((x, y) :: vs) α3 H3 ((e1.trans e2).trans e3) o3 (Reps.cons (e3.rep (e2.rep rx)) r1) (Reps.cons (e3.rep ry) r2)
def keysD : List (D × D) → Option (List Key)
  | [] => some []
  | (k, _) :: r => match keyD k, keysD r with
    | some k, some ks => some (k :: ks)
    | _, _ => none
def fDisp (ts : List (DE × DE)) : DF := fun δ M Q => dPairs ts δ (M ++ [some (.dct [] [])]) fun ps M1 => M1 = M ++ [some (.dct [] [])] ∧ ∃ ks, keysD ps = some ks ∧ decide (ks.Nodup ∧ ks.length ≤ 15) = true ∧ nls (ps.map (·.2)) = true ∧ Q (.dct ks (ps.map (·.2))) M
theorem keysD_rep {K : PySem.W.Frag} {α : List Addr} {H : Hp} : ∀ (ps : List (D × D)) (vs : List (V × V)) (ks : List Key), keysD ps = some ks → Reps K α H (ps.map (·.1)) (vs.map (·.1)) → vs = (ks.zip (vs.map (·.2))).map (fun kv => (kV kv.1, kv.2)) ∧ ks.length = vs.length
  | [], vs, ks, h, r => by
    cases h
    cases vs with
    | nil => exact ⟨rfl, rfl⟩
    | cons p vs => have := Reps.length _ _ r; simp at this
  | (k, d) :: ps, vs, ks, h, r => by
    cases vs with
    | nil => have := Reps.length _ _ r; simp at this
    | cons p vs =>
      unfold keysD at h
      rw [List.map_cons, List.map_cons] at r
      unfold Reps at r
      obtain ⟨x, xs, e, r1, r2⟩ := r
      obtain ⟨rfl, rfl⟩ := List.cons.inj e
      cases ek : keyD k with
      | none => rw [ek] at h; cases h
      | some kk =>
        cases er : keysD ps with
        | none => rw [ek, er] at h; cases h
        | some kr =>
          rw [ek, er] at h
          cases h
          obtain ⟨i1, i2⟩ := keysD_rep ps vs kr er r2
          have := keyD_rep r1 ek
          obtain ⟨p1, p2⟩ := p
          subst this
          refine ⟨?_, by simp [i2]⟩
          rw [List.map_cons, List.zip_cons_cons, List.map_cons, ← i1]
theorem jf_disp (h : JP X pos keys values ts) (hall : keys.all (·.isSome) = true) (hl : keys.length = values.length) (h0 : keys ≠ []) (h15 : keys.length ≤ 15) : JF X (.Dict keys values pos) (fDisp ts) := by
  obtain ⟨trs, p1, p2⟩ := h.p
  refine ⟨fun δ M P Q w q => h.mono δ _ _ _ (fun ps M1 ⟨q1, ks, q2, q3, q4, q⟩ => ⟨q1, ks, q2, q3, q4, w _ _ q⟩) q, PE.weak (pe_disp p1 hall hl h0 h15) fun σ H Q q => ?_⟩
  obtain ⟨F, α, δ, M, r, q⟩ := q
  unfold fDisp at q
  intro p hp
  obtain ⟨o2, e2⟩ := r.ok.enter (x := .dct [] []) hp (same_upd (o := .dK []) hp) ⟨[], upd_same, rfl, Reps.nil⟩
  refine p2 F (α ++ [p]) δ (M ++ [some (.dct [] [])]) σ _ _ (r.grow e2 o2) (h.mono δ _ _ _ (fun ps M1 q vs α3 H3 e3 o3 rk rv => ?_) q)
  obtain ⟨rfl, ks, q2, q3, q4, q⟩ := q
  obtain ⟨ev, lk⟩ := keysD_rep ps vs ks q2 rk
  have pre : α <+: α3 := (List.prefix_append _ _).trans e3.pre
  have hloc : (α ++ [p])[M.length]? = some p := by rw [← r.ok.ml]; simp
  obtain ⟨a, ea, ws, hq, _, rr⟩ := o3.own M.length (.dct [] []) (by simp)
  rw [pre_get e3.pre hloc] at ea; cases ea
  obtain ⟨o4, sm⟩ := OK.thaw r.ok o3 pre
  have hpF : p ∉ F := fun z => (r.ok.fr p z).2 hp
  have hpa : p ∉ α := fun z => r.ok.al p z hp
  have hpl : p ∉ lv α M := fun z => r.ok.live p z hp
  let H4 : Hp := fun b => if b = p then none else H3 b
  have h4p : H4 p = none := if_pos rfl
  have h4n : ∀ b, b ≠ p → H4 b = H3 b := fun b hb => if_neg hb
  have eu : ∀ ho, upd H4 p ho = upd H3 p ho := fun ho => by
    funext b
    by_cases hb : b = p
    · subst hb; rw [upd_same, upd_same]
    · rw [upd_ne hb, upd_ne hb, h4n b hb]
  have hl3 : α3 = α ++ [p] := by
    obtain ⟨β, hβ⟩ := e3.pre
    have := o3.ml
    rw [← hβ] at this
    simp [r.ok.ml] at this
    rw [← hβ, this]; simp
  have eh : hid F α M H4 = hid F α3 (M ++ [some (.dct [] [])]) H3 := by
    funext b
    show hide _ H4 b = hide _ H3 b
    rw [hl3, lv_snoc r.ok.ml]
    by_cases hb : b = p
    · subst hb
      rw [hide_in (A := lv α M ++ [b] ++ F) (by simp), hide_out fun z => (List.mem_append.mp z).elim hpl hpF]
      exact h4p
    · by_cases hm : b ∈ lv α M ++ F
      · rw [hide_in hm, hide_in (by simp only [List.mem_append] at hm ⊢; rcases hm with hm | hm; exact .inl (.inl hm); exact .inr hm)]
      · rw [hide_out hm, hide_out (by simp only [List.mem_append, List.mem_singleton] at hm ⊢; intro z; rcases z with (z | z) | z; exact hm (.inl z); exact hb z; exact hm (.inr z)), h4n b hb]
  have o5 : OK X.K F α H4 M := by
    refine ⟨o4.ml, o4.nd, fun a ha => ⟨(o4.fr a ha).1, by rw [h4n a (fun z => hpF (z ▸ ha))]; exact (o4.fr a ha).2⟩, fun a ha => by rw [h4n a (fun z => hpa (z ▸ ha))]; exact o4.al a ha, fun k o hk => ?_⟩
    obtain ⟨a, ea, ra⟩ := o3.own k o (by rw [List.getElem?_append_left (List.getElem?_eq_some_iff.mp hk).1]; exact hk)
    obtain ⟨a0, ea0, ra0⟩ := r.ok.own k o hk
    have : a = a0 := by rw [pre_get pre ea0] at ea; exact (Option.some.inj ea).symm
    subst this
    refine ⟨a, ea0, ?_⟩
    have hb := ra0.lbs
    have hap : a ≠ p := fun z => hpa (z ▸ List.mem_of_getElem? ea0)
    rw [eh]
    cases o with
    | lst ds => obtain ⟨us, q, rr⟩ := ra; exact ⟨us, by rw [h4n a hap]; exact q, Reps.shrink pre _ _ hb rr⟩
    | dct kk ds => obtain ⟨us, q, l, rr⟩ := ra; exact ⟨us, by rw [h4n a hap]; exact q, l, Reps.shrink pre _ _ hb rr⟩
    | ins C ns ds => obtain ⟨dx, us, q, l, rr⟩ := ra; exact ⟨dx, us, by rw [h4n a hap]; exact q, l, Reps.shrink pre _ _ hb rr⟩
  have e5 : Ext F α H M α H4 M := ⟨List.prefix_refl _, by rw [eh]; exact (e2.trans e3).same, fun a ha => by rw [h4n a (fun z => hpF (z ▸ ha))]; exact (e2.trans e3).fr a ha⟩
  have ez : ws = [] := by unfold Reps at rr; exact rr
  subst ez
  have nd : ks.Nodup := (of_decide_eq_true q3).1
  have lz : (vs.map (·.2)).length = ks.length := by rw [List.length_map, lk]
  have em : mergeK [] (ks.zip (vs.map (·.2))) = ks.zip (vs.map (·.2)) := by
    have := mergeK_app (ks.zip (vs.map (·.2))) [] (by rw [List.nil_append, List.map_fst_zip (by omega)]; exact nd)
    rw [this, List.nil_append]
  refine ⟨hq, ks.zip (vs.map (·.2)), ev, ?_, ?_⟩
  · rw [List.length_zip, lz, Nat.min_self]
    exact (of_decide_eq_true q3).2
  · rw [em, ← eu]
    refine q p _ α H4 e5 o5 h4p ⟨vs.map (·.2), rfl, ?_, ?_⟩
    · rw [lk]; have := Reps.length _ _ rv; simpa using this.symm
    · rw [eh]; exact Reps.nl _ _ q4 rv
end
end L3
namespace L3
open PySem PySem.Spec PyProof.Rows L2
section
variable {X : Cx}
end
end L3
set_option Elab.async false
set_option linter.all false
set_option maxRecDepth 100000
set_option maxHeartbeats 4000000
namespace L3
open PySem PySem.Spec PyProof.Rows L2
section
variable {X : Cx} {x : Str} {pos : Pos} {a b : Expr} {ta tb : DE}
theorem j_globK {d : D} (h : ∃ u, X.mg x = some u ∧ conK X.K d u) (hg : Gl X x := by rfl) (hd : (x == ("__debug__" : Str)) = false := by decide) : JE X (.Name x pos) (dC d) := by
  obtain ⟨u, hm, v, r, rr⟩ := h
  exact j_glob hm r rr hg hd
def gIsB : G2 := fun x y M Q => match x, y with
  | .non, .bl _ => Q (.bl false) M
  | .bl c, .bl b => Q (.bl (c == b)) M
  | _, _ => False
theorem jc_isB : JC X .Is gIsB := by
  refine ⟨fun x y M P Q w q => ?_, fun pins s σ H x y v u Q I rx ry h => ?_⟩
  · cases x <;> cases y <;> first | exact q.elim | exact w _ _ q
  · obtain ⟨F, α, M, da, db, o, ra, rb, h⟩ := h
    cases da <;> cases db <;> first | exact h.elim | skip
    · unfold Rep at ra rb
      subst ra rb
      cases rx; cases ry
      exact wpAny_pure ⟨.bl false, H, I, rfl, vK.now o h rep_bl⟩
    · unfold Rep at ra rb
      subst ra rb
      cases rx; cases ry
      exact is_bool ⟨.bl _, H, I, rfl, vK.now o h rep_bl⟩
def CDivL (_ j : Int) : Prop := 0 < j ∧ j < 18446744073709551616
theorem op_fdivL : OpR X (binaryOp .FloorDiv) (rI CDivL fun i j => .int (i / j)) := opI fun i j _ _ _ _ _ hc q => by
  have h1 : (0 : Int) < j := hc.1
  have h2 : j < 18446744073709551616 := hc.2
  refine floordiv_int (by omega) (by rw [Int.fdiv_eq_ediv_of_nonneg i (by omega)]; exact q) (.inl (PyProof.noPylong_of_log2 ?_))
  have hj : j.natAbs < 2 ^ 64 := by omega
  have := (Nat.log2_lt (by omega : j.natAbs ≠ 0)).mpr hj
  omega
theorem jo_fdivL : JO X .FloorDiv (gI CDivL fun i j => .int (i / j)) := ⟨gI_mono, fun pins s σ H x y v u Q I rx ry h => by
  obtain ⟨F, α, M, da, db, o, ra, rb, h⟩ := h
  cases da <;> cases db <;> first | exact h.elim | skip
  unfold Rep at ra rb
  exact op_fdivL pins s σ H x y v u Q I rx ry ⟨_, _, ra, rb, h.1, vK.now o h.2 rep_int⟩⟩
def gDivmod : GN := fun ds M Q => match ds with
  | [.int i, .int j] => CDiv i j ∧ Q (.tup [.int (i / j), .int (i % j)]) M
  | _ => False
theorem jb_divmod : JB X (.builtin "divmod") gDivmod := by
  refine ⟨fun ds M P Q w q => ?_, fun pins s σ H xs us Q I rs h => ?_⟩
  · match ds, q with
    | [.int i, .int j], q => exact ⟨q.1, w _ _ q.2⟩
  · obtain ⟨F, α, M, ds, o, rr, h⟩ := h
    match ds, h, rr with
    | [.int i, .int j], q, rr =>
      obtain ⟨v, u, ev, r1, r2⟩ := reps3 rr
      subst ev
      unfold Rep at r1 r2
      subst r1 r2
      exact call_divmod pins s σ H _ us Q I rs ⟨i, j, rfl, q.1, fun p hp => vK.new o hp q.2 (rep_tup_new o hp (Reps.cons rep_int (Reps.one rep_int)))⟩
def gmExtend : GM := fun d ds M Q => match d, ds with
  | .loc k, [y] => ∃ es xs, M[k]? = some (some (.lst es)) ∧ vw M y = .lst xs ∧ es.length + xs.length ≤ sizeLine ∧ Q .non (M.set k (some (.lst (es ++ xs))))
  | _, _ => False
theorem jm_extend : JM X "list.extend" gmExtend := by
  refine ⟨fun d ds M P Q w q => ?_, fun pins s σ H x xs v us Q I rx rs h => ?_⟩
  · match d, ds, q with
    | .loc k, [x], ⟨es, xs, h1, h2, h3, q⟩ => exact ⟨es, xs, h1, h2, h3, w _ _ q⟩
  · obtain ⟨F, α, M, d, ds, ok, r, rr, h⟩ := h
    match d, ds, h, r, rr with
    | .loc k, [y], ⟨es, xs, h1, h2, h3, q⟩, r, rr =>
      obtain ⟨a, vs, rfl, hH, r1, wr⟩ := own_lst ok r h1
      obtain ⟨u, eu, ru⟩ := reps2 rr
      subst eu
      obtain ⟨b, ws, rfl, hB, r2⟩ := rd_lst ok ru h2
      obtain ⟨o2, e2⟩ := wr (es ++ xs) (vs ++ ws) (Reps.append _ _ _ _ r1 r2)
      exact mt_extend pins s σ H _ _ v us Q I rx rs ⟨a, b, vs, ws, rfl, rfl, hH, hB, by rw [← Reps.length _ _ r1, ← Reps.length _ _ r2]; exact h3, q _ α _ e2 o2 rep_non⟩
def gfPlus (x y : D) (M : Ms) (Q : OD → Ms → Prop) : Prop := match vw M x, vw M y with
  | .lst xs, .lst ys => xs.length + ys.length ≤ sizeLine ∧ Q (.lst (xs ++ ys)) M
  | _, _ => False
theorem gfPlus_mono {x y : D} {M : Ms} {P Q : OD → Ms → Prop} (w : ∀ o M, P o M → Q o M) (q : gfPlus x y M P) : gfPlus x y M Q := by
  unfold gfPlus at q ⊢
  generalize vw M x = a at q ⊢
  generalize vw M y = b at q ⊢
  cases a <;> cases b <;> first | exact q.elim | exact ⟨q.1, w _ _ q.2⟩
def fPlus (ta tb : DE) : DF := fun δ M Q => ta δ M fun x M1 => tb δ M1 fun y M2 => gfPlus x y M2 Q
theorem jf_plus (ha : JE X a ta) (hb : JE X b tb) : JF X (.BinOp a .Add b pos) (fPlus ta tb) := by
  refine ⟨fun δ M P Q w q => ha.mono δ _ _ _ (fun x M1 q => hb.mono δ _ _ _ (fun y M2 q => gfPlus_mono w q) q) q, PE.weak (pe_op op_cat ha.p hb.p) fun σ H Q q => ?_⟩
  obtain ⟨F, α, δ, M, r, q⟩ := q
  refine ⟨F, α, δ, M, r, ha.mono δ _ _ _ (fun da M1 q v α1 H1 e1 o1 r1 => ⟨F, α1, δ, M1, r.grow e1 o1, hb.mono δ _ _ _ (fun db M2 q u α2 H2 e2 o2 r2 => ?_) q⟩) q⟩
  unfold gfPlus at q
  generalize h1 : vw M2 da = x at q
  generalize h2 : vw M2 db = y at q
  cases x <;> cases y <;> first | exact q.elim | skip
  obtain ⟨a1, vs, rfl, qa, za⟩ := rd_lst o2 (e2.rep r1) h1
  obtain ⟨b1, us, rfl, qb, zb⟩ := rd_lst o2 r2 h2
  have l1 := Reps.length _ _ za
  have l2 := Reps.length _ _ zb
  exact ⟨a1, b1, vs, us, rfl, rfl, qa, qb, by rw [← l1, ← l2]; exact q.1, fun p hp => q.2 p _ α2 H2 (e1.trans e2) o2 hp ⟨vs ++ us, rfl, Reps.append _ _ _ _ za zb⟩⟩
end
end L3
set_option Elab.async false
set_option linter.all false
set_option maxRecDepth 100000
set_option maxHeartbeats 4000000
namespace L3
open PySem PySem.Spec PyProof.Rows L2
def Itrs (lo c : Int) (n : Nat) : It := ⟨fun i _ => i < n, fun i H x H' => H' = H ∧ x = .int (lo + i * c), fun i _ => n ≤ i⟩
theorem turn_ranges {P : Program} {w : World} {K : PySem.W.Frag} {tg : Expr} (it : Addr) (lo c : Int) (n : Nat) : Turn P w K tg (Itrs lo c n) [it] it (fun i h => IsRangeIter h it (lo + (i : Nat) * c) ((n : Int) - (i : Nat)) c) where
  mem := by simp
  obj := fun i h st b hb => by
    have e : b = it := by simpa using hb
    subst e
    exact ⟨_, st, fun v z => by
      have z' : Data.fields _ = Data.cell v := z
      cases z'⟩
  keep := fun i h h' st k => k it (by simp) _ st
  item := by
    intro X hP hw hK hc i pins s σ H E I hf st hg
    subst hP hw hK
    obtain ⟨f0, f1, f2, f3, f4, f5⟩ := hf it (by simp)
    have W := Walks.range (prog := X.prog) (w := X.w) (I.ok.hd hc) it lo c n
    refine W.item i s _ _ hg st fun v h' tk hv st' kk => ?_
    obtain ⟨t, rfl⟩ := hv
    have I1 : L2.Inv X pins σ H { s with heap := h', toks := tk } := I.turned (fun b o hb e => kk b o (by simpa using hb) e) f0 f1 f3 f4 f5
    exact ⟨_, rfl, go_of (s := { s with heap := h', toks := tk }) (n := "range_iterator") st' rfl rfl (by decide) ⟨.int (lo + i * c), H, I1, ⟨t, rfl⟩, ⟨rfl, rfl⟩, st', fun b hb => (hf b hb).1⟩⟩
  done := by
    intro X hP hw hK hc i pins s σ H E I hf st hg
    subst hP hw hK
    obtain ⟨f0, f1, f2, f3, f4, f5⟩ := hf it (by simp)
    exact wpAny_pyNext_range_end (I.ok.hd hc) st (by have : n ≤ i := hg; omega) fun h' eb => ⟨rfl, I.turned (t' := s.toks) (fun b o hb e => eb b o hb e) f0 f1 f3 f4 f5⟩
  self := fun _ _ _ _ _ st h => wpAny_pyIter_rangeiter st h
def C3 (i j c : Int) : Prop := (-(2 ^ 40) ≤ i ∧ i < 2 ^ 40 ∧ -(2 ^ 40) ≤ j ∧ j < 2 ^ 40) ∧ (c = 2 ∨ c = 4)
def cnt (i j c : Int) : Nat := (Builtin.Range.rangeSize i j c).toNat
theorem small3 {i j c : Int} (h : C3 i j c) : Builtin.Range.small i j c = true := by
  obtain ⟨h, rfl | rfl⟩ := h
  · unfold Builtin.Range.small Builtin.Range.rangeSize
    simp only [Builtin.Range.rangeFitsLong, Bool.and_eq_true, Bool.or_eq_true, decide_eq_true_eq, beq_iff_eq, show (2 : Int) > 0 by decide, if_true]
    split <;> omega
  · unfold Builtin.Range.small Builtin.Range.rangeSize
    simp only [Builtin.Range.rangeFitsLong, Bool.and_eq_true, Bool.or_eq_true, decide_eq_true_eq, beq_iff_eq, show (4 : Int) > 0 by decide, if_true]
    split <;> omega
theorem cnt_eq {i j c : Int} (h : C3 i j c) : ((cnt i j c : Nat) : Int) = Builtin.Range.rangeSize i j c := by
  unfold cnt Builtin.Range.rangeSize
  obtain ⟨h, rfl | rfl⟩ := h
  · simp only [show (2 : Int) > 0 by decide, if_true]
    split <;> omega
  · simp only [show (4 : Int) > 0 by decide, if_true]
    split <;> omega
section
variable {X : Cx} {tg : Expr} {a b c : Expr} {tt : DA} {p pos : Pos}
def iRng3 (ta : TA) : TI := fun σ H R => ta σ H fun vs H1 => ∃ i j c : Int, vs = [.int i, .int j, .int c] ∧ C3 i j c ∧ R (Itrs i c (cnt i j c)) H1
theorem range_it3 {pins : List (Addr × Obj)} {σ : L2.St} {H : Hp} {s : Shared} {R : It → Hp → Prop} {E : Value → Shared → Prop} {lo hi c : Int} {t u v : Tok} {tk : Nat} (I : L2.Inv X pins σ H s) (hc : C3 lo hi c)
    (q : R (Itrs lo c (cnt lo hi c)) H) : wpAny (model X.prog X.w) X.A (pyIter (.ref s.heap.objs.size)) (PIE X pins σ tg R) E { s with heap := s.heap.push { cls := .type "range", data := .fields #[.int lo t, .int hi u, .int c v] }, toks := tk } := by
  refine wpAny_pyIter_range (IsRange.new ..) (small3 hc) ?_
  have I1 : L2.Inv X pins σ H { s with heap := s.heap.push { cls := .type "range", data := .fields #[.int lo t, .int hi u, .int c v] }, toks := tk } := I.kept fun b o e => Heap.get?_push_of_some _ e
  refine ⟨(s.heap.push { cls := .type "range", data := .fields #[.int lo t, .int hi u, .int c v] }).objs.size, [(s.heap.push { cls := .type "range", data := .fields #[.int lo t, .int hi u, .int c v] }).objs.size], _, _, H, rfl,
    I1.kept (t' := tk) fun b o e => Heap.get?_push_of_some _ e, turn_ranges _ lo c (cnt lo hi c), ?_, fun b hb => ?_, q⟩
  · have e1 : lo + ((0 : Nat) : Int) * c = lo := by simp
    have e2 : ((cnt lo hi c : Nat) : Int) - ((0 : Nat) : Int) = Builtin.Range.rangeSize lo hi c := by rw [cnt_eq hc]; simp
    show IsRangeIter _ _ (lo + ((0 : Nat) : Int) * c) (((cnt lo hi c : Nat) : Int) - ((0 : Nat) : Int)) c
    rw [e1, e2]
    exact Heap.get?_push_size _ rfl
  · have e : b = (s.heap.push { cls := .type "range", data := .fields #[.int lo t, .int hi u, .int c v] }).objs.size := by simpa using hb
    subst e
    exact I1.fpOk (Nat.le_refl _) (I1.hok.fresh (Nat.le_refl _))
theorem pi_range3 {ta : TA} (hg : Gl X "range") (hm : X.mg "range" = none) (ha : PA X [a, b, c] ta) (hs : starEach [a, b, c] X.env = [(false, eval a X.env), (false, eval b X.env), (false, eval c X.env)] := by rfl) (hs2 : starEach [b, c] X.env = [(false, eval b X.env), (false, eval c X.env)] := by rfl) :
    PI X tg (.Call (.Name "range" p) [a, b, c] [] pos) (iRng3 ta) := by
  intro pins s σ H R I h
  refine Call_ (ld_blt I hg hm boot_range (PyProof.Rows.callWith_type1 (thn (ha pos pins s σ H _ I h) fun us s1 ⟨vs, H1, I1, r1, q1⟩ => ?_) (by rw [hs, hs2]) (by rw [hs2]; rfl)))
  obtain ⟨i, j, k, e, hc, q⟩ := q1
  subst e
  cases r1 with
  | cons r rr =>
    cases rr with
    | cons r' rr =>
      cases rr with
      | cons r'' rr =>
        cases rr
        obtain ⟨t, rfl⟩ := r
        obtain ⟨t', rfl⟩ := r'
        obtain ⟨t'', rfl⟩ := r''
        have hk : 0 < k ∧ k < 1073741824 := by obtain ⟨_, rfl | rfl⟩ := hc <;> exact ⟨by decide, by decide⟩
        exact call_range_3 (by omega) (range_it3 I1 hc q) (.inl (PyProof.noPylong_small (by omega)))
def rngS (lo c : Int) (n : Nat) : List D := (List.range n).map fun (i : Nat) => D.int (lo + (i : Int) * c)
theorem rngs_ok {K : PySem.W.Frag} {F α1 : List Addr} {H1 : Hp} {M1 : Ms} {lo c : Int} {n : Nat} : ItOK K F α1 H1 M1 (Itrs lo c n) (rngS lo c n) fun _ => True := by
  refine ⟨fun i F' α' H' M' hp hs o' hst hi => ?_, fun i F' α' H' M' x H2 d' hp hs o' hst hd hy => ?_, fun F' α' H' M' hp hs o' hst => ?_⟩
  · show i < n
    simpa [rngS] using hi
  · obtain ⟨rfl, rfl⟩ := hy
    unfold rngS at hd
    rw [List.getElem?_map] at hd
    cases e : (List.range n)[i]? with
    | none => rw [e] at hd; cases hd
    | some j =>
      rw [e] at hd
      have : j = i := by
        have := List.getElem?_eq_some_iff.mp e
        obtain ⟨h1, h2⟩ := this
        simpa using h2.symm
      subst this
      cases hd
      exact ⟨o', Ext.refl, rep_int⟩
  · show n ≤ (rngS lo c n).length
    simp [rngS]
def iRng3D (tt : DA) : DI := fun δ M Q => tt δ M fun ds M1 => match ds with
  | [.int i, .int j, .int c] => C3 i j c ∧ Q (rngS i c (cnt i j c)) (fun _ => True) M1
  | _ => False
theorem ji_range3 (ha : JA X [a, b, c] tt) (hm : X.mg "range" = none) (hg : Gl X "range" := by rfl) (hs : starEach [a, b, c] X.env = [(false, eval a X.env), (false, eval b X.env), (false, eval c X.env)] := by rfl) (hs2 : starEach [b, c] X.env = [(false, eval b X.env), (false, eval c X.env)] := by rfl) : JI X tg (.Call (.Name "range" p) [a, b, c] [] pos) (iRng3D tt) := by
  refine ⟨fun δ M P Q w q => ha.mono δ _ _ _ (fun ds M1 q => ?_) q, PI.weak (pi_range3 hg hm ha.p hs hs2) fun σ H Q q => ?_⟩
  · match ds, q with
    | [.int i, .int j, .int c], ⟨e, q⟩ => exact ⟨e, w _ _ _ q⟩
  · obtain ⟨F, α, δ, M, r, q⟩ := q
    refine ⟨F, α, δ, M, r, ha.mono δ _ _ _ (fun ds M1 q vs α1 H1 e1 o1 r1 => ?_) q⟩
    match ds, q, r1 with
    | [.int i, .int j, .int c], ⟨ei, q⟩, r1 =>
      unfold Reps at r1
      obtain ⟨v, r', rfl, ra, rr⟩ := r1
      obtain ⟨u, z, rfl, rb, rc⟩ := reps3 rr
      unfold Rep at ra rb rc
      subst ra rb rc
      exact ⟨i, j, c, rfl, ei, q _ α1 H1 e1 o1 rngs_ok⟩
end
end L3
set_option Elab.async false
set_option linter.all false
set_option maxRecDepth 100000
set_option maxHeartbeats 4000000
namespace L3
open PySem PySem.Spec L2
section
variable {ta tb tc : DE} {δ : DSt} {M : Ms} {Q : DK} {R : Bool → Ms → Prop} {b : Bool} {g g' : G2} {y : D}
def kTest (R : Bool → Ms → Prop) : DK := fun x M1 => match x with | .bl b => R b M1 | _ => False
def kChain (g' : G2) (tc : DE) (δ : DSt) (y : D) (Q : DK) : DK := fun z M3 => match z with | .bl true => tc δ M3 fun w M4 => g' y w M4 Q | .bl false => Q (.bl false) M3 | _ => False
theorem rd_test : dTest ta δ M R = ta δ M (kTest R) := rfl
theorem rd_chain : dChain g g' ta tb tc δ M Q = ta δ M fun x M1 => tb δ M1 fun y M2 => g x y M2 (kChain g' tc δ y Q) := rfl
theorem kTest_bl : kTest R (.bl b) M = R b M := rfl
theorem kChain_bl : kChain g' tc δ y Q (.bl b) M = if b = true then tc δ M (fun w M4 => g' y w M4 Q) else Q (.bl false) M := by cases b <;> rfl
theorem cmpE_int {a c : Int} {P : Bool → Prop} : cmpE (.int a) (.int c) P = P (a == c) := rfl
theorem gLe_int {i j : Int} : gLe (.int i) (.int j) M Q = Q (.bl (decide (i ≤ j))) M := rfl
theorem gLen_one {d : D} : gLen [d] M Q = ∃ n : Nat, lenD (vw M d) = some n ∧ Q (.int n) M := rfl
theorem ex_some {β : Type} {a : β} {p : β → Prop} : (∃ b, some a = some b ∧ p b) = p a := by simp
theorem dVar_cons0 {d : D} : dVar 0 (some d :: δ) M Q = Q d M := rfl
theorem dVar_succ {o : Option D} {i : Nat} : dVar (i + 1) (o :: δ) M Q = dVar i δ M Q := rfl
end
theorem rv_int {M : Ms} {b : Bool} {i : Int} {x : Str} {n : String} {ds : List D} {ns : List Int} {ks : List Key} {C : Addr} {ms : List Str} : vw M (.int i) = (.int i) := rfl
theorem rv_lst {M : Ms} {b : Bool} {i : Int} {x : Str} {n : String} {ds : List D} {ns : List Int} {ks : List Key} {C : Addr} {ms : List Str} : vw M (.lst ds) = (.lst ds) := rfl
theorem rl_lst {ds : List D} : lenD (.lst ds) = some ds.length := rfl
theorem gI_int {C : Int → Int → Prop} {f : Int → Int → D} {i j : Int} {M : Ms} {Q : DK} : gI C f (.int i) (.int j) M Q = (C i j ∧ Q (f i j) M) := rfl
theorem gI0_int {f : Int → Int → D} {i j : Int} {M : Ms} {Q : DK} : gI0 f (.int i) (.int j) M Q = Q (f i j) M := rfl
theorem gPlus_ii {i j : Int} {M : Ms} {Q : DK} : gPlus (.int i) (.int j) M Q = Q (.int (i + j)) M := rfl
theorem dNeg_c {i : Int} {δ : DSt} {M : Ms} {Q : DK} : dNeg (dC (.int i)) δ M Q = Q (.int (-i)) M := rfl
theorem rd_new {t : DF} {δ : DSt} {M : Ms} {Q : DK} : dNew t δ M Q = t δ M fun o M1 => Q o.toD M1 := rfl
end L3
set_option Elab.async false
set_option linter.all false
set_option maxRecDepth 100000
set_option maxHeartbeats 4000000
namespace K22
open PySem PySem.Spec PyProof.Rows L2 L3
def top (i : Nat) : Stmt := PySem.Challenge.pw_farjump_k22_cells_read_back.main.body.getD i (.Pass ⟨0, 0, 0, 0⟩)
section
variable {P : Program} {w : World} {K : PySem.W.Frag} {mg : Str → Option Value} {base : Heap} {k : Nat}
theorem bo_bool : bootBuiltins "bool" = some (.type "bool") := by decide +kernel
theorem bo_divmod : bootBuiltins "divmod" = some (.builtin "divmod") := by decide +kernel
theorem bo_isinstance : bootBuiltins "isinstance" = some (.builtin "isinstance") := by decide +kernel
theorem bo_len : bootBuiltins "len" = some (.builtin "len") := by decide +kernel
theorem bo_list : bootBuiltins "list" = some (.type "list") := by decide +kernel
theorem bo_tuple : bootBuiltins "tuple" = some (.type "tuple") := by decide +kernel
def d_CODES : D := .tup [.tup [.str "set", .non, .int 16, .int 1, .int 4], .tup [.str "add", .non, .int 32, .int 2, .int 0], .tup [.str "take", .non, .int 48, .int 2, .int 0], .tup [.str "say", .non, .int 64, .int 1, .int 0], .tup [.str "ask", .non, .int 68, .int 1, .int 0], .tup [.str "jump", .bl true, .int 80, .int 0, .int 1], .tup [.str "jump", .bl false, .int 81, .int 0, .int 2], .tup [.str "call", .bl true, .int 82, .int 0, .int 1], .tup [.str "call", .bl false, .int 83, .int 0, .int 2], .tup [.str "jumpif", .bl true, .int 84, .int 1, .int 1], .tup [.str "jumpif", .bl false, .int 88, .int 1, .int 2], .tup [.str "back", .non, .int 98, .int 0, .int 0], .tup [.str "stop", .non, .int 99, .int 0, .int 0], .tup [.str "jumpby", .bl true, .int 100, .int 1, .int 1], .tup [.str "jumpby", .bl false, .int 104, .int 1, .int 2], .tup [.str "load", .bl true, .int 112, .int 2, .int 1], .tup [.str "load", .bl false, .int 128, .int 2, .int 2], .tup [.str "alike", .non, .int 144, .int 1, .int 4]]
def d_FIRST_CELLS : D := .tup [.int 1, .int 4, .int 16]
abbrev s_place_cells : Stmt := top 8
def b_place_cells : { b : List Stmt // defBody s_place_cells = b } := ⟨_, by (conv => lhs; whnf)⟩
def c_place_cells : { b : Scope // defScope s_place_cells = b } := ⟨_, by (conv => lhs; whnf)⟩
theorem sc_place_cells : FnScope ["place"] ["place"] c_place_cells.1 := ⟨rfl, rfl, rfl, by decide +kernel, rfl, by decide +kernel, by decide +kernel⟩
def t_place_cells  : DS := (dRet (dNew (fLst (dCons (dOp (gI CDivL fun i j => .int (i / j)) (dVar 0) (dC (.int 256))) (dCons (dOp (gI (fun _ j => 0 < j) fun i j => .int (i % j)) (dVar 0) (dC (.int 256))) dNil)))))
theorem j_place_cells   (f : Addr) (cdv : Value) (A : Around) (outer : List Env) (s : Shared) (H : Hp) (E : XK) (hr : Room k (A.deeper (envOfC "place_cells" c_place_cells.1 s.heap.objs.size f cdv))) :
    JB' (cxOf CX0 P w K mg base ["place"] "place_cells" c_place_cells.1 f cdv A outer s H E).nox b_place_cells.1 (t_place_cells ) := by
  have hu := hu_of hr
  exact (jb_one (js_ret (j_new (jf_lst (ja_cons (j_op jo_fdivL (j_v 0) j_int) (ja_cons (j_op jo_mod (j_v 0) j_int) ja_nil))))))
theorem o_place_cells  (D : DefAt K mg "place_cells" s_place_cells)  : Has P w K mg base (k + 1) "place_cells" ["place"] (lSp K (cl (fnC 1 1 (t_place_cells )))) :=
  hasCw D b_place_cells.2 c_place_cells.2 sc_place_cells (fun _ _ _ _ _ _ us hl => match us, hl with | [_], _ => rfl) (fun f cdv A outer s H E hr => j_place_cells  f cdv A outer s H E hr)
abbrev s_number_cells : Stmt := top 9
def b_number_cells : { b : List Stmt // defBody s_number_cells = b } := ⟨_, by (conv => lhs; whnf)⟩
def c_number_cells : { b : Scope // defScope s_number_cells = b } := ⟨_, by (conv => lhs; whnf)⟩
theorem sc_number_cells : FnScope ["number", "above", "below"] ["number"] c_number_cells.1 := ⟨rfl, rfl, rfl, by decide +kernel, rfl, by decide +kernel, by decide +kernel⟩
def t_number_cells (g_place_cells : GN) : DS := (dSeq (dAsg (dCB gDivmod (dCons (dOp (gI (fun _ j => 0 < j) fun i j => .int (i % j)) (dVar 0) (dOp (gI CPow fun i j => .int (i ^ j.toNat)) (dC (.int 2)) (dC (.int 32)))) (dCons (dOp (gI CPow fun i j => .int (i ^ j.toNat)) (dC (.int 2)) (dC (.int 16))) dNil))) (dgTup 2 (dgCons (dgName 1) (dgCons (dgName 2) dgNil))))
  (dRet (dOp gPlus (dCB g_place_cells (dCons (dVar 1) dNil)) (dCB g_place_cells (dCons (dVar 2) dNil)))))
theorem j_number_cells {g_place_cells : GN} (z_divmod : mg "divmod" = none) (h_place_cells : HasD P w K mg base k "place_cells" ["place"] g_place_cells) (f : Addr) (cdv : Value) (A : Around) (outer : List Env) (s : Shared) (H : Hp) (E : XK) (hr : Room k (A.deeper (envOfC "number_cells" c_number_cells.1 s.heap.objs.size f cdv))) :
    JB' (cxOf CX0 P w K mg base ["number", "above", "below"] "number_cells" c_number_cells.1 f cdv A outer s H E).nox b_number_cells.1 (t_number_cells g_place_cells) := by
  have hu := hu_of hr
  exact (jb_cons (js_asg (j_b jb_divmod z_divmod bo_divmod (ja_cons (j_op jo_mod (j_v 0) (j_op jo_pow j_int j_int)) (ja_cons (j_op jo_pow j_int j_int) ja_nil))) (jg_tup (jgs_cons (jg_name 1 sc_number_cells.nd) (jgs_cons (jg_name 2 sc_number_cells.nd) jgs_nil))))
      (jb_one (js_ret (j_op jo_add (j_fn h_place_cells hr (ja_cons (j_v 1) ja_nil)) (j_fn h_place_cells hr (ja_cons (j_v 2) ja_nil))))))
theorem o_number_cells {g_place_cells : GN} (D : DefAt K mg "number_cells" s_number_cells) (z_divmod : mg "divmod" = none) (h_place_cells : HasD P w K mg base k "place_cells" ["place"] g_place_cells) : Has P w K mg base (k + 1) "number_cells" ["number"] (lSp K (cl (fnC 3 1 (t_number_cells g_place_cells)))) :=
  hasCw D b_number_cells.2 c_number_cells.2 sc_number_cells (fun _ _ _ _ _ _ us hl => match us, hl with | [_], _ => rfl) (fun f cdv A outer s H E hr => j_number_cells z_divmod h_place_cells f cdv A outer s H E hr)
abbrev s_joined : Stmt := top 10
def b_joined : { b : List Stmt // defBody s_joined = b } := ⟨_, by (conv => lhs; whnf)⟩
def c_joined : { b : Scope // defScope s_joined = b } := ⟨_, by (conv => lhs; whnf)⟩
theorem sc_joined : FnScope ["lists", "cells", "one"] ["lists"] c_joined.1 := ⟨rfl, rfl, rfl, by decide +kernel, rfl, by decide +kernel, by decide +kernel⟩
def t_joined  : DS := (dSeq (dSet 1 (dOwn (fLst dNil)))
  (dSeq (dFor (iAnyD (dVar 0)) (dgName 2) (dDrop (dBM "list" gmExtend (dVar 1) (dCons (dVar 2) dNil))))
  (dRet (dVar 1))))
theorem j_joined   (f : Addr) (cdv : Value) (A : Around) (outer : List Env) (s : Shared) (H : Hp) (E : XK) (hr : Room k (A.deeper (envOfC "joined" c_joined.1 s.heap.objs.size f cdv))) :
    JB' (cxOf CX0 P w K mg base ["lists", "cells", "one"] "joined" c_joined.1 f cdv A outer s H E).nox b_joined.1 (t_joined ) := by
  have hu := hu_of hr
  exact (jb_cons (js_set 1 sc_joined.nd (j_own (jf_lst ja_nil)))
      (jb_cons (js_for (ji_any (j_v 0)) (jg_name 2 sc_joined.nd) (jb_one (js_expr (j_bm jm_extend PySem.F.plainAttrs_list PySem.F.slot_list_extend PySem.F.type_list_extend (j_v 1) (ja_cons (j_v 2) ja_nil)))))
      (jb_one (js_ret (j_v 1)))))
theorem o_joined  (D : DefAt K mg "joined" s_joined)  : Has P w K mg base (k + 1) "joined" ["lists"] (lSp K (cl (fnC 3 1 (t_joined )))) :=
  hasCw D b_joined.2 c_joined.2 sc_joined (fun _ _ _ _ _ _ us hl => match us, hl with | [_], _ => rfl) (fun f cdv A outer s H E hr => j_joined  f cdv A outer s H E hr)
abbrev s_box_number : Stmt := top 11
def b_box_number : { b : List Stmt // defBody s_box_number = b } := ⟨_, by (conv => lhs; whnf)⟩
def c_box_number : { b : Scope // defScope s_box_number = b } := ⟨_, by (conv => lhs; whnf)⟩
theorem sc_box_number : FnScope ["boxes", "number", "box"] ["boxes"] c_box_number.1 := ⟨rfl, rfl, rfl, by decide +kernel, rfl, by decide +kernel, by decide +kernel⟩
def t_box_number  : DS := (dSeq (dSet 1 (dC (.int 0)))
  (dSeq (dFor (iAnyD (dVar 0)) (dgName 2) (dSet 1 (dOp gPlus (dOp gMul (dC (.int 4)) (dVar 1)) (dVar 2))))
  (dRet (dVar 1))))
theorem j_box_number   (f : Addr) (cdv : Value) (A : Around) (outer : List Env) (s : Shared) (H : Hp) (E : XK) (hr : Room k (A.deeper (envOfC "box_number" c_box_number.1 s.heap.objs.size f cdv))) :
    JB' (cxOf CX0 P w K mg base ["boxes", "number", "box"] "box_number" c_box_number.1 f cdv A outer s H E).nox b_box_number.1 (t_box_number ) := by
  have hu := hu_of hr
  exact (jb_cons (js_set 1 sc_box_number.nd j_int)
      (jb_cons (js_for (ji_any (j_v 0)) (jg_name 2 sc_box_number.nd) (jb_one (js_set 1 sc_box_number.nd (j_op jo_add (j_op jo_mul j_int (j_v 1)) (j_v 2)))))
      (jb_one (js_ret (j_v 1)))))
theorem o_box_number  (D : DefAt K mg "box_number" s_box_number)  : Has P w K mg base (k + 1) "box_number" ["boxes"] (lSp K (cl (fnC 3 1 (t_box_number )))) :=
  hasCw D b_box_number.2 c_box_number.2 sc_box_number (fun _ _ _ _ _ _ us hl => match us, hl with | [_], _ => rfl) (fun f cdv A outer s H E hr => j_box_number  f cdv A outer s H E hr)
abbrev s_code_for : Stmt := top 12
def b_code_for : { b : List Stmt // defBody s_code_for = b } := ⟨_, by (conv => lhs; whnf)⟩
def c_code_for : { b : Scope // defScope s_code_for = b } := ⟨_, by (conv => lhs; whnf)⟩
theorem sc_code_for : FnScope ["kind", "near", "code"] ["kind", "near"] c_code_for.1 := ⟨rfl, rfl, rfl, by decide +kernel, rfl, by decide +kernel, by decide +kernel⟩
def t_code_for  : DS := (dSeq (dFor (iAnyD (dC d_CODES)) (dgName 2) (dIfS (dAnd (dTest (dOp gEq (dOp gIx (dVar 2) (dC (.int 0))) (dVar 0))) (dTest (dOp gEq (dOp gIx (dVar 2) (dC (.int 1))) (dVar 1)))) (dRet (dVar 2)) dNext))
  (dRet (dC .non)))
theorem j_code_for  (m_CODES : ∃ u, mg "CODES" = some u ∧ conK K d_CODES u) (f : Addr) (cdv : Value) (A : Around) (outer : List Env) (s : Shared) (H : Hp) (E : XK) (hr : Room k (A.deeper (envOfC "code_for" c_code_for.1 s.heap.objs.size f cdv))) :
    JB' (cxOf CX0 P w K mg base ["kind", "near", "code"] "code_for" c_code_for.1 f cdv A outer s H E).nox b_code_for.1 (t_code_for ) := by
  have hu := hu_of hr
  exact (jb_cons (js_for (ji_any (j_globK m_CODES)) (jg_name 2 sc_code_for.nd) (jb_one (js_if (jt_of (jw_and (jt_cmp (jc_eq hr.units) (j_ix (jx hu) (j_v 2) j_int) (j_v 0)) (jw_and1 (jt_cmp (jc_eq hr.units) (j_ix (jx hu) (j_v 2) j_int) (j_v 1))))) (jb_one (js_ret (j_v 2))) jb_nil)))
      (jb_one (js_ret j_non)))
theorem o_code_for  (D : DefAt K mg "code_for" s_code_for) (m_CODES : ∃ u, mg "CODES" = some u ∧ conK K d_CODES u) : Has P w K mg base (k + 1) "code_for" ["kind", "near"] (lSp K (cl (fnC 3 2 (t_code_for )))) :=
  hasCw D b_code_for.2 c_code_for.2 sc_code_for (fun _ _ _ _ _ _ us hl => match us, hl with | [_, _], _ => rfl) (fun f cdv A outer s H E hr => j_code_for m_CODES f cdv A outer s H E hr)
abbrev s_code_cells : Stmt := top 13
def b_code_cells : { b : List Stmt // defBody s_code_cells = b } := ⟨_, by (conv => lhs; whnf)⟩
def c_code_cells : { b : Scope // defScope s_code_cells = b } := ⟨_, by (conv => lhs; whnf)⟩
theorem sc_code_cells : FnScope ["row", "at", "near", "kind", "short", "first", "boxes", "more", "ahead", "told"] ["row", "at", "near"] c_code_cells.1 := ⟨rfl, rfl, rfl, by decide +kernel, rfl, by decide +kernel, by decide +kernel⟩
def t_code_cells (g_code_for : GN) (g_box_number : GN) (g_number_cells : GN) (g_joined : GN) (g_place_cells : GN) : DS := (dSeq (dAsg (dCB g_code_for (dCons (dOp gIx (dVar 0) (dC (.int 0))) (dCons (dVar 2) dNil))) (dgTup 5 (dgCons (dgName 3) (dgCons (dgName 4) (dgCons (dgName 5) (dgCons (dgName 6) (dgCons (dgName 7) dgNil)))))))
  (dSeq (dSet 8 (dNew (fLst (dCons (dOp gPlus (dVar 5) (dCB g_box_number (dCons (dSl (dVar 0) (dPart (dC (.int 1))) (dPart (dOp gPlus (dC (.int 1)) (dVar 6)))) dNil))) dNil))))
  (dSeq (dSet 9 (dSl (dVar 0) (dPart (dOp gPlus (dC (.int 1)) (dVar 6))) dNoPart))
  (dSeq (dIfS (dTest (dOp gEq (dVar 3) (dC (.str "set")))) (dRet (dOwn (fPlus (dVar 8) (dCB g_number_cells (dCons (dOp gIx (dVar 9) (dC (.int 0))) dNil))))) dNext)
  (dSeq (dIfS (dTest (dOp gIsB (dVar 4) (dC (.bl true)))) (dRet (dOwn (fPlus (dVar 8) (dNew (fLst (dCons (dOp (gI (fun _ j => 0 < j) fun i j => .int (i % j)) (dOp (gI0 fun i j => .int (i - j)) (dOp gIx (dVar 9) (dC (.int 0))) (dOp gPlus (dVar 1) (dC (.int 2)))) (dC (.int 256))) dNil)))))) dNext)
  (dRet (dOwn (fPlus (dVar 8) (dCB g_joined (dCons (dNew (fComp [none] (iAnyD (dVar 9)) (dgName 0) dYes (dCB g_place_cells (dCons (dVar 0) dNil)))) dNil))))))))))
theorem j_code_cells {g_code_for : GN} {g_box_number : GN} {g_number_cells : GN} {g_joined : GN} {g_place_cells : GN} (h_code_for : HasD P w K mg base k "code_for" ["kind", "near"] g_code_for) (h_box_number : HasD P w K mg base k "box_number" ["boxes"] g_box_number) (h_number_cells : HasD P w K mg base k "number_cells" ["number"] g_number_cells) (h_joined : HasD P w K mg base k "joined" ["lists"] g_joined) (h_place_cells : HasD P w K mg base k "place_cells" ["place"] g_place_cells) (f : Addr) (cdv : Value) (A : Around) (outer : List Env) (s : Shared) (H : Hp) (E : XK) (hr : Room k (A.deeper (envOfC "code_cells" c_code_cells.1 s.heap.objs.size f cdv))) :
    JB' (cxOf CX0 P w K mg base ["row", "at", "near", "kind", "short", "first", "boxes", "more", "ahead", "told"] "code_cells" c_code_cells.1 f cdv A outer s H E).nox b_code_cells.1 (t_code_cells g_code_for g_box_number g_number_cells g_joined g_place_cells) := by
  have hu := hu_of hr
  exact (jb_cons (js_asg (j_fn h_code_for hr (ja_cons (j_ix (jx hu) (j_v 0) j_int) (ja_cons (j_v 2) ja_nil))) (jg_tup (jgs_cons (jg_name 3 sc_code_cells.nd) (jgs_cons (jg_name 4 sc_code_cells.nd) (jgs_cons (jg_name 5 sc_code_cells.nd) (jgs_cons (jg_name 6 sc_code_cells.nd) (jgs_cons (jg_name 7 sc_code_cells.nd) jgs_nil)))))))
      (jb_cons (js_set 8 sc_code_cells.nd (j_new (jf_lst (ja_cons (j_op jo_add (j_v 5) (j_fn h_box_number hr (ja_cons (j_sl (j_v 0) (jop_some j_int) (jop_some (j_op jo_add j_int (j_v 6)))) ja_nil))) ja_nil))))
      (jb_cons (js_set 9 sc_code_cells.nd (j_sl (j_v 0) (jop_some (j_op jo_add j_int (j_v 6))) jop_none))
      (jb_cons (js_if (jt_cmp (jc_eq hr.units) (j_v 3) j_str) (jb_one (js_ret (j_own (jf_plus (j_v 8) (j_fn h_number_cells hr (ja_cons (j_ix (jx hu) (j_v 9) j_int) ja_nil)))))) jb_nil)
      (jb_cons (js_if (jt_cmp jc_isB (j_v 4) j_bl) (jb_one (js_ret (j_own (jf_plus (j_v 8) (j_new (jf_lst (ja_cons (j_op jo_mod (j_op jo_sub (j_ix (jx hu) (j_v 9) j_int) (j_op jo_add (j_v 1) j_int)) j_int) ja_nil))))))) jb_nil)
      (jb_one (js_ret (j_own (jf_plus (j_v 8) (j_fn h_joined hr (ja_cons (j_new (jf_comp (N := ["place"]) (fr := [none]) (CompOk.of (N₀ := ["row", "at", "near", "kind", "short", "first", "boxes", "more", "ahead", "told"]) (oscope := c_code_cells.1) (by decide +kernel)) (ji_any (j_v 9)) gl_name (fun _ _ _ _ _ => (jg_name 0 (show List.Nodup (["place"] : List Str) by decide +kernel))) (fun _ _ _ _ _ => jif_nil) (fun _ _ _ _ _ => (j_fn h_place_cells hr (ja_cons (j_v 0) ja_nil))))) ja_nil)))))))))))
theorem o_code_cells {g_code_for : GN} {g_box_number : GN} {g_number_cells : GN} {g_joined : GN} {g_place_cells : GN} (D : DefAt K mg "code_cells" s_code_cells) (h_code_for : HasD P w K mg base k "code_for" ["kind", "near"] g_code_for) (h_box_number : HasD P w K mg base k "box_number" ["boxes"] g_box_number) (h_number_cells : HasD P w K mg base k "number_cells" ["number"] g_number_cells) (h_joined : HasD P w K mg base k "joined" ["lists"] g_joined) (h_place_cells : HasD P w K mg base k "place_cells" ["place"] g_place_cells) : Has P w K mg base (k + 1) "code_cells" ["row", "at", "near"] (lSp K (fnG 10 3 (t_code_cells g_code_for g_box_number g_number_cells g_joined g_place_cells))) :=
  hasGw D b_code_cells.2 c_code_cells.2 sc_code_cells (fun _ _ _ _ _ _ us hl => match us, hl with | [_, _, _], _ => rfl) (fun f cdv A outer s H E hr => j_code_cells h_code_for h_box_number h_number_cells h_joined h_place_cells f cdv A outer s H E hr)
abbrev s_cells_of : Stmt := top 14
def b_cells_of : { b : List Stmt // defBody s_cells_of = b } := ⟨_, by (conv => lhs; whnf)⟩
def c_cells_of : { b : Scope // defScope s_cells_of = b } := ⟨_, by (conv => lhs; whnf)⟩
theorem sc_cells_of : FnScope ["row", "at", "near"] ["row", "at", "near"] c_cells_of.1 := ⟨rfl, rfl, rfl, by decide +kernel, rfl, by decide +kernel, by decide +kernel⟩
def t_cells_of (g_place_cells : GN) (g_joined : GN) (g_number_cells : GN) (g_code_cells : GN) : DS := (dSeq (dIfS (dTest (dOp gEq (dOp gIx (dVar 0) (dC (.int 0))) (dC (.str "numbers")))) (dRet (dOwn (fPlus (dCB g_place_cells (dCons (dCB gLen (dCons (dOp gIx (dVar 0) (dC (.int 1))) dNil)) dNil)) (dCB g_joined (dCons (dNew (fComp [none] (iAnyD (dOp gIx (dVar 0) (dC (.int 1)))) (dgName 0) dYes (dCB g_number_cells (dCons (dVar 0) dNil)))) dNil))))) dNext)
  (dSeq (dIfS (dTest (dOp gEq (dOp gIx (dVar 0) (dC (.int 0))) (dC (.str "table")))) (dRet (dOwn (fPlus (dCB g_place_cells (dCons (dCB gLen (dCons (dOp gIx (dVar 0) (dC (.int 1))) dNil)) dNil)) (dCB g_joined (dCons (dNew (fComp [none] (iAnyD (dOp gIx (dVar 0) (dC (.int 1)))) (dgName 0) dYes (dCB g_place_cells (dCons (dVar 0) dNil)))) dNil))))) dNext)
  (dRet (dCB g_code_cells (dCons (dVar 0) (dCons (dVar 1) (dCons (dVar 2) dNil)))))))
theorem j_cells_of {g_place_cells : GN} {g_joined : GN} {g_number_cells : GN} {g_code_cells : GN} (h_place_cells : HasD P w K mg base k "place_cells" ["place"] g_place_cells) (z_len : mg "len" = none) (h_joined : HasD P w K mg base k "joined" ["lists"] g_joined) (h_number_cells : HasD P w K mg base k "number_cells" ["number"] g_number_cells) (h_code_cells : HasD P w K mg base k "code_cells" ["row", "at", "near"] g_code_cells) (f : Addr) (cdv : Value) (A : Around) (outer : List Env) (s : Shared) (H : Hp) (E : XK) (hr : Room k (A.deeper (envOfC "cells_of" c_cells_of.1 s.heap.objs.size f cdv))) :
    JB' (cxOf CX0 P w K mg base ["row", "at", "near"] "cells_of" c_cells_of.1 f cdv A outer s H E).nox b_cells_of.1 (t_cells_of g_place_cells g_joined g_number_cells g_code_cells) := by
  have hu := hu_of hr
  exact (jb_cons (js_if (jt_cmp (jc_eq hr.units) (j_ix (jx hu) (j_v 0) j_int) j_str) (jb_one (js_ret (j_own (jf_plus (j_fn h_place_cells hr (ja_cons (j_b jb_len z_len bo_len (ja_cons (j_ix (jx hu) (j_v 0) j_int) ja_nil)) ja_nil)) (j_fn h_joined hr (ja_cons (j_new (jf_comp (N := ["number"]) (fr := [none]) (CompOk.of (N₀ := ["row", "at", "near"]) (oscope := c_cells_of.1) (by decide +kernel)) (ji_any (j_ix (jx hu) (j_v 0) j_int)) gl_name (fun _ _ _ _ _ => (jg_name 0 (show List.Nodup (["number"] : List Str) by decide +kernel))) (fun _ _ _ _ _ => jif_nil) (fun _ _ _ _ _ => (j_fn h_number_cells hr (ja_cons (j_v 0) ja_nil))))) ja_nil)))))) jb_nil)
      (jb_cons (js_if (jt_cmp (jc_eq hr.units) (j_ix (jx hu) (j_v 0) j_int) j_str) (jb_one (js_ret (j_own (jf_plus (j_fn h_place_cells hr (ja_cons (j_b jb_len z_len bo_len (ja_cons (j_ix (jx hu) (j_v 0) j_int) ja_nil)) ja_nil)) (j_fn h_joined hr (ja_cons (j_new (jf_comp (N := ["place"]) (fr := [none]) (CompOk.of (N₀ := ["row", "at", "near"]) (oscope := c_cells_of.1) (by decide +kernel)) (ji_any (j_ix (jx hu) (j_v 0) j_int)) gl_name (fun _ _ _ _ _ => (jg_name 0 (show List.Nodup (["place"] : List Str) by decide +kernel))) (fun _ _ _ _ _ => jif_nil) (fun _ _ _ _ _ => (j_fn h_place_cells hr (ja_cons (j_v 0) ja_nil))))) ja_nil)))))) jb_nil)
      (jb_one (js_ret (j_fn h_code_cells hr (ja_cons (j_v 0) (ja_cons (j_v 1) (ja_cons (j_v 2) ja_nil))))))))
theorem o_cells_of {g_place_cells : GN} {g_joined : GN} {g_number_cells : GN} {g_code_cells : GN} (D : DefAt K mg "cells_of" s_cells_of) (h_place_cells : HasD P w K mg base k "place_cells" ["place"] g_place_cells) (z_len : mg "len" = none) (h_joined : HasD P w K mg base k "joined" ["lists"] g_joined) (h_number_cells : HasD P w K mg base k "number_cells" ["number"] g_number_cells) (h_code_cells : HasD P w K mg base k "code_cells" ["row", "at", "near"] g_code_cells) : Has P w K mg base (k + 1) "cells_of" ["row", "at", "near"] (lSp K (fnG 3 3 (t_cells_of g_place_cells g_joined g_number_cells g_code_cells))) :=
  hasGw D b_cells_of.2 c_cells_of.2 sc_cells_of (fun _ _ _ _ _ _ us hl => match us, hl with | [_, _, _], _ => rfl) (fun f cdv A outer s H E hr => j_cells_of h_place_cells z_len h_joined h_number_cells h_code_cells f cdv A outer s H E hr)
abbrev s_place_at : Stmt := top 15
def b_place_at : { b : List Stmt // defBody s_place_at = b } := ⟨_, by (conv => lhs; whnf)⟩
def c_place_at : { b : Scope // defScope s_place_at = b } := ⟨_, by (conv => lhs; whnf)⟩
theorem sc_place_at : FnScope ["cells", "at"] ["cells", "at"] c_place_at.1 := ⟨rfl, rfl, rfl, by decide +kernel, rfl, by decide +kernel, by decide +kernel⟩
def t_place_at  : DS := (dRet (dOp gPlus (dOp gMul (dC (.int 256)) (dOp gIx (dVar 0) (dVar 1))) (dOp gIx (dVar 0) (dOp gPlus (dVar 1) (dC (.int 1))))))
theorem j_place_at   (f : Addr) (cdv : Value) (A : Around) (outer : List Env) (s : Shared) (H : Hp) (E : XK) (hr : Room k (A.deeper (envOfC "place_at" c_place_at.1 s.heap.objs.size f cdv))) :
    JB' (cxOf CX0 P w K mg base ["cells", "at"] "place_at" c_place_at.1 f cdv A outer s H E).nox b_place_at.1 (t_place_at ) := by
  have hu := hu_of hr
  exact (jb_one (js_ret (j_op jo_add (j_op jo_mul j_int (j_ix (jx hu) (j_v 0) (j_v 1))) (j_ix (jx hu) (j_v 0) (j_op jo_add (j_v 1) j_int)))))
theorem o_place_at  (D : DefAt K mg "place_at" s_place_at)  : Has P w K mg base (k + 1) "place_at" ["cells", "at"] (lSp K (cl (fnC 2 2 (t_place_at )))) :=
  hasCw D b_place_at.2 c_place_at.2 sc_place_at (fun _ _ _ _ _ _ us hl => match us, hl with | [_, _], _ => rfl) (fun f cdv A outer s H E hr => j_place_at  f cdv A outer s H E hr)
abbrev s_number_at : Stmt := top 16
def b_number_at : { b : List Stmt // defBody s_number_at = b } := ⟨_, by (conv => lhs; whnf)⟩
def c_number_at : { b : Scope // defScope s_number_at = b } := ⟨_, by (conv => lhs; whnf)⟩
theorem sc_number_at : FnScope ["cells", "at", "number"] ["cells", "at"] c_number_at.1 := ⟨rfl, rfl, rfl, by decide +kernel, rfl, by decide +kernel, by decide +kernel⟩
def t_number_at (g_place_at : GN) : DS := (dSeq (dSet 2 (dOp gPlus (dOp gMul (dOp (gI CPow fun i j => .int (i ^ j.toNat)) (dC (.int 2)) (dC (.int 16))) (dCB g_place_at (dCons (dVar 0) (dCons (dVar 1) dNil)))) (dCB g_place_at (dCons (dVar 0) (dCons (dOp gPlus (dVar 1) (dC (.int 2))) dNil)))))
  (dRet (dIf (dTest (dOp gLe (dVar 2) (dC (.int 2147483647)))) (dVar 2) (dOp (gI0 fun i j => .int (i - j)) (dVar 2) (dOp (gI CPow fun i j => .int (i ^ j.toNat)) (dC (.int 2)) (dC (.int 32)))))))
theorem j_number_at {g_place_at : GN} (h_place_at : HasD P w K mg base k "place_at" ["cells", "at"] g_place_at) (e_GREATEST_NUMBER : ∃ t, mg "GREATEST_NUMBER" = some (.int 2147483647 t)) (f : Addr) (cdv : Value) (A : Around) (outer : List Env) (s : Shared) (H : Hp) (E : XK) (hr : Room k (A.deeper (envOfC "number_at" c_number_at.1 s.heap.objs.size f cdv))) :
    JB' (cxOf CX0 P w K mg base ["cells", "at", "number"] "number_at" c_number_at.1 f cdv A outer s H E).nox b_number_at.1 (t_number_at g_place_at) := by
  have hu := hu_of hr
  exact (jb_cons (js_set 2 sc_number_at.nd (j_op jo_add (j_op jo_mul (j_op jo_pow j_int j_int) (j_fn h_place_at hr (ja_cons (j_v 0) (ja_cons (j_v 1) ja_nil)))) (j_fn h_place_at hr (ja_cons (j_v 0) (ja_cons (j_op jo_add (j_v 1) j_int) ja_nil)))))
      (jb_one (js_ret (j_if (jt_cmp jc_le (j_v 2) (j_globI e_GREATEST_NUMBER)) (j_v 2) (j_op jo_sub (j_v 2) (j_op jo_pow j_int j_int))))))
theorem o_number_at {g_place_at : GN} (D : DefAt K mg "number_at" s_number_at) (h_place_at : HasD P w K mg base k "place_at" ["cells", "at"] g_place_at) (e_GREATEST_NUMBER : ∃ t, mg "GREATEST_NUMBER" = some (.int 2147483647 t)) : Has P w K mg base (k + 1) "number_at" ["cells", "at"] (lSp K (cl (fnC 3 2 (t_number_at g_place_at)))) :=
  hasCw D b_number_at.2 c_number_at.2 sc_number_at (fun _ _ _ _ _ _ us hl => match us, hl with | [_, _], _ => rfl) (fun f cdv A outer s H E hr => j_number_at h_place_at e_GREATEST_NUMBER f cdv A outer s H E hr)
abbrev s_step_at : Stmt := top 17
def b_step_at : { b : List Stmt // defBody s_step_at = b } := ⟨_, by (conv => lhs; whnf)⟩
def c_step_at : { b : Scope // defScope s_step_at = b } := ⟨_, by (conv => lhs; whnf)⟩
theorem sc_step_at : FnScope ["cells", "at"] ["cells", "at"] c_step_at.1 := ⟨rfl, rfl, rfl, by decide +kernel, rfl, by decide +kernel, by decide +kernel⟩
def t_step_at  : DS := (dRet (dIf (dTest (dOp gLe (dOp gIx (dVar 0) (dVar 1)) (dC (.int 127)))) (dOp gIx (dVar 0) (dVar 1)) (dOp (gI0 fun i j => .int (i - j)) (dOp gIx (dVar 0) (dVar 1)) (dC (.int 256)))))
theorem j_step_at   (f : Addr) (cdv : Value) (A : Around) (outer : List Env) (s : Shared) (H : Hp) (E : XK) (hr : Room k (A.deeper (envOfC "step_at" c_step_at.1 s.heap.objs.size f cdv))) :
    JB' (cxOf CX0 P w K mg base ["cells", "at"] "step_at" c_step_at.1 f cdv A outer s H E).nox b_step_at.1 (t_step_at ) := by
  have hu := hu_of hr
  exact (jb_one (js_ret (j_if (jt_cmp jc_le (j_ix (jx hu) (j_v 0) (j_v 1)) j_int) (j_ix (jx hu) (j_v 0) (j_v 1)) (j_op jo_sub (j_ix (jx hu) (j_v 0) (j_v 1)) j_int))))
theorem o_step_at  (D : DefAt K mg "step_at" s_step_at)  : Has P w K mg base (k + 1) "step_at" ["cells", "at"] (lSp K (cl (fnC 2 2 (t_step_at )))) :=
  hasCw D b_step_at.2 c_step_at.2 sc_step_at (fun _ _ _ _ _ _ us hl => match us, hl with | [_, _], _ => rfl) (fun f cdv A outer s H E hr => j_step_at  f cdv A outer s H E hr)
abbrev s_boxes_in : Stmt := top 18
def b_boxes_in : { b : List Stmt // defBody s_boxes_in = b } := ⟨_, by (conv => lhs; whnf)⟩
def c_boxes_in : { b : Scope // defScope s_boxes_in = b } := ⟨_, by (conv => lhs; whnf)⟩
theorem sc_boxes_in : FnScope ["number", "count"] ["number", "count"] c_boxes_in.1 := ⟨rfl, rfl, rfl, by decide +kernel, rfl, by decide +kernel, by decide +kernel⟩
def t_boxes_in  : DS := (dSeq (dIfS (dTest (dOp gEq (dVar 1) (dC (.int 0)))) (dRet (dTup dNil)) dNext)
  (dSeq (dIfS (dTest (dOp gEq (dVar 1) (dC (.int 1)))) (dRet (dTup (dCons (dVar 0) dNil))) dNext)
  (dRet (dTup (dCons (dOp (gI CDivL fun i j => .int (i / j)) (dVar 0) (dC (.int 4))) (dCons (dOp (gI (fun _ j => 0 < j) fun i j => .int (i % j)) (dVar 0) (dC (.int 4))) dNil))))))
theorem j_boxes_in   (f : Addr) (cdv : Value) (A : Around) (outer : List Env) (s : Shared) (H : Hp) (E : XK) (hr : Room k (A.deeper (envOfC "boxes_in" c_boxes_in.1 s.heap.objs.size f cdv))) :
    JB' (cxOf CX0 P w K mg base ["number", "count"] "boxes_in" c_boxes_in.1 f cdv A outer s H E).nox b_boxes_in.1 (t_boxes_in ) := by
  have hu := hu_of hr
  exact (jb_cons (js_if (jt_cmp (jc_eq hr.units) (j_v 1) j_int) (jb_one (js_ret (j_tup ja_nil))) jb_nil)
      (jb_cons (js_if (jt_cmp (jc_eq hr.units) (j_v 1) j_int) (jb_one (js_ret (j_tup (ja_cons (j_v 0) ja_nil)))) jb_nil)
      (jb_one (js_ret (j_tup (ja_cons (j_op jo_fdivL (j_v 0) j_int) (ja_cons (j_op jo_mod (j_v 0) j_int) ja_nil)))))))
theorem o_boxes_in  (D : DefAt K mg "boxes_in" s_boxes_in)  : Has P w K mg base (k + 1) "boxes_in" ["number", "count"] (lSp K (cl (fnC 2 2 (t_boxes_in )))) :=
  hasCw D b_boxes_in.2 c_boxes_in.2 sc_boxes_in (fun _ _ _ _ _ _ us hl => match us, hl with | [_, _], _ => rfl) (fun f cdv A outer s H E hr => j_boxes_in  f cdv A outer s H E hr)
abbrev s_code_from : Stmt := top 19
def b_code_from : { b : List Stmt // defBody s_code_from = b } := ⟨_, by (conv => lhs; whnf)⟩
def c_code_from : { b : Scope // defScope s_code_from = b } := ⟨_, by (conv => lhs; whnf)⟩
theorem sc_code_from : FnScope ["cell", "code"] ["cell"] c_code_from.1 := ⟨rfl, rfl, rfl, by decide +kernel, rfl, by decide +kernel, by decide +kernel⟩
def t_code_from  : DS := (dSeq (dFor (iAnyD (dC d_CODES)) (dgName 1) (dIfS (dTest (dChain gLe gLt (dC (.int 0)) (dOp (gI0 fun i j => .int (i - j)) (dVar 0) (dOp gIx (dVar 1) (dC (.int 2)))) (dOp gIx (dC d_FIRST_CELLS) (dOp gIx (dVar 1) (dC (.int 3)))))) (dRet (dVar 1)) dNext))
  (dRet (dC .non)))
theorem j_code_from  (m_CODES : ∃ u, mg "CODES" = some u ∧ conK K d_CODES u) (m_FIRST_CELLS : ∃ u, mg "FIRST_CELLS" = some u ∧ conK K d_FIRST_CELLS u) (f : Addr) (cdv : Value) (A : Around) (outer : List Env) (s : Shared) (H : Hp) (E : XK) (hr : Room k (A.deeper (envOfC "code_from" c_code_from.1 s.heap.objs.size f cdv))) :
    JB' (cxOf CX0 P w K mg base ["cell", "code"] "code_from" c_code_from.1 f cdv A outer s H E).nox b_code_from.1 (t_code_from ) := by
  have hu := hu_of hr
  exact (jb_cons (js_for (ji_any (j_globK m_CODES)) (jg_name 1 sc_code_from.nd) (jb_one (js_if (jt_chain jc_le jc_lt j_int (j_op jo_sub (j_v 0) (j_ix (jx hu) (j_v 1) j_int)) (j_ix (jx hu) (j_globK m_FIRST_CELLS) (j_ix (jx hu) (j_v 1) j_int))) (jb_one (js_ret (j_v 1))) jb_nil)))
      (jb_one (js_ret j_non)))
theorem o_code_from  (D : DefAt K mg "code_from" s_code_from) (m_CODES : ∃ u, mg "CODES" = some u ∧ conK K d_CODES u) (m_FIRST_CELLS : ∃ u, mg "FIRST_CELLS" = some u ∧ conK K d_FIRST_CELLS u) : Has P w K mg base (k + 1) "code_from" ["cell"] (lSp K (cl (fnC 2 1 (t_code_from )))) :=
  hasCw D b_code_from.2 c_code_from.2 sc_code_from (fun _ _ _ _ _ _ us hl => match us, hl with | [_], _ => rfl) (fun f cdv A outer s H E hr => j_code_from m_CODES m_FIRST_CELLS f cdv A outer s H E hr)
abbrev s_told_behind : Stmt := top 20
def b_told_behind : { b : List Stmt // defBody s_told_behind = b } := ⟨_, by (conv => lhs; whnf)⟩
def c_told_behind : { b : Scope // defScope s_told_behind = b } := ⟨_, by (conv => lhs; whnf)⟩
theorem sc_told_behind : FnScope ["code", "cells", "at", "kind", "short", "first", "boxes", "more"] ["code", "cells", "at"] c_told_behind.1 := ⟨rfl, rfl, rfl, by decide +kernel, rfl, by decide +kernel, by decide +kernel⟩
def t_told_behind (g_number_at : GN) (g_step_at : GN) (g_place_at : GN) : DS := (dSeq (dAsg (dVar 0) (dgTup 5 (dgCons (dgName 3) (dgCons (dgName 4) (dgCons (dgName 5) (dgCons (dgName 6) (dgCons (dgName 7) dgNil)))))))
  (dSeq (dIfS (dTest (dOp gEq (dVar 3) (dC (.str "set")))) (dRet (dTup (dCons (dCB g_number_at (dCons (dVar 1) (dCons (dOp gPlus (dVar 2) (dC (.int 1))) dNil))) dNil))) dNext)
  (dSeq (dIfS (dTest (dOp gIsB (dVar 4) (dC (.bl true)))) (dRet (dTup (dCons (dOp gPlus (dOp gPlus (dVar 2) (dC (.int 2))) (dCB g_step_at (dCons (dVar 1) (dCons (dOp gPlus (dVar 2) (dC (.int 1))) dNil)))) dNil))) dNext)
  (dRet (dCB gTuple (dCons (dNew (fComp [none, some 1] (iRng3D (dCons (dOp gPlus (dVar 2) (dC (.int 1))) (dCons (dOp gPlus (dOp gPlus (dVar 2) (dC (.int 1))) (dVar 7)) (dCons (dC (.int 2)) dNil)))) (dgName 0) dYes (dCB g_place_at (dCons (dVar 1) (dCons (dVar 0) dNil))))) dNil))))))
theorem j_told_behind {g_number_at : GN} {g_step_at : GN} {g_place_at : GN} (h_number_at : HasD P w K mg base k "number_at" ["cells", "at"] g_number_at) (h_step_at : HasD P w K mg base k "step_at" ["cells", "at"] g_step_at) (z_tuple : mg "tuple" = none) (z_range : mg "range" = none) (h_place_at : HasD P w K mg base k "place_at" ["cells", "at"] g_place_at) (f : Addr) (cdv : Value) (A : Around) (outer : List Env) (s : Shared) (H : Hp) (E : XK) (hr : Room k (A.deeper (envOfC "told_behind" c_told_behind.1 s.heap.objs.size f cdv))) :
    JB' (cxOf CX0 P w K mg base ["code", "cells", "at", "kind", "short", "first", "boxes", "more"] "told_behind" c_told_behind.1 f cdv A outer s H E).nox b_told_behind.1 (t_told_behind g_number_at g_step_at g_place_at) := by
  have hu := hu_of hr
  exact (jb_cons (js_asg (j_v 0) (jg_tup (jgs_cons (jg_name 3 sc_told_behind.nd) (jgs_cons (jg_name 4 sc_told_behind.nd) (jgs_cons (jg_name 5 sc_told_behind.nd) (jgs_cons (jg_name 6 sc_told_behind.nd) (jgs_cons (jg_name 7 sc_told_behind.nd) jgs_nil)))))))
      (jb_cons (js_if (jt_cmp (jc_eq hr.units) (j_v 3) j_str) (jb_one (js_ret (j_tup (ja_cons (j_fn h_number_at hr (ja_cons (j_v 1) (ja_cons (j_op jo_add (j_v 2) j_int) ja_nil))) ja_nil)))) jb_nil)
      (jb_cons (js_if (jt_cmp jc_isB (j_v 4) j_bl) (jb_one (js_ret (j_tup (ja_cons (j_op jo_add (j_op jo_add (j_v 2) j_int) (j_fn h_step_at hr (ja_cons (j_v 1) (ja_cons (j_op jo_add (j_v 2) j_int) ja_nil)))) ja_nil)))) jb_nil)
      (jb_one (js_ret (j_t jb_tuple z_tuple bo_tuple (ja_cons (j_new (jf_comp (N := ["place", "cells"]) (fr := [none, some 1]) (CompOk.of (N₀ := ["code", "cells", "at", "kind", "short", "first", "boxes", "more"]) (oscope := c_told_behind.1) (by decide +kernel)) (ji_range3 (ja_cons (j_op jo_add (j_v 2) j_int) (ja_cons (j_op jo_add (j_op jo_add (j_v 2) j_int) (j_v 7)) (ja_cons j_int ja_nil))) z_range) gl_name (fun _ _ _ _ _ => (jg_name 0 (show List.Nodup (["place", "cells"] : List Str) by decide +kernel))) (fun _ _ _ _ _ => jif_nil) (fun _ _ _ _ _ => (j_fn h_place_at hr (ja_cons (j_v 1) (ja_cons (j_v 0) ja_nil)))))) ja_nil)))))))
theorem o_told_behind {g_number_at : GN} {g_step_at : GN} {g_place_at : GN} (D : DefAt K mg "told_behind" s_told_behind) (h_number_at : HasD P w K mg base k "number_at" ["cells", "at"] g_number_at) (h_step_at : HasD P w K mg base k "step_at" ["cells", "at"] g_step_at) (z_tuple : mg "tuple" = none) (z_range : mg "range" = none) (h_place_at : HasD P w K mg base k "place_at" ["cells", "at"] g_place_at) : Has P w K mg base (k + 1) "told_behind" ["code", "cells", "at"] (lSp K (cl (fnC 8 3 (t_told_behind g_number_at g_step_at g_place_at)))) :=
  hasCw D b_told_behind.2 c_told_behind.2 sc_told_behind (fun _ _ _ _ _ _ us hl => match us, hl with | [_, _, _], _ => rfl) (fun f cdv A outer s H E hr => j_told_behind h_number_at h_step_at z_tuple z_range h_place_at f cdv A outer s H E hr)
abbrev s_read_code : Stmt := top 21
def b_read_code : { b : List Stmt // defBody s_read_code = b } := ⟨_, by (conv => lhs; whnf)⟩
def c_read_code : { b : Scope // defScope s_read_code = b } := ⟨_, by (conv => lhs; whnf)⟩
theorem sc_read_code : FnScope ["cells", "at", "code", "kind", "near", "first", "boxes", "more", "behind", "row"] ["cells", "at"] c_read_code.1 := ⟨rfl, rfl, rfl, by decide +kernel, rfl, by decide +kernel, by decide +kernel⟩
def t_read_code (g_code_from : GN) (g_boxes_in : GN) (g_told_behind : GN) : DS := (dSeq (dIfS (dNot (dTest (dChain gLe gLt (dC (.int 0)) (dVar 1) (dCB gLen (dCons (dVar 0) dNil))))) dNever dNext)
  (dSeq (dSet 2 (dCB g_code_from (dCons (dOp gIx (dVar 0) (dVar 1)) dNil)))
  (dSeq (dIfS (dTest (dOp gIs (dVar 2) (dC .non))) dNever dNext)
  (dSeq (dAsg (dVar 2) (dgTup 5 (dgCons (dgName 3) (dgCons (dgName 4) (dgCons (dgName 5) (dgCons (dgName 6) (dgCons (dgName 7) dgNil)))))))
  (dSeq (dSet 8 (dOp gPlus (dOp gPlus (dVar 1) (dC (.int 1))) (dVar 7)))
  (dSeq (dIfS (dTest (dOp (gI0 fun i j => .bl (decide (j < i))) (dVar 8) (dCB gLen (dCons (dVar 0) dNil)))) dNever dNext)
  (dSeq (dSet 9 (dOp gPlus (dOp gPlus (dTup (dCons (dVar 3) dNil)) (dCB g_boxes_in (dCons (dOp (gI0 fun i j => .int (i - j)) (dOp gIx (dVar 0) (dVar 1)) (dVar 5)) (dCons (dVar 6) dNil)))) (dCB g_told_behind (dCons (dVar 2) (dCons (dVar 0) (dCons (dVar 1) dNil))))))
  (dSeq (dIfS (dAnd (dTest (dOp gIsB (dVar 4) (dC (.bl true)))) (dNot (dTest (dChain gLe gLe (dC (.int 0)) (dOp gIx (dVar 9) (dNeg (dC (.int 1)))) (dC (.int 65535)))))) dNever dNext)
  (dRet (dTup (dCons (dVar 9) (dCons (dVar 4) (dCons (dVar 8) dNil)))))))))))))
theorem j_read_code {g_code_from : GN} {g_boxes_in : GN} {g_told_behind : GN} (z_len : mg "len" = none) (h_code_from : HasD P w K mg base k "code_from" ["cell"] g_code_from) (h_boxes_in : HasD P w K mg base k "boxes_in" ["number", "count"] g_boxes_in) (h_told_behind : HasD P w K mg base k "told_behind" ["code", "cells", "at"] g_told_behind) (e_LAST_PLACE : ∃ t, mg "LAST_PLACE" = some (.int 65535 t)) (f : Addr) (cdv : Value) (A : Around) (outer : List Env) (s : Shared) (H : Hp) (E : XK) (hr : Room k (A.deeper (envOfC "read_code" c_read_code.1 s.heap.objs.size f cdv))) :
    JB' (cxOf CX0 P w K mg base ["cells", "at", "code", "kind", "near", "first", "boxes", "more", "behind", "row"] "read_code" c_read_code.1 f cdv A outer s H E).nox b_read_code.1 (t_read_code g_code_from g_boxes_in g_told_behind) := by
  have hu := hu_of hr
  exact (jb_cons (js_if (jt_not (jt_chain jc_le jc_lt j_int (j_v 1) (j_b jb_len z_len bo_len (ja_cons (j_v 0) ja_nil)))) (jb_one js_never) jb_nil)
      (jb_cons (js_set 2 sc_read_code.nd (j_fn h_code_from hr (ja_cons (j_ix (jx hu) (j_v 0) (j_v 1)) ja_nil)))
      (jb_cons (js_if (jt_cmp jc_is (j_v 2) j_non) (jb_one js_never) jb_nil)
      (jb_cons (js_asg (j_v 2) (jg_tup (jgs_cons (jg_name 3 sc_read_code.nd) (jgs_cons (jg_name 4 sc_read_code.nd) (jgs_cons (jg_name 5 sc_read_code.nd) (jgs_cons (jg_name 6 sc_read_code.nd) (jgs_cons (jg_name 7 sc_read_code.nd) jgs_nil)))))))
      (jb_cons (js_set 8 sc_read_code.nd (j_op jo_add (j_op jo_add (j_v 1) j_int) (j_v 7)))
      (jb_cons (js_if (jt_cmp jc_gt (j_v 8) (j_b jb_len z_len bo_len (ja_cons (j_v 0) ja_nil))) (jb_one js_never) jb_nil)
      (jb_cons (js_set 9 sc_read_code.nd (j_op jo_add (j_op jo_add (j_tup (ja_cons (j_v 3) ja_nil)) (j_fn h_boxes_in hr (ja_cons (j_op jo_sub (j_ix (jx hu) (j_v 0) (j_v 1)) (j_v 5)) (ja_cons (j_v 6) ja_nil)))) (j_fn h_told_behind hr (ja_cons (j_v 2) (ja_cons (j_v 0) (ja_cons (j_v 1) ja_nil))))))
      (jb_cons (js_if (jt_of (jw_and (jt_cmp jc_isB (j_v 4) j_bl) (jw_and1 (jt_not (jt_chain jc_le jc_le j_int (j_ix (jx hu) (j_v 9) (j_neg j_int)) (j_globI e_LAST_PLACE)))))) (jb_one js_never) jb_nil)
      (jb_one (js_ret (j_tup (ja_cons (j_v 9) (ja_cons (j_v 4) (ja_cons (j_v 8) ja_nil))))))))))))))
theorem o_read_code {g_code_from : GN} {g_boxes_in : GN} {g_told_behind : GN} (D : DefAt K mg "read_code" s_read_code) (z_len : mg "len" = none) (h_code_from : HasD P w K mg base k "code_from" ["cell"] g_code_from) (h_boxes_in : HasD P w K mg base k "boxes_in" ["number", "count"] g_boxes_in) (h_told_behind : HasD P w K mg base k "told_behind" ["code", "cells", "at"] g_told_behind) (e_LAST_PLACE : ∃ t, mg "LAST_PLACE" = some (.int 65535 t)) : Has P w K mg base (k + 1) "read_code" ["cells", "at"] (lSp K (cl (fnC 10 2 (t_read_code g_code_from g_boxes_in g_told_behind)))) :=
  hasCw D b_read_code.2 c_read_code.2 sc_read_code (fun _ _ _ _ _ _ us hl => match us, hl with | [_, _], _ => rfl) (fun f cdv A outer s H E hr => j_read_code z_len h_code_from h_boxes_in h_told_behind e_LAST_PLACE f cdv A outer s H E hr)
abbrev s_behind_list : Stmt := top 22
def b_behind_list : { b : List Stmt // defBody s_behind_list = b } := ⟨_, by (conv => lhs; whnf)⟩
def c_behind_list : { b : Scope // defScope s_behind_list = b } := ⟨_, by (conv => lhs; whnf)⟩
theorem sc_behind_list : FnScope ["cells", "at", "cells_for_one", "behind"] ["cells", "at", "cells_for_one"] c_behind_list.1 := ⟨rfl, rfl, rfl, by decide +kernel, rfl, by decide +kernel, by decide +kernel⟩
def t_behind_list (g_place_at : GN) : DS := (dSeq (dIfS (dOr (dTest (dOp gLt (dVar 1) (dC (.int 0)))) (dTest (dOp (gI0 fun i j => .bl (decide (j < i))) (dOp gPlus (dVar 1) (dC (.int 2))) (dCB gLen (dCons (dVar 0) dNil))))) dNever dNext)
  (dSeq (dSet 3 (dOp gPlus (dOp gPlus (dVar 1) (dC (.int 2))) (dOp gMul (dVar 2) (dCB g_place_at (dCons (dVar 0) (dCons (dVar 1) dNil))))))
  (dSeq (dIfS (dTest (dOp (gI0 fun i j => .bl (decide (j < i))) (dVar 3) (dCB gLen (dCons (dVar 0) dNil)))) dNever dNext)
  (dRet (dVar 3)))))
theorem j_behind_list {g_place_at : GN} (z_len : mg "len" = none) (h_place_at : HasD P w K mg base k "place_at" ["cells", "at"] g_place_at) (f : Addr) (cdv : Value) (A : Around) (outer : List Env) (s : Shared) (H : Hp) (E : XK) (hr : Room k (A.deeper (envOfC "behind_list" c_behind_list.1 s.heap.objs.size f cdv))) :
    JB' (cxOf CX0 P w K mg base ["cells", "at", "cells_for_one", "behind"] "behind_list" c_behind_list.1 f cdv A outer s H E).nox b_behind_list.1 (t_behind_list g_place_at) := by
  have hu := hu_of hr
  exact (jb_cons (js_if (jt_of (jw_or (jt_cmp jc_lt (j_v 1) j_int) (jw_or1 (jt_cmp jc_gt (j_op jo_add (j_v 1) j_int) (j_b jb_len z_len bo_len (ja_cons (j_v 0) ja_nil)))))) (jb_one js_never) jb_nil)
      (jb_cons (js_set 3 sc_behind_list.nd (j_op jo_add (j_op jo_add (j_v 1) j_int) (j_op jo_mul (j_v 2) (j_fn h_place_at hr (ja_cons (j_v 0) (ja_cons (j_v 1) ja_nil))))))
      (jb_cons (js_if (jt_cmp jc_gt (j_v 3) (j_b jb_len z_len bo_len (ja_cons (j_v 0) ja_nil))) (jb_one js_never) jb_nil)
      (jb_one (js_ret (j_v 3))))))
theorem o_behind_list {g_place_at : GN} (D : DefAt K mg "behind_list" s_behind_list) (z_len : mg "len" = none) (h_place_at : HasD P w K mg base k "place_at" ["cells", "at"] g_place_at) : Has P w K mg base (k + 1) "behind_list" ["cells", "at", "cells_for_one"] (lSp K (cl (fnC 4 3 (t_behind_list g_place_at)))) :=
  hasCw D b_behind_list.2 c_behind_list.2 sc_behind_list (fun _ _ _ _ _ _ us hl => match us, hl with | [_, _, _], _ => rfl) (fun f cdv A outer s H E hr => j_behind_list z_len h_place_at f cdv A outer s H E hr)
abbrev s_read_numbers : Stmt := top 23
def b_read_numbers : { b : List Stmt // defBody s_read_numbers = b } := ⟨_, by (conv => lhs; whnf)⟩
def c_read_numbers : { b : Scope // defScope s_read_numbers = b } := ⟨_, by (conv => lhs; whnf)⟩
theorem sc_read_numbers : FnScope ["cells", "at", "behind"] ["cells", "at"] c_read_numbers.1 := ⟨rfl, rfl, rfl, by decide +kernel, rfl, by decide +kernel, by decide +kernel⟩
def t_read_numbers (g_behind_list : GN) (g_number_at : GN) : DS := (dSeq (dSet 2 (dCB g_behind_list (dCons (dVar 0) (dCons (dVar 1) (dCons (dC (.int 4)) dNil)))))
  (dRet (dTup (dCons (dOwn (fComp [none, some 0] (iRng3D (dCons (dOp gPlus (dVar 1) (dC (.int 2))) (dCons (dVar 2) (dCons (dC (.int 4)) dNil)))) (dgName 0) dYes (dCB g_number_at (dCons (dVar 1) (dCons (dVar 0) dNil))))) (dCons (dVar 2) dNil)))))
theorem j_read_numbers {g_behind_list : GN} {g_number_at : GN} (h_behind_list : HasD P w K mg base k "behind_list" ["cells", "at", "cells_for_one"] g_behind_list) (z_range : mg "range" = none) (h_number_at : HasD P w K mg base k "number_at" ["cells", "at"] g_number_at) (f : Addr) (cdv : Value) (A : Around) (outer : List Env) (s : Shared) (H : Hp) (E : XK) (hr : Room k (A.deeper (envOfC "read_numbers" c_read_numbers.1 s.heap.objs.size f cdv))) :
    JB' (cxOf CX0 P w K mg base ["cells", "at", "behind"] "read_numbers" c_read_numbers.1 f cdv A outer s H E).nox b_read_numbers.1 (t_read_numbers g_behind_list g_number_at) := by
  have hu := hu_of hr
  exact (jb_cons (js_set 2 sc_read_numbers.nd (j_fn h_behind_list hr (ja_cons (j_v 0) (ja_cons (j_v 1) (ja_cons j_int ja_nil)))))
      (jb_one (js_ret (j_tup (ja_cons (j_own (jf_comp (N := ["place", "cells"]) (fr := [none, some 0]) (CompOk.of (N₀ := ["cells", "at", "behind"]) (oscope := c_read_numbers.1) (by decide +kernel)) (ji_range3 (ja_cons (j_op jo_add (j_v 1) j_int) (ja_cons (j_v 2) (ja_cons j_int ja_nil))) z_range) gl_name (fun _ _ _ _ _ => (jg_name 0 (show List.Nodup (["place", "cells"] : List Str) by decide +kernel))) (fun _ _ _ _ _ => jif_nil) (fun _ _ _ _ _ => (j_fn h_number_at hr (ja_cons (j_v 1) (ja_cons (j_v 0) ja_nil)))))) (ja_cons (j_v 2) ja_nil))))))
theorem o_read_numbers {g_behind_list : GN} {g_number_at : GN} (D : DefAt K mg "read_numbers" s_read_numbers) (h_behind_list : HasD P w K mg base k "behind_list" ["cells", "at", "cells_for_one"] g_behind_list) (z_range : mg "range" = none) (h_number_at : HasD P w K mg base k "number_at" ["cells", "at"] g_number_at) : Has P w K mg base (k + 1) "read_numbers" ["cells", "at"] (lSp K (fnG 3 2 (t_read_numbers g_behind_list g_number_at))) :=
  hasGw D b_read_numbers.2 c_read_numbers.2 sc_read_numbers (fun _ _ _ _ _ _ us hl => match us, hl with | [_, _], _ => rfl) (fun f cdv A outer s H E hr => j_read_numbers h_behind_list z_range h_number_at f cdv A outer s H E hr)
abbrev s_read_table : Stmt := top 24
def b_read_table : { b : List Stmt // defBody s_read_table = b } := ⟨_, by (conv => lhs; whnf)⟩
def c_read_table : { b : Scope // defScope s_read_table = b } := ⟨_, by (conv => lhs; whnf)⟩
theorem sc_read_table : FnScope ["cells", "at", "behind"] ["cells", "at"] c_read_table.1 := ⟨rfl, rfl, rfl, by decide +kernel, rfl, by decide +kernel, by decide +kernel⟩
def t_read_table (g_behind_list : GN) (g_place_at : GN) : DS := (dSeq (dSet 2 (dCB g_behind_list (dCons (dVar 0) (dCons (dVar 1) (dCons (dC (.int 2)) dNil)))))
  (dRet (dTup (dCons (dOwn (fComp [none, some 0] (iRng3D (dCons (dOp gPlus (dVar 1) (dC (.int 2))) (dCons (dVar 2) (dCons (dC (.int 2)) dNil)))) (dgName 0) dYes (dCB g_place_at (dCons (dVar 1) (dCons (dVar 0) dNil))))) (dCons (dVar 2) dNil)))))
theorem j_read_table {g_behind_list : GN} {g_place_at : GN} (h_behind_list : HasD P w K mg base k "behind_list" ["cells", "at", "cells_for_one"] g_behind_list) (z_range : mg "range" = none) (h_place_at : HasD P w K mg base k "place_at" ["cells", "at"] g_place_at) (f : Addr) (cdv : Value) (A : Around) (outer : List Env) (s : Shared) (H : Hp) (E : XK) (hr : Room k (A.deeper (envOfC "read_table" c_read_table.1 s.heap.objs.size f cdv))) :
    JB' (cxOf CX0 P w K mg base ["cells", "at", "behind"] "read_table" c_read_table.1 f cdv A outer s H E).nox b_read_table.1 (t_read_table g_behind_list g_place_at) := by
  have hu := hu_of hr
  exact (jb_cons (js_set 2 sc_read_table.nd (j_fn h_behind_list hr (ja_cons (j_v 0) (ja_cons (j_v 1) (ja_cons j_int ja_nil)))))
      (jb_one (js_ret (j_tup (ja_cons (j_own (jf_comp (N := ["place", "cells"]) (fr := [none, some 0]) (CompOk.of (N₀ := ["cells", "at", "behind"]) (oscope := c_read_table.1) (by decide +kernel)) (ji_range3 (ja_cons (j_op jo_add (j_v 1) j_int) (ja_cons (j_v 2) (ja_cons j_int ja_nil))) z_range) gl_name (fun _ _ _ _ _ => (jg_name 0 (show List.Nodup (["place", "cells"] : List Str) by decide +kernel))) (fun _ _ _ _ _ => jif_nil) (fun _ _ _ _ _ => (j_fn h_place_at hr (ja_cons (j_v 1) (ja_cons (j_v 0) ja_nil)))))) (ja_cons (j_v 2) ja_nil))))))
theorem o_read_table {g_behind_list : GN} {g_place_at : GN} (D : DefAt K mg "read_table" s_read_table) (h_behind_list : HasD P w K mg base k "behind_list" ["cells", "at", "cells_for_one"] g_behind_list) (z_range : mg "range" = none) (h_place_at : HasD P w K mg base k "place_at" ["cells", "at"] g_place_at) : Has P w K mg base (k + 1) "read_table" ["cells", "at"] (lSp K (fnG 3 2 (t_read_table g_behind_list g_place_at))) :=
  hasGw D b_read_table.2 c_read_table.2 sc_read_table (fun _ _ _ _ _ _ us hl => match us, hl with | [_, _], _ => rfl) (fun f cdv A outer s H E hr => j_read_table h_behind_list z_range h_place_at f cdv A outer s H E hr)
abbrev s_law_mixed : Stmt := top 27
def b_law_mixed : { b : List Stmt // defBody s_law_mixed = b } := ⟨_, by (conv => lhs; whnf)⟩
def c_law_mixed : { b : Scope // defScope s_law_mixed = b } := ⟨_, by (conv => lhs; whnf)⟩
theorem sc_law_mixed : FnScope ["_law_draw", "_law_k", "_law_number_here"] ["_law_draw", "_law_k"] c_law_mixed.1 := ⟨rfl, rfl, rfl, by decide +kernel, rfl, by decide +kernel, by decide +kernel⟩
def t_law_mixed  : DS := (dSeq (dSet 2 (dOp (gI (fun _ j => 0 < j) fun i j => .int (i % j)) (dOp gMul (dOp gPlus (dOp gPlus (dOp (gI (fun _ j => 0 < j) fun i j => .int (i % j)) (dVar 0) (dC (.int 2147483629))) (dOp gMul (dC (.int 69621)) (dVar 1))) (dC (.int 1))) (dOp gPlus (dC (.int 48271)) (dOp gMul (dC (.int 2)) (dVar 1)))) (dC (.int 2147483629))))
  (dSeq (dSet 2 (dOp (gI (fun _ j => 0 < j) fun i j => .int (i % j)) (dOp gMul (dVar 2) (dOp gPlus (dOp (gI CDivL fun i j => .int (i / j)) (dVar 2) (dC (.int 1009))) (dC (.int 69621)))) (dC (.int 2147483629))))
  (dRet (dOp (gI (fun _ j => 0 < j) fun i j => .int (i % j)) (dOp gMul (dVar 2) (dOp gPlus (dOp gPlus (dOp (gI CDivL fun i j => .int (i / j)) (dVar 2) (dC (.int 907))) (dC (.int 16807))) (dVar 1))) (dC (.int 2147483629))))))
theorem j_law_mixed   (f : Addr) (cdv : Value) (A : Around) (outer : List Env) (s : Shared) (H : Hp) (E : XK) (hr : Room k (A.deeper (envOfC "_law_mixed" c_law_mixed.1 s.heap.objs.size f cdv))) :
    JB' (cxOf CX0 P w K mg base ["_law_draw", "_law_k", "_law_number_here"] "_law_mixed" c_law_mixed.1 f cdv A outer s H E).nox b_law_mixed.1 (t_law_mixed ) := by
  have hu := hu_of hr
  exact (jb_cons (js_set 2 sc_law_mixed.nd (j_op jo_mod (j_op jo_mul (j_op jo_add (j_op jo_add (j_op jo_mod (j_v 0) j_int) (j_op jo_mul j_int (j_v 1))) j_int) (j_op jo_add j_int (j_op jo_mul j_int (j_v 1)))) j_int))
      (jb_cons (js_set 2 sc_law_mixed.nd (j_op jo_mod (j_op jo_mul (j_v 2) (j_op jo_add (j_op jo_fdivL (j_v 2) j_int) j_int)) j_int))
      (jb_one (js_ret (j_op jo_mod (j_op jo_mul (j_v 2) (j_op jo_add (j_op jo_add (j_op jo_fdivL (j_v 2) j_int) j_int) (j_v 1))) j_int)))))
theorem o_law_mixed  (D : DefAt K mg "_law_mixed" s_law_mixed)  : Has P w K mg base (k + 1) "_law_mixed" ["_law_draw", "_law_k"] (lSp K (cl (fnC 3 2 (t_law_mixed )))) :=
  hasCw D b_law_mixed.2 c_law_mixed.2 sc_law_mixed (fun _ _ _ _ _ _ us hl => match us, hl with | [_, _], _ => rfl) (fun f cdv A outer s H E hr => j_law_mixed  f cdv A outer s H E hr)
abbrev s_law_next : Stmt := top 28
def b_law_next : { b : List Stmt // defBody s_law_next = b } := ⟨_, by (conv => lhs; whnf)⟩
def c_law_next : { b : Scope // defScope s_law_next = b } := ⟨_, by (conv => lhs; whnf)⟩
theorem sc_law_next : FnScope ["_law_source_here", "_law_many", "_law_found"] ["_law_source_here", "_law_many"] c_law_next.1 := ⟨rfl, rfl, rfl, by decide +kernel, rfl, by decide +kernel, by decide +kernel⟩
def t_law_next (g_law_mixed : GN) : DS := (dSeq (dIfS (dAnd (dTest (dOp gEq (dOp gIx (dVar 0) (dC (.int 1))) (dC (.int 0)))) (dTest (dOp (gI0 fun i j => .bl (decide (j < i))) (dOp gIx (dVar 0) (dC (.int 0))) (dC (.int 1))))) (dSeq (dSet 2 (dOp (gI (fun _ j => 0 < j) fun i j => .int (i % j)) (dOp gIx (dVar 0) (dC (.int 0))) (dVar 1)))
  (dSeq (dAsg (dOp (gI CDivL fun i j => .int (i / j)) (dOp gIx (dVar 0) (dC (.int 0))) (dVar 1)) (dgSub (dVar 0) (dC (.int 0))))
  (dRet (dVar 2)))) dNext)
  (dSeq (dAsg (dOp gPlus (dOp gIx (dVar 0) (dC (.int 2))) (dC (.int 1))) (dgSub (dVar 0) (dC (.int 2))))
  (dRet (dOp (gI (fun _ j => 0 < j) fun i j => .int (i % j)) (dCB g_law_mixed (dCons (dOp gIx (dVar 0) (dC (.int 3))) (dCons (dOp gIx (dVar 0) (dC (.int 2))) dNil))) (dVar 1)))))
theorem j_law_next {g_law_mixed : GN} (h_law_mixed : HasD P w K mg base k "_law_mixed" ["_law_draw", "_law_k"] g_law_mixed) (f : Addr) (cdv : Value) (A : Around) (outer : List Env) (s : Shared) (H : Hp) (E : XK) (hr : Room k (A.deeper (envOfC "_law_next" c_law_next.1 s.heap.objs.size f cdv))) :
    JB' (cxOf CX0 P w K mg base ["_law_source_here", "_law_many", "_law_found"] "_law_next" c_law_next.1 f cdv A outer s H E).nox b_law_next.1 (t_law_next g_law_mixed) := by
  have hu := hu_of hr
  exact (jb_cons (js_if (jt_of (jw_and (jt_cmp (jc_eq hr.units) (j_ix (jx hu) (j_v 0) j_int) j_int) (jw_and1 (jt_cmp jc_gt (j_ix (jx hu) (j_v 0) j_int) j_int)))) (jb_cons (js_set 2 sc_law_next.nd (j_op jo_mod (j_ix (jx hu) (j_v 0) j_int) (j_v 1)))
      (jb_cons (js_asg (j_op jo_fdivL (j_ix (jx hu) (j_v 0) j_int) (j_v 1)) (jg_sub (j_v 0) j_int))
      (jb_one (js_ret (j_v 2))))) jb_nil)
      (jb_cons (js_asg (j_op jo_add (j_ix (jx hu) (j_v 0) j_int) j_int) (jg_sub (j_v 0) j_int))
      (jb_one (js_ret (j_op jo_mod (j_fn h_law_mixed hr (ja_cons (j_ix (jx hu) (j_v 0) j_int) (ja_cons (j_ix (jx hu) (j_v 0) j_int) ja_nil))) (j_v 1))))))
theorem o_law_next {g_law_mixed : GN} (D : DefAt K mg "_law_next" s_law_next) (h_law_mixed : HasD P w K mg base k "_law_mixed" ["_law_draw", "_law_k"] g_law_mixed) : Has P w K mg base (k + 1) "_law_next" ["_law_source_here", "_law_many"] (lSp K (fnG 3 2 (t_law_next g_law_mixed))) :=
  hasGw D b_law_next.2 c_law_next.2 sc_law_next (fun _ _ _ _ _ _ us hl => match us, hl with | [_, _], _ => rfl) (fun f cdv A outer s H E hr => j_law_next h_law_mixed f cdv A outer s H E hr)
abbrev s_law_source : Stmt := top 29
def b_law_source : { b : List Stmt // defBody s_law_source = b } := ⟨_, by (conv => lhs; whnf)⟩
def c_law_source : { b : Scope // defScope s_law_source = b } := ⟨_, by (conv => lhs; whnf)⟩
theorem sc_law_source : FnScope ["_law_draw"] ["_law_draw"] c_law_source.1 := ⟨rfl, rfl, rfl, by decide +kernel, rfl, by decide +kernel, by decide +kernel⟩
def t_law_source  : DS := (dRet (dOwn (fLst (dCons (dOp (gI CDivL fun i j => .int (i / j)) (dVar 0) (dC (.int 2))) (dCons (dOp (gI (fun _ j => 0 < j) fun i j => .int (i % j)) (dVar 0) (dC (.int 2))) (dCons (dC (.int 0)) (dCons (dVar 0) dNil)))))))
theorem j_law_source   (f : Addr) (cdv : Value) (A : Around) (outer : List Env) (s : Shared) (H : Hp) (E : XK) (hr : Room k (A.deeper (envOfC "_law_source" c_law_source.1 s.heap.objs.size f cdv))) :
    JB' (cxOf CX0 P w K mg base ["_law_draw"] "_law_source" c_law_source.1 f cdv A outer s H E).nox b_law_source.1 (t_law_source ) := by
  have hu := hu_of hr
  exact (jb_one (js_ret (j_own (jf_lst (ja_cons (j_op jo_fdivL (j_v 0) j_int) (ja_cons (j_op jo_mod (j_v 0) j_int) (ja_cons j_int (ja_cons (j_v 0) ja_nil))))))))
theorem o_law_source  (D : DefAt K mg "_law_source" s_law_source)  : Has P w K mg base (k + 1) "_law_source" ["_law_draw"] (lSp K (fnG 1 1 (t_law_source ))) :=
  hasGw D b_law_source.2 c_law_source.2 sc_law_source (fun _ _ _ _ _ _ us hl => match us, hl with | [_], _ => rfl) (fun f cdv A outer s H E hr => j_law_source  f cdv A outer s H E hr)
abbrev s_law_number : Stmt := top 30
def b_law_number : { b : List Stmt // defBody s_law_number = b } := ⟨_, by (conv => lhs; whnf)⟩
def c_law_number : { b : Scope // defScope s_law_number = b } := ⟨_, by (conv => lhs; whnf)⟩
theorem sc_law_number : FnScope ["_law_source_here", "_law_way"] ["_law_source_here"] c_law_number.1 := ⟨rfl, rfl, rfl, by decide +kernel, rfl, by decide +kernel, by decide +kernel⟩
def t_law_number (g_law_next : GN) : DS := (dSeq (dSet 1 (dCB g_law_next (dCons (dVar 0) (dCons (dC (.int 4)) dNil))))
  (dSeq (dIfS (dTest (dOp gEq (dVar 1) (dC (.int 0)))) (dRet (dOp (gI0 fun i j => .int (i - j)) (dCB g_law_next (dCons (dVar 0) (dCons (dC (.int 600)) dNil))) (dC (.int 300)))) dNext)
  (dSeq (dIfS (dTest (dOp gEq (dVar 1) (dC (.int 1)))) (dRet (dOp gIx (dNew (fLst (dCons (dC (.int 0)) (dCons (dNeg (dC (.int 1))) (dCons (dC (.int 2147483647)) (dCons (dNeg (dC (.int 2147483648))) (dCons (dC (.int 65536)) (dCons (dC (.int 255)) (dCons (dC (.int 256)) (dCons (dNeg (dC (.int 256))) dNil)))))))))) (dCB g_law_next (dCons (dVar 0) (dCons (dC (.int 8)) dNil))))) dNext)
  (dRet (dOp (gI0 fun i j => .int (i - j)) (dCB g_law_next (dCons (dVar 0) (dCons (dC (.int 4294967296)) dNil))) (dC (.int 2147483648)))))))
theorem j_law_number {g_law_next : GN} (h_law_next : HasD P w K mg base k "_law_next" ["_law_source_here", "_law_many"] g_law_next) (f : Addr) (cdv : Value) (A : Around) (outer : List Env) (s : Shared) (H : Hp) (E : XK) (hr : Room k (A.deeper (envOfC "_law_number" c_law_number.1 s.heap.objs.size f cdv))) :
    JB' (cxOf CX0 P w K mg base ["_law_source_here", "_law_way"] "_law_number" c_law_number.1 f cdv A outer s H E).nox b_law_number.1 (t_law_number g_law_next) := by
  have hu := hu_of hr
  exact (jb_cons (js_set 1 sc_law_number.nd (j_fn h_law_next hr (ja_cons (j_v 0) (ja_cons j_int ja_nil))))
      (jb_cons (js_if (jt_cmp (jc_eq hr.units) (j_v 1) j_int) (jb_one (js_ret (j_op jo_sub (j_fn h_law_next hr (ja_cons (j_v 0) (ja_cons j_int ja_nil))) j_int))) jb_nil)
      (jb_cons (js_if (jt_cmp (jc_eq hr.units) (j_v 1) j_int) (jb_one (js_ret (j_ix (jx hu) (j_new (jf_lst (ja_cons j_int (ja_cons (j_neg j_int) (ja_cons j_int (ja_cons (j_neg j_int) (ja_cons j_int (ja_cons j_int (ja_cons j_int (ja_cons (j_neg j_int) ja_nil)))))))))) (j_fn h_law_next hr (ja_cons (j_v 0) (ja_cons j_int ja_nil)))))) jb_nil)
      (jb_one (js_ret (j_op jo_sub (j_fn h_law_next hr (ja_cons (j_v 0) (ja_cons j_int ja_nil))) j_int))))))
theorem o_law_number {g_law_next : GN} (D : DefAt K mg "_law_number" s_law_number) (h_law_next : HasD P w K mg base k "_law_next" ["_law_source_here", "_law_many"] g_law_next) : Has P w K mg base (k + 1) "_law_number" ["_law_source_here"] (lSp K (fnG 2 1 (t_law_number g_law_next))) :=
  hasGw D b_law_number.2 c_law_number.2 sc_law_number (fun _ _ _ _ _ _ us hl => match us, hl with | [_], _ => rfl) (fun f cdv A outer s H E hr => j_law_number h_law_next f cdv A outer s H E hr)
abbrev s_law_place : Stmt := top 31
def b_law_place : { b : List Stmt // defBody s_law_place = b } := ⟨_, by (conv => lhs; whnf)⟩
def c_law_place : { b : Scope // defScope s_law_place = b } := ⟨_, by (conv => lhs; whnf)⟩
theorem sc_law_place : FnScope ["_law_source_here"] ["_law_source_here"] c_law_place.1 := ⟨rfl, rfl, rfl, by decide +kernel, rfl, by decide +kernel, by decide +kernel⟩
def t_law_place (g_law_next : GN) : DS := (dSeq (dIfS (dTest (dOp gEq (dCB g_law_next (dCons (dVar 0) (dCons (dC (.int 3)) dNil))) (dC (.int 0)))) (dRet (dOp gIx (dNew (fLst (dCons (dC (.int 0)) (dCons (dC (.int 1)) (dCons (dC (.int 255)) (dCons (dC (.int 256)) (dCons (dC (.int 65535)) (dCons (dC (.int 65280)) dNil)))))))) (dCB g_law_next (dCons (dVar 0) (dCons (dC (.int 6)) dNil))))) dNext)
  (dRet (dCB g_law_next (dCons (dVar 0) (dCons (dC (.int 65536)) dNil)))))
theorem j_law_place {g_law_next : GN} (h_law_next : HasD P w K mg base k "_law_next" ["_law_source_here", "_law_many"] g_law_next) (f : Addr) (cdv : Value) (A : Around) (outer : List Env) (s : Shared) (H : Hp) (E : XK) (hr : Room k (A.deeper (envOfC "_law_place" c_law_place.1 s.heap.objs.size f cdv))) :
    JB' (cxOf CX0 P w K mg base ["_law_source_here"] "_law_place" c_law_place.1 f cdv A outer s H E).nox b_law_place.1 (t_law_place g_law_next) := by
  have hu := hu_of hr
  exact (jb_cons (js_if (jt_cmp (jc_eq hr.units) (j_fn h_law_next hr (ja_cons (j_v 0) (ja_cons j_int ja_nil))) j_int) (jb_one (js_ret (j_ix (jx hu) (j_new (jf_lst (ja_cons j_int (ja_cons j_int (ja_cons j_int (ja_cons j_int (ja_cons j_int (ja_cons j_int ja_nil)))))))) (j_fn h_law_next hr (ja_cons (j_v 0) (ja_cons j_int ja_nil)))))) jb_nil)
      (jb_one (js_ret (j_fn h_law_next hr (ja_cons (j_v 0) (ja_cons j_int ja_nil))))))
theorem o_law_place {g_law_next : GN} (D : DefAt K mg "_law_place" s_law_place) (h_law_next : HasD P w K mg base k "_law_next" ["_law_source_here", "_law_many"] g_law_next) : Has P w K mg base (k + 1) "_law_place" ["_law_source_here"] (lSp K (fnG 1 1 (t_law_place g_law_next))) :=
  hasGw D b_law_place.2 c_law_place.2 sc_law_place (fun _ _ _ _ _ _ us hl => match us, hl with | [_], _ => rfl) (fun f cdv A outer s H E hr => j_law_place h_law_next f cdv A outer s H E hr)
abbrev s_law_row : Stmt := top 32
def b_law_row : { b : List Stmt // defBody s_law_row = b } := ⟨_, by (conv => lhs; whnf)⟩
def c_law_row : { b : Scope // defScope s_law_row = b } := ⟨_, by (conv => lhs; whnf)⟩
theorem sc_law_row : FnScope ["_law_source_here", "_law_at", "_law_kinds", "_law_kind", "_law_b", "_law_c", "_law_near", "_law_place_here", "_law_boxes"] ["_law_source_here", "_law_at"] c_law_row.1 := ⟨rfl, rfl, rfl, by decide +kernel, rfl, by decide +kernel, by decide +kernel⟩
def t_law_row (g_law_next : GN) (g_law_number : GN) (g_law_place : GN) : DS := (dSeq (dSet 2 (dNew (fLst (dCons (dC (.str "set")) (dCons (dC (.str "add")) (dCons (dC (.str "take")) (dCons (dC (.str "say")) (dCons (dC (.str "ask")) (dCons (dC (.str "jump")) (dCons (dC (.str "jumpif")) (dCons (dC (.str "call")) (dCons (dC (.str "back")) (dCons (dC (.str "stop")) (dCons (dC (.str "load")) (dCons (dC (.str "jumpby")) (dCons (dC (.str "alike")) dNil))))))))))))))))
  (dSeq (dSet 3 (dOp gIx (dVar 2) (dCB g_law_next (dCons (dVar 0) (dCons (dC (.int 13)) dNil)))))
  (dSeq (dSet 4 (dCB g_law_next (dCons (dVar 0) (dCons (dC (.int 4)) dNil))))
  (dSeq (dSet 5 (dCB g_law_next (dCons (dVar 0) (dCons (dC (.int 4)) dNil))))
  (dSeq (dIfS (dTest (dOp gEq (dVar 3) (dC (.str "set")))) (dRet (dTup (dCons (dTup (dCons (dC (.str "set")) (dCons (dVar 4) (dCons (dCB g_law_number (dCons (dVar 0) dNil)) dNil)))) (dCons (dC .non) dNil)))) dNext)
  (dSeq (dIfS (dTest (dOp (gIn false) (dVar 3) (dTup (dCons (dC (.str "add")) (dCons (dC (.str "take")) dNil))))) (dRet (dTup (dCons (dTup (dCons (dVar 3) (dCons (dVar 4) (dCons (dVar 5) dNil)))) (dCons (dC .non) dNil)))) dNext)
  (dSeq (dIfS (dTest (dOp (gIn false) (dVar 3) (dTup (dCons (dC (.str "say")) (dCons (dC (.str "ask")) dNil))))) (dRet (dTup (dCons (dTup (dCons (dVar 3) (dCons (dVar 4) dNil))) (dCons (dC .non) dNil)))) dNext)
  (dSeq (dIfS (dTest (dOp (gIn false) (dVar 3) (dTup (dCons (dC (.str "back")) (dCons (dC (.str "stop")) dNil))))) (dRet (dTup (dCons (dTup (dCons (dVar 3) dNil)) (dCons (dC .non) dNil)))) dNext)
  (dSeq (dIfS (dTest (dOp gEq (dVar 3) (dC (.str "alike")))) (dRet (dTup (dCons (dTup (dCons (dC (.str "alike")) (dCons (dVar 4) (dCons (dCB g_law_place (dCons (dVar 0) dNil)) (dCons (dCB g_law_place (dCons (dVar 0) dNil)) dNil))))) (dCons (dC .non) dNil)))) dNext)
  (dSeq (dSet 6 (dOp gEq (dCB g_law_next (dCons (dVar 0) (dCons (dC (.int 2)) dNil))) (dC (.int 0))))
  (dSeq (dSet 7 (dCB g_law_place (dCons (dVar 0) dNil)))
  (dSeq (dIfS (dTest (dVar 6)) (dSeq (dSet 7 (dOp (gI0 fun i j => .int (i - j)) (dOp gPlus (dOp gPlus (dVar 1) (dC (.int 2))) (dCB g_law_next (dCons (dVar 0) (dCons (dC (.int 256)) dNil)))) (dC (.int 128))))
  (dIfS (dNot (dTest (dChain gLe gLt (dC (.int 0)) (dVar 7) (dC (.int 65536))))) (dSet 7 (dVar 1)) dNext)) dNext)
  (dSeq (dSet 8 (dOp gIx (dNew (fDisp [((dC (.str "jump")), (dTup dNil)), ((dC (.str "call")), (dTup dNil)), ((dC (.str "jumpif")), (dTup (dCons (dVar 4) dNil))), ((dC (.str "jumpby")), (dTup (dCons (dVar 4) dNil))), ((dC (.str "load")), (dTup (dCons (dVar 4) (dCons (dVar 5) dNil))))])) (dVar 3)))
  (dRet (dTup (dCons (dOp gPlus (dOp gPlus (dTup (dCons (dVar 3) dNil)) (dVar 8)) (dTup (dCons (dVar 7) dNil))) (dCons (dVar 6) dNil)))))))))))))))))
theorem j_law_row {g_law_next : GN} {g_law_number : GN} {g_law_place : GN} (h_law_next : HasD P w K mg base k "_law_next" ["_law_source_here", "_law_many"] g_law_next) (h_law_number : HasD P w K mg base k "_law_number" ["_law_source_here"] g_law_number) (h_law_place : HasD P w K mg base k "_law_place" ["_law_source_here"] g_law_place) (f : Addr) (cdv : Value) (A : Around) (outer : List Env) (s : Shared) (H : Hp) (E : XK) (hr : Room k (A.deeper (envOfC "_law_row" c_law_row.1 s.heap.objs.size f cdv))) :
    JB' (cxOf CX0 P w K mg base ["_law_source_here", "_law_at", "_law_kinds", "_law_kind", "_law_b", "_law_c", "_law_near", "_law_place_here", "_law_boxes"] "_law_row" c_law_row.1 f cdv A outer s H E).nox b_law_row.1 (t_law_row g_law_next g_law_number g_law_place) := by
  have hu := hu_of hr
  exact (jb_cons (js_set 2 sc_law_row.nd (j_new (jf_lst (ja_cons j_str (ja_cons j_str (ja_cons j_str (ja_cons j_str (ja_cons j_str (ja_cons j_str (ja_cons j_str (ja_cons j_str (ja_cons j_str (ja_cons j_str (ja_cons j_str (ja_cons j_str (ja_cons j_str ja_nil))))))))))))))))
      (jb_cons (js_set 3 sc_law_row.nd (j_ix (jx hu) (j_v 2) (j_fn h_law_next hr (ja_cons (j_v 0) (ja_cons j_int ja_nil)))))
      (jb_cons (js_set 4 sc_law_row.nd (j_fn h_law_next hr (ja_cons (j_v 0) (ja_cons j_int ja_nil))))
      (jb_cons (js_set 5 sc_law_row.nd (j_fn h_law_next hr (ja_cons (j_v 0) (ja_cons j_int ja_nil))))
      (jb_cons (js_if (jt_cmp (jc_eq hr.units) (j_v 3) j_str) (jb_one (js_ret (j_tup (ja_cons (j_tup (ja_cons j_str (ja_cons (j_v 4) (ja_cons (j_fn h_law_number hr (ja_cons (j_v 0) ja_nil)) ja_nil)))) (ja_cons j_non ja_nil))))) jb_nil)
      (jb_cons (js_if (jt_cmp (jc_in hu) (j_v 3) (j_tup (ja_cons j_str (ja_cons j_str ja_nil)))) (jb_one (js_ret (j_tup (ja_cons (j_tup (ja_cons (j_v 3) (ja_cons (j_v 4) (ja_cons (j_v 5) ja_nil)))) (ja_cons j_non ja_nil))))) jb_nil)
      (jb_cons (js_if (jt_cmp (jc_in hu) (j_v 3) (j_tup (ja_cons j_str (ja_cons j_str ja_nil)))) (jb_one (js_ret (j_tup (ja_cons (j_tup (ja_cons (j_v 3) (ja_cons (j_v 4) ja_nil))) (ja_cons j_non ja_nil))))) jb_nil)
      (jb_cons (js_if (jt_cmp (jc_in hu) (j_v 3) (j_tup (ja_cons j_str (ja_cons j_str ja_nil)))) (jb_one (js_ret (j_tup (ja_cons (j_tup (ja_cons (j_v 3) ja_nil)) (ja_cons j_non ja_nil))))) jb_nil)
      (jb_cons (js_if (jt_cmp (jc_eq hr.units) (j_v 3) j_str) (jb_one (js_ret (j_tup (ja_cons (j_tup (ja_cons j_str (ja_cons (j_v 4) (ja_cons (j_fn h_law_place hr (ja_cons (j_v 0) ja_nil)) (ja_cons (j_fn h_law_place hr (ja_cons (j_v 0) ja_nil)) ja_nil))))) (ja_cons j_non ja_nil))))) jb_nil)
      (jb_cons (js_set 6 sc_law_row.nd (j_cmp (jc_eq hr.units) (j_fn h_law_next hr (ja_cons (j_v 0) (ja_cons j_int ja_nil))) j_int))
      (jb_cons (js_set 7 sc_law_row.nd (j_fn h_law_place hr (ja_cons (j_v 0) ja_nil)))
      (jb_cons (js_if (jt_val (j_v 6)) (jb_cons (js_set 7 sc_law_row.nd (j_op jo_sub (j_op jo_add (j_op jo_add (j_v 1) j_int) (j_fn h_law_next hr (ja_cons (j_v 0) (ja_cons j_int ja_nil)))) j_int))
      (jb_one (js_if (jt_not (jt_chain jc_le jc_lt j_int (j_v 7) j_int)) (jb_one (js_set 7 sc_law_row.nd (j_v 1))) jb_nil))) jb_nil)
      (jb_cons (js_set 8 sc_law_row.nd (j_ix (jx hu) (j_new (jf_disp (jp_cons j_str (j_tup ja_nil) (jp_cons j_str (j_tup ja_nil) (jp_cons j_str (j_tup (ja_cons (j_v 4) ja_nil)) (jp_cons j_str (j_tup (ja_cons (j_v 4) ja_nil)) (jp_cons j_str (j_tup (ja_cons (j_v 4) (ja_cons (j_v 5) ja_nil))) jp_nil))))) rfl rfl (List.cons_ne_nil _ _) (Nat.le_of_ble_eq_true rfl))) (j_v 3)))
      (jb_one (js_ret (j_tup (ja_cons (j_op jo_add (j_op jo_add (j_tup (ja_cons (j_v 3) ja_nil)) (j_v 8)) (j_tup (ja_cons (j_v 7) ja_nil))) (ja_cons (j_v 6) ja_nil))))))))))))))))))
theorem o_law_row {g_law_next : GN} {g_law_number : GN} {g_law_place : GN} (D : DefAt K mg "_law_row" s_law_row) (h_law_next : HasD P w K mg base k "_law_next" ["_law_source_here", "_law_many"] g_law_next) (h_law_number : HasD P w K mg base k "_law_number" ["_law_source_here"] g_law_number) (h_law_place : HasD P w K mg base k "_law_place" ["_law_source_here"] g_law_place) : Has P w K mg base (k + 1) "_law_row" ["_law_source_here", "_law_at"] (lSp K (fnG 9 2 (t_law_row g_law_next g_law_number g_law_place))) :=
  hasGw D b_law_row.2 c_law_row.2 sc_law_row (fun _ _ _ _ _ _ us hl => match us, hl with | [_, _], _ => rfl) (fun f cdv A outer s H E hr => j_law_row h_law_next h_law_number h_law_place f cdv A outer s H E hr)
abbrev s_law_two : Stmt := top 33
def b_law_two : { b : List Stmt // defBody s_law_two = b } := ⟨_, by (conv => lhs; whnf)⟩
def c_law_two : { b : Scope // defScope s_law_two = b } := ⟨_, by (conv => lhs; whnf)⟩
theorem sc_law_two : FnScope ["_law_number_here"] ["_law_number_here"] c_law_two.1 := ⟨rfl, rfl, rfl, by decide +kernel, rfl, by decide +kernel, by decide +kernel⟩
def t_law_two  : DS := (dRet (dNew (fLst (dCons (dOp (gI CDivL fun i j => .int (i / j)) (dVar 0) (dC (.int 256))) (dCons (dOp (gI (fun _ j => 0 < j) fun i j => .int (i % j)) (dVar 0) (dC (.int 256))) dNil)))))
theorem j_law_two   (f : Addr) (cdv : Value) (A : Around) (outer : List Env) (s : Shared) (H : Hp) (E : XK) (hr : Room k (A.deeper (envOfC "_law_two" c_law_two.1 s.heap.objs.size f cdv))) :
    JB' (cxOf CX0 P w K mg base ["_law_number_here"] "_law_two" c_law_two.1 f cdv A outer s H E).nox b_law_two.1 (t_law_two ) := by
  have hu := hu_of hr
  exact (jb_one (js_ret (j_new (jf_lst (ja_cons (j_op jo_fdivL (j_v 0) j_int) (ja_cons (j_op jo_mod (j_v 0) j_int) ja_nil))))))
theorem o_law_two  (D : DefAt K mg "_law_two" s_law_two)  : Has P w K mg base (k + 1) "_law_two" ["_law_number_here"] (lSp K (cl (fnC 1 1 (t_law_two )))) :=
  hasCw D b_law_two.2 c_law_two.2 sc_law_two (fun _ _ _ _ _ _ us hl => match us, hl with | [_], _ => rfl) (fun f cdv A outer s H E hr => j_law_two  f cdv A outer s H E hr)
abbrev s_law_four : Stmt := top 34
def b_law_four : { b : List Stmt // defBody s_law_four = b } := ⟨_, by (conv => lhs; whnf)⟩
def c_law_four : { b : Scope // defScope s_law_four = b } := ⟨_, by (conv => lhs; whnf)⟩
theorem sc_law_four : FnScope ["_law_number_here"] ["_law_number_here"] c_law_four.1 := ⟨rfl, rfl, rfl, by decide +kernel, rfl, by decide +kernel, by decide +kernel⟩
def t_law_four (g_law_two : GN) : DS := (dSeq (dSet 0 (dOp (gI (fun _ j => 0 < j) fun i j => .int (i % j)) (dVar 0) (dC (.int 4294967296))))
  (dRet (dOp gPlus (dCB g_law_two (dCons (dOp (gI CDivL fun i j => .int (i / j)) (dVar 0) (dC (.int 65536))) dNil)) (dCB g_law_two (dCons (dOp (gI (fun _ j => 0 < j) fun i j => .int (i % j)) (dVar 0) (dC (.int 65536))) dNil)))))
theorem j_law_four {g_law_two : GN} (h_law_two : HasD P w K mg base k "_law_two" ["_law_number_here"] g_law_two) (f : Addr) (cdv : Value) (A : Around) (outer : List Env) (s : Shared) (H : Hp) (E : XK) (hr : Room k (A.deeper (envOfC "_law_four" c_law_four.1 s.heap.objs.size f cdv))) :
    JB' (cxOf CX0 P w K mg base ["_law_number_here"] "_law_four" c_law_four.1 f cdv A outer s H E).nox b_law_four.1 (t_law_four g_law_two) := by
  have hu := hu_of hr
  exact (jb_cons (js_set 0 sc_law_four.nd (j_op jo_mod (j_v 0) j_int))
      (jb_one (js_ret (j_op jo_add (j_fn h_law_two hr (ja_cons (j_op jo_fdivL (j_v 0) j_int) ja_nil)) (j_fn h_law_two hr (ja_cons (j_op jo_mod (j_v 0) j_int) ja_nil))))))
theorem o_law_four {g_law_two : GN} (D : DefAt K mg "_law_four" s_law_four) (h_law_two : HasD P w K mg base k "_law_two" ["_law_number_here"] g_law_two) : Has P w K mg base (k + 1) "_law_four" ["_law_number_here"] (lSp K (cl (fnC 1 1 (t_law_four g_law_two)))) :=
  hasCw D b_law_four.2 c_law_four.2 sc_law_four (fun _ _ _ _ _ _ us hl => match us, hl with | [_], _ => rfl) (fun f cdv A outer s H E hr => j_law_four h_law_two f cdv A outer s H E hr)
abbrev s_law_cells : Stmt := top 35
def b_law_cells : { b : List Stmt // defBody s_law_cells = b } := ⟨_, by (conv => lhs; whnf)⟩
def c_law_cells : { b : Scope // defScope s_law_cells = b } := ⟨_, by (conv => lhs; whnf)⟩
theorem sc_law_cells : FnScope ["_law_row_here", "_law_at", "_law_near", "_law_kind", "_law_some", "_law_boxes"] ["_law_row_here", "_law_at", "_law_near"] c_law_cells.1 := ⟨rfl, rfl, rfl, by decide +kernel, rfl, by decide +kernel, by decide +kernel⟩
def t_law_cells (g_law_four : GN) (g_law_two : GN) : DS := (dSeq (dSet 3 (dOp gIx (dVar 0) (dC (.int 0))))
  (dSeq (dIfS (dTest (dOp (gIn false) (dVar 3) (dTup (dCons (dC (.str "add")) (dCons (dC (.str "take")) dNil))))) (dRet (dNew (fLst (dCons (dOp gPlus (dOp gPlus (dOp gIx (dNew (fDisp [((dC (.str "add")), (dC (.int 32))), ((dC (.str "take")), (dC (.int 48)))])) (dVar 3)) (dOp gMul (dC (.int 4)) (dOp gIx (dVar 0) (dC (.int 1))))) (dOp gIx (dVar 0) (dC (.int 2)))) dNil)))) dNext)
  (dSeq (dIfS (dTest (dOp (gIn false) (dVar 3) (dTup (dCons (dC (.str "say")) (dCons (dC (.str "ask")) dNil))))) (dRet (dNew (fLst (dCons (dOp gPlus (dOp gIx (dNew (fDisp [((dC (.str "say")), (dC (.int 64))), ((dC (.str "ask")), (dC (.int 68)))])) (dVar 3)) (dOp gIx (dVar 0) (dC (.int 1)))) dNil)))) dNext)
  (dSeq (dIfS (dTest (dOp (gIn false) (dVar 3) (dTup (dCons (dC (.str "back")) (dCons (dC (.str "stop")) dNil))))) (dRet (dNew (fLst (dCons (dOp gIx (dNew (fDisp [((dC (.str "back")), (dC (.int 98))), ((dC (.str "stop")), (dC (.int 99)))])) (dVar 3)) dNil)))) dNext)
  (dSeq (dIfS (dTest (dOp gEq (dVar 3) (dC (.str "set")))) (dRet (dOp gPlus (dNew (fLst (dCons (dOp gPlus (dC (.int 16)) (dOp gIx (dVar 0) (dC (.int 1)))) dNil))) (dCB g_law_four (dCons (dOp gIx (dVar 0) (dC (.int 2))) dNil)))) dNext)
  (dSeq (dIfS (dTest (dOp gEq (dVar 3) (dC (.str "alike")))) (dRet (dOp gPlus (dOp gPlus (dNew (fLst (dCons (dOp gPlus (dC (.int 144)) (dOp gIx (dVar 0) (dC (.int 1)))) dNil))) (dCB g_law_two (dCons (dOp gIx (dVar 0) (dC (.int 2))) dNil))) (dCB g_law_two (dCons (dOp gIx (dVar 0) (dC (.int 3))) dNil)))) dNext)
  (dSeq (dSet 4 (dOp gIx (dNew (fDisp [((dC (.str "jump")), (dTup (dCons (dC (.int 80)) (dCons (dC (.int 81)) dNil)))), ((dC (.str "call")), (dTup (dCons (dC (.int 82)) (dCons (dC (.int 83)) dNil)))), ((dC (.str "jumpif")), (dTup (dCons (dC (.int 84)) (dCons (dC (.int 88)) dNil)))), ((dC (.str "jumpby")), (dTup (dCons (dC (.int 100)) (dCons (dC (.int 104)) dNil)))), ((dC (.str "load")), (dTup (dCons (dC (.int 112)) (dCons (dC (.int 128)) dNil))))])) (dVar 3)))
  (dSeq (dSet 5 (dC (.int 0)))
  (dSeq (dIfS (dTest (dOp (gIn false) (dVar 3) (dTup (dCons (dC (.str "jumpif")) (dCons (dC (.str "jumpby")) dNil))))) (dSet 5 (dOp gIx (dVar 0) (dC (.int 1)))) dNext)
  (dSeq (dIfS (dTest (dOp gEq (dVar 3) (dC (.str "load")))) (dSet 5 (dOp gPlus (dOp gMul (dC (.int 4)) (dOp gIx (dVar 0) (dC (.int 1)))) (dOp gIx (dVar 0) (dC (.int 2))))) dNext)
  (dSeq (dIfS (dTest (dVar 2)) (dRet (dNew (fLst (dCons (dOp gPlus (dOp gIx (dVar 4) (dC (.int 0))) (dVar 5)) (dCons (dOp (gI (fun _ j => 0 < j) fun i j => .int (i % j)) (dOp (gI0 fun i j => .int (i - j)) (dOp (gI0 fun i j => .int (i - j)) (dOp gIx (dVar 0) (dNeg (dC (.int 1)))) (dVar 1)) (dC (.int 2))) (dC (.int 256))) dNil))))) dNext)
  (dRet (dOp gPlus (dNew (fLst (dCons (dOp gPlus (dOp gIx (dVar 4) (dC (.int 1))) (dVar 5)) dNil))) (dCB g_law_two (dCons (dOp gIx (dVar 0) (dNeg (dC (.int 1)))) dNil)))))))))))))))
theorem j_law_cells {g_law_four : GN} {g_law_two : GN} (h_law_four : HasD P w K mg base k "_law_four" ["_law_number_here"] g_law_four) (h_law_two : HasD P w K mg base k "_law_two" ["_law_number_here"] g_law_two) (f : Addr) (cdv : Value) (A : Around) (outer : List Env) (s : Shared) (H : Hp) (E : XK) (hr : Room k (A.deeper (envOfC "_law_cells" c_law_cells.1 s.heap.objs.size f cdv))) :
    JB' (cxOf CX0 P w K mg base ["_law_row_here", "_law_at", "_law_near", "_law_kind", "_law_some", "_law_boxes"] "_law_cells" c_law_cells.1 f cdv A outer s H E).nox b_law_cells.1 (t_law_cells g_law_four g_law_two) := by
  have hu := hu_of hr
  exact (jb_cons (js_set 3 sc_law_cells.nd (j_ix (jx hu) (j_v 0) j_int))
      (jb_cons (js_if (jt_cmp (jc_in hu) (j_v 3) (j_tup (ja_cons j_str (ja_cons j_str ja_nil)))) (jb_one (js_ret (j_new (jf_lst (ja_cons (j_op jo_add (j_op jo_add (j_ix (jx hu) (j_new (jf_disp (jp_cons j_str j_int (jp_cons j_str j_int jp_nil)) rfl rfl (List.cons_ne_nil _ _) (Nat.le_of_ble_eq_true rfl))) (j_v 3)) (j_op jo_mul j_int (j_ix (jx hu) (j_v 0) j_int))) (j_ix (jx hu) (j_v 0) j_int)) ja_nil))))) jb_nil)
      (jb_cons (js_if (jt_cmp (jc_in hu) (j_v 3) (j_tup (ja_cons j_str (ja_cons j_str ja_nil)))) (jb_one (js_ret (j_new (jf_lst (ja_cons (j_op jo_add (j_ix (jx hu) (j_new (jf_disp (jp_cons j_str j_int (jp_cons j_str j_int jp_nil)) rfl rfl (List.cons_ne_nil _ _) (Nat.le_of_ble_eq_true rfl))) (j_v 3)) (j_ix (jx hu) (j_v 0) j_int)) ja_nil))))) jb_nil)
      (jb_cons (js_if (jt_cmp (jc_in hu) (j_v 3) (j_tup (ja_cons j_str (ja_cons j_str ja_nil)))) (jb_one (js_ret (j_new (jf_lst (ja_cons (j_ix (jx hu) (j_new (jf_disp (jp_cons j_str j_int (jp_cons j_str j_int jp_nil)) rfl rfl (List.cons_ne_nil _ _) (Nat.le_of_ble_eq_true rfl))) (j_v 3)) ja_nil))))) jb_nil)
      (jb_cons (js_if (jt_cmp (jc_eq hr.units) (j_v 3) j_str) (jb_one (js_ret (j_op jo_add (j_new (jf_lst (ja_cons (j_op jo_add j_int (j_ix (jx hu) (j_v 0) j_int)) ja_nil))) (j_fn h_law_four hr (ja_cons (j_ix (jx hu) (j_v 0) j_int) ja_nil))))) jb_nil)
      (jb_cons (js_if (jt_cmp (jc_eq hr.units) (j_v 3) j_str) (jb_one (js_ret (j_op jo_add (j_op jo_add (j_new (jf_lst (ja_cons (j_op jo_add j_int (j_ix (jx hu) (j_v 0) j_int)) ja_nil))) (j_fn h_law_two hr (ja_cons (j_ix (jx hu) (j_v 0) j_int) ja_nil))) (j_fn h_law_two hr (ja_cons (j_ix (jx hu) (j_v 0) j_int) ja_nil))))) jb_nil)
      (jb_cons (js_set 4 sc_law_cells.nd (j_ix (jx hu) (j_new (jf_disp (jp_cons j_str (j_tup (ja_cons j_int (ja_cons j_int ja_nil))) (jp_cons j_str (j_tup (ja_cons j_int (ja_cons j_int ja_nil))) (jp_cons j_str (j_tup (ja_cons j_int (ja_cons j_int ja_nil))) (jp_cons j_str (j_tup (ja_cons j_int (ja_cons j_int ja_nil))) (jp_cons j_str (j_tup (ja_cons j_int (ja_cons j_int ja_nil))) jp_nil))))) rfl rfl (List.cons_ne_nil _ _) (Nat.le_of_ble_eq_true rfl))) (j_v 3)))
      (jb_cons (js_set 5 sc_law_cells.nd j_int)
      (jb_cons (js_if (jt_cmp (jc_in hu) (j_v 3) (j_tup (ja_cons j_str (ja_cons j_str ja_nil)))) (jb_one (js_set 5 sc_law_cells.nd (j_ix (jx hu) (j_v 0) j_int))) jb_nil)
      (jb_cons (js_if (jt_cmp (jc_eq hr.units) (j_v 3) j_str) (jb_one (js_set 5 sc_law_cells.nd (j_op jo_add (j_op jo_mul j_int (j_ix (jx hu) (j_v 0) j_int)) (j_ix (jx hu) (j_v 0) j_int)))) jb_nil)
      (jb_cons (js_if (jt_val (j_v 2)) (jb_one (js_ret (j_new (jf_lst (ja_cons (j_op jo_add (j_ix (jx hu) (j_v 4) j_int) (j_v 5)) (ja_cons (j_op jo_mod (j_op jo_sub (j_op jo_sub (j_ix (jx hu) (j_v 0) (j_neg j_int)) (j_v 1)) j_int) j_int) ja_nil)))))) jb_nil)
      (jb_one (js_ret (j_op jo_add (j_new (jf_lst (ja_cons (j_op jo_add (j_ix (jx hu) (j_v 4) j_int) (j_v 5)) ja_nil))) (j_fn h_law_two hr (ja_cons (j_ix (jx hu) (j_v 0) (j_neg j_int)) ja_nil))))))))))))))))
theorem o_law_cells {g_law_four : GN} {g_law_two : GN} (D : DefAt K mg "_law_cells" s_law_cells) (h_law_four : HasD P w K mg base k "_law_four" ["_law_number_here"] g_law_four) (h_law_two : HasD P w K mg base k "_law_two" ["_law_number_here"] g_law_two) : Has P w K mg base (k + 1) "_law_cells" ["_law_row_here", "_law_at", "_law_near"] (lSp K (cl (fnC 6 3 (t_law_cells g_law_four g_law_two)))) :=
  hasCw D b_law_cells.2 c_law_cells.2 sc_law_cells (fun _ _ _ _ _ _ us hl => match us, hl with | [_, _, _], _ => rfl) (fun f cdv A outer s H E hr => j_law_cells h_law_four h_law_two f cdv A outer s H E hr)
abbrev s_law_told : Stmt := top 36
def b_law_told : { b : List Stmt // defBody s_law_told = b } := ⟨_, by (conv => lhs; whnf)⟩
def c_law_told : { b : Scope // defScope s_law_told = b } := ⟨_, by (conv => lhs; whnf)⟩
theorem sc_law_told : FnScope ["_law_found", "_law_many"] ["_law_found", "_law_many"] c_law_told.1 := ⟨rfl, rfl, rfl, by decide +kernel, rfl, by decide +kernel, by decide +kernel⟩
def t_law_told (K : PySem.W.Frag)  : DS := (dRet (dAndV (dCB (gIsi K) (dCons (dVar 0) (dCons (dC (.ty "tuple")) dNil))) (dOp gEq (dCB gLen (dCons (dVar 0) dNil)) (dVar 1))))
theorem j_law_told  (z_isinstance : mg "isinstance" = none) (z_tuple : mg "tuple" = none) (z_len : mg "len" = none) (f : Addr) (cdv : Value) (A : Around) (outer : List Env) (s : Shared) (H : Hp) (E : XK) (hr : Room k (A.deeper (envOfC "_law_told" c_law_told.1 s.heap.objs.size f cdv))) :
    JB' (cxOf CX0 P w K mg base ["_law_found", "_law_many"] "_law_told" c_law_told.1 f cdv A outer s H E).nox b_law_told.1 (t_law_told K) := by
  have hu := hu_of hr
  exact (jb_one (js_ret (j_and (j_b jb_isi z_isinstance bo_isinstance (ja_cons (j_v 0) (ja_cons (j_ty z_tuple bo_tuple) ja_nil))) (j_one (j_cmp (jc_eq hr.units) (j_b jb_len z_len bo_len (ja_cons (j_v 0) ja_nil)) (j_v 1))))))
theorem o_law_told  (D : DefAt K mg "_law_told" s_law_told) (z_isinstance : mg "isinstance" = none) (z_tuple : mg "tuple" = none) (z_len : mg "len" = none) : Has P w K mg base (k + 1) "_law_told" ["_law_found", "_law_many"] (lSp K (fnG 2 2 (t_law_told K))) :=
  hasGw D b_law_told.2 c_law_told.2 sc_law_told (fun _ _ _ _ _ _ us hl => match us, hl with | [_, _], _ => rfl) (fun f cdv A outer s H E hr => j_law_told z_isinstance z_tuple z_len f cdv A outer s H E hr)
abbrev s_law_all_read : Stmt := top 37
def b_law_all_read : { b : List Stmt // defBody s_law_all_read = b } := ⟨_, by (conv => lhs; whnf)⟩
def c_law_all_read : { b : Scope // defScope s_law_all_read = b } := ⟨_, by (conv => lhs; whnf)⟩
theorem sc_law_all_read : FnScope ["_law_cells_here", "_law_laid_rows", "_law_handed", "_law_at", "_law_row_here", "_law_near", "_law_behind", "_law_found"] ["_law_cells_here", "_law_laid_rows"] c_law_all_read.1 := ⟨rfl, rfl, rfl, by decide +kernel, rfl, by decide +kernel, by decide +kernel⟩
def t_law_all_read (K : PySem.W.Frag) (g_read_table : GN) (g_read_numbers : GN) (g_law_told : GN) (g_cells_of : GN) (g_read_code : GN) : DS := (dSeq (dSet 2 (dNew (fCB gfList (dCons (dVar 0) dNil))))
  (dSeq (dFor (iAnyD (dVar 1)) (dgTup 4 (dgCons (dgName 3) (dgCons (dgName 4) (dgCons (dgName 5) (dgCons (dgName 6) dgNil))))) (dIfS (dTest (dOp (gIn false) (dOp gIx (dVar 4) (dC (.int 0))) (dTup (dCons (dC (.str "numbers")) (dCons (dC (.str "table")) dNil))))) (dSeq (dSet 7 (dCB g_read_table (dCons (dVar 2) (dCons (dVar 3) dNil))))
  (dSeq (dIfS (dTest (dOp gEq (dOp gIx (dVar 4) (dC (.int 0))) (dC (.str "numbers")))) (dSet 7 (dCB g_read_numbers (dCons (dVar 2) (dCons (dVar 3) dNil)))) dNext)
  (dSeq (dIfS (dOr (dNot (dTest (dCB g_law_told (dCons (dVar 7) (dCons (dC (.int 2)) dNil))))) (dOr (dNot (dTest (dCB (gIsi K) (dCons (dOp gIx (dVar 7) (dC (.int 0))) (dCons (dC (.ty "list")) dNil))))) (dTest (dOp gNeD (dVar 7) (dTup (dCons (dOp gIx (dVar 4) (dC (.int 1))) (dCons (dVar 6) dNil))))))) (dRet (dC (.bl false))) dNext)
  (dSeq (dIfS (dTest (dOp gNeD (dCB g_cells_of (dCons (dTup (dCons (dOp gIx (dVar 4) (dC (.int 0))) (dCons (dOp gIx (dVar 7) (dC (.int 0))) dNil))) (dCons (dVar 3) (dCons (dC .non) dNil)))) (dSl (dVar 0) (dPart (dVar 3)) (dPart (dVar 6))))) (dRet (dC (.bl false))) dNext)
  (dDrop (dBM "list" gmAppend (dOp gIx (dVar 7) (dC (.int 0))) (dCons (dC (.int 9)) dNil))))))) (dSeq (dSet 7 (dCB g_read_code (dCons (dVar 2) (dCons (dVar 3) dNil))))
  (dSeq (dIfS (dOr (dNot (dTest (dCB g_law_told (dCons (dVar 7) (dCons (dC (.int 3)) dNil))))) (dTest (dOp gNeD (dVar 7) (dTup (dCons (dVar 4) (dCons (dVar 5) (dCons (dVar 6) dNil))))))) (dRet (dC (.bl false))) dNext)
  (dSeq (dIfS (dAnd (dTest (dOp gIsNot (dVar 5) (dC .non))) (dNot (dTest (dCB (gIsi K) (dCons (dOp gIx (dVar 7) (dC (.int 1))) (dCons (dC (.ty "bool")) dNil)))))) (dRet (dC (.bl false))) dNext)
  (dIfS (dOr (dNot (dTest (dCB (gIsi K) (dCons (dOp gIx (dVar 7) (dC (.int 0))) (dCons (dC (.ty "tuple")) dNil))))) (dTest (dOp gNeD (dCB g_cells_of (dCons (dOp gIx (dVar 7) (dC (.int 0))) (dCons (dVar 3) (dCons (dOp gIx (dVar 7) (dC (.int 1))) dNil)))) (dSl (dVar 0) (dPart (dVar 3)) (dPart (dVar 6)))))) (dRet (dC (.bl false))) dNext))))))
  (dRet (dOp gEqD (dVar 2) (dVar 0)))))
theorem j_law_all_read {g_read_table : GN} {g_read_numbers : GN} {g_law_told : GN} {g_cells_of : GN} {g_read_code : GN} (z_list : mg "list" = none) (h_read_table : HasD P w K mg base k "read_table" ["cells", "at"] g_read_table) (h_read_numbers : HasD P w K mg base k "read_numbers" ["cells", "at"] g_read_numbers) (h_law_told : HasD P w K mg base k "_law_told" ["_law_found", "_law_many"] g_law_told) (z_isinstance : mg "isinstance" = none) (h_cells_of : HasD P w K mg base k "cells_of" ["row", "at", "near"] g_cells_of) (h_read_code : HasD P w K mg base k "read_code" ["cells", "at"] g_read_code) (z_bool : mg "bool" = none) (z_tuple : mg "tuple" = none) (f : Addr) (cdv : Value) (A : Around) (outer : List Env) (s : Shared) (H : Hp) (E : XK) (hr : Room k (A.deeper (envOfC "_law_all_read" c_law_all_read.1 s.heap.objs.size f cdv))) :
    JB' (cxOf CX0 P w K mg base ["_law_cells_here", "_law_laid_rows", "_law_handed", "_law_at", "_law_row_here", "_law_near", "_law_behind", "_law_found"] "_law_all_read" c_law_all_read.1 f cdv A outer s H E).nox b_law_all_read.1 (t_law_all_read K g_read_table g_read_numbers g_law_told g_cells_of g_read_code) := by
  have hu := hu_of hr
  exact (jb_cons (js_set 2 sc_law_all_read.nd (j_new (jf_t jbf_list z_list bo_list (ja_cons (j_v 0) ja_nil))))
      (jb_cons (js_for (ji_any (j_v 1)) (jg_tup (jgs_cons (jg_name 3 sc_law_all_read.nd) (jgs_cons (jg_name 4 sc_law_all_read.nd) (jgs_cons (jg_name 5 sc_law_all_read.nd) (jgs_cons (jg_name 6 sc_law_all_read.nd) jgs_nil))))) (jb_one (js_if (jt_cmp (jc_in hu) (j_ix (jx hu) (j_v 4) j_int) (j_tup (ja_cons j_str (ja_cons j_str ja_nil)))) (jb_cons (js_set 7 sc_law_all_read.nd (j_fn h_read_table hr (ja_cons (j_v 2) (ja_cons (j_v 3) ja_nil))))
      (jb_cons (js_if (jt_cmp (jc_eq hr.units) (j_ix (jx hu) (j_v 4) j_int) j_str) (jb_one (js_set 7 sc_law_all_read.nd (j_fn h_read_numbers hr (ja_cons (j_v 2) (ja_cons (j_v 3) ja_nil))))) jb_nil)
      (jb_cons (js_if (jt_of (jw_or (jt_not (jt_val (j_fn h_law_told hr (ja_cons (j_v 7) (ja_cons j_int ja_nil))))) (jw_or (jt_not (jt_val (j_b jb_isi z_isinstance bo_isinstance (ja_cons (j_ix (jx hu) (j_v 7) j_int) (ja_cons (j_ty z_list bo_list) ja_nil))))) (jw_or1 (jt_cmp (jc_neD hr.units) (j_v 7) (j_tup (ja_cons (j_ix (jx hu) (j_v 4) j_int) (ja_cons (j_v 6) ja_nil)))))))) (jb_one (js_ret j_bl)) jb_nil)
      (jb_cons (js_if (jt_cmp (jc_neD hr.units) (j_fn h_cells_of hr (ja_cons (j_tup (ja_cons (j_ix (jx hu) (j_v 4) j_int) (ja_cons (j_ix (jx hu) (j_v 7) j_int) ja_nil))) (ja_cons (j_v 3) (ja_cons j_non ja_nil)))) (j_sl (j_v 0) (jop_some (j_v 3)) (jop_some (j_v 6)))) (jb_one (js_ret j_bl)) jb_nil)
      (jb_one (js_expr (j_bm jm_append PySem.F.plainAttrs_list PySem.F.slot_list_append PySem.F.type_list_append (j_ix (jx hu) (j_v 7) j_int) (ja_cons j_int ja_nil)))))))) (jb_cons (js_set 7 sc_law_all_read.nd (j_fn h_read_code hr (ja_cons (j_v 2) (ja_cons (j_v 3) ja_nil))))
      (jb_cons (js_if (jt_of (jw_or (jt_not (jt_val (j_fn h_law_told hr (ja_cons (j_v 7) (ja_cons j_int ja_nil))))) (jw_or1 (jt_cmp (jc_neD hr.units) (j_v 7) (j_tup (ja_cons (j_v 4) (ja_cons (j_v 5) (ja_cons (j_v 6) ja_nil)))))))) (jb_one (js_ret j_bl)) jb_nil)
      (jb_cons (js_if (jt_of (jw_and (jt_cmp jc_isNot (j_v 5) j_non) (jw_and1 (jt_not (jt_val (j_b jb_isi z_isinstance bo_isinstance (ja_cons (j_ix (jx hu) (j_v 7) j_int) (ja_cons (j_ty z_bool bo_bool) ja_nil)))))))) (jb_one (js_ret j_bl)) jb_nil)
      (jb_one (js_if (jt_of (jw_or (jt_not (jt_val (j_b jb_isi z_isinstance bo_isinstance (ja_cons (j_ix (jx hu) (j_v 7) j_int) (ja_cons (j_ty z_tuple bo_tuple) ja_nil))))) (jw_or1 (jt_cmp (jc_neD hr.units) (j_fn h_cells_of hr (ja_cons (j_ix (jx hu) (j_v 7) j_int) (ja_cons (j_v 3) (ja_cons (j_ix (jx hu) (j_v 7) j_int) ja_nil)))) (j_sl (j_v 0) (jop_some (j_v 3)) (jop_some (j_v 6))))))) (jb_one (js_ret j_bl)) jb_nil))))))))
      (jb_one (js_ret (j_cmp (jc_eqD hr.units) (j_v 2) (j_v 0))))))
theorem o_law_all_read {g_read_table : GN} {g_read_numbers : GN} {g_law_told : GN} {g_cells_of : GN} {g_read_code : GN} (D : DefAt K mg "_law_all_read" s_law_all_read) (z_list : mg "list" = none) (h_read_table : HasD P w K mg base k "read_table" ["cells", "at"] g_read_table) (h_read_numbers : HasD P w K mg base k "read_numbers" ["cells", "at"] g_read_numbers) (h_law_told : HasD P w K mg base k "_law_told" ["_law_found", "_law_many"] g_law_told) (z_isinstance : mg "isinstance" = none) (h_cells_of : HasD P w K mg base k "cells_of" ["row", "at", "near"] g_cells_of) (h_read_code : HasD P w K mg base k "read_code" ["cells", "at"] g_read_code) (z_bool : mg "bool" = none) (z_tuple : mg "tuple" = none) : Has P w K mg base (k + 1) "_law_all_read" ["_law_cells_here", "_law_laid_rows"] (lSp K (fnG 8 2 (t_law_all_read K g_read_table g_read_numbers g_law_told g_cells_of g_read_code))) :=
  hasGw D b_law_all_read.2 c_law_all_read.2 sc_law_all_read (fun _ _ _ _ _ _ us hl => match us, hl with | [_, _], _ => rfl) (fun f cdv A outer s H E hr => j_law_all_read z_list h_read_table h_read_numbers h_law_told z_isinstance h_cells_of h_read_code z_bool z_tuple f cdv A outer s H E hr)
abbrev s_law : Stmt := top 38
def b_law : { b : List Stmt // defBody s_law = b } := ⟨_, by (conv => lhs; whnf)⟩
def c_law : { b : Scope // defScope s_law = b } := ⟨_, by (conv => lhs; whnf)⟩
theorem sc_law : FnScope ["_law_script", "_law_draw", "_law_source_here", "_law_cells_here", "_law_laid_rows", "_law_k", "_law_at", "_law_row_here", "_law_near", "_law_kind", "_law_some"] ["_law_script"] c_law.1 := ⟨rfl, rfl, rfl, by decide +kernel, rfl, by decide +kernel, by decide +kernel⟩
def t_law (g_law_source : GN) (g_law_next : GN) (g_law_row : GN) (g_law_cells : GN) (g_law_number : GN) (g_cells_of : GN) (g_law_all_read : GN) : DS := (dSeq (dFor (iAnyD (dOp gPlus (dSl (dVar 0) dNoPart (dPart (dC (.int 20)))) (dNew (fLst (dCons (dC (.int 0)) dNil))))) (dgName 1) (dSeq (dSet 2 (dCB g_law_source (dCons (dVar 1) dNil)))
  (dSeq (dSet 3 (dNew (fComp [none, some 2] (iRng1D (dCons (dCB g_law_next (dCons (dVar 2) (dCons (dC (.int 200)) dNil))) dNil)) (dgName 0) dYes (dCB g_law_next (dCons (dVar 1) (dCons (dC (.int 256)) dNil))))))
  (dSeq (dSet 4 (dOwn (fLst dNil)))
  (dSeq (dFor (iRng1D (dCons (dOp gPlus (dC (.int 1)) (dCB g_law_next (dCons (dVar 2) (dCons (dC (.int 5)) dNil)))) dNil)) (dgName 5) (dSeq (dSet 6 (dCB gLen (dCons (dVar 3) dNil)))
  (dSeq (dAsg (dCB g_law_row (dCons (dVar 2) (dCons (dVar 6) dNil))) (dgTup 2 (dgCons (dgName 7) (dgCons (dgName 8) dgNil))))
  (dSeq (dSet 3 (dOp gPlus (dVar 3) (dCB g_law_cells (dCons (dVar 7) (dCons (dVar 6) (dCons (dVar 8) dNil))))))
  (dDrop (dBM "list" gmAppend (dVar 4) (dCons (dTup (dCons (dVar 6) (dCons (dVar 7) (dCons (dVar 8) (dCons (dCB gLen (dCons (dVar 3) dNil)) dNil))))) dNil)))))))
  (dSeq (dFor (iAnyD (dNew (fLst (dCons (dC (.str "numbers")) (dCons (dC (.str "table")) dNil))))) (dgName 9) (dSeq (dSet 10 (dNew (fComp [none, some 2] (iRng1D (dCons (dOp gPlus (dC (.int 1)) (dCB g_law_next (dCons (dVar 2) (dCons (dC (.int 6)) dNil)))) dNil)) (dgName 0) dYes (dCB g_law_number (dCons (dVar 1) dNil)))))
  (dSeq (dIfS (dTest (dOp gEq (dVar 9) (dC (.str "table")))) (dSet 10 (dNew (fComp [none] (iAnyD (dVar 10)) (dgName 0) dYes (dOp (gI (fun _ j => 0 < j) fun i j => .int (i % j)) (dVar 0) (dC (.int 65536)))))) dNext)
  (dSeq (dSet 6 (dCB gLen (dCons (dVar 3) dNil)))
  (dSeq (dSet 3 (dOp gPlus (dVar 3) (dCB g_cells_of (dCons (dTup (dCons (dVar 9) (dCons (dNew (fCB gfList (dCons (dVar 10) dNil))) dNil))) (dCons (dVar 6) (dCons (dC .non) dNil))))))
  (dDrop (dBM "list" gmAppend (dVar 4) (dCons (dTup (dCons (dVar 6) (dCons (dTup (dCons (dVar 9) (dCons (dVar 10) dNil))) (dCons (dC .non) (dCons (dCB gLen (dCons (dVar 3) dNil)) dNil))))) dNil))))))))
  (dSeq (dSet 3 (dOp gPlus (dVar 3) (dNew (fComp [none, some 2] (iRng1D (dCons (dCB g_law_next (dCons (dVar 2) (dCons (dC (.int 3)) dNil))) dNil)) (dgName 0) dYes (dCB g_law_next (dCons (dVar 1) (dCons (dC (.int 256)) dNil)))))))
  (dIfS (dNot (dTest (dCB g_law_all_read (dCons (dVar 3) (dCons (dVar 4) dNil))))) (dRet (dC (.bl false))) dNext))))))))
  (dRet (dC (.bl true))))
theorem j_law {g_law_source : GN} {g_law_next : GN} {g_law_row : GN} {g_law_cells : GN} {g_law_number : GN} {g_cells_of : GN} {g_law_all_read : GN} (h_law_source : HasD P w K mg base k "_law_source" ["_law_draw"] g_law_source) (z_range : mg "range" = none) (h_law_next : HasD P w K mg base k "_law_next" ["_law_source_here", "_law_many"] g_law_next) (z_len : mg "len" = none) (h_law_row : HasD P w K mg base k "_law_row" ["_law_source_here", "_law_at"] g_law_row) (h_law_cells : HasD P w K mg base k "_law_cells" ["_law_row_here", "_law_at", "_law_near"] g_law_cells) (h_law_number : HasD P w K mg base k "_law_number" ["_law_source_here"] g_law_number) (h_cells_of : HasD P w K mg base k "cells_of" ["row", "at", "near"] g_cells_of) (z_list : mg "list" = none) (h_law_all_read : HasD P w K mg base k "_law_all_read" ["_law_cells_here", "_law_laid_rows"] g_law_all_read) (f : Addr) (cdv : Value) (A : Around) (outer : List Env) (s : Shared) (H : Hp) (E : XK) (hr : Room k (A.deeper (envOfC "law" c_law.1 s.heap.objs.size f cdv))) :
    JB' (cxOf CX0 P w K mg base ["_law_script", "_law_draw", "_law_source_here", "_law_cells_here", "_law_laid_rows", "_law_k", "_law_at", "_law_row_here", "_law_near", "_law_kind", "_law_some"] "law" c_law.1 f cdv A outer s H E).nox b_law.1 (t_law g_law_source g_law_next g_law_row g_law_cells g_law_number g_cells_of g_law_all_read) := by
  have hu := hu_of hr
  exact (jb_cons (js_for (ji_any (j_op jo_add (j_sl (j_v 0) jop_none (jop_some j_int)) (j_new (jf_lst (ja_cons j_int ja_nil))))) (jg_name 1 sc_law.nd) (jb_cons (js_set 2 sc_law.nd (j_fn h_law_source hr (ja_cons (j_v 1) ja_nil)))
      (jb_cons (js_compN 3 sc_law.nd (N := ["_law_k", "_law_source_here"]) (fr := [none, some 2]) (CompOk.of (N₀ := ["_law_script", "_law_draw", "_law_source_here", "_law_cells_here", "_law_laid_rows", "_law_k", "_law_at", "_law_row_here", "_law_near", "_law_kind", "_law_some"]) (oscope := c_law.1) (by decide +kernel)) (ji_range1 (ja_cons (j_fn h_law_next hr (ja_cons (j_v 2) (ja_cons j_int ja_nil))) ja_nil) z_range) gl_name (fun _ _ _ _ _ => (jg_name 0 (show List.Nodup (["_law_k", "_law_source_here"] : List Str) by decide +kernel))) (fun _ _ _ _ _ => jif_nil) (fun _ _ _ _ _ => (j_fn h_law_next hr (ja_cons (j_v 1) (ja_cons j_int ja_nil)))))
      (jb_cons (js_set 4 sc_law.nd (j_own (jf_lst ja_nil)))
      (jb_cons (js_for (ji_range1 (ja_cons (j_op jo_add j_int (j_fn h_law_next hr (ja_cons (j_v 2) (ja_cons j_int ja_nil)))) ja_nil) z_range) (jg_name 5 sc_law.nd) (jb_cons (js_set 6 sc_law.nd (j_b jb_len z_len bo_len (ja_cons (j_v 3) ja_nil)))
      (jb_cons (js_asg (j_fn h_law_row hr (ja_cons (j_v 2) (ja_cons (j_v 6) ja_nil))) (jg_tup (jgs_cons (jg_name 7 sc_law.nd) (jgs_cons (jg_name 8 sc_law.nd) jgs_nil))))
      (jb_cons (js_set 3 sc_law.nd (j_op jo_add (j_v 3) (j_fn h_law_cells hr (ja_cons (j_v 7) (ja_cons (j_v 6) (ja_cons (j_v 8) ja_nil))))))
      (jb_one (js_expr (j_bm jm_append PySem.F.plainAttrs_list PySem.F.slot_list_append PySem.F.type_list_append (j_v 4) (ja_cons (j_tup (ja_cons (j_v 6) (ja_cons (j_v 7) (ja_cons (j_v 8) (ja_cons (j_b jb_len z_len bo_len (ja_cons (j_v 3) ja_nil)) ja_nil))))) ja_nil))))))))
      (jb_cons (js_for (ji_any (j_new (jf_lst (ja_cons j_str (ja_cons j_str ja_nil))))) (jg_name 9 sc_law.nd) (jb_cons (js_compN 10 sc_law.nd (N := ["_law_k", "_law_source_here"]) (fr := [none, some 2]) (CompOk.of (N₀ := ["_law_script", "_law_draw", "_law_source_here", "_law_cells_here", "_law_laid_rows", "_law_k", "_law_at", "_law_row_here", "_law_near", "_law_kind", "_law_some"]) (oscope := c_law.1) (by decide +kernel)) (ji_range1 (ja_cons (j_op jo_add j_int (j_fn h_law_next hr (ja_cons (j_v 2) (ja_cons j_int ja_nil)))) ja_nil) z_range) gl_name (fun _ _ _ _ _ => (jg_name 0 (show List.Nodup (["_law_k", "_law_source_here"] : List Str) by decide +kernel))) (fun _ _ _ _ _ => jif_nil) (fun _ _ _ _ _ => (j_fn h_law_number hr (ja_cons (j_v 1) ja_nil))))
      (jb_cons (js_if (jt_cmp (jc_eq hr.units) (j_v 9) j_str) (jb_one (js_compN 10 sc_law.nd (N := ["_law_number_here"]) (fr := [none]) (CompOk.of (N₀ := ["_law_script", "_law_draw", "_law_source_here", "_law_cells_here", "_law_laid_rows", "_law_k", "_law_at", "_law_row_here", "_law_near", "_law_kind", "_law_some"]) (oscope := c_law.1) (by decide +kernel)) (ji_any (j_v 10)) gl_name (fun _ _ _ _ _ => (jg_name 0 (show List.Nodup (["_law_number_here"] : List Str) by decide +kernel))) (fun _ _ _ _ _ => jif_nil) (fun _ _ _ _ _ => (j_op jo_mod (j_v 0) j_int)))) jb_nil)
      (jb_cons (js_set 6 sc_law.nd (j_b jb_len z_len bo_len (ja_cons (j_v 3) ja_nil)))
      (jb_cons (js_set 3 sc_law.nd (j_op jo_add (j_v 3) (j_fn h_cells_of hr (ja_cons (j_tup (ja_cons (j_v 9) (ja_cons (j_new (jf_t jbf_list z_list bo_list (ja_cons (j_v 10) ja_nil))) ja_nil))) (ja_cons (j_v 6) (ja_cons j_non ja_nil))))))
      (jb_one (js_expr (j_bm jm_append PySem.F.plainAttrs_list PySem.F.slot_list_append PySem.F.type_list_append (j_v 4) (ja_cons (j_tup (ja_cons (j_v 6) (ja_cons (j_tup (ja_cons (j_v 9) (ja_cons (j_v 10) ja_nil))) (ja_cons j_non (ja_cons (j_b jb_len z_len bo_len (ja_cons (j_v 3) ja_nil)) ja_nil))))) ja_nil)))))))))
      (jb_cons (js_set 3 sc_law.nd (j_op jo_add (j_v 3) (j_new (jf_comp (N := ["_law_k", "_law_source_here"]) (fr := [none, some 2]) (CompOk.of (N₀ := ["_law_script", "_law_draw", "_law_source_here", "_law_cells_here", "_law_laid_rows", "_law_k", "_law_at", "_law_row_here", "_law_near", "_law_kind", "_law_some"]) (oscope := c_law.1) (by decide +kernel)) (ji_range1 (ja_cons (j_fn h_law_next hr (ja_cons (j_v 2) (ja_cons j_int ja_nil))) ja_nil) z_range) gl_name (fun _ _ _ _ _ => (jg_name 0 (show List.Nodup (["_law_k", "_law_source_here"] : List Str) by decide +kernel))) (fun _ _ _ _ _ => jif_nil) (fun _ _ _ _ _ => (j_fn h_law_next hr (ja_cons (j_v 1) (ja_cons j_int ja_nil))))))))
      (jb_one (js_if (jt_not (jt_val (j_fn h_law_all_read hr (ja_cons (j_v 3) (ja_cons (j_v 4) ja_nil))))) (jb_one (js_ret j_bl)) jb_nil)))))))))
      (jb_one (js_ret j_bl)))
end
end K22
set_option Elab.async false
set_option linter.all false
set_option maxRecDepth 100000
set_option maxHeartbeats 4000000
namespace K22
open PySem PySem.Spec L2 L3
abbrev iD (xs : List Int) : List D := xs.map D.int
theorem nls_iD (xs : List Int) : nls (iD xs) = true := nls_map (fun _ => rfl) xs
local macro_rules | `(tactic| walk_at "zws1") => `(tactic| ((conv => whnf); first
  | refine ⟨_, rfl, ?_⟩ | refine ⟨rfl, ?_⟩ | refine ⟨Nat.le_of_ble_eq_true rfl, ?_⟩ | refine ⟨show (0 : Int) < _ by decide, ?_⟩ | refine ⟨show CDivL _ _ from ⟨by decide, by decide⟩, ?_⟩ | refine ⟨show CDiv _ _ from ⟨by decide, by decide⟩, ?_⟩
  | refine ⟨show CPow _ _ from ⟨by decide, by decide, by decide⟩, ?_⟩ | refine ⟨show CMul _ _ from .inl ⟨by decide, by decide⟩, ?_⟩ | refine ⟨show CMul _ _ from .inr ⟨by decide, by decide⟩, ?_⟩
  | refine ⟨fun h => absurd (show (1 : Nat) = 0 from h.1) (by decide), ?_⟩ | refine ⟨fun h => absurd (show (2 : Nat) = 0 from h.1) (by decide), ?_⟩ | refine ⟨fun h => absurd (show (3 : Nat) = 0 from h.1) (by decide), ?_⟩))
local macro_rules | `(tactic| walk_at "zws") => `(tactic| ((repeat walk_at "zws1"); try (conv => whnf)))
def two (p : Int) : List Int := [p / 256, p % 256]
def four (n : Int) : List Int := two (n % 4294967296 / 65536) ++ two (n % 4294967296 % 65536)
def P_two : GP := fun ds Q => match ds with | [.int p] => Q (.lst (iD (two p))) | _ => False
def P_four : GP := fun ds Q => match ds with | [.int p] => Q (.lst (iD (four p))) | _ => False
theorem P_two_mono : monoP P_two := fun ds P Q w q => by
  match ds, q with
  | [.int p], q => exact w _ q
theorem P_four_mono : monoP P_four := fun ds P Q w q => by
  match ds, q with
  | [.int p], q => exact w _ q
theorem sp_place_cells : ∀ ds Q, P_two ds Q → fnC 1 1 t_place_cells ds Q := fun ds Q q => by
  match ds, q with
  | [.int p], q =>
    refine ⟨rfl, ?_⟩
    walk_at "zws"
    exact q
theorem sp_two : ∀ ds Q, P_two ds Q → fnC 1 1 t_law_two ds Q := fun ds Q q => by
  match ds, q with
  | [.int p], q =>
    refine ⟨rfl, ?_⟩
    walk_at "zws"
    exact q
theorem sp_number_cells : ∀ ds Q, P_four ds Q → fnC 3 1 (t_number_cells (cl P_two)) ds Q := fun ds Q q => by
  match ds, q with
  | [.int p], q =>
    refine ⟨rfl, ?_⟩
    walk_at "zws"
    exact q
theorem sp_four : ∀ ds Q, P_four ds Q → fnC 1 1 (t_law_four (cl P_two)) ds Q := fun ds Q q => by
  match ds, q with
  | [.int p], q =>
    refine ⟨rfl, ?_⟩
    walk_at "zws"
    exact q
def P_box : GP := fun ds Q => match ds with
  | [.tup []] => Q (.int 0)
  | [.tup [.int b]] => Q (.int b)
  | [.tup [.int b, .int c]] => Q (.int (4 * b + c))
  | _ => False
theorem P_box_mono : monoP P_box := fun ds P Q w q => by
  match ds, q with
  | [.tup []], q => exact w _ q
  | [.tup [.int b]], q => exact w _ q
  | [.tup [.int b, .int c]], q => exact w _ q
theorem sp_box : ∀ ds Q, P_box ds Q → fnC 3 1 t_box_number ds Q := fun ds Q q => by
  match ds, q with
  | [.tup []], q => refine ⟨rfl, ?_⟩; walk_at "zws"; exact q
  | [.tup [.int b]], q =>
    refine ⟨rfl, ?_⟩
    walk_at "zws"
    have e : (4 * 0 + b : Int) = b := by omega
    have q : Q (.int b) := q
    rw [← e] at q
    exact q
  | [.tup [.int b, .int c]], q =>
    refine ⟨rfl, ?_⟩
    walk_at "zws"
    have e : (4 * (4 * 0 + b) + c : Int) = 4 * b + c := by omega
    have q : Q (.int (4 * b + c)) := q
    rw [← e] at q
    exact q
def flat : List D → Option (List D)
  | [] => some []
  | .lst xs :: r => match flat r with
    | some ys => some (xs ++ ys)
    | none => none
  | _ :: _ => none
def P_joined : GP := fun ds Q => match ds with
  | [.lst ls] => ∃ xs, flat ls = some xs ∧ xs.length ≤ sizeLine ∧ nls xs = true ∧ Q (.lst xs)
  | _ => False
theorem P_joined_mono : monoP P_joined := fun ds P Q w q => by
  match ds, q with
  | [.lst ls], ⟨xs, h1, h2, h3, q⟩ => exact ⟨xs, h1, h2, h3, w _ q⟩
theorem joined_loop {E : DEnds} {a : Option D} {st : Ms → Prop} (hst : ∀ M, st M) : ∀ (ls acc xs : List D) (δ : DSt), δ = [a, some (.loc 0), none] ∨ (∃ z, δ = [a, some (.loc 0), some z]) → flat ls = some xs → (acc ++ xs).length ≤ sizeLine → (∀ δ', δ'[1]? = some (some (.loc 0)) → E.nx δ' [some (.lst (acc ++ xs))]) → forD (dgName 2) (dDrop (dBM "list" gmExtend (dVar 1) (dCons (dVar 2) dNil))) st E ls δ [some (.lst acc)]
  | [], acc, xs, δ, hd, hf, hl, q => by
    cases hf
    rw [List.append_nil] at q
    refine q δ ?_
    rcases hd with rfl | ⟨z, rfl⟩ <;> rfl
  | .lst ys :: r, acc, xs, δ, hd, hf, hl, q => by
    unfold flat at hf
    cases e : flat r with
    | none => rw [e] at hf; cases hf
    | some zs =>
      rw [e] at hf
      cases hf
      have step : ∀ δ', δ' = [a, some (.loc 0), some (.lst ys)] → forD (dgName 2) (dDrop (dBM "list" gmExtend (dVar 1) (dCons (dVar 2) dNil))) st E r δ' [some (.lst (acc ++ ys))] := fun δ' e' =>
        joined_loop hst r (acc ++ ys) zs δ' (.inr ⟨_, e'⟩) e (by rw [List.append_assoc]; exact hl) (by rw [List.append_assoc]; exact q)
      have hz : acc.length + ys.length ≤ sizeLine := by simp at hl; omega
      rcases hd with rfl | ⟨z, rfl⟩
      · exact ⟨rfl, acc, ys, rfl, rfl, hz, hst _, step _ rfl⟩
      · exact ⟨rfl, acc, ys, rfl, rfl, hz, hst _, step _ rfl⟩
  | .non :: _, _, _, _, _, hf, _, _ => by cases hf
  | .bl _ :: _, _, _, _, _, hf, _, _ => by cases hf
  | .int _ :: _, _, _, _, _, hf, _, _ => by cases hf
  | .str _ :: _, _, _, _, _, hf, _, _ => by cases hf
  | .ty _ :: _, _, _, _, _, hf, _, _ => by cases hf
  | .tup _ :: _, _, _, _, _, hf, _, _ => by cases hf
  | .dct _ _ :: _, _, _, _, _, hf, _, _ => by cases hf
  | .ins _ _ _ :: _, _, _, _, _, hf, _, _ => by cases hf
  | .scr _ :: _, _, _, _, _, hf, _, _ => by cases hf
  | .loc _ :: _, _, _, _, _, hf, _, _ => by cases hf
  | .cls _ :: _, _, _, _, _, hf, _, _ => by cases hf
end K22
set_option Elab.async false
set_option linter.all false
set_option maxRecDepth 100000
set_option maxHeartbeats 4000000
namespace K22
open PySem PySem.Spec L2 L3
local macro_rules | `(tactic| walk_at "zws1") => `(tactic| ((conv => whnf); first
  | refine ⟨_, rfl, ?_⟩ | refine ⟨rfl, ?_⟩ | refine ⟨Nat.le_of_ble_eq_true rfl, ?_⟩ | refine ⟨show (0 : Int) < _ by decide, ?_⟩ | refine ⟨show CDivL _ _ from ⟨by decide, by decide⟩, ?_⟩ | refine ⟨show CDiv _ _ from ⟨by decide, by decide⟩, ?_⟩
  | refine ⟨show CPow _ _ from ⟨by decide, by decide, by decide⟩, ?_⟩ | refine ⟨show CMul _ _ from .inl ⟨by decide, by decide⟩, ?_⟩ | refine ⟨show CMul _ _ from .inr ⟨by decide, by decide⟩, ?_⟩
  | refine ⟨fun h => absurd (show (1 : Nat) = 0 from h.1) (by decide), ?_⟩ | refine ⟨fun h => absurd (show (2 : Nat) = 0 from h.1) (by decide), ?_⟩ | refine ⟨fun h => absurd (show (3 : Nat) = 0 from h.1) (by decide), ?_⟩))
local macro_rules | `(tactic| walk_at "zws") => `(tactic| ((repeat walk_at "zws1"); try (conv => whnf)))
theorem sp_joined : ∀ ds Q, P_joined ds Q → fnC 3 1 t_joined ds Q := fun ds Q q => by
  match ds, q with
  | [.lst ls], ⟨xs, h1, h2, h3, q⟩ =>
    refine ⟨rfl, ?_⟩
    walk_at "zws"
    refine joined_loop (a := some (.lst ls)) (fun M => rfl) ls [] xs _ (.inl rfl) h1 h2 fun δ' e => ?_
    show dRet (dVar 1) _ δ' _
    unfold dRet dVar
    rw [e]
    exact ⟨h3, q⟩
inductive Rw where
  | set (b n : Int) | add (b c : Int) | take (b c : Int) | say (b : Int) | ask (b : Int)
  | jump (s : Bool) (p : Int) | jumpif (s : Bool) (b p : Int) | call (s : Bool) (p : Int) | back | stop
  | load (s : Bool) (b c p : Int) | jumpby (s : Bool) (b p : Int) | alike (b p q : Int)
def Rw.d : Rw → D
  | .set b n => .tup [.str "set", .int b, .int n]
  | .add b c => .tup [.str "add", .int b, .int c]
  | .take b c => .tup [.str "take", .int b, .int c]
  | .say b => .tup [.str "say", .int b]
  | .ask b => .tup [.str "ask", .int b]
  | .jump _ p => .tup [.str "jump", .int p]
  | .jumpif _ b p => .tup [.str "jumpif", .int b, .int p]
  | .call _ p => .tup [.str "call", .int p]
  | .back => .tup [.str "back"]
  | .stop => .tup [.str "stop"]
  | .load _ b c p => .tup [.str "load", .int b, .int c, .int p]
  | .jumpby _ b p => .tup [.str "jumpby", .int b, .int p]
  | .alike b p q => .tup [.str "alike", .int b, .int p, .int q]
def Rw.near : Rw → D
  | .jump s _ | .jumpif s _ _ | .call s _ | .load s _ _ _ | .jumpby s _ _ => .bl s
  | _ => .non
def Rw.kind : Rw → Str
  | .set _ _ => "set" | .add _ _ => "add" | .take _ _ => "take" | .say _ => "say" | .ask _ => "ask" | .jump _ _ => "jump" | .jumpif _ _ _ => "jumpif" | .call _ _ => "call" | .back => "back" | .stop => "stop" | .load _ _ _ _ => "load" | .jumpby _ _ _ => "jumpby" | .alike _ _ _ => "alike"
def Rw.code : Rw → D
  | .set _ _ => .tup [.str "set", .non, .int 16, .int 1, .int 4]
  | .add _ _ => .tup [.str "add", .non, .int 32, .int 2, .int 0]
  | .take _ _ => .tup [.str "take", .non, .int 48, .int 2, .int 0]
  | .say _ => .tup [.str "say", .non, .int 64, .int 1, .int 0]
  | .ask _ => .tup [.str "ask", .non, .int 68, .int 1, .int 0]
  | .jump true _ => .tup [.str "jump", .bl true, .int 80, .int 0, .int 1]
  | .jump false _ => .tup [.str "jump", .bl false, .int 81, .int 0, .int 2]
  | .call true _ => .tup [.str "call", .bl true, .int 82, .int 0, .int 1]
  | .call false _ => .tup [.str "call", .bl false, .int 83, .int 0, .int 2]
  | .jumpif true _ _ => .tup [.str "jumpif", .bl true, .int 84, .int 1, .int 1]
  | .jumpif false _ _ => .tup [.str "jumpif", .bl false, .int 88, .int 1, .int 2]
  | .back => .tup [.str "back", .non, .int 98, .int 0, .int 0]
  | .stop => .tup [.str "stop", .non, .int 99, .int 0, .int 0]
  | .jumpby true _ _ => .tup [.str "jumpby", .bl true, .int 100, .int 1, .int 1]
  | .jumpby false _ _ => .tup [.str "jumpby", .bl false, .int 104, .int 1, .int 2]
  | .load true _ _ _ => .tup [.str "load", .bl true, .int 112, .int 2, .int 1]
  | .load false _ _ _ => .tup [.str "load", .bl false, .int 128, .int 2, .int 2]
  | .alike _ _ _ => .tup [.str "alike", .non, .int 144, .int 1, .int 4]
theorem at_n {β : Type} {xs : List β} {k : Nat} {x : β} (h : xs[k]? = some x) : atI xs (k : Int) = some x := by
  have hk := (List.getElem?_eq_some_iff.mp h).1
  unfold atI ixN
  rw [if_pos (by omega), if_pos (by omega)]
  simpa using h
theorem at_0 {β : Type} {a : β} {t : List β} : atI (a :: t) 0 = some a := at_n (k := 0) rfl
theorem at_1 {β : Type} {a b : β} {t : List β} : atI (a :: b :: t) 1 = some b := at_n (k := 1) rfl
def codeOf (kind : Str) (near : D) : List D → Option D
  | .tup (.str k :: n :: r) :: rest => if (k == kind && eqD n near) = true then some (.tup (.str k :: n :: r)) else codeOf kind near rest
  | _ => none
def codes : List D := match d_CODES with | .tup ds => ds | _ => []
def nb : D → Bool
  | .non | .bl _ => true
  | _ => false
def okC : List D → Bool
  | .tup (.str _ :: n :: _) :: rest => nb n && okC rest
  | [] => true
  | _ => false
theorem cmp_nb {x y : D} (hx : nb x = true) (hy : nb y = true) {M : Ms} {Q : DK} (q : Q (.bl (eqD x y)) M) : gEq x y M Q := by
  cases x <;> first | (cases hx; done) | skip
  all_goals cases y <;> first | (cases hy; done) | exact ⟨⟨rfl, rfl, Nat.le_of_ble_eq_true rfl, Nat.le_of_ble_eq_true rfl⟩, q⟩
theorem code_loop {kind : Str} {near : D} {st : Ms → Prop} (hst : ∀ M, st M) {E : DEnds} (hn : nb near = true) : ∀ (items : List D) (c : D) (z : Option D), okC items = true → codeOf kind near items = some c → E.rt c [] →
    forD (dgName 2) (dIfS (dAnd (dTest (dOp gEq (dOp gIx (dVar 2) (dC (.int 0))) (dVar 0))) (dTest (dOp gEq (dOp gIx (dVar 2) (dC (.int 1))) (dVar 1)))) (dRet (dVar 2)) dNext) st E items [some (.str kind), some near, z] []
  | [], c, z, _, h, _ => by cases h
  | .tup (.str k :: n :: r) :: rest, c, z, ho, h, q => by
    unfold okC at ho
    rw [Bool.and_eq_true] at ho
    unfold codeOf at h
    have again : (k == kind && eqD n near) = false → forD (dgName 2) (dIfS (dAnd (dTest (dOp gEq (dOp gIx (dVar 2) (dC (.int 0))) (dVar 0))) (dTest (dOp gEq (dOp gIx (dVar 2) (dC (.int 1))) (dVar 1)))) (dRet (dVar 2)) dNext) st E rest [some (.str kind), some near, some (.tup (.str k :: n :: r))] [] := fun e => by
      rw [e] at h
      exact code_loop hst hn rest c _ ho.2 h q
    refine ⟨_, at_0, ?_⟩
    show (if (k == kind) = true then _ else _)
    cases e1 : k == kind with
    | false =>
      rw [if_neg (by simp)]
      show (if false = true then _ else _)
      rw [if_neg (by simp)]
      exact ⟨hst _, again (by rw [e1]; rfl)⟩
    | true =>
      rw [if_pos rfl]
      refine ⟨_, at_1, ?_⟩
      simp only [List.set_cons_succ, List.set_cons_zero, dVar_succ, dVar_cons0]
      refine cmp_nb ho.1 hn ?_
      show (if eqD n near = true then _ else _)
      cases e2 : eqD n near with
      | false =>
        rw [if_neg (by simp)]
        exact ⟨hst _, again (by rw [e1, e2]; rfl)⟩
      | true =>
        rw [if_pos rfl]
        rw [e1, e2] at h
        cases h
        exact q
  | .tup (.str _ :: []) :: _, _, _, _, h, _ => by cases h
  | .tup [] :: _, _, _, _, h, _ => by cases h
def P_code_for : GP := fun ds Q => ∃ kind near c, ds = [.str kind, near] ∧ nb near = true ∧ codeOf kind near codes = some c ∧ nl (fz [] c) = true ∧ Q (fz [] c)
theorem P_code_for_mono : monoP P_code_for := fun ds P Q w ⟨kind, near, c, h1, h2, h3, h4, q⟩ => ⟨kind, near, c, h1, h2, h3, h4, w _ q⟩
theorem okC_codes : okC codes = true := by kernel_rfl
theorem sp_code_for : ∀ ds Q, P_code_for ds Q → fnC 3 2 t_code_for ds Q := fun ds Q ⟨kind, near, c, h, hn, hc, h4, q⟩ => by
  subst h
  refine ⟨rfl, codes, rfl, rfl, ?_⟩
  exact code_loop (fun _ => rfl) hn codes c none okC_codes hc ⟨h4, q⟩
theorem code_of : ∀ r : Rw, codeOf r.kind r.near codes = some r.code
  | .set _ _ => by kernel_rfl
  | .add _ _ => by kernel_rfl
  | .take _ _ => by kernel_rfl
  | .say _ => by kernel_rfl
  | .ask _ => by kernel_rfl
  | .jump true _ => by kernel_rfl
  | .jump false _ => by kernel_rfl
  | .jumpif true _ _ => by kernel_rfl
  | .jumpif false _ _ => by kernel_rfl
  | .call true _ => by kernel_rfl
  | .call false _ => by kernel_rfl
  | .back => by kernel_rfl
  | .stop => by kernel_rfl
  | .load true _ _ _ => by kernel_rfl
  | .load false _ _ _ => by kernel_rfl
  | .jumpby true _ _ => by kernel_rfl
  | .jumpby false _ _ => by kernel_rfl
  | .alike _ _ _ => by kernel_rfl
end K22
set_option Elab.async false
set_option linter.all false
set_option maxRecDepth 100000
set_option maxHeartbeats 4000000
namespace K22
open PySem PySem.Spec L2 L3
local macro_rules | `(tactic| walk_at "zws1") => `(tactic| ((conv => whnf); first
  | refine ⟨_, rfl, ?_⟩ | refine ⟨rfl, ?_⟩ | refine ⟨Nat.le_of_ble_eq_true rfl, ?_⟩ | refine ⟨show (0 : Int) < _ by decide, ?_⟩ | refine ⟨show CDivL _ _ from ⟨by decide, by decide⟩, ?_⟩ | refine ⟨show CDiv _ _ from ⟨by decide, by decide⟩, ?_⟩
  | refine ⟨show CPow _ _ from ⟨by decide, by decide, by decide⟩, ?_⟩ | refine ⟨show CMul _ _ from .inl ⟨by decide, by decide⟩, ?_⟩ | refine ⟨show CMul _ _ from .inr ⟨by decide, by decide⟩, ?_⟩
  | refine ⟨fun h => absurd (show (1 : Nat) = 0 from h.1) (by decide), ?_⟩ | refine ⟨fun h => absurd (show (2 : Nat) = 0 from h.1) (by decide), ?_⟩ | refine ⟨fun h => absurd (show (3 : Nat) = 0 from h.1) (by decide), ?_⟩))
local macro_rules | `(tactic| walk_at "zws") => `(tactic| ((repeat walk_at "zws1"); try (conv => whnf)))
def Rw.cells (a : Int) : Rw → List Int
  | .set b n => (16 + b) :: four n
  | .add b c => [32 + (4 * b + c)]
  | .take b c => [48 + (4 * b + c)]
  | .say b => [64 + b]
  | .ask b => [68 + b]
  | .jump true p => [80 + 0, (p - (a + 2)) % 256]
  | .jump false p => (81 + 0) :: two p
  | .call true p => [82 + 0, (p - (a + 2)) % 256]
  | .call false p => (83 + 0) :: two p
  | .jumpif true b p => [84 + b, (p - (a + 2)) % 256]
  | .jumpif false b p => (88 + b) :: two p
  | .back => [98 + 0]
  | .stop => [99 + 0]
  | .jumpby true b p => [100 + b, (p - (a + 2)) % 256]
  | .jumpby false b p => (104 + b) :: two p
  | .load true b c p => [112 + (4 * b + c), (p - (a + 2)) % 256]
  | .load false b c p => (128 + (4 * b + c)) :: two p
  | .alike b p q => (144 + b) :: (two p ++ two q)
def P_code_cells : GN := fun ds M Q => ∃ (r : Rw) (a : Int), ds = [r.d, .int a, r.near] ∧ Q (.loc M.length) (M ++ [some (.lst (iD (r.cells a)))])
theorem P_code_cells_mono : monoN P_code_cells := fun ds M P Q w ⟨r, a, h, q⟩ => ⟨r, a, h, w _ _ q⟩
theorem sp_code_cells : ∀ ds M Q, P_code_cells ds M Q → fnG 10 3 (t_code_cells (cl P_code_for) (cl P_box) (cl P_four) (cl P_joined) (cl P_two)) ds M Q := fun ds M Q ⟨r, a, h, q⟩ => by
  subst h
  refine ⟨rfl, ?_⟩
  cases r with
  | set b n => walk_at "zws"; refine ⟨_, _, _, rfl, rfl, code_of (.set b n), rfl, ?_⟩; walk_at "zws"; exact q
  | add b c => walk_at "zws"; refine ⟨_, _, _, rfl, rfl, code_of (.add b c), rfl, ?_⟩; walk_at "zws"; exact q
  | take b c => walk_at "zws"; refine ⟨_, _, _, rfl, rfl, code_of (.take b c), rfl, ?_⟩; walk_at "zws"; exact q
  | say b => walk_at "zws"; refine ⟨_, _, _, rfl, rfl, code_of (.say b), rfl, ?_⟩; walk_at "zws"; exact q
  | ask b => walk_at "zws"; refine ⟨_, _, _, rfl, rfl, code_of (.ask b), rfl, ?_⟩; walk_at "zws"; exact q
  | jump s p =>
    cases s
    · walk_at "zws"; refine ⟨_, _, _, rfl, rfl, code_of (.jump false p), rfl, ?_⟩; walk_at "zws"; exact q
    · walk_at "zws"; refine ⟨_, _, _, rfl, rfl, code_of (.jump true p), rfl, ?_⟩; walk_at "zws"; exact q
  | jumpif s b p =>
    cases s
    · walk_at "zws"; refine ⟨_, _, _, rfl, rfl, code_of (.jumpif false b p), rfl, ?_⟩; walk_at "zws"; exact q
    · walk_at "zws"; refine ⟨_, _, _, rfl, rfl, code_of (.jumpif true b p), rfl, ?_⟩; walk_at "zws"; exact q
  | call s p =>
    cases s
    · walk_at "zws"; refine ⟨_, _, _, rfl, rfl, code_of (.call false p), rfl, ?_⟩; walk_at "zws"; exact q
    · walk_at "zws"; refine ⟨_, _, _, rfl, rfl, code_of (.call true p), rfl, ?_⟩; walk_at "zws"; exact q
  | back  => walk_at "zws"; refine ⟨_, _, _, rfl, rfl, code_of (.back ), rfl, ?_⟩; walk_at "zws"; exact q
  | stop  => walk_at "zws"; refine ⟨_, _, _, rfl, rfl, code_of (.stop ), rfl, ?_⟩; walk_at "zws"; exact q
  | load s b c p =>
    cases s
    · walk_at "zws"; refine ⟨_, _, _, rfl, rfl, code_of (.load false b c p), rfl, ?_⟩; walk_at "zws"; exact q
    · walk_at "zws"; refine ⟨_, _, _, rfl, rfl, code_of (.load true b c p), rfl, ?_⟩; walk_at "zws"; exact q
  | jumpby s b p =>
    cases s
    · walk_at "zws"; refine ⟨_, _, _, rfl, rfl, code_of (.jumpby false b p), rfl, ?_⟩; walk_at "zws"; exact q
    · walk_at "zws"; refine ⟨_, _, _, rfl, rfl, code_of (.jumpby true b p), rfl, ?_⟩; walk_at "zws"; exact q
  | alike b p p' => walk_at "zws"; refine ⟨_, _, _, rfl, rfl, code_of (.alike b p p'), rfl, ?_⟩; walk_at "zws"; exact q
end K22
set_option Elab.async false
set_option linter.all false
set_option maxRecDepth 100000
set_option maxHeartbeats 4000000
namespace K22
open PySem PySem.Spec L2 L3
local macro_rules | `(tactic| walk_at "zws1") => `(tactic| ((conv => whnf); first
  | refine ⟨_, rfl, ?_⟩ | refine ⟨rfl, ?_⟩ | refine ⟨Nat.le_of_ble_eq_true rfl, ?_⟩ | refine ⟨show (0 : Int) < _ by decide, ?_⟩ | refine ⟨show CDivL _ _ from ⟨by decide, by decide⟩, ?_⟩ | refine ⟨show CDiv _ _ from ⟨by decide, by decide⟩, ?_⟩
  | refine ⟨show CPow _ _ from ⟨by decide, by decide, by decide⟩, ?_⟩ | refine ⟨show CMul _ _ from .inl ⟨by decide, by decide⟩, ?_⟩ | refine ⟨show CMul _ _ from .inr ⟨by decide, by decide⟩, ?_⟩
  | refine ⟨fun h => absurd (show (1 : Nat) = 0 from h.1) (by decide), ?_⟩ | refine ⟨fun h => absurd (show (2 : Nat) = 0 from h.1) (by decide), ?_⟩ | refine ⟨fun h => absurd (show (3 : Nat) = 0 from h.1) (by decide), ?_⟩))
local macro_rules | `(tactic| walk_at "zws") => `(tactic| ((repeat walk_at "zws1"); try (conv => whnf)))
def SrcO (o : Option (Option OD)) (n : Int) : Prop := ∃ a m c d : Int, o = some (some (.lst [.int a, .int m, .int c, .int d])) ∧ 0 ≤ c ∧ c ≤ n
def Src (M : Ms) (k : Nat) (n : Int) : Prop := SrcO M[k]? n
def Sib (M M' : Ms) (k : Nat) : Prop := M.length ≤ M'.length ∧ ∀ j, j < M.length → j ≠ k → M'[j]? = M[j]?
theorem Sib.refl {M : Ms} {k : Nat} : Sib M M k := ⟨Nat.le_refl _, fun _ _ _ => rfl⟩
theorem Sib.trans {M M' M'' : Ms} {k : Nat} (a : Sib M M' k) (b : Sib M' M'' k) : Sib M M'' k := ⟨Nat.le_trans a.1 b.1, fun j h e => (b.2 j (Nat.lt_of_lt_of_le h a.1) e).trans (a.2 j h e)⟩
theorem Sib.set {M : Ms} {k : Nat} {o : Option OD} : Sib M (M.set k o) k := ⟨by simp, fun j _ e => by rw [List.getElem?_set_ne (fun z => e z.symm)]⟩
theorem Sib.push {M : Ms} {k : Nat} {o : Option OD} : Sib M (M ++ [o]) k := ⟨by simp, fun j h _ => List.getElem?_append_left h⟩
theorem Src.lt {M : Ms} {k : Nat} {n : Int} (h : Src M k n) : k < M.length := by
  obtain ⟨_, _, _, _, e, _⟩ := h
  exact (List.getElem?_eq_some_iff.mp e).1
theorem Src.set {M : Ms} {k : Nat} {n a m c d : Int} (h : k < M.length) (h0 : 0 ≤ c) (h1 : c ≤ n) : Src (M.set k (some (.lst [.int a, .int m, .int c, .int d]))) k n := ⟨a, m, c, d, List.getElem?_set_self h, h0, h1⟩
theorem Src.le {M : Ms} {k : Nat} {n n' : Int} (h : Src M k n) (e : n ≤ n') : Src M k n' := by
  obtain ⟨a, m, c, d, e1, e2, e3⟩ := h
  exact ⟨a, m, c, d, e1, e2, by omega⟩
theorem Src.push {M : Ms} {k : Nat} {n : Int} {o : Option OD} (h : Src M k n) : Src (M ++ [o]) k n := by
  have hl := h.lt
  unfold Src
  rw [List.getElem?_append_left hl]
  exact h
def P_mixed : GP := fun ds Q => match ds with
  | [.int i, .int c] => 0 ≤ c ∧ c ≤ 1000000 ∧ ∀ r : Int, 0 ≤ r → r < 2147483629 → Q (.int r)
  | _ => False
theorem P_mixed_mono : monoP P_mixed := fun ds P Q w q => by
  match ds, q with
  | [.int i, .int c], ⟨h1, h2, q⟩ => exact ⟨h1, h2, fun r a b => w _ (q r a b)⟩
theorem sp_mixed : ∀ ds Q, P_mixed ds Q → fnC 3 2 t_law_mixed ds Q := fun ds Q q => by
  match ds, q with
  | [.int i, .int c], ⟨h1, h2, q⟩ =>
    refine ⟨rfl, ?_⟩
    have hm : ∀ x : Int, 0 ≤ x % 2147483629 ∧ x % 2147483629 < 2147483629 := fun x => ⟨Int.emod_nonneg _ (by decide), Int.emod_lt_of_pos _ (by decide)⟩
    walk_at "zws"
    refine ⟨show CMul _ _ from .inr ⟨?_, ?_⟩, ?_⟩
    · omega
    · omega
    walk_at "zws"
    refine ⟨show CMul _ _ from .inl ⟨?_, ?_⟩, ?_⟩
    · have := hm ((i % 2147483629 + 69621 * c + 1) * (48271 + 2 * c)); omega
    · have := hm ((i % 2147483629 + 69621 * c + 1) * (48271 + 2 * c)); omega
    walk_at "zws"
    refine ⟨show CMul _ _ from .inl ⟨?_, ?_⟩, ?_⟩
    · refine Int.lt_of_lt_of_le ?_ (hm _).1; decide
    · exact Int.lt_trans (hm _).2 (by decide)
    walk_at "zws"
    exact q _ (hm _).1 (hm _).2
def P_next : GN := fun ds M Q => ∃ (k : Nat) (many n : Int), ds = [.loc k, .int many] ∧ 0 < many ∧ many < 18446744073709551616 ∧ Src M k n ∧ n < 1000000 ∧ ∀ (r : Int) (M' : Ms), 0 ≤ r → r < many → Src M' k (n + 1) → Sib M M' k → Q (.int r) M'
theorem P_next_mono : monoN P_next := fun ds M P Q w ⟨k, many, n, h1, h2, h3, h4, h5, q⟩ => ⟨k, many, n, h1, h2, h3, h4, h5, fun r M' a b c d => w _ _ (q r M' a b c d)⟩
theorem vw_loc {M : Ms} {k : Nat} {o : OD} (h : M[k]? = some (some o)) : vw M (.loc k) = o.toD := by
  show vwk k M[k]? = _
  rw [h]
  rfl
theorem ix_loc {M : Ms} {k : Nat} {xs : List D} {i : Int} {d : D} {Q : DK} (h : M[k]? = some (some (.lst xs))) (e : atI xs i = some d) (q : Q d M) : gIx (.loc k) (.int i) M Q := by
  unfold gIx
  rw [vw_loc h]
  exact ⟨d, e, q⟩
theorem sub_loc {δ : DSt} {M : Ms} {k : Nat} {xs : List D} {i : Int} {n : Nat} {v : D} {Q : DSt → Ms → Prop} (h0 : δ[0]? = some (some (.loc k))) (h : M[k]? = some (some (.lst xs))) (e : ixN xs.length i = some n) (q : Q δ (M.set k (some (.lst (xs.set n v))))) : dgSub (dVar 0) (dC (.int i)) v δ M Q := by
  unfold dgSub dVar dC
  rw [h0]
  simp only [h]
  exact ⟨n, e, q⟩
local macro_rules | `(tactic| walk_at "zrs") => `(tactic| simp only [dSeq, dNext, dAsg, dOp, dC, dIfS, dAnd, rd_test, dVar_cons0, dVar_succ, dRet, dCB, dCons, dNil, dSet, startD, gEq, rv_int, cmpE_int, kTest_bl, gI_int, gI0_int, gPlus_ii, List.map_cons, List.map_nil, List.cons_append, List.nil_append, List.replicate, List.length_cons, List.length_nil, Nat.reduceAdd, Nat.reduceSub, List.set_cons_succ, List.set_cons_zero, if_true, if_false, reduceIte, Bool.false_eq_true])
theorem sp_next : ∀ ds M Q, P_next ds M Q → fnG 3 2 (t_law_next (cl P_mixed)) ds M Q := fun ds M Q ⟨k, many, n, h1, h2, h3, h4, h5, q⟩ => by
  subst h1
  have hl := h4.lt
  obtain ⟨a, m, c, d, e, c0, c1⟩ := h4
  refine ⟨rfl, ?_⟩
  have hmod : ∀ x : Int, 0 ≤ x % many ∧ x % many < many := fun x => ⟨Int.emod_nonneg _ (by omega), Int.emod_lt_of_pos _ h2⟩
  have e2 : (M.set k (some (.lst [.int a, .int m, .int (c + 1), .int d])))[k]? = some (some (.lst [.int a, .int m, .int (c + 1), .int d])) := List.getElem?_set_self hl
  have mixedWay : gIx (.loc k) (.int 2) M fun x M1 => gPlus x (.int 1) M1 fun v M2 => dgSub (dVar 0) (dC (.int 2)) v [some (.loc k), some (.int many), none] M2 fun δ M3 => (dRet (dOp (gI (fun _ j => 0 < j) fun i j => .int (i % j)) (dCB (cl P_mixed) (dCons (dOp gIx (dVar 0) (dC (.int 3))) (dCons (dOp gIx (dVar 0) (dC (.int 2))) dNil))) (dVar 1))) ⟨fun _ M' => Q .non M', Q, fun _ _ => False, fun _ _ => False⟩ δ M3 := by
    refine ix_loc e (at_n (k := 2) rfl) ?_
    walk_at "zrs"
    refine sub_loc rfl e rfl ?_
    walk_at "zrs"
    refine ix_loc e2 (at_n (k := 3) rfl) ?_
    refine ix_loc e2 (at_n (k := 2) rfl) ?_
    refine ⟨rfl, ?_, ?_, fun r r0 r1 => ⟨h2, ?_⟩⟩
    · omega
    · omega
    · exact q _ _ (hmod r).1 (hmod r).2 (Src.set hl (by omega) (by omega)) Sib.set
  unfold t_law_next
  walk_at "zrs"
  refine ix_loc e at_1 ?_
  walk_at "zrs"
  cases em : m == 0 with
  | false => walk_at "zrs"; exact mixedWay
  | true =>
    walk_at "zrs"
    refine ix_loc e at_0 ?_
    walk_at "zrs"
    by_cases ha : 1 < a
    · rw [if_pos (decide_eq_true ha)]
      refine ix_loc e at_0 ?_
      refine ⟨h2, ?_⟩
      refine ix_loc e at_0 ?_
      refine ⟨⟨h2, h3⟩, ?_⟩
      refine sub_loc rfl e rfl ?_
      exact q _ _ (hmod a).1 (hmod a).2 (Src.set hl c0 (by omega)) Sib.set
    · rw [if_neg (by simp [ha])]
      exact mixedWay
end K22
set_option Elab.async false
set_option linter.all false
set_option maxRecDepth 100000
set_option maxHeartbeats 4000000
namespace K22
open PySem PySem.Spec L2 L3
local macro_rules | `(tactic| walk_at "zws1") => `(tactic| ((conv => whnf); first
  | refine ⟨_, rfl, ?_⟩ | refine ⟨rfl, ?_⟩ | refine ⟨Nat.le_of_ble_eq_true rfl, ?_⟩ | refine ⟨show (0 : Int) < _ by decide, ?_⟩ | refine ⟨show CDivL _ _ from ⟨by decide, by decide⟩, ?_⟩ | refine ⟨show CDiv _ _ from ⟨by decide, by decide⟩, ?_⟩
  | refine ⟨show CPow _ _ from ⟨by decide, by decide, by decide⟩, ?_⟩ | refine ⟨show CMul _ _ from .inl ⟨by decide, by decide⟩, ?_⟩ | refine ⟨show CMul _ _ from .inr ⟨by decide, by decide⟩, ?_⟩
  | refine ⟨fun h => absurd (show (1 : Nat) = 0 from h.1) (by decide), ?_⟩ | refine ⟨fun h => absurd (show (2 : Nat) = 0 from h.1) (by decide), ?_⟩ | refine ⟨fun h => absurd (show (3 : Nat) = 0 from h.1) (by decide), ?_⟩))
local macro_rules | `(tactic| walk_at "zws") => `(tactic| ((repeat walk_at "zws1"); try (conv => whnf)))
local macro_rules | `(tactic| walk_at "zrs") => `(tactic| simp only [dSeq, dNext, dAsg, dOp, dC, dIfS, dAnd, rd_test, dVar_cons0, dVar_succ, dRet, dCB, dCons, dNil, dSet, startD, gEq, rv_int, cmpE_int, kTest_bl, gI_int, gI0_int, gPlus_ii, List.map_cons, List.map_nil, List.cons_append, List.nil_append, List.replicate, List.length_cons, List.length_nil, Nat.reduceAdd, Nat.reduceSub, List.set_cons_succ, List.set_cons_zero, if_true, if_false, reduceIte, Bool.false_eq_true])
def P_source : GN := fun ds M Q => match ds with
  | [.int i] => Q (.loc M.length) (M ++ [some (.lst [.int (i / 2), .int (i % 2), .int 0, .int i])])
  | _ => False
theorem P_source_mono : monoN P_source := fun ds M P Q w q => by
  match ds, q with
  | [.int i], q => exact w _ _ q
theorem sp_source : ∀ ds M Q, P_source ds M Q → fnG 1 1 t_law_source ds M Q := fun ds M Q q => by
  match ds, q with
  | [.int i], q =>
    refine ⟨rfl, ?_⟩
    walk_at "zws"
    exact q
def P_number : GN := fun ds M Q => ∃ (k : Nat) (n : Int), ds = [.loc k] ∧ Src M k n ∧ n < 999000 ∧ ∀ (i : Int) (M' : Ms), -2147483648 ≤ i → i ≤ 2147483647 → Src M' k (n + 2) → Sib M M' k → Q (.int i) M'
theorem P_number_mono : monoN P_number := fun ds M P Q w ⟨k, n, h1, h2, h3, q⟩ => ⟨k, n, h1, h2, h3, fun r M' x y a b => w _ _ (q r M' x y a b)⟩
theorem at_lit {xs : List Int} {r : Int} (h0 : 0 ≤ r) (h1 : r < xs.length) : ∃ i ∈ xs, atI (iD xs) r = some (.int i) := by
  obtain ⟨k, rfl⟩ := Int.eq_ofNat_of_zero_le h0
  have hk : k < xs.length := by omega
  exact ⟨xs[k], List.getElem_mem hk, at_n (by simp [hk])⟩
theorem ix_lit {xs : List Int} {r : Int} {M : Ms} {Q : DK} (h0 : 0 ≤ r) (h1 : r < xs.length) (q : ∀ i ∈ xs, Q (.int i) M) : gIx (.lst (iD xs)) (.int r) M Q := by
  obtain ⟨i, hi, e⟩ := at_lit h0 h1
  exact ⟨_, e, q i hi⟩
theorem sp_number : ∀ ds M Q, P_number ds M Q → fnG 2 1 (t_law_number P_next) ds M Q := fun ds M Q ⟨k, n, h1, h2, h3, q⟩ => by
  subst h1
  refine ⟨rfl, ?_⟩
  unfold t_law_number
  walk_at "zrs"
  refine ⟨k, 4, n, rfl, by decide, by decide, h2, by omega, fun r M1 r0 r1 s1 b1 => ?_⟩
  walk_at "zrs"
  cases e1 : r == 0 with
  | true =>
    walk_at "zrs"
    refine ⟨k, 600, n + 1, rfl, by decide, by decide, s1, by omega, fun r M2 r0 r1 s2 b2 => ?_⟩
    walk_at "zrs"
    exact q _ _ (by omega) (by omega) (s2.le (by omega)) (b1.trans b2)
  | false =>
    walk_at "zrs"
    cases e2 : r == 1 with
    | true =>
      walk_at "zrs"
      simp only [rd_new, fLst, dCons, dNil, dC, dNeg_c]
      refine ⟨Nat.le_of_ble_eq_true rfl, k, 8, n + 1, rfl, by decide, by decide, s1, by omega, fun r M2 r0 r1 s2 b2 => ?_⟩
      exact ix_lit (xs := [0, -1, 2147483647, -2147483648, 65536, 255, 256, -256]) r0 r1 fun i hi => q _ _ (by simp at hi; omega) (by simp at hi; omega) (s2.le (by omega)) (b1.trans b2)
    | false =>
      walk_at "zrs"
      refine ⟨k, 4294967296, n + 1, rfl, by decide, by decide, s1, by omega, fun r M2 r0 r1 s2 b2 => ?_⟩
      walk_at "zrs"
      exact q _ _ (by omega) (by omega) (s2.le (by omega)) (b1.trans b2)
def P_place : GN := fun ds M Q => ∃ (k : Nat) (n : Int), ds = [.loc k] ∧ Src M k n ∧ n < 999000 ∧ ∀ (i : Int) (M' : Ms), 0 ≤ i → i < 65536 → Src M' k (n + 2) → Sib M M' k → Q (.int i) M'
theorem P_place_mono : monoN P_place := fun ds M P Q w ⟨k, n, h1, h2, h3, q⟩ => ⟨k, n, h1, h2, h3, fun r M' x y a b => w _ _ (q r M' x y a b)⟩
theorem sp_place : ∀ ds M Q, P_place ds M Q → fnG 1 1 (t_law_place P_next) ds M Q := fun ds M Q ⟨k, n, h1, h2, h3, q⟩ => by
  subst h1
  refine ⟨rfl, ?_⟩
  unfold t_law_place
  walk_at "zrs"
  refine ⟨k, 3, n, rfl, by decide, by decide, h2, by omega, fun r M1 r0 r1 s1 b1 => ?_⟩
  walk_at "zrs"
  cases e1 : r == 0 with
  | true =>
    walk_at "zrs"
    simp only [rd_new, fLst, dCons, dNil, dC, dNeg_c]
    refine ⟨Nat.le_of_ble_eq_true rfl, k, 6, n + 1, rfl, by decide, by decide, s1, by omega, fun r M2 r0 r1 s2 b2 => ?_⟩
    refine ix_lit (xs := [0, 1, 255, 256, 65535, 65280]) r0 r1 fun i hi => ?_
    have : 0 ≤ i ∧ i < 65536 := by simp at hi; omega
    exact q _ _ this.1 this.2 (s2.le (by omega)) (b1.trans b2)
  | false =>
    walk_at "zrs"
    refine ⟨k, 65536, n + 1, rfl, by decide, by decide, s1, by omega, fun r M2 r0 r1 s2 b2 => ?_⟩
    exact q _ _ r0 r1 (s2.le (by omega)) (b1.trans b2)
end K22
set_option Elab.async false
set_option linter.all false
set_option maxRecDepth 100000
set_option maxHeartbeats 4000000
namespace K22
open PySem PySem.Spec L2 L3
local macro_rules | `(tactic| walk_at "zws1") => `(tactic| ((conv => whnf); first
  | refine ⟨_, rfl, ?_⟩ | refine ⟨rfl, ?_⟩ | refine ⟨Nat.le_of_ble_eq_true rfl, ?_⟩ | refine ⟨show (0 : Int) < _ by decide, ?_⟩ | refine ⟨show CDivL _ _ from ⟨by decide, by decide⟩, ?_⟩ | refine ⟨show CDiv _ _ from ⟨by decide, by decide⟩, ?_⟩
  | refine ⟨show CPow _ _ from ⟨by decide, by decide, by decide⟩, ?_⟩ | refine ⟨show CMul _ _ from .inl ⟨by decide, by decide⟩, ?_⟩ | refine ⟨show CMul _ _ from .inr ⟨by decide, by decide⟩, ?_⟩
  | refine ⟨fun h => absurd (show (1 : Nat) = 0 from h.1) (by decide), ?_⟩ | refine ⟨fun h => absurd (show (2 : Nat) = 0 from h.1) (by decide), ?_⟩ | refine ⟨fun h => absurd (show (3 : Nat) = 0 from h.1) (by decide), ?_⟩))
local macro_rules | `(tactic| walk_at "zws") => `(tactic| ((repeat walk_at "zws1"); try (conv => whnf)))
abbrev Bx (b : Int) : Prop := 0 ≤ b ∧ b < 4
abbrev Pl (p : Int) : Prop := 0 ≤ p ∧ p < 65536
abbrev Nm (n : Int) : Prop := -2147483648 ≤ n ∧ n ≤ 2147483647
abbrev Nr (s : Bool) (a p : Int) : Prop := s = true → -128 ≤ p - (a + 2) ∧ p - (a + 2) ≤ 127
def Rw.ok (a : Int) : Rw → Prop
  | .set b n => Bx b ∧ Nm n
  | .add b c | .take b c => Bx b ∧ Bx c
  | .say b | .ask b => Bx b
  | .jump s p | .call s p => Pl p ∧ Nr s a p
  | .jumpif s b p | .jumpby s b p => Bx b ∧ Pl p ∧ Nr s a p
  | .back | .stop => True
  | .load s b c p => Bx b ∧ Bx c ∧ Pl p ∧ Nr s a p
  | .alike b p q => Bx b ∧ Pl p ∧ Pl q
def P_row : GN := fun ds M Q => ∃ (k : Nat) (n a : Int), ds = [.loc k, .int a] ∧ Src M k n ∧ n < 990000 ∧ Pl a ∧ ∀ (r : Rw) (M' : Ms), r.ok a → Src M' k (n + 9) → Sib M M' k → Q (.tup [r.d, r.near]) M'
theorem P_row_mono : monoN P_row := fun ds M P Q w ⟨k, n, a, h1, h2, h3, h4, q⟩ => ⟨k, n, a, h1, h2, h3, h4, fun r M' x y z => w _ _ (q r M' x y z)⟩
local macro_rules | `(tactic| walk_at "zrs2") => `(tactic| simp only [dSeq, dNext, dAsg, dOp, dC, dIfS, dAnd, dNot, rd_test, rd_chain, kChain_bl, gLe_int, dVar_cons0, dVar_succ, dRet, dCB, dCons, dNil, dSet, startD, gEq, rv_int, cmpE_int, kTest_bl, gI_int, gI0_int, gPlus_ii, List.map_cons, List.map_nil, List.cons_append, List.nil_append, List.replicate, List.length_cons, List.length_nil, Nat.reduceAdd, Nat.reduceSub, List.set_cons_succ, List.set_cons_zero, if_true, if_false, reduceIte, Bool.false_eq_true, Bool.not_true, Bool.not_false])
local macro_rules | `(tactic| walk_at "zwr1") => `(tactic| first | walk_at "zws1" | refine ⟨_, _, rfl, rfl, ?_⟩ | refine ⟨List.cons_ne_nil _ _, ?_⟩)
local macro_rules | `(tactic| walk_at "zwr") => `(tactic| ((repeat walk_at "zwr1"); try (conv => whnf)))
theorem sp_row : ∀ ds M Q, P_row ds M Q → fnG 9 2 (t_law_row P_next P_number P_place) ds M Q := fun ds M Q ⟨k, n, a, h1, h2, h3, ha, q⟩ => by
  subst h1
  refine ⟨rfl, ?_⟩
  walk_at "zws"
  refine ⟨k, 13, n, rfl, by decide, by decide, h2, by omega, fun r M1 r0 r1 s1 b1 => ?_⟩
  have hr : r = 0 ∨ r = 1 ∨ r = 2 ∨ r = 3 ∨ r = 4 ∨ r = 5 ∨ r = 6 ∨ r = 7 ∨ r = 8 ∨ r = 9 ∨ r = 10 ∨ r = 11 ∨ r = 12 := by omega
  clear r0 r1
  rcases hr with rfl | rfl | rfl | rfl | rfl | rfl | rfl | rfl | rfl | rfl | rfl | rfl | rfl
  · walk_at "zws"
    refine ⟨k, 4, n + 1, rfl, by decide, by decide, s1, by omega, fun b M2 b0 b1' s2 b2 => ?_⟩
    walk_at "zws"
    refine ⟨k, 4, n + 1 + 1, rfl, by decide, by decide, s2, by omega, fun c M3 c0 c1' s3 b3 => ?_⟩
    walk_at "zws"
    refine ⟨k, n + 1 + 1 + 1, rfl, s3, by omega, fun i M4 i0 i1 s4 b4 => ?_⟩
    walk_at "zws"
    exact q (.set b i) M4 ⟨⟨b0, b1'⟩, i0, i1⟩ (s4.le (by omega)) (b1.trans (b2.trans (b3.trans b4)))
  · walk_at "zws"
    refine ⟨k, 4, n + 1, rfl, by decide, by decide, s1, by omega, fun b M2 b0 b1' s2 b2 => ?_⟩
    walk_at "zws"
    refine ⟨k, 4, n + 1 + 1, rfl, by decide, by decide, s2, by omega, fun c M3 c0 c1' s3 b3 => ?_⟩
    walk_at "zws"
    exact q (.add b c) M3 ⟨⟨b0, b1'⟩, ⟨c0, c1'⟩⟩ (s3.le (by omega)) (b1.trans (b2.trans b3))
  · walk_at "zws"
    refine ⟨k, 4, n + 1, rfl, by decide, by decide, s1, by omega, fun b M2 b0 b1' s2 b2 => ?_⟩
    walk_at "zws"
    refine ⟨k, 4, n + 1 + 1, rfl, by decide, by decide, s2, by omega, fun c M3 c0 c1' s3 b3 => ?_⟩
    walk_at "zws"
    exact q (.take b c) M3 ⟨⟨b0, b1'⟩, ⟨c0, c1'⟩⟩ (s3.le (by omega)) (b1.trans (b2.trans b3))
  · walk_at "zws"
    refine ⟨k, 4, n + 1, rfl, by decide, by decide, s1, by omega, fun b M2 b0 b1' s2 b2 => ?_⟩
    walk_at "zws"
    refine ⟨k, 4, n + 1 + 1, rfl, by decide, by decide, s2, by omega, fun c M3 c0 c1' s3 b3 => ?_⟩
    walk_at "zws"
    exact q (.say b) M3 ⟨b0, b1'⟩ (s3.le (by omega)) (b1.trans (b2.trans b3))
  · walk_at "zws"
    refine ⟨k, 4, n + 1, rfl, by decide, by decide, s1, by omega, fun b M2 b0 b1' s2 b2 => ?_⟩
    walk_at "zws"
    refine ⟨k, 4, n + 1 + 1, rfl, by decide, by decide, s2, by omega, fun c M3 c0 c1' s3 b3 => ?_⟩
    walk_at "zws"
    exact q (.ask b) M3 ⟨b0, b1'⟩ (s3.le (by omega)) (b1.trans (b2.trans b3))
  · walk_at "zws"
    refine ⟨k, 4, n + 1, rfl, by decide, by decide, s1, by omega, fun b M2 b0 b1' s2 b2 => ?_⟩
    walk_at "zws"
    refine ⟨k, 4, n + 1 + 1, rfl, by decide, by decide, s2, by omega, fun c M3 c0 c1' s3 b3 => ?_⟩
    walk_at "zws"
    refine ⟨k, 2, n + 1 + 1 + 1, rfl, by decide, by decide, s3, by omega, fun r M4 r0 r1 s4 b4 => ?_⟩
    have hr : r = 0 ∨ r = 1 := by omega
    clear r0 r1
    rcases hr with rfl | rfl
    · walk_at "zws"
      refine ⟨k, n + 1 + 1 + 1 + 1, rfl, s4, by omega, fun p M5 p0 p1 s5 b5 => ?_⟩
      walk_at "zws"
      refine ⟨k, 256, n + 1 + 1 + 1 + 1 + 2, rfl, by decide, by decide, s5, by omega, fun s M6 s0 s1' s6 b6 => ?_⟩
      walk_at "zrs2"
      by_cases g0 : 0 ≤ a + 2 + s - 128
      · rw [if_pos (decide_eq_true g0)]
        show (if (!decide (a + 2 + s - 128 < 65536)) = true then _ else _)
        by_cases g1 : a + 2 + s - 128 < 65536
        · rw [if_neg (by simp [g1])]
          walk_at "zwr"
          exact q (.jump true (a + 2 + s - 128)) M6 ⟨⟨g0, g1⟩, fun _ => by omega⟩ (s6.le (by omega)) (b1.trans (b2.trans (b3.trans (b4.trans (b5.trans b6)))))
        · rw [if_pos (by simp [g1])]
          walk_at "zwr"
          exact q (.jump true a) M6 ⟨ha, fun _ => by omega⟩ (s6.le (by omega)) (b1.trans (b2.trans (b3.trans (b4.trans (b5.trans b6)))))
      · rw [if_neg (fun z => g0 (of_decide_eq_true z))]
        walk_at "zwr"
        exact q (.jump true a) M6 ⟨ha, fun _ => by omega⟩ (s6.le (by omega)) (b1.trans (b2.trans (b3.trans (b4.trans (b5.trans b6)))))
    · walk_at "zws"
      refine ⟨k, n + 1 + 1 + 1 + 1, rfl, s4, by omega, fun p M5 p0 p1 s5 b5 => ?_⟩
      walk_at "zwr"
      exact q (.jump false p) M5 ⟨⟨p0, p1⟩, fun z => by cases z⟩ (s5.le (by omega)) (b1.trans (b2.trans (b3.trans (b4.trans b5))))
  · walk_at "zws"
    refine ⟨k, 4, n + 1, rfl, by decide, by decide, s1, by omega, fun b M2 b0 b1' s2 b2 => ?_⟩
    walk_at "zws"
    refine ⟨k, 4, n + 1 + 1, rfl, by decide, by decide, s2, by omega, fun c M3 c0 c1' s3 b3 => ?_⟩
    walk_at "zws"
    refine ⟨k, 2, n + 1 + 1 + 1, rfl, by decide, by decide, s3, by omega, fun r M4 r0 r1 s4 b4 => ?_⟩
    have hr : r = 0 ∨ r = 1 := by omega
    clear r0 r1
    rcases hr with rfl | rfl
    · walk_at "zws"
      refine ⟨k, n + 1 + 1 + 1 + 1, rfl, s4, by omega, fun p M5 p0 p1 s5 b5 => ?_⟩
      walk_at "zws"
      refine ⟨k, 256, n + 1 + 1 + 1 + 1 + 2, rfl, by decide, by decide, s5, by omega, fun s M6 s0 s1' s6 b6 => ?_⟩
      walk_at "zrs2"
      by_cases g0 : 0 ≤ a + 2 + s - 128
      · rw [if_pos (decide_eq_true g0)]
        show (if (!decide (a + 2 + s - 128 < 65536)) = true then _ else _)
        by_cases g1 : a + 2 + s - 128 < 65536
        · rw [if_neg (by simp [g1])]
          walk_at "zwr"
          exact q (.jumpif true b (a + 2 + s - 128)) M6 ⟨⟨b0, b1'⟩, ⟨g0, g1⟩, fun _ => by omega⟩ (s6.le (by omega)) (b1.trans (b2.trans (b3.trans (b4.trans (b5.trans b6)))))
        · rw [if_pos (by simp [g1])]
          walk_at "zwr"
          exact q (.jumpif true b a) M6 ⟨⟨b0, b1'⟩, ha, fun _ => by omega⟩ (s6.le (by omega)) (b1.trans (b2.trans (b3.trans (b4.trans (b5.trans b6)))))
      · rw [if_neg (fun z => g0 (of_decide_eq_true z))]
        walk_at "zwr"
        exact q (.jumpif true b a) M6 ⟨⟨b0, b1'⟩, ha, fun _ => by omega⟩ (s6.le (by omega)) (b1.trans (b2.trans (b3.trans (b4.trans (b5.trans b6)))))
    · walk_at "zws"
      refine ⟨k, n + 1 + 1 + 1 + 1, rfl, s4, by omega, fun p M5 p0 p1 s5 b5 => ?_⟩
      walk_at "zwr"
      exact q (.jumpif false b p) M5 ⟨⟨b0, b1'⟩, ⟨p0, p1⟩, fun z => by cases z⟩ (s5.le (by omega)) (b1.trans (b2.trans (b3.trans (b4.trans b5))))
  · walk_at "zws"
    refine ⟨k, 4, n + 1, rfl, by decide, by decide, s1, by omega, fun b M2 b0 b1' s2 b2 => ?_⟩
    walk_at "zws"
    refine ⟨k, 4, n + 1 + 1, rfl, by decide, by decide, s2, by omega, fun c M3 c0 c1' s3 b3 => ?_⟩
    walk_at "zws"
    refine ⟨k, 2, n + 1 + 1 + 1, rfl, by decide, by decide, s3, by omega, fun r M4 r0 r1 s4 b4 => ?_⟩
    have hr : r = 0 ∨ r = 1 := by omega
    clear r0 r1
    rcases hr with rfl | rfl
    · walk_at "zws"
      refine ⟨k, n + 1 + 1 + 1 + 1, rfl, s4, by omega, fun p M5 p0 p1 s5 b5 => ?_⟩
      walk_at "zws"
      refine ⟨k, 256, n + 1 + 1 + 1 + 1 + 2, rfl, by decide, by decide, s5, by omega, fun s M6 s0 s1' s6 b6 => ?_⟩
      walk_at "zrs2"
      by_cases g0 : 0 ≤ a + 2 + s - 128
      · rw [if_pos (decide_eq_true g0)]
        show (if (!decide (a + 2 + s - 128 < 65536)) = true then _ else _)
        by_cases g1 : a + 2 + s - 128 < 65536
        · rw [if_neg (by simp [g1])]
          walk_at "zwr"
          exact q (.call true (a + 2 + s - 128)) M6 ⟨⟨g0, g1⟩, fun _ => by omega⟩ (s6.le (by omega)) (b1.trans (b2.trans (b3.trans (b4.trans (b5.trans b6)))))
        · rw [if_pos (by simp [g1])]
          walk_at "zwr"
          exact q (.call true a) M6 ⟨ha, fun _ => by omega⟩ (s6.le (by omega)) (b1.trans (b2.trans (b3.trans (b4.trans (b5.trans b6)))))
      · rw [if_neg (fun z => g0 (of_decide_eq_true z))]
        walk_at "zwr"
        exact q (.call true a) M6 ⟨ha, fun _ => by omega⟩ (s6.le (by omega)) (b1.trans (b2.trans (b3.trans (b4.trans (b5.trans b6)))))
    · walk_at "zws"
      refine ⟨k, n + 1 + 1 + 1 + 1, rfl, s4, by omega, fun p M5 p0 p1 s5 b5 => ?_⟩
      walk_at "zwr"
      exact q (.call false p) M5 ⟨⟨p0, p1⟩, fun z => by cases z⟩ (s5.le (by omega)) (b1.trans (b2.trans (b3.trans (b4.trans b5))))
  · walk_at "zws"
    refine ⟨k, 4, n + 1, rfl, by decide, by decide, s1, by omega, fun b M2 b0 b1' s2 b2 => ?_⟩
    walk_at "zws"
    refine ⟨k, 4, n + 1 + 1, rfl, by decide, by decide, s2, by omega, fun c M3 c0 c1' s3 b3 => ?_⟩
    walk_at "zws"
    exact q (.back) M3 True.intro (s3.le (by omega)) (b1.trans (b2.trans b3))
  · walk_at "zws"
    refine ⟨k, 4, n + 1, rfl, by decide, by decide, s1, by omega, fun b M2 b0 b1' s2 b2 => ?_⟩
    walk_at "zws"
    refine ⟨k, 4, n + 1 + 1, rfl, by decide, by decide, s2, by omega, fun c M3 c0 c1' s3 b3 => ?_⟩
    walk_at "zws"
    exact q (.stop) M3 True.intro (s3.le (by omega)) (b1.trans (b2.trans b3))
  · walk_at "zws"
    refine ⟨k, 4, n + 1, rfl, by decide, by decide, s1, by omega, fun b M2 b0 b1' s2 b2 => ?_⟩
    walk_at "zws"
    refine ⟨k, 4, n + 1 + 1, rfl, by decide, by decide, s2, by omega, fun c M3 c0 c1' s3 b3 => ?_⟩
    walk_at "zws"
    refine ⟨k, 2, n + 1 + 1 + 1, rfl, by decide, by decide, s3, by omega, fun r M4 r0 r1 s4 b4 => ?_⟩
    have hr : r = 0 ∨ r = 1 := by omega
    clear r0 r1
    rcases hr with rfl | rfl
    · walk_at "zws"
      refine ⟨k, n + 1 + 1 + 1 + 1, rfl, s4, by omega, fun p M5 p0 p1 s5 b5 => ?_⟩
      walk_at "zws"
      refine ⟨k, 256, n + 1 + 1 + 1 + 1 + 2, rfl, by decide, by decide, s5, by omega, fun s M6 s0 s1' s6 b6 => ?_⟩
      walk_at "zrs2"
      by_cases g0 : 0 ≤ a + 2 + s - 128
      · rw [if_pos (decide_eq_true g0)]
        show (if (!decide (a + 2 + s - 128 < 65536)) = true then _ else _)
        by_cases g1 : a + 2 + s - 128 < 65536
        · rw [if_neg (by simp [g1])]
          walk_at "zwr"
          exact q (.load true b c (a + 2 + s - 128)) M6 ⟨⟨b0, b1'⟩, ⟨c0, c1'⟩, ⟨g0, g1⟩, fun _ => by omega⟩ (s6.le (by omega)) (b1.trans (b2.trans (b3.trans (b4.trans (b5.trans b6)))))
        · rw [if_pos (by simp [g1])]
          walk_at "zwr"
          exact q (.load true b c a) M6 ⟨⟨b0, b1'⟩, ⟨c0, c1'⟩, ha, fun _ => by omega⟩ (s6.le (by omega)) (b1.trans (b2.trans (b3.trans (b4.trans (b5.trans b6)))))
      · rw [if_neg (fun z => g0 (of_decide_eq_true z))]
        walk_at "zwr"
        exact q (.load true b c a) M6 ⟨⟨b0, b1'⟩, ⟨c0, c1'⟩, ha, fun _ => by omega⟩ (s6.le (by omega)) (b1.trans (b2.trans (b3.trans (b4.trans (b5.trans b6)))))
    · walk_at "zws"
      refine ⟨k, n + 1 + 1 + 1 + 1, rfl, s4, by omega, fun p M5 p0 p1 s5 b5 => ?_⟩
      walk_at "zwr"
      exact q (.load false b c p) M5 ⟨⟨b0, b1'⟩, ⟨c0, c1'⟩, ⟨p0, p1⟩, fun z => by cases z⟩ (s5.le (by omega)) (b1.trans (b2.trans (b3.trans (b4.trans b5))))
  · walk_at "zws"
    refine ⟨k, 4, n + 1, rfl, by decide, by decide, s1, by omega, fun b M2 b0 b1' s2 b2 => ?_⟩
    walk_at "zws"
    refine ⟨k, 4, n + 1 + 1, rfl, by decide, by decide, s2, by omega, fun c M3 c0 c1' s3 b3 => ?_⟩
    walk_at "zws"
    refine ⟨k, 2, n + 1 + 1 + 1, rfl, by decide, by decide, s3, by omega, fun r M4 r0 r1 s4 b4 => ?_⟩
    have hr : r = 0 ∨ r = 1 := by omega
    clear r0 r1
    rcases hr with rfl | rfl
    · walk_at "zws"
      refine ⟨k, n + 1 + 1 + 1 + 1, rfl, s4, by omega, fun p M5 p0 p1 s5 b5 => ?_⟩
      walk_at "zws"
      refine ⟨k, 256, n + 1 + 1 + 1 + 1 + 2, rfl, by decide, by decide, s5, by omega, fun s M6 s0 s1' s6 b6 => ?_⟩
      walk_at "zrs2"
      by_cases g0 : 0 ≤ a + 2 + s - 128
      · rw [if_pos (decide_eq_true g0)]
        show (if (!decide (a + 2 + s - 128 < 65536)) = true then _ else _)
        by_cases g1 : a + 2 + s - 128 < 65536
        · rw [if_neg (by simp [g1])]
          walk_at "zwr"
          exact q (.jumpby true b (a + 2 + s - 128)) M6 ⟨⟨b0, b1'⟩, ⟨g0, g1⟩, fun _ => by omega⟩ (s6.le (by omega)) (b1.trans (b2.trans (b3.trans (b4.trans (b5.trans b6)))))
        · rw [if_pos (by simp [g1])]
          walk_at "zwr"
          exact q (.jumpby true b a) M6 ⟨⟨b0, b1'⟩, ha, fun _ => by omega⟩ (s6.le (by omega)) (b1.trans (b2.trans (b3.trans (b4.trans (b5.trans b6)))))
      · rw [if_neg (fun z => g0 (of_decide_eq_true z))]
        walk_at "zwr"
        exact q (.jumpby true b a) M6 ⟨⟨b0, b1'⟩, ha, fun _ => by omega⟩ (s6.le (by omega)) (b1.trans (b2.trans (b3.trans (b4.trans (b5.trans b6)))))
    · walk_at "zws"
      refine ⟨k, n + 1 + 1 + 1 + 1, rfl, s4, by omega, fun p M5 p0 p1 s5 b5 => ?_⟩
      walk_at "zwr"
      exact q (.jumpby false b p) M5 ⟨⟨b0, b1'⟩, ⟨p0, p1⟩, fun z => by cases z⟩ (s5.le (by omega)) (b1.trans (b2.trans (b3.trans (b4.trans b5))))
  · walk_at "zws"
    refine ⟨k, 4, n + 1, rfl, by decide, by decide, s1, by omega, fun b M2 b0 b1' s2 b2 => ?_⟩
    walk_at "zws"
    refine ⟨k, 4, n + 1 + 1, rfl, by decide, by decide, s2, by omega, fun c M3 c0 c1' s3 b3 => ?_⟩
    walk_at "zws"
    refine ⟨k, n + 1 + 1 + 1, rfl, s3, by omega, fun p M4 p0 p1 s4 b4 => ?_⟩
    walk_at "zws"
    refine ⟨k, n + 1 + 1 + 1 + 2, rfl, s4, by omega, fun p' M5 p0' p1' s5 b5 => ?_⟩
    walk_at "zws"
    exact q (.alike b p p') M5 ⟨⟨b0, b1'⟩, ⟨p0, p1⟩, p0', p1'⟩ (s5.le (by omega)) (b1.trans (b2.trans (b3.trans (b4.trans b5))))
end K22
set_option Elab.async false
set_option linter.all false
set_option maxRecDepth 100000
set_option maxHeartbeats 4000000
namespace K22
open PySem PySem.Spec L2 L3
local macro_rules | `(tactic| walk_at "zws1") => `(tactic| ((conv => whnf); first
  | refine ⟨_, rfl, ?_⟩ | refine ⟨rfl, ?_⟩ | refine ⟨Nat.le_of_ble_eq_true rfl, ?_⟩ | refine ⟨show (0 : Int) < _ by decide, ?_⟩ | refine ⟨show CDivL _ _ from ⟨by decide, by decide⟩, ?_⟩ | refine ⟨show CDiv _ _ from ⟨by decide, by decide⟩, ?_⟩
  | refine ⟨show CPow _ _ from ⟨by decide, by decide, by decide⟩, ?_⟩ | refine ⟨show CMul _ _ from .inl ⟨by decide, by decide⟩, ?_⟩ | refine ⟨show CMul _ _ from .inr ⟨by decide, by decide⟩, ?_⟩
  | refine ⟨fun h => absurd (show (1 : Nat) = 0 from h.1) (by decide), ?_⟩ | refine ⟨fun h => absurd (show (2 : Nat) = 0 from h.1) (by decide), ?_⟩ | refine ⟨fun h => absurd (show (3 : Nat) = 0 from h.1) (by decide), ?_⟩))
local macro_rules | `(tactic| walk_at "zws") => `(tactic| ((repeat walk_at "zws1"); try (conv => whnf)))
def P_cells : GP := fun ds Q => ∃ (r : Rw) (a : Int), ds = [r.d, .int a, r.near] ∧ Q (.lst (iD (r.cells a)))
theorem P_cells_mono : monoP P_cells := fun ds P Q w ⟨r, a, h, q⟩ => ⟨r, a, h, w _ q⟩
local macro_rules | `(tactic| walk_at "zwk1c") => `(tactic| first | walk_at "zws1" | refine ⟨_, _, rfl, rfl, ?_⟩ | refine ⟨List.cons_ne_nil _ _, ?_⟩)
local macro_rules | `(tactic| walk_at "zwkc") => `(tactic| ((repeat walk_at "zwk1c"); try (conv => whnf)))
theorem sp_cells : ∀ ds Q, P_cells ds Q → fnC 6 3 (t_law_cells (cl P_four) (cl P_two)) ds Q := fun ds Q ⟨r, a, h, q⟩ => by
  subst h
  refine ⟨rfl, ?_⟩
  have e : ∀ p : Int, p - (a + 2) = p - a - 2 := fun p => by omega
  cases r with
  | set b n => walk_at "zwkc"; exact q
  | add b c =>
    walk_at "zwkc"
    have q : Q (.lst [.int (32 + (4 * b + c))]) := q
    rw [show (32 + (4 * b + c) : Int) = 32 + 4 * b + c by omega] at q
    exact q
  | take b c =>
    walk_at "zwkc"
    have q : Q (.lst [.int (48 + (4 * b + c))]) := q
    rw [show (48 + (4 * b + c) : Int) = 48 + 4 * b + c by omega] at q
    exact q
  | say b => walk_at "zwkc"; exact q
  | ask b => walk_at "zwkc"; exact q
  | jump s p =>
    cases s
    · walk_at "zwkc"; exact q
    · walk_at "zwkc"
      have q : Q (.lst [.int (80 + 0), .int ((p - (a + 2)) % 256)]) := q
      rw [e p] at q
      exact q
  | jumpif s b p =>
    cases s
    · walk_at "zwkc"; exact q
    · walk_at "zwkc"
      have q : Q (.lst [.int (84 + b), .int ((p - (a + 2)) % 256)]) := q
      rw [e p] at q
      exact q
  | call s p =>
    cases s
    · walk_at "zwkc"; exact q
    · walk_at "zwkc"
      have q : Q (.lst [.int (82 + 0), .int ((p - (a + 2)) % 256)]) := q
      rw [e p] at q
      exact q
  | back  => walk_at "zwkc"; exact q
  | stop  => walk_at "zwkc"; exact q
  | load s b c p =>
    cases s
    · walk_at "zwkc"; exact q
    · walk_at "zwkc"
      have q : Q (.lst [.int (112 + (4 * b + c)), .int ((p - (a + 2)) % 256)]) := q
      rw [e p] at q
      exact q
  | jumpby s b p =>
    cases s
    · walk_at "zwkc"; exact q
    · walk_at "zwkc"
      have q : Q (.lst [.int (100 + b), .int ((p - (a + 2)) % 256)]) := q
      rw [e p] at q
      exact q
  | alike b p p' => walk_at "zwkc"; exact q
def P_cells_of : GN := fun ds M Q => (∃ (r : Rw) (a : Int), ds = [r.d, .int a, r.near] ∧ Q (.loc M.length) (M ++ [some (.lst (iD (r.cells a)))])) ∨
  (∃ (ns : List Int) (x : D) (a : Int), ns.length ≤ 100 ∧ ds = [.tup [.str "numbers", x], .int a, .non] ∧ vw M x = .lst (iD ns) ∧ Q (.loc M.length) (M ++ [some (.lst (iD (two ns.length ++ ns.flatMap four)))])) ∨
  ∃ (ns : List Int) (x : D) (a : Int), ns.length ≤ 100 ∧ ds = [.tup [.str "table", x], .int a, .non] ∧ vw M x = .lst (iD ns) ∧ Q (.loc M.length) (M ++ [some (.lst (iD (two ns.length ++ ns.flatMap two)))])
theorem P_cells_of_mono : monoN P_cells_of := fun ds M P Q w q => by
  rcases q with ⟨r, a, h, q⟩ | ⟨ns, x, a, h, h', h'', q⟩ | ⟨ns, x, a, h, h', h'', q⟩
  · exact .inl ⟨r, a, h, w _ _ q⟩
  · exact .inr (.inl ⟨ns, x, a, h, h', h'', w _ _ q⟩)
  · exact .inr (.inr ⟨ns, x, a, h, h', h'', w _ _ q⟩)
theorem flat_map {f : Int → List Int} : ∀ ns : List Int, flat (ns.map fun n => .lst (iD (f n))) = some (iD (ns.flatMap f))
  | [] => rfl
  | n :: ns => by
    rw [List.map_cons]
    unfold flat
    rw [flat_map ns, List.flatMap_cons]
    simp
theorem len_four (n : Int) : (four n).length = 4 := rfl
theorem len_two (n : Int) : (two n).length = 2 := rfl
theorem len_flat {f : Int → List Int} {j : Nat} (h : ∀ n, (f n).length = j) : ∀ ns : List Int, (ns.flatMap f).length = j * ns.length
  | [] => by simp
  | n :: ns => by rw [List.flatMap_cons, List.length_append, len_flat h ns, h, List.length_cons, Nat.mul_add]; omega
theorem comp_lists {f : Int → List Int} {P : GP} {st : Ms → Prop} {Q : List D → Ms → Prop} {M : Ms} (hst : st M) (hP : ∀ (n : Int) (R : D → Prop), R (.lst (iD (f n))) → P [.int n] R) (ns : List Int) (hl : ns.length ≤ 100) (q : Q (ns.map fun n => .lst (iD (f n))) M) :
    compD [none] (dgName 0) dYes (dCB (cl P) (dCons (dVar 0) dNil)) st Q (iD ns) [] [none] M := by
  refine compD_map (fun d => match d with | .int n => .lst (iD (f n)) | _ => .non) hst (iD ns) [] (by simp; exact Nat.le_trans hl (by decide)) (fun x hx Kk hk => ?_) ?_
  · obtain ⟨n, hn, rfl⟩ := List.mem_map.mp hx
    exact ⟨rfl, hP n _ (hk _ rfl)⟩
  · rw [List.nil_append, List.map_map]
    exact q
theorem numbers_way {M : Ms} {Q : DK} {ns : List Int} {f : Int → List Int} {P : GP} {j : Nat} (hj : ∀ n, (f n).length = j) (h9 : j ≤ 4) (hP : ∀ (n : Int) (R : D → Prop), R (.lst (iD (f n))) → P [.int n] R) (hl : ns.length ≤ 100) {k : Str} {x : D} {δ : DSt} {a b : Option D} (hδ : δ = [some (.tup [.str k, x]), a, b]) (hx : vw M x = .lst (iD ns)) (q : Q (.loc M.length) (M ++ [some (.lst (iD (two ns.length ++ ns.flatMap f)))])) :
    dOwn (fPlus (dCB (cl P_two) (dCons (dCB gLen (dCons (dOp gIx (dVar 0) (dC (.int 1))) dNil)) dNil)) (dCB (cl P_joined) (dCons (dNew (fComp [none] (iAnyD (dOp gIx (dVar 0) (dC (.int 1)))) (dgName 0) dYes (dCB (cl P) (dCons (dVar 0) dNil)))) dNil))) δ M Q := by
  subst hδ
  refine ⟨x, rfl, (iD ns).length, by rw [hx]; rfl, rfl, x, rfl, iD ns, by rw [hx]; rfl, rfl, ?_⟩
  refine comp_lists ?hst hP ns hl ?_
  case hst => exact rfl
  have hf := len_flat hj ns
  have hm : j * ns.length ≤ 400 := Nat.le_trans (Nat.mul_le_mul h9 hl) (by decide)
  refine ⟨?_, _, flat_map ns, ?_, nls_iD _, ?_, ?_⟩
  · show (nls (ns.map fun n => D.lst (iD (f n))) && true) = true
    rw [Bool.and_true]
    exact nls_map (f := fun n => D.lst (iD (f n))) (fun n => nls_iD (f n)) ns
  · rw [List.length_map, hf]; exact Nat.le_trans hm (by decide)
  · simp only [List.length_map, hf, len_two]; exact Nat.le_trans (Nat.add_le_add_left hm 2) (by decide)
  · have q := q
    rw [show iD (two ns.length ++ ns.flatMap f) = iD (two ((iD ns).length : Int)) ++ iD (ns.flatMap f) by simp] at q
    exact q
theorem sp_cells_of : ∀ ds M Q, P_cells_of ds M Q → fnG 3 3 (t_cells_of (cl P_two) (cl P_joined) (cl P_four) P_code_cells) ds M Q := fun ds M Q q => by
  rcases q with ⟨r, a, h, q⟩ | ⟨ns, x, a, h, h', hx, q⟩ | ⟨ns, x, a, h, h', hx, q⟩
  · subst h
    refine ⟨rfl, ?_⟩
    cases r <;> (walk_at "zws"; exact ⟨_, a, rfl, q⟩)
  · subst h'
    refine ⟨rfl, _, rfl, ?_⟩
    exact numbers_way (ns := ns) (k := "numbers") len_four (by decide) (fun n R r => r) h rfl hx q
  · subst h'
    refine ⟨rfl, _, rfl, ?_⟩
    refine ⟨_, rfl, ?_⟩
    exact numbers_way (ns := ns) (k := "table") len_two (by decide) (fun n R r => r) h rfl hx q
end K22
set_option Elab.async false
set_option linter.all false
set_option maxRecDepth 100000
set_option maxHeartbeats 4000000
namespace K22
open PySem PySem.Spec L2 L3
local macro_rules | `(tactic| walk_at "zws1") => `(tactic| ((conv => whnf); first
  | refine ⟨_, rfl, ?_⟩ | refine ⟨rfl, ?_⟩ | refine ⟨Nat.le_of_ble_eq_true rfl, ?_⟩ | refine ⟨show (0 : Int) < _ by decide, ?_⟩ | refine ⟨show CDivL _ _ from ⟨by decide, by decide⟩, ?_⟩ | refine ⟨show CDiv _ _ from ⟨by decide, by decide⟩, ?_⟩
  | refine ⟨show CPow _ _ from ⟨by decide, by decide, by decide⟩, ?_⟩ | refine ⟨show CMul _ _ from .inl ⟨by decide, by decide⟩, ?_⟩ | refine ⟨show CMul _ _ from .inr ⟨by decide, by decide⟩, ?_⟩
  | refine ⟨fun h => absurd (show (1 : Nat) = 0 from h.1) (by decide), ?_⟩ | refine ⟨fun h => absurd (show (2 : Nat) = 0 from h.1) (by decide), ?_⟩ | refine ⟨fun h => absurd (show (3 : Nat) = 0 from h.1) (by decide), ?_⟩))
local macro_rules | `(tactic| walk_at "zws") => `(tactic| ((repeat walk_at "zws1"); try (conv => whnf)))
def At (cs : List Int) (a : Int) (xs : List Int) : Prop := ∃ pre post, cs = pre ++ (xs ++ post) ∧ (pre.length : Int) = a
theorem At.nn {cs : List Int} {a : Int} {xs : List Int} (h : At cs a xs) : 0 ≤ a := by obtain ⟨_, _, _, rfl⟩ := h; omega
theorem At.le {cs : List Int} {a : Int} {xs : List Int} (h : At cs a xs) : a + xs.length ≤ cs.length := by
  obtain ⟨pre, post, rfl, rfl⟩ := h
  simp only [List.length_append]
  omega
theorem At.hd {cs : List Int} {a x : Int} {xs : List Int} (h : At cs a (x :: xs)) : atI (iD cs) a = some (.int x) := by
  obtain ⟨pre, post, rfl, rfl⟩ := h
  refine at_n ?_
  simp
theorem At.tl {cs : List Int} {a x : Int} {xs : List Int} (h : At cs a (x :: xs)) : At cs (a + 1) xs := by
  obtain ⟨pre, post, rfl, rfl⟩ := h
  exact ⟨pre ++ [x], post, by simp, by simp⟩
theorem At.drop {cs : List Int} {xs : List Int} : ∀ {ys : List Int} {a : Int}, At cs a (ys ++ xs) → At cs (a + ys.length) xs
  | [], a, h => by simpa using h
  | y :: ys, a, h => by
    have := At.drop (ys := ys) h.tl
    rw [List.length_cons]
    have e : a + 1 + (ys.length : Int) = a + ((ys.length + 1 : Nat) : Int) := by push_cast; omega
    rw [← e]
    exact this
theorem At.take {cs : List Int} {xs ys : List Int} {a : Int} (h : At cs a (ys ++ xs)) : At cs a ys := by
  obtain ⟨pre, post, e, l⟩ := h
  exact ⟨pre, xs ++ post, by rw [e]; simp, l⟩
def P_place_at : GP := fun ds Q => ∃ (cs : List Int) (a x y : Int) (r : List Int), ds = [.lst (iD cs), .int a] ∧ At cs a (x :: y :: r) ∧ Q (.int (256 * x + y))
theorem P_place_at_mono : monoP P_place_at := fun ds P Q w ⟨cs, a, x, y, r, h1, h2, q⟩ => ⟨cs, a, x, y, r, h1, h2, w _ q⟩
theorem sp_place_at : ∀ ds Q, P_place_at ds Q → fnC 2 2 t_place_at ds Q := fun ds Q ⟨cs, a, x, y, r, h1, h2, q⟩ => by
  subst h1
  refine ⟨rfl, ?_⟩
  refine ⟨_, h2.hd, .inl ⟨by decide, by decide⟩, _, h2.tl.hd, ?_⟩
  exact ⟨rfl, q⟩
def sgn (v : Int) : Int := if v ≤ 2147483647 then v else v - 4294967296
def P_number_at : GP := fun ds Q => ∃ (cs : List Int) (a x y z u : Int) (r : List Int), ds = [.lst (iD cs), .int a] ∧ At cs a (x :: y :: z :: u :: r) ∧ Q (.int (sgn (65536 * (256 * x + y) + (256 * z + u))))
theorem P_number_at_mono : monoP P_number_at := fun ds P Q w ⟨cs, a, x, y, z, u, r, h1, h2, q⟩ => ⟨cs, a, x, y, z, u, r, h1, h2, w _ q⟩
theorem nls_cs (cs : List Int) (a : Int) : nls [.lst (iD cs), .int a] = true := by
  show (nls (iD cs) && (true && true)) = true
  rw [nls_iD]; rfl
theorem sp_number_at : ∀ ds Q, P_number_at ds Q → fnC 3 2 (t_number_at (cl P_place_at)) ds Q := fun ds Q ⟨cs, a, x, y, z, u, r, h1, h2, q⟩ => by
  subst h1
  refine ⟨rfl, ?_⟩
  refine ⟨⟨by decide, by decide, by decide⟩, nls_cs cs a, cs, a, x, y, z :: u :: r, rfl, h2, .inl ⟨by decide, by decide⟩, ?_⟩
  refine ⟨nls_cs cs _, cs, a + 2, z, u, r, rfl, ?_, ?_⟩
  · have := h2.tl.tl
    rw [show a + 1 + 1 = a + 2 by omega] at this
    exact this
  show (if decide (65536 * (256 * x + y) + (256 * z + u) ≤ 2147483647) = true then _ else _)
  unfold sgn at q
  by_cases h : 65536 * (256 * x + y) + (256 * z + u) ≤ 2147483647
  · rw [if_pos (decide_eq_true h)]
    rw [if_pos h] at q
    exact ⟨rfl, q⟩
  · rw [if_neg (fun e => h (of_decide_eq_true e))]
    rw [if_neg h] at q
    exact ⟨⟨by decide, by decide, by decide⟩, rfl, q⟩
def stp (v : Int) : Int := if v ≤ 127 then v else v - 256
def P_step_at : GP := fun ds Q => ∃ (cs : List Int) (a x : Int) (r : List Int), ds = [.lst (iD cs), .int a] ∧ At cs a (x :: r) ∧ Q (.int (stp x))
theorem P_step_at_mono : monoP P_step_at := fun ds P Q w ⟨cs, a, x, r, h1, h2, q⟩ => ⟨cs, a, x, r, h1, h2, w _ q⟩
theorem sp_step_at : ∀ ds Q, P_step_at ds Q → fnC 2 2 t_step_at ds Q := fun ds Q ⟨cs, a, x, r, h1, h2, q⟩ => by
  subst h1
  refine ⟨rfl, ?_⟩
  refine ⟨_, h2.hd, ?_⟩
  show (if decide (x ≤ 127) = true then _ else _)
  unfold stp at q
  by_cases h : x ≤ 127
  · rw [if_pos (decide_eq_true h)]
    rw [if_pos h] at q
    exact ⟨_, h2.hd, rfl, q⟩
  · rw [if_neg (fun e => h (of_decide_eq_true e))]
    rw [if_neg h] at q
    exact ⟨_, h2.hd, rfl, q⟩
def P_boxes_in : GP := fun ds Q => match ds with
  | [.int n, .int c] => (c = 0 ∧ Q (.tup [])) ∨ (c = 1 ∧ Q (.tup [.int n])) ∨ (c = 2 ∧ Q (.tup [.int (n / 4), .int (n % 4)]))
  | _ => False
theorem P_boxes_in_mono : monoP P_boxes_in := fun ds P Q w q => by
  match ds, q with
  | [.int n, .int c], q =>
    rcases q with ⟨h, q⟩ | ⟨h, q⟩ | ⟨h, q⟩
    · exact .inl ⟨h, w _ q⟩
    · exact .inr (.inl ⟨h, w _ q⟩)
    · exact .inr (.inr ⟨h, w _ q⟩)
theorem sp_boxes_in : ∀ ds Q, P_boxes_in ds Q → fnC 2 2 t_boxes_in ds Q := fun ds Q q => by
  match ds, q with
  | [.int n, .int c], q =>
    refine ⟨rfl, ?_⟩
    rcases q with ⟨rfl, q⟩ | ⟨rfl, q⟩ | ⟨rfl, q⟩
    · walk_at "zws"; exact q
    · walk_at "zws"; exact q
    · walk_at "zws"; exact q
theorem cnt_two {s : Int} {n : Nat} : cnt s (s + 2 * (n : Int)) 2 = n := by
  unfold cnt Builtin.Range.rangeSize
  simp only [show (2 : Int) > 0 by decide, if_true]
  split <;> omega
theorem cnt_four {s : Int} {n : Nat} : cnt s (s + 4 * (n : Int)) 4 = n := by
  unfold cnt Builtin.Range.rangeSize
  simp only [show (4 : Int) > 0 by decide, if_true]
  split <;> omega
theorem rngS_succ {s c : Int} {n : Nat} : rngS s c (n + 1) = .int s :: rngS (s + c) c n := by
  unfold rngS
  rw [List.range_succ_eq_map]
  simp only [List.map_cons, List.map_map]
  congr 1
  · simp
  · refine List.map_congr_left fun i _ => ?_
    show D.int _ = D.int _
    congr 1
    show s + ((i + 1 : Nat) : Int) * c = s + c + (i : Int) * c
    push_cast
    rw [Int.add_mul]
    omega
def pairs : List Int → List Int
  | x :: y :: r => (256 * x + y) :: pairs r
  | _ => []
def quads : List Int → List Int
  | x :: y :: z :: u :: r => sgn (65536 * (256 * x + y) + (256 * z + u)) :: quads r
  | _ => []
theorem comp_pairs {j : Nat} {cs : List Int} {Q : List D → Ms → Prop} {M : Ms} : ∀ (n : Nat) (s : Int) (body acc : List Int), At cs s body → body.length = 2 * n → acc.length + n ≤ 100 → Q (iD (acc ++ pairs body)) M →
    compD [none, some j] (dgName 0) dYes (dCB (cl P_place_at) (dCons (dVar 1) (dCons (dVar 0) dNil))) (fun _ => True) Q (rngS s 2 n) (iD acc) [none, some (.lst (iD cs))] M
  | 0, s, body, acc, h, hl, ha, q => by
    have : body = [] := List.length_eq_zero_iff.mp hl
    subst this
    rw [show acc ++ pairs [] = acc by simp [pairs]] at q
    exact q
  | n + 1, s, body, acc, h, hl, ha, q => by
    match body, hl with
    | x :: y :: r, hl =>
      rw [rngS_succ]
      refine ⟨nls_cs cs s, cs, s, x, y, r, rfl, h, True.intro, ?_, ?_⟩
      · rw [List.length_map]; exact Nat.lt_of_lt_of_le (show acc.length < 101 by omega) (by decide)
      · have h2 := h.tl.tl
        rw [show s + 1 + 1 = s + 2 by omega] at h2
        have := comp_pairs (j := j) n (s + 2) r (acc ++ [256 * x + y]) h2 (by simp at hl; omega) (by simp; omega) (by rw [List.append_assoc]; exact q)
        rw [show iD (acc ++ [256 * x + y]) = iD acc ++ [.int (256 * x + y)] by simp] at this
        exact this
theorem comp_quads {j : Nat} {cs : List Int} {Q : List D → Ms → Prop} {M : Ms} : ∀ (n : Nat) (s : Int) (body acc : List Int), At cs s body → body.length = 4 * n → acc.length + n ≤ 100 → Q (iD (acc ++ quads body)) M →
    compD [none, some j] (dgName 0) dYes (dCB (cl P_number_at) (dCons (dVar 1) (dCons (dVar 0) dNil))) (fun _ => True) Q (rngS s 4 n) (iD acc) [none, some (.lst (iD cs))] M
  | 0, s, body, acc, h, hl, ha, q => by
    have : body = [] := List.length_eq_zero_iff.mp hl
    subst this
    rw [show acc ++ quads [] = acc by simp [quads]] at q
    exact q
  | n + 1, s, body, acc, h, hl, ha, q => by
    match body, hl with
    | x :: y :: z :: u :: r, hl =>
      rw [rngS_succ]
      refine ⟨nls_cs cs s, cs, s, x, y, z, u, r, rfl, h, True.intro, ?_, ?_⟩
      · rw [List.length_map]; exact Nat.lt_of_lt_of_le (show acc.length < 101 by omega) (by decide)
      · have h2 := h.tl.tl.tl.tl
        rw [show s + 1 + 1 + 1 + 1 = s + 4 by omega] at h2
        have := comp_quads (j := j) n (s + 4) r (acc ++ [sgn (65536 * (256 * x + y) + (256 * z + u))]) h2 (by simp at hl; omega) (by simp; omega) (by rw [List.append_assoc]; exact q)
        rw [show iD (acc ++ [sgn (65536 * (256 * x + y) + (256 * z + u))]) = iD acc ++ [.int (sgn (65536 * (256 * x + y) + (256 * z + u)))] by simp] at this
        exact this
end K22
set_option Elab.async false
set_option linter.all false
set_option maxRecDepth 100000
set_option maxHeartbeats 4000000
namespace K22
open PySem PySem.Spec L2 L3
theorem two_val {n : Int} : 256 * (n / 256) + n % 256 = n := by omega
def P_behind : GP := fun ds Q => ∃ (cs : List Int) (a j : Int) (n : Nat) (body : List Int), ds = [.lst (iD cs), .int a, .int j] ∧ At cs a (two n ++ body) ∧ j * n ≤ body.length ∧ (j = 2 ∨ j = 4) ∧ Q (.int (a + 2 + j * n))
theorem P_behind_mono : monoP P_behind := fun ds P Q w ⟨cs, a, j, n, body, h1, h2, h3, h4, q⟩ => ⟨cs, a, j, n, body, h1, h2, h3, h4, w _ q⟩
theorem sp_behind : ∀ ds Q, P_behind ds Q → fnC 4 3 (t_behind_list (cl P_place_at)) ds Q := fun ds Q ⟨cs, a, j, n, body, h1, h2, h3, h4, q⟩ => by
  subst h1
  have h0 := h2.nn
  have hle := h2.le
  rw [List.length_append] at hle
  have hl2 : (two (n : Int)).length = 2 := rfl
  have hlen : ((iD cs).length : Int) = cs.length := by rw [List.length_map]
  rw [hl2] at hle
  push_cast at hle
  refine ⟨rfl, ?_⟩
  show (if decide (a < 0) = true then _ else _)
  rw [if_neg (fun e => absurd (of_decide_eq_true e) (by omega))]
  refine ⟨(iD cs).length, rfl, ?_⟩
  show (if decide (((iD cs).length : Int) < a + 2) = true then _ else _)
  rw [if_neg (fun e => absurd (of_decide_eq_true e) (by rw [hlen]; omega))]
  refine ⟨nls_cs cs a, cs, a, (n : Int) / 256, (n : Int) % 256, body, rfl, h2, ?_, ?_⟩
  · rcases h4 with rfl | rfl
    · exact .inl ⟨by decide, by decide⟩
    · exact .inl ⟨by decide, by decide⟩
  refine ⟨(iD cs).length, rfl, ?_⟩
  show (if decide (((iD cs).length : Int) < a + 2 + j * (256 * ((n : Int) / 256) + (n : Int) % 256)) = true then _ else _)
  rw [two_val]
  rw [if_neg (fun e => absurd (of_decide_eq_true e) (by rw [hlen]; omega))]
  exact ⟨rfl, q⟩
theorem nls_cs3 (cs : List Int) (a j : Int) : nls [.lst (iD cs), .int a, .int j] = true := by
  show (nls (iD cs) && (true && (true && true))) = true
  rw [nls_iD]; rfl
def P_read_numbers : GN := fun ds M Q => ∃ (cs : List Int) (a : Int) (n : Nat) (body : List Int), ds = [.lst (iD cs), .int a] ∧ At cs a (two n ++ body) ∧ body.length = 4 * n ∧ n ≤ 100 ∧ a < 65536 ∧ Q (.tup [.loc M.length, .int (a + 2 + 4 * n)]) (M ++ [some (.lst (iD (quads body)))])
theorem P_read_numbers_mono : monoN P_read_numbers := fun ds M P Q w ⟨cs, a, n, body, h1, h2, h3, h4, h5, q⟩ => ⟨cs, a, n, body, h1, h2, h3, h4, h5, w _ _ q⟩
theorem sp_read_numbers : ∀ ds M Q, P_read_numbers ds M Q → fnG 3 2 (t_read_numbers (cl P_behind) (cl P_number_at)) ds M Q := fun ds M Q ⟨cs, a, n, body, h1, h2, h3, h4, h5, q⟩ => by
  subst h1
  have h0 := h2.nn
  refine ⟨rfl, ?_⟩
  refine ⟨nls_cs3 cs a 4, cs, a, 4, n, body, rfl, h2, by omega, .inr rfl, ?_⟩
  refine ⟨⟨⟨by omega, by omega, by omega, by omega⟩, .inr rfl⟩, True.intro, ?_⟩
  rw [cnt_four]
  refine comp_quads (acc := []) n (a + 2) body ?_ h3 (by simp; omega) ?_
  · have := h2.drop
    exact this
  · exact ⟨Nat.le_of_ble_eq_true rfl, q⟩
def P_read_table : GN := fun ds M Q => ∃ (cs : List Int) (a : Int) (n : Nat) (body more : List Int), ds = [.lst (iD cs), .int a] ∧ At cs a (two n ++ (body ++ more)) ∧ body.length = 2 * n ∧ n ≤ 100 ∧ a < 65536 ∧ Q (.tup [.loc M.length, .int (a + 2 + 2 * n)]) (M ++ [some (.lst (iD (pairs body)))])
theorem P_read_table_mono : monoN P_read_table := fun ds M P Q w ⟨cs, a, n, body, more, h1, h2, h3, h4, h5, q⟩ => ⟨cs, a, n, body, more, h1, h2, h3, h4, h5, w _ _ q⟩
theorem sp_read_table : ∀ ds M Q, P_read_table ds M Q → fnG 3 2 (t_read_table (cl P_behind) (cl P_place_at)) ds M Q := fun ds M Q ⟨cs, a, n, body, more, h1, h2, h3, h4, h5, q⟩ => by
  subst h1
  have h0 := h2.nn
  refine ⟨rfl, ?_⟩
  refine ⟨nls_cs3 cs a 2, cs, a, 2, n, body ++ more, rfl, h2, by rw [List.length_append]; omega, .inl rfl, ?_⟩
  refine ⟨⟨⟨by omega, by omega, by omega, by omega⟩, .inl rfl⟩, True.intro, ?_⟩
  rw [cnt_two]
  refine comp_pairs (acc := []) n (a + 2) body ?_ h3 (by simp; omega) ?_
  · have := h2.drop
    exact this.take
  · exact ⟨Nat.le_of_ble_eq_true rfl, q⟩
def many (b : Int) : Int := if b = 0 then 1 else if b = 1 then 4 else 16
def codeFrom (c : Int) : List D → Option D
  | .tup [.str k, n, .int f, .int b, .int m] :: rest => if 0 ≤ c - f ∧ c - f < many b then some (.tup [.str k, n, .int f, .int b, .int m]) else codeFrom c rest
  | _ => none
def okF : List D → Bool
  | .tup [.str _, _, .int _, .int b, .int _] :: rest => (b == 0 || b == 1 || b == 2) && okF rest
  | [] => true
  | _ => false
theorem okF_codes : okF codes = true := by kernel_rfl
theorem firsts {b : Int} (h : (b == 0 || b == 1 || b == 2) = true) {M : Ms} {Q : DK} (q : Q (.int (many b)) M) : gIx d_FIRST_CELLS (.int b) M Q := by
  simp only [Bool.or_eq_true, beq_iff_eq] at h
  rcases h with (rfl | rfl) | rfl
  · exact ⟨_, rfl, q⟩
  · exact ⟨_, rfl, q⟩
  · exact ⟨_, rfl, q⟩
theorem from_loop {c : Int} {st : Ms → Prop} (hst : ∀ M, st M) {E : DEnds} : ∀ (items : List D) (d : D) (z : Option D), okF items = true → codeFrom c items = some d → E.rt d [] →
    forD (dgName 1) (dIfS (dTest (dChain gLe gLt (dC (.int 0)) (dOp (gI0 fun i j => .int (i - j)) (dVar 0) (dOp gIx (dVar 1) (dC (.int 2)))) (dOp gIx (dC d_FIRST_CELLS) (dOp gIx (dVar 1) (dC (.int 3)))))) (dRet (dVar 1)) dNext) st E items [some (.int c), z] [] := by
  intro items
  induction items with
  | nil => intro d z _ h _; cases h
  | cons it rest ih =>
    intro d z ho h q
    unfold okF at ho
    split at ho
    case h_1 x k n f b m rest' e =>
      obtain ⟨rfl, rfl⟩ := List.cons.inj e
      rw [Bool.and_eq_true] at ho
      unfold codeFrom at h
      refine ⟨_, rfl, ?_⟩
      have go : ¬ (0 ≤ c - f ∧ c - f < many b) → forD (dgName 1) (dIfS (dTest (dChain gLe gLt (dC (.int 0)) (dOp (gI0 fun i j => .int (i - j)) (dVar 0) (dOp gIx (dVar 1) (dC (.int 2)))) (dOp gIx (dC d_FIRST_CELLS) (dOp gIx (dVar 1) (dC (.int 3)))))) (dRet (dVar 1)) dNext) st E rest [some (.int c), some (.tup [.str k, n, .int f, .int b, .int m])] [] := fun hn => by
        rw [if_neg hn] at h
        exact ih d _ ho.2 h q
      have gl : ∀ (i j : Int) (M : Ms) (Q : DK), gLt (.int i) (.int j) M Q = Q (.bl (decide (i < j))) M := fun _ _ _ _ => rfl
      have g0 : ∀ (i j : Int) (M : Ms) (Q : DK), gLe (.int i) (.int j) M Q = Q (.bl (decide (i ≤ j))) M := fun _ _ _ _ => rfl
      simp only [gI0_int, g0]
      by_cases h0 : 0 ≤ c - f
      · rw [decide_eq_true h0]
        refine ⟨_, rfl, ?_⟩
        simp only []
        refine firsts ho.1 ?_
        simp only [gl]
        by_cases h1 : c - f < many b
        · rw [decide_eq_true h1]
          rw [if_pos ⟨h0, h1⟩] at h
          cases h
          exact q
        · rw [decide_eq_false h1]
          exact ⟨hst _, go (fun z => h1 z.2)⟩
      · rw [decide_eq_false h0]
        exact ⟨hst _, go (fun z => h0 z.1)⟩
    case h_2 e => cases e
    case h_3 => cases ho
end K22
set_option Elab.async false
set_option linter.all false
set_option maxRecDepth 100000
set_option maxHeartbeats 4000000
namespace K22
open PySem PySem.Spec L2 L3
def P_code_from : GP := fun ds Q => ∃ (c : Int) (d : D), ds = [.int c] ∧ codeFrom c codes = some d ∧ nl (fz [] d) = true ∧ Q (fz [] d)
theorem P_code_from_mono : monoP P_code_from := fun ds P Q w ⟨c, d, h1, h2, h3, q⟩ => ⟨c, d, h1, h2, h3, w _ q⟩
theorem sp_code_from : ∀ ds Q, P_code_from ds Q → fnC 2 1 t_code_from ds Q := fun ds Q ⟨c, d, h1, h2, h3, q⟩ => by
  subst h1
  refine ⟨rfl, codes, rfl, rfl, ?_⟩
  exact from_loop (fun _ => rfl) codes d none okF_codes h2 ⟨h3, q⟩
theorem cf_no {c f b m : Int} {k : Str} {n d : D} {rest : List D} (h : ¬ (0 ≤ c - f ∧ c - f < many b)) (r : codeFrom c rest = some d) : codeFrom c (.tup [.str k, n, .int f, .int b, .int m] :: rest) = some d := by
  unfold codeFrom
  rw [if_neg h]
  exact r
theorem cf_yes {c f b m : Int} {k : Str} {n : D} {rest : List D} (h : 0 ≤ c - f ∧ c - f < many b) : codeFrom c (.tup [.str k, n, .int f, .int b, .int m] :: rest) = some (.tup [.str k, n, .int f, .int b, .int m]) := by
  unfold codeFrom
  rw [if_pos h]
theorem m0 : many 0 = 1 := rfl
theorem m1 : many 1 = 4 := rfl
theorem m2 : many 2 = 16 := rfl
def Rw.first : Rw → Int
  | .set b n => 16 + b
  | .add b c => 32 + (4 * b + c)
  | .take b c => 48 + (4 * b + c)
  | .say b => 64 + b
  | .ask b => 68 + b
  | .jump true p => 80 + 0
  | .jump false p => 81 + 0
  | .call true p => 82 + 0
  | .call false p => 83 + 0
  | .jumpif true b p => 84 + b
  | .jumpif false b p => 88 + b
  | .back => 98 + 0
  | .stop => 99 + 0
  | .jumpby true b p => 100 + b
  | .jumpby false b p => 104 + b
  | .load true b c p => 112 + (4 * b + c)
  | .load false b c p => 128 + (4 * b + c)
  | .alike b p q => 144 + b
local macro_rules | `(tactic| walk_at "zcf") => `(tactic| repeat (first | exact cf_yes (by simp only [m0, m1, m2]; omega) | refine cf_no (by simp only [m0, m1, m2]; omega) ?_))
theorem from_of (a : Int) (r : Rw) (h : r.ok a) : codeFrom r.first codes = some r.code := by
  cases r with
  | set b n => have : Bx b := h.1; show codeFrom (16 + b) codes = _; walk_at "zcf"
  | add b c => have : Bx b ∧ Bx c := h; show codeFrom (32 + (4 * b + c)) codes = _; walk_at "zcf"
  | take b c => have : Bx b ∧ Bx c := h; show codeFrom (48 + (4 * b + c)) codes = _; walk_at "zcf"
  | say b => have : Bx b := h; show codeFrom (64 + b) codes = _; walk_at "zcf"
  | ask b => have : Bx b := h; show codeFrom (68 + b) codes = _; walk_at "zcf"
  | jump s p =>
    cases s
    · show codeFrom (81 + 0) codes = _; walk_at "zcf"
    · show codeFrom (80 + 0) codes = _; walk_at "zcf"
  | jumpif s b p =>
    have : Bx b := h.1
    cases s
    · show codeFrom (88 + b) codes = _; walk_at "zcf"
    · show codeFrom (84 + b) codes = _; walk_at "zcf"
  | call s p =>
    cases s
    · show codeFrom (83 + 0) codes = _; walk_at "zcf"
    · show codeFrom (82 + 0) codes = _; walk_at "zcf"
  | back => show codeFrom (98 + 0) codes = _; walk_at "zcf"
  | stop => show codeFrom (99 + 0) codes = _; walk_at "zcf"
  | load s b c p =>
    have : Bx b := h.1
    have : Bx c := h.2.1
    cases s
    · show codeFrom (128 + (4 * b + c)) codes = _; walk_at "zcf"
    · show codeFrom (112 + (4 * b + c)) codes = _; walk_at "zcf"
  | jumpby s b p =>
    have : Bx b := h.1
    cases s
    · show codeFrom (104 + b) codes = _; walk_at "zcf"
    · show codeFrom (100 + b) codes = _; walk_at "zcf"
  | alike b p p' => have : Bx b := h.1; show codeFrom (144 + b) codes = _; walk_at "zcf"
def P_told_behind : GP := fun ds Q => ∃ (kind : Str) (near : D) (f b m : Int) (cs : List Int) (a : Int) (ts : List Int), ds = [.tup [.str kind, near, .int f, .int b, .int m], .lst (iD cs), .int a] ∧ 0 ≤ a ∧ a < 65536 ∧
  ((kind = "set" ∧ ∃ x y z u r, At cs (a + 1) (x :: y :: z :: u :: r) ∧ ts = [sgn (65536 * (256 * x + y) + (256 * z + u))]) ∨
   ((kind == "set") = false ∧ near = .bl true ∧ ∃ x r, At cs (a + 1) (x :: r) ∧ ts = [a + 2 + stp x]) ∨
   ((kind == "set") = false ∧ (near = .non ∨ near = .bl false) ∧ ∃ (n : Nat) (body : List Int), At cs (a + 1) body ∧ body.length = 2 * n ∧ m = 2 * n ∧ n ≤ 50 ∧ ts = pairs body)) ∧ Q (.tup (iD ts))
theorem P_told_behind_mono : monoP P_told_behind := fun ds P Q w ⟨kind, near, f, b, m, cs, a, ts, h1, h2, h3, h4, q⟩ => ⟨kind, near, f, b, m, cs, a, ts, h1, h2, h3, h4, w _ q⟩
theorem nls_iDs (ts : List Int) : nl (.tup (iD ts)) = true := nls_iD ts
theorem vw_iD (ts : List Int) (M : Ms) : (iD ts).map (vw M) = iD ts := by
  rw [List.map_map]; rfl
theorem rt_ts {Q : D → Prop} {ts : List Int} (q : Q (.tup (iD ts))) : nl (fz [] (.tup (iD ts))) = true ∧ Q (fz [] (.tup (iD ts))) := by
  show nl (.tup ((iD ts).map (vw []))) = true ∧ Q (.tup ((iD ts).map (vw [])))
  rw [vw_iD]
  exact ⟨nls_iDs ts, q⟩
theorem sp_told_behind : ∀ ds Q, P_told_behind ds Q → fnC 8 3 (t_told_behind (cl P_number_at) (cl P_step_at) (cl P_place_at)) ds Q := fun ds Q ⟨kind, near, f, b, m, cs, a, ts, h1, a0, a1, h2, q⟩ => by
  subst h1
  refine ⟨rfl, rfl, rfl, ?_⟩
  show (if (kind == "set") = true then _ else _)
  rcases h2 with ⟨rfl, x, y, z, u, r, h, rfl⟩ | ⟨hk, rfl, x, r, h, rfl⟩ | ⟨hk, hn, n, body, h, hl, hm, hb, rfl⟩
  · rw [if_pos (by simp)]
    exact ⟨nls_cs cs _, cs, a + 1, x, y, z, u, r, rfl, h, Nat.le_of_ble_eq_true rfl, rt_ts q⟩
  · rw [hk, if_neg (by simp)]
    exact ⟨nls_cs cs _, cs, a + 1, x, r, rfl, h, Nat.le_of_ble_eq_true rfl, rt_ts q⟩
  · rw [hk, if_neg (by simp)]
    subst hm
    have c3 : C3 (a + 1) (a + 1 + 2 * (n : Int)) 2 := ⟨⟨by omega, by omega, by omega, by omega⟩, .inl rfl⟩
    rcases hn with rfl | rfl
    · refine ⟨c3, True.intro, ?_⟩
      rw [cnt_two]
      refine comp_pairs (acc := []) n (a + 1) body h hl (by simp; omega) ?_
      exact rt_ts q
    · refine ⟨c3, True.intro, ?_⟩
      rw [cnt_two]
      refine comp_pairs (acc := []) n (a + 1) body h hl (by simp; omega) ?_
      exact rt_ts q
end K22
set_option Elab.async false
set_option linter.all false
set_option maxRecDepth 100000
set_option maxHeartbeats 4000000
namespace K22
open PySem PySem.Spec L2 L3
theorem gLt_ii {i j : Int} {M : Ms} {Q : DK} : gLt (.int i) (.int j) M Q = Q (.bl (decide (i < j))) M := rfl
theorem rc_step1 {cs : List Int} {a : Int} {E : DEnds} {r : DSt} (h0 : 0 ≤ a) (h1 : a < cs.length) (tl : DS) (h : tl E (some (.lst (iD cs)) :: some (.int a) :: r) []) :
    dSeq (dIfS (dNot (dTest (dChain gLe gLt (dC (.int 0)) (dVar 1) (dCB gLen (dCons (dVar 0) dNil))))) dNever dNext) tl E (some (.lst (iD cs)) :: some (.int a) :: r) [] := by
  have e1 : decide (0 ≤ a) = true := decide_eq_true h0
  have e2 : decide (a < ((iD cs).length : Int)) = true := decide_eq_true (by rw [List.length_map]; exact h1)
  simp only [dSeq, dIfS, dNot, rd_test, rd_chain, dC, dVar_succ, dVar_cons0, gLe_int, e1, kChain_bl, if_true, dCB, dCons, dNil, gLen_one, rv_lst, rl_lst, ex_some, gLt_ii, e2, kTest_bl, Bool.not_true, Bool.false_eq_true, if_false, dNext]
  exact h
abbrev T7 : DS := dSeq (dIfS (dAnd (dTest (dOp gIsB (dVar 4) (dC (.bl true)))) (dNot (dTest (dChain gLe gLe (dC (.int 0)) (dOp gIx (dVar 9) (dNeg (dC (.int 1)))) (dC (.int 65535)))))) dNever dNext)
  (dRet (dTup (dCons (dVar 9) (dCons (dVar 4) (dCons (dVar 8) dNil)))))
theorem fz_code {k : Str} {near : D} {f b m : Int} (hn : nb near = true) : fz [] (.tup [.str k, near, .int f, .int b, .int m]) = .tup [.str k, near, .int f, .int b, .int m] := by
  cases near <;> first | (cases hn; done) | rfl
theorem nl_code {k : Str} {near : D} {f b m : Int} (hn : nb near = true) : nl (.tup [.str k, near, .int f, .int b, .int m]) = true := by
  cases near <;> first | (cases hn; done) | rfl
theorem rc_pre {cs : List Int} {a c f b m : Int} {rest ts bs : List Int} {kind : Str} {near : D} {Q : D → Prop} (hA : At cs a (c :: rest)) (ha : a < 65536) (hc : codeFrom c codes = some (.tup [.str kind, near, .int f, .int b, .int m])) (hn : nb near = true) (hm : 0 ≤ m) (hl : a + 1 + m ≤ cs.length)
    (hbl : bs.length ≤ 2) (htl : ts.length ≤ 50) (hb : ∀ R : D → Prop, R (.tup (iD bs)) → P_boxes_in [.int (c - f), .int b] R) (ht : ∀ R : D → Prop, R (.tup (iD ts)) → P_told_behind [.tup [.str kind, near, .int f, .int b, .int m], .lst (iD cs), .int a] R)
    (fin : T7 ⟨fun _ _ => Q .non, fun d M' => nl (fz M' d) = true ∧ Q (fz M' d), fun _ _ => False, fun _ _ => False⟩ [some (.lst (iD cs)), some (.int a), some (.tup [.str kind, near, .int f, .int b, .int m]), some (.str kind), some near, some (.int f), some (.int b), some (.int m), some (.int (a + 1 + m)), some (.tup ([.str kind] ++ iD bs ++ iD ts))] []) :
    fnC 10 2 (t_read_code (cl P_code_from) (cl P_boxes_in) (cl P_told_behind)) [.lst (iD cs), .int a] Q := by
  have hle := hA.le
  rw [List.length_cons] at hle
  push_cast at hle
  refine ⟨rfl, ?_⟩
  refine rc_step1 hA.nn (by omega) _ ?_
  refine ⟨_, hA.hd, rfl, c, _, rfl, hc, by rw [fz_code hn]; exact nl_code hn, ?_⟩
  rw [fz_code hn]
  refine ⟨rfl, rfl, ?_⟩
  refine ⟨(iD cs).length, rfl, ?_⟩
  show (if decide (((iD cs).length : Int) < a + 1 + m) = true then _ else _)
  rw [if_neg (fun e => absurd (of_decide_eq_true e) (by rw [List.length_map]; omega))]
  refine ⟨Nat.le_of_ble_eq_true rfl, _, hA.hd, rfl, hb _ ?_⟩
  refine ⟨List.cons_ne_nil _ _, ?_, ?_⟩
  · rw [List.length_map]; exact Nat.le_trans (show [D.str kind].length + bs.length ≤ 3 by simp; omega) (by decide)
  refine ⟨?_, ht _ ?_⟩
  · show (nl (.tup [.str kind, near, .int f, .int b, .int m]) && (nls (iD cs) && (true && true))) = true
    rw [nl_code hn, nls_iD]; rfl
  refine ⟨List.cons_ne_nil _ _, ?_, fin⟩
  rw [List.length_append, List.length_map, List.length_map]
  exact Nat.le_trans (show [D.str kind].length + bs.length + ts.length ≤ 53 by simp; omega) (by decide)
theorem ret_ok {kind : Str} {bs ts : List Int} {near : D} {i : Int} {Q : D → Prop} (hn : nb near = true) (q : Q (.tup [.tup ([.str kind] ++ iD bs ++ iD ts), near, .int i])) : nl (fz [] (.tup [.tup ([.str kind] ++ iD bs ++ iD ts), near, .int i])) = true ∧ Q (fz [] (.tup [.tup ([.str kind] ++ iD bs ++ iD ts), near, .int i])) := by
  have e : fz [] (.tup [.tup ([.str kind] ++ iD bs ++ iD ts), near, .int i]) = .tup [.tup ([.str kind] ++ iD bs ++ iD ts), near, .int i] := by
    cases near <;> first | (cases hn; done) | rfl
  rw [e]
  refine ⟨?_, q⟩
  show (nls ([.str kind] ++ iD bs ++ iD ts) && (nl near && (true && true))) = true
  rw [nls_append, nls_append, nls_iD, nls_iD]
  cases near <;> first | (cases hn; done) | rfl
theorem at_last {xs : List D} {x : D} : atI (xs ++ [x]) (-1) = some x := by
  unfold atI ixN
  rw [if_neg (by decide), if_pos (by simp; omega)]
  have : ((-1 : Int) + ((xs ++ [x]).length : Nat)).toNat = xs.length := by simp; omega
  simp only [this]
  simp
theorem rc_far {cs : List Int} {a c f b m : Int} {rest ts bs : List Int} {kind : Str} {near : D} {Q : D → Prop} (hA : At cs a (c :: rest)) (ha : a < 65536) (hc : codeFrom c codes = some (.tup [.str kind, near, .int f, .int b, .int m])) (hn : near = .non ∨ near = .bl false) (hm : 0 ≤ m) (hl : a + 1 + m ≤ cs.length)
    (hbl : bs.length ≤ 2) (htl : ts.length ≤ 50) (hb : ∀ R : D → Prop, R (.tup (iD bs)) → P_boxes_in [.int (c - f), .int b] R) (ht : ∀ R : D → Prop, R (.tup (iD ts)) → P_told_behind [.tup [.str kind, near, .int f, .int b, .int m], .lst (iD cs), .int a] R)
    (q : Q (.tup [.tup ([.str kind] ++ iD bs ++ iD ts), near, .int (a + 1 + m)])) : fnC 10 2 (t_read_code (cl P_code_from) (cl P_boxes_in) (cl P_told_behind)) [.lst (iD cs), .int a] Q := by
  rcases hn with rfl | rfl
  · exact rc_pre hA ha hc rfl hm hl hbl htl hb ht ⟨Nat.le_of_ble_eq_true rfl, ret_ok rfl q⟩
  · exact rc_pre hA ha hc rfl hm hl hbl htl hb ht ⟨Nat.le_of_ble_eq_true rfl, ret_ok rfl q⟩
theorem rc_near {cs : List Int} {a c f b m p : Int} {rest bs : List Int} {kind : Str} {Q : D → Prop} (hA : At cs a (c :: rest)) (ha : a < 65536) (hc : codeFrom c codes = some (.tup [.str kind, .bl true, .int f, .int b, .int m])) (hm : 0 ≤ m) (hl : a + 1 + m ≤ cs.length)
    (hbl : bs.length ≤ 2) (hb : ∀ R : D → Prop, R (.tup (iD bs)) → P_boxes_in [.int (c - f), .int b] R) (ht : ∀ R : D → Prop, R (.tup (iD [p])) → P_told_behind [.tup [.str kind, .bl true, .int f, .int b, .int m], .lst (iD cs), .int a] R) (hp : 0 ≤ p ∧ p < 65536)
    (q : Q (.tup [.tup ([.str kind] ++ iD bs ++ iD [p]), .bl true, .int (a + 1 + m)])) : fnC 10 2 (t_read_code (cl P_code_from) (cl P_boxes_in) (cl P_told_behind)) [.lst (iD cs), .int a] Q := by
  refine rc_pre (ts := [p]) hA ha hc rfl hm hl hbl (by simp) hb ht ?_
  have e1 : decide (0 ≤ p) = true := decide_eq_true hp.1
  have e2 : decide (p ≤ 65535) = true := decide_eq_true (by omega)
  refine ⟨_, at_last (xs := [.str kind] ++ iD bs) (x := .int p), ?_⟩
  simp only [gLe_int, e1]
  show (if (!decide (p ≤ 65535)) = true then _ else _)
  rw [if_neg (by rw [e2]; simp)]
  exact ⟨Nat.le_of_ble_eq_true rfl, ret_ok rfl q⟩
end K22
set_option Elab.async false
set_option linter.all false
set_option maxRecDepth 100000
set_option maxHeartbeats 4000000
namespace K22
open PySem PySem.Spec L2 L3
def P_read_code : GP := fun ds Q => ∃ (r : Rw) (cs : List Int) (a : Int), ds = [.lst (iD cs), .int a] ∧ r.ok a ∧ a < 65536 ∧ At cs a (r.cells a) ∧ Q (.tup [r.d, r.near, .int (a + (r.cells a).length)])
theorem P_read_code_mono : monoP P_read_code := fun ds P Q w ⟨r, cs, a, h1, h2, h3, h4, q⟩ => ⟨r, cs, a, h1, h2, h3, h4, w _ q⟩
theorem four_val {n : Int} (h : Nm n) : sgn (65536 * (256 * (n % 4294967296 / 65536 / 256) + n % 4294967296 / 65536 % 256) + (256 * (n % 4294967296 % 65536 / 256) + n % 4294967296 % 65536 % 256)) = n := by
  unfold sgn
  split <;> omega
theorem stp_val {a p : Int} (h : -128 ≤ p - (a + 2) ∧ p - (a + 2) ≤ 127) : a + 2 + stp ((p - (a + 2)) % 256) = p := by
  unfold stp
  split <;> omega
theorem pr_one {p : Int} : pairs (two p) = [p] := by
  show [256 * (p / 256) + p % 256] = [p]
  rw [two_val]
theorem pr_two {p q : Int} : pairs (two p ++ two q) = [p, q] := by
  show [256 * (p / 256) + p % 256, 256 * (q / 256) + q % 256] = [p, q]
  rw [two_val, two_val]
theorem b1_ok {f b : Int} (R : D → Prop) (r : R (.tup (iD [b]))) : P_boxes_in [.int (f + b - f), .int 1] R := .inr (.inl ⟨rfl, by rw [show f + b - f = b by omega]; exact r⟩)
theorem b2_ok {f b c : Int} (hb : Bx b) (hc : Bx c) (R : D → Prop) (r : R (.tup (iD [b, c]))) : P_boxes_in [.int (f + (4 * b + c) - f), .int 2] R := .inr (.inr ⟨rfl, by
  rw [show (f + (4 * b + c) - f) / 4 = b by omega, show (f + (4 * b + c) - f) % 4 = c by omega]; exact r⟩)
theorem b0_ok {f : Int} (R : D → Prop) (r : R (.tup (iD []))) : P_boxes_in [.int (f + 0 - f), .int 0] R := .inl ⟨rfl, r⟩
theorem t0_ok {kind : Str} {f b : Int} {cs : List Int} {a : Int} (h : At cs (a + 1) []) (h0 : 0 ≤ a) (h1 : a < 65536) (hk : (kind == "set") = false) (R : D → Prop) (r : R (.tup (iD []))) : P_told_behind [.tup [.str kind, .non, .int f, .int b, .int 0], .lst (iD cs), .int a] R :=
  ⟨kind, .non, f, b, 0, cs, a, [], rfl, h0, h1, .inr (.inr ⟨hk, .inl rfl, 0, [], h, rfl, rfl, by decide, rfl⟩), r⟩
theorem t1_ok {kind : Str} {f b p : Int} {cs : List Int} {a : Int} (h : At cs (a + 1) (two p)) (h0 : 0 ≤ a) (h1 : a < 65536) (hk : (kind == "set") = false) (R : D → Prop) (r : R (.tup (iD [p]))) : P_told_behind [.tup [.str kind, .bl false, .int f, .int b, .int 2], .lst (iD cs), .int a] R :=
  ⟨kind, .bl false, f, b, 2, cs, a, [p], rfl, h0, h1, .inr (.inr ⟨hk, .inr rfl, 1, two p, h, rfl, rfl, by decide, pr_one.symm⟩), r⟩
theorem ts_ok {kind : Str} {f b p : Int} {cs : List Int} {a : Int} (h : At cs (a + 1) [(p - (a + 2)) % 256]) (h0 : 0 ≤ a) (h1 : a < 65536) (hp : -128 ≤ p - (a + 2) ∧ p - (a + 2) ≤ 127) (hk : (kind == "set") = false) (R : D → Prop) (r : R (.tup (iD [p]))) : P_told_behind [.tup [.str kind, .bl true, .int f, .int b, .int 1], .lst (iD cs), .int a] R :=
  ⟨kind, .bl true, f, b, 1, cs, a, [p], rfl, h0, h1, .inr (.inl ⟨hk, rfl, _, [], h, by rw [stp_val hp]⟩), r⟩
theorem ks_add : (("add" : Str) == "set") = false := by decide +kernel
theorem ks_take : (("take" : Str) == "set") = false := by decide +kernel
theorem ks_say : (("say" : Str) == "set") = false := by decide +kernel
theorem ks_ask : (("ask" : Str) == "set") = false := by decide +kernel
theorem ks_back : (("back" : Str) == "set") = false := by decide +kernel
theorem ks_stop : (("stop" : Str) == "set") = false := by decide +kernel
theorem ks_jump : (("jump" : Str) == "set") = false := by decide +kernel
theorem ks_jumpif : (("jumpif" : Str) == "set") = false := by decide +kernel
theorem ks_call : (("call" : Str) == "set") = false := by decide +kernel
theorem ks_load : (("load" : Str) == "set") = false := by decide +kernel
theorem ks_jumpby : (("jumpby" : Str) == "set") = false := by decide +kernel
theorem ks_alike : (("alike" : Str) == "set") = false := by decide +kernel
theorem sp_read_code : ∀ ds Q, P_read_code ds Q → fnC 10 2 (t_read_code (cl P_code_from) (cl P_boxes_in) (cl P_told_behind)) ds Q := fun ds Q ⟨r, cs, a, h1, ok, a1, hA, q⟩ => by
  subst h1
  have hle := hA.le
  have a0 := hA.nn
  have hf := from_of a r ok
  cases r with
  | set b n =>
    have e : a + ((((Rw.set b n).cells a).length : Nat) : Int) = a + 1 + 4 := by show a + ((5 : Nat) : Int) = _; omega
    rw [e] at q hle
    refine rc_far (bs := [b]) (ts := [n]) hA a1 hf (.inl rfl) (by decide) hle (by simp) (by simp) b1_ok (fun R r => ⟨_, .non, 16, 1, 4, cs, a, [n], rfl, a0, a1, .inl ⟨rfl, _, _, _, _, [], hA.tl, ?_⟩, r⟩) q
    rw [four_val ok.2]
  | add b c =>
    have e : a + ((((Rw.add b c).cells a).length : Nat) : Int) = a + 1 + 0 := by show a + ((1 : Nat) : Int) = _; omega
    rw [e] at q hle
    exact rc_far (bs := [b, c]) (ts := []) hA a1 hf (.inl rfl) (by decide) hle (by simp) (by decide) (b2_ok ok.1 ok.2) (t0_ok hA.tl a0 a1 ks_add) q
  | take b c =>
    have e : a + ((((Rw.take b c).cells a).length : Nat) : Int) = a + 1 + 0 := by show a + ((1 : Nat) : Int) = _; omega
    rw [e] at q hle
    exact rc_far (bs := [b, c]) (ts := []) hA a1 hf (.inl rfl) (by decide) hle (by simp) (by decide) (b2_ok ok.1 ok.2) (t0_ok hA.tl a0 a1 ks_take) q
  | say b =>
    have e : a + ((((Rw.say b).cells a).length : Nat) : Int) = a + 1 + 0 := by show a + ((1 : Nat) : Int) = _; omega
    rw [e] at q hle
    exact rc_far (bs := [b]) (ts := []) hA a1 hf (.inl rfl) (by decide) hle (by simp) (by decide) (b1_ok) (t0_ok hA.tl a0 a1 ks_say) q
  | ask b =>
    have e : a + ((((Rw.ask b).cells a).length : Nat) : Int) = a + 1 + 0 := by show a + ((1 : Nat) : Int) = _; omega
    rw [e] at q hle
    exact rc_far (bs := [b]) (ts := []) hA a1 hf (.inl rfl) (by decide) hle (by simp) (by decide) (b1_ok) (t0_ok hA.tl a0 a1 ks_ask) q
  | back  =>
    have e : a + ((((Rw.back ).cells a).length : Nat) : Int) = a + 1 + 0 := by show a + ((1 : Nat) : Int) = _; omega
    rw [e] at q hle
    exact rc_far (bs := []) (ts := []) hA a1 hf (.inl rfl) (by decide) hle (by simp) (by decide) (b0_ok) (t0_ok hA.tl a0 a1 ks_back) q
  | stop  =>
    have e : a + ((((Rw.stop ).cells a).length : Nat) : Int) = a + 1 + 0 := by show a + ((1 : Nat) : Int) = _; omega
    rw [e] at q hle
    exact rc_far (bs := []) (ts := []) hA a1 hf (.inl rfl) (by decide) hle (by simp) (by decide) (b0_ok) (t0_ok hA.tl a0 a1 ks_stop) q
  | alike b p p' =>
    have e : a + ((((Rw.alike b p p').cells a).length : Nat) : Int) = a + 1 + 4 := by show a + ((5 : Nat) : Int) = _; omega
    rw [e] at q hle
    refine rc_far (bs := [b]) (ts := [p, p']) hA a1 hf (.inl rfl) (by decide) hle (by simp) (by simp) b1_ok (fun R r => ⟨_, .non, 144, 1, 4, cs, a, [p, p'], rfl, a0, a1, .inr (.inr ⟨ks_alike, .inl rfl, 2, two p ++ two p', hA.tl, rfl, rfl, by decide, pr_two.symm⟩), r⟩) q
  | jump s p =>
    cases s
    · have e : a + ((((Rw.jump false p).cells a).length : Nat) : Int) = a + 1 + 2 := by show a + ((3 : Nat) : Int) = _; omega
      rw [e] at q hle
      exact rc_far (bs := []) (ts := [p]) hA a1 hf (.inr rfl) (by decide) hle (by simp) (by simp) (b0_ok) (t1_ok hA.tl a0 a1 ks_jump) q
    · have e : a + ((((Rw.jump true p).cells a).length : Nat) : Int) = a + 1 + 1 := by show a + ((2 : Nat) : Int) = _; omega
      rw [e] at q hle
      exact rc_near (bs := []) (p := p) hA a1 hf (by decide) hle (by simp) (b0_ok) (ts_ok hA.tl a0 a1 (ok.2 rfl) ks_jump) ok.1 q
  | call s p =>
    cases s
    · have e : a + ((((Rw.call false p).cells a).length : Nat) : Int) = a + 1 + 2 := by show a + ((3 : Nat) : Int) = _; omega
      rw [e] at q hle
      exact rc_far (bs := []) (ts := [p]) hA a1 hf (.inr rfl) (by decide) hle (by simp) (by simp) (b0_ok) (t1_ok hA.tl a0 a1 ks_call) q
    · have e : a + ((((Rw.call true p).cells a).length : Nat) : Int) = a + 1 + 1 := by show a + ((2 : Nat) : Int) = _; omega
      rw [e] at q hle
      exact rc_near (bs := []) (p := p) hA a1 hf (by decide) hle (by simp) (b0_ok) (ts_ok hA.tl a0 a1 (ok.2 rfl) ks_call) ok.1 q
  | jumpif s b p =>
    cases s
    · have e : a + ((((Rw.jumpif false b p).cells a).length : Nat) : Int) = a + 1 + 2 := by show a + ((3 : Nat) : Int) = _; omega
      rw [e] at q hle
      exact rc_far (bs := [b]) (ts := [p]) hA a1 hf (.inr rfl) (by decide) hle (by simp) (by simp) (b1_ok) (t1_ok hA.tl a0 a1 ks_jumpif) q
    · have e : a + ((((Rw.jumpif true b p).cells a).length : Nat) : Int) = a + 1 + 1 := by show a + ((2 : Nat) : Int) = _; omega
      rw [e] at q hle
      exact rc_near (bs := [b]) (p := p) hA a1 hf (by decide) hle (by simp) (b1_ok) (ts_ok hA.tl a0 a1 (ok.2.2 rfl) ks_jumpif) ok.2.1 q
  | jumpby s b p =>
    cases s
    · have e : a + ((((Rw.jumpby false b p).cells a).length : Nat) : Int) = a + 1 + 2 := by show a + ((3 : Nat) : Int) = _; omega
      rw [e] at q hle
      exact rc_far (bs := [b]) (ts := [p]) hA a1 hf (.inr rfl) (by decide) hle (by simp) (by simp) (b1_ok) (t1_ok hA.tl a0 a1 ks_jumpby) q
    · have e : a + ((((Rw.jumpby true b p).cells a).length : Nat) : Int) = a + 1 + 1 := by show a + ((2 : Nat) : Int) = _; omega
      rw [e] at q hle
      exact rc_near (bs := [b]) (p := p) hA a1 hf (by decide) hle (by simp) (b1_ok) (ts_ok hA.tl a0 a1 (ok.2.2 rfl) ks_jumpby) ok.2.1 q
  | load s b c p =>
    cases s
    · have e : a + ((((Rw.load false b c p).cells a).length : Nat) : Int) = a + 1 + 2 := by show a + ((3 : Nat) : Int) = _; omega
      rw [e] at q hle
      exact rc_far (bs := [b, c]) (ts := [p]) hA a1 hf (.inr rfl) (by decide) hle (by simp) (by simp) (b2_ok ok.1 ok.2.1) (t1_ok hA.tl a0 a1 ks_load) q
    · have e : a + ((((Rw.load true b c p).cells a).length : Nat) : Int) = a + 1 + 1 := by show a + ((2 : Nat) : Int) = _; omega
      rw [e] at q hle
      exact rc_near (bs := [b, c]) (p := p) hA a1 hf (by decide) hle (by simp) (b2_ok ok.1 ok.2.1) (ts_ok hA.tl a0 a1 (ok.2.2.2 rfl) ks_load) ok.2.2.1 q
end K22
set_option Elab.async false
set_option linter.all false
set_option maxRecDepth 100000
set_option maxHeartbeats 4000000
namespace K22
open PySem PySem.Spec L2 L3
mutual
theorem eqD_refl : ∀ d : D, pl d = true → eqD d d = true
  | .non, _ => rfl
  | .bl b, _ => by cases b <;> rfl
  | .int i, _ => by unfold eqD; simp
  | .str x, _ => by unfold eqD; simp
  | .tup ds, h => by unfold eqD; exact eqDs_refl ds h
  | .lst ds, h => by unfold eqD; exact eqDs_refl ds h
  | .ty _, h => by unfold pl at h; cases h
  | .dct _ _, h => by unfold pl at h; cases h
  | .ins _ _ _, h => by unfold pl at h; cases h
  | .scr _, h => by unfold pl at h; cases h
  | .loc _, h => by unfold pl at h; cases h
  | .cls _, h => by unfold pl at h; cases h
theorem eqDs_refl : ∀ ds : List D, pls ds = true → eqDs ds ds = true
  | [], _ => rfl
  | d :: ds, h => by
    unfold pls at h
    rw [Bool.and_eq_true] at h
    unfold eqDs
    rw [eqD_refl d h.1, eqDs_refl ds h.2]; rfl
end
theorem ne_deep {x y T : D} {M : Ms} {Q : DK} (hx : dv M x = T) (hy : dv M y = T) (hp : pl T = true) (hd : dp T ≤ 60) (q : Q (.bl false) M) : gNeD x y M Q := by
  unfold gNeD
  rw [hx, hy, eqD_refl T hp]
  exact ⟨⟨hp, hp, hd, hd⟩, q⟩
theorem eq_deep {x y T : D} {M : Ms} {Q : DK} (hx : dv M x = T) (hy : dv M y = T) (hp : pl T = true) (hd : dp T ≤ 60) (q : Q (.bl true) M) : gEqD x y M Q := by
  unfold gEqD
  rw [hx, hy, eqD_refl T hp]
  exact ⟨⟨hp, hp, hd, hd⟩, q⟩
theorem pls_iD : ∀ xs : List Int, pls (iD xs) = true
  | [] => rfl
  | x :: xs => by show (true && pls (iD xs)) = true; rw [pls_iD xs]; rfl
theorem dps_iD : ∀ xs : List Int, dps (iD xs) = 0
  | [] => rfl
  | x :: xs => by show max 0 (dps (iD xs)) = 0; rw [dps_iD xs]; rfl
theorem dp_lst (xs : List Int) : dp (.lst (iD xs)) ≤ 60 := by
  show dps (iD xs) + 1 ≤ 60
  rw [dps_iD]; decide
theorem dv_lst (M : Ms) (xs : List Int) : dv M (.lst (iD xs)) = .lst (iD xs) := dv_nl M _ (nls_iD xs)
theorem pl_d : ∀ r : Rw, pl r.d = true
  | .set _ _ => by kernel_rfl
  | .add _ _ => by kernel_rfl
  | .take _ _ => by kernel_rfl
  | .say _ => by kernel_rfl
  | .ask _ => by kernel_rfl
  | .jump _ _ => by kernel_rfl
  | .jumpif _ _ _ => by kernel_rfl
  | .call _ _ => by kernel_rfl
  | .back => by kernel_rfl
  | .stop => by kernel_rfl
  | .load _ _ _ _ => by kernel_rfl
  | .jumpby _ _ _ => by kernel_rfl
  | .alike _ _ _ => by kernel_rfl
theorem dp_d : ∀ r : Rw, dp r.d = 1
  | .set _ _ | .add _ _ | .take _ _ | .say _ | .ask _ | .jump _ _ | .jumpif _ _ _ | .call _ _ | .back | .stop | .load _ _ _ _ | .jumpby _ _ _ | .alike _ _ _ => rfl
theorem nl_d : ∀ r : Rw, nl r.d = true
  | .set _ _ | .add _ _ | .take _ _ | .say _ | .ask _ | .jump _ _ | .jumpif _ _ _ | .call _ _ | .back | .stop | .load _ _ _ _ | .jumpby _ _ _ | .alike _ _ _ => rfl
theorem near_is : ∀ r : Rw, r.near = .non ∨ ∃ s, r.near = .bl s
  | .set _ _ | .add _ _ | .take _ _ | .say _ | .ask _ | .back | .stop | .alike _ _ _ => .inl rfl
  | .jump s _ | .jumpif s _ _ | .call s _ | .load s _ _ _ | .jumpby s _ _ => .inr ⟨s, rfl⟩
def Rw.args : Rw → List D
  | .set b n => [.int b, .int n]
  | .add b c => [.int b, .int c]
  | .take b c => [.int b, .int c]
  | .say b => [.int b]
  | .ask b => [.int b]
  | .jump _ p => [.int p]
  | .jumpif _ b p => [.int b, .int p]
  | .call _ p => [.int p]
  | .back => []
  | .stop => []
  | .load _ b c p => [.int b, .int c, .int p]
  | .jumpby _ b p => [.int b, .int p]
  | .alike b p q => [.int b, .int p, .int q]
theorem d_is : ∀ r : Rw, r.d = .tup (.str r.kind :: r.args)
  | .set _ _ | .add _ _ | .take _ _ | .say _ | .ask _ | .jump _ _ | .jumpif _ _ _ | .call _ _ | .back | .stop | .load _ _ _ _ | .jumpby _ _ _ | .alike _ _ _ => rfl
theorem in_no : ∀ r : Rw, inD (.str r.kind) (.tup [.str "numbers", .str "table"]) = some false
  | .set _ _ => by kernel_rfl
  | .add _ _ => by kernel_rfl
  | .take _ _ => by kernel_rfl
  | .say _ => by kernel_rfl
  | .ask _ => by kernel_rfl
  | .jump _ _ => by kernel_rfl
  | .jumpif _ _ _ => by kernel_rfl
  | .call _ _ => by kernel_rfl
  | .back => by kernel_rfl
  | .stop => by kernel_rfl
  | .load _ _ _ _ => by kernel_rfl
  | .jumpby _ _ _ => by kernel_rfl
  | .alike _ _ _ => by kernel_rfl
def P_told : GN := fun ds M Q => ∃ (xs : List D) (n : Int), ds = [.tup xs, .int n] ∧ (xs.length : Int) = n ∧ Q (.bl true) M
theorem P_told_mono : monoN P_told := fun ds M P Q w ⟨xs, n, h1, h2, q⟩ => ⟨xs, n, h1, h2, w _ _ q⟩
theorem sp_told {K : PySem.W.Frag} : ∀ ds M Q, P_told ds M Q → fnG 2 2 (t_law_told K) ds M Q := fun ds M Q ⟨xs, n, h1, h2, q⟩ => by
  subst h1
  refine ⟨rfl, true, rfl, xs.length, rfl, ?_⟩
  show Q (.bl ((xs.length : Int) == n)) M
  rw [h2]
  simpa using q
theorem cut_at {cs xs : List Int} {a : Int} (h : At cs a xs) : cutD (iD cs) (some a) (some (a + xs.length)) = iD xs := by
  obtain ⟨pre, post, rfl, rfl⟩ := h
  rw [show ((pre.length : Int) + (xs.length : Int)) = ((pre.length + xs.length : Nat) : Int) by push_cast; rfl]
  unfold cutD
  rw [HT.sIx_nat, HT.sIx_nat]
  simp only [List.length_map, List.length_append]
  rw [Nat.min_eq_left (by omega), Nat.min_eq_left (by omega)]
  simp
end K22
set_option Elab.async false
set_option linter.all false
set_option maxRecDepth 100000
set_option maxHeartbeats 4000000
namespace K22
open PySem PySem.Spec L2 L3
def readBody (K : PySem.W.Frag) (g_read_table : GN) (g_read_numbers : GN) (g_law_told : GN) (g_cells_of : GN) (g_read_code : GN) : DS := (dIfS (dTest (dOp (gIn false) (dOp gIx (dVar 4) (dC (.int 0))) (dTup (dCons (dC (.str "numbers")) (dCons (dC (.str "table")) dNil))))) (dSeq (dSet 7 (dCB g_read_table (dCons (dVar 2) (dCons (dVar 3) dNil))))
  (dSeq (dIfS (dTest (dOp gEq (dOp gIx (dVar 4) (dC (.int 0))) (dC (.str "numbers")))) (dSet 7 (dCB g_read_numbers (dCons (dVar 2) (dCons (dVar 3) dNil)))) dNext)
  (dSeq (dIfS (dOr (dNot (dTest (dCB g_law_told (dCons (dVar 7) (dCons (dC (.int 2)) dNil))))) (dOr (dNot (dTest (dCB (gIsi K) (dCons (dOp gIx (dVar 7) (dC (.int 0))) (dCons (dC (.ty "list")) dNil))))) (dTest (dOp gNeD (dVar 7) (dTup (dCons (dOp gIx (dVar 4) (dC (.int 1))) (dCons (dVar 6) dNil))))))) (dRet (dC (.bl false))) dNext)
  (dSeq (dIfS (dTest (dOp gNeD (dCB g_cells_of (dCons (dTup (dCons (dOp gIx (dVar 4) (dC (.int 0))) (dCons (dOp gIx (dVar 7) (dC (.int 0))) dNil))) (dCons (dVar 3) (dCons (dC .non) dNil)))) (dSl (dVar 0) (dPart (dVar 3)) (dPart (dVar 6))))) (dRet (dC (.bl false))) dNext)
  (dDrop (dBM "list" gmAppend (dOp gIx (dVar 7) (dC (.int 0))) (dCons (dC (.int 9)) dNil))))))) (dSeq (dSet 7 (dCB g_read_code (dCons (dVar 2) (dCons (dVar 3) dNil))))
  (dSeq (dIfS (dOr (dNot (dTest (dCB g_law_told (dCons (dVar 7) (dCons (dC (.int 3)) dNil))))) (dTest (dOp gNeD (dVar 7) (dTup (dCons (dVar 4) (dCons (dVar 5) (dCons (dVar 6) dNil))))))) (dRet (dC (.bl false))) dNext)
  (dSeq (dIfS (dAnd (dTest (dOp gIsNot (dVar 5) (dC .non))) (dNot (dTest (dCB (gIsi K) (dCons (dOp gIx (dVar 7) (dC (.int 1))) (dCons (dC (.ty "bool")) dNil)))))) (dRet (dC (.bl false))) dNext)
  (dIfS (dOr (dNot (dTest (dCB (gIsi K) (dCons (dOp gIx (dVar 7) (dC (.int 0))) (dCons (dC (.ty "tuple")) dNil))))) (dTest (dOp gNeD (dCB g_cells_of (dCons (dOp gIx (dVar 7) (dC (.int 0))) (dCons (dVar 3) (dCons (dOp gIx (dVar 7) (dC (.int 1))) dNil)))) (dSl (dVar 0) (dPart (dVar 3)) (dPart (dVar 6)))))) (dRet (dC (.bl false))) dNext)))))
inductive En where
  | row (a : Int) (r : Rw)
  | nums (a : Int) (ns : List Int)
  | tab (a : Int) (ns : List Int)
def En.d : En → D
  | .row a r => .tup [.int a, r.d, r.near, .int (a + (r.cells a).length)]
  | .nums a ns => .tup [.int a, .tup [.str "numbers", .lst (iD ns)], .non, .int (a + (two ns.length ++ ns.flatMap four).length)]
  | .tab a ns => .tup [.int a, .tup [.str "table", .lst (iD ns)], .non, .int (a + (two ns.length ++ ns.flatMap two).length)]
def En.ok (cs : List Int) : En → Prop
  | .row a r => r.ok a ∧ a < 65536 ∧ At cs a (r.cells a)
  | .nums a ns => a < 65536 ∧ ns.length ≤ 50 ∧ (∀ n ∈ ns, Nm n) ∧ At cs a (two ns.length ++ ns.flatMap four)
  | .tab a ns => a < 65536 ∧ ns.length ≤ 50 ∧ (∀ n ∈ ns, Pl n) ∧ At cs a (two ns.length ++ ns.flatMap two)
theorem vw_push {M : Ms} {o : OD} : vw (M ++ [some o]) (.loc M.length) = o.toD := vw_loc (by simp)
theorem dv_loc {M : Ms} {k : Nat} : dv M (.loc k) = vw M (.loc k) := by unfold dv; rfl
theorem dv_push {M : Ms} {o : OD} : dv (M ++ [some o]) (.loc M.length) = o.toD := dv_loc.trans vw_push
theorem sl_036 {δ : DSt} {xs : List D} {d1 d2 d4 d5 d7 : Option D} {a b : Int} {M : Ms} {Q : DK} (hδ : δ = [some (.lst xs), d1, d2, some (.int a), d4, d5, some (.int b), d7]) (q : Q (.lst (cutD xs (some a) (some b))) M) : dSl (dVar 0) (dPart (dVar 3)) (dPart (dVar 6)) δ M Q := by
  subst hδ
  exact q
theorem quads_flat : ∀ ns : List Int, (∀ n ∈ ns, Nm n) → quads (ns.flatMap four) = ns
  | [], _ => rfl
  | n :: ns, h => by
    rw [List.flatMap_cons]
    show sgn _ :: quads (ns.flatMap four) = _
    rw [quads_flat ns fun m hm => h m (List.mem_cons_of_mem _ hm), four_val (h n List.mem_cons_self)]
theorem pairs_flat : ∀ ns : List Int, pairs (ns.flatMap two) = ns
  | [] => rfl
  | n :: ns => by
    rw [List.flatMap_cons]
    show (256 * (n / 256) + n % 256) :: pairs (ns.flatMap two) = _
    rw [pairs_flat ns, two_val]
section
variable {K : PySem.W.Frag}
theorem row_turn {cs : List Int} {a : Int} {r : Rw} {E : DEnds} {M : Ms} {d1 x7 : Option D} (ok : En.ok cs (.row a r)) (q : ∀ x3 x4 x5 x6 x7, E.nx [some (.lst (iD cs)), d1, some (.lst (iD cs)), x3, x4, x5, x6, x7] (M ++ [some (.lst (iD (r.cells a)))])) :
    readBody K P_read_table P_read_numbers P_told P_cells_of (cl P_read_code) E [some (.lst (iD cs)), d1, some (.lst (iD cs)), some (.int a), some r.d, some r.near, some (.int (a + (r.cells a).length)), x7] M := by
  obtain ⟨h1, h2, h3⟩ := ok
  have hT : nl (.tup [r.d, r.near, .int (a + (r.cells a).length)]) = true := by
    show (nl r.d && (nl r.near && (true && true))) = true
    rw [nl_d]
    rcases near_is r with e | ⟨s, e⟩ <;> rw [e] <;> rfl
  have hP : pl (.tup [r.d, r.near, .int (a + (r.cells a).length)]) = true := by
    show (pl r.d && (pl r.near && (true && true))) = true
    rw [pl_d]
    rcases near_is r with e | ⟨s, e⟩ <;> rw [e] <;> rfl
  have hD : dp (.tup [r.d, r.near, .int (a + (r.cells a).length)]) ≤ 60 := by
    show max (dp r.d) (max (dp r.near) (max 0 0)) + 1 ≤ 60
    rw [dp_d]
    rcases near_is r with e | ⟨s, e⟩ <;> rw [e] <;> exact Nat.le_of_ble_eq_true rfl
  have hd := d_is r
  rw [hd]
  refine ⟨.str r.kind, at_0, Nat.le_of_ble_eq_true rfl, false, in_no r, ?_⟩
  refine ⟨nls_cs cs a, r, cs, a, rfl, h1, h2, h3, ?_⟩
  refine ⟨_, 3, rfl, rfl, Nat.le_of_ble_eq_true rfl, ?_⟩
  refine ne_deep (T := .tup [r.d, r.near, .int (a + (r.cells a).length)]) (dv_nl _ _ hT) (by rw [← hd]; exact dv_nl _ _ hT) hP hD ?_
  rcases near_is r with e | ⟨s, e⟩
  · rw [e]
    refine ⟨r.d, rfl, true, by rw [hd]; rfl, r.d, rfl, .non, rfl, .inl ⟨r, a, by rw [e], ?_⟩⟩
    refine sl_036 rfl ?_
    refine ne_deep (x := .loc M.length) (y := .lst (cutD (iD cs) (some a) (some (a + (r.cells a).length)))) (M := M ++ [some (.lst (iD (r.cells a)))]) (T := .lst (iD (r.cells a))) dv_push (by rw [cut_at h3]; exact dv_lst _ _) (pls_iD _) (dp_lst _) ?_
    exact q _ _ _ _ _
  · rw [e]
    refine ⟨.bl s, rfl, true, rfl, ?_⟩
    refine ⟨r.d, rfl, true, by rw [hd]; rfl, r.d, rfl, .bl s, rfl, .inl ⟨r, a, by rw [e], ?_⟩⟩
    refine sl_036 rfl ?_
    refine ne_deep (x := .loc M.length) (y := .lst (cutD (iD cs) (some a) (some (a + (r.cells a).length)))) (M := M ++ [some (.lst (iD (r.cells a)))]) (T := .lst (iD (r.cells a))) dv_push (by rw [cut_at h3]; exact dv_lst _ _) (pls_iD _) (dp_lst _) ?_
    exact q _ _ _ _ _
def Keep (M M' : Ms) : Prop := M.length ≤ M'.length ∧ ∀ j, j < M.length → M'[j]? = M[j]?
theorem Keep.refl {M : Ms} : Keep M M := ⟨Nat.le_refl _, fun _ _ => rfl⟩
theorem Keep.trans {M M' M'' : Ms} (a : Keep M M') (b : Keep M' M'') : Keep M M'' := ⟨Nat.le_trans a.1 b.1, fun j h => (b.2 j (Nat.lt_of_lt_of_le h a.1)).trans (a.2 j h)⟩
theorem Keep.push {M : Ms} {o : Option OD} : Keep M (M ++ [o]) := ⟨by simp, fun j h => List.getElem?_append_left h⟩
theorem Keep.setAt {M M' : Ms} {k : Nat} {o : Option OD} (a : Keep M M') (h : M.length ≤ k) : Keep M (M'.set k o) := ⟨by rw [List.length_set]; exact a.1, fun j hj => by rw [List.getElem?_set_ne (by omega)]; exact a.2 j hj⟩
theorem in_nums : inD (.str "numbers") (.tup [.str "numbers", .str "table"]) = some true := by kernel_rfl
theorem in_tab : inD (.str "table") (.tup [.str "numbers", .str "table"]) = some true := by kernel_rfl
theorem nums_turn {cs : List Int} {a : Int} {ns : List Int} {E : DEnds} {M : Ms} {d1 x7 : Option D} (ok : En.ok cs (.nums a ns)) (q : ∀ x3 x4 x5 x6 x7 M', Keep M M' → E.nx [some (.lst (iD cs)), d1, some (.lst (iD cs)), x3, x4, x5, x6, x7] M') :
    readBody K P_read_table P_read_numbers P_told P_cells_of (cl P_read_code) E [some (.lst (iD cs)), d1, some (.lst (iD cs)), some (.int a), some (.tup [.str "numbers", .lst (iD ns)]), some .non, some (.int (a + (two ns.length ++ ns.flatMap four).length)), x7] M := by
  obtain ⟨h1, h2, h3, h4⟩ := ok
  have hl : (ns.flatMap four).length = 4 * ns.length := len_flat len_four ns
  have hL : (a + ((two ns.length ++ ns.flatMap four).length : Nat) : Int) = a + 2 + 4 * ns.length := by
    rw [List.length_append, hl, len_two]; push_cast; omega
  refine ⟨_, rfl, Nat.le_of_ble_eq_true rfl, true, in_nums, ?_⟩
  refine ⟨cs, a, ns.length, (ns.flatMap four).take (2 * ns.length), (ns.flatMap four).drop (2 * ns.length), rfl, by rw [List.take_append_drop]; exact h4, by rw [List.length_take, hl]; omega, by omega, h1, ?_⟩
  refine ⟨_, rfl, ?_⟩
  refine ⟨cs, a, ns.length, ns.flatMap four, rfl, h4, hl, by omega, h1, ?_⟩
  rw [quads_flat ns h3]
  refine ⟨_, 2, rfl, rfl, .loc (M ++ [some (OD.lst (iD (pairs ((ns.flatMap four).take (2 * ns.length)))))]).length, rfl, true, by rw [vw_push]; rfl, _, rfl, Nat.le_of_ble_eq_true rfl, ?_⟩
  refine ne_deep (x := .tup [.loc (M ++ [some (OD.lst (iD (pairs ((ns.flatMap four).take (2 * ns.length)))))]).length, .int (a + 2 + 4 * ns.length)]) (y := .tup [.lst (iD ns), .int (a + (two ns.length ++ ns.flatMap four).length)]) (M := (M ++ [some (OD.lst (iD (pairs ((ns.flatMap four).take (2 * ns.length)))))]) ++ [some (.lst (iD ns))]) (T := .tup [.lst (iD ns), .int (a + 2 + 4 * ns.length)]) ?_ ?_ ?_ ?_ ?_
  · show D.tup [dv _ (.loc _), _] = _
    rw [dv_push]; rfl
  · rw [hL]
    exact dv_nl _ _ (by show (nls (iD ns) && (true && true)) = true; rw [nls_iD]; rfl)
  · show (pls (iD ns) && (true && true)) = true
    rw [pls_iD]; rfl
  · show max (dps (iD ns) + 1) (max 0 0) + 1 ≤ 60
    rw [dps_iD]; decide
  refine ⟨_, rfl, .loc (M ++ [some (OD.lst (iD (pairs ((ns.flatMap four).take (2 * ns.length)))))]).length, rfl, Nat.le_of_ble_eq_true rfl, .inr (.inl ⟨ns, .loc (M ++ [some (OD.lst (iD (pairs ((ns.flatMap four).take (2 * ns.length)))))]).length, a, by omega, rfl, vw_push, ?_⟩)⟩
  refine sl_036 rfl ?_
  refine ne_deep (x := .loc ((M ++ [some (OD.lst (iD (pairs ((ns.flatMap four).take (2 * ns.length)))))]) ++ [some (OD.lst (iD ns))]).length) (y := .lst (cutD (iD cs) (some a) (some (a + (two ns.length ++ ns.flatMap four).length)))) (M := (M ++ [some (OD.lst (iD (pairs ((ns.flatMap four).take (2 * ns.length)))))]) ++ [some (.lst (iD ns))] ++ [some (.lst (iD (two ns.length ++ ns.flatMap four)))]) (T := .lst (iD (two ns.length ++ ns.flatMap four))) dv_push (by rw [cut_at h4]; exact dv_lst _ _) (pls_iD _) (dp_lst _) ?_
  have e3 : ((M ++ [some (OD.lst (iD (pairs ((ns.flatMap four).take (2 * ns.length)))))]) ++ [some (OD.lst (iD ns))] ++ [some (OD.lst (iD (two ns.length ++ ns.flatMap four)))])[(M ++ [some (OD.lst (iD (pairs ((ns.flatMap four).take (2 * ns.length)))))]).length]? = some (some (.lst (iD ns))) := by
    rw [List.getElem?_append_left (by simp)]; exact List.getElem?_concat_length
  refine ⟨.loc (M ++ [some (OD.lst (iD (pairs ((ns.flatMap four).take (2 * ns.length)))))]).length, rfl, by rw [vw_loc e3]; rfl, iD ns, e3, ?_, ?_⟩
  · rw [List.length_map]; exact Nat.lt_of_le_of_lt h2 (by decide)
  exact q _ _ _ _ _ _ (((Keep.push (M := M)).trans (Keep.push.trans Keep.push)).setAt (Keep.push (M := M)).1)
theorem tab_turn {cs : List Int} {a : Int} {ns : List Int} {E : DEnds} {M : Ms} {d1 x7 : Option D} (ok : En.ok cs (.tab a ns)) (q : ∀ x3 x4 x5 x6 x7 M', Keep M M' → E.nx [some (.lst (iD cs)), d1, some (.lst (iD cs)), x3, x4, x5, x6, x7] M') :
    readBody K P_read_table P_read_numbers P_told P_cells_of (cl P_read_code) E [some (.lst (iD cs)), d1, some (.lst (iD cs)), some (.int a), some (.tup [.str "table", .lst (iD ns)]), some .non, some (.int (a + (two ns.length ++ ns.flatMap two).length)), x7] M := by
  obtain ⟨h1, h2, h3, h4⟩ := ok
  have hl : (ns.flatMap two).length = 2 * ns.length := len_flat len_two ns
  have hL : (a + ((two ns.length ++ ns.flatMap two).length : Nat) : Int) = a + 2 + 2 * ns.length := by
    rw [List.length_append, hl, len_two]; push_cast; omega
  refine ⟨_, rfl, Nat.le_of_ble_eq_true rfl, true, in_tab, ?_⟩
  refine ⟨cs, a, ns.length, ns.flatMap two, [], rfl, by rw [List.append_nil]; exact h4, hl, by omega, h1, ?_⟩
  rw [pairs_flat ns]
  refine ⟨_, rfl, ?_⟩
  refine ⟨_, 2, rfl, rfl, .loc M.length, rfl, true, by rw [vw_push]; rfl, _, rfl, Nat.le_of_ble_eq_true rfl, ?_⟩
  refine ne_deep (x := .tup [.loc M.length, .int (a + 2 + 2 * ns.length)]) (y := .tup [.lst (iD ns), .int (a + (two ns.length ++ ns.flatMap two).length)]) (M := M ++ [some (.lst (iD ns))]) (T := .tup [.lst (iD ns), .int (a + 2 + 2 * ns.length)]) ?_ ?_ ?_ ?_ ?_
  · show D.tup [dv _ (.loc _), _] = _
    rw [dv_push]; rfl
  · rw [hL]
    exact dv_nl _ _ (by show (nls (iD ns) && (true && true)) = true; rw [nls_iD]; rfl)
  · show (pls (iD ns) && (true && true)) = true
    rw [pls_iD]; rfl
  · show max (dps (iD ns) + 1) (max 0 0) + 1 ≤ 60
    rw [dps_iD]; decide
  refine ⟨_, rfl, .loc M.length, rfl, Nat.le_of_ble_eq_true rfl, .inr (.inr ⟨ns, .loc M.length, a, by omega, rfl, vw_push, ?_⟩)⟩
  refine sl_036 rfl ?_
  refine ne_deep (x := .loc (M ++ [some (OD.lst (iD ns))]).length) (y := .lst (cutD (iD cs) (some a) (some (a + (two ns.length ++ ns.flatMap two).length)))) (M := M ++ [some (.lst (iD ns))] ++ [some (.lst (iD (two ns.length ++ ns.flatMap two)))]) (T := .lst (iD (two ns.length ++ ns.flatMap two))) dv_push (by rw [cut_at h4]; exact dv_lst _ _) (pls_iD _) (dp_lst _) ?_
  have e3 : (M ++ [some (OD.lst (iD ns))] ++ [some (OD.lst (iD (two ns.length ++ ns.flatMap two)))])[M.length]? = some (some (.lst (iD ns))) := by
    rw [List.getElem?_append_left (by simp)]; exact List.getElem?_concat_length
  refine ⟨.loc M.length, rfl, by rw [vw_loc e3]; rfl, iD ns, e3, ?_, ?_⟩
  · rw [List.length_map]; exact Nat.lt_of_le_of_lt h2 (by decide)
  exact q _ _ _ _ _ _ (((Keep.refl (M := M)).trans (Keep.push.trans Keep.push)).setAt (Keep.refl (M := M)).1)
theorem read_loop {cs : List Int} {st : Ms → Prop} {E : DEnds} {d1 : Option D} (q : ∀ x3 x4 x5 x6 x7 M', E.nx [some (.lst (iD cs)), d1, some (.lst (iD cs)), x3, x4, x5, x6, x7] M') : ∀ (es : List En) (M : Ms) (x3 x4 x5 x6 x7 : Option D), (∀ e ∈ es, En.ok cs e) → (∀ M', Keep M M' → st M') →
    forD (dgTup 4 (dgCons (dgName 3) (dgCons (dgName 4) (dgCons (dgName 5) (dgCons (dgName 6) dgNil))))) (readBody K P_read_table P_read_numbers P_told P_cells_of (cl P_read_code)) st E (es.map En.d) [some (.lst (iD cs)), d1, some (.lst (iD cs)), x3, x4, x5, x6, x7] M
  | [], M, x3, x4, x5, x6, x7, _, _ => q _ _ _ _ _ _
  | e :: es, M, x3, x4, x5, x6, x7, hok, hst => by
    have ih : ∀ x3 x4 x5 x6 x7 M', Keep M M' → st M' ∧ forD (dgTup 4 (dgCons (dgName 3) (dgCons (dgName 4) (dgCons (dgName 5) (dgCons (dgName 6) dgNil))))) (readBody K P_read_table P_read_numbers P_told P_cells_of (cl P_read_code)) st E (es.map En.d) [some (.lst (iD cs)), d1, some (.lst (iD cs)), x3, x4, x5, x6, x7] M' := fun x3 x4 x5 x6 x7 M' hk => ⟨hst M' hk, read_loop q es M' x3 x4 x5 x6 x7 (fun e he => hok e (List.mem_cons_of_mem _ he)) fun M'' h2 => hst M'' (hk.trans h2)⟩
    have ok := hok e List.mem_cons_self
    cases e with
    | row a r =>
      refine ⟨rfl, rfl, ?_⟩
      exact row_turn ok fun x3 x4 x5 x6 x7 => ih _ _ _ _ _ _ Keep.push
    | nums a ns =>
      refine ⟨rfl, rfl, ?_⟩
      exact nums_turn ok ih
    | tab a ns =>
      refine ⟨rfl, rfl, ?_⟩
      exact tab_turn ok ih
def P_all_read : GN := fun ds M Q => ∃ (cs : List Int) (k : Nat) (es : List En), ds = [.lst (iD cs), .loc k] ∧ M[k]? = some (some (.lst (es.map En.d))) ∧ (∀ e ∈ es, En.ok cs e) ∧ ∀ M', Q (.bl true) M'
theorem P_all_read_mono : monoN P_all_read := fun ds M P Q w ⟨cs, k, es, h1, h2, h3, q⟩ => ⟨cs, k, es, h1, h2, h3, fun M' => w _ _ (q M')⟩
theorem sp_all_read : ∀ ds M Q, P_all_read ds M Q → fnG 8 2 (t_law_all_read K P_read_table P_read_numbers P_told P_cells_of (cl P_read_code)) ds M Q := fun ds M Q ⟨cs, k, es, h1, h2, h3, q⟩ => by
  subst h1
  refine ⟨rfl, es.map En.d, by rw [vw_loc h2]; rfl, rfl, ?_⟩
  refine read_loop (cs := cs) (d1 := some (.loc k)) ?_ es M _ _ _ _ _ h3 ?_
  · intro x3 x4 x5 x6 x7 M'
    refine eq_deep (x := .lst (iD cs)) (y := .lst (iD cs)) (T := .lst (iD cs)) (dv_lst _ _) (dv_lst _ _) (pls_iD _) (dp_lst _) ?_
    exact q M'
  · intro M' hk
    have e' : M'[k]? = some (some (.lst (es.map En.d))) := (hk.2 k (List.getElem?_eq_some_iff.mp h2).1).trans h2
    show vw M' (.loc k) = vw M (.loc k)
    rw [vw_loc h2, vw_loc e']
end
end K22
set_option Elab.async false
set_option linter.all false
set_option maxRecDepth 100000
set_option maxHeartbeats 4000000
namespace K22
open PySem PySem.Spec L2 L3
def lawBody (g_law_source : GN) (g_law_next : GN) (g_law_row : GN) (g_law_cells : GN) (g_law_number : GN) (g_cells_of : GN) (g_law_all_read : GN) : DS := (dSeq (dSet 2 (dCB g_law_source (dCons (dVar 1) dNil)))
  (dSeq (dSet 3 (dNew (fComp [none, some 2] (iRng1D (dCons (dCB g_law_next (dCons (dVar 2) (dCons (dC (.int 200)) dNil))) dNil)) (dgName 0) dYes (dCB g_law_next (dCons (dVar 1) (dCons (dC (.int 256)) dNil))))))
  (dSeq (dSet 4 (dOwn (fLst dNil)))
  (dSeq (dFor (iRng1D (dCons (dOp gPlus (dC (.int 1)) (dCB g_law_next (dCons (dVar 2) (dCons (dC (.int 5)) dNil)))) dNil)) (dgName 5) (dSeq (dSet 6 (dCB gLen (dCons (dVar 3) dNil)))
  (dSeq (dAsg (dCB g_law_row (dCons (dVar 2) (dCons (dVar 6) dNil))) (dgTup 2 (dgCons (dgName 7) (dgCons (dgName 8) dgNil))))
  (dSeq (dSet 3 (dOp gPlus (dVar 3) (dCB g_law_cells (dCons (dVar 7) (dCons (dVar 6) (dCons (dVar 8) dNil))))))
  (dDrop (dBM "list" gmAppend (dVar 4) (dCons (dTup (dCons (dVar 6) (dCons (dVar 7) (dCons (dVar 8) (dCons (dCB gLen (dCons (dVar 3) dNil)) dNil))))) dNil)))))))
  (dSeq (dFor (iAnyD (dNew (fLst (dCons (dC (.str "numbers")) (dCons (dC (.str "table")) dNil))))) (dgName 9) (dSeq (dSet 10 (dNew (fComp [none, some 2] (iRng1D (dCons (dOp gPlus (dC (.int 1)) (dCB g_law_next (dCons (dVar 2) (dCons (dC (.int 6)) dNil)))) dNil)) (dgName 0) dYes (dCB g_law_number (dCons (dVar 1) dNil)))))
  (dSeq (dIfS (dTest (dOp gEq (dVar 9) (dC (.str "table")))) (dSet 10 (dNew (fComp [none] (iAnyD (dVar 10)) (dgName 0) dYes (dOp (gI (fun _ j => 0 < j) fun i j => .int (i % j)) (dVar 0) (dC (.int 65536)))))) dNext)
  (dSeq (dSet 6 (dCB gLen (dCons (dVar 3) dNil)))
  (dSeq (dSet 3 (dOp gPlus (dVar 3) (dCB g_cells_of (dCons (dTup (dCons (dVar 9) (dCons (dNew (fCB gfList (dCons (dVar 10) dNil))) dNil))) (dCons (dVar 6) (dCons (dC .non) dNil))))))
  (dDrop (dBM "list" gmAppend (dVar 4) (dCons (dTup (dCons (dVar 6) (dCons (dTup (dCons (dVar 9) (dCons (dVar 10) dNil))) (dCons (dC .non) (dCons (dCB gLen (dCons (dVar 3) dNil)) dNil))))) dNil))))))))
  (dSeq (dSet 3 (dOp gPlus (dVar 3) (dNew (fComp [none, some 2] (iRng1D (dCons (dCB g_law_next (dCons (dVar 2) (dCons (dC (.int 3)) dNil))) dNil)) (dgName 0) dYes (dCB g_law_next (dCons (dVar 1) (dCons (dC (.int 256)) dNil)))))))
  (dIfS (dNot (dTest (dCB g_law_all_read (dCons (dVar 3) (dCons (dVar 4) dNil))))) (dRet (dC (.bl false))) dNext)))))))
def rowBody (g_law_row : GN) (g_law_cells : GN) : DS := (dSeq (dSet 6 (dCB gLen (dCons (dVar 3) dNil)))
  (dSeq (dAsg (dCB g_law_row (dCons (dVar 2) (dCons (dVar 6) dNil))) (dgTup 2 (dgCons (dgName 7) (dgCons (dgName 8) dgNil))))
  (dSeq (dSet 3 (dOp gPlus (dVar 3) (dCB g_law_cells (dCons (dVar 7) (dCons (dVar 6) (dCons (dVar 8) dNil))))))
  (dDrop (dBM "list" gmAppend (dVar 4) (dCons (dTup (dCons (dVar 6) (dCons (dVar 7) (dCons (dVar 8) (dCons (dCB gLen (dCons (dVar 3) dNil)) dNil))))) dNil))))))
def dataBody (g_law_next : GN) (g_law_number : GN) (g_cells_of : GN) : DS := (dSeq (dSet 10 (dNew (fComp [none, some 2] (iRng1D (dCons (dOp gPlus (dC (.int 1)) (dCB g_law_next (dCons (dVar 2) (dCons (dC (.int 6)) dNil)))) dNil)) (dgName 0) dYes (dCB g_law_number (dCons (dVar 1) dNil)))))
  (dSeq (dIfS (dTest (dOp gEq (dVar 9) (dC (.str "table")))) (dSet 10 (dNew (fComp [none] (iAnyD (dVar 10)) (dgName 0) dYes (dOp (gI (fun _ j => 0 < j) fun i j => .int (i % j)) (dVar 0) (dC (.int 65536)))))) dNext)
  (dSeq (dSet 6 (dCB gLen (dCons (dVar 3) dNil)))
  (dSeq (dSet 3 (dOp gPlus (dVar 3) (dCB g_cells_of (dCons (dTup (dCons (dVar 9) (dCons (dNew (fCB gfList (dCons (dVar 10) dNil))) dNil))) (dCons (dVar 6) (dCons (dC .non) dNil))))))
  (dDrop (dBM "list" gmAppend (dVar 4) (dCons (dTup (dCons (dVar 6) (dCons (dTup (dCons (dVar 9) (dCons (dVar 10) dNil))) (dCons (dC .non) (dCons (dCB gLen (dCons (dVar 3) dNil)) dNil))))) dNil)))))))
theorem At.app {cs xs t : List Int} {a : Int} (h : At cs a xs) : At (cs ++ t) a xs := by
  obtain ⟨pre, post, rfl, l⟩ := h
  exact ⟨pre, post ++ t, by simp, l⟩
theorem At.new {cs xs : List Int} : At (cs ++ xs) (cs.length : Int) xs := ⟨cs, [], by simp, rfl⟩
theorem En.ok.app {cs t : List Int} {e : En} (h : En.ok cs e) : En.ok (cs ++ t) e := by
  cases e with
  | row a r => exact ⟨h.1, h.2.1, h.2.2.app⟩
  | nums a ns => exact ⟨h.1, h.2.1, h.2.2.1, h.2.2.2.app⟩
  | tab a ns => exact ⟨h.1, h.2.1, h.2.2.1, h.2.2.2.app⟩
theorem comp_next {k : Nat} {Q : List D → Ms → Prop} : ∀ (items acc : List D) (M : Ms) (n : Int), Src M k n → n + (items.length : Int) < 999000 → acc.length + items.length ≤ 300 → (∀ (is : List Int) (M' : Ms), is.length = items.length → Src M' k (n + (items.length : Int)) → Sib M M' k → Q (acc ++ iD is) M') →
    compD [none, some 2] (dgName 0) dYes (dCB P_next (dCons (dVar 1) (dCons (dC (.int 256)) dNil))) (fun _ => True) Q items acc [none, some (.loc k)] M
  | [], acc, M, n, hs, hn, hl, q => by
    have := q [] M rfl (hs.le (by simp)) Sib.refl
    rw [show iD [] = [] from rfl, List.append_nil] at this
    exact this
  | x :: items, acc, M, n, hs, hn, hl, q => by
    rw [List.length_cons] at hn hl
    unfold compD
    refine ⟨k, 256, n, rfl, by decide, by decide, hs, by omega, fun i M1 _ _ s1 b1 => ⟨True.intro, ?_, ?_⟩⟩
    · exact Nat.lt_of_lt_of_le (show acc.length < 301 by omega) (by decide)
    · refine comp_next items (acc ++ [.int i]) M1 (n + 1) s1 (by omega) (by rw [List.length_append]; simp; omega) fun is M' hl' s2 b2 => ?_
      have := q (i :: is) M' (by simp [hl']) (s2.le (by rw [List.length_cons]; push_cast; omega)) (b1.trans b2)
      rw [List.append_assoc]
      exact this
theorem nls_row (a : Int) : ∀ r : Rw, nls [r.d, .int a, r.near] = true
  | .set _ _ | .add _ _ | .take _ _ | .say _ | .ask _ | .jump _ _ | .jumpif _ _ _ | .call _ _ | .back | .stop | .load _ _ _ _ | .jumpby _ _ _ | .alike _ _ _ => rfl
theorem len_cells (a : Int) : ∀ r : Rw, (r.cells a).length ≤ 5
  | .set _ _ | .add _ _ | .take _ _ | .say _ | .ask _ | .back | .stop | .alike _ _ _ => Nat.le_of_ble_eq_true rfl
  | .jump true _ | .jump false _ | .jumpif true _ _ | .jumpif false _ _ | .call true _ | .call false _ | .load true _ _ _ | .load false _ _ _ | .jumpby true _ _ | .jumpby false _ _ => Nat.le_of_ble_eq_true rfl
theorem iD_app {a b : List Int} : iD (a ++ b) = iD a ++ iD b := List.map_append
structure Inv2 (k j : Nat) (n : Int) (M : Ms) (cs : List Int) (es : List En) : Prop where
  s : Src M k n
  l : M[j]? = some (some (.lst (es.map En.d)))
  ne : j ≠ k
  ok : ∀ e ∈ es, En.ok cs e
theorem Inv2.jl {k j : Nat} {n : Int} {M : Ms} {cs : List Int} {es : List En} (h : Inv2 k j n M cs es) : j < M.length := (List.getElem?_eq_some_iff.mp h.l).1
theorem Inv2.more {k j : Nat} {n n' : Int} {M M' : Ms} {cs t : List Int} {es : List En} (h : Inv2 k j n M cs es) (s : Src M' k n') (b : Sib M M' k) (e : En) (he : En.ok (cs ++ t) e) : M'[j]? = some (some (.lst (es.map En.d))) ∧ Inv2 k j n' (M'.set j (some (.lst (es.map En.d ++ [e.d])))) (cs ++ t) (es ++ [e]) := by
  have hj := h.jl
  have e1 : M'[j]? = some (some (.lst (es.map En.d))) := (b.2 j hj h.ne).trans h.l
  refine ⟨e1, ?_, ?_, h.ne, ?_⟩
  · unfold Src
    rw [List.getElem?_set_ne h.ne]
    exact s
  · rw [List.getElem?_set_self (Nat.lt_of_lt_of_le hj b.1), List.map_append]; rfl
  · intro f hf
    rcases List.mem_append.mp hf with hf | hf
    · exact (h.ok f hf).app
    · simp at hf; subst hf; exact he
theorem row_loop {k j : Nat} {st : Ms → Prop} (hst : ∀ M, st M) {E : DEnds} {x0 x1 x9 x10 : Option D} {N : Int} {B C : Nat} (hB : B ≤ 400) (hC : C ≤ 60) (hN : N ≤ 900000) (q : ∀ x5 x6 x7 x8 M n cs es, Inv2 k j n M cs es → n ≤ N → cs.length ≤ B → es.length ≤ C → E.nx [x0, x1, some (.loc k), some (.lst (iD cs)), some (.loc j), x5, x6, x7, x8, x9, x10] M) :
    ∀ (items : List D) (M : Ms) (n : Int) (cs : List Int) (es : List En) (x5 x6 x7 x8 : Option D), Inv2 k j n M cs es → n + 9 * (items.length : Int) ≤ N → cs.length + 5 * items.length ≤ B → es.length + items.length ≤ C →
    forD (dgName 5) (rowBody P_row (cl P_cells)) st E items [x0, x1, some (.loc k), some (.lst (iD cs)), some (.loc j), x5, x6, x7, x8, x9, x10] M
  | [], M, n, cs, es, x5, x6, x7, x8, h, hn, hb, hc => q _ _ _ _ M n cs es h (by simpa using hn) (by simpa using hb) (by simpa using hc)
  | x :: items, M, n, cs, es, x5, x6, x7, x8, h, hn, hb, hc => by
    rw [List.length_cons] at hn hb hc
    push_cast at hn
    refine ⟨cs.length, by show some (iD cs).length = _; rw [List.length_map], ?_⟩
    refine ⟨k, n, (cs.length : Int), rfl, h.s, by omega, ⟨by omega, by omega⟩, fun r M1 ok s1 b1 => ⟨rfl, rfl, ?_⟩⟩
    have hl5 := len_cells (cs.length : Int) r
    refine ⟨nls_row _ r, r, (cs.length : Int), rfl, ?_, ?_⟩
    · rw [List.length_map, List.length_map]; exact Nat.le_trans (show cs.length + (r.cells (cs.length : Int)).length ≤ 500 by omega) (by decide)
    obtain ⟨e1, h2⟩ := h.more (t := r.cells (cs.length : Int)) s1 b1 (.row (cs.length : Int) r) ⟨ok, by omega, At.new⟩
    refine ⟨by rw [vw_loc e1]; rfl, (cs ++ r.cells (cs.length : Int)).length, by show some (iD cs ++ iD (r.cells (cs.length : Int))).length = _; rw [← iD_app, List.length_map], Nat.le_of_ble_eq_true rfl, _, e1, ?_, hst _, ?_⟩
    · rw [List.length_map]; exact Nat.lt_of_lt_of_le (show es.length < 61 by omega) (by decide)
    have := row_loop hst hB hC hN q items _ (n + 9) (cs ++ r.cells (cs.length : Int)) (es ++ [.row (cs.length : Int) r]) (some x) (some (.int (cs.length : Int))) (some r.d) (some r.near) h2 (by omega) (by rw [List.length_append]; omega) (by rw [List.length_append]; simp; omega)
    rw [iD_app] at this
    have ed : En.d (.row (cs.length : Int) r) = .tup [.int (cs.length : Int), r.d, r.near, .int ((cs ++ r.cells (cs.length : Int)).length : Nat)] := by
      show D.tup [.int (cs.length : Int), r.d, r.near, .int _] = _
      rw [List.length_append]; push_cast; rfl
    rw [ed] at this
    exact this
end K22
set_option Elab.async false
set_option linter.all false
set_option maxRecDepth 100000
set_option maxHeartbeats 4000000
namespace K22
open PySem PySem.Spec L2 L3
theorem comp_src {k : Nat} {P : GN} {ok : Int → Prop} {Q : List D → Ms → Prop} (hP : ∀ (M : Ms) (n : Int) (R : DK), Src M k n → n < 999000 → (∀ (i : Int) (M' : Ms), ok i → Src M' k (n + 2) → Sib M M' k → R (.int i) M') → P [.loc k] M R) :
    ∀ (items acc : List D) (M : Ms) (n : Int), Src M k n → n + 2 * (items.length : Int) < 999000 → acc.length + items.length ≤ 100 → (∀ (is : List Int) (M' : Ms), is.length = items.length → (∀ i ∈ is, ok i) → Src M' k (n + 2 * (items.length : Int)) → Sib M M' k → Q (acc ++ iD is) M') →
    compD [none, some 2] (dgName 0) dYes (dCB P (dCons (dVar 1) dNil)) (fun _ => True) Q items acc [none, some (.loc k)] M
  | [], acc, M, n, hs, hn, hl, q => by
    have := q [] M rfl (fun _ h => by cases h) (hs.le (by simp)) Sib.refl
    rw [show iD [] = [] from rfl, List.append_nil] at this
    exact this
  | x :: items, acc, M, n, hs, hn, hl, q => by
    rw [List.length_cons] at hn hl
    unfold compD
    refine hP M n _ hs (by omega) fun i M1 oi s1 b1 => ⟨True.intro, ?_, ?_⟩
    · exact Nat.lt_of_lt_of_le (show acc.length < 101 by omega) (by decide)
    · refine comp_src hP items (acc ++ [.int i]) M1 (n + 2) s1 (by omega) (by rw [List.length_append]; simp; omega) fun is M' hl' ho s2 b2 => ?_
      have := q (i :: is) M' (by simp [hl']) (fun j hj => by
        rcases List.mem_cons.mp hj with rfl | hj
        · exact oi
        · exact ho j hj) (s2.le (by rw [List.length_cons]; push_cast; omega)) (b1.trans b2)
      rw [List.append_assoc]
      exact this
theorem comp_mod {st : Ms → Prop} {Q : List D → Ms → Prop} {M : Ms} (hst : st M) (ns : List Int) (hl : ns.length ≤ 100) (q : Q (iD (ns.map (· % 65536))) M) :
    compD [none] (dgName 0) dYes (dOp (gI (fun _ j => 0 < j) fun i j => .int (i % j)) (dVar 0) (dC (.int 65536))) st Q (iD ns) [] [none] M := by
  refine compD_map (fun d => match d with | .int n => .int (n % 65536) | _ => .non) hst (iD ns) [] (by simp; exact Nat.le_trans hl (by decide)) (fun x hx Kk hk => ?_) ?_
  · obtain ⟨n, hn, rfl⟩ := List.mem_map.mp hx
    exact ⟨show (0 : Int) < 65536 by decide, hk _ rfl⟩
  · rw [List.nil_append, List.map_map]
    have e : iD (ns.map (· % 65536)) = ns.map (fun n => D.int (n % 65536)) := List.map_map
    rw [e] at q
    exact q
theorem plus_loc {xs ys : List D} {y : D} {M : Ms} {Q : DK} (hy : vw M y = .lst ys) (hl : xs.length + ys.length ≤ sizeLine) (q : Q (.lst (xs ++ ys)) M) : gPlus (.lst xs) y M Q := by
  unfold gPlus
  rw [hy]
  exact ⟨hl, q⟩
theorem Sib.k {M M' : Ms} {k : Nat} (b : Sib M M' k) : Sib M M' k := b
theorem nums_data {k j : Nat} {E : DEnds} {x0 x1 x5 x6 x7 x8 x10 : Option D} {M : Ms} {n : Int} {cs : List Int} {es : List En} (h : Inv2 k j n M cs es) (hn : n ≤ 900000) (hb : cs.length ≤ 400) (hc : es.length ≤ 60)
    (q : ∀ x6 x10 M' cs' es', Inv2 k j (n + 20) M' cs' es' → cs'.length ≤ cs.length + 50 → es'.length ≤ es.length + 1 → E.nx [x0, x1, some (.loc k), some (.lst (iD cs')), some (.loc j), x5, x6, x7, x8, some (.str "numbers"), x10] M') :
    dataBody P_next P_number P_cells_of E [x0, x1, some (.loc k), some (.lst (iD cs)), some (.loc j), x5, x6, x7, x8, some (.str "numbers"), x10] M := by
  refine ⟨k, 6, n, rfl, by decide, by decide, h.s, by omega, fun r M1 r0 r1 s1 b1 => ?_⟩
  refine ⟨⟨by omega, by omega⟩, True.intro, ?_⟩
  refine comp_src (ok := Nm) (fun M n R a b c => ⟨k, n, rfl, a, b, fun i M' u v x y => c i M' ⟨u, v⟩ x y⟩) (rngD 0 (1 + r).toNat) [] M1 (n + 1) s1 (by simp [rngD]; omega) (by simp [rngD]; omega) fun is M2 l2 hm s2 b2 => ?_
  have hl : is.length = (1 + r).toNat := by rw [l2]; simp [rngD]
  have hf := len_flat len_four is
  refine ⟨cs.length, by show some (iD cs).length = _; rw [List.length_map], ?_⟩
  refine ⟨Nat.le_of_ble_eq_true rfl, .inr (.inl ⟨is, .lst (iD is), (cs.length : Int), by omega, rfl, rfl, ?_⟩)⟩
  refine plus_loc vw_push ?_ ?_
  · rw [List.length_map, List.length_map, List.length_append, hf, len_two]; exact Nat.le_trans (show cs.length + (2 + 4 * is.length) ≤ 500 by omega) (by decide)
  have s2' : Src (M2 ++ [some (OD.lst (iD (two is.length ++ is.flatMap four)))]) k (n + 20) := (s2.le (by simp [rngD]; omega)).push
  obtain ⟨e1, h2⟩ := h.more (t := two is.length ++ is.flatMap four) s2' (b1.trans (b2.trans Sib.push)) (.nums (cs.length : Int) is) ⟨by omega, by omega, hm, At.new⟩
  refine ⟨by rw [vw_loc e1]; rfl, Nat.le_of_ble_eq_true rfl, (cs ++ (two is.length ++ is.flatMap four)).length, by show some (iD cs ++ iD (two is.length ++ is.flatMap four)).length = _; rw [← iD_app, List.length_map], Nat.le_of_ble_eq_true rfl, _, e1, ?_, ?_⟩
  · rw [List.length_map]; exact Nat.lt_of_lt_of_le (show es.length < 61 by omega) (by decide)
  have := q (some (.int (cs.length : Int))) (some (.lst (iD is))) _ _ _ h2 (by rw [List.length_append, List.length_append, hf, len_two]; omega) (by simp)
  rw [iD_app] at this
  have ed : En.d (.nums (cs.length : Int) is) = .tup [.int (cs.length : Int), .tup [.str "numbers", .lst (iD is)], .non, .int ((cs ++ (two is.length ++ is.flatMap four)).length : Nat)] := by
    show D.tup [.int (cs.length : Int), _, _, .int _] = _
    rw [List.length_append (as := cs)]; push_cast; rfl
  rw [ed] at this
  exact this
theorem tab_data {k j : Nat} {E : DEnds} {x0 x1 x5 x6 x7 x8 x10 : Option D} {M : Ms} {n : Int} {cs : List Int} {es : List En} (h : Inv2 k j n M cs es) (hn : n ≤ 900000) (hb : cs.length ≤ 400) (hc : es.length ≤ 60)
    (q : ∀ x6 x10 M' cs' es', Inv2 k j (n + 20) M' cs' es' → cs'.length ≤ cs.length + 50 → es'.length ≤ es.length + 1 → E.nx [x0, x1, some (.loc k), some (.lst (iD cs')), some (.loc j), x5, x6, x7, x8, some (.str "table"), x10] M') :
    dataBody P_next P_number P_cells_of E [x0, x1, some (.loc k), some (.lst (iD cs)), some (.loc j), x5, x6, x7, x8, some (.str "table"), x10] M := by
  refine ⟨k, 6, n, rfl, by decide, by decide, h.s, by omega, fun r M1 r0 r1 s1 b1 => ?_⟩
  refine ⟨⟨by omega, by omega⟩, True.intro, ?_⟩
  refine comp_src (ok := Nm) (fun M n R a b c => ⟨k, n, rfl, a, b, fun i M' u v x y => c i M' ⟨u, v⟩ x y⟩) (rngD 0 (1 + r).toNat) [] M1 (n + 1) s1 (by simp [rngD]; omega) (by simp [rngD]; omega) fun is M2 l2 hm s2 b2 => ?_
  have hl : is.length = (1 + r).toNat := by rw [l2]; simp [rngD]
  refine ⟨iD is, rfl, rfl, ?_⟩
  refine comp_mod ?hst is (by omega) ?_
  case hst => exact rfl
  have hlj : (is.map (· % 65536)).length = is.length := List.length_map ..
  have hmj : ∀ i ∈ is.map (· % 65536), Pl i := fun i hi => by
    obtain ⟨m, _, rfl⟩ := List.mem_map.mp hi
    exact ⟨Int.emod_nonneg _ (by decide), Int.emod_lt_of_pos _ (by decide)⟩
  generalize is.map (· % 65536) = js at hlj hmj
  have hf := len_flat len_two js
  refine ⟨cs.length, by show some (iD cs).length = _; rw [List.length_map], ?_⟩
  refine ⟨Nat.le_of_ble_eq_true rfl, .inr (.inr ⟨js, .lst (iD js), (cs.length : Int), by omega, rfl, rfl, ?_⟩)⟩
  refine plus_loc vw_push ?_ ?_
  · rw [List.length_map, List.length_map, List.length_append, hf, len_two]; exact Nat.le_trans (show cs.length + (2 + 2 * js.length) ≤ 500 by omega) (by decide)
  have s2' : Src (M2 ++ [some (OD.lst (iD (two js.length ++ js.flatMap two)))]) k (n + 20) := (s2.le (by simp [rngD]; omega)).push
  obtain ⟨e1, h2⟩ := h.more (t := two js.length ++ js.flatMap two) s2' (b1.trans (b2.trans Sib.push)) (.tab (cs.length : Int) js) ⟨by omega, by omega, hmj, At.new⟩
  refine ⟨by rw [vw_loc e1]; rfl, Nat.le_of_ble_eq_true rfl, (cs ++ (two js.length ++ js.flatMap two)).length, by show some (iD cs ++ iD (two js.length ++ js.flatMap two)).length = _; rw [← iD_app, List.length_map], Nat.le_of_ble_eq_true rfl, _, e1, ?_, ?_⟩
  · rw [List.length_map]; exact Nat.lt_of_lt_of_le (show es.length < 61 by omega) (by decide)
  have := q (some (.int (cs.length : Int))) (some (.lst (iD js))) _ _ _ h2 (by rw [List.length_append, List.length_append, hf, len_two]; omega) (by simp)
  rw [iD_app] at this
  have ed : En.d (.tab (cs.length : Int) js) = .tup [.int (cs.length : Int), .tup [.str "table", .lst (iD js)], .non, .int ((cs ++ (two js.length ++ js.flatMap two)).length : Nat)] := by
    show D.tup [.int (cs.length : Int), _, _, .int _] = _
    rw [List.length_append (as := cs)]; push_cast; rfl
  rw [ed] at this
  exact this
theorem law_loop {d0 : Option D} {st : Ms → Prop} (hst : ∀ M, st M) {E : DEnds} (q : ∀ δ M, E.nx δ M) : ∀ (xs : List Int) (x1 x2 x3 x4 x5 x6 x7 x8 x9 x10 : Option D) (M : Ms), forD (dgName 1) (lawBody P_source P_next P_row (cl P_cells) P_number P_cells_of P_all_read) st E (iD xs) [d0, x1, x2, x3, x4, x5, x6, x7, x8, x9, x10] M
  | [], x1, x2, x3, x4, x5, x6, x7, x8, x9, x10, M => q _ _
  | i :: xs, x1, x2, x3, x4, x5, x6, x7, x8, x9, x10, M => by
    have hs0 : Src (M ++ [some (.lst [.int (i / 2), .int (i % 2), .int 0, .int i])]) M.length 0 := ⟨i / 2, i % 2, 0, i, by simp, Int.le_refl _, Int.le_refl _⟩
    refine ⟨M.length, 200, 0, rfl, by decide, by decide, hs0, by decide, fun r M1 r0 r1 s1 b1 => ?_⟩
    refine ⟨⟨by omega, by omega⟩, True.intro, ?_⟩
    refine comp_next (rngD 0 r.toNat) [] M1 (0 + 1) s1 (by simp [rngD]; omega) (by simp [rngD]; omega) fun is M2 l2 s2 b2 => ?_
    have hl : is.length ≤ 200 := by rw [l2]; simp [rngD]; omega
    have s2' : Src M2 M.length 300 := s2.le (by simp [rngD]; omega)
    refine ⟨Nat.le_of_ble_eq_true rfl, ?_⟩
    have hk : M.length < M2.length := s2.lt
    have I0 : Inv2 M.length M2.length 300 (M2 ++ [some (.lst [])]) is [] := ⟨s2'.push, by simp, by omega, fun e he => by cases he⟩
    refine ⟨M.length, 5, 300, rfl, by decide, by decide, I0.s, by decide, fun r' M3 r0' r1' s3 b3 => ?_⟩
    have I1 : Inv2 M.length M2.length 301 M3 is [] := ⟨s3, (b3.2 M2.length I0.jl I0.ne).trans I0.l, I0.ne, I0.ok⟩
    refine ⟨⟨by omega, by omega⟩, True.intro, ?_⟩
    refine row_loop (k := M.length) (j := M2.length) (N := 400) (B := 250) (C := 10) (fun _ => True.intro) (by decide) (by decide) (by decide) ?_ (rngD 0 (1 + r').toNat) M3 301 is [] _ _ _ _ I1 (by simp [rngD]; omega) (by simp [rngD]; omega) (by simp [rngD]; omega)
    intro y5 y6 y7 y8 M4 n4 cs es I4 hn4 hc4 he4
    refine ⟨Nat.le_of_ble_eq_true rfl, _, rfl, rfl, ?_⟩
    refine nums_data (x10 := _) I4 (by omega) (by omega) (by omega) fun z6 z10 M5 cs5 es5 I5 hc5 he5 => ⟨rfl, ?_⟩
    refine tab_data (x10 := _) I5 (by omega) (by omega) (by omega) fun w6 w10 M6 cs6 es6 I6 hc6 he6 => ⟨rfl, ?_⟩
    refine ⟨M.length, 3, _, rfl, by decide, by decide, I6.s, by omega, fun r7 M7 r70 r71 s7 b7 => ?_⟩
    refine ⟨⟨by omega, by omega⟩, True.intro, ?_⟩
    refine comp_next (rngD 0 r7.toNat) [] M7 _ s7 (by simp [rngD]; omega) (by simp [rngD]; omega) fun js M8 l8 s8 b8 => ?_
    have hlj : js.length ≤ 3 := by rw [l8]; simp [rngD]; omega
    refine ⟨?_, ?_⟩
    · rw [List.length_map]; show cs6.length + ([] ++ iD js).length ≤ _; rw [List.nil_append, List.length_map]; exact Nat.le_trans (show cs6.length + js.length ≤ 500 by omega) (by decide)
    have bb := b7.trans b8
    refine ⟨cs6 ++ js, M2.length, es6, ?_, (bb.2 M2.length I6.jl I6.ne).trans I6.l, fun e he => (I6.ok e he).app, fun M9 => ?_⟩
    · show [D.lst (iD cs6 ++ ([] ++ iD js)), .loc M2.length] = _
      rw [List.nil_append, iD_app]
    exact ⟨hst _, law_loop hst q xs _ _ _ _ _ _ _ _ _ _ _⟩
def P_law : GP := fun ds Q => ∃ ns : List Int, ds = [.scr ns] ∧ Q (.bl true)
theorem cut_20 {xs : List D} : cutD xs none (some 20) = xs.take 20 := by
  show cutD xs none (some ((20 : Nat) : Int)) = _
  unfold cutD
  rw [HT.sIx_nat, HT.sIx_none]
  simp
theorem sp_law : ∀ ds Q, P_law ds Q → fnC 11 1 (t_law P_source P_next P_row (cl P_cells) P_number P_cells_of P_all_read) ds Q := fun ds Q ⟨ns, h, q⟩ => by
  subst h
  refine ⟨rfl, ?_⟩
  refine ⟨Nat.le_of_ble_eq_true rfl, ?_, ?_⟩
  · rw [cut_20]; simp; exact Nat.le_trans (show min 20 ns.length + 1 ≤ 21 by omega) (by decide)
  refine ⟨iD (ns.take 20 ++ [0]), ?_, rfl, ?_⟩
  · show some (cutD (ns.map D.int) none (some 20) ++ [D.int 0]) = _
    rw [cut_20]; simp
  refine law_loop (fun M => rfl) ?_ _ _ _ _ _ _ _ _ _ _ _ _
  exact fun δ M => ⟨rfl, q⟩
end K22
set_option Elab.async false
set_option linter.all false
set_option maxRecDepth 100000
set_option maxHeartbeats 4000000
namespace L3
open PySem PySem.Spec L2
mutual
def conB (K : PySem.W.Frag) : Nat → D → Value → Bool
  | _, .non, .none => true
  | _, .bl b, .bool c => b == c
  | _, .int i, .int j _ => i == j
  | _, .str x, .str y _ => x == y
  | n + 1, .tup ds, .ref a => match K.lookup a with
    | some o => match o.cls, o.data with
      | .type t, .seq us _ => t == "tuple" && Nat.ble us.size 1000 && conBs K n ds us.toList
      | _, _ => false
    | none => false
  | _, _, _ => false
def conBs (K : PySem.W.Frag) : Nat → List D → List Value → Bool
  | _, [], [] => true
  | n, d :: ds, u :: us => conB K n d u && conBs K n ds us
  | _, _, _ => false
end
theorem conBs_ok {K : PySem.W.Frag} {n : Nat} (ih : ∀ d u, conB K n d u = true → conK K d u) : ∀ (ds : List D) (us : List Value), conBs K n ds us = true → ∃ vs, Vals vs us ∧ ∀ α H, Reps K α H ds vs
  | [], [], _ => ⟨[], .nil, fun _ _ => Reps.nil⟩
  | d :: ds, u :: us, h => by
    unfold conBs at h
    rw [Bool.and_eq_true] at h
    obtain ⟨v, r, rr⟩ := ih d u h.1
    obtain ⟨vs, rz, rrz⟩ := conBs_ok ih ds us h.2
    exact ⟨v :: vs, .cons r rz, fun α H => Reps.cons (rr α H) (rrz α H)⟩
  | [], _ :: _, h => by unfold conBs at h; cases h
  | _ :: _, [], h => by unfold conBs at h; cases h
theorem conB_ok {K : PySem.W.Frag} : ∀ (n : Nat) (d : D) (u : Value), conB K n d u = true → conK K d u := fun n => by
  induction n with
  | zero =>
    intro d u h
    unfold conB at h
    split at h
    · exact ⟨.non, rfl, fun _ _ => rep_non⟩
    · cases beq_iff_eq.mp h; exact ⟨.bl _, rfl, fun _ _ => rep_bl⟩
    · cases beq_iff_eq.mp h; exact ⟨.int _, ⟨_, rfl⟩, fun _ _ => rep_int⟩
    · cases beq_iff_eq.mp h; exact ⟨.str _, ⟨_, rfl⟩, fun _ _ => rep_str⟩
    · rename_i n' ds a e; cases e
    · cases h
  | succ n ih =>
    intro d u h
    unfold conB at h
    split at h
    · exact ⟨.non, rfl, fun _ _ => rep_non⟩
    · cases beq_iff_eq.mp h; exact ⟨.bl _, rfl, fun _ _ => rep_bl⟩
    · cases beq_iff_eq.mp h; exact ⟨.int _, ⟨_, rfl⟩, fun _ _ => rep_int⟩
    · cases beq_iff_eq.mp h; exact ⟨.str _, ⟨_, rfl⟩, fun _ _ => rep_str⟩
    · rename_i n' ds a e
      cases e
      split at h
      · rename_i o ho
        split at h
        · rename_i t us z hc hd
          rw [Bool.and_eq_true, Bool.and_eq_true] at h
          obtain ⟨⟨h1, h2⟩, h3⟩ := h
          obtain ⟨vs, rv, rr⟩ := conBs_ok ih ds us.toList h3
          refine ⟨.ref a, rfl, fun α H => ?_⟩
          unfold Rep
          exact ⟨a, vs, rfl, .inr ⟨o, us, z, ho, by rw [hc, beq_iff_eq.mp h1], hd, Nat.le_trans (Nat.le_of_ble_eq_true h2) (by decide), rv⟩, rr α H⟩
        · cases h
      · cases h
    · cases h
end L3
namespace K22
open PySem PySem.Spec L2 L3
theorem all_mk {l : PySem.W.OpenLaw} {w : World} {K : PySem.W.Frag} {h : Heap} {mg : Str → Option Value} {fa : Addr} (X : K.In h) (G : h.Ns mainGlobals mg) (hfa : mg "law" = some (.ref fa))
    {cC cF : Addr} (n1 : PySem.W.nsIn K mainGlobals "CODES" = some (some (.ref cC))) (cc : conB K 2 d_CODES (.ref cC) = true) (n2 : PySem.W.nsIn K mainGlobals "FIRST_CELLS" = some (some (.ref cF))) (cg : conB K 2 d_FIRST_CELLS (.ref cF) = true)
    {t1 t2 : Tok} (i1 : PySem.W.nsIn K mainGlobals "GREATEST_NUMBER" = some (some (.int 2147483647 t1))) (i2 : PySem.W.nsIn K mainGlobals "LAST_PLACE" = some (some (.int 65535 t2)))
    (z1 : PySem.W.nsIn K mainGlobals "divmod" = some none) (z2 : PySem.W.nsIn K mainGlobals "len" = some none) (z3 : PySem.W.nsIn K mainGlobals "isinstance" = some none) (z4 : PySem.W.nsIn K mainGlobals "list" = some none) (z5 : PySem.W.nsIn K mainGlobals "tuple" = some none) (z6 : PySem.W.nsIn K mainGlobals "bool" = some none) (z7 : PySem.W.nsIn K mainGlobals "range" = some none)
    (d1 : DefAt K mg "place_cells" s_place_cells) (d2 : DefAt K mg "number_cells" s_number_cells) (d3 : DefAt K mg "joined" s_joined) (d4 : DefAt K mg "box_number" s_box_number) (d5 : DefAt K mg "code_for" s_code_for) (d6 : DefAt K mg "code_cells" s_code_cells) (d7 : DefAt K mg "cells_of" s_cells_of) (d8 : DefAt K mg "place_at" s_place_at) (d9 : DefAt K mg "number_at" s_number_at) (d10 : DefAt K mg "step_at" s_step_at) (d11 : DefAt K mg "boxes_in" s_boxes_in) (d12 : DefAt K mg "code_from" s_code_from) (d13 : DefAt K mg "told_behind" s_told_behind) (d14 : DefAt K mg "read_code" s_read_code) (d15 : DefAt K mg "behind_list" s_behind_list) (d16 : DefAt K mg "read_numbers" s_read_numbers) (d17 : DefAt K mg "read_table" s_read_table) (d18 : DefAt K mg "_law_mixed" s_law_mixed) (d19 : DefAt K mg "_law_next" s_law_next) (d20 : DefAt K mg "_law_source" s_law_source) (d21 : DefAt K mg "_law_number" s_law_number) (d22 : DefAt K mg "_law_place" s_law_place) (d23 : DefAt K mg "_law_row" s_law_row) (d24 : DefAt K mg "_law_two" s_law_two) (d25 : DefAt K mg "_law_four" s_law_four) (d26 : DefAt K mg "_law_cells" s_law_cells) (d27 : DefAt K mg "_law_told" s_law_told) (d28 : DefAt K mg "_law_all_read" s_law_all_read) (d29 : DefAt K mg "law" s_law) :
    ∃ fd : FuncData, (∀ (s : Shared) (v : Value), BindsTo s fd ⟨[v], []⟩ [("_law_script", v)]) ∧ ∀ base : Heap, K.In base → base.Ns mainGlobals mg → FnOk l.prog w K mg base CX0 6 fa fd ["_law_script"] (lSp K (cl P_law)) := by
  obtain ⟨f, fd, F, m⟩ := id d29
  have e := hfa.symm.trans m
  cases e
  have z1 := PySem.W.mg_none_of X G z1
  have z2 := PySem.W.mg_none_of X G z2
  have z3 := PySem.W.mg_none_of X G z3
  have z4 := PySem.W.mg_none_of X G z4
  have z5 := PySem.W.mg_none_of X G z5
  have z6 := PySem.W.mg_none_of X G z6
  have z7 := PySem.W.mg_none_of X G z7
  have n1 : ∃ u, mg "CODES" = some u ∧ conK K d_CODES u := ⟨_, PySem.W.mg_of X G n1, conB_ok 2 _ _ cc⟩
  have n2 : ∃ u, mg "FIRST_CELLS" = some u ∧ conK K d_FIRST_CELLS u := ⟨_, PySem.W.mg_of X G n2, conB_ok 2 _ _ cg⟩
  have i1 : ∃ t, mg "GREATEST_NUMBER" = some (.int 2147483647 t) := ⟨_, PySem.W.mg_of X G i1⟩
  have i2 : ∃ t, mg "LAST_PLACE" = some (.int 65535 t) := ⟨_, PySem.W.mg_of X G i2⟩
  refine ⟨fd, F.binds1 fun _ _ _ _ _ _ _ => rfl, fun base _ _ => ?_⟩
  have hPc : ∀ j, HasD l.prog w K mg base (j + 1) "place_cells" ["place"] (cl P_two) := fun j => hasP (o_place_cells d1) P_two_mono sp_place_cells
  have hNc : ∀ j, HasD l.prog w K mg base (j + 2) "number_cells" ["number"] (cl P_four) := fun j => hasP (o_number_cells d2 z1 (hPc j)) P_four_mono sp_number_cells
  have hJo : ∀ j, HasD l.prog w K mg base (j + 1) "joined" ["lists"] (cl P_joined) := fun j => hasP (o_joined d3) P_joined_mono sp_joined
  have hBo : ∀ j, HasD l.prog w K mg base (j + 1) "box_number" ["boxes"] (cl P_box) := fun j => hasP (o_box_number d4) P_box_mono sp_box
  have hCf : ∀ j, HasD l.prog w K mg base (j + 1) "code_for" ["kind", "near"] (cl P_code_for) := fun j => hasP (o_code_for d5 n1) P_code_for_mono sp_code_for
  have hCc : ∀ j, HasD l.prog w K mg base (j + 3) "code_cells" ["row", "at", "near"] P_code_cells := fun j => hasM (o_code_cells (k := j + 2) d6 (hCf (j + 1)) (hBo (j + 1)) (hNc j) (hJo (j + 1)) (hPc (j + 1))) P_code_cells_mono sp_code_cells
  have hCo : ∀ j, HasD l.prog w K mg base (j + 4) "cells_of" ["row", "at", "near"] P_cells_of := fun j => hasM (o_cells_of (k := j + 3) d7 (hPc (j + 2)) z2 (hJo (j + 2)) (hNc (j + 1)) (hCc j)) P_cells_of_mono sp_cells_of
  have hPa : ∀ j, HasD l.prog w K mg base (j + 1) "place_at" ["cells", "at"] (cl P_place_at) := fun j => hasP (o_place_at d8) P_place_at_mono sp_place_at
  have hNa : ∀ j, HasD l.prog w K mg base (j + 2) "number_at" ["cells", "at"] (cl P_number_at) := fun j => hasP (o_number_at d9 (hPa j) i1) P_number_at_mono sp_number_at
  have hSa : ∀ j, HasD l.prog w K mg base (j + 1) "step_at" ["cells", "at"] (cl P_step_at) := fun j => hasP (o_step_at d10) P_step_at_mono sp_step_at
  have hBi : ∀ j, HasD l.prog w K mg base (j + 1) "boxes_in" ["number", "count"] (cl P_boxes_in) := fun j => hasP (o_boxes_in d11) P_boxes_in_mono sp_boxes_in
  have hCr : ∀ j, HasD l.prog w K mg base (j + 1) "code_from" ["cell"] (cl P_code_from) := fun j => hasP (o_code_from d12 n1 n2) P_code_from_mono sp_code_from
  have hTb : ∀ j, HasD l.prog w K mg base (j + 3) "told_behind" ["code", "cells", "at"] (cl P_told_behind) := fun j => hasP (o_told_behind d13 (hNa j) (hSa (j + 1)) z5 z7 (hPa (j + 1))) P_told_behind_mono sp_told_behind
  have hRc : HasD l.prog w K mg base 4 "read_code" ["cells", "at"] (cl P_read_code) := hasP (o_read_code (k := 3) d14 z2 (hCr 2) (hBi 2) (hTb 0) i2) P_read_code_mono sp_read_code
  have hBl : ∀ j, HasD l.prog w K mg base (j + 2) "behind_list" ["cells", "at", "cells_for_one"] (cl P_behind) := fun j => hasP (o_behind_list d15 z2 (hPa j)) P_behind_mono sp_behind
  have hRn : ∀ j, HasD l.prog w K mg base (j + 3) "read_numbers" ["cells", "at"] P_read_numbers := fun j => hasM (o_read_numbers d16 (hBl j) z7 (hNa j)) P_read_numbers_mono sp_read_numbers
  have hRt : ∀ j, HasD l.prog w K mg base (j + 3) "read_table" ["cells", "at"] P_read_table := fun j => hasM (o_read_table d17 (hBl j) z7 (hPa (j + 1))) P_read_table_mono sp_read_table
  have hMi : ∀ j, HasD l.prog w K mg base (j + 1) "_law_mixed" ["_law_draw", "_law_k"] (cl P_mixed) := fun j => hasP (o_law_mixed d18) P_mixed_mono sp_mixed
  have hNx : ∀ j, HasD l.prog w K mg base (j + 2) "_law_next" ["_law_source_here", "_law_many"] P_next := fun j => hasM (o_law_next d19 (hMi j)) P_next_mono sp_next
  have hSo : ∀ j, HasD l.prog w K mg base (j + 1) "_law_source" ["_law_draw"] P_source := fun j => hasM (o_law_source d20) P_source_mono sp_source
  have hNu : ∀ j, HasD l.prog w K mg base (j + 3) "_law_number" ["_law_source_here"] P_number := fun j => hasM (o_law_number d21 (hNx j)) P_number_mono sp_number
  have hPl : ∀ j, HasD l.prog w K mg base (j + 3) "_law_place" ["_law_source_here"] P_place := fun j => hasM (o_law_place d22 (hNx j)) P_place_mono sp_place
  have hRo : ∀ j, HasD l.prog w K mg base (j + 4) "_law_row" ["_law_source_here", "_law_at"] P_row := fun j => hasM (o_law_row d23 (hNx (j + 1)) (hNu j) (hPl j)) P_row_mono sp_row
  have hTw : ∀ j, HasD l.prog w K mg base (j + 1) "_law_two" ["_law_number_here"] (cl P_two) := fun j => hasP (o_law_two d24) P_two_mono sp_two
  have hFo : ∀ j, HasD l.prog w K mg base (j + 2) "_law_four" ["_law_number_here"] (cl P_four) := fun j => hasP (o_law_four d25 (hTw j)) P_four_mono sp_four
  have hCe : ∀ j, HasD l.prog w K mg base (j + 3) "_law_cells" ["_law_row_here", "_law_at", "_law_near"] (cl P_cells) := fun j => hasP (o_law_cells d26 (hFo j) (hTw (j + 1))) P_cells_mono sp_cells
  have hTo : ∀ j, HasD l.prog w K mg base (j + 1) "_law_told" ["_law_found", "_law_many"] P_told := fun j => hasM (o_law_told d27 z3 z5 z2) P_told_mono sp_told
  have hAl : HasD l.prog w K mg base 5 "_law_all_read" ["_law_cells_here", "_law_laid_rows"] P_all_read := hasM (o_law_all_read (k := 4) d28 z4 (hRt 1) (hRn 1) (hTo 3) z3 (hCo 0) hRc z6 z5) P_all_read_mono sp_all_read
  have hL := funC F b_law.2 c_law.2 sc_law (fun cdv A outer s H E hr => j_law (P := l.prog) (w := w) (base := base) (hSo 4) z7 (hNx 3) z2 (hRo 1) (hCe 2) (hNu 2) (hCo 1) z4 hAl fa cdv A outer s H E hr)
  exact hL.imp fun vs H Q E ⟨F, α, M, ds, o, r, n, q⟩ => ⟨F, α, M, ds, o, r, n, sp_law _ _ q⟩
theorem walk {l : PySem.W.OpenLaw} {q : Program} {loose : List Str} {XP : (Str → Option Value) → Heap → Prop} {YP : World → Heap → Prop} {d : DefRec} {K : Params → PySem.W.Frag} (hn : l.most = some 63) (hdf : d.params.defaults = [])
    (hY : ∀ (w : World) (h : Heap), YP w h → (K w.params).In h)
    (F : ∀ (w : World) (mg : Str → Option Value) (fa : Addr) (h : Heap), (K w.params).In h → h.Ns mainGlobals mg → mg d.name = some (.ref fa) →
      ∃ fd : FuncData, (∀ (s : Shared) (u : Value), BindsTo s fd ⟨[u], []⟩ [("_law_script", u)]) ∧ ∀ base : Heap, (K w.params).In base → base.Ns mainGlobals mg → FnOk l.prog w (K w.params) mg base CX0 6 fa fd ["_law_script"] (lSp (K w.params) (cl P_law))) :
    PySem.W.WalkO q loose XP YP l.row.toRowW d [] (fun f vs => PySem.call f vs) :=
  L2.walk_of (n := 63) (k := 6) (x := "_law_script") (CX := fun _ => CX0) (sp := fun w => lSp (K w.params) (cl P_law)) hn (by decide) hdf ⟨rfl, by decide, by decide⟩ hY F (fun w H a ns hl _ hS => ⟨[], [], [], [.scr ns], ok_nil, by
    refine Reps.one ?_
    unfold Rep
    refine ⟨a, rfl, ?_⟩
    show SqL _ (hide ([] ++ []) H) a _
    rw [List.append_nil, hide_nil]
    exact hS, rfl, ns, rfl, fun v α' H' e o r => by unfold Rep at r; exact r⟩) fun _ _ _ _ _ z => z
end K22
set_option Elab.async false
set_option linter.all false
open PySem PySem.W PyProof.Rows
local macro_rules | `(tactic| walk_at "k_def") => `(tactic| (refine' L2.defAt_mk (by assumption) (by assumption) ?a ?l ?c ?k; (case a => k_is); (case l => k_is); (case c => k_is); (case k => k_is)))
def PySem.W.Fast.tw6231581693330985475 : Nat := 0
def PySem.W.Fast.tw1851986687410367333 : Nat := 0
def PySem.W.Fast.tw18158879000032364934 : Nat := 0
def PySem.W.Fast.tw1869071134503469065 : Nat := 0
def PySem.W.Fast.tw9541530188037058609 : Nat := 0
def PySem.W.Fast.tw10734553739830333465 : Nat := 0
def PySem.W.Fast.tw13657900471510655514 : Nat := 0
def PySem.W.Fast.tw15737817482267294843 : Nat := 0
def PySem.W.Fast.tw2705430343440501567 : Nat := 0
set_option maxRecDepth 100000 in
set_option maxHeartbeats 0 in
theorem PySem.Challenge.cw_farjump_k22_cells_read_back_holds : PySem.Challenge.rw_farjump_k22_cells_read_back.Holds := by
  w_on; o_law; k_head; (case hw => w_witness2)
  k_fill
  refine K22.walk (l := PySem.Challenge.rw_farjump_k22_cells_read_back) rfl rfl (fun w h Y => PySem.W.kIn_of Y) ?F
  case F =>
    intro w mg fa h KX G hmg
    refine' K22.all_mk KX G hmg ?n1 ?cc ?n2 ?cg ?i1 ?i2 ?z1 ?z2 ?z3 ?z4 ?z5 ?z6 ?z7 ?d1 ?d2 ?d3 ?d4 ?d5 ?d6 ?d7 ?d8 ?d9 ?d10 ?d11 ?d12 ?d13 ?d14 ?d15 ?d16 ?d17 ?d18 ?d19 ?d20 ?d21 ?d22 ?d23 ?d24 ?d25 ?d26 ?d27 ?d28 ?d29
    (case n1 => k_is); (case n2 => k_is); (case i1 => k_is); (case i2 => k_is)
    (case z1 => k_is); (case z2 => k_is); (case z3 => k_is); (case z4 => k_is); (case z5 => k_is); (case z6 => k_is); (case z7 => k_is)
    (case d1 => walk_at "k_def"); (case d2 => walk_at "k_def"); (case d3 => walk_at "k_def"); (case d4 => walk_at "k_def"); (case d5 => walk_at "k_def"); (case d6 => walk_at "k_def"); (case d7 => walk_at "k_def"); (case d8 => walk_at "k_def"); (case d9 => walk_at "k_def"); (case d10 => walk_at "k_def"); (case d11 => walk_at "k_def"); (case d12 => walk_at "k_def"); (case d13 => walk_at "k_def"); (case d14 => walk_at "k_def"); (case d15 => walk_at "k_def"); (case d16 => walk_at "k_def"); (case d17 => walk_at "k_def"); (case d18 => walk_at "k_def"); (case d19 => walk_at "k_def"); (case d20 => walk_at "k_def"); (case d21 => walk_at "k_def"); (case d22 => walk_at "k_def"); (case d23 => walk_at "k_def"); (case d24 => walk_at "k_def"); (case d25 => walk_at "k_def"); (case d26 => walk_at "k_def"); (case d27 => walk_at "k_def"); (case d28 => walk_at "k_def"); (case d29 => walk_at "k_def")
    (case cc => kernel_rfl); (case cg => kernel_rfl)
#print axioms PySem.Challenge.cw_farjump_k22_cells_read_back_holds
