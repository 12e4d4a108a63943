import PyProof.Rows.All
import Wide.All
import OpenK.AllK
import Wide.FinOn
import Lean
import PyProof.EqAt
import PyProof.EqKinds
import PyProof.TupleCall
import PySem.Challenge.RW_shortrows_k24_reach_or_not
set_option Elab.async false
set_option linter.all false
set_option maxRecDepth 100000
set_option maxHeartbeats 4000000
set_option Elab.async false
set_option linter.all false
set_option maxRecDepth 100000
set_option genSizeOfSpec false
namespace L2
theorem aRfl (h : True = True := by rfl) : True := trivial
theorem aDec (h : True := by decide) : True := trivial
theorem aLoc (h : True := by first | exact .inl rfl | exact .inr rfl | assumption) : True := trivial
end L2
namespace L2
open PySem PySem.Spec PyProof.Rows

/-- a key: an int or a str -/
noncomputable abbrev Key := Sum Int Str
noncomputable def keyIs : Key → Value → Bool
  | .inl k, v => Value.isInt k v
  | .inr x, v => Value.isStrOf x v
noncomputable def keyH (w : World) : Key → Int
  | .inl k => hashInt k
  | .inr x => hashStr w x
theorem keyIs_shape : ∀ {k : Key} {v : Value}, keyIs k v = true → (∃ i t, k = Sum.inl i ∧ v = Value.int i t) ∨ (∃ x t, k = Sum.inr x ∧ v = Value.str x t)
  | .inl i, v, h => by
    obtain ⟨t, e⟩ := Value.isInt_shape (k := i) (v := v) h
    exact .inl ⟨i, t, rfl, e⟩
  | .inr x, v, h => by
    obtain ⟨t, e⟩ := Value.isStrOf_shape (x := x) (v := v) h
    exact .inr ⟨x, t, rfl, e⟩
theorem key_ll (a b : Int) : decide ((Sum.inl a : Key) = Sum.inl b) = (a == b) := by
  by_cases e : a = b
  · subst e; simp
  · have h : ¬ (Sum.inl a : Key) = Sum.inl b := fun q => e (Sum.inl.inj q)
    rw [decide_eq_false h]
    exact (beq_eq_false_iff_ne.mpr e).symm
theorem key_rr (a b : Str) : decide ((Sum.inr a : Key) = Sum.inr b) = decide (a = b) := by
  by_cases e : a = b
  · subst e; simp
  · have h : ¬ (Sum.inr a : Key) = Sum.inr b := fun q => e (Sum.inr.inj q)
    rw [decide_eq_false h, decide_eq_false e]
theorem key_lr (a : Int) (b : Str) : decide ((Sum.inl a : Key) = Sum.inr b) = false := decide_eq_false (fun q => nomatch q)
theorem key_rl (a : Str) (b : Int) : decide ((Sum.inr a : Key) = Sum.inl b) = false := decide_eq_false (fun q => nomatch q)

noncomputable def mixKind (prog : Program) (w : World) : PySem.KeyKind prog w Key where
  is := keyIs
  hash := keyH w
  inj := fun v a b ha hb => by
    rcases keyIs_shape ha with ⟨i, t, rfl, rfl⟩ | ⟨x, t, rfl, rfl⟩
    · rcases keyIs_shape hb with ⟨j, u, rfl, e⟩ | ⟨y, u, rfl, e⟩
      · injection e with e1 _; rw [e1]
      · exact nomatch e
    · rcases keyIs_shape hb with ⟨j, u, rfl, e⟩ | ⟨y, u, rfl, e⟩
      · exact nomatch e
      · injection e with e1 _; rw [e1]
  byValue := fun k v h => by
    rcases keyIs_shape h with ⟨i, t, rfl, rfl⟩ | ⟨x, t, rfl, rfl⟩ <;> rfl
  pyHash := fun hv h => by
    rcases keyIs_shape hv with ⟨i, t, rfl, rfl⟩ | ⟨x, t, rfl, rfl⟩
    · exact wpAny_pyHash_int h
    · exact wpAny_pyHash_str h
  eqBool := fun hu hv h => by
    rcases keyIs_shape hu with ⟨i, t, rfl, rfl⟩ | ⟨x, t, rfl, rfl⟩
    · rcases keyIs_shape hv with ⟨j, u, rfl, rfl⟩ | ⟨y, u, rfl, rfl⟩
      · rw [key_ll] at h; exact wpAny_eqBool_int h
      · rw [key_lr] at h; exact SeqAt.EqAt.int_str i t y u _ _ _ _ h
    · rcases keyIs_shape hv with ⟨j, u, rfl, rfl⟩ | ⟨y, u, rfl, rfl⟩
      · rw [key_rl] at h; exact SeqAt.EqAt.str_int x t j u _ _ _ _ h
      · rw [key_rr] at h; exact wpAny_eqBool_str h
  «strs» := fun k x t v h => by
    rcases keyIs_shape h with ⟨i, u, rfl, e⟩ | ⟨y, u, rfl, e⟩
    · exact nomatch e
    · injection e with e1 _
      subst e1
      cases v <;> rfl

end L2

namespace L2
open PySem PySem.Spec PyProof.Rows

/-- a value, without the heap -/
inductive V where
  | non | bl (b : Bool) | int (i : Int) | str (x : Str) | byt (b : Array UInt8) | flt (b : UInt64) | ref (a : Addr) | ty (n : String)
  deriving DecidableEq

noncomputable def RelV : V → Value → Prop
  | .non, u => u = Value.none
  | .bl b, u => u = Value.bool b
  | .int i, u => ∃ t, u = Value.int i t
  | .str x, u => ∃ t, u = Value.str x t
  | .byt b, u => ∃ t, u = Value.bytes b t
  | .flt b, u => ∃ t, u = Value.float b t
  | .ref a, u => u = Value.ref a
  | .ty n, u => u = Value.type n

noncomputable abbrev Vals : List V → List Value → Prop := Paired RelV
theorem Vals.length {xs : List V} {us : List Value} (r : Vals xs us) : xs.length = us.length := Paired.length r
theorem Vals.get : ∀ {xs : List V} {us : List Value} {i : Nat} {x : V}, Vals xs us → xs[i]? = some x → ∃ u, us[i]? = some u ∧ RelV x u
  | _, _, _, _, .nil, e => by simp at e
  | _, _, 0, _, .cons r _, e => by simp at e; subst e; exact ⟨_, rfl, r⟩
  | _, _, i + 1, x, .cons _ t, e => by
    obtain ⟨u, h1, h2⟩ := Vals.get (i := i) (x := x) t (by simpa using e)
    exact ⟨u, by simpa using h1, h2⟩
theorem Vals.set {x : V} {u : Value} (r : RelV x u) : ∀ {xs : List V} {us : List Value} (i : Nat), Vals xs us → Vals (xs.set i x) (us.set i u)
  | _, _, _, .nil => .nil
  | _, _, 0, .cons _ t => .cons r t
  | _, _, i + 1, .cons q t => .cons q (Vals.set r i t)
theorem Vals.append : ∀ {xs ys : List V} {us ws : List Value}, Vals xs us → Vals ys ws → Vals (xs ++ ys) (us ++ ws)
  | _, _, _, _, .nil, s => s
  | _, _, _, _, .cons r t, s => .cons r (Vals.append t s)
theorem Vals.take : ∀ {xs : List V} {us : List Value} (n : Nat), Vals xs us → Vals (xs.take n) (us.take n)
  | _, _, 0, _ => .nil
  | _, _, _ + 1, .nil => .nil
  | _, _, n + 1, .cons r t => .cons r (Vals.take n t)
theorem Vals.drop : ∀ {xs : List V} {us : List Value} (n : Nat), Vals xs us → Vals (xs.drop n) (us.drop n)
  | _, _, 0, r => r
  | _, _, _ + 1, .nil => .nil
  | _, _, n + 1, .cons _ t => Vals.drop n t
noncomputable def RelO : Option V → Option Value → Prop
  | some v, some u => RelV v u
  | none, none => True
  | _, _ => False
noncomputable def KV {κ : Type} : List (κ × V) → List (κ × Value) → Prop := Paired fun (p : κ × V) (q : κ × Value) => p.1 = q.1 ∧ RelV p.2 q.2

/-- a key of a dict (00_mix): an int or a text -/
noncomputable def kV : Key → V
  | .inl i => .int i
  | .inr x => .str x

/-- what stands at a tracked address -/
inductive HO where
  /-- a list -/
  | lst (xs : List V)
  /-- a tuple (never changes) -/
  | tup (xs : List V)
  /-- a dict whose keys are ints and texts; one whose keys are tuples of ints and texts (the empty one is both) -/
  | dK (kvs : List (Key × V)) | dT (kvs : List (List Key × V))
  /-- a set of ints: its members, its size -/
  | set (S : Int → Bool) (n : Nat)
  /-- an instance of the class at C, its dict at dx, its attributes -/
  | ins (C dx : Addr) (fs : List (Str × V))
  /-- the dict of the instance at x -/
  | own (x : Addr)
  /-- the dict of an exception -/
  | xd (fs : List (Str × V))
  /-- a bound method, f of x -/
  | met (f x : Addr)
  /-- a range object lo, lo + 1, .. below hi -/
  | rng (lo hi : Int)
  /-- a thing that is known to the object (the script; a dict while a loop walks it): read, never written while it is so -/
  | frz (o : Obj) (u : HO)
  /-- a code object's table -/
  | tbl (ps : Array Value)
  /-- any other thing, by what is true of its one object (a def of one's own: SetO a S n := HO.ext fun h => ..) -/
  | ext (φ : Heap → Prop)

noncomputable abbrev Hp := Addr → Option HO
noncomputable def upd (H : Hp) (a : Addr) (o : HO) : Hp := fun b => if b = a then some o else H b
theorem upd_same {H : Hp} {a : Addr} {o : HO} : upd H a o a = some o := by unfold upd; rw [if_pos rfl]
theorem upd_ne {H : Hp} {a b : Addr} {o : HO} (h : b ≠ a) : upd H a o b = H b := by unfold upd; rw [if_neg h]
theorem ne_of_none {H : Hp} {a b : Addr} {o : HO} (h : H a = some o) (h' : H b = none) : a ≠ b := by
  intro e; subst e; rw [h] at h'; cases h'

section
variable (P : Program) (w : World)
noncomputable def ObjOk (H : Hp) (h : Heap) (a : Addr) : HO → Prop
  | .lst xs => xs.length ≤ sizeLine ∧ ∃ (its : List Value) (n : Nat), Vals xs its ∧ h.get? a = some { cls := .type "list", data := .seq its.toArray n }
  | .tup xs => xs.length ≤ sizeLine ∧ ∃ its : List Value, Vals xs its ∧ IsTup h a its.toArray
  | .dK kvs => kvs.length ≤ sizeLine ∧ (a == sysModules) = false ∧ ∃ vs, KV kvs vs ∧ h.DictOf (mixKind P w) a vs
  | .dT kvs => kvs.length ≤ sizeLine ∧ (a == sysModules) = false ∧ ∃ xs : List (List Key × Addr × Value),
      Paired (fun (p : List Key × V) (q : List Key × Addr × Value) => p.1 = q.1 ∧ H q.2.1 = some (.tup (p.1.map kV)) ∧ RelV p.2 q.2.2) kvs xs ∧
      ∃ o es ep, h.get? a = some o ∧ o.ExactDict ∧ o.data = .dict es ep ∧ es.toList = xs.map (entryOfKey (tupleKind (mixKind P w))) ∧ (xs.map (·.1)).Nodup
  | .set S n => h.SetOf (intKind P w) a S n
  | .ins C dx fs => H dx = some (.own a) ∧ fs.length ≤ 1000 ∧ dx ≠ a ∧ h.get? a = some (PySem.W.instObj C dx) ∧
      ∃ mA, h.Ns1 dx mA ∧ (∀ f, RelO (fs.lookup f) (mA f)) ∧ PySem.Within mA (fs.map (·.1))
  | .own _ => ∃ o, h.get? a = some o
  | .xd fs => ∃ mA, h.Ns1 a mA ∧ ∀ f, RelO (fs.lookup f) (mA f)
  | .rng lo hi => ∃ t u v, h.get? a = some { cls := .type "range", data := .fields #[.int lo t, .int hi u, .int 1 v] }
  | .frz o u => h.get? a = some o ∧ ObjOk H h a u
  | .tbl ps => h.get? a = some { cls := .none, data := .fields ps }
  | .met f x => h.get? a = some (PySem.W.methodObj (.ref f) (.ref x))
  | .ext φ => φ h ∧ (∃ o, h.get? a = some o) ∧ ∀ h1 h2 : Heap, φ h1 → (∀ o, h1.get? a = some o → h2.get? a = some o) → φ h2
/-- the abstract heap is held -/
noncomputable def HOk (H : Hp) (h : Heap) : Prop := ∀ a o, H a = some o → ObjOk P w H h a o
end

section
variable {P : Program} {w : World} {H H' : Hp} {h h' : Heap} {a : Addr} {o : HO}
theorem ObjOk.lt (x : ObjOk P w H h a o) : a < h.objs.size := by
  cases o with
  | lst xs => obtain ⟨_, _, _, _, e⟩ := x; exact Heap.lt_size e
  | tup xs => obtain ⟨_, _, _, p⟩ := x; exact p.lt
  | dK kvs => obtain ⟨_, _, _, _, o, _, _, e, _⟩ := x; exact Heap.lt_size e
  | dT kvs => obtain ⟨_, _, _, _, o, _, _, e, _⟩ := x; exact Heap.lt_size e
  | set S n => obtain ⟨o, _, _, _, e, _⟩ := x; exact Heap.lt_size e
  | ins C dx fs => obtain ⟨_, _, _, e, _⟩ := x; exact Heap.lt_size e
  | own y => obtain ⟨_, e⟩ := x; exact Heap.lt_size e
  | xd fs => obtain ⟨_, ⟨_, _, _, e, _⟩, _⟩ := x; exact Heap.lt_size e
  | rng lo hi => obtain ⟨_, _, _, e⟩ := x; exact Heap.lt_size e
  | frz ob u => obtain ⟨e, _⟩ := x; exact Heap.lt_size e
  | tbl ps => exact Heap.lt_size (show h.get? a = some _ from x)
  | met f y => exact Heap.lt_size (show h.get? a = some _ from x)
  | ext φ => obtain ⟨_, ⟨_, e⟩, _⟩ := x; exact Heap.lt_size e
theorem Paired.mapP {α β : Type} {F G : α → β → Prop} : ∀ {l₁ : List α} {l₂ : List β}, Paired F l₁ l₂ → (∀ a b, F a b → G a b) → Paired G l₁ l₂
  | _, _, .nil, _ => .nil
  | _, _, .cons r t, f => .cons (f _ _ r) (Paired.mapP t f)
/-- what an object's description leans on: its own object, its own dict, the tuples -/
theorem ObjOk.stay (x : ObjOk P w H h a o) (k : ∀ b u, (b = a ∨ H b = some (.own a)) → h.get? b = some u → h'.get? b = some u)
    (ho : ∀ b, H b = some (.own a) → H' b = some (.own a)) (ht : ∀ b xs, H b = some (.tup xs) → H' b = some (.tup xs)) : ObjOk P w H' h' a o := by
  induction o with
  | lst xs => obtain ⟨z, its, n, r, e⟩ := x; exact ⟨z, its, n, r, k _ _ (.inl rfl) e⟩
  | tup xs => obtain ⟨z, its, r, ob, e, c⟩ := x; exact ⟨z, its, r, ob, k _ _ (.inl rfl) e, c⟩
  | dK kvs => obtain ⟨z, y, vs, r, ob, es, ep, e, c⟩ := x; exact ⟨z, y, vs, r, ob, es, ep, k _ _ (.inl rfl) e, c⟩
  | dT kvs =>
    obtain ⟨z, y, xs, r, ob, es, ep, e, c⟩ := x
    exact ⟨z, y, xs, Paired.mapP r fun p q z => ⟨z.1, ht _ _ z.2.1, z.2.2⟩, ob, es, ep, k _ _ (.inl rfl) e, c⟩
  | set S n => obtain ⟨ob, es, ep, t, e, c⟩ := x; exact ⟨ob, es, ep, t, k _ _ (.inl rfl) e, c⟩
  | ins C dx fs =>
    obtain ⟨d, z, ne, e, mA, ⟨od, es, ep, e2, c⟩, r⟩ := x
    exact ⟨ho _ d, z, ne, k _ _ (.inl rfl) e, mA, ⟨od, es, ep, k _ _ (.inr d) e2, c⟩, r⟩
  | own y => obtain ⟨ob, e⟩ := x; exact ⟨ob, k _ _ (.inl rfl) e⟩
  | xd fs => obtain ⟨mA, ⟨od, es, ep, e, c⟩, r⟩ := x; exact ⟨mA, ⟨od, es, ep, k _ _ (.inl rfl) e, c⟩, r⟩
  | rng lo hi => obtain ⟨t, u, v, e⟩ := x; exact ⟨t, u, v, k _ _ (.inl rfl) e⟩
  | frz ob u ih => obtain ⟨e, q⟩ := x; exact ⟨k _ _ (.inl rfl) e, ih q⟩
  | tbl ps =>
    have e : h.get? a = some { cls := .none, data := .fields ps } := x
    show h'.get? a = some { cls := .none, data := .fields ps }
    exact k a _ (.inl rfl) e
  | met f y =>
    have e : h.get? a = some (PySem.W.methodObj (.ref f) (.ref y)) := x
    show h'.get? a = some (PySem.W.methodObj (.ref f) (.ref y))
    exact k a _ (.inl rfl) e
  | ext φ => obtain ⟨p, ⟨o, e⟩, st⟩ := x; exact ⟨st _ _ p fun o q => k _ _ (.inl rfl) q, ⟨o, k _ _ (.inl rfl) e⟩, st⟩
theorem HOk.lt (x : HOk P w H h) (e : H a = some o) : a < h.objs.size := (x a o e).lt
theorem HOk.fresh (x : HOk P w H h) (e : h.objs.size ≤ a) : H a = none := by
  cases q : H a with
  | none => rfl
  | some u => exact absurd (Nat.lt_of_lt_of_le (x.lt q) e) (Nat.lt_irrefl _)
/-- every object of the heap is kept -/
theorem HOk.kept (x : HOk P w H h) (k : ∀ b u, h.get? b = some u → h'.get? b = some u) : HOk P w H h' := fun a o e =>
  (x a o e).stay (fun b u _ q => k b u q) (fun _ q => q) fun _ _ q => q
/-- a new object is laid and tracked -/
theorem HOk.laid (x : HOk P w H h) (k : ∀ b u, h.get? b = some u → h'.get? b = some u) (hp : h.objs.size ≤ a) (new : ObjOk P w (upd H a o) h' a o) : HOk P w (upd H a o) h' := fun b u e => by
  have hn := x.fresh hp
  by_cases hb : b = a
  · subst hb; rw [upd_same] at e; cases e; exact new
  · rw [upd_ne hb] at e
    exact (x b u e).stay (fun c v _ q => k c v q) (fun c q => by rw [upd_ne (ne_of_none q hn)]; exact q) fun c xs q => by rw [upd_ne (ne_of_none q hn)]; exact q
end

/-- what may be read as u: it is u, or a known u -/
noncomputable def Rd (H : Hp) (a : Addr) (u : HO) : Prop := H a = some u ∨ ∃ o, H a = some (.frz o u)
theorem Rd.of {H : Hp} {a : Addr} {u : HO} (h : H a = some u) : Rd H a u := .inl h
theorem Rd.ok {P : Program} {w : World} {H : Hp} {h : Heap} {a : Addr} {u : HO} (r : Rd H a u) (x : HOk P w H h) : ObjOk P w H h a u := by
  rcases r with r | ⟨o, r⟩
  · exact x a u r
  · obtain ⟨_, q⟩ := x a _ r
    exact q
/-- what may be written -/
noncomputable def Mut : Option HO → Prop
  | some (.lst _) => True
  | some (.dK _) => True
  | some (.dT _) => True
  | some (.set _ _) => True
  | some (.ins _ _ _) => True
  | some (.ext _) => True
  | _ => False
section
variable {P : Program} {w : World} {H : Hp} {h h' : Heap} {x e : Addr} {o' : HO}
/-- the object at e is changed: x itself, or the dict of the instance x -/
theorem HOk.write (ok : HOk P w H h) (mu : Mut (H x)) (he : e = x ∨ H e = some (.own x)) (k : ∀ b u, b ≠ e → h.get? b = some u → h'.get? b = some u) (heo : ∃ u, h'.get? e = some u)
    (new : ObjOk P w (upd H x o') h' x o') : HOk P w (upd H x o') h' := fun b u q => by
  have nown : ∀ c y, H c = some (.own y) → c ≠ x := fun c y r z => by subst z; rw [r] at mu; exact mu
  have ntup : ∀ c xs, H c = some (.tup xs) → c ≠ x := fun c xs r z => by subst z; rw [r] at mu; exact mu
  by_cases hb : b = x
  · subst hb; rw [upd_same] at q; cases q; exact new
  · rw [upd_ne hb] at q
    by_cases hbe : b = e
    · have q' : H b = some (.own x) := by
        rcases he with z | z
        · exact absurd (hbe.trans z) hb
        · rw [hbe]; exact z
      rw [q] at q'; cases q'
      obtain ⟨v, hv⟩ := heo
      exact ⟨v, by rw [hbe]; exact hv⟩
    · refine (ok b u q).stay (fun c v hc r => k c v ?_ r) (fun c r => by rw [upd_ne (nown c b r)]; exact r) fun c xs r => by rw [upd_ne (ntup c xs r)]; exact r
      rcases hc with rfl | hc
      · exact hbe
      · rintro rfl
        rcases he with z | z
        · exact nown c b hc z
        · rw [hc] at z; cases z; exact hb rfl
end

structure Un (fs ex : List Addr) (H H' : Hp) (h h' : Heap) : Prop where
  keep : ∀ b o, h.get? b = some o → H b = none → b ∉ fs → b ∉ ex → h'.get? b = some o
  slot : ∀ b o, h.get? b = some o → H b = none → b ∈ fs → b ∉ ex → ∃ sl, h'.get? b = some { o with slots := sl }
  free : ∀ b o, h.get? b = some o → H b = none → b ∉ ex → H' b = none
  there : ∀ b o, h.get? b = some o → b ∉ ex → ∃ o', h'.get? b = some o'
  tups : ∀ b xs, H b = some (.tup xs) → H' b = some (.tup xs)
  frzs : ∀ b o u, H b = some (.frz o u) → H' b = some (.frz o u)
  tbls : ∀ b ps, H b = some (.tbl ps) → ∃ more, H' b = some (.tbl (ps ++ more))
section
variable {fs fs' ex ex' : List Addr} {H H1 H2 : Hp} {h h1 h2 h' : Heap} {a x e : Addr} {o : HO}
theorem Un.any (u : Un fs ex H H1 h h1) {b : Addr} {ob : Obj} (q : h.get? b = some ob) (n : H b = none) (hx : b ∉ ex) : ∃ sl, h1.get? b = some { ob with slots := sl } := by
  by_cases hb : b ∈ fs
  · exact u.slot b ob q n hb hx
  · exact ⟨ob.slots, u.keep b ob q n hb hx⟩
theorem Un.kept (k : ∀ b u, h.get? b = some u → h'.get? b = some u) : Un fs ex H H h h' :=
  ⟨fun b ob q _ _ _ => k b ob q, fun b ob q _ _ _ => ⟨ob.slots, k b ob q⟩, fun _ _ _ n _ => n, fun b ob q _ => ⟨ob, k b ob q⟩, fun _ _ q => q, fun _ _ _ q => q, fun _ ps q => ⟨#[], by rw [q]; simp⟩⟩
theorem Un.refl : Un fs ex H H h h := Un.kept fun _ _ q => q
theorem Un.laid (k : ∀ b u, h.get? b = some u → h'.get? b = some u) (hp : h.objs.size ≤ a) (hn : H a = none) : Un fs ex H (upd H a o) h h' where
  keep := fun b u q _ _ _ => k b u q
  slot := fun b u q _ _ _ => ⟨u.slots, k b u q⟩
  free := fun b u q n _ => by rw [upd_ne (Nat.ne_of_lt (Nat.lt_of_lt_of_le (Heap.lt_size q) hp))]; exact n
  there := fun b u q _ => ⟨u, k b u q⟩
  tups := fun b xs q => by rw [upd_ne (ne_of_none q hn)]; exact q
  frzs := fun b u xs q => by rw [upd_ne (ne_of_none q hn)]; exact q
  tbls := fun b ps q => ⟨#[], by rw [upd_ne (ne_of_none q hn), q]; simp⟩
theorem Un.write (mu : Mut (H x)) (he : e = x ∨ H e = some (.own x)) (k : ∀ b u, b ≠ e → h.get? b = some u → h'.get? b = some u) (heo : ∃ u, h'.get? e = some u) : Un fs ex H (upd H x o) h h' := by
  have hx : ∀ b, H b = none → b ≠ x := fun b n z => by subst z; rw [n] at mu; exact mu
  have hb : ∀ b, H b = none → b ≠ e := fun b n z => by
    subst z
    rcases he with r | r
    · exact hx b n r
    · rw [n] at r; cases r
  have hm : ∀ b u, H b = some u → ¬ Mut (some u) → b ≠ x := fun b u q nm z => by subst z; rw [q] at mu; exact nm mu
  refine ⟨fun b u q n _ _ => k b u (hb b n) q, fun b u q n _ _ => ⟨u.slots, k b u (hb b n) q⟩, fun b u q n _ => by rw [upd_ne (hx b n)]; exact n, fun b u q _ => ?_,
    fun b xs q => by rw [upd_ne (hm b _ q fun z => z)]; exact q, fun b u xs q => by rw [upd_ne (hm b _ q fun z => z)]; exact q, fun b ps q => ⟨#[], by rw [upd_ne (hm b _ q fun z => z), q]; simp⟩⟩
  by_cases hbe : b = e
  · subst hbe; exact heo
  · exact ⟨u, k b u hbe q⟩
end

noncomputable def trk (h : Heap) (H : Hp) : List Addr := (List.range h.objs.size).filter fun a => (H a).isSome
noncomputable def hidT (h : Heap) (H : Hp) : Heap := PySem.W.hideAll h (trk h H)
theorem hidT_size (h : Heap) (H : Hp) : (hidT h H).objs.size = h.objs.size := PySem.W.hideAll_size _ _
theorem hidT_get {h : Heap} {H : Hp} {b : Addr} {o : Obj} (e : h.get? b = some o) (n : H b = none) : (hidT h H).get? b = some o :=
  PySem.W.hideAll_get _ e fun hm => by
    have q : (H b).isSome = true := (List.mem_filter.mp hm).2
    rw [n] at q; simp at q
theorem of_hidT {h : Heap} {H : Hp} {b : Addr} {o : Obj} (e : (hidT h H).get? b = some o) : h.get? b = some o ∧ H b = none := by
  have e' : h.get? b = some o := PySem.W.of_hideAll (trk h H) e
  refine ⟨e', ?_⟩
  cases q : H b with
  | none => rfl
  | some x =>
    have hm : b ∈ trk h H := List.mem_filter.mpr ⟨List.mem_range.mpr (Heap.lt_size e'), by simp [q]⟩
    have z : (hidT h H).get? b = none := PySem.W.hideAll_none (trk h H) hm
    rw [z] at e; cases e

noncomputable def allNews (g h : Heap) (L : Addr) : List (Addr × Obj) := (List.range h.objs.size).filterMap fun a => if a = L ∨ (g.get? a).isSome = true then none else (h.get? a).map fun o => (a, o)
noncomputable def rest (g h : Heap) (L d : Addr) : List (Addr × Obj) := (allNews g h L).filter fun p => decide (p.1 ≠ d)
end L2

namespace L2
open PySem PySem.Spec PyProof.Rows

/-- the module's facts, over the base: the heap at the law's entry without what is tracked there -/
structure Mod (K : PySem.W.Frag) (mg : Str → Option Value) (base : Heap) : Prop where
  kin : K.In base
  glob : base.Ns mainGlobals mg
  blt : ∃ mb, base.Ns builtinsNs mb ∧ ∀ x : Str, x ≠ "__name__" → mb x = bootBuiltins x
  nolimit : base.NoLimit

/-- the context: a def's body (or a comprehension's block) running. base: fixed through the whole law; s₀, H₀: the entry; outer: the frames whose slots others may change (a def's callers); stack: all frames that run;
   ex: iterators that were made ahead of the entry and are walked here (a comprehension's); fn: the names whose cells were made at the entry (a def: all; a comprehension's block: its own); calm: not within an except suite; pn: pins that every state bears; xe: what is wanted of an exception that leaves the code -/
structure Cx where
  prog : Program
  w : World
  K : PySem.W.Frag
  mg : Str → Option Value
  base : Heap
  A : Around
  N : List Str
  s₀ : Shared
  H₀ : Hp
  env : Env
  outer : List Env
  stack : List Env
  ex : List Addr
  fn : Str → Bool
  calm : Bool
  pn : List (Addr × Obj)
  xe : Value → Shared → Prop
/-- the callers' frames -/
noncomputable def frs (l : List Env) : List Addr := l.filterMap (·.frame)
noncomputable abbrev Cx.fs (X : Cx) : List Addr := frs X.outer

noncomputable def Vis (sc : Scope) (x : Str) : Prop := sc.names.lookup x = some .local ∨ sc.names.lookup x = some .cell ∨ sc.names.lookup x = some .free
noncomputable def Loc (sc : Scope) (x : Str) : Prop := sc.names.lookup x = some .local ∨ sc.names.lookup x = some .cell
noncomputable def Look (env : Env) (h : Heap) (m : Str → Option Value) (x : Str) (u : Value) : Prop :=
  (env.kindOf x = some .local ∧ m x = some u) ∨ ((env.kindOf x = some .cell ∨ env.kindOf x = some .free) ∧ ∃ c, env.cells.lookup x = some c ∧ h.IsCell c (some u))

structure Cx.Ok (X : Cx) : Prop where
  mod : Mod X.K X.mg X.base
  kind : X.env.scope.kind = .function
  glob : X.env.globals = mainGlobals
  blt : X.env.builtins = builtinsNs
  above : X.s₀.heap.objs.size ≤ X.env.locals
  inj : ∀ x y c, X.env.cells.lookup x = some c → X.env.cells.lookup y = some c → x = y
  has : ∀ x, (X.env.kindOf x = some .cell ∨ X.env.kindOf x = some .free) → ∃ c, X.env.cells.lookup x = some c
  cab : ∀ x c, X.fn x = true → X.env.cells.lookup x = some c → X.s₀.heap.objs.size ≤ c
  hd : X.calm = true → X.A.handled = none
  frames : X.A.frames = some X.stack
  stk : X.stack = X.outer ∨ (X.stack = X.env :: X.outer ∧ X.env.frame = some X.env.locals)
  exf : ∀ b ∈ X.ex, b ≠ X.env.locals ∧ ∀ x c, X.env.cells.lookup x = some c → c ≠ b
  bs : ∀ b o, X.base.get? b = some o → X.s₀.heap.get? b = some o ∧ X.H₀ b = none
  bsz : X.base.objs.size ≤ X.s₀.heap.objs.size
  noex : ∀ b o, X.base.get? b = some o → b ∉ X.ex
  exfs : ∀ b ∈ X.ex, b ∉ X.fs
  funs : X.s₀.heap.FunFrames X.base X.outer
  frf : ∀ b ∈ X.fs, X.H₀ b = none

structure Inv (X : Cx) (pins : List (Addr × Obj)) (σ : List (Option V)) (H : Hp) (s : Shared) : Prop where
  ok : X.Ok
  os : s.os = X.s₀.os
  bare : AllBare s.gens
  base : Un X.fs X.ex X.H₀ H X.s₀.heap s.heap
  loc : ∃ m, s.heap.Ns X.env.locals m ∧ ∀ (i : Nat) (x : Str) (v : V), X.N[i]? = some x → σ[i]? = some (some v) → Vis X.env.scope x → ∃ u, RelV v u ∧ Look X.env s.heap m x u
  cell : ∀ x c, X.env.cells.lookup x = some c → ∃ v, s.heap.IsCell c v
  free : H X.env.locals = none
  freeC : ∀ x c, X.env.cells.lookup x = some c → H c = none
  pin : ∀ p ∈ X.pn ++ pins, s.heap.get? p.1 = some p.2 ∧ H p.1 = none ∧ p.1 ≠ X.env.locals ∧ p.1 ∉ X.fs ∧ ∀ v, p.2.data ≠ .cell v
  hok : HOk X.prog X.w H s.heap
  len : σ.length = X.N.length

section
variable {X : Cx} {pins : List (Addr × Obj)} {σ : List (Option V)} {H H' : Hp} {s : Shared} {h' : Heap}

theorem Cx.Ok.nofr (ok : X.Ok) {b : Addr} {o : Obj} (e : X.base.get? b = some o) : b ∉ X.fs := fun hb => by
  have := (ok.funs.mem hb).1
  rw [e] at this; cases this
theorem Inv.bs (I : Inv X pins σ H s) : ∀ b o, X.base.get? b = some o → s.heap.get? b = some o ∧ H b = none := fun b o e =>
  ⟨I.base.keep b o (I.ok.bs b o e).1 (I.ok.bs b o e).2 (I.ok.nofr e) (I.ok.noex b o e), I.base.free b o (I.ok.bs b o e).1 (I.ok.bs b o e).2 (I.ok.noex b o e)⟩
theorem Inv.bk (I : Inv X pins σ H s) : ∀ b o, X.base.get? b = some o → s.heap.get? b = some o := fun b o e => (I.bs b o e).1
theorem Inv.mod (I : Inv X pins σ H s) : Mod X.K X.mg X.base := I.ok.mod
theorem Inv.kIn (I : Inv X pins σ H s) : X.K.In s.heap := I.ok.mod.kin.keeps I.bk
/-- the frame over the base: for OpenK's rules (K.In X.base is I.mod.kin) -/
theorem Inv.fr (I : Inv X pins σ H s) : ∃ m, Fr X.base X.env.locals s.heap m :=
  let ⟨m, hn, _⟩ := I.loc
  ⟨m, hn, I.bk, Nat.le_trans I.ok.bsz I.ok.above⟩
theorem Inv.lt (I : Inv X pins σ H s) : X.env.locals < s.heap.objs.size := let ⟨_, hn, _⟩ := I.loc; hn.lt
theorem Inv.sz (I : Inv X pins σ H s) : X.s₀.heap.objs.size ≤ s.heap.objs.size := Nat.le_trans I.ok.above (Nat.le_of_lt I.lt)
theorem Inv.nofs (I : Inv X pins σ H s) {a : Addr} (h : s.heap.objs.size ≤ a) : a ∉ X.fs := fun hb => by
  obtain ⟨_, o, ho, _⟩ := I.ok.funs.mem hb
  exact absurd (Nat.lt_of_lt_of_le (Heap.lt_size ho) (Nat.le_trans I.sz h)) (Nat.lt_irrefl _)
theorem Inv.cne (I : Inv X pins σ H s) : ∀ x c, X.env.cells.lookup x = some c → c ≠ X.env.locals := fun x c e z => by
  obtain ⟨v, o, ho, hd⟩ := I.cell x c e
  obtain ⟨m, ⟨o', es, ep, ho', hd', _⟩, _⟩ := I.loc
  rw [z, ho'] at ho; cases ho; rw [hd'] at hd; cases hd
theorem Inv.funs (I : Inv X pins σ H s) : s.heap.FunFrames X.base X.outer := by
  have all : ∀ (l : List Env), (∀ b ∈ frs l, b ∈ X.fs) → X.s₀.heap.FunFrames X.base l → s.heap.FunFrames X.base l := by
    intro l
    induction l with
    | nil => intro _ _; trivial
    | cons env r ih =>
      intro hs hl
      obtain ⟨hk, ⟨L, o, hf, hn, ho, hd⟩, hr⟩ := hl
      have hL : L ∈ X.fs := hs L (by unfold frs; rw [List.filterMap_cons, hf]; exact List.mem_cons_self)
      obtain ⟨sl, e⟩ := I.base.slot L o ho (I.ok.frf L hL) hL fun z => I.ok.exfs L z hL
      exact ⟨hk, ⟨L, _, hf, hn, e, hd⟩, ih (fun b hb => hs b (by unfold frs; rw [List.filterMap_cons, hf]; exact List.mem_cons_of_mem _ hb)) hr⟩
  exact all X.outer (fun _ hb => hb) I.ok.funs

/-- the frames that run, for a call -/
theorem Inv.stack (I : Inv X pins σ H s) : s.heap.FunFrames X.base X.stack := by
  rcases I.ok.stk with e | ⟨e, hf⟩
  · rw [e]; exact I.funs
  · rw [e]
    obtain ⟨m, hn, _⟩ := I.loc
    refine .cons (by rw [I.ok.kind]; decide) hf hn ?_ I.funs
    exact Heap.get?_none_of_le (Nat.le_trans I.ok.bsz I.ok.above)
theorem Inv.stkSub (I : Inv X pins σ H s) : ∀ b ∈ frs X.stack, b ∈ X.env.locals :: X.fs := fun b hb => by
  rcases I.ok.stk with e | ⟨e, hf⟩
  · rw [e] at hb; exact List.mem_cons_of_mem _ hb
  · rw [e] at hb
    unfold frs at hb
    rw [List.filterMap_cons, hf] at hb
    exact hb
theorem Inv.stkFree (I : Inv X pins σ H s) : ∀ b ∈ frs X.stack, H b = none := fun b hb => by
  rcases List.mem_cons.mp (I.stkSub b hb) with e | hb
  · rw [e]; exact I.free
  · obtain ⟨_, o, ho, _⟩ := I.ok.funs.mem hb
    exact I.base.free b o ho (I.ok.frf b hb) fun z => I.ok.exfs b z hb

/-- THE STEP: the untracked objects but the frame and the records at ch are kept (the callers' frames up to slots), the frame's map is kept, the new abstract heap is held -/
theorem Inv.step {g' : Array GenState} {t' : Nat} {d' : Drawn} {ch : List Addr} (I : Inv X pins σ H s)
    (hch : ∀ b ∈ ch, (b ∈ X.ex ∨ X.s₀.heap.objs.size ≤ b) ∧ b ≠ X.env.locals ∧ (∀ x c, X.env.cells.lookup x = some c → c ≠ b) ∧ ∀ p ∈ X.pn ++ pins, p.1 ≠ b)
    (keep : ∀ b o, b ≠ X.env.locals → b ∉ X.fs → b ∉ ch → s.heap.get? b = some o → H b = none → h'.get? b = some o)
    (slot : ∀ b o, b ≠ X.env.locals → b ∈ X.fs → b ∉ ch → s.heap.get? b = some o → H b = none → ∃ sl, h'.get? b = some { o with slots := sl }) (free : ∀ b o, b ∉ ch → s.heap.get? b = some o → H b = none → H' b = none)
    (there : ∀ b o, b ∉ ch → s.heap.get? b = some o → ∃ o', h'.get? b = some o')
    (tups : ∀ b xs, H b = some (.tup xs) → H' b = some (.tup xs)) (frzs : ∀ b o u, H b = some (.frz o u) → H' b = some (.frz o u)) (tbls : ∀ b ps, H b = some (.tbl ps) → ∃ more, H' b = some (.tbl (ps ++ more)))
    (ns : ∀ m, s.heap.Ns X.env.locals m → h'.Ns X.env.locals m) (hok : HOk X.prog X.w H' h') (hg : AllBare g') :
    Inv X pins σ H' { s with heap := h', gens := g', drawn := d', toks := t' } := by
  have neL : ∀ b o, X.s₀.heap.get? b = some o → b ≠ X.env.locals := fun b o e => Nat.ne_of_lt (Nat.lt_of_lt_of_le (Heap.lt_size e) I.ok.above)
  have neC : ∀ b o, X.s₀.heap.get? b = some o → b ∉ X.ex → b ∉ ch := fun b o e hx hb => by
    rcases (hch b hb).1 with z | z
    · exact hx z
    · exact absurd (Nat.lt_of_lt_of_le (Heap.lt_size e) z) (Nat.lt_irrefl _)
  have cellK : ∀ x c, X.env.cells.lookup x = some c → ∀ v, s.heap.IsCell c v → h'.IsCell c v := fun x c e v ⟨o, ho, hd⟩ => by
    have nch : c ∉ ch := fun z => (hch c z).2.2.1 x c e rfl
    by_cases hc : c ∈ X.fs
    · obtain ⟨sl, q⟩ := slot c o (I.cne x c e) hc nch ho (I.freeC x c e)
      exact ⟨_, q, hd⟩
    · exact ⟨o, keep c o (I.cne x c e) hc nch ho (I.freeC x c e), hd⟩
  refine ⟨I.ok, I.os, hg, ⟨fun b o e n hb hx => ?_, fun b o e n hb hx => ?_, fun b o e n hx => ?_, fun b o e hx => ?_, fun b xs e => tups b xs (I.base.tups b xs e), fun b o xs e => frzs b o xs (I.base.frzs b o xs e), fun b ps e => ?_⟩, ?_, fun x c e => ?_, ?_, fun x c e => ?_, fun p hp => ?_, hok, I.len⟩
  · exact keep b o (neL b o e) hb (neC b o e hx) (I.base.keep b o e n hb hx) (I.base.free b o e n hx)
  · obtain ⟨sl, e1⟩ := I.base.slot b o e n hb hx
    obtain ⟨sl', e2⟩ := slot b _ (neL b o e) hb (neC b o e hx) e1 (I.base.free b o e n hx)
    exact ⟨sl', e2⟩
  · obtain ⟨o', e1⟩ := I.base.there b o e hx
    exact free b o' (neC b o e hx) e1 (I.base.free b o e n hx)
  · obtain ⟨o', e1⟩ := I.base.there b o e hx
    exact there b o' (neC b o e hx) e1
  · obtain ⟨m1, e1⟩ := I.base.tbls b ps e
    obtain ⟨m2, e2⟩ := tbls b _ e1
    exact ⟨m1 ++ m2, by rw [e2, Array.append_assoc]⟩
  · obtain ⟨m, hn, hl⟩ := I.loc
    refine ⟨m, ns m hn, fun i x v e1 e2 e3 => ?_⟩
    obtain ⟨u, r, l⟩ := hl i x v e1 e2 e3
    refine ⟨u, r, ?_⟩
    rcases l with l | ⟨k, c, e, z⟩
    · exact .inl l
    · exact .inr ⟨k, c, e, cellK x c e _ z⟩
  · obtain ⟨v, z⟩ := I.cell x c e
    exact ⟨v, cellK x c e v z⟩
  · obtain ⟨m, ⟨o, _, _, ho, _⟩, _⟩ := I.loc
    exact free _ o (fun z => (hch _ z).2.1 rfl) ho I.free
  · obtain ⟨v, o, ho, hd⟩ := I.cell x c e
    exact free c o (fun z => (hch c z).2.2.1 x c e rfl) ho (I.freeC x c e)
  · obtain ⟨e, n, ne, nf, d⟩ := I.pin p hp
    have nch : p.1 ∉ ch := fun z => (hch p.1 z).2.2.2 p hp rfl
    exact ⟨keep p.1 p.2 ne nf nch e n, free p.1 p.2 nch e n, ne, nf, d⟩
/-- .. where the frame's own object is kept too -/
theorem Inv.un {t' : Nat} (I : Inv X pins σ H s) (u : Un X.fs [] H H' s.heap h') (hok : HOk X.prog X.w H' h') : Inv X pins σ H' { s with heap := h', toks := t' } := by
  obtain ⟨m, ⟨o, es, ep, ho, r⟩, _⟩ := id I.loc
  obtain ⟨sl, hL⟩ := u.any ho I.free (by simp)
  exact I.step (g' := s.gens) (d' := s.drawn) (ch := []) (fun _ z => nomatch z) (fun b o _ hb _ e n => u.keep b o e n hb (by simp)) (fun b o _ hb _ e n => u.slot b o e n hb (by simp)) (fun b o _ e n => u.free b o e n (by simp)) (fun b o _ e => u.there b o e (by simp)) u.tups u.frzs u.tbls (fun m' hm => by
    obtain ⟨o', es', ep', ho', r'⟩ := hm
    rw [ho] at ho'; cases ho'
    exact ⟨_, es', ep', hL, r'⟩) hok I.bare
/-- behind a call (or a comprehension's block): the slots of this frame may have changed too, the records at ch may have turned -/
theorem Inv.call {g' : Array GenState} {t' : Nat} {d' : Drawn} {ch : List Addr} (I : Inv X pins σ H s) (u : Un (frs X.stack) ch H H' s.heap h') (hok : HOk X.prog X.w H' h') (hg : AllBare g')
    (hch : ∀ b ∈ ch, (b ∈ X.ex ∨ X.s₀.heap.objs.size ≤ b) ∧ b ≠ X.env.locals ∧ (∀ x c, X.env.cells.lookup x = some c → c ≠ b) ∧ ∀ p ∈ X.pn ++ pins, p.1 ≠ b) :
    Inv X pins σ H' { s with heap := h', gens := g', drawn := d', toks := t' } := by
  obtain ⟨m, ⟨o, es, ep, ho, r⟩, _⟩ := id I.loc
  obtain ⟨sl, hL⟩ := u.any ho I.free fun z => (hch _ z).2.1 rfl
  exact I.step (ch := ch) hch (fun b o hL hb hc e n => u.keep b o e n (fun z => (List.mem_cons.mp (I.stkSub b z)).elim hL hb) hc) (fun b o _ _ hc e n => u.any e n hc) (fun b o hc e n => u.free b o e n hc) (fun b o hc e => u.there b o e hc) u.tups u.frzs u.tbls (fun m' hm => by
    obtain ⟨o', es', ep', ho', r'⟩ := hm
    rw [ho] at ho'; cases ho'
    exact ⟨_, es', ep', hL, r'⟩) hok hg
/-- an untracked record of ours (an iterator) has turned -/
theorem Inv.turned {t' : Nat} {it : Addr} (I : Inv X pins σ H s) (k : ∀ b o, b ≠ it → s.heap.get? b = some o → h'.get? b = some o) (hn : H it = none) (hL : it ≠ X.env.locals)
    (h1 : it ∈ X.ex ∨ X.s₀.heap.objs.size ≤ it) (h2 : ∀ x c, X.env.cells.lookup x = some c → c ≠ it) (h3 : ∀ p ∈ X.pn ++ pins, p.1 ≠ it) : Inv X pins σ H { s with heap := h', toks := t' } := by
  have nit : ∀ b u, H b = some u → b ≠ it := fun b u e z => by rw [z, hn] at e; cases e
  refine I.step (g' := s.gens) (d' := s.drawn) (ch := [it]) (fun b hb => ?_) (fun b o _ _ hc e _ => k b o (fun z => hc (by simp [z])) e) (fun b o _ _ hc e _ => ⟨o.slots, k b o (fun z => hc (by simp [z])) e⟩) (fun _ _ _ _ n => n)
    (fun b o hc e => ⟨o, k b o (fun z => hc (by simp [z])) e⟩) (fun _ _ e => e) (fun _ _ _ e => e) (fun b ps e => ⟨#[], by rw [e]; simp⟩) (fun m hm => ?_) (fun b u e => ?_) I.bare
  · have e : b = it := by simpa using hb
    subst e
    exact ⟨h1, hL, h2, h3⟩
  · obtain ⟨o, es, ep, ho, r⟩ := hm
    exact ⟨o, es, ep, k _ o (Ne.symm hL) ho, r⟩
  · refine (I.hok b u e).stay (fun c v hc q => k c v ?_ q) (fun _ q => q) fun _ _ q => q
    rcases hc with z | z
    · rw [z]; exact nit b u e
    · exact nit c _ z
theorem Inv.tok (I : Inv X pins σ H s) (t : Nat) : Inv X pins σ H { s with toks := t } := I.un (h' := s.heap) (t' := t) Un.refl I.hok
/-- all objects kept -/
theorem Inv.kept {t' : Nat} (I : Inv X pins σ H s) (k : ∀ b u, s.heap.get? b = some u → h'.get? b = some u) : Inv X pins σ H { s with heap := h', toks := t' } := I.un (Un.kept k) (I.hok.kept k)
/-- a new object laid and tracked -/
theorem Inv.laid {a : Addr} {o : HO} {t' : Nat} (I : Inv X pins σ H s) (k : ∀ b u, s.heap.get? b = some u → h'.get? b = some u) (hp : s.heap.objs.size ≤ a) (new : ObjOk X.prog X.w (upd H a o) h' a o) :
    Inv X pins σ (upd H a o) { s with heap := h', toks := t' } := I.un (Un.laid k hp (I.hok.fresh hp)) (I.hok.laid k hp new)
/-- an object written -/
theorem Inv.write {x e : Addr} {o : HO} {t' : Nat} (I : Inv X pins σ H s) (mu : Mut (H x)) (he : e = x ∨ H e = some (.own x)) (k : ∀ b u, b ≠ e → s.heap.get? b = some u → h'.get? b = some u) (heo : ∃ u, h'.get? e = some u)
    (new : ObjOk X.prog X.w (upd H x o) h' x o) : Inv X pins σ (upd H x o) { s with heap := h', toks := t' } := I.un (Un.write mu he k heo) (I.hok.write mu he k heo new)
theorem Inv.pins_of {pins' : List (Addr × Obj)} (I : Inv X pins σ H s) (h : ∀ p ∈ pins', s.heap.get? p.1 = some p.2 ∧ H p.1 = none ∧ p.1 ≠ X.env.locals ∧ p.1 ∉ X.fs ∧ ∀ v, p.2.data ≠ .cell v) : Inv X pins' σ H s :=
  ⟨I.ok, I.os, I.bare, I.base, I.loc, I.cell, I.free, I.freeC, fun p hp => (List.mem_append.mp hp).elim (fun z => I.pin p (List.mem_append_left _ z)) (h p), I.hok, I.len⟩

theorem nodup_ix {N : List Str} (hN : N.Nodup) {i j : Nat} {x : Str} (a : N[i]? = some x) (b : N[j]? = some x) : i = j := by
  obtain ⟨h1, e1⟩ := List.getElem?_eq_some_iff.mp a
  obtain ⟨h2, e2⟩ := List.getElem?_eq_some_iff.mp b
  exact (List.getElem_inj hN).mp (e1.trans e2.symm)

/-- a name is stored; what changed -/
theorem store_ok2 {M : Model} {A : Around} {E : Value → Shared → Prop} {i : Nat} {x : Str} {v : V} {u : Value} {Q : Unit → Shared → Prop} (I : Inv X pins σ H s) (hN : X.N.Nodup) (hi : X.N[i]? = some x) (hx : Loc X.env.scope x) (r : RelV v u)
    (h : ∀ s', Inv X pins (σ.set i (some v)) H s' → (∃ a, Heap.SameBut a s.heap s'.heap ∧ (a = X.env.locals ∨ X.env.cells.lookup x = some a)) → Q () s') (hf : autoParam (X.fn x = true ∨ X.env.scope.names.lookup x = some .local) L2.aLoc._auto_1) : wpAny M A (storeName X.env x u) Q E s := by
  obtain ⟨m, hn, hl⟩ := id I.loc
  have hcls : (X.env.scope.kind == .class || (X.env.scope.kind == .module && X.env.locals != X.env.globals)) = false := by rw [I.ok.kind]; rfl
  have hiσ : i < σ.length := by rw [I.len]; exact (List.getElem?_eq_some_iff.mp hi).1
  have cne := I.cne
  have tracked : ∀ {a : Addr} {h' : Heap}, (∃ o, s.heap.get? a = some o ∧ H a = none) → Heap.SameBut a s.heap h' → HOk X.prog X.w H h' := fun {a h'} ha hs b ob e => by
    obtain ⟨_, _, hfree⟩ := ha
    refine (I.hok b ob e).stay (fun c w' hc q => (hs.2 c ?_).trans q) (fun _ q => q) fun _ _ q => q
    rintro rfl
    rcases hc with rfl | hc
    · rw [hfree] at e; cases e
    · rw [hfree] at hc; cases hc
  rcases hx with hk | hk
  · refine wpAny_storeName_local hk hn (fun h' hn' hs => ?_) hcls
    obtain ⟨oL, _, _, hoL, _⟩ := id hn
    refine h _ ⟨I.ok, I.os, I.bare, ⟨fun b o e n hb hx => ?_, fun b o e n hb hx => ?_, I.base.free, fun b o e hx => ?_, I.base.tups, I.base.frzs, I.base.tbls⟩, ⟨_, hn', fun j y v' e1 e2 e3 => ?_⟩, fun y c e => ?_, I.free, I.freeC, fun p hp => ?_, tracked ⟨oL, hoL, I.free⟩ hs, by simpa using I.len⟩ ⟨_, hs, .inl rfl⟩
    · exact (hs.2 b (Nat.ne_of_lt (Nat.lt_of_lt_of_le (Heap.lt_size e) I.ok.above))).trans (I.base.keep b o e n hb hx)
    · obtain ⟨sl, e1⟩ := I.base.slot b o e n hb hx
      exact ⟨sl, (hs.2 b (Nat.ne_of_lt (Nat.lt_of_lt_of_le (Heap.lt_size e) I.ok.above))).trans e1⟩
    · obtain ⟨o', e1⟩ := I.base.there b o e hx
      exact ⟨o', (hs.2 b (Nat.ne_of_lt (Nat.lt_of_lt_of_le (Heap.lt_size e) I.ok.above))).trans e1⟩
    · by_cases hj : j = i
      · subst hj
        rw [hi] at e1; cases e1
        rw [List.getElem?_set_self hiσ] at e2
        cases e2
        exact ⟨u, r, .inl ⟨hk, by simp⟩⟩
      · rw [List.getElem?_set_ne (Ne.symm hj)] at e2
        obtain ⟨u', r', q⟩ := hl j y v' e1 e2 e3
        refine ⟨u', r', ?_⟩
        rcases q with ⟨k, e⟩ | ⟨k, c, e, z⟩
        · refine .inl ⟨k, ?_⟩
          have : y ≠ x := fun e => hj (nodup_ix hN e1 (e ▸ hi))
          simp [this, e]
        · exact .inr ⟨k, c, e, z.sameBut hs (cne y c e)⟩
    · obtain ⟨w', z⟩ := I.cell y c e
      exact ⟨w', z.sameBut hs (cne y c e)⟩
    · obtain ⟨e, n, ne, nf, d⟩ := I.pin p hp
      exact ⟨(hs.2 p.1 ne).trans e, n, ne, nf, d⟩
  · have hfn : X.fn x = true := by
      rcases hf with z | z
      · exact z
      · rw [z] at hk; cases hk
    obtain ⟨c, hc⟩ := I.ok.has x (.inl hk)
    obtain ⟨w', z⟩ := I.cell x c hc
    refine wpAny_storeName_cell I.ok.kind hk hc z (fun h' hc' hs => ?_)
    obtain ⟨oc, hoc, hocd⟩ := id z
    refine h { s with heap := h' } ⟨I.ok, I.os, I.bare, ⟨fun b o e n hb hx => ?_, fun b o e n hb hx => ?_, I.base.free, fun b o e hx => ?_, I.base.tups, I.base.frzs, I.base.tbls⟩, ⟨m, hn.sameBut hs (Ne.symm (cne x c hc)), fun j y v' e1 e2 e3 => ?_⟩, fun y c' e => ?_, I.free, I.freeC, fun p hp => ?_, tracked ⟨oc, hoc, I.freeC x c hc⟩ hs, by simpa using I.len⟩ ⟨c, hs, .inr hc⟩
    · exact (hs.2 b (Nat.ne_of_lt (Nat.lt_of_lt_of_le (Heap.lt_size e) (I.ok.cab x c hfn hc)))).trans (I.base.keep b o e n hb hx)
    · obtain ⟨sl, e1⟩ := I.base.slot b o e n hb hx
      exact ⟨sl, (hs.2 b (Nat.ne_of_lt (Nat.lt_of_lt_of_le (Heap.lt_size e) (I.ok.cab x c hfn hc)))).trans e1⟩
    · obtain ⟨o', e1⟩ := I.base.there b o e hx
      exact ⟨o', (hs.2 b (Nat.ne_of_lt (Nat.lt_of_lt_of_le (Heap.lt_size e) (I.ok.cab x c hfn hc)))).trans e1⟩
    · by_cases hj : j = i
      · subst hj
        rw [hi] at e1; cases e1
        rw [List.getElem?_set_self hiσ] at e2
        cases e2
        exact ⟨u, r, .inr ⟨.inl hk, c, hc, hc'⟩⟩
      · rw [List.getElem?_set_ne (Ne.symm hj)] at e2
        obtain ⟨u', r', q⟩ := hl j y v' e1 e2 e3
        refine ⟨u', r', ?_⟩
        rcases q with q | ⟨k, c', e, z'⟩
        · exact .inl q
        · refine .inr ⟨k, c', e, z'.sameBut hs ?_⟩
          rintro rfl
          exact hj (nodup_ix hN e1 (I.ok.inj _ _ _ e hc ▸ hi))
    · by_cases hcc : c' = c
      · subst hcc; exact ⟨_, hc'⟩
      · obtain ⟨w2, z2⟩ := I.cell y c' e
        exact ⟨w2, z2.sameBut hs hcc⟩
    · obtain ⟨e, n, ne, nf, d⟩ := I.pin p hp
      refine ⟨(hs.2 p.1 ?_).trans e, n, ne, nf, d⟩
      intro q
      rw [q, hoc] at e
      have q' : oc = p.2 := Option.some.inj e
      exact d w' (by rw [← q']; exact hocd)
theorem store_ok {M : Model} {A : Around} {E : Value → Shared → Prop} {i : Nat} {x : Str} {v : V} {u : Value} {Q : Unit → Shared → Prop} (I : Inv X pins σ H s) (hN : X.N.Nodup) (hi : X.N[i]? = some x) (hx : Loc X.env.scope x) (r : RelV v u)
    (h : ∀ s', Inv X pins (σ.set i (some v)) H s' → Q () s') (hf : autoParam (X.fn x = true ∨ X.env.scope.names.lookup x = some .local) L2.aLoc._auto_1) : wpAny M A (storeName X.env x u) Q E s :=
  store_ok2 I hN hi hx r (fun s' I' _ => h s' I') hf
/-- behind a call or a block, the state as it is -/
theorem Inv.call' {s' : Shared} {ch : List Addr} (I : Inv X pins σ H s) (ho : s'.os = s.os) (u : Un (frs X.stack) ch H H' s.heap s'.heap) (hok : HOk X.prog X.w H' s'.heap) (hg : AllBare s'.gens)
    (hch : ∀ b ∈ ch, (b ∈ X.ex ∨ X.s₀.heap.objs.size ≤ b) ∧ b ≠ X.env.locals ∧ (∀ x c, X.env.cells.lookup x = some c → c ≠ b) ∧ ∀ p ∈ X.pn ++ pins, p.1 ≠ b) : Inv X pins σ H' s' := by
  obtain ⟨h', g', d', t', o'⟩ := s'
  have e : o' = s.os := ho
  subst e
  exact I.call (g' := g') (t' := t') (d' := d') u hok hg hch
end

/-- an exception: its class, its own dict's address (where it has one), the abstract heap behind it -/
noncomputable abbrev XK := Value → Option Addr → Hp → Prop
noncomputable abbrev St := List (Option V)
noncomputable abbrev VK := V → Hp → Prop
/-- an expression's reading; a test's; an argument list's -/
noncomputable abbrev TE := St → Hp → VK → Prop
noncomputable abbrev TT := St → Hp → (Bool → Hp → Prop) → Prop
noncomputable abbrev TA := St → Hp → (List V → Hp → Prop) → Prop
/-- what is wanted behind a statement -/
structure Ends where
  nx : St → Hp → Prop
  rt : VK
  bk : St → Hp → Prop := fun _ _ => False
  ct : St → Hp → Prop := fun _ _ => False
noncomputable abbrev TS := Ends → St → Hp → Prop

noncomputable def EP (X : Cx) (pins : List (Addr × Obj)) (σ : St) (Q : VK) (u : Value) (s' : Shared) : Prop := ∃ v H', Inv X pins σ H' s' ∧ RelV v u ∧ Q v H'
noncomputable def TP (X : Cx) (pins : List (Addr × Obj)) (σ : St) (Q : Bool → Hp → Prop) (b : Bool) (s' : Shared) : Prop := ∃ H', Inv X pins σ H' s' ∧ Q b H'
noncomputable def AP (X : Cx) (pins : List (Addr × Obj)) (σ : St) (Q : List V → Hp → Prop) (us : List Value) (s' : Shared) : Prop := ∃ vs H', Inv X pins σ H' s' ∧ Vals vs us ∧ Q vs H'
noncomputable def SP (X : Cx) (pins : List (Addr × Obj)) (D : Ends) (f : Flow) (s' : Shared) : Prop :=
  match f with
  | .next => ∃ σ' H', Inv X pins σ' H' s' ∧ D.nx σ' H'
  | .brk => ∃ σ' H', Inv X pins σ' H' s' ∧ D.bk σ' H'
  | .cont => ∃ σ' H', Inv X pins σ' H' s' ∧ D.ct σ' H'
  | .ret u => ∃ v σ' H', Inv X pins σ' H' s' ∧ RelV v u ∧ D.rt v H'

noncomputable def PE (X : Cx) (e : Expr) (t : TE) : Prop :=
  ∀ (pins : List (Addr × Obj)) (s : Shared) (σ : St) (H : Hp) (Q : VK), Inv X pins σ H s → t σ H Q → wpAny (model X.prog X.w) X.A (eval e X.env) (EP X pins σ Q) X.xe s
noncomputable def PT (X : Cx) (e : Expr) (t : TT) : Prop :=
  ∀ (pins : List (Addr × Obj)) (s : Shared) (σ : St) (H : Hp) (Q : Bool → Hp → Prop), Inv X pins σ H s → t σ H Q → wpAny (model X.prog X.w) X.A (isTrue e X.env (eval e X.env)) (TP X pins σ Q) X.xe s
/-- a test whatever its 'whole' is (and, or) -/
noncomputable def PW (X : Cx) (e : Expr) (t : TT) : Prop :=
  ∀ (whole : Sem Value) (pins : List (Addr × Obj)) (s : Shared) (σ : St) (H : Hp) (Q : Bool → Hp → Prop), Inv X pins σ H s → t σ H Q → wpAny (model X.prog X.w) X.A (isTrue e X.env whole) (TP X pins σ Q) X.xe s
theorem PW.pt {X : Cx} {e : Expr} {t : TT} (h : PW X e t) : PT X e t := h _
/-- an argument list (no star), from the left -/
noncomputable def PA (X : Cx) (es : List Expr) (t : TA) : Prop :=
  ∀ (pos : Pos) (pins : List (Addr × Obj)) (s : Shared) (σ : St) (H : Hp) (Q : List V → Hp → Prop), Inv X pins σ H s → t σ H Q → wpAny (model X.prog X.w) X.A (spliced (backTo pos (starEach es X.env))) (AP X pins σ Q) X.xe s
noncomputable def PS (X : Cx) (st : Stmt) (t : TS) : Prop :=
  ∀ (pins : List (Addr × Obj)) (s : Shared) (σ : St) (H : Hp) (D : Ends), Inv X pins σ H s → t D σ H → wpAny (model X.prog X.w) X.A (exec st X.env) (SP X pins D) X.xe s
noncomputable def PSs (X : Cx) (st : List Stmt) (t : TS) : Prop :=
  ∀ (pins : List (Addr × Obj)) (s : Shared) (σ : St) (H : Hp) (D : Ends), Inv X pins σ H s → t D σ H → wpAny (model X.prog X.w) X.A (execs st X.env) (SP X pins D) X.xe s
/-- weaken the end -/
theorem thn {α : Type} {t : Sem α} {Q Q' : α → Shared → Prop} {M : Model} {A : Around} {E : Value → Shared → Prop} {s : Shared} (h : wpAny M A t Q E s) (hQ : ∀ a s, Q a s → Q' a s) : wpAny M A t Q' E s := wpAny_mono h hQ fun _ _ x => x
end L2

namespace L2
open PySem PySem.Spec PyProof.Rows
section
variable {X : Cx}

noncomputable def tVar (i : Nat) : TE := fun σ H Q => ∃ v, σ[i]? = some (some v) ∧ Q v H
noncomputable def tC (v : V) : TE := fun _ H Q => Q v H
theorem pe_var {i : Nat} {x : Str} {pos : Pos} (hN : X.N[i]? = some x) (hv : Vis X.env.scope x) (hd : autoParam ((x == ("__debug__" : Str)) = false) L2.aDec._auto_1) (hcd : autoParam ((x == ("__classdict__" : Str)) = false) L2.aDec._auto_1) : PE X (.Name x pos) (tVar i) := by
  intro pins s σ H Q I h
  obtain ⟨v, e, h⟩ := h
  obtain ⟨m, hn, hl⟩ := I.loc
  obtain ⟨u, r, l⟩ := hl i x v hN e hv
  have fin : EP X pins σ Q u s := ⟨v, H, I, r, h⟩
  rcases l with ⟨hk, hm⟩ | ⟨hk, c, hc, hcell⟩
  · exact wpAny_Name (wpAny_loadName_local I.ok.kind hk hn hm fin) hd
  · rcases hk with hk | hk
    · exact wpAny_Name (wpAny_loadName_cell I.ok.kind hk hc hcell fin) hd
    · exact wpAny_Name (wpAny_loadName_free I.ok.kind hk hc hcell fin hcd) hd
theorem pe_int {i j pos} : PE X (.Constant (.int i) j pos) (tC (.int i)) := fun _ _ _ H _ I h => wpAny_Constant_int ⟨.int i, H, I.tok _, ⟨_, rfl⟩, h⟩
theorem pe_bl {b j pos} : PE X (.Constant (.bool b) j pos) (tC (.bl b)) := fun _ _ _ H _ I h => Constant_bool ⟨.bl b, H, I, rfl, h⟩
theorem pe_non {j pos} : PE X (.Constant .none j pos) (tC .non) := fun _ _ _ H _ I h => Constant_none ⟨.non, H, I, rfl, h⟩
theorem pe_str {x j pos} : PE X (.Constant (.str x) j pos) (tC (.str x)) := fun _ _ _ H _ I h => Calls.Constant_str ⟨.str x, H, I.tok _, ⟨_, rfl⟩, h⟩

/-- a global name of the def -/
noncomputable def Gl (X : Cx) (x : Str) : Prop := X.env.kindOf x = some .globalImplicit
theorem ld_glob {E : Value → Shared → Prop} {pins : List (Addr × Obj)} {s : Shared} {σ : St} {H : Hp} {x : Str} {u : Value} {pos : Pos} {Q : Value → Shared → Prop} (I : Inv X pins σ H s) (hg : Gl X x) (hm : X.mg x = some u) (h : Q u s)
    (hd : autoParam ((x == ("__debug__" : Str)) = false) L2.aDec._auto_1) : wpAny (model X.prog X.w) X.A (eval (.Name x pos) X.env) Q E s :=
  Calls.Name_function_global I.ok.kind hg (Calls.loadGlobal_global (by rw [I.ok.glob]; exact I.mod.glob.keeps I.bk) hm h) hd
theorem ld_blt {E : Value → Shared → Prop} {pins : List (Addr × Obj)} {s : Shared} {σ : St} {H : Hp} {x : Str} {u : Value} {pos : Pos} {Q : Value → Shared → Prop} (I : Inv X pins σ H s) (hg : Gl X x) (hm : X.mg x = none) (hv : bootBuiltins x = some u) (h : Q u s)
    (hn : autoParam (x ≠ "__name__") L2.aDec._auto_1) (hd : autoParam ((x == ("__debug__" : Str)) = false) L2.aDec._auto_1) : wpAny (model X.prog X.w) X.A (eval (.Name x pos) X.env) Q E s := by
  obtain ⟨mb, h1, h2⟩ := I.mod.blt
  exact Calls.Name_function_global I.ok.kind hg (Calls.loadGlobal_builtin (by rw [I.ok.glob]; exact I.mod.glob.keeps I.bk) hm (by rw [I.ok.blt]; exact h1.keeps I.bk) ((h2 x hn).trans hv) h) hd
/-- a module's constant, a class, a function, as a value -/
theorem pe_glob {x : Str} {v : V} {u : Value} {pos : Pos} (hg : Gl X x) (hm : X.mg x = some u) (r : RelV v u) (hd : autoParam ((x == ("__debug__" : Str)) = false) L2.aDec._auto_1) : PE X (.Name x pos) (tC v) :=
  fun _ _ _ H _ I h => ld_glob I hg hm ⟨v, H, I, r, h⟩ hd
theorem pe_bltn {x : Str} {v : V} {u : Value} {pos : Pos} (hg : Gl X x) (hm : X.mg x = none) (hv : bootBuiltins x = some u) (r : RelV v u) (hn : autoParam (x ≠ "__name__") L2.aDec._auto_1) (hd : autoParam ((x == ("__debug__" : Str)) = false) L2.aDec._auto_1) : PE X (.Name x pos) (tC v) :=
  fun _ _ _ H _ I h => ld_blt I hg hm hv ⟨v, H, I, r, h⟩ hn hd

/-- two ints -/
noncomputable def t2I (ta tb : TE) (k : Int → Int → Hp → Prop) : St → Hp → Prop := fun σ H => ta σ H fun x H1 => tb σ H1 fun y H2 => ∃ i j, x = .int i ∧ y = .int j ∧ k i j H2
variable {a b : Expr} {ta tb : TE} {pos : Pos}
noncomputable def tCmp (p : Int → Int → Bool) (ta tb : TE) : TE := fun σ H Q => t2I ta tb (fun i j H2 => Q (.bl (p i j)) H2) σ H
noncomputable abbrev tEqI : TE → TE → TE := tCmp fun i j => decide (i = j)
noncomputable abbrev tNeI : TE → TE → TE := tCmp fun i j => !decide (i = j)
/-- is None -/
noncomputable def tIsN (ta : TE) : TE := fun σ H Q => ta σ H fun x H1 => Q (.bl (decide (x = .non))) H1
variable {tA tB' : TT} {rest : List Expr}
noncomputable def tAnd (t u : TT) : TT := fun σ H Q => t σ H fun c H1 => if c = true then u σ H1 Q else Q false H1
noncomputable def tOr (t u : TT) : TT := fun σ H Q => t σ H fun c H1 => if c = true then Q true H1 else u σ H1 Q
noncomputable def tNot (t : TT) : TT := fun σ H Q => t σ H fun c H1 => Q (!c) H1
theorem pw_and1 (ha : PT X a tA) : PW X (.BoolOp .And [a] pos) tA := by
  intro wh pins s σ H Q I h
  refine isTrue_and (thn (ha pins s σ H Q I h) fun c s1 e => ?_)
  cases c with
  | true => exact isTrue_and_nil e
  | false => exact e
theorem pw_or1 (ha : PT X a tA) : PW X (.BoolOp .Or [a] pos) tA := by
  intro wh pins s σ H Q I h
  refine isTrue_or (thn (ha pins s σ H Q I h) fun c s1 e => ?_)
  cases c with
  | false => exact isTrue_or_nil e
  | true => exact e
theorem pw_and (ha : PT X a tA) (hb : PW X (.BoolOp .And (b :: rest) pos) tB') : PW X (.BoolOp .And (a :: b :: rest) pos) (tAnd tA tB') := by
  intro wh pins s σ H Q I h
  refine isTrue_and (thn (ha pins s σ H _ I h) fun c s1 ⟨H1, I1, q1⟩ => ?_)
  cases c with
  | true => exact hb wh pins s1 σ H1 Q I1 q1
  | false => exact ⟨H1, I1, q1⟩
theorem pw_or (ha : PT X a tA) (hb : PW X (.BoolOp .Or (b :: rest) pos) tB') : PW X (.BoolOp .Or (a :: b :: rest) pos) (tOr tA tB') := by
  intro wh pins s σ H Q I h
  refine isTrue_or (thn (ha pins s σ H _ I h) fun c s1 ⟨H1, I1, q1⟩ => ?_)
  cases c with
  | true => exact ⟨H1, I1, q1⟩
  | false => exact hb wh pins s1 σ H1 Q I1 q1
theorem pt_not (ha : PT X a tA) : PT X (.UnaryOp .Not a pos) (tNot tA) := by
  intro pins s σ H Q I h
  exact isTrue_not (ha pins s σ H (fun c H1 => Q (!c) H1) I h)
/-- .. as values (bools) -/
noncomputable def tAndV (ta tb : TE) : TE := fun σ H Q => ta σ H fun x H1 => ∃ c, x = .bl c ∧ if c = true then tb σ H1 Q else Q (.bl false) H1
theorem pe_one {op} {t : TE} (h : PE X a t) : PE X (.BoolOp op [a] pos) t := fun pins s σ H Q I hw => BoolOp_one (h pins s σ H Q I hw)
theorem pe_and (ha : PE X a ta) (hb : PE X (.BoolOp .And (b :: rest) pos) tb) : PE X (.BoolOp .And (a :: b :: rest) pos) (tAndV ta tb) := by
  intro pins s σ H Q I h
  refine BoolOp_and (thn (ha pins s σ H _ I h) fun v s1 ⟨x, H1, I1, r1, q1⟩ => ?_)
  obtain ⟨c, rfl, q1⟩ := q1
  cases r1
  refine wpAny_truthy_bool ?_
  cases c with
  | true => exact hb pins s1 σ H1 Q I1 q1
  | false => exact ⟨.bl false, H1, I1, rfl, q1⟩
/-- a if t else b -/
noncomputable def tIf (t : TT) (ta tb : TE) : TE := fun σ H Q => t σ H fun c H1 => if c = true then ta σ H1 Q else tb σ H1 Q
theorem pe_ifExp {c : Expr} (hc : PT X c tA) (ha : PE X a ta) (hb : PE X b tb) : PE X (.IfExp c a b pos) (tIf tA ta tb) := by
  intro pins s σ H Q I h
  refine wpAny_IfExp (thn (hc pins s σ H _ I h) fun d s1 ⟨H1, I1, q1⟩ => ?_)
  cases d with
  | true => exact ha pins s1 σ H1 Q I1 q1
  | false => exact hb pins s1 σ H1 Q I1 q1
end
end L2

namespace L2
open PySem PySem.Spec PyProof.Rows

noncomputable def SqL (K : PySem.W.Frag) (H : Hp) (a : Addr) (xs : List V) : Prop :=
  Rd H a (.lst xs) ∨
    ∃ (o : Obj) (its : Array Value) (n : Nat), K.lookup a = some o ∧ o.cls = .type "list" ∧ o.dict = none ∧ o.data = .seq its n ∧ its.size ≤ sizeLine ∧ Vals xs its.toList
noncomputable def SqT (K : PySem.W.Frag) (H : Hp) (a : Addr) (xs : List V) : Prop :=
  Rd H a (.tup xs) ∨
    ∃ (o : Obj) (its : Array Value) (n : Nat), K.lookup a = some o ∧ o.cls = .type "tuple" ∧ o.data = .seq its n ∧ its.size ≤ sizeLine ∧ Vals xs its.toList
noncomputable def absV : Value → Option V
  | .none => some .non
  | .bool b => some (.bl b)
  | .int i _ => some (.int i)
  | .str x _ => some (.str x)
  | .bytes b _ => some (.byt b)
  | .float b _ => some (.flt b)
  | .ref a => some (.ref a)
  | .type n => some (.ty n)
  | _ => none
theorem RelV.abs {x : V} {u : Value} (r : RelV x u) : absV u = some x := by
  cases x with
  | non => cases r; rfl
  | bl _ => cases r; rfl
  | int _ => obtain ⟨t, rfl⟩ := r; rfl
  | str _ => obtain ⟨t, rfl⟩ := r; rfl
  | byt _ => obtain ⟨t, rfl⟩ := r; rfl
  | flt _ => obtain ⟨t, rfl⟩ := r; rfl
  | ref _ => cases r; rfl
  | ty _ => cases r; rfl
theorem RelV.inj {x y : V} {u : Value} (r : RelV x u) (q : RelV y u) : x = y := Option.some.inj (r.abs.symm.trans q.abs)
theorem Vals.inj : ∀ {xs ys : List V} {us : List Value}, Vals xs us → Vals ys us → xs = ys
  | _, _, _, .nil, .nil => rfl
  | _, _, _, .cons r t, .cons r' t' => by rw [r.inj r', Vals.inj t t']
section
variable {X : Cx} {pins : List (Addr × Obj)} {σ : St} {H : Hp} {s : Shared} {a : Addr} {xs ys : List V}
theorem SqL.of {K : PySem.W.Frag} (h : H a = some (.lst xs)) : SqL K H a xs := .inl (.inl h)
theorem SqT.of {K : PySem.W.Frag} (h : H a = some (.tup xs)) : SqT K H a xs := .inl (.inl h)
theorem Inv.list (I : Inv X pins σ H s) (h : SqL X.K H a xs) : ∃ its : List Value, Vals xs its ∧ PlainL s.heap a its.toArray ∧ xs.length ≤ sizeLine := by
  rcases h with h | ⟨o, its, n, hk, hc, hd, hs, hz, r⟩
  · obtain ⟨z, its, n, r, e⟩ := h.ok I.hok
    exact ⟨its, r, ⟨_, n, e, rfl, rfl, rfl⟩, z⟩
  · refine ⟨its.toList, r, ⟨o, n, I.kIn a o hk, hc, hd, by simpa using hs⟩, ?_⟩
    have e := r.length
    simp only [Array.length_toList] at e
    omega
theorem Inv.tuple (I : Inv X pins σ H s) (h : SqT X.K H a xs) : ∃ its : List Value, Vals xs its ∧ IsTup s.heap a its.toArray ∧ xs.length ≤ sizeLine := by
  rcases h with h | ⟨o, its, n, hk, hc, hs, hz, r⟩
  · obtain ⟨z, its, r, p⟩ := h.ok I.hok
    exact ⟨its, r, p, z⟩
  · refine ⟨its.toList, r, ⟨o, I.kIn a o hk, hc, n, by simpa using hs⟩, ?_⟩
    have e := r.length
    simp only [Array.length_toList] at e
    omega
theorem Inv.list_inj (I : Inv X pins σ H s) (h : SqL X.K H a xs) (h' : SqL X.K H a ys) : xs = ys := by
  obtain ⟨its, r, ⟨o, n, e, _, _, d⟩, _⟩ := I.list h
  obtain ⟨its', r', ⟨o', n', e', _, _, d'⟩, _⟩ := I.list h'
  rw [e] at e'; cases e'
  rw [d] at d'
  injection d' with d1 _
  have : its = its' := by simpa using congrArg Array.toList d1
  subst this
  exact r.inj r'
theorem Inv.tuple_inj (I : Inv X pins σ H s) (h : SqT X.K H a xs) (h' : SqT X.K H a ys) : xs = ys := by
  obtain ⟨its, r, ⟨o, e, _, n, d⟩, _⟩ := I.tuple h
  obtain ⟨its', r', ⟨o', e', _, n', d'⟩, _⟩ := I.tuple h'
  rw [e] at e'; cases e'
  rw [d] at d'
  injection d' with d1 _
  have : its = its' := by simpa using congrArg Array.toList d1
  subst this
  exact r.inj r'
end

noncomputable abbrev Cx.wish (X : Cx) (E : Value → Shared → Prop) : Cx := { X with xe := E }
/-- no exception leaves -/
noncomputable abbrev Cx.nox (X : Cx) : Cx := X.wish fun _ _ => False
theorem Cx.Ok.wish {X : Cx} (ok : X.Ok) (E : Value → Shared → Prop) : (X.wish E).Ok :=
  ⟨ok.mod, ok.kind, ok.glob, ok.blt, ok.above, ok.inj, ok.has, ok.cab, ok.hd, ok.frames, ok.stk, ok.exf, ok.bs, ok.bsz, ok.noex, ok.exfs, ok.funs, ok.frf⟩
theorem Cx.Ok.unwish {X : Cx} {E : Value → Shared → Prop} (ok : (X.wish E).Ok) : X.Ok :=
  ⟨ok.mod, ok.kind, ok.glob, ok.blt, ok.above, ok.inj, ok.has, ok.cab, ok.hd, ok.frames, ok.stk, ok.exf, ok.bs, ok.bsz, ok.noex, ok.exfs, ok.funs, ok.frf⟩
section
variable {X : Cx} {pins : List (Addr × Obj)} {σ : St} {H : Hp} {s : Shared} {E : Value → Shared → Prop}
theorem Inv.wish (I : Inv X pins σ H s) (E : Value → Shared → Prop) : Inv (X.wish E) pins σ H s := ⟨I.ok.wish E, I.os, I.bare, I.base, I.loc, I.cell, I.free, I.freeC, I.pin, I.hok, I.len⟩
theorem Inv.unwish (I : Inv (X.wish E) pins σ H s) : Inv X pins σ H s := ⟨I.ok.unwish, I.os, I.bare, I.base, I.loc, I.cell, I.free, I.freeC, I.pin, I.hok, I.len⟩
theorem SP.unwish {D : Ends} {f : Flow} {s' : Shared} (h : SP (X.wish E) pins D f s') : SP X pins D f s' := by
  cases f with
  | next => obtain ⟨σ', H', I, q⟩ := h; exact ⟨σ', H', I.unwish, q⟩
  | brk => obtain ⟨σ', H', I, q⟩ := h; exact ⟨σ', H', I.unwish, q⟩
  | cont => obtain ⟨σ', H', I, q⟩ := h; exact ⟨σ', H', I.unwish, q⟩
  | ret u => obtain ⟨v, σ', H', I, r, q⟩ := h; exact ⟨v, σ', H', I.unwish, r, q⟩
theorem PSs.nox {st : List Stmt} {t : TS} (h : PSs X.nox st t) : PSs X st t := fun pins s σ H D I hw =>
  wpAny_mono (h pins s σ H D (I.wish _) hw) (fun _ _ q => q.unwish) fun _ _ z => False.elim z
end

section
variable {X : Cx} {st : Stmt} {rest : List Stmt} {t u : TS} {e : Expr} {te : TE} {pos : Pos}
noncomputable def tNext : TS := fun D σ H => D.nx σ H
noncomputable def tSeq (t u : TS) : TS := fun D σ H => t { D with nx := u D } σ H
theorem pss_nil : PSs X [] tNext := fun _ _ σ H _ I h => wpAny_execs_nil ⟨σ, H, I, h⟩
theorem pss_cons (h1 : PS X st t) (h2 : PSs X rest u) : PSs X (st :: rest) (tSeq t u) := by
  intro pins s σ H D I h
  refine wpAny_execs_cons (thn (h1 pins s σ H { D with nx := u D } I h) fun f s1 q => ?_)
  cases f with
  | next =>
    obtain ⟨σ', H', I', q⟩ := q
    exact h2 pins s1 σ' H' D I' q
  | ret v => exact q
  | brk => exact q
  | cont => exact q
theorem pss_one (h1 : PS X st t) : PSs X [st] t := by
  intro pins s σ H D I h
  refine wpAny_execs_cons (thn (h1 pins s σ H D I h) fun f s1 q => ?_)
  cases f with
  | next => exact wpAny_execs_nil q
  | ret v => exact q
  | brk => exact q
  | cont => exact q
/-- in a def's body nothing is shown -/
theorem Inv.quiet {pins : List (Addr × Obj)} {σ : St} {H : Hp} {s : Shared} (I : Inv X pins σ H s) : interactive X.env = false := by simp [interactive, I.ok.kind]
/-- an expression whose value is dropped -/
noncomputable def tDrop (te : TE) : TS := fun D σ H => te σ H fun _ H1 => D.nx σ H1
theorem ps_expr (he : PE X e te) (hs : autoParam (swapsWith e none pos.line X.env = pure false) L2.aRfl._auto_1) : PS X (.Expr e pos) (tDrop te) := by
  intro pins s σ H D I h
  exact wpAny_Expr_any (thn (he pins s σ H _ I h) fun v s1 ⟨x, H1, I1, r1, q1⟩ => ⟨σ, H1, I1, q1⟩) I.quiet hs
noncomputable def tRet (te : TE) : TS := fun D σ H => te σ H D.rt
theorem ps_ret (he : PE X e te) : PS X (.Return (some e) pos) (tRet te) := by
  intro pins s σ H D I h
  exact wpAny_Return_some (thn (he pins s σ H _ I h) fun v s1 ⟨x, H1, I1, r1, q1⟩ => ⟨x, σ, H1, I1, r1, q1⟩)
noncomputable def tIfS (c : TT) (t u : TS) : TS := fun D σ H => c σ H fun b H1 => if b = true then t D σ H1 else u D σ H1
theorem ps_if {c : Expr} {a b : List Stmt} {tc : TT} (hc : PT X c tc) (ha : PSs X a t) (hb : PSs X b u) : PS X (.If c a b pos) (tIfS tc t u) := by
  intro pins s σ H D I h
  refine wpAny_If (thn (hc pins s σ H _ I h) fun d s1 ⟨H1, I1, q1⟩ => ?_)
  cases d with
  | true => exact ha pins s1 σ H1 D I1 q1
  | false => exact hb pins s1 σ H1 D I1 q1
end

noncomputable abbrev TG := V → St → Hp → (St → Hp → Prop) → Prop
noncomputable abbrev TGs := List V → St → Hp → (St → Hp → Prop) → Prop
noncomputable def PG (X : Cx) (target : Expr) (t : TG) : Prop :=
  ∀ (pins : List (Addr × Obj)) (s : Shared) (σ : St) (H : Hp) (v : V) (u : Value) (Q : St → Hp → Prop), Inv X pins σ H s → RelV v u → t v σ H Q →
    wpAny (model X.prog X.w) X.A (assign target X.env u) (fun _ s' => ∃ σ' H', Inv X pins σ' H' s' ∧ Q σ' H') X.xe s
/-- several targets, one after another -/
noncomputable def PGs (X : Cx) (ts : List Expr) (t : TGs) : Prop :=
  ∀ (pins : List (Addr × Obj)) (s : Shared) (σ : St) (H : Hp) (vs : List V) (us : List Value) (Q : St → Hp → Prop), Inv X pins σ H s → Vals vs us → t vs σ H Q →
    wpAny (model X.prog X.w) X.A (assignInOrder ((assignEach ts X.env).map (·.2)) us) (fun _ s' => ∃ σ' H', Inv X pins σ' H' s' ∧ Q σ' H') X.xe s
/-- o[i] = v, by values -/
noncomputable abbrev TSet := V → V → V → Hp → (Hp → Prop) → Prop
noncomputable def PSet (X : Cx) (t : TSet) : Prop :=
  ∀ (pins : List (Addr × Obj)) (s : Shared) (σ : St) (H : Hp) (o i v : V) (ov iv u : Value) (Q : Hp → Prop), Inv X pins σ H s → RelV o ov → RelV i iv → RelV v u → t o i v H Q →
    wpAny (model X.prog X.w) X.A (setItem ov iv u) (fun _ s' => ∃ H', Inv X pins σ H' s' ∧ Q H') X.xe s
section
variable {X : Cx} {pos : Pos}
noncomputable def gName (i : Nat) : TG := fun v σ H Q => Q (σ.set i (some v)) H
theorem pg_name {i : Nat} {x : Str} (hN : X.N.Nodup) (hi : X.N[i]? = some x) (hx : Loc X.env.scope x) (hf : autoParam (X.fn x = true ∨ X.env.scope.names.lookup x = some .local) L2.aLoc._auto_1) : PG X (.Name x pos) (gName i) := by
  intro pins s σ H v u Q I r h
  exact wpAny_assign_Name (store_ok I hN hi hx r (fun s' I' => ⟨_, H, I', h⟩) hf)
noncomputable def gNil : TGs := fun vs σ H Q => vs = [] ∧ Q σ H
noncomputable def gCons (t : TG) (u : TGs) : TGs := fun vs σ H Q => ∃ v r, vs = v :: r ∧ t v σ H fun σ' H' => u r σ' H' Q
theorem pgs_nil : PGs X [] gNil := by
  intro pins s σ H vs us Q I r h
  obtain ⟨e, h⟩ := h
  subst e
  cases r
  exact assignInOrder_nil ⟨σ, H, I, h⟩
theorem pgs_cons {e : Expr} {es : List Expr} {t : TG} {u : TGs} (h1 : PG X e t) (h2 : PGs X es u)
    (hs : autoParam ((assignEach (e :: es) X.env).map (·.2) = assign e X.env :: (assignEach es X.env).map (·.2)) L2.aRfl._auto_1) : PGs X (e :: es) (gCons t u) := by
  intro pins s σ H vs us Q I r h
  obtain ⟨v, vr, e1, h⟩ := h
  subst e1
  cases r with
  | cons r rr =>
    rw [hs]
    refine assignInOrder_cons (thn (h1 pins s σ H _ _ _ I r h) fun _ s1 ⟨σ1, H1, I1, q1⟩ => ?_)
    exact h2 pins s1 σ1 H1 _ _ Q I1 rr q1
/-- (a, b, ..) = a tuple of that length -/
noncomputable def gTup (K : PySem.W.Frag) (n : Nat) (t : TGs) : TG := fun v σ H Q => ∃ a xs, v = .ref a ∧ SqT K H a xs ∧ xs.length = n ∧ t xs σ H Q
theorem pg_tup {es : List Expr} {k : Nat} {t : TGs} {n : Nat} (hc : X.calm = true) (h : PGs X es t)
    (hn : autoParam ((assignEach es X.env).length = n) L2.aRfl._auto_1) (hst : autoParam ((assignEach es X.env).findIdx? (·.1) = none) L2.aRfl._auto_1) : PG X (.Tuple es k pos) (gTup X.K n t) := by
  intro pins s σ H v u Q I r hw
  obtain ⟨a, xs, e1, hq, hl, hw⟩ := hw
  subst e1
  cases r
  obtain ⟨its, rv, ht, hz⟩ := I.tuple hq
  refine assign_Tuple_tuple (I.ok.hd hc) ht (by simp [hn, ← hl, rv.length]) hst fun h' hx => ?_
  have I1 : Inv X pins σ H { s with heap := h' } := I.kept (t' := s.toks) fun b o e => hx b o (Nat.ne_of_lt (Heap.lt_size e)) e
  exact h pins _ σ H xs _ Q I1 (by simpa using rv) hw
/-- o[i] = .. -/
noncomputable def gSub (to ti : TE) (t : TSet) : TG := fun v σ H Q => to σ H fun o H1 => ti σ H1 fun i H2 => t o i v H2 fun H3 => Q σ H3
theorem pg_sub {o i : Expr} {to ti : TE} {t : TSet} (ho : PE X o to) (hi : PE X i ti) (hs : PSet X t)
    (ha : ∀ v, assign (.Subscript o i pos) X.env v = (do
      let ov ← holding [v] (eval o X.env)
      let iv ← holding [v, ov] (eval i X.env)
      standAt pos
      holding [v, ov, iv] (setItem ov iv v)
      release [v, ov, iv] []) := by intro _; rfl) : PG X (.Subscript o i pos) (gSub to ti t) := by
  intro pins s σ H v u Q I r h
  rw [ha]
  refine wpAny_bind (wpAny_holding (thn (ho pins s σ H _ I h) fun ov s1 ⟨x, H1, I1, r1, q1⟩ => ?_))
  refine wpAny_bind (wpAny_holding (thn (hi pins s1 σ H1 _ I1 q1) fun iv s2 ⟨y, H2, I2, r2, q2⟩ => ?_))
  refine wpAny_bind (wpAny_standAt (wpAny_bind (wpAny_holding (thn (hs pins s2 σ H2 x y v ov iv u _ I2 r1 r2 r q2) fun _ s3 ⟨H3, I3, q3⟩ => ?_))))
  exact wpAny_release ⟨σ, H3, I3, q3⟩
/-- target = value -/
noncomputable def tAsg (te : TE) (g : TG) : TS := fun D σ H => te σ H fun x H1 => g x σ H1 D.nx
theorem ps_asg {tg e : Expr} {te : TE} {g : TG} (he : PE X e te) (hg : PG X tg g) (hs : autoParam (swapsWithSole [tg] e pos.line X.env = pure false) L2.aRfl._auto_1) (hw : autoParam (swappedStores [tg] e X.env = pure none) L2.aRfl._auto_1)
    (h1 : autoParam ((assignEach [tg] X.env).map (·.2) = [assign tg X.env]) L2.aRfl._auto_1) : PS X (.Assign [tg] e pos) (tAsg te g) := by
  intro pins s σ H D I h
  refine wpAny_Assign_stores (thn (he pins s σ H _ I h) fun v s1 ⟨x, H1, I1, r1, q1⟩ => ?_) hs hw
  rw [h1]
  exact thn (hg pins s1 σ H1 x v _ I1 r1 q1) fun _ s2 q => q
/-- name = value -/
theorem ps_set {i : Nat} {x : Str} {e : Expr} {te : TE} {pos' : Pos} (hN : X.N.Nodup) (hi : X.N[i]? = some x) (hx : Loc X.env.scope x) (he : PE X e te) (hs : autoParam (swapsWith e (some (.Name x pos')) pos.line X.env = pure false) L2.aRfl._auto_1) (hf : autoParam (X.fn x = true ∨ X.env.scope.names.lookup x = some .local) L2.aLoc._auto_1) :
    PS X (.Assign [.Name x pos'] e pos) (tAsg te (gName i)) := by
  intro pins s σ H D I h
  refine wpAny_Assign_Name (thn (he pins s σ H _ I h) fun v s1 ⟨y, H1, I1, r1, q1⟩ => ?_) hs
  exact store_ok I1 hN hi hx r1 (fun s2 I2 => ⟨_, H1, I2, q1⟩) hf
end

section
variable {X : Cx} {pos : Pos}
/-- the invariant W with its measure -/
noncomputable def tWhile (c : TT) (tb : TS) : TS := fun D σ H => ∃ W : Nat → St → Hp → Prop, (∃ m, W m σ H) ∧ ∀ m σ H, W m σ H →
  c σ H fun b H1 => if b = true then ∃ N : St → Hp → Prop, (∀ σ' H', N σ' H' → ∃ m', m' < m ∧ W m' σ' H') ∧ tb { D with nx := N, ct := N, bk := D.nx } σ H1 else D.nx σ H1
theorem ps_while {c : Expr} {body : List Stmt} {tc : TT} {tb : TS} (hp : PassesOwn (model X.prog X.w) X.A X.env X.xe) (hc : PT X c tc) (hb : PSs X body tb) : PS X (.While c body [] pos) (tWhile tc tb) := by
  intro pins s σ H D I h
  obtain ⟨W, ⟨m0, w0⟩, turn⟩ := h
  refine wpAny_While (codeAny_whileLoop (fun n s' => ∃ σ' H', Inv X pins σ' H' s' ∧ W n σ' H') ?_ m0 ⟨σ, H, I, w0⟩)
  rintro n s1 ⟨σ1, H1, I1, w1⟩
  refine wpAny_passesOwn hp (thn (hc pins s1 σ1 H1 _ I1 (turn n σ1 H1 w1)) fun b s2 ⟨H2, I2, q2⟩ => ?_)
  cases b with
  | true =>
    obtain ⟨N, hN, q2⟩ := q2
    rw [if_pos rfl]
    refine wpAny_passesOwn hp (thn (hb pins s2 σ1 H2 _ I2 q2) fun f s3 q3 => ?_)
    cases f with
    | next =>
      obtain ⟨σ3, H3, I3, n3⟩ := q3
      obtain ⟨m', hm, w3⟩ := hN σ3 H3 n3
      exact ⟨m', hm, σ3, H3, I3, w3⟩
    | cont =>
      obtain ⟨σ3, H3, I3, n3⟩ := q3
      obtain ⟨m', hm, w3⟩ := hN σ3 H3 n3
      exact ⟨m', hm, σ3, H3, I3, w3⟩
    | brk => exact q3
    | ret v => exact q3
  | false =>
    rw [if_neg Bool.false_ne_true]
    exact wpAny_execs_nil ⟨σ1, H2, I2, q2⟩
end

/-- at turn i: it yields x (the heap may grow), or it stops -/
structure It where
  go : Nat → Hp → Prop
  yld : Nat → Hp → V → Hp → Prop
  stop : Nat → Hp → Prop
/-- the iterator's own objects may turn: they are not the frame's, not pinned, younger than the entry (or a comprehension's own) -/
noncomputable def FpOk (X : Cx) (pins : List (Addr × Obj)) (H : Hp) (b : Addr) : Prop :=
  H b = none ∧ b ≠ X.env.locals ∧ b ∉ X.fs ∧ (b ∈ X.ex ∨ X.s₀.heap.objs.size ≤ b) ∧ (∀ x c, X.env.cells.lookup x = some c → c ≠ b) ∧ ∀ p ∈ X.pn ++ pins, p.1 ≠ b
theorem Inv.fpOk {X : Cx} {pins : List (Addr × Obj)} {σ : St} {H H' : Hp} {s : Shared} {b : Addr} (I : Inv X pins σ H s) (hb : s.heap.objs.size ≤ b) (hn : H' b = none) : FpOk X pins H' b := by
  refine ⟨hn, Nat.ne_of_gt (Nat.lt_of_lt_of_le I.lt hb), I.nofs hb, .inr (Nat.le_trans I.sz hb), fun x c e z => ?_, fun p hp z => ?_⟩
  · obtain ⟨v, q⟩ := I.cell x c e
    exact absurd (Nat.lt_of_lt_of_le q.lt (by rw [z]; exact hb)) (Nat.lt_irrefl _)
  · exact absurd (Nat.lt_of_lt_of_le (Heap.lt_size (I.pin p hp).1) (by rw [z]; exact hb)) (Nat.lt_irrefl _)
structure Turn (P : Program) (w : World) (K : PySem.W.Frag) (tg : Expr) (J : It) (fp : List Addr) (it : Addr) (tn : Nat → Heap → Prop) : Prop where
  mem : it ∈ fp
  obj : ∀ i h, tn i h → ∀ b ∈ fp, ∃ o, h.get? b = some o ∧ ∀ v, o.data ≠ .cell v
  keep : ∀ i h h', tn i h → (∀ b ∈ fp, ∀ o, h.get? b = some o → h'.get? b = some o) → tn i h'
  item : ∀ (X : Cx), X.prog = P → X.w = w → X.K = K → X.calm = true → ∀ (i : Nat) (pins : List (Addr × Obj)) (s : Shared) (σ : St) (H : Hp) (E : Value → Shared → Prop), Inv X pins σ H s → (∀ b ∈ fp, FpOk X pins H b) → tn i s.heap → J.go i H →
    wpAny (model P w) X.A (pyNext (.ref it)) (fun r s1 => ∃ u, r = some u ∧
      wpAny (model P w) X.A (letOwnedTupleGo tg (.ref it) u) (fun _ s2 => ∃ x H', Inv X pins σ H' s2 ∧ RelV x u ∧ J.yld i H x H' ∧ tn (i + 1) s2.heap ∧ ∀ b ∈ fp, H' b = none) E s1) E s
  done : ∀ (X : Cx), X.prog = P → X.w = w → X.K = K → X.calm = true → ∀ (i : Nat) (pins : List (Addr × Obj)) (s : Shared) (σ : St) (H : Hp) (E : Value → Shared → Prop), Inv X pins σ H s → (∀ b ∈ fp, FpOk X pins H b) → tn i s.heap → J.stop i H →
    wpAny (model P w) X.A (pyNext (.ref it)) (fun r s1 => r = none ∧ Inv X pins σ H s1) E s
  self : ∀ (A : Around) (i : Nat) (s : Shared) (Q : Value → Shared → Prop) (E : Value → Shared → Prop), tn i s.heap → Q (.ref it) s → wpAny (model P w) A (pyIter (.ref it)) Q E s
noncomputable abbrev TI := St → Hp → (It → Hp → Prop) → Prop
/-- an iterator has come -/
noncomputable def PIE (X : Cx) (pins : List (Addr × Obj)) (σ : St) (tg : Expr) (R : It → Hp → Prop) (itv : Value) (s2 : Shared) : Prop :=
  ∃ (it : Addr) (fp : List Addr) (tn : Nat → Heap → Prop) (J : It) (H' : Hp), itv = .ref it ∧ Inv X pins σ H' s2 ∧ Turn X.prog X.w X.K tg J fp it tn ∧ tn 0 s2.heap ∧ (∀ b ∈ fp, FpOk X pins H' b) ∧ R J H'
noncomputable def PI (X : Cx) (tg iter : Expr) (wi : TI) : Prop :=
  ∀ (pins : List (Addr × Obj)) (s : Shared) (σ : St) (H : Hp) (R : It → Hp → Prop), Inv X pins σ H s → wi σ H R →
    wpAny (model X.prog X.w) X.A (eval iter X.env) (fun v s1 => wpAny (model X.prog X.w) X.A (pyIter v) (PIE X pins σ tg R) X.xe s1) X.xe s

/-- the step ahead of the store is nothing for an iterator that keeps no tuple -/
theorem go_of {M : Model} {A : Around} {E : Value → Shared → Prop} {s : Shared} {tg : Expr} {it : Addr} {u : Value} {o : Obj} {n : String} {vs : Array Value} {Q : Unit → Shared → Prop} (ho : s.heap.get? it = some o) (hc : o.cls = .type n) (hd : o.data = .fields vs)
    (hn : ["enumerate", "zip", "dict_itemiterator", "dict_reverseitemiterator", "odict_iterator", "itertools.zip_longest", "itertools.pairwise"].contains n = false) (hQ : Q () s) : wpAny M A (letOwnedTupleGo tg (.ref it) u) Q E s := by
  unfold letOwnedTupleGo
  cases tg <;> first
    | exact wpAny_pure hQ
    | (cases u <;> first
        | exact wpAny_pure hQ
        | (refine wpAny_bind (wpAny_load ho ?_)
           rw [hc, hd]
           show wpAny M A (if (["enumerate", "zip", "dict_itemiterator", "dict_reverseitemiterator", "odict_iterator", "itertools.zip_longest", "itertools.pairwise"].contains n && vs[0]? == some (rawInt _)) = true then _ else _) Q E s
           rw [if_neg (by intro h; rw [hn, Bool.false_and] at h; cases h)]
           exact wpAny_pure hQ))

/-- the list at a, as it stands at each turn (a loop may append to it) -/
noncomputable def Itl (K : PySem.W.Frag) (a : Addr) : It :=
  ⟨fun i H => ∃ xs x, SqL K H a xs ∧ xs[i]? = some x, fun i H x H' => H' = H ∧ ∀ xs, SqL K H a xs → xs[i]? = some x, fun i H => ∃ xs, SqL K H a xs ∧ xs.length ≤ i⟩
noncomputable def Itt (K : PySem.W.Frag) (a : Addr) : It :=
  ⟨fun i H => ∃ xs x, SqT K H a xs ∧ xs[i]? = some x, fun i H x H' => H' = H ∧ ∀ xs, SqT K H a xs → xs[i]? = some x, fun i H => ∃ xs, SqT K H a xs ∧ xs.length ≤ i⟩
/-- lo, lo + 1, .. (n of them) -/
noncomputable def Itr (lo : Int) (n : Nat) : It := ⟨fun i _ => i < n, fun i H x H' => H' = H ∧ x = .int (lo + i), fun i _ => n ≤ i⟩
theorem turn_list {P : Program} {w : World} {K : PySem.W.Frag} {tg : Expr} (a it : Addr) : Turn P w K tg (Itl K a) [it] it (fun i h => h.IsListIter it a i) where
  mem := by simp
  obj := fun i h st b hb => by
    have e : b = it := by simpa using hb
    subst e
    obtain ⟨o, e, c, d⟩ := st
    exact ⟨o, e, fun v z => by rw [d] at z; cases z⟩
  keep := fun i h h' st k => st.at fun o e => k it (by simp) o e
  item := by
    intro X hP hw hK hc i pins s σ H E I hf st hg
    subst hP hw hK
    obtain ⟨xs, x, hq, hx⟩ := hg
    obtain ⟨its, rv, p, hz⟩ := I.list hq
    obtain ⟨u, hu, ru⟩ := rv.get hx
    obtain ⟨f0, f1, f2, f3, f4, f5⟩ := hf it (by simp)
    refine wpAny_pyNext_list_item st p.isList (x := u) (by simpa using hu) fun h' st' sb => ?_
    have I1 : Inv X pins σ H { s with heap := h' } := I.turned (t' := s.toks) (fun b o hb e => (sb.2 b hb).trans e) f0 f1 f3 f4 f5
    obtain ⟨o, e, c, d⟩ := id st'
    exact ⟨u, rfl, go_of (s := { s with heap := h' }) e c d (by decide) ⟨x, H, I1, ru, ⟨rfl, fun ys hy => by rw [I.list_inj hy hq]; exact hx⟩, st', fun b hb => (hf b hb).1⟩⟩
  done := by
    intro X hP hw hK hc i pins s σ H E I hf st hg
    subst hP hw hK
    obtain ⟨xs, hq, hx⟩ := hg
    obtain ⟨its, rv, p, hz⟩ := I.list hq
    obtain ⟨f0, f1, f2, f3, f4, f5⟩ := hf it (by simp)
    have hl := rv.length
    exact wpAny_pyNext_list_end (I.ok.hd hc) st p.isList (by simp; omega) fun h' eb => ⟨rfl, I.turned (t' := s.toks) (fun b o hb e => eb b o hb e) f0 f1 f3 f4 f5⟩
  self := fun _ _ _ _ _ st h => wpAny_pyIter_listiter st h
theorem turn_tuple {P : Program} {w : World} {K : PySem.W.Frag} {tg : Expr} (a it : Addr) : Turn P w K tg (Itt K a) [it] it (fun i h => h.IsTupleIter it a i) where
  mem := by simp
  obj := fun i h st b hb => by
    have e : b = it := by simpa using hb
    subst e
    obtain ⟨o, e, c, d⟩ := st
    exact ⟨o, e, fun v z => by rw [d] at z; cases z⟩
  keep := fun i h h' st k => st.at fun o e => k it (by simp) o e
  item := by
    intro X hP hw hK hc i pins s σ H E I hf st hg
    subst hP hw hK
    obtain ⟨xs, x, hq, hx⟩ := hg
    obtain ⟨its, rv, p, hz⟩ := I.tuple hq
    obtain ⟨u, hu, ru⟩ := rv.get hx
    obtain ⟨f0, f1, f2, f3, f4, f5⟩ := hf it (by simp)
    refine wpAny_pyNext_tuple_item st (show s.heap.IsTuple a its.toArray from p) (x := u) (by simpa using hu) fun h' st' sb => ?_
    have I1 : Inv X pins σ H { s with heap := h' } := I.turned (t' := s.toks) (fun b o hb e => (sb.2 b hb).trans e) f0 f1 f3 f4 f5
    obtain ⟨o, e, c, d⟩ := id st'
    exact ⟨u, rfl, go_of (s := { s with heap := h' }) e c d (by decide) ⟨x, H, I1, ru, ⟨rfl, fun ys hy => by rw [I.tuple_inj hy hq]; exact hx⟩, st', fun b hb => (hf b hb).1⟩⟩
  done := by
    intro X hP hw hK hc i pins s σ H E I hf st hg
    subst hP hw hK
    obtain ⟨xs, hq, hx⟩ := hg
    obtain ⟨its, rv, p, hz⟩ := I.tuple hq
    obtain ⟨f0, f1, f2, f3, f4, f5⟩ := hf it (by simp)
    have hl := rv.length
    exact wpAny_pyNext_tuple_end (I.ok.hd hc) st (show s.heap.IsTuple a its.toArray from p) (by simp; omega) fun h' eb => ⟨rfl, I.turned (t' := s.toks) (fun b o hb e => eb b o hb e) f0 f1 f3 f4 f5⟩
  self := fun _ _ _ _ _ st h => wpAny_pyIter_tupleiter st h
theorem turn_range {P : Program} {w : World} {K : PySem.W.Frag} {tg : Expr} (it : Addr) (lo : Int) (n : Nat) : Turn P w K tg (Itr lo n) [it] it (fun i h => IsRangeIter h it (lo + (i : Nat) * 1) ((n : Int) - (i : Nat)) 1) where
  mem := by simp
  obj := fun i h st b hb => by
    have e : b = it := by simpa using hb
    subst e
    exact ⟨_, st, fun v z => by
      have z' : Data.fields _ = Data.cell v := z
      cases z'⟩
  keep := fun i h h' st k => k it (by simp) _ st
  item := by
    intro X hP hw hK hc i pins s σ H E I hf st hg
    subst hP hw hK
    obtain ⟨f0, f1, f2, f3, f4, f5⟩ := hf it (by simp)
    have W := Walks.range (prog := X.prog) (w := X.w) (I.ok.hd hc) it lo 1 n
    refine W.item i s _ _ hg st fun v h' tk hv st' kk => ?_
    obtain ⟨t, rfl⟩ := hv
    have I1 : Inv X pins σ H { s with heap := h', toks := tk } := I.turned (fun b o hb e => kk b o (by simpa using hb) e) f0 f1 f3 f4 f5
    refine ⟨_, rfl, go_of (s := { s with heap := h', toks := tk }) (n := "range_iterator") st' rfl rfl (by decide) ⟨.int (lo + i), H, I1, ⟨t, ?_⟩, ⟨rfl, rfl⟩, st', fun b hb => (hf b hb).1⟩⟩
    rw [Int.mul_one]
  done := by
    intro X hP hw hK hc i pins s σ H E I hf st hg
    subst hP hw hK
    obtain ⟨f0, f1, f2, f3, f4, f5⟩ := hf it (by simp)
    exact wpAny_pyNext_range_end (I.ok.hd hc) st (by have : n ≤ i := hg; omega) fun h' eb => ⟨rfl, I.turned (t' := s.toks) (fun b o hb e => eb b o hb e) f0 f1 f3 f4 f5⟩
  self := fun _ _ _ _ _ st h => wpAny_pyIter_rangeiter st h
end L2

namespace L2
open PySem PySem.Spec PyProof.Rows
section
variable {X : Cx} {tg : Expr}
/-- a range object just made, walked -/
theorem range_it {pins : List (Addr × Obj)} {σ : St} {H : Hp} {s : Shared} {R : It → Hp → Prop} {E : Value → Shared → Prop} {lo hi : Int} {t u v : Tok} {tk : Nat} (I : Inv X pins σ H s) (h1 : -(2 ^ 62) ≤ lo) (h2 : lo < 2 ^ 62) (h3 : -(2 ^ 62) ≤ hi) (h4 : hi < 2 ^ 62)
    (q : R (Itr lo (hi - lo).toNat) H) : wpAny (model X.prog X.w) X.A (pyIter (.ref s.heap.objs.size)) (PIE X pins σ tg R) E { s with heap := s.heap.push { cls := .type "range", data := .fields #[.int lo t, .int hi u, .int 1 v] }, toks := tk } := by
  refine wpAny_pyIter_range (IsRange.new ..) (small_one h1 h2 h3 h4) ?_
  have I1 : Inv X pins σ H { s with heap := s.heap.push { cls := .type "range", data := .fields #[.int lo t, .int hi u, .int 1 v] }, toks := tk } := I.kept fun b o e => Heap.get?_push_of_some _ e
  refine ⟨(s.heap.push { cls := .type "range", data := .fields #[.int lo t, .int hi u, .int 1 v] }).objs.size, [(s.heap.push { cls := .type "range", data := .fields #[.int lo t, .int hi u, .int 1 v] }).objs.size], _, _, H, rfl,
    I1.kept (t' := tk) fun b o e => Heap.get?_push_of_some _ e, turn_range _ lo (hi - lo).toNat, ?_, fun b hb => ?_, q⟩
  · have e1 : lo + ((0 : Nat) : Int) * 1 = lo := by simp
    have e2 : (((hi - lo).toNat : Nat) : Int) - ((0 : Nat) : Int) = Builtin.Range.rangeSize lo hi 1 := by rw [rangeSize_one]; split <;> omega
    show IsRangeIter _ _ (lo + ((0 : Nat) : Int) * 1) ((((hi - lo).toNat : Nat) : Int) - ((0 : Nat) : Int)) 1
    rw [e1, e2]
    exact Heap.get?_push_size _ rfl
  · have e : b = (s.heap.push { cls := .type "range", data := .fields #[.int lo t, .int hi u, .int 1 v] }).objs.size := by simpa using hb
    subst e
    exact I1.fpOk (Nat.le_refl _) (I1.hok.fresh (Nat.le_refl _))
noncomputable def iRng1 (ta : TA) : TI := fun σ H R => ta σ H fun vs H1 => ∃ j : Int, vs = [.int j] ∧ -(2 ^ 62) ≤ j ∧ j < 2 ^ 62 ∧ R (Itr 0 j.toNat) H1
theorem pi_range1 {a : Expr} {ta : TA} {p pos : Pos} (hg : Gl X "range") (hm : X.mg "range" = none) (ha : PA X [a] ta) (hs : autoParam (starEach [a] X.env = [(false, eval a X.env)]) L2.aRfl._auto_1) : PI X tg (.Call (.Name "range" p) [a] [] pos) (iRng1 ta) := by
  intro pins s σ H R I h
  refine Call_ (ld_blt I hg hm boot_range (PyProof.Rows.callWith_type1 (thn (ha pos pins s σ H _ I h) fun us s1 ⟨vs, H1, I1, r1, q1⟩ => ?_) hs rfl))
  obtain ⟨j, e, q1, q2, q⟩ := q1
  subst e
  cases r1 with
  | cons r rr =>
    cases rr
    obtain ⟨t, rfl⟩ := r
    exact call_range_1 (range_it I1 (by omega) (by omega) q1 q2 (by simpa using q))
/-- W: the invariant by the turn and a measure; N: what the body is to reach -/
noncomputable def tFor (wi : TI) (g : TG) (tb : TS) : TS := fun D σ H => wi σ H fun J H1 => ∃ W : Nat → Nat → St → Hp → Prop, (∃ m, W 0 m σ H1) ∧ ∀ i m σ H, W i m σ H →
  (J.stop i H ∧ D.nx σ H) ∨ (J.go i H ∧ ∃ N : St → Hp → Prop, (∀ σ' H', N σ' H' → ∃ m', m' < m ∧ W (i + 1) m' σ' H') ∧ ∀ x H', J.yld i H x H' → g x σ H' fun σ2 H2 => tb { D with nx := N, ct := N, bk := D.nx } σ2 H2)
/-- the records at fp as they stand -/
noncomputable def pinsAt (fp : List Addr) (h : Heap) : List (Addr × Obj) := fp.filterMap fun b => (h.get? b).map fun o => (b, o)
theorem mem_pinsAt {fp : List Addr} {h : Heap} {b : Addr} {o : Obj} (hb : b ∈ fp) (e : h.get? b = some o) : (b, o) ∈ pinsAt fp h := List.mem_filterMap.mpr ⟨b, hb, by rw [e]; rfl⟩
theorem of_pinsAt {fp : List Addr} {h : Heap} {p : Addr × Obj} (hp : p ∈ pinsAt fp h) : p.1 ∈ fp ∧ h.get? p.1 = some p.2 := by
  obtain ⟨b, hb, e⟩ := List.mem_filterMap.mp hp
  cases q : h.get? b with
  | none => rw [q] at e; cases e
  | some o =>
    rw [q] at e
    have e' : (b, o) = p := Option.some.inj e
    subst e'
    exact ⟨hb, q⟩
theorem Inv.pinned {pins : List (Addr × Obj)} {σ : St} {H : Hp} {s : Shared} {fp : List Addr} (I : Inv X pins σ H s) (hf : ∀ b ∈ fp, FpOk X pins H b) (ho : ∀ b ∈ fp, ∃ o, s.heap.get? b = some o ∧ ∀ v, o.data ≠ .cell v) : Inv X (pins ++ pinsAt fp s.heap) σ H s :=
  I.pins_of fun p hp => (List.mem_append.mp hp).elim (fun z => I.pin p (List.mem_append_right _ z)) fun z => by
    obtain ⟨hb, e⟩ := of_pinsAt z
    obtain ⟨f0, f1, f2, _⟩ := hf p.1 hb
    obtain ⟨o, e', d⟩ := ho p.1 hb
    rw [e] at e'; cases e'
    exact ⟨e, f0, f1, f2, d⟩
theorem Inv.unpinned {pins pl : List (Addr × Obj)} {σ : St} {H : Hp} {s : Shared} (I : Inv X (pins ++ pl) σ H s) : Inv X pins σ H s := I.pins_of fun p hp => I.pin p (List.mem_append_right _ (List.mem_append_left _ hp))
theorem ps_for {iter : Expr} {body : List Stmt} {wi : TI} {g : TG} {tb : TS} {pos : Pos} (hp : PassesOwn (model X.prog X.w) X.A X.env X.xe) (hc : X.calm = true) (hi : PI X tg iter wi) (hg : PG X tg g) (hb : PSs X body tb)
    (hs : ∀ x, foldedSetIterable iter X.env x = pure x := by intro _; rfl) : PS X (.For tg iter body [] pos) (tFor wi g tb) := by
  intro pins s σ H D I h
  refine wpAny_For (thn (hi pins s σ H _ I h) fun v s1 h1 => thn h1 fun itv s2 h2 => ?_) hs
  obtain ⟨it, fp, tn, J, H2, e, I2, T, st2, f2, W, ⟨m0, w0⟩, turn⟩ := h2
  subst e
  -- what stays true of the iterator's objects through the loop
  have stat : ∀ {H' : Hp}, (∀ b ∈ fp, H' b = none) → ∀ b ∈ fp, FpOk X pins H' b := fun hn b hb => ⟨hn b hb, (f2 b hb).2⟩
  refine codeAny_forLoop_any (fun n s' => ∃ i σ' H', Inv X pins σ' H' s' ∧ tn i s'.heap ∧ (∀ b ∈ fp, H' b = none) ∧ W i n σ' H') ?_ m0 ⟨0, σ, H2, I2, st2, fun b hb => (f2 b hb).1, w0⟩
  rintro n s3 ⟨i, σ3, H3, I3, st3, fr3, w3⟩
  rcases turn i n σ3 H3 w3 with ⟨stop, qn⟩ | ⟨go, N, hN, step⟩
  · refine wpAny_passesOwn hp (thn (T.done X rfl rfl rfl hc i pins s3 σ3 H3 X.xe I3 (stat fr3) st3 stop) fun r s4 ⟨hr, I4⟩ => ?_)
    subst hr
    exact wpAny_execs_nil ⟨σ3, H3, I4, qn⟩
  · refine wpAny_passesOwn hp (thn (T.item X rfl rfl rfl hc i pins s3 σ3 H3 X.xe I3 (stat fr3) st3 go) fun r s4 ⟨u, hr, h4⟩ => ?_)
    subst hr
    refine wpAny_passesOwn hp (thn h4 fun _ s5 ⟨x, H5, I5, r5, y5, st5, fr5⟩ => ?_)
    have I5' := I5.pinned (stat fr5) (T.obj _ _ st5)
    refine wpAny_passesOwn hp (thn (hg _ s5 σ3 H5 x u _ I5' r5 (step x H5 y5)) fun _ s6 ⟨σ6, H6, I6, q6⟩ => ?_)
    refine wpAny_passesOwn hp (thn (hb _ s6 σ6 H6 _ I6 q6) fun f s7 q7 => ?_)
    have again : ∀ {σ7 : St} {H7 : Hp}, Inv X (pins ++ pinsAt fp s5.heap) σ7 H7 s7 → N σ7 H7 → ∃ m, m < n ∧ ∃ i σ' H', Inv X pins σ' H' s7 ∧ tn i s7.heap ∧ (∀ b ∈ fp, H' b = none) ∧ W i m σ' H' := fun {σ7 H7} I7 n7 => by
      obtain ⟨m', hm, w7⟩ := hN σ7 H7 n7
      refine ⟨m', hm, i + 1, σ7, H7, I7.unpinned, T.keep _ _ _ st5 fun b hb o e => (I7.pin (b, o) (List.mem_append_right _ (List.mem_append_right _ (mem_pinsAt hb e)))).1, fun b hb => ?_, w7⟩
      obtain ⟨o, e, d⟩ := T.obj _ _ st5 b hb
      exact (I7.pin (b, o) (List.mem_append_right _ (List.mem_append_right _ (mem_pinsAt hb e)))).2.1
    cases f with
    | next => obtain ⟨σ7, H7, I7, n7⟩ := q7; exact again I7 n7
    | cont => obtain ⟨σ7, H7, I7, n7⟩ := q7; exact again I7 n7
    | brk => obtain ⟨σ7, H7, I7, q7⟩ := q7; exact ⟨σ7, H7, I7.unpinned, q7⟩
    | ret v => obtain ⟨x7, σ7, H7, I7, r7, q7⟩ := q7; exact ⟨x7, σ7, H7, I7.unpinned, r7, q7⟩
end

end L2

namespace L2
open PySem PySem.Spec PyProof.Rows

noncomputable abbrev R2 := V → V → Hp → VK → Prop
/-- a two-place operation on values: f is binaryOp op, inplaceOp op or compareOp op -/
noncomputable def OpR (X : Cx) (f : Value → Value → Sem Value) (r : R2) : Prop :=
  ∀ (pins : List (Addr × Obj)) (s : Shared) (σ : St) (H : Hp) (x y : V) (v u : Value) (Q : VK), Inv X pins σ H s → RelV x v → RelV y u → r x y H Q →
    wpAny (model X.prog X.w) X.A (f v u) (EP X pins σ Q) X.xe s
/-- a one-place operation -/
noncomputable def UnR (X : Cx) (f : Value → Sem Value) (r : V → Hp → VK → Prop) : Prop :=
  ∀ (pins : List (Addr × Obj)) (s : Shared) (σ : St) (H : Hp) (x : V) (v : Value) (Q : VK), Inv X pins σ H s → RelV x v → r x H Q →
    wpAny (model X.prog X.w) X.A (f v) (EP X pins σ Q) X.xe s
/-- a call of a value that is known (a builtin, a type) with values -/
noncomputable def CallR (X : Cx) (f : Value) (r : List V → Hp → VK → Prop) : Prop :=
  ∀ (pins : List (Addr × Obj)) (s : Shared) (σ : St) (H : Hp) (xs : List V) (us : List Value) (Q : VK), Inv X pins σ H s → Vals xs us → r xs H Q →
    wpAny (model X.prog X.w) X.A (call f us) (EP X pins σ Q) X.xe s
/-- a value's truth -/
noncomputable def TruR (X : Cx) (r : V → Hp → (Bool → Hp → Prop) → Prop) : Prop :=
  ∀ (pins : List (Addr × Obj)) (s : Shared) (σ : St) (H : Hp) (x : V) (v : Value) (Q : Bool → Hp → Prop), Inv X pins σ H s → RelV x v → r x H Q →
    wpAny (model X.prog X.w) X.A (truthy v) (TP X pins σ Q) X.xe s

noncomputable def tOp (r : R2) (ta tb : TE) : TE := fun σ H Q => ta σ H fun x H1 => tb σ H1 fun y H2 => r x y H2 Q
noncomputable def tUn (r : V → Hp → VK → Prop) (ta : TE) : TE := fun σ H Q => ta σ H fun x H1 => r x H1 Q
/-- ints in, under C, and a value out -/
noncomputable def rI (C : Int → Int → Prop) (g : Int → Int → V) : R2 := fun x y H Q => ∃ i j, x = .int i ∧ y = .int j ∧ C i j ∧ Q (g i j) H
noncomputable def rI0 (g : Int → Int → V) : R2 := fun x y H Q => ∃ i j, x = .int i ∧ y = .int j ∧ Q (g i j) H
noncomputable def rU (g : Int → V) : V → Hp → VK → Prop := fun x H Q => ∃ i, x = .int i ∧ Q (g i) H

section
variable {X : Cx} {a b c : Expr} {ta tb tc : TE} {pos : Pos}

theorem binT (ha : PE X a ta) (hb : PE X b tb) {pins : List (Addr × Obj)} {s : Shared} {σ : St} {H : Hp} {R : V → V → Hp → Prop} (I : Inv X pins σ H s)
    (h : ta σ H fun x H1 => tb σ H1 fun y H2 => R x y H2) {Q : Value → Shared → Prop} {f : Value → Value → Sem Value}
    (hf : ∀ v u s2 x y H2, Inv X pins σ H2 s2 → RelV x v → RelV y u → R x y H2 → wpAny (model X.prog X.w) X.A (f v u) Q X.xe s2) :
    wpAny (model X.prog X.w) X.A (eval a X.env) (fun v s₁ => wpAny (model X.prog X.w) X.A (eval b X.env) (fun u s₂ => wpAny (model X.prog X.w) X.A (f v u) Q X.xe s₂) X.xe s₁) X.xe s := by
  refine thn (ha pins s σ H _ I h) fun v s1 ⟨x, H1, I1, r1, q1⟩ => ?_
  refine thn (hb pins s1 σ H1 _ I1 q1) fun u s2 ⟨y, H2, I2, r2, q2⟩ => ?_
  exact hf v u s2 x y H2 I2 r1 r2 q2

theorem pe_op {op : Operator} {r : R2} (ho : OpR X (binaryOp op) r) (ha : PE X a ta) (hb : PE X b tb) : PE X (.BinOp a op b pos) (tOp r ta tb) := by
  intro pins s σ H Q I h
  exact wpAny_BinOp (binT ha hb I h fun v u s2 x y H2 I2 rx ry q => ho pins s2 σ H2 x y v u Q I2 rx ry q)
theorem pe_un {op : UnaryOp} {r : V → Hp → VK → Prop} (ho : UnR X (unaryOp op) r) (ha : PE X a ta) : PE X (.UnaryOp op a pos) (tUn r ta) := by
  intro pins s σ H Q I h
  exact UnaryOp_ (thn (ha pins s σ H _ I h) fun v s1 ⟨x, H1, I1, r1, q1⟩ => ho pins s1 σ H1 x v Q I1 r1 q1)
theorem opI {f : Value → Value → Sem Value} {C : Int → Int → Prop} {g : Int → Int → Int}
    (rule : ∀ (i j : Int) (t u : Tok) (s : Shared) (Q : Value → Shared → Prop) (E : Value → Shared → Prop), C i j → Q (.int (g i j) s.toks) { s with toks := s.toks + 1 } → wpAny (model X.prog X.w) X.A (f (.int i t) (.int j u)) Q E s) :
    OpR X f (rI C fun i j => .int (g i j)) := by
  intro pins s σ H x y v u Q I rx ry h
  obtain ⟨i, j, rfl, rfl, hc, q⟩ := h
  obtain ⟨t, rfl⟩ := rx
  obtain ⟨t', rfl⟩ := ry
  exact rule i j t t' s _ _ hc ⟨.int (g i j), H, I.tok _, ⟨_, rfl⟩, q⟩
theorem opI0 {f : Value → Value → Sem Value} {g : Int → Int → Int}
    (rule : ∀ (i j : Int) (t u : Tok) (s : Shared) (Q : Value → Shared → Prop) (E : Value → Shared → Prop), Q (.int (g i j) s.toks) { s with toks := s.toks + 1 } → wpAny (model X.prog X.w) X.A (f (.int i t) (.int j u)) Q E s) :
    OpR X f (rI0 fun i j => .int (g i j)) := by
  intro pins s σ H x y v u Q I rx ry h
  obtain ⟨i, j, rfl, rfl, q⟩ := h
  obtain ⟨t, rfl⟩ := rx
  obtain ⟨t', rfl⟩ := ry
  exact rule i j t t' s _ _ ⟨.int (g i j), H, I.tok _, ⟨_, rfl⟩, q⟩
theorem opB0 {f : Value → Value → Sem Value} {g : Int → Int → Bool}
    (rule : ∀ (i j : Int) (t u : Tok) (s : Shared) (Q : Value → Shared → Prop) (E : Value → Shared → Prop), Q (.bool (g i j)) s → wpAny (model X.prog X.w) X.A (f (.int i t) (.int j u)) Q E s) :
    OpR X f (rI0 fun i j => .bl (g i j)) := by
  intro pins s σ H x y v u Q I rx ry h
  obtain ⟨i, j, rfl, rfl, q⟩ := h
  obtain ⟨t, rfl⟩ := rx
  obtain ⟨t', rfl⟩ := ry
  exact rule i j t t' s _ _ ⟨.bl (g i j), H, I, rfl, q⟩

noncomputable def CPow (i j : Int) : Prop := 0 ≤ j ∧ j ≤ 1000000 ∧ i.natAbs < 2 ^ 64
noncomputable def CMul (i j : Int) : Prop := (-(2 ^ 64) < i ∧ i < 2 ^ 64) ∨ (-(2 ^ 64) < j ∧ j < 2 ^ 64)
theorem CMul.ok {i j : Int} (h : CMul i j) : IntMulOk i j := by
  rcases h with ⟨h1, h2⟩ | ⟨h1, h2⟩
  · exact .of_left (intBits_le_64 h1 h2)
  · exact .of_right (intBits_le_64 h1 h2)
theorem op_add : OpR X (binaryOp .Add) (rI0 fun i j => .int (i + j)) := opI0 fun _ _ _ _ _ _ _ q => add_int q
theorem op_sub : OpR X (binaryOp .Sub) (rI0 fun i j => .int (i - j)) := opI0 fun _ _ _ _ _ _ _ q => sub_int q
theorem op_mul : OpR X (binaryOp .Mult) (rI CMul fun i j => .int (i * j)) := opI fun _ _ _ _ _ _ _ hc q => mul_int q hc.ok
/-- % by a positive divisor of any size -/
theorem op_mod : OpR X (binaryOp .Mod) (rI (fun _ j => 0 < j) fun i j => .int (i % j)) := opI fun i j _ _ _ _ _ hc q => by
  have h1 : (0 : Int) < j := hc
  exact mod_int' (by omega) (by rw [Int.fmod_eq_emod_of_nonneg i (by omega)]; exact q)
theorem op_pow : OpR X (binaryOp .Pow) (rI CPow fun i j => .int (i ^ j.toNat)) := opI fun _ _ _ _ _ _ _ hc q => pow_int_small hc.1 hc.2.1 hc.2.2 q
theorem unI {f : Value → Sem Value} {g : Int → Int}
    (rule : ∀ (i : Int) (t : Tok) (s : Shared) (Q : Value → Shared → Prop) (E : Value → Shared → Prop), Q (.int (g i) s.toks) { s with toks := s.toks + 1 } → wpAny (model X.prog X.w) X.A (f (.int i t)) Q E s) :
    UnR X f (rU fun i => .int (g i)) := by
  intro pins s σ H x v Q I rx h
  obtain ⟨i, rfl, q⟩ := h
  obtain ⟨t, rfl⟩ := rx
  exact rule i t s _ _ ⟨.int (g i), H, I.tok _, ⟨_, rfl⟩, q⟩
theorem un_neg : UnR X (unaryOp .USub) (rU fun i => .int (-i)) := unI fun _ _ _ _ _ q => neg_int q
end

/-- the scalars that == tells apart as data does -/
noncomputable def scal : V → V → Bool
  | .non, .non => true | .non, .int _ => true | .int _, .non => true | .non, .bl _ => true | .bl _, .non => true | .non, .str _ => true | .str _, .non => true
  | .int _, .int _ => true | .bl _, .bl _ => true | .str _, .str _ => true | .byt _, .byt _ => true
  | .int _, .str _ => true | .str _, .int _ => true | .bl _, .str _ => true | .str _, .bl _ => true
  | _, _ => false
noncomputable def rEq : R2 := fun x y H Q => scal x y = true ∧ Q (.bl (decide (x = y))) H
noncomputable def rNe : R2 := fun x y H Q => scal x y = true ∧ Q (.bl (!decide (x = y))) H

theorem dec_int {i j : Int} : decide (V.int i = V.int j) = (i == j) := by
  rw [Bool.eq_iff_iff]
  simp
theorem dec_bl {i j : Bool} : decide (V.bl i = V.bl j) = (i == j) := by
  rw [Bool.eq_iff_iff]
  simp
theorem dec_str {i j : Str} : decide (V.str i = V.str j) = (i == j) := by
  rw [Bool.eq_iff_iff]
  simp
theorem dec_byt {i j : Array UInt8} : decide (V.byt i = V.byt j) = (i.toList == j.toList) := by
  rw [Bool.eq_iff_iff]
  cases i
  cases j
  simp

section
variable {X : Cx} {a b c : Expr} {ta tb tc : TE} {pos : Pos}
theorem fin_bl {pins : List (Addr × Obj)} {σ : St} {H : Hp} {s : Shared} {Q : VK} {k k' : Bool} (I : Inv X pins σ H s) (q : Q (.bl k) H) (e : k = k') : EP X pins σ Q (.bool k') s := by
  subst e
  exact ⟨.bl k, H, I, rfl, q⟩
theorem op_eq : OpR X (compareOp .Eq) rEq := by
  intro pins s σ H x y v u Q I rx ry h
  obtain ⟨hs, q⟩ := h
  cases x with
  | non =>
    cases rx
    cases y with
    | non => cases ry; exact PySem.EqNone.eq_none_none (fin_bl I q (by simp))
    | bl j => cases ry; exact PySem.EqNone.eq_none_bool (fin_bl I q (by simp))
    | int j => obtain ⟨t', rfl⟩ := ry; exact PySem.EqNone.eq_none_int (fin_bl I q (by simp))
    | str j => obtain ⟨t', rfl⟩ := ry; exact PySem.EqNone.eq_none_str (fin_bl I q (by simp))
    | _ => exact absurd (show false = true from hs) Bool.false_ne_true
  | bl i =>
    cases rx
    cases y with
    | non => cases ry; exact PySem.EqNone.eq_bool_none (fin_bl I q (by simp))
    | bl j => cases ry; exact eq_bool (fin_bl I q dec_bl)
    | str j => obtain ⟨t', rfl⟩ := ry; exact PySem.EqMixed.eq_bool_str (fin_bl I q (by simp))
    | _ => exact absurd (show false = true from hs) Bool.false_ne_true
  | int i =>
    obtain ⟨t, rfl⟩ := rx
    cases y with
    | non => cases ry; exact PySem.EqNone.eq_int_none (fin_bl I q (by simp))
    | int j => obtain ⟨t', rfl⟩ := ry; exact eq_int (fin_bl I q dec_int)
    | str j => obtain ⟨t', rfl⟩ := ry; exact PySem.EqMixed.eq_int_str (fin_bl I q (by simp))
    | _ => exact absurd (show false = true from hs) Bool.false_ne_true
  | str i =>
    obtain ⟨t, rfl⟩ := rx
    cases y with
    | non => cases ry; exact PySem.EqNone.eq_str_none (fin_bl I q (by simp))
    | bl j => cases ry; exact PySem.EqMixed.eq_str_bool (fin_bl I q (by simp))
    | int j => obtain ⟨t', rfl⟩ := ry; exact PySem.EqMixed.eq_str_int (fin_bl I q (by simp))
    | str j => obtain ⟨t', rfl⟩ := ry; exact eq_str (fin_bl I q dec_str)
    | _ => exact absurd (show false = true from hs) Bool.false_ne_true
  | byt i =>
    obtain ⟨t, rfl⟩ := rx
    cases y with
    | byt j => obtain ⟨t', rfl⟩ := ry; exact PySem.W.eq_bytes (fin_bl I q dec_byt)
    | _ => exact absurd (show false = true from hs) Bool.false_ne_true
  | _ => cases y <;> exact absurd (show false = true from hs) Bool.false_ne_true
theorem op_ne : OpR X (compareOp .NotEq) rNe := by
  intro pins s σ H x y v u Q I rx ry h
  obtain ⟨hs, q⟩ := h
  cases x with
  | non =>
    cases rx
    cases y with
    | non => cases ry; exact PySem.EqNone.ne_none_none (fin_bl I q (by simp))
    | bl j => cases ry; exact PySem.EqNone.ne_none_bool (fin_bl I q (by simp))
    | int j => obtain ⟨t', rfl⟩ := ry; exact PySem.EqNone.ne_none_int (fin_bl I q (by simp))
    | str j => obtain ⟨t', rfl⟩ := ry; exact PySem.EqNone.ne_none_str (fin_bl I q (by simp))
    | _ => exact absurd (show false = true from hs) Bool.false_ne_true
  | bl i =>
    cases rx
    cases y with
    | non => cases ry; exact PySem.EqNone.ne_bool_none (fin_bl I q (by simp))
    | bl j => cases ry; exact ne_bool (fin_bl I q (congrArg not dec_bl))
    | str j => obtain ⟨t', rfl⟩ := ry; exact PySem.EqMixed.ne_bool_str (fin_bl I q (by simp))
    | _ => exact absurd (show false = true from hs) Bool.false_ne_true
  | int i =>
    obtain ⟨t, rfl⟩ := rx
    cases y with
    | non => cases ry; exact PySem.EqNone.ne_int_none (fin_bl I q (by simp))
    | int j => obtain ⟨t', rfl⟩ := ry; exact ne_int (fin_bl I q (congrArg not dec_int))
    | str j => obtain ⟨t', rfl⟩ := ry; exact PySem.EqMixed.ne_int_str (fin_bl I q (by simp))
    | _ => exact absurd (show false = true from hs) Bool.false_ne_true
  | str i =>
    obtain ⟨t, rfl⟩ := rx
    cases y with
    | non => cases ry; exact PySem.EqNone.ne_str_none (fin_bl I q (by simp))
    | bl j => cases ry; exact PySem.EqMixed.ne_str_bool (fin_bl I q (by simp))
    | int j => obtain ⟨t', rfl⟩ := ry; exact PySem.EqMixed.ne_str_int (fin_bl I q (by simp))
    | str j => obtain ⟨t', rfl⟩ := ry; exact ne_str (fin_bl I q (congrArg not dec_str))
    | _ => exact absurd (show false = true from hs) Bool.false_ne_true
  | byt i =>
    obtain ⟨t, rfl⟩ := rx
    cases y with
    | byt j => obtain ⟨t', rfl⟩ := ry; exact PySem.W.ne_bytes (fin_bl I q (congrArg not dec_byt))
    | _ => exact absurd (show false = true from hs) Bool.false_ne_true
  | _ => cases y <;> exact absurd (show false = true from hs) Bool.false_ne_true

theorem op_lt : OpR X (compareOp .Lt) (rI0 fun i j => .bl (decide (i < j))) := opB0 fun _ _ _ _ _ _ _ q => lt_int q
theorem op_le : OpR X (compareOp .LtE) (rI0 fun i j => .bl (decide (i ≤ j))) := opB0 fun _ _ _ _ _ _ _ q => le_int q
theorem op_gt : OpR X (compareOp .Gt) (rI0 fun i j => .bl (decide (j < i))) := opB0 fun _ _ _ _ _ _ _ q => gt_int q
theorem op_ge : OpR X (compareOp .GtE) (rI0 fun i j => .bl (decide (j ≤ i))) := opB0 fun _ _ _ _ _ _ _ q => ge_int q
/-- is None, is not None: the right side a value none -/
theorem op_isN : OpR X (compareOp .Is) (fun x y H Q => y = .non ∧ Q (.bl (decide (x = .non))) H) := by
  intro pins s σ H x y v u Q I rx ry h
  obtain ⟨rfl, q⟩ := h
  cases ry
  refine is_none_gen (fin_bl I q ?_)
  cases x <;> first
    | (cases rx; rfl)
    | (obtain ⟨t, rfl⟩ := rx; rfl)
theorem op_notN : OpR X (compareOp .IsNot) (fun x y H Q => y = .non ∧ Q (.bl (!decide (x = .non))) H) := by
  intro pins s σ H x y v u Q I rx ry h
  obtain ⟨rfl, q⟩ := h
  cases ry
  refine isnot_none_gen (fin_bl I q ?_)
  cases x <;> first
    | (cases rx; rfl)
    | (obtain ⟨t, rfl⟩ := rx; rfl)

/-- two rules for one operation: by cases -/
theorem OpR.or {f : Value → Value → Sem Value} {r r' : R2} (h : OpR X f r) (h' : OpR X f r') : OpR X f (fun x y H Q => r x y H Q ∨ r' x y H Q) := by
  intro pins s σ H x y v u Q I rx ry q
  rcases q with q | q
  · exact h pins s σ H x y v u Q I rx ry q
  · exact h' pins s σ H x y v u Q I rx ry q

/-- a comparison as a value; hm: nomark b, or (for in, not in) by with_unfolding_all rfl -/
theorem pe_cmpR {op : CmpOp} {r : R2} (ho : OpR X (compareOp op) r) (ha : PE X a ta) (hb : PE X b tb) (hm : behindInMarks op b = false) : PE X (.Compare a [op] [b] pos) (tOp r ta tb) := by
  intro pins s σ H Q I h
  exact wpAny_Compare1 (binT ha hb I h fun v u s2 x y H2 I2 rx ry q => ho pins s2 σ H2 x y v u Q I2 rx ry q) hm
/-- a reading of a value as a test -/
noncomputable def tTest (t : TE) : TT := fun σ H Q => t σ H fun x H' => ∃ k, x = .bl k ∧ Q k H'
theorem pt_cmpR {op : CmpOp} {r : R2} (ho : OpR X (compareOp op) r) (ha : PE X a ta) (hb : PE X b tb) (hm : behindInMarks op b = false) : PT X (.Compare a [op] [b] pos) (tTest (tOp r ta tb)) := by
  intro pins s σ H Q I h
  refine wpAny_isTrue_Compare1 (thn (ha pins s σ H _ I h) fun v s1 ⟨x, H1, I1, r1, q1⟩ => thn (hb pins s1 σ H1 _ I1 q1) fun u s2 ⟨y, H2, I2, r2, q2⟩ =>
    thn (ho pins s2 σ H2 x y v u _ I2 r1 r2 q2) fun c s3 ⟨z, H3, I3, r3, k, e, q3⟩ => ?_) hm
  subst e
  cases r3
  exact wpAny_truthy_bool ⟨H3, I3, q3⟩
/-- a op1 b op2 c -/
noncomputable def tChain (r r' : R2) (ta tb tc : TE) : TE := fun σ H Q => ta σ H fun x H1 => tb σ H1 fun y H2 => r x y H2 fun z H3 => ∃ k, z = .bl k ∧
  (if k = true then tc σ H3 fun w' H4 => r' y w' H4 Q else Q (.bl false) H3)
theorem pe_chain {op op' : CmpOp} {r r' : R2} (ho : OpR X (compareOp op) r) (ho' : OpR X (compareOp op') r') (ha : PE X a ta) (hb : PE X b tb) (hc : PE X c tc)
    (hm : lastMarks [op, op'] [b, c] = false := by with_unfolding_all rfl) : PE X (.Compare a [op, op'] [b, c] pos) (tChain r r' ta tb tc) := by
  intro pins s σ H Q I h
  refine Compare_chain (thn (ha pins s σ H _ I h) fun v s1 ⟨x, H1, I1, r1, q1⟩ => chain_link (thn (hb pins s1 σ H1 _ I1 q1) fun u s2 ⟨y, H2, I2, r2, q2⟩ =>
    thn (ho pins s2 σ H2 x y v u _ I2 r1 r2 q2) fun d s3 ⟨z, H3, I3, r3, k, e, q3⟩ => ?_)) hm
  subst e
  cases r3
  refine wpAny_truthy_bool ?_
  cases k with
  | false => exact ite_ff ⟨.bl false, H3, I3, rfl, q3⟩
  | true => exact ite_tt (chain_last (thn (hc pins s3 σ H3 _ I3 q3) fun w' s4 ⟨z', H4, I4, r4, q4⟩ => ho' pins s4 σ H4 y z' u w' Q I4 r2 r4 q4))
theorem pt_chain {op op' : CmpOp} {r r' : R2} (ho : OpR X (compareOp op) r) (ho' : OpR X (compareOp op') r') (ha : PE X a ta) (hb : PE X b tb) (hc : PE X c tc)
    (hm : lastMarks [op, op'] [b, c] = false := by with_unfolding_all rfl) : PT X (.Compare a [op, op'] [b, c] pos) (tTest (tChain r r' ta tb tc)) := by
  intro pins s σ H Q I h
  refine isTrue_chain (thn (ha pins s σ H _ I h) fun v s1 ⟨x, H1, I1, r1, q1⟩ => test_link (thn (hb pins s1 σ H1 _ I1 q1) fun u s2 ⟨y, H2, I2, r2, q2⟩ =>
    thn (ho pins s2 σ H2 x y v u _ I2 r1 r2 q2) fun d s3 ⟨z, H3, I3, r3, k, e, q3⟩ => ?_)) hm
  subst e
  cases r3
  refine wpAny_truthy_bool ?_
  cases k with
  | false =>
    obtain ⟨k', e', q'⟩ := q3
    cases e'
    exact ite_ff ⟨H3, I3, q'⟩
  | true =>
    refine ite_tt (test_last (thn (hc pins s3 σ H3 _ I3 q3) fun w' s4 ⟨z', H4, I4, r4, q4⟩ => thn (ho' pins s4 σ H4 y z' u w' _ I4 r2 r4 q4) fun d' s5 ⟨z2, H5, I5, r5, k2, e2, q5⟩ => ?_))
    subst e2
    cases r5
    exact wpAny_truthy_bool ⟨H5, I5, q5⟩

/-- a value's truth by the abstract heap -/
noncomputable def TruV (K : PySem.W.Frag) (x : V) (H : Hp) (k : Bool) : Prop :=
  match x with
  | .non => k = false
  | .bl b => k = b
  | .int i => k = (i != 0)
  | .str y => y.length ≤ sizeLine ∧ k = ((y.length : Int) != 0)
  | .byt y => y.size ≤ sizeLine ∧ k = ((y.size : Int) != 0)
  | .ref p => (∃ xs, SqL K H p xs ∧ k = !xs.isEmpty) ∨ (∃ xs, SqT K H p xs ∧ k = !xs.isEmpty) ∨ ∃ kvs, H p = some (.dK kvs) ∧ k = !kvs.isEmpty
  | _ => False
theorem isEmpty_kv {κ : Type} {kvs : List (κ × V)} {vs : List (κ × Value)} (r : KV kvs vs) : (!vs.isEmpty) = !kvs.isEmpty := by
  cases r <;> rfl
theorem isEmpty_of {xs : List V} {its : List Value} (r : Vals xs its) : (!its.toArray.isEmpty) = !xs.isEmpty := by
  cases r <;> simp
theorem line63 : (sizeLine : Nat) < 2 ^ 63 := by rw [sizeLine_eq]; decide
theorem tru_ok : TruR X (fun x H Q => ∃ k, TruV X.K x H k ∧ Q k H) := by
  intro pins s σ H x v Q I rx h
  obtain ⟨k, e, q⟩ := h
  have hl := line63
  have hs : sizeLine = 16777216 := sizeLine_eq
  cases x with
  | non =>
    cases rx
    have e' : k = false := e
    subst e'
    exact truthy_none ⟨H, I, q⟩
  | bl b =>
    cases rx
    have e' : k = b := e
    subst e'
    exact wpAny_truthy_bool ⟨H, I, q⟩
  | int i =>
    obtain ⟨t, rfl⟩ := rx
    have e' : k = (i != 0) := e
    subst e'
    exact PySem.P.truthy_int ⟨H, I, q⟩
  | str y =>
    obtain ⟨t, rfl⟩ := rx
    obtain ⟨hy, e'⟩ : y.length ≤ sizeLine ∧ k = ((y.length : Int) != 0) := e
    subst e'
    exact PySem.P.truthy_str (by omega) ⟨H, I.tok _, q⟩
  | byt y =>
    obtain ⟨t, rfl⟩ := rx
    obtain ⟨hy, e'⟩ : y.size ≤ sizeLine ∧ k = ((y.size : Int) != 0) := e
    subst e'
    exact PySem.W.truthy_bytes (by omega) ⟨H, I.tok _, q⟩
  | ref p =>
    cases rx
    have e' : (∃ xs, SqL X.K H p xs ∧ k = !xs.isEmpty) ∨ (∃ xs, SqT X.K H p xs ∧ k = !xs.isEmpty) ∨ ∃ kvs, H p = some (.dK kvs) ∧ k = !kvs.isEmpty := e
    rcases e' with ⟨xs, hx, e'⟩ | ⟨xs, hx, e'⟩ | ⟨kvs, hx, e'⟩
    · subst e'
      obtain ⟨its, r, pl, hz⟩ := I.list hx
      have hlen := r.length
      exact wpAny_truthy_list pl.isList (by simp only [List.size_toArray]; omega) ⟨H, I.tok _, by rw [isEmpty_of r]; exact q⟩
    · subst e'
      obtain ⟨its, r, pl, hz⟩ := I.tuple hx
      have hlen := r.length
      exact truthy_tuple pl (by simp only [List.size_toArray]; omega) ⟨H, I.tok _, by rw [isEmpty_of r]; exact q⟩
    · subst e'
      obtain ⟨hz, hS, vs, r, m⟩ : kvs.length ≤ sizeLine ∧ (p == sysModules) = false ∧ ∃ vs, KV kvs vs ∧ s.heap.DictOf (mixKind X.prog X.w) p vs := I.hok p _ hx
      have hlen : kvs.length = vs.length := Paired.length r
      exact wpAny_truthy_dict hS m (by omega) ⟨H, I.tok _, by rw [isEmpty_kv r]; exact q⟩
  | _ => exact (show False from e).elim
/-- any expression whose test is its value's truth (a name, a call, a subscript, a field ..: he by fun _ => rfl) -/
theorem pt_truth (ha : PE X a ta) (he : ∀ whole, isTrue a X.env whole = (do let v ← whole; standAt a.pos; holding [v] (truthy v))) :
    PT X a (fun σ H Q => ta σ H fun x H' => ∃ k, TruV X.K x H' k ∧ Q k H') := by
  intro pins s σ H Q I h
  exact isTrue_plain (thn (ha pins s σ H _ I h) fun v s1 ⟨x, H1, I1, r1, q1⟩ => tru_ok pins s1 σ H1 x v Q I1 r1 q1) (he _)

theorem op_add_str : OpR X (binaryOp .Add) (fun x y H Q => ∃ i j, x = .str i ∧ y = .str j ∧ i.length + j.length ≤ sizeLine ∧ Q (.str (i ++ j)) H) := by
  intro pins s σ H x y v u Q I rx ry h
  obtain ⟨i, j, rfl, rfl, hz, q⟩ := h
  obtain ⟨t, rfl⟩ := rx
  obtain ⟨t', rfl⟩ := ry
  exact add_str (fun t' tk => ⟨.str (i ++ j), H, I.tok _, ⟨_, rfl⟩, q⟩) hz
theorem vals1 {x : V} {us : List Value} (r : Vals [x] us) : ∃ u, us = [u] ∧ RelV x u := by
  cases r with
  | cons r1 r2 => cases r2; exact ⟨_, rfl, r1⟩
theorem vals2 {x y : V} {us : List Value} (r : Vals [x, y] us) : ∃ u w', us = [u, w'] ∧ RelV x u ∧ RelV y w' := by
  cases r with
  | cons r1 r2 =>
    cases r2 with
    | cons r3 r4 => cases r4; exact ⟨_, _, rfl, r1, r3⟩
theorem call_max2 (hc : X.calm = true) : CallR X (.builtin "max") (fun xs H Q => ∃ i j, xs = [.int i, .int j] ∧ Q (.int (if j > i then j else i)) H) := by
  intro pins s σ H xs us Q I r h
  obtain ⟨i, j, rfl, q⟩ := h
  obtain ⟨u, w', rfl, ⟨t, rfl⟩, ⟨t', rfl⟩⟩ := vals2 r
  refine max_two_ints (I.ok.hd hc) fun h' tk k => ⟨_, H, I.kept k, ?_, q⟩
  by_cases hj : j > i
  · rw [if_pos hj, if_pos hj]; exact ⟨_, rfl⟩
  · rw [if_neg hj, if_neg hj]; exact ⟨_, rfl⟩
theorem call_int1 : CallR X (.type "int") (fun xs H Q => (∃ i, xs = [.int i] ∧ Q (.int i) H) ∨ ∃ k, xs = [.bl k] ∧ Q (.int (if k then 1 else 0)) H) := by
  intro pins s σ H xs us Q I r h
  rcases h with ⟨i, rfl, q⟩ | ⟨k, rfl, q⟩
  · obtain ⟨u, rfl, t, rfl⟩ := vals1 r
    exact call_int_int ⟨.int i, H, I, ⟨_, rfl⟩, q⟩
  · obtain ⟨u, rfl, r1⟩ := vals1 r
    cases r1
    exact call_int_bool ⟨.int (if k then 1 else 0), H, I.tok _, ⟨_, rfl⟩, q⟩
end
end L2

namespace L2
open PySem PySem.Spec PyProof.Rows

structure ObjM (h : Heap) (x dx C : Addr) (mA : Str → Option Value) : Prop where
  obj : h.get? x = some (PySem.W.instObj C dx)
  ns : h.Ns1 dx mA
  ne : dx ≠ x

theorem lookIn_ns {h : Heap} {dx : Addr} {mA : Str → Option Value} (n : h.Ns1 dx mA) : ∃ od, h.get? dx = some od ∧ ∀ name, PySem.W.lookIn name od = some (mA name) := by
  obtain ⟨o, es, ep, ho, hd, hk, _, hm⟩ := n
  refine ⟨o, ho, fun name => ?_⟩
  have e := hm name
  unfold nsFind findBy at e
  rw [← Array.find?_toList] at e
  unfold PySem.W.lookIn
  rw [hd]
  dsimp only
  split
  · rename_i y q
    rw [q] at e
    exact congrArg some e
  · rename_i q
    rw [q] at e
    have a : es.toList.any (·.refKey) = false := by
      rw [List.any_eq_false]
      intro y hy
      obtain ⟨z, t, hkey⟩ := hk y (Array.mem_toList_iff.mp hy)
      simp [DictEntry.refKey, hkey]
    have a' : ¬ es.toList.any (·.refKey) = true := by rw [a]; exact Bool.false_ne_true
    rw [if_neg a']
    exact congrArg some e

theorem ObjM.look {h : Heap} {x dx C : Addr} {mA : Str → Option Value} (I : ObjM h x dx C mA) : ∃ od, PySem.W.InstAt h x (PySem.W.instObj C dx) C (some od) ∧ ∀ name, PySem.W.lookIn name od = some (mA name) :=
  let ⟨od, ho, hl⟩ := lookIn_ns I.ns
  ⟨od, ⟨I.obj, rfl, rfl, ho⟩, hl⟩

section
variable {prog : Program} {w : World} {A : Around} {E : Value → Shared → Prop} {s : Shared} {K : PySem.W.Frag} {x dx C f : Addr} {mA : Str → Option Value} {name : Str} {v : Value}

end

section
variable {P : Program} {w : World} {H H' : Hp} {h h' : Heap} {a C dx : Addr} {fs fs' : List (Str × V)}
theorem ins_get (hok : HOk P w H h) (e : H a = some (.ins C dx fs)) : ∃ mA, ObjM h a dx C mA ∧ (∀ f, RelO (fs.lookup f) (mA f)) ∧ PySem.Within mA (fs.map (·.1)) ∧ fs.length ≤ 1000 ∧ H dx = some (.own a) := by
  obtain ⟨d, z, ne, ob, mA, n, r, q⟩ := (show ObjOk P w H h a (.ins C dx fs) from hok a _ e)
  exact ⟨mA, ⟨ob, n, ne⟩, r, q, z, d⟩
end

structure Cls (K : PySem.W.Frag) (C : Addr) : Prop where
  pg : PySem.W.plainGet K C Str.empty = true
  hd : PySem.W.hasDictIn K C = true
  po : PySem.W.plainOver K C = true
  sa : PySem.W.findIn K (.ref C) "__setattr__" = some (some (.builtin "object.__setattr__"))
theorem Cls.get {K : PySem.W.Frag} {C : Addr} (c : Cls K C) (f : Str) : PySem.W.plainGet K C f = true := c.pg
section
variable {X : Cx} {pins : List (Addr × Obj)} {σ : St} {H : Hp} {s : Shared} {a C dx : Addr} {fs : List (Str × V)} {f : Str} {v : V} {A : Around} {E : Value → Shared → Prop}

end

section
variable {X : Cx} {o e value : Expr} {f : Str} {pos pos' tpos : Pos} {ta tv : TE}
end

section
variable {X : Cx} {pins : List (Addr × Obj)} {σ : St} {H : Hp} {s : Shared} {A : Around} {E : Value → Shared → Prop} {Q : Value → Shared → Prop} {c : Value} {b : Bool}
/-- the type of a value, as the fragment's deciders take it; for an instance its class -/
inductive TyOf (K : PySem.W.Frag) (H : Hp) : V → Value → Prop where
  | non : TyOf K H .non (.type "NoneType")
  | bl (x : Bool) : TyOf K H (.bl x) (.type "bool")
  | int (i : Int) : TyOf K H (.int i) (.type "int")
  | str (x : Str) : TyOf K H (.str x) (.type "str")
  | flt (x : UInt64) : TyOf K H (.flt x) (.type "float")
  | lst {a : Addr} {xs : List V} (e : H a = some (.lst xs)) : TyOf K H (.ref a) (.type "list")
  | frz {a : Addr} {o : Obj} {xs : List V} (e : H a = some (.frz o (.lst xs))) : TyOf K H (.ref a) (.type "list")
  | tup {a : Addr} {xs : List V} (e : H a = some (.tup xs)) : TyOf K H (.ref a) (.type "tuple")
  | dK {a : Addr} {kvs : List (Key × V)} (e : H a = some (.dK kvs)) : TyOf K H (.ref a) (.type "dict")
  | dT {a : Addr} {kvs : List (List Key × V)} (e : H a = some (.dT kvs)) : TyOf K H (.ref a) (.type "dict")
  | ins {a C dx : Addr} {fs : List (Str × V)} (e : H a = some (.ins C dx fs)) (cl : Cls K C) (ha : PySem.W.findIn K (.ref C) "__class__" = some (some (.builtin "object.__class__")))
      (hn : PySem.W.specialIn K (.builtin "object.__class__") "__get__" = some (some (.builtin "getset_descriptor.__get__"))) (htk : PySem.W.takesIn K (.builtin "object.__class__") = some true)
      (hm : PySem.W.mroIn K C (.type "object") = some true) : TyOf K H (.ref a) (.ref C)
/-- isinstance(x, c) for one class c, a built-in or an own one: kitOne's answer -/
theorem isinst_ok {x : V} {u t : Value} (I : Inv X pins σ H s) (rx : RelV x u) (ty : TyOf X.K H x t) (e : PySem.W.kitOne X.K t c = some b) (h : ∀ tk, Q (.bool b) { s with toks := tk }) :
    wpAny (model X.prog X.w) A (call (.builtin "isinstance") [u, c]) Q E s := by
  cases ty with
  | non => cases (show u = Value.none from rx); exact PySem.W.kia_one PySem.W.kitx_none I.kIn True.intro e (fun z => nomatch z) h
  | bl y => cases (show u = Value.bool y from rx); exact PySem.W.kia_one PySem.W.kitx_bool I.kIn True.intro e (fun z => nomatch z) h
  | int i => obtain ⟨t, q⟩ := (show ∃ t, u = Value.int i t from rx); cases q; exact PySem.W.kia_one PySem.W.kitx_int I.kIn True.intro e (fun z => nomatch z) h
  | str y => obtain ⟨t, q⟩ := (show ∃ t, u = Value.str y t from rx); cases q; exact PySem.W.kia_one PySem.W.kitx_str I.kIn True.intro e (fun z => nomatch z) h
  | flt y => obtain ⟨t, q⟩ := (show ∃ t, u = Value.float y t from rx); cases q; exact PySem.W.kia_one PySem.W.kitx_float I.kIn True.intro e (fun z => nomatch z) h
  | @lst a xs ea =>
    cases (show u = Value.ref a from rx)
    obtain ⟨_, _, n, _, h1⟩ := (show ObjOk X.prog X.w H s.heap a (.lst xs) from I.hok a _ ea)
    exact PySem.W.kia_one PySem.W.kitx_list I.kIn ⟨_, h1, rfl⟩ e (fun z => nomatch z) h
  | @frz a ob xs ea =>
    cases (show u = Value.ref a from rx)
    obtain ⟨_, _, _, n, _, h1⟩ := (show ObjOk X.prog X.w H s.heap a (.frz ob (.lst xs)) from I.hok a _ ea)
    exact PySem.W.kia_one PySem.W.kitx_list I.kIn ⟨_, h1, rfl⟩ e (fun z => nomatch z) h
  | @tup a xs ea =>
    cases (show u = Value.ref a from rx)
    obtain ⟨_, _, _, p⟩ := (show ObjOk X.prog X.w H s.heap a (.tup xs) from I.hok a _ ea)
    obtain ⟨o, h1, h2, _⟩ := p
    exact PySem.W.kia_one PySem.W.kitx_tuple I.kIn ⟨o, h1, h2⟩ e (fun z => nomatch z) h
  | @dK a kvs ea =>
    cases (show u = Value.ref a from rx)
    obtain ⟨_, _, vs, _, p⟩ := (show ObjOk X.prog X.w H s.heap a (.dK kvs) from I.hok a _ ea)
    obtain ⟨o, es, ep, h1, h2, _⟩ := p
    exact PySem.W.kia_one PySem.W.kitx_dict I.kIn ⟨o, h1, h2.1⟩ e (fun z => nomatch z) h
  | @dT a kvs ea =>
    cases (show u = Value.ref a from rx)
    obtain ⟨_, _, xs, _, o, es, ep, h1, h2, _⟩ := (show ObjOk X.prog X.w H s.heap a (.dT kvs) from I.hok a _ ea)
    exact PySem.W.kia_one PySem.W.kitx_dict I.kIn ⟨o, h1, h2.1⟩ e (fun z => nomatch z) h
  | @ins a C dx fs ea cl ha hn htk hm =>
    cases (show u = Value.ref a from rx)
    obtain ⟨mA, O, _⟩ := ins_get I.hok ea
    obtain ⟨od, J, _⟩ := O.look
    exact PySem.W.kia_one (PySem.W.kitx_own (cl.get _) cl.hd ha hn htk hm) I.kIn J e (fun z => nomatch z) h
end
end L2

namespace L2
open PySem PySem.Spec PyProof.Rows

structure Room (k : Nat) (A : Around) : Prop where
  hd : A.handled = none
  dp : A.depth + 3 * k + 5 < recursionLimit
  un : A.units + 16 * k + 200 < cLine
theorem Room.mono {j k : Nat} {A : Around} (r : Room k A) (h : j ≤ k) : Room j A := ⟨r.hd, by have := r.dp; omega, by have := r.un; omega⟩
theorem Room.deeper {k : Nat} {A : Around} (r : Room (k + 1) A) (env : Env) : Room k (A.deeper env) :=
  ⟨r.hd, by have := r.dp; show A.depth + 1 + 3 * k + 5 < _; omega, by have := r.un; show A.units + 3 + 16 * k + 200 < _; omega⟩
theorem Room.depth {k : Nat} {A : Around} (r : Room k A) : A.depth < recursionLimit := by have := r.dp; omega
theorem Room.units {k : Nat} {A : Around} (r : Room k A) : A.units + 64 < cLine := by have := r.un; omega
noncomputable def tNil : TA := fun _ H Q => Q [] H
noncomputable def tCons (ta : TE) (tr : TA) : TA := fun σ H Q => ta σ H fun x H1 => tr σ H1 fun xs H2 => Q (x :: xs) H2
section
variable {X : Cx} {e : Expr} {es : List Expr} {te : TE} {t : TA} {pos : Pos}
theorem pa_nil : PA X [] tNil := fun _ _ _ _ H Q I h => Calls.spliced_nil ⟨[], H, I, .nil, h⟩
theorem pa_cons (ha : PE X e te) (hr : PA X es t) (hs : autoParam (starEach (e :: es) X.env = (false, eval e X.env) :: starEach es X.env) L2.aRfl._auto_1) : PA X (e :: es) (tCons te t) := by
  intro pos pins s σ H Q I h
  rw [hs]
  show wpAny _ _ (spliced ((false, eval e X.env) :: backTo pos (starEach es X.env))) _ _ s
  refine Calls.spliced_cons (thn (ha pins s σ H _ I h) fun u s1 ⟨x, H1, I1, r1, q1⟩ => ?_)
  exact thn (hr pos pins s1 σ H1 _ I1 q1) fun us s2 ⟨xs, H2, I2, r2, q2⟩ => ⟨x :: xs, H2, I2, .cons r1 r2, q2⟩

/-- a tuple, a list of written items -/
noncomputable def tTup (t : TA) : TE := fun σ H Q => t σ H fun xs H1 => xs.length ≤ sizeLine ∧ ∀ p, H1 p = none → Q (.ref p) (upd H1 p (.tup xs))
noncomputable def tLst (t : TA) : TE := fun σ H Q => t σ H fun xs H1 => xs.length ≤ sizeLine ∧ ∀ p, H1 p = none → Q (.ref p) (upd H1 p (.lst xs))
theorem pe_tup {x1} (h : PA X es t) : PE X (.Tuple es x1 pos) (tTup t) := by
  intro pins s σ H Q I hq
  refine wpAny_Tuple_spliced (thn (h pos pins s σ H _ I hq) fun us s1 ⟨xs, H1, I1, r, z, q⟩ => ⟨by rw [← r.length]; exact z, ?_⟩)
  have hf : H1 s1.heap.objs.size = none := I1.hok.fresh (Nat.le_refl _)
  refine ⟨.ref s1.heap.objs.size, upd H1 s1.heap.objs.size (.tup xs), I1.laid (t' := s1.toks) (fun b u e => Heap.get?_push_of_some _ e) (Nat.le_refl _) ?_, rfl, q _ hf⟩
  exact ⟨z, us, r, ⟨_, Heap.get?_push_size _ rfl, rfl, _, rfl⟩⟩
theorem pe_lst (h : PA X es t) : PE X (.List es pos) (tLst t) := by
  intro pins s σ H Q I hq
  refine wpAny_List_spliced (thn (h pos pins s σ H _ I hq) fun us s1 ⟨xs, H1, I1, r, z, q⟩ => ⟨by rw [← r.length]; exact z, ?_⟩)
  have hf : H1 s1.heap.objs.size = none := I1.hok.fresh (Nat.le_refl _)
  refine ⟨.ref s1.heap.objs.size, upd H1 s1.heap.objs.size (.lst xs), I1.laid (t' := s1.toks) (fun b u e => Heap.get?_push_of_some _ e) (Nat.le_refl _) ?_, rfl, q _ hf⟩
  exact ⟨z, us, 0, r, Heap.get?_push_size _ rfl⟩
end

/-- a def's promise: the bound arguments in the parameters' order, the heap, the wanted end, the wanted exception -/
noncomputable abbrev Sp := List V → Hp → VK → XK → Prop
/-- how an exception lies behind a call (file 08 gives it): the callers' frames, abstract heap and state ahead of the call, the wish, the exception, the state -/
noncomputable abbrev CXT := List Env → Hp → Shared → XK → Value → Shared → Prop

/-- the state at a call -/
structure Env0 (P : Program) (w : World) (K : PySem.W.Frag) (mg : Str → Option Value) (base : Heap) (A : Around) (outer : List Env) (s : Shared) (H : Hp) : Prop where
  frames : A.frames = some outer
  mod : Mod K mg base
  bs : ∀ b o, base.get? b = some o → s.heap.get? b = some o ∧ H b = none
  bsz : base.objs.size ≤ s.heap.objs.size
  funs : s.heap.FunFrames base outer
  frf : ∀ b ∈ frs outer, H b = none
  hok : HOk P w H s.heap
  bare : AllBare s.gens
/-- a call's end -/
noncomputable def CE (outer : List Env) (P : Program) (w : World) (H : Hp) (s : Shared) (Q : VK) (u : Value) (s' : Shared) : Prop :=
  ∃ v H', s'.os = s.os ∧ AllBare s'.gens ∧ Un (frs outer) [] H H' s.heap s'.heap ∧ HOk P w H' s'.heap ∧ RelV v u ∧ Q v H'
noncomputable def CR (CX : CXT) (outer : List Env) (P : Program) (w : World) (H : Hp) (s : Shared) (Q : VK) (E : XK) (r : Result) (s' : Shared) : Prop :=
  match r with
  | .ok (.ret u) => CE outer P w H s Q u s'
  | .ok _ => False
  | .error e => CX outer H s E e s'
structure FnOk (P : Program) (w : World) (K : PySem.W.Frag) (mg : Str → Option Value) (base : Heap) (CX : CXT) (k : Nat) (f : Addr) (fd : FuncData) (ps : List Str) (sp : Sp) : Prop where
  len : ∀ vs H Q E, sp vs H Q E → vs.length = ps.length
  run : ∀ (A : Around) (outer : List Env) (s : Shared) (H : Hp) (args : Args) (us : List Value) (vs : List V) (Q : VK) (E : XK), Room k A → Env0 P w K mg base A outer s H → BindsTo s fd args (ps.zip us) → Vals vs us → sp vs H Q E →
    codeAny (model P w) A (.call (.ref f) args) (CR CX outer P w H s Q E) s
theorem FnOk.mono {P : Program} {w : World} {K : PySem.W.Frag} {mg : Str → Option Value} {base : Heap} {CX : CXT} {j k : Nat} {f : Addr} {fd : FuncData} {ps : List Str} {sp : Sp} (F : FnOk P w K mg base CX j f fd ps sp) (h : j ≤ k) :
    FnOk P w K mg base CX k f fd ps sp := ⟨F.len, fun A outer s H args us vs Q E hr => F.run A outer s H args us vs Q E (hr.mono h)⟩
/-- a weaker promise -/
theorem FnOk.imp {P : Program} {w : World} {K : PySem.W.Frag} {mg : Str → Option Value} {base : Heap} {CX : CXT} {k : Nat} {f : Addr} {fd : FuncData} {ps : List Str} {sp sp' : Sp} (F : FnOk P w K mg base CX k f fd ps sp)
    (h : ∀ vs H Q E, sp' vs H Q E → sp vs H Q E) : FnOk P w K mg base CX k f fd ps sp' :=
  ⟨fun vs H Q E q => F.len vs H Q E (h _ _ _ _ q), fun A outer s H args us vs Q E hr he hb hv hs => F.run A outer s H args us vs Q E hr he hb hv (h _ _ _ _ hs)⟩

section
variable {X : Cx} {pins : List (Addr × Obj)} {σ : St} {H : Hp} {s s' : Shared}
/-- from a body: what a callee wants -/
theorem Inv.env0 (I : Inv X pins σ H s) : Env0 X.prog X.w X.K X.mg X.base X.A X.stack s H :=
  ⟨I.ok.frames, I.ok.mod, I.bs, Nat.le_trans I.ok.bsz I.sz, I.stack, I.stkFree, I.hok, I.bare⟩
/-- behind a call -/
theorem Inv.after {Q : VK} {u : Value} (I : Inv X pins σ H s) (h : CE X.stack X.prog X.w H s Q u s') : EP X pins σ Q u s' := by
  obtain ⟨v, H', os, bare, un, hok, r, q⟩ := h
  obtain ⟨hh, g, d, t, os'⟩ := s'
  obtain rfl : os' = s.os := os
  exact ⟨v, H', I.call (h' := hh) (g' := g) (d' := d) (t' := t) (ch := []) un hok bare (fun b z => absurd z (by simp)), r, q⟩
end

/-- f(..): the written arguments, then the defaults dvs; E: what is wanted of an exception -/
noncomputable def tCall (sp : Sp) (dvs : List V) (E : XK) (t : TA) : TE := fun σ H Q => t σ H fun vs H1 => sp (vs ++ dvs) H1 Q E
/-- how the parameters are bound: us the positional arguments, kw the keywords' values by name, ds the defaults that fill up -/
noncomputable def Binds (K : PySem.W.Frag) (fd : FuncData) (ps : List Str) (ds : List Value) : Prop :=
  ∀ (s : Shared) (us : List Value), K.In s.heap → (us ++ ds).length = ps.length → BindsTo s fd ⟨us, []⟩ (ps.zip (us ++ ds))
/-- every parameter is given -/
theorem Binds.all {K : PySem.W.Frag} {fd : FuncData} {ps : List Str} (h : ∀ us : List Value, us.length = ps.length → bindArgs fd ⟨us, []⟩ = pure (ps.zip us)) : Binds K fd ps [] := fun s us _ hl => by
  rw [List.append_nil] at hl ⊢
  exact .of_eq (h us hl)

/-- an exception of a callee reaches what this body wants of exceptions -/
noncomputable def Passes (CX : CXT) (X : Cx) (E : XK) : Prop := ∀ (pins : List (Addr × Obj)) (σ : St) (H : Hp) (s : Shared) (e : Value) (s' : Shared), Inv X pins σ H s → CX X.stack H s E e s' → X.xe e s'

section
variable {X : Cx} {CX : CXT} {k : Nat} {f C : Addr} {fd : FuncData} {ps : List Str} {sp : Sp} {dvs : List V} {ds : List Value} {E : XK} {x m : Str} {p pos apos : Pos} {e o : Expr} {es : List Expr} {ta : TE} {t : TA}

/-- the callee runs -/
theorem run_fn {pins : List (Addr × Obj)} {σ : St} {H : Hp} {s : Shared} {Q : VK} {us : List Value} {vs : List V} (F : FnOk X.prog X.w X.K X.mg X.base CX k f fd ps sp) (hr : Room k X.A) (hb : Binds X.K fd ps ds) (hd : Vals dvs ds) (hx : Passes CX X E)
    (I : Inv X pins σ H s) (r : Vals vs us) (h : sp (vs ++ dvs) H Q E) : wpAny (model X.prog X.w) X.A (call (.ref f) us) (EP X pins σ Q) X.xe s := by
  have r2 : Vals (vs ++ dvs) (us ++ ds) := r.append hd
  have hl : (us ++ ds).length = ps.length := by rw [← r2.length]; exact F.len _ _ _ _ h
  refine wpAny_call (codeAny_mono (F.run X.A X.stack s H ⟨us, []⟩ (us ++ ds) (vs ++ dvs) Q E hr I.env0 (hb s us I.kIn hl) r2 h) fun r s' hq => ?_)
  cases r with
  | error e => exact hx pins σ H s e s' I hq
  | ok fl =>
    cases fl with
    | ret u => exact I.after hq
    | next => exact False.elim hq
    | brk => exact False.elim hq
    | cont => exact False.elim hq

theorem pe_call (F : FnOk X.prog X.w X.K X.mg X.base CX k f fd ps sp) (hr : Room k X.A) (hg : Gl X x) (hm : X.mg x = some (.ref f)) (hk : PySem.W.keepIn X.K (.ref f) = true) (hb : Binds X.K fd ps ds) (hd : Vals dvs ds) (hx : Passes CX X E)
    (ha : PA X (e :: es) t) (hdb : autoParam ((x == ("__debug__" : Str)) = false) L2.aDec._auto_1) (he : autoParam (starEach (e :: es) X.env = (false, eval e X.env) :: starEach es X.env) L2.aRfl._auto_1) (hpl : autoParam ((backTo pos (starEach es X.env)).any (·.1) = false) L2.aRfl._auto_1) :
    PE X (.Call (.Name x p) (e :: es) [] pos) (tCall sp dvs E t) := by
  intro pins s σ H Q I h
  refine wpAny_Call_Name_kw (ld_glob I hg hm ?_ hdb)
  refine PySem.W.callWith_K (h₀ := X.base) I.ok.mod.kin hk (thn (ha pos pins s σ H _ I h) fun us s1 ⟨vs, H1, I1, r, q⟩ => ⟨I1.kIn, ?_⟩) he hpl
  exact run_fn F hr hb hd hx I1 r q
end

section
variable {X : Cx} {CX : CXT} {k : Nat} {f C : Addr} {fd : FuncData} {ps ks : List Str} {sp : Sp} {E : XK} {x m : Str} {p pos apos kpos : Pos} {e o : Expr} {es : List Expr} {kws : List Keyword} {te ta : TE} {t tk : TA} {nm : Option Str}
variable {g : List Value → List Value → List Value} {gV : List V → List V → List V}
end

/-- names: the parameters first -/
structure FnScope (N P : List Str) (sc : Scope) : Prop where
  kind : sc.kind = .function
  co : sc.isCoroutine = false
  gen : sc.isGenerator = false
  nd : N.Nodup
  pre : N.take P.length = P
  par : ∀ x ∈ P, sc.names.lookup x = some .local ∨ sc.names.lookup x = some .cell
  nofree : ∀ y ∈ sc.names, y.2 ≠ .free

theorem bindL_out {kindOf : Str → Option NameKind} {x : Str} : ∀ {binds : List (Str × Value)} {m : Str → Option Value}, (∀ v, (x, v) ∉ binds) → bindL kindOf binds m x = m x
  | [], _, _ => rfl
  | (n, v) :: r, m, h => by
    unfold bindL
    rw [bindL_out fun w hw => h w (List.mem_cons_of_mem _ hw)]
    split
    · have : x ≠ n := by rintro rfl; exact h v List.mem_cons_self
      simp [this]
    · rfl
theorem bindC_out {kindOf : Str → Option NameKind} {x : Str} : ∀ {binds : List (Str × Value)} {m : Str → Option Value}, (∀ v, (x, v) ∉ binds) → bindC kindOf binds m x = m x
  | [], _, _ => rfl
  | (n, v) :: r, m, h => by
    unfold bindC
    rw [bindC_out fun w hw => h w (List.mem_cons_of_mem _ hw)]
    split
    · rfl
    · have : x ≠ n := by rintro rfl; exact h v List.mem_cons_self
      simp [this]
theorem bindL_get {kindOf : Str → Option NameKind} {x : Str} {v : Value} : ∀ {P : List Str} {vs : List Value} {i : Nat} {m : Str → Option Value}, P.Nodup → P[i]? = some x → vs[i]? = some v → kindOf x = some .local →
    bindL kindOf (P.zip vs) m x = some v
  | [], _, _, _, _, h, _, _ => by simp at h
  | _ :: _, [], _, _, _, _, h, _ => by simp at h
  | p :: P, w :: vs, 0, m, nd, h1, h2, hk => by
    simp at h1 h2; subst h1; subst h2
    show bindL kindOf ((p, w) :: P.zip vs) m p = _
    unfold bindL
    rw [bindL_out fun v hv => (List.nodup_cons.mp nd).1 (List.of_mem_zip hv).1, if_pos hk]
    simp
  | p :: P, w :: vs, i + 1, m, nd, h1, h2, hk => by
    show bindL kindOf ((p, w) :: P.zip vs) m x = _
    unfold bindL
    exact bindL_get (i := i) (List.nodup_cons.mp nd).2 (by simpa using h1) (by simpa using h2) hk
theorem bindC_get {kindOf : Str → Option NameKind} {x : Str} {v : Value} : ∀ {P : List Str} {vs : List Value} {i : Nat} {m : Str → Option Value}, P.Nodup → P[i]? = some x → vs[i]? = some v → kindOf x ≠ some .local →
    bindC kindOf (P.zip vs) m x = some v
  | [], _, _, _, _, h, _, _ => by simp at h
  | _ :: _, [], _, _, _, _, h, _ => by simp at h
  | p :: P, w :: vs, 0, m, nd, h1, h2, hk => by
    simp at h1 h2; subst h1; subst h2
    show bindC kindOf ((p, w) :: P.zip vs) m p = _
    unfold bindC
    rw [bindC_out fun v hv => (List.nodup_cons.mp nd).1 (List.of_mem_zip hv).1, if_neg hk]
    simp
  | p :: P, w :: vs, i + 1, m, nd, h1, h2, hk => by
    show bindC kindOf ((p, w) :: P.zip vs) m x = _
    unfold bindC
    exact bindC_get (i := i) (List.nodup_cons.mp nd).2 (by simpa using h1) (by simpa using h2) hk

/-- the names' values at the entry -/
noncomputable def start (N : List Str) (vs : List V) : St := vs.map some ++ List.replicate (N.length - vs.length) none

/-- the context of a def's body, at its entry; an exception leaves the frame, then lies as CX says -/
noncomputable def cxOf (CX : CXT) (P : Program) (w : World) (K : PySem.W.Frag) (mg : Str → Option Value) (base : Heap) (N : List Str) (qual : Str) (scope : Scope) (f : Addr) (cd : Value) (A : Around) (outer : List Env) (s : Shared) (H : Hp) (E : XK) : Cx where
  prog := P
  w := w
  K := K
  mg := mg
  base := base
  A := A.deeper (envOfC qual scope s.heap.objs.size f cd)
  N := N
  s₀ := s
  H₀ := H
  env := envOfC qual scope s.heap.objs.size f cd
  outer := outer
  stack := envOfC qual scope s.heap.objs.size f cd :: outer
  ex := []
  calm := true
  fn := fun _ => true
  pn := []
  xe := fun e s' => wpAny (model P w) (A.deeper (envOfC qual scope s.heap.objs.size f cd)) (leaving (envOfC qual scope s.heap.objs.size f cd) e) (fun _ s'' => CX outer H s E e s'') (fun e' s'' => CX outer H s E e' s'') s'

theorem cell_has {sc : Scope} {n : Nat} {x : Str} (h : sc.names.lookup x = some .cell) : ∃ c, (cellsFrom n sc.names []).lookup x = some c := by
  have q := PySem.W.cellsFrom_some sc.names n [] (.inl h)
  exact Option.isSome_iff_exists.mp q

theorem inv_start {CX : CXT} {P : Program} {w : World} {K : PySem.W.Frag} {mg : Str → Option Value} {base : Heap} {N ps : List Str} {qual : Str} {scope : Scope} {f : Addr} {cd : Value} {A : Around} {outer : List Env} {s s1 : Shared} {H : Hp} {E : XK} {us : List Value} {vs : List V}
    (S : FnScope N ps scope) (hd : A.handled = none) (e0 : Env0 P w K mg base A outer s H) (hl : vs.length = ps.length) (r : Vals vs us)
    (x : InCallC s s.heap.objs.size (bindL (envOfC qual scope s.heap.objs.size f cd).kindOf (ps.zip us) fun _ => none) (cellsFrom (s.heap.objs.size + 1) scope.names []) (bindC (envOfC qual scope s.heap.objs.size f cd).kindOf (ps.zip us) fun _ => none) s1) :
    Inv (cxOf CX P w K mg base N qual scope f cd A outer s H E) [] (start N vs) H s1 := by
  have hpl : ps.length ≤ N.length := by have := congrArg List.length S.pre; rw [List.length_take] at this; omega
  obtain ⟨h1, tk, rfl, hk⟩ := x.done
  have noA : ∀ b : Addr, b ∉ (cxOf CX P w K mg base N qual scope f cd A outer s H E).ex := fun b z => absurd (show b ∈ ([] : List Addr) from z) (by simp)
  refine ⟨⟨e0.mod, S.kind, rfl, rfl, Nat.le_refl _, fun y z c h1 h2 => ?_, fun y hy => ?_, fun y c _ h => ?_, fun _ => hd, Around.frames_deeper e0.frames, .inr ⟨rfl, rfl⟩, fun b z => absurd z (noA b), e0.bs, e0.bsz, fun b _ _ => noA b, fun b z => absurd z (noA b), e0.funs, e0.frf⟩,
    rfl, e0.bare, Un.kept hk, ⟨_, x.toInCall.ns, fun i y v h1 h2 h3 => ?_⟩, fun y c h => ⟨_, x.cell y c h⟩, e0.hok.fresh (Nat.le_refl _), fun y c h => ?_, fun p hp => absurd (show p ∈ ([] : List (Addr × Obj)) from hp) (by simp), e0.hok.kept hk, ?_⟩
  · exact name_of_addr x.apart (PySem.mem_of_lookup h1) (PySem.mem_of_lookup h2)
  · have hy : scope.names.lookup y = some .cell ∨ scope.names.lookup y = some .free := hy
    rcases hy with hy | hy
    · exact cell_has hy
    · exact absurd rfl (S.nofree _ (PySem.mem_of_lookup hy))
  · exact Nat.le_of_lt (x.above y c (PySem.mem_of_lookup h))
  · have hi : i < vs.length := by
      unfold start at h2
      by_cases hi : i < vs.length
      · exact hi
      · rw [List.getElem?_append_right (by simpa using hi)] at h2
        rw [List.getElem?_replicate] at h2
        split at h2 <;> cases h2
    have ha : vs[i]? = some v := by
      unfold start at h2
      rw [List.getElem?_append_left (by simpa using hi), List.getElem?_map] at h2
      cases e : vs[i]? with
      | none => rw [e] at h2; cases h2
      | some a => rw [e] at h2; cases h2; rfl
    obtain ⟨u, hu, rv⟩ := r.get ha
    have hp : ps[i]? = some y := by
      rw [← S.pre, List.getElem?_take_of_lt (by omega)]; exact h1
    have ndP : ps.Nodup := by rw [← S.pre]; exact S.nd.sublist (List.take_sublist _ _)
    refine ⟨u, rv, ?_⟩
    rcases S.par y (List.mem_of_getElem? hp) with k | k
    · exact .inl ⟨k, bindL_get ndP hp hu k⟩
    · obtain ⟨c, e⟩ := cell_has (n := s.heap.objs.size + 1) k
      refine .inr ⟨.inl k, c, e, ?_⟩
      have q := x.cell y c e
      rw [bindC_get ndP hp hu (by show scope.names.lookup y ≠ _; rw [k]; decide)] at q
      exact q
  · exact e0.hok.fresh (Nat.le_of_lt (x.above y c (PySem.mem_of_lookup h)))
  · unfold start
    show _ = N.length
    rw [List.length_append, List.length_map, List.length_replicate]
    omega

/-- THE RULE: a def (or a method) of the text, by its body. The body's reading t is chosen for each entry; it is run at the parameters' values -/
theorem fn_of {CX : CXT} {P : Program} {w : World} {K : PySem.W.Frag} {mg : Str → Option Value} {base : Heap} {k : Nat} {f : Addr} {name qual : Str} {params : Arguments} {body : List Stmt} {scope : Scope} {dV kV doc pm cdv ct oc : Value} {an od : Option Addr}
    {osl : Array (Option Value)} {N ps : List Str} {sp : Sp} (lk : K.lookup f = some ⟨oc, od, .func (PySem.W.fnOf name qual params body scope dV kV doc pm an cdv ct), osl⟩) (hcd : PySem.W.codeIn K cdv qual = true) (S : FnScope N ps scope)
    (len : ∀ vs H Q E, sp vs H Q E → vs.length = ps.length)
    (hbody : ∀ (A : Around) (outer : List Env) (s : Shared) (H : Hp) (vs : List V) (Q : VK) (E : XK), Room k (A.deeper (envOfC qual scope s.heap.objs.size f cdv)) → sp vs H Q E →
      ∃ t, PSs (cxOf CX P w K mg base N qual scope f cdv A outer s H E) body t ∧ t { nx := fun _ H' => Q .non H', rt := Q } (start N vs) H) :
    FnOk P w K mg base CX (k + 1) f (PySem.W.fnOf name qual params body scope dV kV doc pm an cdv ct) ps sp := by
  refine ⟨len, fun A outer s H args us vs Q E hr e0 hb r hsp => ?_⟩
  have hl := len _ _ _ _ hsp
  have KX : K.In s.heap := e0.mod.kin.keeps fun b o e => (e0.bs b o e).1
  have lim : s.heap.NoLimit := e0.mod.nolimit.keeps fun b o e => (e0.bs b o e).1
  have hkind : ∀ y ∈ ps.zip us, scope.names.lookup y.1 = some .local ∨ (scope.names.lookup y.1 = some .cell ∧ ((cellsFrom (s.heap.objs.size + 1) scope.names []).lookup y.1).isSome = true) := fun ⟨n, v⟩ hy => by
    rcases S.par n (List.of_mem_zip hy).1 with q | q
    · exact .inl q
    · exact .inr ⟨q, PySem.W.cellsFrom_some _ _ _ (.inl q)⟩
  refine codeAny_call_function hr.depth (KX _ _ lk) rfl S.co S.gen rfl (PySem.W.codeRec_of KX hcd) (hb _ _ _ _ ?_)
  refine wpAny_newFunctionEnv_cells S.kind hkind fun env he s1 x => ?_
  subst he
  refine ⟨lim.keeps x.toInCall.keep, codeAny_func ?_⟩
  obtain ⟨t, ht, hq⟩ := hbody A outer s H vs Q E (hr.deeper _) hsp
  have I : Inv (cxOf CX P w K mg base N qual scope f cdv A outer s H E) [] (start N vs) H s1 := inv_start S hr.hd e0 hl r x
  refine wpAny_mono (ht [] s1 (start N vs) H _ I hq) (fun fl s' hs => ?_) fun e s' hs => hs
  have fin : ∀ {σ' : St} {H' : Hp} {v : V} {u : Value}, Inv (cxOf CX P w K mg base N qual scope f cdv A outer s H E) [] σ' H' s' → RelV v u → Q v H' → CE outer P w H s Q u s' :=
    fun {σ' H' v u} J rv q => ⟨v, H', J.os, J.bare, J.base, J.hok, rv, q⟩
  cases fl with
  | ret u =>
    obtain ⟨v, σ', H', J, rv, q⟩ := hs
    exact fin J rv q
  | next =>
    obtain ⟨σ', H', J, q⟩ := hs
    exact fin (v := V.non) (u := Value.none) J rfl q
  | brk =>
    obtain ⟨_, _, _, q⟩ := hs
    exact False.elim q
  | cont =>
    obtain ⟨_, _, _, q⟩ := hs
    exact False.elim q
end L2

namespace L2
open PySem PySem.Spec PyProof.Rows
section
variable {X : Cx} {x : Str} {p pos : Pos} {e : Expr} {es : List Expr} {t : TA} {id T : String} {r : List V → Hp → VK → Prop}

noncomputable def tCB (r : List V → Hp → VK → Prop) (t : TA) : TE := fun σ H Q => t σ H fun vs H1 => r vs H1 Q
/-- f(e, ..), f a built-in function -/
theorem pe_callB (hc : CallR X (.builtin id) r) (hg : Gl X x) (hm : X.mg x = none) (hv : bootBuiltins x = some (.builtin id)) (ha : PA X (e :: es) t) (hn : autoParam (x ≠ "__name__") L2.aDec._auto_1) (hdb : autoParam ((x == ("__debug__" : Str)) = false) L2.aDec._auto_1)
    (he : autoParam (starEach (e :: es) X.env = (false, eval e X.env) :: starEach es X.env) L2.aRfl._auto_1) (hpl : autoParam ((backTo pos (starEach es X.env)).any (·.1) = false) L2.aRfl._auto_1) : PE X (.Call (.Name x p) (e :: es) [] pos) (tCB r t) := by
  intro pins s σ H Q I h
  refine wpAny_Call_Name_kw (ld_blt I hg hm hv ?_ hn hdb)
  exact PyProof.Rows.callWith_builtin1 (thn (ha pos pins s σ H _ I h) fun us s1 ⟨vs, H1, I1, r1, q1⟩ => hc pins s1 σ H1 vs us Q I1 r1 q1) he hpl
/-- T(e, ..), T a built-in type -/
theorem pe_callTy (hc : CallR X (.type T) r) (hg : Gl X x) (hm : X.mg x = none) (hv : bootBuiltins x = some (.type T)) (ha : PA X (e :: es) t) (hn : autoParam (x ≠ "__name__") L2.aDec._auto_1) (hdb : autoParam ((x == ("__debug__" : Str)) = false) L2.aDec._auto_1)
    (he : autoParam (starEach (e :: es) X.env = (false, eval e X.env) :: starEach es X.env) L2.aRfl._auto_1) (hpl : autoParam ((backTo pos (starEach es X.env)).any (·.1) = false) L2.aRfl._auto_1) : PE X (.Call (.Name x p) (e :: es) [] pos) (tCB r t) := by
  intro pins s σ H Q I h
  refine wpAny_Call_Name_kw (ld_blt I hg hm hv ?_ hn hdb)
  exact PyProof.Rows.callWith_type1 (thn (ha pos pins s σ H _ I h) fun us s1 ⟨vs, H1, I1, r1, q1⟩ => hc pins s1 σ H1 vs us Q I1 r1 q1) he hpl
end
end L2

namespace HT
open PySem PyProof.Rows

section
open PySem.SeqAt
open PySem.AutoSeq1 (wpAny_loadPart')
open PySem.MeetsSeq PySem.MeetsSeq2 PySem.MeetsSeq3

end

section
variable {prog : Program} {w : World} {A : Around} {E : Value → Shared → Prop} {s : Shared}

/-- t + u, t not empty -/
theorem cat_tup {t b : Addr} {vs ws : List Value} {Q : Value → Shared → Prop} (ht : IsTup s.heap t vs.toArray) (hb : IsTup s.heap b ws.toArray) (hv : vs ≠ [])
    (h1 : ws = [] → Q (.ref t) s) (h2 : ws ≠ [] → Q (.ref s.heap.objs.size) { s with heap := s.heap.push { cls := .type "tuple", data := .seq (vs ++ ws).toArray } })
    (hsz : vs.length + ws.length ≤ sizeLine) : wpAny (model prog w) A (binaryOp .Add (.ref t) (.ref b)) Q E s := by
  obtain ⟨⟨cls, dd, data, sl⟩, ho, hc, n, hd⟩ := id ht
  obtain ⟨⟨cls2, dd2, data2, sl2⟩, ho2, hc2, n2, hd2⟩ := id hb
  simp only at hc hd hc2 hd2
  subst hc hd hc2 hd2
  have e : vs.toArray ++ ws.toArray = (vs ++ ws).toArray := by simp
  by_cases hw : ws = []
  · exact concat_meets ⟨_, ho, rfl⟩ ⟨_, ho2, rfl⟩ noFill_tuple_add seq_tuple_add PySem.F.slot_tuple_add PySem.F.entry_tuple_add (PySem.F.args_tuple_add_2 _ _)
      (tuple_addW1 t b vs.toArray ws.toArray n n2 dd dd2 sl sl2 (by simpa using hv) (by simp [hw])) ⟨ho, ho2, h1 hw⟩
  · refine concat_meets ⟨_, ho, rfl⟩ ⟨_, ho2, rfl⟩ noFill_tuple_add seq_tuple_add PySem.F.slot_tuple_add PySem.F.entry_tuple_add (PySem.F.args_tuple_add_2 _ _)
      (tuple_addW2 t b vs.toArray ws.toArray n n2 dd dd2 sl sl2 (by simpa using hv) (by simpa using hw) (by rw [List.size_toArray, List.size_toArray]; exact hsz)) ⟨ho, ho2, ?_⟩
    rw [e]
    exact h2 hw

/-- a slice's bound as a place among n (d where it is left out) -/
noncomputable def sIx (n d : Nat) : Option Int → Nat
  | none => d
  | some v => if v < 0 then (v + (n : Int)).toNat else min v.toNat n
theorem sIx_none (n d : Nat) : sIx n d none = d := rfl
theorem sIx_nat (n d k : Nat) : sIx n d (some (k : Int)) = min k n := by
  show (if (k : Int) < 0 then ((k : Int) + (n : Int)).toNat else min (k : Int).toNat n) = min k n
  rw [if_neg (by omega), Int.toNat_natCast]
theorem sIx_le (n d : Nat) (hd : d ≤ n) (o : Option Int) : sIx n d o ≤ n := by
  cases o with
  | none => exact hd
  | some v =>
    show (if v < 0 then (v + (n : Int)).toNat else min v.toNat n) ≤ n
    by_cases hv : v < 0
    · rw [if_pos hv]; omega
    · rw [if_neg hv]; exact Nat.min_le_right _ _
theorem clip_eq (v : Int) (n d : Nat) : (if v < 0 then max (v + (n : Int)) 0 else min v (n : Int)) = ((sIx n d (some v) : Nat) : Int) := by
  show (if v < 0 then max (v + (n : Int)) 0 else min v (n : Int)) = (((if v < 0 then (v + (n : Int)).toNat else min v.toNat n) : Nat) : Int)
  by_cases hv : v < 0
  · simp only [if_pos hv]; omega
  · simp only [if_neg hv]; omega
theorem adjust_gen (lo hi : Option Int) (n : Nat) : Builtin.Slice.sliceAdjust lo hi 1 (n : Int) = (((sIx n 0 lo : Nat) : Int), ((sIx n n hi : Nat) : Int)) := by
  have h1 : ¬ ((1 : Int) < 0) := by omega
  unfold Builtin.Slice.sliceAdjust
  simp only [h1, if_false]
  refine Prod.ext ?_ ?_
  · cases lo with
    | none => rfl
    | some v => exact clip_eq v n 0
  · cases hi with
    | none => rfl
    | some v => exact clip_eq v n n
theorem places_gen (i j : Nat) : Builtin.Slice.slicePlaces (i : Int) (j : Int) 1 = j - i := by
  unfold Builtin.Slice.slicePlaces
  have h1 : (1 : Int) > 0 := by omega
  simp only [h1, if_true, Int.ediv_one]
  split <;> omega
theorem slicePart_ {v : Value} {o : Option Int} {Q : Option Int → Shared → Prop} (p : IsPart v o) (h : Q o s) : wpAny (model prog w) A (Builtin.Slice.slicePartIndex v) Q E s := by
  cases p with
  | none => exact slicePart_none h
  | int i t => exact slicePart_int h
theorem sliceApplied_gen {sl : Addr} {vl vu : Value} {lo hi : Option Int} {n : Nat} {Q : Int × Int × Nat → Shared → Prop} (hs : s.heap.IsSliceOf sl vl vu .none) (pl : IsPart vl lo) (pu : IsPart vu hi)
    (h : Q (((sIx n 0 lo : Nat) : Int), 1, sIx n n hi - sIx n 0 lo) s) : wpAny (model prog w) A (Builtin.Slice.sliceApplied (.ref sl) (pure (n : Int))) Q E s := by
  obtain ⟨os, hos, hcs, hds⟩ := id hs
  unfold Builtin.Slice.sliceApplied Builtin.Slice.sliceFields
  refine wpAny_bind (wpAny_bind (wpAny_field hos hds (x := vl) rfl (wpAny_bind (wpAny_field hos hds (x := vu) rfl (wpAny_bind (wpAny_field hos hds (x := .none) rfl (wpAny_pure ?_)))))))
  refine wpAny_bind (slicePart_none ?_)
  show wpAny _ _ (if ((1 : Int) == 0) = true then _ else _) _ _ s
  rw [if_neg (by decide)]
  refine wpAny_bind (slicePart_ pl (wpAny_bind (slicePart_ pu (wpAny_bind (wpAny_pure ?_)))))
  show wpAny _ _ (match Builtin.Slice.sliceAdjust lo hi 1 (n : Int) with | (lo, hi) => pure (lo, (1 : Int), Builtin.Slice.slicePlaces lo hi 1)) _ _ s
  rw [adjust_gen lo hi n]
  show wpAny _ _ (pure (((sIx n 0 lo : Nat) : Int), (1 : Int), Builtin.Slice.slicePlaces ((sIx n 0 lo : Nat) : Int) ((sIx n n hi : Nat) : Int) 1)) _ _ s
  rw [places_gen]
  exact wpAny_pure h
theorem pick_gen (xs : Array Value) (i k : Nat) : ((List.range k).filterMap fun (m : Nat) => xs[((i : Int) + (m : Int) * 1).toNat]?).toArray = ((xs.toList.drop i).take k).toArray := by
  have e : (fun (m : Nat) => xs[((i : Int) + (m : Int) * 1).toNat]?) = fun m => xs[i + m]? := by
    funext m
    have : ((i : Int) + (m : Int) * 1).toNat = i + m := by omega
    rw [this]
  rw [e]
  have := pick_run xs i k
  rw [List.filterMap_map] at this
  have e2 : ((fun x => xs[x]?) ∘ fun x => i + x) = fun m => xs[i + m]? := rfl
  rw [e2] at this
  rw [this]

theorem getItem_tuple_cut {t sl : Addr} {items : Array Value} {vl vu : Value} {lo hi : Option Int} {Q : Value → Shared → Prop} (ht : IsTup s.heap t items) (hs : s.heap.IsSliceOf sl vl vu .none) (pl : IsPart vl lo) (pu : IsPart vu hi)
    (hw : ¬ (sIx items.size 0 lo = 0 ∧ sIx items.size items.size hi = items.size))
    (h : Q (.ref s.heap.objs.size) { s with heap := s.heap.push { cls := .type "tuple", data := .seq ((items.toList.drop (sIx items.size 0 lo)).take (sIx items.size items.size hi - sIx items.size 0 lo)).toArray } })
    (hsz : items.size ≤ sizeLine) : wpAny (model prog w) A (getItem (.ref t) (.ref sl)) Q E s := by
  have htake : sizeOk (.seq ((items.toList.drop (sIx items.size 0 lo)).take (sIx items.size items.size hi - sIx items.size 0 lo)).toArray) := by
    show ((items.toList.drop (sIx items.size 0 lo)).take (sIx items.size items.size hi - sIx items.size 0 lo)).toArray.size ≤ sizeLine
    rw [List.size_toArray, List.length_take, List.length_drop, Array.length_toList]
    omega
  have hj : sIx items.size items.size hi ≤ items.size := sIx_le _ _ (Nat.le_refl _) hi
  obtain ⟨os, hos, hcs, hds⟩ := id hs
  have hTs : s.TypeIs (.ref sl) "slice" := ⟨os, hos, hcs⟩
  unfold getItem
  try with_reducible refine wpAny_holding ?_
  first | refine wpAny_bind (wpAny_pure ?_) | skip
  refine wpAny_bind (wpAny_sequenceKey ht.typeIs (by decide) ?_)
  refine wpAny_bind (wpAny_callSpecial?_slot (name := Str.ofString "__getitem__") ht.typeIs PyProof.Rows.slot_tuple_getitem
    (wpAny_call_entry PyProof.Rows.slot_tuple_getitem ht.typeIs entry_tuple_getitem ?_ (args_tuple_getitem _ _)))
  show wpAny _ _ (Builtin.Tuple.tupleItemsOf (.ref t) >>= _) _ _ s
  refine wpAny_bind (tupleItemsOf_ ht ?_)
  refine wpAny_bind (wpAny_typeOf hTs ?_)
  rw [if_pos (by decide)]
  refine wpAny_bind (sliceApplied_gen hs pl pu ?_)
  have hno : ¬ ((((sIx items.size 0 lo : Nat) : Int) == 0 && (1 : Int) == 1 && (sIx items.size items.size hi - sIx items.size 0 lo) == items.size) = true) := by
    intro q
    rw [Bool.and_eq_true, Bool.and_eq_true] at q
    have q1 : ((sIx items.size 0 lo : Nat) : Int) = 0 := eq_of_beq q.1.1
    have q2 : sIx items.size items.size hi - sIx items.size 0 lo = items.size := eq_of_beq q.2
    exact hw ⟨by omega, by omega⟩
  show wpAny _ _ (if (((sIx items.size 0 lo : Nat) : Int) == 0 && (1 : Int) == 1 && (sIx items.size items.size hi - sIx items.size 0 lo) == items.size) = true then _ else _) _ _ s
  rw [if_neg hno, pick_gen]
  first
    | exact wpAny_bind (m := Builtin.Tuple.tupleExact _) (wpAny_newObj_type (wpAny_pure ⟨_, rfl, wpAny_pure h⟩) htake)
    | exact wpAny_bind (m := Builtin.Tuple.tupleExact _) (wpAny_newObj_type (wpAny_bind (wpAny_pure (wpAny_pure ⟨_, rfl, wpAny_pure h⟩))) htake)
    | exact wpAny_bind (wpAny_bind (m := Builtin.Tuple.tupleExact _) (wpAny_newObj_type (wpAny_pure (wpAny_pure ⟨_, rfl, wpAny_pure h⟩)) htake))
    | exact wpAny_bind (wpAny_bind (m := Builtin.Tuple.tupleExact _) (wpAny_newObj_type (wpAny_pure ⟨_, rfl, wpAny_pure h⟩) htake))
end
end HT

namespace L2
open PySem PySem.Spec PyProof.Rows

noncomputable abbrev TO := St → Hp → (Option Int → Hp → Prop) → Prop
/-- a slice's part (left out, or an int) -/
noncomputable def PO (X : Cx) (e : Option Expr) (t : TO) : Prop :=
  ∀ (pins : List (Addr × Obj)) (s : Shared) (σ : St) (H : Hp) (Q : Option Int → Hp → Prop), Inv X pins σ H s → t σ H Q →
    wpAny (model X.prog X.w) X.A (evalPart e X.env) (fun u s' => ∃ o H', Inv X pins σ H' s' ∧ IsPart u o ∧ Q o H') X.xe s
noncomputable def tNoPart : TO := fun _ H Q => Q none H
noncomputable def tPart (t : TE) : TO := fun σ H Q => t σ H fun x H1 => ∃ i, x = .int i ∧ Q (some i) H1

section
variable {X : Cx} {e : Expr} {te : TE} {lo hi : Option Expr} {tl th : TO} {pos p2 : Pos}

theorem po_none : PO X none tNoPart := by
  intro pins s σ H Q I h
  rw [evalPart_none]
  exact wpAny_pure ⟨none, H, I, .none, h⟩
theorem po_some (h : PE X e te) : PO X (some e) (tPart te) := by
  intro pins s σ H Q I hw
  rw [evalPart_some]
  refine thn (h pins s σ H _ I hw) fun u s1 ⟨x, H1, I1, r1, q1⟩ => ?_
  obtain ⟨i, rfl, q⟩ := q1
  obtain ⟨t, rfl⟩ := r1
  exact ⟨some i, H1, I1, .int i t, q⟩

/-- what a slice of a value is, by values: the slice object stands at sl -/
noncomputable def SlR (X : Cx) (r : V → Option Int → Option Int → Hp → VK → Prop) : Prop :=
  ∀ (pins : List (Addr × Obj)) (s : Shared) (σ : St) (H : Hp) (x : V) (v vl vu : Value) (lo hi : Option Int) (sl : Addr) (Q : VK), Inv X pins σ H s → RelV x v → s.heap.IsSliceOf sl vl vu .none → IsPart vl lo → IsPart vu hi → r x lo hi H Q →
    ∃ T id, typeLookup (.type T) "__getitem__" = pure (some (.builtin id)) ∧ s.TypeIs v T ∧ wpAny (model X.prog X.w) X.A (getItem v (.ref sl)) (EP X pins σ Q) X.xe s
theorem SlR.or {r r' : V → Option Int → Option Int → Hp → VK → Prop} (h : SlR X r) (h' : SlR X r') : SlR X (fun x lo hi H Q => r x lo hi H Q ∨ r' x lo hi H Q) := by
  intro pins s σ H x v vl vu lo hi sl Q I rx hs pl pu q
  rcases q with q | q
  · exact h pins s σ H x v vl vu lo hi sl Q I rx hs pl pu q
  · exact h' pins s σ H x v vl vu lo hi sl Q I rx hs pl pu q
noncomputable def tSl (r : V → Option Int → Option Int → Hp → VK → Prop) (te : TE) (tl th : TO) : TE := fun σ H Q => te σ H fun x H1 => tl σ H1 fun l H2 => th σ H2 fun u H3 => r x l u H3 Q
/-- a[lo:hi], any a -/
theorem pe_slice {r : V → Option Int → Option Int → Hp → VK → Prop} (hr : SlR X r) (he : PE X e te) (hl : PO X lo tl) (hu : PO X hi th) : PE X (.Subscript e (.Slice lo hi none p2) pos) (tSl r te tl th) := by
  intro pins s σ H Q I h
  refine Subscript_ (thn (he pins s σ H _ I h) fun v s1 ⟨x, H1, I1, r1, q1⟩ => ?_)
  refine wpAny_Slice (thn (hl pins s1 σ H1 _ I1 q1) fun vl s2 ⟨l, H2, I2, pl, q2⟩ => thn (hu pins s2 σ H2 _ I2 q2) fun vu s3 ⟨u, H3, I3, pu, q3⟩ => ?_)
  rw [evalPart_none]
  refine wpAny_pure ?_
  have I4 : Inv X pins σ H3 { s3 with heap := s3.heap.push { cls := .type "slice", data := .fields #[vl, vu, .none] } } := I3.kept (t' := s3.toks) fun b ob q => Heap.get?_push_of_some _ q
  obtain ⟨T, id, hT, ht, hg⟩ := hr pins { s3 with heap := s3.heap.push { cls := .type "slice", data := .fields #[vl, vu, .none] } } σ H3 x v vl vu l u s3.heap.objs.size Q I4 r1 (Heap.IsSliceOf.new ..) pl pu q3
  show wpAny (model X.prog X.w) X.A (subscriptTail e (.Slice lo hi none p2) v (.ref s3.heap.objs.size)) (EP X pins σ Q) X.xe { s3 with heap := s3.heap.push { cls := .type "slice", data := .fields #[vl, vu, .none] } }
  exact tail_any (ops := [.ref s3.heap.objs.size, v]) ht hT hg (by with_unfolding_all rfl)

/-- the items of xs[lo:hi] -/
noncomputable def cutV (xs : List V) (lo hi : Option Int) : List V := (xs.drop (HT.sIx xs.length 0 lo)).take (HT.sIx xs.length xs.length hi - HT.sIx xs.length 0 lo)
theorem cutV_length (xs : List V) (lo hi : Option Int) : (cutV xs lo hi).length ≤ xs.length := by
  unfold cutV
  rw [List.length_take, List.length_drop]
  omega
/-- t[lo:hi], not the whole of it (the whole would be t itself) -/
noncomputable def rSlT (K : PySem.W.Frag) : V → Option Int → Option Int → Hp → VK → Prop := fun x lo hi H Q => ∃ a xs, x = .ref a ∧ SqT K H a xs ∧
  ¬ (HT.sIx xs.length 0 lo = 0 ∧ HT.sIx xs.length xs.length hi = xs.length) ∧ ∀ p, H p = none → Q (.ref p) (upd H p (.tup (cutV xs lo hi)))
theorem sl_tup : SlR X (rSlT X.K) := by
  intro pins s σ H x v vl vu lo hi sl Q I rx hs pl pu h
  obtain ⟨a, xs, rfl, hx, hw, q⟩ := h
  cases rx
  obtain ⟨its, r, ht, hz⟩ := I.tuple hx
  have hlen : its.toArray.size = xs.length := by rw [List.size_toArray]; exact r.length.symm
  refine ⟨"tuple", _, PyProof.Rows.slot_tuple_getitem.lookup, ht.typeIs, ?_⟩
  refine HT.getItem_tuple_cut ht hs pl pu (by rw [hlen]; exact hw) ?_ (by rw [hlen]; exact hz)
  rw [hlen]
  refine ⟨.ref s.heap.objs.size, _, I.laid (t' := s.toks) (o := .tup (cutV xs lo hi)) (fun b ob q => Heap.get?_push_of_some _ q) (Nat.le_refl _) ?_, rfl, q _ (I.hok.fresh (Nat.le_refl _))⟩
  exact ⟨Nat.le_trans (cutV_length xs lo hi) hz, _, (r.drop (HT.sIx xs.length 0 lo)).take (HT.sIx xs.length xs.length hi - HT.sIx xs.length 0 lo), IsTup.new _ _⟩

/-- t + u, t not empty: u empty gives t itself -/
noncomputable def rCatT (K : PySem.W.Frag) : R2 := fun x y H Q => ∃ a b xs ys, x = .ref a ∧ y = .ref b ∧ SqT K H a xs ∧ SqT K H b ys ∧ xs ≠ [] ∧ xs.length + ys.length ≤ sizeLine ∧
  (ys = [] → Q (.ref a) H) ∧ (ys ≠ [] → ∀ p, H p = none → Q (.ref p) (upd H p (.tup (xs ++ ys))))
theorem Vals.nil_iff {xs : List V} {us : List Value} (r : Vals xs us) : us = [] ↔ xs = [] := by
  cases r with
  | nil => simp
  | cons _ _ => simp
theorem op_catT : OpR X (binaryOp .Add) (rCatT X.K) := by
  intro pins s σ H x y v u Q I rx ry h
  obtain ⟨a, b, xs, ys, rfl, rfl, ha, hb, hx, hz, q1, q2⟩ := h
  cases rx
  cases ry
  obtain ⟨its, r1, p1, _⟩ := I.tuple ha
  obtain ⟨its2, r2, p2, _⟩ := I.tuple hb
  refine HT.cat_tup p1 p2 (fun z => hx (r1.nil_iff.mp z)) (fun z => ⟨.ref a, H, I, rfl, q1 (r2.nil_iff.mp z)⟩) (fun z => ?_) (by rw [← r1.length, ← r2.length]; exact hz)
  refine ⟨.ref s.heap.objs.size, _, I.laid (t' := s.toks) (o := .tup (xs ++ ys)) (fun b ob q => Heap.get?_push_of_some _ q) (Nat.le_refl _) ?_, rfl, q2 (fun w => z (r2.nil_iff.mpr w)) _ (I.hok.fresh (Nat.le_refl _))⟩
  exact ⟨by rw [List.length_append]; exact hz, _, r1.append r2, IsTup.new _ _⟩
end
end L2

namespace L2
open PySem PySem.Spec PyProof.Rows

/-- the place that an index of any sign means -/
noncomputable def ixN (n : Nat) (i : Int) : Option Nat := if 0 ≤ i then (if i < n then some i.toNat else none) else if -(n : Int) ≤ i then some (i + n).toNat else none
noncomputable def atI {α : Type} (xs : List α) (i : Int) : Option α := (ixN xs.length i).bind fun j => xs[j]?
theorem ixN_seq {n : Nat} {i : Int} {j : Nat} (h : ixN n i = some j) : seqIndex? i n = some j ∧ j < n ∧ -(n : Int) ≤ i ∧ i < n := by
  unfold ixN at h
  by_cases h0 : 0 ≤ i
  · rw [if_pos h0] at h
    by_cases h1 : i < n
    · rw [if_pos h1] at h
      have e : i.toNat = j := Option.some.inj h
      exact ⟨by rw [seqIndex_of h0 h1, e], by omega, by omega, h1⟩
    · rw [if_neg h1] at h; cases h
  · rw [if_neg h0] at h
    by_cases h1 : -(n : Int) ≤ i
    · rw [if_pos h1] at h
      have e : (i + n).toNat = j := Option.some.inj h
      exact ⟨by rw [seqIndex_neg (by omega) h1, e], by omega, h1, by omega⟩
    · rw [if_neg h1] at h; cases h
theorem atI_get {α : Type} {xs : List α} {i : Int} {v : α} (h : atI xs i = some v) : ∃ j, seqIndex? i xs.length = some j ∧ xs[j]? = some v ∧ j < xs.length ∧ -(xs.length : Int) ≤ i ∧ i < xs.length := by
  unfold atI at h
  cases e : ixN xs.length i with
  | none => rw [e] at h; cases h
  | some j =>
    rw [e] at h
    obtain ⟨h1, h2, h3, h4⟩ := ixN_seq e
    exact ⟨j, h1, h, h2, h3, h4⟩
theorem atI_nat {α : Type} {xs : List α} {j : Nat} {v : α} (h : xs[j]? = some v) : atI xs (j : Int) = some v := by
  have hj : j < xs.length := (List.getElem?_eq_some_iff.mp h).1
  have e : ixN xs.length (j : Int) = some j := by
    unfold ixN
    rw [if_pos (by omega), if_pos (by omega)]; simp
  unfold atI; rw [e]; exact h
theorem atI_last {α : Type} (xs : List α) (v : α) : atI (xs ++ [v]) (-1) = some v := by
  have hl : (xs ++ [v]).length = xs.length + 1 := by simp
  have e : ixN (xs ++ [v]).length (-1) = some xs.length := by
    unfold ixN
    rw [hl, if_neg (by decide), if_pos (by omega)]
    congr 1
    omega
  unfold atI
  rw [e]
  show (xs ++ [v])[xs.length]? = some v
  simp

/-- what stands as an index of a plain subscript -/
noncomputable def PlainIx (b : Expr) : Prop := ∀ o i, subscripted b false o i = operate [o, i] (getItem o i)
/-- a subscript by values -/
noncomputable def IxR (X : Cx) (r : R2) : Prop :=
  ∀ (value slice : Expr) (pins : List (Addr × Obj)) (s : Shared) (σ : St) (H : Hp) (x y : V) (v u : Value) (Q : VK), Inv X pins σ H s → RelV x v → RelV y u → r x y H Q →
    subscripted slice false v u = operate [v, u] (getItem v u) → wpAny (model X.prog X.w) X.A (subscriptTail value slice v u) (EP X pins σ Q) X.xe s
/-- a call of a builtin's method by values: the receiver, the arguments -/
noncomputable def MtR (X : Cx) (id : String) (r : V → List V → Hp → VK → Prop) : Prop :=
  ∀ (pins : List (Addr × Obj)) (s : Shared) (σ : St) (H : Hp) (x : V) (xs : List V) (v : Value) (us : List Value) (Q : VK), Inv X pins σ H s → RelV x v → Vals xs us → r x xs H Q →
    wpAny (model X.prog X.w) X.A (call (.builtin id) (v :: us)) (EP X pins σ Q) X.xe s
section
variable {X : Cx} {a b : Expr} {ta tb : TE} {pos : Pos}
theorem IxR.or {r r' : R2} (h : IxR X r) (h' : IxR X r') : IxR X (fun x y H Q => r x y H Q ∨ r' x y H Q) := by
  intro value slice pins s σ H x y v u Q I rx ry q hs
  rcases q with q | q
  · exact h value slice pins s σ H x y v u Q I rx ry q hs
  · exact h' value slice pins s σ H x y v u Q I rx ry q hs
/-- a[b] -/
theorem pe_ix {r : R2} (hr : IxR X r) (ha : PE X a ta) (hb : PE X b tb) (hs : PlainIx b) : PE X (.Subscript a b pos) (tOp r ta tb) := by
  intro pins s σ H Q I h
  exact Subscript_ (binT ha hb I h fun v u s2 x y H2 I2 rx ry q => hr a b pins s2 σ H2 x y v u Q I2 rx ry q (hs _ _))

noncomputable def rIxL (K : PySem.W.Frag) : R2 := fun x y H Q => ∃ p xs i v, x = .ref p ∧ y = .int i ∧ SqL K H p xs ∧ atI xs i = some v ∧ Q v H
noncomputable def rIxT (K : PySem.W.Frag) : R2 := fun x y H Q => ∃ p xs i v, x = .ref p ∧ y = .int i ∧ SqT K H p xs ∧ atI xs i = some v ∧ Q v H
noncomputable def rIxS : R2 := fun x y H Q => ∃ z i c, x = .str z ∧ y = .int i ∧ z.length ≤ sizeLine ∧ atI z.cps.toList i = some c ∧ Q (.str ⟨#[c]⟩) H
theorem ix_list : IxR X (rIxL X.K) := by
  intro value slice pins s σ H x y v u Q I rx ry h hs
  obtain ⟨p, xs, i, z, rfl, rfl, hq, he, q⟩ := h
  cases rx
  obtain ⟨t, rfl⟩ := ry
  obtain ⟨its, r, pl, hz⟩ := I.list hq
  obtain ⟨j, h1, h2, h3, h4, h5⟩ := atI_get he
  obtain ⟨w, ew, rw'⟩ := r.get h2
  have hl := r.length
  have hn := line63
  have fin : EP X pins σ Q w s := ⟨z, H, I, rw', q⟩
  by_cases h0 : 0 ≤ i
  · have hj : i.toNat = j := by
      rw [seqIndex_of h0 h5] at h1
      exact Option.some.inj h1
    exact item_listR pl.isList h0 (by omega) (by rw [hj]; simpa using ew) fin hs
  · have hj : (i + (its.toArray.size : Int)).toNat = j := by
      rw [seqIndex_neg (by omega) h4] at h1
      rw [List.size_toArray, ← hl]
      exact Option.some.inj h1
    exact subscriptTail_builtinR (x := w) pl.isList.typeIs slot_list_getitem.lookup
      (wpAny_getItem_list_neg (Q := fun r s' => r = w ∧ EP X pins σ Q r s') pl.isList (by omega) (by rw [List.size_toArray] <;> omega) (by omega) (by rw [hj]; simpa using ew) ⟨rfl, fin⟩) hs
theorem ix_tup : IxR X (rIxT X.K) := by
  intro value slice pins s σ H x y v u Q I rx ry h hs
  obtain ⟨p, xs, i, z, rfl, rfl, hq, he, q⟩ := h
  cases rx
  obtain ⟨t, rfl⟩ := ry
  obtain ⟨its, r, pl, hz⟩ := I.tuple hq
  obtain ⟨j, h1, h2, h3, h4, h5⟩ := atI_get he
  obtain ⟨w, ew, rw'⟩ := r.get h2
  have hl := r.length
  have hn := line63
  have fin : EP X pins σ Q w s := ⟨z, H, I, rw', q⟩
  exact subscriptTail_builtinR (x := w) pl.typeIs slot_tuple_getitem.lookup
    (getItem_tuple (j := j) (Q := fun r s' => r = w ∧ EP X pins σ Q r s') pl (by omega) (by omega) (by rw [List.size_toArray, ← hl]; exact h1) (by simpa using ew) ⟨rfl, fin⟩) hs
theorem ix_str : IxR X rIxS := by
  intro value slice pins s σ H x y v u Q I rx ry h hs
  obtain ⟨z, i, c, rfl, rfl, hz, he, q⟩ := h
  obtain ⟨t, rfl⟩ := rx
  obtain ⟨t', rfl⟩ := ry
  obtain ⟨j, h1, h2, h3, h4, h5⟩ := atI_get he
  have hl : z.cps.toList.length = z.length := by simp [Str.length]
  rw [hl] at h1 h4 h5
  have hn := line63
  exact tail_any (typeIs_str s z t) slot_str_getitem.lookup (getItem_str (c := c) (by
    have e1 : decide (i < -(2 ^ 63 : Int)) = false := decide_eq_false (by omega)
    have e2 : decide (i ≥ 2 ^ 63) = false := decide_eq_false (by omega)
    rw [e1, e2, Bool.or_false]) (by rw [h1]; simpa using h2) ⟨.str ⟨#[c]⟩, H, I.tok _, ⟨_, rfl⟩, q⟩) hs
/-- list, tuple or str -/
noncomputable def rIx (K : PySem.W.Frag) : R2 := fun x y H Q => rIxL K x y H Q ∨ rIxT K x y H Q ∨ rIxS x y H Q
theorem ix_seq : IxR X (rIx X.K) := ix_list.or (ix_tup.or ix_str)

/-- the list's object behind a store -/
theorem mapSeq_set (its : List Value) (n j : Nat) (u : Value) : Obj.mapSeq (·.setIfInBounds j u) { cls := .type "list", data := .seq its.toArray n } = { cls := .type "list", data := .seq (its.set j u).toArray n } := by
  simp [Obj.mapSeq]
theorem Inv.lst {pins : List (Addr × Obj)} {σ : St} {H : Hp} {s : Shared} {p : Addr} {xs : List V} (I : Inv X pins σ H s) (h : H p = some (.lst xs)) :
    ∃ (its : List Value) (n : Nat), Vals xs its ∧ s.heap.get? p = some { cls := .type "list", data := .seq its.toArray n } ∧ xs.length ≤ sizeLine := by
  obtain ⟨z, its, n, r, e⟩ := I.hok p _ h
  exact ⟨its, n, r, e, z⟩
/-- the list at p is written by an update of its object -/
theorem Inv.lstUpd {pins : List (Addr × Obj)} {σ : St} {H : Hp} {s : Shared} {p : Addr} {xs ys : List V} {its its' : List Value} {n n' : Nat} {f : Obj → Obj} (I : Inv X pins σ H s) (h : H p = some (.lst xs))
    (ho : s.heap.get? p = some { cls := .type "list", data := .seq its.toArray n }) (hf : f { cls := .type "list", data := .seq its.toArray n } = { cls := .type "list", data := .seq its'.toArray n' }) (r : Vals ys its') (hz : ys.length ≤ sizeLine) (t : Nat) :
    Inv X pins σ (upd H p (.lst ys)) { s with heap := s.heap.update p f, toks := t } := by
  have e : (s.heap.update p f).get? p = some { cls := .type "list", data := .seq its'.toArray n' } := by
    rw [Heap.get?_update_self f ho (by rw [hf] <;> rfl), hf]
  refine I.write (x := p) (e := p) (by rw [h]; trivial) (.inl rfl) (fun b u hb q => (Heap.get?_update_other _ _ (Ne.symm hb)).trans q) ⟨_, e⟩ ?_
  exact ⟨hz, its', n', r, e⟩
noncomputable def rSetL : V → V → V → Hp → (Hp → Prop) → Prop := fun o i v H Q => ∃ p xs k j, o = .ref p ∧ i = .int k ∧ H p = some (.lst xs) ∧ ixN xs.length k = some j ∧ Q (upd H p (.lst (xs.set j v)))
theorem set_list : PSet X rSetL := by
  intro pins s σ H o i v ov iv u Q I ro ri rv h
  obtain ⟨p, xs, k, j, rfl, rfl, hp, hj, q⟩ := h
  cases ro
  obtain ⟨t, rfl⟩ := ri
  obtain ⟨its, n, r, ho, hz⟩ := I.lst hp
  obtain ⟨h1, h2, h3, h4⟩ := ixN_seq hj
  have hl := r.length
  have hn := line63
  have I' : Inv X pins σ (upd H p (.lst (xs.set j v))) { s with heap := s.heap.update p (Obj.mapSeq (·.setIfInBounds j u)) } :=
    I.lstUpd hp ho (mapSeq_set its n j u) (r.set rv j) (by rw [List.length_set]; exact hz) s.toks
  by_cases h0 : 0 ≤ k
  · have hk : k.toNat = j := by
      rw [seqIndex_of h0 h4] at h1
      exact Option.some.inj h1
    exact PySem.W.ki_setAt ho h0 (by omega) (by rw [List.size_toArray, ← hl]; exact h4) (by rw [hk]; exact ⟨_, I', q⟩)
  · have hk : (k + (its.toArray.size : Int)).toNat = j := by
      rw [seqIndex_neg (by omega) h3] at h1
      rw [List.size_toArray, ← hl]
      exact Option.some.inj h1
    exact PySem.W.ki_setBack ho (by omega) (by rw [List.size_toArray, ← hl]; exact h3) (by omega) (by rw [hk]; exact ⟨_, I', q⟩)

theorem slice_bounds (lo hi : Option Int) (n : Nat) : (sliceBounds lo hi none n).1 = ((HT.sIx n 0 lo : Nat) : Int) ∧ (sliceBounds lo hi none n).2.1 = ((HT.sIx n n hi : Nat) : Int) ∧ (sliceBounds lo hi none n).2.2 = 1 := by
  refine ⟨?_, ?_, rfl⟩
  · cases lo with
    | none => simp [sliceBounds, HT.sIx]
    | some i =>
      simp only [sliceBounds, HT.sIx, Option.getD_none, show (1 : Int) > 0 by decide, if_true]
      by_cases h : i < 0
      · simp only [h, if_true] <;> omega
      · simp only [h, if_false] <;> omega
  · cases hi with
    | none => simp [sliceBounds, HT.sIx]
    | some i =>
      simp only [sliceBounds, HT.sIx, Option.getD_none, show (1 : Int) > 0 by decide, if_true]
      by_cases h : i < 0
      · simp only [h, if_true] <;> omega
      · simp only [h, if_false] <;> omega
theorem slicePick_cut (its : List Value) (lo hi : Option Int) : slicePick its.toArray lo hi none = ((its.drop (HT.sIx its.length 0 lo)).take (HT.sIx its.length its.length hi - HT.sIx its.length 0 lo)).toArray := by
  obtain ⟨h1, h2, h3⟩ := slice_bounds lo hi its.toArray.size
  unfold slicePick
  rw [h1, h2, h3]
  simp only [sliceRange_one, pick_run, List.size_toArray] <;> rfl
/-- xs[lo:hi] of a list: a new list -/
noncomputable def rSlL (K : PySem.W.Frag) : V → Option Int → Option Int → Hp → VK → Prop := fun x lo hi H Q => ∃ a xs, x = .ref a ∧ SqL K H a xs ∧ ∀ p, H p = none → Q (.ref p) (upd H p (.lst (cutV xs lo hi)))
theorem sl_list : SlR X (rSlL X.K) := by
  intro pins s σ H x v vl vu lo hi sl Q I rx hs pl pu h
  obtain ⟨a, xs, rfl, hx, q⟩ := h
  cases rx
  obtain ⟨its, r, ht, hz⟩ := I.list hx
  have hlen := r.length
  refine ⟨"list", _, slot_list_getitem.lookup, ht.isList.typeIs, ?_⟩
  refine wpAny_getItem_list_slice ht.isList hs pl pu .none (by simp) ?_ (by rw [List.size_toArray] <;> omega)
  rw [slicePick_cut, ← hlen]
  refine ⟨.ref s.heap.objs.size, _, I.laid (t' := s.toks) (o := .lst (cutV xs lo hi)) (fun b ob q => Heap.get?_push_of_some _ q) (Nat.le_refl _) ?_, rfl, q _ (I.hok.fresh (Nat.le_refl _))⟩
  exact ⟨Nat.le_trans (cutV_length xs lo hi) hz, _, 0, (r.drop (HT.sIx xs.length 0 lo)).take (HT.sIx xs.length xs.length hi - HT.sIx xs.length 0 lo), Heap.get?_push_size _ rfl⟩

noncomputable def flatV : V → Bool
  | .non => true
  | .bl _ => true
  | .int _ => true
  | .str _ => true
  | _ => false
/-- == of flat values -/
noncomputable def eqV : V → V → Bool
  | .non, .non => true
  | .bl a, .bl b => a == b
  | .bl a, .int b => (if a then 1 else 0) == b
  | .int a, .bl b => a == (if b then 1 else 0)
  | .int a, .int b => a == b
  | .str a, .str b => a == b
  | _, _ => false
theorem eqAt_V {A : Around} {s : Shared} {y x : V} {u v : Value} (ry : RelV y u) (rx : RelV x v) (fy : flatV y = true) (fx : flatV x = true) : SeqAt.EqAt A s u v (eqV y x) := by
  cases y with
  | non =>
    cases ry
    cases x with
    | non => cases rx; exact SeqAt.EqAt.same _
    | bl b => cases rx; exact SeqAt.EqAt.none_bool b
    | int b => obtain ⟨t, rfl⟩ := rx; exact SeqAt.EqAt.none_int b t
    | str b => obtain ⟨t, rfl⟩ := rx; exact SeqAt.EqAt.none_str b t
    | _ => exact absurd (show false = true from fx) Bool.false_ne_true
  | bl a =>
    cases ry
    cases x with
    | non => cases rx; exact SeqAt.EqAt.bool_none a
    | bl b => cases rx; exact SeqAt.EqAt.bool_bool a b
    | int b => obtain ⟨t, rfl⟩ := rx; exact SeqAt.EqAt.bool_int a b t
    | str b => obtain ⟨t, rfl⟩ := rx; exact SeqAt.EqAt.bool_str a b t
    | _ => exact absurd (show false = true from fx) Bool.false_ne_true
  | int a =>
    obtain ⟨t', rfl⟩ := ry
    cases x with
    | non => cases rx; exact SeqAt.EqAt.int_none a t'
    | bl b => cases rx; exact SeqAt.EqAt.int_bool a t' b
    | int b => obtain ⟨t, rfl⟩ := rx; exact SeqAt.EqAt.int_int a t' b t
    | str b => obtain ⟨t, rfl⟩ := rx; exact SeqAt.EqAt.int_str a t' b t
    | _ => exact absurd (show false = true from fx) Bool.false_ne_true
  | str a =>
    obtain ⟨t', rfl⟩ := ry
    cases x with
    | non => cases rx; exact SeqAt.EqAt.str_none a t'
    | bl b => cases rx; exact SeqAt.EqAt.str_bool a t' b
    | int b => obtain ⟨t, rfl⟩ := rx; exact SeqAt.EqAt.str_int a t' b t
    | str b => obtain ⟨t, rfl⟩ := rx; exact SeqAt.EqAt.str_str a t' b t
    | _ => exact absurd (show false = true from fx) Bool.false_ne_true
  | _ => exact absurd (show false = true from fy) Bool.false_ne_true
theorem call_len_seq : CallR X (.builtin "len") (fun xs H Q => ∃ p ys, xs = [.ref p] ∧ (SqL X.K H p ys ∨ SqT X.K H p ys) ∧ Q (.int ys.length) H) := by
  intro pins s σ H xs us Q I r h
  obtain ⟨p, ys, rfl, hq, q⟩ := h
  obtain ⟨u, rfl, rx⟩ := vals1 r
  cases rx
  have hn := line63
  rcases hq with hq | hq
  · obtain ⟨its, r', pl, hz⟩ := I.list hq
    have hlen := r'.length
    exact Calls.call_len_list pl.isList (by simp only [List.size_toArray] <;> omega) ⟨.int ys.length, H, I.tok _, ⟨s.toks + 1, by rw [List.size_toArray, hlen]⟩, q⟩
  · obtain ⟨its, r', pl, hz⟩ := I.tuple hq
    have hlen := r'.length
    exact len_tuple pl (by simp only [List.size_toArray] <;> omega) ⟨.int ys.length, H, I.tok _, ⟨s.toks + 1, by rw [List.size_toArray, hlen]⟩, q⟩
theorem call_len_str : CallR X (.builtin "len") (fun xs H Q => ∃ z, xs = [.str z] ∧ z.length ≤ sizeLine ∧ Q (.int z.length) H) := by
  intro pins s σ H xs us Q I r h
  obtain ⟨z, rfl, hz, q⟩ := h
  obtain ⟨u, rfl, t, rfl⟩ := vals1 r
  have hn := line63
  exact len_str (by omega) ⟨.int z.length, H, I.tok _, ⟨_, rfl⟩, q⟩
theorem CallR.or {f : Value} {r r' : List V → Hp → VK → Prop} (h : CallR X f r) (h' : CallR X f r') : CallR X f (fun xs H Q => r xs H Q ∨ r' xs H Q) := by
  intro pins s σ H xs us Q I rs q
  rcases q with q | q
  · exact h pins s σ H xs us Q I rs q
  · exact h' pins s σ H xs us Q I rs q
theorem call_list_of : CallR X (.type "list") (fun xs H Q => ∃ p ys, xs = [.ref p] ∧ (SqL X.K H p ys ∨ SqT X.K H p ys) ∧ ∀ l, H l = none → Q (.ref l) (upd H l (.lst ys))) := by
  intro pins s σ H xs us Q I r h
  obtain ⟨p, ys, rfl, hq, q⟩ := h
  obtain ⟨u, rfl, rx⟩ := vals1 r
  cases rx
  have fin : ∀ (its : List Value), Vals ys its → ys.length ≤ sizeLine → ∀ (h' : Heap) (c' : Nat), (∀ b o', s.heap.get? b = some o' → h'.get? b = some o') →
      h'.get? s.heap.objs.size = some { cls := .type "list", dict := none, data := .seq its.toArray c', slots := #[] } → EP X pins σ Q (.ref s.heap.objs.size) { s with heap := h' } := fun its r' hz h' c' kp e =>
    ⟨.ref s.heap.objs.size, _, I.laid (t' := s.toks) kp (Nat.le_refl _) (show ObjOk X.prog X.w _ h' _ (.lst ys) from ⟨hz, its, c', r', e⟩), rfl, q _ (I.hok.fresh (Nat.le_refl _))⟩
  rcases hq with hq | hq
  · obtain ⟨its, r', pl, hz⟩ := I.list hq
    have hlen := r'.length
    obtain ⟨o, ho, hc, n, hd⟩ := pl.isList
    exact call_list_seq p (.inl rfl) ho hc hd (fun h' c' kp e => fin its r' hz h' c' kp e) (by simp only [List.size_toArray] <;> omega)
  · obtain ⟨its, r', pl, hz⟩ := I.tuple hq
    have hlen := r'.length
    obtain ⟨o, ho, hc, n, hd⟩ := pl
    exact call_list_seq p (.inr rfl) ho hc hd (fun h' c' kp e => fin its r' hz h' c' kp e) (by simp only [List.size_toArray] <;> omega)
theorem call_tuple_of : CallR X (.type "tuple") (fun xs H Q => ∃ p ys, xs = [.ref p] ∧ ((SqL X.K H p ys ∧ ∀ l, H l = none → Q (.ref l) (upd H l (.tup ys))) ∨ (SqT X.K H p ys ∧ Q (.ref p) H))) := by
  intro pins s σ H xs us Q I r h
  obtain ⟨p, ys, rfl, h⟩ := h
  obtain ⟨u, rfl, rx⟩ := vals1 r
  cases rx
  rcases h with ⟨hq, q⟩ | ⟨hq, q⟩
  · obtain ⟨its, r', pl, hz⟩ := I.list hq
    have hlen := r'.length
    refine call_tuple_list pl.isList (fun h' kp => ?_) (by simp only [List.size_toArray] <;> omega)
    have I1 : Inv X pins σ H { s with heap := h' } := I.kept (t' := s.toks) kp
    have I2 : Inv X pins σ (upd H h'.objs.size (.tup ys)) { s with heap := h'.push { cls := .type "tuple", data := .seq its.toArray } } :=
      I1.laid (t' := s.toks) (fun b o e => Heap.get?_push_of_some _ e) (Nat.le_refl _) (show ObjOk X.prog X.w _ _ _ (.tup ys) from ⟨hz, its, r', IsTup.new _ _⟩)
    exact ⟨.ref h'.objs.size, _, I2, rfl, q _ (I1.hok.fresh (Nat.le_refl _))⟩
  · obtain ⟨its, r', pl, hz⟩ := I.tuple hq
    exact call_tuple_same pl ⟨.ref p, H, I, rfl, q⟩

/-- the value is of that builtin type -/
noncomputable def tyV (K : PySem.W.Frag) (T : String) (x : V) (H : Hp) : Prop := match x with
  | .str _ => T = "str"
  | .int _ => T = "int"
  | .ref p => (T = "list" ∧ ∃ xs, SqL K H p xs) ∨ (T = "tuple" ∧ ∃ o, K.lookup p = some o ∧ o.cls = .type "tuple" ∧ o.dict = none) ∨
      (T = "dict" ∧ ((∃ kvs, H p = some (.dK kvs)) ∨ ∃ kvs, H p = some (.dT kvs))) ∨ (T = "set" ∧ ∃ S n, H p = some (.set S n))
  | _ => False
theorem tyV_is {pins : List (Addr × Obj)} {σ : St} {H : Hp} {s : Shared} {T : String} {x : V} {v : Value} (I : Inv X pins σ H s) (r : RelV x v) (ty : tyV X.K T x H) :
    s.TypeIs v T ∧ ∀ a, v = .ref a → ∃ ob, s.heap.get? a = some ob ∧ ob.dict = none := by
  cases x with
  | str z =>
    obtain ⟨t, rfl⟩ := r
    cases (show T = "str" from ty)
    exact ⟨typeIs_str s z t, fun _ e => nomatch e⟩
  | int i =>
    obtain ⟨t, rfl⟩ := r
    cases (show T = "int" from ty)
    exact ⟨typeIs_int s i t, fun _ e => nomatch e⟩
  | ref p =>
    cases r
    rcases ty with ⟨rfl, xs, hq⟩ | ⟨rfl, o, hk, hc, hd⟩ | ⟨rfl, hk⟩ | ⟨rfl, S, n, hk⟩
    · obtain ⟨its, _, pl, _⟩ := I.list hq
      refine ⟨pl.isList.typeIs, fun a e => ?_⟩
      cases e
      obtain ⟨o, n, e, c, hd, _⟩ := pl
      exact ⟨o, e, hd⟩
    · refine ⟨⟨o, I.kIn p o hk, hc⟩, fun a e => ?_⟩
      cases e
      exact ⟨o, I.kIn _ o hk, hd⟩
    · have z : ∃ o, s.heap.get? p = some o ∧ o.ExactDict := by
        rcases hk with ⟨kvs, hk⟩ | ⟨kvs, hk⟩
        · obtain ⟨_, _, _, _, o, _, _, e, ex, _⟩ := I.hok p _ hk
          exact ⟨o, e, ex⟩
        · obtain ⟨_, _, _, _, o, _, _, e, ex, _⟩ := I.hok p _ hk
          exact ⟨o, e, ex⟩
      obtain ⟨o, e, ex⟩ := z
      refine ⟨⟨o, e, ex.1⟩, fun a e2 => ?_⟩
      cases e2
      exact ⟨o, e, ex.2.1⟩
    · obtain ⟨o, _, _, _, e, ex, _⟩ := I.hok p _ hk
      refine ⟨⟨o, e, ex.1⟩, fun a e2 => ?_⟩
      cases e2
      exact ⟨o, e, ex.2.1⟩
  | _ => exact False.elim ty
noncomputable def tBM (K : PySem.W.Frag) (T : String) (r : V → List V → Hp → VK → Prop) (to : TE) (t : TA) : TE := fun σ H Q => to σ H fun x H1 => tyV K T x H1 ∧ t σ H1 fun xs H2 => r x xs H2 Q
variable {o e : Expr} {es : List Expr} {to : TE} {t : TA} {name : Str} {apos cpos : Pos} {T id : String} {r : V → List V → Hp → VK → Prop}
theorem pe_bm (pa : PlainAttrs T) (slot : Slot T name id) (hty : typeOf (.builtin id) = pure (.type "method_descriptor")) (hm : MtR X id r) (ho : PE X o to) (ha : PA X (e :: es) t)
    (hbase : autoParam (attributeBase o name X.env (eval o X.env) = eval o X.env) L2.aRfl._auto_1)
    (hfew : autoParam (((backTo cpos (starEach (e :: es) X.env)).all (fun x => !x.1) && (backToKw cpos (keywordEach [] X.env)).all (fun x => x.1.isSome)
      && decide ((e :: es).length + ([] : List Keyword).length + (if ([] : List Keyword).isEmpty then 0 else 1) < 30)) = true) L2.aRfl._auto_1)
    (hline : autoParam ((apos.endLine == cpos.line) = true) L2.aRfl._auto_1) (hs : autoParam (starEach (e :: es) X.env = (false, eval e X.env) :: starEach es X.env) L2.aRfl._auto_1) (hplain : autoParam ((backTo cpos (starEach es X.env)).any (·.1) = false) L2.aRfl._auto_1) :
    PE X (.Call (.Attribute o name apos) (e :: es) [] cpos) (tBM X.K T r to t) := by
  intro pins s σ H Q I h
  refine wpAny_Call_method_late hbase hfew hline rfl (thn (ho pins s σ H _ I h) fun v s1 ⟨x, H1, I1, r1, ty, q1⟩ => ?_)
  obtain ⟨h1, h2⟩ := tyV_is I1 r1 ty
  refine ⟨T, id, pa, slot, hty, h1, h2, ?_⟩
  have hA := ha cpos pins s1 σ H1 _ I1 q1
  rw [hs] at hA ⊢
  refine Calls.callWith_builtin (by show (false || (backTo cpos (starEach es X.env)).any (·.1)) = false; rw [hplain] <;> rfl) (Calls.evalArgs_plain ?_)
  exact thn hA fun us s2 ⟨vs, H2, I2, r2, q2⟩ => hm pins s2 σ H2 x vs v us Q I2 r1 r2 q2
/- xs.append(e), list.index on a module's tuple .. are MtR facts of 06m -/
end
end L2

namespace L2
open PySem PySem.Spec PyProof.Rows

noncomputable def MtM (X : Cx) (id : String) (r : V → List V → Hp → VK → Prop) : Prop :=
  ∀ (pins : List (Addr × Obj)) (s : Shared) (σ : St) (H : Hp) (x : V) (xs : List V) (v : Value) (us : List Value) (Q : VK), Inv X pins σ H s → RelV x v → Vals xs us → r x xs H Q →
    wpAny (model X.prog X.w) X.A (call (.builtin id) (v :: us)) (EP X pins σ Q) X.xe s

theorem Vals.one : ∀ {x : V} {us : List Value}, Vals [x] us → ∃ u, us = [u] ∧ RelV x u
  | _, _, .cons r .nil => ⟨_, rfl, r⟩
section
variable {X : Cx} {pins : List (Addr × Obj)} {σ : St} {H : Hp} {s : Shared} {l b : Addr} {xs ys zs : List V}

theorem Inv.lset {its its' : List Value} {n : Nat} {f : Array Value → Array Value} {t' : Nat} (I : Inv X pins σ H s) (hH : H l = some (.lst xs))
    (e : s.heap.get? l = some { cls := .type "list", data := .seq its.toArray n }) (hf : f its.toArray = its'.toArray) (hv : Vals ys its') (hz : ys.length ≤ sizeLine) :
    Inv X pins σ (upd H l (.lst ys)) { s with heap := s.heap.update l (Obj.mapSeq f), toks := t' } := by
  have q := PySem.IsL.update e f
  rw [hf] at q
  refine I.write (x := l) (e := l) (by rw [hH]; exact trivial) (.inl rfl) (fun b' u hb hu => (Heap.get?_update_other s.heap (Obj.mapSeq f) (Ne.symm hb)).trans hu) ⟨_, q⟩ ?_
  exact ⟨hz, its', _, hv, q⟩
theorem Inv.lnew {its : List Value} {t' : Nat} (I : Inv X pins σ H s) (hv : Vals ys its) (hz : ys.length ≤ sizeLine) :
    Inv X pins σ (upd H s.heap.objs.size (.lst ys)) { s with heap := s.heap.push { cls := .type "list", data := .seq its.toArray }, toks := t' } :=
  I.laid (fun _ _ q => Heap.get?_push_of_some _ q) (Nat.le_refl _) ⟨hz, its, 0, hv, Heap.get?_push_size _ rfl⟩
theorem Inv.fresh (I : Inv X pins σ H s) : H s.heap.objs.size = none := I.hok.fresh (Nat.le_refl _)
theorem Inv.lstM (I : Inv X pins σ H s) (hH : H l = some (.lst xs)) : xs.length ≤ sizeLine ∧ ∃ (its : List Value) (n : Nat), Vals xs its ∧ xs.length = its.length ∧ s.heap.get? l = some { cls := .type "list", data := .seq its.toArray n } := by
  obtain ⟨z, its, n, r, e⟩ := I.hok l _ hH
  exact ⟨z, its, n, r, r.length, e⟩

end

section
variable {X : Cx}

noncomputable def rAppend : V → List V → Hp → VK → Prop := fun x vs H Q => ∃ l xs y, x = .ref l ∧ vs = [y] ∧ H l = some (.lst xs) ∧ xs.length < sizeLine ∧ Q .non (upd H l (.lst (xs ++ [y])))
theorem mt_append : MtM X "list.append" rAppend := by
  intro pins s σ H x vs v us Q I rx rv h
  obtain ⟨l, xs, y, rfl, rfl, hH, hz, q⟩ := h
  cases rx
  obtain ⟨u, rfl, ru⟩ := rv.one
  obtain ⟨z, its, n, r, hl, e⟩ := I.lstM hH
  refine call_meets F.slot_list_append ⟨_, e, rfl⟩ F.entry_list_append (F.args_list_append_2 _ _) (PySem.list_append l its.toArray n u (by rw [List.size_toArray]; omega)) ⟨e, ?_⟩
  refine ⟨.non, _, I.lset (its' := its ++ [u]) hH e (by simp) (r.append (.cons ru .nil)) ?_, rfl, q⟩
  rw [List.length_append, List.length_singleton]
  omega

noncomputable def rCat : R2 := fun x y H Q => ∃ l b xs zs, x = .ref l ∧ y = .ref b ∧ H l = some (.lst xs) ∧ H b = some (.lst zs) ∧ xs.length + zs.length ≤ sizeLine ∧ ∀ p, H p = none → Q (.ref p) (upd H p (.lst (xs ++ zs)))
theorem op_cat : OpR X (binaryOp .Add) rCat := by
  intro pins s σ H x y v u Q I rx ry h
  obtain ⟨l, b, xs, zs, rfl, rfl, hH, hB, hz, q⟩ := h
  cases rx
  cases ry
  obtain ⟨z, its, n, r, hl, e⟩ := I.lstM hH
  obtain ⟨z2, its2, n2, r2, hl2, e2⟩ := I.lstM hB
  refine PySem.P.add_list e e2 ?_ (by rw [List.size_toArray, List.size_toArray]; omega)
  have ea : its.toArray ++ its2.toArray = (its ++ its2).toArray := by simp
  rw [ea]
  exact ⟨.ref _, _, I.lnew (t' := s.toks) (r.append r2) (by rw [List.length_append]; omega), rfl, q _ I.fresh⟩
end

section
variable {prog : Program} {w : World} {A : Around} {E : Value → Shared → Prop} {s : Shared}
end

section
variable {X : Cx}
end
end L2

namespace L2
open PySem PySem.Spec PyProof.Rows

section
variable {κ : Type} [DecidableEq κ]
noncomputable def valV (kvs : List (κ × V)) (k : κ) : Option V := (kvs.find? fun kv => decide (kv.1 = k)).map (·.2)
/-- in its place, or at the end -/
noncomputable def putK (kvs : List (κ × V)) (k : κ) (v : V) : List (κ × V) :=
  if (kvs.any fun kv => decide (kv.1 = k)) = true then kvs.map (fun kv => if kv.1 = k then (kv.1, v) else kv) else kvs ++ [(k, v)]
theorem valV_pos {p : κ × V} {r : List (κ × V)} {k : κ} (e : p.1 = k) : valV (p :: r) k = some p.2 := by simp [valV, List.find?_cons, e]
theorem valV_neg {p : κ × V} {r : List (κ × V)} {k : κ} (e : ¬ p.1 = k) : valV (p :: r) k = valV r k := by simp [valV, List.find?_cons, e]
theorem KV.length {kvs : List (κ × V)} {vs : List (κ × Value)} (r : KV kvs vs) : kvs.length = vs.length := Paired.length r
end


/-- raw entries of a dict with tuple keys -/
noncomputable abbrev KT (H : Hp) : List (List Key × V) → List (List Key × Addr × Value) → Prop := Paired fun p q => p.1 = q.1 ∧ H q.2.1 = some (.tup (p.1.map kV)) ∧ RelV p.2 q.2.2
section
variable {P : Program} {w : World} {H : Hp} {h : Heap} {a : Addr}
end

/-- what the dict at a holds at the key y -/
noncomputable def DGet (H : Hp) (a : Addr) (y : V) (r : Option V) : Prop :=
  (∃ kvs k, Rd H a (.dK kvs) ∧ y = kV k ∧ r = valV kvs k) ∨ ∃ kvs k b, Rd H a (.dT kvs) ∧ y = .ref b ∧ H b = some (.tup (k.map kV)) ∧ r = valV kvs k
/-- the heap behind a[y] = v -/
noncomputable def DPut (H : Hp) (a : Addr) (y v : V) (H' : Hp) : Prop :=
  (∃ kvs k, H a = some (.dK kvs) ∧ y = kV k ∧ kvs.length < sizeLine ∧ H' = upd H a (.dK (putK kvs k v))) ∨
  ∃ kvs k b, H a = some (.dT kvs) ∧ y = .ref b ∧ H b = some (.tup (k.map kV)) ∧ kvs.length < sizeLine ∧ H' = upd H a (.dT (putK kvs k v))
section
variable {X : Cx} {pins : List (Addr × Obj)} {σ : St} {H : Hp} {s : Shared} {a : Addr} {y v : V} {u r : Value} {o : Option V} {A : Around} {E : Value → Shared → Prop}

end

section
variable {X : Cx} {pins : List (Addr × Obj)} {σ : St} {H : Hp} {s : Shared} {a : Addr} {kvs : List (Key × V)} {k : Key} {u : Value} {A : Around} {E : Value → Shared → Prop}
end


section
variable {X : Cx} {o i e value : Expr} {pos pos' tpos : Pos} {td ty tv : TE}
end


section
variable {X : Cx} {pos : Pos}
end

section
variable {X : Cx} {pins : List (Addr × Obj)} {σ : St} {H : Hp} {s : Shared} {a : Addr} {y d : V} {u r : Value} {o : Option V} {A : Around} {E : Value → Shared → Prop}
end

section
variable {X : Cx} {o e f : Expr} {apos cpos : Pos} {td ty tx : TE}
end

section
variable {X : Cx} {pins : List (Addr × Obj)} {σ : St} {H : Hp} {s : Shared} {a : Addr} {kvs : List (Key × V)} {A : Around} {E : Value → Shared → Prop}
end


section
variable {X : Cx} {pins : List (Addr × Obj)} {σ : St} {H : Hp} {s : Shared} {a : Addr} {y : V} {u : Value} {A : Around} {E : Value → Shared → Prop}
end
end L2

namespace Att
open PySem PySem.W PySem.Calls PyProof.Rows

theorem ints_of_wellAll {P : Params} {h : Heap} : ∀ (ns : List Int) (vs : List Value), WellAll P h vs (ns.map WData.int) → IntsAre vs ns := by
  intro ns
  induction ns with
  | nil =>
    intro vs w
    rw [List.map_nil] at w
    cases w
    exact .nil
  | cons n ns ih =>
    intro vs w
    rw [List.map_cons] at w
    cases w with
    | cons a b =>
      cases a
      exact .cons _ _ (ih _ b)

theorem script_of {l : OpenLaw} {n : Nat} (hn : l.most = some n) {P : Params} {h : Heap} {args : List WData} {vals : List Value}
    (hpre : l.row.toRowW.claim.pre args = true) (hwl : WellAll P h vals args) :
    ∃ a vs ns, vals = [Value.ref a] ∧ args = [WData.list (ns.map WData.int)] ∧ h.get? a = some { cls := .type "list", data := .seq vs.toArray } ∧ IntsAre vs ns ∧ ns.length ≤ n := by
  have hsh : WShape.hasAll [] args [.list .int] = true := (pre_splitW hpre).1
  have hc : l.pre.holds [] { args := args } = true := (pre_splitW hpre).2
  obtain ⟨d, r, rfl, h1, h2⟩ := hasAllW_cons hsh
  obtain rfl := hasAllW_nil h2
  obtain ⟨xs, rfl, h3⟩ := hasW_list h1
  obtain ⟨ns, rfl⟩ := items_int h3
  have hlen : ns.length ≤ n := by
    unfold OpenLaw.pre at hc
    have h4 : (WTm.not (.lt (.lit (.int (n : Int))) (.len (.arg 0)))).holds [] { args := [.list (ns.map .int)] } = true := by
      have h4 := (holds_andW hc).1
      rw [hn] at h4
      exact h4
    have h5 := condW_of h4 (w_not (w_lt w_lit (w_len_list (w_arg rfl))))
    rw [List.length_map] at h5
    refine Nat.le_of_not_lt fun q => ?_
    have q' : (n : Int) < ((ns.length : Nat) : Int) := by omega
    first
      | (rw [decide_eq_true q'] at h5; exact absurd h5 (by decide))
      | (simp at h5; omega)
  cases hwl with
  | cons w1 w2 =>
    cases w2
    cases w1 with
    | list ho hall => exact ⟨_, _, ns, rfl, rfl, ho, ints_of_wellAll ns _ hall, hlen⟩

theorem post_true (l : OpenLaw) (args : List WData) : l.row.toRowW.claim.post args (.bool true) args = true :=
  postW_of (r := l.row.toRowW) (X := (true == true))
    (show WShape.has [] (.bool true) .bool = true by first | rfl | decide | simp [WShape.has, WShape.arms, WShape.armsAll])
    (show (WTm.eq .res (.lit (.bool true))).value [] { args := args, res := some (.bool true), after := args } = some (.bool (true == true)) from w_eq_bool (w_res rfl) w_lit) rfl

/-- the same from a codeAny of the CALL (for a layer whose function contracts speak of calls) -/
theorem attach_call {l : OpenLaw} {n : Nat} {q : Program} {loose : List Str} {XP : (Str → Option Value) → Heap → Prop} {YP : World → Heap → Prop} {d : DefRec}
    (hn : l.most = some n) (hdf : d.params.defaults = [])
    (call : ∀ (w : World) (s₀ s₁ : Shared) (mg mb : Str → Option Value) (fa : Addr) (o : Obj) (pm cd doc : Value) (a : Addr) (vs : List Value) (ns : List Int),
      Ground q loose [] XP w s₀ mg mb s₁.heap → YP w s₁.heap →
      s₁.heap.get? fa = some o → o.data = .func (docDef d.name d.params d.body d.scope pm cd doc) → s₁.heap.CodeRec cd d.name → mg d.name = some (.ref fa) →
      s₁.heap.get? a = some { cls := .type "list", data := .seq vs.toArray } → IntsAre vs ns → ns.length ≤ n → s₁.gens = #[] →
      codeAny (model l.prog w) callerA (.call (.ref fa) ⟨[.ref a], []⟩) (fun r s' => r = .ok (.ret (.bool true)) ∧ OldK s₁.heap s'.heap ∧ s'.os = s₁.os ∧ AllBare s'.gens) s₁) :
    WalkO q loose XP YP l.row.toRowW d [] (fun f vs => PySem.call f vs) := by
  intro w s₀ s₁ mg mb G Y fa o pm cd doc dV kV ho hd hcd hD hmg hg args vals as hpre hlay hrd hwl hlo
  obtain rfl : dV = .none := Dflts.none hD hdf
  obtain rfl : kV = .none := Dflts.noKw hD
  obtain ⟨a, vs, ns, rfl, rfl, hobj, hints, hlen⟩ := script_of hn hpre hwl
  refine enter_call (codeAny_mono (call w s₀ s₁ mg mb fa o pm cd doc a vs ns G Y ho (fd_plain hd) hcd hmg hobj hints hlen hg) fun r s' hq => ?_)
  obtain ⟨rfl, h2, h3, h4⟩ := hq
  exact ⟨.inl ⟨.bool true, .bool true, [], rfl, fun _ => rfl, .bool true, post_true l _, fun _ => ⟨List.Pairwise.nil, fun _ hm => (nomatch hm)⟩⟩, h2, h3, h4⟩

section
variable {prog : Program} {w : World} {A : Around} {E : Value → Shared → Prop} {s : Shared} {K : Frag}

end
end Att

namespace L2
open PySem PySem.Spec PyProof.Rows

theorem vals_ints : ∀ {vs : List Value} {ns : List Int}, IntsAre vs ns → Vals (ns.map V.int) vs
  | _, _, .nil => .nil
  | _, _, .cons n t h => .cons ⟨t, rfl⟩ (vals_ints h)

/-- nothing is tracked but the script, known to the object (or it is an object of the module) -/
noncomputable def Only (H : Hp) : Prop := ∀ b, H b = none ∨ ∃ o xs, H b = some (.frz o (.lst xs))

/-- THE HEAD: the law's promise, at the heap behind the top. F, the promise of the law's def, may use that base is part of the heap (so K.In base, base.Ns mainGlobals mg stand in Mod) -/
theorem law_call {P : Program} {w : World} {K : PySem.W.Frag} {mg mb : Str → Option Value} {CX : CXT} {k : Nat} {fa a : Addr} {fd : FuncData} {x : Str} {sp : Sp} {s₁ : Shared} {vs : List Value} {ns : List Int}
    (KX : K.In s₁.heap) (hns : s₁.heap.Ns mainGlobals mg) (hb : s₁.heap.Ns builtinsNs mb) (hbb : ∀ x : Str, x ≠ "__name__" → mb x = bootBuiltins x) (hlim : s₁.heap.NoLimit) (hg : s₁.gens = #[])
    (ha : s₁.heap.get? a = some { cls := .type "list", data := .seq vs.toArray }) (hi : IntsAre vs ns) (hl : ns.length ≤ sizeLine) (hr : Room k callerA)
    (F : ∀ base : Heap, K.In base → base.Ns mainGlobals mg → FnOk P w K mg base CX k fa fd [x] sp) (hbind : ∀ (s : Shared) (u : Value), BindsTo s fd ⟨[u], []⟩ [(x, u)])
    (hsp : ∀ H : Hp, Only H → SqL K H a (ns.map V.int) → sp [.ref a] H (fun v _ => v = .bl true) fun _ _ _ => False)
    (hCX : ∀ H e s', CX [] H s₁ (fun _ _ _ => False) e s' → False) :
    codeAny (model P w) callerA (.call (.ref fa) ⟨[.ref a], []⟩) (fun r s' => r = .ok (.ret (.bool true)) ∧ OldK s₁.heap s'.heap ∧ s'.os = s₁.os ∧ AllBare s'.gens) s₁ := by
  have rv := vals_ints hi
  have lenV := hi.length
  -- from an abstract heap in which nothing but the script may be tracked
  have core : ∀ H : Hp, Only H → SqL K H a (ns.map V.int) → HOk P w H s₁.heap → (∀ b, H b ≠ none → b = a) → (H a ≠ none → K.lookup a = none) →
      codeAny (model P w) callerA (.call (.ref fa) ⟨[.ref a], []⟩) (fun r s' => r = .ok (.ret (.bool true)) ∧ OldK s₁.heap s'.heap ∧ s'.os = s₁.os ∧ AllBare s'.gens) s₁ := by
    intro H hO hS hok hA hK
    have base_of : ∀ {b : Addr} {o : Obj}, s₁.heap.get? b = some o → H b = none → (hidT s₁.heap H).get? b = some o := fun e n => hidT_get e n
    have noA : ∀ {b : Addr} {o : Obj} {es : Array DictEntry} {ep : Nat}, s₁.heap.get? b = some o → o.data = .dict es ep → H b = none := fun {b o es ep} e d => by
      cases q : H b with
      | none => rfl
      | some u =>
        have e' : b = a := hA b (by rw [q]; simp)
        subst e'
        rw [ha] at e; cases e
        have d' : Data.seq vs.toArray _ = Data.dict es ep := d
        cases d'
    have nsK : ∀ {b : Addr} {m : Str → Option Value}, s₁.heap.Ns b m → (hidT s₁.heap H).Ns b m := fun {b m} ⟨o, es, ep, e, d, r⟩ => ⟨o, es, ep, base_of e (noA e d), d, r⟩
    have hKb : K.In (hidT s₁.heap H) := fun b o e => base_of (KX b o e) (by
      cases q : H b with
      | none => rfl
      | some u =>
        have e' : b = a := hA b (by rw [q]; simp)
        subst e'
        rw [hK (by rw [q]; simp)] at e; cases e)
    have hM : Mod K mg (hidT s₁.heap H) := ⟨hKb, nsK hns, ⟨mb, nsK hb, hbb⟩, let ⟨mc, h1, h2⟩ := hlim; ⟨mc, nsK h1, h2⟩⟩
    have e0 : Env0 P w K mg (hidT s₁.heap H) callerA [] s₁ H := ⟨rfl, hM, fun b o e => of_hidT e, Nat.le_of_eq (hidT_size _ _), trivial, fun b hb => absurd (show b ∈ ([] : List Addr) from hb) (by simp), hok, .of_eq hg⟩
    refine codeAny_mono ((F _ hKb (nsK hns)).run callerA [] s₁ H ⟨[.ref a], []⟩ [.ref a] [.ref a] _ _ hr e0 (hbind s₁ (.ref a)) (.cons rfl .nil) (hsp H hO hS)) fun r s' h => ?_
    cases r with
    | error e => exact (hCX H e s' h).elim
    | ok fl =>
      cases fl with
      | next => exact False.elim h
      | brk => exact False.elim h
      | cont => exact False.elim h
      | ret u =>
        obtain ⟨v, H', os, bare, un, hok', r', q⟩ := h
        have q' : v = .bl true := q
        subst q'
        obtain rfl : u = Value.bool true := r'
        refine ⟨rfl, OldK.of_keep fun b o e => ?_, os, bare⟩
        cases q : H b with
        | none => exact un.keep b o e q (by intro z; exact absurd (show b ∈ ([] : List Addr) from z) (by simp)) (by simp)
        | some u =>
          rcases hO b with z | ⟨ob, xs, z⟩
          · rw [q] at z; cases z
          · have z2 := un.frzs b ob _ z
            obtain ⟨e1, _⟩ := hok b _ z
            obtain ⟨e2, _⟩ := hok' b _ z2
            rw [e] at e1; cases e1
            exact e2
  cases hk : K.lookup a with
  | some o =>
    -- the script is one of the module's own objects
    have e := KX a o hk
    rw [ha] at e
    cases e
    refine core (fun _ => none) (fun _ => .inl rfl) (.inr ⟨_, vs.toArray, _, hk, rfl, rfl, rfl, by rw [List.size_toArray, lenV]; exact hl, by simpa using rv⟩) (fun b u z => by have z' : (none : Option HO) = some u := z; cases z') (fun b z => absurd rfl z) fun z => absurd rfl z
  | none =>
    refine core (fun b => if b = a then some (.frz { cls := .type "list", data := .seq vs.toArray } (.lst (ns.map V.int))) else none) (fun b => ?_) (.inl (.inr ⟨{ cls := .type "list", data := .seq vs.toArray }, if_pos rfl⟩)) (fun b u z => ?_) (fun b z => ?_) fun _ => hk
    · by_cases hb : b = a
      · exact .inr ⟨_, _, if_pos hb⟩
      · exact .inl (if_neg hb)
    · by_cases hb : b = a
      · have z' := (if_pos hb).symm.trans z
        cases z'
        subst hb
        exact ⟨ha, by rw [List.length_map]; exact hl, vs, _, rv, ha⟩
      · have z' := (if_neg hb).symm.trans z
        cases z'
    · by_cases hb : b = a
      · exact hb
      · exact absurd (if_neg hb) z
end L2

namespace L2
open PySem PySem.Spec PyProof.Rows

/-- the goal that k_head leaves (case hc), from the law's promise. F gives the function object fd (K's own) once, then the promise over every base -/
theorem walk_of {l : PySem.W.OpenLaw} {n k : Nat} {q : Program} {loose : List Str} {XP : (Str → Option Value) → Heap → Prop} {YP : World → Heap → Prop} {d : DefRec} {K : Params → PySem.W.Frag} {CX : World → CXT} {sp : World → Sp} {x : Str}
    (hn : l.most = some n) (hn2 : n ≤ sizeLine) (hdf : d.params.defaults = []) (hr : Room k callerA)
    (hY : ∀ (w : World) (h : Heap), YP w h → (K w.params).In h)
    (F : ∀ (w : World) (mg : Str → Option Value) (fa : Addr) (h : Heap), (K w.params).In h → h.Ns mainGlobals mg → mg d.name = some (.ref fa) →
      ∃ fd : FuncData, (∀ (s : Shared) (u : Value), BindsTo s fd ⟨[u], []⟩ [(x, u)]) ∧
        ∀ base : Heap, (K w.params).In base → base.Ns mainGlobals mg → FnOk l.prog w (K w.params) mg base (CX w) k fa fd [x] (sp w))
    (hsp : ∀ (w : World) (H : Hp) (a : Addr) (ns : List Int), ns.length ≤ n → Only H → SqL (K w.params) H a (ns.map V.int) → sp w [.ref a] H (fun v _ => v = .bl true) fun _ _ _ => False)
    (hCX : ∀ (w : World) (H : Hp) (s : Shared) (e : Value) (s' : Shared), CX w [] H s (fun _ _ _ => False) e s' → False) :
    PySem.W.WalkO q loose XP YP l.row.toRowW d [] (fun f vs => PySem.call f vs) := by
  refine Att.attach_call hn hdf fun w s₀ s₁ mg mb fa o pm cd doc a vs ns G Y ho hd hcd hmg hobj hints hlen hg => ?_
  have KX := hY w _ Y
  obtain ⟨fd, hb, hF⟩ := F w mg fa _ KX G.T.g hmg
  exact law_call KX G.T.g G.T.b G.T.builtins G.T.nolimit hg hobj hints (Nat.le_trans hlen hn2) hr hF hb (fun H hO hS => hsp w H a ns hlen hO hS) fun H e s' => hCX w H s₁ e s'
end L2


namespace L2
open PySem PySem.Spec PyProof.Rows

noncomputable def defArgs (s : Stmt) : Arguments := match s with
  | .FunctionDef _ a _ _ _ _ _ _ _ _ => a
  | _ => { posonlyargs := [], args := [], vararg := none, kwonlyargs := [], kw_defaults := [], kwarg := none, defaults := [] }
noncomputable def defBody (s : Stmt) : List Stmt := match s with
  | .FunctionDef _ _ b _ _ _ _ _ _ _ => b
  | _ => []
noncomputable def defScope (s : Stmt) : Scope := match s with
  | .FunctionDef _ _ _ _ _ _ sc _ _ _ => sc
  | _ => { kind := .function, names := [], isGenerator := false, isCoroutine := false }

noncomputable abbrev CX0 : CXT := fun _ _ _ _ _ _ => False
noncomputable abbrev E0 : XK := fun _ _ _ => False
theorem pass0 {X : Cx} : Passes CX0 X E0 := fun _ _ _ _ _ _ _ h => h.elim

structure Fun (K : PySem.W.Frag) (x qual : Str) (st : Stmt) (f : Addr) (fd : FuncData) : Prop where
  ex : ∃ (oc : Value) (od : Option Addr) (kV doc pm : Value) (an : Option Addr) (cdv ct : Value) (osl : Array (Option Value)),
    fd = PySem.W.fnOf x qual (defArgs st) (defBody st) (defScope st) .none kV doc pm an cdv ct ∧ K.lookup f = some ⟨oc, od, .func fd, osl⟩ ∧ PySem.W.codeIn K cdv qual = true
  kp : PySem.W.keepIn K (.ref f) = true
section
variable {P : Program} {w : World} {K : PySem.W.Frag} {mg : Str → Option Value} {base : Heap}
/-- THE RULE for a def: its body as a term of rules, and the reading of that term -/
theorem Fun.ok {x qual : Str} {st : Stmt} {f : Addr} {fd : FuncData} {N ps : List Str} {k : Nat} {sp : Sp} (F : Fun K x qual st f fd) (S : FnScope N ps (defScope st)) (len : ∀ vs H Q E, sp vs H Q E → vs.length = ps.length)
    (hbody : ∀ (cdv : Value) (A : Around) (outer : List Env) (s : Shared) (H : Hp) (vs : List V) (Q : VK) (E : XK), Room k (A.deeper (envOfC qual (defScope st) s.heap.objs.size f cdv)) → sp vs H Q E →
      ∃ t, PSs (cxOf CX0 P w K mg base N qual (defScope st) f cdv A outer s H E).nox (defBody st) t ∧ t { nx := fun _ H' => Q .non H', rt := Q } (start N vs) H) : FnOk P w K mg base CX0 (k + 1) f fd ps sp := by
  obtain ⟨oc, od, kV, doc, pm, an, cdv, ct, osl, rfl, lk, hcd⟩ := F.ex
  refine fn_of lk hcd S len fun A outer s H vs Q E hr hsp => ?_
  obtain ⟨t, h, q⟩ := hbody cdv A outer s H vs Q E hr hsp
  exact ⟨t, h.nox, q⟩
/-- how its arguments bind (no defaults): h is «fun _ _ _ _ _ _ us hl => match us, hl with | [_, _], _ => rfl», one _ a parameter -/
theorem Fun.binds {x qual : Str} {st : Stmt} {f : Addr} {fd : FuncData} {ps : List Str} (F : Fun K x qual st f fd)
    (h : ∀ (kV doc pm : Value) (an : Option Addr) (cdv ct : Value) (us : List Value), us.length = ps.length → bindArgs (PySem.W.fnOf x qual (defArgs st) (defBody st) (defScope st) .none kV doc pm an cdv ct) ⟨us, []⟩ = pure (ps.zip us)) : Binds K fd ps [] := by
  obtain ⟨oc, od, kV, doc, pm, an, cdv, ct, osl, rfl, lk, hcd⟩ := F.ex
  exact .all (h kV doc pm an cdv ct)
theorem fun_mk {x qual : Str} {st : Stmt} {f : Addr} {oc : Value} {od an : Option Addr} {osl : Array (Option Value)} {kV doc pm cdv ct : Value} (l : K.lookup f = some ⟨oc, od, .func (PySem.W.fnOf x qual (defArgs st) (defBody st) (defScope st) .none kV doc pm an cdv ct), osl⟩)
    (c : PySem.W.codeIn K cdv qual = true) (k : PySem.W.keepIn K (.ref f) = true) : Fun K x qual st f (PySem.W.fnOf x qual (defArgs st) (defBody st) (defScope st) .none kV doc pm an cdv ct) := ⟨⟨oc, od, kV, doc, pm, an, cdv, ct, osl, rfl, l, c⟩, k⟩
end
theorem hu_of {A : Around} {k : Nat} (hr : Room k A) : A.units + 1 < cLine := Nat.lt_of_le_of_lt (Nat.add_le_add_left (by decide : 1 ≤ 64) _) hr.units
section
variable {X : Cx}
theorem pv (i : Nat) {x : Str} {pos : Pos} (hN : autoParam (X.N[i]? = some x) L2.aRfl._auto_1) (hv : Vis X.env.scope x := by first | exact Or.inl rfl | exact Or.inr (Or.inl rfl) | exact Or.inr (Or.inr rfl)) (hd : autoParam ((x == ("__debug__" : Str)) = false) L2.aDec._auto_1)
    (hcd : autoParam ((x == ("__classdict__" : Str)) = false) L2.aDec._auto_1) : PE X (.Name x pos) (tVar i) := pe_var hN hv hd hcd
end

/-- all that was tracked is as it was -/
noncomputable def Same (H H' : Hp) : Prop := ∀ b o, H b = some o → H' b = some o
theorem Same.refl (H : Hp) : Same H H := fun _ _ h => h
theorem Same.trans {H H1 H2 : Hp} (a : Same H H1) (b : Same H1 H2) : Same H H2 := fun c o h => b c o (a c o h)
theorem Same.free {H H' : Hp} (e : Same H H') {l : Addr} (h : H' l = Option.none) : H l = Option.none := by
  cases q : H l with
  | none => rfl
  | some o =>
    rw [e l o q] at h
    cases h
section
variable {κ : Type} [DecidableEq κ]
end
end L2

set_option linter.all false
set_option maxRecDepth 100000
set_option maxHeartbeats 4000000
namespace L2
open PySem PySem.Spec PyProof.Rows

noncomputable def closL (cells : List (Str × Addr)) : List (Str × NameKind) → List (Str × Addr) → List (Str × Addr)
  | [], acc => acc
  | (n, k) :: r, acc => if k = .free then closL cells r ((n, (cells.lookup n).getD 0) :: acc) else closL cells r acc
theorem closureFor_eq {scope : Scope} {env : Env} (h : ∀ x ∈ scope.names, x.2 = .free → ∃ c, env.cells.lookup x.1 = some c) : closureFor scope env = pure (closL env.cells scope.names []) := by
  have all : ∀ (l : List (Str × NameKind)) (acc : List (Str × Addr)), (∀ x ∈ l, x.2 = .free → ∃ c, env.cells.lookup x.1 = some c) →
      (forIn l acc fun (x : Str × NameKind) (cs : List (Str × Addr)) => (match x with | (name, kind) => if (kind == NameKind.free) = true then (do let c ← cellOf env name; pure (ForInStep.yield ((name, c) :: cs))) else pure (ForInStep.yield cs) : Sem (ForInStep (List (Str × Addr))))) = (pure (closL env.cells l acc) : Sem (List (Str × Addr))) := by
    intro l
    induction l with
    | nil => intro acc _; rfl
    | cons x r ih =>
      intro acc hl
      obtain ⟨n, k⟩ := x
      rw [List.forIn_cons]
      by_cases hk : k = .free
      · subst hk
        obtain ⟨c, hc⟩ := hl (n, .free) List.mem_cons_self rfl
        have e : cellOf env n = pure c := by unfold cellOf; rw [hc]
        simp only [beq_self_eq_true, if_true, e, closL, pure_bind]
        rw [ih _ fun y hy => hl y (List.mem_cons_of_mem _ hy), hc]
        rfl
      · have hb : (k == NameKind.free) = false := by simpa using hk
        simp only [hb, Bool.false_eq_true, if_false, closL, hk, pure_bind]
        exact ih _ fun y hy => hl y (List.mem_cons_of_mem _ hy)
  unfold closureFor
  simp only [bind_pure]
  exact all scope.names [] h
theorem closL_sub {cells : List (Str × Addr)} : ∀ {l : List (Str × NameKind)} {acc : List (Str × Addr)}, (∀ x ∈ l, x.2 = .free → ∃ c, cells.lookup x.1 = some c) → (∀ x c, acc.lookup x = some c → cells.lookup x = some c) →
    ∀ x c, (closL cells l acc).lookup x = some c → cells.lookup x = some c
  | [], _, _, h, x, c, e => h x c e
  | (n, k) :: r, acc, hl, h, x, c, e => by
    unfold closL at e
    have hr : ∀ y ∈ r, y.2 = .free → ∃ c, cells.lookup y.1 = some c := fun y hy => hl y (List.mem_cons_of_mem _ hy)
    split at e
    · rename_i hk
      refine closL_sub hr (fun y d q => ?_) x c e
      rw [List.lookup_cons] at q
      split at q
      · rename_i hy
        obtain ⟨c', hc'⟩ := hl (n, k) List.mem_cons_self hk
        have hy' : y = n := by simpa using hy
        subst hy'
        simp only [] at hc'
        rw [hc'] at q ⊢
        exact q
      · exact h y d q
    · exact closL_sub hr h x c e
theorem closL_acc {cells : List (Str × Addr)} {x : Str} : ∀ {l : List (Str × NameKind)} {acc : List (Str × Addr)}, (∃ c, acc.lookup x = some c) → ∃ c, (closL cells l acc).lookup x = some c
  | [], _, h => h
  | (n, k) :: r, acc, h => by
    unfold closL
    split
    · refine closL_acc ?_
      rw [List.lookup_cons]
      split
      · exact ⟨_, rfl⟩
      · exact h
    · exact closL_acc h
theorem closL_has {cells : List (Str × Addr)} {x : Str} : ∀ {l : List (Str × NameKind)} {acc : List (Str × Addr)}, (x, NameKind.free) ∈ l → ∃ c, (closL cells l acc).lookup x = some c
  | [], _, h => by simp at h
  | (n, k) :: r, acc, h => by
    unfold closL
    rcases List.mem_cons.mp h with e | h
    · cases e
      rw [if_pos rfl]
      exact closL_acc ⟨(cells.lookup x).getD 0, by rw [List.lookup_cons]; simp⟩
    · split
      · exact closL_has h
      · exact closL_has h

noncomputable def cxComp (X : Cx) (scope : Scope) (N : List Str) (C : Addr) (s : Shared) (H : Hp) (fp : List Addr) : Cx where
  prog := X.prog
  w := X.w
  K := X.K
  mg := X.mg
  base := X.base
  A := X.A
  N := N
  s₀ := s
  H₀ := H
  env := compEnvC scope (closL X.env.cells scope.names []) C X.env
  outer := X.stack
  stack := X.stack
  ex := fp
  calm := X.calm
  fn := fun _ => false
  pn := []
  xe := fun _ _ => False

/-- what a comprehension's scope must be, beside the scope and the names around it -/
structure CompScope (osc : Scope) (ON : List Str) (scope : Scope) (own N : List Str) : Prop where
  kind : scope.kind = .function
  nd : N.Nodup
  len : N.length = own.length + ON.length
  nocell : ∀ y ∈ scope.names, y.2 ≠ .cell
  loc : ∀ y ∈ scope.names, y.2 = .local → scope.names.lookup y.1 = some .local
  free : ∀ y ∈ scope.names, y.2 = .free → osc.names.lookup y.1 = some .cell ∨ osc.names.lookup y.1 = some .free
  out : ∀ p ∈ ON.zip (N.drop own.length), p.1 = p.2 ∨ scope.names.lookup p.2 = none
  own : ∀ x ∈ N.drop own.length, scope.names.lookup x ≠ some .local
theorem relabel_lookup {scope : Scope} {env : Env} (x : Str) (hn : ∀ y ∈ scope.names, y.2 ≠ .cell) : ((relabel scope env).names.lookup x = some .local → scope.names.lookup x = some .local) ∧
    ((relabel scope env).names.lookup x = some .cell ∨ (relabel scope env).names.lookup x = some .free → scope.names.lookup x = some .free) := by
  unfold relabel
  simp only
  revert hn
  generalize scope.names = l
  intro hn
  induction l with
  | nil => simp
  | cons y r ih =>
    obtain ⟨n, k⟩ := y
    have ih := ih fun y hy => hn y (List.mem_cons_of_mem _ hy)
    have hk : k ≠ .cell := hn (n, k) List.mem_cons_self
    rw [List.map_cons]
    simp only
    by_cases hc : (k == NameKind.free && env.scope.kind == ScopeKind.function && env.kindOf n == some NameKind.cell) = true
    · rw [if_pos hc, List.lookup_cons, List.lookup_cons]
      have hf : k = .free := by
        simp only [Bool.and_eq_true] at hc
        simpa using hc.1.1
      split
      · subst hf; simp
      · exact ih
    · rw [if_neg hc, List.lookup_cons, List.lookup_cons]
      split
      · constructor
        · exact fun h => h
        · rintro (h | h)
          · exact absurd (Option.some.inj h) hk
          · exact h
      · exact ih

noncomputable def PTs (X : Cx) (ifs : List Expr) (t : TT) : Prop :=
  ∀ (pins : List (Addr × Obj)) (s : Shared) (σ : St) (H : Hp) (Q : Bool → Hp → Prop), Inv X pins σ H s → t σ H Q →
    wpAny (model X.prog X.w) X.A (forIn ifs true fun c r => if r = true then do let ok ← isTrue c X.env (eval c X.env); pure (ForInStep.yield ok) else pure (ForInStep.yield r)) (TP X pins σ Q) X.xe s
noncomputable def tTrue : TT := fun _ H Q => Q true H
theorem pts_nil {X : Cx} : PTs X [] tTrue := fun _ _ _ H _ I h => wpAny_tests_nil ⟨H, I, h⟩
theorem pts_one {X : Cx} {c : Expr} {t : TT} (h : PT X c t) : PTs X [c] t := fun pins s σ H Q I hw => wpAny_tests_one (h pins s σ H Q I hw)

theorem compLoop_any {prog : Program} {w : World} {A : Around} {R : Result → Shared → Prop} {s : Shared} {elt target iter : Expr} {ifs : List Expr} {scope : Scope} {pos : Pos} {it acc : Value} {env : Env} (I : Nat → Shared → Prop)
    (turn : ∀ n s, I n s → wpAny (model prog w) A (pyNext it) (fun r s₁ => match r with
      | none => R (.ok .next) s₁
      | some v => wpAny (model prog w) A (letOwnedTupleGo target it v) (fun _ s₁' => wpAny (model prog w) A (assign target env v) (fun _ s₂ =>
          wpAny (model prog w) A (forIn ifs true fun c r => if r = true then do let ok ← isTrue c env (eval c env); pure (ForInStep.yield ok) else pure (ForInStep.yield r)) (fun ok s₃ =>
            if ok = true then wpAny (model prog w) A (eval elt env) (fun x s₄ =>
              wpAny (model prog w) A (call (.builtin "list.append") [acc, x]) (fun _ s₅ => ∃ m, m < n ∧ I m s₅) (fun _ _ => False) s₄) (fun _ _ => False) s₃
            else ∃ m, m < n ∧ I m s₃) (fun _ _ => False) s₂) (fun _ _ => False) s₁') (fun _ _ => False) s₁) (fun _ _ => False) s)
    (n : Nat) (h : I n s) : codeAny (model prog w) A (.compLoop (.ListComp elt [⟨target, iter, ifs, 0⟩] scope pos) 0 it acc env) R s := by
  refine codeAny_loop rfl I (fun n s hI => ?_) n h
  show wpAny _ A ((compTurn (.ListComp elt [⟨target, iter, ifs, 0⟩] scope pos) 0 it acc env).onRaise (fun x => do noteFrame x env; theTreesLotGoes x)) _ _ s
  refine wpAny_noted ?_
  rw [compTurn_list]
  refine wpAny_bind (wpAny_standAt (wpAny_bind (wpAny_mono (turn n s hI) (fun r s₁ h₁ => ?_) fun _ _ h' => h'.elim)))
  cases r with
  | none => exact wpAny_pure h₁
  | some v =>
    refine wpAny_bind (wpAny_mono h₁ (fun _ s₁' h₁' => ?_) fun _ _ h' => h'.elim)
    refine wpAny_bind (wpAny_mono h₁' (fun _ s₂ h₂ => wpAny_bind (wpAny_mono h₂ (fun ok s₃ h₃ => ?_) fun _ _ h' => h'.elim)) fun _ _ h' => h'.elim)
    cases ok with
    | false => exact wpAny_pure ⟨rfl, h₃⟩
    | true =>
      exact wpAny_bind (wpAny_bind (wpAny_mono h₃ (fun x s₄ h₄ => wpAny_bind (wpAny_mono h₄ (fun _ s₅ h₅ => wpAny_pure (wpAny_pure ⟨rfl, h₅⟩)) fun _ _ h' => h'.elim)) fun _ _ h' => h'.elim))

/-- W: turn, measure, the items so far, the names, the heap -/
noncomputable def tComp (wi : TI) (k : Nat) (g : TG) (tc : TT) (te : TE) : TE := fun σ H Q => wi σ H fun J H1 => ∀ D, H1 D = none →
  ∃ W : Nat → Nat → List V → St → Hp → Prop, (∃ m, W 0 m [] (List.replicate k none ++ σ) (upd H1 D (.lst []))) ∧ ∀ i m ys σ' H', W i m ys σ' H' → H' D = some (.lst ys) ∧
    ((J.stop i H' ∧ Q (.ref D) H') ∨ (J.go i H' ∧ ys.length < sizeLine ∧ ∀ x H2, J.yld i H' x H2 → g x σ' H2 fun σ3 H3 => tc σ3 H3 fun b H4 =>
      if b = true then te σ3 H4 fun v H5 => H5 D = some (.lst ys) ∧ ∃ m', m' < m ∧ W (i + 1) m' (ys ++ [v]) σ3 (upd H5 D (.lst (ys ++ [v])))
      else ∃ m', m' < m ∧ W (i + 1) m' ys σ3 H4))

theorem comp_core {X : Cx} {osc scope : Scope} {ON own N : List Str} {tg iter elt : Expr} {ifs : List Expr} {pos : Pos} {wi : TI} {g : TG} {tc : TT} {te : TE} (S : CompScope osc ON scope own N) (hosc : X.env.scope = osc) (hON : X.N = ON) (hc : X.calm = true) (hi : PI X tg iter wi)
    (hg : ∀ C s H fp, PG (cxComp X scope N C s H fp) tg g) (ht : ∀ C s H fp, PTs (cxComp X scope N C s H fp) ifs tc) (he : ∀ C s H fp, PE (cxComp X scope N C s H fp) elt te)
    {pins : List (Addr × Obj)} {σ : St} {H : Hp} {s : Shared} {Q : VK} (I : Inv X pins σ H s) (h : tComp wi own.length g tc te σ H Q) {RR : Value → Addr → Result → Shared → Prop}
    (fin : ∀ (D C : Addr) (H' : Hp) (s' : Shared) (m : Str → Option Value), Inv X pins σ H' s' → Q (.ref D) H' → H' C = none → X.s₀.heap.objs.size ≤ C → C ≠ X.env.locals → (∀ x c, X.env.cells.lookup x = some c → c ≠ C) → (∀ p ∈ X.pn ++ pins, p.1 ≠ C) →
      s'.heap.Ns C m → RR (.ref D) C (.ok .next) s') :
    wpAny (model X.prog X.w) X.A (eval iter X.env) (fun x s₁ => wpAny (model X.prog X.w) X.A (pyIter x) (fun it s₂ => wpAny (model X.prog X.w) X.A (newList []) (fun acc s₃ =>
      wpAny (model X.prog X.w) X.A (newFunctionEnv scope X.env.globals (closL X.env.cells scope.names []) [] X.env.qual none .none (some X.env)) (fun cenv s₄ =>
        codeAny (model X.prog X.w) X.A (.compStart (.ListComp elt [⟨tg, iter, ifs, 0⟩] scope pos) 0 it acc { cenv with scope := relabel scope X.env }) (RR acc cenv.locals) s₄) X.xe s₃) X.xe s₂) X.xe s₁) X.xe s := by
  refine thn (hi pins s σ H _ I h) fun v s1 h1 => thn h1 fun itv s2 h2 => ?_
  obtain ⟨it, fp, tn, J, H2, e, I2, T, st2, f2, q⟩ := h2
  subst e
  refine wpAny_newObj_type (wpAny_newFunctionEnv S.nocell (by intro y hy; simp at hy) (fun h₁ hns₁ hsb₁ => ?_) S.kind)
  dsimp only at hns₁ hsb₁ ⊢
  have I3 : Inv X pins σ (upd H2 s2.heap.objs.size (.lst [])) { s2 with heap := s2.heap.push { cls := .type "list", data := .seq ([] : List Value).toArray }, toks := s2.toks } := I2.lnew (t' := s2.toks) .nil (Nat.zero_le _)
  have hD2 : H2 s2.heap.objs.size = none := I2.fresh
  obtain ⟨W, ⟨m0, w0⟩, turn⟩ := q _ hD2
  generalize hs3 : ({ s2 with heap := s2.heap.push { cls := .type "list", data := .seq ([] : List Value).toArray }, toks := s2.toks } : Shared) = s3 at I3
  have eh3 : s3.heap = s2.heap.push { cls := .type "list", data := .seq ([] : List Value).toArray } := by rw [← hs3]
  generalize hD : s2.heap.objs.size = D at I3 turn w0 hD2 ⊢
  generalize hH3 : upd H2 D (.lst []) = H3 at I3 w0
  rw [← eh3] at hns₁ hsb₁ ⊢
  have hC3 : H3 s3.heap.objs.size = none := I3.fresh
  have hsz3 : s3.heap.objs.size = D + 1 := by rw [eh3, Heap.size_push, hD]
  have fp2 : ∀ b ∈ fp, b < s2.heap.objs.size := fun b hb => by
    obtain ⟨o, e, _⟩ := T.obj _ _ st2 b hb
    exact Heap.lt_size e
  have f3 : ∀ b ∈ fp, FpOk X pins H3 b := fun b hb => by
    obtain ⟨g0, g1⟩ := f2 b hb
    refine ⟨?_, g1⟩
    rw [← hH3, upd_ne (by rw [← hD]; exact Nat.ne_of_lt (fp2 b hb))]
    exact g0
  have neC : ∀ b o, s3.heap.get? b = some o → b ≠ s3.heap.objs.size := fun b o e => Nat.ne_of_lt (Heap.lt_size e)
  have old : ∀ b o, s3.heap.get? b = some o → h₁.get? b = some o := fun b o e => hsb₁.extBut b o (neC b o e) (Heap.get?_push_of_some _ e)
  have hk := S.kind
  have hfr : ∀ y ∈ scope.names, y.2 = .free → ∃ c, X.env.cells.lookup y.1 = some c := fun y hy hf => I3.ok.has _ (by subst hosc; exact S.free y hy hf)
  have sub := closL_sub (acc := []) hfr (by intro x c e; simp at e)
  -- the block's own invariant
  have JB : ∀ tk, Inv (cxComp X scope N s3.heap.objs.size s3 H3 fp) [] (List.replicate own.length none ++ σ) H3 { s3 with heap := h₁, toks := tk } := fun tk => by
    refine ⟨⟨I3.ok.mod, S.kind, I3.ok.glob, I3.ok.blt, Nat.le_refl _, fun x y c e1 e2 => I3.ok.inj x y c (sub x c e1) (sub y c e2), fun x hx => ?_, fun x c hf _ => (by cases hf), I3.ok.hd, I3.ok.frames, .inl rfl, fun b hb => ?_, I3.bs, Nat.le_trans I3.ok.bsz I3.sz, fun b o e hb => ?_, fun b hb hf => ?_, I3.stack, I3.stkFree⟩,
      rfl, I3.bare, Un.kept old, ⟨_, hns₁, fun i x v e1 e2 e3 => ?_⟩, fun x c e => ?_, hC3, fun x c e => I3.freeC x c (sub x c e), fun p hp => absurd (show p ∈ ([] : List (Addr × Obj)) from hp) (by simp), I3.hok.kept old, ?_⟩
    · have q := (relabel_lookup (env := X.env) x S.nocell).2 hx
      exact closL_has (PySem.mem_of_lookup q)
    · have hb : b ∈ fp := hb
      obtain ⟨_, g1, g2, g3, g4, g5⟩ := f3 b hb
      refine ⟨?_, fun x c e => g4 x c (sub x c e)⟩
      have := fp2 b hb
      show b ≠ s3.heap.objs.size
      rw [hsz3, ← hD]
      exact Nat.ne_of_lt (Nat.lt_succ_of_lt this)
    · have hb : b ∈ fp := hb
      obtain ⟨_, g1, g2, g3, g4, g5⟩ := f3 b hb
      rcases g3 with g3 | g3
      · exact I3.ok.noex b o e g3
      · exact absurd (Nat.lt_of_lt_of_le (Heap.lt_size e) (Nat.le_trans I3.ok.bsz g3)) (Nat.lt_irrefl _)
    · have hb : b ∈ fp := hb
      obtain ⟨_, g1, g2, g3, g4, g5⟩ := f3 b hb
      rcases List.mem_cons.mp (I3.stkSub b hf) with z | z
      · exact g1 z
      · exact g2 z
    · have hi : own.length ≤ i := by
        rcases Nat.lt_or_ge i own.length with hlt | hge
        · rw [List.getElem?_append_left (by simpa using hlt), List.getElem?_replicate] at e2
          split at e2 <;> cases e2
        · exact hge
      rw [List.getElem?_append_right (by simpa using hi), List.length_replicate] at e2
      have e1 : N[own.length + (i - own.length)]? = some x := by rw [Nat.add_sub_cancel' hi]; exact e1
      have e1d : (N.drop own.length)[i - own.length]? = some x := by rw [List.getElem?_drop]; exact e1
      have nl : scope.names.lookup x ≠ some .local := S.own x (List.mem_of_getElem? e1d)
      have vis : scope.names.lookup x = some .free := by
        rcases e3 with z | z
        · exact absurd ((relabel_lookup (env := X.env) x S.nocell).1 z) nl
        · exact (relabel_lookup (env := X.env) x S.nocell).2 z
      have hlen := I3.len
      have hlt : i - own.length < X.N.length := by
        rw [← hlen]
        exact (List.getElem?_eq_some_iff.mp e2).1
      have hxN : X.N[i - own.length]? = some x := by
        rw [List.getElem?_eq_getElem hlt]
        have mz : (X.N[i - own.length], x) ∈ ON.zip (N.drop own.length) := by
          rw [← hON]
          refine List.mem_of_getElem? (i := i - own.length) ?_
          rw [List.getElem?_zip_eq_some]
          exact ⟨List.getElem?_eq_getElem hlt, e1d⟩
        rcases S.out _ mz with z | z
        · exact congrArg some z
        · exact absurd z (by rw [vis]; simp)
      have hko : X.env.scope.names.lookup x = some .cell ∨ X.env.scope.names.lookup x = some .free := by subst hosc; exact S.free _ (PySem.mem_of_lookup vis) rfl
      obtain ⟨m, hn, hl⟩ := I3.loc
      have hv : Vis X.env.scope x := by
        rcases hko with z | z
        · exact .inr (.inl z)
        · exact .inr (.inr z)
      obtain ⟨u, ru, lk⟩ := hl _ x v hxN e2 hv
      refine ⟨u, ru, .inr ⟨?_, ?_⟩⟩
      · rcases e3 with z | z
        · exact absurd ((relabel_lookup (env := X.env) x S.nocell).1 z) nl
        · exact z
      · rcases lk with ⟨k, _⟩ | ⟨_, c, ec, hcell⟩
        · exfalso
          have k' : X.env.scope.names.lookup x = some .local := k
          rcases hko with z | z
          · rw [k'] at z; cases z
          · rw [k'] at z; cases z
        · obtain ⟨c', ec'⟩ := closL_has (cells := X.env.cells) (acc := []) (PySem.mem_of_lookup vis)
          have := sub x c' ec'
          rw [ec] at this
          cases this
          obtain ⟨o, ho, hd⟩ := hcell
          exact ⟨c, ec', o, old c o ho, hd⟩
    · obtain ⟨v, o, ho, hd⟩ := I3.cell x c (sub x c e)
      exact ⟨v, o, old c o ho, hd⟩
    · show (List.replicate own.length none ++ σ).length = N.length
      rw [S.len, List.length_append, List.length_replicate, I3.len, hON]
  have stat : ∀ {H' : Hp}, (∀ b ∈ fp, H' b = none) → ∀ b ∈ fp, FpOk (cxComp X scope N s3.heap.objs.size s3 H3 fp) [] H' b := fun {H'} hn b hb => by
    obtain ⟨_, g1, g2, g3, g4, g5⟩ := f3 b hb
    refine ⟨hn b hb, ?_, fun hf => ?_, .inl hb, fun x c e => g4 x c (sub x c e), fun p hp => absurd (show p ∈ ([] : List (Addr × Obj)) from hp) (by simp)⟩
    · have := fp2 b hb
      show b ≠ s3.heap.objs.size
      rw [hsz3, ← hD]
      exact Nat.ne_of_lt (Nat.lt_succ_of_lt this)
    · rcases List.mem_cons.mp (I3.stkSub b hf) with z | z
      · exact g1 z
      · exact g2 z
  have st4 : tn 0 h₁ := T.keep _ _ _ st2 fun b hb o e => old b o (by rw [eh3]; exact Heap.get?_push_of_some _ e)
  have loop : ∀ s4 : Shared, s4 = { s3 with heap := h₁, toks := s2.toks + ([] : List (Str × Value)).length } →
      codeAny (model X.prog X.w) X.A (.compLoop (.ListComp elt [⟨tg, iter, ifs, 0⟩] scope pos) 0 (.ref it) (.ref D) (cxComp X scope N s3.heap.objs.size s3 H3 fp).env) (RR (.ref D) s3.heap.objs.size) s4 := by
    rintro s4 rfl
    refine compLoop_any (fun n s' => ∃ i ys σ' H', Inv (cxComp X scope N s3.heap.objs.size s3 H3 fp) [] σ' H' s' ∧ tn i s'.heap ∧ (∀ b ∈ fp, H' b = none) ∧ W i n ys σ' H') ?_ m0 ⟨0, [], _, H3, JB _, st4, fun b hb => (f3 b hb).1, w0⟩
    rintro n s5 ⟨i, ys, σ5, H5, I5, st5, fr5, w5⟩
    obtain ⟨hD5, ways⟩ := turn i n ys σ5 H5 w5
    rcases ways with ⟨stop, qn⟩ | ⟨go, hys, step⟩
    · refine thn (T.done (cxComp X scope N s3.heap.objs.size s3 H3 fp) rfl rfl rfl hc i [] s5 σ5 H5 _ I5 (stat fr5) st5 stop) fun r s6 ⟨hr, I6⟩ => ?_
      subst hr
      obtain ⟨m, hn, _⟩ := I6.loc
      refine fin D _ H5 s6 m ?_ qn I6.free (Nat.le_trans I3.sz (Nat.le_refl _)) ?_ (fun x c e z => ?_) (fun p hp z => ?_) hn
      · refine I3.call' (ch := fp) I6.os I6.base I6.hok I6.bare fun b hb => ?_
        obtain ⟨_, g1, g2, g3, g4, g5⟩ := f3 b hb
        exact ⟨g3, g1, g4, g5⟩
      · exact Nat.ne_of_gt I3.lt
      · obtain ⟨v, o, ho, _⟩ := I3.cell x c e
        exact absurd (Heap.lt_size ho) (by rw [z]; exact Nat.lt_irrefl _)
      · exact absurd (Heap.lt_size (I3.pin p hp).1) (by rw [z]; exact Nat.lt_irrefl _)
    · refine thn (T.item (cxComp X scope N s3.heap.objs.size s3 H3 fp) rfl rfl rfl hc i [] s5 σ5 H5 _ I5 (stat fr5) st5 go) fun r s6 ⟨u, hr, h6⟩ => ?_
      subst hr
      refine thn h6 fun _ s7 ⟨x, H7, I7, r7, y7, st7, fr7⟩ => ?_
      have I7' := I7.pinned (stat fr7) (T.obj _ _ st7)
      have back : ∀ {σ8 : St} {H8 : Hp} {s8 : Shared}, Inv (cxComp X scope N s3.heap.objs.size s3 H3 fp) ([] ++ pinsAt fp s7.heap) σ8 H8 s8 → tn (i + 1) s8.heap ∧ ∀ b ∈ fp, H8 b = none := fun {σ8 H8 s8} I8 => by
        refine ⟨T.keep _ _ _ st7 fun b hb o e => (I8.pin (b, o) (List.mem_append_right _ (List.mem_append_right _ (mem_pinsAt hb e)))).1, fun b hb => ?_⟩
        obtain ⟨o, e, d⟩ := T.obj _ _ st7 b hb
        exact (I8.pin (b, o) (List.mem_append_right _ (List.mem_append_right _ (mem_pinsAt hb e)))).2.1
      refine thn (hg _ _ _ _ _ s7 σ5 H7 x u _ I7' r7 (step x H7 y7)) fun _ s8 ⟨σ8, H8, I8, q8⟩ => ?_
      refine thn (ht _ _ _ _ _ s8 σ8 H8 _ I8 q8) fun ok s9 ⟨H9, I9, q9⟩ => ?_
      cases ok with
      | false =>
        rw [if_neg (by simp)] at q9 ⊢
        obtain ⟨m', hm, w9⟩ := q9
        exact ⟨m', hm, i + 1, ys, σ8, H9, I9.unpinned, (back I9).1, (back I9).2, w9⟩
      | true =>
        rw [if_pos rfl] at q9 ⊢
        refine thn (he _ _ _ _ _ s9 σ8 H9 _ I9 q9) fun y s10 ⟨v10, H10, I10, r10, hD10, m', hm, w10⟩ => ?_
        refine thn (mt_append _ s10 σ8 H10 (.ref D) [v10] (.ref D) [y] (fun r H11 => r = .non ∧ H11 = upd H10 D (.lst (ys ++ [v10]))) I10 rfl (.cons r10 .nil) ⟨D, ys, v10, rfl, rfl, hD10, hys, rfl, rfl⟩) fun _ s11 ⟨_, H11, I11, _, _, e11⟩ => ?_
        subst e11
        exact ⟨m', hm, i + 1, _, σ8, _, I11.unpinned, (back I11).1, (back I11).2, w10⟩
  have start := codeAny_compStart_list (R := RR (.ref D) s3.heap.objs.size) (loop _ rfl) (T.self X.A 0 _ _ _ st4 (loop _ rfl))
  subst hs3
  exact start
/-- [elt for tg in iter if ..] -/
theorem pe_comp {X : Cx} {osc scope : Scope} {ON own N : List Str} {tg iter elt : Expr} {ifs : List Expr} {pos : Pos} {wi : TI} {g : TG} {tc : TT} {te : TE} (S : CompScope osc ON scope own N) (hosc : X.env.scope = osc) (hON : X.N = ON) (hc : X.calm = true) (hi : PI X tg iter wi)
    (hg : ∀ C s H fp, PG (cxComp X scope N C s H fp) tg g) (ht : ∀ C s H fp, PTs (cxComp X scope N C s H fp) ifs tc) (he : ∀ C s H fp, PE (cxComp X scope N C s H fp) elt te)
    (hs : ∀ x, foldedSetIterable iter X.env x = pure x := by intro _; rfl) :
    PE X (.ListComp elt [⟨tg, iter, ifs, 0⟩] scope pos) (tComp wi own.length g tc te) := by
  intro pins s σ H Q I h
  have hfr : ∀ y ∈ scope.names, y.2 = .free → ∃ c, X.env.cells.lookup y.1 = some c := fun y hy hf => I.ok.has _ (by subst hosc; exact S.free y hy hf)
  rw [eval_ListComp]
  refine wpAny_comprehension_free (use := none) rfl hs (closureFor_eq hfr) S.kind S.loc ?_
  refine comp_core S hosc hON hc hi hg ht he I h (RR := fun acc C => compPost (model X.prog X.w) X.A X.xe none (EP X pins σ Q) acc C) ?_
  intro D C H' s' m I' q h1 h2 h3 h4 h5 hn
  exact ⟨m, hn, fun h'' hs'' => ⟨.ref D, H', I'.turned (t' := s'.toks) (fun b o hb e => (hs''.2 b hb).trans e) h1 h3 (.inr h2) h4 h5, rfl, q⟩⟩
/-- y = [elt for tg in iter if ..] -/
theorem ps_setComp {X : Cx} {osc scope : Scope} {ON own N : List Str} {tg iter elt : Expr} {ifs : List Expr} {pos spos py : Pos} {wi : TI} {g : TG} {tc : TT} {te : TE} {j : Nat} {y : Str} (hN : X.N.Nodup) (hj : X.N[j]? = some y) (hx : Loc X.env.scope y) (S : CompScope osc ON scope own N) (hosc : X.env.scope = osc) (hON : X.N = ON) (hc : X.calm = true) (hi : PI X tg iter wi)
    (hg : ∀ C s H fp, PG (cxComp X scope N C s H fp) tg g) (ht : ∀ C s H fp, PTs (cxComp X scope N C s H fp) ifs tc) (he : ∀ C s H fp, PE (cxComp X scope N C s H fp) elt te)
    (hsw : autoParam (swapsWith (.ListComp elt [⟨tg, iter, ifs, 0⟩] scope pos) (some (.Name y py)) spos.line X.env = pure true) L2.aRfl._auto_1)
    (hf : autoParam (X.fn y = true ∨ X.env.scope.names.lookup y = some .local) L2.aLoc._auto_1)
    (hs : ∀ x, foldedSetIterable iter X.env x = pure x := by intro _; rfl) :
    PS X (.Assign [.Name y py] (.ListComp elt [⟨tg, iter, ifs, 0⟩] scope pos) spos) (tAsg (tComp wi own.length g tc te) (gName j)) := by
  intro pins s σ H Dn I h
  have hfr : ∀ y ∈ scope.names, y.2 = .free → ∃ c, X.env.cells.lookup y.1 = some c := fun y hy hf => I.ok.has _ (by subst hosc; exact S.free y hy hf)
  rw [exec_Assign_Name_used _ _ _ _ hsw]
  refine wpAny_bind (wpAny_standAt (wpAny_bind ?_))
  show wpAny _ X.A (do let _ ← comprehension (.ListComp elt [⟨tg, iter, ifs, 0⟩] scope pos) scope X.env _ (newList []) false (eval iter X.env) (some (assign (.Name y py) X.env))) _ _ s
  refine wpAny_bind (wpAny_mono (wpAny_comprehension_free (use := some (assign (.Name y py) X.env)) (Q := fun _ s' => SP X pins Dn .next s') rfl hs (closureFor_eq hfr) S.kind S.loc ?_) (fun _ s' hq => wpAny_pure (wpAny_pure hq)) fun _ _ e => e)
  refine comp_core S hosc hON hc hi hg ht he I h (RR := fun acc C => compPost (model X.prog X.w) X.A X.xe (some (assign (.Name y py) X.env)) (fun _ s' => SP X pins Dn .next s') acc C) ?_
  intro D C H' s' m I' q h1 h2 h3 h4 h5 hn
  show wpAny _ X.A (assign (.Name y py) X.env (.ref D)) _ _ _
  refine wpAny_assign_Name (store_ok2 I' hN hj hx (v := .ref D) rfl (fun s'' I'' hsb => ?_) hf)
  obtain ⟨a, sb, ha⟩ := hsb
  have nC : C ≠ a := by
    rcases ha with ha | ha
    · rw [ha]; exact h3
    · exact (h4 y a ha).symm
  exact ⟨m, hn.sameBut sb nC, fun h'' hs'' => ⟨_, H', I''.turned (t' := s''.toks) (fun b o hb e => (hs''.2 b hb).trans e) h1 h3 (.inr h2) h4 h5, q⟩⟩
end L2

set_option linter.all false
set_option maxRecDepth 100000
set_option maxHeartbeats 4000000
namespace L2
open PySem PySem.Spec PyProof.Rows

noncomputable def nst (e : Expr) : Bool := match e with
  | .Starred .. => false
  | _ => true
theorem star1 {e : Expr} {es : List Expr} {env : Env} (h : nst e = true) : starEach (e :: es) env = (false, eval e env) :: starEach es env := by
  cases e <;> first | rfl | cases h
theorem plain_any {env : Env} {pos : Pos} : ∀ {es : List Expr}, es.all nst = true → (backTo pos (starEach es env)).any (·.1) = false
  | [], _ => rfl
  | e :: es, h => by
    rw [List.all_cons, Bool.and_eq_true] at h
    rw [star1 h.1]
    show (false || (backTo pos (starEach es env)).any (·.1)) = false
    rw [plain_any h.2]; rfl
theorem plain_all {env : Env} {pos : Pos} : ∀ {es : List Expr}, es.all nst = true → (backTo pos (starEach es env)).all (fun x => !x.1) = true
  | [], _ => rfl
  | e :: es, h => by
    rw [List.all_cons, Bool.and_eq_true] at h
    rw [star1 h.1]
    show (true && (backTo pos (starEach es env)).all (fun x => !x.1)) = true
    rw [plain_all h.2]; rfl
theorem few_ok {env : Env} {cpos : Pos} {e : Expr} {es : List Expr} (h : (e :: es).all nst = true) (hl : (e :: es).length < 30) :
    ((backTo cpos (starEach (e :: es) env)).all (fun x => !x.1) && (backToKw cpos (keywordEach [] env)).all (fun x => x.1.isSome) && decide ((e :: es).length + ([] : List Keyword).length + (if ([] : List Keyword).isEmpty then 0 else 1) < 30)) = true := by
  rw [plain_all h]
  have e2 : (backToKw cpos (keywordEach [] env)).all (fun x => x.1.isSome) = true := rfl
  rw [e2]
  have e3 : (e :: es).length + ([] : List Keyword).length + (if ([] : List Keyword).isEmpty then 0 else 1) < 30 := hl
  rw [decide_eq_true e3]; rfl
section
variable {X : Cx} {e : Expr} {es : List Expr} {te : TE} {t : TA}
theorem pa_c (ha : PE X e te) (hr : PA X es t) (h : autoParam (nst e = true) L2.aRfl._auto_1) : PA X (e :: es) (tCons te t) := pa_cons ha hr (star1 h)
theorem pe_cb {id : String} {x : Str} {p pos : Pos} {r : List V → Hp → VK → Prop} (hc : CallR X (.builtin id) r) (hg : Gl X x) (hm : X.mg x = none) (hv : bootBuiltins x = some (.builtin id)) (ha : PA X (e :: es) t) (h1 : autoParam (nst e = true) L2.aRfl._auto_1) (h2 : autoParam (es.all nst = true) L2.aRfl._auto_1) (hn : autoParam (x ≠ "__name__") L2.aDec._auto_1) (hdb : autoParam ((x == ("__debug__" : Str)) = false) L2.aDec._auto_1) :
    PE X (.Call (.Name x p) (e :: es) [] pos) (tCB r t) := pe_callB hc hg hm hv ha hn hdb (star1 h1) (plain_any h2)
theorem pe_ct {T : String} {x : Str} {p pos : Pos} {r : List V → Hp → VK → Prop} (hc : CallR X (.type T) r) (hg : Gl X x) (hm : X.mg x = none) (hv : bootBuiltins x = some (.type T)) (ha : PA X (e :: es) t) (h1 : autoParam (nst e = true) L2.aRfl._auto_1) (h2 : autoParam (es.all nst = true) L2.aRfl._auto_1) (hn : autoParam (x ≠ "__name__") L2.aDec._auto_1) (hdb : autoParam ((x == ("__debug__" : Str)) = false) L2.aDec._auto_1) :
    PE X (.Call (.Name x p) (e :: es) [] pos) (tCB r t) := pe_callTy hc hg hm hv ha hn hdb (star1 h1) (plain_any h2)
theorem pe_bmQ {o : Expr} {to : TE} {name : Str} {apos cpos : Pos} {T id : String} {r : V → List V → Hp → VK → Prop} (pa : PlainAttrs T) (slot : Slot T name id) (hty : typeOf (.builtin id) = pure (.type "method_descriptor")) (hm : MtR X id r) (ho : PE X o to) (ha : PA X (e :: es) t)
    (hbase : attributeBase o name X.env (eval o X.env) = eval o X.env) (hline : (apos.endLine == cpos.line) = true) (h : (e :: es).all nst = true) (hl : (e :: es).length < 30) : PE X (.Call (.Attribute o name apos) (e :: es) [] cpos) (tBM X.K T r to t) := by
  have h' := h
  rw [List.all_cons, Bool.and_eq_true] at h'
  exact pe_bm pa slot hty hm ho ha hbase (few_ok h hl) hline (star1 h'.1) (plain_any h'.2)
theorem pi_range1Q {tg a : Expr} {ta : TA} {p pos : Pos} (hg : Gl X "range") (hm : X.mg "range" = none) (ha : PA X [a] ta) (h : autoParam (nst a = true) L2.aRfl._auto_1) : PI X tg (.Call (.Name "range" p) [a] [] pos) (iRng1 ta) := pi_range1 hg hm ha (star1 h)
end

structure HasFn (K : PySem.W.Frag) (mg : Str → Option Value) (x : Str) (st : Stmt) (ps : List Str) : Prop where
  ex : ∃ (f : Addr) (fd : FuncData), Fun K x x st f fd ∧ Binds K fd ps [] ∧ mg x = some (.ref f)
structure CallOk (P : Program) (w : World) (K : PySem.W.Frag) (mg : Str → Option Value) (base : Heap) (CX : CXT) (k : Nat) (x : Str) (ps : List Str) (sp : Sp) : Prop where
  ex : ∃ (f : Addr) (fd : FuncData), mg x = some (.ref f) ∧ PySem.W.keepIn K (.ref f) = true ∧ Binds K fd ps [] ∧ FnOk P w K mg base CX k f fd ps sp
section
variable {P : Program} {w : World} {K : PySem.W.Frag} {mg : Str → Option Value} {base : Heap}
/-- a def's promise from its body -/
theorem HasFn.ok {x : Str} {st : Stmt} {N ps : List Str} {k : Nat} {sp : Sp} (F : HasFn K mg x st ps) (S : FnScope N ps (defScope st)) (len : ∀ vs H Q E, sp vs H Q E → vs.length = ps.length)
    (hbody : ∀ (f : Addr) (cdv : Value) (A : Around) (outer : List Env) (s : Shared) (H : Hp) (vs : List V) (Q : VK) (E : XK), Room k (A.deeper (envOfC x (defScope st) s.heap.objs.size f cdv)) → sp vs H Q E →
      ∃ t, PSs (cxOf CX0 P w K mg base N x (defScope st) f cdv A outer s H E).nox (defBody st) t ∧ t { nx := fun _ H' => Q .non H', rt := Q } (start N vs) H) : CallOk P w K mg base CX0 (k + 1) x ps sp := by
  obtain ⟨f, fd, F1, b, m⟩ := F.ex
  exact ⟨f, fd, m, F1.kp, b, F1.ok S len fun cdv A outer s H vs Q E hr h => hbody f cdv A outer s H vs Q E hr h⟩
end
section
variable {X : Cx} {CX : CXT} {k : Nat} {ps : List Str} {sp : Sp} {E : XK} {x : Str} {p pos : Pos} {e : Expr} {es : List Expr} {t : TA}
theorem pe_fn (F : CallOk X.prog X.w X.K X.mg X.base CX k x ps sp) (hr : Room k X.A) (hg : Gl X x) (hx : Passes CX X E) (ha : PA X (e :: es) t) (h1 : autoParam (nst e = true) L2.aRfl._auto_1) (h2 : autoParam (es.all nst = true) L2.aRfl._auto_1) (hdb : autoParam ((x == ("__debug__" : Str)) = false) L2.aDec._auto_1) :
    PE X (.Call (.Name x p) (e :: es) [] pos) (tCall sp [] E t) := by
  obtain ⟨f, fd, m, kp, b, G⟩ := F.ex
  exact pe_call G hr hg m kp b .nil hx ha hdb (star1 h1) (plain_any h2)
end

noncomputable def conV : Expr → Option V
  | .Constant (.int i) _ _ => some (.int i)
  | .Constant (.str x) _ _ => some (.str x)
  | .Constant (.bool b) _ _ => some (.bl b)
  | .Constant .none _ _ => some .non
  | _ => none
noncomputable def consV : List Expr → Option (List V)
  | [] => some []
  | e :: es => match conV e, consV es with
    | some v, some vs => some (v :: vs)
    | _, _ => none
noncomputable def tK (vs : List V) : TA := fun _ H Q => Q vs H
theorem pe_cst {X : Cx} {e : Expr} {v : V} (h : conV e = some v) : PE X e (tC v) ∧ ∀ es, starEach (e :: es) X.env = (false, eval e X.env) :: starEach es X.env := by
  unfold conV at h
  split at h
  · cases h; exact ⟨pe_int, fun _ => rfl⟩
  · cases h; exact ⟨pe_str, fun _ => rfl⟩
  · cases h; exact ⟨pe_bl, fun _ => rfl⟩
  · cases h; exact ⟨pe_non, fun _ => rfl⟩
  · cases h
theorem pa_consts {X : Cx} : ∀ {es : List Expr} {vs : List V}, consV es = some vs → PA X es (tK vs)
  | [], vs, h => by cases h; exact pa_nil
  | e :: es, vs, h => by
    unfold consV at h
    split at h
    · rename_i v ws e1 e2
      cases h
      have p := pe_cst (X := X) e1
      exact pa_cons (te := tC v) (t := tK ws) p.1 (pa_consts e2) (p.2 es)
    · cases h
/-- the items of a tracked list (true) or tuple (false) -/
noncomputable def sq (H : Hp) (p : Addr) : Option (Bool × List V) := match H p with
  | some (.lst xs) => some (true, xs)
  | some (.tup xs) => some (false, xs)
  | some (.frz _ (.lst xs)) => some (true, xs)
  | some (.frz _ (.tup xs)) => some (false, xs)
  | _ => none
section
variable {X : Cx}
/-- x + y -/
noncomputable def uAdd (K : PySem.W.Frag) : R2 := fun x y H Q => match x, y with
  | .int i, .int j => Q (.int (i + j)) H
  | .str i, .str j => i.length + j.length ≤ sizeLine ∧ Q (.str (i ++ j)) H
  | .ref a, .ref b => match H a, H b with
    | some (.lst xs), some (.lst ys) => xs.length + ys.length ≤ sizeLine ∧ ∀ p, H p = none → Q (.ref p) (upd H p (.lst (xs ++ ys)))
    | some (.tup xs), some (.tup ys) => xs ≠ [] ∧ ys ≠ [] ∧ xs.length + ys.length ≤ sizeLine ∧ ∀ p, H p = none → Q (.ref p) (upd H p (.tup (xs ++ ys)))
    | _, _ => False
  | _, _ => False
/-- x[lo:hi] -/
noncomputable def uSl (K : PySem.W.Frag) : V → Option Int → Option Int → Hp → VK → Prop := fun x lo hi H Q => match x with
  | .ref p => match sq H p with
    | some (true, xs) => ∀ q, H q = none → Q (.ref q) (upd H q (.lst (cutV xs lo hi)))
    | some (false, xs) => rSlT K (.ref p) lo hi H Q
    | none => rSlT K (.ref p) lo hi H Q
  | _ => False
/-- o[i] = v -/
noncomputable def uSet : V → V → V → Hp → (Hp → Prop) → Prop := fun o i v H Q => match o, i with
  | .ref p, .int k => match H p with
    | some (.lst xs) => (match ixN xs.length k with | some j => Q (upd H p (.lst (xs.set j v))) | none => False)
    | _ => False
  | _, _ => False
theorem uset : PSet X uSet := by
  intro pins s σ H o i v ov iv u Q I ro ri rv h
  cases o with
  | ref p => cases i with
    | int k =>
      unfold uSet at h
      simp only at h
      split at h
      · rename_i xs e
        split at h
        · rename_i j e'
          exact set_list pins s σ H _ _ v ov iv u Q I ro ri rv ⟨p, xs, k, j, rfl, rfl, e, e', h⟩
        · exact h.elim
      · exact h.elim
    | _ => exact (show False from h).elim
  | _ => exact (show False from h).elim

noncomputable def uMax : List V → Hp → VK → Prop := fun xs H Q => match xs with
  | [.int i, .int j] => Q (.int (if j > i then j else i)) H
  | _ => False
theorem ucall_max (hc : X.calm = true) : CallR X (.builtin "max") uMax := by
  intro pins s σ H xs us Q I r h
  rcases xs with _ | ⟨x, _ | ⟨y, _ | ⟨z, zs⟩⟩⟩
  · exact (show False from h).elim
  · cases x <;> exact (show False from h).elim
  · cases x with
    | int i => cases y with
      | int j => exact call_max2 hc pins s σ H _ us Q I r ⟨i, j, rfl, h⟩
      | _ => exact (show False from h).elim
    | _ => exact (show False from h).elim
  · cases x <;> first | exact (show False from h).elim | (cases y <;> exact (show False from h).elim)
noncomputable def uTuple (K : PySem.W.Frag) : List V → Hp → VK → Prop := fun xs H Q => match xs with
  | [.ref p] => match sq H p with
    | some (true, ys) => ∀ l, H l = none → Q (.ref l) (upd H l (.tup ys))
    | some (false, _) => Q (.ref p) H
    | none => ∃ ys, SqT K H p ys ∧ Q (.ref p) H
  | _ => False
noncomputable def uInt : List V → Hp → VK → Prop := fun xs H Q => match xs with
  | [.int i] => Q (.int i) H
  | [.bl k] => Q (.int (if k = true then 1 else 0)) H
  | _ => False
theorem ucall_int : CallR X (.type "int") uInt := by
  intro pins s σ H xs us Q I r h
  rcases xs with _ | ⟨x, _ | ⟨y, ys⟩⟩
  · exact (show False from h).elim
  · cases x with
    | int i => exact call_int1 pins s σ H _ us Q I r (.inl ⟨i, rfl, h⟩)
    | bl k => exact call_int1 pins s σ H _ us Q I r (.inr ⟨k, rfl, h⟩)
    | _ => exact (show False from h).elim
  · cases x <;> exact (show False from h).elim
/-- isinstance(x, C), C a built-in type -/
noncomputable def tyU (H : Hp) : V → Option String
  | .non => some "NoneType"
  | .bl _ => some "bool"
  | .int _ => some "int"
  | .str _ => some "str"
  | .ref a => match H a with
    | some (.lst _) => some "list"
    | some (.tup _) => some "tuple"
    | some (.dK _) => some "dict"
    | _ => none
  | _ => none
theorem tyU_of {K : PySem.W.Frag} {H : Hp} {x : V} {t : String} (h : tyU H x = some t) : TyOf K H x (.type t) := by
  unfold tyU at h
  split at h
  · cases h; exact .non
  · cases h; exact .bl _
  · cases h; exact .int _
  · cases h; exact .str _
  · split at h
    · rename_i e; cases h; exact .lst e
    · rename_i e; cases h; exact .tup e
    · rename_i e; cases h; exact .dK e
    · cases h
  · cases h
/-- which built-in types stand under which -/
noncomputable def isiU (t c : String) : Bool := decide (t = c) || (t == "bool" && c == "int")
theorem kit_pair {K : PySem.W.Frag} {t c : String} (ht : t ∈ ["NoneType", "bool", "int", "str", "list", "tuple", "dict"]) (hc : c ∈ ["bool", "int", "str", "list", "tuple", "dict"]) : PySem.W.kitOne K (.type t) (.type c) = some (isiU t c) := by
  simp only [List.mem_cons, List.not_mem_nil, or_false] at ht hc
  rcases ht with rfl | rfl | rfl | rfl | rfl | rfl | rfl <;> rcases hc with rfl | rfl | rfl | rfl | rfl | rfl <;> rfl
theorem tyU_in {H : Hp} {x : V} {t : String} (h : tyU H x = some t) : t ∈ ["NoneType", "bool", "int", "str", "list", "tuple", "dict"] := by
  unfold tyU at h
  split at h
  · cases h; decide
  · cases h; decide
  · cases h; decide
  · cases h; decide
  · split at h
    · cases h; decide
    · cases h; decide
    · cases h; decide
    · cases h
  · cases h
noncomputable def uIsi (K : PySem.W.Frag) : List V → Hp → VK → Prop := fun xs H Q => match xs with
  | [x, .ty T] => T ∈ ["bool", "int", "str", "list", "tuple", "dict"] ∧ match tyU H x with
    | some t => Q (.bl (isiU t T)) H
    | none => ∃ t b, TyOf K H x t ∧ PySem.W.kitOne K t (.type T) = some b ∧ Q (.bl b) H
  | _ => False
theorem ucall_isi : CallR X (.builtin "isinstance") (uIsi X.K) := by
  intro pins s σ H xs us Q I r h
  match xs, h with
  | [x, .ty T], h =>
    obtain ⟨u, w', rfl, r1, r2⟩ := vals2 r
    cases r2
    obtain ⟨hT, h⟩ := h
    split at h
    · rename_i t e
      exact isinst_ok I r1 (tyU_of e) (kit_pair (tyU_in e) hT) fun tk => ⟨.bl _, H, I.tok _, rfl, h⟩
    · obtain ⟨t, b, ty, k, q⟩ := h
      exact isinst_ok I r1 ty k fun tk => ⟨.bl b, H, I.tok _, rfl, q⟩
/-- a built-in type as a value -/
theorem pe_tyv {x : Str} {T : String} {pos : Pos} (hg : Gl X x) (hm : X.mg x = none) (hv : bootBuiltins x = some (.type T)) (hn : autoParam (x ≠ "__name__") L2.aDec._auto_1) (hd : autoParam ((x == ("__debug__" : Str)) = false) L2.aDec._auto_1) : PE X (.Name x pos) (tC (.ty T)) := pe_bltn hg hm hv rfl hn hd

end
section
variable {X : Cx} {o e : Expr} {es : List Expr} {to : TE} {t : TA} {apos cpos : Pos}
end

section
variable {X : Cx} {e : Expr} {te : TE}
end
end L2

set_option linter.all false
set_option maxRecDepth 100000
set_option maxHeartbeats 4000000
namespace L2
open PySem PySem.Spec PyProof.Rows
open AutoSeq1 (wpAny_loadPart')
section
variable {prog : Program} {w : World} {A : Around} {E : Value → Shared → Prop} {s : Shared}
theorem nextOf_tup_item {it l : Addr} {i : Nat} {items : Array Value} {x : Value} {Q : Value → Shared → Prop} (hit : s.heap.IsTupleIter it l i) (hl : s.heap.IsTuple l items) (hx : items[i]? = some x)
    (hQ : ∀ h', h'.IsTupleIter it l (i + 1) → Heap.SameBut it s.heap h' → Q x { s with heap := h' }) : wpAny (model prog w) A (Builtin.SmallTypes.nextOf (.ref it)) Q E s := by
  obtain ⟨o, ho, hc, hd⟩ := id hit
  obtain ⟨ol, hol, _, nl, hdl⟩ := hl
  unfold Builtin.SmallTypes.nextOf
  refine wpAny_bind (wpAny_callSpecial?_slot (name := Str.ofString "__next__") hit.typeIs F.slot_tuple_iterator_next (wpAny_call_entry F.slot_tuple_iterator_next hit.typeIs F.entry_tuple_iterator_next ?_ (F.args_tuple_iterator_next_1 _)))
  show wpAny _ _ (field (.ref it) 0 >>= _) _ _ s
  refine wpAny_bind (wpAny_field ho hd (x := .ref l) rfl ?_)
  show wpAny _ _ (if (Value.ref l == Value.none) = true then _ else _) _ _ s
  rw [if_neg (show ¬ ((Value.ref l == Value.none) = true) from Bool.false_ne_true)]
  show wpAny _ _ (field (.ref it) 1 >>= _) _ _ s
  refine wpAny_bind (wpAny_field ho hd (x := .int i 0) rfl ?_)
  show wpAny _ _ (seqItems? (.ref l) >>= _) _ _ s
  refine wpAny_bind (wpAny_seqItems hol hdl ?_)
  simp only [Int.toNat_natCast, hx]
  refine wpAny_bind (wpAny_setField ho hd (by simp) (wpAny_pure ⟨x, rfl, wpAny_pure (hQ _ ?_ (Heap.SameBut.update ..))⟩))
  exact ⟨_, Heap.get?_update_self _ ho (Obj.isFreed_of_fields (Obj.data_mapFields hd _)), (Obj.cls_mapFields ..).trans hc, by rw [Obj.data_mapFields hd]; simp [rawInt]⟩
theorem nextOf_tup_end {it l : Addr} {i : Nat} {items : Array Value} {Q : Value → Shared → Prop} (hh : A.handled = none) (hit : s.heap.IsTupleIter it l i) (hl : s.heap.IsTuple l items) (hx : items[i]? = none)
    (hE : ∀ h' e, Heap.ExtBut it s.heap h' → (∃ o, h'.get? e = some o ∧ o.cls = .type "StopIteration") → E (.ref e) { s with heap := h' }) : wpAny (model prog w) A (Builtin.SmallTypes.nextOf (.ref it)) Q E s := by
  obtain ⟨o, ho, hc, hd⟩ := id hit
  obtain ⟨ol, hol, _, nl, hdl⟩ := hl
  unfold Builtin.SmallTypes.nextOf
  refine wpAny_bind (wpAny_callSpecial?_slot (name := Str.ofString "__next__") hit.typeIs F.slot_tuple_iterator_next (wpAny_call_entry F.slot_tuple_iterator_next hit.typeIs F.entry_tuple_iterator_next ?_ (F.args_tuple_iterator_next_1 _)))
  show wpAny _ _ (field (.ref it) 0 >>= _) _ _ s
  refine wpAny_bind (wpAny_field ho hd (x := .ref l) rfl ?_)
  show wpAny _ _ (if (Value.ref l == Value.none) = true then _ else _) _ _ s
  rw [if_neg (show ¬ ((Value.ref l == Value.none) = true) from Bool.false_ne_true)]
  show wpAny _ _ (field (.ref it) 1 >>= _) _ _ s
  refine wpAny_bind (wpAny_field ho hd (x := .int i 0) rfl ?_)
  show wpAny _ _ (seqItems? (.ref l) >>= _) _ _ s
  refine wpAny_bind (wpAny_seqItems hol hdl ?_)
  simp only [Int.toNat_natCast, hx]
  refine wpAny_bind (wpAny_rule (wpAny_bind (wpAny_setField ho hd (by simp) ?_)))
  show wpAny _ _ (newExc (.type "StopIteration") [] >>= _) _ _ _
  refine wpAny_bind ?_
  simp only [newExc, newTuple]
  refine wpAny_bind (wpAny_newObj_type ?_ (by size_fits))
  refine wpAny_bind (m := firstArgMember _ _) (wpAny_of_eq (a := Value.none) (by first | rfl | (simp only [firstArgMember]; rfl)) ?_)
  refine wpAny_newObj_type ?_ (by size_fits)
  simp only [raiseNew]
  refine wpAny_bind (wpAny_handled ?_)
  first | rw [show A.in1.handled = none from hh] | rw [hh]
  refine wpAny_bind (wpAny_pure (wpAny_throw ?_))
  exact hE _ _ (((Heap.SameBut.update ..).extBut.push _).push _) ⟨_, Heap.get?_push_size _ rfl, rfl⟩
theorem draws_tup (hh : A.handled = none) (it l : Addr) (hne : l ≠ it) (items : Array Value) :
    Draws prog w A it [it, l] items.size (fun i v => items[i]? = some v) (fun i h => h.IsTupleIter it l i ∧ h.IsTuple l items) where
  live := fun _ _ st => let ⟨o, ho, _⟩ := st.1; ⟨o, ho⟩
  frame := fun _ _ _ st hk => ⟨let ⟨o, e, r⟩ := st.1; ⟨o, hk it (by simp) o e, r⟩, let ⟨o, e, r⟩ := st.2; ⟨o, hk l (by simp) o e, r⟩⟩
  item := fun i s Q E hi st hQ => by
    refine nextOf_tup_item st.1 st.2 (x := items[i]) (by simp [hi]) fun h' hit' hs' => ?_
    exact hQ _ h' s.toks (by simp [hi]) ⟨hit', st.2.extBut hs'.extBut hne⟩ hs'
  done := fun s Q E st hE => nextOf_tup_end hh st.1 st.2 (by simp) hE
theorem meets_enum_tup (l : Addr) (items : Array Value) (n : Nat) (dct : Option Addr) (sl : Array (Option Value)) :
    Meets (Builtin.«enumerate.__new__» ⟨[.type "enumerate", .ref l], []⟩) (fun _ R s => s.heap.get? l = some { cls := .type "tuple", dict := dct, data := .seq items n, slots := sl } ∧
      R (.ok (.ret (.ref (s.heap.push { cls := .type "tuple_iterator", data := .fields #[.ref l, .int 0 0] }).objs.size)))
        { s with heap := (s.heap.push { cls := .type "tuple_iterator", data := .fields #[.ref l, .int 0 0] }).push { cls := .type "enumerate", data := .fields #[.none, .bool false, .ref s.heap.objs.size, rawInt 0, .none, .none] } }) :=
  .of_wp fun prog w A R s h => by
    obtain ⟨hp, g, d, tk, os⟩ := s; obtain ⟨hl, h⟩ := h
    have hsub := sub_enumerate
    have hL : Heap.IsTuple (Shared.heap ⟨hp, g, d, tk, os⟩) l items := ⟨_, hl, rfl, n, rfl⟩
    wp_walk using wpAny_loadPart' hl
    refine wpAny_stack_any fun st => wpAny_pure ?_
    split
    · rename_i c _ _ _ _ _
      cases (c == Value.type "enumerate") <;> (wp_walk using wpAny_loadPart' hl, wpAny_pyIter_tuple hL; exact ⟨_, rfl, h⟩)
    · wp_walk using wpAny_loadPart' hl, wpAny_pyIter_tuple hL; exact ⟨_, rfl, h⟩
theorem call_enum_tup {l : Addr} {items : Array Value} {Q : Value → Shared → Prop} (hL : s.heap.IsTuple l items)
    (h : ∀ h', IsEnum h' (s.heap.objs.size + 1) s.heap.objs.size 0 .none → h'.IsTupleIter s.heap.objs.size l 0 → h'.objs.size = s.heap.objs.size + 2 →
      (∀ b o, s.heap.get? b = some o → h'.get? b = some o) → Q (.ref (s.heap.objs.size + 1)) { s with heap := h' }) :
    wpAny (model prog w) A (call (.type "enumerate") [.ref l]) Q E s := by
  obtain ⟨⟨c, dct, dt, sl⟩, hl, hc, n, hd⟩ := hL
  replace hc : c = .type "tuple" := hc
  replace hd : dt = .seq items n := hd
  subst hc hd
  refine callType_new F.called_enumerate (by decide) (F.typeCall_enumerate_1 _) (F.newCall_enumerate_1 _) (fun obj => F.args_object_init_2 obj _) F.entry_enumerate_new (meets_enum_tup l items n dct sl) ⟨hl, ?_⟩
  have hz : (s.heap.push { cls := .type "tuple_iterator", data := .fields #[.ref l, .int 0 0] }).objs.size = s.heap.objs.size + 1 := Heap.size_push ..
  show _ ∧ _
  rw [hz]
  have he : IsEnum ((s.heap.push { cls := .type "tuple_iterator", data := .fields #[.ref l, .int 0 0] }).push { cls := .type "enumerate", data := .fields #[.none, .bool false, .ref s.heap.objs.size, rawInt 0, .none, .none] }) (s.heap.objs.size + 1) s.heap.objs.size 0 .none := by
    have := Heap.get?_push_size (s.heap.push { cls := .type "tuple_iterator", data := .fields #[.ref l, .int 0 0] }) (o := { cls := .type "enumerate", data := .fields #[.none, .bool false, .ref s.heap.objs.size, rawInt 0, .none, .none] }) rfl
    rw [hz] at this; exact this
  refine ⟨⟨_, he, rfl⟩, h _ he ⟨_, Heap.get?_push_of_some _ (Heap.get?_push_size _ rfl), rfl, rfl⟩ (by rw [Heap.size_push, hz]) fun b o x => Heap.get?_push_of_some _ (Heap.get?_push_of_some _ x)⟩
end

section
variable {X : Cx} {pins : List (Addr × Obj)} {σ : St} {H : Hp} {s : Shared} {h' : Heap}
/-- the records at fp have turned -/
theorem Inv.turns {fp : List Addr} {t' : Nat} (I : Inv X pins σ H s) (hf : ∀ b ∈ fp, FpOk X pins H b) (k : ∀ b o, b ∉ fp → s.heap.get? b = some o → h'.get? b = some o) : Inv X pins σ H { s with heap := h', toks := t' } := by
  have nf : ∀ b u, H b = some u → b ∉ fp := fun b u e z => by rw [(hf b z).1] at e; cases e
  refine I.step (g' := s.gens) (d' := s.drawn) (ch := fp) (fun b hb => ?_) (fun b o _ _ hc e _ => k b o hc e) (fun b o _ _ hc e _ => ⟨o.slots, k b o hc e⟩) (fun _ _ _ _ n => n)
    (fun b o hc e => ⟨o, k b o hc e⟩) (fun _ _ e => e) (fun _ _ _ e => e) (fun b ps e => ⟨#[], by rw [e]; simp⟩) (fun m hm => ?_) (fun b u e => ?_) I.bare
  · obtain ⟨_, g1, g2, g3, g4, g5⟩ := hf b hb
    exact ⟨g3, g1, g4, g5⟩
  · obtain ⟨o, es, ep, ho, r⟩ := hm
    exact ⟨o, es, ep, k _ o (fun z => (hf _ z).2.1 rfl) ho, r⟩
  · refine (I.hok b u e).stay (fun c v hc q => k c v ?_ q) (fun _ q => q) fun _ _ q => q
    rcases hc with z | z
    · rw [z]; exact nf b u e
    · exact nf c _ z
/-- .. and a new thing at p is tracked -/
theorem Inv.turnNew {fp : List Addr} {p : Addr} {o : HO} {t' : Nat} (I : Inv X pins σ H s) (hf : ∀ b ∈ fp, FpOk X pins H b) (hp : s.heap.objs.size ≤ p) (k : ∀ b o, b ∉ fp → s.heap.get? b = some o → h'.get? b = some o)
    (new : ObjOk X.prog X.w (upd H p o) h' p o) : Inv X pins σ (upd H p o) { s with heap := h', toks := t' } := by
  have nf : ∀ b u, H b = some u → b ∉ fp := fun b u e z => by rw [(hf b z).1] at e; cases e
  have fr : H p = none := I.hok.fresh hp
  have np : ∀ b u, H b = some u → b ≠ p := fun b u e => ne_of_none e fr
  have ne : ∀ b o, s.heap.get? b = some o → b ≠ p := fun b o e z => by rw [z] at e; exact absurd (Nat.lt_of_lt_of_le (Heap.lt_size e) hp) (Nat.lt_irrefl _)
  refine I.step (g' := s.gens) (d' := s.drawn) (ch := fp) (fun b hb => ?_) (fun b o _ _ hc e _ => k b o hc e) (fun b o _ _ hc e _ => ⟨o.slots, k b o hc e⟩) (fun b o _ e n => by rw [upd_ne (ne b o e)]; exact n)
    (fun b o hc e => ⟨o, k b o hc e⟩) (fun b xs e => by rw [upd_ne (np b _ e)]; exact e) (fun b o u e => by rw [upd_ne (np b _ e)]; exact e) (fun b ps e => ⟨#[], by rw [upd_ne (np b _ e), e]; simp⟩) (fun m hm => ?_) (fun b u e => ?_) I.bare
  · obtain ⟨_, g1, g2, g3, g4, g5⟩ := hf b hb
    exact ⟨g3, g1, g4, g5⟩
  · obtain ⟨o, es, ep, ho, r⟩ := hm
    exact ⟨o, es, ep, k _ o (fun z => (hf _ z).2.1 rfl) ho, r⟩
  · by_cases hb : b = p
    · subst hb; rw [upd_same] at e; cases e; exact new
    · rw [upd_ne hb] at e
      refine (I.hok b u e).stay (fun c v hc q => k c v ?_ q) (fun c q => by rw [upd_ne (np c _ q)]; exact q) fun c xs q => by rw [upd_ne (np c _ q)]; exact q
      rcases hc with z | z
      · rw [z]; exact nf b u e
      · exact nf c _ z
end

noncomputable def getT (K : PySem.W.Frag) (a : Addr) : Nat → Hp → V → Prop := fun i H x => ∃ xs, SqT K H a xs ∧ xs[i]? = some x
noncomputable def endT (K : PySem.W.Frag) (a : Addr) : Nat → Hp → Prop := fun i H => ∃ xs, SqT K H a xs ∧ xs.length = i
/-- what yields i-th: a new pair -/
noncomputable def IteT (K : PySem.W.Frag) (a : Addr) : It :=
  ⟨fun i H => ∃ x, getT K a i H x, fun i H x H' => ∃ p y, (∀ xs, SqT K H a xs → xs[i]? = some y) ∧ H p = none ∧ x = .ref p ∧ H' = upd H p (.tup [.int i, y]), endT K a⟩
theorem turn_enumT {P : Program} {w : World} {K : PySem.W.Frag} {es : List Expr} {tk : Nat} {tp : Pos} (a it e : Addr) (hne : e ≠ it) : Turn P w K (.Tuple es tk tp) (IteT K a) [e, it] e (fun i h => (∃ old, IsEnum h e it i old) ∧ h.IsTupleIter it a i) where
  mem := by simp
  obj := fun i h st b hb => by
    obtain ⟨⟨old, he⟩, o, eo, c, d⟩ := st
    rcases List.mem_cons.mp hb with z | z
    · subst z; exact ⟨_, he, fun v z => by cases z⟩
    · have z : b = it := by simpa using z
      subst z
      exact ⟨o, eo, fun v z => by rw [d] at z; cases z⟩
  keep := fun i h h' st k => by
    obtain ⟨⟨old, he⟩, o, eo, r⟩ := st
    exact ⟨⟨old, k e (by simp) _ he⟩, o, k it (by simp) o eo, r⟩
  item := by
    intro X hP hw hK hc i pins s σ H E I hf st hg
    subst hP hw hK
    obtain ⟨x, xs, hq, hx⟩ := hg
    obtain ⟨⟨old, he⟩, hit⟩ := st
    obtain ⟨its, rv, p, hz⟩ := I.tuple hq
    obtain ⟨u, hu, ru⟩ := rv.get hx
    obtain ⟨g0, g1, g2, g3, g4, g5⟩ := hf e (by simp)
    obtain ⟨f0, f1, f2, f3, f4, f5⟩ := hf it (by simp)
    have ht : s.heap.IsTuple a its.toArray := p
    have ha : a ≠ it := by
      rintro rfl
      obtain ⟨o, e1, c1, _⟩ := hit
      obtain ⟨o', e2, c2, _⟩ := ht
      rw [e1] at e2; cases e2; rw [c1] at c2; exact absurd (Value.type.inj c2) (by decide)
    have hea : e ≠ a := by
      rintro rfl
      obtain ⟨o', e2, c2, _⟩ := ht
      have e1 : s.heap.get? e = some _ := he
      rw [e1] at e2; cases e2; exact absurd (Value.type.inj c2) (by decide)
    have hi : i < its.toArray.size := by
      have := (List.getElem?_eq_some_iff.mp hu).1
      simpa using this
    refine wpAny_pyNext_enum_itemD (draws_tup (A := X.A.in1) (I.ok.hd hc) it a ha its.toArray) he ⟨hit, ht⟩ hi hne (by simp [hne, hea]) fun x' h' tk' hP ho hs' hT hsz hk => ?_
    have ex : x' = u := by
      have hP' : its.toArray[i]? = some x' := hP
      rw [List.getElem?_toArray, hu] at hP'
      exact (Option.some.inj hP').symm
    subst ex
    refine ⟨.ref s.heap.objs.size, rfl, wpAny_letOwnedTupleGo_enum ho fun h2 he2 hs2 => ?_⟩
    have fr : H s.heap.objs.size = none := I.hok.fresh (Nat.le_refl _)
    have hle : e ≠ s.heap.objs.size := Nat.ne_of_lt (Heap.lt_size he)
    have hT2 : h2.get? s.heap.objs.size = some { cls := .type "tuple", data := .seq #[.int i tk', x'] } := (hs2.2 _ (Ne.symm hle)).trans hT
    have I2 : Inv X pins σ (upd H s.heap.objs.size (.tup [.int i, x])) { s with heap := h2, toks := tk' + 1 } := by
      refine I.turnNew (fp := [e, it]) hf (Nat.le_refl _) (fun b o hb eb => ?_) ⟨by show 2 ≤ sizeLine; decide, [.int i tk', x'], .cons ⟨_, rfl⟩ (.cons ru .nil), ⟨_, hT2, rfl, _, rfl⟩⟩
      have n1 : b ≠ e := fun z => hb (by simp [z])
      have n2 : b ≠ it := fun z => hb (by simp [z])
      exact (hs2.2 b n1).trans (hk b o n1 n2 eb)
    refine ⟨.ref s.heap.objs.size, _, I2, rfl, ⟨s.heap.objs.size, x, fun ys hy => by rw [I.tuple_inj hy hq]; exact hx, fr, rfl, rfl⟩, ⟨⟨x', ?_⟩, ?_⟩, fun b hb => ?_⟩
    · have e : (((i + 1 : Nat)) : Int) = (i : Int) + 1 := by omega
      rw [e]; exact he2
    · obtain ⟨o, e1, r⟩ := hs'.1
      exact ⟨o, (hs2.2 it (Ne.symm hne)).trans e1, r⟩
    · have n : b ≠ s.heap.objs.size := by
        rcases List.mem_cons.mp hb with z | z
        · subst z; exact hle
        · have z : b = it := by simpa using z
          subst z
          obtain ⟨o, e1, _⟩ := hit
          exact Nat.ne_of_lt (Heap.lt_size e1)
      rw [upd_ne n]
      exact (hf b hb).1
  done := by
    intro X hP hw hK hc i pins s σ H E I hf st hg
    subst hP hw hK
    obtain ⟨xs, hq, hx⟩ := hg
    obtain ⟨⟨old, he⟩, hit⟩ := st
    obtain ⟨its, rv, p, hz⟩ := I.tuple hq
    have ht : s.heap.IsTuple a its.toArray := p
    have ha : a ≠ it := by
      rintro rfl
      obtain ⟨o, e1, c1, _⟩ := hit
      obtain ⟨o', e2, c2, _⟩ := ht
      rw [e1] at e2; cases e2; rw [c1] at c2; exact absurd (Value.type.inj c2) (by decide)
    have hl := rv.length
    have hsz : its.toArray.size = i := by simp; omega
    refine wpAny_pyNext_enum_endD (draws_tup (A := X.A.in1) (I.ok.hd hc) it a ha its.toArray) he (by rw [hsz]; exact ⟨hit, ht⟩) fun h' eb => ⟨rfl, ?_⟩
    exact I.turns (t' := s.toks) hf fun b o hb e1 => eb b o (fun z => hb (by simp [z])) e1
  self := fun A i s Q E st h => by
    obtain ⟨⟨old, he⟩, _⟩ := st
    exact wpAny_pyIter_enum he h
end L2
namespace L2
open PySem PySem.Spec PyProof.Rows
section
variable {X : Cx} {es : List Expr} {tk : Nat} {tp : Pos}
noncomputable def iEnum (K : PySem.W.Frag) (ta : TA) : TI := fun σ H R => ta σ H fun vs H1 => ∃ a, vs = [.ref a] ∧ (∃ xs, SqT K H1 a xs) ∧ R (IteT K a) H1
theorem pi_enum {e : Expr} {ta : TA} {p pos : Pos} (hg : Gl X "enumerate") (hm : X.mg "enumerate" = none) (ha : PA X [e] ta) (h1 : autoParam (nst e = true) L2.aRfl._auto_1) (hv : bootBuiltins "enumerate" = some (.type "enumerate") := by decide +kernel) :
    PI X (.Tuple es tk tp) (.Call (.Name "enumerate" p) [e] [] pos) (iEnum X.K ta) := by
  intro pins s σ H R I h
  refine Call_ (ld_blt I hg hm hv (PyProof.Rows.callWith_type1 (thn (ha pos pins s σ H _ I h) fun us s1 ⟨vs, H1, I1, r1, q1⟩ => ?_) (star1 h1) rfl))
  obtain ⟨a, e, ⟨xs, hq⟩, q⟩ := q1
  subst e
  obtain ⟨u, rfl, ru⟩ := vals1 r1
  cases ru
  obtain ⟨its, rv, pt, hz⟩ := I1.tuple hq
  refine call_enum_tup (show s1.heap.IsTuple a its.toArray from pt) fun h' he hit hsz hk => ?_
  refine wpAny_pyIter_enum he ?_
  have I2 : Inv X pins σ H1 { s1 with heap := h' } := I1.kept (t' := s1.toks) hk
  refine ⟨s1.heap.objs.size + 1, [s1.heap.objs.size + 1, s1.heap.objs.size], _, _, H1, rfl, I2, turn_enumT a s1.heap.objs.size (s1.heap.objs.size + 1) (Nat.ne_of_gt (Nat.lt_succ_self _)), ⟨⟨_, he⟩, hit⟩, fun b hb => ?_, q⟩
  have hb' : s1.heap.objs.size ≤ b := by
    rcases List.mem_cons.mp hb with z | z
    · rw [z]; exact Nat.le_succ _
    · have z : b = s1.heap.objs.size := by simpa using z
      rw [z]; exact Nat.le_refl _
  exact I1.fpOk hb' (I1.hok.fresh hb')
end

section
variable {K : PySem.W.Frag} {g : TG} {tb : TS} {D : Ends} {σ : St} {H : Hp} {te : TE} {Q : VK}
end
end L2

set_option linter.all false
set_option maxRecDepth 100000
set_option maxHeartbeats 4000000
namespace L2
open PySem PySem.Spec PyProof.Rows
namespace Ap
theorem truB (K : PySem.W.Frag) (b : Bool) (H : Hp) (k : Bool) : TruV K (.bl b) H k = (k = b) := propext Iff.rfl
theorem truI (K : PySem.W.Frag) (i : Int) (H : Hp) (k : Bool) : TruV K (.int i) H k = (k = (i != 0)) := propext Iff.rfl
end Ap

/-- all but the things at ex stay -/
noncomputable def KB (ex : List Addr) (H H' : Hp) : Prop := ∀ b o, H b = some o → b ∉ ex → H' b = some o
theorem KB.refl (ex : List Addr) (H : Hp) : KB ex H H := fun _ _ e _ => e
theorem KB.trans {ex : List Addr} {H H1 H2 : Hp} (a : KB ex H H1) (b : KB ex H1 H2) : KB ex H H2 := fun c o e n => b c o (a c o e n) n
theorem KB.mono {ex ex' : List Addr} {H H' : Hp} (h : KB ex H H') (s : ∀ b ∈ ex, b ∈ ex') : KB ex' H H' := fun b o e n => h b o e fun z => n (s b z)
theorem KB.all {ex : List Addr} {H H' : Hp} (h : KB [] H H') : KB ex H H' := h.mono (by simp)
theorem KB.new {ex : List Addr} {H : Hp} {p : Addr} {o : HO} (h : H p = none) : KB ex H (upd H p o) := fun b u e _ => by rw [upd_ne (ne_of_none e h)]; exact e
theorem KB.set {ex : List Addr} {H : Hp} {p : Addr} {o : HO} (h : p ∈ ex) : KB ex H (upd H p o) := fun b u e n => by rw [upd_ne (fun (z : b = p) => n (by rw [z]; exact h))]; exact e
theorem KB.same {H H' : Hp} (h : KB [] H H') : Same H H' := fun b o e => h b o e (by simp)
theorem KB.free {ex : List Addr} {H H' : Hp} (h : KB ex H H') {b : Addr} (n : b ∉ ex) (e : H' b = none) : H b = none := by
  cases q : H b with
  | none => rfl
  | some o => rw [h b o q n] at e; cases e
theorem at_0 {α : Type} (x : α) (r : List α) : atI (x :: r) 0 = some x := atI_nat (j := 0) rfl
theorem at_1 {α : Type} (a x : α) (r : List α) : atI (a :: x :: r) 1 = some x := atI_nat (j := 1) rfl
theorem at_2 {α : Type} (a b x : α) (r : List α) : atI (a :: b :: x :: r) 2 = some x := atI_nat (j := 2) rfl
theorem at_3 {α : Type} (a b c x : α) (r : List α) : atI (a :: b :: c :: x :: r) 3 = some x := atI_nat (j := 3) rfl
theorem at_4 {α : Type} (a b c d x : α) (r : List α) : atI (a :: b :: c :: d :: x :: r) 4 = some x := atI_nat (j := 4) rfl
namespace Ap
theorem setRef (p : Addr) (k : Int) (v : V) (H : Hp) (Q : Hp → Prop) : uSet (.ref p) (.int k) v H Q = (match H p with
    | some (.lst xs) => (match ixN xs.length k with | some j => Q (upd H p (.lst (xs.set j v))) | none => False)
    | _ => False) := propext Iff.rfl
end Ap
end L2

set_option linter.all false
set_option maxRecDepth 100000
set_option maxHeartbeats 4000000
namespace L2
open PySem PySem.Spec PyProof.Rows
structure QE (X : Cx) (e : Expr) (t : TE) : Prop where h : PE X e t
structure QT (X : Cx) (e : Expr) (t : TT) : Prop where h : PT X e t
structure QW (X : Cx) (e : Expr) (t : TT) : Prop where h : PW X e t
structure QA (X : Cx) (es : List Expr) (t : TA) : Prop where h : PA X es t
structure QS (X : Cx) (st : Stmt) (t : TS) : Prop where h : PS X st t
structure QB (X : Cx) (sts : List Stmt) (t : TS) : Prop where h : PSs X sts t
structure QI (X : Cx) (tg it : Expr) (t : TI) : Prop where h : PI X tg it t
structure QG (X : Cx) (e : Expr) (t : TG) : Prop where h : PG X e t
structure QGs (X : Cx) (es : List Expr) (t : TGs) : Prop where h : PGs X es t
structure QO (X : Cx) (e : Option Expr) (t : TO) : Prop where h : PO X e t
structure QTs (X : Cx) (es : List Expr) (t : TT) : Prop where h : PTs X es t
namespace Z
/-- an index that is no slice -/
noncomputable def sim (b : Expr) : Bool := match b with
  | .Name .. | .Constant .. | .Call .. | .BinOp .. | .Subscript .. | .Attribute .. | .UnaryOp .. | .Compare .. | .IfExp .. => true
  | _ => false
theorem pix {b : Expr} (h : sim b = true) : PlainIx b := by
  cases b <;> first | (intro _ _; rfl) | cases h
noncomputable def tru (b : Expr) : Bool := match b with
  | .Name .. | .Call .. | .Subscript .. | .Attribute .. => true
  | _ => false
theorem ptr {b : Expr} {env : Env} (h : tru b = true) : ∀ whole, isTrue b env whole = (do let v ← whole; standAt b.pos; holding [v] (truthy v)) := by
  cases b <;> first | (intro _; rfl) | cases h
noncomputable def noc (b : Expr) : Bool := match b with
  | .ListComp .. | .SetComp .. | .DictComp .. => false
  | _ => true
theorem swp {b : Expr} {tg : Option Expr} {l : Nat} {env : Env} (h : noc b = true) : swapsWith b tg l env = pure false := by
  cases b <;> first | rfl | cases h
section
variable {X : Cx}
theorem k_isi (K : PySem.W.Frag) (hK : X.K = K) : CallR X (.builtin "isinstance") (uIsi K) := by subst hK; exact ucall_isi
end
section
variable {X : Cx} {a b c e o : Expr} {es : List Expr} {ta tb tc te to : TE} {t : TA} {pos p p2 : Pos} {tA tB' : TT} {rest : List Expr} {x : Str}
theorem int {i : Int} {j : Nat} : QE X (.Constant (.int i) j pos) (tC (.int i)) := ⟨pe_int⟩
theorem bl {i : Bool} {j : Nat} : QE X (.Constant (.bool i) j pos) (tC (.bl i)) := ⟨pe_bl⟩
theorem non {j : Nat} : QE X (.Constant .none j pos) (tC .non) := ⟨pe_non⟩
theorem str {i : Str} {j : Nat} : QE X (.Constant (.str i) j pos) (tC (.str i)) := ⟨pe_str⟩
theorem v (i : Nat) (hN : autoParam (X.N[i]? = some x) L2.aRfl._auto_1) (hv : Vis X.env.scope x := by first | exact Or.inl rfl | exact Or.inr (Or.inl rfl) | exact Or.inr (Or.inr rfl)) (hd : autoParam ((x == ("__debug__" : Str)) = false) L2.aDec._auto_1)
    (hcd : autoParam ((x == ("__classdict__" : Str)) = false) L2.aDec._auto_1) : QE X (.Name x pos) (tVar i) := ⟨pv i hN hv hd hcd⟩
theorem glob {w : V} {u : Value} (hg : Gl X x) (hm : X.mg x = some u) (r : RelV w u) (hd : autoParam ((x == ("__debug__" : Str)) = false) L2.aDec._auto_1) : QE X (.Name x pos) (tC w) := ⟨pe_glob hg hm r hd⟩
theorem op {o : Operator} {r : R2} (ho : OpR X (binaryOp o) r) (ha : QE X a ta) (hb : QE X b tb) : QE X (.BinOp a o b pos) (tOp r ta tb) := ⟨pe_op ho ha.h hb.h⟩
theorem un {o : UnaryOp} {r : V → Hp → VK → Prop} (ho : UnR X (unaryOp o) r) (ha : QE X a ta) : QE X (.UnaryOp o a pos) (tUn r ta) := ⟨pe_un ho ha.h⟩
theorem cmp {o : CmpOp} {r : R2} (ho : OpR X (compareOp o) r) (ha : QE X a ta) (hb : QE X b tb) (hm : autoParam (behindInMarks o b = false) L2.aRfl._auto_1) : QE X (.Compare a [o] [b] pos) (tOp r ta tb) := ⟨pe_cmpR ho ha.h hb.h hm⟩
theorem chain {o o' : CmpOp} {r r' : R2} (ho : OpR X (compareOp o) r) (ho' : OpR X (compareOp o') r') (ha : QE X a ta) (hb : QE X b tb) (hc : QE X c tc) (hm : lastMarks [o, o'] [b, c] = false := by with_unfolding_all rfl) : QE X (.Compare a [o, o'] [b, c] pos) (tChain r r' ta tb tc) := ⟨pe_chain ho ho' ha.h hb.h hc.h hm⟩
theorem and (ha : QE X a ta) (hb : QE X (.BoolOp .And (b :: rest) pos) tb) : QE X (.BoolOp .And (a :: b :: rest) pos) (tAndV ta tb) := ⟨pe_and ha.h hb.h⟩
theorem one {o : BoolOp} (ha : QE X a ta) : QE X (.BoolOp o [a] pos) ta := ⟨pe_one ha.h⟩
theorem ifE (hc : QT X c tA) (ha : QE X a ta) (hb : QE X b tb) : QE X (.IfExp c a b pos) (tIf tA ta tb) := ⟨pe_ifExp hc.h ha.h hb.h⟩
theorem slice {r : V → Option Int → Option Int → Hp → VK → Prop} {lo hi : Option Expr} {tl th : TO} (hr : SlR X r) (he : QE X e te) (hl : QO X lo tl) (hu : QO X hi th) : QE X (.Subscript e (.Slice lo hi none p2) pos) (tSl r te tl th) := ⟨pe_slice hr he.h hl.h hu.h⟩
theorem po0 : QO X none tNoPart := ⟨po_none⟩
theorem po1 (he : QE X e te) : QO X (some e) (tPart te) := ⟨po_some he.h⟩
theorem ix {r : R2} (hr : IxR X r) (ha : QE X a ta) (hb : QE X b tb) (hs : autoParam (sim b = true) L2.aRfl._auto_1) : QE X (.Subscript a b pos) (tOp r ta tb) := ⟨pe_ix hr ha.h hb.h (pix hs)⟩
theorem tup {k : Nat} (h : QA X es t) : QE X (.Tuple es k pos) (tTup t) := ⟨pe_tup h.h⟩
theorem lst (h : QA X es t) : QE X (.List es pos) (tLst t) := ⟨pe_lst h.h⟩
theorem nil : QA X [] tNil := ⟨pa_nil⟩
theorem cons (ha : QE X e te) (hr : QA X es t) (h : autoParam (nst e = true) L2.aRfl._auto_1) : QA X (e :: es) (tCons te t) := ⟨pa_c ha.h hr.h h⟩
theorem consts {vs : List V} (h : consV es = some vs) : QA X es (tK vs) := ⟨pa_consts h⟩
theorem cb {id : String} {r : List V → Hp → VK → Prop} (hc : CallR X (.builtin id) r) (hg : Gl X x) (hm : X.mg x = none) (hv : bootBuiltins x = some (.builtin id)) (ha : QA X (e :: es) t) (h1 : autoParam (nst e = true) L2.aRfl._auto_1) (h2 : autoParam (es.all nst = true) L2.aRfl._auto_1) (hn : autoParam (x ≠ "__name__") L2.aDec._auto_1) (hdb : autoParam ((x == ("__debug__" : Str)) = false) L2.aDec._auto_1) :
    QE X (.Call (.Name x p) (e :: es) [] pos) (tCB r t) := ⟨pe_cb hc hg hm hv ha.h h1 h2 hn hdb⟩
theorem ct {T : String} {r : List V → Hp → VK → Prop} (hc : CallR X (.type T) r) (hg : Gl X x) (hm : X.mg x = none) (hv : bootBuiltins x = some (.type T)) (ha : QA X (e :: es) t) (h1 : autoParam (nst e = true) L2.aRfl._auto_1) (h2 : autoParam (es.all nst = true) L2.aRfl._auto_1) (hn : autoParam (x ≠ "__name__") L2.aDec._auto_1) (hdb : autoParam ((x == ("__debug__" : Str)) = false) L2.aDec._auto_1) :
    QE X (.Call (.Name x p) (e :: es) [] pos) (tCB r t) := ⟨pe_ct hc hg hm hv ha.h h1 h2 hn hdb⟩
theorem tyv {T : String} (hg : Gl X x) (hm : X.mg x = none) (hv : bootBuiltins x = some (.type T)) (hn : autoParam (x ≠ "__name__") L2.aDec._auto_1) (hd : autoParam ((x == ("__debug__" : Str)) = false) L2.aDec._auto_1) : QE X (.Name x pos) (tC (.ty T)) := ⟨pe_tyv hg hm hv hn hd⟩
theorem fn {CX : CXT} {k : Nat} {ps : List Str} {sp : Sp} {E : XK} (F : CallOk X.prog X.w X.K X.mg X.base CX k x ps sp) (hr : Room k X.A) (hg : Gl X x) (hx : Passes CX X E) (ha : QA X (e :: es) t) (h1 : autoParam (nst e = true) L2.aRfl._auto_1) (h2 : autoParam (es.all nst = true) L2.aRfl._auto_1) (hdb : autoParam ((x == ("__debug__" : Str)) = false) L2.aDec._auto_1) :
    QE X (.Call (.Name x p) (e :: es) [] pos) (tCall sp [] E t) := ⟨pe_fn F hr hg hx ha.h h1 h2 hdb⟩
theorem bm (K : PySem.W.Frag) (hK : X.K = K) {name : Str} {apos : Pos} {T id : String} {r : V → List V → Hp → VK → Prop} (pa : PlainAttrs T) (slot : Slot T name id) (hty : typeOf (.builtin id) = pure (.type "method_descriptor")) (hm : MtR X id r) (ho : QE X o to) (ha : QA X (e :: es) t)
    (hbase : autoParam (attributeBase o name X.env (eval o X.env) = eval o X.env) L2.aRfl._auto_1) (hline : autoParam ((apos.endLine == pos.line) = true) L2.aRfl._auto_1) (h : autoParam ((e :: es).all nst = true) L2.aRfl._auto_1) (hl : autoParam ((e :: es).length < 30) L2.aDec._auto_1) : QE X (.Call (.Attribute o name apos) (e :: es) [] pos) (tBM K T r to t) := by
  subst hK; exact ⟨pe_bmQ pa slot hty hm ho.h ha.h hbase hline h hl⟩
theorem comp {osc scope : Scope} {ON own N : List Str} {tg iter elt : Expr} {ifs : List Expr} {wi : TI} {g : TG} {tc : TT} (S : CompScope osc ON scope own N) (hosc : X.env.scope = osc) (hON : X.N = ON) (hc : X.calm = true) (hi : QI X tg iter wi)
    (hg : ∀ C s H fp, QG (cxComp X scope N C s H fp) tg g) (ht : ∀ C s H fp, QTs (cxComp X scope N C s H fp) ifs tc) (he : ∀ C s H fp, QE (cxComp X scope N C s H fp) elt te) (hs : ∀ x, foldedSetIterable iter X.env x = pure x := by intro _; rfl) :
    QE X (.ListComp elt [⟨tg, iter, ifs, 0⟩] scope pos) (tComp wi own.length g tc te) := ⟨pe_comp S hosc hON hc hi.h (fun C s H fp => (hg C s H fp).h) (fun C s H fp => (ht C s H fp).h) (fun C s H fp => (he C s H fp).h) hs⟩
theorem tcmp {o : CmpOp} {r : R2} (ho : OpR X (compareOp o) r) (ha : QE X a ta) (hb : QE X b tb) (hm : autoParam (behindInMarks o b = false) L2.aRfl._auto_1) : QT X (.Compare a [o] [b] pos) (tTest (tOp r ta tb)) := ⟨pt_cmpR ho ha.h hb.h hm⟩
theorem tchain {o o' : CmpOp} {r r' : R2} (ho : OpR X (compareOp o) r) (ho' : OpR X (compareOp o') r') (ha : QE X a ta) (hb : QE X b tb) (hc : QE X c tc) (hm : lastMarks [o, o'] [b, c] = false := by with_unfolding_all rfl) : QT X (.Compare a [o, o'] [b, c] pos) (tTest (tChain r r' ta tb tc)) := ⟨pt_chain ho ho' ha.h hb.h hc.h hm⟩
theorem tw (h : QW X e tA) : QT X e tA := ⟨h.h.pt⟩
theorem tnot (ha : QT X a tA) : QT X (.UnaryOp .Not a pos) (tNot tA) := ⟨pt_not ha.h⟩
noncomputable def tTru (K : PySem.W.Frag) (ta : TE) : TT := fun σ H Q => ta σ H fun x H' => ∃ k, TruV K x H' k ∧ Q k H'
theorem ttru (K : PySem.W.Frag) (hK : X.K = K) (ha : QE X a ta) (he : autoParam (tru a = true) L2.aRfl._auto_1) : QT X a (tTru K ta) := by subst hK; exact ⟨pt_truth ha.h (ptr he)⟩
theorem wand1 (ha : QT X a tA) : QW X (.BoolOp .And [a] pos) tA := ⟨pw_and1 ha.h⟩
theorem wor1 (ha : QT X a tA) : QW X (.BoolOp .Or [a] pos) tA := ⟨pw_or1 ha.h⟩
theorem wand (ha : QT X a tA) (hb : QW X (.BoolOp .And (b :: rest) pos) tB') : QW X (.BoolOp .And (a :: b :: rest) pos) (tAnd tA tB') := ⟨pw_and ha.h hb.h⟩
theorem wor (ha : QT X a tA) (hb : QW X (.BoolOp .Or (b :: rest) pos) tB') : QW X (.BoolOp .Or (a :: b :: rest) pos) (tOr tA tB') := ⟨pw_or ha.h hb.h⟩
theorem gname {i : Nat} (hN : X.N.Nodup) (hi : X.N[i]? = some x) (hx : Loc X.env.scope x) (hf : autoParam (X.fn x = true ∨ X.env.scope.names.lookup x = some .local) L2.aLoc._auto_1) : QG X (.Name x pos) (gName i) := ⟨pg_name hN hi hx hf⟩
theorem gsnil : QGs X [] gNil := ⟨pgs_nil⟩
theorem gscons {g : TG} {u : TGs} (h1 : QG X e g) (h2 : QGs X es u) (hs : autoParam ((assignEach (e :: es) X.env).map (·.2) = assign e X.env :: (assignEach es X.env).map (·.2)) L2.aRfl._auto_1) : QGs X (e :: es) (gCons g u) := ⟨pgs_cons h1.h h2.h hs⟩
theorem gsub {i : Expr} {ti : TE} (ho : QE X o to) (hi : QE X i ti)
    (ha : ∀ v, assign (.Subscript o i pos) X.env v = (do
      let ov ← holding [v] (eval o X.env)
      let iv ← holding [v, ov] (eval i X.env)
      standAt pos
      holding [v, ov, iv] (setItem ov iv v)
      release [v, ov, iv] []) := by intro _; rfl) : QG X (.Subscript o i pos) (gSub to ti uSet) := ⟨pg_sub ho.h hi.h uset ha⟩
theorem rng1 {tg : Expr} {ta : TA} (hg : Gl X "range") (hm : X.mg "range" = none) (ha : QA X [a] ta) (h : autoParam (nst a = true) L2.aRfl._auto_1) : QI X tg (.Call (.Name "range" p) [a] [] pos) (iRng1 ta) := ⟨pi_range1Q hg hm ha.h h⟩
theorem enum (K : PySem.W.Frag) (hK : X.K = K) {k : Nat} {tp : Pos} {ta : TA} (hg : Gl X "enumerate") (hm : X.mg "enumerate" = none) (ha : QA X [e] ta) (h1 : autoParam (nst e = true) L2.aRfl._auto_1) : QI X (.Tuple es k tp) (.Call (.Name "enumerate" p) [e] [] pos) (iEnum K ta) := by subst hK; exact ⟨pi_enum hg hm ha.h h1⟩
theorem ts0 : QTs X [] tTrue := ⟨pts_nil⟩
theorem ts1 (h : QT X c tA) : QTs X [c] tA := ⟨pts_one h.h⟩
end
section
variable {X : Cx} {e o tg : Expr} {te to : TE} {st : Stmt} {sts xs ys : List Stmt} {t u : TS} {pos pos' : Pos} {x : Str}
theorem bnil : QB X [] tNext := ⟨pss_nil⟩
theorem bone (h : QS X st t) : QB X [st] t := ⟨pss_one h.h⟩
theorem bcons (h : QS X st t) (h2 : QB X sts u) : QB X (st :: sts) (tSeq t u) := ⟨pss_cons h.h h2.h⟩
theorem set {i : Nat} (hN : X.N.Nodup) (hi : X.N[i]? = some x) (hx : Loc X.env.scope x) (he : QE X e te) (hs : autoParam (noc e = true) L2.aRfl._auto_1) (hf : autoParam (X.fn x = true ∨ X.env.scope.names.lookup x = some .local) L2.aLoc._auto_1) :
    QS X (.Assign [.Name x pos'] e pos) (tAsg te (gName i)) := ⟨ps_set hN hi hx he.h (swp hs) hf⟩
theorem setC {osc scope : Scope} {ON own N : List Str} {tg iter elt : Expr} {ifs : List Expr} {p2 : Pos} {wi : TI} {g : TG} {tc : TT} {j : Nat} (hN : X.N.Nodup) (hj : X.N[j]? = some x) (hx : Loc X.env.scope x) (S : CompScope osc ON scope own N) (hosc : X.env.scope = osc) (hON : X.N = ON) (hc : X.calm = true) (hi : QI X tg iter wi)
    (hg : ∀ C s H fp, QG (cxComp X scope N C s H fp) tg g) (ht : ∀ C s H fp, QTs (cxComp X scope N C s H fp) ifs tc) (he : ∀ C s H fp, QE (cxComp X scope N C s H fp) elt te)
    (hsw : autoParam (swapsWith (.ListComp elt [⟨tg, iter, ifs, 0⟩] scope p2) (some (.Name x pos')) pos.line X.env = pure true) L2.aRfl._auto_1)
    (hf : autoParam (X.fn x = true ∨ X.env.scope.names.lookup x = some .local) L2.aLoc._auto_1) (hs : ∀ x, foldedSetIterable iter X.env x = pure x := by intro _; rfl) :
    QS X (.Assign [.Name x pos'] (.ListComp elt [⟨tg, iter, ifs, 0⟩] scope p2) pos) (tAsg (tComp wi own.length g tc te) (gName j)) := ⟨ps_setComp hN hj hx S hosc hON hc hi.h (fun C s H fp => (hg C s H fp).h) (fun C s H fp => (ht C s H fp).h) (fun C s H fp => (he C s H fp).h) hsw hf hs⟩
theorem asg {g : TG} (he : QE X e te) (hg : QG X tg g) (hs : autoParam (swapsWithSole [tg] e pos.line X.env = pure false) L2.aRfl._auto_1) (hw : autoParam (swappedStores [tg] e X.env = pure none) L2.aRfl._auto_1)
    (h1 : autoParam ((assignEach [tg] X.env).map (·.2) = [assign tg X.env]) L2.aRfl._auto_1) : QS X (.Assign [tg] e pos) (tAsg te g) := ⟨ps_asg he.h hg.h hs hw h1⟩
theorem ret (he : QE X e te) : QS X (.Return (some e) pos) (tRet te) := ⟨ps_ret he.h⟩
theorem expr (he : QE X e te) (hs : autoParam (noc e = true) L2.aRfl._auto_1) : QS X (.Expr e pos) (tDrop te) := ⟨ps_expr he.h (swp hs)⟩
theorem ifS {c : Expr} {tc : TT} (hc : QT X c tc) (ha : QB X xs t) (hb : QB X ys u) : QS X (.If c xs ys pos) (tIfS tc t u) := ⟨ps_if hc.h ha.h hb.h⟩
theorem forS {iter : Expr} {wi : TI} {g : TG} (hp : PassesOwn (model X.prog X.w) X.A X.env X.xe) (hc : X.calm = true) (hi : QI X tg iter wi) (hg : QG X tg g) (hb : QB X xs t) (hs : ∀ x, foldedSetIterable iter X.env x = pure x := by intro _; rfl) : QS X (.For tg iter xs [] pos) (tFor wi g t) := ⟨ps_for hp hc hi.h hg.h hb.h hs⟩
theorem whileS {c : Expr} {tc : TT} (hp : PassesOwn (model X.prog X.w) X.A X.env X.xe) (hc : QT X c tc) (hb : QB X xs t) : QS X (.While c xs [] pos) (tWhile tc t) := ⟨ps_while hp hc.h hb.h⟩
end
end Z
namespace Ap
end Ap
/-- a def's promise from its body -/
theorem HasFn.okQ {P : Program} {w : World} {K : PySem.W.Frag} {mg : Str → Option Value} {base : Heap} {x : Str} {st : Stmt} {N ps : List Str} {k : Nat} {sp : Sp} (F : HasFn K mg x st ps) (S : FnScope N ps (defScope st)) (len : ∀ vs H Q E, sp vs H Q E → vs.length = ps.length)
    (hbody : ∀ (f : Addr) (cdv : Value) (A : Around) (outer : List Env) (s : Shared) (H : Hp) (vs : List V) (Q : VK) (E : XK), Room k (A.deeper (envOfC x (defScope st) s.heap.objs.size f cdv)) → sp vs H Q E →
      ∃ t, QB (cxOf CX0 P w K mg base N x (defScope st) f cdv A outer s H E).nox (defBody st) t ∧ t { nx := fun _ H' => Q .non H', rt := Q } (start N vs) H) : CallOk P w K mg base CX0 (k + 1) x ps sp :=
  F.ok S len fun f cdv A outer s H vs Q E hr h => let ⟨t, q, r⟩ := hbody f cdv A outer s H vs Q E hr h; ⟨t, q.h, r⟩
theorem fun_okQ {P : Program} {w : World} {K : PySem.W.Frag} {mg : Str → Option Value} {base : Heap} {x : Str} {st : Stmt} {N ps : List Str} {k : Nat} {sp : Sp} {f : Addr} {fd : FuncData} (F : Fun K x x st f fd) (S : FnScope N ps (defScope st)) (len : ∀ vs H Q E, sp vs H Q E → vs.length = ps.length)
    (hbody : ∀ (cdv : Value) (A : Around) (outer : List Env) (s : Shared) (H : Hp) (vs : List V) (Q : VK) (E : XK), Room k (A.deeper (envOfC x (defScope st) s.heap.objs.size f cdv)) → sp vs H Q E →
      ∃ t, QB (cxOf CX0 P w K mg base N x (defScope st) f cdv A outer s H E).nox (defBody st) t ∧ t { nx := fun _ H' => Q .non H', rt := Q } (start N vs) H) : FnOk P w K mg base CX0 (k + 1) f fd ps sp :=
  F.ok S len fun cdv A outer s H vs Q E hr h => let ⟨t, q, r⟩ := hbody cdv A outer s H vs Q E hr h; ⟨t, q.h, r⟩
end L2

set_option linter.all false
set_option maxRecDepth 100000
set_option maxHeartbeats 4000000
namespace L2
open PySem PySem.Spec PyProof.Rows
/-- an exception: its class, where its own names lie -/
noncomputable def isX (e : Addr) (cls : Value) (d : Option Addr) (h : Heap) : Prop := ∃ o vs, h.get? e = some o ∧ o.cls = cls ∧ o.dict = d ∧ o.data = .fields vs
inductive T where
  | non | bl (b : Bool) | int (i : Int) | str (x : Str) | tup (ts : List T) | lst (ts : List T) | rol (ts : List T) | rng (lo hi : Int) | ktp (ts : List T) | exc (c : Value) (f : Option (Str × Int))
noncomputable abbrev AP' := Addr → Prop
/-- the items of a tuple outside B, or of a module's tuple -/
noncomputable def KTp (K : PySem.W.Frag) (a : Addr) (xs : List V) : Prop := ∃ (o : Obj) (its : Array Value) (n : Nat), K.lookup a = some o ∧ o.cls = .type "tuple" ∧ o.data = .seq its n ∧ its.size ≤ sizeLine ∧ Vals xs its.toList
noncomputable def KLs (K : PySem.W.Frag) (a : Addr) (xs : List V) : Prop := ∃ (o : Obj) (its : Array Value) (n : Nat), K.lookup a = some o ∧ o.cls = .type "list" ∧ o.dict = none ∧ o.data = .seq its n ∧ its.size ≤ sizeLine ∧ Vals xs its.toList
noncomputable def TB (K : PySem.W.Frag) (H : Hp) (B : AP') (a : Addr) (xs : List V) : Prop := (¬ B a ∧ Rd H a (.tup xs)) ∨ KTp K a xs
noncomputable def LB (K : PySem.W.Frag) (H : Hp) (B : AP') (a : Addr) (xs : List V) : Prop := (¬ B a ∧ Rd H a (.lst xs)) ∨ KLs K a xs
mutual
inductive Rep (K : PySem.W.Frag) (H : Hp) (B : AP') : V → T → Prop
  | non : Rep K H B .non .non
  | bl (b : Bool) : Rep K H B (.bl b) (.bl b)
  | int (i : Int) : Rep K H B (.int i) (.int i)
  | str (x : Str) : Rep K H B (.str x) (.str x)
  | tup {a : Addr} {vs : List V} {ts : List T} (n : ¬ B a) (h : H a = some (.tup vs)) (r : Reps K H B vs ts) : Rep K H B (.ref a) (.tup ts)
  | ktp {a : Addr} {vs : List V} {ts : List T} (h : KTp K a vs) (r : Reps K H B vs ts) : Rep K H B (.ref a) (.ktp ts)
  | lst {a : Addr} {vs : List V} {ts : List T} (n : ¬ B a) (h : H a = some (.lst vs)) (r : Reps K H B vs ts) : Rep K H B (.ref a) (.lst ts)
  | rol {a : Addr} {vs : List V} {ts : List T} (h : LB K H B a vs) (r : Reps K H B vs ts) : Rep K H B (.ref a) (.rol ts)
  | rng {a : Addr} {lo hi : Int} (n : ¬ B a) (h : H a = some (.rng lo hi)) : Rep K H B (.ref a) (.rng lo hi)
  | exc {a : Addr} {c : Value} (n : ¬ B a) (h : H a = some (.ext (isX a c none))) : Rep K H B (.ref a) (.exc c none)
  | exa {a d : Addr} {c : Value} {x : Str} {i : Int} (n : ¬ B a) (h : H a = some (.ext (isX a c (some d)))) (m : ¬ B d) (g : H d = some (.xd [(x, .int i)])) : Rep K H B (.ref a) (.exc c (some (x, i)))
inductive Reps (K : PySem.W.Frag) (H : Hp) (B : AP') : List V → List T → Prop
  | nil : Reps K H B [] []
  | cons {v : V} {t : T} {vs : List V} {ts : List T} (h : Rep K H B v t) (r : Reps K H B vs ts) : Reps K H B (v :: vs) (t :: ts)
end
/-- all that is outside stays, and stays outside -/
noncomputable def Fr (B : AP') (H : Hp) (B' : AP') (H' : Hp) : Prop := ∀ b o, H b = some o → ¬ B b → H' b = some o ∧ ¬ B' b
theorem Fr.refl {B : AP'} {H : Hp} : Fr B H B H := fun _ _ h n => ⟨h, n⟩
theorem Fr.trans {B B1 B2 : AP'} {H H1 H2 : Hp} (a : Fr B H B1 H1) (b : Fr B1 H1 B2 H2) : Fr B H B2 H2 := fun c o h n => let ⟨h1, n1⟩ := a c o h n; b c o h1 n1
theorem Fr.same {B : AP'} {H H' : Hp} (s : Same H H') : Fr B H B H' := fun b o h n => ⟨s b o h, n⟩
theorem Fr.less {B B' : AP'} {H : Hp} (s : ∀ b, B' b → B b) : Fr B H B' H := fun b o h n => ⟨h, fun z => n (s b z)⟩
theorem Fr.set {B : AP'} {H : Hp} {a : Addr} {o : HO} (h : B a) : Fr B H B (upd H a o) := fun b u e n => ⟨by rw [upd_ne (by rintro rfl; exact n h)]; exact e, n⟩
theorem Same.new {H : Hp} {p : Addr} {o : HO} (h : H p = none) : Same H (upd H p o) := fun b u e => by rw [upd_ne (ne_of_none e h)]; exact e
/-- one more is outside no longer: nothing that was -/
theorem Fr.more {B : AP'} {H : Hp} {p : Addr} {o : HO} (h : H p = none) : Fr B H (fun b => b = p ∨ B b) (upd H p o) := fun b u e n => ⟨Same.new h b u e, fun z => z.elim (ne_of_none e h) n⟩
theorem Rd.fr {B B' : AP'} {H H' : Hp} {a : Addr} {u : HO} (f : Fr B H B' H') (n : ¬ B a) (h : Rd H a u) : ¬ B' a ∧ Rd H' a u := by
  rcases h with h | ⟨o, h⟩
  · exact ⟨(f a _ h n).2, .inl (f a _ h n).1⟩
  · exact ⟨(f a _ h n).2, .inr ⟨o, (f a _ h n).1⟩⟩
section
variable {K : PySem.W.Frag} {H H' : Hp} {B B' : AP'}
theorem TB.fr {a : Addr} {xs : List V} (f : Fr B H B' H') (h : TB K H B a xs) : TB K H' B' a xs := h.elim (fun z => .inl (z.2.fr f z.1)) .inr
theorem LB.fr {a : Addr} {xs : List V} (f : Fr B H B' H') (h : LB K H B a xs) : LB K H' B' a xs := h.elim (fun z => .inl (z.2.fr f z.1)) .inr
theorem TB.sq {a : Addr} {xs : List V} (h : TB K H B a xs) : SqT K H a xs := h.elim (fun z => .inl z.2) .inr
theorem LB.sq {a : Addr} {xs : List V} (h : LB K H B a xs) : SqL K H a xs := h.elim (fun z => .inl z.2) .inr
mutual
theorem Rep.fr (f : Fr B H B' H') : ∀ {v : V} {t : T}, Rep K H B v t → Rep K H' B' v t
  | _, _, .non => .non
  | _, _, .bl b => .bl b
  | _, _, .int i => .int i
  | _, _, .str x => .str x
  | _, _, .tup n h r => .tup (f _ _ h n).2 (f _ _ h n).1 (Reps.fr f r)
  | _, _, .ktp h r => .ktp h (Reps.fr f r)
  | _, _, .lst n h r => .lst (f _ _ h n).2 (f _ _ h n).1 (Reps.fr f r)
  | _, _, .rol h r => .rol (h.fr f) (Reps.fr f r)
  | _, _, .rng n h => .rng (f _ _ h n).2 (f _ _ h n).1
  | _, _, .exc n h => .exc (f _ _ h n).2 (f _ _ h n).1
  | _, _, .exa n h m g => .exa (f _ _ h n).2 (f _ _ h n).1 (f _ _ g m).2 (f _ _ g m).1
theorem Reps.fr (f : Fr B H B' H') : ∀ {vs : List V} {ts : List T}, Reps K H B vs ts → Reps K H' B' vs ts
  | _, _, .nil => .nil
  | _, _, .cons h r => .cons (Rep.fr f h) (Reps.fr f r)
end
theorem Reps.length : ∀ {vs : List V} {ts : List T}, Reps K H B vs ts → vs.length = ts.length
  | _, _, .nil => rfl
  | _, _, .cons _ r => congrArg (· + 1) (Reps.length r)
theorem Reps.get : ∀ {vs : List V} {ts : List T} {i : Nat} {t : T}, Reps K H B vs ts → ts[i]? = some t → ∃ v, vs[i]? = some v ∧ Rep K H B v t
  | _, _, _, _, .nil, e => by simp at e
  | _, _, 0, _, .cons h _, e => by simp at e; subst e; exact ⟨_, rfl, h⟩
  | _, _, i + 1, _, .cons _ r, e => by
    obtain ⟨v, e1, h⟩ := Reps.get r (by simpa using e)
    exact ⟨v, by simpa using e1, h⟩
theorem Reps.append : ∀ {vs ws : List V} {ts us : List T}, Reps K H B vs ts → Reps K H B ws us → Reps K H B (vs ++ ws) (ts ++ us)
  | _, _, _, _, .nil, s => s
  | _, _, _, _, .cons h r, s => .cons h (Reps.append r s)
theorem Reps.take : ∀ {vs : List V} {ts : List T} (n : Nat), Reps K H B vs ts → Reps K H B (vs.take n) (ts.take n)
  | _, _, 0, _ => .nil
  | _, _, _ + 1, .nil => .nil
  | _, _, n + 1, .cons h r => .cons h (Reps.take n r)
theorem Reps.drop : ∀ {vs : List V} {ts : List T} (n : Nat), Reps K H B vs ts → Reps K H B (vs.drop n) (ts.drop n)
  | _, _, 0, r => r
  | _, _, _ + 1, .nil => .nil
  | _, _, n + 1, .cons _ r => Reps.drop n r
theorem Reps.set : ∀ {vs : List V} {ts : List T} {v : V} {t : T} (i : Nat), Rep K H B v t → Reps K H B vs ts → Reps K H B (vs.set i v) (ts.set i t)
  | _, _, _, _, _, _, .nil => .nil
  | _, _, _, _, 0, h, .cons _ r => .cons h r
  | _, _, _, _, i + 1, h, .cons q r => .cons q (Reps.set i h r)
theorem Reps.atI {vs : List V} {ts : List T} {i : Int} {t : T} (r : Reps K H B vs ts) (e : L2.atI ts i = some t) : ∃ v, L2.atI vs i = some v ∧ Rep K H B v t := by
  unfold L2.atI at e ⊢
  rw [r.length]
  cases q : ixN ts.length i with
  | none => rw [q] at e; cases e
  | some j => rw [q] at e; exact r.get e
end
/-- nothing that has a place -/
noncomputable def flatT : T → Bool
  | .non | .bl _ | .int _ | .str _ => true
  | _ => false
theorem Rep.flat {K : PySem.W.Frag} {H H' : Hp} {B B' : AP'} {v : V} {t : T} (h : Rep K H B v t) (f : flatT t = true) : Rep K H' B' v t := by
  cases h with
  | non => exact .non
  | bl b => exact .bl b
  | int i => exact .int i
  | str x => exact .str x
  | tup => cases f
  | ktp => cases f
  | lst => cases f
  | rol => cases f
  | rng => cases f
  | exc => cases f
  | exa => cases f
theorem Reps.flat {K : PySem.W.Frag} {H H' : Hp} {B B' : AP'} : ∀ {vs : List V} {ts : List T}, Reps K H B vs ts → ts.all flatT = true → Reps K H' B' vs ts
  | _, _, .nil, _ => .nil
  | _, _, .cons h r, f => by
    rw [List.all_cons, Bool.and_eq_true] at f
    exact .cons (h.flat f.1) (Reps.flat r f.2)
/-- a list that is changed, at a -/
noncomputable def Bx (K : PySem.W.Frag) (H : Hp) (B : AP') (a : Addr) (c : T) : Prop := match c with
  | .lst ts => ∃ vs, H a = some (.lst vs) ∧ Reps K H B vs ts
  | _ => False
theorem Bx.trk {K : PySem.W.Frag} {H : Hp} {B : AP'} {a : Addr} {c : T} (h : Bx K H B a c) : ∃ o, H a = some o := by
  unfold Bx at h
  split at h
  · obtain ⟨vs, e, _⟩ := h; exact ⟨_, e⟩
  · exact h.elim
theorem Bx.of {K : PySem.W.Frag} {H H' : Hp} {B B' : AP'} {a : Addr} {c : T} (h : Bx K H B a c) (e : H' a = H a) (f : Fr B H B' H') : Bx K H' B' a c := by
  unfold Bx at h ⊢
  split at h
  · obtain ⟨vs, q, r⟩ := h; exact ⟨vs, e.trans q, r.fr f⟩
  · exact h.elim
theorem Bx.lstIs {K : PySem.W.Frag} {H : Hp} {B : AP'} {a : Addr} {c : T} (h : Bx K H B a c) : ∃ ts vs, c = .lst ts ∧ H a = some (.lst vs) ∧ Reps K H B vs ts := by
  unfold Bx at h
  split at h
  · obtain ⟨vs, q, r⟩ := h; exact ⟨_, vs, rfl, q, r⟩
  · exact h.elim
theorem Bx.rep {K : PySem.W.Frag} {H : Hp} {B : AP'} {a : Addr} {c : T} (h : Bx K H B a c) (n : ¬ B a) : Rep K H B (.ref a) c := by
  obtain ⟨ts, vs, rfl, e, r⟩ := h.lstIs
  exact .lst n e r

inductive Sl where
  | un | tr (t : T) | bx (c : T) | pb (c : T)
noncomputable abbrev Mu := List Sl
inductive R where
  | tr (t : T) | br (i : Nat) | fr (c : T)
structure Fx where
  K : PySem.W.Frag
  H0 : Hp
  P : Nat → Option Addr
  Bc : AP'
  bh : ∀ b, Bc b → ∃ o, H0 b = some o
  /-- lists that are being made, which no name holds -/
  G : Addr → Option (List V)
noncomputable def SlOk (F : Fx) (ad : Nat → Addr) (B : AP') (H : Hp) (i : Nat) (s : Sl) (x : Option (Option V)) : Prop := match s with
  | .un => True
  | .tr t => ∃ v, x = some (some v) ∧ Rep F.K H B v t
  | .bx c => x = some (some (.ref (ad i))) ∧ B (ad i) ∧ F.H0 (ad i) = none ∧ F.P i = none ∧ Bx F.K H B (ad i) c
  | .pb c => x = some (some (.ref (ad i))) ∧ B (ad i) ∧ F.P i = some (ad i) ∧ Bx F.K H B (ad i) c
noncomputable def Sl.box : Sl → Option T
  | .bx c => some c
  | .pb c => some c
  | _ => none
structure Rl (F : Fx) (ad : Nat → Addr) (B : AP') (σ : St) (H : Hp) (μ : Mu) : Prop where
  len : μ.length = σ.length
  slot : ∀ i s, μ[i]? = some s → SlOk F ad B H i s σ[i]?
  inj : ∀ i j s u c d, μ[i]? = some s → μ[j]? = some u → s.box = some c → u.box = some d → ad i = ad j → i = j
  par : ∀ i a, F.P i = some a → (∃ c, μ[i]? = some (.pb c)) ∧ ad i = a
  bc : ∀ b, F.Bc b → B b
  trk : ∀ b, B b → ∃ o, H b = some o
  old : ∀ b o, F.H0 b = some o → (∀ i, F.P i ≠ some b) → H b = some o
  gh : ∀ a vs, F.G a = some vs → H a = some (.lst vs) ∧ B a ∧ ∀ (i : Nat) (s : Sl) (c : T), μ[i]? = some s → s.box = some c → ad i ≠ a
theorem SlOk.boxed {F : Fx} {ad : Nat → Addr} {B : AP'} {H : Hp} {i : Nat} {s : Sl} {x : Option (Option V)} {c : T} (h : SlOk F ad B H i s x) (e : s.box = some c) : x = some (some (.ref (ad i))) ∧ B (ad i) ∧ Bx F.K H B (ad i) c ∧ (F.P i = some (ad i) ∨ F.H0 (ad i) = none) := by
  unfold SlOk at h
  split at h
  · cases e
  · cases e
  · cases e; exact ⟨h.1, h.2.1, h.2.2.2.2, .inr h.2.2.1⟩
  · cases e; exact ⟨h.1, h.2.1, h.2.2.2, .inl h.2.2.1⟩
/-- what a value is worth -/
noncomputable def Hv (F : Fx) (ad : Nat → Addr) (B : AP') (H : Hp) (μ : Mu) (v : V) (r : R) : Prop := match r with
  | .tr t => Rep F.K H B v t
  | .br i => v = .ref (ad i) ∧ ∃ s c, μ[i]? = some s ∧ s.box = some c
  | .fr _ => False
noncomputable def more (B : AP') (a : Addr) : AP' := fun b => b = a ∨ B b
noncomputable def Vr (F : Fx) (ad : Nat → Addr) (B : AP') (σ : St) (H : Hp) (μ : Mu) (v : V) (r : R) : Prop := match r with
  | .fr c => Rl F ad B σ H μ ∧ ∃ a, v = .ref a ∧ ¬ B a ∧ F.H0 a = none ∧ Rl F ad (more B a) σ H μ ∧ Bx F.K H (more B a) a c
  | r => Rl F ad B σ H μ ∧ Hv F ad B H μ v r
noncomputable def R.d : R → R
  | .fr c => .tr c
  | r => r
section
variable {F : Fx} {ad : Nat → Addr} {B B' : AP'} {σ : St} {H H' : Hp} {μ : Mu} {v : V} {r : R}
theorem Rl.new0 (h : Rl F ad B σ H μ) {p : Addr} (e : H p = none) : F.H0 p = none := by
  cases q : F.H0 p with
  | none => rfl
  | some o =>
    by_cases z : ∃ i, F.P i = some p
    · obtain ⟨i, z⟩ := z
      obtain ⟨⟨c, hc⟩, ha⟩ := h.par i p z
      have := (h.slot i _ hc).boxed (c := c) rfl
      obtain ⟨o', e'⟩ := h.trk _ this.2.1
      rw [ha, e] at e'; cases e'
    · have := h.old p o q fun i zi => z ⟨i, zi⟩
      rw [e] at this; cases this
theorem Rl.notB (h : Rl F ad B σ H μ) {p : Addr} (e : H p = none) : ¬ B p := fun z => by
  obtain ⟨o, q⟩ := h.trk p z
  rw [e] at q; cases q
/-- the heap grows -/
theorem Rl.fr (h : Rl F ad B σ H μ) (s : Same H H') (hB : ∀ b, B b → B' b) (hT : ∀ b, B' b → ∃ o, H' b = some o) (f : Fr B H B' H') : Rl F ad B' σ H' μ := by
  refine ⟨h.len, fun i s' e => ?_, h.inj, h.par, fun b z => hB b (h.bc b z), hT, fun b o e n => s b o (h.old b o e n), fun a vs e => let ⟨g1, g2, g3⟩ := h.gh a vs e; ⟨s a _ g1, hB a g2, g3⟩⟩
  have k := h.slot i s' e
  unfold SlOk at k ⊢
  split at k
  · trivial
  · obtain ⟨v, e1, r⟩ := k; exact ⟨v, e1, r.fr f⟩
  · obtain ⟨e1, b, z, p, x⟩ := k
    obtain ⟨o, q⟩ := x.trk
    exact ⟨e1, hB _ b, z, p, x.of ((s _ _ q).trans q.symm) f⟩
  · obtain ⟨e1, b, p, x⟩ := k
    obtain ⟨o, q⟩ := x.trk
    exact ⟨e1, hB _ b, p, x.of ((s _ _ q).trans q.symm) f⟩
theorem Rl.same (h : Rl F ad B σ H μ) (s : Same H H') : Rl F ad B σ H' μ := h.fr s (fun _ z => z) (fun b z => let ⟨o, e⟩ := h.trk b z; ⟨o, s b o e⟩) (Fr.same s)
theorem Rl.new (h : Rl F ad B σ H μ) {p : Addr} {o : HO} (e : H p = none) : Rl F ad (more B p) σ (upd H p o) μ :=
  h.fr (Same.new e) (fun _ z => .inr z) (fun b z => z.elim (fun q => by subst q; exact ⟨o, upd_same⟩) fun q => let ⟨u, w⟩ := h.trk b q; ⟨u, Same.new e b u w⟩) (Fr.more e)
/-- fewer are held apart -/
theorem Rl.less (h : Rl F ad B σ H μ) (s : ∀ b, B' b → B b) (hb : ∀ b, F.Bc b → B' b) (own : ∀ i s' c, μ[i]? = some s' → s'.box = some c → B' (ad i)) (hg : ∀ a vs, F.G a = some vs → B' a) : Rl F ad B' σ H μ := by
  refine ⟨h.len, fun i s' e => ?_, h.inj, h.par, hb, fun b z => h.trk b (s b z), h.old, fun a vs e => let ⟨g1, g2, g3⟩ := h.gh a vs e; ⟨g1, hg a vs e, g3⟩⟩
  have k := h.slot i s' e
  unfold SlOk at k ⊢
  split at k
  · trivial
  · obtain ⟨v, e1, r⟩ := k; exact ⟨v, e1, r.fr (Fr.less s)⟩
  · obtain ⟨e1, b, z, p, x⟩ := k
    exact ⟨e1, own i _ _ e rfl, z, p, x.of rfl (Fr.less s)⟩
  · obtain ⟨e1, b, p, x⟩ := k
    exact ⟨e1, own i _ _ e rfl, p, x.of rfl (Fr.less s)⟩
theorem Vr.rl (h : Vr F ad B σ H μ v r) : Rl F ad B σ H μ := by
  cases r with
  | tr t => exact h.1
  | br i => exact h.1
  | fr c => exact h.1
theorem Vr.hv (h : Vr F ad B σ H μ v r) : Hv F ad B H μ v r.d := by
  cases r with
  | tr t => exact h.2
  | br i => exact h.2
  | fr c =>
    obtain ⟨_, a, rfl, n, _, _, x⟩ := h
    exact (x.of rfl (Fr.less fun _ z => .inr z)).rep n
/-- boxes stay boxes -/
noncomputable def Kp (μ μ' : Mu) : Prop := ∀ i : Nat, ((μ[i]?).bind Sl.box).isSome = ((μ'[i]?).bind Sl.box).isSome
theorem Kp.refl (μ : Mu) : Kp μ μ := fun i => rfl
theorem Kp.trans {μ μ1 μ2 : Mu} (a : Kp μ μ1) (b : Kp μ1 μ2) : Kp μ μ2 := fun i => (a i).trans (b i)
theorem Kp.symm {μ μ1 : Mu} (a : Kp μ μ1) : Kp μ1 μ := fun i => (a i).symm
theorem Kp.fwd {μ μ' : Mu} (k : Kp μ μ') : ∀ (i : Nat) (s : Sl) (c : T), μ[i]? = some s → s.box = some c → ∃ (s' : Sl) (c' : T), μ'[i]? = some s' ∧ s'.box = some c' := fun i s c e b => by
  have h := k i
  rw [e] at h
  have h1 : (s.box).isSome = ((μ'[i]?).bind Sl.box).isSome := h
  rw [b] at h1
  cases q : μ'[i]? with
  | none => rw [q] at h1; cases h1
  | some s' =>
    rw [q] at h1
    have h2 : true = (s'.box).isSome := h1
    cases q2 : s'.box with
    | none => rw [q2] at h2; cases h2
    | some c' => exact ⟨s', c', rfl, q2⟩
theorem Kp.set {μ : Mu} {i : Nat} {s s' : Sl} {c d : T} (e : μ[i]? = some s) (b : s.box = some c) (b' : s'.box = some d) : Kp μ (μ.set i s') := fun j => by
  have hi : i < μ.length := (List.getElem?_eq_some_iff.mp e).1
  by_cases z : i = j
  · subst z
    rw [List.getElem?_set_self hi, e]
    show (s.box).isSome = (s'.box).isSome
    rw [b, b']; rfl
  · rw [List.getElem?_set_ne z]
/-- a value stays worth what it was -/
theorem Hv.fr {ad : Nat → Addr} {μ' : Mu} (h : Hv F ad B H μ v r) (f : Fr B H B' H') (k : Kp μ μ') : Hv F ad B' H' μ' v r := by
  cases r with
  | tr t => exact Rep.fr f h
  | br i => obtain ⟨e, s, c, h1, h2⟩ := h; exact ⟨e, k.fwd i s c h1 h2⟩
  | fr c => exact h.elim
/-- what stands in a box -/
noncomputable def cont (μ : Mu) : R → Option T
  | .tr t => some t
  | .br i => (μ[i]?).bind Sl.box
  | .fr c => some c
/-- a view of a value: its items stand outside -/
inductive Vw (K : PySem.W.Frag) (H : Hp) (B : AP') : V → T → Prop
  | non : Vw K H B .non .non
  | bl (b : Bool) : Vw K H B (.bl b) (.bl b)
  | int (i : Int) : Vw K H B (.int i) (.int i)
  | str (x : Str) : Vw K H B (.str x) (.str x)
  | tup {a : Addr} {vs : List V} {ts : List T} (h : H a = some (.tup vs)) (r : Reps K H B vs ts) : Vw K H B (.ref a) (.tup ts)
  | ktp {a : Addr} {vs : List V} {ts : List T} (h : KTp K a vs) (r : Reps K H B vs ts) : Vw K H B (.ref a) (.ktp ts)
  | lst {a : Addr} {vs : List V} {ts : List T} (h : H a = some (.lst vs)) (r : Reps K H B vs ts) : Vw K H B (.ref a) (.lst ts)
  | rol {a : Addr} {vs : List V} {ts : List T} (h : SqL K H a vs) (r : Reps K H B vs ts) : Vw K H B (.ref a) (.rol ts)
  | rng {a : Addr} {lo hi : Int} (h : H a = some (.rng lo hi)) : Vw K H B (.ref a) (.rng lo hi)
  | exc {a : Addr} {c : Value} (h : H a = some (.ext (isX a c none))) : Vw K H B (.ref a) (.exc c none)
  | exa {a d : Addr} {c : Value} {x : Str} {i : Int} (h : H a = some (.ext (isX a c (some d)))) (g : H d = some (.xd [(x, .int i)])) : Vw K H B (.ref a) (.exc c (some (x, i)))
theorem Rep.vw {K : PySem.W.Frag} {t : T} (h : Rep K H B v t) : Vw K H B v t := by
  cases h with
  | non => exact .non
  | bl b => exact .bl b
  | int i => exact .int i
  | str x => exact .str x
  | tup n h r => exact .tup h r
  | ktp h r => exact .ktp h r
  | lst n h r => exact .lst h r
  | rol h r => exact .rol h.sq r
  | rng n h => exact .rng h
  | exc n h => exact .exc h
  | exa n h m g => exact .exa h g
theorem Hv.vw {t : T} (l : Rl F ad B σ H μ) (h : Hv F ad B H μ v r) (e : cont μ r = some t) : Vw F.K H B v t := by
  cases r with
  | tr u => cases e; exact Rep.vw h
  | br i =>
    obtain ⟨rfl, s, c, h1, h2⟩ := h
    have e2 : (μ[i]?).bind Sl.box = some t := e
    rw [h1] at e2
    have e' : s.box = some t := e2
    obtain ⟨ts, vs, rfl, q, rr⟩ := ((l.slot i s h1).boxed e').2.2.1.lstIs
    exact .lst q rr
  | fr c => exact h.elim
/-- the i-th name's box is rewritten -/
noncomputable def Sl.put : Sl → T → Sl
  | .bx _, c => .bx c
  | .pb _, c => .pb c
  | s, _ => s
theorem Sl.put_box {s : Sl} {c d : T} (e : s.box = some c) : (s.put d).box = some d := by
  cases s <;> first | rfl | cases e
theorem Rl.put {i : Nat} {s : Sl} {c : T} {vs : List V} {ts : List T} (l : Rl F ad B σ H μ) (e : μ[i]? = some s) (hb : s.box = some c) (r : Reps F.K H B vs ts) : Rl F ad B σ (upd H (ad i) (.lst vs)) (μ.set i (s.put (.lst ts))) := by
  have k0 := (l.slot i s e).boxed hb
  have hi : i < μ.length := (List.getElem?_eq_some_iff.mp e).1
  have f : Fr B H B (upd H (ad i) (.lst vs)) := Fr.set k0.2.1
  have get : ∀ j, (μ.set i (s.put (.lst ts)))[j]? = if j = i then some (s.put (.lst ts)) else μ[j]? := fun j => by
    rw [List.getElem?_set]
    by_cases z : i = j
    · subst z; simp [hi]
    · rw [if_neg z, if_neg (fun q => z q.symm)]
  refine ⟨by rw [List.length_set]; exact l.len, fun j s' e' => ?_, fun j k s1 s2 c1 c2 e1 e2 b1 b2 q => ?_, fun j a p => ?_, l.bc, fun b z => ?_, fun b o e' n => ?_, fun a ws ga => ?_⟩
  · rw [get] at e'
    by_cases z : j = i
    · subst z
      rw [if_pos rfl] at e'
      cases e'
      have k := l.slot j s e
      cases s with
      | un => cases hb
      | tr t => cases hb
      | bx d => exact ⟨k.1, k.2.1, k.2.2.1, k.2.2.2.1, vs, upd_same, r.fr f⟩
      | pb d => exact ⟨k.1, k.2.1, k.2.2.1, vs, upd_same, r.fr f⟩
    · rw [if_neg z] at e'
      have k := l.slot j s' e'
      have ne : ∀ d, s'.box = some d → ad j ≠ ad i := fun d hd q => z (l.inj j i s' s d c e' e hd hb q)
      unfold SlOk at k ⊢
      split at k
      · trivial
      · obtain ⟨v, e1, r1⟩ := k; exact ⟨v, e1, r1.fr f⟩
      · obtain ⟨e1, b, z0, p, x⟩ := k; exact ⟨e1, b, z0, p, x.of (upd_ne (ne _ rfl)) f⟩
      · obtain ⟨e1, b, p, x⟩ := k; exact ⟨e1, b, p, x.of (upd_ne (ne _ rfl)) f⟩
  · rw [get] at e1 e2
    have h1 : ∃ u d, μ[j]? = some u ∧ u.box = some d := by
      by_cases z : j = i
      · subst z; exact ⟨s, c, e, hb⟩
      · rw [if_neg z] at e1; exact ⟨_, _, e1, b1⟩
    have h2 : ∃ u d, μ[k]? = some u ∧ u.box = some d := by
      by_cases z : k = i
      · subst z; exact ⟨s, c, e, hb⟩
      · rw [if_neg z] at e2; exact ⟨_, _, e2, b2⟩
    obtain ⟨u1, d1, g1, g2⟩ := h1
    obtain ⟨u2, d2, g3, g4⟩ := h2
    exact l.inj j k u1 u2 d1 d2 g1 g3 g2 g4 q
  · obtain ⟨⟨d, hd⟩, ha⟩ := l.par j a p
    refine ⟨?_, ha⟩
    rw [get]
    by_cases z : j = i
    · subst z
      rw [e] at hd
      cases hd
      rw [if_pos rfl]
      exact ⟨_, rfl⟩
    · rw [if_neg z]; exact ⟨d, hd⟩
  · by_cases z' : b = ad i
    · subst z'; exact ⟨_, upd_same⟩
    · rw [upd_ne z']; exact l.trk b z
  · have ne : b ≠ ad i := by
      rintro rfl
      rcases k0.2.2.2 with z | z
      · exact n i z
      · rw [z] at e'; cases e'
    rw [upd_ne ne]
    exact l.old b o e' n
  · obtain ⟨g1, g2, g3⟩ := l.gh a ws ga
    refine ⟨by rw [upd_ne (fun z => g3 i s c e hb z.symm)]; exact g1, g2, fun j s' d e' b' => ?_⟩
    rw [get] at e'
    by_cases z : j = i
    · subst z; exact g3 j s c e hb
    · rw [if_neg z] at e'; exact g3 j s' d e' b'
/-- a name is given another tree -/
theorem Rl.setT {i : Nat} {t : T} (l : Rl F ad B σ H μ) (hp : ∀ c, μ[i]? ≠ some (.pb c)) (h : Rep F.K H B v t) : Rl F ad B (σ.set i (some v)) H (μ.set i (.tr t)) := by
  have get : ∀ j, i < μ.length → (μ.set i (.tr t))[j]? = if j = i then some (.tr t) else μ[j]? := fun j hi => by
    rw [List.getElem?_set]
    by_cases z : i = j
    · subst z; simp [hi]
    · rw [if_neg z, if_neg (fun q => z q.symm)]
  by_cases hi : i < μ.length
  · refine ⟨by rw [List.length_set, List.length_set]; exact l.len, fun j s' e' => ?_, fun j k s1 s2 c1 c2 e1 e2 b1 b2 q => ?_, fun j a p => ?_, l.bc, l.trk, l.old, fun a ws ga => ?_⟩
    · rw [get j hi] at e'
      by_cases z : j = i
      · subst z
        rw [if_pos rfl] at e'
        cases e'
        exact ⟨v, by rw [List.getElem?_set_self (by rw [← l.len]; exact hi)], h⟩
      · rw [if_neg z] at e'
        rw [List.getElem?_set_ne (Ne.symm z)]
        exact l.slot j s' e'
    · rw [get j hi] at e1
      rw [get k hi] at e2
      by_cases z : j = i
      · rw [if_pos z] at e1; cases e1; cases b1
      · by_cases z2 : k = i
        · rw [if_pos z2] at e2; cases e2; cases b2
        · rw [if_neg z] at e1; rw [if_neg z2] at e2; exact l.inj j k _ _ _ _ e1 e2 b1 b2 q
    · obtain ⟨⟨d, hd⟩, ha⟩ := l.par j a p
      refine ⟨⟨d, ?_⟩, ha⟩
      rw [get j hi]
      by_cases z : j = i
      · subst z; exact absurd hd (hp d)
      · rw [if_neg z]; exact hd
    · obtain ⟨g1, g2, g3⟩ := l.gh a ws ga
      refine ⟨g1, g2, fun j s' d e' b' => ?_⟩
      rw [get j hi] at e'
      by_cases z : j = i
      · rw [if_pos z] at e'; cases e'; cases b'
      · rw [if_neg z] at e'; exact g3 j s' d e' b'
  · have hs : σ.length ≤ i := by rw [← l.len]; omega
    rw [List.set_eq_of_length_le (show μ.length ≤ i by omega), List.set_eq_of_length_le hs]
    exact l
/-- a name is given a new list of its own -/
theorem Rl.setB {i : Nat} {c : T} {a : Addr} (l : Rl F ad (more B a) σ H μ) (hp : ∀ c, μ[i]? ≠ some (.pb c)) (h0 : F.H0 a = none) (n : ¬ B a) (own : ∀ j s c, μ[j]? = some s → s.box = some c → B (ad j)) (gB : ∀ b vs, F.G b = some vs → B b) (x : Bx F.K H (more B a) a c) :
    Rl F (fun j => if j = i then a else ad j) (more B a) (σ.set i (some (.ref a))) H (μ.set i (.bx c)) := by
  have get : ∀ j, i < μ.length → (μ.set i (.bx c))[j]? = if j = i then some (.bx c) else μ[j]? := fun j hi => by
    rw [List.getElem?_set]
    by_cases z : i = j
    · subst z; simp [hi]
    · rw [if_neg z, if_neg (fun q => z q.symm)]
  have pi : F.P i = none := by
    cases q : F.P i with
    | none => rfl
    | some b =>
      obtain ⟨⟨d, hd⟩, _⟩ := l.par i b q
      exact absurd hd (hp d)
  by_cases hi : i < μ.length
  · refine ⟨by rw [List.length_set, List.length_set]; exact l.len, fun j s' e' => ?_, fun j k s1 s2 c1 c2 e1 e2 b1 b2 q => ?_, fun j a' p => ?_, l.bc, l.trk, l.old, fun b ws ga => ?_⟩
    · rw [get j hi] at e'
      by_cases z : j = i
      · subst z
        rw [if_pos rfl] at e'
        cases e'
        show _ ∧ _
        simp only [if_pos]
        exact ⟨by rw [List.getElem?_set_self (by rw [← l.len]; exact hi)], .inl rfl, h0, pi, x⟩
      · rw [if_neg z] at e'
        rw [List.getElem?_set_ne (Ne.symm z)]
        have k := l.slot j s' e'
        unfold SlOk at k ⊢
        simp only [if_neg z]
        exact k
    · rw [get j hi] at e1
      rw [get k hi] at e2
      by_cases z : j = i
      · by_cases z2 : k = i
        · rw [z, z2]
        · rw [if_pos z, if_neg z2] at q
          rw [if_neg z2] at e2
          exact absurd (own k _ _ e2 b2) (by rw [← q]; exact n)
      · by_cases z2 : k = i
        · rw [if_pos z2, if_neg z] at q
          rw [if_neg z] at e1
          exact absurd (own j _ _ e1 b1) (by rw [q]; exact n)
        · rw [if_neg z] at e1; rw [if_neg z2] at e2
          rw [if_neg z, if_neg z2] at q
          exact l.inj j k _ _ _ _ e1 e2 b1 b2 q
    · obtain ⟨⟨d, hd⟩, ha⟩ := l.par j a' p
      have z : j ≠ i := by rintro rfl; exact hp d hd
      rw [get j hi, if_neg z]
      exact ⟨⟨d, hd⟩, by simp only [if_neg z]; exact ha⟩
    · obtain ⟨g1, g2, g3⟩ := l.gh b ws ga
      refine ⟨g1, g2, fun j s' d e' b' => ?_⟩
      rw [get j hi] at e'
      by_cases z : j = i
      · simp only [if_pos z]
        rintro rfl
        exact n (gB _ ws ga)
      · rw [if_neg z] at e'
        simp only [if_neg z]
        exact g3 j s' d e' b'
  · have hs : σ.length ≤ i := by rw [← l.len]; omega
    rw [List.set_eq_of_length_le (show μ.length ≤ i by omega), List.set_eq_of_length_le hs]
    have ne : ∀ j s, μ[j]? = some s → j ≠ i := fun j s e q => by
      have := (List.getElem?_eq_some_iff.mp e).1
      omega
    refine ⟨l.len, fun j s' e' => ?_, fun j k s1 s2 c1 c2 e1 e2 b1 b2 q => ?_, fun j a' p => ?_, l.bc, l.trk, l.old, fun b ws ga => ?_⟩
    · have k := l.slot j s' e'
      unfold SlOk at k ⊢
      simp only [if_neg (ne j s' e')]
      exact k
    · simp only [if_neg (ne j _ e1), if_neg (ne k _ e2)] at q
      exact l.inj j k _ _ _ _ e1 e2 b1 b2 q
    · obtain ⟨⟨d, hd⟩, ha⟩ := l.par j a' p
      exact ⟨⟨d, hd⟩, by simp only [if_neg (ne j _ hd)]; exact ha⟩
    · obtain ⟨g1, g2, g3⟩ := l.gh b ws ga
      refine ⟨g1, g2, fun j s' d e' b' => ?_⟩
      simp only [if_neg (ne j _ e')]
      exact g3 j s' d e' b'
theorem Rl.gB (l : Rl F ad B σ H μ) : ∀ b vs, F.G b = some vs → B b := fun b vs e => (l.gh b vs e).2.1
theorem Rl.own (l : Rl F ad B σ H μ) : ∀ j s c, μ[j]? = some s → s.box = some c → B (ad j) := fun j s c e b => ((l.slot j s e).boxed b).2.1
/-- a list that is changed no more -/
theorem Rl.freeze {i : Nat} {c : T} (l : Rl F ad B σ H μ) (e : μ[i]? = some (.bx c)) (hc : ¬ F.Bc (ad i)) : Rl F ad (fun b => B b ∧ b ≠ ad i) σ H (μ.set i (.tr c)) ∧ Rep F.K H (fun b => B b ∧ b ≠ ad i) (.ref (ad i)) c := by
  have k0 := l.slot i _ e
  have hi : i < μ.length := (List.getElem?_eq_some_iff.mp e).1
  have rp : Rep F.K H (fun b => B b ∧ b ≠ ad i) (.ref (ad i)) c := ((k0.2.2.2.2).of rfl (Fr.less fun _ z => z.1)).rep (fun z => z.2 rfl)
  have get : ∀ j, (μ.set i (.tr c))[j]? = if j = i then some (.tr c) else μ[j]? := fun j => by
    rw [List.getElem?_set]
    by_cases z : i = j
    · subst z; simp [hi]
    · rw [if_neg z, if_neg (fun q => z q.symm)]
  have pi : F.P i = none := k0.2.2.2.1
  refine ⟨⟨by rw [List.length_set]; exact l.len, fun j s' e' => ?_, fun j k s1 s2 c1 c2 e1 e2 b1 b2 q => ?_, fun j a p => ?_, fun b z => ⟨l.bc b z, by rintro rfl; exact hc z⟩, fun b z => l.trk b z.1, l.old, fun a ws ga => ?_⟩, rp⟩
  · rw [get] at e'
    by_cases z : j = i
    · subst z
      rw [if_pos rfl] at e'
      cases e'
      exact ⟨_, k0.1, rp⟩
    · rw [if_neg z] at e'
      have k := l.slot j s' e'
      have ne : ∀ d, s'.box = some d → ad j ≠ ad i := fun d hd q => z (l.inj j i s' _ d c e' e hd rfl q)
      unfold SlOk at k ⊢
      split at k
      · trivial
      · obtain ⟨v, e1, r1⟩ := k; exact ⟨v, e1, r1.fr (Fr.less fun _ z => z.1)⟩
      · obtain ⟨e1, b, z0, p, x⟩ := k; exact ⟨e1, ⟨b, ne _ rfl⟩, z0, p, x.of rfl (Fr.less fun _ z => z.1)⟩
      · obtain ⟨e1, b, p, x⟩ := k; exact ⟨e1, ⟨b, ne _ rfl⟩, p, x.of rfl (Fr.less fun _ z => z.1)⟩
  · rw [get] at e1 e2
    by_cases z : j = i
    · rw [if_pos z] at e1; cases e1; cases b1
    · by_cases z2 : k = i
      · rw [if_pos z2] at e2; cases e2; cases b2
      · rw [if_neg z] at e1; rw [if_neg z2] at e2; exact l.inj j k _ _ _ _ e1 e2 b1 b2 q
  · obtain ⟨⟨d, hd⟩, ha⟩ := l.par j a p
    refine ⟨⟨d, ?_⟩, ha⟩
    rw [get]
    by_cases z : j = i
    · subst z; rw [pi] at p; cases p
    · rw [if_neg z]; exact hd
  · obtain ⟨g1, g2, g3⟩ := l.gh a ws ga
    refine ⟨g1, ⟨g2, (g3 i _ c e rfl).symm⟩, fun j s' d e' b' => ?_⟩
    rw [get] at e'
    by_cases z : j = i
    · rw [if_pos z] at e'; cases e'; cases b'
    · rw [if_neg z] at e'; exact g3 j s' d e' b'
end
end L2

set_option linter.all false
set_option maxRecDepth 100000
set_option maxHeartbeats 4000000
namespace L2
open PySem PySem.Spec PyProof.Rows
noncomputable abbrev UE := Mu → (R → Mu → Prop) → Prop
noncomputable abbrev UT := Mu → (Bool → Mu → Prop) → Prop
noncomputable abbrev UA := Mu → (List R → Mu → Prop) → Prop
noncomputable abbrev UO := Mu → (Option Int → Mu → Prop) → Prop
noncomputable abbrev U2 := R → R → Mu → (R → Mu → Prop) → Prop
noncomputable abbrev UC := List R → Mu → (R → Mu → Prop) → Prop
structure Ed where
  nx : Mu → Prop
  rt : R → Mu → Prop
  bk : Mu → Prop := fun _ => False
  ct : Mu → Prop := fun _ => False
noncomputable abbrev US := Ed → Mu → Prop
/-- what is held apart behind a value -/
noncomputable def Bv (B : AP') (v : V) : R → AP'
  | .fr _ => (match v with | .ref a => more B a | _ => B)
  | _ => B
theorem Fr.d {B : AP'} {H H' : Hp} {v : V} {r : R} (f : Fr B H (Bv B v r) H') : Fr B H B H' := fun b o h n => ⟨(f b o h n).1, n⟩
noncomputable def RE (K : PySem.W.Frag) (te : TE) (ue : UE) : Prop := ∀ (F : Fx) (ad : Nat → Addr) (B : AP') (σ : St) (H : Hp) (μ : Mu) (Q : VK) (Qt : R → Mu → Prop), F.K = K → Rl F ad B σ H μ → ue μ Qt →
  (∀ v H' r μ', Vr F ad B σ H' μ' v r → Fr B H (Bv B v r) H' → Kp μ μ' → Qt r μ' → Q v H') → te σ H Q
noncomputable def RT (K : PySem.W.Frag) (tt : TT) (ut : UT) : Prop := ∀ (F : Fx) (ad : Nat → Addr) (B : AP') (σ : St) (H : Hp) (μ : Mu) (Q : Bool → Hp → Prop) (Qt : Bool → Mu → Prop), F.K = K → Rl F ad B σ H μ → ut μ Qt →
  (∀ b H' μ', Rl F ad B σ H' μ' → Fr B H B H' → Kp μ μ' → Qt b μ' → Q b H') → tt σ H Q
noncomputable def RA (K : PySem.W.Frag) (ta : TA) (ua : UA) : Prop := ∀ (F : Fx) (ad : Nat → Addr) (B : AP') (σ : St) (H : Hp) (μ : Mu) (Q : List V → Hp → Prop) (Qt : List R → Mu → Prop), F.K = K → Rl F ad B σ H μ → ua μ Qt →
  (∀ vs H' rs μ', Rl F ad B σ H' μ' → Paired (Hv F ad B H' μ') vs rs → Fr B H B H' → Kp μ μ' → Qt rs μ' → Q vs H') → ta σ H Q
noncomputable def RO (K : PySem.W.Frag) (tt : TO) (ut : UO) : Prop := ∀ (F : Fx) (ad : Nat → Addr) (B : AP') (σ : St) (H : Hp) (μ : Mu) (Q : Option Int → Hp → Prop) (Qt : Option Int → Mu → Prop), F.K = K → Rl F ad B σ H μ → ut μ Qt →
  (∀ b H' μ', Rl F ad B σ H' μ' → Fr B H B H' → Kp μ μ' → Qt b μ' → Q b H') → tt σ H Q
/-- an operation on values -/
noncomputable def ROp (K : PySem.W.Frag) (r : R2) (u : U2) : Prop := ∀ (F : Fx) (ad : Nat → Addr) (B : AP') (σ : St) (H : Hp) (μ : Mu) (Q : VK) (Qt : R → Mu → Prop) (x y : V) (r1 r2 : R), F.K = K → Rl F ad B σ H μ → Hv F ad B H μ x r1 → Hv F ad B H μ y r2 → u r1 r2 μ Qt →
  (∀ v H' r μ', Vr F ad B σ H' μ' v r → Fr B H (Bv B v r) H' → Kp μ μ' → Qt r μ' → Q v H') → r x y H Q
noncomputable def RC (K : PySem.W.Frag) (r : List V → Hp → VK → Prop) (u : UC) : Prop := ∀ (F : Fx) (ad : Nat → Addr) (B : AP') (σ : St) (H : Hp) (μ : Mu) (Q : VK) (Qt : R → Mu → Prop) (xs : List V) (rs : List R), F.K = K → Rl F ad B σ H μ → Paired (Hv F ad B H μ) xs rs → u rs μ Qt →
  (∀ v H' r μ', Vr F ad B σ H' μ' v r → Fr B H (Bv B v r) H' → Kp μ μ' → Qt r μ' → Q v H') → r xs H Q
section
variable {F : Fx} {ad : Nat → Addr} {B : AP'} {σ : St} {H : Hp} {μ : Mu} {Q : VK} {Qt : R → Mu → Prop}
/-- a flat result, heap as it is -/
theorem Vr.flat {v : V} {t : T} (l : Rl F ad B σ H μ) (r : Rep F.K H B v t) : Vr F ad B σ H μ v (.tr t) := ⟨l, r⟩
/-- a new list -/
theorem Vr.newL {p : Addr} {vs : List V} {ts : List T} (l : Rl F ad B σ H μ) (r : Reps F.K H B vs ts) (e : H p = none) : Vr F ad B σ (upd H p (.lst vs)) μ (.ref p) (.fr (.lst ts)) :=
  ⟨l.same (Same.new e), p, rfl, l.notB e, l.new0 e, l.new e, vs, upd_same, r.fr (Fr.more e)⟩
/-- a new tuple -/
theorem Vr.newT {p : Addr} {vs : List V} {ts : List T} (l : Rl F ad B σ H μ) (r : Reps F.K H B vs ts) (e : H p = none) : Vr F ad B σ (upd H p (.tup vs)) μ (.ref p) (.tr (.tup ts)) :=
  ⟨l.same (Same.new e), .tup (l.notB e) upd_same (r.fr (Fr.same (Same.new e)))⟩
end
structure YE (X : Cx) (e : Expr) (u : UE) : Prop where
  ex : ∃ t, QE X e t ∧ RE X.K t u
structure YT (X : Cx) (e : Expr) (u : UT) : Prop where
  ex : ∃ t, QT X e t ∧ RT X.K t u
structure YW (X : Cx) (e : Expr) (u : UT) : Prop where
  ex : ∃ t, QW X e t ∧ RT X.K t u
structure YA (X : Cx) (es : List Expr) (u : UA) : Prop where
  ex : ∃ t, QA X es t ∧ RA X.K t u
structure YO (X : Cx) (e : Option Expr) (u : UO) : Prop where
  ex : ∃ t, QO X e t ∧ RO X.K t u
structure YTs (X : Cx) (es : List Expr) (u : UT) : Prop where
  ex : ∃ t, QTs X es t ∧ RT X.K t u
namespace Y
noncomputable def uC (t : T) : UE := fun μ Q => Q (.tr t) μ
noncomputable def uVar (i : Nat) : UE := fun μ Q => match μ[i]? with
  | some (.tr t) => Q (.tr t) μ
  | some (.bx _) => Q (.br i) μ
  | some (.pb _) => Q (.br i) μ
  | _ => False
noncomputable def uOp (u : U2) (ua ub : UE) : UE := fun μ Q => ua μ fun r1 μ1 => ub μ1 fun r2 μ2 => u r1.d r2.d μ2 Q
section
variable {X : Cx} {a b c e o : Expr} {es rest : List Expr} {ua ub uc ue uo : UE} {uA uB : UT} {us : UA} {pos p p2 : Pos} {x : Str}
theorem re_c {K : PySem.W.Frag} {v : V} {t : T} (h : ∀ H B, Rep K H B v t) : RE K (tC v) (uC t) := fun F ad B σ H μ Q Qt hK l q k => k v H (.tr t) μ ⟨l, show Rep F.K H B v t from hK ▸ h H B⟩ Fr.refl (Kp.refl μ) q
theorem int {i : Int} {j : Nat} : YE X (.Constant (.int i) j pos) (uC (.int i)) := ⟨_, Z.int, re_c fun _ _ => .int i⟩
theorem bl {i : Bool} {j : Nat} : YE X (.Constant (.bool i) j pos) (uC (.bl i)) := ⟨_, Z.bl, re_c fun _ _ => .bl i⟩
theorem non {j : Nat} : YE X (.Constant .none j pos) (uC .non) := ⟨_, Z.non, re_c fun _ _ => .non⟩
theorem v (i : Nat) (hN : autoParam (X.N[i]? = some x) L2.aRfl._auto_1) (hv : Vis X.env.scope x := by first | exact Or.inl rfl | exact Or.inr (Or.inl rfl) | exact Or.inr (Or.inr rfl)) (hd : autoParam ((x == ("__debug__" : Str)) = false) L2.aDec._auto_1)
    (hcd : autoParam ((x == ("__classdict__" : Str)) = false) L2.aDec._auto_1) : YE X (.Name x pos) (uVar i) := by
  refine ⟨_, Z.v i hN hv hd hcd, fun F ad B σ H μ Q Qt hK l q k => ?_⟩
  unfold uVar at q
  split at q
  · rename_i t e
    obtain ⟨v, e1, r⟩ := l.slot i _ e
    exact ⟨v, e1, k v H (.tr t) μ ⟨l, r⟩ Fr.refl (Kp.refl μ) q⟩
  · rename_i t e
    have r := l.slot i _ e
    exact ⟨_, r.1, k _ H (.br i) μ ⟨l, rfl, _, _, e, rfl⟩ Fr.refl (Kp.refl μ) q⟩
  · rename_i t e
    have r := l.slot i _ e
    exact ⟨_, r.1, k _ H (.br i) μ ⟨l, rfl, _, _, e, rfl⟩ Fr.refl (Kp.refl μ) q⟩
  · exact q.elim
theorem glob {w : V} {u : Value} {t : T} (hg : Gl X x) (hm : X.mg x = some u) (r : RelV w u) (h : ∀ H B, Rep X.K H B w t) (hd : autoParam ((x == ("__debug__" : Str)) = false) L2.aDec._auto_1) : YE X (.Name x pos) (uC t) := ⟨_, Z.glob hg hm r hd, re_c h⟩
theorem re_op {K : PySem.W.Frag} {r : R2} {u : U2} {ta tb : TE} (h : ROp K r u) (ha : RE K ta ua) (hb : RE K tb ub) : RE K (tOp r ta tb) (uOp u ua ub) := fun F ad B σ H μ Q Qt hK l q k =>
  ha F ad B σ H μ _ _ hK l q fun x H1 r1 μ1 v1 f1 k1 q1 => hb F ad B σ H1 μ1 _ _ hK v1.rl q1 fun y H2 r2 μ2 v2 f2 k2 q2 =>
    h F ad B σ H2 μ2 _ _ x y r1.d r2.d hK v2.rl (v1.hv.fr f2.d k2) v2.hv q2 fun v H' r μ' v3 f3 k3 q3 => k v H' r μ' v3 ((f1.d.trans f2.d).trans f3) ((k1.trans k2).trans k3) q3
theorem op {o : Operator} {r : R2} {u : U2} (ho : OpR X (binaryOp o) r) (h : ROp X.K r u) (ha : YE X a ua) (hb : YE X b ub) : YE X (.BinOp a o b pos) (uOp u ua ub) := by
  obtain ⟨ta, qa, ra⟩ := ha
  obtain ⟨tb, qb, rb⟩ := hb
  exact ⟨_, Z.op ho qa qb, re_op h ra rb⟩
theorem cmp {o : CmpOp} {r : R2} {u : U2} (ho : OpR X (compareOp o) r) (h : ROp X.K r u) (ha : YE X a ua) (hb : YE X b ub) (hm : autoParam (behindInMarks o b = false) L2.aRfl._auto_1) : YE X (.Compare a [o] [b] pos) (uOp u ua ub) := by
  obtain ⟨ta, qa, ra⟩ := ha
  obtain ⟨tb, qb, rb⟩ := hb
  exact ⟨_, Z.cmp ho qa qb hm, re_op h ra rb⟩
theorem ix {r : R2} {u : U2} (hr : IxR X r) (h : ROp X.K r u) (ha : YE X a ua) (hb : YE X b ub) (hs : autoParam (Z.sim b = true) L2.aRfl._auto_1) : YE X (.Subscript a b pos) (uOp u ua ub) := by
  obtain ⟨ta, qa, ra⟩ := ha
  obtain ⟨tb, qb, rb⟩ := hb
  exact ⟨_, Z.ix hr qa qb hs, re_op h ra rb⟩
noncomputable def uTest (ue : UE) : UT := fun μ Q => ue μ fun r μ' => match r with
  | .tr (.bl b) => Q b μ'
  | _ => False
theorem rt_test {K : PySem.W.Frag} {t : TE} (h : RE K t ue) : RT K (tTest t) (uTest ue) := fun F ad B σ H μ Q Qt hK l q k =>
  h F ad B σ H μ _ _ hK l q fun v H' r μ' v1 f k1 q1 => by
    split at q1
    · rename_i b
      have rp := v1.2
      cases rp
      exact ⟨b, rfl, k b H' μ' v1.rl f.d k1 q1⟩
    · exact q1.elim
theorem tcmp {o : CmpOp} {r : R2} {u : U2} (ho : OpR X (compareOp o) r) (h : ROp X.K r u) (ha : YE X a ua) (hb : YE X b ub) (hm : autoParam (behindInMarks o b = false) L2.aRfl._auto_1) : YT X (.Compare a [o] [b] pos) (uTest (uOp u ua ub)) := by
  obtain ⟨ta, qa, ra⟩ := ha
  obtain ⟨tb, qb, rb⟩ := hb
  exact ⟨_, Z.tcmp ho qa qb hm, rt_test (re_op h ra rb)⟩
noncomputable def uChain (u u' : U2) (ua ub uc : UE) : UE := fun μ Q => ua μ fun r1 μ1 => ub μ1 fun r2 μ2 => u r1.d r2.d μ2 fun z μ3 => match z with
  | .tr (.bl true) => uc μ3 fun r3 μ4 => u' r2.d r3.d μ4 Q
  | .tr (.bl false) => Q (.tr (.bl false)) μ3
  | _ => False
theorem re_chain {K : PySem.W.Frag} {r r' : R2} {u u' : U2} {ta tb tc : TE} (h : ROp K r u) (h' : ROp K r' u') (ha : RE K ta ua) (hb : RE K tb ub) (hc : RE K tc uc) : RE K (tChain r r' ta tb tc) (uChain u u' ua ub uc) := fun F ad B σ H μ Q Qt hK l q k =>
  ha F ad B σ H μ _ _ hK l q fun x H1 r1 μ1 v1 f1 k1 q1 => hb F ad B σ H1 μ1 _ _ hK v1.rl q1 fun y H2 r2 μ2 v2 f2 k2 q2 =>
    h F ad B σ H2 μ2 _ _ x y r1.d r2.d hK v2.rl (v1.hv.fr f2.d k2) v2.hv q2 fun v H3 r3 μ3 v3 f3 k3 q3 => by
      split at q3
      · have rp := v3.2
        cases rp
        refine ⟨true, rfl, ?_⟩
        rw [if_pos rfl]
        exact hc F ad B σ H3 μ3 _ _ hK v3.rl q3 fun w' H4 r4 μ4 v4 f4 k4 q4 => h' F ad B σ H4 μ4 _ _ y w' r2.d r4.d hK v4.rl (v2.hv.fr (f3.d.trans f4.d) (k3.trans k4)) v4.hv q4 fun v5 H5 r5 μ5 v6 f5 k5 q5 =>
          k v5 H5 r5 μ5 v6 ((((f1.d.trans f2.d).trans f3.d).trans f4.d).trans f5) ((((k1.trans k2).trans k3).trans k4).trans k5) q5
      · have rp := v3.2
        cases rp
        refine ⟨false, rfl, ?_⟩
        rw [if_neg Bool.false_ne_true]
        exact k _ H3 _ μ3 (Vr.flat v3.rl (.bl false)) ((f1.d.trans f2.d).trans f3.d) ((k1.trans k2).trans k3) q3
      · exact q3.elim
theorem chain {o o' : CmpOp} {r r' : R2} {u u' : U2} (ho : OpR X (compareOp o) r) (h : ROp X.K r u) (ho' : OpR X (compareOp o') r') (h' : ROp X.K r' u') (ha : YE X a ua) (hb : YE X b ub) (hc : YE X c uc) (hm : lastMarks [o, o'] [b, c] = false := by with_unfolding_all rfl) : YE X (.Compare a [o, o'] [b, c] pos) (uChain u u' ua ub uc) := by
  obtain ⟨ta, qa, ra⟩ := ha
  obtain ⟨tb, qb, rb⟩ := hb
  obtain ⟨tc, qc, rc⟩ := hc
  exact ⟨_, Z.chain ho ho' qa qb qc hm, re_chain h h' ra rb rc⟩
theorem tchain {o o' : CmpOp} {r r' : R2} {u u' : U2} (ho : OpR X (compareOp o) r) (h : ROp X.K r u) (ho' : OpR X (compareOp o') r') (h' : ROp X.K r' u') (ha : YE X a ua) (hb : YE X b ub) (hc : YE X c uc) (hm : lastMarks [o, o'] [b, c] = false := by with_unfolding_all rfl) : YT X (.Compare a [o, o'] [b, c] pos) (uTest (uChain u u' ua ub uc)) := by
  obtain ⟨ta, qa, ra⟩ := ha
  obtain ⟨tb, qb, rb⟩ := hb
  obtain ⟨tc, qc, rc⟩ := hc
  exact ⟨_, Z.tchain ho ho' qa qb qc hm, rt_test (re_chain h h' ra rb rc)⟩
noncomputable def uNot (ut : UT) : UT := fun μ Q => ut μ fun b μ' => Q (!b) μ'
theorem tnot (ha : YT X a uA) : YT X (.UnaryOp .Not a pos) (uNot uA) := by
  obtain ⟨ta, qa, ra⟩ := ha
  exact ⟨_, Z.tnot qa, fun F ad B σ H μ Q Qt hK l q k => ra F ad B σ H μ _ _ hK l q fun b H' μ' l' f k1 q1 => k _ H' μ' l' f k1 q1⟩
theorem tw (h : YW X e uA) : YT X e uA := by
  obtain ⟨t, q, r⟩ := h
  exact ⟨t, Z.tw q, r⟩
theorem wand1 (ha : YT X a uA) : YW X (.BoolOp .And [a] pos) uA := by obtain ⟨t, q, r⟩ := ha; exact ⟨t, Z.wand1 q, r⟩
theorem wor1 (ha : YT X a uA) : YW X (.BoolOp .Or [a] pos) uA := by obtain ⟨t, q, r⟩ := ha; exact ⟨t, Z.wor1 q, r⟩
noncomputable def uAnd (u w : UT) : UT := fun μ Q => u μ fun b μ' => if b = true then w μ' Q else Q false μ'
noncomputable def uOr (u w : UT) : UT := fun μ Q => u μ fun b μ' => if b = true then Q true μ' else w μ' Q
theorem rt_and {K : PySem.W.Frag} {t u : TT} (ha : RT K t uA) (hb : RT K u uB) : RT K (tAnd t u) (uAnd uA uB) := fun F ad B σ H μ Q Qt hK l q k => ha F ad B σ H μ _ _ hK l q fun b H' μ' l' f k1 q1 => by
  cases b with
  | true => rw [if_pos rfl] at q1 ⊢; exact hb F ad B σ H' μ' _ _ hK l' q1 fun b2 H2 μ2 l2 f2 k2 q2 => k b2 H2 μ2 l2 (f.trans f2) (k1.trans k2) q2
  | false => rw [if_neg Bool.false_ne_true] at q1 ⊢; exact k _ H' μ' l' f k1 q1
theorem rt_or {K : PySem.W.Frag} {t u : TT} (ha : RT K t uA) (hb : RT K u uB) : RT K (tOr t u) (uOr uA uB) := fun F ad B σ H μ Q Qt hK l q k => ha F ad B σ H μ _ _ hK l q fun b H' μ' l' f k1 q1 => by
  cases b with
  | false => rw [if_neg Bool.false_ne_true] at q1 ⊢; exact hb F ad B σ H' μ' _ _ hK l' q1 fun b2 H2 μ2 l2 f2 k2 q2 => k b2 H2 μ2 l2 (f.trans f2) (k1.trans k2) q2
  | true => rw [if_pos rfl] at q1 ⊢; exact k _ H' μ' l' f k1 q1
theorem wand (ha : YT X a uA) (hb : YW X (.BoolOp .And (b :: rest) pos) uB) : YW X (.BoolOp .And (a :: b :: rest) pos) (uAnd uA uB) := by
  obtain ⟨t, q, r⟩ := ha; obtain ⟨t', q', r'⟩ := hb
  exact ⟨_, Z.wand q q', rt_and r r'⟩
theorem wor (ha : YT X a uA) (hb : YW X (.BoolOp .Or (b :: rest) pos) uB) : YW X (.BoolOp .Or (a :: b :: rest) pos) (uOr uA uB) := by
  obtain ⟨t, q, r⟩ := ha; obtain ⟨t', q', r'⟩ := hb
  exact ⟨_, Z.wor q q', rt_or r r'⟩
noncomputable def uTru (ue : UE) : UT := fun μ Q => ue μ fun r μ' => match r with
  | .tr (.bl b) => Q b μ'
  | .tr (.int i) => Q (i != 0) μ'
  | _ => False
theorem ttru (K : PySem.W.Frag) (hK : X.K = K) (ha : YE X a ua) (he : autoParam (Z.tru a = true) L2.aRfl._auto_1) : YT X a (uTru ua) := by
  obtain ⟨t, q, r⟩ := ha
  refine ⟨_, Z.ttru K hK q he, fun F ad B σ H μ Q Qt hK l q k => r F ad B σ H μ _ _ hK l q fun v H' r1 μ' v1 f k1 q1 => ?_⟩
  split at q1
  · have rp := v1.2
    cases rp
    exact ⟨_, (Ap.truB ..).symm ▸ rfl, k _ H' μ' v1.rl f.d k1 q1⟩
  · have rp := v1.2
    cases rp
    exact ⟨_, (Ap.truI ..).symm ▸ rfl, k _ H' μ' v1.rl f.d k1 q1⟩
  · exact q1.elim
noncomputable def uAndV (ua ub : UE) : UE := fun μ Q => ua μ fun r μ' => match r with
  | .tr (.bl true) => ub μ' Q
  | .tr (.bl false) => Q (.tr (.bl false)) μ'
  | _ => False
theorem and (ha : YE X a ua) (hb : YE X (.BoolOp .And (b :: rest) pos) ub) : YE X (.BoolOp .And (a :: b :: rest) pos) (uAndV ua ub) := by
  obtain ⟨t, q, r⟩ := ha; obtain ⟨t', q', r'⟩ := hb
  refine ⟨_, Z.and q q', fun F ad B σ H μ Q Qt hK l q k => r F ad B σ H μ _ _ hK l q fun v H' r1 μ' v1 f k1 q1 => ?_⟩
  split at q1
  · have rp := v1.2
    cases rp
    refine ⟨_, rfl, ?_⟩
    rw [if_pos rfl]
    exact r' F ad B σ H' μ' _ _ hK v1.rl q1 fun v2 H2 r2 μ2 v3 f2 k2 q2 => k v2 H2 r2 μ2 v3 (f.d.trans f2) (k1.trans k2) q2
  · have rp := v1.2
    cases rp
    refine ⟨_, rfl, ?_⟩
    rw [if_neg Bool.false_ne_true]
    exact k _ H' _ μ' (Vr.flat v1.rl (.bl _)) f.d k1 q1
  · exact q1.elim
theorem one {o : BoolOp} (ha : YE X a ua) : YE X (.BoolOp o [a] pos) ua := by obtain ⟨t, q, r⟩ := ha; exact ⟨t, Z.one q, r⟩
noncomputable def uIf (uc : UT) (ua ub : UE) : UE := fun μ Q => uc μ fun b μ' => if b = true then ua μ' Q else ub μ' Q
theorem ifE (hc : YT X c uA) (ha : YE X a ua) (hb : YE X b ub) : YE X (.IfExp c a b pos) (uIf uA ua ub) := by
  obtain ⟨tc, qc, rc⟩ := hc; obtain ⟨t, q, r⟩ := ha; obtain ⟨t', q', r'⟩ := hb
  refine ⟨_, Z.ifE qc q q', fun F ad B σ H μ Q Qt hK l q k => rc F ad B σ H μ _ _ hK l q fun b H' μ' l1 f k1 q1 => ?_⟩
  cases b with
  | true => rw [if_pos rfl] at q1 ⊢; exact r F ad B σ H' μ' _ _ hK l1 q1 fun v2 H2 r2 μ2 v3 f2 k2 q2 => k v2 H2 r2 μ2 v3 (f.trans f2) (k1.trans k2) q2
  | false => rw [if_neg Bool.false_ne_true] at q1 ⊢; exact r' F ad B σ H' μ' _ _ hK l1 q1 fun v2 H2 r2 μ2 v3 f2 k2 q2 => k v2 H2 r2 μ2 v3 (f.trans f2) (k1.trans k2) q2
noncomputable def uNeg (ue : UE) : UE := fun μ Q => ue μ fun r μ' => match r with
  | .tr (.int i) => Q (.tr (.int (-i))) μ'
  | _ => False
theorem neg (ha : YE X a ua) : YE X (.UnaryOp .USub a pos) (uNeg ua) := by
  obtain ⟨t, q, r⟩ := ha
  refine ⟨_, Z.un un_neg q, fun F ad B σ H μ Q Qt hK l q k => r F ad B σ H μ _ _ hK l q fun v H' r1 μ' v1 f k1 q1 => ?_⟩
  split at q1
  · have rp := v1.2
    cases rp
    exact ⟨_, rfl, k _ H' _ μ' (Vr.flat v1.rl (.int _)) f.d k1 q1⟩
  · exact q1.elim
noncomputable def uNil : UA := fun μ Q => Q [] μ
noncomputable def uCons (ue : UE) (us : UA) : UA := fun μ Q => ue μ fun r μ1 => us μ1 fun rs μ2 => Q (r.d :: rs) μ2
noncomputable def uK (ts : List T) : UA := fun μ Q => Q (ts.map R.tr) μ
theorem nil : YA X [] uNil := ⟨_, Z.nil, fun F ad B σ H μ Q Qt hK l q k => k [] H [] μ l .nil Fr.refl (Kp.refl μ) q⟩
theorem cons (ha : YE X e ue) (hr : YA X es us) (h : autoParam (nst e = true) L2.aRfl._auto_1) : YA X (e :: es) (uCons ue us) := by
  obtain ⟨t, q, r⟩ := ha; obtain ⟨t', q', r'⟩ := hr
  exact ⟨_, Z.cons q q' h, fun F ad B σ H μ Q Qt hK l q k => r F ad B σ H μ _ _ hK l q fun v H' r1 μ' v1 f k1 q1 => r' F ad B σ H' μ' _ _ hK v1.rl q1 fun vs H2 rs μ2 l2 ps f2 k2 q2 =>
    k (v :: vs) H2 (r1.d :: rs) μ2 l2 (.cons (v1.hv.fr f2 k2) ps) (f.d.trans f2) (k1.trans k2) q2⟩
noncomputable def conT : V → Option T
  | .non => some .non
  | .bl b => some (.bl b)
  | .int i => some (.int i)
  | .str x => some (.str x)
  | _ => none
theorem conT_rep {K : PySem.W.Frag} {H : Hp} {B : AP'} {v : V} {t : T} (h : conT v = some t) : Rep K H B v t := by
  unfold conT at h
  split at h
  · cases h; exact .non
  · cases h; exact .bl _
  · cases h; exact .int _
  · cases h; exact .str _
  · cases h
theorem consts {vs : List V} {ts : List T} (h : consV es = some vs) (h2 : vs.map conT = ts.map some) : YA X es (uK ts) := by
  refine ⟨_, Z.consts h, fun F ad B σ H μ Q Qt hK l q k => k vs H _ μ l ?_ Fr.refl (Kp.refl μ) q⟩
  clear h q k
  induction vs generalizing ts with
  | nil => cases ts with
    | nil => exact .nil
    | cons t ts => cases h2
  | cons v vs ih => cases ts with
    | nil => cases h2
    | cons t ts =>
      rw [List.map_cons, List.map_cons] at h2
      injection h2 with e1 e2
      exact .cons (conT_rep e1) (ih e2)
/-- the trees of arguments, none borrowed -/
noncomputable def trees : List R → Option (List T)
  | [] => some []
  | .tr t :: rs => (trees rs).map (t :: ·)
  | _ => none
theorem reps_of {F : Fx} {ad : Nat → Addr} {B : AP'} {H : Hp} {μ : Mu} : ∀ {vs : List V} {rs : List R} {ts : List T}, Paired (Hv F ad B H μ) vs rs → trees rs = some ts → Reps F.K H B vs ts
  | _, _, _, .nil, e => by cases e; exact .nil
  | _, r :: rs, ts, .cons h p, e => by
    cases r with
    | tr t =>
      unfold trees at e
      cases q : trees rs with
      | none => rw [q] at e; cases e
      | some us => rw [q] at e; cases e; exact .cons h (reps_of p q)
    | br i => cases e
    | fr c => cases e
noncomputable def uTup (us : UA) : UE := fun μ Q => us μ fun rs μ' => match trees rs with
  | some ts => ts.length ≤ sizeLine ∧ Q (.tr (.tup ts)) μ'
  | none => False
noncomputable def uLst (us : UA) : UE := fun μ Q => us μ fun rs μ' => match trees rs with
  | some ts => ts.length ≤ sizeLine ∧ Q (.fr (.lst ts)) μ'
  | none => False
theorem tup {k : Nat} (h : YA X es us) : YE X (.Tuple es k pos) (uTup us) := by
  obtain ⟨t, q, r⟩ := h
  refine ⟨_, Z.tup q, fun F ad B σ H μ Q Qt hK l q k => r F ad B σ H μ _ _ hK l q fun vs H' rs μ' l1 ps f k1 q1 => ?_⟩
  split at q1
  · rename_i ts e
    have rp := reps_of ps e
    exact ⟨by rw [rp.length]; exact q1.1, fun p hp => k _ _ _ μ' (Vr.newT l1 rp hp) (f.trans (Fr.same (Same.new hp))) k1 q1.2⟩
  · exact q1.elim
theorem lst (h : YA X es us) : YE X (.List es pos) (uLst us) := by
  obtain ⟨t, q, r⟩ := h
  refine ⟨_, Z.lst q, fun F ad B σ H μ Q Qt hK l q k => r F ad B σ H μ _ _ hK l q fun vs H' rs μ' l1 ps f k1 q1 => ?_⟩
  split at q1
  · rename_i ts e
    have rp := reps_of ps e
    exact ⟨by rw [rp.length]; exact q1.1, fun p hp => k _ _ _ μ' (Vr.newL l1 rp hp) (f.trans (Fr.more hp)) k1 q1.2⟩
  · exact q1.elim
noncomputable def uCB (u : UC) (us : UA) : UE := fun μ Q => us μ fun rs μ' => u rs μ' Q
theorem re_cb {K : PySem.W.Frag} {r : List V → Hp → VK → Prop} {u : UC} {t : TA} (h : RC K r u) (ha : RA K t us) : RE K (tCB r t) (uCB u us) := fun F ad B σ H μ Q Qt hK l q k =>
  ha F ad B σ H μ _ _ hK l q fun vs H' rs μ' l1 ps f k1 q1 => h F ad B σ H' μ' _ _ vs rs hK l1 ps q1 fun v H2 r2 μ2 v2 f2 k2 q2 => k v H2 r2 μ2 v2 (f.trans f2) (k1.trans k2) q2
theorem cb {id : String} {r : List V → Hp → VK → Prop} {u : UC} (hc : CallR X (.builtin id) r) (h : RC X.K r u) (hg : Gl X x) (hm : X.mg x = none) (hv : bootBuiltins x = some (.builtin id)) (ha : YA X (e :: es) us) (h1 : autoParam (nst e = true) L2.aRfl._auto_1) (h2 : autoParam (es.all nst = true) L2.aRfl._auto_1) (hn : autoParam (x ≠ "__name__") L2.aDec._auto_1) (hdb : autoParam ((x == ("__debug__" : Str)) = false) L2.aDec._auto_1) :
    YE X (.Call (.Name x p) (e :: es) [] pos) (uCB u us) := by
  obtain ⟨t, q, rr⟩ := ha
  exact ⟨_, Z.cb hc hg hm hv q h1 h2 hn hdb, re_cb h rr⟩
theorem ct {T : String} {r : List V → Hp → VK → Prop} {u : UC} (hc : CallR X (.type T) r) (h : RC X.K r u) (hg : Gl X x) (hm : X.mg x = none) (hv : bootBuiltins x = some (.type T)) (ha : YA X (e :: es) us) (h1 : autoParam (nst e = true) L2.aRfl._auto_1) (h2 : autoParam (es.all nst = true) L2.aRfl._auto_1) (hn : autoParam (x ≠ "__name__") L2.aDec._auto_1) (hdb : autoParam ((x == ("__debug__" : Str)) = false) L2.aDec._auto_1) :
    YE X (.Call (.Name x p) (e :: es) [] pos) (uCB u us) := by
  obtain ⟨t, q, rr⟩ := ha
  exact ⟨_, Z.ct hc hg hm hv q h1 h2 hn hdb, re_cb h rr⟩
noncomputable def uNoPart : UO := fun μ Q => Q none μ
noncomputable def uPart (ue : UE) : UO := fun μ Q => ue μ fun r μ' => match r with
  | .tr (.int i) => Q (some i) μ'
  | _ => False
theorem po0 : YO X none uNoPart := ⟨_, Z.po0, fun F ad B σ H μ Q Qt hK l q k => k none H μ l Fr.refl (Kp.refl μ) q⟩
theorem po1 (he : YE X e ue) : YO X (some e) (uPart ue) := by
  obtain ⟨t, q, r⟩ := he
  refine ⟨_, Z.po1 q, fun F ad B σ H μ Q Qt hK l q k => r F ad B σ H μ _ _ hK l q fun v H' r1 μ' v1 f k1 q1 => ?_⟩
  split at q1
  · have rp := v1.2
    cases rp
    exact ⟨_, rfl, k _ H' μ' v1.rl f.d k1 q1⟩
  · exact q1.elim
end
end Y
end L2

set_option linter.all false
set_option maxRecDepth 100000
set_option maxHeartbeats 4000000
namespace L2
open PySem PySem.Spec PyProof.Rows
namespace Y
/-- two values by their trees -/
noncomputable def byT (f : T → T → Mu → (R → Mu → Prop) → Prop) : U2 := fun r1 r2 μ Q => match cont μ r1, cont μ r2 with
  | some t, some u => f t u μ Q
  | _, _ => False
theorem byT_of {K : PySem.W.Frag} {r : R2} {f : T → T → Mu → (R → Mu → Prop) → Prop}
    (h : ∀ (F : Fx) (ad : Nat → Addr) (B : AP') (σ : St) (H : Hp) (μ : Mu) (Q : VK) (Qt : R → Mu → Prop) (x y : V) (t u : T), F.K = K → Rl F ad B σ H μ → Vw F.K H B x t → Vw F.K H B y u → f t u μ Qt →
      (∀ v H' r, Vr F ad B σ H' μ v r → Fr B H (Bv B v r) H' → Qt r μ → Q v H') → r x y H Q) : ROp K r (byT f) := by
  intro F ad B σ H μ Q Qt x y r1 r2 hK l h1 h2 q k
  unfold byT at q
  split at q
  · rename_i t u e1 e2
    exact h F ad B σ H μ Q Qt x y t u hK l (h1.vw l e1) (h2.vw l e2) q fun v H' r v1 s q1 => k v H' r μ v1 s (Kp.refl μ) q1
  · exact q.elim
noncomputable def tInt (C : Int → Int → Prop) (g : Int → Int → Int) : T → T → Mu → (R → Mu → Prop) → Prop := fun t u μ Q => match t, u with
  | .int i, .int j => C i j ∧ Q (.tr (.int (g i j))) μ
  | _, _ => False
theorem ro_int {K : PySem.W.Frag} {C : Int → Int → Prop} {g : Int → Int → Int} : ROp K (rI C fun i j => .int (g i j)) (byT (tInt C g)) := byT_of fun F ad B σ H μ Q Qt x y t u hK l v1 v2 q k => by
  unfold tInt at q
  split at q
  · cases v1; cases v2
    exact ⟨_, _, rfl, rfl, q.1, k _ H _ (Vr.flat l (.int _)) Fr.refl q.2⟩
  · exact q.elim
theorem ro_int0 {K : PySem.W.Frag} {g : Int → Int → Int} : ROp K (rI0 fun i j => .int (g i j)) (byT (tInt (fun _ _ => True) g)) := byT_of fun F ad B σ H μ Q Qt x y t u hK l v1 v2 q k => by
  unfold tInt at q
  split at q
  · cases v1; cases v2
    exact ⟨_, _, rfl, rfl, k _ H _ (Vr.flat l (.int _)) Fr.refl q.2⟩
  · exact q.elim
noncomputable def tBl (g : Int → Int → Bool) : T → T → Mu → (R → Mu → Prop) → Prop := fun t u μ Q => match t, u with
  | .int i, .int j => Q (.tr (.bl (g i j))) μ
  | _, _ => False
theorem ro_bl {K : PySem.W.Frag} {g : Int → Int → Bool} : ROp K (rI0 fun i j => .bl (g i j)) (byT (tBl g)) := byT_of fun F ad B σ H μ Q Qt x y t u hK l v1 v2 q k => by
  unfold tBl at q
  split at q
  · cases v1; cases v2
    exact ⟨_, _, rfl, rfl, k _ H _ (Vr.flat l (.bl _)) Fr.refl q⟩
  · exact q.elim
noncomputable def rCatG (K : PySem.W.Frag) : R2 := fun x y H Q => ∃ a b xs ys, x = .ref a ∧ y = .ref b ∧ SqT K H a xs ∧ SqT K H b ys ∧ xs.length + ys.length ≤ sizeLine ∧
  (xs = [] → Q (.ref b) H) ∧ (xs ≠ [] → ys = [] → Q (.ref a) H) ∧ (xs ≠ [] → ys ≠ [] → ∀ p, H p = none → Q (.ref p) (upd H p (.tup (xs ++ ys))))
theorem cat_tup0 {prog : Program} {w : World} {A : Around} {E : Value → Shared → Prop} {s : Shared} {t b : Addr} {ws : List Value} {Q : Value → Shared → Prop} (ht : IsTup s.heap t ([] : List Value).toArray) (hb : IsTup s.heap b ws.toArray) (h0 : Q (.ref b) s) : wpAny (model prog w) A (binaryOp .Add (.ref t) (.ref b)) Q E s := by
  obtain ⟨⟨cls, dd, data, sl⟩, ho, hc, n, hd⟩ := id ht
  obtain ⟨⟨cls2, dd2, data2, sl2⟩, ho2, hc2, n2, hd2⟩ := id hb
  simp only at hc hd hc2 hd2
  subst hc hd hc2 hd2
  exact concat_meets ⟨_, ho, rfl⟩ ⟨_, ho2, rfl⟩ noFill_tuple_add seq_tuple_add PySem.F.slot_tuple_add PySem.F.entry_tuple_add (PySem.F.args_tuple_add_2 _ _)
      (tuple_addW0 t b _ ws.toArray n n2 dd dd2 sl sl2 (by simp)) ⟨ho, ho2, h0⟩
theorem op_catG {X : Cx} : OpR X (binaryOp .Add) (rCatG X.K) := by
  intro pins s σ H x y v u Q I rx ry h
  obtain ⟨a, b, xs, ys, rfl, rfl, ha, hb, hz, q0, q1, q2⟩ := h
  by_cases hx : xs = []
  · subst hx
    cases rx; cases ry
    obtain ⟨its, r1, p1, _⟩ := I.tuple ha
    obtain ⟨its2, r2, p2, _⟩ := I.tuple hb
    cases r1
    exact cat_tup0 p1 p2 ⟨.ref b, H, I, rfl, q0 rfl⟩
  · exact op_catT pins s σ H _ _ v u Q I rx ry ⟨a, b, xs, ys, rfl, rfl, ha, hb, hx, hz, q1 hx, q2 hx⟩
noncomputable def rAddG (K : PySem.W.Frag) : R2 := fun x y H Q => (∃ i j, x = .int i ∧ y = .int j ∧ Q (.int (i + j)) H) ∨ (∃ i j, x = .str i ∧ y = .str j ∧ i.length + j.length ≤ sizeLine ∧ Q (.str (i ++ j)) H) ∨ rCat x y H Q ∨ rCatG K x y H Q
theorem op_addG {X : Cx} (K : PySem.W.Frag) (hK : X.K = K) : OpR X (binaryOp .Add) (rAddG K) := by subst hK; exact op_add.or (op_add_str.or (op_cat.or op_catG))
/-- the tree itself, where it is no box -/
noncomputable def rep_of {F : Fx} {ad : Nat → Addr} {B : AP'} {H : Hp} {μ : Mu} {v : V} {t : T} (h : Hv F ad B H μ v (.tr t)) : Rep F.K H B v t := h
noncomputable def uAdd : U2 := fun r1 r2 μ Q => match cont μ r1, cont μ r2 with
  | some (.int i), some (.int j) => Q (.tr (.int (i + j))) μ
  | some (.str i), some (.str j) => i.length + j.length ≤ sizeLine ∧ Q (.tr (.str (i ++ j))) μ
  | some (.lst xs), some (.lst ys) => xs.length + ys.length ≤ sizeLine ∧ Q (.fr (.lst (xs ++ ys))) μ
  | some (.tup xs), some (.tup ys) => xs.length + ys.length ≤ sizeLine ∧ Q (.tr (.tup (xs ++ ys))) μ
  | _, _ => False
theorem Hv.tupR {F : Fx} {ad : Nat → Addr} {B : AP'} {σ : St} {H : Hp} {μ : Mu} {v : V} {r : R} {xs : List T} (l : Rl F ad B σ H μ) (h : Hv F ad B H μ v r) (e : cont μ r = some (.tup xs)) : Rep F.K H B v (.tup xs) := by
  cases r with
  | tr t => cases e; exact h
  | br i =>
    obtain ⟨rfl, s, c, h1, h2⟩ := h
    have e2 : (μ[i]?).bind Sl.box = some (.tup xs) := e
    rw [h1] at e2
    have e' : s.box = some (.tup xs) := e2
    obtain ⟨ts, vs, z, _⟩ := ((l.slot i s h1).boxed e').2.2.1.lstIs
    cases z
  | fr c => exact h.elim
theorem ro_add {K : PySem.W.Frag} : ROp K (rAddG K) uAdd := by
  intro F ad B σ H μ Q Qt x y r1 r2 hK l h1 h2 q k
  subst hK
  unfold uAdd at q
  split at q
  · rename_i i j e1 e2
    have a := h1.vw l e1; have b := h2.vw l e2
    cases a; cases b
    exact .inl ⟨_, _, rfl, rfl, k _ H _ μ (Vr.flat l (.int _)) Fr.refl (Kp.refl μ) q⟩
  · rename_i i j e1 e2
    have a := h1.vw l e1; have b := h2.vw l e2
    cases a; cases b
    exact .inr (.inl ⟨_, _, rfl, rfl, q.1, k _ H _ μ (Vr.flat l (.str _)) Fr.refl (Kp.refl μ) q.2⟩)
  · rename_i xs ys e1 e2
    have a := h1.vw l e1; have b := h2.vw l e2
    cases a with
    | lst ha ra => cases b with
      | lst hb rb => exact .inr (.inr (.inl ⟨_, _, _, _, rfl, rfl, ha, hb, by rw [ra.length, rb.length]; exact q.1, fun p hp => k _ _ _ μ (Vr.newL l (ra.append rb) hp) (Fr.more hp) (Kp.refl μ) q.2⟩))
  · rename_i xs ys e1 e2
    have a := Hv.tupR l h1 e1; have b := Hv.tupR l h2 e2
    have a' := a; have b' := b
    cases a with
    | tup na ha ra => cases b with
      | tup nb hb rb =>
        refine .inr (.inr (.inr ⟨_, _, _, _, rfl, rfl, SqT.of ha, SqT.of hb, by rw [ra.length, rb.length]; exact q.1, fun z => ?_, fun z1 z2 => ?_, fun z1 z2 p hp => k _ _ _ μ (Vr.newT l (ra.append rb) hp) (Fr.same (Same.new hp)) (Kp.refl μ) q.2⟩))
        · subst z
          cases ra
          exact k _ H _ μ (Vr.flat l b') Fr.refl (Kp.refl μ) q.2
        · subst z2
          cases rb
          have q2 := q.2
          rw [List.append_nil] at q2
          exact k _ H _ μ (Vr.flat l a') Fr.refl (Kp.refl μ) q2
  · exact q.elim
noncomputable def uIxT : U2 := fun r1 r2 μ Q => match cont μ r1, cont μ r2 with
  | some (.lst xs), some (.int i) => (match atI xs i with | some t => Q (.tr t) μ | none => False)
  | some (.tup xs), some (.int i) => (match atI xs i with | some t => Q (.tr t) μ | none => False)
  | some (.ktp xs), some (.int i) => (match atI xs i with | some t => Q (.tr t) μ | none => False)
  | some (.str z), some (.int i) => z.length ≤ sizeLine ∧ (match atI z.cps.toList i with | some c => Q (.tr (.str ⟨#[c]⟩)) μ | none => False)
  | _, _ => False
theorem ix_G {X : Cx} (K : PySem.W.Frag) (hK : X.K = K) : IxR X (rIx K) := by subst hK; exact ix_seq
theorem ro_ix {K : PySem.W.Frag} : ROp K (rIx K) uIxT := by
  intro F ad B σ H μ Q Qt x y r1 r2 hK l h1 h2 q k
  subst hK
  unfold uIxT at q
  split at q
  · rename_i xs j e1 e2
    have a := h1.vw l e1; have b := h2.vw l e2
    cases b
    split at q
    · rename_i t e3
      cases a with
      | lst ha ra =>
        obtain ⟨v, e4, rv⟩ := ra.atI e3
        exact .inl ⟨_, _, _, v, rfl, rfl, SqL.of ha, e4, k _ H _ μ (Vr.flat l rv) Fr.refl (Kp.refl μ) q⟩
    · exact q.elim
  · rename_i xs j e1 e2
    have a := h1.vw l e1; have b := h2.vw l e2
    cases b
    split at q
    · rename_i t e3
      cases a with
      | tup ha ra =>
        obtain ⟨v, e4, rv⟩ := ra.atI e3
        exact .inr (.inl ⟨_, _, _, v, rfl, rfl, SqT.of ha, e4, k _ H _ μ (Vr.flat l rv) Fr.refl (Kp.refl μ) q⟩)
    · exact q.elim
  · rename_i xs j e1 e2
    have a := h1.vw l e1; have b := h2.vw l e2
    cases b
    split at q
    · rename_i t e3
      cases a with
      | ktp ha ra =>
        obtain ⟨v, e4, rv⟩ := ra.atI e3
        exact .inr (.inl ⟨_, _, _, v, rfl, rfl, .inr ha, e4, k _ H _ μ (Vr.flat l rv) Fr.refl (Kp.refl μ) q⟩)
    · exact q.elim
  · rename_i xs j e1 e2
    have a := h1.vw l e1; have b := h2.vw l e2
    cases b
    cases a
    obtain ⟨q0, q⟩ := q
    split at q
    · rename_i t e3
      exact .inr (.inr ⟨_, _, _, rfl, rfl, q0, e3, k _ H _ μ (Vr.flat l (.str _)) Fr.refl (Kp.refl μ) q⟩)
    · exact q.elim
  · exact q.elim
noncomputable def tIsN (neg : Bool) : T → T → Mu → (R → Mu → Prop) → Prop := fun t u μ Q => match u with
  | .non => Q (.tr (.bl (match t with | .non => !neg | _ => neg))) μ
  | _ => False
theorem ro_isN {K : PySem.W.Frag} : ROp K (fun x y H Q => y = .non ∧ Q (.bl (decide (x = .non))) H) (byT (tIsN false)) := byT_of fun F ad B σ H μ Q Qt x y t u hK l v1 v2 q k => by
  unfold tIsN at q
  split at q
  · cases v2
    refine ⟨rfl, ?_⟩
    cases v1 <;> exact k _ H _ (Vr.flat l (.bl _)) Fr.refl q
  · exact q.elim
theorem ro_notN {K : PySem.W.Frag} : ROp K (fun x y H Q => y = .non ∧ Q (.bl (!decide (x = .non))) H) (byT (tIsN true)) := byT_of fun F ad B σ H μ Q Qt x y t u hK l v1 v2 q k => by
  unfold tIsN at q
  split at q
  · cases v2
    refine ⟨rfl, ?_⟩
    cases v1 <;> exact k _ H _ (Vr.flat l (.bl _)) Fr.refl q
  · exact q.elim
noncomputable def eqF : T → T → Bool
  | .non, .non => true
  | .bl a, .bl b => a == b
  | .bl a, .int b => (if a then 1 else 0) == b
  | .int a, .bl b => a == (if b then 1 else 0)
  | .int a, .int b => a == b
  | .str a, .str b => a == b
  | _, _ => false
noncomputable def eqFs (xs ys : List T) : Bool := xs.length == ys.length && (List.range (min xs.length ys.length)).all fun j => match xs[j]?, ys[j]? with
  | some x, some y => eqF x y
  | _, _ => true
theorem eqF_V {K : PySem.W.Frag} {H : Hp} {B : AP'} {x y : V} {t u : T} (h1 : Rep K H B x t) (h2 : Rep K H B y u) (f1 : flatT t = true) (f2 : flatT u = true) : flatV x = true ∧ flatV y = true ∧ eqV x y = eqF t u := by
  cases h1 <;> first | (cases f1; done) | (cases h2 <;> first | (cases f2; done) | exact ⟨rfl, rfl, rfl⟩)
/-- what two lists or two tuples of flat items are worth against each other -/
noncomputable def rEqL (K : PySem.W.Frag) (neg : Bool) : R2 := fun x y H Q => ∃ a b xs ys, x = .ref a ∧ y = .ref b ∧ ((SqL K H a xs ∧ SqL K H b ys) ∨ (SqT K H a xs ∧ SqT K H b ys)) ∧ xs.all flatV = true ∧ ys.all flatV = true ∧
  ∀ c, c = (xs.length == ys.length && (List.range (min xs.length ys.length)).all fun j => match xs[j]?, ys[j]? with | some x, some y => eqV x y | _, _ => true) → Q (.bl (if neg then !c else c)) H
theorem op_eqL {X : Cx} (hu : X.A.units < cLine) : OpR X (compareOp .Eq) (rEqL X.K false) := by
  intro pins s σ H x y v u Q I rx ry h
  obtain ⟨a, b, xs, ys, rfl, rfl, hq, fx, fy, q⟩ := h
  cases rx; cases ry
  have item : ∀ (its its2 : List Value), Vals xs its → Vals ys its2 → ∀ j (h1 : j < its.toArray.size) (h2 : j < its2.toArray.size), SeqAt.EqAt X.A.in1 s its.toArray[j] its2.toArray[j] (match xs[j]?, ys[j]? with | some x, some y => eqV x y | _, _ => true) := fun its its2 r1 r2 j h1 h2 => by
    have l1 := r1.length; have l2 := r2.length
    rw [List.size_toArray] at h1 h2
    obtain ⟨u1, e1, g1⟩ := r1.get (i := j) (x := xs[j]) (List.getElem?_eq_getElem (by omega))
    obtain ⟨u2, e2, g2⟩ := r2.get (i := j) (x := ys[j]) (List.getElem?_eq_getElem (by omega))
    rw [List.getElem?_eq_getElem (show j < xs.length by omega), List.getElem?_eq_getElem (show j < ys.length by omega)]
    have z1 : its.toArray[j] = u1 := by
      rw [List.getElem?_eq_getElem h1] at e1; simpa using e1
    have z2 : its2.toArray[j] = u2 := by
      rw [List.getElem?_eq_getElem h2] at e2; simpa using e2
    rw [z1, z2]
    exact eqAt_V g1 g2 (List.all_eq_true.mp fx _ (List.getElem_mem _)) (List.all_eq_true.mp fy _ (List.getElem_mem _))
  rcases hq with ⟨ha, hb⟩ | ⟨ha, hb⟩
  · obtain ⟨its, r1, p1, _⟩ := I.list ha
    obtain ⟨its2, r2, p2, _⟩ := I.list hb
    have l1 := r1.length; have l2 := r2.length
    by_cases e : xs.length = ys.length
    · refine SeqAt.eq_listAt p1.isList p2.isList (by rw [List.size_toArray, List.size_toArray]; omega) hu (item its its2 r1 r2) ⟨.bl _, H, I, rfl, q _ ?_⟩
      rw [List.size_toArray, ← l1, ← e, Nat.min_self, beq_self_eq_true, Bool.true_and]
    · refine SeqAt.eq_list_lengthsAt p1.isList p2.isList (by rw [List.size_toArray, List.size_toArray, bne_iff_ne]; omega) hu ⟨.bl _, H, I, rfl, q _ ?_⟩
      rw [beq_eq_false_iff_ne.mpr e, Bool.false_and]
  · obtain ⟨its, r1, p1, _⟩ := I.tuple ha
    obtain ⟨its2, r2, p2, _⟩ := I.tuple hb
    have l1 := r1.length; have l2 := r2.length
    refine SeqAt.eq_tupleAt p1 p2 hu (item its its2 r1 r2) ⟨.bl _, H, I, rfl, q _ ?_⟩
    rw [List.size_toArray, List.size_toArray, ← l1, ← l2, Bool.and_comm]
    rfl

theorem reps_flat {K : PySem.W.Frag} {H : Hp} {B : AP'} : ∀ {xs : List V} {ts : List T}, Reps K H B xs ts → ts.all flatT = true → xs.all flatV = true
  | _, _, .nil, _ => rfl
  | _, _, .cons h r, f => by
    rw [List.all_cons, Bool.and_eq_true] at f ⊢
    refine ⟨?_, reps_flat r f.2⟩
    have f1 := f.1
    cases h <;> first | rfl | cases f1
theorem eqFs_V {K : PySem.W.Frag} {H : Hp} {B : AP'} {xs ys : List V} {ts us : List T} (h1 : Reps K H B xs ts) (h2 : Reps K H B ys us) (f1 : ts.all flatT = true) (f2 : us.all flatT = true) :
    eqFs ts us = (xs.length == ys.length && (List.range (min xs.length ys.length)).all fun j => match xs[j]?, ys[j]? with | some x, some y => eqV x y | _, _ => true) := by
  unfold eqFs
  have l1 := h1.length; have l2 := h2.length
  rw [l1, l2]
  congr 1
  refine List.all_congr rfl ?_ |>.symm
  intro j
  cases a1 : ts[j]? with
  | none =>
    have : xs[j]? = none := List.getElem?_eq_none_iff.mpr (by have := List.getElem?_eq_none_iff.mp a1; omega)
    rw [this]
  | some t =>
    obtain ⟨v1, e1, r1⟩ := h1.get a1
    rw [e1]
    cases a2 : us[j]? with
    | none =>
      have : ys[j]? = none := List.getElem?_eq_none_iff.mpr (by have := List.getElem?_eq_none_iff.mp a2; omega)
      rw [this]
    | some u =>
      obtain ⟨v2, e2, r2⟩ := h2.get a2
      rw [e2]
      exact (eqF_V r1 r2 (List.all_eq_true.mp f1 _ (List.mem_of_getElem? a1)) (List.all_eq_true.mp f2 _ (List.mem_of_getElem? a2))).2.2
noncomputable def rEqG (K : PySem.W.Frag) : R2 := fun x y H Q => rEq x y H Q ∨ rEqL K false x y H Q
theorem op_eqG {X : Cx} (K : PySem.W.Frag) (hK : X.K = K) (hu : X.A.units < cLine) : OpR X (compareOp .Eq) (rEqG K) := by subst hK; exact op_eq.or (op_eqL hu)
/-- flat trees of one kind -/
noncomputable def tEq (neg : Bool) : T → T → Mu → (R → Mu → Prop) → Prop := fun t u μ Q => match t, u with
  | .int i, .int j => Q (.tr (.bl (if neg then !decide (i = j) else decide (i = j)))) μ
  | .str i, .str j => Q (.tr (.bl (if neg then !decide (i = j) else decide (i = j)))) μ
  | .bl i, .bl j => Q (.tr (.bl (if neg then !decide (i = j) else decide (i = j)))) μ
  | .lst xs, .lst ys => neg = false ∧ xs.all flatT = true ∧ ys.all flatT = true ∧ Q (.tr (.bl (eqFs xs ys))) μ
  | .tup xs, .tup ys => neg = false ∧ xs.all flatT = true ∧ ys.all flatT = true ∧ Q (.tr (.bl (eqFs xs ys))) μ
  | _, _ => False
theorem dV {α : Type} [DecidableEq α] {f : α → V} (hf : ∀ a b, f a = f b → a = b) (a b : α) : decide (f a = f b) = decide (a = b) := by
  rw [decide_eq_decide]; exact ⟨hf a b, fun h => by rw [h]⟩
theorem ro_eq {K : PySem.W.Frag} : ROp K (rEqG K) (byT (tEq false)) := byT_of fun F ad B σ H μ Q Qt x y t u hK l v1 v2 q k => by
  subst hK
  unfold tEq at q
  split at q
  · cases v1; cases v2
    refine .inl ⟨rfl, ?_⟩
    rw [dV (f := V.int) (fun a b h => by injection h)]
    exact k _ H _ (Vr.flat l (.bl _)) Fr.refl q
  · cases v1; cases v2
    refine .inl ⟨rfl, ?_⟩
    rw [dV (f := V.str) (fun a b h => by injection h)]
    exact k _ H _ (Vr.flat l (.bl _)) Fr.refl q
  · cases v1; cases v2
    refine .inl ⟨rfl, ?_⟩
    rw [dV (f := V.bl) (fun a b h => by injection h)]
    exact k _ H _ (Vr.flat l (.bl _)) Fr.refl q
  · cases v1 with
    | lst ha ra => cases v2 with
      | lst hb rb => exact .inr ⟨_, _, _, _, rfl, rfl, .inl ⟨SqL.of ha, SqL.of hb⟩, reps_flat ra q.2.1, reps_flat rb q.2.2.1, fun c hc => by
          rw [← eqFs_V ra rb q.2.1 q.2.2.1] at hc
          subst hc
          exact k _ H _ (Vr.flat l (.bl _)) Fr.refl q.2.2.2⟩
  · cases v1 with
    | tup ha ra => cases v2 with
      | tup hb rb => exact .inr ⟨_, _, _, _, rfl, rfl, .inr ⟨SqT.of ha, SqT.of hb⟩, reps_flat ra q.2.1, reps_flat rb q.2.2.1, fun c hc => by
          rw [← eqFs_V ra rb q.2.1 q.2.2.1] at hc
          subst hc
          exact k _ H _ (Vr.flat l (.bl _)) Fr.refl q.2.2.2⟩
  · exact q.elim
noncomputable def by1 (f : T → Mu → (R → Mu → Prop) → Prop) : UC := fun rs μ Q => match rs with
  | [r] => (match cont μ r with | some t => f t μ Q | none => False)
  | _ => False
theorem by1_of {K : PySem.W.Frag} {r : List V → Hp → VK → Prop} {f : T → Mu → (R → Mu → Prop) → Prop}
    (h : ∀ (F : Fx) (ad : Nat → Addr) (B : AP') (σ : St) (H : Hp) (μ : Mu) (Q : VK) (Qt : R → Mu → Prop) (x : V) (t : T), F.K = K → Rl F ad B σ H μ → Vw F.K H B x t → f t μ Qt →
      (∀ v H' r, Vr F ad B σ H' μ v r → Fr B H (Bv B v r) H' → Qt r μ → Q v H') → r [x] H Q) : RC K r (by1 f) := by
  intro F ad B σ H μ Q Qt xs rs hK l p q k
  unfold by1 at q
  split at q
  · split at q
    · rename_i r0 _ t e
      cases p with
      | cons h1 p => cases p; exact h F ad B σ H μ Q Qt _ t hK l (h1.vw l e) q fun v H' r v1 s q1 => k v H' r μ v1 s (Kp.refl μ) q1
    · exact q.elim
  · exact q.elim
noncomputable def tLen : T → Mu → (R → Mu → Prop) → Prop := fun t μ Q => match t with
  | .lst xs => Q (.tr (.int xs.length)) μ
  | .tup xs => Q (.tr (.int xs.length)) μ
  | .rol xs => Q (.tr (.int xs.length)) μ
  | .ktp xs => Q (.tr (.int xs.length)) μ
  | .str z => z.length ≤ sizeLine ∧ Q (.tr (.int z.length)) μ
  | _ => False
noncomputable def rLenG (K : PySem.W.Frag) : List V → Hp → VK → Prop := fun xs H Q => (∃ p ys, xs = [.ref p] ∧ (SqL K H p ys ∨ SqT K H p ys) ∧ Q (.int ys.length) H) ∨ (∃ z, xs = [.str z] ∧ z.length ≤ sizeLine ∧ Q (.int z.length) H)
theorem call_lenG {X : Cx} (K : PySem.W.Frag) (hK : X.K = K) : CallR X (.builtin "len") (rLenG K) := by subst hK; exact call_len_seq.or call_len_str
theorem rc_len {K : PySem.W.Frag} : RC K (rLenG K) (by1 tLen) := by1_of fun F ad B σ H μ Q Qt x t hK l v1 q k => by
  subst hK
  unfold tLen at q
  split at q
  · cases v1 with
    | lst ha ra => exact .inl ⟨_, _, rfl, .inl (SqL.of ha), by rw [ra.length]; exact k _ H _ (Vr.flat l (.int _)) Fr.refl q⟩
  · cases v1 with
    | tup ha ra => exact .inl ⟨_, _, rfl, .inr (SqT.of ha), by rw [ra.length]; exact k _ H _ (Vr.flat l (.int _)) Fr.refl q⟩
  · cases v1 with
    | rol ha ra => exact .inl ⟨_, _, rfl, .inl ha, by rw [ra.length]; exact k _ H _ (Vr.flat l (.int _)) Fr.refl q⟩
  · cases v1 with
    | ktp ha ra => exact .inl ⟨_, _, rfl, .inr (.inr ha), by rw [ra.length]; exact k _ H _ (Vr.flat l (.int _)) Fr.refl q⟩
  · cases v1
    exact .inr ⟨_, rfl, q.1, k _ H _ (Vr.flat l (.int _)) Fr.refl q.2⟩
  · exact q.elim
/-- tuple(x): of a list; of a tuple that one has -/
noncomputable def uTuple : UC := fun rs μ Q => match rs with
  | [r] => (match cont μ r with
    | some (.lst xs) => Q (.tr (.tup xs)) μ
    | some (.tup xs) => Q (.tr (.tup xs)) μ
    | _ => False)
  | _ => False
noncomputable def rTupG (K : PySem.W.Frag) : List V → Hp → VK → Prop := fun xs H Q => ∃ p ys, xs = [.ref p] ∧ ((SqL K H p ys ∧ ∀ l, H l = none → Q (.ref l) (upd H l (.tup ys))) ∨ (SqT K H p ys ∧ Q (.ref p) H))
theorem call_tupG {X : Cx} (K : PySem.W.Frag) (hK : X.K = K) : CallR X (.type "tuple") (rTupG K) := by subst hK; exact call_tuple_of
theorem rc_tuple {K : PySem.W.Frag} : RC K (rTupG K) uTuple := by
  intro F ad B σ H μ Q Qt xs rs hK l p q k
  subst hK
  unfold uTuple at q
  split at q
  · cases p with
    | cons h1 p =>
      cases p
      split at q
      · rename_i e
        have v1 := h1.vw l e
        cases v1 with
        | lst ha ra => exact ⟨_, _, rfl, .inl ⟨SqL.of ha, fun p hp => k _ _ _ μ (Vr.newT l ra hp) (Fr.same (Same.new hp)) (Kp.refl μ) q⟩⟩
      · rename_i e
        have rp := Hv.tupR l h1 e
        have rp' := rp
        cases rp with
        | tup na ha ra => exact ⟨_, _, rfl, .inr ⟨SqT.of ha, k _ H _ μ (Vr.flat l rp') Fr.refl (Kp.refl μ) q⟩⟩
      · exact q.elim
  · exact q.elim
/-- list(x) -/
noncomputable def tList : T → Mu → (R → Mu → Prop) → Prop := fun t μ Q => match t with
  | .lst xs => Q (.fr (.lst xs)) μ
  | .tup xs => Q (.fr (.lst xs)) μ
  | .rol xs => Q (.fr (.lst xs)) μ
  | .rng lo hi => (hi - lo).toNat ≤ 65536 ∧ -(2 ^ 62) ≤ lo ∧ lo < 2 ^ 62 ∧ -(2 ^ 62) ≤ hi ∧ hi < 2 ^ 62 ∧ Q (.fr (.lst ((List.range (hi - lo).toNat).map fun k => T.int (lo + (k : Nat))))) μ
  | _ => False
noncomputable def rListG (K : PySem.W.Frag) : List V → Hp → VK → Prop := fun xs H Q => (∃ p ys, xs = [.ref p] ∧ (SqL K H p ys ∨ SqT K H p ys) ∧ ∀ l, H l = none → Q (.ref l) (upd H l (.lst ys))) ∨
  (∃ p lo hi, xs = [.ref p] ∧ H p = some (.rng lo hi) ∧ (hi - lo).toNat ≤ 65536 ∧ -(2 ^ 62) ≤ lo ∧ lo < 2 ^ 62 ∧ -(2 ^ 62) ≤ hi ∧ hi < 2 ^ 62 ∧ ∀ l, H l = none → Q (.ref l) (upd H l (.lst ((List.range (hi - lo).toNat).map fun k => V.int (lo + (k : Nat))))))
theorem vals_of_items {lo : Int} : ∀ (n : Nat) (acc : List Value) (k : Nat), acc.length = n → (∀ j v, acc[j]? = some v → ∃ t, v = Value.int (lo + ((k + j : Nat) : Int)) t) → Vals ((List.range' k n).map fun k => V.int (lo + (k : Nat))) acc
  | 0, acc, k, h, _ => by cases acc with | nil => exact .nil | cons a b => cases h
  | n + 1, [], k, h, _ => by cases h
  | n + 1, a :: acc, k, h, g => by
    rw [List.range'_succ, List.map_cons]
    refine .cons ?_ (vals_of_items n acc (k + 1) (by simpa using h) fun j v e => ?_)
    · obtain ⟨t, e⟩ := g 0 a rfl
      exact ⟨t, by simpa using e⟩
    · obtain ⟨t, e2⟩ := g (j + 1) v (by simpa using e)
      exact ⟨t, by rw [e2]; congr 2; omega⟩
theorem call_listR {X : Cx} (hc : X.calm = true) : CallR X (.type "list") (fun xs H Q => ∃ p lo hi, xs = [.ref p] ∧ H p = some (.rng lo hi) ∧ (hi - lo).toNat ≤ 65536 ∧ -(2 ^ 62) ≤ lo ∧ lo < 2 ^ 62 ∧ -(2 ^ 62) ≤ hi ∧ hi < 2 ^ 62 ∧ ∀ l, H l = none → Q (.ref l) (upd H l (.lst ((List.range (hi - lo).toNat).map fun k => V.int (lo + (k : Nat)))))) := by
  intro pins s σ H xs us Q I r h
  obtain ⟨p, lo, hi, rfl, hp, hn, h1, h2, h3, h4, q⟩ := h
  obtain ⟨u, rfl, rx⟩ := vals1 r
  cases rx
  obtain ⟨t, u, v, e⟩ := I.hok p _ hp
  have hn2 : Builtin.Range.rangeSize lo hi 1 = ((hi - lo).toNat : Nat) := by rw [rangeSize_one]; split <;> omega
  refine call_list_range (n := (hi - lo).toNat) (I.ok.hd hc) e (small_one h1 h2 h3 h4) hn2 (by omega) fun h' tk acc c' hk hS hI => ?_
  have hv : Vals ((List.range (hi - lo).toNat).map fun k => V.int (lo + (k : Nat))) acc.toList := by
    rw [List.range_eq_range']
    refine vals_of_items _ _ 0 (by simpa using hI.1) fun j v e => ?_
    obtain ⟨t, e2⟩ := hI.2 j v (by simpa using e)
    exact ⟨t, by rw [e2]; simp⟩
  refine ⟨.ref s.heap.objs.size, _, I.laid (t' := tk) hk (Nat.le_refl _) (show ObjOk X.prog X.w _ h' _ (.lst _) from ⟨?_, acc.toList, c', hv, by simpa using hS⟩), rfl, q _ (I.hok.fresh (Nat.le_refl _))⟩
  rw [List.length_map, List.length_range]
  exact Nat.le_trans hn (by decide)
theorem call_listG {X : Cx} (K : PySem.W.Frag) (hK : X.K = K) (hc : X.calm = true) : CallR X (.type "list") (rListG K) := by subst hK; exact call_list_of.or (call_listR hc)
theorem reps_range {K : PySem.W.Frag} {H : Hp} {B : AP'} {lo : Int} : ∀ l : List Nat, Reps K H B (l.map fun k => V.int (lo + (k : Nat))) (l.map fun k => T.int (lo + (k : Nat)))
  | [] => .nil
  | k :: l => .cons (.int _) (reps_range l)
theorem rc_list {K : PySem.W.Frag} : RC K (rListG K) (by1 tList) := by1_of fun F ad B σ H μ Q Qt x t hK l v1 q k => by
  subst hK
  unfold tList at q
  split at q
  · cases v1 with
    | lst ha ra => exact .inl ⟨_, _, rfl, .inl (SqL.of ha), fun p hp => k _ _ _ (Vr.newL l ra hp) (Fr.more hp) q⟩
  · cases v1 with
    | tup ha ra => exact .inl ⟨_, _, rfl, .inr (SqT.of ha), fun p hp => k _ _ _ (Vr.newL l ra hp) (Fr.more hp) q⟩
  · cases v1 with
    | rol ha ra => exact .inl ⟨_, _, rfl, .inl ha, fun p hp => k _ _ _ (Vr.newL l ra hp) (Fr.more hp) q⟩
  · cases v1 with
    | rng ha => exact .inr ⟨_, _, _, rfl, ha, q.1, q.2.1, q.2.2.1, q.2.2.2.1, q.2.2.2.2.1, fun p hp => k _ _ _ (Vr.newL l (reps_range _) hp) (Fr.more hp) q.2.2.2.2.2⟩
  · exact q.elim
/-- range(a), range(a, b) as values -/
noncomputable def uRange : UC := fun rs μ Q => match rs with
  | [.tr (.int j)] => Q (.tr (.rng 0 j)) μ
  | [.tr (.int i), .tr (.int j)] => Q (.tr (.rng i j)) μ
  | _ => False
noncomputable def rRangeG : List V → Hp → VK → Prop := fun xs H Q => (∃ j, xs = [.int j] ∧ ∀ p, H p = none → Q (.ref p) (upd H p (.rng 0 j))) ∨ (∃ i j, xs = [.int i, .int j] ∧ ∀ p, H p = none → Q (.ref p) (upd H p (.rng i j)))
theorem call_rangeG {X : Cx} : CallR X (.type "range") rRangeG := by
  intro pins s σ H xs us Q I r h
  rcases h with ⟨j, rfl, q⟩ | ⟨i, j, rfl, q⟩
  · obtain ⟨u, rfl, t, rfl⟩ := vals1 r
    refine call_range_1 ?_
    exact ⟨.ref s.heap.objs.size, _, I.laid (o := .rng 0 j) (fun b ob q => Heap.get?_push_of_some _ q) (Nat.le_refl _) (show ObjOk X.prog X.w _ _ _ (.rng 0 j) from ⟨_, _, _, Heap.get?_push_size _ rfl⟩), rfl, q _ (I.hok.fresh (Nat.le_refl _))⟩
  · obtain ⟨u, w', rfl, ⟨t, rfl⟩, ⟨t', rfl⟩⟩ := vals2 r
    refine call_range_2 ?_
    exact ⟨.ref s.heap.objs.size, _, I.laid (o := .rng i j) (fun b ob q => Heap.get?_push_of_some _ q) (Nat.le_refl _) (show ObjOk X.prog X.w _ _ _ (.rng i j) from ⟨_, _, _, Heap.get?_push_size _ rfl⟩), rfl, q _ (I.hok.fresh (Nat.le_refl _))⟩
theorem rc_range {K : PySem.W.Frag} : RC K rRangeG uRange := by
  intro F ad B σ H μ Q Qt xs rs hK l p q k
  have fin : ∀ lo hi p, H p = none → Vr F ad B σ (upd H p (.rng lo hi)) μ (.ref p) (.tr (.rng lo hi)) := fun lo hi p hp => ⟨l.same (Same.new hp), .rng (l.notB hp) upd_same⟩
  unfold uRange at q
  split at q
  · cases p with
    | cons h1 p => cases p; cases rep_of h1; exact .inl ⟨_, rfl, fun p hp => k _ _ _ μ (fin _ _ p hp) (Fr.same (Same.new hp)) (Kp.refl μ) q⟩
  · cases p with
    | cons h1 p => cases p with
      | cons h2 p => cases p; cases rep_of h1; cases rep_of h2; exact .inr ⟨_, _, rfl, fun p hp => k _ _ _ μ (fin _ _ p hp) (Fr.same (Same.new hp)) (Kp.refl μ) q⟩
  · exact q.elim
/-- of two ints -/
noncomputable def uII (g : Int → Int → Int) : UC := fun rs μ Q => match rs with
  | [.tr (.int i), .tr (.int j)] => Q (.tr (.int (g i j))) μ
  | _ => False
theorem rc_ii {K : PySem.W.Frag} {r : List V → Hp → VK → Prop} {g : Int → Int → Int} (h : ∀ i j H Q, Q (.int (g i j)) H → r [.int i, .int j] H Q) : RC K r (uII g) := by
  intro F ad B σ H μ Q Qt xs rs hK l p q k
  unfold uII at q
  split at q
  · cases p with
    | cons h1 p => cases p with
      | cons h2 p => cases p; cases rep_of h1; cases rep_of h2; exact h _ _ _ _ (k _ H _ μ (Vr.flat l (.int _)) Fr.refl (Kp.refl μ) q)
  · exact q.elim
theorem rc_max {K : PySem.W.Frag} : RC K uMax (uII fun i j => if j > i then j else i) := rc_ii fun i j H Q q => q
noncomputable def uIntG : UC := fun rs μ Q => match rs with
  | [.tr (.int i)] => Q (.tr (.int i)) μ
  | [.tr (.bl k)] => Q (.tr (.int (if k = true then 1 else 0))) μ
  | _ => False
theorem rc_int {K : PySem.W.Frag} : RC K uInt uIntG := by
  intro F ad B σ H μ Q Qt xs rs hK l p q k
  unfold uIntG at q
  split at q
  · cases p with
    | cons h1 p => cases p; cases rep_of h1; exact k _ H _ μ (Vr.flat l (.int _)) Fr.refl (Kp.refl μ) q
  · cases p with
    | cons h1 p => cases p; cases rep_of h1; exact k _ H _ μ (Vr.flat l (.int _)) Fr.refl (Kp.refl μ) q
  · exact q.elim
end Y
end L2

set_option linter.all false
set_option maxRecDepth 100000
set_option maxHeartbeats 4000000
namespace L2
open PySem PySem.Spec PyProof.Rows
namespace Y
noncomputable def isiT : T → String → Option Bool
  | .non, c => some (isiU "NoneType" c)
  | .bl _, c => some (isiU "bool" c)
  | .int _, c => some (isiU "int" c)
  | .str _, c => some (isiU "str" c)
  | .lst _, c => some (isiU "list" c)
  | .tup _, c => some (isiU "tuple" c)
  | _, _ => none
noncomputable def uIsi (ue : UE) (c : String) : UE := fun μ Q => ue μ fun r μ' => match cont μ' r with
  | some t => (match isiT t c with | some b => Q (.tr (.bl b)) μ' | none => False)
  | none => False
theorem Vw.ty {K : PySem.W.Frag} {H : Hp} {B : AP'} {v : V} {t : T} {c : String} {b : Bool} (h : Vw K H B v t) (e : isiT t c = some b) : ∃ s, tyU H v = some s ∧ isiU s c = b := by
  cases h with
  | non => cases e; exact ⟨_, rfl, rfl⟩
  | bl => cases e; exact ⟨_, rfl, rfl⟩
  | int => cases e; exact ⟨_, rfl, rfl⟩
  | str => cases e; exact ⟨_, rfl, rfl⟩
  | tup h r => cases e; exact ⟨_, by unfold tyU; simp only [h], rfl⟩
  | lst h r => cases e; exact ⟨_, by unfold tyU; simp only [h], rfl⟩
  | rol => cases e
  | rng => cases e
  | exc => cases e
  | exa => cases e
  | ktp => cases e
theorem Vr.vw {F : Fx} {ad : Nat → Addr} {B : AP'} {σ : St} {H : Hp} {μ : Mu} {v : V} {r : R} {t : T} (h : Vr F ad B σ H μ v r) (e : cont μ r = some t) : Vw F.K H B v t := by
  have e' : cont μ r.d = some t := by cases r <;> exact e
  exact h.hv.vw h.rl e'
section
variable {X : Cx} {a b c e o : Expr} {es rest : List Expr} {ua ub uc ue uo : UE} {uA uB : UT} {us : UA} {pos p p2 p3 : Pos} {x : Str}
theorem isi {C : String} (K : PySem.W.Frag) (hK : X.K = K) (hg : Gl X "isinstance") (hm : X.mg "isinstance" = none) (ha : YE X a ua) (hgc : Gl X x) (hmc : X.mg x = none) (hvc : bootBuiltins x = some (.type C)) (hc : autoParam (C ∈ ["bool", "int", "str", "list", "tuple", "dict"]) L2.aDec._auto_1) (h1 : autoParam (nst a = true) L2.aRfl._auto_1)
    (hnx : autoParam (x ≠ "__name__") L2.aDec._auto_1) (hdx : autoParam ((x == ("__debug__" : Str)) = false) L2.aDec._auto_1) : YE X (.Call (.Name "isinstance" p) [a, .Name x p3] [] pos) (uIsi ua C) := by
  obtain ⟨t, q, r⟩ := ha
  refine ⟨_, Z.cb (Z.k_isi K hK) hg hm PyProof.Rows.boot_isinstance (Z.cons q (Z.cons (Z.tyv hgc hmc hvc hnx hdx) Z.nil) h1) h1, fun F ad B σ H μ Q Qt hK l q k => r F ad B σ H μ _ _ hK l q fun v H' r1 μ' v1 f k1 q1 => ?_⟩
  show L2.uIsi K [v, .ty C] H' Q
  refine ⟨hc, ?_⟩
  split at q1
  · rename_i t e
    split at q1
    · rename_i b e2
      obtain ⟨s, e3, e4⟩ := Vw.ty (Vr.vw v1 e) e2
      rw [e3]
      subst e4
      exact k _ H' (.tr (.bl _)) μ' (Vr.flat v1.rl (.bl _)) f.d k1 q1
    · exact q1.elim
  · exact q1.elim
noncomputable def cutG {α : Type} (xs : List α) (lo hi : Option Int) : List α := (xs.drop (HT.sIx xs.length 0 lo)).take (HT.sIx xs.length xs.length hi - HT.sIx xs.length 0 lo)
theorem Reps.cut {K : PySem.W.Frag} {H : Hp} {B : AP'} {vs : List V} {ts : List T} (r : Reps K H B vs ts) (lo hi : Option Int) : Reps K H B (cutV vs lo hi) (cutG ts lo hi) := by
  unfold cutV cutG
  rw [r.length]
  exact (r.drop _).take _
noncomputable def rSlW (K : PySem.W.Frag) : V → Option Int → Option Int → Hp → VK → Prop := fun x lo hi H Q => ∃ a xs, x = .ref a ∧ SqT K H a xs ∧ HT.sIx xs.length 0 lo = 0 ∧ HT.sIx xs.length xs.length hi = xs.length ∧ Q (.ref a) H
theorem getItem_tuple_all {prog : Program} {w : World} {A : Around} {E : Value → Shared → Prop} {s : Shared} {t sl : Addr} {items : Array Value} {vl vu : Value} {lo hi : Option Int} {Q : Value → Shared → Prop} (ht : IsTup s.heap t items) (hs : s.heap.IsSliceOf sl vl vu .none) (pl : IsPart vl lo) (pu : IsPart vu hi)
    (h1 : HT.sIx items.size 0 lo = 0) (h2 : HT.sIx items.size items.size hi = items.size) (h : Q (.ref t) s) : wpAny (model prog w) A (getItem (.ref t) (.ref sl)) Q E s := by
  obtain ⟨os, hos, hcs, hds⟩ := id hs
  have hTs : s.TypeIs (.ref sl) "slice" := ⟨os, hos, hcs⟩
  unfold getItem
  try with_reducible refine wpAny_holding ?_
  first | refine wpAny_bind (wpAny_pure ?_) | skip
  refine wpAny_bind (wpAny_sequenceKey ht.typeIs (by decide) ?_)
  refine wpAny_bind (wpAny_callSpecial?_slot (name := Str.ofString "__getitem__") ht.typeIs PyProof.Rows.slot_tuple_getitem
    (wpAny_call_entry PyProof.Rows.slot_tuple_getitem ht.typeIs entry_tuple_getitem ?_ (args_tuple_getitem _ _)))
  show wpAny _ _ (Builtin.Tuple.tupleItemsOf (.ref t) >>= _) _ _ s
  refine wpAny_bind (tupleItemsOf_ ht ?_)
  refine wpAny_bind (wpAny_typeOf hTs ?_)
  rw [if_pos (by decide)]
  refine wpAny_bind (HT.sliceApplied_gen hs pl pu ?_)
  show wpAny _ _ (if (((HT.sIx items.size 0 lo : Nat) : Int) == 0 && (1 : Int) == 1 && (HT.sIx items.size items.size hi - HT.sIx items.size 0 lo) == items.size) = true then _ else _) _ _ s
  rw [if_pos (by rw [h1, h2]; simp)]
  unfold Builtin.Tuple.tupleIsExact
  refine wpAny_bind ?_
  refine wpAny_bind (wpAny_typeOf ht.typeIs (wpAny_pure ?_))
  rw [if_pos (by decide)]
  exact wpAny_bind (wpAny_rule (wpAny_pure ⟨_, rfl, wpAny_pure h⟩))
theorem sl_all {X : Cx} : SlR X (rSlW X.K) := by
  intro pins s σ H x v vl vu lo hi sl Q I rx hs pl pu h
  obtain ⟨a, xs, rfl, hx, h1, h2, q⟩ := h
  cases rx
  obtain ⟨its, r, ht, hz⟩ := I.tuple hx
  have hlen : its.toArray.size = xs.length := by rw [List.size_toArray]; exact r.length.symm
  exact ⟨"tuple", _, PyProof.Rows.slot_tuple_getitem.lookup, ht.typeIs, getItem_tuple_all ht hs pl pu (by rw [hlen]; exact h1) (by rw [hlen]; exact h2) ⟨.ref a, H, I, rfl, q⟩⟩
noncomputable def rSlG (K : PySem.W.Frag) : V → Option Int → Option Int → Hp → VK → Prop := fun x lo hi H Q => rSlL K x lo hi H Q ∨ rSlT K x lo hi H Q ∨ rSlW K x lo hi H Q
theorem sl_G (K : PySem.W.Frag) (hK : X.K = K) : SlR X (rSlG K) := by subst hK; exact sl_list.or (sl_tup.or sl_all)
end
end Y
structure EdOk (F : Fx) (B : AP') (H : Hp) (D : Ends) (E : Ed) : Prop where
  nx : ∀ ad' B' σ' H' μ', Rl F ad' B' σ' H' μ' → Fr B H B' H' → E.nx μ' → D.nx σ' H'
  rt : ∀ ad' B' σ' H' μ' v r, Vr F ad' B' σ' H' μ' v r → E.rt r μ' → D.rt v H'
  bk : ∀ ad' B' σ' H' μ', Rl F ad' B' σ' H' μ' → Fr B H B' H' → E.bk μ' → D.bk σ' H'
  ct : ∀ ad' B' σ' H' μ', Rl F ad' B' σ' H' μ' → Fr B H B' H' → E.ct μ' → D.ct σ' H'
theorem EdOk.step {F : Fx} {B B1 : AP'} {H H1 : Hp} {D : Ends} {E : Ed} (h : EdOk F B H D E) (f : Fr B H B1 H1) : EdOk F B1 H1 D E :=
  ⟨fun ad' B' σ' H' μ' l g q => h.nx ad' B' σ' H' μ' l (f.trans g) q, h.rt, fun ad' B' σ' H' μ' l g q => h.bk ad' B' σ' H' μ' l (f.trans g) q, fun ad' B' σ' H' μ' l g q => h.ct ad' B' σ' H' μ' l (f.trans g) q⟩
noncomputable def RS (K : PySem.W.Frag) (ts : TS) (us : US) : Prop := ∀ (F : Fx) (D : Ends) (E : Ed) (ad : Nat → Addr) (B : AP') (σ : St) (H : Hp) (μ : Mu), F.K = K → Rl F ad B σ H μ → us E μ → EdOk F B H D E → ts D σ H
noncomputable abbrev UG := R → Mu → (Mu → Prop) → Prop
noncomputable abbrev UGs := List T → Mu → (Mu → Prop) → Prop
noncomputable def RG (K : PySem.W.Frag) (g : TG) (ug : UG) : Prop := ∀ (F : Fx) (ad : Nat → Addr) (B : AP') (σ : St) (H : Hp) (μ : Mu) (v : V) (r : R) (B0 : AP') (H0 : Hp) (Q : St → Hp → Prop) (Qt : Mu → Prop), F.K = K → Vr F ad B σ H μ v r → Fr B0 H0 (Bv B v r) H → ug r μ Qt →
  (∀ ad' B' σ' H' μ', Rl F ad' B' σ' H' μ' → Fr B0 H0 B' H' → Qt μ' → Q σ' H') → g v σ H Q
noncomputable def RGs (K : PySem.W.Frag) (g : TGs) (ug : UGs) : Prop := ∀ (F : Fx) (ad : Nat → Addr) (B : AP') (σ : St) (H : Hp) (μ : Mu) (vs : List V) (ts : List T) (B0 : AP') (H0 : Hp) (Q : St → Hp → Prop) (Qt : Mu → Prop), F.K = K → Rl F ad B σ H μ → Reps F.K H B vs ts → Fr B0 H0 B H → ug ts μ Qt →
  (∀ ad' B' σ' H' μ', Rl F ad' B' σ' H' μ' → Fr B0 H0 B' H' → Qt μ' → Q σ' H') → g vs σ H Q
structure YG (X : Cx) (e : Expr) (u : UG) : Prop where
  ex : ∃ t, QG X e t ∧ RG X.K t u
structure YGs (X : Cx) (es : List Expr) (u : UGs) : Prop where
  ex : ∃ t, QGs X es t ∧ RGs X.K t u
structure YS (X : Cx) (st : Stmt) (u : US) : Prop where
  ex : ∃ t, QS X st t ∧ RS X.K t u
structure YB (X : Cx) (sts : List Stmt) (u : US) : Prop where
  ex : ∃ t, QB X sts t ∧ RS X.K t u
namespace Y
noncomputable def noP (μ : Mu) (i : Nat) : Prop := match μ[i]? with
  | some (.pb _) => False
  | _ => True
theorem noP_ne {μ : Mu} {i : Nat} (h : noP μ i) : ∀ c, μ[i]? ≠ some (.pb c) := fun c e => by unfold noP at h; rw [e] at h; exact h
noncomputable def gN (i : Nat) : UG := fun r μ Q => match r with
  | .tr t => noP μ i ∧ Q (μ.set i (.tr t))
  | .fr c => noP μ i ∧ Q (μ.set i (.bx c))
  | .br _ => False
section
variable {X : Cx} {a b c e o tg : Expr} {es rest : List Expr} {ua ub uc ue uo : UE} {uA uB : UT} {us : UA} {pos pos' p p2 p3 : Pos} {x : Str} {st : Stmt} {sts xs ys : List Stmt} {u w : US}
theorem rg_name {K : PySem.W.Frag} {i : Nat} : RG K (gName i) (gN i) := fun F ad B σ H μ v r B0 H0 Q Qt hK h f q k => by
  cases r with
  | tr t => exact k ad B _ H _ (h.1.setT (noP_ne q.1) h.2) f q.2
  | br i => exact q.elim
  | fr c =>
    obtain ⟨l, a, rfl, n, h0, l2, x⟩ := h
    exact k _ _ _ H _ (l2.setB (noP_ne q.1) h0 n l.own l.gB x) f q.2
theorem gname {i : Nat} (hN : X.N.Nodup) (hi : X.N[i]? = some x) (hx : Loc X.env.scope x) (hf : autoParam (X.fn x = true ∨ X.env.scope.names.lookup x = some .local) L2.aLoc._auto_1) : YG X (.Name x pos) (gN i) := ⟨_, Z.gname hN hi hx hf, rg_name⟩
noncomputable def gsN : UGs := fun ts μ Q => match ts with
  | [] => Q μ
  | _ => False
noncomputable def gsC (g : UG) (gs : UGs) : UGs := fun ts μ Q => match ts with
  | [] => False
  | t :: ts => g (.tr t) μ fun μ' => gs ts μ' Q
theorem gsnil : YGs X [] gsN := ⟨_, Z.gsnil, fun F ad B σ H μ vs ts B0 H0 Q Qt hK l r f q k => by
  cases r with
  | nil => exact ⟨rfl, k ad B σ H μ l f q⟩
  | cons => exact q.elim⟩
theorem gscons {g : UG} {gs : UGs} (h1 : YG X e g) (h2 : YGs X es gs) (hs : autoParam ((assignEach (e :: es) X.env).map (·.2) = assign e X.env :: (assignEach es X.env).map (·.2)) L2.aRfl._auto_1) : YGs X (e :: es) (gsC g gs) := by
  obtain ⟨t, q, r⟩ := h1; obtain ⟨t', q', r'⟩ := h2
  refine ⟨_, Z.gscons q q' hs, fun F ad B σ H μ vs ts B0 H0 Q Qt hK l rs f q k => ?_⟩
  cases rs with
  | nil => exact q.elim
  | cons h hr => exact ⟨_, _, rfl, r F ad B σ H μ _ (.tr _) B H _ _ hK ⟨l, h⟩ Fr.refl q fun ad' B' σ' H' μ' l' f' q' => r' F ad' B' σ' H' μ' _ _ B0 H0 _ _ hK l' (hr.fr f') (f.trans f') q' k⟩
/-- a tuple's, or a list's, items -/
noncomputable def gT (n : Nat) (gs : UGs) : UG := fun r μ Q => match cont μ r.d with
  | some (.tup ts) => ts.length = n ∧ gs ts μ Q
  | some (.lst ts) => ts.length = n ∧ gs ts μ Q
  | _ => False
noncomputable def gTupG (K : PySem.W.Frag) (n : Nat) (t : TGs) : TG := fun v σ H Q => ∃ a xs, v = .ref a ∧ (SqT K H a xs ∨ SqL K H a xs) ∧ xs.length = n ∧ t xs σ H Q
theorem draw_list {prog : Program} {w : World} {A : Around} {E : Value → Shared → Prop} {it t : Addr} {items : Array Value} (hne : t ≠ it) : ∀ (n i : Nat) (s : Shared) (Q : List Value → Shared → Prop), s.heap.IsListIter it t i → s.heap.IsList t items → i + n ≤ items.size →
    (∀ h', h'.IsListIter it t (i + n) → Heap.SameBut it s.heap h' → Q ((items.toList.drop i).take n) { s with heap := h' }) → wpAny (model prog w) A (draw (.ref it) n) Q E s
  | 0, i, s, Q, hit, _, _, hQ => by
    show wpAny _ _ (pure []) Q E s
    exact wpAny_pure (by simpa using hQ s.heap hit (Heap.SameBut.refl ..))
  | n + 1, i, s, Q, hit, ht, hle, hQ => by
    have hlt : i < items.size := by omega
    show wpAny _ _ (pyNext (.ref it) >>= _) Q E s
    refine wpAny_bind (wpAny_pyNext_list_item hit ht (x := items[i]) (by simp [hlt]) fun h₁ hit₁ hs₁ => ?_)
    refine wpAny_bind (wpAny_holding (draw_list hne n (i + 1) _ _ hit₁ (ht.extBut hs₁.extBut hne) (by omega) fun h₂ hit₂ hs₂ => wpAny_pure ?_))
    have hd : items.toList.drop i = items[i] :: items.toList.drop (i + 1) := by simp [List.drop_eq_getElem_cons, hlt]
    have := hQ h₂ (by rw [show i + (n + 1) = i + 1 + n by omega]; exact hit₂) (hs₁.trans hs₂)
    rw [hd, List.take_succ_cons] at this
    exact this
theorem unpackItems_list {prog : Program} {w : World} {A : Around} {E : Value → Shared → Prop} {s : Shared} {t : Addr} {items : Array Value} {Q : List Value → Shared → Prop} (hh : A.handled = none) (ht : s.heap.IsList t items)
    (hQ : ∀ h', Heap.ExtBut s.heap.objs.size s.heap h' → Q items.toList { s with heap := h' }) : wpAny (model prog w) A (unpackItems (.ref t) items.size none) Q E s := by
  have hlt : t ≠ s.heap.objs.size := by obtain ⟨o, ho, _⟩ := ht; exact Nat.ne_of_lt (Heap.lt_size ho)
  unfold unpackItems
  refine wpAny_bind ?_
  · unfold notIterableAtAll
    refine wpAny_bind (wpAny_specialOf ht.typeIs F.slot_list_iter.lookup ?_)
    refine wpAny_pure ?_
    simp only [Bool.false_eq_true, if_false]
    refine wpAny_bind (wpAny_holding (wpAny_pyIter_list ht ?_))
    refine wpAny_bind (wpAny_holding (draw_list hlt items.size 0 _ _ ⟨_, Heap.get?_push_size _ rfl, rfl, rfl⟩ (ht.push _) (by omega) fun h₁ hit₁ hs₁ => ?_))
    have hall : List.take items.size (List.drop 0 items.toList) = items.toList := by
      rw [List.drop_zero]; exact List.take_of_length_le (by simp)
    rw [hall]
    rw [if_neg (by simp)]
    have ht₁ : h₁.IsList t items := (ht.push _).extBut hs₁.extBut hlt
    refine wpAny_bind (wpAny_holding (wpAny_pyNext_list_end hh hit₁ ht₁ (by simp) fun h₂ he₂ => ?_))
    simp only [Option.isSome_none, Bool.false_eq_true, if_false]
    refine wpAny_pure (hQ h₂ fun b o hb e => he₂ b o hb (hs₁.extBut b o hb (Heap.get?_push_of_some _ e)))
theorem pg_tupG {es : List Expr} {k : Nat} {t : TGs} {n : Nat} (hc : X.calm = true) (h : PGs X es t)
    (hn : autoParam ((assignEach es X.env).length = n) L2.aRfl._auto_1) (hst : autoParam ((assignEach es X.env).findIdx? (·.1) = none) L2.aRfl._auto_1) : PG X (.Tuple es k pos) (gTupG X.K n t) := by
  intro pins s σ H v u Q I r hw
  obtain ⟨a, xs, e1, hq, hl, hw⟩ := hw
  rcases hq with hq | hq
  · exact pg_tup hc h hn hst pins s σ H v u Q I r ⟨a, xs, e1, hq, hl, hw⟩
  · subst e1
    cases r
    obtain ⟨its, rv, ht, hz⟩ := I.list hq
    rw [assign_Tuple]
    refine wpAny_bind (wpAny_standAt ?_)
    unfold unpack
    have hsz : (assignEach es X.env).length = its.toArray.size := by rw [hn, ← hl, rv.length]; simp
    rw [hsz, hst]
    refine wpAny_bind (wpAny_holding (unpackItems_list (I.ok.hd hc) ht.isList fun h' hx => ?_))
    have I1 : Inv X pins σ H { s with heap := h' } := I.kept (t' := s.toks) fun b o e => hx b o (Nat.ne_of_lt (Heap.lt_size e)) e
    exact h pins _ σ H xs _ Q I1 (by simpa using rv) hw
theorem gtup (K : PySem.W.Frag) (hK : X.K = K) {k n : Nat} {gs : UGs} (hc : X.calm = true) (h : YGs X es gs) (hn : autoParam ((assignEach es X.env).length = n) L2.aRfl._auto_1) (hst : autoParam ((assignEach es X.env).findIdx? (·.1) = none) L2.aRfl._auto_1) : YG X (.Tuple es k pos) (gT n gs) := by
  obtain ⟨t, q, r⟩ := h
  subst hK
  refine ⟨_, ⟨pg_tupG hc q.h hn hst⟩, fun F ad B σ H μ v rr B0 H0 Q Qt hF h f q k => ?_⟩
  have l := h.rl
  have f' : Fr B0 H0 B H := fun b o h n => ⟨(f b o h n).1, fun z => (f b o h n).2 (by cases rr <;> first | exact z | (cases v <;> first | exact z | exact .inr z))⟩
  unfold gT at q
  split at q
  · rename_i ts e
    have w := h.hv.vw l e
    rw [hF] at w
    cases w with
    | tup ha ra => exact ⟨_, _, rfl, .inl (SqT.of ha), by rw [ra.length]; exact q.1, r F ad B σ H μ _ ts B0 H0 Q Qt hF l (by rw [hF]; exact ra) f' q.2 k⟩
  · rename_i ts e
    have w := h.hv.vw l e
    rw [hF] at w
    cases w with
    | lst ha ra => exact ⟨_, _, rfl, .inr (SqL.of ha), by rw [ra.length]; exact q.1, r F ad B σ H μ _ ts B0 H0 Q Qt hF l (by rw [hF]; exact ra) f' q.2 k⟩
  · exact q.elim
theorem bnil : YB X [] (fun E μ => E.nx μ) := ⟨_, Z.bnil, fun F D E ad B σ H μ hK l q h => h.nx ad B σ H μ l Fr.refl q⟩
theorem bone (h : YS X st u) : YB X [st] u := by obtain ⟨t, q, r⟩ := h; exact ⟨t, Z.bone q, r⟩
noncomputable def uSeq (u w : US) : US := fun E μ => u { E with nx := w E } μ
theorem bcons (h : YS X st u) (h2 : YB X sts w) : YB X (st :: sts) (uSeq u w) := by
  obtain ⟨t, q, r⟩ := h; obtain ⟨t', q', r'⟩ := h2
  exact ⟨_, Z.bcons q q', fun F D E ad B σ H μ hK l q h => r F { D with nx := t' D } { E with nx := w E } ad B σ H μ hK l q
    ⟨fun ad1 B1 σ1 H1 μ1 l1 f1 q1 => r' F D E ad1 B1 σ1 H1 μ1 hK l1 q1 (h.step f1), h.rt, h.bk, h.ct⟩⟩
noncomputable def uAsg (ue : UE) (g : UG) : US := fun E μ => ue μ fun r μ' => g r μ' E.nx
theorem rs_asg {K : PySem.W.Frag} {te : TE} {tg : TG} {g : UG} (he : RE K te ue) (hg : RG K tg g) : RS K (tAsg te tg) (uAsg ue g) := fun F D E ad B σ H μ hK l q h =>
  he F ad B σ H μ _ _ hK l q fun v H' r μ' v1 f k1 q1 => hg F ad B σ H' μ' v r B H _ _ hK v1 f q1 fun ad' B' σ' H2 μ2 l2 f2 q2 => h.nx ad' B' σ' H2 μ2 l2 f2 q2
theorem set {i : Nat} (hN : X.N.Nodup) (hi : X.N[i]? = some x) (hx : Loc X.env.scope x) (he : YE X e ue) (hs : autoParam (Z.noc e = true) L2.aRfl._auto_1) (hf : autoParam (X.fn x = true ∨ X.env.scope.names.lookup x = some .local) L2.aLoc._auto_1) :
    YS X (.Assign [.Name x pos'] e pos) (uAsg ue (gN i)) := by
  obtain ⟨t, q, r⟩ := he
  exact ⟨_, Z.set hN hi hx q hs hf, rs_asg r rg_name⟩
theorem asg {g : UG} (he : YE X e ue) (hg : YG X tg g) (hs : autoParam (swapsWithSole [tg] e pos.line X.env = pure false) L2.aRfl._auto_1) (hw : autoParam (swappedStores [tg] e X.env = pure none) L2.aRfl._auto_1)
    (h1 : autoParam ((assignEach [tg] X.env).map (·.2) = [assign tg X.env]) L2.aRfl._auto_1) : YS X (.Assign [tg] e pos) (uAsg ue g) := by
  obtain ⟨t, q, r⟩ := he; obtain ⟨t', q', r'⟩ := hg
  exact ⟨_, Z.asg q q' hs hw h1, rs_asg r r'⟩
noncomputable def uRet (ue : UE) : US := fun E μ => ue μ E.rt
theorem ret (he : YE X e ue) : YS X (.Return (some e) pos) (uRet ue) := by
  obtain ⟨t, q, r⟩ := he
  exact ⟨_, Z.ret q, fun F D E ad B σ H μ hK l q h => r F ad B σ H μ _ _ hK l q fun v H' r1 μ' v1 f k1 q1 => h.rt ad B σ H' μ' v r1 v1 q1⟩
noncomputable def uDrop (ue : UE) : US := fun E μ => ue μ fun _ μ' => E.nx μ'
theorem expr (he : YE X e ue) (hs : autoParam (Z.noc e = true) L2.aRfl._auto_1) : YS X (.Expr e pos) (uDrop ue) := by
  obtain ⟨t, q, r⟩ := he
  exact ⟨_, Z.expr q hs, fun F D E ad B σ H μ hK l q h => r F ad B σ H μ _ _ hK l q fun v H' r1 μ' v1 f k1 q1 => h.nx ad B σ H' μ' v1.rl f.d q1⟩
noncomputable def uIfS (c : UT) (u w : US) : US := fun E μ => c μ fun b μ' => if b = true then u E μ' else w E μ'
theorem ifS (hc : YT X c uA) (ha : YB X xs u) (hb : YB X ys w) : YS X (.If c xs ys pos) (uIfS uA u w) := by
  obtain ⟨tc, qc, rc⟩ := hc; obtain ⟨t, q, r⟩ := ha; obtain ⟨t', q', r'⟩ := hb
  refine ⟨_, Z.ifS qc q q', fun F D E ad B σ H μ hK l q h => rc F ad B σ H μ _ _ hK l q fun b H' μ' l1 f k1 q1 => ?_⟩
  cases b with
  | true => rw [if_pos rfl] at q1 ⊢; exact r F D E ad B σ H' μ' hK l1 q1 (h.step f)
  | false => rw [if_neg Bool.false_ne_true] at q1 ⊢; exact r' F D E ad B σ H' μ' hK l1 q1 (h.step f)
end
end Y
end L2

set_option linter.all false
set_option maxRecDepth 100000
set_option maxHeartbeats 4000000
namespace L2
open PySem PySem.Spec PyProof.Rows
structure ItOk (K : PySem.W.Frag) (J : It) (Src : Hp → AP' → Prop) (items : List T) : Prop where
  step : ∀ H B i t, (∀ b, B b → ∃ o, H b = some o) → Src H B → items[i]? = some t → J.go i H ∧ ∀ x H2, J.yld i H x H2 → Same H H2 ∧ Rep K H2 B x t
  stop : ∀ H B, Src H B → J.stop items.length H
theorem ItOk.imp {K : PySem.W.Frag} {J : It} {Src Src' : Hp → AP' → Prop} {items : List T} (h : ItOk K J Src items) (f : ∀ H B, Src' H B → Src H B) : ItOk K J Src' items := ⟨fun H B i t hb s e => h.step H B i t hb (f H B s) e, fun H B s => h.stop H B (f H B s)⟩
noncomputable def SrcOk (F : Fx) (ad : Nat → Addr) (Src : Hp → AP' → Prop) : Option (Nat × List T) → Prop
  | none => ∀ B1 H1 B2 H2, Fr B1 H1 B2 H2 → Src H1 B1 → Src H2 B2
  | some (j, ls) => (∀ B' σ' H' μ', Rl F ad B' σ' H' μ' → cont μ' (.br j) = some (.lst ls) → Src H' B') ∧ ∀ B' H', Rep F.K H' B' (.ref (ad j)) (.lst ls) → Src H' B'
noncomputable abbrev UI := Mu → (List T → Option (Nat × List T) → Mu → Prop) → Prop
noncomputable def RI (K : PySem.W.Frag) (wi : TI) (ui : UI) : Prop := ∀ (F : Fx) (ad : Nat → Addr) (B : AP') (σ : St) (H : Hp) (μ : Mu) (R : It → Hp → Prop) (Rt : List T → Option (Nat × List T) → Mu → Prop), F.K = K → Rl F ad B σ H μ → ui μ Rt →
  (∀ J H' μ' items gd Src, Rl F ad B σ H' μ' → Fr B H B H' → Kp μ μ' → ItOk K J Src items → Src H' B → SrcOk F ad Src gd → (∀ j ls, gd = some (j, ls) → cont μ' (.br j) = some (.lst ls)) → Rt items gd μ' → R J H') → wi σ H R
structure YI (X : Cx) (tg it : Expr) (u : UI) : Prop where
  ex : ∃ t, QI X tg it t ∧ RI X.K t u
theorem itl_ok {K : PySem.W.Frag} {a : Addr} {ts : List T} : ItOk K (Itl K a) (fun H B => ∃ vs, SqL K H a vs ∧ Reps K H B vs ts) ts :=
  ⟨fun H B i t hb ⟨vs, h, r⟩ e => by
    obtain ⟨v, e1, rv⟩ := r.get e
    refine ⟨⟨vs, v, h, e1⟩, fun x H2 y => ?_⟩
    obtain ⟨rfl, y⟩ := y
    have := y vs h
    rw [e1] at this
    cases this
    exact ⟨Same.refl _, rv⟩, fun H B ⟨vs, h, r⟩ => ⟨vs, h, by rw [r.length]; exact Nat.le_refl _⟩⟩
theorem itt_ok {K : PySem.W.Frag} {a : Addr} {ts : List T} : ItOk K (Itt K a) (fun H B => ∃ vs, SqT K H a vs ∧ Reps K H B vs ts) ts :=
  ⟨fun H B i t hb ⟨vs, h, r⟩ e => by
    obtain ⟨v, e1, rv⟩ := r.get e
    refine ⟨⟨vs, v, h, e1⟩, fun x H2 y => ?_⟩
    obtain ⟨rfl, y⟩ := y
    have := y vs h
    rw [e1] at this
    cases this
    exact ⟨Same.refl _, rv⟩, fun H B ⟨vs, h, r⟩ => ⟨vs, h, by rw [r.length]; exact Nat.le_refl _⟩⟩
noncomputable def pairs (ts : List T) : List T := (List.range ts.length).map fun i => .tup [.int (i : Nat), (ts[i]?).getD .non]
theorem ite_ok {K : PySem.W.Frag} {a : Addr} {ts : List T} : ItOk K (IteT K a) (fun H B => ∃ vs, SqT K H a vs ∧ Reps K H B vs ts) (pairs ts) := by
  refine ⟨fun H B i t hb ⟨vs, h, r⟩ e => ?_, fun H B ⟨vs, h, r⟩ => ⟨vs, h, by rw [r.length]; simp [pairs]⟩⟩
  unfold pairs at e
  rw [List.getElem?_map] at e
  have hi : i < ts.length := by
    rcases Nat.lt_or_ge i ts.length with z | z
    · exact z
    · rw [List.getElem?_eq_none_iff.mpr (by simpa using z)] at e; cases e
  rw [List.getElem?_range hi] at e
  have e' : T.tup [.int (i : Nat), (ts[i]?).getD .non] = t := Option.some.inj e
  have et : ts[i]? = some ts[i] := List.getElem?_eq_getElem hi
  obtain ⟨v, e1, rv⟩ := r.get et
  refine ⟨⟨v, vs, h, e1⟩, fun x H2 y => ?_⟩
  obtain ⟨p, y, hy, hp, rfl, rfl⟩ := y
  have := hy vs h
  rw [e1] at this
  cases this
  subst e'
  rw [et]
  refine ⟨Same.new hp, .tup (fun z => ?_) upd_same (.cons (.int _) (.cons (rv.fr (Fr.same (Same.new hp))) .nil))⟩
  obtain ⟨o, q⟩ := hb p z
  rw [hp] at q
  cases q
theorem itr_ok {K : PySem.W.Frag} {lo : Int} {n : Nat} : ItOk K (Itr lo n) (fun _ _ => True) ((List.range n).map fun k => T.int (lo + (k : Nat))) :=
  ⟨fun H B i t hb _ e => by
    rw [List.getElem?_map] at e
    have hi : i < n := by
      rcases Nat.lt_or_ge i n with z | z
      · exact z
      · rw [List.getElem?_eq_none_iff.mpr (by simpa using z)] at e; cases e
    rw [List.getElem?_range hi] at e
    refine ⟨hi, fun x H2 y => ?_⟩
    obtain ⟨rfl, rfl⟩ := y
    cases e
    exact ⟨Same.refl _, .int _⟩, fun H B _ => by simp [Itr]⟩
/-- over a list or a tuple -/
noncomputable def iSeq (K : PySem.W.Frag) (tl : TE) : TI := fun σ H R => tl σ H fun x H1 => ∃ a, x = V.ref a ∧ (((∃ xs, SqL K H1 a xs) ∧ R (Itl K a) H1) ∨ ((∃ xs, SqT K H1 a xs) ∧ R (Itt K a) H1))
theorem pi_seq {X : Cx} {tg l : Expr} {tl : TE} (hl : PE X l tl) : PI X tg l (iSeq X.K tl) := by
  intro pins s σ H R I h
  refine thn (hl pins s σ H _ I h) fun v s1 ⟨x, H1, I1, r1, q1⟩ => ?_
  obtain ⟨a, rfl, q⟩ := q1
  cases r1
  rcases q with ⟨⟨xs, hq⟩, q⟩ | ⟨⟨xs, hq⟩, q⟩
  · obtain ⟨its, rv, p, hz⟩ := I1.list hq
    refine wpAny_pyIter_list p.isList ?_
    refine ⟨s1.heap.objs.size, [s1.heap.objs.size], _, _, H1, rfl, I1.kept (t' := s1.toks) fun b o e => Heap.get?_push_of_some _ e, turn_list a _, ⟨_, Heap.get?_push_size _ rfl, rfl, rfl⟩, fun b hb => ?_, q⟩
    have e : b = s1.heap.objs.size := by simpa using hb
    subst e
    exact I1.fpOk (Nat.le_refl _) (I1.hok.fresh (Nat.le_refl _))
  · obtain ⟨its, rv, p, hz⟩ := I1.tuple hq
    refine wpAny_pyIter_tuple (show s1.heap.IsTuple a its.toArray from p) ?_
    refine ⟨s1.heap.objs.size, [s1.heap.objs.size], _, _, H1, rfl, I1.kept (t' := s1.toks) fun b o e => Heap.get?_push_of_some _ e, turn_tuple a _, ⟨_, Heap.get?_push_size _ rfl, rfl, rfl⟩, fun b hb => ?_, q⟩
    have e : b = s1.heap.objs.size := by simpa using hb
    subst e
    exact I1.fpOk (Nat.le_refl _) (I1.hok.fresh (Nat.le_refl _))
namespace Y
section
variable {X : Cx} {a b c e o tg it : Expr} {es rest : List Expr} {ua ub uc ue uo : UE} {uA uB : UT} {us : UA} {pos pos' p p2 p3 : Pos} {x : Str} {st : Stmt} {sts xs ys : List Stmt} {u w : US}
noncomputable def uIt (ue : UE) : UI := fun μ Rt => ue μ fun r μ' => match r with
  | .br j => (match cont μ' (.br j) with | some (.lst ts) => Rt ts (some (j, ts)) μ' | _ => False)
  | .tr (.lst ts) => Rt ts none μ'
  | .fr (.lst ts) => Rt ts none μ'
  | .tr (.tup ts) => Rt ts none μ'
  | .tr (.rol ts) => Rt ts none μ'
  | .tr (.ktp ts) => Rt ts none μ'
  | _ => False
theorem any (K : PySem.W.Frag) (hK : X.K = K) (he : YE X e ue) : YI X tg e (uIt ue) := by
  obtain ⟨t, q, r⟩ := he
  subst hK
  refine ⟨_, ⟨pi_seq q.h⟩, fun F ad B σ H μ R Rt hF l q k => r F ad B σ H μ _ _ hF l q fun v H' r1 μ' v1 f k1 q1 => ?_⟩
  have hv := v1.hv
  have l1 := v1.rl
  have go : ∀ (ts : List T) (a : Addr) (t : T), v = .ref a → Rep F.K H' B (.ref a) t → (t = .lst ts ∨ t = .rol ts) → Rt ts none μ' → ∃ a, v = V.ref a ∧ (((∃ xs, SqL X.K H' a xs) ∧ R (Itl X.K a) H') ∨ ((∃ xs, SqT X.K H' a xs) ∧ R (Itt X.K a) H')) := fun ts a t ev rp et q => by
    have sr : ∀ H B, Rep F.K H B (.ref a) t → ∃ vs, SqL X.K H a vs ∧ Reps X.K H B vs ts := fun H B h => by
      rw [hF] at h
      rcases et with rfl | rfl
      · cases h with | lst n h r => exact ⟨_, SqL.of h, r⟩
      · cases h with | rol h r => exact ⟨_, h.sq, r⟩
    obtain ⟨vs, h1, _⟩ := sr _ _ rp
    exact ⟨a, ev, .inl ⟨⟨vs, h1⟩, k _ H' μ' ts none (fun H B => Rep F.K H B (.ref a) t) l1 f.d k1 (itl_ok.imp sr) rp (fun B1 H1 B2 H2 f h => h.fr f) (fun j ls z => by cases z) q⟩⟩
  have goT : ∀ (ts : List T) (a : Addr) (t : T), v = .ref a → Rep F.K H' B (.ref a) t → (t = .tup ts ∨ t = .ktp ts) → Rt ts none μ' → ∃ a, v = V.ref a ∧ (((∃ xs, SqL X.K H' a xs) ∧ R (Itl X.K a) H') ∨ ((∃ xs, SqT X.K H' a xs) ∧ R (Itt X.K a) H')) := fun ts a t ev rp et q => by
    have sr : ∀ H B, Rep F.K H B (.ref a) t → ∃ vs, SqT X.K H a vs ∧ Reps X.K H B vs ts := fun H B h => by
      rw [hF] at h
      rcases et with rfl | rfl
      · cases h with | tup n h r => exact ⟨_, SqT.of h, r⟩
      · cases h with | ktp h r => exact ⟨_, .inr h, r⟩
    obtain ⟨vs, h1, _⟩ := sr _ _ rp
    exact ⟨a, ev, .inr ⟨⟨vs, h1⟩, k _ H' μ' ts none (fun H B => Rep F.K H B (.ref a) t) l1 f.d k1 (itt_ok.imp sr) rp (fun B1 H1 B2 H2 f h => h.fr f) (fun j ls z => by cases z) q⟩⟩
  split at q1
  · rename_i j
    split at q1
    · rename_i ts e
      obtain ⟨ev, s, c, e1, e2⟩ := hv
      have src : ∀ B' σ' H' μ', Rl F ad B' σ' H' μ' → cont μ' (.br j) = some (.lst ts) → ∃ vs, SqL X.K H' (ad j) vs ∧ Reps X.K H' B' vs ts := fun B' σ' H' μ' l e => by
        have e3 : (μ'[j]?).bind Sl.box = some (.lst ts) := e
        cases q : μ'[j]? with
        | none => rw [q] at e3; cases e3
        | some s' =>
          rw [q] at e3
          have bx := ((l.slot j s' q).boxed (c := .lst ts) e3).2.2.1
          rw [hF] at bx
          obtain ⟨vs, h1, h2⟩ := bx
          exact ⟨vs, SqL.of h1, h2⟩
      obtain ⟨vs, h1, h2⟩ := src _ _ _ _ l1 e
      refine ⟨ad j, ev, .inl ⟨⟨vs, h1⟩, k _ H' μ' ts (some (j, ts)) _ l1 f.d k1 itl_ok ⟨vs, h1, h2⟩ ⟨src, fun B' H' h => ?_⟩ (fun j' ls z => by cases z; exact e) q1⟩⟩
      rw [hF] at h
      cases h with | lst n h r => exact ⟨_, SqL.of h, r⟩
    · exact q1.elim
  · have rp : Rep F.K H' B v _ := hv
    cases rp with | lst n h r => exact go _ _ _ rfl (.lst n h r) (.inl rfl) q1
  · have rp : Rep F.K H' B v _ := hv
    cases rp with | lst n h r => exact go _ _ _ rfl (.lst n h r) (.inl rfl) q1
  · have rp : Rep F.K H' B v _ := hv
    cases rp with | tup n h r => exact goT _ _ _ rfl (.tup n h r) (.inl rfl) q1
  · have rp : Rep F.K H' B v _ := hv
    cases rp with | rol h r => exact go _ _ _ rfl (.rol h r) (.inr rfl) q1
  · have rp : Rep F.K H' B v _ := hv
    cases rp with | ktp h r => exact goT _ _ _ rfl (.ktp h r) (.inr rfl) q1
  · exact q1.elim
noncomputable def iR1 (us : UA) : UI := fun μ Rt => us μ fun rs μ' => match rs with
  | [.tr (.int j)] => -(2 ^ 62) ≤ j ∧ j < 2 ^ 62 ∧ Rt ((List.range j.toNat).map fun k => T.int (0 + (k : Nat))) none μ'
  | _ => False
theorem rng1 (hg : Gl X "range") (hm : X.mg "range" = none) (ha : YA X [a] us) (h : autoParam (nst a = true) L2.aRfl._auto_1) : YI X tg (.Call (.Name "range" p) [a] [] pos) (iR1 us) := by
  obtain ⟨t, q, r⟩ := ha
  refine ⟨_, Z.rng1 hg hm q h, fun F ad B σ H μ R Rt hF l q k => r F ad B σ H μ _ _ hF l q fun vs H' rs μ' l1 ps f k1 q1 => ?_⟩
  split at q1
  · cases ps with
    | cons h1 ps => cases ps; cases rep_of h1; exact ⟨_, rfl, q1.1, q1.2.1, k _ H' μ' _ none _ l1 f k1 itr_ok trivial (fun _ _ _ _ _ _ => trivial) (fun j ls z => by cases z) q1.2.2⟩
  · exact q1.elim
noncomputable def iEn (us : UA) : UI := fun μ Rt => us μ fun rs μ' => match rs with
  | [.tr (.tup ts)] => Rt (pairs ts) none μ'
  | _ => False
theorem enum (K : PySem.W.Frag) (hK : X.K = K) {k : Nat} {tp : Pos} (hg : Gl X "enumerate") (hm : X.mg "enumerate" = none) (ha : YA X [e] us) (h1 : autoParam (nst e = true) L2.aRfl._auto_1) : YI X (.Tuple es k tp) (.Call (.Name "enumerate" p) [e] [] pos) (iEn us) := by
  obtain ⟨t, q, r⟩ := ha
  refine ⟨_, Z.enum K hK hg hm q h1, fun F ad B σ H μ R Rt hF l q k => r F ad B σ H μ _ _ hF l q fun vs H' rs μ' l1 ps f k1 q1 => ?_⟩
  have hF' : F.K = K := hF.trans hK
  split at q1
  · rename_i ts
    cases ps with
    | cons h1 ps =>
      cases ps
      have rp := rep_of h1
      cases rp with
      | @tup a vs _ n h rr =>
        have sr : ∀ H B, Rep F.K H B (.ref a) (.tup ts) → ∃ vs, SqT X.K H a vs ∧ Reps X.K H B vs ts := fun H B h => by
          rw [hF] at h
          cases h with | tup n h r => exact ⟨_, SqT.of h, r⟩
        refine ⟨a, rfl, ⟨vs, SqT.of h⟩, ?_⟩
        have := k (IteT X.K a) H' μ' (pairs ts) none (fun H B => Rep F.K H B (.ref a) (.tup ts)) l1 f k1 (ite_ok.imp sr) (.tup n h rr) (fun B1 H1 B2 H2 f h => h.fr f) (fun j ls z => by cases z) q1
        rw [hK] at this
        exact this
  · exact q1.elim
noncomputable def uForG (g : UG) (body : US) (E : Ed) : List T → Mu → Prop
  | [], μ => E.nx μ
  | t :: ts, μ => g (.tr t) μ fun μ1 => body { E with nx := uForG g body E ts, ct := uForG g body E ts, bk := E.nx } μ1
noncomputable def uFor (ui : UI) (g : UG) (body : US) : US := fun E μ => ui μ fun items gd μ' => match gd with
  | none => uForG g body E items μ'
  | some (j, _) => (match μ'[j]? with
    | some (.bx c) => uForG g body E items (μ'.set j (.tr c))
    | _ => False)
theorem for_core {K : PySem.W.Frag} {g : TG} {ug : UG} {tb : TS} {body : US} {F : Fx} {D : Ends} {E : Ed} {J : It} {Src : Hp → AP' → Prop} {items : List T} {B0 : AP'} {H0 : Hp} (hF : F.K = K) (hg : RG K g ug) (hb : RS K tb body) (it : ItOk K J Src items)
    (pe : ∀ B1 H1 B2 H2, Fr B1 H1 B2 H2 → Src H1 B1 → Src H2 B2) (hE : EdOk F B0 H0 D E) {ad : Nat → Addr} {B : AP'} {σ : St} {H : Hp} {μ : Mu} (l : Rl F ad B σ H μ) (f : Fr B0 H0 B H) (sr : Src H B) (q : uForG ug body E items μ) :
    ∃ W : Nat → Nat → St → Hp → Prop, (∃ m, W 0 m σ H) ∧ ∀ i m σ H, W i m σ H →
      (J.stop i H ∧ D.nx σ H) ∨ (J.go i H ∧ ∃ N : St → Hp → Prop, (∀ σ' H', N σ' H' → ∃ m', m' < m ∧ W (i + 1) m' σ' H') ∧ ∀ x H', J.yld i H x H' → g x σ H' fun σ2 H2 => tb { D with nx := N, ct := N, bk := D.nx } σ2 H2) := by
  refine ⟨fun i m σ H => m = items.length - i ∧ i ≤ items.length ∧ ∃ ad B μ, Rl F ad B σ H μ ∧ Fr B0 H0 B H ∧ Src H B ∧ uForG ug body E (items.drop i) μ, ⟨items.length, by simp, Nat.zero_le _, ad, B, μ, l, f, sr, q⟩, ?_⟩
  rintro i m σ H ⟨rfl, hi, ad, B, μ, l, f, sr, q⟩
  by_cases hlt : i < items.length
  · have ei : items[i]? = some items[i] := List.getElem?_eq_getElem hlt
    rw [List.drop_eq_getElem_cons hlt] at q
    obtain ⟨go, yl⟩ := it.step H B i _ l.trk sr ei
    refine .inr ⟨go, fun σ' H' => ∃ ad' B' μ', Rl F ad' B' σ' H' μ' ∧ Fr B0 H0 B' H' ∧ Src H' B' ∧ uForG ug body E (items.drop (i + 1)) μ', fun σ' H' h => ⟨items.length - (i + 1), by omega, rfl, hlt, h⟩, fun x H2 y => ?_⟩
    obtain ⟨sm, rp⟩ := yl x H2 y
    refine hg F ad B σ H2 μ x (.tr _) B H2 _ _ hF ⟨l.same sm, by show Rep F.K H2 B x _; rw [hF]; exact rp⟩ Fr.refl q fun ad3 B3 σ3 H3 μ3 l3 f3 q3 => ?_
    have f03 : Fr B0 H0 B3 H3 := (f.trans (Fr.same sm)).trans f3
    have s3 : Src H3 B3 := pe _ _ _ _ ((Fr.same sm).trans f3) sr
    exact hb F _ _ ad3 B3 σ3 H3 μ3 hF l3 q3 ⟨fun ad' B' σ' H' μ' l' f' q' => ⟨ad', B', μ', l', f03.trans f', pe _ _ _ _ f' s3, q'⟩, hE.rt, fun ad' B' σ' H' μ' l' f' q' => hE.nx ad' B' σ' H' μ' l' (f03.trans f') q', fun ad' B' σ' H' μ' l' f' q' => ⟨ad', B', μ', l', f03.trans f', pe _ _ _ _ f' s3, q'⟩⟩
  · have e : i = items.length := by omega
    subst e
    rw [List.drop_length] at q
    exact .inl ⟨it.stop H B sr, hE.nx ad B σ H μ l f q⟩
theorem forS {ui : UI} {g : UG} (hp : PassesOwn (model X.prog X.w) X.A X.env X.xe) (hc : X.calm = true) (hi : YI X tg it ui) (hg : YG X tg g) (hb : YB X xs u) (hs : ∀ x, foldedSetIterable it X.env x = pure x := by intro _; rfl) : YS X (.For tg it xs [] pos) (uFor ui g u) := by
  obtain ⟨ti, qi, ri⟩ := hi; obtain ⟨tg', qg, rg⟩ := hg; obtain ⟨t, q, r⟩ := hb
  refine ⟨_, Z.forS hp hc qi qg q hs, fun F D E ad B σ H μ hF l q h => ri F ad B σ H μ _ _ hF l q fun J H' μ' items gd Src l1 f1 k1 it sr so gok q1 => ?_⟩
  split at q1
  · exact for_core hF rg r it so h l1 f1 sr q1
  · rename_i j ls
    split at q1
    · rename_i c ej
      have bx := l1.slot j _ ej
      have hc : ¬ F.Bc (ad j) := fun z => by
        obtain ⟨o, e⟩ := F.bh _ z
        rw [bx.2.2.1] at e; cases e
      obtain ⟨l2, rp⟩ := l1.freeze ej hc
      have ec : c = .lst ls := by
        have := gok j ls rfl
        have e2 : (μ'[j]?).bind Sl.box = some (.lst ls) := this
        rw [ej] at e2
        exact Option.some.inj e2
      subst ec
      exact for_core (Src := fun H B => Rep F.K H B (.ref (ad j)) (.lst ls)) hF rg r (it.imp fun H B h => so.2 B H h) (fun B1 H1 B2 H2 f h => h.fr f) h l2 (f1.trans (Fr.less fun b z => z.1)) rp q1
    · exact q1.elim
noncomputable def uWhile (c : UT) (body : US) : US := fun E μ => ∃ I : Nat → Mu → Prop, (∃ m, I m μ) ∧ ∀ m μ, I m μ → c μ fun b μ' => if b = true then body { E with nx := fun μ2 => ∃ m', m' < m ∧ I m' μ2, ct := fun μ2 => ∃ m', m' < m ∧ I m' μ2, bk := E.nx } μ' else E.nx μ'
theorem whileS (hp : PassesOwn (model X.prog X.w) X.A X.env X.xe) (hc : YT X c uA) (hb : YB X xs u) : YS X (.While c xs [] pos) (uWhile uA u) := by
  obtain ⟨tc, qc, rc⟩ := hc; obtain ⟨t, q, r⟩ := hb
  refine ⟨_, Z.whileS hp qc q, fun F D E ad B σ H μ hF l q h => ?_⟩
  obtain ⟨I, ⟨m0, i0⟩, turn⟩ := q
  refine ⟨fun m σ' H' => ∃ ad' B' μ', Rl F ad' B' σ' H' μ' ∧ Fr B H B' H' ∧ I m μ', ⟨m0, ad, B, μ, l, Fr.refl, i0⟩, ?_⟩
  rintro m σ1 H1 ⟨ad1, B1, μ1, l1, f1, i1⟩
  refine rc F ad1 B1 σ1 H1 μ1 _ _ hF l1 (turn m μ1 i1) fun b H2 μ2 l2 f2 k2 q2 => ?_
  cases b with
  | true =>
    rw [if_pos rfl] at q2 ⊢
    refine ⟨fun σ' H' => ∃ m', m' < m ∧ ∃ ad' B' μ', Rl F ad' B' σ' H' μ' ∧ Fr B H B' H' ∧ I m' μ', fun σ' H' h => h, ?_⟩
    have hn : ∀ ad' B' σ' H' μ', Rl F ad' B' σ' H' μ' → Fr B1 H2 B' H' → (∃ m', m' < m ∧ I m' μ') → ∃ m', m' < m ∧ ∃ ad' B' μ', Rl F ad' B' σ' H' μ' ∧ Fr B H B' H' ∧ I m' μ' := fun ad' B' σ' H' μ' l' f' ⟨m', hm, i'⟩ => ⟨m', hm, ad', B', μ', l', (f1.trans f2).trans f', i'⟩
    exact r F _ _ ad1 B1 σ1 H2 μ2 hF l2 q2 ⟨hn, h.rt, fun ad' B' σ' H' μ' l' f' q' => h.nx ad' B' σ' H' μ' l' ((f1.trans f2).trans f') q', hn⟩
  | false =>
    rw [if_neg Bool.false_ne_true] at q2 ⊢
    exact h.nx ad1 B1 σ1 H2 μ2 l2 (f1.trans f2) q2
end
end Y
end L2

set_option linter.all false
set_option maxRecDepth 100000
set_option maxHeartbeats 4000000
namespace L2
open PySem PySem.Spec PyProof.Rows
noncomputable def teOf (K : PySem.W.Frag) (u : UE) : TE := fun σ H Q => ∃ (F : Fx) (ad : Nat → Addr) (B : AP') (μ : Mu) (Qt : R → Mu → Prop), F.K = K ∧ Rl F ad B σ H μ ∧ u μ Qt ∧ ∀ v H' r μ', Vr F ad B σ H' μ' v r → Fr B H (Bv B v r) H' → Kp μ μ' → Qt r μ' → Q v H'
noncomputable def ttOf (K : PySem.W.Frag) (u : UT) : TT := fun σ H Q => ∃ (F : Fx) (ad : Nat → Addr) (B : AP') (μ : Mu) (Qt : Bool → Mu → Prop), F.K = K ∧ Rl F ad B σ H μ ∧ u μ Qt ∧ ∀ b H' μ', Rl F ad B σ H' μ' → Fr B H B H' → Kp μ μ' → Qt b μ' → Q b H'
theorem YE.can {X : Cx} {e : Expr} {u : UE} (h : YE X e u) : QE X e (teOf X.K u) := ⟨fun pins s σ H Q I hh => by
  obtain ⟨F, ad, B, μ, Qt, hF, l, q, k⟩ := hh
  obtain ⟨t, qe, r⟩ := h
  exact qe.h pins s σ H Q I (r F ad B σ H μ Q Qt hF l q k)⟩
theorem YTs.can {X : Cx} {e : List Expr} {u : UT} (h : YTs X e u) : QTs X e (ttOf X.K u) := ⟨fun pins s σ H Q I hh => by
  obtain ⟨F, ad, B, μ, Qt, hF, l, q, k⟩ := hh
  obtain ⟨t, qe, r⟩ := h
  exact qe.h pins s σ H Q I (r F ad B σ H μ Q Qt hF l q k)⟩
theorem re_of {K : PySem.W.Frag} {u : UE} : RE K (teOf K u) u := fun F ad B σ H μ Q Qt hF l q k => ⟨F, ad, B, μ, Qt, hF, l, q, k⟩
theorem rt_of {K : PySem.W.Frag} {u : UT} : RT K (ttOf K u) u := fun F ad B σ H μ Q Qt hF l q k => ⟨F, ad, B, μ, Qt, hF, l, q, k⟩
noncomputable def Fx.sh (F : Fx) : Fx := { F with P := fun i => match i with | 0 => none | i + 1 => F.P i }
noncomputable def adS (ad : Nat → Addr) : Nat → Addr := fun i => match i with | 0 => 0 | i + 1 => ad i
theorem Rl.push {F : Fx} {ad : Nat → Addr} {B : AP'} {σ : St} {H : Hp} {μ : Mu} {x : V} {t : T} (l : Rl F ad B σ H μ) (h : Rep F.K H B x t) : Rl F.sh (adS ad) B (some x :: σ) H (.tr t :: μ) := by
  refine ⟨congrArg (· + 1) l.len, fun i s e => ?_, fun i j s u c d e1 e2 b1 b2 q => ?_, fun i a p => ?_, l.bc, l.trk, fun b o e n => l.old b o e fun i z => n (i + 1) z, fun a ws ga => ?_⟩
  · cases i with
    | zero =>
      have e' : Sl.tr t = s := by simpa using e
      subst e'
      exact ⟨x, rfl, h⟩
    | succ i => exact l.slot i s (by simpa using e)
  · cases i with
    | zero =>
      have e' : Sl.tr t = s := by simpa using e1
      subst e'; cases b1
    | succ i => cases j with
      | zero =>
        have e' : Sl.tr t = u := by simpa using e2
        subst e'; cases b2
      | succ j => exact congrArg (· + 1) (l.inj i j s u c d (by simpa using e1) (by simpa using e2) b1 b2 q)
  · cases i with
    | zero => cases p
    | succ i => obtain ⟨⟨c, e⟩, z⟩ := l.par i a p; exact ⟨⟨c, by simpa using e⟩, z⟩
  · obtain ⟨g1, g2, g3⟩ := l.gh a ws ga
    refine ⟨g1, g2, fun i s c e b => ?_⟩
    cases i with
    | zero =>
      have e' : Sl.tr t = s := by simpa using e
      subst e'; cases b
    | succ i => exact g3 i s c (by simpa using e) b
theorem Rl.popS {F : Fx} {ad : Nat → Addr} {B : AP'} {σ : St} {H : Hp} {μ : Mu} {y : Option V} (l : Rl F.sh (adS ad) B (y :: σ) H μ) : Rl F ad B σ H μ.tail := by
  have get : ∀ i, μ.tail[i]? = μ[i + 1]? := fun i => by cases μ <;> simp
  refine ⟨?_, fun i s e => ?_, fun i j s u c d e1 e2 b1 b2 q => ?_, fun i a p => ?_, l.bc, l.trk, fun b o e n => l.old b o e fun i z => ?_, fun a ws ga => let ⟨g1, g2, g3⟩ := l.gh a ws ga; ⟨g1, g2, fun i s c e b => g3 (i + 1) s c (by rw [← get]; exact e) b⟩⟩
  · have := l.len
    rw [List.length_tail, this]; rfl
  · rw [get] at e; exact l.slot (i + 1) s e
  · rw [get] at e1 e2
    exact Nat.succ.inj (l.inj (i + 1) (j + 1) s u c d e1 e2 b1 b2 q)
  · obtain ⟨⟨c, e⟩, z⟩ := l.par (i + 1) a p
    exact ⟨⟨c, by rw [get]; exact e⟩, z⟩
  · cases i with
    | zero => cases z
    | succ i => exact n i z
theorem Kp.tail {μ μ' : Mu} {s : Sl} (k : Kp (s :: μ) μ') : Kp μ μ'.tail := fun i => by
  have := k (i + 1)
  rw [List.getElem?_cons_succ] at this
  rw [this]
  cases μ' <;> simp
noncomputable def Fx.g (F : Fx) (D : Addr) (ys : List V) : Fx := { F with G := fun b => if b = D then some ys else F.G b }
section
variable {F : Fx} {ad : Nat → Addr} {B : AP'} {σ : St} {H : Hp} {μ : Mu} {D : Addr} {ys zs : List V}
theorem Rl.addG (l : Rl F ad B σ H μ) (h : H D = some (.lst ys)) (hb : B D) (n : ∀ (i : Nat) (s : Sl) (c : T), μ[i]? = some s → s.box = some c → ad i ≠ D) : Rl (F.g D ys) ad B σ H μ := by
  refine ⟨l.len, l.slot, l.inj, l.par, l.bc, l.trk, l.old, fun a vs e => ?_⟩
  have e' : (if a = D then some ys else F.G a) = some vs := e
  by_cases z : a = D
  · rw [if_pos z] at e'
    cases e'
    subst z
    exact ⟨h, hb, n⟩
  · rw [if_neg z] at e'
    exact l.gh a vs e'
theorem Rl.atG (l : Rl (F.g D ys) ad B σ H μ) : H D = some (.lst ys) ∧ B D ∧ ∀ (i : Nat) (s : Sl) (c : T), μ[i]? = some s → s.box = some c → ad i ≠ D := l.gh D ys (show (if D = D then some ys else F.G D) = some ys from if_pos rfl)
theorem Rl.dropG (l : Rl (F.g D ys) ad B σ H μ) (hg : F.G D = none) : Rl F ad B σ H μ := by
  refine ⟨l.len, l.slot, l.inj, l.par, l.bc, l.trk, l.old, fun a vs e => l.gh a vs ?_⟩
  show (if a = D then some ys else F.G a) = some vs
  rw [if_neg (by rintro rfl; rw [hg] at e; cases e)]
  exact e
theorem Rl.setG (l : Rl (F.g D ys) ad B σ H μ) (h0 : F.H0 D = none) : Rl (F.g D zs) ad B σ (upd H D (.lst zs)) μ := by
  obtain ⟨g1, g2, g3⟩ := l.atG
  have f : Fr B H B (upd H D (.lst zs)) := Fr.set g2
  refine ⟨l.len, fun i s e => ?_, l.inj, l.par, l.bc, fun b z => ?_, fun b o e n => ?_, fun a vs e => ?_⟩
  · have k := l.slot i s e
    unfold SlOk at k ⊢
    split at k
    · trivial
    · obtain ⟨v, e1, r1⟩ := k; exact ⟨v, e1, r1.fr f⟩
    · obtain ⟨e1, b, z0, p, x⟩ := k; exact ⟨e1, b, z0, p, x.of (upd_ne (g3 i _ _ e rfl)) f⟩
    · obtain ⟨e1, b, p, x⟩ := k; exact ⟨e1, b, p, x.of (upd_ne (g3 i _ _ e rfl)) f⟩
  · by_cases z' : b = D
    · subst z'; exact ⟨_, upd_same⟩
    · rw [upd_ne z']; exact l.trk b z
  · rw [upd_ne (by rintro rfl; have e' : F.H0 _ = some o := e; rw [h0] at e'; cases e')]
    exact l.old b o e n
  · have e' : (if a = D then some zs else F.G a) = some vs := e
    by_cases z : a = D
    · rw [if_pos z] at e'
      cases e'
      subst z
      exact ⟨upd_same, g2, g3⟩
    · rw [if_neg z] at e'
      obtain ⟨a1, a2, a3⟩ := l.gh a vs (show (if a = D then some ys else F.G a) = some vs by rw [if_neg z]; exact e')
      exact ⟨by rw [upd_ne z]; exact a1, a2, a3⟩
end
namespace Y
noncomputable def gOk : Option (Nat × List T) → Mu → Prop
  | none, _ => True
  | some (j, ls), μ => cont μ (.br j) = some (.lst ls)
noncomputable def uCmp (gd : Option (Nat × List T)) (own : T → Mu → Option Mu) (dr : Mu → Mu) (ut : UT) (ue : UE) (Q : R → Mu → Prop) : List T → List T → Mu → Prop
  | [], acc, μ => gOk gd μ ∧ Q (.fr (.lst acc)) μ
  | t :: r, acc, μ => gOk gd μ ∧ acc.length < sizeLine ∧ (match own t μ with
    | none => False
    | some μ1 => ut μ1 fun b μ2 => if b = true then ue μ2 fun rr μ3 => (match rr.d with
        | .tr t' => uCmp gd own dr ut ue Q r (acc ++ [t']) (dr μ3)
        | _ => False) else uCmp gd own dr ut ue Q r acc (dr μ2))
/-- one name; two names of a pair -/
noncomputable def own1 (t : T) (μ : Mu) : Option Mu := some (.tr t :: μ)
noncomputable def own2 (t : T) (μ : Mu) : Option Mu := match t with
  | .tup [a, b] => some (.tr a :: .tr b :: μ)
  | _ => none
noncomputable def dr1 (μ : Mu) : Mu := μ.tail
noncomputable def dr2 (μ : Mu) : Mu := μ.tail.tail
noncomputable def uComp (own : T → Mu → Option Mu) (dr : Mu → Mu) (ui : UI) (ut : UT) (ue : UE) : UE := fun μ Q => ui μ fun items gd μ' => uCmp gd own dr ut ue Q items [] μ'
/-- how a turn's names are laid -/
structure OwnOk (K : PySem.W.Frag) (k : Nat) (g : TG) (own : T → Mu → Option Mu) (dr : Mu → Mu) (shF : Fx → Fx) (shA : (Nat → Addr) → Nat → Addr) : Prop where
  fK : ∀ F, (shF F).K = F.K
  step : ∀ (F : Fx) (ad : Nat → Addr) (B : AP') (σ : St) (H : Hp) (μ μ1 : Mu) (x : V) (t : T) (σ' : St) (Q : St → Hp → Prop), F.K = K → Rl F ad B σ H μ → Rep F.K H B x t → own t μ = some μ1 → σ'.length = k → (∀ σ1, σ1.length = k → Rl (shF F) (shA ad) B (σ1 ++ σ) H μ1 → Q (σ1 ++ σ) H) → g x (σ' ++ σ) H Q
  back : ∀ (F : Fx) (ad : Nat → Addr) (B : AP') (σ σ1 : St) (H : Hp) (μ : Mu), σ1.length = k → Rl (shF F) (shA ad) B (σ1 ++ σ) H μ → Rl F ad B σ H (dr μ)
  kp : ∀ (μ μ1 μ2 : Mu) (t : T), own t μ = some μ1 → Kp μ1 μ2 → Kp μ (dr μ2)
theorem len1 {α : Type _} {l : List α} (h : l.length = 1) : ∃ y, l = [y] := by
  rcases l with _ | ⟨a, _ | ⟨b, t⟩⟩
  · cases h
  · exact ⟨a, rfl⟩
  · cases h
theorem len2 {α : Type _} {l : List α} (h : l.length = 2) : ∃ y z, l = [y, z] := by
  rcases l with _ | ⟨a, t⟩
  · cases h
  · obtain ⟨b, rfl⟩ := len1 (Nat.succ.inj h)
    exact ⟨a, b, rfl⟩
theorem len3 {α : Type _} {l : List α} (h : l.length = 3) : ∃ x y z, l = [x, y, z] := by
  rcases l with _ | ⟨a, t⟩
  · cases h
  · obtain ⟨b, c, rfl⟩ := len2 (Nat.succ.inj h)
    exact ⟨a, b, c, rfl⟩
theorem len4 {α : Type _} {l : List α} (h : l.length = 4) : ∃ w x y z, l = [w, x, y, z] := by
  rcases l with _ | ⟨a, t⟩
  · cases h
  · obtain ⟨b, c, d, rfl⟩ := len3 (Nat.succ.inj h)
    exact ⟨a, b, c, d, rfl⟩
theorem own1_ok {K : PySem.W.Frag} : OwnOk K 1 (gName 0) own1 dr1 Fx.sh adS where
  fK := fun F => rfl
  step := fun F ad B σ H μ μ1 x t σ' Q hF l r e hk h => by
    cases e
    obtain ⟨y, rfl⟩ : ∃ y, σ' = [y] := by
      exact len1 hk
    exact h [some x] rfl (l.push r)
  back := fun F ad B σ σ1 H μ hk l => by
    obtain ⟨y, rfl⟩ : ∃ y, σ1 = [y] := by
      exact len1 hk
    exact l.popS
  kp := fun μ μ1 μ2 t e k => by cases e; exact k.tail
theorem re_comp {K : PySem.W.Frag} {k : Nat} {g : TG} {own : T → Mu → Option Mu} {dr : Mu → Mu} {shF : Fx → Fx} {shA : (Nat → Addr) → Nat → Addr} {wi : TI} {ui : UI} {tc : TT} {ut : UT} {te : TE} {ue : UE} (O : OwnOk K k g own dr shF shA) (hi : RI K wi ui) (ht : RT K tc ut) (he : RE K te ue) : RE K (tComp wi k g tc te) (uComp own dr ui ut ue) := by
  intro F ad B σ H μ Q Qt hF l q kk
  refine hi F ad B σ H μ _ _ hF l q fun J H1 μ1 items gd Src l1 f1 k1 it sr so gk q1 => ?_
  intro D hD
  have hnB := l1.notB hD
  have h0D := l1.new0 hD
  have hGD : F.G D = none := by
    cases q : F.G D with
    | none => rfl
    | some vs => have := (l1.gh D vs q).1; rw [hD] at this; cases this
  have nbx : ∀ (μ' : Mu), Kp μ μ' → ∀ (i : Nat) (s : Sl) (c : T), μ'[i]? = some s → s.box = some c → B (ad i) := fun μ' k i s c e b => by
    obtain ⟨s', c', e', b'⟩ := k.symm.fwd i s c e b
    exact l.own i s' c' e' b'
  refine ⟨fun i m ys σ' H' => m = items.length - i ∧ i ≤ items.length ∧ ∃ σ1 μ' acc, σ' = σ1 ++ σ ∧ σ1.length = k ∧ Rl (F.g D ys) ad (more B D) σ H' μ' ∧ Reps F.K H' (more B D) ys acc ∧ Fr B H (more B D) H' ∧ Kp μ μ' ∧ (gd = none → Src H' (more B D)) ∧ uCmp gd own dr ut ue Qt (items.drop i) acc μ',
    ⟨items.length, by simp, Nat.zero_le _, _, μ1, [], rfl, List.length_replicate, (l1.new hD).addG upd_same (.inl rfl) (fun i s c e b z => hnB (z ▸ nbx μ1 k1 i s c e b)), .nil, f1.trans (Fr.more hD), k1, fun z => ?_, q1⟩, ?_⟩
  · subst z; exact so _ _ _ _ (Fr.more hD) sr
  rintro i m ys σ' H' ⟨rfl, hi', σ1, μ', acc, rfl, hk, l2, ra, f2, k2, s2, q2⟩
  have hD2 := l2.atG.1
  refine ⟨hD2, ?_⟩
  have src : gOk gd μ' → Src H' (more B D) := fun hg => by
    cases gd with
    | none => exact s2 rfl
    | some jl => obtain ⟨j, ls⟩ := jl; exact so.1 _ _ _ _ (l2.dropG hGD) hg
  by_cases hlt : i < items.length
  · have ei : items[i]? = some items[i] := List.getElem?_eq_getElem hlt
    rw [List.drop_eq_getElem_cons hlt] at q2
    obtain ⟨hg, hz, q2⟩ := q2
    have sr2 := src hg
    obtain ⟨go, yl⟩ := it.step H' (more B D) i _ l2.trk sr2 ei
    refine .inr ⟨go, by rw [ra.length]; exact hz, fun x H3 y => ?_⟩
    obtain ⟨sm, rp⟩ := yl x H3 y
    split at q2
    · exact q2.elim
    · rename_i μ3 eo
      have f3 : Fr (more B D) H' (more B D) H3 := Fr.same sm
      have hF2 : (F.g D ys).K = K := hF
      refine O.step (F.g D ys) ad (more B D) σ H3 μ' μ3 x _ σ1 _ hF2 (l2.same sm) (by rw [hF2]; exact rp) eo hk fun σ4 hk4 l4 => ?_
      refine ht (shF (F.g D ys)) (shA ad) (more B D) _ H3 μ3 _ _ ((O.fK _).trans hF2) l4 q2 fun b H5 μ5 l5 f5 k5 q5 => ?_
      cases b with
      | true =>
        rw [if_pos rfl] at q5 ⊢
        refine he (shF (F.g D ys)) (shA ad) (more B D) _ H5 μ5 _ _ ((O.fK _).trans hF2) l5 q5 fun v H6 r6 μ6 v6 f6 k6 q6 => ?_
        have l6 := O.back (F.g D ys) ad (more B D) σ σ4 H6 μ6 hk4 v6.rl
        refine ⟨l6.atG.1, ?_⟩
        have hv := v6.hv
        split at q6
        · rename_i t' e6
          rw [e6] at hv
          have rv : Rep F.K H6 (more B D) v t' := by have := hv; unfold Hv at this; rw [O.fK] at this; exact this
          have fa := (f3.trans f5).trans f6.d
          have fs : Fr (more B D) H6 (more B D) (upd H6 D (.lst (ys ++ [v]))) := Fr.set (.inl rfl)
          refine ⟨items.length - (i + 1), by omega, rfl, hlt, σ4, dr μ6, acc ++ [t'], rfl, hk4, l6.setG h0D, ((ra.fr fa).append (.cons rv .nil)).fr fs, (f2.trans fa).trans fs, k2.trans (O.kp μ' μ3 μ6 _ eo (k5.trans k6)), fun z => ?_, q6⟩
          subst z
          exact so _ _ _ _ (fa.trans fs) (s2 rfl)
        · exact q6.elim
      | false =>
        rw [if_neg Bool.false_ne_true] at q5 ⊢
        have l6 := O.back (F.g D ys) ad (more B D) σ σ4 H5 μ5 hk4 l5
        have fa := f3.trans f5
        refine ⟨items.length - (i + 1), by omega, rfl, hlt, σ4, dr μ5, acc, rfl, hk4, l6, ra.fr fa, f2.trans fa, k2.trans (O.kp μ' μ3 μ5 _ eo k5), fun z => ?_, q5⟩
        subst z
        exact so _ _ _ _ fa (s2 rfl)
  · have e : i = items.length := by omega
    subst e
    rw [List.drop_length] at q2
    obtain ⟨hg, q2⟩ := q2
    have l3 := l2.dropG hGD
    refine .inl ⟨it.stop H' (more B D) (src hg), kk (.ref D) H' (.fr (.lst acc)) μ' ⟨l3.less (fun b z => .inr z) l.bc (nbx μ' k2) (fun a vs ga => ?_), D, rfl, hnB, h0D, l3, ys, hD2, ra⟩ f2 k2 q2⟩
    exact l.gB a vs ga
section
variable {X : Cx} {elt tg iter : Expr} {ifs : List Expr} {ue : UE} {ut : UT} {ui : UI} {pos pos' p2 : Pos} {x : Str} {osc scope : Scope} {ON own N : List Str}
theorem comp1 (S : CompScope osc ON scope own N) (hosc : X.env.scope = osc) (hON : X.N = ON) (hc : X.calm = true) (ho : own.length = 1) (hi : YI X tg iter ui)
    (hg : ∀ C s H fp, QG (cxComp X scope N C s H fp) tg (gName 0)) (ht : ∀ C s H fp, YTs (cxComp X scope N C s H fp) ifs ut) (he : ∀ C s H fp, YE (cxComp X scope N C s H fp) elt ue) (hs : ∀ x, foldedSetIterable iter X.env x = pure x := by intro _; rfl) :
    YE X (.ListComp elt [⟨tg, iter, ifs, 0⟩] scope pos) (uComp own1 dr1 ui ut ue) := by
  obtain ⟨t, q, r⟩ := hi
  have h := Z.comp (pos := pos) (tc := ttOf X.K ut) (te := teOf X.K ue) S hosc hON hc q hg (fun C s H fp => (ht C s H fp).can) (fun C s H fp => (he C s H fp).can) hs
  rw [ho] at h
  exact ⟨_, h, re_comp own1_ok r rt_of re_of⟩
theorem setC1 {j : Nat} (hN : X.N.Nodup) (hj : X.N[j]? = some x) (hx : Loc X.env.scope x) (S : CompScope osc ON scope own N) (hosc : X.env.scope = osc) (hON : X.N = ON) (hc : X.calm = true) (ho : own.length = 1) (hi : YI X tg iter ui)
    (hg : ∀ C s H fp, QG (cxComp X scope N C s H fp) tg (gName 0)) (ht : ∀ C s H fp, YTs (cxComp X scope N C s H fp) ifs ut) (he : ∀ C s H fp, YE (cxComp X scope N C s H fp) elt ue)
    (hsw : autoParam (swapsWith (.ListComp elt [⟨tg, iter, ifs, 0⟩] scope p2) (some (.Name x pos')) pos.line X.env = pure true) L2.aRfl._auto_1)
    (hf : autoParam (X.fn x = true ∨ X.env.scope.names.lookup x = some .local) L2.aLoc._auto_1) (hs : ∀ x, foldedSetIterable iter X.env x = pure x := by intro _; rfl) :
    YS X (.Assign [.Name x pos'] (.ListComp elt [⟨tg, iter, ifs, 0⟩] scope p2) pos) (uAsg (uComp own1 dr1 ui ut ue) (gN j)) := by
  obtain ⟨t, q, r⟩ := hi
  have h := Z.setC (tc := ttOf X.K ut) (te := teOf X.K ue) hN hj hx S hosc hON hc q hg (fun C s H fp => (ht C s H fp).can) (fun C s H fp => (he C s H fp).can) hsw hf hs
  rw [ho] at h
  exact ⟨_, h, rs_asg (re_comp own1_ok r rt_of re_of) rg_name⟩
theorem ts0 : YTs X [] (fun μ Q => Q true μ) := ⟨_, Z.ts0, fun F ad B σ H μ Q Qt hK l q k => k true H μ l Fr.refl (Kp.refl μ) q⟩
theorem ts1 {c : Expr} (h : YT X c ut) : YTs X [c] ut := by obtain ⟨t, q, r⟩ := h; exact ⟨t, Z.ts1 q, r⟩
end
end Y
end L2

set_option linter.all false
set_option maxRecDepth 100000
set_option maxHeartbeats 4000000
namespace L2
open PySem PySem.Spec PyProof.Rows
noncomputable def putS (μ : Mu) (j : Nat) (c : T) : Mu := match μ[j]? with
  | some s => μ.set j (s.put c)
  | none => μ
namespace Y
section
variable {X : Cx} {a b c e o tg it i : Expr} {es rest : List Expr} {ua ub uc ue uo ui : UE} {uA uB : UT} {us : UA} {pos pos' p p2 p3 apos : Pos} {x : Str} {st : Stmt} {sts xs ys : List Stmt} {u w : US}
noncomputable def gS (uo ui : UE) : UG := fun r μ Q => match r.d with
  | .tr t => uo μ fun ro μ1 => ui μ1 fun ri μ2 => (match ro, ri with
    | .br j, .tr (.int k) => (match (μ2[j]?).bind Sl.box with
      | some (.lst ts) => (match ixN ts.length k with
        | some n => Q (putS μ2 j (.lst (ts.set n t)))
        | none => False)
      | _ => False)
    | _, _ => False)
  | _ => False
theorem gsub (ho : YE X o uo) (hi : YE X i ui)
    (ha : ∀ v, assign (.Subscript o i pos) X.env v = (do
      let ov ← holding [v] (eval o X.env)
      let iv ← holding [v, ov] (eval i X.env)
      standAt pos
      holding [v, ov, iv] (setItem ov iv v)
      release [v, ov, iv] []) := by intro _; rfl) : YG X (.Subscript o i pos) (gS uo ui) := by
  obtain ⟨t, q, r⟩ := ho; obtain ⟨t', q', r'⟩ := hi
  refine ⟨_, Z.gsub q q' ha, fun F ad B σ H μ v rr B0 H0 Q Qt hF h f q k => ?_⟩
  unfold gS at q
  have f0 : Fr B0 H0 B H := fun b o h n => ⟨(f b o h n).1, fun z => (f b o h n).2 (by cases rr <;> first | exact z | (cases v <;> first | exact z | exact .inr z))⟩
  have hv := h.hv
  split at q
  · rename_i t0 e0
    rw [e0] at hv
    refine r F ad B σ H μ _ _ hF h.rl q fun ov H1 r1 μ1 v1 f1 k1 q1 => r' F ad B σ H1 μ1 _ _ hF v1.rl q1 fun iv H2 r2 μ2 v2 f2 k2 q2 => ?_
    split at q2
    · rename_i j kk
      have rp := v2.2
      cases rp
      obtain ⟨rfl, _⟩ := (v1.hv.fr f2.d k2)
      split at q2
      · rename_i ts e
        split at q2
        · rename_i n en
          cases ej : μ2[j]? with
          | none => rw [ej] at e; cases e
          | some s =>
            rw [ej] at e
            have e' : s.box = some (.lst ts) := e
            have l2 := v2.rl
            obtain ⟨vs, hl, rs⟩ := ((l2.slot j s ej).boxed e').2.2.1
            have rv : Rep F.K H2 B v t0 := (show Rep F.K H B v t0 from hv).fr (f1.d.trans f2.d)
            have l3 := l2.put ej e' (rs.set n rv)
            show uSet (.ref (ad j)) (.int kk) v H2 _
            rw [Ap.setRef, hl]
            simp only
            rw [rs.length, en]
            simp only
            unfold putS at q2
            rw [ej] at q2
            exact k ad B σ _ _ l3 ((f0.trans (f1.d.trans f2.d)).trans (Fr.set ((l2.slot j s ej).boxed e').2.1)) q2
        · exact q2.elim
      · exact q2.elim
    · exact q2.elim
  · exact q.elim
noncomputable abbrev UM := Nat → List R → Mu → (R → Mu → Prop) → Prop
noncomputable def uMe (um : UM) (uo : UE) (us : UA) : UE := fun μ Q => uo μ fun ro μ1 => match ro with
  | .br j => us μ1 fun rs μ2 => um j rs μ2 Q
  | _ => False
noncomputable def RM (K : PySem.W.Frag) (r : V → List V → Hp → VK → Prop) (um : UM) : Prop := ∀ (F : Fx) (ad : Nat → Addr) (B : AP') (σ : St) (H : Hp) (μ : Mu) (Q : VK) (Qt : R → Mu → Prop) (j : Nat) (s : Sl) (c : T) (xs : List V) (rs : List R), F.K = K → Rl F ad B σ H μ → μ[j]? = some s → s.box = some c → Paired (Hv F ad B H μ) xs rs → um j rs μ Qt →
  (∀ v H' r μ', Vr F ad B σ H' μ' v r → Fr B H (Bv B v r) H' → Kp μ μ' → Qt r μ' → Q v H') → r (.ref (ad j)) xs H Q
theorem bm (K : PySem.W.Frag) (hK : X.K = K) {name : Str} {id : String} {r : V → List V → Hp → VK → Prop} {um : UM} (slot : Slot "list" name id) (hty : typeOf (.builtin id) = pure (.type "method_descriptor")) (hm : MtR X id r) (hr : RM X.K r um) (ho : YE X o uo) (ha : YA X (e :: es) us)
    (hbase : autoParam (attributeBase o name X.env (eval o X.env) = eval o X.env) L2.aRfl._auto_1) (hline : autoParam ((apos.endLine == pos.line) = true) L2.aRfl._auto_1) (h : autoParam ((e :: es).all nst = true) L2.aRfl._auto_1) (hl : autoParam ((e :: es).length < 30) L2.aDec._auto_1) : YE X (.Call (.Attribute o name apos) (e :: es) [] pos) (uMe um uo us) := by
  obtain ⟨t, q, rr⟩ := ho; obtain ⟨t', q', r'⟩ := ha
  refine ⟨_, Z.bm K hK PySem.F.plainAttrs_list slot hty hm q q' hbase hline h hl, fun F ad B σ H μ Q Qt hF l q k => rr F ad B σ H μ _ _ hF l q fun v H1 r1 μ1 v1 f1 k1 q1 => ?_⟩
  split at q1
  · rename_i j
    obtain ⟨l1, rfl, s, c, e1, e2⟩ := v1
    obtain ⟨ts, vs, rfl, hl, _⟩ := ((l1.slot j s e1).boxed e2).2.2.1.lstIs
    refine ⟨.inl ⟨rfl, vs, SqL.of hl⟩, ?_⟩
    refine r' F ad B σ H1 μ1 _ _ hF l1 q1 fun xs H2 rs μ2 l2 ps f2 k2 q2 => ?_
    obtain ⟨s', c', e3, e4⟩ := k2.fwd j s _ e1 e2
    exact hr F ad B σ H2 μ2 _ _ j s' c' xs rs hF l2 e3 e4 ps q2 fun v H3 r3 μ3 v3 f3 k3 q3 => k v H3 r3 μ3 v3 ((f1.d.trans f2).trans f3) ((k1.trans k2).trans k3) q3
  · exact q1.elim
noncomputable def uAppend : UM := fun j rs μ Q => match rs with
  | [.tr t] => (match (μ[j]?).bind Sl.box with
    | some (.lst ts) => ts.length < sizeLine ∧ Q (.tr .non) (putS μ j (.lst (ts ++ [t])))
    | _ => False)
  | _ => False
theorem rm_append {K : PySem.W.Frag} : RM K rAppend uAppend := by
  intro F ad B σ H μ Q Qt j s c xs rs hF l e b ps q k
  unfold uAppend at q
  split at q
  · cases ps with
    | cons h ps =>
      cases ps
      rw [e] at q
      have q' : (match s.box with | some (.lst ts) => ts.length < sizeLine ∧ Qt (.tr .non) (putS μ j (.lst (ts ++ [_]))) | _ => False) := q
      rw [b] at q'
      obtain ⟨ts, vs, rfl, hl, rv⟩ := ((l.slot j s e).boxed b).2.2.1.lstIs
      simp only at q'
      refine ⟨_, _, _, rfl, rfl, hl, by rw [rv.length]; exact q'.1, ?_⟩
      have l3 := l.put e b (rv.append (.cons (rep_of h) .nil))
      have q2 := q'.2
      unfold putS at q2
      rw [e] at q2
      exact k _ _ (.tr .non) _ (Vr.flat l3 .non) (Fr.set ((l.slot j s e).boxed b).2.1) (Kp.set e b (Sl.put_box b)) q2
  · exact q.elim
end
end Y
noncomputable def bxA : List Bool → List V → List Addr
  | true :: md, .ref a :: vs => a :: bxA md vs
  | _ :: md, _ :: vs => bxA md vs
  | _, _ => []
noncomputable def AgOk (K : PySem.W.Frag) (H : Hp) (B : AP') : List Bool → List V → List T → Prop
  | [], [], [] => True
  | false :: md, v :: vs, t :: ts => Rep K H B v t ∧ AgOk K H B md vs ts
  | true :: md, v :: vs, t :: ts => (∃ a, v = .ref a ∧ B a ∧ Bx K H B a t) ∧ AgOk K H B md vs ts
  | _, _, _ => False
noncomputable abbrev TSp := List T → (R → List T → Prop) → Prop
noncomputable def ResOk (K : PySem.W.Frag) (H H' : Hp) (B : AP') (as : List Addr) (v : V) (outs : List T) : R → Prop
  | .tr t => Rep K H' B v t ∧ Paired (Bx K H' B) as outs
  | .fr c => ∃ a, v = .ref a ∧ H a = none ∧ ¬ B a ∧ Bx K H' (more B a) a c ∧ Paired (Bx K H' (more B a)) as outs
  | .br _ => False
noncomputable def spT (K : PySem.W.Frag) (md : List Bool) (tsp : TSp) : Sp := fun vs H Q _ => ∃ (B : AP') (args : List T) (Qt : R → List T → Prop), AgOk K H B md vs args ∧ (∀ b, B b → ∃ o, H b = some o) ∧ (bxA md vs).Nodup ∧ tsp args Qt ∧
  ∀ v H' r outs, Qt r outs → (∀ b o, H b = some o → b ∉ bxA md vs → H' b = some o) → ResOk K H H' B (bxA md vs) v outs r → Q v H'
theorem AgOk.len {K : PySem.W.Frag} {H : Hp} {B : AP'} : ∀ {md : List Bool} {vs : List V} {ts : List T}, AgOk K H B md vs ts → vs.length = md.length ∧ ts.length = md.length
  | [], [], [], _ => ⟨rfl, rfl⟩
  | false :: md, v :: vs, t :: ts, h => ⟨congrArg (· + 1) (AgOk.len h.2).1, congrArg (· + 1) (AgOk.len h.2).2⟩
  | true :: md, v :: vs, t :: ts, h => ⟨congrArg (· + 1) (AgOk.len h.2).1, congrArg (· + 1) (AgOk.len h.2).2⟩
theorem AgOk.get {K : PySem.W.Frag} {H : Hp} {B : AP'} : ∀ {md : List Bool} {vs : List V} {ts : List T} {i : Nat} {b : Bool}, AgOk K H B md vs ts → md[i]? = some b → ∃ v t, vs[i]? = some v ∧ ts[i]? = some t ∧ (if b = true then ∃ a, v = .ref a ∧ B a ∧ Bx K H B a t else Rep K H B v t)
  | [], [], [], i, b, _, e => by simp at e
  | c :: md, [], _, _, _, h, _ => by cases c <;> exact h.elim
  | c :: md, v :: vs, [], _, _, h, _ => by cases c <;> exact h.elim
  | c :: md, v :: vs, t :: ts, 0, b, h, e => by
    have e' : c = b := by simpa using e
    subst e'
    cases c with
    | false => exact ⟨v, t, rfl, rfl, by rw [if_neg Bool.false_ne_true]; exact h.1⟩
    | true => exact ⟨v, t, rfl, rfl, by rw [if_pos rfl]; exact h.1⟩
  | c :: md, v :: vs, t :: ts, i + 1, b, h, e => by
    have h2 : AgOk K H B md vs ts := by cases c <;> exact h.2
    obtain ⟨v', t', e1, e2, q⟩ := AgOk.get h2 (show md[i]? = some b by simpa using e)
    exact ⟨v', t', by simpa using e1, by simpa using e2, q⟩
theorem mem_bxA : ∀ {md : List Bool} {vs : List V} {i : Nat} {a : Addr}, md[i]? = some true → vs[i]? = some (.ref a) → a ∈ bxA md vs
  | [], _, _, _, e, _ => by simp at e
  | c :: md, [], _, _, _, e => by simp at e
  | c :: md, v :: vs, 0, a, e1, e2 => by
    have e1' : c = true := by simpa using e1
    have e2' : v = .ref a := by simpa using e2
    subst e1' e2'
    exact List.mem_cons_self
  | c :: md, v :: vs, i + 1, a, e1, e2 => by
    have := mem_bxA (md := md) (vs := vs) (i := i) (a := a) (by simpa using e1) (by simpa using e2)
    cases c with
    | false => exact this
    | true => cases v <;> first | exact List.mem_cons_of_mem _ this | exact this
theorem bxA_inj : ∀ {md : List Bool} {vs : List V} {i j : Nat} {a : Addr}, (bxA md vs).Nodup → md[i]? = some true → md[j]? = some true → vs[i]? = some (.ref a) → vs[j]? = some (.ref a) → i = j
  | [], _, _, _, _, _, e, _, _, _ => by simp at e
  | c :: md, [], _, _, _, _, _, _, e, _ => by simp at e
  | c :: md, v :: vs, i, j, a, nd, e1, e2, e3, e4 => by
    have tl : (bxA md vs).Nodup := by
      cases c with
      | false => exact nd
      | true => cases v <;> first | exact (List.nodup_cons.mp nd).2 | exact nd
    cases i with
    | zero =>
      have e1' : c = true := by simpa using e1
      have e3' : v = .ref a := by simpa using e3
      subst e1' e3'
      cases j with
      | zero => rfl
      | succ j => exact absurd (mem_bxA (md := md) (vs := vs) (i := j) (a := a) (by simpa using e2) (by simpa using e4)) (List.nodup_cons.mp nd).1
    | succ i => cases j with
      | zero =>
        have e1' : c = true := by simpa using e2
        have e3' : v = .ref a := by simpa using e4
        subst e1' e3'
        exact absurd (mem_bxA (md := md) (vs := vs) (i := i) (a := a) (by simpa using e1) (by simpa using e3)) (List.nodup_cons.mp nd).1
      | succ j => exact congrArg (· + 1) (bxA_inj tl (by simpa using e1) (by simpa using e2) (by simpa using e3) (by simpa using e4))
noncomputable def outsAt : List Bool → Nat → Mu → List T
  | [], _, _ => []
  | true :: md, i, μ => (match μ[i]? with
    | some (.pb c) => c :: outsAt md (i + 1) μ
    | _ => outsAt md (i + 1) μ)
  | false :: md, i, μ => outsAt md (i + 1) μ
theorem outs_of {P : Addr → T → Prop} {μ : Mu} : ∀ {md : List Bool} {vs : List V} {i : Nat}, vs.length = md.length → (∀ n, md[n]? = some true → ∃ a c, vs[n]? = some (.ref a) ∧ μ[i + n]? = some (.pb c) ∧ P a c) → Paired P (bxA md vs) (outsAt md i μ)
 := by
  intro md
  induction md with
  | nil =>
    intro vs i hl h
    cases vs with
    | nil => exact .nil
    | cons v vs => cases hl
  | cons b md ih =>
    intro vs i hl h
    cases vs with
    | nil => cases hl
    | cons v vs =>
      have rest := ih (vs := vs) (i := i + 1) (Nat.succ.inj hl) fun n e => by
        obtain ⟨a, c, e1, e2, p⟩ := h (n + 1) e
        exact ⟨a, c, e1, by rw [Nat.add_assoc, Nat.add_comm 1 n]; exact e2, p⟩
      cases b with
      | false => exact rest
      | true =>
        obtain ⟨a, c, e1, e2, p⟩ := h 0 rfl
        have e1' : v = .ref a := Option.some.inj e1
        subst e1'
        rw [Nat.add_zero] at e2
        show Paired P (a :: bxA md vs) (match μ[i]? with | some (.pb c) => c :: outsAt md (i + 1) μ | _ => outsAt md (i + 1) μ)
        rw [e2]
        exact .cons p rest
noncomputable def startM : List Bool → List T → Nat → Mu
  | b :: md, t :: ts, n => (if b = true then .pb t else .tr t) :: startM md ts (n - 1)
  | _, _, n => List.replicate n .un
noncomputable def edOf (md : List Bool) (Qt : R → List T → Prop) : Ed where
  nx := fun μ => Qt (.tr .non) (outsAt md 0 μ)
  rt := fun r μ => match r with
    | .tr t => Qt (.tr t) (outsAt md 0 μ)
    | .fr c => Qt (.fr c) (outsAt md 0 μ)
    | .br i => (match μ[i]? with
      | some (.bx c) => Qt (.fr c) (outsAt md 0 μ)
      | _ => False)
theorem startM_len : ∀ {md : List Bool} {ts : List T} {n : Nat}, ts.length = md.length → md.length ≤ n → (startM md ts n).length = n
  | [], [], n, _, _ => List.length_replicate
  | b :: md, t :: ts, n, h, hn => by
    cases n with
    | zero => simp at hn
    | succ n => exact congrArg (· + 1) (startM_len (by simpa using h) (by simpa using hn))
theorem startM_get : ∀ {md : List Bool} {ts : List T} {n i : Nat} {s : Sl}, (startM md ts n)[i]? = some s → s = .un ∨ ∃ b t, md[i]? = some b ∧ ts[i]? = some t ∧ s = (if b = true then .pb t else .tr t)
  | [], ts, n, i, s, e => by
    have e' : (List.replicate n Sl.un)[i]? = some s := by cases ts <;> exact e
    rw [List.getElem?_replicate] at e'
    split at e'
    · exact .inl (Option.some.inj e').symm
    · cases e'
  | b :: md, [], n, i, s, e => by
    have e' : (List.replicate n Sl.un)[i]? = some s := e
    rw [List.getElem?_replicate] at e'
    split at e'
    · exact .inl (Option.some.inj e').symm
    · cases e'
  | b :: md, t :: ts, n, 0, s, e => .inr ⟨b, t, rfl, rfl, by have e' : some (if b = true then Sl.pb t else .tr t) = some s := e; exact (Option.some.inj e').symm⟩
  | b :: md, t :: ts, n, i + 1, s, e => by
    rcases startM_get (md := md) (ts := ts) (n := n - 1) (i := i) (s := s) (by simpa [startM] using e) with h | ⟨b', t', h1, h2, h3⟩
    · exact .inl h
    · exact .inr ⟨b', t', by simpa using h1, by simpa using h2, h3⟩
theorem startM_of : ∀ {md : List Bool} {ts : List T} {n i : Nat} {b : Bool} {t : T}, md[i]? = some b → ts[i]? = some t → (startM md ts n)[i]? = some (if b = true then .pb t else .tr t)
  | [], _, _, _, _, _, e, _ => by simp at e
  | b :: md, [], _, _, _, _, _, e => by simp at e
  | b :: md, t :: ts, n, 0, b', t', e1, e2 => by
    have e1' : b = b' := by simpa using e1
    have e2' : t = t' := by simpa using e2
    subst e1' e2'
    rfl
  | b :: md, t :: ts, n, i + 1, b', t', e1, e2 => by
    have := startM_of (md := md) (ts := ts) (n := n - 1) (i := i) (b := b') (t := t') (by simpa using e1) (by simpa using e2)
    simpa [startM] using this
noncomputable def adOf (vs : List V) (i : Nat) : Addr := match vs[i]? with
  | some (.ref a) => a
  | _ => 0
noncomputable def pOf (md : List Bool) (vs : List V) (i : Nat) : Option Addr := match md[i]?, vs[i]? with
  | some true, some (.ref a) => some a
  | _, _ => none
theorem pOf_is {md : List Bool} {vs : List V} {i : Nat} {a : Addr} (h : pOf md vs i = some a) : md[i]? = some true ∧ vs[i]? = some (.ref a) := by
  unfold pOf at h
  split at h
  · rename_i e1 e2; cases h; exact ⟨e1, e2⟩
  · cases h
theorem pOf_of {md : List Bool} {vs : List V} {i : Nat} {a : Addr} (h1 : md[i]? = some true) (h2 : vs[i]? = some (.ref a)) : pOf md vs i = some a := by
  unfold pOf; rw [h1, h2]
noncomputable def fxOf (K : PySem.W.Frag) (H : Hp) (md : List Bool) (vs : List V) (B : AP') (bh : ∀ b, B b → ∃ o, H b = some o) : Fx := ⟨K, H, pOf md vs, B, bh, fun _ => none⟩
theorem rl_start {K : PySem.W.Frag} {H : Hp} {B : AP'} {md : List Bool} {vs : List V} {args : List T} {N : List Str} (ag : AgOk K H B md vs args) (bh : ∀ b, B b → ∃ o, H b = some o) (nd : (bxA md vs).Nodup) (hN : md.length ≤ N.length) :
    Rl (fxOf K H md vs B bh) (adOf vs) B (start N vs) H (startM md args N.length) := by
  obtain ⟨l1, l2⟩ := ag.len
  have sget : ∀ i v, vs[i]? = some v → (start N vs)[i]? = some (some v) := fun i v e => by
    have hi := (List.getElem?_eq_some_iff.mp e).1
    unfold start
    rw [List.getElem?_append_left (by simpa using hi), List.getElem?_map, e]; rfl
  refine ⟨?_, fun i s e => ?_, fun i j s u c d e1 e2 b1 b2 q => ?_, fun i a p => ?_, fun b z => z, bh, fun b o e n => e, fun a ws ga => by cases ga⟩
  · rw [startM_len l2 hN]
    unfold start
    rw [List.length_append, List.length_map, List.length_replicate]
    omega
  · rcases startM_get e with rfl | ⟨b, t, h1, h2, rfl⟩
    · trivial
    · obtain ⟨v, t', e1, e2, q⟩ := ag.get h1
      rw [h2] at e2
      cases e2
      cases b with
      | false =>
        rw [if_neg Bool.false_ne_true] at q
        rw [if_neg Bool.false_ne_true]
        exact ⟨v, sget i v e1, q⟩
      | true =>
        rw [if_pos rfl] at q
        rw [if_pos rfl]
        obtain ⟨a, rfl, hb, x⟩ := q
        have ea : adOf vs i = a := by unfold adOf; rw [e1]
        show _ ∧ _ ∧ _ ∧ _
        rw [ea]
        exact ⟨sget i _ e1, hb, pOf_of h1 e1, x⟩
  · have one : ∀ {i : Nat} {s : Sl} {c : T}, (startM md args N.length)[i]? = some s → s.box = some c → md[i]? = some true ∧ ∃ a, vs[i]? = some (.ref a) ∧ adOf vs i = a := fun {i s c} e b => by
      rcases startM_get e with rfl | ⟨b', t, h1, h2, rfl⟩
      · cases b
      · cases b' with
        | false => rw [if_neg Bool.false_ne_true] at b; cases b
        | true =>
          obtain ⟨v, t', e1, e2, q⟩ := ag.get h1
          rw [if_pos rfl] at q
          obtain ⟨a, rfl, _⟩ := q
          exact ⟨h1, a, e1, by unfold adOf; rw [e1]⟩
    obtain ⟨m1, a1, v1, z1⟩ := one e1 b1
    obtain ⟨m2, a2, v2, z2⟩ := one e2 b2
    rw [z1, z2] at q
    subst q
    exact bxA_inj nd m1 m2 v1 v2
  · obtain ⟨h1, h2⟩ := pOf_is p
    obtain ⟨v, t', e1, e2, q⟩ := ag.get h1
    refine ⟨⟨t', ?_⟩, by unfold adOf; rw [h2]⟩
    have := startM_of (n := N.length) h1 e2
    rw [if_pos rfl] at this
    exact this
theorem HasFn.okT {P : Program} {w : World} {K : PySem.W.Frag} {mg : Str → Option Value} {base : Heap} {x : Str} {st : Stmt} {N ps : List Str} {k : Nat} {tsp : TSp} (F : HasFn K mg x st ps) (S : FnScope N ps (defScope st)) (md : List Bool) (hm : md.length = ps.length) (hN : md.length ≤ N.length)
    (hbody : ∀ (args : List T) (Qt : R → List T → Prop), args.length = ps.length → tsp args Qt → ∀ (f : Addr) (cdv : Value) (A : Around) (outer : List Env) (s : Shared) (H : Hp) (E : XK), Room k (A.deeper (envOfC x (defScope st) s.heap.objs.size f cdv)) →
      ∃ us, YB (cxOf CX0 P w K mg base N x (defScope st) f cdv A outer s H E).nox (defBody st) us ∧ us (edOf md Qt) (startM md args N.length)) : CallOk P w K mg base CX0 (k + 1) x ps (spT K md tsp) := by
  refine F.okQ S (fun vs H Q E h => ?_) (fun f cdv A outer s H vs Q E hr h => ?_)
  · obtain ⟨B, args, Qt, ag, _⟩ := h
    rw [ag.len.1, hm]
  · obtain ⟨B, args, Qt, ag, bh, nd, ht, fin⟩ := h
    obtain ⟨us, ⟨t, q, r⟩, hu⟩ := hbody args Qt (by rw [ag.len.2, hm]) ht f cdv A outer s H E hr
    refine ⟨t, q, ?_⟩
    have l0 := rl_start (N := N) ag bh nd hN
    -- what is told of the boxes at the end
    have outs : ∀ ad' B' σ' H' μ' (B2 : AP'), Rl (fxOf K H md vs B bh) ad' B' σ' H' μ' → (∀ b, B2 b → B' b) → Paired (Bx K H' B2) (bxA md vs) (outsAt md 0 μ') := fun ad' B' σ' H' μ' B2 l hB => by
      refine outs_of (ag.len.1) fun n e => ?_
      obtain ⟨v, t', e1, e2, q⟩ := ag.get e
      rw [if_pos rfl] at q
      obtain ⟨a, rfl, _⟩ := q
      obtain ⟨⟨c, hc⟩, ha⟩ := l.par n a (pOf_of e e1)
      have sl := l.slot n _ hc
      refine ⟨a, c, e1, by rw [Nat.zero_add]; exact hc, ?_⟩
      rw [← ha]
      exact (sl.2.2.2).of rfl (Fr.less hB)
    have keep : ∀ ad' B' σ' H' μ', Rl (fxOf K H md vs B bh) ad' B' σ' H' μ' → ∀ b o, H b = some o → b ∉ bxA md vs → H' b = some o := fun ad' B' σ' H' μ' l b o e n => l.old b o e fun i z => n (mem_bxA (pOf_is z).1 (pOf_is z).2)
    refine r (fxOf K H md vs B bh) _ _ (adOf vs) B (start N vs) H _ rfl l0 hu ⟨fun ad' B' σ' H' μ' l _ q => ?_, fun ad' B' σ' H' μ' v rr h q => ?_, fun _ _ _ _ _ _ _ z => z.elim, fun _ _ _ _ _ _ _ z => z.elim⟩
    · exact fin .non H' (.tr .non) _ q (keep _ _ _ _ _ l) ⟨.non, outs _ _ _ _ _ _ l l.bc⟩
    · cases rr with
      | tr t => exact fin v H' (.tr t) _ q (keep _ _ _ _ _ h.1) ⟨(show Rep K H' B' v t from h.2).fr (Fr.less h.1.bc), outs _ _ _ _ _ _ h.1 h.1.bc⟩
      | fr c =>
        obtain ⟨l, a, rfl, n, h0, l2, x⟩ := h
        have sub : ∀ b, more B a b → more B' a b := fun b z => z.imp id (l.bc b)
        exact fin _ H' (.fr c) _ q (keep _ _ _ _ _ l) ⟨a, rfl, h0, fun z => n (l.bc a z), x.of rfl (Fr.less sub), outs _ _ _ _ _ _ l2 sub⟩
      | br i =>
        have q' : (match μ'[i]? with | some (.bx c) => Qt (.fr c) (outsAt md 0 μ') | _ => False) := q
        obtain ⟨l, rfl, s', c', e1, e2⟩ := h
        split at q'
        · rename_i c ec
          have sl := l.slot i _ ec
          have sub : ∀ b, more B (ad' i) b → B' b := fun b z => z.elim (fun z => by rw [z]; exact sl.2.1) (l.bc b)
          refine fin _ H' (.fr c) _ q' (keep _ _ _ _ _ l) ⟨ad' i, rfl, sl.2.2.1, fun z => ?_, (sl.2.2.2.2).of rfl (Fr.less sub), outs _ _ _ _ _ _ l sub⟩
          obtain ⟨o, e⟩ := bh _ z
          have : H (ad' i) = none := sl.2.2.1
          rw [this] at e; cases e
        · exact q'.elim
end L2

set_option linter.all false
set_option maxRecDepth 100000
set_option maxHeartbeats 4000000
namespace L2
open PySem PySem.Spec PyProof.Rows
noncomputable def agT (μ : Mu) : List Bool → List R → Option (List T)
  | [], [] => some []
  | false :: md, r :: rs => (match cont μ r, agT μ md rs with
    | some t, some ts => some (t :: ts)
    | _, _ => none)
  | true :: md, .br j :: rs => (match cont μ (.br j), agT μ md rs with
    | some t, some ts => some (t :: ts)
    | _, _ => none)
  | _, _ => none
noncomputable def bxS : List Bool → List R → List Nat
  | true :: md, .br j :: rs => j :: bxS md rs
  | _ :: md, _ :: rs => bxS md rs
  | _, _ => []
noncomputable def roS : List Bool → List R → List Nat
  | false :: md, .br j :: rs => j :: roS md rs
  | _ :: md, _ :: rs => roS md rs
  | _, _ => []
noncomputable def flatC : T → Bool
  | .lst ts => ts.all flatT
  | t => flatT t
noncomputable def flatR : R → Bool
  | .tr t => flatT t
  | .fr c => flatC c
  | .br _ => false
noncomputable def putAll : List Nat → List T → Mu → Mu
  | j :: js, c :: cs, μ => putAll js cs (putS μ j c)
  | _, _, μ => μ
theorem putS_ne {μ : Mu} {i j : Nat} {c : T} (h : i ≠ j) : (putS μ j c)[i]? = μ[i]? := by
  unfold putS
  split
  · rw [List.getElem?_set_ne (Ne.symm h)]
  · rfl
theorem putS_eq {μ : Mu} {j : Nat} {c : T} {s : Sl} (e : μ[j]? = some s) : (putS μ j c)[j]? = some (s.put c) := by
  unfold putS
  rw [e]
  exact List.getElem?_set_self (List.getElem?_eq_some_iff.mp e).1
theorem putS_len {μ : Mu} {j : Nat} {c : T} : (putS μ j c).length = μ.length := by
  unfold putS
  split
  · exact List.length_set
  · rfl
theorem putAll_len : ∀ {js : List Nat} {cs : List T} {μ : Mu}, (putAll js cs μ).length = μ.length
  | [], _, _ => rfl
  | _ :: _, [], _ => rfl
  | j :: js, c :: cs, μ => (putAll_len (js := js)).trans putS_len
theorem putAll_ne : ∀ {js : List Nat} {cs : List T} {μ : Mu} {i : Nat}, i ∉ js → (putAll js cs μ)[i]? = μ[i]?
  | [], _, _, _, _ => rfl
  | _ :: _, [], _, _, _ => rfl
  | j :: js, c :: cs, μ, i, h => (putAll_ne (js := js) (fun z => h (List.mem_cons_of_mem _ z))).trans (putS_ne fun z => h (z ▸ List.mem_cons_self))
theorem putAll_mem {P : Addr → T → Prop} {ad : Nat → Addr} : ∀ {js : List Nat} {cs : List T} {μ : Mu} {i : Nat} {s : Sl}, js.Nodup → Paired P (js.map ad) cs → i ∈ js → μ[i]? = some s → ∃ c, (putAll js cs μ)[i]? = some (s.put c) ∧ P (ad i) c
  | [], _, _, _, _, _, _, h, _ => by cases h
  | j :: js, c :: cs, μ, i, s, nd, .cons p ps, h, e => by
    rw [List.nodup_cons] at nd
    by_cases z : i = j
    · subst z
      refine ⟨c, ?_, p⟩
      show (putAll js cs (putS μ i c))[i]? = _
      rw [putAll_ne nd.1]
      exact putS_eq e
    · rcases List.mem_cons.mp h with z' | z'
      · exact absurd z' z
      · exact putAll_mem (js := js) nd.2 ps z' (by rw [putS_ne z]; exact e)
theorem Rl.call {F : Fx} {ad : Nat → Addr} {B B2 : AP'} {σ : St} {H H' : Hp} {μ : Mu} {js : List Nat} {outs : List T} (l : Rl F ad B σ H μ) (hb : ∀ j ∈ js, ∃ (s : Sl) (c : T), μ[j]? = some s ∧ s.box = some c) (nd : js.Nodup)
    (keep : ∀ b o, H b = some o → b ∉ js.map ad → H' b = some o) (sB : ∀ b, B b → B2 b) (nB : ∀ b o, H b = some o → ¬ B b → ¬ B2 b) (tB : ∀ b, B2 b → ¬ B b → ∃ o, H' b = some o) (ps : Paired (Bx F.K H' B2) (js.map ad) outs) :
    Rl F ad B2 σ H' (putAll js outs μ) ∧ Kp μ (putAll js outs μ) ∧ Fr B H B2 H' := by
  have inB : ∀ b ∈ js.map ad, B b := fun b hb' => by
    obtain ⟨j, hj, rfl⟩ := List.mem_map.mp hb'
    obtain ⟨s, c, e, q⟩ := hb j hj
    exact l.own j s c e q
  have f : Fr B H B2 H' := fun b o e n => ⟨keep b o e fun z => n (inB b z), nB b o e n⟩
  have cases' : ∀ i s, (putAll js outs μ)[i]? = some s → (i ∉ js ∧ μ[i]? = some s) ∨ (i ∈ js ∧ ∃ s0 c0 c, μ[i]? = some s0 ∧ s0.box = some c0 ∧ s = s0.put c ∧ Bx F.K H' B2 (ad i) c) := fun i s e => by
    by_cases z : i ∈ js
    · obtain ⟨s0, c0, e0, q0⟩ := hb i z
      obtain ⟨c, e1, p⟩ := putAll_mem nd ps z e0
      rw [e1] at e
      exact .inr ⟨z, s0, c0, c, e0, q0, (Option.some.inj e).symm, p⟩
    · rw [putAll_ne z] at e
      exact .inl ⟨z, e⟩
  have boxOld : ∀ (i : Nat) (s : Sl) (c : T), (putAll js outs μ)[i]? = some s → s.box = some c → ∃ (s0 : Sl) (c0 : T), μ[i]? = some s0 ∧ s0.box = some c0 := fun i s c e b => by
    rcases cases' i s e with ⟨_, e'⟩ | ⟨_, s0, c0, _, e0, q0, _⟩
    · exact ⟨s, c, e', b⟩
    · exact ⟨s0, c0, e0, q0⟩
  have ne : ∀ (i : Nat) (s : Sl) (c : T), i ∉ js → μ[i]? = some s → s.box = some c → ad i ∉ js.map ad := fun i s c z e b hm => by
    obtain ⟨j, hj, q⟩ := List.mem_map.mp hm
    obtain ⟨s0, c0, e0, q0⟩ := hb j hj
    exact z (l.inj i j s s0 c c0 e e0 b q0 q.symm ▸ hj)
  refine ⟨⟨by rw [putAll_len]; exact l.len, fun i s e => ?_, fun i j s u c d e1 e2 b1 b2 q => ?_, fun i a p => ?_, fun b z => sB b (l.bc b z), fun b z => ?_, fun b o e n => ?_, fun a ws ga => ?_⟩, fun i => ?_, f⟩
  · rcases cases' i s e with ⟨z, e'⟩ | ⟨z, s0, c0, c, e0, q0, rfl, x⟩
    · have k := l.slot i s e'
      unfold SlOk at k ⊢
      split at k
      · trivial
      · obtain ⟨v, e1, r1⟩ := k; exact ⟨v, e1, r1.fr f⟩
      · obtain ⟨e1, b, z0, p, x⟩ := k
        obtain ⟨o, eo⟩ := x.trk
        exact ⟨e1, sB _ b, z0, p, x.of ((keep _ o eo (ne i _ _ z e' rfl)).trans eo.symm) f⟩
      · obtain ⟨e1, b, p, x⟩ := k
        obtain ⟨o, eo⟩ := x.trk
        exact ⟨e1, sB _ b, p, x.of ((keep _ o eo (ne i _ _ z e' rfl)).trans eo.symm) f⟩
    · have k := l.slot i s0 e0
      cases s0 with
      | un => cases q0
      | tr t => cases q0
      | bx d => exact ⟨k.1, sB _ k.2.1, k.2.2.1, k.2.2.2.1, x⟩
      | pb d => exact ⟨k.1, sB _ k.2.1, k.2.2.1, x⟩
  · obtain ⟨s1, c1, g1, g2⟩ := boxOld i s c e1 b1
    obtain ⟨s2, c2, g3, g4⟩ := boxOld j u d e2 b2
    exact l.inj i j s1 s2 c1 c2 g1 g3 g2 g4 q
  · obtain ⟨⟨c, e⟩, ha⟩ := l.par i a p
    refine ⟨?_, ha⟩
    by_cases z : i ∈ js
    · obtain ⟨c', e1, _⟩ := putAll_mem nd ps z e
      exact ⟨c', e1⟩
    · exact ⟨c, by rw [putAll_ne z]; exact e⟩
  · by_cases zb : B b
    · obtain ⟨o, e⟩ := l.trk b zb
      by_cases z2 : b ∈ js.map ad
      · obtain ⟨j, hj, rfl⟩ := List.mem_map.mp z2
        obtain ⟨s0, c0, e0, q0⟩ := hb j hj
        obtain ⟨c, _, x⟩ := putAll_mem nd ps hj e0
        exact x.trk
      · exact ⟨o, keep b o e z2⟩
    · exact tB b z zb
  · have e2 := l.old b o e n
    refine keep b o e2 fun hm => ?_
    obtain ⟨j, hj, rfl⟩ := List.mem_map.mp hm
    obtain ⟨s0, c0, e0, q0⟩ := hb j hj
    rcases ((l.slot j s0 e0).boxed q0).2.2.2 with z | z
    · exact n j z
    · rw [z] at e; cases e
  · obtain ⟨g1, g2, g3⟩ := l.gh a ws ga
    refine ⟨keep a _ g1 fun hm => ?_, sB a g2, fun i s c e b => ?_⟩
    · obtain ⟨j, hj, q⟩ := List.mem_map.mp hm
      obtain ⟨s0, c0, e0, q0⟩ := hb j hj
      exact g3 j s0 c0 e0 q0 q
    · obtain ⟨s0, c0, e0, q0⟩ := boxOld i s c e b
      exact g3 i s0 c0 e0 q0
  · by_cases z : i ∈ js
    · obtain ⟨s0, c0, e0, q0⟩ := hb i z
      obtain ⟨c, e1, _⟩ := putAll_mem nd ps z e0
      rw [e0, e1]
      show (s0.box).isSome = ((s0.put c).box).isSome
      rw [q0, Sl.put_box q0]; rfl
    · rw [putAll_ne z]
theorem ag_of {F : Fx} {ad : Nat → Addr} {B : AP'} {σ : St} {H : Hp} {μ : Mu} (l : Rl F ad B σ H μ) (ro : List Nat) : ∀ {md : List Bool} {xs : List V} {rs : List R} {args : List T}, Paired (Hv F ad B H μ) xs rs → agT μ md rs = some args → (∀ j ∈ roS md rs, j ∈ ro) → (∀ j ∈ bxS md rs, j ∉ ro) →
    (∀ j ∈ ro, ∃ (s : Sl) (c : T), μ[j]? = some s ∧ s.box = some c) →
    AgOk F.K H (fun b => B b ∧ ∀ j ∈ ro, b ≠ ad j) md xs args ∧ bxA md xs = (bxS md rs).map ad ∧ ∀ j ∈ bxS md rs, ∃ (s : Sl) (c : T), μ[j]? = some s ∧ s.box = some c := by
  intro md
  induction md with
  | nil =>
    intro xs rs args p e _ _ _
    cases p with
    | nil => cases e; exact ⟨trivial, rfl, fun j h => by cases h⟩
    | cons h p => cases e
  | cons bb md ih =>
    intro xs rs args pp e h1 h2 h3
    cases pp with
    | nil => cases bb <;> cases e
    | cons h p =>
      rename_i x r xs2 rs
      cases bb with
      | false =>
        unfold agT at e
        split at e
        · rename_i t ts e1 e2
          cases e
          have sub : ∀ j ∈ roS md rs, j ∈ ro := fun j hj => h1 j (by cases r <;> first | exact hj | exact List.mem_cons_of_mem _ hj)
          obtain ⟨g1, g2, g3⟩ := ih p e2 sub h2 h3
          refine ⟨⟨?_, g1⟩, ?_, g3⟩
          · cases r with
            | tr t' =>
              have e1' : t' = t := Option.some.inj e1
              subst e1'
              exact (show Rep F.K H B x t' from h).fr (Fr.less fun _ z => z.1)
            | br j =>
              obtain ⟨rfl, s, c, q1, q2⟩ := h
              have e1' : (μ[j]?).bind Sl.box = some t := e1
              rw [q1] at e1'
              have bx := ((l.slot j s q1).boxed (c := t) e1').2.2.1
              exact (bx.of rfl (Fr.less fun _ z => z.1)).rep fun z => z.2 j (h1 j List.mem_cons_self) rfl
            | fr c => exact h.elim
          · show bxA (false :: md) (_ :: _) = _
            rw [show bxS (false :: md) (r :: rs) = bxS md rs by cases r <;> rfl]
            exact g2
        · cases e
      | true =>
        cases r with
        | tr t => cases e
        | fr c => cases e
        | br j =>
          unfold agT at e
          split at e
          · rename_i t ts e1 e2
            cases e
            obtain ⟨g1, g2, g3⟩ := ih p e2 h1 (fun i hi => h2 i (List.mem_cons_of_mem _ hi)) h3
            obtain ⟨rfl, s, c, q1, q2⟩ := h
            have e1' : (μ[j]?).bind Sl.box = some t := e1
            rw [q1] at e1'
            have bx := (l.slot j s q1).boxed (c := t) e1'
            refine ⟨⟨⟨ad j, rfl, ⟨bx.2.1, fun i hi z => ?_⟩, bx.2.2.1.of rfl (Fr.less fun _ z => z.1)⟩, g1⟩, congrArg (ad j :: ·) g2, fun i hi => ?_⟩
            · obtain ⟨s', c', q3, q4⟩ := h3 i hi
              have := l.inj j i s s' t c' q1 q3 e1' q4 z
              subst this
              exact h2 j List.mem_cons_self hi
            · rcases List.mem_cons.mp hi with z | z
              · subst z; exact ⟨s, t, q1, e1'⟩
              · exact g3 i z
          · cases e
theorem ro_box {F : Fx} {ad : Nat → Addr} {B : AP'} {H : Hp} {μ : Mu} : ∀ {md : List Bool} {xs : List V} {rs : List R}, Paired (Hv F ad B H μ) xs rs → ∀ j ∈ roS md rs, ∃ (s : Sl) (c : T), μ[j]? = some s ∧ s.box = some c
  | [], _, _, _, j, h => by cases h
  | b :: md, _, _, .nil, j, h => by cases b <;> cases h
  | b :: md, _, r :: rs, .cons h p, j, hj => by
    cases b with
    | true => exact ro_box (md := md) p j (by cases r <;> exact hj)
    | false =>
      cases r with
      | tr t => exact ro_box (md := md) p j hj
      | fr c => exact h.elim
      | br i =>
        rcases List.mem_cons.mp hj with z | z
        · subst z; exact h.2
        · exact ro_box (md := md) p j z
theorem Bx.flat {K : PySem.W.Frag} {H : Hp} {B B' : AP'} {a : Addr} {c : T} (h : Bx K H B a c) (f : flatC c = true) : Bx K H B' a c := by
  obtain ⟨ts, vs, rfl, e, r⟩ := h.lstIs
  exact ⟨vs, e, r.flat f⟩
theorem Paired.flatB {K : PySem.W.Frag} {H : Hp} {B B' : AP'} : ∀ {as : List Addr} {outs : List T}, Paired (Bx K H B) as outs → outs.all flatC = true → Paired (Bx K H B') as outs
  | _, _, .nil, _ => .nil
  | _, _, .cons h p, f => by
    rw [List.all_cons, Bool.and_eq_true] at f
    exact .cons (h.flat f.1) (Paired.flatB p f.2)
namespace Y
noncomputable def uFn (md : List Bool) (tsp : TSp) (us : UA) : UE := fun μ Q => us μ fun rs μ1 => match agT μ1 md rs with
  | some args => (bxS md rs).Nodup ∧ (∀ j ∈ bxS md rs, j ∉ roS md rs) ∧ tsp args fun r outs => (roS md rs = [] ∨ (flatR r = true ∧ outs.all flatC = true)) ∧ Q r (putAll (bxS md rs) outs μ1)
  | none => False
theorem re_fn {K : PySem.W.Frag} {md : List Bool} {tsp : TSp} {E : XK} {t : TA} {us : UA} (ha : RA K t us) : RE K (tCall (spT K md tsp) [] E t) (uFn md tsp us) := by
  intro F ad B σ H μ Q Qt hF l q k
  refine ha F ad B σ H μ _ _ hF l q fun vs H1 rs μ1 l1 ps f1 k1 q1 => ?_
  split at q1
  · rename_i args ea
    obtain ⟨nd, dj, q1⟩ := q1
    have hro := ro_box (md := md) ps
    obtain ⟨ag, eb, hb⟩ := ag_of l1 (roS md rs) ps ea (fun j h => h) dj hro
    rw [hF] at ag
    show spT K md tsp (vs ++ []) H1 Q E
    rw [List.append_nil]
    have inj : ∀ {js : List Nat}, js.Nodup → (∀ j ∈ js, ∃ (s : Sl) (c : T), μ1[j]? = some s ∧ s.box = some c) → (js.map ad).Nodup := fun {js} => by
      induction js with
      | nil => exact fun _ _ => List.nodup_nil
      | cons j js ih =>
        intro nd hb
        rw [List.nodup_cons] at nd
        rw [List.map_cons, List.nodup_cons]
        refine ⟨fun hm => ?_, ih nd.2 fun i hi => hb i (List.mem_cons_of_mem _ hi)⟩
        obtain ⟨i, hi, z⟩ := List.mem_map.mp hm
        obtain ⟨s1, c1, e1, b1⟩ := hb j List.mem_cons_self
        obtain ⟨s2, c2, e2, b2⟩ := hb i (List.mem_cons_of_mem _ hi)
        exact nd.1 (l1.inj i j s2 s1 c2 c1 e2 e1 b2 b1 z ▸ hi)
    refine ⟨_, args, _, ag, fun b z => l1.trk b z.1, by rw [eb]; exact inj nd hb, q1, fun v H2 r outs hq keep res => ?_⟩
    rw [eb] at keep res
    obtain ⟨hfl, hq⟩ := hq
    have nro : ∀ {b : Addr}, roS md rs = [] → B b → B b ∧ ∀ j ∈ roS md rs, b ≠ ad j := fun {b} z h => ⟨h, fun j hj => by rw [z] at hj; cases hj⟩
    cases r with
    | br i => exact res.elim
    | tr t =>
      obtain ⟨rv, po⟩ := res
      have rv' : Rep F.K H2 B v t := by
        rw [hF]
        rcases hfl with z | z
        · exact rv.fr (Fr.less fun b h => nro z h)
        · exact rv.flat z.1
      have po' : Paired (Bx F.K H2 B) ((bxS md rs).map ad) outs := by
        rw [hF]
        rcases hfl with z | z
        · exact Paired.mapP po fun a c h => h.of rfl (Fr.less fun b h => nro z h)
        · exact Paired.flatB po z.2
      obtain ⟨l2, k2, f2⟩ := l1.call hb nd keep (fun _ z => z) (fun _ _ _ z => z) (fun b z n => absurd z n) po'
      exact k v H2 (.tr t) _ ⟨l2, rv'⟩ (f1.trans f2) (k1.trans k2) hq
    | fr c =>
      obtain ⟨a, rfl, ha0, nBa, x, po⟩ := res
      have nBa' : ¬ B a := l1.notB ha0
      have sub : roS md rs = [] → ∀ b, more B a b → more (fun b => B b ∧ ∀ j ∈ roS md rs, b ≠ ad j) a b := fun z b h => h.imp id fun h => nro z h
      have x' : Bx F.K H2 (more B a) a c := by
        rw [hF]
        rcases hfl with z | z
        · exact x.of rfl (Fr.less (sub z))
        · exact x.flat z.1
      have po' : Paired (Bx F.K H2 (more B a)) ((bxS md rs).map ad) outs := by
        rw [hF]
        rcases hfl with z | z
        · exact Paired.mapP po fun a' c h => h.of rfl (Fr.less (sub z))
        · exact Paired.flatB po z.2
      have po2 : Paired (Bx F.K H2 B) ((bxS md rs).map ad) outs := Paired.mapP po' fun a' c h => h.of rfl (Fr.less fun _ z => .inr z)
      obtain ⟨l2, k2, f2⟩ := l1.call hb nd keep (fun _ z => z) (fun _ _ _ z => z) (fun b z n => absurd z n) po2
      obtain ⟨l3, _, f3⟩ := l1.call (B2 := more B a) hb nd keep (fun _ z => .inr z) (fun b o e n z => z.elim (fun z => by rw [z, ha0] at e; cases e) n) (fun b z n => z.elim (fun z => by rw [z]; exact x'.trk) fun z => absurd z n) po'
      exact k _ H2 (.fr c) _ ⟨l2, a, rfl, nBa', l1.new0 ha0, l3, x'⟩ (f1.trans f3) (k1.trans k2) hq
  · exact q1.elim
section
variable {X : Cx} {e : Expr} {es : List Expr} {us : UA} {pos p : Pos} {x : Str} {k : Nat} {ps : List Str} {md : List Bool} {tsp : TSp} {E : XK}
theorem fn (K : PySem.W.Frag) (hK : X.K = K) (F : CallOk X.prog X.w X.K X.mg X.base CX0 k x ps (spT K md tsp)) (hr : Room k X.A) (hg : Gl X x) (hx : Passes CX0 X E) (ha : YA X (e :: es) us) (h1 : autoParam (nst e = true) L2.aRfl._auto_1) (h2 : autoParam (es.all nst = true) L2.aRfl._auto_1) (hdb : autoParam ((x == ("__debug__" : Str)) = false) L2.aDec._auto_1) :
    YE X (.Call (.Name x p) (e :: es) [] pos) (uFn md tsp us) := by
  obtain ⟨t, q, r⟩ := ha
  subst hK
  exact ⟨_, Z.fn F hr hg hx q h1 h2 hdb, re_fn r⟩
end
end Y
noncomputable def tspLaw : TSp := fun args Q => ∃ ns : List Int, args = [.rol (ns.map T.int)] ∧ ns.length ≤ 63 ∧ Q (.tr (.bl true)) []
end L2

set_option linter.all false
set_option maxRecDepth 100000
set_option maxHeartbeats 4000000
namespace L2
open PySem PySem.Spec PyProof.Rows
section
variable {prog : Program} {w : World} {A : Around} {E : Value → Shared → Prop} {s : Shared}
/-- which stand apart -/
structure ZA (z TI TO i1 i2 l1 l2 : Addr) : Prop where
  a1 : TI ≠ z
  a2 : TO ≠ z
  a3 : i1 ≠ z
  a4 : i2 ≠ z
  a5 : TO ≠ i1
  a6 : TO ≠ i2
  a7 : i1 ≠ i2
  a8 : l1 ≠ z ∧ l1 ≠ TO ∧ l1 ≠ i1 ∧ l1 ≠ i2
  a9 : l2 ≠ z ∧ l2 ≠ TO ∧ l2 ≠ i1 ∧ l2 ≠ i2
  b1 : TI ≠ TO ∧ TI ≠ i1 ∧ TI ≠ i2
theorem ZA.f1 {z TI TO i1 i2 l1 l2 : Addr} (D : ZA z TI TO i1 i2 l1 l2) {e : Addr} (he : e = z ∨ e = TO ∨ e = i2) : ∀ b ∈ [i1, l1], b ≠ e := fun b hb => by
  rcases List.mem_cons.mp hb with rfl | hb
  · rcases he with rfl | rfl | rfl
    · exact D.a3
    · exact D.a5.symm
    · exact D.a7
  · have hb : b = l1 := by simpa using hb
    subst hb
    rcases he with rfl | rfl | rfl
    · exact D.a8.1
    · exact D.a8.2.1
    · exact D.a8.2.2.2
theorem ZA.f2 {z TI TO i1 i2 l1 l2 : Addr} (D : ZA z TI TO i1 i2 l1 l2) {e : Addr} (he : e = z ∨ e = TO ∨ e = i1) : ∀ b ∈ [i2, l2], b ≠ e := fun b hb => by
  rcases List.mem_cons.mp hb with rfl | hb
  · rcases he with rfl | rfl | rfl
    · exact D.a4
    · exact D.a6.symm
    · exact D.a7.symm
  · have hb : b = l2 := by simpa using hb
    subst hb
    rcases he with rfl | rfl | rfl
    · exact D.a9.1
    · exact D.a9.2.1
    · exact D.a9.2.2.1
theorem St_of {it l : Addr} {n : Nat} {P : Nat → Value → Prop} {S : Nat → Heap → Prop} {A' : Around} (D : Draws prog w A' it [it, l] n P S) {i : Nat} {h h' : Heap} {e : Addr} (st : S i h) (hs : Heap.ExtBut e h h') (ne : ∀ b ∈ [it, l], b ≠ e) : S i h' := D.frame i h h' st fun b hb o q => hs b o (ne b hb) q
theorem zipG_item {z TI TO i1 i2 l1 l2 : Addr} {k n1 n2 : Nat} {P1 P2 : Nat → Value → Prop} {S1 S2 : Nat → Heap → Prop} {a b : Value} {Q : Value → Shared → Prop} (D : ZA z TI TO i1 i2 l1 l2) (D1 : Draws prog w A i1 [i1, l1] n1 P1 S1) (D2 : Draws prog w A i2 [i2, l2] n2 P2 S2)
    (hz : IsZip s.heap z TI TO .none) (hTI : IsPair s.heap TI (.ref i1) (.ref i2)) (hTO : IsPair s.heap TO a b) (st1 : S1 k s.heap) (st2 : S2 k s.heap) (hk1 : k < n1) (hk2 : k < n2)
    (hQ : ∀ x y h' tk, P1 k x → P2 k y → IsZip h' z TI TO (rawInt s.heap.objs.size) → IsPair h' TO x y → S1 (k + 1) h' → S2 (k + 1) h' → IsPair h' s.heap.objs.size x y →
      (∀ c o, c ≠ z → c ≠ TO → c ≠ i1 → c ≠ i2 → s.heap.get? c = some o → h'.get? c = some o) → Q (.ref s.heap.objs.size) { s with heap := h', toks := tk }) :
    wpAny (model prog w) A (Builtin.«zip.__next__» ⟨[.ref z], []⟩) (fun fin s' => ∃ v, fin = .done (.ret v) ∧ Q v s') E s := by
  have zrec := hz
  show wpAny _ _ (field (.ref z) 2 >>= _) _ _ _; refine wpAny_bind (wpAny_field zrec rfl (x := .bool false) rfl ?_)
  show wpAny _ _ (field (.ref z) 3 >>= _) _ _ _; refine wpAny_bind (wpAny_field zrec rfl (x := .ref TI) rfl ?_)
  have tirec := hTI
  refine wpAny_bind (wpAny_seqItems tirec rfl ?_)
  show wpAny _ _ (Builtin.SmallTypes.ownedTupleIsFree (.ref z) >>= _) _ _ _; refine wpAny_bind ?_
  unfold Builtin.SmallTypes.ownedTupleIsFree; refine wpAny_bind (wpAny_field zrec rfl (x := .none) rfl (wpAny_pure ?_))
  simp only [if_true]
  refine wpAny_bind (wpAny_rule ?_); refine wpAny_bind (wpAny_field zrec rfl (x := .ref TO) rfl ?_)
  refine wpAny_bind (wpAny_setField_rec zrec (by simp) fun g1 zr1 sb1 => ?_)
  replace zr1 : IsZip g1 z TI TO .ellipsis := zr1
  refine wpAny_bind ?_; simp only [List.zipIdx_cons, List.zipIdx_nil, List.forIn_cons, List.forIn_nil]
  refine wpAny_bind (wpAny_bind (wpAny_onRaise ?_)); show wpAny _ _ (Builtin.SmallTypes.nextOf (.ref i1) >>= _) _ _ _
  refine wpAny_bind (D1.item k _ _ _ hk1 (St_of D1 st1 sb1.extBut (D.f1 (.inl rfl))) fun x g2 tk2 px st1b sb2 => wpAny_pure ?_)
  have to2 : IsPair g2 TO a b := sb2.extBut _ _ D.a5 (sb1.extBut _ _ D.a2 hTO)
  refine wpAny_bind (wpAny_seqItems to2 rfl ?_); refine wpAny_bind (wpAny_updateSeq_pair to2 fun g3 to3 sb3 => ?_)
  replace to3 : IsPair g3 TO x b := to3
  refine wpAny_bind (wpAny_letGo (wpAny_pure ?_)); refine wpAny_bind (wpAny_bind (wpAny_onRaise ?_))
  show wpAny _ _ (Builtin.SmallTypes.nextOf (.ref i2) >>= _) _ _ _
  have st2c : S2 k g3 := St_of D2 (St_of D2 (St_of D2 st2 sb1.extBut (D.f2 (.inl rfl))) sb2.extBut (D.f2 (.inr (.inr rfl)))) sb3.extBut (D.f2 (.inr (.inl rfl)))
  refine wpAny_bind (D2.item k _ _ _ hk2 st2c fun y g4 tk4 py st2d sb4 => wpAny_pure ?_)
  have to4 : IsPair g4 TO x b := sb4.extBut _ _ D.a6 to3
  refine wpAny_bind (wpAny_seqItems to4 rfl ?_); refine wpAny_bind (wpAny_updateSeq_pair to4 fun g5 to5 sb5 => ?_)
  replace to5 : IsPair g5 TO x y := to5
  refine wpAny_bind (wpAny_letGo (wpAny_pure (wpAny_pure ?_))); refine wpAny_bind (wpAny_seqItems to5 rfl ?_)
  refine wpAny_bind (wpAny_newTuple ?_)
  have size5 : g5.objs.size = s.heap.objs.size := by rw [sb5.1, sb4.1, sb3.1, sb2.1, sb1.1]
  have zr5 : IsZip g5 z TI TO .ellipsis := sb5.extBut _ _ D.a2.symm (sb4.extBut _ _ D.a4.symm (sb3.extBut _ _ D.a2.symm (sb2.extBut _ _ D.a3.symm zr1)))
  have keep5 : ∀ c o, c ≠ z → c ≠ TO → c ≠ i1 → c ≠ i2 → s.heap.get? c = some o → g5.get? c = some o := fun c o e1 e2 e3 e4 q =>
    sb5.extBut _ _ e2 (sb4.extBut _ _ e4 (sb3.extBut _ _ e2 (sb2.extBut _ _ e3 (sb1.extBut _ _ e1 q))))
  have s1e : S1 (k + 1) g5 := St_of D1 (St_of D1 (St_of D1 st1b sb3.extBut (D.f1 (.inr (.inl rfl)))) sb4.extBut (D.f1 (.inr (.inr rfl)))) sb5.extBut (D.f1 (.inr (.inl rfl)))
  have s2e : S2 (k + 1) g5 := St_of D2 st2d sb5.extBut (D.f2 (.inr (.inl rfl)))
  have zlt : z < g5.objs.size := Heap.lt_size zr5
  show wpAny _ _ (Builtin.SmallTypes.ownedTupleHandOut (.ref z) (.ref g5.objs.size) >>= _) _ _ _; refine wpAny_bind ?_
  unfold Builtin.SmallTypes.ownedTupleHandOut
  have zr6 : IsZip (g5.push { cls := .type "tuple", data := .seq #[x, y] }) z TI TO .ellipsis := Heap.get?_push_of_some _ zr5
  refine wpAny_bind (wpAny_setField_rec zr6 (by simp) fun g7 zr7 sb7 => ?_)
  replace zr7 : IsZip g7 z TI TO (rawInt g5.objs.size) := zr7
  refine wpAny_setField_rec zr7 (by simp) fun g8 zr8 sb8 => ?_
  replace zr8 : IsZip g8 z TI TO (rawInt g5.objs.size) := zr8
  have up : ∀ c o, c ≠ z → g5.get? c = some o → g8.get? c = some o := fun c o e1 q => sb8.extBut _ _ e1 (sb7.extBut _ _ e1 (Heap.get?_push_of_some _ q))
  have pr8 : IsPair g8 g5.objs.size x y := sb8.extBut _ _ (Nat.ne_of_gt zlt) (sb7.extBut _ _ (Nat.ne_of_gt zlt) (Heap.get?_push_size _ rfl))
  rw [size5] at zr8 pr8
  refine wpAny_pure ⟨_, rfl, ?_⟩
  show Q (.ref g5.objs.size) _
  rw [size5]
  exact hQ x y g8 _ px py zr8 (up _ _ D.a2 to5) (D1.frame _ _ _ s1e fun b hb o q => up b o (D.f1 (.inl rfl) b hb) q) (D2.frame _ _ _ s2e fun b hb o q => up b o (D.f2 (.inl rfl) b hb) q) pr8 fun c o e1 e2 e3 e4 q => up c o e1 (keep5 c o e1 e2 e3 e4 q)
theorem zipG_end {z TI TO i1 i2 l1 l2 : Addr} {k n1 n2 : Nat} {P1 P2 : Nat → Value → Prop} {S1 S2 : Nat → Heap → Prop} {a b : Value} {Q : Fin → Shared → Prop} (D : ZA z TI TO i1 i2 l1 l2) (D1 : Draws prog w A i1 [i1, l1] n1 P1 S1) (D2 : Draws prog w A i2 [i2, l2] n2 P2 S2)
    (hz : IsZip s.heap z TI TO .none) (hTI : IsPair s.heap TI (.ref i1) (.ref i2)) (hTO : IsPair s.heap TO a b) (st1 : S1 k s.heap) (st2 : S2 k s.heap) (hk : k = n1 ∨ (k < n1 ∧ k = n2))
    (hE : ∀ h' e tk, (∀ c o, c ≠ z → c ≠ TO → c ≠ i1 → c ≠ i2 → s.heap.get? c = some o → h'.get? c = some o) → (∃ o, h'.get? e = some o ∧ o.cls = .type "StopIteration") → E (.ref e) { s with heap := h', toks := tk }) :
    wpAny (model prog w) A (Builtin.«zip.__next__» ⟨[.ref z], []⟩) Q E s := by
  have zrec := hz
  show wpAny _ _ (field (.ref z) 2 >>= _) _ _ _; refine wpAny_bind (wpAny_field zrec rfl (x := .bool false) rfl ?_)
  show wpAny _ _ (field (.ref z) 3 >>= _) _ _ _; refine wpAny_bind (wpAny_field zrec rfl (x := .ref TI) rfl ?_)
  have tirec := hTI
  refine wpAny_bind (wpAny_seqItems tirec rfl ?_)
  show wpAny _ _ (Builtin.SmallTypes.ownedTupleIsFree (.ref z) >>= _) _ _ _; refine wpAny_bind ?_
  unfold Builtin.SmallTypes.ownedTupleIsFree; refine wpAny_bind (wpAny_field zrec rfl (x := .none) rfl (wpAny_pure ?_))
  simp only [if_true]
  refine wpAny_bind (wpAny_rule ?_); refine wpAny_bind (wpAny_field zrec rfl (x := .ref TO) rfl ?_)
  refine wpAny_bind (wpAny_setField_rec zrec (by simp) fun g1 zr1 sb1 => ?_)
  replace zr1 : IsZip g1 z TI TO .ellipsis := zr1
  refine wpAny_bind ?_; simp only [List.zipIdx_cons, List.zipIdx_nil, List.forIn_cons, List.forIn_nil]
  refine wpAny_bind (wpAny_bind (wpAny_onRaise ?_)); show wpAny _ _ (Builtin.SmallTypes.nextOf (.ref i1) >>= _) _ _ _
  rcases hk with hk | ⟨hk1, hk2⟩
  · subst hk
    refine wpAny_bind (D1.done _ _ _ (St_of D1 st1 sb1.extBut (D.f1 (.inl rfl))) fun g2 e sb2 he => ?_)
    obtain ⟨oe, hoe, hce⟩ := he
    have zr2 : IsZip g2 z TI TO .ellipsis := sb2 _ _ D.a3.symm zr1
    have nez : e ≠ z := fun q => by subst q; rw [zr2] at hoe; cases hoe; simp at hce
    refine wpAny_setField_rec zr2 (by simp) fun g3 _ sb3 => hE g3 e _ (fun c o e1 _ e3 _ q => sb3.extBut _ _ e1 (sb2 _ _ e3 (sb1.extBut _ _ e1 q))) ⟨oe, sb3.extBut _ _ nez hoe, hce⟩
  · subst hk2
    refine wpAny_bind (D1.item k _ _ _ hk1 (St_of D1 st1 sb1.extBut (D.f1 (.inl rfl))) fun x g2 tk2 px st1b sb2 => wpAny_pure ?_)
    have to2 : IsPair g2 TO a b := sb2.extBut _ _ D.a5 (sb1.extBut _ _ D.a2 hTO)
    refine wpAny_bind (wpAny_seqItems to2 rfl ?_); refine wpAny_bind (wpAny_updateSeq_pair to2 fun g3 to3 sb3 => ?_)
    refine wpAny_bind (wpAny_letGo (wpAny_pure ?_)); refine wpAny_bind (wpAny_bind (wpAny_onRaise ?_))
    show wpAny _ _ (Builtin.SmallTypes.nextOf (.ref i2) >>= _) _ _ _
    have st2c : S2 k g3 := St_of D2 (St_of D2 (St_of D2 st2 sb1.extBut (D.f2 (.inl rfl))) sb2.extBut (D.f2 (.inr (.inr rfl)))) sb3.extBut (D.f2 (.inr (.inl rfl)))
    refine wpAny_bind (D2.done _ _ _ st2c fun g4 e sb4 he => ?_)
    obtain ⟨oe, hoe, hce⟩ := he
    have zr4 : IsZip g4 z TI TO .ellipsis := sb4 _ _ D.a4.symm (sb3.extBut _ _ D.a2.symm (sb2.extBut _ _ D.a3.symm zr1))
    have nez : e ≠ z := fun q => by subst q; rw [zr4] at hoe; cases hoe; simp at hce
    refine wpAny_setField_rec zr4 (by simp) fun g5 _ sb5 => hE g5 e _ (fun c o e1 e2 e3 e4 q => sb5.extBut _ _ e1 (sb4 _ _ e4 (sb3.extBut _ _ e2 (sb2.extBut _ _ e3 (sb1.extBut _ _ e1 q))))) ⟨oe, sb5.extBut _ _ nez hoe, hce⟩
end
/-- k: true where a list -/
noncomputable def SqK (K : PySem.W.Frag) (k : Bool) (H : Hp) (a : Addr) (xs : List V) : Prop := if k = true then SqL K H a xs else SqT K H a xs
noncomputable def IsItK (k : Bool) (h : Heap) (it a : Addr) (i : Nat) : Prop := if k = true then h.IsListIter it a i else h.IsTupleIter it a i
noncomputable def IsSqK (k : Bool) (h : Heap) (a : Addr) (items : Array Value) : Prop := if k = true then h.IsList a items else h.IsTuple a items
theorem draws_K {prog : Program} {w : World} {A : Around} (k : Bool) (hh : A.handled = none) (it l : Addr) (hne : l ≠ it) (items : Array Value) : Draws prog w A it [it, l] items.size (fun i v => items[i]? = some v) (fun i h => IsItK k h it l i ∧ IsSqK k h l items) := by
  cases k with
  | true => exact Draws.list hh it l hne items
  | false => exact draws_tup hh it l hne items
theorem Inv.seqK {X : Cx} {pins : List (Addr × Obj)} {σ : St} {H : Hp} {s : Shared} {k : Bool} {a : Addr} {xs : List V} (I : Inv X pins σ H s) (h : SqK X.K k H a xs) : ∃ its : List Value, Vals xs its ∧ IsSqK k s.heap a its.toArray := by
  cases k with
  | true => obtain ⟨its, r, p, _⟩ := I.list h; exact ⟨its, r, p.isList⟩
  | false => obtain ⟨its, r, p, _⟩ := I.tuple h; exact ⟨its, r, p⟩
theorem Inv.seqK_inj {X : Cx} {pins : List (Addr × Obj)} {σ : St} {H : Hp} {s : Shared} {k : Bool} {a : Addr} {xs ys : List V} (I : Inv X pins σ H s) (h : SqK X.K k H a xs) (h' : SqK X.K k H a ys) : xs = ys := by
  cases k with
  | true => exact I.list_inj h h'
  | false => exact I.tuple_inj h h'
/-- a new pair each turn -/
noncomputable def ItzK (K : PySem.W.Frag) (k1 k2 : Bool) (a b : Addr) : It :=
  ⟨fun i H => ∃ xs ys x y, SqK K k1 H a xs ∧ SqK K k2 H b ys ∧ xs[i]? = some x ∧ ys[i]? = some y,
   fun i H v H' => ∃ p x y, (∀ xs, SqK K k1 H a xs → xs[i]? = some x) ∧ (∀ ys, SqK K k2 H b ys → ys[i]? = some y) ∧ H p = none ∧ v = .ref p ∧ H' = upd H p (.tup [x, y]),
   fun i H => ∃ xs ys, SqK K k1 H a xs ∧ SqK K k2 H b ys ∧ i = min xs.length ys.length⟩
theorem IsSqK.ty {k : Bool} {h : Heap} {a : Addr} {items : Array Value} (x : IsSqK k h a items) : ∃ o, h.get? a = some o ∧ (o.cls = .type "list" ∨ o.cls = .type "tuple") ∧ ∃ n, o.data = .seq items n := by
  cases k with
  | true => obtain ⟨o, e, c, n, d⟩ := (show h.IsList a items from x); exact ⟨o, e, .inl c, n, d⟩
  | false => obtain ⟨o, e, c, n, d⟩ := (show h.IsTuple a items from x); exact ⟨o, e, .inr c, n, d⟩
theorem IsItK.ty {k : Bool} {h : Heap} {it a : Addr} {i : Nat} (x : IsItK k h it a i) : ∃ o, h.get? it = some o ∧ (o.cls = .type "list_iterator" ∨ o.cls = .type "tuple_iterator") ∧ o.data = .fields #[.ref a, .int i 0] := by
  cases k with
  | true => obtain ⟨o, e, c, d⟩ := (show h.IsListIter it a i from x); exact ⟨o, e, .inl c, d⟩
  | false => obtain ⟨o, e, c, d⟩ := (show h.IsTupleIter it a i from x); exact ⟨o, e, .inr c, d⟩
end L2

set_option linter.all false
set_option maxRecDepth 100000
set_option maxHeartbeats 4000000
namespace L2
open PySem PySem.Spec PyProof.Rows
noncomputable def itC (k : Bool) : String := if k = true then "list_iterator" else "tuple_iterator"
noncomputable abbrev zg1 (h : Heap) (k1 : Bool) (a : Addr) : Heap := h.push { cls := .type (itC k1), data := .fields #[.ref a, .int 0 0] }
noncomputable abbrev zg2 (h : Heap) (k1 k2 : Bool) (a b : Addr) : Heap := (zg1 h k1 a).push { cls := .type (itC k2), data := .fields #[.ref b, .int 0 0] }
noncomputable abbrev zg3 (h : Heap) (k1 k2 : Bool) (a b : Addr) : Heap := (zg2 h k1 k2 a b).push { cls := .type "tuple", data := .seq #[.ref h.objs.size, .ref (zg1 h k1 a).objs.size] }
noncomputable abbrev zg4 (h : Heap) (k1 k2 : Bool) (a b : Addr) : Heap := (zg3 h k1 k2 a b).push { cls := .type "tuple", data := .seq #[.none, .none] }
noncomputable abbrev zg5 (h : Heap) (k1 k2 : Bool) (a b : Addr) : Heap := (zg4 h k1 k2 a b).push { cls := .type "zip", data := .fields #[.none, .bool false, .bool false, .ref (zg2 h k1 k2 a b).objs.size, .ref (zg3 h k1 k2 a b).objs.size] }
theorem tup_push {h : Heap} {a : Addr} {items : Array Value} (x : h.IsTuple a items) (o : Obj) : (h.push o).IsTuple a items := by
  obtain ⟨ob, e, r⟩ := x
  exact ⟨ob, Heap.get?_push_of_some _ e, r⟩
theorem meets_zipK (k1 k2 : Bool) (a b : Addr) (xs ys : Array Value) :
    Meets (Builtin.«zip.__new__» ⟨[.type "zip", .ref a, .ref b], []⟩) (fun _ R s => IsSqK k1 s.heap a xs ∧ IsSqK k2 s.heap b ys ∧
      R (.ok (.ret (.ref (zg4 s.heap k1 k2 a b).objs.size))) { s with heap := zg5 s.heap k1 k2 a b }) :=
  .of_wp fun prog w A R s h => by
    obtain ⟨hp, g, d, tk, os⟩ := s
    obtain ⟨q1, q2, h⟩ := h
    have hsub := sub_zip
    cases k1 with
    | true =>
      have w1 : Heap.IsList (Shared.heap ⟨hp, g, d, tk, os⟩) a xs := q1
      cases k2 with
      | true =>
        have w2 : Heap.IsList (Shared.heap ⟨hp.push { cls := .type "list_iterator", data := .fields #[.ref a, .int 0 0] }, g, d, tk, os⟩) b ys := Heap.IsList.push q2 _
        wp_walk using wpAny_pyIter_list w1, wpAny_pyIter_list w2
        exact ⟨_, rfl, h⟩
      | false =>
        have w2 : Heap.IsTuple (Shared.heap ⟨hp.push { cls := .type "list_iterator", data := .fields #[.ref a, .int 0 0] }, g, d, tk, os⟩) b ys := tup_push q2 _
        wp_walk using wpAny_pyIter_list w1, wpAny_pyIter_tuple w2
        exact ⟨_, rfl, h⟩
    | false =>
      have w1 : Heap.IsTuple (Shared.heap ⟨hp, g, d, tk, os⟩) a xs := q1
      cases k2 with
      | true =>
        have w2 : Heap.IsList (Shared.heap ⟨hp.push { cls := .type "tuple_iterator", data := .fields #[.ref a, .int 0 0] }, g, d, tk, os⟩) b ys := Heap.IsList.push q2 _
        wp_walk using wpAny_pyIter_tuple w1, wpAny_pyIter_list w2
        exact ⟨_, rfl, h⟩
      | false =>
        have w2 : Heap.IsTuple (Shared.heap ⟨hp.push { cls := .type "tuple_iterator", data := .fields #[.ref a, .int 0 0] }, g, d, tk, os⟩) b ys := tup_push q2 _
        wp_walk using wpAny_pyIter_tuple w1, wpAny_pyIter_tuple w2
        exact ⟨_, rfl, h⟩
theorem isIt0 {k : Bool} {h : Heap} {it a : Addr} (e : h.get? it = some { cls := .type (itC k), data := .fields #[.ref a, .int 0 0] }) : IsItK k h it a 0 := by
  cases k with
  | true => exact ⟨_, e, rfl, rfl⟩
  | false => exact ⟨_, e, rfl, rfl⟩
section
variable {prog : Program} {w : World} {A : Around} {E : Value → Shared → Prop} {s : Shared}
theorem call_zipK {k1 k2 : Bool} {a b : Addr} {xs ys : Array Value} {Q : Value → Shared → Prop} (h1 : IsSqK k1 s.heap a xs) (h2 : IsSqK k2 s.heap b ys)
    (h : ∀ h', IsZip h' (s.heap.objs.size + 4) (s.heap.objs.size + 2) (s.heap.objs.size + 3) .none → IsPair h' (s.heap.objs.size + 2) (.ref s.heap.objs.size) (.ref (s.heap.objs.size + 1)) → IsPair h' (s.heap.objs.size + 3) .none .none →
      IsItK k1 h' s.heap.objs.size a 0 → IsItK k2 h' (s.heap.objs.size + 1) b 0 → (∀ c o, s.heap.get? c = some o → h'.get? c = some o) → Q (.ref (s.heap.objs.size + 4)) { s with heap := h' }) :
    wpAny (model prog w) A (call (.type "zip") [.ref a, .ref b]) Q E s := by
  refine callType_new F.called_zip (by decide) (F.typeCall_zip_2 _ _) (F.newCall_zip_2 _ _) (fun obj => F.args_object_init_3 obj _ _) F.entry_zip_new (meets_zipK k1 k2 a b xs ys) ⟨h1, h2, ?_⟩
  have e1 : (zg1 s.heap k1 a).objs.size = s.heap.objs.size + 1 := Heap.size_push ..
  have e2 : (zg2 s.heap k1 k2 a b).objs.size = s.heap.objs.size + 2 := by rw [Heap.size_push, e1]
  have e3 : (zg3 s.heap k1 k2 a b).objs.size = s.heap.objs.size + 3 := by rw [Heap.size_push, e2]
  have e4 : (zg4 s.heap k1 k2 a b).objs.size = s.heap.objs.size + 4 := by rw [Heap.size_push, e3]
  have p5 : (zg5 s.heap k1 k2 a b).get? (zg4 s.heap k1 k2 a b).objs.size = some _ := Heap.get?_push_size _ rfl
  have p4 : (zg5 s.heap k1 k2 a b).get? (zg3 s.heap k1 k2 a b).objs.size = some _ := Heap.get?_push_of_some _ (Heap.get?_push_size _ rfl)
  have p3 : (zg5 s.heap k1 k2 a b).get? (zg2 s.heap k1 k2 a b).objs.size = some _ := Heap.get?_push_of_some _ (Heap.get?_push_of_some _ (Heap.get?_push_size _ rfl))
  have p2 : (zg5 s.heap k1 k2 a b).get? (zg1 s.heap k1 a).objs.size = some _ := Heap.get?_push_of_some _ (Heap.get?_push_of_some _ (Heap.get?_push_of_some _ (Heap.get?_push_size _ rfl)))
  have p1 : (zg5 s.heap k1 k2 a b).get? s.heap.objs.size = some _ := Heap.get?_push_of_some _ (Heap.get?_push_of_some _ (Heap.get?_push_of_some _ (Heap.get?_push_of_some _ (Heap.get?_push_size _ rfl))))
  show _ ∧ _
  rw [e2, e3, e4] at p5
  rw [e1, e2] at p3
  rw [e3] at p4
  rw [e1] at p2
  rw [e4]
  exact ⟨⟨_, p5, rfl⟩, h _ p5 p3 p4 (isIt0 p1) (isIt0 p2) fun c o x => Heap.get?_push_of_some _ (Heap.get?_push_of_some _ (Heap.get?_push_of_some _ (Heap.get?_push_of_some _ (Heap.get?_push_of_some _ x))))⟩
end
theorem turn_zipK {P : Program} {w : World} {K : PySem.W.Frag} {es : List Expr} {tk : Nat} {tp : Pos} (k1 k2 : Bool) (a b z TI TO i1 i2 : Addr) (D : ZA z TI TO i1 i2 a b) :
    Turn P w K (.Tuple es tk tp) (ItzK K k1 k2 a b) [z, TI, TO, i1, i2] z (fun i h => IsZip h z TI TO .none ∧ IsPair h TI (.ref i1) (.ref i2) ∧ (∃ x y, IsPair h TO x y) ∧ IsItK k1 h i1 a i ∧ IsItK k2 h i2 b i) where
  mem := by simp
  obj := fun i h st c hc => by
    obtain ⟨s1, s2, ⟨x, y, s3⟩, s4, s5⟩ := st
    simp only [List.mem_cons, List.not_mem_nil, or_false] at hc
    rcases hc with rfl | rfl | rfl | rfl | rfl
    · exact ⟨_, s1, fun v q => by cases q⟩
    · exact ⟨_, s2, fun v q => by cases q⟩
    · exact ⟨_, s3, fun v q => by cases q⟩
    · obtain ⟨o, e, _, d⟩ := s4.ty; exact ⟨o, e, fun v q => by rw [d] at q; cases q⟩
    · obtain ⟨o, e, _, d⟩ := s5.ty; exact ⟨o, e, fun v q => by rw [d] at q; cases q⟩
  keep := fun i h h' st k => by
    obtain ⟨s1, s2, ⟨x, y, s3⟩, s4, s5⟩ := st
    refine ⟨k z (by simp) _ s1, k TI (by simp) _ s2, ⟨x, y, k TO (by simp) _ s3⟩, ?_, ?_⟩
    · cases k1 with
      | true => obtain ⟨o, e, r⟩ := (show h.IsListIter i1 a i from s4); exact ⟨o, k i1 (by simp) o e, r⟩
      | false => obtain ⟨o, e, r⟩ := (show h.IsTupleIter i1 a i from s4); exact ⟨o, k i1 (by simp) o e, r⟩
    · cases k2 with
      | true => obtain ⟨o, e, r⟩ := (show h.IsListIter i2 b i from s5); exact ⟨o, k i2 (by simp) o e, r⟩
      | false => obtain ⟨o, e, r⟩ := (show h.IsTupleIter i2 b i from s5); exact ⟨o, k i2 (by simp) o e, r⟩
  item := by
    intro X hP hw hK hc i pins s σ H E I hf st hg
    subst hP hw hK
    obtain ⟨xs, ys, x, y, q1, q2, ex, ey⟩ := hg
    obtain ⟨s1, s2, ⟨x0, y0, s3⟩, s4, s5⟩ := st
    obtain ⟨its1, rv1, p1⟩ := I.seqK q1
    obtain ⟨its2, rv2, p2⟩ := I.seqK q2
    obtain ⟨u1, hu1, ru1⟩ := rv1.get ex
    obtain ⟨u2, hu2, ru2⟩ := rv2.get ey
    have lt1 : i < its1.toArray.size := by have := (List.getElem?_eq_some_iff.mp hu1).1; simpa using this
    have lt2 : i < its2.toArray.size := by have := (List.getElem?_eq_some_iff.mp hu2).1; simpa using this
    have hT : s.TypeIs (.ref z) "zip" := ⟨_, s1, rfl⟩
    have D1 := draws_K (prog := X.prog) (w := X.w) (A := X.A.in1) k1 (I.ok.hd hc) i1 a D.a8.2.2.1 its1.toArray
    have D2 := draws_K (prog := X.prog) (w := X.w) (A := X.A.in1) k2 (I.ok.hd hc) i2 b D.a9.2.2.2 its2.toArray
    unfold pyNext
    refine wpAny_bind (wpAny_attempt (wpAny_callSpecial?_slot (name := Str.ofString "__next__") hT PySem.F.slot_zip_next (wpAny_call_entry PySem.F.slot_zip_next hT PySem.F.entry_zip_next
      (zipG_item D D1 D2 s1 s2 s3 ⟨s4, p1⟩ ⟨s5, p2⟩ lt1 lt2 fun v1 v2 h' tk' px py z1 t1 w1 w2 pr kp => wpAny_pure ?_) (PySem.F.args_zip_next_1 _))))
    have fr : H s.heap.objs.size = none := I.hok.fresh (Nat.le_refl _)
    have ev1 : v1 = u1 := by rw [List.getElem?_toArray, hu1] at px; exact (Option.some.inj px).symm
    have ev2 : v2 = u2 := by rw [List.getElem?_toArray, hu2] at py; exact (Option.some.inj py).symm
    subst ev1 ev2
    have lt : ∀ {c o}, s.heap.get? c = some o → s.heap.objs.size ≠ c := fun e => Nat.ne_of_gt (Heap.lt_size e)
    refine ⟨.ref s.heap.objs.size, rfl, wpAny_letOwnedTupleGo_zip z1 fun h2 z2 sb2 => ?_⟩
    have pr2 : IsPair h2 s.heap.objs.size v1 v2 := sb2.extBut _ _ (lt s1) pr
    have I2 : Inv X pins σ (upd H s.heap.objs.size (.tup [x, y])) { s with heap := h2, toks := tk' } := by
      refine I.turnNew (fp := [z, TI, TO, i1, i2]) hf (Nat.le_refl _) (fun c o hcm ec => ?_) ⟨by show 2 ≤ sizeLine; decide, [v1, v2], .cons ru1 (.cons ru2 .nil), ⟨_, pr2, rfl, _, rfl⟩⟩
      simp only [List.mem_cons, List.not_mem_nil, or_false, not_or] at hcm
      exact sb2.extBut _ _ hcm.1 (kp c o hcm.1 hcm.2.2.1 hcm.2.2.2.1 hcm.2.2.2.2 ec)
    refine ⟨.ref s.heap.objs.size, _, I2, rfl, ⟨s.heap.objs.size, x, y, fun zs hz => by rw [I.seqK_inj hz q1]; exact ex, fun zs hz => by rw [I.seqK_inj hz q2]; exact ey, fr, rfl, rfl⟩, ⟨z2, ?_, ⟨v1, v2, ?_⟩, ?_, ?_⟩, fun c hcm => ?_⟩
    · exact sb2.extBut _ _ D.a1 (kp _ _ D.a1 D.b1.1 D.b1.2.1 D.b1.2.2 s2)
    · exact sb2.extBut _ _ D.a2 t1
    · have := D1.frame (i + 1) h' h2 w1 fun c hcm o q => sb2.extBut _ _ (D.f1 (.inl rfl) c hcm) q
      exact this.1
    · have := D2.frame (i + 1) h' h2 w2 fun c hcm o q => sb2.extBut _ _ (D.f2 (.inl rfl) c hcm) q
      exact this.1
    · have hn := (hf c hcm).1
      rw [upd_ne]
      · exact hn
      · simp only [List.mem_cons, List.not_mem_nil, or_false] at hcm
        rcases hcm with rfl | rfl | rfl | rfl | rfl
        · exact (lt s1).symm
        · exact (lt s2).symm
        · exact (lt s3).symm
        · obtain ⟨o, e, _⟩ := s4.ty; exact (lt e).symm
        · obtain ⟨o, e, _⟩ := s5.ty; exact (lt e).symm
  done := by
    intro X hP hw hK hc i pins s σ H E I hf st hg
    subst hP hw hK
    obtain ⟨xs, ys, q1, q2, hi⟩ := hg
    obtain ⟨s1, s2, ⟨x0, y0, s3⟩, s4, s5⟩ := st
    obtain ⟨its1, rv1, p1⟩ := I.seqK q1
    obtain ⟨its2, rv2, p2⟩ := I.seqK q2
    have n1 : its1.toArray.size = xs.length := by rw [List.size_toArray]; exact rv1.length.symm
    have n2 : its2.toArray.size = ys.length := by rw [List.size_toArray]; exact rv2.length.symm
    have hT : s.TypeIs (.ref z) "zip" := ⟨_, s1, rfl⟩
    have D1 := draws_K (prog := X.prog) (w := X.w) (A := X.A.in1) k1 (I.ok.hd hc) i1 a D.a8.2.2.1 its1.toArray
    have D2 := draws_K (prog := X.prog) (w := X.w) (A := X.A.in1) k2 (I.ok.hd hc) i2 b D.a9.2.2.2 its2.toArray
    unfold pyNext
    refine wpAny_bind (wpAny_attempt (wpAny_callSpecial?_slot (name := Str.ofString "__next__") hT PySem.F.slot_zip_next (wpAny_call_entry PySem.F.slot_zip_next hT PySem.F.entry_zip_next
      (zipG_end D D1 D2 s1 s2 s3 ⟨s4, p1⟩ ⟨s5, p2⟩ (by rw [n1, n2]; omega) fun h' e tk' kp he => ?_) (PySem.F.args_zip_next_1 _))))
    obtain ⟨o, ho, hcl⟩ := he
    refine wpAny_bind (wpAny_isInstance (T := "StopIteration") (b := true) ⟨o, ho, hcl⟩ isSubtype_stop (wpAny_pure ⟨rfl, ?_⟩))
    refine I.turns (t' := tk') hf fun c o hcm ec => ?_
    simp only [List.mem_cons, List.not_mem_nil, or_false, not_or] at hcm
    exact kp c o hcm.1 hcm.2.2.1 hcm.2.2.2.1 hcm.2.2.2.2 ec
  self := fun A i s Q E st h => wpAny_pyIter_zip st.1 h
section
variable {X : Cx} {es : List Expr} {tk : Nat} {tp : Pos}
noncomputable def iZipK (K : PySem.W.Frag) (ta : TA) : TI := fun σ H R => ta σ H fun vs H1 => ∃ a b k1 k2, vs = [.ref a, .ref b] ∧ (∃ xs, SqK K k1 H1 a xs) ∧ (∃ ys, SqK K k2 H1 b ys) ∧ R (ItzK K k1 k2 a b) H1
theorem pi_zipK {e1 e2 : Expr} {ta : TA} {p pos : Pos} (hg : Gl X "zip") (hm : X.mg "zip" = none) (ha : PA X [e1, e2] ta) (h1 : autoParam (nst e1 = true) L2.aRfl._auto_1) (h2 : autoParam (nst e2 = true) L2.aRfl._auto_1) (hv : bootBuiltins "zip" = some (.type "zip") := by decide +kernel) :
    PI X (.Tuple es tk tp) (.Call (.Name "zip" p) [e1, e2] [] pos) (iZipK X.K ta) := by
  intro pins s σ H R I h
  refine Call_ (ld_blt I hg hm hv (PyProof.Rows.callWith_type1 (thn (ha pos pins s σ H _ I h) fun us s1 ⟨vs, H1, I1, r1, q1⟩ => ?_) (by rw [star1 h1, star1 h2]) (by rw [star1 h2]; rfl)))
  obtain ⟨a, b, k1, k2, e, ⟨xs, hx⟩, ⟨ys, hy⟩, q⟩ := q1
  subst e
  obtain ⟨u, w', rfl, ru, rw'⟩ := vals2 r1
  cases ru; cases rw'
  obtain ⟨its1, rv1, p1⟩ := I1.seqK hx
  obtain ⟨its2, rv2, p2⟩ := I1.seqK hy
  obtain ⟨o1, eo1, _⟩ := p1.ty
  obtain ⟨o2, eo2, _⟩ := p2.ty
  have l1 : a < s1.heap.objs.size := Heap.lt_size eo1
  have l2 : b < s1.heap.objs.size := Heap.lt_size eo2
  refine call_zipK p1 p2 fun h' z1 z2 z3 z4 z5 kp => wpAny_pyIter_zip z1 ?_
  have I2 : Inv X pins σ H1 { s1 with heap := h' } := I1.kept (t' := s1.toks) kp
  have ne : ∀ (m n c : Nat), m ≠ n → c + m ≠ c + n := fun m n c h => by omega
  have nl : ∀ (x c m : Nat), x < c → x ≠ c + m := fun x c m h => by omega
  have D : ZA (s1.heap.objs.size + 4) (s1.heap.objs.size + 2) (s1.heap.objs.size + 3) s1.heap.objs.size (s1.heap.objs.size + 1) a b :=
    ⟨ne 2 4 _ (by decide), ne 3 4 _ (by decide), ne 0 4 _ (by decide), ne 1 4 _ (by decide), ne 3 0 _ (by decide), ne 3 1 _ (by decide), ne 0 1 _ (by decide), ⟨nl _ _ 4 l1, nl _ _ 3 l1, nl _ _ 0 l1, nl _ _ 1 l1⟩, ⟨nl _ _ 4 l2, nl _ _ 3 l2, nl _ _ 0 l2, nl _ _ 1 l2⟩, ne 2 3 _ (by decide), ne 2 0 _ (by decide), ne 2 1 _ (by decide)⟩
  refine ⟨s1.heap.objs.size + 4, [s1.heap.objs.size + 4, s1.heap.objs.size + 2, s1.heap.objs.size + 3, s1.heap.objs.size, s1.heap.objs.size + 1], _, _, H1, rfl, I2, turn_zipK k1 k2 a b _ _ _ _ _ D, ⟨z1, z2, ⟨_, _, z3⟩, z4, z5⟩, fun c hc => ?_, q⟩
  have hc' : s1.heap.objs.size ≤ c := by
    simp only [List.mem_cons, List.not_mem_nil, or_false] at hc
    rcases hc with rfl | rfl | rfl | rfl | rfl
    · exact Nat.le_add_right _ _
    · exact Nat.le_add_right _ _
    · exact Nat.le_add_right _ _
    · exact Nat.le_refl _
    · exact Nat.le_add_right _ _
  exact I1.fpOk hc' (I1.hok.fresh hc')
end
noncomputable def zipT (ts us : List T) : List T := List.zipWith (fun t u => .tup [t, u]) ts us
/-- what can be zipped -/
noncomputable def sqOf : T → Option (List T)
  | .lst ts => some ts
  | .tup ts => some ts
  | .rol ts => some ts
  | .ktp ts => some ts
  | _ => none
noncomputable def kdOf : T → Bool
  | .lst _ => true
  | .rol _ => true
  | _ => false
theorem Vw.sq {K : PySem.W.Frag} {H : Hp} {B : AP'} {v : V} {t : T} {ts : List T} (h : Vw K H B v t) (e : sqOf t = some ts) : ∃ a vs, v = .ref a ∧ SqK K (kdOf t) H a vs ∧ Reps K H B vs ts := by
  cases h with
  | non => cases e
  | bl => cases e
  | int => cases e
  | str => cases e
  | rng => cases e
  | exc => cases e
  | exa => cases e
  | tup h r => cases e; exact ⟨_, _, rfl, SqT.of h, r⟩
  | ktp h r => cases e; exact ⟨_, _, rfl, .inr h, r⟩
  | lst h r => cases e; exact ⟨_, _, rfl, SqL.of h, r⟩
  | rol h r => cases e; exact ⟨_, _, rfl, h, r⟩
theorem itz_ok {K : PySem.W.Frag} {k1 k2 : Bool} {a b : Addr} {ts us : List T} : ItOk K (ItzK K k1 k2 a b) (fun H B => (∃ vs, SqK K k1 H a vs ∧ Reps K H B vs ts) ∧ ∃ ws, SqK K k2 H b ws ∧ Reps K H B ws us) (zipT ts us) := by
  refine ⟨fun H B i t hb ⟨⟨vs, h1, r1⟩, ws, h2, r2⟩ e => ?_, fun H B ⟨⟨vs, h1, r1⟩, ws, h2, r2⟩ => ⟨vs, ws, h1, h2, by rw [r1.length, r2.length]; simp [zipT]⟩⟩
  unfold zipT at e
  rw [List.getElem?_zipWith] at e
  cases e1 : ts[i]? with
  | none => rw [e1] at e; cases e
  | some t1 => cases e2 : us[i]? with
    | none => rw [e1, e2] at e; cases e
    | some t2 =>
      rw [e1, e2] at e
      have e' : T.tup [t1, t2] = t := Option.some.inj e
      subst e'
      obtain ⟨v1, g1, rv1⟩ := r1.get e1
      obtain ⟨v2, g2, rv2⟩ := r2.get e2
      refine ⟨⟨vs, ws, v1, v2, h1, h2, g1, g2⟩, fun x H2 y => ?_⟩
      obtain ⟨p, x', y', hx, hy, hp, rfl, rfl⟩ := y
      have z1 := hx vs h1
      have z2 := hy ws h2
      rw [g1] at z1
      rw [g2] at z2
      cases z1; cases z2
      have fs : Fr B H B (upd H p (.tup [v1, v2])) := Fr.same (Same.new hp)
      refine ⟨Same.new hp, .tup (fun z => ?_) upd_same (.cons (rv1.fr fs) (.cons (rv2.fr fs) .nil))⟩
      obtain ⟨o, q⟩ := hb p z
      rw [hp] at q
      cases q
namespace Y
section
variable {X : Cx} {e1 e2 : Expr} {es : List Expr} {us : UA} {pos p tp : Pos} {k : Nat}
/-- both not borrowed -/
noncomputable def iZ (us : UA) : UI := fun μ Rt => us μ fun rs μ' => match rs with
  | [.tr t1, .tr t2] => (match sqOf t1, sqOf t2 with
    | some ts, some vs => Rt (zipT ts vs) none μ'
    | _, _ => False)
  | _ => False
theorem zip (K : PySem.W.Frag) (hK : X.K = K) (hg : Gl X "zip") (hm : X.mg "zip" = none) (ha : YA X [e1, e2] us) (h1 : autoParam (nst e1 = true) L2.aRfl._auto_1) (h2 : autoParam (nst e2 = true) L2.aRfl._auto_1) : YI X (.Tuple es k tp) (.Call (.Name "zip" p) [e1, e2] [] pos) (iZ us) := by
  obtain ⟨t, q, r⟩ := ha
  subst hK
  refine ⟨_, ⟨pi_zipK hg hm q.h h1 h2⟩, fun F ad B σ H μ R Rt hF l q k => r F ad B σ H μ _ _ hF l q fun vs H' rs μ' l1 ps f k1 q1 => ?_⟩
  split at q1
  · rename_i t1 t2
    cases ps with
    | cons h1 ps => cases ps with
      | cons h2 ps =>
        cases ps
        have r1 := rep_of h1
        have r2 := rep_of h2
        split at q1
        · rename_i ts us e1 e2
          obtain ⟨a, vs, rfl, s1, _⟩ := Vw.sq r1.vw e1
          obtain ⟨b, ws, rfl, s2, _⟩ := Vw.sq r2.vw e2
          rw [hF] at s1 s2
          refine ⟨a, b, kdOf t1, kdOf t2, rfl, ⟨vs, s1⟩, ⟨ws, s2⟩, k _ H' μ' _ none (fun H B => Rep F.K H B (.ref a) t1 ∧ Rep F.K H B (.ref b) t2) l1 f k1 (itz_ok.imp fun H B h => ?_) ⟨r1, r2⟩ (fun B1 H1 B2 H2 f h => ⟨h.1.fr f, h.2.fr f⟩) (fun j ls z => by cases z) q1⟩
          obtain ⟨g1, g2⟩ := h
          obtain ⟨a', vs', ea, sa, ra⟩ := Vw.sq g1.vw e1
          obtain ⟨b', ws', eb, sb, rb⟩ := Vw.sq g2.vw e2
          cases ea; cases eb
          rw [hF] at sa sb ra rb
          exact ⟨⟨vs', sa, ra⟩, ws', sb, rb⟩
        · exact q1.elim
  · exact q1.elim
end
end Y
end L2

set_option linter.all false
set_option maxRecDepth 100000
set_option maxHeartbeats 4000000
namespace L2
open PySem PySem.Spec PyProof.Rows
theorem fun_okT {P : Program} {w : World} {K : PySem.W.Frag} {mg : Str → Option Value} {base : Heap} {x : Str} {st : Stmt} {N ps : List Str} {k : Nat} {tsp : TSp} {fa : Addr} {fd : FuncData} (F : Fun K x x st fa fd) (S : FnScope N ps (defScope st)) (md : List Bool) (hm : md.length = ps.length) (hN : md.length ≤ N.length)
    (hbody : ∀ (args : List T) (Qt : R → List T → Prop), args.length = ps.length → tsp args Qt → ∀ (cdv : Value) (A : Around) (outer : List Env) (s : Shared) (H : Hp) (E : XK), Room k (A.deeper (envOfC x (defScope st) s.heap.objs.size fa cdv)) →
      ∃ us, YB (cxOf CX0 P w K mg base N x (defScope st) fa cdv A outer s H E).nox (defBody st) us ∧ us (edOf md Qt) (startM md args N.length)) : FnOk P w K mg base CX0 (k + 1) fa fd ps (spT K md tsp) := by
  refine fun_okQ F S (fun vs H Q E h => ?_) (fun cdv A outer s H vs Q E hr h => ?_)
  · obtain ⟨B, args, Qt, ag, _⟩ := h
    rw [ag.len.1, hm]
  · obtain ⟨B, args, Qt, ag, bh, nd, ht, fin⟩ := h
    obtain ⟨us, ⟨t, q, r⟩, hu⟩ := hbody args Qt (by rw [ag.len.2, hm]) ht cdv A outer s H E hr
    refine ⟨t, q, ?_⟩
    have l0 := rl_start (N := N) ag bh nd hN
    -- what is told of the boxes at the end
    have outs : ∀ ad' B' σ' H' μ' (B2 : AP'), Rl (fxOf K H md vs B bh) ad' B' σ' H' μ' → (∀ b, B2 b → B' b) → Paired (Bx K H' B2) (bxA md vs) (outsAt md 0 μ') := fun ad' B' σ' H' μ' B2 l hB => by
      refine outs_of (ag.len.1) fun n e => ?_
      obtain ⟨v, t', e1, e2, q⟩ := ag.get e
      rw [if_pos rfl] at q
      obtain ⟨a, rfl, _⟩ := q
      obtain ⟨⟨c, hc⟩, ha⟩ := l.par n a (pOf_of e e1)
      have sl := l.slot n _ hc
      refine ⟨a, c, e1, by rw [Nat.zero_add]; exact hc, ?_⟩
      rw [← ha]
      exact (sl.2.2.2).of rfl (Fr.less hB)
    have keep : ∀ ad' B' σ' H' μ', Rl (fxOf K H md vs B bh) ad' B' σ' H' μ' → ∀ b o, H b = some o → b ∉ bxA md vs → H' b = some o := fun ad' B' σ' H' μ' l b o e n => l.old b o e fun i z => n (mem_bxA (pOf_is z).1 (pOf_is z).2)
    refine r (fxOf K H md vs B bh) _ _ (adOf vs) B (start N vs) H _ rfl l0 hu ⟨fun ad' B' σ' H' μ' l _ q => ?_, fun ad' B' σ' H' μ' v rr h q => ?_, fun _ _ _ _ _ _ _ z => z.elim, fun _ _ _ _ _ _ _ z => z.elim⟩
    · exact fin .non H' (.tr .non) _ q (keep _ _ _ _ _ l) ⟨.non, outs _ _ _ _ _ _ l l.bc⟩
    · cases rr with
      | tr t => exact fin v H' (.tr t) _ q (keep _ _ _ _ _ h.1) ⟨(show Rep K H' B' v t from h.2).fr (Fr.less h.1.bc), outs _ _ _ _ _ _ h.1 h.1.bc⟩
      | fr c =>
        obtain ⟨l, a, rfl, n, h0, l2, x⟩ := h
        have sub : ∀ b, more B a b → more B' a b := fun b z => z.imp id (l.bc b)
        exact fin _ H' (.fr c) _ q (keep _ _ _ _ _ l) ⟨a, rfl, h0, fun z => n (l.bc a z), x.of rfl (Fr.less sub), outs _ _ _ _ _ _ l2 sub⟩
      | br i =>
        have q' : (match μ'[i]? with | some (.bx c) => Qt (.fr c) (outsAt md 0 μ') | _ => False) := q
        obtain ⟨l, rfl, s', c', e1, e2⟩ := h
        split at q'
        · rename_i c ec
          have sl := l.slot i _ ec
          have sub : ∀ b, more B (ad' i) b → B' b := fun b z => z.elim (fun z => by rw [z]; exact sl.2.1) (l.bc b)
          refine fin _ H' (.fr c) _ q' (keep _ _ _ _ _ l) ⟨ad' i, rfl, sl.2.2.1, fun z => ?_, (sl.2.2.2.2).of rfl (Fr.less sub), outs _ _ _ _ _ _ l sub⟩
          obtain ⟨o, e⟩ := bh _ z
          have : H (ad' i) = none := sl.2.2.1
          rw [this] at e; cases e
        · exact q'.elim

namespace Y
section
variable {X : Cx} {es : List Expr} {pos : Pos} {x : Str}
theorem globX {t : T} (hg : Gl X x) (h : ∃ w u, X.mg x = some u ∧ RelV w u ∧ ∀ H B, Rep X.K H B w t) (hd : autoParam ((x == ("__debug__" : Str)) = false) L2.aDec._auto_1) : YE X (.Name x pos) (uC t) := by
  obtain ⟨w, u, hm, r, h⟩ := h
  exact glob hg hm r h hd
noncomputable def conTs : List V → Option (List T)
  | [] => some []
  | v :: vs => match conT v, conTs vs with
    | some t, some ts => some (t :: ts)
    | _, _ => none
theorem conTs_map : ∀ {vs : List V} {ts : List T}, conTs vs = some ts → vs.map conT = ts.map some
  | [], ts, h => by cases h; rfl
  | v :: vs, ts, h => by
    unfold conTs at h
    split at h
    · rename_i t us e1 e2
      cases h
      rw [List.map_cons, List.map_cons, e1, conTs_map e2]
    · cases h
theorem consts2 {vs : List V} {ts : List T} (h : consV es = some vs) (h2 : conTs vs = some ts) : YA X es (uK ts) := consts h (conTs_map h2)
end
end Y
/-- the statements behind a statement, as one letter -/
theorem seqT {u w : US} {E : Ed} {μ : Mu} (h : ∀ N, N = w E → u { E with nx := N } μ) : Y.uSeq u w E μ := h _ rfl
/-- one way on: under C, with r -/
noncomputable def stp (o : Option (Prop × R)) (Q : R → Prop) : Prop := match o with
  | some (C, r) => C ∧ Q r
  | none => False
theorem stp_some (C : Prop) (r : R) (Q : R → Prop) : stp (some (C, r)) Q = (C ∧ Q r) := propext Iff.rfl
noncomputable def sti (o : Option (List T × Option (Nat × List T))) (Q : List T → Option (Nat × List T) → Prop) : Prop := match o with
  | some (ts, g) => Q ts g
  | none => False
theorem sti_some (ts : List T) (g : Option (Nat × List T)) (Q : List T → Option (Nat × List T) → Prop) : sti (some (ts, g)) Q = Q ts g := propext Iff.rfl
noncomputable def nb : Option Sl → Prop
  | some (.pb _) => False
  | _ => True
/-- a name that has a tree, or none yet -/
noncomputable def sl : Option T → Sl
  | none => .un
  | some t => .tr t
noncomputable def fVar (o : Option Sl) (i : Nat) : Option (Prop × R) := match o with
  | some (.tr t) => some (True, .tr t)
  | some (.bx _) => some (True, .br i)
  | some (.pb _) => some (True, .br i)
  | _ => none
noncomputable def fTru : R → Option Bool
  | .tr (.bl b) => some b
  | .tr (.int i) => some (i != 0)
  | _ => none
noncomputable def fAdd (a b : Option T) : Option (Prop × R) := match a, b with
  | some (.int i), some (.int j) => some (True, .tr (.int (i + j)))
  | some (.str i), some (.str j) => some (i.length + j.length ≤ sizeLine, .tr (.str (i ++ j)))
  | some (.lst xs), some (.lst ys) => some (xs.length + ys.length ≤ sizeLine, .fr (.lst (xs ++ ys)))
  | some (.tup xs), some (.tup ys) => some (xs.length + ys.length ≤ sizeLine, .tr (.tup (xs ++ ys)))
  | _, _ => none
noncomputable def oT (o : Option T) : Option (Prop × R) := match o with
  | some t => some (True, .tr t)
  | none => none
theorem oT_some (t : T) : oT (some t) = some (True, .tr t) := rfl
noncomputable def fIx (a b : Option T) : Option (Prop × R) := match a, b with
  | some (.lst xs), some (.int i) => oT (atI xs i)
  | some (.tup xs), some (.int i) => oT (atI xs i)
  | some (.ktp xs), some (.int i) => oT (atI xs i)
  | some (.str z), some (.int i) => (match atI z.cps.toList i with | some c => some (z.length ≤ sizeLine, .tr (.str ⟨#[c]⟩)) | none => none)
  | _, _ => none
noncomputable def fLen (a : T) : Option (Prop × R) := match a with
  | .lst xs => some (True, .tr (.int xs.length))
  | .tup xs => some (True, .tr (.int xs.length))
  | .rol xs => some (True, .tr (.int xs.length))
  | .ktp xs => some (True, .tr (.int xs.length))
  | .str z => some (z.length ≤ sizeLine, .tr (.int z.length))
  | _ => none
noncomputable def fTuple (a : Option T) : Option (Prop × R) := match a with
  | some (.lst xs) => some (True, .tr (.tup xs))
  | some (.tup xs) => some (True, .tr (.tup xs))
  | _ => none
noncomputable def fList (a : T) : Option (Prop × R) := match a with
  | .lst xs => some (True, .fr (.lst xs))
  | .tup xs => some (True, .fr (.lst xs))
  | .rol xs => some (True, .fr (.lst xs))
  | .rng lo hi => some ((hi - lo).toNat ≤ 65536 ∧ -(2 ^ 62) ≤ lo ∧ lo < 2 ^ 62 ∧ -(2 ^ 62) ≤ hi ∧ hi < 2 ^ 62, .fr (.lst ((List.range (hi - lo).toNat).map fun k => T.int (lo + (k : Nat)))))
  | _ => none
noncomputable def fSl (a : Option T) (lo hi : Option Int) : Option (Prop × R) := match a with
  | some (.lst xs) => some (True, .fr (.lst (Y.cutG xs lo hi)))
  | some (.rol xs) => some (True, .fr (.lst (Y.cutG xs lo hi)))
  | some (.tup xs) => some (True, .tr (.tup (Y.cutG xs lo hi)))
  | _ => none
noncomputable def fSeq (a : Option T) : Option (List T) := match a with
  | some (.tup ts) => some ts
  | some (.lst ts) => some ts
  | _ => none
noncomputable def fIt (r : R) (μ : Mu) : Option (List T × Option (Nat × List T)) := match r with
  | .br j => (match cont μ (.br j) with | some (.lst ts) => some (ts, some (j, ts)) | _ => none)
  | .tr (.lst ts) => some (ts, none)
  | .fr (.lst ts) => some (ts, none)
  | .tr (.tup ts) => some (ts, none)
  | .tr (.rol ts) => some (ts, none)
  | .tr (.ktp ts) => some (ts, none)
  | _ => none
namespace A
open Y
theorem uC (t : T) (μ : Mu) (Q : R → Mu → Prop) : Y.uC t μ Q = Q (.tr t) μ := propext Iff.rfl
theorem uVar (i : Nat) (μ : Mu) (Q : R → Mu → Prop) : Y.uVar i μ Q = stp (fVar μ[i]? i) fun r => Q r μ := by
  unfold Y.uVar fVar
  cases μ[i]? with
  | none => rfl
  | some s => cases s <;> exact propext ⟨fun h => by first | exact h | exact ⟨trivial, h⟩, fun h => by first | exact h | exact h.2⟩
theorem uOp (u : U2) (ua ub : UE) (μ : Mu) (Q : R → Mu → Prop) : Y.uOp u ua ub μ Q = ua μ fun r1 μ1 => ub μ1 fun r2 μ2 => u r1.d r2.d μ2 Q := propext Iff.rfl
theorem uTest (ue : UE) (μ : Mu) (Q : Bool → Mu → Prop) : Y.uTest ue μ Q = ue μ fun r μ' => match r with | .tr (.bl b) => Q b μ' | _ => False := propext Iff.rfl
theorem uChain (u u' : U2) (ua ub uc : UE) (μ : Mu) (Q : R → Mu → Prop) : Y.uChain u u' ua ub uc μ Q = ua μ fun r1 μ1 => ub μ1 fun r2 μ2 => u r1.d r2.d μ2 fun z μ3 => match z with
  | .tr (.bl true) => uc μ3 fun r3 μ4 => u' r2.d r3.d μ4 Q
  | .tr (.bl false) => Q (.tr (.bl false)) μ3
  | _ => False := propext Iff.rfl
theorem uNot (ut : UT) (μ : Mu) (Q : Bool → Mu → Prop) : Y.uNot ut μ Q = ut μ fun b μ' => Q (!b) μ' := propext Iff.rfl
theorem uAnd (u w : UT) (μ : Mu) (Q : Bool → Mu → Prop) : Y.uAnd u w μ Q = u μ fun b μ' => if b = true then w μ' Q else Q false μ' := propext Iff.rfl
theorem uOr (u w : UT) (μ : Mu) (Q : Bool → Mu → Prop) : Y.uOr u w μ Q = u μ fun b μ' => if b = true then Q true μ' else w μ' Q := propext Iff.rfl
theorem uTru (ue : UE) (μ : Mu) (Q : Bool → Mu → Prop) : Y.uTru ue μ Q = ue μ fun r μ' => match fTru r with | some b => Q b μ' | none => False := by
  unfold Y.uTru fTru
  congr 1
  funext r μ'
  cases r with
  | tr t => cases t <;> rfl
  | br i => rfl
  | fr c => rfl
theorem uAndV (ua ub : UE) (μ : Mu) (Q : R → Mu → Prop) : Y.uAndV ua ub μ Q = ua μ fun r μ' => match r with | .tr (.bl true) => ub μ' Q | .tr (.bl false) => Q (.tr (.bl false)) μ' | _ => False := propext Iff.rfl
theorem uIf (uc : UT) (ua ub : UE) (μ : Mu) (Q : R → Mu → Prop) : Y.uIf uc ua ub μ Q = uc μ fun b μ' => if b = true then ua μ' Q else ub μ' Q := propext Iff.rfl
theorem uNeg (ue : UE) (μ : Mu) (Q : R → Mu → Prop) : Y.uNeg ue μ Q = ue μ fun r μ' => match r with | .tr (.int i) => Q (.tr (.int (-i))) μ' | _ => False := propext Iff.rfl
theorem uNil (μ : Mu) (Q : List R → Mu → Prop) : Y.uNil μ Q = Q [] μ := propext Iff.rfl
theorem uCons (ue : UE) (us : UA) (μ : Mu) (Q : List R → Mu → Prop) : Y.uCons ue us μ Q = ue μ fun r μ1 => us μ1 fun rs μ2 => Q (r.d :: rs) μ2 := propext Iff.rfl
theorem uK (ts : List T) (μ : Mu) (Q : List R → Mu → Prop) : Y.uK ts μ Q = Q (ts.map R.tr) μ := propext Iff.rfl
theorem uTup (us : UA) (μ : Mu) (Q : R → Mu → Prop) : Y.uTup us μ Q = us μ fun rs μ' => match trees rs with | some ts => ts.length ≤ sizeLine ∧ Q (.tr (.tup ts)) μ' | none => False := propext Iff.rfl
theorem uLst (us : UA) (μ : Mu) (Q : R → Mu → Prop) : Y.uLst us μ Q = us μ fun rs μ' => match trees rs with | some ts => ts.length ≤ sizeLine ∧ Q (.fr (.lst ts)) μ' | none => False := propext Iff.rfl
theorem uCB (u : UC) (us : UA) (μ : Mu) (Q : R → Mu → Prop) : Y.uCB u us μ Q = us μ fun rs μ' => u rs μ' Q := propext Iff.rfl
theorem uNoPart (μ : Mu) (Q : Option Int → Mu → Prop) : Y.uNoPart μ Q = Q none μ := propext Iff.rfl
theorem uPart (ue : UE) (μ : Mu) (Q : Option Int → Mu → Prop) : Y.uPart ue μ Q = ue μ fun r μ' => match r with | .tr (.int i) => Q (some i) μ' | _ => False := propext Iff.rfl
theorem byT (f : T → T → Mu → (R → Mu → Prop) → Prop) (r1 r2 : R) (μ : Mu) (Q : R → Mu → Prop) : Y.byT f r1 r2 μ Q = (match cont μ r1, cont μ r2 with | some t, some u => f t u μ Q | _, _ => False) := propext Iff.rfl
theorem tIntI (C : Int → Int → Prop) (g : Int → Int → Int) (i j : Int) (μ : Mu) (Q : R → Mu → Prop) : tInt C g (.int i) (.int j) μ Q = (C i j ∧ Q (.tr (.int (g i j))) μ) := propext Iff.rfl
theorem tBlI (g : Int → Int → Bool) (i j : Int) (μ : Mu) (Q : R → Mu → Prop) : tBl g (.int i) (.int j) μ Q = Q (.tr (.bl (g i j))) μ := propext Iff.rfl
theorem uAdd (r1 r2 : R) (μ : Mu) (Q : R → Mu → Prop) : Y.uAdd r1 r2 μ Q = stp (fAdd (cont μ r1) (cont μ r2)) fun r => Q r μ := by
  unfold Y.uAdd fAdd
  cases cont μ r1 with
  | none => rfl
  | some t => cases cont μ r2 with
    | none => cases t <;> rfl
    | some u => cases t <;> cases u <;> first | rfl | exact propext ⟨fun h => ⟨trivial, h⟩, fun h => h.2⟩
theorem uIxT (r1 r2 : R) (μ : Mu) (Q : R → Mu → Prop) : Y.uIxT r1 r2 μ Q = stp (fIx (cont μ r1) (cont μ r2)) fun r => Q r μ := by
  unfold Y.uIxT fIx
  have e : ∀ (xs : List T) (i : Int), (match atI xs i with | some t => Q (.tr t) μ | none => False) = stp (oT (atI xs i)) fun r => Q r μ := fun xs i => by
    cases atI xs i with
    | none => rfl
    | some t => exact propext ⟨fun h => ⟨trivial, h⟩, fun h => h.2⟩
  cases cont μ r1 with
  | none => rfl
  | some t => cases cont μ r2 with
    | none => cases t <;> rfl
    | some u =>
      cases t <;> cases u <;> first | rfl | exact e _ _ | skip
      rename_i z i
      show (z.length ≤ sizeLine ∧ (match atI z.cps.toList i with | some c => Q (.tr (.str ⟨#[c]⟩)) μ | none => False)) = stp (match atI z.cps.toList i with | some c => some (z.length ≤ sizeLine, .tr (.str ⟨#[c]⟩)) | none => none) fun r => Q r μ
      cases atI z.cps.toList i with
      | none => exact propext ⟨fun h => h.2, fun h => h.elim⟩
      | some c => rfl
theorem tIsN (neg : Bool) (t : T) (μ : Mu) (Q : R → Mu → Prop) : Y.tIsN neg t .non μ Q = Q (.tr (.bl (match t with | .non => !neg | _ => neg))) μ := propext Iff.rfl
theorem tEqI (neg : Bool) (i j : Int) (μ : Mu) (Q : R → Mu → Prop) : Y.tEq neg (.int i) (.int j) μ Q = Q (.tr (.bl (if neg then !decide (i = j) else decide (i = j)))) μ := propext Iff.rfl
theorem tEqS (neg : Bool) (i j : Str) (μ : Mu) (Q : R → Mu → Prop) : Y.tEq neg (.str i) (.str j) μ Q = Q (.tr (.bl (if neg then !decide (i = j) else decide (i = j)))) μ := propext Iff.rfl
theorem tEqB (neg : Bool) (i j : Bool) (μ : Mu) (Q : R → Mu → Prop) : Y.tEq neg (.bl i) (.bl j) μ Q = Q (.tr (.bl (if neg then !decide (i = j) else decide (i = j)))) μ := propext Iff.rfl
theorem tEqL (neg : Bool) (xs ys : List T) (μ : Mu) (Q : R → Mu → Prop) : Y.tEq neg (.lst xs) (.lst ys) μ Q = (neg = false ∧ xs.all flatT = true ∧ ys.all flatT = true ∧ Q (.tr (.bl (eqFs xs ys))) μ) := propext Iff.rfl
theorem tEqT (neg : Bool) (xs ys : List T) (μ : Mu) (Q : R → Mu → Prop) : Y.tEq neg (.tup xs) (.tup ys) μ Q = (neg = false ∧ xs.all flatT = true ∧ ys.all flatT = true ∧ Q (.tr (.bl (eqFs xs ys))) μ) := propext Iff.rfl
theorem by1 (f : T → Mu → (R → Mu → Prop) → Prop) (r : R) (μ : Mu) (Q : R → Mu → Prop) : Y.by1 f [r] μ Q = (match cont μ r with | some t => f t μ Q | none => False) := propext Iff.rfl
theorem tLen (t : T) (μ : Mu) (Q : R → Mu → Prop) : Y.tLen t μ Q = stp (fLen t) fun r => Q r μ := by
  cases t <;> first | rfl | exact propext ⟨fun h => ⟨trivial, h⟩, fun h => h.2⟩
theorem uTuple (r : R) (μ : Mu) (Q : R → Mu → Prop) : Y.uTuple [r] μ Q = stp (fTuple (cont μ r)) fun r => Q r μ := by
  show (match cont μ r with | some (.lst xs) => Q (.tr (.tup xs)) μ | some (.tup xs) => Q (.tr (.tup xs)) μ | _ => False) = _
  unfold fTuple
  cases cont μ r with
  | none => rfl
  | some t => cases t <;> first | rfl | exact propext ⟨fun h => ⟨trivial, h⟩, fun h => h.2⟩
theorem tList (t : T) (μ : Mu) (Q : R → Mu → Prop) : Y.tList t μ Q = stp (fList t) fun r => Q r μ := by
  cases t <;> first | rfl | exact propext ⟨fun h => ⟨trivial, h⟩, fun h => h.2⟩ | exact propext ⟨fun h => ⟨⟨h.1, h.2.1, h.2.2.1, h.2.2.2.1, h.2.2.2.2.1⟩, h.2.2.2.2.2⟩, fun h => ⟨h.1.1, h.1.2.1, h.1.2.2.1, h.1.2.2.2.1, h.1.2.2.2.2, h.2⟩⟩
theorem uRange1 (j : Int) (μ : Mu) (Q : R → Mu → Prop) : Y.uRange [.tr (.int j)] μ Q = Q (.tr (.rng 0 j)) μ := propext Iff.rfl
theorem uRange2 (i j : Int) (μ : Mu) (Q : R → Mu → Prop) : Y.uRange [.tr (.int i), .tr (.int j)] μ Q = Q (.tr (.rng i j)) μ := propext Iff.rfl
theorem uII (g : Int → Int → Int) (i j : Int) (μ : Mu) (Q : R → Mu → Prop) : Y.uII g [.tr (.int i), .tr (.int j)] μ Q = Q (.tr (.int (g i j))) μ := propext Iff.rfl
theorem uIntI (i : Int) (μ : Mu) (Q : R → Mu → Prop) : Y.uIntG [.tr (.int i)] μ Q = Q (.tr (.int i)) μ := propext Iff.rfl
theorem uIntB (k : Bool) (μ : Mu) (Q : R → Mu → Prop) : Y.uIntG [.tr (.bl k)] μ Q = Q (.tr (.int (if k = true then 1 else 0))) μ := propext Iff.rfl
theorem uIsi (ue : UE) (c : String) (μ : Mu) (Q : R → Mu → Prop) : Y.uIsi ue c μ Q = ue μ fun r μ' => match cont μ' r with | some t => (match isiT t c with | some b => Q (.tr (.bl b)) μ' | none => False) | none => False := propext Iff.rfl
theorem uAsg (ue : UE) (g : UG) (E : Ed) (μ : Mu) : Y.uAsg ue g E μ = ue μ fun r μ' => g r μ' E.nx := propext Iff.rfl
theorem gNt (i : Nat) (t : T) (μ : Mu) (Q : Mu → Prop) : Y.gN i (.tr t) μ Q = (noP μ i ∧ Q (μ.set i (.tr t))) := propext Iff.rfl
theorem gNf (i : Nat) (t : T) (μ : Mu) (Q : Mu → Prop) : Y.gN i (.fr t) μ Q = (noP μ i ∧ Q (μ.set i (.bx t))) := propext Iff.rfl
theorem noP (μ : Mu) (i : Nat) : Y.noP μ i = nb μ[i]? := propext Iff.rfl
theorem nb_tr (t : T) : nb (some (.tr t)) = True := rfl
theorem nb_bx (t : T) : nb (some (.bx t)) = True := rfl
theorem nb_un : nb (some .un) = True := rfl
theorem nb_sl (o : Option T) : nb (some (sl o)) = True := by cases o <;> rfl
theorem gT (n : Nat) (gs : UGs) (r : R) (μ : Mu) (Q : Mu → Prop) : Y.gT n gs r μ Q = (match fSeq (cont μ r.d) with | some ts => ts.length = n ∧ gs ts μ Q | none => False) := by
  unfold Y.gT fSeq
  cases cont μ r.d with
  | none => rfl
  | some t => cases t <;> rfl
theorem gsC (g : UG) (gs : UGs) (t : T) (ts : List T) (μ : Mu) (Q : Mu → Prop) : Y.gsC g gs (t :: ts) μ Q = g (.tr t) μ fun μ' => gs ts μ' Q := propext Iff.rfl
theorem gsN (μ : Mu) (Q : Mu → Prop) : Y.gsN [] μ Q = Q μ := propext Iff.rfl
theorem gS (uo ui : UE) (t : T) (μ : Mu) (Q : Mu → Prop) : Y.gS uo ui (.tr t) μ Q = uo μ fun ro μ1 => ui μ1 fun ri μ2 => (match ro, ri with
    | .br j, .tr (.int k) => (match (μ2[j]?).bind Sl.box with
      | some (.lst ts) => (match ixN ts.length k with
        | some n => Q (putS μ2 j (.lst (ts.set n t)))
        | none => False)
      | _ => False)
    | _, _ => False) := propext Iff.rfl
theorem uRet (ue : UE) (E : Ed) (μ : Mu) : Y.uRet ue E μ = ue μ E.rt := propext Iff.rfl
theorem uDrop (ue : UE) (E : Ed) (μ : Mu) : Y.uDrop ue E μ = ue μ fun _ μ' => E.nx μ' := propext Iff.rfl
theorem uIfS (c : UT) (u w : US) (E : Ed) (μ : Mu) : Y.uIfS c u w E μ = c μ fun b μ' => if b = true then u E μ' else w E μ' := propext Iff.rfl
theorem uIt (ue : UE) (μ : Mu) (Rt : List T → Option (Nat × List T) → Mu → Prop) : Y.uIt ue μ Rt = ue μ fun r μ' => sti (fIt r μ') fun ts g => Rt ts g μ' := by
  unfold Y.uIt fIt
  congr 1
  funext r μ'
  cases r with
  | tr t => cases t <;> rfl
  | br j =>
    show (match cont μ' (.br j) with | some (.lst ts) => Rt ts (some (j, ts)) μ' | _ => False) = sti (match cont μ' (.br j) with | some (.lst ts) => some (ts, some (j, ts)) | _ => none) fun ts g => Rt ts g μ'
    cases cont μ' (.br j) with
    | none => rfl
    | some t => cases t <;> rfl
  | fr c => cases c <;> rfl
theorem iR1 (us : UA) (μ : Mu) (Rt : List T → Option (Nat × List T) → Mu → Prop) : Y.iR1 us μ Rt = us μ fun rs μ' => match rs with
  | [.tr (.int j)] => -(2 ^ 62) ≤ j ∧ j < 2 ^ 62 ∧ Rt ((List.range j.toNat).map fun k => T.int (0 + (k : Nat))) none μ'
  | _ => False := propext Iff.rfl
theorem iEn (us : UA) (μ : Mu) (Rt : List T → Option (Nat × List T) → Mu → Prop) : Y.iEn us μ Rt = us μ fun rs μ' => match rs with | [.tr (.tup ts)] => Rt (pairs ts) none μ' | _ => False := propext Iff.rfl
theorem iZ (us : UA) (μ : Mu) (Rt : List T → Option (Nat × List T) → Mu → Prop) : Y.iZ us μ Rt = us μ fun rs μ' => match rs with
  | [.tr t1, .tr t2] => (match sqOf t1, sqOf t2 with | some ts, some vs => Rt (zipT ts vs) none μ' | _, _ => False)
  | _ => False := propext Iff.rfl
theorem uFor (ui : UI) (g : UG) (body : US) (E : Ed) (μ : Mu) : Y.uFor ui g body E μ = ui μ fun items gd μ' => match gd with
  | none => uForG g body E items μ'
  | some (j, _) => (match μ'[j]? with
    | some (.bx c) => uForG g body E items (μ'.set j (.tr c))
    | _ => False) := propext Iff.rfl
theorem uComp (own : T → Mu → Option Mu) (dr : Mu → Mu) (ui : UI) (ut : UT) (ue : UE) (μ : Mu) (Q : R → Mu → Prop) : Y.uComp own dr ui ut ue μ Q = ui μ fun items gd μ' => uCmp gd own dr ut ue Q items [] μ' := propext Iff.rfl
theorem uMe (um : UM) (uo : UE) (us : UA) (μ : Mu) (Q : R → Mu → Prop) : Y.uMe um uo us μ Q = uo μ fun ro μ1 => match ro with | .br j => us μ1 fun rs μ2 => um j rs μ2 Q | _ => False := propext Iff.rfl
theorem uAppend (j : Nat) (t : T) (μ : Mu) (Q : R → Mu → Prop) : Y.uAppend j [.tr t] μ Q = (match (μ[j]?).bind Sl.box with | some (.lst ts) => ts.length < sizeLine ∧ Q (.tr .non) (putS μ j (.lst (ts ++ [t]))) | _ => False) := propext Iff.rfl
theorem uFn (md : List Bool) (tsp : TSp) (us : UA) (μ : Mu) (Q : R → Mu → Prop) : Y.uFn md tsp us μ Q = us μ fun rs μ1 => match agT μ1 md rs with
  | some args => (bxS md rs).Nodup ∧ (∀ j ∈ bxS md rs, j ∉ roS md rs) ∧ tsp args fun r outs => (roS md rs = [] ∨ (flatR r = true ∧ outs.all flatC = true)) ∧ Q r (putAll (bxS md rs) outs μ1)
  | none => False := propext Iff.rfl
theorem sqL (ts : List T) : sqOf (.lst ts) = some ts := rfl
theorem sqT (ts : List T) : sqOf (.tup ts) = some ts := rfl

noncomputable def itB : Option T → Nat → Option (List T × Option (Nat × List T))
  | some (.lst ts), j => some (ts, some (j, ts))
  | _, _ => none
theorem v_tr (t : T) (i : Nat) : fVar (some (.tr t)) i = some (True, .tr t) := id rfl
theorem v_bx (t : T) (i : Nat) : fVar (some (.bx t)) i = some (True, .br i) := id rfl
theorem v_pb (t : T) (i : Nat) : fVar (some (.pb t)) i = some (True, .br i) := id rfl
theorem add_i (i j : Int) : fAdd (some (.int i)) (some (.int j)) = some (True, .tr (.int (i + j))) := id rfl
theorem add_s (i j : Str) : fAdd (some (.str i)) (some (.str j)) = some (i.length + j.length ≤ sizeLine, .tr (.str (i ++ j))) := id rfl
theorem add_l (xs ys : List T) : fAdd (some (.lst xs)) (some (.lst ys)) = some (xs.length + ys.length ≤ sizeLine, .fr (.lst (xs ++ ys))) := id rfl
theorem add_t (xs ys : List T) : fAdd (some (.tup xs)) (some (.tup ys)) = some (xs.length + ys.length ≤ sizeLine, .tr (.tup (xs ++ ys))) := id rfl
theorem ix_l (xs : List T) (i : Int) : fIx (some (.lst xs)) (some (.int i)) = oT (atI xs i) := id rfl
theorem ix_t (xs : List T) (i : Int) : fIx (some (.tup xs)) (some (.int i)) = oT (atI xs i) := id rfl
theorem ix_k (xs : List T) (i : Int) : fIx (some (.ktp xs)) (some (.int i)) = oT (atI xs i) := id rfl
theorem ix_s (z : Str) (i : Int) : fIx (some (.str z)) (some (.int i)) = (match atI z.cps.toList i with | some c => some (z.length ≤ sizeLine, .tr (.str ⟨#[c]⟩)) | none => none) := id rfl
theorem len_l (xs : List T) : fLen (.lst xs) = some (True, .tr (.int xs.length)) := id rfl
theorem len_t (xs : List T) : fLen (.tup xs) = some (True, .tr (.int xs.length)) := id rfl
theorem len_r (xs : List T) : fLen (.rol xs) = some (True, .tr (.int xs.length)) := id rfl
theorem len_k (xs : List T) : fLen (.ktp xs) = some (True, .tr (.int xs.length)) := id rfl
theorem len_s (z : Str) : fLen (.str z) = some (z.length ≤ sizeLine, .tr (.int z.length)) := id rfl
theorem tp_l (xs : List T) : fTuple (some (.lst xs)) = some (True, .tr (.tup xs)) := id rfl
theorem tp_t (xs : List T) : fTuple (some (.tup xs)) = some (True, .tr (.tup xs)) := id rfl
theorem ls_l (xs : List T) : fList (.lst xs) = some (True, .fr (.lst xs)) := id rfl
theorem ls_t (xs : List T) : fList (.tup xs) = some (True, .fr (.lst xs)) := id rfl
theorem ls_r (xs : List T) : fList (.rol xs) = some (True, .fr (.lst xs)) := id rfl
theorem ls_g (lo hi : Int) : fList (.rng lo hi) = some ((hi - lo).toNat ≤ 65536 ∧ -(2 ^ 62) ≤ lo ∧ lo < 2 ^ 62 ∧ -(2 ^ 62) ≤ hi ∧ hi < 2 ^ 62, .fr (.lst ((List.range (hi - lo).toNat).map fun k => T.int (lo + (k : Nat))))) := id rfl
theorem sl_l (xs : List T) (lo hi : Option Int) : fSl (some (.lst xs)) lo hi = some (True, .fr (.lst (Y.cutG xs lo hi))) := id rfl
theorem sl_r (xs : List T) (lo hi : Option Int) : fSl (some (.rol xs)) lo hi = some (True, .fr (.lst (Y.cutG xs lo hi))) := id rfl
theorem sl_t (xs : List T) (lo hi : Option Int) : fSl (some (.tup xs)) lo hi = some (True, .tr (.tup (Y.cutG xs lo hi))) := id rfl
theorem sq_t (xs : List T) : fSeq (some (.tup xs)) = some xs := id rfl
theorem sq_l (xs : List T) : fSeq (some (.lst xs)) = some xs := id rfl
theorem it_tl (ts : List T) (μ : Mu) : fIt (.tr (.lst ts)) μ = some (ts, none) := id rfl
theorem it_fl (ts : List T) (μ : Mu) : fIt (.fr (.lst ts)) μ = some (ts, none) := id rfl
theorem it_tt (ts : List T) (μ : Mu) : fIt (.tr (.tup ts)) μ = some (ts, none) := id rfl
theorem it_tr (ts : List T) (μ : Mu) : fIt (.tr (.rol ts)) μ = some (ts, none) := id rfl
theorem it_tk (ts : List T) (μ : Mu) : fIt (.tr (.ktp ts)) μ = some (ts, none) := id rfl
theorem it_br (j : Nat) (μ : Mu) : fIt (.br j) μ = itB (cont μ (.br j)) j := by
  show (match cont μ (.br j) with | some (.lst ts) => some (ts, some (j, ts)) | _ => none) = _
  unfold itB
  cases cont μ (.br j) with
  | none => rfl
  | some t => cases t <;> rfl
theorem itB_l (ts : List T) (j : Nat) : itB (some (.lst ts)) j = some (ts, some (j, ts)) := id rfl
theorem c_tr (μ : Mu) (t : T) : cont μ (.tr t) = some t := id rfl
theorem c_fr (μ : Mu) (t : T) : cont μ (.fr t) = some t := id rfl
theorem c_br (μ : Mu) (i : Nat) : cont μ (.br i) = (μ[i]?).bind Sl.box := id rfl
theorem d_tr (t : T) : R.d (.tr t) = .tr t := id rfl
theorem d_fr (t : T) : R.d (.fr t) = .tr t := id rfl
theorem d_br (i : Nat) : R.d (.br i) = .br i := id rfl
theorem tr_b (b : Bool) : fTru (.tr (.bl b)) = some b := id rfl
theorem tr_i (i : Int) : fTru (.tr (.int i)) = some (i != 0) := id rfl
end A
theorem for_ind {g : UG} {body : US} {E : Ed} (I : List T → Mu → Prop) {items : List T} {μ : Mu} (h0 : I items μ) (hn : ∀ μ, I [] μ → E.nx μ)
    (hs : ∀ t ts μ (N : Mu → Prop), I (t :: ts) μ → (∀ μ', I ts μ' → N μ') → g (.tr t) μ fun μ1 => body { E with nx := N, ct := N, bk := E.nx } μ1) : Y.uForG g body E items μ := by
  induction items generalizing μ with
  | nil => exact hn μ h0
  | cons t ts ih => exact hs t ts μ _ h0 fun μ' h => ih h
theorem cmp_ind {gd : Option (Nat × List T)} {own : T → Mu → Option Mu} {dr : Mu → Mu} {ut : UT} {ue : UE} {Q : R → Mu → Prop} (I : List T → List T → Mu → Prop) {items acc : List T} {μ : Mu} (h0 : I items acc μ) (hn : ∀ acc μ, I [] acc μ → Y.gOk gd μ ∧ Q (.fr (.lst acc)) μ)
    (hs : ∀ t r acc μ (N : List T → Mu → Prop), I (t :: r) acc μ → (∀ acc' μ', I r acc' μ' → N acc' μ') → Y.gOk gd μ ∧ acc.length < sizeLine ∧ (match own t μ with
      | none => False
      | some μ1 => ut μ1 fun b μ2 => if b = true then ue μ2 fun rr μ3 => (match rr.d with
          | .tr t' => N (acc ++ [t']) (dr μ3)
          | _ => False) else N acc (dr μ2))) : Y.uCmp gd own dr ut ue Q items acc μ := by
  induction items generalizing μ acc with
  | nil => exact hn acc μ h0
  | cons t ts ih => exact hs t ts acc μ (fun a m => Y.uCmp gd own dr ut ue Q ts a m) h0 fun a' μ' h => ih h
noncomputable def spLaw (K : PySem.W.Frag) : Sp := fun vs H Q _ => ∃ (a : Addr) (ns : List Int), vs = [.ref a] ∧ SqL K H a (ns.map V.int) ∧ ns.length ≤ 63 ∧ ∀ H', Q (.bl true) H'
theorem reps_ints {K : PySem.W.Frag} {H : Hp} {B : AP'} : ∀ ns : List Int, Reps K H B (ns.map V.int) (ns.map T.int)
  | [] => .nil
  | n :: ns => .cons (.int n) (reps_ints ns)
theorem law_of {P : Program} {w : World} {K : PySem.W.Frag} {mg : Str → Option Value} {base : Heap} {k : Nat} {fa : Addr} {fd : FuncData} {ps : List Str} (h : FnOk P w K mg base CX0 k fa fd ps (spT K [false] tspLaw)) : FnOk P w K mg base CX0 k fa fd ps (spLaw K) := by
  refine h.imp fun vs H Q E ⟨a, ns, e, hs, hl, q⟩ => ?_
  subst e
  refine ⟨fun _ => False, [.rol (ns.map T.int)], fun r outs => r = .tr (.bl true), ⟨.rol ?_ (reps_ints ns), trivial⟩, fun b z => z.elim, List.nodup_nil, ⟨ns, rfl, hl, rfl⟩, fun v H' r outs hr _ res => ?_⟩
  · rcases hs with hs | hs
    · exact .inl ⟨fun z => z, hs⟩
    · exact .inr hs
  · subst hr
    have rv := res.1
    cases rv
    exact q H'
end L2

set_option linter.all false
set_option maxRecDepth 100000
set_option maxHeartbeats 4000000
namespace L2
open PySem PySem.Spec PyProof.Rows
namespace Y
theorem op_neL {X : Cx} (hu : X.A.units < cLine) : OpR X (compareOp .NotEq) (rEqL X.K true) := by
  intro pins s σ H x y v u Q I rx ry h
  obtain ⟨a, b, xs, ys, rfl, rfl, hq, fx, fy, q⟩ := h
  cases rx; cases ry
  have item : ∀ (its its2 : List Value), Vals xs its → Vals ys its2 → ∀ j (h1 : j < its.toArray.size) (h2 : j < its2.toArray.size), SeqAt.EqAt X.A.in1 s its.toArray[j] its2.toArray[j] (match xs[j]?, ys[j]? with | some x, some y => eqV x y | _, _ => true) := fun its its2 r1 r2 j h1 h2 => by
    have l1 := r1.length; have l2 := r2.length
    rw [List.size_toArray] at h1 h2
    obtain ⟨u1, e1, g1⟩ := r1.get (i := j) (x := xs[j]) (List.getElem?_eq_getElem (by omega))
    obtain ⟨u2, e2, g2⟩ := r2.get (i := j) (x := ys[j]) (List.getElem?_eq_getElem (by omega))
    rw [List.getElem?_eq_getElem (show j < xs.length by omega), List.getElem?_eq_getElem (show j < ys.length by omega)]
    have z1 : its.toArray[j] = u1 := by
      rw [List.getElem?_eq_getElem h1] at e1; simpa using e1
    have z2 : its2.toArray[j] = u2 := by
      rw [List.getElem?_eq_getElem h2] at e2; simpa using e2
    rw [z1, z2]
    exact eqAt_V g1 g2 (List.all_eq_true.mp fx _ (List.getElem_mem _)) (List.all_eq_true.mp fy _ (List.getElem_mem _))
  rcases hq with ⟨ha, hb⟩ | ⟨ha, hb⟩
  · obtain ⟨its, r1, p1, _⟩ := I.list ha
    obtain ⟨its2, r2, p2, _⟩ := I.list hb
    have l1 := r1.length; have l2 := r2.length
    by_cases e : xs.length = ys.length
    · refine SeqAt.RcNeAt.lists p1.isList p2.isList (by rw [List.size_toArray, List.size_toArray]; omega) hu (item its its2 r1 r2) X.prog X.w X.xe _ ⟨.bl _, H, I, rfl, q _ ?_⟩
      rw [List.size_toArray, ← l1, ← e, Nat.min_self, beq_self_eq_true, Bool.true_and]
      try rfl
    · refine SeqAt.RcNeAt.lists_lengths p1.isList p2.isList (by rw [List.size_toArray, List.size_toArray, bne_iff_ne]; omega) hu X.prog X.w X.xe _ ⟨.bl true, H, I, rfl, ?_⟩
      exact q false (by rw [beq_eq_false_iff_ne.mpr e, Bool.false_and])
  · obtain ⟨its, r1, p1, _⟩ := I.tuple ha
    obtain ⟨its2, r2, p2, _⟩ := I.tuple hb
    have l1 := r1.length; have l2 := r2.length
    refine SeqAt.RcNeAt.tuples p1 p2 hu (item its its2 r1 r2) X.prog X.w X.xe _ ⟨.bl _, H, I, rfl, q _ ?_⟩
    rw [List.size_toArray, List.size_toArray, ← l1, ← l2, Bool.and_comm]
    try rfl
noncomputable def rNeG (K : PySem.W.Frag) : R2 := fun x y H Q => rNe x y H Q ∨ rEqL K true x y H Q
theorem op_neG {X : Cx} (K : PySem.W.Frag) (hK : X.K = K) (hu : X.A.units < cLine) : OpR X (compareOp .NotEq) (rNeG K) := by subst hK; exact op_ne.or (op_neL hu)
noncomputable def tNe : T → T → Mu → (R → Mu → Prop) → Prop := fun t u μ Q => match t, u with
  | .int i, .int j => Q (.tr (.bl (!decide (i = j)))) μ
  | .str i, .str j => Q (.tr (.bl (!decide (i = j)))) μ
  | .bl i, .bl j => Q (.tr (.bl (!decide (i = j)))) μ
  | .lst xs, .lst ys => xs.all flatT = true ∧ ys.all flatT = true ∧ Q (.tr (.bl (!eqFs xs ys))) μ
  | .tup xs, .tup ys => xs.all flatT = true ∧ ys.all flatT = true ∧ Q (.tr (.bl (!eqFs xs ys))) μ
  | _, _ => False
theorem ro_neG {K : PySem.W.Frag} : ROp K (rNeG K) (byT tNe) := byT_of fun F ad B σ H μ Q Qt x y t u hK l v1 v2 q k => by
  subst hK
  unfold tNe at q
  split at q
  · cases v1; cases v2
    refine .inl ⟨rfl, ?_⟩
    rw [dV (f := V.int) (fun a b h => by injection h)]
    exact k _ H _ (Vr.flat l (.bl _)) Fr.refl q
  · cases v1; cases v2
    refine .inl ⟨rfl, ?_⟩
    rw [dV (f := V.str) (fun a b h => by injection h)]
    exact k _ H _ (Vr.flat l (.bl _)) Fr.refl q
  · cases v1; cases v2
    refine .inl ⟨rfl, ?_⟩
    rw [dV (f := V.bl) (fun a b h => by injection h)]
    exact k _ H _ (Vr.flat l (.bl _)) Fr.refl q
  · cases v1 with
    | lst ha ra => cases v2 with
      | lst hb rb => exact .inr ⟨_, _, _, _, rfl, rfl, .inl ⟨SqL.of ha, SqL.of hb⟩, reps_flat ra q.1, reps_flat rb q.2.1, fun c hc => by
          rw [← eqFs_V ra rb q.1 q.2.1] at hc
          subst hc
          exact k _ H _ (Vr.flat l (.bl _)) Fr.refl q.2.2⟩
  · cases v1 with
    | tup ha ra => cases v2 with
      | tup hb rb => exact .inr ⟨_, _, _, _, rfl, rfl, .inr ⟨SqT.of ha, SqT.of hb⟩, reps_flat ra q.1, reps_flat rb q.2.1, fun c hc => by
          rw [← eqFs_V ra rb q.1 q.2.1] at hc
          subst hc
          exact k _ H _ (Vr.flat l (.bl _)) Fr.refl q.2.2⟩
  · exact q.elim
end Y
namespace A
theorem tNeI (i j : Int) (μ : Mu) (Q : R → Mu → Prop) : Y.tNe (.int i) (.int j) μ Q = Q (.tr (.bl (!decide (i = j)))) μ := propext Iff.rfl
theorem tNeS (i j : Str) (μ : Mu) (Q : R → Mu → Prop) : Y.tNe (.str i) (.str j) μ Q = Q (.tr (.bl (!decide (i = j)))) μ := propext Iff.rfl
theorem tNeB (i j : Bool) (μ : Mu) (Q : R → Mu → Prop) : Y.tNe (.bl i) (.bl j) μ Q = Q (.tr (.bl (!decide (i = j)))) μ := propext Iff.rfl
theorem tNeL (xs ys : List T) (μ : Mu) (Q : R → Mu → Prop) : Y.tNe (.lst xs) (.lst ys) μ Q = (xs.all flatT = true ∧ ys.all flatT = true ∧ Q (.tr (.bl (!Y.eqFs xs ys))) μ) := propext Iff.rfl
theorem tNeT (xs ys : List T) (μ : Mu) (Q : R → Mu → Prop) : Y.tNe (.tup xs) (.tup ys) μ Q = (xs.all flatT = true ∧ ys.all flatT = true ∧ Q (.tr (.bl (!Y.eqFs xs ys))) μ) := propext Iff.rfl
end A
end L2

set_option linter.all false
set_option maxRecDepth 100000
set_option maxHeartbeats 4000000
namespace L2
open PySem PySem.Spec PyProof.Rows
section
variable {prog : Program} {w : World} {A : Around} {E : Value → Shared → Prop} {s : Shared}
end
section
variable {X : Cx} {e : Expr} {te : TE}
end
noncomputable def fRev (o : Option T) : Option (Prop × R) := match o with
  | some (.lst xs) => some (True, .fr (.lst xs.reverse))
  | some (.tup xs) => some (True, .tr (.tup xs.reverse))
  | _ => none
namespace Y
end Y
namespace A
theorem rev_l (xs : List T) : fRev (some (.lst xs)) = some (True, .fr (.lst xs.reverse)) := id rfl
theorem rev_t (xs : List T) : fRev (some (.tup xs)) = some (True, .tr (.tup xs.reverse)) := id rfl
end A
end L2

set_option linter.all false
set_option maxRecDepth 100000
set_option maxHeartbeats 4000000
namespace L2
open PySem PySem.Spec PyProof PyProof.Rows
namespace Y
section
variable {prog : Program} {w : World} {A : Around} {E : Value → Shared → Prop} {s : Shared}
end
/-- // by a positive divisor of up to 62 bits -/
noncomputable def CDivG (i j : Int) : Prop := 0 < j ∧ j < 4611686018427387904
theorem op_fdivG {X : Cx} : OpR X (binaryOp .FloorDiv) (rI CDivG fun i j => .int (i / j)) := opI fun i j _ _ _ _ _ hc q => by
  have h1 : (0 : Int) < j := hc.1
  have h2 : j < 4611686018427387904 := hc.2
  exact floordiv_int (by omega) (by rw [Int.fdiv_eq_ediv_of_nonneg i (by omega)]; exact q) (.inl (PyProof.noPylong_of_log2 (Nat.lt_trans ((Nat.log2_lt (k := 62) (by omega)).mpr (by omega)) (by decide))))
end Y
namespace A
end A
end L2

set_option linter.all false
set_option maxRecDepth 100000
set_option maxHeartbeats 4000000
namespace L2
open PySem PySem.Spec PyProof PyProof.Rows
namespace Y
section
variable {prog : Program} {w : World} {A : Around} {E : Value → Shared → Prop} {s : Shared}
end
end Y
namespace A
end A
end L2

set_option linter.all false
set_option maxRecDepth 100000
set_option maxHeartbeats 4000000
namespace L2
open PySem PySem.Spec PyProof PyProof.Rows
namespace Y
theorem picks' (l : List Nat) : ∀ (n a : Nat), ((List.range n).map (fun k => a + k)).filterMap (l[·]?) = (l.drop a).take n
  | 0, _ => by simp
  | n + 1, a => by
    rw [List.range_succ, List.map_append, List.filterMap_append, picks' l n a, List.take_add_one, List.getElem?_drop]
    cases h : l[a + n]? <;> simp [h]
theorem slice_ix (lo hi : Option Int) (n : Nat) : Builtin.Str.strSliceIndices lo hi 1 n = (List.range (HT.sIx n n hi - HT.sIx n 0 lo)).map (fun k => HT.sIx n 0 lo + k) := by
  have ea : ∀ (v : Int), max 0 (min (if v < 0 then v + (n : Int) else v) (n : Int)) = (((if v < 0 then (v + (n : Int)).toNat else min v.toNat n) : Nat) : Int) := by
    intro v; split <;> omega
  have e : Builtin.Str.strSliceIndices lo hi 1 n = sliceRange (HT.sIx n 0 lo) (HT.sIx n n hi) 1 := by
    cases lo with
    | none => cases hi with
      | none => rfl
      | some j => show sliceRange 0 (max 0 (min (if j < 0 then j + (n : Int) else j) (n : Int))) 1 = _; rw [ea]; rfl
    | some i => cases hi with
      | none => show sliceRange (max 0 (min (if i < 0 then i + (n : Int) else i) (n : Int))) n 1 = _; rw [ea]; rfl
      | some j => show sliceRange (max 0 (min (if i < 0 then i + (n : Int) else i) (n : Int))) (max 0 (min (if j < 0 then j + (n : Int) else j) (n : Int))) 1 = _; rw [ea, ea]; rfl
  rw [e]
  generalize HT.sIx n 0 lo = a
  generalize HT.sIx n n hi = b
  unfold sliceRange
  simp only [show ((1 : Int) > 0) = True from by simp, if_true, Int.one_mul]
  have c : (if (a : Int) < (b : Int) then ((b : Int) - a + 1 - 1) / 1 else 0).toNat = b - a := by split <;> omega
  rw [c]
  refine List.map_congr_left fun k _ => ?_
  omega
theorem slice_cut0 (z : Str) (lo hi : Option Int) : Txt.slice z lo hi = ⟨((z.cps.toList.drop (HT.sIx z.cps.toList.length 0 lo)).take (HT.sIx z.cps.toList.length z.cps.toList.length hi - HT.sIx z.cps.toList.length 0 lo)).toArray⟩ := by
  have hl : z.cps.toList.length = z.length := Array.length_toList
  rw [hl]
  have hp : (Builtin.Str.strSliceIndices lo hi 1 z.length).filterMap (z.cps[·]?) = (z.cps.toList.drop (HT.sIx z.length 0 lo)).take (HT.sIx z.length z.length hi - HT.sIx z.length 0 lo) := by
    rw [slice_ix]
    have := picks' z.cps.toList (HT.sIx z.length z.length hi - HT.sIx z.length 0 lo) (HT.sIx z.length 0 lo)
    simpa using this
  unfold Txt.slice
  split
  · rename_i h
    rw [slice_ix] at h
    simp at h
    have h2 := HT.sIx_le z.length z.length (Nat.le_refl _) hi
    have h3 := HT.sIx_le z.length 0 (Nat.zero_le _) lo
    have a0 : HT.sIx z.length 0 lo = 0 := by omega
    have b0 : HT.sIx z.length z.length hi = z.length := by omega
    rw [a0, b0, List.drop_zero, Nat.sub_zero, ← hl, List.take_length]
  · rw [hp]

/-- the text that is cut out -/
noncomputable def cutS (z : Str) (lo hi : Option Int) : Str := ⟨(cutG z.cps.toList lo hi).toArray⟩
theorem slice_cut (z : Str) (lo hi : Option Int) : Txt.slice z lo hi = cutS z lo hi := slice_cut0 z lo hi
noncomputable def rSlS : V → Option Int → Option Int → Hp → VK → Prop := fun x lo hi H Q => ∃ z, x = .str z ∧ z.length ≤ sizeLine ∧ Q (.str (cutS z lo hi)) H
theorem sl_str {X : Cx} : SlR X rSlS := by
  intro pins s σ H x v vl vu lo hi sl Q I rx hs pl pu h
  obtain ⟨z, rfl, hz, q⟩ := h
  rw [← slice_cut] at q
  obtain ⟨t, rfl⟩ := rx
  refine ⟨"str", _, PySem.F.slot_str_getitem.lookup, typeIs_str _ _ _, ?_⟩
  cases pl <;> cases pu
  · exact wpAny_getItem_str_slice (l := none) (u := none) (st := none) hs rfl (post_val_or_str ⟨Nat.le_trans (Txt.slice_le z _ _) hz, fun t' k => ⟨.str _, H, I.tok _, ⟨_, rfl⟩, q⟩⟩)
  · exact wpAny_getItem_str_slice (l := none) (u := some (_, _)) (st := none) hs rfl (post_val_or_str ⟨Nat.le_trans (Txt.slice_le z _ _) hz, fun t' k => ⟨.str _, H, I.tok _, ⟨_, rfl⟩, q⟩⟩)
  · exact wpAny_getItem_str_slice (l := some (_, _)) (u := none) (st := none) hs rfl (post_val_or_str ⟨Nat.le_trans (Txt.slice_le z _ _) hz, fun t' k => ⟨.str _, H, I.tok _, ⟨_, rfl⟩, q⟩⟩)
  · exact wpAny_getItem_str_slice (l := some (_, _)) (u := some (_, _)) (st := none) hs rfl (post_val_or_str ⟨Nat.le_trans (Txt.slice_le z _ _) hz, fun t' k => ⟨.str _, H, I.tok _, ⟨_, rfl⟩, q⟩⟩)
noncomputable def rSlX (K : PySem.W.Frag) : V → Option Int → Option Int → Hp → VK → Prop := fun x lo hi H Q => rSlG K x lo hi H Q ∨ rSlS x lo hi H Q
theorem sl_X {X : Cx} (K : PySem.W.Frag) (hK : X.K = K) : SlR X (rSlX K) := (sl_G K hK).or sl_str
noncomputable def fSlX (a : Option T) (lo hi : Option Int) : Option (Prop × R) := match a with
  | some (.lst xs) => some (True, .fr (.lst (cutG xs lo hi)))
  | some (.rol xs) => some (True, .fr (.lst (cutG xs lo hi)))
  | some (.tup xs) => some (True, .tr (.tup (cutG xs lo hi)))
  | some (.str z) => some (z.length ≤ sizeLine, .tr (.str (cutS z lo hi)))
  | _ => none
noncomputable def uSlX (ue : UE) (ul uh : UO) : UE := fun μ Q => ue μ fun r μ1 => ul μ1 fun lo μ2 => uh μ2 fun hi μ3 => stp (fSlX (cont μ3 r.d) lo hi) fun r => Q r μ3
theorem sliceX {X : Cx} {e : Expr} {ue : UE} {p2 pos : Pos} {lo hi : Option Expr} {ul uh : UO} (K : PySem.W.Frag) (hK : X.K = K) (he : YE X e ue) (hl : YO X lo ul) (hu : YO X hi uh) : YE X (.Subscript e (.Slice lo hi none p2) pos) (uSlX ue ul uh) := by
  obtain ⟨t, q, r⟩ := he; obtain ⟨tl, ql, rl⟩ := hl; obtain ⟨th, qh, rh⟩ := hu
  refine ⟨_, Z.slice (sl_X K hK) q ql qh, fun F ad B σ H μ Q Qt hF l q k => r F ad B σ H μ _ _ hF l q fun v H1 r1 μ1 v1 f1 k1 q1 => rl F ad B σ H1 μ1 _ _ hF v1.rl q1 fun i H2 μ2 l2 f2 k2 q2 => rh F ad B σ H2 μ2 _ _ hF l2 q2 fun j H3 μ3 l3 f3 k3 q3 => ?_⟩
  have hF' : F.K = K := hF.trans hK
  clear hF; subst hF'
  have hv := v1.hv.fr (f2.trans f3) (k2.trans k3)
  have ff := (f1.d.trans f2).trans f3
  have kk := (k1.trans k2).trans k3
  generalize eo : cont μ3 r1.d = o at q3
  unfold fSlX stp at q3
  cases o with
  | none => exact q3.elim
  | some o => cases o with
    | lst xs =>
      have w := hv.vw l3 eo
      cases w with
      | lst ha ra => exact .inl (.inl ⟨_, _, rfl, SqL.of ha, fun p hp => k _ _ _ μ3 (Vr.newL l3 (Reps.cut ra i j) hp) (ff.trans (Fr.more hp)) kk q3.2⟩)
    | rol xs =>
      have w := hv.vw l3 eo
      cases w with
      | rol ha ra => exact .inl (.inl ⟨_, _, rfl, ha, fun p hp => k _ _ _ μ3 (Vr.newL l3 (Reps.cut ra i j) hp) (ff.trans (Fr.more hp)) kk q3.2⟩)
    | tup xs =>
      have w := Hv.tupR l3 hv eo
      have w' := w
      cases w with
      | tup na ha ra =>
        by_cases z : HT.sIx xs.length 0 i = 0 ∧ HT.sIx xs.length xs.length j = xs.length
        · have e0 : cutG xs i j = xs := by unfold cutG; rw [z.1, z.2, Nat.sub_zero, List.drop_zero, List.take_length]
          have q4 := q3.2
          rw [e0] at q4
          exact .inl (.inr (.inr ⟨_, _, rfl, SqT.of ha, by rw [ra.length]; exact z.1, by rw [ra.length]; exact z.2, k _ H3 _ μ3 (Vr.flat l3 w') ff kk q4⟩))
        · exact .inl (.inr (.inl ⟨_, _, rfl, SqT.of ha, by rw [ra.length]; exact z, fun p hp => k _ _ _ μ3 (Vr.newT l3 (Reps.cut ra i j) hp) (ff.trans (Fr.same (Same.new hp))) kk q3.2⟩))
    | str z =>
      have w := hv.vw l3 eo
      cases w
      exact .inr ⟨z, rfl, q3.1, k _ H3 _ μ3 (Vr.flat l3 (.str _)) ff kk q3.2⟩
    | non => exact q3.elim
    | bl b => exact q3.elim
    | int n => exact q3.elim
    | rng a b => exact q3.elim
    | exc a b => exact q3.elim
    | ktp xs => exact q3.elim
noncomputable def gNF (i : Nat) : UG := fun r μ Q => match r with
  | .tr t => noP μ i ∧ Q (μ.set i (.tr t))
  | .fr t => noP μ i ∧ Q (μ.set i (.tr t))
  | .br _ => False
theorem rg_nameF {K : PySem.W.Frag} {i : Nat} : RG K (gName i) (gNF i) := fun F ad B σ H μ v r B0 H0 Q Qt hK h f q k => by
  cases r with
  | tr t => exact k ad B _ H _ (h.1.setT (noP_ne q.1) h.2) f q.2
  | br i => exact q.elim
  | fr c =>
    refine k ad B _ H _ (h.rl.setT (noP_ne q.1) h.hv) (f.trans (Fr.less fun b z => ?_)) q.2
    obtain ⟨_, a, rfl, _⟩ := h
    exact Or.inr z
section
variable {X : Cx} {e elt tg iter : Expr} {ifs : List Expr} {ue : UE} {ut : UT} {ui : UI} {pos pos' p2 : Pos} {x : Str} {osc scope : Scope} {ON own N : List Str}
theorem setF {i : Nat} (hN : X.N.Nodup) (hi : X.N[i]? = some x) (hx : Loc X.env.scope x) (he : YE X e ue) (hs : autoParam (Z.noc e = true) L2.aRfl._auto_1) (hf : autoParam (X.fn x = true ∨ X.env.scope.names.lookup x = some .local) L2.aLoc._auto_1) :
    YS X (.Assign [.Name x pos'] e pos) (uAsg ue (gNF i)) := by
  obtain ⟨t, q, r⟩ := he
  exact ⟨_, Z.set hN hi hx q hs hf, rs_asg r rg_nameF⟩
end
end Y
namespace A
theorem uSlX (ue : UE) (ul uh : UO) (μ : Mu) (Q : R → Mu → Prop) : Y.uSlX ue ul uh μ Q = ue μ fun r μ1 => ul μ1 fun lo μ2 => uh μ2 fun hi μ3 => stp (Y.fSlX (cont μ3 r.d) lo hi) fun r => Q r μ3 := propext Iff.rfl
theorem slx_l (xs : List T) (lo hi : Option Int) : Y.fSlX (some (.lst xs)) lo hi = some (True, .fr (.lst (Y.cutG xs lo hi))) := id rfl
theorem slx_r (xs : List T) (lo hi : Option Int) : Y.fSlX (some (.rol xs)) lo hi = some (True, .fr (.lst (Y.cutG xs lo hi))) := id rfl
theorem slx_t (xs : List T) (lo hi : Option Int) : Y.fSlX (some (.tup xs)) lo hi = some (True, .tr (.tup (Y.cutG xs lo hi))) := id rfl
theorem slx_s (z : Str) (lo hi : Option Int) : Y.fSlX (some (.str z)) lo hi = some (z.length ≤ sizeLine, .tr (.str (Y.cutS z lo hi))) := id rfl
theorem gNFt (i : Nat) (t : T) (μ : Mu) (Q : Mu → Prop) : Y.gNF i (.tr t) μ Q = (Y.noP μ i ∧ Q (μ.set i (.tr t))) := propext Iff.rfl
theorem gNFf (i : Nat) (t : T) (μ : Mu) (Q : Mu → Prop) : Y.gNF i (.fr t) μ Q = (Y.noP μ i ∧ Q (μ.set i (.tr t))) := propext Iff.rfl
end A
end L2

set_option linter.all false
set_option maxRecDepth 100000
set_option maxHeartbeats 4000000
namespace L2
open PySem PySem.Spec PyProof PyProof.Rows
namespace Y
end Y
namespace A
end A
end L2

set_option linter.all false
set_option maxRecDepth 100000
set_option maxHeartbeats 4000000
namespace L2
open PySem PySem.Spec PyProof PyProof.Rows
/-- the exception at e: of that class, its own names at d, with its traceback (none at first) -/
noncomputable def Fl (h : Heap) (e : Addr) (cls : Value) (d : Option Addr) : Option Addr → Prop
  | none => ∃ oe vs, h.get? e = some oe ∧ oe.cls = cls ∧ oe.dict = d ∧ oe.data = .fields vs ∧ vs[1]? = some Value.none
  | some T => ∃ oe vs oT ts, h.get? e = some oe ∧ oe.cls = cls ∧ oe.dict = d ∧ oe.data = .fields vs ∧ vs[1]? = some (.ref T) ∧ T ≠ e ∧ h.get? T = some oT ∧ oT.data = .fields ts ∧ ts[3]? = some Value.none
theorem Fl.is {h : Heap} {e : Addr} {cls : Value} {d To : Option Addr} (f : Fl h e cls d To) : isX e cls d h := by
  cases To with
  | none => obtain ⟨oe, vs, h1, h2, h3, h4, _⟩ := f; exact ⟨oe, vs, h1, h2, h3, h4⟩
  | some T => obtain ⟨oe, vs, _, _, h1, h2, h3, h4, _⟩ := f; exact ⟨oe, vs, h1, h2, h3, h4⟩
theorem isX.ok {P : Program} {w : World} {H : Hp} {h : Heap} {e : Addr} {cls : Value} {d : Option Addr} (x : isX e cls d h) : ObjOk P w H h e (.ext (isX e cls d)) :=
  ⟨x, let ⟨o, _, h1, _⟩ := x; ⟨o, h1⟩, fun h1 h2 ⟨o, vs, a, b, c, d⟩ k => ⟨o, vs, k o a, b, c, d⟩⟩
theorem isX.one {h : Heap} {e : Addr} {cls cls' : Value} {d d' : Option Addr} (x : isX e cls d h) (y : isX e cls' d' h) : cls = cls' ∧ d = d' := by
  obtain ⟨o, _, h1, h2, h3, _⟩ := x
  obtain ⟨o', _, g1, g2, g3, _⟩ := y
  rw [h1] at g1; cases g1
  exact ⟨h2.symm.trans g2, h3.symm.trans g3⟩
/-- what a passing exception may change: itself, its traceback, the frames' slots -/
structure Mv (h h' : Heap) (e : Addr) (To : Option Addr) (fs : List Addr) (T' : Addr) : Prop where
  keep : ∀ b o, b ≠ e → (∀ T, To = some T → b ≠ T) → b ∉ fs → h.get? b = some o → h'.get? b = some o
  slot : ∀ b o, b ∈ fs → h.get? b = some o → ∃ sl, h'.get? b = some { o with slots := sl }
  new : (h.get? T' = none ∨ To = some T') ∧ T' ∉ fs
section
variable {h : Heap} {e : Addr} {cls : Value} {d : Option Addr} {base : Heap} {l : List Env}
theorem Fl.noFrT {T : Addr} (f : Fl h e cls d (some T)) (hl : h.FunFrames base l) : T ∉ frs l := fun m => by
  obtain ⟨_, o, ho, hd⟩ := hl.mem m
  obtain ⟨_, _, oT, ts, _, _, _, _, _, _, hT, hdT, _⟩ := f
  rw [hT] at ho; cases ho; exact hd ts hdT
theorem map_flds {o : Obj} {vs : Array Value} (q : o.data = .fields vs) (g : Array Value → Array Value) : o.mapFields g = { o with data := .fields (g vs) } := by
  obtain ⟨c, dd, dt, sl⟩ := o
  cases q
  rfl
end
section
variable {M : Model} {A : Around} {E : Value → Shared → Prop} {s : Shared} {env : Env} {outer : List Env} {L e : Addr} {cls : Value} {d : Option Addr} {base : Heap}
/-- one field of a record is rewritten -/
theorem fld_set {a : Addr} {o : Obj} {vs : Array Value} {i : Nat} {x : Value} {Q : Unit → Shared → Prop} (ho : s.heap.get? a = some o) (hd : o.data = .fields vs) (hi : i < vs.size)
    (hq : ∀ h' : Heap, (∀ b, b ≠ a → h'.get? b = s.heap.get? b) → h'.get? a = some { o with data := .fields (vs.setIfInBounds i x) } → Q () { s with heap := h' }) : wpAny M A (setField (.ref a) i x) Q E s := by
  have hm := map_flds hd (·.setIfInBounds i x)
  refine wpAny_setField ho hd hi (hq _ (fun b n => Heap.get?_update_other _ _ (Ne.symm n)) ?_)
  have := Heap.get?_update_self (Obj.mapFields (·.setIfInBounds i x)) ho (Obj.isFreed_of_fields (Obj.data_mapFields hd _))
  rw [hm] at this
  exact this
/-- the flight ends in a frame's entry: its place is emptied -/
theorem fl_again' {T : Addr} {fl : Value} {oe oT : Obj} {vs ts : Array Value} {Q : Unit → Shared → Prop} (he : s.heap.get? e = some oe) (hd : oe.data = .fields vs) (h1 : vs[1]? = some (.ref T)) (hne : T ≠ e) (hT : s.heap.get? T = some oT) (hdT : oT.data = .fields ts) (h3 : ts[3]? = some fl)
    (hq : ∀ h' : Heap, (∀ b, b ≠ T → h'.get? b = s.heap.get? b) → h'.get? T = some { oT with data := .fields (ts.setIfInBounds 3 .none) } → Q () { s with heap := h' }) : wpAny M A (setFlight (.ref e) none) Q E s := by
  unfold setFlight
  refine wpAny_bind (wpAny_field he hd h1 ?_)
  rw [if_pos (by simp)]
  exact fld_set hT hdT (Array.getElem?_eq_some_iff.mp h3).1 hq
/-- the frame's entry is laid -/
theorem entry_x {oe : Obj} {vs : Array Value} {head : Value} {hn : Bool} {Q : Unit → Shared → Prop} (hfr : A.frames = some (env :: outer)) (hf : env.frame = some L) (hl : s.heap.FunFrames base (env :: outer)) (he : s.heap.get? e = some oe) (hd : oe.data = .fields vs) (hsz : 1 < vs.size)
    (hq : ∀ (h' : Heap) (T' : Addr) (oT : Obj) (ts : Array Value), (∀ b o, b ≠ e → b ∉ frs (env :: outer) → s.heap.get? b = some o → h'.get? b = some o) → (∀ b o, b ∈ frs (env :: outer) → s.heap.get? b = some o → ∃ sl, h'.get? b = some { o with slots := sl }) →
      s.heap.get? T' = none → h'.get? e = some { oe with data := .fields (vs.setIfInBounds 1 (.ref T')) } → h'.get? T' = some oT → oT.data = .fields ts → ts[3]? = some (rawInt L) → T' ≠ e → T' ∉ frs (env :: outer) → Q () { s with heap := h' }) :
    wpAny M A (frameOf env >>= fun a => entryPlaceOf L hn >>= fun pl => EntryCells.newEntry head a .none (rawInt L) .none pl >>= fun b => setField (.ref e) 1 b) Q E s := by
  have nfe : e ∉ frs (env :: outer) := fun m => by
    obtain ⟨_, o, ho, hnf⟩ := hl.mem m
    rw [he] at ho; cases ho; exact hnf vs hd
  refine wpAny_bind (wpAny_frameOf_fun hfr hl hf fun h1 hs => ?_)
  obtain ⟨hs1, hs2, hs3⟩ := hs
  refine wpAny_bind (wpAny_entryPlaceOf fun pl hpl => ?_)
  unfold EntryCells.newEntry newFields
  refine wpAny_bind (wpAny_newObj_type ?_ (hpl.sizeOk5 _ _ _ _ _))
  have e1 : h1.get? e = some oe := (hs2 e nfe).trans he
  have hsize : ∀ b o, h1.get? b = some o → b ≠ h1.objs.size := fun b o q => Nat.ne_of_lt (Heap.lt_size q)
  refine fld_set (Heap.get?_push_of_some _ e1) hd hsz fun h2 k1 k2 => ?_
  have nfT : h1.objs.size ∉ frs (env :: outer) := fun m => by
    obtain ⟨_, o, ho, _⟩ := hl.mem m
    obtain ⟨sl, q⟩ := hs3 _ o ho
    exact hsize _ _ q rfl
  refine hq h2 h1.objs.size _ _ (fun b o n1 n2 q => ?_) (fun b o m q => ?_) ?_ k2 ((k1 _ (Ne.symm (hsize _ _ e1))).trans (Heap.get?_push_size h1 rfl)) rfl ?_ (Ne.symm (hsize _ _ e1)) nfT
  · rw [k1 b n1]
    exact Heap.get?_push_of_some _ ((hs2 b n2).trans q)
  · obtain ⟨sl, q1⟩ := hs3 b o q
    exact ⟨sl, (k1 b fun z => nfe (by rw [← z]; exact m)).trans (Heap.get?_push_of_some _ q1)⟩
  · cases q : s.heap.get? h1.objs.size with
    | none => rfl
    | some o =>
      obtain ⟨sl, q1⟩ := hs3 _ o q
      exact absurd rfl (hsize _ _ q1)
  · rcases hpl with rfl | ⟨_, _, _, _, _, _, _, rfl⟩ <;> simp
/-- it is looked at in a frame (a try), and lands -/
theorem fl_lands {To : Option Addr} {Q : Unit → Shared → Prop} (hfr : A.frames = some (env :: outer)) (hf : env.frame = some L) (hl : s.heap.FunFrames base (env :: outer)) (f : Fl s.heap e cls d To)
    (hq : ∀ h' T', Mv s.heap h' e To (frs (env :: outer)) T' → Fl h' e cls d (some T') → Q () { s with heap := h' }) : wpAny M A (noteFrame (.ref e) env) (fun _ s2 => wpAny M A (setFlight (.ref e) none) Q E s2) E s := by
  unfold noteFrame
  simp only [hf]
  cases To with
  | none =>
    obtain ⟨oe, vs, g1, g2, g3, g4, g5⟩ := id f
    have hsz := (Array.getElem?_eq_some_iff.mp g5).1
    refine wpAny_bind (wpAny_field g1 g4 g5 ?_)
    rw [if_neg (by decide)]
    refine entry_x hfr hf hl g1 g4 hsz fun h1 T' oT ts k1 k2 k3 k4 k5 k6 k7 k8 k9 => ?_
    refine fl_again' (s := { s with heap := h1 }) k4 rfl (by simp [hsz]) k8 k5 k6 k7 fun h2 j1 j2 => ?_
    have nT : ∀ b o, s.heap.get? b = some o → b ≠ T' := fun b o q z => by rw [z, k3] at q; cases q
    refine hq h2 T' ⟨fun b o n1 _ n3 q => ?_, fun b o m q => ?_, .inl k3, k9⟩ ⟨_, _, _, _, (j1 e (Ne.symm k8)).trans k4, g2, g3, rfl, by simp [hsz], k8, j2, rfl, ?_⟩
    · exact (j1 b (nT b o q)).trans (k1 b o n1 n3 q)
    · obtain ⟨sl, q1⟩ := k2 b o m q
      exact ⟨sl, (j1 b (nT b o q)).trans q1⟩
    · have := (Array.getElem?_eq_some_iff.mp k7).1
      simp [this]
  | some T =>
    obtain ⟨oe, vs, oT, ts, g1, g2, g3, g4, g5, g6, g7, g8, g9⟩ := id f
    have hsz := (Array.getElem?_eq_some_iff.mp g5).1
    have nfT := f.noFrT hl
    refine wpAny_bind (wpAny_field g1 g4 g5 ?_)
    rw [if_pos (by simp)]
    refine wpAny_bind (wpAny_field g7 g8 g9 ?_)
    rw [if_neg (by simp [rawInt])]
    refine wpAny_bind (fld_set g7 g8 (Array.getElem?_eq_some_iff.mp g9).1 fun h0 i1 i2 => ?_)
    have hl0 : h0.FunFrames base (env :: outer) := hl.of_keeps fun b o q hn => ⟨o, (i1 b fun z => by rw [z, g7] at q; cases q; exact hn ts g8).trans q, rfl⟩
    refine entry_x (s := { s with heap := h0 }) hfr hf hl0 ((i1 e (Ne.symm g6)).trans g1) g4 hsz fun h1 T' oT' ts' k1 k2 k3 k4 k5 k6 k7 k8 k9 => ?_
    refine fl_again' (s := { s with heap := h1 }) k4 rfl (by simp [hsz]) k8 k5 k6 k7 fun h2 j1 j2 => ?_
    have nTT : T' ≠ T := fun z => by
      have k3' : h0.get? T' = none := k3
      rw [z, i2] at k3'; cases k3'
    have nT : ∀ b o, s.heap.get? b = some o → b ≠ T' := fun b o q z => by
      have k3' : h0.get? T' = none := k3
      rw [← z] at k3'
      by_cases z2 : b = T
      · exact nTT (z.symm.trans z2)
      · rw [i1 b z2, q] at k3'; cases k3'
    refine hq h2 T' ⟨fun b o n1 n2 n3 q => ?_, fun b o m q => ?_, .inl ?_, k9⟩ ⟨_, _, _, _, (j1 e (Ne.symm k8)).trans k4, g2, g3, rfl, by simp [hsz], k8, j2, rfl, ?_⟩
    · exact (j1 b (nT b o q)).trans (k1 b o n1 n3 ((i1 b (n2 T rfl)).trans q))
    · have nbT : b ≠ T := fun z => nfT (by rw [← z]; exact m)
      obtain ⟨sl, q1⟩ := k2 b o m ((i1 b nbT).trans q)
      exact ⟨sl, (j1 b (nT b o q)).trans q1⟩
    · exact (i1 T' nTT).symm.trans k3
    · have := (Array.getElem?_eq_some_iff.mp k7).1
      simp [this]
/-- it leaves a frame -/
theorem fl_leaves {To : Option Addr} {Q : Unit → Shared → Prop} (hfr : A.frames = some (env :: outer)) (hf : env.frame = some L) (hl : s.heap.FunFrames base (env :: outer)) (f : Fl s.heap e cls d To)
    (hq : ∀ h' T', Mv s.heap h' e To (frs (env :: outer)) T' → Fl h' e cls d (some T') → Q () { s with heap := h' }) : wpAny M A (leaving env (.ref e)) Q E s := by
  unfold leaving
  exact wpAny_bind (fl_lands hfr hf hl f hq)
/-- .. once more, at the suite -/
theorem fl_again {T : Addr} {l : List Env} {Q : Unit → Shared → Prop} (hl : s.heap.FunFrames base l) (f : Fl s.heap e cls d (some T))
    (hq : ∀ h' T', Mv s.heap h' e (some T) (frs l) T' → Fl h' e cls d (some T') → Q () { s with heap := h' }) : wpAny M A (setFlight (.ref e) none) Q E s := by
  have nfT := f.noFrT hl
  obtain ⟨oe, vs, oT, ts, g1, g2, g3, g4, g5, g6, g7, g8, g9⟩ := id f
  refine fl_again' g1 g4 g5 g6 g7 g8 g9 fun h2 j1 j2 => ?_
  refine hq h2 T ⟨fun b o n1 n2 n3 q => (j1 b (n2 T rfl)).trans q, fun b o m q => ⟨o.slots, (j1 b fun z => nfT (by rw [← z]; exact m)).trans q⟩, .inr rfl, nfT⟩ ⟨_, _, _, _, (j1 e (Ne.symm g6)).trans g1, g2, g3, g4, g5, g6, j2, rfl, ?_⟩
  have := (Array.getElem?_eq_some_iff.mp g9).1
  simp [this]
end
end L2

set_option linter.all false
set_option maxRecDepth 100000
set_option maxHeartbeats 4000000
namespace L2
open PySem PySem.Spec PyProof PyProof.Rows
theorem HOk.laidN {P : Program} {w : World} {H : Hp} {h h' : Heap} {a : Addr} {o : HO} (x : HOk P w H h) (k : ∀ b u, h.get? b = some u → h'.get? b = some u) (hn : H a = none) (new : ObjOk P w (upd H a o) h' a o) : HOk P w (upd H a o) h' := fun b u e => by
  by_cases z : b = a
  · subst z; rw [upd_same] at e; cases e; exact new
  · rw [upd_ne z] at e
    exact (x b u e).stay (fun c v _ q => k c v q) (fun c q => by rw [upd_ne (ne_of_none q hn)]; exact q) fun c xs q => by rw [upd_ne (ne_of_none q hn)]; exact q
theorem Un.laidN {fs ex : List Addr} {H : Hp} {h h' : Heap} {a : Addr} {o : HO} (k : ∀ b u, h.get? b = some u → h'.get? b = some u) (h0 : h.get? a = none) (hn : H a = none) : Un fs ex H (upd H a o) h h' where
  keep := fun b u q _ _ _ => k b u q
  slot := fun b u q _ _ _ => ⟨u.slots, k b u q⟩
  free := fun b u q n _ => by rw [upd_ne (fun z => by rw [z, h0] at q; cases q)]; exact n
  there := fun b u q _ => ⟨u, k b u q⟩
  tups := fun b xs q => by rw [upd_ne (ne_of_none q hn)]; exact q
  frzs := fun b u xs q => by rw [upd_ne (ne_of_none q hn)]; exact q
  tbls := fun b ps q => ⟨#[], by rw [upd_ne (ne_of_none q hn), q]; simp⟩
theorem HOk.none_of {P : Program} {w : World} {H : Hp} {h : Heap} {a : Addr} (x : HOk P w H h) (e : h.get? a = none) : H a = none := by
  cases q : H a with
  | none => rfl
  | some u =>
    have := x a u q
    obtain ⟨o, ho⟩ : ∃ o, h.get? a = some o := by
      clear q
      induction u with
      | lst xs => obtain ⟨_, _, _, _, z⟩ := this; exact ⟨_, z⟩
      | tup xs => obtain ⟨_, _, _, o, z, _⟩ := this; exact ⟨_, z⟩
      | dK kvs => obtain ⟨_, _, _, _, o, _, _, z, _⟩ := this; exact ⟨_, z⟩
      | dT kvs => obtain ⟨_, _, _, _, o, _, _, z, _⟩ := this; exact ⟨_, z⟩
      | set S n => obtain ⟨o, _, _, _, z, _⟩ := this; exact ⟨_, z⟩
      | ins C dx fs => obtain ⟨_, _, _, z, _⟩ := this; exact ⟨_, z⟩
      | own x => exact this
      | xd fs => obtain ⟨_, ⟨o, _, _, z, _⟩, _⟩ := this; exact ⟨_, z⟩
      | met f x => exact ⟨_, this⟩
      | rng lo hi => obtain ⟨_, _, _, z⟩ := this; exact ⟨_, z⟩
      | frz o u ih => exact ⟨_, this.1⟩
      | tbl ps => exact ⟨_, this⟩
      | ext φ => exact this.2.1
    rw [e] at ho; cases ho
/-- the abstract heap is held behind a passing exception -/
theorem HOk.moved {P : Program} {w : World} {H : Hp} {h h' : Heap} {e T' : Addr} {cls : Value} {d To : Option Addr} {fs : List Addr} (x : HOk P w H h) (mv : Mv h h' e To fs T') (f' : isX e cls d h') (he : H e = some (.ext (isX e cls d))) (hT : ∀ T, To = some T → H T = none) (hf : ∀ b ∈ fs, H b = none) : HOk P w H h' := fun b u q => by
  by_cases z : b = e
  · subst z
    rw [he] at q; cases q
    exact f'.ok
  · refine (x b u q).stay (fun c v hc r => ?_) (fun _ q => q) fun _ _ q => q
    have tr : ∃ o, H c = some o := by
      rcases hc with rfl | hc
      · exact ⟨u, q⟩
      · exact ⟨_, hc⟩
    obtain ⟨o, tr⟩ := tr
    refine mv.keep c v (fun z2 => ?_) (fun T hT' z2 => ?_) (fun m => ?_) r
    · rcases hc with rfl | hc
      · exact z z2
      · rw [z2, he] at hc; cases hc
    · rw [z2, hT T hT'] at tr; cases tr
    · rw [hf c m] at tr; cases tr
section
variable {X : Cx} {pins : List (Addr × Obj)} {σ : St} {H H' : Hp} {s : Shared} {h' : Heap}
/-- the step of the layer, told of records that are not in the frame's first heap -/
theorem Inv.stepN {ch : List Addr} (I : Inv X pins σ H s)
    (hch : ∀ b ∈ ch, X.s₀.heap.get? b = none ∧ b ≠ X.env.locals ∧ (∀ x c, X.env.cells.lookup x = some c → c ≠ b) ∧ ∀ p ∈ X.pn ++ pins, p.1 ≠ b)
    (keep : ∀ b o, b ≠ X.env.locals → b ∉ X.fs → b ∉ ch → s.heap.get? b = some o → H b = none → h'.get? b = some o)
    (slot : ∀ b o, b ≠ X.env.locals → b ∈ X.fs → b ∉ ch → s.heap.get? b = some o → H b = none → ∃ sl, h'.get? b = some { o with slots := sl })
    (there : ∀ b o, b ∉ ch → s.heap.get? b = some o → ∃ o', h'.get? b = some o')
    (ns : ∀ m, s.heap.Ns X.env.locals m → h'.Ns X.env.locals m) (hok : HOk X.prog X.w H h') :
    Inv X pins σ H { s with heap := h' } := by
  have neL : ∀ b o, X.s₀.heap.get? b = some o → b ≠ X.env.locals := fun b o e => Nat.ne_of_lt (Nat.lt_of_lt_of_le (Heap.lt_size e) I.ok.above)
  have neC : ∀ b o, X.s₀.heap.get? b = some o → b ∉ ch := fun b o e hb => by rw [(hch b hb).1] at e; cases e
  have cellK : ∀ x c, X.env.cells.lookup x = some c → ∀ v, s.heap.IsCell c v → h'.IsCell c v := fun x c e v ⟨o, ho, hd⟩ => by
    have nch : c ∉ ch := fun z => (hch c z).2.2.1 x c e rfl
    by_cases hc : c ∈ X.fs
    · obtain ⟨sl, q⟩ := slot c o (I.cne x c e) hc nch ho (I.freeC x c e)
      exact ⟨_, q, hd⟩
    · exact ⟨o, keep c o (I.cne x c e) hc nch ho (I.freeC x c e), hd⟩
  refine ⟨I.ok, I.os, I.bare, ⟨fun b o e n hb hx => ?_, fun b o e n hb hx => ?_, I.base.free, fun b o e hx => ?_, I.base.tups, I.base.frzs, I.base.tbls⟩, ?_, fun x c e => ?_, I.free, I.freeC, fun p hp => ?_, hok, I.len⟩
  · exact keep b o (neL b o e) hb (neC b o e) (I.base.keep b o e n hb hx) (I.base.free b o e n hx)
  · obtain ⟨sl, e1⟩ := I.base.slot b o e n hb hx
    obtain ⟨sl', e2⟩ := slot b _ (neL b o e) hb (neC b o e) e1 (I.base.free b o e n hx)
    exact ⟨sl', e2⟩
  · obtain ⟨o', e1⟩ := I.base.there b o e hx
    exact there b o' (neC b o e) e1
  · obtain ⟨m, hn, hl⟩ := I.loc
    refine ⟨m, ns m hn, fun i x v e1 e2 e3 => ?_⟩
    obtain ⟨u, r, l⟩ := hl i x v e1 e2 e3
    refine ⟨u, r, ?_⟩
    rcases l with l | ⟨k, c, e, z⟩
    · exact .inl l
    · exact .inr ⟨k, c, e, cellK x c e _ z⟩
  · obtain ⟨v, z⟩ := I.cell x c e
    exact ⟨v, cellK x c e v z⟩
  · obtain ⟨e, n, ne, nf, d⟩ := I.pin p hp
    have nch : p.1 ∉ ch := fun z => (hch p.1 z).2.2.2 p hp rfl
    exact ⟨keep p.1 p.2 ne nf nch e n, n, ne, nf, d⟩
/-- the exception and its traceback are younger than the frame -/
structure Nw (X : Cx) (pins : List (Addr × Obj)) (H : Hp) (e : Addr) (cls : Value) (d To : Option Addr) : Prop where
  tr : H e = some (.ext (isX e cls d))
  e0 : X.s₀.heap.get? e = none
  d0 : ∀ a, d = some a → X.s₀.heap.get? a = none
  t0 : ∀ T, To = some T → H T = none ∧ X.s₀.heap.get? T = none ∧ ∀ p ∈ X.pn ++ pins, p.1 ≠ T
theorem Inv.moved {e T' : Addr} {cls : Value} {d To : Option Addr} (I : Inv X pins σ H s) (hex : X.ex = []) (f : Fl s.heap e cls d To) (nw : Nw X pins H e cls d To) (mv : Mv s.heap h' e To (frs X.stack) T') (f' : Fl h' e cls d (some T')) :
    Inv X pins σ H { s with heap := h' } ∧ Nw X pins H e cls d (some T') := by
  have hfr := I.stkFree
  have teT : ∀ T o, To = some T → s.heap.get? T = some o → T ∉ frs X.stack := fun T o hT _ => by subst hT; exact f.noFrT I.stack
  have hne : ∀ b o, s.heap.get? b = some o → H b = none → b ≠ e := fun b o _ n z => by rw [z, nw.tr] at n; cases n
  refine ⟨I.stepN (ch := To.toList) (fun b hb => ?_) (fun b o hL hb hc q n => ?_) (fun b o _ hb hc q n => ?_) (fun b o hc q => ?_) (fun m hm => ?_) (I.hok.moved mv f'.is nw.tr (fun T hT => (nw.t0 T hT).1) hfr), nw.tr, nw.e0, nw.d0, fun T hT => ?_⟩
  · cases To with
    | none => cases hb
    | some T =>
      have : b = T := by simpa using hb
      subst this
      obtain ⟨h1, h2, h3⟩ := nw.t0 b rfl
      obtain ⟨_, _, oT, ts, _, _, _, _, _, _, hT, hdT, _⟩ := f
      refine ⟨h2, fun z => ?_, fun x c hc z => ?_, h3⟩
      · obtain ⟨m, ⟨o, es, ep, ho, hd, _⟩, _⟩ := I.loc
        rw [← z, hT] at ho; cases ho; rw [hdT] at hd; cases hd
      · obtain ⟨v, o, ho, hd⟩ := I.cell x c hc
        rw [z, hT] at ho; cases ho; rw [hdT] at hd; cases hd
  · refine mv.keep b o (hne b o q n) (fun T hT z => hc (by rw [hT, z]; simp)) (fun m => ?_) q
    exact (List.mem_cons.mp (I.stkSub b m)).elim hL hb
  · by_cases m : b ∈ frs X.stack
    · exact mv.slot b o m q
    · exact ⟨o.slots, mv.keep b o (hne b o q n) (fun T hT z => hc (by rw [hT, z]; simp)) m q⟩
  · by_cases z : b = e
    · obtain ⟨o', _, q', _⟩ := f'.is
      exact ⟨o', by rw [z]; exact q'⟩
    · by_cases m : b ∈ frs X.stack
      · obtain ⟨sl, q2⟩ := mv.slot b o m q; exact ⟨_, q2⟩
      · exact ⟨o, mv.keep b o z (fun T hT z => hc (by rw [hT, z]; simp)) m q⟩
  · obtain ⟨o, es, ep, ho, r⟩ := hm
    have n := I.free
    by_cases mm : X.env.locals ∈ frs X.stack
    · obtain ⟨sl, q2⟩ := mv.slot _ o mm ho
      exact ⟨_, es, ep, q2, r⟩
    · refine ⟨o, es, ep, mv.keep _ o (hne _ o ho n) (fun T hT z => ?_) mm ho, r⟩
      subst hT
      obtain ⟨_, _, oT, ts, _, _, _, _, _, _, hT, hdT, _⟩ := f
      rw [z, hT] at ho; cases ho
      obtain ⟨hd, _⟩ := r
      rw [hdT] at hd; cases hd
  · cases hT
    rcases mv.new.1 with q | q
    · refine ⟨I.hok.none_of q, ?_, fun p hp z => ?_⟩
      · cases q2 : X.s₀.heap.get? T' with
        | none => rfl
        | some o =>
          obtain ⟨o', q3⟩ := I.base.there T' o q2 (by rw [hex]; simp)
          rw [q] at q3; cases q3
      · rw [← z, (I.pin p hp).1] at q; cases q
    · exact nw.t0 T' q
/-- what is wanted of an exception of that class, where it flies -/
noncomputable def DxOf (X : Cx) (cls : Value) (d : Option Addr) (e : Addr) (σ : St) (H : Hp) : Prop := ∀ (pins : List (Addr × Obj)) (s : Shared) (To : Option Addr), Inv X pins σ H s → Fl s.heap e cls d To → Nw X pins H e cls d To → X.xe (.ref e) s
/-- how an exception lies behind a call -/
noncomputable def CXW (P : Program) (w : World) : CXT := fun outer H s E x s' => ∃ (e T : Addr) (cls : Value) (d : Option Addr) (H' : Hp), x = .ref e ∧ s'.os = s.os ∧ AllBare s'.gens ∧ Un (frs outer) [] H H' s.heap s'.heap ∧ HOk P w H' s'.heap ∧ Fl s'.heap e cls d (some T) ∧ s.heap.get? e = none ∧ (∀ a, d = some a → s.heap.get? a = none) ∧ s.heap.get? T = none ∧ H' e = some (.ext (isX e cls d)) ∧ H' T = none ∧ E cls (some e) H'
end
end L2

set_option linter.all false
set_option maxRecDepth 100000
set_option maxHeartbeats 4000000
namespace L2
open PySem PySem.Spec PyProof PyProof.Rows
/-- a def is left -/
theorem dx_leave {P : Program} {w : World} {K : PySem.W.Frag} {mg : Str → Option Value} {base : Heap} {N : List Str} {qual : Str} {scope : Scope} {f : Addr} {cd : Value} {A : Around} {outer : List Env} {s0 : Shared} {H0 : Hp} {E : XK} {cls : Value} {d : Option Addr} {e : Addr} {σ : St} {H : Hp} (hE : E cls (some e) H) :
    DxOf (cxOf (CXW P w) P w K mg base N qual scope f cd A outer s0 H0 E) cls d e σ H := by
  intro pins s To I fl nw
  refine fl_leaves (base := base) I.ok.frames rfl I.stack fl fun h' T' mv f' => ?_
  obtain ⟨I2, nw2⟩ := I.moved rfl fl nw mv f'
  exact ⟨e, T', cls, d, H, rfl, I.os, I.bare, I2.base, I2.hok, f', nw.e0, nw.d0, (nw2.t0 T' rfl).2.1, nw.tr, (nw2.t0 T' rfl).1, hE⟩
section
variable {X : Cx}
/-- what a body wants of its callee's exceptions -/
noncomputable def XkOf (X : Cx) (σ : St) (H : Hp) : XK := fun cls de H' => ∃ (e : Addr) (d : Option Addr), de = some e ∧ H' e = some (.ext (isX e cls d)) ∧ (H e = none → (∀ a, d = some a → H a = none) → DxOf X cls d e σ H')
noncomputable def tCallX (X : Cx) (sp : Sp) (t : TA) : TE := fun σ H Q => t σ H fun vs H1 => sp vs H1 Q (XkOf X σ H1)
theorem pe_fnX {k : Nat} {ps : List Str} {sp : Sp} {x : Str} {p pos : Pos} {e : Expr} {es : List Expr} {t : TA} (F : CallOk X.prog X.w X.K X.mg X.base (CXW X.prog X.w) k x ps sp) (hr : Room k X.A) (hg : Gl X x) (hex : X.ex = []) (ha : PA X (e :: es) t) (h1 : autoParam (nst e = true) L2.aRfl._auto_1) (h2 : autoParam (es.all nst = true) L2.aRfl._auto_1) (hdb : autoParam ((x == ("__debug__" : Str)) = false) L2.aDec._auto_1) :
    PE X (.Call (.Name x p) (e :: es) [] pos) (tCallX X sp t) := by
  intro pins s σ H Q I h
  obtain ⟨f, fd, hm, hk, hb, G⟩ := F.ex
  refine wpAny_Call_Name_kw (ld_glob I hg hm ?_ hdb)
  refine PySem.W.callWith_K (h₀ := X.base) I.ok.mod.kin hk (thn (ha pos pins s σ H _ I h) fun us s1 ⟨vs, H1, I1, r, q⟩ => ⟨I1.kIn, ?_⟩) (star1 h1) (plain_any h2)
  have hl : us.length = ps.length := by rw [← r.length]; exact G.len _ _ _ _ q
  have hb2 := hb s1 us I1.kIn (by rw [List.append_nil]; exact hl)
  rw [List.append_nil] at hb2
  refine wpAny_call (codeAny_mono (G.run X.A X.stack s1 H1 ⟨us, []⟩ us vs Q (XkOf X σ H1) hr I1.env0 hb2 r q) fun r s' hq => ?_)
  cases r with
  | error e =>
    obtain ⟨ea, T, cls, d, H', rfl, ho, hbare, un, hok, fl, n1, n3, n2, tr, nT, ea', d', hea, tr', hd⟩ := hq
    cases hea
    obtain ⟨_, rfl⟩ := fl.is.one (show isX ea cls d' s'.heap from (hok _ _ tr').1)
    have I2 := I1.call' (ch := []) ho un hok hbare (fun b z => absurd z (by simp))
    have n0 : ∀ b, s1.heap.get? b = none → X.s₀.heap.get? b = none := fun b z => by
      cases q2 : X.s₀.heap.get? b with
      | none => rfl
      | some o =>
        obtain ⟨o', q3⟩ := I1.base.there b o q2 (by rw [hex]; simp)
        rw [z] at q3; cases q3
    exact hd (I1.hok.none_of n1) (fun a z => I1.hok.none_of (n3 a z)) pins s' (some T) I2 fl ⟨tr, n0 _ n1, fun a z => n0 _ (n3 a z), fun T' hT => by
      cases hT
      exact ⟨nT, n0 _ n2, fun p hp z => by rw [← z, (I1.pin p hp).1] at n2; cases n2⟩⟩
  | ok fl =>
    cases fl with
    | ret u => exact I1.after hq
    | next => exact False.elim hq
    | brk => exact False.elim hq
    | cont => exact False.elim hq
/-- an own exception class of the text -/
structure XCls (K : PySem.W.Frag) (C : Addr) : Prop where
  q : PySem.W.excIn K C [.type "ValueError", .type "Exception", .type "BaseException", .type "object"] "ValueError.__new__" = true
theorem XCls.obj {K : PySem.W.Frag} {C : Addr} (c : XCls K C) : ∃ bm N nm qn bs hd sn sub ab col dd k0 k1 k2 k3 k5, K.lookup C = some (excClassObj nm qn C N bs bm hd sn sub ab col dd k0 k1 k2 k3 k5 "ValueError.__new__") ∧
    (∀ h : Heap, K.In h → OwnTail h [.type "ValueError", .type "Exception", .type "BaseException", .type "object"] bm) ∧ (∃ oN, K.lookup N = some oN) ∧ ∀ h : Heap, K.In h → ∃ mN, h.Ns N mN ∧ mN "__init__" = none := by
  have q := c.q
  unfold PySem.W.excIn at q
  split at q
  · rename_i dd cd sl ho
    split at q
    · rename_i C2 bm k0 k1 k2 k3 nw k5 hm hs
      simp only [beq_iff_eq, Bool.not_eq_true', Bool.and_eq_true] at q
      obtain ⟨⟨⟨⟨⟨z1, z2⟩, z3⟩, z4⟩, z5⟩, z6⟩ := q
      subst z1; subst z2
      obtain ⟨nm, bs, mr, ns, qn, hd, sn, sub, ab, col, dl⟩ := cd
      dsimp only at hm z3 z5 z6 ho
      subst hm; subst z3
      obtain ⟨l⟩ := sl
      have hs' : l = [k0, k1, k2, k3, some (.builtin "ValueError.__new__"), k5] := hs
      subst hs'
      refine ⟨bm, ns, nm, qn, bs, hd, sn, sub, ab, col, dd, k0, k1, k2, k3, k5, ho, fun h kin => PySem.W.tail_of_in kin z4, ?_, fun h kin => ⟨_, .of_isNs (PySem.W.isNs_of_in kin z5), PySem.W.nsMap_none_of_in kin z5 z6⟩⟩
      unfold PySem.W.nsOkIn at z5
      split at z5
      · rename_i hN; exact ⟨_, hN⟩
      · cases z5
    · cases q
  · cases q
noncomputable def tRaise (X : Cx) (C : Addr) (t : TA) : TS := fun D σ H => t σ H fun vs H1 => vs.length ≤ sizeLine ∧ ∀ e, H1 e = none → DxOf X (.ref C) none e σ (upd H1 e (.ext (isX e (.ref C) none)))
theorem ps_raise {x : Str} {C : Addr} {np cpos pos : Pos} {e : Expr} {es : List Expr} {t : TA} (hg : Gl X x) (hm : X.mg x = some (.ref C)) (hk : XCls X.K C) (hc : X.calm = true) (hex : X.ex = []) (ha : PA X (e :: es) t) (h1 : autoParam (nst e = true) L2.aRfl._auto_1) (h2 : autoParam (es.all nst = true) L2.aRfl._auto_1) (hdb : autoParam ((x == ("__debug__" : Str)) = false) L2.aDec._auto_1) :
    PS X (.Raise (some (.Call (.Name x np) (e :: es) [] cpos)) none pos) (tRaise X C t) := by
  intro pins s σ H D I h
  obtain ⟨bm, N, nm, qn, bs, hd, sn, sub, ab, col, dd, k0, k1, k2, k3, k5, lk, tl, ⟨oN, lN⟩, hns⟩ := hk.obj
  obtain ⟨mN, hN, hni⟩ := hns s.heap I.kIn
  have FB := PySem.F.excBase_ValueError
  have hstar : starEach (e :: es) X.env = (false, eval e X.env) :: starEach es X.env := star1 h1
  refine wpAny_Raise_call_subU (C := C) (nm := nm) (q := qn) (N := N) (bs := bs) (bm := bm) (hdct := hd) (sn := sn) (sub := sub) (ab := ab) (col := col) (dd := dd) (k0 := k0) (k1 := k1) (k2 := k2) (k3 := k3) (k5 := k5) FB FB.hasB FB (mN := mN) ((tl s.heap I.kIn).hasType FB.hasBase) (I.ok.hd hc) ?_ hni (ld_glob I hg hm ⟨rfl, ?_⟩ hdb)
  · rw [hstar]
    show (false || (backTo cpos (starEach es X.env)).any (·.1)) = false
    rw [plain_any h2]; rfl
  · have hp := ha cpos pins s σ H _ I h
    rw [hstar] at hp ⊢
    refine Calls.evalArgs_plain (wpAny_mono hp (fun us s2 ⟨vs, H1, I1, r, hl, q⟩ => ?_) fun _ _ y => y)
    refine ⟨rfl, by rw [← r.length]; exact hl, I1.kIn _ _ lk, ?_, tl _ I1.kIn, fun h' ea hm2 => ?_⟩
    · obtain ⟨o, es', ep, ho, rr⟩ := hN
      have z1 := I.kIn _ _ lN
      rw [ho] at z1; cases z1
      exact ⟨_, es', ep, I1.kIn _ _ lN, rr⟩
    · have hne := I1.hok.none_of hm2.new
      obtain ⟨tt, g1, g2, g3⟩ := hm2.there
      have fl : Fl h' ea (.ref C) none none := ⟨_, _, g1, rfl, rfl, rfl, rfl⟩
      have I2 : Inv X pins σ (upd H1 ea (.ext (isX ea (.ref C) none))) { s2 with heap := h' } := I1.un (t' := s2.toks) (Un.laidN hm2.keeps hm2.new hne) (I1.hok.laidN hm2.keeps hne fl.is.ok)
      refine q ea hne pins _ none I2 fl ⟨upd_same, ?_, (fun a z => by cases z), fun T z => by cases z⟩
      cases q2 : X.s₀.heap.get? ea with
      | none => rfl
      | some o =>
        obtain ⟨o', q3⟩ := I1.base.there ea o q2 (by rw [hex]; simp)
        rw [hm2.new] at q3; cases q3
end
end L2

set_option linter.all false
set_option maxRecDepth 100000
set_option maxHeartbeats 4000000
namespace L2
open PySem PySem.Spec PyProof PyProof.Rows
/-- how the exception x lies at e -/
noncomputable def XH (H : Hp) (e : Addr) (x : T) (cls : Value) (d : Option Addr) : Prop := H e = some (.ext (isX e cls d)) ∧ match x with
  | .exc c none => c = cls ∧ d = none
  | .exc c (some (n, i)) => c = cls ∧ ∃ a, d = some a ∧ H a = some (.xd [(n, .int i)])
  | _ => False
/-- what is wanted of an exception: the names then -/
noncomputable abbrev Xw := T → Mu → Prop
noncomputable abbrev DxT := Value → Option Addr → Addr → St → Hp → Prop
noncomputable abbrev UX := Mu → (R → Mu → Prop) → Xw → Prop
noncomputable abbrev UXS := Ed → Xw → Mu → Prop
noncomputable def XdOk (F : Fx) (B : AP') (H : Hp) (Dx : DxT) (Xt : Xw) : Prop := ∀ (ad : Nat → Addr) (B' : AP') (σ' : St) (H' : Hp) (μ' : Mu) (x : T) (cls : Value) (d : Option Addr) (e : Addr), Rl F ad B' σ' H' μ' → Fr B H B' H' → XH H' e x cls d → ¬ B' e → (∀ a, d = some a → ¬ B' a) → Xt x μ' → Dx cls d e σ' H'
theorem XdOk.step {F : Fx} {B B1 : AP'} {H H1 : Hp} {Dx : DxT} {Xt : Xw} (h : XdOk F B H Dx Xt) (f : Fr B H B1 H1) : XdOk F B1 H1 Dx Xt := fun ad B' σ' H' μ' x cls d e l f' tr n1 n2 q => h ad B' σ' H' μ' x cls d e l (f.trans f') tr n1 n2 q
noncomputable def RX (K : PySem.W.Frag) (Dx : DxT) (te : TE) (ux : UX) : Prop := ∀ (F : Fx) (ad : Nat → Addr) (B : AP') (σ : St) (H : Hp) (μ : Mu) (Q : VK) (Qt : R → Mu → Prop) (Xt : Xw), F.K = K → Rl F ad B σ H μ → ux μ Qt Xt →
  (∀ v H' r μ', Vr F ad B σ H' μ' v r → Fr B H (Bv B v r) H' → Kp μ μ' → Qt r μ' → Q v H') → XdOk F B H Dx Xt → te σ H Q
noncomputable def RXS (K : PySem.W.Frag) (Dx : DxT) (ts : TS) (us : UXS) : Prop := ∀ (F : Fx) (D : Ends) (E : Ed) (Xt : Xw) (ad : Nat → Addr) (B : AP') (σ : St) (H : Hp) (μ : Mu), F.K = K → Rl F ad B σ H μ → us E Xt μ → EdOk F B H D E → XdOk F B H Dx Xt → ts D σ H
structure YX (X : Cx) (e : Expr) (u : UX) : Prop where
  ex : ∃ t, QE X e t ∧ RX X.K (DxOf X) t u
structure YXS (X : Cx) (st : Stmt) (u : UXS) : Prop where
  ex : ∃ t, QS X st t ∧ RXS X.K (DxOf X) t u
structure YXB (X : Cx) (sts : List Stmt) (u : UXS) : Prop where
  ex : ∃ t, QB X sts t ∧ RXS X.K (DxOf X) t u
namespace Y
section
variable {X : Cx} {a b c e o tg : Expr} {es rest : List Expr} {ua ub uc ue uo : UE} {uA uB : UT} {us : UA} {pos pos' p p2 p3 : Pos} {x : Str} {st : Stmt} {sts xs ys : List Stmt} {u w : US} {ux : UX} {uxs wxs : UXS}
theorem xst (h : YS X st u) : YXS X st (fun E _ μ => u E μ) := by
  obtain ⟨t, q, r⟩ := h
  exact ⟨t, q, fun F D E Xt ad B σ H μ hF l q h _ => r F D E ad B σ H μ hF l q h⟩
theorem noX (h : YXB X sts uxs) : YB X sts (fun E μ => uxs E (fun _ _ => False) μ) := by
  obtain ⟨t, q, r⟩ := h
  exact ⟨t, q, fun F D E ad B σ H μ hF l q h => r F D E _ ad B σ H μ hF l q h fun _ _ _ _ _ _ _ _ _ _ _ _ _ _ z => z.elim⟩
noncomputable def xSeq (u w : UXS) : UXS := fun E Xt μ => u { E with nx := w E Xt } Xt μ
theorem xbone (h : YXS X st uxs) : YXB X [st] uxs := by obtain ⟨t, q, r⟩ := h; exact ⟨t, Z.bone q, r⟩
theorem xbnil : YXB X [] (fun E _ μ => E.nx μ) := ⟨_, Z.bnil, fun F D E Xt ad B σ H μ hK l q h _ => h.nx ad B σ H μ l Fr.refl q⟩
theorem xbcons (h : YXS X st uxs) (h2 : YXB X sts wxs) : YXB X (st :: sts) (xSeq uxs wxs) := by
  obtain ⟨t, q, r⟩ := h; obtain ⟨t', q', r'⟩ := h2
  exact ⟨_, Z.bcons q q', fun F D E Xt ad B σ H μ hK l q h hX => r F { D with nx := t' D } { E with nx := wxs E Xt } Xt ad B σ H μ hK l q
    ⟨fun ad1 B1 σ1 H1 μ1 l1 f1 q1 => r' F D E Xt ad1 B1 σ1 H1 μ1 hK l1 q1 (h.step f1) (hX.step f1), h.rt, h.bk, h.ct⟩ hX⟩
noncomputable def xAsg (ux : UX) (g : UG) : UXS := fun E Xt μ => ux μ (fun r μ' => g r μ' E.nx) Xt
theorem rxs_asg {K : PySem.W.Frag} {Dx : DxT} {te : TE} {tg : TG} {g : UG} (he : RX K Dx te ux) (hg : RG K tg g) : RXS K Dx (tAsg te tg) (xAsg ux g) := fun F D E Xt ad B σ H μ hK l q h hX =>
  he F ad B σ H μ _ _ Xt hK l q (fun v H' r μ' v1 f k1 q1 => hg F ad B σ H' μ' v r B H _ _ hK v1 f q1 fun ad' B' σ' H2 μ2 l2 f2 q2 => h.nx ad' B' σ' H2 μ2 l2 f2 q2) hX
theorem xset {i : Nat} (hN : X.N.Nodup) (hi : X.N[i]? = some x) (hx : Loc X.env.scope x) (he : YX X e ux) (hs : autoParam (Z.noc e = true) L2.aRfl._auto_1) (hf : autoParam (X.fn x = true ∨ X.env.scope.names.lookup x = some .local) L2.aLoc._auto_1) :
    YXS X (.Assign [.Name x pos'] e pos) (xAsg ux (gN i)) := by
  obtain ⟨t, q, r⟩ := he
  exact ⟨_, Z.set hN hi hx q hs hf, rxs_asg r rg_name⟩
noncomputable def xRet (ux : UX) : UXS := fun E Xt μ => ux μ E.rt Xt
theorem xret (he : YX X e ux) : YXS X (.Return (some e) pos) (xRet ux) := by
  obtain ⟨t, q, r⟩ := he
  exact ⟨_, Z.ret q, fun F D E Xt ad B σ H μ hK l q h hX => r F ad B σ H μ _ _ Xt hK l q (fun v H' rr μ' v1 _ _ q1 => h.rt ad B σ H' μ' v rr v1 q1) hX⟩
noncomputable def xIf (c : UT) (u w : UXS) : UXS := fun E Xt μ => c μ fun b μ' => if b = true then u E Xt μ' else w E Xt μ'
theorem xifS (hc : YT X c uA) (ha : YXB X xs uxs) (hb : YXB X ys wxs) : YXS X (.If c xs ys pos) (xIf uA uxs wxs) := by
  obtain ⟨t, q, r⟩ := hc; obtain ⟨t1, q1, r1⟩ := ha; obtain ⟨t2, q2, r2⟩ := hb
  refine ⟨_, Z.ifS q q1 q2, fun F D E Xt ad B σ H μ hK l q h hX => r F ad B σ H μ _ _ hK l q fun b H' μ' l' f k1 qq => ?_⟩
  cases b with
  | true => exact r1 F D E Xt ad B σ H' μ' hK l' (by simpa using qq) (h.step f) (hX.step f)
  | false => exact r2 F D E Xt ad B σ H' μ' hK l' (by simpa using qq) (h.step f) (hX.step f)
noncomputable def xIx (u : U2) (ux : UX) (ub : UE) : UX := fun μ Q Xt => ux μ (fun r1 μ1 => ub μ1 fun r2 μ2 => u r1.d r2.d μ2 Q) Xt
theorem xix {r : R2} {u : U2} (hr : IxR X r) (h : ROp X.K r u) (ha : YX X a ux) (hb : YE X b ub) (hs : autoParam (Z.sim b = true) L2.aRfl._auto_1) : YX X (.Subscript a b pos) (xIx u ux ub) := by
  obtain ⟨t, q, ra⟩ := ha; obtain ⟨t', q', rb⟩ := hb
  refine ⟨_, Z.ix hr q q' hs, fun F ad B σ H μ Q Qt Xt hK l q k hX => ra F ad B σ H μ _ _ Xt hK l q (fun v1 H1 r1 μ1 w1 f1 k1 q1 => ?_) hX⟩
  refine rb F ad B σ H1 μ1 _ _ hK w1.rl q1 fun v2 H2 r2 μ2 w2 f2 k2 q2 => ?_
  refine h F ad B σ H2 μ2 _ _ v1 v2 r1.d r2.d hK w2.rl (w1.hv.fr f2.d k2) w2.hv q2 fun v H3 r3 μ3 w3 f3 k3 q3 => ?_
  exact k v H3 r3 μ3 w3 ((f1.d.trans f2.d).trans f3) ((k1.trans k2).trans k3) q3
end
end Y
end L2

set_option linter.all false
set_option maxRecDepth 100000
set_option maxHeartbeats 4000000
namespace L2
open PySem PySem.Spec PyProof PyProof.Rows
noncomputable abbrev TSx := List T → (R → List T → Prop) → (T → Prop) → Prop
noncomputable def spX (K : PySem.W.Frag) (md : List Bool) (tsp : TSx) : Sp := fun vs H Q E => ∃ Et : T → Prop, spT K md (fun args Qt => tsp args Qt Et) vs H Q E ∧ ∀ x cls d e H', Et x → (∀ b o, H b = some o → b ∉ bxA md vs → H' b = some o) → XH H' e x cls d → E cls (some e) H'
theorem bxA_none : ∀ {md : List Bool} {vs : List V}, md.all (fun b => !b) = true → bxA md vs = []
  | [], _, _ => rfl
  | true :: _, _, h => by simp at h
  | false :: md, [], _ => rfl
  | false :: md, v :: vs, h => bxA_none (md := md) (vs := vs) (by simpa using h)
namespace Y
theorem fn_core {K : PySem.W.Frag} {md : List Bool} {tsp : TSp} {E : XK} {F : Fx} {ad : Nat → Addr} {B : AP'} {σ : St} {H1 : Hp} {μ1 : Mu} {Q : VK} {Qt : R → Mu → Prop} {vs : List V} {rs : List R} {args : List T} (hF : F.K = K) (l1 : Rl F ad B σ H1 μ1) (ps : Paired (Hv F ad B H1 μ1) vs rs) (ea : agT μ1 md rs = some args)
    (nd : (bxS md rs).Nodup) (dj : ∀ j ∈ bxS md rs, j ∉ roS md rs) (q1 : tsp args fun r outs => (roS md rs = [] ∨ (flatR r = true ∧ outs.all flatC = true)) ∧ Qt r (putAll (bxS md rs) outs μ1))
    (k : ∀ v H' r μ', Vr F ad B σ H' μ' v r → Fr B H1 (Bv B v r) H' → Kp μ1 μ' → Qt r μ' → Q v H') : spT K md tsp vs H1 Q E := by
  have hro := ro_box (md := md) ps
  obtain ⟨ag, eb, hb⟩ := ag_of l1 (roS md rs) ps ea (fun j h => h) dj hro
  rw [hF] at ag
  have inj : ∀ {js : List Nat}, js.Nodup → (∀ j ∈ js, ∃ (s : Sl) (c : T), μ1[j]? = some s ∧ s.box = some c) → (js.map ad).Nodup := fun {js} => by
    induction js with
    | nil => exact fun _ _ => List.nodup_nil
    | cons j js ih =>
      intro nd hb
      rw [List.nodup_cons] at nd
      rw [List.map_cons, List.nodup_cons]
      refine ⟨fun hm => ?_, ih nd.2 fun i hi => hb i (List.mem_cons_of_mem _ hi)⟩
      obtain ⟨i, hi, z⟩ := List.mem_map.mp hm
      obtain ⟨s1, c1, e1, b1⟩ := hb j List.mem_cons_self
      obtain ⟨s2, c2, e2, b2⟩ := hb i (List.mem_cons_of_mem _ hi)
      exact nd.1 (l1.inj i j s2 s1 c2 c1 e2 e1 b2 b1 z ▸ hi)
  refine ⟨_, args, _, ag, fun b z => l1.trk b z.1, by rw [eb]; exact inj nd hb, q1, fun v H2 r outs hq keep res => ?_⟩
  rw [eb] at keep res
  obtain ⟨hfl, hq⟩ := hq
  have nro : ∀ {b : Addr}, roS md rs = [] → B b → B b ∧ ∀ j ∈ roS md rs, b ≠ ad j := fun {b} z h => ⟨h, fun j hj => by rw [z] at hj; cases hj⟩
  cases r with
  | br i => exact res.elim
  | tr t =>
    obtain ⟨rv, po⟩ := res
    have rv' : Rep F.K H2 B v t := by
      rw [hF]
      rcases hfl with z | z
      · exact rv.fr (Fr.less fun b h => nro z h)
      · exact rv.flat z.1
    have po' : Paired (Bx F.K H2 B) ((bxS md rs).map ad) outs := by
      rw [hF]
      rcases hfl with z | z
      · exact Paired.mapP po fun a c h => h.of rfl (Fr.less fun b h => nro z h)
      · exact Paired.flatB po z.2
    obtain ⟨l2, k2, f2⟩ := l1.call hb nd keep (fun _ z => z) (fun _ _ _ z => z) (fun b z n => absurd z n) po'
    exact k v H2 (.tr t) _ ⟨l2, rv'⟩ f2 k2 hq
  | fr c =>
    obtain ⟨a, rfl, ha0, nBa, x, po⟩ := res
    have nBa' : ¬ B a := l1.notB ha0
    have sub : roS md rs = [] → ∀ b, more B a b → more (fun b => B b ∧ ∀ j ∈ roS md rs, b ≠ ad j) a b := fun z b h => h.imp id fun h => nro z h
    have x' : Bx F.K H2 (more B a) a c := by
      rw [hF]
      rcases hfl with z | z
      · exact x.of rfl (Fr.less (sub z))
      · exact x.flat z.1
    have po' : Paired (Bx F.K H2 (more B a)) ((bxS md rs).map ad) outs := by
      rw [hF]
      rcases hfl with z | z
      · exact Paired.mapP po fun a' c h => h.of rfl (Fr.less (sub z))
      · exact Paired.flatB po z.2
    have po2 : Paired (Bx F.K H2 B) ((bxS md rs).map ad) outs := Paired.mapP po' fun a' c h => h.of rfl (Fr.less fun _ z => .inr z)
    obtain ⟨l2, k2, f2⟩ := l1.call hb nd keep (fun _ z => z) (fun _ _ _ z => z) (fun b z n => absurd z n) po2
    obtain ⟨l3, _, f3⟩ := l1.call (B2 := more B a) hb nd keep (fun _ z => .inr z) (fun b o e n z => z.elim (fun z => by rw [z, ha0] at e; cases e) n) (fun b z n => z.elim (fun z => by rw [z]; exact x'.trk) fun z => absurd z n) po'
    exact k _ H2 (.fr c) _ ⟨l2, a, rfl, nBa', l1.new0 ha0, l3, x'⟩ f3 k2 hq

noncomputable def xFn (md : List Bool) (tsp : TSx) (us : UA) : UX := fun μ Q Xt => us μ fun rs μ1 => match agT μ1 md rs with
  | some args => (bxS md rs).Nodup ∧ (∀ j ∈ bxS md rs, j ∉ roS md rs) ∧ tsp args (fun r outs => (roS md rs = [] ∨ (flatR r = true ∧ outs.all flatC = true)) ∧ Q r (putAll (bxS md rs) outs μ1)) (fun x => Xt x μ1)
  | none => False
theorem xfn {X : Cx} {e : Expr} {es : List Expr} {us : UA} {pos p : Pos} {x : Str} {k : Nat} {ps : List Str} {md : List Bool} {tsp : TSx} (K : PySem.W.Frag) (hK : X.K = K) (F : CallOk X.prog X.w X.K X.mg X.base (CXW X.prog X.w) k x ps (spX K md tsp)) (hr : Room k X.A) (hg : Gl X x) (hex : X.ex = []) (ha : YA X (e :: es) us) (h1 : autoParam (nst e = true) L2.aRfl._auto_1) (h2 : autoParam (es.all nst = true) L2.aRfl._auto_1) (hdb : autoParam ((x == ("__debug__" : Str)) = false) L2.aDec._auto_1) (hmd : autoParam (md.all (fun b => !b) = true) L2.aRfl._auto_1) :
    YX X (.Call (.Name x p) (e :: es) [] pos) (xFn md tsp us) := by
  obtain ⟨t, q, r⟩ := ha
  subst hK
  refine ⟨_, ⟨pe_fnX F hr hg hex q.h h1 h2 hdb⟩, fun F ad B σ H μ Q Qt Xt hF l q k hX => ?_⟩
  refine r F ad B σ H μ _ _ hF l q fun vs H1 rs μ1 l1 ps f1 k1 q1 => ?_
  split at q1
  · rename_i args ea
    obtain ⟨nd, dj, q1⟩ := q1
    refine ⟨fun x => Xt x μ1, fn_core (tsp := fun args Qt => tsp args Qt fun x => Xt x μ1) hF l1 ps ea nd dj q1 fun v H' r μ' w f k2 q2 => k v H' r μ' w (f1.trans f) (k1.trans k2) q2, fun x cls d e H' he keep tr => ⟨e, d, rfl, tr.1, fun ne nd => ?_⟩⟩
    have sm : Same H1 H' := fun b o z => keep b o z (by rw [bxA_none hmd]; simp)
    exact hX ad B σ H' μ1 x cls d e (l1.same sm) (f1.trans (Fr.same sm)) tr (l1.notB ne) (fun a z => l1.notB (nd a z)) he
  · exact q1.elim
/-- raise X(..) -/
noncomputable def xRaise (C : Addr) (us : UA) : UXS := fun _ Xt μ => us μ fun rs μ' => rs.length ≤ 10 ∧ Xt (.exc (.ref C) none) μ'
theorem xraise {X : Cx} {e : Expr} {es : List Expr} {us : UA} {x : Str} {C : Addr} {np cpos pos : Pos} (hg : Gl X x) (hm : X.mg x = some (.ref C)) (hk : XCls X.K C) (hc : X.calm = true) (hex : X.ex = []) (ha : YA X (e :: es) us) (h1 : autoParam (nst e = true) L2.aRfl._auto_1) (h2 : autoParam (es.all nst = true) L2.aRfl._auto_1) (hdb : autoParam ((x == ("__debug__" : Str)) = false) L2.aDec._auto_1) :
    YXS X (.Raise (some (.Call (.Name x np) (e :: es) [] cpos)) none pos) (xRaise C us) := by
  obtain ⟨t, q, r⟩ := ha
  refine ⟨_, ⟨ps_raise hg hm hk hc hex q.h h1 h2 hdb⟩, fun F D E Xt ad B σ H μ hF l q h hX => ?_⟩
  refine r F ad B σ H μ _ _ hF l q fun vs H1 rs μ1 l1 ps f1 k1 q1 => ⟨by rw [ps.length]; exact Nat.le_trans q1.1 (by decide), fun ea hn => ?_⟩
  have sm : Same H1 (upd H1 ea (.ext (isX ea (.ref C) none))) := Same.new hn
  exact hX ad B σ _ μ1 (.exc (.ref C) none) (.ref C) none ea (l1.same sm) (f1.trans (Fr.same sm)) ⟨upd_same, rfl, rfl⟩ (l1.notB hn) (fun a z => by cases z) q1.2
noncomputable def xWhile (c : UT) (body : UXS) : UXS := fun E Xt μ => ∃ I : Nat → Mu → Prop, (∃ m, I m μ) ∧ ∀ m μ, I m μ → c μ fun b μ' => if b = true then body { E with nx := fun μ2 => ∃ m', m' < m ∧ I m' μ2, ct := fun μ2 => ∃ m', m' < m ∧ I m' μ2, bk := E.nx } Xt μ' else E.nx μ'
theorem xwhileS {X : Cx} {c : Expr} {xs : List Stmt} {uA : UT} {u : UXS} {pos : Pos} (hp : PassesOwn (model X.prog X.w) X.A X.env X.xe) (hc : YT X c uA) (hb : YXB X xs u) : YXS X (.While c xs [] pos) (xWhile uA u) := by
  obtain ⟨tc, qc, rc⟩ := hc; obtain ⟨t, q, r⟩ := hb
  refine ⟨_, Z.whileS hp qc q, fun F D E Xt ad B σ H μ hF l q h hX => ?_⟩
  obtain ⟨I, ⟨m0, i0⟩, turn⟩ := q
  refine ⟨fun m σ' H' => ∃ ad' B' μ', Rl F ad' B' σ' H' μ' ∧ Fr B H B' H' ∧ I m μ', ⟨m0, ad, B, μ, l, Fr.refl, i0⟩, ?_⟩
  rintro m σ1 H1 ⟨ad1, B1, μ1, l1, f1, i1⟩
  refine rc F ad1 B1 σ1 H1 μ1 _ _ hF l1 (turn m μ1 i1) fun b H2 μ2 l2 f2 k2 q2 => ?_
  cases b with
  | true =>
    rw [if_pos rfl] at q2 ⊢
    refine ⟨fun σ' H' => ∃ m', m' < m ∧ ∃ ad' B' μ', Rl F ad' B' σ' H' μ' ∧ Fr B H B' H' ∧ I m' μ', fun σ' H' h => h, ?_⟩
    have hn : ∀ ad' B' σ' H' μ', Rl F ad' B' σ' H' μ' → Fr B1 H2 B' H' → (∃ m', m' < m ∧ I m' μ') → ∃ m', m' < m ∧ ∃ ad' B' μ', Rl F ad' B' σ' H' μ' ∧ Fr B H B' H' ∧ I m' μ' := fun ad' B' σ' H' μ' l' f' ⟨m', hm, i'⟩ => ⟨m', hm, ad', B', μ', l', (f1.trans f2).trans f', i'⟩
    exact r F _ _ Xt ad1 B1 σ1 H2 μ2 hF l2 q2 ⟨hn, h.rt, fun ad' B' σ' H' μ' l' f' q' => h.nx ad' B' σ' H' μ' l' ((f1.trans f2).trans f') q', hn⟩ (hX.step (f1.trans f2))
  | false =>
    rw [if_neg Bool.false_ne_true] at q2 ⊢
    exact h.nx ad1 B1 σ1 H2 μ2 l2 (f1.trans f2) q2
end Y
/-- a def's promise from its body -/
theorem HasFn.okX {P : Program} {w : World} {K : PySem.W.Frag} {mg : Str → Option Value} {base : Heap} {x : Str} {st : Stmt} {N ps : List Str} {k : Nat} {tsp : TSx} (F : HasFn K mg x st ps) (S : FnScope N ps (defScope st)) (md : List Bool) (hmd : md.all (fun b => !b) = true) (hm : md.length = ps.length) (hN : md.length ≤ N.length)
    (hbody : ∀ (args : List T) (Qt : R → List T → Prop) (Et : T → Prop), args.length = ps.length → tsp args Qt Et → ∀ (f : Addr) (cdv : Value) (A : Around) (outer : List Env) (s : Shared) (H : Hp) (E : XK), Room k (A.deeper (envOfC x (defScope st) s.heap.objs.size f cdv)) →
      ∃ us, YXB (cxOf (CXW P w) P w K mg base N x (defScope st) f cdv A outer s H E) (defBody st) us ∧ us (edOf md Qt) (fun x _ => Et x) (startM md args N.length)) : CallOk P w K mg base (CXW P w) (k + 1) x ps (spX K md tsp) := by
  obtain ⟨f, fd, F1, bnd, m⟩ := F.ex
  obtain ⟨oc, od, kV, doc, pm, an, cdv, ct, osl, rfl, lk, hcd⟩ := F1.ex
  refine ⟨f, _, m, F1.kp, bnd, fn_of (CX := CXW P w) lk hcd S (fun vs H Q E h => ?_) (fun A outer s H vs Q E hr h => ?_)⟩
  · obtain ⟨Et, ⟨B, args, Qt, ag, _⟩, _⟩ := h
    rw [ag.len.1, hm]
  · obtain ⟨Et, ⟨B, args, Qt, ag, bh, nd, ht, fin⟩, hE⟩ := h
    obtain ⟨us, ⟨t, q, r⟩, hu⟩ := hbody args Qt Et (by rw [ag.len.2, hm]) ht f cdv A outer s H E hr
    refine ⟨t, q.h, ?_⟩
    have l0 := rl_start (N := N) ag bh nd hN
    -- what is told of the boxes at the end
    have outs : ∀ ad' B' σ' H' μ' (B2 : AP'), Rl (fxOf K H md vs B bh) ad' B' σ' H' μ' → (∀ b, B2 b → B' b) → Paired (Bx K H' B2) (bxA md vs) (outsAt md 0 μ') := fun ad' B' σ' H' μ' B2 l hB => by
      refine outs_of (ag.len.1) fun n e => ?_
      obtain ⟨v, t', e1, e2, q⟩ := ag.get e
      rw [if_pos rfl] at q
      obtain ⟨a, rfl, _⟩ := q
      obtain ⟨⟨c, hc⟩, ha⟩ := l.par n a (pOf_of e e1)
      have sl := l.slot n _ hc
      refine ⟨a, c, e1, by rw [Nat.zero_add]; exact hc, ?_⟩
      rw [← ha]
      exact (sl.2.2.2).of rfl (Fr.less hB)
    have keep : ∀ ad' B' σ' H' μ', Rl (fxOf K H md vs B bh) ad' B' σ' H' μ' → ∀ b o, H b = some o → b ∉ bxA md vs → H' b = some o := fun ad' B' σ' H' μ' l b o e n => l.old b o e fun i z => n (mem_bxA (pOf_is z).1 (pOf_is z).2)
    refine r (fxOf K H md vs B bh) _ _ (fun x _ => Et x) (adOf vs) B (start N vs) H _ rfl l0 hu ⟨fun ad' B' σ' H' μ' l _ q => ?_, fun ad' B' σ' H' μ' v rr h q => ?_, fun _ _ _ _ _ _ _ z => z.elim, fun _ _ _ _ _ _ _ z => z.elim⟩ (fun ad' B' σ' H' μ' x cls d e l _ tr _ _ z => dx_leave (hE x cls d e H' z (keep _ _ _ _ _ l) tr))
    · exact fin .non H' (.tr .non) _ q (keep _ _ _ _ _ l) ⟨.non, outs _ _ _ _ _ _ l l.bc⟩
    · cases rr with
      | tr t => exact fin v H' (.tr t) _ q (keep _ _ _ _ _ h.1) ⟨(show Rep K H' B' v t from h.2).fr (Fr.less h.1.bc), outs _ _ _ _ _ _ h.1 h.1.bc⟩
      | fr c =>
        obtain ⟨l, a, rfl, n, h0, l2, x⟩ := h
        have sub : ∀ b, more B a b → more B' a b := fun b z => z.imp id (l.bc b)
        exact fin _ H' (.fr c) _ q (keep _ _ _ _ _ l) ⟨a, rfl, h0, fun z => n (l.bc a z), x.of rfl (Fr.less sub), outs _ _ _ _ _ _ l2 sub⟩
      | br i =>
        have q' : (match μ'[i]? with | some (.bx c) => Qt (.fr c) (outsAt md 0 μ') | _ => False) := q
        obtain ⟨l, rfl, s', c', e1, e2⟩ := h
        split at q'
        · rename_i c ec
          have sl := l.slot i _ ec
          have sub : ∀ b, more B (ad' i) b → B' b := fun b z => z.elim (fun z => by rw [z]; exact sl.2.1) (l.bc b)
          refine fin _ H' (.fr c) _ q' (keep _ _ _ _ _ l) ⟨ad' i, rfl, sl.2.2.1, fun z => ?_, (sl.2.2.2.2).of rfl (Fr.less sub), outs _ _ _ _ _ _ l sub⟩
          obtain ⟨o, e⟩ := bh _ z
          have : H (ad' i) = none := sl.2.2.1
          rw [this] at e; cases e
        · exact q'.elim

end L2

set_option linter.all false
set_option maxRecDepth 100000
set_option maxHeartbeats 4000000
namespace L2
open PySem PySem.Spec PyProof PyProof.Rows
noncomputable abbrev tryX (X : Cx) (pins : List (Addr × Obj)) (E : Value → Shared → Prop) : Cx := { X with xe := E, pn := X.pn ++ pins }
noncomputable abbrev hdX (X : Cx) (e : Addr) : Cx := { X with A := X.A.mark (some (.ref e)), calm := false, xe := fun _ _ => False }
section
variable {X : Cx} {pins pins' : List (Addr × Obj)} {σ : St} {H : Hp} {s : Shared} {E : Value → Shared → Prop} {e : Addr}
theorem Inv.toTry (I : Inv X pins σ H s) : Inv (tryX X pins E) [] σ H s :=
  ⟨⟨I.ok.mod, I.ok.kind, I.ok.glob, I.ok.blt, I.ok.above, I.ok.inj, I.ok.has, I.ok.cab, I.ok.hd, I.ok.frames, I.ok.stk, I.ok.exf, I.ok.bs, I.ok.bsz, I.ok.noex, I.ok.exfs, I.ok.funs, I.ok.frf⟩,
    I.os, I.bare, I.base, I.loc, I.cell, I.free, I.freeC, fun p hp => I.pin p (by simpa using hp), I.hok, I.len⟩
theorem Inv.ofTry (I : Inv (tryX X pins E) pins' σ H s) : Inv X pins σ H s :=
  ⟨⟨I.ok.mod, I.ok.kind, I.ok.glob, I.ok.blt, I.ok.above, I.ok.inj, I.ok.has, I.ok.cab, I.ok.hd, I.ok.frames, I.ok.stk, I.ok.exf, I.ok.bs, I.ok.bsz, I.ok.noex, I.ok.exfs, I.ok.funs, I.ok.frf⟩,
    I.os, I.bare, I.base, I.loc, I.cell, I.free, I.freeC, fun p hp => I.pin p (List.mem_append_left _ hp), I.hok, I.len⟩
theorem Inv.toHd (I : Inv X pins σ H s) : Inv (hdX X e) pins σ H s :=
  ⟨⟨I.ok.mod, I.ok.kind, I.ok.glob, I.ok.blt, I.ok.above, I.ok.inj, I.ok.has, I.ok.cab, (fun z => nomatch z), I.ok.frames, I.ok.stk, I.ok.exf, I.ok.bs, I.ok.bsz, I.ok.noex, I.ok.exfs, I.ok.funs, I.ok.frf⟩,
    I.os, I.bare, I.base, I.loc, I.cell, I.free, I.freeC, I.pin, I.hok, I.len⟩
theorem SP.ofTry {D : Ends} {f : Flow} (h : SP (tryX X pins E) pins' D f s) : SP X pins D f s := by
  cases f with
  | next => obtain ⟨σ', H', I, q⟩ := h; exact ⟨σ', H', I.ofTry, q⟩
  | brk => obtain ⟨σ', H', I, q⟩ := h; exact ⟨σ', H', I.ofTry, q⟩
  | cont => obtain ⟨σ', H', I, q⟩ := h; exact ⟨σ', H', I.ofTry, q⟩
  | ret u => obtain ⟨v, σ', H', I, r, q⟩ := h; exact ⟨v, σ', H', I.ofTry, r, q⟩
theorem SP.ofHd {D : Ends} {f : Flow} (hd : X.A.handled = none) (hc : X.calm = true) (h : SP (hdX X e) pins D f s) : SP X pins D f s := by
  have go : ∀ {σ' : St} {H' : Hp} {s' : Shared}, Inv (hdX X e) pins σ' H' s' → Inv X pins σ' H' s' := fun I =>
    ⟨⟨I.ok.mod, I.ok.kind, I.ok.glob, I.ok.blt, I.ok.above, I.ok.inj, I.ok.has, I.ok.cab, fun _ => hd, I.ok.frames, I.ok.stk, I.ok.exf, I.ok.bs, I.ok.bsz, I.ok.noex, I.ok.exfs, I.ok.funs, I.ok.frf⟩,
      I.os, I.bare, I.base, I.loc, I.cell, I.free, I.freeC, I.pin, I.hok, I.len⟩
  cases f with
  | next => obtain ⟨σ', H', I, q⟩ := h; exact ⟨σ', H', go I, q⟩
  | brk => obtain ⟨σ', H', I, q⟩ := h; exact ⟨σ', H', go I, q⟩
  | cont => obtain ⟨σ', H', I, q⟩ := h; exact ⟨σ', H', go I, q⟩
  | ret u => obtain ⟨v, σ', H', I, r, q⟩ := h; exact ⟨v, σ', H', go I, r, q⟩
end
namespace Y
end Y
end L2

set_option linter.all false
set_option maxRecDepth 100000
set_option maxHeartbeats 4000000
namespace L2
open PySem PySem.Spec PyProof PyProof.Rows
noncomputable abbrev UJ := Mu → (Mu → Prop) → Prop
structure YJ (X : Cx) (vs : List Expr) (u : UJ) : Prop where
  run : ∀ (F : Fx) (ad : Nat → Addr) (B : AP') (σ : St) (H : Hp) (μ : Mu) (Qt : Mu → Prop) (pins : List (Addr × Obj)) (s : Shared) (acc : Str) (k : Nat) (R : Str → Shared → Prop), F.K = X.K → Rl F ad B σ H μ → u μ Qt → Inv X pins σ H s → acc.length ≤ 2000 * k → k + vs.length ≤ 20 →
    (∀ H' μ' s' (out : Str), Rl F ad B σ H' μ' → Fr B H B H' → Kp μ μ' → Qt μ' → Inv X pins σ H' s' → out.length ≤ 40000 → R out s') → Joins (model X.prog X.w) X.A X.xe (evalEach vs X.env) acc R s
theorem app_len' (a b : Str) : (a ++ b).length = a.length + b.length := Array.size_append
theorem le_line {n : Nat} (h : n ≤ 40000) : n ≤ sizeLine := Nat.le_trans h (by decide)
namespace Y
section
variable {X : Cx} {e : Expr} {vs : List Expr} {ue : UE} {u : UJ} {pos p : Pos}
theorem jnil : YJ X [] (fun μ Q => Q μ) := ⟨fun F ad B σ H μ Qt pins s acc k R hF l q I ha hk h => h H μ s acc l Fr.refl (Kp.refl μ) q I (by simp at hk; omega)⟩
theorem jcon {c : Str} {j : Nat} (h : YJ X vs u) (hc : autoParam (c.length ≤ 2000) L2.aDec._auto_1) (he : autoParam (evalEach (.Constant (.str c) j p :: vs) X.env = eval (.Constant (.str c) j p) X.env :: evalEach vs X.env) L2.aRfl._auto_1) : YJ X (.Constant (.str c) j p :: vs) u := by
  refine ⟨fun F ad B σ H μ Qt pins s acc k R hF l q I ha hk hR => ?_⟩
  rw [he]
  refine thn ((Z.str (X := X) (i := c) (j := j) (pos := p)).h pins s σ H (fun v H1 => v = .str c ∧ H1 = H) I ⟨rfl, rfl⟩) fun v s1 ⟨v', H1, I1, r1, e1, e2⟩ => ?_
  subst e1; subst e2
  obtain ⟨t, rfl⟩ := r1
  have hl : (acc ++ c).length ≤ 2000 * (k + 1) := by rw [app_len']; omega
  rw [List.length_cons] at hk
  exact ⟨c, t, rfl, le_line (by omega), h.run F ad B σ H1 μ Qt pins s1 (acc ++ c) (k + 1) R hF l q I1 hl (by omega) hR⟩
noncomputable def uJi (ue : UE) (u : UJ) : UJ := fun μ Q => ue μ fun r μ' => match r with
  | .tr (.int i) => i.natAbs < 2 ^ 1900 ∧ u μ' Q
  | _ => False
theorem jint (he : YE X e ue) (h : YJ X vs u) (hev : autoParam (evalEach (.FormattedValue e (-1) none p :: vs) X.env = eval (.FormattedValue e (-1) none p) X.env :: evalEach vs X.env) L2.aRfl._auto_1) : YJ X (.FormattedValue e (-1) none p :: vs) (uJi ue u) := by
  obtain ⟨t, qe, r⟩ := he
  refine ⟨fun F ad B σ H μ Qt pins s acc k R hF l q I ha hk hR => ?_⟩
  rw [hev]
  refine wpAny_FormattedValue_plain ?_
  refine thn (qe.h pins s σ H (fun v H1 => ∃ r1 μ1, Vr F ad B σ H1 μ1 v r1 ∧ Fr B H (Bv B v r1) H1 ∧ Kp μ μ1 ∧ (match r1 with
    | .tr (.int i) => i.natAbs < 2 ^ 1900 ∧ u μ1 Qt
    | _ => False)) I (r F ad B σ H μ _ _ hF l q fun v H1 r1 μ1 w f k1 q1 => ⟨r1, μ1, w, f, k1, q1⟩)) fun v s1 ⟨v', H1, I1, rv, r1, μ1, w, f, k1, q1⟩ => ?_
  split at q1
  · rename_i i
    obtain ⟨l1, rp⟩ := w
    cases rp
    obtain ⟨t', rfl⟩ := rv
    obtain ⟨hi, q1⟩ := q1
    have hlog : i.natAbs.log2 < 1920 := by
      by_cases z : i.natAbs = 0
      · rw [z]; decide
      · exact (Nat.log2_lt z).mpr (Nat.lt_of_lt_of_le hi (Nat.pow_le_pow_right (by decide) (by decide)))
    have hlen : (Str.ofString (toString i)).length ≤ 1921 := by
      have := int_text_length_le (k := 1920) (by decide) hlog
      rw [PySem.ofString_length]; exact this
    refine wpAny_formatField_int hlog ⟨_, _, rfl, ?_, ?_⟩
    · rw [app_len']; exact le_line (by rw [List.length_cons] at hk; omega)
    · rw [List.length_cons] at hk
      exact h.run F ad B σ H1 μ1 Qt pins _ (acc ++ Str.ofString (toString i)) (k + 1) R hF l1 q1 (I1.tok _) (by rw [app_len']; omega) (by omega) fun H' μ' s' out l' f' k' => hR H' μ' s' out l' (f.trans f') (k1.trans k')
  · exact q1.elim
noncomputable def uJs (u : UJ) : UE := fun μ Q => u μ fun μ' => ∀ z : Str, z.length ≤ 40000 → Q (.tr (.str z)) μ'
theorem fstr {v1 v2 : Expr} {rest : List Expr} (h : YJ X (v1 :: v2 :: rest) u) (hn : autoParam ((v1 :: v2 :: rest).length ≤ 20) L2.aDec._auto_1) : YE X (.JoinedStr (v1 :: v2 :: rest) pos) (uJs u) := by
  refine ⟨fun σ H Q => ∀ pins s, Inv X pins σ H s → wpAny (model X.prog X.w) X.A (eval (.JoinedStr (v1 :: v2 :: rest) pos) X.env) (EP X pins σ Q) X.xe s, ⟨fun pins s σ H Q I h => h pins s I⟩, ?_⟩
  intro F ad B σ H μ Q Qt hF l q k pins s I
  refine wpAny_JoinedStr (h.run F ad B σ H μ _ pins s Str.empty 0 _ hF l q I (by decide) (by rw [Nat.zero_add]; exact hn) fun H' μ' s' out l' f' k' q' I' ho => ⟨le_line ho, ?_⟩)
  exact ⟨.str out, H', I'.tok _, ⟨_, rfl⟩, k _ H' (.tr (.str out)) μ' ⟨l', .str out⟩ f' k' (q' out ho)⟩
end
end Y
namespace A
theorem uJi (ue : UE) (u : UJ) (μ : Mu) (Q : Mu → Prop) : Y.uJi ue u μ Q = ue μ fun r μ' => match r with
  | .tr (.int i) => i.natAbs < 2 ^ 1900 ∧ u μ' Q
  | _ => False := propext Iff.rfl
theorem uJs (u : UJ) (μ : Mu) (Q : R → Mu → Prop) : Y.uJs u μ Q = u μ fun μ' => ∀ z : Str, z.length ≤ 40000 → Q (.tr (.str z)) μ' := propext Iff.rfl
theorem xAsg (ux : UX) (g : UG) (E : Ed) (Xt : Xw) (μ : Mu) : Y.xAsg ux g E Xt μ = ux μ (fun r μ' => g r μ' E.nx) Xt := propext Iff.rfl
theorem xRet (ux : UX) (E : Ed) (Xt : Xw) (μ : Mu) : Y.xRet ux E Xt μ = ux μ E.rt Xt := propext Iff.rfl
theorem xIf (c : UT) (u w : UXS) (E : Ed) (Xt : Xw) (μ : Mu) : Y.xIf c u w E Xt μ = c μ fun b μ' => if b = true then u E Xt μ' else w E Xt μ' := propext Iff.rfl
theorem xIx (u : U2) (ux : UX) (ub : UE) (μ : Mu) (Q : R → Mu → Prop) (Xt : Xw) : Y.xIx u ux ub μ Q Xt = ux μ (fun r1 μ1 => ub μ1 fun r2 μ2 => u r1.d r2.d μ2 Q) Xt := propext Iff.rfl
theorem xFn (md : List Bool) (tsp : TSx) (us : UA) (μ : Mu) (Q : R → Mu → Prop) (Xt : Xw) : Y.xFn md tsp us μ Q Xt = us μ fun rs μ1 => match agT μ1 md rs with
  | some args => (bxS md rs).Nodup ∧ (∀ j ∈ bxS md rs, j ∉ roS md rs) ∧ tsp args (fun r outs => (roS md rs = [] ∨ (flatR r = true ∧ outs.all flatC = true)) ∧ Q r (putAll (bxS md rs) outs μ1)) (fun cls => Xt cls μ1)
  | none => False := propext Iff.rfl
theorem xRaise (C : Addr) (us : UA) (E : Ed) (Xt : Xw) (μ : Mu) : Y.xRaise C us E Xt μ = us μ fun rs μ' => rs.length ≤ 10 ∧ Xt (.exc (.ref C) none) μ' := propext Iff.rfl
end A
theorem seqX {u w : UXS} {E : Ed} {Xt : Xw} {μ : Mu} (h : ∀ N, N = w E Xt → u { E with nx := N } Xt μ) : Y.xSeq u w E Xt μ := h _ rfl
end L2

set_option linter.all false
set_option maxRecDepth 100000
set_option maxHeartbeats 4000000
namespace L2
open PySem PySem.Spec PyProof PyProof.Rows
namespace Y
end Y
namespace A
end A
end L2

set_option linter.all false
set_option maxRecDepth 100000
set_option maxHeartbeats 4000000
namespace L2
open PySem PySem.Spec PyProof PyProof.Rows
section
variable {X : Cx} {pins : List (Addr × Obj)} {σ : St} {H : Hp} {s : Shared} {B : AP'}
end
namespace Y
end Y
end L2

set_option linter.all false
set_option maxRecDepth 100000
set_option maxHeartbeats 4000000
namespace L2
open PySem PySem.Spec PyProof PyProof.Rows
namespace Y
end Y
end L2

set_option linter.all false
set_option maxRecDepth 100000
set_option maxHeartbeats 4000000
namespace L2
open PySem PySem.Spec PyProof PyProof.Rows
namespace Y
end Y
namespace A
end A
end L2

set_option linter.all false
set_option maxRecDepth 100000
set_option maxHeartbeats 4000000
namespace L2
open PySem PySem.Spec PyProof PyProof.Rows
namespace Y
end Y
namespace A
end A
end L2

set_option linter.all false
set_option maxRecDepth 100000
set_option maxHeartbeats 4000000
namespace L2
open PySem PySem.Spec PyProof PyProof.Rows
/-- an exception class of the text: how its instances are read -/
structure XKin (K : PySem.W.Frag) (C : Addr) : Prop where
  ga : PySem.W.findIn K (.ref C) "__getattribute__" = some (some (.builtin "BaseException.__getattribute__"))
  gt : PySem.W.findIn K (.ref C) "__getattr__" = some none
  ck : PySem.W.findIn K (.ref C) "__class__" = some (some (.builtin "object.__class__"))
  sp : PySem.W.specialIn K (.builtin "object.__class__") "__get__" = some (some (.builtin "getset_descriptor.__get__"))
  tk : PySem.W.takesIn K (.builtin "object.__class__") = some true
  mo : PySem.W.mroIn K C (.type "object") = some true
  mb : PySem.W.mroIn K C (.type "BaseException") = some true
section
variable {prog : Program} {w : World} {A : Around} {E : Value → Shared → Prop} {s : Shared} {K : PySem.W.Frag} {x C : Addr} {ox : Obj}
theorem exc_entry {tk : Tok} {Q : Fin → Shared → Prop} (KX : XKin K C) (X : K.In s.heap) (I : PySem.W.InstAt s.heap x ox C none) (h : Q (.done (.ret (.ref C))) s) : wpAny (model prog w) A (Builtin.«object.__getattribute__» ⟨[.ref x, .str "__class__" tk], []⟩) Q E s := by
  obtain ⟨cd, hcd⟩ : ∃ cd, PySem.W.clsIn K C = some cd := by
    have := KX.mo
    unfold PySem.W.mroIn at this
    cases q : PySem.W.clsIn K C with
    | none => rw [q] at this; cases this
    | some cd => exact ⟨cd, rfl⟩
  have hf : PySem.W.findObj K C none "__class__" = some (.bind (.builtin "getset_descriptor.__get__") (.builtin "object.__class__")) := by
    unfold PySem.W.findObj
    rw [hcd, Option.bind_some, KX.ck, Option.bind_some]
    simp [KX.sp, KX.tk]
  have L0 := I.type (M := model prog w)
  have L1 := PySem.W.looks_find (M := model prog w) X I hf
  obtain ⟨hh, g, d, t, os⟩ := s
  unfold Builtin.«object.__getattribute__»
  repeat (any_goals (first | assumption | with_reducible refine wpAny_bind (L0.at ?_) | with_reducible refine wpAny_bind (L1.at ?_) | wp_step))
  exact PySem.W.class_get X I KX.mo (wpAny_pure h)
theorem exc_class {Q : Option Value → Shared → Prop} (KX : XKin K C) (X : K.In s.heap) (I : PySem.W.InstAt s.heap x ox C none) (h : Q (some (.ref C)) { s with toks := s.toks + 1 }) : wpAny (model prog w) A (getAttr? (.ref x) "__class__") Q E s := by
  have L0 := I.type (M := model prog w)
  have L1 := PySem.W.looks_findIn (M := model prog w) X KX.ga
  have L2 := PySem.W.looks_findIn (M := model prog w) X KX.gt
  have LB : PySem.W.Looks (model prog w) s.heap (isInstance (.ref x) (.type "BaseException")) true := L0.andThen (PySem.W.looks_mroIn (M := model prog w) X KX.mb)
  have fb := PySem.F.attr_ValueError.ga.bind (.ref x)
  have n1 : (onTheHeap (Value.ref C) && Value.builtin "BaseException.__getattribute__" == Value.builtin "object.__getattribute__") = false := by
    rw [show (Value.builtin "BaseException.__getattribute__" == Value.builtin "object.__getattribute__") = false from by decide +kernel]; rfl
  obtain ⟨hh, g, d, t, os⟩ := s
  unfold getAttr? getAttrBy? getAttrBy
  refine wpAny_bind (wpAny_mkText (wpAny_bind (wpAny_attempt (wpAny_holding (wpAny_bind (L0.at (wpAny_bind (L1.at ?_))))))))
  dsimp only
  rw [if_neg (by rw [n1]; decide)]
  unfold getAttrByItsOwn hookBefore
  rw [if_pos (show onTheHeap (Value.ref C) = true from rfl)]
  refine wpAny_bind (L2.at (wpAny_bind (wpAny_attempt (wpAny_holding ?_))))
  unfold callGetattribute boundAndCalled
  rw [if_neg (by decide), fb]
  refine wpAny_bind (wpAny_pure (wpAny_call ?_))
  refine codeAny_call_builtin PySem.F.attr_ValueError.ga.plain PySem.F.entry_bexc_ga ?_
  have hk : builtinKind "BaseException.__getattribute__" = some .slot := by decide +kernel
  have hsp : splitId "BaseException.__getattribute__" = some ("BaseException", "__getattribute__") := by decide +kernel
  have ha := PySem.F.args_bexc_ga (.ref x) (.str "__class__" t)
  simp only [checkBuiltinCall, hk, hsp]
  show wpAny _ _ (isInstance (.ref x) (.type "BaseException") >>= _) _ _ _
  refine wpAny_bind (LB.at ?_)
  rw [if_neg (by decide)]
  unfold argsOk at ha
  cases q : Manifest.signature? "BaseException.__getattribute__" with
  | none =>
    refine wpAny_pure (exc_entry (s := ⟨hh, g, d, t + 1, os⟩) KX X I ?_)
    exact wpAny_pure (wpAny_pure h)
  | some sg =>
    rw [q] at ha
    have ha' : Bind.checkArgs "BaseException.__getattribute__" sg ⟨[.ref x, .str "__class__" t], []⟩ = pure () := ha
    show wpAny _ _ (Bind.checkArgs "BaseException.__getattribute__" sg ⟨[.ref x, .str "__class__" t], []⟩) _ _ _
    rw [ha']
    refine wpAny_pure (exc_entry (s := ⟨hh, g, d, t + 1, os⟩) KX X I ?_)
    exact wpAny_pure (wpAny_pure h)
end
theorem isX.inst {h : Heap} {x C : Addr} (p : isX x (.ref C) none h) : ∃ ox, PySem.W.InstAt h x ox C none := by
  obtain ⟨o, vs, h1, h2, h3, h4⟩ := p
  refine ⟨o, h1, h2, by unfold PySem.W.notCls; rw [h4], ?_⟩
  rw [h3]
  trivial
theorem cls_of_mro {K : PySem.W.Frag} {C : Addr} {v : Value} {b : Bool} (e : PySem.W.mroIn K C v = some b) : ∃ c d cd sl, K.lookup C = some ⟨c, d, .cls cd, sl⟩ := by
  unfold PySem.W.mroIn PySem.W.clsIn at e
  split at e
  · rename_i c d cd sl q; exact ⟨c, d, cd, sl, q⟩
  · cases e
theorem kitx_exc {K : PySem.W.Frag} {x C : Addr} (KX : XKin K C) : PySem.W.KitX K (.ref x) (.ref C) (isX x (.ref C) none) where
  ty := fun M h _ p => by
    obtain ⟨o, I⟩ := p.inst
    exact I.type
  it := fun M h X _ => by
    obtain ⟨c, d, cd, sl, q⟩ := cls_of_mro KX.mo
    intro A' Q' E' s' k z
    unfold isType loadHead
    exact wpAny_bind (wpAny_loadPart (k _ _ (X _ _ q)) (wpAny_pure z))
  ne := fun h tp dd its n sl X htp => by
    obtain ⟨c, d, cd, sl', q⟩ := cls_of_mro KX.mo
    refine Bool.eq_false_iff.mpr fun z => ?_
    have e : C = tp := Value.ref.inj (beq_iff_eq.mp z)
    subst e
    have := (X _ _ q).symm.trans htp
    cases this
  ca := fun X p k => by
    obtain ⟨o, I⟩ := p.inst
    exact exc_class KX X I k
noncomputable def TyX (K : PySem.W.Frag) (H : Hp) (x : V) (t : Value) : Prop := (x = .non ∧ t = .type "NoneType") ∨ ∃ a C, x = .ref a ∧ t = .ref C ∧ H a = some (.ext (isX a (.ref C) none)) ∧ XKin K C
noncomputable def rIsi1 (K : PySem.W.Frag) (y : V) (c : Value) : List V → Hp → VK → Prop := fun xs H Q => ∃ x t b, xs = [x, y] ∧ TyX K H x t ∧ PySem.W.kitOne K t c = some b ∧ Q (.bl b) H
noncomputable def rIsiN (K : PySem.W.Frag) (ds : List Addr) : List V → Hp → VK → Prop := fun xs H Q => ∃ x t b p, xs = [x, .ref p] ∧ H p = some (.tup (ds.map V.ref)) ∧ TyX K H x t ∧ PySem.W.kitAny K t (ds.map Value.ref) = some b ∧ Q (.bl b) H
theorem vals_refs : ∀ {ds : List Addr} {us : List Value}, Vals (ds.map V.ref) us → us = ds.map Value.ref
  | [], _, .nil => rfl
  | d :: ds, u :: us, .cons h r => by
    have h' : u = Value.ref d := h
    rw [h', vals_refs r]; rfl
section
variable {X : Cx}
theorem call_isi1 {y : V} {c : Value} (hy : ∀ u, RelV y u → u = c) : CallR X (.builtin "isinstance") (rIsi1 X.K y c) := by
  rintro pins s σ H xs us Q I r ⟨x, t, b, rfl, ty, e, q⟩
  obtain ⟨u, w', rfl, r1, r2⟩ := vals2 r
  cases hy _ r2
  rcases ty with ⟨rfl, rfl⟩ | ⟨a, C, rfl, rfl, ha, KX⟩
  · cases (show u = Value.none from r1)
    exact PySem.W.kia_one PySem.W.kitx_none I.kIn True.intro e (fun z => nomatch z) fun tk => ⟨.bl b, H, I.tok _, rfl, q⟩
  · cases (show u = Value.ref a from r1)
    exact PySem.W.kia_one (kitx_exc KX) I.kIn (show isX a (.ref C) none s.heap from (I.hok _ _ ha).1) e (fun z => nomatch z) fun tk => ⟨.bl b, H, I.tok _, rfl, q⟩
theorem call_isiN {ds : List Addr} : CallR X (.builtin "isinstance") (rIsiN X.K ds) := by
  rintro pins s σ H xs us Q I r ⟨x, t, b, p, rfl, hp, ty, e, q⟩
  obtain ⟨u, w', rfl, r1, r2⟩ := vals2 r
  cases (show w' = Value.ref p from r2)
  obtain ⟨_, its, hv, ⟨⟨oc, od, oda, osl⟩, h1, h2, n, h3⟩⟩ := (show ObjOk X.prog X.w H s.heap p (.tup (ds.map V.ref)) from I.hok _ _ hp)
  cases h2
  cases h3
  cases vals_refs hv
  rcases ty with ⟨rfl, rfl⟩ | ⟨a, C, rfl, rfl, ha, KX⟩
  · cases (show u = Value.none from r1)
    exact PySem.W.kia_tup PySem.W.kitx_none I.kIn True.intro h1 e (fun z => nomatch z) fun tk => ⟨.bl b, H, I.tok _, rfl, q⟩
  · cases (show u = Value.ref a from r1)
    exact PySem.W.kia_tup (kitx_exc KX) I.kIn (show isX a (.ref C) none s.heap from (I.hok _ _ ha).1) h1 e (fun z => nomatch z) fun tk => ⟨.bl b, H, I.tok _, rfl, q⟩
end
namespace Y
/-- the class of None, of an exception -/
noncomputable def ansX (K : PySem.W.Frag) (ans : Value → Option Bool) (t : T) (Q : Bool → Prop) : Prop := match t with
  | .non => (match ans (.type "NoneType") with | some b => Q b | none => False)
  | .exc c none => (∃ C, c = .ref C ∧ XKin K C) ∧ (match ans c with | some b => Q b | none => False)
  | _ => False
noncomputable def uIsiK (K : PySem.W.Frag) (ans : Value → Option Bool) (ue : UE) : UE := fun μ Q => ue μ fun r μ' => match r with
  | .tr t => ansX K ans t fun b => Q (.tr (.bl b)) μ'
  | _ => False
theorem ans_ty {K : PySem.W.Frag} {ans : Value → Option Bool} {H : Hp} {B : AP'} {v : V} {t : T} {Q : Bool → Prop} (h : Rep K H B v t) (q : ansX K ans t Q) : ∃ c b, TyX K H v c ∧ ans c = some b ∧ Q b := by
  unfold ansX at q
  split at q
  · cases h
    split at q
    · rename_i b e; exact ⟨_, b, .inl ⟨rfl, rfl⟩, e, q⟩
    · exact q.elim
  · obtain ⟨⟨C, rfl, KX⟩, q⟩ := q
    cases h with
    | exc n h =>
      split at q
      · rename_i b e; exact ⟨_, b, .inr ⟨_, C, rfl, rfl, h, KX⟩, e, q⟩
      · exact q.elim
  · exact q.elim
section
variable {X : Cx} {a : Expr} {es : List Expr} {ua : UE} {pos p p3 : Pos} {x : Str}
theorem isi1 {y : V} {c : Value} {tc : Expr} (K : PySem.W.Frag) (hK : X.K = K) (hg : Gl X "isinstance") (hm : X.mg "isinstance" = none) (ha : YE X a ua) (hc : QE X tc (tC y)) (hy : ∀ u, RelV y u → u = c) (h1 : autoParam (nst a = true) L2.aRfl._auto_1) (h2 : autoParam (nst tc = true) L2.aRfl._auto_1) :
    YE X (.Call (.Name "isinstance" p) [a, tc] [] pos) (uIsiK K (fun t => PySem.W.kitOne K t c) ua) := by
  obtain ⟨t, q, r⟩ := ha
  subst hK
  refine ⟨_, Z.cb (call_isi1 hy) hg hm PyProof.Rows.boot_isinstance (Z.cons q (Z.cons hc Z.nil h2) h1) h1 (by simp [h2]), fun F ad B σ H μ Q Qt hF l q k => r F ad B σ H μ _ _ hF l q fun v H' r1 μ' v1 f k1 q1 => ?_⟩
  cases r1 with
  | tr t =>
    have hr : Rep X.K H' B v t := by rw [← hF]; exact v1.2
    obtain ⟨c', b, ty, e, q2⟩ := ans_ty hr q1
    exact ⟨v, c', b, rfl, ty, e, k _ H' (.tr (.bl b)) μ' (Vr.flat v1.rl (.bl _)) f.d k1 q2⟩
  | fr c => exact q1.elim
  | br j => exact q1.elim
theorem isiN {ds : List Addr} {n : Nat} {t : TA} (K : PySem.W.Frag) (hK : X.K = K) (hg : Gl X "isinstance") (hm : X.mg "isinstance" = none) (ha : YE X a ua) (hq : QA X es t) (ht : ∀ σ H Q, Q (ds.map V.ref) H → t σ H Q) (hd : ds.length ≤ 100) (h1 : autoParam (nst a = true) L2.aRfl._auto_1) :
    YE X (.Call (.Name "isinstance" p) [a, .Tuple es n p3] [] pos) (uIsiK K (fun t => PySem.W.kitAny K t (ds.map Value.ref)) ua) := by
  obtain ⟨t', q, r⟩ := ha
  subst hK
  refine ⟨_, Z.cb (call_isiN (ds := ds)) hg hm PyProof.Rows.boot_isinstance (Z.cons q (Z.cons (Z.tup hq) Z.nil) h1) h1 rfl, fun F ad B σ H μ Q Qt hF l q k => r F ad B σ H μ _ _ hF l q fun v H' r1 μ' v1 f k1 q1 => ?_⟩
  refine ht _ _ _ ⟨by rw [List.length_map]; exact Nat.le_trans hd (by decide), fun pp hp => ?_⟩
  cases r1 with
  | tr t =>
    have hr : Rep X.K H' B v t := by rw [← hF]; exact v1.2
    obtain ⟨c', b, ty, e, q2⟩ := ans_ty hr q1
    have sm : Same H' (upd H' pp (.tup (ds.map V.ref))) := Same.new hp
    have ty' : TyX X.K (upd H' pp (.tup (ds.map V.ref))) v c' := by
      rcases ty with z | ⟨a, C, z1, z2, z3, z4⟩
      · exact .inl z
      · exact .inr ⟨a, C, z1, z2, sm _ _ z3, z4⟩
    exact ⟨v, c', b, pp, rfl, upd_same, ty', e, k _ _ (.tr (.bl b)) μ' (Vr.flat (v1.rl.same sm) (.bl _)) (f.d.trans (Fr.same sm)) k1 q2⟩
  | fr c => exact q1.elim
  | br j => exact q1.elim
end
end Y
end L2

set_option linter.all false
set_option maxRecDepth 100000
set_option maxHeartbeats 4000000
namespace L2
open PySem PySem.Spec PyProof PyProof.Rows
section
variable {X : Cx} {pins : List (Addr × Obj)} {σ : St} {H : Hp} {s : Shared}
/-- behind a suite its name is gone -/
theorem name_goes {M : Model} {A : Around} {E : Value → Shared → Prop} {i : Nat} {x : Str} {pos : Pos} {Q : Unit → Shared → Prop} (I : Inv X pins σ H s) (hN : X.N.Nodup) (hi : X.N[i]? = some x) (hk : X.env.kindOf x = some .local)
    (hq : ∀ s', Inv X pins (σ.set i none) H s' → Q () s') : wpAny M A (do bindName X.env x .none; unbindBehindTheSuite X.env x pos) Q E s := by
  obtain ⟨m, hn, hl⟩ := id I.loc
  have hcls : (X.env.scope.kind == .class || (X.env.scope.kind == .module && X.env.locals != X.env.globals)) = false := by rw [I.ok.kind]; rfl
  have cne := I.cne
  refine wpAny_nameGoes_keeps hk hn hcls fun h' v hn' hs => hq _ ?_
  have keep : ∀ b o, b ≠ X.env.locals → s.heap.get? b = some o → h'.get? b = some o := fun b o n q => (hs.2 b n).trans q
  have neL : ∀ b o, X.s₀.heap.get? b = some o → b ≠ X.env.locals := fun b o e => Nat.ne_of_lt (Nat.lt_of_lt_of_le (Heap.lt_size e) I.ok.above)
  refine ⟨I.ok, I.os, I.bare, ⟨fun b o e n hb hx => keep b o (neL b o e) (I.base.keep b o e n hb hx), fun b o e n hb hx => ?_, I.base.free, fun b o e hx => ?_, I.base.tups, I.base.frzs, I.base.tbls⟩, ⟨_, hn', fun j y v' e1 e2 e3 => ?_⟩, fun y c e => ?_, I.free, I.freeC, fun p hp => ?_, fun b ob e => ?_, by simpa using I.len⟩
  · obtain ⟨sl, e1⟩ := I.base.slot b o e n hb hx
    exact ⟨sl, keep b _ (neL b o e) e1⟩
  · obtain ⟨o', e1⟩ := I.base.there b o e hx
    exact ⟨o', keep b _ (neL b o e) e1⟩
  · by_cases hj : j = i
    · subst hj
      have : j < σ.length := by rw [I.len]; exact (List.getElem?_eq_some_iff.mp hi).1
      rw [List.getElem?_set_self this] at e2
      cases e2
    · rw [List.getElem?_set_ne (Ne.symm hj)] at e2
      obtain ⟨u', r', q⟩ := hl j y v' e1 e2 e3
      refine ⟨u', r', ?_⟩
      rcases q with ⟨k, e⟩ | ⟨k, c, e, z⟩
      · refine .inl ⟨k, ?_⟩
        have : y ≠ x := fun e => hj (nodup_ix hN e1 (e ▸ hi))
        simp [this, e]
      · exact .inr ⟨k, c, e, z.sameBut hs (cne y c e)⟩
  · obtain ⟨w', z⟩ := I.cell y c e
    exact ⟨w', z.sameBut hs (cne y c e)⟩
  · obtain ⟨e, n, ne, nf, d⟩ := I.pin p hp
    exact ⟨keep _ _ ne e, n, ne, nf, d⟩
  · refine (I.hok b ob e).stay (fun c w' hc q => keep c w' ?_ q) (fun _ q => q) fun _ _ q => q
    rintro rfl
    rcases hc with rfl | hc
    · rw [I.free] at e; cases e
    · rw [I.free] at hc; cases hc
end
/-- an exception of class C is met by D -/
theorem exc_meets {M : Model} {A : Around} {E : Value → Shared → Prop} {h : Heap} {g : Array GenState} {d : Drawn} {t : Nat} {os : OsState} {K : PySem.W.Frag} {e C D : Addr} {d0 : Option Addr} {Q : Bool → Shared → Prop} (kin : K.In h) (hC : XCls K C) (hD : XCls K D) (he : isX e (.ref C) d0 h) (hs : PySem.W.mroIn K C (.ref D) = some true)
    (hq : Q true ⟨h, g, d, t, os⟩) : wpAny M A (excMatches (.ref e) (.ref D)) Q E ⟨h, g, d, t, os⟩ := by
  obtain ⟨bm, N, nm, qn, bs, hd, sn, sub, ab, col, dd, k0, k1, k2, k3, k5, lk, tl, _, _⟩ := hC.obj
  obtain ⟨bm', N', nm', qn', bs', hd', sn', sub', ab', col', dd', k0', k1', k2', k3', k5', lk', tl', _, _⟩ := hD.obj
  have gC := kin _ _ lk
  have gD := kin _ _ lk'
  obtain ⟨oe, vs, h1, h2, _, _⟩ := he
  have c1 : (Value.ref D :: bm').contains (.type "BaseException") = true := by rw [List.contains_cons, (tl' _ kin).hasType PySem.F.excBase_ValueError.hasBase, Bool.or_true]
  have c2 : (Value.ref C :: bm).contains (.ref D) = true := by
    unfold PySem.W.mroIn PySem.W.clsIn at hs
    rw [lk] at hs
    simp only [excClassObj, Option.bind_some] at hs
    split at hs
    · cases hs
    · exact Option.some.inj hs
  have f := tc_notTuple
  unfold excMatches
  repeat (first | (with_reducible refine wpAny_loadPart_at h1 ?_; rw [h2]) | with_reducible refine wpAny_loadPart_at gD ?_ | (with_reducible refine wpAny_isSubtype_exc gD ?_; rw [c1]) | (with_reducible refine wpAny_isSubtype_exc gC ?_; rw [c2]) | wp_step)
  exact hq
/-- a name is taken away -/
theorem Rl.unset {F : Fx} {ad : Nat → Addr} {B : AP'} {σ : St} {H : Hp} {μ : Mu} {i : Nat} (l : Rl F ad B σ H μ) (hp : ∀ c, μ[i]? ≠ some (.pb c)) : Rl F ad B (σ.set i none) H (μ.set i .un) := by
  have get : ∀ (j : Nat) (s' : Sl), (μ.set i .un)[j]? = some s' → (j = i ∧ s' = .un) ∨ (j ≠ i ∧ μ[j]? = some s') := fun j s' e => by
    by_cases z : i = j
    · subst z
      rw [List.getElem?_set] at e
      by_cases hi : i < μ.length
      · simp [hi] at e; exact .inl ⟨rfl, e.symm⟩
      · simp [hi] at e
    · rw [List.getElem?_set_ne z] at e
      exact .inr ⟨fun q => z q.symm, e⟩
  have back : ∀ (j : Nat) (c : T), μ[j]? = some (.pb c) → (μ.set i .un)[j]? = some (.pb c) := fun j c e => by
    rw [List.getElem?_set_ne (fun z => hp c (by rw [z]; exact e))]; exact e
  refine ⟨by rw [List.length_set, List.length_set]; exact l.len, fun j s' e => ?_, fun j k s1 s2 c1 c2 e1 e2 b1 b2 q => ?_, fun j a p => ?_, l.bc, l.trk, l.old, fun a ws ga => ?_⟩
  · rcases get j s' e with ⟨_, rfl⟩ | ⟨z, e⟩
    · trivial
    · rw [List.getElem?_set_ne (Ne.symm z)]
      exact l.slot j s' e
  · rcases get j s1 e1 with ⟨_, rfl⟩ | ⟨_, e1⟩
    · cases b1
    · rcases get k s2 e2 with ⟨_, rfl⟩ | ⟨_, e2⟩
      · cases b2
      · exact l.inj j k _ _ _ _ e1 e2 b1 b2 q
  · obtain ⟨⟨d, hd⟩, ha⟩ := l.par j a p
    exact ⟨⟨d, back j d hd⟩, ha⟩
  · obtain ⟨g1, g2, g3⟩ := l.gh a ws ga
    refine ⟨g1, g2, fun j s' d e b' => ?_⟩
    rcases get j s' e with ⟨_, rfl⟩ | ⟨_, e⟩
    · cases b'
    · exact g3 j s' d e b'
namespace Y
/-- try .. except D as n: suite (the suite is walked to its end) -/
noncomputable def xTryAs (K : PySem.W.Frag) (ub : UXS) (D : Addr) (i : Nat) (uh : US) : UXS := fun E _ μ => ub E (fun x μ' => (∃ C, x = .exc (.ref C) none ∧ XCls K C ∧ PySem.W.mroIn K C (.ref D) = some true) ∧ noP μ' i ∧ uh { nx := fun μ2 => noP μ2 i ∧ E.nx (μ2.set i .un), rt := fun _ _ => False } (μ'.set i (.tr x))) μ
theorem xtryAs {X : Cx} {body suite : List Stmt} {b0 : Stmt} {x nm : Str} {DA : Addr} {i : Nat} {np hpos pos : Pos} {ub : UXS} {uh : US} (K : PySem.W.Frag) (hK : X.K = K) (hg : Gl X x) (hm : X.mg x = some (.ref DA)) (hkD : XCls X.K DA) (hc : X.calm = true) (hex : X.ex = []) (hst : X.stack = X.env :: X.outer) (hfm : X.env.frame = some X.env.locals)
    (hN : X.N.Nodup) (hi : X.N[i]? = some nm) (hx : X.env.scope.names.lookup nm = some .local)
    (hb : ∀ pins E, YXB (tryX X pins E) body ub) (hh : ∀ e, YB (hdX X e) (b0 :: suite) uh) (hdb : autoParam ((x == ("__debug__" : Str)) = false) L2.aDec._auto_1) :
    YXS X (.Try body [.ExceptHandler (some (.Name x np)) (some nm) (b0 :: suite) hpos] [] [] pos) (xTryAs K ub DA i uh) := by
  subst hK
  have hkl : X.env.kindOf nm = some .local := hx
  refine ⟨fun D σ H => ∀ pins s, Inv X pins σ H s → wpAny (model X.prog X.w) X.A (exec (.Try body [.ExceptHandler (some (.Name x np)) (some nm) (b0 :: suite) hpos] [] [] pos) X.env) (SP X pins D) X.xe s, ⟨fun pins s σ H D I h => h pins s I⟩, ?_⟩
  intro F D E Xt ad B σ H μ hF l q hE hX pins s I
  have hh0 : X.A.handled = none := I.ok.hd hc
  refine wpAny_Try_except ?_
  obtain ⟨t, qb, rb⟩ := hb pins (fun y s1 => wpAny (model X.prog X.w) X.A (noteFrame y X.env) (fun _ s2 => wpAny (model X.prog X.w) X.A (setFlight y none) (fun _ s3 => wpAny (model X.prog X.w) X.A (handleBy y X.env [.ExceptHandler (some (.Name x np)) (some nm) (b0 :: suite) hpos]) (SP X pins D) X.xe s3) X.xe s2) X.xe s1)
  refine wpAny_mono (qb.h [] s σ H D I.toTry (rb F D E _ ad B σ H μ hF l q hE ?_)) (fun f s1 h1 => ?_) (fun y s1 h1 => h1)
  · rintro ad' B' σ' H' μ' x0 cls d e l' f' ⟨tr, hx0⟩ nB _ ⟨⟨C, rfl, hkC, hsub⟩, hp, hu⟩
    obtain ⟨rfl, rfl⟩ := (show Value.ref C = cls ∧ d = none from hx0)
    intro pins' s' To I' fl nw
    have hex' : (tryX X pins (fun y s1 => wpAny (model X.prog X.w) X.A (noteFrame y X.env) (fun _ s2 => wpAny (model X.prog X.w) X.A (setFlight y none) (fun _ s3 => wpAny (model X.prog X.w) X.A (handleBy y X.env [.ExceptHandler (some (.Name x np)) (some nm) (b0 :: suite) hpos]) (SP X pins D) X.xe s3) X.xe s2) X.xe s1)).ex = [] := hex
    have hfr : X.A.frames = some (X.env :: X.outer) := by rw [← hst]; exact I.ok.frames
    have hstk := I'.stack
    have hstk2 : s'.heap.FunFrames X.base (X.env :: X.outer) := by rw [← hst]; exact hstk
    refine fl_lands hfr hfm hstk2 fl fun h2 T2 mv f2 => ?_
    rw [← hst] at mv
    obtain ⟨I2, nw2⟩ := I'.moved hex' fl nw mv f2
    have J2 : Inv (hdX X e) pins σ' H' { s' with heap := h2 } := I2.ofTry.toHd
    refine wpAny_handleBy_cons (codeAny_handlers_test (ld_glob J2 hg hm ?_ hdb)) (by intro z; cases z)
    refine exc_meets J2.kIn hkC hkD f2.is hsub (codeAny_handlers_suite_as ?_)
    refine fl_again (base := X.base) (l := X.stack) (s := { s' with heap := h2 }) I2.stack f2 fun h3 T3 mv3 f3 => ?_
    obtain ⟨I3, nw3⟩ := I2.moved (h' := h3) hex' f2 nw2 mv3 f3
    obtain ⟨th, qh, rh⟩ := hh e
    have J3 : Inv (hdX X e) pins σ' H' { s' with heap := h3 } := I3.ofTry.toHd
    refine store_ok (X := hdX X e) (v := .ref e) J3 hN hi (.inl hx) rfl (fun s4 I4 => ?_) (.inr hx)
    have l4 : Rl F ad' B' (σ'.set i (some (.ref e))) H' (μ'.set i (.tr (.exc (.ref C) none))) := l'.setT (noP_ne hp) (.exc nB tr)
    refine wpAny_mono (qh.h pins _ _ H' { nx := fun σ1 H1 => D.nx (σ1.set i none) H1, rt := fun _ _ => False } I4 (rh F _ { nx := fun μ2 => noP μ2 i ∧ E.nx (μ2.set i .un), rt := fun _ _ => False } ad' B' _ H' _ hF l4 hu ⟨fun ad1 B1 σ1 H1 μ1 l1 f1 q1 => ?_, fun _ _ _ _ _ _ _ _ z => z.elim, fun _ _ _ _ _ _ _ z => z.elim, fun _ _ _ _ _ _ _ z => z.elim⟩)) (fun f s5 h5 => ?_) (fun _ _ z => z.elim)
    · exact hE.nx ad1 B1 _ H1 _ (l1.unset (noP_ne q1.1)) (f'.trans f1) q1.2
    · have h6 := SP.ofHd hh0 hc h5
      cases f with
      | next =>
        obtain ⟨σ1, H1, I6, q6⟩ := h6
        exact name_goes I6 hN hi hkl fun s7 I7 => ⟨_, H1, I7, q6⟩
      | brk => obtain ⟨_, _, _, z⟩ := h6; exact z.elim
      | cont => obtain ⟨_, _, _, z⟩ := h6; exact z.elim
      | ret u => obtain ⟨_, _, _, _, _, z⟩ := h6; exact z.elim
  · have h2 := SP.ofTry h1
    cases f with
    | next => exact wpAny_pure h2
    | brk => exact h2
    | cont => exact h2
    | ret u => exact h2
end Y
namespace A
theorem uIsiK (K : PySem.W.Frag) (ans : Value → Option Bool) (ue : UE) (μ : Mu) (Q : R → Mu → Prop) : Y.uIsiK K ans ue μ Q = ue μ fun r μ' => match r with
  | .tr t => Y.ansX K ans t fun b => Q (.tr (.bl b)) μ'
  | _ => False := propext Iff.rfl
theorem ansN (K : PySem.W.Frag) (ans : Value → Option Bool) (Q : Bool → Prop) : Y.ansX K ans .non Q = (match ans (.type "NoneType") with | some b => Q b | none => False) := propext Iff.rfl
theorem ansE (K : PySem.W.Frag) (ans : Value → Option Bool) (c : Value) (Q : Bool → Prop) : Y.ansX K ans (.exc c none) Q = ((∃ C, c = .ref C ∧ XKin K C) ∧ (match ans c with | some b => Q b | none => False)) := propext Iff.rfl
theorem xTryAs (K : PySem.W.Frag) (ub : UXS) (D : Addr) (i : Nat) (uh : US) (E : Ed) (Xt : Xw) (μ : Mu) : Y.xTryAs K ub D i uh E Xt μ = ub E (fun x μ' => (∃ C, x = .exc (.ref C) none ∧ XCls K C ∧ PySem.W.mroIn K C (.ref D) = some true) ∧ Y.noP μ' i ∧ uh { nx := fun μ2 => Y.noP μ2 i ∧ E.nx (μ2.set i .un), rt := fun _ _ => False } (μ'.set i (.tr x))) μ := propext Iff.rfl
end A
end L2

namespace G
open PySem L2 PySem.Spec PyProof.Rows
noncomputable def top (i : Nat) : Stmt := PySem.Challenge.pw_shortrows_k24_reach_or_not.main.body.getD i (.Pass ⟨0, 0, 0, 0⟩)
noncomputable abbrev s_least_widths : Stmt := top 13
theorem sc_least_widths : FnScope ["sizes", "goals"] ["sizes", "goals"] (defScope s_least_widths) := ⟨rfl, rfl, rfl, by decide +kernel, rfl, by decide +kernel, by decide +kernel⟩
noncomputable abbrev s_widths_paper : Stmt := top 14
theorem sc_widths_paper : FnScope ["sizes", "goals"] ["sizes", "goals"] (defScope s_widths_paper) := ⟨rfl, rfl, rfl, by decide +kernel, rfl, by decide +kernel, by decide +kernel⟩
noncomputable abbrev s_raised_till_good : Stmt := top 15
theorem sc_raised_till_good : FnScope ["sizes", "goals", "widths", "paper", "row"] ["sizes", "goals"] (defScope s_raised_till_good) := ⟨rfl, rfl, rfl, by decide +kernel, rfl, by decide +kernel, by decide +kernel⟩
noncomputable abbrev s_narrowest : Stmt := top 16
theorem sc_narrowest : FnScope ["goals"] ["goals"] (defScope s_narrowest) := ⟨rfl, rfl, rfl, by decide +kernel, rfl, by decide +kernel, by decide +kernel⟩
noncomputable abbrev s_first_too_narrow : Stmt := top 17
theorem sc_first_too_narrow : FnScope ["sizes", "goals", "widths", "starts", "row", "goal"] ["sizes", "goals", "widths"] (defScope s_first_too_narrow) := ⟨rfl, rfl, rfl, by decide +kernel, rfl, by decide +kernel, by decide +kernel⟩
noncomputable abbrev s_fits : Stmt := top 18
theorem sc_fits : FnScope ["starts", "goals", "widths", "row", "half"] ["starts", "goals", "widths", "row"] (defScope s_fits) := ⟨rfl, rfl, rfl, by decide +kernel, rfl, by decide +kernel, by decide +kernel⟩
noncomputable abbrev s_distance_of : Stmt := top 19
theorem sc_distance_of : FnScope ["starts", "goals", "row"] ["starts", "goals", "row"] (defScope s_distance_of) := ⟨rfl, rfl, rfl, by decide +kernel, rfl, by decide +kernel, by decide +kernel⟩
noncomputable abbrev s_row_starts : Stmt := top 20
theorem sc_row_starts : FnScope ["sizes", "widths", "starts", "size", "width"] ["sizes", "widths"] (defScope s_row_starts) := ⟨rfl, rfl, rfl, by decide +kernel, rfl, by decide +kernel, by decide +kernel⟩
noncomputable abbrev s_own_part : Stmt := top 21
theorem sc_own_part : FnScope ["width"] ["width"] (defScope s_own_part) := ⟨rfl, rfl, rfl, by decide +kernel, rfl, by decide +kernel, by decide +kernel⟩
noncomputable abbrev s__law_folded : Stmt := top 23
theorem sc__law_folded : FnScope ["script", "found", "cell"] ["script"] (defScope s__law_folded) := ⟨rfl, rfl, rfl, by decide +kernel, rfl, by decide +kernel, by decide +kernel⟩
noncomputable abbrev s__law_seed : Stmt := top 24
theorem sc__law_seed : FnScope ["cell", "number"] ["cell"] (defScope s__law_seed) := ⟨rfl, rfl, rfl, by decide +kernel, rfl, by decide +kernel, by decide +kernel⟩
noncomputable abbrev s__law_draw : Stmt := top 25
theorem sc__law_draw : FnScope ["seed", "most", "found", "number"] ["seed", "most"] (defScope s__law_draw) := ⟨rfl, rfl, rfl, by decide +kernel, rfl, by decide +kernel, by decide +kernel⟩
noncomputable abbrev s__law_places : Stmt := top 26
theorem sc__law_places : FnScope ["sizes", "widths", "places", "size", "width", "own"] ["sizes", "widths"] (defScope s__law_places) := ⟨rfl, rfl, rfl, by decide +kernel, rfl, by decide +kernel, by decide +kernel⟩
noncomputable abbrev s__law_fits : Stmt := top 27
theorem sc__law_fits : FnScope ["far", "width", "half"] ["far", "width"] (defScope s__law_fits) := ⟨rfl, rfl, rfl, by decide +kernel, rfl, by decide +kernel, by decide +kernel⟩
noncomputable abbrev s__law_far : Stmt := top 28
theorem sc__law_far : FnScope ["sizes", "goals", "widths", "row", "places"] ["sizes", "goals", "widths", "row"] (defScope s__law_far) := ⟨rfl, rfl, rfl, by decide +kernel, rfl, by decide +kernel, by decide +kernel⟩
noncomputable abbrev s__law_size : Stmt := top 30
theorem sc__law_size : FnScope ["seed", "scale"] ["seed", "scale"] (defScope s__law_size) := ⟨rfl, rfl, rfl, by decide +kernel, rfl, by decide +kernel, by decide +kernel⟩
noncomputable abbrev s__law_edged : Stmt := top 31
theorem sc__law_edged : FnScope ["seed", "sizes", "goals", "widths", "rows", "row", "between", "most", "at", "far", "more"] ["seed", "sizes", "goals", "widths"] (defScope s__law_edged) := ⟨rfl, rfl, rfl, by decide +kernel, rfl, by decide +kernel, by decide +kernel⟩
noncomputable abbrev s__law_question : Stmt := top 32
theorem sc__law_question : FnScope ["seed", "most", "many", "scale", "sizes", "goals", "row"] ["seed", "most"] (defScope s__law_question) := ⟨rfl, rfl, rfl, by decide +kernel, rfl, by decide +kernel, by decide +kernel⟩
noncomputable abbrev s__law_widths : Stmt := top 33
theorem sc__law_widths : FnScope ["seed", "goals", "most"] ["seed", "goals", "most"] (defScope s__law_widths) := ⟨rfl, rfl, rfl, by decide +kernel, rfl, by decide +kernel, by decide +kernel⟩
noncomputable abbrev s__law_asked : Stmt := top 34
theorem sc__law_asked : FnScope ["sizes", "goals", "way", "found", "caught", "e", "others"] ["sizes", "goals", "way"] (defScope s__law_asked) := ⟨rfl, rfl, rfl, by decide +kernel, rfl, by decide +kernel, by decide +kernel⟩
noncomputable abbrev s__law_strained : Stmt := top 35
theorem sc__law_strained : FnScope ["sizes", "goals", "widths", "places", "found", "row", "goal", "far"] ["sizes", "goals", "widths"] (defScope s__law_strained) := ⟨rfl, rfl, rfl, by decide +kernel, rfl, by decide +kernel, by decide +kernel⟩
noncomputable abbrev s__law_raised : Stmt := top 36
theorem sc__law_raised : FnScope ["sizes", "goals", "widths", "rows", "row"] ["sizes", "goals"] (defScope s__law_raised) := ⟨rfl, rfl, rfl, by decide +kernel, rfl, by decide +kernel, by decide +kernel⟩
noncomputable abbrev s_law : Stmt := top 37
theorem sc_law : FnScope ["script", "cell", "seed", "sizes", "goals", "due", "first", "way", "found"] ["script"] (defScope s_law) := ⟨rfl, rfl, rfl, by decide +kernel, rfl, by decide +kernel, by decide +kernel⟩
structure Txt (K : PySem.W.Frag) (mg : Str → Option Value) : Prop where
  b_ValueError : mg "ValueError" = none
  b_enumerate : mg "enumerate" = none
  b_int : mg "int" = none
  b_isinstance : mg "isinstance" = none
  b_len : mg "len" = none
  b_list : mg "list" = none
  b_max : mg "max" = none
  b_range : mg "range" = none
  b_tuple : mg "tuple" = none
  b_zip : mg "zip" = none
  c_HALVES : ∃ w u, mg "HALVES" = some u ∧ RelV w u ∧ ∀ H B, Rep K H B w (.ktp [.int 8, .int 128, .int 32768])
  c_HEADS : ∃ w u, mg "HEADS" = some u ∧ RelV w u ∧ ∀ H B, Rep K H B w (.ktp [.str "0", .str "10", .str "11"])
  c_WIDEST : ∃ w u, mg "WIDEST" = some u ∧ RelV w u ∧ ∀ H B, Rep K H B w (.int 2)
  c_WIDTHS : ∃ w u, mg "WIDTHS" = some u ∧ RelV w u ∧ ∀ H B, Rep K H B w (.ktp [.int 4, .int 8, .int 16])
  x_NoReach : ∃ C, mg "NoReach" = some (.ref C) ∧ XCls K C
  xs : ∃ C_ShortError C_NoReach C_NoAsk C_NoBits C_NoCode C_NoProgram C_NoRow : Addr, mg "ShortError" = some (.ref C_ShortError) ∧ mg "NoReach" = some (.ref C_NoReach) ∧ mg "NoAsk" = some (.ref C_NoAsk) ∧ mg "NoBits" = some (.ref C_NoBits) ∧ mg "NoCode" = some (.ref C_NoCode) ∧ mg "NoProgram" = some (.ref C_NoProgram) ∧ mg "NoRow" = some (.ref C_NoRow) ∧ XCls K C_ShortError ∧ XCls K C_NoReach ∧ XKin K C_NoReach ∧ PySem.W.mroIn K C_NoReach (.ref C_ShortError) = some true ∧ PySem.W.kitOne K (.ref C_NoReach) (.ref C_NoReach) = some true ∧ PySem.W.kitOne K (.ref C_NoReach) (.type "ValueError") = some true ∧ PySem.W.kitAny K (.ref C_NoReach) [(.ref C_NoAsk), (.ref C_NoBits), (.ref C_NoCode), (.ref C_NoProgram), (.ref C_NoRow)] = some false

section
variable {P : Program} {w : World} {K : PySem.W.Frag} {mg : Str → Option Value} {base : Heap}
local macro_rules | `(tactic| wp_walk using $ts,*) => do
  let ids := ("L2.A.uC L2.A.uVar L2.A.uOp L2.A.uTest L2.A.uChain L2.A.uNot L2.A.uAnd L2.A.uOr L2.A.uTru L2.A.uAndV L2.A.uIf L2.A.uNeg L2.A.uNil L2.A.uCons L2.A.uK L2.A.uTup L2.A.uLst L2.A.uCB L2.A.uNoPart L2.A.uPart L2.A.byT L2.A.tIntI L2.A.tBlI L2.A.uAdd L2.A.tNeI L2.A.tNeS L2.A.tNeB L2.A.tNeL L2.A.tNeT L2.A.rev_l L2.A.rev_t L2.A.uIxT L2.A.tIsN L2.A.tEqI L2.A.tEqS L2.A.tEqB L2.A.tEqL L2.A.tEqT L2.A.by1 L2.A.tLen L2.A.uTuple L2.A.tList L2.A.uRange1 L2.A.uRange2 L2.A.uII L2.A.uIntI L2.A.uIntB L2.A.uIsi L2.A.uSlX L2.A.slx_l L2.A.slx_r L2.A.slx_t L2.A.slx_s L2.A.gNFt L2.A.gNFf L2.A.uJi L2.A.uJs L2.A.xAsg L2.A.xRet L2.A.xIf L2.A.xIx L2.A.xFn L2.A.xRaise L2.A.xTryAs L2.A.uIsiK L2.A.ansN L2.A.ansE L2.A.uAsg L2.A.gNt L2.A.gNf L2.A.noP L2.A.nb_tr L2.A.nb_bx L2.A.nb_un L2.A.nb_sl L2.A.gT L2.A.gsC L2.A.gsN L2.A.gS L2.A.uRet L2.A.uDrop L2.A.uIfS L2.A.uIt L2.A.iR1 L2.A.iEn L2.A.iZ L2.A.uFor L2.A.uComp L2.A.uMe L2.A.uAppend L2.A.uFn L2.A.sqL L2.A.sqT stp_some sti_some oT_some L2.A.v_tr L2.A.v_bx L2.A.v_pb L2.A.add_i L2.A.add_s L2.A.add_l L2.A.add_t L2.A.ix_l L2.A.ix_t L2.A.ix_k L2.A.ix_s L2.A.len_l L2.A.len_t L2.A.len_r L2.A.len_k L2.A.len_s L2.A.tp_l L2.A.tp_t L2.A.ls_l L2.A.ls_t L2.A.ls_r L2.A.ls_g L2.A.sl_l L2.A.sl_r L2.A.sl_t L2.A.sq_t L2.A.sq_l L2.A.it_tl L2.A.it_fl L2.A.it_tt L2.A.it_tr L2.A.it_tk L2.A.it_br L2.A.itB_l L2.A.c_tr L2.A.c_fr L2.A.c_br L2.A.d_tr L2.A.d_fr L2.A.d_br L2.A.tr_b L2.A.tr_i Sl.box Sl.put putS L2.putAll agT bxS roS L2.Y.trees L2.Y.isiT L2.Y.own1 L2.Y.own2 L2.Y.dr1 L2.Y.dr2 List.tail_cons Nat.zero_le startM edOf outsAt Option.bind_some Option.bind_none Option.map_some Option.map_none List.map_cons List.map_nil List.length_cons List.length_nil List.length_map List.replicate List.cons_append List.nil_append List.append_nil List.getElem?_cons_zero List.getElem?_cons_succ List.set_cons_zero List.set_cons_succ List.nodup_nil List.nodup_cons List.not_mem_nil List.mem_cons not_false_eq_true false_implies implies_true forall_eq or_false and_true true_and and_self true_or at_0 at_1 at_2 at_3 at_4 Nat.reduceAdd Nat.reduceSub Nat.reduceLeDiff Nat.reduceLT Bool.false_eq_true Bool.not_true Bool.not_false if_false if_true decide_eq_true_eq Bool.not_eq_true' decide_eq_false_iff_not Int.reduceToNat Int.reducePow reduceCtorEq exists_eq_left exists_eq_left'".splitOn " ").toArray.map fun n => Lean.mkIdent n.toName
  `(tactic| simp only [$[$ids:ident],*, $[$ts:term],*])
local macro_rules | `(tactic| walk_at "rt") => `(tactic| wp_walk using and_self)

noncomputable def Seed (s : T) : Prop := ∃ n f c m : Int, s = .lst [.int n, .int f, .int c, .int m]
theorem Seed.flat {s : T} (h : Seed s) : flatC s = true := by obtain ⟨n, f, c, m, rfl⟩ := h; rfl
noncomputable def tDraw : TSp := fun args Q => ∃ (s : T) (k : Int), args = [s, .int k] ∧ Seed s ∧ 0 < k ∧ k < 2 ^ 30 ∧ ∀ (v : Int) (s' : T), Seed s' → 0 ≤ v → v < k → Q (.tr (.int v)) [s']
theorem ok_draw (T : Txt K mg) (F : HasFn K mg "_law_draw" s__law_draw ["seed", "most"]) : CallOk P w K mg base CX0 1 "_law_draw" ["seed", "most"] (spT K [true, false] tDraw) := by
  refine F.okT sc__law_draw [true, false] rfl (by decide) (fun args Qt hl h f cdv A outer s H E hr => ?_)
  have hu := hu_of hr
  obtain ⟨sd, k, rfl, ⟨n, fl, c, m, rfl⟩, k0, k1, q⟩ := h
  refine ⟨_, (Y.bcons (Y.asg (Y.op (Y.op_addG K rfl) Y.ro_add (Y.ix (Y.ix_G K rfl) Y.ro_ix (Y.v 0) Y.int) Y.int) (Y.gsub (Y.v 0) Y.int))
      (Y.bcons (Y.ifS (Y.tw (Y.wand (Y.tcmp (Y.op_eqG K rfl (Nat.lt_of_succ_lt hu)) Y.ro_eq (Y.ix (Y.ix_G K rfl) Y.ro_ix (Y.v 0) Y.int) Y.int) (Y.wand1 (Y.tcmp op_gt Y.ro_bl (Y.ix (Y.ix_G K rfl) Y.ro_ix (Y.v 0) Y.int) Y.int)))) (Y.bcons (Y.set (i := 2) sc__law_draw.nd rfl (by first | exact Or.inl rfl | exact Or.inr rfl) (Y.op op_mod Y.ro_int (Y.ix (Y.ix_G K rfl) Y.ro_ix (Y.v 0) Y.int) (Y.v 1)))
      (Y.bcons (Y.asg (Y.op Y.op_fdivG Y.ro_int (Y.ix (Y.ix_G K rfl) Y.ro_ix (Y.v 0) Y.int) (Y.v 1)) (Y.gsub (Y.v 0) Y.int))
      (Y.bone (Y.ret (Y.v 2))))) Y.bnil)
      (Y.bcons (Y.set (i := 3) sc__law_draw.nd rfl (by first | exact Or.inl rfl | exact Or.inr rfl) (Y.op op_mod Y.ro_int (Y.op op_mul Y.ro_int (Y.op (Y.op_addG K rfl) Y.ro_add (Y.op (Y.op_addG K rfl) Y.ro_add (Y.ix (Y.ix_G K rfl) Y.ro_ix (Y.v 0) Y.int) (Y.op op_mul Y.ro_int Y.int (Y.ix (Y.ix_G K rfl) Y.ro_ix (Y.v 0) Y.int))) Y.int) Y.int) Y.int))
      (Y.bcons (Y.set (i := 3) sc__law_draw.nd rfl (by first | exact Or.inl rfl | exact Or.inr rfl) (Y.op op_mod Y.ro_int (Y.op op_mul Y.ro_int (Y.op op_mod Y.ro_int (Y.op op_mul Y.ro_int (Y.v 3) (Y.v 3)) Y.int) Y.int) Y.int))
      (Y.bone (Y.ret (Y.op op_mod Y.ro_int (Y.op Y.op_fdivG Y.ro_int (Y.v 3) Y.int) (Y.v 1)))))))), ?_⟩
  have fin : ∀ v n c : Int, Qt (.tr (.int (v % k))) [.lst [.int n, .int fl, .int c, .int m]] := fun v n c => q _ _ ⟨_, _, _, _, rfl⟩ (Int.emod_nonneg _ (by omega)) (Int.emod_lt_of_pos _ k0)
  have x0 : ixN 4 0 = some 0 := by decide
  have x2 : ixN 4 2 = some 2 := by decide
  refine seqT fun N hN => ?_
  wp_walk using x2
  rw [hN]; clear hN N
  refine seqT fun N hN => ?_
  wp_walk using x0
  by_cases h1 : fl = 1
  · by_cases h2 : 0 < n
    · wp_walk using if_pos h1, if_pos h2
      refine seqT fun M hM => ?_
      walk_at "rt"
      refine ⟨k0, ?_⟩
      rw [hM]; clear hM M
      refine seqT fun M hM => ?_
      wp_walk using x0
      refine ⟨⟨k0, by omega⟩, ?_⟩
      rw [hM]; clear hM M
      walk_at "rt"
      exact fin _ _ _
    · wp_walk using if_pos h1, if_neg h2
      rw [hN]; clear hN N
      have m1 : ∀ a : Int, 0 ≤ a % 2147483647 ∧ a % 2147483647 < 2147483647 := fun a => ⟨by omega, by omega⟩
      refine seqT fun N hN => ?_
      walk_at "rt"
      refine ⟨.inl (by decide), .inr (by decide), by decide, ?_⟩
      rw [hN]; clear hN N
      refine seqT fun N hN => ?_
      walk_at "rt"
      refine ⟨.inl ⟨by have := m1 ((m + 6997 * (c + 1) + 11) * 48271); omega, by have := m1 ((m + 6997 * (c + 1) + 11) * 48271); omega⟩, by decide, .inr (by decide), by decide, ?_⟩
      rw [hN]; clear hN N
      walk_at "rt"
      exact ⟨⟨by decide, by decide⟩, k0, fin _ _ _⟩
  · wp_walk using if_neg h1
    rw [hN]; clear hN N
    have m1 : ∀ a : Int, 0 ≤ a % 2147483647 ∧ a % 2147483647 < 2147483647 := fun a => ⟨by omega, by omega⟩
    refine seqT fun N hN => ?_
    walk_at "rt"
    refine ⟨.inl (by decide), .inr (by decide), by decide, ?_⟩
    rw [hN]; clear hN N
    refine seqT fun N hN => ?_
    walk_at "rt"
    refine ⟨.inl ⟨by have := m1 ((m + 6997 * (c + 1) + 11) * 48271); omega, by have := m1 ((m + 6997 * (c + 1) + 11) * 48271); omega⟩, by decide, .inr (by decide), by decide, ?_⟩
    rw [hN]; clear hN N
    walk_at "rt"
    exact ⟨⟨by decide, by decide⟩, k0, fin _ _ _⟩

noncomputable def nI : List Int → List L2.T := List.map L2.T.int
noncomputable def oI : Option Nat → L2.T
  | none => .non
  | some k => .int k
noncomputable def nO : List (Option Nat) → List L2.T := List.map oI
noncomputable def ownW : Option Nat → Int
  | none => 0
  | some 0 => 5
  | some 1 => 10
  | some _ => 18
noncomputable def plc : List Int → List (Option Nat) → Int → List Int
  | s :: ss, w :: ws, a => (a + s + ownW w) :: plc ss ws (a + s + ownW w)
  | _, _, _ => []
noncomputable def plcs (ss : List Int) (ws : List (Option Nat)) : List Int := 0 :: plc ss ws 0
theorem plc_len : ∀ (ss : List Int) (ws : List (Option Nat)) (a : Int), ss.length = ws.length → (plc ss ws a).length = ss.length
  | [], [], _, _ => rfl
  | s :: ss, w :: ws, a, h => congrArg (· + 1) (plc_len ss ws _ (by simpa using h))
/-- widths as they may be -/
noncomputable def Ws (ws : List (Option Nat)) : Prop := ∀ w ∈ ws, ∀ k, w = some k → k < 3
theorem at_nI {xs : List Int} {i : Int} {v : Int} (h : atI xs i = some v) : atI (nI xs) i = some (.int v) := by
  unfold atI at h ⊢
  unfold nI
  rw [List.length_map]
  cases e : ixN xs.length i with
  | none => rw [e] at h; cases h
  | some j => rw [e] at h; have h' : xs[j]? = some v := h; show (List.map L2.T.int xs)[j]? = _; rw [List.getElem?_map, h']; rfl
theorem at_nO {xs : List (Option Nat)} {j : Nat} {v : Option Nat} (h : xs[j]? = some v) : atI (nO xs) (j : Int) = some (oI v) := by
  refine atI_nat ?_
  unfold nO
  rw [List.getElem?_map, h]; rfl
theorem nI_len (xs : List Int) : (nI xs).length = xs.length := List.length_map ..
theorem nO_len (xs : List (Option Nat)) : (nO xs).length = xs.length := List.length_map ..
noncomputable def tOwn : TSp := fun args Q => ∃ w : Option Nat, args = [oI w] ∧ (∀ k, w = some k → k < 3) ∧ Q (.tr (.int (ownW w))) []
theorem ok_own_part (T : Txt K mg) (F : HasFn K mg "own_part" s_own_part ["width"]) : CallOk P w K mg base CX0 1 "own_part" ["width"] (spT K [false] tOwn) := by
  refine F.okT sc_own_part [false] rfl (by decide) (fun args Qt hl h f cdv A outer s H E hr => ?_)
  have hu := hu_of hr
  obtain ⟨w, rfl, hw, q⟩ := h
  refine ⟨_, (Y.bone (Y.ret (Y.ifE (Y.tcmp op_isN Y.ro_isN (Y.v 0) Y.non) Y.int (Y.op (Y.op_addG K rfl) Y.ro_add (Y.cb (Y.call_lenG K rfl) Y.rc_len rfl T.b_len (by decide +kernel) (Y.cons (Y.ix (Y.ix_G K rfl) Y.ro_ix (Y.globX rfl T.c_HEADS) (Y.v 0)) Y.nil)) (Y.ix (Y.ix_G K rfl) Y.ro_ix (Y.globX rfl T.c_WIDTHS) (Y.v 0)))))), ?_⟩
  have l0 : (Str.ofString "0").length = 1 := by decide +kernel
  have l1 : (Str.ofString "10").length = 2 := by decide +kernel
  have l2 : (Str.ofString "11").length = 2 := by decide +kernel
  have sz : 2 ≤ sizeLine := by decide
  match w, hw, q with
  | none, _, q => wp_walk using oI; exact q
  | some 0, _, q => wp_walk using oI, (show ((0 : Nat) : Int) = 0 from rfl), l0; exact ⟨by decide, q⟩
  | some 1, _, q => wp_walk using oI, (show ((1 : Nat) : Int) = 1 from rfl), l1; exact ⟨by decide, q⟩
  | some 2, _, q => wp_walk using oI, (show ((2 : Nat) : Int) = 2 from rfl), l2; exact ⟨by decide, q⟩
  | some (k + 3), hw, _ => exact absurd (hw _ rfl) (by omega)
noncomputable def tPlaces : TSp := fun args Q => ∃ (ss : List Int) (ws : List (Option Nat)) (t1 t2 : L2.T), args = [t1, t2] ∧ (t1 = .tup (nI ss) ∨ t1 = .lst (nI ss)) ∧ (t2 = .tup (nO ws) ∨ t2 = .lst (nO ws)) ∧ ss.length = ws.length ∧ ss.length ≤ 60 ∧ Ws ws ∧ Q (.fr (.lst (nI (plcs ss ws)))) []
theorem nI_app (xs ys : List Int) : nI (xs ++ ys) = nI xs ++ nI ys := List.map_append
theorem at_last {pre : List Int} {a : Int} : atI (nI (pre ++ [a])) (-1) = some (.int a) := at_nI (atI_last pre a)
theorem ok_row_starts (T : Txt K mg) (F : HasFn K mg "row_starts" s_row_starts ["sizes", "widths"]) (hown_part : CallOk P w K mg base CX0 1 "own_part" ["width"] (spT K [false] tOwn)) : CallOk P w K mg base CX0 2 "row_starts" ["sizes", "widths"] (spT K [false, false] tPlaces) := by
  refine F.okT sc_row_starts [false, false] rfl (by decide) (fun args Qt hl h f cdv A outer s H E hr => ?_)
  have hu := hu_of hr
  obtain ⟨ss, ws, t1, t2, rfl, h1, h2, hlen, hle, hw, q⟩ := h
  refine ⟨_, (Y.bcons (Y.set (i := 2) sc_row_starts.nd rfl (by first | exact Or.inl rfl | exact Or.inr rfl) (Y.lst (Y.cons Y.int Y.nil)))
      (Y.bcons (Y.forS PassesOwn.never rfl (Y.zip K rfl rfl T.b_zip (Y.cons (Y.v 0) (Y.cons (Y.v 1) Y.nil))) (Y.gtup (n := 2) K rfl rfl (Y.gscons (Y.gname (i := 3) sc_row_starts.nd rfl (by first | exact Or.inl rfl | exact Or.inr rfl)) (Y.gscons (Y.gname (i := 4) sc_row_starts.nd rfl (by first | exact Or.inl rfl | exact Or.inr rfl)) Y.gsnil))) (Y.bone (Y.expr (Y.bm K rfl PySem.F.slot_list_append PySem.F.type_list_append mt_append Y.rm_append (Y.v 2) (Y.cons (Y.op (Y.op_addG K rfl) Y.ro_add (Y.op (Y.op_addG K rfl) Y.ro_add (Y.ix (Y.ix_G K rfl) Y.ro_ix (Y.v 2) (Y.neg Y.int)) (Y.v 3)) (Y.fn K rfl hown_part (hr.mono (by decide)) rfl pass0 (Y.cons (Y.v 4) Y.nil))) Y.nil)))))
      (Y.bone (Y.ret (Y.v 2))))), ?_⟩
  have e1 : sqOf t1 = some (nI ss) := by rcases h1 with rfl | rfl <;> rfl
  have e2 : sqOf t2 = some (nO ws) := by rcases h2 with rfl | rfl <;> rfl
  refine seqT fun N hN => ?_
  walk_at "rt"
  refine ⟨by decide, ?_⟩
  rw [hN]; clear hN N
  refine seqT fun N hN => ?_
  wp_walk using e1, e2
  refine for_ind (fun rest μ => ∃ (ss' : List Int) (ws' : List (Option Nat)) (pre : List Int) (a : Int) (s3 s4 : Option L2.T), rest = zipT (nI ss') (nO ws') ∧ ss'.length = ws'.length ∧ Ws ws' ∧ μ = [.tr t1, .tr t2, .bx (.lst (nI (pre ++ [a]))), sl s3, sl s4] ∧ pre ++ [a] ++ plc ss' ws' a = plcs ss ws ∧ pre.length + ss'.length ≤ 60)
    ⟨ss, ws, [], 0, none, none, rfl, hlen, hw, rfl, rfl, by simpa using hle⟩ ?_ ?_
  · rintro μ ⟨ss', ws', pre, a, s3, s4, e, hl', _, rfl, ep, _⟩
    have : ss' = [] := by
      cases ss' with
      | nil => rfl
      | cons => cases ws' with
        | nil => cases hl'
        | cons => cases e
    subst this
    cases ws' with
    | cons => cases hl'
    | nil =>
      show N _
      rw [hN]; clear hN N
      walk_at "rt"
      rw [show pre ++ [a] = plcs ss ws by rw [← ep]; simp [plc]]
      exact q
  · rintro t ts μ M ⟨ss', ws', pre, a, s3, s4, e, hl', hw', rfl, ep, hz⟩ k
    cases ss' with
    | nil => cases e
    | cons z ss' => cases ws' with
      | nil => cases hl'
      | cons v ws' =>
        cases e
        wp_walk using at_last
        refine ⟨v, rfl, hw' v (by simp), ?_⟩
        walk_at "rt"
        refine ⟨by rw [nI_len]; simp; exact Nat.lt_of_le_of_lt (show pre.length + 1 ≤ 61 by simp at hz; omega) (by decide), ?_⟩
        refine k _ ⟨ss', ws', pre ++ [a], a + z + ownW v, some (.int z), some (oI v), rfl, by simpa using hl', fun x hx => hw' x (by simp [hx]), ?_, ?_, by simp at hz ⊢; omega⟩
        · rw [nI_app (pre ++ [a]) [a + z + ownW v]]; rfl
        · rw [← ep]; simp [plc]

noncomputable def halfW : Nat → Int
  | 0 => 8
  | 1 => 128
  | _ => 32768
noncomputable def fitW (d : Int) (k : Nat) : Bool := decide (-halfW k ≤ d) && decide (d < halfW k)
theorem halves_at {k : Nat} (h : k < 3) : atI [L2.T.int 8, .int 128, .int 32768] (k : Int) = some (.int (halfW k)) := by
  match k, h with
  | 0, _ => rfl
  | 1, _ => rfl
  | 2, _ => rfl
theorem ps_at {ps : List Int} {j : Nat} {x : Int} (h : ps[j]? = some x) : atI (nI ps) (j : Int) = some (.int x) := at_nI (atI_nat h)
noncomputable def tDist : TSp := fun args Q => ∃ (ps : List Int) (gs : List (Option Nat)) (t2 : L2.T) (i g : Nat) (x y : Int), args = [.lst (nI ps), t2, .int i] ∧ (t2 = .tup (nO gs) ∨ t2 = .lst (nO gs)) ∧ gs[i]? = some (some g) ∧ ps[g]? = some x ∧ ps[i + 1]? = some y ∧ Q (.tr (.int (x - y))) []
theorem ok_distance_of (T : Txt K mg) (F : HasFn K mg "distance_of" s_distance_of ["starts", "goals", "row"]) : CallOk P w K mg base CX0 1 "distance_of" ["starts", "goals", "row"] (spT K [false, false, false] tDist) := by
  refine F.okT sc_distance_of [false, false, false] rfl (by decide) (fun args Qt hl h f cdv A outer s H E hr => ?_)
  have hu := hu_of hr
  obtain ⟨ps, gs, t2, i, g, x, y, rfl, h2, hg, hx, hy, q⟩ := h
  refine ⟨_, (Y.bone (Y.ret (Y.op op_sub Y.ro_int0 (Y.ix (Y.ix_G K rfl) Y.ro_ix (Y.v 0) (Y.ix (Y.ix_G K rfl) Y.ro_ix (Y.v 1) (Y.v 2))) (Y.ix (Y.ix_G K rfl) Y.ro_ix (Y.v 0) (Y.op (Y.op_addG K rfl) Y.ro_add (Y.v 2) Y.int))))), ?_⟩
  have a1 := at_nO hg
  have a2 := ps_at hx
  have a3 : atI (nI ps) ((i : Int) + 1) = some (.int y) := ps_at (j := i + 1) hy
  rcases h2 with rfl | rfl
  · wp_walk using a1, oI, a2, a3
    exact q
  · wp_walk using a1, oI, a2, a3
    exact q
noncomputable def tFits : TSp := fun args Q => ∃ (ps : List Int) (gs ws : List (Option Nat)) (t2 t3 : L2.T) (i g k : Nat) (x y : Int), args = [.lst (nI ps), t2, t3, .int i] ∧ (t2 = .tup (nO gs) ∨ t2 = .lst (nO gs)) ∧ (t3 = .tup (nO ws) ∨ t3 = .lst (nO ws)) ∧ gs[i]? = some (some g) ∧ ws[i]? = some (some k) ∧ k < 3 ∧ ps[g]? = some x ∧ ps[i + 1]? = some y ∧ Q (.tr (.bl (fitW (x - y) k))) []
theorem ok_fits (T : Txt K mg) (F : HasFn K mg "fits" s_fits ["starts", "goals", "widths", "row"]) (hdistance_of : CallOk P w K mg base CX0 1 "distance_of" ["starts", "goals", "row"] (spT K [false, false, false] tDist)) : CallOk P w K mg base CX0 2 "fits" ["starts", "goals", "widths", "row"] (spT K [false, false, false, false] tFits) := by
  refine F.okT sc_fits [false, false, false, false] rfl (by decide) (fun args Qt hl h f cdv A outer s H E hr => ?_)
  have hu := hu_of hr
  obtain ⟨ps, gs, ws, t2, t3, i, g, k, x, y, rfl, h2, h3, hg, hw, hk, hx, hy, q⟩ := h
  refine ⟨_, (Y.bcons (Y.set (i := 4) sc_fits.nd rfl (by first | exact Or.inl rfl | exact Or.inr rfl) (Y.ix (Y.ix_G K rfl) Y.ro_ix (Y.globX rfl T.c_HALVES) (Y.ix (Y.ix_G K rfl) Y.ro_ix (Y.v 2) (Y.v 3))))
      (Y.bone (Y.ret (Y.chain op_le Y.ro_bl op_lt Y.ro_bl (Y.neg (Y.v 4)) (Y.fn K rfl hdistance_of (hr.mono (by decide)) rfl pass0 (Y.cons (Y.v 0) (Y.cons (Y.v 1) (Y.cons (Y.v 3) Y.nil)))) (Y.v 4))))), ?_⟩
  have a1 := at_nO hw
  have a2 := halves_at hk
  have fin : ∀ t2 t3 : L2.T, (t2 = .tup (nO gs) ∨ t2 = .lst (nO gs)) → ∀ Q : R → List L2.T → Prop, Q (.tr (.int (x - y))) [] → tDist [.lst (nI ps), t2, .int i] Q := fun t2 t3 h Q hq => ⟨ps, gs, t2, i, g, x, y, rfl, h, hg, hx, hy, hq⟩
  rcases h3 with rfl | rfl
  all_goals
    refine seqT fun N hN => ?_
    wp_walk using a1, oI, a2
    rw [hN]; clear hN N
    walk_at "rt"
    refine fin t2 t2 h2 _ ?_
    walk_at "rt"
    unfold fitW at q
    by_cases c : -halfW k ≤ x - y
    · rw [decide_eq_true c] at q ⊢
      walk_at "rt"
      exact q
    · rw [decide_eq_false c] at q ⊢
      walk_at "rt"
      exact q
theorem pairs_drop {xs : List L2.T} {i : Nat} {x : L2.T} (h : xs[i]? = some x) : (pairs xs).drop i = .tup [.int (i : Nat), x] :: (pairs xs).drop (i + 1) := by
  have hi : i < xs.length := (List.getElem?_eq_some_iff.mp h).1
  have hl : (pairs xs).length = xs.length := by simp [pairs]
  rw [List.drop_eq_getElem_cons (by rw [hl]; exact hi)]
  congr 1
  simp only [pairs, List.getElem_map, List.getElem_range, h, Option.getD_some]
theorem pairs_end (xs : List L2.T) : (pairs xs).drop xs.length = [] := by
  apply List.drop_eq_nil_of_le
  simp [pairs]
noncomputable def badAt (ps : List Int) (gs ws : List (Option Nat)) (j : Nat) : Bool := match gs[j]?, ws[j]? with
  | some (some g), some (some k) => !fitW (ps.getD g 0 - ps.getD (j + 1) 0) k
  | _, _ => false
noncomputable def fbad (ps : List Int) (gs ws : List (Option Nat)) (n i : Nat) : Option Nat := (List.range' i (n - i)).find? (badAt ps gs ws)
theorem fbad_end (ps : List Int) (gs ws : List (Option Nat)) (n : Nat) : fbad ps gs ws n n = none := by unfold fbad; rw [Nat.sub_self]; rfl
theorem fbad_step {ps : List Int} {gs ws : List (Option Nat)} {n i : Nat} (h : i < n) : fbad ps gs ws n i = if badAt ps gs ws i = true then some i else fbad ps gs ws n (i + 1) := by
  unfold fbad
  obtain ⟨m, hm⟩ : ∃ m, n - i = m + 1 := ⟨n - i - 1, by omega⟩
  rw [hm, List.range'_succ, show n - (i + 1) = m by omega, List.find?_cons]
  cases badAt ps gs ws i <;> simp
/-- goals and widths that go together -/
structure GW (ss : List Int) (gs ws : List (Option Nat)) : Prop where
  lg : gs.length = ss.length
  lw : ws.length = ss.length
  le : ss.length ≤ 60
  w3 : Ws ws
  go : ∀ (j g : Nat), gs[j]? = some (some g) → g ≤ ss.length ∧ ∃ k, ws[j]? = some (some k)
theorem plcs_len {ss : List Int} {ws : List (Option Nat)} (h : ss.length = ws.length) : (plcs ss ws).length = ss.length + 1 := by
  unfold plcs
  rw [List.length_cons, plc_len _ _ _ h]
theorem Ws.at {ws : List (Option Nat)} (h : Ws ws) {j k : Nat} (e : ws[j]? = some (some k)) : k < 3 := h _ (List.mem_of_getElem? e) k rfl
theorem getD_of {ps : List Int} {j : Nat} (h : j < ps.length) : ps[j]? = some (ps.getD j 0) := by
  rw [List.getElem?_eq_getElem h]; simp [List.getD, List.getElem?_eq_getElem h]
noncomputable def rN : Option Nat → L2.T
  | none => .non
  | some j => .int j
noncomputable def tNarrow : TSp := fun args Q => ∃ (ss : List Int) (gs ws : List (Option Nat)) (t1 t3 : L2.T), args = [t1, .tup (nO gs), t3] ∧ (t1 = .tup (nI ss) ∨ t1 = .lst (nI ss)) ∧ (t3 = .tup (nO ws) ∨ t3 = .lst (nO ws)) ∧ GW ss gs ws ∧ Q (.tr (rN (fbad (plcs ss ws) gs ws ss.length 0))) []
theorem ok_narrow (T : Txt K mg) (F : HasFn K mg "first_too_narrow" s_first_too_narrow ["sizes", "goals", "widths"]) (hrow_starts : CallOk P w K mg base CX0 2 "row_starts" ["sizes", "widths"] (spT K [false, false] tPlaces)) (hfits : CallOk P w K mg base CX0 2 "fits" ["starts", "goals", "widths", "row"] (spT K [false, false, false, false] tFits)) :
    CallOk P w K mg base CX0 3 "first_too_narrow" ["sizes", "goals", "widths"] (spT K [false, false, false] tNarrow) := by
  refine F.okT sc_first_too_narrow [false, false, false] rfl (by decide) (fun args Qt hl h f cdv A outer s H E hr => ?_)
  have hu := hu_of hr
  obtain ⟨ss, gs, ws, t1, t3, rfl, h1, h3, gw, q⟩ := h
  refine ⟨_, (Y.bcons (Y.set (i := 3) sc_first_too_narrow.nd rfl (by first | exact Or.inl rfl | exact Or.inr rfl) (Y.fn K rfl hrow_starts (hr.mono (by decide)) rfl pass0 (Y.cons (Y.v 0) (Y.cons (Y.v 2) Y.nil))))
      (Y.bcons (Y.forS PassesOwn.never rfl (Y.enum K rfl rfl T.b_enumerate (Y.cons (Y.v 1) Y.nil)) (Y.gtup (n := 2) K rfl rfl (Y.gscons (Y.gname (i := 4) sc_first_too_narrow.nd rfl (by first | exact Or.inl rfl | exact Or.inr rfl)) (Y.gscons (Y.gname (i := 5) sc_first_too_narrow.nd rfl (by first | exact Or.inl rfl | exact Or.inr rfl)) Y.gsnil))) (Y.bone (Y.ifS (Y.tw (Y.wand (Y.tcmp op_notN Y.ro_notN (Y.v 5) Y.non) (Y.wand1 (Y.tnot (Y.ttru K rfl (Y.fn K rfl hfits (hr.mono (by decide)) rfl pass0 (Y.cons (Y.v 3) (Y.cons (Y.v 1) (Y.cons (Y.v 2) (Y.cons (Y.v 4) Y.nil)))))))))) (Y.bone (Y.ret (Y.v 4))) Y.bnil)))
      (Y.bone (Y.ret Y.non)))), ?_⟩
  have hlp := plcs_len (ss := ss) (ws := ws) gw.lw.symm
  refine seqT fun N hN => ?_
  walk_at "rt"
  refine ⟨ss, ws, t1, t3, rfl, h1, h3, gw.lw.symm, gw.le, gw.w3, ?_⟩
  walk_at "rt"
  rw [hN]; clear hN N
  refine seqT fun N hN => ?_
  walk_at "rt"
  refine for_ind (fun rest μ => ∃ (i : Nat) (s4 s5 : Option L2.T), rest = (pairs (nO gs)).drop i ∧ i ≤ ss.length ∧ μ = [.tr t1, .tr (.tup (nO gs)), .tr t3, .bx (.lst (nI (plcs ss ws))), sl s4, sl s5] ∧ fbad (plcs ss ws) gs ws ss.length 0 = fbad (plcs ss ws) gs ws ss.length i)
    ⟨0, none, none, rfl, Nat.zero_le _, rfl, rfl⟩ ?_ ?_
  · rintro μ ⟨i, s4, s5, e, hi, rfl, eb⟩
    have hi2 : i = ss.length := by
      rcases Nat.lt_or_ge i ss.length with z | z
      · rw [pairs_drop (x := oI (gs[i]'(by rw [gw.lg]; exact z))) (by unfold nO; rw [List.getElem?_map, List.getElem?_eq_getElem (by rw [gw.lg]; exact z)]; rfl)] at e
        cases e
      · omega
    subst hi2
    rw [fbad_end] at eb
    show N _
    rw [hN]; clear hN N
    rw [eb] at q
    walk_at "rt"
    exact q
  · rintro t ts μ M ⟨i, s4, s5, e, hi, rfl, eb⟩ k
    have hi2 : i < ss.length := by
      rcases Nat.lt_or_ge i ss.length with z | z
      · exact z
      · have : i = (nO gs).length := by rw [nO_len, gw.lg]; omega
        rw [this, pairs_end] at e; cases e
    have eg : gs[i]? = some (gs[i]'(by rw [gw.lg]; exact hi2)) := List.getElem?_eq_getElem _
    generalize gs[i]'(by rw [gw.lg]; exact hi2) = go at eg
    rw [pairs_drop (x := oI go) (by unfold nO; rw [List.getElem?_map, eg]; rfl)] at e
    cases e
    rw [fbad_step hi2] at eb
    cases go with
    | none =>
      have nb : badAt (plcs ss ws) gs ws i = false := by unfold badAt; rw [eg]
      rw [nb] at eb
      wp_walk using oI
      exact k _ ⟨i + 1, some _, some _, rfl, hi2, rfl, by simpa using eb⟩
    | some g =>
      obtain ⟨hg, kk, ek⟩ := gw.go i g eg
      have hk := gw.w3.at ek
      have bd : badAt (plcs ss ws) gs ws i = !fitW ((plcs ss ws).getD g 0 - (plcs ss ws).getD (i + 1) 0) kk := by unfold badAt; rw [eg, ek]
      wp_walk using oI
      refine ⟨plcs ss ws, gs, ws, .tup (nO gs), t3, i, g, kk, _, _, rfl, .inl rfl, h3, eg, ek, hk, getD_of (by rw [hlp]; omega), getD_of (by rw [hlp]; omega), ?_⟩
      walk_at "rt"
      refine ⟨.inr ⟨rfl, rfl⟩, ?_⟩
      cases c : fitW ((plcs ss ws).getD g 0 - (plcs ss ws).getD (i + 1) 0) kk with
      | true =>
        rw [c] at bd
        rw [bd] at eb
        walk_at "rt"
        exact k _ ⟨i + 1, some _, some _, rfl, hi2, rfl, by simpa using eb⟩
      | false =>
        rw [c] at bd
        rw [bd] at eb
        rw [eb] at q
        walk_at "rt"
        exact q
noncomputable def goodW (ss : List Int) (gs ws : List (Option Nat)) : Bool := (fbad (plcs ss ws) gs ws ss.length 0).isNone
noncomputable def tSeed : TSp := fun args Q => ∃ c : Int, args = [.int c] ∧ ∀ s, Seed s → Q (.fr s) []
theorem ok_seed (T : Txt K mg) (F : HasFn K mg "_law_seed" s__law_seed ["cell"]) : CallOk P w K mg base CX0 1 "_law_seed" ["cell"] (spT K [false] tSeed) := by
  refine F.okT sc__law_seed [false] rfl (by decide) (fun args Qt hl h f cdv A outer s H E hr => ?_)
  have hu := hu_of hr
  obtain ⟨c, rfl, q⟩ := h
  refine ⟨_, (Y.bcons (Y.set (i := 1) sc__law_seed.nd rfl (by first | exact Or.inl rfl | exact Or.inr rfl) (Y.cb (ucall_max rfl) Y.rc_max rfl T.b_max (by decide +kernel) (Y.cons (Y.v 0) (Y.cons (Y.op op_sub Y.ro_int0 Y.int (Y.v 0)) Y.nil))))
      (Y.bone (Y.ret (Y.lst (Y.cons (Y.v 1) (Y.cons (Y.ct ucall_int Y.rc_int rfl T.b_int (by decide +kernel) (Y.cons (Y.cmp op_ge Y.ro_bl (Y.v 1) (Y.op op_pow Y.ro_int Y.int Y.int)) Y.nil)) (Y.cons Y.int (Y.cons (Y.op op_mod Y.ro_int (Y.v 0) Y.int) Y.nil)))))))), ?_⟩
  refine seqT fun N hN => ?_
  walk_at "rt"
  rw [hN]; clear hN N
  walk_at "rt"
  exact ⟨⟨by decide, by decide, by decide⟩, by decide, by decide, q _ ⟨_, _, _, _, rfl⟩⟩
noncomputable def tFolded : TSp := fun args Q => ∃ ns : List Int, args = [.rol (nI ns)] ∧ ∀ v : Int, Q (.tr (.int v)) []
theorem ok_folded (T : Txt K mg) (F : HasFn K mg "_law_folded" s__law_folded ["script"]) : CallOk P w K mg base CX0 1 "_law_folded" ["script"] (spT K [false] tFolded) := by
  refine F.okT sc__law_folded [false] rfl (by decide) (fun args Qt hl h f cdv A outer s H E hr => ?_)
  have hu := hu_of hr
  obtain ⟨ns, rfl, q⟩ := h
  refine ⟨_, (Y.bcons (Y.set (i := 1) sc__law_folded.nd rfl (by first | exact Or.inl rfl | exact Or.inr rfl) (Y.cb (Y.call_lenG K rfl) Y.rc_len rfl T.b_len (by decide +kernel) (Y.cons (Y.v 0) Y.nil)))
      (Y.bcons (Y.forS PassesOwn.never rfl (Y.any K rfl (Y.v 0)) (Y.gname (i := 2) sc__law_folded.nd rfl (by first | exact Or.inl rfl | exact Or.inr rfl)) (Y.bone (Y.set (i := 1) sc__law_folded.nd rfl (by first | exact Or.inl rfl | exact Or.inr rfl) (Y.op op_mod Y.ro_int (Y.op (Y.op_addG K rfl) Y.ro_add (Y.op op_mul Y.ro_int (Y.v 1) Y.int) (Y.op op_mod Y.ro_int (Y.v 2) Y.int)) Y.int))))
      (Y.bone (Y.ret (Y.v 1))))), ?_⟩
  refine seqT fun N hN => ?_
  walk_at "rt"
  rw [hN]; clear hN N
  refine seqT fun N hN => ?_
  walk_at "rt"
  refine for_ind (fun rest μ => ∃ (ms : List Int) (v : Int) (s2 : Option L2.T), rest = nI ms ∧ μ = [.tr (.rol (nI ns)), .tr (.int v), sl s2]) ⟨ns, _, none, rfl, rfl⟩ ?_ ?_
  · rintro μ ⟨ms, v, s2, _, rfl⟩
    show N _
    rw [hN]; clear hN N
    walk_at "rt"
    exact q v
  · rintro t ts μ M ⟨ms, v, s2, e, rfl⟩ k
    cases ms with
    | nil => cases e
    | cons m ms =>
      cases e
      walk_at "rt"
      exact ⟨.inr (by decide), by decide, by decide, k _ ⟨ms, _, some _, rfl, rfl⟩⟩
theorem owns_at {k : Nat} (h : k < 3) : atI [L2.T.int 5, .int 10, .int 18] (k : Int) = some (.int (ownW (some k))) := by
  match k, h with
  | 0, _ => rfl
  | 1, _ => rfl
  | 2, _ => rfl
theorem ok_lplaces (T : Txt K mg) (F : HasFn K mg "_law_places" s__law_places ["sizes", "widths"]) : CallOk P w K mg base CX0 1 "_law_places" ["sizes", "widths"] (spT K [false, false] tPlaces) := by
  refine F.okT sc__law_places [false, false] rfl (by decide) (fun args Qt hl h f cdv A outer s H E hr => ?_)
  have hu := hu_of hr
  obtain ⟨ss, ws, t1, t2, rfl, h1, h2, hlen, hle, hw, q⟩ := h
  refine ⟨_, (Y.bcons (Y.set (i := 2) sc__law_places.nd rfl (by first | exact Or.inl rfl | exact Or.inr rfl) (Y.lst (Y.cons Y.int Y.nil)))
      (Y.bcons (Y.forS PassesOwn.never rfl (Y.zip K rfl rfl T.b_zip (Y.cons (Y.v 0) (Y.cons (Y.v 1) Y.nil))) (Y.gtup (n := 2) K rfl rfl (Y.gscons (Y.gname (i := 3) sc__law_places.nd rfl (by first | exact Or.inl rfl | exact Or.inr rfl)) (Y.gscons (Y.gname (i := 4) sc__law_places.nd rfl (by first | exact Or.inl rfl | exact Or.inr rfl)) Y.gsnil))) (Y.bcons (Y.set (i := 5) sc__law_places.nd rfl (by first | exact Or.inl rfl | exact Or.inr rfl) Y.int)
      (Y.bcons (Y.ifS (Y.tcmp op_notN Y.ro_notN (Y.v 4) Y.non) (Y.bone (Y.set (i := 5) sc__law_places.nd rfl (by first | exact Or.inl rfl | exact Or.inr rfl) (Y.ix (Y.ix_G K rfl) Y.ro_ix (Y.lst (Y.consts2 rfl rfl)) (Y.v 4)))) Y.bnil)
      (Y.bone (Y.expr (Y.bm K rfl PySem.F.slot_list_append PySem.F.type_list_append mt_append Y.rm_append (Y.v 2) (Y.cons (Y.op (Y.op_addG K rfl) Y.ro_add (Y.op (Y.op_addG K rfl) Y.ro_add (Y.ix (Y.ix_G K rfl) Y.ro_ix (Y.v 2) (Y.neg Y.int)) (Y.v 3)) (Y.v 5)) Y.nil)))))))
      (Y.bone (Y.ret (Y.v 2))))), ?_⟩
  have e1 : sqOf t1 = some (nI ss) := by rcases h1 with rfl | rfl <;> rfl
  have e2 : sqOf t2 = some (nO ws) := by rcases h2 with rfl | rfl <;> rfl
  refine seqT fun N hN => ?_
  walk_at "rt"
  refine ⟨by decide, ?_⟩
  rw [hN]; clear hN N
  refine seqT fun N hN => ?_
  wp_walk using e1, e2
  refine for_ind (fun rest μ => ∃ (ss' : List Int) (ws' : List (Option Nat)) (pre : List Int) (a : Int) (s3 s4 s5 : Option L2.T), rest = zipT (nI ss') (nO ws') ∧ ss'.length = ws'.length ∧ Ws ws' ∧ μ = [.tr t1, .tr t2, .bx (.lst (nI (pre ++ [a]))), sl s3, sl s4, sl s5] ∧ pre ++ [a] ++ plc ss' ws' a = plcs ss ws ∧ pre.length + ss'.length ≤ 60)
    ⟨ss, ws, [], 0, none, none, none, rfl, hlen, hw, rfl, rfl, by simpa using hle⟩ ?_ ?_
  · rintro μ ⟨ss', ws', pre, a, s3, s4, s5, e, hl', _, rfl, ep, _⟩
    have : ss' = [] := by
      cases ss' with
      | nil => rfl
      | cons => cases ws' with
        | nil => cases hl'
        | cons => cases e
    subst this
    cases ws' with
    | cons => cases hl'
    | nil =>
      show N _
      rw [hN]; clear hN N
      walk_at "rt"
      rw [show pre ++ [a] = plcs ss ws by rw [← ep]; simp [plc]]
      exact q
  · rintro t ts μ M ⟨ss', ws', pre, a, s3, s4, s5, e, hl', hw', rfl, ep, hz⟩ k
    cases ss' with
    | nil => cases e
    | cons z ss' => cases ws' with
      | nil => cases hl'
      | cons v ws' =>
        cases e
        have fin : ∀ u : Option L2.T, M [.tr t1, .tr t2, .bx (.lst (nI (pre ++ [a]) ++ [.int (a + z + ownW v)])), .tr (.int z), .tr (oI v), sl u] := fun u => by
          refine k _ ⟨ss', ws', pre ++ [a], a + z + ownW v, some (.int z), some (oI v), u, rfl, by simpa using hl', fun x hx => hw' x (by simp [hx]), ?_, ?_, by simp at hz ⊢; omega⟩
          · rw [nI_app (pre ++ [a]) [a + z + ownW v]]; rfl
          · rw [← ep]; simp [plc]
        have sz : (nI (pre ++ [a])).length < sizeLine := by rw [nI_len]; simp; exact Nat.lt_of_le_of_lt (show pre.length + 1 ≤ 61 by simp at hz; omega) (by decide)
        walk_at "rt"
        refine seqT fun M' hM => ?_
        walk_at "rt"
        rw [hM]; clear hM M'
        cases v with
        | none =>
          refine seqT fun M' hM => ?_
          wp_walk using oI
          rw [hM]; clear hM M'
          wp_walk using at_last
          exact ⟨sz, fin (some (.int 0))⟩
        | some j =>
          have hj : j < 3 := hw' (some j) (by simp) j rfl
          refine seqT fun M' hM => ?_
          wp_walk using oI, owns_at hj
          refine ⟨by decide, ?_⟩
          rw [hM]; clear hM M'
          wp_walk using at_last
          exact ⟨sz, fin (some (.int (ownW (some j))))⟩
noncomputable def tLFits : TSp := fun args Q => ∃ (d : Int) (k : Nat), args = [.int d, .int k] ∧ k < 3 ∧ Q (.tr (.bl (fitW d k))) []
theorem ok_lfits (T : Txt K mg) (F : HasFn K mg "_law_fits" s__law_fits ["far", "width"]) : CallOk P w K mg base CX0 1 "_law_fits" ["far", "width"] (spT K [false, false] tLFits) := by
  refine F.okT sc__law_fits [false, false] rfl (by decide) (fun args Qt hl h f cdv A outer s H E hr => ?_)
  have hu := hu_of hr
  obtain ⟨d, k, rfl, hk, q⟩ := h
  refine ⟨_, (Y.bcons (Y.set (i := 2) sc__law_fits.nd rfl (by first | exact Or.inl rfl | exact Or.inr rfl) (Y.ix (Y.ix_G K rfl) Y.ro_ix (Y.lst (Y.consts2 rfl rfl)) (Y.v 1)))
      (Y.bone (Y.ret (Y.and (Y.cmp op_le Y.ro_bl (Y.op op_sub Y.ro_int0 Y.int (Y.v 2)) (Y.v 0)) (Y.one (Y.cmp op_lt Y.ro_bl (Y.v 0) (Y.v 2))))))), ?_⟩
  refine seqT fun N hN => ?_
  wp_walk using halves_at hk
  refine ⟨by decide, ?_⟩
  rw [hN]; clear hN N
  unfold fitW at q
  walk_at "rt"
  rw [show (0 : Int) - halfW k = -halfW k by omega]
  by_cases c : -halfW k ≤ d
  · rw [decide_eq_true c] at q ⊢
    walk_at "rt"
    exact q
  · rw [decide_eq_false c] at q ⊢
    walk_at "rt"
    exact q
noncomputable def tFar : TSp := fun args Q => ∃ (ss : List Int) (gs ws : List (Option Nat)) (t3 : L2.T) (i g : Nat), args = [.tup (nI ss), .tup (nO gs), t3, .int i] ∧ (t3 = .tup (nO ws) ∨ t3 = .lst (nO ws)) ∧ GW ss gs ws ∧ gs[i]? = some (some g) ∧ Q (.tr (.int ((plcs ss ws).getD g 0 - (plcs ss ws).getD (i + 1) 0))) []
theorem ok_far (T : Txt K mg) (F : HasFn K mg "_law_far" s__law_far ["sizes", "goals", "widths", "row"]) (h_law_places : CallOk P w K mg base CX0 1 "_law_places" ["sizes", "widths"] (spT K [false, false] tPlaces)) : CallOk P w K mg base CX0 2 "_law_far" ["sizes", "goals", "widths", "row"] (spT K [false, false, false, false] tFar) := by
  refine F.okT sc__law_far [false, false, false, false] rfl (by decide) (fun args Qt hl h f cdv A outer s H E hr => ?_)
  have hu := hu_of hr
  obtain ⟨ss, gs, ws, t3, i, g, rfl, h3, gw, eg, q⟩ := h
  refine ⟨_, (Y.bcons (Y.set (i := 4) sc__law_far.nd rfl (by first | exact Or.inl rfl | exact Or.inr rfl) (Y.fn K rfl h_law_places (hr.mono (by decide)) rfl pass0 (Y.cons (Y.v 0) (Y.cons (Y.v 2) Y.nil))))
      (Y.bone (Y.ret (Y.op op_sub Y.ro_int0 (Y.ix (Y.ix_G K rfl) Y.ro_ix (Y.v 4) (Y.ix (Y.ix_G K rfl) Y.ro_ix (Y.v 1) (Y.v 3))) (Y.ix (Y.ix_G K rfl) Y.ro_ix (Y.v 4) (Y.op (Y.op_addG K rfl) Y.ro_add (Y.v 3) Y.int)))))), ?_⟩
  have hlp := plcs_len (ss := ss) (ws := ws) gw.lw.symm
  have hi : i < ss.length := by rw [← gw.lg]; exact (List.getElem?_eq_some_iff.mp eg).1
  refine seqT fun N hN => ?_
  walk_at "rt"
  refine ⟨ss, ws, _, _, rfl, .inl rfl, h3, gw.lw.symm, gw.le, gw.w3, ?_⟩
  walk_at "rt"
  rw [hN]; clear hN N
  have a1 := at_nO eg
  have a2 := ps_at (getD_of (ps := plcs ss ws) (j := g) (by rw [hlp]; have := (gw.go i g eg).1; omega))
  have a3 : atI (nI (plcs ss ws)) ((i : Int) + 1) = some (.int ((plcs ss ws).getD (i + 1) 0)) := ps_at (j := i + 1) (getD_of (by rw [hlp]; omega))
  wp_walk using a1, oI, a2, a3
  exact q
noncomputable def tSize : TSp := fun args Q => ∃ (s : L2.T) (k : Int), args = [s, .int k] ∧ Seed s ∧ 0 ≤ k ∧ ∀ (v : Int) (s' : L2.T), Seed s' → 0 ≤ v → Q (.tr (.int v)) [s']
theorem ok_size (T : Txt K mg) (F : HasFn K mg "_law_size" s__law_size ["seed", "scale"]) (h_law_draw : CallOk P w K mg base CX0 1 "_law_draw" ["seed", "most"] (spT K [true, false] tDraw)) : CallOk P w K mg base CX0 2 "_law_size" ["seed", "scale"] (spT K [true, false] tSize) := by
  refine F.okT sc__law_size [true, false] rfl (by decide) (fun args Qt hl h f cdv A outer s H E hr => ?_)
  have hu := hu_of hr
  obtain ⟨sd, k, rfl, hs, k0, q⟩ := h
  refine ⟨_, (Y.bcons (Y.ifS (Y.tcmp op_lt Y.ro_bl (Y.v 1) Y.int) (Y.bone (Y.ret (Y.fn K rfl h_law_draw (hr.mono (by decide)) rfl pass0 (Y.cons (Y.v 0) (Y.cons (Y.ix (Y.ix_G K rfl) Y.ro_ix (Y.lst (Y.consts2 rfl rfl)) (Y.v 1)) Y.nil))))) Y.bnil)
      (Y.bcons (Y.ifS (Y.tw (Y.wor (Y.tcmp (Y.op_eqG K rfl (Nat.lt_of_succ_lt hu)) Y.ro_eq (Y.v 1) Y.int) (Y.wor1 (Y.tcmp op_gt Y.ro_bl (Y.fn K rfl h_law_draw (hr.mono (by decide)) rfl pass0 (Y.cons (Y.v 0) (Y.cons Y.int Y.nil))) Y.int)))) (Y.bone (Y.ret (Y.fn K rfl h_law_draw (hr.mono (by decide)) rfl pass0 (Y.cons (Y.v 0) (Y.cons Y.int Y.nil))))) Y.bnil)
      (Y.bone (Y.ret (Y.ix (Y.ix_G K rfl) Y.ro_ix (Y.lst (Y.cons (Y.fn K rfl h_law_draw (hr.mono (by decide)) rfl pass0 (Y.cons (Y.v 0) (Y.cons Y.int Y.nil))) (Y.cons (Y.fn K rfl h_law_draw (hr.mono (by decide)) rfl pass0 (Y.cons (Y.v 0) (Y.cons (Y.op (Y.op_addG K rfl) Y.ro_add (Y.op op_pow Y.ro_int Y.int Y.int) Y.int) Y.nil))) Y.nil))) (Y.fn K rfl h_law_draw (hr.mono (by decide)) rfl pass0 (Y.cons (Y.v 0) (Y.cons Y.int Y.nil)))))))), ?_⟩
  refine seqT fun N hN => ?_
  by_cases h1 : k < 2
  · obtain ⟨m, hm, m1, m2⟩ : ∃ m : Int, atI [L2.T.int 4, .int 14] k = some (.int m) ∧ 1 ≤ m ∧ m ≤ 14 := by
      rcases (show k = 0 ∨ k = 1 by omega) with rfl | rfl
      · exact ⟨4, rfl, by decide, by decide⟩
      · exact ⟨14, rfl, by decide, by decide⟩
    wp_walk using if_pos h1, hm
    exact ⟨by decide, sd, m, rfl, hs, m1, Int.lt_of_le_of_lt m2 (by decide), fun v s' hs' v0 _ => by walk_at "rt"; exact q v s' hs' v0⟩
  · wp_walk using if_neg h1
    rw [hN]; clear hN N
    refine seqT fun N hN => ?_
    by_cases h2 : k = 2
    · wp_walk using if_pos h2
      exact ⟨sd, 60, rfl, hs, by decide, by decide, fun v s' hs' v0 _ => by walk_at "rt"; exact q v s' hs' v0⟩
    · wp_walk using if_neg h2
      refine ⟨sd, 6, rfl, hs, by decide, by decide, fun v s' hs' _ _ => ?_⟩
      by_cases h3 : 0 < v
      · wp_walk using if_pos h3
        exact ⟨s', 60, rfl, hs', by decide, by decide, fun v s' hs' v0 _ => by walk_at "rt"; exact q v s' hs' v0⟩
      · wp_walk using if_neg h3
        rw [hN]; clear hN N
        walk_at "rt"
        refine ⟨s', 33000, rfl, hs', by decide, by decide, fun v1 s1 hs1 v10 _ => ?_⟩
        walk_at "rt"
        refine ⟨⟨by decide, by decide, by decide⟩, s1, 1000001, rfl, hs1, by decide, by decide, fun v2 s2 hs2 v20 _ => ?_⟩
        walk_at "rt"
        refine ⟨by decide, s2, 2, rfl, hs2, by decide, by decide, fun v3 s3 hs3 g0 g1 => ?_⟩
        have hv : v3 = 0 ∨ v3 = 1 := by omega
        rcases hv with rfl | rfl
        · walk_at "rt"; exact q v1 s3 hs3 v10
        · walk_at "rt"; exact q v2 s3 hs3 v20
noncomputable def tWidths : TSp := fun args Q => ∃ (s : L2.T) (gs : List (Option Nat)) (mo : Int), args = [s, .tup (nO gs), .int mo] ∧ 1 ≤ mo ∧ mo ≤ 3 ∧ Seed s ∧ gs.length ≤ 60 ∧ ∀ (ws : List (Option Nat)) (s' : L2.T), Seed s' → ws.length = gs.length → Ws ws → (∀ (j g : Nat), gs[j]? = some (some g) → ∃ k, ws[j]? = some (some k)) → Q (.tr (.tup (nO ws))) [s']
theorem ok_widths (T : Txt K mg) (F : HasFn K mg "_law_widths" s__law_widths ["seed", "goals", "most"]) (h_law_draw : CallOk P w K mg base CX0 1 "_law_draw" ["seed", "most"] (spT K [true, false] tDraw)) : CallOk P w K mg base CX0 2 "_law_widths" ["seed", "goals", "most"] (spT K [true, false, false] tWidths) := by
  refine F.okT sc__law_widths [true, false, false] rfl (by decide) (fun args Qt hl h f cdv A outer s H E hr => ?_)
  have hu := hu_of hr
  obtain ⟨sd, gs, mo, rfl, mo1, mo3, hs, hg, q⟩ := h
  refine ⟨_, (Y.bone (Y.ret (Y.ct (Y.call_tupG K rfl) Y.rc_tuple rfl T.b_tuple (by decide +kernel) (Y.cons (Y.comp1 (osc := defScope s__law_widths) (ON := ["seed", "goals", "most"]) (own := ["goal"]) (N := ["goal", "seed", "goals", "most"]) ⟨rfl, by decide +kernel, rfl, by decide +kernel, by decide +kernel, by decide +kernel, by decide +kernel, by decide +kernel⟩ rfl rfl rfl rfl (Y.any K rfl (Y.v 1)) (fun _ _ _ _ => (Z.gname (i := 0) (show List.Nodup (["goal", "seed", "goals", "most"] : List Str) by decide +kernel) rfl (by first | exact Or.inl rfl | exact Or.inr rfl))) (fun _ _ _ _ => Y.ts0) (fun _ _ _ _ => (Y.ifE (Y.tcmp op_isN Y.ro_isN (Y.v 0) Y.non) Y.non (Y.fn K rfl h_law_draw (hr.mono (by decide)) rfl pass0 (Y.cons (Y.v 1) (Y.cons (Y.v 3) Y.nil)))))) Y.nil)))), ?_⟩
  walk_at "rt"
  refine cmp_ind (fun rest acc μ => ∃ (gs1 gs2 ws : List (Option Nat)) (s' : L2.T), gs = gs1 ++ gs2 ∧ rest = nO gs2 ∧ acc = nO ws ∧ ws.length = gs1.length ∧ Ws ws ∧ (∀ (j g : Nat), gs1[j]? = some (some g) → ∃ k, ws[j]? = some (some k)) ∧ μ = [.pb s', .tr (.tup (nO gs)), .tr (.int mo)] ∧ Seed s')
    ⟨[], gs, [], sd, rfl, rfl, rfl, rfl, (fun w h => by cases h), (fun j g e => by simp at e), rfl, hs⟩ ?_ ?_
  · rintro acc μ ⟨gs1, gs2, ws, s', e, e2, rfl, hl', h1, h2, rfl, hs'⟩
    cases gs2 with
    | cons => cases e2
    | nil =>
      rw [List.append_nil] at e
      subst e
      refine ⟨trivial, ?_⟩
      walk_at "rt"
      exact q ws s' hs' hl' h1 h2
  · rintro t r acc μ N ⟨gs1, gs2, ws, s', e, e2, rfl, hl', h1, h2, rfl, hs'⟩ k
    cases gs2 with
    | nil => cases e2
    | cons g gs2 =>
      cases e2
      have hz : (nO ws).length < sizeLine := by rw [nO_len, hl']; exact Nat.lt_of_le_of_lt (show gs1.length ≤ 60 by rw [e] at hg; simp at hg; omega) (by decide)
      refine ⟨trivial, hz, ?_⟩
      have step : ∀ (w' : Option Nat) (s2 : L2.T), Seed s2 → (∀ k, w' = some k → k < 3) → (∀ g', g = some g' → ∃ k, w' = some k) → N (nO ws ++ [oI w']) [.pb s2, .tr (.tup (nO gs)), .tr (.int mo)] := fun w' s2 hs2 g1 g2 => by
        refine k _ _ ⟨gs1 ++ [g], gs2, ws ++ [w'], s2, by simp [e], rfl, by simp [nO], by simp [hl'], fun x hx => ?_, fun j g' ej => ?_, rfl, hs2⟩
        · rcases List.mem_append.mp hx with z | z
          · exact h1 x z
          · rw [List.mem_singleton.mp z]; exact g1
        · rcases Nat.lt_or_ge j gs1.length with z | z
          · rw [List.getElem?_append_left z] at ej
            obtain ⟨k, ek⟩ := h2 j g' ej
            exact ⟨k, by rw [List.getElem?_append_left (by rw [hl']; exact z)]; exact ek⟩
          · rw [List.getElem?_append_right z] at ej
            have hj : j - gs1.length = 0 := by
              rcases Nat.eq_zero_or_pos (j - gs1.length) with z2 | z2
              · exact z2
              · rw [List.getElem?_eq_none_iff.mpr (by simpa using Nat.succ_le_of_lt z2)] at ej; cases ej
            rw [hj] at ej
            have eg : g = some g' := by simpa using ej
            obtain ⟨k, ek⟩ := g2 g' eg
            refine ⟨k, ?_⟩
            rw [List.getElem?_append_right (by rw [hl']; exact z), hl', hj, ek]; rfl
      cases g with
      | none =>
        wp_walk using oI
        exact step none s' hs' (fun k z => by cases z) (fun g' z => by cases z)
      | some g' =>
        wp_walk using oI
        refine ⟨s', mo, rfl, hs', by omega, by omega, fun v s2 hs2 v0 v1 => ?_⟩
        walk_at "rt"
        obtain ⟨n, rfl⟩ : ∃ n : Nat, v = n := ⟨v.toNat, by omega⟩
        exact step (some n) s2 hs2 (fun k z => by cases z; omega) (fun g' z => ⟨n, rfl⟩)

theorem cut_take (xs : List Int) (n : Nat) : Y.cutG (nI xs) none (some (n : Int)) = nI (xs.take n) := by
  unfold Y.cutG
  rw [HT.sIx_none, HT.sIx_nat, Nat.sub_zero, List.drop_zero]
  unfold nI
  rw [List.length_map, ← List.map_take]
  congr 1
  rw [List.take_eq_take_iff]
  omega
theorem cut_drop (xs : List Int) (n : Nat) : Y.cutG (nI xs) (some (n : Int)) none = nI (xs.drop n) := by
  unfold Y.cutG
  rw [HT.sIx_none, HT.sIx_nat]
  unfold nI
  rw [List.length_map, ← List.map_drop]
  rcases Nat.lt_or_ge n xs.length with z | z
  · rw [Nat.min_eq_left (by omega)]
    rw [List.take_of_length_le (by simp)]
  · rw [Nat.min_eq_right z, Nat.sub_self, List.take_zero, List.drop_eq_nil_of_le z]; rfl
noncomputable def nN : List Nat → List L2.T := List.map fun j => .int (j : Int)
theorem nN_len (xs : List Nat) : (nN xs).length = xs.length := List.length_map ..
theorem flat_nN : ∀ xs : List Nat, (nN xs).all flatT = true
  | [] => rfl
  | x :: xs => by show (true && (nN xs).all flatT) = true; rw [flat_nN xs]; rfl
theorem eq_nil (xs : List L2.T) : Y.eqFs xs [] = xs.isEmpty := by
  cases xs with
  | nil => rfl
  | cons x xs => unfold Y.eqFs; simp
theorem at_nN {xs : List Nat} {v : Int} (h0 : 0 ≤ v) (h1 : v < xs.length) : ∃ j, j ∈ xs ∧ atI (nN xs) v = some (.int (j : Int)) := by
  obtain ⟨n, rfl⟩ : ∃ n : Nat, v = n := ⟨v.toNat, by omega⟩
  have hn : n < xs.length := by omega
  refine ⟨xs[n], List.getElem_mem hn, atI_nat ?_⟩
  unfold nN
  rw [List.getElem?_map, List.getElem?_eq_getElem hn]; rfl
theorem rng_nN (lo hi : Nat) : ((List.range ((hi : Int) - (lo : Int)).toNat).map fun k => L2.T.int ((lo : Int) + (k : Nat))) = nN ((List.range (hi - lo)).map (lo + ·)) := by
  have : ((hi : Int) - (lo : Int)).toNat = hi - lo := by omega
  rw [this]
  unfold nN
  rw [List.map_map]
  apply List.map_congr_left
  intro k _
  simp
noncomputable def tEdged : TSp := fun args Q => ∃ (s : L2.T) (ss : List Int) (gs ws : List (Option Nat)), args = [s, .tup (nI ss), .tup (nO gs), .tup (nO ws)] ∧ Seed s ∧ GW ss gs ws ∧ (∀ x ∈ ss, 0 ≤ x) ∧ ∀ (zs : List Int) (s' : L2.T), Seed s' → zs.length = ss.length → (∀ x ∈ zs, 0 ≤ x) → Q (.tr (.tup (nI zs))) [s']
theorem ok_edged (T : Txt K mg) (F : HasFn K mg "_law_edged" s__law_edged ["seed", "sizes", "goals", "widths"]) (h_law_draw : CallOk P w K mg base CX0 1 "_law_draw" ["seed", "most"] (spT K [true, false] tDraw)) (h_law_far : CallOk P w K mg base CX0 2 "_law_far" ["sizes", "goals", "widths", "row"] (spT K [false, false, false, false] tFar)) :
    CallOk P w K mg base CX0 3 "_law_edged" ["seed", "sizes", "goals", "widths"] (spT K [true, false, false, false] tEdged) := by
  refine F.okT sc__law_edged [true, false, false, false] rfl (by decide) (fun args Qt hl h f cdv A outer s H E hr => ?_)
  have hu := hu_of hr
  obtain ⟨sd, ss, gs, ws, rfl, hs, gw, hnn, q⟩ := h
  refine ⟨_, (Y.bcons (Y.setC1 (j := 4) sc__law_edged.nd rfl (by first | exact Or.inl rfl | exact Or.inr rfl) (osc := defScope s__law_edged) (ON := ["seed", "sizes", "goals", "widths", "rows", "row", "between", "most", "at", "far", "more"]) (own := ["row"]) (N := ["row", "seed", "sizes", "goals", "widths", "rows", ".row", "between", "most", "at", "far", "more"]) ⟨rfl, by decide +kernel, rfl, by decide +kernel, by decide +kernel, by decide +kernel, by decide +kernel, by decide +kernel⟩ rfl rfl rfl rfl (Y.rng1 rfl T.b_range (Y.cons (Y.cb (Y.call_lenG K rfl) Y.rc_len rfl T.b_len (by decide +kernel) (Y.cons (Y.v 2) Y.nil)) Y.nil)) (fun _ _ _ _ => (Z.gname (i := 0) (show List.Nodup (["row", "seed", "sizes", "goals", "widths", "rows", ".row", "between", "most", "at", "far", "more"] : List Str) by decide +kernel) rfl (by first | exact Or.inl rfl | exact Or.inr rfl))) (fun _ _ _ _ => (Y.ts1 (Y.tcmp op_notN Y.ro_notN (Y.ix (Y.ix_G K rfl) Y.ro_ix (Y.v 3) (Y.v 0)) Y.non))) (fun _ _ _ _ => (Y.v 0)))
      (Y.bcons (Y.ifS (Y.tcmp (Y.op_eqG K rfl (Nat.lt_of_succ_lt hu)) Y.ro_eq (Y.v 4) (Y.lst Y.nil)) (Y.bone (Y.ret (Y.v 1))) Y.bnil)
      (Y.bcons (Y.set (i := 5) sc__law_edged.nd rfl (by first | exact Or.inl rfl | exact Or.inr rfl) (Y.ix (Y.ix_G K rfl) Y.ro_ix (Y.v 4) (Y.fn K rfl h_law_draw (hr.mono (by decide)) rfl pass0 (Y.cons (Y.v 0) (Y.cons (Y.cb (Y.call_lenG K rfl) Y.rc_len rfl T.b_len (by decide +kernel) (Y.cons (Y.v 4) Y.nil)) Y.nil)))))
      (Y.bcons (Y.set (i := 6) sc__law_edged.nd rfl (by first | exact Or.inl rfl | exact Or.inr rfl) (Y.op (Y.op_addG K rfl) Y.ro_add (Y.ct (Y.call_listG K rfl rfl) Y.rc_list rfl T.b_list (by decide +kernel) (Y.cons (Y.ct Y.call_rangeG Y.rc_range rfl T.b_range (by decide +kernel) (Y.cons (Y.op (Y.op_addG K rfl) Y.ro_add (Y.v 5) Y.int) (Y.cons (Y.ix (Y.ix_G K rfl) Y.ro_ix (Y.v 2) (Y.v 5)) Y.nil))) Y.nil)) (Y.ct (Y.call_listG K rfl rfl) Y.rc_list rfl T.b_list (by decide +kernel) (Y.cons (Y.ct Y.call_rangeG Y.rc_range rfl T.b_range (by decide +kernel) (Y.cons (Y.ix (Y.ix_G K rfl) Y.ro_ix (Y.v 2) (Y.v 5)) (Y.cons (Y.op (Y.op_addG K rfl) Y.ro_add (Y.v 5) Y.int) Y.nil))) Y.nil))))
      (Y.bcons (Y.set (i := 7) sc__law_edged.nd rfl (by first | exact Or.inl rfl | exact Or.inr rfl) (Y.ix (Y.ix_G K rfl) Y.ro_ix (Y.lst (Y.consts2 rfl rfl)) (Y.fn K rfl h_law_draw (hr.mono (by decide)) rfl pass0 (Y.cons (Y.v 0) (Y.cons Y.int Y.nil)))))
      (Y.bcons (Y.ifS (Y.tcmp (Y.op_eqG K rfl (Nat.lt_of_succ_lt hu)) Y.ro_eq (Y.v 6) (Y.lst Y.nil)) (Y.bone (Y.ret (Y.v 1))) Y.bnil)
      (Y.bcons (Y.set (i := 8) sc__law_edged.nd rfl (by first | exact Or.inl rfl | exact Or.inr rfl) (Y.ix (Y.ix_G K rfl) Y.ro_ix (Y.v 6) (Y.fn K rfl h_law_draw (hr.mono (by decide)) rfl pass0 (Y.cons (Y.v 0) (Y.cons (Y.cb (Y.call_lenG K rfl) Y.rc_len rfl T.b_len (by decide +kernel) (Y.cons (Y.v 6) Y.nil)) Y.nil)))))
      (Y.bcons (Y.set (i := 9) sc__law_edged.nd rfl (by first | exact Or.inl rfl | exact Or.inr rfl) (Y.fn K rfl h_law_far (hr.mono (by decide)) rfl pass0 (Y.cons (Y.v 1) (Y.cons (Y.v 2) (Y.cons (Y.v 3) (Y.cons (Y.v 5) Y.nil))))))
      (Y.bcons (Y.set (i := 10) sc__law_edged.nd rfl (by first | exact Or.inl rfl | exact Or.inr rfl) (Y.op op_sub Y.ro_int0 (Y.v 7) (Y.v 9)))
      (Y.bcons (Y.ifS (Y.tcmp op_le Y.ro_bl (Y.ix (Y.ix_G K rfl) Y.ro_ix (Y.v 2) (Y.v 5)) (Y.v 5)) (Y.bone (Y.set (i := 10) sc__law_edged.nd rfl (by first | exact Or.inl rfl | exact Or.inr rfl) (Y.op (Y.op_addG K rfl) Y.ro_add (Y.op (Y.op_addG K rfl) Y.ro_add (Y.v 7) Y.int) (Y.v 9)))) Y.bnil)
      (Y.bcons (Y.ifS (Y.tnot (Y.tchain op_le Y.ro_bl op_le Y.ro_bl Y.int (Y.op (Y.op_addG K rfl) Y.ro_add (Y.ix (Y.ix_G K rfl) Y.ro_ix (Y.v 1) (Y.v 8)) (Y.v 10)) (Y.op op_pow Y.ro_int Y.int Y.int))) (Y.bone (Y.ret (Y.v 1))) Y.bnil)
      (Y.bone (Y.ret (Y.op (Y.op_addG K rfl) Y.ro_add (Y.op (Y.op_addG K rfl) Y.ro_add (Y.sliceX K rfl (Y.v 1) Y.po0 (Y.po1 (Y.v 8))) (Y.tup (Y.cons (Y.op (Y.op_addG K rfl) Y.ro_add (Y.ix (Y.ix_G K rfl) Y.ro_ix (Y.v 1) (Y.v 8)) (Y.v 10)) Y.nil))) (Y.sliceX K rfl (Y.v 1) (Y.po1 (Y.op (Y.op_addG K rfl) Y.ro_add (Y.v 8) Y.int)) Y.po0))))))))))))))), ?_⟩
  have hgl : gs.length ≤ 60 := by rw [gw.lg]; exact gw.le
  -- rows
  refine seqT fun N hN => ?_
  wp_walk using nO_len
  refine ⟨by omega, by omega, ?_⟩
  refine cmp_ind (fun rest acc μ => ∃ (i : Nat) (rows : List Nat), rest = ((List.range gs.length).map fun k => L2.T.int (0 + (k : Nat))).drop i ∧ i ≤ gs.length ∧ acc = nN rows ∧ rows.length ≤ i ∧ (∀ j ∈ rows, ∃ g, gs[j]? = some (some g)) ∧ μ = [.pb sd, .tr (.tup (nI ss)), .tr (.tup (nO gs)), .tr (.tup (nO ws)), .un, .un, .un, .un, .un, .un, .un])
    ⟨0, [], by rw [show ((gs.length : Int)).toNat = gs.length by omega]; rfl, Nat.zero_le _, rfl, Nat.le_refl _, (fun j h => by cases h), rfl⟩ ?_ ?_
  · rintro acc μ ⟨i, rows, _, _, rfl, hrl, hrow, rfl⟩
    refine ⟨trivial, ?_⟩
    walk_at "rt"
    rw [hN]; clear hN N
    refine seqT fun N hN => ?_
    wp_walk using flat_nN, eq_nil, List.all_nil
    by_cases hr0 : rows = []
    · subst hr0
      wp_walk using nN, List.isEmpty_nil
      exact q ss sd hs rfl hnn
    · have hne : (nN rows).isEmpty = false := by cases rows with | nil => exact absurd rfl hr0 | cons => rfl
      wp_walk using hne
      rw [hN]; clear hN N
      have hpos : 0 < rows.length := List.length_pos_iff.mpr hr0
      -- row
      refine seqT fun N hN => ?_
      wp_walk using nN_len
      refine ⟨sd, rows.length, rfl, hs, by omega, by omega, fun v s1 hs1 v0 v1 => ?_⟩
      obtain ⟨row, hrm, erow⟩ := at_nN v0 v1
      obtain ⟨g, eg⟩ := hrow row hrm
      have hg := (gw.go row g eg).1
      have hrow2 : row < ss.length := by rw [← gw.lg]; exact (List.getElem?_eq_some_iff.mp eg).1
      have hle := gw.le
      have ag := at_nO eg
      wp_walk using erow
      rw [hN]; clear hN N
      -- between
      refine seqT fun N hN => ?_
      wp_walk using ag, oI
      refine ⟨⟨by omega, by omega, by omega, by omega, by omega⟩, ⟨by omega, by omega, by omega, by omega, by omega⟩, ?_⟩
      have r1 := rng_nN (row + 1) g
      have r2 := rng_nN g (row + 1)
      rw [show ((row + 1 : Nat) : Int) = (row : Int) + 1 by omega] at r1 r2
      rw [r1, r2]
      generalize hb1 : (List.range (g - (row + 1))).map (row + 1 + ·) = b1
      generalize hb2 : (List.range (row + 1 - g)).map (g + ·) = b2
      have hb : ∀ j ∈ b1 ++ b2, j < ss.length := fun j hj => by
        rcases List.mem_append.mp hj with z | z
        · rw [← hb1] at z; simp at z; omega
        · rw [← hb2] at z; simp at z; omega
      have hbl : (b1 ++ b2).length ≤ 200 := by rw [← hb1, ← hb2]; simp; omega
      have hbs : (nN b1).length + (nN b2).length ≤ sizeLine := by rw [nN_len, nN_len, ← List.length_append]; exact Nat.le_trans hbl (by decide)
      have happ : nN b1 ++ nN b2 = nN (b1 ++ b2) := by unfold nN; rw [List.map_append]
      rw [happ]
      refine ⟨by simp only [List.length_range]; exact Nat.le_trans (show _ ≤ 200 by omega) (by decide), ?_⟩
      generalize b1 ++ b2 = bt at hb hbl
      rw [hN]; clear hN N
      -- most
      refine seqT fun N hN => ?_
      walk_at "rt"
      refine ⟨by decide, s1, 6, rfl, hs1, by decide, by decide, fun v2 s2 hs2 w0 w1 => ?_⟩
      obtain ⟨most, em⟩ : ∃ most : Int, atI [L2.T.int 7, .int 8, .int 127, .int 128, .int 32767, .int 32768] v2 = some (.int most) := by
        have : v2 = 0 ∨ v2 = 1 ∨ v2 = 2 ∨ v2 = 3 ∨ v2 = 4 ∨ v2 = 5 := by omega
        rcases this with rfl | rfl | rfl | rfl | rfl | rfl
        · exact ⟨7, rfl⟩
        · exact ⟨8, rfl⟩
        · exact ⟨127, rfl⟩
        · exact ⟨128, rfl⟩
        · exact ⟨32767, rfl⟩
        · exact ⟨32768, rfl⟩
      wp_walk using em
      rw [hN]; clear hN N
      -- nothing between
      refine seqT fun N hN => ?_
      wp_walk using flat_nN, eq_nil, List.all_nil
      by_cases hbt : bt = []
      · subst hbt
        wp_walk using nN, List.isEmpty_nil
        exact q ss s2 hs2 rfl hnn
      · have hne2 : (nN bt).isEmpty = false := by cases bt with | nil => exact absurd rfl hbt | cons => rfl
        wp_walk using hne2
        rw [hN]; clear hN N
        have hpos2 : 0 < bt.length := List.length_pos_iff.mpr hbt
        -- at
        refine seqT fun N hN => ?_
        wp_walk using nN_len
        refine ⟨s2, bt.length, rfl, hs2, by omega, by omega, fun v3 s3 hs3 x0 x1 => ?_⟩
        obtain ⟨at', ham, eat⟩ := at_nN x0 x1
        have hat := hb at' ham
        wp_walk using eat
        rw [hN]; clear hN N
        -- far
        refine seqT fun N hN => ?_
        walk_at "rt"
        refine ⟨ss, gs, ws, _, row, g, rfl, .inl rfl, gw, eg, ?_⟩
        generalize (plcs ss ws).getD g 0 - (plcs ss ws).getD (row + 1) 0 = far
        walk_at "rt"
        rw [hN]; clear hN N
        -- more
        refine seqT fun N hN => ?_
        walk_at "rt"
        rw [hN]; clear hN N
        obtain ⟨x, ex⟩ : ∃ x, ss[at']? = some x := ⟨_, List.getElem?_eq_getElem hat⟩
        have ax := ps_at ex
        have a1 : Y.cutG (nI ss) none (some (at' : Int)) = nI (ss.take at') := cut_take ss at'
        have a2 : Y.cutG (nI ss) (some ((at' : Int) + 1)) none = nI (ss.drop (at' + 1)) := cut_drop ss (at' + 1)
        have tail : ∀ (μ : Mu) (more : Int) (N : Mu → Prop), True := fun _ _ _ => trivial
        refine seqT fun N hN => ?_
        have rest : ∀ more : Int, N [.pb s3, .tr (.tup (nI ss)), .tr (.tup (nO gs)), .tr (.tup (nO ws)), .bx (.lst (nN rows)), .tr (.int (row : Int)), .bx (.lst (nN bt)), .tr (.int most), .tr (.int (at' : Int)), .tr (.int far), .tr (.int more)] := fun more => by
          rw [hN]; clear hN N
          refine seqT fun N hN => ?_
          wp_walk using ax
          have go : (0 : Int) ≤ x + more → N [.pb s3, .tr (.tup (nI ss)), .tr (.tup (nO gs)), .tr (.tup (nO ws)), .bx (.lst (nN rows)), .tr (.int (row : Int)), .bx (.lst (nN bt)), .tr (.int most), .tr (.int (at' : Int)), .tr (.int far), .tr (.int more)] := fun c1 => by
            rw [hN]; clear hN N
            wp_walk using ax, a1, a2, nI_len
            refine ⟨by decide, ?_, ?_, ?_⟩
            · have : (ss.take at').length + 1 ≤ 100 := by rw [List.length_take]; omega
              exact Nat.le_trans this (by decide)
            · have : (nI (ss.take at') ++ [L2.T.int (x + more)]).length + (ss.drop (at' + 1)).length ≤ 200 := by rw [List.length_append, nI_len]; simp; omega
              exact Nat.le_trans this (by decide)
            · have e : nI (ss.take at') ++ [L2.T.int (x + more)] ++ nI (ss.drop (at' + 1)) = nI (ss.take at' ++ [x + more] ++ ss.drop (at' + 1)) := by unfold nI; simp
              first | rw [e] | (rw [List.append_assoc] at e; rw [e])
              refine q _ s3 hs3 (by simp; omega) fun z hz => ?_
              rcases List.mem_append.mp hz with z1 | z1
              · rcases List.mem_append.mp z1 with z2 | z2
                · exact hnn z (List.mem_of_mem_take z2)
                · rw [List.mem_singleton.mp z2]; exact c1
              · exact hnn z (List.mem_of_mem_drop z1)
          by_cases c1 : (0 : Int) ≤ x + more
          · rw [decide_eq_true c1]
            walk_at "rt"
            refine ⟨⟨by decide, by decide, by decide⟩, ?_⟩
            by_cases c2 : x + more ≤ 1000000
            · rw [if_neg (fun z => z c2)]
              exact go c1
            · rw [if_pos c2]
              exact q ss s3 hs3 rfl hnn
          · rw [decide_eq_false c1]
            walk_at "rt"
            exact q ss s3 hs3 rfl hnn
        by_cases c : (g : Int) ≤ (row : Int)
        · wp_walk using ag, oI, if_pos c
          exact rest _
        · wp_walk using ag, oI, if_neg c
          exact rest _
  · rintro t r acc μ M ⟨i, rows, e, hi, rfl, hrl, hrow, rfl⟩ k
    have hi2 : i < gs.length := by
      rcases Nat.lt_or_ge i gs.length with z | z
      · exact z
      · rw [List.drop_eq_nil_of_le (by simpa using z)] at e; cases e
    rw [List.drop_eq_getElem_cons (by simpa using hi2)] at e
    cases e
    have eg : gs[i]? = some gs[i] := List.getElem?_eq_getElem hi2
    have ag := at_nO eg
    have ei : (0 : Int) + ((List.range gs.length)[i]'(by simpa using hi2) : Nat) = (i : Int) := by simp
    refine ⟨trivial, by rw [nN_len]; exact Nat.lt_of_le_of_lt (show rows.length ≤ 60 by omega) (by decide), ?_⟩
    simp only [List.getElem_map]
    rw [ei]
    cases hgo : gs[i] with
    | none =>
      rw [hgo] at ag
      wp_walk using ag, oI
      exact k _ _ ⟨i + 1, rows, rfl, hi2, rfl, by omega, hrow, rfl⟩
    | some g =>
      rw [hgo] at ag eg
      wp_walk using ag, oI
      refine k _ _ ⟨i + 1, rows ++ [i], rfl, hi2, by simp [nN], by simp; omega, fun j hj => ?_, rfl⟩
      rcases List.mem_append.mp hj with z | z
      · exact hrow j z
      · rw [List.mem_singleton.mp z]; exact ⟨g, eg⟩

/-- goals up to n -/
noncomputable def Gs (n : Nat) (gs : List (Option Nat)) : Prop := ∀ (j g : Nat), gs[j]? = some (some g) → g ≤ n
noncomputable def tQuestion : TSp := fun args Q => ∃ (s : L2.T) (mo : Int), args = [s, .int mo] ∧ 1 ≤ mo ∧ mo ≤ 60 ∧ Seed s ∧ ∀ (ss : List Int) (gs : List (Option Nat)) (s' : L2.T), Seed s' → ss.length ≤ 60 → (mo ≤ 8 → ss.length ≤ 8) → gs.length = ss.length → Gs ss.length gs → (∀ x ∈ ss, 0 ≤ x) → Q (.fr (.lst [.tup (nI ss), .tup (nO gs)])) [s']
theorem ok_question (T : Txt K mg) (F : HasFn K mg "_law_question" s__law_question ["seed", "most"]) (h_law_draw : CallOk P w K mg base CX0 1 "_law_draw" ["seed", "most"] (spT K [true, false] tDraw)) (h_law_size : CallOk P w K mg base CX0 2 "_law_size" ["seed", "scale"] (spT K [true, false] tSize)) :
    CallOk P w K mg base CX0 3 "_law_question" ["seed", "most"] (spT K [true, false] tQuestion) := by
  refine F.okT sc__law_question [true, false] rfl (by decide) (fun args Qt hl h f cdv A outer s H E hr => ?_)
  have hu := hu_of hr
  obtain ⟨sd, mo, rfl, mo1, mo60, hs, q⟩ := h
  refine ⟨_, (Y.bcons (Y.set (i := 2) sc__law_question.nd rfl (by first | exact Or.inl rfl | exact Or.inr rfl) (Y.fn K rfl h_law_draw (hr.mono (by decide)) rfl pass0 (Y.cons (Y.v 0) (Y.cons Y.int Y.nil))))
      (Y.bcons (Y.ifS (Y.tcmp (Y.op_eqG K rfl (Nat.lt_of_succ_lt hu)) Y.ro_eq (Y.fn K rfl h_law_draw (hr.mono (by decide)) rfl pass0 (Y.cons (Y.v 0) (Y.cons Y.int Y.nil))) Y.int) (Y.bone (Y.set (i := 2) sc__law_question.nd rfl (by first | exact Or.inl rfl | exact Or.inr rfl) (Y.op op_sub Y.ro_int0 (Y.v 1) (Y.fn K rfl h_law_draw (hr.mono (by decide)) rfl pass0 (Y.cons (Y.v 0) (Y.cons (Y.op (Y.op_addG K rfl) Y.ro_add Y.int (Y.op Y.op_fdivG Y.ro_int (Y.v 1) Y.int)) Y.nil)))))) Y.bnil)
      (Y.bcons (Y.set (i := 3) sc__law_question.nd rfl (by first | exact Or.inl rfl | exact Or.inr rfl) (Y.fn K rfl h_law_draw (hr.mono (by decide)) rfl pass0 (Y.cons (Y.v 0) (Y.cons Y.int Y.nil))))
      (Y.bcons (Y.set (i := 4) sc__law_question.nd rfl (by first | exact Or.inl rfl | exact Or.inr rfl) (Y.ct (Y.call_tupG K rfl) Y.rc_tuple rfl T.b_tuple (by decide +kernel) (Y.cons (Y.comp1 (osc := defScope s__law_question) (ON := ["seed", "most", "many", "scale", "sizes", "goals", "row"]) (own := ["row"]) (N := ["row", "seed", "most", "many", "scale", "sizes", "goals", ".row"]) ⟨rfl, by decide +kernel, rfl, by decide +kernel, by decide +kernel, by decide +kernel, by decide +kernel, by decide +kernel⟩ rfl rfl rfl rfl (Y.rng1 rfl T.b_range (Y.cons (Y.v 2) Y.nil)) (fun _ _ _ _ => (Z.gname (i := 0) (show List.Nodup (["row", "seed", "most", "many", "scale", "sizes", "goals", ".row"] : List Str) by decide +kernel) rfl (by first | exact Or.inl rfl | exact Or.inr rfl))) (fun _ _ _ _ => Y.ts0) (fun _ _ _ _ => (Y.fn K rfl h_law_size (hr.mono (by decide)) rfl pass0 (Y.cons (Y.v 1) (Y.cons (Y.v 4) Y.nil))))) Y.nil)))
      (Y.bcons (Y.set (i := 5) sc__law_question.nd rfl (by first | exact Or.inl rfl | exact Or.inr rfl) (Y.lst Y.nil))
      (Y.bcons (Y.forS PassesOwn.never rfl (Y.rng1 rfl T.b_range (Y.cons (Y.v 2) Y.nil)) (Y.gname (i := 6) sc__law_question.nd rfl (by first | exact Or.inl rfl | exact Or.inr rfl)) (Y.bone (Y.expr (Y.bm K rfl PySem.F.slot_list_append PySem.F.type_list_append mt_append Y.rm_append (Y.v 5) (Y.cons (Y.ix (Y.ix_G K rfl) Y.ro_ix (Y.lst (Y.cons Y.non (Y.cons (Y.fn K rfl h_law_draw (hr.mono (by decide)) rfl pass0 (Y.cons (Y.v 0) (Y.cons (Y.op (Y.op_addG K rfl) Y.ro_add (Y.v 2) Y.int) Y.nil))) Y.nil))) (Y.ct ucall_int Y.rc_int rfl T.b_int (by decide +kernel) (Y.cons (Y.cmp op_gt Y.ro_bl (Y.fn K rfl h_law_draw (hr.mono (by decide)) rfl pass0 (Y.cons (Y.v 0) (Y.cons Y.int Y.nil))) Y.int) Y.nil))) Y.nil)))))
      (Y.bone (Y.ret (Y.lst (Y.cons (Y.v 4) (Y.cons (Y.ct (Y.call_tupG K rfl) Y.rc_tuple rfl T.b_tuple (by decide +kernel) (Y.cons (Y.v 5) Y.nil)) Y.nil))))))))))), ?_⟩
  refine seqT fun N hN => ?_
  walk_at "rt"
  refine ⟨sd, 9, rfl, hs, by decide, by decide, fun m1 s1 hs1 a0 a1 => ?_⟩
  walk_at "rt"
  rw [hN]; clear hN N
  refine seqT fun N hN => ?_
  -- whatever many is
  have rest : ∀ (many : Int) (s2 : L2.T), Seed s2 → 0 ≤ many → many ≤ 60 → (mo ≤ 8 → many ≤ 8) → N [.pb s2, .tr (.int mo), .tr (.int many), .un, .un, .un, .un] := fun many s2 hs2 b0 b1 b2 => by
    obtain ⟨n, rfl⟩ : ∃ n : Nat, many = n := ⟨many.toNat, by omega⟩
    rw [hN]; clear hN N
    refine seqT fun N hN => ?_
    walk_at "rt"
    refine ⟨s2, 5, rfl, hs2, by decide, by decide, fun sc s3 hs3 c0 c1 => ?_⟩
    walk_at "rt"
    rw [hN]; clear hN N
    refine seqT fun N hN => ?_
    walk_at "rt"
    refine ⟨by omega, by omega, ?_⟩
    refine cmp_ind (fun rest acc μ => ∃ (i : Nat) (ss : List Int) (s4 : L2.T), rest.length = n - i ∧ i ≤ n ∧ acc = nI ss ∧ ss.length = i ∧ (∀ x ∈ ss, 0 ≤ x) ∧ Seed s4 ∧ μ = [.pb s4, .tr (.int mo), .tr (.int (n : Int)), .tr (.int sc), .un, .un, .un]) ⟨0, [], s3, by simp, Nat.zero_le _, rfl, rfl, by simp, hs3, rfl⟩ ?_ ?_
    · rintro acc μ ⟨i, ss, s4, e, hi, rfl, hsl, hnn, hs4, rfl⟩
      have hin : i = n := by simp at e; omega
      subst hin
      refine ⟨trivial, ?_⟩
      walk_at "rt"
      rw [hN]; clear hN N
      refine seqT fun N hN => ?_
      walk_at "rt"
      rw [hN]; clear hN N
      refine seqT fun N hN => ?_
      walk_at "rt"
      refine ⟨by omega, by omega, ?_⟩
      refine for_ind (fun rest μ => ∃ (j : Nat) (gs : List (Option Nat)) (s5 : L2.T) (s6 : Option L2.T), rest.length = i - j ∧ j ≤ i ∧ gs.length = j ∧ Gs i gs ∧ Seed s5 ∧ μ = [.pb s5, .tr (.int mo), .tr (.int (i : Int)), .tr (.int sc), .tr (.tup (nI ss)), .bx (.lst (nO gs)), sl s6])
        ⟨0, [], s4, none, by simp, Nat.zero_le _, rfl, (fun j g e => by simp at e), hs4, rfl⟩ ?_ ?_
      · rintro μ ⟨j, gs, s5, s6, e, hj, hgl, hgs, hs5, rfl⟩
        have hji : j = i := by simp at e; omega
        show N _
        rw [hN]; clear hN N
        walk_at "rt"
        refine ⟨by decide, q ss gs s5 hs5 (by omega) (fun z => by have := b2 z; omega) (by omega) (by rw [hsl]; exact hgs) hnn⟩
      · rintro t ts μ M ⟨j, gs, s5, s6, e, hj, hgl, hgs, hs5, rfl⟩ k
        have hj2 : j < i := by simp at e; omega
        have hz : (nO gs).length < sizeLine := by rw [nO_len]; exact Nat.lt_of_le_of_lt (show gs.length ≤ 60 by omega) (by decide)
        have step : ∀ (g : Option Nat) (s7 : L2.T), Seed s7 → (∀ x, g = some x → x ≤ i) → M [.pb s7, .tr (.int mo), .tr (.int (i : Int)), .tr (.int sc), .tr (.tup (nI ss)), .bx (.lst (nO gs ++ [oI g])), .tr t] := fun g s7 hs7 hg => by
          refine k _ ⟨j + 1, gs ++ [g], s7, some t, by simp at e ⊢; omega, hj2, by simp [hgl], fun m x em => ?_, hs7, by simp [nO, sl]⟩
          rcases Nat.lt_or_ge m gs.length with z | z
          · rw [List.getElem?_append_left z] at em; exact hgs m x em
          · rw [List.getElem?_append_right z] at em
            rcases Nat.eq_zero_or_pos (m - gs.length) with z2 | z2
            · rw [z2] at em; exact hg x (by simpa using em)
            · rw [List.getElem?_eq_none_iff.mpr (by simpa using Nat.succ_le_of_lt z2)] at em; cases em
        walk_at "rt"
        refine ⟨s5, (i : Int) + 1, rfl, hs5, by omega, by omega, fun v s7 hs7 v0 v1 => ?_⟩
        walk_at "rt"
        refine ⟨by decide, s7, 3, rfl, hs7, by decide, by decide, fun v2 s8 hs8 w0 w1 => ?_⟩
        obtain ⟨x, rfl⟩ : ∃ x : Nat, v = x := ⟨v.toNat, by omega⟩
        by_cases c : 0 < v2
        · wp_walk using if_pos c
          exact ⟨hz, step (some x) s8 hs8 (fun y z => by cases z; omega)⟩
        · wp_walk using if_neg c
          exact ⟨hz, step none s8 hs8 (fun y z => by cases z)⟩
    · rintro t r acc μ M ⟨i, ss, s4, e, hi, rfl, hsl, hnn, hs4, rfl⟩ k
      have hi2 : i < n := by simp at e; omega
      refine ⟨trivial, by rw [nI_len, hsl]; exact Nat.lt_of_le_of_lt (show i ≤ 60 by omega) (by decide), ?_⟩
      walk_at "rt"
      refine ⟨s4, sc, rfl, hs4, c0, fun v s5 hs5 v0 => ?_⟩
      walk_at "rt"
      exact k _ _ ⟨i + 1, ss ++ [v], s5, by simp at e ⊢; omega, hi2, by simp [nI], by simp [hsl], (fun x hx => by rcases List.mem_append.mp hx with z | z; exact hnn x z; rw [List.mem_singleton.mp z]; exact v0), hs5, rfl⟩
  walk_at "rt"
  refine ⟨s1, 6, rfl, hs1, by decide, by decide, fun c s2 hs2 c0 c1 => ?_⟩
  by_cases h1 : c = 0
  · wp_walk using if_pos h1
    refine ⟨⟨by decide, by decide⟩, s2, 1 + mo / 2, rfl, hs2, by omega, by omega, fun v s3 hs3 v0 v1 => ?_⟩
    walk_at "rt"
    exact rest _ s3 hs3 (by omega) (by omega) (by omega)
  · wp_walk using if_neg h1
    exact rest m1 s2 hs2 (by omega) (by omega) (by omega)

noncomputable def nar (gs : List (Option Nat)) : List (Option Nat) := gs.map (Option.map fun _ => 0)
theorem nar_gw {ss : List Int} {gs : List (Option Nat)} (h1 : gs.length = ss.length) (h2 : ss.length ≤ 60) (hg : ∀ (j g : Nat), gs[j]? = some (some g) → g ≤ ss.length) : GW ss gs (nar gs) := by
  refine ⟨h1, by unfold nar; rw [List.length_map]; exact h1, h2, fun w hw k e => ?_, fun j g e => ⟨hg j g e, 0, by unfold nar; rw [List.getElem?_map, e]; rfl⟩⟩
  unfold nar at hw
  obtain ⟨x, _, rfl⟩ := List.mem_map.mp hw
  cases x with
  | none => cases e
  | some y => cases e; show 0 < 3; decide
noncomputable def stepW (ss : List Int) (gs ws : List (Option Nat)) (r : Int) : Option (List (Option Nat)) :=
  if r < 0 then none else if (gs.length : Int) ≤ r then none else match gs[r.toNat]?, ws[r.toNat]? with
    | some (some g), some (some k) => if k = 2 then none else if fitW ((plcs ss ws).getD g 0 - (plcs ss ws).getD (r.toNat + 1) 0) k = true then none else some (ws.set r.toNat (some (k + 1)))
    | _, _ => none
noncomputable def walkW (ss : List Int) (gs : List (Option Nat)) : List Int → List (Option Nat) → Option (List (Option Nat))
  | [], ws => some ws
  | r :: rs, ws => match stepW ss gs ws r with
    | none => none
    | some ws' => walkW ss gs rs ws'
theorem GW.set {ss : List Int} {gs ws : List (Option Nat)} (h : GW ss gs ws) {j k : Nat} (hk : k < 2) (e : ws[j]? = some (some k)) : GW ss gs (ws.set j (some (k + 1))) := by
  refine ⟨h.lg, by rw [List.length_set]; exact h.lw, h.le, fun w hw m em => ?_, fun i g eg => ⟨(h.go i g eg).1, ?_⟩⟩
  · rcases List.mem_or_eq_of_mem_set hw with z | z
    · exact h.w3 w z m em
    · rw [z] at em; cases em; omega
  · obtain ⟨m, em⟩ := (h.go i g eg).2
    by_cases z : j = i
    · subst z
      exact ⟨k + 1, by rw [List.getElem?_set_self (List.getElem?_eq_some_iff.mp e).1]⟩
    · exact ⟨m, by rw [List.getElem?_set_ne z]; exact em⟩
theorem set_nO {ws : List (Option Nat)} {j k : Nat} : (nO ws).set j (.int ((k : Int) + 1)) = nO (ws.set j (some (k + 1))) := by
  unfold nO
  rw [List.map_set]
  rfl
theorem flat_nO : ∀ xs : List (Option Nat), (nO xs).all flatT = true
  | [] => rfl
  | x :: xs => by show (flatT (oI x) && (nO xs).all flatT) = true; rw [flat_nO xs]; cases x <;> rfl
noncomputable def tNar : TSp := fun args Q => ∃ gs : List (Option Nat), args = [.tup (nO gs)] ∧ gs.length ≤ 60 ∧ Q (.fr (.lst (nO (nar gs)))) []
theorem ok_narrowest (T : Txt K mg) (F : HasFn K mg "narrowest" s_narrowest ["goals"]) : CallOk P w K mg base CX0 1 "narrowest" ["goals"] (spT K [false] tNar) := by
  refine F.okT sc_narrowest [false] rfl (by decide) (fun args Qt hl h f cdv A outer s H E hr => ?_)
  have hu := hu_of hr
  obtain ⟨gs, rfl, hg, q⟩ := h
  refine ⟨_, (Y.bone (Y.ret (Y.comp1 (osc := defScope s_narrowest) (ON := ["goals"]) (own := ["goal"]) (N := ["goal", "goals"]) ⟨rfl, by decide +kernel, rfl, by decide +kernel, by decide +kernel, by decide +kernel, by decide +kernel, by decide +kernel⟩ rfl rfl rfl rfl (Y.any K rfl (Y.v 0)) (fun _ _ _ _ => (Z.gname (i := 0) (show List.Nodup (["goal", "goals"] : List Str) by decide +kernel) rfl (by first | exact Or.inl rfl | exact Or.inr rfl))) (fun _ _ _ _ => Y.ts0) (fun _ _ _ _ => (Y.ifE (Y.tcmp op_isN Y.ro_isN (Y.v 0) Y.non) Y.non Y.int))))), ?_⟩
  walk_at "rt"
  refine cmp_ind (fun rest acc μ => ∃ gs1 gs2 : List (Option Nat), gs = gs1 ++ gs2 ∧ rest = nO gs2 ∧ acc = nO (nar gs1) ∧ μ = [.tr (.tup (nO gs))]) ⟨[], gs, rfl, rfl, rfl, rfl⟩ ?_ ?_
  · rintro acc μ ⟨gs1, gs2, e, e2, rfl, rfl⟩
    cases gs2 with
    | cons => cases e2
    | nil =>
      rw [List.append_nil] at e
      subst e
      refine ⟨trivial, ?_⟩
      walk_at "rt"
      exact q
  · rintro t r acc μ N ⟨gs1, gs2, e, e2, rfl, rfl⟩ k
    cases gs2 with
    | nil => cases e2
    | cons g gs2 =>
      cases e2
      have hz : (nO (nar gs1)).length < sizeLine := by rw [nO_len]; unfold nar; rw [List.length_map]; exact Nat.lt_of_le_of_lt (show gs1.length ≤ 60 by rw [e] at hg; simp at hg; omega) (by decide)
      refine ⟨trivial, hz, ?_⟩
      have st : ∀ x, x = Option.map (fun _ => 0) g → N (nO (nar gs1) ++ [oI x]) [.tr (.tup (nO gs))] := fun x hx => k _ _ ⟨gs1 ++ [g], gs2, by simp [e], rfl, by simp [nO, nar, hx], rfl⟩
      cases g with
      | none => wp_walk using oI; exact st none rfl
      | some g' => wp_walk using oI; exact st (some 0) rfl

/-- what widths may still rise -/
noncomputable def wt : Option Nat → Nat
  | none => 0
  | some k => 2 - k
noncomputable def left (ws : List (Option Nat)) : Nat := (ws.map wt).sum
theorem left_set : ∀ {ws : List (Option Nat)} {j k : Nat}, ws[j]? = some (some k) → k < 2 → left (ws.set j (some (k + 1))) + 1 = left ws
  | [], _, _, e, _ => by simp at e
  | w :: ws, 0, k, e, h => by
    have e' : w = some k := by simpa using e
    subst e'
    show 2 - (k + 1) + left ws + 1 = 2 - k + left ws
    omega
  | w :: ws, j + 1, k, e, h => by
    have := left_set (ws := ws) (j := j) (k := k) (by simpa using e) h
    show wt w + left (ws.set j (some (k + 1))) + 1 = wt w + left ws
    omega
theorem left_le : ∀ ws : List (Option Nat), left ws ≤ 2 * ws.length
  | [] => Nat.le_refl _
  | w :: ws => by
    have := left_le ws
    show wt w + left ws ≤ 2 * (ws.length + 1)
    have : wt w ≤ 2 := by cases w with | none => exact Nat.zero_le _ | some k => exact Nat.sub_le _ _
    omega


noncomputable def runW (ss : List Int) (gs : List (Option Nat)) : Nat → List (Option Nat) → List Int → Option (List (Option Nat) × List Int)
  | 0, _, _ => none
  | f + 1, ws, ps => match fbad (plcs ss ws) gs ws ss.length 0 with
    | none => some (ws, ps)
    | some j => match ws[j]? with
      | some (some k) => if k = 2 then none else runW ss gs f (ws.set j (some (k + 1))) (ps ++ [(j : Int)])
      | _ => none
noncomputable def resW (ss : List Int) (gs : List (Option Nat)) : Option (List (Option Nat) × List Int) := runW ss gs (left (nar gs) + 1) (nar gs) []
theorem fbad_some {ps : List Int} {gs ws : List (Option Nat)} {n j : Nat} (h : fbad ps gs ws n 0 = some j) : badAt ps gs ws j = true ∧ j < n := by
  unfold fbad at h
  refine ⟨List.find?_some h, ?_⟩
  have := List.mem_of_find?_eq_some h
  simp at this
  omega
theorem bad_step {ss : List Int} {gs ws : List (Option Nat)} (gw : GW ss gs ws) {j : Nat} (h : fbad (plcs ss ws) gs ws ss.length 0 = some j) : ∃ g k, gs[j]? = some (some g) ∧ ws[j]? = some (some k) ∧ k < 3 ∧ (k ≠ 2 → stepW ss gs ws (j : Int) = some (ws.set j (some (k + 1)))) := by
  obtain ⟨hb, hj⟩ := fbad_some h
  unfold badAt at hb
  split at hb
  · rename_i g k eg ek
    refine ⟨g, k, eg, ek, gw.w3.at ek, fun h2 => ?_⟩
    unfold stepW
    rw [if_neg (by omega), if_neg (by rw [gw.lg]; omega), Int.toNat_natCast, eg, ek]
    simp only
    rw [if_neg h2]
    have : fitW ((plcs ss ws).getD g 0 - (plcs ss ws).getD (j + 1) 0) k = false := by simpa using hb
    rw [this]; rfl
  · cases hb
theorem walkW_app {ss : List Int} {gs : List (Option Nat)} : ∀ {ps : List Int} {ws ws' ws2 : List (Option Nat)} {r : Int}, walkW ss gs ps ws = some ws' → stepW ss gs ws' r = some ws2 → walkW ss gs (ps ++ [r]) ws = some ws2
  | [], ws, ws', ws2, r, h, h2 => by
    cases h
    show (match stepW ss gs ws r with | none => none | some w => walkW ss gs [] w) = some ws2
    rw [h2]; rfl
  | p :: ps, ws, ws', ws2, r, h, h2 => by
    have h' : (match stepW ss gs ws p with | none => none | some w => walkW ss gs ps w) = some ws' := h
    show (match stepW ss gs ws p with | none => none | some w => walkW ss gs (ps ++ [r]) w) = some ws2
    cases c : stepW ss gs ws p with
    | none => rw [c] at h'; cases h'
    | some w => rw [c] at h'; exact walkW_app h' h2
noncomputable def Told (ss : List Int) (gs : List (Option Nat)) (ws : List (Option Nat)) (ps : List Int) : Prop := GW ss gs ws ∧ walkW ss gs ps (nar gs) = some ws ∧ goodW ss gs ws = true
noncomputable def tRaisedX (mg : Str → Option Value) : TSx := fun args Q Et => ∃ (ss : List Int) (gs : List (Option Nat)), args = [.tup (nI ss), .tup (nO gs)] ∧ gs.length = ss.length ∧ ss.length ≤ 60 ∧ (∀ (j g : Nat), gs[j]? = some (some g) → g ≤ ss.length) ∧
  (∀ ws ps, resW ss gs = some (ws, ps) → Told ss gs ws ps → Q (.tr (.tup [.tup (nO ws), .tup (nI ps)])) []) ∧ (resW ss gs = none → ∀ C, mg "NoReach" = some (.ref C) → Et (.exc (.ref C) none))
theorem ok_raisedX (T : Txt K mg) (F : HasFn K mg "raised_till_good" s_raised_till_good ["sizes", "goals"]) (hnarrowest : CallOk P w K mg base CX0 1 "narrowest" ["goals"] (spT K [false] tNar))
    (hfirst_too_narrow : CallOk P w K mg base CX0 3 "first_too_narrow" ["sizes", "goals", "widths"] (spT K [false, false, false] tNarrow)) : CallOk P w K mg base (CXW P w) 4 "raised_till_good" ["sizes", "goals"] (spX K [false, false] (tRaisedX mg)) := by
  obtain ⟨C_NoReach, hC_NoReach, kC_NoReach⟩ := T.x_NoReach
  refine F.okX sc_raised_till_good [false, false] rfl rfl (by decide) (fun args Qt Et hl h f cdv A outer s H E hr => ?_)
  have hu := hu_of hr
  obtain ⟨ss, gs, rfl, hgl, hle, hgo, q, qx⟩ := h
  refine ⟨_, (Y.xbcons (Y.xst (Y.set (i := 2) sc_raised_till_good.nd rfl (by first | exact Or.inl rfl | exact Or.inr rfl) (Y.fn K rfl hnarrowest (hr.mono (by decide)) rfl pass0 (Y.cons (Y.v 1) Y.nil))))
      (Y.xbcons (Y.xst (Y.set (i := 3) sc_raised_till_good.nd rfl (by first | exact Or.inl rfl | exact Or.inr rfl) (Y.lst Y.nil)))
      (Y.xbcons (Y.xst (Y.set (i := 4) sc_raised_till_good.nd rfl (by first | exact Or.inl rfl | exact Or.inr rfl) (Y.fn K rfl hfirst_too_narrow (hr.mono (by decide)) rfl pass0 (Y.cons (Y.v 0) (Y.cons (Y.v 1) (Y.cons (Y.v 2) Y.nil))))))
      (Y.xbcons (Y.xwhileS PassesOwn.leaving (Y.tcmp op_notN Y.ro_notN (Y.v 4) Y.non) (Y.xbcons (Y.xifS (Y.tcmp (Y.op_eqG K rfl (Nat.lt_of_succ_lt hu)) Y.ro_eq (Y.ix (Y.ix_G K rfl) Y.ro_ix (Y.v 2) (Y.v 4)) (Y.globX rfl T.c_WIDEST)) (Y.xbone (Y.xraise rfl hC_NoReach kC_NoReach rfl rfl (Y.cons (Y.fstr (Y.jcon (Y.jint (Y.v 4) (Y.jcon Y.jnil)))) Y.nil))) Y.xbnil)
      (Y.xbcons (Y.xst (Y.asg (Y.op (Y.op_addG K rfl) Y.ro_add (Y.ix (Y.ix_G K rfl) Y.ro_ix (Y.v 2) (Y.v 4)) Y.int) (Y.gsub (Y.v 2) (Y.v 4))))
      (Y.xbcons (Y.xst (Y.expr (Y.bm K rfl PySem.F.slot_list_append PySem.F.type_list_append mt_append Y.rm_append (Y.v 3) (Y.cons (Y.v 4) Y.nil))))
      (Y.xbone (Y.xst (Y.set (i := 4) sc_raised_till_good.nd rfl (by first | exact Or.inl rfl | exact Or.inr rfl) (Y.fn K rfl hfirst_too_narrow (hr.mono (by decide)) rfl pass0 (Y.cons (Y.v 0) (Y.cons (Y.v 1) (Y.cons (Y.v 2) Y.nil)))))))))))
      (Y.xbone (Y.xst (Y.ret (Y.tup (Y.cons (Y.ct (Y.call_tupG K rfl) Y.rc_tuple rfl T.b_tuple (by decide +kernel) (Y.cons (Y.v 2) Y.nil)) (Y.cons (Y.ct (Y.call_tupG K rfl) Y.rc_tuple rfl T.b_tuple (by decide +kernel) (Y.cons (Y.v 3) Y.nil)) Y.nil)))))))))), ?_⟩
  have gw0 := nar_gw hgl hle hgo
  refine seqX fun N hN => ?_
  walk_at "rt"
  refine ⟨gs, rfl, by omega, ?_⟩
  walk_at "rt"
  rw [hN]; clear hN N
  refine seqX fun N hN => ?_
  walk_at "rt"
  rw [hN]; clear hN N
  refine seqX fun N hN => ?_
  walk_at "rt"
  refine ⟨ss, gs, nar gs, _, _, rfl, .inl rfl, .inr rfl, gw0, ?_⟩
  walk_at "rt"
  have flr : ∀ o : Option Nat, flatR (R.tr (rN o)) = true := fun o => by cases o <;> rfl
  refine ⟨.inr ⟨flr _, rfl⟩, ?_⟩
  rw [hN]; clear hN N
  refine seqX fun N hN => ?_
  refine ⟨fun m μ => ∃ (ws : List (Option Nat)) (ps : List Int), GW ss gs ws ∧ ps.length + left ws ≤ 1000 ∧ m = left ws ∧ runW ss gs (left ws + 1) ws ps = resW ss gs ∧ walkW ss gs ps (nar gs) = some ws ∧ μ = [.tr (.tup (nI ss)), .tr (.tup (nO gs)), .bx (.lst (nO ws)), .bx (.lst (nI ps)), .tr (rN (fbad (plcs ss ws) gs ws ss.length 0))],
    ⟨_, nar gs, [], gw0, ?_, rfl, rfl, rfl, rfl⟩, ?_⟩
  · have := left_le (nar gs)
    have := gw0.lw
    simp; omega
  rintro m μ ⟨ws, ps, gw, hps, rfl, hrun, hwalk, rfl⟩
  have hrun' : (match fbad (plcs ss ws) gs ws ss.length 0 with
    | none => some (ws, ps)
    | some j => match ws[j]? with
      | some (some k) => if k = 2 then none else runW ss gs (left ws) (ws.set j (some (k + 1))) (ps ++ [(j : Int)])
      | _ => none) = resW ss gs := hrun
  cases c : fbad (plcs ss ws) gs ws ss.length 0 with
  | none =>
    rw [c] at hrun'
    wp_walk using rN
    rw [hN]; clear hN N
    walk_at "rt"
    refine ⟨by decide, q ws ps hrun'.symm ⟨gw, hwalk, ?_⟩⟩
    unfold goodW; rw [c]; rfl
  | some j =>
    rw [c] at hrun'
    obtain ⟨g, k, eg, ek, k3, hstep⟩ := bad_step gw c
    have ak := at_nO ek
    simp only [ek] at hrun'
    wp_walk using rN
    refine seqX fun M hM => ?_
    by_cases h2 : k = 2
    · subst h2
      wp_walk using ak, oI, (show ((2 : Nat) : Int) = 2 from rfl), decide_true
      have hj60 : j < 60 := by have := (fbad_some c).2; omega
      refine ⟨?_, fun z hz => qx ?_ _ hC_NoReach⟩
      · rw [Int.natAbs_natCast]
        exact Nat.lt_of_lt_of_le (show j < 2 ^ 6 by omega) (Nat.pow_le_pow_right (by decide) (by decide))
      · rw [← hrun']; simp
    · have h2' : ¬ ((k : Int) = 2) := by omega
      simp only [if_neg h2] at hrun'
      wp_walk using ak, oI, if_neg h2'
      rw [hM]; clear hM M
      have xk : ixN (nO ws).length (j : Int) = some j := by
        have hj := (List.getElem?_eq_some_iff.mp ek).1
        unfold ixN
        rw [nO_len, if_pos (by omega), if_pos (by omega)]; simp
      refine seqX fun M hM => ?_
      wp_walk using ak, oI, xk, set_nO
      rw [hM]; clear hM M
      refine seqX fun M hM => ?_
      walk_at "rt"
      have hleft := left_set ek (by omega)
      refine ⟨Nat.lt_of_le_of_lt (show _ ≤ 1000 by rw [nI_len]; omega) (by decide), ?_⟩
      rw [hM]; clear hM M
      have gw2 := gw.set (by omega) ek
      walk_at "rt"
      refine ⟨ss, gs, ws.set j (some (k + 1)), _, _, rfl, .inl rfl, .inr rfl, gw2, ?_⟩
      walk_at "rt"
      refine ⟨.inr ⟨flr _, rfl⟩, _, ?_, ws.set j (some (k + 1)), ps ++ [(j : Int)], gw2, ?_, rfl, ?_, walkW_app hwalk (hstep h2), ?_⟩
      · omega
      · rw [List.length_append, List.length_singleton]; omega
      · rw [hleft]; exact hrun'
      · rw [nI_app]; rfl
noncomputable def tLeastX (mg : Str → Option Value) : TSx := fun args Q Et => ∃ (ss : List Int) (gs : List (Option Nat)), args = [.tup (nI ss), .tup (nO gs)] ∧ gs.length = ss.length ∧ ss.length ≤ 60 ∧ (∀ (j g : Nat), gs[j]? = some (some g) → g ≤ ss.length) ∧
  (∀ ws ps, resW ss gs = some (ws, ps) → Told ss gs ws ps → Q (.tr (.tup (nO ws))) []) ∧ (resW ss gs = none → ∀ C, mg "NoReach" = some (.ref C) → Et (.exc (.ref C) none))
theorem ok_leastX (T : Txt K mg) (F : HasFn K mg "least_widths" s_least_widths ["sizes", "goals"]) (hraised_till_good : CallOk P w K mg base (CXW P w) 4 "raised_till_good" ["sizes", "goals"] (spX K [false, false] (tRaisedX mg))) : CallOk P w K mg base (CXW P w) 5 "least_widths" ["sizes", "goals"] (spX K [false, false] (tLeastX mg)) := by
  refine F.okX sc_least_widths [false, false] rfl rfl (by decide) (fun args Qt Et hl h f cdv A outer s H E hr => ?_)
  have hu := hu_of hr
  obtain ⟨ss, gs, rfl, hgl, hle, hgo, q, qx⟩ := h
  refine ⟨_, (Y.xbone (Y.xret (Y.xix (Y.ix_G K rfl) Y.ro_ix (Y.xfn K rfl hraised_till_good (hr.mono (by decide)) rfl rfl (Y.cons (Y.v 0) (Y.cons (Y.v 1) Y.nil))) Y.int))), ?_⟩
  walk_at "rt"
  refine ⟨ss, gs, rfl, hgl, hle, hgo, fun ws ps h1 h2 => ?_, qx⟩
  walk_at "rt"
  exact q ws ps h1 h2
noncomputable def tPaperX (mg : Str → Option Value) : TSx := fun args Q Et => ∃ (ss : List Int) (gs : List (Option Nat)), args = [.tup (nI ss), .tup (nO gs)] ∧ gs.length = ss.length ∧ ss.length ≤ 60 ∧ (∀ (j g : Nat), gs[j]? = some (some g) → g ≤ ss.length) ∧
  (∀ ws ps, resW ss gs = some (ws, ps) → Told ss gs ws ps → Q (.tr (.tup (nI ps))) []) ∧ (resW ss gs = none → ∀ C, mg "NoReach" = some (.ref C) → Et (.exc (.ref C) none))
theorem ok_paperX (T : Txt K mg) (F : HasFn K mg "widths_paper" s_widths_paper ["sizes", "goals"]) (hraised_till_good : CallOk P w K mg base (CXW P w) 4 "raised_till_good" ["sizes", "goals"] (spX K [false, false] (tRaisedX mg))) : CallOk P w K mg base (CXW P w) 5 "widths_paper" ["sizes", "goals"] (spX K [false, false] (tPaperX mg)) := by
  refine F.okX sc_widths_paper [false, false] rfl rfl (by decide) (fun args Qt Et hl h f cdv A outer s H E hr => ?_)
  have hu := hu_of hr
  obtain ⟨ss, gs, rfl, hgl, hle, hgo, q, qx⟩ := h
  refine ⟨_, (Y.xbone (Y.xret (Y.xix (Y.ix_G K rfl) Y.ro_ix (Y.xfn K rfl hraised_till_good (hr.mono (by decide)) rfl rfl (Y.cons (Y.v 0) (Y.cons (Y.v 1) Y.nil))) Y.int))), ?_⟩
  walk_at "rt"
  refine ⟨ss, gs, rfl, hgl, hle, hgo, fun ws ps h1 h2 => ?_, qx⟩
  walk_at "rt"
  exact q ws ps h1 h2

noncomputable def leO : Option Nat → Option Nat → Prop
  | none, none => True
  | some a, some b => a ≤ b
  | _, _ => False
/-- width by width no greater -/
noncomputable def leW (ws zs : List (Option Nat)) : Prop := ws.length = zs.length ∧ ∀ (j : Nat) (w z : Option Nat), ws[j]? = some w → zs[j]? = some z → leO w z
theorem own_mono {w z : Option Nat} (h : leO w z) : ownW w ≤ ownW z := by
  cases w with
  | none => cases z with
    | none => exact Int.le_refl _
    | some b => exact h.elim
  | some a => cases z with
    | none => exact h.elim
    | some b =>
      have hab : a ≤ b := h
      match a, b, hab with
      | 0, 0, _ => decide
      | 0, 1, _ => decide
      | 0, (n + 2), _ => show (5 : Int) ≤ 18; decide
      | 1, 1, _ => decide
      | 1, (n + 2), _ => show (10 : Int) ≤ 18; decide
      | (m + 2), (n + 2), _ => exact Int.le_refl _
theorem own_nn (w : Option Nat) : 0 ≤ ownW w := by
  match w with
  | none => decide
  | some 0 => decide
  | some 1 => decide
  | some (n + 2) => show (0 : Int) ≤ 18; decide
theorem plc_at : ∀ (ss : List Int) (ws : List (Option Nat)) (a : Int) (i : Nat) (s : Int) (w : Option Nat), ss[i]? = some s → ws[i]? = some w → (a :: plc ss ws a).getD (i + 1) 0 = (a :: plc ss ws a).getD i 0 + s + ownW w
  | s :: ss, w :: ws, a, 0, s', w', h1, h2 => by
    simp at h1 h2
    subst h1; subst h2
    rfl
  | s :: ss, w :: ws, a, i + 1, s', w', h1, h2 => by
    have := plc_at ss ws (a + s + ownW w) i s' w' (by simpa using h1) (by simpa using h2)
    show (plc (s :: ss) (w :: ws) a).getD (i + 1) 0 = (plc (s :: ss) (w :: ws) a).getD i 0 + s' + ownW w'
    exact this
  | [], _, _, _, _, _, h, _ => by simp at h
  | _ :: _, [], _, _, _, _, _, h => by simp at h
theorem pl_diff {ss : List Int} {ws zs : List (Option Nat)} (hn : ∀ x ∈ ss, 0 ≤ x) (h1 : ws.length = ss.length) (h : leW ws zs) (i : Nat) : ∀ d : Nat, i + d ≤ ss.length →
    0 ≤ (plcs ss ws).getD (i + d) 0 - (plcs ss ws).getD i 0 ∧ (plcs ss ws).getD (i + d) 0 - (plcs ss ws).getD i 0 ≤ (plcs ss zs).getD (i + d) 0 - (plcs ss zs).getD i 0
  | 0, _ => by simp
  | d + 1, hd => by
    obtain ⟨a1, a2⟩ := pl_diff hn h1 h i d (by omega)
    have hs := List.getElem?_eq_getElem (show i + d < ss.length by omega)
    have hw := List.getElem?_eq_getElem (show i + d < ws.length by omega)
    have hz := List.getElem?_eq_getElem (show i + d < zs.length by rw [← h.1]; omega)
    have e1 := plc_at ss ws 0 (i + d) _ _ hs hw
    have e2 := plc_at ss zs 0 (i + d) _ _ hs hz
    have e3 := own_mono (h.2 _ _ _ hw hz)
    have e4 := own_nn ws[i + d]
    have e5 := hn _ (List.getElem_mem (show i + d < ss.length by omega))
    unfold plcs at a1 a2 ⊢
    rw [← Nat.add_assoc, e1, e2]
    constructor <;> omega
/-- where one does not fit with less, it does not fit with more -/
theorem fit_mono {ss : List Int} {ws zs : List (Option Nat)} (hn : ∀ x ∈ ss, 0 ≤ x) (h1 : ws.length = ss.length) (h : leW ws zs) {g j k : Nat} (hg : g ≤ ss.length) (hj : j + 1 ≤ ss.length)
    (hb : fitW ((plcs ss ws).getD g 0 - (plcs ss ws).getD (j + 1) 0) k = false) : fitW ((plcs ss zs).getD g 0 - (plcs ss zs).getD (j + 1) 0) k = false := by
  have hh : 0 < halfW k := by
    match k with
    | 0 => decide
    | 1 => decide
    | n + 2 => show (0 : Int) < 32768; decide
  unfold fitW at hb ⊢
  rw [Bool.and_eq_false_iff, decide_eq_false_iff_not, decide_eq_false_iff_not] at hb ⊢
  rcases Nat.le_total (j + 1) g with c | c
  · obtain ⟨d, rfl⟩ : ∃ d, g = j + 1 + d := ⟨g - (j + 1), by omega⟩
    obtain ⟨a1, a2⟩ := pl_diff hn h1 h (j + 1) d hg
    rcases hb with hb | hb
    · omega
    · right; omega
  · obtain ⟨d, hd⟩ : ∃ d, j + 1 = g + d := ⟨j + 1 - g, by omega⟩
    rw [hd] at hb ⊢
    obtain ⟨a1, a2⟩ := pl_diff hn h1 h g d (by omega)
    rcases hb with hb | hb
    · left; omega
    · omega
theorem good_fits {ss : List Int} {gs zs : List (Option Nat)} (gz : goodW ss gs zs = true) {j g k : Nat} (hj : j < ss.length) (eg : gs[j]? = some (some g)) (ek : zs[j]? = some (some k)) : fitW ((plcs ss zs).getD g 0 - (plcs ss zs).getD (j + 1) 0) k = true := by
  unfold goodW fbad at gz
  rw [Option.isNone_iff_eq_none, List.find?_eq_none] at gz
  have := gz j (by simp; omega)
  unfold badAt at this
  rw [eg, ek] at this
  simpa using this
theorem run_least {ss : List Int} {gs zs : List (Option Nat)} (hn : ∀ x ∈ ss, 0 ≤ x) (gz : GW ss gs zs) (good : goodW ss gs zs = true) : ∀ (f : Nat) (ws : List (Option Nat)) (ps : List Int), GW ss gs ws → left ws < f → leW ws zs → ∃ ws' ps', runW ss gs f ws ps = some (ws', ps') ∧ leW ws' zs
  | 0, ws, ps, _, h, _ => by omega
  | f + 1, ws, ps, gw, h, le => by
    unfold runW
    cases c : fbad (plcs ss ws) gs ws ss.length 0 with
    | none => exact ⟨ws, ps, rfl, le⟩
    | some j =>
      obtain ⟨hb, hj⟩ := fbad_some c
      obtain ⟨g, k, eg, ek, k3, _⟩ := bad_step gw c
      obtain ⟨hg, k', ek'⟩ := gz.go j g eg
      have hkk : k ≤ k' := le.2 j _ _ ek ek'
      have hk3 := gz.w3.at ek'
      have hnf : fitW ((plcs ss ws).getD g 0 - (plcs ss ws).getD (j + 1) 0) k = false := by
        unfold badAt at hb
        rw [eg, ek] at hb
        simpa using hb
      have hne : k ≠ k' := fun z => by
        subst z
        have h1 := fit_mono hn gw.lw le hg (by omega) hnf
        rw [good_fits good hj eg ek'] at h1
        cases h1
      simp only [ek]
      rw [if_neg (by omega)]
      refine run_least hn gz good f _ _ (gw.set (by omega) ek) ?_ ⟨by rw [List.length_set]; exact le.1, fun i w z e1 e2 => ?_⟩
      · have := left_set ek (by omega); omega
      · by_cases q : j = i
        · subst q
          rw [List.getElem?_set_self (List.getElem?_eq_some_iff.mp ek).1] at e1
          cases e1
          rw [ek'] at e2
          cases e2
          show k + 1 ≤ k'
          omega
        · rw [List.getElem?_set_ne q] at e1
          exact le.2 i w z e1 e2
theorem run_told {ss : List Int} {gs : List (Option Nat)} : ∀ (f : Nat) (ws : List (Option Nat)) (ps : List Int) {ws' : List (Option Nat)} {ps' : List Int}, GW ss gs ws → walkW ss gs ps (nar gs) = some ws → runW ss gs f ws ps = some (ws', ps') → Told ss gs ws' ps'
  | 0, ws, ps, ws', ps', _, _, h => by cases h
  | f + 1, ws, ps, ws', ps', gw, hw, h => by
    unfold runW at h
    cases c : fbad (plcs ss ws) gs ws ss.length 0 with
    | none =>
      rw [c] at h
      cases h
      exact ⟨gw, hw, by unfold goodW; rw [c]; rfl⟩
    | some j =>
      rw [c] at h
      obtain ⟨g, k, eg, ek, k3, hst⟩ := bad_step gw c
      simp only [ek] at h
      by_cases k2 : k = 2
      · rw [if_pos k2] at h; cases h
      · rw [if_neg k2] at h
        exact run_told f _ _ (gw.set (by omega) ek) (walkW_app hw (hst k2)) h
/-- as the goals are: a width where one goes, none else -/
noncomputable def Pat (gs zs : List (Option Nat)) : Prop := zs.map Option.isSome = gs.map Option.isSome
theorem nar_le {gs zs : List (Option Nat)} (h : Pat gs zs) : leW (nar gs) zs := by
  have hl : zs.length = gs.length := by have := congrArg List.length h; simpa using this
  refine ⟨by unfold nar; rw [List.length_map, hl], fun j w z e1 e2 => ?_⟩
  unfold nar at e1
  rw [List.getElem?_map] at e1
  have hj : (zs.map Option.isSome)[j]? = (gs.map Option.isSome)[j]? := by rw [show zs.map Option.isSome = gs.map Option.isSome from h]
  rw [List.getElem?_map, List.getElem?_map, e2] at hj
  cases c : gs[j]? with
  | none => rw [c] at e1; cases e1
  | some g =>
    rw [c] at e1 hj
    cases e1
    have hz : z.isSome = g.isSome := by simpa using hj
    cases g with
    | none => cases z with
      | none => trivial
      | some b => cases hz
    | some g => cases z with
      | none => cases hz
      | some b => exact Nat.zero_le _
theorem res_least {ss : List Int} {gs zs : List (Option Nat)} (hn : ∀ x ∈ ss, 0 ≤ x) (hgl : gs.length = ss.length) (hle : ss.length ≤ 60) (hgo : ∀ (j g : Nat), gs[j]? = some (some g) → g ≤ ss.length) (gz : GW ss gs zs) (hp : Pat gs zs) (good : goodW ss gs zs = true) :
    ∃ ws ps, resW ss gs = some (ws, ps) ∧ leW ws zs := run_least hn gz good _ _ _ (nar_gw hgl hle hgo) (Nat.lt_succ_self _) (nar_le hp)
theorem res_told {ss : List Int} {gs ws : List (Option Nat)} {ps : List Int} (hgl : gs.length = ss.length) (hle : ss.length ≤ 60) (hgo : ∀ (j g : Nat), gs[j]? = some (some g) → g ≤ ss.length) (h : resW ss gs = some (ws, ps)) : Told ss gs ws ps := run_told _ _ _ (nar_gw hgl hle hgo) rfl h

noncomputable def askT (ss : List Int) (gs : List (Option Nat)) (way : Int) : R := match resW ss gs with
  | none => .fr (.lst [.bl true, .bl true, .bl false])
  | some (ws, ps) => .tr (if way = 0 then .tup (nO ws) else .tup (nI ps))
noncomputable def tAsked : TSp := fun args Q => ∃ (ss : List Int) (gs : List (Option Nat)) (way : Int), args = [.tup (nI ss), .tup (nO gs), .int way] ∧ gs.length = ss.length ∧ ss.length ≤ 60 ∧ (∀ (j g : Nat), gs[j]? = some (some g) → g ≤ ss.length) ∧ Q (askT ss gs way) []
theorem ok_asked (T : Txt K mg) (F : HasFn K mg "_law_asked" s__law_asked ["sizes", "goals", "way"]) (hleast_widths : CallOk P w K mg base (CXW P w) 5 "least_widths" ["sizes", "goals"] (spX K [false, false] (tLeastX mg)))
    (hwidths_paper : CallOk P w K mg base (CXW P w) 5 "widths_paper" ["sizes", "goals"] (spX K [false, false] (tPaperX mg))) : CallOk P w K mg base CX0 6 "_law_asked" ["sizes", "goals", "way"] (spT K [false, false, false] tAsked) := by
  obtain ⟨C_ShortError, C_NoReach, C_NoAsk, C_NoBits, C_NoCode, C_NoProgram, C_NoRow, hC_ShortError, hC_NoReach, hC_NoAsk, hC_NoBits, hC_NoCode, hC_NoProgram, hC_NoRow, kC_ShortError, kC_NoReach, xC_NoReach, sub, is1, is2, isn⟩ := T.xs
  refine F.okT sc__law_asked [false, false, false] rfl (by decide) (fun args Qt hl h f cdv A outer s H E hr => ?_)
  have hu := hu_of hr
  obtain ⟨ss, gs, way, rfl, hgl, hle, hgo, q⟩ := h
  refine ⟨_, (Y.noX (Y.xbcons (Y.xst (Y.set (i := 3) sc__law_asked.nd rfl (by first | exact Or.inl rfl | exact Or.inr rfl) Y.non))
      (Y.xbcons (Y.xst (Y.set (i := 4) sc__law_asked.nd rfl (by first | exact Or.inl rfl | exact Or.inr rfl) Y.non))
      (Y.xbcons (Y.xtryAs (i := 5) K rfl rfl hC_ShortError kC_ShortError rfl rfl rfl rfl sc__law_asked.nd rfl rfl (fun _ _ => (Y.xbone (Y.xifS (Y.tcmp (Y.op_eqG K rfl (Nat.lt_of_succ_lt hu)) Y.ro_eq (Y.v 2) Y.int) (Y.xbone (Y.xset (i := 3) sc__law_asked.nd rfl (by first | exact Or.inl rfl | exact Or.inr rfl) (Y.xfn K rfl hleast_widths (hr.mono (by decide)) rfl rfl (Y.cons (Y.v 0) (Y.cons (Y.v 1) Y.nil))))) (Y.xbone (Y.xset (i := 3) sc__law_asked.nd rfl (by first | exact Or.inl rfl | exact Or.inr rfl) (Y.xfn K rfl hwidths_paper (hr.mono (by decide)) rfl rfl (Y.cons (Y.v 0) (Y.cons (Y.v 1) Y.nil)))))))) (fun _ => (Y.bone (Y.set (i := 4) sc__law_asked.nd rfl (by first | exact Or.inl rfl | exact Or.inr rfl) (Y.v 5)))))
      (Y.xbcons (Y.xst (Y.ifS (Y.tcmp op_isN Y.ro_isN (Y.v 4) Y.non) (Y.bone (Y.ret (Y.v 3))) Y.bnil))
      (Y.xbcons (Y.xst (Y.set (i := 6) sc__law_asked.nd rfl (by first | exact Or.inl rfl | exact Or.inr rfl) (Y.isiN (ds := [C_NoAsk, C_NoBits, C_NoCode, C_NoProgram, C_NoRow]) K rfl rfl T.b_isinstance (Y.v 4) (Z.cons (Z.glob (w := .ref C_NoAsk) rfl hC_NoAsk rfl) (Z.cons (Z.glob (w := .ref C_NoBits) rfl hC_NoBits rfl) (Z.cons (Z.glob (w := .ref C_NoCode) rfl hC_NoCode rfl) (Z.cons (Z.glob (w := .ref C_NoProgram) rfl hC_NoProgram rfl) (Z.cons (Z.glob (w := .ref C_NoRow) rfl hC_NoRow rfl) Z.nil))))) (fun _ _ _ h => h) (Nat.le_of_ble_eq_true rfl))))
      (Y.xbone (Y.xst (Y.ret (Y.lst (Y.cons (Y.isi1 (y := .ref C_NoReach) (c := .ref C_NoReach) K rfl rfl T.b_isinstance (Y.v 4) (Z.glob rfl hC_NoReach rfl) (fun _ h => h)) (Y.cons (Y.isi1 (y := .ty "ValueError") (c := .type "ValueError") K rfl rfl T.b_isinstance (Y.v 4) (Z.tyv rfl T.b_ValueError (by decide +kernel)) (fun _ h => h)) (Y.cons (Y.v 6) Y.nil))))))))))))), ?_⟩
  unfold askT at q
  refine seqX fun N hN => ?_
  walk_at "rt"
  rw [hN]; clear hN N
  refine seqX fun N hN => ?_
  walk_at "rt"
  rw [hN]; clear hN N
  refine seqX fun N hN => ?_
  have caught : resW ss gs = none → N [.tr (.tup (nI ss)), .tr (.tup (nO gs)), .tr (.int way), .tr .non, .tr (.exc (.ref C_NoReach) none), .un, .un] := fun h1 => by
    rw [h1] at q
    rw [hN]; clear hN N
    refine seqX fun N hN => ?_
    walk_at "rt"
    rw [hN]; clear hN N
    refine seqX fun N hN => ?_
    wp_walk using isn
    refine ⟨⟨_, rfl, xC_NoReach⟩, ?_⟩
    rw [hN]; clear hN N
    wp_walk using is1, is2
    refine ⟨⟨_, rfl, xC_NoReach⟩, ⟨_, rfl, xC_NoReach⟩, by decide, q⟩
  have told : ∀ t, Qt (.tr t) [] → N [.tr (.tup (nI ss)), .tr (.tup (nO gs)), .tr (.int way), .tr t, .tr .non, .un, .un] := fun t ht => by
    rw [hN]; clear caught hN N
    refine seqX fun N hN => ?_
    walk_at "rt"
    exact ht
  by_cases hw : way = 0
  · wp_walk using if_pos hw
    refine ⟨ss, gs, rfl, hgl, hle, hgo, fun ws ps h1 h2 => ?_, fun h1 C hc => ?_⟩
    · walk_at "rt"
      rw [h1] at q
      simp only [if_pos hw] at q
      exact told _ q
    · rw [hC_NoReach] at hc
      cases hc
      exact ⟨⟨_, rfl, kC_NoReach, sub⟩, caught h1⟩
  · wp_walk using if_neg hw
    refine ⟨ss, gs, rfl, hgl, hle, hgo, fun ws ps h1 h2 => ?_, fun h1 C hc => ?_⟩
    · walk_at "rt"
      rw [h1] at q
      simp only [if_neg hw] at q
      exact told _ q
    · rw [hC_NoReach] at hc
      cases hc
      exact ⟨⟨_, rfl, kC_NoReach, sub⟩, caught h1⟩

noncomputable def bads (ss : List Int) (gs ws : List (Option Nat)) (n : Nat) : List Nat := (List.range n).filter (badAt (plcs ss ws) gs ws)
noncomputable def bN (xs : List Nat) : List L2.T := nI (xs.map Int.ofNat)
theorem bN_len (xs : List Nat) : (bN xs).length = xs.length := by unfold bN; rw [nI_len, List.length_map]
theorem bads_len (ss : List Int) (gs ws : List (Option Nat)) (n : Nat) : (bads ss gs ws n).length ≤ n := by
  have := List.length_filter_le (badAt (plcs ss ws) gs ws) (List.range n)
  simpa [bads] using this
theorem flat_bN : ∀ xs : List Nat, (bN xs).all flatT = true
  | [] => rfl
  | x :: xs => by show (flatT (.int _) && (bN xs).all flatT) = true; rw [flat_bN xs]; rfl
noncomputable def tStrained : TSp := fun args Q => ∃ (ss : List Int) (gs ws : List (Option Nat)), args = [.tup (nI ss), .tup (nO gs), .lst (nO ws)] ∧ GW ss gs ws ∧ Q (.fr (.lst (bN (bads ss gs ws ss.length)))) []
theorem ok_strained (T : Txt K mg) (F : HasFn K mg "_law_strained" s__law_strained ["sizes", "goals", "widths"]) (h_law_places : CallOk P w K mg base CX0 1 "_law_places" ["sizes", "widths"] (spT K [false, false] tPlaces)) (h_law_fits : CallOk P w K mg base CX0 1 "_law_fits" ["far", "width"] (spT K [false, false] tLFits)) :
    CallOk P w K mg base CX0 2 "_law_strained" ["sizes", "goals", "widths"] (spT K [false, false, false] tStrained) := by
  refine F.okT sc__law_strained [false, false, false] rfl (by decide) (fun args Qt hl h f cdv A outer s H E hr => ?_)
  have hu := hu_of hr
  obtain ⟨ss, gs, ws, rfl, gw, q⟩ := h
  refine ⟨_, (Y.bcons (Y.set (i := 3) sc__law_strained.nd rfl (by first | exact Or.inl rfl | exact Or.inr rfl) (Y.fn K rfl h_law_places (hr.mono (by decide)) rfl pass0 (Y.cons (Y.v 0) (Y.cons (Y.v 2) Y.nil))))
      (Y.bcons (Y.set (i := 4) sc__law_strained.nd rfl (by first | exact Or.inl rfl | exact Or.inr rfl) (Y.lst Y.nil))
      (Y.bcons (Y.forS PassesOwn.never rfl (Y.enum K rfl rfl T.b_enumerate (Y.cons (Y.v 1) Y.nil)) (Y.gtup (n := 2) K rfl rfl (Y.gscons (Y.gname (i := 5) sc__law_strained.nd rfl (by first | exact Or.inl rfl | exact Or.inr rfl)) (Y.gscons (Y.gname (i := 6) sc__law_strained.nd rfl (by first | exact Or.inl rfl | exact Or.inr rfl)) Y.gsnil))) (Y.bone (Y.ifS (Y.tcmp op_notN Y.ro_notN (Y.v 6) Y.non) (Y.bcons (Y.set (i := 7) sc__law_strained.nd rfl (by first | exact Or.inl rfl | exact Or.inr rfl) (Y.op op_sub Y.ro_int0 (Y.ix (Y.ix_G K rfl) Y.ro_ix (Y.v 3) (Y.v 6)) (Y.ix (Y.ix_G K rfl) Y.ro_ix (Y.v 3) (Y.op (Y.op_addG K rfl) Y.ro_add (Y.v 5) Y.int))))
      (Y.bone (Y.ifS (Y.tnot (Y.ttru K rfl (Y.fn K rfl h_law_fits (hr.mono (by decide)) rfl pass0 (Y.cons (Y.v 7) (Y.cons (Y.ix (Y.ix_G K rfl) Y.ro_ix (Y.v 2) (Y.v 5)) Y.nil))))) (Y.bone (Y.expr (Y.bm K rfl PySem.F.slot_list_append PySem.F.type_list_append mt_append Y.rm_append (Y.v 4) (Y.cons (Y.v 5) Y.nil)))) Y.bnil))) Y.bnil)))
      (Y.bone (Y.ret (Y.v 4)))))), ?_⟩
  have hlp := plcs_len (ss := ss) (ws := ws) gw.lw.symm
  refine seqT fun N hN => ?_
  walk_at "rt"
  refine ⟨ss, ws, _, _, rfl, .inl rfl, .inr rfl, gw.lw.symm, gw.le, gw.w3, ?_⟩
  walk_at "rt"
  rw [hN]; clear hN N
  refine seqT fun N hN => ?_
  walk_at "rt"
  rw [hN]; clear hN N
  refine seqT fun N hN => ?_
  walk_at "rt"
  refine for_ind (fun rest μ => ∃ (i : Nat) (s5 s6 s7 : Option L2.T), rest = (pairs (nO gs)).drop i ∧ i ≤ ss.length ∧ μ = [.tr (.tup (nI ss)), .tr (.tup (nO gs)), .tr (.lst (nO ws)), .bx (.lst (nI (plcs ss ws))), .bx (.lst (bN (bads ss gs ws i))), sl s5, sl s6, sl s7])
    ⟨0, none, none, none, rfl, Nat.zero_le _, rfl⟩ ?_ ?_
  · rintro μ ⟨i, s5, s6, s7, e, hi, rfl⟩
    have hi2 : i = ss.length := by
      rcases Nat.lt_or_ge i ss.length with z | z
      · rw [pairs_drop (x := oI (gs[i]'(by rw [gw.lg]; exact z))) (by unfold nO; rw [List.getElem?_map, List.getElem?_eq_getElem (by rw [gw.lg]; exact z)]; rfl)] at e
        cases e
      · omega
    subst hi2
    show N _
    rw [hN]; clear hN N
    walk_at "rt"
    exact q
  · rintro t ts μ M ⟨i, s5, s6, s7, e, hi, rfl⟩ k
    have hi2 : i < ss.length := by
      rcases Nat.lt_or_ge i ss.length with z | z
      · exact z
      · have : i = (nO gs).length := by rw [nO_len, gw.lg]; omega
        rw [this, pairs_end] at e; cases e
    have eg : gs[i]? = some (gs[i]'(by rw [gw.lg]; exact hi2)) := List.getElem?_eq_getElem _
    generalize gs[i]'(by rw [gw.lg]; exact hi2) = go at eg
    rw [pairs_drop (x := oI go) (by unfold nO; rw [List.getElem?_map, eg]; rfl)] at e
    cases e
    have hsz : (bN (bads ss gs ws i)).length < sizeLine := by
      rw [bN_len]
      exact Nat.lt_of_le_of_lt (Nat.le_trans (bads_len ss gs ws i) (show i ≤ 60 by have := gw.le; omega)) (by decide)
    have st : bads ss gs ws (i + 1) = if badAt (plcs ss ws) gs ws i = true then bads ss gs ws i ++ [i] else bads ss gs ws i := by
      unfold bads
      rw [List.range_succ, List.filter_append]
      cases c : badAt (plcs ss ws) gs ws i with
      | true => rw [List.filter_cons_of_pos c]; rfl
      | false => rw [List.filter_cons_of_neg (by rw [c]; decide)]; simp
    cases go with
    | none =>
      have nb : badAt (plcs ss ws) gs ws i = false := by unfold badAt; rw [eg]
      rw [nb, if_neg Bool.false_ne_true] at st
      wp_walk using oI
      exact k _ ⟨i + 1, some _, some _, s7, rfl, hi2, by rw [st]; rfl⟩
    | some g =>
      obtain ⟨hg, kk, ek⟩ := gw.go i g eg
      have hk := gw.w3.at ek
      have bd : badAt (plcs ss ws) gs ws i = !fitW ((plcs ss ws).getD g 0 - (plcs ss ws).getD (i + 1) 0) kk := by unfold badAt; rw [eg, ek]
      have a2 := ps_at (getD_of (ps := plcs ss ws) (j := g) (by rw [hlp]; omega))
      have a3 : atI (nI (plcs ss ws)) ((i : Int) + 1) = some (.int ((plcs ss ws).getD (i + 1) 0)) := ps_at (j := i + 1) (getD_of (by rw [hlp]; omega))
      have a4 := at_nO ek
      wp_walk using oI, a2, a3
      refine seqT fun M' hM => ?_
      wp_walk using a2, a3
      rw [hM]; clear hM M'
      wp_walk using a4, oI
      refine ⟨_, kk, rfl, hk, ?_⟩
      walk_at "rt"
      cases c : fitW ((plcs ss ws).getD g 0 - (plcs ss ws).getD (i + 1) 0) kk with
      | true =>
        rw [c] at bd
        rw [bd, if_neg (by decide)] at st
        walk_at "rt"
        exact k _ ⟨i + 1, some _, some _, some _, rfl, hi2, by rw [st]; rfl⟩
      | false =>
        rw [c] at bd
        rw [bd, if_pos (by decide)] at st
        walk_at "rt"
        refine ⟨hsz, k _ ⟨i + 1, some (.int (i : Nat)), some (.int (g : Nat)), some (.int ((plcs ss ws).getD g 0 - (plcs ss ws).getD (i + 1) 0)), rfl, hi2, ?_⟩⟩
        rw [st]
        unfold bN
        rw [List.map_append, nI_app]
        rfl
theorem leW_anti {a b : List (Option Nat)} (h1 : leW a b) (h2 : leW b a) : a = b := by
  refine List.ext_getElem? fun j => ?_
  rcases Nat.lt_or_ge j a.length with z | z
  · have e1 := List.getElem?_eq_getElem z
    have e2 := List.getElem?_eq_getElem (show j < b.length by rw [← h1.1]; exact z)
    have l1 := h1.2 j _ _ e1 e2
    have l2 := h2.2 j _ _ e2 e1
    rw [e1, e2]
    generalize a[j] = x at l1 l2
    generalize b[j]'_ = y at l1 l2
    congr 1
    cases x with
    | none => cases y with
      | none => rfl
      | some _ => exact l1.elim
    | some x => cases y with
      | none => exact l1.elim
      | some y =>
        have a1 : x ≤ y := l1
        have a2 : y ≤ x := l2
        rw [Nat.le_antisymm a1 a2]
  · rw [List.getElem?_eq_none_iff.mpr z, List.getElem?_eq_none_iff.mpr (by rw [← h1.1]; exact z)]
/-- below every good choice -/
noncomputable def Below (ss : List Int) (gs ws : List (Option Nat)) : Prop := ∀ zs, GW ss gs zs → Pat gs zs → goodW ss gs zs = true → leW ws zs
theorem pat_set {ws : List (Option Nat)} {j k : Nat} (ek : ws[j]? = some (some k)) : (ws.set j (some (k + 1))).map Option.isSome = ws.map Option.isSome := by
  have hp := (List.getElem?_eq_some_iff.mp ek).1
  rw [List.map_set]
  refine List.ext_getElem? fun i => ?_
  by_cases z : j = i
  · subst z
    rw [List.getElem?_set_self (by simpa using hp), List.getElem?_map, ek]; rfl
  · rw [List.getElem?_set_ne z]
theorem pat_walk {ss : List Int} {gs : List (Option Nat)} : ∀ {ps : List Int} {ws ws' : List (Option Nat)}, walkW ss gs ps ws = some ws' → ws'.map Option.isSome = ws.map Option.isSome
  | [], ws, ws', h => by cases h; rfl
  | p :: ps, ws, ws', h => by
    have h' : (match stepW ss gs ws p with | none => none | some w => walkW ss gs ps w) = some ws' := h
    cases c : stepW ss gs ws p with
    | none => rw [c] at h'; cases h'
    | some w =>
      rw [c] at h'
      rw [pat_walk h']
      unfold stepW at c
      split at c
      · cases c
      · split at c
        · cases c
        · split at c
          · rename_i g k eg ek
            split at c
            · cases c
            · split at c
              · cases c
              · cases c
                exact pat_set ek
          · cases c
theorem pat_nar (gs : List (Option Nat)) : (nar gs).map Option.isSome = gs.map Option.isSome := by
  unfold nar
  rw [List.map_map]
  refine List.map_congr_left fun g _ => ?_
  cases g <;> rfl
theorem res_pat {ss : List Int} {gs ws : List (Option Nat)} {ps : List Int} (h : Told ss gs ws ps) : Pat gs ws := (pat_walk h.2.1).trans (pat_nar gs)
/-- a row too narrow that cannot rise: there is no choice -/
theorem stuck {ss : List Int} {gs ws : List (Option Nat)} (hn : ∀ x ∈ ss, 0 ≤ x) (gw : GW ss gs ws) (hb : Below ss gs ws) {j g : Nat} (hj : j < ss.length) (eg : gs[j]? = some (some g)) (ek : ws[j]? = some (some 2)) (hf : fitW ((plcs ss ws).getD g 0 - (plcs ss ws).getD (j + 1) 0) 2 = false) : resW ss gs = none := by
  have hgo : ∀ (i g : Nat), gs[i]? = some (some g) → g ≤ ss.length := fun i g e => (gw.go i g e).1
  cases c : resW ss gs with
  | none => rfl
  | some r =>
    obtain ⟨zs, ps⟩ := r
    have hT := res_told gw.lg gw.le hgo c
    have le := hb zs hT.1 (res_pat hT) hT.2.2
    obtain ⟨k', ek'⟩ := (hT.1.go j g eg).2
    have h1 : 2 ≤ k' := le.2 j _ _ ek ek'
    have h2 := hT.1.w3.at ek'
    have : k' = 2 := by omega
    subst this
    have h3 := fit_mono hn gw.lw le (hgo j g eg) (by omega) hf
    rw [good_fits hT.2.2 hj eg ek'] at h3
    cases h3
/-- a row too narrow is raised: still below -/
theorem below_set {ss : List Int} {gs ws w1 : List (Option Nat)} (hn : ∀ x ∈ ss, 0 ≤ x) (gw : GW ss gs ws) (hb : Below ss gs ws) (hb1 : Below ss gs w1) {j g k : Nat} (hj : j < ss.length) (eg : gs[j]? = some (some g)) (ek : ws[j]? = some (some k)) (ek1 : w1[j]? = some (some k)) (hf : fitW ((plcs ss ws).getD g 0 - (plcs ss ws).getD (j + 1) 0) k = false) : Below ss gs (w1.set j (some (k + 1))) := by
  intro zs gz pz good
  have le := hb zs gz pz good
  have le1 := hb1 zs gz pz good
  obtain ⟨hg, k', ek'⟩ := gz.go j g eg
  have hkk : k ≤ k' := le.2 j _ _ ek ek'
  have hne : k ≠ k' := fun z => by
    subst z
    have h1 := fit_mono hn gw.lw le hg (by omega) hf
    rw [good_fits good hj eg ek'] at h1
    cases h1
  refine ⟨by rw [List.length_set]; exact le1.1, fun i w z e1 e2 => ?_⟩
  by_cases q : j = i
  · subst q
    rw [List.getElem?_set_self (List.getElem?_eq_some_iff.mp ek1).1] at e1
    cases e1
    rw [ek'] at e2
    cases e2
    show k + 1 ≤ k'
    omega
  · rw [List.getElem?_set_ne q] at e1
    exact le1.2 i w z e1 e2
theorem good_of_bads {ss : List Int} {gs ws : List (Option Nat)} (h : bads ss gs ws ss.length = []) : goodW ss gs ws = true := by
  unfold goodW fbad
  rw [Option.isNone_iff_eq_none, List.find?_eq_none]
  intro j hj
  unfold bads at h
  rw [List.filter_eq_nil_iff] at h
  exact h j (by simp at hj ⊢; omega)
theorem res_is {ss : List Int} {gs ws : List (Option Nat)} (hn : ∀ x ∈ ss, 0 ≤ x) (gw : GW ss gs ws) (hp : Pat gs ws) (hb : Below ss gs ws) (good : goodW ss gs ws = true) : ∃ ps, resW ss gs = some (ws, ps) := by
  have hgo : ∀ (i g : Nat), gs[i]? = some (some g) → g ≤ ss.length := fun i g e => (gw.go i g e).1
  obtain ⟨w', ps, e, le⟩ := res_least hn gw.lg gw.le hgo gw hp good
  have hT := res_told gw.lg gw.le hgo e
  have := leW_anti le (hb w' hT.1 (res_pat hT) hT.2.2)
  subst this
  exact ⟨ps, e⟩

noncomputable def wkT : Option (List (Option Nat)) → L2.T
  | none => .non
  | some ws => .tup (nO ws)
noncomputable def tRaisedL : TSp := fun args Q => ∃ (ss : List Int) (gs : List (Option Nat)), args = [.tup (nI ss), .tup (nO gs)] ∧ gs.length = ss.length ∧ ss.length ≤ 60 ∧ (∀ (j g : Nat), gs[j]? = some (some g) → g ≤ ss.length) ∧ (∀ x ∈ ss, 0 ≤ x) ∧ Q (.tr (wkT ((resW ss gs).map Prod.fst))) []
theorem bads_mem {ss : List Int} {gs ws : List (Option Nat)} (gw : GW ss gs ws) {j : Nat} (h : j ∈ bads ss gs ws ss.length) : j < ss.length ∧ ∃ g k, gs[j]? = some (some g) ∧ ws[j]? = some (some k) ∧ k < 3 ∧ fitW ((plcs ss ws).getD g 0 - (plcs ss ws).getD (j + 1) 0) k = false := by
  unfold bads at h
  obtain ⟨h1, h2⟩ := List.mem_filter.mp h
  refine ⟨by simpa using h1, ?_⟩
  unfold badAt at h2
  split at h2
  · rename_i g k eg ek
    exact ⟨g, k, eg, ek, gw.w3.at ek, by simpa using h2⟩
  · cases h2
theorem ok_raisedL (T : Txt K mg) (F : HasFn K mg "_law_raised" s__law_raised ["sizes", "goals"]) (h_law_strained : CallOk P w K mg base CX0 2 "_law_strained" ["sizes", "goals", "widths"] (spT K [false, false, false] tStrained)) : CallOk P w K mg base CX0 3 "_law_raised" ["sizes", "goals"] (spT K [false, false] tRaisedL) := by
  refine F.okT sc__law_raised [false, false] rfl (by decide) (fun args Qt hl h f cdv A outer s H E hr => ?_)
  have hu := hu_of hr
  obtain ⟨ss, gs, rfl, hgl, hle, hgo, hn, q⟩ := h
  refine ⟨_, (Y.bcons (Y.setC1 (j := 2) sc__law_raised.nd rfl (by first | exact Or.inl rfl | exact Or.inr rfl) (osc := defScope s__law_raised) (ON := ["sizes", "goals", "widths", "rows", "row"]) (own := ["goal"]) (N := ["goal", "sizes", "goals", "widths", "rows", "row"]) ⟨rfl, by decide +kernel, rfl, by decide +kernel, by decide +kernel, by decide +kernel, by decide +kernel, by decide +kernel⟩ rfl rfl rfl rfl (Y.any K rfl (Y.v 1)) (fun _ _ _ _ => (Z.gname (i := 0) (show List.Nodup (["goal", "sizes", "goals", "widths", "rows", "row"] : List Str) by decide +kernel) rfl (by first | exact Or.inl rfl | exact Or.inr rfl))) (fun _ _ _ _ => Y.ts0) (fun _ _ _ _ => (Y.ifE (Y.tcmp op_isN Y.ro_isN (Y.v 0) Y.non) Y.non Y.int)))
      (Y.bcons (Y.setF (i := 3) sc__law_raised.nd rfl (by first | exact Or.inl rfl | exact Or.inr rfl) (Y.fn K rfl h_law_strained (hr.mono (by decide)) rfl pass0 (Y.cons (Y.v 0) (Y.cons (Y.v 1) (Y.cons (Y.v 2) Y.nil)))))
      (Y.bcons (Y.whileS PassesOwn.never (Y.tcmp (Y.op_neG K rfl (Nat.lt_of_succ_lt hu)) Y.ro_neG (Y.v 3) (Y.lst Y.nil)) (Y.bcons (Y.forS PassesOwn.never rfl (Y.any K rfl (Y.v 3)) (Y.gname (i := 4) sc__law_raised.nd rfl (by first | exact Or.inl rfl | exact Or.inr rfl)) (Y.bcons (Y.ifS (Y.tcmp (Y.op_eqG K rfl (Nat.lt_of_succ_lt hu)) Y.ro_eq (Y.ix (Y.ix_G K rfl) Y.ro_ix (Y.v 2) (Y.v 4)) Y.int) (Y.bone (Y.ret Y.non)) Y.bnil)
      (Y.bone (Y.asg (Y.op (Y.op_addG K rfl) Y.ro_add (Y.ix (Y.ix_G K rfl) Y.ro_ix (Y.v 2) (Y.v 4)) Y.int) (Y.gsub (Y.v 2) (Y.v 4))))))
      (Y.bone (Y.setF (i := 3) sc__law_raised.nd rfl (by first | exact Or.inl rfl | exact Or.inr rfl) (Y.fn K rfl h_law_strained (hr.mono (by decide)) rfl pass0 (Y.cons (Y.v 0) (Y.cons (Y.v 1) (Y.cons (Y.v 2) Y.nil))))))))
      (Y.bone (Y.ret (Y.ct (Y.call_tupG K rfl) Y.rc_tuple rfl T.b_tuple (by decide +kernel) (Y.cons (Y.v 2) Y.nil))))))), ?_⟩
  have gw0 := nar_gw hgl hle hgo
  refine seqT fun N hN => ?_
  walk_at "rt"
  refine cmp_ind (fun rest acc μ => ∃ gs1 gs2 : List (Option Nat), gs = gs1 ++ gs2 ∧ rest = nO gs2 ∧ acc = nO (nar gs1) ∧ μ = [.tr (.tup (nI ss)), .tr (.tup (nO gs)), .un, .un, .un]) ⟨[], gs, rfl, rfl, rfl, rfl⟩ ?_ ?_
  · rintro acc μ ⟨gs1, gs2, e, e2, rfl, rfl⟩
    cases gs2 with
    | cons => cases e2
    | nil =>
      rw [List.append_nil] at e
      subst e
      refine ⟨trivial, ?_⟩
      walk_at "rt"
      rw [hN]; clear hN N
      refine seqT fun N hN => ?_
      walk_at "rt"
      refine ⟨ss, gs, nar gs, rfl, gw0, ?_⟩
      have flc : ∀ xs : List Nat, flatR (R.fr (.lst (bN xs))) = true := fun xs => flat_bN xs
      wp_walk using flc
      refine ⟨.inr rfl, ?_⟩
      rw [hN]; clear hN N
      refine seqT fun N hN => ?_
      refine ⟨fun m μ => ∃ (ws : List (Option Nat)) (s4 : Option L2.T), GW ss gs ws ∧ Pat gs ws ∧ Below ss gs ws ∧ m = left ws ∧ μ = [.tr (.tup (nI ss)), .tr (.tup (nO gs)), .bx (.lst (nO ws)), .tr (.lst (bN (bads ss gs ws ss.length))), sl s4],
        ⟨_, nar gs, none, gw0, pat_nar gs, fun zs _ hp _ => nar_le hp, rfl, rfl⟩, ?_⟩
      rintro m μ ⟨ws, s4, gw, hp, hb, rfl, rfl⟩
      cases hbs : bads ss gs ws ss.length with
      | nil =>
        obtain ⟨ps, hres⟩ := res_is hn gw hp hb (good_of_bads hbs)
        rw [hres] at q
        walk_at "rt"
        refine ⟨rfl, rfl, ?_⟩
        rw [if_neg (by decide)]
        rw [hN]; clear hN N
        walk_at "rt"
        exact q
      | cons b bs =>
        have nd : (b :: bs).Nodup := by rw [← hbs]; exact List.nodup_range.filter _
        have mem : ∀ j ∈ b :: bs, j ∈ bads ss gs ws ss.length := fun j hj => by rw [hbs]; exact hj
        walk_at "rt"
        refine ⟨flat_bN _, rfl, ?_⟩
        rw [if_pos (by rfl)]
        refine seqT fun M hM => ?_
        walk_at "rt"
        refine for_ind (fun rest μ => ∃ (l r : List Nat) (w1 : List (Option Nat)) (s4 : Option L2.T), b :: bs = l ++ r ∧ rest = bN r ∧ GW ss gs w1 ∧ Pat gs w1 ∧ Below ss gs w1 ∧ (∀ j ∈ r, w1[j]? = ws[j]?) ∧ left w1 + l.length = left ws ∧ μ = [.tr (.tup (nI ss)), .tr (.tup (nO gs)), .bx (.lst (nO w1)), .tr (.lst (bN (b :: bs))), sl s4])
          ⟨[], b :: bs, ws, s4, rfl, rfl, gw, hp, hb, fun _ _ => rfl, rfl, rfl⟩ ?_ ?_
        · rintro μ ⟨l, r, w1, s4, e, e2, g1, p1, b1, _, hl1, rfl⟩
          cases r with
          | cons => cases e2
          | nil =>
            rw [List.append_nil] at e
            show M _
            rw [hM]; clear hM M
            walk_at "rt"
            refine ⟨ss, gs, w1, rfl, g1, ?_⟩
            wp_walk using flc
            refine ⟨.inr rfl, left w1, ?_, w1, s4, g1, p1, b1, rfl, rfl⟩
            rw [← e] at hl1
            simp at hl1
            omega
        · rintro t ts μ M2 ⟨l, r, w1, s4, e, e2, g1, p1, b1, sm, hl1, rfl⟩ k
          cases r with
          | nil => cases e2
          | cons j r =>
            cases e2
            obtain ⟨hj, g, kk, eg, ek, k3, hf⟩ := bads_mem gw (mem j (by rw [e]; simp))
            have ek1 : w1[j]? = some (some kk) := by rw [sm j (by simp), ek]
            have ak : atI (nO w1) (Int.ofNat j) = some (oI (some kk)) := at_nO ek1
            walk_at "rt"
            refine seqT fun M3 hM3 => ?_
            by_cases h2 : kk = 2
            · subst h2
              have hres := stuck hn gw hb hj eg ek hf
              rw [hres] at q
              wp_walk using ak, oI, (show ((2 : Nat) : Int) = 2 from rfl), decide_true
              exact q
            · have h2' : ¬ ((kk : Int) = 2) := by omega
              wp_walk using ak, oI, if_neg h2'
              rw [hM3]; clear hM3 M3
              have xk : ixN (nO w1).length (Int.ofNat j) = some j := by
                have hj := (List.getElem?_eq_some_iff.mp ek1).1
                unfold ixN
                rw [nO_len, if_pos (by simp), if_pos (by simp; omega)]; simp
              wp_walk using ak, oI, xk, set_nO
              have hlt := left_set ek1 (by omega)
              rw [e] at nd
              have nd2 := (List.nodup_append.mp nd).2.1
              refine k _ ⟨l ++ [j], r, w1.set j (some (kk + 1)), some (.int (Int.ofNat j)), by rw [e]; simp, rfl, g1.set (by omega) ek1, ?_, below_set hn gw hb b1 hj eg ek ek1 hf, fun i hi => ?_, ?_, rfl⟩
              · exact (pat_set ek1).trans p1
              · have : j ≠ i := fun z => (List.nodup_cons.mp nd2).1 (by rw [z]; exact hi)
                rw [List.getElem?_set_ne this]
                exact sm i (List.mem_cons_of_mem _ hi)
              · rw [List.length_append, List.length_singleton]
                omega
  · rintro t r acc μ N ⟨gs1, gs2, e, e2, rfl, rfl⟩ k
    cases gs2 with
    | nil => cases e2
    | cons g gs2 =>
      cases e2
      have hz : (nO (nar gs1)).length < sizeLine := by rw [nO_len]; unfold nar; rw [List.length_map]; exact Nat.lt_of_le_of_lt (show gs1.length ≤ 60 by rw [e] at hgl; simp at hgl; omega) (by decide)
      refine ⟨trivial, hz, ?_⟩
      have st : ∀ x, x = Option.map (fun _ => 0) g → N (nO (nar gs1) ++ [oI x]) [.tr (.tup (nI ss)), .tr (.tup (nO gs)), .un, .un, .un] := fun x hx => k _ _ ⟨gs1 ++ [g], gs2, by simp [e], rfl, by simp [nO, nar, hx], rfl⟩
      cases g with
      | none => wp_walk using oI; exact st none rfl
      | some g' => wp_walk using oI; exact st (some 0) rfl

theorem cut7 (ns : List Int) : Y.cutG (nI ns) none (some 7) = nI (ns.take 7) := cut_take ns 7
theorem eqFs_self (ws : List (Option Nat)) : Y.eqFs (nO ws) (nO ws) = true := by
  unfold Y.eqFs
  rw [Bool.and_eq_true, beq_iff_eq, Nat.min_self, List.all_eq_true]
  refine ⟨rfl, fun j hj => ?_⟩
  have hj' : j < ws.length := by simpa [nO] using hj
  have e : (nO ws)[j]? = some (oI ws[j]) := by unfold nO; rw [List.getElem?_map, List.getElem?_eq_getElem hj']; rfl
  rw [e]
  cases ws[j] with
  | none => rfl
  | some k => simp [oI, Y.eqF]
theorem flat_nOs : ∀ xs : List (Option Nat), (nO xs).all flatT = true
  | [] => rfl
  | x :: xs => by show (flatT (oI x) && (nO xs).all flatT) = true; rw [flat_nOs xs]; cases x <;> rfl
theorem ok_law {f : Addr} {fd : FuncData} (T : Txt K mg) (F : Fun K "law" "law" s_law f fd) (h_law_folded : CallOk P w K mg base CX0 1 "_law_folded" ["script"] (spT K [false] tFolded)) (h_law_seed : CallOk P w K mg base CX0 1 "_law_seed" ["cell"] (spT K [false] tSeed))
    (h_law_question : CallOk P w K mg base CX0 3 "_law_question" ["seed", "most"] (spT K [true, false] tQuestion)) (h_law_widths : CallOk P w K mg base CX0 2 "_law_widths" ["seed", "goals", "most"] (spT K [true, false, false] tWidths)) (h_law_draw : CallOk P w K mg base CX0 1 "_law_draw" ["seed", "most"] (spT K [true, false] tDraw))
    (h_law_edged : CallOk P w K mg base CX0 3 "_law_edged" ["seed", "sizes", "goals", "widths"] (spT K [true, false, false, false] tEdged)) (h_law_raised : CallOk P w K mg base CX0 3 "_law_raised" ["sizes", "goals"] (spT K [false, false] tRaisedL)) (h_law_asked : CallOk P w K mg base CX0 6 "_law_asked" ["sizes", "goals", "way"] (spT K [false, false, false] tAsked)) :
    FnOk P w K mg base CX0 7 f fd ["script"] (spLaw K) := by
  refine law_of (fun_okT F sc_law [false] rfl (by decide) (fun args Qt hl h cdv A outer s H E hr => ?_))
  have hu := hu_of hr
  obtain ⟨ns, rfl, hn, q⟩ := h
  refine ⟨_, (Y.bcons (Y.forS PassesOwn.never rfl (Y.any K rfl (Y.op (Y.op_addG K rfl) Y.ro_add (Y.sliceX K rfl (Y.v 0) Y.po0 (Y.po1 Y.int)) (Y.lst (Y.cons (Y.fn K rfl h_law_folded (hr.mono (by decide)) rfl pass0 (Y.cons (Y.v 0) Y.nil)) Y.nil)))) (Y.gname (i := 1) sc_law.nd rfl (by first | exact Or.inl rfl | exact Or.inr rfl)) (Y.bcons (Y.set (i := 2) sc_law.nd rfl (by first | exact Or.inl rfl | exact Or.inr rfl) (Y.fn K rfl h_law_seed (hr.mono (by decide)) rfl pass0 (Y.cons (Y.v 1) Y.nil)))
      (Y.bcons (Y.asg (Y.fn K rfl h_law_question (hr.mono (by decide)) rfl pass0 (Y.cons (Y.v 2) (Y.cons Y.int Y.nil))) (Y.gtup (n := 2) K rfl rfl (Y.gscons (Y.gname (i := 3) sc_law.nd rfl (by first | exact Or.inl rfl | exact Or.inr rfl)) (Y.gscons (Y.gname (i := 4) sc_law.nd rfl (by first | exact Or.inl rfl | exact Or.inr rfl)) Y.gsnil))))
      (Y.bcons (Y.ifS (Y.tcmp (Y.op_eqG K rfl (Nat.lt_of_succ_lt hu)) Y.ro_eq (Y.fn K rfl h_law_draw (hr.mono (by decide)) rfl pass0 (Y.cons (Y.v 2) (Y.cons Y.int Y.nil))) Y.int) (Y.bone (Y.set (i := 3) sc_law.nd rfl (by first | exact Or.inl rfl | exact Or.inr rfl) (Y.fn K rfl h_law_edged (hr.mono (by decide)) rfl pass0 (Y.cons (Y.v 2) (Y.cons (Y.v 3) (Y.cons (Y.v 4) (Y.cons (Y.fn K rfl h_law_widths (hr.mono (by decide)) rfl pass0 (Y.cons (Y.v 2) (Y.cons (Y.v 4) (Y.cons (Y.op (Y.op_addG K rfl) Y.ro_add Y.int (Y.fn K rfl h_law_draw (hr.mono (by decide)) rfl pass0 (Y.cons (Y.v 2) (Y.cons Y.int Y.nil)))) Y.nil)))) Y.nil))))))) Y.bnil)
      (Y.bcons (Y.set (i := 5) sc_law.nd rfl (by first | exact Or.inl rfl | exact Or.inr rfl) (Y.fn K rfl h_law_raised (hr.mono (by decide)) rfl pass0 (Y.cons (Y.v 3) (Y.cons (Y.v 4) Y.nil))))
      (Y.bcons (Y.set (i := 6) sc_law.nd rfl (by first | exact Or.inl rfl | exact Or.inr rfl) (Y.fn K rfl h_law_draw (hr.mono (by decide)) rfl pass0 (Y.cons (Y.v 2) (Y.cons Y.int Y.nil))))
      (Y.bone (Y.forS PassesOwn.never rfl (Y.any K rfl (Y.lst (Y.cons (Y.v 6) (Y.cons (Y.op op_sub Y.ro_int0 Y.int (Y.v 6)) (Y.cons (Y.v 6) Y.nil))))) (Y.gname (i := 7) sc_law.nd rfl (by first | exact Or.inl rfl | exact Or.inr rfl)) (Y.bcons (Y.setF (i := 8) sc_law.nd rfl (by first | exact Or.inl rfl | exact Or.inr rfl) (Y.fn K rfl h_law_asked (hr.mono (by decide)) rfl pass0 (Y.cons (Y.v 3) (Y.cons (Y.v 4) (Y.cons (Y.v 7) Y.nil)))))
      (Y.bcons (Y.ifS (Y.tw (Y.wand (Y.tcmp op_isN Y.ro_isN (Y.v 5) Y.non) (Y.wand1 (Y.tcmp (Y.op_neG K rfl (Nat.lt_of_succ_lt hu)) Y.ro_neG (Y.v 8) (Y.lst (Y.consts2 rfl rfl)))))) (Y.bone (Y.ret Y.bl)) Y.bnil)
      (Y.bcons (Y.ifS (Y.tw (Y.wand (Y.tcmp op_notN Y.ro_notN (Y.v 5) Y.non) (Y.wand1 (Y.tnot (Y.ttru K rfl (Y.isi (C := "tuple") K rfl rfl T.b_isinstance (Y.v 8) rfl T.b_tuple (by decide +kernel))))))) (Y.bone (Y.ret Y.bl)) Y.bnil)
      (Y.bone (Y.ifS (Y.tw (Y.wand (Y.tcmp op_notN Y.ro_notN (Y.v 5) Y.non) (Y.wand (Y.tcmp (Y.op_eqG K rfl (Nat.lt_of_succ_lt hu)) Y.ro_eq (Y.v 7) Y.int) (Y.wand1 (Y.tcmp (Y.op_neG K rfl (Nat.lt_of_succ_lt hu)) Y.ro_neG (Y.v 8) (Y.v 5)))))) (Y.bone (Y.ret Y.bl)) Y.bnil)))))))))))))
      (Y.bone (Y.ret Y.bl))), ?_⟩
  refine seqT fun N hN => ?_
  show Y.uFor _ _ _ _ (startM [false] [.rol (nI ns)] _)
  wp_walk using cut7
  refine ⟨ns, rfl, fun v => ?_⟩
  wp_walk using nI_len, List.length_take
  refine ⟨by decide, Nat.le_trans (show min 7 ns.length + 1 ≤ 100 by omega) (by decide), ?_⟩
  have e0 : nI (ns.take 7) ++ [L2.T.int v] = nI (ns.take 7 ++ [v]) := by simp [nI]
  rw [e0]
  refine for_ind (fun rest μ => ∃ (ms : List Int) (s1 s3 s4 s5 s6 s7 s8 : Option L2.T) (sd : Sl), rest = nI ms ∧ (sd = .un ∨ ∃ c, sd = .bx c) ∧ μ = [.tr (.rol (nI ns)), sl s1, sd, sl s3, sl s4, sl s5, sl s6, sl s7, sl s8]) ⟨_, none, none, none, none, none, none, none, .un, rfl, .inl rfl, rfl⟩ ?_ ?_
  · rintro μ ⟨ms, s1, s3, s4, s5, s6, s7, s8, sd, _, _, rfl⟩
    show N _
    rw [hN]; clear hN N
    walk_at "rt"
    exact q
  · rintro t ts μ M ⟨ms, s1, s3, s4, s5, s6, s7, s8, sd, e, hsd, rfl⟩ k
    cases ms with
    | nil => cases e
    | cons m ms =>
      cases e
      have nsd : nb (some sd) = True := by rcases hsd with rfl | ⟨c, rfl⟩ <;> rfl
      walk_at "rt"
      refine seqT fun M' hM => ?_
      wp_walk using nsd
      refine ⟨m, rfl, fun sd1 hs1 => ?_⟩
      wp_walk using nsd
      rw [hM]; clear hM M'
      refine seqT fun M' hM => ?_
      walk_at "rt"
      refine ⟨sd1, 60, rfl, by decide, by decide, hs1, fun ss gs sd2 hs2 hl1 _ hl2 hg hnn => ?_⟩
      walk_at "rt"
      rw [hM]; clear hM M'
      refine seqT fun M' hM => ?_
      have rest : ∀ (zs : List Int) (sd5 : L2.T), Seed sd5 → zs.length = ss.length → (∀ x ∈ zs, 0 ≤ x) → M' [.tr (.rol (nI ns)), .tr (.int m), .bx sd5, .tr (.tup (nI zs)), .tr (.tup (nO gs)), sl s5, sl s6, sl s7, sl s8] := fun zs sd5 hs5 hz hzn => by
        rw [hM]; clear hM M'
        have hgl : gs.length = zs.length := by omega
        have hzl : zs.length ≤ 60 := by omega
        have hgo : ∀ (j g : Nat), gs[j]? = some (some g) → g ≤ zs.length := fun j g e => by rw [hz]; exact hg j g e
        refine seqT fun M' hM => ?_
        walk_at "rt"
        refine ⟨zs, gs, rfl, hgl, hzl, hgo, hzn, ?_⟩
        walk_at "rt"
        rw [hM]; clear hM M'
        refine seqT fun M' hM => ?_
        walk_at "rt"
        refine ⟨sd5, 2, rfl, hs5, by decide, by decide, fun fi sd6 hs6 f0 f1 => ?_⟩
        walk_at "rt"
        rw [hM]; clear hM M'
        walk_at "rt"
        refine ⟨by decide, ?_⟩
        refine for_ind (fun rest μ => ∃ (vs : List Int) (s7 s8 : Option L2.T), rest = nI vs ∧ μ = [.tr (.rol (nI ns)), .tr (.int m), .bx sd6, .tr (.tup (nI zs)), .tr (.tup (nO gs)), .tr (wkT ((resW zs gs).map Prod.fst)), .tr (.int fi), sl s7, sl s8]) ⟨[fi, 1 - fi, fi], s7, s8, rfl, rfl⟩ ?_ ?_
        · rintro μ ⟨vs, s7, s8, _, rfl⟩
          exact k _ ⟨ms, some _, some _, some _, some _, some _, s7, s8, _, rfl, .inr ⟨_, rfl⟩, rfl⟩
        · rintro t ts μ M3 ⟨vs, s7, s8, e, rfl⟩ k3
          cases vs with
          | nil => cases e
          | cons v vs =>
            cases e
            walk_at "rt"
            refine seqT fun M' hM => ?_
            walk_at "rt"
            refine ⟨zs, gs, v, rfl, hgl, hzl, hgo, ?_⟩
            unfold askT
            cases hres : resW zs gs with
            | none =>
              walk_at "rt"
              rw [hM]; clear hM M'
              refine seqT fun M' hM => ?_
              wp_walk using wkT
              refine ⟨by decide, rfl, rfl, ?_⟩
              rw [if_neg (by decide)]
              rw [hM]; clear hM M'
              refine seqT fun M' hM => ?_
              walk_at "rt"
              rw [hM]; clear hM M'
              walk_at "rt"
              exact k3 _ ⟨vs, some _, some _, rfl, by rw [hres]; rfl⟩
            | some r =>
              obtain ⟨ws, ps⟩ := r
              have hx : (if v = 0 then L2.T.tup (nO ws) else .tup (nI ps)) = .tup (if v = 0 then nO ws else nI ps) := by split <;> rfl
              simp only [hx]
              walk_at "rt"
              rw [hM]; clear hM M'
              refine seqT fun M' hM => ?_
              wp_walk using wkT
              rw [hM]; clear hM M'
              refine seqT fun M' hM => ?_
              wp_walk using (show isiU "tuple" "tuple" = true by decide)
              rw [hM]; clear hM M'
              by_cases hv : v = 0
              · wp_walk using if_pos hv, eqFs_self, flat_nOs
                exact k3 _ ⟨vs, some _, some _, rfl, by rw [hres]; rfl⟩
              · wp_walk using if_neg hv
                exact k3 _ ⟨vs, some _, some _, rfl, by rw [hres]; rfl⟩
      walk_at "rt"
      refine ⟨sd2, 2, rfl, hs2, by decide, by decide, fun v2 sd4 hs4 v0 v1 => ?_⟩
      by_cases c : v2 = 0
      · wp_walk using if_pos c
        refine ⟨sd4, 3, rfl, hs4, by decide, by decide, fun v3 sd4 hs4 v30 v31 => ?_⟩
        walk_at "rt"
        refine ⟨sd4, gs, 1 + v3, rfl, by omega, by omega, hs4, by omega, fun ws sd3 hs3 hw1 hw2 hw3 => ?_⟩
        walk_at "rt"
        refine ⟨sd3, ss, gs, ws, rfl, hs3, ⟨by omega, by omega, by omega, hw2, fun j g e => ⟨hg j g e, hw3 j g e⟩⟩, hnn, fun zs sd5 hs5 hz hzn => ?_⟩
        walk_at "rt"
        exact rest zs sd5 hs5 hz hzn
      · wp_walk using if_neg c
        exact rest ss sd4 hs4 rfl hnn
theorem all_ok {f : Addr} {fd : FuncData} (T : Txt K mg) (f_least_widths : HasFn K mg "least_widths" s_least_widths ["sizes", "goals"]) (f_widths_paper : HasFn K mg "widths_paper" s_widths_paper ["sizes", "goals"]) (f_raised_till_good : HasFn K mg "raised_till_good" s_raised_till_good ["sizes", "goals"]) (f_narrowest : HasFn K mg "narrowest" s_narrowest ["goals"]) (f_first_too_narrow : HasFn K mg "first_too_narrow" s_first_too_narrow ["sizes", "goals", "widths"]) (f_fits : HasFn K mg "fits" s_fits ["starts", "goals", "widths", "row"]) (f_distance_of : HasFn K mg "distance_of" s_distance_of ["starts", "goals", "row"]) (f_row_starts : HasFn K mg "row_starts" s_row_starts ["sizes", "widths"]) (f_own_part : HasFn K mg "own_part" s_own_part ["width"]) (f__law_folded : HasFn K mg "_law_folded" s__law_folded ["script"]) (f__law_seed : HasFn K mg "_law_seed" s__law_seed ["cell"]) (f__law_draw : HasFn K mg "_law_draw" s__law_draw ["seed", "most"]) (f__law_places : HasFn K mg "_law_places" s__law_places ["sizes", "widths"]) (f__law_fits : HasFn K mg "_law_fits" s__law_fits ["far", "width"]) (f__law_far : HasFn K mg "_law_far" s__law_far ["sizes", "goals", "widths", "row"]) (f__law_size : HasFn K mg "_law_size" s__law_size ["seed", "scale"]) (f__law_edged : HasFn K mg "_law_edged" s__law_edged ["seed", "sizes", "goals", "widths"]) (f__law_question : HasFn K mg "_law_question" s__law_question ["seed", "most"]) (f__law_widths : HasFn K mg "_law_widths" s__law_widths ["seed", "goals", "most"]) (f__law_asked : HasFn K mg "_law_asked" s__law_asked ["sizes", "goals", "way"]) (f__law_strained : HasFn K mg "_law_strained" s__law_strained ["sizes", "goals", "widths"]) (f__law_raised : HasFn K mg "_law_raised" s__law_raised ["sizes", "goals"]) (F : Fun K "law" "law" s_law f fd) :
    FnOk P w K mg base CX0 7 f fd ["script"] (spLaw K) := by
  have dr := ok_draw (P := P) (w := w) (base := base) T f__law_draw
  have pl := ok_lplaces (P := P) (w := w) (base := base) T f__law_places
  have ow := ok_own_part (P := P) (w := w) (base := base) T f_own_part
  have ft := ok_fits T f_fits (ok_distance_of (P := P) (w := w) (base := base) T f_distance_of)
  have lf := ok_lfits (P := P) (w := w) (base := base) T f__law_fits
  have fr := ok_far T f__law_far pl
  have rs := ok_raisedX T f_raised_till_good (ok_narrowest T f_narrowest) (ok_narrow T f_first_too_narrow (ok_row_starts T f_row_starts ow) ft)
  exact ok_law T F (ok_folded T f__law_folded) (ok_seed T f__law_seed) (ok_question T f__law_question dr (ok_size T f__law_size dr)) (ok_widths T f__law_widths dr) dr (ok_edged T f__law_edged dr fr) (ok_raisedL T f__law_raised (ok_strained T f__law_strained pl lf)) (ok_asked T f__law_asked (ok_leastX T f_least_widths rs) (ok_paperX T f_widths_paper rs))

theorem all_mk {l : PySem.W.OpenLaw} {w : World} {K : PySem.W.Frag} {h : Heap} {mg : Str → Option Value} {fa : Addr} (X : K.In h) (G : h.Ns mainGlobals mg) (hfa : mg "law" = some (.ref fa))
    {f0 f1 f2 f3 f4 f5 f6 f7 f8 f9 f10 f11 f12 f13 f14 f15 f16 f17 f18 f19 f20 f21 f22 : Addr} {od0 an0 od1 an1 od2 an2 od3 an3 od4 an4 od5 an5 od6 an6 od7 an7 od8 an8 od9 an9 od10 an10 od11 an11 od12 an12 od13 an13 od14 an14 od15 an15 od16 an16 od17 an17 od18 an18 od19 an19 od20 an20 od21 an21 od22 an22 : Option Addr} {sl0 sl1 sl2 sl3 sl4 sl5 sl6 sl7 sl8 sl9 sl10 sl11 sl12 sl13 sl14 sl15 sl16 sl17 sl18 sl19 sl20 sl21 sl22 : Array (Option Value)} {oc0 kV0 dc0 pm0 cd0 ct0 oc1 kV1 dc1 pm1 cd1 ct1 oc2 kV2 dc2 pm2 cd2 ct2 oc3 kV3 dc3 pm3 cd3 ct3 oc4 kV4 dc4 pm4 cd4 ct4 oc5 kV5 dc5 pm5 cd5 ct5 oc6 kV6 dc6 pm6 cd6 ct6 oc7 kV7 dc7 pm7 cd7 ct7 oc8 kV8 dc8 pm8 cd8 ct8 oc9 kV9 dc9 pm9 cd9 ct9 oc10 kV10 dc10 pm10 cd10 ct10 oc11 kV11 dc11 pm11 cd11 ct11 oc12 kV12 dc12 pm12 cd12 ct12 oc13 kV13 dc13 pm13 cd13 ct13 oc14 kV14 dc14 pm14 cd14 ct14 oc15 kV15 dc15 pm15 cd15 ct15 oc16 kV16 dc16 pm16 cd16 ct16 oc17 kV17 dc17 pm17 cd17 ct17 oc18 kV18 dc18 pm18 cd18 ct18 oc19 kV19 dc19 pm19 cd19 ct19 oc20 kV20 dc20 pm20 cd20 ct20 oc21 kV21 dc21 pm21 cd21 ct21 oc22 kV22 dc22 pm22 cd22 ct22 : Value}
    {q0 : Addr} {qd0 : Option Addr} {qn0 : Nat} {qs0 : Array (Option Value)} {w0_0 w0_1 w0_2 : Tok}
    {q1 : Addr} {qd1 : Option Addr} {qn1 : Nat} {qs1 : Array (Option Value)} {w1_0 w1_1 w1_2 : Tok}
    {w2_0 : Tok}
    {q3 : Addr} {qd3 : Option Addr} {qn3 : Nat} {qs3 : Array (Option Value)} {w3_0 w3_1 w3_2 : Tok}
    {xc0 : Addr}
    {xd_ShortError xd_NoReach xd_NoAsk xd_NoBits xd_NoCode xd_NoProgram xd_NoRow : Addr}
    (a0 : PySem.W.nsIn K mainGlobals "least_widths" = some (some (.ref f0))) (l0 : K.lookup f0 = some ⟨oc0, od0, .func (PySem.W.fnOf "least_widths" "least_widths" (defArgs s_least_widths) (defBody s_least_widths) (defScope s_least_widths) .none kV0 dc0 pm0 an0 cd0 ct0), sl0⟩) (c0 : PySem.W.codeIn K cd0 "least_widths" = true) (k0 : PySem.W.keepIn K (.ref f0) = true)
    (a1 : PySem.W.nsIn K mainGlobals "widths_paper" = some (some (.ref f1))) (l1 : K.lookup f1 = some ⟨oc1, od1, .func (PySem.W.fnOf "widths_paper" "widths_paper" (defArgs s_widths_paper) (defBody s_widths_paper) (defScope s_widths_paper) .none kV1 dc1 pm1 an1 cd1 ct1), sl1⟩) (c1 : PySem.W.codeIn K cd1 "widths_paper" = true) (k1 : PySem.W.keepIn K (.ref f1) = true)
    (a2 : PySem.W.nsIn K mainGlobals "raised_till_good" = some (some (.ref f2))) (l2 : K.lookup f2 = some ⟨oc2, od2, .func (PySem.W.fnOf "raised_till_good" "raised_till_good" (defArgs s_raised_till_good) (defBody s_raised_till_good) (defScope s_raised_till_good) .none kV2 dc2 pm2 an2 cd2 ct2), sl2⟩) (c2 : PySem.W.codeIn K cd2 "raised_till_good" = true) (k2 : PySem.W.keepIn K (.ref f2) = true)
    (a3 : PySem.W.nsIn K mainGlobals "narrowest" = some (some (.ref f3))) (l3 : K.lookup f3 = some ⟨oc3, od3, .func (PySem.W.fnOf "narrowest" "narrowest" (defArgs s_narrowest) (defBody s_narrowest) (defScope s_narrowest) .none kV3 dc3 pm3 an3 cd3 ct3), sl3⟩) (c3 : PySem.W.codeIn K cd3 "narrowest" = true) (k3 : PySem.W.keepIn K (.ref f3) = true)
    (a4 : PySem.W.nsIn K mainGlobals "first_too_narrow" = some (some (.ref f4))) (l4 : K.lookup f4 = some ⟨oc4, od4, .func (PySem.W.fnOf "first_too_narrow" "first_too_narrow" (defArgs s_first_too_narrow) (defBody s_first_too_narrow) (defScope s_first_too_narrow) .none kV4 dc4 pm4 an4 cd4 ct4), sl4⟩) (c4 : PySem.W.codeIn K cd4 "first_too_narrow" = true) (k4 : PySem.W.keepIn K (.ref f4) = true)
    (a5 : PySem.W.nsIn K mainGlobals "fits" = some (some (.ref f5))) (l5 : K.lookup f5 = some ⟨oc5, od5, .func (PySem.W.fnOf "fits" "fits" (defArgs s_fits) (defBody s_fits) (defScope s_fits) .none kV5 dc5 pm5 an5 cd5 ct5), sl5⟩) (c5 : PySem.W.codeIn K cd5 "fits" = true) (k5 : PySem.W.keepIn K (.ref f5) = true)
    (a6 : PySem.W.nsIn K mainGlobals "distance_of" = some (some (.ref f6))) (l6 : K.lookup f6 = some ⟨oc6, od6, .func (PySem.W.fnOf "distance_of" "distance_of" (defArgs s_distance_of) (defBody s_distance_of) (defScope s_distance_of) .none kV6 dc6 pm6 an6 cd6 ct6), sl6⟩) (c6 : PySem.W.codeIn K cd6 "distance_of" = true) (k6 : PySem.W.keepIn K (.ref f6) = true)
    (a7 : PySem.W.nsIn K mainGlobals "row_starts" = some (some (.ref f7))) (l7 : K.lookup f7 = some ⟨oc7, od7, .func (PySem.W.fnOf "row_starts" "row_starts" (defArgs s_row_starts) (defBody s_row_starts) (defScope s_row_starts) .none kV7 dc7 pm7 an7 cd7 ct7), sl7⟩) (c7 : PySem.W.codeIn K cd7 "row_starts" = true) (k7 : PySem.W.keepIn K (.ref f7) = true)
    (a8 : PySem.W.nsIn K mainGlobals "own_part" = some (some (.ref f8))) (l8 : K.lookup f8 = some ⟨oc8, od8, .func (PySem.W.fnOf "own_part" "own_part" (defArgs s_own_part) (defBody s_own_part) (defScope s_own_part) .none kV8 dc8 pm8 an8 cd8 ct8), sl8⟩) (c8 : PySem.W.codeIn K cd8 "own_part" = true) (k8 : PySem.W.keepIn K (.ref f8) = true)
    (a9 : PySem.W.nsIn K mainGlobals "_law_folded" = some (some (.ref f9))) (l9 : K.lookup f9 = some ⟨oc9, od9, .func (PySem.W.fnOf "_law_folded" "_law_folded" (defArgs s__law_folded) (defBody s__law_folded) (defScope s__law_folded) .none kV9 dc9 pm9 an9 cd9 ct9), sl9⟩) (c9 : PySem.W.codeIn K cd9 "_law_folded" = true) (k9 : PySem.W.keepIn K (.ref f9) = true)
    (a10 : PySem.W.nsIn K mainGlobals "_law_seed" = some (some (.ref f10))) (l10 : K.lookup f10 = some ⟨oc10, od10, .func (PySem.W.fnOf "_law_seed" "_law_seed" (defArgs s__law_seed) (defBody s__law_seed) (defScope s__law_seed) .none kV10 dc10 pm10 an10 cd10 ct10), sl10⟩) (c10 : PySem.W.codeIn K cd10 "_law_seed" = true) (k10 : PySem.W.keepIn K (.ref f10) = true)
    (a11 : PySem.W.nsIn K mainGlobals "_law_draw" = some (some (.ref f11))) (l11 : K.lookup f11 = some ⟨oc11, od11, .func (PySem.W.fnOf "_law_draw" "_law_draw" (defArgs s__law_draw) (defBody s__law_draw) (defScope s__law_draw) .none kV11 dc11 pm11 an11 cd11 ct11), sl11⟩) (c11 : PySem.W.codeIn K cd11 "_law_draw" = true) (k11 : PySem.W.keepIn K (.ref f11) = true)
    (a12 : PySem.W.nsIn K mainGlobals "_law_places" = some (some (.ref f12))) (l12 : K.lookup f12 = some ⟨oc12, od12, .func (PySem.W.fnOf "_law_places" "_law_places" (defArgs s__law_places) (defBody s__law_places) (defScope s__law_places) .none kV12 dc12 pm12 an12 cd12 ct12), sl12⟩) (c12 : PySem.W.codeIn K cd12 "_law_places" = true) (k12 : PySem.W.keepIn K (.ref f12) = true)
    (a13 : PySem.W.nsIn K mainGlobals "_law_fits" = some (some (.ref f13))) (l13 : K.lookup f13 = some ⟨oc13, od13, .func (PySem.W.fnOf "_law_fits" "_law_fits" (defArgs s__law_fits) (defBody s__law_fits) (defScope s__law_fits) .none kV13 dc13 pm13 an13 cd13 ct13), sl13⟩) (c13 : PySem.W.codeIn K cd13 "_law_fits" = true) (k13 : PySem.W.keepIn K (.ref f13) = true)
    (a14 : PySem.W.nsIn K mainGlobals "_law_far" = some (some (.ref f14))) (l14 : K.lookup f14 = some ⟨oc14, od14, .func (PySem.W.fnOf "_law_far" "_law_far" (defArgs s__law_far) (defBody s__law_far) (defScope s__law_far) .none kV14 dc14 pm14 an14 cd14 ct14), sl14⟩) (c14 : PySem.W.codeIn K cd14 "_law_far" = true) (k14 : PySem.W.keepIn K (.ref f14) = true)
    (a15 : PySem.W.nsIn K mainGlobals "_law_size" = some (some (.ref f15))) (l15 : K.lookup f15 = some ⟨oc15, od15, .func (PySem.W.fnOf "_law_size" "_law_size" (defArgs s__law_size) (defBody s__law_size) (defScope s__law_size) .none kV15 dc15 pm15 an15 cd15 ct15), sl15⟩) (c15 : PySem.W.codeIn K cd15 "_law_size" = true) (k15 : PySem.W.keepIn K (.ref f15) = true)
    (a16 : PySem.W.nsIn K mainGlobals "_law_edged" = some (some (.ref f16))) (l16 : K.lookup f16 = some ⟨oc16, od16, .func (PySem.W.fnOf "_law_edged" "_law_edged" (defArgs s__law_edged) (defBody s__law_edged) (defScope s__law_edged) .none kV16 dc16 pm16 an16 cd16 ct16), sl16⟩) (c16 : PySem.W.codeIn K cd16 "_law_edged" = true) (k16 : PySem.W.keepIn K (.ref f16) = true)
    (a17 : PySem.W.nsIn K mainGlobals "_law_question" = some (some (.ref f17))) (l17 : K.lookup f17 = some ⟨oc17, od17, .func (PySem.W.fnOf "_law_question" "_law_question" (defArgs s__law_question) (defBody s__law_question) (defScope s__law_question) .none kV17 dc17 pm17 an17 cd17 ct17), sl17⟩) (c17 : PySem.W.codeIn K cd17 "_law_question" = true) (k17 : PySem.W.keepIn K (.ref f17) = true)
    (a18 : PySem.W.nsIn K mainGlobals "_law_widths" = some (some (.ref f18))) (l18 : K.lookup f18 = some ⟨oc18, od18, .func (PySem.W.fnOf "_law_widths" "_law_widths" (defArgs s__law_widths) (defBody s__law_widths) (defScope s__law_widths) .none kV18 dc18 pm18 an18 cd18 ct18), sl18⟩) (c18 : PySem.W.codeIn K cd18 "_law_widths" = true) (k18 : PySem.W.keepIn K (.ref f18) = true)
    (a19 : PySem.W.nsIn K mainGlobals "_law_asked" = some (some (.ref f19))) (l19 : K.lookup f19 = some ⟨oc19, od19, .func (PySem.W.fnOf "_law_asked" "_law_asked" (defArgs s__law_asked) (defBody s__law_asked) (defScope s__law_asked) .none kV19 dc19 pm19 an19 cd19 ct19), sl19⟩) (c19 : PySem.W.codeIn K cd19 "_law_asked" = true) (k19 : PySem.W.keepIn K (.ref f19) = true)
    (a20 : PySem.W.nsIn K mainGlobals "_law_strained" = some (some (.ref f20))) (l20 : K.lookup f20 = some ⟨oc20, od20, .func (PySem.W.fnOf "_law_strained" "_law_strained" (defArgs s__law_strained) (defBody s__law_strained) (defScope s__law_strained) .none kV20 dc20 pm20 an20 cd20 ct20), sl20⟩) (c20 : PySem.W.codeIn K cd20 "_law_strained" = true) (k20 : PySem.W.keepIn K (.ref f20) = true)
    (a21 : PySem.W.nsIn K mainGlobals "_law_raised" = some (some (.ref f21))) (l21 : K.lookup f21 = some ⟨oc21, od21, .func (PySem.W.fnOf "_law_raised" "_law_raised" (defArgs s__law_raised) (defBody s__law_raised) (defScope s__law_raised) .none kV21 dc21 pm21 an21 cd21 ct21), sl21⟩) (c21 : PySem.W.codeIn K cd21 "_law_raised" = true) (k21 : PySem.W.keepIn K (.ref f21) = true)
    (a22 : PySem.W.nsIn K mainGlobals "law" = some (some (.ref f22))) (l22 : K.lookup f22 = some ⟨oc22, od22, .func (PySem.W.fnOf "law" "law" (defArgs s_law) (defBody s_law) (defScope s_law) .none kV22 dc22 pm22 an22 cd22 ct22), sl22⟩) (c22 : PySem.W.codeIn K cd22 "law" = true) (k22 : PySem.W.keepIn K (.ref f22) = true)
    (z0 : PySem.W.nsIn K mainGlobals "ValueError" = some none)
    (z1 : PySem.W.nsIn K mainGlobals "enumerate" = some none)
    (z2 : PySem.W.nsIn K mainGlobals "int" = some none)
    (z3 : PySem.W.nsIn K mainGlobals "isinstance" = some none)
    (z4 : PySem.W.nsIn K mainGlobals "len" = some none)
    (z5 : PySem.W.nsIn K mainGlobals "list" = some none)
    (z6 : PySem.W.nsIn K mainGlobals "max" = some none)
    (z7 : PySem.W.nsIn K mainGlobals "range" = some none)
    (z8 : PySem.W.nsIn K mainGlobals "tuple" = some none)
    (z9 : PySem.W.nsIn K mainGlobals "zip" = some none)
    (g0 : PySem.W.nsIn K mainGlobals "HALVES" = some (some (.ref q0))) (m0 : K.lookup q0 = some ⟨.type "tuple", qd0, .seq #[.int 8 w0_0, .int 128 w0_1, .int 32768 w0_2] qn0, qs0⟩)
    (g1 : PySem.W.nsIn K mainGlobals "HEADS" = some (some (.ref q1))) (m1 : K.lookup q1 = some ⟨.type "tuple", qd1, .seq #[.str "0" w1_0, .str "10" w1_1, .str "11" w1_2] qn1, qs1⟩)
    (g2 : PySem.W.nsIn K mainGlobals "WIDEST" = some (some (.int 2 w2_0)))
    (g3 : PySem.W.nsIn K mainGlobals "WIDTHS" = some (some (.ref q3))) (m3 : K.lookup q3 = some ⟨.type "tuple", qd3, .seq #[.int 4 w3_0, .int 8 w3_1, .int 16 w3_2] qn3, qs3⟩)
    (xa0 : PySem.W.nsIn K mainGlobals "NoReach" = some (some (.ref xc0))) (xq0 : PySem.W.excIn K xc0 [.type "ValueError", .type "Exception", .type "BaseException", .type "object"] "ValueError.__new__" = true)
    (xf0 : PySem.W.nsIn K mainGlobals "ShortError" = some (some (.ref xd_ShortError)))
    (xf1 : PySem.W.nsIn K mainGlobals "NoReach" = some (some (.ref xd_NoReach)))
    (xf2 : PySem.W.nsIn K mainGlobals "NoAsk" = some (some (.ref xd_NoAsk)))
    (xf3 : PySem.W.nsIn K mainGlobals "NoBits" = some (some (.ref xd_NoBits)))
    (xf4 : PySem.W.nsIn K mainGlobals "NoCode" = some (some (.ref xd_NoCode)))
    (xf5 : PySem.W.nsIn K mainGlobals "NoProgram" = some (some (.ref xd_NoProgram)))
    (xf6 : PySem.W.nsIn K mainGlobals "NoRow" = some (some (.ref xd_NoRow)))
    (xf7 : PySem.W.excIn K xd_ShortError [.type "ValueError", .type "Exception", .type "BaseException", .type "object"] "ValueError.__new__" = true)
    (xf8 : PySem.W.excIn K xd_NoReach [.type "ValueError", .type "Exception", .type "BaseException", .type "object"] "ValueError.__new__" = true)
    (xf9 : PySem.W.findIn K (.ref xd_NoReach) "__getattribute__" = some (some (.builtin "BaseException.__getattribute__")))
    (xf10 : PySem.W.findIn K (.ref xd_NoReach) "__getattr__" = some none)
    (xf11 : PySem.W.findIn K (.ref xd_NoReach) "__class__" = some (some (.builtin "object.__class__")))
    (xf12 : PySem.W.specialIn K (.builtin "object.__class__") "__get__" = some (some (.builtin "getset_descriptor.__get__")))
    (xf13 : PySem.W.takesIn K (.builtin "object.__class__") = some true)
    (xf14 : PySem.W.mroIn K xd_NoReach (.type "object") = some true)
    (xf15 : PySem.W.mroIn K xd_NoReach (.type "BaseException") = some true)
    (xf16 : PySem.W.mroIn K xd_NoReach (.ref xd_ShortError) = some true)
    (xf17 : PySem.W.kitOne K (.ref xd_NoReach) (.ref xd_NoReach) = some true)
    (xf18 : PySem.W.kitOne K (.ref xd_NoReach) (.type "ValueError") = some true)
    (xf19 : PySem.W.kitAny K (.ref xd_NoReach) [(.ref xd_NoAsk), (.ref xd_NoBits), (.ref xd_NoCode), (.ref xd_NoProgram), (.ref xd_NoRow)] = some false)
    : ∃ fd : FuncData, (∀ (s : Shared) (v : Value), BindsTo s fd ⟨[v], []⟩ [("script", v)]) ∧ ∀ base : Heap, K.In base → base.Ns mainGlobals mg → FnOk l.prog w K mg base CX0 30 fa fd ["script"] (spLaw K) := by
  have e := hfa.symm.trans (PySem.W.mg_of X G a22)
  cases e
  have T : Txt K mg := ⟨PySem.W.mg_none_of X G z0, PySem.W.mg_none_of X G z1, PySem.W.mg_none_of X G z2, PySem.W.mg_none_of X G z3, PySem.W.mg_none_of X G z4, PySem.W.mg_none_of X G z5, PySem.W.mg_none_of X G z6, PySem.W.mg_none_of X G z7, PySem.W.mg_none_of X G z8, PySem.W.mg_none_of X G z9, ⟨.ref q0, _, PySem.W.mg_of X G g0, rfl, fun H B => .ktp (vs := [.int 8, .int 128, .int 32768]) ⟨_, _, _, m0, rfl, rfl, (by show 3 ≤ sizeLine; decide), (.cons ⟨w0_0, rfl⟩ (.cons ⟨w0_1, rfl⟩ (.cons ⟨w0_2, rfl⟩ .nil)))⟩ (.cons (.int _) (.cons (.int _) (.cons (.int _) .nil)))⟩, ⟨.ref q1, _, PySem.W.mg_of X G g1, rfl, fun H B => .ktp (vs := [.str "0", .str "10", .str "11"]) ⟨_, _, _, m1, rfl, rfl, (by show 3 ≤ sizeLine; decide), (.cons ⟨w1_0, rfl⟩ (.cons ⟨w1_1, rfl⟩ (.cons ⟨w1_2, rfl⟩ .nil)))⟩ (.cons (.str _) (.cons (.str _) (.cons (.str _) .nil)))⟩, ⟨.int 2, _, PySem.W.mg_of X G g2, ⟨_, rfl⟩, fun H B => .int _⟩, ⟨.ref q3, _, PySem.W.mg_of X G g3, rfl, fun H B => .ktp (vs := [.int 4, .int 8, .int 16]) ⟨_, _, _, m3, rfl, rfl, (by show 3 ≤ sizeLine; decide), (.cons ⟨w3_0, rfl⟩ (.cons ⟨w3_1, rfl⟩ (.cons ⟨w3_2, rfl⟩ .nil)))⟩ (.cons (.int _) (.cons (.int _) (.cons (.int _) .nil)))⟩, ⟨_, PySem.W.mg_of X G xa0, ⟨xq0⟩⟩, ⟨_, _, _, _, _, _, _, PySem.W.mg_of X G xf0, PySem.W.mg_of X G xf1, PySem.W.mg_of X G xf2, PySem.W.mg_of X G xf3, PySem.W.mg_of X G xf4, PySem.W.mg_of X G xf5, PySem.W.mg_of X G xf6, ⟨xf7⟩, ⟨xf8⟩, ⟨xf9, xf10, xf11, xf12, xf13, xf14, xf15⟩, xf16, xf17, xf18, xf19⟩⟩
  have F0 : HasFn K mg "least_widths" s_least_widths ["sizes", "goals"] := ⟨f0, _, fun_mk (st := s_least_widths) l0 c0 k0, (fun_mk (st := s_least_widths) l0 c0 k0).binds (ps := ["sizes", "goals"]) (fun _ _ _ _ _ _ us hl => by obtain ⟨_, _, rfl⟩ := Y.len2 hl; rfl), PySem.W.mg_of X G a0⟩
  have F1 : HasFn K mg "widths_paper" s_widths_paper ["sizes", "goals"] := ⟨f1, _, fun_mk (st := s_widths_paper) l1 c1 k1, (fun_mk (st := s_widths_paper) l1 c1 k1).binds (ps := ["sizes", "goals"]) (fun _ _ _ _ _ _ us hl => by obtain ⟨_, _, rfl⟩ := Y.len2 hl; rfl), PySem.W.mg_of X G a1⟩
  have F2 : HasFn K mg "raised_till_good" s_raised_till_good ["sizes", "goals"] := ⟨f2, _, fun_mk (st := s_raised_till_good) l2 c2 k2, (fun_mk (st := s_raised_till_good) l2 c2 k2).binds (ps := ["sizes", "goals"]) (fun _ _ _ _ _ _ us hl => by obtain ⟨_, _, rfl⟩ := Y.len2 hl; rfl), PySem.W.mg_of X G a2⟩
  have F3 : HasFn K mg "narrowest" s_narrowest ["goals"] := ⟨f3, _, fun_mk (st := s_narrowest) l3 c3 k3, (fun_mk (st := s_narrowest) l3 c3 k3).binds (ps := ["goals"]) (fun _ _ _ _ _ _ us hl => by obtain ⟨_, rfl⟩ := Y.len1 hl; rfl), PySem.W.mg_of X G a3⟩
  have F4 : HasFn K mg "first_too_narrow" s_first_too_narrow ["sizes", "goals", "widths"] := ⟨f4, _, fun_mk (st := s_first_too_narrow) l4 c4 k4, (fun_mk (st := s_first_too_narrow) l4 c4 k4).binds (ps := ["sizes", "goals", "widths"]) (fun _ _ _ _ _ _ us hl => by obtain ⟨_, _, _, rfl⟩ := Y.len3 hl; rfl), PySem.W.mg_of X G a4⟩
  have F5 : HasFn K mg "fits" s_fits ["starts", "goals", "widths", "row"] := ⟨f5, _, fun_mk (st := s_fits) l5 c5 k5, (fun_mk (st := s_fits) l5 c5 k5).binds (ps := ["starts", "goals", "widths", "row"]) (fun _ _ _ _ _ _ us hl => by obtain ⟨_, _, _, _, rfl⟩ := Y.len4 hl; rfl), PySem.W.mg_of X G a5⟩
  have F6 : HasFn K mg "distance_of" s_distance_of ["starts", "goals", "row"] := ⟨f6, _, fun_mk (st := s_distance_of) l6 c6 k6, (fun_mk (st := s_distance_of) l6 c6 k6).binds (ps := ["starts", "goals", "row"]) (fun _ _ _ _ _ _ us hl => by obtain ⟨_, _, _, rfl⟩ := Y.len3 hl; rfl), PySem.W.mg_of X G a6⟩
  have F7 : HasFn K mg "row_starts" s_row_starts ["sizes", "widths"] := ⟨f7, _, fun_mk (st := s_row_starts) l7 c7 k7, (fun_mk (st := s_row_starts) l7 c7 k7).binds (ps := ["sizes", "widths"]) (fun _ _ _ _ _ _ us hl => by obtain ⟨_, _, rfl⟩ := Y.len2 hl; rfl), PySem.W.mg_of X G a7⟩
  have F8 : HasFn K mg "own_part" s_own_part ["width"] := ⟨f8, _, fun_mk (st := s_own_part) l8 c8 k8, (fun_mk (st := s_own_part) l8 c8 k8).binds (ps := ["width"]) (fun _ _ _ _ _ _ us hl => by obtain ⟨_, rfl⟩ := Y.len1 hl; rfl), PySem.W.mg_of X G a8⟩
  have F9 : HasFn K mg "_law_folded" s__law_folded ["script"] := ⟨f9, _, fun_mk (st := s__law_folded) l9 c9 k9, (fun_mk (st := s__law_folded) l9 c9 k9).binds (ps := ["script"]) (fun _ _ _ _ _ _ us hl => by obtain ⟨_, rfl⟩ := Y.len1 hl; rfl), PySem.W.mg_of X G a9⟩
  have F10 : HasFn K mg "_law_seed" s__law_seed ["cell"] := ⟨f10, _, fun_mk (st := s__law_seed) l10 c10 k10, (fun_mk (st := s__law_seed) l10 c10 k10).binds (ps := ["cell"]) (fun _ _ _ _ _ _ us hl => by obtain ⟨_, rfl⟩ := Y.len1 hl; rfl), PySem.W.mg_of X G a10⟩
  have F11 : HasFn K mg "_law_draw" s__law_draw ["seed", "most"] := ⟨f11, _, fun_mk (st := s__law_draw) l11 c11 k11, (fun_mk (st := s__law_draw) l11 c11 k11).binds (ps := ["seed", "most"]) (fun _ _ _ _ _ _ us hl => by obtain ⟨_, _, rfl⟩ := Y.len2 hl; rfl), PySem.W.mg_of X G a11⟩
  have F12 : HasFn K mg "_law_places" s__law_places ["sizes", "widths"] := ⟨f12, _, fun_mk (st := s__law_places) l12 c12 k12, (fun_mk (st := s__law_places) l12 c12 k12).binds (ps := ["sizes", "widths"]) (fun _ _ _ _ _ _ us hl => by obtain ⟨_, _, rfl⟩ := Y.len2 hl; rfl), PySem.W.mg_of X G a12⟩
  have F13 : HasFn K mg "_law_fits" s__law_fits ["far", "width"] := ⟨f13, _, fun_mk (st := s__law_fits) l13 c13 k13, (fun_mk (st := s__law_fits) l13 c13 k13).binds (ps := ["far", "width"]) (fun _ _ _ _ _ _ us hl => by obtain ⟨_, _, rfl⟩ := Y.len2 hl; rfl), PySem.W.mg_of X G a13⟩
  have F14 : HasFn K mg "_law_far" s__law_far ["sizes", "goals", "widths", "row"] := ⟨f14, _, fun_mk (st := s__law_far) l14 c14 k14, (fun_mk (st := s__law_far) l14 c14 k14).binds (ps := ["sizes", "goals", "widths", "row"]) (fun _ _ _ _ _ _ us hl => by obtain ⟨_, _, _, _, rfl⟩ := Y.len4 hl; rfl), PySem.W.mg_of X G a14⟩
  have F15 : HasFn K mg "_law_size" s__law_size ["seed", "scale"] := ⟨f15, _, fun_mk (st := s__law_size) l15 c15 k15, (fun_mk (st := s__law_size) l15 c15 k15).binds (ps := ["seed", "scale"]) (fun _ _ _ _ _ _ us hl => by obtain ⟨_, _, rfl⟩ := Y.len2 hl; rfl), PySem.W.mg_of X G a15⟩
  have F16 : HasFn K mg "_law_edged" s__law_edged ["seed", "sizes", "goals", "widths"] := ⟨f16, _, fun_mk (st := s__law_edged) l16 c16 k16, (fun_mk (st := s__law_edged) l16 c16 k16).binds (ps := ["seed", "sizes", "goals", "widths"]) (fun _ _ _ _ _ _ us hl => by obtain ⟨_, _, _, _, rfl⟩ := Y.len4 hl; rfl), PySem.W.mg_of X G a16⟩
  have F17 : HasFn K mg "_law_question" s__law_question ["seed", "most"] := ⟨f17, _, fun_mk (st := s__law_question) l17 c17 k17, (fun_mk (st := s__law_question) l17 c17 k17).binds (ps := ["seed", "most"]) (fun _ _ _ _ _ _ us hl => by obtain ⟨_, _, rfl⟩ := Y.len2 hl; rfl), PySem.W.mg_of X G a17⟩
  have F18 : HasFn K mg "_law_widths" s__law_widths ["seed", "goals", "most"] := ⟨f18, _, fun_mk (st := s__law_widths) l18 c18 k18, (fun_mk (st := s__law_widths) l18 c18 k18).binds (ps := ["seed", "goals", "most"]) (fun _ _ _ _ _ _ us hl => by obtain ⟨_, _, _, rfl⟩ := Y.len3 hl; rfl), PySem.W.mg_of X G a18⟩
  have F19 : HasFn K mg "_law_asked" s__law_asked ["sizes", "goals", "way"] := ⟨f19, _, fun_mk (st := s__law_asked) l19 c19 k19, (fun_mk (st := s__law_asked) l19 c19 k19).binds (ps := ["sizes", "goals", "way"]) (fun _ _ _ _ _ _ us hl => by obtain ⟨_, _, _, rfl⟩ := Y.len3 hl; rfl), PySem.W.mg_of X G a19⟩
  have F20 : HasFn K mg "_law_strained" s__law_strained ["sizes", "goals", "widths"] := ⟨f20, _, fun_mk (st := s__law_strained) l20 c20 k20, (fun_mk (st := s__law_strained) l20 c20 k20).binds (ps := ["sizes", "goals", "widths"]) (fun _ _ _ _ _ _ us hl => by obtain ⟨_, _, _, rfl⟩ := Y.len3 hl; rfl), PySem.W.mg_of X G a20⟩
  have F21 : HasFn K mg "_law_raised" s__law_raised ["sizes", "goals"] := ⟨f21, _, fun_mk (st := s__law_raised) l21 c21 k21, (fun_mk (st := s__law_raised) l21 c21 k21).binds (ps := ["sizes", "goals"]) (fun _ _ _ _ _ _ us hl => by obtain ⟨_, _, rfl⟩ := Y.len2 hl; rfl), PySem.W.mg_of X G a21⟩
  exact ⟨PySem.W.fnOf "law" "law" (defArgs s_law) (defBody s_law) (defScope s_law) .none kV22 dc22 pm22 an22 cd22 ct22, fun s v => .of_eq rfl, fun base _ _ => (all_ok T F0 F1 F2 F3 F4 F5 F6 F7 F8 F9 F10 F11 F12 F13 F14 F15 F16 F17 F18 F19 F20 F21 (fun_mk (st := s_law) l22 c22 k22)).mono (by decide)⟩
theorem walk {l : PySem.W.OpenLaw} {q : Program} {loose : List Str} {XP : (Str → Option Value) → Heap → Prop} {YP : World → Heap → Prop} {d : DefRec} {K : Params → PySem.W.Frag} (hn : l.most = some 63) (hdf : d.params.defaults = [])
    (hY : ∀ (w : World) (h : Heap), YP w h → (K w.params).In h)
    (F : ∀ (w : World) (mg : Str → Option Value) (fa : Addr) (h : Heap), (K w.params).In h → h.Ns mainGlobals mg → mg d.name = some (.ref fa) → ∃ fd : FuncData, (∀ (s : Shared) (u : Value), BindsTo s fd ⟨[u], []⟩ [("script", u)]) ∧ ∀ base : Heap, (K w.params).In base → base.Ns mainGlobals mg → FnOk l.prog w (K w.params) mg base CX0 30 fa fd ["script"] (spLaw (K w.params))) :
    PySem.W.WalkO q loose XP YP l.row.toRowW d [] (fun f vs => PySem.call f vs) :=
  L2.walk_of (n := 63) (k := 30) (x := "script") (CX := fun _ => CX0) (sp := fun w => spLaw (K w.params)) hn (by decide) hdf ⟨rfl, by decide, by decide⟩ hY F (fun _ _ a ns hl _ hS => ⟨a, ns, rfl, hS, hl, fun _ => rfl⟩) fun _ _ _ _ _ z => z
end
end G
open PySem PySem.W PyProof.Rows
set_option maxRecDepth 100000 in
set_option maxHeartbeats 0 in
theorem PySem.Challenge.cw_shortrows_k24_reach_or_not_holds : PySem.Challenge.rw_shortrows_k24_reach_or_not.Holds := by
  w_on; o_law; k_head; (case hw => w_witness2)
  k_fill
  refine G.walk (l := PySem.Challenge.rw_shortrows_k24_reach_or_not) rfl rfl (fun w h Y => PySem.W.kIn_of Y) ?F
  case F =>
    intro w mg fa h KX GN hmg
    refine' G.all_mk KX GN hmg ?a0 ?l0 ?c0 ?k0 ?a1 ?l1 ?c1 ?k1 ?a2 ?l2 ?c2 ?k2 ?a3 ?l3 ?c3 ?k3 ?a4 ?l4 ?c4 ?k4 ?a5 ?l5 ?c5 ?k5 ?a6 ?l6 ?c6 ?k6 ?a7 ?l7 ?c7 ?k7 ?a8 ?l8 ?c8 ?k8 ?a9 ?l9 ?c9 ?k9 ?a10 ?l10 ?c10 ?k10 ?a11 ?l11 ?c11 ?k11 ?a12 ?l12 ?c12 ?k12 ?a13 ?l13 ?c13 ?k13 ?a14 ?l14 ?c14 ?k14 ?a15 ?l15 ?c15 ?k15 ?a16 ?l16 ?c16 ?k16 ?a17 ?l17 ?c17 ?k17 ?a18 ?l18 ?c18 ?k18 ?a19 ?l19 ?c19 ?k19 ?a20 ?l20 ?c20 ?k20 ?a21 ?l21 ?c21 ?k21 ?a22 ?l22 ?c22 ?k22 ?z0 ?z1 ?z2 ?z3 ?z4 ?z5 ?z6 ?z7 ?z8 ?z9 ?gq0 ?mq0 ?gq1 ?mq1 ?gq2 ?gq3 ?mq3 ?xa0 ?xq0 ?xf0 ?xf1 ?xf2 ?xf3 ?xf4 ?xf5 ?xf6 ?xf7 ?xf8 ?xf9 ?xf10 ?xf11 ?xf12 ?xf13 ?xf14 ?xf15 ?xf16 ?xf17 ?xf18 ?xf19
    (case a0 => k_is)
    (case l0 => k_is)
    (case c0 => k_is)
    (case k0 => k_is)
    (case a1 => k_is)
    (case l1 => k_is)
    (case c1 => k_is)
    (case k1 => k_is)
    (case a2 => k_is)
    (case l2 => k_is)
    (case c2 => k_is)
    (case k2 => k_is)
    (case a3 => k_is)
    (case l3 => k_is)
    (case c3 => k_is)
    (case k3 => k_is)
    (case a4 => k_is)
    (case l4 => k_is)
    (case c4 => k_is)
    (case k4 => k_is)
    (case a5 => k_is)
    (case l5 => k_is)
    (case c5 => k_is)
    (case k5 => k_is)
    (case a6 => k_is)
    (case l6 => k_is)
    (case c6 => k_is)
    (case k6 => k_is)
    (case a7 => k_is)
    (case l7 => k_is)
    (case c7 => k_is)
    (case k7 => k_is)
    (case a8 => k_is)
    (case l8 => k_is)
    (case c8 => k_is)
    (case k8 => k_is)
    (case a9 => k_is)
    (case l9 => k_is)
    (case c9 => k_is)
    (case k9 => k_is)
    (case a10 => k_is)
    (case l10 => k_is)
    (case c10 => k_is)
    (case k10 => k_is)
    (case a11 => k_is)
    (case l11 => k_is)
    (case c11 => k_is)
    (case k11 => k_is)
    (case a12 => k_is)
    (case l12 => k_is)
    (case c12 => k_is)
    (case k12 => k_is)
    (case a13 => k_is)
    (case l13 => k_is)
    (case c13 => k_is)
    (case k13 => k_is)
    (case a14 => k_is)
    (case l14 => k_is)
    (case c14 => k_is)
    (case k14 => k_is)
    (case a15 => k_is)
    (case l15 => k_is)
    (case c15 => k_is)
    (case k15 => k_is)
    (case a16 => k_is)
    (case l16 => k_is)
    (case c16 => k_is)
    (case k16 => k_is)
    (case a17 => k_is)
    (case l17 => k_is)
    (case c17 => k_is)
    (case k17 => k_is)
    (case a18 => k_is)
    (case l18 => k_is)
    (case c18 => k_is)
    (case k18 => k_is)
    (case a19 => k_is)
    (case l19 => k_is)
    (case c19 => k_is)
    (case k19 => k_is)
    (case a20 => k_is)
    (case l20 => k_is)
    (case c20 => k_is)
    (case k20 => k_is)
    (case a21 => k_is)
    (case l21 => k_is)
    (case c21 => k_is)
    (case k21 => k_is)
    (case a22 => k_is)
    (case l22 => k_is)
    (case c22 => k_is)
    (case k22 => k_is)
    (case z0 => k_is)
    (case z1 => k_is)
    (case z2 => k_is)
    (case z3 => k_is)
    (case z4 => k_is)
    (case z5 => k_is)
    (case z6 => k_is)
    (case z7 => k_is)
    (case z8 => k_is)
    (case z9 => k_is)
    (case gq0 => k_is)
    (case mq0 => k_is)
    (case gq1 => k_is)
    (case mq1 => k_is)
    (case gq2 => k_is)
    (case gq3 => k_is)
    (case mq3 => k_is)
    (case xa0 => k_is)
    (case xq0 => k_exc)
    (case xf0 => k_is)
    (case xf1 => k_is)
    (case xf2 => k_is)
    (case xf3 => k_is)
    (case xf4 => k_is)
    (case xf5 => k_is)
    (case xf6 => k_is)
    (case xf7 => k_exc)
    (case xf8 => k_exc)
    (case xf9 => k_is)
    (case xf10 => k_is)
    (case xf11 => k_is)
    (case xf12 => k_is)
    (case xf13 => k_is)
    (case xf14 => k_is)
    (case xf15 => k_is)
    (case xf16 => k_is)
    (case xf17 => kit_is)
    (case xf18 => kit_is)
    (case xf19 => kit_is)


