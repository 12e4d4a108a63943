import PyProof.Rows.All
import Wide.All
import OpenK.AllK
import Wide.FinOn
import Lean
import PyProof.EqAt
import PyProof.EqKinds
import PyProof.TupleCall
import PySem.Challenge.RW_shortrows_k06_planted_runs
set_option Elab.async false
set_option linter.all false
set_option maxRecDepth 100000
set_option maxHeartbeats 4000000
set_option Elab.async false
set_option linter.all false
set_option maxRecDepth 100000
set_option genSizeOfSpec false
namespace L2
theorem aRfl (h : True = True := by rfl) : True := trivial
theorem aDec (h : True := by decide) : True := trivial
theorem aLoc (h : True := by first | exact .inl rfl | exact .inr rfl | assumption) : True := trivial
end L2
namespace L2
open PySem PySem.Spec PyProof.Rows
noncomputable abbrev Key := Sum Int Str
noncomputable def keyIs : Key → Value → Bool
 | .inl k, v => Value.isInt k v
 | .inr x, v => Value.isStrOf x v
noncomputable def keyH (w : World) : Key → Int
 | .inl k => hashInt k
 | .inr x => hashStr w x
theorem keyIs_shape : ∀ {k : Key} {v : Value}, keyIs k v = true → (∃ i t, k = Sum.inl i ∧ v = Value.int i t) ∨ (∃ x t, k = Sum.inr x ∧ v = Value.str x t)
 | .inl i, v, h => by
  obtain ⟨t, e⟩ := Value.isInt_shape (k := i) (v := v) h
  exact .inl ⟨i, t, rfl, e⟩
 | .inr x, v, h => by
  obtain ⟨t, e⟩ := Value.isStrOf_shape (x := x) (v := v) h
  exact .inr ⟨x, t, rfl, e⟩
theorem keyIs_int (i : Int) (t : Tok) : keyIs (.inl i) (.int i t) = true := by simp [keyIs, Value.isInt]
theorem keyIs_str (x : Str) (t : Tok) : keyIs (.inr x) (.str x t) = true := by simp [keyIs, Value.isStrOf]
theorem key_ll (a b : Int) : decide ((Sum.inl a : Key) = Sum.inl b) = (a == b) := by
 by_cases e : a = b
 ·subst e; simp
 ·have h : ¬ (Sum.inl a : Key) = Sum.inl b := fun q => e (Sum.inl.inj q)
  rw [decide_eq_false h]
  exact (beq_eq_false_iff_ne.mpr e).symm
theorem key_rr (a b : Str) : decide ((Sum.inr a : Key) = Sum.inr b) = decide (a = b) := by
 by_cases e : a = b
 ·subst e; simp
 ·have h : ¬ (Sum.inr a : Key) = Sum.inr b := fun q => e (Sum.inr.inj q)
  rw [decide_eq_false h, decide_eq_false e]
theorem key_lr (a : Int) (b : Str) : decide ((Sum.inl a : Key) = Sum.inr b) = false := decide_eq_false (fun q => nomatch q)
theorem key_rl (a : Str) (b : Int) : decide ((Sum.inr a : Key) = Sum.inl b) = false := decide_eq_false (fun q => nomatch q)
noncomputable def mixKind (prog : Program) (w : World) : PySem.KeyKind prog w Key where
 is := keyIs
 hash := keyH w
 inj := fun v a b ha hb => by
  rcases keyIs_shape ha with ⟨i, t, rfl, rfl⟩ | ⟨x, t, rfl, rfl⟩
  ·rcases keyIs_shape hb with ⟨j, u, rfl, e⟩ | ⟨y, u, rfl, e⟩
   ·injection e with e1 _; rw [e1]
   ·exact nomatch e
  ·rcases keyIs_shape hb with ⟨j, u, rfl, e⟩ | ⟨y, u, rfl, e⟩
   ·exact nomatch e
   ·injection e with e1 _; rw [e1]
 byValue := fun k v h => by
  rcases keyIs_shape h with ⟨i, t, rfl, rfl⟩ | ⟨x, t, rfl, rfl⟩ <;> rfl
 pyHash := fun hv h => by
  rcases keyIs_shape hv with ⟨i, t, rfl, rfl⟩ | ⟨x, t, rfl, rfl⟩
  ·exact wpAny_pyHash_int h
  ·exact wpAny_pyHash_str h
 eqBool := fun hu hv h => by
  rcases keyIs_shape hu with ⟨i, t, rfl, rfl⟩ | ⟨x, t, rfl, rfl⟩
  ·rcases keyIs_shape hv with ⟨j, u, rfl, rfl⟩ | ⟨y, u, rfl, rfl⟩
   ·rw [key_ll] at h; exact wpAny_eqBool_int h
   ·rw [key_lr] at h; exact SeqAt.EqAt.int_str i t y u _ _ _ _ h
  ·rcases keyIs_shape hv with ⟨j, u, rfl, rfl⟩ | ⟨y, u, rfl, rfl⟩
   ·rw [key_rl] at h; exact SeqAt.EqAt.str_int x t j u _ _ _ _ h
   ·rw [key_rr] at h; exact wpAny_eqBool_str h
 «strs» := fun k x t v h => by
  rcases keyIs_shape h with ⟨i, u, rfl, e⟩ | ⟨y, u, rfl, e⟩
  ·exact nomatch e
  ·injection e with e1 _
   subst e1
   cases v <;> rfl
theorem mixKind_int (prog : Program) (w : World) (i : Int) (t : Tok) : (mixKind prog w).is (.inl i) (.int i t) = true := keyIs_int i t
theorem mixKind_str (prog : Program) (w : World) (x : Str) (t : Tok) : (mixKind prog w).is (.inr x) (.str x t) = true := keyIs_str x t
end L2
namespace L2
open PySem PySem.Spec PyProof.Rows
inductive V where
 | non | bl (b : Bool) | int (i : Int) | str (x : Str) | byt (b : Array UInt8) | flt (b : UInt64) | ref (a : Addr) | ty (n : String)
 deriving DecidableEq
noncomputable def RelV : V → Value → Prop
 | .non, u => u = Value.none
 | .bl b, u => u = Value.bool b
 | .int i, u => ∃ t, u = Value.int i t
 | .str x, u => ∃ t, u = Value.str x t
 | .byt b, u => ∃ t, u = Value.bytes b t
 | .flt b, u => ∃ t, u = Value.float b t
 | .ref a, u => u = Value.ref a
 | .ty n, u => u = Value.type n
noncomputable abbrev Vals : List V → List Value → Prop := Paired RelV
theorem Vals.length {xs : List V} {us : List Value} (r : Vals xs us) : xs.length = us.length := Paired.length r
theorem Vals.get : ∀ {xs : List V} {us : List Value} {i : Nat} {x : V}, Vals xs us → xs[i]? = some x → ∃ u, us[i]? = some u ∧ RelV x u
 | _, _, _, _, .nil, e => by simp at e
 | _, _, 0, _, .cons r _, e => by simp at e; subst e; exact ⟨_, rfl, r⟩
 | _, _, i + 1, x, .cons _ t, e => by
  obtain ⟨u, h1, h2⟩ := Vals.get (i := i) (x := x) t (by simpa using e)
  exact ⟨u, by simpa using h1, h2⟩
theorem Vals.set {x : V} {u : Value} (r : RelV x u) : ∀ {xs : List V} {us : List Value} (i : Nat), Vals xs us → Vals (xs.set i x) (us.set i u)
 | _, _, _, .nil => .nil
 | _, _, 0, .cons _ t => .cons r t
 | _, _, i + 1, .cons q t => .cons q (Vals.set r i t)
theorem Vals.append : ∀ {xs ys : List V} {us ws : List Value}, Vals xs us → Vals ys ws → Vals (xs ++ ys) (us ++ ws)
 | _, _, _, _, .nil, s => s
 | _, _, _, _, .cons r t, s => .cons r (Vals.append t s)
theorem Vals.take : ∀ {xs : List V} {us : List Value} (n : Nat), Vals xs us → Vals (xs.take n) (us.take n)
 | _, _, 0, _ => .nil
 | _, _, _ + 1, .nil => .nil
 | _, _, n + 1, .cons r t => .cons r (Vals.take n t)
theorem Vals.drop : ∀ {xs : List V} {us : List Value} (n : Nat), Vals xs us → Vals (xs.drop n) (us.drop n)
 | _, _, 0, r => r
 | _, _, _ + 1, .nil => .nil
 | _, _, n + 1, .cons _ t => Vals.drop n t
noncomputable def RelO : Option V → Option Value → Prop
 | some v, some u => RelV v u
 | none, none => True
 | _, _ => False
noncomputable def KV {κ : Type} : List (κ × V) → List (κ × Value) → Prop := Paired fun (p : κ × V) (q : κ × Value) => p.1 = q.1 ∧ RelV p.2 q.2
noncomputable def kV : Key → V
 | .inl i => .int i
 | .inr x => .str x
inductive HO where
 | lst (xs : List V)
 | tup (xs : List V)
 | dK (kvs : List (Key × V)) | dT (kvs : List (List Key × V))
 | set (S : Int → Bool) (n : Nat)
 | ins (C dx : Addr) (fs : List (Str × V))
 | own (x : Addr)
 | xd (fs : List (Str × V))
 | met (f x : Addr)
 | rng (lo hi : Int)
 | frz (o : Obj) (u : HO)
 | tbl (ps : Array Value)
 | ext (φ : Heap → Prop)
noncomputable abbrev Hp := Addr → Option HO
noncomputable def upd (H : Hp) (a : Addr) (o : HO) : Hp := fun b => if b = a then some o else H b
theorem upd_same {H : Hp} {a : Addr} {o : HO} : upd H a o a = some o := by unfold upd; rw [if_pos rfl]
theorem upd_ne {H : Hp} {a b : Addr} {o : HO} (h : b ≠ a) : upd H a o b = H b := by unfold upd; rw [if_neg h]
theorem upd_upd {H : Hp} {a : Addr} {o u : HO} : upd (upd H a o) a u = upd H a u := by
 funext b; unfold upd; split <;> rfl
theorem ne_of {H : Hp} {a b : Addr} {o u : HO} (h : H a = some o) (h' : H b = some u) (d : o ≠ u) : a ≠ b := by
 intro e; subst e; rw [h] at h'; exact d (Option.some.inj h')
theorem ne_of_none {H : Hp} {a b : Addr} {o : HO} (h : H a = some o) (h' : H b = none) : a ≠ b := by
 intro e; subst e; rw [h] at h'; cases h'
noncomputable def IsTupD (h : Heap) (a : Addr) (items : Array Value) : Prop := ∃ o : Obj, h.get? a = some o ∧ o.cls = .type "tuple" ∧ ∃ n, o.data = .seq items n ∧ o.dict = none
theorem IsTupD.to {h : Heap} {a : Addr} {items : Array Value} (x : IsTupD h a items) : IsTup h a items := let ⟨o, e, c, n, d, _⟩ := x; ⟨o, e, c, n, d⟩
theorem IsTupD.new (h : Heap) (items : Array Value) : IsTupD (h.push { cls := .type "tuple", data := .seq items }) h.objs.size items := ⟨_, Heap.get?_push_size h rfl, rfl, _, rfl, rfl⟩
theorem IsTupD.lt {h : Heap} {a : Addr} {items : Array Value} (x : IsTupD h a items) : a < h.objs.size := x.to.lt
section
variable (P : Program) (w : World)
noncomputable def ObjOk (H : Hp) (h : Heap) (a : Addr) : HO → Prop
 | .lst xs => xs.length ≤ sizeLine ∧ ∃ (its : List Value) (n : Nat), Vals xs its ∧ h.get? a = some { cls := .type "list", data := .seq its.toArray n }
 | .tup xs => xs.length ≤ sizeLine ∧ ∃ its : List Value, Vals xs its ∧ IsTupD h a its.toArray
 | .dK kvs => kvs.length ≤ sizeLine ∧ (a == sysModules) = false ∧ ∃ vs, KV kvs vs ∧ h.DictOf (mixKind P w) a vs
 | .dT kvs => kvs.length ≤ sizeLine ∧ (a == sysModules) = false ∧ ∃ xs : List (List Key × Addr × Value),
   Paired (fun (p : List Key × V) (q : List Key × Addr × Value) => p.1 = q.1 ∧ H q.2.1 = some (.tup (p.1.map kV)) ∧ RelV p.2 q.2.2) kvs xs ∧
   ∃ o es ep, h.get? a = some o ∧ o.ExactDict ∧ o.data = .dict es ep ∧ es.toList = xs.map (entryOfKey (tupleKind (mixKind P w))) ∧ (xs.map (·.1)).Nodup
 | .set S n => h.SetOf (intKind P w) a S n
 | .ins C dx fs => H dx = some (.own a) ∧ fs.length ≤ 1000 ∧ dx ≠ a ∧ h.get? a = some (PySem.W.instObj C dx) ∧
   ∃ mA, h.Ns1 dx mA ∧ (∀ f, RelO (fs.lookup f) (mA f)) ∧ PySem.Within mA (fs.map (·.1))
 | .own _ => ∃ o, h.get? a = some o
 | .xd fs => ∃ mA, h.Ns1 a mA ∧ ∀ f, RelO (fs.lookup f) (mA f)
 | .rng lo hi => ∃ t u v, h.get? a = some { cls := .type "range", data := .fields #[.int lo t, .int hi u, .int 1 v] }
 | .frz o u => h.get? a = some o ∧ ObjOk H h a u
 | .tbl ps => h.get? a = some { cls := .none, data := .fields ps }
 | .met f x => h.get? a = some (PySem.W.methodObj (.ref f) (.ref x))
 | .ext φ => φ h ∧ (∃ o, h.get? a = some o) ∧ ∀ h1 h2 : Heap, φ h1 → (∀ o, h1.get? a = some o → h2.get? a = some o) → φ h2
noncomputable def HOk (H : Hp) (h : Heap) : Prop := ∀ a o, H a = some o → ObjOk P w H h a o
end
section
variable {P : Program} {w : World} {H H' : Hp} {h h' : Heap} {a : Addr} {o : HO}
theorem ObjOk.lt (x : ObjOk P w H h a o) : a < h.objs.size := by
 cases o with
 | lst xs => obtain ⟨_, _, _, _, e⟩ := x; exact Heap.lt_size e
 | tup xs => obtain ⟨_, _, _, p⟩ := x; exact p.lt
 | dK kvs => obtain ⟨_, _, _, _, o, _, _, e, _⟩ := x; exact Heap.lt_size e
 | dT kvs => obtain ⟨_, _, _, _, o, _, _, e, _⟩ := x; exact Heap.lt_size e
 | set S n => obtain ⟨o, _, _, _, e, _⟩ := x; exact Heap.lt_size e
 | ins C dx fs => obtain ⟨_, _, _, e, _⟩ := x; exact Heap.lt_size e
 | own y => obtain ⟨_, e⟩ := x; exact Heap.lt_size e
 | xd fs => obtain ⟨_, ⟨_, _, _, e, _⟩, _⟩ := x; exact Heap.lt_size e
 | rng lo hi => obtain ⟨_, _, _, e⟩ := x; exact Heap.lt_size e
 | frz ob u => obtain ⟨e, _⟩ := x; exact Heap.lt_size e
 | tbl ps => exact Heap.lt_size (show h.get? a = some _ from x)
 | met f y => exact Heap.lt_size (show h.get? a = some _ from x)
 | ext φ => obtain ⟨_, ⟨_, e⟩, _⟩ := x; exact Heap.lt_size e
theorem Paired.mapP {α β : Type} {F G : α → β → Prop} : ∀ {l₁ : List α} {l₂ : List β}, Paired F l₁ l₂ → (∀ a b, F a b → G a b) → Paired G l₁ l₂
 | _, _, .nil, _ => .nil
 | _, _, .cons r t, f => .cons (f _ _ r) (Paired.mapP t f)
theorem ObjOk.stay (x : ObjOk P w H h a o) (k : ∀ b u, (b = a ∨ H b = some (.own a)) → h.get? b = some u → h'.get? b = some u)
  (ho : ∀ b, H b = some (.own a) → H' b = some (.own a)) (ht : ∀ b xs, H b = some (.tup xs) → H' b = some (.tup xs)) : ObjOk P w H' h' a o := by
 induction o with
 | lst xs => obtain ⟨z, its, n, r, e⟩ := x; exact ⟨z, its, n, r, k _ _ (.inl rfl) e⟩
 | tup xs => obtain ⟨z, its, r, ob, e, c⟩ := x; exact ⟨z, its, r, ob, k _ _ (.inl rfl) e, c⟩
 | dK kvs => obtain ⟨z, y, vs, r, ob, es, ep, e, c⟩ := x; exact ⟨z, y, vs, r, ob, es, ep, k _ _ (.inl rfl) e, c⟩
 | dT kvs =>
  obtain ⟨z, y, xs, r, ob, es, ep, e, c⟩ := x
  exact ⟨z, y, xs, Paired.mapP r fun p q z => ⟨z.1, ht _ _ z.2.1, z.2.2⟩, ob, es, ep, k _ _ (.inl rfl) e, c⟩
 | set S n => obtain ⟨ob, es, ep, t, e, c⟩ := x; exact ⟨ob, es, ep, t, k _ _ (.inl rfl) e, c⟩
 | ins C dx fs =>
  obtain ⟨d, z, ne, e, mA, ⟨od, es, ep, e2, c⟩, r⟩ := x
  exact ⟨ho _ d, z, ne, k _ _ (.inl rfl) e, mA, ⟨od, es, ep, k _ _ (.inr d) e2, c⟩, r⟩
 | own y => obtain ⟨ob, e⟩ := x; exact ⟨ob, k _ _ (.inl rfl) e⟩
 | xd fs => obtain ⟨mA, ⟨od, es, ep, e, c⟩, r⟩ := x; exact ⟨mA, ⟨od, es, ep, k _ _ (.inl rfl) e, c⟩, r⟩
 | rng lo hi => obtain ⟨t, u, v, e⟩ := x; exact ⟨t, u, v, k _ _ (.inl rfl) e⟩
 | frz ob u ih => obtain ⟨e, q⟩ := x; exact ⟨k _ _ (.inl rfl) e, ih q⟩
 | tbl ps =>
  have e : h.get? a = some { cls := .none, data := .fields ps } := x
  show h'.get? a = some { cls := .none, data := .fields ps }
  exact k a _ (.inl rfl) e
 | met f y =>
  have e : h.get? a = some (PySem.W.methodObj (.ref f) (.ref y)) := x
  show h'.get? a = some (PySem.W.methodObj (.ref f) (.ref y))
  exact k a _ (.inl rfl) e
 | ext φ => obtain ⟨p, ⟨o, e⟩, st⟩ := x; exact ⟨st _ _ p fun o q => k _ _ (.inl rfl) q, ⟨o, k _ _ (.inl rfl) e⟩, st⟩
theorem HOk.lt (x : HOk P w H h) (e : H a = some o) : a < h.objs.size := (x a o e).lt
theorem HOk.fresh (x : HOk P w H h) (e : h.objs.size ≤ a) : H a = none := by
 cases q : H a with
 | none => rfl
 | some u => exact absurd (Nat.lt_of_lt_of_le (x.lt q) e) (Nat.lt_irrefl _)
theorem HOk.kept (x : HOk P w H h) (k : ∀ b u, h.get? b = some u → h'.get? b = some u) : HOk P w H h' := fun a o e =>
 (x a o e).stay (fun b u _ q => k b u q) (fun _ q => q) fun _ _ q => q
theorem HOk.laid (x : HOk P w H h) (k : ∀ b u, h.get? b = some u → h'.get? b = some u) (hp : h.objs.size ≤ a) (new : ObjOk P w (upd H a o) h' a o) : HOk P w (upd H a o) h' := fun b u e => by
 have hn := x.fresh hp
 by_cases hb : b = a
 ·subst hb; rw [upd_same] at e; cases e; exact new
 ·rw [upd_ne hb] at e
  exact (x b u e).stay (fun c v _ q => k c v q) (fun c q => by rw [upd_ne (ne_of_none q hn)]; exact q) fun c xs q => by rw [upd_ne (ne_of_none q hn)]; exact q
end
noncomputable def Rd (H : Hp) (a : Addr) (u : HO) : Prop := H a = some u ∨ ∃ o, H a = some (.frz o u)
theorem Rd.ok {P : Program} {w : World} {H : Hp} {h : Heap} {a : Addr} {u : HO} (r : Rd H a u) (x : HOk P w H h) : ObjOk P w H h a u := by
 rcases r with r | ⟨o, r⟩
 ·exact x a u r
 ·obtain ⟨_, q⟩ := x a _ r
  exact q
noncomputable def Mut : Option HO → Prop
 | some (.lst _) => True
 | some (.dK _) => True
 | some (.dT _) => True
 | some (.set _ _) => True
 | some (.ins _ _ _) => True
 | some (.ext _) => True
 | _ => False
section
variable {P : Program} {w : World} {H : Hp} {h h' : Heap} {x e : Addr} {o' : HO}
theorem HOk.write (ok : HOk P w H h) (mu : Mut (H x)) (he : e = x ∨ H e = some (.own x)) (k : ∀ b u, b ≠ e → h.get? b = some u → h'.get? b = some u) (heo : ∃ u, h'.get? e = some u)
  (new : ObjOk P w (upd H x o') h' x o') : HOk P w (upd H x o') h' := fun b u q => by
 have nown : ∀ c y, H c = some (.own y) → c ≠ x := fun c y r z => by subst z; rw [r] at mu; exact mu
 have ntup : ∀ c xs, H c = some (.tup xs) → c ≠ x := fun c xs r z => by subst z; rw [r] at mu; exact mu
 by_cases hb : b = x
 ·subst hb; rw [upd_same] at q; cases q; exact new
 ·rw [upd_ne hb] at q
  by_cases hbe : b = e
  ·have q' : H b = some (.own x) := by
    rcases he with z | z
    ·exact absurd (hbe.trans z) hb
    ·rw [hbe]; exact z
   rw [q] at q'; cases q'
   obtain ⟨v, hv⟩ := heo
   exact ⟨v, by rw [hbe]; exact hv⟩
  ·refine (ok b u q).stay (fun c v hc r => k c v ?_ r) (fun c r => by rw [upd_ne (nown c b r)]; exact r) fun c xs r => by rw [upd_ne (ntup c xs r)]; exact r
   rcases hc with rfl | hc
   ·exact hbe
   ·rintro rfl
    rcases he with z | z
    ·exact nown c b hc z
    ·rw [hc] at z; cases z; exact hb rfl
end
structure Un (fs ex : List Addr) (H H' : Hp) (h h' : Heap) : Prop where
 keep : ∀ b o, h.get? b = some o → H b = none → b ∉ fs → b ∉ ex → h'.get? b = some o
 slot : ∀ b o, h.get? b = some o → H b = none → b ∈ fs → b ∉ ex → ∃ sl, h'.get? b = some { o with slots := sl }
 free : ∀ b o, h.get? b = some o → H b = none → b ∉ ex → H' b = none
 there : ∀ b o, h.get? b = some o → b ∉ ex → ∃ o', h'.get? b = some o'
 tups : ∀ b xs, H b = some (.tup xs) → H' b = some (.tup xs)
 frzs : ∀ b o u, H b = some (.frz o u) → H' b = some (.frz o u)
 tbls : ∀ b ps, H b = some (.tbl ps) → ∃ more, H' b = some (.tbl (ps ++ more))
section
variable {fs fs' ex ex' : List Addr} {H H1 H2 : Hp} {h h1 h2 h' : Heap} {a x e : Addr} {o : HO}
theorem Un.any (u : Un fs ex H H1 h h1) {b : Addr} {ob : Obj} (q : h.get? b = some ob) (n : H b = none) (hx : b ∉ ex) : ∃ sl, h1.get? b = some { ob with slots := sl } := by
 by_cases hb : b ∈ fs
 ·exact u.slot b ob q n hb hx
 ·exact ⟨ob.slots, u.keep b ob q n hb hx⟩
theorem Un.kept (k : ∀ b u, h.get? b = some u → h'.get? b = some u) : Un fs ex H H h h' :=
 ⟨fun b ob q _ _ _ => k b ob q, fun b ob q _ _ _ => ⟨ob.slots, k b ob q⟩, fun _ _ _ n _ => n, fun b ob q _ => ⟨ob, k b ob q⟩, fun _ _ q => q, fun _ _ _ q => q, fun _ ps q => ⟨#[], by rw [q]; simp⟩⟩
theorem Un.refl : Un fs ex H H h h := Un.kept fun _ _ q => q
theorem Un.laid (k : ∀ b u, h.get? b = some u → h'.get? b = some u) (hp : h.objs.size ≤ a) (hn : H a = none) : Un fs ex H (upd H a o) h h' where
 keep := fun b u q _ _ _ => k b u q
 slot := fun b u q _ _ _ => ⟨u.slots, k b u q⟩
 free := fun b u q n _ => by rw [upd_ne (Nat.ne_of_lt (Nat.lt_of_lt_of_le (Heap.lt_size q) hp))]; exact n
 there := fun b u q _ => ⟨u, k b u q⟩
 tups := fun b xs q => by rw [upd_ne (ne_of_none q hn)]; exact q
 frzs := fun b u xs q => by rw [upd_ne (ne_of_none q hn)]; exact q
 tbls := fun b ps q => ⟨#[], by rw [upd_ne (ne_of_none q hn), q]; simp⟩
theorem Un.write (mu : Mut (H x)) (he : e = x ∨ H e = some (.own x)) (k : ∀ b u, b ≠ e → h.get? b = some u → h'.get? b = some u) (heo : ∃ u, h'.get? e = some u) : Un fs ex H (upd H x o) h h' := by
 have hx : ∀ b, H b = none → b ≠ x := fun b n z => by subst z; rw [n] at mu; exact mu
 have hb : ∀ b, H b = none → b ≠ e := fun b n z => by
  subst z
  rcases he with r | r
  ·exact hx b n r
  ·rw [n] at r; cases r
 have hm : ∀ b u, H b = some u → ¬ Mut (some u) → b ≠ x := fun b u q nm z => by subst z; rw [q] at mu; exact nm mu
 refine ⟨fun b u q n _ _ => k b u (hb b n) q, fun b u q n _ _ => ⟨u.slots, k b u (hb b n) q⟩, fun b u q n _ => by rw [upd_ne (hx b n)]; exact n, fun b u q _ => ?_,
  fun b xs q => by rw [upd_ne (hm b _ q fun z => z)]; exact q, fun b u xs q => by rw [upd_ne (hm b _ q fun z => z)]; exact q, fun b ps q => ⟨#[], by rw [upd_ne (hm b _ q fun z => z), q]; simp⟩⟩
 by_cases hbe : b = e
 ·subst hbe; exact heo
 ·exact ⟨u, k b u hbe q⟩
end
noncomputable def trk (h : Heap) (H : Hp) : List Addr := (List.range h.objs.size).filter fun a => (H a).isSome
noncomputable def hidT (h : Heap) (H : Hp) : Heap := PySem.W.hideAll h (trk h H)
theorem hidT_size (h : Heap) (H : Hp) : (hidT h H).objs.size = h.objs.size := PySem.W.hideAll_size _ _
theorem hidT_get {h : Heap} {H : Hp} {b : Addr} {o : Obj} (e : h.get? b = some o) (n : H b = none) : (hidT h H).get? b = some o :=
 PySem.W.hideAll_get _ e fun hm => by
  have q : (H b).isSome = true := (List.mem_filter.mp hm).2
  rw [n] at q; simp at q
theorem of_hidT {h : Heap} {H : Hp} {b : Addr} {o : Obj} (e : (hidT h H).get? b = some o) : h.get? b = some o ∧ H b = none := by
 have e' : h.get? b = some o := PySem.W.of_hideAll (trk h H) e
 refine ⟨e', ?_⟩
 cases q : H b with
 | none => rfl
 | some x =>
  have hm : b ∈ trk h H := List.mem_filter.mpr ⟨List.mem_range.mpr (Heap.lt_size e'), by simp [q]⟩
  have z : (hidT h H).get? b = none := PySem.W.hideAll_none (trk h H) hm
  rw [z] at e; cases e
noncomputable def allNews (g h : Heap) (L : Addr) : List (Addr × Obj) := (List.range h.objs.size).filterMap fun a => if a = L ∨ (g.get? a).isSome = true then none else (h.get? a).map fun o => (a, o)
noncomputable def rest (g h : Heap) (L d : Addr) : List (Addr × Obj) := (allNews g h L).filter fun p => decide (p.1 ≠ d)
end L2
namespace L2
open PySem PySem.Spec PyProof.Rows
structure Mod (K : PySem.W.Frag) (mg : Str → Option Value) (base : Heap) : Prop where
 kin : K.In base
 glob : base.Ns mainGlobals mg
 blt : ∃ mb, base.Ns builtinsNs mb ∧ ∀ x : Str, x ≠ "__name__" → mb x = bootBuiltins x
 nolimit : base.NoLimit
structure Cx where
 prog : Program
 w : World
 K : PySem.W.Frag
 mg : Str → Option Value
 base : Heap
 A : Around
 N : List Str
 s₀ : Shared
 H₀ : Hp
 env : Env
 outer : List Env
 stack : List Env
 ex : List Addr
 fn : Str → Bool
 calm : Bool
 pn : List (Addr × Obj)
 xe : Value → Shared → Prop
noncomputable def frs (l : List Env) : List Addr := l.filterMap (·.frame)
noncomputable abbrev Cx.fs (X : Cx) : List Addr := frs X.outer
noncomputable def Vis (sc : Scope) (x : Str) : Prop := sc.names.lookup x = some .local ∨ sc.names.lookup x = some .cell ∨ sc.names.lookup x = some .free
noncomputable def Loc (sc : Scope) (x : Str) : Prop := sc.names.lookup x = some .local ∨ sc.names.lookup x = some .cell
noncomputable def Look (env : Env) (h : Heap) (m : Str → Option Value) (x : Str) (u : Value) : Prop :=
 (env.kindOf x = some .local ∧ m x = some u) ∨ ((env.kindOf x = some .cell ∨ env.kindOf x = some .free) ∧ ∃ c, env.cells.lookup x = some c ∧ h.IsCell c (some u))
structure Cx.Ok (X : Cx) : Prop where
 mod : Mod X.K X.mg X.base
 kind : X.env.scope.kind = .function
 glob : X.env.globals = mainGlobals
 blt : X.env.builtins = builtinsNs
 above : X.s₀.heap.objs.size ≤ X.env.locals
 inj : ∀ x y c, X.env.cells.lookup x = some c → X.env.cells.lookup y = some c → x = y
 has : ∀ x, (X.env.kindOf x = some .cell ∨ X.env.kindOf x = some .free) → ∃ c, X.env.cells.lookup x = some c
 cab : ∀ x c, X.fn x = true → X.env.cells.lookup x = some c → X.s₀.heap.objs.size ≤ c
 hd : X.calm = true → X.A.handled = none
 frames : X.A.frames = some X.stack
 stk : X.stack = X.outer ∨ (X.stack = X.env :: X.outer ∧ X.env.frame = some X.env.locals)
 exf : ∀ b ∈ X.ex, b ≠ X.env.locals ∧ ∀ x c, X.env.cells.lookup x = some c → c ≠ b
 bs : ∀ b o, X.base.get? b = some o → X.s₀.heap.get? b = some o ∧ X.H₀ b = none
 bsz : X.base.objs.size ≤ X.s₀.heap.objs.size
 noex : ∀ b o, X.base.get? b = some o → b ∉ X.ex
 exfs : ∀ b ∈ X.ex, b ∉ X.fs
 funs : X.s₀.heap.FunFrames X.base X.outer
 frf : ∀ b ∈ X.fs, X.H₀ b = none
structure Inv (X : Cx) (pins : List (Addr × Obj)) (σ : List (Option V)) (H : Hp) (s : Shared) : Prop where
 ok : X.Ok
 os : s.os = X.s₀.os
 bare : AllBare s.gens
 base : Un X.fs X.ex X.H₀ H X.s₀.heap s.heap
 loc : ∃ m, s.heap.Ns X.env.locals m ∧ ∀ (i : Nat) (x : Str) (v : V), X.N[i]? = some x → σ[i]? = some (some v) → Vis X.env.scope x → ∃ u, RelV v u ∧ Look X.env s.heap m x u
 cell : ∀ x c, X.env.cells.lookup x = some c → ∃ v, s.heap.IsCell c v
 free : H X.env.locals = none
 freeC : ∀ x c, X.env.cells.lookup x = some c → H c = none
 pin : ∀ p ∈ X.pn ++ pins, s.heap.get? p.1 = some p.2 ∧ H p.1 = none ∧ p.1 ≠ X.env.locals ∧ p.1 ∉ X.fs ∧ ∀ v, p.2.data ≠ .cell v
 hok : HOk X.prog X.w H s.heap
 len : σ.length = X.N.length
section
variable {X : Cx} {pins : List (Addr × Obj)} {σ : List (Option V)} {H H' : Hp} {s : Shared} {h' : Heap}
theorem Cx.Ok.nofr (ok : X.Ok) {b : Addr} {o : Obj} (e : X.base.get? b = some o) : b ∉ X.fs := fun hb => by
 have := (ok.funs.mem hb).1
 rw [e] at this; cases this
theorem Inv.bs (I : Inv X pins σ H s) : ∀ b o, X.base.get? b = some o → s.heap.get? b = some o ∧ H b = none := fun b o e =>
 ⟨I.base.keep b o (I.ok.bs b o e).1 (I.ok.bs b o e).2 (I.ok.nofr e) (I.ok.noex b o e), I.base.free b o (I.ok.bs b o e).1 (I.ok.bs b o e).2 (I.ok.noex b o e)⟩
theorem Inv.bk (I : Inv X pins σ H s) : ∀ b o, X.base.get? b = some o → s.heap.get? b = some o := fun b o e => (I.bs b o e).1
theorem Inv.mod (I : Inv X pins σ H s) : Mod X.K X.mg X.base := I.ok.mod
theorem Inv.kIn (I : Inv X pins σ H s) : X.K.In s.heap := I.ok.mod.kin.keeps I.bk
theorem Inv.lt (I : Inv X pins σ H s) : X.env.locals < s.heap.objs.size := let ⟨_, hn, _⟩ := I.loc; hn.lt
theorem Inv.sz (I : Inv X pins σ H s) : X.s₀.heap.objs.size ≤ s.heap.objs.size := Nat.le_trans I.ok.above (Nat.le_of_lt I.lt)
theorem Inv.nofs (I : Inv X pins σ H s) {a : Addr} (h : s.heap.objs.size ≤ a) : a ∉ X.fs := fun hb => by
 obtain ⟨_, o, ho, _⟩ := I.ok.funs.mem hb
 exact absurd (Nat.lt_of_lt_of_le (Heap.lt_size ho) (Nat.le_trans I.sz h)) (Nat.lt_irrefl _)
theorem Inv.cne (I : Inv X pins σ H s) : ∀ x c, X.env.cells.lookup x = some c → c ≠ X.env.locals := fun x c e z => by
 obtain ⟨v, o, ho, hd⟩ := I.cell x c e
 obtain ⟨m, ⟨o', es, ep, ho', hd', _⟩, _⟩ := I.loc
 rw [z, ho'] at ho; cases ho; rw [hd'] at hd; cases hd
theorem Inv.funs (I : Inv X pins σ H s) : s.heap.FunFrames X.base X.outer := by
 have all : ∀ (l : List Env), (∀ b ∈ frs l, b ∈ X.fs) → X.s₀.heap.FunFrames X.base l → s.heap.FunFrames X.base l := by
  intro l
  induction l with
  | nil => intro _ _; trivial
  | cons env r ih =>
   intro hs hl
   obtain ⟨hk, ⟨L, o, hf, hn, ho, hd⟩, hr⟩ := hl
   have hL : L ∈ X.fs := hs L (by unfold frs; rw [List.filterMap_cons, hf]; exact List.mem_cons_self)
   obtain ⟨sl, e⟩ := I.base.slot L o ho (I.ok.frf L hL) hL fun z => I.ok.exfs L z hL
   exact ⟨hk, ⟨L, _, hf, hn, e, hd⟩, ih (fun b hb => hs b (by unfold frs; rw [List.filterMap_cons, hf]; exact List.mem_cons_of_mem _ hb)) hr⟩
 exact all X.outer (fun _ hb => hb) I.ok.funs
theorem Inv.stack (I : Inv X pins σ H s) : s.heap.FunFrames X.base X.stack := by
 rcases I.ok.stk with e | ⟨e, hf⟩
 ·rw [e]; exact I.funs
 ·rw [e]
  obtain ⟨m, hn, _⟩ := I.loc
  refine .cons (by rw [I.ok.kind]; decide) hf hn ?_ I.funs
  exact Heap.get?_none_of_le (Nat.le_trans I.ok.bsz I.ok.above)
theorem Inv.stkSub (I : Inv X pins σ H s) : ∀ b ∈ frs X.stack, b ∈ X.env.locals :: X.fs := fun b hb => by
 rcases I.ok.stk with e | ⟨e, hf⟩
 ·rw [e] at hb; exact List.mem_cons_of_mem _ hb
 ·rw [e] at hb
  unfold frs at hb
  rw [List.filterMap_cons, hf] at hb
  exact hb
theorem Inv.stkFree (I : Inv X pins σ H s) : ∀ b ∈ frs X.stack, H b = none := fun b hb => by
 rcases List.mem_cons.mp (I.stkSub b hb) with e | hb
 ·rw [e]; exact I.free
 ·obtain ⟨_, o, ho, _⟩ := I.ok.funs.mem hb
  exact I.base.free b o ho (I.ok.frf b hb) fun z => I.ok.exfs b z hb
theorem Inv.step {g' : Array GenState} {t' : Nat} {d' : Drawn} {ch : List Addr} (I : Inv X pins σ H s)
  (hch : ∀ b ∈ ch, (b ∈ X.ex ∨ X.s₀.heap.objs.size ≤ b) ∧ b ≠ X.env.locals ∧ (∀ x c, X.env.cells.lookup x = some c → c ≠ b) ∧ ∀ p ∈ X.pn ++ pins, p.1 ≠ b)
  (keep : ∀ b o, b ≠ X.env.locals → b ∉ X.fs → b ∉ ch → s.heap.get? b = some o → H b = none → h'.get? b = some o)
  (slot : ∀ b o, b ≠ X.env.locals → b ∈ X.fs → b ∉ ch → s.heap.get? b = some o → H b = none → ∃ sl, h'.get? b = some { o with slots := sl }) (free : ∀ b o, b ∉ ch → s.heap.get? b = some o → H b = none → H' b = none)
  (there : ∀ b o, b ∉ ch → s.heap.get? b = some o → ∃ o', h'.get? b = some o')
  (tups : ∀ b xs, H b = some (.tup xs) → H' b = some (.tup xs)) (frzs : ∀ b o u, H b = some (.frz o u) → H' b = some (.frz o u)) (tbls : ∀ b ps, H b = some (.tbl ps) → ∃ more, H' b = some (.tbl (ps ++ more)))
  (ns : ∀ m, s.heap.Ns X.env.locals m → h'.Ns X.env.locals m) (hok : HOk X.prog X.w H' h') (hg : AllBare g') :
  Inv X pins σ H' { s with heap := h', gens := g', drawn := d', toks := t' } := by
 have neL : ∀ b o, X.s₀.heap.get? b = some o → b ≠ X.env.locals := fun b o e => Nat.ne_of_lt (Nat.lt_of_lt_of_le (Heap.lt_size e) I.ok.above)
 have neC : ∀ b o, X.s₀.heap.get? b = some o → b ∉ X.ex → b ∉ ch := fun b o e hx hb => by
  rcases (hch b hb).1 with z | z
  ·exact hx z
  ·exact absurd (Nat.lt_of_lt_of_le (Heap.lt_size e) z) (Nat.lt_irrefl _)
 have cellK : ∀ x c, X.env.cells.lookup x = some c → ∀ v, s.heap.IsCell c v → h'.IsCell c v := fun x c e v ⟨o, ho, hd⟩ => by
  have nch : c ∉ ch := fun z => (hch c z).2.2.1 x c e rfl
  by_cases hc : c ∈ X.fs
  ·obtain ⟨sl, q⟩ := slot c o (I.cne x c e) hc nch ho (I.freeC x c e)
   exact ⟨_, q, hd⟩
  ·exact ⟨o, keep c o (I.cne x c e) hc nch ho (I.freeC x c e), hd⟩
 refine ⟨I.ok, I.os, hg, ⟨fun b o e n hb hx => ?_, fun b o e n hb hx => ?_, fun b o e n hx => ?_, fun b o e hx => ?_, fun b xs e => tups b xs (I.base.tups b xs e), fun b o xs e => frzs b o xs (I.base.frzs b o xs e), fun b ps e => ?_⟩, ?_, fun x c e => ?_, ?_, fun x c e => ?_, fun p hp => ?_, hok, I.len⟩
 ·exact keep b o (neL b o e) hb (neC b o e hx) (I.base.keep b o e n hb hx) (I.base.free b o e n hx)
 ·obtain ⟨sl, e1⟩ := I.base.slot b o e n hb hx
  obtain ⟨sl', e2⟩ := slot b _ (neL b o e) hb (neC b o e hx) e1 (I.base.free b o e n hx)
  exact ⟨sl', e2⟩
 ·obtain ⟨o', e1⟩ := I.base.there b o e hx
  exact free b o' (neC b o e hx) e1 (I.base.free b o e n hx)
 ·obtain ⟨o', e1⟩ := I.base.there b o e hx
  exact there b o' (neC b o e hx) e1
 ·obtain ⟨m1, e1⟩ := I.base.tbls b ps e
  obtain ⟨m2, e2⟩ := tbls b _ e1
  exact ⟨m1 ++ m2, by rw [e2, Array.append_assoc]⟩
 ·obtain ⟨m, hn, hl⟩ := I.loc
  refine ⟨m, ns m hn, fun i x v e1 e2 e3 => ?_⟩
  obtain ⟨u, r, l⟩ := hl i x v e1 e2 e3
  refine ⟨u, r, ?_⟩
  rcases l with l | ⟨k, c, e, z⟩
  ·exact .inl l
  ·exact .inr ⟨k, c, e, cellK x c e _ z⟩
 ·obtain ⟨v, z⟩ := I.cell x c e
  exact ⟨v, cellK x c e v z⟩
 ·obtain ⟨m, ⟨o, _, _, ho, _⟩, _⟩ := I.loc
  exact free _ o (fun z => (hch _ z).2.1 rfl) ho I.free
 ·obtain ⟨v, o, ho, hd⟩ := I.cell x c e
  exact free c o (fun z => (hch c z).2.2.1 x c e rfl) ho (I.freeC x c e)
 ·obtain ⟨e, n, ne, nf, d⟩ := I.pin p hp
  have nch : p.1 ∉ ch := fun z => (hch p.1 z).2.2.2 p hp rfl
  exact ⟨keep p.1 p.2 ne nf nch e n, free p.1 p.2 nch e n, ne, nf, d⟩
theorem Inv.un {t' : Nat} (I : Inv X pins σ H s) (u : Un X.fs [] H H' s.heap h') (hok : HOk X.prog X.w H' h') : Inv X pins σ H' { s with heap := h', toks := t' } := by
 obtain ⟨m, ⟨o, es, ep, ho, r⟩, _⟩ := id I.loc
 obtain ⟨sl, hL⟩ := u.any ho I.free (by simp)
 exact I.step (g' := s.gens) (d' := s.drawn) (ch := []) (fun _ z => nomatch z) (fun b o _ hb _ e n => u.keep b o e n hb (by simp)) (fun b o _ hb _ e n => u.slot b o e n hb (by simp)) (fun b o _ e n => u.free b o e n (by simp)) (fun b o _ e => u.there b o e (by simp)) u.tups u.frzs u.tbls (fun m' hm => by
  obtain ⟨o', es', ep', ho', r'⟩ := hm
  rw [ho] at ho'; cases ho'
  exact ⟨_, es', ep', hL, r'⟩) hok I.bare
theorem Inv.call {g' : Array GenState} {t' : Nat} {d' : Drawn} {ch : List Addr} (I : Inv X pins σ H s) (u : Un (frs X.stack) ch H H' s.heap h') (hok : HOk X.prog X.w H' h') (hg : AllBare g')
  (hch : ∀ b ∈ ch, (b ∈ X.ex ∨ X.s₀.heap.objs.size ≤ b) ∧ b ≠ X.env.locals ∧ (∀ x c, X.env.cells.lookup x = some c → c ≠ b) ∧ ∀ p ∈ X.pn ++ pins, p.1 ≠ b) :
  Inv X pins σ H' { s with heap := h', gens := g', drawn := d', toks := t' } := by
 obtain ⟨m, ⟨o, es, ep, ho, r⟩, _⟩ := id I.loc
 obtain ⟨sl, hL⟩ := u.any ho I.free fun z => (hch _ z).2.1 rfl
 exact I.step (ch := ch) hch (fun b o hL hb hc e n => u.keep b o e n (fun z => (List.mem_cons.mp (I.stkSub b z)).elim hL hb) hc) (fun b o _ _ hc e n => u.any e n hc) (fun b o hc e n => u.free b o e n hc) (fun b o hc e => u.there b o e hc) u.tups u.frzs u.tbls (fun m' hm => by
  obtain ⟨o', es', ep', ho', r'⟩ := hm
  rw [ho] at ho'; cases ho'
  exact ⟨_, es', ep', hL, r'⟩) hok hg
theorem Inv.turned {t' : Nat} {it : Addr} (I : Inv X pins σ H s) (k : ∀ b o, b ≠ it → s.heap.get? b = some o → h'.get? b = some o) (hn : H it = none) (hL : it ≠ X.env.locals)
  (h1 : it ∈ X.ex ∨ X.s₀.heap.objs.size ≤ it) (h2 : ∀ x c, X.env.cells.lookup x = some c → c ≠ it) (h3 : ∀ p ∈ X.pn ++ pins, p.1 ≠ it) : Inv X pins σ H { s with heap := h', toks := t' } := by
 have nit : ∀ b u, H b = some u → b ≠ it := fun b u e z => by rw [z, hn] at e; cases e
 refine I.step (g' := s.gens) (d' := s.drawn) (ch := [it]) (fun b hb => ?_) (fun b o _ _ hc e _ => k b o (fun z => hc (by simp [z])) e) (fun b o _ _ hc e _ => ⟨o.slots, k b o (fun z => hc (by simp [z])) e⟩) (fun _ _ _ _ n => n)
  (fun b o hc e => ⟨o, k b o (fun z => hc (by simp [z])) e⟩) (fun _ _ e => e) (fun _ _ _ e => e) (fun b ps e => ⟨#[], by rw [e]; simp⟩) (fun m hm => ?_) (fun b u e => ?_) I.bare
 ·have e : b = it := by simpa using hb
  subst e
  exact ⟨h1, hL, h2, h3⟩
 ·obtain ⟨o, es, ep, ho, r⟩ := hm
  exact ⟨o, es, ep, k _ o (Ne.symm hL) ho, r⟩
 ·refine (I.hok b u e).stay (fun c v hc q => k c v ?_ q) (fun _ q => q) fun _ _ q => q
  rcases hc with z | z
  ·rw [z]; exact nit b u e
  ·exact nit c _ z
theorem Inv.tok (I : Inv X pins σ H s) (t : Nat) : Inv X pins σ H { s with toks := t } := I.un (h' := s.heap) (t' := t) Un.refl I.hok
theorem Inv.kept {t' : Nat} (I : Inv X pins σ H s) (k : ∀ b u, s.heap.get? b = some u → h'.get? b = some u) : Inv X pins σ H { s with heap := h', toks := t' } := I.un (Un.kept k) (I.hok.kept k)
theorem Inv.laid {a : Addr} {o : HO} {t' : Nat} (I : Inv X pins σ H s) (k : ∀ b u, s.heap.get? b = some u → h'.get? b = some u) (hp : s.heap.objs.size ≤ a) (new : ObjOk X.prog X.w (upd H a o) h' a o) :
  Inv X pins σ (upd H a o) { s with heap := h', toks := t' } := I.un (Un.laid k hp (I.hok.fresh hp)) (I.hok.laid k hp new)
theorem Inv.write {x e : Addr} {o : HO} {t' : Nat} (I : Inv X pins σ H s) (mu : Mut (H x)) (he : e = x ∨ H e = some (.own x)) (k : ∀ b u, b ≠ e → s.heap.get? b = some u → h'.get? b = some u) (heo : ∃ u, h'.get? e = some u)
  (new : ObjOk X.prog X.w (upd H x o) h' x o) : Inv X pins σ (upd H x o) { s with heap := h', toks := t' } := I.un (Un.write mu he k heo) (I.hok.write mu he k heo new)
theorem Inv.pins_of {pins' : List (Addr × Obj)} (I : Inv X pins σ H s) (h : ∀ p ∈ pins', s.heap.get? p.1 = some p.2 ∧ H p.1 = none ∧ p.1 ≠ X.env.locals ∧ p.1 ∉ X.fs ∧ ∀ v, p.2.data ≠ .cell v) : Inv X pins' σ H s :=
 ⟨I.ok, I.os, I.bare, I.base, I.loc, I.cell, I.free, I.freeC, fun p hp => (List.mem_append.mp hp).elim (fun z => I.pin p (List.mem_append_left _ z)) (h p), I.hok, I.len⟩
theorem nodup_ix {N : List Str} (hN : N.Nodup) {i j : Nat} {x : Str} (a : N[i]? = some x) (b : N[j]? = some x) : i = j := by
 obtain ⟨h1, e1⟩ := List.getElem?_eq_some_iff.mp a
 obtain ⟨h2, e2⟩ := List.getElem?_eq_some_iff.mp b
 exact (List.getElem_inj hN).mp (e1.trans e2.symm)
theorem store_ok2 {M : Model} {A : Around} {E : Value → Shared → Prop} {i : Nat} {x : Str} {v : V} {u : Value} {Q : Unit → Shared → Prop} (I : Inv X pins σ H s) (hN : X.N.Nodup) (hi : X.N[i]? = some x) (hx : Loc X.env.scope x) (r : RelV v u)
  (h : ∀ s', Inv X pins (σ.set i (some v)) H s' → (∃ a, Heap.SameBut a s.heap s'.heap ∧ (a = X.env.locals ∨ X.env.cells.lookup x = some a)) → Q () s') (hf : autoParam (X.fn x = true ∨ X.env.scope.names.lookup x = some .local) L2.aLoc._auto_1) : wpAny M A (storeName X.env x u) Q E s := by
 obtain ⟨m, hn, hl⟩ := id I.loc
 have hcls : (X.env.scope.kind == .class || (X.env.scope.kind == .module && X.env.locals != X.env.globals)) = false := by rw [I.ok.kind]; rfl
 have hiσ : i < σ.length := by rw [I.len]; exact (List.getElem?_eq_some_iff.mp hi).1
 have cne := I.cne
 have tracked : ∀ {a : Addr} {h' : Heap}, (∃ o, s.heap.get? a = some o ∧ H a = none) → Heap.SameBut a s.heap h' → HOk X.prog X.w H h' := fun {a h'} ha hs b ob e => by
  obtain ⟨_, _, hfree⟩ := ha
  refine (I.hok b ob e).stay (fun c w' hc q => (hs.2 c ?_).trans q) (fun _ q => q) fun _ _ q => q
  rintro rfl
  rcases hc with rfl | hc
  ·rw [hfree] at e; cases e
  ·rw [hfree] at hc; cases hc
 rcases hx with hk | hk
 ·refine wpAny_storeName_local hk hn (fun h' hn' hs => ?_) hcls
  obtain ⟨oL, _, _, hoL, _⟩ := id hn
  refine h _ ⟨I.ok, I.os, I.bare, ⟨fun b o e n hb hx => ?_, fun b o e n hb hx => ?_, I.base.free, fun b o e hx => ?_, I.base.tups, I.base.frzs, I.base.tbls⟩, ⟨_, hn', fun j y v' e1 e2 e3 => ?_⟩, fun y c e => ?_, I.free, I.freeC, fun p hp => ?_, tracked ⟨oL, hoL, I.free⟩ hs, by simpa using I.len⟩ ⟨_, hs, .inl rfl⟩
  ·exact (hs.2 b (Nat.ne_of_lt (Nat.lt_of_lt_of_le (Heap.lt_size e) I.ok.above))).trans (I.base.keep b o e n hb hx)
  ·obtain ⟨sl, e1⟩ := I.base.slot b o e n hb hx
   exact ⟨sl, (hs.2 b (Nat.ne_of_lt (Nat.lt_of_lt_of_le (Heap.lt_size e) I.ok.above))).trans e1⟩
  ·obtain ⟨o', e1⟩ := I.base.there b o e hx
   exact ⟨o', (hs.2 b (Nat.ne_of_lt (Nat.lt_of_lt_of_le (Heap.lt_size e) I.ok.above))).trans e1⟩
  ·by_cases hj : j = i
   ·subst hj
    rw [hi] at e1; cases e1
    rw [List.getElem?_set_self hiσ] at e2
    cases e2
    exact ⟨u, r, .inl ⟨hk, by simp⟩⟩
   ·rw [List.getElem?_set_ne (Ne.symm hj)] at e2
    obtain ⟨u', r', q⟩ := hl j y v' e1 e2 e3
    refine ⟨u', r', ?_⟩
    rcases q with ⟨k, e⟩ | ⟨k, c, e, z⟩
    ·refine .inl ⟨k, ?_⟩
     have : y ≠ x := fun e => hj (nodup_ix hN e1 (e ▸ hi))
     simp [this, e]
    ·exact .inr ⟨k, c, e, z.sameBut hs (cne y c e)⟩
  ·obtain ⟨w', z⟩ := I.cell y c e
   exact ⟨w', z.sameBut hs (cne y c e)⟩
  ·obtain ⟨e, n, ne, nf, d⟩ := I.pin p hp
   exact ⟨(hs.2 p.1 ne).trans e, n, ne, nf, d⟩
 ·have hfn : X.fn x = true := by
   rcases hf with z | z
   ·exact z
   ·rw [z] at hk; cases hk
  obtain ⟨c, hc⟩ := I.ok.has x (.inl hk)
  obtain ⟨w', z⟩ := I.cell x c hc
  refine wpAny_storeName_cell I.ok.kind hk hc z (fun h' hc' hs => ?_)
  obtain ⟨oc, hoc, hocd⟩ := id z
  refine h { s with heap := h' } ⟨I.ok, I.os, I.bare, ⟨fun b o e n hb hx => ?_, fun b o e n hb hx => ?_, I.base.free, fun b o e hx => ?_, I.base.tups, I.base.frzs, I.base.tbls⟩, ⟨m, hn.sameBut hs (Ne.symm (cne x c hc)), fun j y v' e1 e2 e3 => ?_⟩, fun y c' e => ?_, I.free, I.freeC, fun p hp => ?_, tracked ⟨oc, hoc, I.freeC x c hc⟩ hs, by simpa using I.len⟩ ⟨c, hs, .inr hc⟩
  ·exact (hs.2 b (Nat.ne_of_lt (Nat.lt_of_lt_of_le (Heap.lt_size e) (I.ok.cab x c hfn hc)))).trans (I.base.keep b o e n hb hx)
  ·obtain ⟨sl, e1⟩ := I.base.slot b o e n hb hx
   exact ⟨sl, (hs.2 b (Nat.ne_of_lt (Nat.lt_of_lt_of_le (Heap.lt_size e) (I.ok.cab x c hfn hc)))).trans e1⟩
  ·obtain ⟨o', e1⟩ := I.base.there b o e hx
   exact ⟨o', (hs.2 b (Nat.ne_of_lt (Nat.lt_of_lt_of_le (Heap.lt_size e) (I.ok.cab x c hfn hc)))).trans e1⟩
  ·by_cases hj : j = i
   ·subst hj
    rw [hi] at e1; cases e1
    rw [List.getElem?_set_self hiσ] at e2
    cases e2
    exact ⟨u, r, .inr ⟨.inl hk, c, hc, hc'⟩⟩
   ·rw [List.getElem?_set_ne (Ne.symm hj)] at e2
    obtain ⟨u', r', q⟩ := hl j y v' e1 e2 e3
    refine ⟨u', r', ?_⟩
    rcases q with q | ⟨k, c', e, z'⟩
    ·exact .inl q
    ·refine .inr ⟨k, c', e, z'.sameBut hs ?_⟩
     rintro rfl
     exact hj (nodup_ix hN e1 (I.ok.inj _ _ _ e hc ▸ hi))
  ·by_cases hcc : c' = c
   ·subst hcc; exact ⟨_, hc'⟩
   ·obtain ⟨w2, z2⟩ := I.cell y c' e
    exact ⟨w2, z2.sameBut hs hcc⟩
  ·obtain ⟨e, n, ne, nf, d⟩ := I.pin p hp
   refine ⟨(hs.2 p.1 ?_).trans e, n, ne, nf, d⟩
   intro q
   rw [q, hoc] at e
   have q' : oc = p.2 := Option.some.inj e
   exact d w' (by rw [← q']; exact hocd)
theorem store_ok {M : Model} {A : Around} {E : Value → Shared → Prop} {i : Nat} {x : Str} {v : V} {u : Value} {Q : Unit → Shared → Prop} (I : Inv X pins σ H s) (hN : X.N.Nodup) (hi : X.N[i]? = some x) (hx : Loc X.env.scope x) (r : RelV v u)
  (h : ∀ s', Inv X pins (σ.set i (some v)) H s' → Q () s') (hf : autoParam (X.fn x = true ∨ X.env.scope.names.lookup x = some .local) L2.aLoc._auto_1) : wpAny M A (storeName X.env x u) Q E s :=
 store_ok2 I hN hi hx r (fun s' I' _ => h s' I') hf
theorem Inv.call' {s' : Shared} {ch : List Addr} (I : Inv X pins σ H s) (ho : s'.os = s.os) (u : Un (frs X.stack) ch H H' s.heap s'.heap) (hok : HOk X.prog X.w H' s'.heap) (hg : AllBare s'.gens)
  (hch : ∀ b ∈ ch, (b ∈ X.ex ∨ X.s₀.heap.objs.size ≤ b) ∧ b ≠ X.env.locals ∧ (∀ x c, X.env.cells.lookup x = some c → c ≠ b) ∧ ∀ p ∈ X.pn ++ pins, p.1 ≠ b) : Inv X pins σ H' s' := by
 obtain ⟨h', g', d', t', o'⟩ := s'
 have e : o' = s.os := ho
 subst e
 exact I.call (g' := g') (t' := t') (d' := d') u hok hg hch
end
noncomputable abbrev XK := Value → Option Addr → Hp → Prop
noncomputable abbrev St := List (Option V)
noncomputable abbrev VK := V → Hp → Prop
noncomputable abbrev TE := St → Hp → VK → Prop
noncomputable abbrev TT := St → Hp → (Bool → Hp → Prop) → Prop
noncomputable abbrev TA := St → Hp → (List V → Hp → Prop) → Prop
structure Ends where
 nx : St → Hp → Prop
 rt : VK
 bk : St → Hp → Prop := fun _ _ => False
 ct : St → Hp → Prop := fun _ _ => False
noncomputable abbrev TS := Ends → St → Hp → Prop
noncomputable def EP (X : Cx) (pins : List (Addr × Obj)) (σ : St) (Q : VK) (u : Value) (s' : Shared) : Prop := ∃ v H', Inv X pins σ H' s' ∧ RelV v u ∧ Q v H'
noncomputable def TP (X : Cx) (pins : List (Addr × Obj)) (σ : St) (Q : Bool → Hp → Prop) (b : Bool) (s' : Shared) : Prop := ∃ H', Inv X pins σ H' s' ∧ Q b H'
noncomputable def AP (X : Cx) (pins : List (Addr × Obj)) (σ : St) (Q : List V → Hp → Prop) (us : List Value) (s' : Shared) : Prop := ∃ vs H', Inv X pins σ H' s' ∧ Vals vs us ∧ Q vs H'
noncomputable def SP (X : Cx) (pins : List (Addr × Obj)) (D : Ends) (f : Flow) (s' : Shared) : Prop :=
 match f with
 | .next => ∃ σ' H', Inv X pins σ' H' s' ∧ D.nx σ' H'
 | .brk => ∃ σ' H', Inv X pins σ' H' s' ∧ D.bk σ' H'
 | .cont => ∃ σ' H', Inv X pins σ' H' s' ∧ D.ct σ' H'
 | .ret u => ∃ v σ' H', Inv X pins σ' H' s' ∧ RelV v u ∧ D.rt v H'
noncomputable def PE (X : Cx) (e : Expr) (t : TE) : Prop :=
 ∀ (pins : List (Addr × Obj)) (s : Shared) (σ : St) (H : Hp) (Q : VK), Inv X pins σ H s → t σ H Q → wpAny (model X.prog X.w) X.A (eval e X.env) (EP X pins σ Q) X.xe s
noncomputable def PT (X : Cx) (e : Expr) (t : TT) : Prop :=
 ∀ (pins : List (Addr × Obj)) (s : Shared) (σ : St) (H : Hp) (Q : Bool → Hp → Prop), Inv X pins σ H s → t σ H Q → wpAny (model X.prog X.w) X.A (isTrue e X.env (eval e X.env)) (TP X pins σ Q) X.xe s
noncomputable def PW (X : Cx) (e : Expr) (t : TT) : Prop :=
 ∀ (whole : Sem Value) (pins : List (Addr × Obj)) (s : Shared) (σ : St) (H : Hp) (Q : Bool → Hp → Prop), Inv X pins σ H s → t σ H Q → wpAny (model X.prog X.w) X.A (isTrue e X.env whole) (TP X pins σ Q) X.xe s
theorem PW.pt {X : Cx} {e : Expr} {t : TT} (h : PW X e t) : PT X e t := h _
noncomputable def PA (X : Cx) (es : List Expr) (t : TA) : Prop :=
 ∀ (pos : Pos) (pins : List (Addr × Obj)) (s : Shared) (σ : St) (H : Hp) (Q : List V → Hp → Prop), Inv X pins σ H s → t σ H Q → wpAny (model X.prog X.w) X.A (spliced (backTo pos (starEach es X.env))) (AP X pins σ Q) X.xe s
noncomputable def PS (X : Cx) (st : Stmt) (t : TS) : Prop :=
 ∀ (pins : List (Addr × Obj)) (s : Shared) (σ : St) (H : Hp) (D : Ends), Inv X pins σ H s → t D σ H → wpAny (model X.prog X.w) X.A (exec st X.env) (SP X pins D) X.xe s
noncomputable def PSs (X : Cx) (st : List Stmt) (t : TS) : Prop :=
 ∀ (pins : List (Addr × Obj)) (s : Shared) (σ : St) (H : Hp) (D : Ends), Inv X pins σ H s → t D σ H → wpAny (model X.prog X.w) X.A (execs st X.env) (SP X pins D) X.xe s
theorem thn {α : Type} {t : Sem α} {Q Q' : α → Shared → Prop} {M : Model} {A : Around} {E : Value → Shared → Prop} {s : Shared} (h : wpAny M A t Q E s) (hQ : ∀ a s, Q a s → Q' a s) : wpAny M A t Q' E s := wpAny_mono h hQ fun _ _ x => x
end L2
namespace L2
open PySem PySem.Spec PyProof.Rows
section
variable {X : Cx}
noncomputable def tVar (i : Nat) : TE := fun σ H Q => ∃ v, σ[i]? = some (some v) ∧ Q v H
noncomputable def tC (v : V) : TE := fun _ H Q => Q v H
theorem pe_var {i : Nat} {x : Str} {pos : Pos} (hN : X.N[i]? = some x) (hv : Vis X.env.scope x) (hd : autoParam ((x == ("__debug__" : Str)) = false) L2.aDec._auto_1) (hcd : autoParam ((x == ("__classdict__" : Str)) = false) L2.aDec._auto_1) : PE X (.Name x pos) (tVar i) := by
 intro pins s σ H Q I h
 obtain ⟨v, e, h⟩ := h
 obtain ⟨m, hn, hl⟩ := I.loc
 obtain ⟨u, r, l⟩ := hl i x v hN e hv
 have fin : EP X pins σ Q u s := ⟨v, H, I, r, h⟩
 rcases l with ⟨hk, hm⟩ | ⟨hk, c, hc, hcell⟩
 ·exact wpAny_Name (wpAny_loadName_local I.ok.kind hk hn hm fin) hd
 ·rcases hk with hk | hk
  ·exact wpAny_Name (wpAny_loadName_cell I.ok.kind hk hc hcell fin) hd
  ·exact wpAny_Name (wpAny_loadName_free I.ok.kind hk hc hcell fin hcd) hd
theorem pe_int {i j pos} : PE X (.Constant (.int i) j pos) (tC (.int i)) := fun _ _ _ H _ I h => wpAny_Constant_int ⟨.int i, H, I.tok _, ⟨_, rfl⟩, h⟩
theorem pe_bl {b j pos} : PE X (.Constant (.bool b) j pos) (tC (.bl b)) := fun _ _ _ H _ I h => Constant_bool ⟨.bl b, H, I, rfl, h⟩
theorem pe_non {j pos} : PE X (.Constant .none j pos) (tC .non) := fun _ _ _ H _ I h => Constant_none ⟨.non, H, I, rfl, h⟩
theorem pe_str {x j pos} : PE X (.Constant (.str x) j pos) (tC (.str x)) := fun _ _ _ H _ I h => Calls.Constant_str ⟨.str x, H, I.tok _, ⟨_, rfl⟩, h⟩
noncomputable def Gl (X : Cx) (x : Str) : Prop := X.env.kindOf x = some .globalImplicit
theorem ld_glob {E : Value → Shared → Prop} {pins : List (Addr × Obj)} {s : Shared} {σ : St} {H : Hp} {x : Str} {u : Value} {pos : Pos} {Q : Value → Shared → Prop} (I : Inv X pins σ H s) (hg : Gl X x) (hm : X.mg x = some u) (h : Q u s)
  (hd : autoParam ((x == ("__debug__" : Str)) = false) L2.aDec._auto_1) : wpAny (model X.prog X.w) X.A (eval (.Name x pos) X.env) Q E s :=
 Calls.Name_function_global I.ok.kind hg (Calls.loadGlobal_global (by rw [I.ok.glob]; exact I.mod.glob.keeps I.bk) hm h) hd
theorem ld_blt {E : Value → Shared → Prop} {pins : List (Addr × Obj)} {s : Shared} {σ : St} {H : Hp} {x : Str} {u : Value} {pos : Pos} {Q : Value → Shared → Prop} (I : Inv X pins σ H s) (hg : Gl X x) (hm : X.mg x = none) (hv : bootBuiltins x = some u) (h : Q u s)
  (hn : autoParam (x ≠ "__name__") L2.aDec._auto_1) (hd : autoParam ((x == ("__debug__" : Str)) = false) L2.aDec._auto_1) : wpAny (model X.prog X.w) X.A (eval (.Name x pos) X.env) Q E s := by
 obtain ⟨mb, h1, h2⟩ := I.mod.blt
 exact Calls.Name_function_global I.ok.kind hg (Calls.loadGlobal_builtin (by rw [I.ok.glob]; exact I.mod.glob.keeps I.bk) hm (by rw [I.ok.blt]; exact h1.keeps I.bk) ((h2 x hn).trans hv) h) hd
theorem pe_glob {x : Str} {v : V} {u : Value} {pos : Pos} (hg : Gl X x) (hm : X.mg x = some u) (r : RelV v u) (hd : autoParam ((x == ("__debug__" : Str)) = false) L2.aDec._auto_1) : PE X (.Name x pos) (tC v) :=
 fun _ _ _ H _ I h => ld_glob I hg hm ⟨v, H, I, r, h⟩ hd
noncomputable def t2I (ta tb : TE) (k : Int → Int → Hp → Prop) : St → Hp → Prop := fun σ H => ta σ H fun x H1 => tb σ H1 fun y H2 => ∃ i j, x = .int i ∧ y = .int j ∧ k i j H2
variable {a b : Expr} {ta tb : TE} {pos : Pos}
noncomputable def tCmp (p : Int → Int → Bool) (ta tb : TE) : TE := fun σ H Q => t2I ta tb (fun i j H2 => Q (.bl (p i j)) H2) σ H
noncomputable abbrev tEqI : TE → TE → TE := tCmp fun i j => decide (i = j)
noncomputable abbrev tNeI : TE → TE → TE := tCmp fun i j => !decide (i = j)
variable {tA tB' : TT} {rest : List Expr}
noncomputable def tAnd (t u : TT) : TT := fun σ H Q => t σ H fun c H1 => if c = true then u σ H1 Q else Q false H1
noncomputable def tOr (t u : TT) : TT := fun σ H Q => t σ H fun c H1 => if c = true then Q true H1 else u σ H1 Q
noncomputable def tNot (t : TT) : TT := fun σ H Q => t σ H fun c H1 => Q (!c) H1
theorem pw_and1 (ha : PT X a tA) : PW X (.BoolOp .And [a] pos) tA := by
 intro wh pins s σ H Q I h
 refine isTrue_and (thn (ha pins s σ H Q I h) fun c s1 e => ?_)
 cases c with
 | true => exact isTrue_and_nil e
 | false => exact e
theorem pw_or1 (ha : PT X a tA) : PW X (.BoolOp .Or [a] pos) tA := by
 intro wh pins s σ H Q I h
 refine isTrue_or (thn (ha pins s σ H Q I h) fun c s1 e => ?_)
 cases c with
 | false => exact isTrue_or_nil e
 | true => exact e
theorem pw_and (ha : PT X a tA) (hb : PW X (.BoolOp .And (b :: rest) pos) tB') : PW X (.BoolOp .And (a :: b :: rest) pos) (tAnd tA tB') := by
 intro wh pins s σ H Q I h
 refine isTrue_and (thn (ha pins s σ H _ I h) fun c s1 ⟨H1, I1, q1⟩ => ?_)
 cases c with
 | true => exact hb wh pins s1 σ H1 Q I1 q1
 | false => exact ⟨H1, I1, q1⟩
theorem pw_or (ha : PT X a tA) (hb : PW X (.BoolOp .Or (b :: rest) pos) tB') : PW X (.BoolOp .Or (a :: b :: rest) pos) (tOr tA tB') := by
 intro wh pins s σ H Q I h
 refine isTrue_or (thn (ha pins s σ H _ I h) fun c s1 ⟨H1, I1, q1⟩ => ?_)
 cases c with
 | true => exact ⟨H1, I1, q1⟩
 | false => exact hb wh pins s1 σ H1 Q I1 q1
theorem pt_not (ha : PT X a tA) : PT X (.UnaryOp .Not a pos) (tNot tA) := by
 intro pins s σ H Q I h
 exact isTrue_not (ha pins s σ H (fun c H1 => Q (!c) H1) I h)
noncomputable def tAndV (ta tb : TE) : TE := fun σ H Q => ta σ H fun x H1 => ∃ c, x = .bl c ∧ if c = true then tb σ H1 Q else Q (.bl false) H1
noncomputable def tOrV (ta tb : TE) : TE := fun σ H Q => ta σ H fun x H1 => ∃ c, x = .bl c ∧ if c = true then Q (.bl true) H1 else tb σ H1 Q
noncomputable def tNotV (ta : TE) : TE := fun σ H Q => ta σ H fun x H1 => ∃ c, x = .bl c ∧ Q (.bl (!c)) H1
theorem pe_one {op} {t : TE} (h : PE X a t) : PE X (.BoolOp op [a] pos) t := fun pins s σ H Q I hw => BoolOp_one (h pins s σ H Q I hw)
theorem pe_and (ha : PE X a ta) (hb : PE X (.BoolOp .And (b :: rest) pos) tb) : PE X (.BoolOp .And (a :: b :: rest) pos) (tAndV ta tb) := by
 intro pins s σ H Q I h
 refine BoolOp_and (thn (ha pins s σ H _ I h) fun v s1 ⟨x, H1, I1, r1, q1⟩ => ?_)
 obtain ⟨c, rfl, q1⟩ := q1
 cases r1
 refine wpAny_truthy_bool ?_
 cases c with
 | true => exact hb pins s1 σ H1 Q I1 q1
 | false => exact ⟨.bl false, H1, I1, rfl, q1⟩
noncomputable def tIf (t : TT) (ta tb : TE) : TE := fun σ H Q => t σ H fun c H1 => if c = true then ta σ H1 Q else tb σ H1 Q
theorem pe_ifExp {c : Expr} (hc : PT X c tA) (ha : PE X a ta) (hb : PE X b tb) : PE X (.IfExp c a b pos) (tIf tA ta tb) := by
 intro pins s σ H Q I h
 refine wpAny_IfExp (thn (hc pins s σ H _ I h) fun d s1 ⟨H1, I1, q1⟩ => ?_)
 cases d with
 | true => exact ha pins s1 σ H1 Q I1 q1
 | false => exact hb pins s1 σ H1 Q I1 q1
end
end L2
namespace L2
open PySem PySem.Spec PyProof.Rows
noncomputable def SqL (K : PySem.W.Frag) (H : Hp) (a : Addr) (xs : List V) : Prop :=
 Rd H a (.lst xs) ∨
  ∃ (o : Obj) (its : Array Value) (n : Nat), K.lookup a = some o ∧ o.cls = .type "list" ∧ o.dict = none ∧ o.data = .seq its n ∧ its.size ≤ sizeLine ∧ Vals xs its.toList
noncomputable def SqT (K : PySem.W.Frag) (H : Hp) (a : Addr) (xs : List V) : Prop :=
 Rd H a (.tup xs) ∨
  ∃ (o : Obj) (its : Array Value) (n : Nat), K.lookup a = some o ∧ o.cls = .type "tuple" ∧ o.data = .seq its n ∧ its.size ≤ sizeLine ∧ Vals xs its.toList
noncomputable def absV : Value → Option V
 | .none => some .non
 | .bool b => some (.bl b)
 | .int i _ => some (.int i)
 | .str x _ => some (.str x)
 | .bytes b _ => some (.byt b)
 | .float b _ => some (.flt b)
 | .ref a => some (.ref a)
 | .type n => some (.ty n)
 | _ => none
theorem RelV.abs {x : V} {u : Value} (r : RelV x u) : absV u = some x := by
 cases x with
 | non => cases r; rfl
 | bl _ => cases r; rfl
 | int _ => obtain ⟨t, rfl⟩ := r; rfl
 | str _ => obtain ⟨t, rfl⟩ := r; rfl
 | byt _ => obtain ⟨t, rfl⟩ := r; rfl
 | flt _ => obtain ⟨t, rfl⟩ := r; rfl
 | ref _ => cases r; rfl
 | ty _ => cases r; rfl
theorem RelV.inj {x y : V} {u : Value} (r : RelV x u) (q : RelV y u) : x = y := Option.some.inj (r.abs.symm.trans q.abs)
theorem Vals.inj : ∀ {xs ys : List V} {us : List Value}, Vals xs us → Vals ys us → xs = ys
 | _, _, _, .nil, .nil => rfl
 | _, _, _, .cons r t, .cons r' t' => by rw [r.inj r', Vals.inj t t']
section
variable {X : Cx} {pins : List (Addr × Obj)} {σ : St} {H : Hp} {s : Shared} {a : Addr} {xs ys : List V}
theorem SqL.of {K : PySem.W.Frag} (h : H a = some (.lst xs)) : SqL K H a xs := .inl (.inl h)
theorem SqT.of {K : PySem.W.Frag} (h : H a = some (.tup xs)) : SqT K H a xs := .inl (.inl h)
theorem Inv.list (I : Inv X pins σ H s) (h : SqL X.K H a xs) : ∃ its : List Value, Vals xs its ∧ PlainL s.heap a its.toArray ∧ xs.length ≤ sizeLine := by
 rcases h with h | ⟨o, its, n, hk, hc, hd, hs, hz, r⟩
 ·obtain ⟨z, its, n, r, e⟩ := h.ok I.hok
  exact ⟨its, r, ⟨_, n, e, rfl, rfl, rfl⟩, z⟩
 ·refine ⟨its.toList, r, ⟨o, n, I.kIn a o hk, hc, hd, by simpa using hs⟩, ?_⟩
  have e := r.length
  simp only [Array.length_toList] at e
  omega
theorem Inv.tuple (I : Inv X pins σ H s) (h : SqT X.K H a xs) : ∃ its : List Value, Vals xs its ∧ IsTup s.heap a its.toArray ∧ xs.length ≤ sizeLine := by
 rcases h with h | ⟨o, its, n, hk, hc, hs, hz, r⟩
 ·obtain ⟨z, its, r, p⟩ := h.ok I.hok
  exact ⟨its, r, p.to, z⟩
 ·refine ⟨its.toList, r, ⟨o, I.kIn a o hk, hc, n, by simpa using hs⟩, ?_⟩
  have e := r.length
  simp only [Array.length_toList] at e
  omega
theorem Inv.list_inj (I : Inv X pins σ H s) (h : SqL X.K H a xs) (h' : SqL X.K H a ys) : xs = ys := by
 obtain ⟨its, r, ⟨o, n, e, _, _, d⟩, _⟩ := I.list h
 obtain ⟨its', r', ⟨o', n', e', _, _, d'⟩, _⟩ := I.list h'
 rw [e] at e'; cases e'
 rw [d] at d'
 injection d' with d1 _
 have : its = its' := by simpa using congrArg Array.toList d1
 subst this
 exact r.inj r'
theorem Inv.tuple_inj (I : Inv X pins σ H s) (h : SqT X.K H a xs) (h' : SqT X.K H a ys) : xs = ys := by
 obtain ⟨its, r, ⟨o, e, _, n, d⟩, _⟩ := I.tuple h
 obtain ⟨its', r', ⟨o', e', _, n', d'⟩, _⟩ := I.tuple h'
 rw [e] at e'; cases e'
 rw [d] at d'
 injection d' with d1 _
 have : its = its' := by simpa using congrArg Array.toList d1
 subst this
 exact r.inj r'
end
noncomputable abbrev Cx.wish (X : Cx) (E : Value → Shared → Prop) : Cx := { X with xe := E }
noncomputable abbrev Cx.nox (X : Cx) : Cx := X.wish fun _ _ => False
theorem Cx.Ok.wish {X : Cx} (ok : X.Ok) (E : Value → Shared → Prop) : (X.wish E).Ok :=
 ⟨ok.mod, ok.kind, ok.glob, ok.blt, ok.above, ok.inj, ok.has, ok.cab, ok.hd, ok.frames, ok.stk, ok.exf, ok.bs, ok.bsz, ok.noex, ok.exfs, ok.funs, ok.frf⟩
theorem Cx.Ok.unwish {X : Cx} {E : Value → Shared → Prop} (ok : (X.wish E).Ok) : X.Ok :=
 ⟨ok.mod, ok.kind, ok.glob, ok.blt, ok.above, ok.inj, ok.has, ok.cab, ok.hd, ok.frames, ok.stk, ok.exf, ok.bs, ok.bsz, ok.noex, ok.exfs, ok.funs, ok.frf⟩
section
variable {X : Cx} {pins : List (Addr × Obj)} {σ : St} {H : Hp} {s : Shared} {E : Value → Shared → Prop}
theorem Inv.wish (I : Inv X pins σ H s) (E : Value → Shared → Prop) : Inv (X.wish E) pins σ H s := ⟨I.ok.wish E, I.os, I.bare, I.base, I.loc, I.cell, I.free, I.freeC, I.pin, I.hok, I.len⟩
theorem Inv.unwish (I : Inv (X.wish E) pins σ H s) : Inv X pins σ H s := ⟨I.ok.unwish, I.os, I.bare, I.base, I.loc, I.cell, I.free, I.freeC, I.pin, I.hok, I.len⟩
theorem SP.unwish {D : Ends} {f : Flow} {s' : Shared} (h : SP (X.wish E) pins D f s') : SP X pins D f s' := by
 cases f with
 | next => obtain ⟨σ', H', I, q⟩ := h; exact ⟨σ', H', I.unwish, q⟩
 | brk => obtain ⟨σ', H', I, q⟩ := h; exact ⟨σ', H', I.unwish, q⟩
 | cont => obtain ⟨σ', H', I, q⟩ := h; exact ⟨σ', H', I.unwish, q⟩
 | ret u => obtain ⟨v, σ', H', I, r, q⟩ := h; exact ⟨v, σ', H', I.unwish, r, q⟩
theorem PSs.nox {st : List Stmt} {t : TS} (h : PSs X.nox st t) : PSs X st t := fun pins s σ H D I hw =>
 wpAny_mono (h pins s σ H D (I.wish _) hw) (fun _ _ q => q.unwish) fun _ _ z => False.elim z
end
section
variable {X : Cx} {st : Stmt} {rest : List Stmt} {t u : TS} {e : Expr} {te : TE} {pos : Pos}
noncomputable def tNext : TS := fun D σ H => D.nx σ H
noncomputable def tSeq (t u : TS) : TS := fun D σ H => t { D with nx := u D } σ H
theorem pss_nil : PSs X [] tNext := fun _ _ σ H _ I h => wpAny_execs_nil ⟨σ, H, I, h⟩
theorem pss_cons (h1 : PS X st t) (h2 : PSs X rest u) : PSs X (st :: rest) (tSeq t u) := by
 intro pins s σ H D I h
 refine wpAny_execs_cons (thn (h1 pins s σ H { D with nx := u D } I h) fun f s1 q => ?_)
 cases f with
 | next =>
  obtain ⟨σ', H', I', q⟩ := q
  exact h2 pins s1 σ' H' D I' q
 | ret v => exact q
 | brk => exact q
 | cont => exact q
theorem pss_one (h1 : PS X st t) : PSs X [st] t := by
 intro pins s σ H D I h
 refine wpAny_execs_cons (thn (h1 pins s σ H D I h) fun f s1 q => ?_)
 cases f with
 | next => exact wpAny_execs_nil q
 | ret v => exact q
 | brk => exact q
 | cont => exact q
noncomputable def tBreak : TS := fun D σ H => D.bk σ H
noncomputable def tCont : TS := fun D σ H => D.ct σ H
theorem Inv.quiet {pins : List (Addr × Obj)} {σ : St} {H : Hp} {s : Shared} (I : Inv X pins σ H s) : interactive X.env = false := by simp [interactive, I.ok.kind]
noncomputable def tDrop (te : TE) : TS := fun D σ H => te σ H fun _ H1 => D.nx σ H1
theorem ps_expr (he : PE X e te) (hs : autoParam (swapsWith e none pos.line X.env = pure false) L2.aRfl._auto_1) : PS X (.Expr e pos) (tDrop te) := by
 intro pins s σ H D I h
 exact wpAny_Expr_any (thn (he pins s σ H _ I h) fun v s1 ⟨x, H1, I1, r1, q1⟩ => ⟨σ, H1, I1, q1⟩) I.quiet hs
noncomputable def tRet (te : TE) : TS := fun D σ H => te σ H D.rt
theorem ps_ret (he : PE X e te) : PS X (.Return (some e) pos) (tRet te) := by
 intro pins s σ H D I h
 exact wpAny_Return_some (thn (he pins s σ H _ I h) fun v s1 ⟨x, H1, I1, r1, q1⟩ => ⟨x, σ, H1, I1, r1, q1⟩)
noncomputable def tRetN : TS := fun D _ H => D.rt .non H
noncomputable def tIfS (c : TT) (t u : TS) : TS := fun D σ H => c σ H fun b H1 => if b = true then t D σ H1 else u D σ H1
theorem ps_if {c : Expr} {a b : List Stmt} {tc : TT} (hc : PT X c tc) (ha : PSs X a t) (hb : PSs X b u) : PS X (.If c a b pos) (tIfS tc t u) := by
 intro pins s σ H D I h
 refine wpAny_If (thn (hc pins s σ H _ I h) fun d s1 ⟨H1, I1, q1⟩ => ?_)
 cases d with
 | true => exact ha pins s1 σ H1 D I1 q1
 | false => exact hb pins s1 σ H1 D I1 q1
end
noncomputable abbrev TG := V → St → Hp → (St → Hp → Prop) → Prop
noncomputable abbrev TGs := List V → St → Hp → (St → Hp → Prop) → Prop
noncomputable def PG (X : Cx) (target : Expr) (t : TG) : Prop :=
 ∀ (pins : List (Addr × Obj)) (s : Shared) (σ : St) (H : Hp) (v : V) (u : Value) (Q : St → Hp → Prop), Inv X pins σ H s → RelV v u → t v σ H Q →
  wpAny (model X.prog X.w) X.A (assign target X.env u) (fun _ s' => ∃ σ' H', Inv X pins σ' H' s' ∧ Q σ' H') X.xe s
noncomputable def PGs (X : Cx) (ts : List Expr) (t : TGs) : Prop :=
 ∀ (pins : List (Addr × Obj)) (s : Shared) (σ : St) (H : Hp) (vs : List V) (us : List Value) (Q : St → Hp → Prop), Inv X pins σ H s → Vals vs us → t vs σ H Q →
  wpAny (model X.prog X.w) X.A (assignInOrder ((assignEach ts X.env).map (·.2)) us) (fun _ s' => ∃ σ' H', Inv X pins σ' H' s' ∧ Q σ' H') X.xe s
noncomputable abbrev TSet := V → V → V → Hp → (Hp → Prop) → Prop
noncomputable def PSet (X : Cx) (t : TSet) : Prop :=
 ∀ (pins : List (Addr × Obj)) (s : Shared) (σ : St) (H : Hp) (o i v : V) (ov iv u : Value) (Q : Hp → Prop), Inv X pins σ H s → RelV o ov → RelV i iv → RelV v u → t o i v H Q →
  wpAny (model X.prog X.w) X.A (setItem ov iv u) (fun _ s' => ∃ H', Inv X pins σ H' s' ∧ Q H') X.xe s
section
variable {X : Cx} {pos : Pos}
noncomputable def gName (i : Nat) : TG := fun v σ H Q => Q (σ.set i (some v)) H
theorem pg_name {i : Nat} {x : Str} (hN : X.N.Nodup) (hi : X.N[i]? = some x) (hx : Loc X.env.scope x) (hf : autoParam (X.fn x = true ∨ X.env.scope.names.lookup x = some .local) L2.aLoc._auto_1) : PG X (.Name x pos) (gName i) := by
 intro pins s σ H v u Q I r h
 exact wpAny_assign_Name (store_ok I hN hi hx r (fun s' I' => ⟨_, H, I', h⟩) hf)
noncomputable def gNil : TGs := fun vs σ H Q => vs = [] ∧ Q σ H
noncomputable def gCons (t : TG) (u : TGs) : TGs := fun vs σ H Q => ∃ v r, vs = v :: r ∧ t v σ H fun σ' H' => u r σ' H' Q
theorem pgs_nil : PGs X [] gNil := by
 intro pins s σ H vs us Q I r h
 obtain ⟨e, h⟩ := h
 subst e
 cases r
 exact assignInOrder_nil ⟨σ, H, I, h⟩
theorem pgs_cons {e : Expr} {es : List Expr} {t : TG} {u : TGs} (h1 : PG X e t) (h2 : PGs X es u)
  (hs : autoParam ((assignEach (e :: es) X.env).map (·.2) = assign e X.env :: (assignEach es X.env).map (·.2)) L2.aRfl._auto_1) : PGs X (e :: es) (gCons t u) := by
 intro pins s σ H vs us Q I r h
 obtain ⟨v, vr, e1, h⟩ := h
 subst e1
 cases r with
 | cons r rr =>
  rw [hs]
  refine assignInOrder_cons (thn (h1 pins s σ H _ _ _ I r h) fun _ s1 ⟨σ1, H1, I1, q1⟩ => ?_)
  exact h2 pins s1 σ1 H1 _ _ Q I1 rr q1
noncomputable def gTup (K : PySem.W.Frag) (n : Nat) (t : TGs) : TG := fun v σ H Q => ∃ a xs, v = .ref a ∧ SqT K H a xs ∧ xs.length = n ∧ t xs σ H Q
theorem pg_tup {es : List Expr} {k : Nat} {t : TGs} {n : Nat} (hc : X.calm = true) (h : PGs X es t)
  (hn : autoParam ((assignEach es X.env).length = n) L2.aRfl._auto_1) (hst : autoParam ((assignEach es X.env).findIdx? (·.1) = none) L2.aRfl._auto_1) : PG X (.Tuple es k pos) (gTup X.K n t) := by
 intro pins s σ H v u Q I r hw
 obtain ⟨a, xs, e1, hq, hl, hw⟩ := hw
 subst e1
 cases r
 obtain ⟨its, rv, ht, hz⟩ := I.tuple hq
 refine assign_Tuple_tuple (I.ok.hd hc) ht (by simp [hn, ← hl, rv.length]) hst fun h' hx => ?_
 have I1 : Inv X pins σ H { s with heap := h' } := I.kept (t' := s.toks) fun b o e => hx b o (Nat.ne_of_lt (Heap.lt_size e)) e
 exact h pins _ σ H xs _ Q I1 (by simpa using rv) hw
noncomputable def gSub (to ti : TE) (t : TSet) : TG := fun v σ H Q => to σ H fun o H1 => ti σ H1 fun i H2 => t o i v H2 fun H3 => Q σ H3
theorem pg_sub {o i : Expr} {to ti : TE} {t : TSet} (ho : PE X o to) (hi : PE X i ti) (hs : PSet X t)
  (ha : ∀ v, assign (.Subscript o i pos) X.env v = (do
   let ov ← holding [v] (eval o X.env)
   let iv ← holding [v, ov] (eval i X.env)
   standAt pos
   holding [v, ov, iv] (setItem ov iv v)
   release [v, ov, iv] []) := by intro _; rfl) : PG X (.Subscript o i pos) (gSub to ti t) := by
 intro pins s σ H v u Q I r h
 rw [ha]
 refine wpAny_bind (wpAny_holding (thn (ho pins s σ H _ I h) fun ov s1 ⟨x, H1, I1, r1, q1⟩ => ?_))
 refine wpAny_bind (wpAny_holding (thn (hi pins s1 σ H1 _ I1 q1) fun iv s2 ⟨y, H2, I2, r2, q2⟩ => ?_))
 refine wpAny_bind (wpAny_standAt (wpAny_bind (wpAny_holding (thn (hs pins s2 σ H2 x y v ov iv u _ I2 r1 r2 r q2) fun _ s3 ⟨H3, I3, q3⟩ => ?_))))
 exact wpAny_release ⟨σ, H3, I3, q3⟩
noncomputable def tAsg (te : TE) (g : TG) : TS := fun D σ H => te σ H fun x H1 => g x σ H1 D.nx
theorem ps_asg {tg e : Expr} {te : TE} {g : TG} (he : PE X e te) (hg : PG X tg g) (hs : autoParam (swapsWithSole [tg] e pos.line X.env = pure false) L2.aRfl._auto_1) (hw : autoParam (swappedStores [tg] e X.env = pure none) L2.aRfl._auto_1)
  (h1 : autoParam ((assignEach [tg] X.env).map (·.2) = [assign tg X.env]) L2.aRfl._auto_1) : PS X (.Assign [tg] e pos) (tAsg te g) := by
 intro pins s σ H D I h
 refine wpAny_Assign_stores (thn (he pins s σ H _ I h) fun v s1 ⟨x, H1, I1, r1, q1⟩ => ?_) hs hw
 rw [h1]
 exact thn (hg pins s1 σ H1 x v _ I1 r1 q1) fun _ s2 q => q
theorem ps_set {i : Nat} {x : Str} {e : Expr} {te : TE} {pos' : Pos} (hN : X.N.Nodup) (hi : X.N[i]? = some x) (hx : Loc X.env.scope x) (he : PE X e te) (hs : autoParam (swapsWith e (some (.Name x pos')) pos.line X.env = pure false) L2.aRfl._auto_1) (hf : autoParam (X.fn x = true ∨ X.env.scope.names.lookup x = some .local) L2.aLoc._auto_1) :
  PS X (.Assign [.Name x pos'] e pos) (tAsg te (gName i)) := by
 intro pins s σ H D I h
 refine wpAny_Assign_Name (thn (he pins s σ H _ I h) fun v s1 ⟨y, H1, I1, r1, q1⟩ => ?_) hs
 exact store_ok I1 hN hi hx r1 (fun s2 I2 => ⟨_, H1, I2, q1⟩) hf
end
section
variable {X : Cx} {pos : Pos}
noncomputable def tWhile (c : TT) (tb : TS) : TS := fun D σ H => ∃ W : Nat → St → Hp → Prop, (∃ m, W m σ H) ∧ ∀ m σ H, W m σ H →
 c σ H fun b H1 => if b = true then ∃ N : St → Hp → Prop, (∀ σ' H', N σ' H' → ∃ m', m' < m ∧ W m' σ' H') ∧ tb { D with nx := N, ct := N, bk := D.nx } σ H1 else D.nx σ H1
theorem ps_while {c : Expr} {body : List Stmt} {tc : TT} {tb : TS} (hp : PassesOwn (model X.prog X.w) X.A X.env X.xe) (hc : PT X c tc) (hb : PSs X body tb) : PS X (.While c body [] pos) (tWhile tc tb) := by
 intro pins s σ H D I h
 obtain ⟨W, ⟨m0, w0⟩, turn⟩ := h
 refine wpAny_While (codeAny_whileLoop (fun n s' => ∃ σ' H', Inv X pins σ' H' s' ∧ W n σ' H') ?_ m0 ⟨σ, H, I, w0⟩)
 rintro n s1 ⟨σ1, H1, I1, w1⟩
 refine wpAny_passesOwn hp (thn (hc pins s1 σ1 H1 _ I1 (turn n σ1 H1 w1)) fun b s2 ⟨H2, I2, q2⟩ => ?_)
 cases b with
 | true =>
  obtain ⟨N, hN, q2⟩ := q2
  rw [if_pos rfl]
  refine wpAny_passesOwn hp (thn (hb pins s2 σ1 H2 _ I2 q2) fun f s3 q3 => ?_)
  cases f with
  | next =>
   obtain ⟨σ3, H3, I3, n3⟩ := q3
   obtain ⟨m', hm, w3⟩ := hN σ3 H3 n3
   exact ⟨m', hm, σ3, H3, I3, w3⟩
  | cont =>
   obtain ⟨σ3, H3, I3, n3⟩ := q3
   obtain ⟨m', hm, w3⟩ := hN σ3 H3 n3
   exact ⟨m', hm, σ3, H3, I3, w3⟩
  | brk => exact q3
  | ret v => exact q3
 | false =>
  rw [if_neg Bool.false_ne_true]
  exact wpAny_execs_nil ⟨σ1, H2, I2, q2⟩
end
structure It where
 go : Nat → Hp → Prop
 yld : Nat → Hp → V → Hp → Prop
 stop : Nat → Hp → Prop
noncomputable def FpOk (X : Cx) (pins : List (Addr × Obj)) (H : Hp) (b : Addr) : Prop :=
 H b = none ∧ b ≠ X.env.locals ∧ b ∉ X.fs ∧ (b ∈ X.ex ∨ X.s₀.heap.objs.size ≤ b) ∧ (∀ x c, X.env.cells.lookup x = some c → c ≠ b) ∧ ∀ p ∈ X.pn ++ pins, p.1 ≠ b
theorem Inv.fpOk {X : Cx} {pins : List (Addr × Obj)} {σ : St} {H H' : Hp} {s : Shared} {b : Addr} (I : Inv X pins σ H s) (hb : s.heap.objs.size ≤ b) (hn : H' b = none) : FpOk X pins H' b := by
 refine ⟨hn, Nat.ne_of_gt (Nat.lt_of_lt_of_le I.lt hb), I.nofs hb, .inr (Nat.le_trans I.sz hb), fun x c e z => ?_, fun p hp z => ?_⟩
 ·obtain ⟨v, q⟩ := I.cell x c e
  exact absurd (Nat.lt_of_lt_of_le q.lt (by rw [z]; exact hb)) (Nat.lt_irrefl _)
 ·exact absurd (Nat.lt_of_lt_of_le (Heap.lt_size (I.pin p hp).1) (by rw [z]; exact hb)) (Nat.lt_irrefl _)
structure Turn (P : Program) (w : World) (K : PySem.W.Frag) (tg : Expr) (J : It) (fp : List Addr) (it : Addr) (tn : Nat → Heap → Prop) : Prop where
 mem : it ∈ fp
 obj : ∀ i h, tn i h → ∀ b ∈ fp, ∃ o, h.get? b = some o ∧ ∀ v, o.data ≠ .cell v
 keep : ∀ i h h', tn i h → (∀ b ∈ fp, ∀ o, h.get? b = some o → h'.get? b = some o) → tn i h'
 item : ∀ (X : Cx), X.prog = P → X.w = w → X.K = K → X.calm = true → ∀ (i : Nat) (pins : List (Addr × Obj)) (s : Shared) (σ : St) (H : Hp) (E : Value → Shared → Prop), Inv X pins σ H s → (∀ b ∈ fp, FpOk X pins H b) → tn i s.heap → J.go i H →
  wpAny (model P w) X.A (pyNext (.ref it)) (fun r s1 => ∃ u, r = some u ∧
   wpAny (model P w) X.A (letOwnedTupleGo tg (.ref it) u) (fun _ s2 => ∃ x H', Inv X pins σ H' s2 ∧ RelV x u ∧ J.yld i H x H' ∧ tn (i + 1) s2.heap ∧ ∀ b ∈ fp, H' b = none) E s1) E s
 done : ∀ (X : Cx), X.prog = P → X.w = w → X.K = K → X.calm = true → ∀ (i : Nat) (pins : List (Addr × Obj)) (s : Shared) (σ : St) (H : Hp) (E : Value → Shared → Prop), Inv X pins σ H s → (∀ b ∈ fp, FpOk X pins H b) → tn i s.heap → J.stop i H →
  wpAny (model P w) X.A (pyNext (.ref it)) (fun r s1 => r = none ∧ Inv X pins σ H s1) E s
 self : ∀ (A : Around) (i : Nat) (s : Shared) (Q : Value → Shared → Prop) (E : Value → Shared → Prop), tn i s.heap → Q (.ref it) s → wpAny (model P w) A (pyIter (.ref it)) Q E s
noncomputable abbrev TI := St → Hp → (It → Hp → Prop) → Prop
noncomputable def PIE (X : Cx) (pins : List (Addr × Obj)) (σ : St) (tg : Expr) (R : It → Hp → Prop) (itv : Value) (s2 : Shared) : Prop :=
 ∃ (it : Addr) (fp : List Addr) (tn : Nat → Heap → Prop) (J : It) (H' : Hp), itv = .ref it ∧ Inv X pins σ H' s2 ∧ Turn X.prog X.w X.K tg J fp it tn ∧ tn 0 s2.heap ∧ (∀ b ∈ fp, FpOk X pins H' b) ∧ R J H'
noncomputable def PI (X : Cx) (tg iter : Expr) (wi : TI) : Prop :=
 ∀ (pins : List (Addr × Obj)) (s : Shared) (σ : St) (H : Hp) (R : It → Hp → Prop), Inv X pins σ H s → wi σ H R →
  wpAny (model X.prog X.w) X.A (eval iter X.env) (fun v s1 => wpAny (model X.prog X.w) X.A (pyIter v) (PIE X pins σ tg R) X.xe s1) X.xe s
theorem go_of {M : Model} {A : Around} {E : Value → Shared → Prop} {s : Shared} {tg : Expr} {it : Addr} {u : Value} {o : Obj} {n : String} {vs : Array Value} {Q : Unit → Shared → Prop} (ho : s.heap.get? it = some o) (hc : o.cls = .type n) (hd : o.data = .fields vs)
    (hn : ["enumerate", "zip", "dict_itemiterator", "dict_reverseitemiterator", "odict_iterator", "itertools.zip_longest", "itertools.pairwise"].contains n = false) (hQ : Q () s) : wpAny M A (letOwnedTupleGo tg (.ref it) u) Q E s := by
  unfold letOwnedTupleGo
  cases tg <;> first
    | exact wpAny_pure hQ
    | (cases u <;> first
        | exact wpAny_pure hQ
        | (refine wpAny_bind (wpAny_load ho ?_)
           rw [hc, hd]
           show wpAny M A (if (["enumerate", "zip", "dict_itemiterator", "dict_reverseitemiterator", "odict_iterator", "itertools.zip_longest", "itertools.pairwise"].contains n && vs[0]? == some (rawInt _)) = true then _ else _) Q E s
           rw [if_neg (by intro h; rw [hn, Bool.false_and] at h; cases h)]
           exact wpAny_pure hQ))
noncomputable def Itl (K : PySem.W.Frag) (a : Addr) : It :=
 ⟨fun i H => ∃ xs x, SqL K H a xs ∧ xs[i]? = some x, fun i H x H' => H' = H ∧ ∀ xs, SqL K H a xs → xs[i]? = some x, fun i H => ∃ xs, SqL K H a xs ∧ xs.length ≤ i⟩
noncomputable def Itt (K : PySem.W.Frag) (a : Addr) : It :=
 ⟨fun i H => ∃ xs x, SqT K H a xs ∧ xs[i]? = some x, fun i H x H' => H' = H ∧ ∀ xs, SqT K H a xs → xs[i]? = some x, fun i H => ∃ xs, SqT K H a xs ∧ xs.length ≤ i⟩
noncomputable def Itr (lo : Int) (n : Nat) : It := ⟨fun i _ => i < n, fun i H x H' => H' = H ∧ x = .int (lo + i), fun i _ => n ≤ i⟩
theorem turn_list {P : Program} {w : World} {K : PySem.W.Frag} {tg : Expr} (a it : Addr) : Turn P w K tg (Itl K a) [it] it (fun i h => h.IsListIter it a i) where
 mem := by simp
 obj := fun i h st b hb => by
  have e : b = it := by simpa using hb
  subst e
  obtain ⟨o, e, c, d⟩ := st
  exact ⟨o, e, fun v z => by rw [d] at z; cases z⟩
 keep := fun i h h' st k => st.at fun o e => k it (by simp) o e
 item := by
  intro X hP hw hK hc i pins s σ H E I hf st hg
  subst hP hw hK
  obtain ⟨xs, x, hq, hx⟩ := hg
  obtain ⟨its, rv, p, hz⟩ := I.list hq
  obtain ⟨u, hu, ru⟩ := rv.get hx
  obtain ⟨f0, f1, f2, f3, f4, f5⟩ := hf it (by simp)
  refine wpAny_pyNext_list_item st p.isList (x := u) (by simpa using hu) fun h' st' sb => ?_
  have I1 : Inv X pins σ H { s with heap := h' } := I.turned (t' := s.toks) (fun b o hb e => (sb.2 b hb).trans e) f0 f1 f3 f4 f5
  obtain ⟨o, e, c, d⟩ := id st'
  exact ⟨u, rfl, go_of (s := { s with heap := h' }) e c d (by decide) ⟨x, H, I1, ru, ⟨rfl, fun ys hy => by rw [I.list_inj hy hq]; exact hx⟩, st', fun b hb => (hf b hb).1⟩⟩
 done := by
  intro X hP hw hK hc i pins s σ H E I hf st hg
  subst hP hw hK
  obtain ⟨xs, hq, hx⟩ := hg
  obtain ⟨its, rv, p, hz⟩ := I.list hq
  obtain ⟨f0, f1, f2, f3, f4, f5⟩ := hf it (by simp)
  have hl := rv.length
  exact wpAny_pyNext_list_end (I.ok.hd hc) st p.isList (by simp; omega) fun h' eb => ⟨rfl, I.turned (t' := s.toks) (fun b o hb e => eb b o hb e) f0 f1 f3 f4 f5⟩
 self := fun _ _ _ _ _ st h => wpAny_pyIter_listiter st h
theorem turn_tuple {P : Program} {w : World} {K : PySem.W.Frag} {tg : Expr} (a it : Addr) : Turn P w K tg (Itt K a) [it] it (fun i h => h.IsTupleIter it a i) where
 mem := by simp
 obj := fun i h st b hb => by
  have e : b = it := by simpa using hb
  subst e
  obtain ⟨o, e, c, d⟩ := st
  exact ⟨o, e, fun v z => by rw [d] at z; cases z⟩
 keep := fun i h h' st k => st.at fun o e => k it (by simp) o e
 item := by
  intro X hP hw hK hc i pins s σ H E I hf st hg
  subst hP hw hK
  obtain ⟨xs, x, hq, hx⟩ := hg
  obtain ⟨its, rv, p, hz⟩ := I.tuple hq
  obtain ⟨u, hu, ru⟩ := rv.get hx
  obtain ⟨f0, f1, f2, f3, f4, f5⟩ := hf it (by simp)
  refine wpAny_pyNext_tuple_item st (show s.heap.IsTuple a its.toArray from p) (x := u) (by simpa using hu) fun h' st' sb => ?_
  have I1 : Inv X pins σ H { s with heap := h' } := I.turned (t' := s.toks) (fun b o hb e => (sb.2 b hb).trans e) f0 f1 f3 f4 f5
  obtain ⟨o, e, c, d⟩ := id st'
  exact ⟨u, rfl, go_of (s := { s with heap := h' }) e c d (by decide) ⟨x, H, I1, ru, ⟨rfl, fun ys hy => by rw [I.tuple_inj hy hq]; exact hx⟩, st', fun b hb => (hf b hb).1⟩⟩
 done := by
  intro X hP hw hK hc i pins s σ H E I hf st hg
  subst hP hw hK
  obtain ⟨xs, hq, hx⟩ := hg
  obtain ⟨its, rv, p, hz⟩ := I.tuple hq
  obtain ⟨f0, f1, f2, f3, f4, f5⟩ := hf it (by simp)
  have hl := rv.length
  exact wpAny_pyNext_tuple_end (I.ok.hd hc) st (show s.heap.IsTuple a its.toArray from p) (by simp; omega) fun h' eb => ⟨rfl, I.turned (t' := s.toks) (fun b o hb e => eb b o hb e) f0 f1 f3 f4 f5⟩
 self := fun _ _ _ _ _ st h => wpAny_pyIter_tupleiter st h
theorem turn_range {P : Program} {w : World} {K : PySem.W.Frag} {tg : Expr} (it : Addr) (lo : Int) (n : Nat) : Turn P w K tg (Itr lo n) [it] it (fun i h => IsRangeIter h it (lo + (i : Nat) * 1) ((n : Int) - (i : Nat)) 1) where
 mem := by simp
 obj := fun i h st b hb => by
  have e : b = it := by simpa using hb
  subst e
  exact ⟨_, st, fun v z => by
   have z' : Data.fields _ = Data.cell v := z
   cases z'⟩
 keep := fun i h h' st k => k it (by simp) _ st
 item := by
  intro X hP hw hK hc i pins s σ H E I hf st hg
  subst hP hw hK
  obtain ⟨f0, f1, f2, f3, f4, f5⟩ := hf it (by simp)
  have W := Walks.range (prog := X.prog) (w := X.w) (I.ok.hd hc) it lo 1 n
  refine W.item i s _ _ hg st fun v h' tk hv st' kk => ?_
  obtain ⟨t, rfl⟩ := hv
  have I1 : Inv X pins σ H { s with heap := h', toks := tk } := I.turned (fun b o hb e => kk b o (by simpa using hb) e) f0 f1 f3 f4 f5
  refine ⟨_, rfl, go_of (s := { s with heap := h', toks := tk }) (n := "range_iterator") st' rfl rfl (by decide) ⟨.int (lo + i), H, I1, ⟨t, ?_⟩, ⟨rfl, rfl⟩, st', fun b hb => (hf b hb).1⟩⟩
  rw [Int.mul_one]
 done := by
  intro X hP hw hK hc i pins s σ H E I hf st hg
  subst hP hw hK
  obtain ⟨f0, f1, f2, f3, f4, f5⟩ := hf it (by simp)
  exact wpAny_pyNext_range_end (I.ok.hd hc) st (by have : n ≤ i := hg; omega) fun h' eb => ⟨rfl, I.turned (t' := s.toks) (fun b o hb e => eb b o hb e) f0 f1 f3 f4 f5⟩
 self := fun _ _ _ _ _ st h => wpAny_pyIter_rangeiter st h
end L2
namespace L2
open PySem PySem.Spec PyProof.Rows
section
variable {X : Cx} {tg : Expr}
theorem range_it {pins : List (Addr × Obj)} {σ : St} {H : Hp} {s : Shared} {R : It → Hp → Prop} {E : Value → Shared → Prop} {lo hi : Int} {t u v : Tok} {tk : Nat} (I : Inv X pins σ H s) (h1 : -(2 ^ 62) ≤ lo) (h2 : lo < 2 ^ 62) (h3 : -(2 ^ 62) ≤ hi) (h4 : hi < 2 ^ 62)
  (q : R (Itr lo (hi - lo).toNat) H) : wpAny (model X.prog X.w) X.A (pyIter (.ref s.heap.objs.size)) (PIE X pins σ tg R) E { s with heap := s.heap.push { cls := .type "range", data := .fields #[.int lo t, .int hi u, .int 1 v] }, toks := tk } := by
 refine wpAny_pyIter_range (IsRange.new ..) (small_one h1 h2 h3 h4) ?_
 have I1 : Inv X pins σ H { s with heap := s.heap.push { cls := .type "range", data := .fields #[.int lo t, .int hi u, .int 1 v] }, toks := tk } := I.kept fun b o e => Heap.get?_push_of_some _ e
 refine ⟨(s.heap.push { cls := .type "range", data := .fields #[.int lo t, .int hi u, .int 1 v] }).objs.size, [(s.heap.push { cls := .type "range", data := .fields #[.int lo t, .int hi u, .int 1 v] }).objs.size], _, _, H, rfl,
  I1.kept (t' := tk) fun b o e => Heap.get?_push_of_some _ e, turn_range _ lo (hi - lo).toNat, ?_, fun b hb => ?_, q⟩
 ·have e1 : lo + ((0 : Nat) : Int) * 1 = lo := by simp
  have e2 : (((hi - lo).toNat : Nat) : Int) - ((0 : Nat) : Int) = Builtin.Range.rangeSize lo hi 1 := by rw [rangeSize_one]; split <;> omega
  show IsRangeIter _ _ (lo + ((0 : Nat) : Int) * 1) ((((hi - lo).toNat : Nat) : Int) - ((0 : Nat) : Int)) 1
  rw [e1, e2]
  exact Heap.get?_push_size _ rfl
 ·have e : b = (s.heap.push { cls := .type "range", data := .fields #[.int lo t, .int hi u, .int 1 v] }).objs.size := by simpa using hb
  subst e
  exact I1.fpOk (Nat.le_refl _) (I1.hok.fresh (Nat.le_refl _))
noncomputable def iRng1 (ta : TA) : TI := fun σ H R => ta σ H fun vs H1 => ∃ j : Int, vs = [.int j] ∧ -(2 ^ 62) ≤ j ∧ j < 2 ^ 62 ∧ R (Itr 0 j.toNat) H1
noncomputable def iRng2 (ta : TA) : TI := fun σ H R => ta σ H fun vs H1 => ∃ i j : Int, vs = [.int i, .int j] ∧ (-(2 ^ 62) ≤ i ∧ i < 2 ^ 62 ∧ -(2 ^ 62) ≤ j ∧ j < 2 ^ 62) ∧ R (Itr i (j - i).toNat) H1
theorem pi_range1 {a : Expr} {ta : TA} {p pos : Pos} (hg : Gl X "range") (hm : X.mg "range" = none) (ha : PA X [a] ta) (hs : autoParam (starEach [a] X.env = [(false, eval a X.env)]) L2.aRfl._auto_1) : PI X tg (.Call (.Name "range" p) [a] [] pos) (iRng1 ta) := by
 intro pins s σ H R I h
 refine Call_ (ld_blt I hg hm boot_range (PyProof.Rows.callWith_type1 (thn (ha pos pins s σ H _ I h) fun us s1 ⟨vs, H1, I1, r1, q1⟩ => ?_) hs rfl))
 obtain ⟨j, e, q1, q2, q⟩ := q1
 subst e
 cases r1 with
 | cons r rr =>
  cases rr
  obtain ⟨t, rfl⟩ := r
  exact call_range_1 (range_it I1 (by omega) (by omega) q1 q2 (by simpa using q))
noncomputable def tFor (wi : TI) (g : TG) (tb : TS) : TS := fun D σ H => wi σ H fun J H1 => ∃ W : Nat → Nat → St → Hp → Prop, (∃ m, W 0 m σ H1) ∧ ∀ i m σ H, W i m σ H →
 (J.stop i H ∧ D.nx σ H) ∨ (J.go i H ∧ ∃ N : St → Hp → Prop, (∀ σ' H', N σ' H' → ∃ m', m' < m ∧ W (i + 1) m' σ' H') ∧ ∀ x H', J.yld i H x H' → g x σ H' fun σ2 H2 => tb { D with nx := N, ct := N, bk := D.nx } σ2 H2)
noncomputable def pinsAt (fp : List Addr) (h : Heap) : List (Addr × Obj) := fp.filterMap fun b => (h.get? b).map fun o => (b, o)
theorem mem_pinsAt {fp : List Addr} {h : Heap} {b : Addr} {o : Obj} (hb : b ∈ fp) (e : h.get? b = some o) : (b, o) ∈ pinsAt fp h := List.mem_filterMap.mpr ⟨b, hb, by rw [e]; rfl⟩
theorem of_pinsAt {fp : List Addr} {h : Heap} {p : Addr × Obj} (hp : p ∈ pinsAt fp h) : p.1 ∈ fp ∧ h.get? p.1 = some p.2 := by
 obtain ⟨b, hb, e⟩ := List.mem_filterMap.mp hp
 cases q : h.get? b with
 | none => rw [q] at e; cases e
 | some o =>
  rw [q] at e
  have e' : (b, o) = p := Option.some.inj e
  subst e'
  exact ⟨hb, q⟩
theorem Inv.pinned {pins : List (Addr × Obj)} {σ : St} {H : Hp} {s : Shared} {fp : List Addr} (I : Inv X pins σ H s) (hf : ∀ b ∈ fp, FpOk X pins H b) (ho : ∀ b ∈ fp, ∃ o, s.heap.get? b = some o ∧ ∀ v, o.data ≠ .cell v) : Inv X (pins ++ pinsAt fp s.heap) σ H s :=
 I.pins_of fun p hp => (List.mem_append.mp hp).elim (fun z => I.pin p (List.mem_append_right _ z)) fun z => by
  obtain ⟨hb, e⟩ := of_pinsAt z
  obtain ⟨f0, f1, f2, _⟩ := hf p.1 hb
  obtain ⟨o, e', d⟩ := ho p.1 hb
  rw [e] at e'; cases e'
  exact ⟨e, f0, f1, f2, d⟩
theorem Inv.unpinned {pins pl : List (Addr × Obj)} {σ : St} {H : Hp} {s : Shared} (I : Inv X (pins ++ pl) σ H s) : Inv X pins σ H s := I.pins_of fun p hp => I.pin p (List.mem_append_right _ (List.mem_append_left _ hp))
theorem ps_for {iter : Expr} {body : List Stmt} {wi : TI} {g : TG} {tb : TS} {pos : Pos} (hp : PassesOwn (model X.prog X.w) X.A X.env X.xe) (hc : X.calm = true) (hi : PI X tg iter wi) (hg : PG X tg g) (hb : PSs X body tb)
  (hs : ∀ x, foldedSetIterable iter X.env x = pure x := by intro _; rfl) : PS X (.For tg iter body [] pos) (tFor wi g tb) := by
 intro pins s σ H D I h
 refine wpAny_For (thn (hi pins s σ H _ I h) fun v s1 h1 => thn h1 fun itv s2 h2 => ?_) hs
 obtain ⟨it, fp, tn, J, H2, e, I2, T, st2, f2, W, ⟨m0, w0⟩, turn⟩ := h2
 subst e
 have stat : ∀ {H' : Hp}, (∀ b ∈ fp, H' b = none) → ∀ b ∈ fp, FpOk X pins H' b := fun hn b hb => ⟨hn b hb, (f2 b hb).2⟩
 refine codeAny_forLoop_any (fun n s' => ∃ i σ' H', Inv X pins σ' H' s' ∧ tn i s'.heap ∧ (∀ b ∈ fp, H' b = none) ∧ W i n σ' H') ?_ m0 ⟨0, σ, H2, I2, st2, fun b hb => (f2 b hb).1, w0⟩
 rintro n s3 ⟨i, σ3, H3, I3, st3, fr3, w3⟩
 rcases turn i n σ3 H3 w3 with ⟨stop, qn⟩ | ⟨go, N, hN, step⟩
 ·refine wpAny_passesOwn hp (thn (T.done X rfl rfl rfl hc i pins s3 σ3 H3 X.xe I3 (stat fr3) st3 stop) fun r s4 ⟨hr, I4⟩ => ?_)
  subst hr
  exact wpAny_execs_nil ⟨σ3, H3, I4, qn⟩
 ·refine wpAny_passesOwn hp (thn (T.item X rfl rfl rfl hc i pins s3 σ3 H3 X.xe I3 (stat fr3) st3 go) fun r s4 ⟨u, hr, h4⟩ => ?_)
  subst hr
  refine wpAny_passesOwn hp (thn h4 fun _ s5 ⟨x, H5, I5, r5, y5, st5, fr5⟩ => ?_)
  have I5' := I5.pinned (stat fr5) (T.obj _ _ st5)
  refine wpAny_passesOwn hp (thn (hg _ s5 σ3 H5 x u _ I5' r5 (step x H5 y5)) fun _ s6 ⟨σ6, H6, I6, q6⟩ => ?_)
  refine wpAny_passesOwn hp (thn (hb _ s6 σ6 H6 _ I6 q6) fun f s7 q7 => ?_)
  have again : ∀ {σ7 : St} {H7 : Hp}, Inv X (pins ++ pinsAt fp s5.heap) σ7 H7 s7 → N σ7 H7 → ∃ m, m < n ∧ ∃ i σ' H', Inv X pins σ' H' s7 ∧ tn i s7.heap ∧ (∀ b ∈ fp, H' b = none) ∧ W i m σ' H' := fun {σ7 H7} I7 n7 => by
   obtain ⟨m', hm, w7⟩ := hN σ7 H7 n7
   refine ⟨m', hm, i + 1, σ7, H7, I7.unpinned, T.keep _ _ _ st5 fun b hb o e => (I7.pin (b, o) (List.mem_append_right _ (List.mem_append_right _ (mem_pinsAt hb e)))).1, fun b hb => ?_, w7⟩
   obtain ⟨o, e, d⟩ := T.obj _ _ st5 b hb
   exact (I7.pin (b, o) (List.mem_append_right _ (List.mem_append_right _ (mem_pinsAt hb e)))).2.1
  cases f with
  | next => obtain ⟨σ7, H7, I7, n7⟩ := q7; exact again I7 n7
  | cont => obtain ⟨σ7, H7, I7, n7⟩ := q7; exact again I7 n7
  | brk => obtain ⟨σ7, H7, I7, q7⟩ := q7; exact ⟨σ7, H7, I7.unpinned, q7⟩
  | ret v => obtain ⟨x7, σ7, H7, I7, r7, q7⟩ := q7; exact ⟨x7, σ7, H7, I7.unpinned, r7, q7⟩
end
end L2
namespace L2
open PySem PySem.Spec PyProof.Rows
noncomputable abbrev R2 := V → V → Hp → VK → Prop
noncomputable def OpR (X : Cx) (f : Value → Value → Sem Value) (r : R2) : Prop :=
 ∀ (pins : List (Addr × Obj)) (s : Shared) (σ : St) (H : Hp) (x y : V) (v u : Value) (Q : VK), Inv X pins σ H s → RelV x v → RelV y u → r x y H Q →
  wpAny (model X.prog X.w) X.A (f v u) (EP X pins σ Q) X.xe s
noncomputable def UnR (X : Cx) (f : Value → Sem Value) (r : V → Hp → VK → Prop) : Prop :=
 ∀ (pins : List (Addr × Obj)) (s : Shared) (σ : St) (H : Hp) (x : V) (v : Value) (Q : VK), Inv X pins σ H s → RelV x v → r x H Q →
  wpAny (model X.prog X.w) X.A (f v) (EP X pins σ Q) X.xe s
noncomputable def CallR (X : Cx) (f : Value) (r : List V → Hp → VK → Prop) : Prop :=
 ∀ (pins : List (Addr × Obj)) (s : Shared) (σ : St) (H : Hp) (xs : List V) (us : List Value) (Q : VK), Inv X pins σ H s → Vals xs us → r xs H Q →
  wpAny (model X.prog X.w) X.A (call f us) (EP X pins σ Q) X.xe s
noncomputable def TruR (X : Cx) (r : V → Hp → (Bool → Hp → Prop) → Prop) : Prop :=
 ∀ (pins : List (Addr × Obj)) (s : Shared) (σ : St) (H : Hp) (x : V) (v : Value) (Q : Bool → Hp → Prop), Inv X pins σ H s → RelV x v → r x H Q →
  wpAny (model X.prog X.w) X.A (truthy v) (TP X pins σ Q) X.xe s
noncomputable def tOp (r : R2) (ta tb : TE) : TE := fun σ H Q => ta σ H fun x H1 => tb σ H1 fun y H2 => r x y H2 Q
noncomputable def tUn (r : V → Hp → VK → Prop) (ta : TE) : TE := fun σ H Q => ta σ H fun x H1 => r x H1 Q
noncomputable def rI (C : Int → Int → Prop) (g : Int → Int → V) : R2 := fun x y H Q => ∃ i j, x = .int i ∧ y = .int j ∧ C i j ∧ Q (g i j) H
noncomputable def rI0 (g : Int → Int → V) : R2 := fun x y H Q => ∃ i j, x = .int i ∧ y = .int j ∧ Q (g i j) H
noncomputable def rU (g : Int → V) : V → Hp → VK → Prop := fun x H Q => ∃ i, x = .int i ∧ Q (g i) H
section
variable {X : Cx} {a b c : Expr} {ta tb tc : TE} {pos : Pos}
theorem binT (ha : PE X a ta) (hb : PE X b tb) {pins : List (Addr × Obj)} {s : Shared} {σ : St} {H : Hp} {R : V → V → Hp → Prop} (I : Inv X pins σ H s)
  (h : ta σ H fun x H1 => tb σ H1 fun y H2 => R x y H2) {Q : Value → Shared → Prop} {f : Value → Value → Sem Value}
  (hf : ∀ v u s2 x y H2, Inv X pins σ H2 s2 → RelV x v → RelV y u → R x y H2 → wpAny (model X.prog X.w) X.A (f v u) Q X.xe s2) :
  wpAny (model X.prog X.w) X.A (eval a X.env) (fun v s₁ => wpAny (model X.prog X.w) X.A (eval b X.env) (fun u s₂ => wpAny (model X.prog X.w) X.A (f v u) Q X.xe s₂) X.xe s₁) X.xe s := by
 refine thn (ha pins s σ H _ I h) fun v s1 ⟨x, H1, I1, r1, q1⟩ => ?_
 refine thn (hb pins s1 σ H1 _ I1 q1) fun u s2 ⟨y, H2, I2, r2, q2⟩ => ?_
 exact hf v u s2 x y H2 I2 r1 r2 q2
theorem pe_op {op : Operator} {r : R2} (ho : OpR X (binaryOp op) r) (ha : PE X a ta) (hb : PE X b tb) : PE X (.BinOp a op b pos) (tOp r ta tb) := by
 intro pins s σ H Q I h
 exact wpAny_BinOp (binT ha hb I h fun v u s2 x y H2 I2 rx ry q => ho pins s2 σ H2 x y v u Q I2 rx ry q)
theorem pe_un {op : UnaryOp} {r : V → Hp → VK → Prop} (ho : UnR X (unaryOp op) r) (ha : PE X a ta) : PE X (.UnaryOp op a pos) (tUn r ta) := by
 intro pins s σ H Q I h
 exact UnaryOp_ (thn (ha pins s σ H _ I h) fun v s1 ⟨x, H1, I1, r1, q1⟩ => ho pins s1 σ H1 x v Q I1 r1 q1)
theorem opI {f : Value → Value → Sem Value} {C : Int → Int → Prop} {g : Int → Int → Int}
  (rule : ∀ (i j : Int) (t u : Tok) (s : Shared) (Q : Value → Shared → Prop) (E : Value → Shared → Prop), C i j → Q (.int (g i j) s.toks) { s with toks := s.toks + 1 } → wpAny (model X.prog X.w) X.A (f (.int i t) (.int j u)) Q E s) :
  OpR X f (rI C fun i j => .int (g i j)) := by
 intro pins s σ H x y v u Q I rx ry h
 obtain ⟨i, j, rfl, rfl, hc, q⟩ := h
 obtain ⟨t, rfl⟩ := rx
 obtain ⟨t', rfl⟩ := ry
 exact rule i j t t' s _ _ hc ⟨.int (g i j), H, I.tok _, ⟨_, rfl⟩, q⟩
theorem opI0 {f : Value → Value → Sem Value} {g : Int → Int → Int}
  (rule : ∀ (i j : Int) (t u : Tok) (s : Shared) (Q : Value → Shared → Prop) (E : Value → Shared → Prop), Q (.int (g i j) s.toks) { s with toks := s.toks + 1 } → wpAny (model X.prog X.w) X.A (f (.int i t) (.int j u)) Q E s) :
  OpR X f (rI0 fun i j => .int (g i j)) := by
 intro pins s σ H x y v u Q I rx ry h
 obtain ⟨i, j, rfl, rfl, q⟩ := h
 obtain ⟨t, rfl⟩ := rx
 obtain ⟨t', rfl⟩ := ry
 exact rule i j t t' s _ _ ⟨.int (g i j), H, I.tok _, ⟨_, rfl⟩, q⟩
theorem opB0 {f : Value → Value → Sem Value} {g : Int → Int → Bool}
  (rule : ∀ (i j : Int) (t u : Tok) (s : Shared) (Q : Value → Shared → Prop) (E : Value → Shared → Prop), Q (.bool (g i j)) s → wpAny (model X.prog X.w) X.A (f (.int i t) (.int j u)) Q E s) :
  OpR X f (rI0 fun i j => .bl (g i j)) := by
 intro pins s σ H x y v u Q I rx ry h
 obtain ⟨i, j, rfl, rfl, q⟩ := h
 obtain ⟨t, rfl⟩ := rx
 obtain ⟨t', rfl⟩ := ry
 exact rule i j t t' s _ _ ⟨.bl (g i j), H, I, rfl, q⟩
noncomputable def CPow (i j : Int) : Prop := 0 ≤ j ∧ j ≤ 1000000 ∧ i.natAbs < 2 ^ 64
noncomputable def CMul (i j : Int) : Prop := (-(2 ^ 64) < i ∧ i < 2 ^ 64) ∨ (-(2 ^ 64) < j ∧ j < 2 ^ 64)
theorem CMul.ok {i j : Int} (h : CMul i j) : IntMulOk i j := by
 rcases h with ⟨h1, h2⟩ | ⟨h1, h2⟩
 ·exact .of_left (intBits_le_64 h1 h2)
 ·exact .of_right (intBits_le_64 h1 h2)
theorem op_add : OpR X (binaryOp .Add) (rI0 fun i j => .int (i + j)) := opI0 fun _ _ _ _ _ _ _ q => add_int q
theorem op_sub : OpR X (binaryOp .Sub) (rI0 fun i j => .int (i - j)) := opI0 fun _ _ _ _ _ _ _ q => sub_int q
theorem op_mul : OpR X (binaryOp .Mult) (rI CMul fun i j => .int (i * j)) := opI fun _ _ _ _ _ _ _ hc q => mul_int q hc.ok
theorem op_mod : OpR X (binaryOp .Mod) (rI (fun _ j => 0 < j) fun i j => .int (i % j)) := opI fun i j _ _ _ _ _ hc q => by
 have h1 : (0 : Int) < j := hc
 exact mod_int' (by omega) (by rw [Int.fmod_eq_emod_of_nonneg i (by omega)]; exact q)
theorem op_pow : OpR X (binaryOp .Pow) (rI CPow fun i j => .int (i ^ j.toNat)) := opI fun _ _ _ _ _ _ _ hc q => pow_int_small hc.1 hc.2.1 hc.2.2 q
theorem op_shl : OpR X (binaryOp .LShift) (rI CPow fun i j => .int (i * 2 ^ j.toNat)) := opI fun _ _ _ _ _ _ _ hc q => lshift_int_small hc.1 hc.2.1 hc.2.2 q
theorem unI {f : Value → Sem Value} {g : Int → Int}
  (rule : ∀ (i : Int) (t : Tok) (s : Shared) (Q : Value → Shared → Prop) (E : Value → Shared → Prop), Q (.int (g i) s.toks) { s with toks := s.toks + 1 } → wpAny (model X.prog X.w) X.A (f (.int i t)) Q E s) :
  UnR X f (rU fun i => .int (g i)) := by
 intro pins s σ H x v Q I rx h
 obtain ⟨i, rfl, q⟩ := h
 obtain ⟨t, rfl⟩ := rx
 exact rule i t s _ _ ⟨.int (g i), H, I.tok _, ⟨_, rfl⟩, q⟩
theorem un_neg : UnR X (unaryOp .USub) (rU fun i => .int (-i)) := unI fun _ _ _ _ _ q => neg_int q
end
noncomputable def scal : V → V → Bool
 | .non, .non => true | .non, .int _ => true | .int _, .non => true | .non, .bl _ => true | .bl _, .non => true | .non, .str _ => true | .str _, .non => true
 | .int _, .int _ => true | .bl _, .bl _ => true | .str _, .str _ => true | .byt _, .byt _ => true
 | .int _, .str _ => true | .str _, .int _ => true | .bl _, .str _ => true | .str _, .bl _ => true
 | _, _ => false
noncomputable def rEq : R2 := fun x y H Q => scal x y = true ∧ Q (.bl (decide (x = y))) H
noncomputable def rNe : R2 := fun x y H Q => scal x y = true ∧ Q (.bl (!decide (x = y))) H
theorem dec_int {i j : Int} : decide (V.int i = V.int j) = (i == j) := by
 rw [Bool.eq_iff_iff]
 simp
theorem dec_bl {i j : Bool} : decide (V.bl i = V.bl j) = (i == j) := by
 rw [Bool.eq_iff_iff]
 simp
theorem dec_str {i j : Str} : decide (V.str i = V.str j) = (i == j) := by
 rw [Bool.eq_iff_iff]
 simp
theorem dec_byt {i j : Array UInt8} : decide (V.byt i = V.byt j) = (i.toList == j.toList) := by
 rw [Bool.eq_iff_iff]
 cases i
 cases j
 simp
section
variable {X : Cx} {a b c : Expr} {ta tb tc : TE} {pos : Pos}
theorem fin_bl {pins : List (Addr × Obj)} {σ : St} {H : Hp} {s : Shared} {Q : VK} {k k' : Bool} (I : Inv X pins σ H s) (q : Q (.bl k) H) (e : k = k') : EP X pins σ Q (.bool k') s := by
 subst e
 exact ⟨.bl k, H, I, rfl, q⟩
theorem op_eq : OpR X (compareOp .Eq) rEq := by
 intro pins s σ H x y v u Q I rx ry h
 obtain ⟨hs, q⟩ := h
 cases x with
 | non =>
  cases rx
  cases y with
  | non => cases ry; exact PySem.EqNone.eq_none_none (fin_bl I q (by simp))
  | bl j => cases ry; exact PySem.EqNone.eq_none_bool (fin_bl I q (by simp))
  | int j => obtain ⟨t', rfl⟩ := ry; exact PySem.EqNone.eq_none_int (fin_bl I q (by simp))
  | str j => obtain ⟨t', rfl⟩ := ry; exact PySem.EqNone.eq_none_str (fin_bl I q (by simp))
  | _ => exact absurd (show false = true from hs) Bool.false_ne_true
 | bl i =>
  cases rx
  cases y with
  | non => cases ry; exact PySem.EqNone.eq_bool_none (fin_bl I q (by simp))
  | bl j => cases ry; exact eq_bool (fin_bl I q dec_bl)
  | str j => obtain ⟨t', rfl⟩ := ry; exact PySem.EqMixed.eq_bool_str (fin_bl I q (by simp))
  | _ => exact absurd (show false = true from hs) Bool.false_ne_true
 | int i =>
  obtain ⟨t, rfl⟩ := rx
  cases y with
  | non => cases ry; exact PySem.EqNone.eq_int_none (fin_bl I q (by simp))
  | int j => obtain ⟨t', rfl⟩ := ry; exact eq_int (fin_bl I q dec_int)
  | str j => obtain ⟨t', rfl⟩ := ry; exact PySem.EqMixed.eq_int_str (fin_bl I q (by simp))
  | _ => exact absurd (show false = true from hs) Bool.false_ne_true
 | str i =>
  obtain ⟨t, rfl⟩ := rx
  cases y with
  | non => cases ry; exact PySem.EqNone.eq_str_none (fin_bl I q (by simp))
  | bl j => cases ry; exact PySem.EqMixed.eq_str_bool (fin_bl I q (by simp))
  | int j => obtain ⟨t', rfl⟩ := ry; exact PySem.EqMixed.eq_str_int (fin_bl I q (by simp))
  | str j => obtain ⟨t', rfl⟩ := ry; exact eq_str (fin_bl I q dec_str)
  | _ => exact absurd (show false = true from hs) Bool.false_ne_true
 | byt i =>
  obtain ⟨t, rfl⟩ := rx
  cases y with
  | byt j => obtain ⟨t', rfl⟩ := ry; exact PySem.W.eq_bytes (fin_bl I q dec_byt)
  | _ => exact absurd (show false = true from hs) Bool.false_ne_true
 | _ => cases y <;> exact absurd (show false = true from hs) Bool.false_ne_true
theorem op_ne : OpR X (compareOp .NotEq) rNe := by
 intro pins s σ H x y v u Q I rx ry h
 obtain ⟨hs, q⟩ := h
 cases x with
 | non =>
  cases rx
  cases y with
  | non => cases ry; exact PySem.EqNone.ne_none_none (fin_bl I q (by simp))
  | bl j => cases ry; exact PySem.EqNone.ne_none_bool (fin_bl I q (by simp))
  | int j => obtain ⟨t', rfl⟩ := ry; exact PySem.EqNone.ne_none_int (fin_bl I q (by simp))
  | str j => obtain ⟨t', rfl⟩ := ry; exact PySem.EqNone.ne_none_str (fin_bl I q (by simp))
  | _ => exact absurd (show false = true from hs) Bool.false_ne_true
 | bl i =>
  cases rx
  cases y with
  | non => cases ry; exact PySem.EqNone.ne_bool_none (fin_bl I q (by simp))
  | bl j => cases ry; exact ne_bool (fin_bl I q (congrArg not dec_bl))
  | str j => obtain ⟨t', rfl⟩ := ry; exact PySem.EqMixed.ne_bool_str (fin_bl I q (by simp))
  | _ => exact absurd (show false = true from hs) Bool.false_ne_true
 | int i =>
  obtain ⟨t, rfl⟩ := rx
  cases y with
  | non => cases ry; exact PySem.EqNone.ne_int_none (fin_bl I q (by simp))
  | int j => obtain ⟨t', rfl⟩ := ry; exact ne_int (fin_bl I q (congrArg not dec_int))
  | str j => obtain ⟨t', rfl⟩ := ry; exact PySem.EqMixed.ne_int_str (fin_bl I q (by simp))
  | _ => exact absurd (show false = true from hs) Bool.false_ne_true
 | str i =>
  obtain ⟨t, rfl⟩ := rx
  cases y with
  | non => cases ry; exact PySem.EqNone.ne_str_none (fin_bl I q (by simp))
  | bl j => cases ry; exact PySem.EqMixed.ne_str_bool (fin_bl I q (by simp))
  | int j => obtain ⟨t', rfl⟩ := ry; exact PySem.EqMixed.ne_str_int (fin_bl I q (by simp))
  | str j => obtain ⟨t', rfl⟩ := ry; exact ne_str (fin_bl I q (congrArg not dec_str))
  | _ => exact absurd (show false = true from hs) Bool.false_ne_true
 | byt i =>
  obtain ⟨t, rfl⟩ := rx
  cases y with
  | byt j => obtain ⟨t', rfl⟩ := ry; exact PySem.W.ne_bytes (fin_bl I q (congrArg not dec_byt))
  | _ => exact absurd (show false = true from hs) Bool.false_ne_true
 | _ => cases y <;> exact absurd (show false = true from hs) Bool.false_ne_true
theorem op_lt : OpR X (compareOp .Lt) (rI0 fun i j => .bl (decide (i < j))) := opB0 fun _ _ _ _ _ _ _ q => lt_int q
theorem op_gt : OpR X (compareOp .Gt) (rI0 fun i j => .bl (decide (j < i))) := opB0 fun _ _ _ _ _ _ _ q => gt_int q
theorem op_ge : OpR X (compareOp .GtE) (rI0 fun i j => .bl (decide (j ≤ i))) := opB0 fun _ _ _ _ _ _ _ q => ge_int q
theorem op_in_str : OpR X (compareOp .In) (fun x y H Q => ∃ i j, x = .str i ∧ y = .str j ∧ Q (.bl (!(Builtin.Str.occurrences j i 0 j.length 1).isEmpty)) H) := by
 intro pins s σ H x y v u Q I rx ry h
 obtain ⟨i, j, rfl, rfl, q⟩ := h
 obtain ⟨t, rfl⟩ := rx
 obtain ⟨t', rfl⟩ := ry
 exact in_str (fin_bl I q rfl)
theorem OpR.or {f : Value → Value → Sem Value} {r r' : R2} (h : OpR X f r) (h' : OpR X f r') : OpR X f (fun x y H Q => r x y H Q ∨ r' x y H Q) := by
 intro pins s σ H x y v u Q I rx ry q
 rcases q with q | q
 ·exact h pins s σ H x y v u Q I rx ry q
 ·exact h' pins s σ H x y v u Q I rx ry q
theorem pe_cmpR {op : CmpOp} {r : R2} (ho : OpR X (compareOp op) r) (ha : PE X a ta) (hb : PE X b tb) (hm : behindInMarks op b = false) : PE X (.Compare a [op] [b] pos) (tOp r ta tb) := by
 intro pins s σ H Q I h
 exact wpAny_Compare1 (binT ha hb I h fun v u s2 x y H2 I2 rx ry q => ho pins s2 σ H2 x y v u Q I2 rx ry q) hm
noncomputable def tTest (t : TE) : TT := fun σ H Q => t σ H fun x H' => ∃ k, x = .bl k ∧ Q k H'
theorem pt_cmpR {op : CmpOp} {r : R2} (ho : OpR X (compareOp op) r) (ha : PE X a ta) (hb : PE X b tb) (hm : behindInMarks op b = false) : PT X (.Compare a [op] [b] pos) (tTest (tOp r ta tb)) := by
 intro pins s σ H Q I h
 refine wpAny_isTrue_Compare1 (thn (ha pins s σ H _ I h) fun v s1 ⟨x, H1, I1, r1, q1⟩ => thn (hb pins s1 σ H1 _ I1 q1) fun u s2 ⟨y, H2, I2, r2, q2⟩ =>
  thn (ho pins s2 σ H2 x y v u _ I2 r1 r2 q2) fun c s3 ⟨z, H3, I3, r3, k, e, q3⟩ => ?_) hm
 subst e
 cases r3
 exact wpAny_truthy_bool ⟨H3, I3, q3⟩
noncomputable def tChain (r r' : R2) (ta tb tc : TE) : TE := fun σ H Q => ta σ H fun x H1 => tb σ H1 fun y H2 => r x y H2 fun z H3 => ∃ k, z = .bl k ∧
 (if k = true then tc σ H3 fun w' H4 => r' y w' H4 Q else Q (.bl false) H3)
noncomputable def TruV (K : PySem.W.Frag) (x : V) (H : Hp) (k : Bool) : Prop :=
 match x with
 | .non => k = false
 | .bl b => k = b
 | .int i => k = (i != 0)
 | .str y => y.length ≤ sizeLine ∧ k = ((y.length : Int) != 0)
 | .byt y => y.size ≤ sizeLine ∧ k = ((y.size : Int) != 0)
 | .ref p => (∃ xs, SqL K H p xs ∧ k = !xs.isEmpty) ∨ (∃ xs, SqT K H p xs ∧ k = !xs.isEmpty) ∨ ∃ kvs, H p = some (.dK kvs) ∧ k = !kvs.isEmpty
 | _ => False
theorem isEmpty_kv {κ : Type} {kvs : List (κ × V)} {vs : List (κ × Value)} (r : KV kvs vs) : (!vs.isEmpty) = !kvs.isEmpty := by
 cases r <;> rfl
theorem isEmpty_of {xs : List V} {its : List Value} (r : Vals xs its) : (!its.toArray.isEmpty) = !xs.isEmpty := by
 cases r <;> simp
theorem line63 : (sizeLine : Nat) < 2 ^ 63 := by rw [sizeLine_eq]; decide
theorem tru_ok : TruR X (fun x H Q => ∃ k, TruV X.K x H k ∧ Q k H) := by
 intro pins s σ H x v Q I rx h
 obtain ⟨k, e, q⟩ := h
 have hl := line63
 have hs : sizeLine = 16777216 := sizeLine_eq
 cases x with
 | non =>
  cases rx
  have e' : k = false := e
  subst e'
  exact truthy_none ⟨H, I, q⟩
 | bl b =>
  cases rx
  have e' : k = b := e
  subst e'
  exact wpAny_truthy_bool ⟨H, I, q⟩
 | int i =>
  obtain ⟨t, rfl⟩ := rx
  have e' : k = (i != 0) := e
  subst e'
  exact PySem.P.truthy_int ⟨H, I, q⟩
 | str y =>
  obtain ⟨t, rfl⟩ := rx
  obtain ⟨hy, e'⟩ : y.length ≤ sizeLine ∧ k = ((y.length : Int) != 0) := e
  subst e'
  exact PySem.P.truthy_str (by omega) ⟨H, I.tok _, q⟩
 | byt y =>
  obtain ⟨t, rfl⟩ := rx
  obtain ⟨hy, e'⟩ : y.size ≤ sizeLine ∧ k = ((y.size : Int) != 0) := e
  subst e'
  exact PySem.W.truthy_bytes (by omega) ⟨H, I.tok _, q⟩
 | ref p =>
  cases rx
  have e' : (∃ xs, SqL X.K H p xs ∧ k = !xs.isEmpty) ∨ (∃ xs, SqT X.K H p xs ∧ k = !xs.isEmpty) ∨ ∃ kvs, H p = some (.dK kvs) ∧ k = !kvs.isEmpty := e
  rcases e' with ⟨xs, hx, e'⟩ | ⟨xs, hx, e'⟩ | ⟨kvs, hx, e'⟩
  ·subst e'
   obtain ⟨its, r, pl, hz⟩ := I.list hx
   have hlen := r.length
   exact wpAny_truthy_list pl.isList (by simp only [List.size_toArray]; omega) ⟨H, I.tok _, by rw [isEmpty_of r]; exact q⟩
  ·subst e'
   obtain ⟨its, r, pl, hz⟩ := I.tuple hx
   have hlen := r.length
   exact truthy_tuple pl (by simp only [List.size_toArray]; omega) ⟨H, I.tok _, by rw [isEmpty_of r]; exact q⟩
  ·subst e'
   obtain ⟨hz, hS, vs, r, m⟩ : kvs.length ≤ sizeLine ∧ (p == sysModules) = false ∧ ∃ vs, KV kvs vs ∧ s.heap.DictOf (mixKind X.prog X.w) p vs := I.hok p _ hx
   have hlen : kvs.length = vs.length := Paired.length r
   exact wpAny_truthy_dict hS m (by omega) ⟨H, I.tok _, by rw [isEmpty_kv r]; exact q⟩
 | _ => exact (show False from e).elim
theorem pt_truth (ha : PE X a ta) (he : ∀ whole, isTrue a X.env whole = (do let v ← whole; standAt a.pos; holding [v] (truthy v))) :
  PT X a (fun σ H Q => ta σ H fun x H' => ∃ k, TruV X.K x H' k ∧ Q k H') := by
 intro pins s σ H Q I h
 exact isTrue_plain (thn (ha pins s σ H _ I h) fun v s1 ⟨x, H1, I1, r1, q1⟩ => tru_ok pins s1 σ H1 x v Q I1 r1 q1) (he _)
theorem op_add_str : OpR X (binaryOp .Add) (fun x y H Q => ∃ i j, x = .str i ∧ y = .str j ∧ i.length + j.length ≤ sizeLine ∧ Q (.str (i ++ j)) H) := by
 intro pins s σ H x y v u Q I rx ry h
 obtain ⟨i, j, rfl, rfl, hz, q⟩ := h
 obtain ⟨t, rfl⟩ := rx
 obtain ⟨t', rfl⟩ := ry
 exact add_str (fun t' tk => ⟨.str (i ++ j), H, I.tok _, ⟨_, rfl⟩, q⟩) hz
theorem vals1 {x : V} {us : List Value} (r : Vals [x] us) : ∃ u, us = [u] ∧ RelV x u := by
 cases r with
 | cons r1 r2 => cases r2; exact ⟨_, rfl, r1⟩
theorem vals2 {x y : V} {us : List Value} (r : Vals [x, y] us) : ∃ u w', us = [u, w'] ∧ RelV x u ∧ RelV y w' := by
 cases r with
 | cons r1 r2 =>
  cases r2 with
  | cons r3 r4 => cases r4; exact ⟨_, _, rfl, r1, r3⟩
theorem call_int1 : CallR X (.type "int") (fun xs H Q => (∃ i, xs = [.int i] ∧ Q (.int i) H) ∨ ∃ k, xs = [.bl k] ∧ Q (.int (if k then 1 else 0)) H) := by
 intro pins s σ H xs us Q I r h
 rcases h with ⟨i, rfl, q⟩ | ⟨k, rfl, q⟩
 ·obtain ⟨u, rfl, t, rfl⟩ := vals1 r
  exact call_int_int ⟨.int i, H, I, ⟨_, rfl⟩, q⟩
 ·obtain ⟨u, rfl, r1⟩ := vals1 r
  cases r1
  exact call_int_bool ⟨.int (if k then 1 else 0), H, I.tok _, ⟨_, rfl⟩, q⟩
noncomputable def LenV (K : PySem.W.Frag) (x : V) (H : Hp) (n : Nat) : Prop :=
 match x with
 | .str y => y.length ≤ sizeLine ∧ n = y.length
 | .byt y => y.size ≤ sizeLine ∧ n = y.size
 | .ref p => (∃ xs, SqL K H p xs ∧ n = xs.length) ∨ ∃ xs, SqT K H p xs ∧ n = xs.length
 | _ => False
theorem call_len : CallR X (.builtin "len") (fun xs H Q => ∃ x n, xs = [x] ∧ LenV X.K x H n ∧ Q (.int n) H) := by
 intro pins s σ H xs us Q I r h
 obtain ⟨x, n, rfl, e, q⟩ := h
 obtain ⟨u, rfl, rx⟩ := vals1 r
 have hl := line63
 have hs : sizeLine = 16777216 := sizeLine_eq
 cases x with
 | str y =>
  obtain ⟨t, rfl⟩ := rx
  obtain ⟨hy, e'⟩ : y.length ≤ sizeLine ∧ n = y.length := e
  subst e'
  exact len_str (by omega) ⟨.int _, H, I.tok _, ⟨_, rfl⟩, q⟩
 | byt y =>
  obtain ⟨t, rfl⟩ := rx
  obtain ⟨hy, e'⟩ : y.size ≤ sizeLine ∧ n = y.size := e
  subst e'
  exact PySem.W.len_bytes (by omega) ⟨.int _, H, I.tok _, ⟨_, rfl⟩, q⟩
 | ref p =>
  cases rx
  have e' : (∃ xs, SqL X.K H p xs ∧ n = xs.length) ∨ ∃ xs, SqT X.K H p xs ∧ n = xs.length := e
  rcases e' with ⟨xs, hx, e'⟩ | ⟨xs, hx, e'⟩
  ·subst e'
   obtain ⟨its, r', pl, hz⟩ := I.list hx
   have hlen := r'.length
   exact Calls.call_len_list pl.isList (by simp only [List.size_toArray]; omega) ⟨.int xs.length, H, I.tok _, ⟨_, by simp only [List.size_toArray]; rw [hlen]⟩, q⟩
  ·subst e'
   obtain ⟨its, r', pl, hz⟩ := I.tuple hx
   have hlen := r'.length
   exact len_tuple pl (by simp only [List.size_toArray]; omega) ⟨.int xs.length, H, I.tok _, ⟨_, by simp only [List.size_toArray]; rw [hlen]⟩, q⟩
 | _ => exact (show False from e).elim
end
end L2
namespace L2
open PySem PySem.Spec PyProof.Rows
structure ObjM (h : Heap) (x dx C : Addr) (mA : Str → Option Value) : Prop where
 obj : h.get? x = some (PySem.W.instObj C dx)
 ns : h.Ns1 dx mA
 ne : dx ≠ x
theorem lookIn_ns {h : Heap} {dx : Addr} {mA : Str → Option Value} (n : h.Ns1 dx mA) : ∃ od, h.get? dx = some od ∧ ∀ name, PySem.W.lookIn name od = some (mA name) := by
 obtain ⟨o, es, ep, ho, hd, hk, _, hm⟩ := n
 refine ⟨o, ho, fun name => ?_⟩
 have e := hm name
 unfold nsFind findBy at e
 rw [← Array.find?_toList] at e
 unfold PySem.W.lookIn
 rw [hd]
 dsimp only
 split
 ·rename_i y q
  rw [q] at e
  exact congrArg some e
 ·rename_i q
  rw [q] at e
  have a : es.toList.any (·.refKey) = false := by
   rw [List.any_eq_false]
   intro y hy
   obtain ⟨z, t, hkey⟩ := hk y (Array.mem_toList_iff.mp hy)
   simp [DictEntry.refKey, hkey]
  have a' : ¬ es.toList.any (·.refKey) = true := by rw [a]; exact Bool.false_ne_true
  rw [if_neg a']
  exact congrArg some e
theorem ObjM.look {h : Heap} {x dx C : Addr} {mA : Str → Option Value} (I : ObjM h x dx C mA) : ∃ od, PySem.W.InstAt h x (PySem.W.instObj C dx) C (some od) ∧ ∀ name, PySem.W.lookIn name od = some (mA name) :=
 let ⟨od, ho, hl⟩ := lookIn_ns I.ns
 ⟨od, ⟨I.obj, rfl, rfl, ho⟩, hl⟩
section
variable {prog : Program} {w : World} {A : Around} {E : Value → Shared → Prop} {s : Shared} {K : PySem.W.Frag} {x dx C f : Addr} {mA : Str → Option Value} {name : Str} {v : Value}
theorem get_map {expr : Bool} {Q : Value → Shared → Prop} (X : K.In s.heap) (I : ObjM s.heap x dx C mA) (hg : PySem.W.plainGet K C name = true) (hh : PySem.W.hasDictIn K C = true)
  (ha : PySem.W.findIn K (.ref C) name = some none) (hv : mA name = some v) (hv' : PySem.W.handedIn v = true) (h : Q v { s with toks := s.toks + 1 }) :
  wpAny (model prog w) A (getAttr (.ref x) name expr) Q E s := by
 obtain ⟨od, J, hl⟩ := I.look
 exact PySem.W.get_value X J (PySem.W.plainGet_of hg).1 (PySem.W.findObj_own hh ha rfl (by rw [hl, hv])) hv' h
theorem get_meth {pl : Sem Bool} {Q : Value × List Value → Shared → Prop} (X : K.In s.heap) (I : ObjM s.heap x dx C mA) (hg : PySem.W.plainGet K C name = true)
  (hf : PySem.W.findIn K (.ref C) name = some (some (.ref f))) (ht : PySem.W.isFn K (.ref f) = true) (hv : mA name = none) (h : Q (.ref f, [.ref x]) s) :
  wpAny (model prog w) A (getMethod (.ref x) name pl) Q E s := by
 obtain ⟨od, J, hl⟩ := I.look
 exact PySem.W.method_fn X J (PySem.W.plainGet_of hg).1 (PySem.W.plainGet_of hg).2 hf (beq_iff_eq.mp ht) (by show (PySem.W.lookIn name od).map (·.isSome) = some false; rw [hl, hv]; rfl) h
theorem set_map {ns : List Str} {Q : Unit → Shared → Prop} (X : K.In s.heap) (I : ObjM s.heap x dx C mA)
  (hs : PySem.W.findIn K (.ref C) "__setattr__" = some (some (.builtin "object.__setattr__"))) (hp : PySem.W.plainOver K C = true) (ht : PySem.W.takerIn K C name = some none) (hh : PySem.W.hasDictIn K C = true)
  (hw : PySem.Within mA ns) (hsz : ns.length ≤ sizeLine)
  (h : ∀ h', ObjM h' x dx C (fun y => if y = name then some v else mA y) → Heap.SameBut dx s.heap h' → Q () { s with heap := h', toks := s.toks + 2 }) :
  wpAny (model prog w) A (setAttr (.ref x) name v) Q E s := by
 obtain ⟨od, J, hl⟩ := I.look
 refine PySem.W.set_plain X J hs (PySem.W.osa_open (s := { s with toks := s.toks + 1 }) (r := none) X J hp ht fun b => ?_)
 obtain ⟨cd, hc, hd'⟩ := PySem.W.any_some hh
 have hx : s.heap.get? x = some ⟨.ref C, some dx, .plain, #[]⟩ := I.obj
 refine wpAny_bind (wpAny_pure (wpAny_bind (wpAny_bind (wpAny_loadPart hx (wpAny_bind (PySem.W.Looks.here (s := { s with toks := s.toks + 1 }) (PySem.W.looks_clsIn X hc) ?_))))))
 rw [hd']
 refine wpAny_pure (a := some dx) (wpAny_bind (wpAny_pure (wpAny_bind ?_)))
 refine wpAny_nsSet1 (s := { s with toks := s.toks + 1 }) I.ns fun h' hn2 hs2 => ?_
 obtain ⟨oD, esD, epD, hoD, hdD, hcD⟩ := hn2.count (PySem.Within.cons name v hw)
 refine wpAny_bind (wpAny_lookBehind hoD (by rw [hdD]; exact pastItsLine_dict (Nat.le_trans hcD (by rw [List.length_cons]; omega))) ?_)
 exact wpAny_pure (h _ ⟨(hs2.2 _ (Ne.symm I.ne)).trans I.obj, hn2, I.ne⟩ hs2)
theorem make_map {R : Result → Shared → Prop} {vs : List Value} {kw : List (Str × Value)} (X : K.In s.heap) (hm : PySem.W.makesIn K C = true)
  (hi : PySem.W.findIn K (.ref C) "__init__" = some (some (.ref f))) (hf : PySem.W.typeIn K (.ref f) = some (.type "function"))
  (h : codeAny (model prog w) (A.under (.builtin "type.__call__" ⟨.ref C :: vs, kw⟩)) (.call (.ref f) ⟨.ref (s.heap.objs.size + 1) :: vs, kw⟩) (PySem.W.InitBack (s.heap.objs.size + 1) R)
   { s with heap := (s.heap.push PySem.W.emptyDict).push (PySem.W.instObj C s.heap.objs.size) }) :
  codeAny (model prog w) A (.call (.ref C) ⟨vs, kw⟩) R s := by
 obtain ⟨hh, g, d, t, os⟩ := s
 exact PySem.W.make_core (PySem.W.makes_of X hm) (PySem.W.looks_findIn X hi) (fun self => PySem.W.bind_fn X self hf) (.inl rfl) h
end
noncomputable def putF (f : Str) (v : V) : List (Str × V) → List (Str × V)
 | [] => [(f, v)]
 | (g, x) :: r => if g = f then (g, v) :: r else (g, x) :: putF f v r
theorem lookup_putF (f g : Str) (v : V) : ∀ fs : List (Str × V), (putF f v fs).lookup g = if g = f then some v else fs.lookup g
 | [] => by
  show List.lookup g [(f, v)] = _
  by_cases h : g = f
  ·have hb : (g == f) = true := beq_iff_eq.mpr h
   simp only [List.lookup, hb, if_pos h]
  ·have hb : (g == f) = false := beq_eq_false_iff_ne.mpr h
   simp only [List.lookup, hb, if_neg h]
 | (k, x) :: r => by
  have ih := lookup_putF f g v r
  rw [show putF f v ((k, x) :: r) = (if k = f then (k, v) :: r else (k, x) :: putF f v r) from rfl]
  by_cases hk : k = f
  ·rw [if_pos hk]
   by_cases h : g = k
   ·have hb : (g == k) = true := beq_iff_eq.mpr h
    simp only [List.lookup, hb, if_pos (h.trans hk)]
   ·have hb : (g == k) = false := beq_eq_false_iff_ne.mpr h
    simp only [List.lookup, hb, if_neg (fun e : g = f => h (e.trans hk.symm))]
  ·rw [if_neg hk]
   by_cases h : g = k
   ·have hb : (g == k) = true := beq_iff_eq.mpr h
    simp only [List.lookup, hb, if_neg (fun e : g = f => hk (h.symm.trans e))]
   ·have hb : (g == k) = false := beq_eq_false_iff_ne.mpr h
    simp only [List.lookup, hb]
    exact ih
theorem keys_putF (f : Str) (v : V) : ∀ fs : List (Str × V), f ∈ (putF f v fs).map (·.1) ∧ ∀ g, g ∈ fs.map (·.1) → g ∈ (putF f v fs).map (·.1)
 | [] => ⟨by simp [putF], fun g h => by simp at h⟩
 | (k, x) :: r => by
  obtain ⟨i1, i2⟩ := keys_putF f v r
  rw [show putF f v ((k, x) :: r) = (if k = f then (k, v) :: r else (k, x) :: putF f v r) from rfl]
  by_cases hk : k = f
  ·rw [if_pos hk]
   subst hk
   exact ⟨by simp, fun g h => by simpa using h⟩
  ·rw [if_neg hk]
   refine ⟨?_, fun g h => ?_⟩
   ·rw [List.map_cons]
    exact List.mem_cons_of_mem _ i1
   ·rw [List.map_cons] at h ⊢
    rcases List.mem_cons.mp h with e | e
    ·exact List.mem_cons.mpr (.inl e)
    ·exact List.mem_cons_of_mem _ (i2 g e)
theorem length_putF (f : Str) (v : V) : ∀ fs : List (Str × V), (putF f v fs).length ≤ fs.length + 1
 | [] => by simp [putF]
 | (k, x) :: r => by
  have ih := length_putF f v r
  rw [show putF f v ((k, x) :: r) = (if k = f then (k, v) :: r else (k, x) :: putF f v r) from rfl]
  by_cases hk : k = f
  ·rw [if_pos hk, List.length_cons, List.length_cons]; omega
  ·rw [if_neg hk, List.length_cons, List.length_cons]; omega
theorem RelO.some_of {v : V} {o : Option Value} (r : RelO (some v) o) : ∃ u, o = some u ∧ RelV v u := by
 cases o with
 | none => exact (show False from r).elim
 | some u => exact ⟨u, rfl, r⟩
theorem RelO.none_of {o : Option Value} (r : RelO none o) : o = none := by
 cases o with
 | none => rfl
 | some u => exact (show False from r).elim
theorem handed_of {v : V} {u : Value} (r : RelV v u) : PySem.W.handedIn u = true := by
 cases v with
 | non => cases (show u = Value.none from r); rfl
 | bl b => cases (show u = Value.bool b from r); rfl
 | int i => obtain ⟨t, e⟩ := (show ∃ t, u = Value.int i t from r); cases e; rfl
 | str x => obtain ⟨t, e⟩ := (show ∃ t, u = Value.str x t from r); cases e; rfl
 | byt b => obtain ⟨t, e⟩ := (show ∃ t, u = Value.bytes b t from r); cases e; rfl
 | flt b => obtain ⟨t, e⟩ := (show ∃ t, u = Value.float b t from r); cases e; rfl
 | ref a => cases (show u = Value.ref a from r); rfl
 | ty n => cases (show u = Value.type n from r); rfl
section
variable {P : Program} {w : World} {H H' : Hp} {h h' : Heap} {a C dx : Addr} {fs fs' : List (Str × V)}
theorem ins_get (hok : HOk P w H h) (e : H a = some (.ins C dx fs)) : ∃ mA, ObjM h a dx C mA ∧ (∀ f, RelO (fs.lookup f) (mA f)) ∧ PySem.Within mA (fs.map (·.1)) ∧ fs.length ≤ 1000 ∧ H dx = some (.own a) := by
 obtain ⟨d, z, ne, ob, mA, n, r, q⟩ := (show ObjOk P w H h a (.ins C dx fs) from hok a _ e)
 exact ⟨mA, ⟨ob, n, ne⟩, r, q, z, d⟩
end
structure Cls (K : PySem.W.Frag) (C : Addr) : Prop where
 pg : PySem.W.plainGet K C Str.empty = true
 hd : PySem.W.hasDictIn K C = true
 po : PySem.W.plainOver K C = true
 sa : PySem.W.findIn K (.ref C) "__setattr__" = some (some (.builtin "object.__setattr__"))
theorem Cls.get {K : PySem.W.Frag} {C : Addr} (c : Cls K C) (f : Str) : PySem.W.plainGet K C f = true := c.pg
noncomputable def NoAttr (K : PySem.W.Frag) (C : Addr) (f : Str) : Prop := PySem.W.findIn K (.ref C) f = some none
theorem NoAttr.taker {K : PySem.W.Frag} {C : Addr} {f : Str} (n : NoAttr K C f) : PySem.W.takerIn K C f = some none := by
 unfold PySem.W.takerIn
 rw [show PySem.W.findIn K (.ref C) f = some none from n]
 rfl
structure Meth (K : PySem.W.Frag) (C : Addr) (m : Str) (f : Addr) : Prop where
 at_ : PySem.W.findIn K (.ref C) m = some (some (.ref f))
 fn : PySem.W.isFn K (.ref f) = true
 kp : PySem.W.keepIn K (.ref f) = true
section
variable {X : Cx} {pins : List (Addr × Obj)} {σ : St} {H : Hp} {s : Shared} {a C dx : Addr} {fs : List (Str × V)} {f : Str} {v : V} {A : Around} {E : Value → Shared → Prop}
theorem getattr_ok {b : Bool} {Q : Value → Shared → Prop} (I : Inv X pins σ H s) (e : H a = some (.ins C dx fs)) (c : Cls X.K C) (n : NoAttr X.K C f) (l : fs.lookup f = some v)
  (h : ∀ u s', Inv X pins σ H s' → RelV v u → Q u s') : wpAny (model X.prog X.w) A (getAttr (.ref a) f b) Q E s := by
 obtain ⟨mA, O, r, _, _, _⟩ := ins_get I.hok e
 obtain ⟨u, hu, ru⟩ := RelO.some_of (v := v) (o := mA f) (by rw [← l]; exact r f)
 exact get_map I.kIn O (c.get f) c.hd n hu (handed_of ru) (h u _ (I.tok _) ru)
theorem getmeth_ok {m : Str} {g : Addr} {pl : Sem Bool} {Q : Value × List Value → Shared → Prop} (I : Inv X pins σ H s) (e : H a = some (.ins C dx fs)) (c : Cls X.K C) (k : Meth X.K C m g) (l : fs.lookup m = none)
  (h : Q (.ref g, [.ref a]) s) : wpAny (model X.prog X.w) A (getMethod (.ref a) m pl) Q E s := by
 obtain ⟨mA, O, r, _, _, _⟩ := ins_get I.hok e
 have hn : mA m = none := RelO.none_of (by rw [← l]; exact r m)
 exact get_meth I.kIn O (c.get m) k.at_ k.fn hn h
theorem setattr_ok {y : V} {u : Value} {Q : Unit → Shared → Prop} (I : Inv X pins σ H s) (e : H a = some (.ins C dx fs)) (c : Cls X.K C) (n : NoAttr X.K C f) (hl : fs.length < 1000) (ry : RelV y u)
  (h : ∀ s', Inv X pins σ (upd H a (.ins C dx (putF f y fs))) s' → Q () s') : wpAny (model X.prog X.w) A (setAttr (.ref a) f u) Q E s := by
 obtain ⟨mA, O, r, wi, _, ho⟩ := ins_get I.hok e
 have hz : (fs.map (·.1)).length ≤ sizeLine := by rw [List.length_map, sizeLine_eq]; omega
 refine set_map I.kIn O c.sa c.po n.taker c.hd wi hz fun h' O' sb => h _ ?_
 have hd : ∃ o, h'.get? dx = some o := let ⟨o, _, _, e', _⟩ := O'.ns; ⟨o, e'⟩
 refine I.write (x := a) (e := dx) (by rw [e]; exact True.intro) (.inr ho) (fun b q hb z => (sb.2 b hb).trans z) hd ?_
 refine ⟨by rw [upd_ne O.ne]; exact ho, ?_, O.ne, O'.obj, _, O'.ns, fun g => ?_, fun g hg => ?_⟩
 ·have := length_putF f y fs; omega
 ·show RelO ((putF f y fs).lookup g) (if g = f then some u else mA g)
  rw [lookup_putF]
  by_cases q : g = f
  ·rw [if_pos q, if_pos q]; exact ry
  ·rw [if_neg q, if_neg q]; exact r g
 ·by_cases q : g = f
  ·rw [q]; exact (keys_putF f y fs).1
  ·refine (keys_putF f y fs).2 g (wi g fun z => hg ?_)
   show (if g = f then some u else mA g) = none
   rw [if_neg q]; exact z
theorem Inv.made (I : Inv X pins σ H s) : Inv X pins σ (upd (upd H s.heap.objs.size (.own (s.heap.objs.size + 1))) (s.heap.objs.size + 1) (.ins C s.heap.objs.size []))
  { s with heap := (s.heap.push PySem.W.emptyDict).push (PySem.W.instObj C s.heap.objs.size) } := by
 have e1 : (s.heap.push PySem.W.emptyDict).get? s.heap.objs.size = some PySem.W.emptyDict := Heap.get?_push_size s.heap rfl
 have e2 : ((s.heap.push PySem.W.emptyDict).push (PySem.W.instObj C s.heap.objs.size)).get? (s.heap.objs.size + 1) = some (PySem.W.instObj C s.heap.objs.size) := by
  have := Heap.get?_push_size (s.heap.push PySem.W.emptyDict) (o := PySem.W.instObj C s.heap.objs.size) rfl
  rwa [Heap.size_push] at this
 have e3 : (s.heap.push PySem.W.emptyDict).Ns s.heap.objs.size (fun _ => none) := ⟨PySem.W.emptyDict, #[], _, e1, rfl, (fun e he => absurd he (by simp)), fun _ => rfl⟩
 have I1 := I.laid (a := s.heap.objs.size) (o := .own (s.heap.objs.size + 1)) (h' := s.heap.push PySem.W.emptyDict) (t' := s.toks) (fun b u q => Heap.get?_push_of_some _ q) (Nat.le_refl _) ⟨_, e1⟩
 refine I1.laid (a := s.heap.objs.size + 1) (o := .ins C s.heap.objs.size []) (t' := s.toks) (fun b u q => Heap.get?_push_of_some _ q) (Nat.le_of_eq (Heap.size_push _ _)) ?_
 have ne : s.heap.objs.size ≠ s.heap.objs.size + 1 := Nat.ne_of_lt (Nat.lt_succ_self _)
 refine ⟨by rw [upd_ne ne, upd_same], Nat.zero_le _, ne, e2, fun _ => none, (Heap.Ns1.of_empty e3).at fun o q => Heap.get?_push_of_some _ q, fun _ => True.intro, fun y hy => absurd rfl hy⟩
theorem attr_of {prog : Program} {w : World} {env : Env} {e : Expr} {f : Str} {pos : Pos} {s : Shared} {Q : Value → Shared → Prop} (hb : attributeBase e f env (eval e env) = eval e env)
  (h : wpAny (model prog w) A (eval e env) (fun o s₁ => wpAny (model prog w) A (getAttr o f true) Q E s₁) E s) : wpAny (model prog w) A (eval (.Attribute e f pos) env) Q E s :=
 Attribute_any_ h (by rw [arm_eval_Attribute, hb])
end
noncomputable def tFld (K : PySem.W.Frag) (ta : TE) (f : Str) : TE := fun σ H Q => ta σ H fun x H1 => ∃ a C dx fs v, x = .ref a ∧ H1 a = some (.ins C dx fs) ∧ Cls K C ∧ NoAttr K C f ∧ fs.lookup f = some v ∧ Q v H1
noncomputable def sFld (K : PySem.W.Frag) (ta tv : TE) (f : Str) : TS := fun D σ H => tv σ H fun y H1 => ta σ H1 fun x H2 => ∃ a C dx fs, x = .ref a ∧ H2 a = some (.ins C dx fs) ∧ Cls K C ∧ NoAttr K C f ∧ fs.length < 1000 ∧
 D.nx σ (upd H2 a (.ins C dx (putF f y fs)))
section
variable {X : Cx} {o e value : Expr} {f : Str} {pos pos' tpos : Pos} {ta tv : TE}
theorem pe_fld (he : PE X e ta) (hb : attributeBase e f X.env (eval e X.env) = eval e X.env) : PE X (.Attribute e f pos) (tFld X.K ta f) := by
 intro pins s σ H Q I h
 refine attr_of hb (thn (he pins s σ H _ I h) fun u s1 ⟨x, H1, I1, rx, a, C, dx, fs, v, ex, ea, c, n, l, q⟩ => ?_)
 subst ex
 obtain rfl : u = Value.ref a := rx
 exact getattr_ok I1 ea c n l fun u' s2 I2 ru => ⟨v, H1, I2, ru, q⟩
theorem ps_fld (ha : PE X o ta) (hv : PE X value tv) (hs : swapsWith value (some (.Attribute o f pos')) pos.line X.env = pure false) : PS X (.Assign [.Attribute o f pos'] value pos) (sFld X.K ta tv f) := by
 intro pins s σ H D I h
 refine plainObj_wpAny_Assign_Attribute (thn (hv pins s σ H _ I h) fun u s1 ⟨y, H1, I1, ry, q⟩ => thn (ha pins s1 σ H1 _ I1 q) fun ov s2 ⟨x, H2, I2, rx, a, C, dx, fs, ex, ea, c, n, l, q2⟩ => ?_) hs
 subst ex
 obtain rfl : ov = Value.ref a := rx
 exact setattr_ok I2 ea c n l ry fun s3 I3 => ⟨σ, _, I3, q2⟩
end
section
variable {X : Cx} {pins : List (Addr × Obj)} {σ : St} {H : Hp} {s : Shared} {A : Around} {E : Value → Shared → Prop} {Q : Value → Shared → Prop} {c : Value} {b : Bool}
inductive TyOf (K : PySem.W.Frag) (H : Hp) : V → Value → Prop where
 | non : TyOf K H .non (.type "NoneType")
 | bl (x : Bool) : TyOf K H (.bl x) (.type "bool")
 | int (i : Int) : TyOf K H (.int i) (.type "int")
 | str (x : Str) : TyOf K H (.str x) (.type "str")
 | flt (x : UInt64) : TyOf K H (.flt x) (.type "float")
 | lst {a : Addr} {xs : List V} (e : H a = some (.lst xs)) : TyOf K H (.ref a) (.type "list")
 | frz {a : Addr} {o : Obj} {xs : List V} (e : H a = some (.frz o (.lst xs))) : TyOf K H (.ref a) (.type "list")
 | tup {a : Addr} {xs : List V} (e : H a = some (.tup xs)) : TyOf K H (.ref a) (.type "tuple")
 | dK {a : Addr} {kvs : List (Key × V)} (e : H a = some (.dK kvs)) : TyOf K H (.ref a) (.type "dict")
 | dT {a : Addr} {kvs : List (List Key × V)} (e : H a = some (.dT kvs)) : TyOf K H (.ref a) (.type "dict")
 | ins {a C dx : Addr} {fs : List (Str × V)} (e : H a = some (.ins C dx fs)) (cl : Cls K C) (ha : PySem.W.findIn K (.ref C) "__class__" = some (some (.builtin "object.__class__")))
   (hn : PySem.W.specialIn K (.builtin "object.__class__") "__get__" = some (some (.builtin "getset_descriptor.__get__"))) (htk : PySem.W.takesIn K (.builtin "object.__class__") = some true)
   (hm : PySem.W.mroIn K C (.type "object") = some true) : TyOf K H (.ref a) (.ref C)
end
end L2
namespace L2
open PySem PySem.Spec PyProof.Rows
structure Room (k : Nat) (A : Around) : Prop where
 hd : A.handled = none
 dp : A.depth + 3 * k + 5 < recursionLimit
 un : A.units + 16 * k + 200 < cLine
theorem Room.mono {j k : Nat} {A : Around} (r : Room k A) (h : j ≤ k) : Room j A := ⟨r.hd, by have := r.dp; omega, by have := r.un; omega⟩
theorem Room.deeper {k : Nat} {A : Around} (r : Room (k + 1) A) (env : Env) : Room k (A.deeper env) :=
 ⟨r.hd, by have := r.dp; show A.depth + 1 + 3 * k + 5 < _; omega, by have := r.un; show A.units + 3 + 16 * k + 200 < _; omega⟩
theorem make_depth {A : Around} {C : Addr} {us : List Value} {kw : List (Str × Value)} : (A.under (.builtin "type.__call__" ⟨.ref C :: us, kw⟩)).depth = A.depth + 1 := by
 first | rfl | simp [Around.under, Code.weight, Code.isCreation, Code.isGuard, Code.isCaller, Code.frames, Code.isFrame, guardIds]
theorem make_units {A : Around} {C : Addr} {us : List Value} {kw : List (Str × Value)} : (A.under (.builtin "type.__call__" ⟨.ref C :: us, kw⟩)).units = A.units + 1 := by
 first | rfl | simp [Around.under, Code.cUnits, Code.frames, Code.isFrame]
theorem Room.make {k : Nat} {A : Around} (r : Room (k + 1) A) (C : Addr) (us : List Value) (kw : List (Str × Value)) : Room k (A.under (.builtin "type.__call__" ⟨.ref C :: us, kw⟩)) :=
 ⟨r.hd, by have := r.dp; rw [make_depth]; omega, by have := r.un; rw [make_units]; omega⟩
theorem Room.depth {k : Nat} {A : Around} (r : Room k A) : A.depth < recursionLimit := by have := r.dp; omega
theorem Room.units {k : Nat} {A : Around} (r : Room k A) : A.units + 64 < cLine := by have := r.un; omega
noncomputable def tNil : TA := fun _ H Q => Q [] H
noncomputable def tCons (ta : TE) (tr : TA) : TA := fun σ H Q => ta σ H fun x H1 => tr σ H1 fun xs H2 => Q (x :: xs) H2
section
variable {X : Cx} {e : Expr} {es : List Expr} {te : TE} {t : TA} {pos : Pos}
theorem pa_nil : PA X [] tNil := fun _ _ _ _ H Q I h => Calls.spliced_nil ⟨[], H, I, .nil, h⟩
theorem pa_cons (ha : PE X e te) (hr : PA X es t) (hs : autoParam (starEach (e :: es) X.env = (false, eval e X.env) :: starEach es X.env) L2.aRfl._auto_1) : PA X (e :: es) (tCons te t) := by
 intro pos pins s σ H Q I h
 rw [hs]
 show wpAny _ _ (spliced ((false, eval e X.env) :: backTo pos (starEach es X.env))) _ _ s
 refine Calls.spliced_cons (thn (ha pins s σ H _ I h) fun u s1 ⟨x, H1, I1, r1, q1⟩ => ?_)
 exact thn (hr pos pins s1 σ H1 _ I1 q1) fun us s2 ⟨xs, H2, I2, r2, q2⟩ => ⟨x :: xs, H2, I2, .cons r1 r2, q2⟩
noncomputable def tTup (t : TA) : TE := fun σ H Q => t σ H fun xs H1 => xs.length ≤ sizeLine ∧ ∀ p, H1 p = none → Q (.ref p) (upd H1 p (.tup xs))
noncomputable def tLst (t : TA) : TE := fun σ H Q => t σ H fun xs H1 => xs.length ≤ sizeLine ∧ ∀ p, H1 p = none → Q (.ref p) (upd H1 p (.lst xs))
theorem pe_tup {x1} (h : PA X es t) : PE X (.Tuple es x1 pos) (tTup t) := by
 intro pins s σ H Q I hq
 refine wpAny_Tuple_spliced (thn (h pos pins s σ H _ I hq) fun us s1 ⟨xs, H1, I1, r, z, q⟩ => ⟨by rw [← r.length]; exact z, ?_⟩)
 have hf : H1 s1.heap.objs.size = none := I1.hok.fresh (Nat.le_refl _)
 refine ⟨.ref s1.heap.objs.size, upd H1 s1.heap.objs.size (.tup xs), I1.laid (t' := s1.toks) (fun b u e => Heap.get?_push_of_some _ e) (Nat.le_refl _) ?_, rfl, q _ hf⟩
 exact ⟨z, us, r, ⟨_, Heap.get?_push_size _ rfl, rfl, _, rfl, rfl⟩⟩
theorem pe_lst (h : PA X es t) : PE X (.List es pos) (tLst t) := by
 intro pins s σ H Q I hq
 refine wpAny_List_spliced (thn (h pos pins s σ H _ I hq) fun us s1 ⟨xs, H1, I1, r, z, q⟩ => ⟨by rw [← r.length]; exact z, ?_⟩)
 have hf : H1 s1.heap.objs.size = none := I1.hok.fresh (Nat.le_refl _)
 refine ⟨.ref s1.heap.objs.size, upd H1 s1.heap.objs.size (.lst xs), I1.laid (t' := s1.toks) (fun b u e => Heap.get?_push_of_some _ e) (Nat.le_refl _) ?_, rfl, q _ hf⟩
 exact ⟨z, us, 0, r, Heap.get?_push_size _ rfl⟩
end
noncomputable abbrev Sp := List V → Hp → VK → XK → Prop
noncomputable abbrev CXT := List Env → Hp → Shared → XK → Value → Shared → Prop
structure Env0 (P : Program) (w : World) (K : PySem.W.Frag) (mg : Str → Option Value) (base : Heap) (A : Around) (outer : List Env) (s : Shared) (H : Hp) : Prop where
 frames : A.frames = some outer
 mod : Mod K mg base
 bs : ∀ b o, base.get? b = some o → s.heap.get? b = some o ∧ H b = none
 bsz : base.objs.size ≤ s.heap.objs.size
 funs : s.heap.FunFrames base outer
 frf : ∀ b ∈ frs outer, H b = none
 hok : HOk P w H s.heap
 bare : AllBare s.gens
noncomputable def CE (outer : List Env) (P : Program) (w : World) (H : Hp) (s : Shared) (Q : VK) (u : Value) (s' : Shared) : Prop :=
 ∃ v H', s'.os = s.os ∧ AllBare s'.gens ∧ Un (frs outer) [] H H' s.heap s'.heap ∧ HOk P w H' s'.heap ∧ RelV v u ∧ Q v H'
noncomputable def CR (CX : CXT) (outer : List Env) (P : Program) (w : World) (H : Hp) (s : Shared) (Q : VK) (E : XK) (r : Result) (s' : Shared) : Prop :=
 match r with
 | .ok (.ret u) => CE outer P w H s Q u s'
 | .ok _ => False
 | .error e => CX outer H s E e s'
structure FnOk (P : Program) (w : World) (K : PySem.W.Frag) (mg : Str → Option Value) (base : Heap) (CX : CXT) (k : Nat) (f : Addr) (fd : FuncData) (ps : List Str) (sp : Sp) : Prop where
 len : ∀ vs H Q E, sp vs H Q E → vs.length = ps.length
 run : ∀ (A : Around) (outer : List Env) (s : Shared) (H : Hp) (args : Args) (us : List Value) (vs : List V) (Q : VK) (E : XK), Room k A → Env0 P w K mg base A outer s H → BindsTo s fd args (ps.zip us) → Vals vs us → sp vs H Q E →
  codeAny (model P w) A (.call (.ref f) args) (CR CX outer P w H s Q E) s
theorem FnOk.mono {P : Program} {w : World} {K : PySem.W.Frag} {mg : Str → Option Value} {base : Heap} {CX : CXT} {j k : Nat} {f : Addr} {fd : FuncData} {ps : List Str} {sp : Sp} (F : FnOk P w K mg base CX j f fd ps sp) (h : j ≤ k) :
  FnOk P w K mg base CX k f fd ps sp := ⟨F.len, fun A outer s H args us vs Q E hr => F.run A outer s H args us vs Q E (hr.mono h)⟩
theorem FnOk.imp {P : Program} {w : World} {K : PySem.W.Frag} {mg : Str → Option Value} {base : Heap} {CX : CXT} {k : Nat} {f : Addr} {fd : FuncData} {ps : List Str} {sp sp' : Sp} (F : FnOk P w K mg base CX k f fd ps sp)
  (h : ∀ vs H Q E, sp' vs H Q E → sp vs H Q E) : FnOk P w K mg base CX k f fd ps sp' :=
 ⟨fun vs H Q E q => F.len vs H Q E (h _ _ _ _ q), fun A outer s H args us vs Q E hr he hb hv hs => F.run A outer s H args us vs Q E hr he hb hv (h _ _ _ _ hs)⟩
theorem Env0.make {P : Program} {w : World} {K : PySem.W.Frag} {mg : Str → Option Value} {base : Heap} {A : Around} {outer : List Env} {s : Shared} {H : Hp} (e : Env0 P w K mg base A outer s H) (C : Addr) (us : List Value) (kw : List (Str × Value)) :
  Env0 P w K mg base (A.under (.builtin "type.__call__" ⟨.ref C :: us, kw⟩)) outer s H := ⟨by first | exact e.frames | (simpa [Around.under, Code.envs, Code.isFrame, pushEnvs] using e.frames), e.mod, e.bs, e.bsz, e.funs, e.frf, e.hok, e.bare⟩
section
variable {X : Cx} {pins : List (Addr × Obj)} {σ : St} {H : Hp} {s s' : Shared}
theorem Inv.env0 (I : Inv X pins σ H s) : Env0 X.prog X.w X.K X.mg X.base X.A X.stack s H :=
 ⟨I.ok.frames, I.ok.mod, I.bs, Nat.le_trans I.ok.bsz I.sz, I.stack, I.stkFree, I.hok, I.bare⟩
theorem Inv.after {Q : VK} {u : Value} (I : Inv X pins σ H s) (h : CE X.stack X.prog X.w H s Q u s') : EP X pins σ Q u s' := by
 obtain ⟨v, H', os, bare, un, hok, r, q⟩ := h
 obtain ⟨hh, g, d, t, os'⟩ := s'
 obtain rfl : os' = s.os := os
 exact ⟨v, H', I.call (h' := hh) (g' := g) (d' := d) (t' := t) (ch := []) un hok bare (fun b z => absurd z (by simp)), r, q⟩
end
noncomputable def tCall (sp : Sp) (dvs : List V) (E : XK) (t : TA) : TE := fun σ H Q => t σ H fun vs H1 => sp (vs ++ dvs) H1 Q E
noncomputable def tMeth (C : Addr) (m : Str) (sp : Sp) (dvs : List V) (E : XK) (ta : TE) (t : TA) : TE := fun σ H Q => ta σ H fun x H1 => ∃ a dx fs, x = .ref a ∧ H1 a = some (.ins C dx fs) ∧ fs.lookup m = none ∧
 t σ H1 fun vs H2 => sp (x :: (vs ++ dvs)) H2 Q E
noncomputable def tMake (C : Addr) (sp : Sp) (dvs : List V) (E : XK) (t : TA) : TE := fun σ H Q => t σ H fun vs H1 => ∀ x dx, H1 x = none → H1 dx = none → dx ≠ x →
 sp (.ref x :: (vs ++ dvs)) (upd (upd H1 dx (.own x)) x (.ins C dx [])) (fun v H2 => v = .non ∧ Q (.ref x) H2) E
noncomputable def Binds (K : PySem.W.Frag) (fd : FuncData) (ps : List Str) (ds : List Value) : Prop :=
 ∀ (s : Shared) (us : List Value), K.In s.heap → (us ++ ds).length = ps.length → BindsTo s fd ⟨us, []⟩ (ps.zip (us ++ ds))
theorem Binds.all {K : PySem.W.Frag} {fd : FuncData} {ps : List Str} (h : ∀ us : List Value, us.length = ps.length → bindArgs fd ⟨us, []⟩ = pure (ps.zip us)) : Binds K fd ps [] := fun s us _ hl => by
 rw [List.append_nil] at hl ⊢
 exact .of_eq (h us hl)
noncomputable def Passes (CX : CXT) (X : Cx) (E : XK) : Prop := ∀ (pins : List (Addr × Obj)) (σ : St) (H : Hp) (s : Shared) (e : Value) (s' : Shared), Inv X pins σ H s → CX X.stack H s E e s' → X.xe e s'
section
variable {X : Cx} {CX : CXT} {k : Nat} {f C : Addr} {fd : FuncData} {ps : List Str} {sp : Sp} {dvs : List V} {ds : List Value} {E : XK} {x m : Str} {p pos apos : Pos} {e o : Expr} {es : List Expr} {ta : TE} {t : TA}
theorem run_fn {pins : List (Addr × Obj)} {σ : St} {H : Hp} {s : Shared} {Q : VK} {us : List Value} {vs : List V} (F : FnOk X.prog X.w X.K X.mg X.base CX k f fd ps sp) (hr : Room k X.A) (hb : Binds X.K fd ps ds) (hd : Vals dvs ds) (hx : Passes CX X E)
  (I : Inv X pins σ H s) (r : Vals vs us) (h : sp (vs ++ dvs) H Q E) : wpAny (model X.prog X.w) X.A (call (.ref f) us) (EP X pins σ Q) X.xe s := by
 have r2 : Vals (vs ++ dvs) (us ++ ds) := r.append hd
 have hl : (us ++ ds).length = ps.length := by rw [← r2.length]; exact F.len _ _ _ _ h
 refine wpAny_call (codeAny_mono (F.run X.A X.stack s H ⟨us, []⟩ (us ++ ds) (vs ++ dvs) Q E hr I.env0 (hb s us I.kIn hl) r2 h) fun r s' hq => ?_)
 cases r with
 | error e => exact hx pins σ H s e s' I hq
 | ok fl =>
  cases fl with
  | ret u => exact I.after hq
  | next => exact False.elim hq
  | brk => exact False.elim hq
  | cont => exact False.elim hq
theorem pe_call (F : FnOk X.prog X.w X.K X.mg X.base CX k f fd ps sp) (hr : Room k X.A) (hg : Gl X x) (hm : X.mg x = some (.ref f)) (hk : PySem.W.keepIn X.K (.ref f) = true) (hb : Binds X.K fd ps ds) (hd : Vals dvs ds) (hx : Passes CX X E)
  (ha : PA X (e :: es) t) (hdb : autoParam ((x == ("__debug__" : Str)) = false) L2.aDec._auto_1) (he : autoParam (starEach (e :: es) X.env = (false, eval e X.env) :: starEach es X.env) L2.aRfl._auto_1) (hpl : autoParam ((backTo pos (starEach es X.env)).any (·.1) = false) L2.aRfl._auto_1) :
  PE X (.Call (.Name x p) (e :: es) [] pos) (tCall sp dvs E t) := by
 intro pins s σ H Q I h
 refine wpAny_Call_Name_kw (ld_glob I hg hm ?_ hdb)
 refine PySem.W.callWith_K (h₀ := X.base) I.ok.mod.kin hk (thn (ha pos pins s σ H _ I h) fun us s1 ⟨vs, H1, I1, r, q⟩ => ⟨I1.kIn, ?_⟩) he hpl
 exact run_fn F hr hb hd hx I1 r q
theorem pe_meth {pl : Sem Bool} (he : PE X o ta) (c : Cls X.K C) (hm : Meth X.K C m f) (F : FnOk X.prog X.w X.K X.mg X.base CX k f fd ps sp) (hr : Room k X.A) (hb : Binds X.K fd ps ds) (hd : Vals dvs ds) (hx : Passes CX X E) (ha : PA X (e :: es) t)
  (hst : autoParam (starEach (e :: es) X.env = (false, eval e X.env) :: starEach es X.env) L2.aRfl._auto_1) (hpl : autoParam ((backTo pos (starEach es X.env)).any (·.1) = false) L2.aRfl._auto_1)
  (ht : autoParam (eval (.Call (.Attribute o m apos) (e :: es) [] pos) X.env = (do
   let ov ← eval o X.env
   standAt apos.atName
   let (f, first) ← holding [ov] (getMethod ov m pl)
   callWith pos f first (backTo pos (starEach (e :: es) X.env)) (backToKw pos (keywordEach [] X.env)))) L2.aRfl._auto_1) :
  PE X (.Call (.Attribute o m apos) (e :: es) [] pos) (tMeth C m sp dvs E ta t) := by
 intro pins s σ H Q I h
 refine PySem.W.methodCall_KW (pl := pl) (thn (he pins s σ H _ I h) fun u s1 ⟨x, H1, I1, rx, a, dx, fs, ex, ea, l, q⟩ => ?_) ht
 subst ex
 obtain rfl : u = Value.ref a := rx
 refine getmeth_ok I1 ea c hm l ?_
 refine PySem.W.callWith_K (first := [.ref a]) (h₀ := X.base) I.ok.mod.kin hm.kp (thn (ha pos pins s1 σ H1 _ I1 q) fun us s2 ⟨vs, H2, I2, r, q2⟩ => ⟨I2.kIn, ?_⟩) hst hpl
 exact run_fn (us := .ref a :: us) (vs := .ref a :: vs) F hr hb hd hx I2 (.cons rfl r) q2
theorem pe_meth0 {pl : Sem Bool} (he : PE X o ta) (c : Cls X.K C) (hm : Meth X.K C m f) (F : FnOk X.prog X.w X.K X.mg X.base CX k f fd ps sp) (hr : Room k X.A) (hb : Binds X.K fd ps ds) (hd : Vals dvs ds) (hx : Passes CX X E)
  (ht : autoParam (eval (.Call (.Attribute o m apos) [] [] pos) X.env = (do
   let ov ← eval o X.env
   standAt apos.atName
   let (f, first) ← holding [ov] (getMethod ov m pl)
   callWith pos f first (backTo pos (starEach [] X.env)) (backToKw pos (keywordEach [] X.env)))) L2.aRfl._auto_1) :
  PE X (.Call (.Attribute o m apos) [] [] pos) (tMeth C m sp dvs E ta tNil) := by
 intro pins s σ H Q I h
 refine PySem.W.methodCall_KW (pl := pl) (thn (he pins s σ H _ I h) fun u s1 ⟨x, H1, I1, rx, a, dx, fs, ex, ea, l, q⟩ => ?_) ht
 subst ex
 obtain rfl : u = Value.ref a := rx
 refine getmeth_ok I1 ea c hm l ?_
 exact PySem.W.callWith_K0 (first := [.ref a]) I1.kIn hm.kp (run_fn (us := [.ref a]) (vs := [.ref a]) F hr hb hd hx I1 (.cons rfl .nil) q)
structure Mk (K : PySem.W.Frag) (C f : Addr) : Prop where
 makes : PySem.W.makesIn K C = true
 init : PySem.W.findIn K (.ref C) "__init__" = some (some (.ref f))
 fn : PySem.W.isFn K (.ref f) = true
 kp : PySem.W.keepIn K (.ref C) = true
theorem run_make {pins : List (Addr × Obj)} {σ : St} {H : Hp} {s : Shared} {Q : VK} {us : List Value} {vs : List V} (M : Mk X.K C f) (F : FnOk X.prog X.w X.K X.mg X.base CX k f fd ps sp) (hr : Room (k + 1) X.A) (hb : Binds X.K fd ps ds) (hd : Vals dvs ds)
  (hx : Passes CX X E) (I : Inv X pins σ H s) (r : Vals vs us)
  (h : ∀ x dx, H x = none → H dx = none → dx ≠ x → sp (.ref x :: (vs ++ dvs)) (upd (upd H dx (.own x)) x (.ins C dx [])) (fun v H2 => v = .non ∧ Q (.ref x) H2) E) :
  wpAny (model X.prog X.w) X.A (call (.ref C) us) (EP X pins σ Q) X.xe s := by
 have hq := h (s.heap.objs.size + 1) s.heap.objs.size (I.hok.fresh (Nat.le_succ _)) (I.hok.fresh (Nat.le_refl _)) (Nat.ne_of_lt (Nat.lt_succ_self _))
 have I2 := Inv.made (C := C) I
 have r2 : Vals (V.ref (s.heap.objs.size + 1) :: (vs ++ dvs)) (Value.ref (s.heap.objs.size + 1) :: (us ++ ds)) := .cons rfl (r.append hd)
 have hl : (Value.ref (s.heap.objs.size + 1) :: us ++ ds).length = ps.length := by
  have e := r2.length
  rw [F.len _ _ _ _ hq] at e
  exact e.symm
 refine wpAny_call (make_map (f := f) I.kIn M.makes M.init (beq_iff_eq.mp M.fn) (codeAny_mono (F.run _ X.stack _ _ ⟨Value.ref (s.heap.objs.size + 1) :: us, []⟩ (Value.ref (s.heap.objs.size + 1) :: (us ++ ds)) _ _ E (hr.make C us [])
  (I2.env0.make C us []) (hb _ (Value.ref (s.heap.objs.size + 1) :: us) I2.kIn hl) r2 hq) fun r s' hq' => ?_))
 cases r with
 | error e => exact hx pins σ _ _ e s' I2 hq'
 | ok fl =>
  cases fl with
  | ret u =>
   obtain ⟨v, H', I3, rv, ev, q3⟩ := I2.after hq'
   subst ev
   exact ⟨rv, ⟨V.ref (s.heap.objs.size + 1), H', I3, rfl, q3⟩⟩
  | next => exact False.elim hq'
  | brk => exact False.elim hq'
  | cont => exact False.elim hq'
theorem pe_make (M : Mk X.K C f) (F : FnOk X.prog X.w X.K X.mg X.base CX k f fd ps sp) (hr : Room (k + 1) X.A) (hg : Gl X x) (hm : X.mg x = some (.ref C)) (hb : Binds X.K fd ps ds) (hd : Vals dvs ds) (hx : Passes CX X E)
  (ha : PA X (e :: es) t) (hdb : autoParam ((x == ("__debug__" : Str)) = false) L2.aDec._auto_1) (he : autoParam (starEach (e :: es) X.env = (false, eval e X.env) :: starEach es X.env) L2.aRfl._auto_1) (hpl : autoParam ((backTo pos (starEach es X.env)).any (·.1) = false) L2.aRfl._auto_1) :
  PE X (.Call (.Name x p) (e :: es) [] pos) (tMake C sp dvs E t) := by
 intro pins s σ H Q I h
 refine wpAny_Call_Name_kw (ld_glob I hg hm ?_ hdb)
 refine PySem.W.callWith_K (h₀ := X.base) I.ok.mod.kin M.kp (thn (ha pos pins s σ H _ I h) fun us s1 ⟨vs, H1, I1, r, q⟩ => ⟨I1.kIn, ?_⟩) he hpl
 exact run_make M F hr hb hd hx I1 r q
end
section
variable {X : Cx} {CX : CXT} {k : Nat} {f C : Addr} {fd : FuncData} {ps ks : List Str} {sp : Sp} {E : XK} {x m : Str} {p pos apos kpos : Pos} {e o : Expr} {es : List Expr} {kws : List Keyword} {te ta : TE} {t tk : TA} {nm : Option Str}
variable {g : List Value → List Value → List Value} {gV : List V → List V → List V}
end
structure FnScope (N P : List Str) (sc : Scope) : Prop where
 kind : sc.kind = .function
 co : sc.isCoroutine = false
 gen : sc.isGenerator = false
 nd : N.Nodup
 pre : N.take P.length = P
 par : ∀ x ∈ P, sc.names.lookup x = some .local ∨ sc.names.lookup x = some .cell
 nofree : ∀ y ∈ sc.names, y.2 ≠ .free
theorem bindL_out {kindOf : Str → Option NameKind} {x : Str} : ∀ {binds : List (Str × Value)} {m : Str → Option Value}, (∀ v, (x, v) ∉ binds) → bindL kindOf binds m x = m x
 | [], _, _ => rfl
 | (n, v) :: r, m, h => by
  unfold bindL
  rw [bindL_out fun w hw => h w (List.mem_cons_of_mem _ hw)]
  split
  ·have : x ≠ n := by rintro rfl; exact h v List.mem_cons_self
   simp [this]
  ·rfl
theorem bindC_out {kindOf : Str → Option NameKind} {x : Str} : ∀ {binds : List (Str × Value)} {m : Str → Option Value}, (∀ v, (x, v) ∉ binds) → bindC kindOf binds m x = m x
 | [], _, _ => rfl
 | (n, v) :: r, m, h => by
  unfold bindC
  rw [bindC_out fun w hw => h w (List.mem_cons_of_mem _ hw)]
  split
  ·rfl
  ·have : x ≠ n := by rintro rfl; exact h v List.mem_cons_self
   simp [this]
theorem bindL_get {kindOf : Str → Option NameKind} {x : Str} {v : Value} : ∀ {P : List Str} {vs : List Value} {i : Nat} {m : Str → Option Value}, P.Nodup → P[i]? = some x → vs[i]? = some v → kindOf x = some .local →
  bindL kindOf (P.zip vs) m x = some v
 | [], _, _, _, _, h, _, _ => by simp at h
 | _ :: _, [], _, _, _, _, h, _ => by simp at h
 | p :: P, w :: vs, 0, m, nd, h1, h2, hk => by
  simp at h1 h2; subst h1; subst h2
  show bindL kindOf ((p, w) :: P.zip vs) m p = _
  unfold bindL
  rw [bindL_out fun v hv => (List.nodup_cons.mp nd).1 (List.of_mem_zip hv).1, if_pos hk]
  simp
 | p :: P, w :: vs, i + 1, m, nd, h1, h2, hk => by
  show bindL kindOf ((p, w) :: P.zip vs) m x = _
  unfold bindL
  exact bindL_get (i := i) (List.nodup_cons.mp nd).2 (by simpa using h1) (by simpa using h2) hk
theorem bindC_get {kindOf : Str → Option NameKind} {x : Str} {v : Value} : ∀ {P : List Str} {vs : List Value} {i : Nat} {m : Str → Option Value}, P.Nodup → P[i]? = some x → vs[i]? = some v → kindOf x ≠ some .local →
  bindC kindOf (P.zip vs) m x = some v
 | [], _, _, _, _, h, _, _ => by simp at h
 | _ :: _, [], _, _, _, _, h, _ => by simp at h
 | p :: P, w :: vs, 0, m, nd, h1, h2, hk => by
  simp at h1 h2; subst h1; subst h2
  show bindC kindOf ((p, w) :: P.zip vs) m p = _
  unfold bindC
  rw [bindC_out fun v hv => (List.nodup_cons.mp nd).1 (List.of_mem_zip hv).1, if_neg hk]
  simp
 | p :: P, w :: vs, i + 1, m, nd, h1, h2, hk => by
  show bindC kindOf ((p, w) :: P.zip vs) m x = _
  unfold bindC
  exact bindC_get (i := i) (List.nodup_cons.mp nd).2 (by simpa using h1) (by simpa using h2) hk
noncomputable def start (N : List Str) (vs : List V) : St := vs.map some ++ List.replicate (N.length - vs.length) none
noncomputable def cxOf (CX : CXT) (P : Program) (w : World) (K : PySem.W.Frag) (mg : Str → Option Value) (base : Heap) (N : List Str) (qual : Str) (scope : Scope) (f : Addr) (cd : Value) (A : Around) (outer : List Env) (s : Shared) (H : Hp) (E : XK) : Cx where
 prog := P
 w := w
 K := K
 mg := mg
 base := base
 A := A.deeper (envOfC qual scope s.heap.objs.size f cd)
 N := N
 s₀ := s
 H₀ := H
 env := envOfC qual scope s.heap.objs.size f cd
 outer := outer
 stack := envOfC qual scope s.heap.objs.size f cd :: outer
 ex := []
 calm := true
 fn := fun _ => true
 pn := []
 xe := fun e s' => wpAny (model P w) (A.deeper (envOfC qual scope s.heap.objs.size f cd)) (leaving (envOfC qual scope s.heap.objs.size f cd) e) (fun _ s'' => CX outer H s E e s'') (fun e' s'' => CX outer H s E e' s'') s'
theorem cell_has {sc : Scope} {n : Nat} {x : Str} (h : sc.names.lookup x = some .cell) : ∃ c, (cellsFrom n sc.names []).lookup x = some c := by
 have q := PySem.W.cellsFrom_some sc.names n [] (.inl h)
 exact Option.isSome_iff_exists.mp q
theorem inv_start {CX : CXT} {P : Program} {w : World} {K : PySem.W.Frag} {mg : Str → Option Value} {base : Heap} {N ps : List Str} {qual : Str} {scope : Scope} {f : Addr} {cd : Value} {A : Around} {outer : List Env} {s s1 : Shared} {H : Hp} {E : XK} {us : List Value} {vs : List V}
  (S : FnScope N ps scope) (hd : A.handled = none) (e0 : Env0 P w K mg base A outer s H) (hl : vs.length = ps.length) (r : Vals vs us)
  (x : InCallC s s.heap.objs.size (bindL (envOfC qual scope s.heap.objs.size f cd).kindOf (ps.zip us) fun _ => none) (cellsFrom (s.heap.objs.size + 1) scope.names []) (bindC (envOfC qual scope s.heap.objs.size f cd).kindOf (ps.zip us) fun _ => none) s1) :
  Inv (cxOf CX P w K mg base N qual scope f cd A outer s H E) [] (start N vs) H s1 := by
 have hpl : ps.length ≤ N.length := by have := congrArg List.length S.pre; rw [List.length_take] at this; omega
 obtain ⟨h1, tk, rfl, hk⟩ := x.done
 have noA : ∀ b : Addr, b ∉ (cxOf CX P w K mg base N qual scope f cd A outer s H E).ex := fun b z => absurd (show b ∈ ([] : List Addr) from z) (by simp)
 refine ⟨⟨e0.mod, S.kind, rfl, rfl, Nat.le_refl _, fun y z c h1 h2 => ?_, fun y hy => ?_, fun y c _ h => ?_, fun _ => hd, Around.frames_deeper e0.frames, .inr ⟨rfl, rfl⟩, fun b z => absurd z (noA b), e0.bs, e0.bsz, fun b _ _ => noA b, fun b z => absurd z (noA b), e0.funs, e0.frf⟩,
  rfl, e0.bare, Un.kept hk, ⟨_, x.toInCall.ns, fun i y v h1 h2 h3 => ?_⟩, fun y c h => ⟨_, x.cell y c h⟩, e0.hok.fresh (Nat.le_refl _), fun y c h => ?_, fun p hp => absurd (show p ∈ ([] : List (Addr × Obj)) from hp) (by simp), e0.hok.kept hk, ?_⟩
 ·exact name_of_addr x.apart (PySem.mem_of_lookup h1) (PySem.mem_of_lookup h2)
 ·have hy : scope.names.lookup y = some .cell ∨ scope.names.lookup y = some .free := hy
  rcases hy with hy | hy
  ·exact cell_has hy
  ·exact absurd rfl (S.nofree _ (PySem.mem_of_lookup hy))
 ·exact Nat.le_of_lt (x.above y c (PySem.mem_of_lookup h))
 ·have hi : i < vs.length := by
   unfold start at h2
   by_cases hi : i < vs.length
   ·exact hi
   ·rw [List.getElem?_append_right (by simpa using hi)] at h2
    rw [List.getElem?_replicate] at h2
    split at h2 <;> cases h2
  have ha : vs[i]? = some v := by
   unfold start at h2
   rw [List.getElem?_append_left (by simpa using hi), List.getElem?_map] at h2
   cases e : vs[i]? with
   | none => rw [e] at h2; cases h2
   | some a => rw [e] at h2; cases h2; rfl
  obtain ⟨u, hu, rv⟩ := r.get ha
  have hp : ps[i]? = some y := by
   rw [← S.pre, List.getElem?_take_of_lt (by omega)]; exact h1
  have ndP : ps.Nodup := by rw [← S.pre]; exact S.nd.sublist (List.take_sublist _ _)
  refine ⟨u, rv, ?_⟩
  rcases S.par y (List.mem_of_getElem? hp) with k | k
  ·exact .inl ⟨k, bindL_get ndP hp hu k⟩
  ·obtain ⟨c, e⟩ := cell_has (n := s.heap.objs.size + 1) k
   refine .inr ⟨.inl k, c, e, ?_⟩
   have q := x.cell y c e
   rw [bindC_get ndP hp hu (by show scope.names.lookup y ≠ _; rw [k]; decide)] at q
   exact q
 ·exact e0.hok.fresh (Nat.le_of_lt (x.above y c (PySem.mem_of_lookup h)))
 ·unfold start
  show _ = N.length
  rw [List.length_append, List.length_map, List.length_replicate]
  omega
theorem fn_of {CX : CXT} {P : Program} {w : World} {K : PySem.W.Frag} {mg : Str → Option Value} {base : Heap} {k : Nat} {f : Addr} {name qual : Str} {params : Arguments} {body : List Stmt} {scope : Scope} {dV kV doc pm cdv ct oc : Value} {an od : Option Addr}
  {osl : Array (Option Value)} {N ps : List Str} {sp : Sp} (lk : K.lookup f = some ⟨oc, od, .func (PySem.W.fnOf name qual params body scope dV kV doc pm an cdv ct), osl⟩) (hcd : PySem.W.codeIn K cdv qual = true) (S : FnScope N ps scope)
  (len : ∀ vs H Q E, sp vs H Q E → vs.length = ps.length)
  (hbody : ∀ (A : Around) (outer : List Env) (s : Shared) (H : Hp) (vs : List V) (Q : VK) (E : XK), Room k (A.deeper (envOfC qual scope s.heap.objs.size f cdv)) → sp vs H Q E →
   ∃ t, PSs (cxOf CX P w K mg base N qual scope f cdv A outer s H E) body t ∧ t { nx := fun _ H' => Q .non H', rt := Q } (start N vs) H) :
  FnOk P w K mg base CX (k + 1) f (PySem.W.fnOf name qual params body scope dV kV doc pm an cdv ct) ps sp := by
 refine ⟨len, fun A outer s H args us vs Q E hr e0 hb r hsp => ?_⟩
 have hl := len _ _ _ _ hsp
 have KX : K.In s.heap := e0.mod.kin.keeps fun b o e => (e0.bs b o e).1
 have lim : s.heap.NoLimit := e0.mod.nolimit.keeps fun b o e => (e0.bs b o e).1
 have hkind : ∀ y ∈ ps.zip us, scope.names.lookup y.1 = some .local ∨ (scope.names.lookup y.1 = some .cell ∧ ((cellsFrom (s.heap.objs.size + 1) scope.names []).lookup y.1).isSome = true) := fun ⟨n, v⟩ hy => by
  rcases S.par n (List.of_mem_zip hy).1 with q | q
  ·exact .inl q
  ·exact .inr ⟨q, PySem.W.cellsFrom_some _ _ _ (.inl q)⟩
 refine codeAny_call_function hr.depth (KX _ _ lk) rfl S.co S.gen rfl (PySem.W.codeRec_of KX hcd) (hb _ _ _ _ ?_)
 refine wpAny_newFunctionEnv_cells S.kind hkind fun env he s1 x => ?_
 subst he
 refine ⟨lim.keeps x.toInCall.keep, codeAny_func ?_⟩
 obtain ⟨t, ht, hq⟩ := hbody A outer s H vs Q E (hr.deeper _) hsp
 have I : Inv (cxOf CX P w K mg base N qual scope f cdv A outer s H E) [] (start N vs) H s1 := inv_start S hr.hd e0 hl r x
 refine wpAny_mono (ht [] s1 (start N vs) H _ I hq) (fun fl s' hs => ?_) fun e s' hs => hs
 have fin : ∀ {σ' : St} {H' : Hp} {v : V} {u : Value}, Inv (cxOf CX P w K mg base N qual scope f cdv A outer s H E) [] σ' H' s' → RelV v u → Q v H' → CE outer P w H s Q u s' :=
  fun {σ' H' v u} J rv q => ⟨v, H', J.os, J.bare, J.base, J.hok, rv, q⟩
 cases fl with
 | ret u =>
  obtain ⟨v, σ', H', J, rv, q⟩ := hs
  exact fin J rv q
 | next =>
  obtain ⟨σ', H', J, q⟩ := hs
  exact fin (v := V.non) (u := Value.none) J rfl q
 | brk =>
  obtain ⟨_, _, _, q⟩ := hs
  exact False.elim q
 | cont =>
  obtain ⟨_, _, _, q⟩ := hs
  exact False.elim q
end L2
namespace L2
open PySem PySem.Spec PyProof.Rows
section
variable {X : Cx} {x : Str} {p pos : Pos} {e : Expr} {es : List Expr} {t : TA} {id T : String} {r : List V → Hp → VK → Prop}
noncomputable def tCB (r : List V → Hp → VK → Prop) (t : TA) : TE := fun σ H Q => t σ H fun vs H1 => r vs H1 Q
theorem pe_callB (hc : CallR X (.builtin id) r) (hg : Gl X x) (hm : X.mg x = none) (hv : bootBuiltins x = some (.builtin id)) (ha : PA X (e :: es) t) (hn : autoParam (x ≠ "__name__") L2.aDec._auto_1) (hdb : autoParam ((x == ("__debug__" : Str)) = false) L2.aDec._auto_1)
  (he : autoParam (starEach (e :: es) X.env = (false, eval e X.env) :: starEach es X.env) L2.aRfl._auto_1) (hpl : autoParam ((backTo pos (starEach es X.env)).any (·.1) = false) L2.aRfl._auto_1) : PE X (.Call (.Name x p) (e :: es) [] pos) (tCB r t) := by
 intro pins s σ H Q I h
 refine wpAny_Call_Name_kw (ld_blt I hg hm hv ?_ hn hdb)
 exact PyProof.Rows.callWith_builtin1 (thn (ha pos pins s σ H _ I h) fun us s1 ⟨vs, H1, I1, r1, q1⟩ => hc pins s1 σ H1 vs us Q I1 r1 q1) he hpl
theorem pe_callTy (hc : CallR X (.type T) r) (hg : Gl X x) (hm : X.mg x = none) (hv : bootBuiltins x = some (.type T)) (ha : PA X (e :: es) t) (hn : autoParam (x ≠ "__name__") L2.aDec._auto_1) (hdb : autoParam ((x == ("__debug__" : Str)) = false) L2.aDec._auto_1)
  (he : autoParam (starEach (e :: es) X.env = (false, eval e X.env) :: starEach es X.env) L2.aRfl._auto_1) (hpl : autoParam ((backTo pos (starEach es X.env)).any (·.1) = false) L2.aRfl._auto_1) : PE X (.Call (.Name x p) (e :: es) [] pos) (tCB r t) := by
 intro pins s σ H Q I h
 refine wpAny_Call_Name_kw (ld_blt I hg hm hv ?_ hn hdb)
 exact PyProof.Rows.callWith_type1 (thn (ha pos pins s σ H _ I h) fun us s1 ⟨vs, H1, I1, r1, q1⟩ => hc pins s1 σ H1 vs us Q I1 r1 q1) he hpl
end
end L2
namespace HT
open PySem PyProof.Rows
section
open PySem.SeqAt
open PySem.AutoSeq1 (wpAny_loadPart')
open PySem.MeetsSeq PySem.MeetsSeq2 PySem.MeetsSeq3
end
section
variable {prog : Program} {w : World} {A : Around} {E : Value → Shared → Prop} {s : Shared}
theorem cat_tup {t b : Addr} {vs ws : List Value} {Q : Value → Shared → Prop} (ht : IsTup s.heap t vs.toArray) (hb : IsTup s.heap b ws.toArray) (hv : vs ≠ [])
  (h1 : ws = [] → Q (.ref t) s) (h2 : ws ≠ [] → Q (.ref s.heap.objs.size) { s with heap := s.heap.push { cls := .type "tuple", data := .seq (vs ++ ws).toArray } })
  (hsz : vs.length + ws.length ≤ sizeLine) : wpAny (model prog w) A (binaryOp .Add (.ref t) (.ref b)) Q E s := by
 obtain ⟨⟨cls, dd, data, sl⟩, ho, hc, n, hd⟩ := id ht
 obtain ⟨⟨cls2, dd2, data2, sl2⟩, ho2, hc2, n2, hd2⟩ := id hb
 simp only at hc hd hc2 hd2
 subst hc hd hc2 hd2
 have e : vs.toArray ++ ws.toArray = (vs ++ ws).toArray := by simp
 by_cases hw : ws = []
 ·exact concat_meets ⟨_, ho, rfl⟩ ⟨_, ho2, rfl⟩ noFill_tuple_add seq_tuple_add PySem.F.slot_tuple_add PySem.F.entry_tuple_add (PySem.F.args_tuple_add_2 _ _)
   (tuple_addW1 t b vs.toArray ws.toArray n n2 dd dd2 sl sl2 (by simpa using hv) (by simp [hw])) ⟨ho, ho2, h1 hw⟩
 ·refine concat_meets ⟨_, ho, rfl⟩ ⟨_, ho2, rfl⟩ noFill_tuple_add seq_tuple_add PySem.F.slot_tuple_add PySem.F.entry_tuple_add (PySem.F.args_tuple_add_2 _ _)
   (tuple_addW2 t b vs.toArray ws.toArray n n2 dd dd2 sl sl2 (by simpa using hv) (by simpa using hw) (by rw [List.size_toArray, List.size_toArray]; exact hsz)) ⟨ho, ho2, ?_⟩
  rw [e]
  exact h2 hw
noncomputable def sIx (n d : Nat) : Option Int → Nat
 | none => d
 | some v => if v < 0 then (v + (n : Int)).toNat else min v.toNat n
theorem sIx_none (n d : Nat) : sIx n d none = d := rfl
theorem sIx_nat (n d k : Nat) : sIx n d (some (k : Int)) = min k n := by
 show (if (k : Int) < 0 then ((k : Int) + (n : Int)).toNat else min (k : Int).toNat n) = min k n
 rw [if_neg (by omega), Int.toNat_natCast]
theorem sIx_le (n d : Nat) (hd : d ≤ n) (o : Option Int) : sIx n d o ≤ n := by
 cases o with
 | none => exact hd
 | some v =>
  show (if v < 0 then (v + (n : Int)).toNat else min v.toNat n) ≤ n
  by_cases hv : v < 0
  ·rw [if_pos hv]; omega
  ·rw [if_neg hv]; exact Nat.min_le_right _ _
theorem clip_eq (v : Int) (n d : Nat) : (if v < 0 then max (v + (n : Int)) 0 else min v (n : Int)) = ((sIx n d (some v) : Nat) : Int) := by
 show (if v < 0 then max (v + (n : Int)) 0 else min v (n : Int)) = (((if v < 0 then (v + (n : Int)).toNat else min v.toNat n) : Nat) : Int)
 by_cases hv : v < 0
 ·simp only [if_pos hv]; omega
 ·simp only [if_neg hv]; omega
theorem adjust_gen (lo hi : Option Int) (n : Nat) : Builtin.Slice.sliceAdjust lo hi 1 (n : Int) = (((sIx n 0 lo : Nat) : Int), ((sIx n n hi : Nat) : Int)) := by
 have h1 : ¬ ((1 : Int) < 0) := by omega
 unfold Builtin.Slice.sliceAdjust
 simp only [h1, if_false]
 refine Prod.ext ?_ ?_
 ·cases lo with
  | none => rfl
  | some v => exact clip_eq v n 0
 ·cases hi with
  | none => rfl
  | some v => exact clip_eq v n n
theorem places_gen (i j : Nat) : Builtin.Slice.slicePlaces (i : Int) (j : Int) 1 = j - i := by
 unfold Builtin.Slice.slicePlaces
 have h1 : (1 : Int) > 0 := by omega
 simp only [h1, if_true, Int.ediv_one]
 split <;> omega
theorem slicePart_ {v : Value} {o : Option Int} {Q : Option Int → Shared → Prop} (p : IsPart v o) (h : Q o s) : wpAny (model prog w) A (Builtin.Slice.slicePartIndex v) Q E s := by
 cases p with
 | none => exact slicePart_none h
 | int i t => exact slicePart_int h
theorem sliceApplied_gen {sl : Addr} {vl vu : Value} {lo hi : Option Int} {n : Nat} {Q : Int × Int × Nat → Shared → Prop} (hs : s.heap.IsSliceOf sl vl vu .none) (pl : IsPart vl lo) (pu : IsPart vu hi)
  (h : Q (((sIx n 0 lo : Nat) : Int), 1, sIx n n hi - sIx n 0 lo) s) : wpAny (model prog w) A (Builtin.Slice.sliceApplied (.ref sl) (pure (n : Int))) Q E s := by
 obtain ⟨os, hos, hcs, hds⟩ := id hs
 unfold Builtin.Slice.sliceApplied Builtin.Slice.sliceFields
 refine wpAny_bind (wpAny_bind (wpAny_field hos hds (x := vl) rfl (wpAny_bind (wpAny_field hos hds (x := vu) rfl (wpAny_bind (wpAny_field hos hds (x := .none) rfl (wpAny_pure ?_)))))))
 refine wpAny_bind (slicePart_none ?_)
 show wpAny _ _ (if ((1 : Int) == 0) = true then _ else _) _ _ s
 rw [if_neg (by decide)]
 refine wpAny_bind (slicePart_ pl (wpAny_bind (slicePart_ pu (wpAny_bind (wpAny_pure ?_)))))
 show wpAny _ _ (match Builtin.Slice.sliceAdjust lo hi 1 (n : Int) with | (lo, hi) => pure (lo, (1 : Int), Builtin.Slice.slicePlaces lo hi 1)) _ _ s
 rw [adjust_gen lo hi n]
 show wpAny _ _ (pure (((sIx n 0 lo : Nat) : Int), (1 : Int), Builtin.Slice.slicePlaces ((sIx n 0 lo : Nat) : Int) ((sIx n n hi : Nat) : Int) 1)) _ _ s
 rw [places_gen]
 exact wpAny_pure h
theorem pick_gen (xs : Array Value) (i k : Nat) : ((List.range k).filterMap fun (m : Nat) => xs[((i : Int) + (m : Int) * 1).toNat]?).toArray = ((xs.toList.drop i).take k).toArray := by
 have e : (fun (m : Nat) => xs[((i : Int) + (m : Int) * 1).toNat]?) = fun m => xs[i + m]? := by
  funext m
  have : ((i : Int) + (m : Int) * 1).toNat = i + m := by omega
  rw [this]
 rw [e]
 have := pick_run xs i k
 rw [List.filterMap_map] at this
 have e2 : ((fun x => xs[x]?) ∘ fun x => i + x) = fun m => xs[i + m]? := rfl
 rw [e2] at this
 rw [this]
theorem getItem_tuple_cut {t sl : Addr} {items : Array Value} {vl vu : Value} {lo hi : Option Int} {Q : Value → Shared → Prop} (ht : IsTup s.heap t items) (hs : s.heap.IsSliceOf sl vl vu .none) (pl : IsPart vl lo) (pu : IsPart vu hi)
  (hw : ¬ (sIx items.size 0 lo = 0 ∧ sIx items.size items.size hi = items.size))
  (h : Q (.ref s.heap.objs.size) { s with heap := s.heap.push { cls := .type "tuple", data := .seq ((items.toList.drop (sIx items.size 0 lo)).take (sIx items.size items.size hi - sIx items.size 0 lo)).toArray } })
  (hsz : items.size ≤ sizeLine) : wpAny (model prog w) A (getItem (.ref t) (.ref sl)) Q E s := by
 have htake : sizeOk (.seq ((items.toList.drop (sIx items.size 0 lo)).take (sIx items.size items.size hi - sIx items.size 0 lo)).toArray) := by
  show ((items.toList.drop (sIx items.size 0 lo)).take (sIx items.size items.size hi - sIx items.size 0 lo)).toArray.size ≤ sizeLine
  rw [List.size_toArray, List.length_take, List.length_drop, Array.length_toList]
  omega
 have hj : sIx items.size items.size hi ≤ items.size := sIx_le _ _ (Nat.le_refl _) hi
 obtain ⟨os, hos, hcs, hds⟩ := id hs
 have hTs : s.TypeIs (.ref sl) "slice" := ⟨os, hos, hcs⟩
 unfold getItem
 try with_reducible refine wpAny_holding ?_
 first | refine wpAny_bind (wpAny_pure ?_) | skip
 refine wpAny_bind (wpAny_sequenceKey ht.typeIs (by decide) ?_)
 refine wpAny_bind (wpAny_callSpecial?_slot (name := Str.ofString "__getitem__") ht.typeIs PyProof.Rows.slot_tuple_getitem
  (wpAny_call_entry PyProof.Rows.slot_tuple_getitem ht.typeIs entry_tuple_getitem ?_ (args_tuple_getitem _ _)))
 show wpAny _ _ (Builtin.Tuple.tupleItemsOf (.ref t) >>= _) _ _ s
 refine wpAny_bind (tupleItemsOf_ ht ?_)
 refine wpAny_bind (wpAny_typeOf hTs ?_)
 rw [if_pos (by decide)]
 refine wpAny_bind (sliceApplied_gen hs pl pu ?_)
 have hno : ¬ ((((sIx items.size 0 lo : Nat) : Int) == 0 && (1 : Int) == 1 && (sIx items.size items.size hi - sIx items.size 0 lo) == items.size) = true) := by
  intro q
  rw [Bool.and_eq_true, Bool.and_eq_true] at q
  have q1 : ((sIx items.size 0 lo : Nat) : Int) = 0 := eq_of_beq q.1.1
  have q2 : sIx items.size items.size hi - sIx items.size 0 lo = items.size := eq_of_beq q.2
  exact hw ⟨by omega, by omega⟩
 show wpAny _ _ (if (((sIx items.size 0 lo : Nat) : Int) == 0 && (1 : Int) == 1 && (sIx items.size items.size hi - sIx items.size 0 lo) == items.size) = true then _ else _) _ _ s
 rw [if_neg hno, pick_gen]
 first
  | exact wpAny_bind (m := Builtin.Tuple.tupleExact _) (wpAny_newObj_type (wpAny_pure ⟨_, rfl, wpAny_pure h⟩) htake)
  | exact wpAny_bind (m := Builtin.Tuple.tupleExact _) (wpAny_newObj_type (wpAny_bind (wpAny_pure (wpAny_pure ⟨_, rfl, wpAny_pure h⟩))) htake)
  | exact wpAny_bind (wpAny_bind (m := Builtin.Tuple.tupleExact _) (wpAny_newObj_type (wpAny_pure (wpAny_pure ⟨_, rfl, wpAny_pure h⟩)) htake))
  | exact wpAny_bind (wpAny_bind (m := Builtin.Tuple.tupleExact _) (wpAny_newObj_type (wpAny_pure ⟨_, rfl, wpAny_pure h⟩) htake))
end
end HT
namespace L2
open PySem PySem.Spec PyProof.Rows
noncomputable abbrev TO := St → Hp → (Option Int → Hp → Prop) → Prop
noncomputable def PO (X : Cx) (e : Option Expr) (t : TO) : Prop :=
 ∀ (pins : List (Addr × Obj)) (s : Shared) (σ : St) (H : Hp) (Q : Option Int → Hp → Prop), Inv X pins σ H s → t σ H Q →
  wpAny (model X.prog X.w) X.A (evalPart e X.env) (fun u s' => ∃ o H', Inv X pins σ H' s' ∧ IsPart u o ∧ Q o H') X.xe s
noncomputable def tNoPart : TO := fun _ H Q => Q none H
noncomputable def tPart (t : TE) : TO := fun σ H Q => t σ H fun x H1 => ∃ i, x = .int i ∧ Q (some i) H1
theorem intsAre_of {ns : List Int} : ∀ {us : List Value}, Vals (ns.map V.int) us → IntsAre us ns := by
 induction ns with
 | nil => intro us r; rw [List.map_nil] at r; cases r; exact .nil
 | cons n ns ih =>
  intro us r
  rw [List.map_cons] at r
  cases r with
  | cons r1 r2 =>
   obtain ⟨t, e⟩ := r1
   subst e
   exact .cons n t (ih r2)
section
variable {X : Cx} {e : Expr} {te : TE} {lo hi : Option Expr} {tl th : TO} {pos p2 : Pos}
theorem po_none : PO X none tNoPart := by
 intro pins s σ H Q I h
 rw [evalPart_none]
 exact wpAny_pure ⟨none, H, I, .none, h⟩
theorem po_some (h : PE X e te) : PO X (some e) (tPart te) := by
 intro pins s σ H Q I hw
 rw [evalPart_some]
 refine thn (h pins s σ H _ I hw) fun u s1 ⟨x, H1, I1, r1, q1⟩ => ?_
 obtain ⟨i, rfl, q⟩ := q1
 obtain ⟨t, rfl⟩ := r1
 exact ⟨some i, H1, I1, .int i t, q⟩
noncomputable def SlR (X : Cx) (r : V → Option Int → Option Int → Hp → VK → Prop) : Prop :=
 ∀ (pins : List (Addr × Obj)) (s : Shared) (σ : St) (H : Hp) (x : V) (v vl vu : Value) (lo hi : Option Int) (sl : Addr) (Q : VK), Inv X pins σ H s → RelV x v → s.heap.IsSliceOf sl vl vu .none → IsPart vl lo → IsPart vu hi → r x lo hi H Q →
  ∃ T id, typeLookup (.type T) "__getitem__" = pure (some (.builtin id)) ∧ s.TypeIs v T ∧ wpAny (model X.prog X.w) X.A (getItem v (.ref sl)) (EP X pins σ Q) X.xe s
theorem SlR.or {r r' : V → Option Int → Option Int → Hp → VK → Prop} (h : SlR X r) (h' : SlR X r') : SlR X (fun x lo hi H Q => r x lo hi H Q ∨ r' x lo hi H Q) := by
 intro pins s σ H x v vl vu lo hi sl Q I rx hs pl pu q
 rcases q with q | q
 ·exact h pins s σ H x v vl vu lo hi sl Q I rx hs pl pu q
 ·exact h' pins s σ H x v vl vu lo hi sl Q I rx hs pl pu q
noncomputable def tSl (r : V → Option Int → Option Int → Hp → VK → Prop) (te : TE) (tl th : TO) : TE := fun σ H Q => te σ H fun x H1 => tl σ H1 fun l H2 => th σ H2 fun u H3 => r x l u H3 Q
theorem pe_slice {r : V → Option Int → Option Int → Hp → VK → Prop} (hr : SlR X r) (he : PE X e te) (hl : PO X lo tl) (hu : PO X hi th) : PE X (.Subscript e (.Slice lo hi none p2) pos) (tSl r te tl th) := by
 intro pins s σ H Q I h
 refine Subscript_ (thn (he pins s σ H _ I h) fun v s1 ⟨x, H1, I1, r1, q1⟩ => ?_)
 refine wpAny_Slice (thn (hl pins s1 σ H1 _ I1 q1) fun vl s2 ⟨l, H2, I2, pl, q2⟩ => thn (hu pins s2 σ H2 _ I2 q2) fun vu s3 ⟨u, H3, I3, pu, q3⟩ => ?_)
 rw [evalPart_none]
 refine wpAny_pure ?_
 have I4 : Inv X pins σ H3 { s3 with heap := s3.heap.push { cls := .type "slice", data := .fields #[vl, vu, .none] } } := I3.kept (t' := s3.toks) fun b ob q => Heap.get?_push_of_some _ q
 obtain ⟨T, id, hT, ht, hg⟩ := hr pins { s3 with heap := s3.heap.push { cls := .type "slice", data := .fields #[vl, vu, .none] } } σ H3 x v vl vu l u s3.heap.objs.size Q I4 r1 (Heap.IsSliceOf.new ..) pl pu q3
 show wpAny (model X.prog X.w) X.A (subscriptTail e (.Slice lo hi none p2) v (.ref s3.heap.objs.size)) (EP X pins σ Q) X.xe { s3 with heap := s3.heap.push { cls := .type "slice", data := .fields #[vl, vu, .none] } }
 exact tail_any (ops := [.ref s3.heap.objs.size, v]) ht hT hg (by with_unfolding_all rfl)
noncomputable def cutV (xs : List V) (lo hi : Option Int) : List V := (xs.drop (HT.sIx xs.length 0 lo)).take (HT.sIx xs.length xs.length hi - HT.sIx xs.length 0 lo)
theorem cutV_length (xs : List V) (lo hi : Option Int) : (cutV xs lo hi).length ≤ xs.length := by
 unfold cutV
 rw [List.length_take, List.length_drop]
 omega
noncomputable def rSlT (K : PySem.W.Frag) : V → Option Int → Option Int → Hp → VK → Prop := fun x lo hi H Q => ∃ a xs, x = .ref a ∧ SqT K H a xs ∧
 ¬ (HT.sIx xs.length 0 lo = 0 ∧ HT.sIx xs.length xs.length hi = xs.length) ∧ ∀ p, H p = none → Q (.ref p) (upd H p (.tup (cutV xs lo hi)))
theorem sl_tup : SlR X (rSlT X.K) := by
 intro pins s σ H x v vl vu lo hi sl Q I rx hs pl pu h
 obtain ⟨a, xs, rfl, hx, hw, q⟩ := h
 cases rx
 obtain ⟨its, r, ht, hz⟩ := I.tuple hx
 have hlen : its.toArray.size = xs.length := by rw [List.size_toArray]; exact r.length.symm
 refine ⟨"tuple", _, PyProof.Rows.slot_tuple_getitem.lookup, ht.typeIs, ?_⟩
 refine HT.getItem_tuple_cut ht hs pl pu (by rw [hlen]; exact hw) ?_ (by rw [hlen]; exact hz)
 rw [hlen]
 refine ⟨.ref s.heap.objs.size, _, I.laid (t' := s.toks) (o := .tup (cutV xs lo hi)) (fun b ob q => Heap.get?_push_of_some _ q) (Nat.le_refl _) ?_, rfl, q _ (I.hok.fresh (Nat.le_refl _))⟩
 exact ⟨Nat.le_trans (cutV_length xs lo hi) hz, _, (r.drop (HT.sIx xs.length 0 lo)).take (HT.sIx xs.length xs.length hi - HT.sIx xs.length 0 lo), IsTupD.new _ _⟩
noncomputable def rCatT (K : PySem.W.Frag) : R2 := fun x y H Q => ∃ a b xs ys, x = .ref a ∧ y = .ref b ∧ SqT K H a xs ∧ SqT K H b ys ∧ xs ≠ [] ∧ xs.length + ys.length ≤ sizeLine ∧
 (ys = [] → Q (.ref a) H) ∧ (ys ≠ [] → ∀ p, H p = none → Q (.ref p) (upd H p (.tup (xs ++ ys))))
theorem Vals.nil_iff {xs : List V} {us : List Value} (r : Vals xs us) : us = [] ↔ xs = [] := by
 cases r with
 | nil => simp
 | cons _ _ => simp
theorem op_catT : OpR X (binaryOp .Add) (rCatT X.K) := by
 intro pins s σ H x y v u Q I rx ry h
 obtain ⟨a, b, xs, ys, rfl, rfl, ha, hb, hx, hz, q1, q2⟩ := h
 cases rx
 cases ry
 obtain ⟨its, r1, p1, _⟩ := I.tuple ha
 obtain ⟨its2, r2, p2, _⟩ := I.tuple hb
 refine HT.cat_tup p1 p2 (fun z => hx (r1.nil_iff.mp z)) (fun z => ⟨.ref a, H, I, rfl, q1 (r2.nil_iff.mp z)⟩) (fun z => ?_) (by rw [← r1.length, ← r2.length]; exact hz)
 refine ⟨.ref s.heap.objs.size, _, I.laid (t' := s.toks) (o := .tup (xs ++ ys)) (fun b ob q => Heap.get?_push_of_some _ q) (Nat.le_refl _) ?_, rfl, q2 (fun w => z (r2.nil_iff.mpr w)) _ (I.hok.fresh (Nat.le_refl _))⟩
 exact ⟨by rw [List.length_append]; exact hz, _, r1.append r2, IsTupD.new _ _⟩
end
end L2
namespace L2
open PySem PySem.Spec PyProof.Rows
noncomputable def ixN (n : Nat) (i : Int) : Option Nat := if 0 ≤ i then (if i < n then some i.toNat else none) else if -(n : Int) ≤ i then some (i + n).toNat else none
noncomputable def atI {α : Type} (xs : List α) (i : Int) : Option α := (ixN xs.length i).bind fun j => xs[j]?
theorem ixN_seq {n : Nat} {i : Int} {j : Nat} (h : ixN n i = some j) : seqIndex? i n = some j ∧ j < n ∧ -(n : Int) ≤ i ∧ i < n := by
 unfold ixN at h
 by_cases h0 : 0 ≤ i
 ·rw [if_pos h0] at h
  by_cases h1 : i < n
  ·rw [if_pos h1] at h
   have e : i.toNat = j := Option.some.inj h
   exact ⟨by rw [seqIndex_of h0 h1, e], by omega, by omega, h1⟩
  ·rw [if_neg h1] at h; cases h
 ·rw [if_neg h0] at h
  by_cases h1 : -(n : Int) ≤ i
  ·rw [if_pos h1] at h
   have e : (i + n).toNat = j := Option.some.inj h
   exact ⟨by rw [seqIndex_neg (by omega) h1, e], by omega, h1, by omega⟩
  ·rw [if_neg h1] at h; cases h
theorem atI_get {α : Type} {xs : List α} {i : Int} {v : α} (h : atI xs i = some v) : ∃ j, seqIndex? i xs.length = some j ∧ xs[j]? = some v ∧ j < xs.length ∧ -(xs.length : Int) ≤ i ∧ i < xs.length := by
 unfold atI at h
 cases e : ixN xs.length i with
 | none => rw [e] at h; cases h
 | some j =>
  rw [e] at h
  obtain ⟨h1, h2, h3, h4⟩ := ixN_seq e
  exact ⟨j, h1, h, h2, h3, h4⟩
theorem atI_nat {α : Type} {xs : List α} {j : Nat} {v : α} (h : xs[j]? = some v) : atI xs (j : Int) = some v := by
 have hj : j < xs.length := (List.getElem?_eq_some_iff.mp h).1
 have e : ixN xs.length (j : Int) = some j := by
  unfold ixN
  rw [if_pos (by omega), if_pos (by omega)]; simp
 unfold atI; rw [e]; exact h
noncomputable def PlainIx (b : Expr) : Prop := ∀ o i, subscripted b false o i = operate [o, i] (getItem o i)
noncomputable def IxR (X : Cx) (r : R2) : Prop :=
 ∀ (value slice : Expr) (pins : List (Addr × Obj)) (s : Shared) (σ : St) (H : Hp) (x y : V) (v u : Value) (Q : VK), Inv X pins σ H s → RelV x v → RelV y u → r x y H Q →
  subscripted slice false v u = operate [v, u] (getItem v u) → wpAny (model X.prog X.w) X.A (subscriptTail value slice v u) (EP X pins σ Q) X.xe s
noncomputable def MtR (X : Cx) (id : String) (r : V → List V → Hp → VK → Prop) : Prop :=
 ∀ (pins : List (Addr × Obj)) (s : Shared) (σ : St) (H : Hp) (x : V) (xs : List V) (v : Value) (us : List Value) (Q : VK), Inv X pins σ H s → RelV x v → Vals xs us → r x xs H Q →
  wpAny (model X.prog X.w) X.A (call (.builtin id) (v :: us)) (EP X pins σ Q) X.xe s
section
variable {X : Cx} {a b : Expr} {ta tb : TE} {pos : Pos}
theorem IxR.or {r r' : R2} (h : IxR X r) (h' : IxR X r') : IxR X (fun x y H Q => r x y H Q ∨ r' x y H Q) := by
 intro value slice pins s σ H x y v u Q I rx ry q hs
 rcases q with q | q
 ·exact h value slice pins s σ H x y v u Q I rx ry q hs
 ·exact h' value slice pins s σ H x y v u Q I rx ry q hs
theorem pe_ix {r : R2} (hr : IxR X r) (ha : PE X a ta) (hb : PE X b tb) (hs : PlainIx b) : PE X (.Subscript a b pos) (tOp r ta tb) := by
 intro pins s σ H Q I h
 exact Subscript_ (binT ha hb I h fun v u s2 x y H2 I2 rx ry q => hr a b pins s2 σ H2 x y v u Q I2 rx ry q (hs _ _))
noncomputable def rIxL (K : PySem.W.Frag) : R2 := fun x y H Q => ∃ p xs i v, x = .ref p ∧ y = .int i ∧ SqL K H p xs ∧ atI xs i = some v ∧ Q v H
noncomputable def rIxT (K : PySem.W.Frag) : R2 := fun x y H Q => ∃ p xs i v, x = .ref p ∧ y = .int i ∧ SqT K H p xs ∧ atI xs i = some v ∧ Q v H
noncomputable def rIxS : R2 := fun x y H Q => ∃ z i c, x = .str z ∧ y = .int i ∧ z.length ≤ sizeLine ∧ atI z.cps.toList i = some c ∧ Q (.str ⟨#[c]⟩) H
theorem ix_list : IxR X (rIxL X.K) := by
 intro value slice pins s σ H x y v u Q I rx ry h hs
 obtain ⟨p, xs, i, z, rfl, rfl, hq, he, q⟩ := h
 cases rx
 obtain ⟨t, rfl⟩ := ry
 obtain ⟨its, r, pl, hz⟩ := I.list hq
 obtain ⟨j, h1, h2, h3, h4, h5⟩ := atI_get he
 obtain ⟨w, ew, rw'⟩ := r.get h2
 have hl := r.length
 have hn := line63
 have fin : EP X pins σ Q w s := ⟨z, H, I, rw', q⟩
 by_cases h0 : 0 ≤ i
 ·have hj : i.toNat = j := by
   rw [seqIndex_of h0 h5] at h1
   exact Option.some.inj h1
  exact item_listR pl.isList h0 (by omega) (by rw [hj]; simpa using ew) fin hs
 ·have hj : (i + (its.toArray.size : Int)).toNat = j := by
   rw [seqIndex_neg (by omega) h4] at h1
   rw [List.size_toArray, ← hl]
   exact Option.some.inj h1
  exact subscriptTail_builtinR (x := w) pl.isList.typeIs slot_list_getitem.lookup
   (wpAny_getItem_list_neg (Q := fun r s' => r = w ∧ EP X pins σ Q r s') pl.isList (by omega) (by rw [List.size_toArray] <;> omega) (by omega) (by rw [hj]; simpa using ew) ⟨rfl, fin⟩) hs
theorem ix_tup : IxR X (rIxT X.K) := by
 intro value slice pins s σ H x y v u Q I rx ry h hs
 obtain ⟨p, xs, i, z, rfl, rfl, hq, he, q⟩ := h
 cases rx
 obtain ⟨t, rfl⟩ := ry
 obtain ⟨its, r, pl, hz⟩ := I.tuple hq
 obtain ⟨j, h1, h2, h3, h4, h5⟩ := atI_get he
 obtain ⟨w, ew, rw'⟩ := r.get h2
 have hl := r.length
 have hn := line63
 have fin : EP X pins σ Q w s := ⟨z, H, I, rw', q⟩
 exact subscriptTail_builtinR (x := w) pl.typeIs slot_tuple_getitem.lookup
  (getItem_tuple (j := j) (Q := fun r s' => r = w ∧ EP X pins σ Q r s') pl (by omega) (by omega) (by rw [List.size_toArray, ← hl]; exact h1) (by simpa using ew) ⟨rfl, fin⟩) hs
theorem ix_str : IxR X rIxS := by
 intro value slice pins s σ H x y v u Q I rx ry h hs
 obtain ⟨z, i, c, rfl, rfl, hz, he, q⟩ := h
 obtain ⟨t, rfl⟩ := rx
 obtain ⟨t', rfl⟩ := ry
 obtain ⟨j, h1, h2, h3, h4, h5⟩ := atI_get he
 have hl : z.cps.toList.length = z.length := by simp [Str.length]
 rw [hl] at h1 h4 h5
 have hn := line63
 exact tail_any (typeIs_str s z t) slot_str_getitem.lookup (getItem_str (c := c) (by
  have e1 : decide (i < -(2 ^ 63 : Int)) = false := decide_eq_false (by omega)
  have e2 : decide (i ≥ 2 ^ 63) = false := decide_eq_false (by omega)
  rw [e1, e2, Bool.or_false]) (by rw [h1]; simpa using h2) ⟨.str ⟨#[c]⟩, H, I.tok _, ⟨_, rfl⟩, q⟩) hs
noncomputable def rIx (K : PySem.W.Frag) : R2 := fun x y H Q => rIxL K x y H Q ∨ rIxT K x y H Q ∨ rIxS x y H Q
theorem ix_seq : IxR X (rIx X.K) := ix_list.or (ix_tup.or ix_str)
theorem mapSeq_set (its : List Value) (n j : Nat) (u : Value) : Obj.mapSeq (·.setIfInBounds j u) { cls := .type "list", data := .seq its.toArray n } = { cls := .type "list", data := .seq (its.set j u).toArray n } := by
 simp [Obj.mapSeq]
theorem Inv.lst {pins : List (Addr × Obj)} {σ : St} {H : Hp} {s : Shared} {p : Addr} {xs : List V} (I : Inv X pins σ H s) (h : H p = some (.lst xs)) :
  ∃ (its : List Value) (n : Nat), Vals xs its ∧ s.heap.get? p = some { cls := .type "list", data := .seq its.toArray n } ∧ xs.length ≤ sizeLine := by
 obtain ⟨z, its, n, r, e⟩ := I.hok p _ h
 exact ⟨its, n, r, e, z⟩
theorem Inv.lstUpd {pins : List (Addr × Obj)} {σ : St} {H : Hp} {s : Shared} {p : Addr} {xs ys : List V} {its its' : List Value} {n n' : Nat} {f : Obj → Obj} (I : Inv X pins σ H s) (h : H p = some (.lst xs))
  (ho : s.heap.get? p = some { cls := .type "list", data := .seq its.toArray n }) (hf : f { cls := .type "list", data := .seq its.toArray n } = { cls := .type "list", data := .seq its'.toArray n' }) (r : Vals ys its') (hz : ys.length ≤ sizeLine) (t : Nat) :
  Inv X pins σ (upd H p (.lst ys)) { s with heap := s.heap.update p f, toks := t } := by
 have e : (s.heap.update p f).get? p = some { cls := .type "list", data := .seq its'.toArray n' } := by
  rw [Heap.get?_update_self f ho (by rw [hf] <;> rfl), hf]
 refine I.write (x := p) (e := p) (by rw [h]; trivial) (.inl rfl) (fun b u hb q => (Heap.get?_update_other _ _ (Ne.symm hb)).trans q) ⟨_, e⟩ ?_
 exact ⟨hz, its', n', r, e⟩
noncomputable def rSetL : V → V → V → Hp → (Hp → Prop) → Prop := fun o i v H Q => ∃ p xs k j, o = .ref p ∧ i = .int k ∧ H p = some (.lst xs) ∧ ixN xs.length k = some j ∧ Q (upd H p (.lst (xs.set j v)))
theorem set_list : PSet X rSetL := by
 intro pins s σ H o i v ov iv u Q I ro ri rv h
 obtain ⟨p, xs, k, j, rfl, rfl, hp, hj, q⟩ := h
 cases ro
 obtain ⟨t, rfl⟩ := ri
 obtain ⟨its, n, r, ho, hz⟩ := I.lst hp
 obtain ⟨h1, h2, h3, h4⟩ := ixN_seq hj
 have hl := r.length
 have hn := line63
 have I' : Inv X pins σ (upd H p (.lst (xs.set j v))) { s with heap := s.heap.update p (Obj.mapSeq (·.setIfInBounds j u)) } :=
  I.lstUpd hp ho (mapSeq_set its n j u) (r.set rv j) (by rw [List.length_set]; exact hz) s.toks
 by_cases h0 : 0 ≤ k
 ·have hk : k.toNat = j := by
   rw [seqIndex_of h0 h4] at h1
   exact Option.some.inj h1
  exact PySem.W.ki_setAt ho h0 (by omega) (by rw [List.size_toArray, ← hl]; exact h4) (by rw [hk]; exact ⟨_, I', q⟩)
 ·have hk : (k + (its.toArray.size : Int)).toNat = j := by
   rw [seqIndex_neg (by omega) h3] at h1
   rw [List.size_toArray, ← hl]
   exact Option.some.inj h1
  exact PySem.W.ki_setBack ho (by omega) (by rw [List.size_toArray, ← hl]; exact h3) (by omega) (by rw [hk]; exact ⟨_, I', q⟩)
theorem slice_bounds (lo hi : Option Int) (n : Nat) : (sliceBounds lo hi none n).1 = ((HT.sIx n 0 lo : Nat) : Int) ∧ (sliceBounds lo hi none n).2.1 = ((HT.sIx n n hi : Nat) : Int) ∧ (sliceBounds lo hi none n).2.2 = 1 := by
 refine ⟨?_, ?_, rfl⟩
 ·cases lo with
  | none => simp [sliceBounds, HT.sIx]
  | some i =>
   simp only [sliceBounds, HT.sIx, Option.getD_none, show (1 : Int) > 0 by decide, if_true]
   by_cases h : i < 0
   ·simp only [h, if_true] <;> omega
   ·simp only [h, if_false] <;> omega
 ·cases hi with
  | none => simp [sliceBounds, HT.sIx]
  | some i =>
   simp only [sliceBounds, HT.sIx, Option.getD_none, show (1 : Int) > 0 by decide, if_true]
   by_cases h : i < 0
   ·simp only [h, if_true] <;> omega
   ·simp only [h, if_false] <;> omega
theorem slicePick_cut (its : List Value) (lo hi : Option Int) : slicePick its.toArray lo hi none = ((its.drop (HT.sIx its.length 0 lo)).take (HT.sIx its.length its.length hi - HT.sIx its.length 0 lo)).toArray := by
 obtain ⟨h1, h2, h3⟩ := slice_bounds lo hi its.toArray.size
 unfold slicePick
 rw [h1, h2, h3]
 simp only [sliceRange_one, pick_run, List.size_toArray] <;> rfl
noncomputable def rSlL (K : PySem.W.Frag) : V → Option Int → Option Int → Hp → VK → Prop := fun x lo hi H Q => ∃ a xs, x = .ref a ∧ SqL K H a xs ∧ ∀ p, H p = none → Q (.ref p) (upd H p (.lst (cutV xs lo hi)))
theorem sl_list : SlR X (rSlL X.K) := by
 intro pins s σ H x v vl vu lo hi sl Q I rx hs pl pu h
 obtain ⟨a, xs, rfl, hx, q⟩ := h
 cases rx
 obtain ⟨its, r, ht, hz⟩ := I.list hx
 have hlen := r.length
 refine ⟨"list", _, slot_list_getitem.lookup, ht.isList.typeIs, ?_⟩
 refine wpAny_getItem_list_slice ht.isList hs pl pu .none (by simp) ?_ (by rw [List.size_toArray] <;> omega)
 rw [slicePick_cut, ← hlen]
 refine ⟨.ref s.heap.objs.size, _, I.laid (t' := s.toks) (o := .lst (cutV xs lo hi)) (fun b ob q => Heap.get?_push_of_some _ q) (Nat.le_refl _) ?_, rfl, q _ (I.hok.fresh (Nat.le_refl _))⟩
 exact ⟨Nat.le_trans (cutV_length xs lo hi) hz, _, 0, (r.drop (HT.sIx xs.length 0 lo)).take (HT.sIx xs.length xs.length hi - HT.sIx xs.length 0 lo), Heap.get?_push_size _ rfl⟩
noncomputable def flatV : V → Bool
 | .non => true
 | .bl _ => true
 | .int _ => true
 | .str _ => true
 | _ => false
noncomputable def eqV : V → V → Bool
 | .non, .non => true
 | .bl a, .bl b => a == b
 | .bl a, .int b => (if a then 1 else 0) == b
 | .int a, .bl b => a == (if b then 1 else 0)
 | .int a, .int b => a == b
 | .str a, .str b => a == b
 | _, _ => false
theorem eqAt_V {A : Around} {s : Shared} {y x : V} {u v : Value} (ry : RelV y u) (rx : RelV x v) (fy : flatV y = true) (fx : flatV x = true) : SeqAt.EqAt A s u v (eqV y x) := by
 cases y with
 | non =>
  cases ry
  cases x with
  | non => cases rx; exact SeqAt.EqAt.same _
  | bl b => cases rx; exact SeqAt.EqAt.none_bool b
  | int b => obtain ⟨t, rfl⟩ := rx; exact SeqAt.EqAt.none_int b t
  | str b => obtain ⟨t, rfl⟩ := rx; exact SeqAt.EqAt.none_str b t
  | _ => exact absurd (show false = true from fx) Bool.false_ne_true
 | bl a =>
  cases ry
  cases x with
  | non => cases rx; exact SeqAt.EqAt.bool_none a
  | bl b => cases rx; exact SeqAt.EqAt.bool_bool a b
  | int b => obtain ⟨t, rfl⟩ := rx; exact SeqAt.EqAt.bool_int a b t
  | str b => obtain ⟨t, rfl⟩ := rx; exact SeqAt.EqAt.bool_str a b t
  | _ => exact absurd (show false = true from fx) Bool.false_ne_true
 | int a =>
  obtain ⟨t', rfl⟩ := ry
  cases x with
  | non => cases rx; exact SeqAt.EqAt.int_none a t'
  | bl b => cases rx; exact SeqAt.EqAt.int_bool a t' b
  | int b => obtain ⟨t, rfl⟩ := rx; exact SeqAt.EqAt.int_int a t' b t
  | str b => obtain ⟨t, rfl⟩ := rx; exact SeqAt.EqAt.int_str a t' b t
  | _ => exact absurd (show false = true from fx) Bool.false_ne_true
 | str a =>
  obtain ⟨t', rfl⟩ := ry
  cases x with
  | non => cases rx; exact SeqAt.EqAt.str_none a t'
  | bl b => cases rx; exact SeqAt.EqAt.str_bool a t' b
  | int b => obtain ⟨t, rfl⟩ := rx; exact SeqAt.EqAt.str_int a t' b t
  | str b => obtain ⟨t, rfl⟩ := rx; exact SeqAt.EqAt.str_str a t' b t
  | _ => exact absurd (show false = true from fx) Bool.false_ne_true
 | _ => exact absurd (show false = true from fy) Bool.false_ne_true
noncomputable def eqU (x : V) (u : Value) : Bool := match u with
 | .none => eqV .non x
 | .bool b => eqV (.bl b) x
 | .int i _ => eqV (.int i) x
 | .str z _ => eqV (.str z) x
 | _ => false
theorem eqU_of {x y : V} {u : Value} (r : RelV y u) (f : flatV y = true) : eqU x u = eqV y x := by
 cases y with
 | non => cases r; rfl
 | bl b => cases r; rfl
 | int i => obtain ⟨t, rfl⟩ := r; rfl
 | str z => obtain ⟨t, rfl⟩ := r; rfl
 | _ => exact absurd (show false = true from f) Bool.false_ne_true
theorem any_eqU {x : V} : ∀ {xs : List V} {us : List Value}, Vals xs us → xs.all flatV = true → us.any (eqU x) = xs.any fun y => eqV y x
 | _, _, .nil, _ => rfl
 | y :: xs, u :: us, .cons r t, f => by
  rw [List.all_cons, Bool.and_eq_true] at f
  rw [List.any_cons, List.any_cons, eqU_of r f.1, any_eqU t f.2]
theorem mem_eqAt {A : Around} {s : Shared} {x : V} {v : Value} (rx : RelV x v) (fx : flatV x = true) : ∀ {xs : List V} {us : List Value}, Vals xs us → xs.all flatV = true → ∀ u ∈ us, SeqAt.EqAt A s u v (eqU x u)
 | _, _, .nil, _ => fun u hu => by cases hu
 | y :: xs, u :: us, .cons r t, f => fun u' hu => by
  rw [List.all_cons, Bool.and_eq_true] at f
  rcases List.mem_cons.mp hu with rfl | hu
  ·rw [eqU_of r f.1]; exact eqAt_V r rx f.1 fx
  ·exact mem_eqAt rx fx t f.2 u' hu
noncomputable def inV (x : V) (xs : List V) : Bool := xs.any fun y => eqV y x
noncomputable def rIn (K : PySem.W.Frag) (neg : Bool) : R2 := fun x y H Q => ∃ p xs, y = .ref p ∧ (SqL K H p xs ∨ SqT K H p xs) ∧ flatV x = true ∧ xs.all flatV = true ∧ Q (.bl (if neg then !inV x xs else inV x xs)) H
theorem op_in_seq : OpR X (compareOp .In) (rIn X.K false) := by
 intro pins s σ H x y v u Q I rx ry h
 obtain ⟨p, xs, rfl, hq, fx, fs, q⟩ := h
 cases ry
 rcases hq with hq | hq
 ·obtain ⟨its, r, pl, hz⟩ := I.list hq
  refine SeqAt.in_listAt (eqU x) pl.isList (fun w hw => mem_eqAt rx fx r fs w (by simpa using hw)) ⟨.bl _, H, I, rfl, ?_⟩
  rw [show its.toArray.any (eqU x) = its.any (eqU x) by simp, any_eqU r fs]
  exact q
 ·obtain ⟨its, r, pl, hz⟩ := I.tuple hq
  refine SeqAt.in_tupleAt (eqU x) pl (fun w hw => mem_eqAt rx fx r fs w (by simpa using hw)) ⟨.bl _, H, I, rfl, ?_⟩
  rw [show its.toArray.any (eqU x) = its.any (eqU x) by simp, any_eqU r fs]
  exact q
theorem call_len_seq : CallR X (.builtin "len") (fun xs H Q => ∃ p ys, xs = [.ref p] ∧ (SqL X.K H p ys ∨ SqT X.K H p ys) ∧ Q (.int ys.length) H) := by
 intro pins s σ H xs us Q I r h
 obtain ⟨p, ys, rfl, hq, q⟩ := h
 obtain ⟨u, rfl, rx⟩ := vals1 r
 cases rx
 have hn := line63
 rcases hq with hq | hq
 ·obtain ⟨its, r', pl, hz⟩ := I.list hq
  have hlen := r'.length
  exact Calls.call_len_list pl.isList (by simp only [List.size_toArray] <;> omega) ⟨.int ys.length, H, I.tok _, ⟨s.toks + 1, by rw [List.size_toArray, hlen]⟩, q⟩
 ·obtain ⟨its, r', pl, hz⟩ := I.tuple hq
  have hlen := r'.length
  exact len_tuple pl (by simp only [List.size_toArray] <;> omega) ⟨.int ys.length, H, I.tok _, ⟨s.toks + 1, by rw [List.size_toArray, hlen]⟩, q⟩
theorem call_len_str : CallR X (.builtin "len") (fun xs H Q => ∃ z, xs = [.str z] ∧ z.length ≤ sizeLine ∧ Q (.int z.length) H) := by
 intro pins s σ H xs us Q I r h
 obtain ⟨z, rfl, hz, q⟩ := h
 obtain ⟨u, rfl, t, rfl⟩ := vals1 r
 have hn := line63
 exact len_str (by omega) ⟨.int z.length, H, I.tok _, ⟨_, rfl⟩, q⟩
theorem CallR.or {f : Value} {r r' : List V → Hp → VK → Prop} (h : CallR X f r) (h' : CallR X f r') : CallR X f (fun xs H Q => r xs H Q ∨ r' xs H Q) := by
 intro pins s σ H xs us Q I rs q
 rcases q with q | q
 ·exact h pins s σ H xs us Q I rs q
 ·exact h' pins s σ H xs us Q I rs q
theorem call_tuple_of : CallR X (.type "tuple") (fun xs H Q => ∃ p ys, xs = [.ref p] ∧ ((SqL X.K H p ys ∧ ∀ l, H l = none → Q (.ref l) (upd H l (.tup ys))) ∨ (SqT X.K H p ys ∧ Q (.ref p) H))) := by
 intro pins s σ H xs us Q I r h
 obtain ⟨p, ys, rfl, h⟩ := h
 obtain ⟨u, rfl, rx⟩ := vals1 r
 cases rx
 rcases h with ⟨hq, q⟩ | ⟨hq, q⟩
 ·obtain ⟨its, r', pl, hz⟩ := I.list hq
  have hlen := r'.length
  refine call_tuple_list pl.isList (fun h' kp => ?_) (by simp only [List.size_toArray] <;> omega)
  have I1 : Inv X pins σ H { s with heap := h' } := I.kept (t' := s.toks) kp
  have I2 : Inv X pins σ (upd H h'.objs.size (.tup ys)) { s with heap := h'.push { cls := .type "tuple", data := .seq its.toArray } } :=
   I1.laid (t' := s.toks) (fun b o e => Heap.get?_push_of_some _ e) (Nat.le_refl _) (show ObjOk X.prog X.w _ _ _ (.tup ys) from ⟨hz, its, r', IsTupD.new _ _⟩)
  exact ⟨.ref h'.objs.size, _, I2, rfl, q _ (I1.hok.fresh (Nat.le_refl _))⟩
 ·obtain ⟨its, r', pl, hz⟩ := I.tuple hq
  exact call_tuple_same pl ⟨.ref p, H, I, rfl, q⟩
noncomputable def tyV (K : PySem.W.Frag) (T : String) (x : V) (H : Hp) : Prop := match x with
 | .str _ => T = "str"
 | .int _ => T = "int"
 | .ref p => (T = "list" ∧ ∃ xs, SqL K H p xs) ∨ (T = "tuple" ∧ ∃ o, K.lookup p = some o ∧ o.cls = .type "tuple" ∧ o.dict = none) ∨
   (T = "dict" ∧ ((∃ kvs, H p = some (.dK kvs)) ∨ ∃ kvs, H p = some (.dT kvs))) ∨ (T = "set" ∧ ∃ S n, H p = some (.set S n))
 | _ => False
theorem tyV_is {pins : List (Addr × Obj)} {σ : St} {H : Hp} {s : Shared} {T : String} {x : V} {v : Value} (I : Inv X pins σ H s) (r : RelV x v) (ty : tyV X.K T x H) :
  s.TypeIs v T ∧ ∀ a, v = .ref a → ∃ ob, s.heap.get? a = some ob ∧ ob.dict = none := by
 cases x with
 | str z =>
  obtain ⟨t, rfl⟩ := r
  cases (show T = "str" from ty)
  exact ⟨typeIs_str s z t, fun _ e => nomatch e⟩
 | int i =>
  obtain ⟨t, rfl⟩ := r
  cases (show T = "int" from ty)
  exact ⟨typeIs_int s i t, fun _ e => nomatch e⟩
 | ref p =>
  cases r
  rcases ty with ⟨rfl, xs, hq⟩ | ⟨rfl, o, hk, hc, hd⟩ | ⟨rfl, hk⟩ | ⟨rfl, S, n, hk⟩
  ·obtain ⟨its, _, pl, _⟩ := I.list hq
   refine ⟨pl.isList.typeIs, fun a e => ?_⟩
   cases e
   obtain ⟨o, n, e, c, hd, _⟩ := pl
   exact ⟨o, e, hd⟩
  ·refine ⟨⟨o, I.kIn p o hk, hc⟩, fun a e => ?_⟩
   cases e
   exact ⟨o, I.kIn _ o hk, hd⟩
  ·have z : ∃ o, s.heap.get? p = some o ∧ o.ExactDict := by
    rcases hk with ⟨kvs, hk⟩ | ⟨kvs, hk⟩
    ·obtain ⟨_, _, _, _, o, _, _, e, ex, _⟩ := I.hok p _ hk
     exact ⟨o, e, ex⟩
    ·obtain ⟨_, _, _, _, o, _, _, e, ex, _⟩ := I.hok p _ hk
     exact ⟨o, e, ex⟩
   obtain ⟨o, e, ex⟩ := z
   refine ⟨⟨o, e, ex.1⟩, fun a e2 => ?_⟩
   cases e2
   exact ⟨o, e, ex.2.1⟩
  ·obtain ⟨o, _, _, _, e, ex, _⟩ := I.hok p _ hk
   refine ⟨⟨o, e, ex.1⟩, fun a e2 => ?_⟩
   cases e2
   exact ⟨o, e, ex.2.1⟩
 | _ => exact False.elim ty
noncomputable def tBM0 (K : PySem.W.Frag) (T : String) (r : V → List V → Hp → VK → Prop) (to : TE) : TE := fun σ H Q => to σ H fun x H1 => tyV K T x H1 ∧ r x [] H1 Q
noncomputable def tBM (K : PySem.W.Frag) (T : String) (r : V → List V → Hp → VK → Prop) (to : TE) (t : TA) : TE := fun σ H Q => to σ H fun x H1 => tyV K T x H1 ∧ t σ H1 fun xs H2 => r x xs H2 Q
variable {o e : Expr} {es : List Expr} {to : TE} {t : TA} {name : Str} {apos cpos : Pos} {T id : String} {r : V → List V → Hp → VK → Prop}
theorem pe_bm (pa : PlainAttrs T) (slot : Slot T name id) (hty : typeOf (.builtin id) = pure (.type "method_descriptor")) (hm : MtR X id r) (ho : PE X o to) (ha : PA X (e :: es) t)
  (hbase : autoParam (attributeBase o name X.env (eval o X.env) = eval o X.env) L2.aRfl._auto_1)
  (hfew : autoParam (((backTo cpos (starEach (e :: es) X.env)).all (fun x => !x.1) && (backToKw cpos (keywordEach [] X.env)).all (fun x => x.1.isSome)
   && decide ((e :: es).length + ([] : List Keyword).length + (if ([] : List Keyword).isEmpty then 0 else 1) < 30)) = true) L2.aRfl._auto_1)
  (hline : autoParam ((apos.endLine == cpos.line) = true) L2.aRfl._auto_1) (hs : autoParam (starEach (e :: es) X.env = (false, eval e X.env) :: starEach es X.env) L2.aRfl._auto_1) (hplain : autoParam ((backTo cpos (starEach es X.env)).any (·.1) = false) L2.aRfl._auto_1) :
  PE X (.Call (.Attribute o name apos) (e :: es) [] cpos) (tBM X.K T r to t) := by
 intro pins s σ H Q I h
 refine wpAny_Call_method_late hbase hfew hline rfl (thn (ho pins s σ H _ I h) fun v s1 ⟨x, H1, I1, r1, ty, q1⟩ => ?_)
 obtain ⟨h1, h2⟩ := tyV_is I1 r1 ty
 refine ⟨T, id, pa, slot, hty, h1, h2, ?_⟩
 have hA := ha cpos pins s1 σ H1 _ I1 q1
 rw [hs] at hA ⊢
 refine Calls.callWith_builtin (by show (false || (backTo cpos (starEach es X.env)).any (·.1)) = false; rw [hplain] <;> rfl) (Calls.evalArgs_plain ?_)
 exact thn hA fun us s2 ⟨vs, H2, I2, r2, q2⟩ => hm pins s2 σ H2 x vs v us Q I2 r1 r2 q2
/- xs.append(e), list.index on a module's tuple .. are MtR facts of 06m -/
end
end L2
namespace L2
open PySem PySem.Spec PyProof.Rows
noncomputable def MtM (X : Cx) (id : String) (r : V → List V → Hp → VK → Prop) : Prop :=
 ∀ (pins : List (Addr × Obj)) (s : Shared) (σ : St) (H : Hp) (x : V) (xs : List V) (v : Value) (us : List Value) (Q : VK), Inv X pins σ H s → RelV x v → Vals xs us → r x xs H Q →
  wpAny (model X.prog X.w) X.A (call (.builtin id) (v :: us)) (EP X pins σ Q) X.xe s
theorem Vals.one : ∀ {x : V} {us : List Value}, Vals [x] us → ∃ u, us = [u] ∧ RelV x u
 | _, _, .cons r .nil => ⟨_, rfl, r⟩
theorem Vals.eraseIdx : ∀ {xs : List V} {us : List Value} (i : Nat), Vals xs us → Vals (xs.eraseIdx i) (us.eraseIdx i)
 | _, _, _, .nil => .nil
 | _, _, 0, .cons _ t => t
 | _, _, i + 1, .cons r t => .cons r (Vals.eraseIdx i t)
theorem Vals.rep {xs : List V} {us : List Value} (h : Vals xs us) : ∀ k : Nat, Vals (List.replicate k xs).flatten (List.replicate k us).flatten
 | 0 => .nil
 | k + 1 => by
  rw [List.replicate_succ, List.replicate_succ, List.flatten_cons, List.flatten_cons]
  exact Vals.append h (Vals.rep h k)
theorem len_erase {α : Type} : ∀ (l : List α) (i : Nat), (l.eraseIdx i).length ≤ l.length
 | [], _ => Nat.le_refl _
 | _ :: _, 0 => Nat.le_succ _
 | _ :: r, i + 1 => Nat.succ_le_succ (len_erase r i)
theorem foldl_rep (its : List Value) : ∀ (k : Nat) (acc : List Value),
  List.foldl (fun x1 x2 => x1 ++ x2) acc.toArray (List.replicate k its.toArray) = (acc ++ (List.replicate k its).flatten).toArray
 | 0, acc => by simp
 | k + 1, acc => by
  have e : acc.toArray ++ its.toArray = (acc ++ its).toArray := by simp
  have e2 : (acc ++ its) ++ (List.replicate k its).flatten = acc ++ (List.replicate (k + 1) its).flatten := by
   rw [List.replicate_succ, List.flatten_cons, List.append_assoc]
  rw [← e2, ← foldl_rep its k (acc ++ its), ← e, List.replicate_succ, List.foldl_cons]
section
variable {X : Cx} {pins : List (Addr × Obj)} {σ : St} {H : Hp} {s : Shared} {l b : Addr} {xs ys zs : List V}
theorem Inv.lset {its its' : List Value} {n : Nat} {f : Array Value → Array Value} {t' : Nat} (I : Inv X pins σ H s) (hH : H l = some (.lst xs))
  (e : s.heap.get? l = some { cls := .type "list", data := .seq its.toArray n }) (hf : f its.toArray = its'.toArray) (hv : Vals ys its') (hz : ys.length ≤ sizeLine) :
  Inv X pins σ (upd H l (.lst ys)) { s with heap := s.heap.update l (Obj.mapSeq f), toks := t' } := by
 have q := PySem.IsL.update e f
 rw [hf] at q
 refine I.write (x := l) (e := l) (by rw [hH]; exact trivial) (.inl rfl) (fun b' u hb hu => (Heap.get?_update_other s.heap (Obj.mapSeq f) (Ne.symm hb)).trans hu) ⟨_, q⟩ ?_
 exact ⟨hz, its', _, hv, q⟩
theorem Inv.lnew {its : List Value} {t' : Nat} (I : Inv X pins σ H s) (hv : Vals ys its) (hz : ys.length ≤ sizeLine) :
  Inv X pins σ (upd H s.heap.objs.size (.lst ys)) { s with heap := s.heap.push { cls := .type "list", data := .seq its.toArray }, toks := t' } :=
 I.laid (fun _ _ q => Heap.get?_push_of_some _ q) (Nat.le_refl _) ⟨hz, its, 0, hv, Heap.get?_push_size _ rfl⟩
theorem Inv.fresh (I : Inv X pins σ H s) : H s.heap.objs.size = none := I.hok.fresh (Nat.le_refl _)
theorem Inv.lstM (I : Inv X pins σ H s) (hH : H l = some (.lst xs)) : xs.length ≤ sizeLine ∧ ∃ (its : List Value) (n : Nat), Vals xs its ∧ xs.length = its.length ∧ s.heap.get? l = some { cls := .type "list", data := .seq its.toArray n } := by
 obtain ⟨z, its, n, r, e⟩ := I.hok l _ hH
 exact ⟨z, its, n, r, r.length, e⟩
theorem notLongL {n : Nat} (h : n ≤ sizeLine) : Builtin.List.listTooLong n = false := by
 unfold Builtin.List.listTooLong
 exact decide_eq_false (by omega)
end
section
variable {X : Cx}
noncomputable def rAppend : V → List V → Hp → VK → Prop := fun x vs H Q => ∃ l xs y, x = .ref l ∧ vs = [y] ∧ H l = some (.lst xs) ∧ xs.length < sizeLine ∧ Q .non (upd H l (.lst (xs ++ [y])))
theorem mt_append : MtM X "list.append" rAppend := by
 intro pins s σ H x vs v us Q I rx rv h
 obtain ⟨l, xs, y, rfl, rfl, hH, hz, q⟩ := h
 cases rx
 obtain ⟨u, rfl, ru⟩ := rv.one
 obtain ⟨z, its, n, r, hl, e⟩ := I.lstM hH
 refine call_meets F.slot_list_append ⟨_, e, rfl⟩ F.entry_list_append (F.args_list_append_2 _ _) (PySem.list_append l its.toArray n u (by rw [List.size_toArray]; omega)) ⟨e, ?_⟩
 refine ⟨.non, _, I.lset (its' := its ++ [u]) hH e (by simp) (r.append (.cons ru .nil)) ?_, rfl, q⟩
 rw [List.length_append, List.length_singleton]
 omega
noncomputable def rPopAt : V → List V → Hp → VK → Prop := fun x vs H Q => ∃ l xs i k y, x = .ref l ∧ vs = [.int i] ∧ H l = some (.lst xs) ∧ -(2 ^ 63) ≤ i ∧ i < 2 ^ 63 ∧ seqIndex? i xs.length = some k ∧ xs[k]? = some y ∧ Q y (upd H l (.lst (xs.eraseIdx k)))
theorem mt_popAt : MtM X "list.pop" rPopAt := by
 intro pins s σ H x vs v us Q I rx rv h
 obtain ⟨l, xs, i, k, y, rfl, rfl, hH, h1, h2, hk, hy, q⟩ := h
 cases rx
 obtain ⟨u, rfl, ru⟩ := rv.one
 obtain ⟨t, rfl⟩ := ru
 obtain ⟨z, its, n, r, hl, e⟩ := I.lstM hH
 obtain ⟨w, hw, rw'⟩ := r.get hy
 refine call_meets F.slot_list_pop ⟨_, e, rfl⟩ F.entry_list_pop (F.args_list_pop_2 _ _)
  (MeetsSeq.list_pop_at l its.toArray n i t k w (fitsIndex_both h1 h2) (by rw [List.size_toArray, ← hl]; exact hk) (by rw [← Array.getElem?_toList]; exact hw) (by rw [List.size_toArray]; omega)) ⟨e, ?_⟩
 refine ⟨y, _, I.lset (its' := its.eraseIdx k) hH e ?_ (r.eraseIdx k) ?_, rw', q⟩
 ·show its.toArray.eraseIdxIfInBounds k = (its.eraseIdx k).toArray
  rw [List.eraseIdxIfInBounds_toArray]
 ·have := len_erase xs k
  omega
noncomputable def rCat : R2 := fun x y H Q => ∃ l b xs zs, x = .ref l ∧ y = .ref b ∧ H l = some (.lst xs) ∧ H b = some (.lst zs) ∧ xs.length + zs.length ≤ sizeLine ∧ ∀ p, H p = none → Q (.ref p) (upd H p (.lst (xs ++ zs)))
theorem op_cat : OpR X (binaryOp .Add) rCat := by
 intro pins s σ H x y v u Q I rx ry h
 obtain ⟨l, b, xs, zs, rfl, rfl, hH, hB, hz, q⟩ := h
 cases rx
 cases ry
 obtain ⟨z, its, n, r, hl, e⟩ := I.lstM hH
 obtain ⟨z2, its2, n2, r2, hl2, e2⟩ := I.lstM hB
 refine PySem.P.add_list e e2 ?_ (by rw [List.size_toArray, List.size_toArray]; omega)
 have ea : its.toArray ++ its2.toArray = (its ++ its2).toArray := by simp
 rw [ea]
 exact ⟨.ref _, _, I.lnew (t' := s.toks) (r.append r2) (by rw [List.length_append]; omega), rfl, q _ I.fresh⟩
noncomputable def rRep : R2 := fun x y H Q => ∃ l k xs, x = .ref l ∧ y = .int k ∧ H l = some (.lst xs) ∧ -(2 ^ 63) ≤ k ∧ k < 2 ^ 63 ∧ xs.length * k.toNat ≤ sizeLine ∧
 ∀ p, H p = none → Q (.ref p) (upd H p (.lst (List.replicate k.toNat xs).flatten))
theorem len_rep {α : Type} (xs : List α) (k : Nat) : (List.replicate k xs).flatten.length = k * xs.length := by
 induction k with
 | zero => simp
 | succ k ih => rw [List.replicate_succ, List.flatten_cons, List.length_append, ih, Nat.succ_mul, Nat.add_comm]
theorem op_rep : OpR X (binaryOp .Mult) rRep := by
 intro pins s σ H x y v u Q I rx ry h
 obtain ⟨l, k, xs, rfl, rfl, hH, h1, h2, hz, q⟩ := h
 cases rx
 obtain ⟨t, rfl⟩ := ry
 obtain ⟨z, its, n, r, hl, e⟩ := I.lstM hH
 have hlen : its.toArray.size * k.toNat ≤ sizeLine := by rw [List.size_toArray, ← hl]; exact hz
 have hcap : ¬ its.toArray.size * k.toNat > (2 ^ 63 - 1) / 8 := by
  have : (sizeLine : Nat) ≤ (2 ^ 63 - 1) / 8 := by decide
  omega
 have hfit : ¬ (!Builtin.List.listFitsIndex k) = true := by
  rw [fitsIndex_both h1 h2]
  exact Bool.false_ne_true
 have hlong : ¬ Builtin.List.listTooLong (its.toArray.size * k.toNat) = true := by
  rw [notLongL hlen]
  exact Bool.false_ne_true
 have hnew : List.foldl (fun x1 x2 => x1 ++ x2) #[] (List.replicate (if its.toArray.isEmpty = true then 0 else k.toNat) its.toArray) = (List.replicate k.toNat its).flatten.toArray := by
  have f0 : ∀ m : Nat, List.foldl (fun x1 x2 => x1 ++ x2) #[] (List.replicate m its.toArray) = (List.replicate m its).flatten.toArray := fun m => by
   have := foldl_rep its m []
   rw [List.nil_append] at this
   exact this
  rw [f0]
  cases its with
  | nil => simp
  | cons a r' => rw [if_neg (by simp)]
 refine wpAny_binaryOp_repeat_ref (T := "list") (U := "int") (by decide) ⟨_, e, rfl⟩ (fun s' => typeIs_int s' k t) noFill_list_mul F.fills_int_mul F.slot_int_rmul repeat_list F.slot_int_index.lookup
  (call_meets F.slot_int_rmul (typeIs_int s k t) F.entry_int_rmul (F.args_int_rmul_2 _ _) (int___rmul___int_list k t l its.toArray n)
   ⟨e, rfl, ⟨_, e, rfl⟩, call_meets F.slot_list_mul ⟨_, e, rfl⟩ F.entry_list_mul (F.args_list_mul_2 _ _) (AutoListH.list___mul___list_int_3 l its.toArray n k t hfit hcap hlong) ⟨e, ?_⟩⟩)
 rw [hnew]
 exact ⟨.ref _, _, I.lnew (t' := s.toks) (r.rep k.toNat) (by rw [len_rep, Nat.mul_comm]; exact hz), rfl, q _ I.fresh⟩
end
section
variable {prog : Program} {w : World} {A : Around} {E : Value → Shared → Prop} {s : Shared}
end
section
variable {X : Cx}
end
end L2
namespace L2
open PySem PySem.Spec PyProof.Rows
section
variable {κ : Type} [DecidableEq κ]
noncomputable def valV (kvs : List (κ × V)) (k : κ) : Option V := (kvs.find? fun kv => decide (kv.1 = k)).map (·.2)
noncomputable def putK (kvs : List (κ × V)) (k : κ) (v : V) : List (κ × V) :=
 if (kvs.any fun kv => decide (kv.1 = k)) = true then kvs.map (fun kv => if kv.1 = k then (kv.1, v) else kv) else kvs ++ [(k, v)]
theorem valV_pos {p : κ × V} {r : List (κ × V)} {k : κ} (e : p.1 = k) : valV (p :: r) k = some p.2 := by simp [valV, List.find?_cons, e]
theorem valV_neg {p : κ × V} {r : List (κ × V)} {k : κ} (e : ¬ p.1 = k) : valV (p :: r) k = valV r k := by simp [valV, List.find?_cons, e]
theorem valV_any (k : κ) : ∀ kvs : List (κ × V), (kvs.any fun kv => decide (kv.1 = k)) = (valV kvs k).isSome
 | [] => rfl
 | p :: r => by
  rw [List.any_cons]
  by_cases e : p.1 = k
  ·simp only [valV_pos e, decide_eq_true e, Bool.true_or, Option.isSome_some]
  ·rw [valV_neg e, decide_eq_false e, Bool.false_or]; exact valV_any k r
theorem length_putK (kvs : List (κ × V)) (k : κ) (v : V) : (putK kvs k v).length ≤ kvs.length + 1 := by
 unfold putK
 split
 ·rw [List.length_map]; omega
 ·rw [List.length_append, List.length_cons, List.length_nil]; omega
theorem putK_new {kvs : List (κ × V)} {k : κ} (v : V) (h : valV kvs k = none) : putK kvs k v = kvs ++ [(k, v)] := by
 unfold putK
 rw [valV_any, h]
 exact if_neg (by decide)
theorem RelO.isSome_eq {o : Option V} {u : Option Value} (r : RelO o u) : o.isSome = u.isSome := by
 cases o with
 | none => cases u with
  | none => rfl
  | some _ => exact (show False from r).elim
 | some _ => cases u with
  | none => exact (show False from r).elim
  | some _ => rfl
theorem KV.val {kvs : List (κ × V)} {vs : List (κ × Value)} (r : KV kvs vs) (k : κ) : RelO (valV kvs k) (valueAt vs k) := by
 unfold KV at r
 induction r with
 | nil => exact True.intro
 | @cons p q ps qs h t ih =>
  obtain ⟨h1, h2⟩ := h
  by_cases e : p.1 = k
  ·have e' : q.1 = k := h1.symm.trans e
   have b : valueAt (q :: qs) k = some q.2 := by simp [valueAt, List.find?_cons, e']
   rw [valV_pos e, b]; exact h2
  ·have e' : ¬ q.1 = k := fun z => e (h1.trans z)
   have b : valueAt (q :: qs) k = valueAt qs k := by simp [valueAt, List.find?_cons, e']
   rw [valV_neg e, b]; exact ih
theorem KV.any {kvs : List (κ × V)} {vs : List (κ × Value)} (r : KV kvs vs) (k : κ) : (kvs.any fun kv => decide (kv.1 = k)) = vs.any fun kv => decide (kv.1 = k) := by
 unfold KV at r
 induction r with
 | nil => rfl
 | cons h t ih => rw [List.any_cons, List.any_cons, ih, h.1]
theorem KV.repl {kvs : List (κ × V)} {vs : List (κ × Value)} (r : KV kvs vs) (k : κ) {y : V} {u : Value} (ry : RelV y u) :
  KV (kvs.map fun kv => if kv.1 = k then (kv.1, y) else kv) (vs.map fun kv => if kv.1 = k then (kv.1, u) else kv) := by
 unfold KV at r ⊢
 induction r with
 | nil => exact .nil
 | @cons p q ps qs h t ih =>
  rw [List.map_cons, List.map_cons]
  refine .cons ?_ ih
  obtain ⟨h1, h2⟩ := h
  by_cases e : p.1 = k
  ·rw [if_pos e, if_pos (h1.symm.trans e)]; exact ⟨h1, ry⟩
  ·rw [if_neg e, if_neg (fun z => e (h1.trans z))]; exact ⟨h1, h2⟩
theorem KV.put {kvs : List (κ × V)} {vs : List (κ × Value)} (r : KV kvs vs) (k : κ) {y : V} {u : Value} (ry : RelV y u) : KV (putK kvs k y) (stored vs k u) := by
 unfold putK stored
 rw [r.any k]
 by_cases e : (vs.any fun kv => decide (kv.1 = k)) = true
 ·rw [if_pos e, if_pos e]; exact r.repl k ry
 ·rw [if_neg e, if_neg e]; exact Paired.snoc r ⟨rfl, ry⟩
theorem KV.length {kvs : List (κ × V)} {vs : List (κ × Value)} (r : KV kvs vs) : kvs.length = vs.length := Paired.length r
end
theorem kV_is {P : Program} {w : World} {k : Key} {u : Value} (r : RelV (kV k) u) : (mixKind P w).is k u = true := by
 cases k with
 | inl i => obtain ⟨t, e⟩ := (show ∃ t, u = Value.int i t from r); subst e; exact mixKind_int P w i t
 | inr x => obtain ⟨t, e⟩ := (show ∃ t, u = Value.str x t from r); subst e; exact mixKind_str P w x t
theorem items_are {P : Program} {w : World} : ∀ {ks : List Key} {us : List Value}, Vals (ks.map kV) us → ItemsAre (mixKind P w) ks us
 | [], _, r => by rw [List.map_nil] at r; cases r; exact .nil
 | k :: ks, _, r => by
  rw [List.map_cons] at r
  cases r with
  | cons h t => exact .cons (kV_is h) (items_are t)
noncomputable abbrev KT (H : Hp) : List (List Key × V) → List (List Key × Addr × Value) → Prop := Paired fun p q => p.1 = q.1 ∧ H q.2.1 = some (.tup (p.1.map kV)) ∧ RelV p.2 q.2.2
theorem KT.val {H : Hp} {kvs : List (List Key × V)} {xs : List (List Key × Addr × Value)} (r : KT H kvs xs) (k : List Key) : RelO (valV kvs k) ((atKey xs k).map (·.2)) := by
 induction r with
 | nil => exact True.intro
 | @cons p q ps qs h t ih =>
  obtain ⟨h1, _, h2⟩ := h
  by_cases e : p.1 = k
  ·have e' : q.1 = k := h1.symm.trans e
   have b : atKey (q :: qs) k = some q.2 := by simp [atKey, List.find?_cons, e']
   rw [valV_pos e, b]; exact h2
  ·have e' : ¬ q.1 = k := fun z => e (h1.trans z)
   have b : atKey (q :: qs) k = atKey qs k := by simp [atKey, List.find?_cons, e']
   rw [valV_neg e, b]; exact ih
theorem KT.repl {H : Hp} {kvs : List (List Key × V)} {xs : List (List Key × Addr × Value)} (r : KT H kvs xs) (k : List Key) {y : V} {u : Value} (ry : RelV y u) :
  KT H (kvs.map fun kv => if kv.1 = k then (kv.1, y) else kv) (xs.map (putAt k u)) := by
 induction r with
 | nil => exact .nil
 | @cons p q ps qs h t ih =>
  rw [List.map_cons, List.map_cons]
  refine .cons ?_ ih
  obtain ⟨h1, h2, h3⟩ := h
  unfold putAt
  by_cases e : p.1 = k
  ·rw [if_pos e, if_pos (h1.symm.trans e)]; exact ⟨h1, h2, ry⟩
  ·rw [if_neg e, if_neg (fun z => e (h1.trans z))]; exact ⟨h1, h2, h3⟩
theorem KT.put {H : Hp} {kvs : List (List Key × V)} {xs : List (List Key × Addr × Value)} (r : KT H kvs xs) (k : List Key) {b : Addr} {y : V} {u : Value} (hb : H b = some (.tup (k.map kV))) (ry : RelV y u) :
  KT H (putK kvs k y) (storedH xs k b u) := by
 have e : (kvs.any fun kv => decide (kv.1 = k)) = (atKey xs k).isSome := by
  rw [valV_any, (r.val k).isSome_eq, Option.isSome_map]
 unfold putK storedH
 rw [e]
 by_cases q : (atKey xs k).isSome = true
 ·rw [if_pos q, if_pos q]; exact r.repl k ry
 ·rw [if_neg q, if_neg q]; exact Paired.snoc r ⟨rfl, hb, ry⟩
theorem KT.keeps {H H' : Hp} {kvs : List (List Key × V)} {xs : List (List Key × Addr × Value)} (r : KT H kvs xs) (ht : ∀ b ys, H b = some (.tup ys) → H' b = some (.tup ys)) : KT H' kvs xs :=
 Paired.mapP r fun _ _ z => ⟨z.1, ht _ _ z.2.1, z.2.2⟩
section
variable {P : Program} {w : World} {H : Hp} {h : Heap} {a : Addr}
theorem rd_of {u : HO} (ok : HOk P w H h) (e : Rd H a u) : ObjOk P w H h a u := e.ok ok
theorem dk_rd {kvs : List (Key × V)} (ok : HOk P w H h) (e : Rd H a (.dK kvs)) : kvs.length ≤ sizeLine ∧ (a == sysModules) = false ∧ ∃ vs, KV kvs vs ∧ h.DictOf (mixKind P w) a vs :=
 show ObjOk P w H h a (.dK kvs) from rd_of ok e
theorem dk_of {kvs : List (Key × V)} (ok : HOk P w H h) (e : H a = some (.dK kvs)) : kvs.length ≤ sizeLine ∧ (a == sysModules) = false ∧ ∃ vs, KV kvs vs ∧ h.DictOf (mixKind P w) a vs := dk_rd ok (.inl e)
theorem key_of {ks : List Key} (ok : HOk P w H h) (e : H a = some (.tup (ks.map kV))) : (tupleKind (mixKind P w)).is h ks a := by
 obtain ⟨_, its, r, o, h1, h2, n, h3, _⟩ := (show ObjOk P w H h a (.tup (ks.map kV)) from ok a _ e)
 exact ⟨o, its.toArray, n, h1, h2, h3, by simpa using items_are r⟩
theorem dt_rd {kvs : List (List Key × V)} (ok : HOk P w H h) (e : Rd H a (.dT kvs)) : kvs.length ≤ sizeLine ∧ (a == sysModules) = false ∧
  ∃ xs, KT H kvs xs ∧ h.DictOfH (tupleKind (mixKind P w)) a xs := by
 obtain ⟨z, y, xs, r, o, es, ep, h1, h2, h3, h4, h5⟩ := (show ObjOk P w H h a (.dT kvs) from rd_of ok e)
 refine ⟨z, y, xs, r, o, es, ep, h1, h2, h3, h4, fun x hx => ?_, h5⟩
 have all : ∀ {l : List (List Key × V)} {m : List (List Key × Addr × Value)}, KT H l m → ∀ x ∈ m, (tupleKind (mixKind P w)).is h x.1 x.2.1 := by
  intro l m q
  induction q with
  | nil => intro x hx; exact nomatch hx
  | @cons p q ps qs hq t ih =>
   intro x hx
   rcases List.mem_cons.mp hx with e | hx
   ·subst e
    exact key_of ok (by rw [← hq.1]; exact hq.2.1)
   ·exact ih x hx
 exact all r x hx
theorem dt_of {kvs : List (List Key × V)} (ok : HOk P w H h) (e : H a = some (.dT kvs)) : kvs.length ≤ sizeLine ∧ (a == sysModules) = false ∧
  ∃ xs, KT H kvs xs ∧ h.DictOfH (tupleKind (mixKind P w)) a xs := dt_rd ok (.inl e)
end
noncomputable def DGet (H : Hp) (a : Addr) (y : V) (r : Option V) : Prop :=
 (∃ kvs k, Rd H a (.dK kvs) ∧ y = kV k ∧ r = valV kvs k) ∨ ∃ kvs k b, Rd H a (.dT kvs) ∧ y = .ref b ∧ H b = some (.tup (k.map kV)) ∧ r = valV kvs k
noncomputable def DPut (H : Hp) (a : Addr) (y v : V) (H' : Hp) : Prop :=
 (∃ kvs k, H a = some (.dK kvs) ∧ y = kV k ∧ kvs.length < sizeLine ∧ H' = upd H a (.dK (putK kvs k v))) ∨
 ∃ kvs k b, H a = some (.dT kvs) ∧ y = .ref b ∧ H b = some (.tup (k.map kV)) ∧ kvs.length < sizeLine ∧ H' = upd H a (.dT (putK kvs k v))
section
variable {X : Cx} {pins : List (Addr × Obj)} {σ : St} {H : Hp} {s : Shared} {a : Addr} {y v : V} {u r : Value} {o : Option V} {A : Around} {E : Value → Shared → Prop}
theorem Inv.big (I : Inv X pins σ H s) : sysModules < s.heap.objs.size := by
 have h : mainGlobals < s.heap.objs.size := (I.mod.glob.keeps I.bk).lt
 exact Nat.lt_trans (by decide) h
theorem d_getItem {Q : Value → Shared → Prop} (hu : A.units + 1 < cLine) (I : Inv X pins σ H s) (g : DGet H a y (some v)) (ry : RelV y u) (h : ∀ w' s', Inv X pins σ H s' → RelV v w' → Q w' s') :
  wpAny (model X.prog X.w) A (getItem (.ref a) u) Q E s := by
 rcases g with ⟨kvs, k, e, ey, l⟩ | ⟨kvs, k, b, e, ey, eb, l⟩
 ·subst ey
  obtain ⟨z, hd, vs, rel, dd⟩ := dk_rd I.hok e
  obtain ⟨w', hw, rw'⟩ := RelO.some_of (v := v) (o := valueAt vs k) (by rw [l]; exact rel.val k)
  exact wpAny_getItem_of (kV_is ry) dd.mapOf hw (h w' _ (I.tok _) rw')
 ·subst ey
  cases (show u = Value.ref b from ry)
  obtain ⟨z, hd, xs, rel, dd⟩ := dt_rd I.hok e
  obtain ⟨w', hw, rw'⟩ := RelO.some_of (v := v) (o := (atKey xs k).map (·.2)) (by rw [l]; exact rel.val k)
  obtain ⟨p, hp, hp2⟩ := Option.map_eq_some_iff.mp hw
  refine wpAny_getItem_heap (tupleKind_room_in1 hu) (key_of I.hok eb) dd hp ?_
  rw [hp2]
  exact h w' _ (I.tok _) rw'
theorem d_write {h' : Heap} {t' : Nat} {ob : HO} (I : Inv X pins σ H s) (mu : Mut (H a)) (hs : Heap.SameBut a s.heap h') (he : ∃ q, h'.get? a = some q) (new : ObjOk X.prog X.w (upd H a ob) h' a ob) :
  Inv X pins σ (upd H a ob) { s with heap := h', toks := t' } :=
 I.write (x := a) (e := a) mu (.inl rfl) (fun b q hb z => (hs.2 b hb).trans z) he new
theorem dk_new {P : Program} {w : World} {H' : Hp} {h' : Heap} {kvs : List (Key × V)} {vs : List (Key × Value)} (z : kvs.length ≤ sizeLine) (hd : (a == sysModules) = false) (rel : KV kvs vs) (dd : h'.DictOf (mixKind P w) a vs) :
  ObjOk P w H' h' a (.dK kvs) := ⟨z, hd, vs, rel, dd⟩
theorem d_setItem {H' : Hp} {Q : Unit → Shared → Prop} (hu : A.units + 1 < cLine) (I : Inv X pins σ H s) (g : DPut H a y v H') (ry : RelV y u) (rv : RelV v r) (h : ∀ s', Inv X pins σ H' s' → Q () s') :
  wpAny (model X.prog X.w) A (setItem (.ref a) u r) Q E s := by
 rcases g with ⟨kvs, k, e, ey, l, eH⟩ | ⟨kvs, k, b, e, ey, eb, l, eH⟩
 ·subst ey eH
  obtain ⟨z, hd, vs, rel, dd⟩ := dk_of I.hok e
  have hz : vs.length ≤ sizeLine := by rw [← rel.length]; exact z
  have hl : (putK kvs k v).length ≤ sizeLine := by have := length_putK kvs k v; omega
  refine wpAny_setItem_pairs (hsz := hz) (kV_is ry) dd fun h' dd' hs => h _ ?_
  have he : ∃ q, h'.get? a = some q := let ⟨q, _, _, hq, _⟩ := dd'; ⟨q, hq⟩
  exact d_write I (by rw [e]; exact True.intro) hs he (dk_new hl hd (rel.put k rv) dd')
 ·subst ey eH
  cases (show u = Value.ref b from ry)
  obtain ⟨z, hd, xs, rel, dd⟩ := dt_of I.hok e
  have hz : xs.length ≤ sizeLine := by rw [← Paired.length rel]; exact z
  have hl : (putK kvs k v).length ≤ sizeLine := by have := length_putK kvs k v; omega
  refine wpAny_setItem_heap (hsz := hz) (tupleKind_room_in1 hu) (key_of I.hok eb) dd fun h' dd' hs => h _ ?_
  obtain ⟨q, es, ep, hq, h2, h3, h4, _, h5⟩ := dd'
  refine d_write I (by rw [e]; exact True.intro) hs ⟨q, hq⟩ ⟨hl, hd, _, (rel.put k eb rv).keeps fun c ys ec => ?_, q, es, ep, hq, h2, h3, h4, h5⟩
  rw [upd_ne (ne_of ec e (fun z => nomatch z))]
  exact ec
end
section
variable {X : Cx} {pins : List (Addr × Obj)} {σ : St} {H : Hp} {s : Shared} {a : Addr} {kvs : List (Key × V)} {k : Key} {u : Value} {A : Around} {E : Value → Shared → Prop}
end
noncomputable def NoSl (i : Expr) : Prop := ∀ ov iv, subscripted i false ov iv = operate [ov, iv] (getItem ov iv)
theorem subD_of {prog : Program} {w : World} {A : Around} {E : Value → Shared → Prop} {s : Shared} {env : Env} {value slice : Expr} {pos : Pos} {T id : String} {Q : Value → Shared → Prop}
  (hl : typeLookup (.type T) "__getitem__" = pure (some (.builtin id))) (hs : NoSl slice)
  (h : wpAny (model prog w) A (eval value env) (fun o s₁ => wpAny (model prog w) A (eval slice env) (fun i s₂ => s₂.TypeIs o T ∧ wpAny (model prog w) A (getItem o i) Q E s₂) E s₁) E s) :
  wpAny (model prog w) A (eval (.Subscript value slice pos) env) Q E s := by
 refine Subscript_ (wpAny_mono h (fun o s₁ h₁ => wpAny_mono h₁ (fun i s₂ h₂ => ?_) fun _ _ x => x) fun _ _ x => x)
 obtain ⟨hT, h₂⟩ := h₂
 unfold subscriptTail
 refine wpAny_bind ?_
 rw [getitemInPython_of_ne hT.not_modules]
 refine wpAny_bind (wpAny_specialOf hT hl ?_)
 have fin : wpAny (model prog w) A (subscripted slice false o i) (fun r s₃ => wpAny (model prog w) A (letTemporaryGo value o r >>= fun _ => pure r) Q E s₃) E s₂ := by
  rw [hs o i]
  exact wpAny_operating (wpAny_mono h₂ (fun r s₃ h₃ => wpAny_bind (wpAny_letTemporaryGo (wpAny_pure h₃))) fun _ _ x => x)
 first
  | exact wpAny_pure (wpAny_bind fin)
  | exact wpAny_bind (wpAny_pure (wpAny_bind fin))
  | exact wpAny_bind fin
theorem dict_typeIs {X : Cx} {pins : List (Addr × Obj)} {σ : St} {H : Hp} {s : Shared} {a : Addr} {y : V} {o : Option V} (I : Inv X pins σ H s) (g : DGet H a y o) : s.TypeIs (.ref a) "dict" := by
 rcases g with ⟨kvs, k, e, _, _⟩ | ⟨kvs, k, b, e, _, _, _⟩
 ·obtain ⟨_, _, vs, _, dd⟩ := dk_rd I.hok e
  exact dd.typeIs
 ·obtain ⟨_, _, xs, _, dd⟩ := dt_rd I.hok e
  exact dd.typeIs
noncomputable def tDGet (td ty : TE) : TE := fun σ H Q => td σ H fun x H1 => ty σ H1 fun y H2 => ∃ a v, x = .ref a ∧ DGet H2 a y (some v) ∧ Q v H2
noncomputable def sDPut (td ty tv : TE) : TS := fun D σ H => tv σ H fun v H1 => td σ H1 fun x H2 => ty σ H2 fun y H3 => ∃ a H4, x = .ref a ∧ DPut H3 a y v H4 ∧ D.nx σ H4
section
variable {X : Cx} {o i e value : Expr} {pos pos' tpos : Pos} {td ty tv : TE}
theorem pe_dget (hu : X.A.units + 1 < cLine) (ho : PE X o td) (hi : PE X i ty) (hs : NoSl i) : PE X (.Subscript o i pos) (tDGet td ty) := by
 intro pins s σ H Q I h
 refine subD_of PySem.F.slot_dict_getitem.lookup hs (thn (ho pins s σ H _ I h) fun u s1 ⟨x, H1, I1, rx, q1⟩ => thn (hi pins s1 σ H1 _ I1 q1) fun iv s2 ⟨y, H2, I2, ry, a, v, ex, g, q2⟩ => ?_)
 subst ex
 obtain rfl : u = Value.ref a := rx
 exact ⟨dict_typeIs I2 g, d_getItem hu I2 g ry fun w' s3 I3 rw' => ⟨v, H2, I3, rw', q2⟩⟩
theorem ps_dput (hu : X.A.units + 1 < cLine) (ho : PE X o td) (hi : PE X i ty) (hv : PE X value tv) (hs : swapsWith value (some (.Subscript o i pos')) pos.line X.env = pure false) :
  PS X (.Assign [.Subscript o i pos'] value pos) (sDPut td ty tv) := by
 intro pins s σ H D I h
 refine wpAny_Assign_Subscript (thn (hv pins s σ H _ I h) fun r s1 ⟨v, H1, I1, rv, q1⟩ => thn (ho pins s1 σ H1 _ I1 q1) fun u s2 ⟨x, H2, I2, rx, q2⟩ => thn (hi pins s2 σ H2 _ I2 q2) fun iv s3 ⟨y, H3, I3, ry, a, H4, ex, g, q3⟩ => ?_) hs
 subst ex
 obtain rfl : u = Value.ref a := rx
 exact d_setItem hu I3 g ry rv fun s4 I4 => ⟨σ, H4, I4, q3⟩
end
section
variable {X : Cx} {pos : Pos}
end
noncomputable def mergeK (kvs more : List (Key × V)) : List (Key × V) := more.foldl (fun acc kv => putK acc kv.1 kv.2) kvs
theorem KV.merge : ∀ {more : List (Key × V)} {rs : List (Key × Value)} {kvs : List (Key × V)} {vs : List (Key × Value)}, KV more rs → KV kvs vs → KV (mergeK kvs more) (merged vs rs) := by
 intro more rs kvs vs r
 unfold KV at r
 induction r generalizing kvs vs with
 | nil => intro q; exact q
 | @cons p q ps qs h t ih =>
  intro r0
  have e : KV (putK kvs p.1 p.2) (stored vs q.1 q.2) := by
   have := r0.put p.1 h.2
   rw [← h.1]; exact this
  exact ih e
theorem length_mergeK : ∀ (more kvs : List (Key × V)), (mergeK kvs more).length ≤ kvs.length + more.length
 | [], kvs => by show kvs.length ≤ kvs.length + 0; omega
 | p :: r, kvs => by
  have h1 := length_mergeK r (putK kvs p.1 p.2)
  have h2 := length_putK kvs p.1 p.2
  show (mergeK (putK kvs p.1 p.2) r).length ≤ _
  rw [List.length_cons]; omega
section
variable {X : Cx} {pins : List (Addr × Obj)} {σ : St} {H : Hp} {s : Shared} {a : Addr} {y d : V} {u r : Value} {o : Option V} {A : Around} {E : Value → Shared → Prop}
end
section
variable {X : Cx} {o e f : Expr} {apos cpos : Pos} {td ty tx : TE}
end
section
variable {X : Cx} {pins : List (Addr × Obj)} {σ : St} {H : Hp} {s : Shared} {a : Addr} {kvs : List (Key × V)} {A : Around} {E : Value → Shared → Prop}
end
section
variable {X : Cx} {pins : List (Addr × Obj)} {σ : St} {H : Hp} {s : Shared} {a : Addr} {y : V} {u : Value} {A : Around} {E : Value → Shared → Prop}
end
end L2
namespace Att
open PySem PySem.W PySem.Calls PyProof.Rows
theorem ints_of_wellAll {P : Params} {h : Heap} : ∀ (ns : List Int) (vs : List Value), WellAll P h vs (ns.map WData.int) → IntsAre vs ns := by
 intro ns
 induction ns with
 | nil =>
  intro vs w
  rw [List.map_nil] at w
  cases w
  exact .nil
 | cons n ns ih =>
  intro vs w
  rw [List.map_cons] at w
  cases w with
  | cons a b =>
   cases a
   exact .cons _ _ (ih _ b)
theorem script_of {l : OpenLaw} {n : Nat} (hn : l.most = some n) {P : Params} {h : Heap} {args : List WData} {vals : List Value}
  (hpre : l.row.toRowW.claim.pre args = true) (hwl : WellAll P h vals args) :
  ∃ a vs ns, vals = [Value.ref a] ∧ args = [WData.list (ns.map WData.int)] ∧ h.get? a = some { cls := .type "list", data := .seq vs.toArray } ∧ IntsAre vs ns ∧ ns.length ≤ n := by
 have hsh : WShape.hasAll [] args [.list .int] = true := (pre_splitW hpre).1
 have hc : l.pre.holds [] { args := args } = true := (pre_splitW hpre).2
 obtain ⟨d, r, rfl, h1, h2⟩ := hasAllW_cons hsh
 obtain rfl := hasAllW_nil h2
 obtain ⟨xs, rfl, h3⟩ := hasW_list h1
 obtain ⟨ns, rfl⟩ := items_int h3
 have hlen : ns.length ≤ n := by
  unfold OpenLaw.pre at hc
  have h4 : (WTm.not (.lt (.lit (.int (n : Int))) (.len (.arg 0)))).holds [] { args := [.list (ns.map .int)] } = true := by
   have h4 := (holds_andW hc).1
   rw [hn] at h4
   exact h4
  have h5 := condW_of h4 (w_not (w_lt w_lit (w_len_list (w_arg rfl))))
  rw [List.length_map] at h5
  refine Nat.le_of_not_lt fun q => ?_
  have q' : (n : Int) < ((ns.length : Nat) : Int) := by omega
  first
   | (rw [decide_eq_true q'] at h5; exact absurd h5 (by decide))
   | (simp at h5; omega)
 cases hwl with
 | cons w1 w2 =>
  cases w2
  cases w1 with
  | list ho hall => exact ⟨_, _, ns, rfl, rfl, ho, ints_of_wellAll ns _ hall, hlen⟩
theorem post_true (l : OpenLaw) (args : List WData) : l.row.toRowW.claim.post args (.bool true) args = true :=
 postW_of (r := l.row.toRowW) (X := (true == true))
  (show WShape.has [] (.bool true) .bool = true by first | rfl | decide | simp [WShape.has, WShape.arms, WShape.armsAll])
  (show (WTm.eq .res (.lit (.bool true))).value [] { args := args, res := some (.bool true), after := args } = some (.bool (true == true)) from w_eq_bool (w_res rfl) w_lit) rfl
theorem attach_call {l : OpenLaw} {n : Nat} {q : Program} {loose : List Str} {XP : (Str → Option Value) → Heap → Prop} {YP : World → Heap → Prop} {d : DefRec}
  (hn : l.most = some n) (hdf : d.params.defaults = [])
  (call : ∀ (w : World) (s₀ s₁ : Shared) (mg mb : Str → Option Value) (fa : Addr) (o : Obj) (pm cd doc : Value) (a : Addr) (vs : List Value) (ns : List Int),
   Ground q loose [] XP w s₀ mg mb s₁.heap → YP w s₁.heap →
   s₁.heap.get? fa = some o → o.data = .func (docDef d.name d.params d.body d.scope pm cd doc) → s₁.heap.CodeRec cd d.name → mg d.name = some (.ref fa) →
   s₁.heap.get? a = some { cls := .type "list", data := .seq vs.toArray } → IntsAre vs ns → ns.length ≤ n → s₁.gens = #[] →
   codeAny (model l.prog w) callerA (.call (.ref fa) ⟨[.ref a], []⟩) (fun r s' => r = .ok (.ret (.bool true)) ∧ OldK s₁.heap s'.heap ∧ s'.os = s₁.os ∧ AllBare s'.gens) s₁) :
  WalkO q loose XP YP l.row.toRowW d [] (fun f vs => PySem.call f vs) := by
 intro w s₀ s₁ mg mb G Y fa o pm cd doc dV kV ho hd hcd hD hmg hg args vals as hpre hlay hrd hwl hlo
 obtain rfl : dV = .none := Dflts.none hD hdf
 obtain rfl : kV = .none := Dflts.noKw hD
 obtain ⟨a, vs, ns, rfl, rfl, hobj, hints, hlen⟩ := script_of hn hpre hwl
 refine enter_call (codeAny_mono (call w s₀ s₁ mg mb fa o pm cd doc a vs ns G Y ho (fd_plain hd) hcd hmg hobj hints hlen hg) fun r s' hq => ?_)
 obtain ⟨rfl, h2, h3, h4⟩ := hq
 exact ⟨.inl ⟨.bool true, .bool true, [], rfl, fun _ => rfl, .bool true, post_true l _, fun _ => ⟨List.Pairwise.nil, fun _ hm => (nomatch hm)⟩⟩, h2, h3, h4⟩
section
variable {prog : Program} {w : World} {A : Around} {E : Value → Shared → Prop} {s : Shared} {K : Frag}
end
end Att
namespace L2
open PySem PySem.Spec PyProof.Rows
theorem vals_ints : ∀ {vs : List Value} {ns : List Int}, IntsAre vs ns → Vals (ns.map V.int) vs
 | _, _, .nil => .nil
 | _, _, .cons n t h => .cons ⟨t, rfl⟩ (vals_ints h)
noncomputable def Only (H : Hp) : Prop := ∀ b, H b = none ∨ ∃ o xs, H b = some (.frz o (.lst xs))
theorem law_call {P : Program} {w : World} {K : PySem.W.Frag} {mg mb : Str → Option Value} {CX : CXT} {k : Nat} {fa a : Addr} {fd : FuncData} {x : Str} {sp : Sp} {s₁ : Shared} {vs : List Value} {ns : List Int}
  (KX : K.In s₁.heap) (hns : s₁.heap.Ns mainGlobals mg) (hb : s₁.heap.Ns builtinsNs mb) (hbb : ∀ x : Str, x ≠ "__name__" → mb x = bootBuiltins x) (hlim : s₁.heap.NoLimit) (hg : s₁.gens = #[])
  (ha : s₁.heap.get? a = some { cls := .type "list", data := .seq vs.toArray }) (hi : IntsAre vs ns) (hl : ns.length ≤ sizeLine) (hr : Room k callerA)
  (F : ∀ base : Heap, K.In base → base.Ns mainGlobals mg → FnOk P w K mg base CX k fa fd [x] sp) (hbind : ∀ (s : Shared) (u : Value), BindsTo s fd ⟨[u], []⟩ [(x, u)])
  (hsp : ∀ H : Hp, Only H → SqL K H a (ns.map V.int) → sp [.ref a] H (fun v _ => v = .bl true) fun _ _ _ => False)
  (hCX : ∀ H e s', CX [] H s₁ (fun _ _ _ => False) e s' → False) :
  codeAny (model P w) callerA (.call (.ref fa) ⟨[.ref a], []⟩) (fun r s' => r = .ok (.ret (.bool true)) ∧ OldK s₁.heap s'.heap ∧ s'.os = s₁.os ∧ AllBare s'.gens) s₁ := by
 have rv := vals_ints hi
 have lenV := hi.length
 have core : ∀ H : Hp, Only H → SqL K H a (ns.map V.int) → HOk P w H s₁.heap → (∀ b, H b ≠ none → b = a) → (H a ≠ none → K.lookup a = none) →
   codeAny (model P w) callerA (.call (.ref fa) ⟨[.ref a], []⟩) (fun r s' => r = .ok (.ret (.bool true)) ∧ OldK s₁.heap s'.heap ∧ s'.os = s₁.os ∧ AllBare s'.gens) s₁ := by
  intro H hO hS hok hA hK
  have base_of : ∀ {b : Addr} {o : Obj}, s₁.heap.get? b = some o → H b = none → (hidT s₁.heap H).get? b = some o := fun e n => hidT_get e n
  have noA : ∀ {b : Addr} {o : Obj} {es : Array DictEntry} {ep : Nat}, s₁.heap.get? b = some o → o.data = .dict es ep → H b = none := fun {b o es ep} e d => by
   cases q : H b with
   | none => rfl
   | some u =>
    have e' : b = a := hA b (by rw [q]; simp)
    subst e'
    rw [ha] at e; cases e
    have d' : Data.seq vs.toArray _ = Data.dict es ep := d
    cases d'
  have nsK : ∀ {b : Addr} {m : Str → Option Value}, s₁.heap.Ns b m → (hidT s₁.heap H).Ns b m := fun {b m} ⟨o, es, ep, e, d, r⟩ => ⟨o, es, ep, base_of e (noA e d), d, r⟩
  have hKb : K.In (hidT s₁.heap H) := fun b o e => base_of (KX b o e) (by
   cases q : H b with
   | none => rfl
   | some u =>
    have e' : b = a := hA b (by rw [q]; simp)
    subst e'
    rw [hK (by rw [q]; simp)] at e; cases e)
  have hM : Mod K mg (hidT s₁.heap H) := ⟨hKb, nsK hns, ⟨mb, nsK hb, hbb⟩, let ⟨mc, h1, h2⟩ := hlim; ⟨mc, nsK h1, h2⟩⟩
  have e0 : Env0 P w K mg (hidT s₁.heap H) callerA [] s₁ H := ⟨rfl, hM, fun b o e => of_hidT e, Nat.le_of_eq (hidT_size _ _), trivial, fun b hb => absurd (show b ∈ ([] : List Addr) from hb) (by simp), hok, .of_eq hg⟩
  refine codeAny_mono ((F _ hKb (nsK hns)).run callerA [] s₁ H ⟨[.ref a], []⟩ [.ref a] [.ref a] _ _ hr e0 (hbind s₁ (.ref a)) (.cons rfl .nil) (hsp H hO hS)) fun r s' h => ?_
  cases r with
  | error e => exact (hCX H e s' h).elim
  | ok fl =>
   cases fl with
   | next => exact False.elim h
   | brk => exact False.elim h
   | cont => exact False.elim h
   | ret u =>
    obtain ⟨v, H', os, bare, un, hok', r', q⟩ := h
    have q' : v = .bl true := q
    subst q'
    obtain rfl : u = Value.bool true := r'
    refine ⟨rfl, OldK.of_keep fun b o e => ?_, os, bare⟩
    cases q : H b with
    | none => exact un.keep b o e q (by intro z; exact absurd (show b ∈ ([] : List Addr) from z) (by simp)) (by simp)
    | some u =>
     rcases hO b with z | ⟨ob, xs, z⟩
     ·rw [q] at z; cases z
     ·have z2 := un.frzs b ob _ z
      obtain ⟨e1, _⟩ := hok b _ z
      obtain ⟨e2, _⟩ := hok' b _ z2
      rw [e] at e1; cases e1
      exact e2
 cases hk : K.lookup a with
 | some o =>
  have e := KX a o hk
  rw [ha] at e
  cases e
  refine core (fun _ => none) (fun _ => .inl rfl) (.inr ⟨_, vs.toArray, _, hk, rfl, rfl, rfl, by rw [List.size_toArray, lenV]; exact hl, by simpa using rv⟩) (fun b u z => by have z' : (none : Option HO) = some u := z; cases z') (fun b z => absurd rfl z) fun z => absurd rfl z
 | none =>
  refine core (fun b => if b = a then some (.frz { cls := .type "list", data := .seq vs.toArray } (.lst (ns.map V.int))) else none) (fun b => ?_) (.inl (.inr ⟨{ cls := .type "list", data := .seq vs.toArray }, if_pos rfl⟩)) (fun b u z => ?_) (fun b z => ?_) fun _ => hk
  ·by_cases hb : b = a
   ·exact .inr ⟨_, _, if_pos hb⟩
   ·exact .inl (if_neg hb)
  ·by_cases hb : b = a
   ·have z' := (if_pos hb).symm.trans z
    cases z'
    subst hb
    exact ⟨ha, by rw [List.length_map]; exact hl, vs, _, rv, ha⟩
   ·have z' := (if_neg hb).symm.trans z
    cases z'
  ·by_cases hb : b = a
   ·exact hb
   ·exact absurd (if_neg hb) z
end L2
namespace L2
open PySem PySem.Spec PyProof.Rows
theorem walk_of {l : PySem.W.OpenLaw} {n k : Nat} {q : Program} {loose : List Str} {XP : (Str → Option Value) → Heap → Prop} {YP : World → Heap → Prop} {d : DefRec} {K : Params → PySem.W.Frag} {CX : World → CXT} {sp : World → Sp} {x : Str}
  (hn : l.most = some n) (hn2 : n ≤ sizeLine) (hdf : d.params.defaults = []) (hr : Room k callerA)
  (hY : ∀ (w : World) (h : Heap), YP w h → (K w.params).In h)
  (F : ∀ (w : World) (mg : Str → Option Value) (fa : Addr) (h : Heap), (K w.params).In h → h.Ns mainGlobals mg → mg d.name = some (.ref fa) →
   ∃ fd : FuncData, (∀ (s : Shared) (u : Value), BindsTo s fd ⟨[u], []⟩ [(x, u)]) ∧
    ∀ base : Heap, (K w.params).In base → base.Ns mainGlobals mg → FnOk l.prog w (K w.params) mg base (CX w) k fa fd [x] (sp w))
  (hsp : ∀ (w : World) (H : Hp) (a : Addr) (ns : List Int), ns.length ≤ n → Only H → SqL (K w.params) H a (ns.map V.int) → sp w [.ref a] H (fun v _ => v = .bl true) fun _ _ _ => False)
  (hCX : ∀ (w : World) (H : Hp) (s : Shared) (e : Value) (s' : Shared), CX w [] H s (fun _ _ _ => False) e s' → False) :
  PySem.W.WalkO q loose XP YP l.row.toRowW d [] (fun f vs => PySem.call f vs) := by
 refine Att.attach_call hn hdf fun w s₀ s₁ mg mb fa o pm cd doc a vs ns G Y ho hd hcd hmg hobj hints hlen hg => ?_
 have KX := hY w _ Y
 obtain ⟨fd, hb, hF⟩ := F w mg fa _ KX G.T.g hmg
 exact law_call KX G.T.g G.T.b G.T.builtins G.T.nolimit hg hobj hints (Nat.le_trans hlen hn2) hr hF hb (fun H hO hS => hsp w H a ns hlen hO hS) fun H e s' => hCX w H s₁ e s'
end L2
namespace L2
open PySem PySem.Spec PyProof.Rows
noncomputable def inClass (s : Stmt) (j : Nat) : Stmt := match s with
 | .ClassDef _ _ _ body _ _ _ _ _ _ _ => body.getD j (.Pass ⟨0, 0, 0, 0⟩)
 | _ => .Pass ⟨0, 0, 0, 0⟩
noncomputable def defArgs (s : Stmt) : Arguments := match s with
 | .FunctionDef _ a _ _ _ _ _ _ _ _ => a
 | _ => { posonlyargs := [], args := [], vararg := none, kwonlyargs := [], kw_defaults := [], kwarg := none, defaults := [] }
noncomputable def defBody (s : Stmt) : List Stmt := match s with
 | .FunctionDef _ _ b _ _ _ _ _ _ _ => b
 | _ => []
noncomputable def defScope (s : Stmt) : Scope := match s with
 | .FunctionDef _ _ _ _ _ _ sc _ _ _ => sc
 | _ => { kind := .function, names := [], isGenerator := false, isCoroutine := false }
noncomputable abbrev CX0 : CXT := fun _ _ _ _ _ _ => False
noncomputable abbrev E0 : XK := fun _ _ _ => False
theorem pass0 {X : Cx} : Passes CX0 X E0 := fun _ _ _ _ _ _ _ h => h.elim
structure Fun (K : PySem.W.Frag) (x qual : Str) (st : Stmt) (f : Addr) (fd : FuncData) : Prop where
 ex : ∃ (oc : Value) (od : Option Addr) (kV doc pm : Value) (an : Option Addr) (cdv ct : Value) (osl : Array (Option Value)),
  fd = PySem.W.fnOf x qual (defArgs st) (defBody st) (defScope st) .none kV doc pm an cdv ct ∧ K.lookup f = some ⟨oc, od, .func fd, osl⟩ ∧ PySem.W.codeIn K cdv qual = true
 kp : PySem.W.keepIn K (.ref f) = true
section
variable {P : Program} {w : World} {K : PySem.W.Frag} {mg : Str → Option Value} {base : Heap}
theorem Fun.ok {x qual : Str} {st : Stmt} {f : Addr} {fd : FuncData} {N ps : List Str} {k : Nat} {sp : Sp} (F : Fun K x qual st f fd) (S : FnScope N ps (defScope st)) (len : ∀ vs H Q E, sp vs H Q E → vs.length = ps.length)
  (hbody : ∀ (cdv : Value) (A : Around) (outer : List Env) (s : Shared) (H : Hp) (vs : List V) (Q : VK) (E : XK), Room k (A.deeper (envOfC qual (defScope st) s.heap.objs.size f cdv)) → sp vs H Q E →
   ∃ t, PSs (cxOf CX0 P w K mg base N qual (defScope st) f cdv A outer s H E).nox (defBody st) t ∧ t { nx := fun _ H' => Q .non H', rt := Q } (start N vs) H) : FnOk P w K mg base CX0 (k + 1) f fd ps sp := by
 obtain ⟨oc, od, kV, doc, pm, an, cdv, ct, osl, rfl, lk, hcd⟩ := F.ex
 refine fn_of lk hcd S len fun A outer s H vs Q E hr hsp => ?_
 obtain ⟨t, h, q⟩ := hbody cdv A outer s H vs Q E hr hsp
 exact ⟨t, h.nox, q⟩
theorem Fun.binds {x qual : Str} {st : Stmt} {f : Addr} {fd : FuncData} {ps : List Str} (F : Fun K x qual st f fd)
  (h : ∀ (kV doc pm : Value) (an : Option Addr) (cdv ct : Value) (us : List Value), us.length = ps.length → bindArgs (PySem.W.fnOf x qual (defArgs st) (defBody st) (defScope st) .none kV doc pm an cdv ct) ⟨us, []⟩ = pure (ps.zip us)) : Binds K fd ps [] := by
 obtain ⟨oc, od, kV, doc, pm, an, cdv, ct, osl, rfl, lk, hcd⟩ := F.ex
 exact .all (h kV doc pm an cdv ct)
theorem fun_mk {x qual : Str} {st : Stmt} {f : Addr} {oc : Value} {od an : Option Addr} {osl : Array (Option Value)} {kV doc pm cdv ct : Value} (l : K.lookup f = some ⟨oc, od, .func (PySem.W.fnOf x qual (defArgs st) (defBody st) (defScope st) .none kV doc pm an cdv ct), osl⟩)
  (c : PySem.W.codeIn K cdv qual = true) (k : PySem.W.keepIn K (.ref f) = true) : Fun K x qual st f (PySem.W.fnOf x qual (defArgs st) (defBody st) (defScope st) .none kV doc pm an cdv ct) := ⟨⟨oc, od, kV, doc, pm, an, cdv, ct, osl, rfl, l, c⟩, k⟩
end
theorem hu_of {A : Around} {k : Nat} (hr : Room k A) : A.units + 1 < cLine := Nat.lt_of_le_of_lt (Nat.add_le_add_left (by decide : 1 ≤ 64) _) hr.units
section
variable {X : Cx}
theorem pv (i : Nat) {x : Str} {pos : Pos} (hN : autoParam (X.N[i]? = some x) L2.aRfl._auto_1) (hv : Vis X.env.scope x := by first | exact Or.inl rfl | exact Or.inr (Or.inl rfl) | exact Or.inr (Or.inr rfl)) (hd : autoParam ((x == ("__debug__" : Str)) = false) L2.aDec._auto_1)
  (hcd : autoParam ((x == ("__classdict__" : Str)) = false) L2.aDec._auto_1) : PE X (.Name x pos) (tVar i) := pe_var hN hv hd hcd
end
noncomputable def Same (H H' : Hp) : Prop := ∀ b o, H b = some o → H' b = some o
theorem Same.refl (H : Hp) : Same H H := fun _ _ h => h
section
variable {κ : Type} [DecidableEq κ]
theorem valV_in {kvs : List (κ × V)} {k : κ} {v : V} (h : valV kvs k = some v) : k ∈ kvs.map (·.1) := by
 have q : (kvs.any fun kv => decide (kv.1 = k)) = true := by
  rw [valV_any, h]
  all_goals rfl
 obtain ⟨p, hp, e⟩ := List.any_eq_true.mp q
 exact List.mem_map.mpr ⟨p, hp, of_decide_eq_true e⟩
end
end L2
set_option linter.all false
set_option maxRecDepth 100000
set_option maxHeartbeats 4000000
namespace L2
open PySem PySem.Spec PyProof.Rows
noncomputable def closL (cells : List (Str × Addr)) : List (Str × NameKind) → List (Str × Addr) → List (Str × Addr)
 | [], acc => acc
 | (n, k) :: r, acc => if k = .free then closL cells r ((n, (cells.lookup n).getD 0) :: acc) else closL cells r acc
theorem closureFor_eq {scope : Scope} {env : Env} (h : ∀ x ∈ scope.names, x.2 = .free → ∃ c, env.cells.lookup x.1 = some c) : closureFor scope env = pure (closL env.cells scope.names []) := by
 have all : ∀ (l : List (Str × NameKind)) (acc : List (Str × Addr)), (∀ x ∈ l, x.2 = .free → ∃ c, env.cells.lookup x.1 = some c) →
   (forIn l acc fun (x : Str × NameKind) (cs : List (Str × Addr)) => (match x with | (name, kind) => if (kind == NameKind.free) = true then (do let c ← cellOf env name; pure (ForInStep.yield ((name, c) :: cs))) else pure (ForInStep.yield cs) : Sem (ForInStep (List (Str × Addr))))) = (pure (closL env.cells l acc) : Sem (List (Str × Addr))) := by
  intro l
  induction l with
  | nil => intro acc _; rfl
  | cons x r ih =>
   intro acc hl
   obtain ⟨n, k⟩ := x
   rw [List.forIn_cons]
   by_cases hk : k = .free
   ·subst hk
    obtain ⟨c, hc⟩ := hl (n, .free) List.mem_cons_self rfl
    have e : cellOf env n = pure c := by unfold cellOf; rw [hc]
    simp only [beq_self_eq_true, if_true, e, closL, pure_bind]
    rw [ih _ fun y hy => hl y (List.mem_cons_of_mem _ hy), hc]
    rfl
   ·have hb : (k == NameKind.free) = false := by simpa using hk
    simp only [hb, Bool.false_eq_true, if_false, closL, hk, pure_bind]
    exact ih _ fun y hy => hl y (List.mem_cons_of_mem _ hy)
 unfold closureFor
 simp only [bind_pure]
 exact all scope.names [] h
theorem closL_sub {cells : List (Str × Addr)} : ∀ {l : List (Str × NameKind)} {acc : List (Str × Addr)}, (∀ x ∈ l, x.2 = .free → ∃ c, cells.lookup x.1 = some c) → (∀ x c, acc.lookup x = some c → cells.lookup x = some c) →
  ∀ x c, (closL cells l acc).lookup x = some c → cells.lookup x = some c
 | [], _, _, h, x, c, e => h x c e
 | (n, k) :: r, acc, hl, h, x, c, e => by
  unfold closL at e
  have hr : ∀ y ∈ r, y.2 = .free → ∃ c, cells.lookup y.1 = some c := fun y hy => hl y (List.mem_cons_of_mem _ hy)
  split at e
  ·rename_i hk
   refine closL_sub hr (fun y d q => ?_) x c e
   rw [List.lookup_cons] at q
   split at q
   ·rename_i hy
    obtain ⟨c', hc'⟩ := hl (n, k) List.mem_cons_self hk
    have hy' : y = n := by simpa using hy
    subst hy'
    simp only [] at hc'
    rw [hc'] at q ⊢
    exact q
   ·exact h y d q
  ·exact closL_sub hr h x c e
theorem closL_acc {cells : List (Str × Addr)} {x : Str} : ∀ {l : List (Str × NameKind)} {acc : List (Str × Addr)}, (∃ c, acc.lookup x = some c) → ∃ c, (closL cells l acc).lookup x = some c
 | [], _, h => h
 | (n, k) :: r, acc, h => by
  unfold closL
  split
  ·refine closL_acc ?_
   rw [List.lookup_cons]
   split
   ·exact ⟨_, rfl⟩
   ·exact h
  ·exact closL_acc h
theorem closL_has {cells : List (Str × Addr)} {x : Str} : ∀ {l : List (Str × NameKind)} {acc : List (Str × Addr)}, (x, NameKind.free) ∈ l → ∃ c, (closL cells l acc).lookup x = some c
 | [], _, h => by simp at h
 | (n, k) :: r, acc, h => by
  unfold closL
  rcases List.mem_cons.mp h with e | h
  ·cases e
   rw [if_pos rfl]
   exact closL_acc ⟨(cells.lookup x).getD 0, by rw [List.lookup_cons]; simp⟩
  ·split
   ·exact closL_has h
   ·exact closL_has h
noncomputable def cxComp (X : Cx) (scope : Scope) (N : List Str) (C : Addr) (s : Shared) (H : Hp) (fp : List Addr) : Cx where
 prog := X.prog
 w := X.w
 K := X.K
 mg := X.mg
 base := X.base
 A := X.A
 N := N
 s₀ := s
 H₀ := H
 env := compEnvC scope (closL X.env.cells scope.names []) C X.env
 outer := X.stack
 stack := X.stack
 ex := fp
 calm := X.calm
 fn := fun _ => false
 pn := []
 xe := fun _ _ => False
structure CompScope (osc : Scope) (ON : List Str) (scope : Scope) (own N : List Str) : Prop where
 kind : scope.kind = .function
 nd : N.Nodup
 len : N.length = own.length + ON.length
 nocell : ∀ y ∈ scope.names, y.2 ≠ .cell
 loc : ∀ y ∈ scope.names, y.2 = .local → scope.names.lookup y.1 = some .local
 free : ∀ y ∈ scope.names, y.2 = .free → osc.names.lookup y.1 = some .cell ∨ osc.names.lookup y.1 = some .free
 out : ∀ p ∈ ON.zip (N.drop own.length), p.1 = p.2 ∨ scope.names.lookup p.2 = none
 own : ∀ x ∈ N.drop own.length, scope.names.lookup x ≠ some .local
theorem relabel_lookup {scope : Scope} {env : Env} (x : Str) (hn : ∀ y ∈ scope.names, y.2 ≠ .cell) : ((relabel scope env).names.lookup x = some .local → scope.names.lookup x = some .local) ∧
  ((relabel scope env).names.lookup x = some .cell ∨ (relabel scope env).names.lookup x = some .free → scope.names.lookup x = some .free) := by
 unfold relabel
 simp only
 revert hn
 generalize scope.names = l
 intro hn
 induction l with
 | nil => simp
 | cons y r ih =>
  obtain ⟨n, k⟩ := y
  have ih := ih fun y hy => hn y (List.mem_cons_of_mem _ hy)
  have hk : k ≠ .cell := hn (n, k) List.mem_cons_self
  rw [List.map_cons]
  simp only
  by_cases hc : (k == NameKind.free && env.scope.kind == ScopeKind.function && env.kindOf n == some NameKind.cell) = true
  ·rw [if_pos hc, List.lookup_cons, List.lookup_cons]
   have hf : k = .free := by
    simp only [Bool.and_eq_true] at hc
    simpa using hc.1.1
   split
   ·subst hf; simp
   ·exact ih
  ·rw [if_neg hc, List.lookup_cons, List.lookup_cons]
   split
   ·constructor
    ·exact fun h => h
    ·rintro (h | h)
     ·exact absurd (Option.some.inj h) hk
     ·exact h
   ·exact ih
noncomputable def PTs (X : Cx) (ifs : List Expr) (t : TT) : Prop :=
 ∀ (pins : List (Addr × Obj)) (s : Shared) (σ : St) (H : Hp) (Q : Bool → Hp → Prop), Inv X pins σ H s → t σ H Q →
  wpAny (model X.prog X.w) X.A (forIn ifs true fun c r => if r = true then do let ok ← isTrue c X.env (eval c X.env); pure (ForInStep.yield ok) else pure (ForInStep.yield r)) (TP X pins σ Q) X.xe s
noncomputable def tTrue : TT := fun _ H Q => Q true H
theorem pts_nil {X : Cx} : PTs X [] tTrue := fun _ _ _ H _ I h => wpAny_tests_nil ⟨H, I, h⟩
theorem compLoop_any {prog : Program} {w : World} {A : Around} {R : Result → Shared → Prop} {s : Shared} {elt target iter : Expr} {ifs : List Expr} {scope : Scope} {pos : Pos} {it acc : Value} {env : Env} (I : Nat → Shared → Prop)
  (turn : ∀ n s, I n s → wpAny (model prog w) A (pyNext it) (fun r s₁ => match r with
   | none => R (.ok .next) s₁
   | some v => wpAny (model prog w) A (letOwnedTupleGo target it v) (fun _ s₁' => wpAny (model prog w) A (assign target env v) (fun _ s₂ =>
     wpAny (model prog w) A (forIn ifs true fun c r => if r = true then do let ok ← isTrue c env (eval c env); pure (ForInStep.yield ok) else pure (ForInStep.yield r)) (fun ok s₃ =>
      if ok = true then wpAny (model prog w) A (eval elt env) (fun x s₄ =>
       wpAny (model prog w) A (call (.builtin "list.append") [acc, x]) (fun _ s₅ => ∃ m, m < n ∧ I m s₅) (fun _ _ => False) s₄) (fun _ _ => False) s₃
      else ∃ m, m < n ∧ I m s₃) (fun _ _ => False) s₂) (fun _ _ => False) s₁') (fun _ _ => False) s₁) (fun _ _ => False) s)
  (n : Nat) (h : I n s) : codeAny (model prog w) A (.compLoop (.ListComp elt [⟨target, iter, ifs, 0⟩] scope pos) 0 it acc env) R s := by
 refine codeAny_loop rfl I (fun n s hI => ?_) n h
 show wpAny _ A ((compTurn (.ListComp elt [⟨target, iter, ifs, 0⟩] scope pos) 0 it acc env).onRaise (fun x => do noteFrame x env; theTreesLotGoes x)) _ _ s
 refine wpAny_noted ?_
 rw [compTurn_list]
 refine wpAny_bind (wpAny_standAt (wpAny_bind (wpAny_mono (turn n s hI) (fun r s₁ h₁ => ?_) fun _ _ h' => h'.elim)))
 cases r with
 | none => exact wpAny_pure h₁
 | some v =>
  refine wpAny_bind (wpAny_mono h₁ (fun _ s₁' h₁' => ?_) fun _ _ h' => h'.elim)
  refine wpAny_bind (wpAny_mono h₁' (fun _ s₂ h₂ => wpAny_bind (wpAny_mono h₂ (fun ok s₃ h₃ => ?_) fun _ _ h' => h'.elim)) fun _ _ h' => h'.elim)
  cases ok with
  | false => exact wpAny_pure ⟨rfl, h₃⟩
  | true =>
   exact wpAny_bind (wpAny_bind (wpAny_mono h₃ (fun x s₄ h₄ => wpAny_bind (wpAny_mono h₄ (fun _ s₅ h₅ => wpAny_pure (wpAny_pure ⟨rfl, h₅⟩)) fun _ _ h' => h'.elim)) fun _ _ h' => h'.elim))
noncomputable def tComp (wi : TI) (k : Nat) (g : TG) (tc : TT) (te : TE) : TE := fun σ H Q => wi σ H fun J H1 => ∀ D, H1 D = none →
 ∃ W : Nat → Nat → List V → St → Hp → Prop, (∃ m, W 0 m [] (List.replicate k none ++ σ) (upd H1 D (.lst []))) ∧ ∀ i m ys σ' H', W i m ys σ' H' → H' D = some (.lst ys) ∧
  ((J.stop i H' ∧ Q (.ref D) H') ∨ (J.go i H' ∧ ys.length < sizeLine ∧ ∀ x H2, J.yld i H' x H2 → g x σ' H2 fun σ3 H3 => tc σ3 H3 fun b H4 =>
   if b = true then te σ3 H4 fun v H5 => H5 D = some (.lst ys) ∧ ∃ m', m' < m ∧ W (i + 1) m' (ys ++ [v]) σ3 (upd H5 D (.lst (ys ++ [v])))
   else ∃ m', m' < m ∧ W (i + 1) m' ys σ3 H4))
theorem comp_core {X : Cx} {osc scope : Scope} {ON own N : List Str} {tg iter elt : Expr} {ifs : List Expr} {pos : Pos} {wi : TI} {g : TG} {tc : TT} {te : TE} (S : CompScope osc ON scope own N) (hosc : X.env.scope = osc) (hON : X.N = ON) (hc : X.calm = true) (hi : PI X tg iter wi)
  (hg : ∀ C s H fp, PG (cxComp X scope N C s H fp) tg g) (ht : ∀ C s H fp, PTs (cxComp X scope N C s H fp) ifs tc) (he : ∀ C s H fp, PE (cxComp X scope N C s H fp) elt te)
  {pins : List (Addr × Obj)} {σ : St} {H : Hp} {s : Shared} {Q : VK} (I : Inv X pins σ H s) (h : tComp wi own.length g tc te σ H Q) {RR : Value → Addr → Result → Shared → Prop}
  (fin : ∀ (D C : Addr) (H' : Hp) (s' : Shared) (m : Str → Option Value), Inv X pins σ H' s' → Q (.ref D) H' → H' C = none → X.s₀.heap.objs.size ≤ C → C ≠ X.env.locals → (∀ x c, X.env.cells.lookup x = some c → c ≠ C) → (∀ p ∈ X.pn ++ pins, p.1 ≠ C) →
   s'.heap.Ns C m → RR (.ref D) C (.ok .next) s') :
  wpAny (model X.prog X.w) X.A (eval iter X.env) (fun x s₁ => wpAny (model X.prog X.w) X.A (pyIter x) (fun it s₂ => wpAny (model X.prog X.w) X.A (newList []) (fun acc s₃ =>
   wpAny (model X.prog X.w) X.A (newFunctionEnv scope X.env.globals (closL X.env.cells scope.names []) [] X.env.qual none .none (some X.env)) (fun cenv s₄ =>
    codeAny (model X.prog X.w) X.A (.compStart (.ListComp elt [⟨tg, iter, ifs, 0⟩] scope pos) 0 it acc { cenv with scope := relabel scope X.env }) (RR acc cenv.locals) s₄) X.xe s₃) X.xe s₂) X.xe s₁) X.xe s := by
 refine thn (hi pins s σ H _ I h) fun v s1 h1 => thn h1 fun itv s2 h2 => ?_
 obtain ⟨it, fp, tn, J, H2, e, I2, T, st2, f2, q⟩ := h2
 subst e
 refine wpAny_newObj_type (wpAny_newFunctionEnv S.nocell (by intro y hy; simp at hy) (fun h₁ hns₁ hsb₁ => ?_) S.kind)
 dsimp only at hns₁ hsb₁ ⊢
 have I3 : Inv X pins σ (upd H2 s2.heap.objs.size (.lst [])) { s2 with heap := s2.heap.push { cls := .type "list", data := .seq ([] : List Value).toArray }, toks := s2.toks } := I2.lnew (t' := s2.toks) .nil (Nat.zero_le _)
 have hD2 : H2 s2.heap.objs.size = none := I2.fresh
 obtain ⟨W, ⟨m0, w0⟩, turn⟩ := q _ hD2
 generalize hs3 : ({ s2 with heap := s2.heap.push { cls := .type "list", data := .seq ([] : List Value).toArray }, toks := s2.toks } : Shared) = s3 at I3
 have eh3 : s3.heap = s2.heap.push { cls := .type "list", data := .seq ([] : List Value).toArray } := by rw [← hs3]
 generalize hD : s2.heap.objs.size = D at I3 turn w0 hD2 ⊢
 generalize hH3 : upd H2 D (.lst []) = H3 at I3 w0
 rw [← eh3] at hns₁ hsb₁ ⊢
 have hC3 : H3 s3.heap.objs.size = none := I3.fresh
 have hsz3 : s3.heap.objs.size = D + 1 := by rw [eh3, Heap.size_push, hD]
 have fp2 : ∀ b ∈ fp, b < s2.heap.objs.size := fun b hb => by
  obtain ⟨o, e, _⟩ := T.obj _ _ st2 b hb
  exact Heap.lt_size e
 have f3 : ∀ b ∈ fp, FpOk X pins H3 b := fun b hb => by
  obtain ⟨g0, g1⟩ := f2 b hb
  refine ⟨?_, g1⟩
  rw [← hH3, upd_ne (by rw [← hD]; exact Nat.ne_of_lt (fp2 b hb))]
  exact g0
 have neC : ∀ b o, s3.heap.get? b = some o → b ≠ s3.heap.objs.size := fun b o e => Nat.ne_of_lt (Heap.lt_size e)
 have old : ∀ b o, s3.heap.get? b = some o → h₁.get? b = some o := fun b o e => hsb₁.extBut b o (neC b o e) (Heap.get?_push_of_some _ e)
 have hk := S.kind
 have hfr : ∀ y ∈ scope.names, y.2 = .free → ∃ c, X.env.cells.lookup y.1 = some c := fun y hy hf => I3.ok.has _ (by subst hosc; exact S.free y hy hf)
 have sub := closL_sub (acc := []) hfr (by intro x c e; simp at e)
 have JB : ∀ tk, Inv (cxComp X scope N s3.heap.objs.size s3 H3 fp) [] (List.replicate own.length none ++ σ) H3 { s3 with heap := h₁, toks := tk } := fun tk => by
  refine ⟨⟨I3.ok.mod, S.kind, I3.ok.glob, I3.ok.blt, Nat.le_refl _, fun x y c e1 e2 => I3.ok.inj x y c (sub x c e1) (sub y c e2), fun x hx => ?_, fun x c hf _ => (by cases hf), I3.ok.hd, I3.ok.frames, .inl rfl, fun b hb => ?_, I3.bs, Nat.le_trans I3.ok.bsz I3.sz, fun b o e hb => ?_, fun b hb hf => ?_, I3.stack, I3.stkFree⟩,
   rfl, I3.bare, Un.kept old, ⟨_, hns₁, fun i x v e1 e2 e3 => ?_⟩, fun x c e => ?_, hC3, fun x c e => I3.freeC x c (sub x c e), fun p hp => absurd (show p ∈ ([] : List (Addr × Obj)) from hp) (by simp), I3.hok.kept old, ?_⟩
  ·have q := (relabel_lookup (env := X.env) x S.nocell).2 hx
   exact closL_has (PySem.mem_of_lookup q)
  ·have hb : b ∈ fp := hb
   obtain ⟨_, g1, g2, g3, g4, g5⟩ := f3 b hb
   refine ⟨?_, fun x c e => g4 x c (sub x c e)⟩
   have := fp2 b hb
   show b ≠ s3.heap.objs.size
   rw [hsz3, ← hD]
   exact Nat.ne_of_lt (Nat.lt_succ_of_lt this)
  ·have hb : b ∈ fp := hb
   obtain ⟨_, g1, g2, g3, g4, g5⟩ := f3 b hb
   rcases g3 with g3 | g3
   ·exact I3.ok.noex b o e g3
   ·exact absurd (Nat.lt_of_lt_of_le (Heap.lt_size e) (Nat.le_trans I3.ok.bsz g3)) (Nat.lt_irrefl _)
  ·have hb : b ∈ fp := hb
   obtain ⟨_, g1, g2, g3, g4, g5⟩ := f3 b hb
   rcases List.mem_cons.mp (I3.stkSub b hf) with z | z
   ·exact g1 z
   ·exact g2 z
  ·have hi : own.length ≤ i := by
    rcases Nat.lt_or_ge i own.length with hlt | hge
    ·rw [List.getElem?_append_left (by simpa using hlt), List.getElem?_replicate] at e2
     split at e2 <;> cases e2
    ·exact hge
   rw [List.getElem?_append_right (by simpa using hi), List.length_replicate] at e2
   have e1 : N[own.length + (i - own.length)]? = some x := by rw [Nat.add_sub_cancel' hi]; exact e1
   have e1d : (N.drop own.length)[i - own.length]? = some x := by rw [List.getElem?_drop]; exact e1
   have nl : scope.names.lookup x ≠ some .local := S.own x (List.mem_of_getElem? e1d)
   have vis : scope.names.lookup x = some .free := by
    rcases e3 with z | z
    ·exact absurd ((relabel_lookup (env := X.env) x S.nocell).1 z) nl
    ·exact (relabel_lookup (env := X.env) x S.nocell).2 z
   have hlen := I3.len
   have hlt : i - own.length < X.N.length := by
    rw [← hlen]
    exact (List.getElem?_eq_some_iff.mp e2).1
   have hxN : X.N[i - own.length]? = some x := by
    rw [List.getElem?_eq_getElem hlt]
    have mz : (X.N[i - own.length], x) ∈ ON.zip (N.drop own.length) := by
     rw [← hON]
     refine List.mem_of_getElem? (i := i - own.length) ?_
     rw [List.getElem?_zip_eq_some]
     exact ⟨List.getElem?_eq_getElem hlt, e1d⟩
    rcases S.out _ mz with z | z
    ·exact congrArg some z
    ·exact absurd z (by rw [vis]; simp)
   have hko : X.env.scope.names.lookup x = some .cell ∨ X.env.scope.names.lookup x = some .free := by subst hosc; exact S.free _ (PySem.mem_of_lookup vis) rfl
   obtain ⟨m, hn, hl⟩ := I3.loc
   have hv : Vis X.env.scope x := by
    rcases hko with z | z
    ·exact .inr (.inl z)
    ·exact .inr (.inr z)
   obtain ⟨u, ru, lk⟩ := hl _ x v hxN e2 hv
   refine ⟨u, ru, .inr ⟨?_, ?_⟩⟩
   ·rcases e3 with z | z
    ·exact absurd ((relabel_lookup (env := X.env) x S.nocell).1 z) nl
    ·exact z
   ·rcases lk with ⟨k, _⟩ | ⟨_, c, ec, hcell⟩
    ·exfalso
     have k' : X.env.scope.names.lookup x = some .local := k
     rcases hko with z | z
     ·rw [k'] at z; cases z
     ·rw [k'] at z; cases z
    ·obtain ⟨c', ec'⟩ := closL_has (cells := X.env.cells) (acc := []) (PySem.mem_of_lookup vis)
     have := sub x c' ec'
     rw [ec] at this
     cases this
     obtain ⟨o, ho, hd⟩ := hcell
     exact ⟨c, ec', o, old c o ho, hd⟩
  ·obtain ⟨v, o, ho, hd⟩ := I3.cell x c (sub x c e)
   exact ⟨v, o, old c o ho, hd⟩
  ·show (List.replicate own.length none ++ σ).length = N.length
   rw [S.len, List.length_append, List.length_replicate, I3.len, hON]
 have stat : ∀ {H' : Hp}, (∀ b ∈ fp, H' b = none) → ∀ b ∈ fp, FpOk (cxComp X scope N s3.heap.objs.size s3 H3 fp) [] H' b := fun {H'} hn b hb => by
  obtain ⟨_, g1, g2, g3, g4, g5⟩ := f3 b hb
  refine ⟨hn b hb, ?_, fun hf => ?_, .inl hb, fun x c e => g4 x c (sub x c e), fun p hp => absurd (show p ∈ ([] : List (Addr × Obj)) from hp) (by simp)⟩
  ·have := fp2 b hb
   show b ≠ s3.heap.objs.size
   rw [hsz3, ← hD]
   exact Nat.ne_of_lt (Nat.lt_succ_of_lt this)
  ·rcases List.mem_cons.mp (I3.stkSub b hf) with z | z
   ·exact g1 z
   ·exact g2 z
 have st4 : tn 0 h₁ := T.keep _ _ _ st2 fun b hb o e => old b o (by rw [eh3]; exact Heap.get?_push_of_some _ e)
 have loop : ∀ s4 : Shared, s4 = { s3 with heap := h₁, toks := s2.toks + ([] : List (Str × Value)).length } →
   codeAny (model X.prog X.w) X.A (.compLoop (.ListComp elt [⟨tg, iter, ifs, 0⟩] scope pos) 0 (.ref it) (.ref D) (cxComp X scope N s3.heap.objs.size s3 H3 fp).env) (RR (.ref D) s3.heap.objs.size) s4 := by
  rintro s4 rfl
  refine compLoop_any (fun n s' => ∃ i ys σ' H', Inv (cxComp X scope N s3.heap.objs.size s3 H3 fp) [] σ' H' s' ∧ tn i s'.heap ∧ (∀ b ∈ fp, H' b = none) ∧ W i n ys σ' H') ?_ m0 ⟨0, [], _, H3, JB _, st4, fun b hb => (f3 b hb).1, w0⟩
  rintro n s5 ⟨i, ys, σ5, H5, I5, st5, fr5, w5⟩
  obtain ⟨hD5, ways⟩ := turn i n ys σ5 H5 w5
  rcases ways with ⟨stop, qn⟩ | ⟨go, hys, step⟩
  ·refine thn (T.done (cxComp X scope N s3.heap.objs.size s3 H3 fp) rfl rfl rfl hc i [] s5 σ5 H5 _ I5 (stat fr5) st5 stop) fun r s6 ⟨hr, I6⟩ => ?_
   subst hr
   obtain ⟨m, hn, _⟩ := I6.loc
   refine fin D _ H5 s6 m ?_ qn I6.free (Nat.le_trans I3.sz (Nat.le_refl _)) ?_ (fun x c e z => ?_) (fun p hp z => ?_) hn
   ·refine I3.call' (ch := fp) I6.os I6.base I6.hok I6.bare fun b hb => ?_
    obtain ⟨_, g1, g2, g3, g4, g5⟩ := f3 b hb
    exact ⟨g3, g1, g4, g5⟩
   ·exact Nat.ne_of_gt I3.lt
   ·obtain ⟨v, o, ho, _⟩ := I3.cell x c e
    exact absurd (Heap.lt_size ho) (by rw [z]; exact Nat.lt_irrefl _)
   ·exact absurd (Heap.lt_size (I3.pin p hp).1) (by rw [z]; exact Nat.lt_irrefl _)
  ·refine thn (T.item (cxComp X scope N s3.heap.objs.size s3 H3 fp) rfl rfl rfl hc i [] s5 σ5 H5 _ I5 (stat fr5) st5 go) fun r s6 ⟨u, hr, h6⟩ => ?_
   subst hr
   refine thn h6 fun _ s7 ⟨x, H7, I7, r7, y7, st7, fr7⟩ => ?_
   have I7' := I7.pinned (stat fr7) (T.obj _ _ st7)
   have back : ∀ {σ8 : St} {H8 : Hp} {s8 : Shared}, Inv (cxComp X scope N s3.heap.objs.size s3 H3 fp) ([] ++ pinsAt fp s7.heap) σ8 H8 s8 → tn (i + 1) s8.heap ∧ ∀ b ∈ fp, H8 b = none := fun {σ8 H8 s8} I8 => by
    refine ⟨T.keep _ _ _ st7 fun b hb o e => (I8.pin (b, o) (List.mem_append_right _ (List.mem_append_right _ (mem_pinsAt hb e)))).1, fun b hb => ?_⟩
    obtain ⟨o, e, d⟩ := T.obj _ _ st7 b hb
    exact (I8.pin (b, o) (List.mem_append_right _ (List.mem_append_right _ (mem_pinsAt hb e)))).2.1
   refine thn (hg _ _ _ _ _ s7 σ5 H7 x u _ I7' r7 (step x H7 y7)) fun _ s8 ⟨σ8, H8, I8, q8⟩ => ?_
   refine thn (ht _ _ _ _ _ s8 σ8 H8 _ I8 q8) fun ok s9 ⟨H9, I9, q9⟩ => ?_
   cases ok with
   | false =>
    rw [if_neg (by simp)] at q9 ⊢
    obtain ⟨m', hm, w9⟩ := q9
    exact ⟨m', hm, i + 1, ys, σ8, H9, I9.unpinned, (back I9).1, (back I9).2, w9⟩
   | true =>
    rw [if_pos rfl] at q9 ⊢
    refine thn (he _ _ _ _ _ s9 σ8 H9 _ I9 q9) fun y s10 ⟨v10, H10, I10, r10, hD10, m', hm, w10⟩ => ?_
    refine thn (mt_append _ s10 σ8 H10 (.ref D) [v10] (.ref D) [y] (fun r H11 => r = .non ∧ H11 = upd H10 D (.lst (ys ++ [v10]))) I10 rfl (.cons r10 .nil) ⟨D, ys, v10, rfl, rfl, hD10, hys, rfl, rfl⟩) fun _ s11 ⟨_, H11, I11, _, _, e11⟩ => ?_
    subst e11
    exact ⟨m', hm, i + 1, _, σ8, _, I11.unpinned, (back I11).1, (back I11).2, w10⟩
 have start := codeAny_compStart_list (R := RR (.ref D) s3.heap.objs.size) (loop _ rfl) (T.self X.A 0 _ _ _ st4 (loop _ rfl))
 subst hs3
 exact start
theorem pe_comp {X : Cx} {osc scope : Scope} {ON own N : List Str} {tg iter elt : Expr} {ifs : List Expr} {pos : Pos} {wi : TI} {g : TG} {tc : TT} {te : TE} (S : CompScope osc ON scope own N) (hosc : X.env.scope = osc) (hON : X.N = ON) (hc : X.calm = true) (hi : PI X tg iter wi)
  (hg : ∀ C s H fp, PG (cxComp X scope N C s H fp) tg g) (ht : ∀ C s H fp, PTs (cxComp X scope N C s H fp) ifs tc) (he : ∀ C s H fp, PE (cxComp X scope N C s H fp) elt te)
  (hs : ∀ x, foldedSetIterable iter X.env x = pure x := by intro _; rfl) :
  PE X (.ListComp elt [⟨tg, iter, ifs, 0⟩] scope pos) (tComp wi own.length g tc te) := by
 intro pins s σ H Q I h
 have hfr : ∀ y ∈ scope.names, y.2 = .free → ∃ c, X.env.cells.lookup y.1 = some c := fun y hy hf => I.ok.has _ (by subst hosc; exact S.free y hy hf)
 rw [eval_ListComp]
 refine wpAny_comprehension_free (use := none) rfl hs (closureFor_eq hfr) S.kind S.loc ?_
 refine comp_core S hosc hON hc hi hg ht he I h (RR := fun acc C => compPost (model X.prog X.w) X.A X.xe none (EP X pins σ Q) acc C) ?_
 intro D C H' s' m I' q h1 h2 h3 h4 h5 hn
 exact ⟨m, hn, fun h'' hs'' => ⟨.ref D, H', I'.turned (t' := s'.toks) (fun b o hb e => (hs''.2 b hb).trans e) h1 h3 (.inr h2) h4 h5, rfl, q⟩⟩
theorem ps_setComp {X : Cx} {osc scope : Scope} {ON own N : List Str} {tg iter elt : Expr} {ifs : List Expr} {pos spos py : Pos} {wi : TI} {g : TG} {tc : TT} {te : TE} {j : Nat} {y : Str} (hN : X.N.Nodup) (hj : X.N[j]? = some y) (hx : Loc X.env.scope y) (S : CompScope osc ON scope own N) (hosc : X.env.scope = osc) (hON : X.N = ON) (hc : X.calm = true) (hi : PI X tg iter wi)
  (hg : ∀ C s H fp, PG (cxComp X scope N C s H fp) tg g) (ht : ∀ C s H fp, PTs (cxComp X scope N C s H fp) ifs tc) (he : ∀ C s H fp, PE (cxComp X scope N C s H fp) elt te)
  (hsw : autoParam (swapsWith (.ListComp elt [⟨tg, iter, ifs, 0⟩] scope pos) (some (.Name y py)) spos.line X.env = pure true) L2.aRfl._auto_1)
  (hf : autoParam (X.fn y = true ∨ X.env.scope.names.lookup y = some .local) L2.aLoc._auto_1)
  (hs : ∀ x, foldedSetIterable iter X.env x = pure x := by intro _; rfl) :
  PS X (.Assign [.Name y py] (.ListComp elt [⟨tg, iter, ifs, 0⟩] scope pos) spos) (tAsg (tComp wi own.length g tc te) (gName j)) := by
 intro pins s σ H Dn I h
 have hfr : ∀ y ∈ scope.names, y.2 = .free → ∃ c, X.env.cells.lookup y.1 = some c := fun y hy hf => I.ok.has _ (by subst hosc; exact S.free y hy hf)
 rw [exec_Assign_Name_used _ _ _ _ hsw]
 refine wpAny_bind (wpAny_standAt (wpAny_bind ?_))
 show wpAny _ X.A (do let _ ← comprehension (.ListComp elt [⟨tg, iter, ifs, 0⟩] scope pos) scope X.env _ (newList []) false (eval iter X.env) (some (assign (.Name y py) X.env))) _ _ s
 refine wpAny_bind (wpAny_mono (wpAny_comprehension_free (use := some (assign (.Name y py) X.env)) (Q := fun _ s' => SP X pins Dn .next s') rfl hs (closureFor_eq hfr) S.kind S.loc ?_) (fun _ s' hq => wpAny_pure (wpAny_pure hq)) fun _ _ e => e)
 refine comp_core S hosc hON hc hi hg ht he I h (RR := fun acc C => compPost (model X.prog X.w) X.A X.xe (some (assign (.Name y py) X.env)) (fun _ s' => SP X pins Dn .next s') acc C) ?_
 intro D C H' s' m I' q h1 h2 h3 h4 h5 hn
 show wpAny _ X.A (assign (.Name y py) X.env (.ref D)) _ _ _
 refine wpAny_assign_Name (store_ok2 I' hN hj hx (v := .ref D) rfl (fun s'' I'' hsb => ?_) hf)
 obtain ⟨a, sb, ha⟩ := hsb
 have nC : C ≠ a := by
  rcases ha with ha | ha
  ·rw [ha]; exact h3
  ·exact (h4 y a ha).symm
 exact ⟨m, hn.sameBut sb nC, fun h'' hs'' => ⟨_, H', I''.turned (t' := s''.toks) (fun b o hb e => (hs''.2 b hb).trans e) h1 h3 (.inr h2) h4 h5, q⟩⟩
end L2
set_option linter.all false
set_option maxRecDepth 100000
set_option maxHeartbeats 4000000
namespace L2
open PySem PySem.Spec PyProof.Rows
noncomputable def nst (e : Expr) : Bool := match e with
 | .Starred .. => false
 | _ => true
theorem star1 {e : Expr} {es : List Expr} {env : Env} (h : nst e = true) : starEach (e :: es) env = (false, eval e env) :: starEach es env := by
 cases e <;> first | rfl | cases h
theorem plain_any {env : Env} {pos : Pos} : ∀ {es : List Expr}, es.all nst = true → (backTo pos (starEach es env)).any (·.1) = false
 | [], _ => rfl
 | e :: es, h => by
  rw [List.all_cons, Bool.and_eq_true] at h
  rw [star1 h.1]
  show (false || (backTo pos (starEach es env)).any (·.1)) = false
  rw [plain_any h.2]; rfl
theorem plain_all {env : Env} {pos : Pos} : ∀ {es : List Expr}, es.all nst = true → (backTo pos (starEach es env)).all (fun x => !x.1) = true
 | [], _ => rfl
 | e :: es, h => by
  rw [List.all_cons, Bool.and_eq_true] at h
  rw [star1 h.1]
  show (true && (backTo pos (starEach es env)).all (fun x => !x.1)) = true
  rw [plain_all h.2]; rfl
theorem few_ok {env : Env} {cpos : Pos} {e : Expr} {es : List Expr} (h : (e :: es).all nst = true) (hl : (e :: es).length < 30) :
  ((backTo cpos (starEach (e :: es) env)).all (fun x => !x.1) && (backToKw cpos (keywordEach [] env)).all (fun x => x.1.isSome) && decide ((e :: es).length + ([] : List Keyword).length + (if ([] : List Keyword).isEmpty then 0 else 1) < 30)) = true := by
 rw [plain_all h]
 have e2 : (backToKw cpos (keywordEach [] env)).all (fun x => x.1.isSome) = true := rfl
 rw [e2]
 have e3 : (e :: es).length + ([] : List Keyword).length + (if ([] : List Keyword).isEmpty then 0 else 1) < 30 := hl
 rw [decide_eq_true e3]; rfl
section
variable {X : Cx} {e : Expr} {es : List Expr} {te : TE} {t : TA}
theorem pa_c (ha : PE X e te) (hr : PA X es t) (h : autoParam (nst e = true) L2.aRfl._auto_1) : PA X (e :: es) (tCons te t) := pa_cons ha hr (star1 h)
theorem pe_cb {id : String} {x : Str} {p pos : Pos} {r : List V → Hp → VK → Prop} (hc : CallR X (.builtin id) r) (hg : Gl X x) (hm : X.mg x = none) (hv : bootBuiltins x = some (.builtin id)) (ha : PA X (e :: es) t) (h1 : autoParam (nst e = true) L2.aRfl._auto_1) (h2 : autoParam (es.all nst = true) L2.aRfl._auto_1) (hn : autoParam (x ≠ "__name__") L2.aDec._auto_1) (hdb : autoParam ((x == ("__debug__" : Str)) = false) L2.aDec._auto_1) :
  PE X (.Call (.Name x p) (e :: es) [] pos) (tCB r t) := pe_callB hc hg hm hv ha hn hdb (star1 h1) (plain_any h2)
theorem pe_ct {T : String} {x : Str} {p pos : Pos} {r : List V → Hp → VK → Prop} (hc : CallR X (.type T) r) (hg : Gl X x) (hm : X.mg x = none) (hv : bootBuiltins x = some (.type T)) (ha : PA X (e :: es) t) (h1 : autoParam (nst e = true) L2.aRfl._auto_1) (h2 : autoParam (es.all nst = true) L2.aRfl._auto_1) (hn : autoParam (x ≠ "__name__") L2.aDec._auto_1) (hdb : autoParam ((x == ("__debug__" : Str)) = false) L2.aDec._auto_1) :
  PE X (.Call (.Name x p) (e :: es) [] pos) (tCB r t) := pe_callTy hc hg hm hv ha hn hdb (star1 h1) (plain_any h2)
theorem pe_bmQ {o : Expr} {to : TE} {name : Str} {apos cpos : Pos} {T id : String} {r : V → List V → Hp → VK → Prop} (pa : PlainAttrs T) (slot : Slot T name id) (hty : typeOf (.builtin id) = pure (.type "method_descriptor")) (hm : MtR X id r) (ho : PE X o to) (ha : PA X (e :: es) t)
  (hbase : attributeBase o name X.env (eval o X.env) = eval o X.env) (hline : (apos.endLine == cpos.line) = true) (h : (e :: es).all nst = true) (hl : (e :: es).length < 30) : PE X (.Call (.Attribute o name apos) (e :: es) [] cpos) (tBM X.K T r to t) := by
 have h' := h
 rw [List.all_cons, Bool.and_eq_true] at h'
 exact pe_bm pa slot hty hm ho ha hbase (few_ok h hl) hline (star1 h'.1) (plain_any h'.2)
theorem pi_range1Q {tg a : Expr} {ta : TA} {p pos : Pos} (hg : Gl X "range") (hm : X.mg "range" = none) (ha : PA X [a] ta) (h : autoParam (nst a = true) L2.aRfl._auto_1) : PI X tg (.Call (.Name "range" p) [a] [] pos) (iRng1 ta) := pi_range1 hg hm ha (star1 h)
end
structure HasFn (K : PySem.W.Frag) (mg : Str → Option Value) (x : Str) (st : Stmt) (ps : List Str) : Prop where
 ex : ∃ (f : Addr) (fd : FuncData), Fun K x x st f fd ∧ Binds K fd ps [] ∧ mg x = some (.ref f)
structure CallOk (P : Program) (w : World) (K : PySem.W.Frag) (mg : Str → Option Value) (base : Heap) (CX : CXT) (k : Nat) (x : Str) (ps : List Str) (sp : Sp) : Prop where
 ex : ∃ (f : Addr) (fd : FuncData), mg x = some (.ref f) ∧ PySem.W.keepIn K (.ref f) = true ∧ Binds K fd ps [] ∧ FnOk P w K mg base CX k f fd ps sp
section
variable {P : Program} {w : World} {K : PySem.W.Frag} {mg : Str → Option Value} {base : Heap}
theorem HasFn.ok {x : Str} {st : Stmt} {N ps : List Str} {k : Nat} {sp : Sp} (F : HasFn K mg x st ps) (S : FnScope N ps (defScope st)) (len : ∀ vs H Q E, sp vs H Q E → vs.length = ps.length)
  (hbody : ∀ (f : Addr) (cdv : Value) (A : Around) (outer : List Env) (s : Shared) (H : Hp) (vs : List V) (Q : VK) (E : XK), Room k (A.deeper (envOfC x (defScope st) s.heap.objs.size f cdv)) → sp vs H Q E →
   ∃ t, PSs (cxOf CX0 P w K mg base N x (defScope st) f cdv A outer s H E).nox (defBody st) t ∧ t { nx := fun _ H' => Q .non H', rt := Q } (start N vs) H) : CallOk P w K mg base CX0 (k + 1) x ps sp := by
 obtain ⟨f, fd, F1, b, m⟩ := F.ex
 exact ⟨f, fd, m, F1.kp, b, F1.ok S len fun cdv A outer s H vs Q E hr h => hbody f cdv A outer s H vs Q E hr h⟩
end
section
variable {X : Cx} {CX : CXT} {k : Nat} {ps : List Str} {sp : Sp} {E : XK} {x : Str} {p pos : Pos} {e : Expr} {es : List Expr} {t : TA}
theorem pe_fn (F : CallOk X.prog X.w X.K X.mg X.base CX k x ps sp) (hr : Room k X.A) (hg : Gl X x) (hx : Passes CX X E) (ha : PA X (e :: es) t) (h1 : autoParam (nst e = true) L2.aRfl._auto_1) (h2 : autoParam (es.all nst = true) L2.aRfl._auto_1) (hdb : autoParam ((x == ("__debug__" : Str)) = false) L2.aDec._auto_1) :
  PE X (.Call (.Name x p) (e :: es) [] pos) (tCall sp [] E t) := by
 obtain ⟨f, fd, m, kp, b, G⟩ := F.ex
 exact pe_call G hr hg m kp b .nil hx ha hdb (star1 h1) (plain_any h2)
end
noncomputable def conV : Expr → Option V
 | .Constant (.int i) _ _ => some (.int i)
 | .Constant (.str x) _ _ => some (.str x)
 | .Constant (.bool b) _ _ => some (.bl b)
 | .Constant .none _ _ => some .non
 | _ => none
noncomputable def consV : List Expr → Option (List V)
 | [] => some []
 | e :: es => match conV e, consV es with
  | some v, some vs => some (v :: vs)
  | _, _ => none
noncomputable def tK (vs : List V) : TA := fun _ H Q => Q vs H
theorem pe_cst {X : Cx} {e : Expr} {v : V} (h : conV e = some v) : PE X e (tC v) ∧ ∀ es, starEach (e :: es) X.env = (false, eval e X.env) :: starEach es X.env := by
 unfold conV at h
 split at h
 ·cases h; exact ⟨pe_int, fun _ => rfl⟩
 ·cases h; exact ⟨pe_str, fun _ => rfl⟩
 ·cases h; exact ⟨pe_bl, fun _ => rfl⟩
 ·cases h; exact ⟨pe_non, fun _ => rfl⟩
 ·cases h
theorem pa_consts {X : Cx} : ∀ {es : List Expr} {vs : List V}, consV es = some vs → PA X es (tK vs)
 | [], vs, h => by cases h; exact pa_nil
 | e :: es, vs, h => by
  unfold consV at h
  split at h
  ·rename_i v ws e1 e2
   cases h
   have p := pe_cst (X := X) e1
   exact pa_cons (te := tC v) (t := tK ws) p.1 (pa_consts e2) (p.2 es)
  ·cases h
noncomputable def sq (H : Hp) (p : Addr) : Option (Bool × List V) := match H p with
 | some (.lst xs) => some (true, xs)
 | some (.tup xs) => some (false, xs)
 | some (.frz _ (.lst xs)) => some (true, xs)
 | some (.frz _ (.tup xs)) => some (false, xs)
 | _ => none
theorem sq_true {K : PySem.W.Frag} {H : Hp} {p : Addr} {xs : List V} (h : sq H p = some (true, xs)) : SqL K H p xs := by
 unfold sq at h
 split at h
 ·rename_i e; cases h; exact .inl (.inl e)
 ·cases h
 ·rename_i e; cases h; exact .inl (.inr ⟨_, e⟩)
 ·cases h
 ·cases h
theorem sq_false {K : PySem.W.Frag} {H : Hp} {p : Addr} {xs : List V} (h : sq H p = some (false, xs)) : SqT K H p xs := by
 unfold sq at h
 split at h
 ·cases h
 ·rename_i e; cases h; exact .inl (.inl e)
 ·cases h
 ·rename_i e; cases h; exact .inl (.inr ⟨_, e⟩)
 ·cases h
theorem sq_lst {H : Hp} {p : Addr} {xs : List V} (h : H p = some (.lst xs)) : sq H p = some (true, xs) := by unfold sq; rw [h]
theorem sq_tup {H : Hp} {p : Addr} {xs : List V} (h : H p = some (.tup xs)) : sq H p = some (false, xs) := by unfold sq; rw [h]
section
variable {X : Cx}
noncomputable def uAdd (K : PySem.W.Frag) : R2 := fun x y H Q => match x, y with
 | .int i, .int j => Q (.int (i + j)) H
 | .str i, .str j => i.length + j.length ≤ sizeLine ∧ Q (.str (i ++ j)) H
 | .ref a, .ref b => match H a, H b with
  | some (.lst xs), some (.lst ys) => xs.length + ys.length ≤ sizeLine ∧ ∀ p, H p = none → Q (.ref p) (upd H p (.lst (xs ++ ys)))
  | some (.tup xs), some (.tup ys) => xs ≠ [] ∧ ys ≠ [] ∧ xs.length + ys.length ≤ sizeLine ∧ ∀ p, H p = none → Q (.ref p) (upd H p (.tup (xs ++ ys)))
  | _, _ => False
 | _, _ => False
theorem uop_add : OpR X (binaryOp .Add) (uAdd X.K) := by
 intro pins s σ H x y v u Q I rx ry h
 cases x with
 | int i => cases y with
  | int j => exact op_add pins s σ H _ _ v u Q I rx ry ⟨i, j, rfl, rfl, h⟩
  | _ => exact (show False from h).elim
 | str i => cases y with
  | str j => exact op_add_str pins s σ H _ _ v u Q I rx ry ⟨i, j, rfl, rfl, h.1, h.2⟩
  | _ => exact (show False from h).elim
 | ref a => cases y with
  | ref b =>
   unfold uAdd at h
   simp only at h
   split at h
   ·rename_i xs ys e1 e2
    exact op_cat pins s σ H _ _ v u Q I rx ry ⟨a, b, xs, ys, rfl, rfl, e1, e2, h.1, h.2⟩
   ·rename_i xs ys e1 e2
    obtain ⟨h1, h2, h3, h4⟩ := h
    exact op_catT pins s σ H _ _ v u Q I rx ry ⟨a, b, xs, ys, rfl, rfl, SqT.of e1, SqT.of e2, h1, h3, fun z => absurd z h2, fun _ => h4⟩
   ·exact h.elim
  | _ => exact (show False from h).elim
 | _ => exact (show False from h).elim
noncomputable def uMul : R2 := fun x y H Q => match x, y with
 | .int i, .int j => CMul i j ∧ Q (.int (i * j)) H
 | .ref a, .int j => rRep (.ref a) (.int j) H Q
 | _, _ => False
theorem uop_mul : OpR X (binaryOp .Mult) uMul := by
 intro pins s σ H x y v u Q I rx ry h
 cases x with
 | int i => cases y with
  | int j => exact op_mul pins s σ H _ _ v u Q I rx ry ⟨i, j, rfl, rfl, h.1, h.2⟩
  | _ => exact (show False from h).elim
 | ref a => cases y with
  | int j => exact op_rep pins s σ H _ _ v u Q I rx ry h
  | _ => exact (show False from h).elim
 | _ => exact (show False from h).elim
theorem uop_eq : OpR X (compareOp .Eq) rEq := op_eq
theorem uop_ne : OpR X (compareOp .NotEq) rNe := op_ne
noncomputable def uIn (K : PySem.W.Frag) (neg : Bool) : R2 := fun x y H Q => match y with
 | .str j => ∃ i, x = .str i ∧ Q (.bl (if neg then !(!(Builtin.Str.occurrences j i 0 j.length 1).isEmpty) else !(Builtin.Str.occurrences j i 0 j.length 1).isEmpty)) H
 | .ref p => match sq H p with
  | some (_, xs) => flatV x = true ∧ xs.all flatV = true ∧ Q (.bl (if neg then !inV x xs else inV x xs)) H
  | none => ∃ xs, SqT K H p xs ∧ flatV x = true ∧ xs.all flatV = true ∧ Q (.bl (if neg then !inV x xs else inV x xs)) H
 | _ => False
noncomputable def uIx (K : PySem.W.Frag) : R2 := fun x y H Q => match x, y with
 | .str z, .int i => z.length ≤ sizeLine ∧ (match atI z.cps.toList i with | some c => Q (.str ⟨#[c]⟩) H | none => False)
 | .ref p, .int i => match sq H p with
  | some (_, xs) => (match atI xs i with | some v => Q v H | none => False)
  | none => ∃ xs v, SqT K H p xs ∧ atI xs i = some v ∧ Q v H
 | _, _ => False
theorem uix {k : Nat} (hu : k < cLine) : IxR X (uIx X.K) := by
 intro value slice pins s σ H x y v u Q I rx ry h hs
 refine ix_seq value slice pins s σ H x y v u Q I rx ry ?_ hs
 cases x with
 | str z => cases y with
  | int i =>
   obtain ⟨hz, h⟩ := h
   split at h
   ·rename_i c e; exact .inr (.inr ⟨z, i, c, rfl, rfl, hz, e, h⟩)
   ·exact h.elim
  | _ => exact (show False from h).elim
 | ref p => cases y with
  | int i =>
   unfold uIx at h
   simp only at h
   split at h
   ·rename_i b xs e
    split at h
    ·rename_i w' e'
     cases b with
     | true => exact .inl ⟨p, xs, i, w', rfl, rfl, sq_true e, e', h⟩
     | false => exact .inr (.inl ⟨p, xs, i, w', rfl, rfl, sq_false e, e', h⟩)
    ·exact h.elim
   ·obtain ⟨xs, w', hq, e', h⟩ := h
    exact .inr (.inl ⟨p, xs, i, w', rfl, rfl, hq, e', h⟩)
  | _ => exact (show False from h).elim
 | _ => exact (show False from h).elim
noncomputable def uSl (K : PySem.W.Frag) : V → Option Int → Option Int → Hp → VK → Prop := fun x lo hi H Q => match x with
 | .ref p => match sq H p with
  | some (true, xs) => ∀ q, H q = none → Q (.ref q) (upd H q (.lst (cutV xs lo hi)))
  | some (false, xs) => rSlT K (.ref p) lo hi H Q
  | none => rSlT K (.ref p) lo hi H Q
 | _ => False
noncomputable def uSet : V → V → V → Hp → (Hp → Prop) → Prop := fun o i v H Q => match o, i with
 | .ref p, .int k => match H p with
  | some (.lst xs) => (match ixN xs.length k with | some j => Q (upd H p (.lst (xs.set j v))) | none => False)
  | _ => False
 | _, _ => False
theorem uset : PSet X uSet := by
 intro pins s σ H o i v ov iv u Q I ro ri rv h
 cases o with
 | ref p => cases i with
  | int k =>
   unfold uSet at h
   simp only at h
   split at h
   ·rename_i xs e
    split at h
    ·rename_i j e'
     exact set_list pins s σ H _ _ v ov iv u Q I ro ri rv ⟨p, xs, k, j, rfl, rfl, e, e', h⟩
    ·exact h.elim
   ·exact h.elim
  | _ => exact (show False from h).elim
 | _ => exact (show False from h).elim
noncomputable def uLen (K : PySem.W.Frag) : List V → Hp → VK → Prop := fun xs H Q => match xs with
 | [.str y] => y.length ≤ sizeLine ∧ Q (.int y.length) H
 | [.ref p] => match sq H p with
  | some (_, ys) => Q (.int ys.length) H
  | none => ∃ ys, SqT K H p ys ∧ Q (.int ys.length) H
 | _ => False
theorem ucall_len : CallR X (.builtin "len") (uLen X.K) := by
 intro pins s σ H xs us Q I r h
 rcases xs with _ | ⟨x, _ | ⟨y, xs⟩⟩
 ·exact (show False from h).elim
 rotate_left
 ·cases x <;> exact (show False from h).elim
 cases x with
 | str y => exact call_len pins s σ H _ us Q I r ⟨.str y, _, rfl, ⟨h.1, rfl⟩, h.2⟩
 | ref p =>
  unfold uLen at h
  simp only at h
  split at h
  ·rename_i b ys e
   refine call_len pins s σ H _ us Q I r ⟨.ref p, ys.length, rfl, ?_, h⟩
   cases b with
   | true => exact .inl ⟨ys, sq_true e, rfl⟩
   | false => exact .inr ⟨ys, sq_false e, rfl⟩
  ·obtain ⟨ys, hq, h⟩ := h
   exact call_len pins s σ H _ us Q I r ⟨.ref p, ys.length, rfl, .inr ⟨ys, hq, rfl⟩, h⟩
 | _ => exact (show False from h).elim
noncomputable def uMin : List V → Hp → VK → Prop := fun xs H Q => match xs with
 | [.int i, .int j] => Q (.int (if j < i then j else i)) H
 | _ => False
noncomputable def uMax : List V → Hp → VK → Prop := fun xs H Q => match xs with
 | [.int i, .int j] => Q (.int (if j > i then j else i)) H
 | _ => False
noncomputable def uTuple (K : PySem.W.Frag) : List V → Hp → VK → Prop := fun xs H Q => match xs with
 | [.ref p] => match sq H p with
  | some (true, ys) => ∀ l, H l = none → Q (.ref l) (upd H l (.tup ys))
  | some (false, _) => Q (.ref p) H
  | none => ∃ ys, SqT K H p ys ∧ Q (.ref p) H
 | _ => False
theorem ucall_tuple : CallR X (.type "tuple") (uTuple X.K) := by
 intro pins s σ H xs us Q I r h
 rcases xs with _ | ⟨x, _ | ⟨y, xs⟩⟩
 ·exact (show False from h).elim
 rotate_left
 ·cases x <;> exact (show False from h).elim
 cases x with
 | ref p =>
  unfold uTuple at h
  simp only at h
  split at h
  ·rename_i ys e
   exact call_tuple_of pins s σ H _ us Q I r ⟨p, ys, rfl, .inl ⟨sq_true e, h⟩⟩
  ·rename_i ys e
   exact call_tuple_of pins s σ H _ us Q I r ⟨p, ys, rfl, .inr ⟨sq_false e, h⟩⟩
  ·obtain ⟨ys, hq, h⟩ := h
   exact call_tuple_of pins s σ H _ us Q I r ⟨p, ys, rfl, .inr ⟨hq, h⟩⟩
 | _ => exact (show False from h).elim
noncomputable def uInt : List V → Hp → VK → Prop := fun xs H Q => match xs with
 | [.int i] => Q (.int i) H
 | [.bl k] => Q (.int (if k = true then 1 else 0)) H
 | _ => False
theorem ucall_int : CallR X (.type "int") uInt := by
 intro pins s σ H xs us Q I r h
 rcases xs with _ | ⟨x, _ | ⟨y, ys⟩⟩
 ·exact (show False from h).elim
 ·cases x with
  | int i => exact call_int1 pins s σ H _ us Q I r (.inl ⟨i, rfl, h⟩)
  | bl k => exact call_int1 pins s σ H _ us Q I r (.inr ⟨k, rfl, h⟩)
  | _ => exact (show False from h).elim
 ·cases x <;> exact (show False from h).elim
noncomputable def uStr : List V → Hp → VK → Prop := fun xs H Q => match xs with
 | [.int i] => i.natAbs.log2 < 1920 ∧ Q (.str (toString i)) H
 | [.str z] => Q (.str z) H
 | _ => False
theorem ucall_sum (hc : X.calm = true) : CallR X (.builtin "sum") (fun xs H Q => ∃ (p : Addr) (ns : List Int), xs = [.ref p] ∧ SqL X.K H p (ns.map V.int) ∧ Q (.int ns.sum) H) := by
 intro pins s σ H xs us Q I r h
 obtain ⟨p, ns, rfl, hq, q⟩ := h
 obtain ⟨u, rfl, ru⟩ := vals1 r
 cases ru
 obtain ⟨its, rv, pl, hz⟩ := I.list hq
 have hi := intsAre_of rv
 obtain ⟨xs, hx⟩ := hi.allInts.items
 have hl' : s.heap.IsList p (intItems xs) := by rw [← hx]; exact pl.isList
 refine sum_intListG (I.ok.hd hc) hl' fun h' tk t' hk => ?_
 have e1 : ns = xs.toList.map (·.1) := by rw [← nums_intItems, ← hx]; exact hi.numsOf.symm
 have e2 : preSum (numAt xs) xs.size = ns.sum := by rw [preSum_eq, List.take_of_length_le (by simp), e1]
 rw [e2]
 exact ⟨.int ns.sum, H, I.kept hk, ⟨_, rfl⟩, q⟩
noncomputable def tyU (H : Hp) : V → Option String
 | .non => some "NoneType"
 | .bl _ => some "bool"
 | .int _ => some "int"
 | .str _ => some "str"
 | .ref a => match H a with
  | some (.lst _) => some "list"
  | some (.tup _) => some "tuple"
  | some (.dK _) => some "dict"
  | _ => none
 | _ => none
noncomputable def isiU (t c : String) : Bool := decide (t = c) || (t == "bool" && c == "int")
noncomputable def uIsi (K : PySem.W.Frag) : List V → Hp → VK → Prop := fun xs H Q => match xs with
 | [x, .ty T] => T ∈ ["bool", "int", "str", "list", "tuple", "dict"] ∧ match tyU H x with
  | some t => Q (.bl (isiU t T)) H
  | none => ∃ t b, TyOf K H x t ∧ PySem.W.kitOne K t (.type T) = some b ∧ Q (.bl b) H
 | _ => False
end
section
variable {X : Cx} {o e : Expr} {es : List Expr} {to : TE} {t : TA} {apos cpos : Pos}
end
section
variable {X : Cx} {e : Expr} {te : TE}
noncomputable def tRev (K : PySem.W.Frag) (te : TE) : TE := fun σ H Q => te σ H fun x H1 => match x with
 | .ref a => match sq H1 a with
  | some (true, xs) => ∀ p, H1 p = none → Q (.ref p) (upd H1 p (.lst xs.reverse))
  | _ => False
 | _ => False
end
end L2
set_option linter.all false
set_option maxRecDepth 100000
set_option maxHeartbeats 4000000
namespace L2
open PySem PySem.Spec PyProof.Rows
open AutoSeq1 (wpAny_loadPart')
section
variable {prog : Program} {w : World} {A : Around} {E : Value → Shared → Prop} {s : Shared}
end
section
variable {X : Cx} {pins : List (Addr × Obj)} {σ : St} {H : Hp} {s : Shared} {h' : Heap}
end
noncomputable def getT (K : PySem.W.Frag) (a : Addr) : Nat → Hp → V → Prop := fun i H x => ∃ xs, SqT K H a xs ∧ xs[i]? = some x
noncomputable def endT (K : PySem.W.Frag) (a : Addr) : Nat → Hp → Prop := fun i H => ∃ xs, SqT K H a xs ∧ xs.length = i
noncomputable def IteT (K : PySem.W.Frag) (a : Addr) : It :=
 ⟨fun i H => ∃ x, getT K a i H x, fun i H x H' => ∃ p y, (∀ xs, SqT K H a xs → xs[i]? = some y) ∧ H p = none ∧ x = .ref p ∧ H' = upd H p (.tup [.int i, y]), endT K a⟩
end L2
namespace L2
open PySem PySem.Spec PyProof.Rows
section
variable {X : Cx} {es : List Expr} {tk : Nat} {tp : Pos}
noncomputable def iEnum (K : PySem.W.Frag) (ta : TA) : TI := fun σ H R => ta σ H fun vs H1 => ∃ a, vs = [.ref a] ∧ (∃ xs, SqT K H1 a xs) ∧ R (IteT K a) H1
noncomputable def iAny (K : PySem.W.Frag) (tl : TE) : TI := fun σ H R => tl σ H fun x H1 => match x with
 | .ref a => match sq H1 a with
  | some (true, _) => R (Itl K a) H1
  | some (false, _) => R (Itt K a) H1
  | none => (∃ xs, SqT K H1 a xs) ∧ R (Itt K a) H1
 | _ => False
theorem pi_any {tg l : Expr} {tl : TE} (hl : PE X l tl) : PI X tg l (iAny X.K tl) := by
 intro pins s σ H R I h
 refine thn (hl pins s σ H _ I h) fun v s1 ⟨x, H1, I1, r1, q1⟩ => ?_
 obtain ⟨a, rfl, q⟩ : ∃ a, x = V.ref a ∧ (((∃ xs, SqL X.K H1 a xs) ∧ R (Itl X.K a) H1) ∨ ((∃ xs, SqT X.K H1 a xs) ∧ R (Itt X.K a) H1)) := by
  match x, q1 with
  | .ref a, q1 =>
   simp only at q1
   split at q1
   ·rename_i xs e; exact ⟨a, rfl, .inl ⟨⟨xs, sq_true e⟩, q1⟩⟩
   ·rename_i xs e; exact ⟨a, rfl, .inr ⟨⟨xs, sq_false e⟩, q1⟩⟩
   ·exact ⟨a, rfl, .inr q1⟩
 cases r1
 rcases q with ⟨⟨xs, hq⟩, q⟩ | ⟨⟨xs, hq⟩, q⟩
 ·obtain ⟨its, rv, p, hz⟩ := I1.list hq
  refine wpAny_pyIter_list p.isList ?_
  refine ⟨s1.heap.objs.size, [s1.heap.objs.size], _, _, H1, rfl, I1.kept (t' := s1.toks) fun b o e => Heap.get?_push_of_some _ e, turn_list a _, ⟨_, Heap.get?_push_size _ rfl, rfl, rfl⟩, fun b hb => ?_, q⟩
  have e : b = s1.heap.objs.size := by simpa using hb
  subst e
  exact I1.fpOk (Nat.le_refl _) (I1.hok.fresh (Nat.le_refl _))
 ·obtain ⟨its, rv, p, hz⟩ := I1.tuple hq
  refine wpAny_pyIter_tuple (show s1.heap.IsTuple a its.toArray from p) ?_
  refine ⟨s1.heap.objs.size, [s1.heap.objs.size], _, _, H1, rfl, I1.kept (t' := s1.toks) fun b o e => Heap.get?_push_of_some _ e, turn_tuple a _, ⟨_, Heap.get?_push_size _ rfl, rfl, rfl⟩, fun b hb => ?_, q⟩
  have e : b = s1.heap.objs.size := by simpa using hb
  subst e
  exact I1.fpOk (Nat.le_refl _) (I1.hok.fresh (Nat.le_refl _))
end
noncomputable def ForW (J : It) (g : TG) (tb : TS) (D : Ends) (σ : St) (H : Hp) : Prop := ∃ W : Nat → Nat → St → Hp → Prop, (∃ m, W 0 m σ H) ∧ ∀ i m σ H, W i m σ H →
 (J.stop i H ∧ D.nx σ H) ∨ (J.go i H ∧ ∃ N : St → Hp → Prop, (∀ σ' H', N σ' H' → ∃ m', m' < m ∧ W (i + 1) m' σ' H') ∧ ∀ x H', J.yld i H x H' → g x σ H' fun σ2 H2 => tb { D with nx := N, ct := N, bk := D.nx } σ2 H2)
theorem tFor_ap (wi : TI) (g : TG) (tb : TS) (D : Ends) (σ : St) (H : Hp) : tFor wi g tb D σ H = wi σ H fun J H1 => ForW J g tb D σ H1 := rfl
noncomputable def CompW (J : It) (k : Nat) (g : TG) (tc : TT) (te : TE) (Q : VK) (σ : St) (H1 : Hp) : Prop := ∀ D, H1 D = none →
 ∃ W : Nat → Nat → List V → St → Hp → Prop, (∃ m, W 0 m [] (List.replicate k none ++ σ) (upd H1 D (.lst []))) ∧ ∀ i m ys σ' H', W i m ys σ' H' → H' D = some (.lst ys) ∧
  ((J.stop i H' ∧ Q (.ref D) H') ∨ (J.go i H' ∧ ys.length < sizeLine ∧ ∀ x H2, J.yld i H' x H2 → g x σ' H2 fun σ3 H3 => tc σ3 H3 fun b H4 =>
   if b = true then te σ3 H4 fun v H5 => H5 D = some (.lst ys) ∧ ∃ m', m' < m ∧ W (i + 1) m' (ys ++ [v]) σ3 (upd H5 D (.lst (ys ++ [v])))
   else ∃ m', m' < m ∧ W (i + 1) m' ys σ3 H4))
theorem tComp_ap (wi : TI) (k : Nat) (g : TG) (tc : TT) (te : TE) (σ : St) (H : Hp) (Q : VK) : tComp wi k g tc te σ H Q = wi σ H fun J H1 => CompW J k g tc te Q σ H1 := rfl
section
variable {K : PySem.W.Frag} {g : TG} {tb : TS} {D : Ends} {σ : St} {H : Hp} {te : TE} {Q : VK}
theorem compW_tup {a : Addr} {xs : List V} (hn : xs.length ≤ sizeLine) (Pv : Addr → Nat → List V → Hp → Prop) (h0 : ∀ D, H D = none → Pv D 0 [] (upd H D (.lst []))) (hD : ∀ D i ys H', Pv D i ys H' → H' D = some (.lst ys) ∧ ys.length = i)
  (hl : ∀ D i ys H', Pv D i ys H' → SqT K H' a xs)
  (hs : ∀ D i ys H' x (R : VK), xs[i]? = some x → Pv D i ys H' → (∀ v H5, H5 D = some (.lst ys) → Pv D (i + 1) (ys ++ [v]) (upd H5 D (.lst (ys ++ [v]))) → R v H5) → te (some x :: σ) H' R) (hd : ∀ D ys H', Pv D xs.length ys H' → Q (.ref D) H') :
  CompW (Itt K a) 1 (gName 0) tTrue te Q σ H := by
 intro D hD0
 refine ⟨fun i m ys σ' H' => m = xs.length - i ∧ i ≤ xs.length ∧ Pv D i ys H' ∧ ∃ o, σ' = o :: σ, ⟨xs.length, by simp, Nat.zero_le _, h0 D hD0, none, rfl⟩, ?_⟩
 rintro i m ys σ' H' ⟨rfl, hi, p, o, rfl⟩
 obtain ⟨hDi, hly⟩ := hD _ _ _ _ p
 have q := hl _ _ _ _ p
 refine ⟨hDi, ?_⟩
 by_cases hlt : i < xs.length
 ·refine .inr ⟨⟨xs, xs[i], q, by simp [hlt]⟩, by omega, fun x H2 y => ?_⟩
  obtain ⟨rfl, y⟩ := y
  unfold gName tTrue
  dsimp only
  rw [if_pos rfl]
  exact hs D i ys H2 x _ (y xs q) p fun v H5 q1 q2 => ⟨q1, xs.length - (i + 1), by omega, rfl, hlt, q2, _, rfl⟩
 ·have e : i = xs.length := by omega
  subst e
  exact .inl ⟨⟨xs, q, Nat.le_refl _⟩, hd D ys H' p⟩
end
end L2
set_option linter.all false
set_option maxRecDepth 100000
set_option maxHeartbeats 4000000
namespace L2
open PySem PySem.Spec PyProof.Rows
namespace Ap
theorem tVar (i : Nat) (σ : St) (H : Hp) (Q : VK) : L2.tVar i σ H Q = ∃ v, σ[i]? = some (some v) ∧ Q v H := rfl
theorem tC (v : V) (σ : St) (H : Hp) (Q : VK) : L2.tC v σ H Q = Q v H := rfl
theorem tOp (r : R2) (ta tb : TE) (σ : St) (H : Hp) (Q : VK) : L2.tOp r ta tb σ H Q = ta σ H fun x H1 => tb σ H1 fun y H2 => r x y H2 Q := rfl
theorem tUn (r : V → Hp → VK → Prop) (ta : TE) (σ : St) (H : Hp) (Q : VK) : L2.tUn r ta σ H Q = ta σ H fun x H1 => r x H1 Q := rfl
theorem tTest (t : TE) (σ : St) (H : Hp) (Q : Bool → Hp → Prop) : L2.tTest t σ H Q = t σ H fun x H' => ∃ k, x = .bl k ∧ Q k H' := rfl
theorem tIf (t : TT) (ta tb : TE) (σ : St) (H : Hp) (Q : VK) : L2.tIf t ta tb σ H Q = t σ H fun c H1 => if c = true then ta σ H1 Q else tb σ H1 Q := rfl
theorem tAnd (t u : TT) (σ : St) (H : Hp) (Q : Bool → Hp → Prop) : L2.tAnd t u σ H Q = t σ H fun c H1 => if c = true then u σ H1 Q else Q false H1 := rfl
theorem tOr (t u : TT) (σ : St) (H : Hp) (Q : Bool → Hp → Prop) : L2.tOr t u σ H Q = t σ H fun c H1 => if c = true then Q true H1 else u σ H1 Q := rfl
theorem tNot (t : TT) (σ : St) (H : Hp) (Q : Bool → Hp → Prop) : L2.tNot t σ H Q = t σ H fun c H1 => Q (!c) H1 := rfl
theorem tAndV (ta tb : TE) (σ : St) (H : Hp) (Q : VK) : L2.tAndV ta tb σ H Q = ta σ H fun x H1 => ∃ c, x = .bl c ∧ if c = true then tb σ H1 Q else Q (.bl false) H1 := rfl
theorem tOrV (ta tb : TE) (σ : St) (H : Hp) (Q : VK) : L2.tOrV ta tb σ H Q = ta σ H fun x H1 => ∃ c, x = .bl c ∧ if c = true then Q (.bl true) H1 else tb σ H1 Q := rfl
theorem tChain (r r' : R2) (ta tb tc : TE) (σ : St) (H : Hp) (Q : VK) : L2.tChain r r' ta tb tc σ H Q = ta σ H fun x H1 => tb σ H1 fun y H2 => r x y H2 fun z H3 => ∃ k, z = .bl k ∧ (if k = true then tc σ H3 fun w' H4 => r' y w' H4 Q else Q (.bl false) H3) := rfl
theorem tK (vs : List V) (σ : St) (H : Hp) (Q : List V → Hp → Prop) : L2.tK vs σ H Q = Q vs H := rfl
theorem tNil (σ : St) (H : Hp) (Q : List V → Hp → Prop) : L2.tNil σ H Q = Q [] H := rfl
theorem tCons (ta : TE) (tr : TA) (σ : St) (H : Hp) (Q : List V → Hp → Prop) : L2.tCons ta tr σ H Q = ta σ H fun x H1 => tr σ H1 fun xs H2 => Q (x :: xs) H2 := rfl
theorem tTup (t : TA) (σ : St) (H : Hp) (Q : VK) : L2.tTup t σ H Q = t σ H fun xs H1 => xs.length ≤ sizeLine ∧ ∀ p, H1 p = none → Q (.ref p) (upd H1 p (.tup xs)) := rfl
theorem tLst (t : TA) (σ : St) (H : Hp) (Q : VK) : L2.tLst t σ H Q = t σ H fun xs H1 => xs.length ≤ sizeLine ∧ ∀ p, H1 p = none → Q (.ref p) (upd H1 p (.lst xs)) := rfl
theorem tCall (sp : Sp) (dvs : List V) (E : XK) (t : TA) (σ : St) (H : Hp) (Q : VK) : L2.tCall sp dvs E t σ H Q = t σ H fun vs H1 => sp (vs ++ dvs) H1 Q E := rfl
theorem tCB (r : List V → Hp → VK → Prop) (t : TA) (σ : St) (H : Hp) (Q : VK) : L2.tCB r t σ H Q = t σ H fun vs H1 => r vs H1 Q := rfl
theorem tBM (K : PySem.W.Frag) (T : String) (r : V → List V → Hp → VK → Prop) (to : TE) (t : TA) (σ : St) (H : Hp) (Q : VK) : L2.tBM K T r to t σ H Q = to σ H fun x H1 => tyV K T x H1 ∧ t σ H1 fun xs H2 => r x xs H2 Q := rfl
theorem tBM0 (K : PySem.W.Frag) (T : String) (r : V → List V → Hp → VK → Prop) (to : TE) (σ : St) (H : Hp) (Q : VK) : L2.tBM0 K T r to σ H Q = to σ H fun x H1 => tyV K T x H1 ∧ r x [] H1 Q := rfl
theorem tSl (r : V → Option Int → Option Int → Hp → VK → Prop) (te : TE) (tl th : TO) (σ : St) (H : Hp) (Q : VK) : L2.tSl r te tl th σ H Q = te σ H fun x H1 => tl σ H1 fun l H2 => th σ H2 fun u H3 => r x l u H3 Q := rfl
theorem tNoPart (σ : St) (H : Hp) (Q : Option Int → Hp → Prop) : L2.tNoPart σ H Q = Q none H := rfl
theorem tPart (t : TE) (σ : St) (H : Hp) (Q : Option Int → Hp → Prop) : L2.tPart t σ H Q = t σ H fun x H1 => ∃ i, x = .int i ∧ Q (some i) H1 := rfl
theorem tSeq (t u : TS) (D : Ends) (σ : St) (H : Hp) : L2.tSeq t u D σ H = t { D with nx := u D } σ H := rfl
theorem tAsg (te : TE) (g : TG) (D : Ends) (σ : St) (H : Hp) : L2.tAsg te g D σ H = te σ H fun x H1 => g x σ H1 D.nx := rfl
theorem gName (i : Nat) (v : V) (σ : St) (H : Hp) (Q : St → Hp → Prop) : L2.gName i v σ H Q = Q (σ.set i (some v)) H := rfl
theorem gSub (to ti : TE) (t : TSet) (v : V) (σ : St) (H : Hp) (Q : St → Hp → Prop) : L2.gSub to ti t v σ H Q = to σ H fun o H1 => ti σ H1 fun i H2 => t o i v H2 fun H3 => Q σ H3 := rfl
theorem gTup (K : PySem.W.Frag) (n : Nat) (t : TGs) (v : V) (σ : St) (H : Hp) (Q : St → Hp → Prop) : L2.gTup K n t v σ H Q = ∃ a xs, v = .ref a ∧ SqT K H a xs ∧ xs.length = n ∧ t xs σ H Q := rfl
theorem gCons (t : TG) (u : TGs) (v : V) (vs : List V) (σ : St) (H : Hp) (Q : St → Hp → Prop) : L2.gCons t u (v :: vs) σ H Q = t v σ H fun σ' H' => u vs σ' H' Q := by
 refine propext ⟨fun ⟨a, b, e, h⟩ => ?_, fun h => ⟨v, vs, rfl, h⟩⟩
 cases e; exact h
theorem gNil (σ : St) (H : Hp) (Q : St → Hp → Prop) : L2.gNil [] σ H Q = Q σ H := propext ⟨fun h => h.2, fun h => ⟨rfl, h⟩⟩
theorem tRet (te : TE) (D : Ends) (σ : St) (H : Hp) : L2.tRet te D σ H = te σ H D.rt := rfl
theorem tRetN (D : Ends) (σ : St) (H : Hp) : L2.tRetN D σ H = D.rt .non H := rfl
theorem tDrop (te : TE) (D : Ends) (σ : St) (H : Hp) : L2.tDrop te D σ H = te σ H fun _ H1 => D.nx σ H1 := rfl
theorem tIfS (c : TT) (t u : TS) (D : Ends) (σ : St) (H : Hp) : L2.tIfS c t u D σ H = c σ H fun b H1 => if b = true then t D σ H1 else u D σ H1 := rfl
theorem tNext (D : Ends) (σ : St) (H : Hp) : L2.tNext D σ H = D.nx σ H := rfl
theorem tBreak (D : Ends) (σ : St) (H : Hp) : L2.tBreak D σ H = D.bk σ H := rfl
theorem tCont (D : Ends) (σ : St) (H : Hp) : L2.tCont D σ H = D.ct σ H := rfl
theorem tTrue (σ : St) (H : Hp) (Q : Bool → Hp → Prop) : L2.tTrue σ H Q = Q true H := rfl
theorem iRng1 (ta : TA) (σ : St) (H : Hp) (R : It → Hp → Prop) : L2.iRng1 ta σ H R = ta σ H fun vs H1 => ∃ j : Int, vs = [.int j] ∧ -(2 ^ 62) ≤ j ∧ j < 2 ^ 62 ∧ R (Itr 0 j.toNat) H1 := rfl
theorem iRng2 (ta : TA) (σ : St) (H : Hp) (R : It → Hp → Prop) : L2.iRng2 ta σ H R = ta σ H fun vs H1 => ∃ i j : Int, vs = [.int i, .int j] ∧ (-(2 ^ 62) ≤ i ∧ i < 2 ^ 62 ∧ -(2 ^ 62) ≤ j ∧ j < 2 ^ 62) ∧ R (Itr i (j - i).toNat) H1 := rfl
theorem iAny (K : PySem.W.Frag) (tl : TE) (σ : St) (H : Hp) (R : It → Hp → Prop) : L2.iAny K tl σ H R = tl σ H fun x H1 => match x with
 | .ref a => match sq H1 a with
  | some (true, _) => R (Itl K a) H1
  | some (false, _) => R (Itt K a) H1
  | none => (∃ xs, SqT K H1 a xs) ∧ R (Itt K a) H1
 | _ => False := rfl
theorem iEnum (K : PySem.W.Frag) (ta : TA) (σ : St) (H : Hp) (R : It → Hp → Prop) : L2.iEnum K ta σ H R = ta σ H fun vs H1 => ∃ a, vs = [.ref a] ∧ (∃ xs, SqT K H1 a xs) ∧ R (IteT K a) H1 := rfl
theorem rI (C : Int → Int → Prop) (g : Int → Int → V) (i j : Int) (H : Hp) (Q : VK) : L2.rI C g (.int i) (.int j) H Q = (C i j ∧ Q (g i j) H) := by
 refine propext ⟨fun ⟨a, b, e1, e2, h⟩ => ?_, fun h => ⟨i, j, rfl, rfl, h⟩⟩
 cases e1; cases e2; exact h
theorem rI0 (g : Int → Int → V) (i j : Int) (H : Hp) (Q : VK) : L2.rI0 g (.int i) (.int j) H Q = Q (g i j) H := by
 refine propext ⟨fun ⟨a, b, e1, e2, h⟩ => ?_, fun h => ⟨i, j, rfl, rfl, h⟩⟩
 cases e1; cases e2; exact h
theorem rU (g : Int → V) (i : Int) (H : Hp) (Q : VK) : L2.rU g (.int i) H Q = Q (g i) H := by
 refine propext ⟨fun ⟨a, e1, h⟩ => ?_, fun h => ⟨i, rfl, h⟩⟩
 cases e1; exact h
theorem uAddI (K : PySem.W.Frag) (i j : Int) (H : Hp) (Q : VK) : uAdd K (.int i) (.int j) H Q = Q (.int (i + j)) H := rfl
theorem uAddS (K : PySem.W.Frag) (i j : Str) (H : Hp) (Q : VK) : uAdd K (.str i) (.str j) H Q = (i.length + j.length ≤ sizeLine ∧ Q (.str (i ++ j)) H) := rfl
theorem uMulI (i j : Int) (H : Hp) (Q : VK) : uMul (.int i) (.int j) H Q = (CMul i j ∧ Q (.int (i * j)) H) := rfl
theorem rEqI (i j : Int) (H : Hp) (Q : VK) : rEq (.int i) (.int j) H Q = Q (.bl (decide (i = j))) H := by
 have e : decide (V.int i = V.int j) = decide (i = j) := by rw [decide_eq_decide]; constructor <;> intro h <;> (try cases h) <;> (try rw [h]) <;> rfl
 unfold rEq
 rw [e]
 exact propext ⟨fun h => h.2, fun h => ⟨rfl, h⟩⟩
theorem rEqS (i j : Str) (H : Hp) (Q : VK) : rEq (.str i) (.str j) H Q = Q (.bl (decide (i = j))) H := by
 have e : decide (V.str i = V.str j) = decide (i = j) := by rw [decide_eq_decide]; constructor <;> intro h <;> (try cases h) <;> (try rw [h]) <;> rfl
 unfold rEq
 rw [e]
 exact propext ⟨fun h => h.2, fun h => ⟨rfl, h⟩⟩
theorem rNeI (i j : Int) (H : Hp) (Q : VK) : rNe (.int i) (.int j) H Q = Q (.bl (!decide (i = j))) H := by
 have e : decide (V.int i = V.int j) = decide (i = j) := by rw [decide_eq_decide]; constructor <;> intro h <;> (try cases h) <;> (try rw [h]) <;> rfl
 unfold rNe
 rw [e]
 exact propext ⟨fun h => h.2, fun h => ⟨rfl, h⟩⟩
theorem rNeS (i j : Str) (H : Hp) (Q : VK) : rNe (.str i) (.str j) H Q = Q (.bl (!decide (i = j))) H := by
 have e : decide (V.str i = V.str j) = decide (i = j) := by rw [decide_eq_decide]; constructor <;> intro h <;> (try cases h) <;> (try rw [h]) <;> rfl
 unfold rNe
 rw [e]
 exact propext ⟨fun h => h.2, fun h => ⟨rfl, h⟩⟩
theorem truB (K : PySem.W.Frag) (b : Bool) (H : Hp) (k : Bool) : TruV K (.bl b) H k = (k = b) := rfl
theorem truI (K : PySem.W.Frag) (i : Int) (H : Hp) (k : Bool) : TruV K (.int i) H k = (k = (i != 0)) := rfl
theorem cxK (CX : CXT) (P : Program) (w : World) (K : PySem.W.Frag) (mg : Str → Option Value) (base : Heap) (N : List Str) (qual : Str) (scope : Scope) (f : Addr) (cd : Value) (A : Around) (outer : List Env) (s : Shared) (H : Hp) (E : XK) : (cxOf CX P w K mg base N qual scope f cd A outer s H E).K = K := rfl
end Ap
noncomputable def KB (ex : List Addr) (H H' : Hp) : Prop := ∀ b o, H b = some o → b ∉ ex → H' b = some o
theorem KB.refl (ex : List Addr) (H : Hp) : KB ex H H := fun _ _ e _ => e
theorem KB.trans {ex : List Addr} {H H1 H2 : Hp} (a : KB ex H H1) (b : KB ex H1 H2) : KB ex H H2 := fun c o e n => b c o (a c o e n) n
theorem KB.mono {ex ex' : List Addr} {H H' : Hp} (h : KB ex H H') (s : ∀ b ∈ ex, b ∈ ex') : KB ex' H H' := fun b o e n => h b o e fun z => n (s b z)
theorem KB.all {ex : List Addr} {H H' : Hp} (h : KB [] H H') : KB ex H H' := h.mono (by simp)
theorem KB.new {ex : List Addr} {H : Hp} {p : Addr} {o : HO} (h : H p = none) : KB ex H (upd H p o) := fun b u e _ => by rw [upd_ne (ne_of_none e h)]; exact e
theorem KB.set {ex : List Addr} {H : Hp} {p : Addr} {o : HO} (h : p ∈ ex) : KB ex H (upd H p o) := fun b u e n => by rw [upd_ne (fun (z : b = p) => n (by rw [z]; exact h))]; exact e
theorem KB.free {ex : List Addr} {H H' : Hp} (h : KB ex H H') {b : Addr} (n : b ∉ ex) (e : H' b = none) : H b = none := by
 cases q : H b with
 | none => rfl
 | some o => rw [h b o q n] at e; cases e
theorem at_0 {α : Type} (x : α) (r : List α) : atI (x :: r) 0 = some x := atI_nat (j := 0) rfl
theorem at_1 {α : Type} (a x : α) (r : List α) : atI (a :: x :: r) 1 = some x := atI_nat (j := 1) rfl
theorem at_2 {α : Type} (a b x : α) (r : List α) : atI (a :: b :: x :: r) 2 = some x := atI_nat (j := 2) rfl
theorem at_3 {α : Type} (a b c x : α) (r : List α) : atI (a :: b :: c :: x :: r) 3 = some x := atI_nat (j := 3) rfl
theorem at_4 {α : Type} (a b c d x : α) (r : List α) : atI (a :: b :: c :: d :: x :: r) 4 = some x := atI_nat (j := 4) rfl
theorem ixN_lt {n : Nat} {i : Int} (h0 : 0 ≤ i) (h : i < n) : ixN n i = some i.toNat := by unfold ixN; rw [if_pos h0, if_pos h]
namespace Ap
theorem ixRef (K : PySem.W.Frag) (p : Addr) (i : Int) (H : Hp) (Q : VK) : uIx K (.ref p) (.int i) H Q = (match sq H p with
  | some (_, xs) => (match atI xs i with | some v => Q v H | none => False)
  | none => ∃ xs v, SqT K H p xs ∧ atI xs i = some v ∧ Q v H) := rfl
theorem ixStr (K : PySem.W.Frag) (z : Str) (i : Int) (H : Hp) (Q : VK) : uIx K (.str z) (.int i) H Q = (z.length ≤ sizeLine ∧ (match atI z.cps.toList i with | some c => Q (.str ⟨#[c]⟩) H | none => False)) := rfl
theorem setRef (p : Addr) (k : Int) (v : V) (H : Hp) (Q : Hp → Prop) : uSet (.ref p) (.int k) v H Q = (match H p with
  | some (.lst xs) => (match ixN xs.length k with | some j => Q (upd H p (.lst (xs.set j v))) | none => False)
  | _ => False) := rfl
theorem lenRef (K : PySem.W.Frag) (p : Addr) (H : Hp) (Q : VK) : uLen K [.ref p] H Q = (match sq H p with
  | some (_, ys) => Q (.int ys.length) H
  | none => ∃ ys, SqT K H p ys ∧ Q (.int ys.length) H) := rfl
theorem lenStr (K : PySem.W.Frag) (y : Str) (H : Hp) (Q : VK) : uLen K [.str y] H Q = (y.length ≤ sizeLine ∧ Q (.int y.length) H) := rfl
theorem minII (i j : Int) (H : Hp) (Q : VK) : uMin [.int i, .int j] H Q = Q (.int (if j < i then j else i)) H := rfl
theorem maxII (i j : Int) (H : Hp) (Q : VK) : uMax [.int i, .int j] H Q = Q (.int (if j > i then j else i)) H := rfl
theorem intI (i : Int) (H : Hp) (Q : VK) : uInt [.int i] H Q = Q (.int i) H := rfl
theorem intB (k : Bool) (H : Hp) (Q : VK) : uInt [.bl k] H Q = Q (.int (if k = true then 1 else 0)) H := rfl
theorem strI (i : Int) (H : Hp) (Q : VK) : uStr [.int i] H Q = (i.natAbs.log2 < 1920 ∧ Q (.str (toString i)) H) := rfl
theorem strS (z : Str) (H : Hp) (Q : VK) : uStr [.str z] H Q = Q (.str z) H := rfl
theorem tupRef (K : PySem.W.Frag) (p : Addr) (H : Hp) (Q : VK) : uTuple K [.ref p] H Q = (match sq H p with
  | some (true, ys) => ∀ l, H l = none → Q (.ref l) (upd H l (.tup ys))
  | some (false, _) => Q (.ref p) H
  | none => ∃ ys, SqT K H p ys ∧ Q (.ref p) H) := rfl
theorem slRef (K : PySem.W.Frag) (p : Addr) (lo hi : Option Int) (H : Hp) (Q : VK) : uSl K (.ref p) lo hi H Q = (match sq H p with
  | some (true, xs) => ∀ q, H q = none → Q (.ref q) (upd H q (.lst (cutV xs lo hi)))
  | some (false, xs) => rSlT K (.ref p) lo hi H Q
  | none => rSlT K (.ref p) lo hi H Q) := rfl
theorem inRef (K : PySem.W.Frag) (neg : Bool) (x : V) (p : Addr) (H : Hp) (Q : VK) : uIn K neg x (.ref p) H Q = (match sq H p with
  | some (_, xs) => flatV x = true ∧ xs.all flatV = true ∧ Q (.bl (if neg then !inV x xs else inV x xs)) H
  | none => ∃ xs, SqT K H p xs ∧ flatV x = true ∧ xs.all flatV = true ∧ Q (.bl (if neg then !inV x xs else inV x xs)) H) := rfl
theorem isiT (K : PySem.W.Frag) (x : V) (T : String) (H : Hp) (Q : VK) : uIsi K [x, .ty T] H Q = (T ∈ ["bool", "int", "str", "list", "tuple", "dict"] ∧ match tyU H x with
  | some t => Q (.bl (isiU t T)) H
  | none => ∃ t b, TyOf K H x t ∧ PySem.W.kitOne K t (.type T) = some b ∧ Q (.bl b) H) := rfl
theorem addRef (K : PySem.W.Frag) (a b : Addr) (H : Hp) (Q : VK) : uAdd K (.ref a) (.ref b) H Q = (match H a, H b with
  | some (.lst xs), some (.lst ys) => xs.length + ys.length ≤ sizeLine ∧ ∀ p, H p = none → Q (.ref p) (upd H p (.lst (xs ++ ys)))
  | some (.tup xs), some (.tup ys) => xs ≠ [] ∧ ys ≠ [] ∧ xs.length + ys.length ≤ sizeLine ∧ ∀ p, H p = none → Q (.ref p) (upd H p (.tup (xs ++ ys)))
  | _, _ => False) := rfl
theorem tRev (K : PySem.W.Frag) (te : TE) (σ : St) (H : Hp) (Q : VK) : L2.tRev K te σ H Q = te σ H fun x H1 => match x with
 | .ref a => match sq H1 a with
  | some (true, xs) => ∀ p, H1 p = none → Q (.ref p) (upd H1 p (.lst xs.reverse))
  | _ => False
 | _ => False := rfl
theorem sqSame (H : Hp) (p : Addr) (xs : List V) : sq (upd H p (.lst xs)) p = some (true, xs) := sq_lst upd_same
theorem sqSameT (H : Hp) (p : Addr) (xs : List V) : sq (upd H p (.tup xs)) p = some (false, xs) := sq_tup upd_same
theorem updSame (H : Hp) (p : Addr) (o : HO) : upd H p o p = some o := upd_same
end Ap
theorem seqG {t u : TS} {D : Ends} {σ : St} {H : Hp} (h : ∀ N, N = u D → t { D with nx := N } σ H) : tSeq t u D σ H := h _ rfl
end L2
set_option linter.all false
set_option maxRecDepth 100000
set_option maxHeartbeats 4000000
namespace L2
open PySem PySem.Spec PyProof.Rows
structure QE (X : Cx) (e : Expr) (t : TE) : Prop where h : PE X e t
structure QT (X : Cx) (e : Expr) (t : TT) : Prop where h : PT X e t
structure QW (X : Cx) (e : Expr) (t : TT) : Prop where h : PW X e t
structure QA (X : Cx) (es : List Expr) (t : TA) : Prop where h : PA X es t
structure QS (X : Cx) (st : Stmt) (t : TS) : Prop where h : PS X st t
structure QB (X : Cx) (sts : List Stmt) (t : TS) : Prop where h : PSs X sts t
structure QI (X : Cx) (tg it : Expr) (t : TI) : Prop where h : PI X tg it t
structure QG (X : Cx) (e : Expr) (t : TG) : Prop where h : PG X e t
structure QGs (X : Cx) (es : List Expr) (t : TGs) : Prop where h : PGs X es t
structure QO (X : Cx) (e : Option Expr) (t : TO) : Prop where h : PO X e t
structure QTs (X : Cx) (es : List Expr) (t : TT) : Prop where h : PTs X es t
namespace Z
noncomputable def sim (b : Expr) : Bool := match b with
 | .Name .. | .Constant .. | .Call .. | .BinOp .. | .Subscript .. | .Attribute .. | .UnaryOp .. | .Compare .. | .IfExp .. => true
 | _ => false
theorem pix {b : Expr} (h : sim b = true) : PlainIx b := by
 cases b <;> first | (intro _ _; rfl) | cases h
noncomputable def tru (b : Expr) : Bool := match b with
 | .Name .. | .Call .. | .Subscript .. | .Attribute .. => true
 | _ => false
theorem ptr {b : Expr} {env : Env} (h : tru b = true) : ∀ whole, isTrue b env whole = (do let v ← whole; standAt b.pos; holding [v] (truthy v)) := by
 cases b <;> first | (intro _; rfl) | cases h
noncomputable def noc (b : Expr) : Bool := match b with
 | .ListComp .. | .SetComp .. | .DictComp .. => false
 | _ => true
theorem swp {b : Expr} {tg : Option Expr} {l : Nat} {env : Env} (h : noc b = true) : swapsWith b tg l env = pure false := by
 cases b <;> first | rfl | cases h
section
variable {X : Cx}
theorem k_add (K : PySem.W.Frag) (hK : X.K = K) : OpR X (binaryOp .Add) (uAdd K) := by subst hK; exact uop_add
theorem k_ix (K : PySem.W.Frag) (hK : X.K = K) {k : Nat} (hu : k < cLine) : IxR X (uIx K) := by subst hK; exact uix hu
theorem k_len (K : PySem.W.Frag) (hK : X.K = K) : CallR X (.builtin "len") (uLen K) := by subst hK; exact ucall_len
theorem k_tuple (K : PySem.W.Frag) (hK : X.K = K) : CallR X (.type "tuple") (uTuple K) := by subst hK; exact ucall_tuple
end
section
variable {X : Cx} {a b c e o : Expr} {es : List Expr} {ta tb tc te to : TE} {t : TA} {pos p p2 : Pos} {tA tB' : TT} {rest : List Expr} {x : Str}
theorem int {i : Int} {j : Nat} : QE X (.Constant (.int i) j pos) (tC (.int i)) := ⟨pe_int⟩
theorem bl {i : Bool} {j : Nat} : QE X (.Constant (.bool i) j pos) (tC (.bl i)) := ⟨pe_bl⟩
theorem non {j : Nat} : QE X (.Constant .none j pos) (tC .non) := ⟨pe_non⟩
theorem str {i : Str} {j : Nat} : QE X (.Constant (.str i) j pos) (tC (.str i)) := ⟨pe_str⟩
theorem v (i : Nat) (hN : autoParam (X.N[i]? = some x) L2.aRfl._auto_1) (hv : Vis X.env.scope x := by first | exact Or.inl rfl | exact Or.inr (Or.inl rfl) | exact Or.inr (Or.inr rfl)) (hd : autoParam ((x == ("__debug__" : Str)) = false) L2.aDec._auto_1)
  (hcd : autoParam ((x == ("__classdict__" : Str)) = false) L2.aDec._auto_1) : QE X (.Name x pos) (tVar i) := ⟨pv i hN hv hd hcd⟩
theorem glob {w : V} {u : Value} (hg : Gl X x) (hm : X.mg x = some u) (r : RelV w u) (hd : autoParam ((x == ("__debug__" : Str)) = false) L2.aDec._auto_1) : QE X (.Name x pos) (tC w) := ⟨pe_glob hg hm r hd⟩
theorem op {o : Operator} {r : R2} (ho : OpR X (binaryOp o) r) (ha : QE X a ta) (hb : QE X b tb) : QE X (.BinOp a o b pos) (tOp r ta tb) := ⟨pe_op ho ha.h hb.h⟩
theorem un {o : UnaryOp} {r : V → Hp → VK → Prop} (ho : UnR X (unaryOp o) r) (ha : QE X a ta) : QE X (.UnaryOp o a pos) (tUn r ta) := ⟨pe_un ho ha.h⟩
theorem cmp {o : CmpOp} {r : R2} (ho : OpR X (compareOp o) r) (ha : QE X a ta) (hb : QE X b tb) (hm : autoParam (behindInMarks o b = false) L2.aRfl._auto_1) : QE X (.Compare a [o] [b] pos) (tOp r ta tb) := ⟨pe_cmpR ho ha.h hb.h hm⟩
theorem and (ha : QE X a ta) (hb : QE X (.BoolOp .And (b :: rest) pos) tb) : QE X (.BoolOp .And (a :: b :: rest) pos) (tAndV ta tb) := ⟨pe_and ha.h hb.h⟩
theorem one {o : BoolOp} (ha : QE X a ta) : QE X (.BoolOp o [a] pos) ta := ⟨pe_one ha.h⟩
theorem ifE (hc : QT X c tA) (ha : QE X a ta) (hb : QE X b tb) : QE X (.IfExp c a b pos) (tIf tA ta tb) := ⟨pe_ifExp hc.h ha.h hb.h⟩
theorem slice {r : V → Option Int → Option Int → Hp → VK → Prop} {lo hi : Option Expr} {tl th : TO} (hr : SlR X r) (he : QE X e te) (hl : QO X lo tl) (hu : QO X hi th) : QE X (.Subscript e (.Slice lo hi none p2) pos) (tSl r te tl th) := ⟨pe_slice hr he.h hl.h hu.h⟩
theorem po0 : QO X none tNoPart := ⟨po_none⟩
theorem po1 (he : QE X e te) : QO X (some e) (tPart te) := ⟨po_some he.h⟩
theorem ix {r : R2} (hr : IxR X r) (ha : QE X a ta) (hb : QE X b tb) (hs : autoParam (sim b = true) L2.aRfl._auto_1) : QE X (.Subscript a b pos) (tOp r ta tb) := ⟨pe_ix hr ha.h hb.h (pix hs)⟩
theorem tup {k : Nat} (h : QA X es t) : QE X (.Tuple es k pos) (tTup t) := ⟨pe_tup h.h⟩
theorem lst (h : QA X es t) : QE X (.List es pos) (tLst t) := ⟨pe_lst h.h⟩
theorem nil : QA X [] tNil := ⟨pa_nil⟩
theorem cons (ha : QE X e te) (hr : QA X es t) (h : autoParam (nst e = true) L2.aRfl._auto_1) : QA X (e :: es) (tCons te t) := ⟨pa_c ha.h hr.h h⟩
theorem consts {vs : List V} (h : consV es = some vs) : QA X es (tK vs) := ⟨pa_consts h⟩
theorem cb {id : String} {r : List V → Hp → VK → Prop} (hc : CallR X (.builtin id) r) (hg : Gl X x) (hm : X.mg x = none) (hv : bootBuiltins x = some (.builtin id)) (ha : QA X (e :: es) t) (h1 : autoParam (nst e = true) L2.aRfl._auto_1) (h2 : autoParam (es.all nst = true) L2.aRfl._auto_1) (hn : autoParam (x ≠ "__name__") L2.aDec._auto_1) (hdb : autoParam ((x == ("__debug__" : Str)) = false) L2.aDec._auto_1) :
  QE X (.Call (.Name x p) (e :: es) [] pos) (tCB r t) := ⟨pe_cb hc hg hm hv ha.h h1 h2 hn hdb⟩
theorem ct {T : String} {r : List V → Hp → VK → Prop} (hc : CallR X (.type T) r) (hg : Gl X x) (hm : X.mg x = none) (hv : bootBuiltins x = some (.type T)) (ha : QA X (e :: es) t) (h1 : autoParam (nst e = true) L2.aRfl._auto_1) (h2 : autoParam (es.all nst = true) L2.aRfl._auto_1) (hn : autoParam (x ≠ "__name__") L2.aDec._auto_1) (hdb : autoParam ((x == ("__debug__" : Str)) = false) L2.aDec._auto_1) :
  QE X (.Call (.Name x p) (e :: es) [] pos) (tCB r t) := ⟨pe_ct hc hg hm hv ha.h h1 h2 hn hdb⟩
theorem fn {CX : CXT} {k : Nat} {ps : List Str} {sp : Sp} {E : XK} (F : CallOk X.prog X.w X.K X.mg X.base CX k x ps sp) (hr : Room k X.A) (hg : Gl X x) (hx : Passes CX X E) (ha : QA X (e :: es) t) (h1 : autoParam (nst e = true) L2.aRfl._auto_1) (h2 : autoParam (es.all nst = true) L2.aRfl._auto_1) (hdb : autoParam ((x == ("__debug__" : Str)) = false) L2.aDec._auto_1) :
  QE X (.Call (.Name x p) (e :: es) [] pos) (tCall sp [] E t) := ⟨pe_fn F hr hg hx ha.h h1 h2 hdb⟩
theorem bm (K : PySem.W.Frag) (hK : X.K = K) {name : Str} {apos : Pos} {T id : String} {r : V → List V → Hp → VK → Prop} (pa : PlainAttrs T) (slot : Slot T name id) (hty : typeOf (.builtin id) = pure (.type "method_descriptor")) (hm : MtR X id r) (ho : QE X o to) (ha : QA X (e :: es) t)
  (hbase : autoParam (attributeBase o name X.env (eval o X.env) = eval o X.env) L2.aRfl._auto_1) (hline : autoParam ((apos.endLine == pos.line) = true) L2.aRfl._auto_1) (h : autoParam ((e :: es).all nst = true) L2.aRfl._auto_1) (hl : autoParam ((e :: es).length < 30) L2.aDec._auto_1) : QE X (.Call (.Attribute o name apos) (e :: es) [] pos) (tBM K T r to t) := by
 subst hK; exact ⟨pe_bmQ pa slot hty hm ho.h ha.h hbase hline h hl⟩
theorem comp {osc scope : Scope} {ON own N : List Str} {tg iter elt : Expr} {ifs : List Expr} {wi : TI} {g : TG} {tc : TT} (S : CompScope osc ON scope own N) (hosc : X.env.scope = osc) (hON : X.N = ON) (hc : X.calm = true) (hi : QI X tg iter wi)
  (hg : ∀ C s H fp, QG (cxComp X scope N C s H fp) tg g) (ht : ∀ C s H fp, QTs (cxComp X scope N C s H fp) ifs tc) (he : ∀ C s H fp, QE (cxComp X scope N C s H fp) elt te) (hs : ∀ x, foldedSetIterable iter X.env x = pure x := by intro _; rfl) :
  QE X (.ListComp elt [⟨tg, iter, ifs, 0⟩] scope pos) (tComp wi own.length g tc te) := ⟨pe_comp S hosc hON hc hi.h (fun C s H fp => (hg C s H fp).h) (fun C s H fp => (ht C s H fp).h) (fun C s H fp => (he C s H fp).h) hs⟩
theorem tcmp {o : CmpOp} {r : R2} (ho : OpR X (compareOp o) r) (ha : QE X a ta) (hb : QE X b tb) (hm : autoParam (behindInMarks o b = false) L2.aRfl._auto_1) : QT X (.Compare a [o] [b] pos) (tTest (tOp r ta tb)) := ⟨pt_cmpR ho ha.h hb.h hm⟩
theorem tw (h : QW X e tA) : QT X e tA := ⟨h.h.pt⟩
theorem tnot (ha : QT X a tA) : QT X (.UnaryOp .Not a pos) (tNot tA) := ⟨pt_not ha.h⟩
noncomputable def tTru (K : PySem.W.Frag) (ta : TE) : TT := fun σ H Q => ta σ H fun x H' => ∃ k, TruV K x H' k ∧ Q k H'
theorem ttru (K : PySem.W.Frag) (hK : X.K = K) (ha : QE X a ta) (he : autoParam (tru a = true) L2.aRfl._auto_1) : QT X a (tTru K ta) := by subst hK; exact ⟨pt_truth ha.h (ptr he)⟩
theorem wand1 (ha : QT X a tA) : QW X (.BoolOp .And [a] pos) tA := ⟨pw_and1 ha.h⟩
theorem wor1 (ha : QT X a tA) : QW X (.BoolOp .Or [a] pos) tA := ⟨pw_or1 ha.h⟩
theorem wand (ha : QT X a tA) (hb : QW X (.BoolOp .And (b :: rest) pos) tB') : QW X (.BoolOp .And (a :: b :: rest) pos) (tAnd tA tB') := ⟨pw_and ha.h hb.h⟩
theorem wor (ha : QT X a tA) (hb : QW X (.BoolOp .Or (b :: rest) pos) tB') : QW X (.BoolOp .Or (a :: b :: rest) pos) (tOr tA tB') := ⟨pw_or ha.h hb.h⟩
theorem gname {i : Nat} (hN : X.N.Nodup) (hi : X.N[i]? = some x) (hx : Loc X.env.scope x) (hf : autoParam (X.fn x = true ∨ X.env.scope.names.lookup x = some .local) L2.aLoc._auto_1) : QG X (.Name x pos) (gName i) := ⟨pg_name hN hi hx hf⟩
theorem gsnil : QGs X [] gNil := ⟨pgs_nil⟩
theorem gscons {g : TG} {u : TGs} (h1 : QG X e g) (h2 : QGs X es u) (hs : autoParam ((assignEach (e :: es) X.env).map (·.2) = assign e X.env :: (assignEach es X.env).map (·.2)) L2.aRfl._auto_1) : QGs X (e :: es) (gCons g u) := ⟨pgs_cons h1.h h2.h hs⟩
theorem gsub {i : Expr} {ti : TE} (ho : QE X o to) (hi : QE X i ti)
  (ha : ∀ v, assign (.Subscript o i pos) X.env v = (do
   let ov ← holding [v] (eval o X.env)
   let iv ← holding [v, ov] (eval i X.env)
   standAt pos
   holding [v, ov, iv] (setItem ov iv v)
   release [v, ov, iv] []) := by intro _; rfl) : QG X (.Subscript o i pos) (gSub to ti uSet) := ⟨pg_sub ho.h hi.h uset ha⟩
theorem rng1 {tg : Expr} {ta : TA} (hg : Gl X "range") (hm : X.mg "range" = none) (ha : QA X [a] ta) (h : autoParam (nst a = true) L2.aRfl._auto_1) : QI X tg (.Call (.Name "range" p) [a] [] pos) (iRng1 ta) := ⟨pi_range1Q hg hm ha.h h⟩
theorem any (K : PySem.W.Frag) (hK : X.K = K) {tg l : Expr} {tl : TE} (hl : QE X l tl) : QI X tg l (iAny K tl) := by subst hK; exact ⟨pi_any hl.h⟩
theorem ts0 : QTs X [] tTrue := ⟨pts_nil⟩
end
section
variable {X : Cx} {e o tg : Expr} {te to : TE} {st : Stmt} {sts xs ys : List Stmt} {t u : TS} {pos pos' : Pos} {x : Str}
theorem bnil : QB X [] tNext := ⟨pss_nil⟩
theorem bone (h : QS X st t) : QB X [st] t := ⟨pss_one h.h⟩
theorem bcons (h : QS X st t) (h2 : QB X sts u) : QB X (st :: sts) (tSeq t u) := ⟨pss_cons h.h h2.h⟩
theorem set {i : Nat} (hN : X.N.Nodup) (hi : X.N[i]? = some x) (hx : Loc X.env.scope x) (he : QE X e te) (hs : autoParam (noc e = true) L2.aRfl._auto_1) (hf : autoParam (X.fn x = true ∨ X.env.scope.names.lookup x = some .local) L2.aLoc._auto_1) :
  QS X (.Assign [.Name x pos'] e pos) (tAsg te (gName i)) := ⟨ps_set hN hi hx he.h (swp hs) hf⟩
theorem setC {osc scope : Scope} {ON own N : List Str} {tg iter elt : Expr} {ifs : List Expr} {p2 : Pos} {wi : TI} {g : TG} {tc : TT} {j : Nat} (hN : X.N.Nodup) (hj : X.N[j]? = some x) (hx : Loc X.env.scope x) (S : CompScope osc ON scope own N) (hosc : X.env.scope = osc) (hON : X.N = ON) (hc : X.calm = true) (hi : QI X tg iter wi)
  (hg : ∀ C s H fp, QG (cxComp X scope N C s H fp) tg g) (ht : ∀ C s H fp, QTs (cxComp X scope N C s H fp) ifs tc) (he : ∀ C s H fp, QE (cxComp X scope N C s H fp) elt te)
  (hsw : autoParam (swapsWith (.ListComp elt [⟨tg, iter, ifs, 0⟩] scope p2) (some (.Name x pos')) pos.line X.env = pure true) L2.aRfl._auto_1)
  (hf : autoParam (X.fn x = true ∨ X.env.scope.names.lookup x = some .local) L2.aLoc._auto_1) (hs : ∀ x, foldedSetIterable iter X.env x = pure x := by intro _; rfl) :
  QS X (.Assign [.Name x pos'] (.ListComp elt [⟨tg, iter, ifs, 0⟩] scope p2) pos) (tAsg (tComp wi own.length g tc te) (gName j)) := ⟨ps_setComp hN hj hx S hosc hON hc hi.h (fun C s H fp => (hg C s H fp).h) (fun C s H fp => (ht C s H fp).h) (fun C s H fp => (he C s H fp).h) hsw hf hs⟩
theorem asg {g : TG} (he : QE X e te) (hg : QG X tg g) (hs : autoParam (swapsWithSole [tg] e pos.line X.env = pure false) L2.aRfl._auto_1) (hw : autoParam (swappedStores [tg] e X.env = pure none) L2.aRfl._auto_1)
  (h1 : autoParam ((assignEach [tg] X.env).map (·.2) = [assign tg X.env]) L2.aRfl._auto_1) : QS X (.Assign [tg] e pos) (tAsg te g) := ⟨ps_asg he.h hg.h hs hw h1⟩
theorem ret (he : QE X e te) : QS X (.Return (some e) pos) (tRet te) := ⟨ps_ret he.h⟩
theorem expr (he : QE X e te) (hs : autoParam (noc e = true) L2.aRfl._auto_1) : QS X (.Expr e pos) (tDrop te) := ⟨ps_expr he.h (swp hs)⟩
theorem ifS {c : Expr} {tc : TT} (hc : QT X c tc) (ha : QB X xs t) (hb : QB X ys u) : QS X (.If c xs ys pos) (tIfS tc t u) := ⟨ps_if hc.h ha.h hb.h⟩
theorem forS {iter : Expr} {wi : TI} {g : TG} (hp : PassesOwn (model X.prog X.w) X.A X.env X.xe) (hc : X.calm = true) (hi : QI X tg iter wi) (hg : QG X tg g) (hb : QB X xs t) (hs : ∀ x, foldedSetIterable iter X.env x = pure x := by intro _; rfl) : QS X (.For tg iter xs [] pos) (tFor wi g t) := ⟨ps_for hp hc hi.h hg.h hb.h hs⟩
theorem whileS {c : Expr} {tc : TT} (hp : PassesOwn (model X.prog X.w) X.A X.env X.xe) (hc : QT X c tc) (hb : QB X xs t) : QS X (.While c xs [] pos) (tWhile tc t) := ⟨ps_while hp hc.h hb.h⟩
end
end Z
namespace Ap
theorem tTru (K : PySem.W.Frag) (ta : TE) (σ : St) (H : Hp) (Q : Bool → Hp → Prop) : L2.Z.tTru K ta σ H Q = ta σ H fun x H' => ∃ k, TruV K x H' k ∧ Q k H' := rfl
theorem tNotV (ta : TE) (σ : St) (H : Hp) (Q : VK) : L2.tNotV ta σ H Q = ta σ H fun x H1 => ∃ c, x = .bl c ∧ Q (.bl (!c)) H1 := rfl
end Ap
theorem HasFn.okQ {P : Program} {w : World} {K : PySem.W.Frag} {mg : Str → Option Value} {base : Heap} {x : Str} {st : Stmt} {N ps : List Str} {k : Nat} {sp : Sp} (F : HasFn K mg x st ps) (S : FnScope N ps (defScope st)) (len : ∀ vs H Q E, sp vs H Q E → vs.length = ps.length)
  (hbody : ∀ (f : Addr) (cdv : Value) (A : Around) (outer : List Env) (s : Shared) (H : Hp) (vs : List V) (Q : VK) (E : XK), Room k (A.deeper (envOfC x (defScope st) s.heap.objs.size f cdv)) → sp vs H Q E →
   ∃ t, QB (cxOf CX0 P w K mg base N x (defScope st) f cdv A outer s H E).nox (defBody st) t ∧ t { nx := fun _ H' => Q .non H', rt := Q } (start N vs) H) : CallOk P w K mg base CX0 (k + 1) x ps sp :=
 F.ok S len fun f cdv A outer s H vs Q E hr h => let ⟨t, q, r⟩ := hbody f cdv A outer s H vs Q E hr h; ⟨t, q.h, r⟩
theorem fun_okQ {P : Program} {w : World} {K : PySem.W.Frag} {mg : Str → Option Value} {base : Heap} {x : Str} {st : Stmt} {N ps : List Str} {k : Nat} {sp : Sp} {f : Addr} {fd : FuncData} (F : Fun K x x st f fd) (S : FnScope N ps (defScope st)) (len : ∀ vs H Q E, sp vs H Q E → vs.length = ps.length)
  (hbody : ∀ (cdv : Value) (A : Around) (outer : List Env) (s : Shared) (H : Hp) (vs : List V) (Q : VK) (E : XK), Room k (A.deeper (envOfC x (defScope st) s.heap.objs.size f cdv)) → sp vs H Q E →
   ∃ t, QB (cxOf CX0 P w K mg base N x (defScope st) f cdv A outer s H E).nox (defBody st) t ∧ t { nx := fun _ H' => Q .non H', rt := Q } (start N vs) H) : FnOk P w K mg base CX0 (k + 1) f fd ps sp :=
 F.ok S len fun cdv A outer s H vs Q E hr h => let ⟨t, q, r⟩ := hbody cdv A outer s H vs Q E hr h; ⟨t, q.h, r⟩
end L2
set_option linter.all false
set_option maxRecDepth 100000
set_option maxHeartbeats 4000000
namespace L2
open PySem PySem.Spec PyProof.Rows
noncomputable def isX (e : Addr) (cls : Value) (d : Option Addr) (h : Heap) : Prop := ∃ o vs, h.get? e = some o ∧ o.cls = cls ∧ o.dict = d ∧ o.data = .fields vs
inductive T where
 | non | bl (b : Bool) | int (i : Int) | str (x : Str) | tup (ts : List T) | lst (ts : List T) | rol (ts : List T) | rng (lo hi : Int) | ktp (ts : List T) | dic (ks : List Key) (ts : List T) | exc (c : Value) (f : Option (Str × Int))
noncomputable abbrev AP' := Addr → Prop
noncomputable def KTp (K : PySem.W.Frag) (a : Addr) (xs : List V) : Prop := ∃ (o : Obj) (its : Array Value) (n : Nat), K.lookup a = some o ∧ o.cls = .type "tuple" ∧ o.data = .seq its n ∧ its.size ≤ sizeLine ∧ Vals xs its.toList
noncomputable def KLs (K : PySem.W.Frag) (a : Addr) (xs : List V) : Prop := ∃ (o : Obj) (its : Array Value) (n : Nat), K.lookup a = some o ∧ o.cls = .type "list" ∧ o.dict = none ∧ o.data = .seq its n ∧ its.size ≤ sizeLine ∧ Vals xs its.toList
noncomputable def LB (K : PySem.W.Frag) (H : Hp) (B : AP') (a : Addr) (xs : List V) : Prop := (¬ B a ∧ Rd H a (.lst xs)) ∨ KLs K a xs
mutual
inductive Rep (K : PySem.W.Frag) (H : Hp) (B : AP') : V → T → Prop
 | non : Rep K H B .non .non
 | bl (b : Bool) : Rep K H B (.bl b) (.bl b)
 | int (i : Int) : Rep K H B (.int i) (.int i)
 | str (x : Str) : Rep K H B (.str x) (.str x)
 | tup {a : Addr} {vs : List V} {ts : List T} (n : ¬ B a) (h : H a = some (.tup vs)) (r : Reps K H B vs ts) : Rep K H B (.ref a) (.tup ts)
 | ktp {a : Addr} {vs : List V} {ts : List T} (h : KTp K a vs) (r : Reps K H B vs ts) : Rep K H B (.ref a) (.ktp ts)
 | lst {a : Addr} {vs : List V} {ts : List T} (n : ¬ B a) (h : H a = some (.lst vs)) (r : Reps K H B vs ts) : Rep K H B (.ref a) (.lst ts)
 | rol {a : Addr} {vs : List V} {ts : List T} (h : LB K H B a vs) (r : Reps K H B vs ts) : Rep K H B (.ref a) (.rol ts)
 | rng {a : Addr} {lo hi : Int} (n : ¬ B a) (h : H a = some (.rng lo hi)) : Rep K H B (.ref a) (.rng lo hi)
 | dic {a : Addr} {ks : List Key} {vs : List V} {ts : List T} (n : ¬ B a) (h : H a = some (.dK (ks.zip vs))) (l : ks.length = vs.length) (r : Reps K H B vs ts) : Rep K H B (.ref a) (.dic ks ts)
 | exc {a : Addr} {c : Value} (n : ¬ B a) (h : H a = some (.ext (isX a c none))) : Rep K H B (.ref a) (.exc c none)
 | exa {a d : Addr} {c : Value} {x : Str} {i : Int} (n : ¬ B a) (h : H a = some (.ext (isX a c (some d)))) (m : ¬ B d) (g : H d = some (.xd [(x, .int i)])) : Rep K H B (.ref a) (.exc c (some (x, i)))
inductive Reps (K : PySem.W.Frag) (H : Hp) (B : AP') : List V → List T → Prop
 | nil : Reps K H B [] []
 | cons {v : V} {t : T} {vs : List V} {ts : List T} (h : Rep K H B v t) (r : Reps K H B vs ts) : Reps K H B (v :: vs) (t :: ts)
end
noncomputable def Fr (B : AP') (H : Hp) (B' : AP') (H' : Hp) : Prop := ∀ b o, H b = some o → ¬ B b → H' b = some o ∧ ¬ B' b
theorem Fr.refl {B : AP'} {H : Hp} : Fr B H B H := fun _ _ h n => ⟨h, n⟩
theorem Fr.trans {B B1 B2 : AP'} {H H1 H2 : Hp} (a : Fr B H B1 H1) (b : Fr B1 H1 B2 H2) : Fr B H B2 H2 := fun c o h n => let ⟨h1, n1⟩ := a c o h n; b c o h1 n1
theorem Fr.same {B : AP'} {H H' : Hp} (s : Same H H') : Fr B H B H' := fun b o h n => ⟨s b o h, n⟩
theorem Fr.less {B B' : AP'} {H : Hp} (s : ∀ b, B' b → B b) : Fr B H B' H := fun b o h n => ⟨h, fun z => n (s b z)⟩
theorem Fr.set {B : AP'} {H : Hp} {a : Addr} {o : HO} (h : B a) : Fr B H B (upd H a o) := fun b u e n => ⟨by rw [upd_ne (by rintro rfl; exact n h)]; exact e, n⟩
theorem Same.new {H : Hp} {p : Addr} {o : HO} (h : H p = none) : Same H (upd H p o) := fun b u e => by rw [upd_ne (ne_of_none e h)]; exact e
theorem Fr.more {B : AP'} {H : Hp} {p : Addr} {o : HO} (h : H p = none) : Fr B H (fun b => b = p ∨ B b) (upd H p o) := fun b u e n => ⟨Same.new h b u e, fun z => z.elim (ne_of_none e h) n⟩
theorem Rd.fr {B B' : AP'} {H H' : Hp} {a : Addr} {u : HO} (f : Fr B H B' H') (n : ¬ B a) (h : Rd H a u) : ¬ B' a ∧ Rd H' a u := by
 rcases h with h | ⟨o, h⟩
 ·exact ⟨(f a _ h n).2, .inl (f a _ h n).1⟩
 ·exact ⟨(f a _ h n).2, .inr ⟨o, (f a _ h n).1⟩⟩
section
variable {K : PySem.W.Frag} {H H' : Hp} {B B' : AP'}
theorem LB.fr {a : Addr} {xs : List V} (f : Fr B H B' H') (h : LB K H B a xs) : LB K H' B' a xs := h.elim (fun z => .inl (z.2.fr f z.1)) .inr
theorem LB.sq {a : Addr} {xs : List V} (h : LB K H B a xs) : SqL K H a xs := h.elim (fun z => .inl z.2) .inr
mutual
theorem Rep.fr (f : Fr B H B' H') : ∀ {v : V} {t : T}, Rep K H B v t → Rep K H' B' v t
 | _, _, .non => .non
 | _, _, .bl b => .bl b
 | _, _, .int i => .int i
 | _, _, .str x => .str x
 | _, _, .tup n h r => .tup (f _ _ h n).2 (f _ _ h n).1 (Reps.fr f r)
 | _, _, .ktp h r => .ktp h (Reps.fr f r)
 | _, _, .lst n h r => .lst (f _ _ h n).2 (f _ _ h n).1 (Reps.fr f r)
 | _, _, .rol h r => .rol (h.fr f) (Reps.fr f r)
 | _, _, .rng n h => .rng (f _ _ h n).2 (f _ _ h n).1
 | _, _, .dic n h l r => .dic (f _ _ h n).2 (f _ _ h n).1 l (Reps.fr f r)
 | _, _, .exc n h => .exc (f _ _ h n).2 (f _ _ h n).1
 | _, _, .exa n h m g => .exa (f _ _ h n).2 (f _ _ h n).1 (f _ _ g m).2 (f _ _ g m).1
theorem Reps.fr (f : Fr B H B' H') : ∀ {vs : List V} {ts : List T}, Reps K H B vs ts → Reps K H' B' vs ts
 | _, _, .nil => .nil
 | _, _, .cons h r => .cons (Rep.fr f h) (Reps.fr f r)
end
theorem Reps.length : ∀ {vs : List V} {ts : List T}, Reps K H B vs ts → vs.length = ts.length
 | _, _, .nil => rfl
 | _, _, .cons _ r => congrArg (· + 1) (Reps.length r)
theorem Reps.get : ∀ {vs : List V} {ts : List T} {i : Nat} {t : T}, Reps K H B vs ts → ts[i]? = some t → ∃ v, vs[i]? = some v ∧ Rep K H B v t
 | _, _, _, _, .nil, e => by simp at e
 | _, _, 0, _, .cons h _, e => by simp at e; subst e; exact ⟨_, rfl, h⟩
 | _, _, i + 1, _, .cons _ r, e => by
  obtain ⟨v, e1, h⟩ := Reps.get r (by simpa using e)
  exact ⟨v, by simpa using e1, h⟩
theorem Reps.append : ∀ {vs ws : List V} {ts us : List T}, Reps K H B vs ts → Reps K H B ws us → Reps K H B (vs ++ ws) (ts ++ us)
 | _, _, _, _, .nil, s => s
 | _, _, _, _, .cons h r, s => .cons h (Reps.append r s)
theorem Reps.take : ∀ {vs : List V} {ts : List T} (n : Nat), Reps K H B vs ts → Reps K H B (vs.take n) (ts.take n)
 | _, _, 0, _ => .nil
 | _, _, _ + 1, .nil => .nil
 | _, _, n + 1, .cons h r => .cons h (Reps.take n r)
theorem Reps.drop : ∀ {vs : List V} {ts : List T} (n : Nat), Reps K H B vs ts → Reps K H B (vs.drop n) (ts.drop n)
 | _, _, 0, r => r
 | _, _, _ + 1, .nil => .nil
 | _, _, n + 1, .cons _ r => Reps.drop n r
theorem Reps.set : ∀ {vs : List V} {ts : List T} {v : V} {t : T} (i : Nat), Rep K H B v t → Reps K H B vs ts → Reps K H B (vs.set i v) (ts.set i t)
 | _, _, _, _, _, _, .nil => .nil
 | _, _, _, _, 0, h, .cons _ r => .cons h r
 | _, _, _, _, i + 1, h, .cons q r => .cons q (Reps.set i h r)
theorem Reps.rep {vs : List V} {ts : List T} (r : Reps K H B vs ts) : ∀ n : Nat, Reps K H B (List.replicate n vs).flatten (List.replicate n ts).flatten
 | 0 => .nil
 | n + 1 => by rw [List.replicate_succ, List.replicate_succ, List.flatten_cons, List.flatten_cons]; exact r.append (Reps.rep r n)
theorem Reps.erase : ∀ {vs : List V} {ts : List T} (i : Nat), Reps K H B vs ts → Reps K H B (vs.eraseIdx i) (ts.eraseIdx i)
 | _, _, _, .nil => .nil
 | _, _, 0, .cons _ r => r
 | _, _, i + 1, .cons h r => .cons h (Reps.erase i r)
theorem Reps.atI {vs : List V} {ts : List T} {i : Int} {t : T} (r : Reps K H B vs ts) (e : L2.atI ts i = some t) : ∃ v, L2.atI vs i = some v ∧ Rep K H B v t := by
 unfold L2.atI at e ⊢
 rw [r.length]
 cases q : ixN ts.length i with
 | none => rw [q] at e; cases e
 | some j => rw [q] at e; exact r.get e
end
noncomputable def flatT : T → Bool
 | .non | .bl _ | .int _ | .str _ => true
 | _ => false
theorem Rep.flat {K : PySem.W.Frag} {H H' : Hp} {B B' : AP'} {v : V} {t : T} (h : Rep K H B v t) (f : flatT t = true) : Rep K H' B' v t := by
 cases h with
 | non => exact .non
 | bl b => exact .bl b
 | int i => exact .int i
 | str x => exact .str x
 | tup => cases f
 | ktp => cases f
 | lst => cases f
 | rol => cases f
 | rng => cases f
 | dic => cases f
 | exc => cases f
 | exa => cases f
theorem Reps.flat {K : PySem.W.Frag} {H H' : Hp} {B B' : AP'} : ∀ {vs : List V} {ts : List T}, Reps K H B vs ts → ts.all flatT = true → Reps K H' B' vs ts
 | _, _, .nil, _ => .nil
 | _, _, .cons h r, f => by
  rw [List.all_cons, Bool.and_eq_true] at f
  exact .cons (h.flat f.1) (Reps.flat r f.2)
noncomputable def Bx (K : PySem.W.Frag) (H : Hp) (B : AP') (a : Addr) (c : T) : Prop := match c with
 | .lst ts => ∃ vs, H a = some (.lst vs) ∧ Reps K H B vs ts
 | .dic ks ts => ∃ vs, H a = some (.dK (ks.zip vs)) ∧ ks.length = vs.length ∧ Reps K H B vs ts
 | _ => False
theorem Bx.trk {K : PySem.W.Frag} {H : Hp} {B : AP'} {a : Addr} {c : T} (h : Bx K H B a c) : ∃ o, H a = some o := by
 unfold Bx at h
 split at h
 ·obtain ⟨vs, e, _⟩ := h; exact ⟨_, e⟩
 ·obtain ⟨vs, e, _⟩ := h; exact ⟨_, e⟩
 ·exact h.elim
theorem Bx.of {K : PySem.W.Frag} {H H' : Hp} {B B' : AP'} {a : Addr} {c : T} (h : Bx K H B a c) (e : H' a = H a) (f : Fr B H B' H') : Bx K H' B' a c := by
 unfold Bx at h ⊢
 split at h
 ·obtain ⟨vs, q, r⟩ := h; exact ⟨vs, e.trans q, r.fr f⟩
 ·obtain ⟨vs, q, l, r⟩ := h; exact ⟨vs, e.trans q, l, r.fr f⟩
 ·exact h.elim
theorem Bx.is {K : PySem.W.Frag} {H : Hp} {B : AP'} {a : Addr} {c : T} (h : Bx K H B a c) : (∃ ts vs, c = .lst ts ∧ H a = some (.lst vs) ∧ Reps K H B vs ts) ∨ ∃ ks ts vs, c = .dic ks ts ∧ H a = some (.dK (ks.zip vs)) ∧ ks.length = vs.length ∧ Reps K H B vs ts := by
 unfold Bx at h
 split at h
 ·obtain ⟨vs, q, r⟩ := h; exact .inl ⟨_, vs, rfl, q, r⟩
 ·obtain ⟨vs, q, l, r⟩ := h; exact .inr ⟨_, _, vs, rfl, q, l, r⟩
 ·exact h.elim
theorem Bx.rep {K : PySem.W.Frag} {H : Hp} {B : AP'} {a : Addr} {c : T} (h : Bx K H B a c) (n : ¬ B a) : Rep K H B (.ref a) c := by
 rcases h.is with ⟨ts, vs, rfl, e, r⟩ | ⟨ks, ts, vs, rfl, e, l, r⟩
 ·exact .lst n e r
 ·exact .dic n e l r
inductive Sl where
 | un | tr (t : T) | bx (c : T) | pb (c : T)
noncomputable abbrev Mu := List Sl
inductive R where
 | tr (t : T) | br (i : Nat) | fr (c : T)
structure Fx where
 K : PySem.W.Frag
 H0 : Hp
 P : Nat → Option Addr
 Bc : AP'
 bh : ∀ b, Bc b → ∃ o, H0 b = some o
 G : Addr → Option (List V)
noncomputable def SlOk (F : Fx) (ad : Nat → Addr) (B : AP') (H : Hp) (i : Nat) (s : Sl) (x : Option (Option V)) : Prop := match s with
 | .un => True
 | .tr t => ∃ v, x = some (some v) ∧ Rep F.K H B v t
 | .bx c => x = some (some (.ref (ad i))) ∧ B (ad i) ∧ F.H0 (ad i) = none ∧ F.P i = none ∧ Bx F.K H B (ad i) c
 | .pb c => x = some (some (.ref (ad i))) ∧ B (ad i) ∧ F.P i = some (ad i) ∧ Bx F.K H B (ad i) c
noncomputable def Sl.box : Sl → Option T
 | .bx c => some c
 | .pb c => some c
 | _ => none
structure Rl (F : Fx) (ad : Nat → Addr) (B : AP') (σ : St) (H : Hp) (μ : Mu) : Prop where
 len : μ.length = σ.length
 slot : ∀ i s, μ[i]? = some s → SlOk F ad B H i s σ[i]?
 inj : ∀ i j s u c d, μ[i]? = some s → μ[j]? = some u → s.box = some c → u.box = some d → ad i = ad j → i = j
 par : ∀ i a, F.P i = some a → (∃ c, μ[i]? = some (.pb c)) ∧ ad i = a
 bc : ∀ b, F.Bc b → B b
 trk : ∀ b, B b → ∃ o, H b = some o
 old : ∀ b o, F.H0 b = some o → (∀ i, F.P i ≠ some b) → H b = some o
 gh : ∀ a vs, F.G a = some vs → H a = some (.lst vs) ∧ B a ∧ ∀ (i : Nat) (s : Sl) (c : T), μ[i]? = some s → s.box = some c → ad i ≠ a
theorem SlOk.boxed {F : Fx} {ad : Nat → Addr} {B : AP'} {H : Hp} {i : Nat} {s : Sl} {x : Option (Option V)} {c : T} (h : SlOk F ad B H i s x) (e : s.box = some c) : x = some (some (.ref (ad i))) ∧ B (ad i) ∧ Bx F.K H B (ad i) c ∧ (F.P i = some (ad i) ∨ F.H0 (ad i) = none) := by
 unfold SlOk at h
 split at h
 ·cases e
 ·cases e
 ·cases e; exact ⟨h.1, h.2.1, h.2.2.2.2, .inr h.2.2.1⟩
 ·cases e; exact ⟨h.1, h.2.1, h.2.2.2, .inl h.2.2.1⟩
noncomputable def Hv (F : Fx) (ad : Nat → Addr) (B : AP') (H : Hp) (μ : Mu) (v : V) (r : R) : Prop := match r with
 | .tr t => Rep F.K H B v t
 | .br i => v = .ref (ad i) ∧ ∃ s c, μ[i]? = some s ∧ s.box = some c
 | .fr _ => False
noncomputable def more (B : AP') (a : Addr) : AP' := fun b => b = a ∨ B b
noncomputable def Vr (F : Fx) (ad : Nat → Addr) (B : AP') (σ : St) (H : Hp) (μ : Mu) (v : V) (r : R) : Prop := match r with
 | .fr c => Rl F ad B σ H μ ∧ ∃ a, v = .ref a ∧ ¬ B a ∧ F.H0 a = none ∧ Rl F ad (more B a) σ H μ ∧ Bx F.K H (more B a) a c
 | r => Rl F ad B σ H μ ∧ Hv F ad B H μ v r
noncomputable def R.d : R → R
 | .fr c => .tr c
 | r => r
section
variable {F : Fx} {ad : Nat → Addr} {B B' : AP'} {σ : St} {H H' : Hp} {μ : Mu} {v : V} {r : R}
theorem Rl.new0 (h : Rl F ad B σ H μ) {p : Addr} (e : H p = none) : F.H0 p = none := by
 cases q : F.H0 p with
 | none => rfl
 | some o =>
  by_cases z : ∃ i, F.P i = some p
  ·obtain ⟨i, z⟩ := z
   obtain ⟨⟨c, hc⟩, ha⟩ := h.par i p z
   have := (h.slot i _ hc).boxed (c := c) rfl
   obtain ⟨o', e'⟩ := h.trk _ this.2.1
   rw [ha, e] at e'; cases e'
  ·have := h.old p o q fun i zi => z ⟨i, zi⟩
   rw [e] at this; cases this
theorem Rl.notB (h : Rl F ad B σ H μ) {p : Addr} (e : H p = none) : ¬ B p := fun z => by
 obtain ⟨o, q⟩ := h.trk p z
 rw [e] at q; cases q
theorem Rl.fr (h : Rl F ad B σ H μ) (s : Same H H') (hB : ∀ b, B b → B' b) (hT : ∀ b, B' b → ∃ o, H' b = some o) (f : Fr B H B' H') : Rl F ad B' σ H' μ := by
 refine ⟨h.len, fun i s' e => ?_, h.inj, h.par, fun b z => hB b (h.bc b z), hT, fun b o e n => s b o (h.old b o e n), fun a vs e => let ⟨g1, g2, g3⟩ := h.gh a vs e; ⟨s a _ g1, hB a g2, g3⟩⟩
 have k := h.slot i s' e
 unfold SlOk at k ⊢
 split at k
 ·trivial
 ·obtain ⟨v, e1, r⟩ := k; exact ⟨v, e1, r.fr f⟩
 ·obtain ⟨e1, b, z, p, x⟩ := k
  obtain ⟨o, q⟩ := x.trk
  exact ⟨e1, hB _ b, z, p, x.of ((s _ _ q).trans q.symm) f⟩
 ·obtain ⟨e1, b, p, x⟩ := k
  obtain ⟨o, q⟩ := x.trk
  exact ⟨e1, hB _ b, p, x.of ((s _ _ q).trans q.symm) f⟩
theorem Rl.same (h : Rl F ad B σ H μ) (s : Same H H') : Rl F ad B σ H' μ := h.fr s (fun _ z => z) (fun b z => let ⟨o, e⟩ := h.trk b z; ⟨o, s b o e⟩) (Fr.same s)
theorem Rl.new (h : Rl F ad B σ H μ) {p : Addr} {o : HO} (e : H p = none) : Rl F ad (more B p) σ (upd H p o) μ :=
 h.fr (Same.new e) (fun _ z => .inr z) (fun b z => z.elim (fun q => by subst q; exact ⟨o, upd_same⟩) fun q => let ⟨u, w⟩ := h.trk b q; ⟨u, Same.new e b u w⟩) (Fr.more e)
theorem Rl.less (h : Rl F ad B σ H μ) (s : ∀ b, B' b → B b) (hb : ∀ b, F.Bc b → B' b) (own : ∀ i s' c, μ[i]? = some s' → s'.box = some c → B' (ad i)) (hg : ∀ a vs, F.G a = some vs → B' a) : Rl F ad B' σ H μ := by
 refine ⟨h.len, fun i s' e => ?_, h.inj, h.par, hb, fun b z => h.trk b (s b z), h.old, fun a vs e => let ⟨g1, g2, g3⟩ := h.gh a vs e; ⟨g1, hg a vs e, g3⟩⟩
 have k := h.slot i s' e
 unfold SlOk at k ⊢
 split at k
 ·trivial
 ·obtain ⟨v, e1, r⟩ := k; exact ⟨v, e1, r.fr (Fr.less s)⟩
 ·obtain ⟨e1, b, z, p, x⟩ := k
  exact ⟨e1, own i _ _ e rfl, z, p, x.of rfl (Fr.less s)⟩
 ·obtain ⟨e1, b, p, x⟩ := k
  exact ⟨e1, own i _ _ e rfl, p, x.of rfl (Fr.less s)⟩
theorem Vr.rl (h : Vr F ad B σ H μ v r) : Rl F ad B σ H μ := by
 cases r with
 | tr t => exact h.1
 | br i => exact h.1
 | fr c => exact h.1
theorem Vr.hv (h : Vr F ad B σ H μ v r) : Hv F ad B H μ v r.d := by
 cases r with
 | tr t => exact h.2
 | br i => exact h.2
 | fr c =>
  obtain ⟨_, a, rfl, n, _, _, x⟩ := h
  exact (x.of rfl (Fr.less fun _ z => .inr z)).rep n
noncomputable def Kp (μ μ' : Mu) : Prop := ∀ i : Nat, ((μ[i]?).bind Sl.box).isSome = ((μ'[i]?).bind Sl.box).isSome
theorem Kp.refl (μ : Mu) : Kp μ μ := fun i => rfl
theorem Kp.trans {μ μ1 μ2 : Mu} (a : Kp μ μ1) (b : Kp μ1 μ2) : Kp μ μ2 := fun i => (a i).trans (b i)
theorem Kp.symm {μ μ1 : Mu} (a : Kp μ μ1) : Kp μ1 μ := fun i => (a i).symm
theorem Kp.fwd {μ μ' : Mu} (k : Kp μ μ') : ∀ (i : Nat) (s : Sl) (c : T), μ[i]? = some s → s.box = some c → ∃ (s' : Sl) (c' : T), μ'[i]? = some s' ∧ s'.box = some c' := fun i s c e b => by
 have h := k i
 rw [e] at h
 have h1 : (s.box).isSome = ((μ'[i]?).bind Sl.box).isSome := h
 rw [b] at h1
 cases q : μ'[i]? with
 | none => rw [q] at h1; cases h1
 | some s' =>
  rw [q] at h1
  have h2 : true = (s'.box).isSome := h1
  cases q2 : s'.box with
  | none => rw [q2] at h2; cases h2
  | some c' => exact ⟨s', c', rfl, q2⟩
theorem Kp.set {μ : Mu} {i : Nat} {s s' : Sl} {c d : T} (e : μ[i]? = some s) (b : s.box = some c) (b' : s'.box = some d) : Kp μ (μ.set i s') := fun j => by
 have hi : i < μ.length := (List.getElem?_eq_some_iff.mp e).1
 by_cases z : i = j
 ·subst z
  rw [List.getElem?_set_self hi, e]
  show (s.box).isSome = (s'.box).isSome
  rw [b, b']; rfl
 ·rw [List.getElem?_set_ne z]
theorem Hv.fr {ad : Nat → Addr} {μ' : Mu} (h : Hv F ad B H μ v r) (f : Fr B H B' H') (k : Kp μ μ') : Hv F ad B' H' μ' v r := by
 cases r with
 | tr t => exact Rep.fr f h
 | br i => obtain ⟨e, s, c, h1, h2⟩ := h; exact ⟨e, k.fwd i s c h1 h2⟩
 | fr c => exact h.elim
noncomputable def cont (μ : Mu) : R → Option T
 | .tr t => some t
 | .br i => (μ[i]?).bind Sl.box
 | .fr c => some c
inductive Vw (K : PySem.W.Frag) (H : Hp) (B : AP') : V → T → Prop
 | non : Vw K H B .non .non
 | bl (b : Bool) : Vw K H B (.bl b) (.bl b)
 | int (i : Int) : Vw K H B (.int i) (.int i)
 | str (x : Str) : Vw K H B (.str x) (.str x)
 | tup {a : Addr} {vs : List V} {ts : List T} (h : H a = some (.tup vs)) (r : Reps K H B vs ts) : Vw K H B (.ref a) (.tup ts)
 | ktp {a : Addr} {vs : List V} {ts : List T} (h : KTp K a vs) (r : Reps K H B vs ts) : Vw K H B (.ref a) (.ktp ts)
 | lst {a : Addr} {vs : List V} {ts : List T} (h : H a = some (.lst vs)) (r : Reps K H B vs ts) : Vw K H B (.ref a) (.lst ts)
 | rol {a : Addr} {vs : List V} {ts : List T} (h : SqL K H a vs) (r : Reps K H B vs ts) : Vw K H B (.ref a) (.rol ts)
 | rng {a : Addr} {lo hi : Int} (h : H a = some (.rng lo hi)) : Vw K H B (.ref a) (.rng lo hi)
 | dic {a : Addr} {ks : List Key} {vs : List V} {ts : List T} (h : H a = some (.dK (ks.zip vs))) (l : ks.length = vs.length) (r : Reps K H B vs ts) : Vw K H B (.ref a) (.dic ks ts)
 | exc {a : Addr} {c : Value} (h : H a = some (.ext (isX a c none))) : Vw K H B (.ref a) (.exc c none)
 | exa {a d : Addr} {c : Value} {x : Str} {i : Int} (h : H a = some (.ext (isX a c (some d)))) (g : H d = some (.xd [(x, .int i)])) : Vw K H B (.ref a) (.exc c (some (x, i)))
theorem Rep.vw {K : PySem.W.Frag} {t : T} (h : Rep K H B v t) : Vw K H B v t := by
 cases h with
 | non => exact .non
 | bl b => exact .bl b
 | int i => exact .int i
 | str x => exact .str x
 | tup n h r => exact .tup h r
 | ktp h r => exact .ktp h r
 | lst n h r => exact .lst h r
 | rol h r => exact .rol h.sq r
 | rng n h => exact .rng h
 | dic n h l r => exact .dic h l r
 | exc n h => exact .exc h
 | exa n h m g => exact .exa h g
theorem Hv.vw {t : T} (l : Rl F ad B σ H μ) (h : Hv F ad B H μ v r) (e : cont μ r = some t) : Vw F.K H B v t := by
 cases r with
 | tr u => cases e; exact Rep.vw h
 | br i =>
  obtain ⟨rfl, s, c, h1, h2⟩ := h
  have e2 : (μ[i]?).bind Sl.box = some t := e
  rw [h1] at e2
  have e' : s.box = some t := e2
  rcases ((l.slot i s h1).boxed e').2.2.1.is with ⟨ts, vs, rfl, q, rr⟩ | ⟨ks, ts, vs, rfl, q, ll, rr⟩
  ·exact .lst q rr
  ·exact .dic q ll rr
 | fr c => exact h.elim
noncomputable def Sl.put : Sl → T → Sl
 | .bx _, c => .bx c
 | .pb _, c => .pb c
 | s, _ => s
theorem Sl.put_box {s : Sl} {c d : T} (e : s.box = some c) : (s.put d).box = some d := by
 cases s <;> first | rfl | cases e
theorem Rl.put {i : Nat} {s : Sl} {c : T} {vs : List V} {ts : List T} (l : Rl F ad B σ H μ) (e : μ[i]? = some s) (hb : s.box = some c) (r : Reps F.K H B vs ts) : Rl F ad B σ (upd H (ad i) (.lst vs)) (μ.set i (s.put (.lst ts))) := by
 have k0 := (l.slot i s e).boxed hb
 have hi : i < μ.length := (List.getElem?_eq_some_iff.mp e).1
 have f : Fr B H B (upd H (ad i) (.lst vs)) := Fr.set k0.2.1
 have get : ∀ j, (μ.set i (s.put (.lst ts)))[j]? = if j = i then some (s.put (.lst ts)) else μ[j]? := fun j => by
  rw [List.getElem?_set]
  by_cases z : i = j
  ·subst z; simp [hi]
  ·rw [if_neg z, if_neg (fun q => z q.symm)]
 refine ⟨by rw [List.length_set]; exact l.len, fun j s' e' => ?_, fun j k s1 s2 c1 c2 e1 e2 b1 b2 q => ?_, fun j a p => ?_, l.bc, fun b z => ?_, fun b o e' n => ?_, fun a ws ga => ?_⟩
 ·rw [get] at e'
  by_cases z : j = i
  ·subst z
   rw [if_pos rfl] at e'
   cases e'
   have k := l.slot j s e
   cases s with
   | un => cases hb
   | tr t => cases hb
   | bx d => exact ⟨k.1, k.2.1, k.2.2.1, k.2.2.2.1, vs, upd_same, r.fr f⟩
   | pb d => exact ⟨k.1, k.2.1, k.2.2.1, vs, upd_same, r.fr f⟩
  ·rw [if_neg z] at e'
   have k := l.slot j s' e'
   have ne : ∀ d, s'.box = some d → ad j ≠ ad i := fun d hd q => z (l.inj j i s' s d c e' e hd hb q)
   unfold SlOk at k ⊢
   split at k
   ·trivial
   ·obtain ⟨v, e1, r1⟩ := k; exact ⟨v, e1, r1.fr f⟩
   ·obtain ⟨e1, b, z0, p, x⟩ := k; exact ⟨e1, b, z0, p, x.of (upd_ne (ne _ rfl)) f⟩
   ·obtain ⟨e1, b, p, x⟩ := k; exact ⟨e1, b, p, x.of (upd_ne (ne _ rfl)) f⟩
 ·rw [get] at e1 e2
  have h1 : ∃ u d, μ[j]? = some u ∧ u.box = some d := by
   by_cases z : j = i
   ·subst z; exact ⟨s, c, e, hb⟩
   ·rw [if_neg z] at e1; exact ⟨_, _, e1, b1⟩
  have h2 : ∃ u d, μ[k]? = some u ∧ u.box = some d := by
   by_cases z : k = i
   ·subst z; exact ⟨s, c, e, hb⟩
   ·rw [if_neg z] at e2; exact ⟨_, _, e2, b2⟩
  obtain ⟨u1, d1, g1, g2⟩ := h1
  obtain ⟨u2, d2, g3, g4⟩ := h2
  exact l.inj j k u1 u2 d1 d2 g1 g3 g2 g4 q
 ·obtain ⟨⟨d, hd⟩, ha⟩ := l.par j a p
  refine ⟨?_, ha⟩
  rw [get]
  by_cases z : j = i
  ·subst z
   rw [e] at hd
   cases hd
   rw [if_pos rfl]
   exact ⟨_, rfl⟩
  ·rw [if_neg z]; exact ⟨d, hd⟩
 ·by_cases z' : b = ad i
  ·subst z'; exact ⟨_, upd_same⟩
  ·rw [upd_ne z']; exact l.trk b z
 ·have ne : b ≠ ad i := by
   rintro rfl
   rcases k0.2.2.2 with z | z
   ·exact n i z
   ·rw [z] at e'; cases e'
  rw [upd_ne ne]
  exact l.old b o e' n
 ·obtain ⟨g1, g2, g3⟩ := l.gh a ws ga
  refine ⟨by rw [upd_ne (fun z => g3 i s c e hb z.symm)]; exact g1, g2, fun j s' d e' b' => ?_⟩
  rw [get] at e'
  by_cases z : j = i
  ·subst z; exact g3 j s c e hb
  ·rw [if_neg z] at e'; exact g3 j s' d e' b'
theorem Rl.setT {i : Nat} {t : T} (l : Rl F ad B σ H μ) (hp : ∀ c, μ[i]? ≠ some (.pb c)) (h : Rep F.K H B v t) : Rl F ad B (σ.set i (some v)) H (μ.set i (.tr t)) := by
 have get : ∀ j, i < μ.length → (μ.set i (.tr t))[j]? = if j = i then some (.tr t) else μ[j]? := fun j hi => by
  rw [List.getElem?_set]
  by_cases z : i = j
  ·subst z; simp [hi]
  ·rw [if_neg z, if_neg (fun q => z q.symm)]
 by_cases hi : i < μ.length
 ·refine ⟨by rw [List.length_set, List.length_set]; exact l.len, fun j s' e' => ?_, fun j k s1 s2 c1 c2 e1 e2 b1 b2 q => ?_, fun j a p => ?_, l.bc, l.trk, l.old, fun a ws ga => ?_⟩
  ·rw [get j hi] at e'
   by_cases z : j = i
   ·subst z
    rw [if_pos rfl] at e'
    cases e'
    exact ⟨v, by rw [List.getElem?_set_self (by rw [← l.len]; exact hi)], h⟩
   ·rw [if_neg z] at e'
    rw [List.getElem?_set_ne (Ne.symm z)]
    exact l.slot j s' e'
  ·rw [get j hi] at e1
   rw [get k hi] at e2
   by_cases z : j = i
   ·rw [if_pos z] at e1; cases e1; cases b1
   ·by_cases z2 : k = i
    ·rw [if_pos z2] at e2; cases e2; cases b2
    ·rw [if_neg z] at e1; rw [if_neg z2] at e2; exact l.inj j k _ _ _ _ e1 e2 b1 b2 q
  ·obtain ⟨⟨d, hd⟩, ha⟩ := l.par j a p
   refine ⟨⟨d, ?_⟩, ha⟩
   rw [get j hi]
   by_cases z : j = i
   ·subst z; exact absurd hd (hp d)
   ·rw [if_neg z]; exact hd
  ·obtain ⟨g1, g2, g3⟩ := l.gh a ws ga
   refine ⟨g1, g2, fun j s' d e' b' => ?_⟩
   rw [get j hi] at e'
   by_cases z : j = i
   ·rw [if_pos z] at e'; cases e'; cases b'
   ·rw [if_neg z] at e'; exact g3 j s' d e' b'
 ·have hs : σ.length ≤ i := by rw [← l.len]; omega
  rw [List.set_eq_of_length_le (show μ.length ≤ i by omega), List.set_eq_of_length_le hs]
  exact l
theorem Rl.setB {i : Nat} {c : T} {a : Addr} (l : Rl F ad (more B a) σ H μ) (hp : ∀ c, μ[i]? ≠ some (.pb c)) (h0 : F.H0 a = none) (n : ¬ B a) (own : ∀ j s c, μ[j]? = some s → s.box = some c → B (ad j)) (gB : ∀ b vs, F.G b = some vs → B b) (x : Bx F.K H (more B a) a c) :
  Rl F (fun j => if j = i then a else ad j) (more B a) (σ.set i (some (.ref a))) H (μ.set i (.bx c)) := by
 have get : ∀ j, i < μ.length → (μ.set i (.bx c))[j]? = if j = i then some (.bx c) else μ[j]? := fun j hi => by
  rw [List.getElem?_set]
  by_cases z : i = j
  ·subst z; simp [hi]
  ·rw [if_neg z, if_neg (fun q => z q.symm)]
 have pi : F.P i = none := by
  cases q : F.P i with
  | none => rfl
  | some b =>
   obtain ⟨⟨d, hd⟩, _⟩ := l.par i b q
   exact absurd hd (hp d)
 by_cases hi : i < μ.length
 ·refine ⟨by rw [List.length_set, List.length_set]; exact l.len, fun j s' e' => ?_, fun j k s1 s2 c1 c2 e1 e2 b1 b2 q => ?_, fun j a' p => ?_, l.bc, l.trk, l.old, fun b ws ga => ?_⟩
  ·rw [get j hi] at e'
   by_cases z : j = i
   ·subst z
    rw [if_pos rfl] at e'
    cases e'
    show _ ∧ _
    simp only [if_pos]
    exact ⟨by rw [List.getElem?_set_self (by rw [← l.len]; exact hi)], .inl rfl, h0, pi, x⟩
   ·rw [if_neg z] at e'
    rw [List.getElem?_set_ne (Ne.symm z)]
    have k := l.slot j s' e'
    unfold SlOk at k ⊢
    simp only [if_neg z]
    exact k
  ·rw [get j hi] at e1
   rw [get k hi] at e2
   by_cases z : j = i
   ·by_cases z2 : k = i
    ·rw [z, z2]
    ·rw [if_pos z, if_neg z2] at q
     rw [if_neg z2] at e2
     exact absurd (own k _ _ e2 b2) (by rw [← q]; exact n)
   ·by_cases z2 : k = i
    ·rw [if_pos z2, if_neg z] at q
     rw [if_neg z] at e1
     exact absurd (own j _ _ e1 b1) (by rw [q]; exact n)
    ·rw [if_neg z] at e1; rw [if_neg z2] at e2
     rw [if_neg z, if_neg z2] at q
     exact l.inj j k _ _ _ _ e1 e2 b1 b2 q
  ·obtain ⟨⟨d, hd⟩, ha⟩ := l.par j a' p
   have z : j ≠ i := by rintro rfl; exact hp d hd
   rw [get j hi, if_neg z]
   exact ⟨⟨d, hd⟩, by simp only [if_neg z]; exact ha⟩
  ·obtain ⟨g1, g2, g3⟩ := l.gh b ws ga
   refine ⟨g1, g2, fun j s' d e' b' => ?_⟩
   rw [get j hi] at e'
   by_cases z : j = i
   ·simp only [if_pos z]
    rintro rfl
    exact n (gB _ ws ga)
   ·rw [if_neg z] at e'
    simp only [if_neg z]
    exact g3 j s' d e' b'
 ·have hs : σ.length ≤ i := by rw [← l.len]; omega
  rw [List.set_eq_of_length_le (show μ.length ≤ i by omega), List.set_eq_of_length_le hs]
  have ne : ∀ j s, μ[j]? = some s → j ≠ i := fun j s e q => by
   have := (List.getElem?_eq_some_iff.mp e).1
   omega
  refine ⟨l.len, fun j s' e' => ?_, fun j k s1 s2 c1 c2 e1 e2 b1 b2 q => ?_, fun j a' p => ?_, l.bc, l.trk, l.old, fun b ws ga => ?_⟩
  ·have k := l.slot j s' e'
   unfold SlOk at k ⊢
   simp only [if_neg (ne j s' e')]
   exact k
  ·simp only [if_neg (ne j _ e1), if_neg (ne k _ e2)] at q
   exact l.inj j k _ _ _ _ e1 e2 b1 b2 q
  ·obtain ⟨⟨d, hd⟩, ha⟩ := l.par j a' p
   exact ⟨⟨d, hd⟩, by simp only [if_neg (ne j _ hd)]; exact ha⟩
  ·obtain ⟨g1, g2, g3⟩ := l.gh b ws ga
   refine ⟨g1, g2, fun j s' d e' b' => ?_⟩
   simp only [if_neg (ne j _ e')]
   exact g3 j s' d e' b'
theorem Rl.gB (l : Rl F ad B σ H μ) : ∀ b vs, F.G b = some vs → B b := fun b vs e => (l.gh b vs e).2.1
theorem Rl.own (l : Rl F ad B σ H μ) : ∀ j s c, μ[j]? = some s → s.box = some c → B (ad j) := fun j s c e b => ((l.slot j s e).boxed b).2.1
theorem Rl.freeze {i : Nat} {c : T} (l : Rl F ad B σ H μ) (e : μ[i]? = some (.bx c)) (hc : ¬ F.Bc (ad i)) : Rl F ad (fun b => B b ∧ b ≠ ad i) σ H (μ.set i (.tr c)) ∧ Rep F.K H (fun b => B b ∧ b ≠ ad i) (.ref (ad i)) c := by
 have k0 := l.slot i _ e
 have hi : i < μ.length := (List.getElem?_eq_some_iff.mp e).1
 have rp : Rep F.K H (fun b => B b ∧ b ≠ ad i) (.ref (ad i)) c := ((k0.2.2.2.2).of rfl (Fr.less fun _ z => z.1)).rep (fun z => z.2 rfl)
 have get : ∀ j, (μ.set i (.tr c))[j]? = if j = i then some (.tr c) else μ[j]? := fun j => by
  rw [List.getElem?_set]
  by_cases z : i = j
  ·subst z; simp [hi]
  ·rw [if_neg z, if_neg (fun q => z q.symm)]
 have pi : F.P i = none := k0.2.2.2.1
 refine ⟨⟨by rw [List.length_set]; exact l.len, fun j s' e' => ?_, fun j k s1 s2 c1 c2 e1 e2 b1 b2 q => ?_, fun j a p => ?_, fun b z => ⟨l.bc b z, by rintro rfl; exact hc z⟩, fun b z => l.trk b z.1, l.old, fun a ws ga => ?_⟩, rp⟩
 ·rw [get] at e'
  by_cases z : j = i
  ·subst z
   rw [if_pos rfl] at e'
   cases e'
   exact ⟨_, k0.1, rp⟩
  ·rw [if_neg z] at e'
   have k := l.slot j s' e'
   have ne : ∀ d, s'.box = some d → ad j ≠ ad i := fun d hd q => z (l.inj j i s' _ d c e' e hd rfl q)
   unfold SlOk at k ⊢
   split at k
   ·trivial
   ·obtain ⟨v, e1, r1⟩ := k; exact ⟨v, e1, r1.fr (Fr.less fun _ z => z.1)⟩
   ·obtain ⟨e1, b, z0, p, x⟩ := k; exact ⟨e1, ⟨b, ne _ rfl⟩, z0, p, x.of rfl (Fr.less fun _ z => z.1)⟩
   ·obtain ⟨e1, b, p, x⟩ := k; exact ⟨e1, ⟨b, ne _ rfl⟩, p, x.of rfl (Fr.less fun _ z => z.1)⟩
 ·rw [get] at e1 e2
  by_cases z : j = i
  ·rw [if_pos z] at e1; cases e1; cases b1
  ·by_cases z2 : k = i
   ·rw [if_pos z2] at e2; cases e2; cases b2
   ·rw [if_neg z] at e1; rw [if_neg z2] at e2; exact l.inj j k _ _ _ _ e1 e2 b1 b2 q
 ·obtain ⟨⟨d, hd⟩, ha⟩ := l.par j a p
  refine ⟨⟨d, ?_⟩, ha⟩
  rw [get]
  by_cases z : j = i
  ·subst z; rw [pi] at p; cases p
  ·rw [if_neg z]; exact hd
 ·obtain ⟨g1, g2, g3⟩ := l.gh a ws ga
  refine ⟨g1, ⟨g2, (g3 i _ c e rfl).symm⟩, fun j s' d e' b' => ?_⟩
  rw [get] at e'
  by_cases z : j = i
  ·rw [if_pos z] at e'; cases e'; cases b'
  ·rw [if_neg z] at e'; exact g3 j s' d e' b'
end
end L2
set_option linter.all false
set_option maxRecDepth 100000
set_option maxHeartbeats 4000000
namespace L2
open PySem PySem.Spec PyProof.Rows
noncomputable abbrev UE := Mu → (R → Mu → Prop) → Prop
noncomputable abbrev UT := Mu → (Bool → Mu → Prop) → Prop
noncomputable abbrev UA := Mu → (List R → Mu → Prop) → Prop
noncomputable abbrev UO := Mu → (Option Int → Mu → Prop) → Prop
noncomputable abbrev U2 := R → R → Mu → (R → Mu → Prop) → Prop
noncomputable abbrev UC := List R → Mu → (R → Mu → Prop) → Prop
structure Ed where
 nx : Mu → Prop
 rt : R → Mu → Prop
 bk : Mu → Prop := fun _ => False
 ct : Mu → Prop := fun _ => False
noncomputable abbrev US := Ed → Mu → Prop
noncomputable def Bv (B : AP') (v : V) : R → AP'
 | .fr _ => (match v with | .ref a => more B a | _ => B)
 | _ => B
theorem Fr.d {B : AP'} {H H' : Hp} {v : V} {r : R} (f : Fr B H (Bv B v r) H') : Fr B H B H' := fun b o h n => ⟨(f b o h n).1, n⟩
noncomputable def RE (K : PySem.W.Frag) (te : TE) (ue : UE) : Prop := ∀ (F : Fx) (ad : Nat → Addr) (B : AP') (σ : St) (H : Hp) (μ : Mu) (Q : VK) (Qt : R → Mu → Prop), F.K = K → Rl F ad B σ H μ → ue μ Qt →
 (∀ v H' r μ', Vr F ad B σ H' μ' v r → Fr B H (Bv B v r) H' → Kp μ μ' → Qt r μ' → Q v H') → te σ H Q
noncomputable def RT (K : PySem.W.Frag) (tt : TT) (ut : UT) : Prop := ∀ (F : Fx) (ad : Nat → Addr) (B : AP') (σ : St) (H : Hp) (μ : Mu) (Q : Bool → Hp → Prop) (Qt : Bool → Mu → Prop), F.K = K → Rl F ad B σ H μ → ut μ Qt →
 (∀ b H' μ', Rl F ad B σ H' μ' → Fr B H B H' → Kp μ μ' → Qt b μ' → Q b H') → tt σ H Q
noncomputable def RA (K : PySem.W.Frag) (ta : TA) (ua : UA) : Prop := ∀ (F : Fx) (ad : Nat → Addr) (B : AP') (σ : St) (H : Hp) (μ : Mu) (Q : List V → Hp → Prop) (Qt : List R → Mu → Prop), F.K = K → Rl F ad B σ H μ → ua μ Qt →
 (∀ vs H' rs μ', Rl F ad B σ H' μ' → Paired (Hv F ad B H' μ') vs rs → Fr B H B H' → Kp μ μ' → Qt rs μ' → Q vs H') → ta σ H Q
noncomputable def RO (K : PySem.W.Frag) (tt : TO) (ut : UO) : Prop := ∀ (F : Fx) (ad : Nat → Addr) (B : AP') (σ : St) (H : Hp) (μ : Mu) (Q : Option Int → Hp → Prop) (Qt : Option Int → Mu → Prop), F.K = K → Rl F ad B σ H μ → ut μ Qt →
 (∀ b H' μ', Rl F ad B σ H' μ' → Fr B H B H' → Kp μ μ' → Qt b μ' → Q b H') → tt σ H Q
noncomputable def ROp (K : PySem.W.Frag) (r : R2) (u : U2) : Prop := ∀ (F : Fx) (ad : Nat → Addr) (B : AP') (σ : St) (H : Hp) (μ : Mu) (Q : VK) (Qt : R → Mu → Prop) (x y : V) (r1 r2 : R), F.K = K → Rl F ad B σ H μ → Hv F ad B H μ x r1 → Hv F ad B H μ y r2 → u r1 r2 μ Qt →
 (∀ v H' r μ', Vr F ad B σ H' μ' v r → Fr B H (Bv B v r) H' → Kp μ μ' → Qt r μ' → Q v H') → r x y H Q
noncomputable def RC (K : PySem.W.Frag) (r : List V → Hp → VK → Prop) (u : UC) : Prop := ∀ (F : Fx) (ad : Nat → Addr) (B : AP') (σ : St) (H : Hp) (μ : Mu) (Q : VK) (Qt : R → Mu → Prop) (xs : List V) (rs : List R), F.K = K → Rl F ad B σ H μ → Paired (Hv F ad B H μ) xs rs → u rs μ Qt →
 (∀ v H' r μ', Vr F ad B σ H' μ' v r → Fr B H (Bv B v r) H' → Kp μ μ' → Qt r μ' → Q v H') → r xs H Q
section
variable {F : Fx} {ad : Nat → Addr} {B : AP'} {σ : St} {H : Hp} {μ : Mu} {Q : VK} {Qt : R → Mu → Prop}
theorem Vr.flat {v : V} {t : T} (l : Rl F ad B σ H μ) (r : Rep F.K H B v t) : Vr F ad B σ H μ v (.tr t) := ⟨l, r⟩
theorem Vr.newL {p : Addr} {vs : List V} {ts : List T} (l : Rl F ad B σ H μ) (r : Reps F.K H B vs ts) (e : H p = none) : Vr F ad B σ (upd H p (.lst vs)) μ (.ref p) (.fr (.lst ts)) :=
 ⟨l.same (Same.new e), p, rfl, l.notB e, l.new0 e, l.new e, vs, upd_same, r.fr (Fr.more e)⟩
theorem Vr.newT {p : Addr} {vs : List V} {ts : List T} (l : Rl F ad B σ H μ) (r : Reps F.K H B vs ts) (e : H p = none) : Vr F ad B σ (upd H p (.tup vs)) μ (.ref p) (.tr (.tup ts)) :=
 ⟨l.same (Same.new e), .tup (l.notB e) upd_same (r.fr (Fr.same (Same.new e)))⟩
end
structure YE (X : Cx) (e : Expr) (u : UE) : Prop where
 ex : ∃ t, QE X e t ∧ RE X.K t u
structure YT (X : Cx) (e : Expr) (u : UT) : Prop where
 ex : ∃ t, QT X e t ∧ RT X.K t u
structure YW (X : Cx) (e : Expr) (u : UT) : Prop where
 ex : ∃ t, QW X e t ∧ RT X.K t u
structure YA (X : Cx) (es : List Expr) (u : UA) : Prop where
 ex : ∃ t, QA X es t ∧ RA X.K t u
structure YO (X : Cx) (e : Option Expr) (u : UO) : Prop where
 ex : ∃ t, QO X e t ∧ RO X.K t u
structure YTs (X : Cx) (es : List Expr) (u : UT) : Prop where
 ex : ∃ t, QTs X es t ∧ RT X.K t u
namespace Y
noncomputable def uC (t : T) : UE := fun μ Q => Q (.tr t) μ
noncomputable def uVar (i : Nat) : UE := fun μ Q => match μ[i]? with
 | some (.tr t) => Q (.tr t) μ
 | some (.bx _) => Q (.br i) μ
 | some (.pb _) => Q (.br i) μ
 | _ => False
noncomputable def uOp (u : U2) (ua ub : UE) : UE := fun μ Q => ua μ fun r1 μ1 => ub μ1 fun r2 μ2 => u r1.d r2.d μ2 Q
section
variable {X : Cx} {a b c e o : Expr} {es rest : List Expr} {ua ub uc ue uo : UE} {uA uB : UT} {us : UA} {pos p p2 : Pos} {x : Str}
theorem re_c {K : PySem.W.Frag} {v : V} {t : T} (h : ∀ H B, Rep K H B v t) : RE K (tC v) (uC t) := fun F ad B σ H μ Q Qt hK l q k => k v H (.tr t) μ ⟨l, show Rep F.K H B v t from hK ▸ h H B⟩ Fr.refl (Kp.refl μ) q
theorem int {i : Int} {j : Nat} : YE X (.Constant (.int i) j pos) (uC (.int i)) := ⟨_, Z.int, re_c fun _ _ => .int i⟩
theorem bl {i : Bool} {j : Nat} : YE X (.Constant (.bool i) j pos) (uC (.bl i)) := ⟨_, Z.bl, re_c fun _ _ => .bl i⟩
theorem non {j : Nat} : YE X (.Constant .none j pos) (uC .non) := ⟨_, Z.non, re_c fun _ _ => .non⟩
theorem str {i : Str} {j : Nat} : YE X (.Constant (.str i) j pos) (uC (.str i)) := ⟨_, Z.str, re_c fun _ _ => .str i⟩
theorem v (i : Nat) (hN : autoParam (X.N[i]? = some x) L2.aRfl._auto_1) (hv : Vis X.env.scope x := by first | exact Or.inl rfl | exact Or.inr (Or.inl rfl) | exact Or.inr (Or.inr rfl)) (hd : autoParam ((x == ("__debug__" : Str)) = false) L2.aDec._auto_1)
  (hcd : autoParam ((x == ("__classdict__" : Str)) = false) L2.aDec._auto_1) : YE X (.Name x pos) (uVar i) := by
 refine ⟨_, Z.v i hN hv hd hcd, fun F ad B σ H μ Q Qt hK l q k => ?_⟩
 unfold uVar at q
 split at q
 ·rename_i t e
  obtain ⟨v, e1, r⟩ := l.slot i _ e
  exact ⟨v, e1, k v H (.tr t) μ ⟨l, r⟩ Fr.refl (Kp.refl μ) q⟩
 ·rename_i t e
  have r := l.slot i _ e
  exact ⟨_, r.1, k _ H (.br i) μ ⟨l, rfl, _, _, e, rfl⟩ Fr.refl (Kp.refl μ) q⟩
 ·rename_i t e
  have r := l.slot i _ e
  exact ⟨_, r.1, k _ H (.br i) μ ⟨l, rfl, _, _, e, rfl⟩ Fr.refl (Kp.refl μ) q⟩
 ·exact q.elim
theorem re_op {K : PySem.W.Frag} {r : R2} {u : U2} {ta tb : TE} (h : ROp K r u) (ha : RE K ta ua) (hb : RE K tb ub) : RE K (tOp r ta tb) (uOp u ua ub) := fun F ad B σ H μ Q Qt hK l q k =>
 ha F ad B σ H μ _ _ hK l q fun x H1 r1 μ1 v1 f1 k1 q1 => hb F ad B σ H1 μ1 _ _ hK v1.rl q1 fun y H2 r2 μ2 v2 f2 k2 q2 =>
  h F ad B σ H2 μ2 _ _ x y r1.d r2.d hK v2.rl (v1.hv.fr f2.d k2) v2.hv q2 fun v H' r μ' v3 f3 k3 q3 => k v H' r μ' v3 ((f1.d.trans f2.d).trans f3) ((k1.trans k2).trans k3) q3
theorem op {o : Operator} {r : R2} {u : U2} (ho : OpR X (binaryOp o) r) (h : ROp X.K r u) (ha : YE X a ua) (hb : YE X b ub) : YE X (.BinOp a o b pos) (uOp u ua ub) := by
 obtain ⟨ta, qa, ra⟩ := ha
 obtain ⟨tb, qb, rb⟩ := hb
 exact ⟨_, Z.op ho qa qb, re_op h ra rb⟩
theorem cmp {o : CmpOp} {r : R2} {u : U2} (ho : OpR X (compareOp o) r) (h : ROp X.K r u) (ha : YE X a ua) (hb : YE X b ub) (hm : autoParam (behindInMarks o b = false) L2.aRfl._auto_1) : YE X (.Compare a [o] [b] pos) (uOp u ua ub) := by
 obtain ⟨ta, qa, ra⟩ := ha
 obtain ⟨tb, qb, rb⟩ := hb
 exact ⟨_, Z.cmp ho qa qb hm, re_op h ra rb⟩
theorem ix {r : R2} {u : U2} (hr : IxR X r) (h : ROp X.K r u) (ha : YE X a ua) (hb : YE X b ub) (hs : autoParam (Z.sim b = true) L2.aRfl._auto_1) : YE X (.Subscript a b pos) (uOp u ua ub) := by
 obtain ⟨ta, qa, ra⟩ := ha
 obtain ⟨tb, qb, rb⟩ := hb
 exact ⟨_, Z.ix hr qa qb hs, re_op h ra rb⟩
noncomputable def uTest (ue : UE) : UT := fun μ Q => ue μ fun r μ' => match r with
 | .tr (.bl b) => Q b μ'
 | _ => False
theorem rt_test {K : PySem.W.Frag} {t : TE} (h : RE K t ue) : RT K (tTest t) (uTest ue) := fun F ad B σ H μ Q Qt hK l q k =>
 h F ad B σ H μ _ _ hK l q fun v H' r μ' v1 f k1 q1 => by
  split at q1
  ·rename_i b
   have rp := v1.2
   cases rp
   exact ⟨b, rfl, k b H' μ' v1.rl f.d k1 q1⟩
  ·exact q1.elim
theorem tcmp {o : CmpOp} {r : R2} {u : U2} (ho : OpR X (compareOp o) r) (h : ROp X.K r u) (ha : YE X a ua) (hb : YE X b ub) (hm : autoParam (behindInMarks o b = false) L2.aRfl._auto_1) : YT X (.Compare a [o] [b] pos) (uTest (uOp u ua ub)) := by
 obtain ⟨ta, qa, ra⟩ := ha
 obtain ⟨tb, qb, rb⟩ := hb
 exact ⟨_, Z.tcmp ho qa qb hm, rt_test (re_op h ra rb)⟩
noncomputable def uNot (ut : UT) : UT := fun μ Q => ut μ fun b μ' => Q (!b) μ'
theorem tnot (ha : YT X a uA) : YT X (.UnaryOp .Not a pos) (uNot uA) := by
 obtain ⟨ta, qa, ra⟩ := ha
 exact ⟨_, Z.tnot qa, fun F ad B σ H μ Q Qt hK l q k => ra F ad B σ H μ _ _ hK l q fun b H' μ' l' f k1 q1 => k _ H' μ' l' f k1 q1⟩
theorem tw (h : YW X e uA) : YT X e uA := by
 obtain ⟨t, q, r⟩ := h
 exact ⟨t, Z.tw q, r⟩
theorem wand1 (ha : YT X a uA) : YW X (.BoolOp .And [a] pos) uA := by obtain ⟨t, q, r⟩ := ha; exact ⟨t, Z.wand1 q, r⟩
theorem wor1 (ha : YT X a uA) : YW X (.BoolOp .Or [a] pos) uA := by obtain ⟨t, q, r⟩ := ha; exact ⟨t, Z.wor1 q, r⟩
noncomputable def uAnd (u w : UT) : UT := fun μ Q => u μ fun b μ' => if b = true then w μ' Q else Q false μ'
noncomputable def uOr (u w : UT) : UT := fun μ Q => u μ fun b μ' => if b = true then Q true μ' else w μ' Q
theorem rt_and {K : PySem.W.Frag} {t u : TT} (ha : RT K t uA) (hb : RT K u uB) : RT K (tAnd t u) (uAnd uA uB) := fun F ad B σ H μ Q Qt hK l q k => ha F ad B σ H μ _ _ hK l q fun b H' μ' l' f k1 q1 => by
 cases b with
 | true => rw [if_pos rfl] at q1 ⊢; exact hb F ad B σ H' μ' _ _ hK l' q1 fun b2 H2 μ2 l2 f2 k2 q2 => k b2 H2 μ2 l2 (f.trans f2) (k1.trans k2) q2
 | false => rw [if_neg Bool.false_ne_true] at q1 ⊢; exact k _ H' μ' l' f k1 q1
theorem rt_or {K : PySem.W.Frag} {t u : TT} (ha : RT K t uA) (hb : RT K u uB) : RT K (tOr t u) (uOr uA uB) := fun F ad B σ H μ Q Qt hK l q k => ha F ad B σ H μ _ _ hK l q fun b H' μ' l' f k1 q1 => by
 cases b with
 | false => rw [if_neg Bool.false_ne_true] at q1 ⊢; exact hb F ad B σ H' μ' _ _ hK l' q1 fun b2 H2 μ2 l2 f2 k2 q2 => k b2 H2 μ2 l2 (f.trans f2) (k1.trans k2) q2
 | true => rw [if_pos rfl] at q1 ⊢; exact k _ H' μ' l' f k1 q1
theorem wand (ha : YT X a uA) (hb : YW X (.BoolOp .And (b :: rest) pos) uB) : YW X (.BoolOp .And (a :: b :: rest) pos) (uAnd uA uB) := by
 obtain ⟨t, q, r⟩ := ha; obtain ⟨t', q', r'⟩ := hb
 exact ⟨_, Z.wand q q', rt_and r r'⟩
theorem wor (ha : YT X a uA) (hb : YW X (.BoolOp .Or (b :: rest) pos) uB) : YW X (.BoolOp .Or (a :: b :: rest) pos) (uOr uA uB) := by
 obtain ⟨t, q, r⟩ := ha; obtain ⟨t', q', r'⟩ := hb
 exact ⟨_, Z.wor q q', rt_or r r'⟩
noncomputable def uTru (ue : UE) : UT := fun μ Q => ue μ fun r μ' => match r with
 | .tr (.bl b) => Q b μ'
 | .tr (.int i) => Q (i != 0) μ'
 | _ => False
theorem ttru (K : PySem.W.Frag) (hK : X.K = K) (ha : YE X a ua) (he : autoParam (Z.tru a = true) L2.aRfl._auto_1) : YT X a (uTru ua) := by
 obtain ⟨t, q, r⟩ := ha
 refine ⟨_, Z.ttru K hK q he, fun F ad B σ H μ Q Qt hK l q k => r F ad B σ H μ _ _ hK l q fun v H' r1 μ' v1 f k1 q1 => ?_⟩
 split at q1
 ·have rp := v1.2
  cases rp
  exact ⟨_, (Ap.truB ..).symm ▸ rfl, k _ H' μ' v1.rl f.d k1 q1⟩
 ·have rp := v1.2
  cases rp
  exact ⟨_, (Ap.truI ..).symm ▸ rfl, k _ H' μ' v1.rl f.d k1 q1⟩
 ·exact q1.elim
noncomputable def uAndV (ua ub : UE) : UE := fun μ Q => ua μ fun r μ' => match r with
 | .tr (.bl true) => ub μ' Q
 | .tr (.bl false) => Q (.tr (.bl false)) μ'
 | _ => False
theorem and (ha : YE X a ua) (hb : YE X (.BoolOp .And (b :: rest) pos) ub) : YE X (.BoolOp .And (a :: b :: rest) pos) (uAndV ua ub) := by
 obtain ⟨t, q, r⟩ := ha; obtain ⟨t', q', r'⟩ := hb
 refine ⟨_, Z.and q q', fun F ad B σ H μ Q Qt hK l q k => r F ad B σ H μ _ _ hK l q fun v H' r1 μ' v1 f k1 q1 => ?_⟩
 split at q1
 ·have rp := v1.2
  cases rp
  refine ⟨_, rfl, ?_⟩
  rw [if_pos rfl]
  exact r' F ad B σ H' μ' _ _ hK v1.rl q1 fun v2 H2 r2 μ2 v3 f2 k2 q2 => k v2 H2 r2 μ2 v3 (f.d.trans f2) (k1.trans k2) q2
 ·have rp := v1.2
  cases rp
  refine ⟨_, rfl, ?_⟩
  rw [if_neg Bool.false_ne_true]
  exact k _ H' _ μ' (Vr.flat v1.rl (.bl _)) f.d k1 q1
 ·exact q1.elim
theorem one {o : BoolOp} (ha : YE X a ua) : YE X (.BoolOp o [a] pos) ua := by obtain ⟨t, q, r⟩ := ha; exact ⟨t, Z.one q, r⟩
noncomputable def uIf (uc : UT) (ua ub : UE) : UE := fun μ Q => uc μ fun b μ' => if b = true then ua μ' Q else ub μ' Q
theorem ifE (hc : YT X c uA) (ha : YE X a ua) (hb : YE X b ub) : YE X (.IfExp c a b pos) (uIf uA ua ub) := by
 obtain ⟨tc, qc, rc⟩ := hc; obtain ⟨t, q, r⟩ := ha; obtain ⟨t', q', r'⟩ := hb
 refine ⟨_, Z.ifE qc q q', fun F ad B σ H μ Q Qt hK l q k => rc F ad B σ H μ _ _ hK l q fun b H' μ' l1 f k1 q1 => ?_⟩
 cases b with
 | true => rw [if_pos rfl] at q1 ⊢; exact r F ad B σ H' μ' _ _ hK l1 q1 fun v2 H2 r2 μ2 v3 f2 k2 q2 => k v2 H2 r2 μ2 v3 (f.trans f2) (k1.trans k2) q2
 | false => rw [if_neg Bool.false_ne_true] at q1 ⊢; exact r' F ad B σ H' μ' _ _ hK l1 q1 fun v2 H2 r2 μ2 v3 f2 k2 q2 => k v2 H2 r2 μ2 v3 (f.trans f2) (k1.trans k2) q2
noncomputable def uNeg (ue : UE) : UE := fun μ Q => ue μ fun r μ' => match r with
 | .tr (.int i) => Q (.tr (.int (-i))) μ'
 | _ => False
theorem neg (ha : YE X a ua) : YE X (.UnaryOp .USub a pos) (uNeg ua) := by
 obtain ⟨t, q, r⟩ := ha
 refine ⟨_, Z.un un_neg q, fun F ad B σ H μ Q Qt hK l q k => r F ad B σ H μ _ _ hK l q fun v H' r1 μ' v1 f k1 q1 => ?_⟩
 split at q1
 ·have rp := v1.2
  cases rp
  exact ⟨_, rfl, k _ H' _ μ' (Vr.flat v1.rl (.int _)) f.d k1 q1⟩
 ·exact q1.elim
noncomputable def uNil : UA := fun μ Q => Q [] μ
noncomputable def uCons (ue : UE) (us : UA) : UA := fun μ Q => ue μ fun r μ1 => us μ1 fun rs μ2 => Q (r.d :: rs) μ2
noncomputable def uK (ts : List T) : UA := fun μ Q => Q (ts.map R.tr) μ
theorem nil : YA X [] uNil := ⟨_, Z.nil, fun F ad B σ H μ Q Qt hK l q k => k [] H [] μ l .nil Fr.refl (Kp.refl μ) q⟩
theorem cons (ha : YE X e ue) (hr : YA X es us) (h : autoParam (nst e = true) L2.aRfl._auto_1) : YA X (e :: es) (uCons ue us) := by
 obtain ⟨t, q, r⟩ := ha; obtain ⟨t', q', r'⟩ := hr
 exact ⟨_, Z.cons q q' h, fun F ad B σ H μ Q Qt hK l q k => r F ad B σ H μ _ _ hK l q fun v H' r1 μ' v1 f k1 q1 => r' F ad B σ H' μ' _ _ hK v1.rl q1 fun vs H2 rs μ2 l2 ps f2 k2 q2 =>
  k (v :: vs) H2 (r1.d :: rs) μ2 l2 (.cons (v1.hv.fr f2 k2) ps) (f.d.trans f2) (k1.trans k2) q2⟩
noncomputable def conT : V → Option T
 | .non => some .non
 | .bl b => some (.bl b)
 | .int i => some (.int i)
 | .str x => some (.str x)
 | _ => none
theorem conT_rep {K : PySem.W.Frag} {H : Hp} {B : AP'} {v : V} {t : T} (h : conT v = some t) : Rep K H B v t := by
 unfold conT at h
 split at h
 ·cases h; exact .non
 ·cases h; exact .bl _
 ·cases h; exact .int _
 ·cases h; exact .str _
 ·cases h
theorem consts {vs : List V} {ts : List T} (h : consV es = some vs) (h2 : vs.map conT = ts.map some) : YA X es (uK ts) := by
 refine ⟨_, Z.consts h, fun F ad B σ H μ Q Qt hK l q k => k vs H _ μ l ?_ Fr.refl (Kp.refl μ) q⟩
 clear h q k
 induction vs generalizing ts with
 | nil => cases ts with
  | nil => exact .nil
  | cons t ts => cases h2
 | cons v vs ih => cases ts with
  | nil => cases h2
  | cons t ts =>
   rw [List.map_cons, List.map_cons] at h2
   injection h2 with e1 e2
   exact .cons (conT_rep e1) (ih e2)
noncomputable def trees : List R → Option (List T)
 | [] => some []
 | .tr t :: rs => (trees rs).map (t :: ·)
 | _ => none
theorem reps_of {F : Fx} {ad : Nat → Addr} {B : AP'} {H : Hp} {μ : Mu} : ∀ {vs : List V} {rs : List R} {ts : List T}, Paired (Hv F ad B H μ) vs rs → trees rs = some ts → Reps F.K H B vs ts
 | _, _, _, .nil, e => by cases e; exact .nil
 | _, r :: rs, ts, .cons h p, e => by
  cases r with
  | tr t =>
   unfold trees at e
   cases q : trees rs with
   | none => rw [q] at e; cases e
   | some us => rw [q] at e; cases e; exact .cons h (reps_of p q)
  | br i => cases e
  | fr c => cases e
noncomputable def uTup (us : UA) : UE := fun μ Q => us μ fun rs μ' => match trees rs with
 | some ts => ts.length ≤ sizeLine ∧ Q (.tr (.tup ts)) μ'
 | none => False
noncomputable def uLst (us : UA) : UE := fun μ Q => us μ fun rs μ' => match trees rs with
 | some ts => ts.length ≤ sizeLine ∧ Q (.fr (.lst ts)) μ'
 | none => False
theorem tup {k : Nat} (h : YA X es us) : YE X (.Tuple es k pos) (uTup us) := by
 obtain ⟨t, q, r⟩ := h
 refine ⟨_, Z.tup q, fun F ad B σ H μ Q Qt hK l q k => r F ad B σ H μ _ _ hK l q fun vs H' rs μ' l1 ps f k1 q1 => ?_⟩
 split at q1
 ·rename_i ts e
  have rp := reps_of ps e
  exact ⟨by rw [rp.length]; exact q1.1, fun p hp => k _ _ _ μ' (Vr.newT l1 rp hp) (f.trans (Fr.same (Same.new hp))) k1 q1.2⟩
 ·exact q1.elim
theorem lst (h : YA X es us) : YE X (.List es pos) (uLst us) := by
 obtain ⟨t, q, r⟩ := h
 refine ⟨_, Z.lst q, fun F ad B σ H μ Q Qt hK l q k => r F ad B σ H μ _ _ hK l q fun vs H' rs μ' l1 ps f k1 q1 => ?_⟩
 split at q1
 ·rename_i ts e
  have rp := reps_of ps e
  exact ⟨by rw [rp.length]; exact q1.1, fun p hp => k _ _ _ μ' (Vr.newL l1 rp hp) (f.trans (Fr.more hp)) k1 q1.2⟩
 ·exact q1.elim
noncomputable def uCB (u : UC) (us : UA) : UE := fun μ Q => us μ fun rs μ' => u rs μ' Q
theorem re_cb {K : PySem.W.Frag} {r : List V → Hp → VK → Prop} {u : UC} {t : TA} (h : RC K r u) (ha : RA K t us) : RE K (tCB r t) (uCB u us) := fun F ad B σ H μ Q Qt hK l q k =>
 ha F ad B σ H μ _ _ hK l q fun vs H' rs μ' l1 ps f k1 q1 => h F ad B σ H' μ' _ _ vs rs hK l1 ps q1 fun v H2 r2 μ2 v2 f2 k2 q2 => k v H2 r2 μ2 v2 (f.trans f2) (k1.trans k2) q2
theorem cb {id : String} {r : List V → Hp → VK → Prop} {u : UC} (hc : CallR X (.builtin id) r) (h : RC X.K r u) (hg : Gl X x) (hm : X.mg x = none) (hv : bootBuiltins x = some (.builtin id)) (ha : YA X (e :: es) us) (h1 : autoParam (nst e = true) L2.aRfl._auto_1) (h2 : autoParam (es.all nst = true) L2.aRfl._auto_1) (hn : autoParam (x ≠ "__name__") L2.aDec._auto_1) (hdb : autoParam ((x == ("__debug__" : Str)) = false) L2.aDec._auto_1) :
  YE X (.Call (.Name x p) (e :: es) [] pos) (uCB u us) := by
 obtain ⟨t, q, rr⟩ := ha
 exact ⟨_, Z.cb hc hg hm hv q h1 h2 hn hdb, re_cb h rr⟩
theorem ct {T : String} {r : List V → Hp → VK → Prop} {u : UC} (hc : CallR X (.type T) r) (h : RC X.K r u) (hg : Gl X x) (hm : X.mg x = none) (hv : bootBuiltins x = some (.type T)) (ha : YA X (e :: es) us) (h1 : autoParam (nst e = true) L2.aRfl._auto_1) (h2 : autoParam (es.all nst = true) L2.aRfl._auto_1) (hn : autoParam (x ≠ "__name__") L2.aDec._auto_1) (hdb : autoParam ((x == ("__debug__" : Str)) = false) L2.aDec._auto_1) :
  YE X (.Call (.Name x p) (e :: es) [] pos) (uCB u us) := by
 obtain ⟨t, q, rr⟩ := ha
 exact ⟨_, Z.ct hc hg hm hv q h1 h2 hn hdb, re_cb h rr⟩
noncomputable def uNoPart : UO := fun μ Q => Q none μ
noncomputable def uPart (ue : UE) : UO := fun μ Q => ue μ fun r μ' => match r with
 | .tr (.int i) => Q (some i) μ'
 | _ => False
theorem po0 : YO X none uNoPart := ⟨_, Z.po0, fun F ad B σ H μ Q Qt hK l q k => k none H μ l Fr.refl (Kp.refl μ) q⟩
theorem po1 (he : YE X e ue) : YO X (some e) (uPart ue) := by
 obtain ⟨t, q, r⟩ := he
 refine ⟨_, Z.po1 q, fun F ad B σ H μ Q Qt hK l q k => r F ad B σ H μ _ _ hK l q fun v H' r1 μ' v1 f k1 q1 => ?_⟩
 split at q1
 ·have rp := v1.2
  cases rp
  exact ⟨_, rfl, k _ H' μ' v1.rl f.d k1 q1⟩
 ·exact q1.elim
end
end Y
end L2
set_option linter.all false
set_option maxRecDepth 100000
set_option maxHeartbeats 4000000
namespace L2
open PySem PySem.Spec PyProof.Rows
namespace Y
noncomputable def byT (f : T → T → Mu → (R → Mu → Prop) → Prop) : U2 := fun r1 r2 μ Q => match cont μ r1, cont μ r2 with
 | some t, some u => f t u μ Q
 | _, _ => False
theorem byT_of {K : PySem.W.Frag} {r : R2} {f : T → T → Mu → (R → Mu → Prop) → Prop}
  (h : ∀ (F : Fx) (ad : Nat → Addr) (B : AP') (σ : St) (H : Hp) (μ : Mu) (Q : VK) (Qt : R → Mu → Prop) (x y : V) (t u : T), F.K = K → Rl F ad B σ H μ → Vw F.K H B x t → Vw F.K H B y u → f t u μ Qt →
   (∀ v H' r, Vr F ad B σ H' μ v r → Fr B H (Bv B v r) H' → Qt r μ → Q v H') → r x y H Q) : ROp K r (byT f) := by
 intro F ad B σ H μ Q Qt x y r1 r2 hK l h1 h2 q k
 unfold byT at q
 split at q
 ·rename_i t u e1 e2
  exact h F ad B σ H μ Q Qt x y t u hK l (h1.vw l e1) (h2.vw l e2) q fun v H' r v1 s q1 => k v H' r μ v1 s (Kp.refl μ) q1
 ·exact q.elim
noncomputable def tInt (C : Int → Int → Prop) (g : Int → Int → Int) : T → T → Mu → (R → Mu → Prop) → Prop := fun t u μ Q => match t, u with
 | .int i, .int j => C i j ∧ Q (.tr (.int (g i j))) μ
 | _, _ => False
theorem ro_int {K : PySem.W.Frag} {C : Int → Int → Prop} {g : Int → Int → Int} : ROp K (rI C fun i j => .int (g i j)) (byT (tInt C g)) := byT_of fun F ad B σ H μ Q Qt x y t u hK l v1 v2 q k => by
 unfold tInt at q
 split at q
 ·cases v1; cases v2
  exact ⟨_, _, rfl, rfl, q.1, k _ H _ (Vr.flat l (.int _)) Fr.refl q.2⟩
 ·exact q.elim
theorem ro_int0 {K : PySem.W.Frag} {g : Int → Int → Int} : ROp K (rI0 fun i j => .int (g i j)) (byT (tInt (fun _ _ => True) g)) := byT_of fun F ad B σ H μ Q Qt x y t u hK l v1 v2 q k => by
 unfold tInt at q
 split at q
 ·cases v1; cases v2
  exact ⟨_, _, rfl, rfl, k _ H _ (Vr.flat l (.int _)) Fr.refl q.2⟩
 ·exact q.elim
noncomputable def tBl (g : Int → Int → Bool) : T → T → Mu → (R → Mu → Prop) → Prop := fun t u μ Q => match t, u with
 | .int i, .int j => Q (.tr (.bl (g i j))) μ
 | _, _ => False
theorem ro_bl {K : PySem.W.Frag} {g : Int → Int → Bool} : ROp K (rI0 fun i j => .bl (g i j)) (byT (tBl g)) := byT_of fun F ad B σ H μ Q Qt x y t u hK l v1 v2 q k => by
 unfold tBl at q
 split at q
 ·cases v1; cases v2
  exact ⟨_, _, rfl, rfl, k _ H _ (Vr.flat l (.bl _)) Fr.refl q⟩
 ·exact q.elim
noncomputable def rCatG (K : PySem.W.Frag) : R2 := fun x y H Q => ∃ a b xs ys, x = .ref a ∧ y = .ref b ∧ SqT K H a xs ∧ SqT K H b ys ∧ xs.length + ys.length ≤ sizeLine ∧
 (xs = [] → Q (.ref b) H) ∧ (xs ≠ [] → ys = [] → Q (.ref a) H) ∧ (xs ≠ [] → ys ≠ [] → ∀ p, H p = none → Q (.ref p) (upd H p (.tup (xs ++ ys))))
theorem cat_tup0 {prog : Program} {w : World} {A : Around} {E : Value → Shared → Prop} {s : Shared} {t b : Addr} {ws : List Value} {Q : Value → Shared → Prop} (ht : IsTup s.heap t ([] : List Value).toArray) (hb : IsTup s.heap b ws.toArray) (h0 : Q (.ref b) s) : wpAny (model prog w) A (binaryOp .Add (.ref t) (.ref b)) Q E s := by
 obtain ⟨⟨cls, dd, data, sl⟩, ho, hc, n, hd⟩ := id ht
 obtain ⟨⟨cls2, dd2, data2, sl2⟩, ho2, hc2, n2, hd2⟩ := id hb
 simp only at hc hd hc2 hd2
 subst hc hd hc2 hd2
 exact concat_meets ⟨_, ho, rfl⟩ ⟨_, ho2, rfl⟩ noFill_tuple_add seq_tuple_add PySem.F.slot_tuple_add PySem.F.entry_tuple_add (PySem.F.args_tuple_add_2 _ _)
   (tuple_addW0 t b _ ws.toArray n n2 dd dd2 sl sl2 (by simp)) ⟨ho, ho2, h0⟩
theorem op_catG {X : Cx} : OpR X (binaryOp .Add) (rCatG X.K) := by
 intro pins s σ H x y v u Q I rx ry h
 obtain ⟨a, b, xs, ys, rfl, rfl, ha, hb, hz, q0, q1, q2⟩ := h
 by_cases hx : xs = []
 ·subst hx
  cases rx; cases ry
  obtain ⟨its, r1, p1, _⟩ := I.tuple ha
  obtain ⟨its2, r2, p2, _⟩ := I.tuple hb
  cases r1
  exact cat_tup0 p1 p2 ⟨.ref b, H, I, rfl, q0 rfl⟩
 ·exact op_catT pins s σ H _ _ v u Q I rx ry ⟨a, b, xs, ys, rfl, rfl, ha, hb, hx, hz, q1 hx, q2 hx⟩
noncomputable def rAddG (K : PySem.W.Frag) : R2 := fun x y H Q => (∃ i j, x = .int i ∧ y = .int j ∧ Q (.int (i + j)) H) ∨ (∃ i j, x = .str i ∧ y = .str j ∧ i.length + j.length ≤ sizeLine ∧ Q (.str (i ++ j)) H) ∨ rCat x y H Q ∨ rCatG K x y H Q
theorem op_addG {X : Cx} (K : PySem.W.Frag) (hK : X.K = K) : OpR X (binaryOp .Add) (rAddG K) := by subst hK; exact op_add.or (op_add_str.or (op_cat.or op_catG))
noncomputable def rep_of {F : Fx} {ad : Nat → Addr} {B : AP'} {H : Hp} {μ : Mu} {v : V} {t : T} (h : Hv F ad B H μ v (.tr t)) : Rep F.K H B v t := h
noncomputable def uAdd : U2 := fun r1 r2 μ Q => match cont μ r1, cont μ r2 with
 | some (.int i), some (.int j) => Q (.tr (.int (i + j))) μ
 | some (.str i), some (.str j) => i.length + j.length ≤ sizeLine ∧ Q (.tr (.str (i ++ j))) μ
 | some (.lst xs), some (.lst ys) => xs.length + ys.length ≤ sizeLine ∧ Q (.fr (.lst (xs ++ ys))) μ
 | some (.tup xs), some (.tup ys) => xs.length + ys.length ≤ sizeLine ∧ Q (.tr (.tup (xs ++ ys))) μ
 | _, _ => False
theorem Hv.tupR {F : Fx} {ad : Nat → Addr} {B : AP'} {σ : St} {H : Hp} {μ : Mu} {v : V} {r : R} {xs : List T} (l : Rl F ad B σ H μ) (h : Hv F ad B H μ v r) (e : cont μ r = some (.tup xs)) : Rep F.K H B v (.tup xs) := by
 cases r with
 | tr t => cases e; exact h
 | br i =>
  obtain ⟨rfl, s, c, h1, h2⟩ := h
  have e2 : (μ[i]?).bind Sl.box = some (.tup xs) := e
  rw [h1] at e2
  have e' : s.box = some (.tup xs) := e2
  rcases ((l.slot i s h1).boxed e').2.2.1.is with ⟨ts, vs, z, _⟩ | ⟨ks, ts, vs, z, _⟩ <;> cases z
 | fr c => exact h.elim
theorem ro_add {K : PySem.W.Frag} : ROp K (rAddG K) uAdd := by
 intro F ad B σ H μ Q Qt x y r1 r2 hK l h1 h2 q k
 subst hK
 unfold uAdd at q
 split at q
 ·rename_i i j e1 e2
  have a := h1.vw l e1; have b := h2.vw l e2
  cases a; cases b
  exact .inl ⟨_, _, rfl, rfl, k _ H _ μ (Vr.flat l (.int _)) Fr.refl (Kp.refl μ) q⟩
 ·rename_i i j e1 e2
  have a := h1.vw l e1; have b := h2.vw l e2
  cases a; cases b
  exact .inr (.inl ⟨_, _, rfl, rfl, q.1, k _ H _ μ (Vr.flat l (.str _)) Fr.refl (Kp.refl μ) q.2⟩)
 ·rename_i xs ys e1 e2
  have a := h1.vw l e1; have b := h2.vw l e2
  cases a with
  | lst ha ra => cases b with
   | lst hb rb => exact .inr (.inr (.inl ⟨_, _, _, _, rfl, rfl, ha, hb, by rw [ra.length, rb.length]; exact q.1, fun p hp => k _ _ _ μ (Vr.newL l (ra.append rb) hp) (Fr.more hp) (Kp.refl μ) q.2⟩))
 ·rename_i xs ys e1 e2
  have a := Hv.tupR l h1 e1; have b := Hv.tupR l h2 e2
  have a' := a; have b' := b
  cases a with
  | tup na ha ra => cases b with
   | tup nb hb rb =>
    refine .inr (.inr (.inr ⟨_, _, _, _, rfl, rfl, SqT.of ha, SqT.of hb, by rw [ra.length, rb.length]; exact q.1, fun z => ?_, fun z1 z2 => ?_, fun z1 z2 p hp => k _ _ _ μ (Vr.newT l (ra.append rb) hp) (Fr.same (Same.new hp)) (Kp.refl μ) q.2⟩))
    ·subst z
     cases ra
     exact k _ H _ μ (Vr.flat l b') Fr.refl (Kp.refl μ) q.2
    ·subst z2
     cases rb
     have q2 := q.2
     rw [List.append_nil] at q2
     exact k _ H _ μ (Vr.flat l a') Fr.refl (Kp.refl μ) q2
 ·exact q.elim
noncomputable def uMulG : U2 := fun r1 r2 μ Q => match cont μ r1, cont μ r2 with
 | some (.int i), some (.int j) => CMul i j ∧ Q (.tr (.int (i * j))) μ
 | some (.lst xs), some (.int k) => -(2 ^ 63) ≤ k ∧ k < 2 ^ 63 ∧ xs.length * k.toNat ≤ sizeLine ∧ Q (.fr (.lst (List.replicate k.toNat xs).flatten)) μ
 | _, _ => False
theorem ro_mul {K : PySem.W.Frag} : ROp K uMul uMulG := by
 intro F ad B σ H μ Q Qt x y r1 r2 hK l h1 h2 q k
 unfold uMulG at q
 split at q
 ·rename_i i j e1 e2
  have a := h1.vw l e1; have b := h2.vw l e2
  cases a; cases b
  exact ⟨q.1, k _ H _ μ (Vr.flat l (.int _)) Fr.refl (Kp.refl μ) q.2⟩
 ·rename_i xs j e1 e2
  have a := h1.vw l e1; have b := h2.vw l e2
  cases b
  cases a with
  | lst ha ra => exact ⟨_, _, _, rfl, rfl, ha, q.1, q.2.1, by rw [ra.length]; exact q.2.2.1, fun p hp => k _ _ _ μ (Vr.newL l (ra.rep _) hp) (Fr.more hp) (Kp.refl μ) q.2.2.2⟩
 ·exact q.elim
noncomputable def uIxT : U2 := fun r1 r2 μ Q => match cont μ r1, cont μ r2 with
 | some (.lst xs), some (.int i) => (match atI xs i with | some t => Q (.tr t) μ | none => False)
 | some (.tup xs), some (.int i) => (match atI xs i with | some t => Q (.tr t) μ | none => False)
 | some (.ktp xs), some (.int i) => (match atI xs i with | some t => Q (.tr t) μ | none => False)
 | some (.str z), some (.int i) => z.length ≤ sizeLine ∧ (match atI z.cps.toList i with | some c => Q (.tr (.str ⟨#[c]⟩)) μ | none => False)
 | _, _ => False
theorem ix_G {X : Cx} (K : PySem.W.Frag) (hK : X.K = K) : IxR X (rIx K) := by subst hK; exact ix_seq
theorem ro_ix {K : PySem.W.Frag} : ROp K (rIx K) uIxT := by
 intro F ad B σ H μ Q Qt x y r1 r2 hK l h1 h2 q k
 subst hK
 unfold uIxT at q
 split at q
 ·rename_i xs j e1 e2
  have a := h1.vw l e1; have b := h2.vw l e2
  cases b
  split at q
  ·rename_i t e3
   cases a with
   | lst ha ra =>
    obtain ⟨v, e4, rv⟩ := ra.atI e3
    exact .inl ⟨_, _, _, v, rfl, rfl, SqL.of ha, e4, k _ H _ μ (Vr.flat l rv) Fr.refl (Kp.refl μ) q⟩
  ·exact q.elim
 ·rename_i xs j e1 e2
  have a := h1.vw l e1; have b := h2.vw l e2
  cases b
  split at q
  ·rename_i t e3
   cases a with
   | tup ha ra =>
    obtain ⟨v, e4, rv⟩ := ra.atI e3
    exact .inr (.inl ⟨_, _, _, v, rfl, rfl, SqT.of ha, e4, k _ H _ μ (Vr.flat l rv) Fr.refl (Kp.refl μ) q⟩)
  ·exact q.elim
 ·rename_i xs j e1 e2
  have a := h1.vw l e1; have b := h2.vw l e2
  cases b
  split at q
  ·rename_i t e3
   cases a with
   | ktp ha ra =>
    obtain ⟨v, e4, rv⟩ := ra.atI e3
    exact .inr (.inl ⟨_, _, _, v, rfl, rfl, .inr ha, e4, k _ H _ μ (Vr.flat l rv) Fr.refl (Kp.refl μ) q⟩)
  ·exact q.elim
 ·rename_i xs j e1 e2
  have a := h1.vw l e1; have b := h2.vw l e2
  cases b
  cases a
  obtain ⟨q0, q⟩ := q
  split at q
  ·rename_i t e3
   exact .inr (.inr ⟨_, _, _, rfl, rfl, q0, e3, k _ H _ μ (Vr.flat l (.str _)) Fr.refl (Kp.refl μ) q⟩)
  ·exact q.elim
 ·exact q.elim
noncomputable def eqF : T → T → Bool
 | .non, .non => true
 | .bl a, .bl b => a == b
 | .bl a, .int b => (if a then 1 else 0) == b
 | .int a, .bl b => a == (if b then 1 else 0)
 | .int a, .int b => a == b
 | .str a, .str b => a == b
 | _, _ => false
noncomputable def eqFs (xs ys : List T) : Bool := xs.length == ys.length && (List.range (min xs.length ys.length)).all fun j => match xs[j]?, ys[j]? with
 | some x, some y => eqF x y
 | _, _ => true
theorem eqF_V {K : PySem.W.Frag} {H : Hp} {B : AP'} {x y : V} {t u : T} (h1 : Rep K H B x t) (h2 : Rep K H B y u) (f1 : flatT t = true) (f2 : flatT u = true) : flatV x = true ∧ flatV y = true ∧ eqV x y = eqF t u := by
 cases h1 <;> first | (cases f1; done) | (cases h2 <;> first | (cases f2; done) | exact ⟨rfl, rfl, rfl⟩)
noncomputable def rEqL (K : PySem.W.Frag) (neg : Bool) : R2 := fun x y H Q => ∃ a b xs ys, x = .ref a ∧ y = .ref b ∧ ((SqL K H a xs ∧ SqL K H b ys) ∨ (SqT K H a xs ∧ SqT K H b ys)) ∧ xs.all flatV = true ∧ ys.all flatV = true ∧
 ∀ c, c = (xs.length == ys.length && (List.range (min xs.length ys.length)).all fun j => match xs[j]?, ys[j]? with | some x, some y => eqV x y | _, _ => true) → Q (.bl (if neg then !c else c)) H
theorem op_eqL {X : Cx} (hu : X.A.units < cLine) : OpR X (compareOp .Eq) (rEqL X.K false) := by
 intro pins s σ H x y v u Q I rx ry h
 obtain ⟨a, b, xs, ys, rfl, rfl, hq, fx, fy, q⟩ := h
 cases rx; cases ry
 have item : ∀ (its its2 : List Value), Vals xs its → Vals ys its2 → ∀ j (h1 : j < its.toArray.size) (h2 : j < its2.toArray.size), SeqAt.EqAt X.A.in1 s its.toArray[j] its2.toArray[j] (match xs[j]?, ys[j]? with | some x, some y => eqV x y | _, _ => true) := fun its its2 r1 r2 j h1 h2 => by
  have l1 := r1.length; have l2 := r2.length
  rw [List.size_toArray] at h1 h2
  obtain ⟨u1, e1, g1⟩ := r1.get (i := j) (x := xs[j]) (List.getElem?_eq_getElem (by omega))
  obtain ⟨u2, e2, g2⟩ := r2.get (i := j) (x := ys[j]) (List.getElem?_eq_getElem (by omega))
  rw [List.getElem?_eq_getElem (show j < xs.length by omega), List.getElem?_eq_getElem (show j < ys.length by omega)]
  have z1 : its.toArray[j] = u1 := by
   rw [List.getElem?_eq_getElem h1] at e1; simpa using e1
  have z2 : its2.toArray[j] = u2 := by
   rw [List.getElem?_eq_getElem h2] at e2; simpa using e2
  rw [z1, z2]
  exact eqAt_V g1 g2 (List.all_eq_true.mp fx _ (List.getElem_mem _)) (List.all_eq_true.mp fy _ (List.getElem_mem _))
 rcases hq with ⟨ha, hb⟩ | ⟨ha, hb⟩
 ·obtain ⟨its, r1, p1, _⟩ := I.list ha
  obtain ⟨its2, r2, p2, _⟩ := I.list hb
  have l1 := r1.length; have l2 := r2.length
  by_cases e : xs.length = ys.length
  ·refine SeqAt.eq_listAt p1.isList p2.isList (by rw [List.size_toArray, List.size_toArray]; omega) hu (item its its2 r1 r2) ⟨.bl _, H, I, rfl, q _ ?_⟩
   rw [List.size_toArray, ← l1, ← e, Nat.min_self, beq_self_eq_true, Bool.true_and]
  ·refine SeqAt.eq_list_lengthsAt p1.isList p2.isList (by rw [List.size_toArray, List.size_toArray, bne_iff_ne]; omega) hu ⟨.bl _, H, I, rfl, q _ ?_⟩
   rw [beq_eq_false_iff_ne.mpr e, Bool.false_and]
 ·obtain ⟨its, r1, p1, _⟩ := I.tuple ha
  obtain ⟨its2, r2, p2, _⟩ := I.tuple hb
  have l1 := r1.length; have l2 := r2.length
  refine SeqAt.eq_tupleAt p1 p2 hu (item its its2 r1 r2) ⟨.bl _, H, I, rfl, q _ ?_⟩
  rw [List.size_toArray, List.size_toArray, ← l1, ← l2, Bool.and_comm]
  rfl
theorem reps_flat {K : PySem.W.Frag} {H : Hp} {B : AP'} : ∀ {xs : List V} {ts : List T}, Reps K H B xs ts → ts.all flatT = true → xs.all flatV = true
 | _, _, .nil, _ => rfl
 | _, _, .cons h r, f => by
  rw [List.all_cons, Bool.and_eq_true] at f ⊢
  refine ⟨?_, reps_flat r f.2⟩
  have f1 := f.1
  cases h <;> first | rfl | cases f1
theorem eqFs_V {K : PySem.W.Frag} {H : Hp} {B : AP'} {xs ys : List V} {ts us : List T} (h1 : Reps K H B xs ts) (h2 : Reps K H B ys us) (f1 : ts.all flatT = true) (f2 : us.all flatT = true) :
  eqFs ts us = (xs.length == ys.length && (List.range (min xs.length ys.length)).all fun j => match xs[j]?, ys[j]? with | some x, some y => eqV x y | _, _ => true) := by
 unfold eqFs
 have l1 := h1.length; have l2 := h2.length
 rw [l1, l2]
 congr 1
 refine List.all_congr rfl ?_ |>.symm
 intro j
 cases a1 : ts[j]? with
 | none =>
  have : xs[j]? = none := List.getElem?_eq_none_iff.mpr (by have := List.getElem?_eq_none_iff.mp a1; omega)
  rw [this]
 | some t =>
  obtain ⟨v1, e1, r1⟩ := h1.get a1
  rw [e1]
  cases a2 : us[j]? with
  | none =>
   have : ys[j]? = none := List.getElem?_eq_none_iff.mpr (by have := List.getElem?_eq_none_iff.mp a2; omega)
   rw [this]
  | some u =>
   obtain ⟨v2, e2, r2⟩ := h2.get a2
   rw [e2]
   exact (eqF_V r1 r2 (List.all_eq_true.mp f1 _ (List.mem_of_getElem? a1)) (List.all_eq_true.mp f2 _ (List.mem_of_getElem? a2))).2.2
noncomputable def rEqG (K : PySem.W.Frag) : R2 := fun x y H Q => rEq x y H Q ∨ rEqL K false x y H Q
theorem op_eqG {X : Cx} (K : PySem.W.Frag) (hK : X.K = K) (hu : X.A.units < cLine) : OpR X (compareOp .Eq) (rEqG K) := by subst hK; exact op_eq.or (op_eqL hu)
noncomputable def tEq (neg : Bool) : T → T → Mu → (R → Mu → Prop) → Prop := fun t u μ Q => match t, u with
 | .int i, .int j => Q (.tr (.bl (if neg then !decide (i = j) else decide (i = j)))) μ
 | .str i, .str j => Q (.tr (.bl (if neg then !decide (i = j) else decide (i = j)))) μ
 | .bl i, .bl j => Q (.tr (.bl (if neg then !decide (i = j) else decide (i = j)))) μ
 | .lst xs, .lst ys => neg = false ∧ xs.all flatT = true ∧ ys.all flatT = true ∧ Q (.tr (.bl (eqFs xs ys))) μ
 | .tup xs, .tup ys => neg = false ∧ xs.all flatT = true ∧ ys.all flatT = true ∧ Q (.tr (.bl (eqFs xs ys))) μ
 | _, _ => False
theorem dV {α : Type} [DecidableEq α] {f : α → V} (hf : ∀ a b, f a = f b → a = b) (a b : α) : decide (f a = f b) = decide (a = b) := by
 rw [decide_eq_decide]; exact ⟨hf a b, fun h => by rw [h]⟩
theorem ro_eq {K : PySem.W.Frag} : ROp K (rEqG K) (byT (tEq false)) := byT_of fun F ad B σ H μ Q Qt x y t u hK l v1 v2 q k => by
 subst hK
 unfold tEq at q
 split at q
 ·cases v1; cases v2
  refine .inl ⟨rfl, ?_⟩
  rw [dV (f := V.int) (fun a b h => by injection h)]
  exact k _ H _ (Vr.flat l (.bl _)) Fr.refl q
 ·cases v1; cases v2
  refine .inl ⟨rfl, ?_⟩
  rw [dV (f := V.str) (fun a b h => by injection h)]
  exact k _ H _ (Vr.flat l (.bl _)) Fr.refl q
 ·cases v1; cases v2
  refine .inl ⟨rfl, ?_⟩
  rw [dV (f := V.bl) (fun a b h => by injection h)]
  exact k _ H _ (Vr.flat l (.bl _)) Fr.refl q
 ·cases v1 with
  | lst ha ra => cases v2 with
   | lst hb rb => exact .inr ⟨_, _, _, _, rfl, rfl, .inl ⟨SqL.of ha, SqL.of hb⟩, reps_flat ra q.2.1, reps_flat rb q.2.2.1, fun c hc => by
     rw [← eqFs_V ra rb q.2.1 q.2.2.1] at hc
     subst hc
     exact k _ H _ (Vr.flat l (.bl _)) Fr.refl q.2.2.2⟩
 ·cases v1 with
  | tup ha ra => cases v2 with
   | tup hb rb => exact .inr ⟨_, _, _, _, rfl, rfl, .inr ⟨SqT.of ha, SqT.of hb⟩, reps_flat ra q.2.1, reps_flat rb q.2.2.1, fun c hc => by
     rw [← eqFs_V ra rb q.2.1 q.2.2.1] at hc
     subst hc
     exact k _ H _ (Vr.flat l (.bl _)) Fr.refl q.2.2.2⟩
 ·exact q.elim
noncomputable def by1 (f : T → Mu → (R → Mu → Prop) → Prop) : UC := fun rs μ Q => match rs with
 | [r] => (match cont μ r with | some t => f t μ Q | none => False)
 | _ => False
theorem by1_of {K : PySem.W.Frag} {r : List V → Hp → VK → Prop} {f : T → Mu → (R → Mu → Prop) → Prop}
  (h : ∀ (F : Fx) (ad : Nat → Addr) (B : AP') (σ : St) (H : Hp) (μ : Mu) (Q : VK) (Qt : R → Mu → Prop) (x : V) (t : T), F.K = K → Rl F ad B σ H μ → Vw F.K H B x t → f t μ Qt →
   (∀ v H' r, Vr F ad B σ H' μ v r → Fr B H (Bv B v r) H' → Qt r μ → Q v H') → r [x] H Q) : RC K r (by1 f) := by
 intro F ad B σ H μ Q Qt xs rs hK l p q k
 unfold by1 at q
 split at q
 ·split at q
  ·rename_i r0 _ t e
   cases p with
   | cons h1 p => cases p; exact h F ad B σ H μ Q Qt _ t hK l (h1.vw l e) q fun v H' r v1 s q1 => k v H' r μ v1 s (Kp.refl μ) q1
  ·exact q.elim
 ·exact q.elim
noncomputable def tLen : T → Mu → (R → Mu → Prop) → Prop := fun t μ Q => match t with
 | .lst xs => Q (.tr (.int xs.length)) μ
 | .tup xs => Q (.tr (.int xs.length)) μ
 | .rol xs => Q (.tr (.int xs.length)) μ
 | .ktp xs => Q (.tr (.int xs.length)) μ
 | .str z => z.length ≤ sizeLine ∧ Q (.tr (.int z.length)) μ
 | _ => False
noncomputable def rLenG (K : PySem.W.Frag) : List V → Hp → VK → Prop := fun xs H Q => (∃ p ys, xs = [.ref p] ∧ (SqL K H p ys ∨ SqT K H p ys) ∧ Q (.int ys.length) H) ∨ (∃ z, xs = [.str z] ∧ z.length ≤ sizeLine ∧ Q (.int z.length) H)
theorem call_lenG {X : Cx} (K : PySem.W.Frag) (hK : X.K = K) : CallR X (.builtin "len") (rLenG K) := by subst hK; exact call_len_seq.or call_len_str
theorem rc_len {K : PySem.W.Frag} : RC K (rLenG K) (by1 tLen) := by1_of fun F ad B σ H μ Q Qt x t hK l v1 q k => by
 subst hK
 unfold tLen at q
 split at q
 ·cases v1 with
  | lst ha ra => exact .inl ⟨_, _, rfl, .inl (SqL.of ha), by rw [ra.length]; exact k _ H _ (Vr.flat l (.int _)) Fr.refl q⟩
 ·cases v1 with
  | tup ha ra => exact .inl ⟨_, _, rfl, .inr (SqT.of ha), by rw [ra.length]; exact k _ H _ (Vr.flat l (.int _)) Fr.refl q⟩
 ·cases v1 with
  | rol ha ra => exact .inl ⟨_, _, rfl, .inl ha, by rw [ra.length]; exact k _ H _ (Vr.flat l (.int _)) Fr.refl q⟩
 ·cases v1 with
  | ktp ha ra => exact .inl ⟨_, _, rfl, .inr (.inr ha), by rw [ra.length]; exact k _ H _ (Vr.flat l (.int _)) Fr.refl q⟩
 ·cases v1
  exact .inr ⟨_, rfl, q.1, k _ H _ (Vr.flat l (.int _)) Fr.refl q.2⟩
 ·exact q.elim
noncomputable def uTuple : UC := fun rs μ Q => match rs with
 | [r] => (match cont μ r with
  | some (.lst xs) => Q (.tr (.tup xs)) μ
  | some (.tup xs) => Q (.tr (.tup xs)) μ
  | _ => False)
 | _ => False
noncomputable def rTupG (K : PySem.W.Frag) : List V → Hp → VK → Prop := fun xs H Q => ∃ p ys, xs = [.ref p] ∧ ((SqL K H p ys ∧ ∀ l, H l = none → Q (.ref l) (upd H l (.tup ys))) ∨ (SqT K H p ys ∧ Q (.ref p) H))
theorem call_tupG {X : Cx} (K : PySem.W.Frag) (hK : X.K = K) : CallR X (.type "tuple") (rTupG K) := by subst hK; exact call_tuple_of
theorem rc_tuple {K : PySem.W.Frag} : RC K (rTupG K) uTuple := by
 intro F ad B σ H μ Q Qt xs rs hK l p q k
 subst hK
 unfold uTuple at q
 split at q
 ·cases p with
  | cons h1 p =>
   cases p
   split at q
   ·rename_i e
    have v1 := h1.vw l e
    cases v1 with
    | lst ha ra => exact ⟨_, _, rfl, .inl ⟨SqL.of ha, fun p hp => k _ _ _ μ (Vr.newT l ra hp) (Fr.same (Same.new hp)) (Kp.refl μ) q⟩⟩
   ·rename_i e
    have rp := Hv.tupR l h1 e
    have rp' := rp
    cases rp with
    | tup na ha ra => exact ⟨_, _, rfl, .inr ⟨SqT.of ha, k _ H _ μ (Vr.flat l rp') Fr.refl (Kp.refl μ) q⟩⟩
   ·exact q.elim
 ·exact q.elim
noncomputable def uIntG : UC := fun rs μ Q => match rs with
 | [.tr (.int i)] => Q (.tr (.int i)) μ
 | [.tr (.bl k)] => Q (.tr (.int (if k = true then 1 else 0))) μ
 | _ => False
theorem rc_int {K : PySem.W.Frag} : RC K uInt uIntG := by
 intro F ad B σ H μ Q Qt xs rs hK l p q k
 unfold uIntG at q
 split at q
 ·cases p with
  | cons h1 p => cases p; cases rep_of h1; exact k _ H _ μ (Vr.flat l (.int _)) Fr.refl (Kp.refl μ) q
 ·cases p with
  | cons h1 p => cases p; cases rep_of h1; exact k _ H _ μ (Vr.flat l (.int _)) Fr.refl (Kp.refl μ) q
 ·exact q.elim
end Y
end L2
set_option linter.all false
set_option maxRecDepth 100000
set_option maxHeartbeats 4000000
namespace L2
open PySem PySem.Spec PyProof.Rows
namespace Y
noncomputable def isiT : T → String → Option Bool
 | .non, c => some (isiU "NoneType" c)
 | .bl _, c => some (isiU "bool" c)
 | .int _, c => some (isiU "int" c)
 | .str _, c => some (isiU "str" c)
 | .lst _, c => some (isiU "list" c)
 | .tup _, c => some (isiU "tuple" c)
 | _, _ => none
section
variable {X : Cx} {a b c e o : Expr} {es rest : List Expr} {ua ub uc ue uo : UE} {uA uB : UT} {us : UA} {pos p p2 p3 : Pos} {x : Str}
noncomputable def cutG {α : Type} (xs : List α) (lo hi : Option Int) : List α := (xs.drop (HT.sIx xs.length 0 lo)).take (HT.sIx xs.length xs.length hi - HT.sIx xs.length 0 lo)
theorem Reps.cut {K : PySem.W.Frag} {H : Hp} {B : AP'} {vs : List V} {ts : List T} (r : Reps K H B vs ts) (lo hi : Option Int) : Reps K H B (cutV vs lo hi) (cutG ts lo hi) := by
 unfold cutV cutG
 rw [r.length]
 exact (r.drop _).take _
noncomputable def rSlW (K : PySem.W.Frag) : V → Option Int → Option Int → Hp → VK → Prop := fun x lo hi H Q => ∃ a xs, x = .ref a ∧ SqT K H a xs ∧ HT.sIx xs.length 0 lo = 0 ∧ HT.sIx xs.length xs.length hi = xs.length ∧ Q (.ref a) H
theorem getItem_tuple_all {prog : Program} {w : World} {A : Around} {E : Value → Shared → Prop} {s : Shared} {t sl : Addr} {items : Array Value} {vl vu : Value} {lo hi : Option Int} {Q : Value → Shared → Prop} (ht : IsTup s.heap t items) (hs : s.heap.IsSliceOf sl vl vu .none) (pl : IsPart vl lo) (pu : IsPart vu hi)
  (h1 : HT.sIx items.size 0 lo = 0) (h2 : HT.sIx items.size items.size hi = items.size) (h : Q (.ref t) s) : wpAny (model prog w) A (getItem (.ref t) (.ref sl)) Q E s := by
 obtain ⟨os, hos, hcs, hds⟩ := id hs
 have hTs : s.TypeIs (.ref sl) "slice" := ⟨os, hos, hcs⟩
 unfold getItem
 try with_reducible refine wpAny_holding ?_
 first | refine wpAny_bind (wpAny_pure ?_) | skip
 refine wpAny_bind (wpAny_sequenceKey ht.typeIs (by decide) ?_)
 refine wpAny_bind (wpAny_callSpecial?_slot (name := Str.ofString "__getitem__") ht.typeIs PyProof.Rows.slot_tuple_getitem
  (wpAny_call_entry PyProof.Rows.slot_tuple_getitem ht.typeIs entry_tuple_getitem ?_ (args_tuple_getitem _ _)))
 show wpAny _ _ (Builtin.Tuple.tupleItemsOf (.ref t) >>= _) _ _ s
 refine wpAny_bind (tupleItemsOf_ ht ?_)
 refine wpAny_bind (wpAny_typeOf hTs ?_)
 rw [if_pos (by decide)]
 refine wpAny_bind (HT.sliceApplied_gen hs pl pu ?_)
 show wpAny _ _ (if (((HT.sIx items.size 0 lo : Nat) : Int) == 0 && (1 : Int) == 1 && (HT.sIx items.size items.size hi - HT.sIx items.size 0 lo) == items.size) = true then _ else _) _ _ s
 rw [if_pos (by rw [h1, h2]; simp)]
 unfold Builtin.Tuple.tupleIsExact
 refine wpAny_bind ?_
 refine wpAny_bind (wpAny_typeOf ht.typeIs (wpAny_pure ?_))
 rw [if_pos (by decide)]
 exact wpAny_bind (wpAny_rule (wpAny_pure ⟨_, rfl, wpAny_pure h⟩))
theorem sl_all {X : Cx} : SlR X (rSlW X.K) := by
 intro pins s σ H x v vl vu lo hi sl Q I rx hs pl pu h
 obtain ⟨a, xs, rfl, hx, h1, h2, q⟩ := h
 cases rx
 obtain ⟨its, r, ht, hz⟩ := I.tuple hx
 have hlen : its.toArray.size = xs.length := by rw [List.size_toArray]; exact r.length.symm
 exact ⟨"tuple", _, PyProof.Rows.slot_tuple_getitem.lookup, ht.typeIs, getItem_tuple_all ht hs pl pu (by rw [hlen]; exact h1) (by rw [hlen]; exact h2) ⟨.ref a, H, I, rfl, q⟩⟩
noncomputable def rSlG (K : PySem.W.Frag) : V → Option Int → Option Int → Hp → VK → Prop := fun x lo hi H Q => rSlL K x lo hi H Q ∨ rSlT K x lo hi H Q ∨ rSlW K x lo hi H Q
theorem sl_G (K : PySem.W.Frag) (hK : X.K = K) : SlR X (rSlG K) := by subst hK; exact sl_list.or (sl_tup.or sl_all)
noncomputable def uSl (ue : UE) (ul uh : UO) : UE := fun μ Q => ue μ fun r μ1 => ul μ1 fun lo μ2 => uh μ2 fun hi μ3 => match cont μ3 r.d with
 | some (.lst xs) => Q (.fr (.lst (cutG xs lo hi))) μ3
 | some (.rol xs) => Q (.fr (.lst (cutG xs lo hi))) μ3
 | some (.tup xs) => Q (.tr (.tup (cutG xs lo hi))) μ3
 | _ => False
end
end Y
structure EdOk (F : Fx) (B : AP') (H : Hp) (D : Ends) (E : Ed) : Prop where
 nx : ∀ ad' B' σ' H' μ', Rl F ad' B' σ' H' μ' → Fr B H B' H' → E.nx μ' → D.nx σ' H'
 rt : ∀ ad' B' σ' H' μ' v r, Vr F ad' B' σ' H' μ' v r → E.rt r μ' → D.rt v H'
 bk : ∀ ad' B' σ' H' μ', Rl F ad' B' σ' H' μ' → Fr B H B' H' → E.bk μ' → D.bk σ' H'
 ct : ∀ ad' B' σ' H' μ', Rl F ad' B' σ' H' μ' → Fr B H B' H' → E.ct μ' → D.ct σ' H'
theorem EdOk.step {F : Fx} {B B1 : AP'} {H H1 : Hp} {D : Ends} {E : Ed} (h : EdOk F B H D E) (f : Fr B H B1 H1) : EdOk F B1 H1 D E :=
 ⟨fun ad' B' σ' H' μ' l g q => h.nx ad' B' σ' H' μ' l (f.trans g) q, h.rt, fun ad' B' σ' H' μ' l g q => h.bk ad' B' σ' H' μ' l (f.trans g) q, fun ad' B' σ' H' μ' l g q => h.ct ad' B' σ' H' μ' l (f.trans g) q⟩
noncomputable def RS (K : PySem.W.Frag) (ts : TS) (us : US) : Prop := ∀ (F : Fx) (D : Ends) (E : Ed) (ad : Nat → Addr) (B : AP') (σ : St) (H : Hp) (μ : Mu), F.K = K → Rl F ad B σ H μ → us E μ → EdOk F B H D E → ts D σ H
noncomputable abbrev UG := R → Mu → (Mu → Prop) → Prop
noncomputable abbrev UGs := List T → Mu → (Mu → Prop) → Prop
noncomputable def RG (K : PySem.W.Frag) (g : TG) (ug : UG) : Prop := ∀ (F : Fx) (ad : Nat → Addr) (B : AP') (σ : St) (H : Hp) (μ : Mu) (v : V) (r : R) (B0 : AP') (H0 : Hp) (Q : St → Hp → Prop) (Qt : Mu → Prop), F.K = K → Vr F ad B σ H μ v r → Fr B0 H0 (Bv B v r) H → ug r μ Qt →
 (∀ ad' B' σ' H' μ', Rl F ad' B' σ' H' μ' → Fr B0 H0 B' H' → Qt μ' → Q σ' H') → g v σ H Q
noncomputable def RGs (K : PySem.W.Frag) (g : TGs) (ug : UGs) : Prop := ∀ (F : Fx) (ad : Nat → Addr) (B : AP') (σ : St) (H : Hp) (μ : Mu) (vs : List V) (ts : List T) (B0 : AP') (H0 : Hp) (Q : St → Hp → Prop) (Qt : Mu → Prop), F.K = K → Rl F ad B σ H μ → Reps F.K H B vs ts → Fr B0 H0 B H → ug ts μ Qt →
 (∀ ad' B' σ' H' μ', Rl F ad' B' σ' H' μ' → Fr B0 H0 B' H' → Qt μ' → Q σ' H') → g vs σ H Q
structure YG (X : Cx) (e : Expr) (u : UG) : Prop where
 ex : ∃ t, QG X e t ∧ RG X.K t u
structure YGs (X : Cx) (es : List Expr) (u : UGs) : Prop where
 ex : ∃ t, QGs X es t ∧ RGs X.K t u
structure YS (X : Cx) (st : Stmt) (u : US) : Prop where
 ex : ∃ t, QS X st t ∧ RS X.K t u
structure YB (X : Cx) (sts : List Stmt) (u : US) : Prop where
 ex : ∃ t, QB X sts t ∧ RS X.K t u
namespace Y
noncomputable def noP (μ : Mu) (i : Nat) : Prop := match μ[i]? with
 | some (.pb _) => False
 | _ => True
theorem noP_ne {μ : Mu} {i : Nat} (h : noP μ i) : ∀ c, μ[i]? ≠ some (.pb c) := fun c e => by unfold noP at h; rw [e] at h; exact h
noncomputable def gN (i : Nat) : UG := fun r μ Q => match r with
 | .tr t => noP μ i ∧ Q (μ.set i (.tr t))
 | .fr c => noP μ i ∧ Q (μ.set i (.bx c))
 | .br _ => False
section
variable {X : Cx} {a b c e o tg : Expr} {es rest : List Expr} {ua ub uc ue uo : UE} {uA uB : UT} {us : UA} {pos pos' p p2 p3 : Pos} {x : Str} {st : Stmt} {sts xs ys : List Stmt} {u w : US}
theorem rg_name {K : PySem.W.Frag} {i : Nat} : RG K (gName i) (gN i) := fun F ad B σ H μ v r B0 H0 Q Qt hK h f q k => by
 cases r with
 | tr t => exact k ad B _ H _ (h.1.setT (noP_ne q.1) h.2) f q.2
 | br i => exact q.elim
 | fr c =>
  obtain ⟨l, a, rfl, n, h0, l2, x⟩ := h
  exact k _ _ _ H _ (l2.setB (noP_ne q.1) h0 n l.own l.gB x) f q.2
theorem gname {i : Nat} (hN : X.N.Nodup) (hi : X.N[i]? = some x) (hx : Loc X.env.scope x) (hf : autoParam (X.fn x = true ∨ X.env.scope.names.lookup x = some .local) L2.aLoc._auto_1) : YG X (.Name x pos) (gN i) := ⟨_, Z.gname hN hi hx hf, rg_name⟩
noncomputable def gsN : UGs := fun ts μ Q => match ts with
 | [] => Q μ
 | _ => False
noncomputable def gsC (g : UG) (gs : UGs) : UGs := fun ts μ Q => match ts with
 | [] => False
 | t :: ts => g (.tr t) μ fun μ' => gs ts μ' Q
theorem gsnil : YGs X [] gsN := ⟨_, Z.gsnil, fun F ad B σ H μ vs ts B0 H0 Q Qt hK l r f q k => by
 cases r with
 | nil => exact ⟨rfl, k ad B σ H μ l f q⟩
 | cons => exact q.elim⟩
theorem gscons {g : UG} {gs : UGs} (h1 : YG X e g) (h2 : YGs X es gs) (hs : autoParam ((assignEach (e :: es) X.env).map (·.2) = assign e X.env :: (assignEach es X.env).map (·.2)) L2.aRfl._auto_1) : YGs X (e :: es) (gsC g gs) := by
 obtain ⟨t, q, r⟩ := h1; obtain ⟨t', q', r'⟩ := h2
 refine ⟨_, Z.gscons q q' hs, fun F ad B σ H μ vs ts B0 H0 Q Qt hK l rs f q k => ?_⟩
 cases rs with
 | nil => exact q.elim
 | cons h hr => exact ⟨_, _, rfl, r F ad B σ H μ _ (.tr _) B H _ _ hK ⟨l, h⟩ Fr.refl q fun ad' B' σ' H' μ' l' f' q' => r' F ad' B' σ' H' μ' _ _ B0 H0 _ _ hK l' (hr.fr f') (f.trans f') q' k⟩
noncomputable def gT (n : Nat) (gs : UGs) : UG := fun r μ Q => match cont μ r.d with
 | some (.tup ts) => ts.length = n ∧ gs ts μ Q
 | some (.lst ts) => ts.length = n ∧ gs ts μ Q
 | _ => False
noncomputable def gTupG (K : PySem.W.Frag) (n : Nat) (t : TGs) : TG := fun v σ H Q => ∃ a xs, v = .ref a ∧ (SqT K H a xs ∨ SqL K H a xs) ∧ xs.length = n ∧ t xs σ H Q
theorem draw_list {prog : Program} {w : World} {A : Around} {E : Value → Shared → Prop} {it t : Addr} {items : Array Value} (hne : t ≠ it) : ∀ (n i : Nat) (s : Shared) (Q : List Value → Shared → Prop), s.heap.IsListIter it t i → s.heap.IsList t items → i + n ≤ items.size →
  (∀ h', h'.IsListIter it t (i + n) → Heap.SameBut it s.heap h' → Q ((items.toList.drop i).take n) { s with heap := h' }) → wpAny (model prog w) A (draw (.ref it) n) Q E s
 | 0, i, s, Q, hit, _, _, hQ => by
  show wpAny _ _ (pure []) Q E s
  exact wpAny_pure (by simpa using hQ s.heap hit (Heap.SameBut.refl ..))
 | n + 1, i, s, Q, hit, ht, hle, hQ => by
  have hlt : i < items.size := by omega
  show wpAny _ _ (pyNext (.ref it) >>= _) Q E s
  refine wpAny_bind (wpAny_pyNext_list_item hit ht (x := items[i]) (by simp [hlt]) fun h₁ hit₁ hs₁ => ?_)
  refine wpAny_bind (wpAny_holding (draw_list hne n (i + 1) _ _ hit₁ (ht.extBut hs₁.extBut hne) (by omega) fun h₂ hit₂ hs₂ => wpAny_pure ?_))
  have hd : items.toList.drop i = items[i] :: items.toList.drop (i + 1) := by simp [List.drop_eq_getElem_cons, hlt]
  have := hQ h₂ (by rw [show i + (n + 1) = i + 1 + n by omega]; exact hit₂) (hs₁.trans hs₂)
  rw [hd, List.take_succ_cons] at this
  exact this
theorem unpackItems_list {prog : Program} {w : World} {A : Around} {E : Value → Shared → Prop} {s : Shared} {t : Addr} {items : Array Value} {Q : List Value → Shared → Prop} (hh : A.handled = none) (ht : s.heap.IsList t items)
  (hQ : ∀ h', Heap.ExtBut s.heap.objs.size s.heap h' → Q items.toList { s with heap := h' }) : wpAny (model prog w) A (unpackItems (.ref t) items.size none) Q E s := by
 have hlt : t ≠ s.heap.objs.size := by obtain ⟨o, ho, _⟩ := ht; exact Nat.ne_of_lt (Heap.lt_size ho)
 unfold unpackItems
 refine wpAny_bind ?_
 ·unfold notIterableAtAll
  refine wpAny_bind (wpAny_specialOf ht.typeIs F.slot_list_iter.lookup ?_)
  refine wpAny_pure ?_
  simp only [Bool.false_eq_true, if_false]
  refine wpAny_bind (wpAny_holding (wpAny_pyIter_list ht ?_))
  refine wpAny_bind (wpAny_holding (draw_list hlt items.size 0 _ _ ⟨_, Heap.get?_push_size _ rfl, rfl, rfl⟩ (ht.push _) (by omega) fun h₁ hit₁ hs₁ => ?_))
  have hall : List.take items.size (List.drop 0 items.toList) = items.toList := by
   rw [List.drop_zero]; exact List.take_of_length_le (by simp)
  rw [hall]
  rw [if_neg (by simp)]
  have ht₁ : h₁.IsList t items := (ht.push _).extBut hs₁.extBut hlt
  refine wpAny_bind (wpAny_holding (wpAny_pyNext_list_end hh hit₁ ht₁ (by simp) fun h₂ he₂ => ?_))
  simp only [Option.isSome_none, Bool.false_eq_true, if_false]
  refine wpAny_pure (hQ h₂ fun b o hb e => he₂ b o hb (hs₁.extBut b o hb (Heap.get?_push_of_some _ e)))
theorem pg_tupG {es : List Expr} {k : Nat} {t : TGs} {n : Nat} (hc : X.calm = true) (h : PGs X es t)
  (hn : autoParam ((assignEach es X.env).length = n) L2.aRfl._auto_1) (hst : autoParam ((assignEach es X.env).findIdx? (·.1) = none) L2.aRfl._auto_1) : PG X (.Tuple es k pos) (gTupG X.K n t) := by
 intro pins s σ H v u Q I r hw
 obtain ⟨a, xs, e1, hq, hl, hw⟩ := hw
 rcases hq with hq | hq
 ·exact pg_tup hc h hn hst pins s σ H v u Q I r ⟨a, xs, e1, hq, hl, hw⟩
 ·subst e1
  cases r
  obtain ⟨its, rv, ht, hz⟩ := I.list hq
  rw [assign_Tuple]
  refine wpAny_bind (wpAny_standAt ?_)
  unfold unpack
  have hsz : (assignEach es X.env).length = its.toArray.size := by rw [hn, ← hl, rv.length]; simp
  rw [hsz, hst]
  refine wpAny_bind (wpAny_holding (unpackItems_list (I.ok.hd hc) ht.isList fun h' hx => ?_))
  have I1 : Inv X pins σ H { s with heap := h' } := I.kept (t' := s.toks) fun b o e => hx b o (Nat.ne_of_lt (Heap.lt_size e)) e
  exact h pins _ σ H xs _ Q I1 (by simpa using rv) hw
theorem gtup (K : PySem.W.Frag) (hK : X.K = K) {k n : Nat} {gs : UGs} (hc : X.calm = true) (h : YGs X es gs) (hn : autoParam ((assignEach es X.env).length = n) L2.aRfl._auto_1) (hst : autoParam ((assignEach es X.env).findIdx? (·.1) = none) L2.aRfl._auto_1) : YG X (.Tuple es k pos) (gT n gs) := by
 obtain ⟨t, q, r⟩ := h
 subst hK
 refine ⟨_, ⟨pg_tupG hc q.h hn hst⟩, fun F ad B σ H μ v rr B0 H0 Q Qt hF h f q k => ?_⟩
 have l := h.rl
 have f' : Fr B0 H0 B H := fun b o h n => ⟨(f b o h n).1, fun z => (f b o h n).2 (by cases rr <;> first | exact z | (cases v <;> first | exact z | exact .inr z))⟩
 unfold gT at q
 split at q
 ·rename_i ts e
  have w := h.hv.vw l e
  rw [hF] at w
  cases w with
  | tup ha ra => exact ⟨_, _, rfl, .inl (SqT.of ha), by rw [ra.length]; exact q.1, r F ad B σ H μ _ ts B0 H0 Q Qt hF l (by rw [hF]; exact ra) f' q.2 k⟩
 ·rename_i ts e
  have w := h.hv.vw l e
  rw [hF] at w
  cases w with
  | lst ha ra => exact ⟨_, _, rfl, .inr (SqL.of ha), by rw [ra.length]; exact q.1, r F ad B σ H μ _ ts B0 H0 Q Qt hF l (by rw [hF]; exact ra) f' q.2 k⟩
 ·exact q.elim
theorem bnil : YB X [] (fun E μ => E.nx μ) := ⟨_, Z.bnil, fun F D E ad B σ H μ hK l q h => h.nx ad B σ H μ l Fr.refl q⟩
theorem bone (h : YS X st u) : YB X [st] u := by obtain ⟨t, q, r⟩ := h; exact ⟨t, Z.bone q, r⟩
noncomputable def uSeq (u w : US) : US := fun E μ => u { E with nx := w E } μ
theorem bcons (h : YS X st u) (h2 : YB X sts w) : YB X (st :: sts) (uSeq u w) := by
 obtain ⟨t, q, r⟩ := h; obtain ⟨t', q', r'⟩ := h2
 exact ⟨_, Z.bcons q q', fun F D E ad B σ H μ hK l q h => r F { D with nx := t' D } { E with nx := w E } ad B σ H μ hK l q
  ⟨fun ad1 B1 σ1 H1 μ1 l1 f1 q1 => r' F D E ad1 B1 σ1 H1 μ1 hK l1 q1 (h.step f1), h.rt, h.bk, h.ct⟩⟩
noncomputable def uAsg (ue : UE) (g : UG) : US := fun E μ => ue μ fun r μ' => g r μ' E.nx
theorem rs_asg {K : PySem.W.Frag} {te : TE} {tg : TG} {g : UG} (he : RE K te ue) (hg : RG K tg g) : RS K (tAsg te tg) (uAsg ue g) := fun F D E ad B σ H μ hK l q h =>
 he F ad B σ H μ _ _ hK l q fun v H' r μ' v1 f k1 q1 => hg F ad B σ H' μ' v r B H _ _ hK v1 f q1 fun ad' B' σ' H2 μ2 l2 f2 q2 => h.nx ad' B' σ' H2 μ2 l2 f2 q2
theorem set {i : Nat} (hN : X.N.Nodup) (hi : X.N[i]? = some x) (hx : Loc X.env.scope x) (he : YE X e ue) (hs : autoParam (Z.noc e = true) L2.aRfl._auto_1) (hf : autoParam (X.fn x = true ∨ X.env.scope.names.lookup x = some .local) L2.aLoc._auto_1) :
  YS X (.Assign [.Name x pos'] e pos) (uAsg ue (gN i)) := by
 obtain ⟨t, q, r⟩ := he
 exact ⟨_, Z.set hN hi hx q hs hf, rs_asg r rg_name⟩
theorem asg {g : UG} (he : YE X e ue) (hg : YG X tg g) (hs : autoParam (swapsWithSole [tg] e pos.line X.env = pure false) L2.aRfl._auto_1) (hw : autoParam (swappedStores [tg] e X.env = pure none) L2.aRfl._auto_1)
  (h1 : autoParam ((assignEach [tg] X.env).map (·.2) = [assign tg X.env]) L2.aRfl._auto_1) : YS X (.Assign [tg] e pos) (uAsg ue g) := by
 obtain ⟨t, q, r⟩ := he; obtain ⟨t', q', r'⟩ := hg
 exact ⟨_, Z.asg q q' hs hw h1, rs_asg r r'⟩
noncomputable def uRet (ue : UE) : US := fun E μ => ue μ E.rt
theorem ret (he : YE X e ue) : YS X (.Return (some e) pos) (uRet ue) := by
 obtain ⟨t, q, r⟩ := he
 exact ⟨_, Z.ret q, fun F D E ad B σ H μ hK l q h => r F ad B σ H μ _ _ hK l q fun v H' r1 μ' v1 f k1 q1 => h.rt ad B σ H' μ' v r1 v1 q1⟩
noncomputable def uDrop (ue : UE) : US := fun E μ => ue μ fun _ μ' => E.nx μ'
theorem expr (he : YE X e ue) (hs : autoParam (Z.noc e = true) L2.aRfl._auto_1) : YS X (.Expr e pos) (uDrop ue) := by
 obtain ⟨t, q, r⟩ := he
 exact ⟨_, Z.expr q hs, fun F D E ad B σ H μ hK l q h => r F ad B σ H μ _ _ hK l q fun v H' r1 μ' v1 f k1 q1 => h.nx ad B σ H' μ' v1.rl f.d q1⟩
noncomputable def uIfS (c : UT) (u w : US) : US := fun E μ => c μ fun b μ' => if b = true then u E μ' else w E μ'
theorem ifS (hc : YT X c uA) (ha : YB X xs u) (hb : YB X ys w) : YS X (.If c xs ys pos) (uIfS uA u w) := by
 obtain ⟨tc, qc, rc⟩ := hc; obtain ⟨t, q, r⟩ := ha; obtain ⟨t', q', r'⟩ := hb
 refine ⟨_, Z.ifS qc q q', fun F D E ad B σ H μ hK l q h => rc F ad B σ H μ _ _ hK l q fun b H' μ' l1 f k1 q1 => ?_⟩
 cases b with
 | true => rw [if_pos rfl] at q1 ⊢; exact r F D E ad B σ H' μ' hK l1 q1 (h.step f)
 | false => rw [if_neg Bool.false_ne_true] at q1 ⊢; exact r' F D E ad B σ H' μ' hK l1 q1 (h.step f)
end
end Y
end L2
set_option linter.all false
set_option maxRecDepth 100000
set_option maxHeartbeats 4000000
namespace L2
open PySem PySem.Spec PyProof.Rows
structure ItOk (K : PySem.W.Frag) (J : It) (Src : Hp → AP' → Prop) (items : List T) : Prop where
 step : ∀ H B i t, (∀ b, B b → ∃ o, H b = some o) → Src H B → items[i]? = some t → J.go i H ∧ ∀ x H2, J.yld i H x H2 → Same H H2 ∧ Rep K H2 B x t
 stop : ∀ H B, Src H B → J.stop items.length H
theorem ItOk.imp {K : PySem.W.Frag} {J : It} {Src Src' : Hp → AP' → Prop} {items : List T} (h : ItOk K J Src items) (f : ∀ H B, Src' H B → Src H B) : ItOk K J Src' items := ⟨fun H B i t hb s e => h.step H B i t hb (f H B s) e, fun H B s => h.stop H B (f H B s)⟩
noncomputable def SrcOk (F : Fx) (ad : Nat → Addr) (Src : Hp → AP' → Prop) : Option (Nat × List T) → Prop
 | none => ∀ B1 H1 B2 H2, Fr B1 H1 B2 H2 → Src H1 B1 → Src H2 B2
 | some (j, ls) => (∀ B' σ' H' μ', Rl F ad B' σ' H' μ' → cont μ' (.br j) = some (.lst ls) → Src H' B') ∧ ∀ B' H', Rep F.K H' B' (.ref (ad j)) (.lst ls) → Src H' B'
noncomputable abbrev UI := Mu → (List T → Option (Nat × List T) → Mu → Prop) → Prop
noncomputable def RI (K : PySem.W.Frag) (wi : TI) (ui : UI) : Prop := ∀ (F : Fx) (ad : Nat → Addr) (B : AP') (σ : St) (H : Hp) (μ : Mu) (R : It → Hp → Prop) (Rt : List T → Option (Nat × List T) → Mu → Prop), F.K = K → Rl F ad B σ H μ → ui μ Rt →
 (∀ J H' μ' items gd Src, Rl F ad B σ H' μ' → Fr B H B H' → Kp μ μ' → ItOk K J Src items → Src H' B → SrcOk F ad Src gd → (∀ j ls, gd = some (j, ls) → cont μ' (.br j) = some (.lst ls)) → Rt items gd μ' → R J H') → wi σ H R
structure YI (X : Cx) (tg it : Expr) (u : UI) : Prop where
 ex : ∃ t, QI X tg it t ∧ RI X.K t u
theorem itl_ok {K : PySem.W.Frag} {a : Addr} {ts : List T} : ItOk K (Itl K a) (fun H B => ∃ vs, SqL K H a vs ∧ Reps K H B vs ts) ts :=
 ⟨fun H B i t hb ⟨vs, h, r⟩ e => by
  obtain ⟨v, e1, rv⟩ := r.get e
  refine ⟨⟨vs, v, h, e1⟩, fun x H2 y => ?_⟩
  obtain ⟨rfl, y⟩ := y
  have := y vs h
  rw [e1] at this
  cases this
  exact ⟨Same.refl _, rv⟩, fun H B ⟨vs, h, r⟩ => ⟨vs, h, by rw [r.length]; exact Nat.le_refl _⟩⟩
theorem itt_ok {K : PySem.W.Frag} {a : Addr} {ts : List T} : ItOk K (Itt K a) (fun H B => ∃ vs, SqT K H a vs ∧ Reps K H B vs ts) ts :=
 ⟨fun H B i t hb ⟨vs, h, r⟩ e => by
  obtain ⟨v, e1, rv⟩ := r.get e
  refine ⟨⟨vs, v, h, e1⟩, fun x H2 y => ?_⟩
  obtain ⟨rfl, y⟩ := y
  have := y vs h
  rw [e1] at this
  cases this
  exact ⟨Same.refl _, rv⟩, fun H B ⟨vs, h, r⟩ => ⟨vs, h, by rw [r.length]; exact Nat.le_refl _⟩⟩
theorem itr_ok {K : PySem.W.Frag} {lo : Int} {n : Nat} : ItOk K (Itr lo n) (fun _ _ => True) ((List.range n).map fun k => T.int (lo + (k : Nat))) :=
 ⟨fun H B i t hb _ e => by
  rw [List.getElem?_map] at e
  have hi : i < n := by
   rcases Nat.lt_or_ge i n with z | z
   ·exact z
   ·rw [List.getElem?_eq_none_iff.mpr (by simpa using z)] at e; cases e
  rw [List.getElem?_range hi] at e
  refine ⟨hi, fun x H2 y => ?_⟩
  obtain ⟨rfl, rfl⟩ := y
  cases e
  exact ⟨Same.refl _, .int _⟩, fun H B _ => by simp [Itr]⟩
noncomputable def iSeq (K : PySem.W.Frag) (tl : TE) : TI := fun σ H R => tl σ H fun x H1 => ∃ a, x = V.ref a ∧ (((∃ xs, SqL K H1 a xs) ∧ R (Itl K a) H1) ∨ ((∃ xs, SqT K H1 a xs) ∧ R (Itt K a) H1))
theorem pi_seq {X : Cx} {tg l : Expr} {tl : TE} (hl : PE X l tl) : PI X tg l (iSeq X.K tl) := by
 intro pins s σ H R I h
 refine thn (hl pins s σ H _ I h) fun v s1 ⟨x, H1, I1, r1, q1⟩ => ?_
 obtain ⟨a, rfl, q⟩ := q1
 cases r1
 rcases q with ⟨⟨xs, hq⟩, q⟩ | ⟨⟨xs, hq⟩, q⟩
 ·obtain ⟨its, rv, p, hz⟩ := I1.list hq
  refine wpAny_pyIter_list p.isList ?_
  refine ⟨s1.heap.objs.size, [s1.heap.objs.size], _, _, H1, rfl, I1.kept (t' := s1.toks) fun b o e => Heap.get?_push_of_some _ e, turn_list a _, ⟨_, Heap.get?_push_size _ rfl, rfl, rfl⟩, fun b hb => ?_, q⟩
  have e : b = s1.heap.objs.size := by simpa using hb
  subst e
  exact I1.fpOk (Nat.le_refl _) (I1.hok.fresh (Nat.le_refl _))
 ·obtain ⟨its, rv, p, hz⟩ := I1.tuple hq
  refine wpAny_pyIter_tuple (show s1.heap.IsTuple a its.toArray from p) ?_
  refine ⟨s1.heap.objs.size, [s1.heap.objs.size], _, _, H1, rfl, I1.kept (t' := s1.toks) fun b o e => Heap.get?_push_of_some _ e, turn_tuple a _, ⟨_, Heap.get?_push_size _ rfl, rfl, rfl⟩, fun b hb => ?_, q⟩
  have e : b = s1.heap.objs.size := by simpa using hb
  subst e
  exact I1.fpOk (Nat.le_refl _) (I1.hok.fresh (Nat.le_refl _))
namespace Y
section
variable {X : Cx} {a b c e o tg it : Expr} {es rest : List Expr} {ua ub uc ue uo : UE} {uA uB : UT} {us : UA} {pos pos' p p2 p3 : Pos} {x : Str} {st : Stmt} {sts xs ys : List Stmt} {u w : US}
noncomputable def uIt (ue : UE) : UI := fun μ Rt => ue μ fun r μ' => match r with
 | .br j => (match cont μ' (.br j) with | some (.lst ts) => Rt ts (some (j, ts)) μ' | _ => False)
 | .tr (.lst ts) => Rt ts none μ'
 | .fr (.lst ts) => Rt ts none μ'
 | .tr (.tup ts) => Rt ts none μ'
 | .tr (.rol ts) => Rt ts none μ'
 | .tr (.ktp ts) => Rt ts none μ'
 | _ => False
theorem any (K : PySem.W.Frag) (hK : X.K = K) (he : YE X e ue) : YI X tg e (uIt ue) := by
 obtain ⟨t, q, r⟩ := he
 subst hK
 refine ⟨_, ⟨pi_seq q.h⟩, fun F ad B σ H μ R Rt hF l q k => r F ad B σ H μ _ _ hF l q fun v H' r1 μ' v1 f k1 q1 => ?_⟩
 have hv := v1.hv
 have l1 := v1.rl
 have go : ∀ (ts : List T) (a : Addr) (t : T), v = .ref a → Rep F.K H' B (.ref a) t → (t = .lst ts ∨ t = .rol ts) → Rt ts none μ' → ∃ a, v = V.ref a ∧ (((∃ xs, SqL X.K H' a xs) ∧ R (Itl X.K a) H') ∨ ((∃ xs, SqT X.K H' a xs) ∧ R (Itt X.K a) H')) := fun ts a t ev rp et q => by
  have sr : ∀ H B, Rep F.K H B (.ref a) t → ∃ vs, SqL X.K H a vs ∧ Reps X.K H B vs ts := fun H B h => by
   rw [hF] at h
   rcases et with rfl | rfl
   ·cases h with | lst n h r => exact ⟨_, SqL.of h, r⟩
   ·cases h with | rol h r => exact ⟨_, h.sq, r⟩
  obtain ⟨vs, h1, _⟩ := sr _ _ rp
  exact ⟨a, ev, .inl ⟨⟨vs, h1⟩, k _ H' μ' ts none (fun H B => Rep F.K H B (.ref a) t) l1 f.d k1 (itl_ok.imp sr) rp (fun B1 H1 B2 H2 f h => h.fr f) (fun j ls z => by cases z) q⟩⟩
 have goT : ∀ (ts : List T) (a : Addr) (t : T), v = .ref a → Rep F.K H' B (.ref a) t → (t = .tup ts ∨ t = .ktp ts) → Rt ts none μ' → ∃ a, v = V.ref a ∧ (((∃ xs, SqL X.K H' a xs) ∧ R (Itl X.K a) H') ∨ ((∃ xs, SqT X.K H' a xs) ∧ R (Itt X.K a) H')) := fun ts a t ev rp et q => by
  have sr : ∀ H B, Rep F.K H B (.ref a) t → ∃ vs, SqT X.K H a vs ∧ Reps X.K H B vs ts := fun H B h => by
   rw [hF] at h
   rcases et with rfl | rfl
   ·cases h with | tup n h r => exact ⟨_, SqT.of h, r⟩
   ·cases h with | ktp h r => exact ⟨_, .inr h, r⟩
  obtain ⟨vs, h1, _⟩ := sr _ _ rp
  exact ⟨a, ev, .inr ⟨⟨vs, h1⟩, k _ H' μ' ts none (fun H B => Rep F.K H B (.ref a) t) l1 f.d k1 (itt_ok.imp sr) rp (fun B1 H1 B2 H2 f h => h.fr f) (fun j ls z => by cases z) q⟩⟩
 split at q1
 ·rename_i j
  split at q1
  ·rename_i ts e
   obtain ⟨ev, s, c, e1, e2⟩ := hv
   have src : ∀ B' σ' H' μ', Rl F ad B' σ' H' μ' → cont μ' (.br j) = some (.lst ts) → ∃ vs, SqL X.K H' (ad j) vs ∧ Reps X.K H' B' vs ts := fun B' σ' H' μ' l e => by
    have e3 : (μ'[j]?).bind Sl.box = some (.lst ts) := e
    cases q : μ'[j]? with
    | none => rw [q] at e3; cases e3
    | some s' =>
     rw [q] at e3
     have bx := ((l.slot j s' q).boxed (c := .lst ts) e3).2.2.1
     rw [hF] at bx
     obtain ⟨vs, h1, h2⟩ := bx
     exact ⟨vs, SqL.of h1, h2⟩
   obtain ⟨vs, h1, h2⟩ := src _ _ _ _ l1 e
   refine ⟨ad j, ev, .inl ⟨⟨vs, h1⟩, k _ H' μ' ts (some (j, ts)) _ l1 f.d k1 itl_ok ⟨vs, h1, h2⟩ ⟨src, fun B' H' h => ?_⟩ (fun j' ls z => by cases z; exact e) q1⟩⟩
   rw [hF] at h
   cases h with | lst n h r => exact ⟨_, SqL.of h, r⟩
  ·exact q1.elim
 ·have rp : Rep F.K H' B v _ := hv
  cases rp with | lst n h r => exact go _ _ _ rfl (.lst n h r) (.inl rfl) q1
 ·have rp : Rep F.K H' B v _ := hv
  cases rp with | lst n h r => exact go _ _ _ rfl (.lst n h r) (.inl rfl) q1
 ·have rp : Rep F.K H' B v _ := hv
  cases rp with | tup n h r => exact goT _ _ _ rfl (.tup n h r) (.inl rfl) q1
 ·have rp : Rep F.K H' B v _ := hv
  cases rp with | rol h r => exact go _ _ _ rfl (.rol h r) (.inr rfl) q1
 ·have rp : Rep F.K H' B v _ := hv
  cases rp with | ktp h r => exact goT _ _ _ rfl (.ktp h r) (.inr rfl) q1
 ·exact q1.elim
noncomputable def iR1 (us : UA) : UI := fun μ Rt => us μ fun rs μ' => match rs with
 | [.tr (.int j)] => -(2 ^ 62) ≤ j ∧ j < 2 ^ 62 ∧ Rt ((List.range j.toNat).map fun k => T.int (0 + (k : Nat))) none μ'
 | _ => False
theorem rng1 (hg : Gl X "range") (hm : X.mg "range" = none) (ha : YA X [a] us) (h : autoParam (nst a = true) L2.aRfl._auto_1) : YI X tg (.Call (.Name "range" p) [a] [] pos) (iR1 us) := by
 obtain ⟨t, q, r⟩ := ha
 refine ⟨_, Z.rng1 hg hm q h, fun F ad B σ H μ R Rt hF l q k => r F ad B σ H μ _ _ hF l q fun vs H' rs μ' l1 ps f k1 q1 => ?_⟩
 split at q1
 ·cases ps with
  | cons h1 ps => cases ps; cases rep_of h1; exact ⟨_, rfl, q1.1, q1.2.1, k _ H' μ' _ none _ l1 f k1 itr_ok trivial (fun _ _ _ _ _ _ => trivial) (fun j ls z => by cases z) q1.2.2⟩
 ·exact q1.elim
noncomputable def uForG (g : UG) (body : US) (E : Ed) : List T → Mu → Prop
 | [], μ => E.nx μ
 | t :: ts, μ => g (.tr t) μ fun μ1 => body { E with nx := uForG g body E ts, ct := uForG g body E ts, bk := E.nx } μ1
noncomputable def uFor (ui : UI) (g : UG) (body : US) : US := fun E μ => ui μ fun items gd μ' => match gd with
 | none => uForG g body E items μ'
 | some (j, _) => (match μ'[j]? with
  | some (.bx c) => uForG g body E items (μ'.set j (.tr c))
  | _ => False)
theorem for_core {K : PySem.W.Frag} {g : TG} {ug : UG} {tb : TS} {body : US} {F : Fx} {D : Ends} {E : Ed} {J : It} {Src : Hp → AP' → Prop} {items : List T} {B0 : AP'} {H0 : Hp} (hF : F.K = K) (hg : RG K g ug) (hb : RS K tb body) (it : ItOk K J Src items)
  (pe : ∀ B1 H1 B2 H2, Fr B1 H1 B2 H2 → Src H1 B1 → Src H2 B2) (hE : EdOk F B0 H0 D E) {ad : Nat → Addr} {B : AP'} {σ : St} {H : Hp} {μ : Mu} (l : Rl F ad B σ H μ) (f : Fr B0 H0 B H) (sr : Src H B) (q : uForG ug body E items μ) :
  ∃ W : Nat → Nat → St → Hp → Prop, (∃ m, W 0 m σ H) ∧ ∀ i m σ H, W i m σ H →
   (J.stop i H ∧ D.nx σ H) ∨ (J.go i H ∧ ∃ N : St → Hp → Prop, (∀ σ' H', N σ' H' → ∃ m', m' < m ∧ W (i + 1) m' σ' H') ∧ ∀ x H', J.yld i H x H' → g x σ H' fun σ2 H2 => tb { D with nx := N, ct := N, bk := D.nx } σ2 H2) := by
 refine ⟨fun i m σ H => m = items.length - i ∧ i ≤ items.length ∧ ∃ ad B μ, Rl F ad B σ H μ ∧ Fr B0 H0 B H ∧ Src H B ∧ uForG ug body E (items.drop i) μ, ⟨items.length, by simp, Nat.zero_le _, ad, B, μ, l, f, sr, q⟩, ?_⟩
 rintro i m σ H ⟨rfl, hi, ad, B, μ, l, f, sr, q⟩
 by_cases hlt : i < items.length
 ·have ei : items[i]? = some items[i] := List.getElem?_eq_getElem hlt
  rw [List.drop_eq_getElem_cons hlt] at q
  obtain ⟨go, yl⟩ := it.step H B i _ l.trk sr ei
  refine .inr ⟨go, fun σ' H' => ∃ ad' B' μ', Rl F ad' B' σ' H' μ' ∧ Fr B0 H0 B' H' ∧ Src H' B' ∧ uForG ug body E (items.drop (i + 1)) μ', fun σ' H' h => ⟨items.length - (i + 1), by omega, rfl, hlt, h⟩, fun x H2 y => ?_⟩
  obtain ⟨sm, rp⟩ := yl x H2 y
  refine hg F ad B σ H2 μ x (.tr _) B H2 _ _ hF ⟨l.same sm, by show Rep F.K H2 B x _; rw [hF]; exact rp⟩ Fr.refl q fun ad3 B3 σ3 H3 μ3 l3 f3 q3 => ?_
  have f03 : Fr B0 H0 B3 H3 := (f.trans (Fr.same sm)).trans f3
  have s3 : Src H3 B3 := pe _ _ _ _ ((Fr.same sm).trans f3) sr
  exact hb F _ _ ad3 B3 σ3 H3 μ3 hF l3 q3 ⟨fun ad' B' σ' H' μ' l' f' q' => ⟨ad', B', μ', l', f03.trans f', pe _ _ _ _ f' s3, q'⟩, hE.rt, fun ad' B' σ' H' μ' l' f' q' => hE.nx ad' B' σ' H' μ' l' (f03.trans f') q', fun ad' B' σ' H' μ' l' f' q' => ⟨ad', B', μ', l', f03.trans f', pe _ _ _ _ f' s3, q'⟩⟩
 ·have e : i = items.length := by omega
  subst e
  rw [List.drop_length] at q
  exact .inl ⟨it.stop H B sr, hE.nx ad B σ H μ l f q⟩
theorem forS {ui : UI} {g : UG} (hp : PassesOwn (model X.prog X.w) X.A X.env X.xe) (hc : X.calm = true) (hi : YI X tg it ui) (hg : YG X tg g) (hb : YB X xs u) (hs : ∀ x, foldedSetIterable it X.env x = pure x := by intro _; rfl) : YS X (.For tg it xs [] pos) (uFor ui g u) := by
 obtain ⟨ti, qi, ri⟩ := hi; obtain ⟨tg', qg, rg⟩ := hg; obtain ⟨t, q, r⟩ := hb
 refine ⟨_, Z.forS hp hc qi qg q hs, fun F D E ad B σ H μ hF l q h => ri F ad B σ H μ _ _ hF l q fun J H' μ' items gd Src l1 f1 k1 it sr so gok q1 => ?_⟩
 split at q1
 ·exact for_core hF rg r it so h l1 f1 sr q1
 ·rename_i j ls
  split at q1
  ·rename_i c ej
   have bx := l1.slot j _ ej
   have hc : ¬ F.Bc (ad j) := fun z => by
    obtain ⟨o, e⟩ := F.bh _ z
    rw [bx.2.2.1] at e; cases e
   obtain ⟨l2, rp⟩ := l1.freeze ej hc
   have ec : c = .lst ls := by
    have := gok j ls rfl
    have e2 : (μ'[j]?).bind Sl.box = some (.lst ls) := this
    rw [ej] at e2
    exact Option.some.inj e2
   subst ec
   exact for_core (Src := fun H B => Rep F.K H B (.ref (ad j)) (.lst ls)) hF rg r (it.imp fun H B h => so.2 B H h) (fun B1 H1 B2 H2 f h => h.fr f) h l2 (f1.trans (Fr.less fun b z => z.1)) rp q1
  ·exact q1.elim
end
end Y
end L2
set_option linter.all false
set_option maxRecDepth 100000
set_option maxHeartbeats 4000000
namespace L2
open PySem PySem.Spec PyProof.Rows
noncomputable def teOf (K : PySem.W.Frag) (u : UE) : TE := fun σ H Q => ∃ (F : Fx) (ad : Nat → Addr) (B : AP') (μ : Mu) (Qt : R → Mu → Prop), F.K = K ∧ Rl F ad B σ H μ ∧ u μ Qt ∧ ∀ v H' r μ', Vr F ad B σ H' μ' v r → Fr B H (Bv B v r) H' → Kp μ μ' → Qt r μ' → Q v H'
noncomputable def ttOf (K : PySem.W.Frag) (u : UT) : TT := fun σ H Q => ∃ (F : Fx) (ad : Nat → Addr) (B : AP') (μ : Mu) (Qt : Bool → Mu → Prop), F.K = K ∧ Rl F ad B σ H μ ∧ u μ Qt ∧ ∀ b H' μ', Rl F ad B σ H' μ' → Fr B H B H' → Kp μ μ' → Qt b μ' → Q b H'
theorem YE.can {X : Cx} {e : Expr} {u : UE} (h : YE X e u) : QE X e (teOf X.K u) := ⟨fun pins s σ H Q I hh => by
 obtain ⟨F, ad, B, μ, Qt, hF, l, q, k⟩ := hh
 obtain ⟨t, qe, r⟩ := h
 exact qe.h pins s σ H Q I (r F ad B σ H μ Q Qt hF l q k)⟩
theorem YTs.can {X : Cx} {e : List Expr} {u : UT} (h : YTs X e u) : QTs X e (ttOf X.K u) := ⟨fun pins s σ H Q I hh => by
 obtain ⟨F, ad, B, μ, Qt, hF, l, q, k⟩ := hh
 obtain ⟨t, qe, r⟩ := h
 exact qe.h pins s σ H Q I (r F ad B σ H μ Q Qt hF l q k)⟩
theorem re_of {K : PySem.W.Frag} {u : UE} : RE K (teOf K u) u := fun F ad B σ H μ Q Qt hF l q k => ⟨F, ad, B, μ, Qt, hF, l, q, k⟩
theorem rt_of {K : PySem.W.Frag} {u : UT} : RT K (ttOf K u) u := fun F ad B σ H μ Q Qt hF l q k => ⟨F, ad, B, μ, Qt, hF, l, q, k⟩
noncomputable def Fx.sh (F : Fx) : Fx := { F with P := fun i => match i with | 0 => none | i + 1 => F.P i }
noncomputable def adS (ad : Nat → Addr) : Nat → Addr := fun i => match i with | 0 => 0 | i + 1 => ad i
theorem Rl.push {F : Fx} {ad : Nat → Addr} {B : AP'} {σ : St} {H : Hp} {μ : Mu} {x : V} {t : T} (l : Rl F ad B σ H μ) (h : Rep F.K H B x t) : Rl F.sh (adS ad) B (some x :: σ) H (.tr t :: μ) := by
 refine ⟨congrArg (· + 1) l.len, fun i s e => ?_, fun i j s u c d e1 e2 b1 b2 q => ?_, fun i a p => ?_, l.bc, l.trk, fun b o e n => l.old b o e fun i z => n (i + 1) z, fun a ws ga => ?_⟩
 ·cases i with
  | zero =>
   have e' : Sl.tr t = s := by simpa using e
   subst e'
   exact ⟨x, rfl, h⟩
  | succ i => exact l.slot i s (by simpa using e)
 ·cases i with
  | zero =>
   have e' : Sl.tr t = s := by simpa using e1
   subst e'; cases b1
  | succ i => cases j with
   | zero =>
    have e' : Sl.tr t = u := by simpa using e2
    subst e'; cases b2
   | succ j => exact congrArg (· + 1) (l.inj i j s u c d (by simpa using e1) (by simpa using e2) b1 b2 q)
 ·cases i with
  | zero => cases p
  | succ i => obtain ⟨⟨c, e⟩, z⟩ := l.par i a p; exact ⟨⟨c, by simpa using e⟩, z⟩
 ·obtain ⟨g1, g2, g3⟩ := l.gh a ws ga
  refine ⟨g1, g2, fun i s c e b => ?_⟩
  cases i with
  | zero =>
   have e' : Sl.tr t = s := by simpa using e
   subst e'; cases b
  | succ i => exact g3 i s c (by simpa using e) b
theorem Rl.popS {F : Fx} {ad : Nat → Addr} {B : AP'} {σ : St} {H : Hp} {μ : Mu} {y : Option V} (l : Rl F.sh (adS ad) B (y :: σ) H μ) : Rl F ad B σ H μ.tail := by
 have get : ∀ i, μ.tail[i]? = μ[i + 1]? := fun i => by cases μ <;> simp
 refine ⟨?_, fun i s e => ?_, fun i j s u c d e1 e2 b1 b2 q => ?_, fun i a p => ?_, l.bc, l.trk, fun b o e n => l.old b o e fun i z => ?_, fun a ws ga => let ⟨g1, g2, g3⟩ := l.gh a ws ga; ⟨g1, g2, fun i s c e b => g3 (i + 1) s c (by rw [← get]; exact e) b⟩⟩
 ·have := l.len
  rw [List.length_tail, this]; rfl
 ·rw [get] at e; exact l.slot (i + 1) s e
 ·rw [get] at e1 e2
  exact Nat.succ.inj (l.inj (i + 1) (j + 1) s u c d e1 e2 b1 b2 q)
 ·obtain ⟨⟨c, e⟩, z⟩ := l.par (i + 1) a p
  exact ⟨⟨c, by rw [get]; exact e⟩, z⟩
 ·cases i with
  | zero => cases z
  | succ i => exact n i z
theorem Kp.tail {μ μ' : Mu} {s : Sl} (k : Kp (s :: μ) μ') : Kp μ μ'.tail := fun i => by
 have := k (i + 1)
 rw [List.getElem?_cons_succ] at this
 rw [this]
 cases μ' <;> simp
noncomputable def Fx.g (F : Fx) (D : Addr) (ys : List V) : Fx := { F with G := fun b => if b = D then some ys else F.G b }
section
variable {F : Fx} {ad : Nat → Addr} {B : AP'} {σ : St} {H : Hp} {μ : Mu} {D : Addr} {ys zs : List V}
theorem Rl.addG (l : Rl F ad B σ H μ) (h : H D = some (.lst ys)) (hb : B D) (n : ∀ (i : Nat) (s : Sl) (c : T), μ[i]? = some s → s.box = some c → ad i ≠ D) : Rl (F.g D ys) ad B σ H μ := by
 refine ⟨l.len, l.slot, l.inj, l.par, l.bc, l.trk, l.old, fun a vs e => ?_⟩
 have e' : (if a = D then some ys else F.G a) = some vs := e
 by_cases z : a = D
 ·rw [if_pos z] at e'
  cases e'
  subst z
  exact ⟨h, hb, n⟩
 ·rw [if_neg z] at e'
  exact l.gh a vs e'
theorem Rl.atG (l : Rl (F.g D ys) ad B σ H μ) : H D = some (.lst ys) ∧ B D ∧ ∀ (i : Nat) (s : Sl) (c : T), μ[i]? = some s → s.box = some c → ad i ≠ D := l.gh D ys (show (if D = D then some ys else F.G D) = some ys from if_pos rfl)
theorem Rl.dropG (l : Rl (F.g D ys) ad B σ H μ) (hg : F.G D = none) : Rl F ad B σ H μ := by
 refine ⟨l.len, l.slot, l.inj, l.par, l.bc, l.trk, l.old, fun a vs e => l.gh a vs ?_⟩
 show (if a = D then some ys else F.G a) = some vs
 rw [if_neg (by rintro rfl; rw [hg] at e; cases e)]
 exact e
theorem Rl.setG (l : Rl (F.g D ys) ad B σ H μ) (h0 : F.H0 D = none) : Rl (F.g D zs) ad B σ (upd H D (.lst zs)) μ := by
 obtain ⟨g1, g2, g3⟩ := l.atG
 have f : Fr B H B (upd H D (.lst zs)) := Fr.set g2
 refine ⟨l.len, fun i s e => ?_, l.inj, l.par, l.bc, fun b z => ?_, fun b o e n => ?_, fun a vs e => ?_⟩
 ·have k := l.slot i s e
  unfold SlOk at k ⊢
  split at k
  ·trivial
  ·obtain ⟨v, e1, r1⟩ := k; exact ⟨v, e1, r1.fr f⟩
  ·obtain ⟨e1, b, z0, p, x⟩ := k; exact ⟨e1, b, z0, p, x.of (upd_ne (g3 i _ _ e rfl)) f⟩
  ·obtain ⟨e1, b, p, x⟩ := k; exact ⟨e1, b, p, x.of (upd_ne (g3 i _ _ e rfl)) f⟩
 ·by_cases z' : b = D
  ·subst z'; exact ⟨_, upd_same⟩
  ·rw [upd_ne z']; exact l.trk b z
 ·rw [upd_ne (by rintro rfl; have e' : F.H0 _ = some o := e; rw [h0] at e'; cases e')]
  exact l.old b o e n
 ·have e' : (if a = D then some zs else F.G a) = some vs := e
  by_cases z : a = D
  ·rw [if_pos z] at e'
   cases e'
   subst z
   exact ⟨upd_same, g2, g3⟩
  ·rw [if_neg z] at e'
   obtain ⟨a1, a2, a3⟩ := l.gh a vs (show (if a = D then some ys else F.G a) = some vs by rw [if_neg z]; exact e')
   exact ⟨by rw [upd_ne z]; exact a1, a2, a3⟩
end
namespace Y
noncomputable def gOk : Option (Nat × List T) → Mu → Prop
 | none, _ => True
 | some (j, ls), μ => cont μ (.br j) = some (.lst ls)
noncomputable def uCmp (gd : Option (Nat × List T)) (own : T → Mu → Option Mu) (dr : Mu → Mu) (ut : UT) (ue : UE) (Q : R → Mu → Prop) : List T → List T → Mu → Prop
 | [], acc, μ => gOk gd μ ∧ Q (.fr (.lst acc)) μ
 | t :: r, acc, μ => gOk gd μ ∧ acc.length < sizeLine ∧ (match own t μ with
  | none => False
  | some μ1 => ut μ1 fun b μ2 => if b = true then ue μ2 fun rr μ3 => (match rr.d with
    | .tr t' => uCmp gd own dr ut ue Q r (acc ++ [t']) (dr μ3)
    | _ => False) else uCmp gd own dr ut ue Q r acc (dr μ2))
noncomputable def own1 (t : T) (μ : Mu) : Option Mu := some (.tr t :: μ)
noncomputable def own2 (t : T) (μ : Mu) : Option Mu := match t with
 | .tup [a, b] => some (.tr a :: .tr b :: μ)
 | _ => none
noncomputable def dr1 (μ : Mu) : Mu := μ.tail
noncomputable def dr2 (μ : Mu) : Mu := μ.tail.tail
noncomputable def uComp (own : T → Mu → Option Mu) (dr : Mu → Mu) (ui : UI) (ut : UT) (ue : UE) : UE := fun μ Q => ui μ fun items gd μ' => uCmp gd own dr ut ue Q items [] μ'
structure OwnOk (K : PySem.W.Frag) (k : Nat) (g : TG) (own : T → Mu → Option Mu) (dr : Mu → Mu) (shF : Fx → Fx) (shA : (Nat → Addr) → Nat → Addr) : Prop where
 fK : ∀ F, (shF F).K = F.K
 step : ∀ (F : Fx) (ad : Nat → Addr) (B : AP') (σ : St) (H : Hp) (μ μ1 : Mu) (x : V) (t : T) (σ' : St) (Q : St → Hp → Prop), F.K = K → Rl F ad B σ H μ → Rep F.K H B x t → own t μ = some μ1 → σ'.length = k → (∀ σ1, σ1.length = k → Rl (shF F) (shA ad) B (σ1 ++ σ) H μ1 → Q (σ1 ++ σ) H) → g x (σ' ++ σ) H Q
 back : ∀ (F : Fx) (ad : Nat → Addr) (B : AP') (σ σ1 : St) (H : Hp) (μ : Mu), σ1.length = k → Rl (shF F) (shA ad) B (σ1 ++ σ) H μ → Rl F ad B σ H (dr μ)
 kp : ∀ (μ μ1 μ2 : Mu) (t : T), own t μ = some μ1 → Kp μ1 μ2 → Kp μ (dr μ2)
theorem len1 {α : Type _} {l : List α} (h : l.length = 1) : ∃ y, l = [y] := by
 rcases l with _ | ⟨a, _ | ⟨b, t⟩⟩
 ·cases h
 ·exact ⟨a, rfl⟩
 ·cases h
theorem len2 {α : Type _} {l : List α} (h : l.length = 2) : ∃ y z, l = [y, z] := by
 rcases l with _ | ⟨a, t⟩
 ·cases h
 ·obtain ⟨b, rfl⟩ := len1 (Nat.succ.inj h)
  exact ⟨a, b, rfl⟩
theorem len3 {α : Type _} {l : List α} (h : l.length = 3) : ∃ x y z, l = [x, y, z] := by
 rcases l with _ | ⟨a, t⟩
 ·cases h
 ·obtain ⟨b, c, rfl⟩ := len2 (Nat.succ.inj h)
  exact ⟨a, b, c, rfl⟩
theorem len4 {α : Type _} {l : List α} (h : l.length = 4) : ∃ w x y z, l = [w, x, y, z] := by
 rcases l with _ | ⟨a, t⟩
 ·cases h
 ·obtain ⟨b, c, d, rfl⟩ := len3 (Nat.succ.inj h)
  exact ⟨a, b, c, d, rfl⟩
theorem own1_ok {K : PySem.W.Frag} : OwnOk K 1 (gName 0) own1 dr1 Fx.sh adS where
 fK := fun F => rfl
 step := fun F ad B σ H μ μ1 x t σ' Q hF l r e hk h => by
  cases e
  obtain ⟨y, rfl⟩ : ∃ y, σ' = [y] := by
   exact len1 hk
  exact h [some x] rfl (l.push r)
 back := fun F ad B σ σ1 H μ hk l => by
  obtain ⟨y, rfl⟩ : ∃ y, σ1 = [y] := by
   exact len1 hk
  exact l.popS
 kp := fun μ μ1 μ2 t e k => by cases e; exact k.tail
theorem re_comp {K : PySem.W.Frag} {k : Nat} {g : TG} {own : T → Mu → Option Mu} {dr : Mu → Mu} {shF : Fx → Fx} {shA : (Nat → Addr) → Nat → Addr} {wi : TI} {ui : UI} {tc : TT} {ut : UT} {te : TE} {ue : UE} (O : OwnOk K k g own dr shF shA) (hi : RI K wi ui) (ht : RT K tc ut) (he : RE K te ue) : RE K (tComp wi k g tc te) (uComp own dr ui ut ue) := by
 intro F ad B σ H μ Q Qt hF l q kk
 refine hi F ad B σ H μ _ _ hF l q fun J H1 μ1 items gd Src l1 f1 k1 it sr so gk q1 => ?_
 intro D hD
 have hnB := l1.notB hD
 have h0D := l1.new0 hD
 have hGD : F.G D = none := by
  cases q : F.G D with
  | none => rfl
  | some vs => have := (l1.gh D vs q).1; rw [hD] at this; cases this
 have nbx : ∀ (μ' : Mu), Kp μ μ' → ∀ (i : Nat) (s : Sl) (c : T), μ'[i]? = some s → s.box = some c → B (ad i) := fun μ' k i s c e b => by
  obtain ⟨s', c', e', b'⟩ := k.symm.fwd i s c e b
  exact l.own i s' c' e' b'
 refine ⟨fun i m ys σ' H' => m = items.length - i ∧ i ≤ items.length ∧ ∃ σ1 μ' acc, σ' = σ1 ++ σ ∧ σ1.length = k ∧ Rl (F.g D ys) ad (more B D) σ H' μ' ∧ Reps F.K H' (more B D) ys acc ∧ Fr B H (more B D) H' ∧ Kp μ μ' ∧ (gd = none → Src H' (more B D)) ∧ uCmp gd own dr ut ue Qt (items.drop i) acc μ',
  ⟨items.length, by simp, Nat.zero_le _, _, μ1, [], rfl, List.length_replicate, (l1.new hD).addG upd_same (.inl rfl) (fun i s c e b z => hnB (z ▸ nbx μ1 k1 i s c e b)), .nil, f1.trans (Fr.more hD), k1, fun z => ?_, q1⟩, ?_⟩
 ·subst z; exact so _ _ _ _ (Fr.more hD) sr
 rintro i m ys σ' H' ⟨rfl, hi', σ1, μ', acc, rfl, hk, l2, ra, f2, k2, s2, q2⟩
 have hD2 := l2.atG.1
 refine ⟨hD2, ?_⟩
 have src : gOk gd μ' → Src H' (more B D) := fun hg => by
  cases gd with
  | none => exact s2 rfl
  | some jl => obtain ⟨j, ls⟩ := jl; exact so.1 _ _ _ _ (l2.dropG hGD) hg
 by_cases hlt : i < items.length
 ·have ei : items[i]? = some items[i] := List.getElem?_eq_getElem hlt
  rw [List.drop_eq_getElem_cons hlt] at q2
  obtain ⟨hg, hz, q2⟩ := q2
  have sr2 := src hg
  obtain ⟨go, yl⟩ := it.step H' (more B D) i _ l2.trk sr2 ei
  refine .inr ⟨go, by rw [ra.length]; exact hz, fun x H3 y => ?_⟩
  obtain ⟨sm, rp⟩ := yl x H3 y
  split at q2
  ·exact q2.elim
  ·rename_i μ3 eo
   have f3 : Fr (more B D) H' (more B D) H3 := Fr.same sm
   have hF2 : (F.g D ys).K = K := hF
   refine O.step (F.g D ys) ad (more B D) σ H3 μ' μ3 x _ σ1 _ hF2 (l2.same sm) (by rw [hF2]; exact rp) eo hk fun σ4 hk4 l4 => ?_
   refine ht (shF (F.g D ys)) (shA ad) (more B D) _ H3 μ3 _ _ ((O.fK _).trans hF2) l4 q2 fun b H5 μ5 l5 f5 k5 q5 => ?_
   cases b with
   | true =>
    rw [if_pos rfl] at q5 ⊢
    refine he (shF (F.g D ys)) (shA ad) (more B D) _ H5 μ5 _ _ ((O.fK _).trans hF2) l5 q5 fun v H6 r6 μ6 v6 f6 k6 q6 => ?_
    have l6 := O.back (F.g D ys) ad (more B D) σ σ4 H6 μ6 hk4 v6.rl
    refine ⟨l6.atG.1, ?_⟩
    have hv := v6.hv
    split at q6
    ·rename_i t' e6
     rw [e6] at hv
     have rv : Rep F.K H6 (more B D) v t' := by have := hv; unfold Hv at this; rw [O.fK] at this; exact this
     have fa := (f3.trans f5).trans f6.d
     have fs : Fr (more B D) H6 (more B D) (upd H6 D (.lst (ys ++ [v]))) := Fr.set (.inl rfl)
     refine ⟨items.length - (i + 1), by omega, rfl, hlt, σ4, dr μ6, acc ++ [t'], rfl, hk4, l6.setG h0D, ((ra.fr fa).append (.cons rv .nil)).fr fs, (f2.trans fa).trans fs, k2.trans (O.kp μ' μ3 μ6 _ eo (k5.trans k6)), fun z => ?_, q6⟩
     subst z
     exact so _ _ _ _ (fa.trans fs) (s2 rfl)
    ·exact q6.elim
   | false =>
    rw [if_neg Bool.false_ne_true] at q5 ⊢
    have l6 := O.back (F.g D ys) ad (more B D) σ σ4 H5 μ5 hk4 l5
    have fa := f3.trans f5
    refine ⟨items.length - (i + 1), by omega, rfl, hlt, σ4, dr μ5, acc, rfl, hk4, l6, ra.fr fa, f2.trans fa, k2.trans (O.kp μ' μ3 μ5 _ eo k5), fun z => ?_, q5⟩
    subst z
    exact so _ _ _ _ fa (s2 rfl)
 ·have e : i = items.length := by omega
  subst e
  rw [List.drop_length] at q2
  obtain ⟨hg, q2⟩ := q2
  have l3 := l2.dropG hGD
  refine .inl ⟨it.stop H' (more B D) (src hg), kk (.ref D) H' (.fr (.lst acc)) μ' ⟨l3.less (fun b z => .inr z) l.bc (nbx μ' k2) (fun a vs ga => ?_), D, rfl, hnB, h0D, l3, ys, hD2, ra⟩ f2 k2 q2⟩
  exact l.gB a vs ga
section
variable {X : Cx} {elt tg iter : Expr} {ifs : List Expr} {ue : UE} {ut : UT} {ui : UI} {pos pos' p2 : Pos} {x : Str} {osc scope : Scope} {ON own N : List Str}
theorem comp1 (S : CompScope osc ON scope own N) (hosc : X.env.scope = osc) (hON : X.N = ON) (hc : X.calm = true) (ho : own.length = 1) (hi : YI X tg iter ui)
  (hg : ∀ C s H fp, QG (cxComp X scope N C s H fp) tg (gName 0)) (ht : ∀ C s H fp, YTs (cxComp X scope N C s H fp) ifs ut) (he : ∀ C s H fp, YE (cxComp X scope N C s H fp) elt ue) (hs : ∀ x, foldedSetIterable iter X.env x = pure x := by intro _; rfl) :
  YE X (.ListComp elt [⟨tg, iter, ifs, 0⟩] scope pos) (uComp own1 dr1 ui ut ue) := by
 obtain ⟨t, q, r⟩ := hi
 have h := Z.comp (pos := pos) (tc := ttOf X.K ut) (te := teOf X.K ue) S hosc hON hc q hg (fun C s H fp => (ht C s H fp).can) (fun C s H fp => (he C s H fp).can) hs
 rw [ho] at h
 exact ⟨_, h, re_comp own1_ok r rt_of re_of⟩
theorem setC1 {j : Nat} (hN : X.N.Nodup) (hj : X.N[j]? = some x) (hx : Loc X.env.scope x) (S : CompScope osc ON scope own N) (hosc : X.env.scope = osc) (hON : X.N = ON) (hc : X.calm = true) (ho : own.length = 1) (hi : YI X tg iter ui)
  (hg : ∀ C s H fp, QG (cxComp X scope N C s H fp) tg (gName 0)) (ht : ∀ C s H fp, YTs (cxComp X scope N C s H fp) ifs ut) (he : ∀ C s H fp, YE (cxComp X scope N C s H fp) elt ue)
  (hsw : autoParam (swapsWith (.ListComp elt [⟨tg, iter, ifs, 0⟩] scope p2) (some (.Name x pos')) pos.line X.env = pure true) L2.aRfl._auto_1)
  (hf : autoParam (X.fn x = true ∨ X.env.scope.names.lookup x = some .local) L2.aLoc._auto_1) (hs : ∀ x, foldedSetIterable iter X.env x = pure x := by intro _; rfl) :
  YS X (.Assign [.Name x pos'] (.ListComp elt [⟨tg, iter, ifs, 0⟩] scope p2) pos) (uAsg (uComp own1 dr1 ui ut ue) (gN j)) := by
 obtain ⟨t, q, r⟩ := hi
 have h := Z.setC (tc := ttOf X.K ut) (te := teOf X.K ue) hN hj hx S hosc hON hc q hg (fun C s H fp => (ht C s H fp).can) (fun C s H fp => (he C s H fp).can) hsw hf hs
 rw [ho] at h
 exact ⟨_, h, rs_asg (re_comp own1_ok r rt_of re_of) rg_name⟩
theorem ts0 : YTs X [] (fun μ Q => Q true μ) := ⟨_, Z.ts0, fun F ad B σ H μ Q Qt hK l q k => k true H μ l Fr.refl (Kp.refl μ) q⟩
end
end Y
end L2
set_option linter.all false
set_option maxRecDepth 100000
set_option maxHeartbeats 4000000
namespace L2
open PySem PySem.Spec PyProof.Rows
noncomputable def putS (μ : Mu) (j : Nat) (c : T) : Mu := match μ[j]? with
 | some s => μ.set j (s.put c)
 | none => μ
namespace Y
section
variable {X : Cx} {a b c e o tg it i : Expr} {es rest : List Expr} {ua ub uc ue uo ui : UE} {uA uB : UT} {us : UA} {pos pos' p p2 p3 apos : Pos} {x : Str} {st : Stmt} {sts xs ys : List Stmt} {u w : US}
noncomputable def gS (uo ui : UE) : UG := fun r μ Q => match r.d with
 | .tr t => uo μ fun ro μ1 => ui μ1 fun ri μ2 => (match ro, ri with
  | .br j, .tr (.int k) => (match (μ2[j]?).bind Sl.box with
   | some (.lst ts) => (match ixN ts.length k with
    | some n => Q (putS μ2 j (.lst (ts.set n t)))
    | none => False)
   | _ => False)
  | _, _ => False)
 | _ => False
theorem gsub (ho : YE X o uo) (hi : YE X i ui)
  (ha : ∀ v, assign (.Subscript o i pos) X.env v = (do
   let ov ← holding [v] (eval o X.env)
   let iv ← holding [v, ov] (eval i X.env)
   standAt pos
   holding [v, ov, iv] (setItem ov iv v)
   release [v, ov, iv] []) := by intro _; rfl) : YG X (.Subscript o i pos) (gS uo ui) := by
 obtain ⟨t, q, r⟩ := ho; obtain ⟨t', q', r'⟩ := hi
 refine ⟨_, Z.gsub q q' ha, fun F ad B σ H μ v rr B0 H0 Q Qt hF h f q k => ?_⟩
 unfold gS at q
 have f0 : Fr B0 H0 B H := fun b o h n => ⟨(f b o h n).1, fun z => (f b o h n).2 (by cases rr <;> first | exact z | (cases v <;> first | exact z | exact .inr z))⟩
 have hv := h.hv
 split at q
 ·rename_i t0 e0
  rw [e0] at hv
  refine r F ad B σ H μ _ _ hF h.rl q fun ov H1 r1 μ1 v1 f1 k1 q1 => r' F ad B σ H1 μ1 _ _ hF v1.rl q1 fun iv H2 r2 μ2 v2 f2 k2 q2 => ?_
  split at q2
  ·rename_i j kk
   have rp := v2.2
   cases rp
   obtain ⟨rfl, _⟩ := (v1.hv.fr f2.d k2)
   split at q2
   ·rename_i ts e
    split at q2
    ·rename_i n en
     cases ej : μ2[j]? with
     | none => rw [ej] at e; cases e
     | some s =>
      rw [ej] at e
      have e' : s.box = some (.lst ts) := e
      have l2 := v2.rl
      obtain ⟨vs, hl, rs⟩ := ((l2.slot j s ej).boxed e').2.2.1
      have rv : Rep F.K H2 B v t0 := (show Rep F.K H B v t0 from hv).fr (f1.d.trans f2.d)
      have l3 := l2.put ej e' (rs.set n rv)
      show uSet (.ref (ad j)) (.int kk) v H2 _
      rw [Ap.setRef, hl]
      simp only
      rw [rs.length, en]
      simp only
      unfold putS at q2
      rw [ej] at q2
      exact k ad B σ _ _ l3 ((f0.trans (f1.d.trans f2.d)).trans (Fr.set ((l2.slot j s ej).boxed e').2.1)) q2
    ·exact q2.elim
   ·exact q2.elim
  ·exact q2.elim
 ·exact q.elim
noncomputable abbrev UM := Nat → List R → Mu → (R → Mu → Prop) → Prop
noncomputable def isL : Option T → Prop → Prop
 | some (.lst _), p => p
 | _, _ => False
noncomputable def uMe (um : UM) (uo : UE) (us : UA) : UE := fun μ Q => uo μ fun ro μ1 => match ro with
 | .br j => isL ((μ1[j]?).bind Sl.box) (us μ1 fun rs μ2 => um j rs μ2 Q)
 | _ => False
noncomputable def RM (K : PySem.W.Frag) (r : V → List V → Hp → VK → Prop) (um : UM) : Prop := ∀ (F : Fx) (ad : Nat → Addr) (B : AP') (σ : St) (H : Hp) (μ : Mu) (Q : VK) (Qt : R → Mu → Prop) (j : Nat) (s : Sl) (c : T) (xs : List V) (rs : List R), F.K = K → Rl F ad B σ H μ → μ[j]? = some s → s.box = some c → Paired (Hv F ad B H μ) xs rs → um j rs μ Qt →
 (∀ v H' r μ', Vr F ad B σ H' μ' v r → Fr B H (Bv B v r) H' → Kp μ μ' → Qt r μ' → Q v H') → r (.ref (ad j)) xs H Q
theorem bm (K : PySem.W.Frag) (hK : X.K = K) {name : Str} {id : String} {r : V → List V → Hp → VK → Prop} {um : UM} (slot : Slot "list" name id) (hty : typeOf (.builtin id) = pure (.type "method_descriptor")) (hm : MtR X id r) (hr : RM X.K r um) (ho : YE X o uo) (ha : YA X (e :: es) us)
  (hbase : autoParam (attributeBase o name X.env (eval o X.env) = eval o X.env) L2.aRfl._auto_1) (hline : autoParam ((apos.endLine == pos.line) = true) L2.aRfl._auto_1) (h : autoParam ((e :: es).all nst = true) L2.aRfl._auto_1) (hl : autoParam ((e :: es).length < 30) L2.aDec._auto_1) : YE X (.Call (.Attribute o name apos) (e :: es) [] pos) (uMe um uo us) := by
 obtain ⟨t, q, rr⟩ := ho; obtain ⟨t', q', r'⟩ := ha
 refine ⟨_, Z.bm K hK PySem.F.plainAttrs_list slot hty hm q q' hbase hline h hl, fun F ad B σ H μ Q Qt hF l q k => rr F ad B σ H μ _ _ hF l q fun v H1 r1 μ1 v1 f1 k1 q1 => ?_⟩
 split at q1
 ·rename_i j
  obtain ⟨l1, rfl, s, c, e1, e2⟩ := v1
  rw [e1] at q1
  have q1' : isL s.box _ := q1
  rw [e2] at q1'
  rcases ((l1.slot j s e1).boxed e2).2.2.1.is with ⟨ts, vs, rfl, hl, _⟩ | ⟨_, _, _, rfl, _⟩
  case inr => exact q1'.elim
  have q1 := (show us μ1 _ from q1')
  refine ⟨.inl ⟨rfl, vs, SqL.of hl⟩, ?_⟩
  refine r' F ad B σ H1 μ1 _ _ hF l1 q1 fun xs H2 rs μ2 l2 ps f2 k2 q2 => ?_
  obtain ⟨s', c', e3, e4⟩ := k2.fwd j s _ e1 e2
  exact hr F ad B σ H2 μ2 _ _ j s' c' xs rs hF l2 e3 e4 ps q2 fun v H3 r3 μ3 v3 f3 k3 q3 => k v H3 r3 μ3 v3 ((f1.d.trans f2).trans f3) ((k1.trans k2).trans k3) q3
 ·exact q1.elim
noncomputable def uAppend : UM := fun j rs μ Q => match rs with
 | [.tr t] => (match (μ[j]?).bind Sl.box with
  | some (.lst ts) => ts.length < sizeLine ∧ Q (.tr .non) (putS μ j (.lst (ts ++ [t])))
  | _ => False)
 | _ => False
theorem rm_append {K : PySem.W.Frag} : RM K rAppend uAppend := by
 intro F ad B σ H μ Q Qt j s c xs rs hF l e b ps q k
 unfold uAppend at q
 split at q
 ·cases ps with
  | cons h ps =>
   cases ps
   rw [e] at q
   have q' : (match s.box with | some (.lst ts) => ts.length < sizeLine ∧ Qt (.tr .non) (putS μ j (.lst (ts ++ [_]))) | _ => False) := q
   rw [b] at q'
   rcases ((l.slot j s e).boxed b).2.2.1.is with ⟨ts, vs, rfl, hl, rv⟩ | ⟨_, _, _, rfl, _⟩
   case inr => exact q'.elim
   simp only at q'
   refine ⟨_, _, _, rfl, rfl, hl, by rw [rv.length]; exact q'.1, ?_⟩
   have l3 := l.put e b (rv.append (.cons (rep_of h) .nil))
   have q2 := q'.2
   unfold putS at q2
   rw [e] at q2
   exact k _ _ (.tr .non) _ (Vr.flat l3 .non) (Fr.set ((l.slot j s e).boxed b).2.1) (Kp.set e b (Sl.put_box b)) q2
 ·exact q.elim
end
end Y
noncomputable def bxA : List Bool → List V → List Addr
 | true :: md, .ref a :: vs => a :: bxA md vs
 | _ :: md, _ :: vs => bxA md vs
 | _, _ => []
noncomputable def AgOk (K : PySem.W.Frag) (H : Hp) (B : AP') : List Bool → List V → List T → Prop
 | [], [], [] => True
 | false :: md, v :: vs, t :: ts => Rep K H B v t ∧ AgOk K H B md vs ts
 | true :: md, v :: vs, t :: ts => (∃ a, v = .ref a ∧ B a ∧ Bx K H B a t) ∧ AgOk K H B md vs ts
 | _, _, _ => False
noncomputable abbrev TSp := List T → (R → List T → Prop) → Prop
noncomputable def ResOk (K : PySem.W.Frag) (H H' : Hp) (B : AP') (as : List Addr) (v : V) (outs : List T) : R → Prop
 | .tr t => Rep K H' B v t ∧ Paired (Bx K H' B) as outs
 | .fr c => ∃ a, v = .ref a ∧ H a = none ∧ ¬ B a ∧ Bx K H' (more B a) a c ∧ Paired (Bx K H' (more B a)) as outs
 | .br _ => False
noncomputable def spT (K : PySem.W.Frag) (md : List Bool) (tsp : TSp) : Sp := fun vs H Q _ => ∃ (B : AP') (args : List T) (Qt : R → List T → Prop), AgOk K H B md vs args ∧ (∀ b, B b → ∃ o, H b = some o) ∧ (bxA md vs).Nodup ∧ tsp args Qt ∧
 ∀ v H' r outs, Qt r outs → (∀ b o, H b = some o → b ∉ bxA md vs → H' b = some o) → ResOk K H H' B (bxA md vs) v outs r → Q v H'
theorem AgOk.len {K : PySem.W.Frag} {H : Hp} {B : AP'} : ∀ {md : List Bool} {vs : List V} {ts : List T}, AgOk K H B md vs ts → vs.length = md.length ∧ ts.length = md.length
 | [], [], [], _ => ⟨rfl, rfl⟩
 | false :: md, v :: vs, t :: ts, h => ⟨congrArg (· + 1) (AgOk.len h.2).1, congrArg (· + 1) (AgOk.len h.2).2⟩
 | true :: md, v :: vs, t :: ts, h => ⟨congrArg (· + 1) (AgOk.len h.2).1, congrArg (· + 1) (AgOk.len h.2).2⟩
theorem AgOk.get {K : PySem.W.Frag} {H : Hp} {B : AP'} : ∀ {md : List Bool} {vs : List V} {ts : List T} {i : Nat} {b : Bool}, AgOk K H B md vs ts → md[i]? = some b → ∃ v t, vs[i]? = some v ∧ ts[i]? = some t ∧ (if b = true then ∃ a, v = .ref a ∧ B a ∧ Bx K H B a t else Rep K H B v t)
 | [], [], [], i, b, _, e => by simp at e
 | c :: md, [], _, _, _, h, _ => by cases c <;> exact h.elim
 | c :: md, v :: vs, [], _, _, h, _ => by cases c <;> exact h.elim
 | c :: md, v :: vs, t :: ts, 0, b, h, e => by
  have e' : c = b := by simpa using e
  subst e'
  cases c with
  | false => exact ⟨v, t, rfl, rfl, by rw [if_neg Bool.false_ne_true]; exact h.1⟩
  | true => exact ⟨v, t, rfl, rfl, by rw [if_pos rfl]; exact h.1⟩
 | c :: md, v :: vs, t :: ts, i + 1, b, h, e => by
  have h2 : AgOk K H B md vs ts := by cases c <;> exact h.2
  obtain ⟨v', t', e1, e2, q⟩ := AgOk.get h2 (show md[i]? = some b by simpa using e)
  exact ⟨v', t', by simpa using e1, by simpa using e2, q⟩
theorem mem_bxA : ∀ {md : List Bool} {vs : List V} {i : Nat} {a : Addr}, md[i]? = some true → vs[i]? = some (.ref a) → a ∈ bxA md vs
 | [], _, _, _, e, _ => by simp at e
 | c :: md, [], _, _, _, e => by simp at e
 | c :: md, v :: vs, 0, a, e1, e2 => by
  have e1' : c = true := by simpa using e1
  have e2' : v = .ref a := by simpa using e2
  subst e1' e2'
  exact List.mem_cons_self
 | c :: md, v :: vs, i + 1, a, e1, e2 => by
  have := mem_bxA (md := md) (vs := vs) (i := i) (a := a) (by simpa using e1) (by simpa using e2)
  cases c with
  | false => exact this
  | true => cases v <;> first | exact List.mem_cons_of_mem _ this | exact this
theorem bxA_inj : ∀ {md : List Bool} {vs : List V} {i j : Nat} {a : Addr}, (bxA md vs).Nodup → md[i]? = some true → md[j]? = some true → vs[i]? = some (.ref a) → vs[j]? = some (.ref a) → i = j
 | [], _, _, _, _, _, e, _, _, _ => by simp at e
 | c :: md, [], _, _, _, _, _, _, e, _ => by simp at e
 | c :: md, v :: vs, i, j, a, nd, e1, e2, e3, e4 => by
  have tl : (bxA md vs).Nodup := by
   cases c with
   | false => exact nd
   | true => cases v <;> first | exact (List.nodup_cons.mp nd).2 | exact nd
  cases i with
  | zero =>
   have e1' : c = true := by simpa using e1
   have e3' : v = .ref a := by simpa using e3
   subst e1' e3'
   cases j with
   | zero => rfl
   | succ j => exact absurd (mem_bxA (md := md) (vs := vs) (i := j) (a := a) (by simpa using e2) (by simpa using e4)) (List.nodup_cons.mp nd).1
  | succ i => cases j with
   | zero =>
    have e1' : c = true := by simpa using e2
    have e3' : v = .ref a := by simpa using e4
    subst e1' e3'
    exact absurd (mem_bxA (md := md) (vs := vs) (i := i) (a := a) (by simpa using e1) (by simpa using e3)) (List.nodup_cons.mp nd).1
   | succ j => exact congrArg (· + 1) (bxA_inj tl (by simpa using e1) (by simpa using e2) (by simpa using e3) (by simpa using e4))
noncomputable def outsAt : List Bool → Nat → Mu → List T
 | [], _, _ => []
 | true :: md, i, μ => (match μ[i]? with
  | some (.pb c) => c :: outsAt md (i + 1) μ
  | _ => outsAt md (i + 1) μ)
 | false :: md, i, μ => outsAt md (i + 1) μ
theorem outs_of {P : Addr → T → Prop} {μ : Mu} : ∀ {md : List Bool} {vs : List V} {i : Nat}, vs.length = md.length → (∀ n, md[n]? = some true → ∃ a c, vs[n]? = some (.ref a) ∧ μ[i + n]? = some (.pb c) ∧ P a c) → Paired P (bxA md vs) (outsAt md i μ)
 := by
  intro md
  induction md with
  | nil =>
    intro vs i hl h
    cases vs with
    | nil => exact .nil
    | cons v vs => cases hl
  | cons b md ih =>
    intro vs i hl h
    cases vs with
    | nil => cases hl
    | cons v vs =>
      have rest := ih (vs := vs) (i := i + 1) (Nat.succ.inj hl) fun n e => by
        obtain ⟨a, c, e1, e2, p⟩ := h (n + 1) e
        exact ⟨a, c, e1, by rw [Nat.add_assoc, Nat.add_comm 1 n]; exact e2, p⟩
      cases b with
      | false => exact rest
      | true =>
        obtain ⟨a, c, e1, e2, p⟩ := h 0 rfl
        have e1' : v = .ref a := Option.some.inj e1
        subst e1'
        rw [Nat.add_zero] at e2
        show Paired P (a :: bxA md vs) (match μ[i]? with | some (.pb c) => c :: outsAt md (i + 1) μ | _ => outsAt md (i + 1) μ)
        rw [e2]
        exact .cons p rest
noncomputable def startM : List Bool → List T → Nat → Mu
 | b :: md, t :: ts, n => (if b = true then .pb t else .tr t) :: startM md ts (n - 1)
 | _, _, n => List.replicate n .un
noncomputable def edOf (md : List Bool) (Qt : R → List T → Prop) : Ed where
 nx := fun μ => Qt (.tr .non) (outsAt md 0 μ)
 rt := fun r μ => match r with
  | .tr t => Qt (.tr t) (outsAt md 0 μ)
  | .fr c => Qt (.fr c) (outsAt md 0 μ)
  | .br i => (match μ[i]? with
   | some (.bx c) => Qt (.fr c) (outsAt md 0 μ)
   | _ => False)
theorem startM_len : ∀ {md : List Bool} {ts : List T} {n : Nat}, ts.length = md.length → md.length ≤ n → (startM md ts n).length = n
 | [], [], n, _, _ => List.length_replicate
 | b :: md, t :: ts, n, h, hn => by
  cases n with
  | zero => simp at hn
  | succ n => exact congrArg (· + 1) (startM_len (by simpa using h) (by simpa using hn))
theorem startM_get : ∀ {md : List Bool} {ts : List T} {n i : Nat} {s : Sl}, (startM md ts n)[i]? = some s → s = .un ∨ ∃ b t, md[i]? = some b ∧ ts[i]? = some t ∧ s = (if b = true then .pb t else .tr t)
 | [], ts, n, i, s, e => by
  have e' : (List.replicate n Sl.un)[i]? = some s := by cases ts <;> exact e
  rw [List.getElem?_replicate] at e'
  split at e'
  ·exact .inl (Option.some.inj e').symm
  ·cases e'
 | b :: md, [], n, i, s, e => by
  have e' : (List.replicate n Sl.un)[i]? = some s := e
  rw [List.getElem?_replicate] at e'
  split at e'
  ·exact .inl (Option.some.inj e').symm
  ·cases e'
 | b :: md, t :: ts, n, 0, s, e => .inr ⟨b, t, rfl, rfl, by have e' : some (if b = true then Sl.pb t else .tr t) = some s := e; exact (Option.some.inj e').symm⟩
 | b :: md, t :: ts, n, i + 1, s, e => by
  rcases startM_get (md := md) (ts := ts) (n := n - 1) (i := i) (s := s) (by simpa [startM] using e) with h | ⟨b', t', h1, h2, h3⟩
  ·exact .inl h
  ·exact .inr ⟨b', t', by simpa using h1, by simpa using h2, h3⟩
theorem startM_of : ∀ {md : List Bool} {ts : List T} {n i : Nat} {b : Bool} {t : T}, md[i]? = some b → ts[i]? = some t → (startM md ts n)[i]? = some (if b = true then .pb t else .tr t)
 | [], _, _, _, _, _, e, _ => by simp at e
 | b :: md, [], _, _, _, _, _, e => by simp at e
 | b :: md, t :: ts, n, 0, b', t', e1, e2 => by
  have e1' : b = b' := by simpa using e1
  have e2' : t = t' := by simpa using e2
  subst e1' e2'
  rfl
 | b :: md, t :: ts, n, i + 1, b', t', e1, e2 => by
  have := startM_of (md := md) (ts := ts) (n := n - 1) (i := i) (b := b') (t := t') (by simpa using e1) (by simpa using e2)
  simpa [startM] using this
noncomputable def adOf (vs : List V) (i : Nat) : Addr := match vs[i]? with
 | some (.ref a) => a
 | _ => 0
noncomputable def pOf (md : List Bool) (vs : List V) (i : Nat) : Option Addr := match md[i]?, vs[i]? with
 | some true, some (.ref a) => some a
 | _, _ => none
theorem pOf_is {md : List Bool} {vs : List V} {i : Nat} {a : Addr} (h : pOf md vs i = some a) : md[i]? = some true ∧ vs[i]? = some (.ref a) := by
 unfold pOf at h
 split at h
 ·rename_i e1 e2; cases h; exact ⟨e1, e2⟩
 ·cases h
theorem pOf_of {md : List Bool} {vs : List V} {i : Nat} {a : Addr} (h1 : md[i]? = some true) (h2 : vs[i]? = some (.ref a)) : pOf md vs i = some a := by
 unfold pOf; rw [h1, h2]
noncomputable def fxOf (K : PySem.W.Frag) (H : Hp) (md : List Bool) (vs : List V) (B : AP') (bh : ∀ b, B b → ∃ o, H b = some o) : Fx := ⟨K, H, pOf md vs, B, bh, fun _ => none⟩
theorem rl_start {K : PySem.W.Frag} {H : Hp} {B : AP'} {md : List Bool} {vs : List V} {args : List T} {N : List Str} (ag : AgOk K H B md vs args) (bh : ∀ b, B b → ∃ o, H b = some o) (nd : (bxA md vs).Nodup) (hN : md.length ≤ N.length) :
  Rl (fxOf K H md vs B bh) (adOf vs) B (start N vs) H (startM md args N.length) := by
 obtain ⟨l1, l2⟩ := ag.len
 have sget : ∀ i v, vs[i]? = some v → (start N vs)[i]? = some (some v) := fun i v e => by
  have hi := (List.getElem?_eq_some_iff.mp e).1
  unfold start
  rw [List.getElem?_append_left (by simpa using hi), List.getElem?_map, e]; rfl
 refine ⟨?_, fun i s e => ?_, fun i j s u c d e1 e2 b1 b2 q => ?_, fun i a p => ?_, fun b z => z, bh, fun b o e n => e, fun a ws ga => by cases ga⟩
 ·rw [startM_len l2 hN]
  unfold start
  rw [List.length_append, List.length_map, List.length_replicate]
  omega
 ·rcases startM_get e with rfl | ⟨b, t, h1, h2, rfl⟩
  ·trivial
  ·obtain ⟨v, t', e1, e2, q⟩ := ag.get h1
   rw [h2] at e2
   cases e2
   cases b with
   | false =>
    rw [if_neg Bool.false_ne_true] at q
    rw [if_neg Bool.false_ne_true]
    exact ⟨v, sget i v e1, q⟩
   | true =>
    rw [if_pos rfl] at q
    rw [if_pos rfl]
    obtain ⟨a, rfl, hb, x⟩ := q
    have ea : adOf vs i = a := by unfold adOf; rw [e1]
    show _ ∧ _ ∧ _ ∧ _
    rw [ea]
    exact ⟨sget i _ e1, hb, pOf_of h1 e1, x⟩
 ·have one : ∀ {i : Nat} {s : Sl} {c : T}, (startM md args N.length)[i]? = some s → s.box = some c → md[i]? = some true ∧ ∃ a, vs[i]? = some (.ref a) ∧ adOf vs i = a := fun {i s c} e b => by
   rcases startM_get e with rfl | ⟨b', t, h1, h2, rfl⟩
   ·cases b
   ·cases b' with
    | false => rw [if_neg Bool.false_ne_true] at b; cases b
    | true =>
     obtain ⟨v, t', e1, e2, q⟩ := ag.get h1
     rw [if_pos rfl] at q
     obtain ⟨a, rfl, _⟩ := q
     exact ⟨h1, a, e1, by unfold adOf; rw [e1]⟩
  obtain ⟨m1, a1, v1, z1⟩ := one e1 b1
  obtain ⟨m2, a2, v2, z2⟩ := one e2 b2
  rw [z1, z2] at q
  subst q
  exact bxA_inj nd m1 m2 v1 v2
 ·obtain ⟨h1, h2⟩ := pOf_is p
  obtain ⟨v, t', e1, e2, q⟩ := ag.get h1
  refine ⟨⟨t', ?_⟩, by unfold adOf; rw [h2]⟩
  have := startM_of (n := N.length) h1 e2
  rw [if_pos rfl] at this
  exact this
theorem HasFn.okT {P : Program} {w : World} {K : PySem.W.Frag} {mg : Str → Option Value} {base : Heap} {x : Str} {st : Stmt} {N ps : List Str} {k : Nat} {tsp : TSp} (F : HasFn K mg x st ps) (S : FnScope N ps (defScope st)) (md : List Bool) (hm : md.length = ps.length) (hN : md.length ≤ N.length)
  (hbody : ∀ (args : List T) (Qt : R → List T → Prop), args.length = ps.length → tsp args Qt → ∀ (f : Addr) (cdv : Value) (A : Around) (outer : List Env) (s : Shared) (H : Hp) (E : XK), Room k (A.deeper (envOfC x (defScope st) s.heap.objs.size f cdv)) →
   ∃ us, YB (cxOf CX0 P w K mg base N x (defScope st) f cdv A outer s H E).nox (defBody st) us ∧ us (edOf md Qt) (startM md args N.length)) : CallOk P w K mg base CX0 (k + 1) x ps (spT K md tsp) := by
 refine F.okQ S (fun vs H Q E h => ?_) (fun f cdv A outer s H vs Q E hr h => ?_)
 ·obtain ⟨B, args, Qt, ag, _⟩ := h
  rw [ag.len.1, hm]
 ·obtain ⟨B, args, Qt, ag, bh, nd, ht, fin⟩ := h
  obtain ⟨us, ⟨t, q, r⟩, hu⟩ := hbody args Qt (by rw [ag.len.2, hm]) ht f cdv A outer s H E hr
  refine ⟨t, q, ?_⟩
  have l0 := rl_start (N := N) ag bh nd hN
  have outs : ∀ ad' B' σ' H' μ' (B2 : AP'), Rl (fxOf K H md vs B bh) ad' B' σ' H' μ' → (∀ b, B2 b → B' b) → Paired (Bx K H' B2) (bxA md vs) (outsAt md 0 μ') := fun ad' B' σ' H' μ' B2 l hB => by
   refine outs_of (ag.len.1) fun n e => ?_
   obtain ⟨v, t', e1, e2, q⟩ := ag.get e
   rw [if_pos rfl] at q
   obtain ⟨a, rfl, _⟩ := q
   obtain ⟨⟨c, hc⟩, ha⟩ := l.par n a (pOf_of e e1)
   have sl := l.slot n _ hc
   refine ⟨a, c, e1, by rw [Nat.zero_add]; exact hc, ?_⟩
   rw [← ha]
   exact (sl.2.2.2).of rfl (Fr.less hB)
  have keep : ∀ ad' B' σ' H' μ', Rl (fxOf K H md vs B bh) ad' B' σ' H' μ' → ∀ b o, H b = some o → b ∉ bxA md vs → H' b = some o := fun ad' B' σ' H' μ' l b o e n => l.old b o e fun i z => n (mem_bxA (pOf_is z).1 (pOf_is z).2)
  refine r (fxOf K H md vs B bh) _ _ (adOf vs) B (start N vs) H _ rfl l0 hu ⟨fun ad' B' σ' H' μ' l _ q => ?_, fun ad' B' σ' H' μ' v rr h q => ?_, fun _ _ _ _ _ _ _ z => z.elim, fun _ _ _ _ _ _ _ z => z.elim⟩
  ·exact fin .non H' (.tr .non) _ q (keep _ _ _ _ _ l) ⟨.non, outs _ _ _ _ _ _ l l.bc⟩
  ·cases rr with
   | tr t => exact fin v H' (.tr t) _ q (keep _ _ _ _ _ h.1) ⟨(show Rep K H' B' v t from h.2).fr (Fr.less h.1.bc), outs _ _ _ _ _ _ h.1 h.1.bc⟩
   | fr c =>
    obtain ⟨l, a, rfl, n, h0, l2, x⟩ := h
    have sub : ∀ b, more B a b → more B' a b := fun b z => z.imp id (l.bc b)
    exact fin _ H' (.fr c) _ q (keep _ _ _ _ _ l) ⟨a, rfl, h0, fun z => n (l.bc a z), x.of rfl (Fr.less sub), outs _ _ _ _ _ _ l2 sub⟩
   | br i =>
    have q' : (match μ'[i]? with | some (.bx c) => Qt (.fr c) (outsAt md 0 μ') | _ => False) := q
    obtain ⟨l, rfl, s', c', e1, e2⟩ := h
    split at q'
    ·rename_i c ec
     have sl := l.slot i _ ec
     have sub : ∀ b, more B (ad' i) b → B' b := fun b z => z.elim (fun z => by rw [z]; exact sl.2.1) (l.bc b)
     refine fin _ H' (.fr c) _ q' (keep _ _ _ _ _ l) ⟨ad' i, rfl, sl.2.2.1, fun z => ?_, (sl.2.2.2.2).of rfl (Fr.less sub), outs _ _ _ _ _ _ l sub⟩
     obtain ⟨o, e⟩ := bh _ z
     have : H (ad' i) = none := sl.2.2.1
     rw [this] at e; cases e
    ·exact q'.elim
end L2
set_option linter.all false
set_option maxRecDepth 100000
set_option maxHeartbeats 4000000
namespace L2
open PySem PySem.Spec PyProof.Rows
noncomputable def agT (μ : Mu) : List Bool → List R → Option (List T)
 | [], [] => some []
 | false :: md, r :: rs => (match cont μ r, agT μ md rs with
  | some t, some ts => some (t :: ts)
  | _, _ => none)
 | true :: md, .br j :: rs => (match cont μ (.br j), agT μ md rs with
  | some t, some ts => some (t :: ts)
  | _, _ => none)
 | _, _ => none
noncomputable def bxS : List Bool → List R → List Nat
 | true :: md, .br j :: rs => j :: bxS md rs
 | _ :: md, _ :: rs => bxS md rs
 | _, _ => []
noncomputable def roS : List Bool → List R → List Nat
 | false :: md, .br j :: rs => j :: roS md rs
 | _ :: md, _ :: rs => roS md rs
 | _, _ => []
noncomputable def flatC : T → Bool
 | .lst ts => ts.all flatT
 | .dic _ ts => ts.all flatT
 | t => flatT t
noncomputable def flatR : R → Bool
 | .tr t => flatT t
 | .fr c => flatC c
 | .br _ => false
noncomputable def putAll : List Nat → List T → Mu → Mu
 | j :: js, c :: cs, μ => putAll js cs (putS μ j c)
 | _, _, μ => μ
theorem putS_ne {μ : Mu} {i j : Nat} {c : T} (h : i ≠ j) : (putS μ j c)[i]? = μ[i]? := by
 unfold putS
 split
 ·rw [List.getElem?_set_ne (Ne.symm h)]
 ·rfl
theorem putS_eq {μ : Mu} {j : Nat} {c : T} {s : Sl} (e : μ[j]? = some s) : (putS μ j c)[j]? = some (s.put c) := by
 unfold putS
 rw [e]
 exact List.getElem?_set_self (List.getElem?_eq_some_iff.mp e).1
theorem putS_len {μ : Mu} {j : Nat} {c : T} : (putS μ j c).length = μ.length := by
 unfold putS
 split
 ·exact List.length_set
 ·rfl
theorem putAll_len : ∀ {js : List Nat} {cs : List T} {μ : Mu}, (putAll js cs μ).length = μ.length
 | [], _, _ => rfl
 | _ :: _, [], _ => rfl
 | j :: js, c :: cs, μ => (putAll_len (js := js)).trans putS_len
theorem putAll_ne : ∀ {js : List Nat} {cs : List T} {μ : Mu} {i : Nat}, i ∉ js → (putAll js cs μ)[i]? = μ[i]?
 | [], _, _, _, _ => rfl
 | _ :: _, [], _, _, _ => rfl
 | j :: js, c :: cs, μ, i, h => (putAll_ne (js := js) (fun z => h (List.mem_cons_of_mem _ z))).trans (putS_ne fun z => h (z ▸ List.mem_cons_self))
theorem putAll_mem {P : Addr → T → Prop} {ad : Nat → Addr} : ∀ {js : List Nat} {cs : List T} {μ : Mu} {i : Nat} {s : Sl}, js.Nodup → Paired P (js.map ad) cs → i ∈ js → μ[i]? = some s → ∃ c, (putAll js cs μ)[i]? = some (s.put c) ∧ P (ad i) c
 | [], _, _, _, _, _, _, h, _ => by cases h
 | j :: js, c :: cs, μ, i, s, nd, .cons p ps, h, e => by
  rw [List.nodup_cons] at nd
  by_cases z : i = j
  ·subst z
   refine ⟨c, ?_, p⟩
   show (putAll js cs (putS μ i c))[i]? = _
   rw [putAll_ne nd.1]
   exact putS_eq e
  ·rcases List.mem_cons.mp h with z' | z'
   ·exact absurd z' z
   ·exact putAll_mem (js := js) nd.2 ps z' (by rw [putS_ne z]; exact e)
theorem Rl.call {F : Fx} {ad : Nat → Addr} {B B2 : AP'} {σ : St} {H H' : Hp} {μ : Mu} {js : List Nat} {outs : List T} (l : Rl F ad B σ H μ) (hb : ∀ j ∈ js, ∃ (s : Sl) (c : T), μ[j]? = some s ∧ s.box = some c) (nd : js.Nodup)
  (keep : ∀ b o, H b = some o → b ∉ js.map ad → H' b = some o) (sB : ∀ b, B b → B2 b) (nB : ∀ b o, H b = some o → ¬ B b → ¬ B2 b) (tB : ∀ b, B2 b → ¬ B b → ∃ o, H' b = some o) (ps : Paired (Bx F.K H' B2) (js.map ad) outs) :
  Rl F ad B2 σ H' (putAll js outs μ) ∧ Kp μ (putAll js outs μ) ∧ Fr B H B2 H' := by
 have inB : ∀ b ∈ js.map ad, B b := fun b hb' => by
  obtain ⟨j, hj, rfl⟩ := List.mem_map.mp hb'
  obtain ⟨s, c, e, q⟩ := hb j hj
  exact l.own j s c e q
 have f : Fr B H B2 H' := fun b o e n => ⟨keep b o e fun z => n (inB b z), nB b o e n⟩
 have cases' : ∀ i s, (putAll js outs μ)[i]? = some s → (i ∉ js ∧ μ[i]? = some s) ∨ (i ∈ js ∧ ∃ s0 c0 c, μ[i]? = some s0 ∧ s0.box = some c0 ∧ s = s0.put c ∧ Bx F.K H' B2 (ad i) c) := fun i s e => by
  by_cases z : i ∈ js
  ·obtain ⟨s0, c0, e0, q0⟩ := hb i z
   obtain ⟨c, e1, p⟩ := putAll_mem nd ps z e0
   rw [e1] at e
   exact .inr ⟨z, s0, c0, c, e0, q0, (Option.some.inj e).symm, p⟩
  ·rw [putAll_ne z] at e
   exact .inl ⟨z, e⟩
 have boxOld : ∀ (i : Nat) (s : Sl) (c : T), (putAll js outs μ)[i]? = some s → s.box = some c → ∃ (s0 : Sl) (c0 : T), μ[i]? = some s0 ∧ s0.box = some c0 := fun i s c e b => by
  rcases cases' i s e with ⟨_, e'⟩ | ⟨_, s0, c0, _, e0, q0, _⟩
  ·exact ⟨s, c, e', b⟩
  ·exact ⟨s0, c0, e0, q0⟩
 have ne : ∀ (i : Nat) (s : Sl) (c : T), i ∉ js → μ[i]? = some s → s.box = some c → ad i ∉ js.map ad := fun i s c z e b hm => by
  obtain ⟨j, hj, q⟩ := List.mem_map.mp hm
  obtain ⟨s0, c0, e0, q0⟩ := hb j hj
  exact z (l.inj i j s s0 c c0 e e0 b q0 q.symm ▸ hj)
 refine ⟨⟨by rw [putAll_len]; exact l.len, fun i s e => ?_, fun i j s u c d e1 e2 b1 b2 q => ?_, fun i a p => ?_, fun b z => sB b (l.bc b z), fun b z => ?_, fun b o e n => ?_, fun a ws ga => ?_⟩, fun i => ?_, f⟩
 ·rcases cases' i s e with ⟨z, e'⟩ | ⟨z, s0, c0, c, e0, q0, rfl, x⟩
  ·have k := l.slot i s e'
   unfold SlOk at k ⊢
   split at k
   ·trivial
   ·obtain ⟨v, e1, r1⟩ := k; exact ⟨v, e1, r1.fr f⟩
   ·obtain ⟨e1, b, z0, p, x⟩ := k
    obtain ⟨o, eo⟩ := x.trk
    exact ⟨e1, sB _ b, z0, p, x.of ((keep _ o eo (ne i _ _ z e' rfl)).trans eo.symm) f⟩
   ·obtain ⟨e1, b, p, x⟩ := k
    obtain ⟨o, eo⟩ := x.trk
    exact ⟨e1, sB _ b, p, x.of ((keep _ o eo (ne i _ _ z e' rfl)).trans eo.symm) f⟩
  ·have k := l.slot i s0 e0
   cases s0 with
   | un => cases q0
   | tr t => cases q0
   | bx d => exact ⟨k.1, sB _ k.2.1, k.2.2.1, k.2.2.2.1, x⟩
   | pb d => exact ⟨k.1, sB _ k.2.1, k.2.2.1, x⟩
 ·obtain ⟨s1, c1, g1, g2⟩ := boxOld i s c e1 b1
  obtain ⟨s2, c2, g3, g4⟩ := boxOld j u d e2 b2
  exact l.inj i j s1 s2 c1 c2 g1 g3 g2 g4 q
 ·obtain ⟨⟨c, e⟩, ha⟩ := l.par i a p
  refine ⟨?_, ha⟩
  by_cases z : i ∈ js
  ·obtain ⟨c', e1, _⟩ := putAll_mem nd ps z e
   exact ⟨c', e1⟩
  ·exact ⟨c, by rw [putAll_ne z]; exact e⟩
 ·by_cases zb : B b
  ·obtain ⟨o, e⟩ := l.trk b zb
   by_cases z2 : b ∈ js.map ad
   ·obtain ⟨j, hj, rfl⟩ := List.mem_map.mp z2
    obtain ⟨s0, c0, e0, q0⟩ := hb j hj
    obtain ⟨c, _, x⟩ := putAll_mem nd ps hj e0
    exact x.trk
   ·exact ⟨o, keep b o e z2⟩
  ·exact tB b z zb
 ·have e2 := l.old b o e n
  refine keep b o e2 fun hm => ?_
  obtain ⟨j, hj, rfl⟩ := List.mem_map.mp hm
  obtain ⟨s0, c0, e0, q0⟩ := hb j hj
  rcases ((l.slot j s0 e0).boxed q0).2.2.2 with z | z
  ·exact n j z
  ·rw [z] at e; cases e
 ·obtain ⟨g1, g2, g3⟩ := l.gh a ws ga
  refine ⟨keep a _ g1 fun hm => ?_, sB a g2, fun i s c e b => ?_⟩
  ·obtain ⟨j, hj, q⟩ := List.mem_map.mp hm
   obtain ⟨s0, c0, e0, q0⟩ := hb j hj
   exact g3 j s0 c0 e0 q0 q
  ·obtain ⟨s0, c0, e0, q0⟩ := boxOld i s c e b
   exact g3 i s0 c0 e0 q0
 ·by_cases z : i ∈ js
  ·obtain ⟨s0, c0, e0, q0⟩ := hb i z
   obtain ⟨c, e1, _⟩ := putAll_mem nd ps z e0
   rw [e0, e1]
   show (s0.box).isSome = ((s0.put c).box).isSome
   rw [q0, Sl.put_box q0]; rfl
  ·rw [putAll_ne z]
theorem ag_of {F : Fx} {ad : Nat → Addr} {B : AP'} {σ : St} {H : Hp} {μ : Mu} (l : Rl F ad B σ H μ) (ro : List Nat) : ∀ {md : List Bool} {xs : List V} {rs : List R} {args : List T}, Paired (Hv F ad B H μ) xs rs → agT μ md rs = some args → (∀ j ∈ roS md rs, j ∈ ro) → (∀ j ∈ bxS md rs, j ∉ ro) →
  (∀ j ∈ ro, ∃ (s : Sl) (c : T), μ[j]? = some s ∧ s.box = some c) →
  AgOk F.K H (fun b => B b ∧ ∀ j ∈ ro, b ≠ ad j) md xs args ∧ bxA md xs = (bxS md rs).map ad ∧ ∀ j ∈ bxS md rs, ∃ (s : Sl) (c : T), μ[j]? = some s ∧ s.box = some c := by
 intro md
 induction md with
 | nil =>
  intro xs rs args p e _ _ _
  cases p with
  | nil => cases e; exact ⟨trivial, rfl, fun j h => by cases h⟩
  | cons h p => cases e
 | cons bb md ih =>
  intro xs rs args pp e h1 h2 h3
  cases pp with
  | nil => cases bb <;> cases e
  | cons h p =>
   rename_i x r xs2 rs
   cases bb with
   | false =>
    unfold agT at e
    split at e
    ·rename_i t ts e1 e2
     cases e
     have sub : ∀ j ∈ roS md rs, j ∈ ro := fun j hj => h1 j (by cases r <;> first | exact hj | exact List.mem_cons_of_mem _ hj)
     obtain ⟨g1, g2, g3⟩ := ih p e2 sub h2 h3
     refine ⟨⟨?_, g1⟩, ?_, g3⟩
     ·cases r with
      | tr t' =>
       have e1' : t' = t := Option.some.inj e1
       subst e1'
       exact (show Rep F.K H B x t' from h).fr (Fr.less fun _ z => z.1)
      | br j =>
       obtain ⟨rfl, s, c, q1, q2⟩ := h
       have e1' : (μ[j]?).bind Sl.box = some t := e1
       rw [q1] at e1'
       have bx := ((l.slot j s q1).boxed (c := t) e1').2.2.1
       exact (bx.of rfl (Fr.less fun _ z => z.1)).rep fun z => z.2 j (h1 j List.mem_cons_self) rfl
      | fr c => exact h.elim
     ·show bxA (false :: md) (_ :: _) = _
      rw [show bxS (false :: md) (r :: rs) = bxS md rs by cases r <;> rfl]
      exact g2
    ·cases e
   | true =>
    cases r with
    | tr t => cases e
    | fr c => cases e
    | br j =>
     unfold agT at e
     split at e
     ·rename_i t ts e1 e2
      cases e
      obtain ⟨g1, g2, g3⟩ := ih p e2 h1 (fun i hi => h2 i (List.mem_cons_of_mem _ hi)) h3
      obtain ⟨rfl, s, c, q1, q2⟩ := h
      have e1' : (μ[j]?).bind Sl.box = some t := e1
      rw [q1] at e1'
      have bx := (l.slot j s q1).boxed (c := t) e1'
      refine ⟨⟨⟨ad j, rfl, ⟨bx.2.1, fun i hi z => ?_⟩, bx.2.2.1.of rfl (Fr.less fun _ z => z.1)⟩, g1⟩, congrArg (ad j :: ·) g2, fun i hi => ?_⟩
      ·obtain ⟨s', c', q3, q4⟩ := h3 i hi
       have := l.inj j i s s' t c' q1 q3 e1' q4 z
       subst this
       exact h2 j List.mem_cons_self hi
      ·rcases List.mem_cons.mp hi with z | z
       ·subst z; exact ⟨s, t, q1, e1'⟩
       ·exact g3 i z
     ·cases e
theorem ro_box {F : Fx} {ad : Nat → Addr} {B : AP'} {H : Hp} {μ : Mu} : ∀ {md : List Bool} {xs : List V} {rs : List R}, Paired (Hv F ad B H μ) xs rs → ∀ j ∈ roS md rs, ∃ (s : Sl) (c : T), μ[j]? = some s ∧ s.box = some c
 | [], _, _, _, j, h => by cases h
 | b :: md, _, _, .nil, j, h => by cases b <;> cases h
 | b :: md, _, r :: rs, .cons h p, j, hj => by
  cases b with
  | true => exact ro_box (md := md) p j (by cases r <;> exact hj)
  | false =>
   cases r with
   | tr t => exact ro_box (md := md) p j hj
   | fr c => exact h.elim
   | br i =>
    rcases List.mem_cons.mp hj with z | z
    ·subst z; exact h.2
    ·exact ro_box (md := md) p j z
theorem Bx.flat {K : PySem.W.Frag} {H : Hp} {B B' : AP'} {a : Addr} {c : T} (h : Bx K H B a c) (f : flatC c = true) : Bx K H B' a c := by
 rcases h.is with ⟨ts, vs, rfl, e, r⟩ | ⟨ks, ts, vs, rfl, e, l, r⟩
 ·exact ⟨vs, e, r.flat f⟩
 ·exact ⟨vs, e, l, r.flat f⟩
theorem Paired.flatB {K : PySem.W.Frag} {H : Hp} {B B' : AP'} : ∀ {as : List Addr} {outs : List T}, Paired (Bx K H B) as outs → outs.all flatC = true → Paired (Bx K H B') as outs
 | _, _, .nil, _ => .nil
 | _, _, .cons h p, f => by
  rw [List.all_cons, Bool.and_eq_true] at f
  exact .cons (h.flat f.1) (Paired.flatB p f.2)
namespace Y
noncomputable def uFn (md : List Bool) (tsp : TSp) (us : UA) : UE := fun μ Q => us μ fun rs μ1 => match agT μ1 md rs with
 | some args => (bxS md rs).Nodup ∧ (∀ j ∈ bxS md rs, j ∉ roS md rs) ∧ tsp args fun r outs => (roS md rs = [] ∨ (flatR r = true ∧ outs.all flatC = true)) ∧ Q r (putAll (bxS md rs) outs μ1)
 | none => False
theorem re_fn {K : PySem.W.Frag} {md : List Bool} {tsp : TSp} {E : XK} {t : TA} {us : UA} (ha : RA K t us) : RE K (tCall (spT K md tsp) [] E t) (uFn md tsp us) := by
 intro F ad B σ H μ Q Qt hF l q k
 refine ha F ad B σ H μ _ _ hF l q fun vs H1 rs μ1 l1 ps f1 k1 q1 => ?_
 split at q1
 ·rename_i args ea
  obtain ⟨nd, dj, q1⟩ := q1
  have hro := ro_box (md := md) ps
  obtain ⟨ag, eb, hb⟩ := ag_of l1 (roS md rs) ps ea (fun j h => h) dj hro
  rw [hF] at ag
  show spT K md tsp (vs ++ []) H1 Q E
  rw [List.append_nil]
  have inj : ∀ {js : List Nat}, js.Nodup → (∀ j ∈ js, ∃ (s : Sl) (c : T), μ1[j]? = some s ∧ s.box = some c) → (js.map ad).Nodup := fun {js} => by
   induction js with
   | nil => exact fun _ _ => List.nodup_nil
   | cons j js ih =>
    intro nd hb
    rw [List.nodup_cons] at nd
    rw [List.map_cons, List.nodup_cons]
    refine ⟨fun hm => ?_, ih nd.2 fun i hi => hb i (List.mem_cons_of_mem _ hi)⟩
    obtain ⟨i, hi, z⟩ := List.mem_map.mp hm
    obtain ⟨s1, c1, e1, b1⟩ := hb j List.mem_cons_self
    obtain ⟨s2, c2, e2, b2⟩ := hb i (List.mem_cons_of_mem _ hi)
    exact nd.1 (l1.inj i j s2 s1 c2 c1 e2 e1 b2 b1 z ▸ hi)
  refine ⟨_, args, _, ag, fun b z => l1.trk b z.1, by rw [eb]; exact inj nd hb, q1, fun v H2 r outs hq keep res => ?_⟩
  rw [eb] at keep res
  obtain ⟨hfl, hq⟩ := hq
  have nro : ∀ {b : Addr}, roS md rs = [] → B b → B b ∧ ∀ j ∈ roS md rs, b ≠ ad j := fun {b} z h => ⟨h, fun j hj => by rw [z] at hj; cases hj⟩
  cases r with
  | br i => exact res.elim
  | tr t =>
   obtain ⟨rv, po⟩ := res
   have rv' : Rep F.K H2 B v t := by
    rw [hF]
    rcases hfl with z | z
    ·exact rv.fr (Fr.less fun b h => nro z h)
    ·exact rv.flat z.1
   have po' : Paired (Bx F.K H2 B) ((bxS md rs).map ad) outs := by
    rw [hF]
    rcases hfl with z | z
    ·exact Paired.mapP po fun a c h => h.of rfl (Fr.less fun b h => nro z h)
    ·exact Paired.flatB po z.2
   obtain ⟨l2, k2, f2⟩ := l1.call hb nd keep (fun _ z => z) (fun _ _ _ z => z) (fun b z n => absurd z n) po'
   exact k v H2 (.tr t) _ ⟨l2, rv'⟩ (f1.trans f2) (k1.trans k2) hq
  | fr c =>
   obtain ⟨a, rfl, ha0, nBa, x, po⟩ := res
   have nBa' : ¬ B a := l1.notB ha0
   have sub : roS md rs = [] → ∀ b, more B a b → more (fun b => B b ∧ ∀ j ∈ roS md rs, b ≠ ad j) a b := fun z b h => h.imp id fun h => nro z h
   have x' : Bx F.K H2 (more B a) a c := by
    rw [hF]
    rcases hfl with z | z
    ·exact x.of rfl (Fr.less (sub z))
    ·exact x.flat z.1
   have po' : Paired (Bx F.K H2 (more B a)) ((bxS md rs).map ad) outs := by
    rw [hF]
    rcases hfl with z | z
    ·exact Paired.mapP po fun a' c h => h.of rfl (Fr.less (sub z))
    ·exact Paired.flatB po z.2
   have po2 : Paired (Bx F.K H2 B) ((bxS md rs).map ad) outs := Paired.mapP po' fun a' c h => h.of rfl (Fr.less fun _ z => .inr z)
   obtain ⟨l2, k2, f2⟩ := l1.call hb nd keep (fun _ z => z) (fun _ _ _ z => z) (fun b z n => absurd z n) po2
   obtain ⟨l3, _, f3⟩ := l1.call (B2 := more B a) hb nd keep (fun _ z => .inr z) (fun b o e n z => z.elim (fun z => by rw [z, ha0] at e; cases e) n) (fun b z n => z.elim (fun z => by rw [z]; exact x'.trk) fun z => absurd z n) po'
   exact k _ H2 (.fr c) _ ⟨l2, a, rfl, nBa', l1.new0 ha0, l3, x'⟩ (f1.trans f3) (k1.trans k2) hq
 ·exact q1.elim
section
variable {X : Cx} {e : Expr} {es : List Expr} {us : UA} {pos p : Pos} {x : Str} {k : Nat} {ps : List Str} {md : List Bool} {tsp : TSp} {E : XK}
theorem fn (K : PySem.W.Frag) (hK : X.K = K) (F : CallOk X.prog X.w X.K X.mg X.base CX0 k x ps (spT K md tsp)) (hr : Room k X.A) (hg : Gl X x) (hx : Passes CX0 X E) (ha : YA X (e :: es) us) (h1 : autoParam (nst e = true) L2.aRfl._auto_1) (h2 : autoParam (es.all nst = true) L2.aRfl._auto_1) (hdb : autoParam ((x == ("__debug__" : Str)) = false) L2.aDec._auto_1) :
  YE X (.Call (.Name x p) (e :: es) [] pos) (uFn md tsp us) := by
 obtain ⟨t, q, r⟩ := ha
 subst hK
 exact ⟨_, Z.fn F hr hg hx q h1 h2 hdb, re_fn r⟩
end
end Y
noncomputable def tspLaw : TSp := fun args Q => ∃ ns : List Int, args = [.rol (ns.map T.int)] ∧ ns.length ≤ 63 ∧ Q (.tr (.bl true)) []
end L2
set_option linter.all false
set_option maxRecDepth 100000
set_option maxHeartbeats 4000000
namespace L2
open PySem PySem.Spec PyProof.Rows
section
variable {prog : Program} {w : World} {A : Around} {E : Value → Shared → Prop} {s : Shared}
end
end L2
set_option linter.all false
set_option maxRecDepth 100000
set_option maxHeartbeats 4000000
namespace L2
open PySem PySem.Spec PyProof.Rows
section
variable {prog : Program} {w : World} {A : Around} {E : Value → Shared → Prop} {s : Shared}
end
section
variable {X : Cx} {es : List Expr} {tk : Nat} {tp : Pos}
end
noncomputable def sqOf : T → Option (List T)
 | .lst ts => some ts
 | .tup ts => some ts
 | .rol ts => some ts
 | .ktp ts => some ts
 | _ => none
namespace Y
section
variable {X : Cx} {e1 e2 : Expr} {es : List Expr} {us : UA} {pos p tp : Pos} {k : Nat}
end
end Y
end L2
set_option linter.all false
set_option maxRecDepth 100000
set_option maxHeartbeats 4000000
namespace L2
open PySem PySem.Spec PyProof.Rows
theorem fun_okT {P : Program} {w : World} {K : PySem.W.Frag} {mg : Str → Option Value} {base : Heap} {x : Str} {st : Stmt} {N ps : List Str} {k : Nat} {tsp : TSp} {fa : Addr} {fd : FuncData} (F : Fun K x x st fa fd) (S : FnScope N ps (defScope st)) (md : List Bool) (hm : md.length = ps.length) (hN : md.length ≤ N.length)
  (hbody : ∀ (args : List T) (Qt : R → List T → Prop), args.length = ps.length → tsp args Qt → ∀ (cdv : Value) (A : Around) (outer : List Env) (s : Shared) (H : Hp) (E : XK), Room k (A.deeper (envOfC x (defScope st) s.heap.objs.size fa cdv)) →
   ∃ us, YB (cxOf CX0 P w K mg base N x (defScope st) fa cdv A outer s H E).nox (defBody st) us ∧ us (edOf md Qt) (startM md args N.length)) : FnOk P w K mg base CX0 (k + 1) fa fd ps (spT K md tsp) := by
 refine fun_okQ F S (fun vs H Q E h => ?_) (fun cdv A outer s H vs Q E hr h => ?_)
 ·obtain ⟨B, args, Qt, ag, _⟩ := h
  rw [ag.len.1, hm]
 ·obtain ⟨B, args, Qt, ag, bh, nd, ht, fin⟩ := h
  obtain ⟨us, ⟨t, q, r⟩, hu⟩ := hbody args Qt (by rw [ag.len.2, hm]) ht cdv A outer s H E hr
  refine ⟨t, q, ?_⟩
  have l0 := rl_start (N := N) ag bh nd hN
  have outs : ∀ ad' B' σ' H' μ' (B2 : AP'), Rl (fxOf K H md vs B bh) ad' B' σ' H' μ' → (∀ b, B2 b → B' b) → Paired (Bx K H' B2) (bxA md vs) (outsAt md 0 μ') := fun ad' B' σ' H' μ' B2 l hB => by
   refine outs_of (ag.len.1) fun n e => ?_
   obtain ⟨v, t', e1, e2, q⟩ := ag.get e
   rw [if_pos rfl] at q
   obtain ⟨a, rfl, _⟩ := q
   obtain ⟨⟨c, hc⟩, ha⟩ := l.par n a (pOf_of e e1)
   have sl := l.slot n _ hc
   refine ⟨a, c, e1, by rw [Nat.zero_add]; exact hc, ?_⟩
   rw [← ha]
   exact (sl.2.2.2).of rfl (Fr.less hB)
  have keep : ∀ ad' B' σ' H' μ', Rl (fxOf K H md vs B bh) ad' B' σ' H' μ' → ∀ b o, H b = some o → b ∉ bxA md vs → H' b = some o := fun ad' B' σ' H' μ' l b o e n => l.old b o e fun i z => n (mem_bxA (pOf_is z).1 (pOf_is z).2)
  refine r (fxOf K H md vs B bh) _ _ (adOf vs) B (start N vs) H _ rfl l0 hu ⟨fun ad' B' σ' H' μ' l _ q => ?_, fun ad' B' σ' H' μ' v rr h q => ?_, fun _ _ _ _ _ _ _ z => z.elim, fun _ _ _ _ _ _ _ z => z.elim⟩
  ·exact fin .non H' (.tr .non) _ q (keep _ _ _ _ _ l) ⟨.non, outs _ _ _ _ _ _ l l.bc⟩
  ·cases rr with
   | tr t => exact fin v H' (.tr t) _ q (keep _ _ _ _ _ h.1) ⟨(show Rep K H' B' v t from h.2).fr (Fr.less h.1.bc), outs _ _ _ _ _ _ h.1 h.1.bc⟩
   | fr c =>
    obtain ⟨l, a, rfl, n, h0, l2, x⟩ := h
    have sub : ∀ b, more B a b → more B' a b := fun b z => z.imp id (l.bc b)
    exact fin _ H' (.fr c) _ q (keep _ _ _ _ _ l) ⟨a, rfl, h0, fun z => n (l.bc a z), x.of rfl (Fr.less sub), outs _ _ _ _ _ _ l2 sub⟩
   | br i =>
    have q' : (match μ'[i]? with | some (.bx c) => Qt (.fr c) (outsAt md 0 μ') | _ => False) := q
    obtain ⟨l, rfl, s', c', e1, e2⟩ := h
    split at q'
    ·rename_i c ec
     have sl := l.slot i _ ec
     have sub : ∀ b, more B (ad' i) b → B' b := fun b z => z.elim (fun z => by rw [z]; exact sl.2.1) (l.bc b)
     refine fin _ H' (.fr c) _ q' (keep _ _ _ _ _ l) ⟨ad' i, rfl, sl.2.2.1, fun z => ?_, (sl.2.2.2.2).of rfl (Fr.less sub), outs _ _ _ _ _ _ l sub⟩
     obtain ⟨o, e⟩ := bh _ z
     have : H (ad' i) = none := sl.2.2.1
     rw [this] at e; cases e
    ·exact q'.elim
namespace Y
section
variable {X : Cx} {es : List Expr} {pos : Pos} {x : Str}
noncomputable def conTs : List V → Option (List T)
 | [] => some []
 | v :: vs => match conT v, conTs vs with
  | some t, some ts => some (t :: ts)
  | _, _ => none
theorem conTs_map : ∀ {vs : List V} {ts : List T}, conTs vs = some ts → vs.map conT = ts.map some
 | [], ts, h => by cases h; rfl
 | v :: vs, ts, h => by
  unfold conTs at h
  split at h
  ·rename_i t us e1 e2
   cases h
   rw [List.map_cons, List.map_cons, e1, conTs_map e2]
  ·cases h
theorem consts2 {vs : List V} {ts : List T} (h : consV es = some vs) (h2 : conTs vs = some ts) : YA X es (uK ts) := consts h (conTs_map h2)
end
end Y
theorem seqT {u w : US} {E : Ed} {μ : Mu} (h : ∀ N, N = w E → u { E with nx := N } μ) : Y.uSeq u w E μ := h _ rfl
noncomputable def stp (o : Option (Prop × R)) (Q : R → Prop) : Prop := match o with
 | some (C, r) => C ∧ Q r
 | none => False
theorem stp_some (C : Prop) (r : R) (Q : R → Prop) : stp (some (C, r)) Q = (C ∧ Q r) := rfl
noncomputable def sti (o : Option (List T × Option (Nat × List T))) (Q : List T → Option (Nat × List T) → Prop) : Prop := match o with
 | some (ts, g) => Q ts g
 | none => False
theorem sti_some (ts : List T) (g : Option (Nat × List T)) (Q : List T → Option (Nat × List T) → Prop) : sti (some (ts, g)) Q = Q ts g := rfl
noncomputable def nb : Option Sl → Prop
 | some (.pb _) => False
 | _ => True
noncomputable def sl : Option T → Sl
 | none => .un
 | some t => .tr t
noncomputable def fVar (o : Option Sl) (i : Nat) : Option (Prop × R) := match o with
 | some (.tr t) => some (True, .tr t)
 | some (.bx _) => some (True, .br i)
 | some (.pb _) => some (True, .br i)
 | _ => none
noncomputable def fTru : R → Option Bool
 | .tr (.bl b) => some b
 | .tr (.int i) => some (i != 0)
 | _ => none
noncomputable def fAdd (a b : Option T) : Option (Prop × R) := match a, b with
 | some (.int i), some (.int j) => some (True, .tr (.int (i + j)))
 | some (.str i), some (.str j) => some (i.length + j.length ≤ sizeLine, .tr (.str (i ++ j)))
 | some (.lst xs), some (.lst ys) => some (xs.length + ys.length ≤ sizeLine, .fr (.lst (xs ++ ys)))
 | some (.tup xs), some (.tup ys) => some (xs.length + ys.length ≤ sizeLine, .tr (.tup (xs ++ ys)))
 | _, _ => none
noncomputable def oT (o : Option T) : Option (Prop × R) := match o with
 | some t => some (True, .tr t)
 | none => none
theorem oT_some (t : T) : oT (some t) = some (True, .tr t) := rfl
noncomputable def fIx (a b : Option T) : Option (Prop × R) := match a, b with
 | some (.lst xs), some (.int i) => oT (atI xs i)
 | some (.tup xs), some (.int i) => oT (atI xs i)
 | some (.ktp xs), some (.int i) => oT (atI xs i)
 | some (.str z), some (.int i) => (match atI z.cps.toList i with | some c => some (z.length ≤ sizeLine, .tr (.str ⟨#[c]⟩)) | none => none)
 | _, _ => none
noncomputable def fLen (a : T) : Option (Prop × R) := match a with
 | .lst xs => some (True, .tr (.int xs.length))
 | .tup xs => some (True, .tr (.int xs.length))
 | .rol xs => some (True, .tr (.int xs.length))
 | .ktp xs => some (True, .tr (.int xs.length))
 | .str z => some (z.length ≤ sizeLine, .tr (.int z.length))
 | _ => none
noncomputable def fTuple (a : Option T) : Option (Prop × R) := match a with
 | some (.lst xs) => some (True, .tr (.tup xs))
 | some (.tup xs) => some (True, .tr (.tup xs))
 | _ => none
noncomputable def fList (a : T) : Option (Prop × R) := match a with
 | .lst xs => some (True, .fr (.lst xs))
 | .tup xs => some (True, .fr (.lst xs))
 | .rol xs => some (True, .fr (.lst xs))
 | .rng lo hi => some ((hi - lo).toNat ≤ 65536 ∧ -(2 ^ 62) ≤ lo ∧ lo < 2 ^ 62 ∧ -(2 ^ 62) ≤ hi ∧ hi < 2 ^ 62, .fr (.lst ((List.range (hi - lo).toNat).map fun k => T.int (lo + (k : Nat)))))
 | _ => none
noncomputable def fSl (a : Option T) (lo hi : Option Int) : Option (Prop × R) := match a with
 | some (.lst xs) => some (True, .fr (.lst (Y.cutG xs lo hi)))
 | some (.rol xs) => some (True, .fr (.lst (Y.cutG xs lo hi)))
 | some (.tup xs) => some (True, .tr (.tup (Y.cutG xs lo hi)))
 | _ => none
noncomputable def fSeq (a : Option T) : Option (List T) := match a with
 | some (.tup ts) => some ts
 | some (.lst ts) => some ts
 | _ => none
noncomputable def fIt (r : R) (μ : Mu) : Option (List T × Option (Nat × List T)) := match r with
 | .br j => (match cont μ (.br j) with | some (.lst ts) => some (ts, some (j, ts)) | _ => none)
 | .tr (.lst ts) => some (ts, none)
 | .fr (.lst ts) => some (ts, none)
 | .tr (.tup ts) => some (ts, none)
 | .tr (.rol ts) => some (ts, none)
 | .tr (.ktp ts) => some (ts, none)
 | _ => none
namespace A
open Y
theorem uC (t : T) (μ : Mu) (Q : R → Mu → Prop) : Y.uC t μ Q = Q (.tr t) μ := rfl
theorem uVar (i : Nat) (μ : Mu) (Q : R → Mu → Prop) : Y.uVar i μ Q = stp (fVar μ[i]? i) fun r => Q r μ := by
 unfold Y.uVar fVar
 cases μ[i]? with
 | none => rfl
 | some s => cases s <;> exact propext ⟨fun h => by first | exact h | exact ⟨trivial, h⟩, fun h => by first | exact h | exact h.2⟩
theorem uOp (u : U2) (ua ub : UE) (μ : Mu) (Q : R → Mu → Prop) : Y.uOp u ua ub μ Q = ua μ fun r1 μ1 => ub μ1 fun r2 μ2 => u r1.d r2.d μ2 Q := rfl
theorem uTest (ue : UE) (μ : Mu) (Q : Bool → Mu → Prop) : Y.uTest ue μ Q = ue μ fun r μ' => match r with | .tr (.bl b) => Q b μ' | _ => False := rfl
theorem uNot (ut : UT) (μ : Mu) (Q : Bool → Mu → Prop) : Y.uNot ut μ Q = ut μ fun b μ' => Q (!b) μ' := rfl
theorem uAnd (u w : UT) (μ : Mu) (Q : Bool → Mu → Prop) : Y.uAnd u w μ Q = u μ fun b μ' => if b = true then w μ' Q else Q false μ' := rfl
theorem uOr (u w : UT) (μ : Mu) (Q : Bool → Mu → Prop) : Y.uOr u w μ Q = u μ fun b μ' => if b = true then Q true μ' else w μ' Q := rfl
theorem uTru (ue : UE) (μ : Mu) (Q : Bool → Mu → Prop) : Y.uTru ue μ Q = ue μ fun r μ' => match fTru r with | some b => Q b μ' | none => False := by
 unfold Y.uTru fTru
 congr 1
 funext r μ'
 cases r with
 | tr t => cases t <;> rfl
 | br i => rfl
 | fr c => rfl
theorem uAndV (ua ub : UE) (μ : Mu) (Q : R → Mu → Prop) : Y.uAndV ua ub μ Q = ua μ fun r μ' => match r with | .tr (.bl true) => ub μ' Q | .tr (.bl false) => Q (.tr (.bl false)) μ' | _ => False := rfl
theorem uIf (uc : UT) (ua ub : UE) (μ : Mu) (Q : R → Mu → Prop) : Y.uIf uc ua ub μ Q = uc μ fun b μ' => if b = true then ua μ' Q else ub μ' Q := rfl
theorem uNeg (ue : UE) (μ : Mu) (Q : R → Mu → Prop) : Y.uNeg ue μ Q = ue μ fun r μ' => match r with | .tr (.int i) => Q (.tr (.int (-i))) μ' | _ => False := rfl
theorem uNil (μ : Mu) (Q : List R → Mu → Prop) : Y.uNil μ Q = Q [] μ := rfl
theorem uCons (ue : UE) (us : UA) (μ : Mu) (Q : List R → Mu → Prop) : Y.uCons ue us μ Q = ue μ fun r μ1 => us μ1 fun rs μ2 => Q (r.d :: rs) μ2 := rfl
theorem uK (ts : List T) (μ : Mu) (Q : List R → Mu → Prop) : Y.uK ts μ Q = Q (ts.map R.tr) μ := rfl
theorem uTup (us : UA) (μ : Mu) (Q : R → Mu → Prop) : Y.uTup us μ Q = us μ fun rs μ' => match trees rs with | some ts => ts.length ≤ sizeLine ∧ Q (.tr (.tup ts)) μ' | none => False := rfl
theorem uLst (us : UA) (μ : Mu) (Q : R → Mu → Prop) : Y.uLst us μ Q = us μ fun rs μ' => match trees rs with | some ts => ts.length ≤ sizeLine ∧ Q (.fr (.lst ts)) μ' | none => False := rfl
theorem uCB (u : UC) (us : UA) (μ : Mu) (Q : R → Mu → Prop) : Y.uCB u us μ Q = us μ fun rs μ' => u rs μ' Q := rfl
theorem uNoPart (μ : Mu) (Q : Option Int → Mu → Prop) : Y.uNoPart μ Q = Q none μ := rfl
theorem uPart (ue : UE) (μ : Mu) (Q : Option Int → Mu → Prop) : Y.uPart ue μ Q = ue μ fun r μ' => match r with | .tr (.int i) => Q (some i) μ' | _ => False := rfl
theorem byT (f : T → T → Mu → (R → Mu → Prop) → Prop) (r1 r2 : R) (μ : Mu) (Q : R → Mu → Prop) : Y.byT f r1 r2 μ Q = (match cont μ r1, cont μ r2 with | some t, some u => f t u μ Q | _, _ => False) := rfl
theorem tIntI (C : Int → Int → Prop) (g : Int → Int → Int) (i j : Int) (μ : Mu) (Q : R → Mu → Prop) : tInt C g (.int i) (.int j) μ Q = (C i j ∧ Q (.tr (.int (g i j))) μ) := rfl
theorem tBlI (g : Int → Int → Bool) (i j : Int) (μ : Mu) (Q : R → Mu → Prop) : tBl g (.int i) (.int j) μ Q = Q (.tr (.bl (g i j))) μ := rfl
theorem uAdd (r1 r2 : R) (μ : Mu) (Q : R → Mu → Prop) : Y.uAdd r1 r2 μ Q = stp (fAdd (cont μ r1) (cont μ r2)) fun r => Q r μ := by
 unfold Y.uAdd fAdd
 cases cont μ r1 with
 | none => rfl
 | some t => cases cont μ r2 with
  | none => cases t <;> rfl
  | some u => cases t <;> cases u <;> first | rfl | exact propext ⟨fun h => ⟨trivial, h⟩, fun h => h.2⟩
theorem mulII (i j : Int) (μ : Mu) (Q : R → Mu → Prop) : Y.uMulG (.tr (.int i)) (.tr (.int j)) μ Q = (CMul i j ∧ Q (.tr (.int (i * j))) μ) := rfl
theorem mulLI (xs : List T) (k : Int) (μ : Mu) (Q : R → Mu → Prop) : Y.uMulG (.tr (.lst xs)) (.tr (.int k)) μ Q = (-(2 ^ 63) ≤ k ∧ k < 2 ^ 63 ∧ xs.length * k.toNat ≤ sizeLine ∧ Q (.fr (.lst (List.replicate k.toNat xs).flatten)) μ) := rfl
theorem uIxT (r1 r2 : R) (μ : Mu) (Q : R → Mu → Prop) : Y.uIxT r1 r2 μ Q = stp (fIx (cont μ r1) (cont μ r2)) fun r => Q r μ := by
 unfold Y.uIxT fIx
 have e : ∀ (xs : List T) (i : Int), (match atI xs i with | some t => Q (.tr t) μ | none => False) = stp (oT (atI xs i)) fun r => Q r μ := fun xs i => by
  cases atI xs i with
  | none => rfl
  | some t => exact propext ⟨fun h => ⟨trivial, h⟩, fun h => h.2⟩
 cases cont μ r1 with
 | none => rfl
 | some t => cases cont μ r2 with
  | none => cases t <;> rfl
  | some u =>
   cases t <;> cases u <;> first | rfl | exact e _ _ | skip
   rename_i z i
   show (z.length ≤ sizeLine ∧ (match atI z.cps.toList i with | some c => Q (.tr (.str ⟨#[c]⟩)) μ | none => False)) = stp (match atI z.cps.toList i with | some c => some (z.length ≤ sizeLine, .tr (.str ⟨#[c]⟩)) | none => none) fun r => Q r μ
   cases atI z.cps.toList i with
   | none => exact propext ⟨fun h => h.2, fun h => h.elim⟩
   | some c => rfl
theorem tEqI (neg : Bool) (i j : Int) (μ : Mu) (Q : R → Mu → Prop) : Y.tEq neg (.int i) (.int j) μ Q = Q (.tr (.bl (if neg then !decide (i = j) else decide (i = j)))) μ := rfl
theorem tEqS (neg : Bool) (i j : Str) (μ : Mu) (Q : R → Mu → Prop) : Y.tEq neg (.str i) (.str j) μ Q = Q (.tr (.bl (if neg then !decide (i = j) else decide (i = j)))) μ := rfl
theorem tEqB (neg : Bool) (i j : Bool) (μ : Mu) (Q : R → Mu → Prop) : Y.tEq neg (.bl i) (.bl j) μ Q = Q (.tr (.bl (if neg then !decide (i = j) else decide (i = j)))) μ := rfl
theorem tEqL (neg : Bool) (xs ys : List T) (μ : Mu) (Q : R → Mu → Prop) : Y.tEq neg (.lst xs) (.lst ys) μ Q = (neg = false ∧ xs.all flatT = true ∧ ys.all flatT = true ∧ Q (.tr (.bl (eqFs xs ys))) μ) := rfl
theorem tEqT (neg : Bool) (xs ys : List T) (μ : Mu) (Q : R → Mu → Prop) : Y.tEq neg (.tup xs) (.tup ys) μ Q = (neg = false ∧ xs.all flatT = true ∧ ys.all flatT = true ∧ Q (.tr (.bl (eqFs xs ys))) μ) := rfl
theorem by1 (f : T → Mu → (R → Mu → Prop) → Prop) (r : R) (μ : Mu) (Q : R → Mu → Prop) : Y.by1 f [r] μ Q = (match cont μ r with | some t => f t μ Q | none => False) := rfl
theorem tLen (t : T) (μ : Mu) (Q : R → Mu → Prop) : Y.tLen t μ Q = stp (fLen t) fun r => Q r μ := by
 cases t <;> first | rfl | exact propext ⟨fun h => ⟨trivial, h⟩, fun h => h.2⟩
theorem uTuple (r : R) (μ : Mu) (Q : R → Mu → Prop) : Y.uTuple [r] μ Q = stp (fTuple (cont μ r)) fun r => Q r μ := by
 show (match cont μ r with | some (.lst xs) => Q (.tr (.tup xs)) μ | some (.tup xs) => Q (.tr (.tup xs)) μ | _ => False) = _
 unfold fTuple
 cases cont μ r with
 | none => rfl
 | some t => cases t <;> first | rfl | exact propext ⟨fun h => ⟨trivial, h⟩, fun h => h.2⟩
theorem uIntI (i : Int) (μ : Mu) (Q : R → Mu → Prop) : Y.uIntG [.tr (.int i)] μ Q = Q (.tr (.int i)) μ := rfl
theorem uIntB (k : Bool) (μ : Mu) (Q : R → Mu → Prop) : Y.uIntG [.tr (.bl k)] μ Q = Q (.tr (.int (if k = true then 1 else 0))) μ := rfl
theorem uAsg (ue : UE) (g : UG) (E : Ed) (μ : Mu) : Y.uAsg ue g E μ = ue μ fun r μ' => g r μ' E.nx := rfl
theorem gNt (i : Nat) (t : T) (μ : Mu) (Q : Mu → Prop) : Y.gN i (.tr t) μ Q = (noP μ i ∧ Q (μ.set i (.tr t))) := rfl
theorem gNf (i : Nat) (t : T) (μ : Mu) (Q : Mu → Prop) : Y.gN i (.fr t) μ Q = (noP μ i ∧ Q (μ.set i (.bx t))) := rfl
theorem noP (μ : Mu) (i : Nat) : Y.noP μ i = nb μ[i]? := rfl
theorem nb_tr (t : T) : nb (some (.tr t)) = True := rfl
theorem nb_bx (t : T) : nb (some (.bx t)) = True := rfl
theorem nb_un : nb (some .un) = True := rfl
theorem nb_sl (o : Option T) : nb (some (sl o)) = True := by cases o <;> rfl
theorem gT (n : Nat) (gs : UGs) (r : R) (μ : Mu) (Q : Mu → Prop) : Y.gT n gs r μ Q = (match fSeq (cont μ r.d) with | some ts => ts.length = n ∧ gs ts μ Q | none => False) := by
 unfold Y.gT fSeq
 cases cont μ r.d with
 | none => rfl
 | some t => cases t <;> rfl
theorem gsC (g : UG) (gs : UGs) (t : T) (ts : List T) (μ : Mu) (Q : Mu → Prop) : Y.gsC g gs (t :: ts) μ Q = g (.tr t) μ fun μ' => gs ts μ' Q := rfl
theorem gsN (μ : Mu) (Q : Mu → Prop) : Y.gsN [] μ Q = Q μ := rfl
theorem gS (uo ui : UE) (t : T) (μ : Mu) (Q : Mu → Prop) : Y.gS uo ui (.tr t) μ Q = uo μ fun ro μ1 => ui μ1 fun ri μ2 => (match ro, ri with
  | .br j, .tr (.int k) => (match (μ2[j]?).bind Sl.box with
   | some (.lst ts) => (match ixN ts.length k with
    | some n => Q (putS μ2 j (.lst (ts.set n t)))
    | none => False)
   | _ => False)
  | _, _ => False) := rfl
theorem uRet (ue : UE) (E : Ed) (μ : Mu) : Y.uRet ue E μ = ue μ E.rt := rfl
theorem uDrop (ue : UE) (E : Ed) (μ : Mu) : Y.uDrop ue E μ = ue μ fun _ μ' => E.nx μ' := rfl
theorem uIfS (c : UT) (u w : US) (E : Ed) (μ : Mu) : Y.uIfS c u w E μ = c μ fun b μ' => if b = true then u E μ' else w E μ' := rfl
theorem uIt (ue : UE) (μ : Mu) (Rt : List T → Option (Nat × List T) → Mu → Prop) : Y.uIt ue μ Rt = ue μ fun r μ' => sti (fIt r μ') fun ts g => Rt ts g μ' := by
 unfold Y.uIt fIt
 congr 1
 funext r μ'
 cases r with
 | tr t => cases t <;> rfl
 | br j =>
  show (match cont μ' (.br j) with | some (.lst ts) => Rt ts (some (j, ts)) μ' | _ => False) = sti (match cont μ' (.br j) with | some (.lst ts) => some (ts, some (j, ts)) | _ => none) fun ts g => Rt ts g μ'
  cases cont μ' (.br j) with
  | none => rfl
  | some t => cases t <;> rfl
 | fr c => cases c <;> rfl
theorem iR1 (us : UA) (μ : Mu) (Rt : List T → Option (Nat × List T) → Mu → Prop) : Y.iR1 us μ Rt = us μ fun rs μ' => match rs with
 | [.tr (.int j)] => -(2 ^ 62) ≤ j ∧ j < 2 ^ 62 ∧ Rt ((List.range j.toNat).map fun k => T.int (0 + (k : Nat))) none μ'
 | _ => False := rfl
theorem uFor (ui : UI) (g : UG) (body : US) (E : Ed) (μ : Mu) : Y.uFor ui g body E μ = ui μ fun items gd μ' => match gd with
 | none => uForG g body E items μ'
 | some (j, _) => (match μ'[j]? with
  | some (.bx c) => uForG g body E items (μ'.set j (.tr c))
  | _ => False) := rfl
theorem uComp (own : T → Mu → Option Mu) (dr : Mu → Mu) (ui : UI) (ut : UT) (ue : UE) (μ : Mu) (Q : R → Mu → Prop) : Y.uComp own dr ui ut ue μ Q = ui μ fun items gd μ' => uCmp gd own dr ut ue Q items [] μ' := rfl
theorem uMe (um : UM) (uo : UE) (us : UA) (μ : Mu) (Q : R → Mu → Prop) : Y.uMe um uo us μ Q = uo μ fun ro μ1 => match ro with | .br j => Y.isL ((μ1[j]?).bind Sl.box) (us μ1 fun rs μ2 => um j rs μ2 Q) | _ => False := rfl
theorem isL_l (ts : List T) (p : Prop) : Y.isL (some (.lst ts)) p = p := rfl
theorem uAppend (j : Nat) (t : T) (μ : Mu) (Q : R → Mu → Prop) : Y.uAppend j [.tr t] μ Q = (match (μ[j]?).bind Sl.box with | some (.lst ts) => ts.length < sizeLine ∧ Q (.tr .non) (putS μ j (.lst (ts ++ [t]))) | _ => False) := rfl
theorem uFn (md : List Bool) (tsp : TSp) (us : UA) (μ : Mu) (Q : R → Mu → Prop) : Y.uFn md tsp us μ Q = us μ fun rs μ1 => match agT μ1 md rs with
 | some args => (bxS md rs).Nodup ∧ (∀ j ∈ bxS md rs, j ∉ roS md rs) ∧ tsp args fun r outs => (roS md rs = [] ∨ (flatR r = true ∧ outs.all flatC = true)) ∧ Q r (putAll (bxS md rs) outs μ1)
 | none => False := rfl
theorem sqL (ts : List T) : sqOf (.lst ts) = some ts := rfl
theorem sqT (ts : List T) : sqOf (.tup ts) = some ts := rfl
noncomputable def itB : Option T → Nat → Option (List T × Option (Nat × List T))
 | some (.lst ts), j => some (ts, some (j, ts))
 | _, _ => none
theorem v_tr (t : T) (i : Nat) : fVar (some (.tr t)) i = some (True, .tr t) := rfl
theorem v_bx (t : T) (i : Nat) : fVar (some (.bx t)) i = some (True, .br i) := rfl
theorem v_pb (t : T) (i : Nat) : fVar (some (.pb t)) i = some (True, .br i) := rfl
theorem add_i (i j : Int) : fAdd (some (.int i)) (some (.int j)) = some (True, .tr (.int (i + j))) := rfl
theorem add_s (i j : Str) : fAdd (some (.str i)) (some (.str j)) = some (i.length + j.length ≤ sizeLine, .tr (.str (i ++ j))) := rfl
theorem add_l (xs ys : List T) : fAdd (some (.lst xs)) (some (.lst ys)) = some (xs.length + ys.length ≤ sizeLine, .fr (.lst (xs ++ ys))) := rfl
theorem add_t (xs ys : List T) : fAdd (some (.tup xs)) (some (.tup ys)) = some (xs.length + ys.length ≤ sizeLine, .tr (.tup (xs ++ ys))) := rfl
theorem ix_l (xs : List T) (i : Int) : fIx (some (.lst xs)) (some (.int i)) = oT (atI xs i) := rfl
theorem ix_t (xs : List T) (i : Int) : fIx (some (.tup xs)) (some (.int i)) = oT (atI xs i) := rfl
theorem ix_k (xs : List T) (i : Int) : fIx (some (.ktp xs)) (some (.int i)) = oT (atI xs i) := rfl
theorem ix_s (z : Str) (i : Int) : fIx (some (.str z)) (some (.int i)) = (match atI z.cps.toList i with | some c => some (z.length ≤ sizeLine, .tr (.str ⟨#[c]⟩)) | none => none) := rfl
theorem len_l (xs : List T) : fLen (.lst xs) = some (True, .tr (.int xs.length)) := rfl
theorem len_t (xs : List T) : fLen (.tup xs) = some (True, .tr (.int xs.length)) := rfl
theorem len_r (xs : List T) : fLen (.rol xs) = some (True, .tr (.int xs.length)) := rfl
theorem len_k (xs : List T) : fLen (.ktp xs) = some (True, .tr (.int xs.length)) := rfl
theorem len_s (z : Str) : fLen (.str z) = some (z.length ≤ sizeLine, .tr (.int z.length)) := rfl
theorem tp_l (xs : List T) : fTuple (some (.lst xs)) = some (True, .tr (.tup xs)) := rfl
theorem tp_t (xs : List T) : fTuple (some (.tup xs)) = some (True, .tr (.tup xs)) := rfl
theorem ls_l (xs : List T) : fList (.lst xs) = some (True, .fr (.lst xs)) := rfl
theorem ls_t (xs : List T) : fList (.tup xs) = some (True, .fr (.lst xs)) := rfl
theorem ls_r (xs : List T) : fList (.rol xs) = some (True, .fr (.lst xs)) := rfl
theorem ls_g (lo hi : Int) : fList (.rng lo hi) = some ((hi - lo).toNat ≤ 65536 ∧ -(2 ^ 62) ≤ lo ∧ lo < 2 ^ 62 ∧ -(2 ^ 62) ≤ hi ∧ hi < 2 ^ 62, .fr (.lst ((List.range (hi - lo).toNat).map fun k => T.int (lo + (k : Nat))))) := rfl
theorem sl_l (xs : List T) (lo hi : Option Int) : fSl (some (.lst xs)) lo hi = some (True, .fr (.lst (Y.cutG xs lo hi))) := rfl
theorem sl_r (xs : List T) (lo hi : Option Int) : fSl (some (.rol xs)) lo hi = some (True, .fr (.lst (Y.cutG xs lo hi))) := rfl
theorem sl_t (xs : List T) (lo hi : Option Int) : fSl (some (.tup xs)) lo hi = some (True, .tr (.tup (Y.cutG xs lo hi))) := rfl
theorem sq_t (xs : List T) : fSeq (some (.tup xs)) = some xs := rfl
theorem sq_l (xs : List T) : fSeq (some (.lst xs)) = some xs := rfl
theorem it_tl (ts : List T) (μ : Mu) : fIt (.tr (.lst ts)) μ = some (ts, none) := rfl
theorem it_fl (ts : List T) (μ : Mu) : fIt (.fr (.lst ts)) μ = some (ts, none) := rfl
theorem it_tt (ts : List T) (μ : Mu) : fIt (.tr (.tup ts)) μ = some (ts, none) := rfl
theorem it_tr (ts : List T) (μ : Mu) : fIt (.tr (.rol ts)) μ = some (ts, none) := rfl
theorem it_tk (ts : List T) (μ : Mu) : fIt (.tr (.ktp ts)) μ = some (ts, none) := rfl
theorem it_br (j : Nat) (μ : Mu) : fIt (.br j) μ = itB (cont μ (.br j)) j := by
 show (match cont μ (.br j) with | some (.lst ts) => some (ts, some (j, ts)) | _ => none) = _
 unfold itB
 cases cont μ (.br j) with
 | none => rfl
 | some t => cases t <;> rfl
theorem itB_l (ts : List T) (j : Nat) : itB (some (.lst ts)) j = some (ts, some (j, ts)) := rfl
theorem c_tr (μ : Mu) (t : T) : cont μ (.tr t) = some t := rfl
theorem c_fr (μ : Mu) (t : T) : cont μ (.fr t) = some t := rfl
theorem c_br (μ : Mu) (i : Nat) : cont μ (.br i) = (μ[i]?).bind Sl.box := rfl
theorem d_tr (t : T) : R.d (.tr t) = .tr t := rfl
theorem d_fr (t : T) : R.d (.fr t) = .tr t := rfl
theorem d_br (i : Nat) : R.d (.br i) = .br i := rfl
theorem tr_b (b : Bool) : fTru (.tr (.bl b)) = some b := rfl
theorem tr_i (i : Int) : fTru (.tr (.int i)) = some (i != 0) := rfl
end A
theorem for_ind {g : UG} {body : US} {E : Ed} (I : List T → Mu → Prop) {items : List T} {μ : Mu} (h0 : I items μ) (hn : ∀ μ, I [] μ → E.nx μ)
  (hs : ∀ t ts μ (N : Mu → Prop), I (t :: ts) μ → (∀ μ', I ts μ' → N μ') → g (.tr t) μ fun μ1 => body { E with nx := N, ct := N, bk := E.nx } μ1) : Y.uForG g body E items μ := by
 induction items generalizing μ with
 | nil => exact hn μ h0
 | cons t ts ih => exact hs t ts μ _ h0 fun μ' h => ih h
theorem cmp_ind {gd : Option (Nat × List T)} {own : T → Mu → Option Mu} {dr : Mu → Mu} {ut : UT} {ue : UE} {Q : R → Mu → Prop} (I : List T → List T → Mu → Prop) {items acc : List T} {μ : Mu} (h0 : I items acc μ) (hn : ∀ acc μ, I [] acc μ → Y.gOk gd μ ∧ Q (.fr (.lst acc)) μ)
  (hs : ∀ t r acc μ (N : List T → Mu → Prop), I (t :: r) acc μ → (∀ acc' μ', I r acc' μ' → N acc' μ') → Y.gOk gd μ ∧ acc.length < sizeLine ∧ (match own t μ with
   | none => False
   | some μ1 => ut μ1 fun b μ2 => if b = true then ue μ2 fun rr μ3 => (match rr.d with
     | .tr t' => N (acc ++ [t']) (dr μ3)
     | _ => False) else N acc (dr μ2))) : Y.uCmp gd own dr ut ue Q items acc μ := by
 induction items generalizing μ acc with
 | nil => exact hn acc μ h0
 | cons t ts ih => exact hs t ts acc μ (fun a m => Y.uCmp gd own dr ut ue Q ts a m) h0 fun a' μ' h => ih h
noncomputable def spLaw (K : PySem.W.Frag) : Sp := fun vs H Q _ => ∃ (a : Addr) (ns : List Int), vs = [.ref a] ∧ SqL K H a (ns.map V.int) ∧ ns.length ≤ 63 ∧ ∀ H', Q (.bl true) H'
theorem reps_ints {K : PySem.W.Frag} {H : Hp} {B : AP'} : ∀ ns : List Int, Reps K H B (ns.map V.int) (ns.map T.int)
 | [] => .nil
 | n :: ns => .cons (.int n) (reps_ints ns)
theorem law_of {P : Program} {w : World} {K : PySem.W.Frag} {mg : Str → Option Value} {base : Heap} {k : Nat} {fa : Addr} {fd : FuncData} {ps : List Str} (h : FnOk P w K mg base CX0 k fa fd ps (spT K [false] tspLaw)) : FnOk P w K mg base CX0 k fa fd ps (spLaw K) := by
 refine h.imp fun vs H Q E ⟨a, ns, e, hs, hl, q⟩ => ?_
 subst e
 refine ⟨fun _ => False, [.rol (ns.map T.int)], fun r outs => r = .tr (.bl true), ⟨.rol ?_ (reps_ints ns), trivial⟩, fun b z => z.elim, List.nodup_nil, ⟨ns, rfl, hl, rfl⟩, fun v H' r outs hr _ res => ?_⟩
 ·rcases hs with hs | hs
  ·exact .inl ⟨fun z => z, hs⟩
  ·exact .inr hs
 ·subst hr
  have rv := res.1
  cases rv
  exact q H'
end L2
set_option linter.all false
set_option maxRecDepth 100000
set_option maxHeartbeats 4000000
namespace L2
open PySem PySem.Spec PyProof.Rows
namespace Y
theorem op_neL {X : Cx} (hu : X.A.units < cLine) : OpR X (compareOp .NotEq) (rEqL X.K true) := by
 intro pins s σ H x y v u Q I rx ry h
 obtain ⟨a, b, xs, ys, rfl, rfl, hq, fx, fy, q⟩ := h
 cases rx; cases ry
 have item : ∀ (its its2 : List Value), Vals xs its → Vals ys its2 → ∀ j (h1 : j < its.toArray.size) (h2 : j < its2.toArray.size), SeqAt.EqAt X.A.in1 s its.toArray[j] its2.toArray[j] (match xs[j]?, ys[j]? with | some x, some y => eqV x y | _, _ => true) := fun its its2 r1 r2 j h1 h2 => by
  have l1 := r1.length; have l2 := r2.length
  rw [List.size_toArray] at h1 h2
  obtain ⟨u1, e1, g1⟩ := r1.get (i := j) (x := xs[j]) (List.getElem?_eq_getElem (by omega))
  obtain ⟨u2, e2, g2⟩ := r2.get (i := j) (x := ys[j]) (List.getElem?_eq_getElem (by omega))
  rw [List.getElem?_eq_getElem (show j < xs.length by omega), List.getElem?_eq_getElem (show j < ys.length by omega)]
  have z1 : its.toArray[j] = u1 := by
   rw [List.getElem?_eq_getElem h1] at e1; simpa using e1
  have z2 : its2.toArray[j] = u2 := by
   rw [List.getElem?_eq_getElem h2] at e2; simpa using e2
  rw [z1, z2]
  exact eqAt_V g1 g2 (List.all_eq_true.mp fx _ (List.getElem_mem _)) (List.all_eq_true.mp fy _ (List.getElem_mem _))
 rcases hq with ⟨ha, hb⟩ | ⟨ha, hb⟩
 ·obtain ⟨its, r1, p1, _⟩ := I.list ha
  obtain ⟨its2, r2, p2, _⟩ := I.list hb
  have l1 := r1.length; have l2 := r2.length
  by_cases e : xs.length = ys.length
  ·refine SeqAt.RcNeAt.lists p1.isList p2.isList (by rw [List.size_toArray, List.size_toArray]; omega) hu (item its its2 r1 r2) X.prog X.w X.xe _ ⟨.bl _, H, I, rfl, q _ ?_⟩
   rw [List.size_toArray, ← l1, ← e, Nat.min_self, beq_self_eq_true, Bool.true_and]
   try rfl
  ·refine SeqAt.RcNeAt.lists_lengths p1.isList p2.isList (by rw [List.size_toArray, List.size_toArray, bne_iff_ne]; omega) hu X.prog X.w X.xe _ ⟨.bl true, H, I, rfl, ?_⟩
   exact q false (by rw [beq_eq_false_iff_ne.mpr e, Bool.false_and])
 ·obtain ⟨its, r1, p1, _⟩ := I.tuple ha
  obtain ⟨its2, r2, p2, _⟩ := I.tuple hb
  have l1 := r1.length; have l2 := r2.length
  refine SeqAt.RcNeAt.tuples p1 p2 hu (item its its2 r1 r2) X.prog X.w X.xe _ ⟨.bl _, H, I, rfl, q _ ?_⟩
  rw [List.size_toArray, List.size_toArray, ← l1, ← l2, Bool.and_comm]
  try rfl
noncomputable def rNeG (K : PySem.W.Frag) : R2 := fun x y H Q => rNe x y H Q ∨ rEqL K true x y H Q
theorem op_neG {X : Cx} (K : PySem.W.Frag) (hK : X.K = K) (hu : X.A.units < cLine) : OpR X (compareOp .NotEq) (rNeG K) := by subst hK; exact op_ne.or (op_neL hu)
noncomputable def tNe : T → T → Mu → (R → Mu → Prop) → Prop := fun t u μ Q => match t, u with
 | .int i, .int j => Q (.tr (.bl (!decide (i = j)))) μ
 | .str i, .str j => Q (.tr (.bl (!decide (i = j)))) μ
 | .bl i, .bl j => Q (.tr (.bl (!decide (i = j)))) μ
 | .lst xs, .lst ys => xs.all flatT = true ∧ ys.all flatT = true ∧ Q (.tr (.bl (!eqFs xs ys))) μ
 | .tup xs, .tup ys => xs.all flatT = true ∧ ys.all flatT = true ∧ Q (.tr (.bl (!eqFs xs ys))) μ
 | _, _ => False
theorem noFill_tup_mul : fillsNumberSlot (.type "tuple") "mul" = pure false :=
 PySem.fillsNumberSlot_seq (id := "tuple.__mul__") (r := some (.builtin "tuple.__rmul__")) PySem.F.slot_tuple_mul.lookup (by decide +kernel) PySem.F.slot_tuple_rmul.lookup (by decide +kernel)
theorem repeat_tup : seqRepeat? (.type "tuple") = pure (some (.builtin "tuple.__mul__")) := by
 unfold seqRepeat?; rw [PySem.seqSlot_of (T := "tuple") (name := "__mul__") (id := "tuple.__mul__") PySem.F.slot_tuple_mul.lookup (by decide +kernel), PySem.seqSlot_of (T := "tuple") (name := "__rmul__") (id := "tuple.__rmul__") PySem.F.slot_tuple_rmul.lookup (by decide +kernel)]; rfl
theorem rmul_tup (a : Int) (t : Tok) (l : Addr) (ob : Obj) (items : Array Value) (n : Nat) (hc : ob.cls = .type "tuple") (hd : ob.data = .seq items n) :
  Meets (Builtin.«int.__rmul__» ⟨[.int a t, .ref l], []⟩) (fun _ R s => s.heap.get? l = some ob ∧ R (.ok (.ret Value.notImplemented)) s) :=
 .of_wp fun prog w A R s h => by
  obtain ⟨hp, g, d, tk, os⟩ := s
  obtain ⟨hl, h⟩ := h
  obtain ⟨c, dd, da, sl⟩ := ob
  simp only at hc hd
  subst hc hd
  wp_walk
  exact ⟨_, rfl, h⟩
theorem mul_tup (l : Addr) (items : Array Value) (ob : Obj) (n : Nat) (k : Int) (t : Tok) (hc : ob.cls = .type "tuple") (hd : ob.data = .seq items n) (hne : items.isEmpty = false) (h1 : 1 < k) (h2 : k ≤ 1000) (hsz : items.size ≤ 1000) :
  Meets (Builtin.«tuple.__mul__» ⟨[.ref l, .int k t], []⟩) (fun _ R s => s.heap.get? l = some ob ∧ R (.ok (.ret (.ref s.heap.objs.size))) { s with heap := s.heap.push { cls := .type "tuple", data := .seq ((List.replicate k.toNat items).foldl (· ++ ·) #[]) } }) :=
 .of_wp fun prog w A R s h => by
  obtain ⟨hp, g, d, tk, os⟩ := s
  obtain ⟨hl, h⟩ := h
  obtain ⟨c, dd, da, sl⟩ := ob
  simp only at hc hd
  subst hc hd
  have e1 : (decide (k < -(2 ^ 63)) || decide (k ≥ 2 ^ 63)) = false := by rw [decide_eq_false (by omega), decide_eq_false (by omega)]; rfl
  have e2 : (items.isEmpty || k == 1) = false := by rw [hne, beq_eq_false_iff_ne.mpr (by omega)]; rfl
  have e3 : (decide (k ≤ 0) || items.isEmpty) = false := by rw [hne, decide_eq_false (by omega)]; rfl
  wp_walk using AutoSeq1.wpAny_loadPart' hl
  rw [if_neg (by rw [e1]; exact Bool.false_ne_true)]
  have ht : IsTup (Shared.heap ⟨hp, g, d, tk, os⟩) l items := ⟨_, hl, rfl, n, rfl⟩
  show wpAny _ _ (Builtin.Tuple.tupleItemsOf (.ref l) >>= _) _ _ _
  refine wpAny_bind (tupleItemsOf_ ht ?_)
  rw [if_neg (by rw [e2]; exact Bool.false_ne_true)]
  show wpAny _ _ (if (decide (k ≤ 0) || items.isEmpty) = true then _ else _) _ _ _
  rw [if_neg (by rw [e3]; exact Bool.false_ne_true)]
  have hm : (items.size : Int) * k ≤ 1000 * 1000 := Int.mul_le_mul (by omega) h2 (by omega) (by omega)
  show wpAny _ _ (if (items.size : Int) * k > (2 ^ 63 - 1) / 8 then _ else _) _ _ _
  rw [if_neg (by omega)]
  show wpAny _ _ (if Builtin.Tuple.tupleTooMany ((items.size : Int) * k) = true then _ else _) _ _ _
  have e4 : Builtin.Tuple.tupleTooMany ((items.size : Int) * k) = false := decide_eq_false (by
   have : ((sizeLine : Nat) : Int) ≥ 1000000 := by decide
   omega)
  rw [if_neg (by rw [e4]; exact Bool.false_ne_true)]
  have hl2 : ((List.replicate k.toNat items).foldl (· ++ ·) #[]).size ≤ sizeLine := by
   have fs : ∀ (m : Nat) (acc : Array Value), ((List.replicate m items).foldl (· ++ ·) acc).size = acc.size + m * items.size := fun m => by
    induction m with
    | zero => intro acc; simp
    | succ m ih => intro acc; rw [List.replicate_succ, List.foldl_cons, ih, Array.size_append, Nat.succ_mul]; omega
   rw [fs]
   have h3 : k.toNat * items.size ≤ 1000 * 1000 := Nat.mul_le_mul (by omega) hsz
   have h4 : (1000000 : Nat) ≤ sizeLine := by decide
   simp
   omega
  exact wpAny_bind (m := Builtin.Tuple.tupleExact _) (wpAny_newObj_type (wpAny_pure ⟨_, rfl, h⟩) hl2)
theorem foldl_arr (its : List Value) : ∀ (m : Nat) (acc : List Value), (List.replicate m its.toArray).foldl (· ++ ·) acc.toArray = (acc ++ (List.replicate m its).flatten).toArray := fun m acc => foldl_rep its m acc
noncomputable def rRepT (K : PySem.W.Frag) : R2 := fun x y H Q => ∃ a k xs, x = .ref a ∧ y = .int k ∧ SqT K H a xs ∧ xs ≠ [] ∧ xs.length ≤ 1000 ∧ 1 < k ∧ k ≤ 1000 ∧ ∀ p, H p = none → Q (.ref p) (upd H p (.tup (List.replicate k.toNat xs).flatten))
theorem op_repT {X : Cx} : OpR X (binaryOp .Mult) (rRepT X.K) := by
 intro pins s σ H x y v u Q I rx ry h
 obtain ⟨a, k, xs, rfl, rfl, hx, hne, hsz, h1, h2, q⟩ := h
 cases rx
 obtain ⟨t, rfl⟩ := ry
 obtain ⟨its, r, p, hz⟩ := I.tuple hx
 obtain ⟨ob, ho, hc, n, hd⟩ := id p
 have hlen := r.length
 have hemp : its.toArray.isEmpty = false := by
  cases its with
  | nil => cases r; exact absurd rfl hne
  | cons a b => rfl
 refine wpAny_binaryOp_repeat_ref (T := "tuple") (U := "int") (by decide) ⟨_, ho, hc⟩ (fun s' => typeIs_int s' k t) noFill_tup_mul PySem.F.fills_int_mul PySem.F.slot_int_rmul repeat_tup PySem.F.slot_int_index.lookup
  (call_meets PySem.F.slot_int_rmul (typeIs_int s k t) PySem.F.entry_int_rmul (PySem.F.args_int_rmul_2 _ _) (rmul_tup k t a ob its.toArray n hc hd)
   ⟨ho, rfl, ⟨_, ho, hc⟩, call_meets PySem.F.slot_tuple_mul ⟨_, ho, hc⟩ PySem.F.entry_tuple_mul (PySem.F.args_tuple_mul_2 _ _) (mul_tup a its.toArray ob n k t hc hd hemp h1 h2 (by rw [List.size_toArray]; omega)) ⟨ho, ?_⟩⟩)
 have e0 := foldl_arr its k.toNat []
 rw [List.nil_append] at e0
 have e0' : (List.replicate k.toNat its.toArray).foldl (· ++ ·) #[] = (List.replicate k.toNat its).flatten.toArray := e0
 rw [e0']
 refine ⟨.ref s.heap.objs.size, _, I.laid (t' := s.toks) (o := .tup (List.replicate k.toNat xs).flatten) (fun b ob q => Heap.get?_push_of_some _ q) (Nat.le_refl _) ?_, rfl, q _ (I.hok.fresh (Nat.le_refl _))⟩
 refine ⟨?_, _, r.rep k.toNat, IsTupD.new _ _⟩
 rw [len_rep]
 have h3 : k.toNat * xs.length ≤ 1000 * 1000 := Nat.mul_le_mul (by omega) hsz
 exact Nat.le_trans h3 (by decide)
noncomputable def rMulG (K : PySem.W.Frag) : R2 := fun x y H Q => uMul x y H Q ∨ rRepT K x y H Q
theorem op_mulG {X : Cx} (K : PySem.W.Frag) (hK : X.K = K) : OpR X (binaryOp .Mult) (rMulG K) := by subst hK; exact uop_mul.or op_repT
noncomputable def uMulT : U2 := fun r1 r2 μ Q => match cont μ r1, cont μ r2 with
 | some (.int i), some (.int j) => CMul i j ∧ Q (.tr (.int (i * j))) μ
 | some (.lst xs), some (.int k) => -(2 ^ 63) ≤ k ∧ k < 2 ^ 63 ∧ xs.length * k.toNat ≤ sizeLine ∧ Q (.fr (.lst (List.replicate k.toNat xs).flatten)) μ
 | some (.tup xs), some (.int k) => (xs ≠ [] ∧ xs.length ≤ 1000 ∧ 1 < k ∧ k ≤ 1000) ∧ Q (.tr (.tup (List.replicate k.toNat xs).flatten)) μ
 | _, _ => False
theorem ro_mulT {K : PySem.W.Frag} : ROp K (rMulG K) uMulT := by
 intro F ad B σ H μ Q Qt x y r1 r2 hK l h1 h2 q k
 unfold uMulT at q
 split at q
 ·rename_i i j e1 e2
  exact .inl (ro_mul F ad B σ H μ Q Qt x y r1 r2 hK l h1 h2 (by unfold uMulG; rw [e1, e2]; exact q) k)
 ·rename_i xs j e1 e2
  exact .inl (ro_mul F ad B σ H μ Q Qt x y r1 r2 hK l h1 h2 (by unfold uMulG; rw [e1, e2]; exact q) k)
 ·rename_i xs j e1 e2
  have a := h1.vw l e1; have b := h2.vw l e2
  subst hK
  cases b
  cases a with
  | tup ha ra =>
   refine .inr ⟨_, _, _, rfl, rfl, SqT.of ha, ?_, by rw [ra.length]; exact q.1.2.1, q.1.2.2.1, q.1.2.2.2, fun p hp => k _ _ _ μ (Vr.newT l (ra.rep _) hp) (Fr.same (Same.new hp)) (Kp.refl μ) q.2⟩
   rintro rfl
   cases ra
   exact q.1.1 rfl
 ·exact q.elim
end Y
namespace A
theorem mulTII (i j : Int) (μ : Mu) (Q : R → Mu → Prop) : Y.uMulT (.tr (.int i)) (.tr (.int j)) μ Q = (CMul i j ∧ Q (.tr (.int (i * j))) μ) := rfl
theorem mulTLI (xs : List T) (k : Int) (μ : Mu) (Q : R → Mu → Prop) : Y.uMulT (.tr (.lst xs)) (.tr (.int k)) μ Q = (-(2 ^ 63) ≤ k ∧ k < 2 ^ 63 ∧ xs.length * k.toNat ≤ sizeLine ∧ Q (.fr (.lst (List.replicate k.toNat xs).flatten)) μ) := rfl
theorem mulTTI (xs : List T) (k : Int) (μ : Mu) (Q : R → Mu → Prop) : Y.uMulT (.tr (.tup xs)) (.tr (.int k)) μ Q = ((xs ≠ [] ∧ xs.length ≤ 1000 ∧ 1 < k ∧ k ≤ 1000) ∧ Q (.tr (.tup (List.replicate k.toNat xs).flatten)) μ) := rfl
theorem tNeI (i j : Int) (μ : Mu) (Q : R → Mu → Prop) : Y.tNe (.int i) (.int j) μ Q = Q (.tr (.bl (!decide (i = j)))) μ := rfl
theorem tNeS (i j : Str) (μ : Mu) (Q : R → Mu → Prop) : Y.tNe (.str i) (.str j) μ Q = Q (.tr (.bl (!decide (i = j)))) μ := rfl
theorem tNeB (i j : Bool) (μ : Mu) (Q : R → Mu → Prop) : Y.tNe (.bl i) (.bl j) μ Q = Q (.tr (.bl (!decide (i = j)))) μ := rfl
theorem tNeL (xs ys : List T) (μ : Mu) (Q : R → Mu → Prop) : Y.tNe (.lst xs) (.lst ys) μ Q = (xs.all flatT = true ∧ ys.all flatT = true ∧ Q (.tr (.bl (!Y.eqFs xs ys))) μ) := rfl
theorem tNeT (xs ys : List T) (μ : Mu) (Q : R → Mu → Prop) : Y.tNe (.tup xs) (.tup ys) μ Q = (xs.all flatT = true ∧ ys.all flatT = true ∧ Q (.tr (.bl (!Y.eqFs xs ys))) μ) := rfl
end A
end L2
set_option linter.all false
set_option maxRecDepth 100000
set_option maxHeartbeats 4000000
namespace L2
open PySem PySem.Spec PyProof.Rows
section
variable {prog : Program} {w : World} {A : Around} {E : Value → Shared → Prop} {s : Shared}
end
section
variable {X : Cx} {e : Expr} {te : TE}
end
noncomputable def fRev (o : Option T) : Option (Prop × R) := match o with
 | some (.lst xs) => some (True, .fr (.lst xs.reverse))
 | some (.tup xs) => some (True, .tr (.tup xs.reverse))
 | _ => none
namespace Y
end Y
namespace A
theorem rev_l (xs : List T) : fRev (some (.lst xs)) = some (True, .fr (.lst xs.reverse)) := rfl
theorem rev_t (xs : List T) : fRev (some (.tup xs)) = some (True, .tr (.tup xs.reverse)) := rfl
end A
end L2
set_option linter.all false
set_option maxRecDepth 100000
set_option maxHeartbeats 4000000
namespace L2
open PySem PySem.Spec PyProof PyProof.Rows
namespace Y
section
variable {prog : Program} {w : World} {A : Around} {E : Value → Shared → Prop} {s : Shared}
end
theorem ints_reps {K : PySem.W.Frag} {H : Hp} {B : AP'} : ∀ {ns : List Int} {vs : List V}, Reps K H B vs (ns.map T.int) → vs = ns.map V.int
 | [], _, .nil => rfl
 | n :: ns, _, .cons h r => by cases h; rw [ints_reps r]; rfl
noncomputable def rSum (K : PySem.W.Frag) : List V → Hp → VK → Prop := fun xs H Q => ∃ (p : Addr) (ns : List Int), xs = [.ref p] ∧ SqL K H p (ns.map V.int) ∧ Q (.int ns.sum) H
theorem call_sumG {X : Cx} (K : PySem.W.Frag) (hK : X.K = K) (hc : X.calm = true) : CallR X (.builtin "sum") (rSum K) := by subst hK; exact ucall_sum hc
noncomputable def tSum : T → Mu → (R → Mu → Prop) → Prop := fun t μ Q => match t with
 | .lst xs => ∃ ns : List Int, xs = ns.map T.int ∧ Q (.tr (.int ns.sum)) μ
 | _ => False
theorem rc_sum {K : PySem.W.Frag} : RC K (rSum K) (by1 tSum) := by1_of fun F ad B σ H μ Q Qt x t hK l v1 q k => by
 subst hK
 unfold tSum at q
 split at q
 ·obtain ⟨ns, rfl, q⟩ := q
  cases v1 with
  | lst ha ra => exact ⟨_, ns, rfl, by rw [← ints_reps ra]; exact SqL.of ha, k _ _ _ (Vr.flat l (.int _)) Fr.refl q⟩
 ·exact q.elim
noncomputable def CDivG (i j : Int) : Prop := 0 < j ∧ j < 4611686018427387904
theorem op_fdivG {X : Cx} : OpR X (binaryOp .FloorDiv) (rI CDivG fun i j => .int (i / j)) := opI fun i j _ _ _ _ _ hc q => by
 have h1 : (0 : Int) < j := hc.1
 have h2 : j < 4611686018427387904 := hc.2
 exact floordiv_int (by omega) (by rw [Int.fdiv_eq_ediv_of_nonneg i (by omega)]; exact q) (.inl (PyProof.noPylong_of_log2 (Nat.lt_trans ((Nat.log2_lt (k := 62) (by omega)).mpr (by omega)) (by decide))))
end Y
namespace A
theorem tSumL (xs : List T) (μ : Mu) (Q : R → Mu → Prop) : Y.tSum (.lst xs) μ Q = (∃ ns : List Int, xs = ns.map T.int ∧ Q (.tr (.int ns.sum)) μ) := rfl
end A
end L2
set_option linter.all false
set_option maxRecDepth 100000
set_option maxHeartbeats 4000000
namespace L2
open PySem PySem.Spec PyProof PyProof.Rows
namespace Y
section
variable {prog : Program} {w : World} {A : Around} {E : Value → Shared → Prop} {s : Shared}
end
theorem reps_strs {K : PySem.W.Frag} {H : Hp} {B : AP'} : ∀ ns : List Str, Reps K H B (ns.map V.str) (ns.map T.str)
 | [] => .nil
 | n :: ns => .cons (.str _) (reps_strs ns)
theorem bools_reps {K : PySem.W.Frag} {H : Hp} {B : AP'} : ∀ {bs : List Bool} {vs : List V}, Reps K H B vs (bs.map T.bl) → vs = bs.map V.bl
 | [], _, .nil => rfl
 | n :: ns, _, .cons h r => by cases h; rw [bools_reps r]; rfl
noncomputable abbrev UMs := Str → List R → Mu → (R → Mu → Prop) → Prop
end Y
namespace A
end A
end L2
set_option linter.all false
set_option maxRecDepth 100000
set_option maxHeartbeats 4000000
namespace L2
open PySem PySem.Spec PyProof PyProof.Rows
namespace Y
theorem picks' (l : List Nat) : ∀ (n a : Nat), ((List.range n).map (fun k => a + k)).filterMap (l[·]?) = (l.drop a).take n
 | 0, _ => by simp
 | n + 1, a => by
  rw [List.range_succ, List.map_append, List.filterMap_append, picks' l n a, List.take_add_one, List.getElem?_drop]
  cases h : l[a + n]? <;> simp [h]
theorem slice_ix (lo hi : Option Int) (n : Nat) : Builtin.Str.strSliceIndices lo hi 1 n = (List.range (HT.sIx n n hi - HT.sIx n 0 lo)).map (fun k => HT.sIx n 0 lo + k) := by
 have ea : ∀ (v : Int), max 0 (min (if v < 0 then v + (n : Int) else v) (n : Int)) = (((if v < 0 then (v + (n : Int)).toNat else min v.toNat n) : Nat) : Int) := by
  intro v; split <;> omega
 have e : Builtin.Str.strSliceIndices lo hi 1 n = sliceRange (HT.sIx n 0 lo) (HT.sIx n n hi) 1 := by
  cases lo with
  | none => cases hi with
   | none => rfl
   | some j => show sliceRange 0 (max 0 (min (if j < 0 then j + (n : Int) else j) (n : Int))) 1 = _; rw [ea]; rfl
  | some i => cases hi with
   | none => show sliceRange (max 0 (min (if i < 0 then i + (n : Int) else i) (n : Int))) n 1 = _; rw [ea]; rfl
   | some j => show sliceRange (max 0 (min (if i < 0 then i + (n : Int) else i) (n : Int))) (max 0 (min (if j < 0 then j + (n : Int) else j) (n : Int))) 1 = _; rw [ea, ea]; rfl
 rw [e]
 generalize HT.sIx n 0 lo = a
 generalize HT.sIx n n hi = b
 unfold sliceRange
 simp only [show ((1 : Int) > 0) = True from by simp, if_true, Int.one_mul]
 have c : (if (a : Int) < (b : Int) then ((b : Int) - a + 1 - 1) / 1 else 0).toNat = b - a := by split <;> omega
 rw [c]
 refine List.map_congr_left fun k _ => ?_
 omega
theorem slice_cut0 (z : Str) (lo hi : Option Int) : Txt.slice z lo hi = ⟨((z.cps.toList.drop (HT.sIx z.cps.toList.length 0 lo)).take (HT.sIx z.cps.toList.length z.cps.toList.length hi - HT.sIx z.cps.toList.length 0 lo)).toArray⟩ := by
 have hl : z.cps.toList.length = z.length := Array.length_toList
 rw [hl]
 have hp : (Builtin.Str.strSliceIndices lo hi 1 z.length).filterMap (z.cps[·]?) = (z.cps.toList.drop (HT.sIx z.length 0 lo)).take (HT.sIx z.length z.length hi - HT.sIx z.length 0 lo) := by
  rw [slice_ix]
  have := picks' z.cps.toList (HT.sIx z.length z.length hi - HT.sIx z.length 0 lo) (HT.sIx z.length 0 lo)
  simpa using this
 unfold Txt.slice
 split
 ·rename_i h
  rw [slice_ix] at h
  simp at h
  have h2 := HT.sIx_le z.length z.length (Nat.le_refl _) hi
  have h3 := HT.sIx_le z.length 0 (Nat.zero_le _) lo
  have a0 : HT.sIx z.length 0 lo = 0 := by omega
  have b0 : HT.sIx z.length z.length hi = z.length := by omega
  rw [a0, b0, List.drop_zero, Nat.sub_zero, ← hl, List.take_length]
 ·rw [hp]
noncomputable def cutS (z : Str) (lo hi : Option Int) : Str := ⟨(cutG z.cps.toList lo hi).toArray⟩
theorem slice_cut (z : Str) (lo hi : Option Int) : Txt.slice z lo hi = cutS z lo hi := slice_cut0 z lo hi
noncomputable def rSlS : V → Option Int → Option Int → Hp → VK → Prop := fun x lo hi H Q => ∃ z, x = .str z ∧ z.length ≤ sizeLine ∧ Q (.str (cutS z lo hi)) H
theorem sl_str {X : Cx} : SlR X rSlS := by
 intro pins s σ H x v vl vu lo hi sl Q I rx hs pl pu h
 obtain ⟨z, rfl, hz, q⟩ := h
 rw [← slice_cut] at q
 obtain ⟨t, rfl⟩ := rx
 refine ⟨"str", _, PySem.F.slot_str_getitem.lookup, typeIs_str _ _ _, ?_⟩
 cases pl <;> cases pu
 ·exact wpAny_getItem_str_slice (l := none) (u := none) (st := none) hs rfl (post_val_or_str ⟨Nat.le_trans (Txt.slice_le z _ _) hz, fun t' k => ⟨.str _, H, I.tok _, ⟨_, rfl⟩, q⟩⟩)
 ·exact wpAny_getItem_str_slice (l := none) (u := some (_, _)) (st := none) hs rfl (post_val_or_str ⟨Nat.le_trans (Txt.slice_le z _ _) hz, fun t' k => ⟨.str _, H, I.tok _, ⟨_, rfl⟩, q⟩⟩)
 ·exact wpAny_getItem_str_slice (l := some (_, _)) (u := none) (st := none) hs rfl (post_val_or_str ⟨Nat.le_trans (Txt.slice_le z _ _) hz, fun t' k => ⟨.str _, H, I.tok _, ⟨_, rfl⟩, q⟩⟩)
 ·exact wpAny_getItem_str_slice (l := some (_, _)) (u := some (_, _)) (st := none) hs rfl (post_val_or_str ⟨Nat.le_trans (Txt.slice_le z _ _) hz, fun t' k => ⟨.str _, H, I.tok _, ⟨_, rfl⟩, q⟩⟩)
noncomputable def rSlX (K : PySem.W.Frag) : V → Option Int → Option Int → Hp → VK → Prop := fun x lo hi H Q => rSlG K x lo hi H Q ∨ rSlS x lo hi H Q
theorem sl_X {X : Cx} (K : PySem.W.Frag) (hK : X.K = K) : SlR X (rSlX K) := (sl_G K hK).or sl_str
noncomputable def fSlX (a : Option T) (lo hi : Option Int) : Option (Prop × R) := match a with
 | some (.lst xs) => some (True, .fr (.lst (cutG xs lo hi)))
 | some (.rol xs) => some (True, .fr (.lst (cutG xs lo hi)))
 | some (.tup xs) => some (True, .tr (.tup (cutG xs lo hi)))
 | some (.str z) => some (z.length ≤ sizeLine, .tr (.str (cutS z lo hi)))
 | _ => none
noncomputable def uSlX (ue : UE) (ul uh : UO) : UE := fun μ Q => ue μ fun r μ1 => ul μ1 fun lo μ2 => uh μ2 fun hi μ3 => stp (fSlX (cont μ3 r.d) lo hi) fun r => Q r μ3
theorem sliceX {X : Cx} {e : Expr} {ue : UE} {p2 pos : Pos} {lo hi : Option Expr} {ul uh : UO} (K : PySem.W.Frag) (hK : X.K = K) (he : YE X e ue) (hl : YO X lo ul) (hu : YO X hi uh) : YE X (.Subscript e (.Slice lo hi none p2) pos) (uSlX ue ul uh) := by
 obtain ⟨t, q, r⟩ := he; obtain ⟨tl, ql, rl⟩ := hl; obtain ⟨th, qh, rh⟩ := hu
 refine ⟨_, Z.slice (sl_X K hK) q ql qh, fun F ad B σ H μ Q Qt hF l q k => r F ad B σ H μ _ _ hF l q fun v H1 r1 μ1 v1 f1 k1 q1 => rl F ad B σ H1 μ1 _ _ hF v1.rl q1 fun i H2 μ2 l2 f2 k2 q2 => rh F ad B σ H2 μ2 _ _ hF l2 q2 fun j H3 μ3 l3 f3 k3 q3 => ?_⟩
 have hF' : F.K = K := hF.trans hK
 clear hF; subst hF'
 have hv := v1.hv.fr (f2.trans f3) (k2.trans k3)
 have ff := (f1.d.trans f2).trans f3
 have kk := (k1.trans k2).trans k3
 generalize eo : cont μ3 r1.d = o at q3
 unfold fSlX stp at q3
 cases o with
 | none => exact q3.elim
 | some o => cases o with
  | lst xs =>
   have w := hv.vw l3 eo
   cases w with
   | lst ha ra => exact .inl (.inl ⟨_, _, rfl, SqL.of ha, fun p hp => k _ _ _ μ3 (Vr.newL l3 (Reps.cut ra i j) hp) (ff.trans (Fr.more hp)) kk q3.2⟩)
  | rol xs =>
   have w := hv.vw l3 eo
   cases w with
   | rol ha ra => exact .inl (.inl ⟨_, _, rfl, ha, fun p hp => k _ _ _ μ3 (Vr.newL l3 (Reps.cut ra i j) hp) (ff.trans (Fr.more hp)) kk q3.2⟩)
  | tup xs =>
   have w := Hv.tupR l3 hv eo
   have w' := w
   cases w with
   | tup na ha ra =>
    by_cases z : HT.sIx xs.length 0 i = 0 ∧ HT.sIx xs.length xs.length j = xs.length
    ·have e0 : cutG xs i j = xs := by unfold cutG; rw [z.1, z.2, Nat.sub_zero, List.drop_zero, List.take_length]
     have q4 := q3.2
     rw [e0] at q4
     exact .inl (.inr (.inr ⟨_, _, rfl, SqT.of ha, by rw [ra.length]; exact z.1, by rw [ra.length]; exact z.2, k _ H3 _ μ3 (Vr.flat l3 w') ff kk q4⟩))
    ·exact .inl (.inr (.inl ⟨_, _, rfl, SqT.of ha, by rw [ra.length]; exact z, fun p hp => k _ _ _ μ3 (Vr.newT l3 (Reps.cut ra i j) hp) (ff.trans (Fr.same (Same.new hp))) kk q3.2⟩))
  | str z =>
   have w := hv.vw l3 eo
   cases w
   exact .inr ⟨z, rfl, q3.1, k _ H3 _ μ3 (Vr.flat l3 (.str _)) ff kk q3.2⟩
  | non => exact q3.elim
  | bl b => exact q3.elim
  | int n => exact q3.elim
  | rng a b => exact q3.elim
  | dic a b => exact q3.elim
  | exc a b => exact q3.elim
  | ktp xs => exact q3.elim
noncomputable def uPopAt : UM := fun j rs μ Q => match rs with
 | [.tr (.int i)] => (match (μ[j]?).bind Sl.box with
  | some (.lst ts) => -(2 ^ 63) ≤ i ∧ i < 2 ^ 63 ∧ ∃ k t, seqIndex? i ts.length = some k ∧ ts[k]? = some t ∧ Q (.tr t) (putS μ j (.lst (ts.eraseIdx k)))
  | _ => False)
 | _ => False
theorem rm_popAt {K : PySem.W.Frag} : RM K rPopAt uPopAt := by
 intro F ad B σ H μ Q Qt j s c xs rs hF l e b ps q k
 unfold uPopAt at q
 split at q
 ·rename_i i
  cases ps with
  | cons h ps =>
   cases ps
   rw [e] at q
   cases rep_of h
   have q' : (match s.box with | some (.lst ts) => -(2 ^ 63) ≤ i ∧ i < 2 ^ 63 ∧ ∃ k t, seqIndex? i ts.length = some k ∧ ts[k]? = some t ∧ Qt (.tr t) (putS μ j (.lst (ts.eraseIdx k))) | _ => False) := q
   rw [b] at q'
   rcases ((l.slot j s e).boxed b).2.2.1.is with ⟨ts, vs, rfl, hl, rv⟩ | ⟨_, _, _, rfl, _⟩
   case inr => exact q'.elim
   simp only at q'
   obtain ⟨h1, h2, n, t, hk, ht, q2⟩ := q'
   obtain ⟨y, hy, ry⟩ := rv.get ht
   have fs : Fr B H B (upd H (ad j) (.lst (vs.eraseIdx n))) := Fr.set ((l.slot j s e).boxed b).2.1
   refine ⟨_, _, i, n, y, rfl, rfl, hl, h1, h2, by rw [rv.length]; exact hk, hy, ?_⟩
   have l3 := l.put e b (rv.erase n)
   unfold putS at q2
   rw [e] at q2
   exact k _ _ (.tr t) _ (Vr.flat l3 (ry.fr fs)) fs (Kp.set e b (Sl.put_box b)) q2
 ·exact q.elim
noncomputable def gNF (i : Nat) : UG := fun r μ Q => match r with
 | .tr t => noP μ i ∧ Q (μ.set i (.tr t))
 | .fr t => noP μ i ∧ Q (μ.set i (.tr t))
 | .br _ => False
theorem rg_nameF {K : PySem.W.Frag} {i : Nat} : RG K (gName i) (gNF i) := fun F ad B σ H μ v r B0 H0 Q Qt hK h f q k => by
 cases r with
 | tr t => exact k ad B _ H _ (h.1.setT (noP_ne q.1) h.2) f q.2
 | br i => exact q.elim
 | fr c =>
  refine k ad B _ H _ (h.rl.setT (noP_ne q.1) h.hv) (f.trans (Fr.less fun b z => ?_)) q.2
  obtain ⟨_, a, rfl, _⟩ := h
  exact Or.inr z
section
variable {X : Cx} {e elt tg iter : Expr} {ifs : List Expr} {ue : UE} {ut : UT} {ui : UI} {pos pos' p2 : Pos} {x : Str} {osc scope : Scope} {ON own N : List Str}
theorem setF {i : Nat} (hN : X.N.Nodup) (hi : X.N[i]? = some x) (hx : Loc X.env.scope x) (he : YE X e ue) (hs : autoParam (Z.noc e = true) L2.aRfl._auto_1) (hf : autoParam (X.fn x = true ∨ X.env.scope.names.lookup x = some .local) L2.aLoc._auto_1) :
  YS X (.Assign [.Name x pos'] e pos) (uAsg ue (gNF i)) := by
 obtain ⟨t, q, r⟩ := he
 exact ⟨_, Z.set hN hi hx q hs hf, rs_asg r rg_nameF⟩
end
end Y
namespace A
theorem uPopAt (j : Nat) (i : Int) (μ : Mu) (Q : R → Mu → Prop) : Y.uPopAt j [.tr (.int i)] μ Q = (match (μ[j]?).bind Sl.box with
  | some (.lst ts) => -(2 ^ 63) ≤ i ∧ i < 2 ^ 63 ∧ ∃ k t, seqIndex? i ts.length = some k ∧ ts[k]? = some t ∧ Q (.tr t) (putS μ j (.lst (ts.eraseIdx k)))
  | _ => False) := rfl
theorem uSlX (ue : UE) (ul uh : UO) (μ : Mu) (Q : R → Mu → Prop) : Y.uSlX ue ul uh μ Q = ue μ fun r μ1 => ul μ1 fun lo μ2 => uh μ2 fun hi μ3 => stp (Y.fSlX (cont μ3 r.d) lo hi) fun r => Q r μ3 := rfl
theorem slx_l (xs : List T) (lo hi : Option Int) : Y.fSlX (some (.lst xs)) lo hi = some (True, .fr (.lst (Y.cutG xs lo hi))) := rfl
theorem slx_r (xs : List T) (lo hi : Option Int) : Y.fSlX (some (.rol xs)) lo hi = some (True, .fr (.lst (Y.cutG xs lo hi))) := rfl
theorem slx_t (xs : List T) (lo hi : Option Int) : Y.fSlX (some (.tup xs)) lo hi = some (True, .tr (.tup (Y.cutG xs lo hi))) := rfl
theorem slx_s (z : Str) (lo hi : Option Int) : Y.fSlX (some (.str z)) lo hi = some (z.length ≤ sizeLine, .tr (.str (Y.cutS z lo hi))) := rfl
theorem gNFt (i : Nat) (t : T) (μ : Mu) (Q : Mu → Prop) : Y.gNF i (.tr t) μ Q = (Y.noP μ i ∧ Q (μ.set i (.tr t))) := rfl
theorem gNFf (i : Nat) (t : T) (μ : Mu) (Q : Mu → Prop) : Y.gNF i (.fr t) μ Q = (Y.noP μ i ∧ Q (μ.set i (.tr t))) := rfl
end A
end L2
set_option linter.all false
set_option maxRecDepth 100000
set_option maxHeartbeats 4000000
namespace L2
open PySem PySem.Spec PyProof PyProof.Rows
namespace Y
end Y
namespace A
end A
end L2
set_option linter.all false
set_option maxRecDepth 100000
set_option maxHeartbeats 4000000
namespace L2
open PySem PySem.Spec PyProof PyProof.Rows
section
variable {h : Heap} {e : Addr} {cls : Value} {d : Option Addr} {base : Heap} {l : List Env}
end
section
variable {M : Model} {A : Around} {E : Value → Shared → Prop} {s : Shared} {env : Env} {outer : List Env} {L e : Addr} {cls : Value} {d : Option Addr} {base : Heap}
end
end L2
set_option linter.all false
set_option maxRecDepth 100000
set_option maxHeartbeats 4000000
namespace L2
open PySem PySem.Spec PyProof PyProof.Rows
section
variable {X : Cx} {pins : List (Addr × Obj)} {σ : St} {H H' : Hp} {s : Shared} {h' : Heap}
end
end L2
set_option linter.all false
set_option maxRecDepth 100000
set_option maxHeartbeats 4000000
namespace L2
open PySem PySem.Spec PyProof PyProof.Rows
section
variable {X : Cx}
end
end L2
set_option linter.all false
set_option maxRecDepth 100000
set_option maxHeartbeats 4000000
namespace L2
open PySem PySem.Spec PyProof PyProof.Rows
noncomputable abbrev Xw := T → Mu → Prop
noncomputable abbrev UX := Mu → (R → Mu → Prop) → Xw → Prop
noncomputable abbrev UXS := Ed → Xw → Mu → Prop
namespace Y
section
variable {X : Cx} {a b c e o tg : Expr} {es rest : List Expr} {ua ub uc ue uo : UE} {uA uB : UT} {us : UA} {pos pos' p p2 p3 : Pos} {x : Str} {st : Stmt} {sts xs ys : List Stmt} {u w : US} {ux : UX} {uxs wxs : UXS}
end
end Y
end L2
set_option linter.all false
set_option maxRecDepth 100000
set_option maxHeartbeats 4000000
namespace L2
open PySem PySem.Spec PyProof PyProof.Rows
namespace Y
end Y
end L2
set_option linter.all false
set_option maxRecDepth 100000
set_option maxHeartbeats 4000000
namespace L2
open PySem PySem.Spec PyProof PyProof.Rows
section
variable {X : Cx} {pins pins' : List (Addr × Obj)} {σ : St} {H : Hp} {s : Shared} {E : Value → Shared → Prop} {e : Addr}
end
namespace Y
end Y
end L2
set_option linter.all false
set_option maxRecDepth 100000
set_option maxHeartbeats 4000000
namespace L2
open PySem PySem.Spec PyProof PyProof.Rows
noncomputable abbrev UJ := Mu → (Mu → Prop) → Prop
namespace Y
section
variable {X : Cx} {e : Expr} {vs : List Expr} {ue : UE} {u : UJ} {pos p : Pos}
end
end Y
namespace A
end A
end L2
set_option linter.all false
set_option maxRecDepth 100000
set_option maxHeartbeats 4000000
namespace L2
open PySem PySem.Spec PyProof PyProof.Rows
namespace Y
noncomputable def inF (t : T) (xs : List T) : Bool := xs.any fun y => eqF y t
theorem inF_V {K : PySem.W.Frag} {H : Hp} {B : AP'} {x : V} {t : T} (h : Rep K H B x t) (f : flatT t = true) : ∀ {ys : List V} {us : List T}, Reps K H B ys us → us.all flatT = true → flatV x = true ∧ ys.all flatV = true ∧ inV x ys = inF t us
 | _, _, .nil, _ => by
  refine ⟨?_, rfl, rfl⟩
  cases h <;> first | rfl | cases f
 | _, _, .cons h2 r, f2 => by
  rw [List.all_cons, Bool.and_eq_true] at f2
  obtain ⟨a1, a2, a3⟩ := inF_V h f r f2.2
  obtain ⟨b1, b2, b3⟩ := eqF_V h2 h f2.1 f
  refine ⟨a1, by rw [List.all_cons, b1, a2]; rfl, ?_⟩
  unfold inV inF at a3 ⊢
  rw [List.any_cons, List.any_cons, b3, a3]
noncomputable def rInG (K : PySem.W.Frag) (neg : Bool) : R2 := fun x y H Q => rIn K neg x y H Q ∨ ∃ i j, x = .str i ∧ y = .str j ∧ Q (.bl (if neg then !(!(Builtin.Str.occurrences j i 0 j.length 1).isEmpty) else !(Builtin.Str.occurrences j i 0 j.length 1).isEmpty)) H
theorem op_inG {X : Cx} (K : PySem.W.Frag) (hK : X.K = K) : OpR X (compareOp .In) (rInG K false) := by subst hK; exact op_in_seq.or op_in_str
noncomputable def occ (i j : Str) : Bool := !(Builtin.Str.occurrences j i 0 j.length 1).isEmpty
noncomputable def tIn (neg : Bool) : T → T → Mu → (R → Mu → Prop) → Prop := fun t u μ Q => match u with
 | .tup xs => flatT t = true ∧ xs.all flatT = true ∧ Q (.tr (.bl (if neg then !inF t xs else inF t xs))) μ
 | .lst xs => flatT t = true ∧ xs.all flatT = true ∧ Q (.tr (.bl (if neg then !inF t xs else inF t xs))) μ
 | .ktp xs => flatT t = true ∧ xs.all flatT = true ∧ Q (.tr (.bl (if neg then !inF t xs else inF t xs))) μ
 | .str j => (match t with | .str i => Q (.tr (.bl (if neg then !occ i j else occ i j))) μ | _ => False)
 | _ => False
theorem Vw.flatR {K : PySem.W.Frag} {H : Hp} {B : AP'} {v : V} {t : T} (h : Vw K H B v t) (f : flatT t = true) : Rep K H B v t := by
 cases h with
 | non => exact .non
 | bl b => exact .bl b
 | int i => exact .int i
 | str x => exact .str x
 | tup => cases f
 | ktp => cases f
 | lst => cases f
 | rol => cases f
 | rng => cases f
 | dic => cases f
 | exc => cases f
 | exa => cases f
theorem ro_in {K : PySem.W.Frag} {neg : Bool} : ROp K (rInG K neg) (byT (tIn neg)) := byT_of fun F ad B σ H μ Q Qt x y t u hK l v1 v2 q k => by
 subst hK
 unfold tIn at q
 split at q
 ·obtain ⟨f1, f2, q⟩ := q
  cases v2 with
  | tup ha ra =>
   obtain ⟨a1, a2, a3⟩ := inF_V (Vw.flatR v1 f1) f1 ra f2
   exact .inl ⟨_, _, rfl, .inr (SqT.of ha), a1, a2, by rw [a3]; exact k _ H _ (Vr.flat l (.bl _)) Fr.refl q⟩
 ·obtain ⟨f1, f2, q⟩ := q
  cases v2 with
  | lst ha ra =>
   obtain ⟨a1, a2, a3⟩ := inF_V (Vw.flatR v1 f1) f1 ra f2
   exact .inl ⟨_, _, rfl, .inl (SqL.of ha), a1, a2, by rw [a3]; exact k _ H _ (Vr.flat l (.bl _)) Fr.refl q⟩
 ·obtain ⟨f1, f2, q⟩ := q
  cases v2 with
  | ktp ha ra =>
   obtain ⟨a1, a2, a3⟩ := inF_V (Vw.flatR v1 f1) f1 ra f2
   exact .inl ⟨_, _, rfl, .inr (.inr ha), a1, a2, by rw [a3]; exact k _ H _ (Vr.flat l (.bl _)) Fr.refl q⟩
 ·split at q
  ·cases v1; cases v2
   exact .inr ⟨_, _, rfl, rfl, k _ H _ (Vr.flat l (.bl _)) Fr.refl q⟩
  ·exact q.elim
 ·exact q.elim
end Y
namespace A
theorem tInT (neg : Bool) (t : T) (xs : List T) (μ : Mu) (Q : R → Mu → Prop) : Y.tIn neg t (.tup xs) μ Q = (flatT t = true ∧ xs.all flatT = true ∧ Q (.tr (.bl (if neg then !Y.inF t xs else Y.inF t xs))) μ) := rfl
theorem tInL (neg : Bool) (t : T) (xs : List T) (μ : Mu) (Q : R → Mu → Prop) : Y.tIn neg t (.lst xs) μ Q = (flatT t = true ∧ xs.all flatT = true ∧ Q (.tr (.bl (if neg then !Y.inF t xs else Y.inF t xs))) μ) := rfl
theorem tInK (neg : Bool) (t : T) (xs : List T) (μ : Mu) (Q : R → Mu → Prop) : Y.tIn neg t (.ktp xs) μ Q = (flatT t = true ∧ xs.all flatT = true ∧ Q (.tr (.bl (if neg then !Y.inF t xs else Y.inF t xs))) μ) := rfl
theorem tInS (neg : Bool) (i j : Str) (μ : Mu) (Q : R → Mu → Prop) : Y.tIn neg (.str i) (.str j) μ Q = Q (.tr (.bl (if neg then !Y.occ i j else Y.occ i j))) μ := rfl
end A
end L2
set_option linter.all false
set_option maxRecDepth 100000
set_option maxHeartbeats 4000000
namespace L2
open PySem PySem.Spec PyProof PyProof.Rows
noncomputable def allE (n m : Nat) (e : Nat → Bool) : Bool := (List.range (min n m)).all e && n == m
inductive EqD : Nat → T → T → Bool → Prop
 | flat {n : Nat} {t u : T} (f1 : flatT t = true) (f2 : flatT u = true) : EqD n t u (Y.eqF t u)
 | tup {n : Nat} {xs ys : List T} (e : Nat → Bool) (h : ∀ (j : Nat) (x y : T), xs[j]? = some x → ys[j]? = some y → EqD n x y (e j)) : EqD (n + 1) (.tup xs) (.tup ys) (allE xs.length ys.length e)
 | lst {n : Nat} {xs ys : List T} (e : Nat → Bool) (h : ∀ (j : Nat) (x y : T), xs[j]? = some x → ys[j]? = some y → EqD n x y (e j)) : EqD (n + 1) (.lst xs) (.lst ys) (allE xs.length ys.length e)
theorem eqF_self {t u : T} {v : V} {K : PySem.W.Frag} {H : Hp} {B : AP'} (h1 : Rep K H B v t) (h2 : Rep K H B v u) (f1 : flatT t = true) (f2 : flatT u = true) : Y.eqF t u = true := by
 cases h1 <;> first | (cases f1; done) | (cases h2 <;> first | (cases f2; done) | simp [Y.eqF])
theorem allE_true {n m : Nat} {e : Nat → Bool} (h : n = m) (h2 : ∀ j, j < n → e j = true) : allE n m e = true := by
 subst h
 unfold allE
 rw [Nat.min_self, beq_self_eq_true, Bool.and_true, List.all_eq_true]
 intro j hj
 exact h2 j (by simpa using hj)
theorem EqD.same {n : Nat} {t u : T} {b : Bool} (d : EqD n t u b) : ∀ {K : PySem.W.Frag} {H : Hp} {B : AP'} {v : V}, Rep K H B v t → Rep K H B v u → b = true := by
 induction d with
 | flat f1 f2 => exact fun h1 h2 => eqF_self h1 h2 f1 f2
 | tup e h ih =>
  rename_i nn xs ys
  intro K H B v h1 h2
  cases h1 with
  | tup n1 a1 r1 => cases h2 with
   | tup n2 a2 r2 =>
    rw [a1] at a2; cases a2
    refine allE_true (r1.length.symm.trans r2.length) fun j hj => ?_
    have hx := List.getElem?_eq_getElem hj
    have hj2 : j < ys.length := by rw [← r2.length, r1.length]; exact hj
    have hy := List.getElem?_eq_getElem hj2
    obtain ⟨v1, g1, p1⟩ := r1.get hx
    obtain ⟨v2, g2, p2⟩ := r2.get hy
    rw [g1] at g2; cases g2
    exact ih j _ _ hx hy p1 p2
 | lst e h ih =>
  rename_i nn xs ys
  intro K H B v h1 h2
  cases h1 with
  | lst n1 a1 r1 => cases h2 with
   | lst n2 a2 r2 =>
    rw [a1] at a2; cases a2
    refine allE_true (r1.length.symm.trans r2.length) fun j hj => ?_
    have hx := List.getElem?_eq_getElem hj
    have hj2 : j < ys.length := by rw [← r2.length, r1.length]; exact hj
    have hy := List.getElem?_eq_getElem hj2
    obtain ⟨v1, g1, p1⟩ := r1.get hx
    obtain ⟨v2, g2, p2⟩ := r2.get hy
    rw [g1] at g2; cases g2
    exact ih j _ _ hx hy p1 p2
section
variable {X : Cx} {pins : List (Addr × Obj)} {σ : St} {H : Hp} {s : Shared} {B : AP'}
theorem items_eq {A : Around} {n : Nat} {xs ys : List T} {vs ws : List V} {its its2 : List Value} {e : Nat → Bool} (r1 : Reps X.K H B vs xs) (r2 : Reps X.K H B ws ys) (g1 : Vals vs its) (g2 : Vals ws its2)
  (ih : ∀ (j : Nat) (x y : T), xs[j]? = some x → ys[j]? = some y → ∀ (v w : V) (a b : Value), Rep X.K H B v x → Rep X.K H B w y → RelV v a → RelV w b → SeqAt.EqAt A s a b (e j)) :
  ∀ j (h1 : j < its.toArray.size) (h2 : j < its2.toArray.size), SeqAt.EqAt A s its.toArray[j] its2.toArray[j] (e j) := by
 intro j h1 h2
 have l1 := g1.length; have l2 := g2.length; have l3 := r1.length; have l4 := r2.length
 rw [List.size_toArray] at h1 h2
 have hx := List.getElem?_eq_getElem (show j < xs.length by omega)
 have hy := List.getElem?_eq_getElem (show j < ys.length by omega)
 obtain ⟨v1, q1, p1⟩ := r1.get hx
 obtain ⟨v2, q2, p2⟩ := r2.get hy
 obtain ⟨u1, e1, f1⟩ := g1.get q1
 obtain ⟨u2, e2, f2⟩ := g2.get q2
 have z1 : its.toArray[j] = u1 := by
  rw [List.getElem?_eq_getElem h1] at e1; simpa using e1
 have z2 : its2.toArray[j] = u2 := by
  rw [List.getElem?_eq_getElem h2] at e2; simpa using e2
 rw [z1, z2]
 exact ih j _ _ hx hy v1 v2 u1 u2 p1 p2 f1 f2
theorem size_all {vs ws : List V} {xs ys : List T} {its its2 : List Value} (e : Nat → Bool) (r1 : Reps X.K H B vs xs) (r2 : Reps X.K H B ws ys) (g1 : Vals vs its) (g2 : Vals ws its2) : ((List.range (min its.toArray.size its2.toArray.size)).all e && its.toArray.size == its2.toArray.size) = allE xs.length ys.length e := by
 have l1 := g1.length; have l2 := g2.length; have l3 := r1.length; have l4 := r2.length
 unfold allE
 rw [List.size_toArray, List.size_toArray, ← l1, ← l2, l3, l4]
theorem eqAt_D {n : Nat} {t u : T} {b : Bool} (d : EqD n t u b) : ∀ (I : Inv X pins σ H s) {A : Around} (hu : A.units + n < cLine) (v w : V) (a c : Value), Rep X.K H B v t → Rep X.K H B w u → RelV v a → RelV w c → SeqAt.EqAt A s a c b := by
 induction d with
 | flat f1 f2 =>
  intro I A hu v w a c h1 h2 r1 r2
  obtain ⟨z1, z2, z3⟩ := Y.eqF_V h1 h2 f1 f2
  rw [← z3]
  exact eqAt_V r1 r2 z1 z2
 | tup e h ih =>
  intro I A hu v w a c h1 h2 r1 r2
  rename_i n xs ys
  have h1' := h1
  have h2' := h2
  cases h1 with
  | tup n1 a1 q1 => cases h2 with
   | tup n2 a2 q2 =>
    rename_i p1 vs p2 ws
    cases r1; cases r2
    by_cases z : p1 = p2
    ·subst z
     rw [(EqD.tup (n := n) e h).same h1' h2']
     exact SeqAt.EqAt.same _
    ·obtain ⟨its, g1, pl1, _⟩ := I.tuple (SqT.of a1)
     obtain ⟨its2, g2, pl2, _⟩ := I.tuple (SqT.of a2)
     rw [← size_all (X := X) e q1 q2 g1 g2]
     exact SeqAt.EqAt.of_refs z (SeqAt.RcAt.tuples pl1 pl2 (by omega) (items_eq (n := n) q1 q2 g1 g2 fun j x y hx hy v w a c => ih j x y hx hy I (A := A.in1) (by show A.units + 1 + n < cLine; omega) v w a c))
 | lst e h ih =>
  intro I A hu v w a c h1 h2 r1 r2
  rename_i n xs ys
  have h1' := h1
  have h2' := h2
  cases h1 with
  | lst n1 a1 q1 => cases h2 with
   | lst n2 a2 q2 =>
    rename_i p1 vs p2 ws
    cases r1; cases r2
    by_cases z : p1 = p2
    ·subst z
     rw [(EqD.lst (n := n) e h).same h1' h2']
     exact SeqAt.EqAt.same _
    ·obtain ⟨its, g1, pl1, _⟩ := I.list (SqL.of a1)
     obtain ⟨its2, g2, pl2, _⟩ := I.list (SqL.of a2)
     have sz := size_all (X := X) e q1 q2 g1 g2
     rw [← sz]
     by_cases hs : its.toArray.size = its2.toArray.size
     ·rw [hs, Nat.min_self, beq_self_eq_true, Bool.and_true, ← hs]
      exact SeqAt.EqAt.of_refs z (SeqAt.RcAt.lists pl1.isList pl2.isList hs (by omega) (items_eq (n := n) q1 q2 g1 g2 fun j x y hx hy v w a c => ih j x y hx hy I (A := A.in1) (by show A.units + 1 + n < cLine; omega) v w a c))
     ·rw [beq_eq_false_iff_ne.mpr hs, Bool.and_false]
      exact SeqAt.EqAt.of_refs z (SeqAt.RcAt.lists_lengths pl1.isList pl2.isList (bne_iff_ne.mpr hs) (by omega))
end
namespace Y
noncomputable def rEqD (K : PySem.W.Frag) (n : Nat) (neg : Bool) : R2 := fun x y H Q => ∃ (B : AP') (a b : Addr) (vs ws : List V) (xs ys : List T) (e : Nat → Bool), x = .ref a ∧ y = .ref b ∧ ((SqT K H a vs ∧ SqT K H b ws) ∨ (SqL K H a vs ∧ SqL K H b ws)) ∧ Reps K H B vs xs ∧ Reps K H B ws ys ∧
 (∀ (j : Nat) (x y : T), xs[j]? = some x → ys[j]? = some y → EqD n x y (e j)) ∧ Q (.bl (if neg then !allE xs.length ys.length e else allE xs.length ys.length e)) H
theorem op_eqD0 {X : Cx} {n : Nat} (hu : X.A.units + n + 1 < cLine) : OpR X (compareOp .Eq) (rEqD X.K n false) := by
 intro pins s σ H x y v u Q I rx ry h
 obtain ⟨B, a, b, vs, ws, xs, ys, e, rfl, rfl, hq, r1, r2, ih, q⟩ := h
 cases rx; cases ry
 have it : ∀ (j : Nat) (x y : T), xs[j]? = some x → ys[j]? = some y → ∀ (v w : V) (a b : Value), Rep X.K H B v x → Rep X.K H B w y → RelV v a → RelV w b → SeqAt.EqAt X.A.in1 s a b (e j) := fun j x y hx hy v w a c => eqAt_D (ih j x y hx hy) I (A := X.A.in1) (by show X.A.units + 1 + n < cLine; omega) v w a c
 rcases hq with ⟨ha, hb⟩ | ⟨ha, hb⟩
 ·obtain ⟨its, g1, p1, _⟩ := I.tuple ha
  obtain ⟨its2, g2, p2, _⟩ := I.tuple hb
  refine SeqAt.eq_tupleAt p1 p2 (by omega) (items_eq (n := n) r1 r2 g1 g2 it) ⟨.bl _, H, I, rfl, ?_⟩
  rw [size_all (X := X) e r1 r2 g1 g2]; exact q
 ·obtain ⟨its, g1, p1, _⟩ := I.list ha
  obtain ⟨its2, g2, p2, _⟩ := I.list hb
  have sz := size_all (X := X) e r1 r2 g1 g2
  by_cases hs : its.toArray.size = its2.toArray.size
  ·rw [hs, Nat.min_self, beq_self_eq_true, Bool.and_true, ← hs] at sz
   refine SeqAt.eq_listAt p1.isList p2.isList hs (by omega) (items_eq (n := n) r1 r2 g1 g2 it) ⟨.bl _, H, I, rfl, ?_⟩
   rw [sz]; exact q
  ·rw [beq_eq_false_iff_ne.mpr hs, Bool.and_false] at sz
   refine SeqAt.eq_list_lengthsAt p1.isList p2.isList (bne_iff_ne.mpr hs) (by omega) ⟨.bl _, H, I, rfl, ?_⟩
   rw [sz]; exact q
theorem op_neD0 {X : Cx} {n : Nat} (hu : X.A.units + n + 1 < cLine) : OpR X (compareOp .NotEq) (rEqD X.K n true) := by
 intro pins s σ H x y v u Q I rx ry h
 obtain ⟨B, a, b, vs, ws, xs, ys, e, rfl, rfl, hq, r1, r2, ih, q⟩ := h
 cases rx; cases ry
 have it : ∀ (j : Nat) (x y : T), xs[j]? = some x → ys[j]? = some y → ∀ (v w : V) (a b : Value), Rep X.K H B v x → Rep X.K H B w y → RelV v a → RelV w b → SeqAt.EqAt X.A.in1 s a b (e j) := fun j x y hx hy v w a c => eqAt_D (ih j x y hx hy) I (A := X.A.in1) (by show X.A.units + 1 + n < cLine; omega) v w a c
 rcases hq with ⟨ha, hb⟩ | ⟨ha, hb⟩
 ·obtain ⟨its, g1, p1, _⟩ := I.tuple ha
  obtain ⟨its2, g2, p2, _⟩ := I.tuple hb
  refine SeqAt.RcNeAt.tuples p1 p2 (by omega) (items_eq (n := n) r1 r2 g1 g2 it) X.prog X.w X.xe _ ⟨.bl _, H, I, rfl, ?_⟩
  rw [size_all (X := X) e r1 r2 g1 g2]; exact q
 ·obtain ⟨its, g1, p1, _⟩ := I.list ha
  obtain ⟨its2, g2, p2, _⟩ := I.list hb
  have sz := size_all (X := X) e r1 r2 g1 g2
  by_cases hs : its.toArray.size = its2.toArray.size
  ·rw [hs, Nat.min_self, beq_self_eq_true, Bool.and_true, ← hs] at sz
   refine SeqAt.RcNeAt.lists p1.isList p2.isList hs (by omega) (items_eq (n := n) r1 r2 g1 g2 it) X.prog X.w X.xe _ ⟨.bl _, H, I, rfl, ?_⟩
   rw [sz]; exact q
  ·rw [beq_eq_false_iff_ne.mpr hs, Bool.and_false] at sz
   refine SeqAt.RcNeAt.lists_lengths p1.isList p2.isList (bne_iff_ne.mpr hs) (by omega) X.prog X.w X.xe _ ⟨.bl true, H, I, rfl, ?_⟩
   have q2 := q
   rw [← sz] at q2; exact q2
end Y
end L2
set_option linter.all false
set_option maxRecDepth 100000
set_option maxHeartbeats 4000000
namespace L2
open PySem PySem.Spec PyProof PyProof.Rows
namespace Y
end Y
end L2
set_option linter.all false
set_option maxRecDepth 100000
set_option maxHeartbeats 4000000
namespace L2
open PySem PySem.Spec PyProof PyProof.Rows
theorem hu4_of {A : Around} {k : Nat} (hr : Room k A) : A.units + 4 + 1 < cLine := Nat.lt_of_le_of_lt (Nat.add_le_add_left (by decide : 4 + 1 ≤ 64) _) hr.units
namespace Y
noncomputable def rEqX (K : PySem.W.Frag) : R2 := fun x y H Q => rEqG K x y H Q ∨ rEqD K 4 false x y H Q
theorem op_eqX {X : Cx} (K : PySem.W.Frag) (hK : X.K = K) (hu : X.A.units + 4 + 1 < cLine) : OpR X (compareOp .Eq) (rEqX K) := by subst hK; exact (op_eqG X.K rfl (by omega)).or (op_eqD0 hu)
noncomputable def rNeX (K : PySem.W.Frag) : R2 := fun x y H Q => rNeG K x y H Q ∨ rEqD K 4 true x y H Q
theorem op_neX {X : Cx} (K : PySem.W.Frag) (hK : X.K = K) (hu : X.A.units + 4 + 1 < cLine) : OpR X (compareOp .NotEq) (rNeX K) := by subst hK; exact (op_neG X.K rfl (by omega)).or (op_neD0 hu)
noncomputable def deepE (xs ys : List T) (neg : Bool) (μ : Mu) (Q : R → Mu → Prop) : Prop := ∃ e : Nat → Bool, (∀ (j : Nat) (x y : T), xs[j]? = some x → ys[j]? = some y → EqD 4 x y (e j)) ∧ Q (.tr (.bl (if neg then !allE xs.length ys.length e else allE xs.length ys.length e))) μ
noncomputable def tEqX : T → T → Mu → (R → Mu → Prop) → Prop := fun t u μ Q => match t, u with
 | .tup xs, .tup ys => deepE xs ys false μ Q
 | .lst xs, .lst ys => deepE xs ys false μ Q
 | t, u => tEq false t u μ Q
noncomputable def tNeX : T → T → Mu → (R → Mu → Prop) → Prop := fun t u μ Q => match t, u with
 | .tup xs, .tup ys => deepE xs ys true μ Q
 | .lst xs, .lst ys => deepE xs ys true μ Q
 | t, u => tNe t u μ Q
theorem ro_eqX {K : PySem.W.Frag} : ROp K (rEqX K) (byT tEqX) := byT_of fun F ad B σ H μ Q Qt x y t u hK l v1 v2 q k => by
 unfold tEqX at q
 split at q
 ·obtain ⟨e, h, q⟩ := q
  subst hK
  cases v1 with
  | tup ha ra => cases v2 with
   | tup hb rb => exact .inr ⟨B, _, _, _, _, _, _, e, rfl, rfl, .inl ⟨SqT.of ha, SqT.of hb⟩, ra, rb, h, k _ H _ (Vr.flat l (.bl _)) Fr.refl q⟩
 ·obtain ⟨e, h, q⟩ := q
  subst hK
  cases v1 with
  | lst ha ra => cases v2 with
   | lst hb rb => exact .inr ⟨B, _, _, _, _, _, _, e, rfl, rfl, .inr ⟨SqL.of ha, SqL.of hb⟩, ra, rb, h, k _ H _ (Vr.flat l (.bl _)) Fr.refl q⟩
 ·subst hK
  unfold tEq at q
  split at q
  ·cases v1; cases v2
   refine .inl (.inl ⟨rfl, ?_⟩)
   rw [dV (f := V.int) (fun a b h => by injection h)]
   exact k _ H _ (Vr.flat l (.bl _)) Fr.refl q
  ·cases v1; cases v2
   refine .inl (.inl ⟨rfl, ?_⟩)
   rw [dV (f := V.str) (fun a b h => by injection h)]
   exact k _ H _ (Vr.flat l (.bl _)) Fr.refl q
  ·cases v1; cases v2
   refine .inl (.inl ⟨rfl, ?_⟩)
   rw [dV (f := V.bl) (fun a b h => by injection h)]
   exact k _ H _ (Vr.flat l (.bl _)) Fr.refl q
  ·exfalso; simp_all
  ·exfalso; simp_all
  ·exact q.elim
theorem ro_neX {K : PySem.W.Frag} : ROp K (rNeX K) (byT tNeX) := byT_of fun F ad B σ H μ Q Qt x y t u hK l v1 v2 q k => by
 unfold tNeX at q
 split at q
 ·obtain ⟨e, h, q⟩ := q
  subst hK
  cases v1 with
  | tup ha ra => cases v2 with
   | tup hb rb => exact .inr ⟨B, _, _, _, _, _, _, e, rfl, rfl, .inl ⟨SqT.of ha, SqT.of hb⟩, ra, rb, h, k _ H _ (Vr.flat l (.bl _)) Fr.refl q⟩
 ·obtain ⟨e, h, q⟩ := q
  subst hK
  cases v1 with
  | lst ha ra => cases v2 with
   | lst hb rb => exact .inr ⟨B, _, _, _, _, _, _, e, rfl, rfl, .inr ⟨SqL.of ha, SqL.of hb⟩, ra, rb, h, k _ H _ (Vr.flat l (.bl _)) Fr.refl q⟩
 ·subst hK
  unfold tNe at q
  split at q
  ·cases v1; cases v2
   refine .inl (.inl ⟨rfl, ?_⟩)
   rw [dV (f := V.int) (fun a b h => by injection h)]
   exact k _ H _ (Vr.flat l (.bl _)) Fr.refl q
  ·cases v1; cases v2
   refine .inl (.inl ⟨rfl, ?_⟩)
   rw [dV (f := V.str) (fun a b h => by injection h)]
   exact k _ H _ (Vr.flat l (.bl _)) Fr.refl q
  ·cases v1; cases v2
   refine .inl (.inl ⟨rfl, ?_⟩)
   rw [dV (f := V.bl) (fun a b h => by injection h)]
   exact k _ H _ (Vr.flat l (.bl _)) Fr.refl q
  ·exfalso; simp_all
  ·exfalso; simp_all
  ·exact q.elim
end Y
namespace A
theorem tEqXT (xs ys : List T) (μ : Mu) (Q : R → Mu → Prop) : Y.tEqX (.tup xs) (.tup ys) μ Q = Y.deepE xs ys false μ Q := rfl
theorem tEqXL (xs ys : List T) (μ : Mu) (Q : R → Mu → Prop) : Y.tEqX (.lst xs) (.lst ys) μ Q = Y.deepE xs ys false μ Q := rfl
theorem tEqXI (i j : Int) (μ : Mu) (Q : R → Mu → Prop) : Y.tEqX (.int i) (.int j) μ Q = Q (.tr (.bl (decide (i = j)))) μ := rfl
theorem tEqXS (i j : Str) (μ : Mu) (Q : R → Mu → Prop) : Y.tEqX (.str i) (.str j) μ Q = Q (.tr (.bl (decide (i = j)))) μ := rfl
theorem tEqXB (i j : Bool) (μ : Mu) (Q : R → Mu → Prop) : Y.tEqX (.bl i) (.bl j) μ Q = Q (.tr (.bl (decide (i = j)))) μ := rfl
theorem tNeXT (xs ys : List T) (μ : Mu) (Q : R → Mu → Prop) : Y.tNeX (.tup xs) (.tup ys) μ Q = Y.deepE xs ys true μ Q := rfl
theorem tNeXL (xs ys : List T) (μ : Mu) (Q : R → Mu → Prop) : Y.tNeX (.lst xs) (.lst ys) μ Q = Y.deepE xs ys true μ Q := rfl
theorem tNeXI (i j : Int) (μ : Mu) (Q : R → Mu → Prop) : Y.tNeX (.int i) (.int j) μ Q = Q (.tr (.bl (!decide (i = j)))) μ := rfl
theorem tNeXS (i j : Str) (μ : Mu) (Q : R → Mu → Prop) : Y.tNeX (.str i) (.str j) μ Q = Q (.tr (.bl (!decide (i = j)))) μ := rfl
theorem tNeXB (i j : Bool) (μ : Mu) (Q : R → Mu → Prop) : Y.tNeX (.bl i) (.bl j) μ Q = Q (.tr (.bl (!decide (i = j)))) μ := rfl
end A
end L2
set_option linter.all false
set_option maxRecDepth 100000
set_option maxHeartbeats 4000000
namespace L2
open PySem PySem.Spec PyProof PyProof.Rows
namespace Y
end Y
namespace A
end A
end L2
set_option linter.all false
set_option maxRecDepth 100000
set_option maxHeartbeats 4000000
namespace L2
open PySem PySem.Spec PyProof PyProof.Rows
section
variable {prog : Program} {w : World} {A : Around} {E : Value → Shared → Prop} {s : Shared} {K : PySem.W.Frag} {x C : Addr} {ox : Obj}
end
section
variable {X : Cx}
end
namespace Y
section
variable {X : Cx} {a : Expr} {es : List Expr} {ua : UE} {pos p p3 : Pos} {x : Str}
end
end Y
end L2
set_option linter.all false
set_option maxRecDepth 100000
set_option maxHeartbeats 4000000
namespace L2
open PySem PySem.Spec PyProof PyProof.Rows
section
variable {X : Cx} {pins : List (Addr × Obj)} {σ : St} {H : Hp} {s : Shared}
end
namespace Y
end Y
namespace A
end A
end L2
set_option linter.all false
set_option maxRecDepth 100000
set_option maxHeartbeats 4000000
namespace L2
open PySem PySem.Spec PyProof PyProof.Rows
section
variable {prog : Program} {w : World} {A : Around} {E : Value → Shared → Prop} {s : Shared} {K : PySem.W.Frag} {x C : Addr} {ox : Obj} {od : Option Obj}
end
end L2
set_option linter.all false
set_option maxRecDepth 100000
set_option maxHeartbeats 4000000
namespace L2
open PySem PySem.Spec PyProof PyProof.Rows
section
variable {prog : Program} {w : World} {A : Around} {E : Value → Shared → Prop} {s : Shared} {K : PySem.W.Frag} {C S f : Addr} {name : Str}
end
end L2
set_option linter.all false
set_option maxRecDepth 100000
set_option maxHeartbeats 4000000
namespace L2
open PySem PySem.Spec PyProof PyProof.Rows
section
variable {fs ex : List Addr} {H : Hp} {h h' : Heap} {e d : Addr} {φ ψ : Heap → Prop}
end
section
variable {X : Cx} {C S f : Addr} {name : Str}
end
end L2
set_option linter.all false
set_option maxRecDepth 100000
set_option maxHeartbeats 4000000
namespace L2
open PySem PySem.Spec PyProof PyProof.Rows
section
variable {X : Cx} {pins : List (Addr × Obj)} {σ : St} {H : Hp} {s : Shared} {C S f : Addr} {name : Str}
end
section
variable {X : Cx} {C S f : Addr} {name : Str}
end
namespace Y
section
variable {X : Cx} {C S f : Addr} {name x : Str} {e : Expr} {ue : UE} {p pos cpos : Pos}
end
end Y
end L2
set_option linter.all false
set_option maxRecDepth 100000
set_option maxHeartbeats 4000000
namespace L2
open PySem PySem.Spec PyProof PyProof.Rows
section
variable {X : Cx}
end
namespace Y
section
variable {X : Cx} {a : Expr} {es : List Expr} {ua : UE} {pos p p3 : Pos} {x : Str}
end
end Y
namespace A
end A
end L2
set_option linter.all false
set_option maxRecDepth 100000
set_option maxHeartbeats 4000000
namespace L2
open PySem PySem.Spec PyProof PyProof.Rows
namespace Y
end Y
namespace A
end A
end L2
set_option linter.all false
set_option maxRecDepth 100000
set_option maxHeartbeats 4000000
namespace L2
open PySem PySem.Spec PyProof PyProof.Rows
open Builtin Builtin.Str
namespace Y
theorem all_at : ∀ (bs : List Bool), (List.range bs.length).all (fun i => (bs[i]?).getD false) = bs.all id
 | [] => rfl
 | b :: bs => by
  rw [List.length_cons, List.range_succ_eq_map, List.all_cons, List.all_map, List.all_cons, ← all_at bs]
  rfl
noncomputable def rAll (K : PySem.W.Frag) : List V → Hp → VK → Prop := fun xs H Q => ∃ (p : Addr) (bs : List Bool), xs = [.ref p] ∧ SqL K H p (bs.map V.bl) ∧ Q (.bl (bs.all id)) H
theorem call_allG {X : Cx} (K : PySem.W.Frag) (hK : X.K = K) (hc : X.calm = true) : CallR X (.builtin "all") (rAll K) := by
 subst hK
 intro pins s σ H xs us Q I r h
 obtain ⟨p, bs, rfl, hq, q⟩ := h
 obtain ⟨u, rfl, ru⟩ := vals1 r
 cases ru
 obtain ⟨its, rv, pl, hz⟩ := I.list hq
 have ht : s.heap.IsList p its.toArray := pl.isList
 have hlt : p < s.heap.objs.size := by obtain ⟨o, ho, _⟩ := id ht; exact Heap.lt_size ho
 have hlen : its.length = bs.length := by have := rv.length; rw [List.length_map] at this; omega
 refine call_all_walk (wpAny_pyIter_list ht ?_)
 refine ⟨_, [_, p], [_], _, _, _, fun i => (bs[i]?).getD false, rfl, Walks.list (A := X.A.in1) (I.ok.hd hc) _ p (Nat.ne_of_lt hlt) its.toArray, ⟨⟨_, Heap.get?_push_size _ rfl, rfl, rfl⟩, ht.push _⟩, fun i v s' Q' E' hP hQ => ?_, fun h' tk hk => ?_⟩
 ·have hP' : its[i]? = some v := by rw [← List.getElem?_toArray]; exact hP
  have hi : i < bs.length := by have := (List.getElem?_eq_some_iff.mp hP').1; omega
  obtain ⟨v', e', rr⟩ := rv.get (i := i) (x := V.bl bs[i]) (by rw [List.getElem?_map, List.getElem?_eq_getElem hi]; rfl)
  have e2 : its[i]? = some v' := e'
  rw [hP'] at e2
  cases e2
  cases rr
  simp only [List.getElem?_eq_getElem hi, Option.getD_some] at hQ
  exact wpAny_truthy_bool hQ
 ·have e : ((List.range its.toArray.size).all fun i => (bs[i]?).getD false) = bs.all id := by
   rw [List.size_toArray, hlen]; exact all_at bs
  rw [e]
  refine ⟨.bl (bs.all id), H, I.kept fun b o e => hk b o (fun hm => ?_) (Heap.get?_push_of_some _ e), rfl, q⟩
  rcases List.mem_cons.mp hm with rfl | hm
  ·exact absurd (Heap.lt_size e) (Nat.lt_irrefl _)
  ·cases hm
noncomputable def tAll : T → Mu → (R → Mu → Prop) → Prop := fun t μ Q => match t with
 | .lst xs => ∃ bs : List Bool, xs = bs.map T.bl ∧ Q (.tr (.bl (bs.all id))) μ
 | _ => False
theorem rc_all {K : PySem.W.Frag} : RC K (rAll K) (by1 tAll) := by1_of fun F ad B σ H μ Q Qt x t hK l v1 q k => by
 subst hK
 unfold tAll at q
 split at q
 ·obtain ⟨bs, rfl, q⟩ := q
  cases v1 with
  | lst ha ra => exact ⟨_, bs, rfl, by rw [← bools_reps ra]; exact SqL.of ha, k _ _ _ (Vr.flat l (.bl _)) Fr.refl q⟩
 ·exact q.elim
end Y
noncomputable def signsT (z : Str) : List T := z.cps.toList.map fun c => T.str ⟨#[c]⟩
namespace Y
end Y
namespace A
theorem tAllL (xs : List T) (μ : Mu) (Q : R → Mu → Prop) : Y.tAll (.lst xs) μ Q = (∃ bs : List Bool, xs = bs.map T.bl ∧ Q (.tr (.bl (bs.all id))) μ) := rfl
end A
end L2
set_option linter.all false
set_option maxRecDepth 100000
set_option maxHeartbeats 4000000
namespace L2
open PySem PySem.Spec PyProof PyProof.Rows
section
variable {X : Cx} {es : List Expr} {tk : Nat} {tp : Pos}
end
namespace Y
end Y
namespace A
end A
end L2
set_option linter.all false
set_option maxRecDepth 100000
set_option maxHeartbeats 4000000
namespace L2
open PySem PySem.Spec PyProof PyProof.Rows
noncomputable def KRow (K : PySem.W.Frag) (ws : List Str) (v : Value) : Prop := ∃ p, v = .ref p ∧ KTp K p (ws.map V.str)
structure KDic (K : PySem.W.Frag) (a : Addr) (D : List (Str × List Str)) : Prop where
 low : (a == sysModules) = false
 ex : ∃ o es ep, K.lookup a = some o ∧ o.ExactDict ∧ o.data = .dict es ep ∧ KTD.Rows (KRow K) es.toList D
section
variable {prog : Program} {w : World} {A : Around} {E : Value → Shared → Prop} {s : Shared} {K : PySem.W.Frag} {a : Addr} {D : List (Str × List Str)} {k : Str} {tk : Tok}
theorem KDic.typeIs (T : KDic K a D) (X : K.In s.heap) : s.TypeIs (.ref a) "dict" := let ⟨o, _, _, ho, hc, _⟩ := T.ex; ⟨o, X _ _ ho, hc.1⟩
theorem kdic_get {Q : Option Value → Shared → Prop} (T : KDic K a D) (X : K.In s.heap) (h1 : ∀ d v, KTD.datumAt k D = some d → KRow K d v → Q (some v) { s with toks := s.toks + 1 }) (h2 : KTD.datumAt k D = none → Q none { s with toks := s.toks + 1 }) :
  wpAny (model prog w) A (dictGet a (.str k tk)) Q E s := by
 obtain ⟨o, es, ep, ho, hc, hd, hr⟩ := T.ex
 have ho := X _ _ ho
 unfold dictGet
 try with_reducible refine wpAny_holding ?_
 refine wpAny_bind (wpAny_pyHash_str (wpAny_bind (KTD.kt_dictFind_strs (s := { s with toks := s.toks + 1 }) ho hd (by obtain ⟨l⟩ := es; simpa using hr.exact) ?_)))
 have hq : Q (findBy (fun k v => v.isStr k) es k) { s with toks := s.toks + 1 } := by
  have hf : findBy (fun k v => v.isStr k) es k = (es.toList.find? fun e => e.key.isStr k).map (·.val) := by
   obtain ⟨l⟩ := es
   simp [findBy]
  rw [hf]
  cases hat : KTD.datumAt k D with
  | some d => obtain ⟨v, hv, hfl⟩ := hr.find_some hat; rw [hv]; exact h1 d v hat hfl
  | none => rw [hr.find_none hat]; exact h2 hat
 rw [findBy_of_findIdx?] at hq
 cases hi : es.findIdx? fun e => e.key.isStr k with
 | none => rw [hi] at hq; exact wpAny_pure hq
 | some i => rw [hi] at hq; exact wpAny_bind (wpAny_dictEntries (s := { s with toks := s.toks + 1 }) ho hd (wpAny_pure hq))
end
namespace Y
end Y
namespace A
end A
end L2
set_option linter.all false
set_option maxRecDepth 100000
set_option maxHeartbeats 4000000
namespace L2
open PySem PySem.Spec PyProof PyProof.Rows
namespace Y
noncomputable def uMe0 (um : UM) (uo : UE) : UE := fun μ Q => uo μ fun ro μ1 => match ro with
 | .br j => isL ((μ1[j]?).bind Sl.box) (um j [] μ1 Q)
 | _ => False
section
variable {prog : Program} {w : World} {A : Around} {E : Value → Shared → Prop} {s : Shared}
end
end Y
namespace A
theorem uMe0 (um : Y.UM) (uo : UE) (μ : Mu) (Q : R → Mu → Prop) : Y.uMe0 um uo μ Q = uo μ fun ro μ1 => match ro with
 | .br j => Y.isL ((μ1[j]?).bind Sl.box) (um j [] μ1 Q)
 | _ => False := rfl
end A
end L2
set_option linter.all false
set_option maxRecDepth 100000
set_option maxHeartbeats 4000000
namespace L2
open PySem PySem.Spec PyProof PyProof.Rows
namespace Y
end Y
namespace A
end A
end L2
set_option linter.all false
set_option maxRecDepth 100000
set_option maxHeartbeats 4000000
namespace L2
open PySem PySem.Spec PyProof PyProof.Rows
namespace Y
theorem merge_new : ∀ (more kvs : List (Key × V)), ((kvs ++ more).map (·.1)).Nodup → mergeK kvs more = kvs ++ more
 | [], kvs, _ => by rw [List.append_nil]; rfl
 | p :: r, kvs, h => by
  have hn : valV kvs p.1 = none := by
   cases hv : valV kvs p.1 with
   | none => rfl
   | some v =>
    have hm := valV_in hv
    rw [List.map_append, List.map_cons] at h
    have := List.nodup_append.mp h
    exact absurd rfl (this.2.2 _ hm _ List.mem_cons_self)
  show mergeK (putK kvs p.1 p.2) r = _
  rw [putK_new p.2 hn, merge_new r _ (by rw [List.append_assoc]; exact h), List.append_assoc]
  rfl
end Y
namespace A
end A
end L2
set_option linter.all false
set_option maxRecDepth 100000
set_option maxHeartbeats 4000000
namespace L2
open PySem PySem.Spec PyProof PyProof.Rows
section
variable {prog : Program} {w : World} {A : Around} {E : Value → Shared → Prop} {s : Shared}
end
section
variable {X : Cx} {es : List Expr} {tk : Nat} {tp : Pos}
end
namespace Y
noncomputable def rListS : List V → Hp → VK → Prop := fun xs H Q => ∃ z, xs = [.str z] ∧ z.cps.size ≤ sizeLine ∧ ∀ l, H l = none → Q (.ref l) (upd H l (.lst (z.cps.toList.map fun c => V.str ⟨#[c]⟩)))
theorem vals_signs : ∀ {cs : List Nat} {acc : List Value}, acc.length = cs.length → (∀ (j : Nat) (v : Value), acc[j]? = some v → ∃ c u, cs[j]? = some c ∧ v = Value.str ⟨#[c]⟩ u) → Vals (cs.map fun c => V.str ⟨#[c]⟩) acc
 | [], [], _, _ => .nil
 | [], _ :: _, h, _ => by cases h
 | _ :: _, [], h, _ => by cases h
 | c :: cs, a :: acc, h, g => by
  refine .cons ?_ (vals_signs (Nat.succ.inj h) fun j v e => ?_)
  ·obtain ⟨c', u, e1, e2⟩ := g 0 a rfl
   have : c = c' := by simpa using e1
   subst this
   exact ⟨u, e2⟩
  ·obtain ⟨c', u, e1, e2⟩ := g (j + 1) v (by simpa using e)
   exact ⟨c', u, by simpa using e1, e2⟩
theorem call_listS {X : Cx} (hc : X.calm = true) : CallR X (.type "list") rListS := by
 intro pins s σ H xs us Q I r h
 obtain ⟨z, rfl, hz, q⟩ := h
 obtain ⟨u, rfl, t, rfl⟩ := vals1 r
 refine PySem.call_list_str (I.ok.hd hc) z t (fun h' tk acc c' hk hS hI => ?_) hz
 have hv : Vals (z.cps.toList.map fun c => V.str ⟨#[c]⟩) acc.toList := vals_signs (by rw [Array.length_toList, Array.length_toList]; exact hI.1) fun j v e => by
  obtain ⟨c, u, e1, e2⟩ := hI.2 j v (by rw [Array.getElem?_toList] at e; exact e)
  exact ⟨c, u, by rw [Array.getElem?_toList]; exact e1, e2⟩
 refine ⟨.ref s.heap.objs.size, _, I.laid (t' := tk) hk (Nat.le_refl _) (show ObjOk X.prog X.w _ h' _ (.lst _) from ⟨?_, acc.toList, c', hv, by simpa using hS⟩), rfl, q _ (I.hok.fresh (Nat.le_refl _))⟩
 rw [List.length_map, Array.length_toList]
 exact hz
noncomputable def uListS : UC := fun rs μ Q => match rs with
 | [.tr (.str z)] => z.cps.size ≤ sizeLine ∧ Q (.fr (.lst (signsT z))) μ
 | _ => False
theorem rc_listS {K : PySem.W.Frag} : RC K rListS uListS := by
 intro F ad B σ H μ Q Qt xs rs hK l p q k
 unfold uListS at q
 split at q
 ·cases p with
  | cons h1 p =>
   cases p
   cases rep_of h1
   have rs : ∀ cs : List Nat, Reps F.K H B (cs.map fun c => V.str ⟨#[c]⟩) (cs.map fun c => T.str ⟨#[c]⟩) := fun cs => by
    induction cs with
    | nil => exact .nil
    | cons c cs ih => exact .cons (.str _) ih
   exact ⟨_, rfl, q.1, fun p hp => k _ _ _ μ (Vr.newL l (rs _) hp) (Fr.more hp) (Kp.refl μ) q.2⟩
 ·exact q.elim
end Y
namespace Y
end Y
namespace A
theorem listS (z : Str) (μ : Mu) (Q : R → Mu → Prop) : Y.uListS [.tr (.str z)] μ Q = (z.cps.size ≤ sizeLine ∧ Q (.fr (.lst (signsT z))) μ) := rfl
end A
end L2
set_option linter.all false
set_option maxRecDepth 100000
set_option maxHeartbeats 4000000
namespace L2
open PySem PySem.Spec PyProof PyProof.Rows
open Builtin Builtin.Str
section
variable {prog : Program} {w : World} {A : Around} {E : Value → Shared → Prop} {s : Shared} {x y : Str} {t u : Tok}
end
section
variable {X : Cx}
end
namespace Y
end Y
namespace A
end A
end L2
set_option linter.all false
set_option maxRecDepth 100000
set_option maxHeartbeats 4000000
namespace L2
open PySem PySem.Spec PyProof PyProof.Rows
inductive Ou where
 | no
 | ok (r : R)
 | ck (c : Prop) (r : R)
noncomputable def stq (o : Ou) (Q : R → Prop) : Prop := match o with
 | .no => False
 | .ok r => Q r
 | .ck c r => c ∧ Q r
noncomputable def gVar (o : Option Sl) (i : Nat) : Ou := match o with
 | some (.tr t) => .ok (.tr t)
 | some (.bx _) => .ok (.br i)
 | some (.pb _) => .ok (.br i)
 | _ => .no
noncomputable def gAdd (a b : Option T) : Ou := match a, b with
 | some (.int i), some (.int j) => .ok (.tr (.int (i + j)))
 | some (.str i), some (.str j) => .ck (i.length + j.length ≤ sizeLine) (.tr (.str (i ++ j)))
 | some (.lst xs), some (.lst ys) => .ck (xs.length + ys.length ≤ sizeLine) (.fr (.lst (xs ++ ys)))
 | some (.tup xs), some (.tup ys) => .ck (xs.length + ys.length ≤ sizeLine) (.tr (.tup (xs ++ ys)))
 | _, _ => .no
noncomputable def oQ (o : Option T) : Ou := match o with
 | some t => .ok (.tr t)
 | none => .no
noncomputable def gIx (a b : Option T) : Ou := match a, b with
 | some (.lst xs), some (.int i) => oQ (atI xs i)
 | some (.tup xs), some (.int i) => oQ (atI xs i)
 | some (.ktp xs), some (.int i) => oQ (atI xs i)
 | some (.str z), some (.int i) => (match atI z.cps.toList i with | some c => .ck (z.length ≤ sizeLine) (.tr (.str ⟨#[c]⟩)) | none => .no)
 | _, _ => .no
noncomputable def gLen (a : T) : Ou := match a with
 | .lst xs => .ok (.tr (.int xs.length))
 | .tup xs => .ok (.tr (.int xs.length))
 | .rol xs => .ok (.tr (.int xs.length))
 | .ktp xs => .ok (.tr (.int xs.length))
 | .str z => .ck (z.length ≤ sizeLine) (.tr (.int z.length))
 | _ => .no
noncomputable def gSl (a : Option T) (lo hi : Option Int) : Ou := match a with
 | some (.lst xs) => .ok (.fr (.lst (Y.cutG xs lo hi)))
 | some (.rol xs) => .ok (.fr (.lst (Y.cutG xs lo hi)))
 | some (.tup xs) => .ok (.tr (.tup (Y.cutG xs lo hi)))
 | some (.str z) => .ck (z.length ≤ sizeLine) (.tr (.str (Y.cutS z lo hi)))
 | _ => .no
theorem tr_and (p : Prop) : (True ∧ p) = p := propext ⟨fun h => h.2, fun h => ⟨trivial, h⟩⟩
theorem sVar (o : Option Sl) (i : Nat) (Q : R → Prop) : stp (fVar o i) Q = stq (gVar o i) Q := by
 cases o with
 | none => rfl
 | some s => cases s <;> first | rfl | exact tr_and _
theorem sAdd (a b : Option T) (Q : R → Prop) : stp (fAdd a b) Q = stq (gAdd a b) Q := by
 cases a with
 | none => rfl
 | some a => cases b with
  | none => cases a <;> rfl
  | some b => cases a <;> cases b <;> first | rfl | exact tr_and _
theorem sIx (a b : Option T) (Q : R → Prop) : stp (fIx a b) Q = stq (gIx a b) Q := by
 cases a with
 | none => rfl
 | some a => cases b with
  | none => cases a <;> rfl
  | some b =>
   cases a <;> cases b <;> first
    | rfl
    | (rename_i xs i; show stp (oT (atI xs i)) Q = stq (oQ (atI xs i)) Q; cases atI xs i with | none => rfl | some t => exact tr_and _)
    | (rename_i z i; show stp (match atI z.cps.toList i with | some c => some (z.length ≤ sizeLine, .tr (.str ⟨#[c]⟩)) | none => none) Q = stq (match atI z.cps.toList i with | some c => .ck (z.length ≤ sizeLine) (.tr (.str ⟨#[c]⟩)) | none => .no) Q; cases atI z.cps.toList i <;> rfl)
theorem sLen (a : T) (Q : R → Prop) : stp (fLen a) Q = stq (gLen a) Q := by cases a <;> first | rfl | exact tr_and _
theorem sSl (a : Option T) (lo hi : Option Int) (Q : R → Prop) : stp (Y.fSlX a lo hi) Q = stq (gSl a lo hi) Q := by
 cases a with
 | none => rfl
 | some a => cases a <;> first | rfl | exact tr_and _
namespace Y
noncomputable def uVarS (i : Nat) : UE := fun μ Q => stq (gVar μ[i]? i) fun r => Q r μ
noncomputable def uAddS : U2 := fun r1 r2 μ Q => stq (gAdd (cont μ r1) (cont μ r2)) fun r => Q r μ
noncomputable def uIxS : U2 := fun r1 r2 μ Q => stq (gIx (cont μ r1) (cont μ r2)) fun r => Q r μ
noncomputable def tLenS (t : T) (μ : Mu) (Q : R → Mu → Prop) : Prop := stq (gLen t) fun r => Q r μ
noncomputable def uSlS (ue : UE) (ul uh : UO) : UE := fun μ Q => ue μ fun r μ1 => ul μ1 fun lo μ2 => uh μ2 fun hi μ3 => stq (gSl (cont μ3 r.d) lo hi) fun r => Q r μ3
noncomputable def uItS' (ue : UE) : UI := fun μ Rt => ue μ fun r μ' => sti (fIt r μ') fun ts g => Rt ts g μ'
noncomputable def gTS (n : Nat) (gs : UGs) : UG := fun r μ Q => match fSeq (cont μ r.d) with | some ts => ts.length = n ∧ gs ts μ Q | none => False
noncomputable def uTruS (ue : UE) : UT := fun μ Q => ue μ fun r μ' => match fTru r with | some b => Q b μ' | none => False
theorem eVar (i : Nat) : uVar i = uVarS i := funext fun μ => funext fun Q => (A.uVar i μ Q).trans (sVar _ _ _)
theorem eAdd : uAdd = uAddS := funext fun r1 => funext fun r2 => funext fun μ => funext fun Q => (A.uAdd r1 r2 μ Q).trans (sAdd _ _ _)
theorem eIx : uIxT = uIxS := funext fun r1 => funext fun r2 => funext fun μ => funext fun Q => (A.uIxT r1 r2 μ Q).trans (sIx _ _ _)
theorem eLen : tLen = tLenS := funext fun t => funext fun μ => funext fun Q => (A.tLen t μ Q).trans (sLen _ _)
theorem eSl (ue : UE) (ul uh : UO) : uSlX ue ul uh = uSlS ue ul uh := funext fun μ => funext fun Q => by
 unfold uSlX uSlS
 congr 1; funext r μ1; congr 1; funext lo μ2; congr 1; funext hi μ3; exact sSl _ _ _ _
theorem eIt (ue : UE) : uIt ue = uItS' ue := funext fun μ => funext fun Rt => A.uIt ue μ Rt
theorem eT (n : Nat) (gs : UGs) : gT n gs = gTS n gs := funext fun r => funext fun μ => funext fun Q => A.gT n gs r μ Q
theorem eTru (ue : UE) : uTru ue = uTruS ue := funext fun μ => funext fun Q => A.uTru ue μ Q
theorem vS {X : Cx} {x : Str} {pos : Pos} (i : Nat) (hN : autoParam (X.N[i]? = some x) L2.aRfl._auto_1) (hv : Vis X.env.scope x := by first | exact Or.inl rfl | exact Or.inr (Or.inl rfl) | exact Or.inr (Or.inr rfl)) (hd : autoParam ((x == ("__debug__" : Str)) = false) L2.aDec._auto_1)
  (hcd : autoParam ((x == ("__classdict__" : Str)) = false) L2.aDec._auto_1) : YE X (.Name x pos) (uVarS i) := eVar i ▸ v i hN hv hd hcd
theorem ro_addS {K : PySem.W.Frag} : ROp K (rAddG K) uAddS := eAdd ▸ ro_add
theorem ro_ixS {K : PySem.W.Frag} : ROp K (rIx K) uIxS := eIx ▸ ro_ix
theorem rc_lenS {K : PySem.W.Frag} : RC K (rLenG K) (by1 tLenS) := eLen ▸ rc_len
theorem sliceS {X : Cx} {e : Expr} {ue : UE} {p2 pos : Pos} {lo hi : Option Expr} {ul uh : UO} (K : PySem.W.Frag) (hK : X.K = K) (he : YE X e ue) (hl : YO X lo ul) (hu : YO X hi uh) : YE X (.Subscript e (.Slice lo hi none p2) pos) (uSlS ue ul uh) := eSl ue ul uh ▸ sliceX K hK he hl hu
theorem anyS {X : Cx} {tg e : Expr} {ue : UE} (K : PySem.W.Frag) (hK : X.K = K) (he : YE X e ue) : YI X tg e (uItS' ue) := eIt ue ▸ any K hK he
theorem gtupS {X : Cx} {es : List Expr} {pos : Pos} (K : PySem.W.Frag) (hK : X.K = K) {k n : Nat} {gs : UGs} (hc : X.calm = true) (h : YGs X es gs) (hn : autoParam ((assignEach es X.env).length = n) L2.aRfl._auto_1) (hst : autoParam ((assignEach es X.env).findIdx? (·.1) = none) L2.aRfl._auto_1) : YG X (.Tuple es k pos) (gTS n gs) := eT n gs ▸ gtup K hK hc h hn hst
theorem ttruS {X : Cx} {a : Expr} {ua : UE} (K : PySem.W.Frag) (hK : X.K = K) (ha : YE X a ua) (he : autoParam (Z.tru a = true) L2.aRfl._auto_1) : YT X a (uTruS ua) := eTru ua ▸ ttru K hK ha he
end Y
namespace A3
theorem stq_no (Q : R → Prop) : stq .no Q = False := rfl
theorem stq_ok (r : R) (Q : R → Prop) : stq (.ok r) Q = Q r := rfl
theorem stq_ck (c : Prop) (r : R) (Q : R → Prop) : stq (.ck c r) Q = (c ∧ Q r) := rfl
theorem sti_s (ts : List T) (g : Option (Nat × List T)) (Q : List T → Option (Nat × List T) → Prop) : sti (some (ts, g)) Q = Q ts g := rfl
theorem oQ_some (t : T) : oQ (some t) = .ok (.tr t) := rfl
theorem uVar (i : Nat) (μ : Mu) (Q : R → Mu → Prop) : Y.uVarS i μ Q = stq (gVar μ[i]? i) fun r => Q r μ := rfl
theorem uAdd (r1 r2 : R) (μ : Mu) (Q : R → Mu → Prop) : Y.uAddS r1 r2 μ Q = stq (gAdd (cont μ r1) (cont μ r2)) fun r => Q r μ := rfl
theorem uIx (r1 r2 : R) (μ : Mu) (Q : R → Mu → Prop) : Y.uIxS r1 r2 μ Q = stq (gIx (cont μ r1) (cont μ r2)) fun r => Q r μ := rfl
theorem tLen (t : T) (μ : Mu) (Q : R → Mu → Prop) : Y.tLenS t μ Q = stq (gLen t) fun r => Q r μ := rfl
theorem uSl (ue : UE) (ul uh : UO) (μ : Mu) (Q : R → Mu → Prop) : Y.uSlS ue ul uh μ Q = ue μ fun r μ1 => ul μ1 fun lo μ2 => uh μ2 fun hi μ3 => stq (gSl (cont μ3 r.d) lo hi) fun r => Q r μ3 := rfl
theorem uIt (ue : UE) (μ : Mu) (Rt : List T → Option (Nat × List T) → Mu → Prop) : Y.uItS' ue μ Rt = ue μ fun r μ' => sti (fIt r μ') fun ts g => Rt ts g μ' := rfl
theorem gT (n : Nat) (gs : UGs) (r : R) (μ : Mu) (Q : Mu → Prop) : Y.gTS n gs r μ Q = (match fSeq (cont μ r.d) with | some ts => ts.length = n ∧ gs ts μ Q | none => False) := rfl
theorem uTru (ue : UE) (μ : Mu) (Q : Bool → Mu → Prop) : Y.uTruS ue μ Q = ue μ fun r μ' => match fTru r with | some b => Q b μ' | none => False := rfl
theorem v_tr (t : T) (i : Nat) : gVar (some (.tr t)) i = .ok (.tr t) := rfl
theorem v_bx (t : T) (i : Nat) : gVar (some (.bx t)) i = .ok (.br i) := rfl
theorem v_pb (t : T) (i : Nat) : gVar (some (.pb t)) i = .ok (.br i) := rfl
theorem add_i (i j : Int) : gAdd (some (.int i)) (some (.int j)) = .ok (.tr (.int (i + j))) := rfl
theorem add_s (i j : Str) : gAdd (some (.str i)) (some (.str j)) = .ck (i.length + j.length ≤ sizeLine) (.tr (.str (i ++ j))) := rfl
theorem add_l (xs ys : List T) : gAdd (some (.lst xs)) (some (.lst ys)) = .ck (xs.length + ys.length ≤ sizeLine) (.fr (.lst (xs ++ ys))) := rfl
theorem add_t (xs ys : List T) : gAdd (some (.tup xs)) (some (.tup ys)) = .ck (xs.length + ys.length ≤ sizeLine) (.tr (.tup (xs ++ ys))) := rfl
theorem ix_l (xs : List T) (i : Int) : gIx (some (.lst xs)) (some (.int i)) = oQ (atI xs i) := rfl
theorem ix_t (xs : List T) (i : Int) : gIx (some (.tup xs)) (some (.int i)) = oQ (atI xs i) := rfl
theorem ix_k (xs : List T) (i : Int) : gIx (some (.ktp xs)) (some (.int i)) = oQ (atI xs i) := rfl
theorem ix_s (z : Str) (i : Int) : gIx (some (.str z)) (some (.int i)) = (match atI z.cps.toList i with | some c => .ck (z.length ≤ sizeLine) (.tr (.str ⟨#[c]⟩)) | none => .no) := rfl
theorem len_l (xs : List T) : gLen (.lst xs) = .ok (.tr (.int xs.length)) := rfl
theorem len_t (xs : List T) : gLen (.tup xs) = .ok (.tr (.int xs.length)) := rfl
theorem len_r (xs : List T) : gLen (.rol xs) = .ok (.tr (.int xs.length)) := rfl
theorem len_k (xs : List T) : gLen (.ktp xs) = .ok (.tr (.int xs.length)) := rfl
theorem len_s (z : Str) : gLen (.str z) = .ck (z.length ≤ sizeLine) (.tr (.int z.length)) := rfl
theorem sl_l (xs : List T) (lo hi : Option Int) : gSl (some (.lst xs)) lo hi = .ok (.fr (.lst (Y.cutG xs lo hi))) := rfl
theorem sl_r (xs : List T) (lo hi : Option Int) : gSl (some (.rol xs)) lo hi = .ok (.fr (.lst (Y.cutG xs lo hi))) := rfl
theorem sl_t (xs : List T) (lo hi : Option Int) : gSl (some (.tup xs)) lo hi = .ok (.tr (.tup (Y.cutG xs lo hi))) := rfl
theorem sl_s (z : Str) (lo hi : Option Int) : gSl (some (.str z)) lo hi = .ck (z.length ≤ sizeLine) (.tr (.str (Y.cutS z lo hi))) := rfl
end A3
end L2
set_option linter.all false
set_option maxRecDepth 100000
set_option maxHeartbeats 4000000
namespace L2
open PySem PySem.Spec PyProof PyProof.Rows
open Builtin Builtin.Str
section
variable {prog : Program} {w : World} {A : Around} {E : Value → Shared → Prop} {h : Heap} {g : Array GenState} {d : Drawn} {t : Nat} {os : OsState} {a : Addr} {items : Array Value} {cn : Nat}
theorem dl_keys : typeLookup (.type "list") "keys" = pure none := am_miss_of_fast (by kernel_rfl)
theorem dl_getattr : typeLookup (.type "list") "__getattr__" = pure none := by rw [typeLookup_type, builtinLookup_eq_fast]; kernel_rfl
theorem dl_entry {name : Str} {tk : Tok} {Q : Fin → Shared → Prop} (hx : h.get? a = some { cls := .type "list", dict := none, data := .seq items cn, slots := #[] }) (hmiss : typeLookup (.type "list") name = pure none) (hnc : (["__module__", "__name__", "__qualname__", "__doc__", "__annotations__"] : List Str).contains name = false) (hh : A.handled = none)
  (hq : ∀ h' tk' e, Heap.NewAttrErr h h' e (.ref a) name → E (.ref e) ⟨h', g, d, tk', os⟩) (hsz : name.length + 100 ≤ sizeLine := by size_fits) :
  wpAny (model prog w) A (Builtin.«object.__getattribute__» ⟨[.ref a, .str name tk], []⟩) Q E ⟨h, g, d, t, os⟩ := by
 have hT : (⟨h, g, d, t, os⟩ : Shared).TypeIs (.ref a) "list" := ⟨_, hx, rfl⟩
 unfold Builtin.«object.__getattribute__»
 repeat (any_goals (first | assumption | wp_step))
 rw [if_neg (by rw [hnc]; decide)]
 repeat (any_goals (first | assumption | wp_step))
 exact wpAny_raiseAttrError hh hq (attrMsg_fits (by decide +kernel) hsz)
theorem dl_call {name : Str} {tk : Tok} {R : Result → Shared → Prop} (hx : h.get? a = some { cls := .type "list", dict := none, data := .seq items cn, slots := #[] }) (hmiss : typeLookup (.type "list") name = pure none) (hnc : (["__module__", "__name__", "__qualname__", "__doc__", "__annotations__"] : List Str).contains name = false) (hh : A.handled = none)
  (hq : ∀ h' tk' e, Heap.NewAttrErr h h' e (.ref a) name → R (.error (.ref e)) ⟨h', g, d, tk', os⟩) (hsz : name.length + 100 ≤ sizeLine := by size_fits) :
  codeAny (model prog w) A (.call (.builtin "list.__getattribute__") ⟨[.ref a, .str name tk], []⟩) R ⟨h, g, d, t, os⟩ :=
 codeAny_call_builtin F.slot_list_getattribute.plain F.entry_list_ga (F.slot_list_getattribute.check _ _ _ _ _ _ _ _ (show (⟨h, g, d, t, os⟩ : Shared).TypeIs (.ref a) "list" from ⟨_, hx, rfl⟩) (F.args_list_getattribute_2 _ _) (dl_entry hx hmiss hnc hh hq hsz))
theorem dl_by {name : Str} {tk : Tok} {Q : Value → Shared → Prop} (hx : h.get? a = some { cls := .type "list", dict := none, data := .seq items cn, slots := #[] }) (hmiss : typeLookup (.type "list") name = pure none) (hnc : (["__module__", "__name__", "__qualname__", "__doc__", "__annotations__"] : List Str).contains name = false) (hh : A.handled = none)
  (hq : ∀ h' tk' e, Heap.NewAttrErr h h' e (.ref a) name → E (.ref e) ⟨h', g, d, tk', os⟩) (hsz : name.length + 100 ≤ sizeLine := by size_fits) :
  wpAny (model prog w) A (getAttrBy (.ref a) (.str name tk) false) Q E ⟨h, g, d, t, os⟩ := by
 have hT : (⟨h, g, d, t, os⟩ : Shared).TypeIs (.ref a) "list" := ⟨_, hx, rfl⟩
 have f1 := sub_AttributeError
 have f2 := F.slot_list_getattribute.lookup
 have f3 := F.slot_list_getattribute.bind (.ref a)
 have f5 := dl_getattr
 repeat (any_goals (first | assumption | wp_step))
 refine dl_call hx hmiss hnc hh (fun h' tk' e x => ?_) hsz
 obtain ⟨t', u', he⟩ := x.there
 show wpAny _ _ (getattributeRaised _ _ _ _ _ _ _) _ _ _
 unfold getattributeRaised
 repeat (any_goals (first | assumption | wp_step))
 exact hq _ _ _ x
theorem dl_none {name : Str} {Q : Option Value → Shared → Prop} (hx : h.get? a = some { cls := .type "list", dict := none, data := .seq items cn, slots := #[] }) (hmiss : typeLookup (.type "list") name = pure none) (hnc : (["__module__", "__name__", "__qualname__", "__doc__", "__annotations__"] : List Str).contains name = false) (hh : A.handled = none)
  (hq : ∀ h' tk', (∀ b o, h.get? b = some o → h'.get? b = some o) → Q none ⟨h', g, d, tk', os⟩) (hsz : name.length + 100 ≤ sizeLine := by size_fits) :
  wpAny (model prog w) A (getAttr? (.ref a) name) Q E ⟨h, g, d, t, os⟩ := by
 have f1 := sub_AttributeError
 unfold getAttr? getAttrBy?
 refine wpAny_bind (wpAny_mkText (wpAny_bind (wpAny_attempt (dl_by hx hmiss hnc hh (fun h' tk' e x => ?_) hsz))))
 obtain ⟨t', u', he⟩ := x.there
 have k := x.keeps
 repeat (any_goals (first | assumption | wp_step))
 exact hq _ _ x.keeps
end
section
variable {prog : Program} {w : World} {K : Type} [DecidableEq K] {knd : KeyKind prog w K} {A : Around} {R : Result → Shared → Prop}
theorem dl_plain : plainId "dict.update.loop" = true := by decide +kernel
theorem dl_entry_loop : entryFor table "dict.update.loop" = some Builtin.«dict.update.loop» := entryFor_of_fast (by kernel_rfl)
theorem stored_len (kvs : List (K × Value)) (k : K) (v : Value) : (stored kvs k v).length ≤ kvs.length + 1 := by
 unfold stored
 split
 ·rw [List.length_map]; omega
 ·rw [List.length_append]; simp
theorem merged_len : ∀ (more kvs : List (K × Value)), (merged kvs more).length ≤ kvs.length + more.length
 | [], kvs => by unfold merged; simp
 | p :: more, kvs => by
  have h1 := merged_len more (stored kvs p.1 p.2)
  have h2 := stored_len kvs p.1 p.2
  have e : merged kvs (p :: more) = merged (stored kvs p.1 p.2) more := rfl
  rw [e, List.length_cons]
  omega
theorem dl_loop {it l dd : Addr} {items : Array Value} {more : List (K × Value)} (hh : A.handled = none) (hn : more.length = items.size) (h1 : dd ≠ it) (h2 : dd ≠ l) (h3 : it ≠ l) (ps : Nat → Addr) (hps : ∀ i, i < items.size → items[i]? = some (.ref (ps i)) ∧ ps i ≠ it ∧ ps i ≠ dd) (hsz : more.length ≤ 1000) :
  ∀ (k i : Nat) (s : Shared), items.size - i = k → i ≤ items.size → s.heap.IsListIter it l i → s.heap.IsList l items → s.heap.DictOf knd dd (merged [] (more.take i)) →
  (∀ j, j < items.size → ∃ key v, s.heap.IsTuple (ps j) #[key, v] ∧ ∃ kk, more[j]? = some (kk, v) ∧ knd.is kk key = true) →
  (∀ h' tk, h'.DictOf knd dd (merged [] more) → (∀ b o, b ≠ it → b ≠ dd → s.heap.get? b = some o → h'.get? b = some o) → R (.ok (.ret .none)) { s with heap := h', toks := tk }) →
  codeAny (model prog w) A (.builtin "dict.update.loop" ⟨[.ref dd, .ref it, rawInt i, .none], []⟩) R s := by
 intro k
 induction k with
 | zero =>
  intro i s hk hi hit hl hd hp hR
  have hin : i = items.size := by omega
  subst hin
  refine codeAny_builtin dl_entry_loop ?_
  rw [Around.under_plainId dl_plain _]
  show wpAny _ A.in1 (pyNext (.ref it) >>= _) _ _ s
  refine wpAny_bind (wpAny_pyNext_list_end hh hit hl (by simp) fun h' he => ?_)
  refine wpAny_bind (wpAny_pure (wpAny_pure ?_))
  refine hR h' s.toks ?_ fun b o b1 b2 e => he b o b1 e
  rw [List.take_of_length_le (by omega)] at hd
  exact hd.extBut he h1
 | succ k ih =>
  intro i s hk hi hit hl hd hp hR
  have hlt : i < items.size := by omega
  refine codeAny_builtin dl_entry_loop ?_
  rw [Around.under_plainId dl_plain _]
  show wpAny _ A.in1 (pyNext (.ref it) >>= _) _ _ s
  obtain ⟨e1, e2, e3⟩ := hps i hlt
  refine wpAny_bind (wpAny_pyNext_list_item hit hl e1 fun h' hit' hs' => ?_)
  obtain ⟨key, v, ht, kk, em, hkk⟩ := hp i hlt
  have ht' : h'.IsTuple (ps i) #[key, v] := by obtain ⟨o, ho, r⟩ := ht; exact ⟨o, (hs'.2 _ e2).trans ho, r⟩
  have hd' : h'.DictOf knd dd (merged [] (more.take i)) := by obtain ⟨o, es, ep, ho, r⟩ := hd; exact ⟨o, es, ep, (hs'.2 _ h1).trans ho, r⟩
  refine wpAny_bind (wpAny_holding (wpAny_bind (wpAny_tryCatch ?_)))
  unfold Dict.pairItems
  refine wpAny_bind (wpAny_typeOf ht'.typeIs ?_)
  rw [if_pos (by decide)]
  obtain ⟨o, ho, hoc, nn, hod⟩ := id ht'
  refine wpAny_bind (wpAny_seqItems ho hod (wpAny_pure ?_))
  show wpAny _ A.in1 (holding [key, v] (dictSet dd key v)) _ _ _
  refine wpAny_holding (wpAny_dictSet_pairs hkk hd' (fun h2' hd2 hs2 => ?_) ?_)
  rotate_left
  ·exact Nat.le_trans (merged_len _ _) (Nat.le_trans (by rw [List.length_nil, Nat.zero_add, List.length_take]; exact Nat.le_trans (Nat.min_le_right _ _) hsz) (by decide))
  have et : merged [] (more.take (i + 1)) = stored (merged [] (more.take i)) kk v := by
   have hlt' : i < more.length := by omega
   have : more[i] = (kk, v) := by rw [List.getElem?_eq_getElem hlt'] at em; exact Option.some.inj em
   rw [List.take_succ_eq_append_getElem hlt', this]
   unfold merged
   rw [List.foldl_append]
   rfl
  refine wpAny_pure ⟨plainId_quiet dl_plain _, ?_⟩
  have := ih (i + 1) { s with heap := h2', toks := s.toks + 1 } (by omega) hlt (by obtain ⟨o, ho, r⟩ := hit'; exact ⟨o, (hs2.2 _ (Ne.symm h1)).trans ho, r⟩) (by obtain ⟨o, ho, r⟩ := hl; exact ⟨o, (hs2.2 _ (Ne.symm h2)).trans ((hs'.2 _ (Ne.symm h3)).trans ho), r⟩) (by rw [et]; exact hd2) (fun j hj => by
   obtain ⟨key, v, ⟨o, ho, r⟩, rr⟩ := hp j hj
   obtain ⟨f1, f2, f3⟩ := hps j hj
   exact ⟨key, v, ⟨o, (hs2.2 _ f3).trans ((hs'.2 _ f2).trans ho), r⟩, rr⟩) (fun h3' tk hd3 hk3 => hR h3' tk hd3 fun b o b1 b2 e => hk3 b o b1 b2 ((hs2.2 _ b2).trans ((hs'.2 _ b1).trans e)))
  exact this
theorem call_dictP {E : Value → Shared → Prop} {s : Shared} {l : Addr} {items : Array Value} {cn : Nat} {more : List (K × Value)} {Q : Value → Shared → Prop} (hl : s.heap.get? l = some { cls := .type "list", dict := none, data := .seq items cn, slots := #[] }) (hh : A.handled = none) (hn : more.length = items.size) (hsz : more.length ≤ 1000)
  (ps : Nat → Addr) (hps : ∀ i, i < items.size → items[i]? = some (.ref (ps i))) (hp : ∀ j, j < items.size → ∃ key v, s.heap.IsTuple (ps j) #[key, v] ∧ ∃ kk, more[j]? = some (kk, v) ∧ knd.is kk key = true)
  (h : ∀ h' tk, h'.DictOf knd s.heap.objs.size (merged [] more) → (∀ b o, s.heap.get? b = some o → h'.get? b = some o) → Q (.ref s.heap.objs.size) { s with heap := h', toks := tk }) :
  wpAny (model prog w) A (call (.type "dict") [.ref l]) Q E s := by
 refine callType_codes (Q₁ := fun obj s₁ => obj = .ref s.heap.objs.size ∧ s₁ = { s with heap := s.heap.push { cls := .type "dict", data := .dict #[] } }) F.kt_called_dict (F.kt_typeCall_dict_1 _) F.entry_dict_init (kt_code_dict_new _ ⟨rfl, rfl⟩) ?_
 rintro obj s₁ ⟨rfl, rfl⟩
 have hnew : (s.heap.push { cls := .type "dict", data := .dict #[] }).DictOf knd s.heap.objs.size [] := Heap.DictOf.new s.heap
 refine ⟨hnew.typeIs, F.args_dict_init_2 _ _, ?_⟩
 unfold Builtin.«dict.__init__»
 refine wpAny_bind ?_
 unfold Builtin.Dict.selfAndRest
 refine wpAny_bind (wpAny_notOrdered_dict hnew.typeIs ?_)
 show wpAny _ _ (pure (s.heap.objs.size, [Value.ref l])) _ _ _
 refine wpAny_pure ?_
 show wpAny _ _ (Builtin.Dict.updateFrom "dict.__init__" s.heap.objs.size (.ref l) [] .none) _ _ _
 unfold Builtin.Dict.updateFrom
 have hl1 : (s.heap.push { cls := .type "dict", data := .dict #[] }).get? l = some { cls := .type "list", dict := none, data := .seq items cn, slots := #[] } := Heap.get?_push_of_some _ hl
 have hT : ({ s with heap := s.heap.push { cls := .type "dict", data := .dict #[] } } : Shared).TypeIs (.ref l) "list" := ⟨_, hl1, rfl⟩
 refine wpAny_bind (wpAny_typeOf hT ?_)
 rw [if_pos (by decide)]
 refine wpAny_bind ?_
 refine dl_none hl1 dl_keys (by decide +kernel) hh (fun h1 tk1 k1 => ?_)
 rw [if_pos (show (none : Option Value).isNone = true from rfl)]
 have hl2 : h1.IsList l items := ⟨_, k1 _ _ hl1, rfl, cn, rfl⟩
 have up : ∀ b o, s.heap.get? b = some o → h1.get? b = some o := fun b o e => k1 b o (Heap.get?_push_of_some _ e)
 obtain ⟨od, es, ep, hod, hor⟩ := hnew
 have hdl : s.heap.objs.size < h1.objs.size := Heap.lt_size (k1 _ _ hod)
 have hll : l < s.heap.objs.size := Heap.lt_size hl
 have hpl : ∀ j, j < items.size → ps j < s.heap.objs.size := fun j hj => by obtain ⟨key, v, ⟨o, ho, _⟩, _⟩ := hp j hj; exact Heap.lt_size ho
 refine wpAny_bind (wpAny_rule (wpAny_bind (wpAny_pyIter_list hl2 (wpAny_pure ⟨plainId_quiet dl_plain _, ?_⟩))))
 refine dl_loop (knd := knd) (it := h1.objs.size) (l := l) (items := items) (more := more) (A := A.in1) hh hn (Nat.ne_of_lt hdl) (Nat.ne_of_gt hll) (Nat.ne_of_gt (Nat.lt_trans hll hdl)) ps (fun i hi => ⟨hps i hi, Nat.ne_of_lt (Nat.lt_trans (hpl i hi) hdl), Nat.ne_of_lt (hpl i hi)⟩) hsz _ 0 _ rfl (Nat.zero_le _) ⟨_, Heap.get?_push_size _ rfl, rfl, rfl⟩ ?_ ⟨od, es, ep, Heap.get?_push_of_some _ (k1 _ _ hod), hor⟩ (fun j hj => ?_) (fun h' tk hd hk => ⟨rfl, h h' tk hd fun b o e => hk b o ?_ ?_ (Heap.get?_push_of_some _ (up b o e))⟩)
 ·obtain ⟨o, ho, r⟩ := hl2
  exact ⟨o, Heap.get?_push_of_some _ ho, r⟩
 ·obtain ⟨key, v, ⟨o, ho, r⟩, rr⟩ := hp j hj
  exact ⟨key, v, ⟨o, Heap.get?_push_of_some _ (up _ _ ho), r⟩, rr⟩
 ·exact Nat.ne_of_lt (Nat.lt_trans (Heap.lt_size e) hdl)
 ·exact Nat.ne_of_lt (Heap.lt_size e)
end
theorem paired_of {α β : Type} {F : α → β → Prop} : ∀ {l₁ : List α} {l₂ : List β}, l₁.length = l₂.length → (∀ (j : Nat) a b, l₁[j]? = some a → l₂[j]? = some b → F a b) → Paired F l₁ l₂
 | [], [], _, _ => .nil
 | [], _ :: _, h, _ => by cases h
 | _ :: _, [], h, _ => by cases h
 | a :: l₁, b :: l₂, h, f => .cons (f 0 a b rfl rfl) (paired_of (Nat.succ.inj h) fun j x y hx hy => f (j + 1) x y (by simpa using hx) (by simpa using hy))
noncomputable def PairsIn (K : PySem.W.Frag) (H : Hp) (vs : List V) (kvs : List (Key × V)) : Prop := vs.length = kvs.length ∧ ∀ (j : Nat) (k : Key) (x : V), kvs[j]? = some (k, x) → ∃ p, vs[j]? = some (.ref p) ∧ H p = some (.tup [kV k, x])
noncomputable def rDictP (K : PySem.W.Frag) : List V → Hp → VK → Prop := fun xs H Q => ∃ l vs kvs, xs = [.ref l] ∧ H l = some (.lst vs) ∧ PairsIn K H vs kvs ∧ kvs.length ≤ 1000 ∧ ∀ p, H p = none → Q (.ref p) (upd H p (.dK (mergeK [] kvs)))
theorem call_dictPR {X : Cx} (K : PySem.W.Frag) (hc : X.calm = true) : CallR X (.type "dict") (rDictP K) := by
 intro pins s σ H xs us Q I r h
 obtain ⟨l, vs, kvs, rfl, hl, hp, hk, q⟩ := h
 obtain ⟨u, rfl, e0⟩ := vals1 r
 have e1 : u = .ref l := e0
 subst e1
 obtain ⟨hlen, its, n, hv, hget⟩ := (show ObjOk X.prog X.w H s.heap l (.lst vs) from I.hok l _ hl)
 have hsz : its.toArray.size = kvs.length := by rw [← hp.1, List.size_toArray, ← Paired.length hv]
 have key : ∀ j, j < kvs.length → ∃ p k x, kvs[j]? = some (k, x) ∧ its[j]? = some (.ref p) ∧ ∃ ku xu, s.heap.IsTuple p #[ku, xu] ∧ keyIs k ku = true ∧ RelV x xu := fun j hj => by
  obtain ⟨p, e1, e2⟩ := hp.2 j kvs[j].1 kvs[j].2 (List.getElem?_eq_getElem hj)
  obtain ⟨u, e3, e4⟩ := Vals.get hv e1
  have e5 : u = .ref p := e4
  subst e5
  obtain ⟨_, ts, tv, hT⟩ := (show ObjOk X.prog X.w H s.heap p (.tup [kV kvs[j].1, kvs[j].2]) from I.hok p _ e2)
  obtain ⟨ku, xu, rfl, r1, r2⟩ := vals2 tv
  exact ⟨p, _, _, List.getElem?_eq_getElem hj, e3, ku, xu, hT.to, kV_is (P := X.prog) (w := X.w) r1, r2⟩
 obtain ⟨f, hf⟩ := Classical.axiomOfChoice (r := fun (j : Nat) (y : Addr × Value × Value) => ∀ hj : j < kvs.length, s.heap.IsTuple y.1 #[y.2.1, y.2.2] ∧ keyIs kvs[j].1 y.2.1 = true ∧ RelV kvs[j].2 y.2.2 ∧ its[j]? = some (.ref y.1)) (fun j => by
  by_cases hj : j < kvs.length
  ·obtain ⟨p, k, x, e1, e2, ku, xu, hT, h1, h2⟩ := key j hj
   rw [List.getElem?_eq_getElem hj] at e1
   have e1' : kvs[j] = (k, x) := Option.some.inj e1
   exact ⟨(p, ku, xu), fun _ => ⟨hT, by rw [e1']; exact h1, by rw [e1']; exact h2, e2⟩⟩
  ·exact ⟨(0, .none, .none), fun h => absurd h hj⟩)
 let mv : List (Key × Value) := (List.range kvs.length).map fun j => ((kvs[j]?.getD (.inl 0, .non)).1, (f j).2.2)
 have hmv : mv.length = kvs.length := by simp [mv]
 have hmj : ∀ j (hj : j < kvs.length), mv[j]? = some (kvs[j].1, (f j).2.2) := fun j hj => by
  simp only [mv, List.getElem?_map, List.getElem?_range hj, Option.map_some, List.getElem?_eq_getElem hj, Option.getD_some]
 have at' : ∀ j (hj : j < kvs.length), ∃ ku xu, s.heap.IsTuple (f j).1 #[ku, xu] ∧ keyIs kvs[j].1 ku = true ∧ RelV kvs[j].2 xu ∧ its[j]? = some (.ref (f j).1) ∧ mv[j]? = some (kvs[j].1, xu) := fun j hj => by
  obtain ⟨h1, h2, h3, h4⟩ := hf j hj
  exact ⟨_, _, h1, h2, h3, h4, hmj j hj⟩
 have hKV : KV kvs mv := by
  refine paired_of (by rw [hmv]) fun j a b ha hb => ?_
  have hj : j < kvs.length := by
   rcases Nat.lt_or_ge j kvs.length with c | c
   ·exact c
   ·rw [List.getElem?_eq_none_iff.mpr c] at ha; cases ha
  obtain ⟨ku, xu, _, _, h2, _, h3⟩ := at' j hj
  rw [List.getElem?_eq_getElem hj] at ha
  cases ha
  rw [h3] at hb
  cases hb
  exact ⟨rfl, h2⟩
 refine call_dictP (knd := mixKind X.prog X.w) hget (I.ok.hd hc) (by rw [hmv, hsz]) (by rw [hmv]; exact hk) (fun j => (f j).1) (fun i hi => ?_) (fun j hj => ?_) (fun h' tk hd hkp => ?_)
 ·rw [hsz] at hi
  obtain ⟨_, _, _, _, _, e, _⟩ := at' i hi
  rw [List.getElem?_toArray]; exact e
 ·rw [hsz] at hj
  obtain ⟨ku, xu, hT, h1, _, _, h3⟩ := at' j hj
  exact ⟨ku, xu, hT, _, h3, h1⟩
 ·have hz : (mergeK [] kvs).length ≤ sizeLine := by
   have h1 := length_mergeK kvs []
   rw [List.length_nil] at h1
   exact Nat.le_trans (show _ ≤ 1000 by omega) (by decide)
  exact ⟨.ref s.heap.objs.size, _, I.laid (t' := tk) hkp (Nat.le_refl _) (dk_new hz (beq_eq_false_iff_ne.mpr (Ne.symm (Nat.ne_of_lt I.big))) (hKV.merge .nil) hd), rfl, q _ (I.hok.fresh (Nat.le_refl _))⟩
end L2
set_option linter.all false
set_option maxRecDepth 100000
set_option maxHeartbeats 4000000
namespace L2
open PySem PySem.Spec PyProof PyProof.Rows
namespace Y
end Y
namespace A
end A
end L2
set_option linter.all false
set_option maxRecDepth 100000
set_option maxHeartbeats 4000000
namespace L2
open PySem PySem.Spec PyProof PyProof.Rows
namespace Z
section
variable {X : Cx} {CX : CXT} {k : Nat} {f C : Addr} {fd : FuncData} {ps : List Str} {sp : Sp} {E : XK} {x m nm : Str} {p pos pos' apos : Pos} {e o i value : Expr} {es : List Expr} {ta tv td ty : TE} {t : TA}
theorem fld (K : PySem.W.Frag) (hK : X.K = K) (he : QE X e ta) (hb : autoParam (attributeBase e nm X.env (eval e X.env) = eval e X.env) L2.aRfl._auto_1) : QE X (.Attribute e nm pos) (tFld K ta nm) := by subst hK; exact ⟨pe_fld he.h hb⟩
theorem sfld (K : PySem.W.Frag) (hK : X.K = K) (ha : QE X o ta) (hv : QE X value tv) (hs : autoParam (swapsWith value (some (.Attribute o nm pos')) pos.line X.env = pure false) L2.aRfl._auto_1) : QS X (.Assign [.Attribute o nm pos'] value pos) (sFld K ta tv nm) := by subst hK; exact ⟨ps_fld ha.h hv.h hs⟩
theorem meth (K : PySem.W.Frag) (hK : X.K = K) {pl : Sem Bool} (he : QE X o ta) (c : Cls K C) (hm : Meth K C m f) (F : FnOk X.prog X.w K X.mg X.base CX k f fd ps sp) (hr : Room k X.A) (hb : Binds K fd ps []) (hx : Passes CX X E) (ha : QA X (e :: es) t)
  (hst : autoParam (starEach (e :: es) X.env = (false, eval e X.env) :: starEach es X.env) L2.aRfl._auto_1) (hpl : autoParam ((backTo pos (starEach es X.env)).any (·.1) = false) L2.aRfl._auto_1)
  (ht : autoParam (eval (.Call (.Attribute o m apos) (e :: es) [] pos) X.env = (do
   let ov ← eval o X.env
   standAt apos.atName
   let (f, first) ← holding [ov] (getMethod ov m pl)
   callWith pos f first (backTo pos (starEach (e :: es) X.env)) (backToKw pos (keywordEach [] X.env)))) L2.aRfl._auto_1) :
  QE X (.Call (.Attribute o m apos) (e :: es) [] pos) (tMeth C m sp [] E ta t) := by subst hK; exact ⟨pe_meth (pl := pl) he.h c hm F hr hb .nil hx ha.h hst hpl ht⟩
theorem meth0 (K : PySem.W.Frag) (hK : X.K = K) {pl : Sem Bool} (he : QE X o ta) (c : Cls K C) (hm : Meth K C m f) (F : FnOk X.prog X.w K X.mg X.base CX k f fd ps sp) (hr : Room k X.A) (hb : Binds K fd ps []) (hx : Passes CX X E)
  (ht : autoParam (eval (.Call (.Attribute o m apos) [] [] pos) X.env = (do
   let ov ← eval o X.env
   standAt apos.atName
   let (f, first) ← holding [ov] (getMethod ov m pl)
   callWith pos f first (backTo pos (starEach [] X.env)) (backToKw pos (keywordEach [] X.env)))) L2.aRfl._auto_1) :
  QE X (.Call (.Attribute o m apos) [] [] pos) (tMeth C m sp [] E ta tNil) := by subst hK; exact ⟨pe_meth0 (pl := pl) he.h c hm F hr hb .nil hx ht⟩
theorem make (K : PySem.W.Frag) (hK : X.K = K) (M : Mk K C f) (F : FnOk X.prog X.w K X.mg X.base CX k f fd ps sp) (hr : Room (k + 1) X.A) (hg : Gl X x) (hm : X.mg x = some (.ref C)) (hb : Binds K fd ps []) (hx : Passes CX X E)
  (ha : QA X (e :: es) t) (hdb : autoParam ((x == ("__debug__" : Str)) = false) L2.aDec._auto_1) (he : autoParam (starEach (e :: es) X.env = (false, eval e X.env) :: starEach es X.env) L2.aRfl._auto_1) (hpl : autoParam ((backTo pos (starEach es X.env)).any (·.1) = false) L2.aRfl._auto_1) :
  QE X (.Call (.Name x p) (e :: es) [] pos) (tMake C sp [] E t) := by subst hK; exact ⟨pe_make M F hr hg hm hb .nil hx ha.h hdb he hpl⟩
theorem dget (hu : X.A.units + 1 < cLine) (ho : QE X o td) (hi : QE X i ty) (hs : NoSl i := by exact fun _ _ => rfl) : QE X (.Subscript o i pos) (tDGet td ty) := ⟨pe_dget hu ho.h hi.h hs⟩
theorem dput (hu : X.A.units + 1 < cLine) (ho : QE X o td) (hi : QE X i ty) (hv : QE X value tv) (hs : autoParam (swapsWith value (some (.Subscript o i pos')) pos.line X.env = pure false) L2.aRfl._auto_1) : QS X (.Assign [.Subscript o i pos'] value pos) (sDPut td ty tv) := ⟨ps_dput hu ho.h hi.h hv.h hs⟩
end
end Z
namespace Ap
theorem tFld (K : PySem.W.Frag) (ta : TE) (f : Str) (σ : St) (H : Hp) (Q : VK) : L2.tFld K ta f σ H Q = ta σ H fun x H1 => ∃ a C dx fs v, x = .ref a ∧ H1 a = some (.ins C dx fs) ∧ Cls K C ∧ NoAttr K C f ∧ fs.lookup f = some v ∧ Q v H1 := rfl
theorem sFld (K : PySem.W.Frag) (ta tv : TE) (f : Str) (D : Ends) (σ : St) (H : Hp) : L2.sFld K ta tv f D σ H = tv σ H fun y H1 => ta σ H1 fun x H2 => ∃ a C dx fs, x = .ref a ∧ H2 a = some (.ins C dx fs) ∧ Cls K C ∧ NoAttr K C f ∧ fs.length < 1000 ∧ D.nx σ (upd H2 a (.ins C dx (putF f y fs))) := rfl
theorem tMeth (C : Addr) (m : Str) (sp : Sp) (dvs : List V) (E : XK) (ta : TE) (t : TA) (σ : St) (H : Hp) (Q : VK) : L2.tMeth C m sp dvs E ta t σ H Q = ta σ H fun x H1 => ∃ a dx fs, x = .ref a ∧ H1 a = some (.ins C dx fs) ∧ fs.lookup m = none ∧ t σ H1 fun vs H2 => sp (x :: (vs ++ dvs)) H2 Q E := rfl
theorem tMake (C : Addr) (sp : Sp) (dvs : List V) (E : XK) (t : TA) (σ : St) (H : Hp) (Q : VK) : L2.tMake C sp dvs E t σ H Q = t σ H fun vs H1 => ∀ x dx, H1 x = none → H1 dx = none → dx ≠ x → sp (.ref x :: (vs ++ dvs)) (upd (upd H1 dx (.own x)) x (.ins C dx [])) (fun v H2 => v = .non ∧ Q (.ref x) H2) E := rfl
theorem tDGet (td ty : TE) (σ : St) (H : Hp) (Q : VK) : L2.tDGet td ty σ H Q = td σ H fun x H1 => ty σ H1 fun y H2 => ∃ a v, x = .ref a ∧ DGet H2 a y (some v) ∧ Q v H2 := rfl
theorem sDPut (td ty tv : TE) (D : Ends) (σ : St) (H : Hp) : L2.sDPut td ty tv D σ H = tv σ H fun v H1 => td σ H1 fun x H2 => ty σ H2 fun y H3 => ∃ a H4, x = .ref a ∧ DPut H3 a y v H4 ∧ D.nx σ H4 := rfl
end Ap
end L2
set_option linter.all false
set_option maxRecDepth 100000
set_option maxHeartbeats 4000000
namespace L2
open PySem PySem.Spec PyProof PyProof.Rows
section
variable {prog : Program} {w : World} {A : Around} {E : Value → Shared → Prop} {s : Shared} {K : PySem.W.Frag} {a : Addr} {D : List (Str × List Str)} {k : Str} {tk : Tok}
theorem kdic_item {ws : List Str} {Q : Value → Shared → Prop} (T : KDic K a D) (X : K.In s.heap) (hk : KTD.datumAt k D = some ws) (h : ∀ v, KRow K ws v → Q v { s with toks := s.toks + 1 }) : wpAny (model prog w) A (getItem (.ref a) (.str k tk)) Q E s := by
 have hT := T.typeIs X
 unfold getItem
 try with_reducible refine wpAny_holding ?_
 refine wpAny_bind (wpAny_sequenceKey hT (by decide) ?_)
 refine wpAny_bind (wpAny_callSpecial?_slot (name := Str.ofString "__getitem__") hT PySem.F.slot_dict_getitem
  (wpAny_call_entry PySem.F.slot_dict_getitem hT PySem.F.entry_dict_getitem ?_ (args_dict_getitem _ _)))
 show wpAny _ _ (dictGet a (.str k tk) >>= _) _ _ s
 refine wpAny_bind (kdic_get T X (fun d v e r => ?_) fun e => ?_)
 ·rw [hk] at e
  cases e
  exact wpAny_pure ⟨v, rfl, wpAny_pure (h v r)⟩
 ·rw [hk] at e; cases e
end
noncomputable def tKix (K : PySem.W.Frag) (D : List (Str × List Str)) (te : TE) : TE := fun σ H Q => te σ H fun y H1 => ∃ k ws, y = .str k ∧ KTD.datumAt k D = some ws ∧ ∀ p, KTp K p (ws.map V.str) → Q (.ref p) H1
theorem pe_kix {X : Cx} {o e : Expr} {te : TE} {pos : Pos} {d : Addr} {D : List (Str × List Str)} (ho : PE X o (tC (.ref d))) (hD : KDic X.K d D) (he : PE X e te) (hs : NoSl e) : PE X (.Subscript o e pos) (tKix X.K D te) := by
 intro pins s σ H Q I h
 refine subD_of PySem.F.slot_dict_getitem.lookup hs (thn (ho pins s σ H (fun v H' => v = .ref d ∧ H' = H) I ⟨rfl, rfl⟩) fun u s1 ⟨x, H1, I1, rx, ex, eh⟩ => ?_)
 subst ex eh
 obtain rfl : u = Value.ref d := rx
 refine thn (he pins s1 σ H1 _ I1 h) fun iv s2 ⟨y, H2, I2, ry, k, ws, ek, e1, q⟩ => ?_
 subst ek
 obtain ⟨t, rfl⟩ := ry
 refine ⟨hD.typeIs I2.kIn, kdic_item hD I2.kIn e1 fun v r => ?_⟩
 obtain ⟨p, rfl, r⟩ := r
 exact ⟨.ref p, H2, I2.tok _, rfl, q p r⟩
theorem Z.seq {X : Cx} {tg l : Expr} {tl : TE} (K : PySem.W.Frag) (hK : X.K = K) (hl : QE X l tl) : QI X tg l (iSeq K tl) := by subst hK; exact ⟨pi_seq hl.h⟩
theorem Ap.iSeq (K : PySem.W.Frag) (tl : TE) (σ : St) (H : Hp) (R : It → Hp → Prop) : L2.iSeq K tl σ H R = tl σ H fun x H1 => ∃ a, x = V.ref a ∧ (((∃ xs, SqL K H1 a xs) ∧ R (Itl K a) H1) ∨ ((∃ xs, SqT K H1 a xs) ∧ R (Itt K a) H1)) := rfl
namespace Y
noncomputable def uKix (D : List (Str × List Str)) (ue : UE) : UE := fun μ Q => ue μ fun r μ' => match r with
 | .tr (.str k) => (match KTD.datumAt k D with
  | some ws => Q (.tr (.ktp (ws.map T.str))) μ'
  | none => False)
 | _ => False
theorem kix {X : Cx} {e : Expr} {ue : UE} {x : Str} {pos p : Pos} {D : List (Str × List Str)} (K : PySem.W.Frag) (hK : X.K = K) (hg : Gl X x) (hd : ∃ d, X.mg x = some (.ref d) ∧ KDic K d D) (he : YE X e ue) (hs : NoSl e := by exact fun _ _ => rfl) (hdb : autoParam ((x == ("__debug__" : Str)) = false) L2.aDec._auto_1) :
  YE X (.Subscript (.Name x p) e pos) (uKix D ue) := by
 obtain ⟨t, q, r⟩ := he
 obtain ⟨d, hm, hd⟩ := hd
 subst hK
 refine ⟨_, ⟨pe_kix (pe_glob hg hm rfl hdb) hd q.h hs⟩, fun F ad B σ H μ Q Qt hF l q k => r F ad B σ H μ _ _ hF l q fun v H' r1 μ' v1 f k1 q1 => ?_⟩
 split at q1
 ·rename_i z
  obtain ⟨l1, rp⟩ := v1
  cases rp
  cases e1 : KTD.datumAt z D with
  | none => rw [e1] at q1; exact q1.elim
  | some ws =>
   rw [e1] at q1
   exact ⟨z, ws, rfl, e1, fun p kt => k _ H' (.tr (.ktp (ws.map T.str))) μ' ⟨l1, .ktp (by rw [hF]; exact kt) (reps_strs ws)⟩ f.d k1 q1⟩
 ·exact q1.elim
end Y
namespace A
theorem uKix (D : List (Str × List Str)) (ue : UE) (μ : Mu) (Q : R → Mu → Prop) : Y.uKix D ue μ Q = ue μ fun r μ' => match r with
 | .tr (.str k) => (match KTD.datumAt k D with
  | some ws => Q (.tr (.ktp (ws.map T.str))) μ'
  | none => False)
 | _ => False := rfl
end A
end L2
set_option linter.all false
set_option maxRecDepth 100000
set_option maxHeartbeats 4000000
namespace L2
open PySem PySem.Spec PyProof PyProof.Rows
namespace Y
noncomputable def rSumX (K : PySem.W.Frag) : List V → Hp → VK → Prop := fun xs H Q => ∃ (p : Addr) (ns : List Int), xs = [.ref p] ∧ (SqL K H p (ns.map V.int) ∨ SqT K H p (ns.map V.int)) ∧ Q (.int ns.sum) H
theorem call_sumX {X : Cx} (K : PySem.W.Frag) (hK : X.K = K) (hc : X.calm = true) : CallR X (.builtin "sum") (rSumX K) := by
 subst hK
 intro pins s σ H xs us Q I r h
 obtain ⟨p, ns, rfl, hq, q⟩ := h
 rcases hq with hq | hq
 ·exact ucall_sum hc pins s σ H _ us Q I r ⟨p, ns, rfl, hq, q⟩
 ·obtain ⟨u, rfl, ru⟩ := vals1 r
  cases ru
  obtain ⟨its, rv, pl, hz⟩ := I.tuple hq
  have hi := intsAre_of rv
  obtain ⟨xs, hx⟩ := hi.allInts.items
  have hl' : s.heap.IsTuple p (intItems xs) := by rw [← hx]; exact pl
  refine PySem.W.ktm_sumG (I.ok.hd hc) hl' fun h' tk t' hk => ?_
  have e1 : ns = xs.toList.map (·.1) := by rw [← nums_intItems, ← hx]; exact hi.numsOf.symm
  have e2 : preSum (numAt xs) xs.size = ns.sum := by rw [preSum_eq, List.take_of_length_le (by simp), e1]
  rw [e2]
  exact ⟨.int ns.sum, H, I.kept hk, ⟨_, rfl⟩, q⟩
noncomputable def tSumX : T → Mu → (R → Mu → Prop) → Prop := fun t μ Q => match t with
 | .lst xs => ∃ ns : List Int, xs = ns.map T.int ∧ Q (.tr (.int ns.sum)) μ
 | .tup xs => ∃ ns : List Int, xs = ns.map T.int ∧ Q (.tr (.int ns.sum)) μ
 | _ => False
theorem rc_sumX {K : PySem.W.Frag} : RC K (rSumX K) (by1 tSumX) := by1_of fun F ad B σ H μ Q Qt x t hK l v1 q k => by
 subst hK
 unfold tSumX at q
 split at q
 ·obtain ⟨ns, rfl, q⟩ := q
  cases v1 with
  | lst ha ra => exact ⟨_, ns, rfl, .inl (by rw [← ints_reps ra]; exact SqL.of ha), k _ _ _ (Vr.flat l (.int _)) Fr.refl q⟩
 ·obtain ⟨ns, rfl, q⟩ := q
  cases v1 with
  | tup ha ra => exact ⟨_, ns, rfl, .inr (by rw [← ints_reps ra]; exact SqT.of ha), k _ _ _ (Vr.flat l (.int _)) Fr.refl q⟩
 ·exact q.elim
end Y
namespace A
theorem tSumXL (xs : List T) (μ : Mu) (Q : R → Mu → Prop) : Y.tSumX (.lst xs) μ Q = (∃ ns : List Int, xs = ns.map T.int ∧ Q (.tr (.int ns.sum)) μ) := rfl
theorem tSumXT (xs : List T) (μ : Mu) (Q : R → Mu → Prop) : Y.tSumX (.tup xs) μ Q = (∃ ns : List Int, xs = ns.map T.int ∧ Q (.tr (.int ns.sum)) μ) := rfl
end A
end L2
set_option linter.all false
set_option maxRecDepth 100000
set_option maxHeartbeats 4000000
namespace L2
open PySem PySem.Spec PyProof PyProof.Rows
namespace Y
noncomputable def uIndex : UMs := fun z rs μ Q => match rs with
 | [.tr (.str y)] => ∃ (i : Nat) (rest : List Nat), Builtin.Str.occurrences z y 0 z.length 1 = i :: rest ∧ Q (.tr (.int (i : Nat))) μ
 | _ => False
end Y
namespace A
theorem uIndex (z y : Str) (μ : Mu) (Q : R → Mu → Prop) : Y.uIndex z [.tr (.str y)] μ Q = (∃ (i : Nat) (rest : List Nat), Builtin.Str.occurrences z y 0 z.length 1 = i :: rest ∧ Q (.tr (.int (i : Nat))) μ) := rfl
end A
end L2
namespace G
open PySem L2 PySem.Spec PyProof.Rows
noncomputable def top (i : Nat) : Stmt := PySem.Challenge.pw_shortrows_k06_planted_runs.main.body.getD i (.Pass ⟨0, 0, 0, 0⟩)
noncomputable abbrev s_goal_of : Stmt := top 4
theorem sc_goal_of : FnScope ["row"] ["row"] (defScope s_goal_of) := ⟨rfl, rfl, rfl, by decide +kernel, rfl, by decide +kernel, by decide +kernel⟩
noncomputable abbrev s_Machine___init__ : Stmt := inClass (top 6) 0
theorem sc_Machine___init__ : FnScope ["self", "given"] ["self", "given"] (defScope s_Machine___init__) := ⟨rfl, rfl, rfl, by decide +kernel, rfl, by decide +kernel, by decide +kernel⟩
noncomputable abbrev s_Machine_place_next : Stmt := inClass (top 6) 1
theorem sc_Machine_place_next : FnScope ["self", "row", "behind", "end", "goes"] ["self", "row", "behind", "end"] (defScope s_Machine_place_next) := ⟨rfl, rfl, rfl, by decide +kernel, rfl, by decide +kernel, by decide +kernel⟩
noncomputable abbrev s_Machine_carry_out : Stmt := inClass (top 6) 2
theorem sc_Machine_carry_out : FnScope ["self", "row", "word"] ["self", "row"] (defScope s_Machine_carry_out) := ⟨rfl, rfl, rfl, by decide +kernel, rfl, by decide +kernel, by decide +kernel⟩
noncomputable abbrev s_Machine_number_for : Stmt := inClass (top 6) 3
theorem sc_Machine_number_for : FnScope ["self", "row", "word", "old", "other"] ["self", "row"] (defScope s_Machine_number_for) := ⟨rfl, rfl, rfl, by decide +kernel, rfl, by decide +kernel, by decide +kernel⟩
noncomputable abbrev s_Machine_heard_number : Stmt := inClass (top 6) 4
theorem sc_Machine_heard_number : FnScope ["self"] ["self"] (defScope s_Machine_heard_number) := ⟨rfl, rfl, rfl, by decide +kernel, rfl, by decide +kernel, by decide +kernel⟩
noncomputable abbrev s_Machine_told_numbers : Stmt := inClass (top 6) 5
theorem sc_Machine_told_numbers : FnScope ["self"] ["self"] (defScope s_Machine_told_numbers) := ⟨rfl, rfl, rfl, by decide +kernel, rfl, by decide +kernel, by decide +kernel⟩
noncomputable abbrev s_Machine_box_numbers : Stmt := inClass (top 6) 6
theorem sc_Machine_box_numbers : FnScope ["self"] ["self"] (defScope s_Machine_box_numbers) := ⟨rfl, rfl, rfl, by decide +kernel, rfl, by decide +kernel, by decide +kernel⟩
noncomputable abbrev s_run_rows : Stmt := top 7
theorem sc_run_rows : FnScope ["program", "given", "most", "machine", "turns", "at", "done", "how"] ["program", "given", "most"] (defScope s_run_rows) := ⟨rfl, rfl, rfl, by decide +kernel, rfl, by decide +kernel, by decide +kernel⟩
noncomputable abbrev s__law_mix : Stmt := top 9
theorem sc__law_mix : FnScope ["cell", "k", "number"] ["cell", "k"] (defScope s__law_mix) := ⟨rfl, rfl, rfl, by decide +kernel, rfl, by decide +kernel, by decide +kernel⟩
noncomputable abbrev s__law_deck : Stmt := top 10
theorem sc__law_deck : FnScope ["script"] ["script"] (defScope s__law_deck) := ⟨rfl, rfl, rfl, by decide +kernel, rfl, by decide +kernel, by decide +kernel⟩
noncomputable abbrev s__law_next : Stmt := top 11
theorem sc__law_next : FnScope ["deck", "many", "cell", "found"] ["deck", "many"] (defScope s__law_next) := ⟨rfl, rfl, rfl, by decide +kernel, rfl, by decide +kernel, by decide +kernel⟩
noncomputable abbrev s__law_number : Stmt := top 12
theorem sc__law_number : FnScope ["deck"] ["deck"] (defScope s__law_number) := ⟨rfl, rfl, rfl, by decide +kernel, rfl, by decide +kernel, by decide +kernel⟩
noncomputable abbrev s__law_row : Stmt := top 13
theorem sc__law_row : FnScope ["deck", "size", "word", "box", "goal"] ["deck", "size"] (defScope s__law_row) := ⟨rfl, rfl, rfl, by decide +kernel, rfl, by decide +kernel, by decide +kernel⟩
noncomputable abbrev s__law_moved : Stmt := top 15
theorem sc__law_moved : FnScope ["rows", "ahead", "found", "row"] ["rows", "ahead"] (defScope s__law_moved) := ⟨rfl, rfl, rfl, by decide +kernel, rfl, by decide +kernel, by decide +kernel⟩
noncomputable abbrev s__law_set : Stmt := top 16
theorem sc__law_set : FnScope ["deck", "rows", "size", "ahead", "behind", "begin"] ["deck", "rows"] (defScope s__law_set) := ⟨rfl, rfl, rfl, by decide +kernel, rfl, by decide +kernel, by decide +kernel⟩
noncomputable abbrev s__law_product : Stmt := top 17
theorem sc__law_product : FnScope ["boxes", "one", "other", "a", "b", "c", "d", "rows", "loops", "turns"] ["boxes", "one", "other"] (defScope s__law_product) := ⟨rfl, rfl, rfl, by decide +kernel, rfl, by decide +kernel, by decide +kernel⟩
noncomputable abbrev s__law_sum : Stmt := top 18
theorem sc__law_sum : FnScope ["boxes", "some", "a", "b", "c", "d", "rows", "many", "turns"] ["boxes", "some"] (defScope s__law_sum) := ⟨rfl, rfl, rfl, by decide +kernel, rfl, by decide +kernel, by decide +kernel⟩
noncomputable abbrev s__law_doubled : Stmt := top 19
theorem sc__law_doubled : FnScope ["boxes", "one", "many", "a", "b", "c", "rows", "turns"] ["boxes", "one", "many"] (defScope s__law_doubled) := ⟨rfl, rfl, rfl, by decide +kernel, rfl, by decide +kernel, by decide +kernel⟩
noncomputable abbrev s__law_taken_off : Stmt := top 20
theorem sc__law_taken_off : FnScope ["boxes", "one", "times_so", "a", "b", "c", "rows", "turns"] ["boxes", "one", "times_so"] (defScope s__law_taken_off) := ⟨rfl, rfl, rfl, by decide +kernel, rfl, by decide +kernel, by decide +kernel⟩
noncomputable abbrev s__law_boxes : Stmt := top 21
theorem sc__law_boxes : FnScope ["deck", "left"] ["deck"] (defScope s__law_boxes) := ⟨rfl, rfl, rfl, by decide +kernel, rfl, by decide +kernel, by decide +kernel⟩
noncomputable abbrev s__law_right : Stmt := top 22
theorem sc__law_right : FnScope ["deck", "planted", "rows", "given", "told", "turns", "begin", "program", "found", "due", "less"] ["deck", "planted"] (defScope s__law_right) := ⟨rfl, rfl, rfl, by decide +kernel, rfl, by decide +kernel, by decide +kernel⟩
noncomputable abbrev s_law : Stmt := top 23
theorem sc_law : FnScope ["script", "deck", "turn", "boxes", "one", "planted", "some"] ["script"] (defScope s_law) := ⟨rfl, rfl, rfl, by decide +kernel, rfl, by decide +kernel, by decide +kernel⟩
structure Txt (K : PySem.W.Frag) (mg : Str → Option Value) : Prop where
 b_all : mg "all" = none
 b_dict : mg "dict" = none
 b_int : mg "int" = none
 b_len : mg "len" = none
 b_list : mg "list" = none
 b_min : mg "min" = none
 b_range : mg "range" = none
 b_sum : mg "sum" = none
 b_tuple : mg "tuple" = none
 c_BOXES : ∃ w u, mg "BOXES" = some u ∧ RelV w u ∧ ∀ H B, Rep K H B w (.ktp [.str "a", .str "b", .str "c", .str "d", .str "e", .str "f", .str "g", .str "h"])
 c_WHOLE : ∃ w u, mg "WHOLE" = some u ∧ RelV w u ∧ ∀ H B, Rep K H B w (.int 65536)
 d_SHAPES : ∃ d, mg "SHAPES" = some (.ref d) ∧ KDic K d [("put", ["box", "number"]), ("add", ["box", "box"]), ("sub", ["box", "box"]), ("copy", ["box", "box"]), ("tell", ["box"]), ("hear", ["box"]), ("jump", ["goal"]), ("zero", ["box", "goal"]), ("halt", [])]
 mc : ∃ (C_Machine f___init__ f_place_next f_carry_out f_number_for f_heard_number f_told_numbers f_box_numbers : Addr) (d___init__ d_place_next d_carry_out d_number_for d_heard_number d_told_numbers d_box_numbers : FuncData), mg "Machine" = some (.ref C_Machine) ∧ Cls K C_Machine ∧ NoAttr K C_Machine "given" ∧ NoAttr K C_Machine "heard" ∧ NoAttr K C_Machine "told" ∧ NoAttr K C_Machine "boxes" ∧ Mk K C_Machine f___init__ ∧ Fun K "__init__" "Machine.__init__" s_Machine___init__ f___init__ d___init__ ∧ Binds K d___init__ ["self", "given"] [] ∧ Meth K C_Machine "place_next" f_place_next ∧ Fun K "place_next" "Machine.place_next" s_Machine_place_next f_place_next d_place_next ∧ Binds K d_place_next ["self", "row", "behind", "end"] [] ∧ Meth K C_Machine "carry_out" f_carry_out ∧ Fun K "carry_out" "Machine.carry_out" s_Machine_carry_out f_carry_out d_carry_out ∧ Binds K d_carry_out ["self", "row"] [] ∧ Meth K C_Machine "number_for" f_number_for ∧ Fun K "number_for" "Machine.number_for" s_Machine_number_for f_number_for d_number_for ∧ Binds K d_number_for ["self", "row"] [] ∧ Meth K C_Machine "heard_number" f_heard_number ∧ Fun K "heard_number" "Machine.heard_number" s_Machine_heard_number f_heard_number d_heard_number ∧ Binds K d_heard_number ["self"] [] ∧ Meth K C_Machine "told_numbers" f_told_numbers ∧ Fun K "told_numbers" "Machine.told_numbers" s_Machine_told_numbers f_told_numbers d_told_numbers ∧ Binds K d_told_numbers ["self"] [] ∧ Meth K C_Machine "box_numbers" f_box_numbers ∧ Fun K "box_numbers" "Machine.box_numbers" s_Machine_box_numbers f_box_numbers d_box_numbers ∧ Binds K d_box_numbers ["self"] []
section
variable {P : Program} {w : World} {K : PySem.W.Frag} {mg : Str → Option Value} {base : Heap}
local macro_rules | `(tactic| walk_at "lc") => `(tactic| first | exact Or.inl rfl | exact Or.inr rfl)
local macro_rules | `(tactic| wp_walk using $ts,*) => do
  let ids := ("L2.A.uIndex L2.A.tSumXL L2.A.tSumXT L2.A.uKix L2.A3.stq_no L2.A3.stq_ok L2.A3.stq_ck L2.A3.sti_s L2.A3.oQ_some L2.A3.uVar L2.A3.uAdd L2.A3.uIx L2.A3.tLen L2.A3.uSl L2.A3.uIt L2.A3.gT L2.A3.uTru L2.A3.v_tr L2.A3.v_bx L2.A3.v_pb L2.A3.add_i L2.A3.add_s L2.A3.add_l L2.A3.add_t L2.A3.ix_l L2.A3.ix_t L2.A3.ix_k L2.A3.ix_s L2.A3.len_l L2.A3.len_t L2.A3.len_r L2.A3.len_k L2.A3.len_s L2.A3.sl_l L2.A3.sl_r L2.A3.sl_t L2.A3.sl_s L2.A.listS L2.A.isL_l L2.A.uMe0 L2.A.tAllL L2.A.uC L2.A.uVar L2.A.uOp L2.A.uTest L2.A.uNot L2.A.uAnd L2.A.uOr L2.A.uTru L2.A.uAndV L2.A.uIf L2.A.uNeg L2.A.uNil L2.A.uCons L2.A.uK L2.A.uTup L2.A.uLst L2.A.uCB L2.A.uNoPart L2.A.uPart L2.A.byT L2.A.tIntI L2.A.tBlI L2.A.uAdd L2.A.mulII L2.A.mulLI L2.A.mulTII L2.A.mulTLI L2.A.mulTTI L2.A.tSumL L2.A.tNeI L2.A.tNeS L2.A.tNeB L2.A.tNeL L2.A.tNeT L2.A.rev_l L2.A.rev_t L2.A.uIxT L2.A.tEqI L2.A.tEqS L2.A.tEqB L2.A.tEqL L2.A.tEqT L2.A.by1 L2.A.tLen L2.A.uTuple L2.A.uIntI L2.A.uIntB L2.A.uSlX L2.A.slx_l L2.A.slx_r L2.A.slx_t L2.A.slx_s L2.A.gNFt L2.A.gNFf L2.A.tEqXT L2.A.tEqXL L2.A.tEqXI L2.A.tEqXS L2.A.tEqXB L2.A.tNeXT L2.A.tNeXL L2.A.tNeXI L2.A.tNeXS L2.A.tNeXB L2.A.tInT L2.A.tInL L2.A.tInK L2.A.tInS L2.A.uPopAt L2.A.uAsg L2.A.gNt L2.A.gNf L2.A.noP L2.A.nb_tr L2.A.nb_bx L2.A.nb_un L2.A.nb_sl L2.A.gT L2.A.gsC L2.A.gsN L2.A.gS L2.A.uRet L2.A.uDrop L2.A.uIfS L2.A.uIt L2.A.iR1 L2.A.uFor L2.A.uComp L2.A.uMe L2.A.uAppend L2.A.uFn L2.A.sqL L2.A.sqT stp_some sti_some oT_some L2.A.v_tr L2.A.v_bx L2.A.v_pb L2.A.add_i L2.A.add_s L2.A.add_l L2.A.add_t L2.A.ix_l L2.A.ix_t L2.A.ix_k L2.A.ix_s L2.A.len_l L2.A.len_t L2.A.len_r L2.A.len_k L2.A.len_s L2.A.tp_l L2.A.tp_t L2.A.ls_l L2.A.ls_t L2.A.ls_r L2.A.ls_g L2.A.sl_l L2.A.sl_r L2.A.sl_t L2.A.sq_t L2.A.sq_l L2.A.it_tl L2.A.it_fl L2.A.it_tt L2.A.it_tr L2.A.it_tk L2.A.it_br L2.A.itB_l L2.A.c_tr L2.A.c_fr L2.A.c_br L2.A.d_tr L2.A.d_fr L2.A.d_br L2.A.tr_b L2.A.tr_i Sl.box Sl.put putS L2.putAll agT bxS roS L2.Y.trees L2.Y.isiT L2.Y.own1 L2.Y.own2 L2.Y.dr1 L2.Y.dr2 List.tail_cons Nat.zero_le startM edOf outsAt Option.bind_some Option.bind_none Option.map_some Option.map_none List.map_cons List.map_nil List.length_cons List.length_nil List.length_map List.replicate List.cons_append List.nil_append List.append_nil List.getElem?_cons_zero List.getElem?_cons_succ List.set_cons_zero List.set_cons_succ List.nodup_nil List.nodup_cons List.not_mem_nil List.mem_cons not_false_eq_true false_implies implies_true forall_eq or_false and_true true_and and_self true_or at_0 at_1 at_2 at_3 at_4 Nat.reduceAdd Nat.reduceSub Nat.reduceLeDiff Nat.reduceLT Bool.false_eq_true Bool.not_true Bool.not_false if_false if_true decide_eq_true_eq Bool.not_eq_true' decide_eq_false_iff_not Int.reduceToNat Int.reducePow reduceCtorEq exists_eq_left exists_eq_left'".splitOn " ").toArray.map fun n => Lean.mkIdent n.toName
  `(tactic| simp only [↓reduceIte, $[↓$ts:term],*, $[$ids:ident],*, $[$ts:term],*])
local macro_rules | `(tactic| walk_at "rt") => `(tactic| wp_walk using and_self)
theorem szLine : 200000 ≤ sizeLine := by decide
noncomputable def nI : List Int → List L2.T := List.map L2.T.int
theorem nI_len (xs : List Int) : (nI xs).length = xs.length := List.length_map ..
noncomputable def Deck (n : Nat) (d : L2.T) : Prop := ∃ (cells : List Int) (i r c t : Int), d = .lst [.lst (nI cells), .int i, .int r, .int c, .int t] ∧ 0 ≤ i ∧ i ≤ cells.length ∧ cells.length ≤ 63 ∧ 0 ≤ r ∧ 0 ≤ c ∧ c ≤ n
theorem Deck.mono {n m : Nat} {d : L2.T} (h : Deck n d) (hm : n ≤ m) : Deck m d := by
 obtain ⟨cells, i, r, c, t, h1, h2, h3, h4, h5, h6, h7⟩ := h
 exact ⟨cells, i, r, c, t, h1, h2, h3, h4, h5, h6, by omega⟩
theorem at_nI {xs : List Int} {i : Int} (h0 : 0 ≤ i) (h1 : i < xs.length) : ∃ z ∈ xs, atI (nI xs) i = some (.int z) := by
 have hi : i.toNat < xs.length := by omega
 refine ⟨xs[i.toNat], List.getElem_mem hi, ?_⟩
 unfold atI ixN nI
 rw [List.length_map, if_pos (by omega), if_pos (by omega)]
 show (List.map L2.T.int xs)[i.toNat]? = _
 rw [List.getElem?_map, List.getElem?_eq_getElem hi]
 rfl
noncomputable def tMix : TSp := fun args Q => ∃ c k : Int, args = [.int c, .int k] ∧ 0 ≤ k ∧ k < 2 ^ 60 ∧ ∀ v : Int, Q (.tr (.int v)) []
theorem ok_mix (T : Txt K mg) (F : HasFn K mg "_law_mix" s__law_mix ["cell", "k"]) : CallOk P w K mg base CX0 1 "_law_mix" ["cell", "k"] (spT K [false, false] tMix) := by
 refine F.okT sc__law_mix [false, false] rfl (by decide) (fun args Qt hl h f cdv A outer s H E hr => ?_)
 have hu := hu_of hr
 obtain ⟨c, k, rfl, h0, h1, q⟩ := h
 refine ⟨_, (Y.bcons (Y.set (i := 2) sc__law_mix.nd rfl (by walk_at "lc") (Y.op (Y.op_addG K rfl) Y.ro_addS (Y.op op_mod Y.ro_int (Y.vS 0) Y.int) (Y.op (Y.op_mulG K rfl) Y.ro_mulT (Y.op (Y.op_mulG K rfl) Y.ro_mulT Y.int (Y.vS 1)) (Y.vS 1))))
   (Y.bcons (Y.set (i := 2) sc__law_mix.nd rfl (by walk_at "lc") (Y.op op_mod Y.ro_int (Y.op (Y.op_addG K rfl) Y.ro_addS (Y.vS 2) (Y.op (Y.op_mulG K rfl) Y.ro_mulT Y.int (Y.vS 1))) Y.int))
   (Y.bcons (Y.set (i := 2) sc__law_mix.nd rfl (by walk_at "lc") (Y.op op_mod Y.ro_int (Y.op (Y.op_mulG K rfl) Y.ro_mulT (Y.vS 2) (Y.vS 2)) Y.int))
   (Y.bone (Y.ret (Y.op Y.op_fdivG Y.ro_int (Y.op op_mod Y.ro_int (Y.op (Y.op_mulG K rfl) Y.ro_mulT (Y.vS 2) (Y.op (Y.op_addG K rfl) Y.ro_addS (Y.vS 2) Y.int)) Y.int) Y.int)))))), ?_⟩
 have m1 : ∀ a : Int, 0 ≤ a % 2147483629 ∧ a % 2147483629 < 2147483629 := fun a => ⟨by omega, by omega⟩
 have m2 : ∀ a : Int, 0 ≤ a % 2147483587 ∧ a % 2147483587 < 2147483587 := fun a => ⟨by omega, by omega⟩
 refine seqT fun N hN => ?_
 walk_at "rt"
 refine ⟨by decide, .inl (by decide), .inr ⟨by omega, by omega⟩, ?_⟩
 rw [hN]; clear hN N
 refine seqT fun N hN => ?_
 walk_at "rt"
 refine ⟨.inl (by decide), by decide, ?_⟩
 generalize hx : (c % 2147483629 + 1000003 * k * k + 7919 * k) % 2147483629 = x
 have hx2 := m1 (c % 2147483629 + 1000003 * k * k + 7919 * k)
 rw [hx] at hx2
 rw [hN]; clear hN N
 refine seqT fun N hN => ?_
 walk_at "rt"
 refine ⟨.inl ⟨by omega, by omega⟩, by decide, ?_⟩
 generalize hy : x * x % 2147483587 = y
 have hy2 := m2 (x * x)
 rw [hy] at hy2
 rw [hN]; clear hN N
 walk_at "rt"
 exact ⟨.inl ⟨by omega, by omega⟩, by decide, ⟨by decide, by decide⟩, q _⟩
noncomputable def tDeck : TSp := fun args Q => ∃ ns : List Int, args = [.rol (nI ns)] ∧ ns.length ≤ 63 ∧ ∀ d, Deck 0 d → Q (.fr d) []
theorem ok_deck (T : Txt K mg) (F : HasFn K mg "_law_deck" s__law_deck ["script"]) : CallOk P w K mg base CX0 1 "_law_deck" ["script"] (spT K [false] tDeck) := by
 refine F.okT sc__law_deck [false] rfl (by decide) (fun args Qt hl h f cdv A outer s H E hr => ?_)
 have hu := hu_of hr
 obtain ⟨ns, rfl, hn, q⟩ := h
 refine ⟨_, (Y.bone (Y.ret (Y.lst (Y.cons (Y.sliceS K rfl (Y.vS 0) Y.po0 (Y.po1 Y.int)) (Y.cons Y.int (Y.cons Y.int (Y.cons Y.int (Y.cons (Y.cb (Y.call_sumG K rfl rfl) Y.rc_sum rfl T.b_sum (by decide +kernel) (Y.cons (Y.sliceS K rfl (Y.vS 0) Y.po0 (Y.po1 Y.int)) Y.nil)) Y.nil)))))))), ?_⟩
 have ec : Y.cutG (nI ns) none (some 63) = nI ns := by
  unfold Y.cutG
  rw [HT.sIx_none, show (some (63 : Int)) = some ((63 : Nat) : Int) from rfl, HT.sIx_nat, nI_len, List.drop_zero]
  exact List.take_of_length_le (by rw [nI_len]; omega)
 wp_walk using ec
 refine ⟨ns, rfl, by decide, q _ ⟨ns, 0, 0, 0, _, rfl, by decide, by omega, hn, by decide, by decide, by decide⟩⟩
noncomputable def tNext : TSp := fun args Q => ∃ (d : L2.T) (m : Int) (n : Nat), args = [d, .int m] ∧ Deck n d ∧ n < 2 ^ 50 ∧ 0 < m ∧ m < 2 ^ 29 ∧ ∀ (v : Int) (d' : L2.T), 0 ≤ v → v < m → Deck (n + 1) d' → Q (.tr (.int v)) [d']
theorem ok_next (T : Txt K mg) (F : HasFn K mg "_law_next" s__law_next ["deck", "many"]) (h_law_mix : CallOk P w K mg base CX0 1 "_law_mix" ["cell", "k"] (spT K [false, false] tMix)) : CallOk P w K mg base CX0 2 "_law_next" ["deck", "many"] (spT K [true, false] tNext) := by
 refine F.okT sc__law_next [true, false] rfl (by decide) (fun args Qt hl h f cdv A outer s H E hr => ?_)
 have hu := hu_of hr
 obtain ⟨d, m, n, rfl, ⟨cells, i, r, ct, t, rfl, h1, h2, h3, h4, h5, h6⟩, hn, hm0, hm1, q⟩ := h
 refine ⟨_, (Y.bcons (Y.ifS (Y.tw (Y.wand (Y.tcmp (Y.op_eqG K rfl (Nat.lt_of_succ_lt hu)) Y.ro_eq (Y.ix (Y.ix_G K rfl) Y.ro_ixS (Y.vS 0) Y.int) Y.int) (Y.wand1 (Y.tcmp op_lt Y.ro_bl (Y.ix (Y.ix_G K rfl) Y.ro_ixS (Y.vS 0) Y.int) (Y.cb (Y.call_lenG K rfl) Y.rc_lenS rfl T.b_len (by decide +kernel) (Y.cons (Y.ix (Y.ix_G K rfl) Y.ro_ixS (Y.vS 0) Y.int) Y.nil)))))) (Y.bcons (Y.set (i := 2) sc__law_next.nd rfl (by walk_at "lc") (Y.ix (Y.ix_G K rfl) Y.ro_ixS (Y.ix (Y.ix_G K rfl) Y.ro_ixS (Y.vS 0) Y.int) (Y.ix (Y.ix_G K rfl) Y.ro_ixS (Y.vS 0) Y.int)))
   (Y.bcons (Y.asg (Y.op (Y.op_addG K rfl) Y.ro_addS (Y.ix (Y.ix_G K rfl) Y.ro_ixS (Y.vS 0) Y.int) Y.int) (Y.gsub (Y.vS 0) Y.int))
   (Y.bcons (Y.ifS (Y.tcmp op_lt Y.ro_bl (Y.vS 2) (Y.op op_pow Y.ro_int Y.int Y.int)) (Y.bone (Y.ret (Y.op op_mod Y.ro_int (Y.fn K rfl h_law_mix (hr.mono (by decide)) rfl pass0 (Y.cons (Y.vS 2) (Y.cons (Y.ix (Y.ix_G K rfl) Y.ro_ixS (Y.vS 0) Y.int) Y.nil))) (Y.vS 1)))) Y.bnil)
   (Y.bone (Y.asg (Y.vS 2) (Y.gsub (Y.vS 0) Y.int)))))) Y.bnil)
   (Y.bcons (Y.ifS (Y.tcmp op_gt Y.ro_bl (Y.ix (Y.ix_G K rfl) Y.ro_ixS (Y.vS 0) Y.int) Y.int) (Y.bcons (Y.set (i := 3) sc__law_next.nd rfl (by walk_at "lc") (Y.op op_mod Y.ro_int (Y.ix (Y.ix_G K rfl) Y.ro_ixS (Y.vS 0) Y.int) (Y.vS 1)))
   (Y.bcons (Y.asg (Y.op Y.op_fdivG Y.ro_int (Y.ix (Y.ix_G K rfl) Y.ro_ixS (Y.vS 0) Y.int) (Y.vS 1)) (Y.gsub (Y.vS 0) Y.int))
   (Y.bone (Y.ret (Y.vS 3))))) Y.bnil)
   (Y.bcons (Y.asg (Y.op (Y.op_addG K rfl) Y.ro_addS (Y.ix (Y.ix_G K rfl) Y.ro_ixS (Y.vS 0) Y.int) Y.int) (Y.gsub (Y.vS 0) Y.int))
   (Y.bone (Y.ret (Y.op op_mod Y.ro_int (Y.fn K rfl h_law_mix (hr.mono (by decide)) rfl pass0 (Y.cons (Y.ix (Y.ix_G K rfl) Y.ro_ixS (Y.vS 0) Y.int) (Y.cons (Y.op (Y.op_addG K rfl) Y.ro_addS (Y.ix (Y.ix_G K rfl) Y.ro_ixS (Y.vS 0) Y.int) Y.int) Y.nil))) (Y.vS 1))))))), ?_⟩
 have x0 : ixN 5 0 = some 0 := by decide
 have x1 : ixN 5 1 = some 1 := by decide
 have x2 : ixN 5 2 = some 2 := by decide
 have x3 : ixN 5 3 = some 3 := by decide
 have x4 : ixN 5 4 = some 4 := by decide
 have a0 : ∀ a b c d e : L2.T, atI [a, b, c, d, e] 0 = some a := fun _ _ _ _ _ => rfl
 have a1 : ∀ a b c d e : L2.T, atI [a, b, c, d, e] 1 = some b := fun _ _ _ _ _ => rfl
 have a2 : ∀ a b c d e : L2.T, atI [a, b, c, d, e] 2 = some c := fun _ _ _ _ _ => rfl
 have a3 : ∀ a b c d e : L2.T, atI [a, b, c, d, e] 3 = some d := fun _ _ _ _ _ => rfl
 have a4 : ∀ a b c d e : L2.T, atI [a, b, c, d, e] 4 = some e := fun _ _ _ _ _ => rfl
 have fin : ∀ (a : Int) (i' r' c' : Int), 0 ≤ i' → i' ≤ cells.length → 0 ≤ r' → 0 ≤ c' → c' ≤ (n + 1 : Nat) → Qt (.tr (.int (a % m))) [.lst [.lst (nI cells), .int i', .int r', .int c', .int t]] := fun a i' r' c' g1 g2 g3 g4 g5 =>
  q _ _ (Int.emod_nonneg _ (by omega)) (Int.emod_lt_of_pos _ hm0) ⟨cells, i', r', c', t, rfl, g1, g2, h3, g3, g4, g5⟩
 refine seqT fun N hN => ?_
 have tail : ∀ (i' r' : Int) (s2 : Option L2.T), 0 ≤ i' → i' ≤ cells.length → 0 ≤ r' → N [.pb (.lst [.lst (nI cells), .int i', .int r', .int ct, .int t]), .tr (.int m), sl s2, .un] := fun i' r' s2 g1 g2 g3 => by
  rw [hN]; clear hN N
  refine seqT fun N hN => ?_
  by_cases hz : 0 < r'
  ·wp_walk using a0, a1, a2, a3, a4, x0, x1, x2, x3, x4, if_pos hz
   refine seqT fun M hM => ?_
   wp_walk using a0, a1, a2, a3, a4, x0, x1, x2, x3, x4
   refine ⟨hm0, ?_⟩
   rw [hM]; clear hM M
   refine seqT fun M hM => ?_
   wp_walk using a0, a1, a2, a3, a4, x0, x1, x2, x3, x4
   refine ⟨⟨hm0, by omega⟩, ?_⟩
   rw [hM]; clear hM M
   walk_at "rt"
   exact fin _ _ _ _ g1 g2 (Int.ediv_nonneg g3 (by omega)) h5 (by omega)
  ·wp_walk using a0, a1, a2, a3, a4, x0, x1, x2, x3, x4, if_neg hz
   rw [hN]; clear hN N
   refine seqT fun N hN => ?_
   wp_walk using a0, a1, a2, a3, a4, x0, x1, x2, x3, x4
   rw [hN]; clear hN N
   wp_walk using a0, a1, a2, a3, a4, x0, x1, x2, x3, x4
   refine ⟨t, ct + 1 + 63, rfl, by omega, by omega, fun v => ?_⟩
   walk_at "rt"
   exact ⟨hm0, fin _ _ _ _ g1 g2 g3 (by omega) (by omega)⟩
 by_cases hr0 : r = 0
 ·by_cases hi : i < cells.length
  ·obtain ⟨cell, hcm, ha⟩ := at_nI h1 hi
   wp_walk using a0, a1, a2, a3, a4, x0, x1, x2, x3, x4, nI_len, if_pos hr0, if_pos hi
   refine seqT fun M hM => ?_
   wp_walk using a0, a1, a2, a3, a4, x0, x1, x2, x3, x4, ha
   rw [hM]; clear hM M
   refine seqT fun M hM => ?_
   wp_walk using a0, a1, a2, a3, a4, x0, x1, x2, x3, x4
   rw [hM]; clear hM M
   refine seqT fun M hM => ?_
   have pow : CPow 10 18 := by unfold CPow; decide
   by_cases hb : cell < 1000000000000000000
   ·wp_walk using a0, a1, a2, a3, a4, x0, x1, x2, x3, x4, if_pos hb
    refine ⟨pow, ?_⟩
    refine ⟨cell, i + 1, rfl, by omega, by omega, fun v => ?_⟩
    walk_at "rt"
    exact ⟨hm0, fin _ _ _ _ (by omega) (by omega) h4 h5 (by omega)⟩
   ·wp_walk using a0, a1, a2, a3, a4, x0, x1, x2, x3, x4, if_neg hb
    refine ⟨pow, ?_⟩
    rw [hM]; clear hM M
    wp_walk using a0, a1, a2, a3, a4, x0, x1, x2, x3, x4
    exact tail (i + 1) cell (some _) (by omega) (by omega) (by omega)
  ·wp_walk using a0, a1, a2, a3, a4, x0, x1, x2, x3, x4, nI_len, if_pos hr0, if_neg hi
   exact tail i r none h1 h2 h4
 ·wp_walk using a0, a1, a2, a3, a4, x0, x1, x2, x3, x4, nI_len, if_neg hr0
  exact tail i r none h1 h2 h4
noncomputable def tNumber : TSp := fun args Q => ∃ (d : L2.T) (n : Nat), args = [d] ∧ Deck n d ∧ n < 2 ^ 49 ∧ ∀ (v : Int) (d' : L2.T), 0 ≤ v → v < 65536 → Deck (n + 3) d' → Q (.tr (.int v)) [d']
theorem at_any {xs : List L2.T} {i : Int} (h0 : 0 ≤ i) (h1 : i < xs.length) : ∃ z ∈ xs, atI xs i = some z := by
 have hi : i.toNat < xs.length := by omega
 refine ⟨xs[i.toNat], List.getElem_mem hi, ?_⟩
 unfold atI ixN
 rw [if_pos (by omega), if_pos (by omega)]
 exact List.getElem?_eq_getElem hi
theorem ok_number (T : Txt K mg) (F : HasFn K mg "_law_number" s__law_number ["deck"]) (h_law_next : CallOk P w K mg base CX0 2 "_law_next" ["deck", "many"] (spT K [true, false] tNext)) : CallOk P w K mg base CX0 3 "_law_number" ["deck"] (spT K [true] tNumber) := by
 refine F.okT sc__law_number [true] rfl (by decide) (fun args Qt hl h f cdv A outer s H E hr => ?_)
 have hu := hu_of hr
 obtain ⟨d, n, rfl, D, hn, q⟩ := h
 refine ⟨_, (Y.bone (Y.ret (Y.ix (Y.ix_G K rfl) Y.ro_ixS (Y.lst (Y.cons Y.int (Y.cons Y.int (Y.cons Y.int (Y.cons Y.int (Y.cons Y.int (Y.cons (Y.fn K rfl h_law_next (hr.mono (by decide)) rfl pass0 (Y.cons (Y.vS 0) (Y.cons Y.int Y.nil))) (Y.cons (Y.fn K rfl h_law_next (hr.mono (by decide)) rfl pass0 (Y.cons (Y.vS 0) (Y.cons Y.int Y.nil))) (Y.cons Y.int Y.nil))))))))) (Y.fn K rfl h_law_next (hr.mono (by decide)) rfl pass0 (Y.cons (Y.vS 0) (Y.cons Y.int Y.nil)))))), ?_⟩
 walk_at "rt"
 refine ⟨d, 12, n, rfl, D, by omega, by decide, by decide, fun a d1 a0 a1 D1 => ?_⟩
 walk_at "rt"
 refine ⟨d1, 65536, n + 1, rfl, D1, by omega, by decide, by decide, fun b d2 b0 b1 D2 => ?_⟩
 walk_at "rt"
 refine ⟨by decide, d2, 8, n + 2, rfl, D2, by omega, by decide, by decide, fun c d3 c0 c1 D3 => ?_⟩
 obtain ⟨v, hv, ha⟩ := at_any (xs := [.int 0, .int 1, .int 2, .int 65535, .int 32768, .int a, .int b, .int 65534]) c0 c1
 wp_walk using ha
 have fin : ∀ z : Int, 0 ≤ z → z < 65536 → Qt (.tr (.int z)) [d3] := fun z z0 z1 => q z d3 z0 z1 D3
 simp only [List.mem_cons, List.not_mem_nil, or_false] at hv
 rcases hv with rfl | rfl | rfl | rfl | rfl | rfl | rfl | rfl <;> exact fin _ (by omega) (by omega)
theorem fin2 (u : _root_.Fin 2) : u = 0 ∨ u = 1 := by revert u; decide
theorem fin3 (u : _root_.Fin 3) : u = 0 ∨ u = 1 ∨ u = 2 := by revert u; decide
theorem lt8 {b : Nat} (h : b < 8) : b = 0 ∨ b = 1 ∨ b = 2 ∨ b = 3 ∨ b = 4 ∨ b = 5 ∨ b = 6 ∨ b = 7 := by omega
theorem len8 {α : Type} {l : List α} (h : l.length = 8) : ∃ a b c d e f g i, l = [a, b, c, d, e, f, g, i] := by
 rcases l with _ | ⟨a, _ | ⟨b, _ | ⟨c, _ | ⟨d, _ | ⟨e, _ | ⟨f, _ | ⟨g, _ | ⟨i, _ | ⟨j, l⟩⟩⟩⟩⟩⟩⟩⟩⟩ <;> first | exact ⟨_, _, _, _, _, _, _, _, rfl⟩ | (exfalso; revert h; simp)
inductive Row where
 | put (b n : Nat) | two (w : Fin 3) (a b : Nat) | one (w : Fin 2) (b : Nat) | jump (g : Nat) | zero (b g : Nat) | halt
 deriving DecidableEq
noncomputable def boxS (i : Nat) : Str := ⟨#[97 + i]⟩
noncomputable def w2 : Fin 3 → Str
 | 0 => "add"
 | 1 => "sub"
 | 2 => "copy"
noncomputable def w1 : Fin 2 → Str
 | 0 => "tell"
 | 1 => "hear"
inductive Prt where
 | s (z : Str) | n (k : Nat)
noncomputable def Prt.t : Prt → L2.T
 | .s z => .str z
 | .n k => .int (k : Nat)
noncomputable def Row.ps : Row → List Prt
 | .put b n => [.s "put", .s (boxS b), .n n]
 | .two w a b => [.s (w2 w), .s (boxS a), .s (boxS b)]
 | .one w b => [.s (w1 w), .s (boxS b)]
 | .jump g => [.s "jump", .n g]
 | .zero b g => [.s "zero", .s (boxS b), .n g]
 | .halt => [.s "halt"]
noncomputable def Row.t (r : Row) : L2.T := .tup (r.ps.map Prt.t)
noncomputable def Row.Ok (size : Nat) : Row → Prop
 | .put b n => b < 8 ∧ n < 65536
 | .two _ a b => a < 8 ∧ b < 8
 | .one _ b => b < 8
 | .jump g => g ≤ size
 | .zero b g => b < 8 ∧ g ≤ size
 | .halt => True
theorem Row.Ok.mono {a b : Nat} {r : Row} (h : r.Ok a) (hm : a ≤ b) : r.Ok b := by
 cases r <;> simp only [Row.Ok] at h ⊢ <;> omega
theorem box_at {k : Int} (h0 : 0 ≤ k) (h1 : k < 8) : atI (Str.ofString "abcdefgh").cps.toList k = some (97 + k.toNat) := by
 have e : (Str.ofString "abcdefgh").cps.toList = [97, 98, 99, 100, 101, 102, 103, 104] := by decide +kernel
 rw [e]
 obtain ⟨n, rfl⟩ : ∃ n : Nat, k = n := ⟨k.toNat, by omega⟩
 unfold atI ixN
 have hn : n < 8 := by omega
 rw [if_pos (by omega), if_pos (by simp; omega)]
 show [97, 98, 99, 100, 101, 102, 103, 104][((n : Nat) : Int).toNat]? = some (97 + ((n : Nat) : Int).toNat)
 rw [Int.toNat_natCast]
 rcases lt8 hn with rfl | rfl | rfl | rfl | rfl | rfl | rfl | rfl <;> rfl
noncomputable def tRow : TSp := fun args Q => ∃ (d : L2.T) (size n : Nat), args = [d, .int (size : Nat)] ∧ Deck n d ∧ n < 2 ^ 48 ∧ size < 2 ^ 28 ∧ ∀ (r : Row) (d' : L2.T), r.Ok size → Deck (n + 10) d' → Q (.tr r.t) [d']
theorem ok_row (T : Txt K mg) (F : HasFn K mg "_law_row" s__law_row ["deck", "size"]) (h_law_next : CallOk P w K mg base CX0 2 "_law_next" ["deck", "many"] (spT K [true, false] tNext)) (h_law_number : CallOk P w K mg base CX0 3 "_law_number" ["deck"] (spT K [true] tNumber)) : CallOk P w K mg base CX0 4 "_law_row" ["deck", "size"] (spT K [true, false] tRow) := by
 refine F.okT sc__law_row [true, false] rfl (by decide) (fun args Qt hl h f cdv A outer s H E hr => ?_)
 have hu := hu_of hr
 obtain ⟨d, size, n, rfl, D, hn, hs, q⟩ := h
 refine ⟨_, (Y.bcons (Y.set (i := 2) sc__law_row.nd rfl (by walk_at "lc") (Y.ix (Y.ix_G K rfl) Y.ro_ixS (Y.lst (Y.consts2 rfl rfl)) (Y.fn K rfl h_law_next (hr.mono (by decide)) rfl pass0 (Y.cons (Y.vS 0) (Y.cons Y.int Y.nil)))))
   (Y.bcons (Y.set (i := 3) sc__law_row.nd rfl (by walk_at "lc") (Y.ix (Y.ix_G K rfl) Y.ro_ixS Y.str (Y.fn K rfl h_law_next (hr.mono (by decide)) rfl pass0 (Y.cons (Y.vS 0) (Y.cons (Y.ix (Y.ix_G K rfl) Y.ro_ixS (Y.lst (Y.consts2 rfl rfl)) (Y.fn K rfl h_law_next (hr.mono (by decide)) rfl pass0 (Y.cons (Y.vS 0) (Y.cons Y.int Y.nil)))) Y.nil)))))
   (Y.bcons (Y.ifS (Y.tcmp (Y.op_eqG K rfl (Nat.lt_of_succ_lt hu)) Y.ro_eq (Y.vS 2) Y.str) (Y.bone (Y.ret (Y.tup (Y.cons (Y.vS 2) (Y.cons (Y.vS 3) (Y.cons (Y.fn K rfl h_law_number (hr.mono (by decide)) rfl pass0 (Y.cons (Y.vS 0) Y.nil)) Y.nil)))))) Y.bnil)
   (Y.bcons (Y.ifS (Y.tcmp (Y.op_inG K rfl) Y.ro_in (Y.vS 2) (Y.tup (Y.consts2 rfl rfl))) (Y.bone (Y.ret (Y.tup (Y.cons (Y.vS 2) (Y.cons (Y.vS 3) (Y.cons (Y.ix (Y.ix_G K rfl) Y.ro_ixS Y.str (Y.fn K rfl h_law_next (hr.mono (by decide)) rfl pass0 (Y.cons (Y.vS 0) (Y.cons (Y.ix (Y.ix_G K rfl) Y.ro_ixS (Y.lst (Y.consts2 rfl rfl)) (Y.fn K rfl h_law_next (hr.mono (by decide)) rfl pass0 (Y.cons (Y.vS 0) (Y.cons Y.int Y.nil)))) Y.nil)))) Y.nil)))))) Y.bnil)
   (Y.bcons (Y.ifS (Y.tcmp (Y.op_inG K rfl) Y.ro_in (Y.vS 2) (Y.tup (Y.consts2 rfl rfl))) (Y.bone (Y.ret (Y.tup (Y.cons (Y.vS 2) (Y.cons (Y.vS 3) Y.nil))))) Y.bnil)
   (Y.bcons (Y.ifS (Y.tcmp (Y.op_eqG K rfl (Nat.lt_of_succ_lt hu)) Y.ro_eq (Y.vS 2) Y.str) (Y.bone (Y.ret (Y.tup (Y.cons (Y.vS 2) Y.nil)))) Y.bnil)
   (Y.bcons (Y.set (i := 4) sc__law_row.nd rfl (by walk_at "lc") (Y.fn K rfl h_law_next (hr.mono (by decide)) rfl pass0 (Y.cons (Y.vS 0) (Y.cons (Y.op (Y.op_addG K rfl) Y.ro_addS (Y.vS 1) Y.int) Y.nil))))
   (Y.bone (Y.ret (Y.ix (Y.ix_G K rfl) Y.ro_ixS (Y.lst (Y.cons (Y.tup (Y.cons (Y.vS 2) (Y.cons (Y.vS 3) (Y.cons (Y.vS 4) Y.nil)))) (Y.cons (Y.tup (Y.cons (Y.vS 2) (Y.cons (Y.vS 4) Y.nil))) Y.nil))) (Y.ct ucall_int Y.rc_int rfl T.b_int (by decide +kernel) (Y.cons (Y.cmp (Y.op_eqG K rfl (Nat.lt_of_succ_lt hu)) Y.ro_eq (Y.vS 2) Y.str) Y.nil)))))))))))), ?_⟩
 refine seqT fun N hN => ?_
 walk_at "rt"
 refine ⟨by decide, d, 17, n, rfl, D, by omega, by decide, by decide, fun c d1 c0 c1 D1 => ?_⟩
 obtain ⟨v, hv, ha⟩ := at_any (xs := [.str "put", .str "put", .str "put", .str "add", .str "add", .str "sub", .str "sub", .str "copy", .str "tell", .str "tell", .str "tell", .str "hear", .str "hear", .str "jump", .str "zero", .str "zero", .str "halt"]) c0 c1
 wp_walk using ha
 clear ha c0 c1
 rw [hN]; clear hN N
 have a8 : ∀ y : Int, 0 ≤ y → y < 2 → ∃ x : Int, 0 < x ∧ x ≤ 8 ∧ atI [L2.T.int 8, .int 2] y = some (.int x) := fun y h0 h1 => by
  obtain ⟨z, hz, e⟩ := at_any (xs := [.int 8, .int 2]) h0 h1
  simp only [List.mem_cons, List.not_mem_nil, or_false] at hz
  rcases hz with rfl | rfl
  ·exact ⟨8, by decide, by decide, e⟩
  ·exact ⟨2, by decide, by decide, e⟩
 refine seqT fun N hN => ?_
 walk_at "rt"
 refine ⟨by decide, d1, 2, n + 1, rfl, D1, by omega, by decide, by decide, fun y d2 y0 y1 D2 => ?_⟩
 obtain ⟨x, x0, x1, hx⟩ := a8 y y0 y1
 wp_walk using hx
 refine ⟨d2, x, n + 2, rfl, D2, by omega, x0, by omega, fun b d3 b0 b1 D3 => ?_⟩
 have hb := box_at b0 (show b < 8 by omega)
 wp_walk using hb
 refine ⟨by decide +kernel, ?_⟩
 rw [hN]; clear hN N
 obtain ⟨bn, rfl⟩ : ∃ bn : Nat, b = bn := ⟨b.toNat, by omega⟩
 have hb8 : bn < 8 := by omega
 rw [Int.toNat_natCast]
 show Y.uSeq _ _ _ [.pb d3, .tr (.int (size : Nat)), .tr v, .tr (.str (boxS bn)), .un]
 have hv6 : v = .str "put" ∨ (∃ w, v = .str (w2 w)) ∨ (∃ w, v = .str (w1 w)) ∨ v = .str "halt" ∨ v = .str "jump" ∨ v = .str "zero" := by
  simp only [List.mem_cons, List.not_mem_nil, or_false] at hv
  rcases hv with h | h | h | h | h | h | h | h | h | h | h | h | h | h | h | h | h <;> subst h <;> first | exact .inl rfl | exact .inr (.inl ⟨0, rfl⟩) | exact .inr (.inl ⟨1, rfl⟩) | exact .inr (.inl ⟨2, rfl⟩) | exact .inr (.inr (.inl ⟨0, rfl⟩)) | exact .inr (.inr (.inl ⟨1, rfl⟩)) | simp
 clear hv
 refine seqT fun N hN => ?_
 rcases hv6 with rfl | ⟨u, rfl⟩ | ⟨u, rfl⟩ | hv
 ·wp_walk using (show (Str.ofString "put" = Str.ofString "put") = True from eq_true rfl), if_true
  refine ⟨d3, n + 3, rfl, D3, by omega, fun k d4 k0 k1 D4 => ?_⟩
  obtain ⟨kn, rfl⟩ : ∃ kn : Nat, k = kn := ⟨k.toNat, by omega⟩
  walk_at "rt"
  exact ⟨by decide, q (.put bn kn) d4 ⟨hb8, by omega⟩ (D4.mono (by omega))⟩
 ·have n1 : ∀ u, w2 u ≠ "put" := by decide +kernel
  have i1 : ∀ u, Y.inF (.str (w2 u)) [.str "add", .str "sub", .str "copy"] = true := by decide +kernel
  wp_walk using if_neg (n1 u)
  rw [hN]; clear hN N
  refine seqT fun N hN => ?_
  wp_walk using i1 u
  refine ⟨by decide, rfl, rfl, by decide, d3, 2, n + 3, rfl, D3, by omega, by decide, by decide, fun y d4 y0 y1 D4 => ?_⟩
  obtain ⟨x, x0, x1, hx⟩ := a8 y y0 y1
  wp_walk using hx
  refine ⟨d4, x, n + 4, rfl, D4, by omega, x0, by omega, fun c d5 c0 c1 D5 => ?_⟩
  have hc := box_at c0 (show c < 8 by omega)
  wp_walk using hc
  exact ⟨by decide +kernel, by decide, q (.two u bn c.toNat) d5 ⟨hb8, by omega⟩ (D5.mono (by omega))⟩
 ·have n1 : ∀ u, w1 u ≠ "put" := by decide +kernel
  have i1 : ∀ u, Y.inF (.str (w1 u)) [.str "add", .str "sub", .str "copy"] = false := by decide +kernel
  have i2 : ∀ u, Y.inF (.str (w1 u)) [.str "tell", .str "hear"] = true := by decide +kernel
  wp_walk using if_neg (n1 u)
  rw [hN]; clear hN N
  refine seqT fun N hN => ?_
  wp_walk using i1 u
  refine ⟨by decide, rfl, rfl, ?_⟩
  rw [hN]; clear hN N
  refine seqT fun N hN => ?_
  wp_walk using i2 u
  exact ⟨by decide, rfl, rfl, by decide, q (.one u bn) d3 hb8 (D3.mono (by omega))⟩
 ·have n1 : ∀ z ∈ ([("halt"), ("jump"), ("zero")] : List Str), z ≠ "put" ∧ Y.inF (.str z) [.str "add", .str "sub", .str "copy"] = false ∧ Y.inF (.str z) [.str "tell", .str "hear"] = false := by decide +kernel
  obtain ⟨z, hz, rfl⟩ : ∃ z ∈ ([("halt"), ("jump"), ("zero")] : List Str), v = .str z := by rcases hv with rfl | rfl | rfl <;> exact ⟨_, by simp, rfl⟩
  obtain ⟨e1, e2, e3⟩ := n1 z hz
  wp_walk using if_neg e1
  rw [hN]; clear hN N
  refine seqT fun N hN => ?_
  wp_walk using e2
  refine ⟨by decide, rfl, rfl, ?_⟩
  rw [hN]; clear hN N
  refine seqT fun N hN => ?_
  wp_walk using e3
  refine ⟨by decide, rfl, rfl, ?_⟩
  rw [hN]; clear hN N
  refine seqT fun N hN => ?_
  rcases hv with hv | hv
  ·cases hv
   wp_walk using if_pos (rfl : Str.ofString "halt" = Str.ofString "halt")
   exact ⟨by decide, q .halt d3 trivial (D3.mono (by omega))⟩
  ·have nh : z ≠ "halt" := by rcases hv with hv | hv <;> cases hv <;> decide +kernel
   wp_walk using if_neg nh
   rw [hN]; clear hN N
   refine seqT fun N hN => ?_
   walk_at "rt"
   refine ⟨d3, (size : Int) + 1, n + 3, rfl, D3, by omega, by omega, by omega, fun g d4 g0 g1 D4 => ?_⟩
   obtain ⟨gn, rfl⟩ : ∃ gn : Nat, g = gn := ⟨g.toNat, by omega⟩
   walk_at "rt"
   rw [hN]; clear hN N
   rcases hv with hv | hv
   ·cases hv
    walk_at "rt"
    exact ⟨by decide, by decide, by decide, q (.jump gn) d4 (show gn ≤ size by omega) (D4.mono (by omega))⟩
   ·cases hv
    wp_walk using if_neg (show ¬ Str.ofString "zero" = Str.ofString "jump" by decide +kernel)
    exact ⟨by decide, by decide, by decide, q (.zero bn gn) d4 ⟨hb8, by omega⟩ (D4.mono (by omega))⟩
noncomputable def pT (rs : List Row) : List L2.T := rs.map Row.t
theorem pT_len (rs : List Row) : (pT rs).length = rs.length := List.length_map ..
local macro_rules | `(tactic| walk_at "rz") => do
  let ids := ("Nat.reduceAdd Nat.reduceSub Nat.reduceLeDiff L2.Ap.tVar L2.Ap.tC L2.Ap.tOp L2.Ap.tUn L2.Ap.tTest L2.Ap.tIf L2.Ap.tAnd L2.Ap.tOr L2.Ap.tNot L2.Ap.tAndV L2.Ap.tOrV L2.Ap.tChain L2.Ap.tNil L2.Ap.tK L2.Ap.tTru L2.Ap.tNotV L2.Ap.tCons L2.Ap.tTup L2.Ap.tLst L2.Ap.tCall L2.Ap.tCB L2.Ap.tBM L2.Ap.tBM0 L2.Ap.tSl L2.Ap.tNoPart L2.Ap.tPart L2.Ap.tSeq L2.Ap.tAsg L2.Ap.gName L2.Ap.gSub L2.Ap.gTup L2.Ap.gCons L2.Ap.gNil L2.Ap.tRet L2.Ap.tRetN L2.Ap.tDrop L2.Ap.tIfS L2.Ap.tNext L2.Ap.tBreak L2.Ap.tCont L2.Ap.tTrue L2.Ap.iRng1 L2.Ap.iRng2 L2.Ap.iAny L2.Ap.iEnum tFor_ap tComp_ap L2.Ap.rI L2.Ap.rI0 L2.Ap.rU L2.Ap.uAddI L2.Ap.uAddS L2.Ap.addRef L2.Ap.uMulI L2.Ap.rEqI L2.Ap.rEqS L2.Ap.rNeI L2.Ap.rNeS L2.Ap.truB L2.Ap.truI L2.Ap.ixRef L2.Ap.ixStr L2.Ap.setRef L2.Ap.lenRef L2.Ap.lenStr L2.Ap.minII L2.Ap.maxII L2.Ap.intI L2.Ap.intB L2.Ap.strI L2.Ap.strS L2.Ap.tupRef L2.Ap.slRef L2.Ap.inRef L2.Ap.isiT L2.Ap.tRev L2.Ap.sqSame L2.Ap.sqSameT L2.Ap.updSame L2.Ap.cxK L2.start at_0 at_1 at_2 at_3 at_4 tyU List.map_cons List.map_nil List.length_cons List.length_nil List.length_set List.replicate List.cons_append List.nil_append List.append_nil List.getElem?_cons_zero List.getElem?_cons_succ List.set_cons_zero List.set_cons_succ Option.some.injEq exists_eq_left exists_eq_left' V.int.injEq V.str.injEq V.bl.injEq V.ref.injEq List.cons.injEq and_true true_and decide_eq_true_eq Bool.not_eq_true' decide_eq_false_iff_not Bool.false_eq_true if_false if_true L2.Ap.iSeq L2.Ap.sFld L2.Ap.tMeth L2.Ap.tMake L2.Ap.tDGet L2.Ap.sDPut L2.Ap.tFld".splitOn " ").toArray.map fun n => Lean.mkIdent n.toName
  `(tactic| simp only [↓reduceIte, $[$ids:ident],*])
noncomputable def bxK : List Key := [.inr "a", .inr "b", .inr "c", .inr "d", .inr "e", .inr "f", .inr "g", .inr "h"]
structure MSt where
 given : List Int
 heard : Nat
 told : List Int
 bs : List Int
noncomputable def iV (xs : List Int) : List V := xs.map V.int
structure MA where
 m : Addr
 dx : Addr
 gv : Addr
 tl : Addr
 bx : Addr
noncomputable def mFs (a : MA) (h : Nat) : List (Str × V) := [("given", .ref a.gv), ("heard", .int (h : Nat)), ("told", .ref a.tl), ("boxes", .ref a.bx)]
structure MS (K : PySem.W.Frag) (C : Addr) (H : Hp) (a : MA) (st : MSt) : Prop where
 om : H a.m = some (.ins C a.dx (mFs a st.heard))
 od : H a.dx = some (.own a.m)
 og : H a.gv = some (.tup (iV st.given))
 ot : H a.tl = some (.lst (iV st.told))
 ob : H a.bx = some (.dK (bxK.zip (iV st.bs)))
 l8 : st.bs.length = 8
 hh : st.heard ≤ st.given.length
noncomputable def MF (a : MA) : List Addr := [a.m, a.tl, a.bx]
theorem lk_given (a : MA) (h : Nat) : (mFs a h).lookup ("given" : Str) = some (.ref a.gv) := rfl
theorem lk_heard (a : MA) (h : Nat) : (mFs a h).lookup ("heard" : Str) = some (.int (h : Nat)) := rfl
theorem lk_told (a : MA) (h : Nat) : (mFs a h).lookup ("told" : Str) = some (.ref a.tl) := rfl
theorem lk_boxes (a : MA) (h : Nat) : (mFs a h).lookup ("boxes" : Str) = some (.ref a.bx) := rfl
theorem put_heard (a : MA) (h k : Nat) : putF "heard" (.int (k : Nat)) (mFs a h) = mFs a k := rfl
theorem MS.ne1 {C : Addr} {H : Hp} {a : MA} {st : MSt} (M : MS K C H a st) : a.tl ≠ a.m ∧ a.bx ≠ a.m ∧ a.gv ≠ a.m ∧ a.dx ≠ a.m ∧ a.bx ≠ a.tl ∧ a.gv ≠ a.tl ∧ a.dx ≠ a.tl ∧ a.gv ≠ a.bx ∧ a.dx ≠ a.bx := by
 have h1 := M.om; have h2 := M.od; have h3 := M.og; have h4 := M.ot; have h5 := M.ob
 have ap : ∀ {x y : Addr} {o o' : HO}, H x = some o → H y = some o' → o ≠ o' → x ≠ y := fun h h' n e => n (by rw [e] at h; exact Option.some.inj (h.symm.trans h'))
 exact ⟨ap h4 h1 (by simp), ap h5 h1 (by simp), ap h3 h1 (by simp), ap h2 h1 (by simp), ap h5 h4 (by simp), ap h3 h4 (by simp), ap h2 h4 (by simp), ap h3 h5 (by simp), ap h2 h5 (by simp)⟩
noncomputable def spHeard (K : PySem.W.Frag) (C : Addr) : Sp := fun vs H Q _ => ∃ (a : MA) (st : MSt), vs = [.ref a.m] ∧ MS K C H a st ∧
 (st.given.length ≤ st.heard → Q (.int 0) H) ∧ ∀ x, st.given[st.heard]? = some x → ∀ H', MS K C H' a { st with heard := st.heard + 1 } → KB (MF a) H H' → Q (.int x) H'
theorem ok_heard {C f : Addr} {fd : FuncData} (T : Txt K mg) (cM : Cls K C) (na_given : NoAttr K C "given") (na_heard : NoAttr K C "heard") (F : Fun K "heard_number" "Machine.heard_number" s_Machine_heard_number f fd) : FnOk P w K mg base CX0 1 f fd ["self"] (spHeard K C) := by
 refine F.ok sc_Machine_heard_number (fun vs H Q E h => ?_) (fun cdv A outer s H vs Q E hr h => ?_)
 ·obtain ⟨a, st, rfl, _⟩ := h; rfl
 ·obtain ⟨a, st, rfl, M, q1, q2⟩ := h
  have hu := hu_of hr
  have key : ∃ t, QB (cxOf CX0 P w K mg base ["self"] "Machine.heard_number" (defScope s_Machine_heard_number) f cdv A outer s H E).nox (defBody s_Machine_heard_number) t ∧ t { nx := fun _ H' => Q .non H', rt := Q } (start ["self"] [.ref a.m]) H := by
   refine ⟨_, (Z.bcons (Z.ifS (Z.tcmp op_ge (Z.fld K rfl (Z.v 0)) (Z.cb (Z.k_len K rfl) rfl T.b_len (by decide +kernel) (Z.cons (Z.fld K rfl (Z.v 0)) Z.nil))) (Z.bone (Z.ret Z.int)) Z.bnil)
   (Z.bcons (Z.sfld K rfl (Z.v 0) (Z.op (Z.k_add K rfl) (Z.fld K rfl (Z.v 0)) Z.int))
   (Z.bone (Z.ret (Z.ix (Z.k_ix K rfl hu) (Z.fld K rfl (Z.v 0)) (Z.op op_sub (Z.fld K rfl (Z.v 0)) Z.int)))))), ?_⟩
   have e1 : sq H a.gv = some (false, iV st.given) := sq_tup M.og
   have hl : (iV st.given).length = st.given.length := List.length_map ..
   refine seqG fun N hN => ?_
   walk_at "rz"
   refine ⟨a.m, C, a.dx, _, _, rfl, M.om, cM, na_heard, lk_heard a _, a.m, C, a.dx, _, _, rfl, M.om, cM, na_given, lk_given a _, ?_⟩
   simp only [L2.Ap.lenRef, e1, hl]
   walk_at "rz"
   by_cases h1 : st.given.length ≤ st.heard
   ·rw [if_pos (by omega)]
    exact q1 h1
   ·rw [if_neg (by omega), hN]; clear hN N
    have h2 : st.heard < st.given.length := by omega
    obtain ⟨n1, n2, n3, n4, n5, n6, n7, n8, n9⟩ := M.ne1
    have M' : MS K C (upd H a.m (.ins C a.dx (mFs a (st.heard + 1)))) a { st with heard := st.heard + 1 } := ⟨upd_same, by rw [upd_ne n4]; exact M.od, by rw [upd_ne n3]; exact M.og, by rw [upd_ne n1]; exact M.ot, by rw [upd_ne n2]; exact M.ob, M.l8, h2⟩
    refine seqG fun N hN => ?_
    walk_at "rz"
    refine ⟨a.m, C, a.dx, _, _, rfl, M.om, cM, na_heard, lk_heard a _, ?_⟩
    walk_at "rz"
    refine ⟨a.m, C, a.dx, _, rfl, M.om, cM, na_heard, (show 4 < 1000 by decide), ?_⟩
    rw [show ((st.heard : Nat) : Int) + 1 = ((st.heard + 1 : Nat) : Int) from rfl, put_heard, hN]; clear hN N
    walk_at "rz"
    refine ⟨a.m, C, a.dx, _, _, rfl, M'.om, cM, na_given, lk_given a _, a.m, C, a.dx, _, _, rfl, M'.om, cM, na_heard, lk_heard a _, ?_⟩
    have e2 : sq (upd H a.m (.ins C a.dx (mFs a (st.heard + 1)))) a.gv = some (false, iV st.given) := sq_tup M'.og
    have e3 : atI (iV st.given) (((st.heard + 1 : Nat) : Int) - 1) = some (V.int st.given[st.heard]) := by
     rw [show ((st.heard + 1 : Nat) : Int) - 1 = ((st.heard : Nat) : Int) by omega]
     exact atI_nat (by unfold iV; rw [List.getElem?_map, List.getElem?_eq_getElem h2]; rfl)
    simp only [L2.Ap.rI0, L2.Ap.ixRef, e2, e3]
    exact q2 _ (List.getElem?_eq_getElem h2) _ M' (KB.set (by unfold MF; simp))
  obtain ⟨t, hb, ht⟩ := key
  exact ⟨t, hb.h, ht⟩
noncomputable def Prt.v : Prt → V
 | .s z => .str z
 | .n k => .int (k : Nat)
noncomputable def Row.vs (r : Row) : List V := r.ps.map Prt.v
noncomputable def bAt (bs : List Int) (b : Nat) : Int := bs[b]?.getD 0
theorem bx_val : ∀ (b : Nat), b < 8 → ∀ bs : List Int, bs.length = 8 → valV (bxK.zip (iV bs)) (.inr (boxS b)) = some (.int (bAt bs b)) := by
 intro b hb bs hl
 obtain ⟨x0, x1, x2, x3, x4, x5, x6, x7, rfl⟩ := len8 hl
 rcases lt8 hb with rfl | rfl | rfl | rfl | rfl | rfl | rfl | rfl <;> rfl
theorem bx_put : ∀ (b : Nat), b < 8 → ∀ (bs : List Int) (x : Int), bs.length = 8 → putK (bxK.zip (iV bs)) (.inr (boxS b)) (.int x) = bxK.zip (iV (bs.set b x)) := by
 intro b hb bs x hl
 obtain ⟨x0, x1, x2, x3, x4, x5, x6, x7, rfl⟩ := len8 hl
 rcases lt8 hb with rfl | rfl | rfl | rfl | rfl | rfl | rfl | rfl <;> rfl
noncomputable def hearS (st : MSt) : Int × MSt := match st.given[st.heard]? with
 | some x => (x, { st with heard := st.heard + 1 })
 | none => (0, st)
noncomputable def numFor (st : MSt) : Row → Int × MSt
 | .put _ n => ((n : Nat), st)
 | .two w a b => ((match w with
  | 0 => (bAt st.bs a + bAt st.bs b) % 65536
  | 1 => (bAt st.bs a - bAt st.bs b) % 65536
  | 2 => bAt st.bs b % 65536), st)
 | .one _ _ => ((hearS st).1 % 65536, (hearS st).2)
 | _ => (0, st)
noncomputable def isNum : Row → Bool
 | .put _ _ => true
 | .two _ _ _ => true
 | .one 1 _ => true
 | _ => false
noncomputable def spNum (K : PySem.W.Frag) (C : Addr) : Sp := fun vs H Q _ => ∃ (a : MA) (st : MSt) (p : Addr) (r : Row), vs = [.ref a.m, .ref p] ∧ MS K C H a st ∧ H p = some (.tup r.vs) ∧ r.Ok 100000 ∧ isNum r = true ∧
 ∀ H', MS K C H' a (numFor st r).2 → KB (MF a) H H' → Q (.int (numFor st r).1) H'
theorem ok_num {C f fh : Addr} {fd d_heard_number : FuncData} (T : Txt K mg) (cM : Cls K C) (na_boxes : NoAttr K C "boxes") (mm_heard_number : Meth K C "heard_number" fh) (bm_heard_number : Binds K d_heard_number ["self"] []) (FO_heard_number : FnOk P w K mg base CX0 1 fh d_heard_number ["self"] (spHeard K C)) (F : Fun K "number_for" "Machine.number_for" s_Machine_number_for f fd) : FnOk P w K mg base CX0 2 f fd ["self", "row"] (spNum K C) := by
 obtain ⟨w_WHOLE, u_WHOLE, hg_WHOLE, hr_WHOLE, rp_WHOLE⟩ := T.c_WHOLE
 have ew : w_WHOLE = .int 65536 := by
  have := rp_WHOLE (fun _ => none) (fun _ => False)
  cases this; rfl
 subst ew
 refine F.ok sc_Machine_number_for (fun vs H Q E h => ?_) (fun cdv A outer s H vs Q E hr h => ?_)
 ·obtain ⟨a, st, p, r, rfl, _⟩ := h; rfl
 ·obtain ⟨a, st, p, r, rfl, M, hp, hok, hi, q⟩ := h
  have hu := hu_of hr
  have key : ∃ t, QB (cxOf CX0 P w K mg base ["self", "row", "word", "old", "other"] "Machine.number_for" (defScope s_Machine_number_for) f cdv A outer s H E).nox (defBody s_Machine_number_for) t ∧ t { nx := fun _ H' => Q .non H', rt := Q } (start ["self", "row", "word", "old", "other"] [.ref a.m, .ref p]) H := by
   refine ⟨_, (Z.bcons (Z.set (i := 2) sc_Machine_number_for.nd rfl (by walk_at "lc") (Z.ix (Z.k_ix K rfl hu) (Z.v 1) Z.int))
   (Z.bcons (Z.ifS (Z.tcmp uop_eq (Z.v 2) Z.str) (Z.bone (Z.ret (Z.ix (Z.k_ix K rfl hu) (Z.v 1) Z.int))) Z.bnil)
   (Z.bcons (Z.ifS (Z.tcmp uop_eq (Z.v 2) Z.str) (Z.bone (Z.ret (Z.op op_mod (Z.meth0 K rfl (Z.v 0) cM mm_heard_number FO_heard_number (hr.mono (by decide)) bm_heard_number pass0) (Z.glob rfl hg_WHOLE hr_WHOLE)))) Z.bnil)
   (Z.bcons (Z.set (i := 3) sc_Machine_number_for.nd rfl (by walk_at "lc") (Z.dget hu (Z.fld K rfl (Z.v 0)) (Z.ix (Z.k_ix K rfl hu) (Z.v 1) Z.int)))
   (Z.bcons (Z.set (i := 4) sc_Machine_number_for.nd rfl (by walk_at "lc") (Z.dget hu (Z.fld K rfl (Z.v 0)) (Z.ix (Z.k_ix K rfl hu) (Z.v 1) Z.int)))
   (Z.bcons (Z.ifS (Z.tcmp uop_eq (Z.v 2) Z.str) (Z.bone (Z.ret (Z.op op_mod (Z.op (Z.k_add K rfl) (Z.v 3) (Z.v 4)) (Z.glob rfl hg_WHOLE hr_WHOLE)))) Z.bnil)
   (Z.bcons (Z.ifS (Z.tcmp uop_eq (Z.v 2) Z.str) (Z.bone (Z.ret (Z.op op_mod (Z.op op_sub (Z.v 3) (Z.v 4)) (Z.glob rfl hg_WHOLE hr_WHOLE)))) Z.bnil)
   (Z.bone (Z.ret (Z.op op_mod (Z.v 4) (Z.glob rfl hg_WHOLE hr_WHOLE))))))))))), ?_⟩
   have e1 : sq H p = some (false, r.vs) := sq_tup hp
   refine seqG fun N hN => ?_
   walk_at "rz"
   simp only [L2.Ap.ixRef, e1]
   have dg : ∀ b, b < 8 → DGet H a.bx (.str (boxS b)) (some (.int (bAt st.bs b))) := fun b hb => .inl ⟨_, .inr (boxS b), .inl M.ob, rfl, (bx_val b hb st.bs M.l8).symm⟩
   have sD : ∀ {x y : Str} {P1 P2 : Prop}, x ≠ y → P2 → (if x = y then P1 else P2) := fun h h2 => by rw [if_neg h]; exact h2
   cases r with
   | put b n =>
    show N [some (.ref a.m), some (.ref p), some (.str "put"), none, none] H
    rw [hN]; clear hN N
    refine seqG fun N hN => ?_
    walk_at "rz"
    simp only [L2.Ap.ixRef, e1]
    exact q H M (KB.refl _ _)
   | two u b c =>
    show N [some (.ref a.m), some (.ref p), some (.str (w2 u)), none, none] H
    have hput : w2 u ≠ "put" := (show ∀ u, w2 u ≠ "put" by decide +kernel) u
    have hhear : w2 u ≠ "hear" := (show ∀ u, w2 u ≠ "hear" by decide +kernel) u
    rw [hN]; clear hN N
    refine seqG fun N hN => ?_
    walk_at "rz"
    refine sD hput ?_
    rw [hN]; clear hN N
    refine seqG fun N hN => ?_
    walk_at "rz"
    refine sD hhear ?_
    rw [hN]; clear hN N
    refine seqG fun N hN => ?_
    walk_at "rz"
    refine ⟨a.m, C, a.dx, _, _, rfl, M.om, cM, na_boxes, lk_boxes a _, ?_⟩
    simp only [L2.Ap.ixRef, e1]
    refine ⟨a.bx, _, rfl, dg b hok.1, ?_⟩
    rw [hN]; clear hN N
    refine seqG fun N hN => ?_
    walk_at "rz"
    refine ⟨a.m, C, a.dx, _, _, rfl, M.om, cM, na_boxes, lk_boxes a _, ?_⟩
    simp only [L2.Ap.ixRef, e1]
    refine ⟨a.bx, _, rfl, dg c hok.2, ?_⟩
    rw [hN]; clear hN N
    have fin := q H M (KB.refl _ _)
    have hs : w2 1 = "sub" := rfl
    refine seqG fun N hN => ?_
    walk_at "rz"
    rcases fin3 u with rfl | rfl | rfl
    ·rw [if_pos (show w2 0 = "add" from rfl)]
     exact ⟨by decide, fin⟩
    ·refine sD (by decide +kernel) ?_
     rw [hN]; clear hN N
     refine seqG fun N hN => ?_
     walk_at "rz"
     rw [if_pos (show w2 1 = "sub" from rfl)]
     exact ⟨by decide, fin⟩
    ·refine sD (by decide +kernel) ?_
     rw [hN]; clear hN N
     refine seqG fun N hN => ?_
     walk_at "rz"
     refine sD (by decide +kernel) ?_
     rw [hN]; clear hN N
     walk_at "rz"
     exact ⟨by decide, fin⟩
   | one u b =>
    have hu1 : u = 1 := by
     rcases fin2 u with h | h
     ·rw [h] at hi; cases hi
     ·exact h
    subst hu1
    show N [some (.ref a.m), some (.ref p), some (.str "hear"), none, none] H
    rw [hN]; clear hN N
    refine seqG fun N hN => ?_
    walk_at "rz"
    refine sD (by decide +kernel) ?_
    rw [hN]; clear hN N
    refine seqG fun N hN => ?_
    walk_at "rz"
    refine ⟨a.m, a.dx, _, rfl, M.om, rfl, a, st, rfl, M, fun h => ?_, fun x hx H' M' kb => ?_⟩
    ·have e0 : hearS st = (0, st) := by unfold hearS; rw [List.getElem?_eq_none_iff.mpr h]
     have e2 : numFor st (.one 1 b) = (0 % 65536, st) := by unfold numFor; rw [e0]
     rw [e2] at q
     walk_at "rz"
     exact ⟨by decide, q H M (KB.refl _ _)⟩
    ·have e0 : hearS st = (x, { st with heard := st.heard + 1 }) := by unfold hearS; rw [hx]
     have e2 : numFor st (.one 1 b) = (x % 65536, { st with heard := st.heard + 1 }) := by unfold numFor; rw [e0]
     rw [e2] at q
     walk_at "rz"
     exact ⟨by decide, q H' M' kb⟩
   | jump g => cases hi
   | zero b g => cases hi
   | halt => cases hi
  obtain ⟨t, hb, ht⟩ := key
  exact ⟨t, hb.h, ht⟩
noncomputable def carry (st : MSt) : Row → Bool × MSt
 | .jump _ => (true, st)
 | .zero b _ => (decide (bAt st.bs b = 0), st)
 | .one 0 b => (false, { st with told := st.told ++ [bAt st.bs b] })
 | .halt => (false, st)
 | .put b n => (false, { (numFor st (.put b n)).2 with bs := (numFor st (.put b n)).2.bs.set b (numFor st (.put b n)).1 })
 | .two w a b => (false, { (numFor st (.two w a b)).2 with bs := (numFor st (.two w a b)).2.bs.set a (numFor st (.two w a b)).1 })
 | .one 1 b => (false, { (numFor st (.one 1 b)).2 with bs := (numFor st (.one 1 b)).2.bs.set b (numFor st (.one 1 b)).1 })
noncomputable def spCarry (K : PySem.W.Frag) (C : Addr) : Sp := fun vs H Q _ => ∃ (a : MA) (st : MSt) (p : Addr) (r : Row), vs = [.ref a.m, .ref p] ∧ MS K C H a st ∧ H p = some (.tup r.vs) ∧ r.Ok 100000 ∧ st.told.length < 100000 ∧
 ∀ H', MS K C H' a (carry st r).2 → KB (MF a) H H' → Q (.bl (carry st r).1) H'
theorem ok_carry {C f fn : Addr} {fd d_number_for : FuncData} (T : Txt K mg) (cM : Cls K C) (na_boxes : NoAttr K C "boxes") (na_told : NoAttr K C "told") (mm_number_for : Meth K C "number_for" fn) (bm_number_for : Binds K d_number_for ["self", "row"] []) (FO_number_for : FnOk P w K mg base CX0 2 fn d_number_for ["self", "row"] (spNum K C)) (F : Fun K "carry_out" "Machine.carry_out" s_Machine_carry_out f fd) : FnOk P w K mg base CX0 3 f fd ["self", "row"] (spCarry K C) := by
 refine F.ok sc_Machine_carry_out (fun vs H Q E h => ?_) (fun cdv A outer s H vs Q E hr h => ?_)
 ·obtain ⟨a, st, p, r, rfl, _⟩ := h; rfl
 ·obtain ⟨a, st, p, r, rfl, M, hp, hok, htl, q⟩ := h
  have hu := hu_of hr
  have key : ∃ t, QB (cxOf CX0 P w K mg base ["self", "row", "word"] "Machine.carry_out" (defScope s_Machine_carry_out) f cdv A outer s H E).nox (defBody s_Machine_carry_out) t ∧ t { nx := fun _ H' => Q .non H', rt := Q } (start ["self", "row", "word"] [.ref a.m, .ref p]) H := by
   refine ⟨_, (Z.bcons (Z.set (i := 2) sc_Machine_carry_out.nd rfl (by walk_at "lc") (Z.ix (Z.k_ix K rfl hu) (Z.v 1) Z.int))
   (Z.bcons (Z.ifS (Z.tcmp uop_eq (Z.v 2) Z.str) (Z.bone (Z.ret Z.bl)) Z.bnil)
   (Z.bcons (Z.ifS (Z.tcmp uop_eq (Z.v 2) Z.str) (Z.bone (Z.ret (Z.cmp uop_eq (Z.dget hu (Z.fld K rfl (Z.v 0)) (Z.ix (Z.k_ix K rfl hu) (Z.v 1) Z.int)) Z.int))) Z.bnil)
   (Z.bcons (Z.ifS (Z.tcmp uop_eq (Z.v 2) Z.str) (Z.bone (Z.expr (Z.bm K rfl PySem.F.plainAttrs_list PySem.F.slot_list_append PySem.F.type_list_append mt_append (Z.fld K rfl (Z.v 0)) (Z.cons (Z.dget hu (Z.fld K rfl (Z.v 0)) (Z.ix (Z.k_ix K rfl hu) (Z.v 1) Z.int)) Z.nil)))) (Z.bone (Z.ifS (Z.tcmp uop_ne (Z.v 2) Z.str) (Z.bone (Z.dput hu (Z.fld K rfl (Z.v 0)) (Z.ix (Z.k_ix K rfl hu) (Z.v 1) Z.int) (Z.meth K rfl (Z.v 0) cM mm_number_for FO_number_for (hr.mono (by decide)) bm_number_for pass0 (Z.cons (Z.v 1) Z.nil)))) Z.bnil)))
   (Z.bone (Z.ret Z.bl)))))), ?_⟩
   have e1 : sq H p = some (false, r.vs) := sq_tup hp
   obtain ⟨n1, n2, n3, n4, n5, n6, n7, n8, n9⟩ := M.ne1
   refine seqG fun N hN => ?_
   walk_at "rz"
   simp only [L2.Ap.ixRef, e1]
   have dg : ∀ b, b < 8 → DGet H a.bx (.str (boxS b)) (some (.int (bAt st.bs b))) := fun b hb => .inl ⟨_, .inr (boxS b), .inl M.ob, rfl, (bx_val b hb st.bs M.l8).symm⟩
   have sD : ∀ {x y : Str} {P1 P2 : Prop}, x ≠ y → P2 → (if x = y then P1 else P2) := fun h h2 => by rw [if_neg h]; exact h2
   have go : ∀ (r' : Row) (wd : Str) (b : Nat), r.vs = .str wd :: .str (boxS b) :: (r.vs.drop 2) → b < 8 → isNum r = true → wd ≠ "jump" → wd ≠ "zero" → wd ≠ "tell" → wd ≠ "halt" → carry st r = (false, { (numFor st r).2 with bs := (numFor st r).2.bs.set b (numFor st r).1 }) → N [some (.ref a.m), some (.ref p), some (.str wd)] H := by
    intro r' wd b ev hb hi w1 w2 w3 w4 ec
    rw [hN]; clear hN N
    refine seqG fun N hN => ?_
    walk_at "rz"
    refine sD w1 ?_
    rw [hN]; clear hN N
    refine seqG fun N hN => ?_
    walk_at "rz"
    refine sD w2 ?_
    rw [hN]; clear hN N
    refine seqG fun N hN => ?_
    walk_at "rz"
    refine sD w3 ?_
    rw [if_pos (show ¬ wd = "halt" from w4)]
    refine ⟨a.m, a.dx, _, rfl, M.om, rfl, a, st, p, r, rfl, M, hp, hok, hi, fun H1 M1 kb => ?_⟩
    have hp1 : H1 p = some (.tup r.vs) := kb _ _ hp (by
     unfold MF
     simp only [List.mem_cons, List.not_mem_nil, or_false, not_or]
     exact ⟨fun e => (by rw [e, M.om] at hp; cases hp), fun e => (by rw [e, M.ot] at hp; cases hp), fun e => (by rw [e, M.ob] at hp; cases hp)⟩)
    have e2 : sq H1 p = some (false, r.vs) := sq_tup hp1
    refine ⟨a.m, C, a.dx, _, _, rfl, M1.om, cM, na_boxes, lk_boxes a _, ?_⟩
    rw [e2, ev]
    simp only [at_1]
    obtain ⟨k1, k2, k3, k4, k5, k6, k7, k8, k9⟩ := M1.ne1
    refine ⟨a.bx, _, rfl, .inl ⟨_, .inr (boxS b), M1.ob, rfl, ?_, rfl⟩, ?_⟩
    ·have l8 := M1.l8
     rw [List.length_zip]
     exact Nat.lt_of_le_of_lt (Nat.min_le_left _ _) (by decide)
    rw [bx_put b hb _ _ M1.l8, hN]; clear hN N
    walk_at "rz"
    rw [ec] at q
    refine q _ ⟨by rw [upd_ne k2.symm]; exact M1.om, by rw [upd_ne k9]; exact M1.od, by rw [upd_ne k8]; exact M1.og, by rw [upd_ne k5.symm]; exact M1.ot, upd_same, by rw [List.length_set]; exact M1.l8, M1.hh⟩ (kb.trans (KB.set (by unfold MF; simp)))
   cases r with
   | put b n => exact go (.put b n) "put" b rfl hok.1 rfl (by decide +kernel) (by decide +kernel) (by decide +kernel) (by decide +kernel) rfl
   | two u b c => exact go (.two u b c) (w2 u) b rfl hok.1 rfl ((show ∀ u, w2 u ≠ "jump" by decide +kernel) u) ((show ∀ u, w2 u ≠ "zero" by decide +kernel) u) ((show ∀ u, w2 u ≠ "tell" by decide +kernel) u) ((show ∀ u, w2 u ≠ "halt" by decide +kernel) u) rfl
   | one u b =>
    rcases fin2 u with rfl | rfl
    rotate_left
    ·exact go (.one 1 b) "hear" b rfl hok rfl (by decide +kernel) (by decide +kernel) (by decide +kernel) (by decide +kernel) rfl
    ·show N [some (.ref a.m), some (.ref p), some (.str "tell")] H
     rw [hN]; clear go hN N
     refine seqG fun N hN => ?_
     walk_at "rz"
     refine sD (by decide +kernel) ?_
     rw [hN]; clear hN N
     refine seqG fun N hN => ?_
     walk_at "rz"
     refine sD (by decide +kernel) ?_
     rw [hN]; clear hN N
     refine seqG fun N hN => ?_
     walk_at "rz"
     refine ⟨a.m, C, a.dx, _, _, rfl, M.om, cM, na_told, lk_told a _, Or.inl ⟨rfl, _, SqL.of M.ot⟩, a.m, C, a.dx, _, _, rfl, M.om, cM, na_boxes, lk_boxes a _, ?_⟩
     simp only [L2.Ap.ixRef, e1]
     refine ⟨a.bx, _, rfl, dg b hok, ?_⟩
     refine ⟨a.tl, _, _, rfl, rfl, M.ot, ?_, ?_⟩
     ·unfold iV; rw [List.length_map]; exact Nat.lt_trans htl (Nat.lt_of_lt_of_le (by decide) szLine)
     rw [hN]; clear hN N
     walk_at "rz"
     refine q _ ⟨by rw [upd_ne n1.symm]; exact M.om, by rw [upd_ne n7]; exact M.od, by rw [upd_ne n6]; exact M.og, ?_, by rw [upd_ne n5]; exact M.ob, M.l8, M.hh⟩ (KB.set (by unfold MF; simp))
     rw [upd_same]
     show some (HO.lst (iV st.told ++ [V.int (bAt st.bs b)])) = some (.lst (iV (st.told ++ [bAt st.bs b])))
     unfold iV
     rw [List.map_append]; rfl
   | jump g =>
    show N [some (.ref a.m), some (.ref p), some (.str "jump")] H
    rw [hN]; clear go hN N
    refine seqG fun N hN => ?_
    walk_at "rz"
    exact q H M (KB.refl _ _)
   | zero b g =>
    show N [some (.ref a.m), some (.ref p), some (.str "zero")] H
    rw [hN]; clear go hN N
    refine seqG fun N hN => ?_
    walk_at "rz"
    refine sD (by decide +kernel) ?_
    rw [hN]; clear hN N
    refine seqG fun N hN => ?_
    walk_at "rz"
    refine ⟨a.m, C, a.dx, _, _, rfl, M.om, cM, na_boxes, lk_boxes a _, ?_⟩
    simp only [L2.Ap.ixRef, e1]
    refine ⟨a.bx, _, rfl, dg b hok.1, ?_⟩
    walk_at "rz"
    exact q H M (KB.refl _ _)
   | halt =>
    show N [some (.ref a.m), some (.ref p), some (.str "halt")] H
    rw [hN]; clear go hN N
    refine seqG fun N hN => ?_
    walk_at "rz"
    refine sD (by decide +kernel) ?_
    rw [hN]; clear hN N
    refine seqG fun N hN => ?_
    walk_at "rz"
    refine sD (by decide +kernel) ?_
    rw [hN]; clear hN N
    refine seqG fun N hN => ?_
    walk_at "rz"
    refine sD (by decide +kernel) ?_
    rw [if_neg (by simp), hN]; clear hN N
    walk_at "rz"
    exact q H M (KB.refl _ _)
  obtain ⟨t, hb, ht⟩ := key
  exact ⟨t, hb.h, ht⟩
noncomputable def goalR : Row → Option Nat
 | .jump g => some g
 | .zero _ g => some g
 | _ => none
noncomputable def goalT (r : Row) : L2.T := match goalR r with
 | some g => .int (g : Nat)
 | none => .non
noncomputable def tGoal : TSp := fun args Q => ∃ r : Row, args = [r.t] ∧ Q (.tr (goalT r)) []
theorem ok_goal (T : Txt K mg) (F : HasFn K mg "goal_of" s_goal_of ["row"]) : CallOk P w K mg base CX0 1 "goal_of" ["row"] (spT K [false] tGoal) := by
 refine F.okT sc_goal_of [false] rfl (by decide) (fun args Qt hl h f cdv A outer s H E hr => ?_)
 have hu := hu_of hr
 obtain ⟨r, rfl, q⟩ := h
 refine ⟨_, (Y.bone (Y.ret (Y.ifE (Y.tcmp (Y.op_inG K rfl) Y.ro_in Y.str (Y.kix K rfl rfl T.d_SHAPES (Y.ix (Y.ix_G K rfl) Y.ro_ixS (Y.vS 0) Y.int))) (Y.ix (Y.ix_G K rfl) Y.ro_ixS (Y.vS 0) (Y.neg Y.int)) Y.non))), ?_⟩
 unfold Row.t
 have yes : ∀ {ws : List L2.T} {P1 P2 : Prop}, ws.all flatT = true → Y.inF (.str "goal") ws = true → P1 → flatT (.str "goal") = true ∧ ws.all flatT = true ∧ (if Y.inF (.str "goal") ws = true then P1 else P2) := fun h1 h2 p => ⟨rfl, h1, by rw [if_pos h2]; exact p⟩
 have no : ∀ {ws : List L2.T} {P1 P2 : Prop}, ws.all flatT = true → Y.inF (.str "goal") ws = false → P2 → flatT (.str "goal") = true ∧ ws.all flatT = true ∧ (if Y.inF (.str "goal") ws = true then P1 else P2) := fun h1 h2 p => ⟨rfl, h1, by rw [if_neg (by rw [h2]; decide)]; exact p⟩
 cases r with
 | jump g => walk_at "rt"; exact yes rfl (by decide +kernel) q
 | zero b g => walk_at "rt"; exact yes rfl (by decide +kernel) q
 | put b n => walk_at "rt"; exact no rfl (by decide +kernel) q
 | two u b c =>
  walk_at "rt"
  rcases fin3 u with rfl | rfl | rfl <;> exact no rfl (by decide +kernel) q
 | one u b =>
  walk_at "rt"
  rcases fin2 u with rfl | rfl <;> exact no rfl (by decide +kernel) q
 | halt => walk_at "rt"; exact no rfl (by decide +kernel) q
theorem rep_row {H : Hp} {p : Addr} {r : Row} (h : H p = some (.tup r.vs)) : Rep K H (fun _ => False) (.ref p) r.t := by
 refine .tup (fun z => z) h ?_
 unfold Row.vs
 generalize r.ps = ps
 induction ps with
 | nil => exact .nil
 | cons x ps ih =>
  refine .cons ?_ ih
  cases x with
  | s z => exact .str z
  | n k => exact .int _
noncomputable def place (st : MSt) (r : Row) (bh en : Int) : Int := match r with
 | .halt => en
 | r => if (carry st r).1 = true then ((goalR r).getD 0 : Nat) else bh
noncomputable def spPlace (K : PySem.W.Frag) (C : Addr) : Sp := fun vs H Q _ => ∃ (a : MA) (st : MSt) (p : Addr) (r : Row) (bh en : Int), vs = [.ref a.m, .ref p, .int bh, .int en] ∧ MS K C H a st ∧ H p = some (.tup r.vs) ∧ r.Ok 100000 ∧ st.told.length < 100000 ∧
 ∀ H', MS K C H' a (carry st r).2 → KB (MF a) H H' → Q (.int (place st r bh en)) H'
theorem ok_place {C f fc : Addr} {fd d_carry_out : FuncData} (T : Txt K mg) (hgoal_of : CallOk P w K mg base CX0 1 "goal_of" ["row"] (spT K [false] tGoal)) (cM : Cls K C) (mm_carry_out : Meth K C "carry_out" fc) (bm_carry_out : Binds K d_carry_out ["self", "row"] []) (FO_carry_out : FnOk P w K mg base CX0 3 fc d_carry_out ["self", "row"] (spCarry K C)) (F : Fun K "place_next" "Machine.place_next" s_Machine_place_next f fd) : FnOk P w K mg base CX0 4 f fd ["self", "row", "behind", "end"] (spPlace K C) := by
 refine F.ok sc_Machine_place_next (fun vs H Q E h => ?_) (fun cdv A outer s H vs Q E hr h => ?_)
 ·obtain ⟨a, st, p, r, bh, en, rfl, _⟩ := h; rfl
 ·obtain ⟨a, st, p, r, bh, en, rfl, M, hp, hok, htl, q⟩ := h
  have hu := hu_of hr
  have key : ∃ t, QB (cxOf CX0 P w K mg base ["self", "row", "behind", "end", "goes"] "Machine.place_next" (defScope s_Machine_place_next) f cdv A outer s H E).nox (defBody s_Machine_place_next) t ∧ t { nx := fun _ H' => Q .non H', rt := Q } (start ["self", "row", "behind", "end", "goes"] [.ref a.m, .ref p, .int bh, .int en]) H := by
   refine ⟨_, (Z.bcons (Z.set (i := 4) sc_Machine_place_next.nd rfl (by walk_at "lc") (Z.meth K rfl (Z.v 0) cM mm_carry_out FO_carry_out (hr.mono (by decide)) bm_carry_out pass0 (Z.cons (Z.v 1) Z.nil)))
   (Z.bcons (Z.ifS (Z.tcmp uop_eq (Z.ix (Z.k_ix K rfl hu) (Z.v 1) Z.int) Z.str) (Z.bone (Z.ret (Z.v 3))) Z.bnil)
   (Z.bone (Z.ret (Z.ifE (Z.ttru K rfl (Z.v 4)) (Z.fn hgoal_of (hr.mono (by decide)) rfl pass0 (Z.cons (Z.v 1) Z.nil)) (Z.v 2)))))), ?_⟩
   refine seqG fun N hN => ?_
   walk_at "rz"
   refine ⟨a.m, a.dx, _, rfl, M.om, rfl, a, st, p, r, rfl, M, hp, hok, htl, fun H1 M1 kb => ?_⟩
   have hp1 : H1 p = some (.tup r.vs) := kb _ _ hp (by
    unfold MF
    simp only [List.mem_cons, List.not_mem_nil, or_false, not_or]
    exact ⟨fun e => (by rw [e, M.om] at hp; cases hp), fun e => (by rw [e, M.ot] at hp; cases hp), fun e => (by rw [e, M.ob] at hp; cases hp)⟩)
   have e2 : sq H1 p = some (false, r.vs) := sq_tup hp1
   walk_at "rz"
   rw [hN]; clear hN N
   refine seqG fun N hN => ?_
   walk_at "rz"
   simp only [L2.Ap.ixRef, e2]
   have fin := q H1 M1 kb
   by_cases hh : r = .halt
   ·subst hh
    show rEq (.str "halt") (.str "halt") H1 _
    simp only [L2.Ap.rEqS]
    exact ⟨_, rfl, by rw [if_pos (by simp)]; exact fin⟩
   ·obtain ⟨wd, hw, hne⟩ : ∃ wd, atI r.vs 0 = some (.str wd) ∧ wd ≠ "halt" := by
     cases r with
     | put b n => exact ⟨_, rfl, by decide +kernel⟩
     | two u b c => exact ⟨_, rfl, (show ∀ u, w2 u ≠ "halt" by decide +kernel) u⟩
     | one u b => exact ⟨_, rfl, (show ∀ u, w1 u ≠ "halt" by decide +kernel) u⟩
     | jump g => exact ⟨_, rfl, by decide +kernel⟩
     | zero b g => exact ⟨_, rfl, by decide +kernel⟩
     | halt => exact absurd rfl hh
    have ep : place st r bh en = if (carry st r).1 = true then (((goalR r).getD 0 : Nat) : Int) else bh := by
     cases r <;> first | rfl | exact absurd rfl hh
    rw [hw]
    simp only [L2.Ap.rEqS]
    refine ⟨_, rfl, ?_⟩
    rw [if_neg (by simpa using hne), hN]; clear hN N
    walk_at "rz"
    cases hc : (carry st r).1 with
    | false =>
     rw [if_neg (by decide)]
     rw [ep, hc] at fin
     exact fin
    | true =>
     rw [if_pos rfl]
     obtain ⟨g, hg⟩ : ∃ g, goalR r = some g := by
      cases r with
      | put b n => cases hc
      | two u b c => cases hc
      | one u b =>
       rcases fin2 u with rfl | rfl <;> cases hc
      | jump g => exact ⟨g, rfl⟩
      | zero b g => exact ⟨g, rfl⟩
      | halt => cases hc
     refine ⟨fun _ => False, [r.t], fun rr outs => rr = .tr (goalT r), ⟨rep_row hp1, trivial⟩, fun b z => z.elim, List.nodup_nil, ⟨r, rfl, rfl⟩, fun v H' rr outs hq kp res => ?_⟩
     subst hq
     have hT : goalT r = .int (g : Nat) := by unfold goalT; rw [hg]
     rw [hT] at res
     have rp := res.1
     cases rp
     have sm : ∀ b o, H1 b = some o → H' b = some o := fun b o e => kp b o e (by simp [bxA])
     have := q H' ⟨sm _ _ M1.om, sm _ _ M1.od, sm _ _ M1.og, sm _ _ M1.ot, sm _ _ M1.ob, M1.l8, M1.hh⟩ (kb.trans fun b o e _ => sm b o e)
     rw [ep, hc, hg] at this
     exact this
  obtain ⟨t, hb, ht⟩ := key
  exact ⟨t, hb.h, ht⟩
noncomputable def spTold (K : PySem.W.Frag) (C : Addr) : Sp := fun vs H Q _ => ∃ (a : MA) (st : MSt), vs = [.ref a.m] ∧ MS K C H a st ∧ ∀ p, H p = none → Q (.ref p) (upd H p (.tup (iV st.told)))
theorem ok_told {C f : Addr} {fd : FuncData} (T : Txt K mg) (cM : Cls K C) (na_told : NoAttr K C "told") (F : Fun K "told_numbers" "Machine.told_numbers" s_Machine_told_numbers f fd) : FnOk P w K mg base CX0 1 f fd ["self"] (spTold K C) := by
 refine F.ok sc_Machine_told_numbers (fun vs H Q E h => ?_) (fun cdv A outer s H vs Q E hr h => ?_)
 ·obtain ⟨a, st, rfl, _⟩ := h; rfl
 ·obtain ⟨a, st, rfl, M, q⟩ := h
  have hu := hu_of hr
  have key : ∃ t, QB (cxOf CX0 P w K mg base ["self"] "Machine.told_numbers" (defScope s_Machine_told_numbers) f cdv A outer s H E).nox (defBody s_Machine_told_numbers) t ∧ t { nx := fun _ H' => Q .non H', rt := Q } (start ["self"] [.ref a.m]) H := by
   refine ⟨_, (Z.bone (Z.ret (Z.ct (Z.k_tuple K rfl) rfl T.b_tuple (by decide +kernel) (Z.cons (Z.fld K rfl (Z.v 0)) Z.nil)))), ?_⟩
   have e1 : sq H a.tl = some (true, iV st.told) := sq_lst M.ot
   walk_at "rz"
   refine ⟨a.m, C, a.dx, _, _, rfl, M.om, cM, na_told, lk_told a _, ?_⟩
   simp only [L2.Ap.tupRef, e1]
   exact fun p hp => q p hp
  obtain ⟨t, hb, ht⟩ := key
  exact ⟨t, hb.h, ht⟩
noncomputable def bxN : List Str := ["a", "b", "c", "d", "e", "f", "g", "h"]
theorem reps_str {H : Hp} {B : AP'} : ∀ {xs : List Str} {vs : List V}, Reps K H B vs (xs.map L2.T.str) → vs = xs.map V.str
 | [], _, r => by cases r; rfl
 | x :: xs, _, r => by
  cases r with
  | cons h r => cases h; rw [reps_str r]; rfl
noncomputable def spBoxes (K : PySem.W.Frag) (C : Addr) : Sp := fun vs H Q _ => ∃ (a : MA) (st : MSt), vs = [.ref a.m] ∧ MS K C H a st ∧ ∀ p H', H p = none → H' p = some (.tup (iV st.bs)) → KB [] H H' → Q (.ref p) H'
theorem ok_boxes {C f : Addr} {fd : FuncData} (T : Txt K mg) (cM : Cls K C) (na_boxes : NoAttr K C "boxes") (F : Fun K "box_numbers" "Machine.box_numbers" s_Machine_box_numbers f fd) : FnOk P w K mg base CX0 1 f fd ["self"] (spBoxes K C) := by
 obtain ⟨w_BOXES, u_BOXES, hg_BOXES, hr_BOXES, rp_BOXES⟩ := T.c_BOXES
 refine F.ok sc_Machine_box_numbers (fun vs H Q E h => ?_) (fun cdv A outer s H vs Q E hr h => ?_)
 ·obtain ⟨a, st, rfl, _⟩ := h; rfl
 ·obtain ⟨a, st, rfl, M, q⟩ := h
  have hu := hu_of hr
  have key : ∃ t, QB (cxOf CX0 P w K mg base ["self"] "Machine.box_numbers" (defScope s_Machine_box_numbers) f cdv A outer s H E).nox (defBody s_Machine_box_numbers) t ∧ t { nx := fun _ H' => Q .non H', rt := Q } (start ["self"] [.ref a.m]) H := by
   refine ⟨_, (Z.bone (Z.ret (Z.ct (Z.k_tuple K rfl) rfl T.b_tuple (by decide +kernel) (Z.cons (Z.comp (osc := defScope s_Machine_box_numbers) (ON := ["self"]) (own := ["box"]) (N := ["box", "self"]) ⟨rfl, by decide +kernel, rfl, by decide +kernel, by decide +kernel, by decide +kernel, by decide +kernel, by decide +kernel⟩ rfl rfl rfl (Z.seq K rfl (Z.glob rfl hg_BOXES hr_BOXES)) (fun _ _ _ _ => (Z.gname (i := 0) (show List.Nodup (["box", "self"] : List Str) by decide +kernel) rfl (by walk_at "lc"))) (fun _ _ _ _ => Z.ts0) (fun _ _ _ _ => (Z.dget hu (Z.fld K rfl (Z.v 1)) (Z.v 0)))) Z.nil)))), ?_⟩
   obtain ⟨b, rfl, kt⟩ : ∃ b, w_BOXES = .ref b ∧ KTp K b (bxN.map V.str) := by
    have := rp_BOXES (fun _ => none) (fun _ => False)
    cases this with
    | ktp h r =>
     have e := reps_str (xs := bxN) r
     subst e
     exact ⟨_, rfl, h⟩
   walk_at "rz"
   refine .inr ⟨⟨_, .inr kt⟩, ?_⟩
   have l8 := M.l8
   refine compW_tup (xs := bxN.map V.str) (by decide) (fun D i ys H' => H D = none ∧ KB [] H H' ∧ H' D = some (.lst ys) ∧ ys = iV (st.bs.take i) ∧ i ≤ 8) (fun D hD => ⟨hD, KB.new hD, upd_same, by simp [iV], by decide⟩) (fun D i ys H' ⟨h1, h2, h3, h4, h5⟩ => ⟨h3, by rw [h4]; unfold iV; rw [List.length_map, List.length_take]; omega⟩) (fun D i ys H' _ => .inr kt) ?_ ?_
   ·rintro D i ys H' x R hx ⟨h1, h2, h3, h4, h5⟩ k
    have hi : i < 8 := by
     rcases Nat.lt_or_ge i 8 with c | c
     ·exact c
     ·rw [List.getElem?_eq_none_iff.mpr (by exact c)] at hx; cases hx
    have ex : x = .str (boxS i) := by
     rcases lt8 hi with rfl | rfl | rfl | rfl | rfl | rfl | rfl | rfl <;> exact (Option.some.inj hx).symm
    subst ex
    have om' := h2 _ _ M.om (by simp)
    have ob' := h2 _ _ M.ob (by simp)
    walk_at "rz"
    refine ⟨a.m, C, a.dx, _, _, rfl, om', cM, na_boxes, lk_boxes a _, a.bx, _, rfl, .inl ⟨_, .inr (boxS i), .inl ob', rfl, (bx_val i hi st.bs l8).symm⟩, ?_⟩
    refine k _ H' h3 ⟨h1, fun b o e _ => ?_, upd_same, ?_, by omega⟩
    ·rw [upd_ne (ne_of_none e h1)]
     exact h2 b o e (by simp)
    ·have hb : i < st.bs.length := by omega
     rw [h4, List.take_succ_eq_append_getElem hb]
     unfold iV bAt
     rw [List.map_append, List.getElem?_eq_getElem hb]; rfl
   ·rintro D ys H' ⟨h1, h2, h3, h4, h5⟩
    have e1 : sq H' D = some (true, ys) := sq_lst h3
    simp only [L2.Ap.tupRef, e1]
    refine fun p hp => q p _ (h2.free (by simp) hp) ?_ (h2.trans (KB.new hp))
    rw [upd_same, h4]
    have : st.bs.take (bxN.map V.str).length = st.bs := List.take_of_length_le (by rw [l8]; decide)
    rw [this]
  obtain ⟨t, hb, ht⟩ := key
  exact ⟨t, hb.h, ht⟩
noncomputable def st0 (g : List Int) : MSt := ⟨g, 0, [], [0, 0, 0, 0, 0, 0, 0, 0]⟩
noncomputable def spInit (K : PySem.W.Frag) (C : Addr) : Sp := fun vs H Q _ => ∃ (x dx gv : Addr) (g : List Int), vs = [.ref x, .ref gv] ∧ H x = some (.ins C dx []) ∧ H dx = some (.own x) ∧ H gv = some (.tup (iV g)) ∧
 ∀ H' tl bx, H tl = none → H bx = none → MS K C H' ⟨x, dx, gv, tl, bx⟩ (st0 g) → KB [x] H H' → Q .non H'
theorem ok_init {C f : Addr} {fd : FuncData} (T : Txt K mg) (cM : Cls K C) (na_given : NoAttr K C "given") (na_heard : NoAttr K C "heard") (na_told : NoAttr K C "told") (na_boxes : NoAttr K C "boxes") (F : Fun K "__init__" "Machine.__init__" s_Machine___init__ f fd) : FnOk P w K mg base CX0 1 f fd ["self", "given"] (spInit K C) := by
 obtain ⟨w_BOXES, u_BOXES, hg_BOXES, hr_BOXES, rp_BOXES⟩ := T.c_BOXES
 refine F.ok sc_Machine___init__ (fun vs H Q E h => ?_) (fun cdv A outer s H vs Q E hr h => ?_)
 ·obtain ⟨x, dx, gv, g, rfl, _⟩ := h; rfl
 ·obtain ⟨x, dx, gv, g, rfl, ox, od, og, q⟩ := h
  have hu := hu_of hr
  have key : ∃ t, QB (cxOf CX0 P w K mg base ["self", "given"] "Machine.__init__" (defScope s_Machine___init__) f cdv A outer s H E).nox (defBody s_Machine___init__) t ∧ t { nx := fun _ H' => Q .non H', rt := Q } (start ["self", "given"] [.ref x, .ref gv]) H := by
   refine ⟨_, (Z.bcons (Z.sfld K rfl (Z.v 0) (Z.v 1))
   (Z.bcons (Z.sfld K rfl (Z.v 0) Z.int)
   (Z.bcons (Z.sfld K rfl (Z.v 0) (Z.lst Z.nil))
   (Z.bone (Z.sfld K rfl (Z.v 0) (Z.ct (call_dictPR K rfl) rfl T.b_dict (by decide +kernel) (Z.cons (Z.comp (osc := defScope s_Machine___init__) (ON := ["self", "given"]) (own := ["box"]) (N := ["box", "self", "given"]) ⟨rfl, by decide +kernel, rfl, by decide +kernel, by decide +kernel, by decide +kernel, by decide +kernel, by decide +kernel⟩ rfl rfl rfl (Z.seq K rfl (Z.glob rfl hg_BOXES hr_BOXES)) (fun _ _ _ _ => (Z.gname (i := 0) (show List.Nodup (["box", "self", "given"] : List Str) by decide +kernel) rfl (by walk_at "lc"))) (fun _ _ _ _ => Z.ts0) (fun _ _ _ _ => (Z.tup (Z.cons (Z.v 0) (Z.cons Z.int Z.nil))))) Z.nil))))))), ?_⟩
   obtain ⟨b, rfl, kt⟩ : ∃ b, w_BOXES = .ref b ∧ KTp K b (bxN.map V.str) := by
    have := rp_BOXES (fun _ => none) (fun _ => False)
    cases this with
    | ktp h r =>
     have e := reps_str (xs := bxN) r
     subst e
     exact ⟨_, rfl, h⟩
   have ndx : dx ≠ x := by rintro rfl; rw [ox] at od; cases od
   have ngx : gv ≠ x := by rintro rfl; rw [ox] at og; cases og
   refine seqG fun N hN => ?_
   walk_at "rz"
   refine ⟨x, C, dx, _, rfl, ox, cM, na_given, by decide, ?_⟩
   rw [hN]; clear hN N
   refine seqG fun N hN => ?_
   walk_at "rz"
   refine ⟨x, C, dx, _, rfl, upd_same, cM, na_heard, (show 1 < 1000 by decide), ?_⟩
   rw [hN]; clear hN N
   rw [upd_upd]
   refine seqG fun N hN => ?_
   walk_at "rz"
   refine ⟨by decide, fun tl htl => ?_⟩
   have ntl : tl ≠ x := by rintro rfl; rw [upd_same] at htl; cases htl
   have htl0 : H tl = none := by rw [upd_ne ntl] at htl; exact htl
   refine ⟨x, C, dx, putF "heard" (.int 0) (putF "given" (.ref gv) []), rfl, by rw [upd_ne ntl.symm]; exact upd_same, cM, na_told, (show 2 < 1000 by decide), ?_⟩
   rw [hN]; clear hN N
   have ntd : tl ≠ dx := fun e => by rw [e, od] at htl0; cases htl0
   have ntg : tl ≠ gv := fun e => by rw [e, og] at htl0; cases htl0
   obtain ⟨H3, e3⟩ : ∃ H3, H3 = upd (upd (upd H x (.ins C dx (putF "heard" (.int 0) (putF "given" (.ref gv) [])))) tl (.lst [])) x (.ins C dx (putF "told" (.ref tl) (putF "heard" (.int 0) (putF "given" (.ref gv) [])))) := ⟨_, rfl⟩
   rw [← e3]
   have x3 : H3 x = some (.ins C dx [("given", .ref gv), ("heard", .int 0), ("told", .ref tl)]) := by rw [e3]; exact upd_same
   have t3 : H3 tl = some (.lst []) := by rw [e3, upd_ne ntl]; exact upd_same
   have d3 : H3 dx = some (.own x) := by rw [e3, upd_ne ndx, upd_ne ntd.symm, upd_ne ndx]; exact od
   have g3 : H3 gv = some (.tup (iV g)) := by rw [e3, upd_ne ngx, upd_ne ntg.symm, upd_ne ngx]; exact og
   have k3 : KB [x] H H3 := by
    rw [e3]
    exact ((KB.set (by simp)).trans (KB.new htl)).trans (KB.set (by simp))
   clear e3
   walk_at "rz"
   refine .inr ⟨⟨_, .inr kt⟩, ?_⟩
   refine compW_tup (xs := bxN.map V.str) (by decide) (fun D i ys H' => H3 D = none ∧ KB [] H3 H' ∧ H' D = some (.lst ys) ∧ ys.length = i ∧ i ≤ 8 ∧ ∀ j, j < i → ∃ p, ys[j]? = some (.ref p) ∧ H' p = some (.tup [.str (boxS j), .int 0])) (fun D hD => ⟨hD, KB.new hD, upd_same, rfl, by decide, fun j hj => absurd hj (Nat.not_lt_zero _)⟩) (fun D i ys H' ⟨h1, h2, h3, h4, h5⟩ => ⟨h3, h4⟩) (fun D i ys H' _ => .inr kt) ?_ ?_
   ·rintro D i ys H' z R hx ⟨h1, h2, h3, h4, h5, h6⟩ k
    have hi : i < 8 := by
     rcases Nat.lt_or_ge i 8 with c | c
     ·exact c
     ·rw [List.getElem?_eq_none_iff.mpr (by exact c)] at hx; cases hx
    have ex : z = .str (boxS i) := by
     rcases lt8 hi with rfl | rfl | rfl | rfl | rfl | rfl | rfl | rfl <;> exact (Option.some.inj hx).symm
    subst ex
    walk_at "rz"
    refine ⟨by decide, fun p hp => ?_⟩
    have npD : p ≠ D := by rintro rfl; rw [h3] at hp; cases hp
    refine k _ _ (by rw [upd_ne npD.symm]; exact h3) ⟨h1, fun c o e _ => ?_, upd_same, by rw [List.length_append, h4]; rfl, by omega, fun j hj => ?_⟩
    ·have hc := h2 c o e (by simp)
     rw [upd_ne (ne_of_none e h1), upd_ne (ne_of_none hc hp)]
     exact hc
    ·rcases Nat.lt_or_ge j i with c | c
     ·obtain ⟨p', e1, e2⟩ := h6 j c
      have n1 : p' ≠ D := by rintro rfl; rw [h3] at e2; cases e2
      exact ⟨p', by rw [List.getElem?_append_left (by omega)]; exact e1, by rw [upd_ne n1, upd_ne (ne_of_none e2 hp)]; exact e2⟩
     ·have : j = i := by omega
      subst this
      exact ⟨p, by rw [List.getElem?_append_right (by omega), h4]; simp, by rw [upd_ne npD]; exact upd_same⟩
   ·rintro D ys H' ⟨h1, h2, h3, h4, h5, h6⟩
    have hl : (bxN.map V.str).length = 8 := rfl
    rw [hl] at h4 h6
    refine ⟨D, ys, bxK.zip (iV (st0 g).bs), rfl, h3, ⟨h4, fun j k z e => ?_⟩, (show 8 ≤ 1000 by decide), fun p hp => ?_⟩
    ·have hj : j < 8 := by
      rcases Nat.lt_or_ge j 8 with c | c
      ·exact c
      ·rw [List.getElem?_eq_none_iff.mpr (by exact c)] at e; cases e
     obtain ⟨p, e1, e2⟩ := h6 j hj
     refine ⟨p, e1, ?_⟩
     rw [e2]
     rcases lt8 hj with rfl | rfl | rfl | rfl | rfl | rfl | rfl | rfl <;> (cases e; rfl)
    ·have hm : mergeK [] (bxK.zip (iV (st0 g).bs)) = bxK.zip (iV (st0 g).bs) := by
      rw [Y.merge_new _ [] ?_, List.nil_append]
      show (bxK.map fun k => k).Nodup
      decide +kernel
     rw [hm]
     have x4 := h2 _ _ x3 (by simp)
     have t4 := h2 _ _ t3 (by simp)
     have d4 := h2 _ _ d3 (by simp)
     have g4 := h2 _ _ g3 (by simp)
     have px : p ≠ x := fun e => by rw [e, x4] at hp; cases hp
     have pt : p ≠ tl := fun e => by rw [e, t4] at hp; cases hp
     have pd : p ≠ dx := fun e => by rw [e, d4] at hp; cases hp
     have pg : p ≠ gv := fun e => by rw [e, g4] at hp; cases hp
     have hp3 : H3 p = none := h2.free (by simp) hp
     have hp0 : H p = none := k3.free (by simpa using px) hp3
     refine ⟨x, C, dx, [("given", .ref gv), ("heard", .int 0), ("told", .ref tl)], rfl, by rw [upd_ne px.symm]; exact x4, cM, na_boxes, (show 3 < 1000 by decide), ?_⟩
     refine q _ tl p htl0 hp0 ⟨upd_same, by rw [upd_ne ndx, upd_ne pd.symm]; exact d4, by rw [upd_ne ngx, upd_ne pg.symm]; exact g4, by rw [upd_ne ntl, upd_ne pt.symm]; exact t4, by rw [upd_ne px]; exact upd_same, rfl, Nat.zero_le _⟩ ?_
     exact ((k3.trans h2.all).trans (KB.new hp)).trans (KB.set (by simp))
  obtain ⟨t, hb, ht⟩ := key
  exact ⟨t, hb.h, ht⟩
structure RS where
 st : MSt
 turns : List Int
 at_ : Nat
noncomputable def rAt (rows : List Row) (i : Nat) : Row := rows[i]?.getD .halt
noncomputable def step1 (rows : List Row) (c : RS) : RS :=
 ⟨(carry c.st (rAt rows c.at_)).2, c.turns.set c.at_ (c.turns[c.at_]?.getD 0 + 1), (place c.st (rAt rows c.at_) ((c.at_ : Int) + 1) rows.length).toNat⟩
noncomputable def runs (rows : List Row) : Nat → RS → RS
 | 0, c => c
 | n + 1, c => if c.at_ < rows.length then runs rows n (step1 rows c) else c
noncomputable def rs0 (rows : List Row) (g : List Int) : RS := ⟨st0 g, rows.map fun _ => 0, 0⟩
noncomputable def outT (rows : List Row) (c : RS) : L2.T := .tup [.str (if c.at_ < rows.length then "more" else "halt"), .tup (nI c.st.told), .tup (nI c.turns), .tup (nI c.st.bs)]
noncomputable def tRun : TSp := fun args Q => ∃ (rows : List Row) (g : List Int) (most : Nat), args = [.tup (pT rows), .tup (nI g), .int (most : Nat)] ∧ rows.length ≤ 1000 ∧ (∀ r ∈ rows, r.Ok 100000) ∧ g.length ≤ 1000 ∧ most ≤ 10000 ∧ Q (.tr (outT rows (runs rows most (rs0 rows g)))) []
theorem reps_int {H : Hp} {B : AP'} : ∀ {xs : List Int} {vs : List V}, Reps K H B vs (nI xs) → vs = iV xs
 | [], _, r => by cases r; rfl
 | x :: xs, _, r => by
  cases r with
  | cons h r => cases h; rw [reps_int r]; rfl
theorem reps_prt {H : Hp} {B : AP'} : ∀ {ps : List Prt} {vs : List V}, Reps K H B vs (ps.map Prt.t) → vs = ps.map Prt.v
 | [], _, r => by cases r; rfl
 | x :: ps, _, r => by
  cases r with
  | cons h r =>
   rw [reps_prt r]
   cases x with
   | s z => cases h; rfl
   | n k => cases h; rfl
theorem rep_row' {H : Hp} {B : AP'} {v : V} {r : Row} (h : Rep K H B v r.t) : ∃ p, v = .ref p ∧ H p = some (.tup r.vs) := by
 unfold Row.t at h
 cases h with
 | tup n h r => exact ⟨_, rfl, by rw [h, reps_prt r]; rfl⟩
theorem reps_rows {H : Hp} {B : AP'} : ∀ {rs : List Row} {vs : List V}, Reps K H B vs (pT rs) → vs.length = rs.length ∧ ∀ (i : Nat) r, rs[i]? = some r → ∃ p, vs[i]? = some (.ref p) ∧ H p = some (.tup r.vs)
 | [], _, r => by cases r; exact ⟨rfl, fun i r e => by simp at e⟩
 | x :: rs, _, r => by
  cases r with
  | cons h r =>
   obtain ⟨h1, h2⟩ := reps_rows r
   refine ⟨by simp [h1], fun i r e => ?_⟩
   cases i with
   | zero =>
    cases e
    obtain ⟨p, rfl, hp⟩ := rep_row' h
    exact ⟨p, rfl, hp⟩
   | succ i => exact h2 i r (by simpa using e)
theorem int_reps {H : Hp} {B : AP'} : ∀ xs : List Int, Reps K H B (iV xs) (nI xs)
 | [] => .nil
 | x :: xs => .cons (.int x) (int_reps xs)
theorem told_le (st : MSt) (r : Row) : (carry st r).2.told.length ≤ st.told.length + 1 := by
 have hh : (hearS st).2.told = st.told := by unfold hearS; split <;> rfl
 cases r with
 | put b n => exact Nat.le_succ _
 | two u a b => exact Nat.le_succ _
 | one u b =>
  rcases fin2 u with rfl | rfl
  ·show (st.told ++ [bAt st.bs b]).length ≤ _; rw [List.length_append]; exact Nat.le_refl _
  ·show (hearS st).2.told.length ≤ _; rw [hh]; exact Nat.le_succ _
 | jump g => exact Nat.le_succ _
 | zero b g => exact Nat.le_succ _
 | halt => exact Nat.le_succ _
theorem ok_run (T : Txt K mg) (hgoal_of : CallOk P w K mg base CX0 1 "goal_of" ["row"] (spT K [false] tGoal)) (F : HasFn K mg "run_rows" s_run_rows ["program", "given", "most"]) : CallOk P w K mg base CX0 6 "run_rows" ["program", "given", "most"] (spT K [false, false, false] tRun) := by
 obtain ⟨C_Machine, f___init__, f_place_next, f_carry_out, f_number_for, f_heard_number, f_told_numbers, f_box_numbers, d___init__, d_place_next, d_carry_out, d_number_for, d_heard_number, d_told_numbers, d_box_numbers, hC_Machine, cM, na_given, na_heard, na_told, na_boxes, mm___init__, FM___init__, bm___init__, mm_place_next, FM_place_next, bm_place_next, mm_carry_out, FM_carry_out, bm_carry_out, mm_number_for, FM_number_for, bm_number_for, mm_heard_number, FM_heard_number, bm_heard_number, mm_told_numbers, FM_told_numbers, bm_told_numbers, mm_box_numbers, FM_box_numbers, bm_box_numbers⟩ := T.mc
 have FO_heard_number := ok_heard (P := P) (w := w) (mg := mg) (base := base) T cM na_given na_heard FM_heard_number
 have FO_number_for := ok_num (P := P) (w := w) (mg := mg) (base := base) T cM na_boxes mm_heard_number bm_heard_number FO_heard_number FM_number_for
 have FO_carry_out := ok_carry (P := P) (w := w) (mg := mg) (base := base) T cM na_boxes na_told mm_number_for bm_number_for FO_number_for FM_carry_out
 have FO_place_next := ok_place T hgoal_of cM mm_carry_out bm_carry_out FO_carry_out FM_place_next
 have FO_told_numbers := ok_told (P := P) (w := w) (mg := mg) (base := base) T cM na_told FM_told_numbers
 have FO_box_numbers := ok_boxes (P := P) (w := w) (mg := mg) (base := base) T cM na_boxes FM_box_numbers
 have FO___init__ := ok_init (P := P) (w := w) (mg := mg) (base := base) T cM na_given na_heard na_told na_boxes FM___init__
 refine F.okQ sc_run_rows (fun vs H Q E h => ?_) (fun f cdv A outer s H vs Q E hr h => ?_)
 ·obtain ⟨B, args, Qt, ag, _⟩ := h; exact ag.len.1
 ·obtain ⟨B, args, Qt, ag, hB, hnd, ⟨rows, g, most, rfl, hrl, hok, hgl, hmo, hq⟩, q⟩ := h
  have hu := hu_of hr
  obtain ⟨v1, v2, v3, rfl⟩ := Y.len3 ag.len.1
  obtain ⟨r1, r2, r3, _⟩ := ag
  cases r3
  cases r2 with
  | @tup gv vsg _ ng og rg =>
   have eg := reps_int rg
   subst eg
   cases r1 with
   | @tup pv pvs _ np op rp =>
    obtain ⟨hl, hrow⟩ := reps_rows rp
    refine ⟨_, (Z.bcons (Z.set (i := 3) sc_run_rows.nd rfl (by walk_at "lc") (Z.make K rfl mm___init__ FO___init__ (hr.mono (by decide)) rfl hC_Machine bm___init__ pass0 (Z.cons (Z.v 1) Z.nil)))
   (Z.bcons (Z.setC (j := 4) sc_run_rows.nd rfl (by walk_at "lc") (osc := defScope s_run_rows) (ON := ["program", "given", "most", "machine", "turns", "at", "done", "how"]) (own := ["row"]) (N := ["row", "program", "given", "most", "machine", "turns", "at", "done", "how"]) ⟨rfl, by decide +kernel, rfl, by decide +kernel, by decide +kernel, by decide +kernel, by decide +kernel, by decide +kernel⟩ rfl rfl rfl (Z.any K rfl (Z.v 0)) (fun _ _ _ _ => (Z.gname (i := 0) (show List.Nodup (["row", "program", "given", "most", "machine", "turns", "at", "done", "how"] : List Str) by decide +kernel) rfl (by walk_at "lc"))) (fun _ _ _ _ => Z.ts0) (fun _ _ _ _ => Z.int))
   (Z.bcons (Z.set (i := 5) sc_run_rows.nd rfl (by walk_at "lc") Z.int)
   (Z.bcons (Z.set (i := 6) sc_run_rows.nd rfl (by walk_at "lc") Z.int)
   (Z.bcons (Z.whileS PassesOwn.never (Z.tw (Z.wand (Z.tcmp op_lt (Z.v 5) (Z.cb (Z.k_len K rfl) rfl T.b_len (by decide +kernel) (Z.cons (Z.v 0) Z.nil))) (Z.wand1 (Z.tcmp op_lt (Z.v 6) (Z.v 2))))) (Z.bcons (Z.asg (Z.op (Z.k_add K rfl) (Z.ix (Z.k_ix K rfl hu) (Z.v 4) (Z.v 5)) Z.int) (Z.gsub (Z.v 4) (Z.v 5)))
   (Z.bcons (Z.set (i := 6) sc_run_rows.nd rfl (by walk_at "lc") (Z.op (Z.k_add K rfl) (Z.v 6) Z.int))
   (Z.bone (Z.set (i := 5) sc_run_rows.nd rfl (by walk_at "lc") (Z.meth K rfl (Z.v 3) cM mm_place_next FO_place_next (hr.mono (by decide)) bm_place_next pass0 (Z.cons (Z.ix (Z.k_ix K rfl hu) (Z.v 0) (Z.v 5)) (Z.cons (Z.op (Z.k_add K rfl) (Z.v 5) Z.int) (Z.cons (Z.cb (Z.k_len K rfl) rfl T.b_len (by decide +kernel) (Z.cons (Z.v 0) Z.nil)) Z.nil)))))))))
   (Z.bcons (Z.set (i := 7) sc_run_rows.nd rfl (by walk_at "lc") (Z.ifE (Z.tcmp op_lt (Z.v 5) (Z.cb (Z.k_len K rfl) rfl T.b_len (by decide +kernel) (Z.cons (Z.v 0) Z.nil))) Z.str Z.str))
   (Z.bone (Z.ret (Z.tup (Z.cons (Z.v 7) (Z.cons (Z.meth0 K rfl (Z.v 3) cM mm_told_numbers FO_told_numbers (hr.mono (by decide)) bm_told_numbers pass0) (Z.cons (Z.ct (Z.k_tuple K rfl) rfl T.b_tuple (by decide +kernel) (Z.cons (Z.v 4) Z.nil)) (Z.cons (Z.meth0 K rfl (Z.v 3) cM mm_box_numbers FO_box_numbers (hr.mono (by decide)) bm_box_numbers pass0) Z.nil))))))))))))), ?_⟩
    refine seqG fun N hN => ?_
    walk_at "rz"
    intro x dx hx hdx nd
    have ngx : gv ≠ x := fun e => by rw [e, hx] at og; cases og
    have ngd : gv ≠ dx := fun e => by rw [e, hdx] at og; cases og
    refine ⟨x, dx, gv, g, rfl, upd_same, by rw [upd_ne nd]; exact upd_same, by rw [upd_ne ngx, upd_ne ngd]; exact og, fun H1 tl bx htl hbx M1 kb => ⟨rfl, ?_⟩⟩
    have k1 : KB [] H H1 := fun b o e _ => kb b o (by
     rw [upd_ne (ne_of_none e hx), upd_ne (ne_of_none e hdx)]; exact e) (by simpa using ne_of_none e hx)
    rw [hN]; clear hN N
    refine seqG fun N hN => ?_
    have op1 := k1 _ _ op (by simp)
    have es : sq H1 pv = some (false, pvs) := sq_tup op1
    walk_at "rz"
    simp only [L2.Ap.iAny, es]
    have szp : pvs.length ≤ sizeLine := Nat.le_trans (show pvs.length ≤ 200000 by omega) szLine
    refine compW_tup (xs := pvs) szp (fun D i ys H' => H1 D = none ∧ KB [] H1 H' ∧ H' D = some (.lst ys) ∧ ys = iV (List.replicate i 0)) (fun D hD => ⟨hD, KB.new hD, upd_same, rfl⟩) (fun D i ys H' ⟨h1, h2, h3, h4⟩ => ⟨h3, by rw [h4]; unfold iV; rw [List.length_map, List.length_replicate]⟩) (fun D i ys H' ⟨h1, h2, h3, h4⟩ => SqT.of (h2 _ _ op1 (by simp))) ?_ ?_
    ·rintro D i ys H' z R hz ⟨h1, h2, h3, h4⟩ k
     walk_at "rz"
     refine k _ H' h3 ⟨h1, fun c o e _ => ?_, upd_same, ?_⟩
     ·rw [upd_ne (ne_of_none e h1)]; exact h2 c o e (by simp)
     ·rw [h4, List.replicate_succ']; unfold iV; rw [List.map_append]; rfl
    rintro D ys H2 ⟨hD1, k2, oD, eys⟩
    have etz : List.replicate pvs.length (0 : Int) = rows.map fun _ => 0 := by rw [List.map_const', hl]
    rw [eys, etz] at oD
    have M2 : MS K C_Machine H2 ⟨x, dx, gv, tl, bx⟩ (st0 g) := ⟨k2 _ _ M1.om (by simp), k2 _ _ M1.od (by simp), k2 _ _ M1.og (by simp), k2 _ _ M1.ot (by simp), k2 _ _ M1.ob (by simp), M1.l8, M1.hh⟩
    have k02 : KB [] H H2 := k1.trans k2
    rw [hN]; clear hN N
    refine seqG fun N hN => ?_
    walk_at "rz"
    rw [hN]; clear hN N
    refine seqG fun N hN => ?_
    walk_at "rz"
    rw [hN]; clear hN N
    refine seqG fun N hN => ?_
    refine ⟨fun m σ H' => ∃ (n : Nat) (c : RS), n ≤ most ∧ m = most - n ∧ runs rows most (rs0 rows g) = runs rows (most - n) c ∧ MS K C_Machine H' ⟨x, dx, gv, tl, bx⟩ c.st ∧ H' D = some (.lst (iV c.turns)) ∧ c.turns.length = rows.length ∧ c.st.told.length ≤ n ∧ KB [] H H' ∧ σ = [some (.ref pv), some (.ref gv), some (.int (most : Nat)), some (.ref x), some (.ref D), some (.int (c.at_ : Nat)), some (.int (n : Nat)), none], ⟨most, 0, rs0 rows g, Nat.zero_le _, rfl, rfl, M2, oD, by simp [rs0], Nat.zero_le _, k02, rfl⟩, ?_⟩
    rintro m σ H3 ⟨n, c, hn, rfl, hrun, M3, oD3, htl3, hto, k03, rfl⟩
    have op3 := k03 _ _ op (by simp)
    have es3 : sq H3 pv = some (false, pvs) := sq_tup op3
    have nDx : D ≠ x := fun e => by rw [e, M1.om] at hD1; cases hD1
    have nDt : D ≠ tl := fun e => by rw [e, M1.ot] at hD1; cases hD1
    have nDb : D ≠ bx := fun e => by rw [e, M1.ob] at hD1; cases hD1
    have htl0 : H tl = none := by
     cases z : H tl with
     | none => rfl
     | some o => rw [upd_ne (ne_of_none z hx), upd_ne (ne_of_none z hdx), z] at htl; cases htl
    have hbx0 : H bx = none := by
     cases z : H bx with
     | none => rfl
     | some o => rw [upd_ne (ne_of_none z hx), upd_ne (ne_of_none z hdx), z] at hbx; cases hbx
    have fin : (¬ c.at_ < rows.length ∨ ¬ n < most) → N [some (.ref pv), some (.ref gv), some (.int (most : Nat)), some (.ref x), some (.ref D), some (.int (c.at_ : Nat)), some (.int (n : Nat)), none] H3 := by
     intro hstop
     have er : runs rows (most - n) c = c := by
      rcases hstop with h | h
      ·cases most - n with
       | zero => rfl
       | succ k => show (if c.at_ < rows.length then _ else c) = c; rw [if_neg h]
      ·rw [show most - n = 0 by omega]; rfl
     rw [hN]; clear hN N
     refine seqG fun N hN => ?_
     walk_at "rz"
     simp only [L2.Ap.lenRef, es3, hl]
     have ew : ∀ hw : Str, hw = (if c.at_ < rows.length then ("more" : Str) else "halt") → N [some (.ref pv), some (.ref gv), some (.int (most : Nat)), some (.ref x), some (.ref D), some (.int (c.at_ : Nat)), some (.int (n : Nat)), some (.str hw)] H3 := by
      intro hw ehw
      rw [hN]; clear hN N
      walk_at "rz"
      refine ⟨x, dx, _, rfl, M3.om, rfl, ⟨x, dx, gv, tl, bx⟩, c.st, rfl, M3, fun p1 hp1 => ?_⟩
      have k4 : KB [] H3 (upd H3 p1 (.tup (iV c.st.told))) := KB.new hp1
      have eD : sq (upd H3 p1 (.tup (iV c.st.told))) D = some (true, iV c.turns) := sq_lst (k4 _ _ oD3 (by simp))
      walk_at "rz"
      simp only [L2.Ap.tupRef, eD]
      intro p2 hp2
      have k5 := k4.trans (KB.new (o := .tup (iV c.turns)) hp2)
      refine ⟨x, dx, _, rfl, k5 _ _ M3.om (by simp), rfl, ⟨x, dx, gv, tl, bx⟩, c.st, rfl, ⟨k5 _ _ M3.om (by simp), k5 _ _ M3.od (by simp), k5 _ _ M3.og (by simp), k5 _ _ M3.ot (by simp), k5 _ _ M3.ob (by simp), M3.l8, M3.hh⟩, fun p3 H6 hp3 o3 k6 => ?_⟩
      refine ⟨by decide, fun p4 hp4 => ?_⟩
      have o1 : H6 p1 = some (.tup (iV c.st.told)) := k6 _ _ ((KB.new (ex := []) hp2) _ _ upd_same (by simp)) (by simp)
      have o2 : H6 p2 = some (.tup (iV c.turns)) := k6 _ _ upd_same (by simp)
      have k36 : KB [] H H6 := (k03.trans k5).trans k6
      have nB : ∀ z, H z = none → ¬ B z := fun z hz hb => by obtain ⟨o, ho⟩ := hB z hb; rw [hz] at ho; cases ho
      have f1 : H p1 = none := k03.free (by simp) hp1
      have f2 : H p2 = none := (k03.trans k4).free (by simp) hp2
      have f3 : H p3 = none := (k03.trans k5).free (by simp) hp3
      have f4 : H p4 = none := k36.free (by simp) hp4
      rw [hrun, er] at hq
      refine q (.ref p4) _ _ [] hq (fun b o e _ => (KB.new (ex := []) hp4) _ _ (k36 b o e (by simp)) (by simp)) ⟨?_, .nil⟩
      have up4 : ∀ z o, H6 z = some o → upd H6 p4 (.tup [.str hw, .ref p1, .ref p2, .ref p3]) z = some o := fun z o e => (KB.new (ex := []) hp4) _ _ e (by simp)
      unfold outT
      rw [← ehw]
      exact .tup (nB _ f4) upd_same (.cons (.str _) (.cons (.tup (nB _ f1) (up4 _ _ o1) (int_reps _)) (.cons (.tup (nB _ f2) (up4 _ _ o2) (int_reps _)) (.cons (.tup (nB _ f3) (up4 _ _ o3) (int_reps _)) .nil))))
     by_cases h1 : c.at_ < rows.length
     ·rw [if_pos (by omega)]
      exact ew _ (by rw [if_pos h1])
     ·rw [if_neg (by omega)]
      exact ew _ (by rw [if_neg h1])
    walk_at "rz"
    simp only [L2.Ap.lenRef, es3, hl]
    have eD : sq H3 D = some (true, iV c.turns) := sq_lst oD3
    by_cases h1 : c.at_ < rows.length
    ·rw [if_pos (by omega)]
     by_cases h2 : n < most
     ·rw [if_pos (by omega)]
      have hat : c.at_ < c.turns.length := by omega
      have e1 : atI (iV c.turns) ((c.at_ : Nat) : Int) = some (V.int c.turns[c.at_]) := atI_nat (by unfold iV; rw [List.getElem?_map, List.getElem?_eq_getElem hat]; rfl)
      refine ⟨fun σ' H' => ∃ m', m' < most - n ∧ ∃ (n : Nat) (c : RS), n ≤ most ∧ m' = most - n ∧ runs rows most (rs0 rows g) = runs rows (most - n) c ∧ MS K C_Machine H' ⟨x, dx, gv, tl, bx⟩ c.st ∧ H' D = some (.lst (iV c.turns)) ∧ c.turns.length = rows.length ∧ c.st.told.length ≤ n ∧ KB [] H H' ∧ σ' = [some (.ref pv), some (.ref gv), some (.int (most : Nat)), some (.ref x), some (.ref D), some (.int (c.at_ : Nat)), some (.int (n : Nat)), none], fun σ' H' h => h, ?_⟩
      rw [eD]
      simp only [e1, L2.Ap.uAddI, oD3]
      have ei : ixN (iV c.turns).length ((c.at_ : Nat) : Int) = some c.at_ := by
       rw [ixN_lt (by omega) (by unfold iV; rw [List.length_map]; omega)]; simp
      have eset : (iV c.turns).set c.at_ (V.int (c.turns[c.at_] + 1)) = iV (c.turns.set c.at_ (c.turns[c.at_] + 1)) := by unfold iV; rw [List.map_set]
      simp only [ei, eset]
      have nDd : D ≠ dx := fun e => by rw [e, M1.od] at hD1; cases hD1
      have nDg : D ≠ gv := fun e => by rw [e, M1.og] at hD1; cases hD1
      have nDp : D ≠ pv := fun e => by rw [e, op1] at hD1; cases hD1
      have HD0 : H D = none := k1.free (by simp) hD1
      obtain ⟨H4, e4⟩ : ∃ H4, H4 = upd H3 D (.lst (iV (c.turns.set c.at_ (c.turns[c.at_] + 1)))) := ⟨_, rfl⟩
      rw [← e4]
      have D4 : H4 D = some (.lst (iV (c.turns.set c.at_ (c.turns[c.at_] + 1)))) := by rw [e4]; exact upd_same
      have sm4 : ∀ z o, z ≠ D → H3 z = some o → H4 z = some o := fun z o nz e => by rw [e4, upd_ne nz]; exact e
      have M4 : MS K C_Machine H4 ⟨x, dx, gv, tl, bx⟩ c.st := ⟨sm4 _ _ nDx.symm M3.om, sm4 _ _ nDd.symm M3.od, sm4 _ _ nDg.symm M3.og, sm4 _ _ nDt.symm M3.ot, sm4 _ _ nDb.symm M3.ob, M3.l8, M3.hh⟩
      have p4 := sm4 _ _ nDp.symm op3
      have es4 : sq H4 pv = some (false, pvs) := sq_tup p4
      clear e4
      obtain ⟨p, ep, orow⟩ := hrow c.at_ (rAt rows c.at_) (by unfold rAt; rw [List.getElem?_eq_getElem h1]; rfl)
      have e5 : atI pvs ((c.at_ : Nat) : Int) = some (.ref p) := atI_nat ep
      have hrok : (rAt rows c.at_).Ok 100000 := by
       unfold rAt
       rw [List.getElem?_eq_getElem h1]
       exact hok _ (List.getElem_mem h1)
      refine ⟨x, dx, _, rfl, M4.om, rfl, ?_⟩
      rw [es4]
      simp only [e5, hl]
      have npD : p ≠ D := fun e => by rw [e, HD0] at orow; cases orow
      refine ⟨⟨x, dx, gv, tl, bx⟩, c.st, p, rAt rows c.at_, _, _, rfl, M4, sm4 _ _ npD (k03 _ _ orow (by simp)), hrok, by omega, fun H5 M5 k5 => ?_⟩
      have nn : 0 ≤ place c.st (rAt rows c.at_) ((c.at_ : Int) + 1) (rows.length : Int) := by
       unfold place
       split
       ·omega
       ·split <;> omega
      have kD : H5 D = some (.lst (iV (c.turns.set c.at_ (c.turns[c.at_] + 1)))) := k5 _ _ D4 (by unfold MF; simp [nDx, nDt, nDb])
      have tle := told_le c.st (rAt rows c.at_)
      refine ⟨most - (n + 1), by omega, n + 1, step1 rows c, by omega, rfl, ?_, M5, ?_, ?_, ?_, ?_, ?_⟩
      ·rw [hrun, show most - n = (most - (n + 1)) + 1 by omega]
       show (if c.at_ < rows.length then runs rows (most - (n + 1)) (step1 rows c) else c) = _
       rw [if_pos h1]
      ·rw [kD]; unfold step1; rw [List.getElem?_eq_getElem hat]; rfl
      ·unfold step1; rw [List.length_set]; exact htl3
      ·show (carry c.st (rAt rows c.at_)).2.told.length ≤ n + 1
       omega
      ·intro b o e _
       have nb : b ≠ D := ne_of_none e HD0
       exact k5 _ _ (sm4 _ _ nb (k03 b o e (by simp))) (by unfold MF; simp [ne_of_none e hx, ne_of_none e htl0, ne_of_none e hbx0])
      ·unfold step1
       rw [Int.toNat_of_nonneg nn]; rfl
     ·rw [if_neg (by omega)]
      exact fin (.inr h2)
    ·rw [if_neg (by omega)]
     exact fin (.inl h1)
theorem carry_bs (st : MSt) (r : Row) : (carry st r).2.bs.length = st.bs.length := by
 have hh : (hearS st).2.bs = st.bs := by unfold hearS; split <;> rfl
 cases r with
 | put b n => exact List.length_set
 | two u a b => exact List.length_set
 | one u b =>
  rcases fin2 u with rfl | rfl
  ·rfl
  ·show ((hearS st).2.bs.set _ _).length = _; rw [List.length_set, hh]
 | jump g => rfl
 | zero b g => rfl
 | halt => rfl
theorem runs_len (rows : List Row) : ∀ (n : Nat) (c : RS), (runs rows n c).turns.length = c.turns.length ∧ (runs rows n c).st.bs.length = c.st.bs.length ∧ (runs rows n c).st.told.length ≤ c.st.told.length + n
 | 0, c => ⟨rfl, rfl, Nat.le_refl _⟩
 | n + 1, c => by
  show (ite _ _ _ : RS).turns.length = _ ∧ (ite _ _ _ : RS).st.bs.length = _ ∧ (ite _ _ _ : RS).st.told.length ≤ _
  split
  ·obtain ⟨h1, h2, h3⟩ := runs_len rows n (step1 rows c)
   have e1 : (step1 rows c).turns.length = c.turns.length := List.length_set
   have e2 : (step1 rows c).st.bs.length = c.st.bs.length := carry_bs _ _
   have e3 : (step1 rows c).st.told.length ≤ c.st.told.length + 1 := told_le _ _
   exact ⟨h1.trans e1, h2.trans e2, by omega⟩
  ·exact ⟨rfl, rfl, by omega⟩
theorem eqF_refl {t : L2.T} (h : flatT t = true) : Y.eqF t t = true := by
 cases t <;> first | (cases h; done) | simp [Y.eqF]
theorem row_D {xs : List L2.T} (h : xs.all flatT = true) : EqD 4 (.tup xs) (.tup xs) true := by
 have := EqD.tup (n := 3) (xs := xs) (ys := xs) (fun _ => true) fun j x y hx hy => by
  rw [hx] at hy
  cases hy
  have f := List.all_eq_true.mp h x (List.mem_of_getElem? hx)
  have := EqD.flat (n := 3) f f
  rw [eqF_refl f] at this
  exact this
 rw [allE_true rfl fun _ _ => rfl] at this
 exact this
theorem nI_flat (xs : List Int) : (nI xs).all flatT = true := by unfold nI; rw [List.all_map, List.all_eq_true]; intro x _; rfl
theorem out_D (z : Str) (a b c : List Int) : ∀ (j : Nat) (x y : L2.T), [L2.T.str z, .tup (nI a), .tup (nI b), .tup (nI c)][j]? = some x → [L2.T.str z, .tup (nI a), .tup (nI b), .tup (nI c)][j]? = some y → EqD 4 x y ((fun _ => true) j) := by
 intro j x y hx hy
 rw [hx] at hy
 cases hy
 match j, hx with
 | 0, hx => cases hx; have := EqD.flat (n := 4) (t := .str z) (u := .str z) rfl rfl; rw [eqF_refl rfl] at this; exact this
 | 1, hx => cases hx; exact row_D (nI_flat a)
 | 2, hx => cases hx; exact row_D (nI_flat b)
 | 3, hx => cases hx; exact row_D (nI_flat c)
 | n + 4, hx => simp at hx
theorem out_E : allE 4 4 (fun _ => true) = true := rfl
noncomputable def Row.wd : Row → Str
 | .put _ _ => "put"
 | .two w _ _ => w2 w
 | .one w _ => w1 w
 | .jump _ => "jump"
 | .zero _ _ => "zero"
 | .halt => "halt"
theorem wd_at (r : Row) : atI (r.ps.map Prt.t) 0 = some (.str r.wd) := by cases r <;> rfl
noncomputable def Row.b1 : Row → Nat
 | .put b _ => b
 | .two _ a _ => a
 | .one _ b => b
 | .zero b _ => b
 | _ => 0
noncomputable def deed (bs : List Int) (hd : Int) : Row → Option Int
 | .put _ n => some (n : Nat)
 | .two w a b => some (match w with
  | 0 => bAt bs a + bAt bs b
  | 1 => bAt bs a + (0 - bAt bs b)
  | 2 => bAt bs b)
 | .one 1 _ => some hd
 | _ => none
noncomputable def bs2 (bs : List Int) (hd : Int) (r : Row) : List Int := match deed bs hd r with
 | some x => bs.set r.b1 (x % 65536)
 | none => bs
noncomputable def stp (rows : List Row) : Nat → RS → Nat
 | 0, _ => 0
 | n + 1, c => if c.at_ < rows.length then stp rows n (step1 rows c) + 1 else 0
theorem runs_succ (rows : List Row) (n : Nat) (c : RS) : runs rows (n + 1) c = if c.at_ < rows.length then runs rows n (step1 rows c) else c := rfl
theorem stp_succ (rows : List Row) (n : Nat) (c : RS) : stp rows (n + 1) c = if c.at_ < rows.length then stp rows n (step1 rows c) + 1 else 0 := rfl
theorem runs_end {rows : List Row} {c : RS} (h : ¬ c.at_ < rows.length) : ∀ n, runs rows n c = c ∧ stp rows n c = 0
 | 0 => ⟨rfl, rfl⟩
 | n + 1 => by rw [runs_succ, stp_succ, if_neg h, if_neg h]; exact ⟨rfl, rfl⟩
theorem runs_add (rows : List Row) : ∀ (m n : Nat) (c : RS), runs rows (m + n) c = runs rows n (runs rows m c)
 | 0, n, c => by rw [Nat.zero_add]; rfl
 | m + 1, n, c => by
  rw [show m + 1 + n = (m + n) + 1 by omega, runs_succ, runs_succ]
  by_cases h : c.at_ < rows.length
  ·rw [if_pos h, if_pos h]; exact runs_add rows m n _
  ·rw [if_neg h, if_neg h, (runs_end h n).1]
theorem stp_le (rows : List Row) : ∀ (n : Nat) (c : RS), stp rows n c ≤ n
 | 0, _ => Nat.le_refl _
 | n + 1, c => by
  rw [stp_succ]
  split
  ·exact Nat.succ_le_succ (stp_le rows n _)
  ·omega
theorem stp_more (rows : List Row) : ∀ (n : Nat) (c : RS), (runs rows n c).at_ < rows.length → stp rows n c = n
 | 0, _, _ => rfl
 | n + 1, c, h => by
  rw [runs_succ] at h
  rw [stp_succ]
  split at h
  ·rename_i z; rw [if_pos z, stp_more rows n _ h]
  ·rename_i z; exact absurd h z
theorem runs_stp (rows : List Row) : ∀ (n : Nat) (c : RS), runs rows (stp rows n c) c = runs rows n c
 | 0, _ => rfl
 | n + 1, c => by
  rw [stp_succ, runs_succ rows n]
  split
  ·rename_i z; rw [runs_succ, if_pos z, runs_stp rows n]
  ·rfl
theorem stp_mono (rows : List Row) : ∀ (m n : Nat) (c : RS), m ≤ n → stp rows m c ≤ stp rows n c
 | 0, _, _, _ => Nat.zero_le _
 | m + 1, n + 1, c, h => by
  rw [stp_succ, stp_succ]
  split
  ·exact Nat.succ_le_succ (stp_mono rows m n _ (Nat.le_of_succ_le_succ h))
  ·exact Nat.le_refl _
theorem runs_halt {rows : List Row} {n m : Nat} {c : RS} (h : ¬ (runs rows n c).at_ < rows.length) (hm : stp rows n c ≤ m) : runs rows m c = runs rows n c := by
 have e := runs_stp rows n c
 rw [show m = stp rows n c + (m - stp rows n c) by omega, runs_add, e, (runs_end h _).1]
theorem stp_stop {rows : List Row} : ∀ {m n : Nat} {c : RS}, ¬ (runs rows m c).at_ < rows.length → stp rows n c ≤ stp rows m c
 | 0, n, c, h => by
  have h' : ¬ c.at_ < rows.length := h
  rw [(runs_end h' n).2]; exact Nat.zero_le _
 | m + 1, 0, c, _ => Nat.zero_le _
 | m + 1, n + 1, c, h => by
  rw [runs_succ] at h
  rw [stp_succ, stp_succ]
  split at h
  ·rename_i z; rw [if_pos z, if_pos z]; exact Nat.succ_le_succ (stp_stop h)
  ·rename_i z; rw [if_neg z, if_neg z]; exact Nat.le_refl _
theorem sum_set : ∀ (xs : List Int) (i : Nat), i < xs.length → (xs.set i (xs[i]?.getD 0 + 1)).sum = xs.sum + 1
 | x :: xs, 0, _ => by simp; omega
 | x :: xs, i + 1, h => by
  have := sum_set xs i (by simpa using h)
  simp only [List.set_cons_succ, List.sum_cons, List.getElem?_cons_succ]
  omega
theorem sum_turns (rows : List Row) : ∀ (n : Nat) (c : RS), c.turns.length = rows.length → (runs rows n c).turns.sum = c.turns.sum + (stp rows n c : Nat)
 | 0, c, _ => by show c.turns.sum = c.turns.sum + ((0 : Nat) : Int); simp
 | n + 1, c, h => by
  rw [runs_succ, stp_succ]
  by_cases z : c.at_ < rows.length
  ·rw [if_pos z, if_pos z]
   have e := sum_turns rows n (step1 rows c) (by unfold step1; rw [List.length_set]; exact h)
   have e2 : (step1 rows c).turns.sum = c.turns.sum + 1 := sum_set _ _ (by omega)
   rw [e, e2]; omega
  ·rw [if_neg z, if_neg z]; simp
theorem sum_zero (rows : List Row) : (rows.map fun _ => (0 : Int)).sum = 0 := by
 induction rows with
 | nil => rfl
 | cons x xs ih => rw [List.map_cons, List.sum_cons, ih]; rfl
theorem sum_run (rows : List Row) (g : List Int) (n : Nat) : (runs rows n (rs0 rows g)).turns.sum = (stp rows n (rs0 rows g) : Nat) := by
 rw [sum_turns rows n _ (List.length_map _)]
 show (rows.map fun _ => (0 : Int)).sum + _ = _
 rw [sum_zero]; simp
noncomputable def Go (rows : List Row) (n : Nat) (c c' : RS) : Prop := runs rows n c = c' ∧ stp rows n c = n
theorem stp_add (rows : List Row) : ∀ (m n : Nat) (c : RS), stp rows m c = m → stp rows (m + n) c = m + stp rows n (runs rows m c)
 | 0, n, c, _ => by rw [Nat.zero_add, Nat.zero_add]; rfl
 | m + 1, n, c, h => by
  rw [stp_succ] at h
  split at h
  ·rename_i z
   rw [show m + 1 + n = (m + n) + 1 by omega, stp_succ, if_pos z, stp_add rows m n _ (by omega), runs_succ, if_pos z]
   omega
  ·omega
theorem Go.add {rows : List Row} {m n : Nat} {a b c : RS} (h1 : Go rows m a b) (h2 : Go rows n b c) : Go rows (m + n) a c := by
 refine ⟨by rw [runs_add, h1.1, h2.1], ?_⟩
 rw [stp_add rows m n a h1.2, h1.1, h2.2]
theorem Go.one {rows : List Row} {a : RS} (h : a.at_ < rows.length) : Go rows 1 a (step1 rows a) := by
 refine ⟨by rw [runs_succ, if_pos h]; rfl, by rw [stp_succ, if_pos h]; rfl⟩
theorem Go.step {rows : List Row} {n : Nat} {a b c : RS} (h : a.at_ < rows.length) (e : step1 rows a = b) (g : Go rows n b c) : Go rows (n + 1) a c := by
 rw [Nat.add_comm]
 exact (Go.one h).add (e ▸ g)
theorem Go.zero {rows : List Row} {a : RS} : Go rows 0 a a := ⟨rfl, rfl⟩
theorem Go.end {rows : List Row} {n m : Nat} {a c : RS} (h : Go rows n a c) (e : ¬ c.at_ < rows.length) (hm : n ≤ m) : runs rows m a = c ∧ stp rows m a = n := by
 have h0 : ¬ (runs rows n a).at_ < rows.length := by rw [h.1]; exact e
 refine ⟨by rw [runs_halt h0 (by rw [h.2]; exact hm), h.1], ?_⟩
 have := stp_stop (n := m) h0
 have := stp_mono rows n m a hm
 rw [h.2] at *
 omega
noncomputable def tk1 (ts : List Int) (i : Nat) : List Int := ts.set i (ts[i]?.getD 0 + 1)
section
variable {rows : List Row} {gv tl bs ts : List Int} {h i : Nat}
theorem s_put {b n : Nat} (e : rAt rows i = .put b n) : step1 rows ⟨⟨gv, h, tl, bs⟩, ts, i⟩ = ⟨⟨gv, h, tl, bs.set b (n : Nat)⟩, tk1 ts i, i + 1⟩ := by
 unfold step1; simp only [e, carry, numFor, place, if_false, Bool.false_eq_true]; rfl
theorem s_two {u : _root_.Fin 3} {a b : Nat} (e : rAt rows i = .two u a b) : step1 rows ⟨⟨gv, h, tl, bs⟩, ts, i⟩ = ⟨⟨gv, h, tl, bs.set a (numFor ⟨gv, h, tl, bs⟩ (.two u a b)).1⟩, tk1 ts i, i + 1⟩ := by
 unfold step1; simp only [e, carry, place, if_false, Bool.false_eq_true]; rfl
theorem s_tell {b : Nat} (e : rAt rows i = .one 0 b) : step1 rows ⟨⟨gv, h, tl, bs⟩, ts, i⟩ = ⟨⟨gv, h, tl ++ [bAt bs b], bs⟩, tk1 ts i, i + 1⟩ := by
 unfold step1; simp only [e, carry, place, if_false, Bool.false_eq_true]; rfl
theorem s_hear {b : Nat} {x : Int} (e : rAt rows i = .one 1 b) (hx : gv[h]? = some x) : step1 rows ⟨⟨gv, h, tl, bs⟩, ts, i⟩ = ⟨⟨gv, h + 1, tl, bs.set b (x % 65536)⟩, tk1 ts i, i + 1⟩ := by
 unfold step1; simp only [e, carry, numFor, hearS, hx, place, if_false, Bool.false_eq_true]; rfl
theorem s_hear0 {b : Nat} (e : rAt rows i = .one 1 b) (hx : gv[h]? = none) : step1 rows ⟨⟨gv, h, tl, bs⟩, ts, i⟩ = ⟨⟨gv, h, tl, bs.set b 0⟩, tk1 ts i, i + 1⟩ := by
 unfold step1; simp only [e, carry, numFor, hearS, hx, place, if_false, Bool.false_eq_true]; rfl
theorem s_jump {t : Nat} (e : rAt rows i = .jump t) : step1 rows ⟨⟨gv, h, tl, bs⟩, ts, i⟩ = ⟨⟨gv, h, tl, bs⟩, tk1 ts i, t⟩ := by
 unfold step1; simp only [e, carry, place, goalR, if_true]; rfl
theorem s_zero {b t : Nat} (e : rAt rows i = .zero b t) (hz : bAt bs b = 0) : step1 rows ⟨⟨gv, h, tl, bs⟩, ts, i⟩ = ⟨⟨gv, h, tl, bs⟩, tk1 ts i, t⟩ := by
 unfold step1; simp only [e, carry, place, goalR, hz, decide_true, if_true]; rfl
theorem s_nz {b t : Nat} (e : rAt rows i = .zero b t) (hz : bAt bs b ≠ 0) : step1 rows ⟨⟨gv, h, tl, bs⟩, ts, i⟩ = ⟨⟨gv, h, tl, bs⟩, tk1 ts i, i + 1⟩ := by
 unfold step1; simp only [e, carry, place, goalR, decide_eq_false hz, if_false, Bool.false_eq_true]; rfl
theorem s_halt (e : rAt rows i = .halt) : step1 rows ⟨⟨gv, h, tl, bs⟩, ts, i⟩ = ⟨⟨gv, h, tl, bs⟩, tk1 ts i, rows.length⟩ := by
 unfold step1; simp only [e, carry, place]; rfl
end
theorem bAt_set {bs : List Int} {a : Nat} {x : Int} (b : Nat) (h : a < bs.length) : bAt (bs.set a x) b = if a = b then x else bAt bs b := by
 unfold bAt
 rw [List.getElem?_set]
 by_cases e : a = b
 ·subst e; rw [if_pos rfl, if_pos h, if_pos rfl]; rfl
 ·rw [if_neg e, if_neg e]
theorem n_add {gv tl bs : List Int} {h a b : Nat} : (numFor ⟨gv, h, tl, bs⟩ (.two 0 a b)).1 = (bAt bs a + bAt bs b) % 65536 := rfl
theorem n_sub {gv tl bs : List Int} {h a b : Nat} : (numFor ⟨gv, h, tl, bs⟩ (.two 1 a b)).1 = (bAt bs a - bAt bs b) % 65536 := rfl
noncomputable def rProd (a b c d : Nat) : List Row := [.one 1 a, .one 1 b, .put c 0, .put d 1, .zero b 8, .two 0 c a, .two 1 b d, .jump 4, .one 0 c, .halt]
theorem prod_loop {a b c d : Nat} (ha : a < 8) (hb : b < 8) (hc : c < 8) (hd : d < 8) (n1 : a ≠ b) (n2 : a ≠ c) (n3 : a ≠ d) (n4 : b ≠ c) (n5 : b ≠ d) (n6 : c ≠ d) (gv tl : List Int) (h : Nat) (x : Int) : ∀ (k j : Nat) (bs : List Int), bs.length = 8 → k ≤ 60000 → bAt bs a = x % 65536 → bAt bs b = k → bAt bs c = x * j % 65536 → bAt bs d = 1 →
  ∃ bs', Go (rProd a b c d) (4 * k + 3) ⟨⟨gv, h, tl, bs⟩, [1, 1, 1, 1, j, j, j, j, 0, 0], 4⟩ ⟨⟨gv, h, tl ++ [x * (j + k : Nat) % 65536], bs'⟩, [1, 1, 1, 1, (j + k : Nat) + 1, (j + k : Nat), (j + k : Nat), (j + k : Nat), 1, 1], 10⟩
 | 0, j, bs, hl, hk, ea, eb, ec, ed => by
  refine ⟨bs, ?_⟩
  refine Go.step (by show 4 < 10; decide) (s_zero rfl eb) ?_
  refine Go.step (by show 8 < 10; decide) (s_tell rfl) ?_
  refine Go.step (by show 9 < 10; decide) (s_halt rfl) ?_
  rw [ec]
  exact Go.zero
 | k + 1, j, bs, hl, hk, ea, eb, ec, ed => by
  have hz : bAt bs b ≠ 0 := by rw [eb]; omega
  have e1 : bAt (bs.set c ((bAt bs c + bAt bs a) % 65536)) b = (k + 1 : Nat) := by rw [bAt_set _ (by omega), if_neg n4.symm, eb]
  have e2 : bAt (bs.set c ((bAt bs c + bAt bs a) % 65536)) d = 1 := by rw [bAt_set _ (by omega), if_neg n6, ed]
  obtain ⟨bs2, hbs2⟩ : ∃ bs2, bs2 = (bs.set c ((bAt bs c + bAt bs a) % 65536)).set b (((k + 1 : Nat) - 1 : Int) % 65536) := ⟨_, rfl⟩
  have hl1 : (bs.set c ((bAt bs c + bAt bs a) % 65536)).length = 8 := by rw [List.length_set]; exact hl
  obtain ⟨bs', ih⟩ := prod_loop ha hb hc hd n1 n2 n3 n4 n5 n6 gv tl h x k (j + 1) bs2 (by rw [hbs2, List.length_set, hl1]) (by omega)
   (by rw [hbs2, bAt_set _ (by omega), if_neg n1.symm, bAt_set _ (by omega), if_neg n2.symm, ea])
   (by rw [hbs2, bAt_set _ (by omega), if_pos rfl]; omega)
   (by
    rw [hbs2, bAt_set _ (by omega), if_neg n4, bAt_set _ (by omega), if_pos rfl, ec, ea]
    rw [← Int.add_emod, Int.natCast_add, Int.mul_add]
    show _ = (x * (j : Int) + x * 1) % 65536
    rw [Int.mul_one])
   (by rw [hbs2, bAt_set _ (by omega), if_neg n5, bAt_set _ (by omega), if_neg n6, ed])
  refine ⟨bs', ?_⟩
  rw [show 4 * (k + 1) + 3 = 4 * k + 3 + 1 + 1 + 1 + 1 by omega]
  refine Go.step (by show 4 < 10; decide) (s_nz rfl hz) ?_
  refine Go.step (by show 5 < 10; decide) (s_two rfl) ?_
  refine Go.step (by show 6 < 10; decide) (s_two rfl) ?_
  refine Go.step (by show 7 < 10; decide) (s_jump rfl) ?_
  rw [n_sub, n_add, e1, e2, ← hbs2]
  rw [show j + 1 + k = j + (k + 1) by omega] at ih
  exact ih
theorem prod_run {a b c d : Nat} (ha : a < 8) (hb : b < 8) (hc : c < 8) (hd : d < 8) (n1 : a ≠ b) (n2 : a ≠ c) (n3 : a ≠ d) (n4 : b ≠ c) (n5 : b ≠ d) (n6 : c ≠ d) (x y : Int) (k : Nat) (hk : k ≤ 60000) (ey : y % 65536 = k) :
  ∃ c', Go (rProd a b c d) (4 * k + 7) (rs0 (rProd a b c d) [x, y]) c' ∧ c'.at_ = 10 ∧ c'.st.told = [x * k % 65536] ∧ c'.turns = [1, 1, 1, 1, (k : Int) + 1, (k : Int), (k : Int), (k : Int), 1, 1] := by
 obtain ⟨b1, h1⟩ : ∃ b1, b1 = ((([0, 0, 0, 0, 0, 0, 0, 0] : List Int).set a (x % 65536)).set b (y % 65536)).set c 0 := ⟨_, rfl⟩
 have l1 : b1.length = 8 := by rw [h1, List.length_set, List.length_set, List.length_set]; rfl
 obtain ⟨bs', g⟩ := prod_loop ha hb hc hd n1 n2 n3 n4 n5 n6 [x, y] [] 2 x k 0 (b1.set d 1) (by rw [List.length_set]; exact l1) hk
  (by rw [bAt_set _ (by omega), if_neg n3.symm, h1, bAt_set _ (by simp; omega), if_neg n2.symm, bAt_set _ (by simp; omega), if_neg n1.symm, bAt_set _ (by simp; omega), if_pos rfl])
  (by rw [bAt_set _ (by omega), if_neg n5.symm, h1, bAt_set _ (by simp; omega), if_neg n4.symm, bAt_set _ (by simp; omega), if_pos rfl, ey])
  (by rw [bAt_set _ (by omega), if_neg n6.symm, h1, bAt_set _ (by simp; omega), if_pos rfl]; simp)
  (by rw [bAt_set _ (by omega), if_pos rfl])
 rw [Nat.zero_add] at g
 have G : Go (rProd a b c d) (4 * k + 7) (rs0 (rProd a b c d) [x, y]) ⟨⟨[x, y], 2, [] ++ [x * (k : Nat) % 65536], bs'⟩, [1, 1, 1, 1, (k : Nat) + 1, (k : Nat), (k : Nat), (k : Nat), 1, 1], 10⟩ := by
  rw [show 4 * k + 7 = 4 * k + 3 + 1 + 1 + 1 + 1 by omega]
  refine Go.step (by show 0 < 10; decide) (s_hear (x := x) rfl rfl) ?_
  refine Go.step (by show 1 < 10; decide) (s_hear (x := y) rfl rfl) ?_
  refine Go.step (by show 2 < 10; decide) (s_put rfl) ?_
  refine Go.step (by show 3 < 10; decide) (s_put rfl) ?_
  rw [h1] at g
  exact g
 exact ⟨_, G, rfl, rfl, rfl⟩
noncomputable def rSumm (a b c d : Nat) : List Row := [.put d 1, .one 1 a, .zero a 6, .two 0 b a, .two 0 c d, .jump 1, .one 0 b, .one 0 c, .halt]
theorem sum_loop {a b c d : Nat} (ha : a < 8) (hb : b < 8) (hc : c < 8) (hd : d < 8) (n1 : a ≠ b) (n2 : a ≠ c) (n3 : a ≠ d) (n4 : b ≠ c) (n5 : b ≠ d) (n6 : c ≠ d) (gv : List Int) : ∀ (xs ys : List Int) (bs : List Int), gv = ys ++ xs → (∀ x ∈ xs, 0 < x ∧ x < 65536) → gv.length ≤ 60000 → bs.length = 8 → bAt bs b = ys.sum % 65536 → bAt bs c = (ys.length : Nat) → bAt bs d = 1 →
  ∃ bs', Go (rSumm a b c d) (5 * xs.length + 5) ⟨⟨gv, ys.length, [], bs⟩, [1, (ys.length : Nat), (ys.length : Nat), (ys.length : Nat), (ys.length : Nat), (ys.length : Nat), 0, 0, 0], 1⟩ ⟨⟨gv, gv.length, [gv.sum % 65536, (gv.length : Nat)], bs'⟩, [1, (gv.length : Nat) + 1, (gv.length : Nat) + 1, (gv.length : Nat), (gv.length : Nat), (gv.length : Nat), 1, 1, 1], 9⟩
 | [], ys, bs, eg, hx, hg, hl, eb, ec, ed => by
  rw [List.append_nil] at eg
  subst eg
  have e1 : bAt (bs.set a 0) a = 0 := by rw [bAt_set _ (by omega), if_pos rfl]
  refine ⟨bs.set a 0, ?_⟩
  refine Go.step (by show 1 < 9; decide) (s_hear0 rfl (List.getElem?_eq_none (Nat.le_refl _))) ?_
  refine Go.step (by show 2 < 9; decide) (s_zero rfl e1) ?_
  refine Go.step (by show 6 < 9; decide) (s_tell rfl) ?_
  refine Go.step (by show 7 < 9; decide) (s_tell rfl) ?_
  refine Go.step (by show 8 < 9; decide) (s_halt rfl) ?_
  have e2 : bAt (bs.set a 0) b = gv.sum % 65536 := by rw [bAt_set _ (by omega), if_neg n1, eb]
  have e3 : bAt (bs.set a 0) c = (gv.length : Nat) := by rw [bAt_set _ (by omega), if_neg n2, ec]
  rw [e2, e3]
  exact Go.zero
 | x :: xs, ys, bs, eg, hx, hg, hl, eb, ec, ed => by
  obtain ⟨x0, x1⟩ := hx x List.mem_cons_self
  have hgl : ys.length + (xs.length + 1) = gv.length := by rw [eg]; simp
  obtain ⟨b1, h1⟩ : ∃ b1, b1 = bs.set a (x % 65536) := ⟨_, rfl⟩
  have l1 : b1.length = 8 := by rw [h1, List.length_set]; exact hl
  have ea : bAt b1 a = x := by rw [h1, bAt_set _ (by omega), if_pos rfl]; omega
  have hz : bAt b1 a ≠ 0 := by rw [ea]; omega
  have eb1 : bAt b1 b = ys.sum % 65536 := by rw [h1, bAt_set _ (by omega), if_neg n1, eb]
  obtain ⟨b2, h2⟩ : ∃ b2, b2 = b1.set b ((bAt b1 b + bAt b1 a) % 65536) := ⟨_, rfl⟩
  have l2 : b2.length = 8 := by rw [h2, List.length_set]; exact l1
  have ec2 : bAt b2 c = (ys.length : Nat) := by rw [h2, bAt_set _ (by omega), if_neg n4, h1, bAt_set _ (by omega), if_neg n2, ec]
  have ed2 : bAt b2 d = 1 := by rw [h2, bAt_set _ (by omega), if_neg n5, h1, bAt_set _ (by omega), if_neg n3, ed]
  obtain ⟨b3, h3⟩ : ∃ b3, b3 = b2.set c ((bAt b2 c + bAt b2 d) % 65536) := ⟨_, rfl⟩
  have ysl : (ys ++ [x]).length = ys.length + 1 := by simp
  obtain ⟨bs', ih⟩ := sum_loop ha hb hc hd n1 n2 n3 n4 n5 n6 gv xs (ys ++ [x]) b3 (by rw [eg]; simp) (fun z hz => hx z (List.mem_cons_of_mem _ hz)) hg (by rw [h3, List.length_set]; exact l2)
   (by
    rw [h3, bAt_set _ (by omega), if_neg n4.symm, h2, bAt_set _ (by omega), if_pos rfl, eb1, ea, List.sum_append]
    simp only [List.sum_cons, List.sum_nil]
    omega)
   (by rw [h3, bAt_set _ (by omega), if_pos rfl, ec2, ed2, ysl]; omega)
   (by rw [h3, bAt_set _ (by omega), if_neg n6, ed2])
  refine ⟨bs', ?_⟩
  rw [List.length_cons, show 5 * (xs.length + 1) + 5 = 5 * xs.length + 5 + 1 + 1 + 1 + 1 + 1 by omega]
  refine Go.step (by show 1 < 9; decide) (s_hear (x := x) rfl (by rw [eg, List.getElem?_append_right (Nat.le_refl _), Nat.sub_self]; rfl)) ?_
  rw [← h1]
  refine Go.step (by show 2 < 9; decide) (s_nz rfl hz) ?_
  refine Go.step (by show 3 < 9; decide) (s_two rfl) ?_
  rw [n_add, ← h2]
  refine Go.step (by show 4 < 9; decide) (s_two rfl) ?_
  rw [n_add, ← h3]
  refine Go.step (by show 5 < 9; decide) (s_jump rfl) ?_
  rw [ysl] at ih
  exact ih
theorem sum_prog {a b c d : Nat} (ha : a < 8) (hb : b < 8) (hc : c < 8) (hd : d < 8) (n1 : a ≠ b) (n2 : a ≠ c) (n3 : a ≠ d) (n4 : b ≠ c) (n5 : b ≠ d) (n6 : c ≠ d) (gv : List Int) (hx : ∀ x ∈ gv, 0 < x ∧ x < 65536) (hg : gv.length ≤ 60000) :
  ∃ c', Go (rSumm a b c d) (5 * gv.length + 6) (rs0 (rSumm a b c d) gv) c' ∧ c'.at_ = 9 ∧ c'.st.told = [gv.sum % 65536, (gv.length : Nat)] ∧ c'.turns = [1, (gv.length : Int) + 1, (gv.length : Int) + 1, (gv.length : Int), (gv.length : Int), (gv.length : Int), 1, 1, 1] := by
 have z8 : ∀ k, k < 8 → bAt [0, 0, 0, 0, 0, 0, 0, 0] k = 0 := by decide
 obtain ⟨bs', g⟩ := sum_loop ha hb hc hd n1 n2 n3 n4 n5 n6 gv gv [] (([0, 0, 0, 0, 0, 0, 0, 0] : List Int).set d 1) rfl hx hg (by rw [List.length_set]; rfl)
  (by rw [bAt_set _ (by exact hd), if_neg n5.symm, z8 _ hb]; rfl) (by rw [bAt_set _ (by exact hd), if_neg n6.symm, z8 _ hc]; rfl) (by rw [bAt_set _ (by exact hd), if_pos rfl])
 have G : Go (rSumm a b c d) (5 * gv.length + 6) (rs0 (rSumm a b c d) gv) ⟨⟨gv, gv.length, [gv.sum % 65536, (gv.length : Nat)], bs'⟩, [1, (gv.length : Nat) + 1, (gv.length : Nat) + 1, (gv.length : Nat), (gv.length : Nat), (gv.length : Nat), 1, 1, 1], 9⟩ := by
  rw [show 5 * gv.length + 6 = 5 * gv.length + 5 + 1 by omega]
  refine Go.step (by show 0 < 9; decide) (s_put rfl) ?_
  exact g
 exact ⟨_, G, rfl, rfl, rfl⟩
noncomputable def rDbl (a b c x n : Nat) : List Row := [.put a x, .put b n, .put c 1, .zero b 7, .two 0 a a, .two 1 b c, .jump 3, .one 0 a, .halt]
theorem dbl_loop {a b c : Nat} (ha : a < 8) (hb : b < 8) (hc : c < 8) (n1 : a ≠ b) (n2 : a ≠ c) (n4 : b ≠ c) (x n : Nat) : ∀ (k j : Nat) (bs : List Int), bs.length = 8 → k ≤ 60000 → bAt bs a = (x * 2 ^ j : Nat) % 65536 → bAt bs b = k → bAt bs c = 1 →
  ∃ bs', Go (rDbl a b c x n) (4 * k + 3) ⟨⟨[], 0, [], bs⟩, [1, 1, 1, j, j, j, j, 0, 0], 3⟩ ⟨⟨[], 0, [((x * 2 ^ (j + k) : Nat) : Int) % 65536], bs'⟩, [1, 1, 1, (j + k : Nat) + 1, (j + k : Nat), (j + k : Nat), (j + k : Nat), 1, 1], 9⟩
 | 0, j, bs, hl, hk, ea, eb, ec => by
  refine ⟨bs, ?_⟩
  refine Go.step (by show 3 < 9; decide) (s_zero rfl eb) ?_
  refine Go.step (by show 7 < 9; decide) (s_tell rfl) ?_
  refine Go.step (by show 8 < 9; decide) (s_halt rfl) ?_
  rw [ea]
  exact Go.zero
 | k + 1, j, bs, hl, hk, ea, eb, ec => by
  have hz : bAt bs b ≠ 0 := by rw [eb]; omega
  obtain ⟨b1, h1⟩ : ∃ b1, b1 = bs.set a ((bAt bs a + bAt bs a) % 65536) := ⟨_, rfl⟩
  have l1 : b1.length = 8 := by rw [h1, List.length_set]; exact hl
  have e1 : bAt b1 b = (k + 1 : Nat) := by rw [h1, bAt_set _ (by omega), if_neg n1, eb]
  have e2 : bAt b1 c = 1 := by rw [h1, bAt_set _ (by omega), if_neg n2, ec]
  obtain ⟨b2, h2⟩ : ∃ b2, b2 = b1.set b (((k + 1 : Nat) - 1 : Int) % 65536) := ⟨_, rfl⟩
  obtain ⟨bs', ih⟩ := dbl_loop ha hb hc n1 n2 n4 x n k (j + 1) b2 (by rw [h2, List.length_set, l1]) (by omega)
   (by
    rw [h2, bAt_set _ (by omega), if_neg n1.symm, h1, bAt_set _ (by omega), if_pos rfl, ea]
    have : x * 2 ^ (j + 1) = x * 2 ^ j + x * 2 ^ j := by rw [Nat.pow_succ, ← Nat.mul_assoc]; omega
    rw [this]
    omega)
   (by rw [h2, bAt_set _ (by omega), if_pos rfl]; omega)
   (by rw [h2, bAt_set _ (by omega), if_neg n4, e2])
  refine ⟨bs', ?_⟩
  rw [show 4 * (k + 1) + 3 = 4 * k + 3 + 1 + 1 + 1 + 1 by omega]
  refine Go.step (by show 3 < 9; decide) (s_nz rfl hz) ?_
  refine Go.step (by show 4 < 9; decide) (s_two rfl) ?_
  rw [n_add, ← h1]
  refine Go.step (by show 5 < 9; decide) (s_two rfl) ?_
  rw [n_sub, e1, e2, ← h2]
  refine Go.step (by show 6 < 9; decide) (s_jump rfl) ?_
  rw [show j + 1 + k = j + (k + 1) by omega] at ih
  exact ih
theorem dbl_run {a b c : Nat} (ha : a < 8) (hb : b < 8) (hc : c < 8) (n1 : a ≠ b) (n2 : a ≠ c) (n4 : b ≠ c) (x k : Nat) (hx : x < 65536) (hk : k ≤ 60000) :
  ∃ c', Go (rDbl a b c x k) (4 * k + 6) (rs0 (rDbl a b c x k) []) c' ∧ c'.at_ = 9 ∧ c'.st.told = [((x * 2 ^ k : Nat) : Int) % 65536] ∧ c'.turns = [1, 1, 1, (k : Int) + 1, (k : Int), (k : Int), (k : Int), 1, 1] := by
 obtain ⟨b1, h1⟩ : ∃ b1, b1 = ((([0, 0, 0, 0, 0, 0, 0, 0] : List Int).set a (x : Nat)).set b (k : Nat)).set c 1 := ⟨_, rfl⟩
 obtain ⟨bs', g⟩ := dbl_loop ha hb hc n1 n2 n4 x k k 0 b1 (by rw [h1, List.length_set, List.length_set, List.length_set]; rfl) hk
  (by rw [h1, bAt_set _ (by simp; omega), if_neg n2.symm, bAt_set _ (by simp; omega), if_neg n1.symm, bAt_set _ (by simp; omega), if_pos rfl, Nat.pow_zero, Nat.mul_one]; omega)
  (by rw [h1, bAt_set _ (by simp; omega), if_neg n4.symm, bAt_set _ (by simp; omega), if_pos rfl])
  (by rw [h1, bAt_set _ (by simp; omega), if_pos rfl])
 rw [Nat.zero_add] at g
 have G : Go (rDbl a b c x k) (4 * k + 6) (rs0 (rDbl a b c x k) []) ⟨⟨[], 0, [((x * 2 ^ k : Nat) : Int) % 65536], bs'⟩, [1, 1, 1, (k : Nat) + 1, (k : Nat), (k : Nat), (k : Nat), 1, 1], 9⟩ := by
  rw [show 4 * k + 6 = 4 * k + 3 + 1 + 1 + 1 by omega]
  refine Go.step (by show 0 < 9; decide) (s_put rfl) ?_
  refine Go.step (by show 1 < 9; decide) (s_put rfl) ?_
  refine Go.step (by show 2 < 9; decide) (s_put rfl) ?_
  rw [h1] at g
  exact g
 exact ⟨_, G, rfl, rfl, rfl⟩
noncomputable def rOff (a b c x y : Nat) : List Row := [.put a x, .put b y, .zero a 6, .two 1 a b, .two 0 c b, .jump 2, .one 0 c, .one 0 a, .halt]
theorem odd_nz {y k : Nat} (hy : y % 2 = 1) (h0 : 0 < k) (h1 : k < 65536) : (y * k) % 65536 ≠ 0 := by
 intro h
 have hd : 65536 ∣ y * k := Nat.dvd_of_mod_eq_zero h
 have hc : Nat.Coprime 65536 y := by
  have : Nat.Coprime 2 y := by
   rw [Nat.coprime_comm]
   unfold Nat.Coprime
   rw [Nat.gcd_comm]
   have := Nat.gcd_rec 2 y
   rw [this, hy]
   rfl
  exact Nat.Coprime.pow_left 16 this
 have := Nat.le_of_dvd h0 (hc.dvd_of_dvd_mul_left hd)
 omega
theorem off_loop {a b c : Nat} (ha : a < 8) (hb : b < 8) (hc : c < 8) (n1 : a ≠ b) (n2 : a ≠ c) (n4 : b ≠ c) (x y : Nat) (hy : y % 2 = 1) : ∀ (k j : Nat) (bs : List Int), bs.length = 8 → k < 60000 → bAt bs a = ((y * k : Nat) : Int) % 65536 → bAt bs b = y → bAt bs c = ((y * j : Nat) : Int) % 65536 →
  ∃ bs', Go (rOff a b c x y) (4 * k + 4) ⟨⟨[], 0, [], bs⟩, [1, 1, j, j, j, j, 0, 0, 0], 2⟩ ⟨⟨[], 0, [((y * (j + k) : Nat) : Int) % 65536, 0], bs'⟩, [1, 1, (j + k : Nat) + 1, (j + k : Nat), (j + k : Nat), (j + k : Nat), 1, 1, 1], 9⟩
 | 0, j, bs, hl, hk, ea, eb, ec => by
  have ea0 : bAt bs a = 0 := by rw [ea]; rfl
  refine ⟨bs, ?_⟩
  refine Go.step (by show 2 < 9; decide) (s_zero rfl ea0) ?_
  refine Go.step (by show 6 < 9; decide) (s_tell rfl) ?_
  refine Go.step (by show 7 < 9; decide) (s_tell rfl) ?_
  refine Go.step (by show 8 < 9; decide) (s_halt rfl) ?_
  rw [ea0, ec]
  exact Go.zero
 | k + 1, j, bs, hl, hk, ea, eb, ec => by
  have hz : bAt bs a ≠ 0 := by
   rw [ea]
   have := odd_nz hy (show 0 < k + 1 by omega) (by omega)
   omega
  obtain ⟨b1, h1⟩ : ∃ b1, b1 = bs.set a ((bAt bs a - bAt bs b) % 65536) := ⟨_, rfl⟩
  have l1 : b1.length = 8 := by rw [h1, List.length_set]; exact hl
  have e1 : bAt b1 b = y := by rw [h1, bAt_set _ (by omega), if_neg n1, eb]
  have e2 : bAt b1 c = ((y * j : Nat) : Int) % 65536 := by rw [h1, bAt_set _ (by omega), if_neg n2, ec]
  obtain ⟨b2, h2⟩ : ∃ b2, b2 = b1.set c ((bAt b1 c + bAt b1 b) % 65536) := ⟨_, rfl⟩
  obtain ⟨bs', ih⟩ := off_loop ha hb hc n1 n2 n4 x y hy k (j + 1) b2 (by rw [h2, List.length_set, l1]) (by omega)
   (by
    rw [h2, bAt_set _ (by omega), if_neg n2.symm, h1, bAt_set _ (by omega), if_pos rfl, ea, eb]
    have : y * (k + 1) = y * k + y := Nat.mul_succ _ _
    rw [this]
    omega)
   (by rw [h2, bAt_set _ (by omega), if_neg n4.symm, e1])
   (by
    rw [h2, bAt_set _ (by omega), if_pos rfl, e2, e1]
    have : y * (j + 1) = y * j + y := Nat.mul_succ _ _
    rw [this]
    omega)
  refine ⟨bs', ?_⟩
  rw [show 4 * (k + 1) + 4 = 4 * k + 4 + 1 + 1 + 1 + 1 by omega]
  refine Go.step (by show 2 < 9; decide) (s_nz rfl hz) ?_
  refine Go.step (by show 3 < 9; decide) (s_two rfl) ?_
  rw [n_sub, ← h1]
  refine Go.step (by show 4 < 9; decide) (s_two rfl) ?_
  rw [n_add, ← h2]
  refine Go.step (by show 5 < 9; decide) (s_jump rfl) ?_
  rw [show j + 1 + k = j + (k + 1) by omega] at ih
  exact ih
theorem off_run {a b c : Nat} (ha : a < 8) (hb : b < 8) (hc : c < 8) (n1 : a ≠ b) (n2 : a ≠ c) (n4 : b ≠ c) (y k : Nat) (hy : y % 2 = 1) (hk : k < 60000) :
  ∃ c', Go (rOff a b c (y * k % 65536) y) (4 * k + 6) (rs0 (rOff a b c (y * k % 65536) y) []) c' ∧ c'.at_ = 9 ∧ c'.st.told = [((y * k : Nat) : Int) % 65536, 0] ∧ c'.turns = [1, 1, (k : Int) + 1, (k : Int), (k : Int), (k : Int), 1, 1, 1] := by
 have z8 : ∀ k, k < 8 → bAt [0, 0, 0, 0, 0, 0, 0, 0] k = 0 := by decide
 obtain ⟨b1, h1⟩ : ∃ b1, b1 = (([0, 0, 0, 0, 0, 0, 0, 0] : List Int).set a ((y * k % 65536 : Nat) : Int)).set b (y : Nat) := ⟨_, rfl⟩
 obtain ⟨bs', g⟩ := off_loop ha hb hc n1 n2 n4 (y * k % 65536) y hy k 0 b1 (by rw [h1, List.length_set, List.length_set]; rfl) hk
  (by rw [h1, bAt_set _ (by simp; omega), if_neg n1.symm, bAt_set _ (by simp; omega), if_pos rfl]; omega)
  (by rw [h1, bAt_set _ (by simp; omega), if_pos rfl])
  (by rw [h1, bAt_set _ (by simp; omega), if_neg n4, bAt_set _ (by simp; omega), if_neg n2, z8 _ hc, Nat.mul_zero]; rfl)
 rw [Nat.zero_add] at g
 have G : Go (rOff a b c (y * k % 65536) y) (4 * k + 6) (rs0 (rOff a b c (y * k % 65536) y) []) ⟨⟨[], 0, [((y * k : Nat) : Int) % 65536, 0], bs'⟩, [1, 1, (k : Nat) + 1, (k : Nat), (k : Nat), (k : Nat), 1, 1, 1], 9⟩ := by
  rw [show 4 * k + 6 = 4 * k + 4 + 1 + 1 by omega]
  refine Go.step (by show 0 < 9; decide) (s_put rfl) ?_
  refine Go.step (by show 1 < 9; decide) (s_put rfl) ?_
  rw [h1] at g
  exact g
 exact ⟨_, G, rfl, rfl, rfl⟩
noncomputable def Row.mov (k : Nat) : Row → Row
 | .jump g => .jump (g + k)
 | .zero b g => .zero b (g + k)
 | r => r
theorem mov_carry (st : MSt) (r : Row) (k : Nat) : carry st (r.mov k) = carry st r := by
 cases r with
 | one u b => rcases fin2 u with rfl | rfl <;> rfl
 | _ => rfl
noncomputable def closedB (rows : List Row) : Bool := (List.range rows.length).all fun i => match rAt rows i with
 | .halt => true
 | r => decide (i + 1 < rows.length) && decide ((goalR r).getD 0 < rows.length)
theorem closed_at {rows : List Row} (h : closedB rows = true) {i : Nat} (hi : i < rows.length) : rAt rows i = .halt ∨ (i + 1 < rows.length ∧ (goalR (rAt rows i)).getD 0 < rows.length) := by
 have := List.all_eq_true.mp h i (by simpa using hi)
 cases hr : rAt rows i with
 | halt => exact .inl rfl
 | put b n => rw [hr] at this; simpa using this
 | two u a b => rw [hr] at this; simpa using this
 | one u b => rw [hr] at this; simpa using this
 | jump g => rw [hr] at this; simpa using this
 | zero b g => rw [hr] at this; simpa using this
theorem mov_place6 (st : MSt) (r : Row) (k : Nat) (a n m : Int) (hr : r ≠ .halt) : place st (r.mov k) (a + k) m = place st r a n + k := by
 cases r with
 | halt => exact absurd rfl hr
 | put b n => simp only [place, Row.mov, carry, if_false, Bool.false_eq_true]
 | two u x y => simp only [place, Row.mov, carry, if_false, Bool.false_eq_true]
 | one u x => rcases fin2 u with rfl | rfl <;> simp only [place, Row.mov, carry, if_false, Bool.false_eq_true]
 | jump g => simp only [place, Row.mov, carry, goalR, if_true, Option.getD_some]; omega
 | zero x g =>
  simp only [place, Row.mov, carry, goalR, Option.getD_some, decide_eq_true_eq]
  by_cases z : bAt st.bs x = 0
  ·rw [if_pos z, if_pos z]; omega
  ·rw [if_neg z, if_neg z]
structure Sur (rows : List Row) (k m : Nat) (pre post : List Int) (c d : RS) : Prop where
 st : d.st = c.st
 tn : d.turns = pre ++ c.turns ++ post
 ln : c.turns.length = rows.length
 at' : (c.at_ < rows.length ∧ d.at_ = c.at_ + k) ∨ (c.at_ = rows.length ∧ d.at_ = m)
theorem sur_step {rows L : List Row} {k : Nat} {pre post : List Int} {c d : RS} (cl : closedB rows = true) (hat : ∀ i, i < rows.length → rAt L (i + k) = (rAt rows i).mov k) (hp : pre.length = k) (S : Sur rows k L.length pre post c d) (z : c.at_ < rows.length) : Sur rows k L.length pre post (step1 rows c) (step1 L d) := by
 obtain ⟨h1, h2⟩ | h := S.at'
 rotate_left
 ·omega
 have hz : c.at_ < c.turns.length := by rw [S.ln]; exact z
 unfold step1
 rw [S.st, S.tn, h2, hat _ z, mov_carry]
 refine ⟨rfl, ?_, by rw [List.length_set]; exact S.ln, ?_⟩
 ·show (pre ++ c.turns ++ post).set (c.at_ + k) ((pre ++ c.turns ++ post)[c.at_ + k]?.getD 0 + 1) = _
  rw [List.append_assoc, List.set_append_right _ _ (by omega), List.getElem?_append_right (by omega), hp, Nat.add_sub_cancel, List.set_append_left _ _ hz, List.getElem?_append_left hz, ← List.append_assoc]
 ·show ((place c.st (rAt rows c.at_) ((c.at_ : Int) + 1) rows.length).toNat < rows.length ∧ (place c.st ((rAt rows c.at_).mov k) (((c.at_ + k : Nat) : Int) + 1) L.length).toNat = (place c.st (rAt rows c.at_) ((c.at_ : Int) + 1) rows.length).toNat + k) ∨ ((place c.st (rAt rows c.at_) ((c.at_ : Int) + 1) rows.length).toNat = rows.length ∧ (place c.st ((rAt rows c.at_).mov k) (((c.at_ + k : Nat) : Int) + 1) L.length).toNat = L.length)
  rcases closed_at cl z with hh | ⟨g1, g2⟩
  ·rw [hh]
   exact .inr ⟨by show ((rows.length : Nat) : Int).toNat = _; omega, by show ((L.length : Nat) : Int).toNat = _; omega⟩
  ·by_cases hh : rAt rows c.at_ = .halt
   ·rw [hh]
    exact .inr ⟨by show ((rows.length : Nat) : Int).toNat = _; omega, by show ((L.length : Nat) : Int).toNat = _; omega⟩
   ·have e := mov_place6 c.st (rAt rows c.at_) k ((c.at_ : Int) + 1) rows.length L.length hh
    rw [show (((c.at_ + k : Nat) : Int) + 1) = ((c.at_ : Int) + 1) + (k : Int) by omega, e]
    have ep : place c.st (rAt rows c.at_) ((c.at_ : Int) + 1) rows.length = if (carry c.st (rAt rows c.at_)).1 = true then (((goalR (rAt rows c.at_)).getD 0 : Nat) : Int) else (c.at_ : Int) + 1 := by
     cases h : rAt rows c.at_ <;> first | rfl | exact absurd h hh
    rw [ep]
    refine .inl ⟨?_, ?_⟩
    ·split <;> omega
    ·split <;> omega
theorem sur_go {rows L : List Row} {k : Nat} {pre post : List Int} (cl : closedB rows = true) (hat : ∀ i, i < rows.length → rAt L (i + k) = (rAt rows i).mov k) (hp : pre.length = k) (hL : rows.length + k ≤ L.length) : ∀ (n : Nat) {c c2 d : RS}, Sur rows k L.length pre post c d → Go rows n c c2 → ∃ d2, Go L n d d2 ∧ Sur rows k L.length pre post c2 d2
 | 0, c, c2, d, S, g => by
  have : c = c2 := g.1
  subst this
  exact ⟨d, Go.zero, S⟩
 | n + 1, c, c2, d, S, g => by
  obtain ⟨g1, g2⟩ := g
  rw [stp_succ] at g2
  rw [runs_succ] at g1
  split at g2
  ·rename_i z
   rw [if_pos z] at g1
   obtain ⟨d2, h1, h2⟩ := sur_go cl hat hp hL n (sur_step cl hat hp S z) ⟨g1, by omega⟩
   refine ⟨d2, Go.step ?_ rfl h1, h2⟩
   obtain ⟨_, h⟩ | h := S.at' <;> omega
  ·omega
theorem set_run {rows sk bh : List Row} (cl : closedB rows = true) (hne : 0 < rows.length) {g : List Int} {n : Nat} {c : RS} (G : Go rows n (rs0 rows g) c) (he : c.at_ = rows.length) :
  ∃ d, Go (.jump (1 + sk.length) :: sk ++ rows.map (Row.mov (1 + sk.length)) ++ bh) (n + 1) (rs0 (.jump (1 + sk.length) :: sk ++ rows.map (Row.mov (1 + sk.length)) ++ bh) g) d ∧ d.at_ = (.jump (1 + sk.length) :: sk ++ rows.map (Row.mov (1 + sk.length)) ++ bh).length ∧ d.st = c.st ∧ d.turns = 1 :: List.replicate sk.length 0 ++ c.turns ++ List.replicate bh.length 0 := by
 obtain ⟨L, hL⟩ : ∃ L : List Row, L = .jump (1 + sk.length) :: sk ++ rows.map (Row.mov (1 + sk.length)) ++ bh := ⟨_, rfl⟩
 have hlen : L.length = rows.length + (1 + sk.length) + bh.length := by rw [hL]; simp; omega
 have hat : ∀ i, i < rows.length → rAt L (i + (1 + sk.length)) = (rAt rows i).mov (1 + sk.length) := fun i hi => by
  rw [hL]
  unfold rAt
  rw [show i + (1 + sk.length) = (sk.length + i) + 1 by omega, List.cons_append, List.cons_append, List.getElem?_cons_succ, List.append_assoc, List.getElem?_append_right (by omega), show sk.length + i - sk.length = i by omega, List.getElem?_append_left (by rw [List.length_map]; exact hi), List.getElem?_map, List.getElem?_eq_getElem hi]
  rfl
 rw [← hL]
 have hs0 : step1 L (rs0 L g) = ⟨st0 g, 1 :: List.replicate sk.length 0 ++ rows.map (fun _ => 0) ++ List.replicate bh.length 0, 1 + sk.length⟩ := by
  have e0 : rAt L 0 = .jump (1 + sk.length) := by rw [hL]; rfl
  unfold step1
  show (⟨(carry (st0 g) (rAt L 0)).2, (L.map fun _ => (0 : Int)).set 0 ((L.map fun _ => (0 : Int))[0]?.getD 0 + 1), (place (st0 g) (rAt L 0) (((0 : Nat) : Int) + 1) L.length).toNat⟩ : RS) = _
  rw [e0]
  congr 1
  rw [hL]
  simp only [List.cons_append, List.map_cons, List.map_append, List.set_cons_zero, List.getElem?_cons_zero, Option.getD_some, List.map_map]
  rw [List.map_const', List.map_const' (l := bh)]
  rfl
 obtain ⟨d, h1, h2⟩ := sur_go (L := L) (pre := 1 :: List.replicate sk.length 0) (post := List.replicate bh.length 0) cl hat (by simp; omega) (by omega) n (c := rs0 rows g) (d := step1 L (rs0 L g)) (by rw [hs0]; exact ⟨rfl, rfl, List.length_map _, .inl ⟨hne, (by show 1 + sk.length = 0 + (1 + sk.length); omega)⟩⟩) G
 refine ⟨d, Go.step (by show 0 < L.length; omega) rfl h1, ?_, h2.st, h2.tn⟩
 obtain ⟨h, _⟩ | ⟨_, h⟩ := h2.at'
 ·omega
 ·exact h
theorem cl_prod (a b c d : Nat) : closedB (rProd a b c d) = true := rfl
theorem cl_summ (a b c d : Nat) : closedB (rSumm a b c d) = true := rfl
theorem cl_dbl (a b c x n : Nat) : closedB (rDbl a b c x n) = true := rfl
theorem cl_off (a b c x n : Nat) : closedB (rOff a b c x n) = true := rfl
theorem pT_snoc (rs : List Row) (r : Row) : pT rs ++ [r.t] = pT (rs ++ [r]) := by unfold pT; rw [List.map_append]; rfl
theorem mov_ps (r : Row) (k : Nat) : (Y.inF (.str r.wd) [.str "jump", .str "zero"] = false ∧ r.mov k = r) ∨ (Y.inF (.str r.wd) [.str "jump", .str "zero"] = true ∧ ∃ (xs : List L2.T) (g : Nat), r.ps.map Prt.t = xs ++ [.int (g : Nat)] ∧ (r.mov k).ps.map Prt.t = xs ++ [.int ((g + k : Nat) : Int)] ∧ xs.length ≤ 2 ∧ xs.length ≠ 0) := by
 have i2 : ∀ u, Y.inF (.str (w2 u)) [.str "jump", .str "zero"] = false := by decide +kernel
 have i1 : ∀ u, Y.inF (.str (w1 u)) [.str "jump", .str "zero"] = false := by decide +kernel
 have i0 : Y.inF (.str "put") [.str "jump", .str "zero"] = false ∧ Y.inF (.str "halt") [.str "jump", .str "zero"] = false ∧ Y.inF (.str "jump") [.str "jump", .str "zero"] = true ∧ Y.inF (.str "zero") [.str "jump", .str "zero"] = true := by decide +kernel
 cases r with
 | put b n => exact .inl ⟨i0.1, rfl⟩
 | two u a b => exact .inl ⟨i2 u, rfl⟩
 | one u b => exact .inl ⟨i1 u, rfl⟩
 | jump g => exact .inr ⟨i0.2.2.1, [.str "jump"], g, rfl, rfl, Nat.le_of_ble_eq_true rfl, Nat.succ_ne_zero _⟩
 | zero b g => exact .inr ⟨i0.2.2.2, [.str "zero", .str (boxS b)], g, rfl, rfl, Nat.le_of_ble_eq_true rfl, Nat.succ_ne_zero _⟩
 | halt => exact .inl ⟨i0.2.1, rfl⟩
theorem cut_last (xs : List L2.T) (t : L2.T) (h : xs.length ≠ 0) : Y.cutG (xs ++ [t]) none (some (-1)) = xs := by
 unfold Y.cutG
 rw [HT.sIx_none, Nat.sub_zero, List.drop_zero]
 have e : HT.sIx (xs ++ [t]).length (xs ++ [t]).length (some (-1)) = xs.length := by
  unfold HT.sIx
  simp only [List.length_append, List.length_cons, List.length_nil]
  rw [if_pos (by decide)]
  omega
 rw [e, List.take_left]
theorem at_last (xs : List L2.T) (t : L2.T) : atI (xs ++ [t]) (-1) = some t := by
 unfold atI
 have e : ixN (xs ++ [t]).length (-1) = some xs.length := by
  unfold ixN
  simp only [List.length_append, List.length_cons, List.length_nil]
  rw [if_neg (by omega), if_pos (by omega)]
  congr 1
  omega
 rw [e]
 show (xs ++ [t])[xs.length]? = some t
 rw [List.getElem?_append_right (Nat.le_refl _), Nat.sub_self]; rfl
noncomputable def tMoved : TSp := fun args Q => ∃ (rows : List Row) (k : Nat), args = [.lst (pT rows), .int (k : Nat)] ∧ rows.length ≤ 1000 ∧ Q (.fr (.lst (pT (rows.map (Row.mov k))))) []
theorem ok_moved (T : Txt K mg) (F : HasFn K mg "_law_moved" s__law_moved ["rows", "ahead"]) : CallOk P w K mg base CX0 1 "_law_moved" ["rows", "ahead"] (spT K [false, false] tMoved) := by
 refine F.okT sc__law_moved [false, false] rfl (by decide) (fun args Qt hl h f cdv A outer s H E hr => ?_)
 have hu := hu_of hr
 obtain ⟨rows, m, rfl, hr1, q⟩ := h
 refine ⟨_, (Y.bcons (Y.set (i := 2) sc__law_moved.nd rfl (by walk_at "lc") (Y.lst Y.nil))
   (Y.bcons (Y.forS PassesOwn.never rfl (Y.anyS K rfl (Y.vS 0)) (Y.gname (i := 3) sc__law_moved.nd rfl (by walk_at "lc")) (Y.bcons (Y.ifS (Y.tcmp (Y.op_inG K rfl) Y.ro_in (Y.ix (Y.ix_G K rfl) Y.ro_ixS (Y.vS 3) Y.int) (Y.tup (Y.consts2 rfl rfl))) (Y.bone (Y.set (i := 3) sc__law_moved.nd rfl (by walk_at "lc") (Y.op (Y.op_addG K rfl) Y.ro_addS (Y.sliceS K rfl (Y.vS 3) Y.po0 (Y.po1 (Y.neg Y.int))) (Y.tup (Y.cons (Y.op (Y.op_addG K rfl) Y.ro_addS (Y.ix (Y.ix_G K rfl) Y.ro_ixS (Y.vS 3) (Y.neg Y.int)) (Y.vS 1)) Y.nil))))) Y.bnil)
   (Y.bone (Y.expr (Y.bm K rfl PySem.F.slot_list_append PySem.F.type_list_append mt_append Y.rm_append (Y.vS 2) (Y.cons (Y.vS 3) Y.nil))))))
   (Y.bone (Y.ret (Y.vS 2))))), ?_⟩
 refine seqT fun N hN => ?_
 walk_at "rt"
 rw [hN]; clear hN N
 refine seqT fun N hN => ?_
 walk_at "rt"
 refine for_ind (fun rest μ => ∃ (a b : List Row) (s3 : Option L2.T), rows = a ++ b ∧ rest = pT b ∧ μ = [.tr (.lst (pT rows)), .tr (.int (m : Nat)), .bx (.lst (pT (a.map (Row.mov m)))), sl s3]) ⟨[], rows, none, rfl, rfl, rfl⟩ ?_ ?_
 ·rintro μ ⟨a, b, s3, e, e2, rfl⟩
  have : b = [] := by simpa [pT] using e2.symm
  subst this
  rw [List.append_nil] at e
  subst e
  show N _
  rw [hN]; clear hN N
  walk_at "rt"
  exact q
 ·rintro t ts μ M ⟨a, b, s3, e, e2, rfl⟩ k
  cases b with
  | nil => cases e2
  | cons r b =>
   have e2' : t = r.t ∧ ts = pT b := by simpa [pT] using e2
   obtain ⟨rfl, rfl⟩ := e2'
   have hl := congrArg List.length e
   simp at hl
   have hz : (pT (a.map (Row.mov m))).length < sizeLine := by rw [pT_len, List.length_map]; exact Nat.lt_of_lt_of_le (show _ < 200000 by omega) szLine
   have fin : M [.tr (.lst (pT rows)), .tr (.int (m : Nat)), .bx (.lst (pT (a.map (Row.mov m)) ++ [(r.mov m).t])), .tr (r.mov m).t] := k _ ⟨a ++ [r], b, some _, by rw [e]; simp, rfl, by rw [pT_snoc, List.map_append]; rfl⟩
   unfold Row.t
   walk_at "rt"
   refine seqT fun M' hM => ?_
   rcases mov_ps r m with ⟨h1, h2⟩ | ⟨h1, xs, gg, h2, h3, h4, h5⟩
   ·rw [h2] at fin
    wp_walk using wd_at r, h1
    refine ⟨by decide, rfl, rfl, ?_⟩
    rw [hM]; clear hM M'
    walk_at "rt"
    exact ⟨hz, fin⟩
   ·wp_walk using wd_at r, h1
    refine ⟨by decide, rfl, rfl, ?_⟩
    rw [h2]
    wp_walk using cut_last xs _ h5, at_last
    refine ⟨by decide, Nat.le_trans (show _ ≤ 200000 by simp; omega) szLine, ?_⟩
    rw [hM]; clear hM M'
    walk_at "rt"
    unfold Row.t at fin
    rw [h3, show ((gg + m : Nat) : Int) = (gg : Int) + (m : Int) by omega] at fin
    exact ⟨hz, fin⟩
noncomputable def sT (ws : List Str) : List L2.T := ws.map L2.T.str
theorem sT_len (ws : List Str) : (sT ws).length = ws.length := by unfold sT; rw [List.length_map]
theorem erase_perm {α : Type} {l : List α} {i : Nat} (h : i < l.length) : (l[i] :: l.eraseIdx i).Perm l := by
 rw [List.eraseIdx_eq_take_drop_succ]
 refine List.perm_middle.symm.trans ?_
 rw [← List.drop_eq_getElem_cons h, List.take_append_drop]
theorem sT_erase (ws : List Str) (i : Nat) : (sT ws).eraseIdx i = sT (ws.eraseIdx i) := by
 unfold sT
 induction ws generalizing i with
 | nil => rfl
 | cons x ws ih => cases i with
  | zero => rfl
  | succ i => simp only [List.map_cons, List.eraseIdx_cons_succ, ih]
theorem sqI_in {n : Nat} {v : Int} (h0 : 0 ≤ v) (h1 : v < n) : seqIndex? v n = some v.toNat := by
 unfold seqIndex?
 simp; omega
noncomputable def bS (xs : List Nat) : List Str := xs.map boxS
theorem bx_signs : (Str.ofString "abcdefgh").cps.toList.map (fun c => (⟨#[c]⟩ : Str)) = bS (List.range 8) := by decide +kernel
noncomputable def tBoxes : TSp := fun args Q => ∃ (d : L2.T) (n : Nat), args = [d] ∧ Deck n d ∧ n < 2 ^ 40 ∧ ∀ (A : List Nat) (d' : L2.T), A.Perm (List.range 8) → Deck (n + 10) d' → Q (.fr (.lst (sT (bS A)))) [d']
theorem ok_boxesL (T : Txt K mg) (F : HasFn K mg "_law_boxes" s__law_boxes ["deck"]) (h_law_next : CallOk P w K mg base CX0 2 "_law_next" ["deck", "many"] (spT K [true, false] tNext)) : CallOk P w K mg base CX0 3 "_law_boxes" ["deck"] (spT K [true] tBoxes) := by
 refine F.okT sc__law_boxes [true] rfl (by decide) (fun args Qt hl h f cdv A outer s H E hr => ?_)
 have hu := hu_of hr
 obtain ⟨d, n, rfl, D, hn, q⟩ := h
 refine ⟨_, (Y.bcons (Y.set (i := 1) sc__law_boxes.nd rfl (by walk_at "lc") (Y.ct (Y.call_listS rfl) Y.rc_listS rfl T.b_list (by decide +kernel) (Y.cons Y.str Y.nil)))
   (Y.bone (Y.ret (Y.comp1 (osc := defScope s__law_boxes) (ON := ["deck", "left"]) (own := ["k"]) (N := ["k", "deck", "left"]) ⟨rfl, by decide +kernel, rfl, by decide +kernel, by decide +kernel, by decide +kernel, by decide +kernel, by decide +kernel⟩ rfl rfl rfl rfl (Y.rng1 rfl T.b_range (Y.cons Y.int Y.nil)) (fun _ _ _ _ => (Z.gname (i := 0) (show List.Nodup (["k", "deck", "left"] : List Str) by decide +kernel) rfl (by walk_at "lc"))) (fun _ _ _ _ => Y.ts0) (fun _ _ _ _ => (Y.bm K rfl PySem.F.slot_list_pop PySem.F.type_list_pop mt_popAt Y.rm_popAt (Y.vS 2) (Y.cons (Y.fn K rfl h_law_next (hr.mono (by decide)) rfl pass0 (Y.cons (Y.vS 1) (Y.cons (Y.cb (Y.call_lenG K rfl) Y.rc_lenS rfl T.b_len (by decide +kernel) (Y.cons (Y.vS 2) Y.nil)) Y.nil))) Y.nil))))))), ?_⟩
 refine seqT fun N hN => ?_
 walk_at "rt"
 have esg : signsT "abcdefgh" = sT (bS (List.range 8)) := by
  rw [← bx_signs]
  unfold signsT sT
  rw [List.map_map]; rfl
 rw [esg]
 refine ⟨by decide +kernel, ?_⟩
 rw [hN]; clear hN N
 walk_at "rt"
 refine ⟨by decide, by decide, ?_⟩
 refine cmp_ind (fun rest acc μ => ∃ (A L : List Nat) (d : L2.T), rest.length + A.length = 8 ∧ (A ++ L).Perm (List.range 8) ∧ acc = sT (bS A) ∧ Deck (n + A.length) d ∧ μ = [.pb d, .bx (.lst (sT (bS L)))]) ⟨[], List.range 8, d, by simp, List.Perm.refl _, rfl, D, rfl⟩ ?_ ?_
 rotate_left
 ·rintro t ts acc μ M ⟨A, L, d, h1, hp, rfl, D, rfl⟩ k
  rw [List.length_cons] at h1
  have hl := hp.length_eq
  rw [List.length_append, List.length_range] at hl
  have bl : ∀ xs : List Nat, (bS xs).length = xs.length := fun xs => by unfold bS; rw [List.length_map]
  refine ⟨trivial, by rw [sT_len, bl]; exact Nat.lt_of_lt_of_le (show _ < 200000 by omega) szLine, ?_⟩
  wp_walk using sT_len, bl
  refine ⟨d, (L.length : Nat), _, rfl, D, by omega, by omega, by omega, fun v d v0 v1 D => ?_⟩
  have hv : v.toNat < L.length := by omega
  wp_walk using sT_len, bl, sqI_in v0 v1, sT_erase
  refine ⟨by omega, by omega, _, .str (boxS L[v.toNat]), rfl, by unfold sT bS; rw [List.getElem?_map, List.getElem?_map, List.getElem?_eq_getElem hv]; rfl, ?_⟩
  refine k _ _ ⟨A ++ [L[v.toNat]], L.eraseIdx v.toNat, d, by simp; omega, ?_, by simp [sT, bS], D.mono (by simp; omega), ?_⟩
  ·rw [List.append_assoc]
   exact (List.Perm.append_left A (erase_perm hv)).trans hp
  ·have : (bS L).eraseIdx v.toNat = bS (L.eraseIdx v.toNat) := by
    unfold bS
    rw [List.eraseIdx_eq_take_drop_succ, List.eraseIdx_eq_take_drop_succ, List.map_append, List.map_take, List.map_drop]
   rw [this]
 rintro acc μ ⟨A, L, d, h1, hp, rfl, D, rfl⟩
 refine ⟨trivial, ?_⟩
 have hl := hp.length_eq
 rw [List.length_append, List.length_range] at hl
 have : L = [] := List.eq_nil_of_length_eq_zero (by simp at h1; omega)
 subst this
 rw [List.append_nil] at hp
 walk_at "rt"
 exact q A d hp (D.mono (by omega))
noncomputable def tSet : TSp := fun args Q => ∃ (d : L2.T) (rows : List Row) (n : Nat), args = [d, .lst (pT rows)] ∧ Deck n d ∧ n < 2 ^ 40 ∧ rows.length ≤ 900 ∧ ∀ (sk bh : List Row) (d' : L2.T), sk.length ≤ 19 → bh.length ≤ 19 → (∀ r ∈ sk, r.Ok 1000) → (∀ r ∈ bh, r.Ok 1000) → Deck (n + 1000) d' → Q (.fr (.lst [.int ((1 + sk.length : Nat) : Int), .tup (pT (.jump (1 + sk.length) :: sk ++ rows.map (Row.mov (1 + sk.length)) ++ bh))])) [d']
theorem ok_set (T : Txt K mg) (F : HasFn K mg "_law_set" s__law_set ["deck", "rows"]) (h_law_next : CallOk P w K mg base CX0 2 "_law_next" ["deck", "many"] (spT K [true, false] tNext)) (h_law_row : CallOk P w K mg base CX0 4 "_law_row" ["deck", "size"] (spT K [true, false] tRow)) (h_law_moved : CallOk P w K mg base CX0 1 "_law_moved" ["rows", "ahead"] (spT K [false, false] tMoved)) : CallOk P w K mg base CX0 5 "_law_set" ["deck", "rows"] (spT K [true, false] tSet) := by
 refine F.okT sc__law_set [true, false] rfl (by decide) (fun args Qt hl h f cdv A outer s H E hr => ?_)
 have hu := hu_of hr
 obtain ⟨d, rows, n, rfl, D, hn, hr1, q⟩ := h
 refine ⟨_, (Y.bcons (Y.set (i := 2) sc__law_set.nd rfl (by walk_at "lc") (Y.op (Y.op_addG K rfl) Y.ro_addS Y.int (Y.cb (Y.call_lenG K rfl) Y.rc_lenS rfl T.b_len (by decide +kernel) (Y.cons (Y.vS 1) Y.nil))))
   (Y.bcons (Y.setC1 (j := 3) sc__law_set.nd rfl (by walk_at "lc") (osc := defScope s__law_set) (ON := ["deck", "rows", "size", "ahead", "behind", "begin"]) (own := ["k"]) (N := ["k", "deck", "rows", "size", "ahead", "behind", "begin"]) ⟨rfl, by decide +kernel, rfl, by decide +kernel, by decide +kernel, by decide +kernel, by decide +kernel, by decide +kernel⟩ rfl rfl rfl rfl (Y.rng1 rfl T.b_range (Y.cons (Y.fn K rfl h_law_next (hr.mono (by decide)) rfl pass0 (Y.cons (Y.vS 0) (Y.cons Y.int Y.nil))) Y.nil)) (fun _ _ _ _ => (Z.gname (i := 0) (show List.Nodup (["k", "deck", "rows", "size", "ahead", "behind", "begin"] : List Str) by decide +kernel) rfl (by walk_at "lc"))) (fun _ _ _ _ => Y.ts0) (fun _ _ _ _ => (Y.fn K rfl h_law_row (hr.mono (by decide)) rfl pass0 (Y.cons (Y.vS 1) (Y.cons (Y.vS 3) Y.nil)))))
   (Y.bcons (Y.setC1 (j := 4) sc__law_set.nd rfl (by walk_at "lc") (osc := defScope s__law_set) (ON := ["deck", "rows", "size", "ahead", "behind", "begin"]) (own := ["k"]) (N := ["k", "deck", "rows", "size", "ahead", "behind", "begin"]) ⟨rfl, by decide +kernel, rfl, by decide +kernel, by decide +kernel, by decide +kernel, by decide +kernel, by decide +kernel⟩ rfl rfl rfl rfl (Y.rng1 rfl T.b_range (Y.cons (Y.fn K rfl h_law_next (hr.mono (by decide)) rfl pass0 (Y.cons (Y.vS 0) (Y.cons Y.int Y.nil))) Y.nil)) (fun _ _ _ _ => (Z.gname (i := 0) (show List.Nodup (["k", "deck", "rows", "size", "ahead", "behind", "begin"] : List Str) by decide +kernel) rfl (by walk_at "lc"))) (fun _ _ _ _ => Y.ts0) (fun _ _ _ _ => (Y.fn K rfl h_law_row (hr.mono (by decide)) rfl pass0 (Y.cons (Y.vS 1) (Y.cons (Y.vS 3) Y.nil)))))
   (Y.bcons (Y.set (i := 5) sc__law_set.nd rfl (by walk_at "lc") (Y.lst (Y.cons (Y.tup (Y.cons Y.str (Y.cons (Y.op (Y.op_addG K rfl) Y.ro_addS Y.int (Y.cb (Y.call_lenG K rfl) Y.rc_lenS rfl T.b_len (by decide +kernel) (Y.cons (Y.vS 3) Y.nil))) Y.nil))) Y.nil)))
   (Y.bone (Y.ret (Y.lst (Y.cons (Y.op (Y.op_addG K rfl) Y.ro_addS Y.int (Y.cb (Y.call_lenG K rfl) Y.rc_lenS rfl T.b_len (by decide +kernel) (Y.cons (Y.vS 3) Y.nil))) (Y.cons (Y.ct (Y.call_tupG K rfl) Y.rc_tuple rfl T.b_tuple (by decide +kernel) (Y.cons (Y.op (Y.op_addG K rfl) Y.ro_addS (Y.op (Y.op_addG K rfl) Y.ro_addS (Y.op (Y.op_addG K rfl) Y.ro_addS (Y.vS 5) (Y.vS 3)) (Y.fn K rfl h_law_moved (hr.mono (by decide)) rfl pass0 (Y.cons (Y.vS 1) (Y.cons (Y.op (Y.op_addG K rfl) Y.ro_addS Y.int (Y.cb (Y.call_lenG K rfl) Y.rc_lenS rfl T.b_len (by decide +kernel) (Y.cons (Y.vS 3) Y.nil))) Y.nil)))) (Y.vS 4)) Y.nil)) Y.nil))))))))), ?_⟩
 refine seqT fun N hN => ?_
 wp_walk using pT_len
 rw [hN]; clear hN N
 refine seqT fun N hN => ?_
 walk_at "rt"
 refine ⟨d, 20, n, rfl, D, by omega, by decide, by decide, fun m d m0 m1 D => ?_⟩
 walk_at "rt"
 refine ⟨by omega, by omega, ?_⟩
 refine cmp_ind (fun rest acc μ => ∃ (sk : List Row) (d : L2.T), rest.length + sk.length ≤ 19 ∧ (∀ r ∈ sk, r.Ok 1000) ∧ acc = pT sk ∧ Deck (n + 1 + 10 * sk.length) d ∧ μ = [.pb d, .tr (.lst (pT rows)), .tr (.int (2 + (rows.length : Nat))), .un, .un, .un]) ⟨[], d, ?_, by simp, rfl, D, rfl⟩ ?_ ?_
 ·rw [List.length_map, List.length_range]; simp; omega
 rotate_left
 ·rintro t ts acc μ M ⟨sk, d, h1, hk, rfl, D, rfl⟩ k
  rw [List.length_cons] at h1
  refine ⟨trivial, by rw [pT_len]; exact Nat.lt_of_lt_of_le (show _ < 200000 by omega) szLine, ?_⟩
  walk_at "rt"
  refine ⟨d, 2 + rows.length, _, rfl, D, by omega, by omega, fun r d hr D => ?_⟩
  walk_at "rt"
  refine k _ _ ⟨sk ++ [r], d, by simp; omega, fun x hx => ?_, by rw [pT_snoc], D.mono (by simp; omega), rfl⟩
  rcases List.mem_append.mp hx with h | h
  ·exact hk x h
  ·rw [List.mem_singleton.mp h]; exact hr.mono (by omega)
 rintro acc μ ⟨sk, d, h1, hk, rfl, D, rfl⟩
 simp at h1
 refine ⟨trivial, ?_⟩
 walk_at "rt"
 rw [hN]; clear hN N
 refine seqT fun N hN => ?_
 walk_at "rt"
 refine ⟨d, 20, _, rfl, D, by omega, by decide, by decide, fun m2 d m20 m21 D => ?_⟩
 walk_at "rt"
 refine ⟨by omega, by omega, ?_⟩
 refine cmp_ind (fun rest acc μ => ∃ (bh : List Row) (d : L2.T), rest.length + bh.length ≤ 19 ∧ (∀ r ∈ bh, r.Ok 1000) ∧ acc = pT bh ∧ Deck (n + 200 + 10 * bh.length) d ∧ μ = [.pb d, .tr (.lst (pT rows)), .tr (.int (2 + (rows.length : Nat))), .bx (.lst (pT sk)), .un, .un]) ⟨[], d, ?_, by simp, rfl, D.mono (by omega), rfl⟩ ?_ ?_
 ·rw [List.length_map, List.length_range]; simp; omega
 rotate_left
 ·rintro t ts acc μ M ⟨bh, d, h1, hk, rfl, D, rfl⟩ k
  rw [List.length_cons] at h1
  refine ⟨trivial, by rw [pT_len]; exact Nat.lt_of_lt_of_le (show _ < 200000 by omega) szLine, ?_⟩
  walk_at "rt"
  refine ⟨d, 2 + rows.length, _, rfl, D, by omega, by omega, fun r d hr D => ?_⟩
  walk_at "rt"
  refine k _ _ ⟨bh ++ [r], d, by simp; omega, fun x hx => ?_, by rw [pT_snoc], D.mono (by simp; omega), rfl⟩
  rcases List.mem_append.mp hx with h | h
  ·exact hk x h
  ·rw [List.mem_singleton.mp h]; exact hr.mono (by omega)
 rintro acc μ ⟨bh, d, h2, hk2, rfl, D, rfl⟩
 simp at h2
 refine ⟨trivial, ?_⟩
 walk_at "rt"
 rw [hN]; clear hN N
 refine seqT fun N hN => ?_
 wp_walk using pT_len
 refine ⟨by decide, by decide, ?_⟩
 rw [hN]; clear hN N
 wp_walk using pT_len
 refine ⟨Nat.le_trans (show _ ≤ 200000 by omega) szLine, rows, 1 + sk.length, by congr 3, by omega, ?_⟩
 walk_at "rt"
 rw [pT_len, pT_len, pT_len, List.length_map]
 refine ⟨Nat.le_trans (show _ ≤ 200000 by omega) szLine, Nat.le_trans (show _ ≤ 200000 by simp [pT_len]; omega) szLine, by decide, ?_⟩
 have e : L2.T.tup [.str "jump", .int (1 + (sk.length : Int))] :: (pT sk ++ pT (rows.map (Row.mov (1 + sk.length))) ++ pT bh) = pT (.jump (1 + sk.length) :: sk ++ rows.map (Row.mov (1 + sk.length)) ++ bh) := by
  show _ = (Row.jump (1 + sk.length)).t :: (sk ++ rows.map (Row.mov (1 + sk.length)) ++ bh).map Row.t
  rw [List.map_append, List.map_append]
  rfl
 rw [e]
 exact q sk bh d h1 h2 hk hk2 (D.mono (by omega))
structure Plant (rows : List Row) (g told turns : List Int) : Prop where
 run : ∃ (n : Nat) (c : RS), Go rows n (rs0 rows g) c ∧ c.at_ = rows.length ∧ c.st.told = told ∧ c.turns = turns ∧ n ≤ 300
 cl : closedB rows = true
 l0 : 0 < rows.length
 l1 : rows.length ≤ 10
 ok : ∀ r ∈ rows, r.Ok 100
 gl : g.length ≤ 40
noncomputable def plT (rows : List Row) (g told turns : List Int) : L2.T := .lst [.lst (pT rows), .tup (nI g), .tup (nI told), .lst (nI turns)]
theorem bx4 {A : List Nat} (h : A.Perm (List.range 8)) : ∃ a b c d r, A = a :: b :: c :: d :: r ∧ a < 8 ∧ b < 8 ∧ c < 8 ∧ d < 8 ∧ a ≠ b ∧ a ≠ c ∧ a ≠ d ∧ b ≠ c ∧ b ≠ d ∧ c ≠ d := by
 have hl : A.length = 8 := by rw [h.length_eq]; rfl
 have nd : A.Nodup := h.nodup_iff.mpr List.nodup_range
 obtain ⟨a, b, c, d, e, f, g, i, rfl⟩ := len8 hl
 have lt : ∀ x ∈ [a, b, c, d, e, f, g, i], x < 8 := fun x hx => by simpa using h.mem_iff.mp hx
 simp only [List.nodup_cons, List.mem_cons, not_or] at nd
 exact ⟨a, b, c, d, _, rfl, lt a (by simp), lt b (by simp), lt c (by simp), lt d (by simp), nd.1.1, nd.1.2.1, nd.1.2.2.1, nd.2.1.1, nd.2.1.2.1, nd.2.2.1.1⟩
theorem cut4 (a b c d : Nat) (r : List Nat) : Y.cutG (sT (bS (a :: b :: c :: d :: r))) none (some 4) = [.str (boxS a), .str (boxS b), .str (boxS c), .str (boxS d)] := by
 unfold Y.cutG
 have : (4 : Int) = ((4 : Nat) : Int) := rfl
 rw [this, HT.sIx_none, HT.sIx_nat, Nat.sub_zero, List.drop_zero, Nat.min_eq_left (by unfold sT bS; simp)]
 rfl
theorem cut3 (a b c : Nat) (r : List Nat) : Y.cutG (sT (bS (a :: b :: c :: r))) none (some 3) = [.str (boxS a), .str (boxS b), .str (boxS c)] := by
 unfold Y.cutG
 have : (3 : Int) = ((3 : Nat) : Int) := rfl
 rw [this, HT.sIx_none, HT.sIx_nat, Nat.sub_zero, List.drop_zero, Nat.min_eq_left (by unfold sT bS; simp)]
 rfl
noncomputable def tProduct : TSp := fun args Q => ∃ (A : List Nat) (x y : Int), args = [.lst (sT (bS A)), .int x, .int y] ∧ A.Perm (List.range 8) ∧ 0 ≤ x ∧ x < 65536 ∧ -(2 ^ 20) < y ∧ y < 2 ^ 20 ∧ y % 65536 ≤ 30 ∧ ∀ rows g told turns, Plant rows g told turns → Q (.fr (plT rows g told turns)) [.lst (sT (bS A))]
theorem ok_product (T : Txt K mg) (F : HasFn K mg "_law_product" s__law_product ["boxes", "one", "other"]) : CallOk P w K mg base CX0 1 "_law_product" ["boxes", "one", "other"] (spT K [true, false, false] tProduct) := by
 refine F.okT sc__law_product [true, false, false] rfl (by decide) (fun args Qt hl h f cdv A outer s H E hr => ?_)
 have hu := hu_of hr
 obtain ⟨A, x, y, rfl, hp, x0, x1, y0, y1, ym, q⟩ := h
 obtain ⟨a, b, c, d, r, rfl, ha, hb, hc, hd, n1, n2, n3, n4, n5, n6⟩ := bx4 hp
 refine ⟨_, (Y.bcons (Y.asg (Y.sliceS K rfl (Y.vS 0) Y.po0 (Y.po1 Y.int)) (Y.gtupS (n := 4) K rfl rfl (Y.gscons (Y.gname (i := 3) sc__law_product.nd rfl (by walk_at "lc")) (Y.gscons (Y.gname (i := 4) sc__law_product.nd rfl (by walk_at "lc")) (Y.gscons (Y.gname (i := 5) sc__law_product.nd rfl (by walk_at "lc")) (Y.gscons (Y.gname (i := 6) sc__law_product.nd rfl (by walk_at "lc")) Y.gsnil))))))
   (Y.bcons (Y.setF (i := 7) sc__law_product.nd rfl (by walk_at "lc") (Y.lst (Y.cons (Y.tup (Y.cons Y.str (Y.cons (Y.vS 3) Y.nil))) (Y.cons (Y.tup (Y.cons Y.str (Y.cons (Y.vS 4) Y.nil))) (Y.cons (Y.tup (Y.cons Y.str (Y.cons (Y.vS 5) (Y.cons Y.int Y.nil)))) (Y.cons (Y.tup (Y.cons Y.str (Y.cons (Y.vS 6) (Y.cons Y.int Y.nil)))) (Y.cons (Y.tup (Y.cons Y.str (Y.cons (Y.vS 4) (Y.cons Y.int Y.nil)))) (Y.cons (Y.tup (Y.cons Y.str (Y.cons (Y.vS 5) (Y.cons (Y.vS 3) Y.nil)))) (Y.cons (Y.tup (Y.cons Y.str (Y.cons (Y.vS 4) (Y.cons (Y.vS 6) Y.nil)))) Y.nil)))))))))
   (Y.bcons (Y.setF (i := 7) sc__law_product.nd rfl (by walk_at "lc") (Y.op (Y.op_addG K rfl) Y.ro_addS (Y.vS 7) (Y.lst (Y.cons (Y.tup (Y.consts2 rfl rfl)) (Y.cons (Y.tup (Y.cons Y.str (Y.cons (Y.vS 5) Y.nil))) (Y.cons (Y.tup (Y.cons Y.str Y.nil)) Y.nil))))))
   (Y.bcons (Y.set (i := 8) sc__law_product.nd rfl (by walk_at "lc") (Y.op op_mod Y.ro_int (Y.vS 2) Y.int))
   (Y.bcons (Y.setF (i := 9) sc__law_product.nd rfl (by walk_at "lc") (Y.lst (Y.cons Y.int (Y.cons Y.int (Y.cons Y.int (Y.cons Y.int (Y.cons (Y.op (Y.op_addG K rfl) Y.ro_addS (Y.vS 8) Y.int) (Y.cons (Y.vS 8) (Y.cons (Y.vS 8) (Y.cons (Y.vS 8) (Y.cons Y.int (Y.cons Y.int Y.nil))))))))))))
   (Y.bone (Y.ret (Y.lst (Y.cons (Y.vS 7) (Y.cons (Y.tup (Y.cons (Y.vS 1) (Y.cons (Y.vS 2) Y.nil))) (Y.cons (Y.tup (Y.cons (Y.op op_mod Y.ro_int (Y.op (Y.op_mulG K rfl) Y.ro_mulT (Y.vS 1) (Y.vS 8)) Y.int) Y.nil)) (Y.cons (Y.vS 9) Y.nil)))))))))))), ?_⟩
 refine seqT fun N hN => ?_
 wp_walk using cut4
 rw [hN]; clear hN N
 refine seqT fun N hN => ?_
 walk_at "rt"
 refine ⟨by decide, by decide, by decide, by decide, by decide, by decide, by decide, by decide, ?_⟩
 rw [hN]; clear hN N
 refine seqT fun N hN => ?_
 walk_at "rt"
 refine ⟨by decide, by decide, by decide, by decide, by decide, ?_⟩
 obtain ⟨k, ek⟩ : ∃ k : Nat, y % 65536 = k := ⟨(y % 65536).toNat, by omega⟩
 obtain ⟨c', G, g1, g2, g3⟩ := prod_run ha hb hc hd n1 n2 n3 n4 n5 n6 x y k (by omega) ek
 rw [hN]; clear hN N
 refine seqT fun N hN => ?_
 walk_at "rt"
 refine ⟨by decide, ?_⟩
 rw [ek, hN]; clear hN N
 refine seqT fun N hN => ?_
 walk_at "rt"
 refine ⟨by decide, ?_⟩
 rw [hN]; clear hN N
 walk_at "rt"
 refine ⟨by decide, .inl ⟨by omega, by omega⟩, by decide, by decide, by decide, ?_⟩
 exact q (rProd a b c d) [x, y] [x * (k : Int) % 65536] [1, 1, 1, 1, (k : Int) + 1, (k : Int), (k : Int), (k : Int), 1, 1] ⟨⟨_, c', G, g1, g2, g3, by omega⟩, cl_prod a b c d, Nat.succ_pos _, Nat.le_refl _, by unfold rProd; simp [Row.Ok, ha, hb, hc, hd], Nat.le_of_ble_eq_true rfl⟩
noncomputable def tSumP : TSp := fun args Q => ∃ (A : List Nat) (gv : List Int), args = [.lst (sT (bS A)), .tup (nI gv)] ∧ A.Perm (List.range 8) ∧ (∀ x ∈ gv, 0 < x ∧ x < 65536) ∧ gv.length ≤ 30 ∧ ∀ rows g told turns, Plant rows g told turns → Q (.fr (plT rows g told turns)) [.lst (sT (bS A))]
theorem ok_sumP (T : Txt K mg) (F : HasFn K mg "_law_sum" s__law_sum ["boxes", "some"]) : CallOk P w K mg base CX0 1 "_law_sum" ["boxes", "some"] (spT K [true, false] tSumP) := by
 refine F.okT sc__law_sum [true, false] rfl (by decide) (fun args Qt hl h f cdv A outer s H E hr => ?_)
 have hu := hu_of hr
 obtain ⟨A, gv, rfl, hp, hx, hg, q⟩ := h
 obtain ⟨a, b, c, d, r, rfl, ha, hb, hc, hd, n1, n2, n3, n4, n5, n6⟩ := bx4 hp
 obtain ⟨c', G, g1, g2, g3⟩ := sum_prog ha hb hc hd n1 n2 n3 n4 n5 n6 gv hx (by omega)
 refine ⟨_, (Y.bcons (Y.asg (Y.sliceS K rfl (Y.vS 0) Y.po0 (Y.po1 Y.int)) (Y.gtupS (n := 4) K rfl rfl (Y.gscons (Y.gname (i := 2) sc__law_sum.nd rfl (by walk_at "lc")) (Y.gscons (Y.gname (i := 3) sc__law_sum.nd rfl (by walk_at "lc")) (Y.gscons (Y.gname (i := 4) sc__law_sum.nd rfl (by walk_at "lc")) (Y.gscons (Y.gname (i := 5) sc__law_sum.nd rfl (by walk_at "lc")) Y.gsnil))))))
   (Y.bcons (Y.setF (i := 6) sc__law_sum.nd rfl (by walk_at "lc") (Y.lst (Y.cons (Y.tup (Y.cons Y.str (Y.cons (Y.vS 5) (Y.cons Y.int Y.nil)))) (Y.cons (Y.tup (Y.cons Y.str (Y.cons (Y.vS 2) Y.nil))) (Y.cons (Y.tup (Y.cons Y.str (Y.cons (Y.vS 2) (Y.cons Y.int Y.nil)))) (Y.cons (Y.tup (Y.cons Y.str (Y.cons (Y.vS 3) (Y.cons (Y.vS 2) Y.nil)))) (Y.cons (Y.tup (Y.cons Y.str (Y.cons (Y.vS 4) (Y.cons (Y.vS 5) Y.nil)))) (Y.cons (Y.tup (Y.consts2 rfl rfl)) (Y.cons (Y.tup (Y.cons Y.str (Y.cons (Y.vS 3) Y.nil))) Y.nil)))))))))
   (Y.bcons (Y.setF (i := 6) sc__law_sum.nd rfl (by walk_at "lc") (Y.op (Y.op_addG K rfl) Y.ro_addS (Y.vS 6) (Y.lst (Y.cons (Y.tup (Y.cons Y.str (Y.cons (Y.vS 4) Y.nil))) (Y.cons (Y.tup (Y.cons Y.str Y.nil)) Y.nil)))))
   (Y.bcons (Y.set (i := 7) sc__law_sum.nd rfl (by walk_at "lc") (Y.cb (Y.call_lenG K rfl) Y.rc_lenS rfl T.b_len (by decide +kernel) (Y.cons (Y.vS 1) Y.nil)))
   (Y.bcons (Y.setF (i := 8) sc__law_sum.nd rfl (by walk_at "lc") (Y.lst (Y.cons Y.int (Y.cons (Y.op (Y.op_addG K rfl) Y.ro_addS (Y.vS 7) Y.int) (Y.cons (Y.op (Y.op_addG K rfl) Y.ro_addS (Y.vS 7) Y.int) (Y.cons (Y.vS 7) (Y.cons (Y.vS 7) (Y.cons (Y.vS 7) (Y.cons Y.int (Y.cons Y.int (Y.cons Y.int Y.nil)))))))))))
   (Y.bone (Y.ret (Y.lst (Y.cons (Y.vS 6) (Y.cons (Y.vS 1) (Y.cons (Y.tup (Y.cons (Y.op op_mod Y.ro_int (Y.cb (Y.call_sumX K rfl rfl) Y.rc_sumX rfl T.b_sum (by decide +kernel) (Y.cons (Y.vS 1) Y.nil)) Y.int) (Y.cons (Y.vS 7) Y.nil))) (Y.cons (Y.vS 8) Y.nil)))))))))))), ?_⟩
 refine seqT fun N hN => ?_
 wp_walk using cut4
 rw [hN]; clear hN N
 refine seqT fun N hN => ?_
 walk_at "rt"
 refine ⟨by decide, by decide, by decide, by decide, by decide, by decide, by decide, by decide, ?_⟩
 rw [hN]; clear hN N
 refine seqT fun N hN => ?_
 walk_at "rt"
 refine ⟨by decide, by decide, by decide, by decide, ?_⟩
 rw [hN]; clear hN N
 refine seqT fun N hN => ?_
 wp_walk using nI_len
 rw [hN]; clear hN N
 refine seqT fun N hN => ?_
 walk_at "rt"
 refine ⟨by decide, ?_⟩
 rw [hN]; clear hN N
 walk_at "rt"
 refine ⟨gv, rfl, by decide, by decide, by decide, ?_⟩
 exact q (rSumm a b c d) gv [gv.sum % 65536, (gv.length : Nat)] [1, (gv.length : Int) + 1, (gv.length : Int) + 1, (gv.length : Int), (gv.length : Int), (gv.length : Int), 1, 1, 1] ⟨⟨_, c', G, g1, g2, g3, by omega⟩, cl_summ a b c d, Nat.succ_pos _, Nat.le_of_ble_eq_true rfl, by unfold rSumm; simp [Row.Ok, ha, hb, hc, hd], by omega⟩
noncomputable def tDbl : TSp := fun args Q => ∃ (A : List Nat) (x k : Nat), args = [.lst (sT (bS A)), .int (x : Nat), .int (k : Nat)] ∧ A.Perm (List.range 8) ∧ x < 65536 ∧ k ≤ 20 ∧ ∀ rows g told turns, Plant rows g told turns → Q (.fr (plT rows g told turns)) [.lst (sT (bS A))]
theorem ok_dbl (T : Txt K mg) (F : HasFn K mg "_law_doubled" s__law_doubled ["boxes", "one", "many"]) : CallOk P w K mg base CX0 1 "_law_doubled" ["boxes", "one", "many"] (spT K [true, false, false] tDbl) := by
 refine F.okT sc__law_doubled [true, false, false] rfl (by decide) (fun args Qt hl h f cdv A outer s H E hr => ?_)
 have hu := hu_of hr
 obtain ⟨A, x, k, rfl, hp, hx, hk, q⟩ := h
 obtain ⟨a, b, c, d, r, rfl, ha, hb, hc, hd, n1, n2, n3, n4, n5, n6⟩ := bx4 hp
 obtain ⟨c', G, g1, g2, g3⟩ := dbl_run ha hb hc n1 n2 n4 x k hx (by omega)
 refine ⟨_, (Y.bcons (Y.asg (Y.sliceS K rfl (Y.vS 0) Y.po0 (Y.po1 Y.int)) (Y.gtupS (n := 3) K rfl rfl (Y.gscons (Y.gname (i := 3) sc__law_doubled.nd rfl (by walk_at "lc")) (Y.gscons (Y.gname (i := 4) sc__law_doubled.nd rfl (by walk_at "lc")) (Y.gscons (Y.gname (i := 5) sc__law_doubled.nd rfl (by walk_at "lc")) Y.gsnil)))))
   (Y.bcons (Y.setF (i := 6) sc__law_doubled.nd rfl (by walk_at "lc") (Y.lst (Y.cons (Y.tup (Y.cons Y.str (Y.cons (Y.vS 3) (Y.cons (Y.vS 1) Y.nil)))) (Y.cons (Y.tup (Y.cons Y.str (Y.cons (Y.vS 4) (Y.cons (Y.vS 2) Y.nil)))) (Y.cons (Y.tup (Y.cons Y.str (Y.cons (Y.vS 5) (Y.cons Y.int Y.nil)))) (Y.cons (Y.tup (Y.cons Y.str (Y.cons (Y.vS 4) (Y.cons Y.int Y.nil)))) (Y.cons (Y.tup (Y.cons Y.str (Y.cons (Y.vS 3) (Y.cons (Y.vS 3) Y.nil)))) (Y.cons (Y.tup (Y.cons Y.str (Y.cons (Y.vS 4) (Y.cons (Y.vS 5) Y.nil)))) (Y.cons (Y.tup (Y.consts2 rfl rfl)) Y.nil)))))))))
   (Y.bcons (Y.setF (i := 6) sc__law_doubled.nd rfl (by walk_at "lc") (Y.op (Y.op_addG K rfl) Y.ro_addS (Y.vS 6) (Y.lst (Y.cons (Y.tup (Y.cons Y.str (Y.cons (Y.vS 3) Y.nil))) (Y.cons (Y.tup (Y.cons Y.str Y.nil)) Y.nil)))))
   (Y.bcons (Y.setF (i := 7) sc__law_doubled.nd rfl (by walk_at "lc") (Y.lst (Y.cons Y.int (Y.cons Y.int (Y.cons Y.int (Y.cons (Y.op (Y.op_addG K rfl) Y.ro_addS (Y.vS 2) Y.int) (Y.cons (Y.vS 2) (Y.cons (Y.vS 2) (Y.cons (Y.vS 2) (Y.cons Y.int (Y.cons Y.int Y.nil)))))))))))
   (Y.bone (Y.ret (Y.lst (Y.cons (Y.vS 6) (Y.cons (Y.tup Y.nil) (Y.cons (Y.tup (Y.cons (Y.op op_mod Y.ro_int (Y.op (Y.op_mulG K rfl) Y.ro_mulT (Y.vS 1) (Y.op op_shl Y.ro_int Y.int (Y.vS 2))) Y.int) Y.nil)) (Y.cons (Y.vS 7) Y.nil))))))))))), ?_⟩
 refine seqT fun N hN => ?_
 wp_walk using cut3
 rw [hN]; clear hN N
 refine seqT fun N hN => ?_
 walk_at "rt"
 refine ⟨by decide, by decide, by decide, by decide, by decide, by decide, by decide, by decide, ?_⟩
 rw [hN]; clear hN N
 refine seqT fun N hN => ?_
 walk_at "rt"
 refine ⟨by decide, by decide, by decide, by decide, ?_⟩
 rw [hN]; clear hN N
 refine seqT fun N hN => ?_
 walk_at "rt"
 refine ⟨by decide, ?_⟩
 rw [hN]; clear hN N
 walk_at "rt"
 have e2 : (x : Int) * (1 * 2 ^ ((k : Int)).toNat) = ((x * 2 ^ k : Nat) : Int) := by rw [Int.toNat_natCast, Int.one_mul]; push_cast; rfl
 rw [e2]
 refine ⟨?_, .inl ⟨by omega, by omega⟩, by decide, by decide, by decide, ?_⟩
 ·exact ⟨by omega, by omega, by decide⟩
 exact q (rDbl a b c x k) [] [((x * 2 ^ k : Nat) : Int) % 65536] [1, 1, 1, (k : Int) + 1, (k : Int), (k : Int), (k : Int), 1, 1] ⟨⟨_, c', G, g1, g2, g3, by omega⟩, cl_dbl a b c x k, Nat.succ_pos _, Nat.le_of_ble_eq_true rfl, by unfold rDbl; simp [Row.Ok, ha, hb, hc, hd]; omega, Nat.zero_le _⟩
noncomputable def tOff : TSp := fun args Q => ∃ (A : List Nat) (y k : Nat), args = [.lst (sT (bS A)), .int (y : Nat), .int (k : Nat)] ∧ A.Perm (List.range 8) ∧ y < 65536 ∧ y % 2 = 1 ∧ k ≤ 20 ∧ ∀ rows g told turns, Plant rows g told turns → Q (.fr (plT rows g told turns)) [.lst (sT (bS A))]
theorem ok_off (T : Txt K mg) (F : HasFn K mg "_law_taken_off" s__law_taken_off ["boxes", "one", "times_so"]) : CallOk P w K mg base CX0 1 "_law_taken_off" ["boxes", "one", "times_so"] (spT K [true, false, false] tOff) := by
 refine F.okT sc__law_taken_off [true, false, false] rfl (by decide) (fun args Qt hl h f cdv A outer s H E hr => ?_)
 have hu := hu_of hr
 obtain ⟨A, y, k, rfl, hp, hy, ho, hk, q⟩ := h
 obtain ⟨a, b, c, d, r, rfl, ha, hb, hc, hd, n1, n2, n3, n4, n5, n6⟩ := bx4 hp
 obtain ⟨c', G, g1, g2, g3⟩ := off_run ha hb hc n1 n2 n4 y k ho (by omega)
 refine ⟨_, (Y.bcons (Y.asg (Y.sliceS K rfl (Y.vS 0) Y.po0 (Y.po1 Y.int)) (Y.gtupS (n := 3) K rfl rfl (Y.gscons (Y.gname (i := 3) sc__law_taken_off.nd rfl (by walk_at "lc")) (Y.gscons (Y.gname (i := 4) sc__law_taken_off.nd rfl (by walk_at "lc")) (Y.gscons (Y.gname (i := 5) sc__law_taken_off.nd rfl (by walk_at "lc")) Y.gsnil)))))
   (Y.bcons (Y.setF (i := 6) sc__law_taken_off.nd rfl (by walk_at "lc") (Y.lst (Y.cons (Y.tup (Y.cons Y.str (Y.cons (Y.vS 3) (Y.cons (Y.op op_mod Y.ro_int (Y.op (Y.op_mulG K rfl) Y.ro_mulT (Y.vS 1) (Y.vS 2)) Y.int) Y.nil)))) (Y.cons (Y.tup (Y.cons Y.str (Y.cons (Y.vS 4) (Y.cons (Y.vS 1) Y.nil)))) (Y.cons (Y.tup (Y.cons Y.str (Y.cons (Y.vS 3) (Y.cons Y.int Y.nil)))) (Y.cons (Y.tup (Y.cons Y.str (Y.cons (Y.vS 3) (Y.cons (Y.vS 4) Y.nil)))) (Y.cons (Y.tup (Y.cons Y.str (Y.cons (Y.vS 5) (Y.cons (Y.vS 4) Y.nil)))) Y.nil)))))))
   (Y.bcons (Y.setF (i := 6) sc__law_taken_off.nd rfl (by walk_at "lc") (Y.op (Y.op_addG K rfl) Y.ro_addS (Y.vS 6) (Y.lst (Y.cons (Y.tup (Y.consts2 rfl rfl)) (Y.cons (Y.tup (Y.cons Y.str (Y.cons (Y.vS 5) Y.nil))) (Y.cons (Y.tup (Y.cons Y.str (Y.cons (Y.vS 3) Y.nil))) (Y.cons (Y.tup (Y.cons Y.str Y.nil)) Y.nil)))))))
   (Y.bcons (Y.setF (i := 7) sc__law_taken_off.nd rfl (by walk_at "lc") (Y.lst (Y.cons Y.int (Y.cons Y.int (Y.cons (Y.op (Y.op_addG K rfl) Y.ro_addS (Y.vS 2) Y.int) (Y.cons (Y.vS 2) (Y.cons (Y.vS 2) (Y.cons (Y.vS 2) (Y.cons Y.int (Y.cons Y.int (Y.cons Y.int Y.nil)))))))))))
   (Y.bone (Y.ret (Y.lst (Y.cons (Y.vS 6) (Y.cons (Y.tup Y.nil) (Y.cons (Y.tup (Y.cons (Y.op op_mod Y.ro_int (Y.op (Y.op_mulG K rfl) Y.ro_mulT (Y.vS 1) (Y.vS 2)) Y.int) (Y.cons Y.int Y.nil))) (Y.cons (Y.vS 7) Y.nil))))))))))), ?_⟩
 refine seqT fun N hN => ?_
 wp_walk using cut3
 rw [hN]; clear hN N
 refine seqT fun N hN => ?_
 walk_at "rt"
 have e2 : (y : Int) * (k : Int) % 65536 = ((y * k % 65536 : Nat) : Int) := by rw [Int.natCast_emod, Int.natCast_mul]; rfl
 have e3 : ((y * k : Nat) : Int) % 65536 = ((y * k % 65536 : Nat) : Int) := by omega
 rw [e2]
 refine ⟨.inl ⟨by omega, by omega⟩, by decide, by decide, by decide, by decide, by decide, by decide, by decide, ?_⟩
 rw [hN]; clear hN N
 refine seqT fun N hN => ?_
 walk_at "rt"
 refine ⟨by decide, by decide, by decide, by decide, by decide, by decide, ?_⟩
 rw [hN]; clear hN N
 refine seqT fun N hN => ?_
 walk_at "rt"
 refine ⟨by decide, ?_⟩
 rw [hN]; clear hN N
 walk_at "rt"
 rw [e2]
 rw [e3] at g2
 refine ⟨.inl ⟨by omega, by omega⟩, by decide, by decide, by decide, ?_⟩
 exact q (rOff a b c (y * k % 65536) y) [] [((y * k % 65536 : Nat) : Int), 0] [1, 1, (k : Int) + 1, (k : Int), (k : Int), (k : Int), 1, 1, 1] ⟨⟨_, c', G, g1, g2, g3, by omega⟩, cl_off a b c _ y, Nat.succ_pos _, Nat.le_of_ble_eq_true rfl, by unfold rOff; simp [Row.Ok, ha, hb, hc, hd]; omega, Nat.zero_le _⟩
theorem nI_app (xs ys : List Int) : nI xs ++ nI ys = nI (xs ++ ys) := by unfold nI; rw [List.map_append]
theorem nI_rep (n : Nat) : (List.replicate n [L2.T.int 0]).flatten = nI (List.replicate n 0) := by
 induction n with
 | zero => rfl
 | succ n ih => rw [List.replicate_succ, List.flatten_cons, ih]; rfl
theorem cut_3 (a b c d : L2.T) : Y.cutG [a, b, c, d] none (some 3) = [a, b, c] := by
 unfold Y.cutG
 have : (3 : Int) = ((3 : Nat) : Int) := rfl
 rw [this, HT.sIx_none, HT.sIx_nat]
 rfl
noncomputable def tRight6 : TSp := fun args Q => ∃ (d : L2.T) (rows : List Row) (g told turns : List Int) (n : Nat), args = [d, plT rows g told turns] ∧ Deck n d ∧ n < 2 ^ 40 ∧ Plant rows g told turns ∧ ∀ d', Deck (n + 1000) d' → Q (.tr (.bl true)) [d']
theorem ok_right6 (T : Txt K mg) (F : HasFn K mg "_law_right" s__law_right ["deck", "planted"]) (h_law_set : CallOk P w K mg base CX0 5 "_law_set" ["deck", "rows"] (spT K [true, false] tSet)) (hrun_rows : CallOk P w K mg base CX0 6 "run_rows" ["program", "given", "most"] (spT K [false, false, false] tRun)) : CallOk P w K mg base CX0 7 "_law_right" ["deck", "planted"] (spT K [true, false] tRight6) := by
 refine F.okT sc__law_right [true, false] rfl (by decide) (fun args Qt hl h f cdv A outer s H E hr => ?_)
 have hu := hu_of hr
 obtain ⟨d, rows, g, told, turns, n, rfl, D, hn, Pl, q⟩ := h
 obtain ⟨N0, c, G, ge, gt, gn, gm⟩ := Pl.run
 have gl := Pl.gl
 have l1 := Pl.l1
 refine ⟨_, (Y.bcons (Y.asg (Y.vS 1) (Y.gtupS (n := 4) K rfl rfl (Y.gscons (Y.gname (i := 2) sc__law_right.nd rfl (by walk_at "lc")) (Y.gscons (Y.gname (i := 3) sc__law_right.nd rfl (by walk_at "lc")) (Y.gscons (Y.gname (i := 4) sc__law_right.nd rfl (by walk_at "lc")) (Y.gscons (Y.gname (i := 5) sc__law_right.nd rfl (by walk_at "lc")) Y.gsnil))))))
   (Y.bcons (Y.asg (Y.fn K rfl h_law_set (hr.mono (by decide)) rfl pass0 (Y.cons (Y.vS 0) (Y.cons (Y.vS 2) Y.nil))) (Y.gtupS (n := 2) K rfl rfl (Y.gscons (Y.gname (i := 6) sc__law_right.nd rfl (by walk_at "lc")) (Y.gscons (Y.gname (i := 7) sc__law_right.nd rfl (by walk_at "lc")) Y.gsnil))))
   (Y.bcons (Y.set (i := 8) sc__law_right.nd rfl (by walk_at "lc") (Y.fn K rfl hrun_rows (hr.mono (by decide)) rfl pass0 (Y.cons (Y.vS 7) (Y.cons (Y.vS 3) (Y.cons Y.int Y.nil)))))
   (Y.bcons (Y.set (i := 9) sc__law_right.nd rfl (by walk_at "lc") (Y.op (Y.op_addG K rfl) Y.ro_addS (Y.op (Y.op_addG K rfl) Y.ro_addS (Y.op (Y.op_addG K rfl) Y.ro_addS (Y.lst (Y.cons Y.int Y.nil)) (Y.op (Y.op_mulG K rfl) Y.ro_mulT (Y.lst (Y.cons Y.int Y.nil)) (Y.op op_sub Y.ro_int0 (Y.vS 6) Y.int))) (Y.vS 5)) (Y.op (Y.op_mulG K rfl) Y.ro_mulT (Y.lst (Y.cons Y.int Y.nil)) (Y.op op_sub Y.ro_int0 (Y.op op_sub Y.ro_int0 (Y.cb (Y.call_lenG K rfl) Y.rc_lenS rfl T.b_len (by decide +kernel) (Y.cons (Y.vS 7) Y.nil)) (Y.vS 6)) (Y.cb (Y.call_lenG K rfl) Y.rc_lenS rfl T.b_len (by decide +kernel) (Y.cons (Y.vS 2) Y.nil))))))
   (Y.bcons (Y.ifS (Y.tw (Y.wor (Y.tcmp (Y.op_neX K rfl (hu4_of hr)) Y.ro_neX (Y.sliceS K rfl (Y.vS 8) Y.po0 (Y.po1 Y.int)) (Y.tup (Y.cons Y.str (Y.cons (Y.vS 4) (Y.cons (Y.ct (Y.call_tupG K rfl) Y.rc_tuple rfl T.b_tuple (by decide +kernel) (Y.cons (Y.vS 9) Y.nil)) Y.nil))))) (Y.wor1 (Y.tcmp op_gt Y.ro_bl (Y.cb (Y.call_sumX K rfl rfl) Y.rc_sumX rfl T.b_sum (by decide +kernel) (Y.cons (Y.vS 9) Y.nil)) Y.int)))) (Y.bone (Y.ret Y.bl)) Y.bnil)
   (Y.bcons (Y.set (i := 10) sc__law_right.nd rfl (by walk_at "lc") (Y.fn K rfl hrun_rows (hr.mono (by decide)) rfl pass0 (Y.cons (Y.vS 7) (Y.cons (Y.vS 3) (Y.cons (Y.op op_sub Y.ro_int0 (Y.cb (Y.call_sumX K rfl rfl) Y.rc_sumX rfl T.b_sum (by decide +kernel) (Y.cons (Y.vS 9) Y.nil)) Y.int) Y.nil)))))
   (Y.bone (Y.ret (Y.and (Y.cmp (Y.op_eqX K rfl (hu4_of hr)) Y.ro_eqX (Y.ix (Y.ix_G K rfl) Y.ro_ixS (Y.vS 10) Y.int) Y.str) (Y.and (Y.cmp (Y.op_eqX K rfl (hu4_of hr)) Y.ro_eqX (Y.cb (Y.call_sumX K rfl rfl) Y.rc_sumX rfl T.b_sum (by decide +kernel) (Y.cons (Y.ix (Y.ix_G K rfl) Y.ro_ixS (Y.vS 10) Y.int) Y.nil)) (Y.op op_sub Y.ro_int0 (Y.cb (Y.call_sumX K rfl rfl) Y.rc_sumX rfl T.b_sum (by decide +kernel) (Y.cons (Y.vS 9) Y.nil)) Y.int)) (Y.one (Y.cmp (Y.op_eqX K rfl (hu4_of hr)) Y.ro_eqX (Y.fn K rfl hrun_rows (hr.mono (by decide)) rfl pass0 (Y.cons (Y.vS 7) (Y.cons (Y.vS 3) (Y.cons (Y.cb (Y.call_sumX K rfl rfl) Y.rc_sumX rfl T.b_sum (by decide +kernel) (Y.cons (Y.vS 9) Y.nil)) Y.nil)))) (Y.vS 8))))))))))))), ?_⟩
 refine seqT fun N hN => ?_
 unfold plT
 walk_at "rt"
 rw [hN]; clear hN N
 refine seqT fun N hN => ?_
 walk_at "rt"
 refine ⟨d, rows, n, rfl, D, by omega, by omega, fun sk bh d h1 h2 hk hk2 D => ?_⟩
 obtain ⟨dd, GL, d1, d2, d3⟩ := set_run (sk := sk) (bh := bh) Pl.cl Pl.l0 G ge
 obtain ⟨L, hL⟩ : ∃ L : List Row, L = .jump (1 + sk.length) :: sk ++ rows.map (Row.mov (1 + sk.length)) ++ bh := ⟨_, rfl⟩
 rw [← hL] at GL d1 ⊢
 have Ll : L.length = 1 + sk.length + rows.length + bh.length := by rw [hL]; simp; omega
 have tl : turns.length = rows.length := by
  have := (runs_len rows N0 (rs0 rows g)).1
  rw [G.1, gn] at this
  rw [this]; exact List.length_map _
 have Lok : ∀ r ∈ L, r.Ok 100000 := by
  intro r hr
  rw [hL] at hr
  rcases List.mem_append.mp hr with h | h
  ·rcases List.mem_append.mp h with h | h
   ·rcases List.mem_cons.mp h with h | h
    ·rw [h]; show 1 + sk.length ≤ 100000; omega
    ·exact (hk r h).mono (by decide)
   ·obtain ⟨r0, h0, rfl⟩ := List.mem_map.mp h
    have := Pl.ok r0 h0
    cases r0 with
    | jump t => show t + (1 + sk.length) ≤ 100000; have : t ≤ 100 := this; omega
    | zero b t => exact ⟨this.1, by have := this.2; show t + (1 + sk.length) ≤ 100000; omega⟩
    | put b n => exact this
    | two u a b => exact this
    | one u b => exact this
    | halt => exact this
  ·exact (hk2 r h).mono (by decide)
 have hend : ¬ dd.at_ < L.length := by omega
 have hrun : ∀ m, N0 + 1 ≤ m → runs L m (rs0 L g) = dd := fun m hm => (GL.end hend hm).1
 have hsum : dd.turns.sum = (N0 + 1 : Nat) := by
  have := sum_run L g (N0 + 1)
  rw [GL.1, GL.2] at this
  exact this
 have hless : (runs L N0 (rs0 L g)).at_ < L.length ∧ (runs L N0 (rs0 L g)).turns.sum = (N0 : Nat) := by
  have e : stp L N0 (rs0 L g) = N0 := by
   have h1 := GL.2
   by_cases z : (runs L N0 (rs0 L g)).at_ < L.length
   ·exact stp_more L N0 _ z
   ·have := stp_stop (n := N0 + 1) z
    have := stp_le L N0 (rs0 L g)
    omega
  refine ⟨?_, by rw [sum_run, e]⟩
  by_cases z : (runs L N0 (rs0 L g)).at_ < L.length
  ·exact z
  ·have := stp_stop (n := N0 + 1) z
   rw [GL.2, e] at this
   omega
 have hout : ∀ m, N0 + 1 ≤ m → outT L (runs L m (rs0 L g)) = .tup [.str "halt", .tup (nI told), .tup (nI dd.turns), .tup (nI dd.st.bs)] := fun m hm => by
  rw [hrun m hm]
  unfold outT
  rw [if_neg hend, d2, gt]
 walk_at "rt"
 rw [hN]; clear hN N
 refine seqT fun N hN => ?_
 walk_at "rt"
 refine ⟨L, g, 400, rfl, by omega, Lok, by omega, by decide, ?_⟩
 rw [hout 400 (by omega)]
 walk_at "rt"
 rw [hN]; clear hN N
 refine seqT fun N hN => ?_
 wp_walk using pT_len
 have e1 : (((1 + sk.length : Nat) : Int) - 1).toNat = sk.length := by omega
 have e2 : (((L.length : Nat) : Int) - ((1 + sk.length : Nat) : Int) - ((rows.length : Nat) : Int)).toNat = bh.length := by omega
 rw [e1, e2, nI_rep, nI_rep]
 have ed : L2.T.int 1 :: (nI (List.replicate sk.length 0) ++ nI turns ++ nI (List.replicate bh.length 0)) = nI dd.turns := by
  rw [d3, gn, nI_app, nI_app]; rfl
 refine ⟨by decide, by decide, by omega, by omega, ?_, ?_⟩
 ·exact Nat.le_trans (show _ ≤ 200000 by simp; omega) szLine
 rw [ed]
 have sz : ∀ m, m ≤ 2000 → m ≤ sizeLine := fun m h => Nat.le_trans (Nat.le_trans h (by decide)) szLine
 refine ⟨sz _ (by rw [nI_len, List.length_replicate]; omega), sz _ (by rw [nI_len, nI_len, List.length_replicate]; omega), by decide, by omega, by omega, sz _ (by omega), sz _ (by rw [List.length_append, nI_len, nI_len, nI_len, List.length_replicate, List.length_replicate]; omega), ?_⟩
 rw [hN]; clear hN N
 refine seqT fun N hN => ?_
 wp_walk using cut_3
 refine ⟨by decide, fun _ => true, fun j x y hx hy => ?_, ?_⟩
 ·have hj : j < 3 := by
   rcases Nat.lt_or_ge j 3 with z | z
   ·exact z
   ·rw [List.getElem?_eq_none (by simpa using z)] at hx; cases hx
  have : ∀ (z : L2.T) (u : Nat), u < 3 → [L2.T.str "halt", .tup (nI told), .tup (nI dd.turns)][u]? = [L2.T.str "halt", .tup (nI told), .tup (nI dd.turns), .tup (nI dd.st.bs)][u]? := fun z u hu => by
   rcases (show u = 0 ∨ u = 1 ∨ u = 2 by omega) with rfl | rfl | rfl <;> rfl
  exact out_D "halt" told dd.turns dd.st.bs j x y (by rw [← this x j hj]; exact hx) (by rw [← this x j hj]; exact hy)
 wp_walk using (show allE 3 3 (fun _ => true) = true from rfl)
 refine ⟨dd.turns, rfl, ?_⟩
 rw [hsum]
 wp_walk using if_neg (show ¬ (400 : Int) < ((N0 + 1 : Nat) : Int) by omega)
 rw [hN]; clear hN N
 refine seqT fun N hN => ?_
 walk_at "rt"
 refine ⟨dd.turns, rfl, L, g, N0, by rw [hsum]; congr 4; omega, by omega, Lok, by omega, by omega, ?_⟩
 unfold outT
 rw [if_pos hless.1]
 have hl2 := hless.2
 obtain ⟨cl, hcl⟩ : ∃ cl, cl = runs L N0 (rs0 L g) := ⟨_, rfl⟩
 rw [← hcl] at hl2 ⊢
 walk_at "rt"
 rw [hN]; clear hN N
 wp_walk using if_pos (rfl : Str.ofString "more" = Str.ofString "more")
 rw [show decide True = true from rfl]
 refine ⟨cl.turns, rfl, dd.turns, rfl, ?_⟩
 rw [hl2, hsum, decide_eq_true (show ((N0 : Nat) : Int) = ((N0 + 1 : Nat) : Int) - 1 by omega)]
 refine ⟨dd.turns, rfl, L, g, N0 + 1, by rw [hsum], by omega, Lok, by omega, by omega, ?_⟩
 rw [hout (N0 + 1) (Nat.le_refl _)]
 walk_at "rt"
 refine ⟨fun _ => true, out_D _ _ _ _, ?_⟩
 wp_walk using out_E
 exact q _ (D.mono (by omega))
structure PlI where
 rows : List Row
 g : List Int
 told : List Int
 turns : List Int
noncomputable def PlI.t (x : PlI) : L2.T := plT x.rows x.g x.told x.turns
noncomputable def PlI.Ok (x : PlI) : Prop := Plant x.rows x.g x.told x.turns
theorem ok_law {f : Addr} {fd : FuncData} (T : Txt K mg) (F : Fun K "law" "law" s_law f fd) (h_law_deck : CallOk P w K mg base CX0 1 "_law_deck" ["script"] (spT K [false] tDeck)) (h_law_next : CallOk P w K mg base CX0 2 "_law_next" ["deck", "many"] (spT K [true, false] tNext)) (h_law_boxes : CallOk P w K mg base CX0 3 "_law_boxes" ["deck"] (spT K [true] tBoxes)) (h_law_product : CallOk P w K mg base CX0 1 "_law_product" ["boxes", "one", "other"] (spT K [true, false, false] tProduct)) (h_law_sum : CallOk P w K mg base CX0 1 "_law_sum" ["boxes", "some"] (spT K [true, false] tSumP)) (h_law_doubled : CallOk P w K mg base CX0 1 "_law_doubled" ["boxes", "one", "many"] (spT K [true, false, false] tDbl)) (h_law_taken_off : CallOk P w K mg base CX0 1 "_law_taken_off" ["boxes", "one", "times_so"] (spT K [true, false, false] tOff)) (h_law_right : CallOk P w K mg base CX0 7 "_law_right" ["deck", "planted"] (spT K [true, false] tRight6)) :
  FnOk P w K mg base CX0 8 f fd ["script"] (spLaw K) := by
 refine law_of (fun_okT F sc_law [false] rfl (by decide) (fun args Qt hl h cdv A outer s H E hr => ?_))
 have hu := hu_of hr
 obtain ⟨ns, rfl, hn, q⟩ := h
 refine ⟨_, (Y.bcons (Y.set (i := 1) sc_law.nd rfl (by walk_at "lc") (Y.fn K rfl h_law_deck (hr.mono (by decide)) rfl pass0 (Y.cons (Y.vS 0) Y.nil)))
   (Y.bcons (Y.forS PassesOwn.never rfl (Y.rng1 rfl T.b_range (Y.cons Y.int Y.nil)) (Y.gname (i := 2) sc_law.nd rfl (by walk_at "lc")) (Y.bcons (Y.set (i := 3) sc_law.nd rfl (by walk_at "lc") (Y.fn K rfl h_law_boxes (hr.mono (by decide)) rfl pass0 (Y.cons (Y.vS 1) Y.nil)))
   (Y.bcons (Y.set (i := 4) sc_law.nd rfl (by walk_at "lc") (Y.ix (Y.ix_G K rfl) Y.ro_ixS (Y.lst (Y.cons (Y.fn K rfl h_law_next (hr.mono (by decide)) rfl pass0 (Y.cons (Y.vS 1) (Y.cons Y.int Y.nil))) (Y.cons (Y.fn K rfl h_law_next (hr.mono (by decide)) rfl pass0 (Y.cons (Y.vS 1) (Y.cons Y.int Y.nil))) (Y.cons Y.int Y.nil)))) (Y.fn K rfl h_law_next (hr.mono (by decide)) rfl pass0 (Y.cons (Y.vS 1) (Y.cons Y.int Y.nil)))))
   (Y.bcons (Y.set (i := 5) sc_law.nd rfl (by walk_at "lc") (Y.lst (Y.cons (Y.fn K rfl h_law_product (hr.mono (by decide)) rfl pass0 (Y.cons (Y.vS 3) (Y.cons (Y.vS 4) (Y.cons (Y.op (Y.op_addG K rfl) Y.ro_addS (Y.fn K rfl h_law_next (hr.mono (by decide)) rfl pass0 (Y.cons (Y.vS 1) (Y.cons Y.int Y.nil))) (Y.op (Y.op_mulG K rfl) Y.ro_mulT Y.int (Y.op op_sub Y.ro_int0 (Y.fn K rfl h_law_next (hr.mono (by decide)) rfl pass0 (Y.cons (Y.vS 1) (Y.cons Y.int Y.nil))) Y.int))) Y.nil)))) Y.nil)))
   (Y.bcons (Y.set (i := 6) sc_law.nd rfl (by walk_at "lc") (Y.ct (Y.call_tupG K rfl) Y.rc_tuple rfl T.b_tuple (by decide +kernel) (Y.cons (Y.comp1 (osc := defScope s_law) (ON := ["script", "deck", "turn", "boxes", "one", "planted", "some"]) (own := ["k"]) (N := ["k", "script", "deck", "turn", "boxes", "one", "planted", "some"]) ⟨rfl, by decide +kernel, rfl, by decide +kernel, by decide +kernel, by decide +kernel, by decide +kernel, by decide +kernel⟩ rfl rfl rfl rfl (Y.rng1 rfl T.b_range (Y.cons (Y.fn K rfl h_law_next (hr.mono (by decide)) rfl pass0 (Y.cons (Y.vS 1) (Y.cons Y.int Y.nil))) Y.nil)) (fun _ _ _ _ => (Z.gname (i := 0) (show List.Nodup (["k", "script", "deck", "turn", "boxes", "one", "planted", "some"] : List Str) by decide +kernel) rfl (by walk_at "lc"))) (fun _ _ _ _ => Y.ts0) (fun _ _ _ _ => (Y.op (Y.op_addG K rfl) Y.ro_addS Y.int (Y.fn K rfl h_law_next (hr.mono (by decide)) rfl pass0 (Y.cons (Y.vS 2) (Y.cons Y.int Y.nil)))))) Y.nil)))
   (Y.bcons (Y.expr (Y.bm K rfl PySem.F.slot_list_append PySem.F.type_list_append mt_append Y.rm_append (Y.vS 5) (Y.cons (Y.fn K rfl h_law_sum (hr.mono (by decide)) rfl pass0 (Y.cons (Y.vS 3) (Y.cons (Y.vS 6) Y.nil))) Y.nil)))
   (Y.bcons (Y.expr (Y.bm K rfl PySem.F.slot_list_append PySem.F.type_list_append mt_append Y.rm_append (Y.vS 5) (Y.cons (Y.fn K rfl h_law_doubled (hr.mono (by decide)) rfl pass0 (Y.cons (Y.vS 3) (Y.cons (Y.vS 4) (Y.cons (Y.fn K rfl h_law_next (hr.mono (by decide)) rfl pass0 (Y.cons (Y.vS 1) (Y.cons Y.int Y.nil))) Y.nil)))) Y.nil)))
   (Y.bcons (Y.expr (Y.bm K rfl PySem.F.slot_list_append PySem.F.type_list_append mt_append Y.rm_append (Y.vS 5) (Y.cons (Y.fn K rfl h_law_taken_off (hr.mono (by decide)) rfl pass0 (Y.cons (Y.vS 3) (Y.cons (Y.op (Y.op_addG K rfl) Y.ro_addS Y.int (Y.op (Y.op_mulG K rfl) Y.ro_mulT Y.int (Y.fn K rfl h_law_next (hr.mono (by decide)) rfl pass0 (Y.cons (Y.vS 1) (Y.cons Y.int Y.nil))))) (Y.cons (Y.fn K rfl h_law_next (hr.mono (by decide)) rfl pass0 (Y.cons (Y.vS 1) (Y.cons Y.int Y.nil))) Y.nil)))) Y.nil)))
   (Y.bone (Y.ifS (Y.tnot (Y.ttruS K rfl (Y.cb (Y.call_allG K rfl rfl) Y.rc_all rfl T.b_all (by decide +kernel) (Y.cons (Y.comp1 (osc := defScope s_law) (ON := ["script", "deck", "turn", "boxes", "one", "planted", "some"]) (own := ["some"]) (N := ["some", "script", "deck", "turn", "boxes", "one", "planted", ".some"]) ⟨rfl, by decide +kernel, rfl, by decide +kernel, by decide +kernel, by decide +kernel, by decide +kernel, by decide +kernel⟩ rfl rfl rfl rfl (Y.anyS K rfl (Y.vS 5)) (fun _ _ _ _ => (Z.gname (i := 0) (show List.Nodup (["some", "script", "deck", "turn", "boxes", "one", "planted", ".some"] : List Str) by decide +kernel) rfl (by walk_at "lc"))) (fun _ _ _ _ => Y.ts0) (fun _ _ _ _ => (Y.fn K rfl h_law_right (hr.mono (by decide)) rfl pass0 (Y.cons (Y.vS 2) (Y.cons (Y.vS 0) Y.nil))))) Y.nil)))) (Y.bone (Y.ret Y.bl)) Y.bnil))))))))))
   (Y.bone (Y.ret Y.bl)))), ?_⟩
 refine seqT fun N hN => ?_
 show Y.uAsg _ _ _ (startM [false] [.rol (nI ns)] _)
 walk_at "rt"
 refine ⟨ns, rfl, hn, fun d D => ?_⟩
 walk_at "rt"
 rw [hN]; clear hN N
 refine seqT fun N hN => ?_
 walk_at "rt"
 refine ⟨by decide, by decide, ?_⟩
 refine for_ind (fun rest μ => ∃ (i : Nat) (d : L2.T) (s2 s4 s6 : Option L2.T) (s3 s5 : Sl), rest.length + i = 2 ∧ L2.nb (some s3) = True ∧ L2.nb (some s5) = True ∧ Deck (9000 * i) d ∧ μ = [.tr (.rol (nI ns)), .bx d, sl s2, s3, sl s4, s5, sl s6]) ⟨0, d, none, none, none, .un, .un, by simp, rfl, rfl, D, rfl⟩ ?_ ?_
 ·rintro μ ⟨i, d, s2, s4, s6, s3, s5, _, _, _, _, rfl⟩
  show N _
  rw [hN]; clear hN N
  walk_at "rt"
  exact q
 ·rintro t ts μ M ⟨i, d, s2, s4, s6, s3, s5, hi, b3, b5, D, rfl⟩ k
  rw [List.length_cons] at hi
  have nu : ∀ x : Sl, x = x := fun _ => rfl
  walk_at "rt"
  refine seqT fun M' hM => ?_
  walk_at "rt"
  refine ⟨d, 9000 * i, rfl, D, by omega, fun A d hA D => ?_⟩
  wp_walk using b3
  rw [hM]; clear hM M'
  refine seqT fun M' hM => ?_
  walk_at "rt"
  refine ⟨d, 65536, _, rfl, D, by omega, by decide, by decide, fun v1 d v10 v11 D => ?_⟩
  walk_at "rt"
  refine ⟨d, 9, _, rfl, D, by omega, by decide, by decide, fun v2 d v20 v21 D => ?_⟩
  walk_at "rt"
  refine ⟨by decide, d, 3, _, rfl, D, by omega, by decide, by decide, fun v3 d v30 v31 D => ?_⟩
  obtain ⟨one, ho, eo⟩ : ∃ one : Nat, one < 65536 ∧ atI [L2.T.int v1, .int v2, .int 65535] v3 = some (.int (one : Nat)) := by
   rcases (show v3 = 0 ∨ v3 = 1 ∨ v3 = 2 by omega) with rfl | rfl | rfl
   ·exact ⟨v1.toNat, by omega, by rw [Int.toNat_of_nonneg v10]; rfl⟩
   ·exact ⟨v2.toNat, by omega, by rw [Int.toNat_of_nonneg v20]; rfl⟩
   ·exact ⟨65535, by omega, rfl⟩
  wp_walk using eo
  rw [hM]; clear hM M'
  refine seqT fun M' hM => ?_
  walk_at "rt"
  refine ⟨d, 21, _, rfl, D, by omega, by decide, by decide, fun v4 d v40 v41 D => ?_⟩
  walk_at "rt"
  refine ⟨d, 3, _, rfl, D, by omega, by decide, by decide, fun v5 d v50 v51 D => ?_⟩
  walk_at "rt"
  refine ⟨.inl ⟨by decide, by decide⟩, A, (one : Nat), v4 + 65536 * (v5 - 1), rfl, hA, by omega, by omega, by omega, by omega, by omega, fun rows g told turns hP => ?_⟩
  wp_walk using b5
  refine ⟨by decide, ?_⟩
  rw [hM]; clear hM M' b3 b5
  refine seqT fun M' hM => ?_
  walk_at "rt"
  refine ⟨d, 19, _, rfl, D, by omega, by decide, by decide, fun m d m0 m1 D => ?_⟩
  walk_at "rt"
  refine ⟨by omega, by omega, ?_⟩
  refine cmp_ind (fun rest acc μ => ∃ (gv : List Int) (d : L2.T), rest.length + gv.length ≤ 18 ∧ (∀ x ∈ gv, 0 < x ∧ x < 65536) ∧ acc = nI gv ∧ Deck (9000 * i + 100 + gv.length) d ∧ μ = [.tr (.rol (nI ns)), .bx d, .tr t, .bx (.lst (sT (bS A))), .tr (.int (one : Nat)), .bx (.lst [plT rows g told turns]), sl s6]) ⟨[], d, ?_, by simp, rfl, D.mono (by rw [List.length_nil]; omega), rfl⟩ ?_ ?_
  ·rw [List.length_map, List.length_range]; simp; omega
  rotate_left
  ·rintro t' ts acc μ M2 ⟨gv, d, h1, hx, rfl, D, rfl⟩ k2
   rw [List.length_cons] at h1
   refine ⟨trivial, by rw [nI_len]; exact Nat.lt_of_lt_of_le (show _ < 200000 by omega) szLine, ?_⟩
   walk_at "rt"
   refine ⟨d, 65535, _, rfl, D, by omega, by decide, by decide, fun u d u0 u1 D => ?_⟩
   walk_at "rt"
   refine k2 _ _ ⟨gv ++ [1 + u], d, by simp; omega, fun x hx' => ?_, by simp [nI], D.mono (by simp; omega), rfl⟩
   rcases List.mem_append.mp hx' with h | h
   ·exact hx x h
   ·rw [List.mem_singleton.mp h]; omega
  rintro acc μ ⟨gv, d, h1, hx, rfl, D, rfl⟩
  simp at h1
  refine ⟨trivial, ?_⟩
  walk_at "rt"
  rw [hM]; clear hM M'
  refine seqT fun M' hM => ?_
  walk_at "rt"
  refine ⟨A, gv, rfl, hA, hx, by omega, fun rows2 g2 told2 turns2 hP2 => ?_⟩
  walk_at "rt"
  refine ⟨by decide, ?_⟩
  rw [hM]; clear hM M'
  refine seqT fun M' hM => ?_
  walk_at "rt"
  refine ⟨d, 20, _, rfl, D, by omega, by decide, by decide, fun w1' d w10 w11 D => ?_⟩
  obtain ⟨kn, rfl⟩ : ∃ kn : Nat, w1' = kn := ⟨w1'.toNat, by omega⟩
  walk_at "rt"
  refine ⟨A, one, kn, rfl, hA, ho, by omega, fun rows3 g3 told3 turns3 hP3 => ?_⟩
  walk_at "rt"
  refine ⟨by decide, ?_⟩
  rw [hM]; clear hM M'
  refine seqT fun M' hM => ?_
  walk_at "rt"
  refine ⟨d, 30000, _, rfl, D, by omega, by decide, by decide, fun w2' d w20 w21 D => ?_⟩
  obtain ⟨jn, rfl⟩ : ∃ jn : Nat, w2' = jn := ⟨w2'.toNat, by omega⟩
  walk_at "rt"
  refine ⟨.inl ⟨by decide, by decide⟩, d, 20, _, rfl, D, by omega, by decide, by decide, fun w3' d w30 w31 D => ?_⟩
  obtain ⟨ln, rfl⟩ : ∃ ln : Nat, w3' = ln := ⟨w3'.toNat, by omega⟩
  walk_at "rt"
  refine ⟨A, 1 + 2 * jn, ln, by congr 3, hA, by omega, by omega, by omega, fun rows4 g4 told4 turns4 hP4 => ?_⟩
  walk_at "rt"
  refine ⟨by decide, ?_⟩
  rw [hM]; clear hM M'
  walk_at "rt"
  obtain ⟨all4, ha4⟩ : ∃ all4 : List L2.T, all4 = [plT rows g told turns, plT rows2 g2 told2 turns2, plT rows3 g3 told3 turns3, plT rows4 g4 told4 turns4] := ⟨_, rfl⟩
  obtain ⟨ps, hps, hpo, hpl⟩ : ∃ ps : List PlI, all4 = ps.map PlI.t ∧ (∀ p ∈ ps, p.Ok) ∧ ps.length = 4 := by
   refine ⟨[⟨rows, g, told, turns⟩, ⟨rows2, g2, told2, turns2⟩, ⟨rows3, g3, told3, turns3⟩, ⟨rows4, g4, told4, turns4⟩], ha4, fun p hp => ?_, rfl⟩
   simp only [List.mem_cons, List.not_mem_nil, or_false] at hp
   rcases hp with rfl | rfl | rfl | rfl
   ·exact hP
   ·exact hP2
   ·exact hP3
   ·exact hP4
  rw [← ha4]
  refine cmp_ind (fun rest acc μ => ∃ (xs : List PlI) (j : Nat) (d : L2.T), rest = xs.map PlI.t ∧ (∀ p ∈ xs, p.Ok) ∧ xs.length + j = 4 ∧ acc = List.replicate j (.bl true) ∧ Deck (9000 * i + 1000 + 1000 * j) d ∧ μ = [.tr (.rol (nI ns)), .bx d, .tr t, .bx (.lst (sT (bS A))), .tr (.int (one : Nat)), .bx (.lst all4), .tr (.tup (nI gv))]) ⟨ps, 0, d, hps, hpo, hpl, rfl, D.mono (by omega), rfl⟩ ?_ ?_
  ·rintro acc μ ⟨xs, j, d, e, _, hj, rfl, D, rfl⟩
   have : xs = [] := by simpa using e.symm
   subst this
   have hj4 : j = 4 := by simpa using hj
   subst hj4
   refine ⟨rfl, ?_⟩
   walk_at "rt"
   refine ⟨[true, true, true, true], rfl, ?_⟩
   rw [if_neg (by decide)]
   exact k _ ⟨i + 1, d, some _, some _, some _, _, _, by omega, rfl, rfl, D.mono (by omega), rfl⟩
  ·rintro t' ts acc μ M2 ⟨xs, j, d, e, hx, hj, rfl, D, rfl⟩ k2
   cases xs with
   | nil => cases e
   | cons x xs =>
    have e' : t' = x.t ∧ ts = xs.map PlI.t := by simpa using e
    obtain ⟨rfl, rfl⟩ := e'
    rw [List.length_cons] at hj
    refine ⟨rfl, by rw [List.length_replicate]; exact Nat.lt_of_lt_of_le (show _ < 200000 by omega) szLine, ?_⟩
    walk_at "rt"
    refine ⟨d, x.rows, x.g, x.told, x.turns, _, rfl, D, by omega, hx x List.mem_cons_self, fun d D => ?_⟩
    walk_at "rt"
    exact k2 _ _ ⟨xs, j + 1, d, rfl, fun p hp => hx p (List.mem_cons_of_mem _ hp), by omega, by rw [List.replicate_succ'], D.mono (by omega), rfl⟩
theorem all_ok {f : Addr} {fd : FuncData} (T : Txt K mg) (f_goal_of : HasFn K mg "goal_of" s_goal_of ["row"]) (f_run_rows : HasFn K mg "run_rows" s_run_rows ["program", "given", "most"]) (f_mix : HasFn K mg "_law_mix" s__law_mix ["cell", "k"]) (f_deck : HasFn K mg "_law_deck" s__law_deck ["script"]) (f_next : HasFn K mg "_law_next" s__law_next ["deck", "many"]) (f_number : HasFn K mg "_law_number" s__law_number ["deck"]) (f_row : HasFn K mg "_law_row" s__law_row ["deck", "size"]) (f_moved : HasFn K mg "_law_moved" s__law_moved ["rows", "ahead"]) (f_set : HasFn K mg "_law_set" s__law_set ["deck", "rows"]) (f_product : HasFn K mg "_law_product" s__law_product ["boxes", "one", "other"]) (f_sum : HasFn K mg "_law_sum" s__law_sum ["boxes", "some"]) (f_dbl : HasFn K mg "_law_doubled" s__law_doubled ["boxes", "one", "many"]) (f_off : HasFn K mg "_law_taken_off" s__law_taken_off ["boxes", "one", "times_so"]) (f_boxes : HasFn K mg "_law_boxes" s__law_boxes ["deck"]) (f_right : HasFn K mg "_law_right" s__law_right ["deck", "planted"]) (F : Fun K "law" "law" s_law f fd) :
  FnOk P w K mg base CX0 8 f fd ["script"] (spLaw K) := by
 have nx := ok_next (P := P) (w := w) (base := base) T f_next (ok_mix T f_mix)
 have rw' := ok_row T f_row nx (ok_number T f_number nx)
 have rn := ok_run T (ok_goal (P := P) (w := w) (base := base) T f_goal_of) f_run_rows
 exact ok_law T F (ok_deck T f_deck) nx (ok_boxesL T f_boxes nx) (ok_product T f_product) (ok_sumP T f_sum) (ok_dbl T f_dbl) (ok_off T f_off) (ok_right6 T f_right (ok_set T f_set nx rw' (ok_moved T f_moved)) rn)
theorem all_mk {l : PySem.W.OpenLaw} {w : World} {K : PySem.W.Frag} {h : Heap} {mg : Str → Option Value} {fa : Addr} (X : K.In h) (G : h.Ns mainGlobals mg) (hfa : mg "law" = some (.ref fa))
  {f0 f1 f2 f3 f4 f5 f6 f7 f8 f9 f10 f11 f12 f13 f14 f15 : Addr} {od0 an0 od1 an1 od2 an2 od3 an3 od4 an4 od5 an5 od6 an6 od7 an7 od8 an8 od9 an9 od10 an10 od11 an11 od12 an12 od13 an13 od14 an14 od15 an15 : Option Addr} {sl0 sl1 sl2 sl3 sl4 sl5 sl6 sl7 sl8 sl9 sl10 sl11 sl12 sl13 sl14 sl15 : Array (Option Value)} {oc0 kV0 dc0 pm0 cd0 ct0 oc1 kV1 dc1 pm1 cd1 ct1 oc2 kV2 dc2 pm2 cd2 ct2 oc3 kV3 dc3 pm3 cd3 ct3 oc4 kV4 dc4 pm4 cd4 ct4 oc5 kV5 dc5 pm5 cd5 ct5 oc6 kV6 dc6 pm6 cd6 ct6 oc7 kV7 dc7 pm7 cd7 ct7 oc8 kV8 dc8 pm8 cd8 ct8 oc9 kV9 dc9 pm9 cd9 ct9 oc10 kV10 dc10 pm10 cd10 ct10 oc11 kV11 dc11 pm11 cd11 ct11 oc12 kV12 dc12 pm12 cd12 ct12 oc13 kV13 dc13 pm13 cd13 ct13 oc14 kV14 dc14 pm14 cd14 ct14 oc15 kV15 dc15 pm15 cd15 ct15 : Value}
  {q0 : Addr} {qd0 : Option Addr} {qn0 : Nat} {qs0 : Array (Option Value)} {w0_0 w0_1 w0_2 w0_3 w0_4 w0_5 w0_6 w0_7 : Tok}
  {w1_0 : Tok}
  {dd0 : Addr} {dh0_ep : Nat} {dh0_0 dh0_1 dh0_2 dh0_3 dh0_4 dh0_5 dh0_6 dh0_7 dh0_8 : Int} {dp0_0 dp0_1 dp0_2 dp0_3 dp0_4 dp0_5 dp0_6 dp0_7 dp0_8 : Addr} {do0_0 do0_1 do0_2 do0_3 do0_4 do0_5 do0_6 do0_7 do0_8 : Option Addr} {dn0_0 dn0_1 dn0_2 dn0_3 dn0_4 dn0_5 dn0_6 dn0_7 dn0_8 : Nat} {ds0_0 ds0_1 ds0_2 ds0_3 ds0_4 ds0_5 ds0_6 ds0_7 ds0_8 : Array (Option Value)} {dt0_0 dt0_1 dt0_2 dt0_3 dt0_4 dt0_5 dt0_6 dt0_7 dt0_8 dw0_0_0 dw0_0_1 dw0_1_0 dw0_1_1 dw0_2_0 dw0_2_1 dw0_3_0 dw0_3_1 dw0_4_0 dw0_5_0 dw0_6_0 dw0_7_0 dw0_7_1 : Tok}
  {mC mf0 mf1 mf2 mf3 mf4 mf5 mf6 : Addr} {mod0 man0 mod1 man1 mod2 man2 mod3 man3 mod4 man4 mod5 man5 mod6 man6 : Option Addr} {msl0 msl1 msl2 msl3 msl4 msl5 msl6 : Array (Option Value)} {moc0 mkV0 mdc0 mpm0 mcd0 mct0 moc1 mkV1 mdc1 mpm1 mcd1 mct1 moc2 mkV2 mdc2 mpm2 mcd2 mct2 moc3 mkV3 mdc3 mpm3 mcd3 mct3 moc4 mkV4 mdc4 mpm4 mcd4 mct4 moc5 mkV5 mdc5 mpm5 mcd5 mct5 moc6 mkV6 mdc6 mpm6 mcd6 mct6 : Value}
  (a0 : PySem.W.nsIn K mainGlobals "goal_of" = some (some (.ref f0))) (l0 : K.lookup f0 = some ⟨oc0, od0, .func (PySem.W.fnOf "goal_of" "goal_of" (defArgs s_goal_of) (defBody s_goal_of) (defScope s_goal_of) .none kV0 dc0 pm0 an0 cd0 ct0), sl0⟩) (c0 : PySem.W.codeIn K cd0 "goal_of" = true) (k0 : PySem.W.keepIn K (.ref f0) = true)
  (a1 : PySem.W.nsIn K mainGlobals "run_rows" = some (some (.ref f1))) (l1 : K.lookup f1 = some ⟨oc1, od1, .func (PySem.W.fnOf "run_rows" "run_rows" (defArgs s_run_rows) (defBody s_run_rows) (defScope s_run_rows) .none kV1 dc1 pm1 an1 cd1 ct1), sl1⟩) (c1 : PySem.W.codeIn K cd1 "run_rows" = true) (k1 : PySem.W.keepIn K (.ref f1) = true)
  (a2 : PySem.W.nsIn K mainGlobals "_law_mix" = some (some (.ref f2))) (l2 : K.lookup f2 = some ⟨oc2, od2, .func (PySem.W.fnOf "_law_mix" "_law_mix" (defArgs s__law_mix) (defBody s__law_mix) (defScope s__law_mix) .none kV2 dc2 pm2 an2 cd2 ct2), sl2⟩) (c2 : PySem.W.codeIn K cd2 "_law_mix" = true) (k2 : PySem.W.keepIn K (.ref f2) = true)
  (a3 : PySem.W.nsIn K mainGlobals "_law_deck" = some (some (.ref f3))) (l3 : K.lookup f3 = some ⟨oc3, od3, .func (PySem.W.fnOf "_law_deck" "_law_deck" (defArgs s__law_deck) (defBody s__law_deck) (defScope s__law_deck) .none kV3 dc3 pm3 an3 cd3 ct3), sl3⟩) (c3 : PySem.W.codeIn K cd3 "_law_deck" = true) (k3 : PySem.W.keepIn K (.ref f3) = true)
  (a4 : PySem.W.nsIn K mainGlobals "_law_next" = some (some (.ref f4))) (l4 : K.lookup f4 = some ⟨oc4, od4, .func (PySem.W.fnOf "_law_next" "_law_next" (defArgs s__law_next) (defBody s__law_next) (defScope s__law_next) .none kV4 dc4 pm4 an4 cd4 ct4), sl4⟩) (c4 : PySem.W.codeIn K cd4 "_law_next" = true) (k4 : PySem.W.keepIn K (.ref f4) = true)
  (a5 : PySem.W.nsIn K mainGlobals "_law_number" = some (some (.ref f5))) (l5 : K.lookup f5 = some ⟨oc5, od5, .func (PySem.W.fnOf "_law_number" "_law_number" (defArgs s__law_number) (defBody s__law_number) (defScope s__law_number) .none kV5 dc5 pm5 an5 cd5 ct5), sl5⟩) (c5 : PySem.W.codeIn K cd5 "_law_number" = true) (k5 : PySem.W.keepIn K (.ref f5) = true)
  (a6 : PySem.W.nsIn K mainGlobals "_law_row" = some (some (.ref f6))) (l6 : K.lookup f6 = some ⟨oc6, od6, .func (PySem.W.fnOf "_law_row" "_law_row" (defArgs s__law_row) (defBody s__law_row) (defScope s__law_row) .none kV6 dc6 pm6 an6 cd6 ct6), sl6⟩) (c6 : PySem.W.codeIn K cd6 "_law_row" = true) (k6 : PySem.W.keepIn K (.ref f6) = true)
  (a7 : PySem.W.nsIn K mainGlobals "_law_moved" = some (some (.ref f7))) (l7 : K.lookup f7 = some ⟨oc7, od7, .func (PySem.W.fnOf "_law_moved" "_law_moved" (defArgs s__law_moved) (defBody s__law_moved) (defScope s__law_moved) .none kV7 dc7 pm7 an7 cd7 ct7), sl7⟩) (c7 : PySem.W.codeIn K cd7 "_law_moved" = true) (k7 : PySem.W.keepIn K (.ref f7) = true)
  (a8 : PySem.W.nsIn K mainGlobals "_law_set" = some (some (.ref f8))) (l8 : K.lookup f8 = some ⟨oc8, od8, .func (PySem.W.fnOf "_law_set" "_law_set" (defArgs s__law_set) (defBody s__law_set) (defScope s__law_set) .none kV8 dc8 pm8 an8 cd8 ct8), sl8⟩) (c8 : PySem.W.codeIn K cd8 "_law_set" = true) (k8 : PySem.W.keepIn K (.ref f8) = true)
  (a9 : PySem.W.nsIn K mainGlobals "_law_product" = some (some (.ref f9))) (l9 : K.lookup f9 = some ⟨oc9, od9, .func (PySem.W.fnOf "_law_product" "_law_product" (defArgs s__law_product) (defBody s__law_product) (defScope s__law_product) .none kV9 dc9 pm9 an9 cd9 ct9), sl9⟩) (c9 : PySem.W.codeIn K cd9 "_law_product" = true) (k9 : PySem.W.keepIn K (.ref f9) = true)
  (a10 : PySem.W.nsIn K mainGlobals "_law_sum" = some (some (.ref f10))) (l10 : K.lookup f10 = some ⟨oc10, od10, .func (PySem.W.fnOf "_law_sum" "_law_sum" (defArgs s__law_sum) (defBody s__law_sum) (defScope s__law_sum) .none kV10 dc10 pm10 an10 cd10 ct10), sl10⟩) (c10 : PySem.W.codeIn K cd10 "_law_sum" = true) (k10 : PySem.W.keepIn K (.ref f10) = true)
  (a11 : PySem.W.nsIn K mainGlobals "_law_doubled" = some (some (.ref f11))) (l11 : K.lookup f11 = some ⟨oc11, od11, .func (PySem.W.fnOf "_law_doubled" "_law_doubled" (defArgs s__law_doubled) (defBody s__law_doubled) (defScope s__law_doubled) .none kV11 dc11 pm11 an11 cd11 ct11), sl11⟩) (c11 : PySem.W.codeIn K cd11 "_law_doubled" = true) (k11 : PySem.W.keepIn K (.ref f11) = true)
  (a12 : PySem.W.nsIn K mainGlobals "_law_taken_off" = some (some (.ref f12))) (l12 : K.lookup f12 = some ⟨oc12, od12, .func (PySem.W.fnOf "_law_taken_off" "_law_taken_off" (defArgs s__law_taken_off) (defBody s__law_taken_off) (defScope s__law_taken_off) .none kV12 dc12 pm12 an12 cd12 ct12), sl12⟩) (c12 : PySem.W.codeIn K cd12 "_law_taken_off" = true) (k12 : PySem.W.keepIn K (.ref f12) = true)
  (a13 : PySem.W.nsIn K mainGlobals "_law_boxes" = some (some (.ref f13))) (l13 : K.lookup f13 = some ⟨oc13, od13, .func (PySem.W.fnOf "_law_boxes" "_law_boxes" (defArgs s__law_boxes) (defBody s__law_boxes) (defScope s__law_boxes) .none kV13 dc13 pm13 an13 cd13 ct13), sl13⟩) (c13 : PySem.W.codeIn K cd13 "_law_boxes" = true) (k13 : PySem.W.keepIn K (.ref f13) = true)
  (a14 : PySem.W.nsIn K mainGlobals "_law_right" = some (some (.ref f14))) (l14 : K.lookup f14 = some ⟨oc14, od14, .func (PySem.W.fnOf "_law_right" "_law_right" (defArgs s__law_right) (defBody s__law_right) (defScope s__law_right) .none kV14 dc14 pm14 an14 cd14 ct14), sl14⟩) (c14 : PySem.W.codeIn K cd14 "_law_right" = true) (k14 : PySem.W.keepIn K (.ref f14) = true)
  (a15 : PySem.W.nsIn K mainGlobals "law" = some (some (.ref f15))) (l15 : K.lookup f15 = some ⟨oc15, od15, .func (PySem.W.fnOf "law" "law" (defArgs s_law) (defBody s_law) (defScope s_law) .none kV15 dc15 pm15 an15 cd15 ct15), sl15⟩) (c15 : PySem.W.codeIn K cd15 "law" = true) (k15 : PySem.W.keepIn K (.ref f15) = true)
  (z0 : PySem.W.nsIn K mainGlobals "all" = some none)
  (z1 : PySem.W.nsIn K mainGlobals "dict" = some none)
  (z2 : PySem.W.nsIn K mainGlobals "int" = some none)
  (z3 : PySem.W.nsIn K mainGlobals "len" = some none)
  (z4 : PySem.W.nsIn K mainGlobals "list" = some none)
  (z5 : PySem.W.nsIn K mainGlobals "min" = some none)
  (z6 : PySem.W.nsIn K mainGlobals "range" = some none)
  (z7 : PySem.W.nsIn K mainGlobals "sum" = some none)
  (z8 : PySem.W.nsIn K mainGlobals "tuple" = some none)
  (g0 : PySem.W.nsIn K mainGlobals "BOXES" = some (some (.ref q0))) (m0 : K.lookup q0 = some ⟨.type "tuple", qd0, .seq #[.str "a" w0_0, .str "b" w0_1, .str "c" w0_2, .str "d" w0_3, .str "e" w0_4, .str "f" w0_5, .str "g" w0_6, .str "h" w0_7] qn0, qs0⟩)
  (g1 : PySem.W.nsIn K mainGlobals "WHOLE" = some (some (.int 65536 w1_0)))
  (dg0 : PySem.W.nsIn K mainGlobals "SHAPES" = some (some (.ref dd0))) (dz0 : (dd0 == sysModules) = false) (dl0 : K.lookup dd0 = some ⟨.type "dict", none, .dict #[⟨dh0_0, .str "put" dt0_0, .ref dp0_0⟩, ⟨dh0_1, .str "add" dt0_1, .ref dp0_1⟩, ⟨dh0_2, .str "sub" dt0_2, .ref dp0_2⟩, ⟨dh0_3, .str "copy" dt0_3, .ref dp0_3⟩, ⟨dh0_4, .str "tell" dt0_4, .ref dp0_4⟩, ⟨dh0_5, .str "hear" dt0_5, .ref dp0_5⟩, ⟨dh0_6, .str "jump" dt0_6, .ref dp0_6⟩, ⟨dh0_7, .str "zero" dt0_7, .ref dp0_7⟩, ⟨dh0_8, .str "halt" dt0_8, .ref dp0_8⟩] dh0_ep, #[]⟩)
  (dm0_0 : K.lookup dp0_0 = some ⟨.type "tuple", do0_0, .seq #[.str "box" dw0_0_0, .str "number" dw0_0_1] dn0_0, ds0_0⟩)
  (dm0_1 : K.lookup dp0_1 = some ⟨.type "tuple", do0_1, .seq #[.str "box" dw0_1_0, .str "box" dw0_1_1] dn0_1, ds0_1⟩)
  (dm0_2 : K.lookup dp0_2 = some ⟨.type "tuple", do0_2, .seq #[.str "box" dw0_2_0, .str "box" dw0_2_1] dn0_2, ds0_2⟩)
  (dm0_3 : K.lookup dp0_3 = some ⟨.type "tuple", do0_3, .seq #[.str "box" dw0_3_0, .str "box" dw0_3_1] dn0_3, ds0_3⟩)
  (dm0_4 : K.lookup dp0_4 = some ⟨.type "tuple", do0_4, .seq #[.str "box" dw0_4_0] dn0_4, ds0_4⟩)
  (dm0_5 : K.lookup dp0_5 = some ⟨.type "tuple", do0_5, .seq #[.str "box" dw0_5_0] dn0_5, ds0_5⟩)
  (dm0_6 : K.lookup dp0_6 = some ⟨.type "tuple", do0_6, .seq #[.str "goal" dw0_6_0] dn0_6, ds0_6⟩)
  (dm0_7 : K.lookup dp0_7 = some ⟨.type "tuple", do0_7, .seq #[.str "box" dw0_7_0, .str "goal" dw0_7_1] dn0_7, ds0_7⟩)
  (dm0_8 : K.lookup dp0_8 = some ⟨.type "tuple", do0_8, .seq #[] dn0_8, ds0_8⟩)
  (mq0 : PySem.W.nsIn K mainGlobals "Machine" = some (some (.ref mC)))
  (mq1 : PySem.W.plainGet K mC Str.empty = true)
  (mq2 : PySem.W.hasDictIn K mC = true)
  (mq3 : PySem.W.plainOver K mC = true)
  (mq4 : PySem.W.findIn K (.ref mC) "__setattr__" = some (some (.builtin "object.__setattr__")))
  (mq5 : PySem.W.findIn K (.ref mC) "given" = some none)
  (mq6 : PySem.W.findIn K (.ref mC) "heard" = some none)
  (mq7 : PySem.W.findIn K (.ref mC) "told" = some none)
  (mq8 : PySem.W.findIn K (.ref mC) "boxes" = some none)
  (mq9 : PySem.W.findIn K (.ref mC) "__init__" = some (some (.ref mf0)))
  (mq10 : PySem.W.isFn K (.ref mf0) = true)
  (mq11 : PySem.W.keepIn K (.ref mf0) = true)
  (mq12 : K.lookup mf0 = some ⟨moc0, mod0, .func (PySem.W.fnOf "__init__" "Machine.__init__" (defArgs s_Machine___init__) (defBody s_Machine___init__) (defScope s_Machine___init__) .none mkV0 mdc0 mpm0 man0 mcd0 mct0), msl0⟩)
  (mq13 : PySem.W.codeIn K mcd0 "Machine.__init__" = true)
  (mq14 : PySem.W.makesIn K mC = true)
  (mq15 : PySem.W.keepIn K (.ref mC) = true)
  (mq16 : PySem.W.findIn K (.ref mC) "place_next" = some (some (.ref mf1)))
  (mq17 : PySem.W.isFn K (.ref mf1) = true)
  (mq18 : PySem.W.keepIn K (.ref mf1) = true)
  (mq19 : K.lookup mf1 = some ⟨moc1, mod1, .func (PySem.W.fnOf "place_next" "Machine.place_next" (defArgs s_Machine_place_next) (defBody s_Machine_place_next) (defScope s_Machine_place_next) .none mkV1 mdc1 mpm1 man1 mcd1 mct1), msl1⟩)
  (mq20 : PySem.W.codeIn K mcd1 "Machine.place_next" = true)
  (mq21 : PySem.W.findIn K (.ref mC) "carry_out" = some (some (.ref mf2)))
  (mq22 : PySem.W.isFn K (.ref mf2) = true)
  (mq23 : PySem.W.keepIn K (.ref mf2) = true)
  (mq24 : K.lookup mf2 = some ⟨moc2, mod2, .func (PySem.W.fnOf "carry_out" "Machine.carry_out" (defArgs s_Machine_carry_out) (defBody s_Machine_carry_out) (defScope s_Machine_carry_out) .none mkV2 mdc2 mpm2 man2 mcd2 mct2), msl2⟩)
  (mq25 : PySem.W.codeIn K mcd2 "Machine.carry_out" = true)
  (mq26 : PySem.W.findIn K (.ref mC) "number_for" = some (some (.ref mf3)))
  (mq27 : PySem.W.isFn K (.ref mf3) = true)
  (mq28 : PySem.W.keepIn K (.ref mf3) = true)
  (mq29 : K.lookup mf3 = some ⟨moc3, mod3, .func (PySem.W.fnOf "number_for" "Machine.number_for" (defArgs s_Machine_number_for) (defBody s_Machine_number_for) (defScope s_Machine_number_for) .none mkV3 mdc3 mpm3 man3 mcd3 mct3), msl3⟩)
  (mq30 : PySem.W.codeIn K mcd3 "Machine.number_for" = true)
  (mq31 : PySem.W.findIn K (.ref mC) "heard_number" = some (some (.ref mf4)))
  (mq32 : PySem.W.isFn K (.ref mf4) = true)
  (mq33 : PySem.W.keepIn K (.ref mf4) = true)
  (mq34 : K.lookup mf4 = some ⟨moc4, mod4, .func (PySem.W.fnOf "heard_number" "Machine.heard_number" (defArgs s_Machine_heard_number) (defBody s_Machine_heard_number) (defScope s_Machine_heard_number) .none mkV4 mdc4 mpm4 man4 mcd4 mct4), msl4⟩)
  (mq35 : PySem.W.codeIn K mcd4 "Machine.heard_number" = true)
  (mq36 : PySem.W.findIn K (.ref mC) "told_numbers" = some (some (.ref mf5)))
  (mq37 : PySem.W.isFn K (.ref mf5) = true)
  (mq38 : PySem.W.keepIn K (.ref mf5) = true)
  (mq39 : K.lookup mf5 = some ⟨moc5, mod5, .func (PySem.W.fnOf "told_numbers" "Machine.told_numbers" (defArgs s_Machine_told_numbers) (defBody s_Machine_told_numbers) (defScope s_Machine_told_numbers) .none mkV5 mdc5 mpm5 man5 mcd5 mct5), msl5⟩)
  (mq40 : PySem.W.codeIn K mcd5 "Machine.told_numbers" = true)
  (mq41 : PySem.W.findIn K (.ref mC) "box_numbers" = some (some (.ref mf6)))
  (mq42 : PySem.W.isFn K (.ref mf6) = true)
  (mq43 : PySem.W.keepIn K (.ref mf6) = true)
  (mq44 : K.lookup mf6 = some ⟨moc6, mod6, .func (PySem.W.fnOf "box_numbers" "Machine.box_numbers" (defArgs s_Machine_box_numbers) (defBody s_Machine_box_numbers) (defScope s_Machine_box_numbers) .none mkV6 mdc6 mpm6 man6 mcd6 mct6), msl6⟩)
  (mq45 : PySem.W.codeIn K mcd6 "Machine.box_numbers" = true)
  : ∃ fd : FuncData, (∀ (s : Shared) (v : Value), BindsTo s fd ⟨[v], []⟩ [("script", v)]) ∧ ∀ base : Heap, K.In base → base.Ns mainGlobals mg → FnOk l.prog w K mg base CX0 30 fa fd ["script"] (spLaw K) := by
 have e := hfa.symm.trans (PySem.W.mg_of X G a15)
 cases e
 have T : Txt K mg := ⟨PySem.W.mg_none_of X G z0, PySem.W.mg_none_of X G z1, PySem.W.mg_none_of X G z2, PySem.W.mg_none_of X G z3, PySem.W.mg_none_of X G z4, PySem.W.mg_none_of X G z5, PySem.W.mg_none_of X G z6, PySem.W.mg_none_of X G z7, PySem.W.mg_none_of X G z8, ⟨.ref q0, _, PySem.W.mg_of X G g0, rfl, fun H B => .ktp (vs := [.str "a", .str "b", .str "c", .str "d", .str "e", .str "f", .str "g", .str "h"]) ⟨_, _, _, m0, rfl, rfl, (by show 8 ≤ sizeLine; decide), (.cons ⟨w0_0, rfl⟩ (.cons ⟨w0_1, rfl⟩ (.cons ⟨w0_2, rfl⟩ (.cons ⟨w0_3, rfl⟩ (.cons ⟨w0_4, rfl⟩ (.cons ⟨w0_5, rfl⟩ (.cons ⟨w0_6, rfl⟩ (.cons ⟨w0_7, rfl⟩ .nil))))))))⟩ (.cons (.str _) (.cons (.str _) (.cons (.str _) (.cons (.str _) (.cons (.str _) (.cons (.str _) (.cons (.str _) (.cons (.str _) .nil))))))))⟩, ⟨.int 65536, _, PySem.W.mg_of X G g1, ⟨_, rfl⟩, fun H B => .int _⟩, ⟨dd0, PySem.W.mg_of X G dg0, dz0, _, _, _, dl0, ⟨rfl, rfl, rfl⟩, rfl, (.cons rfl ⟨dp0_0, rfl, ⟨_, _, _, dm0_0, rfl, rfl, (by show 2 ≤ sizeLine; decide), (.cons ⟨dw0_0_0, rfl⟩ (.cons ⟨dw0_0_1, rfl⟩ .nil))⟩⟩ (.cons rfl ⟨dp0_1, rfl, ⟨_, _, _, dm0_1, rfl, rfl, (by show 2 ≤ sizeLine; decide), (.cons ⟨dw0_1_0, rfl⟩ (.cons ⟨dw0_1_1, rfl⟩ .nil))⟩⟩ (.cons rfl ⟨dp0_2, rfl, ⟨_, _, _, dm0_2, rfl, rfl, (by show 2 ≤ sizeLine; decide), (.cons ⟨dw0_2_0, rfl⟩ (.cons ⟨dw0_2_1, rfl⟩ .nil))⟩⟩ (.cons rfl ⟨dp0_3, rfl, ⟨_, _, _, dm0_3, rfl, rfl, (by show 2 ≤ sizeLine; decide), (.cons ⟨dw0_3_0, rfl⟩ (.cons ⟨dw0_3_1, rfl⟩ .nil))⟩⟩ (.cons rfl ⟨dp0_4, rfl, ⟨_, _, _, dm0_4, rfl, rfl, (by show 1 ≤ sizeLine; decide), (.cons ⟨dw0_4_0, rfl⟩ .nil)⟩⟩ (.cons rfl ⟨dp0_5, rfl, ⟨_, _, _, dm0_5, rfl, rfl, (by show 1 ≤ sizeLine; decide), (.cons ⟨dw0_5_0, rfl⟩ .nil)⟩⟩ (.cons rfl ⟨dp0_6, rfl, ⟨_, _, _, dm0_6, rfl, rfl, (by show 1 ≤ sizeLine; decide), (.cons ⟨dw0_6_0, rfl⟩ .nil)⟩⟩ (.cons rfl ⟨dp0_7, rfl, ⟨_, _, _, dm0_7, rfl, rfl, (by show 2 ≤ sizeLine; decide), (.cons ⟨dw0_7_0, rfl⟩ (.cons ⟨dw0_7_1, rfl⟩ .nil))⟩⟩ (.cons rfl ⟨dp0_8, rfl, ⟨_, _, _, dm0_8, rfl, rfl, (by show 0 ≤ sizeLine; decide), .nil⟩⟩ .nil)))))))))⟩, ⟨_, _, _, _, _, _, _, _, _, _, _, _, _, _, _, PySem.W.mg_of X G mq0, ⟨mq1, mq2, mq3, mq4⟩, mq5, mq6, mq7, mq8, ⟨mq14, mq9, mq10, mq15⟩, fun_mk (st := s_Machine___init__) mq12 mq13 mq11, (fun_mk (st := s_Machine___init__) mq12 mq13 mq11).binds (ps := ["self", "given"]) (fun _ _ _ _ _ _ us hl => by obtain ⟨_, _, rfl⟩ := Y.len2 hl; rfl), ⟨mq16, mq17, mq18⟩, fun_mk (st := s_Machine_place_next) mq19 mq20 mq18, (fun_mk (st := s_Machine_place_next) mq19 mq20 mq18).binds (ps := ["self", "row", "behind", "end"]) (fun _ _ _ _ _ _ us hl => by obtain ⟨_, _, _, _, rfl⟩ := Y.len4 hl; rfl), ⟨mq21, mq22, mq23⟩, fun_mk (st := s_Machine_carry_out) mq24 mq25 mq23, (fun_mk (st := s_Machine_carry_out) mq24 mq25 mq23).binds (ps := ["self", "row"]) (fun _ _ _ _ _ _ us hl => by obtain ⟨_, _, rfl⟩ := Y.len2 hl; rfl), ⟨mq26, mq27, mq28⟩, fun_mk (st := s_Machine_number_for) mq29 mq30 mq28, (fun_mk (st := s_Machine_number_for) mq29 mq30 mq28).binds (ps := ["self", "row"]) (fun _ _ _ _ _ _ us hl => by obtain ⟨_, _, rfl⟩ := Y.len2 hl; rfl), ⟨mq31, mq32, mq33⟩, fun_mk (st := s_Machine_heard_number) mq34 mq35 mq33, (fun_mk (st := s_Machine_heard_number) mq34 mq35 mq33).binds (ps := ["self"]) (fun _ _ _ _ _ _ us hl => by obtain ⟨_, rfl⟩ := Y.len1 hl; rfl), ⟨mq36, mq37, mq38⟩, fun_mk (st := s_Machine_told_numbers) mq39 mq40 mq38, (fun_mk (st := s_Machine_told_numbers) mq39 mq40 mq38).binds (ps := ["self"]) (fun _ _ _ _ _ _ us hl => by obtain ⟨_, rfl⟩ := Y.len1 hl; rfl), ⟨mq41, mq42, mq43⟩, fun_mk (st := s_Machine_box_numbers) mq44 mq45 mq43, (fun_mk (st := s_Machine_box_numbers) mq44 mq45 mq43).binds (ps := ["self"]) (fun _ _ _ _ _ _ us hl => by obtain ⟨_, rfl⟩ := Y.len1 hl; rfl)⟩⟩
 have F0 : HasFn K mg "goal_of" s_goal_of ["row"] := ⟨f0, _, fun_mk (st := s_goal_of) l0 c0 k0, (fun_mk (st := s_goal_of) l0 c0 k0).binds (ps := ["row"]) (fun _ _ _ _ _ _ us hl => by obtain ⟨_, rfl⟩ := Y.len1 hl; rfl), PySem.W.mg_of X G a0⟩
 have F1 : HasFn K mg "run_rows" s_run_rows ["program", "given", "most"] := ⟨f1, _, fun_mk (st := s_run_rows) l1 c1 k1, (fun_mk (st := s_run_rows) l1 c1 k1).binds (ps := ["program", "given", "most"]) (fun _ _ _ _ _ _ us hl => by obtain ⟨_, _, _, rfl⟩ := Y.len3 hl; rfl), PySem.W.mg_of X G a1⟩
 have F2 : HasFn K mg "_law_mix" s__law_mix ["cell", "k"] := ⟨f2, _, fun_mk (st := s__law_mix) l2 c2 k2, (fun_mk (st := s__law_mix) l2 c2 k2).binds (ps := ["cell", "k"]) (fun _ _ _ _ _ _ us hl => by obtain ⟨_, _, rfl⟩ := Y.len2 hl; rfl), PySem.W.mg_of X G a2⟩
 have F3 : HasFn K mg "_law_deck" s__law_deck ["script"] := ⟨f3, _, fun_mk (st := s__law_deck) l3 c3 k3, (fun_mk (st := s__law_deck) l3 c3 k3).binds (ps := ["script"]) (fun _ _ _ _ _ _ us hl => by obtain ⟨_, rfl⟩ := Y.len1 hl; rfl), PySem.W.mg_of X G a3⟩
 have F4 : HasFn K mg "_law_next" s__law_next ["deck", "many"] := ⟨f4, _, fun_mk (st := s__law_next) l4 c4 k4, (fun_mk (st := s__law_next) l4 c4 k4).binds (ps := ["deck", "many"]) (fun _ _ _ _ _ _ us hl => by obtain ⟨_, _, rfl⟩ := Y.len2 hl; rfl), PySem.W.mg_of X G a4⟩
 have F5 : HasFn K mg "_law_number" s__law_number ["deck"] := ⟨f5, _, fun_mk (st := s__law_number) l5 c5 k5, (fun_mk (st := s__law_number) l5 c5 k5).binds (ps := ["deck"]) (fun _ _ _ _ _ _ us hl => by obtain ⟨_, rfl⟩ := Y.len1 hl; rfl), PySem.W.mg_of X G a5⟩
 have F6 : HasFn K mg "_law_row" s__law_row ["deck", "size"] := ⟨f6, _, fun_mk (st := s__law_row) l6 c6 k6, (fun_mk (st := s__law_row) l6 c6 k6).binds (ps := ["deck", "size"]) (fun _ _ _ _ _ _ us hl => by obtain ⟨_, _, rfl⟩ := Y.len2 hl; rfl), PySem.W.mg_of X G a6⟩
 have F7 : HasFn K mg "_law_moved" s__law_moved ["rows", "ahead"] := ⟨f7, _, fun_mk (st := s__law_moved) l7 c7 k7, (fun_mk (st := s__law_moved) l7 c7 k7).binds (ps := ["rows", "ahead"]) (fun _ _ _ _ _ _ us hl => by obtain ⟨_, _, rfl⟩ := Y.len2 hl; rfl), PySem.W.mg_of X G a7⟩
 have F8 : HasFn K mg "_law_set" s__law_set ["deck", "rows"] := ⟨f8, _, fun_mk (st := s__law_set) l8 c8 k8, (fun_mk (st := s__law_set) l8 c8 k8).binds (ps := ["deck", "rows"]) (fun _ _ _ _ _ _ us hl => by obtain ⟨_, _, rfl⟩ := Y.len2 hl; rfl), PySem.W.mg_of X G a8⟩
 have F9 : HasFn K mg "_law_product" s__law_product ["boxes", "one", "other"] := ⟨f9, _, fun_mk (st := s__law_product) l9 c9 k9, (fun_mk (st := s__law_product) l9 c9 k9).binds (ps := ["boxes", "one", "other"]) (fun _ _ _ _ _ _ us hl => by obtain ⟨_, _, _, rfl⟩ := Y.len3 hl; rfl), PySem.W.mg_of X G a9⟩
 have F10 : HasFn K mg "_law_sum" s__law_sum ["boxes", "some"] := ⟨f10, _, fun_mk (st := s__law_sum) l10 c10 k10, (fun_mk (st := s__law_sum) l10 c10 k10).binds (ps := ["boxes", "some"]) (fun _ _ _ _ _ _ us hl => by obtain ⟨_, _, rfl⟩ := Y.len2 hl; rfl), PySem.W.mg_of X G a10⟩
 have F11 : HasFn K mg "_law_doubled" s__law_doubled ["boxes", "one", "many"] := ⟨f11, _, fun_mk (st := s__law_doubled) l11 c11 k11, (fun_mk (st := s__law_doubled) l11 c11 k11).binds (ps := ["boxes", "one", "many"]) (fun _ _ _ _ _ _ us hl => by obtain ⟨_, _, _, rfl⟩ := Y.len3 hl; rfl), PySem.W.mg_of X G a11⟩
 have F12 : HasFn K mg "_law_taken_off" s__law_taken_off ["boxes", "one", "times_so"] := ⟨f12, _, fun_mk (st := s__law_taken_off) l12 c12 k12, (fun_mk (st := s__law_taken_off) l12 c12 k12).binds (ps := ["boxes", "one", "times_so"]) (fun _ _ _ _ _ _ us hl => by obtain ⟨_, _, _, rfl⟩ := Y.len3 hl; rfl), PySem.W.mg_of X G a12⟩
 have F13 : HasFn K mg "_law_boxes" s__law_boxes ["deck"] := ⟨f13, _, fun_mk (st := s__law_boxes) l13 c13 k13, (fun_mk (st := s__law_boxes) l13 c13 k13).binds (ps := ["deck"]) (fun _ _ _ _ _ _ us hl => by obtain ⟨_, rfl⟩ := Y.len1 hl; rfl), PySem.W.mg_of X G a13⟩
 have F14 : HasFn K mg "_law_right" s__law_right ["deck", "planted"] := ⟨f14, _, fun_mk (st := s__law_right) l14 c14 k14, (fun_mk (st := s__law_right) l14 c14 k14).binds (ps := ["deck", "planted"]) (fun _ _ _ _ _ _ us hl => by obtain ⟨_, _, rfl⟩ := Y.len2 hl; rfl), PySem.W.mg_of X G a14⟩
 exact ⟨PySem.W.fnOf "law" "law" (defArgs s_law) (defBody s_law) (defScope s_law) .none kV15 dc15 pm15 an15 cd15 ct15, fun s v => .of_eq rfl, fun base _ _ => (all_ok T F0 F1 F2 F3 F4 F5 F6 F7 F8 F9 F10 F11 F12 F13 F14 (fun_mk (st := s_law) l15 c15 k15)).mono (by decide)⟩
theorem walk {l : PySem.W.OpenLaw} {q : Program} {loose : List Str} {XP : (Str → Option Value) → Heap → Prop} {YP : World → Heap → Prop} {d : DefRec} {K : Params → PySem.W.Frag} (hn : l.most = some 63) (hdf : d.params.defaults = [])
  (hY : ∀ (w : World) (h : Heap), YP w h → (K w.params).In h)
  (F : ∀ (w : World) (mg : Str → Option Value) (fa : Addr) (h : Heap), (K w.params).In h → h.Ns mainGlobals mg → mg d.name = some (.ref fa) → ∃ fd : FuncData, (∀ (s : Shared) (u : Value), BindsTo s fd ⟨[u], []⟩ [("script", u)]) ∧ ∀ base : Heap, (K w.params).In base → base.Ns mainGlobals mg → FnOk l.prog w (K w.params) mg base CX0 30 fa fd ["script"] (spLaw (K w.params))) :
  PySem.W.WalkO q loose XP YP l.row.toRowW d [] (fun f vs => PySem.call f vs) :=
 L2.walk_of (n := 63) (k := 30) (x := "script") (CX := fun _ => CX0) (sp := fun w => spLaw (K w.params)) hn (by decide) hdf ⟨rfl, by decide, by decide⟩ hY F (fun _ _ a ns hl _ hS => ⟨a, ns, rfl, hS, hl, fun _ => rfl⟩) fun _ _ _ _ _ z => z
end
end G
open PySem PySem.W PyProof.Rows
set_option maxRecDepth 100000 in
set_option maxHeartbeats 0 in
theorem PySem.Challenge.cw_shortrows_k06_planted_runs_holds : PySem.Challenge.rw_shortrows_k06_planted_runs.Holds := by
 w_on; o_law; k_head; (case hw => w_witness2)
 k_fill
 refine G.walk (l := PySem.Challenge.rw_shortrows_k06_planted_runs) rfl rfl (fun w h Y => PySem.W.kIn_of Y) ?F
 case F =>
  intro w mg fa h KX GN hmg
  refine' G.all_mk KX GN hmg ?a0 ?l0 ?c0 ?k0 ?a1 ?l1 ?c1 ?k1 ?a2 ?l2 ?c2 ?k2 ?a3 ?l3 ?c3 ?k3 ?a4 ?l4 ?c4 ?k4 ?a5 ?l5 ?c5 ?k5 ?a6 ?l6 ?c6 ?k6 ?a7 ?l7 ?c7 ?k7 ?a8 ?l8 ?c8 ?k8 ?a9 ?l9 ?c9 ?k9 ?a10 ?l10 ?c10 ?k10 ?a11 ?l11 ?c11 ?k11 ?a12 ?l12 ?c12 ?k12 ?a13 ?l13 ?c13 ?k13 ?a14 ?l14 ?c14 ?k14 ?a15 ?l15 ?c15 ?k15 ?z0 ?z1 ?z2 ?z3 ?z4 ?z5 ?z6 ?z7 ?z8 ?gq0 ?mq0 ?gq1 ?dg0 ?dz0 ?dl0 ?dm0_0 ?dm0_1 ?dm0_2 ?dm0_3 ?dm0_4 ?dm0_5 ?dm0_6 ?dm0_7 ?dm0_8 ?mq_0 ?mq_1 ?mq_2 ?mq_3 ?mq_4 ?mq_5 ?mq_6 ?mq_7 ?mq_8 ?mq_9 ?mq_10 ?mq_11 ?mq_12 ?mq_13 ?mq_14 ?mq_15 ?mq_16 ?mq_17 ?mq_18 ?mq_19 ?mq_20 ?mq_21 ?mq_22 ?mq_23 ?mq_24 ?mq_25 ?mq_26 ?mq_27 ?mq_28 ?mq_29 ?mq_30 ?mq_31 ?mq_32 ?mq_33 ?mq_34 ?mq_35 ?mq_36 ?mq_37 ?mq_38 ?mq_39 ?mq_40 ?mq_41 ?mq_42 ?mq_43 ?mq_44 ?mq_45
  (case a0 => k_is)
  (case l0 => k_is)
  (case c0 => k_is)
  (case k0 => k_is)
  (case a1 => k_is)
  (case l1 => k_is)
  (case c1 => k_is)
  (case k1 => k_is)
  (case a2 => k_is)
  (case l2 => k_is)
  (case c2 => k_is)
  (case k2 => k_is)
  (case a3 => k_is)
  (case l3 => k_is)
  (case c3 => k_is)
  (case k3 => k_is)
  (case a4 => k_is)
  (case l4 => k_is)
  (case c4 => k_is)
  (case k4 => k_is)
  (case a5 => k_is)
  (case l5 => k_is)
  (case c5 => k_is)
  (case k5 => k_is)
  (case a6 => k_is)
  (case l6 => k_is)
  (case c6 => k_is)
  (case k6 => k_is)
  (case a7 => k_is)
  (case l7 => k_is)
  (case c7 => k_is)
  (case k7 => k_is)
  (case a8 => k_is)
  (case l8 => k_is)
  (case c8 => k_is)
  (case k8 => k_is)
  (case a9 => k_is)
  (case l9 => k_is)
  (case c9 => k_is)
  (case k9 => k_is)
  (case a10 => k_is)
  (case l10 => k_is)
  (case c10 => k_is)
  (case k10 => k_is)
  (case a11 => k_is)
  (case l11 => k_is)
  (case c11 => k_is)
  (case k11 => k_is)
  (case a12 => k_is)
  (case l12 => k_is)
  (case c12 => k_is)
  (case k12 => k_is)
  (case a13 => k_is)
  (case l13 => k_is)
  (case c13 => k_is)
  (case k13 => k_is)
  (case a14 => k_is)
  (case l14 => k_is)
  (case c14 => k_is)
  (case k14 => k_is)
  (case a15 => k_is)
  (case l15 => k_is)
  (case c15 => k_is)
  (case k15 => k_is)
  (case z0 => k_is)
  (case z1 => k_is)
  (case z2 => k_is)
  (case z3 => k_is)
  (case z4 => k_is)
  (case z5 => k_is)
  (case z6 => k_is)
  (case z7 => k_is)
  (case z8 => k_is)
  (case gq0 => k_is)
  (case mq0 => k_is)
  (case gq1 => k_is)
  (case dg0 => k_is)
  (case dl0 => k_is)
  (case dm0_0 => k_is)
  (case dm0_1 => k_is)
  (case dm0_2 => k_is)
  (case dm0_3 => k_is)
  (case dm0_4 => k_is)
  (case dm0_5 => k_is)
  (case dm0_6 => k_is)
  (case dm0_7 => k_is)
  (case dm0_8 => k_is)
  (case dz0 => rfl)
  (case mq_0 => k_is)
  (case mq_1 => k_is)
  (case mq_2 => k_is)
  (case mq_3 => k_is)
  (case mq_4 => k_is)
  (case mq_5 => k_is)
  (case mq_6 => k_is)
  (case mq_7 => k_is)
  (case mq_8 => k_is)
  (case mq_9 => k_is)
  (case mq_10 => k_is)
  (case mq_11 => k_is)
  (case mq_12 => k_is)
  (case mq_13 => k_is)
  (case mq_14 => k_is)
  (case mq_15 => k_is)
  (case mq_16 => k_is)
  (case mq_17 => k_is)
  (case mq_18 => k_is)
  (case mq_19 => k_is)
  (case mq_20 => k_is)
  (case mq_21 => k_is)
  (case mq_22 => k_is)
  (case mq_23 => k_is)
  (case mq_24 => k_is)
  (case mq_25 => k_is)
  (case mq_26 => k_is)
  (case mq_27 => k_is)
  (case mq_28 => k_is)
  (case mq_29 => k_is)
  (case mq_30 => k_is)
  (case mq_31 => k_is)
  (case mq_32 => k_is)
  (case mq_33 => k_is)
  (case mq_34 => k_is)
  (case mq_35 => k_is)
  (case mq_36 => k_is)
  (case mq_37 => k_is)
  (case mq_38 => k_is)
  (case mq_39 => k_is)
  (case mq_40 => k_is)
  (case mq_41 => k_is)
  (case mq_42 => k_is)
  (case mq_43 => k_is)
  (case mq_44 => k_is)
  (case mq_45 => k_is)
