import PyProof.Rows.All
import Wide.All
import OpenK.AllK
import Wide.FinOn
import Lean
import PyProof.EqAt
import PyProof.EqKinds
import PyProof.TupleCall
import KE.KSortKey
import KE.KLam
import PySem.Challenge.RW_shortrows_k34_bits_run
set_option Elab.async false
set_option linter.all false
set_option maxRecDepth 100000
set_option maxHeartbeats 4000000
noncomputable section
namespace L2
open PySem PySem.Spec PyProof.Rows
abbrev Key:=Sum Int Str
def keyIs:Key -> Value -> Bool
 | .inl k,v => Value.isInt k v
 | .inr x,v => Value.isStrOf x v
def keyH (w:World):Key -> Int
 | .inl k => hashInt k
 | .inr x => hashStr w x
theorem keyIs_shape:∀ {k:Key} {v:Value},keyIs k v = true -> (∃ i t,k = Sum.inl i /\ v = Value.int i t) \/ (∃ x t,k = Sum.inr x /\ v = Value.str x t)
 | .inl i,v,h => by
  obtain ⟨t,e⟩:=Value.isInt_shape (k:=i) (v:=v) h;exact .inl ⟨i,t,rfl,e⟩
 | .inr x,v,h => by
  obtain ⟨t,e⟩:=Value.isStrOf_shape (x:=x) (v:=v) h;exact .inr ⟨x,t,rfl,e⟩
theorem keyIs_int (i:Int) (t:Tok):keyIs (.inl i) (.int i t) = true:=by simp [keyIs,Value.isInt]
theorem keyIs_str (x:Str) (t:Tok):keyIs (.inr x) (.str x t) = true:=by simp [keyIs,Value.isStrOf]
theorem key_ll (a b:Int):decide ((Sum.inl a:Key) = Sum.inl b) = (a == b):=by
 by_cases e:a = b
 ·subst e;simp
 ·have h:¬ (Sum.inl a:Key) = Sum.inl b:=fun q => e (Sum.inl.inj q);rw [decide_eq_false h];exact (beq_eq_false_iff_ne.mpr e).symm
theorem key_rr (a b:Str):decide ((Sum.inr a:Key) = Sum.inr b) = decide (a = b):=by
 by_cases e:a = b
 ·subst e;simp
 ·have h:¬ (Sum.inr a:Key) = Sum.inr b:=fun q => e (Sum.inr.inj q);rw [decide_eq_false h,decide_eq_false e]
theorem key_lr (a:Int) (b:Str):decide ((Sum.inl a:Key) = Sum.inr b) = false:=decide_eq_false (fun q => nomatch q)
theorem key_rl (a:Str) (b:Int):decide ((Sum.inr a:Key) = Sum.inl b) = false:=decide_eq_false (fun q => nomatch q)
def mixKind (prog:Program) (w:World):PySem.KeyKind prog w Key where
 is:=keyIs
 hash:=keyH w
 inj:=fun v a b ha hb => by
  rcases keyIs_shape ha with ⟨i,t,rfl,rfl⟩ | ⟨x,t,rfl,rfl⟩
  ·rcases keyIs_shape hb with ⟨j,u,rfl,e⟩ | ⟨y,u,rfl,e⟩
   ·injection e with e1 _;rw [e1]
   ·exact nomatch e
  ·rcases keyIs_shape hb with ⟨j,u,rfl,e⟩ | ⟨y,u,rfl,e⟩
   ·exact nomatch e
   ·injection e with e1 _;rw [e1]
 byValue:=fun k v h => by
  rcases keyIs_shape h with ⟨i,t,rfl,rfl⟩ | ⟨x,t,rfl,rfl⟩ <;> rfl
 pyHash:=fun hv h => by
  rcases keyIs_shape hv with ⟨i,t,rfl,rfl⟩ | ⟨x,t,rfl,rfl⟩
  ·exact wpAny_pyHash_int h
  ·exact wpAny_pyHash_str h
 eqBool:=fun hu hv h => by
  rcases keyIs_shape hu with ⟨i,t,rfl,rfl⟩ | ⟨x,t,rfl,rfl⟩
  ·rcases keyIs_shape hv with ⟨j,u,rfl,rfl⟩ | ⟨y,u,rfl,rfl⟩
   ·rw [key_ll] at h;exact wpAny_eqBool_int h
   ·rw [key_lr] at h;exact SeqAt.EqAt.int_str i t y u _ _ _ _ h
  ·rcases keyIs_shape hv with ⟨j,u,rfl,rfl⟩ | ⟨y,u,rfl,rfl⟩
   ·rw [key_rl] at h;exact SeqAt.EqAt.str_int x t j u _ _ _ _ h
   ·rw [key_rr] at h;exact wpAny_eqBool_str h
 «strs»:=fun k x t v h => by
  rcases keyIs_shape h with ⟨i,u,rfl,e⟩ | ⟨y,u,rfl,e⟩
  ·exact nomatch e
  ·injection e with e1 _
   subst e1
   cases v <;> rfl
theorem mixKind_int (prog:Program) (w:World) (i:Int) (t:Tok):(mixKind prog w).is (.inl i) (.int i t) = true:=keyIs_int i t
theorem mixKind_str (prog:Program) (w:World) (x:Str) (t:Tok):(mixKind prog w).is (.inr x) (.str x t) = true:=keyIs_str x t
inductive V where
 | non | bl (b:Bool) | int (i:Int) | str (x:Str) | byt (b:Array UInt8) | flt (b:UInt64) | ref (a:Addr) | ty (n:String)
 deriving DecidableEq
def RelV:V -> Value -> Prop
 | .non,u => u = Value.none
 | .bl b,u => u = Value.bool b
 | .int i,u => ∃ t,u = Value.int i t
 | .str x,u => ∃ t,u = Value.str x t
 | .byt b,u => ∃ t,u = Value.bytes b t
 | .flt b,u => ∃ t,u = Value.float b t
 | .ref a,u => u = Value.ref a
 | .ty n,u => u = Value.type n
abbrev Vals:List V -> List Value -> Prop:=Paired RelV
theorem Vals.length {xs:List V} {us:List Value} (r:Vals xs us):xs.length = us.length:=Paired.length r
theorem Vals.get:∀ {xs:List V} {us:List Value} {i:Nat} {x:V},Vals xs us -> xs[i]? = some x -> ∃ u,us[i]? = some u /\ RelV x u
 | _,_,_,_,.nil,e => by simp at e
 | _,_,0,_,.cons r _,e => by simp at e;subst e;exact ⟨_,rfl,r⟩
 | _,_,i + 1,x,.cons _ t,e => by
  obtain ⟨u,h1,h2⟩:=Vals.get (i:=i) (x:=x) t (by simpa using e)
  exact ⟨u,by simpa using h1,h2⟩
theorem Vals.set {x:V} {u:Value} (r:RelV x u):∀ {xs:List V} {us:List Value} (i:Nat),Vals xs us -> Vals (xs.set i x) (us.set i u)
 | _,_,_,.nil => .nil
 | _,_,0,.cons _ t => .cons r t
 | _,_,i + 1,.cons q t => .cons q (Vals.set r i t)
theorem Vals.append:∀ {xs ys:List V} {us ws:List Value},Vals xs us -> Vals ys ws -> Vals (xs ++ ys) (us ++ ws)
 | _,_,_,_,.nil,s => s
 | _,_,_,_,.cons r t,s => .cons r (Vals.append t s)
theorem Vals.take:∀ {xs:List V} {us:List Value} (n:Nat),Vals xs us -> Vals (xs.take n) (us.take n)
 | _,_,0,_ => .nil
 | _,_,_ + 1,.nil => .nil
 | _,_,n + 1,.cons r t => .cons r (Vals.take n t)
theorem Vals.drop:∀ {xs:List V} {us:List Value} (n:Nat),Vals xs us -> Vals (xs.drop n) (us.drop n)
 | _,_,0,r => r
 | _,_,_ + 1,.nil => .nil
 | _,_,n + 1,.cons _ t => Vals.drop n t
def RelO:Option V -> Option Value -> Prop
 | some v,some u => RelV v u
 | none,none => True
 | _,_ => False
def KV {κ:Type}:List (κ × V) -> List (κ × Value) -> Prop:=Paired fun (p:κ × V) (q:κ × Value) => p.1 = q.1 /\ RelV p.2 q.2
def kV:Key -> V
 | .inl i => .int i
 | .inr x => .str x
inductive HO where
 | lst (xs:List V)
 | tup (xs:List V)
 | dK (kvs:List (Key × V)) | dT (kvs:List (List Key × V))
 | set (S:Int -> Bool) (n:Nat)
 | ins (C dx:Addr) (fs:List (Str × V))
 | own (x:Addr)
 | xd (fs:List (Str × V))
 | met (f x:Addr)
 | rng (lo hi:Int)
 | frz (o:Obj) (u:HO)
 | tbl (ps:Array Value)
 | ext (φ:Heap -> Prop)
abbrev Hp:=Addr -> Option HO
def upd (H:Hp) (a:Addr) (o:HO):Hp:=fun b => if b = a then some o else H b
theorem upd_same {H:Hp} {a:Addr} {o:HO}:upd H a o a = some o:=by unfold upd;rw [if_pos rfl]
theorem upd_ne {H:Hp} {a b:Addr} {o:HO} (h:b ≠ a):upd H a o b = H b:=by unfold upd;rw [if_neg h]
theorem upd_upd {H:Hp} {a:Addr} {o u:HO}:upd (upd H a o) a u = upd H a u:=by
 funext b;unfold upd;split <;> rfl
theorem ne_of {H:Hp} {a b:Addr} {o u:HO} (h:H a = some o) (h':H b = some u) (d:o ≠ u):a ≠ b:=by
 intro e;subst e;rw [h] at h';exact d (Option.some.inj h')
theorem ne_of_none {H:Hp} {a b:Addr} {o:HO} (h:H a = some o) (h':H b = none):a ≠ b:=by
 intro e;subst e;rw [h] at h';cases h'
def tagQ:List Value -> Str
 | .str q _ :: _ => q
 | _ => Str.ofString ""
def tagOf (ps:Array Value):Str:=tagQ ps.toList
def IsLam (H:Hp) (q:Str) (cv:Value):Prop:=∃ (c:Addr) (oc:Obj) (vs:Array Value) (t:Tok),cv = .ref c /\ H c = some (.frz oc (.own c)) /\ oc.data = .fields vs /\ vs[1]? = some (.str q t)
def IsTupD (h:Heap) (a:Addr) (items:Array Value):Prop:=∃ o:Obj,h.get? a = some o /\ o.cls = .type "tuple" /\ ∃ n,o.data = .seq items n /\ o.dict = none
theorem IsTupD.to {h:Heap} {a:Addr} {items:Array Value} (x:IsTupD h a items):IsTup h a items:=let ⟨o,e,c,n,d,_⟩:=x;⟨o,e,c,n,d⟩
theorem IsTupD.new (h:Heap) (items:Array Value):IsTupD (h.push { cls:=.type "tuple",data:=.seq items }) h.objs.size items:=⟨_,Heap.get?_push_size h rfl,rfl,_,rfl,rfl⟩
theorem IsTupD.lt {h:Heap} {a:Addr} {items:Array Value} (x:IsTupD h a items):a < h.objs.size:=x.to.lt
section
variable (P:Program) (w:World)
def ObjOk (H:Hp) (h:Heap) (a:Addr):HO -> Prop
 | .lst xs => xs.length <= sizeLine /\ ∃ (its:List Value) (n:Nat),Vals xs its /\ h.get? a = some { cls:=.type "list",data:=.seq its.toArray n }
 | .tup xs => xs.length <= sizeLine /\ ∃ its:List Value,Vals xs its /\ IsTupD h a its.toArray
 | .dK kvs => kvs.length <= sizeLine /\ (a == sysModules) = false /\ ∃ vs,KV kvs vs /\ h.DictOf (mixKind P w) a vs
 | .dT kvs => kvs.length <= sizeLine /\ (a == sysModules) = false /\ ∃ xs:List (List Key × Addr × Value),
   Paired (fun (p:List Key × V) (q:List Key × Addr × Value) => p.1 = q.1 /\ H q.2.1 = some (.tup (p.1.map kV)) /\ RelV p.2 q.2.2) kvs xs /\
   ∃ o es ep,h.get? a = some o /\ o.ExactDict /\ o.data = .dict es ep /\ es.toList = xs.map (entryOfKey (tupleKind (mixKind P w))) /\ (xs.map (·.1)).Nodup
 | .set S n => h.SetOf (intKind P w) a S n
 | .ins C dx fs => H dx = some (.own a) /\ fs.length <= 1000 /\ dx ≠ a /\ h.get? a = some (PySem.W.instObj C dx) /\
   ∃ mA,h.Ns1 dx mA /\ (∀ f,RelO (fs.lookup f) (mA f)) /\ PySem.Within mA (fs.map (·.1))
 | .own _ => ∃ o,h.get? a = some o
 | .xd fs => ∃ mA,h.Ns1 a mA /\ ∀ f,RelO (fs.lookup f) (mA f)
 | .rng lo hi => ∃ t u v,h.get? a = some { cls:=.type "range",data:=.fields #[.int lo t,.int hi u,.int 1 v] }
 | .frz o u => h.get? a = some o /\ ObjOk H h a u
 | .tbl ps => ∃ qs:Array Value,h.get? a = some { cls:=.none,data:=.fields qs } /\ TriplesOk qs.toList /\ ∀ pos cv,codeAmong pos qs.toList = some cv -> IsLam H (tagOf ps) cv
 | .met f x => h.get? a = some (PySem.W.methodObj (.ref f) (.ref x))
 | .ext φ => φ h /\ (∃ o,h.get? a = some o) /\ ∀ h1 h2:Heap,φ h1 -> (∀ o,h1.get? a = some o -> h2.get? a = some o) -> φ h2
def HOk (H:Hp) (h:Heap):Prop:=∀ a o,H a = some o -> ObjOk P w H h a o
end
section
variable {P:Program} {w:World} {H H':Hp} {h h':Heap} {a:Addr} {o:HO}
theorem ObjOk.lt (x:ObjOk P w H h a o):a < h.objs.size:=by
 cases o with
 | lst xs => obtain ⟨_,_,_,_,e⟩:=x;exact Heap.lt_size e
 | tup xs => obtain ⟨_,_,_,p⟩:=x;exact p.lt
 | dK kvs => obtain ⟨_,_,_,_,o,_,_,e,_⟩:=x;exact Heap.lt_size e
 | dT kvs => obtain ⟨_,_,_,_,o,_,_,e,_⟩:=x;exact Heap.lt_size e
 | set S n => obtain ⟨o,_,_,_,e,_⟩:=x;exact Heap.lt_size e
 | ins C dx fs => obtain ⟨_,_,_,e,_⟩:=x;exact Heap.lt_size e
 | own y => obtain ⟨_,e⟩:=x;exact Heap.lt_size e
 | xd fs => obtain ⟨_,⟨_,_,_,e,_⟩,_⟩:=x;exact Heap.lt_size e
 | rng lo hi => obtain ⟨_,_,_,e⟩:=x;exact Heap.lt_size e
 | frz ob u => obtain ⟨e,_⟩:=x;exact Heap.lt_size e
 | tbl ps => obtain ⟨_,e,_⟩:=x;exact Heap.lt_size e
 | met f y => exact Heap.lt_size (show h.get? a = some _ from x)
 | ext φ => obtain ⟨_,⟨_,e⟩,_⟩:=x;exact Heap.lt_size e
theorem Paired.mapP {α β:Type} {F G:α -> β -> Prop}:∀ {l₁:List α} {l₂:List β},Paired F l₁ l₂ -> (∀ a b,F a b -> G a b) -> Paired G l₁ l₂
 | _,_,.nil,_ => .nil
 | _,_,.cons r t,f => .cons (f _ _ r) (Paired.mapP t f)
theorem ObjOk.stay (x:ObjOk P w H h a o) (k:∀ b u,(b = a \/ H b = some (.own a)) -> h.get? b = some u -> h'.get? b = some u)
  (ho:∀ b,H b = some (.own a) -> H' b = some (.own a)) (ht:∀ b xs,H b = some (.tup xs) -> H' b = some (.tup xs)) (hz:∀ b o u,H b = some (.frz o u) -> H' b = some (.frz o u)):ObjOk P w H' h' a o:=by
 induction o with
 | lst xs => obtain ⟨z,its,n,r,e⟩:=x;exact ⟨z,its,n,r,k _ _ (.inl rfl) e⟩
 | tup xs => obtain ⟨z,its,r,ob,e,c⟩:=x;exact ⟨z,its,r,ob,k _ _ (.inl rfl) e,c⟩
 | dK kvs => obtain ⟨z,y,vs,r,ob,es,ep,e,c⟩:=x;exact ⟨z,y,vs,r,ob,es,ep,k _ _ (.inl rfl) e,c⟩
 | dT kvs =>
  obtain ⟨z,y,xs,r,ob,es,ep,e,c⟩:=x;exact ⟨z,y,xs,Paired.mapP r fun p q z => ⟨z.1,ht _ _ z.2.1,z.2.2⟩,ob,es,ep,k _ _ (.inl rfl) e,c⟩
 | set S n => obtain ⟨ob,es,ep,t,e,c⟩:=x;exact ⟨ob,es,ep,t,k _ _ (.inl rfl) e,c⟩
 | ins C dx fs =>
  obtain ⟨d,z,ne,e,mA,⟨od,es,ep,e2,c⟩,r⟩:=x;exact ⟨ho _ d,z,ne,k _ _ (.inl rfl) e,mA,⟨od,es,ep,k _ _ (.inr d) e2,c⟩,r⟩
 | own y => obtain ⟨ob,e⟩:=x;exact ⟨ob,k _ _ (.inl rfl) e⟩
 | xd fs => obtain ⟨mA,⟨od,es,ep,e,c⟩,r⟩:=x;exact ⟨mA,⟨od,es,ep,k _ _ (.inl rfl) e,c⟩,r⟩
 | rng lo hi => obtain ⟨t,u,v,e⟩:=x;exact ⟨t,u,v,k _ _ (.inl rfl) e⟩
 | frz ob u ih => obtain ⟨e,q⟩:=x;exact ⟨k _ _ (.inl rfl) e,ih q⟩
 | tbl ps =>
  obtain ⟨qs,e,t,f⟩:=x;exact ⟨qs,k a _ (.inl rfl) e,t,fun pos cv q => let ⟨c,oc,vs,t',e1,e2,e3⟩:=f pos cv q;⟨c,oc,vs,t',e1,hz _ _ _ e2,e3⟩⟩
 | met f y =>
  have e:h.get? a = some (PySem.W.methodObj (.ref f) (.ref y)):=x;show h'.get? a = some (PySem.W.methodObj (.ref f) (.ref y));exact k a _ (.inl rfl) e
 | ext φ => obtain ⟨p,⟨o,e⟩,st⟩:=x;exact ⟨st _ _ p fun o q => k _ _ (.inl rfl) q,⟨o,k _ _ (.inl rfl) e⟩,st⟩
theorem HOk.lt (x:HOk P w H h) (e:H a = some o):a < h.objs.size:=(x a o e).lt
theorem HOk.fresh (x:HOk P w H h) (e:h.objs.size <= a):H a = none:=by
 cases q:H a with
 | none => rfl
 | some u => exact absurd (Nat.lt_of_lt_of_le (x.lt q) e) (Nat.lt_irrefl _)
theorem HOk.kept (x:HOk P w H h) (k:∀ b u,h.get? b = some u -> h'.get? b = some u):HOk P w H h':=fun a o e =>
 (x a o e).stay (fun b u _ q => k b u q) (fun _ q => q) (fun _ _ q => q) fun _ _ _ q => q
theorem HOk.laid (x:HOk P w H h) (k:∀ b u,h.get? b = some u -> h'.get? b = some u) (hp:h.objs.size <= a) (new:ObjOk P w (upd H a o) h' a o):HOk P w (upd H a o) h':=fun b u e => by
 have hn:=x.fresh hp;by_cases hb:b = a
 ·subst hb;rw [upd_same] at e;cases e;exact new
 ·rw [upd_ne hb] at e;exact (x b u e).stay (fun c v _ q => k c v q) (fun c q => by rw [upd_ne (ne_of_none q hn)];exact q) (fun c xs q => by rw [upd_ne (ne_of_none q hn)];exact q) fun c _ _ q => by rw [upd_ne (ne_of_none q hn)];exact q
end
def Rd (H:Hp) (a:Addr) (u:HO):Prop:=H a = some u \/ ∃ o,H a = some (.frz o u)
theorem Rd.ok {P:Program} {w:World} {H:Hp} {h:Heap} {a:Addr} {u:HO} (r:Rd H a u) (x:HOk P w H h):ObjOk P w H h a u:=by
 rcases r with r | ⟨o,r⟩
 ·exact x a u r
 ·obtain ⟨_,q⟩:=x a _ r;exact q
def Mut:Option HO -> Prop
 | some (.lst _) => True
 | some (.dK _) => True
 | some (.dT _) => True
 | some (.set _ _) => True
 | some (.ins _ _ _) => True
 | some (.ext _) => True
 | _ => False
section
variable {P:Program} {w:World} {H:Hp} {h h':Heap} {x e:Addr} {o':HO}
theorem HOk.write (ok:HOk P w H h) (mu:Mut (H x)) (he:e = x \/ H e = some (.own x)) (k:∀ b u,b ≠ e -> h.get? b = some u -> h'.get? b = some u) (heo:∃ u,h'.get? e = some u)
  (new:ObjOk P w (upd H x o') h' x o'):HOk P w (upd H x o') h':=fun b u q => by
 have nown:∀ c y,H c = some (.own y) -> c ≠ x:=fun c y r z => by subst z;rw [r] at mu;exact mu
 have ntup:∀ c xs,H c = some (.tup xs) -> c ≠ x:=fun c xs r z => by subst z;rw [r] at mu;exact mu
 have nfrz:∀ c o1 u1,H c = some (.frz o1 u1) -> c ≠ x:=fun c _ _ r z => by subst z;rw [r] at mu;exact mu
 by_cases hb:b = x
 ·subst hb;rw [upd_same] at q;cases q;exact new
 ·rw [upd_ne hb] at q;by_cases hbe:b = e
  ·have q':H b = some (.own x):=by
    rcases he with z | z
    ·exact absurd (hbe.trans z) hb
    ·rw [hbe];exact z
   rw [q] at q';cases q';obtain ⟨v,hv⟩:=heo;exact ⟨v,by rw [hbe];exact hv⟩
  ·refine (ok b u q).stay (fun c v hc r => k c v ?_ r) (fun c r => by rw [upd_ne (nown c b r)];exact r) (fun c xs r => by rw [upd_ne (ntup c xs r)];exact r) fun c _ _ r => by rw [upd_ne (nfrz c _ _ r)];exact r
   rcases hc with rfl | hc
   ·exact hbe
   ·rintro rfl;rcases he with z | z
    ·exact nown c b hc z
    ·rw [hc] at z;cases z;exact hb rfl
end
structure Un (fs ex:List Addr) (H H':Hp) (h h':Heap):Prop where
 keep:∀ b o,h.get? b = some o -> H b = none -> b ∉ fs -> b ∉ ex -> h'.get? b = some o
 slot:∀ b o,h.get? b = some o -> H b = none -> b ∈ fs -> b ∉ ex -> ∃ sl,h'.get? b = some { o with slots:=sl }
 free:∀ b o,h.get? b = some o -> H b = none -> b ∉ ex -> H' b = none
 there:∀ b o,h.get? b = some o -> b ∉ ex -> ∃ o',h'.get? b = some o'
 tups:∀ b xs,H b = some (.tup xs) -> H' b = some (.tup xs)
 frzs:∀ b o u,H b = some (.frz o u) -> H' b = some (.frz o u)
 tbls:∀ b ps,H b = some (.tbl ps) -> ∃ more,H' b = some (.tbl (ps ++ more))
section
variable {fs fs' ex ex':List Addr} {H H1 H2:Hp} {h h1 h2 h':Heap} {a x e:Addr} {o:HO}
theorem Un.any (u:Un fs ex H H1 h h1) {b:Addr} {ob:Obj} (q:h.get? b = some ob) (n:H b = none) (hx:b ∉ ex):∃ sl,h1.get? b = some { ob with slots:=sl }:=by
 by_cases hb:b ∈ fs
 ·exact u.slot b ob q n hb hx
 ·exact ⟨ob.slots,u.keep b ob q n hb hx⟩
theorem Un.kept (k:∀ b u,h.get? b = some u -> h'.get? b = some u):Un fs ex H H h h' :=
 ⟨fun b ob q _ _ _ => k b ob q,fun b ob q _ _ _ => ⟨ob.slots,k b ob q⟩,fun _ _ _ n _ => n,fun b ob q _ => ⟨ob,k b ob q⟩,fun _ _ q => q,fun _ _ _ q => q,fun _ ps q => ⟨#[],by rw [q];simp⟩⟩
theorem Un.refl:Un fs ex H H h h:=Un.kept fun _ _ q => q
theorem Un.laid (k:∀ b u,h.get? b = some u -> h'.get? b = some u) (hp:h.objs.size <= a) (hn:H a = none):Un fs ex H (upd H a o) h h' where
 keep:=fun b u q _ _ _ => k b u q
 slot:=fun b u q _ _ _ => ⟨u.slots,k b u q⟩
 free:=fun b u q n _ => by rw [upd_ne (Nat.ne_of_lt (Nat.lt_of_lt_of_le (Heap.lt_size q) hp))];exact n
 there:=fun b u q _ => ⟨u,k b u q⟩
 tups:=fun b xs q => by rw [upd_ne (ne_of_none q hn)];exact q
 frzs:=fun b u xs q => by rw [upd_ne (ne_of_none q hn)];exact q
 tbls:=fun b ps q => ⟨#[],by rw [upd_ne (ne_of_none q hn),q];simp⟩
theorem Un.write (mu:Mut (H x)) (he:e = x \/ H e = some (.own x)) (k:∀ b u,b ≠ e -> h.get? b = some u -> h'.get? b = some u) (heo:∃ u,h'.get? e = some u):Un fs ex H (upd H x o) h h':=by
 have hx:∀ b,H b = none -> b ≠ x:=fun b n z => by subst z;rw [n] at mu;exact mu
 have hb:∀ b,H b = none -> b ≠ e:=fun b n z => by
  subst z;rcases he with r | r
  ·exact hx b n r
  ·rw [n] at r;cases r
 have hm:∀ b u,H b = some u -> ¬ Mut (some u) -> b ≠ x:=fun b u q nm z => by subst z;rw [q] at mu;exact nm mu
 refine ⟨fun b u q n _ _ => k b u (hb b n) q,fun b u q n _ _ => ⟨u.slots,k b u (hb b n) q⟩,fun b u q n _ => by rw [upd_ne (hx b n)];exact n,fun b u q _ => ?_,
  fun b xs q => by rw [upd_ne (hm b _ q fun z => z)];exact q,fun b u xs q => by rw [upd_ne (hm b _ q fun z => z)];exact q,fun b ps q => ⟨#[],by rw [upd_ne (hm b _ q fun z => z),q];simp⟩⟩
 by_cases hbe:b = e
 ·subst hbe;exact heo
 ·exact ⟨u,k b u hbe q⟩
end
def trk (h:Heap) (H:Hp):List Addr:=(List.range h.objs.size).filter fun a => (H a).isSome
def hidT (h:Heap) (H:Hp):Heap:=PySem.W.hideAll h (trk h H)
theorem hidT_size (h:Heap) (H:Hp):(hidT h H).objs.size = h.objs.size:=PySem.W.hideAll_size _ _
theorem hidT_get {h:Heap} {H:Hp} {b:Addr} {o:Obj} (e:h.get? b = some o) (n:H b = none):(hidT h H).get? b = some o :=
 PySem.W.hideAll_get _ e fun hm => by
  have q:(H b).isSome = true:=(List.mem_filter.mp hm).2;rw [n] at q;simp at q
theorem of_hidT {h:Heap} {H:Hp} {b:Addr} {o:Obj} (e:(hidT h H).get? b = some o):h.get? b = some o /\ H b = none:=by
 have e':h.get? b = some o:=PySem.W.of_hideAll (trk h H) e;refine ⟨e',?_⟩
 cases q:H b with
 | none => rfl
 | some x =>
  have hm:b ∈ trk h H:=List.mem_filter.mpr ⟨List.mem_range.mpr (Heap.lt_size e'),by simp [q]⟩
  have z:(hidT h H).get? b = none:=PySem.W.hideAll_none (trk h H) hm;rw [z] at e;cases e
def allNews (g h:Heap) (L:Addr):List (Addr × Obj):=(List.range h.objs.size).filterMap fun a => if a = L \/ (g.get? a).isSome = true then none else (h.get? a).map fun o => (a,o)
def rest (g h:Heap) (L d:Addr):List (Addr × Obj):=(allNews g h L).filter fun p => decide (p.1 ≠ d)
def lamNames:List Str:=["by_worth","by_weight","code_of"]
def lamTabs (K:PySem.W.Frag):List (Addr × Addr × Str):=lamNames.filterMap fun x => (PySem.W.tabIn K x).map fun p => (p.1,p.2,(x ++ ".<locals>.") ++ "<lambda>")
def TabsOk (K:PySem.W.Frag) (H:Hp):Prop:=∀ t ∈ lamTabs K,∃ more,H t.2.1 = some (.tbl (#[.str t.2.2 0] ++ more))
theorem TabsOk.un {K:PySem.W.Frag} {fs ex:List Addr} {H H1:Hp} {h h1:Heap} (x:TabsOk K H) (u:Un fs ex H H1 h h1):TabsOk K H1:=fun t ht => by
 obtain ⟨m,e⟩:=x t ht;obtain ⟨m2,e2⟩:=u.tbls _ _ e;exact ⟨m ++ m2,by rw [e2,Array.append_assoc]⟩
def BmAt (mg:Str -> Option Value) (h:Heap):Prop:=∃ bm ob,mg "__builtins__" = some (.ref bm) /\ bm ≠ builtinsNs /\ h.get? bm = some ob /\ ob.cls = .type "module" /\ ob.dict = some builtinsNs /\ ob.data = .plain
structure Mod (K:PySem.W.Frag) (mg:Str -> Option Value) (base:Heap):Prop where
 kin:K.In base
 glob:base.Ns mainGlobals mg
 blt:∃ mb,base.Ns builtinsNs mb /\ ∀ x:Str,x ≠ "__name__" -> mb x = bootBuiltins x
 nolimit:base.NoLimit
 codes:∀ t ∈ lamTabs K,PySem.W.CodeHd base t.1 t.2.1
 bm:BmAt mg base
structure Cx where
 prog:Program
 w:World
 K:PySem.W.Frag
 mg:Str -> Option Value
 base:Heap
 A:Around
 N:List Str
 s₀:Shared
 H₀:Hp
 env:Env
 outer:List Env
 stack:List Env
 ex:List Addr
 fn:Str -> Bool
 calm:Bool
 pn:List (Addr × Obj)
 xe:Value -> Shared -> Prop
def frs (l:List Env):List Addr:=l.filterMap (·.frame)
abbrev Cx.fs (X:Cx):List Addr:=frs X.outer
def Vis (sc:Scope) (x:Str):Prop:=sc.names.lookup x = some .local \/ sc.names.lookup x = some .cell \/ sc.names.lookup x = some .free
def Loc (sc:Scope) (x:Str):Prop:=sc.names.lookup x = some .local \/ sc.names.lookup x = some .cell
def Look (env:Env) (h:Heap) (m:Str -> Option Value) (x:Str) (u:Value):Prop :=
 (env.kindOf x = some .local /\ m x = some u) \/ ((env.kindOf x = some .cell \/ env.kindOf x = some .free) /\ ∃ c,env.cells.lookup x = some c /\ h.IsCell c (some u))
structure Cx.Ok (X:Cx):Prop where
 mod:Mod X.K X.mg X.base
 kind:X.env.scope.kind = .function
 glob:X.env.globals = mainGlobals
 blt:X.env.builtins = builtinsNs
 above:X.s₀.heap.objs.size <= X.env.locals
 inj:∀ x y c,X.env.cells.lookup x = some c -> X.env.cells.lookup y = some c -> x = y
 has:∀ x,(X.env.kindOf x = some .cell \/ X.env.kindOf x = some .free) -> ∃ c,X.env.cells.lookup x = some c
 cab:∀ x c,X.fn x = true -> X.env.cells.lookup x = some c -> X.s₀.heap.objs.size <= c
 hd:X.calm = true -> X.A.handled = none
 frames:X.A.frames = some X.stack
 stk:X.stack = X.outer \/ (X.stack = X.env :: X.outer /\ X.env.frame = some X.env.locals)
 exf:∀ b ∈ X.ex,b ≠ X.env.locals /\ ∀ x c,X.env.cells.lookup x = some c -> c ≠ b
 bs:∀ b o,X.base.get? b = some o -> X.s₀.heap.get? b = some o /\ X.H₀ b = none
 bsz:X.base.objs.size <= X.s₀.heap.objs.size
 noex:∀ b o,X.base.get? b = some o -> b ∉ X.ex
 exfs:∀ b ∈ X.ex,b ∉ X.fs
 funs:X.s₀.heap.FunFrames X.base X.outer
 frf:∀ b ∈ X.fs,X.H₀ b = none
 tabs:TabsOk X.K X.H₀
structure Inv (X:Cx) (pins:List (Addr × Obj)) (σ:List (Option V)) (H:Hp) (s:Shared):Prop where
 ok:X.Ok
 os:s.os = X.s₀.os
 bare:AllBare s.gens
 base:Un X.fs X.ex X.H₀ H X.s₀.heap s.heap
 loc:∃ m,s.heap.Ns X.env.locals m /\ ∀ (i:Nat) (x:Str) (v:V),X.N[i]? = some x -> σ[i]? = some (some v) -> Vis X.env.scope x -> ∃ u,RelV v u /\ Look X.env s.heap m x u
 cell:∀ x c,X.env.cells.lookup x = some c -> ∃ v,s.heap.IsCell c v
 free:H X.env.locals = none
 freeC:∀ x c,X.env.cells.lookup x = some c -> H c = none
 pin:∀ p ∈ X.pn ++ pins,s.heap.get? p.1 = some p.2 /\ H p.1 = none /\ p.1 ≠ X.env.locals /\ p.1 ∉ X.fs /\ ∀ v,p.2.data ≠ .cell v
 hok:HOk X.prog X.w H s.heap
 len:σ.length = X.N.length
section
variable {X:Cx} {pins:List (Addr × Obj)} {σ:List (Option V)} {H H':Hp} {s:Shared} {h':Heap}
theorem Cx.Ok.nofr (ok:X.Ok) {b:Addr} {o:Obj} (e:X.base.get? b = some o):b ∉ X.fs:=fun hb => by
 have:=(ok.funs.mem hb).1;rw [e] at this;cases this
theorem Inv.bs (I:Inv X pins σ H s):∀ b o,X.base.get? b = some o -> s.heap.get? b = some o /\ H b = none:=fun b o e =>
 ⟨I.base.keep b o (I.ok.bs b o e).1 (I.ok.bs b o e).2 (I.ok.nofr e) (I.ok.noex b o e),I.base.free b o (I.ok.bs b o e).1 (I.ok.bs b o e).2 (I.ok.noex b o e)⟩
theorem Inv.bk (I:Inv X pins σ H s):∀ b o,X.base.get? b = some o -> s.heap.get? b = some o:=fun b o e => (I.bs b o e).1
theorem Inv.mod (I:Inv X pins σ H s):Mod X.K X.mg X.base:=I.ok.mod
theorem Inv.kIn (I:Inv X pins σ H s):X.K.In s.heap:=I.ok.mod.kin.keeps I.bk
theorem Inv.nolimit (I:Inv X pins σ H s):s.heap.NoLimit:=I.ok.mod.nolimit.keeps I.bk
theorem Inv.lt (I:Inv X pins σ H s):X.env.locals < s.heap.objs.size:=let ⟨_,hn,_⟩:=I.loc;hn.lt
theorem Inv.sz (I:Inv X pins σ H s):X.s₀.heap.objs.size <= s.heap.objs.size:=Nat.le_trans I.ok.above (Nat.le_of_lt I.lt)
theorem Inv.nofs (I:Inv X pins σ H s) {a:Addr} (h:s.heap.objs.size <= a):a ∉ X.fs:=fun hb => by
 obtain ⟨_,o,ho,_⟩:=I.ok.funs.mem hb;exact absurd (Nat.lt_of_lt_of_le (Heap.lt_size ho) (Nat.le_trans I.sz h)) (Nat.lt_irrefl _)
theorem Inv.cne (I:Inv X pins σ H s):∀ x c,X.env.cells.lookup x = some c -> c ≠ X.env.locals:=fun x c e z => by
 obtain ⟨v,o,ho,hd⟩:=I.cell x c e;obtain ⟨m,⟨o',es,ep,ho',hd',_⟩,_⟩:=I.loc;rw [z,ho'] at ho;cases ho;rw [hd'] at hd;cases hd
theorem Inv.funs (I:Inv X pins σ H s):s.heap.FunFrames X.base X.outer:=by
 have all:∀ (l:List Env),(∀ b ∈ frs l,b ∈ X.fs) -> X.s₀.heap.FunFrames X.base l -> s.heap.FunFrames X.base l:=by
  intro l
  induction l with
  | nil => intro _ _;trivial
  | cons env r ih =>
   intro hs hl;obtain ⟨hk,⟨L,o,hf,hn,ho,hd⟩,hr⟩:=hl;have hL:L ∈ X.fs:=hs L (by unfold frs;rw [List.filterMap_cons,hf];exact List.mem_cons_self)
   obtain ⟨sl,e⟩:=I.base.slot L o ho (I.ok.frf L hL) hL fun z => I.ok.exfs L z hL;exact ⟨hk,⟨L,_,hf,hn,e,hd⟩,ih (fun b hb => hs b (by unfold frs;rw [List.filterMap_cons,hf];exact List.mem_cons_of_mem _ hb)) hr⟩
 exact all X.outer (fun _ hb => hb) I.ok.funs
theorem Inv.stack (I:Inv X pins σ H s):s.heap.FunFrames X.base X.stack:=by
 rcases I.ok.stk with e | ⟨e,hf⟩
 ·rw [e];exact I.funs
 ·rw [e];obtain ⟨m,hn,_⟩:=I.loc;refine .cons (by rw [I.ok.kind];decide) hf hn ?_ I.funs
  exact Heap.get?_none_of_le (Nat.le_trans I.ok.bsz I.ok.above)
theorem Inv.stkSub (I:Inv X pins σ H s):∀ b ∈ frs X.stack,b ∈ X.env.locals :: X.fs:=fun b hb => by
 rcases I.ok.stk with e | ⟨e,hf⟩
 ·rw [e] at hb;exact List.mem_cons_of_mem _ hb
 ·rw [e] at hb;unfold frs at hb;rw [List.filterMap_cons,hf] at hb;exact hb
theorem Inv.stkFree (I:Inv X pins σ H s):∀ b ∈ frs X.stack,H b = none:=fun b hb => by
 rcases List.mem_cons.mp (I.stkSub b hb) with e | hb
 ·rw [e];exact I.free
 ·obtain ⟨_,o,ho,_⟩:=I.ok.funs.mem hb;exact I.base.free b o ho (I.ok.frf b hb) fun z => I.ok.exfs b z hb
theorem Inv.step {g':Array GenState} {t':Nat} {d':Drawn} {ch:List Addr} (I:Inv X pins σ H s)
  (hch:∀ b ∈ ch,(b ∈ X.ex \/ X.s₀.heap.objs.size <= b) /\ b ≠ X.env.locals /\ (∀ x c,X.env.cells.lookup x = some c -> c ≠ b) /\ ∀ p ∈ X.pn ++ pins,p.1 ≠ b)
  (keep:∀ b o,b ≠ X.env.locals -> b ∉ X.fs -> b ∉ ch -> s.heap.get? b = some o -> H b = none -> h'.get? b = some o)
  (slot:∀ b o,b ≠ X.env.locals -> b ∈ X.fs -> b ∉ ch -> s.heap.get? b = some o -> H b = none -> ∃ sl,h'.get? b = some { o with slots:=sl }) (free:∀ b o,b ∉ ch -> s.heap.get? b = some o -> H b = none -> H' b = none)
  (there:∀ b o,b ∉ ch -> s.heap.get? b = some o -> ∃ o',h'.get? b = some o')
  (tups:∀ b xs,H b = some (.tup xs) -> H' b = some (.tup xs)) (frzs:∀ b o u,H b = some (.frz o u) -> H' b = some (.frz o u)) (tbls:∀ b ps,H b = some (.tbl ps) -> ∃ more,H' b = some (.tbl (ps ++ more)))
  (ns:∀ m,s.heap.Ns X.env.locals m -> h'.Ns X.env.locals m) (hok:HOk X.prog X.w H' h') (hg:AllBare g') :
  Inv X pins σ H' { s with heap:=h',gens:=g',drawn:=d',toks:=t' }:=by
 have neL:∀ b o,X.s₀.heap.get? b = some o -> b ≠ X.env.locals:=fun b o e => Nat.ne_of_lt (Nat.lt_of_lt_of_le (Heap.lt_size e) I.ok.above);have neC:∀ b o,X.s₀.heap.get? b = some o -> b ∉ X.ex -> b ∉ ch:=fun b o e hx hb => by
  rcases (hch b hb).1 with z | z
  ·exact hx z
  ·exact absurd (Nat.lt_of_lt_of_le (Heap.lt_size e) z) (Nat.lt_irrefl _)
 have cellK:∀ x c,X.env.cells.lookup x = some c -> ∀ v,s.heap.IsCell c v -> h'.IsCell c v:=fun x c e v ⟨o,ho,hd⟩ => by
  have nch:c ∉ ch:=fun z => (hch c z).2.2.1 x c e rfl;by_cases hc:c ∈ X.fs
  ·obtain ⟨sl,q⟩:=slot c o (I.cne x c e) hc nch ho (I.freeC x c e);exact ⟨_,q,hd⟩
  ·exact ⟨o,keep c o (I.cne x c e) hc nch ho (I.freeC x c e),hd⟩
 refine ⟨I.ok,I.os,hg,⟨fun b o e n hb hx => ?_,fun b o e n hb hx => ?_,fun b o e n hx => ?_,fun b o e hx => ?_,fun b xs e => tups b xs (I.base.tups b xs e),fun b o xs e => frzs b o xs (I.base.frzs b o xs e),fun b ps e => ?_⟩,?_,fun x c e => ?_,?_,fun x c e => ?_,fun p hp => ?_,hok,I.len⟩
 ·exact keep b o (neL b o e) hb (neC b o e hx) (I.base.keep b o e n hb hx) (I.base.free b o e n hx)
 ·obtain ⟨sl,e1⟩:=I.base.slot b o e n hb hx;obtain ⟨sl',e2⟩:=slot b _ (neL b o e) hb (neC b o e hx) e1 (I.base.free b o e n hx);exact ⟨sl',e2⟩
 ·obtain ⟨o',e1⟩:=I.base.there b o e hx;exact free b o' (neC b o e hx) e1 (I.base.free b o e n hx)
 ·obtain ⟨o',e1⟩:=I.base.there b o e hx;exact there b o' (neC b o e hx) e1
 ·obtain ⟨m1,e1⟩:=I.base.tbls b ps e;obtain ⟨m2,e2⟩:=tbls b _ e1;exact ⟨m1 ++ m2,by rw [e2,Array.append_assoc]⟩
 ·obtain ⟨m,hn,hl⟩:=I.loc;refine ⟨m,ns m hn,fun i x v e1 e2 e3 => ?_⟩;obtain ⟨u,r,l⟩:=hl i x v e1 e2 e3;refine ⟨u,r,?_⟩;rcases l with l | ⟨k,c,e,z⟩
  ·exact .inl l
  ·exact .inr ⟨k,c,e,cellK x c e _ z⟩
 ·obtain ⟨v,z⟩:=I.cell x c e;exact ⟨v,cellK x c e v z⟩
 ·obtain ⟨m,⟨o,_,_,ho,_⟩,_⟩:=I.loc;exact free _ o (fun z => (hch _ z).2.1 rfl) ho I.free
 ·obtain ⟨v,o,ho,hd⟩:=I.cell x c e;exact free c o (fun z => (hch c z).2.2.1 x c e rfl) ho (I.freeC x c e)
 ·obtain ⟨e,n,ne,nf,d⟩:=I.pin p hp;have nch:p.1 ∉ ch:=fun z => (hch p.1 z).2.2.2 p hp rfl;exact ⟨keep p.1 p.2 ne nf nch e n,free p.1 p.2 nch e n,ne,nf,d⟩
theorem Inv.un {t':Nat} (I:Inv X pins σ H s) (u:Un X.fs [] H H' s.heap h') (hok:HOk X.prog X.w H' h'):Inv X pins σ H' { s with heap:=h',toks:=t' }:=by
 obtain ⟨m,⟨o,es,ep,ho,r⟩,_⟩:=id I.loc;obtain ⟨sl,hL⟩:=u.any ho I.free (by simp)
 exact I.step (g':=s.gens) (d':=s.drawn) (ch:=[]) (fun _ z => nomatch z) (fun b o _ hb _ e n => u.keep b o e n hb (by simp)) (fun b o _ hb _ e n => u.slot b o e n hb (by simp)) (fun b o _ e n => u.free b o e n (by simp)) (fun b o _ e => u.there b o e (by simp)) u.tups u.frzs u.tbls (fun m' hm => by
  obtain ⟨o',es',ep',ho',r'⟩:=hm;rw [ho] at ho';cases ho';exact ⟨_,es',ep',hL,r'⟩) hok I.bare
theorem Inv.call {g':Array GenState} {t':Nat} {d':Drawn} {ch:List Addr} (I:Inv X pins σ H s) (u:Un (frs X.stack) ch H H' s.heap h') (hok:HOk X.prog X.w H' h') (hg:AllBare g')
  (hch:∀ b ∈ ch,(b ∈ X.ex \/ X.s₀.heap.objs.size <= b) /\ b ≠ X.env.locals /\ (∀ x c,X.env.cells.lookup x = some c -> c ≠ b) /\ ∀ p ∈ X.pn ++ pins,p.1 ≠ b) :
  Inv X pins σ H' { s with heap:=h',gens:=g',drawn:=d',toks:=t' }:=by
 obtain ⟨m,⟨o,es,ep,ho,r⟩,_⟩:=id I.loc;obtain ⟨sl,hL⟩:=u.any ho I.free fun z => (hch _ z).2.1 rfl;exact I.step (ch:=ch) hch (fun b o hL hb hc e n => u.keep b o e n (fun z => (List.mem_cons.mp (I.stkSub b z)).elim hL hb) hc) (fun b o _ _ hc e n => u.any e n hc) (fun b o hc e n => u.free b o e n hc) (fun b o hc e => u.there b o e hc) u.tups u.frzs u.tbls (fun m' hm => by
  obtain ⟨o',es',ep',ho',r'⟩:=hm;rw [ho] at ho';cases ho';exact ⟨_,es',ep',hL,r'⟩) hok hg
theorem Inv.turned {t':Nat} {it:Addr} (I:Inv X pins σ H s) (k:∀ b o,b ≠ it -> s.heap.get? b = some o -> h'.get? b = some o) (hn:H it = none) (hL:it ≠ X.env.locals)
  (h1:it ∈ X.ex \/ X.s₀.heap.objs.size <= it) (h2:∀ x c,X.env.cells.lookup x = some c -> c ≠ it) (h3:∀ p ∈ X.pn ++ pins,p.1 ≠ it):Inv X pins σ H { s with heap:=h',toks:=t' }:=by
 have nit:∀ b u,H b = some u -> b ≠ it:=fun b u e z => by rw [z,hn] at e;cases e
 refine I.step (g':=s.gens) (d':=s.drawn) (ch:=[it]) (fun b hb => ?_) (fun b o _ _ hc e _ => k b o (fun z => hc (by simp [z])) e) (fun b o _ _ hc e _ => ⟨o.slots,k b o (fun z => hc (by simp [z])) e⟩) (fun _ _ _ _ n => n)
  (fun b o hc e => ⟨o,k b o (fun z => hc (by simp [z])) e⟩) (fun _ _ e => e) (fun _ _ _ e => e) (fun b ps e => ⟨#[],by rw [e];simp⟩) (fun m hm => ?_) (fun b u e => ?_) I.bare
 ·have e:b = it:=by simpa using hb
  subst e;exact ⟨h1,hL,h2,h3⟩
 ·obtain ⟨o,es,ep,ho,r⟩:=hm;exact ⟨o,es,ep,k _ o (Ne.symm hL) ho,r⟩
 ·refine (I.hok b u e).stay (fun c v hc q => k c v ?_ q) (fun _ q => q) (fun _ _ q => q) fun _ _ _ q => q;rcases hc with z | z
  ·rw [z];exact nit b u e
  ·exact nit c _ z
theorem Inv.tok (I:Inv X pins σ H s) (t:Nat):Inv X pins σ H { s with toks:=t }:=I.un (h':=s.heap) (t':=t) Un.refl I.hok
theorem Inv.kept {t':Nat} (I:Inv X pins σ H s) (k:∀ b u,s.heap.get? b = some u -> h'.get? b = some u):Inv X pins σ H { s with heap:=h',toks:=t' }:=I.un (Un.kept k) (I.hok.kept k)
theorem Inv.laid {a:Addr} {o:HO} {t':Nat} (I:Inv X pins σ H s) (k:∀ b u,s.heap.get? b = some u -> h'.get? b = some u) (hp:s.heap.objs.size <= a) (new:ObjOk X.prog X.w (upd H a o) h' a o) :
  Inv X pins σ (upd H a o) { s with heap:=h',toks:=t' }:=I.un (Un.laid k hp (I.hok.fresh hp)) (I.hok.laid k hp new)
theorem Inv.write {x e:Addr} {o:HO} {t':Nat} (I:Inv X pins σ H s) (mu:Mut (H x)) (he:e = x \/ H e = some (.own x)) (k:∀ b u,b ≠ e -> s.heap.get? b = some u -> h'.get? b = some u) (heo:∃ u,h'.get? e = some u)
  (new:ObjOk X.prog X.w (upd H x o) h' x o):Inv X pins σ (upd H x o) { s with heap:=h',toks:=t' }:=I.un (Un.write mu he k heo) (I.hok.write mu he k heo new)
theorem Inv.pins_of {pins':List (Addr × Obj)} (I:Inv X pins σ H s) (h:∀ p ∈ pins',s.heap.get? p.1 = some p.2 /\ H p.1 = none /\ p.1 ≠ X.env.locals /\ p.1 ∉ X.fs /\ ∀ v,p.2.data ≠ .cell v):Inv X pins' σ H s :=
 ⟨I.ok,I.os,I.bare,I.base,I.loc,I.cell,I.free,I.freeC,fun p hp => (List.mem_append.mp hp).elim (fun z => I.pin p (List.mem_append_left _ z)) (h p),I.hok,I.len⟩
theorem nodup_ix {N:List Str} (hN:N.Nodup) {i j:Nat} {x:Str} (a:N[i]? = some x) (b:N[j]? = some x):i = j:=by
 obtain ⟨h1,e1⟩:=List.getElem?_eq_some_iff.mp a;obtain ⟨h2,e2⟩:=List.getElem?_eq_some_iff.mp b;exact (List.getElem_inj hN).mp (e1.trans e2.symm)
theorem store_ok2 {M:Model} {A:Around} {E:Value -> Shared -> Prop} {i:Nat} {x:Str} {v:V} {u:Value} {Q:Unit -> Shared -> Prop} (I:Inv X pins σ H s) (hN:X.N.Nodup) (hi:X.N[i]? = some x) (hx:Loc X.env.scope x) (r:RelV v u)
  (h:∀ s',Inv X pins (σ.set i (some v)) H s' -> (∃ a,Heap.SameBut a s.heap s'.heap /\ (a = X.env.locals \/ X.env.cells.lookup x = some a)) -> Q () s') (hf:X.fn x = true \/ X.env.scope.names.lookup x = some .local:=by first | exact .inl rfl | exact .inr rfl | assumption):wpAny M A (storeName X.env x u) Q E s:=by
 obtain ⟨m,hn,hl⟩:=id I.loc;have hcls:(X.env.scope.kind == .class || (X.env.scope.kind == .module && X.env.locals != X.env.globals)) = false:=by rw [I.ok.kind];rfl
 have hiσ:i < σ.length:=by rw [I.len];exact (List.getElem?_eq_some_iff.mp hi).1
 have cne:=I.cne;have tracked:∀ {a:Addr} {h':Heap},(∃ o,s.heap.get? a = some o /\ H a = none) -> Heap.SameBut a s.heap h' -> HOk X.prog X.w H h':=fun {a h'} ha hs b ob e => by
  obtain ⟨_,_,hfree⟩:=ha;refine (I.hok b ob e).stay (fun c w' hc q => (hs.2 c ?_).trans q) (fun _ q => q) (fun _ _ q => q) fun _ _ _ q => q;rintro rfl;rcases hc with rfl | hc
  ·rw [hfree] at e;cases e
  ·rw [hfree] at hc;cases hc
 rcases hx with hk | hk
 ·refine wpAny_storeName_local hk hn (fun h' hn' hs => ?_) hcls;obtain ⟨oL,_,_,hoL,_⟩:=id hn;refine h _ ⟨I.ok,I.os,I.bare,⟨fun b o e n hb hx => ?_,fun b o e n hb hx => ?_,I.base.free,fun b o e hx => ?_,I.base.tups,I.base.frzs,I.base.tbls⟩,⟨_,hn',fun j y v' e1 e2 e3 => ?_⟩,fun y c e => ?_,I.free,I.freeC,fun p hp => ?_,tracked ⟨oL,hoL,I.free⟩ hs,by simpa using I.len⟩ ⟨_,hs,.inl rfl⟩
  ·exact (hs.2 b (Nat.ne_of_lt (Nat.lt_of_lt_of_le (Heap.lt_size e) I.ok.above))).trans (I.base.keep b o e n hb hx)
  ·obtain ⟨sl,e1⟩:=I.base.slot b o e n hb hx;exact ⟨sl,(hs.2 b (Nat.ne_of_lt (Nat.lt_of_lt_of_le (Heap.lt_size e) I.ok.above))).trans e1⟩
  ·obtain ⟨o',e1⟩:=I.base.there b o e hx;exact ⟨o',(hs.2 b (Nat.ne_of_lt (Nat.lt_of_lt_of_le (Heap.lt_size e) I.ok.above))).trans e1⟩
  ·by_cases hj:j = i
   ·subst hj;rw [hi] at e1;cases e1;rw [List.getElem?_set_self hiσ] at e2;cases e2;exact ⟨u,r,.inl ⟨hk,by simp⟩⟩
   ·rw [List.getElem?_set_ne (Ne.symm hj)] at e2;obtain ⟨u',r',q⟩:=hl j y v' e1 e2 e3;refine ⟨u',r',?_⟩;rcases q with ⟨k,e⟩ | ⟨k,c,e,z⟩
    ·refine .inl ⟨k,?_⟩;have:y ≠ x:=fun e => hj (nodup_ix hN e1 (e ▸ hi));simp [this,e]
    ·exact .inr ⟨k,c,e,z.sameBut hs (cne y c e)⟩
  ·obtain ⟨w',z⟩:=I.cell y c e;exact ⟨w',z.sameBut hs (cne y c e)⟩
  ·obtain ⟨e,n,ne,nf,d⟩:=I.pin p hp;exact ⟨(hs.2 p.1 ne).trans e,n,ne,nf,d⟩
 ·have hfn:X.fn x = true:=by
   rcases hf with z | z
   ·exact z
   ·rw [z] at hk;cases hk
  obtain ⟨c,hc⟩:=I.ok.has x (.inl hk);obtain ⟨w',z⟩:=I.cell x c hc;refine wpAny_storeName_cell I.ok.kind hk hc z (fun h' hc' hs => ?_);obtain ⟨oc,hoc,hocd⟩:=id z;refine h { s with heap:=h' } ⟨I.ok,I.os,I.bare,⟨fun b o e n hb hx => ?_,fun b o e n hb hx => ?_,I.base.free,fun b o e hx => ?_,I.base.tups,I.base.frzs,I.base.tbls⟩,⟨m,hn.sameBut hs (Ne.symm (cne x c hc)),fun j y v' e1 e2 e3 => ?_⟩,fun y c' e => ?_,I.free,I.freeC,fun p hp => ?_,tracked ⟨oc,hoc,I.freeC x c hc⟩ hs,by simpa using I.len⟩ ⟨c,hs,.inr hc⟩
  ·exact (hs.2 b (Nat.ne_of_lt (Nat.lt_of_lt_of_le (Heap.lt_size e) (I.ok.cab x c hfn hc)))).trans (I.base.keep b o e n hb hx)
  ·obtain ⟨sl,e1⟩:=I.base.slot b o e n hb hx;exact ⟨sl,(hs.2 b (Nat.ne_of_lt (Nat.lt_of_lt_of_le (Heap.lt_size e) (I.ok.cab x c hfn hc)))).trans e1⟩
  ·obtain ⟨o',e1⟩:=I.base.there b o e hx;exact ⟨o',(hs.2 b (Nat.ne_of_lt (Nat.lt_of_lt_of_le (Heap.lt_size e) (I.ok.cab x c hfn hc)))).trans e1⟩
  ·by_cases hj:j = i
   ·subst hj;rw [hi] at e1;cases e1;rw [List.getElem?_set_self hiσ] at e2;cases e2;exact ⟨u,r,.inr ⟨.inl hk,c,hc,hc'⟩⟩
   ·rw [List.getElem?_set_ne (Ne.symm hj)] at e2;obtain ⟨u',r',q⟩:=hl j y v' e1 e2 e3;refine ⟨u',r',?_⟩;rcases q with q | ⟨k,c',e,z'⟩
    ·exact .inl q
    ·refine .inr ⟨k,c',e,z'.sameBut hs ?_⟩;rintro rfl;exact hj (nodup_ix hN e1 (I.ok.inj _ _ _ e hc ▸ hi))
  ·by_cases hcc:c' = c
   ·subst hcc;exact ⟨_,hc'⟩
   ·obtain ⟨w2,z2⟩:=I.cell y c' e;exact ⟨w2,z2.sameBut hs hcc⟩
  ·obtain ⟨e,n,ne,nf,d⟩:=I.pin p hp;refine ⟨(hs.2 p.1 ?_).trans e,n,ne,nf,d⟩;intro q;rw [q,hoc] at e;have q':oc = p.2:=Option.some.inj e;exact d w' (by rw [<- q'];exact hocd)
theorem store_ok {M:Model} {A:Around} {E:Value -> Shared -> Prop} {i:Nat} {x:Str} {v:V} {u:Value} {Q:Unit -> Shared -> Prop} (I:Inv X pins σ H s) (hN:X.N.Nodup) (hi:X.N[i]? = some x) (hx:Loc X.env.scope x) (r:RelV v u)
  (h:∀ s',Inv X pins (σ.set i (some v)) H s' -> Q () s') (hf:X.fn x = true \/ X.env.scope.names.lookup x = some .local:=by first | exact .inl rfl | exact .inr rfl | assumption):wpAny M A (storeName X.env x u) Q E s :=
 store_ok2 I hN hi hx r (fun s' I' _ => h s' I') hf
theorem Inv.call' {s':Shared} {ch:List Addr} (I:Inv X pins σ H s) (ho:s'.os = s.os) (u:Un (frs X.stack) ch H H' s.heap s'.heap) (hok:HOk X.prog X.w H' s'.heap) (hg:AllBare s'.gens)
  (hch:∀ b ∈ ch,(b ∈ X.ex \/ X.s₀.heap.objs.size <= b) /\ b ≠ X.env.locals /\ (∀ x c,X.env.cells.lookup x = some c -> c ≠ b) /\ ∀ p ∈ X.pn ++ pins,p.1 ≠ b):Inv X pins σ H' s':=by
 obtain ⟨h',g',d',t',o'⟩:=s';have e:o' = s.os:=ho;subst e;exact I.call (g':=g') (t':=t') (d':=d') u hok hg hch
end
abbrev XK:=Value -> Option Addr -> Hp -> Prop
abbrev St:=List (Option V)
abbrev VK:=V -> Hp -> Prop
abbrev TE:=St -> Hp -> VK -> Prop
abbrev TT:=St -> Hp -> (Bool -> Hp -> Prop) -> Prop
abbrev TA:=St -> Hp -> (List V -> Hp -> Prop) -> Prop
structure Ends where
 nx:St -> Hp -> Prop
 rt:VK
 bk:St -> Hp -> Prop:=fun _ _ => False
 ct:St -> Hp -> Prop:=fun _ _ => False
abbrev TS:=Ends -> St -> Hp -> Prop
def EP (X:Cx) (pins:List (Addr × Obj)) (σ:St) (Q:VK) (u:Value) (s':Shared):Prop:=∃ v H',Inv X pins σ H' s' /\ RelV v u /\ Q v H'
def TP (X:Cx) (pins:List (Addr × Obj)) (σ:St) (Q:Bool -> Hp -> Prop) (b:Bool) (s':Shared):Prop:=∃ H',Inv X pins σ H' s' /\ Q b H'
def AP (X:Cx) (pins:List (Addr × Obj)) (σ:St) (Q:List V -> Hp -> Prop) (us:List Value) (s':Shared):Prop:=∃ vs H',Inv X pins σ H' s' /\ Vals vs us /\ Q vs H'
def SP (X:Cx) (pins:List (Addr × Obj)) (D:Ends) (f:Flow) (s':Shared):Prop :=
 match f with
 | .next => ∃ σ' H',Inv X pins σ' H' s' /\ D.nx σ' H'
 | .brk => ∃ σ' H',Inv X pins σ' H' s' /\ D.bk σ' H'
 | .cont => ∃ σ' H',Inv X pins σ' H' s' /\ D.ct σ' H'
 | .ret u => ∃ v σ' H',Inv X pins σ' H' s' /\ RelV v u /\ D.rt v H'
def PE (X:Cx) (e:Expr) (t:TE):Prop :=
 ∀ (pins:List (Addr × Obj)) (s:Shared) (σ:St) (H:Hp) (Q:VK),Inv X pins σ H s -> t σ H Q -> wpAny (model X.prog X.w) X.A (eval e X.env) (EP X pins σ Q) X.xe s
def PT (X:Cx) (e:Expr) (t:TT):Prop :=
 ∀ (pins:List (Addr × Obj)) (s:Shared) (σ:St) (H:Hp) (Q:Bool -> Hp -> Prop),Inv X pins σ H s -> t σ H Q -> wpAny (model X.prog X.w) X.A (isTrue e X.env (eval e X.env)) (TP X pins σ Q) X.xe s
def PW (X:Cx) (e:Expr) (t:TT):Prop :=
 ∀ (whole:Sem Value) (pins:List (Addr × Obj)) (s:Shared) (σ:St) (H:Hp) (Q:Bool -> Hp -> Prop),Inv X pins σ H s -> t σ H Q -> wpAny (model X.prog X.w) X.A (isTrue e X.env whole) (TP X pins σ Q) X.xe s
theorem PW.pt {X:Cx} {e:Expr} {t:TT} (h:PW X e t):PT X e t:=h _
def PA (X:Cx) (es:List Expr) (t:TA):Prop :=
 ∀ (pos:Pos) (pins:List (Addr × Obj)) (s:Shared) (σ:St) (H:Hp) (Q:List V -> Hp -> Prop),Inv X pins σ H s -> t σ H Q -> wpAny (model X.prog X.w) X.A (spliced (backTo pos (starEach es X.env))) (AP X pins σ Q) X.xe s
def PS (X:Cx) (st:Stmt) (t:TS):Prop :=
 ∀ (pins:List (Addr × Obj)) (s:Shared) (σ:St) (H:Hp) (D:Ends),Inv X pins σ H s -> t D σ H -> wpAny (model X.prog X.w) X.A (exec st X.env) (SP X pins D) X.xe s
def PSs (X:Cx) (st:List Stmt) (t:TS):Prop :=
 ∀ (pins:List (Addr × Obj)) (s:Shared) (σ:St) (H:Hp) (D:Ends),Inv X pins σ H s -> t D σ H -> wpAny (model X.prog X.w) X.A (execs st X.env) (SP X pins D) X.xe s
theorem thn {α:Type} {t:Sem α} {Q Q':α -> Shared -> Prop} {M:Model} {A:Around} {E:Value -> Shared -> Prop} {s:Shared} (h:wpAny M A t Q E s) (hQ:∀ a s,Q a s -> Q' a s):wpAny M A t Q' E s:=wpAny_mono h hQ fun _ _ x => x
section
variable {X:Cx}
def tVar (i:Nat):TE:=fun σ H Q => ∃ v,σ[i]? = some (some v) /\ Q v H
def tC (v:V):TE:=fun _ H Q => Q v H
theorem pe_var {i:Nat} {x:Str} {pos:Pos} (hN:X.N[i]? = some x) (hv:Vis X.env.scope x) (hd:(x == ("__debug__":Str)) = false:=by decide) (hcd:(x == ("__classdict__":Str)) = false:=by decide):PE X (.Name x pos) (tVar i):=by
 intro pins s σ H Q I h;obtain ⟨v,e,h⟩:=h;obtain ⟨m,hn,hl⟩:=I.loc;obtain ⟨u,r,l⟩:=hl i x v hN e hv;have fin:EP X pins σ Q u s:=⟨v,H,I,r,h⟩;rcases l with ⟨hk,hm⟩ | ⟨hk,c,hc,hcell⟩
 ·exact wpAny_Name (wpAny_loadName_local I.ok.kind hk hn hm fin) hd
 ·rcases hk with hk | hk
  ·exact wpAny_Name (wpAny_loadName_cell I.ok.kind hk hc hcell fin) hd
  ·exact wpAny_Name (wpAny_loadName_free I.ok.kind hk hc hcell fin hcd) hd
theorem pe_int {i j pos}:PE X (.Constant (.int i) j pos) (tC (.int i)):=fun _ _ _ H _ I h => wpAny_Constant_int ⟨.int i,H,I.tok _,⟨_,rfl⟩,h⟩
theorem pe_bl {b j pos}:PE X (.Constant (.bool b) j pos) (tC (.bl b)):=fun _ _ _ H _ I h => Constant_bool ⟨.bl b,H,I,rfl,h⟩
theorem pe_non {j pos}:PE X (.Constant .none j pos) (tC .non):=fun _ _ _ H _ I h => Constant_none ⟨.non,H,I,rfl,h⟩
theorem pe_str {x j pos}:PE X (.Constant (.str x) j pos) (tC (.str x)):=fun _ _ _ H _ I h => Calls.Constant_str ⟨.str x,H,I.tok _,⟨_,rfl⟩,h⟩
def Gl (X:Cx) (x:Str):Prop:=X.env.kindOf x = some .globalImplicit
theorem ld_glob {E:Value -> Shared -> Prop} {pins:List (Addr × Obj)} {s:Shared} {σ:St} {H:Hp} {x:Str} {u:Value} {pos:Pos} {Q:Value -> Shared -> Prop} (I:Inv X pins σ H s) (hg:Gl X x) (hm:X.mg x = some u) (h:Q u s)
  (hd:(x == ("__debug__":Str)) = false:=by decide):wpAny (model X.prog X.w) X.A (eval (.Name x pos) X.env) Q E s :=
 Calls.Name_function_global I.ok.kind hg (Calls.loadGlobal_global (by rw [I.ok.glob];exact I.mod.glob.keeps I.bk) hm h) hd
theorem ld_blt {E:Value -> Shared -> Prop} {pins:List (Addr × Obj)} {s:Shared} {σ:St} {H:Hp} {x:Str} {u:Value} {pos:Pos} {Q:Value -> Shared -> Prop} (I:Inv X pins σ H s) (hg:Gl X x) (hm:X.mg x = none) (hv:bootBuiltins x = some u) (h:Q u s)
  (hn:x ≠ "__name__":=by decide) (hd:(x == ("__debug__":Str)) = false:=by decide):wpAny (model X.prog X.w) X.A (eval (.Name x pos) X.env) Q E s:=by
 obtain ⟨mb,h1,h2⟩:=I.mod.blt;exact Calls.Name_function_global I.ok.kind hg (Calls.loadGlobal_builtin (by rw [I.ok.glob];exact I.mod.glob.keeps I.bk) hm (by rw [I.ok.blt];exact h1.keeps I.bk) ((h2 x hn).trans hv) h) hd
theorem pe_glob {x:Str} {v:V} {u:Value} {pos:Pos} (hg:Gl X x) (hm:X.mg x = some u) (r:RelV v u) (hd:(x == ("__debug__":Str)) = false:=by decide):PE X (.Name x pos) (tC v) :=
 fun _ _ _ H _ I h => ld_glob I hg hm ⟨v,H,I,r,h⟩ hd
theorem pe_bltn {x:Str} {v:V} {u:Value} {pos:Pos} (hg:Gl X x) (hm:X.mg x = none) (hv:bootBuiltins x = some u) (r:RelV v u) (hn:x ≠ "__name__":=by decide) (hd:(x == ("__debug__":Str)) = false:=by decide):PE X (.Name x pos) (tC v) :=
 fun _ _ _ H _ I h => ld_blt I hg hm hv ⟨v,H,I,r,h⟩ hn hd
variable {a b:Expr} {ta tb:TE} {pos:Pos}
variable {tA tB':TT} {rest:List Expr}
def tAnd (t u:TT):TT:=fun σ H Q => t σ H fun c H1 => if c = true then u σ H1 Q else Q false H1
def tOr (t u:TT):TT:=fun σ H Q => t σ H fun c H1 => if c = true then Q true H1 else u σ H1 Q
def tNot (t:TT):TT:=fun σ H Q => t σ H fun c H1 => Q (!c) H1
theorem pw_and1 (ha:PT X a tA):PW X (.BoolOp .And [a] pos) tA:=by
 intro wh pins s σ H Q I h;refine isTrue_and (thn (ha pins s σ H Q I h) fun c s1 e => ?_)
 cases c with
 | true => exact isTrue_and_nil e
 | false => exact e
theorem pw_or1 (ha:PT X a tA):PW X (.BoolOp .Or [a] pos) tA:=by
 intro wh pins s σ H Q I h;refine isTrue_or (thn (ha pins s σ H Q I h) fun c s1 e => ?_)
 cases c with
 | false => exact isTrue_or_nil e
 | true => exact e
theorem pw_and (ha:PT X a tA) (hb:PW X (.BoolOp .And (b :: rest) pos) tB'):PW X (.BoolOp .And (a :: b :: rest) pos) (tAnd tA tB'):=by
 intro wh pins s σ H Q I h;refine isTrue_and (thn (ha pins s σ H _ I h) fun c s1 hq7 => ?_);obtain ⟨H1,I1,q1⟩:=hq7
 cases c with
 | true => exact hb wh pins s1 σ H1 Q I1 q1
 | false => exact ⟨H1,I1,q1⟩
theorem pw_or (ha:PT X a tA) (hb:PW X (.BoolOp .Or (b :: rest) pos) tB'):PW X (.BoolOp .Or (a :: b :: rest) pos) (tOr tA tB'):=by
 intro wh pins s σ H Q I h;refine isTrue_or (thn (ha pins s σ H _ I h) fun c s1 hq8 => ?_);obtain ⟨H1,I1,q1⟩:=hq8
 cases c with
 | true => exact ⟨H1,I1,q1⟩
 | false => exact hb wh pins s1 σ H1 Q I1 q1
theorem pt_not (ha:PT X a tA):PT X (.UnaryOp .Not a pos) (tNot tA):=by
 intro pins s σ H Q I h;exact isTrue_not (ha pins s σ H (fun c H1 => Q (!c) H1) I h)
def tAndV (ta tb:TE):TE:=fun σ H Q => ta σ H fun x H1 => ∃ c,x = .bl c /\ if c = true then tb σ H1 Q else Q (.bl false) H1
def tNotV (ta:TE):TE:=fun σ H Q => ta σ H fun x H1 => ∃ c,x = .bl c /\ Q (.bl (!c)) H1
theorem pe_one {op} {t:TE} (h:PE X a t):PE X (.BoolOp op [a] pos) t:=fun pins s σ H Q I hw => BoolOp_one (h pins s σ H Q I hw)
theorem pe_and (ha:PE X a ta) (hb:PE X (.BoolOp .And (b :: rest) pos) tb):PE X (.BoolOp .And (a :: b :: rest) pos) (tAndV ta tb):=by
 intro pins s σ H Q I h;refine BoolOp_and (thn (ha pins s σ H _ I h) fun v s1 hq9 => ?_);obtain ⟨x,H1,I1,r1,q1⟩:=hq9;obtain ⟨c,rfl,q1⟩:=q1;cases r1;refine wpAny_truthy_bool ?_
 cases c with
 | true => exact hb pins s1 σ H1 Q I1 q1
 | false => exact ⟨.bl false,H1,I1,rfl,q1⟩
theorem pe_not (ha:PE X a ta):PE X (.UnaryOp .Not a pos) (tNotV ta):=by
 intro pins s σ H Q I h;refine UnaryOp_ (thn (ha pins s σ H _ I h) fun v s1 hq11 => ?_);obtain ⟨x,H1,I1,r1,q1⟩:=hq11;obtain ⟨c,rfl,q1⟩:=q1;cases r1;exact not_of (wpAny_truthy_bool ⟨.bl (!c),H1,I1,rfl,q1⟩)
def tIf (t:TT) (ta tb:TE):TE:=fun σ H Q => t σ H fun c H1 => if c = true then ta σ H1 Q else tb σ H1 Q
theorem pe_ifExp {c:Expr} (hc:PT X c tA) (ha:PE X a ta) (hb:PE X b tb):PE X (.IfExp c a b pos) (tIf tA ta tb):=by
 intro pins s σ H Q I h;refine wpAny_IfExp (thn (hc pins s σ H _ I h) fun d s1 hq12 => ?_);obtain ⟨H1,I1,q1⟩:=hq12
 cases d with
 | true => exact ha pins s1 σ H1 Q I1 q1
 | false => exact hb pins s1 σ H1 Q I1 q1
end
def SqL (K:PySem.W.Frag) (H:Hp) (a:Addr) (xs:List V):Prop :=
 Rd H a (.lst xs) \/
  ∃ (o:Obj) (its:Array Value) (n:Nat),K.lookup a = some o /\ o.cls = .type "list" /\ o.dict = none /\ o.data = .seq its n /\ its.size <= sizeLine /\ Vals xs its.toList
def SqT (K:PySem.W.Frag) (H:Hp) (a:Addr) (xs:List V):Prop :=
 Rd H a (.tup xs) \/
  ∃ (o:Obj) (its:Array Value) (n:Nat),K.lookup a = some o /\ o.cls = .type "tuple" /\ o.data = .seq its n /\ its.size <= sizeLine /\ Vals xs its.toList
def absV:Value -> Option V
 | .none => some .non
 | .bool b => some (.bl b)
 | .int i _ => some (.int i)
 | .str x _ => some (.str x)
 | .bytes b _ => some (.byt b)
 | .float b _ => some (.flt b)
 | .ref a => some (.ref a)
 | .type n => some (.ty n)
 | _ => none
theorem RelV.abs {x:V} {u:Value} (r:RelV x u):absV u = some x:=by
 cases x with
 | non => cases r;rfl
 | bl _ => cases r;rfl
 | int _ => obtain ⟨t,rfl⟩:=r;rfl
 | str _ => obtain ⟨t,rfl⟩:=r;rfl
 | byt _ => obtain ⟨t,rfl⟩:=r;rfl
 | flt _ => obtain ⟨t,rfl⟩:=r;rfl
 | ref _ => cases r;rfl
 | ty _ => cases r;rfl
theorem RelV.inj {x y:V} {u:Value} (r:RelV x u) (q:RelV y u):x = y:=Option.some.inj (r.abs.symm.trans q.abs)
theorem Vals.inj:∀ {xs ys:List V} {us:List Value},Vals xs us -> Vals ys us -> xs = ys
 | _,_,_,.nil,.nil => rfl
 | _,_,_,.cons r t,.cons r' t' => by rw [r.inj r',Vals.inj t t']
section
variable {X:Cx} {pins:List (Addr × Obj)} {σ:St} {H:Hp} {s:Shared} {a:Addr} {xs ys:List V}
theorem SqL.of {K:PySem.W.Frag} (h:H a = some (.lst xs)):SqL K H a xs:=.inl (.inl h)
theorem SqT.of {K:PySem.W.Frag} (h:H a = some (.tup xs)):SqT K H a xs:=.inl (.inl h)
theorem Inv.list (I:Inv X pins σ H s) (h:SqL X.K H a xs):∃ its:List Value,Vals xs its /\ PlainL s.heap a its.toArray /\ xs.length <= sizeLine:=by
 rcases h with h | ⟨o,its,n,hk,hc,hd,hs,hz,r⟩
 ·obtain ⟨z,its,n,r,e⟩:=h.ok I.hok;exact ⟨its,r,⟨_,n,e,rfl,rfl,rfl⟩,z⟩
 ·refine ⟨its.toList,r,⟨o,n,I.kIn a o hk,hc,hd,by simpa using hs⟩,?_⟩
  have e:=r.length;simp only [Array.length_toList] at e;lia
theorem Inv.tuple (I:Inv X pins σ H s) (h:SqT X.K H a xs):∃ its:List Value,Vals xs its /\ IsTup s.heap a its.toArray /\ xs.length <= sizeLine:=by
 rcases h with h | ⟨o,its,n,hk,hc,hs,hz,r⟩
 ·obtain ⟨z,its,r,p⟩:=h.ok I.hok;exact ⟨its,r,p.to,z⟩
 ·refine ⟨its.toList,r,⟨o,I.kIn a o hk,hc,n,by simpa using hs⟩,?_⟩
  have e:=r.length;simp only [Array.length_toList] at e;lia
theorem Inv.list_inj (I:Inv X pins σ H s) (h:SqL X.K H a xs) (h':SqL X.K H a ys):xs = ys:=by
 obtain ⟨its,r,⟨o,n,e,_,_,d⟩,_⟩:=I.list h;obtain ⟨its',r',⟨o',n',e',_,_,d'⟩,_⟩:=I.list h';rw [e] at e';cases e';rw [d] at d'
 injection d' with d1 _
 have:its = its':=by simpa using congrArg Array.toList d1
 subst this;exact r.inj r'
theorem Inv.tuple_inj (I:Inv X pins σ H s) (h:SqT X.K H a xs) (h':SqT X.K H a ys):xs = ys:=by
 obtain ⟨its,r,⟨o,e,_,n,d⟩,_⟩:=I.tuple h;obtain ⟨its',r',⟨o',e',_,n',d'⟩,_⟩:=I.tuple h';rw [e] at e';cases e';rw [d] at d'
 injection d' with d1 _
 have:its = its':=by simpa using congrArg Array.toList d1
 subst this;exact r.inj r'
end
abbrev Cx.wish (X:Cx) (E:Value -> Shared -> Prop):Cx:={ X with xe:=E }
abbrev Cx.nox (X:Cx):Cx:=X.wish fun _ _ => False
theorem Cx.Ok.wish {X:Cx} (ok:X.Ok) (E:Value -> Shared -> Prop):(X.wish E).Ok :=
 ⟨ok.mod,ok.kind,ok.glob,ok.blt,ok.above,ok.inj,ok.has,ok.cab,ok.hd,ok.frames,ok.stk,ok.exf,ok.bs,ok.bsz,ok.noex,ok.exfs,ok.funs,ok.frf,ok.tabs⟩
theorem Cx.Ok.unwish {X:Cx} {E:Value -> Shared -> Prop} (ok:(X.wish E).Ok):X.Ok :=
 ⟨ok.mod,ok.kind,ok.glob,ok.blt,ok.above,ok.inj,ok.has,ok.cab,ok.hd,ok.frames,ok.stk,ok.exf,ok.bs,ok.bsz,ok.noex,ok.exfs,ok.funs,ok.frf,ok.tabs⟩
section
variable {X:Cx} {pins:List (Addr × Obj)} {σ:St} {H:Hp} {s:Shared} {E:Value -> Shared -> Prop}
theorem Inv.wish (I:Inv X pins σ H s) (E:Value -> Shared -> Prop):Inv (X.wish E) pins σ H s:=⟨I.ok.wish E,I.os,I.bare,I.base,I.loc,I.cell,I.free,I.freeC,I.pin,I.hok,I.len⟩
theorem Inv.unwish (I:Inv (X.wish E) pins σ H s):Inv X pins σ H s:=⟨I.ok.unwish,I.os,I.bare,I.base,I.loc,I.cell,I.free,I.freeC,I.pin,I.hok,I.len⟩
theorem SP.unwish {D:Ends} {f:Flow} {s':Shared} (h:SP (X.wish E) pins D f s'):SP X pins D f s':=by
 cases f with
 | next => obtain ⟨σ',H',I,q⟩:=h;exact ⟨σ',H',I.unwish,q⟩
 | brk => obtain ⟨σ',H',I,q⟩:=h;exact ⟨σ',H',I.unwish,q⟩
 | cont => obtain ⟨σ',H',I,q⟩:=h;exact ⟨σ',H',I.unwish,q⟩
 | ret u => obtain ⟨v,σ',H',I,r,q⟩:=h;exact ⟨v,σ',H',I.unwish,r,q⟩
theorem PSs.nox {st:List Stmt} {t:TS} (h:PSs X.nox st t):PSs X st t:=fun pins s σ H D I hw =>
 wpAny_mono (h pins s σ H D (I.wish _) hw) (fun _ _ q => q.unwish) fun _ _ z => False.elim z
end
section
variable {X:Cx} {st:Stmt} {rest:List Stmt} {t u:TS} {e:Expr} {te:TE} {pos:Pos}
def tNext:TS:=fun D σ H => D.nx σ H
def tSeq (t u:TS):TS:=fun D σ H => t { D with nx:=u D } σ H
theorem pss_nil:PSs X [] tNext:=fun _ _ σ H _ I h => wpAny_execs_nil ⟨σ,H,I,h⟩
theorem pss_cons (h1:PS X st t) (h2:PSs X rest u):PSs X (st :: rest) (tSeq t u):=by
 intro pins s σ H D I h;refine wpAny_execs_cons (thn (h1 pins s σ H { D with nx:=u D } I h) fun f s1 q => ?_)
 cases f with
 | next =>
  obtain ⟨σ',H',I',q⟩:=q;exact h2 pins s1 σ' H' D I' q
 | ret v => exact q
 | brk => exact q
 | cont => exact q
theorem pss_one (h1:PS X st t):PSs X [st] t:=by
 intro pins s σ H D I h;refine wpAny_execs_cons (thn (h1 pins s σ H D I h) fun f s1 q => ?_)
 cases f with
 | next => exact wpAny_execs_nil q
 | ret v => exact q
 | brk => exact q
 | cont => exact q
theorem Inv.quiet {pins:List (Addr × Obj)} {σ:St} {H:Hp} {s:Shared} (I:Inv X pins σ H s):interactive X.env = false:=by simp [interactive,I.ok.kind]
def tDrop (te:TE):TS:=fun D σ H => te σ H fun _ H1 => D.nx σ H1
theorem ps_expr (he:PE X e te) (hs:swapsWith e none pos.line X.env = pure false:=by rfl):PS X (.Expr e pos) (tDrop te):=by
 intro pins s σ H D I h;exact wpAny_Expr_any (thn (he pins s σ H _ I h) fun v s1 ⟨x,H1,I1,r1,q1⟩ => ⟨σ,H1,I1,q1⟩) I.quiet hs
def tRet (te:TE):TS:=fun D σ H => te σ H D.rt
theorem ps_ret (he:PE X e te):PS X (.Return (some e) pos) (tRet te):=by
 intro pins s σ H D I h;exact wpAny_Return_some (thn (he pins s σ H _ I h) fun v s1 ⟨x,H1,I1,r1,q1⟩ => ⟨x,σ,H1,I1,r1,q1⟩)
def tIfS (c:TT) (t u:TS):TS:=fun D σ H => c σ H fun b H1 => if b = true then t D σ H1 else u D σ H1
theorem ps_if {c:Expr} {a b:List Stmt} {tc:TT} (hc:PT X c tc) (ha:PSs X a t) (hb:PSs X b u):PS X (.If c a b pos) (tIfS tc t u):=by
 intro pins s σ H D I h;refine wpAny_If (thn (hc pins s σ H _ I h) fun d s1 hq13 => ?_);obtain ⟨H1,I1,q1⟩:=hq13
 cases d with
 | true => exact ha pins s1 σ H1 D I1 q1
 | false => exact hb pins s1 σ H1 D I1 q1
end
abbrev TG:=V -> St -> Hp -> (St -> Hp -> Prop) -> Prop
abbrev TGs:=List V -> St -> Hp -> (St -> Hp -> Prop) -> Prop
def PG (X:Cx) (target:Expr) (t:TG):Prop :=
 ∀ (pins:List (Addr × Obj)) (s:Shared) (σ:St) (H:Hp) (v:V) (u:Value) (Q:St -> Hp -> Prop),Inv X pins σ H s -> RelV v u -> t v σ H Q ->
  wpAny (model X.prog X.w) X.A (assign target X.env u) (fun _ s' => ∃ σ' H',Inv X pins σ' H' s' /\ Q σ' H') X.xe s
def PGs (X:Cx) (ts:List Expr) (t:TGs):Prop :=
 ∀ (pins:List (Addr × Obj)) (s:Shared) (σ:St) (H:Hp) (vs:List V) (us:List Value) (Q:St -> Hp -> Prop),Inv X pins σ H s -> Vals vs us -> t vs σ H Q ->
  wpAny (model X.prog X.w) X.A (assignInOrder ((assignEach ts X.env).map (·.2)) us) (fun _ s' => ∃ σ' H',Inv X pins σ' H' s' /\ Q σ' H') X.xe s
abbrev TSet:=V -> V -> V -> Hp -> (Hp -> Prop) -> Prop
def PSet (X:Cx) (t:TSet):Prop :=
 ∀ (pins:List (Addr × Obj)) (s:Shared) (σ:St) (H:Hp) (o i v:V) (ov iv u:Value) (Q:Hp -> Prop),Inv X pins σ H s -> RelV o ov -> RelV i iv -> RelV v u -> t o i v H Q ->
  wpAny (model X.prog X.w) X.A (setItem ov iv u) (fun _ s' => ∃ H',Inv X pins σ H' s' /\ Q H') X.xe s
section
variable {X:Cx} {pos:Pos}
def gName (i:Nat):TG:=fun v σ H Q => Q (σ.set i (some v)) H
theorem pg_name {i:Nat} {x:Str} (hN:X.N.Nodup) (hi:X.N[i]? = some x) (hx:Loc X.env.scope x) (hf:X.fn x = true \/ X.env.scope.names.lookup x = some .local:=by first | exact .inl rfl | exact .inr rfl | assumption):PG X (.Name x pos) (gName i):=by
 intro pins s σ H v u Q I r h;exact wpAny_assign_Name (store_ok I hN hi hx r (fun s' I' => ⟨_,H,I',h⟩) hf)
def gNil:TGs:=fun vs σ H Q => vs = [] /\ Q σ H
def gCons (t:TG) (u:TGs):TGs:=fun vs σ H Q => ∃ v r,vs = v :: r /\ t v σ H fun σ' H' => u r σ' H' Q
theorem pgs_nil:PGs X [] gNil:=by
 intro pins s σ H vs us Q I r h;obtain ⟨e,h⟩:=h;subst e;cases r;exact assignInOrder_nil ⟨σ,H,I,h⟩
theorem pgs_cons {e:Expr} {es:List Expr} {t:TG} {u:TGs} (h1:PG X e t) (h2:PGs X es u)
  (hs:(assignEach (e :: es) X.env).map (·.2) = assign e X.env :: (assignEach es X.env).map (·.2):=by rfl):PGs X (e :: es) (gCons t u):=by
 intro pins s σ H vs us Q I r h;obtain ⟨v,vr,e1,h⟩:=h;subst e1
 cases r with
 | cons r rr =>
  rw [hs];refine assignInOrder_cons (thn (h1 pins s σ H _ _ _ I r h) fun _ s1 hq14 => ?_);obtain ⟨σ1,H1,I1,q1⟩:=hq14;exact h2 pins s1 σ1 H1 _ _ Q I1 rr q1
def gTup (K:PySem.W.Frag) (n:Nat) (t:TGs):TG:=fun v σ H Q => ∃ a xs,v = .ref a /\ SqT K H a xs /\ xs.length = n /\ t xs σ H Q
theorem pg_tup {es:List Expr} {k:Nat} {t:TGs} {n:Nat} (hc:X.calm = true) (h:PGs X es t)
  (hn:(assignEach es X.env).length = n:=by rfl) (hst:(assignEach es X.env).findIdx? (·.1) = none:=by rfl):PG X (.Tuple es k pos) (gTup X.K n t):=by
 intro pins s σ H v u Q I r hw;obtain ⟨a,xs,e1,hq,hl,hw⟩:=hw;subst e1;cases r;obtain ⟨its,rv,ht,hz⟩:=I.tuple hq;refine assign_Tuple_tuple (I.ok.hd hc) ht (by simp [hn,<- hl,rv.length]) hst fun h' hx => ?_
 have I1:Inv X pins σ H { s with heap:=h' }:=I.kept (t':=s.toks) fun b o e => hx b o (Nat.ne_of_lt (Heap.lt_size e)) e
 exact h pins _ σ H xs _ Q I1 (by simpa using rv) hw
def gSub (to ti:TE) (t:TSet):TG:=fun v σ H Q => to σ H fun o H1 => ti σ H1 fun i H2 => t o i v H2 fun H3 => Q σ H3
theorem pg_sub {o i:Expr} {to ti:TE} {t:TSet} (ho:PE X o to) (hi:PE X i ti) (hs:PSet X t)
  (ha:∀ v,assign (.Subscript o i pos) X.env v = (do
   let ov <- holding [v] (eval o X.env)
   let iv <- holding [v,ov] (eval i X.env)
   standAt pos
   holding [v,ov,iv] (setItem ov iv v)
   release [v,ov,iv] []):=by intro _;rfl):PG X (.Subscript o i pos) (gSub to ti t):=by
 intro pins s σ H v u Q I r h;rw [ha];refine wpAny_bind (wpAny_holding (thn (ho pins s σ H _ I h) fun ov s1 hq15 => ?_));obtain ⟨x,H1,I1,r1,q1⟩:=hq15;refine wpAny_bind (wpAny_holding (thn (hi pins s1 σ H1 _ I1 q1) fun iv s2 hq16 => ?_));obtain ⟨y,H2,I2,r2,q2⟩:=hq16;refine wpAny_bind (wpAny_standAt (wpAny_bind (wpAny_holding (thn (hs pins s2 σ H2 x y v ov iv u _ I2 r1 r2 r q2) fun _ s3 hq17 => ?_))));obtain ⟨H3,I3,q3⟩:=hq17;exact wpAny_release ⟨σ,H3,I3,q3⟩
def tAsg (te:TE) (g:TG):TS:=fun D σ H => te σ H fun x H1 => g x σ H1 D.nx
theorem ps_asg {tg e:Expr} {te:TE} {g:TG} (he:PE X e te) (hg:PG X tg g) (hs:swapsWithSole [tg] e pos.line X.env = pure false:=by rfl) (hw:swappedStores [tg] e X.env = pure none:=by rfl)
  (h1:(assignEach [tg] X.env).map (·.2) = [assign tg X.env]:=by rfl):PS X (.Assign [tg] e pos) (tAsg te g):=by
 intro pins s σ H D I h;refine wpAny_Assign_stores (thn (he pins s σ H _ I h) fun v s1 hq18 => ?_) hs hw;obtain ⟨x,H1,I1,r1,q1⟩:=hq18;rw [h1];exact thn (hg pins s1 σ H1 x v _ I1 r1 q1) fun _ s2 q => q
theorem ps_set {i:Nat} {x:Str} {e:Expr} {te:TE} {pos':Pos} (hN:X.N.Nodup) (hi:X.N[i]? = some x) (hx:Loc X.env.scope x) (he:PE X e te) (hs:swapsWith e (some (.Name x pos')) pos.line X.env = pure false:=by rfl) (hf:X.fn x = true \/ X.env.scope.names.lookup x = some .local:=by first | exact .inl rfl | exact .inr rfl | assumption) :
  PS X (.Assign [.Name x pos'] e pos) (tAsg te (gName i)):=by
 intro pins s σ H D I h;refine wpAny_Assign_Name (thn (he pins s σ H _ I h) fun v s1 hq19 => ?_) hs;obtain ⟨y,H1,I1,r1,q1⟩:=hq19;exact store_ok I1 hN hi hx r1 (fun s2 I2 => ⟨_,H1,I2,q1⟩) hf
end
section
variable {X:Cx} {pos:Pos}
def tWhile (c:TT) (tb:TS):TS:=fun D σ H => ∃ W:Nat -> St -> Hp -> Prop,(∃ m,W m σ H) /\ ∀ m σ H,W m σ H ->
 c σ H fun b H1 => if b = true then ∃ N:St -> Hp -> Prop,(∀ σ' H',N σ' H' -> ∃ m',m' < m /\ W m' σ' H') /\ tb { D with nx:=N,ct:=N,bk:=D.nx } σ H1 else D.nx σ H1
theorem ps_while {c:Expr} {body:List Stmt} {tc:TT} {tb:TS} (hp:PassesOwn (model X.prog X.w) X.A X.env X.xe) (hc:PT X c tc) (hb:PSs X body tb):PS X (.While c body [] pos) (tWhile tc tb):=by
 intro pins s σ H D I h;obtain ⟨W,⟨m0,w0⟩,turn⟩:=h;refine wpAny_While (codeAny_whileLoop (fun n s' => ∃ σ' H',Inv X pins σ' H' s' /\ W n σ' H') ?_ m0 ⟨σ,H,I,w0⟩);rintro n s1 ⟨σ1,H1,I1,w1⟩;refine wpAny_passesOwn hp (thn (hc pins s1 σ1 H1 _ I1 (turn n σ1 H1 w1)) fun b s2 hq28 => ?_);obtain ⟨H2,I2,q2⟩:=hq28
 cases b with
 | true =>
  obtain ⟨N,hN,q2⟩:=q2;rw [if_pos rfl];refine wpAny_passesOwn hp (thn (hb pins s2 σ1 H2 _ I2 q2) fun f s3 q3 => ?_)
  cases f with
  | next =>
   obtain ⟨σ3,H3,I3,n3⟩:=q3;obtain ⟨m',hm,w3⟩:=hN σ3 H3 n3;exact ⟨m',hm,σ3,H3,I3,w3⟩
  | cont =>
   obtain ⟨σ3,H3,I3,n3⟩:=q3;obtain ⟨m',hm,w3⟩:=hN σ3 H3 n3;exact ⟨m',hm,σ3,H3,I3,w3⟩
  | brk => exact q3
  | ret v => exact q3
 | false =>
  rw [if_neg Bool.false_ne_true];exact wpAny_execs_nil ⟨σ1,H2,I2,q2⟩
end
structure It where
 go:Nat -> Hp -> Prop
 yld:Nat -> Hp -> V -> Hp -> Prop
 stop:Nat -> Hp -> Prop
def FpOk (X:Cx) (pins:List (Addr × Obj)) (H:Hp) (b:Addr):Prop :=
 H b = none /\ b ≠ X.env.locals /\ b ∉ X.fs /\ (b ∈ X.ex \/ X.s₀.heap.objs.size <= b) /\ (∀ x c,X.env.cells.lookup x = some c -> c ≠ b) /\ ∀ p ∈ X.pn ++ pins,p.1 ≠ b
theorem Inv.fpOk {X:Cx} {pins:List (Addr × Obj)} {σ:St} {H H':Hp} {s:Shared} {b:Addr} (I:Inv X pins σ H s) (hb:s.heap.objs.size <= b) (hn:H' b = none):FpOk X pins H' b:=by
 refine ⟨hn,Nat.ne_of_gt (Nat.lt_of_lt_of_le I.lt hb),I.nofs hb,.inr (Nat.le_trans I.sz hb),fun x c e z => ?_,fun p hp z => ?_⟩
 ·obtain ⟨v,q⟩:=I.cell x c e;exact absurd (Nat.lt_of_lt_of_le q.lt (by rw [z];exact hb)) (Nat.lt_irrefl _)
 ·exact absurd (Nat.lt_of_lt_of_le (Heap.lt_size (I.pin p hp).1) (by rw [z];exact hb)) (Nat.lt_irrefl _)
structure Turn (P:Program) (w:World) (K:PySem.W.Frag) (tg:Expr) (J:It) (fp:List Addr) (it:Addr) (tn:Nat -> Heap -> Prop):Prop where
 mem:it ∈ fp
 obj:∀ i h,tn i h -> ∀ b ∈ fp,∃ o,h.get? b = some o /\ ∀ v,o.data ≠ .cell v
 keep:∀ i h h',tn i h -> (∀ b ∈ fp,∀ o,h.get? b = some o -> h'.get? b = some o) -> tn i h'
 item:∀ (X:Cx),X.prog = P -> X.w = w -> X.K = K -> X.calm = true -> ∀ (i:Nat) (pins:List (Addr × Obj)) (s:Shared) (σ:St) (H:Hp) (E:Value -> Shared -> Prop),Inv X pins σ H s -> (∀ b ∈ fp,FpOk X pins H b) -> tn i s.heap -> J.go i H ->
  wpAny (model P w) X.A (pyNext (.ref it)) (fun r s1 => ∃ u,r = some u /\
   wpAny (model P w) X.A (letOwnedTupleGo tg (.ref it) u) (fun _ s2 => ∃ x H',Inv X pins σ H' s2 /\ RelV x u /\ J.yld i H x H' /\ tn (i + 1) s2.heap /\ ∀ b ∈ fp,H' b = none) E s1) E s
 done:∀ (X:Cx),X.prog = P -> X.w = w -> X.K = K -> X.calm = true -> ∀ (i:Nat) (pins:List (Addr × Obj)) (s:Shared) (σ:St) (H:Hp) (E:Value -> Shared -> Prop),Inv X pins σ H s -> (∀ b ∈ fp,FpOk X pins H b) -> tn i s.heap -> J.stop i H ->
  wpAny (model P w) X.A (pyNext (.ref it)) (fun r s1 => r = none /\ Inv X pins σ H s1) E s
 self:∀ (A:Around) (i:Nat) (s:Shared) (Q:Value -> Shared -> Prop) (E:Value -> Shared -> Prop),tn i s.heap -> Q (.ref it) s -> wpAny (model P w) A (pyIter (.ref it)) Q E s
abbrev TI:=St -> Hp -> (It -> Hp -> Prop) -> Prop
def PIE (X:Cx) (pins:List (Addr × Obj)) (σ:St) (tg:Expr) (R:It -> Hp -> Prop) (itv:Value) (s2:Shared):Prop :=
 ∃ (it:Addr) (fp:List Addr) (tn:Nat -> Heap -> Prop) (J:It) (H':Hp),itv = .ref it /\ Inv X pins σ H' s2 /\ Turn X.prog X.w X.K tg J fp it tn /\ tn 0 s2.heap /\ (∀ b ∈ fp,FpOk X pins H' b) /\ R J H'
def PI (X:Cx) (tg iter:Expr) (wi:TI):Prop :=
 ∀ (pins:List (Addr × Obj)) (s:Shared) (σ:St) (H:Hp) (R:It -> Hp -> Prop),Inv X pins σ H s -> wi σ H R ->
  wpAny (model X.prog X.w) X.A (eval iter X.env) (fun v s1 => wpAny (model X.prog X.w) X.A (pyIter v) (PIE X pins σ tg R) X.xe s1) X.xe s
theorem go_of {M:Model} {A:Around} {E:Value -> Shared -> Prop} {s:Shared} {tg:Expr} {it:Addr} {u:Value} {o:Obj} {n:String} {vs:Array Value} {Q:Unit -> Shared -> Prop} (ho:s.heap.get? it = some o) (hc:o.cls = .type n) (hd:o.data = .fields vs)
    (hn:["enumerate","zip","dict_itemiterator","dict_reverseitemiterator","odict_iterator","itertools.zip_longest","itertools.pairwise"].contains n = false) (hQ:Q () s):wpAny M A (letOwnedTupleGo tg (.ref it) u) Q E s:=by
  unfold letOwnedTupleGo
  cases tg <;> first
    | exact wpAny_pure hQ
    | (cases u <;> first
        | exact wpAny_pure hQ
        | (refine wpAny_bind (wpAny_load ho ?_)
           rw [hc,hd];show wpAny M A (if (["enumerate","zip","dict_itemiterator","dict_reverseitemiterator","odict_iterator","itertools.zip_longest","itertools.pairwise"].contains n && vs[0]? == some (rawInt _)) = true then _ else _) Q E s
           rw [if_neg (by intro h;rw [hn,Bool.false_and] at h;cases h)]
           exact wpAny_pure hQ))
def Itl (K:PySem.W.Frag) (a:Addr):It :=
 ⟨fun i H => ∃ xs x,SqL K H a xs /\ xs[i]? = some x,fun i H x H' => H' = H /\ ∀ xs,SqL K H a xs -> xs[i]? = some x,fun i H => ∃ xs,SqL K H a xs /\ xs.length <= i⟩
def Itt (K:PySem.W.Frag) (a:Addr):It :=
 ⟨fun i H => ∃ xs x,SqT K H a xs /\ xs[i]? = some x,fun i H x H' => H' = H /\ ∀ xs,SqT K H a xs -> xs[i]? = some x,fun i H => ∃ xs,SqT K H a xs /\ xs.length <= i⟩
def Itr (lo:Int) (n:Nat):It:=⟨fun i _ => i < n,fun i H x H' => H' = H /\ x = .int (lo + i),fun i _ => n <= i⟩
theorem turn_list {P:Program} {w:World} {K:PySem.W.Frag} {tg:Expr} (a it:Addr):Turn P w K tg (Itl K a) [it] it (fun i h => h.IsListIter it a i) where
 mem:=by simp
 obj:=fun i h st b hb => by
  have e:b = it:=by simpa using hb
  subst e;obtain ⟨o,e,c,d⟩:=st;exact ⟨o,e,fun v z => by rw [d] at z;cases z⟩
 keep:=fun i h h' st k => st.at fun o e => k it (by simp) o e
 item:=by
  intro X hP hw hK hc i pins s σ H E I hf st hg;subst hP hw hK;obtain ⟨xs,x,hq,hx⟩:=hg;obtain ⟨its,rv,p,hz⟩:=I.list hq;obtain ⟨u,hu,ru⟩:=rv.get hx;obtain ⟨f0,f1,f2,f3,f4,f5⟩:=hf it (by simp)
  refine wpAny_pyNext_list_item st p.isList (x:=u) (by simpa using hu) fun h' st' sb => ?_
  have I1:Inv X pins σ H { s with heap:=h' }:=I.turned (t':=s.toks) (fun b o hb e => (sb.2 b hb).trans e) f0 f1 f3 f4 f5
  obtain ⟨o,e,c,d⟩:=id st';exact ⟨u,rfl,go_of (s:={ s with heap:=h' }) e c d (by decide) ⟨x,H,I1,ru,⟨rfl,fun ys hy => by rw [I.list_inj hy hq];exact hx⟩,st',fun b hb => (hf b hb).1⟩⟩
 done:=by
  intro X hP hw hK hc i pins s σ H E I hf st hg;subst hP hw hK;obtain ⟨xs,hq,hx⟩:=hg;obtain ⟨its,rv,p,hz⟩:=I.list hq;obtain ⟨f0,f1,f2,f3,f4,f5⟩:=hf it (by simp)
  have hl:=rv.length;exact wpAny_pyNext_list_end (I.ok.hd hc) st p.isList (by simp;lia) fun h' eb => ⟨rfl,I.turned (t':=s.toks) (fun b o hb e => eb b o hb e) f0 f1 f3 f4 f5⟩
 self:=fun _ _ _ _ _ st h => wpAny_pyIter_listiter st h
theorem turn_tuple {P:Program} {w:World} {K:PySem.W.Frag} {tg:Expr} (a it:Addr):Turn P w K tg (Itt K a) [it] it (fun i h => h.IsTupleIter it a i) where
 mem:=by simp
 obj:=fun i h st b hb => by
  have e:b = it:=by simpa using hb
  subst e;obtain ⟨o,e,c,d⟩:=st;exact ⟨o,e,fun v z => by rw [d] at z;cases z⟩
 keep:=fun i h h' st k => st.at fun o e => k it (by simp) o e
 item:=by
  intro X hP hw hK hc i pins s σ H E I hf st hg;subst hP hw hK;obtain ⟨xs,x,hq,hx⟩:=hg;obtain ⟨its,rv,p,hz⟩:=I.tuple hq;obtain ⟨u,hu,ru⟩:=rv.get hx;obtain ⟨f0,f1,f2,f3,f4,f5⟩:=hf it (by simp)
  refine wpAny_pyNext_tuple_item st (show s.heap.IsTuple a its.toArray from p) (x:=u) (by simpa using hu) fun h' st' sb => ?_
  have I1:Inv X pins σ H { s with heap:=h' }:=I.turned (t':=s.toks) (fun b o hb e => (sb.2 b hb).trans e) f0 f1 f3 f4 f5
  obtain ⟨o,e,c,d⟩:=id st';exact ⟨u,rfl,go_of (s:={ s with heap:=h' }) e c d (by decide) ⟨x,H,I1,ru,⟨rfl,fun ys hy => by rw [I.tuple_inj hy hq];exact hx⟩,st',fun b hb => (hf b hb).1⟩⟩
 done:=by
  intro X hP hw hK hc i pins s σ H E I hf st hg;subst hP hw hK;obtain ⟨xs,hq,hx⟩:=hg;obtain ⟨its,rv,p,hz⟩:=I.tuple hq;obtain ⟨f0,f1,f2,f3,f4,f5⟩:=hf it (by simp)
  have hl:=rv.length;exact wpAny_pyNext_tuple_end (I.ok.hd hc) st (show s.heap.IsTuple a its.toArray from p) (by simp;lia) fun h' eb => ⟨rfl,I.turned (t':=s.toks) (fun b o hb e => eb b o hb e) f0 f1 f3 f4 f5⟩
 self:=fun _ _ _ _ _ st h => wpAny_pyIter_tupleiter st h
theorem turn_range {P:Program} {w:World} {K:PySem.W.Frag} {tg:Expr} (it:Addr) (lo:Int) (n:Nat):Turn P w K tg (Itr lo n) [it] it (fun i h => IsRangeIter h it (lo + (i:Nat) * 1) ((n:Int) - (i:Nat)) 1) where
 mem:=by simp
 obj:=fun i h st b hb => by
  have e:b = it:=by simpa using hb
  subst e;exact ⟨_,st,fun v z => by
   have z':Data.fields _ = Data.cell v:=z
   cases z'⟩
 keep:=fun i h h' st k => k it (by simp) _ st
 item:=by
  intro X hP hw hK hc i pins s σ H E I hf st hg;subst hP hw hK;obtain ⟨f0,f1,f2,f3,f4,f5⟩:=hf it (by simp)
  have W:=Walks.range (prog:=X.prog) (w:=X.w) (I.ok.hd hc) it lo 1 n;refine W.item i s _ _ hg st fun v h' tk hv st' kk => ?_;obtain ⟨t,rfl⟩:=hv;have I1:Inv X pins σ H { s with heap:=h',toks:=tk }:=I.turned (fun b o hb e => kk b o (by simpa using hb) e) f0 f1 f3 f4 f5
  refine ⟨_,rfl,go_of (s:={ s with heap:=h',toks:=tk }) (n:="range_iterator") st' rfl rfl (by decide) ⟨.int (lo + i),H,I1,⟨t,?_⟩,⟨rfl,rfl⟩,st',fun b hb => (hf b hb).1⟩⟩
  rw [Int.mul_one]
 done:=by
  intro X hP hw hK hc i pins s σ H E I hf st hg;subst hP hw hK;obtain ⟨f0,f1,f2,f3,f4,f5⟩:=hf it (by simp)
  exact wpAny_pyNext_range_end (I.ok.hd hc) st (by have:n <= i:=hg;lia) fun h' eb => ⟨rfl,I.turned (t':=s.toks) (fun b o hb e => eb b o hb e) f0 f1 f3 f4 f5⟩
 self:=fun _ _ _ _ _ st h => wpAny_pyIter_rangeiter st h
section
variable {X:Cx} {tg:Expr}
theorem range_it {pins:List (Addr × Obj)} {σ:St} {H:Hp} {s:Shared} {R:It -> Hp -> Prop} {E:Value -> Shared -> Prop} {lo hi:Int} {t u v:Tok} {tk:Nat} (I:Inv X pins σ H s) (h1:-(2 ^ 62) <= lo) (h2:lo < 2 ^ 62) (h3:-(2 ^ 62) <= hi) (h4:hi < 2 ^ 62)
  (q:R (Itr lo (hi - lo).toNat) H):wpAny (model X.prog X.w) X.A (pyIter (.ref s.heap.objs.size)) (PIE X pins σ tg R) E { s with heap:=s.heap.push { cls:=.type "range",data:=.fields #[.int lo t,.int hi u,.int 1 v] },toks:=tk }:=by
 refine wpAny_pyIter_range (IsRange.new ..) (small_one h1 h2 h3 h4) ?_;have I1:Inv X pins σ H { s with heap:=s.heap.push { cls:=.type "range",data:=.fields #[.int lo t,.int hi u,.int 1 v] },toks:=tk }:=I.kept fun b o e => Heap.get?_push_of_some _ e
 refine ⟨(s.heap.push { cls:=.type "range",data:=.fields #[.int lo t,.int hi u,.int 1 v] }).objs.size,[(s.heap.push { cls:=.type "range",data:=.fields #[.int lo t,.int hi u,.int 1 v] }).objs.size],_,_,H,rfl,
  I1.kept (t':=tk) fun b o e => Heap.get?_push_of_some _ e,turn_range _ lo (hi - lo).toNat,?_,fun b hb => ?_,q⟩
 ·have e1:lo + ((0:Nat):Int) * 1 = lo:=by simp
  have e2:(((hi - lo).toNat:Nat):Int) - ((0:Nat):Int) = Builtin.Range.rangeSize lo hi 1:=by rw [rangeSize_one];split <;> lia
  show IsRangeIter _ _ (lo + ((0:Nat):Int) * 1) ((((hi - lo).toNat:Nat):Int) - ((0:Nat):Int)) 1;rw [e1,e2];exact Heap.get?_push_size _ rfl
 ·have e:b = (s.heap.push { cls:=.type "range",data:=.fields #[.int lo t,.int hi u,.int 1 v] }).objs.size:=by simpa using hb
  subst e;exact I1.fpOk (Nat.le_refl _) (I1.hok.fresh (Nat.le_refl _))
def iRng1 (ta:TA):TI:=fun σ H R => ta σ H fun vs H1 => ∃ j:Int,vs = [.int j] /\ -(2 ^ 62) <= j /\ j < 2 ^ 62 /\ R (Itr 0 j.toNat) H1
def iRng2 (ta:TA):TI:=fun σ H R => ta σ H fun vs H1 => ∃ i j:Int,vs = [.int i,.int j] /\ (-(2 ^ 62) <= i /\ i < 2 ^ 62 /\ -(2 ^ 62) <= j /\ j < 2 ^ 62) /\ R (Itr i (j - i).toNat) H1
theorem pi_range1 {a:Expr} {ta:TA} {p pos:Pos} (hg:Gl X "range") (hm:X.mg "range" = none) (ha:PA X [a] ta) (hs:starEach [a] X.env = [(false,eval a X.env)]:=by rfl):PI X tg (.Call (.Name "range" p) [a] [] pos) (iRng1 ta):=by
 intro pins s σ H R I h;refine Call_ (ld_blt I hg hm boot_range (PyProof.Rows.callWith_type1 (thn (ha pos pins s σ H _ I h) fun us s1 hq31 => ?_) hs rfl));obtain ⟨vs,H1,I1,r1,q1⟩:=hq31;obtain ⟨j,e,q1,q2,q⟩:=q1;subst e
 cases r1 with
 | cons r rr =>
  cases rr;obtain ⟨t,rfl⟩:=r;exact call_range_1 (range_it I1 (by lia) (by lia) q1 q2 (by simpa using q))
theorem pi_range2 {a b:Expr} {ta:TA} {p pos:Pos} (hg:Gl X "range") (hm:X.mg "range" = none) (ha:PA X [a,b] ta) (hs:starEach [a,b] X.env = [(false,eval a X.env),(false,eval b X.env)]:=by rfl) (hs2:starEach [b] X.env = [(false,eval b X.env)]:=by rfl) :
  PI X tg (.Call (.Name "range" p) [a,b] [] pos) (iRng2 ta):=by
 intro pins s σ H R I h;refine Call_ (ld_blt I hg hm boot_range (PyProof.Rows.callWith_type1 (thn (ha pos pins s σ H _ I h) fun us s1 hq32 => ?_) (by rw [hs,hs2]) (by rw [hs2];rfl)))
 obtain ⟨vs,H1,I1,r1,q1⟩:=hq32;obtain ⟨i,j,e,⟨q1,q2,q3,q4⟩,q⟩:=q1;subst e
 cases r1 with
 | cons r rr =>
  cases rr with
  | cons r' rr =>
   cases rr;obtain ⟨t,rfl⟩:=r;obtain ⟨t',rfl⟩:=r';exact call_range_2 (range_it I1 q1 q2 q3 q4 q)
def tFor (wi:TI) (g:TG) (tb:TS):TS:=fun D σ H => wi σ H fun J H1 => ∃ W:Nat -> Nat -> St -> Hp -> Prop,(∃ m,W 0 m σ H1) /\ ∀ i m σ H,W i m σ H ->
 (J.stop i H /\ D.nx σ H) \/ (J.go i H /\ ∃ N:St -> Hp -> Prop,(∀ σ' H',N σ' H' -> ∃ m',m' < m /\ W (i + 1) m' σ' H') /\ ∀ x H',J.yld i H x H' -> g x σ H' fun σ2 H2 => tb { D with nx:=N,ct:=N,bk:=D.nx } σ2 H2)
def pinsAt (fp:List Addr) (h:Heap):List (Addr × Obj):=fp.filterMap fun b => (h.get? b).map fun o => (b,o)
theorem mem_pinsAt {fp:List Addr} {h:Heap} {b:Addr} {o:Obj} (hb:b ∈ fp) (e:h.get? b = some o):(b,o) ∈ pinsAt fp h:=List.mem_filterMap.mpr ⟨b,hb,by rw [e];rfl⟩
theorem of_pinsAt {fp:List Addr} {h:Heap} {p:Addr × Obj} (hp:p ∈ pinsAt fp h):p.1 ∈ fp /\ h.get? p.1 = some p.2:=by
 obtain ⟨b,hb,e⟩:=List.mem_filterMap.mp hp
 cases q:h.get? b with
 | none => rw [q] at e;cases e
 | some o =>
  rw [q] at e;have e':(b,o) = p:=Option.some.inj e;subst e';exact ⟨hb,q⟩
theorem Inv.pinned {pins:List (Addr × Obj)} {σ:St} {H:Hp} {s:Shared} {fp:List Addr} (I:Inv X pins σ H s) (hf:∀ b ∈ fp,FpOk X pins H b) (ho:∀ b ∈ fp,∃ o,s.heap.get? b = some o /\ ∀ v,o.data ≠ .cell v):Inv X (pins ++ pinsAt fp s.heap) σ H s :=
 I.pins_of fun p hp => (List.mem_append.mp hp).elim (fun z => I.pin p (List.mem_append_right _ z)) fun z => by
  obtain ⟨hb,e⟩:=of_pinsAt z;obtain ⟨f0,f1,f2,_⟩:=hf p.1 hb;obtain ⟨o,e',d⟩:=ho p.1 hb;rw [e] at e';cases e';exact ⟨e,f0,f1,f2,d⟩
theorem Inv.unpinned {pins pl:List (Addr × Obj)} {σ:St} {H:Hp} {s:Shared} (I:Inv X (pins ++ pl) σ H s):Inv X pins σ H s:=I.pins_of fun p hp => I.pin p (List.mem_append_right _ (List.mem_append_left _ hp))
theorem ps_for {iter:Expr} {body:List Stmt} {wi:TI} {g:TG} {tb:TS} {pos:Pos} (hp:PassesOwn (model X.prog X.w) X.A X.env X.xe) (hc:X.calm = true) (hi:PI X tg iter wi) (hg:PG X tg g) (hb:PSs X body tb)
  (hs:∀ x,foldedSetIterable iter X.env x = pure x:=by intro _;rfl):PS X (.For tg iter body [] pos) (tFor wi g tb):=by
 intro pins s σ H D I h;refine wpAny_For (thn (hi pins s σ H _ I h) fun v s1 h1 => thn h1 fun itv s2 h2 => ?_) hs;obtain ⟨it,fp,tn,J,H2,e,I2,T,st2,f2,W,⟨m0,w0⟩,turn⟩:=h2;subst e;have stat:∀ {H':Hp},(∀ b ∈ fp,H' b = none) -> ∀ b ∈ fp,FpOk X pins H' b:=fun hn b hb => ⟨hn b hb,(f2 b hb).2⟩;refine codeAny_forLoop_any (fun n s' => ∃ i σ' H',Inv X pins σ' H' s' /\ tn i s'.heap /\ (∀ b ∈ fp,H' b = none) /\ W i n σ' H') ?_ m0 ⟨0,σ,H2,I2,st2,fun b hb => (f2 b hb).1,w0⟩;rintro n s3 ⟨i,σ3,H3,I3,st3,fr3,w3⟩;rcases turn i n σ3 H3 w3 with ⟨stop,qn⟩ | ⟨go,N,hN,step⟩
 ·refine wpAny_passesOwn hp (thn (T.done X rfl rfl rfl hc i pins s3 σ3 H3 X.xe I3 (stat fr3) st3 stop) fun r s4 hq33 => ?_);obtain ⟨hr,I4⟩:=hq33;subst hr;exact wpAny_execs_nil ⟨σ3,H3,I4,qn⟩
 ·refine wpAny_passesOwn hp (thn (T.item X rfl rfl rfl hc i pins s3 σ3 H3 X.xe I3 (stat fr3) st3 go) fun r s4 hq34 => ?_);obtain ⟨u,hr,h4⟩:=hq34;subst hr;refine wpAny_passesOwn hp (thn h4 fun _ s5 hq35 => ?_);obtain ⟨x,H5,I5,r5,y5,st5,fr5⟩:=hq35;have I5':=I5.pinned (stat fr5) (T.obj _ _ st5);refine wpAny_passesOwn hp (thn (hg _ s5 σ3 H5 x u _ I5' r5 (step x H5 y5)) fun _ s6 hq36 => ?_);obtain ⟨σ6,H6,I6,q6⟩:=hq36;refine wpAny_passesOwn hp (thn (hb _ s6 σ6 H6 _ I6 q6) fun f s7 q7 => ?_);have again:∀ {σ7:St} {H7:Hp},Inv X (pins ++ pinsAt fp s5.heap) σ7 H7 s7 -> N σ7 H7 -> ∃ m,m < n /\ ∃ i σ' H',Inv X pins σ' H' s7 /\ tn i s7.heap /\ (∀ b ∈ fp,H' b = none) /\ W i m σ' H':=fun {σ7 H7} I7 n7 => by
   obtain ⟨m',hm,w7⟩:=hN σ7 H7 n7;refine ⟨m',hm,i + 1,σ7,H7,I7.unpinned,T.keep _ _ _ st5 fun b hb o e => (I7.pin (b,o) (List.mem_append_right _ (List.mem_append_right _ (mem_pinsAt hb e)))).1,fun b hb => ?_,w7⟩;obtain ⟨o,e,d⟩:=T.obj _ _ st5 b hb;exact (I7.pin (b,o) (List.mem_append_right _ (List.mem_append_right _ (mem_pinsAt hb e)))).2.1
  cases f with
  | next => obtain ⟨σ7,H7,I7,n7⟩:=q7;exact again I7 n7
  | cont => obtain ⟨σ7,H7,I7,n7⟩:=q7;exact again I7 n7
  | brk => obtain ⟨σ7,H7,I7,q7⟩:=q7;exact ⟨σ7,H7,I7.unpinned,q7⟩
  | ret v => obtain ⟨x7,σ7,H7,I7,r7,q7⟩:=q7;exact ⟨x7,σ7,H7,I7.unpinned,r7,q7⟩
end
theorem for_list {K:PySem.W.Frag} {a:Addr} {xs:List V} {g:TG} {tb:TS} {D:Ends} {σ:St} {H:Hp} (Pv:Nat -> St -> Hp -> Prop) (h0:Pv 0 σ H) (hl:∀ i σ H,i <= xs.length -> Pv i σ H -> SqL K H a xs)
  (hs:∀ i x σ H,xs[i]? = some x -> Pv i σ H -> g x σ H fun σ2 H2 => tb { D with nx:=Pv (i + 1),ct:=Pv (i + 1),bk:=D.nx } σ2 H2) (hd:∀ σ H,Pv xs.length σ H -> D.nx σ H) :
  ∃ W:Nat -> Nat -> St -> Hp -> Prop,(∃ m,W 0 m σ H) /\ ∀ i m σ H,W i m σ H ->
   ((Itl K a).stop i H /\ D.nx σ H) \/ ((Itl K a).go i H /\ ∃ N:St -> Hp -> Prop,(∀ σ' H',N σ' H' -> ∃ m',m' < m /\ W (i + 1) m' σ' H') /\ ∀ x H',(Itl K a).yld i H x H' -> g x σ H' fun σ2 H2 => tb { D with nx:=N,ct:=N,bk:=D.nx } σ2 H2):=by
 refine ⟨fun i m σ H => m = xs.length - i /\ i <= xs.length /\ Pv i σ H,⟨xs.length,by simp,Nat.zero_le _,h0⟩,?_⟩
 rintro i m σ H ⟨rfl,hi,p⟩;have q:=hl i σ H hi p;by_cases hlt:i < xs.length
 ·refine .inr ⟨⟨xs,xs[i],q,by simp [hlt]⟩,Pv (i + 1),fun σ' H' p' => ⟨xs.length - (i + 1),by lia,rfl,hlt,p'⟩,fun x H' y => ?_⟩
  obtain ⟨e,y⟩:=y;subst e;exact hs i x σ _ (y xs q) p
 ·have e:i = xs.length:=by lia
  subst e;exact .inl ⟨⟨xs,q,Nat.le_refl _⟩,hd σ H p⟩
theorem for_tup {K:PySem.W.Frag} {a:Addr} {xs:List V} {g:TG} {tb:TS} {D:Ends} {σ:St} {H:Hp} (Pv:Nat -> St -> Hp -> Prop) (h0:Pv 0 σ H) (hl:∀ i σ H,i <= xs.length -> Pv i σ H -> SqT K H a xs)
  (hs:∀ i x σ H,xs[i]? = some x -> Pv i σ H -> g x σ H fun σ2 H2 => tb { D with nx:=Pv (i + 1),ct:=Pv (i + 1),bk:=D.nx } σ2 H2) (hd:∀ σ H,Pv xs.length σ H -> D.nx σ H) :
  ∃ W:Nat -> Nat -> St -> Hp -> Prop,(∃ m,W 0 m σ H) /\ ∀ i m σ H,W i m σ H ->
   ((Itt K a).stop i H /\ D.nx σ H) \/ ((Itt K a).go i H /\ ∃ N:St -> Hp -> Prop,(∀ σ' H',N σ' H' -> ∃ m',m' < m /\ W (i + 1) m' σ' H') /\ ∀ x H',(Itt K a).yld i H x H' -> g x σ H' fun σ2 H2 => tb { D with nx:=N,ct:=N,bk:=D.nx } σ2 H2):=by
 refine ⟨fun i m σ H => m = xs.length - i /\ i <= xs.length /\ Pv i σ H,⟨xs.length,by simp,Nat.zero_le _,h0⟩,?_⟩
 rintro i m σ H ⟨rfl,hi,p⟩;have q:=hl i σ H hi p;by_cases hlt:i < xs.length
 ·refine .inr ⟨⟨xs,xs[i],q,by simp [hlt]⟩,Pv (i + 1),fun σ' H' p' => ⟨xs.length - (i + 1),by lia,rfl,hlt,p'⟩,fun x H' y => ?_⟩
  obtain ⟨e,y⟩:=y;subst e;exact hs i x σ _ (y xs q) p
 ·have e:i = xs.length:=by lia
  subst e;exact .inl ⟨⟨xs,q,Nat.le_refl _⟩,hd σ H p⟩
theorem for_range {lo:Int} {n:Nat} {g:TG} {tb:TS} {D:Ends} {σ:St} {H:Hp} (Pv:Nat -> St -> Hp -> Prop) (h0:Pv 0 σ H)
  (hs:∀ i σ H,i < n -> Pv i σ H -> g (.int (lo + i)) σ H fun σ2 H2 => tb { D with nx:=Pv (i + 1),ct:=Pv (i + 1),bk:=D.nx } σ2 H2) (hd:∀ σ H,Pv n σ H -> D.nx σ H) :
  ∃ W:Nat -> Nat -> St -> Hp -> Prop,(∃ m,W 0 m σ H) /\ ∀ i m σ H,W i m σ H ->
   ((Itr lo n).stop i H /\ D.nx σ H) \/ ((Itr lo n).go i H /\ ∃ N:St -> Hp -> Prop,(∀ σ' H',N σ' H' -> ∃ m',m' < m /\ W (i + 1) m' σ' H') /\ ∀ x H',(Itr lo n).yld i H x H' -> g x σ H' fun σ2 H2 => tb { D with nx:=N,ct:=N,bk:=D.nx } σ2 H2):=by
 refine ⟨fun i m σ H => m = n - i /\ i <= n /\ Pv i σ H,⟨n,by simp,Nat.zero_le _,h0⟩,?_⟩
 rintro i m σ H ⟨rfl,hi,p⟩;by_cases hlt:i < n
 ·refine .inr ⟨hlt,Pv (i + 1),fun σ' H' p' => ⟨n - (i + 1),by lia,rfl,hlt,p'⟩,fun x H' y => ?_⟩
  obtain ⟨e,y⟩:=y;subst e y;exact hs i σ _ hlt p
 ·have e:i = n:=by lia
  subst e;exact .inl ⟨Nat.le_refl _,hd σ H p⟩
abbrev R2:=V -> V -> Hp -> VK -> Prop
def OpR (X:Cx) (f:Value -> Value -> Sem Value) (r:R2):Prop :=
 ∀ (pins:List (Addr × Obj)) (s:Shared) (σ:St) (H:Hp) (x y:V) (v u:Value) (Q:VK),Inv X pins σ H s -> RelV x v -> RelV y u -> r x y H Q ->
  wpAny (model X.prog X.w) X.A (f v u) (EP X pins σ Q) X.xe s
def UnR (X:Cx) (f:Value -> Sem Value) (r:V -> Hp -> VK -> Prop):Prop :=
 ∀ (pins:List (Addr × Obj)) (s:Shared) (σ:St) (H:Hp) (x:V) (v:Value) (Q:VK),Inv X pins σ H s -> RelV x v -> r x H Q ->
  wpAny (model X.prog X.w) X.A (f v) (EP X pins σ Q) X.xe s
def CallR (X:Cx) (f:Value) (r:List V -> Hp -> VK -> Prop):Prop :=
 ∀ (pins:List (Addr × Obj)) (s:Shared) (σ:St) (H:Hp) (xs:List V) (us:List Value) (Q:VK),Inv X pins σ H s -> Vals xs us -> r xs H Q ->
  wpAny (model X.prog X.w) X.A (call f us) (EP X pins σ Q) X.xe s
def TruR (X:Cx) (r:V -> Hp -> (Bool -> Hp -> Prop) -> Prop):Prop :=
 ∀ (pins:List (Addr × Obj)) (s:Shared) (σ:St) (H:Hp) (x:V) (v:Value) (Q:Bool -> Hp -> Prop),Inv X pins σ H s -> RelV x v -> r x H Q ->
  wpAny (model X.prog X.w) X.A (truthy v) (TP X pins σ Q) X.xe s
def tOp (r:R2) (ta tb:TE):TE:=fun σ H Q => ta σ H fun x H1 => tb σ H1 fun y H2 => r x y H2 Q
def tUn (r:V -> Hp -> VK -> Prop) (ta:TE):TE:=fun σ H Q => ta σ H fun x H1 => r x H1 Q
def rI (C:Int -> Int -> Prop) (g:Int -> Int -> V):R2:=fun x y H Q => ∃ i j,x = .int i /\ y = .int j /\ C i j /\ Q (g i j) H
def rI0 (g:Int -> Int -> V):R2:=fun x y H Q => ∃ i j,x = .int i /\ y = .int j /\ Q (g i j) H
def rU (g:Int -> V):V -> Hp -> VK -> Prop:=fun x H Q => ∃ i,x = .int i /\ Q (g i) H
section
variable {X:Cx} {a b c:Expr} {ta tb tc:TE} {pos:Pos}
theorem binT (ha:PE X a ta) (hb:PE X b tb) {pins:List (Addr × Obj)} {s:Shared} {σ:St} {H:Hp} {R:V -> V -> Hp -> Prop} (I:Inv X pins σ H s)
  (h:ta σ H fun x H1 => tb σ H1 fun y H2 => R x y H2) {Q:Value -> Shared -> Prop} {f:Value -> Value -> Sem Value}
  (hf:∀ v u s2 x y H2,Inv X pins σ H2 s2 -> RelV x v -> RelV y u -> R x y H2 -> wpAny (model X.prog X.w) X.A (f v u) Q X.xe s2) :
  wpAny (model X.prog X.w) X.A (eval a X.env) (fun v s₁ => wpAny (model X.prog X.w) X.A (eval b X.env) (fun u s₂ => wpAny (model X.prog X.w) X.A (f v u) Q X.xe s₂) X.xe s₁) X.xe s:=by
 refine thn (ha pins s σ H _ I h) fun v s1 hq37 => ?_;obtain ⟨x,H1,I1,r1,q1⟩:=hq37;refine thn (hb pins s1 σ H1 _ I1 q1) fun u s2 hq38 => ?_;obtain ⟨y,H2,I2,r2,q2⟩:=hq38;exact hf v u s2 x y H2 I2 r1 r2 q2
theorem pe_op {op:Operator} {r:R2} (ho:OpR X (binaryOp op) r) (ha:PE X a ta) (hb:PE X b tb):PE X (.BinOp a op b pos) (tOp r ta tb):=by
 intro pins s σ H Q I h;exact wpAny_BinOp (binT ha hb I h fun v u s2 x y H2 I2 rx ry q => ho pins s2 σ H2 x y v u Q I2 rx ry q)
theorem pe_un {op:UnaryOp} {r:V -> Hp -> VK -> Prop} (ho:UnR X (unaryOp op) r) (ha:PE X a ta):PE X (.UnaryOp op a pos) (tUn r ta):=by
 intro pins s σ H Q I h;exact UnaryOp_ (thn (ha pins s σ H _ I h) fun v s1 ⟨x,H1,I1,r1,q1⟩ => ho pins s1 σ H1 x v Q I1 r1 q1)
theorem opI {f:Value -> Value -> Sem Value} {C:Int -> Int -> Prop} {g:Int -> Int -> Int}
  (rule:∀ (i j:Int) (t u:Tok) (s:Shared) (Q:Value -> Shared -> Prop) (E:Value -> Shared -> Prop),C i j -> Q (.int (g i j) s.toks) { s with toks:=s.toks + 1 } -> wpAny (model X.prog X.w) X.A (f (.int i t) (.int j u)) Q E s) :
  OpR X f (rI C fun i j => .int (g i j)):=by
 intro pins s σ H x y v u Q I rx ry h;obtain ⟨i,j,rfl,rfl,hc,q⟩:=h;obtain ⟨t,rfl⟩:=rx;obtain ⟨t',rfl⟩:=ry;exact rule i j t t' s _ _ hc ⟨.int (g i j),H,I.tok _,⟨_,rfl⟩,q⟩
theorem opI0 {f:Value -> Value -> Sem Value} {g:Int -> Int -> Int}
  (rule:∀ (i j:Int) (t u:Tok) (s:Shared) (Q:Value -> Shared -> Prop) (E:Value -> Shared -> Prop),Q (.int (g i j) s.toks) { s with toks:=s.toks + 1 } -> wpAny (model X.prog X.w) X.A (f (.int i t) (.int j u)) Q E s) :
  OpR X f (rI0 fun i j => .int (g i j)):=by
 intro pins s σ H x y v u Q I rx ry h;obtain ⟨i,j,rfl,rfl,q⟩:=h;obtain ⟨t,rfl⟩:=rx;obtain ⟨t',rfl⟩:=ry;exact rule i j t t' s _ _ ⟨.int (g i j),H,I.tok _,⟨_,rfl⟩,q⟩
theorem opB0 {f:Value -> Value -> Sem Value} {g:Int -> Int -> Bool}
  (rule:∀ (i j:Int) (t u:Tok) (s:Shared) (Q:Value -> Shared -> Prop) (E:Value -> Shared -> Prop),Q (.bool (g i j)) s -> wpAny (model X.prog X.w) X.A (f (.int i t) (.int j u)) Q E s) :
  OpR X f (rI0 fun i j => .bl (g i j)):=by
 intro pins s σ H x y v u Q I rx ry h;obtain ⟨i,j,rfl,rfl,q⟩:=h;obtain ⟨t,rfl⟩:=rx;obtain ⟨t',rfl⟩:=ry;exact rule i j t t' s _ _ ⟨.bl (g i j),H,I,rfl,q⟩
def CDiv (i j:Int):Prop:=0 < j /\ j < 1073741824
def CPow (i j:Int):Prop:=0 <= j /\ j <= 1000000 /\ i.natAbs < 2 ^ 64
def CMul (i j:Int):Prop:=(-(2 ^ 64) < i /\ i < 2 ^ 64) \/ (-(2 ^ 64) < j /\ j < 2 ^ 64)
theorem CMul.ok {i j:Int} (h:CMul i j):IntMulOk i j:=by
 rcases h with ⟨h1,h2⟩ | ⟨h1,h2⟩
 ·exact .of_left (intBits_le_64 h1 h2)
 ·exact .of_right (intBits_le_64 h1 h2)
theorem op_add:OpR X (binaryOp .Add) (rI0 fun i j => .int (i + j)):=opI0 fun _ _ _ _ _ _ _ q => add_int q
theorem op_sub:OpR X (binaryOp .Sub) (rI0 fun i j => .int (i - j)):=opI0 fun _ _ _ _ _ _ _ q => sub_int q
theorem op_mul:OpR X (binaryOp .Mult) (rI CMul fun i j => .int (i * j)):=opI fun _ _ _ _ _ _ _ hc q => mul_int q hc.ok
theorem op_fdiv:OpR X (binaryOp .FloorDiv) (rI CDiv fun i j => .int (i / j)):=opI fun i j _ _ _ _ _ hc q => by
 have h1:(0:Int) < j:=hc.1;have h2:j < 1073741824:=hc.2;exact floordiv_int (by lia) (by rw [Int.fdiv_eq_ediv_of_nonneg i (by lia)];exact q) (.inl (PyProof.noPylong_small (by lia)))
theorem op_mod:OpR X (binaryOp .Mod) (rI (fun _ j => 0 < j) fun i j => .int (i % j)):=opI fun i j _ _ _ _ _ hc q => by
 have h1:(0:Int) < j:=hc;exact mod_int' (by lia) (by rw [Int.fmod_eq_emod_of_nonneg i (by lia)];exact q)
theorem op_pow:OpR X (binaryOp .Pow) (rI CPow fun i j => .int (i ^ j.toNat)):=opI fun _ _ _ _ _ _ _ hc q => pow_int_small hc.1 hc.2.1 hc.2.2 q
theorem op_shl:OpR X (binaryOp .LShift) (rI CPow fun i j => .int (i * 2 ^ j.toNat)):=opI fun _ _ _ _ _ _ _ hc q => lshift_int_small hc.1 hc.2.1 hc.2.2 q
theorem unI {f:Value -> Sem Value} {g:Int -> Int}
  (rule:∀ (i:Int) (t:Tok) (s:Shared) (Q:Value -> Shared -> Prop) (E:Value -> Shared -> Prop),Q (.int (g i) s.toks) { s with toks:=s.toks + 1 } -> wpAny (model X.prog X.w) X.A (f (.int i t)) Q E s) :
  UnR X f (rU fun i => .int (g i)):=by
 intro pins s σ H x v Q I rx h;obtain ⟨i,rfl,q⟩:=h;obtain ⟨t,rfl⟩:=rx;exact rule i t s _ _ ⟨.int (g i),H,I.tok _,⟨_,rfl⟩,q⟩
theorem un_neg:UnR X (unaryOp .USub) (rU fun i => .int (-i)):=unI fun _ _ _ _ _ q => neg_int q
end
def scal:V -> V -> Bool
 | .non,.non => true | .non,.int _ => true | .int _,.non => true | .non,.bl _ => true | .bl _,.non => true | .non,.str _ => true | .str _,.non => true
 | .int _,.int _ => true | .bl _,.bl _ => true | .str _,.str _ => true | .byt _,.byt _ => true
 | .int _,.str _ => true | .str _,.int _ => true | .bl _,.str _ => true | .str _,.bl _ => true
 | _,_ => false
def rEq:R2:=fun x y H Q => scal x y = true /\ Q (.bl (decide (x = y))) H
def rNe:R2:=fun x y H Q => scal x y = true /\ Q (.bl (!decide (x = y))) H
theorem dec_int {i j:Int}:decide (V.int i = V.int j) = (i == j):=by
 rw [Bool.eq_iff_iff];simp
theorem dec_bl {i j:Bool}:decide (V.bl i = V.bl j) = (i == j):=by
 rw [Bool.eq_iff_iff];simp
theorem dec_str {i j:Str}:decide (V.str i = V.str j) = (i == j):=by
 rw [Bool.eq_iff_iff];simp
theorem dec_byt {i j:Array UInt8}:decide (V.byt i = V.byt j) = (i.toList == j.toList):=by
 rw [Bool.eq_iff_iff];cases i;cases j;simp
section
variable {X:Cx} {a b c:Expr} {ta tb tc:TE} {pos:Pos}
theorem fin_bl {pins:List (Addr × Obj)} {σ:St} {H:Hp} {s:Shared} {Q:VK} {k k':Bool} (I:Inv X pins σ H s) (q:Q (.bl k) H) (e:k = k'):EP X pins σ Q (.bool k') s:=by
 subst e;exact ⟨.bl k,H,I,rfl,q⟩
theorem op_eq:OpR X (compareOp .Eq) rEq:=by
 intro pins s σ H x y v u Q I rx ry h;obtain ⟨hs,q⟩:=h
 cases x with
 | non =>
  cases rx
  cases y with
  | non => cases ry;exact PySem.EqNone.eq_none_none (fin_bl I q (by simp))
  | bl j => cases ry;exact PySem.EqNone.eq_none_bool (fin_bl I q (by simp))
  | int j => obtain ⟨t',rfl⟩:=ry;exact PySem.EqNone.eq_none_int (fin_bl I q (by simp))
  | str j => obtain ⟨t',rfl⟩:=ry;exact PySem.EqNone.eq_none_str (fin_bl I q (by simp))
  | _ => exact absurd (show false = true from hs) Bool.false_ne_true
 | bl i =>
  cases rx
  cases y with
  | non => cases ry;exact PySem.EqNone.eq_bool_none (fin_bl I q (by simp))
  | bl j => cases ry;exact eq_bool (fin_bl I q dec_bl)
  | str j => obtain ⟨t',rfl⟩:=ry;exact PySem.EqMixed.eq_bool_str (fin_bl I q (by simp))
  | _ => exact absurd (show false = true from hs) Bool.false_ne_true
 | int i =>
  obtain ⟨t,rfl⟩:=rx
  cases y with
  | non => cases ry;exact PySem.EqNone.eq_int_none (fin_bl I q (by simp))
  | int j => obtain ⟨t',rfl⟩:=ry;exact eq_int (fin_bl I q dec_int)
  | str j => obtain ⟨t',rfl⟩:=ry;exact PySem.EqMixed.eq_int_str (fin_bl I q (by simp))
  | _ => exact absurd (show false = true from hs) Bool.false_ne_true
 | str i =>
  obtain ⟨t,rfl⟩:=rx
  cases y with
  | non => cases ry;exact PySem.EqNone.eq_str_none (fin_bl I q (by simp))
  | bl j => cases ry;exact PySem.EqMixed.eq_str_bool (fin_bl I q (by simp))
  | int j => obtain ⟨t',rfl⟩:=ry;exact PySem.EqMixed.eq_str_int (fin_bl I q (by simp))
  | str j => obtain ⟨t',rfl⟩:=ry;exact eq_str (fin_bl I q dec_str)
  | _ => exact absurd (show false = true from hs) Bool.false_ne_true
 | byt i =>
  obtain ⟨t,rfl⟩:=rx
  cases y with
  | byt j => obtain ⟨t',rfl⟩:=ry;exact PySem.W.eq_bytes (fin_bl I q dec_byt)
  | _ => exact absurd (show false = true from hs) Bool.false_ne_true
 | _ => cases y <;> exact absurd (show false = true from hs) Bool.false_ne_true
theorem op_ne:OpR X (compareOp .NotEq) rNe:=by
 intro pins s σ H x y v u Q I rx ry h;obtain ⟨hs,q⟩:=h
 cases x with
 | non =>
  cases rx
  cases y with
  | non => cases ry;exact PySem.EqNone.ne_none_none (fin_bl I q (by simp))
  | bl j => cases ry;exact PySem.EqNone.ne_none_bool (fin_bl I q (by simp))
  | int j => obtain ⟨t',rfl⟩:=ry;exact PySem.EqNone.ne_none_int (fin_bl I q (by simp))
  | str j => obtain ⟨t',rfl⟩:=ry;exact PySem.EqNone.ne_none_str (fin_bl I q (by simp))
  | _ => exact absurd (show false = true from hs) Bool.false_ne_true
 | bl i =>
  cases rx
  cases y with
  | non => cases ry;exact PySem.EqNone.ne_bool_none (fin_bl I q (by simp))
  | bl j => cases ry;exact ne_bool (fin_bl I q (congrArg not dec_bl))
  | str j => obtain ⟨t',rfl⟩:=ry;exact PySem.EqMixed.ne_bool_str (fin_bl I q (by simp))
  | _ => exact absurd (show false = true from hs) Bool.false_ne_true
 | int i =>
  obtain ⟨t,rfl⟩:=rx
  cases y with
  | non => cases ry;exact PySem.EqNone.ne_int_none (fin_bl I q (by simp))
  | int j => obtain ⟨t',rfl⟩:=ry;exact ne_int (fin_bl I q (congrArg not dec_int))
  | str j => obtain ⟨t',rfl⟩:=ry;exact PySem.EqMixed.ne_int_str (fin_bl I q (by simp))
  | _ => exact absurd (show false = true from hs) Bool.false_ne_true
 | str i =>
  obtain ⟨t,rfl⟩:=rx
  cases y with
  | non => cases ry;exact PySem.EqNone.ne_str_none (fin_bl I q (by simp))
  | bl j => cases ry;exact PySem.EqMixed.ne_str_bool (fin_bl I q (by simp))
  | int j => obtain ⟨t',rfl⟩:=ry;exact PySem.EqMixed.ne_str_int (fin_bl I q (by simp))
  | str j => obtain ⟨t',rfl⟩:=ry;exact ne_str (fin_bl I q (congrArg not dec_str))
  | _ => exact absurd (show false = true from hs) Bool.false_ne_true
 | byt i =>
  obtain ⟨t,rfl⟩:=rx
  cases y with
  | byt j => obtain ⟨t',rfl⟩:=ry;exact PySem.W.ne_bytes (fin_bl I q (congrArg not dec_byt))
  | _ => exact absurd (show false = true from hs) Bool.false_ne_true
 | _ => cases y <;> exact absurd (show false = true from hs) Bool.false_ne_true
theorem op_lt:OpR X (compareOp .Lt) (rI0 fun i j => .bl (decide (i < j))):=opB0 fun _ _ _ _ _ _ _ q => lt_int q
theorem op_le:OpR X (compareOp .LtE) (rI0 fun i j => .bl (decide (i <= j))):=opB0 fun _ _ _ _ _ _ _ q => le_int q
theorem op_gt:OpR X (compareOp .Gt) (rI0 fun i j => .bl (decide (j < i))):=opB0 fun _ _ _ _ _ _ _ q => gt_int q
theorem op_ge:OpR X (compareOp .GtE) (rI0 fun i j => .bl (decide (j <= i))):=opB0 fun _ _ _ _ _ _ _ q => ge_int q
theorem op_in_str:OpR X (compareOp .In) (fun x y H Q => ∃ i j,x = .str i /\ y = .str j /\ Q (.bl (!(Builtin.Str.occurrences j i 0 j.length 1).isEmpty)) H):=by
 intro pins s σ H x y v u Q I rx ry h;obtain ⟨i,j,rfl,rfl,q⟩:=h;obtain ⟨t,rfl⟩:=rx;obtain ⟨t',rfl⟩:=ry;exact in_str (fin_bl I q rfl)
theorem op_isN:OpR X (compareOp .Is) (fun x y H Q => y = .non /\ Q (.bl (decide (x = .non))) H):=by
 intro pins s σ H x y v u Q I rx ry h;obtain ⟨rfl,q⟩:=h;cases ry;refine is_none_gen (fin_bl I q ?_)
 cases x <;> first
  | (cases rx;rfl)
  | (obtain ⟨t,rfl⟩:=rx;rfl)
theorem op_notN:OpR X (compareOp .IsNot) (fun x y H Q => y = .non /\ Q (.bl (!decide (x = .non))) H):=by
 intro pins s σ H x y v u Q I rx ry h;obtain ⟨rfl,q⟩:=h;cases ry;refine isnot_none_gen (fin_bl I q ?_)
 cases x <;> first
  | (cases rx;rfl)
  | (obtain ⟨t,rfl⟩:=rx;rfl)
theorem OpR.or {f:Value -> Value -> Sem Value} {r r':R2} (h:OpR X f r) (h':OpR X f r'):OpR X f (fun x y H Q => r x y H Q \/ r' x y H Q):=by
 intro pins s σ H x y v u Q I rx ry q;rcases q with q | q
 ·exact h pins s σ H x y v u Q I rx ry q
 ·exact h' pins s σ H x y v u Q I rx ry q
theorem pe_cmpR {op:CmpOp} {r:R2} (ho:OpR X (compareOp op) r) (ha:PE X a ta) (hb:PE X b tb) (hm:behindInMarks op b = false):PE X (.Compare a [op] [b] pos) (tOp r ta tb):=by
 intro pins s σ H Q I h;exact wpAny_Compare1 (binT ha hb I h fun v u s2 x y H2 I2 rx ry q => ho pins s2 σ H2 x y v u Q I2 rx ry q) hm
def tTest (t:TE):TT:=fun σ H Q => t σ H fun x H' => ∃ k,x = .bl k /\ Q k H'
theorem pt_cmpR {op:CmpOp} {r:R2} (ho:OpR X (compareOp op) r) (ha:PE X a ta) (hb:PE X b tb) (hm:behindInMarks op b = false):PT X (.Compare a [op] [b] pos) (tTest (tOp r ta tb)):=by
 intro pins s σ H Q I h;refine wpAny_isTrue_Compare1 (thn (ha pins s σ H _ I h) fun v s1 ⟨x,H1,I1,r1,q1⟩ => thn (hb pins s1 σ H1 _ I1 q1) fun u s2 ⟨y,H2,I2,r2,q2⟩ =>
  thn (ho pins s2 σ H2 x y v u _ I2 r1 r2 q2) fun c s3 ⟨z,H3,I3,r3,k,e,q3⟩ => ?_) hm
 subst e;cases r3;exact wpAny_truthy_bool ⟨H3,I3,q3⟩
def tChain (r r':R2) (ta tb tc:TE):TE:=fun σ H Q => ta σ H fun x H1 => tb σ H1 fun y H2 => r x y H2 fun z H3 => ∃ k,z = .bl k /\
 (if k = true then tc σ H3 fun w' H4 => r' y w' H4 Q else Q (.bl false) H3)
theorem pt_chain {op op':CmpOp} {r r':R2} (ho:OpR X (compareOp op) r) (ho':OpR X (compareOp op') r') (ha:PE X a ta) (hb:PE X b tb) (hc:PE X c tc)
  (hm:lastMarks [op,op'] [b,c] = false:=by with_unfolding_all rfl):PT X (.Compare a [op,op'] [b,c] pos) (tTest (tChain r r' ta tb tc)):=by
 intro pins s σ H Q I h;refine isTrue_chain (thn (ha pins s σ H _ I h) fun v s1 ⟨x,H1,I1,r1,q1⟩ => test_link (thn (hb pins s1 σ H1 _ I1 q1) fun u s2 ⟨y,H2,I2,r2,q2⟩ =>
  thn (ho pins s2 σ H2 x y v u _ I2 r1 r2 q2) fun d s3 ⟨z,H3,I3,r3,k,e,q3⟩ => ?_)) hm
 subst e;cases r3;refine wpAny_truthy_bool ?_
 cases k with
 | false =>
  obtain ⟨k',e',q'⟩:=q3;cases e';exact ite_ff ⟨H3,I3,q'⟩
 | true =>
  refine ite_tt (test_last (thn (hc pins s3 σ H3 _ I3 q3) fun w' s4 ⟨z',H4,I4,r4,q4⟩ => thn (ho' pins s4 σ H4 y z' u w' _ I4 r2 r4 q4) fun d' s5 hq39 => ?_));obtain ⟨z2,H5,I5,r5,k2,e2,q5⟩:=hq39;subst e2;cases r5;exact wpAny_truthy_bool ⟨H5,I5,q5⟩
def TruV (K:PySem.W.Frag) (x:V) (H:Hp) (k:Bool):Prop :=
 match x with
 | .non => k = false
 | .bl b => k = b
 | .int i => k = (i != 0)
 | .str y => y.length <= sizeLine /\ k = ((y.length:Int) != 0)
 | .byt y => y.size <= sizeLine /\ k = ((y.size:Int) != 0)
 | .ref p => (∃ xs,SqL K H p xs /\ k = !xs.isEmpty) \/ (∃ xs,SqT K H p xs /\ k = !xs.isEmpty) \/ ∃ kvs,H p = some (.dK kvs) /\ k = !kvs.isEmpty
 | _ => False
theorem isEmpty_kv {κ:Type} {kvs:List (κ × V)} {vs:List (κ × Value)} (r:KV kvs vs):(!vs.isEmpty) = !kvs.isEmpty:=by
 cases r <;> rfl
theorem isEmpty_of {xs:List V} {its:List Value} (r:Vals xs its):(!its.toArray.isEmpty) = !xs.isEmpty:=by
 cases r <;> simp
theorem line63:(sizeLine:Nat) < 2 ^ 63:=by rw [sizeLine_eq];decide
theorem tru_ok:TruR X (fun x H Q => ∃ k,TruV X.K x H k /\ Q k H):=by
 intro pins s σ H x v Q I rx h;obtain ⟨k,e,q⟩:=h;have hl:=line63;have hs:sizeLine = 16777216:=sizeLine_eq
 cases x with
 | non =>
  cases rx;have e':k = false:=e;subst e';exact truthy_none ⟨H,I,q⟩
 | bl b =>
  cases rx;have e':k = b:=e;subst e';exact wpAny_truthy_bool ⟨H,I,q⟩
 | int i =>
  obtain ⟨t,rfl⟩:=rx;have e':k = (i != 0):=e;subst e';exact PySem.P.truthy_int ⟨H,I,q⟩
 | str y =>
  obtain ⟨t,rfl⟩:=rx;obtain ⟨hy,e'⟩:y.length <= sizeLine /\ k = ((y.length:Int) != 0):=e;subst e';exact PySem.P.truthy_str (by lia) ⟨H,I.tok _,q⟩
 | byt y =>
  obtain ⟨t,rfl⟩:=rx;obtain ⟨hy,e'⟩:y.size <= sizeLine /\ k = ((y.size:Int) != 0):=e;subst e';exact PySem.W.truthy_bytes (by lia) ⟨H,I.tok _,q⟩
 | ref p =>
  cases rx;have e':(∃ xs,SqL X.K H p xs /\ k = !xs.isEmpty) \/ (∃ xs,SqT X.K H p xs /\ k = !xs.isEmpty) \/ ∃ kvs,H p = some (.dK kvs) /\ k = !kvs.isEmpty:=e;rcases e' with ⟨xs,hx,e'⟩ | ⟨xs,hx,e'⟩ | ⟨kvs,hx,e'⟩
  ·subst e';obtain ⟨its,r,pl,hz⟩:=I.list hx;have hlen:=r.length;exact wpAny_truthy_list pl.isList (by simp only [List.size_toArray];lia) ⟨H,I.tok _,by rw [isEmpty_of r];exact q⟩
  ·subst e';obtain ⟨its,r,pl,hz⟩:=I.tuple hx;have hlen:=r.length;exact truthy_tuple pl (by simp only [List.size_toArray];lia) ⟨H,I.tok _,by rw [isEmpty_of r];exact q⟩
  ·subst e';obtain ⟨hz,hS,vs,r,m⟩:kvs.length <= sizeLine /\ (p == sysModules) = false /\ ∃ vs,KV kvs vs /\ s.heap.DictOf (mixKind X.prog X.w) p vs:=I.hok p _ hx;have hlen:kvs.length = vs.length:=Paired.length r;exact wpAny_truthy_dict hS m (by lia) ⟨H,I.tok _,by rw [isEmpty_kv r];exact q⟩
 | _ => exact (show False from e).elim
theorem pt_truth (ha:PE X a ta) (he:∀ whole,isTrue a X.env whole = (do let v <- whole;standAt a.pos;holding [v] (truthy v))) :
  PT X a (fun σ H Q => ta σ H fun x H' => ∃ k,TruV X.K x H' k /\ Q k H'):=by
 intro pins s σ H Q I h;exact isTrue_plain (thn (ha pins s σ H _ I h) fun v s1 ⟨x,H1,I1,r1,q1⟩ => tru_ok pins s1 σ H1 x v Q I1 r1 q1) (he _)
theorem op_add_str:OpR X (binaryOp .Add) (fun x y H Q => ∃ i j,x = .str i /\ y = .str j /\ i.length + j.length <= sizeLine /\ Q (.str (i ++ j)) H):=by
 intro pins s σ H x y v u Q I rx ry h;obtain ⟨i,j,rfl,rfl,hz,q⟩:=h;obtain ⟨t,rfl⟩:=rx;obtain ⟨t',rfl⟩:=ry;exact add_str (fun t' tk => ⟨.str (i ++ j),H,I.tok _,⟨_,rfl⟩,q⟩) hz
theorem vals1 {x:V} {us:List Value} (r:Vals [x] us):∃ u,us = [u] /\ RelV x u:=by
 cases r with
 | cons r1 r2 => cases r2;exact ⟨_,rfl,r1⟩
theorem vals2 {x y:V} {us:List Value} (r:Vals [x,y] us):∃ u w',us = [u,w'] /\ RelV x u /\ RelV y w':=by
 cases r with
 | cons r1 r2 =>
  cases r2 with
  | cons r3 r4 => cases r4;exact ⟨_,_,rfl,r1,r3⟩
theorem call_abs:CallR X (.builtin "abs") (fun xs H Q => ∃ i,xs = [.int i] /\ Q (.int (if i < 0 then -i else i)) H):=by
 intro pins s σ H xs us Q I r h;obtain ⟨i,rfl,q⟩:=h;obtain ⟨u,rfl,t,rfl⟩:=vals1 r;exact call_abs_int fun u tk => ⟨.int (if i < 0 then -i else i),H,I.tok _,⟨_,rfl⟩,q⟩
theorem call_min2 (hc:X.calm = true):CallR X (.builtin "min") (fun xs H Q => ∃ i j,xs = [.int i,.int j] /\ Q (.int (if j < i then j else i)) H):=by
 intro pins s σ H xs us Q I r h;obtain ⟨i,j,rfl,q⟩:=h;obtain ⟨u,w',rfl,⟨t,rfl⟩,⟨t',rfl⟩⟩:=vals2 r;refine min_two_ints (I.ok.hd hc) fun h' tk k => ⟨_,H,I.kept k,?_,q⟩;by_cases hj:j < i
 ·rw [if_pos hj,if_pos hj];exact ⟨_,rfl⟩
 ·rw [if_neg hj,if_neg hj];exact ⟨_,rfl⟩
theorem call_int1:CallR X (.type "int") (fun xs H Q => (∃ i,xs = [.int i] /\ Q (.int i) H) \/ ∃ k,xs = [.bl k] /\ Q (.int (if k then 1 else 0)) H):=by
 intro pins s σ H xs us Q I r h;rcases h with ⟨i,rfl,q⟩ | ⟨k,rfl,q⟩
 ·obtain ⟨u,rfl,t,rfl⟩:=vals1 r;exact call_int_int ⟨.int i,H,I,⟨_,rfl⟩,q⟩
 ·obtain ⟨u,rfl,r1⟩:=vals1 r;cases r1;exact call_int_bool ⟨.int (if k then 1 else 0),H,I.tok _,⟨_,rfl⟩,q⟩
def LenV (K:PySem.W.Frag) (x:V) (H:Hp) (n:Nat):Prop :=
 match x with
 | .str y => y.length <= sizeLine /\ n = y.length
 | .byt y => y.size <= sizeLine /\ n = y.size
 | .ref p => (∃ xs,SqL K H p xs /\ n = xs.length) \/ ∃ xs,SqT K H p xs /\ n = xs.length
 | _ => False
theorem call_len:CallR X (.builtin "len") (fun xs H Q => ∃ x n,xs = [x] /\ LenV X.K x H n /\ Q (.int n) H):=by
 intro pins s σ H xs us Q I r h;obtain ⟨x,n,rfl,e,q⟩:=h;obtain ⟨u,rfl,rx⟩:=vals1 r;have hl:=line63;have hs:sizeLine = 16777216:=sizeLine_eq
 cases x with
 | str y =>
  obtain ⟨t,rfl⟩:=rx;obtain ⟨hy,e'⟩:y.length <= sizeLine /\ n = y.length:=e;subst e';exact len_str (by lia) ⟨.int _,H,I.tok _,⟨_,rfl⟩,q⟩
 | byt y =>
  obtain ⟨t,rfl⟩:=rx;obtain ⟨hy,e'⟩:y.size <= sizeLine /\ n = y.size:=e;subst e';exact PySem.W.len_bytes (by lia) ⟨.int _,H,I.tok _,⟨_,rfl⟩,q⟩
 | ref p =>
  cases rx;have e':(∃ xs,SqL X.K H p xs /\ n = xs.length) \/ ∃ xs,SqT X.K H p xs /\ n = xs.length:=e;rcases e' with ⟨xs,hx,e'⟩ | ⟨xs,hx,e'⟩
  ·subst e';obtain ⟨its,r',pl,hz⟩:=I.list hx;have hlen:=r'.length;exact Calls.call_len_list pl.isList (by simp only [List.size_toArray];lia) ⟨.int xs.length,H,I.tok _,⟨_,by simp only [List.size_toArray];rw [hlen]⟩,q⟩
  ·subst e';obtain ⟨its,r',pl,hz⟩:=I.tuple hx;have hlen:=r'.length;exact len_tuple pl (by simp only [List.size_toArray];lia) ⟨.int xs.length,H,I.tok _,⟨_,by simp only [List.size_toArray];rw [hlen]⟩,q⟩
 | _ => exact (show False from e).elim
end
structure ObjM (h:Heap) (x dx C:Addr) (mA:Str -> Option Value):Prop where
 obj:h.get? x = some (PySem.W.instObj C dx)
 ns:h.Ns1 dx mA
 ne:dx ≠ x
theorem lookIn_ns {h:Heap} {dx:Addr} {mA:Str -> Option Value} (n:h.Ns1 dx mA):∃ od,h.get? dx = some od /\ ∀ name,PySem.W.lookIn name od = some (mA name):=by
 obtain ⟨o,es,ep,ho,hd,hk,_,hm⟩:=n;refine ⟨o,ho,fun name => ?_⟩;have e:=hm name;unfold nsFind findBy at e;rw [<- Array.find?_toList] at e;unfold PySem.W.lookIn;rw [hd];dsimp only;split
 ·rename_i y q;rw [q] at e;exact congrArg some e
 ·rename_i q;rw [q] at e;have a:es.toList.any (·.refKey) = false:=by
   rw [List.any_eq_false];intro y hy;obtain ⟨z,t,hkey⟩:=hk y (Array.mem_toList_iff.mp hy);simp [DictEntry.refKey,hkey]
  have a':¬ es.toList.any (·.refKey) = true:=by rw [a];exact Bool.false_ne_true
  rw [if_neg a'];exact congrArg some e
theorem ObjM.look {h:Heap} {x dx C:Addr} {mA:Str -> Option Value} (I:ObjM h x dx C mA):∃ od,PySem.W.InstAt h x (PySem.W.instObj C dx) C (some od) /\ ∀ name,PySem.W.lookIn name od = some (mA name) :=
 let ⟨od,ho,hl⟩:=lookIn_ns I.ns
 ⟨od,⟨I.obj,rfl,rfl,ho⟩,hl⟩
section
variable {prog:Program} {w:World} {A:Around} {E:Value -> Shared -> Prop} {s:Shared} {K:PySem.W.Frag} {x dx C f:Addr} {mA:Str -> Option Value} {name:Str} {v:Value}
theorem get_map {expr:Bool} {Q:Value -> Shared -> Prop} (X:K.In s.heap) (I:ObjM s.heap x dx C mA) (hg:PySem.W.plainGet K C name = true) (hh:PySem.W.hasDictIn K C = true)
  (ha:PySem.W.findIn K (.ref C) name = some none) (hv:mA name = some v) (hv':PySem.W.handedIn v = true) (h:Q v { s with toks:=s.toks + 1 }) :
  wpAny (model prog w) A (getAttr (.ref x) name expr) Q E s:=by
 obtain ⟨od,J,hl⟩:=I.look;exact PySem.W.get_value X J (PySem.W.plainGet_of hg).1 (PySem.W.findObj_own hh ha rfl (by rw [hl,hv])) hv' h
theorem get_meth {pl:Sem Bool} {Q:Value × List Value -> Shared -> Prop} (X:K.In s.heap) (I:ObjM s.heap x dx C mA) (hg:PySem.W.plainGet K C name = true)
  (hf:PySem.W.findIn K (.ref C) name = some (some (.ref f))) (ht:PySem.W.isFn K (.ref f) = true) (hv:mA name = none) (h:Q (.ref f,[.ref x]) s) :
  wpAny (model prog w) A (getMethod (.ref x) name pl) Q E s:=by
 obtain ⟨od,J,hl⟩:=I.look;exact PySem.W.method_fn X J (PySem.W.plainGet_of hg).1 (PySem.W.plainGet_of hg).2 hf (beq_iff_eq.mp ht) (by show (PySem.W.lookIn name od).map (·.isSome) = some false;rw [hl,hv];rfl) h
theorem set_map {ns:List Str} {Q:Unit -> Shared -> Prop} (X:K.In s.heap) (I:ObjM s.heap x dx C mA)
  (hs:PySem.W.findIn K (.ref C) "__setattr__" = some (some (.builtin "object.__setattr__"))) (hp:PySem.W.plainOver K C = true) (ht:PySem.W.takerIn K C name = some none) (hh:PySem.W.hasDictIn K C = true)
  (hw:PySem.Within mA ns) (hsz:ns.length <= sizeLine)
  (h:∀ h',ObjM h' x dx C (fun y => if y = name then some v else mA y) -> Heap.SameBut dx s.heap h' -> Q () { s with heap:=h',toks:=s.toks + 2 }) :
  wpAny (model prog w) A (setAttr (.ref x) name v) Q E s:=by
 obtain ⟨od,J,hl⟩:=I.look;refine PySem.W.set_plain X J hs (PySem.W.osa_open (s:={ s with toks:=s.toks + 1 }) (r:=none) X J hp ht fun b => ?_)
 obtain ⟨cd,hc,hd'⟩:=PySem.W.any_some hh;have hx:s.heap.get? x = some ⟨.ref C,some dx,.plain,#[]⟩:=I.obj;refine wpAny_bind (wpAny_pure (wpAny_bind (wpAny_bind (wpAny_loadPart hx (wpAny_bind (PySem.W.Looks.here (s:={ s with toks:=s.toks + 1 }) (PySem.W.looks_clsIn X hc) ?_))))))
 rw [hd'];refine wpAny_pure (a:=some dx) (wpAny_bind (wpAny_pure (wpAny_bind ?_)));refine wpAny_nsSet1 (s:={ s with toks:=s.toks + 1 }) I.ns fun h' hn2 hs2 => ?_
 obtain ⟨oD,esD,epD,hoD,hdD,hcD⟩:=hn2.count (PySem.Within.cons name v hw);refine wpAny_bind (wpAny_lookBehind hoD (by rw [hdD];exact pastItsLine_dict (Nat.le_trans hcD (by rw [List.length_cons];lia))) ?_)
 exact wpAny_pure (h _ ⟨(hs2.2 _ (Ne.symm I.ne)).trans I.obj,hn2,I.ne⟩ hs2)
theorem make_map {R:Result -> Shared -> Prop} {vs:List Value} {kw:List (Str × Value)} (X:K.In s.heap) (hm:PySem.W.makesIn K C = true)
  (hi:PySem.W.findIn K (.ref C) "__init__" = some (some (.ref f))) (hf:PySem.W.typeIn K (.ref f) = some (.type "function"))
  (h:codeAny (model prog w) (A.under (.builtin "type.__call__" ⟨.ref C :: vs,kw⟩)) (.call (.ref f) ⟨.ref (s.heap.objs.size + 1) :: vs,kw⟩) (PySem.W.InitBack (s.heap.objs.size + 1) R)
   { s with heap:=(s.heap.push PySem.W.emptyDict).push (PySem.W.instObj C s.heap.objs.size) }) :
  codeAny (model prog w) A (.call (.ref C) ⟨vs,kw⟩) R s:=by
 obtain ⟨hh,g,d,t,os⟩:=s;exact PySem.W.make_core (PySem.W.makes_of X hm) (PySem.W.looks_findIn X hi) (fun self => PySem.W.bind_fn X self hf) (.inl rfl) h
end
def putF (f:Str) (v:V):List (Str × V) -> List (Str × V)
 | [] => [(f,v)]
 | (g,x) :: r => if g = f then (g,v) :: r else (g,x) :: putF f v r
theorem lookup_putF (f g:Str) (v:V):∀ fs:List (Str × V),(putF f v fs).lookup g = if g = f then some v else fs.lookup g
 | [] => by
  show List.lookup g [(f,v)] = _;by_cases h:g = f
  ·have hb:(g == f) = true:=beq_iff_eq.mpr h;simp only [List.lookup,hb,if_pos h]
  ·have hb:(g == f) = false:=beq_eq_false_iff_ne.mpr h;simp only [List.lookup,hb,if_neg h]
 | (k,x) :: r => by
  have ih:=lookup_putF f g v r;rw [show putF f v ((k,x) :: r) = (if k = f then (k,v) :: r else (k,x) :: putF f v r) from rfl]
  by_cases hk:k = f
  ·rw [if_pos hk];by_cases h:g = k
   ·have hb:(g == k) = true:=beq_iff_eq.mpr h;simp only [List.lookup,hb,if_pos (h.trans hk)]
   ·have hb:(g == k) = false:=beq_eq_false_iff_ne.mpr h;simp only [List.lookup,hb,if_neg (fun e:g = f => h (e.trans hk.symm))]
  ·rw [if_neg hk];by_cases h:g = k
   ·have hb:(g == k) = true:=beq_iff_eq.mpr h;simp only [List.lookup,hb,if_neg (fun e:g = f => hk (h.symm.trans e))]
   ·have hb:(g == k) = false:=beq_eq_false_iff_ne.mpr h;simp only [List.lookup,hb];exact ih
theorem keys_putF (f:Str) (v:V):∀ fs:List (Str × V),f ∈ (putF f v fs).map (·.1) /\ ∀ g,g ∈ fs.map (·.1) -> g ∈ (putF f v fs).map (·.1)
 | [] => ⟨by simp [putF],fun g h => by simp at h⟩
 | (k,x) :: r => by
  obtain ⟨i1,i2⟩:=keys_putF f v r;rw [show putF f v ((k,x) :: r) = (if k = f then (k,v) :: r else (k,x) :: putF f v r) from rfl]
  by_cases hk:k = f
  ·rw [if_pos hk];subst hk;exact ⟨by simp,fun g h => by simpa using h⟩
  ·rw [if_neg hk];refine ⟨?_,fun g h => ?_⟩
   ·rw [List.map_cons];exact List.mem_cons_of_mem _ i1
   ·rw [List.map_cons] at h ⊢;rcases List.mem_cons.mp h with e | e
    ·exact List.mem_cons.mpr (.inl e)
    ·exact List.mem_cons_of_mem _ (i2 g e)
theorem length_putF (f:Str) (v:V):∀ fs:List (Str × V),(putF f v fs).length <= fs.length + 1
 | [] => by simp [putF]
 | (k,x) :: r => by
  have ih:=length_putF f v r;rw [show putF f v ((k,x) :: r) = (if k = f then (k,v) :: r else (k,x) :: putF f v r) from rfl]
  by_cases hk:k = f
  ·rw [if_pos hk,List.length_cons,List.length_cons];lia
  ·rw [if_neg hk,List.length_cons,List.length_cons];lia
theorem RelO.some_of {v:V} {o:Option Value} (r:RelO (some v) o):∃ u,o = some u /\ RelV v u:=by
 cases o with
 | none => exact (show False from r).elim
 | some u => exact ⟨u,rfl,r⟩
theorem RelO.none_of {o:Option Value} (r:RelO none o):o = none:=by
 cases o with
 | none => rfl
 | some u => exact (show False from r).elim
theorem handed_of {v:V} {u:Value} (r:RelV v u):PySem.W.handedIn u = true:=by
 cases v with
 | non => cases (show u = Value.none from r);rfl
 | bl b => cases (show u = Value.bool b from r);rfl
 | int i => obtain ⟨t,e⟩:=(show ∃ t,u = Value.int i t from r);cases e;rfl
 | str x => obtain ⟨t,e⟩:=(show ∃ t,u = Value.str x t from r);cases e;rfl
 | byt b => obtain ⟨t,e⟩:=(show ∃ t,u = Value.bytes b t from r);cases e;rfl
 | flt b => obtain ⟨t,e⟩:=(show ∃ t,u = Value.float b t from r);cases e;rfl
 | ref a => cases (show u = Value.ref a from r);rfl
 | ty n => cases (show u = Value.type n from r);rfl
section
variable {P:Program} {w:World} {H H':Hp} {h h':Heap} {a C dx:Addr} {fs fs':List (Str × V)}
theorem ins_get (hok:HOk P w H h) (e:H a = some (.ins C dx fs)):∃ mA,ObjM h a dx C mA /\ (∀ f,RelO (fs.lookup f) (mA f)) /\ PySem.Within mA (fs.map (·.1)) /\ fs.length <= 1000 /\ H dx = some (.own a):=by
 obtain ⟨d,z,ne,ob,mA,n,r,q⟩:=(show ObjOk P w H h a (.ins C dx fs) from hok a _ e);exact ⟨mA,⟨ob,n,ne⟩,r,q,z,d⟩
end
structure Cls (K:PySem.W.Frag) (C:Addr):Prop where
 pg:PySem.W.plainGet K C Str.empty = true
 hd:PySem.W.hasDictIn K C = true
 po:PySem.W.plainOver K C = true
 sa:PySem.W.findIn K (.ref C) "__setattr__" = some (some (.builtin "object.__setattr__"))
theorem Cls.get {K:PySem.W.Frag} {C:Addr} (c:Cls K C) (f:Str):PySem.W.plainGet K C f = true:=c.pg
def NoAttr (K:PySem.W.Frag) (C:Addr) (f:Str):Prop:=PySem.W.findIn K (.ref C) f = some none
theorem NoAttr.taker {K:PySem.W.Frag} {C:Addr} {f:Str} (n:NoAttr K C f):PySem.W.takerIn K C f = some none:=by
 unfold PySem.W.takerIn;rw [show PySem.W.findIn K (.ref C) f = some none from n];rfl
structure Meth (K:PySem.W.Frag) (C:Addr) (m:Str) (f:Addr):Prop where
 at_:PySem.W.findIn K (.ref C) m = some (some (.ref f))
 fn:PySem.W.isFn K (.ref f) = true
 kp:PySem.W.keepIn K (.ref f) = true
section
variable {X:Cx} {pins:List (Addr × Obj)} {σ:St} {H:Hp} {s:Shared} {a C dx:Addr} {fs:List (Str × V)} {f:Str} {v:V} {A:Around} {E:Value -> Shared -> Prop}
theorem getattr_ok {b:Bool} {Q:Value -> Shared -> Prop} (I:Inv X pins σ H s) (e:H a = some (.ins C dx fs)) (c:Cls X.K C) (n:NoAttr X.K C f) (l:fs.lookup f = some v)
  (h:∀ u s',Inv X pins σ H s' -> RelV v u -> Q u s'):wpAny (model X.prog X.w) A (getAttr (.ref a) f b) Q E s:=by
 obtain ⟨mA,O,r,_,_,_⟩:=ins_get I.hok e;obtain ⟨u,hu,ru⟩:=RelO.some_of (v:=v) (o:=mA f) (by rw [<- l];exact r f)
 exact get_map I.kIn O (c.get f) c.hd n hu (handed_of ru) (h u _ (I.tok _) ru)
theorem getmeth_ok {m:Str} {g:Addr} {pl:Sem Bool} {Q:Value × List Value -> Shared -> Prop} (I:Inv X pins σ H s) (e:H a = some (.ins C dx fs)) (c:Cls X.K C) (k:Meth X.K C m g) (l:fs.lookup m = none)
  (h:Q (.ref g,[.ref a]) s):wpAny (model X.prog X.w) A (getMethod (.ref a) m pl) Q E s:=by
 obtain ⟨mA,O,r,_,_,_⟩:=ins_get I.hok e;have hn:mA m = none:=RelO.none_of (by rw [<- l];exact r m)
 exact get_meth I.kIn O (c.get m) k.at_ k.fn hn h
theorem setattr_ok {y:V} {u:Value} {Q:Unit -> Shared -> Prop} (I:Inv X pins σ H s) (e:H a = some (.ins C dx fs)) (c:Cls X.K C) (n:NoAttr X.K C f) (hl:fs.length < 1000) (ry:RelV y u)
  (h:∀ s',Inv X pins σ (upd H a (.ins C dx (putF f y fs))) s' -> Q () s'):wpAny (model X.prog X.w) A (setAttr (.ref a) f u) Q E s:=by
 obtain ⟨mA,O,r,wi,_,ho⟩:=ins_get I.hok e;have hz:(fs.map (·.1)).length <= sizeLine:=by rw [List.length_map,sizeLine_eq];lia
 refine set_map I.kIn O c.sa c.po n.taker c.hd wi hz fun h' O' sb => h _ ?_;have hd:∃ o,h'.get? dx = some o:=let ⟨o,_,_,e',_⟩:=O'.ns;⟨o,e'⟩
 refine I.write (x:=a) (e:=dx) (by rw [e];exact True.intro) (.inr ho) (fun b q hb z => (sb.2 b hb).trans z) hd ?_
 refine ⟨by rw [upd_ne O.ne];exact ho,?_,O.ne,O'.obj,_,O'.ns,fun g => ?_,fun g hg => ?_⟩
 ·have:=length_putF f y fs;lia
 ·show RelO ((putF f y fs).lookup g) (if g = f then some u else mA g)
  rw [lookup_putF];by_cases q:g = f
  ·rw [if_pos q,if_pos q];exact ry
  ·rw [if_neg q,if_neg q];exact r g
 ·by_cases q:g = f
  ·rw [q];exact (keys_putF f y fs).1
  ·refine (keys_putF f y fs).2 g (wi g fun z => hg ?_);show (if g = f then some u else mA g) = none
   rw [if_neg q];exact z
theorem Inv.made (I:Inv X pins σ H s):Inv X pins σ (upd (upd H s.heap.objs.size (.own (s.heap.objs.size + 1))) (s.heap.objs.size + 1) (.ins C s.heap.objs.size []))
  { s with heap:=(s.heap.push PySem.W.emptyDict).push (PySem.W.instObj C s.heap.objs.size) }:=by
 have e1:(s.heap.push PySem.W.emptyDict).get? s.heap.objs.size = some PySem.W.emptyDict:=Heap.get?_push_size s.heap rfl;have e2:((s.heap.push PySem.W.emptyDict).push (PySem.W.instObj C s.heap.objs.size)).get? (s.heap.objs.size + 1) = some (PySem.W.instObj C s.heap.objs.size):=by
  have:=Heap.get?_push_size (s.heap.push PySem.W.emptyDict) (o:=PySem.W.instObj C s.heap.objs.size) rfl
  rwa [Heap.size_push] at this
 have e3:(s.heap.push PySem.W.emptyDict).Ns s.heap.objs.size (fun _ => none):=⟨PySem.W.emptyDict,#[],_,e1,rfl,(fun e he => absurd he (by simp)),fun _ => rfl⟩
 have I1:=I.laid (a:=s.heap.objs.size) (o:=.own (s.heap.objs.size + 1)) (h':=s.heap.push PySem.W.emptyDict) (t':=s.toks) (fun b u q => Heap.get?_push_of_some _ q) (Nat.le_refl _) ⟨_,e1⟩;refine I1.laid (a:=s.heap.objs.size + 1) (o:=.ins C s.heap.objs.size []) (t':=s.toks) (fun b u q => Heap.get?_push_of_some _ q) (Nat.le_of_eq (Heap.size_push _ _)) ?_;have ne:s.heap.objs.size ≠ s.heap.objs.size + 1:=Nat.ne_of_lt (Nat.lt_succ_self _);refine ⟨by rw [upd_ne ne,upd_same],Nat.zero_le _,ne,e2,fun _ => none,(Heap.Ns1.of_empty e3).at fun o q => Heap.get?_push_of_some _ q,fun _ => True.intro,fun y hy => absurd rfl hy⟩
theorem attr_of {prog:Program} {w:World} {env:Env} {e:Expr} {f:Str} {pos:Pos} {s:Shared} {Q:Value -> Shared -> Prop} (hb:attributeBase e f env (eval e env) = eval e env)
  (h:wpAny (model prog w) A (eval e env) (fun o s₁ => wpAny (model prog w) A (getAttr o f true) Q E s₁) E s):wpAny (model prog w) A (eval (.Attribute e f pos) env) Q E s :=
 Attribute_any_ h (by rw [arm_eval_Attribute,hb])
end
def tFld (K:PySem.W.Frag) (ta:TE) (f:Str):TE:=fun σ H Q => ta σ H fun x H1 => ∃ a C dx fs v,x = .ref a /\ H1 a = some (.ins C dx fs) /\ Cls K C /\ NoAttr K C f /\ fs.lookup f = some v /\ Q v H1
def sFld (K:PySem.W.Frag) (ta tv:TE) (f:Str):TS:=fun D σ H => tv σ H fun y H1 => ta σ H1 fun x H2 => ∃ a C dx fs,x = .ref a /\ H2 a = some (.ins C dx fs) /\ Cls K C /\ NoAttr K C f /\ fs.length < 1000 /\
 D.nx σ (upd H2 a (.ins C dx (putF f y fs)))
section
variable {X:Cx} {o e value:Expr} {f:Str} {pos pos' tpos:Pos} {ta tv:TE}
theorem pe_fld (he:PE X e ta) (hb:attributeBase e f X.env (eval e X.env) = eval e X.env):PE X (.Attribute e f pos) (tFld X.K ta f):=by
 intro pins s σ H Q I h;refine attr_of hb (thn (he pins s σ H _ I h) fun u s1 hq40 => ?_);obtain ⟨x,H1,I1,rx,a,C,dx,fs,v,ex,ea,c,n,l,q⟩:=hq40;subst ex;obtain rfl:u = Value.ref a:=rx;exact getattr_ok I1 ea c n l fun u' s2 I2 ru => ⟨v,H1,I2,ru,q⟩
theorem ps_fld (ha:PE X o ta) (hv:PE X value tv) (hs:swapsWith value (some (.Attribute o f pos')) pos.line X.env = pure false):PS X (.Assign [.Attribute o f pos'] value pos) (sFld X.K ta tv f):=by
 intro pins s σ H D I h;refine plainObj_wpAny_Assign_Attribute (thn (hv pins s σ H _ I h) fun u s1 ⟨y,H1,I1,ry,q⟩ => thn (ha pins s1 σ H1 _ I1 q) fun ov s2 hq42 => ?_) hs;obtain ⟨x,H2,I2,rx,a,C,dx,fs,ex,ea,c,n,l,q2⟩:=hq42;subst ex;obtain rfl:ov = Value.ref a:=rx;exact setattr_ok I2 ea c n l ry fun s3 I3 => ⟨σ,_,I3,q2⟩
end
section
variable {X:Cx} {pins:List (Addr × Obj)} {σ:St} {H:Hp} {s:Shared} {A:Around} {E:Value -> Shared -> Prop} {Q:Value -> Shared -> Prop} {c:Value} {b:Bool}
inductive TyOf (K:PySem.W.Frag) (H:Hp):V -> Value -> Prop where
 | non:TyOf K H .non (.type "NoneType")
 | bl (x:Bool):TyOf K H (.bl x) (.type "bool")
 | int (i:Int):TyOf K H (.int i) (.type "int")
 | str (x:Str):TyOf K H (.str x) (.type "str")
 | flt (x:UInt64):TyOf K H (.flt x) (.type "float")
 | lst {a:Addr} {xs:List V} (e:H a = some (.lst xs)):TyOf K H (.ref a) (.type "list")
 | frz {a:Addr} {o:Obj} {xs:List V} (e:H a = some (.frz o (.lst xs))):TyOf K H (.ref a) (.type "list")
 | tup {a:Addr} {xs:List V} (e:H a = some (.tup xs)):TyOf K H (.ref a) (.type "tuple")
 | dK {a:Addr} {kvs:List (Key × V)} (e:H a = some (.dK kvs)):TyOf K H (.ref a) (.type "dict")
 | dT {a:Addr} {kvs:List (List Key × V)} (e:H a = some (.dT kvs)):TyOf K H (.ref a) (.type "dict")
 | ins {a C dx:Addr} {fs:List (Str × V)} (e:H a = some (.ins C dx fs)) (cl:Cls K C) (ha:PySem.W.findIn K (.ref C) "__class__" = some (some (.builtin "object.__class__")))
   (hn:PySem.W.specialIn K (.builtin "object.__class__") "__get__" = some (some (.builtin "getset_descriptor.__get__"))) (htk:PySem.W.takesIn K (.builtin "object.__class__") = some true)
   (hm:PySem.W.mroIn K C (.type "object") = some true):TyOf K H (.ref a) (.ref C)
theorem isinst_ok {x:V} {u t:Value} (I:Inv X pins σ H s) (rx:RelV x u) (ty:TyOf X.K H x t) (e:PySem.W.kitOne X.K t c = some b) (h:∀ tk,Q (.bool b) { s with toks:=tk }) :
  wpAny (model X.prog X.w) A (call (.builtin "isinstance") [u,c]) Q E s:=by
 cases ty with
 | non => cases (show u = Value.none from rx);exact PySem.W.kia_one PySem.W.kitx_none I.kIn True.intro e (fun z => nomatch z) h
 | bl y => cases (show u = Value.bool y from rx);exact PySem.W.kia_one PySem.W.kitx_bool I.kIn True.intro e (fun z => nomatch z) h
 | int i => obtain ⟨t,q⟩:=(show ∃ t,u = Value.int i t from rx);cases q;exact PySem.W.kia_one PySem.W.kitx_int I.kIn True.intro e (fun z => nomatch z) h
 | str y => obtain ⟨t,q⟩:=(show ∃ t,u = Value.str y t from rx);cases q;exact PySem.W.kia_one PySem.W.kitx_str I.kIn True.intro e (fun z => nomatch z) h
 | flt y => obtain ⟨t,q⟩:=(show ∃ t,u = Value.float y t from rx);cases q;exact PySem.W.kia_one PySem.W.kitx_float I.kIn True.intro e (fun z => nomatch z) h
 | @lst a xs ea =>
  cases (show u = Value.ref a from rx)
  obtain ⟨_,_,n,_,h1⟩:=(show ObjOk X.prog X.w H s.heap a (.lst xs) from I.hok a _ ea);exact PySem.W.kia_one PySem.W.kitx_list I.kIn ⟨_,h1,rfl⟩ e (fun z => nomatch z) h
 | @frz a ob xs ea =>
  cases (show u = Value.ref a from rx)
  obtain ⟨_,_,_,n,_,h1⟩:=(show ObjOk X.prog X.w H s.heap a (.frz ob (.lst xs)) from I.hok a _ ea);exact PySem.W.kia_one PySem.W.kitx_list I.kIn ⟨_,h1,rfl⟩ e (fun z => nomatch z) h
 | @tup a xs ea =>
  cases (show u = Value.ref a from rx)
  obtain ⟨_,_,_,p⟩:=(show ObjOk X.prog X.w H s.heap a (.tup xs) from I.hok a _ ea);obtain ⟨o,h1,h2,_⟩:=p;exact PySem.W.kia_one PySem.W.kitx_tuple I.kIn ⟨o,h1,h2⟩ e (fun z => nomatch z) h
 | @dK a kvs ea =>
  cases (show u = Value.ref a from rx)
  obtain ⟨_,_,vs,_,p⟩:=(show ObjOk X.prog X.w H s.heap a (.dK kvs) from I.hok a _ ea);obtain ⟨o,es,ep,h1,h2,_⟩:=p;exact PySem.W.kia_one PySem.W.kitx_dict I.kIn ⟨o,h1,h2.1⟩ e (fun z => nomatch z) h
 | @dT a kvs ea =>
  cases (show u = Value.ref a from rx)
  obtain ⟨_,_,xs,_,o,es,ep,h1,h2,_⟩:=(show ObjOk X.prog X.w H s.heap a (.dT kvs) from I.hok a _ ea);exact PySem.W.kia_one PySem.W.kitx_dict I.kIn ⟨o,h1,h2.1⟩ e (fun z => nomatch z) h
 | @ins a C dx fs ea cl ha hn htk hm =>
  cases (show u = Value.ref a from rx)
  obtain ⟨mA,O,_⟩:=ins_get I.hok ea;obtain ⟨od,J,_⟩:=O.look;exact PySem.W.kia_one (PySem.W.kitx_own (cl.get _) cl.hd ha hn htk hm) I.kIn J e (fun z => nomatch z) h
end
structure Room (k:Nat) (A:Around):Prop where
 hd:A.handled = none
 dp:A.depth + 3 * k + 5 < recursionLimit
 un:A.units + 16 * k + 200 < cLine
 gd:A.guards = some []
theorem Room.mono {j k:Nat} {A:Around} (r:Room k A) (h:j <= k):Room j A:=⟨r.hd,by have:=r.dp;lia,by have:=r.un;lia,r.gd⟩
theorem Room.deeper {k:Nat} {A:Around} (r:Room (k + 1) A) (env:Env):Room k (A.deeper env) :=
 ⟨r.hd,by have:=r.dp;show A.depth + 1 + 3 * k + 5 < _;lia,by have:=r.un;show A.units + 3 + 16 * k + 200 < _;lia,r.gd⟩
theorem Room.in1 {k:Nat} {A:Around} (r:Room (k + 1) A):Room k A.in1 :=
 ⟨r.hd,by have:=r.dp;show A.depth + 3 * k + 5 < _;lia,by have:=r.un;show A.units + 1 + 16 * k + 200 < _;lia,r.gd⟩
theorem make_depth {A:Around} {C:Addr} {us:List Value} {kw:List (Str × Value)}:(A.under (.builtin "type.__call__" ⟨.ref C :: us,kw⟩)).depth = A.depth + 1:=by
 first | rfl | simp [Around.under,Code.weight,Code.isCreation,Code.isGuard,Code.isCaller,Code.frames,Code.isFrame,guardIds]
theorem make_units {A:Around} {C:Addr} {us:List Value} {kw:List (Str × Value)}:(A.under (.builtin "type.__call__" ⟨.ref C :: us,kw⟩)).units = A.units + 1:=by
 first | rfl | simp [Around.under,Code.cUnits,Code.frames,Code.isFrame]
theorem Room.make {k:Nat} {A:Around} (r:Room (k + 1) A) (C:Addr) (us:List Value) (kw:List (Str × Value)):Room k (A.under (.builtin "type.__call__" ⟨.ref C :: us,kw⟩)) :=
 ⟨r.hd,by have:=r.dp;rw [make_depth];lia,by have:=r.un;rw [make_units];lia,by have h:=r.gd;first | exact h | (simp [Around.under,Code.guards,Code.isGuard,guardIds];exact h)⟩
theorem Room.depth {k:Nat} {A:Around} (r:Room k A):A.depth < recursionLimit:=by have:=r.dp;lia
theorem Room.units {k:Nat} {A:Around} (r:Room k A):A.units + 64 < cLine:=by have:=r.un;lia
def tNil:TA:=fun _ H Q => Q [] H
def tCons (ta:TE) (tr:TA):TA:=fun σ H Q => ta σ H fun x H1 => tr σ H1 fun xs H2 => Q (x :: xs) H2
section
variable {X:Cx} {e:Expr} {es:List Expr} {te:TE} {t:TA} {pos:Pos}
theorem pa_nil:PA X [] tNil:=fun _ _ _ _ H Q I h => Calls.spliced_nil ⟨[],H,I,.nil,h⟩
theorem pa_cons (ha:PE X e te) (hr:PA X es t) (hs:starEach (e :: es) X.env = (false,eval e X.env) :: starEach es X.env:=by rfl):PA X (e :: es) (tCons te t):=by
 intro pos pins s σ H Q I h;rw [hs];show wpAny _ _ (spliced ((false,eval e X.env) :: backTo pos (starEach es X.env))) _ _ s;refine Calls.spliced_cons (thn (ha pins s σ H _ I h) fun u s1 hq46 => ?_);obtain ⟨x,H1,I1,r1,q1⟩:=hq46;exact thn (hr pos pins s1 σ H1 _ I1 q1) fun us s2 ⟨xs,H2,I2,r2,q2⟩ => ⟨x :: xs,H2,I2,.cons r1 r2,q2⟩
def tTup (t:TA):TE:=fun σ H Q => t σ H fun xs H1 => xs.length <= sizeLine /\ ∀ p,H1 p = none -> Q (.ref p) (upd H1 p (.tup xs))
def tLst (t:TA):TE:=fun σ H Q => t σ H fun xs H1 => xs.length <= sizeLine /\ ∀ p,H1 p = none -> Q (.ref p) (upd H1 p (.lst xs))
theorem pe_tup {x1} (h:PA X es t):PE X (.Tuple es x1 pos) (tTup t):=by
 intro pins s σ H Q I hq;refine wpAny_Tuple_spliced (thn (h pos pins s σ H _ I hq) fun us s1 ⟨xs,H1,I1,r,z,q⟩ => ⟨by rw [<- r.length];exact z,?_⟩)
 have hf:H1 s1.heap.objs.size = none:=I1.hok.fresh (Nat.le_refl _);refine ⟨.ref s1.heap.objs.size,upd H1 s1.heap.objs.size (.tup xs),I1.laid (t':=s1.toks) (fun b u e => Heap.get?_push_of_some _ e) (Nat.le_refl _) ?_,rfl,q _ hf⟩;exact ⟨z,us,r,⟨_,Heap.get?_push_size _ rfl,rfl,_,rfl,rfl⟩⟩
theorem pe_lst (h:PA X es t):PE X (.List es pos) (tLst t):=by
 intro pins s σ H Q I hq;refine wpAny_List_spliced (thn (h pos pins s σ H _ I hq) fun us s1 ⟨xs,H1,I1,r,z,q⟩ => ⟨by rw [<- r.length];exact z,?_⟩)
 have hf:H1 s1.heap.objs.size = none:=I1.hok.fresh (Nat.le_refl _);refine ⟨.ref s1.heap.objs.size,upd H1 s1.heap.objs.size (.lst xs),I1.laid (t':=s1.toks) (fun b u e => Heap.get?_push_of_some _ e) (Nat.le_refl _) ?_,rfl,q _ hf⟩;exact ⟨z,us,0,r,Heap.get?_push_size _ rfl⟩
end
abbrev Sp:=List V -> Hp -> VK -> XK -> Prop
abbrev CXT:=List Env -> Hp -> Shared -> XK -> Value -> Shared -> Prop
structure Env0 (P:Program) (w:World) (K:PySem.W.Frag) (mg:Str -> Option Value) (base:Heap) (A:Around) (outer:List Env) (s:Shared) (H:Hp):Prop where
 frames:A.frames = some outer
 mod:Mod K mg base
 bs:∀ b o,base.get? b = some o -> s.heap.get? b = some o /\ H b = none
 bsz:base.objs.size <= s.heap.objs.size
 funs:s.heap.FunFrames base outer
 frf:∀ b ∈ frs outer,H b = none
 hok:HOk P w H s.heap
 bare:AllBare s.gens
 tabs:TabsOk K H
def CE (outer:List Env) (P:Program) (w:World) (H:Hp) (s:Shared) (Q:VK) (u:Value) (s':Shared):Prop :=
 ∃ v H',s'.os = s.os /\ AllBare s'.gens /\ Un (frs outer) [] H H' s.heap s'.heap /\ HOk P w H' s'.heap /\ RelV v u /\ Q v H'
def CR (CX:CXT) (outer:List Env) (P:Program) (w:World) (H:Hp) (s:Shared) (Q:VK) (E:XK) (r:Result) (s':Shared):Prop :=
 match r with
 | .ok (.ret u) => CE outer P w H s Q u s'
 | .ok _ => False
 | .error e => CX outer H s E e s'
structure FnOk (P:Program) (w:World) (K:PySem.W.Frag) (mg:Str -> Option Value) (base:Heap) (CX:CXT) (k:Nat) (f:Addr) (fd:FuncData) (ps:List Str) (sp:Sp):Prop where
 len:∀ vs H Q E,sp vs H Q E -> vs.length = ps.length
 run:∀ (A:Around) (outer:List Env) (s:Shared) (H:Hp) (args:Args) (us:List Value) (vs:List V) (Q:VK) (E:XK),Room k A -> Env0 P w K mg base A outer s H -> BindsTo s fd args (ps.zip us) -> Vals vs us -> sp vs H Q E ->
  codeAny (model P w) A (.call (.ref f) args) (CR CX outer P w H s Q E) s
theorem FnOk.mono {P:Program} {w:World} {K:PySem.W.Frag} {mg:Str -> Option Value} {base:Heap} {CX:CXT} {j k:Nat} {f:Addr} {fd:FuncData} {ps:List Str} {sp:Sp} (F:FnOk P w K mg base CX j f fd ps sp) (h:j <= k) :
  FnOk P w K mg base CX k f fd ps sp:=⟨F.len,fun A outer s H args us vs Q E hr => F.run A outer s H args us vs Q E (hr.mono h)⟩
theorem Env0.make {P:Program} {w:World} {K:PySem.W.Frag} {mg:Str -> Option Value} {base:Heap} {A:Around} {outer:List Env} {s:Shared} {H:Hp} (e:Env0 P w K mg base A outer s H) (C:Addr) (us:List Value) (kw:List (Str × Value)) :
  Env0 P w K mg base (A.under (.builtin "type.__call__" ⟨.ref C :: us,kw⟩)) outer s H:=⟨by first | exact e.frames | (simpa [Around.under,Code.envs,Code.isFrame,pushEnvs] using e.frames),e.mod,e.bs,e.bsz,e.funs,e.frf,e.hok,e.bare,e.tabs⟩
section
variable {X:Cx} {pins:List (Addr × Obj)} {σ:St} {H:Hp} {s s':Shared}
theorem Inv.env0 (I:Inv X pins σ H s):Env0 X.prog X.w X.K X.mg X.base X.A X.stack s H :=
 ⟨I.ok.frames,I.ok.mod,I.bs,Nat.le_trans I.ok.bsz I.sz,I.stack,I.stkFree,I.hok,I.bare,I.ok.tabs.un I.base⟩
theorem Inv.after {Q:VK} {u:Value} (I:Inv X pins σ H s) (h:CE X.stack X.prog X.w H s Q u s'):EP X pins σ Q u s':=by
 obtain ⟨v,H',os,bare,un,hok,r,q⟩:=h;obtain ⟨hh,g,d,t,os'⟩:=s';obtain rfl:os' = s.os:=os;exact ⟨v,H',I.call (h':=hh) (g':=g) (d':=d) (t':=t) (ch:=[]) un hok bare (fun b z => absurd z (by simp)),r,q⟩
end
def tCall (sp:Sp) (dvs:List V) (E:XK) (t:TA):TE:=fun σ H Q => t σ H fun vs H1 => sp (vs ++ dvs) H1 Q E
def tMeth (C:Addr) (m:Str) (sp:Sp) (dvs:List V) (E:XK) (ta:TE) (t:TA):TE:=fun σ H Q => ta σ H fun x H1 => ∃ a dx fs,x = .ref a /\ H1 a = some (.ins C dx fs) /\ fs.lookup m = none /\
 t σ H1 fun vs H2 => sp (x :: (vs ++ dvs)) H2 Q E
def tMake (C:Addr) (sp:Sp) (dvs:List V) (E:XK) (t:TA):TE:=fun σ H Q => t σ H fun vs H1 => ∀ x dx,H1 x = none -> H1 dx = none -> dx ≠ x ->
 sp (.ref x :: (vs ++ dvs)) (upd (upd H1 dx (.own x)) x (.ins C dx [])) (fun v H2 => v = .non /\ Q (.ref x) H2) E
def Binds (K:PySem.W.Frag) (fd:FuncData) (ps:List Str) (ds:List Value):Prop :=
 ∀ (s:Shared) (us:List Value),K.In s.heap -> (us ++ ds).length = ps.length -> BindsTo s fd ⟨us,[]⟩ (ps.zip (us ++ ds))
theorem Binds.all {K:PySem.W.Frag} {fd:FuncData} {ps:List Str} (h:∀ us:List Value,us.length = ps.length -> bindArgs fd ⟨us,[]⟩ = pure (ps.zip us)):Binds K fd ps []:=fun s us _ hl => by
 rw [List.append_nil] at hl ⊢;exact .of_eq (h us hl)
def Passes (CX:CXT) (X:Cx) (E:XK):Prop:=∀ (pins:List (Addr × Obj)) (σ:St) (H:Hp) (s:Shared) (e:Value) (s':Shared),Inv X pins σ H s -> CX X.stack H s E e s' -> X.xe e s'
section
variable {X:Cx} {CX:CXT} {k:Nat} {f C:Addr} {fd:FuncData} {ps:List Str} {sp:Sp} {dvs:List V} {ds:List Value} {E:XK} {x m:Str} {p pos apos:Pos} {e o:Expr} {es:List Expr} {ta:TE} {t:TA}
theorem run_fn {pins:List (Addr × Obj)} {σ:St} {H:Hp} {s:Shared} {Q:VK} {us:List Value} {vs:List V} (F:FnOk X.prog X.w X.K X.mg X.base CX k f fd ps sp) (hr:Room k X.A) (hb:Binds X.K fd ps ds) (hd:Vals dvs ds) (hx:Passes CX X E)
  (I:Inv X pins σ H s) (r:Vals vs us) (h:sp (vs ++ dvs) H Q E):wpAny (model X.prog X.w) X.A (call (.ref f) us) (EP X pins σ Q) X.xe s:=by
 have r2:Vals (vs ++ dvs) (us ++ ds):=r.append hd;have hl:(us ++ ds).length = ps.length:=by rw [<- r2.length];exact F.len _ _ _ _ h
 refine wpAny_call (codeAny_mono (F.run X.A X.stack s H ⟨us,[]⟩ (us ++ ds) (vs ++ dvs) Q E hr I.env0 (hb s us I.kIn hl) r2 h) fun r s' hq => ?_)
 cases r with
 | error e => exact hx pins σ H s e s' I hq
 | ok fl =>
  cases fl with
  | ret u => exact I.after hq
  | next => exact False.elim hq
  | brk => exact False.elim hq
  | cont => exact False.elim hq
theorem pe_call (F:FnOk X.prog X.w X.K X.mg X.base CX k f fd ps sp) (hr:Room k X.A) (hg:Gl X x) (hm:X.mg x = some (.ref f)) (hk:PySem.W.keepIn X.K (.ref f) = true) (hb:Binds X.K fd ps ds) (hd:Vals dvs ds) (hx:Passes CX X E)
  (ha:PA X (e :: es) t) (hdb:(x == ("__debug__":Str)) = false:=by decide) (he:starEach (e :: es) X.env = (false,eval e X.env) :: starEach es X.env:=by rfl) (hpl:(backTo pos (starEach es X.env)).any (·.1) = false:=by rfl) :
  PE X (.Call (.Name x p) (e :: es) [] pos) (tCall sp dvs E t):=by
 intro pins s σ H Q I h;refine wpAny_Call_Name_kw (ld_glob I hg hm ?_ hdb);refine PySem.W.callWith_K (h₀:=X.base) I.ok.mod.kin hk (thn (ha pos pins s σ H _ I h) fun us s1 ⟨vs,H1,I1,r,q⟩ => ⟨I1.kIn,?_⟩) he hpl;exact run_fn F hr hb hd hx I1 r q
theorem pe_call0 (F:FnOk X.prog X.w X.K X.mg X.base CX k f fd ps sp) (hr:Room k X.A) (hg:Gl X x) (hm:X.mg x = some (.ref f)) (hk:PySem.W.keepIn X.K (.ref f) = true) (hb:Binds X.K fd ps ds) (hd:Vals dvs ds) (hx:Passes CX X E)
  (hdb:(x == ("__debug__":Str)) = false:=by decide):PE X (.Call (.Name x p) [] [] pos) (tCall sp dvs E tNil):=by
 intro pins s σ H Q I h;refine wpAny_Call_Name_kw (ld_glob I hg hm ?_ hdb);exact PySem.W.callWith_K0 I.kIn hk (run_fn (us:=[]) F hr hb hd hx I .nil h)
theorem pe_meth {pl:Sem Bool} (he:PE X o ta) (c:Cls X.K C) (hm:Meth X.K C m f) (F:FnOk X.prog X.w X.K X.mg X.base CX k f fd ps sp) (hr:Room k X.A) (hb:Binds X.K fd ps ds) (hd:Vals dvs ds) (hx:Passes CX X E) (ha:PA X (e :: es) t)
  (hst:starEach (e :: es) X.env = (false,eval e X.env) :: starEach es X.env:=by rfl) (hpl:(backTo pos (starEach es X.env)).any (·.1) = false:=by rfl)
  (ht:eval (.Call (.Attribute o m apos) (e :: es) [] pos) X.env = (do
   let ov <- eval o X.env
   standAt apos.atName
   let (f,first) <- holding [ov] (getMethod ov m pl)
   callWith pos f first (backTo pos (starEach (e :: es) X.env)) (backToKw pos (keywordEach [] X.env))):=by rfl) :
  PE X (.Call (.Attribute o m apos) (e :: es) [] pos) (tMeth C m sp dvs E ta t):=by
 intro pins s σ H Q I h;refine PySem.W.methodCall_KW (pl:=pl) (thn (he pins s σ H _ I h) fun u s1 hq47 => ?_) ht;obtain ⟨x,H1,I1,rx,a,dx,fs,ex,ea,l,q⟩:=hq47;subst ex;obtain rfl:u = Value.ref a:=rx;refine getmeth_ok I1 ea c hm l ?_;refine PySem.W.callWith_K (first:=[.ref a]) (h₀:=X.base) I.ok.mod.kin hm.kp (thn (ha pos pins s1 σ H1 _ I1 q) fun us s2 ⟨vs,H2,I2,r,q2⟩ => ⟨I2.kIn,?_⟩) hst hpl
 exact run_fn (us:=.ref a :: us) (vs:=.ref a :: vs) F hr hb hd hx I2 (.cons rfl r) q2
theorem pe_meth0 {pl:Sem Bool} (he:PE X o ta) (c:Cls X.K C) (hm:Meth X.K C m f) (F:FnOk X.prog X.w X.K X.mg X.base CX k f fd ps sp) (hr:Room k X.A) (hb:Binds X.K fd ps ds) (hd:Vals dvs ds) (hx:Passes CX X E)
  (ht:eval (.Call (.Attribute o m apos) [] [] pos) X.env = (do
   let ov <- eval o X.env
   standAt apos.atName
   let (f,first) <- holding [ov] (getMethod ov m pl)
   callWith pos f first (backTo pos (starEach [] X.env)) (backToKw pos (keywordEach [] X.env))):=by rfl) :
  PE X (.Call (.Attribute o m apos) [] [] pos) (tMeth C m sp dvs E ta tNil):=by
 intro pins s σ H Q I h;refine PySem.W.methodCall_KW (pl:=pl) (thn (he pins s σ H _ I h) fun u s1 hq48 => ?_) ht;obtain ⟨x,H1,I1,rx,a,dx,fs,ex,ea,l,q⟩:=hq48;subst ex;obtain rfl:u = Value.ref a:=rx;refine getmeth_ok I1 ea c hm l ?_;exact PySem.W.callWith_K0 (first:=[.ref a]) I1.kIn hm.kp (run_fn (us:=[.ref a]) (vs:=[.ref a]) F hr hb hd hx I1 (.cons rfl .nil) q)
structure Mk (K:PySem.W.Frag) (C f:Addr):Prop where
 makes:PySem.W.makesIn K C = true
 init:PySem.W.findIn K (.ref C) "__init__" = some (some (.ref f))
 fn:PySem.W.isFn K (.ref f) = true
 kp:PySem.W.keepIn K (.ref C) = true
theorem run_make {pins:List (Addr × Obj)} {σ:St} {H:Hp} {s:Shared} {Q:VK} {us:List Value} {vs:List V} (M:Mk X.K C f) (F:FnOk X.prog X.w X.K X.mg X.base CX k f fd ps sp) (hr:Room (k + 1) X.A) (hb:Binds X.K fd ps ds) (hd:Vals dvs ds)
  (hx:Passes CX X E) (I:Inv X pins σ H s) (r:Vals vs us)
  (h:∀ x dx,H x = none -> H dx = none -> dx ≠ x -> sp (.ref x :: (vs ++ dvs)) (upd (upd H dx (.own x)) x (.ins C dx [])) (fun v H2 => v = .non /\ Q (.ref x) H2) E) :
  wpAny (model X.prog X.w) X.A (call (.ref C) us) (EP X pins σ Q) X.xe s:=by
 have hq:=h (s.heap.objs.size + 1) s.heap.objs.size (I.hok.fresh (Nat.le_succ _)) (I.hok.fresh (Nat.le_refl _)) (Nat.ne_of_lt (Nat.lt_succ_self _));have I2:=Inv.made (C:=C) I;have r2:Vals (V.ref (s.heap.objs.size + 1) :: (vs ++ dvs)) (Value.ref (s.heap.objs.size + 1) :: (us ++ ds)):=.cons rfl (r.append hd);have hl:(Value.ref (s.heap.objs.size + 1) :: us ++ ds).length = ps.length:=by
  have e:=r2.length;rw [F.len _ _ _ _ hq] at e;exact e.symm
 refine wpAny_call (make_map (f:=f) I.kIn M.makes M.init (beq_iff_eq.mp M.fn) (codeAny_mono (F.run _ X.stack _ _ ⟨Value.ref (s.heap.objs.size + 1) :: us,[]⟩ (Value.ref (s.heap.objs.size + 1) :: (us ++ ds)) _ _ E (hr.make C us [])
  (I2.env0.make C us []) (hb _ (Value.ref (s.heap.objs.size + 1) :: us) I2.kIn hl) r2 hq) fun r s' hq' => ?_))
 cases r with
 | error e => exact hx pins σ _ _ e s' I2 hq'
 | ok fl =>
  cases fl with
  | ret u =>
   obtain ⟨v,H',I3,rv,ev,q3⟩:=I2.after hq';subst ev;exact ⟨rv,⟨V.ref (s.heap.objs.size + 1),H',I3,rfl,q3⟩⟩
  | next => exact False.elim hq'
  | brk => exact False.elim hq'
  | cont => exact False.elim hq'
theorem pe_make (M:Mk X.K C f) (F:FnOk X.prog X.w X.K X.mg X.base CX k f fd ps sp) (hr:Room (k + 1) X.A) (hg:Gl X x) (hm:X.mg x = some (.ref C)) (hb:Binds X.K fd ps ds) (hd:Vals dvs ds) (hx:Passes CX X E)
  (ha:PA X (e :: es) t) (hdb:(x == ("__debug__":Str)) = false:=by decide) (he:starEach (e :: es) X.env = (false,eval e X.env) :: starEach es X.env:=by rfl) (hpl:(backTo pos (starEach es X.env)).any (·.1) = false:=by rfl) :
  PE X (.Call (.Name x p) (e :: es) [] pos) (tMake C sp dvs E t):=by
 intro pins s σ H Q I h;refine wpAny_Call_Name_kw (ld_glob I hg hm ?_ hdb);refine PySem.W.callWith_K (h₀:=X.base) I.ok.mod.kin M.kp (thn (ha pos pins s σ H _ I h) fun us s1 ⟨vs,H1,I1,r,q⟩ => ⟨I1.kIn,?_⟩) he hpl;exact run_make M F hr hb hd hx I1 r q
end
def PK (X:Cx) (kws:List Keyword) (t:TA):Prop :=
 ∀ (pos:Pos) (pins:List (Addr × Obj)) (s:Shared) (σ:St) (H:Hp) (Q:List V -> Hp -> Prop),Inv X pins σ H s -> t σ H Q -> wpAny (model X.prog X.w) X.A (evalAll ((backToKw pos (keywordEach kws X.env)).map (·.2))) (AP X pins σ Q) X.xe s
section
variable {X:Cx} {CX:CXT} {k:Nat} {f C:Addr} {fd:FuncData} {ps ks:List Str} {sp:Sp} {E:XK} {x m:Str} {p pos apos kpos:Pos} {e o:Expr} {es:List Expr} {kws:List Keyword} {te ta:TE} {t tk:TA} {nm:Option Str}
theorem pk_nil:PK X [] tNil:=fun _ _ _ _ H Q I h => wpAny_evalAll_nil ⟨[],H,I,.nil,h⟩
theorem pk_cons (ha:PE X e te) (hr:PK X kws t):PK X (⟨nm,e,kpos⟩ :: kws) (tCons te t):=by
 intro pos pins s σ H Q I h;show wpAny _ _ (evalAll ((do let v <- eval e X.env;standAt pos;pure v) :: (backToKw pos (keywordEach kws X.env)).map (·.2))) _ _ s
 refine wpAny_evalAll_cons (wpAny_bind (thn (ha pins s σ H _ I h) fun u s1 ⟨x,H1,I1,r1,q1⟩ => wpAny_bind (wpAny_standAt (wpAny_pure ?_))));exact thn (hr pos pins s1 σ H1 _ I1 q1) fun us s2 ⟨xs,H2,I2,r2,q2⟩ => ⟨x :: xs,H2,I2,.cons r1 r2,q2⟩
variable {g:List Value -> List Value -> List Value} {gV:List V -> List V -> List V}
end
structure FnScope (N P:List Str) (sc:Scope):Prop where
 kind:sc.kind = .function
 co:sc.isCoroutine = false
 gen:sc.isGenerator = false
 nd:N.Nodup
 pre:N.take P.length = P
 par:∀ x ∈ P,sc.names.lookup x = some .local \/ sc.names.lookup x = some .cell
 nofree:∀ y ∈ sc.names,y.2 ≠ .free
theorem bindL_out {kindOf:Str -> Option NameKind} {x:Str}:∀ {binds:List (Str × Value)} {m:Str -> Option Value},(∀ v,(x,v) ∉ binds) -> bindL kindOf binds m x = m x
 | [],_,_ => rfl
 | (n,v) :: r,m,h => by
  unfold bindL;rw [bindL_out fun w hw => h w (List.mem_cons_of_mem _ hw)];split
  ·have:x ≠ n:=by rintro rfl;exact h v List.mem_cons_self
   simp [this]
  ·rfl
theorem bindC_out {kindOf:Str -> Option NameKind} {x:Str}:∀ {binds:List (Str × Value)} {m:Str -> Option Value},(∀ v,(x,v) ∉ binds) -> bindC kindOf binds m x = m x
 | [],_,_ => rfl
 | (n,v) :: r,m,h => by
  unfold bindC;rw [bindC_out fun w hw => h w (List.mem_cons_of_mem _ hw)];split
  ·rfl
  ·have:x ≠ n:=by rintro rfl;exact h v List.mem_cons_self
   simp [this]
theorem bindL_get {kindOf:Str -> Option NameKind} {x:Str} {v:Value}:∀ {P:List Str} {vs:List Value} {i:Nat} {m:Str -> Option Value},P.Nodup -> P[i]? = some x -> vs[i]? = some v -> kindOf x = some .local ->
  bindL kindOf (P.zip vs) m x = some v
 | [],_,_,_,_,h,_,_ => by simp at h
 | _ :: _,[],_,_,_,_,h,_ => by simp at h
 | p :: P,w :: vs,0,m,nd,h1,h2,hk => by
  simp at h1 h2;subst h1;subst h2;show bindL kindOf ((p,w) :: P.zip vs) m p = _;unfold bindL;rw [bindL_out fun v hv => (List.nodup_cons.mp nd).1 (List.of_mem_zip hv).1,if_pos hk];simp
 | p :: P,w :: vs,i + 1,m,nd,h1,h2,hk => by
  show bindL kindOf ((p,w) :: P.zip vs) m x = _;unfold bindL;exact bindL_get (i:=i) (List.nodup_cons.mp nd).2 (by simpa using h1) (by simpa using h2) hk
theorem bindC_get {kindOf:Str -> Option NameKind} {x:Str} {v:Value}:∀ {P:List Str} {vs:List Value} {i:Nat} {m:Str -> Option Value},P.Nodup -> P[i]? = some x -> vs[i]? = some v -> kindOf x ≠ some .local ->
  bindC kindOf (P.zip vs) m x = some v
 | [],_,_,_,_,h,_,_ => by simp at h
 | _ :: _,[],_,_,_,_,h,_ => by simp at h
 | p :: P,w :: vs,0,m,nd,h1,h2,hk => by
  simp at h1 h2;subst h1;subst h2;show bindC kindOf ((p,w) :: P.zip vs) m p = _;unfold bindC;rw [bindC_out fun v hv => (List.nodup_cons.mp nd).1 (List.of_mem_zip hv).1,if_neg hk];simp
 | p :: P,w :: vs,i + 1,m,nd,h1,h2,hk => by
  show bindC kindOf ((p,w) :: P.zip vs) m x = _;unfold bindC;exact bindC_get (i:=i) (List.nodup_cons.mp nd).2 (by simpa using h1) (by simpa using h2) hk
def start (N:List Str) (vs:List V):St:=vs.map some ++ List.replicate (N.length - vs.length) none
def cxOf (CX:CXT) (P:Program) (w:World) (K:PySem.W.Frag) (mg:Str -> Option Value) (base:Heap) (N:List Str) (qual:Str) (scope:Scope) (f:Addr) (cd:Value) (A:Around) (outer:List Env) (s:Shared) (H:Hp) (E:XK):Cx where
 prog:=P
 w:=w
 K:=K
 mg:=mg
 base:=base
 A:=A.deeper (envOfC qual scope s.heap.objs.size f cd)
 N:=N
 s₀:=s
 H₀:=H
 env:=envOfC qual scope s.heap.objs.size f cd
 outer:=outer
 stack:=envOfC qual scope s.heap.objs.size f cd :: outer
 ex:=[]
 calm:=true
 fn:=fun _ => true
 pn:=[]
 xe:=fun e s' => wpAny (model P w) (A.deeper (envOfC qual scope s.heap.objs.size f cd)) (leaving (envOfC qual scope s.heap.objs.size f cd) e) (fun _ s'' => CX outer H s E e s'') (fun e' s'' => CX outer H s E e' s'') s'
theorem cell_has {sc:Scope} {n:Nat} {x:Str} (h:sc.names.lookup x = some .cell):∃ c,(cellsFrom n sc.names []).lookup x = some c:=by
 have q:=PySem.W.cellsFrom_some sc.names n [] (.inl h);exact Option.isSome_iff_exists.mp q
theorem inv_start {CX:CXT} {P:Program} {w:World} {K:PySem.W.Frag} {mg:Str -> Option Value} {base:Heap} {N ps:List Str} {qual:Str} {scope:Scope} {f:Addr} {cd:Value} {A:Around} {outer:List Env} {s s1:Shared} {H:Hp} {E:XK} {us:List Value} {vs:List V}
  (S:FnScope N ps scope) (hd:A.handled = none) (e0:Env0 P w K mg base A outer s H) (hl:vs.length = ps.length) (r:Vals vs us)
  (x:InCallC s s.heap.objs.size (bindL (envOfC qual scope s.heap.objs.size f cd).kindOf (ps.zip us) fun _ => none) (cellsFrom (s.heap.objs.size + 1) scope.names []) (bindC (envOfC qual scope s.heap.objs.size f cd).kindOf (ps.zip us) fun _ => none) s1) :
  Inv (cxOf CX P w K mg base N qual scope f cd A outer s H E) [] (start N vs) H s1:=by
 have hpl:ps.length <= N.length:=by have:=congrArg List.length S.pre;rw [List.length_take] at this;lia
 obtain ⟨h1,tk,rfl,hk⟩:=x.done;have noA:∀ b:Addr,b ∉ (cxOf CX P w K mg base N qual scope f cd A outer s H E).ex:=fun b z => absurd (show b ∈ ([]:List Addr) from z) (by simp)
 refine ⟨⟨e0.mod,S.kind,rfl,rfl,Nat.le_refl _,fun y z c h1 h2 => ?_,fun y hy => ?_,fun y c _ h => ?_,fun _ => hd,Around.frames_deeper e0.frames,.inr ⟨rfl,rfl⟩,fun b z => absurd z (noA b),e0.bs,e0.bsz,fun b _ _ => noA b,fun b z => absurd z (noA b),e0.funs,e0.frf,e0.tabs⟩,
  rfl,e0.bare,Un.kept hk,⟨_,x.toInCall.ns,fun i y v h1 h2 h3 => ?_⟩,fun y c h => ⟨_,x.cell y c h⟩,e0.hok.fresh (Nat.le_refl _),fun y c h => ?_,fun p hp => absurd (show p ∈ ([]:List (Addr × Obj)) from hp) (by simp),e0.hok.kept hk,?_⟩
 ·exact name_of_addr x.apart (PySem.mem_of_lookup h1) (PySem.mem_of_lookup h2)
 ·have hy:scope.names.lookup y = some .cell \/ scope.names.lookup y = some .free:=hy;rcases hy with hy | hy
  ·exact cell_has hy
  ·exact absurd rfl (S.nofree _ (PySem.mem_of_lookup hy))
 ·exact Nat.le_of_lt (x.above y c (PySem.mem_of_lookup h))
 ·have hi:i < vs.length:=by
   unfold start at h2;by_cases hi:i < vs.length
   ·exact hi
   ·rw [List.getElem?_append_right (by simpa using hi)] at h2
    rw [List.getElem?_replicate] at h2
    split at h2 <;> cases h2
  have ha:vs[i]? = some v:=by
   unfold start at h2;rw [List.getElem?_append_left (by simpa using hi),List.getElem?_map] at h2
   cases e:vs[i]? with
   | none => rw [e] at h2;cases h2
   | some a => rw [e] at h2;cases h2;rfl
  obtain ⟨u,hu,rv⟩:=r.get ha;have hp:ps[i]? = some y:=by
   rw [<- S.pre,List.getElem?_take_of_lt (by lia)];exact h1
  have ndP:ps.Nodup:=by rw [<- S.pre];exact S.nd.sublist (List.take_sublist _ _)
  refine ⟨u,rv,?_⟩;rcases S.par y (List.mem_of_getElem? hp) with k | k
  ·exact .inl ⟨k,bindL_get ndP hp hu k⟩
  ·obtain ⟨c,e⟩:=cell_has (n:=s.heap.objs.size + 1) k;refine .inr ⟨.inl k,c,e,?_⟩;have q:=x.cell y c e;rw [bindC_get ndP hp hu (by show scope.names.lookup y ≠ _;rw [k];decide)] at q
   exact q
 ·exact e0.hok.fresh (Nat.le_of_lt (x.above y c (PySem.mem_of_lookup h)))
 ·unfold start;show _ = N.length;rw [List.length_append,List.length_map,List.length_replicate];lia
theorem fn_of {CX:CXT} {P:Program} {w:World} {K:PySem.W.Frag} {mg:Str -> Option Value} {base:Heap} {k:Nat} {f:Addr} {name qual:Str} {params:Arguments} {body:List Stmt} {scope:Scope} {dV kV doc pm cdv ct oc:Value} {an od:Option Addr}
  {osl:Array (Option Value)} {N ps:List Str} {sp:Sp} (lk:K.lookup f = some ⟨oc,od,.func (PySem.W.fnOf name qual params body scope dV kV doc pm an cdv ct),osl⟩) (hcd:PySem.W.codeIn K cdv qual = true) (S:FnScope N ps scope)
  (len:∀ vs H Q E,sp vs H Q E -> vs.length = ps.length)
  (hbody:∀ (A:Around) (outer:List Env) (s:Shared) (H:Hp) (vs:List V) (Q:VK) (E:XK),Room k (A.deeper (envOfC qual scope s.heap.objs.size f cdv)) -> sp vs H Q E ->
   ∃ t,PSs (cxOf CX P w K mg base N qual scope f cdv A outer s H E) body t /\ t { nx:=fun _ H' => Q .non H',rt:=Q } (start N vs) H) :
  FnOk P w K mg base CX (k + 1) f (PySem.W.fnOf name qual params body scope dV kV doc pm an cdv ct) ps sp:=by
 refine ⟨len,fun A outer s H args us vs Q E hr e0 hb r hsp => ?_⟩;have hl:=len _ _ _ _ hsp;have KX:K.In s.heap:=e0.mod.kin.keeps fun b o e => (e0.bs b o e).1;have lim:s.heap.NoLimit:=e0.mod.nolimit.keeps fun b o e => (e0.bs b o e).1;have hkind:∀ y ∈ ps.zip us,scope.names.lookup y.1 = some .local \/ (scope.names.lookup y.1 = some .cell /\ ((cellsFrom (s.heap.objs.size + 1) scope.names []).lookup y.1).isSome = true):=fun ⟨n,v⟩ hy => by
  rcases S.par n (List.of_mem_zip hy).1 with q | q
  ·exact .inl q
  ·exact .inr ⟨q,PySem.W.cellsFrom_some _ _ _ (.inl q)⟩
 refine codeAny_call_function hr.depth (KX _ _ lk) rfl S.co S.gen rfl (PySem.W.codeRec_of KX hcd) (hb _ _ _ _ ?_);refine wpAny_newFunctionEnv_cells S.kind hkind fun env he s1 x => ?_;subst he;refine ⟨lim.keeps x.toInCall.keep,codeAny_func ?_⟩;obtain ⟨t,ht,hq⟩:=hbody A outer s H vs Q E (hr.deeper _) hsp;have I:Inv (cxOf CX P w K mg base N qual scope f cdv A outer s H E) [] (start N vs) H s1:=inv_start S hr.hd e0 hl r x;refine wpAny_mono (ht [] s1 (start N vs) H _ I hq) (fun fl s' hs => ?_) fun e s' hs => hs;have fin:∀ {σ':St} {H':Hp} {v:V} {u:Value},Inv (cxOf CX P w K mg base N qual scope f cdv A outer s H E) [] σ' H' s' -> RelV v u -> Q v H' -> CE outer P w H s Q u s' :=
  fun {σ' H' v u} J rv q => ⟨v,H',J.os,J.bare,J.base,J.hok,rv,q⟩
 cases fl with
 | ret u =>
  obtain ⟨v,σ',H',J,rv,q⟩:=hs;exact fin J rv q
 | next =>
  obtain ⟨σ',H',J,q⟩:=hs;exact fin (v:=V.non) (u:=Value.none) J rfl q
 | brk =>
  obtain ⟨_,_,_,q⟩:=hs;exact False.elim q
 | cont =>
  obtain ⟨_,_,_,q⟩:=hs;exact False.elim q
section
variable {X:Cx} {x:Str} {p pos:Pos} {e:Expr} {es:List Expr} {t:TA} {id T:String} {r:List V -> Hp -> VK -> Prop}
def tCB (r:List V -> Hp -> VK -> Prop) (t:TA):TE:=fun σ H Q => t σ H fun vs H1 => r vs H1 Q
theorem pe_callB (hc:CallR X (.builtin id) r) (hg:Gl X x) (hm:X.mg x = none) (hv:bootBuiltins x = some (.builtin id)) (ha:PA X (e :: es) t) (hn:x ≠ "__name__":=by decide) (hdb:(x == ("__debug__":Str)) = false:=by decide)
  (he:starEach (e :: es) X.env = (false,eval e X.env) :: starEach es X.env:=by rfl) (hpl:(backTo pos (starEach es X.env)).any (·.1) = false:=by rfl):PE X (.Call (.Name x p) (e :: es) [] pos) (tCB r t):=by
 intro pins s σ H Q I h;refine wpAny_Call_Name_kw (ld_blt I hg hm hv ?_ hn hdb);exact PyProof.Rows.callWith_builtin1 (thn (ha pos pins s σ H _ I h) fun us s1 ⟨vs,H1,I1,r1,q1⟩ => hc pins s1 σ H1 vs us Q I1 r1 q1) he hpl
theorem pe_callTy (hc:CallR X (.type T) r) (hg:Gl X x) (hm:X.mg x = none) (hv:bootBuiltins x = some (.type T)) (ha:PA X (e :: es) t) (hn:x ≠ "__name__":=by decide) (hdb:(x == ("__debug__":Str)) = false:=by decide)
  (he:starEach (e :: es) X.env = (false,eval e X.env) :: starEach es X.env:=by rfl) (hpl:(backTo pos (starEach es X.env)).any (·.1) = false:=by rfl):PE X (.Call (.Name x p) (e :: es) [] pos) (tCB r t):=by
 intro pins s σ H Q I h;refine wpAny_Call_Name_kw (ld_blt I hg hm hv ?_ hn hdb);exact PyProof.Rows.callWith_type1 (thn (ha pos pins s σ H _ I h) fun us s1 ⟨vs,H1,I1,r1,q1⟩ => hc pins s1 σ H1 vs us Q I1 r1 q1) he hpl
end
end L2
namespace HT
open PySem PyProof.Rows
section
open PySem.SeqAt
open PySem.AutoSeq1 (wpAny_loadPart')
open PySem.MeetsSeq PySem.MeetsSeq2 PySem.MeetsSeq3
end
section
variable {prog:Program} {w:World} {A:Around} {E:Value -> Shared -> Prop} {s:Shared}
theorem cat_tup {t b:Addr} {vs ws:List Value} {Q:Value -> Shared -> Prop} (ht:IsTup s.heap t vs.toArray) (hb:IsTup s.heap b ws.toArray) (hv:vs ≠ [])
  (h1:ws = [] -> Q (.ref t) s) (h2:ws ≠ [] -> Q (.ref s.heap.objs.size) { s with heap:=s.heap.push { cls:=.type "tuple",data:=.seq (vs ++ ws).toArray } })
  (hsz:vs.length + ws.length <= sizeLine):wpAny (model prog w) A (binaryOp .Add (.ref t) (.ref b)) Q E s:=by
 obtain ⟨⟨cls,dd,data,sl⟩,ho,hc,n,hd⟩:=id ht;obtain ⟨⟨cls2,dd2,data2,sl2⟩,ho2,hc2,n2,hd2⟩:=id hb;simp only at hc hd hc2 hd2;subst hc hd hc2 hd2;have e:vs.toArray ++ ws.toArray = (vs ++ ws).toArray:=by simp
 by_cases hw:ws = []
 ·exact concat_meets ⟨_,ho,rfl⟩ ⟨_,ho2,rfl⟩ noFill_tuple_add seq_tuple_add PySem.F.slot_tuple_add PySem.F.entry_tuple_add (PySem.F.args_tuple_add_2 _ _)
   (tuple_addW1 t b vs.toArray ws.toArray n n2 dd dd2 sl sl2 (by simpa using hv) (by simp [hw])) ⟨ho,ho2,h1 hw⟩
 ·refine concat_meets ⟨_,ho,rfl⟩ ⟨_,ho2,rfl⟩ noFill_tuple_add seq_tuple_add PySem.F.slot_tuple_add PySem.F.entry_tuple_add (PySem.F.args_tuple_add_2 _ _)
   (tuple_addW2 t b vs.toArray ws.toArray n n2 dd dd2 sl sl2 (by simpa using hv) (by simpa using hw) (by rw [List.size_toArray,List.size_toArray];exact hsz)) ⟨ho,ho2,?_⟩
  rw [e];exact h2 hw
def sIx (n d:Nat):Option Int -> Nat
 | none => d
 | some v => if v < 0 then (v + (n:Int)).toNat else min v.toNat n
theorem sIx_none (n d:Nat):sIx n d none = d:=rfl
theorem sIx_nat (n d k:Nat):sIx n d (some (k:Int)) = min k n:=by
 show (if (k:Int) < 0 then ((k:Int) + (n:Int)).toNat else min (k:Int).toNat n) = min k n
 rw [if_neg (by lia),Int.toNat_natCast]
theorem sIx_le (n d:Nat) (hd:d <= n) (o:Option Int):sIx n d o <= n:=by
 cases o with
 | none => exact hd
 | some v =>
  show (if v < 0 then (v + (n:Int)).toNat else min v.toNat n) <= n
  by_cases hv:v < 0
  ·rw [if_pos hv];lia
  ·rw [if_neg hv];exact Nat.min_le_right _ _
theorem clip_eq (v:Int) (n d:Nat):(if v < 0 then max (v + (n:Int)) 0 else min v (n:Int)) = ((sIx n d (some v):Nat):Int):=by
 show (if v < 0 then max (v + (n:Int)) 0 else min v (n:Int)) = (((if v < 0 then (v + (n:Int)).toNat else min v.toNat n):Nat):Int)
 by_cases hv:v < 0
 ·simp only [if_pos hv];lia
 ·simp only [if_neg hv];lia
theorem adjust_gen (lo hi:Option Int) (n:Nat):Builtin.Slice.sliceAdjust lo hi 1 (n:Int) = (((sIx n 0 lo:Nat):Int),((sIx n n hi:Nat):Int)):=by
 have h1:¬ ((1:Int) < 0):=by lia
 unfold Builtin.Slice.sliceAdjust;simp only [h1,if_false];refine Prod.ext ?_ ?_
 ·cases lo with
  | none => rfl
  | some v => exact clip_eq v n 0
 ·cases hi with
  | none => rfl
  | some v => exact clip_eq v n n
theorem places_gen (i j:Nat):Builtin.Slice.slicePlaces (i:Int) (j:Int) 1 = j - i:=by
 unfold Builtin.Slice.slicePlaces;have h1:(1:Int) > 0:=by lia
 simp only [h1,if_true,Int.ediv_one]
 split <;> lia
theorem slicePart_ {v:Value} {o:Option Int} {Q:Option Int -> Shared -> Prop} (p:IsPart v o) (h:Q o s):wpAny (model prog w) A (Builtin.Slice.slicePartIndex v) Q E s:=by
 cases p with
 | none => exact slicePart_none h
 | int i t => exact slicePart_int h
theorem sliceApplied_gen {sl:Addr} {vl vu:Value} {lo hi:Option Int} {n:Nat} {Q:Int × Int × Nat -> Shared -> Prop} (hs:s.heap.IsSliceOf sl vl vu .none) (pl:IsPart vl lo) (pu:IsPart vu hi)
  (h:Q (((sIx n 0 lo:Nat):Int),1,sIx n n hi - sIx n 0 lo) s):wpAny (model prog w) A (Builtin.Slice.sliceApplied (.ref sl) (pure (n:Int))) Q E s:=by
 obtain ⟨os,hos,hcs,hds⟩:=id hs;unfold Builtin.Slice.sliceApplied Builtin.Slice.sliceFields;refine wpAny_bind (wpAny_bind (wpAny_field hos hds (x:=vl) rfl (wpAny_bind (wpAny_field hos hds (x:=vu) rfl (wpAny_bind (wpAny_field hos hds (x:=.none) rfl (wpAny_pure ?_)))))));refine wpAny_bind (slicePart_none ?_);show wpAny _ _ (if ((1:Int) == 0) = true then _ else _) _ _ s
 rw [if_neg (by decide)]
 refine wpAny_bind (slicePart_ pl (wpAny_bind (slicePart_ pu (wpAny_bind (wpAny_pure ?_)))));show wpAny _ _ (match Builtin.Slice.sliceAdjust lo hi 1 (n:Int) with | (lo,hi) => pure (lo,(1:Int),Builtin.Slice.slicePlaces lo hi 1)) _ _ s
 rw [adjust_gen lo hi n];show wpAny _ _ (pure (((sIx n 0 lo:Nat):Int),(1:Int),Builtin.Slice.slicePlaces ((sIx n 0 lo:Nat):Int) ((sIx n n hi:Nat):Int) 1)) _ _ s;rw [places_gen];exact wpAny_pure h
theorem pick_gen (xs:Array Value) (i k:Nat):((List.range k).filterMap fun (m:Nat) => xs[((i:Int) + (m:Int) * 1).toNat]?).toArray = ((xs.toList.drop i).take k).toArray:=by
 have e:(fun (m:Nat) => xs[((i:Int) + (m:Int) * 1).toNat]?) = fun m => xs[i + m]?:=by
  funext m
  have:((i:Int) + (m:Int) * 1).toNat = i + m:=by lia
  rw [this]
 rw [e];have:=pick_run xs i k;rw [List.filterMap_map] at this;have e2:((fun x => xs[x]?) ∘ fun x => i + x) = fun m => xs[i + m]?:=rfl;rw [e2] at this;rw [this]
theorem getItem_tuple_cut {t sl:Addr} {items:Array Value} {vl vu:Value} {lo hi:Option Int} {Q:Value -> Shared -> Prop} (ht:IsTup s.heap t items) (hs:s.heap.IsSliceOf sl vl vu .none) (pl:IsPart vl lo) (pu:IsPart vu hi)
  (hw:¬ (sIx items.size 0 lo = 0 /\ sIx items.size items.size hi = items.size))
  (h:Q (.ref s.heap.objs.size) { s with heap:=s.heap.push { cls:=.type "tuple",data:=.seq ((items.toList.drop (sIx items.size 0 lo)).take (sIx items.size items.size hi - sIx items.size 0 lo)).toArray } })
  (hsz:items.size <= sizeLine):wpAny (model prog w) A (getItem (.ref t) (.ref sl)) Q E s:=by
 have htake:sizeOk (.seq ((items.toList.drop (sIx items.size 0 lo)).take (sIx items.size items.size hi - sIx items.size 0 lo)).toArray):=by
  show ((items.toList.drop (sIx items.size 0 lo)).take (sIx items.size items.size hi - sIx items.size 0 lo)).toArray.size <= sizeLine;rw [List.size_toArray,List.length_take,List.length_drop,Array.length_toList];exact Nat.le_trans (Nat.min_le_right _ _) (Nat.le_trans (Nat.sub_le _ _) hsz)
 have hj:sIx items.size items.size hi <= items.size:=sIx_le _ _ (Nat.le_refl _) hi;obtain ⟨os,hos,hcs,hds⟩:=id hs;have hTs:s.TypeIs (.ref sl) "slice":=⟨os,hos,hcs⟩;unfold getItem
 try with_reducible refine wpAny_holding ?_
 first | refine wpAny_bind (wpAny_pure ?_) | skip
 refine wpAny_bind (wpAny_sequenceKey ht.typeIs (by decide) ?_)
 refine wpAny_bind (wpAny_callSpecial?_slot (name:=Str.ofString "__getitem__") ht.typeIs PyProof.Rows.slot_tuple_getitem
  (wpAny_call_entry PyProof.Rows.slot_tuple_getitem ht.typeIs entry_tuple_getitem ?_ (args_tuple_getitem _ _)))
 show wpAny _ _ (Builtin.Tuple.tupleItemsOf (.ref t) >>= _) _ _ s;refine wpAny_bind (tupleItemsOf_ ht ?_);refine wpAny_bind (wpAny_typeOf hTs ?_);rw [if_pos (by decide)]
 refine wpAny_bind (sliceApplied_gen hs pl pu ?_);have hno:¬ ((((sIx items.size 0 lo:Nat):Int) == 0 && (1:Int) == 1 && (sIx items.size items.size hi - sIx items.size 0 lo) == items.size) = true):=by
  intro q;rw [Bool.and_eq_true,Bool.and_eq_true] at q;have q1:((sIx items.size 0 lo:Nat):Int) = 0:=eq_of_beq q.1.1;have q2:sIx items.size items.size hi - sIx items.size 0 lo = items.size:=eq_of_beq q.2;exact hw ⟨by lia,by lia⟩
 show wpAny _ _ (if (((sIx items.size 0 lo:Nat):Int) == 0 && (1:Int) == 1 && (sIx items.size items.size hi - sIx items.size 0 lo) == items.size) = true then _ else _) _ _ s
 rw [if_neg hno,pick_gen]
 first
  | exact wpAny_bind (m:=Builtin.Tuple.tupleExact _) (wpAny_newObj_type (wpAny_pure ⟨_,rfl,wpAny_pure h⟩) htake)
  | exact wpAny_bind (m:=Builtin.Tuple.tupleExact _) (wpAny_newObj_type (wpAny_bind (wpAny_pure (wpAny_pure ⟨_,rfl,wpAny_pure h⟩))) htake)
  | exact wpAny_bind (wpAny_bind (m:=Builtin.Tuple.tupleExact _) (wpAny_newObj_type (wpAny_pure (wpAny_pure ⟨_,rfl,wpAny_pure h⟩)) htake))
  | exact wpAny_bind (wpAny_bind (m:=Builtin.Tuple.tupleExact _) (wpAny_newObj_type (wpAny_pure ⟨_,rfl,wpAny_pure h⟩) htake))
end
end HT
namespace L2
open PySem PySem.Spec PyProof.Rows
abbrev TO:=St -> Hp -> (Option Int -> Hp -> Prop) -> Prop
def PO (X:Cx) (e:Option Expr) (t:TO):Prop :=
 ∀ (pins:List (Addr × Obj)) (s:Shared) (σ:St) (H:Hp) (Q:Option Int -> Hp -> Prop),Inv X pins σ H s -> t σ H Q ->
  wpAny (model X.prog X.w) X.A (evalPart e X.env) (fun u s' => ∃ o H',Inv X pins σ H' s' /\ IsPart u o /\ Q o H') X.xe s
def tNoPart:TO:=fun _ H Q => Q none H
def tPart (t:TE):TO:=fun σ H Q => t σ H fun x H1 => ∃ i,x = .int i /\ Q (some i) H1
theorem intsAre_of {ns:List Int}:∀ {us:List Value},Vals (ns.map V.int) us -> IntsAre us ns:=by
 induction ns with
 | nil => intro us r;rw [List.map_nil] at r;cases r;exact .nil
 | cons n ns ih =>
  intro us r;rw [List.map_cons] at r
  cases r with
  | cons r1 r2 =>
   obtain ⟨t,e⟩:=r1;subst e;exact .cons n t (ih r2)
section
variable {X:Cx} {e:Expr} {te:TE} {lo hi:Option Expr} {tl th:TO} {pos p2:Pos}
theorem po_none:PO X none tNoPart:=by
 intro pins s σ H Q I h;rw [evalPart_none];exact wpAny_pure ⟨none,H,I,.none,h⟩
theorem po_some (h:PE X e te):PO X (some e) (tPart te):=by
 intro pins s σ H Q I hw;rw [evalPart_some];refine thn (h pins s σ H _ I hw) fun u s1 hq50 => ?_;obtain ⟨x,H1,I1,r1,q1⟩:=hq50;obtain ⟨i,rfl,q⟩:=q1;obtain ⟨t,rfl⟩:=r1;exact ⟨some i,H1,I1,.int i t,q⟩
def SlR (X:Cx) (r:V -> Option Int -> Option Int -> Hp -> VK -> Prop):Prop :=
 ∀ (pins:List (Addr × Obj)) (s:Shared) (σ:St) (H:Hp) (x:V) (v vl vu:Value) (lo hi:Option Int) (sl:Addr) (Q:VK),Inv X pins σ H s -> RelV x v -> s.heap.IsSliceOf sl vl vu .none -> IsPart vl lo -> IsPart vu hi -> r x lo hi H Q ->
  ∃ T id,typeLookup (.type T) "__getitem__" = pure (some (.builtin id)) /\ s.TypeIs v T /\ wpAny (model X.prog X.w) X.A (getItem v (.ref sl)) (EP X pins σ Q) X.xe s
def tSl (r:V -> Option Int -> Option Int -> Hp -> VK -> Prop) (te:TE) (tl th:TO):TE:=fun σ H Q => te σ H fun x H1 => tl σ H1 fun l H2 => th σ H2 fun u H3 => r x l u H3 Q
theorem pe_slice {r:V -> Option Int -> Option Int -> Hp -> VK -> Prop} (hr:SlR X r) (he:PE X e te) (hl:PO X lo tl) (hu:PO X hi th):PE X (.Subscript e (.Slice lo hi none p2) pos) (tSl r te tl th):=by
 intro pins s σ H Q I h;refine Subscript_ (thn (he pins s σ H _ I h) fun v s1 hq51 => ?_);obtain ⟨x,H1,I1,r1,q1⟩:=hq51;refine wpAny_Slice (thn (hl pins s1 σ H1 _ I1 q1) fun vl s2 ⟨l,H2,I2,pl,q2⟩ => thn (hu pins s2 σ H2 _ I2 q2) fun vu s3 hq52 => ?_);obtain ⟨u,H3,I3,pu,q3⟩:=hq52;rw [evalPart_none];refine wpAny_pure ?_;have I4:Inv X pins σ H3 { s3 with heap:=s3.heap.push { cls:=.type "slice",data:=.fields #[vl,vu,.none] } }:=I3.kept (t':=s3.toks) fun b ob q => Heap.get?_push_of_some _ q
 obtain ⟨T,id,hT,ht,hg⟩:=hr pins { s3 with heap:=s3.heap.push { cls:=.type "slice",data:=.fields #[vl,vu,.none] } } σ H3 x v vl vu l u s3.heap.objs.size Q I4 r1 (Heap.IsSliceOf.new ..) pl pu q3
 show wpAny (model X.prog X.w) X.A (subscriptTail e (.Slice lo hi none p2) v (.ref s3.heap.objs.size)) (EP X pins σ Q) X.xe { s3 with heap:=s3.heap.push { cls:=.type "slice",data:=.fields #[vl,vu,.none] } }
 exact tail_any (ops:=[.ref s3.heap.objs.size,v]) ht hT hg (by with_unfolding_all rfl)
def cutV (xs:List V) (lo hi:Option Int):List V:=(xs.drop (HT.sIx xs.length 0 lo)).take (HT.sIx xs.length xs.length hi - HT.sIx xs.length 0 lo)
theorem cutV_length (xs:List V) (lo hi:Option Int):(cutV xs lo hi).length <= xs.length:=by
 unfold cutV;rw [List.length_take,List.length_drop];exact Nat.le_trans (Nat.min_le_right _ _) (Nat.sub_le _ _)
def rSlT (K:PySem.W.Frag):V -> Option Int -> Option Int -> Hp -> VK -> Prop:=fun x lo hi H Q => ∃ a xs,x = .ref a /\ SqT K H a xs /\
 ¬ (HT.sIx xs.length 0 lo = 0 /\ HT.sIx xs.length xs.length hi = xs.length) /\ ∀ p,H p = none -> Q (.ref p) (upd H p (.tup (cutV xs lo hi)))
theorem sl_tup:SlR X (rSlT X.K):=by
 intro pins s σ H x v vl vu lo hi sl Q I rx hs pl pu h;obtain ⟨a,xs,rfl,hx,hw,q⟩:=h;cases rx;obtain ⟨its,r,ht,hz⟩:=I.tuple hx;have hlen:its.toArray.size = xs.length:=by rw [List.size_toArray];exact r.length.symm
 refine ⟨"tuple",_,PyProof.Rows.slot_tuple_getitem.lookup,ht.typeIs,?_⟩;refine HT.getItem_tuple_cut ht hs pl pu (by rw [hlen];exact hw) ?_ (by rw [hlen];exact hz)
 rw [hlen];refine ⟨.ref s.heap.objs.size,_,I.laid (t':=s.toks) (o:=.tup (cutV xs lo hi)) (fun b ob q => Heap.get?_push_of_some _ q) (Nat.le_refl _) ?_,rfl,q _ (I.hok.fresh (Nat.le_refl _))⟩;exact ⟨Nat.le_trans (cutV_length xs lo hi) hz,_,(r.drop (HT.sIx xs.length 0 lo)).take (HT.sIx xs.length xs.length hi - HT.sIx xs.length 0 lo),IsTupD.new _ _⟩
def rCatT (K:PySem.W.Frag):R2:=fun x y H Q => ∃ a b xs ys,x = .ref a /\ y = .ref b /\ SqT K H a xs /\ SqT K H b ys /\ xs ≠ [] /\ xs.length + ys.length <= sizeLine /\
 (ys = [] -> Q (.ref a) H) /\ (ys ≠ [] -> ∀ p,H p = none -> Q (.ref p) (upd H p (.tup (xs ++ ys))))
theorem Vals.nil_iff {xs:List V} {us:List Value} (r:Vals xs us):us = [] ↔ xs = []:=by
 cases r with
 | nil => simp
 | cons _ _ => simp
theorem op_catT:OpR X (binaryOp .Add) (rCatT X.K):=by
 intro pins s σ H x y v u Q I rx ry h;obtain ⟨a,b,xs,ys,rfl,rfl,ha,hb,hx,hz,q1,q2⟩:=h;cases rx;cases ry;obtain ⟨its,r1,p1,_⟩:=I.tuple ha;obtain ⟨its2,r2,p2,_⟩:=I.tuple hb;refine HT.cat_tup p1 p2 (fun z => hx (r1.nil_iff.mp z)) (fun z => ⟨.ref a,H,I,rfl,q1 (r2.nil_iff.mp z)⟩) (fun z => ?_) (by rw [<- r1.length,<- r2.length];exact hz)
 refine ⟨.ref s.heap.objs.size,_,I.laid (t':=s.toks) (o:=.tup (xs ++ ys)) (fun b ob q => Heap.get?_push_of_some _ q) (Nat.le_refl _) ?_,rfl,q2 (fun w => z (r2.nil_iff.mpr w)) _ (I.hok.fresh (Nat.le_refl _))⟩;exact ⟨by rw [List.length_append];exact hz,_,r1.append r2,IsTupD.new _ _⟩
end
def ixN (n:Nat) (i:Int):Option Nat:=if 0 <= i then (if i < n then some i.toNat else none) else if -(n:Int) <= i then some (i + n).toNat else none
def atI {α:Type} (xs:List α) (i:Int):Option α:=(ixN xs.length i).bind fun j => xs[j]?
theorem ixN_seq {n:Nat} {i:Int} {j:Nat} (h:ixN n i = some j):seqIndex? i n = some j /\ j < n /\ -(n:Int) <= i /\ i < n:=by
 unfold ixN at h;by_cases h0:0 <= i
 ·rw [if_pos h0] at h;by_cases h1:i < n
  ·rw [if_pos h1] at h;have e:i.toNat = j:=Option.some.inj h;exact ⟨by rw [seqIndex_of h0 h1,e],by lia,by lia,h1⟩
  ·rw [if_neg h1] at h;cases h
 ·rw [if_neg h0] at h;by_cases h1:-(n:Int) <= i
  ·rw [if_pos h1] at h;have e:(i + n).toNat = j:=Option.some.inj h;exact ⟨by rw [seqIndex_neg (by lia) h1,e],by lia,h1,by lia⟩
  ·rw [if_neg h1] at h;cases h
theorem atI_get {α:Type} {xs:List α} {i:Int} {v:α} (h:atI xs i = some v):∃ j,seqIndex? i xs.length = some j /\ xs[j]? = some v /\ j < xs.length /\ -(xs.length:Int) <= i /\ i < xs.length:=by
 unfold atI at h
 cases e:ixN xs.length i with
 | none => rw [e] at h;cases h
 | some j =>
  rw [e] at h;obtain ⟨h1,h2,h3,h4⟩:=ixN_seq e;exact ⟨j,h1,h,h2,h3,h4⟩
theorem atI_nat {α:Type} {xs:List α} {j:Nat} {v:α} (h:xs[j]? = some v):atI xs (j:Int) = some v:=by
 have hj:j < xs.length:=(List.getElem?_eq_some_iff.mp h).1;have e:ixN xs.length (j:Int) = some j:=by
  unfold ixN;rw [if_pos (by lia),if_pos (by lia)];simp
 unfold atI;rw [e];exact h
def PlainIx (b:Expr):Prop:=∀ o i,subscripted b false o i = operate [o,i] (getItem o i)
def IxR (X:Cx) (r:R2):Prop :=
 ∀ (value slice:Expr) (pins:List (Addr × Obj)) (s:Shared) (σ:St) (H:Hp) (x y:V) (v u:Value) (Q:VK),Inv X pins σ H s -> RelV x v -> RelV y u -> r x y H Q ->
  subscripted slice false v u = operate [v,u] (getItem v u) -> wpAny (model X.prog X.w) X.A (subscriptTail value slice v u) (EP X pins σ Q) X.xe s
def MtR (X:Cx) (id:String) (r:V -> List V -> Hp -> VK -> Prop):Prop :=
 ∀ (pins:List (Addr × Obj)) (s:Shared) (σ:St) (H:Hp) (x:V) (xs:List V) (v:Value) (us:List Value) (Q:VK),Inv X pins σ H s -> RelV x v -> Vals xs us -> r x xs H Q ->
  wpAny (model X.prog X.w) X.A (call (.builtin id) (v :: us)) (EP X pins σ Q) X.xe s
section
variable {X:Cx} {a b:Expr} {ta tb:TE} {pos:Pos}
theorem IxR.or {r r':R2} (h:IxR X r) (h':IxR X r'):IxR X (fun x y H Q => r x y H Q \/ r' x y H Q):=by
 intro value slice pins s σ H x y v u Q I rx ry q hs;rcases q with q | q
 ·exact h value slice pins s σ H x y v u Q I rx ry q hs
 ·exact h' value slice pins s σ H x y v u Q I rx ry q hs
theorem pe_ix {r:R2} (hr:IxR X r) (ha:PE X a ta) (hb:PE X b tb) (hs:PlainIx b):PE X (.Subscript a b pos) (tOp r ta tb):=by
 intro pins s σ H Q I h;exact Subscript_ (binT ha hb I h fun v u s2 x y H2 I2 rx ry q => hr a b pins s2 σ H2 x y v u Q I2 rx ry q (hs _ _))
def rIxL (K:PySem.W.Frag):R2:=fun x y H Q => ∃ p xs i v,x = .ref p /\ y = .int i /\ SqL K H p xs /\ atI xs i = some v /\ Q v H
def rIxT (K:PySem.W.Frag):R2:=fun x y H Q => ∃ p xs i v,x = .ref p /\ y = .int i /\ SqT K H p xs /\ atI xs i = some v /\ Q v H
def rIxS:R2:=fun x y H Q => ∃ z i c,x = .str z /\ y = .int i /\ z.length <= sizeLine /\ atI z.cps.toList i = some c /\ Q (.str ⟨#[c]⟩) H
theorem ix_list:IxR X (rIxL X.K):=by
 intro value slice pins s σ H x y v u Q I rx ry h hs;obtain ⟨p,xs,i,z,rfl,rfl,hq,he,q⟩:=h;cases rx;obtain ⟨t,rfl⟩:=ry;obtain ⟨its,r,pl,hz⟩:=I.list hq;obtain ⟨j,h1,h2,h3,h4,h5⟩:=atI_get he;obtain ⟨w,ew,rw'⟩:=r.get h2;have hl:=r.length;have hn:=line63;have fin:EP X pins σ Q w s:=⟨z,H,I,rw',q⟩;by_cases h0:0 <= i
 ·have hj:i.toNat = j:=by
   rw [seqIndex_of h0 h5] at h1;exact Option.some.inj h1
  exact item_listR pl.isList h0 (by lia) (by rw [hj];simpa using ew) fin hs
 ·have hj:(i + (its.toArray.size:Int)).toNat = j:=by
   rw [seqIndex_neg (by lia) h4] at h1
   rw [List.size_toArray,<- hl];exact Option.some.inj h1
  exact subscriptTail_builtinR (x:=w) pl.isList.typeIs slot_list_getitem.lookup
   (wpAny_getItem_list_neg (Q:=fun r s' => r = w /\ EP X pins σ Q r s') pl.isList (by lia) (by rw [List.size_toArray] <;> lia) (by lia) (by rw [hj];simpa using ew) ⟨rfl,fin⟩) hs
theorem ix_tup:IxR X (rIxT X.K):=by
 intro value slice pins s σ H x y v u Q I rx ry h hs;obtain ⟨p,xs,i,z,rfl,rfl,hq,he,q⟩:=h;cases rx;obtain ⟨t,rfl⟩:=ry;obtain ⟨its,r,pl,hz⟩:=I.tuple hq;obtain ⟨j,h1,h2,h3,h4,h5⟩:=atI_get he;obtain ⟨w,ew,rw'⟩:=r.get h2;have hl:=r.length;have hn:=line63;have fin:EP X pins σ Q w s:=⟨z,H,I,rw',q⟩;exact subscriptTail_builtinR (x:=w) pl.typeIs slot_tuple_getitem.lookup
  (getItem_tuple (j:=j) (Q:=fun r s' => r = w /\ EP X pins σ Q r s') pl (by lia) (by lia) (by rw [List.size_toArray,<- hl];exact h1) (by simpa using ew) ⟨rfl,fin⟩) hs
theorem ix_str:IxR X rIxS:=by
 intro value slice pins s σ H x y v u Q I rx ry h hs;obtain ⟨z,i,c,rfl,rfl,hz,he,q⟩:=h;obtain ⟨t,rfl⟩:=rx;obtain ⟨t',rfl⟩:=ry;obtain ⟨j,h1,h2,h3,h4,h5⟩:=atI_get he;have hl:z.cps.toList.length = z.length:=by simp [Str.length]
 rw [hl] at h1 h4 h5;have hn:=line63;exact tail_any (typeIs_str s z t) slot_str_getitem.lookup (getItem_str (c:=c) (by
  have e1:decide (i < -(2 ^ 63:Int)) = false:=decide_eq_false (by lia)
  have e2:decide (i >= 2 ^ 63) = false:=decide_eq_false (by lia)
  rw [e1,e2,Bool.or_false]) (by rw [h1];simpa using h2) ⟨.str ⟨#[c]⟩,H,I.tok _,⟨_,rfl⟩,q⟩) hs
def rIx (K:PySem.W.Frag):R2:=fun x y H Q => rIxL K x y H Q \/ rIxT K x y H Q \/ rIxS x y H Q
theorem ix_seq:IxR X (rIx X.K):=ix_list.or (ix_tup.or ix_str)
theorem mapSeq_set (its:List Value) (n j:Nat) (u:Value):Obj.mapSeq (·.setIfInBounds j u) { cls:=.type "list",data:=.seq its.toArray n } = { cls:=.type "list",data:=.seq (its.set j u).toArray n }:=by
 simp [Obj.mapSeq]
theorem Inv.lst {pins:List (Addr × Obj)} {σ:St} {H:Hp} {s:Shared} {p:Addr} {xs:List V} (I:Inv X pins σ H s) (h:H p = some (.lst xs)) :
  ∃ (its:List Value) (n:Nat),Vals xs its /\ s.heap.get? p = some { cls:=.type "list",data:=.seq its.toArray n } /\ xs.length <= sizeLine:=by
 obtain ⟨z,its,n,r,e⟩:=I.hok p _ h;exact ⟨its,n,r,e,z⟩
theorem Inv.lstUpd {pins:List (Addr × Obj)} {σ:St} {H:Hp} {s:Shared} {p:Addr} {xs ys:List V} {its its':List Value} {n n':Nat} {f:Obj -> Obj} (I:Inv X pins σ H s) (h:H p = some (.lst xs))
  (ho:s.heap.get? p = some { cls:=.type "list",data:=.seq its.toArray n }) (hf:f { cls:=.type "list",data:=.seq its.toArray n } = { cls:=.type "list",data:=.seq its'.toArray n' }) (r:Vals ys its') (hz:ys.length <= sizeLine) (t:Nat) :
  Inv X pins σ (upd H p (.lst ys)) { s with heap:=s.heap.update p f,toks:=t }:=by
 have e:(s.heap.update p f).get? p = some { cls:=.type "list",data:=.seq its'.toArray n' }:=by
  rw [Heap.get?_update_self f ho (by rw [hf] <;> rfl),hf]
 refine I.write (x:=p) (e:=p) (by rw [h];trivial) (.inl rfl) (fun b u hb q => (Heap.get?_update_other _ _ (Ne.symm hb)).trans q) ⟨_,e⟩ ?_
 exact ⟨hz,its',n',r,e⟩
def rSetL:V -> V -> V -> Hp -> (Hp -> Prop) -> Prop:=fun o i v H Q => ∃ p xs k j,o = .ref p /\ i = .int k /\ H p = some (.lst xs) /\ ixN xs.length k = some j /\ Q (upd H p (.lst (xs.set j v)))
theorem set_list:PSet X rSetL:=by
 intro pins s σ H o i v ov iv u Q I ro ri rv h;obtain ⟨p,xs,k,j,rfl,rfl,hp,hj,q⟩:=h;cases ro;obtain ⟨t,rfl⟩:=ri;obtain ⟨its,n,r,ho,hz⟩:=I.lst hp;obtain ⟨h1,h2,h3,h4⟩:=ixN_seq hj;have hl:=r.length;have hn:=line63;have I':Inv X pins σ (upd H p (.lst (xs.set j v))) { s with heap:=s.heap.update p (Obj.mapSeq (·.setIfInBounds j u)) } :=
  I.lstUpd hp ho (mapSeq_set its n j u) (r.set rv j) (by rw [List.length_set];exact hz) s.toks
 by_cases h0:0 <= k
 ·have hk:k.toNat = j:=by
   rw [seqIndex_of h0 h4] at h1;exact Option.some.inj h1
  exact PySem.W.ki_setAt ho h0 (by lia) (by rw [List.size_toArray,<- hl];exact h4) (by rw [hk];exact ⟨_,I',q⟩)
 ·have hk:(k + (its.toArray.size:Int)).toNat = j:=by
   rw [seqIndex_neg (by lia) h3] at h1
   rw [List.size_toArray,<- hl];exact Option.some.inj h1
  exact PySem.W.ki_setBack ho (by lia) (by rw [List.size_toArray,<- hl];exact h3) (by lia) (by rw [hk];exact ⟨_,I',q⟩)
theorem slice_bounds (lo hi:Option Int) (n:Nat):(sliceBounds lo hi none n).1 = ((HT.sIx n 0 lo:Nat):Int) /\ (sliceBounds lo hi none n).2.1 = ((HT.sIx n n hi:Nat):Int) /\ (sliceBounds lo hi none n).2.2 = 1:=by
 refine ⟨?_,?_,rfl⟩
 ·cases lo with
  | none => simp [sliceBounds,HT.sIx]
  | some i =>
   simp only [sliceBounds,HT.sIx,Option.getD_none,show (1:Int) > 0 by decide,if_true]
   by_cases h:i < 0
   ·simp only [h,if_true] <;> lia
   ·simp only [h,if_false] <;> lia
 ·cases hi with
  | none => simp [sliceBounds,HT.sIx]
  | some i =>
   simp only [sliceBounds,HT.sIx,Option.getD_none,show (1:Int) > 0 by decide,if_true]
   by_cases h:i < 0
   ·simp only [h,if_true] <;> lia
   ·simp only [h,if_false] <;> lia
theorem slicePick_cut (its:List Value) (lo hi:Option Int):slicePick its.toArray lo hi none = ((its.drop (HT.sIx its.length 0 lo)).take (HT.sIx its.length its.length hi - HT.sIx its.length 0 lo)).toArray:=by
 obtain ⟨h1,h2,h3⟩:=slice_bounds lo hi its.toArray.size;unfold slicePick;rw [h1,h2,h3];simp only [sliceRange_one,pick_run,List.size_toArray] <;> rfl
def rSlL (K:PySem.W.Frag):V -> Option Int -> Option Int -> Hp -> VK -> Prop:=fun x lo hi H Q => ∃ a xs,x = .ref a /\ SqL K H a xs /\ ∀ p,H p = none -> Q (.ref p) (upd H p (.lst (cutV xs lo hi)))
theorem sl_list:SlR X (rSlL X.K):=by
 intro pins s σ H x v vl vu lo hi sl Q I rx hs pl pu h;obtain ⟨a,xs,rfl,hx,q⟩:=h;cases rx;obtain ⟨its,r,ht,hz⟩:=I.list hx;have hlen:=r.length;refine ⟨"list",_,slot_list_getitem.lookup,ht.isList.typeIs,?_⟩;refine wpAny_getItem_list_slice ht.isList hs pl pu .none (by simp) ?_ (by rw [List.size_toArray] <;> lia)
 rw [slicePick_cut,<- hlen];refine ⟨.ref s.heap.objs.size,_,I.laid (t':=s.toks) (o:=.lst (cutV xs lo hi)) (fun b ob q => Heap.get?_push_of_some _ q) (Nat.le_refl _) ?_,rfl,q _ (I.hok.fresh (Nat.le_refl _))⟩;exact ⟨Nat.le_trans (cutV_length xs lo hi) hz,_,0,(r.drop (HT.sIx xs.length 0 lo)).take (HT.sIx xs.length xs.length hi - HT.sIx xs.length 0 lo),Heap.get?_push_size _ rfl⟩
def flatV:V -> Bool
 | .non => true
 | .bl _ => true
 | .int _ => true
 | .str _ => true
 | _ => false
def eqV:V -> V -> Bool
 | .non,.non => true
 | .bl a,.bl b => a == b
 | .bl a,.int b => (if a then 1 else 0) == b
 | .int a,.bl b => a == (if b then 1 else 0)
 | .int a,.int b => a == b
 | .str a,.str b => a == b
 | _,_ => false
theorem eqAt_V {A:Around} {s:Shared} {y x:V} {u v:Value} (ry:RelV y u) (rx:RelV x v) (fy:flatV y = true) (fx:flatV x = true):SeqAt.EqAt A s u v (eqV y x):=by
 cases y with
 | non =>
  cases ry
  cases x with
  | non => cases rx;exact SeqAt.EqAt.same _
  | bl b => cases rx;exact SeqAt.EqAt.none_bool b
  | int b => obtain ⟨t,rfl⟩:=rx;exact SeqAt.EqAt.none_int b t
  | str b => obtain ⟨t,rfl⟩:=rx;exact SeqAt.EqAt.none_str b t
  | _ => exact absurd (show false = true from fx) Bool.false_ne_true
 | bl a =>
  cases ry
  cases x with
  | non => cases rx;exact SeqAt.EqAt.bool_none a
  | bl b => cases rx;exact SeqAt.EqAt.bool_bool a b
  | int b => obtain ⟨t,rfl⟩:=rx;exact SeqAt.EqAt.bool_int a b t
  | str b => obtain ⟨t,rfl⟩:=rx;exact SeqAt.EqAt.bool_str a b t
  | _ => exact absurd (show false = true from fx) Bool.false_ne_true
 | int a =>
  obtain ⟨t',rfl⟩:=ry
  cases x with
  | non => cases rx;exact SeqAt.EqAt.int_none a t'
  | bl b => cases rx;exact SeqAt.EqAt.int_bool a t' b
  | int b => obtain ⟨t,rfl⟩:=rx;exact SeqAt.EqAt.int_int a t' b t
  | str b => obtain ⟨t,rfl⟩:=rx;exact SeqAt.EqAt.int_str a t' b t
  | _ => exact absurd (show false = true from fx) Bool.false_ne_true
 | str a =>
  obtain ⟨t',rfl⟩:=ry
  cases x with
  | non => cases rx;exact SeqAt.EqAt.str_none a t'
  | bl b => cases rx;exact SeqAt.EqAt.str_bool a t' b
  | int b => obtain ⟨t,rfl⟩:=rx;exact SeqAt.EqAt.str_int a t' b t
  | str b => obtain ⟨t,rfl⟩:=rx;exact SeqAt.EqAt.str_str a t' b t
  | _ => exact absurd (show false = true from fx) Bool.false_ne_true
 | _ => exact absurd (show false = true from fy) Bool.false_ne_true
def eqU (x:V) (u:Value):Bool:=match u with
 | .none => eqV .non x
 | .bool b => eqV (.bl b) x
 | .int i _ => eqV (.int i) x
 | .str z _ => eqV (.str z) x
 | _ => false
theorem eqU_of {x y:V} {u:Value} (r:RelV y u) (f:flatV y = true):eqU x u = eqV y x:=by
 cases y with
 | non => cases r;rfl
 | bl b => cases r;rfl
 | int i => obtain ⟨t,rfl⟩:=r;rfl
 | str z => obtain ⟨t,rfl⟩:=r;rfl
 | _ => exact absurd (show false = true from f) Bool.false_ne_true
theorem any_eqU {x:V}:∀ {xs:List V} {us:List Value},Vals xs us -> xs.all flatV = true -> us.any (eqU x) = xs.any fun y => eqV y x
 | _,_,.nil,_ => rfl
 | y :: xs,u :: us,.cons r t,f => by
  rw [List.all_cons,Bool.and_eq_true] at f;rw [List.any_cons,List.any_cons,eqU_of r f.1,any_eqU t f.2]
theorem mem_eqAt {A:Around} {s:Shared} {x:V} {v:Value} (rx:RelV x v) (fx:flatV x = true):∀ {xs:List V} {us:List Value},Vals xs us -> xs.all flatV = true -> ∀ u ∈ us,SeqAt.EqAt A s u v (eqU x u)
 | _,_,.nil,_ => fun u hu => by cases hu
 | y :: xs,u :: us,.cons r t,f => fun u' hu => by
  rw [List.all_cons,Bool.and_eq_true] at f;rcases List.mem_cons.mp hu with rfl | hu
  ·rw [eqU_of r f.1];exact eqAt_V r rx f.1 fx
  ·exact mem_eqAt rx fx t f.2 u' hu
def inV (x:V) (xs:List V):Bool:=xs.any fun y => eqV y x
def rIn (K:PySem.W.Frag) (neg:Bool):R2:=fun x y H Q => ∃ p xs,y = .ref p /\ (SqL K H p xs \/ SqT K H p xs) /\ flatV x = true /\ xs.all flatV = true /\ Q (.bl (if neg then !inV x xs else inV x xs)) H
theorem op_in_seq:OpR X (compareOp .In) (rIn X.K false):=by
 intro pins s σ H x y v u Q I rx ry h;obtain ⟨p,xs,rfl,hq,fx,fs,q⟩:=h;cases ry;rcases hq with hq | hq
 ·obtain ⟨its,r,pl,hz⟩:=I.list hq;refine SeqAt.in_listAt (eqU x) pl.isList (fun w hw => mem_eqAt rx fx r fs w (by simpa using hw)) ⟨.bl _,H,I,rfl,?_⟩
  rw [show its.toArray.any (eqU x) = its.any (eqU x) by simp,any_eqU r fs]
  exact q
 ·obtain ⟨its,r,pl,hz⟩:=I.tuple hq;refine SeqAt.in_tupleAt (eqU x) pl (fun w hw => mem_eqAt rx fx r fs w (by simpa using hw)) ⟨.bl _,H,I,rfl,?_⟩
  rw [show its.toArray.any (eqU x) = its.any (eqU x) by simp,any_eqU r fs]
  exact q
theorem call_list_of:CallR X (.type "list") (fun xs H Q => ∃ p ys,xs = [.ref p] /\ (SqL X.K H p ys \/ SqT X.K H p ys) /\ ∀ l,H l = none -> Q (.ref l) (upd H l (.lst ys))):=by
 intro pins s σ H xs us Q I r h;obtain ⟨p,ys,rfl,hq,q⟩:=h;obtain ⟨u,rfl,rx⟩:=vals1 r;cases rx;have fin:∀ (its:List Value),Vals ys its -> ys.length <= sizeLine -> ∀ (h':Heap) (c':Nat),(∀ b o',s.heap.get? b = some o' -> h'.get? b = some o') ->
   h'.get? s.heap.objs.size = some { cls:=.type "list",dict:=none,data:=.seq its.toArray c',slots:=#[] } -> EP X pins σ Q (.ref s.heap.objs.size) { s with heap:=h' }:=fun its r' hz h' c' kp e =>
  ⟨.ref s.heap.objs.size,_,I.laid (t':=s.toks) kp (Nat.le_refl _) (show ObjOk X.prog X.w _ h' _ (.lst ys) from ⟨hz,its,c',r',e⟩),rfl,q _ (I.hok.fresh (Nat.le_refl _))⟩
 rcases hq with hq | hq
 ·obtain ⟨its,r',pl,hz⟩:=I.list hq;have hlen:=r'.length;obtain ⟨o,ho,hc,n,hd⟩:=pl.isList;exact call_list_seq p (.inl rfl) ho hc hd (fun h' c' kp e => fin its r' hz h' c' kp e) (by simp only [List.size_toArray] <;> lia)
 ·obtain ⟨its,r',pl,hz⟩:=I.tuple hq;have hlen:=r'.length;obtain ⟨o,ho,hc,n,hd⟩:=pl;exact call_list_seq p (.inr rfl) ho hc hd (fun h' c' kp e => fin its r' hz h' c' kp e) (by simp only [List.size_toArray] <;> lia)
theorem call_tuple_of:CallR X (.type "tuple") (fun xs H Q => ∃ p ys,xs = [.ref p] /\ ((SqL X.K H p ys /\ ∀ l,H l = none -> Q (.ref l) (upd H l (.tup ys))) \/ (SqT X.K H p ys /\ Q (.ref p) H))):=by
 intro pins s σ H xs us Q I r h;obtain ⟨p,ys,rfl,h⟩:=h;obtain ⟨u,rfl,rx⟩:=vals1 r;cases rx;rcases h with ⟨hq,q⟩ | ⟨hq,q⟩
 ·obtain ⟨its,r',pl,hz⟩:=I.list hq;have hlen:=r'.length;refine call_tuple_list pl.isList (fun h' kp => ?_) (by simp only [List.size_toArray] <;> lia)
  have I1:Inv X pins σ H { s with heap:=h' }:=I.kept (t':=s.toks) kp
  have I2:Inv X pins σ (upd H h'.objs.size (.tup ys)) { s with heap:=h'.push { cls:=.type "tuple",data:=.seq its.toArray } } :=
   I1.laid (t':=s.toks) (fun b o e => Heap.get?_push_of_some _ e) (Nat.le_refl _) (show ObjOk X.prog X.w _ _ _ (.tup ys) from ⟨hz,its,r',IsTupD.new _ _⟩)
  exact ⟨.ref h'.objs.size,_,I2,rfl,q _ (I1.hok.fresh (Nat.le_refl _))⟩
 ·obtain ⟨its,r',pl,hz⟩:=I.tuple hq;exact call_tuple_same pl ⟨.ref p,H,I,rfl,q⟩
def tyV (K:PySem.W.Frag) (T:String) (x:V) (H:Hp):Prop:=match x with
 | .str _ => T = "str"
 | .int _ => T = "int"
 | .ref p => (T = "list" /\ ∃ xs,SqL K H p xs) \/ (T = "tuple" /\ ∃ o,K.lookup p = some o /\ o.cls = .type "tuple" /\ o.dict = none) \/
   (T = "dict" /\ ((∃ kvs,H p = some (.dK kvs)) \/ ∃ kvs,H p = some (.dT kvs))) \/ (T = "set" /\ ∃ S n,H p = some (.set S n))
 | _ => False
theorem tyV_is {pins:List (Addr × Obj)} {σ:St} {H:Hp} {s:Shared} {T:String} {x:V} {v:Value} (I:Inv X pins σ H s) (r:RelV x v) (ty:tyV X.K T x H) :
  s.TypeIs v T /\ ∀ a,v = .ref a -> ∃ ob,s.heap.get? a = some ob /\ ob.dict = none:=by
 cases x with
 | str z =>
  obtain ⟨t,rfl⟩:=r
  cases (show T = "str" from ty)
  exact ⟨typeIs_str s z t,fun _ e => nomatch e⟩
 | int i =>
  obtain ⟨t,rfl⟩:=r
  cases (show T = "int" from ty)
  exact ⟨typeIs_int s i t,fun _ e => nomatch e⟩
 | ref p =>
  cases r;rcases ty with ⟨rfl,xs,hq⟩ | ⟨rfl,o,hk,hc,hd⟩ | ⟨rfl,hk⟩ | ⟨rfl,S,n,hk⟩
  ·obtain ⟨its,_,pl,_⟩:=I.list hq;refine ⟨pl.isList.typeIs,fun a e => ?_⟩;cases e;obtain ⟨o,n,e,c,hd,_⟩:=pl;exact ⟨o,e,hd⟩
  ·refine ⟨⟨o,I.kIn p o hk,hc⟩,fun a e => ?_⟩;cases e;exact ⟨o,I.kIn _ o hk,hd⟩
  ·have z:∃ o,s.heap.get? p = some o /\ o.ExactDict:=by
    rcases hk with ⟨kvs,hk⟩ | ⟨kvs,hk⟩
    ·obtain ⟨_,_,_,_,o,_,_,e,ex,_⟩:=I.hok p _ hk;exact ⟨o,e,ex⟩
    ·obtain ⟨_,_,_,_,o,_,_,e,ex,_⟩:=I.hok p _ hk;exact ⟨o,e,ex⟩
   obtain ⟨o,e,ex⟩:=z;refine ⟨⟨o,e,ex.1⟩,fun a e2 => ?_⟩;cases e2;exact ⟨o,e,ex.2.1⟩
  ·obtain ⟨o,_,_,_,e,ex,_⟩:=I.hok p _ hk;refine ⟨⟨o,e,ex.1⟩,fun a e2 => ?_⟩;cases e2;exact ⟨o,e,ex.2.1⟩
 | _ => exact False.elim ty
def tBM0 (K:PySem.W.Frag) (T:String) (r:V -> List V -> Hp -> VK -> Prop) (to:TE):TE:=fun σ H Q => to σ H fun x H1 => tyV K T x H1 /\ r x [] H1 Q
def tBM (K:PySem.W.Frag) (T:String) (r:V -> List V -> Hp -> VK -> Prop) (to:TE) (t:TA):TE:=fun σ H Q => to σ H fun x H1 => tyV K T x H1 /\ t σ H1 fun xs H2 => r x xs H2 Q
variable {o e:Expr} {es:List Expr} {to:TE} {t:TA} {name:Str} {apos cpos:Pos} {T id:String} {r:V -> List V -> Hp -> VK -> Prop}
theorem pe_bm0 (pa:PlainAttrs T) (slot:Slot T name id) (hty:typeOf (.builtin id) = pure (.type "method_descriptor")) (hm:MtR X id r) (ho:PE X o to)
  (hbase:attributeBase o name X.env (eval o X.env) = eval o X.env:=by rfl) (hline:(apos.endLine == cpos.line) = true:=by rfl):PE X (.Call (.Attribute o name apos) [] [] cpos) (tBM0 X.K T r to):=by
 intro pins s σ H Q I h;refine wpAny_Call_method0_late hbase hline (thn (ho pins s σ H _ I h) fun v s1 hq53 => ?_);obtain ⟨x,H1,I1,r1,ty,q1⟩:=hq53;obtain ⟨h1,h2⟩:=tyV_is I1 r1 ty;exact ⟨T,id,pa,slot,hty,h1,h2,Calls.callWith_builtin rfl (PySem.evalArgs_none (hm pins s1 σ H1 x [] v [] Q I1 r1 .nil q1))⟩
theorem pe_bm (pa:PlainAttrs T) (slot:Slot T name id) (hty:typeOf (.builtin id) = pure (.type "method_descriptor")) (hm:MtR X id r) (ho:PE X o to) (ha:PA X (e :: es) t)
  (hbase:attributeBase o name X.env (eval o X.env) = eval o X.env:=by rfl)
  (hfew:((backTo cpos (starEach (e :: es) X.env)).all (fun x => !x.1) && (backToKw cpos (keywordEach [] X.env)).all (fun x => x.1.isSome)
   && decide ((e :: es).length + ([]:List Keyword).length + (if ([]:List Keyword).isEmpty then 0 else 1) < 30)) = true:=by rfl)
  (hline:(apos.endLine == cpos.line) = true:=by rfl) (hs:starEach (e :: es) X.env = (false,eval e X.env) :: starEach es X.env:=by rfl) (hplain:(backTo cpos (starEach es X.env)).any (·.1) = false:=by rfl) :
  PE X (.Call (.Attribute o name apos) (e :: es) [] cpos) (tBM X.K T r to t):=by
 intro pins s σ H Q I h;refine wpAny_Call_method_late hbase hfew hline rfl (thn (ho pins s σ H _ I h) fun v s1 hq54 => ?_);obtain ⟨x,H1,I1,r1,ty,q1⟩:=hq54;obtain ⟨h1,h2⟩:=tyV_is I1 r1 ty;refine ⟨T,id,pa,slot,hty,h1,h2,?_⟩;have hA:=ha cpos pins s1 σ H1 _ I1 q1;rw [hs] at hA ⊢;refine Calls.callWith_builtin (by show (false || (backTo cpos (starEach es X.env)).any (·.1)) = false;rw [hplain] <;> rfl) (Calls.evalArgs_plain ?_)
 exact thn hA fun us s2 ⟨vs,H2,I2,r2,q2⟩ => hm pins s2 σ H2 x vs v us Q I2 r1 r2 q2
/- xs.append(e),list.index on a module's tuple .. are MtR facts of 06m -/
end
def MtM (X:Cx) (id:String) (r:V -> List V -> Hp -> VK -> Prop):Prop :=
 ∀ (pins:List (Addr × Obj)) (s:Shared) (σ:St) (H:Hp) (x:V) (xs:List V) (v:Value) (us:List Value) (Q:VK),Inv X pins σ H s -> RelV x v -> Vals xs us -> r x xs H Q ->
  wpAny (model X.prog X.w) X.A (call (.builtin id) (v :: us)) (EP X pins σ Q) X.xe s
theorem Vals.one:∀ {x:V} {us:List Value},Vals [x] us -> ∃ u,us = [u] /\ RelV x u
 | _,_,.cons r .nil => ⟨_,rfl,r⟩
theorem Vals.eraseIdx:∀ {xs:List V} {us:List Value} (i:Nat),Vals xs us -> Vals (xs.eraseIdx i) (us.eraseIdx i)
 | _,_,_,.nil => .nil
 | _,_,0,.cons _ t => t
 | _,_,i + 1,.cons r t => .cons r (Vals.eraseIdx i t)
theorem Vals.rep {xs:List V} {us:List Value} (h:Vals xs us):∀ k:Nat,Vals (List.replicate k xs).flatten (List.replicate k us).flatten
 | 0 => .nil
 | k + 1 => by
  rw [List.replicate_succ,List.replicate_succ,List.flatten_cons,List.flatten_cons];exact Vals.append h (Vals.rep h k)
theorem len_erase {α:Type}:∀ (l:List α) (i:Nat),(l.eraseIdx i).length <= l.length
 | [],_ => Nat.le_refl _
 | _ :: _,0 => Nat.le_succ _
 | _ :: r,i + 1 => Nat.succ_le_succ (len_erase r i)
theorem foldl_rep (its:List Value):∀ (k:Nat) (acc:List Value),
  List.foldl (fun x1 x2 => x1 ++ x2) acc.toArray (List.replicate k its.toArray) = (acc ++ (List.replicate k its).flatten).toArray
 | 0,acc => by simp
 | k + 1,acc => by
  have e:acc.toArray ++ its.toArray = (acc ++ its).toArray:=by simp
  have e2:(acc ++ its) ++ (List.replicate k its).flatten = acc ++ (List.replicate (k + 1) its).flatten:=by
   rw [List.replicate_succ,List.flatten_cons,List.append_assoc]
  rw [<- e2,<- foldl_rep its k (acc ++ its),<- e,List.replicate_succ,List.foldl_cons]
section
variable {X:Cx} {pins:List (Addr × Obj)} {σ:St} {H:Hp} {s:Shared} {l b:Addr} {xs ys zs:List V}
theorem Inv.lset {its its':List Value} {n:Nat} {f:Array Value -> Array Value} {t':Nat} (I:Inv X pins σ H s) (hH:H l = some (.lst xs))
  (e:s.heap.get? l = some { cls:=.type "list",data:=.seq its.toArray n }) (hf:f its.toArray = its'.toArray) (hv:Vals ys its') (hz:ys.length <= sizeLine) :
  Inv X pins σ (upd H l (.lst ys)) { s with heap:=s.heap.update l (Obj.mapSeq f),toks:=t' }:=by
 have q:=PySem.IsL.update e f;rw [hf] at q;refine I.write (x:=l) (e:=l) (by rw [hH];exact trivial) (.inl rfl) (fun b' u hb hu => (Heap.get?_update_other s.heap (Obj.mapSeq f) (Ne.symm hb)).trans hu) ⟨_,q⟩ ?_
 exact ⟨hz,its',_,hv,q⟩
theorem Inv.lnew {its:List Value} {t':Nat} (I:Inv X pins σ H s) (hv:Vals ys its) (hz:ys.length <= sizeLine) :
  Inv X pins σ (upd H s.heap.objs.size (.lst ys)) { s with heap:=s.heap.push { cls:=.type "list",data:=.seq its.toArray },toks:=t' } :=
 I.laid (fun _ _ q => Heap.get?_push_of_some _ q) (Nat.le_refl _) ⟨hz,its,0,hv,Heap.get?_push_size _ rfl⟩
theorem Inv.fresh (I:Inv X pins σ H s):H s.heap.objs.size = none:=I.hok.fresh (Nat.le_refl _)
theorem Inv.lstM (I:Inv X pins σ H s) (hH:H l = some (.lst xs)):xs.length <= sizeLine /\ ∃ (its:List Value) (n:Nat),Vals xs its /\ xs.length = its.length /\ s.heap.get? l = some { cls:=.type "list",data:=.seq its.toArray n }:=by
 obtain ⟨z,its,n,r,e⟩:=I.hok l _ hH;exact ⟨z,its,n,r,r.length,e⟩
theorem notLongL {n:Nat} (h:n <= sizeLine):Builtin.List.listTooLong n = false:=by
 unfold Builtin.List.listTooLong;exact decide_eq_false (by lia)
end
section
variable {X:Cx}
def rAppend:V -> List V -> Hp -> VK -> Prop:=fun x vs H Q => ∃ l xs y,x = .ref l /\ vs = [y] /\ H l = some (.lst xs) /\ xs.length < sizeLine /\ Q .non (upd H l (.lst (xs ++ [y])))
theorem mt_append:MtM X "list.append" rAppend:=by
 intro pins s σ H x vs v us Q I rx rv h;obtain ⟨l,xs,y,rfl,rfl,hH,hz,q⟩:=h;cases rx;obtain ⟨u,rfl,ru⟩:=rv.one;obtain ⟨z,its,n,r,hl,e⟩:=I.lstM hH;refine call_meets F.slot_list_append ⟨_,e,rfl⟩ F.entry_list_append (F.args_list_append_2 _ _) (PySem.list_append l its.toArray n u (by rw [List.size_toArray];lia)) ⟨e,?_⟩
 refine ⟨.non,_,I.lset (its':=its ++ [u]) hH e (by simp) (r.append (.cons ru .nil)) ?_,rfl,q⟩
 rw [List.length_append,List.length_singleton];lia
def rPopAt:V -> List V -> Hp -> VK -> Prop:=fun x vs H Q => ∃ l xs i k y,x = .ref l /\ vs = [.int i] /\ H l = some (.lst xs) /\ -(2 ^ 63) <= i /\ i < 2 ^ 63 /\ seqIndex? i xs.length = some k /\ xs[k]? = some y /\ Q y (upd H l (.lst (xs.eraseIdx k)))
theorem mt_popAt:MtM X "list.pop" rPopAt:=by
 intro pins s σ H x vs v us Q I rx rv h;obtain ⟨l,xs,i,k,y,rfl,rfl,hH,h1,h2,hk,hy,q⟩:=h;cases rx;obtain ⟨u,rfl,ru⟩:=rv.one;obtain ⟨t,rfl⟩:=ru;obtain ⟨z,its,n,r,hl,e⟩:=I.lstM hH;obtain ⟨w,hw,rw'⟩:=r.get hy;refine call_meets F.slot_list_pop ⟨_,e,rfl⟩ F.entry_list_pop (F.args_list_pop_2 _ _)
  (MeetsSeq.list_pop_at l its.toArray n i t k w (fitsIndex_both h1 h2) (by rw [List.size_toArray,<- hl];exact hk) (by rw [<- Array.getElem?_toList];exact hw) (by rw [List.size_toArray];lia)) ⟨e,?_⟩
 refine ⟨y,_,I.lset (its':=its.eraseIdx k) hH e ?_ (r.eraseIdx k) ?_,rw',q⟩
 ·show its.toArray.eraseIdxIfInBounds k = (its.eraseIdx k).toArray;rw [List.eraseIdxIfInBounds_toArray]
 ·have:=len_erase xs k;lia
def rCat:R2:=fun x y H Q => ∃ l b xs zs,x = .ref l /\ y = .ref b /\ H l = some (.lst xs) /\ H b = some (.lst zs) /\ xs.length + zs.length <= sizeLine /\ ∀ p,H p = none -> Q (.ref p) (upd H p (.lst (xs ++ zs)))
theorem op_cat:OpR X (binaryOp .Add) rCat:=by
 intro pins s σ H x y v u Q I rx ry h;obtain ⟨l,b,xs,zs,rfl,rfl,hH,hB,hz,q⟩:=h;cases rx;cases ry;obtain ⟨z,its,n,r,hl,e⟩:=I.lstM hH;obtain ⟨z2,its2,n2,r2,hl2,e2⟩:=I.lstM hB;refine PySem.P.add_list e e2 ?_ (by rw [List.size_toArray,List.size_toArray];lia)
 have ea:its.toArray ++ its2.toArray = (its ++ its2).toArray:=by simp
 rw [ea];exact ⟨.ref _,_,I.lnew (t':=s.toks) (r.append r2) (by rw [List.length_append];lia),rfl,q _ I.fresh⟩
def rRep:R2:=fun x y H Q => ∃ l k xs,x = .ref l /\ y = .int k /\ H l = some (.lst xs) /\ -(2 ^ 63) <= k /\ k < 2 ^ 63 /\ xs.length * k.toNat <= sizeLine /\
 ∀ p,H p = none -> Q (.ref p) (upd H p (.lst (List.replicate k.toNat xs).flatten))
theorem len_rep {α:Type} (xs:List α) (k:Nat):(List.replicate k xs).flatten.length = k * xs.length:=by
 induction k with
 | zero => simp
 | succ k ih => rw [List.replicate_succ,List.flatten_cons,List.length_append,ih,Nat.succ_mul,Nat.add_comm]
theorem op_rep:OpR X (binaryOp .Mult) rRep:=by
 intro pins s σ H x y v u Q I rx ry h;obtain ⟨l,k,xs,rfl,rfl,hH,h1,h2,hz,q⟩:=h;cases rx;obtain ⟨t,rfl⟩:=ry;obtain ⟨z,its,n,r,hl,e⟩:=I.lstM hH;have hlen:its.toArray.size * k.toNat <= sizeLine:=by rw [List.size_toArray,<- hl];exact hz
 have hcap:¬ its.toArray.size * k.toNat > (2 ^ 63 - 1) / 8:=by
  have:(sizeLine:Nat) <= (2 ^ 63 - 1) / 8:=by decide
  lia
 have hfit:¬ (!Builtin.List.listFitsIndex k) = true:=by
  rw [fitsIndex_both h1 h2];exact Bool.false_ne_true
 have hlong:¬ Builtin.List.listTooLong (its.toArray.size * k.toNat) = true:=by
  rw [notLongL hlen];exact Bool.false_ne_true
 have hnew:List.foldl (fun x1 x2 => x1 ++ x2) #[] (List.replicate (if its.toArray.isEmpty = true then 0 else k.toNat) its.toArray) = (List.replicate k.toNat its).flatten.toArray:=by
  have f0:∀ m:Nat,List.foldl (fun x1 x2 => x1 ++ x2) #[] (List.replicate m its.toArray) = (List.replicate m its).flatten.toArray:=fun m => by
   have:=foldl_rep its m [];rw [List.nil_append] at this;exact this
  rw [f0]
  cases its with
  | nil => simp
  | cons a r' => rw [if_neg (by simp)]
 refine wpAny_binaryOp_repeat_ref (T:="list") (U:="int") (by decide) ⟨_,e,rfl⟩ (fun s' => typeIs_int s' k t) noFill_list_mul F.fills_int_mul F.slot_int_rmul repeat_list F.slot_int_index.lookup
  (call_meets F.slot_int_rmul (typeIs_int s k t) F.entry_int_rmul (F.args_int_rmul_2 _ _) (int___rmul___int_list k t l its.toArray n)
   ⟨e,rfl,⟨_,e,rfl⟩,call_meets F.slot_list_mul ⟨_,e,rfl⟩ F.entry_list_mul (F.args_list_mul_2 _ _) (AutoListH.list___mul___list_int_3 l its.toArray n k t hfit hcap hlong) ⟨e,?_⟩⟩)
 rw [hnew];exact ⟨.ref _,_,I.lnew (t':=s.toks) (r.rep k.toNat) (by rw [len_rep,Nat.mul_comm];exact hz),rfl,q _ I.fresh⟩
end
section
variable {prog:Program} {w:World} {A:Around} {E:Value -> Shared -> Prop} {s:Shared}
end
section
variable {X:Cx}
end
section
variable {κ:Type} [DecidableEq κ]
def valV (kvs:List (κ × V)) (k:κ):Option V:=(kvs.find? fun kv => decide (kv.1 = k)).map (·.2)
def putK (kvs:List (κ × V)) (k:κ) (v:V):List (κ × V) :=
 if (kvs.any fun kv => decide (kv.1 = k)) = true then kvs.map (fun kv => if kv.1 = k then (kv.1,v) else kv) else kvs ++ [(k,v)]
theorem valV_pos {p:κ × V} {r:List (κ × V)} {k:κ} (e:p.1 = k):valV (p :: r) k = some p.2:=by simp [valV,List.find?_cons,e]
theorem valV_neg {p:κ × V} {r:List (κ × V)} {k:κ} (e:¬ p.1 = k):valV (p :: r) k = valV r k:=by simp [valV,List.find?_cons,e]
theorem valV_any (k:κ):∀ kvs:List (κ × V),(kvs.any fun kv => decide (kv.1 = k)) = (valV kvs k).isSome
 | [] => rfl
 | p :: r => by
  rw [List.any_cons];by_cases e:p.1 = k
  ·simp only [valV_pos e,decide_eq_true e,Bool.true_or,Option.isSome_some]
  ·rw [valV_neg e,decide_eq_false e,Bool.false_or];exact valV_any k r
theorem valV_map (k j:κ) (y:V):∀ kvs:List (κ × V),valV (kvs.map fun kv => if kv.1 = k then (kv.1,y) else kv) j = (valV kvs j).map fun x => if j = k then y else x
 | [] => rfl
 | p :: r => by
  have ih:=valV_map k j y r;rw [List.map_cons];by_cases h:p.1 = k
  ·rw [if_pos h];by_cases e:p.1 = j
   ·rw [valV_pos (p:=(p.1,y)) e,valV_pos e,Option.map_some,if_pos (e.symm.trans h)]
   ·rw [valV_neg (p:=(p.1,y)) e,valV_neg e,ih]
  ·rw [if_neg h];by_cases e:p.1 = j
   ·rw [valV_pos (p:=p) e,valV_pos e,Option.map_some,if_neg (fun z => h (e.trans z))]
   ·rw [valV_neg (p:=p) e,valV_neg e,ih]
theorem valV_snoc (k j:κ) (y:V):∀ kvs:List (κ × V),valV kvs k = none -> valV (kvs ++ [(k,y)]) j = if j = k then some y else valV kvs j
 | [],_ => by
  by_cases e:k = j
  ·rw [if_pos e.symm];exact valV_pos (p:=(k,y)) e
  ·rw [if_neg (fun z => e z.symm)];exact valV_neg (p:=(k,y)) e
 | p :: r,hn => by
  rw [List.cons_append];have hk:¬ p.1 = k:=fun z => by rw [valV_pos z] at hn;cases hn
  rw [valV_neg hk] at hn;have ih:=valV_snoc k j y r hn;by_cases e:p.1 = j
  ·rw [valV_pos e,valV_pos e,if_neg (fun z => hk (e.trans z))]
  ·rw [valV_neg e,valV_neg e,ih]
theorem valV_put (kvs:List (κ × V)) (k j:κ) (y:V):valV (putK kvs k y) j = if j = k then some y else valV kvs j:=by
 unfold putK;by_cases a:(kvs.any fun kv => decide (kv.1 = k)) = true
 ·rw [if_pos a,valV_map];rw [valV_any] at a;by_cases e:j = k
  ·obtain ⟨x,hx⟩:=Option.isSome_iff_exists.mp a;rw [if_pos e,e,hx,Option.map_some,if_pos rfl]
  ·rw [if_neg e]
   cases valV kvs j with
   | none => rfl
   | some x => rw [Option.map_some,if_neg e]
 ·rw [if_neg a];refine valV_snoc k j y kvs ?_;rw [valV_any] at a
  cases q:valV kvs k with
  | none => rfl
  | some x => rw [q] at a;exact (a rfl).elim
theorem length_putK (kvs:List (κ × V)) (k:κ) (v:V):(putK kvs k v).length <= kvs.length + 1:=by
 unfold putK;split
 ·rw [List.length_map];lia
 ·rw [List.length_append,List.length_cons,List.length_nil];lia
theorem putK_new {kvs:List (κ × V)} {k:κ} (v:V) (h:valV kvs k = none):putK kvs k v = kvs ++ [(k,v)]:=by
 unfold putK;rw [valV_any,h];exact if_neg (by decide)
theorem RelO.isSome_eq {o:Option V} {u:Option Value} (r:RelO o u):o.isSome = u.isSome:=by
 cases o with
 | none => cases u with
  | none => rfl
  | some _ => exact (show False from r).elim
 | some _ => cases u with
  | none => exact (show False from r).elim
  | some _ => rfl
theorem KV.val {kvs:List (κ × V)} {vs:List (κ × Value)} (r:KV kvs vs) (k:κ):RelO (valV kvs k) (valueAt vs k):=by
 unfold KV at r
 induction r with
 | nil => exact True.intro
 | @cons p q ps qs h t ih =>
  obtain ⟨h1,h2⟩:=h;by_cases e:p.1 = k
  ·have e':q.1 = k:=h1.symm.trans e;have b:valueAt (q :: qs) k = some q.2:=by simp [valueAt,List.find?_cons,e']
   rw [valV_pos e,b];exact h2
  ·have e':¬ q.1 = k:=fun z => e (h1.trans z);have b:valueAt (q :: qs) k = valueAt qs k:=by simp [valueAt,List.find?_cons,e']
   rw [valV_neg e,b];exact ih
theorem KV.any {kvs:List (κ × V)} {vs:List (κ × Value)} (r:KV kvs vs) (k:κ):(kvs.any fun kv => decide (kv.1 = k)) = vs.any fun kv => decide (kv.1 = k):=by
 unfold KV at r
 induction r with
 | nil => rfl
 | cons h t ih => rw [List.any_cons,List.any_cons,ih,h.1]
theorem KV.repl {kvs:List (κ × V)} {vs:List (κ × Value)} (r:KV kvs vs) (k:κ) {y:V} {u:Value} (ry:RelV y u) :
  KV (kvs.map fun kv => if kv.1 = k then (kv.1,y) else kv) (vs.map fun kv => if kv.1 = k then (kv.1,u) else kv):=by
 unfold KV at r ⊢
 induction r with
 | nil => exact .nil
 | @cons p q ps qs h t ih =>
  rw [List.map_cons,List.map_cons];refine .cons ?_ ih;obtain ⟨h1,h2⟩:=h;by_cases e:p.1 = k
  ·rw [if_pos e,if_pos (h1.symm.trans e)];exact ⟨h1,ry⟩
  ·rw [if_neg e,if_neg (fun z => e (h1.trans z))];exact ⟨h1,h2⟩
theorem KV.put {kvs:List (κ × V)} {vs:List (κ × Value)} (r:KV kvs vs) (k:κ) {y:V} {u:Value} (ry:RelV y u):KV (putK kvs k y) (stored vs k u):=by
 unfold putK stored;rw [r.any k];by_cases e:(vs.any fun kv => decide (kv.1 = k)) = true
 ·rw [if_pos e,if_pos e];exact r.repl k ry
 ·rw [if_neg e,if_neg e];exact Paired.snoc r ⟨rfl,ry⟩
theorem KV.length {kvs:List (κ × V)} {vs:List (κ × Value)} (r:KV kvs vs):kvs.length = vs.length:=Paired.length r
end
theorem kV_is {P:Program} {w:World} {k:Key} {u:Value} (r:RelV (kV k) u):(mixKind P w).is k u = true:=by
 cases k with
 | inl i => obtain ⟨t,e⟩:=(show ∃ t,u = Value.int i t from r);subst e;exact mixKind_int P w i t
 | inr x => obtain ⟨t,e⟩:=(show ∃ t,u = Value.str x t from r);subst e;exact mixKind_str P w x t
theorem items_are {P:Program} {w:World}:∀ {ks:List Key} {us:List Value},Vals (ks.map kV) us -> ItemsAre (mixKind P w) ks us
 | [],_,r => by rw [List.map_nil] at r;cases r;exact .nil
 | k :: ks,_,r => by
  rw [List.map_cons] at r
  cases r with
  | cons h t => exact .cons (kV_is h) (items_are t)
abbrev KT (H:Hp):List (List Key × V) -> List (List Key × Addr × Value) -> Prop:=Paired fun p q => p.1 = q.1 /\ H q.2.1 = some (.tup (p.1.map kV)) /\ RelV p.2 q.2.2
theorem KT.val {H:Hp} {kvs:List (List Key × V)} {xs:List (List Key × Addr × Value)} (r:KT H kvs xs) (k:List Key):RelO (valV kvs k) ((atKey xs k).map (·.2)):=by
 induction r with
 | nil => exact True.intro
 | @cons p q ps qs h t ih =>
  obtain ⟨h1,_,h2⟩:=h;by_cases e:p.1 = k
  ·have e':q.1 = k:=h1.symm.trans e;have b:atKey (q :: qs) k = some q.2:=by simp [atKey,List.find?_cons,e']
   rw [valV_pos e,b];exact h2
  ·have e':¬ q.1 = k:=fun z => e (h1.trans z);have b:atKey (q :: qs) k = atKey qs k:=by simp [atKey,List.find?_cons,e']
   rw [valV_neg e,b];exact ih
theorem KT.repl {H:Hp} {kvs:List (List Key × V)} {xs:List (List Key × Addr × Value)} (r:KT H kvs xs) (k:List Key) {y:V} {u:Value} (ry:RelV y u) :
  KT H (kvs.map fun kv => if kv.1 = k then (kv.1,y) else kv) (xs.map (putAt k u)):=by
 induction r with
 | nil => exact .nil
 | @cons p q ps qs h t ih =>
  rw [List.map_cons,List.map_cons];refine .cons ?_ ih;obtain ⟨h1,h2,h3⟩:=h;unfold putAt;by_cases e:p.1 = k
  ·rw [if_pos e,if_pos (h1.symm.trans e)];exact ⟨h1,h2,ry⟩
  ·rw [if_neg e,if_neg (fun z => e (h1.trans z))];exact ⟨h1,h2,h3⟩
theorem KT.put {H:Hp} {kvs:List (List Key × V)} {xs:List (List Key × Addr × Value)} (r:KT H kvs xs) (k:List Key) {b:Addr} {y:V} {u:Value} (hb:H b = some (.tup (k.map kV))) (ry:RelV y u) :
  KT H (putK kvs k y) (storedH xs k b u):=by
 have e:(kvs.any fun kv => decide (kv.1 = k)) = (atKey xs k).isSome:=by
  rw [valV_any,(r.val k).isSome_eq,Option.isSome_map]
 unfold putK storedH;rw [e];by_cases q:(atKey xs k).isSome = true
 ·rw [if_pos q,if_pos q];exact r.repl k ry
 ·rw [if_neg q,if_neg q];exact Paired.snoc r ⟨rfl,hb,ry⟩
theorem KT.keeps {H H':Hp} {kvs:List (List Key × V)} {xs:List (List Key × Addr × Value)} (r:KT H kvs xs) (ht:∀ b ys,H b = some (.tup ys) -> H' b = some (.tup ys)):KT H' kvs xs :=
 Paired.mapP r fun _ _ z => ⟨z.1,ht _ _ z.2.1,z.2.2⟩
section
variable {P:Program} {w:World} {H:Hp} {h:Heap} {a:Addr}
theorem rd_of {u:HO} (ok:HOk P w H h) (e:Rd H a u):ObjOk P w H h a u:=e.ok ok
theorem dk_rd {kvs:List (Key × V)} (ok:HOk P w H h) (e:Rd H a (.dK kvs)):kvs.length <= sizeLine /\ (a == sysModules) = false /\ ∃ vs,KV kvs vs /\ h.DictOf (mixKind P w) a vs :=
 show ObjOk P w H h a (.dK kvs) from rd_of ok e
theorem dk_of {kvs:List (Key × V)} (ok:HOk P w H h) (e:H a = some (.dK kvs)):kvs.length <= sizeLine /\ (a == sysModules) = false /\ ∃ vs,KV kvs vs /\ h.DictOf (mixKind P w) a vs:=dk_rd ok (.inl e)
theorem key_of {ks:List Key} (ok:HOk P w H h) (e:H a = some (.tup (ks.map kV))):(tupleKind (mixKind P w)).is h ks a:=by
 obtain ⟨_,its,r,o,h1,h2,n,h3,_⟩:=(show ObjOk P w H h a (.tup (ks.map kV)) from ok a _ e);exact ⟨o,its.toArray,n,h1,h2,h3,by simpa using items_are r⟩
theorem dt_rd {kvs:List (List Key × V)} (ok:HOk P w H h) (e:Rd H a (.dT kvs)):kvs.length <= sizeLine /\ (a == sysModules) = false /\
  ∃ xs,KT H kvs xs /\ h.DictOfH (tupleKind (mixKind P w)) a xs:=by
 obtain ⟨z,y,xs,r,o,es,ep,h1,h2,h3,h4,h5⟩:=(show ObjOk P w H h a (.dT kvs) from rd_of ok e);refine ⟨z,y,xs,r,o,es,ep,h1,h2,h3,h4,fun x hx => ?_,h5⟩;have all:∀ {l:List (List Key × V)} {m:List (List Key × Addr × Value)},KT H l m -> ∀ x ∈ m,(tupleKind (mixKind P w)).is h x.1 x.2.1:=by
  intro l m q
  induction q with
  | nil => intro x hx;exact nomatch hx
  | @cons p q ps qs hq t ih =>
   intro x hx;rcases List.mem_cons.mp hx with e | hx
   ·subst e;exact key_of ok (by rw [<- hq.1];exact hq.2.1)
   ·exact ih x hx
 exact all r x hx
theorem dt_of {kvs:List (List Key × V)} (ok:HOk P w H h) (e:H a = some (.dT kvs)):kvs.length <= sizeLine /\ (a == sysModules) = false /\
  ∃ xs,KT H kvs xs /\ h.DictOfH (tupleKind (mixKind P w)) a xs:=dt_rd ok (.inl e)
end
def DGet (H:Hp) (a:Addr) (y:V) (r:Option V):Prop :=
 (∃ kvs k,Rd H a (.dK kvs) /\ y = kV k /\ r = valV kvs k) \/ ∃ kvs k b,Rd H a (.dT kvs) /\ y = .ref b /\ H b = some (.tup (k.map kV)) /\ r = valV kvs k
def DPut (H:Hp) (a:Addr) (y v:V) (H':Hp):Prop :=
 (∃ kvs k,H a = some (.dK kvs) /\ y = kV k /\ kvs.length < sizeLine /\ H' = upd H a (.dK (putK kvs k v))) \/
 ∃ kvs k b,H a = some (.dT kvs) /\ y = .ref b /\ H b = some (.tup (k.map kV)) /\ kvs.length < sizeLine /\ H' = upd H a (.dT (putK kvs k v))
theorem DGet.k {H:Hp} {a:Addr} {kvs:List (Key × V)} {k:Key} (e:H a = some (.dK kvs)):DGet H a (kV k) (valV kvs k):=.inl ⟨kvs,k,.inl e,rfl,rfl⟩
theorem DPut.k {H:Hp} {a:Addr} {kvs:List (Key × V)} {k:Key} {v:V} (e:H a = some (.dK kvs)) (hl:kvs.length < sizeLine):DPut H a (kV k) v (upd H a (.dK (putK kvs k v))):=.inl ⟨kvs,k,e,rfl,hl,rfl⟩
section
variable {X:Cx} {pins:List (Addr × Obj)} {σ:St} {H:Hp} {s:Shared} {a:Addr} {y v:V} {u r:Value} {o:Option V} {A:Around} {E:Value -> Shared -> Prop}
theorem Inv.big (I:Inv X pins σ H s):sysModules < s.heap.objs.size:=by
 have h:mainGlobals < s.heap.objs.size:=(I.mod.glob.keeps I.bk).lt;exact Nat.lt_trans (by decide) h
theorem d_getItem {Q:Value -> Shared -> Prop} (hu:A.units + 1 < cLine) (I:Inv X pins σ H s) (g:DGet H a y (some v)) (ry:RelV y u) (h:∀ w' s',Inv X pins σ H s' -> RelV v w' -> Q w' s') :
  wpAny (model X.prog X.w) A (getItem (.ref a) u) Q E s:=by
 rcases g with ⟨kvs,k,e,ey,l⟩ | ⟨kvs,k,b,e,ey,eb,l⟩
 ·subst ey;obtain ⟨z,hd,vs,rel,dd⟩:=dk_rd I.hok e;obtain ⟨w',hw,rw'⟩:=RelO.some_of (v:=v) (o:=valueAt vs k) (by rw [l];exact rel.val k)
  exact wpAny_getItem_of (kV_is ry) dd.mapOf hw (h w' _ (I.tok _) rw')
 ·subst ey
  cases (show u = Value.ref b from ry)
  obtain ⟨z,hd,xs,rel,dd⟩:=dt_rd I.hok e;obtain ⟨w',hw,rw'⟩:=RelO.some_of (v:=v) (o:=(atKey xs k).map (·.2)) (by rw [l];exact rel.val k)
  obtain ⟨p,hp,hp2⟩:=Option.map_eq_some_iff.mp hw;refine wpAny_getItem_heap (tupleKind_room_in1 hu) (key_of I.hok eb) dd hp ?_;rw [hp2];exact h w' _ (I.tok _) rw'
theorem d_in {Q:Value -> Shared -> Prop} (hu:A.units + 1 < cLine) (I:Inv X pins σ H s) (g:DGet H a y o) (ry:RelV y u) (h:∀ s',Inv X pins σ H s' -> Q (.bool o.isSome) s') :
  wpAny (model X.prog X.w) A (compareOp .In u (.ref a)) Q E s:=by
 rcases g with ⟨kvs,k,e,ey,l⟩ | ⟨kvs,k,b,e,ey,eb,l⟩
 ·subst ey;obtain ⟨z,hd,vs,rel,dd⟩:=dk_rd I.hok e;refine wpAny_in_of (kV_is ry) hd dd.mapOf ?_;rw [<- (rel.val k).isSome_eq,<- l];exact h _ (I.tok _)
 ·subst ey
  cases (show u = Value.ref b from ry)
  obtain ⟨z,hd,xs,rel,dd⟩:=dt_rd I.hok e;refine wpAny_in_heap (tupleKind_room_in1 hu) (key_of I.hok eb) hd dd ?_;have q:=(rel.val k).isSome_eq;rw [Option.isSome_map] at q;rw [<- q,<- l];exact h _ (I.tok _)
theorem d_write {h':Heap} {t':Nat} {ob:HO} (I:Inv X pins σ H s) (mu:Mut (H a)) (hs:Heap.SameBut a s.heap h') (he:∃ q,h'.get? a = some q) (new:ObjOk X.prog X.w (upd H a ob) h' a ob) :
  Inv X pins σ (upd H a ob) { s with heap:=h',toks:=t' } :=
 I.write (x:=a) (e:=a) mu (.inl rfl) (fun b q hb z => (hs.2 b hb).trans z) he new
theorem dk_new {P:Program} {w:World} {H':Hp} {h':Heap} {kvs:List (Key × V)} {vs:List (Key × Value)} (z:kvs.length <= sizeLine) (hd:(a == sysModules) = false) (rel:KV kvs vs) (dd:h'.DictOf (mixKind P w) a vs) :
  ObjOk P w H' h' a (.dK kvs):=⟨z,hd,vs,rel,dd⟩
theorem d_setItem {H':Hp} {Q:Unit -> Shared -> Prop} (hu:A.units + 1 < cLine) (I:Inv X pins σ H s) (g:DPut H a y v H') (ry:RelV y u) (rv:RelV v r) (h:∀ s',Inv X pins σ H' s' -> Q () s') :
  wpAny (model X.prog X.w) A (setItem (.ref a) u r) Q E s:=by
 rcases g with ⟨kvs,k,e,ey,l,eH⟩ | ⟨kvs,k,b,e,ey,eb,l,eH⟩
 ·subst ey eH;obtain ⟨z,hd,vs,rel,dd⟩:=dk_of I.hok e;have hz:vs.length <= sizeLine:=by rw [<- rel.length];exact z
  have hl:(putK kvs k v).length <= sizeLine:=by have:=length_putK kvs k v;lia
  refine wpAny_setItem_pairs (hsz:=hz) (kV_is ry) dd fun h' dd' hs => h _ ?_;have he:∃ q,h'.get? a = some q:=let ⟨q,_,_,hq,_⟩:=dd';⟨q,hq⟩
  exact d_write I (by rw [e];exact True.intro) hs he (dk_new hl hd (rel.put k rv) dd')
 ·subst ey eH
  cases (show u = Value.ref b from ry)
  obtain ⟨z,hd,xs,rel,dd⟩:=dt_of I.hok e;have hz:xs.length <= sizeLine:=by rw [<- Paired.length rel];exact z
  have hl:(putK kvs k v).length <= sizeLine:=by have:=length_putK kvs k v;lia
  refine wpAny_setItem_heap (hsz:=hz) (tupleKind_room_in1 hu) (key_of I.hok eb) dd fun h' dd' hs => h _ ?_;obtain ⟨q,es,ep,hq,h2,h3,h4,_,h5⟩:=dd';refine d_write I (by rw [e];exact True.intro) hs ⟨q,hq⟩ ⟨hl,hd,_,(rel.put k eb rv).keeps fun c ys ec => ?_,q,es,ep,hq,h2,h3,h4,h5⟩
  rw [upd_ne (ne_of ec e (fun z => nomatch z))];exact ec
end
section
variable {X:Cx} {pins:List (Addr × Obj)} {σ:St} {H:Hp} {s:Shared} {a:Addr} {kvs:List (Key × V)} {k:Key} {u:Value} {A:Around} {E:Value -> Shared -> Prop}
end
def NoSl (i:Expr):Prop:=∀ ov iv,subscripted i false ov iv = operate [ov,iv] (getItem ov iv)
theorem subD_of {prog:Program} {w:World} {A:Around} {E:Value -> Shared -> Prop} {s:Shared} {env:Env} {value slice:Expr} {pos:Pos} {T id:String} {Q:Value -> Shared -> Prop}
  (hl:typeLookup (.type T) "__getitem__" = pure (some (.builtin id))) (hs:NoSl slice)
  (h:wpAny (model prog w) A (eval value env) (fun o s₁ => wpAny (model prog w) A (eval slice env) (fun i s₂ => s₂.TypeIs o T /\ wpAny (model prog w) A (getItem o i) Q E s₂) E s₁) E s) :
  wpAny (model prog w) A (eval (.Subscript value slice pos) env) Q E s:=by
 refine Subscript_ (wpAny_mono h (fun o s₁ h₁ => wpAny_mono h₁ (fun i s₂ h₂ => ?_) fun _ _ x => x) fun _ _ x => x);obtain ⟨hT,h₂⟩:=h₂;unfold subscriptTail;refine wpAny_bind ?_;rw [getitemInPython_of_ne hT.not_modules];refine wpAny_bind (wpAny_specialOf hT hl ?_);have fin:wpAny (model prog w) A (subscripted slice false o i) (fun r s₃ => wpAny (model prog w) A (letTemporaryGo value o r >>= fun _ => pure r) Q E s₃) E s₂:=by
  rw [hs o i];exact wpAny_operating (wpAny_mono h₂ (fun r s₃ h₃ => wpAny_bind (wpAny_letTemporaryGo (wpAny_pure h₃))) fun _ _ x => x)
 first
  | exact wpAny_pure (wpAny_bind fin)
  | exact wpAny_bind (wpAny_pure (wpAny_bind fin))
  | exact wpAny_bind fin
theorem dict_typeIs {X:Cx} {pins:List (Addr × Obj)} {σ:St} {H:Hp} {s:Shared} {a:Addr} {y:V} {o:Option V} (I:Inv X pins σ H s) (g:DGet H a y o):s.TypeIs (.ref a) "dict":=by
 rcases g with ⟨kvs,k,e,_,_⟩ | ⟨kvs,k,b,e,_,_,_⟩
 ·obtain ⟨_,_,vs,_,dd⟩:=dk_rd I.hok e;exact dd.typeIs
 ·obtain ⟨_,_,xs,_,dd⟩:=dt_rd I.hok e;exact dd.typeIs
def tDGet (td ty:TE):TE:=fun σ H Q => td σ H fun x H1 => ty σ H1 fun y H2 => ∃ a v,x = .ref a /\ DGet H2 a y (some v) /\ Q v H2
def sDPut (td ty tv:TE):TS:=fun D σ H => tv σ H fun v H1 => td σ H1 fun x H2 => ty σ H2 fun y H3 => ∃ a H4,x = .ref a /\ DPut H3 a y v H4 /\ D.nx σ H4
section
variable {X:Cx} {o i e value:Expr} {pos pos' tpos:Pos} {td ty tv:TE}
theorem pe_dget (hu:X.A.units + 1 < cLine) (ho:PE X o td) (hi:PE X i ty) (hs:NoSl i):PE X (.Subscript o i pos) (tDGet td ty):=by
 intro pins s σ H Q I h;refine subD_of PySem.F.slot_dict_getitem.lookup hs (thn (ho pins s σ H _ I h) fun u s1 ⟨x,H1,I1,rx,q1⟩ => thn (hi pins s1 σ H1 _ I1 q1) fun iv s2 hq55 => ?_);obtain ⟨y,H2,I2,ry,a,v,ex,g,q2⟩:=hq55;subst ex;obtain rfl:u = Value.ref a:=rx;exact ⟨dict_typeIs I2 g,d_getItem hu I2 g ry fun w' s3 I3 rw' => ⟨v,H2,I3,rw',q2⟩⟩
theorem ps_dput (hu:X.A.units + 1 < cLine) (ho:PE X o td) (hi:PE X i ty) (hv:PE X value tv) (hs:swapsWith value (some (.Subscript o i pos')) pos.line X.env = pure false) :
  PS X (.Assign [.Subscript o i pos'] value pos) (sDPut td ty tv):=by
 intro pins s σ H D I h;refine wpAny_Assign_Subscript (thn (hv pins s σ H _ I h) fun r s1 ⟨v,H1,I1,rv,q1⟩ => thn (ho pins s1 σ H1 _ I1 q1) fun u s2 ⟨x,H2,I2,rx,q2⟩ => thn (hi pins s2 σ H2 _ I2 q2) fun iv s3 hq58 => ?_) hs;obtain ⟨y,H3,I3,ry,a,H4,ex,g,q3⟩:=hq58;subst ex;obtain rfl:u = Value.ref a:=rx;exact d_setItem hu I3 g ry rv fun s4 I4 => ⟨σ,H4,I4,q3⟩
end
theorem dk_empty {P:Program} {w:World} {H:Hp} (h:Heap) (hb:sysModules < h.objs.size):ObjOk P w H (h.push { cls:=.type "dict",data:=.dict #[] }) h.objs.size (.dK []) :=
 ⟨Nat.zero_le _,beq_eq_false_iff_ne.mpr (Ne.symm (Nat.ne_of_lt hb)),[],.nil,Heap.DictOf.new h⟩
def tDNewK:TE:=fun _ H Q => ∀ p,H p = none -> Q (.ref p) (upd H p (.dK []))
section
variable {X:Cx} {pos:Pos}
theorem pe_dnewK:PE X (.Dict [] [] pos) tDNewK:=fun pins s σ H Q I h =>
 wpAny_Dict_empty ⟨.ref s.heap.objs.size,_,I.laid (a:=s.heap.objs.size) (o:=.dK []) (t':=s.toks) (fun _ _ q => Heap.get?_push_of_some _ q) (Nat.le_refl _) (dk_empty s.heap I.big),rfl,h _ (I.hok.fresh (Nat.le_refl _))⟩
end
def tPairs:List (TE × TE) -> St -> Hp -> (List (V × V) -> Hp -> Prop) -> Prop
 | [],_,H,Q => Q [] H
 | (tk,tv) :: r,σ,H,Q => tk σ H fun x H1 => tv σ H1 fun y H2 => tPairs r σ H2 fun ps H3 => Q ((x,y) :: ps) H3
abbrev VV:List (V × V) -> List (Value × Value) -> Prop:=Paired fun p q => RelV p.1 q.1 /\ RelV p.2 q.2
def PPs (X:Cx) (pos:Pos) (keys:List (Option Expr)) (values:List Expr) (trs:List (TE × TE)):Prop :=
 ∀ (pins:List (Addr × Obj)) (s:Shared) (σ:St) (H:Hp) (Q:List (V × V) -> Hp -> Prop),Inv X pins σ H s -> tPairs trs σ H Q ->
  wpAny (model X.prog X.w) X.A (evalPairs (pairTrees keys values X.env pos)) (fun vs s' => ∃ ps H',Inv X pins σ H' s' /\ VV ps vs /\ Q ps H') X.xe s
theorem pps_nil {X:Cx} {pos:Pos}:PPs X pos [] [] []:=fun pins s σ H Q I h => pairTrees_nil_walk ⟨[],H,I,.nil,h⟩
theorem pps_cons {X:Cx} {pos:Pos} {k v:Expr} {ks:List (Option Expr)} {vs:List Expr} {tk tv:TE} {trs:List (TE × TE)} (hk:PE X k tk) (hv:PE X v tv) (hr:PPs X pos ks vs trs) :
  PPs X pos (some k :: ks) (v :: vs) ((tk,tv) :: trs):=fun pins s σ H Q I h =>
 pairTrees_cons_walk (thn (hk pins s σ H _ I h) fun u s1 ⟨x,H1,I1,rx,q1⟩ => thn (hv pins s1 σ H1 _ I1 q1) fun w2 s2 ⟨y,H2,I2,ry,q2⟩ =>
  thn (hr pins s2 σ H2 _ I2 q2) fun ws s3 ⟨ps,H3,I3,rel,q3⟩ => ⟨(x,y) :: ps,H3,I3,.cons ⟨rx,ry⟩ rel,q3⟩)
def mergeK (kvs more:List (Key × V)):List (Key × V):=more.foldl (fun acc kv => putK acc kv.1 kv.2) kvs
theorem KV.merge:∀ {more:List (Key × V)} {rs:List (Key × Value)} {kvs:List (Key × V)} {vs:List (Key × Value)},KV more rs -> KV kvs vs -> KV (mergeK kvs more) (merged vs rs):=by
 intro more rs kvs vs r;unfold KV at r
 induction r generalizing kvs vs with
 | nil => intro q;exact q
 | @cons p q ps qs h t ih =>
  intro r0;have e:KV (putK kvs p.1 p.2) (stored vs q.1 q.2):=by
   have:=r0.put p.1 h.2;rw [<- h.1];exact this
  exact ih e
theorem length_mergeK:∀ (more kvs:List (Key × V)),(mergeK kvs more).length <= kvs.length + more.length
 | [],kvs => by show kvs.length <= kvs.length + 0;lia
 | p :: r,kvs => by
  have h1:=length_mergeK r (putK kvs p.1 p.2);have h2:=length_putK kvs p.1 p.2;show (mergeK (putK kvs p.1 p.2) r).length <= _;rw [List.length_cons];lia
theorem carries_of {P:Program} {w:World}:∀ {kvs:List (Key × V)} {ws:List (Value × Value)},VV (kvs.map fun kv => (kV kv.1,kv.2)) ws -> ∃ rs,Carries (mixKind P w) ws rs /\ KV kvs rs
 | [],_,r => by rw [List.map_nil] at r;cases r;exact ⟨[],True.intro,.nil⟩
 | p :: kvs,_,r => by
  rw [List.map_cons] at r
  cases r with
  | @cons a b as bs h t =>
   obtain ⟨rs,c,q⟩:=carries_of (P:=P) (w:=w) t;obtain ⟨b1,b2⟩:=b;exact ⟨(p.1,b2) :: rs,⟨kV_is h.1,rfl,c⟩,.cons ⟨rfl,h.2⟩ q⟩
def tDisp (trs:List (TE × TE)):TE:=fun σ H Q => ∀ p,H p = none -> tPairs trs σ (upd H p (.dK [])) fun ps H2 => H2 p = some (.dK []) /\ ∃ kvs:List (Key × V),ps = kvs.map (fun kv => (kV kv.1,kv.2)) /\ kvs.length <= 15 /\ Q (.ref p) (upd H2 p (.dK (mergeK [] kvs)))
theorem pe_disp {X:Cx} {pos:Pos} {keys:List (Option Expr)} {values:List Expr} {trs:List (TE × TE)} (h:PPs X pos keys values trs) (hall:keys.all (·.isSome) = true) (hl:keys.length = values.length) (h0:keys ≠ [])
  (h15:keys.length <= 15):PE X (.Dict keys values pos) (tDisp trs):=by
 intro pins s σ H Q I q;have hn:=I.hok.fresh (Nat.le_refl s.heap.objs.size);have I1:=I.laid (a:=s.heap.objs.size) (o:=.dK []) (h':=s.heap.push { cls:=.type "dict",data:=.dict #[] }) (t':=s.toks) (fun _ _ q => Heap.get?_push_of_some _ q) (Nat.le_refl _) (dk_empty s.heap I.big);refine wpAny_Dict_walk (knd:=mixKind X.prog X.w) hall hl h0 h15 (thn (h pins _ σ _ _ I1 (q _ hn)) fun ws s2 hq62 => ?_);obtain ⟨ps,H2,I2,rel,e,kvs,ep,lk,q2⟩:=hq62;subst ep;obtain ⟨rs,c,rk⟩:=carries_of (P:=X.prog) (w:=X.w) rel;obtain ⟨z,hd,vs0,r0,dd⟩:=dk_of I2.hok e;cases r0;refine ⟨rs,c,dd,fun h' dd' hs => ⟨.ref s.heap.objs.size,_,?_,rfl,q2⟩⟩;have hz:(mergeK [] kvs).length <= sizeLine:=by
  have h1:=length_mergeK kvs [];rw [List.length_nil] at h1;rw [sizeLine_eq];lia
 have he:∃ q,h'.get? s.heap.objs.size = some q:=let ⟨q,_,_,hq,_⟩:=dd';⟨q,hq⟩
 exact d_write I2 (by rw [e];exact True.intro) hs he (dk_new hz hd (rk.merge .nil) dd')
section
variable {X:Cx} {pins:List (Addr × Obj)} {σ:St} {H:Hp} {s:Shared} {a:Addr} {y d:V} {u r:Value} {o:Option V} {A:Around} {E:Value -> Shared -> Prop}
end
section
variable {X:Cx} {o e f:Expr} {apos cpos:Pos} {td ty tx:TE}
end
section
variable {X:Cx} {pins:List (Addr × Obj)} {σ:St} {H:Hp} {s:Shared} {a:Addr} {kvs:List (Key × V)} {A:Around} {E:Value -> Shared -> Prop}
end
section
variable {X:Cx} {pins:List (Addr × Obj)} {σ:St} {H:Hp} {s:Shared} {a:Addr} {y:V} {u:Value} {A:Around} {E:Value -> Shared -> Prop}
end
end L2
namespace Att
open PySem PySem.W PySem.Calls PyProof.Rows
theorem ints_of_wellAll {P:Params} {h:Heap}:∀ (ns:List Int) (vs:List Value),WellAll P h vs (ns.map WData.int) -> IntsAre vs ns:=by
 intro ns
 induction ns with
 | nil =>
  intro vs w;rw [List.map_nil] at w;cases w;exact .nil
 | cons n ns ih =>
  intro vs w;rw [List.map_cons] at w
  cases w with
  | cons a b =>
   cases a;exact .cons _ _ (ih _ b)
theorem script_of {l:OpenLaw} {n:Nat} (hn:l.most = some n) {P:Params} {h:Heap} {args:List WData} {vals:List Value}
  (hpre:l.row.toRowW.claim.pre args = true) (hwl:WellAll P h vals args) :
  ∃ a vs ns,vals = [Value.ref a] /\ args = [WData.list (ns.map WData.int)] /\ h.get? a = some { cls:=.type "list",data:=.seq vs.toArray } /\ IntsAre vs ns /\ ns.length <= n:=by
 have hsh:WShape.hasAll [] args [.list .int] = true:=(pre_splitW hpre).1;have hc:l.pre.holds [] { args:=args } = true:=(pre_splitW hpre).2;obtain ⟨d,r,rfl,h1,h2⟩:=hasAllW_cons hsh;obtain rfl:=hasAllW_nil h2;obtain ⟨xs,rfl,h3⟩:=hasW_list h1;obtain ⟨ns,rfl⟩:=items_int h3;have hlen:ns.length <= n:=by
  unfold OpenLaw.pre at hc;have h4:(WTm.not (.lt (.lit (.int (n:Int))) (.len (.arg 0)))).holds [] { args:=[.list (ns.map .int)] } = true:=by
   have h4:=(holds_andW hc).1;rw [hn] at h4;exact h4
  have h5:=condW_of h4 (w_not (w_lt w_lit (w_len_list (w_arg rfl))));rw [List.length_map] at h5;refine Nat.le_of_not_lt fun q => ?_;have q':(n:Int) < ((ns.length:Nat):Int):=by lia
  first
   | (rw [decide_eq_true q'] at h5;exact absurd h5 (by decide))
   | (simp at h5;lia)
 cases hwl with
 | cons w1 w2 =>
  cases w2
  cases w1 with
  | list ho hall => exact ⟨_,_,ns,rfl,rfl,ho,ints_of_wellAll ns _ hall,hlen⟩
theorem post_true (l:OpenLaw) (args:List WData):l.row.toRowW.claim.post args (.bool true) args = true :=
 postW_of (r:=l.row.toRowW) (X:=(true == true))
  (show WShape.has [] (.bool true) .bool = true by first | rfl | decide | simp [WShape.has,WShape.arms,WShape.armsAll])
  (show (WTm.eq .res (.lit (.bool true))).value [] { args:=args,res:=some (.bool true),after:=args } = some (.bool (true == true)) from w_eq_bool (w_res rfl) w_lit) rfl
theorem attach_call {l:OpenLaw} {n:Nat} {q:Program} {loose:List Str} {XP:(Str -> Option Value) -> Heap -> Prop} {YP:World -> Heap -> Prop} {d:DefRec}
  (hn:l.most = some n) (hdf:d.params.defaults = [])
  (call:∀ (w:World) (s₀ s₁:Shared) (mg mb:Str -> Option Value) (fa:Addr) (o:Obj) (pm cd doc:Value) (a:Addr) (vs:List Value) (ns:List Int),
   Ground q loose [] XP w s₀ mg mb s₁.heap -> YP w s₁.heap ->
   s₁.heap.get? fa = some o -> o.data = .func (docDef d.name d.params d.body d.scope pm cd doc) -> s₁.heap.CodeRec cd d.name -> mg d.name = some (.ref fa) ->
   s₁.heap.get? a = some { cls:=.type "list",data:=.seq vs.toArray } -> IntsAre vs ns -> ns.length <= n -> s₁.gens = #[] ->
   codeAny (model l.prog w) callerA (.call (.ref fa) ⟨[.ref a],[]⟩) (fun r s' => r = .ok (.ret (.bool true)) /\ OldK s₁.heap s'.heap /\ s'.os = s₁.os /\ AllBare s'.gens) s₁) :
  WalkO q loose XP YP l.row.toRowW d [] (fun f vs => PySem.call f vs):=by
 intro w s₀ s₁ mg mb G Y fa o pm cd doc dV kV ho hd hcd hD hmg hg args vals as hpre hlay hrd hwl hlo;obtain rfl:dV = .none:=Dflts.none hD hdf;obtain rfl:kV = .none:=Dflts.noKw hD;obtain ⟨a,vs,ns,rfl,rfl,hobj,hints,hlen⟩:=script_of hn hpre hwl;refine enter_call (codeAny_mono (call w s₀ s₁ mg mb fa o pm cd doc a vs ns G Y ho (fd_plain hd) hcd hmg hobj hints hlen hg) fun r s' hq => ?_);obtain ⟨rfl,h2,h3,h4⟩:=hq;exact ⟨.inl ⟨.bool true,.bool true,[],rfl,fun _ => rfl,.bool true,post_true l _,fun _ => ⟨List.Pairwise.nil,fun _ hm => (nomatch hm)⟩⟩,h2,h3,h4⟩
section
variable {prog:Program} {w:World} {A:Around} {E:Value -> Shared -> Prop} {s:Shared} {K:Frag}
end
end Att
namespace L2
open PySem PySem.Spec PyProof.Rows
theorem vals_ints:∀ {vs:List Value} {ns:List Int},IntsAre vs ns -> Vals (ns.map V.int) vs
 | _,_,.nil => .nil
 | _,_,.cons n t h => .cons ⟨t,rfl⟩ (vals_ints h)
structure LamOk (q:Program) (K:PySem.W.Frag):Prop where
 nt:PySem.W.noTabs K = true
 nd:((lamTabs K).map (·.2.1)).Nodup
 fd:∀ x ∈ lamNames,PySem.W.tabIn K x = none \/ ((recsOf q).find? (fun e => e.name == x)).isSome = true
theorem LamOk.at {q:Program} {K:PySem.W.Frag} {loose:List Str} {mean:ExcName -> Option Value} {mg mb:Str -> Option Value} {h:Heap} (L:LamOk q K) (T:Top q loose mean mg mb h) (X:K.In h):∀ t ∈ lamTabs K,PySem.W.CodeHd h t.1 t.2.1 /\ h.get? t.2.1 = some (PySem.W.tabObj #[]):=fun t ht => by
 unfold lamTabs at ht;obtain ⟨x,hx,e⟩:=List.mem_filterMap.mp ht;obtain ⟨p,e1,e2⟩:=Option.map_eq_some_iff.mp e;obtain ⟨c,Pt⟩:=p;subst e2;rcases L.fd x hx with z | z
 ·rw [z] at e1;cases e1
 ·obtain ⟨d,hd⟩:=Option.isSome_iff_exists.mp z;exact PySem.W.tab_of T X hd e1
def tbOf:List (Addr × Addr × Str) -> Addr -> Option HO
 | [],_ => none
 | t :: r,b => if b = t.2.1 then some (.tbl #[.str t.2.2 0]) else tbOf r b
theorem tbOf_some {b:Addr} {o:HO}:∀ {l:List (Addr × Addr × Str)},tbOf l b = some o -> ∃ t ∈ l,b = t.2.1 /\ o = .tbl #[.str t.2.2 0]
 | t :: r,e => by
  unfold tbOf at e;by_cases z:b = t.2.1
  ·rw [if_pos z] at e;cases e;exact ⟨t,.head _,z,rfl⟩
  ·rw [if_neg z] at e;obtain ⟨u,hu,q⟩:=tbOf_some e;exact ⟨u,.tail _ hu,q⟩
theorem tbOf_mem {t:Addr × Addr × Str}:∀ {l:List (Addr × Addr × Str)},(l.map (·.2.1)).Nodup -> t ∈ l -> tbOf l t.2.1 = some (.tbl #[.str t.2.2 0])
 | u :: r,nd,m => by
  obtain ⟨n1,n2⟩:=List.nodup_cons.mp nd;unfold tbOf;rcases List.mem_cons.mp m with rfl | m
  ·rw [if_pos rfl]
  ·rw [if_neg fun z => n1 (List.mem_map.mpr ⟨t,m,z⟩)];exact tbOf_mem n2 m
theorem law_call {P q:Program} {w:World} {K:PySem.W.Frag} {mg mb:Str -> Option Value} {CX:CXT} {k:Nat} {fa a:Addr} {fd:FuncData} {x:Str} {sp:Sp} {s₁:Shared} {vs:List Value} {ns:List Int}
  (KX:K.In s₁.heap) (hns:s₁.heap.Ns mainGlobals mg) (hb:s₁.heap.Ns builtinsNs mb) (hbb:∀ x:Str,x ≠ "__name__" -> mb x = bootBuiltins x) (hlim:s₁.heap.NoLimit) (hbm:BmAt mg s₁.heap)
  (hT:∀ t ∈ lamTabs K,PySem.W.CodeHd s₁.heap t.1 t.2.1 /\ s₁.heap.get? t.2.1 = some (PySem.W.tabObj #[])) (L:LamOk q K) (hg:s₁.gens = #[])
  (ha:s₁.heap.get? a = some { cls:=.type "list",data:=.seq vs.toArray }) (hi:IntsAre vs ns) (hl:ns.length <= sizeLine) (hr:Room k callerA)
  (F:∀ base:Heap,K.In base -> base.Ns mainGlobals mg -> FnOk P w K mg base CX k fa fd [x] sp) (hbind:∀ (s:Shared) (u:Value),BindsTo s fd ⟨[u],[]⟩ [(x,u)])
  (hsp:∀ H:Hp,True -> SqL K H a (ns.map V.int) -> sp [.ref a] H (fun v _ => v = .bl true) fun _ _ _ => False)
  (hCX:∀ H e s',CX [] H s₁ (fun _ _ _ => False) e s' -> False) :
  codeAny (model P w) callerA (.call (.ref fa) ⟨[.ref a],[]⟩) (fun r s' => r = .ok (.ret (.bool true)) /\ OldK s₁.heap s'.heap /\ s'.os = s₁.os /\ AllBare s'.gens) s₁:=by
 have rv:=vals_ints hi;have lenV:=hi.length;have naT:∀ t ∈ lamTabs K,t.2.1 ≠ a:=fun t ht z => by
  have e:=(hT t ht).2;rw [z,ha] at e;cases e
 let oS:Obj:={ cls:=.type "list",data:=.seq vs.toArray }
 have core:∀ S:Option HO,(S = none \/ S = some (.frz oS (.lst (ns.map V.int)))) -> (S ≠ none -> K.lookup a = none) -> SqL K (fun b => if b = a then S else tbOf (lamTabs K) b) a (ns.map V.int) ->
   codeAny (model P w) callerA (.call (.ref fa) ⟨[.ref a],[]⟩) (fun r s' => r = .ok (.ret (.bool true)) /\ OldK s₁.heap s'.heap /\ s'.os = s₁.os /\ AllBare s'.gens) s₁:=by
  intro S hS hK hSq;generalize hH:(fun b => if b = a then S else tbOf (lamTabs K) b) = H at hSq
  have hA:H a = S:=by rw [<- hH];exact if_pos rfl
  have hB:∀ b,b ≠ a -> H b = tbOf (lamTabs K) b:=fun b z => by rw [<- hH];exact if_neg z
  have free:∀ {b:Addr} {o:Obj},s₁.heap.get? b = some o -> o ≠ PySem.W.tabObj #[] -> (b = a -> S = none) -> H b = none:=fun {b o} e hn hz => by
   by_cases z:b = a
   ·rw [z,hA];exact hz z
   ·rw [hB b z]
    cases q:tbOf (lamTabs K) b with
    | none => rfl
    | some u =>
     obtain ⟨t,ht,e1,_⟩:=tbOf_some q;have e2:=(hT t ht).2;rw [<- e1,e] at e2;exact absurd (Option.some.inj e2) hn
  have nsK:∀ {b:Addr} {m:Str -> Option Value},s₁.heap.Ns b m -> (hidT s₁.heap H).Ns b m:=fun {b m} ⟨o,es,ep,e,d,r⟩ => ⟨o,es,ep,hidT_get e (free e (fun z => by rw [z] at d;cases d) fun z => by rw [z,ha] at e;cases e;cases d),d,r⟩
  have hKb:K.In (hidT s₁.heap H):=fun b o e => hidT_get (KX b o e) (free (KX b o e) (fun z => by
    have h2:=List.all_eq_true.mp L.nt (b,o) (PySem.W.mem_of_lookupK e);subst z;exact absurd (show false = true from h2) Bool.false_ne_true) fun z => by
    cases q:S with
    | none => rfl
    | some u => rw [z,hK (by rw [q];simp)] at e;cases e)
  have hcd:∀ t ∈ lamTabs K,PySem.W.CodeHd (hidT s₁.heap H) t.1 t.2.1:=fun t ht => by
   obtain ⟨o,us,fl,tf,fg,tg,inF,tx,tt,e1,e2,r⟩:=(hT t ht).1;exact ⟨o,us,fl,tf,fg,tg,inF,tx,tt,hidT_get e1 (free e1 (fun z => by rw [z] at e2;cases e2) fun z => by rw [z,ha] at e1;cases e1;exact absurd (Value.type.inj e2) (by decide)),e2,r⟩
  have hbm':BmAt mg (hidT s₁.heap H):=by
   obtain ⟨bm,ob,b1,b2,b3,b4,b5⟩:=hbm;exact ⟨bm,ob,b1,b2,hidT_get b3 (free b3 (fun z => by rw [z] at b4;cases b4) fun z => by rw [z,ha] at b3;cases b3;exact absurd (Value.type.inj b4) (by decide)),b4,b5⟩
  have hok:HOk P w H s₁.heap:=fun b u e => by
   by_cases z:b = a
   ·rw [z,hA] at e;rcases hS with h0 | h0
    ·rw [h0] at e;cases e
    ·rw [h0] at e;cases e;subst z;exact ⟨ha,by rw [List.length_map];exact hl,vs,_,rv,ha⟩
   ·rw [hB b z] at e;obtain ⟨t,ht,e1,e2⟩:=tbOf_some e;subst e2;exact ⟨#[],by rw [e1];exact (hT t ht).2,trivial,fun pos cv c => by cases (show (none:Option Value) = some cv from c)⟩
  have hM:Mod K mg (hidT s₁.heap H):=⟨hKb,nsK hns,⟨mb,nsK hb,hbb⟩,let ⟨mc,h1,h2⟩:=hlim;⟨mc,nsK h1,h2⟩,hcd,hbm'⟩
  have e0:Env0 P w K mg (hidT s₁.heap H) callerA [] s₁ H:=⟨rfl,hM,fun b o e => of_hidT e,Nat.le_of_eq (hidT_size _ _),trivial,fun b hb => absurd (show b ∈ ([]:List Addr) from hb) (by simp),hok,.of_eq hg,fun t ht => ⟨#[],by
   rw [hB _ (naT t ht),tbOf_mem L.nd ht,Array.append_empty]⟩⟩
  refine codeAny_mono ((F _ hKb (nsK hns)).run callerA [] s₁ H ⟨[.ref a],[]⟩ [.ref a] [.ref a] _ _ hr e0 (hbind s₁ (.ref a)) (.cons rfl .nil) (hsp H trivial hSq)) fun r s' h => ?_
  cases r with
  | error e => exact (hCX H e s' h).elim
  | ok fl =>
   cases fl with
   | next => exact False.elim h
   | brk => exact False.elim h
   | cont => exact False.elim h
   | ret u =>
    obtain ⟨v,H',os,bare,un,hok',r',qv⟩:=h;have q':v = .bl true:=qv;subst q';obtain rfl:u = Value.bool true:=r';have each:∀ b o,s₁.heap.get? b = some o -> s'.heap.get? b = some o \/ ∃ c,PySem.W.CodeHd s₁.heap c b /\ o = PySem.W.tabObj #[] /\ ∃ ps,s'.heap.get? b = some (PySem.W.tabObj ps):=fun b o e => by
     cases qb:H b with
     | none => exact .inl (un.keep b o e qb (by intro z;exact absurd (show b ∈ ([]:List Addr) from z) (by simp)) (by simp))
     | some u =>
      by_cases z:b = a
      ·rw [z,hA] at qb;rcases hS with h0 | h0
       ·rw [h0] at qb;cases qb
       ·have z2:=un.frzs a oS _ (by rw [hA,h0])
        obtain ⟨e2,_⟩:=hok' a _ z2;rw [z,ha] at e;cases e;exact .inl (by rw [z];exact e2)
      ·have qt:=qb;rw [hB b z] at qt;obtain ⟨t,ht,e1,e2⟩:=tbOf_some qt;obtain ⟨h1,h2⟩:=hT t ht;rw [<- e1] at h1 h2;rw [e] at h2;cases h2;subst e2;obtain ⟨more,e3⟩:=un.tbls b _ qb;obtain ⟨qs,e4,_⟩:=hok' b _ e3;exact .inr ⟨_,h1,rfl,qs,e4⟩
    refine ⟨rfl,⟨fun b o e => ?_,fun b o e => ?_⟩,os,bare⟩
    ·rcases each b o e with z | ⟨c,hc,z,ps,hp⟩
     ·exact .inl z
     ·subst z;exact .inr (.inl ⟨(hc.tab e).isCodeTable,rfl,#[],ps,rfl,by rw [Array.empty_append];exact hp⟩)
    ·rcases each b o e with z | ⟨c,hc,z,ps,hp⟩
     ·exact ⟨o,z⟩
     ·exact ⟨_,hp⟩
 cases hk:K.lookup a with
 | some o =>
  have e:=KX a o hk;rw [ha] at e;cases e;exact core none (.inl rfl) (fun z => absurd rfl z) (.inr ⟨_,vs.toArray,_,hk,rfl,rfl,rfl,by rw [List.size_toArray,lenV];exact hl,by simpa using rv⟩)
 | none => exact core (some (.frz oS (.lst (ns.map V.int)))) (.inr rfl) (fun _ => hk) (.inl (.inr ⟨oS,if_pos rfl⟩))
theorem walk_of {l:PySem.W.OpenLaw} {n k:Nat} {q:Program} {loose:List Str} {XP:(Str -> Option Value) -> Heap -> Prop} {YP:World -> Heap -> Prop} {d:DefRec} {K:Params -> PySem.W.Frag} {CX:World -> CXT} {sp:World -> Sp} {x:Str}
  (hn:l.most = some n) (hn2:n <= sizeLine) (hdf:d.params.defaults = []) (hr:Room k callerA)
  (hY:∀ (w:World) (h:Heap),YP w h -> (K w.params).In h)
  (F:∀ (w:World) (mg:Str -> Option Value) (fa:Addr) (h:Heap),(K w.params).In h -> h.Ns mainGlobals mg -> mg d.name = some (.ref fa) ->
   ∃ fd:FuncData,(∀ (s:Shared) (u:Value),BindsTo s fd ⟨[u],[]⟩ [(x,u)]) /\
    ∀ base:Heap,(K w.params).In base -> base.Ns mainGlobals mg -> FnOk l.prog w (K w.params) mg base (CX w) k fa fd [x] (sp w))
  (hsp:∀ (w:World) (H:Hp) (a:Addr) (ns:List Int),ns.length <= n -> True -> SqL (K w.params) H a (ns.map V.int) -> sp w [.ref a] H (fun v _ => v = .bl true) fun _ _ _ => False)
  (hCX:∀ (w:World) (H:Hp) (s:Shared) (e:Value) (s':Shared),CX w [] H s (fun _ _ _ => False) e s' -> False) (hL:∀ (w:World) (h:Heap),(K w.params).In h -> LamOk q (K w.params)) :
  PySem.W.WalkO q loose XP YP l.row.toRowW d [] (fun f vs => PySem.call f vs):=by
 refine Att.attach_call hn hdf fun w s₀ s₁ mg mb fa o pm cd doc a vs ns G Y ho hd hcd hmg hobj hints hlen hg => ?_;have KX:=hY w _ Y;obtain ⟨fd,hb,hF⟩:=F w mg fa _ KX G.T.g hmg;have L:=hL w _ KX;exact law_call KX G.T.g G.T.b G.T.builtins G.T.nolimit G.T.bmain (L.at G.T KX) L hg hobj hints (Nat.le_trans hlen hn2) hr hF hb (fun H hO hS => hsp w H a ns hlen hO hS) fun H e s' => hCX w H s₁ e s'
def inClass (s:Stmt) (j:Nat):Stmt:=match s with
 | .ClassDef _ _ _ body _ _ _ _ _ _ _ => body.getD j (.Pass ⟨0,0,0,0⟩)
 | _ => .Pass ⟨0,0,0,0⟩
def defArgs (s:Stmt):Arguments:=match s with
 | .FunctionDef _ a _ _ _ _ _ _ _ _ => a
 | _ => { posonlyargs:=[],args:=[],vararg:=none,kwonlyargs:=[],kw_defaults:=[],kwarg:=none,defaults:=[] }
def defBody (s:Stmt):List Stmt:=match s with
 | .FunctionDef _ _ b _ _ _ _ _ _ _ => b
 | _ => []
def defScope (s:Stmt):Scope:=match s with
 | .FunctionDef _ _ _ _ _ _ sc _ _ _ => sc
 | _ => { kind:=.function,names:=[],isGenerator:=false,isCoroutine:=false }
abbrev CX0:CXT:=fun _ _ _ _ _ _ => False
abbrev E0:XK:=fun _ _ _ => False
theorem pass0 {X:Cx}:Passes CX0 X E0:=fun _ _ _ _ _ _ _ h => h.elim
structure Fun (K:PySem.W.Frag) (x qual:Str) (st:Stmt) (f:Addr) (fd:FuncData):Prop where
 ex:∃ (oc:Value) (od:Option Addr) (kV doc pm:Value) (an:Option Addr) (cdv ct:Value) (osl:Array (Option Value)),
  fd = PySem.W.fnOf x qual (defArgs st) (defBody st) (defScope st) .none kV doc pm an cdv ct /\ K.lookup f = some ⟨oc,od,.func fd,osl⟩ /\ PySem.W.codeIn K cdv qual = true
 kp:PySem.W.keepIn K (.ref f) = true
section
variable {P:Program} {w:World} {K:PySem.W.Frag} {mg:Str -> Option Value} {base:Heap}
theorem Fun.ok {x qual:Str} {st:Stmt} {f:Addr} {fd:FuncData} {N ps:List Str} {k:Nat} {sp:Sp} (F:Fun K x qual st f fd) (S:FnScope N ps (defScope st)) (len:∀ vs H Q E,sp vs H Q E -> vs.length = ps.length)
  (hbody:∀ (cdv:Value) (A:Around) (outer:List Env) (s:Shared) (H:Hp) (vs:List V) (Q:VK) (E:XK),Room k (A.deeper (envOfC qual (defScope st) s.heap.objs.size f cdv)) -> sp vs H Q E ->
   ∃ t,PSs (cxOf CX0 P w K mg base N qual (defScope st) f cdv A outer s H E).nox (defBody st) t /\ t { nx:=fun _ H' => Q .non H',rt:=Q } (start N vs) H):FnOk P w K mg base CX0 (k + 1) f fd ps sp:=by
 obtain ⟨oc,od,kV,doc,pm,an,cdv,ct,osl,rfl,lk,hcd⟩:=F.ex;refine fn_of lk hcd S len fun A outer s H vs Q E hr hsp => ?_;obtain ⟨t,h,q⟩:=hbody cdv A outer s H vs Q E hr hsp;exact ⟨t,h.nox,q⟩
theorem Fun.binds {x qual:Str} {st:Stmt} {f:Addr} {fd:FuncData} {ps:List Str} (F:Fun K x qual st f fd)
  (h:∀ (kV doc pm:Value) (an:Option Addr) (cdv ct:Value) (us:List Value),us.length = ps.length -> bindArgs (PySem.W.fnOf x qual (defArgs st) (defBody st) (defScope st) .none kV doc pm an cdv ct) ⟨us,[]⟩ = pure (ps.zip us)):Binds K fd ps []:=by
 obtain ⟨oc,od,kV,doc,pm,an,cdv,ct,osl,rfl,lk,hcd⟩:=F.ex;exact .all (h kV doc pm an cdv ct)
theorem fun_mk {x qual:Str} {st:Stmt} {f:Addr} {oc:Value} {od an:Option Addr} {osl:Array (Option Value)} {kV doc pm cdv ct:Value} (l:K.lookup f = some ⟨oc,od,.func (PySem.W.fnOf x qual (defArgs st) (defBody st) (defScope st) .none kV doc pm an cdv ct),osl⟩)
  (c:PySem.W.codeIn K cdv qual = true) (k:PySem.W.keepIn K (.ref f) = true):Fun K x qual st f (PySem.W.fnOf x qual (defArgs st) (defBody st) (defScope st) .none kV doc pm an cdv ct):=⟨⟨oc,od,kV,doc,pm,an,cdv,ct,osl,rfl,l,c⟩,k⟩
end
theorem hu_of {A:Around} {k:Nat} (hr:Room k A):A.units + 1 < cLine:=Nat.lt_of_le_of_lt (Nat.add_le_add_left (by decide:1 <= 64) _) hr.units
section
variable {X:Cx}
theorem pv (i:Nat) {x:Str} {pos:Pos} (hN:X.N[i]? = some x:=by rfl) (hv:Vis X.env.scope x:=by first | exact Or.inl rfl | exact Or.inr (Or.inl rfl) | exact Or.inr (Or.inr rfl)) (hd:(x == ("__debug__":Str)) = false:=by decide)
  (hcd:(x == ("__classdict__":Str)) = false:=by decide):PE X (.Name x pos) (tVar i):=pe_var hN hv hd hcd
end
def Same (H H':Hp):Prop:=∀ b o,H b = some o -> H' b = some o
theorem Same.refl (H:Hp):Same H H:=fun _ _ h => h
section
variable {κ:Type} [DecidableEq κ]
theorem valV_in {kvs:List (κ × V)} {k:κ} {v:V} (h:valV kvs k = some v):k ∈ kvs.map (·.1):=by
 have q:(kvs.any fun kv => decide (kv.1 = k)) = true:=by
  rw [valV_any,h]
  all_goals rfl
 obtain ⟨p,hp,e⟩:=List.any_eq_true.mp q;exact List.mem_map.mpr ⟨p,hp,of_decide_eq_true e⟩
end
def closL (cells:List (Str × Addr)):List (Str × NameKind) -> List (Str × Addr) -> List (Str × Addr)
 | [],acc => acc
 | (n,k) :: r,acc => if k = .free then closL cells r ((n,(cells.lookup n).getD 0) :: acc) else closL cells r acc
theorem closureFor_eq {scope:Scope} {env:Env} (h:∀ x ∈ scope.names,x.2 = .free -> ∃ c,env.cells.lookup x.1 = some c):closureFor scope env = pure (closL env.cells scope.names []):=by
 have all:∀ (l:List (Str × NameKind)) (acc:List (Str × Addr)),(∀ x ∈ l,x.2 = .free -> ∃ c,env.cells.lookup x.1 = some c) ->
   (forIn l acc fun (x:Str × NameKind) (cs:List (Str × Addr)) => (match x with | (name,kind) => if (kind == NameKind.free) = true then (do let c <- cellOf env name;pure (ForInStep.yield ((name,c) :: cs))) else pure (ForInStep.yield cs):Sem (ForInStep (List (Str × Addr))))) = (pure (closL env.cells l acc):Sem (List (Str × Addr))):=by
  intro l
  induction l with
  | nil => intro acc _;rfl
  | cons x r ih =>
   intro acc hl;obtain ⟨n,k⟩:=x;rw [List.forIn_cons];by_cases hk:k = .free
   ·subst hk;obtain ⟨c,hc⟩:=hl (n,.free) List.mem_cons_self rfl;have e:cellOf env n = pure c:=by unfold cellOf;rw [hc]
    simp only [beq_self_eq_true,if_true,e,closL,pure_bind];rw [ih _ fun y hy => hl y (List.mem_cons_of_mem _ hy),hc];rfl
   ·have hb:(k == NameKind.free) = false:=by simpa using hk
    simp only [hb,Bool.false_eq_true,if_false,closL,hk,pure_bind];exact ih _ fun y hy => hl y (List.mem_cons_of_mem _ hy)
 unfold closureFor;simp only [bind_pure];exact all scope.names [] h
theorem closL_sub {cells:List (Str × Addr)}:∀ {l:List (Str × NameKind)} {acc:List (Str × Addr)},(∀ x ∈ l,x.2 = .free -> ∃ c,cells.lookup x.1 = some c) -> (∀ x c,acc.lookup x = some c -> cells.lookup x = some c) ->
  ∀ x c,(closL cells l acc).lookup x = some c -> cells.lookup x = some c
 | [],_,_,h,x,c,e => h x c e
 | (n,k) :: r,acc,hl,h,x,c,e => by
  unfold closL at e;have hr:∀ y ∈ r,y.2 = .free -> ∃ c,cells.lookup y.1 = some c:=fun y hy => hl y (List.mem_cons_of_mem _ hy)
  split at e
  ·rename_i hk;refine closL_sub hr (fun y d q => ?_) x c e;rw [List.lookup_cons] at q
   split at q
   ·rename_i hy;obtain ⟨c',hc'⟩:=hl (n,k) List.mem_cons_self hk;have hy':y = n:=by simpa using hy
    subst hy';simp only [] at hc';rw [hc'] at q ⊢;exact q
   ·exact h y d q
  ·exact closL_sub hr h x c e
theorem closL_acc {cells:List (Str × Addr)} {x:Str}:∀ {l:List (Str × NameKind)} {acc:List (Str × Addr)},(∃ c,acc.lookup x = some c) -> ∃ c,(closL cells l acc).lookup x = some c
 | [],_,h => h
 | (n,k) :: r,acc,h => by
  unfold closL;split
  ·refine closL_acc ?_;rw [List.lookup_cons];split
   ·exact ⟨_,rfl⟩
   ·exact h
  ·exact closL_acc h
theorem closL_has {cells:List (Str × Addr)} {x:Str}:∀ {l:List (Str × NameKind)} {acc:List (Str × Addr)},(x,NameKind.free) ∈ l -> ∃ c,(closL cells l acc).lookup x = some c
 | [],_,h => by simp at h
 | (n,k) :: r,acc,h => by
  unfold closL;rcases List.mem_cons.mp h with e | h
  ·cases e;rw [if_pos rfl];exact closL_acc ⟨(cells.lookup x).getD 0,by rw [List.lookup_cons];simp⟩
  ·split
   ·exact closL_has h
   ·exact closL_has h
def cxComp (X:Cx) (scope:Scope) (N:List Str) (C:Addr) (s:Shared) (H:Hp) (fp:List Addr):Cx where
 prog:=X.prog
 w:=X.w
 K:=X.K
 mg:=X.mg
 base:=X.base
 A:=X.A
 N:=N
 s₀:=s
 H₀:=H
 env:=compEnvC scope (closL X.env.cells scope.names []) C X.env
 outer:=X.stack
 stack:=X.stack
 ex:=fp
 calm:=X.calm
 fn:=fun _ => false
 pn:=[]
 xe:=fun _ _ => False
structure CompScope (osc:Scope) (ON:List Str) (scope:Scope) (own N:List Str):Prop where
 kind:scope.kind = .function
 nd:N.Nodup
 len:N.length = own.length + ON.length
 nocell:∀ y ∈ scope.names,y.2 ≠ .cell
 loc:∀ y ∈ scope.names,y.2 = .local -> scope.names.lookup y.1 = some .local
 free:∀ y ∈ scope.names,y.2 = .free -> osc.names.lookup y.1 = some .cell \/ osc.names.lookup y.1 = some .free
 out:∀ p ∈ ON.zip (N.drop own.length),p.1 = p.2 \/ scope.names.lookup p.2 = none
 own:∀ x ∈ N.drop own.length,scope.names.lookup x ≠ some .local
theorem relabel_lookup {scope:Scope} {env:Env} (x:Str) (hn:∀ y ∈ scope.names,y.2 ≠ .cell):((relabel scope env).names.lookup x = some .local -> scope.names.lookup x = some .local) /\
  ((relabel scope env).names.lookup x = some .cell \/ (relabel scope env).names.lookup x = some .free -> scope.names.lookup x = some .free):=by
 unfold relabel;simp only;revert hn;generalize scope.names = l;intro hn
 induction l with
 | nil => simp
 | cons y r ih =>
  obtain ⟨n,k⟩:=y;have ih:=ih fun y hy => hn y (List.mem_cons_of_mem _ hy);have hk:k ≠ .cell:=hn (n,k) List.mem_cons_self;rw [List.map_cons];simp only;by_cases hc:(k == NameKind.free && env.scope.kind == ScopeKind.function && env.kindOf n == some NameKind.cell) = true
  ·rw [if_pos hc,List.lookup_cons,List.lookup_cons];have hf:k = .free:=by
    simp only [Bool.and_eq_true] at hc
    simpa using hc.1.1
   split
   ·subst hf;simp
   ·exact ih
  ·rw [if_neg hc,List.lookup_cons,List.lookup_cons];split
   ·constructor
    ·exact fun h => h
    ·rintro (h | h)
     ·exact absurd (Option.some.inj h) hk
     ·exact h
   ·exact ih
def PTs (X:Cx) (ifs:List Expr) (t:TT):Prop :=
 ∀ (pins:List (Addr × Obj)) (s:Shared) (σ:St) (H:Hp) (Q:Bool -> Hp -> Prop),Inv X pins σ H s -> t σ H Q ->
  wpAny (model X.prog X.w) X.A (forIn ifs true fun c r => if r = true then do let ok <- isTrue c X.env (eval c X.env);pure (ForInStep.yield ok) else pure (ForInStep.yield r)) (TP X pins σ Q) X.xe s
def tTrue:TT:=fun _ H Q => Q true H
theorem pts_nil {X:Cx}:PTs X [] tTrue:=fun _ _ _ H _ I h => wpAny_tests_nil ⟨H,I,h⟩
theorem pts_one {X:Cx} {c:Expr} {t:TT} (h:PT X c t):PTs X [c] t:=fun pins s σ H Q I hw => wpAny_tests_one (h pins s σ H Q I hw)
theorem thnF {α:Type} {M:Model} {A:Around} {s:Shared} {m:Sem α} {Q' Q:α -> Shared -> Prop} {E:Value -> Shared -> Prop} (h:wpAny M A m Q' (fun _ _ => False) s) (k:∀ x s',Q' x s' -> Q x s'):wpAny M A m Q E s:=wpAny_mono h k fun _ _ z => z.elim
theorem compLoopX_any {prog:Program} {w:World} {A:Around} {R:Result -> Shared -> Prop} {s:Shared} {elt target iter:Expr} {ifs:List Expr} {scope:Scope} {pos:Pos} {it acc:Value} {env:Env} {XE:Value -> Shared -> Prop} (I:Nat -> Shared -> Prop) (hx:∀ x s',XE x s' -> notedBy (model prog w) A env (fun v s'' => R (.error v) s'') x s')
  (turn:∀ n s,I n s -> wpAny (model prog w) A (pyNext it) (fun r s₁ => match r with
   | none => R (.ok .next) s₁
   | some v => wpAny (model prog w) A (letOwnedTupleGo target it v) (fun _ s₁' => wpAny (model prog w) A (assign target env v) (fun _ s₂ =>
     wpAny (model prog w) A (forIn ifs true fun c r => if r = true then do let ok <- isTrue c env (eval c env);pure (ForInStep.yield ok) else pure (ForInStep.yield r)) (fun ok s₃ =>
      if ok = true then wpAny (model prog w) A (eval elt env) (fun x s₄ =>
       wpAny (model prog w) A (call (.builtin "list.append") [acc,x]) (fun _ s₅ => ∃ m,m < n /\ I m s₅) XE s₄) XE s₃
      else ∃ m,m < n /\ I m s₃) XE s₂) XE s₁') XE s₁) XE s)
  (n:Nat) (h:I n s):codeAny (model prog w) A (.compLoop (.ListComp elt [⟨target,iter,ifs,0⟩] scope pos) 0 it acc env) R s:=by
 refine codeAny_loop rfl I (fun n s hI => ?_) n h;show wpAny _ A ((compTurn (.ListComp elt [⟨target,iter,ifs,0⟩] scope pos) 0 it acc env).onRaise (fun x => do noteFrame x env;theTreesLotGoes x)) _ _ s
 refine wpAny_noted ?_;rw [compTurn_list];refine wpAny_bind (wpAny_standAt (wpAny_bind (wpAny_mono (turn n s hI) (fun r s₁ h₁ => ?_) hx)))
 cases r with
 | none => exact wpAny_pure h₁
 | some v =>
  refine wpAny_bind (wpAny_mono h₁ (fun _ s₁' h₁' => ?_) hx);refine wpAny_bind (wpAny_mono h₁' (fun _ s₂ h₂ => wpAny_bind (wpAny_mono h₂ (fun ok s₃ h₃ => ?_) hx)) hx)
  cases ok with
  | false => exact wpAny_pure ⟨rfl,h₃⟩
  | true =>
   exact wpAny_bind (wpAny_bind (wpAny_mono h₃ (fun x s₄ h₄ => wpAny_bind (wpAny_mono h₄ (fun _ s₅ h₅ => wpAny_pure (wpAny_pure ⟨rfl,h₅⟩)) hx)) hx))
def tComp (wi:TI) (k:Nat) (g:TG) (tc:TT) (te:TE):TE:=fun σ H Q => wi σ H fun J H1 => ∀ D,H1 D = none ->
 ∃ W:Nat -> Nat -> List V -> St -> Hp -> Prop,(∃ m,W 0 m [] (List.replicate k none ++ σ) (upd H1 D (.lst []))) /\ ∀ i m ys σ' H',W i m ys σ' H' -> H' D = some (.lst ys) /\
  ((J.stop i H' /\ Q (.ref D) H') \/ (J.go i H' /\ ys.length < sizeLine /\ ∀ x H2,J.yld i H' x H2 -> g x σ' H2 fun σ3 H3 => tc σ3 H3 fun b H4 =>
   if b = true then te σ3 H4 fun v H5 => H5 D = some (.lst ys) /\ ∃ m',m' < m /\ W (i + 1) m' (ys ++ [v]) σ3 (upd H5 D (.lst (ys ++ [v])))
   else ∃ m',m' < m /\ W (i + 1) m' ys σ3 H4))
theorem comp_coreG {X:Cx} {osc scope:Scope} {ON own N:List Str} {tg iter elt:Expr} {ifs:List Expr} {pos:Pos} {wi:TI} {g:TG} {tc:TT} {te:TE} (S:CompScope osc ON scope own N) (hosc:X.env.scope = osc) (hON:X.N = ON) (hc:X.calm = true) (hi:PI X tg iter wi)
  (hg:∀ C s H fp,PG (cxComp X scope N C s H fp) tg g) (ht:∀ C s H fp,PTs (cxComp X scope N C s H fp) ifs tc) (XE:Addr -> Shared -> Hp -> List Addr -> Value -> Shared -> Prop)
  (he:∀ C s H fp pins s' σ' H' Q',(∀ b ∈ fp,∃ o,(b,o) ∈ pins) -> Inv (cxComp X scope N C s H fp) pins σ' H' s' -> te σ' H' Q' -> wpAny (model X.prog X.w) X.A (eval elt (cxComp X scope N C s H fp).env) (EP (cxComp X scope N C s H fp) pins σ' Q') (XE C s H fp) s')
  {pins:List (Addr × Obj)} {σ:St} {H:Hp} {s:Shared} {Q:VK} (I:Inv X pins σ H s) (h:tComp wi own.length g tc te σ H Q) {RR:Value -> Addr -> Result -> Shared -> Prop}
  (fin:∀ (D C:Addr) (H':Hp) (s':Shared) (m:Str -> Option Value),Inv X pins σ H' s' -> Q (.ref D) H' -> H' C = none -> X.s₀.heap.objs.size <= C -> C ≠ X.env.locals -> (∀ x c,X.env.cells.lookup x = some c -> c ≠ C) -> (∀ p ∈ X.pn ++ pins,p.1 ≠ C) ->
   s'.heap.Ns C m -> RR (.ref D) C (.ok .next) s')
  (hx:∀ (D C:Addr) (s3:Shared) (H3:Hp) (fp:List Addr),C = s3.heap.objs.size -> Inv X pins σ H3 s3 -> (∀ {pins':List (Addr × Obj)} {σ':St} {H':Hp} {s':Shared},Inv (cxComp X scope N C s3 H3 fp) pins' σ' H' s' -> Inv X pins σ H' s') ->
   X.s₀.heap.objs.size <= C -> C ≠ X.env.locals -> (∀ x c,X.env.cells.lookup x = some c -> c ≠ C) -> (∀ p ∈ X.pn ++ pins,p.1 ≠ C) -> ∀ x s',XE C s3 H3 fp x s' -> notedBy (model X.prog X.w) X.A (cxComp X scope N C s3 H3 fp).env (fun v s'' => RR (.ref D) C (.error v) s'') x s') :
  wpAny (model X.prog X.w) X.A (eval iter X.env) (fun x s₁ => wpAny (model X.prog X.w) X.A (pyIter x) (fun it s₂ => wpAny (model X.prog X.w) X.A (newList []) (fun acc s₃ =>
   wpAny (model X.prog X.w) X.A (newFunctionEnv scope X.env.globals (closL X.env.cells scope.names []) [] X.env.qual none .none (some X.env)) (fun cenv s₄ =>
    codeAny (model X.prog X.w) X.A (.compStart (.ListComp elt [⟨tg,iter,ifs,0⟩] scope pos) 0 it acc { cenv with scope:=relabel scope X.env }) (RR acc cenv.locals) s₄) X.xe s₃) X.xe s₂) X.xe s₁) X.xe s:=by
 refine thn (hi pins s σ H _ I h) fun v s1 h1 => thn h1 fun itv s2 h2 => ?_;obtain ⟨it,fp,tn,J,H2,e,I2,T,st2,f2,q⟩:=h2;subst e;refine wpAny_newObj_type (wpAny_newFunctionEnv S.nocell (by intro y hy;simp at hy) (fun h₁ hns₁ hsb₁ => ?_) S.kind)
 dsimp only at hns₁ hsb₁ ⊢;have I3:Inv X pins σ (upd H2 s2.heap.objs.size (.lst [])) { s2 with heap:=s2.heap.push { cls:=.type "list",data:=.seq ([]:List Value).toArray },toks:=s2.toks }:=I2.lnew (t':=s2.toks) .nil (Nat.zero_le _)
 have hD2:H2 s2.heap.objs.size = none:=I2.fresh;obtain ⟨W,⟨m0,w0⟩,turn⟩:=q _ hD2;generalize hs3:({ s2 with heap:=s2.heap.push { cls:=.type "list",data:=.seq ([]:List Value).toArray },toks:=s2.toks }:Shared) = s3 at I3
 have eh3:s3.heap = s2.heap.push { cls:=.type "list",data:=.seq ([]:List Value).toArray }:=by rw [<- hs3]
 generalize hD:s2.heap.objs.size = D at I3 turn w0 hD2 ⊢;generalize hH3:upd H2 D (.lst []) = H3 at I3 w0;rw [<- eh3] at hns₁ hsb₁ ⊢;have hC3:H3 s3.heap.objs.size = none:=I3.fresh;have hsz3:s3.heap.objs.size = D + 1:=by rw [eh3,Heap.size_push,hD]
 have fp2:∀ b ∈ fp,b < s2.heap.objs.size:=fun b hb => by
  obtain ⟨o,e,_⟩:=T.obj _ _ st2 b hb;exact Heap.lt_size e
 have f3:∀ b ∈ fp,FpOk X pins H3 b:=fun b hb => by
  obtain ⟨g0,g1⟩:=f2 b hb;refine ⟨?_,g1⟩;rw [<- hH3,upd_ne (by rw [<- hD];exact Nat.ne_of_lt (fp2 b hb))]
  exact g0
 have neC:∀ b o,s3.heap.get? b = some o -> b ≠ s3.heap.objs.size:=fun b o e => Nat.ne_of_lt (Heap.lt_size e);have old:∀ b o,s3.heap.get? b = some o -> h₁.get? b = some o:=fun b o e => hsb₁.extBut b o (neC b o e) (Heap.get?_push_of_some _ e);have hk:=S.kind;have hfr:∀ y ∈ scope.names,y.2 = .free -> ∃ c,X.env.cells.lookup y.1 = some c:=fun y hy hf => I3.ok.has _ (by subst hosc;exact S.free y hy hf)
 have sub:=closL_sub (acc:=[]) hfr (by intro x c e;simp at e)
 have JB:∀ tk,Inv (cxComp X scope N s3.heap.objs.size s3 H3 fp) [] (List.replicate own.length none ++ σ) H3 { s3 with heap:=h₁,toks:=tk }:=fun tk => by
  refine ⟨⟨I3.ok.mod,S.kind,I3.ok.glob,I3.ok.blt,Nat.le_refl _,fun x y c e1 e2 => I3.ok.inj x y c (sub x c e1) (sub y c e2),fun x hx => ?_,fun x c hf _ => (by cases hf),I3.ok.hd,I3.ok.frames,.inl rfl,fun b hb => ?_,I3.bs,Nat.le_trans I3.ok.bsz I3.sz,fun b o e hb => ?_,fun b hb hf => ?_,I3.stack,I3.stkFree,I3.ok.tabs.un I3.base⟩,
   rfl,I3.bare,Un.kept old,⟨_,hns₁,fun i x v e1 e2 e3 => ?_⟩,fun x c e => ?_,hC3,fun x c e => I3.freeC x c (sub x c e),fun p hp => absurd (show p ∈ ([]:List (Addr × Obj)) from hp) (by simp),I3.hok.kept old,?_⟩
  ·have q:=(relabel_lookup (env:=X.env) x S.nocell).2 hx;exact closL_has (PySem.mem_of_lookup q)
  ·have hb:b ∈ fp:=hb;obtain ⟨_,g1,g2,g3,g4,g5⟩:=f3 b hb;refine ⟨?_,fun x c e => g4 x c (sub x c e)⟩;have:=fp2 b hb;show b ≠ s3.heap.objs.size;rw [hsz3,<- hD];exact Nat.ne_of_lt (Nat.lt_succ_of_lt this)
  ·have hb:b ∈ fp:=hb;obtain ⟨_,g1,g2,g3,g4,g5⟩:=f3 b hb;rcases g3 with g3 | g3
   ·exact I3.ok.noex b o e g3
   ·exact absurd (Nat.lt_of_lt_of_le (Heap.lt_size e) (Nat.le_trans I3.ok.bsz g3)) (Nat.lt_irrefl _)
  ·have hb:b ∈ fp:=hb;obtain ⟨_,g1,g2,g3,g4,g5⟩:=f3 b hb;rcases List.mem_cons.mp (I3.stkSub b hf) with z | z
   ·exact g1 z
   ·exact g2 z
  ·have hi:own.length <= i:=by
    rcases Nat.lt_or_ge i own.length with hlt | hge
    ·rw [List.getElem?_append_left (by simpa using hlt),List.getElem?_replicate] at e2
     split at e2 <;> cases e2
    ·exact hge
   rw [List.getElem?_append_right (by simpa using hi),List.length_replicate] at e2
   have e1:N[own.length + (i - own.length)]? = some x:=by rw [Nat.add_sub_cancel' hi];exact e1
   have e1d:(N.drop own.length)[i - own.length]? = some x:=by rw [List.getElem?_drop];exact e1
   have nl:scope.names.lookup x ≠ some .local:=S.own x (List.mem_of_getElem? e1d);have vis:scope.names.lookup x = some .free:=by
    rcases e3 with z | z
    ·exact absurd ((relabel_lookup (env:=X.env) x S.nocell).1 z) nl
    ·exact (relabel_lookup (env:=X.env) x S.nocell).2 z
   have hlen:=I3.len;have hlt:i - own.length < X.N.length:=by
    rw [<- hlen];exact (List.getElem?_eq_some_iff.mp e2).1
   have hxN:X.N[i - own.length]? = some x:=by
    rw [List.getElem?_eq_getElem hlt];have mz:(X.N[i - own.length],x) ∈ ON.zip (N.drop own.length):=by
     rw [<- hON];refine List.mem_of_getElem? (i:=i - own.length) ?_;rw [List.getElem?_zip_eq_some];exact ⟨List.getElem?_eq_getElem hlt,e1d⟩
    rcases S.out _ mz with z | z
    ·exact congrArg some z
    ·exact absurd z (by rw [vis];simp)
   have hko:X.env.scope.names.lookup x = some .cell \/ X.env.scope.names.lookup x = some .free:=by subst hosc;exact S.free _ (PySem.mem_of_lookup vis) rfl
   obtain ⟨m,hn,hl⟩:=I3.loc;have hv:Vis X.env.scope x:=by
    rcases hko with z | z
    ·exact .inr (.inl z)
    ·exact .inr (.inr z)
   obtain ⟨u,ru,lk⟩:=hl _ x v hxN e2 hv;refine ⟨u,ru,.inr ⟨?_,?_⟩⟩
   ·rcases e3 with z | z
    ·exact absurd ((relabel_lookup (env:=X.env) x S.nocell).1 z) nl
    ·exact z
   ·rcases lk with ⟨k,_⟩ | ⟨_,c,ec,hcell⟩
    ·exfalso
     have k':X.env.scope.names.lookup x = some .local:=k;rcases hko with z | z
     ·rw [k'] at z;cases z
     ·rw [k'] at z;cases z
    ·obtain ⟨c',ec'⟩:=closL_has (cells:=X.env.cells) (acc:=[]) (PySem.mem_of_lookup vis);have:=sub x c' ec';rw [ec] at this;cases this;obtain ⟨o,ho,hd⟩:=hcell;exact ⟨c,ec',o,old c o ho,hd⟩
  ·obtain ⟨v,o,ho,hd⟩:=I3.cell x c (sub x c e);exact ⟨v,o,old c o ho,hd⟩
  ·show (List.replicate own.length none ++ σ).length = N.length;rw [S.len,List.length_append,List.length_replicate,I3.len,hON]
 have stat:∀ {H':Hp},(∀ b ∈ fp,H' b = none) -> ∀ b ∈ fp,FpOk (cxComp X scope N s3.heap.objs.size s3 H3 fp) [] H' b:=fun {H'} hn b hb => by
  obtain ⟨_,g1,g2,g3,g4,g5⟩:=f3 b hb;refine ⟨hn b hb,?_,fun hf => ?_,.inl hb,fun x c e => g4 x c (sub x c e),fun p hp => absurd (show p ∈ ([]:List (Addr × Obj)) from hp) (by simp)⟩
  ·have:=fp2 b hb;show b ≠ s3.heap.objs.size;rw [hsz3,<- hD];exact Nat.ne_of_lt (Nat.lt_succ_of_lt this)
  ·rcases List.mem_cons.mp (I3.stkSub b hf) with z | z
   ·exact g1 z
   ·exact g2 z
 have st4:tn 0 h₁:=T.keep _ _ _ st2 fun b hb o e => old b o (by rw [eh3];exact Heap.get?_push_of_some _ e)
 have o3:∀ x c,X.env.cells.lookup x = some c -> c ≠ s3.heap.objs.size:=fun x c e z => by
  obtain ⟨v,o,ho,_⟩:=I3.cell x c e;exact absurd (Heap.lt_size ho) (by rw [z];exact Nat.lt_irrefl _)
 have o4:∀ p ∈ X.pn ++ pins,p.1 ≠ s3.heap.objs.size:=fun p hp z => absurd (Heap.lt_size (I3.pin p hp).1) (by rw [z];exact Nat.lt_irrefl _)
 have outI:∀ {pins':List (Addr × Obj)} {σ':St} {H':Hp} {s':Shared},Inv (cxComp X scope N s3.heap.objs.size s3 H3 fp) pins' σ' H' s' -> Inv X pins σ H' s':=fun I6 => by
  refine I3.call' (ch:=fp) I6.os I6.base I6.hok I6.bare fun b hb => ?_;obtain ⟨_,g1,g2,g3,g4,g5⟩:=f3 b hb;exact ⟨g3,g1,g4,g5⟩
 have loop:∀ s4:Shared,s4 = { s3 with heap:=h₁,toks:=s2.toks + ([]:List (Str × Value)).length } ->
   codeAny (model X.prog X.w) X.A (.compLoop (.ListComp elt [⟨tg,iter,ifs,0⟩] scope pos) 0 (.ref it) (.ref D) (cxComp X scope N s3.heap.objs.size s3 H3 fp).env) (RR (.ref D) s3.heap.objs.size) s4:=by
  rintro s4 rfl;refine compLoopX_any (XE:=XE s3.heap.objs.size s3 H3 fp) (fun n s' => ∃ i ys σ' H',Inv (cxComp X scope N s3.heap.objs.size s3 H3 fp) [] σ' H' s' /\ tn i s'.heap /\ (∀ b ∈ fp,H' b = none) /\ W i n ys σ' H') (hx D _ s3 H3 fp rfl I3 outI I3.sz (Nat.ne_of_gt I3.lt) o3 o4) ?_ m0 ⟨0,[],_,H3,JB _,st4,fun b hb => (f3 b hb).1,w0⟩;rintro n s5 ⟨i,ys,σ5,H5,I5,st5,fr5,w5⟩;obtain ⟨hD5,ways⟩:=turn i n ys σ5 H5 w5;rcases ways with ⟨stop,qn⟩ | ⟨go,hys,step⟩
  ·refine thnF (T.done (cxComp X scope N s3.heap.objs.size s3 H3 fp) rfl rfl rfl hc i [] s5 σ5 H5 _ I5 (stat fr5) st5 stop) fun r s6 hq1 => ?_;obtain ⟨hr,I6⟩:=hq1;subst hr;obtain ⟨m,hn,_⟩:=I6.loc;exact fin D _ H5 s6 m (outI I6) qn I6.free I3.sz (Nat.ne_of_gt I3.lt) o3 o4 hn
  ·refine thnF (T.item (cxComp X scope N s3.heap.objs.size s3 H3 fp) rfl rfl rfl hc i [] s5 σ5 H5 _ I5 (stat fr5) st5 go) fun r s6 hq2 => ?_;obtain ⟨u,hr,h6⟩:=hq2;subst hr;refine thnF h6 fun _ s7 hq3 => ?_;obtain ⟨x,H7,I7,r7,y7,st7,fr7⟩:=hq3;have I7':=I7.pinned (stat fr7) (T.obj _ _ st7);have back:∀ {σ8:St} {H8:Hp} {s8:Shared},Inv (cxComp X scope N s3.heap.objs.size s3 H3 fp) ([] ++ pinsAt fp s7.heap) σ8 H8 s8 -> tn (i + 1) s8.heap /\ ∀ b ∈ fp,H8 b = none:=fun {σ8 H8 s8} I8 => by
    refine ⟨T.keep _ _ _ st7 fun b hb o e => (I8.pin (b,o) (List.mem_append_right _ (List.mem_append_right _ (mem_pinsAt hb e)))).1,fun b hb => ?_⟩;obtain ⟨o,e,d⟩:=T.obj _ _ st7 b hb;exact (I8.pin (b,o) (List.mem_append_right _ (List.mem_append_right _ (mem_pinsAt hb e)))).2.1
   have hcov:∀ b ∈ fp,∃ o,(b,o) ∈ ([]:List (Addr × Obj)) ++ pinsAt fp s7.heap:=fun b hb => by
    obtain ⟨o,e,_⟩:=T.obj _ _ st7 b hb;exact ⟨o,List.mem_append_right _ (mem_pinsAt hb e)⟩
   refine thnF (hg _ _ _ _ _ s7 σ5 H7 x u _ I7' r7 (step x H7 y7)) fun _ s8 hq4 => ?_;obtain ⟨σ8,H8,I8,q8⟩:=hq4;refine thnF (ht _ _ _ _ _ s8 σ8 H8 _ I8 q8) fun ok s9 hq5 => ?_;obtain ⟨H9,I9,q9⟩:=hq5
   cases ok with
   | false =>
    rw [if_neg (by simp)] at q9 ⊢
    obtain ⟨m',hm,w9⟩:=q9;exact ⟨m',hm,i + 1,ys,σ8,H9,I9.unpinned,(back I9).1,(back I9).2,w9⟩
   | true =>
    rw [if_pos rfl] at q9 ⊢;refine thn (he _ _ _ _ _ s9 σ8 H9 _ hcov I9 q9) fun y s10 hq6 => ?_;obtain ⟨v10,H10,I10,r10,hD10,m',hm,w10⟩:=hq6;refine thnF (mt_append _ s10 σ8 H10 (.ref D) [v10] (.ref D) [y] (fun r H11 => r = .non /\ H11 = upd H10 D (.lst (ys ++ [v10]))) I10 rfl (.cons r10 .nil) ⟨D,ys,v10,rfl,rfl,hD10,hys,rfl,rfl⟩) fun _ s11 hq7 => ?_;obtain ⟨_,H11,I11,_,_,e11⟩:=hq7;subst e11;exact ⟨m',hm,i + 1,_,σ8,_,I11.unpinned,(back I11).1,(back I11).2,w10⟩
 have start:=codeAny_compStart_list (R:=RR (.ref D) s3.heap.objs.size) (loop _ rfl) (T.self X.A 0 _ _ _ st4 (loop _ rfl));subst hs3;exact start
theorem comp_core {X:Cx} {osc scope:Scope} {ON own N:List Str} {tg iter elt:Expr} {ifs:List Expr} {pos:Pos} {wi:TI} {g:TG} {tc:TT} {te:TE} (S:CompScope osc ON scope own N) (hosc:X.env.scope = osc) (hON:X.N = ON) (hc:X.calm = true) (hi:PI X tg iter wi)
  (hg:∀ C s H fp,PG (cxComp X scope N C s H fp) tg g) (ht:∀ C s H fp,PTs (cxComp X scope N C s H fp) ifs tc) (he:∀ C s H fp,PE (cxComp X scope N C s H fp) elt te)
  {pins:List (Addr × Obj)} {σ:St} {H:Hp} {s:Shared} {Q:VK} (I:Inv X pins σ H s) (h:tComp wi own.length g tc te σ H Q) {RR:Value -> Addr -> Result -> Shared -> Prop}
  (fin:∀ (D C:Addr) (H':Hp) (s':Shared) (m:Str -> Option Value),Inv X pins σ H' s' -> Q (.ref D) H' -> H' C = none -> X.s₀.heap.objs.size <= C -> C ≠ X.env.locals -> (∀ x c,X.env.cells.lookup x = some c -> c ≠ C) -> (∀ p ∈ X.pn ++ pins,p.1 ≠ C) ->
   s'.heap.Ns C m -> RR (.ref D) C (.ok .next) s') :
  wpAny (model X.prog X.w) X.A (eval iter X.env) (fun x s₁ => wpAny (model X.prog X.w) X.A (pyIter x) (fun it s₂ => wpAny (model X.prog X.w) X.A (newList []) (fun acc s₃ =>
   wpAny (model X.prog X.w) X.A (newFunctionEnv scope X.env.globals (closL X.env.cells scope.names []) [] X.env.qual none .none (some X.env)) (fun cenv s₄ =>
    codeAny (model X.prog X.w) X.A (.compStart (.ListComp elt [⟨tg,iter,ifs,0⟩] scope pos) 0 it acc { cenv with scope:=relabel scope X.env }) (RR acc cenv.locals) s₄) X.xe s₃) X.xe s₂) X.xe s₁) X.xe s :=
 comp_coreG S hosc hON hc hi hg ht (fun _ _ _ _ _ _ => False) (fun C s H fp pins s' σ' H' Q' _ I h => he C s H fp pins s' σ' H' Q' I h) I h fin fun _ _ _ _ _ _ _ _ _ _ _ _ _ _ z => z.elim
theorem pe_comp {X:Cx} {osc scope:Scope} {ON own N:List Str} {tg iter elt:Expr} {ifs:List Expr} {pos:Pos} {wi:TI} {g:TG} {tc:TT} {te:TE} (S:CompScope osc ON scope own N) (hosc:X.env.scope = osc) (hON:X.N = ON) (hc:X.calm = true) (hi:PI X tg iter wi)
  (hg:∀ C s H fp,PG (cxComp X scope N C s H fp) tg g) (ht:∀ C s H fp,PTs (cxComp X scope N C s H fp) ifs tc) (he:∀ C s H fp,PE (cxComp X scope N C s H fp) elt te)
  (hs:∀ x,foldedSetIterable iter X.env x = pure x:=by intro _;rfl) :
  PE X (.ListComp elt [⟨tg,iter,ifs,0⟩] scope pos) (tComp wi own.length g tc te):=by
 intro pins s σ H Q I h;have hfr:∀ y ∈ scope.names,y.2 = .free -> ∃ c,X.env.cells.lookup y.1 = some c:=fun y hy hf => I.ok.has _ (by subst hosc;exact S.free y hy hf)
 rw [eval_ListComp];refine wpAny_comprehension_free (use:=none) rfl hs (closureFor_eq hfr) S.kind S.loc ?_;refine comp_core S hosc hON hc hi hg ht he I h (RR:=fun acc C => compPost (model X.prog X.w) X.A X.xe none (EP X pins σ Q) acc C) ?_;intro D C H' s' m I' q h1 h2 h3 h4 h5 hn;exact ⟨m,hn,fun h'' hs'' => ⟨.ref D,H',I'.turned (t':=s'.toks) (fun b o hb e => (hs''.2 b hb).trans e) h1 h3 (.inr h2) h4 h5,rfl,q⟩⟩
theorem ps_setComp {X:Cx} {osc scope:Scope} {ON own N:List Str} {tg iter elt:Expr} {ifs:List Expr} {pos spos py:Pos} {wi:TI} {g:TG} {tc:TT} {te:TE} {j:Nat} {y:Str} (hN:X.N.Nodup) (hj:X.N[j]? = some y) (hx:Loc X.env.scope y) (S:CompScope osc ON scope own N) (hosc:X.env.scope = osc) (hON:X.N = ON) (hc:X.calm = true) (hi:PI X tg iter wi)
  (hg:∀ C s H fp,PG (cxComp X scope N C s H fp) tg g) (ht:∀ C s H fp,PTs (cxComp X scope N C s H fp) ifs tc) (he:∀ C s H fp,PE (cxComp X scope N C s H fp) elt te)
  (hsw:swapsWith (.ListComp elt [⟨tg,iter,ifs,0⟩] scope pos) (some (.Name y py)) spos.line X.env = pure true:=by rfl)
  (hf:X.fn y = true \/ X.env.scope.names.lookup y = some .local:=by first | exact .inl rfl | exact .inr rfl | assumption)
  (hs:∀ x,foldedSetIterable iter X.env x = pure x:=by intro _;rfl) :
  PS X (.Assign [.Name y py] (.ListComp elt [⟨tg,iter,ifs,0⟩] scope pos) spos) (tAsg (tComp wi own.length g tc te) (gName j)):=by
 intro pins s σ H Dn I h;have hfr:∀ y ∈ scope.names,y.2 = .free -> ∃ c,X.env.cells.lookup y.1 = some c:=fun y hy hf => I.ok.has _ (by subst hosc;exact S.free y hy hf)
 rw [exec_Assign_Name_used _ _ _ _ hsw];refine wpAny_bind (wpAny_standAt (wpAny_bind ?_));show wpAny _ X.A (do let _ <- comprehension (.ListComp elt [⟨tg,iter,ifs,0⟩] scope pos) scope X.env _ (newList []) false (eval iter X.env) (some (assign (.Name y py) X.env))) _ _ s
 refine wpAny_bind (wpAny_mono (wpAny_comprehension_free (use:=some (assign (.Name y py) X.env)) (Q:=fun _ s' => SP X pins Dn .next s') rfl hs (closureFor_eq hfr) S.kind S.loc ?_) (fun _ s' hq => wpAny_pure (wpAny_pure hq)) fun _ _ e => e);refine comp_core S hosc hON hc hi hg ht he I h (RR:=fun acc C => compPost (model X.prog X.w) X.A X.xe (some (assign (.Name y py) X.env)) (fun _ s' => SP X pins Dn .next s') acc C) ?_;intro D C H' s' m I' q h1 h2 h3 h4 h5 hn;show wpAny _ X.A (assign (.Name y py) X.env (.ref D)) _ _ _;refine wpAny_assign_Name (store_ok2 I' hN hj hx (v:=.ref D) rfl (fun s'' I'' hsb => ?_) hf);obtain ⟨a,sb,ha⟩:=hsb;have nC:C ≠ a:=by
  rcases ha with ha | ha
  ·rw [ha];exact h3
  ·exact (h4 y a ha).symm
 exact ⟨m,hn.sameBut sb nC,fun h'' hs'' => ⟨_,H',I''.turned (t':=s''.toks) (fun b o hb e => (hs''.2 b hb).trans e) h1 h3 (.inr h2) h4 h5,q⟩⟩
def nst (e:Expr):Bool:=match e with
 | .Starred .. => false
 | _ => true
theorem star1 {e:Expr} {es:List Expr} {env:Env} (h:nst e = true):starEach (e :: es) env = (false,eval e env) :: starEach es env:=by
 cases e <;> first | rfl | cases h
theorem plain_any {env:Env} {pos:Pos}:∀ {es:List Expr},es.all nst = true -> (backTo pos (starEach es env)).any (·.1) = false
 | [],_ => rfl
 | e :: es,h => by
  rw [List.all_cons,Bool.and_eq_true] at h;rw [star1 h.1];show (false || (backTo pos (starEach es env)).any (·.1)) = false;rw [plain_any h.2];rfl
theorem plain_all {env:Env} {pos:Pos}:∀ {es:List Expr},es.all nst = true -> (backTo pos (starEach es env)).all (fun x => !x.1) = true
 | [],_ => rfl
 | e :: es,h => by
  rw [List.all_cons,Bool.and_eq_true] at h;rw [star1 h.1];show (true && (backTo pos (starEach es env)).all (fun x => !x.1)) = true;rw [plain_all h.2];rfl
theorem few_ok {env:Env} {cpos:Pos} {e:Expr} {es:List Expr} (h:(e :: es).all nst = true) (hl:(e :: es).length < 30) :
  ((backTo cpos (starEach (e :: es) env)).all (fun x => !x.1) && (backToKw cpos (keywordEach [] env)).all (fun x => x.1.isSome) && decide ((e :: es).length + ([]:List Keyword).length + (if ([]:List Keyword).isEmpty then 0 else 1) < 30)) = true:=by
 rw [plain_all h];have e2:(backToKw cpos (keywordEach [] env)).all (fun x => x.1.isSome) = true:=rfl;rw [e2];have e3:(e :: es).length + ([]:List Keyword).length + (if ([]:List Keyword).isEmpty then 0 else 1) < 30:=hl
 rw [decide_eq_true e3];rfl
section
variable {X:Cx} {e:Expr} {es:List Expr} {te:TE} {t:TA}
theorem pa_c (ha:PE X e te) (hr:PA X es t) (h:nst e = true:=by rfl):PA X (e :: es) (tCons te t):=pa_cons ha hr (star1 h)
theorem pe_cb {id:String} {x:Str} {p pos:Pos} {r:List V -> Hp -> VK -> Prop} (hc:CallR X (.builtin id) r) (hg:Gl X x) (hm:X.mg x = none) (hv:bootBuiltins x = some (.builtin id)) (ha:PA X (e :: es) t) (h1:nst e = true:=by rfl) (h2:es.all nst = true:=by rfl) (hn:x ≠ "__name__":=by decide) (hdb:(x == ("__debug__":Str)) = false:=by decide) :
  PE X (.Call (.Name x p) (e :: es) [] pos) (tCB r t):=pe_callB hc hg hm hv ha hn hdb (star1 h1) (plain_any h2)
theorem pe_ct {T:String} {x:Str} {p pos:Pos} {r:List V -> Hp -> VK -> Prop} (hc:CallR X (.type T) r) (hg:Gl X x) (hm:X.mg x = none) (hv:bootBuiltins x = some (.type T)) (ha:PA X (e :: es) t) (h1:nst e = true:=by rfl) (h2:es.all nst = true:=by rfl) (hn:x ≠ "__name__":=by decide) (hdb:(x == ("__debug__":Str)) = false:=by decide) :
  PE X (.Call (.Name x p) (e :: es) [] pos) (tCB r t):=pe_callTy hc hg hm hv ha hn hdb (star1 h1) (plain_any h2)
theorem pe_bmQ {o:Expr} {to:TE} {name:Str} {apos cpos:Pos} {T id:String} {r:V -> List V -> Hp -> VK -> Prop} (pa:PlainAttrs T) (slot:Slot T name id) (hty:typeOf (.builtin id) = pure (.type "method_descriptor")) (hm:MtR X id r) (ho:PE X o to) (ha:PA X (e :: es) t)
  (hbase:attributeBase o name X.env (eval o X.env) = eval o X.env) (hline:(apos.endLine == cpos.line) = true) (h:(e :: es).all nst = true) (hl:(e :: es).length < 30):PE X (.Call (.Attribute o name apos) (e :: es) [] cpos) (tBM X.K T r to t):=by
 have h':=h;rw [List.all_cons,Bool.and_eq_true] at h';exact pe_bm pa slot hty hm ho ha hbase (few_ok h hl) hline (star1 h'.1) (plain_any h'.2)
theorem pi_range1Q {tg a:Expr} {ta:TA} {p pos:Pos} (hg:Gl X "range") (hm:X.mg "range" = none) (ha:PA X [a] ta) (h:nst a = true:=by rfl):PI X tg (.Call (.Name "range" p) [a] [] pos) (iRng1 ta):=pi_range1 hg hm ha (star1 h)
theorem pi_range2Q {tg a b:Expr} {ta:TA} {p pos:Pos} (hg:Gl X "range") (hm:X.mg "range" = none) (ha:PA X [a,b] ta) (h:nst a = true:=by rfl) (h2:nst b = true:=by rfl):PI X tg (.Call (.Name "range" p) [a,b] [] pos) (iRng2 ta):=pi_range2 hg hm ha (by rw [star1 h,star1 h2];rfl) (star1 h2)
end
structure HasFn (K:PySem.W.Frag) (mg:Str -> Option Value) (x:Str) (st:Stmt) (ps:List Str):Prop where
 ex:∃ (f:Addr) (fd:FuncData),Fun K x x st f fd /\ Binds K fd ps [] /\ mg x = some (.ref f)
structure CallOk (P:Program) (w:World) (K:PySem.W.Frag) (mg:Str -> Option Value) (base:Heap) (CX:CXT) (k:Nat) (x:Str) (ps:List Str) (sp:Sp):Prop where
 ex:∃ (f:Addr) (fd:FuncData),mg x = some (.ref f) /\ PySem.W.keepIn K (.ref f) = true /\ Binds K fd ps [] /\ FnOk P w K mg base CX k f fd ps sp
section
variable {P:Program} {w:World} {K:PySem.W.Frag} {mg:Str -> Option Value} {base:Heap}
theorem HasFn.ok {x:Str} {st:Stmt} {N ps:List Str} {k:Nat} {sp:Sp} (F:HasFn K mg x st ps) (S:FnScope N ps (defScope st)) (len:∀ vs H Q E,sp vs H Q E -> vs.length = ps.length)
  (hbody:∀ (f:Addr) (cdv:Value) (A:Around) (outer:List Env) (s:Shared) (H:Hp) (vs:List V) (Q:VK) (E:XK),Room k (A.deeper (envOfC x (defScope st) s.heap.objs.size f cdv)) -> sp vs H Q E ->
   ∃ t,PSs (cxOf CX0 P w K mg base N x (defScope st) f cdv A outer s H E).nox (defBody st) t /\ t { nx:=fun _ H' => Q .non H',rt:=Q } (start N vs) H):CallOk P w K mg base CX0 (k + 1) x ps sp:=by
 obtain ⟨f,fd,F1,b,m⟩:=F.ex;exact ⟨f,fd,m,F1.kp,b,F1.ok S len fun cdv A outer s H vs Q E hr h => hbody f cdv A outer s H vs Q E hr h⟩
end
section
variable {X:Cx} {CX:CXT} {k:Nat} {ps:List Str} {sp:Sp} {E:XK} {x:Str} {p pos:Pos} {e:Expr} {es:List Expr} {t:TA}
theorem pe_fn (F:CallOk X.prog X.w X.K X.mg X.base CX k x ps sp) (hr:Room k X.A) (hg:Gl X x) (hx:Passes CX X E) (ha:PA X (e :: es) t) (h1:nst e = true:=by rfl) (h2:es.all nst = true:=by rfl) (hdb:(x == ("__debug__":Str)) = false:=by decide) :
  PE X (.Call (.Name x p) (e :: es) [] pos) (tCall sp [] E t):=by
 obtain ⟨f,fd,m,kp,b,G⟩:=F.ex;exact pe_call G hr hg m kp b .nil hx ha hdb (star1 h1) (plain_any h2)
theorem pe_fn0 (F:CallOk X.prog X.w X.K X.mg X.base CX k x ps sp) (hr:Room k X.A) (hg:Gl X x) (hx:Passes CX X E) (hdb:(x == ("__debug__":Str)) = false:=by decide) :
  PE X (.Call (.Name x p) [] [] pos) (tCall sp [] E tNil):=by
 obtain ⟨f,fd,m,kp,b,G⟩:=F.ex;exact pe_call0 G hr hg m kp b .nil hx hdb
end
def conV:Expr -> Option V
 | .Constant (.int i) _ _ => some (.int i)
 | .Constant (.str x) _ _ => some (.str x)
 | .Constant (.bool b) _ _ => some (.bl b)
 | .Constant .none _ _ => some .non
 | _ => none
def consV:List Expr -> Option (List V)
 | [] => some []
 | e :: es => match conV e,consV es with
  | some v,some vs => some (v :: vs)
  | _,_ => none
def tK (vs:List V):TA:=fun _ H Q => Q vs H
theorem pe_cst {X:Cx} {e:Expr} {v:V} (h:conV e = some v):PE X e (tC v) /\ ∀ es,starEach (e :: es) X.env = (false,eval e X.env) :: starEach es X.env:=by
 unfold conV at h
 split at h
 ·cases h;exact ⟨pe_int,fun _ => rfl⟩
 ·cases h;exact ⟨pe_str,fun _ => rfl⟩
 ·cases h;exact ⟨pe_bl,fun _ => rfl⟩
 ·cases h;exact ⟨pe_non,fun _ => rfl⟩
 ·cases h
theorem pa_consts {X:Cx}:∀ {es:List Expr} {vs:List V},consV es = some vs -> PA X es (tK vs)
 | [],vs,h => by cases h;exact pa_nil
 | e :: es,vs,h => by
  unfold consV at h
  split at h
  ·rename_i v ws e1 e2;cases h;have p:=pe_cst (X:=X) e1;exact pa_cons (te:=tC v) (t:=tK ws) p.1 (pa_consts e2) (p.2 es)
  ·cases h
def sq (H:Hp) (p:Addr):Option (Bool × List V):=match H p with
 | some (.lst xs) => some (true,xs)
 | some (.tup xs) => some (false,xs)
 | some (.frz _ (.lst xs)) => some (true,xs)
 | some (.frz _ (.tup xs)) => some (false,xs)
 | _ => none
theorem sq_true {K:PySem.W.Frag} {H:Hp} {p:Addr} {xs:List V} (h:sq H p = some (true,xs)):SqL K H p xs:=by
 unfold sq at h
 split at h
 ·rename_i e;cases h;exact .inl (.inl e)
 ·cases h
 ·rename_i e;cases h;exact .inl (.inr ⟨_,e⟩)
 ·cases h
 ·cases h
theorem sq_false {K:PySem.W.Frag} {H:Hp} {p:Addr} {xs:List V} (h:sq H p = some (false,xs)):SqT K H p xs:=by
 unfold sq at h
 split at h
 ·cases h
 ·rename_i e;cases h;exact .inl (.inl e)
 ·cases h
 ·rename_i e;cases h;exact .inl (.inr ⟨_,e⟩)
 ·cases h
theorem sq_any {K:PySem.W.Frag} {H:Hp} {p:Addr} {b:Bool} {xs:List V} (h:sq H p = some (b,xs)):SqL K H p xs \/ SqT K H p xs:=by
 cases b with
 | true => exact .inl (sq_true h)
 | false => exact .inr (sq_false h)
theorem sq_lst {H:Hp} {p:Addr} {xs:List V} (h:H p = some (.lst xs)):sq H p = some (true,xs):=by unfold sq;rw [h]
theorem sq_tup {H:Hp} {p:Addr} {xs:List V} (h:H p = some (.tup xs)):sq H p = some (false,xs):=by unfold sq;rw [h]
section
variable {X:Cx}
def uAdd (K:PySem.W.Frag):R2:=fun x y H Q => match x,y with
 | .int i,.int j => Q (.int (i + j)) H
 | .str i,.str j => i.length + j.length <= sizeLine /\ Q (.str (i ++ j)) H
 | .ref a,.ref b => match H a,H b with
  | some (.lst xs),some (.lst ys) => xs.length + ys.length <= sizeLine /\ ∀ p,H p = none -> Q (.ref p) (upd H p (.lst (xs ++ ys)))
  | some (.tup xs),some (.tup ys) => xs ≠ [] /\ ys ≠ [] /\ xs.length + ys.length <= sizeLine /\ ∀ p,H p = none -> Q (.ref p) (upd H p (.tup (xs ++ ys)))
  | _,_ => False
 | _,_ => False
theorem uop_add:OpR X (binaryOp .Add) (uAdd X.K):=by
 intro pins s σ H x y v u Q I rx ry h
 cases x with
 | int i => cases y with
  | int j => exact op_add pins s σ H _ _ v u Q I rx ry ⟨i,j,rfl,rfl,h⟩
  | _ => exact (show False from h).elim
 | str i => cases y with
  | str j => exact op_add_str pins s σ H _ _ v u Q I rx ry ⟨i,j,rfl,rfl,h.1,h.2⟩
  | _ => exact (show False from h).elim
 | ref a => cases y with
  | ref b =>
   unfold uAdd at h;simp only at h
   split at h
   ·rename_i xs ys e1 e2;exact op_cat pins s σ H _ _ v u Q I rx ry ⟨a,b,xs,ys,rfl,rfl,e1,e2,h.1,h.2⟩
   ·rename_i xs ys e1 e2;obtain ⟨h1,h2,h3,h4⟩:=h;exact op_catT pins s σ H _ _ v u Q I rx ry ⟨a,b,xs,ys,rfl,rfl,SqT.of e1,SqT.of e2,h1,h3,fun z => absurd z h2,fun _ => h4⟩
   ·exact h.elim
  | _ => exact (show False from h).elim
 | _ => exact (show False from h).elim
def uMul:R2:=fun x y H Q => match x,y with
 | .int i,.int j => CMul i j /\ Q (.int (i * j)) H
 | .ref a,.int j => rRep (.ref a) (.int j) H Q
 | _,_ => False
theorem uop_mul:OpR X (binaryOp .Mult) uMul:=by
 intro pins s σ H x y v u Q I rx ry h
 cases x with
 | int i => cases y with
  | int j => exact op_mul pins s σ H _ _ v u Q I rx ry ⟨i,j,rfl,rfl,h.1,h.2⟩
  | _ => exact (show False from h).elim
 | ref a => cases y with
  | int j => exact op_rep pins s σ H _ _ v u Q I rx ry h
  | _ => exact (show False from h).elim
 | _ => exact (show False from h).elim
theorem uop_eq:OpR X (compareOp .Eq) rEq:=op_eq
theorem uop_ne:OpR X (compareOp .NotEq) rNe:=op_ne
def uIn (K:PySem.W.Frag) (neg:Bool):R2:=fun x y H Q => match y with
 | .str j => ∃ i,x = .str i /\ Q (.bl (if neg then !(!(Builtin.Str.occurrences j i 0 j.length 1).isEmpty) else !(Builtin.Str.occurrences j i 0 j.length 1).isEmpty)) H
 | .ref p => match sq H p with
  | some (_,xs) => flatV x = true /\ xs.all flatV = true /\ Q (.bl (if neg then !inV x xs else inV x xs)) H
  | none => ∃ xs,SqT K H p xs /\ flatV x = true /\ xs.all flatV = true /\ Q (.bl (if neg then !inV x xs else inV x xs)) H
 | _ => False
theorem uIn_of {K:PySem.W.Frag} {neg:Bool} {x:V} {p:Addr} {H:Hp} {Q:VK} (h:uIn K neg x (.ref p) H Q):rIn K neg x (.ref p) H Q:=by
 unfold uIn at h;simp only at h
 split at h
 ·rename_i xs e;exact ⟨p,_,rfl,sq_any e,h.1,h.2.1,h.2.2⟩
 ·obtain ⟨xs,hq,h⟩:=h;exact ⟨p,xs,rfl,.inr hq,h.1,h.2.1,h.2.2⟩
theorem uop_in {k:Nat} (hu:k < cLine):OpR X (compareOp .In) (uIn X.K false):=by
 intro pins s σ H x y v u Q I rx ry h
 match y,h with
 | .str j,h =>
  obtain ⟨i,rfl,h'⟩:=h;exact op_in_str pins s σ H _ _ v u Q I rx ry ⟨i,j,rfl,rfl,h'⟩
 | .ref p,h => exact op_in_seq pins s σ H _ _ v u Q I rx ry (uIn_of h)
def uIx (K:PySem.W.Frag):R2:=fun x y H Q => match x,y with
 | .str z,.int i => z.length <= sizeLine /\ (match atI z.cps.toList i with | some c => Q (.str ⟨#[c]⟩) H | none => False)
 | .ref p,.int i => match sq H p with
  | some (_,xs) => (match atI xs i with | some v => Q v H | none => False)
  | none => ∃ xs v,SqT K H p xs /\ atI xs i = some v /\ Q v H
 | _,_ => False
theorem uix {k:Nat} (hu:k < cLine):IxR X (uIx X.K):=by
 intro value slice pins s σ H x y v u Q I rx ry h hs;refine ix_seq value slice pins s σ H x y v u Q I rx ry ?_ hs
 cases x with
 | str z => cases y with
  | int i =>
   obtain ⟨hz,h⟩:=h
   split at h
   ·rename_i c e;exact .inr (.inr ⟨z,i,c,rfl,rfl,hz,e,h⟩)
   ·exact h.elim
  | _ => exact (show False from h).elim
 | ref p => cases y with
  | int i =>
   unfold uIx at h;simp only at h
   split at h
   ·rename_i b xs e
    split at h
    ·rename_i w' e'
     cases b with
     | true => exact .inl ⟨p,xs,i,w',rfl,rfl,sq_true e,e',h⟩
     | false => exact .inr (.inl ⟨p,xs,i,w',rfl,rfl,sq_false e,e',h⟩)
    ·exact h.elim
   ·obtain ⟨xs,w',hq,e',h⟩:=h;exact .inr (.inl ⟨p,xs,i,w',rfl,rfl,hq,e',h⟩)
  | _ => exact (show False from h).elim
 | _ => exact (show False from h).elim
def uSl (K:PySem.W.Frag):V -> Option Int -> Option Int -> Hp -> VK -> Prop:=fun x lo hi H Q => match x with
 | .ref p => match sq H p with
  | some (true,xs) => ∀ q,H q = none -> Q (.ref q) (upd H q (.lst (cutV xs lo hi)))
  | some (false,xs) => rSlT K (.ref p) lo hi H Q
  | none => rSlT K (.ref p) lo hi H Q
 | _ => False
theorem usl_seq:SlR X (uSl X.K):=by
 intro pins s σ H x v vl vu lo hi sl Q I rx hs pl pu h
 match x,h with
 | .ref p,h =>
  unfold uSl at h;simp only at h
  split at h
  ·rename_i xs e;exact sl_list pins s σ H _ v vl vu lo hi sl Q I rx hs pl pu ⟨p,xs,rfl,sq_true e,h⟩
  ·exact sl_tup pins s σ H _ v vl vu lo hi sl Q I rx hs pl pu h
  ·exact sl_tup pins s σ H _ v vl vu lo hi sl Q I rx hs pl pu h
def uSet:V -> V -> V -> Hp -> (Hp -> Prop) -> Prop:=fun o i v H Q => match o,i with
 | .ref p,.int k => match H p with
  | some (.lst xs) => (match ixN xs.length k with | some j => Q (upd H p (.lst (xs.set j v))) | none => False)
  | _ => False
 | _,_ => False
theorem uset:PSet X uSet:=by
 intro pins s σ H o i v ov iv u Q I ro ri rv h
 cases o with
 | ref p => cases i with
  | int k =>
   unfold uSet at h;simp only at h
   split at h
   ·rename_i xs e
    split at h
    ·rename_i j e';exact set_list pins s σ H _ _ v ov iv u Q I ro ri rv ⟨p,xs,k,j,rfl,rfl,e,e',h⟩
    ·exact h.elim
   ·exact h.elim
  | _ => exact (show False from h).elim
 | _ => exact (show False from h).elim
def uLen (K:PySem.W.Frag):List V -> Hp -> VK -> Prop:=fun xs H Q => match xs with
 | [.str y] => y.length <= sizeLine /\ Q (.int y.length) H
 | [.ref p] => match sq H p with
  | some (_,ys) => Q (.int ys.length) H
  | none => ∃ ys,SqT K H p ys /\ Q (.int ys.length) H
 | _ => False
theorem ucall_len:CallR X (.builtin "len") (uLen X.K):=by
 intro pins s σ H xs us Q I r h;rcases xs with _ | ⟨x,_ | ⟨y,xs⟩⟩
 ·exact (show False from h).elim
 rotate_left
 ·cases x <;> exact (show False from h).elim
 cases x with
 | str y => exact call_len pins s σ H _ us Q I r ⟨.str y,_,rfl,⟨h.1,rfl⟩,h.2⟩
 | ref p =>
  unfold uLen at h;simp only at h
  split at h
  ·rename_i b ys e;refine call_len pins s σ H _ us Q I r ⟨.ref p,ys.length,rfl,?_,h⟩
   cases b with
   | true => exact .inl ⟨ys,sq_true e,rfl⟩
   | false => exact .inr ⟨ys,sq_false e,rfl⟩
  ·obtain ⟨ys,hq,h⟩:=h;exact call_len pins s σ H _ us Q I r ⟨.ref p,ys.length,rfl,.inr ⟨ys,hq,rfl⟩,h⟩
 | _ => exact (show False from h).elim
def uMin:List V -> Hp -> VK -> Prop:=fun xs H Q => match xs with
 | [.int i,.int j] => Q (.int (if j < i then j else i)) H
 | _ => False
theorem ucall_min (hc:X.calm = true):CallR X (.builtin "min") uMin:=by
 intro pins s σ H xs us Q I r h;rcases xs with _ | ⟨x,_ | ⟨y,_ | ⟨z,xs⟩⟩⟩
 ·exact (show False from h).elim
 ·cases x <;> exact (show False from h).elim
 ·cases x with
  | int i => cases y with
   | int j => exact call_min2 hc pins s σ H _ us Q I r ⟨i,j,rfl,h⟩
   | _ => exact (show False from h).elim
  | _ => exact (show False from h).elim
 ·cases x with
  | int i => cases y <;> exact (show False from h).elim
  | _ => exact (show False from h).elim
def uTuple (K:PySem.W.Frag):List V -> Hp -> VK -> Prop:=fun xs H Q => match xs with
 | [.ref p] => match sq H p with
  | some (true,ys) => ∀ l,H l = none -> Q (.ref l) (upd H l (.tup ys))
  | some (false,_) => Q (.ref p) H
  | none => ∃ ys,SqT K H p ys /\ Q (.ref p) H
 | _ => False
theorem ucall_tuple:CallR X (.type "tuple") (uTuple X.K):=by
 intro pins s σ H xs us Q I r h;rcases xs with _ | ⟨x,_ | ⟨y,xs⟩⟩
 ·exact (show False from h).elim
 rotate_left
 ·cases x <;> exact (show False from h).elim
 cases x with
 | ref p =>
  unfold uTuple at h;simp only at h
  split at h
  ·rename_i ys e;exact call_tuple_of pins s σ H _ us Q I r ⟨p,ys,rfl,.inl ⟨sq_true e,h⟩⟩
  ·rename_i ys e;exact call_tuple_of pins s σ H _ us Q I r ⟨p,ys,rfl,.inr ⟨sq_false e,h⟩⟩
  ·obtain ⟨ys,hq,h⟩:=h;exact call_tuple_of pins s σ H _ us Q I r ⟨p,ys,rfl,.inr ⟨hq,h⟩⟩
 | _ => exact (show False from h).elim
def uInt:List V -> Hp -> VK -> Prop:=fun xs H Q => match xs with
 | [.int i] => Q (.int i) H
 | [.bl k] => Q (.int (if k = true then 1 else 0)) H
 | _ => False
theorem ucall_int:CallR X (.type "int") uInt:=by
 intro pins s σ H xs us Q I r h;rcases xs with _ | ⟨x,_ | ⟨y,ys⟩⟩
 ·exact (show False from h).elim
 ·cases x with
  | int i => exact call_int1 pins s σ H _ us Q I r (.inl ⟨i,rfl,h⟩)
  | bl k => exact call_int1 pins s σ H _ us Q I r (.inr ⟨k,rfl,h⟩)
  | _ => exact (show False from h).elim
 ·cases x <;> exact (show False from h).elim
theorem ucall_sum (hc:X.calm = true):CallR X (.builtin "sum") (fun xs H Q => ∃ (p:Addr) (ns:List Int),xs = [.ref p] /\ SqL X.K H p (ns.map V.int) /\ Q (.int ns.sum) H):=by
 intro pins s σ H xs us Q I r h;obtain ⟨p,ns,rfl,hq,q⟩:=h;obtain ⟨u,rfl,ru⟩:=vals1 r;cases ru;obtain ⟨its,rv,pl,hz⟩:=I.list hq;have hi:=intsAre_of rv;obtain ⟨xs,hx⟩:=hi.allInts.items;have hl':s.heap.IsList p (intItems xs):=by rw [<- hx];exact pl.isList
 refine sum_intListG (I.ok.hd hc) hl' fun h' tk t' hk => ?_;have e1:ns = xs.toList.map (·.1):=by rw [<- nums_intItems,<- hx];exact hi.numsOf.symm
 have e2:preSum (numAt xs) xs.size = ns.sum:=by rw [preSum_eq,List.take_of_length_le (by simp),e1]
 rw [e2];exact ⟨.int ns.sum,H,I.kept hk,⟨_,rfl⟩,q⟩
def tyU (H:Hp):V -> Option String
 | .non => some "NoneType"
 | .bl _ => some "bool"
 | .int _ => some "int"
 | .str _ => some "str"
 | .ref a => match H a with
  | some (.lst _) => some "list"
  | some (.tup _) => some "tuple"
  | some (.dK _) => some "dict"
  | _ => none
 | _ => none
theorem tyU_of {K:PySem.W.Frag} {H:Hp} {x:V} {t:String} (h:tyU H x = some t):TyOf K H x (.type t):=by
 unfold tyU at h
 split at h
 ·cases h;exact .non
 ·cases h;exact .bl _
 ·cases h;exact .int _
 ·cases h;exact .str _
 ·split at h
  ·rename_i e;cases h;exact .lst e
  ·rename_i e;cases h;exact .tup e
  ·rename_i e;cases h;exact .dK e
  ·cases h
 ·cases h
def isiU (t c:String):Bool:=decide (t = c) || (t == "bool" && c == "int")
theorem kit_pair {K:PySem.W.Frag} {t c:String} (ht:t ∈ ["NoneType","bool","int","str","list","tuple","dict"]) (hc:c ∈ ["bool","int","str","list","tuple","dict"]):PySem.W.kitOne K (.type t) (.type c) = some (isiU t c):=by
 simp only [List.mem_cons,List.not_mem_nil,or_false] at ht hc;rcases ht with rfl | rfl | rfl | rfl | rfl | rfl | rfl <;> rcases hc with rfl | rfl | rfl | rfl | rfl | rfl <;> rfl
theorem tyU_in {H:Hp} {x:V} {t:String} (h:tyU H x = some t):t ∈ ["NoneType","bool","int","str","list","tuple","dict"]:=by
 unfold tyU at h
 split at h
 ·cases h;decide
 ·cases h;decide
 ·cases h;decide
 ·cases h;decide
 ·split at h
  ·cases h;decide
  ·cases h;decide
  ·cases h;decide
  ·cases h
 ·cases h
def uIsi (K:PySem.W.Frag):List V -> Hp -> VK -> Prop:=fun xs H Q => match xs with
 | [x,.ty T] => T ∈ ["bool","int","str","list","tuple","dict"] /\ match tyU H x with
  | some t => Q (.bl (isiU t T)) H
  | none => ∃ t b,TyOf K H x t /\ PySem.W.kitOne K t (.type T) = some b /\ Q (.bl b) H
 | _ => False
theorem ucall_isi:CallR X (.builtin "isinstance") (uIsi X.K):=by
 intro pins s σ H xs us Q I r h;rcases xs with _ | ⟨x,_ | ⟨y,_ | ⟨z,xs⟩⟩⟩
 ·exact (show False from h).elim
 ·exact (show False from h).elim
 rotate_left
 ·cases y <;> exact (show False from h).elim
 cases y with
 | ty T =>
  obtain ⟨u,w',rfl,r1,r2⟩:=vals2 r;cases r2;obtain ⟨hT,h⟩:=h
  split at h
  ·rename_i t e;exact isinst_ok I r1 (tyU_of e) (kit_pair (tyU_in e) hT) fun tk => ⟨.bl _,H,I.tok _,rfl,h⟩
  ·obtain ⟨t,b,ty,k,q⟩:=h;exact isinst_ok I r1 ty k fun tk => ⟨.bl b,H,I.tok _,rfl,q⟩
 | _ => exact (show False from h).elim
theorem pe_tyv {x:Str} {T:String} {pos:Pos} (hg:Gl X x) (hm:X.mg x = none) (hv:bootBuiltins x = some (.type T)) (hn:x ≠ "__name__":=by decide) (hd:(x == ("__debug__":Str)) = false:=by decide):PE X (.Name x pos) (tC (.ty T)):=pe_bltn hg hm hv rfl hn hd
def rJoin (K:PySem.W.Frag):V -> List V -> Hp -> VK -> Prop:=fun x vs H Q => ∃ z l ys,x = .str z /\ vs = [.ref l] /\ SqL K H l (ys.map V.str) /\ (ys.map (·.length)).sum + ys.length * z.length <= 16777216 /\ Q (.str (Str.join z ys)) H
theorem strsAre_of:∀ {ys:List Str} {us:List Value},Vals (ys.map V.str) us -> StrsAre us ys
 | [],_,.nil => .nil
 | y :: ys,_,.cons r t => by
  obtain ⟨k,rfl⟩:=r;exact .cons y k (strsAre_of t)
theorem mt_join:MtR X "str.join" (rJoin X.K):=by
 intro pins s σ H x xs v us Q I rx rs h;obtain ⟨z,l,ys,rfl,rfl,hq,hz,q⟩:=h;obtain ⟨t,rfl⟩:=rx;obtain ⟨u,rfl,ru⟩:=vals1 rs;cases ru;obtain ⟨its,rv,pl,_⟩:=I.list hq;refine join_list pl.isList (by simpa using strsAre_of rv) hz fun t' k => ?_
 have e:Txt.join z ys = Str.join z ys:=StrLaws.glued_eq_join z ys;rw [e];exact ⟨.str _,H,I.tok _,⟨_,rfl⟩,q⟩
end
section
variable {X:Cx} {o e:Expr} {es:List Expr} {to:TE} {t:TA} {apos cpos:Pos}
end
section
variable {X:Cx} {e:Expr} {te:TE}
theorem drop_tw (p:Nat -> Bool):∀ (l:List Nat),l.drop (l.takeWhile p).length = l.dropWhile p
 | [] => rfl
 | x :: l => by
  by_cases h:p x
  ·simp [List.takeWhile_cons,List.dropWhile_cons,h,drop_tw p l]
  ·simp [List.takeWhile_cons,List.dropWhile_cons,h]
end
open AutoSeq1 (wpAny_loadPart')
section
variable {prog:Program} {w:World} {A:Around} {E:Value -> Shared -> Prop} {s:Shared}
theorem nextOf_tup_item {it l:Addr} {i:Nat} {items:Array Value} {x:Value} {Q:Value -> Shared -> Prop} (hit:s.heap.IsTupleIter it l i) (hl:s.heap.IsTuple l items) (hx:items[i]? = some x)
  (hQ:∀ h',h'.IsTupleIter it l (i + 1) -> Heap.SameBut it s.heap h' -> Q x { s with heap:=h' }):wpAny (model prog w) A (Builtin.SmallTypes.nextOf (.ref it)) Q E s:=by
 obtain ⟨o,ho,hc,hd⟩:=id hit;obtain ⟨ol,hol,_,nl,hdl⟩:=hl;unfold Builtin.SmallTypes.nextOf;refine wpAny_bind (wpAny_callSpecial?_slot (name:=Str.ofString "__next__") hit.typeIs F.slot_tuple_iterator_next (wpAny_call_entry F.slot_tuple_iterator_next hit.typeIs F.entry_tuple_iterator_next ?_ (F.args_tuple_iterator_next_1 _)));show wpAny _ _ (field (.ref it) 0 >>= _) _ _ s;refine wpAny_bind (wpAny_field ho hd (x:=.ref l) rfl ?_);show wpAny _ _ (if (Value.ref l == Value.none) = true then _ else _) _ _ s
 rw [if_neg (show ¬ ((Value.ref l == Value.none) = true) from Bool.false_ne_true)];show wpAny _ _ (field (.ref it) 1 >>= _) _ _ s;refine wpAny_bind (wpAny_field ho hd (x:=.int i 0) rfl ?_);show wpAny _ _ (seqItems? (.ref l) >>= _) _ _ s;refine wpAny_bind (wpAny_seqItems hol hdl ?_);simp only [Int.toNat_natCast,hx];refine wpAny_bind (wpAny_setField ho hd (by simp) (wpAny_pure ⟨x,rfl,wpAny_pure (hQ _ ?_ (Heap.SameBut.update ..))⟩))
 exact ⟨_,Heap.get?_update_self _ ho (Obj.isFreed_of_fields (Obj.data_mapFields hd _)),(Obj.cls_mapFields ..).trans hc,by rw [Obj.data_mapFields hd];simp [rawInt]⟩
theorem nextOf_tup_end {it l:Addr} {i:Nat} {items:Array Value} {Q:Value -> Shared -> Prop} (hh:A.handled = none) (hit:s.heap.IsTupleIter it l i) (hl:s.heap.IsTuple l items) (hx:items[i]? = none)
  (hE:∀ h' e,Heap.ExtBut it s.heap h' -> (∃ o,h'.get? e = some o /\ o.cls = .type "StopIteration") -> E (.ref e) { s with heap:=h' }):wpAny (model prog w) A (Builtin.SmallTypes.nextOf (.ref it)) Q E s:=by
 obtain ⟨o,ho,hc,hd⟩:=id hit;obtain ⟨ol,hol,_,nl,hdl⟩:=hl;unfold Builtin.SmallTypes.nextOf;refine wpAny_bind (wpAny_callSpecial?_slot (name:=Str.ofString "__next__") hit.typeIs F.slot_tuple_iterator_next (wpAny_call_entry F.slot_tuple_iterator_next hit.typeIs F.entry_tuple_iterator_next ?_ (F.args_tuple_iterator_next_1 _)));show wpAny _ _ (field (.ref it) 0 >>= _) _ _ s;refine wpAny_bind (wpAny_field ho hd (x:=.ref l) rfl ?_);show wpAny _ _ (if (Value.ref l == Value.none) = true then _ else _) _ _ s
 rw [if_neg (show ¬ ((Value.ref l == Value.none) = true) from Bool.false_ne_true)];show wpAny _ _ (field (.ref it) 1 >>= _) _ _ s;refine wpAny_bind (wpAny_field ho hd (x:=.int i 0) rfl ?_);show wpAny _ _ (seqItems? (.ref l) >>= _) _ _ s;refine wpAny_bind (wpAny_seqItems hol hdl ?_);simp only [Int.toNat_natCast,hx];refine wpAny_bind (wpAny_rule (wpAny_bind (wpAny_setField ho hd (by simp) ?_)))
 show wpAny _ _ (newExc (.type "StopIteration") [] >>= _) _ _ _;refine wpAny_bind ?_;simp only [newExc,newTuple];refine wpAny_bind (wpAny_newObj_type ?_ (by size_fits))
 refine wpAny_bind (m:=firstArgMember _ _) (wpAny_of_eq (a:=Value.none) (by first | rfl | (simp only [firstArgMember];rfl)) ?_)
 refine wpAny_newObj_type ?_ (by size_fits)
 simp only [raiseNew];refine wpAny_bind (wpAny_handled ?_)
 first | rw [show A.in1.handled = none from hh] | rw [hh]
 refine wpAny_bind (wpAny_pure (wpAny_throw ?_));exact hE _ _ (((Heap.SameBut.update ..).extBut.push _).push _) ⟨_,Heap.get?_push_size _ rfl,rfl⟩
theorem draws_tup (hh:A.handled = none) (it l:Addr) (hne:l ≠ it) (items:Array Value) :
  Draws prog w A it [it,l] items.size (fun i v => items[i]? = some v) (fun i h => h.IsTupleIter it l i /\ h.IsTuple l items) where
 live:=fun _ _ st => let ⟨o,ho,_⟩:=st.1;⟨o,ho⟩
 frame:=fun _ _ _ st hk => ⟨let ⟨o,e,r⟩:=st.1;⟨o,hk it (by simp) o e,r⟩,let ⟨o,e,r⟩:=st.2;⟨o,hk l (by simp) o e,r⟩⟩
 item:=fun i s Q E hi st hQ => by
  refine nextOf_tup_item st.1 st.2 (x:=items[i]) (by simp [hi]) fun h' hit' hs' => ?_
  exact hQ _ h' s.toks (by simp [hi]) ⟨hit',st.2.extBut hs'.extBut hne⟩ hs'
 done:=fun s Q E st hE => nextOf_tup_end hh st.1 st.2 (by simp) hE
theorem meets_enum_tup (l:Addr) (items:Array Value) (n:Nat) (dct:Option Addr) (sl:Array (Option Value)) :
  Meets (Builtin.«enumerate.__new__» ⟨[.type "enumerate",.ref l],[]⟩) (fun _ R s => s.heap.get? l = some { cls:=.type "tuple",dict:=dct,data:=.seq items n,slots:=sl } /\
   R (.ok (.ret (.ref (s.heap.push { cls:=.type "tuple_iterator",data:=.fields #[.ref l,.int 0 0] }).objs.size)))
    { s with heap:=(s.heap.push { cls:=.type "tuple_iterator",data:=.fields #[.ref l,.int 0 0] }).push { cls:=.type "enumerate",data:=.fields #[.none,.bool false,.ref s.heap.objs.size,rawInt 0,.none,.none] } }) :=
 .of_wp fun prog w A R s h => by
  obtain ⟨hp,g,d,tk,os⟩:=s;obtain ⟨hl,h⟩:=h;have hsub:=sub_enumerate;have hL:Heap.IsTuple (Shared.heap ⟨hp,g,d,tk,os⟩) l items:=⟨_,hl,rfl,n,rfl⟩;wp_walk using wpAny_loadPart' hl;refine wpAny_stack_any fun st => wpAny_pure ?_;split
  ·rename_i c _ _ _ _ _
   cases (c == Value.type "enumerate") <;> (wp_walk using wpAny_loadPart' hl,wpAny_pyIter_tuple hL;exact ⟨_,rfl,h⟩)
  ·wp_walk using wpAny_loadPart' hl,wpAny_pyIter_tuple hL;exact ⟨_,rfl,h⟩
theorem call_enum_tup {l:Addr} {items:Array Value} {Q:Value -> Shared -> Prop} (hL:s.heap.IsTuple l items)
  (h:∀ h',IsEnum h' (s.heap.objs.size + 1) s.heap.objs.size 0 .none -> h'.IsTupleIter s.heap.objs.size l 0 -> h'.objs.size = s.heap.objs.size + 2 ->
   (∀ b o,s.heap.get? b = some o -> h'.get? b = some o) -> Q (.ref (s.heap.objs.size + 1)) { s with heap:=h' }) :
  wpAny (model prog w) A (call (.type "enumerate") [.ref l]) Q E s:=by
 obtain ⟨⟨c,dct,dt,sl⟩,hl,hc,n,hd⟩:=hL
 replace hc:c = .type "tuple":=hc
 replace hd:dt = .seq items n:=hd
 subst hc hd;refine callType_new F.called_enumerate (by decide) (F.typeCall_enumerate_1 _) (F.newCall_enumerate_1 _) (fun obj => F.args_object_init_2 obj _) F.entry_enumerate_new (meets_enum_tup l items n dct sl) ⟨hl,?_⟩
 have hz:(s.heap.push { cls:=.type "tuple_iterator",data:=.fields #[.ref l,.int 0 0] }).objs.size = s.heap.objs.size + 1:=Heap.size_push ..;show _ /\ _;rw [hz];have he:IsEnum ((s.heap.push { cls:=.type "tuple_iterator",data:=.fields #[.ref l,.int 0 0] }).push { cls:=.type "enumerate",data:=.fields #[.none,.bool false,.ref s.heap.objs.size,rawInt 0,.none,.none] }) (s.heap.objs.size + 1) s.heap.objs.size 0 .none:=by
  have:=Heap.get?_push_size (s.heap.push { cls:=.type "tuple_iterator",data:=.fields #[.ref l,.int 0 0] }) (o:={ cls:=.type "enumerate",data:=.fields #[.none,.bool false,.ref s.heap.objs.size,rawInt 0,.none,.none] }) rfl;rw [hz] at this;exact this
 refine ⟨⟨_,he,rfl⟩,h _ he ⟨_,Heap.get?_push_of_some _ (Heap.get?_push_size _ rfl),rfl,rfl⟩ (by rw [Heap.size_push,hz]) fun b o x => Heap.get?_push_of_some _ (Heap.get?_push_of_some _ x)⟩
end
section
variable {X:Cx} {pins:List (Addr × Obj)} {σ:St} {H:Hp} {s:Shared} {h':Heap}
theorem Inv.turns {fp:List Addr} {t':Nat} (I:Inv X pins σ H s) (hf:∀ b ∈ fp,FpOk X pins H b) (k:∀ b o,b ∉ fp -> s.heap.get? b = some o -> h'.get? b = some o):Inv X pins σ H { s with heap:=h',toks:=t' }:=by
 have nf:∀ b u,H b = some u -> b ∉ fp:=fun b u e z => by rw [(hf b z).1] at e;cases e
 refine I.step (g':=s.gens) (d':=s.drawn) (ch:=fp) (fun b hb => ?_) (fun b o _ _ hc e _ => k b o hc e) (fun b o _ _ hc e _ => ⟨o.slots,k b o hc e⟩) (fun _ _ _ _ n => n)
  (fun b o hc e => ⟨o,k b o hc e⟩) (fun _ _ e => e) (fun _ _ _ e => e) (fun b ps e => ⟨#[],by rw [e];simp⟩) (fun m hm => ?_) (fun b u e => ?_) I.bare
 ·obtain ⟨_,g1,g2,g3,g4,g5⟩:=hf b hb;exact ⟨g3,g1,g4,g5⟩
 ·obtain ⟨o,es,ep,ho,r⟩:=hm;exact ⟨o,es,ep,k _ o (fun z => (hf _ z).2.1 rfl) ho,r⟩
 ·refine (I.hok b u e).stay (fun c v hc q => k c v ?_ q) (fun _ q => q) (fun _ _ q => q) fun _ _ _ q => q;rcases hc with z | z
  ·rw [z];exact nf b u e
  ·exact nf c _ z
theorem Inv.turnNew {fp:List Addr} {p:Addr} {o:HO} {t':Nat} (I:Inv X pins σ H s) (hf:∀ b ∈ fp,FpOk X pins H b) (hp:s.heap.objs.size <= p) (k:∀ b o,b ∉ fp -> s.heap.get? b = some o -> h'.get? b = some o)
  (new:ObjOk X.prog X.w (upd H p o) h' p o):Inv X pins σ (upd H p o) { s with heap:=h',toks:=t' }:=by
 have nf:∀ b u,H b = some u -> b ∉ fp:=fun b u e z => by rw [(hf b z).1] at e;cases e
 have fr:H p = none:=I.hok.fresh hp;have np:∀ b u,H b = some u -> b ≠ p:=fun b u e => ne_of_none e fr;have ne:∀ b o,s.heap.get? b = some o -> b ≠ p:=fun b o e z => by rw [z] at e;exact absurd (Nat.lt_of_lt_of_le (Heap.lt_size e) hp) (Nat.lt_irrefl _)
 refine I.step (g':=s.gens) (d':=s.drawn) (ch:=fp) (fun b hb => ?_) (fun b o _ _ hc e _ => k b o hc e) (fun b o _ _ hc e _ => ⟨o.slots,k b o hc e⟩) (fun b o _ e n => by rw [upd_ne (ne b o e)];exact n)
  (fun b o hc e => ⟨o,k b o hc e⟩) (fun b xs e => by rw [upd_ne (np b _ e)];exact e) (fun b o u e => by rw [upd_ne (np b _ e)];exact e) (fun b ps e => ⟨#[],by rw [upd_ne (np b _ e),e];simp⟩) (fun m hm => ?_) (fun b u e => ?_) I.bare
 ·obtain ⟨_,g1,g2,g3,g4,g5⟩:=hf b hb;exact ⟨g3,g1,g4,g5⟩
 ·obtain ⟨o,es,ep,ho,r⟩:=hm;exact ⟨o,es,ep,k _ o (fun z => (hf _ z).2.1 rfl) ho,r⟩
 ·by_cases hb:b = p
  ·subst hb;rw [upd_same] at e;cases e;exact new
  ·rw [upd_ne hb] at e;refine (I.hok b u e).stay (fun c v hc q => k c v ?_ q) (fun c q => by rw [upd_ne (np c _ q)];exact q) (fun c xs q => by rw [upd_ne (np c _ q)];exact q) fun c _ _ q => by rw [upd_ne (np c _ q)];exact q
   rcases hc with z | z
   ·rw [z];exact nf b u e
   ·exact nf c _ z
end
def getL (K:PySem.W.Frag) (a:Addr):Nat -> Hp -> V -> Prop:=fun i H x => ∃ xs,SqL K H a xs /\ xs[i]? = some x
def getT (K:PySem.W.Frag) (a:Addr):Nat -> Hp -> V -> Prop:=fun i H x => ∃ xs,SqT K H a xs /\ xs[i]? = some x
def endL (K:PySem.W.Frag) (a:Addr):Nat -> Hp -> Prop:=fun i H => ∃ xs,SqL K H a xs /\ xs.length = i
def endT (K:PySem.W.Frag) (a:Addr):Nat -> Hp -> Prop:=fun i H => ∃ xs,SqT K H a xs /\ xs.length = i
def IteT (K:PySem.W.Frag) (a:Addr):It :=
 ⟨fun i H => ∃ x,getT K a i H x,fun i H x H' => ∃ p y,(∀ xs,SqT K H a xs -> xs[i]? = some y) /\ H p = none /\ x = .ref p /\ H' = upd H p (.tup [.int i,y]),endT K a⟩
theorem turn_enumT {P:Program} {w:World} {K:PySem.W.Frag} {es:List Expr} {tk:Nat} {tp:Pos} (a it e:Addr) (hne:e ≠ it):Turn P w K (.Tuple es tk tp) (IteT K a) [e,it] e (fun i h => (∃ old,IsEnum h e it i old) /\ h.IsTupleIter it a i) where
 mem:=by simp
 obj:=fun i h st b hb => by
  obtain ⟨⟨old,he⟩,o,eo,c,d⟩:=st;rcases List.mem_cons.mp hb with z | z
  ·subst z;exact ⟨_,he,fun v z => by cases z⟩
  ·have z:b = it:=by simpa using z
   subst z;exact ⟨o,eo,fun v z => by rw [d] at z;cases z⟩
 keep:=fun i h h' st k => by
  obtain ⟨⟨old,he⟩,o,eo,r⟩:=st;exact ⟨⟨old,k e (by simp) _ he⟩,o,k it (by simp) o eo,r⟩
 item:=by
  intro X hP hw hK hc i pins s σ H E I hf st hg;subst hP hw hK;obtain ⟨x,xs,hq,hx⟩:=hg;obtain ⟨⟨old,he⟩,hit⟩:=st;obtain ⟨its,rv,p,hz⟩:=I.tuple hq;obtain ⟨u,hu,ru⟩:=rv.get hx;obtain ⟨g0,g1,g2,g3,g4,g5⟩:=hf e (by simp)
  obtain ⟨f0,f1,f2,f3,f4,f5⟩:=hf it (by simp)
  have ht:s.heap.IsTuple a its.toArray:=p;have ha:a ≠ it:=by
   rintro rfl;obtain ⟨o,e1,c1,_⟩:=hit;obtain ⟨o',e2,c2,_⟩:=ht;rw [e1] at e2;cases e2;rw [c1] at c2;exact absurd (Value.type.inj c2) (by decide)
  have hea:e ≠ a:=by
   rintro rfl;obtain ⟨o',e2,c2,_⟩:=ht;have e1:s.heap.get? e = some _:=he;rw [e1] at e2;cases e2;exact absurd (Value.type.inj c2) (by decide)
  have hi:i < its.toArray.size:=by
   have:=(List.getElem?_eq_some_iff.mp hu).1
   simpa using this
  refine wpAny_pyNext_enum_itemD (draws_tup (A:=X.A.in1) (I.ok.hd hc) it a ha its.toArray) he ⟨hit,ht⟩ hi hne (by simp [hne,hea]) fun x' h' tk' hP ho hs' hT hsz hk => ?_
  have ex:x' = u:=by
   have hP':its.toArray[i]? = some x':=hP;rw [List.getElem?_toArray,hu] at hP';exact (Option.some.inj hP').symm
  subst ex;refine ⟨.ref s.heap.objs.size,rfl,wpAny_letOwnedTupleGo_enum ho fun h2 he2 hs2 => ?_⟩;have fr:H s.heap.objs.size = none:=I.hok.fresh (Nat.le_refl _);have hle:e ≠ s.heap.objs.size:=Nat.ne_of_lt (Heap.lt_size he);have hT2:h2.get? s.heap.objs.size = some { cls:=.type "tuple",data:=.seq #[.int i tk',x'] }:=(hs2.2 _ (Ne.symm hle)).trans hT;have I2:Inv X pins σ (upd H s.heap.objs.size (.tup [.int i,x])) { s with heap:=h2,toks:=tk' + 1 }:=by
   refine I.turnNew (fp:=[e,it]) hf (Nat.le_refl _) (fun b o hb eb => ?_) ⟨by show 2 <= sizeLine;decide,[.int i tk',x'],.cons ⟨_,rfl⟩ (.cons ru .nil),⟨_,hT2,rfl,_,rfl,rfl⟩⟩
   have n1:b ≠ e:=fun z => hb (by simp [z])
   have n2:b ≠ it:=fun z => hb (by simp [z])
   exact (hs2.2 b n1).trans (hk b o n1 n2 eb)
  refine ⟨.ref s.heap.objs.size,_,I2,rfl,⟨s.heap.objs.size,x,fun ys hy => by rw [I.tuple_inj hy hq];exact hx,fr,rfl,rfl⟩,⟨⟨x',?_⟩,?_⟩,fun b hb => ?_⟩
  ·have e:(((i + 1:Nat)):Int) = (i:Int) + 1:=by lia
   rw [e];exact he2
  ·obtain ⟨o,e1,r⟩:=hs'.1;exact ⟨o,(hs2.2 it (Ne.symm hne)).trans e1,r⟩
  ·have n:b ≠ s.heap.objs.size:=by
    rcases List.mem_cons.mp hb with z | z
    ·subst z;exact hle
    ·have z:b = it:=by simpa using z
     subst z;obtain ⟨o,e1,_⟩:=hit;exact Nat.ne_of_lt (Heap.lt_size e1)
   rw [upd_ne n];exact (hf b hb).1
 done:=by
  intro X hP hw hK hc i pins s σ H E I hf st hg;subst hP hw hK;obtain ⟨xs,hq,hx⟩:=hg;obtain ⟨⟨old,he⟩,hit⟩:=st;obtain ⟨its,rv,p,hz⟩:=I.tuple hq;have ht:s.heap.IsTuple a its.toArray:=p;have ha:a ≠ it:=by
   rintro rfl;obtain ⟨o,e1,c1,_⟩:=hit;obtain ⟨o',e2,c2,_⟩:=ht;rw [e1] at e2;cases e2;rw [c1] at c2;exact absurd (Value.type.inj c2) (by decide)
  have hl:=rv.length;have hsz:its.toArray.size = i:=by simp;lia
  refine wpAny_pyNext_enum_endD (draws_tup (A:=X.A.in1) (I.ok.hd hc) it a ha its.toArray) he (by rw [hsz];exact ⟨hit,ht⟩) fun h' eb => ⟨rfl,?_⟩
  exact I.turns (t':=s.toks) hf fun b o hb e1 => eb b o (fun z => hb (by simp [z])) e1
 self:=fun A i s Q E st h => by
  obtain ⟨⟨old,he⟩,_⟩:=st;exact wpAny_pyIter_enum he h
end L2
namespace L2
open PySem PySem.Spec PyProof.Rows
section
variable {X:Cx} {es:List Expr} {tk:Nat} {tp:Pos}
def iEnum (K:PySem.W.Frag) (ta:TA):TI:=fun σ H R => ta σ H fun vs H1 => ∃ a,vs = [.ref a] /\ (∃ xs,SqT K H1 a xs) /\ R (IteT K a) H1
theorem pi_enum {e:Expr} {ta:TA} {p pos:Pos} (hg:Gl X "enumerate") (hm:X.mg "enumerate" = none) (ha:PA X [e] ta) (h1:nst e = true:=by rfl) (hv:bootBuiltins "enumerate" = some (.type "enumerate"):=by decide +kernel) :
  PI X (.Tuple es tk tp) (.Call (.Name "enumerate" p) [e] [] pos) (iEnum X.K ta):=by
 intro pins s σ H R I h;refine Call_ (ld_blt I hg hm hv (PyProof.Rows.callWith_type1 (thn (ha pos pins s σ H _ I h) fun us s1 hq1 => ?_) (star1 h1) rfl));obtain ⟨vs,H1,I1,r1,q1⟩:=hq1;obtain ⟨a,e,⟨xs,hq⟩,q⟩:=q1;subst e;obtain ⟨u,rfl,ru⟩:=vals1 r1;cases ru;obtain ⟨its,rv,pt,hz⟩:=I1.tuple hq;refine call_enum_tup (show s1.heap.IsTuple a its.toArray from pt) fun h' he hit hsz hk => ?_;refine wpAny_pyIter_enum he ?_;have I2:Inv X pins σ H1 { s1 with heap:=h' }:=I1.kept (t':=s1.toks) hk
 refine ⟨s1.heap.objs.size + 1,[s1.heap.objs.size + 1,s1.heap.objs.size],_,_,H1,rfl,I2,turn_enumT a s1.heap.objs.size (s1.heap.objs.size + 1) (Nat.ne_of_gt (Nat.lt_succ_self _)),⟨⟨_,he⟩,hit⟩,fun b hb => ?_,q⟩;have hb':s1.heap.objs.size <= b:=by
  rcases List.mem_cons.mp hb with z | z
  ·rw [z];exact Nat.le_succ _
  ·have z:b = s1.heap.objs.size:=by simpa using z
   rw [z];exact Nat.le_refl _
 exact I1.fpOk hb' (I1.hok.fresh hb')
def iAny (K:PySem.W.Frag) (tl:TE):TI:=fun σ H R => tl σ H fun x H1 => match x with
 | .ref a => match sq H1 a with
  | some (true,_) => R (Itl K a) H1
  | some (false,_) => R (Itt K a) H1
  | none => (∃ xs,SqT K H1 a xs) /\ R (Itt K a) H1
 | _ => False
theorem pi_any {tg l:Expr} {tl:TE} (hl:PE X l tl):PI X tg l (iAny X.K tl):=by
 intro pins s σ H R I h;refine thn (hl pins s σ H _ I h) fun v s1 hq2 => ?_;obtain ⟨x,H1,I1,r1,q1⟩:=hq2;obtain ⟨a,rfl,q⟩:∃ a,x = V.ref a /\ (((∃ xs,SqL X.K H1 a xs) /\ R (Itl X.K a) H1) \/ ((∃ xs,SqT X.K H1 a xs) /\ R (Itt X.K a) H1)):=by
  match x,q1 with
  | .ref a,q1 =>
   simp only at q1
   split at q1
   ·rename_i xs e;exact ⟨a,rfl,.inl ⟨⟨xs,sq_true e⟩,q1⟩⟩
   ·rename_i xs e;exact ⟨a,rfl,.inr ⟨⟨xs,sq_false e⟩,q1⟩⟩
   ·exact ⟨a,rfl,.inr q1⟩
 cases r1;rcases q with ⟨⟨xs,hq⟩,q⟩ | ⟨⟨xs,hq⟩,q⟩
 ·obtain ⟨its,rv,p,hz⟩:=I1.list hq;refine wpAny_pyIter_list p.isList ?_;refine ⟨s1.heap.objs.size,[s1.heap.objs.size],_,_,H1,rfl,I1.kept (t':=s1.toks) fun b o e => Heap.get?_push_of_some _ e,turn_list a _,⟨_,Heap.get?_push_size _ rfl,rfl,rfl⟩,fun b hb => ?_,q⟩;have e:b = s1.heap.objs.size:=by simpa using hb
  subst e;exact I1.fpOk (Nat.le_refl _) (I1.hok.fresh (Nat.le_refl _))
 ·obtain ⟨its,rv,p,hz⟩:=I1.tuple hq;refine wpAny_pyIter_tuple (show s1.heap.IsTuple a its.toArray from p) ?_;refine ⟨s1.heap.objs.size,[s1.heap.objs.size],_,_,H1,rfl,I1.kept (t':=s1.toks) fun b o e => Heap.get?_push_of_some _ e,turn_tuple a _,⟨_,Heap.get?_push_size _ rfl,rfl,rfl⟩,fun b hb => ?_,q⟩;have e:b = s1.heap.objs.size:=by simpa using hb
  subst e;exact I1.fpOk (Nat.le_refl _) (I1.hok.fresh (Nat.le_refl _))
end
def ForW (J:It) (g:TG) (tb:TS) (D:Ends) (σ:St) (H:Hp):Prop:=∃ W:Nat -> Nat -> St -> Hp -> Prop,(∃ m,W 0 m σ H) /\ ∀ i m σ H,W i m σ H ->
 (J.stop i H /\ D.nx σ H) \/ (J.go i H /\ ∃ N:St -> Hp -> Prop,(∀ σ' H',N σ' H' -> ∃ m',m' < m /\ W (i + 1) m' σ' H') /\ ∀ x H',J.yld i H x H' -> g x σ H' fun σ2 H2 => tb { D with nx:=N,ct:=N,bk:=D.nx } σ2 H2)
theorem tFor_ap (wi:TI) (g:TG) (tb:TS) (D:Ends) (σ:St) (H:Hp):tFor wi g tb D σ H = wi σ H fun J H1 => ForW J g tb D σ H1:=rfl
def CompW (J:It) (k:Nat) (g:TG) (tc:TT) (te:TE) (Q:VK) (σ:St) (H1:Hp):Prop:=∀ D,H1 D = none ->
 ∃ W:Nat -> Nat -> List V -> St -> Hp -> Prop,(∃ m,W 0 m [] (List.replicate k none ++ σ) (upd H1 D (.lst []))) /\ ∀ i m ys σ' H',W i m ys σ' H' -> H' D = some (.lst ys) /\
  ((J.stop i H' /\ Q (.ref D) H') \/ (J.go i H' /\ ys.length < sizeLine /\ ∀ x H2,J.yld i H' x H2 -> g x σ' H2 fun σ3 H3 => tc σ3 H3 fun b H4 =>
   if b = true then te σ3 H4 fun v H5 => H5 D = some (.lst ys) /\ ∃ m',m' < m /\ W (i + 1) m' (ys ++ [v]) σ3 (upd H5 D (.lst (ys ++ [v])))
   else ∃ m',m' < m /\ W (i + 1) m' ys σ3 H4))
theorem tComp_ap (wi:TI) (k:Nat) (g:TG) (tc:TT) (te:TE) (σ:St) (H:Hp) (Q:VK):tComp wi k g tc te σ H Q = wi σ H fun J H1 => CompW J k g tc te Q σ H1:=rfl
section
variable {K:PySem.W.Frag} {g:TG} {tb:TS} {D:Ends} {σ:St} {H:Hp} {te:TE} {Q:VK}
theorem forW_list {a:Addr} {xs:List V} (Pv:Nat -> St -> Hp -> Prop) (h0:Pv 0 σ H) (hl:∀ i σ H,i <= xs.length -> Pv i σ H -> SqL K H a xs)
  (hs:∀ i x σ H,xs[i]? = some x -> Pv i σ H -> g x σ H fun σ2 H2 => tb { D with nx:=Pv (i + 1),ct:=Pv (i + 1),bk:=D.nx } σ2 H2) (hd:∀ σ H,Pv xs.length σ H -> D.nx σ H):ForW (Itl K a) g tb D σ H:=for_list Pv h0 hl hs hd
theorem forW_tup {a:Addr} {xs:List V} (Pv:Nat -> St -> Hp -> Prop) (h0:Pv 0 σ H) (hl:∀ i σ H,i <= xs.length -> Pv i σ H -> SqT K H a xs)
  (hs:∀ i x σ H,xs[i]? = some x -> Pv i σ H -> g x σ H fun σ2 H2 => tb { D with nx:=Pv (i + 1),ct:=Pv (i + 1),bk:=D.nx } σ2 H2) (hd:∀ σ H,Pv xs.length σ H -> D.nx σ H):ForW (Itt K a) g tb D σ H:=for_tup Pv h0 hl hs hd
theorem forW_range {lo:Int} {n:Nat} (Pv:Nat -> St -> Hp -> Prop) (h0:Pv 0 σ H)
  (hs:∀ i σ H,i < n -> Pv i σ H -> g (.int (lo + i)) σ H fun σ2 H2 => tb { D with nx:=Pv (i + 1),ct:=Pv (i + 1),bk:=D.nx } σ2 H2) (hd:∀ σ H,Pv n σ H -> D.nx σ H):ForW (Itr lo n) g tb D σ H:=for_range Pv h0 hs hd
theorem forW_enumT {a:Addr} {xs:List V} (Pv:Nat -> St -> Hp -> Prop) (h0:Pv 0 σ H) (hl:∀ i σ H,i <= xs.length -> Pv i σ H -> SqT K H a xs)
  (hs:∀ i x σ H p,xs[i]? = some x -> Pv i σ H -> H p = none -> g (.ref p) σ (upd H p (.tup [.int i,x])) fun σ2 H2 => tb { D with nx:=Pv (i + 1),ct:=Pv (i + 1),bk:=D.nx } σ2 H2) (hd:∀ σ H,Pv xs.length σ H -> D.nx σ H) :
  ForW (IteT K a) g tb D σ H:=by
 refine ⟨fun i m σ H => m = xs.length - i /\ i <= xs.length /\ Pv i σ H,⟨xs.length,by simp,Nat.zero_le _,h0⟩,?_⟩
 rintro i m σ H ⟨rfl,hi,p⟩;have q:=hl i σ H hi p;by_cases hlt:i < xs.length
 ·refine .inr ⟨⟨xs[i],xs,q,by simp [hlt]⟩,Pv (i + 1),fun σ' H' p' => ⟨xs.length - (i + 1),by lia,rfl,hlt,p'⟩,fun x H' y => ?_⟩
  obtain ⟨b,y,hy,fr,rfl,rfl⟩:=y;exact hs i y σ H b (hy xs q) p fr
 ·have e:i = xs.length:=by lia
  subst e;exact .inl ⟨⟨xs,q,rfl⟩,hd σ H p⟩
theorem compW_range {lo:Int} {n:Nat} (hn:n <= sizeLine) (Pv:Addr -> Nat -> List V -> Hp -> Prop) (h0:∀ D,H D = none -> Pv D 0 [] (upd H D (.lst []))) (hD:∀ D i ys H',Pv D i ys H' -> H' D = some (.lst ys) /\ ys.length = i)
  (hs:∀ D i ys H' (R:VK),i < n -> Pv D i ys H' -> (∀ v H5,H5 D = some (.lst ys) -> Pv D (i + 1) (ys ++ [v]) (upd H5 D (.lst (ys ++ [v]))) -> R v H5) -> te (some (.int (lo + i)) :: σ) H' R) (hd:∀ D ys H',Pv D n ys H' -> Q (.ref D) H') :
  CompW (Itr lo n) 1 (gName 0) tTrue te Q σ H:=by
 intro D hD0;refine ⟨fun i m ys σ' H' => m = n - i /\ i <= n /\ Pv D i ys H' /\ ∃ o,σ' = o :: σ,⟨n,by simp,Nat.zero_le _,h0 D hD0,none,rfl⟩,?_⟩
 rintro i m ys σ' H' ⟨rfl,hi,p,o,rfl⟩;obtain ⟨hDi,hly⟩:=hD _ _ _ _ p;refine ⟨hDi,?_⟩;by_cases hlt:i < n
 ·refine .inr ⟨hlt,by lia,fun x H2 y => ?_⟩
  obtain ⟨rfl,rfl⟩:=y;unfold gName tTrue;dsimp only;rw [if_pos rfl];exact hs D i ys H2 _ hlt p fun v H5 q1 q2 => ⟨q1,n - (i + 1),by lia,rfl,hlt,q2,_,rfl⟩
 ·have e:i = n:=by lia
  subst e;exact .inl ⟨Nat.le_refl _,hd D ys H' p⟩
theorem compW_tup {a:Addr} {xs:List V} (hn:xs.length <= sizeLine) (Pv:Addr -> Nat -> List V -> Hp -> Prop) (h0:∀ D,H D = none -> Pv D 0 [] (upd H D (.lst []))) (hD:∀ D i ys H',Pv D i ys H' -> H' D = some (.lst ys) /\ ys.length = i)
  (hl:∀ D i ys H',Pv D i ys H' -> SqT K H' a xs)
  (hs:∀ D i ys H' x (R:VK),xs[i]? = some x -> Pv D i ys H' -> (∀ v H5,H5 D = some (.lst ys) -> Pv D (i + 1) (ys ++ [v]) (upd H5 D (.lst (ys ++ [v]))) -> R v H5) -> te (some x :: σ) H' R) (hd:∀ D ys H',Pv D xs.length ys H' -> Q (.ref D) H') :
  CompW (Itt K a) 1 (gName 0) tTrue te Q σ H:=by
 intro D hD0;refine ⟨fun i m ys σ' H' => m = xs.length - i /\ i <= xs.length /\ Pv D i ys H' /\ ∃ o,σ' = o :: σ,⟨xs.length,by simp,Nat.zero_le _,h0 D hD0,none,rfl⟩,?_⟩
 rintro i m ys σ' H' ⟨rfl,hi,p,o,rfl⟩;obtain ⟨hDi,hly⟩:=hD _ _ _ _ p;have q:=hl _ _ _ _ p;refine ⟨hDi,?_⟩;by_cases hlt:i < xs.length
 ·refine .inr ⟨⟨xs,xs[i],q,by simp [hlt]⟩,by lia,fun x H2 y => ?_⟩
  obtain ⟨rfl,y⟩:=y;unfold gName tTrue;dsimp only;rw [if_pos rfl];exact hs D i ys H2 x _ (y xs q) p fun v H5 q1 q2 => ⟨q1,xs.length - (i + 1),by lia,rfl,hlt,q2,_,rfl⟩
 ·have e:i = xs.length:=by lia
  subst e;exact .inl ⟨⟨xs,q,Nat.le_refl _⟩,hd D ys H' p⟩
end
namespace Ap
theorem tVar (i:Nat) (σ:St) (H:Hp) (Q:VK):L2.tVar i σ H Q = ∃ v,σ[i]? = some (some v) /\ Q v H:=rfl
theorem tC (v:V) (σ:St) (H:Hp) (Q:VK):L2.tC v σ H Q = Q v H:=rfl
theorem tOp (r:R2) (ta tb:TE) (σ:St) (H:Hp) (Q:VK):L2.tOp r ta tb σ H Q = ta σ H fun x H1 => tb σ H1 fun y H2 => r x y H2 Q:=rfl
theorem tUn (r:V -> Hp -> VK -> Prop) (ta:TE) (σ:St) (H:Hp) (Q:VK):L2.tUn r ta σ H Q = ta σ H fun x H1 => r x H1 Q:=rfl
theorem tTest (t:TE) (σ:St) (H:Hp) (Q:Bool -> Hp -> Prop):L2.tTest t σ H Q = t σ H fun x H' => ∃ k,x = .bl k /\ Q k H':=rfl
theorem tIf (t:TT) (ta tb:TE) (σ:St) (H:Hp) (Q:VK):L2.tIf t ta tb σ H Q = t σ H fun c H1 => if c = true then ta σ H1 Q else tb σ H1 Q:=rfl
theorem tAnd (t u:TT) (σ:St) (H:Hp) (Q:Bool -> Hp -> Prop):L2.tAnd t u σ H Q = t σ H fun c H1 => if c = true then u σ H1 Q else Q false H1:=rfl
theorem tOr (t u:TT) (σ:St) (H:Hp) (Q:Bool -> Hp -> Prop):L2.tOr t u σ H Q = t σ H fun c H1 => if c = true then Q true H1 else u σ H1 Q:=rfl
theorem tNot (t:TT) (σ:St) (H:Hp) (Q:Bool -> Hp -> Prop):L2.tNot t σ H Q = t σ H fun c H1 => Q (!c) H1:=rfl
theorem tAndV (ta tb:TE) (σ:St) (H:Hp) (Q:VK):L2.tAndV ta tb σ H Q = ta σ H fun x H1 => ∃ c,x = .bl c /\ if c = true then tb σ H1 Q else Q (.bl false) H1:=rfl
theorem tChain (r r':R2) (ta tb tc:TE) (σ:St) (H:Hp) (Q:VK):L2.tChain r r' ta tb tc σ H Q = ta σ H fun x H1 => tb σ H1 fun y H2 => r x y H2 fun z H3 => ∃ k,z = .bl k /\ (if k = true then tc σ H3 fun w' H4 => r' y w' H4 Q else Q (.bl false) H3):=rfl
theorem tK (vs:List V) (σ:St) (H:Hp) (Q:List V -> Hp -> Prop):L2.tK vs σ H Q = Q vs H:=rfl
theorem tNil (σ:St) (H:Hp) (Q:List V -> Hp -> Prop):L2.tNil σ H Q = Q [] H:=rfl
theorem tCons (ta:TE) (tr:TA) (σ:St) (H:Hp) (Q:List V -> Hp -> Prop):L2.tCons ta tr σ H Q = ta σ H fun x H1 => tr σ H1 fun xs H2 => Q (x :: xs) H2:=rfl
theorem tTup (t:TA) (σ:St) (H:Hp) (Q:VK):L2.tTup t σ H Q = t σ H fun xs H1 => xs.length <= sizeLine /\ ∀ p,H1 p = none -> Q (.ref p) (upd H1 p (.tup xs)):=rfl
theorem tLst (t:TA) (σ:St) (H:Hp) (Q:VK):L2.tLst t σ H Q = t σ H fun xs H1 => xs.length <= sizeLine /\ ∀ p,H1 p = none -> Q (.ref p) (upd H1 p (.lst xs)):=rfl
theorem tCall (sp:Sp) (dvs:List V) (E:XK) (t:TA) (σ:St) (H:Hp) (Q:VK):L2.tCall sp dvs E t σ H Q = t σ H fun vs H1 => sp (vs ++ dvs) H1 Q E:=rfl
theorem tCB (r:List V -> Hp -> VK -> Prop) (t:TA) (σ:St) (H:Hp) (Q:VK):L2.tCB r t σ H Q = t σ H fun vs H1 => r vs H1 Q:=rfl
theorem tBM (K:PySem.W.Frag) (T:String) (r:V -> List V -> Hp -> VK -> Prop) (to:TE) (t:TA) (σ:St) (H:Hp) (Q:VK):L2.tBM K T r to t σ H Q = to σ H fun x H1 => tyV K T x H1 /\ t σ H1 fun xs H2 => r x xs H2 Q:=rfl
theorem tBM0 (K:PySem.W.Frag) (T:String) (r:V -> List V -> Hp -> VK -> Prop) (to:TE) (σ:St) (H:Hp) (Q:VK):L2.tBM0 K T r to σ H Q = to σ H fun x H1 => tyV K T x H1 /\ r x [] H1 Q:=rfl
theorem tSl (r:V -> Option Int -> Option Int -> Hp -> VK -> Prop) (te:TE) (tl th:TO) (σ:St) (H:Hp) (Q:VK):L2.tSl r te tl th σ H Q = te σ H fun x H1 => tl σ H1 fun l H2 => th σ H2 fun u H3 => r x l u H3 Q:=rfl
theorem tNoPart (σ:St) (H:Hp) (Q:Option Int -> Hp -> Prop):L2.tNoPart σ H Q = Q none H:=rfl
theorem tPart (t:TE) (σ:St) (H:Hp) (Q:Option Int -> Hp -> Prop):L2.tPart t σ H Q = t σ H fun x H1 => ∃ i,x = .int i /\ Q (some i) H1:=rfl
theorem tSeq (t u:TS) (D:Ends) (σ:St) (H:Hp):L2.tSeq t u D σ H = t { D with nx:=u D } σ H:=rfl
theorem tAsg (te:TE) (g:TG) (D:Ends) (σ:St) (H:Hp):L2.tAsg te g D σ H = te σ H fun x H1 => g x σ H1 D.nx:=rfl
theorem gName (i:Nat) (v:V) (σ:St) (H:Hp) (Q:St -> Hp -> Prop):L2.gName i v σ H Q = Q (σ.set i (some v)) H:=rfl
theorem gSub (to ti:TE) (t:TSet) (v:V) (σ:St) (H:Hp) (Q:St -> Hp -> Prop):L2.gSub to ti t v σ H Q = to σ H fun o H1 => ti σ H1 fun i H2 => t o i v H2 fun H3 => Q σ H3:=rfl
theorem gTup (K:PySem.W.Frag) (n:Nat) (t:TGs) (v:V) (σ:St) (H:Hp) (Q:St -> Hp -> Prop):L2.gTup K n t v σ H Q = ∃ a xs,v = .ref a /\ SqT K H a xs /\ xs.length = n /\ t xs σ H Q:=rfl
theorem gCons (t:TG) (u:TGs) (v:V) (vs:List V) (σ:St) (H:Hp) (Q:St -> Hp -> Prop):L2.gCons t u (v :: vs) σ H Q = t v σ H fun σ' H' => u vs σ' H' Q:=by
 refine propext ⟨fun hq1 => ?_,fun h => ⟨v,vs,rfl,h⟩⟩;obtain ⟨a,b,e,h⟩:=hq1
 cases e;exact h
theorem gNil (σ:St) (H:Hp) (Q:St -> Hp -> Prop):L2.gNil [] σ H Q = Q σ H:=propext ⟨fun h => h.2,fun h => ⟨rfl,h⟩⟩
theorem tRet (te:TE) (D:Ends) (σ:St) (H:Hp):L2.tRet te D σ H = te σ H D.rt:=rfl
theorem tDrop (te:TE) (D:Ends) (σ:St) (H:Hp):L2.tDrop te D σ H = te σ H fun _ H1 => D.nx σ H1:=rfl
theorem tIfS (c:TT) (t u:TS) (D:Ends) (σ:St) (H:Hp):L2.tIfS c t u D σ H = c σ H fun b H1 => if b = true then t D σ H1 else u D σ H1:=rfl
theorem tNext (D:Ends) (σ:St) (H:Hp):L2.tNext D σ H = D.nx σ H:=rfl
theorem iRng1 (ta:TA) (σ:St) (H:Hp) (R:It -> Hp -> Prop):L2.iRng1 ta σ H R = ta σ H fun vs H1 => ∃ j:Int,vs = [.int j] /\ -(2 ^ 62) <= j /\ j < 2 ^ 62 /\ R (Itr 0 j.toNat) H1:=rfl
theorem iRng2 (ta:TA) (σ:St) (H:Hp) (R:It -> Hp -> Prop):L2.iRng2 ta σ H R = ta σ H fun vs H1 => ∃ i j:Int,vs = [.int i,.int j] /\ (-(2 ^ 62) <= i /\ i < 2 ^ 62 /\ -(2 ^ 62) <= j /\ j < 2 ^ 62) /\ R (Itr i (j - i).toNat) H1:=rfl
theorem iAny (K:PySem.W.Frag) (tl:TE) (σ:St) (H:Hp) (R:It -> Hp -> Prop):L2.iAny K tl σ H R = tl σ H fun x H1 => match x with
 | .ref a => match sq H1 a with
  | some (true,_) => R (Itl K a) H1
  | some (false,_) => R (Itt K a) H1
  | none => (∃ xs,SqT K H1 a xs) /\ R (Itt K a) H1
 | _ => False:=rfl
theorem iEnum (K:PySem.W.Frag) (ta:TA) (σ:St) (H:Hp) (R:It -> Hp -> Prop):L2.iEnum K ta σ H R = ta σ H fun vs H1 => ∃ a,vs = [.ref a] /\ (∃ xs,SqT K H1 a xs) /\ R (IteT K a) H1:=rfl
theorem rI (C:Int -> Int -> Prop) (g:Int -> Int -> V) (i j:Int) (H:Hp) (Q:VK):L2.rI C g (.int i) (.int j) H Q = (C i j /\ Q (g i j) H):=by
 refine propext ⟨fun hq2 => ?_,fun h => ⟨i,j,rfl,rfl,h⟩⟩;obtain ⟨a,b,e1,e2,h⟩:=hq2
 cases e1;cases e2;exact h
theorem rI0 (g:Int -> Int -> V) (i j:Int) (H:Hp) (Q:VK):L2.rI0 g (.int i) (.int j) H Q = Q (g i j) H:=by
 refine propext ⟨fun hq3 => ?_,fun h => ⟨i,j,rfl,rfl,h⟩⟩;obtain ⟨a,b,e1,e2,h⟩:=hq3
 cases e1;cases e2;exact h
theorem rU (g:Int -> V) (i:Int) (H:Hp) (Q:VK):L2.rU g (.int i) H Q = Q (g i) H:=by
 refine propext ⟨fun hq4 => ?_,fun h => ⟨i,rfl,h⟩⟩;obtain ⟨a,e1,h⟩:=hq4
 cases e1;exact h
theorem uAddI (K:PySem.W.Frag) (i j:Int) (H:Hp) (Q:VK):uAdd K (.int i) (.int j) H Q = Q (.int (i + j)) H:=rfl
theorem uAddS (K:PySem.W.Frag) (i j:Str) (H:Hp) (Q:VK):uAdd K (.str i) (.str j) H Q = (i.length + j.length <= sizeLine /\ Q (.str (i ++ j)) H):=rfl
theorem uMulI (i j:Int) (H:Hp) (Q:VK):uMul (.int i) (.int j) H Q = (CMul i j /\ Q (.int (i * j)) H):=rfl
theorem rEqI (i j:Int) (H:Hp) (Q:VK):rEq (.int i) (.int j) H Q = Q (.bl (decide (i = j))) H:=by
 have e:decide (V.int i = V.int j) = decide (i = j):=by rw [decide_eq_decide];constructor <;> intro h <;> (try cases h) <;> (try rw [h]) <;> rfl
 unfold rEq;rw [e];exact propext ⟨fun h => h.2,fun h => ⟨rfl,h⟩⟩
theorem rEqS (i j:Str) (H:Hp) (Q:VK):rEq (.str i) (.str j) H Q = Q (.bl (decide (i = j))) H:=by
 have e:decide (V.str i = V.str j) = decide (i = j):=by rw [decide_eq_decide];constructor <;> intro h <;> (try cases h) <;> (try rw [h]) <;> rfl
 unfold rEq;rw [e];exact propext ⟨fun h => h.2,fun h => ⟨rfl,h⟩⟩
theorem rNeI (i j:Int) (H:Hp) (Q:VK):rNe (.int i) (.int j) H Q = Q (.bl (!decide (i = j))) H:=by
 have e:decide (V.int i = V.int j) = decide (i = j):=by rw [decide_eq_decide];constructor <;> intro h <;> (try cases h) <;> (try rw [h]) <;> rfl
 unfold rNe;rw [e];exact propext ⟨fun h => h.2,fun h => ⟨rfl,h⟩⟩
theorem rNeS (i j:Str) (H:Hp) (Q:VK):rNe (.str i) (.str j) H Q = Q (.bl (!decide (i = j))) H:=by
 have e:decide (V.str i = V.str j) = decide (i = j):=by rw [decide_eq_decide];constructor <;> intro h <;> (try cases h) <;> (try rw [h]) <;> rfl
 unfold rNe;rw [e];exact propext ⟨fun h => h.2,fun h => ⟨rfl,h⟩⟩
theorem truB (K:PySem.W.Frag) (b:Bool) (H:Hp) (k:Bool):TruV K (.bl b) H k = (k = b):=rfl
end Ap
def KB (ex:List Addr) (H H':Hp):Prop:=∀ b o,H b = some o -> b ∉ ex -> H' b = some o
theorem KB.refl (ex:List Addr) (H:Hp):KB ex H H:=fun _ _ e _ => e
theorem KB.trans {ex:List Addr} {H H1 H2:Hp} (a:KB ex H H1) (b:KB ex H1 H2):KB ex H H2:=fun c o e n => b c o (a c o e n) n
theorem KB.mono {ex ex':List Addr} {H H':Hp} (h:KB ex H H') (s:∀ b ∈ ex,b ∈ ex'):KB ex' H H':=fun b o e n => h b o e fun z => n (s b z)
theorem KB.all {ex:List Addr} {H H':Hp} (h:KB [] H H'):KB ex H H':=h.mono (by simp)
theorem KB.new {ex:List Addr} {H:Hp} {p:Addr} {o:HO} (h:H p = none):KB ex H (upd H p o):=fun b u e _ => by rw [upd_ne (ne_of_none e h)];exact e
theorem KB.set {ex:List Addr} {H:Hp} {p:Addr} {o:HO} (h:p ∈ ex):KB ex H (upd H p o):=fun b u e n => by rw [upd_ne (fun (z:b = p) => n (by rw [z];exact h))];exact e
theorem KB.free {ex:List Addr} {H H':Hp} (h:KB ex H H') {b:Addr} (n:b ∉ ex) (e:H' b = none):H b = none:=by
 cases q:H b with
 | none => rfl
 | some o => rw [h b o q n] at e;cases e
theorem KB.seqL {K:PySem.W.Frag} {ex:List Addr} {H H':Hp} {a:Addr} {xs:List V} (h:KB ex H H') (n:a ∉ ex) (q:SqL K H a xs):SqL K H' a xs:=by
 rcases q with (q | ⟨o,q⟩) | q
 ·exact .inl (.inl (h _ _ q n))
 ·exact .inl (.inr ⟨o,h _ _ q n⟩)
 ·exact .inr q
theorem at_0 {α:Type} (x:α) (r:List α):atI (x :: r) 0 = some x:=atI_nat (j:=0) rfl
theorem at_1 {α:Type} (a x:α) (r:List α):atI (a :: x :: r) 1 = some x:=atI_nat (j:=1) rfl
theorem at_2 {α:Type} (a b x:α) (r:List α):atI (a :: b :: x :: r) 2 = some x:=atI_nat (j:=2) rfl
theorem at_3 {α:Type} (a b c x:α) (r:List α):atI (a :: b :: c :: x :: r) 3 = some x:=atI_nat (j:=3) rfl
theorem ixN_lt {n:Nat} {i:Int} (h0:0 <= i) (h:i < n):ixN n i = some i.toNat:=by unfold ixN;rw [if_pos h0,if_pos h]
namespace Ap
theorem ixRef (K:PySem.W.Frag) (p:Addr) (i:Int) (H:Hp) (Q:VK):uIx K (.ref p) (.int i) H Q = (match sq H p with
  | some (_,xs) => (match atI xs i with | some v => Q v H | none => False)
  | none => ∃ xs v,SqT K H p xs /\ atI xs i = some v /\ Q v H):=rfl
theorem ixStr (K:PySem.W.Frag) (z:Str) (i:Int) (H:Hp) (Q:VK):uIx K (.str z) (.int i) H Q = (z.length <= sizeLine /\ (match atI z.cps.toList i with | some c => Q (.str ⟨#[c]⟩) H | none => False)):=rfl
theorem setRef (p:Addr) (k:Int) (v:V) (H:Hp) (Q:Hp -> Prop):uSet (.ref p) (.int k) v H Q = (match H p with
  | some (.lst xs) => (match ixN xs.length k with | some j => Q (upd H p (.lst (xs.set j v))) | none => False)
  | _ => False):=rfl
theorem lenRef (K:PySem.W.Frag) (p:Addr) (H:Hp) (Q:VK):uLen K [.ref p] H Q = (match sq H p with
  | some (_,ys) => Q (.int ys.length) H
  | none => ∃ ys,SqT K H p ys /\ Q (.int ys.length) H):=rfl
theorem lenStr (K:PySem.W.Frag) (y:Str) (H:Hp) (Q:VK):uLen K [.str y] H Q = (y.length <= sizeLine /\ Q (.int y.length) H):=rfl
theorem minII (i j:Int) (H:Hp) (Q:VK):uMin [.int i,.int j] H Q = Q (.int (if j < i then j else i)) H:=rfl
theorem intB (k:Bool) (H:Hp) (Q:VK):uInt [.bl k] H Q = Q (.int (if k = true then 1 else 0)) H:=rfl
theorem tupRef (K:PySem.W.Frag) (p:Addr) (H:Hp) (Q:VK):uTuple K [.ref p] H Q = (match sq H p with
  | some (true,ys) => ∀ l,H l = none -> Q (.ref l) (upd H l (.tup ys))
  | some (false,_) => Q (.ref p) H
  | none => ∃ ys,SqT K H p ys /\ Q (.ref p) H):=rfl
theorem slRef (K:PySem.W.Frag) (p:Addr) (lo hi:Option Int) (H:Hp) (Q:VK):uSl K (.ref p) lo hi H Q = (match sq H p with
  | some (true,xs) => ∀ q,H q = none -> Q (.ref q) (upd H q (.lst (cutV xs lo hi)))
  | some (false,xs) => rSlT K (.ref p) lo hi H Q
  | none => rSlT K (.ref p) lo hi H Q):=rfl
theorem inRef (K:PySem.W.Frag) (neg:Bool) (x:V) (p:Addr) (H:Hp) (Q:VK):uIn K neg x (.ref p) H Q = (match sq H p with
  | some (_,xs) => flatV x = true /\ xs.all flatV = true /\ Q (.bl (if neg then !inV x xs else inV x xs)) H
  | none => ∃ xs,SqT K H p xs /\ flatV x = true /\ xs.all flatV = true /\ Q (.bl (if neg then !inV x xs else inV x xs)) H):=rfl
theorem isiT (K:PySem.W.Frag) (x:V) (T:String) (H:Hp) (Q:VK):uIsi K [x,.ty T] H Q = (T ∈ ["bool","int","str","list","tuple","dict"] /\ match tyU H x with
  | some t => Q (.bl (isiU t T)) H
  | none => ∃ t b,TyOf K H x t /\ PySem.W.kitOne K t (.type T) = some b /\ Q (.bl b) H):=rfl
theorem addRef (K:PySem.W.Frag) (a b:Addr) (H:Hp) (Q:VK):uAdd K (.ref a) (.ref b) H Q = (match H a,H b with
  | some (.lst xs),some (.lst ys) => xs.length + ys.length <= sizeLine /\ ∀ p,H p = none -> Q (.ref p) (upd H p (.lst (xs ++ ys)))
  | some (.tup xs),some (.tup ys) => xs ≠ [] /\ ys ≠ [] /\ xs.length + ys.length <= sizeLine /\ ∀ p,H p = none -> Q (.ref p) (upd H p (.tup (xs ++ ys)))
  | _,_ => False):=rfl
theorem sqSame (H:Hp) (p:Addr) (xs:List V):sq (upd H p (.lst xs)) p = some (true,xs):=sq_lst upd_same
theorem sqSameT (H:Hp) (p:Addr) (xs:List V):sq (upd H p (.tup xs)) p = some (false,xs):=sq_tup upd_same
theorem updSame (H:Hp) (p:Addr) (o:HO):upd H p o p = some o:=upd_same
end Ap
theorem seqG {t u:TS} {D:Ends} {σ:St} {H:Hp} (h:∀ N,N = u D -> t { D with nx:=N } σ H):tSeq t u D σ H:=h _ rfl
structure QE (X:Cx) (e:Expr) (t:TE):Prop where h:PE X e t
structure QT (X:Cx) (e:Expr) (t:TT):Prop where h:PT X e t
structure QW (X:Cx) (e:Expr) (t:TT):Prop where h:PW X e t
structure QA (X:Cx) (es:List Expr) (t:TA):Prop where h:PA X es t
structure QS (X:Cx) (st:Stmt) (t:TS):Prop where h:PS X st t
structure QB (X:Cx) (sts:List Stmt) (t:TS):Prop where h:PSs X sts t
structure QI (X:Cx) (tg it:Expr) (t:TI):Prop where h:PI X tg it t
structure QG (X:Cx) (e:Expr) (t:TG):Prop where h:PG X e t
structure QGs (X:Cx) (es:List Expr) (t:TGs):Prop where h:PGs X es t
structure QO (X:Cx) (e:Option Expr) (t:TO):Prop where h:PO X e t
structure QTs (X:Cx) (es:List Expr) (t:TT):Prop where h:PTs X es t
namespace Z
def sim (b:Expr):Bool:=match b with
 | .Name .. | .Constant .. | .Call .. | .BinOp .. | .Subscript .. | .Attribute .. | .UnaryOp .. | .Compare .. | .IfExp .. => true
 | _ => false
theorem pix {b:Expr} (h:sim b = true):PlainIx b:=by
 cases b <;> first | (intro _ _;rfl) | cases h
def tru (b:Expr):Bool:=match b with
 | .Name .. | .Call .. | .Subscript .. | .Attribute .. => true
 | _ => false
theorem ptr {b:Expr} {env:Env} (h:tru b = true):∀ whole,isTrue b env whole = (do let v <- whole;standAt b.pos;holding [v] (truthy v)):=by
 cases b <;> first | (intro _;rfl) | cases h
def noc (b:Expr):Bool:=match b with
 | .ListComp .. | .SetComp .. | .DictComp .. => false
 | _ => true
theorem swp {b:Expr} {tg:Option Expr} {l:Nat} {env:Env} (h:noc b = true):swapsWith b tg l env = pure false:=by
 cases b <;> first | rfl | cases h
section
variable {X:Cx}
theorem k_add (K:PySem.W.Frag) (hK:X.K = K):OpR X (binaryOp .Add) (uAdd K):=by subst hK;exact uop_add
theorem k_in (K:PySem.W.Frag) (hK:X.K = K) {k:Nat} (hu:k < cLine):OpR X (compareOp .In) (uIn K false):=by subst hK;exact uop_in hu
theorem k_ix (K:PySem.W.Frag) (hK:X.K = K) {k:Nat} (hu:k < cLine):IxR X (uIx K):=by subst hK;exact uix hu
theorem k_sl (K:PySem.W.Frag) (hK:X.K = K):SlR X (uSl K):=by subst hK;exact usl_seq
theorem k_slL (K:PySem.W.Frag) (hK:X.K = K):SlR X (rSlL K):=by subst hK;exact sl_list
theorem k_len (K:PySem.W.Frag) (hK:X.K = K):CallR X (.builtin "len") (uLen K):=by subst hK;exact ucall_len
theorem k_lenS (K:PySem.W.Frag) (hK:X.K = K):CallR X (.builtin "len") (fun xs H Q => ∃ x n,xs = [x] /\ LenV K x H n /\ Q (.int n) H):=by subst hK;exact call_len
theorem k_isi (K:PySem.W.Frag) (hK:X.K = K):CallR X (.builtin "isinstance") (uIsi K):=by subst hK;exact ucall_isi
theorem k_tuple (K:PySem.W.Frag) (hK:X.K = K):CallR X (.type "tuple") (uTuple K):=by subst hK;exact ucall_tuple
theorem k_sum (K:PySem.W.Frag) (hK:X.K = K) (hc:X.calm = true):CallR X (.builtin "sum") (fun xs H Q => ∃ (p:Addr) (ns:List Int),xs = [.ref p] /\ SqL K H p (ns.map V.int) /\ Q (.int ns.sum) H):=by subst hK;exact ucall_sum hc
theorem k_join (K:PySem.W.Frag) (hK:X.K = K):MtR X "str.join" (rJoin K):=by subst hK;exact mt_join
end
section
variable {X:Cx} {a b c e o:Expr} {es:List Expr} {ta tb tc te to:TE} {t:TA} {pos p p2:Pos} {tA tB':TT} {rest:List Expr} {x:Str}
theorem int {i:Int} {j:Nat}:QE X (.Constant (.int i) j pos) (tC (.int i)):=⟨pe_int⟩
theorem bl {i:Bool} {j:Nat}:QE X (.Constant (.bool i) j pos) (tC (.bl i)):=⟨pe_bl⟩
theorem non {j:Nat}:QE X (.Constant .none j pos) (tC .non):=⟨pe_non⟩
theorem str {i:Str} {j:Nat}:QE X (.Constant (.str i) j pos) (tC (.str i)):=⟨pe_str⟩
theorem v (i:Nat) (hN:X.N[i]? = some x:=by rfl) (hv:Vis X.env.scope x:=by first | exact Or.inl rfl | exact Or.inr (Or.inl rfl) | exact Or.inr (Or.inr rfl)) (hd:(x == ("__debug__":Str)) = false:=by decide)
  (hcd:(x == ("__classdict__":Str)) = false:=by decide):QE X (.Name x pos) (tVar i):=⟨pv i hN hv hd hcd⟩
theorem glob {w:V} {u:Value} (hg:Gl X x) (hm:X.mg x = some u) (r:RelV w u) (hd:(x == ("__debug__":Str)) = false:=by decide):QE X (.Name x pos) (tC w):=⟨pe_glob hg hm r hd⟩
theorem op {o:Operator} {r:R2} (ho:OpR X (binaryOp o) r) (ha:QE X a ta) (hb:QE X b tb):QE X (.BinOp a o b pos) (tOp r ta tb):=⟨pe_op ho ha.h hb.h⟩
theorem un {o:UnaryOp} {r:V -> Hp -> VK -> Prop} (ho:UnR X (unaryOp o) r) (ha:QE X a ta):QE X (.UnaryOp o a pos) (tUn r ta):=⟨pe_un ho ha.h⟩
theorem cmp {o:CmpOp} {r:R2} (ho:OpR X (compareOp o) r) (ha:QE X a ta) (hb:QE X b tb) (hm:behindInMarks o b = false:=by rfl):QE X (.Compare a [o] [b] pos) (tOp r ta tb):=⟨pe_cmpR ho ha.h hb.h hm⟩
theorem and (ha:QE X a ta) (hb:QE X (.BoolOp .And (b :: rest) pos) tb):QE X (.BoolOp .And (a :: b :: rest) pos) (tAndV ta tb):=⟨pe_and ha.h hb.h⟩
theorem one {o:BoolOp} (ha:QE X a ta):QE X (.BoolOp o [a] pos) ta:=⟨pe_one ha.h⟩
theorem not (ha:QE X a ta):QE X (.UnaryOp .Not a pos) (tNotV ta):=⟨pe_not ha.h⟩
theorem ifE (hc:QT X c tA) (ha:QE X a ta) (hb:QE X b tb):QE X (.IfExp c a b pos) (tIf tA ta tb):=⟨pe_ifExp hc.h ha.h hb.h⟩
theorem slice {r:V -> Option Int -> Option Int -> Hp -> VK -> Prop} {lo hi:Option Expr} {tl th:TO} (hr:SlR X r) (he:QE X e te) (hl:QO X lo tl) (hu:QO X hi th):QE X (.Subscript e (.Slice lo hi none p2) pos) (tSl r te tl th):=⟨pe_slice hr he.h hl.h hu.h⟩
theorem po0:QO X none tNoPart:=⟨po_none⟩
theorem po1 (he:QE X e te):QO X (some e) (tPart te):=⟨po_some he.h⟩
theorem ix {r:R2} (hr:IxR X r) (ha:QE X a ta) (hb:QE X b tb) (hs:sim b = true:=by rfl):QE X (.Subscript a b pos) (tOp r ta tb):=⟨pe_ix hr ha.h hb.h (pix hs)⟩
theorem tup {k:Nat} (h:QA X es t):QE X (.Tuple es k pos) (tTup t):=⟨pe_tup h.h⟩
theorem lst (h:QA X es t):QE X (.List es pos) (tLst t):=⟨pe_lst h.h⟩
theorem nil:QA X [] tNil:=⟨pa_nil⟩
theorem cons (ha:QE X e te) (hr:QA X es t) (h:nst e = true:=by rfl):QA X (e :: es) (tCons te t):=⟨pa_c ha.h hr.h h⟩
theorem consts {vs:List V} (h:consV es = some vs):QA X es (tK vs):=⟨pa_consts h⟩
theorem cb {id:String} {r:List V -> Hp -> VK -> Prop} (hc:CallR X (.builtin id) r) (hg:Gl X x) (hm:X.mg x = none) (hv:bootBuiltins x = some (.builtin id)) (ha:QA X (e :: es) t) (h1:nst e = true:=by rfl) (h2:es.all nst = true:=by rfl) (hn:x ≠ "__name__":=by decide) (hdb:(x == ("__debug__":Str)) = false:=by decide) :
  QE X (.Call (.Name x p) (e :: es) [] pos) (tCB r t):=⟨pe_cb hc hg hm hv ha.h h1 h2 hn hdb⟩
theorem ct {T:String} {r:List V -> Hp -> VK -> Prop} (hc:CallR X (.type T) r) (hg:Gl X x) (hm:X.mg x = none) (hv:bootBuiltins x = some (.type T)) (ha:QA X (e :: es) t) (h1:nst e = true:=by rfl) (h2:es.all nst = true:=by rfl) (hn:x ≠ "__name__":=by decide) (hdb:(x == ("__debug__":Str)) = false:=by decide) :
  QE X (.Call (.Name x p) (e :: es) [] pos) (tCB r t):=⟨pe_ct hc hg hm hv ha.h h1 h2 hn hdb⟩
theorem tyv {T:String} (hg:Gl X x) (hm:X.mg x = none) (hv:bootBuiltins x = some (.type T)) (hn:x ≠ "__name__":=by decide) (hd:(x == ("__debug__":Str)) = false:=by decide):QE X (.Name x pos) (tC (.ty T)):=⟨pe_tyv hg hm hv hn hd⟩
theorem fn {CX:CXT} {k:Nat} {ps:List Str} {sp:Sp} {E:XK} (F:CallOk X.prog X.w X.K X.mg X.base CX k x ps sp) (hr:Room k X.A) (hg:Gl X x) (hx:Passes CX X E) (ha:QA X (e :: es) t) (h1:nst e = true:=by rfl) (h2:es.all nst = true:=by rfl) (hdb:(x == ("__debug__":Str)) = false:=by decide) :
  QE X (.Call (.Name x p) (e :: es) [] pos) (tCall sp [] E t):=⟨pe_fn F hr hg hx ha.h h1 h2 hdb⟩
theorem fn0 {CX:CXT} {k:Nat} {ps:List Str} {sp:Sp} {E:XK} (F:CallOk X.prog X.w X.K X.mg X.base CX k x ps sp) (hr:Room k X.A) (hg:Gl X x) (hx:Passes CX X E) (hdb:(x == ("__debug__":Str)) = false:=by decide) :
  QE X (.Call (.Name x p) [] [] pos) (tCall sp [] E tNil):=⟨pe_fn0 F hr hg hx hdb⟩
theorem bm (K:PySem.W.Frag) (hK:X.K = K) {name:Str} {apos:Pos} {T id:String} {r:V -> List V -> Hp -> VK -> Prop} (pa:PlainAttrs T) (slot:Slot T name id) (hty:typeOf (.builtin id) = pure (.type "method_descriptor")) (hm:MtR X id r) (ho:QE X o to) (ha:QA X (e :: es) t)
  (hbase:attributeBase o name X.env (eval o X.env) = eval o X.env:=by rfl) (hline:(apos.endLine == pos.line) = true:=by rfl) (h:(e :: es).all nst = true:=by rfl) (hl:(e :: es).length < 30:=by decide):QE X (.Call (.Attribute o name apos) (e :: es) [] pos) (tBM K T r to t):=by
 subst hK;exact ⟨pe_bmQ pa slot hty hm ho.h ha.h hbase hline h hl⟩
theorem comp {osc scope:Scope} {ON own N:List Str} {tg iter elt:Expr} {ifs:List Expr} {wi:TI} {g:TG} {tc:TT} (S:CompScope osc ON scope own N) (hosc:X.env.scope = osc) (hON:X.N = ON) (hc:X.calm = true) (hi:QI X tg iter wi)
  (hg:∀ C s H fp,QG (cxComp X scope N C s H fp) tg g) (ht:∀ C s H fp,QTs (cxComp X scope N C s H fp) ifs tc) (he:∀ C s H fp,QE (cxComp X scope N C s H fp) elt te) (hs:∀ x,foldedSetIterable iter X.env x = pure x:=by intro _;rfl) :
  QE X (.ListComp elt [⟨tg,iter,ifs,0⟩] scope pos) (tComp wi own.length g tc te):=⟨pe_comp S hosc hON hc hi.h (fun C s H fp => (hg C s H fp).h) (fun C s H fp => (ht C s H fp).h) (fun C s H fp => (he C s H fp).h) hs⟩
theorem tcmp {o:CmpOp} {r:R2} (ho:OpR X (compareOp o) r) (ha:QE X a ta) (hb:QE X b tb) (hm:behindInMarks o b = false:=by rfl):QT X (.Compare a [o] [b] pos) (tTest (tOp r ta tb)):=⟨pt_cmpR ho ha.h hb.h hm⟩
theorem tchain {o o':CmpOp} {r r':R2} (ho:OpR X (compareOp o) r) (ho':OpR X (compareOp o') r') (ha:QE X a ta) (hb:QE X b tb) (hc:QE X c tc) (hm:lastMarks [o,o'] [b,c] = false:=by with_unfolding_all rfl):QT X (.Compare a [o,o'] [b,c] pos) (tTest (tChain r r' ta tb tc)):=⟨pt_chain ho ho' ha.h hb.h hc.h hm⟩
theorem tw (h:QW X e tA):QT X e tA:=⟨h.h.pt⟩
theorem tnot (ha:QT X a tA):QT X (.UnaryOp .Not a pos) (tNot tA):=⟨pt_not ha.h⟩
def tTru (K:PySem.W.Frag) (ta:TE):TT:=fun σ H Q => ta σ H fun x H' => ∃ k,TruV K x H' k /\ Q k H'
theorem ttru (K:PySem.W.Frag) (hK:X.K = K) (ha:QE X a ta) (he:tru a = true:=by rfl):QT X a (tTru K ta):=by subst hK;exact ⟨pt_truth ha.h (ptr he)⟩
theorem wand1 (ha:QT X a tA):QW X (.BoolOp .And [a] pos) tA:=⟨pw_and1 ha.h⟩
theorem wor1 (ha:QT X a tA):QW X (.BoolOp .Or [a] pos) tA:=⟨pw_or1 ha.h⟩
theorem wand (ha:QT X a tA) (hb:QW X (.BoolOp .And (b :: rest) pos) tB'):QW X (.BoolOp .And (a :: b :: rest) pos) (tAnd tA tB'):=⟨pw_and ha.h hb.h⟩
theorem wor (ha:QT X a tA) (hb:QW X (.BoolOp .Or (b :: rest) pos) tB'):QW X (.BoolOp .Or (a :: b :: rest) pos) (tOr tA tB'):=⟨pw_or ha.h hb.h⟩
theorem gname {i:Nat} (hN:X.N.Nodup) (hi:X.N[i]? = some x) (hx:Loc X.env.scope x) (hf:X.fn x = true \/ X.env.scope.names.lookup x = some .local:=by first | exact .inl rfl | exact .inr rfl | assumption):QG X (.Name x pos) (gName i):=⟨pg_name hN hi hx hf⟩
theorem gtup (K:PySem.W.Frag) (hK:X.K = K) {k n:Nat} {tg:TGs} (hc:X.calm = true) (h:QGs X es tg) (hn:(assignEach es X.env).length = n:=by rfl) (hst:(assignEach es X.env).findIdx? (·.1) = none:=by rfl):QG X (.Tuple es k pos) (gTup K n tg):=by subst hK;exact ⟨pg_tup hc h.h hn hst⟩
theorem gsnil:QGs X [] gNil:=⟨pgs_nil⟩
theorem gscons {g:TG} {u:TGs} (h1:QG X e g) (h2:QGs X es u) (hs:(assignEach (e :: es) X.env).map (·.2) = assign e X.env :: (assignEach es X.env).map (·.2):=by rfl):QGs X (e :: es) (gCons g u):=⟨pgs_cons h1.h h2.h hs⟩
theorem gsub {i:Expr} {ti:TE} (ho:QE X o to) (hi:QE X i ti)
  (ha:∀ v,assign (.Subscript o i pos) X.env v = (do
   let ov <- holding [v] (eval o X.env)
   let iv <- holding [v,ov] (eval i X.env)
   standAt pos
   holding [v,ov,iv] (setItem ov iv v)
   release [v,ov,iv] []):=by intro _;rfl):QG X (.Subscript o i pos) (gSub to ti uSet):=⟨pg_sub ho.h hi.h uset ha⟩
theorem rng1 {tg:Expr} {ta:TA} (hg:Gl X "range") (hm:X.mg "range" = none) (ha:QA X [a] ta) (h:nst a = true:=by rfl):QI X tg (.Call (.Name "range" p) [a] [] pos) (iRng1 ta):=⟨pi_range1Q hg hm ha.h h⟩
theorem rng2 {tg:Expr} {ta:TA} (hg:Gl X "range") (hm:X.mg "range" = none) (ha:QA X [a,b] ta) (h:nst a = true:=by rfl) (h2:nst b = true:=by rfl):QI X tg (.Call (.Name "range" p) [a,b] [] pos) (iRng2 ta):=⟨pi_range2Q hg hm ha.h h h2⟩
theorem enum (K:PySem.W.Frag) (hK:X.K = K) {k:Nat} {tp:Pos} {ta:TA} (hg:Gl X "enumerate") (hm:X.mg "enumerate" = none) (ha:QA X [e] ta) (h1:nst e = true:=by rfl):QI X (.Tuple es k tp) (.Call (.Name "enumerate" p) [e] [] pos) (iEnum K ta):=by subst hK;exact ⟨pi_enum hg hm ha.h h1⟩
theorem any (K:PySem.W.Frag) (hK:X.K = K) {tg l:Expr} {tl:TE} (hl:QE X l tl):QI X tg l (iAny K tl):=by subst hK;exact ⟨pi_any hl.h⟩
theorem ts0:QTs X [] tTrue:=⟨pts_nil⟩
theorem ts1 (h:QT X c tA):QTs X [c] tA:=⟨pts_one h.h⟩
end
section
variable {X:Cx} {e o tg:Expr} {te to:TE} {st:Stmt} {sts xs ys:List Stmt} {t u:TS} {pos pos':Pos} {x:Str}
theorem bnil:QB X [] tNext:=⟨pss_nil⟩
theorem bone (h:QS X st t):QB X [st] t:=⟨pss_one h.h⟩
theorem bcons (h:QS X st t) (h2:QB X sts u):QB X (st :: sts) (tSeq t u):=⟨pss_cons h.h h2.h⟩
theorem set {i:Nat} (hN:X.N.Nodup) (hi:X.N[i]? = some x) (hx:Loc X.env.scope x) (he:QE X e te) (hs:noc e = true:=by rfl) (hf:X.fn x = true \/ X.env.scope.names.lookup x = some .local:=by first | exact .inl rfl | exact .inr rfl | assumption) :
  QS X (.Assign [.Name x pos'] e pos) (tAsg te (gName i)):=⟨ps_set hN hi hx he.h (swp hs) hf⟩
theorem setC {osc scope:Scope} {ON own N:List Str} {tg iter elt:Expr} {ifs:List Expr} {p2:Pos} {wi:TI} {g:TG} {tc:TT} {j:Nat} (hN:X.N.Nodup) (hj:X.N[j]? = some x) (hx:Loc X.env.scope x) (S:CompScope osc ON scope own N) (hosc:X.env.scope = osc) (hON:X.N = ON) (hc:X.calm = true) (hi:QI X tg iter wi)
  (hg:∀ C s H fp,QG (cxComp X scope N C s H fp) tg g) (ht:∀ C s H fp,QTs (cxComp X scope N C s H fp) ifs tc) (he:∀ C s H fp,QE (cxComp X scope N C s H fp) elt te)
  (hsw:swapsWith (.ListComp elt [⟨tg,iter,ifs,0⟩] scope p2) (some (.Name x pos')) pos.line X.env = pure true:=by rfl)
  (hf:X.fn x = true \/ X.env.scope.names.lookup x = some .local:=by first | exact .inl rfl | exact .inr rfl | assumption) (hs:∀ x,foldedSetIterable iter X.env x = pure x:=by intro _;rfl) :
  QS X (.Assign [.Name x pos'] (.ListComp elt [⟨tg,iter,ifs,0⟩] scope p2) pos) (tAsg (tComp wi own.length g tc te) (gName j)):=⟨ps_setComp hN hj hx S hosc hON hc hi.h (fun C s H fp => (hg C s H fp).h) (fun C s H fp => (ht C s H fp).h) (fun C s H fp => (he C s H fp).h) hsw hf hs⟩
theorem asg {g:TG} (he:QE X e te) (hg:QG X tg g) (hs:swapsWithSole [tg] e pos.line X.env = pure false:=by rfl) (hw:swappedStores [tg] e X.env = pure none:=by rfl)
  (h1:(assignEach [tg] X.env).map (·.2) = [assign tg X.env]:=by rfl):QS X (.Assign [tg] e pos) (tAsg te g):=⟨ps_asg he.h hg.h hs hw h1⟩
theorem ret (he:QE X e te):QS X (.Return (some e) pos) (tRet te):=⟨ps_ret he.h⟩
theorem expr (he:QE X e te) (hs:noc e = true:=by rfl):QS X (.Expr e pos) (tDrop te):=⟨ps_expr he.h (swp hs)⟩
theorem ifS {c:Expr} {tc:TT} (hc:QT X c tc) (ha:QB X xs t) (hb:QB X ys u):QS X (.If c xs ys pos) (tIfS tc t u):=⟨ps_if hc.h ha.h hb.h⟩
theorem forS {iter:Expr} {wi:TI} {g:TG} (hp:PassesOwn (model X.prog X.w) X.A X.env X.xe) (hc:X.calm = true) (hi:QI X tg iter wi) (hg:QG X tg g) (hb:QB X xs t) (hs:∀ x,foldedSetIterable iter X.env x = pure x:=by intro _;rfl):QS X (.For tg iter xs [] pos) (tFor wi g t):=⟨ps_for hp hc hi.h hg.h hb.h hs⟩
theorem whileS {c:Expr} {tc:TT} (hp:PassesOwn (model X.prog X.w) X.A X.env X.xe) (hc:QT X c tc) (hb:QB X xs t):QS X (.While c xs [] pos) (tWhile tc t):=⟨ps_while hp hc.h hb.h⟩
end
end Z
namespace Ap
theorem tTru (K:PySem.W.Frag) (ta:TE) (σ:St) (H:Hp) (Q:Bool -> Hp -> Prop):L2.Z.tTru K ta σ H Q = ta σ H fun x H' => ∃ k,TruV K x H' k /\ Q k H':=rfl
theorem tNotV (ta:TE) (σ:St) (H:Hp) (Q:VK):L2.tNotV ta σ H Q = ta σ H fun x H1 => ∃ c,x = .bl c /\ Q (.bl (!c)) H1:=rfl
end Ap
theorem HasFn.okQ {P:Program} {w:World} {K:PySem.W.Frag} {mg:Str -> Option Value} {base:Heap} {x:Str} {st:Stmt} {N ps:List Str} {k:Nat} {sp:Sp} (F:HasFn K mg x st ps) (S:FnScope N ps (defScope st)) (len:∀ vs H Q E,sp vs H Q E -> vs.length = ps.length)
  (hbody:∀ (f:Addr) (cdv:Value) (A:Around) (outer:List Env) (s:Shared) (H:Hp) (vs:List V) (Q:VK) (E:XK),Room k (A.deeper (envOfC x (defScope st) s.heap.objs.size f cdv)) -> sp vs H Q E ->
   ∃ t,QB (cxOf CX0 P w K mg base N x (defScope st) f cdv A outer s H E).nox (defBody st) t /\ t { nx:=fun _ H' => Q .non H',rt:=Q } (start N vs) H):CallOk P w K mg base CX0 (k + 1) x ps sp :=
 F.ok S len fun f cdv A outer s H vs Q E hr h => let ⟨t,q,r⟩:=hbody f cdv A outer s H vs Q E hr h;⟨t,q.h,r⟩
theorem fun_okQ {P:Program} {w:World} {K:PySem.W.Frag} {mg:Str -> Option Value} {base:Heap} {x:Str} {st:Stmt} {N ps:List Str} {k:Nat} {sp:Sp} {f:Addr} {fd:FuncData} (F:Fun K x x st f fd) (S:FnScope N ps (defScope st)) (len:∀ vs H Q E,sp vs H Q E -> vs.length = ps.length)
  (hbody:∀ (cdv:Value) (A:Around) (outer:List Env) (s:Shared) (H:Hp) (vs:List V) (Q:VK) (E:XK),Room k (A.deeper (envOfC x (defScope st) s.heap.objs.size f cdv)) -> sp vs H Q E ->
   ∃ t,QB (cxOf CX0 P w K mg base N x (defScope st) f cdv A outer s H E).nox (defBody st) t /\ t { nx:=fun _ H' => Q .non H',rt:=Q } (start N vs) H):FnOk P w K mg base CX0 (k + 1) f fd ps sp :=
 F.ok S len fun cdv A outer s H vs Q E hr h => let ⟨t,q,r⟩:=hbody cdv A outer s H vs Q E hr h;⟨t,q.h,r⟩
inductive T where
 | il (n:Nat) | non | bl (b:Bool) | int (i:Int) | str (x:Str) | tup (ts:List T) | lst (ts:List T) | rol (ts:List T) | rng (lo hi:Int) | ktp (ts:List T) | dic (ks:List Key) (ts:List T) | exc (c:Value) (f:Option (Str × Int)) | adr (a:Addr) | ins (a c:Addr) (ks:List Str) (ts:List T)
abbrev AP':=Addr -> Prop
def KTp (K:PySem.W.Frag) (a:Addr) (xs:List V):Prop:=∃ (o:Obj) (its:Array Value) (n:Nat),K.lookup a = some o /\ o.cls = .type "tuple" /\ o.data = .seq its n /\ its.size <= sizeLine /\ Vals xs its.toList
section
variable {K:PySem.W.Frag} {H:Hp} {B:AP'} {v:V}
end
theorem Paired.nilL {α β:Type} {P:α -> β -> Prop} {ys:List β} (h:Paired P [] ys):ys = []:=by cases h;rfl
theorem Paired.consL {α β:Type} {P:α -> β -> Prop} {x:α} {xs:List α} {ys:List β} (h:Paired P (x :: xs) ys):∃ y zs,ys = y :: zs /\ P x y /\ Paired P xs zs:=by cases h with | cons h r => exact ⟨_,_,rfl,h,r⟩
section
variable {K:PySem.W.Frag} {H H':Hp} {B B':AP'}
end
inductive Sl where
 | un | tr (t:T) | bx (c:T) | pb (c:T)
abbrev Mu:=List Sl
inductive R where
 | tr (t:T) | br (i:Nat) | fr (c:T)
structure Fx where
 K:PySem.W.Frag
 H0:Hp
 P:Nat -> Option Addr
 Bc:AP'
 bh:∀ b,Bc b -> ∃ o,H0 b = some o
 G:Addr -> Option HO
section
variable {F:Fx} {ad:Nat -> Addr} {B B':AP'} {σ:St} {H H':Hp} {μ:Mu} {v:V} {r:R}
end
section
variable {K:PySem.W.Frag} {H:Hp} {B:AP'} {v:V}
end
abbrev UE:=Mu -> (R -> Mu -> Prop) -> Prop
abbrev UT:=Mu -> (Bool -> Mu -> Prop) -> Prop
abbrev UA:=Mu -> (List R -> Mu -> Prop) -> Prop
structure Ed where
 nx:Mu -> Prop
 rt:R -> Mu -> Prop
 bk:Mu -> Prop:=fun _ => False
 ct:Mu -> Prop:=fun _ => False
abbrev US:=Ed -> Mu -> Prop
section
variable {F:Fx} {ad:Nat -> Addr} {B:AP'} {σ:St} {H:Hp} {μ:Mu} {Q:VK} {Qt:R -> Mu -> Prop}
end
namespace Y
section
variable {X:Cx} {a b c e o:Expr} {es rest:List Expr} {ua ub uc ue uo:UE} {uA uB:UT} {us:UA} {pos p p2:Pos} {x:Str}
end
end Y
namespace Y
theorem vals_of_items {lo:Int}:∀ (n:Nat) (acc:List Value) (k:Nat),acc.length = n -> (∀ j v,acc[j]? = some v -> ∃ t,v = Value.int (lo + ((k + j:Nat):Int)) t) -> Vals ((List.range' k n).map fun k => V.int (lo + (k:Nat))) acc
 | 0,acc,k,h,_ => by cases acc with | nil => exact .nil | cons a b => cases h
 | n + 1,[],k,h,_ => by cases h
 | n + 1,a :: acc,k,h,g => by
  rw [List.range'_succ,List.map_cons];refine .cons ?_ (vals_of_items n acc (k + 1) (by simpa using h) fun j v e => ?_)
  ·obtain ⟨t,e⟩:=g 0 a rfl;exact ⟨t,by simpa using e⟩
  ·obtain ⟨t,e2⟩:=g (j + 1) v (by simpa using e)
   exact ⟨t,by rw [e2];congr 2;lia⟩
def rRangeG:List V -> Hp -> VK -> Prop:=fun xs H Q => (∃ j,xs = [.int j] /\ ∀ p,H p = none -> Q (.ref p) (upd H p (.rng 0 j))) \/ (∃ i j,xs = [.int i,.int j] /\ ∀ p,H p = none -> Q (.ref p) (upd H p (.rng i j)))
theorem call_rangeG {X:Cx}:CallR X (.type "range") rRangeG:=by
 intro pins s σ H xs us Q I r h;rcases h with ⟨j,rfl,q⟩ | ⟨i,j,rfl,q⟩
 ·obtain ⟨u,rfl,t,rfl⟩:=vals1 r;refine call_range_1 ?_;exact ⟨.ref s.heap.objs.size,_,I.laid (o:=.rng 0 j) (fun b ob q => Heap.get?_push_of_some _ q) (Nat.le_refl _) (show ObjOk X.prog X.w _ _ _ (.rng 0 j) from ⟨_,_,_,Heap.get?_push_size _ rfl⟩),rfl,q _ (I.hok.fresh (Nat.le_refl _))⟩
 ·obtain ⟨u,w',rfl,⟨t,rfl⟩,⟨t',rfl⟩⟩:=vals2 r;refine call_range_2 ?_;exact ⟨.ref s.heap.objs.size,_,I.laid (o:=.rng i j) (fun b ob q => Heap.get?_push_of_some _ q) (Nat.le_refl _) (show ObjOk X.prog X.w _ _ _ (.rng i j) from ⟨_,_,_,Heap.get?_push_size _ rfl⟩),rfl,q _ (I.hok.fresh (Nat.le_refl _))⟩
end Y
namespace Y
section
variable {X:Cx} {a b c e o:Expr} {es rest:List Expr} {ua ub uc ue uo:UE} {uA uB:UT} {us:UA} {pos p p2 p3:Pos} {x:Str}
def cutG {α:Type} (xs:List α) (lo hi:Option Int):List α:=(xs.drop (HT.sIx xs.length 0 lo)).take (HT.sIx xs.length xs.length hi - HT.sIx xs.length 0 lo)
end
end Y
namespace Y
section
variable {X:Cx} {a b c e o tg:Expr} {es rest:List Expr} {ua ub uc ue uo:UE} {uA uB:UT} {us:UA} {pos pos' p p2 p3:Pos} {x:Str} {st:Stmt} {sts xs ys:List Stmt} {u w:US}
def gTupG (K:PySem.W.Frag) (n:Nat) (t:TGs):TG:=fun v σ H Q => ∃ a xs,v = .ref a /\ (SqT K H a xs \/ SqL K H a xs) /\ xs.length = n /\ t xs σ H Q
theorem draw_list {prog:Program} {w:World} {A:Around} {E:Value -> Shared -> Prop} {it t:Addr} {items:Array Value} (hne:t ≠ it):∀ (n i:Nat) (s:Shared) (Q:List Value -> Shared -> Prop),s.heap.IsListIter it t i -> s.heap.IsList t items -> i + n <= items.size ->
  (∀ h',h'.IsListIter it t (i + n) -> Heap.SameBut it s.heap h' -> Q ((items.toList.drop i).take n) { s with heap:=h' }) -> wpAny (model prog w) A (draw (.ref it) n) Q E s
 | 0,i,s,Q,hit,_,_,hQ => by
  show wpAny _ _ (pure []) Q E s;exact wpAny_pure (by simpa using hQ s.heap hit (Heap.SameBut.refl ..))
 | n + 1,i,s,Q,hit,ht,hle,hQ => by
  have hlt:i < items.size:=by lia
  show wpAny _ _ (pyNext (.ref it) >>= _) Q E s;refine wpAny_bind (wpAny_pyNext_list_item hit ht (x:=items[i]) (by simp [hlt]) fun h₁ hit₁ hs₁ => ?_)
  refine wpAny_bind (wpAny_holding (draw_list hne n (i + 1) _ _ hit₁ (ht.extBut hs₁.extBut hne) (by lia) fun h₂ hit₂ hs₂ => wpAny_pure ?_))
  have hd:items.toList.drop i = items[i] :: items.toList.drop (i + 1):=by simp [List.drop_eq_getElem_cons,hlt]
  have:=hQ h₂ (by rw [show i + (n + 1) = i + 1 + n by lia];exact hit₂) (hs₁.trans hs₂)
  rw [hd,List.take_succ_cons] at this;exact this
theorem unpackItems_list {prog:Program} {w:World} {A:Around} {E:Value -> Shared -> Prop} {s:Shared} {t:Addr} {items:Array Value} {Q:List Value -> Shared -> Prop} (hh:A.handled = none) (ht:s.heap.IsList t items)
  (hQ:∀ h',Heap.ExtBut s.heap.objs.size s.heap h' -> Q items.toList { s with heap:=h' }):wpAny (model prog w) A (unpackItems (.ref t) items.size none) Q E s:=by
 have hlt:t ≠ s.heap.objs.size:=by obtain ⟨o,ho,_⟩:=ht;exact Nat.ne_of_lt (Heap.lt_size ho)
 unfold unpackItems;refine wpAny_bind ?_
 ·unfold notIterableAtAll;refine wpAny_bind (wpAny_specialOf ht.typeIs F.slot_list_iter.lookup ?_);refine wpAny_pure ?_;simp only [Bool.false_eq_true,if_false];refine wpAny_bind (wpAny_holding (wpAny_pyIter_list ht ?_));refine wpAny_bind (wpAny_holding (draw_list hlt items.size 0 _ _ ⟨_,Heap.get?_push_size _ rfl,rfl,rfl⟩ (ht.push _) (by lia) fun h₁ hit₁ hs₁ => ?_))
  have hall:List.take items.size (List.drop 0 items.toList) = items.toList:=by
   rw [List.drop_zero];exact List.take_of_length_le (by simp)
  rw [hall];rw [if_neg (by simp)]
  have ht₁:h₁.IsList t items:=(ht.push _).extBut hs₁.extBut hlt;refine wpAny_bind (wpAny_holding (wpAny_pyNext_list_end hh hit₁ ht₁ (by simp) fun h₂ he₂ => ?_))
  simp only [Option.isSome_none,Bool.false_eq_true,if_false];refine wpAny_pure (hQ h₂ fun b o hb e => he₂ b o hb (hs₁.extBut b o hb (Heap.get?_push_of_some _ e)))
theorem pg_tupG {es:List Expr} {k:Nat} {t:TGs} {n:Nat} (hc:X.calm = true) (h:PGs X es t)
  (hn:(assignEach es X.env).length = n:=by rfl) (hst:(assignEach es X.env).findIdx? (·.1) = none:=by rfl):PG X (.Tuple es k pos) (gTupG X.K n t):=by
 intro pins s σ H v u Q I r hw;obtain ⟨a,xs,e1,hq,hl,hw⟩:=hw;rcases hq with hq | hq
 ·exact pg_tup hc h hn hst pins s σ H v u Q I r ⟨a,xs,e1,hq,hl,hw⟩
 ·subst e1;cases r;obtain ⟨its,rv,ht,hz⟩:=I.list hq;rw [assign_Tuple];refine wpAny_bind (wpAny_standAt ?_);unfold unpack;have hsz:(assignEach es X.env).length = its.toArray.size:=by rw [hn,<- hl,rv.length];simp
  rw [hsz,hst];refine wpAny_bind (wpAny_holding (unpackItems_list (I.ok.hd hc) ht.isList fun h' hx => ?_));have I1:Inv X pins σ H { s with heap:=h' }:=I.kept (t':=s.toks) fun b o e => hx b o (Nat.ne_of_lt (Heap.lt_size e)) e
  exact h pins _ σ H xs _ Q I1 (by simpa using rv) hw
end
end Y
abbrev UI:=Mu -> (List T -> Option (Nat × List T) -> Mu -> Prop) -> Prop
def iSeq (K:PySem.W.Frag) (tl:TE):TI:=fun σ H R => tl σ H fun x H1 => ∃ a,x = V.ref a /\ (((∃ xs,SqL K H1 a xs) /\ R (Itl K a) H1) \/ ((∃ xs,SqT K H1 a xs) /\ R (Itt K a) H1))
theorem pi_seq {X:Cx} {tg l:Expr} {tl:TE} (hl:PE X l tl):PI X tg l (iSeq X.K tl):=by
 intro pins s σ H R I h;refine thn (hl pins s σ H _ I h) fun v s1 hq2 => ?_;obtain ⟨x,H1,I1,r1,q1⟩:=hq2;obtain ⟨a,rfl,q⟩:=q1;cases r1;rcases q with ⟨⟨xs,hq⟩,q⟩ | ⟨⟨xs,hq⟩,q⟩
 ·obtain ⟨its,rv,p,hz⟩:=I1.list hq;refine wpAny_pyIter_list p.isList ?_;refine ⟨s1.heap.objs.size,[s1.heap.objs.size],_,_,H1,rfl,I1.kept (t':=s1.toks) fun b o e => Heap.get?_push_of_some _ e,turn_list a _,⟨_,Heap.get?_push_size _ rfl,rfl,rfl⟩,fun b hb => ?_,q⟩;have e:b = s1.heap.objs.size:=by simpa using hb
  subst e;exact I1.fpOk (Nat.le_refl _) (I1.hok.fresh (Nat.le_refl _))
 ·obtain ⟨its,rv,p,hz⟩:=I1.tuple hq;refine wpAny_pyIter_tuple (show s1.heap.IsTuple a its.toArray from p) ?_;refine ⟨s1.heap.objs.size,[s1.heap.objs.size],_,_,H1,rfl,I1.kept (t':=s1.toks) fun b o e => Heap.get?_push_of_some _ e,turn_tuple a _,⟨_,Heap.get?_push_size _ rfl,rfl,rfl⟩,fun b hb => ?_,q⟩;have e:b = s1.heap.objs.size:=by simpa using hb
  subst e;exact I1.fpOk (Nat.le_refl _) (I1.hok.fresh (Nat.le_refl _))
namespace Y
section
variable {X:Cx} {a b c e o tg it:Expr} {es rest:List Expr} {ua ub uc ue uo:UE} {uA uB:UT} {us:UA} {pos pos' p p2 p3:Pos} {x:Str} {st:Stmt} {sts xs ys:List Stmt} {u w:US}
end
end Y
section
variable {F:Fx} {ad:Nat -> Addr} {B:AP'} {σ:St} {H:Hp} {μ:Mu} {D:Addr} {ys zs:List V}
end
namespace Y
theorem len1 {α:Type _} {l:List α} (h:l.length = 1):∃ y,l = [y]:=by
 rcases l with _ | ⟨a,_ | ⟨b,t⟩⟩
 ·cases h
 ·exact ⟨a,rfl⟩
 ·cases h
theorem len2 {α:Type _} {l:List α} (h:l.length = 2):∃ y z,l = [y,z]:=by
 rcases l with _ | ⟨a,t⟩
 ·cases h
 ·obtain ⟨b,rfl⟩:=len1 (Nat.succ.inj h);exact ⟨a,b,rfl⟩
theorem len3 {α:Type _} {l:List α} (h:l.length = 3):∃ x y z,l = [x,y,z]:=by
 rcases l with _ | ⟨a,t⟩
 ·cases h
 ·obtain ⟨b,c,rfl⟩:=len2 (Nat.succ.inj h);exact ⟨a,b,c,rfl⟩
theorem len4 {α:Type _} {l:List α} (h:l.length = 4):∃ w x y z,l = [w,x,y,z]:=by
 rcases l with _ | ⟨a,t⟩
 ·cases h
 ·obtain ⟨b,c,d,rfl⟩:=len3 (Nat.succ.inj h);exact ⟨a,b,c,d,rfl⟩
section
variable {X:Cx} {elt tg iter:Expr} {ifs:List Expr} {ue:UE} {ut:UT} {ui:UI} {pos pos' p2:Pos} {x:Str} {osc scope:Scope} {ON own N:List Str}
end
end Y
namespace Y
section
variable {X:Cx} {a b c e o tg it i:Expr} {es rest:List Expr} {ua ub uc ue uo ui:UE} {uA uB:UT} {us:UA} {pos pos' p p2 p3 apos:Pos} {x:Str} {st:Stmt} {sts xs ys:List Stmt} {u w:US}
end
end Y
abbrev TSp:=List T -> (R -> List T -> Prop) -> Prop
def HasCode (K:PySem.W.Frag) (f:Addr) (cdv:Value):Prop:=∃ (o:Obj) (fd:FuncData),K.lookup f = some o /\ o.data = .func fd /\ fd.code = cdv
namespace Y
section
variable {X:Cx} {e:Expr} {es:List Expr} {us:UA} {pos p:Pos} {x:Str} {k:Nat} {ps:List Str} {md:List Bool} {tsp:TSp} {E:XK}
end
end Y
section
variable {prog:Program} {w:World} {A:Around} {E:Value -> Shared -> Prop} {s:Shared}
structure ZA (z TI TO i1 i2 l1 l2:Addr):Prop where
 a1:TI ≠ z
 a2:TO ≠ z
 a3:i1 ≠ z
 a4:i2 ≠ z
 a5:TO ≠ i1
 a6:TO ≠ i2
 a7:i1 ≠ i2
 a8:l1 ≠ z /\ l1 ≠ TO /\ l1 ≠ i1 /\ l1 ≠ i2
 a9:l2 ≠ z /\ l2 ≠ TO /\ l2 ≠ i1 /\ l2 ≠ i2
 b1:TI ≠ TO /\ TI ≠ i1 /\ TI ≠ i2
theorem ZA.f1 {z TI TO i1 i2 l1 l2:Addr} (D:ZA z TI TO i1 i2 l1 l2) {e:Addr} (he:e = z \/ e = TO \/ e = i2):∀ b ∈ [i1,l1],b ≠ e:=fun b hb => by
 rcases List.mem_cons.mp hb with rfl | hb
 ·rcases he with rfl | rfl | rfl
  ·exact D.a3
  ·exact D.a5.symm
  ·exact D.a7
 ·have hb:b = l1:=by simpa using hb
  subst hb;rcases he with rfl | rfl | rfl
  ·exact D.a8.1
  ·exact D.a8.2.1
  ·exact D.a8.2.2.2
theorem ZA.f2 {z TI TO i1 i2 l1 l2:Addr} (D:ZA z TI TO i1 i2 l1 l2) {e:Addr} (he:e = z \/ e = TO \/ e = i1):∀ b ∈ [i2,l2],b ≠ e:=fun b hb => by
 rcases List.mem_cons.mp hb with rfl | hb
 ·rcases he with rfl | rfl | rfl
  ·exact D.a4
  ·exact D.a6.symm
  ·exact D.a7.symm
 ·have hb:b = l2:=by simpa using hb
  subst hb;rcases he with rfl | rfl | rfl
  ·exact D.a9.1
  ·exact D.a9.2.1
  ·exact D.a9.2.2.1
theorem St_of {it l:Addr} {n:Nat} {P:Nat -> Value -> Prop} {S:Nat -> Heap -> Prop} {A':Around} (D:Draws prog w A' it [it,l] n P S) {i:Nat} {h h':Heap} {e:Addr} (st:S i h) (hs:Heap.ExtBut e h h') (ne:∀ b ∈ [it,l],b ≠ e):S i h':=D.frame i h h' st fun b hb o q => hs b o (ne b hb) q
theorem zipG_item {z TI TO i1 i2 l1 l2:Addr} {k n1 n2:Nat} {P1 P2:Nat -> Value -> Prop} {S1 S2:Nat -> Heap -> Prop} {a b:Value} {Q:Value -> Shared -> Prop} (D:ZA z TI TO i1 i2 l1 l2) (D1:Draws prog w A i1 [i1,l1] n1 P1 S1) (D2:Draws prog w A i2 [i2,l2] n2 P2 S2)
  (hz:IsZip s.heap z TI TO .none) (hTI:IsPair s.heap TI (.ref i1) (.ref i2)) (hTO:IsPair s.heap TO a b) (st1:S1 k s.heap) (st2:S2 k s.heap) (hk1:k < n1) (hk2:k < n2)
  (hQ:∀ x y h' tk,P1 k x -> P2 k y -> IsZip h' z TI TO (rawInt s.heap.objs.size) -> IsPair h' TO x y -> S1 (k + 1) h' -> S2 (k + 1) h' -> IsPair h' s.heap.objs.size x y ->
   (∀ c o,c ≠ z -> c ≠ TO -> c ≠ i1 -> c ≠ i2 -> s.heap.get? c = some o -> h'.get? c = some o) -> Q (.ref s.heap.objs.size) { s with heap:=h',toks:=tk }) :
  wpAny (model prog w) A (Builtin.«zip.__next__» ⟨[.ref z],[]⟩) (fun fin s' => ∃ v,fin = .done (.ret v) /\ Q v s') E s:=by
 have zrec:=hz;show wpAny _ _ (field (.ref z) 2 >>= _) _ _ _;refine wpAny_bind (wpAny_field zrec rfl (x:=.bool false) rfl ?_);show wpAny _ _ (field (.ref z) 3 >>= _) _ _ _;refine wpAny_bind (wpAny_field zrec rfl (x:=.ref TI) rfl ?_);have tirec:=hTI;refine wpAny_bind (wpAny_seqItems tirec rfl ?_);show wpAny _ _ (Builtin.SmallTypes.ownedTupleIsFree (.ref z) >>= _) _ _ _;refine wpAny_bind ?_;unfold Builtin.SmallTypes.ownedTupleIsFree;refine wpAny_bind (wpAny_field zrec rfl (x:=.none) rfl (wpAny_pure ?_));simp only [if_true];refine wpAny_bind (wpAny_rule ?_);refine wpAny_bind (wpAny_field zrec rfl (x:=.ref TO) rfl ?_);refine wpAny_bind (wpAny_setField_rec zrec (by simp) fun g1 zr1 sb1 => ?_)
 replace zr1:IsZip g1 z TI TO .ellipsis:=zr1
 refine wpAny_bind ?_;simp only [List.zipIdx_cons,List.zipIdx_nil,List.forIn_cons,List.forIn_nil];refine wpAny_bind (wpAny_bind (wpAny_onRaise ?_));show wpAny _ _ (Builtin.SmallTypes.nextOf (.ref i1) >>= _) _ _ _;refine wpAny_bind (D1.item k _ _ _ hk1 (St_of D1 st1 sb1.extBut (D.f1 (.inl rfl))) fun x g2 tk2 px st1b sb2 => wpAny_pure ?_);have to2:IsPair g2 TO a b:=sb2.extBut _ _ D.a5 (sb1.extBut _ _ D.a2 hTO);refine wpAny_bind (wpAny_seqItems to2 rfl ?_);refine wpAny_bind (wpAny_updateSeq_pair to2 fun g3 to3 sb3 => ?_)
 replace to3:IsPair g3 TO x b:=to3
 refine wpAny_bind (wpAny_letGo (wpAny_pure ?_));refine wpAny_bind (wpAny_bind (wpAny_onRaise ?_));show wpAny _ _ (Builtin.SmallTypes.nextOf (.ref i2) >>= _) _ _ _;have st2c:S2 k g3:=St_of D2 (St_of D2 (St_of D2 st2 sb1.extBut (D.f2 (.inl rfl))) sb2.extBut (D.f2 (.inr (.inr rfl)))) sb3.extBut (D.f2 (.inr (.inl rfl)));refine wpAny_bind (D2.item k _ _ _ hk2 st2c fun y g4 tk4 py st2d sb4 => wpAny_pure ?_);have to4:IsPair g4 TO x b:=sb4.extBut _ _ D.a6 to3;refine wpAny_bind (wpAny_seqItems to4 rfl ?_);refine wpAny_bind (wpAny_updateSeq_pair to4 fun g5 to5 sb5 => ?_)
 replace to5:IsPair g5 TO x y:=to5
 refine wpAny_bind (wpAny_letGo (wpAny_pure (wpAny_pure ?_)));refine wpAny_bind (wpAny_seqItems to5 rfl ?_);refine wpAny_bind (wpAny_newTuple ?_);have size5:g5.objs.size = s.heap.objs.size:=by rw [sb5.1,sb4.1,sb3.1,sb2.1,sb1.1]
 have zr5:IsZip g5 z TI TO .ellipsis:=sb5.extBut _ _ D.a2.symm (sb4.extBut _ _ D.a4.symm (sb3.extBut _ _ D.a2.symm (sb2.extBut _ _ D.a3.symm zr1)));have keep5:∀ c o,c ≠ z -> c ≠ TO -> c ≠ i1 -> c ≠ i2 -> s.heap.get? c = some o -> g5.get? c = some o:=fun c o e1 e2 e3 e4 q =>
  sb5.extBut _ _ e2 (sb4.extBut _ _ e4 (sb3.extBut _ _ e2 (sb2.extBut _ _ e3 (sb1.extBut _ _ e1 q))))
 have s1e:S1 (k + 1) g5:=St_of D1 (St_of D1 (St_of D1 st1b sb3.extBut (D.f1 (.inr (.inl rfl)))) sb4.extBut (D.f1 (.inr (.inr rfl)))) sb5.extBut (D.f1 (.inr (.inl rfl)));have s2e:S2 (k + 1) g5:=St_of D2 st2d sb5.extBut (D.f2 (.inr (.inl rfl)));have zlt:z < g5.objs.size:=Heap.lt_size zr5;show wpAny _ _ (Builtin.SmallTypes.ownedTupleHandOut (.ref z) (.ref g5.objs.size) >>= _) _ _ _;refine wpAny_bind ?_;unfold Builtin.SmallTypes.ownedTupleHandOut;have zr6:IsZip (g5.push { cls:=.type "tuple",data:=.seq #[x,y] }) z TI TO .ellipsis:=Heap.get?_push_of_some _ zr5;refine wpAny_bind (wpAny_setField_rec zr6 (by simp) fun g7 zr7 sb7 => ?_)
 replace zr7:IsZip g7 z TI TO (rawInt g5.objs.size):=zr7
 refine wpAny_setField_rec zr7 (by simp) fun g8 zr8 sb8 => ?_
 replace zr8:IsZip g8 z TI TO (rawInt g5.objs.size):=zr8
 have up:∀ c o,c ≠ z -> g5.get? c = some o -> g8.get? c = some o:=fun c o e1 q => sb8.extBut _ _ e1 (sb7.extBut _ _ e1 (Heap.get?_push_of_some _ q));have pr8:IsPair g8 g5.objs.size x y:=sb8.extBut _ _ (Nat.ne_of_gt zlt) (sb7.extBut _ _ (Nat.ne_of_gt zlt) (Heap.get?_push_size _ rfl));rw [size5] at zr8 pr8;refine wpAny_pure ⟨_,rfl,?_⟩;show Q (.ref g5.objs.size) _;rw [size5];exact hQ x y g8 _ px py zr8 (up _ _ D.a2 to5) (D1.frame _ _ _ s1e fun b hb o q => up b o (D.f1 (.inl rfl) b hb) q) (D2.frame _ _ _ s2e fun b hb o q => up b o (D.f2 (.inl rfl) b hb) q) pr8 fun c o e1 e2 e3 e4 q => up c o e1 (keep5 c o e1 e2 e3 e4 q)
theorem zipG_end {z TI TO i1 i2 l1 l2:Addr} {k n1 n2:Nat} {P1 P2:Nat -> Value -> Prop} {S1 S2:Nat -> Heap -> Prop} {a b:Value} {Q:Fin -> Shared -> Prop} (D:ZA z TI TO i1 i2 l1 l2) (D1:Draws prog w A i1 [i1,l1] n1 P1 S1) (D2:Draws prog w A i2 [i2,l2] n2 P2 S2)
  (hz:IsZip s.heap z TI TO .none) (hTI:IsPair s.heap TI (.ref i1) (.ref i2)) (hTO:IsPair s.heap TO a b) (st1:S1 k s.heap) (st2:S2 k s.heap) (hk:k = n1 \/ (k < n1 /\ k = n2))
  (hE:∀ h' e tk,(∀ c o,c ≠ z -> c ≠ TO -> c ≠ i1 -> c ≠ i2 -> s.heap.get? c = some o -> h'.get? c = some o) -> (∃ o,h'.get? e = some o /\ o.cls = .type "StopIteration") -> E (.ref e) { s with heap:=h',toks:=tk }) :
  wpAny (model prog w) A (Builtin.«zip.__next__» ⟨[.ref z],[]⟩) Q E s:=by
 have zrec:=hz;show wpAny _ _ (field (.ref z) 2 >>= _) _ _ _;refine wpAny_bind (wpAny_field zrec rfl (x:=.bool false) rfl ?_);show wpAny _ _ (field (.ref z) 3 >>= _) _ _ _;refine wpAny_bind (wpAny_field zrec rfl (x:=.ref TI) rfl ?_);have tirec:=hTI;refine wpAny_bind (wpAny_seqItems tirec rfl ?_);show wpAny _ _ (Builtin.SmallTypes.ownedTupleIsFree (.ref z) >>= _) _ _ _;refine wpAny_bind ?_;unfold Builtin.SmallTypes.ownedTupleIsFree;refine wpAny_bind (wpAny_field zrec rfl (x:=.none) rfl (wpAny_pure ?_));simp only [if_true];refine wpAny_bind (wpAny_rule ?_);refine wpAny_bind (wpAny_field zrec rfl (x:=.ref TO) rfl ?_);refine wpAny_bind (wpAny_setField_rec zrec (by simp) fun g1 zr1 sb1 => ?_)
 replace zr1:IsZip g1 z TI TO .ellipsis:=zr1
 refine wpAny_bind ?_;simp only [List.zipIdx_cons,List.zipIdx_nil,List.forIn_cons,List.forIn_nil];refine wpAny_bind (wpAny_bind (wpAny_onRaise ?_));show wpAny _ _ (Builtin.SmallTypes.nextOf (.ref i1) >>= _) _ _ _;rcases hk with hk | ⟨hk1,hk2⟩
 ·subst hk;refine wpAny_bind (D1.done _ _ _ (St_of D1 st1 sb1.extBut (D.f1 (.inl rfl))) fun g2 e sb2 he => ?_);obtain ⟨oe,hoe,hce⟩:=he;have zr2:IsZip g2 z TI TO .ellipsis:=sb2 _ _ D.a3.symm zr1;have nez:e ≠ z:=fun q => by subst q;rw [zr2] at hoe;cases hoe;simp at hce
  refine wpAny_setField_rec zr2 (by simp) fun g3 _ sb3 => hE g3 e _ (fun c o e1 _ e3 _ q => sb3.extBut _ _ e1 (sb2 _ _ e3 (sb1.extBut _ _ e1 q))) ⟨oe,sb3.extBut _ _ nez hoe,hce⟩
 ·subst hk2;refine wpAny_bind (D1.item k _ _ _ hk1 (St_of D1 st1 sb1.extBut (D.f1 (.inl rfl))) fun x g2 tk2 px st1b sb2 => wpAny_pure ?_);have to2:IsPair g2 TO a b:=sb2.extBut _ _ D.a5 (sb1.extBut _ _ D.a2 hTO);refine wpAny_bind (wpAny_seqItems to2 rfl ?_);refine wpAny_bind (wpAny_updateSeq_pair to2 fun g3 to3 sb3 => ?_);refine wpAny_bind (wpAny_letGo (wpAny_pure ?_));refine wpAny_bind (wpAny_bind (wpAny_onRaise ?_));show wpAny _ _ (Builtin.SmallTypes.nextOf (.ref i2) >>= _) _ _ _;have st2c:S2 k g3:=St_of D2 (St_of D2 (St_of D2 st2 sb1.extBut (D.f2 (.inl rfl))) sb2.extBut (D.f2 (.inr (.inr rfl)))) sb3.extBut (D.f2 (.inr (.inl rfl)));refine wpAny_bind (D2.done _ _ _ st2c fun g4 e sb4 he => ?_);obtain ⟨oe,hoe,hce⟩:=he;have zr4:IsZip g4 z TI TO .ellipsis:=sb4 _ _ D.a4.symm (sb3.extBut _ _ D.a2.symm (sb2.extBut _ _ D.a3.symm zr1));have nez:e ≠ z:=fun q => by subst q;rw [zr4] at hoe;cases hoe;simp at hce
  refine wpAny_setField_rec zr4 (by simp) fun g5 _ sb5 => hE g5 e _ (fun c o e1 e2 e3 e4 q => sb5.extBut _ _ e1 (sb4 _ _ e4 (sb3.extBut _ _ e2 (sb2.extBut _ _ e3 (sb1.extBut _ _ e1 q))))) ⟨oe,sb5.extBut _ _ nez hoe,hce⟩
end
def SqK (K:PySem.W.Frag) (k:Bool) (H:Hp) (a:Addr) (xs:List V):Prop:=if k = true then SqL K H a xs else SqT K H a xs
def IsItK (k:Bool) (h:Heap) (it a:Addr) (i:Nat):Prop:=if k = true then h.IsListIter it a i else h.IsTupleIter it a i
def IsSqK (k:Bool) (h:Heap) (a:Addr) (items:Array Value):Prop:=if k = true then h.IsList a items else h.IsTuple a items
theorem draws_K {prog:Program} {w:World} {A:Around} (k:Bool) (hh:A.handled = none) (it l:Addr) (hne:l ≠ it) (items:Array Value):Draws prog w A it [it,l] items.size (fun i v => items[i]? = some v) (fun i h => IsItK k h it l i /\ IsSqK k h l items):=by
 cases k with
 | true => exact Draws.list hh it l hne items
 | false => exact draws_tup hh it l hne items
theorem Inv.seqK {X:Cx} {pins:List (Addr × Obj)} {σ:St} {H:Hp} {s:Shared} {k:Bool} {a:Addr} {xs:List V} (I:Inv X pins σ H s) (h:SqK X.K k H a xs):∃ its:List Value,Vals xs its /\ IsSqK k s.heap a its.toArray:=by
 cases k with
 | true => obtain ⟨its,r,p,_⟩:=I.list h;exact ⟨its,r,p.isList⟩
 | false => obtain ⟨its,r,p,_⟩:=I.tuple h;exact ⟨its,r,p⟩
theorem Inv.seqK_inj {X:Cx} {pins:List (Addr × Obj)} {σ:St} {H:Hp} {s:Shared} {k:Bool} {a:Addr} {xs ys:List V} (I:Inv X pins σ H s) (h:SqK X.K k H a xs) (h':SqK X.K k H a ys):xs = ys:=by
 cases k with
 | true => exact I.list_inj h h'
 | false => exact I.tuple_inj h h'
def ItzK (K:PySem.W.Frag) (k1 k2:Bool) (a b:Addr):It :=
  ⟨fun i H => ∃ xs ys x y,SqK K k1 H a xs /\ SqK K k2 H b ys /\ xs[i]? = some x /\ ys[i]? = some y,
   fun i H v H' => ∃ p x y,(∀ xs,SqK K k1 H a xs -> xs[i]? = some x) /\ (∀ ys,SqK K k2 H b ys -> ys[i]? = some y) /\ H p = none /\ v = .ref p /\ H' = upd H p (.tup [x,y]),
   fun i H => ∃ xs ys,SqK K k1 H a xs /\ SqK K k2 H b ys /\ i = min xs.length ys.length⟩
theorem IsSqK.ty {k:Bool} {h:Heap} {a:Addr} {items:Array Value} (x:IsSqK k h a items):∃ o,h.get? a = some o /\ (o.cls = .type "list" \/ o.cls = .type "tuple") /\ ∃ n,o.data = .seq items n:=by
 cases k with
 | true => obtain ⟨o,e,c,n,d⟩:=(show h.IsList a items from x);exact ⟨o,e,.inl c,n,d⟩
 | false => obtain ⟨o,e,c,n,d⟩:=(show h.IsTuple a items from x);exact ⟨o,e,.inr c,n,d⟩
theorem IsItK.ty {k:Bool} {h:Heap} {it a:Addr} {i:Nat} (x:IsItK k h it a i):∃ o,h.get? it = some o /\ (o.cls = .type "list_iterator" \/ o.cls = .type "tuple_iterator") /\ o.data = .fields #[.ref a,.int i 0]:=by
 cases k with
 | true => obtain ⟨o,e,c,d⟩:=(show h.IsListIter it a i from x);exact ⟨o,e,.inl c,d⟩
 | false => obtain ⟨o,e,c,d⟩:=(show h.IsTupleIter it a i from x);exact ⟨o,e,.inr c,d⟩
def itC (k:Bool):String:=if k = true then "list_iterator" else "tuple_iterator"
abbrev zg1 (h:Heap) (k1:Bool) (a:Addr):Heap:=h.push { cls:=.type (itC k1),data:=.fields #[.ref a,.int 0 0] }
abbrev zg2 (h:Heap) (k1 k2:Bool) (a b:Addr):Heap:=(zg1 h k1 a).push { cls:=.type (itC k2),data:=.fields #[.ref b,.int 0 0] }
abbrev zg3 (h:Heap) (k1 k2:Bool) (a b:Addr):Heap:=(zg2 h k1 k2 a b).push { cls:=.type "tuple",data:=.seq #[.ref h.objs.size,.ref (zg1 h k1 a).objs.size] }
abbrev zg4 (h:Heap) (k1 k2:Bool) (a b:Addr):Heap:=(zg3 h k1 k2 a b).push { cls:=.type "tuple",data:=.seq #[.none,.none] }
abbrev zg5 (h:Heap) (k1 k2:Bool) (a b:Addr):Heap:=(zg4 h k1 k2 a b).push { cls:=.type "zip",data:=.fields #[.none,.bool false,.bool false,.ref (zg2 h k1 k2 a b).objs.size,.ref (zg3 h k1 k2 a b).objs.size] }
theorem tup_push {h:Heap} {a:Addr} {items:Array Value} (x:h.IsTuple a items) (o:Obj):(h.push o).IsTuple a items:=by
 obtain ⟨ob,e,r⟩:=x;exact ⟨ob,Heap.get?_push_of_some _ e,r⟩
theorem meets_zipK (k1 k2:Bool) (a b:Addr) (xs ys:Array Value) :
  Meets (Builtin.«zip.__new__» ⟨[.type "zip",.ref a,.ref b],[]⟩) (fun _ R s => IsSqK k1 s.heap a xs /\ IsSqK k2 s.heap b ys /\
   R (.ok (.ret (.ref (zg4 s.heap k1 k2 a b).objs.size))) { s with heap:=zg5 s.heap k1 k2 a b }) :=
 .of_wp fun prog w A R s h => by
  obtain ⟨hp,g,d,tk,os⟩:=s;obtain ⟨q1,q2,h⟩:=h;have hsub:=sub_zip
  cases k1 with
  | true =>
   have w1:Heap.IsList (Shared.heap ⟨hp,g,d,tk,os⟩) a xs:=q1
   cases k2 with
   | true =>
    have w2:Heap.IsList (Shared.heap ⟨hp.push { cls:=.type "list_iterator",data:=.fields #[.ref a,.int 0 0] },g,d,tk,os⟩) b ys:=Heap.IsList.push q2 _;wp_walk using wpAny_pyIter_list w1,wpAny_pyIter_list w2;exact ⟨_,rfl,h⟩
   | false =>
    have w2:Heap.IsTuple (Shared.heap ⟨hp.push { cls:=.type "list_iterator",data:=.fields #[.ref a,.int 0 0] },g,d,tk,os⟩) b ys:=tup_push q2 _;wp_walk using wpAny_pyIter_list w1,wpAny_pyIter_tuple w2;exact ⟨_,rfl,h⟩
  | false =>
   have w1:Heap.IsTuple (Shared.heap ⟨hp,g,d,tk,os⟩) a xs:=q1
   cases k2 with
   | true =>
    have w2:Heap.IsList (Shared.heap ⟨hp.push { cls:=.type "tuple_iterator",data:=.fields #[.ref a,.int 0 0] },g,d,tk,os⟩) b ys:=Heap.IsList.push q2 _;wp_walk using wpAny_pyIter_tuple w1,wpAny_pyIter_list w2;exact ⟨_,rfl,h⟩
   | false =>
    have w2:Heap.IsTuple (Shared.heap ⟨hp.push { cls:=.type "tuple_iterator",data:=.fields #[.ref a,.int 0 0] },g,d,tk,os⟩) b ys:=tup_push q2 _;wp_walk using wpAny_pyIter_tuple w1,wpAny_pyIter_tuple w2;exact ⟨_,rfl,h⟩
theorem isIt0 {k:Bool} {h:Heap} {it a:Addr} (e:h.get? it = some { cls:=.type (itC k),data:=.fields #[.ref a,.int 0 0] }):IsItK k h it a 0:=by
 cases k with
 | true => exact ⟨_,e,rfl,rfl⟩
 | false => exact ⟨_,e,rfl,rfl⟩
section
variable {prog:Program} {w:World} {A:Around} {E:Value -> Shared -> Prop} {s:Shared}
theorem call_zipK {k1 k2:Bool} {a b:Addr} {xs ys:Array Value} {Q:Value -> Shared -> Prop} (h1:IsSqK k1 s.heap a xs) (h2:IsSqK k2 s.heap b ys)
  (h:∀ h',IsZip h' (s.heap.objs.size + 4) (s.heap.objs.size + 2) (s.heap.objs.size + 3) .none -> IsPair h' (s.heap.objs.size + 2) (.ref s.heap.objs.size) (.ref (s.heap.objs.size + 1)) -> IsPair h' (s.heap.objs.size + 3) .none .none ->
   IsItK k1 h' s.heap.objs.size a 0 -> IsItK k2 h' (s.heap.objs.size + 1) b 0 -> (∀ c o,s.heap.get? c = some o -> h'.get? c = some o) -> Q (.ref (s.heap.objs.size + 4)) { s with heap:=h' }) :
  wpAny (model prog w) A (call (.type "zip") [.ref a,.ref b]) Q E s:=by
 refine callType_new F.called_zip (by decide) (F.typeCall_zip_2 _ _) (F.newCall_zip_2 _ _) (fun obj => F.args_object_init_3 obj _ _) F.entry_zip_new (meets_zipK k1 k2 a b xs ys) ⟨h1,h2,?_⟩
 have e1:(zg1 s.heap k1 a).objs.size = s.heap.objs.size + 1:=Heap.size_push ..;have e2:(zg2 s.heap k1 k2 a b).objs.size = s.heap.objs.size + 2:=by rw [Heap.size_push,e1]
 have e3:(zg3 s.heap k1 k2 a b).objs.size = s.heap.objs.size + 3:=by rw [Heap.size_push,e2]
 have e4:(zg4 s.heap k1 k2 a b).objs.size = s.heap.objs.size + 4:=by rw [Heap.size_push,e3]
 have p5:(zg5 s.heap k1 k2 a b).get? (zg4 s.heap k1 k2 a b).objs.size = some _:=Heap.get?_push_size _ rfl;have p4:(zg5 s.heap k1 k2 a b).get? (zg3 s.heap k1 k2 a b).objs.size = some _:=Heap.get?_push_of_some _ (Heap.get?_push_size _ rfl);have p3:(zg5 s.heap k1 k2 a b).get? (zg2 s.heap k1 k2 a b).objs.size = some _:=Heap.get?_push_of_some _ (Heap.get?_push_of_some _ (Heap.get?_push_size _ rfl));have p2:(zg5 s.heap k1 k2 a b).get? (zg1 s.heap k1 a).objs.size = some _:=Heap.get?_push_of_some _ (Heap.get?_push_of_some _ (Heap.get?_push_of_some _ (Heap.get?_push_size _ rfl)));have p1:(zg5 s.heap k1 k2 a b).get? s.heap.objs.size = some _:=Heap.get?_push_of_some _ (Heap.get?_push_of_some _ (Heap.get?_push_of_some _ (Heap.get?_push_of_some _ (Heap.get?_push_size _ rfl))));show _ /\ _;rw [e2,e3,e4] at p5;rw [e1,e2] at p3;rw [e3] at p4;rw [e1] at p2;rw [e4];exact ⟨⟨_,p5,rfl⟩,h _ p5 p3 p4 (isIt0 p1) (isIt0 p2) fun c o x => Heap.get?_push_of_some _ (Heap.get?_push_of_some _ (Heap.get?_push_of_some _ (Heap.get?_push_of_some _ (Heap.get?_push_of_some _ x))))⟩
end
theorem turn_zipK {P:Program} {w:World} {K:PySem.W.Frag} {es:List Expr} {tk:Nat} {tp:Pos} (k1 k2:Bool) (a b z TI TO i1 i2:Addr) (D:ZA z TI TO i1 i2 a b) :
  Turn P w K (.Tuple es tk tp) (ItzK K k1 k2 a b) [z,TI,TO,i1,i2] z (fun i h => IsZip h z TI TO .none /\ IsPair h TI (.ref i1) (.ref i2) /\ (∃ x y,IsPair h TO x y) /\ IsItK k1 h i1 a i /\ IsItK k2 h i2 b i) where
 mem:=by simp
 obj:=fun i h st c hc => by
  obtain ⟨s1,s2,⟨x,y,s3⟩,s4,s5⟩:=st;simp only [List.mem_cons,List.not_mem_nil,or_false] at hc;rcases hc with rfl | rfl | rfl | rfl | rfl
  ·exact ⟨_,s1,fun v q => by cases q⟩
  ·exact ⟨_,s2,fun v q => by cases q⟩
  ·exact ⟨_,s3,fun v q => by cases q⟩
  ·obtain ⟨o,e,_,d⟩:=s4.ty;exact ⟨o,e,fun v q => by rw [d] at q;cases q⟩
  ·obtain ⟨o,e,_,d⟩:=s5.ty;exact ⟨o,e,fun v q => by rw [d] at q;cases q⟩
 keep:=fun i h h' st k => by
  obtain ⟨s1,s2,⟨x,y,s3⟩,s4,s5⟩:=st;refine ⟨k z (by simp) _ s1,k TI (by simp) _ s2,⟨x,y,k TO (by simp) _ s3⟩,?_,?_⟩
  ·cases k1 with
   | true => obtain ⟨o,e,r⟩:=(show h.IsListIter i1 a i from s4);exact ⟨o,k i1 (by simp) o e,r⟩
   | false => obtain ⟨o,e,r⟩:=(show h.IsTupleIter i1 a i from s4);exact ⟨o,k i1 (by simp) o e,r⟩
  ·cases k2 with
   | true => obtain ⟨o,e,r⟩:=(show h.IsListIter i2 b i from s5);exact ⟨o,k i2 (by simp) o e,r⟩
   | false => obtain ⟨o,e,r⟩:=(show h.IsTupleIter i2 b i from s5);exact ⟨o,k i2 (by simp) o e,r⟩
 item:=by
  intro X hP hw hK hc i pins s σ H E I hf st hg;subst hP hw hK;obtain ⟨xs,ys,x,y,q1,q2,ex,ey⟩:=hg;obtain ⟨s1,s2,⟨x0,y0,s3⟩,s4,s5⟩:=st;obtain ⟨its1,rv1,p1⟩:=I.seqK q1;obtain ⟨its2,rv2,p2⟩:=I.seqK q2;obtain ⟨u1,hu1,ru1⟩:=rv1.get ex;obtain ⟨u2,hu2,ru2⟩:=rv2.get ey;have lt1:i < its1.toArray.size:=by have:=(List.getElem?_eq_some_iff.mp hu1).1;simpa using this
  have lt2:i < its2.toArray.size:=by have:=(List.getElem?_eq_some_iff.mp hu2).1;simpa using this
  have hT:s.TypeIs (.ref z) "zip":=⟨_,s1,rfl⟩;have D1:=draws_K (prog:=X.prog) (w:=X.w) (A:=X.A.in1) k1 (I.ok.hd hc) i1 a D.a8.2.2.1 its1.toArray;have D2:=draws_K (prog:=X.prog) (w:=X.w) (A:=X.A.in1) k2 (I.ok.hd hc) i2 b D.a9.2.2.2 its2.toArray;unfold pyNext;refine wpAny_bind (wpAny_attempt (wpAny_callSpecial?_slot (name:=Str.ofString "__next__") hT PySem.F.slot_zip_next (wpAny_call_entry PySem.F.slot_zip_next hT PySem.F.entry_zip_next
   (zipG_item D D1 D2 s1 s2 s3 ⟨s4,p1⟩ ⟨s5,p2⟩ lt1 lt2 fun v1 v2 h' tk' px py z1 t1 w1 w2 pr kp => wpAny_pure ?_) (PySem.F.args_zip_next_1 _))))
  have fr:H s.heap.objs.size = none:=I.hok.fresh (Nat.le_refl _);have ev1:v1 = u1:=by rw [List.getElem?_toArray,hu1] at px;exact (Option.some.inj px).symm
  have ev2:v2 = u2:=by rw [List.getElem?_toArray,hu2] at py;exact (Option.some.inj py).symm
  subst ev1 ev2;have lt:∀ {c o},s.heap.get? c = some o -> s.heap.objs.size ≠ c:=fun e => Nat.ne_of_gt (Heap.lt_size e);refine ⟨.ref s.heap.objs.size,rfl,wpAny_letOwnedTupleGo_zip z1 fun h2 z2 sb2 => ?_⟩;have pr2:IsPair h2 s.heap.objs.size v1 v2:=sb2.extBut _ _ (lt s1) pr;have I2:Inv X pins σ (upd H s.heap.objs.size (.tup [x,y])) { s with heap:=h2,toks:=tk' }:=by
   refine I.turnNew (fp:=[z,TI,TO,i1,i2]) hf (Nat.le_refl _) (fun c o hcm ec => ?_) ⟨by show 2 <= sizeLine;decide,[v1,v2],.cons ru1 (.cons ru2 .nil),⟨_,pr2,rfl,_,rfl,rfl⟩⟩
   simp only [List.mem_cons,List.not_mem_nil,or_false,not_or] at hcm;exact sb2.extBut _ _ hcm.1 (kp c o hcm.1 hcm.2.2.1 hcm.2.2.2.1 hcm.2.2.2.2 ec)
  refine ⟨.ref s.heap.objs.size,_,I2,rfl,⟨s.heap.objs.size,x,y,fun zs hz => by rw [I.seqK_inj hz q1];exact ex,fun zs hz => by rw [I.seqK_inj hz q2];exact ey,fr,rfl,rfl⟩,⟨z2,?_,⟨v1,v2,?_⟩,?_,?_⟩,fun c hcm => ?_⟩
  ·exact sb2.extBut _ _ D.a1 (kp _ _ D.a1 D.b1.1 D.b1.2.1 D.b1.2.2 s2)
  ·exact sb2.extBut _ _ D.a2 t1
  ·have:=D1.frame (i + 1) h' h2 w1 fun c hcm o q => sb2.extBut _ _ (D.f1 (.inl rfl) c hcm) q;exact this.1
  ·have:=D2.frame (i + 1) h' h2 w2 fun c hcm o q => sb2.extBut _ _ (D.f2 (.inl rfl) c hcm) q;exact this.1
  ·have hn:=(hf c hcm).1;rw [upd_ne]
   ·exact hn
   ·simp only [List.mem_cons,List.not_mem_nil,or_false] at hcm;rcases hcm with rfl | rfl | rfl | rfl | rfl
    ·exact (lt s1).symm
    ·exact (lt s2).symm
    ·exact (lt s3).symm
    ·obtain ⟨o,e,_⟩:=s4.ty;exact (lt e).symm
    ·obtain ⟨o,e,_⟩:=s5.ty;exact (lt e).symm
 done:=by
  intro X hP hw hK hc i pins s σ H E I hf st hg;subst hP hw hK;obtain ⟨xs,ys,q1,q2,hi⟩:=hg;obtain ⟨s1,s2,⟨x0,y0,s3⟩,s4,s5⟩:=st;obtain ⟨its1,rv1,p1⟩:=I.seqK q1;obtain ⟨its2,rv2,p2⟩:=I.seqK q2;have n1:its1.toArray.size = xs.length:=by rw [List.size_toArray];exact rv1.length.symm
  have n2:its2.toArray.size = ys.length:=by rw [List.size_toArray];exact rv2.length.symm
  have hT:s.TypeIs (.ref z) "zip":=⟨_,s1,rfl⟩;have D1:=draws_K (prog:=X.prog) (w:=X.w) (A:=X.A.in1) k1 (I.ok.hd hc) i1 a D.a8.2.2.1 its1.toArray;have D2:=draws_K (prog:=X.prog) (w:=X.w) (A:=X.A.in1) k2 (I.ok.hd hc) i2 b D.a9.2.2.2 its2.toArray;unfold pyNext;refine wpAny_bind (wpAny_attempt (wpAny_callSpecial?_slot (name:=Str.ofString "__next__") hT PySem.F.slot_zip_next (wpAny_call_entry PySem.F.slot_zip_next hT PySem.F.entry_zip_next
   (zipG_end D D1 D2 s1 s2 s3 ⟨s4,p1⟩ ⟨s5,p2⟩ (by rw [n1,n2];lia) fun h' e tk' kp he => ?_) (PySem.F.args_zip_next_1 _))))
  obtain ⟨o,ho,hcl⟩:=he;refine wpAny_bind (wpAny_isInstance (T:="StopIteration") (b:=true) ⟨o,ho,hcl⟩ isSubtype_stop (wpAny_pure ⟨rfl,?_⟩));refine I.turns (t':=tk') hf fun c o hcm ec => ?_;simp only [List.mem_cons,List.not_mem_nil,or_false,not_or] at hcm;exact kp c o hcm.1 hcm.2.2.1 hcm.2.2.2.1 hcm.2.2.2.2 ec
 self:=fun A i s Q E st h => wpAny_pyIter_zip st.1 h
section
variable {X:Cx} {es:List Expr} {tk:Nat} {tp:Pos}
def iZipK (K:PySem.W.Frag) (ta:TA):TI:=fun σ H R => ta σ H fun vs H1 => ∃ a b k1 k2,vs = [.ref a,.ref b] /\ (∃ xs,SqK K k1 H1 a xs) /\ (∃ ys,SqK K k2 H1 b ys) /\ R (ItzK K k1 k2 a b) H1
theorem pi_zipK {e1 e2:Expr} {ta:TA} {p pos:Pos} (hg:Gl X "zip") (hm:X.mg "zip" = none) (ha:PA X [e1,e2] ta) (h1:nst e1 = true:=by rfl) (h2:nst e2 = true:=by rfl) (hv:bootBuiltins "zip" = some (.type "zip"):=by decide +kernel) :
  PI X (.Tuple es tk tp) (.Call (.Name "zip" p) [e1,e2] [] pos) (iZipK X.K ta):=by
 intro pins s σ H R I h;refine Call_ (ld_blt I hg hm hv (PyProof.Rows.callWith_type1 (thn (ha pos pins s σ H _ I h) fun us s1 hq1 => ?_) (by rw [star1 h1,star1 h2]) (by rw [star1 h2];rfl)))
 obtain ⟨vs,H1,I1,r1,q1⟩:=hq1;obtain ⟨a,b,k1,k2,e,⟨xs,hx⟩,⟨ys,hy⟩,q⟩:=q1;subst e;obtain ⟨u,w',rfl,ru,rw'⟩:=vals2 r1
 cases ru;cases rw'
 obtain ⟨its1,rv1,p1⟩:=I1.seqK hx;obtain ⟨its2,rv2,p2⟩:=I1.seqK hy;obtain ⟨o1,eo1,_⟩:=p1.ty;obtain ⟨o2,eo2,_⟩:=p2.ty;have l1:a < s1.heap.objs.size:=Heap.lt_size eo1;have l2:b < s1.heap.objs.size:=Heap.lt_size eo2;refine call_zipK p1 p2 fun h' z1 z2 z3 z4 z5 kp => wpAny_pyIter_zip z1 ?_;have I2:Inv X pins σ H1 { s1 with heap:=h' }:=I1.kept (t':=s1.toks) kp
 have ne:∀ (m n c:Nat),m ≠ n -> c + m ≠ c + n:=fun m n c h => by lia
 have nl:∀ (x c m:Nat),x < c -> x ≠ c + m:=fun x c m h => by lia
 have D:ZA (s1.heap.objs.size + 4) (s1.heap.objs.size + 2) (s1.heap.objs.size + 3) s1.heap.objs.size (s1.heap.objs.size + 1) a b :=
  ⟨ne 2 4 _ (by decide),ne 3 4 _ (by decide),ne 0 4 _ (by decide),ne 1 4 _ (by decide),ne 3 0 _ (by decide),ne 3 1 _ (by decide),ne 0 1 _ (by decide),⟨nl _ _ 4 l1,nl _ _ 3 l1,nl _ _ 0 l1,nl _ _ 1 l1⟩,⟨nl _ _ 4 l2,nl _ _ 3 l2,nl _ _ 0 l2,nl _ _ 1 l2⟩,ne 2 3 _ (by decide),ne 2 0 _ (by decide),ne 2 1 _ (by decide)⟩
 refine ⟨s1.heap.objs.size + 4,[s1.heap.objs.size + 4,s1.heap.objs.size + 2,s1.heap.objs.size + 3,s1.heap.objs.size,s1.heap.objs.size + 1],_,_,H1,rfl,I2,turn_zipK k1 k2 a b _ _ _ _ _ D,⟨z1,z2,⟨_,_,z3⟩,z4,z5⟩,fun c hc => ?_,q⟩;have hc':s1.heap.objs.size <= c:=by
  simp only [List.mem_cons,List.not_mem_nil,or_false] at hc;rcases hc with rfl | rfl | rfl | rfl | rfl
  ·exact Nat.le_add_right _ _
  ·exact Nat.le_add_right _ _
  ·exact Nat.le_add_right _ _
  ·exact Nat.le_refl _
  ·exact Nat.le_add_right _ _
 exact I1.fpOk hc' (I1.hok.fresh hc')
end
namespace Y
section
variable {X:Cx} {e1 e2:Expr} {es:List Expr} {us:UA} {pos p tp:Pos} {k:Nat}
end
end Y
namespace Y
section
variable {X:Cx} {es:List Expr} {pos:Pos} {x:Str}
end
end Y
namespace A
open Y
end A
def spLaw (K:PySem.W.Frag):Sp:=fun vs H Q _ => ∃ (a:Addr) (ns:List Int),vs = [.ref a] /\ SqL K H a (ns.map V.int) /\ ns.length <= 63 /\ ∀ H',Q (.bl true) H'
end L2
namespace L2
open PySem PySem.Spec PyProof.Rows
namespace Y
theorem noFill_tup_mul:fillsNumberSlot (.type "tuple") "mul" = pure false :=
 PySem.fillsNumberSlot_seq (id:="tuple.__mul__") (r:=some (.builtin "tuple.__rmul__")) PySem.F.slot_tuple_mul.lookup (by decide +kernel) PySem.F.slot_tuple_rmul.lookup (by decide +kernel)
theorem repeat_tup:seqRepeat? (.type "tuple") = pure (some (.builtin "tuple.__mul__")):=by
 unfold seqRepeat?;rw [PySem.seqSlot_of (T:="tuple") (name:="__mul__") (id:="tuple.__mul__") PySem.F.slot_tuple_mul.lookup (by decide +kernel),PySem.seqSlot_of (T:="tuple") (name:="__rmul__") (id:="tuple.__rmul__") PySem.F.slot_tuple_rmul.lookup (by decide +kernel)];rfl
theorem rmul_tup (a:Int) (t:Tok) (l:Addr) (ob:Obj) (items:Array Value) (n:Nat) (hc:ob.cls = .type "tuple") (hd:ob.data = .seq items n) :
  Meets (Builtin.«int.__rmul__» ⟨[.int a t,.ref l],[]⟩) (fun _ R s => s.heap.get? l = some ob /\ R (.ok (.ret Value.notImplemented)) s) :=
 .of_wp fun prog w A R s h => by
  obtain ⟨hp,g,d,tk,os⟩:=s;obtain ⟨hl,h⟩:=h;obtain ⟨c,dd,da,sl⟩:=ob;simp only at hc hd;subst hc hd
  wp_walk
  exact ⟨_,rfl,h⟩
theorem mul_tup (l:Addr) (items:Array Value) (ob:Obj) (n:Nat) (k:Int) (t:Tok) (hc:ob.cls = .type "tuple") (hd:ob.data = .seq items n) (hne:items.isEmpty = false) (h1:1 < k) (h2:k <= 1000) (hsz:items.size <= 1000) :
  Meets (Builtin.«tuple.__mul__» ⟨[.ref l,.int k t],[]⟩) (fun _ R s => s.heap.get? l = some ob /\ R (.ok (.ret (.ref s.heap.objs.size))) { s with heap:=s.heap.push { cls:=.type "tuple",data:=.seq ((List.replicate k.toNat items).foldl (· ++ ·) #[]) } }) :=
 .of_wp fun prog w A R s h => by
  obtain ⟨hp,g,d,tk,os⟩:=s;obtain ⟨hl,h⟩:=h;obtain ⟨c,dd,da,sl⟩:=ob;simp only at hc hd;subst hc hd;have e1:(decide (k < -(2 ^ 63)) || decide (k >= 2 ^ 63)) = false:=by rw [decide_eq_false (by lia),decide_eq_false (by lia)];rfl
  have e2:(items.isEmpty || k == 1) = false:=by rw [hne,beq_eq_false_iff_ne.mpr (by lia)];rfl
  have e3:(decide (k <= 0) || items.isEmpty) = false:=by rw [hne,decide_eq_false (by lia)];rfl
  wp_walk using AutoSeq1.wpAny_loadPart' hl;rw [if_neg (by rw [e1];exact Bool.false_ne_true)]
  have ht:IsTup (Shared.heap ⟨hp,g,d,tk,os⟩) l items:=⟨_,hl,rfl,n,rfl⟩;show wpAny _ _ (Builtin.Tuple.tupleItemsOf (.ref l) >>= _) _ _ _;refine wpAny_bind (tupleItemsOf_ ht ?_);rw [if_neg (by rw [e2];exact Bool.false_ne_true)]
  show wpAny _ _ (if (decide (k <= 0) || items.isEmpty) = true then _ else _) _ _ _
  rw [if_neg (by rw [e3];exact Bool.false_ne_true)]
  have hm:(items.size:Int) * k <= 1000 * 1000:=Int.mul_le_mul (by lia) h2 (by lia) (by lia)
  show wpAny _ _ (if (items.size:Int) * k > (2 ^ 63 - 1) / 8 then _ else _) _ _ _
  rw [if_neg (by lia)]
  show wpAny _ _ (if Builtin.Tuple.tupleTooMany ((items.size:Int) * k) = true then _ else _) _ _ _
  have e4:Builtin.Tuple.tupleTooMany ((items.size:Int) * k) = false:=decide_eq_false (by
   have:((sizeLine:Nat):Int) >= 1000000:=by decide
   lia)
  rw [if_neg (by rw [e4];exact Bool.false_ne_true)]
  have hl2:((List.replicate k.toNat items).foldl (· ++ ·) #[]).size <= sizeLine:=by
   have fs:∀ (m:Nat) (acc:Array Value),((List.replicate m items).foldl (· ++ ·) acc).size = acc.size + m * items.size:=fun m => by
    induction m with
    | zero => intro acc;simp
    | succ m ih => intro acc;rw [List.replicate_succ,List.foldl_cons,ih,Array.size_append,Nat.succ_mul];lia
   rw [fs];have h3:k.toNat * items.size <= 1000 * 1000:=Nat.mul_le_mul (by lia) hsz
   have h4:(1000000:Nat) <= sizeLine:=by decide
   simp;lia
  exact wpAny_bind (m:=Builtin.Tuple.tupleExact _) (wpAny_newObj_type (wpAny_pure ⟨_,rfl,h⟩) hl2)
theorem foldl_arr (its:List Value):∀ (m:Nat) (acc:List Value),(List.replicate m its.toArray).foldl (· ++ ·) acc.toArray = (acc ++ (List.replicate m its).flatten).toArray:=fun m acc => foldl_rep its m acc
def rRepT (K:PySem.W.Frag):R2:=fun x y H Q => ∃ a k xs,x = .ref a /\ y = .int k /\ SqT K H a xs /\ xs ≠ [] /\ xs.length <= 1000 /\ 1 < k /\ k <= 1000 /\ ∀ p,H p = none -> Q (.ref p) (upd H p (.tup (List.replicate k.toNat xs).flatten))
theorem op_repT {X:Cx}:OpR X (binaryOp .Mult) (rRepT X.K):=by
 intro pins s σ H x y v u Q I rx ry h;obtain ⟨a,k,xs,rfl,rfl,hx,hne,hsz,h1,h2,q⟩:=h;cases rx;obtain ⟨t,rfl⟩:=ry;obtain ⟨its,r,p,hz⟩:=I.tuple hx;obtain ⟨ob,ho,hc,n,hd⟩:=id p;have hlen:=r.length;have hemp:its.toArray.isEmpty = false:=by
  cases its with
  | nil => cases r;exact absurd rfl hne
  | cons a b => rfl
 refine wpAny_binaryOp_repeat_ref (T:="tuple") (U:="int") (by decide) ⟨_,ho,hc⟩ (fun s' => typeIs_int s' k t) noFill_tup_mul PySem.F.fills_int_mul PySem.F.slot_int_rmul repeat_tup PySem.F.slot_int_index.lookup
  (call_meets PySem.F.slot_int_rmul (typeIs_int s k t) PySem.F.entry_int_rmul (PySem.F.args_int_rmul_2 _ _) (rmul_tup k t a ob its.toArray n hc hd)
   ⟨ho,rfl,⟨_,ho,hc⟩,call_meets PySem.F.slot_tuple_mul ⟨_,ho,hc⟩ PySem.F.entry_tuple_mul (PySem.F.args_tuple_mul_2 _ _) (mul_tup a its.toArray ob n k t hc hd hemp h1 h2 (by rw [List.size_toArray];lia)) ⟨ho,?_⟩⟩)
 have e0:=foldl_arr its k.toNat [];rw [List.nil_append] at e0;have e0':(List.replicate k.toNat its.toArray).foldl (· ++ ·) #[] = (List.replicate k.toNat its).flatten.toArray:=e0;rw [e0'];refine ⟨.ref s.heap.objs.size,_,I.laid (t':=s.toks) (o:=.tup (List.replicate k.toNat xs).flatten) (fun b ob q => Heap.get?_push_of_some _ q) (Nat.le_refl _) ?_,rfl,q _ (I.hok.fresh (Nat.le_refl _))⟩;refine ⟨?_,_,r.rep k.toNat,IsTupD.new _ _⟩;rw [len_rep];have h3:k.toNat * xs.length <= 1000 * 1000:=Nat.mul_le_mul (by lia) hsz
 exact Nat.le_trans h3 (by decide)
def rMulG (K:PySem.W.Frag):R2:=fun x y H Q => uMul x y H Q \/ rRepT K x y H Q
theorem op_mulG {X:Cx} (K:PySem.W.Frag) (hK:X.K = K):OpR X (binaryOp .Mult) (rMulG K):=by subst hK;exact uop_mul.or op_repT
end Y
namespace A
end A
section
variable {prog:Program} {w:World} {A:Around} {E:Value -> Shared -> Prop} {s:Shared}
end
section
variable {X:Cx} {e:Expr} {te:TE}
end
namespace Y
end Y
namespace A
end A
end L2
namespace L2
open PySem PySem.Spec PyProof PyProof.Rows
namespace Y
theorem vals_of_ints:∀ {us:List Value} {ns:List Int},IntsAre us ns -> Vals (ns.map V.int) us
 | _,_,.nil => .nil
 | _,_,.cons n t h => .cons ⟨t,rfl⟩ (vals_of_ints h)
theorem ints_len:∀ {us:List Value} {ns:List Int},IntsAre us ns -> us.length = ns.length
 | _,_,.nil => rfl
 | _,_,.cons n t h => by simp [ints_len h]
section
variable {prog:Program} {w:World} {A:Around} {E:Value -> Shared -> Prop} {s:Shared}
theorem collect_tup {l:Addr} {vs:List Value} {Q:List Value -> Shared -> Prop} (hl:IsTup s.heap l vs.toArray) (hsz:vs.length <= sizeLine)
  (h:Q vs { s with heap:=(s.heap.push (seqObj "list" #[] 0)).update s.heap.objs.size (Obj.mapSeq (· ++ vs.toArray)) }):wpAny (model prog w) A (collect (.ref l)) Q E s:=by
 obtain ⟨o,ho,hc,n,hd⟩:=id hl;unfold collect;refine wpAny_bind (wpAny_runValue (codeAny_builtin entry_proto_collect' ?_));show wpAny _ _ (do again (.builtin "list.__iadd__" ⟨[<- newList [],.ref l],[]⟩)) _ _ s
 refine wpAny_bind (wpAny_newList (wpAny_pure ⟨Code.quiet_builtin _ (by decide +kernel),codeAny_builtin entry_list_iadd' ?_⟩))
 show wpAny _ _ (Builtin.List.listExtendWith (.ref s.heap.objs.size) (.ref l) (.ref s.heap.objs.size)) _ _ { s with heap:=s.heap.push (seqObj "list" #[] 0) }
 unfold Builtin.List.listExtendWith;have ho':(s.heap.push (seqObj "list" #[] 0)).get? l = some o:=Heap.get?_push_of_some _ ho;refine wpAny_bind (wpAny_typeOf (T:="tuple") ⟨o,ho',hc⟩ ?_);have ht:(Value.type "tuple" == Value.type "tuple") = true:=by rfl
 rw [if_pos (by rw [ht];simp)]
 refine wpAny_bind (listItems_at ho' hd ?_);refine wpAny_bind (listItems_at (xs:=#[]) (n:=0) (Heap.get?_push_size _ rfl) rfl ?_);rw [if_neg (by simp)]
 refine wpAny_bind (listUpdate_at (xs:=#[]) (n:=0) (Heap.get?_push_size _ rfl) rfl ?_ (Nat.zero_le _) (by show (#[] ++ vs.toArray).size <= sizeLine + 1;simp only [Array.size_append,List.size_toArray,List.length_nil];lia))
 refine wpAny_pure ?_;show wpAny (model prog w) A (load s.heap.objs.size >>= _) Q E { s with heap:=(s.heap.push (seqObj "list" #[] 0)).update s.heap.objs.size (Obj.mapSeq (· ++ vs.toArray)) }
 refine wpAny_bind (wpAny_load (get?_update_seq (Heap.get?_push_size _ rfl) _) ?_);show wpAny _ _ (pure ((#[]:Array Value) ++ vs.toArray).toList) Q E _;rw [show ((#[]:Array Value) ++ vs.toArray).toList = vs by simp]
 exact wpAny_pure h
theorem sorted_tup {l:Addr} {vs:List Value} {ns:List Int} {Q:Value -> Shared -> Prop} (hl:IsTup s.heap l vs.toArray) (hI:IntsAre vs ns) (h64:vs.length < 64)
  (h:∀ (out:Array Value) (ns':List Int),IntsAre out.toList ns' -> ns'.Perm ns -> ns'.Pairwise (· <= ·) -> Q (.ref (s.heap.objs.size + 1)) { s with heap:=sortedAll s.heap vs out }) :
  wpAny (model prog w) A (call (.builtin "sorted") [.ref l]) Q E s:=by
 have hz:vs.length <= sizeLine:=Nat.le_trans (Nat.le_of_lt h64) (by decide)
 refine Calls.call_function_entry kind_sorted plain_sorted entry_sorted (args_sorted1 _) ?_;unfold Builtin.«sorted»;refine wpAny_bind (m:=checkCount "sorted" 1 1 _) (wpAny_pure ?_);refine wpAny_bind (collect_tup hl hz ?_);refine wpAny_bind (wpAny_newList ?_ hz);have hs:((s.heap.push (seqObj "list" #[] 0)).update s.heap.objs.size (Obj.mapSeq (· ++ vs.toArray))).objs.size = s.heap.objs.size + 1:=by rw [Heap.size_update,size_push']
 have ho:(((s.heap.push (seqObj "list" #[] 0)).update s.heap.objs.size (Obj.mapSeq (· ++ vs.toArray))).push (seqObj "list" vs.toArray 0)).get? (s.heap.objs.size + 1) = some (seqObj "list" vs.toArray 0):=by
  rw [<- hs];exact Heap.get?_push_size _ rfl
 show wpAny _ _ _ _ _ { s with heap:=((s.heap.push (seqObj "list" #[] 0)).update s.heap.objs.size (Obj.mapSeq (· ++ vs.toArray))).push (seqObj "list" vs.toArray 0) }
 rw [hs];refine wpAny_bind (wpAny_holding (wpAny_call_entry slot_list_sort ⟨_,ho,rfl⟩ entry_list_sort (list_sort_tree ho hI h64 fun out ns' a1 a2 a3 => ⟨_,rfl,?_⟩) (args_list_sort _)));exact wpAny_pure ⟨_,rfl,h out ns' a1 a2 a3⟩
end
def rSort (K:PySem.W.Frag):List V -> Hp -> VK -> Prop:=fun xs H Q => ∃ p ns,xs = [.ref p] /\ SqT K H p (ns.map V.int) /\ ns.length < 64 /\ ∀ ns':List Int,ns'.Perm ns -> ns'.Pairwise (· <= ·) -> ∀ l,H l = none -> Q (.ref l) (upd H l (.lst (ns'.map V.int)))
theorem call_sort {X:Cx} (K:PySem.W.Frag) (hK:X.K = K):CallR X (.builtin "sorted") (rSort K):=by
 subst hK;intro pins s σ H xs us Q I r h;obtain ⟨p,ns,rfl,hq,h64,q⟩:=h;obtain ⟨u,rfl,ru⟩:=vals1 r;cases ru;obtain ⟨its,rv,pl,hz⟩:=I.tuple hq;have hi:=intsAre_of rv;refine sorted_tup pl hi (by rw [ints_len hi];exact h64) fun out ns' a1 a2 a3 => ?_
 obtain ⟨e,he⟩:=sortedAll_at s.heap its out;refine ⟨.ref (s.heap.objs.size + 1),_,I.laid (t':=s.toks) (fun b ob q => sortedAll_old q) (Nat.le_succ _) (show ObjOk X.prog X.w _ _ _ (.lst (ns'.map V.int)) from ⟨?_,out.toList,e,vals_of_ints a1,by simpa using he⟩),rfl,q ns' a2 a3 _ (I.hok.fresh (Nat.le_succ _))⟩
 rw [List.length_map,a2.length_eq];exact Nat.le_trans (Nat.le_of_lt h64) (by decide)
end Y
namespace A
end A
namespace Y
section
variable {prog:Program} {w:World} {A:Around} {E:Value -> Shared -> Prop} {s:Shared}
end
end Y
namespace A
end A
namespace Y
theorem picks' (l:List Nat):∀ (n a:Nat),((List.range n).map (fun k => a + k)).filterMap (l[·]?) = (l.drop a).take n
 | 0,_ => by simp
 | n + 1,a => by
  rw [List.range_succ,List.map_append,List.filterMap_append,picks' l n a,List.take_add_one,List.getElem?_drop]
  cases h:l[a + n]? <;> simp [h]
theorem slice_ix (lo hi:Option Int) (n:Nat):Builtin.Str.strSliceIndices lo hi 1 n = (List.range (HT.sIx n n hi - HT.sIx n 0 lo)).map (fun k => HT.sIx n 0 lo + k):=by
 have ea:∀ (v:Int),max 0 (min (if v < 0 then v + (n:Int) else v) (n:Int)) = (((if v < 0 then (v + (n:Int)).toNat else min v.toNat n):Nat):Int):=by
  intro v;split <;> lia
 have e:Builtin.Str.strSliceIndices lo hi 1 n = sliceRange (HT.sIx n 0 lo) (HT.sIx n n hi) 1:=by
  cases lo with
  | none => cases hi with
   | none => rfl
   | some j => show sliceRange 0 (max 0 (min (if j < 0 then j + (n:Int) else j) (n:Int))) 1 = _;rw [ea];rfl
  | some i => cases hi with
   | none => show sliceRange (max 0 (min (if i < 0 then i + (n:Int) else i) (n:Int))) n 1 = _;rw [ea];rfl
   | some j => show sliceRange (max 0 (min (if i < 0 then i + (n:Int) else i) (n:Int))) (max 0 (min (if j < 0 then j + (n:Int) else j) (n:Int))) 1 = _;rw [ea,ea];rfl
 rw [e];generalize HT.sIx n 0 lo = a;generalize HT.sIx n n hi = b;unfold sliceRange;simp only [show ((1:Int) > 0) = True from by simp,if_true,Int.one_mul]
 have c:(if (a:Int) < (b:Int) then ((b:Int) - a + 1 - 1) / 1 else 0).toNat = b - a:=by split <;> lia
 rw [c];refine List.map_congr_left fun k _ => ?_;lia
theorem slice_cut0 (z:Str) (lo hi:Option Int):Txt.slice z lo hi = ⟨((z.cps.toList.drop (HT.sIx z.cps.toList.length 0 lo)).take (HT.sIx z.cps.toList.length z.cps.toList.length hi - HT.sIx z.cps.toList.length 0 lo)).toArray⟩:=by
 have hl:z.cps.toList.length = z.length:=Array.length_toList;rw [hl];have hp:(Builtin.Str.strSliceIndices lo hi 1 z.length).filterMap (z.cps[·]?) = (z.cps.toList.drop (HT.sIx z.length 0 lo)).take (HT.sIx z.length z.length hi - HT.sIx z.length 0 lo):=by
  rw [slice_ix];have:=picks' z.cps.toList (HT.sIx z.length z.length hi - HT.sIx z.length 0 lo) (HT.sIx z.length 0 lo)
  simpa using this
 unfold Txt.slice;split
 ·rename_i h;rw [slice_ix] at h;simp at h;have h2:=HT.sIx_le z.length z.length (Nat.le_refl _) hi;have h3:=HT.sIx_le z.length 0 (Nat.zero_le _) lo;have a0:HT.sIx z.length 0 lo = 0:=by lia
  have b0:HT.sIx z.length z.length hi = z.length:=by lia
  rw [a0,b0,List.drop_zero,Nat.sub_zero,<- hl,List.take_length]
 ·rw [hp]
def cutS (z:Str) (lo hi:Option Int):Str:=⟨(cutG z.cps.toList lo hi).toArray⟩
theorem slice_cut (z:Str) (lo hi:Option Int):Txt.slice z lo hi = cutS z lo hi:=slice_cut0 z lo hi
def rSlS:V -> Option Int -> Option Int -> Hp -> VK -> Prop:=fun x lo hi H Q => ∃ z,x = .str z /\ z.length <= sizeLine /\ Q (.str (cutS z lo hi)) H
theorem sl_str {X:Cx}:SlR X rSlS:=by
 intro pins s σ H x v vl vu lo hi sl Q I rx hs pl pu h;obtain ⟨z,rfl,hz,q⟩:=h;rw [<- slice_cut] at q;obtain ⟨t,rfl⟩:=rx;refine ⟨"str",_,PySem.F.slot_str_getitem.lookup,typeIs_str _ _ _,?_⟩
 cases pl <;> cases pu
 ·exact wpAny_getItem_str_slice (l:=none) (u:=none) (st:=none) hs rfl (post_val_or_str ⟨Nat.le_trans (Txt.slice_le z _ _) hz,fun t' k => ⟨.str _,H,I.tok _,⟨_,rfl⟩,q⟩⟩)
 ·exact wpAny_getItem_str_slice (l:=none) (u:=some (_,_)) (st:=none) hs rfl (post_val_or_str ⟨Nat.le_trans (Txt.slice_le z _ _) hz,fun t' k => ⟨.str _,H,I.tok _,⟨_,rfl⟩,q⟩⟩)
 ·exact wpAny_getItem_str_slice (l:=some (_,_)) (u:=none) (st:=none) hs rfl (post_val_or_str ⟨Nat.le_trans (Txt.slice_le z _ _) hz,fun t' k => ⟨.str _,H,I.tok _,⟨_,rfl⟩,q⟩⟩)
 ·exact wpAny_getItem_str_slice (l:=some (_,_)) (u:=some (_,_)) (st:=none) hs rfl (post_val_or_str ⟨Nat.le_trans (Txt.slice_le z _ _) hz,fun t' k => ⟨.str _,H,I.tok _,⟨_,rfl⟩,q⟩⟩)
section
variable {X:Cx} {e elt tg iter:Expr} {ifs:List Expr} {ue:UE} {ut:UT} {ui:UI} {pos pos' p2:Pos} {x:Str} {osc scope:Scope} {ON own N:List Str}
end
end Y
namespace A
end A
namespace Y
def startsAt (z y:Str) (i:Int):Bool:=decide (fromIndex z.length i + y.length <= z.length) && Builtin.Str.subAt z y (fromIndex z.length i)
def rStartsF:V -> List V -> Hp -> VK -> Prop:=fun x vs H Q => ∃ z y i,x = .str z /\ vs = [.str y,.int i] /\ Q (.bl (startsAt z y i)) H
theorem mt_startsF {X:Cx}:MtR X "str.startswith" rStartsF:=by
 intro pins s σ H x xs v us Q I rx rs h;obtain ⟨z,y,i,rfl,rfl,q⟩:=h;obtain ⟨t,rfl⟩:=rx;obtain ⟨_,_,rfl,r1,rs⟩:=Paired.consL rs;obtain ⟨_,_,rfl,r2,rs⟩:=Paired.consL rs;obtain rfl:=Paired.nilL rs;obtain ⟨u1,rfl⟩:=r1;obtain ⟨u2,rfl⟩:=r2;exact call_gives PySem.F.slot_str_startswith (typeIs_str _ _ _) PySem.F.entry_str_startswith (PySem.F.args_str_startswith_3 _ _ _) (gives_str_startswith_from z y i t _ _) ⟨.bl _,H,I,rfl,q⟩
end Y
namespace A
end A
section
variable {h:Heap} {e:Addr} {cls:Value} {d:Option Addr} {base:Heap} {l:List Env}
end
section
variable {M:Model} {A:Around} {E:Value -> Shared -> Prop} {s:Shared} {env:Env} {outer:List Env} {L e:Addr} {cls:Value} {d:Option Addr} {base:Heap}
end
section
variable {X:Cx} {pins:List (Addr × Obj)} {σ:St} {H H':Hp} {s:Shared} {h':Heap}
end
section
variable {X:Cx}
end
abbrev Xw:=T -> Mu -> Prop
abbrev UX:=Mu -> (R -> Mu -> Prop) -> Xw -> Prop
abbrev UXS:=Ed -> Xw -> Mu -> Prop
namespace Y
section
variable {X:Cx} {a b c e o tg:Expr} {es rest:List Expr} {ua ub uc ue uo:UE} {uA uB:UT} {us:UA} {pos pos' p p2 p3:Pos} {x:Str} {st:Stmt} {sts xs ys:List Stmt} {u w:US} {ux:UX} {uxs wxs:UXS}
end
end Y
namespace Y
end Y
def CodeOf (K:PySem.W.Frag) (mg:Str -> Option Value) (x:Str) (f:Addr) (cdv:Value):Prop:=mg x = some (.ref f) /\ ∃ (o:Obj) (fd:FuncData),K.lookup f = some o /\ o.data = .func fd /\ fd.code = cdv
section
variable {X:Cx} {pins pins':List (Addr × Obj)} {σ:St} {H:Hp} {s:Shared} {E:Value -> Shared -> Prop} {e:Addr}
end
namespace Y
end Y
abbrev UJ:=Mu -> (Mu -> Prop) -> Prop
namespace Y
section
variable {X:Cx} {e:Expr} {vs:List Expr} {ue:UE} {u:UJ} {pos p:Pos}
end
end Y
namespace A
end A
namespace Y
end Y
namespace A
end A
section
variable {X:Cx} {pins:List (Addr × Obj)} {σ:St} {H:Hp} {s:Shared} {B:AP'}
end
namespace Y
end Y
namespace Y
end Y
namespace Y
end Y
namespace A
end A
namespace Y
end Y
namespace A
end A
section
variable {prog:Program} {w:World} {A:Around} {E:Value -> Shared -> Prop} {s:Shared} {K:PySem.W.Frag} {x C:Addr} {ox:Obj}
end
section
variable {X:Cx}
end
namespace Y
section
variable {X:Cx} {a:Expr} {es:List Expr} {ua:UE} {pos p p3:Pos} {x:Str}
end
end Y
section
variable {X:Cx} {pins:List (Addr × Obj)} {σ:St} {H:Hp} {s:Shared}
end
namespace Y
end Y
namespace A
end A
section
variable {prog:Program} {w:World} {A:Around} {E:Value -> Shared -> Prop} {s:Shared} {K:PySem.W.Frag} {x C:Addr} {ox:Obj} {od:Option Obj}
end
section
variable {prog:Program} {w:World} {A:Around} {E:Value -> Shared -> Prop} {s:Shared} {K:PySem.W.Frag} {C S f:Addr} {name:Str}
end
section
variable {fs ex:List Addr} {H:Hp} {h h':Heap} {e d:Addr} {φ ψ:Heap -> Prop}
end
section
variable {X:Cx} {C S f:Addr} {name:Str}
end
section
variable {X:Cx} {pins:List (Addr × Obj)} {σ:St} {H:Hp} {s:Shared} {C S f:Addr} {name:Str}
end
section
variable {X:Cx} {C S f:Addr} {name:Str}
end
namespace Y
section
variable {X:Cx} {C S f:Addr} {name x:Str} {e:Expr} {ue:UE} {p pos cpos:Pos}
end
end Y
section
variable {X:Cx}
end
namespace Y
section
variable {X:Cx} {a:Expr} {es:List Expr} {ua:UE} {pos p p3:Pos} {x:Str}
end
end Y
namespace A
end A
theorem strs_its:∀ {ws:List Str} {its:List Value},Vals (ws.map V.str) its -> ∀ (m:Nat) (y:Str),ws[m]? = some y -> ∃ t,its[m]? = some (.str y t):=fun r m y e => by
 obtain ⟨u,h1,h2⟩:=r.get (i:=m) (x:=V.str y) (by rw [List.getElem?_map,e];rfl)
 obtain ⟨t,rfl⟩:=(show RelV (.str y) u from h2);exact ⟨t,h1⟩
namespace Y
end Y
namespace A
end A
open Builtin Builtin.Str
namespace Y
end Y
def Its (z:Str):It:=⟨fun i _ => i < z.cps.size,fun i H x H' => H' = H /\ ∃ c,z.cps[i]? = some c /\ x = .str ⟨#[c]⟩,fun i _ => z.cps.size <= i⟩
theorem turn_strA {P:Program} {w:World} {K:PySem.W.Frag} {tg:Expr} (z:Str) (t:Tok) (it:Addr):Turn P w K tg (Its z) [it] it (fun i h => h.IsStrIter it "str_ascii_iterator" z t i) where
 mem:=by simp
 obj:=fun i h st b hb => by
  have e:b = it:=by simpa using hb
  subst e;obtain ⟨o,e,c,d⟩:=st;exact ⟨o,e,fun v z => by rw [d] at z;cases z⟩
 keep:=fun i h h' st k => let ⟨o,e,r⟩:=st;⟨o,k it (by simp) o e,r⟩
 item:=by
  intro X hP hw hK hc i pins s σ H E I hf st hg;subst hP hw hK;obtain ⟨f0,f1,f2,f3,f4,f5⟩:=hf it (by simp)
  have hi:i < z.cps.size:=hg;refine wpAny_pyNext_ascii_item st (c:=z.cps[i]) (by simp [hi]) fun h' st' sb => ?_
  have I1:Inv X pins σ H { s with heap:=h',toks:=s.toks + 1 }:=I.turned (t':=s.toks + 1) (fun b o hb e => (sb.2 b hb).trans e) f0 f1 f3 f4 f5
  obtain ⟨o,e,c,d⟩:=id st';exact ⟨_,rfl,go_of (s:={ s with heap:=h',toks:=s.toks + 1 }) e c d (by decide) ⟨.str ⟨#[z.cps[i]]⟩,H,I1,⟨_,rfl⟩,⟨rfl,_,by simp [hi],rfl⟩,st',fun b hb => (hf b hb).1⟩⟩
 done:=by
  intro X hP hw hK hc i pins s σ H E I hf st hg;subst hP hw hK;obtain ⟨f0,f1,f2,f3,f4,f5⟩:=hf it (by simp)
  have hi:z.cps.size <= i:=hg;exact wpAny_pyNext_ascii_end (I.ok.hd hc) st (by simpa using hi) fun h' eb => ⟨rfl,I.turned (t':=s.toks) (fun b o hb e => eb b o hb e) f0 f1 f3 f4 f5⟩
 self:=fun _ _ _ _ _ st h => wpAny_pyIter_striter_ascii st h
theorem turn_strW {P:Program} {w:World} {K:PySem.W.Frag} {tg:Expr} (z:Str) (t:Tok) (it:Addr):Turn P w K tg (Its z) [it] it (fun i h => h.IsStrIter it "str_iterator" z t i) where
 mem:=by simp
 obj:=fun i h st b hb => by
  have e:b = it:=by simpa using hb
  subst e;obtain ⟨o,e,c,d⟩:=st;exact ⟨o,e,fun v z => by rw [d] at z;cases z⟩
 keep:=fun i h h' st k => let ⟨o,e,r⟩:=st;⟨o,k it (by simp) o e,r⟩
 item:=by
  intro X hP hw hK hc i pins s σ H E I hf st hg;subst hP hw hK;obtain ⟨f0,f1,f2,f3,f4,f5⟩:=hf it (by simp)
  have hi:i < z.cps.size:=hg;refine wpAny_pyNext_wide_item st (c:=z.cps[i]) (by simp [hi]) fun h' st' sb => ?_
  have I1:Inv X pins σ H { s with heap:=h',toks:=s.toks + 1 }:=I.turned (t':=s.toks + 1) (fun b o hb e => (sb.2 b hb).trans e) f0 f1 f3 f4 f5
  obtain ⟨o,e,c,d⟩:=id st';exact ⟨_,rfl,go_of (s:={ s with heap:=h',toks:=s.toks + 1 }) e c d (by decide) ⟨.str ⟨#[z.cps[i]]⟩,H,I1,⟨_,rfl⟩,⟨rfl,_,by simp [hi],rfl⟩,st',fun b hb => (hf b hb).1⟩⟩
 done:=by
  intro X hP hw hK hc i pins s σ H E I hf st hg;subst hP hw hK;obtain ⟨f0,f1,f2,f3,f4,f5⟩:=hf it (by simp)
  have hi:z.cps.size <= i:=hg;exact wpAny_pyNext_wide_end (I.ok.hd hc) st (by simpa using hi) fun h' eb => ⟨rfl,I.turned (t':=s.toks) (fun b o hb e => eb b o hb e) f0 f1 f3 f4 f5⟩
 self:=fun _ _ _ _ _ st h => wpAny_pyIter_striter_wide st h
def iStr (tl:TE):TI:=fun σ H R => tl σ H fun x H1 => ∃ z,x = V.str z /\ R (Its z) H1
theorem pi_str {X:Cx} {tg l:Expr} {tl:TE} (hl:PE X l tl):PI X tg l (iStr tl):=by
 intro pins s σ H R I h;refine thn (hl pins s σ H _ I h) fun v s1 hq1 => ?_;obtain ⟨x,H1,I1,r1,q1⟩:=hq1;obtain ⟨z,rfl,q⟩:=q1;obtain ⟨t,rfl⟩:=r1;have fr:∀ b ∈ [s1.heap.objs.size],FpOk X pins H1 b:=fun b hb => by
  have e:b = s1.heap.objs.size:=by simpa using hb
  subst e;exact I1.fpOk (Nat.le_refl _) (I1.hok.fresh (Nat.le_refl _))
 cases ha:z.cps.all (· < 128)
 ·refine wpAny_pyIter_wide ha ?_;exact ⟨s1.heap.objs.size,[s1.heap.objs.size],_,_,H1,rfl,I1.kept (t':=s1.toks) fun b o e => Heap.get?_push_of_some _ e,turn_strW z t _,⟨_,Heap.get?_push_size _ rfl,rfl,rfl⟩,fr,q⟩
 ·refine wpAny_pyIter_ascii ha ?_;exact ⟨s1.heap.objs.size,[s1.heap.objs.size],_,_,H1,rfl,I1.kept (t':=s1.toks) fun b o e => Heap.get?_push_of_some _ e,turn_strA z t _,⟨_,Heap.get?_push_size _ rfl,rfl,rfl⟩,fr,q⟩
namespace Y
end Y
namespace A
end A
end L2
namespace L2
open PySem PySem.Spec PyProof PyProof.Rows
def IteL (K:PySem.W.Frag) (a:Addr):It :=
 ⟨fun i H => ∃ x,getL K a i H x,fun i H x H' => ∃ p y,(∀ xs,SqL K H a xs -> xs[i]? = some y) /\ H p = none /\ x = .ref p /\ H' = upd H p (.tup [.int i,y]),endL K a⟩
theorem turn_enumL {P:Program} {w:World} {K:PySem.W.Frag} {es:List Expr} {tk:Nat} {tp:Pos} (a it e:Addr) (hne:e ≠ it):Turn P w K (.Tuple es tk tp) (IteL K a) [e,it] e (fun i h => (∃ old,IsEnum h e it i old) /\ h.IsListIter it a i) where
 mem:=by simp
 obj:=fun i h st b hb => by
  obtain ⟨⟨old,he⟩,o,eo,c,d⟩:=st;rcases List.mem_cons.mp hb with z | z
  ·subst z;exact ⟨_,he,fun v z => by cases z⟩
  ·have z:b = it:=by simpa using z
   subst z;exact ⟨o,eo,fun v z => by rw [d] at z;cases z⟩
 keep:=fun i h h' st k => by
  obtain ⟨⟨old,he⟩,o,eo,r⟩:=st;exact ⟨⟨old,k e (by simp) _ he⟩,o,k it (by simp) o eo,r⟩
 item:=by
  intro X hP hw hK hc i pins s σ H E I hf st hg;subst hP hw hK;obtain ⟨x,xs,hq,hx⟩:=hg;obtain ⟨⟨old,he⟩,hit⟩:=st;obtain ⟨its,rv,p,hz⟩:=I.list hq;obtain ⟨u,hu,ru⟩:=rv.get hx;obtain ⟨g0,g1,g2,g3,g4,g5⟩:=hf e (by simp)
  obtain ⟨f0,f1,f2,f3,f4,f5⟩:=hf it (by simp)
  have ht:s.heap.IsList a its.toArray:=p.isList;have ha:a ≠ it:=by
   rintro rfl;obtain ⟨o,e1,c1,_⟩:=hit;obtain ⟨o',e2,c2,_⟩:=ht;rw [e1] at e2;cases e2;rw [c1] at c2;exact absurd (Value.type.inj c2) (by decide)
  have hea:e ≠ a:=by
   rintro rfl;obtain ⟨o',e2,c2,_⟩:=ht;have e1:s.heap.get? e = some _:=he;rw [e1] at e2;cases e2;exact absurd (Value.type.inj c2) (by decide)
  have hi:i < its.toArray.size:=by
   have:=(List.getElem?_eq_some_iff.mp hu).1
   simpa using this
  refine wpAny_pyNext_enum_itemD (Draws.list (A:=X.A.in1) (I.ok.hd hc) it a ha its.toArray) he ⟨hit,ht⟩ hi hne (by simp [hne,hea]) fun x' h' tk' hP ho hs' hT hsz hk => ?_
  have ex:x' = u:=by
   have hP':its.toArray[i]? = some x':=hP;rw [List.getElem?_toArray,hu] at hP';exact (Option.some.inj hP').symm
  subst ex;refine ⟨.ref s.heap.objs.size,rfl,wpAny_letOwnedTupleGo_enum ho fun h2 he2 hs2 => ?_⟩;have fr:H s.heap.objs.size = none:=I.hok.fresh (Nat.le_refl _);have hle:e ≠ s.heap.objs.size:=Nat.ne_of_lt (Heap.lt_size he);have hT2:h2.get? s.heap.objs.size = some { cls:=.type "tuple",data:=.seq #[.int i tk',x'] }:=(hs2.2 _ (Ne.symm hle)).trans hT;have I2:Inv X pins σ (upd H s.heap.objs.size (.tup [.int i,x])) { s with heap:=h2,toks:=tk' + 1 }:=by
   refine I.turnNew (fp:=[e,it]) hf (Nat.le_refl _) (fun b o hb eb => ?_) ⟨by show 2 <= sizeLine;decide,[.int i tk',x'],.cons ⟨_,rfl⟩ (.cons ru .nil),⟨_,hT2,rfl,_,rfl,rfl⟩⟩
   have n1:b ≠ e:=fun z => hb (by simp [z])
   have n2:b ≠ it:=fun z => hb (by simp [z])
   exact (hs2.2 b n1).trans (hk b o n1 n2 eb)
  refine ⟨.ref s.heap.objs.size,_,I2,rfl,⟨s.heap.objs.size,x,fun ys hy => by rw [I.list_inj hy hq];exact hx,fr,rfl,rfl⟩,⟨⟨x',?_⟩,?_⟩,fun b hb => ?_⟩
  ·have e:(((i + 1:Nat)):Int) = (i:Int) + 1:=by lia
   rw [e];exact he2
  ·obtain ⟨o,e1,r⟩:=hs'.1;exact ⟨o,(hs2.2 it (Ne.symm hne)).trans e1,r⟩
  ·have n:b ≠ s.heap.objs.size:=by
    rcases List.mem_cons.mp hb with z | z
    ·subst z;exact hle
    ·have z:b = it:=by simpa using z
     subst z;obtain ⟨o,e1,_⟩:=hit;exact Nat.ne_of_lt (Heap.lt_size e1)
   rw [upd_ne n];exact (hf b hb).1
 done:=by
  intro X hP hw hK hc i pins s σ H E I hf st hg;subst hP hw hK;obtain ⟨xs,hq,hx⟩:=hg;obtain ⟨⟨old,he⟩,hit⟩:=st;obtain ⟨its,rv,p,hz⟩:=I.list hq;have ht:s.heap.IsList a its.toArray:=p.isList;have ha:a ≠ it:=by
   rintro rfl;obtain ⟨o,e1,c1,_⟩:=hit;obtain ⟨o',e2,c2,_⟩:=ht;rw [e1] at e2;cases e2;rw [c1] at c2;exact absurd (Value.type.inj c2) (by decide)
  have hl:=rv.length;have hsz:its.toArray.size = i:=by simp;lia
  refine wpAny_pyNext_enum_endD (Draws.list (A:=X.A.in1) (I.ok.hd hc) it a ha its.toArray) he (by rw [hsz];exact ⟨hit,ht⟩) fun h' eb => ⟨rfl,?_⟩
  exact I.turns (t':=s.toks) hf fun b o hb e1 => eb b o (fun z => hb (by simp [z])) e1
 self:=fun A i s Q E st h => by
  obtain ⟨⟨old,he⟩,_⟩:=st;exact wpAny_pyIter_enum he h
section
variable {X:Cx} {es:List Expr} {tk:Nat} {tp:Pos}
def iEnumL (K:PySem.W.Frag) (ta:TA):TI:=fun σ H R => ta σ H fun vs H1 => ∃ a,vs = [.ref a] /\ (∃ xs,SqL K H1 a xs) /\ R (IteL K a) H1
theorem pi_enumL {e:Expr} {ta:TA} {p pos:Pos} (hg:Gl X "enumerate") (hm:X.mg "enumerate" = none) (ha:PA X [e] ta) (h1:nst e = true:=by rfl) (hv:bootBuiltins "enumerate" = some (.type "enumerate"):=by decide +kernel) :
  PI X (.Tuple es tk tp) (.Call (.Name "enumerate" p) [e] [] pos) (iEnumL X.K ta):=by
 intro pins s σ H R I h;refine Call_ (ld_blt I hg hm hv (PyProof.Rows.callWith_type1 (thn (ha pos pins s σ H _ I h) fun us s1 hq1 => ?_) (star1 h1) rfl));obtain ⟨vs,H1,I1,r1,q1⟩:=hq1;obtain ⟨a,e,⟨xs,hq⟩,q⟩:=q1;subst e;obtain ⟨u,rfl,ru⟩:=vals1 r1;cases ru;obtain ⟨its,rv,pt,hz⟩:=I1.list hq;refine call_enumerate_list pt.isList fun h' he hit hsz hk => ?_;refine wpAny_pyIter_enum he ?_;have I2:Inv X pins σ H1 { s1 with heap:=h' }:=I1.kept (t':=s1.toks) hk
 refine ⟨s1.heap.objs.size + 1,[s1.heap.objs.size + 1,s1.heap.objs.size],_,_,H1,rfl,I2,turn_enumL a s1.heap.objs.size (s1.heap.objs.size + 1) (Nat.ne_of_gt (Nat.lt_succ_self _)),⟨⟨_,he⟩,hit⟩,fun b hb => ?_,q⟩;have hb':s1.heap.objs.size <= b:=by
  rcases List.mem_cons.mp hb with z | z
  ·rw [z];exact Nat.le_succ _
  ·have z:b = s1.heap.objs.size:=by simpa using z
   rw [z];exact Nat.le_refl _
 exact I1.fpOk hb' (I1.hok.fresh hb')
end
namespace Y
end Y
namespace A
end A
def KRow (K:PySem.W.Frag) (ws:List Str) (v:Value):Prop:=∃ p,v = .ref p /\ KTp K p (ws.map V.str)
structure KDic (K:PySem.W.Frag) (a:Addr) (D:List (Str × List Str)):Prop where
 low:(a == sysModules) = false
 ex:∃ o es ep,K.lookup a = some o /\ o.ExactDict /\ o.data = .dict es ep /\ KTD.Rows (KRow K) es.toList D
section
variable {prog:Program} {w:World} {A:Around} {E:Value -> Shared -> Prop} {s:Shared} {K:PySem.W.Frag} {a:Addr} {D:List (Str × List Str)} {k:Str} {tk:Tok}
theorem KDic.typeIs (T:KDic K a D) (X:K.In s.heap):s.TypeIs (.ref a) "dict":=let ⟨o,_,_,ho,hc,_⟩:=T.ex;⟨o,X _ _ ho,hc.1⟩
theorem kdic_get {Q:Option Value -> Shared -> Prop} (T:KDic K a D) (X:K.In s.heap) (h1:∀ d v,KTD.datumAt k D = some d -> KRow K d v -> Q (some v) { s with toks:=s.toks + 1 }) (h2:KTD.datumAt k D = none -> Q none { s with toks:=s.toks + 1 }) :
  wpAny (model prog w) A (dictGet a (.str k tk)) Q E s:=by
 obtain ⟨o,es,ep,ho,hc,hd,hr⟩:=T.ex;have ho:=X _ _ ho;unfold dictGet
 try with_reducible refine wpAny_holding ?_
 refine wpAny_bind (wpAny_pyHash_str (wpAny_bind (KTD.kt_dictFind_strs (s:={ s with toks:=s.toks + 1 }) ho hd (by obtain ⟨l⟩:=es;simpa using hr.exact) ?_)))
 have hq:Q (findBy (fun k v => v.isStr k) es k) { s with toks:=s.toks + 1 }:=by
  have hf:findBy (fun k v => v.isStr k) es k = (es.toList.find? fun e => e.key.isStr k).map (·.val):=by
   obtain ⟨l⟩:=es;simp [findBy]
  rw [hf]
  cases hat:KTD.datumAt k D with
  | some d => obtain ⟨v,hv,hfl⟩:=hr.find_some hat;rw [hv];exact h1 d v hat hfl
  | none => rw [hr.find_none hat];exact h2 hat
 rw [findBy_of_findIdx?] at hq
 cases hi:es.findIdx? fun e => e.key.isStr k with
 | none => rw [hi] at hq;exact wpAny_pure hq
 | some i => rw [hi] at hq;exact wpAny_bind (wpAny_dictEntries (s:={ s with toks:=s.toks + 1 }) ho hd (wpAny_pure hq))
end
namespace Y
end Y
namespace A
end A
namespace Y
section
variable {prog:Program} {w:World} {A:Around} {E:Value -> Shared -> Prop} {s:Shared}
end
end Y
namespace A
end A
namespace Y
end Y
namespace A
end A
namespace Y
def rInD' (neg:Bool):R2:=fun x y H Q => ∃ a o,y = .ref a /\ DGet H a x o /\ Q (.bl (if neg then !o.isSome else o.isSome)) H
theorem op_inDc {X:Cx} (hu:X.A.units + 1 < cLine):OpR X (compareOp .In) (rInD' false):=by
 intro pins s σ H x y v u Q I rx ry h;obtain ⟨a,o,rfl,g,q⟩:=h;obtain rfl:u = Value.ref a:=ry;exact d_in hu I g rx fun s' I' => ⟨.bl o.isSome,H,I',rfl,q⟩
theorem merge_new:∀ (more kvs:List (Key × V)),((kvs ++ more).map (·.1)).Nodup -> mergeK kvs more = kvs ++ more
 | [],kvs,_ => by rw [List.append_nil];rfl
 | p :: r,kvs,h => by
  have hn:valV kvs p.1 = none:=by
   cases hv:valV kvs p.1 with
   | none => rfl
   | some v =>
    have hm:=valV_in hv;rw [List.map_append,List.map_cons] at h;have:=List.nodup_append.mp h;exact absurd rfl (this.2.2 _ hm _ List.mem_cons_self)
  show mergeK (putK kvs p.1 p.2) r = _;rw [putK_new p.2 hn,merge_new r _ (by rw [List.append_assoc];exact h),List.append_assoc]
  rfl
end Y
namespace A
end A
section
variable {prog:Program} {w:World} {A:Around} {E:Value -> Shared -> Prop} {s:Shared}
end
section
variable {X:Cx} {es:List Expr} {tk:Nat} {tp:Pos}
end
namespace Y
end Y
def insL {α:Type} (xs:List α) (i:Nat) (y:α):List α:=xs.take i ++ y :: xs.drop i
def rInsert:V -> List V -> Hp -> VK -> Prop:=fun x vs H Q => ∃ l xs i y,x = .ref l /\ vs = [.int i,y] /\ H l = some (.lst xs) /\ 0 <= i /\ i < 2 ^ 63 /\ xs.length < sizeLine /\ Q .non (upd H l (.lst (insL xs (min i.toNat xs.length) y)))
theorem mt_insert {X:Cx}:MtM X "list.insert" rInsert:=by
 intro pins s σ H x vs v us Q I rx rv h;obtain ⟨l,xs,i,y,rfl,rfl,hH,h0,h1,hz,q⟩:=h;cases rx;obtain ⟨u,w',rfl,⟨t,rfl⟩,rw'⟩:=vals2 rv;obtain ⟨z,its,n,r,hl,e⟩:=I.lstM hH;have hfit:¬ (!Builtin.List.listFitsIndex i) = true:=by
  have:=fitsIndex_both (k:=i) (by lia) h1
  rw [this];exact Bool.false_ne_true
 refine call_meets F.slot_list_insert ⟨_,e,rfl⟩ F.entry_list_insert (F.args_list_insert_3 _ _ _) (AutoSeq1.list_insert_list_int_val_1 l its.toArray n i t w' hfit (by rw [List.size_toArray];lia)) ⟨e,?_⟩
 have el:its.length = xs.length:=hl.symm;refine ⟨.non,_,I.lset (its':=insL its (min i.toNat its.length) w') hH e ?_ ?_ ?_,rfl,q⟩
 ·show (have k:=if i < 0 then _ else min i.toNat its.toArray.size;(its.toArray.extract 0 k).push w' ++ its.toArray.extract k) = _
  rw [if_neg (by lia)]
  apply Array.toList_inj.mp;unfold insL;simp [List.extract_eq_take_drop,List.take_of_length_le]
 ·rw [el];unfold insL;exact (r.take _).append (.cons rw' (r.drop _))
 ·unfold insL;rw [List.length_append,List.length_cons,List.length_take,List.length_drop];lia
namespace Y
end Y
namespace A
end A
open Builtin Builtin.Str
section
variable {prog:Program} {w:World} {A:Around} {E:Value -> Shared -> Prop} {s:Shared} {x y:Str} {t u:Tok}
end
section
variable {X:Cx}
end
namespace Y
end Y
namespace A
end A
end L2
namespace L2
open PySem PySem.Spec PyProof PyProof.Rows
namespace Y
end Y
namespace A3
end A3
open Builtin Builtin.Str
section
variable {prog:Program} {w:World} {A:Around} {E:Value -> Shared -> Prop} {h:Heap} {g:Array GenState} {d:Drawn} {t:Nat} {os:OsState} {a:Addr} {items:Array Value} {cn:Nat}
theorem dl_keys:typeLookup (.type "list") "keys" = pure none:=am_miss_of_fast (by kernel_rfl)
theorem dl_getattr:typeLookup (.type "list") "__getattr__" = pure none:=by rw [typeLookup_type,builtinLookup_eq_fast];kernel_rfl
theorem dl_entry {name:Str} {tk:Tok} {Q:Fin -> Shared -> Prop} (hx:h.get? a = some { cls:=.type "list",dict:=none,data:=.seq items cn,slots:=#[] }) (hmiss:typeLookup (.type "list") name = pure none) (hnc:(["__module__","__name__","__qualname__","__doc__","__annotations__"]:List Str).contains name = false) (hh:A.handled = none)
  (hq:∀ h' tk' e,Heap.NewAttrErr h h' e (.ref a) name -> E (.ref e) ⟨h',g,d,tk',os⟩) (hsz:name.length + 100 <= sizeLine:=by size_fits) :
  wpAny (model prog w) A (Builtin.«object.__getattribute__» ⟨[.ref a,.str name tk],[]⟩) Q E ⟨h,g,d,t,os⟩:=by
 have hT:(⟨h,g,d,t,os⟩:Shared).TypeIs (.ref a) "list":=⟨_,hx,rfl⟩;unfold Builtin.«object.__getattribute__»
 repeat (any_goals (first | assumption | wp_step))
 rw [if_neg (by rw [hnc];decide)]
 repeat (any_goals (first | assumption | wp_step))
 exact wpAny_raiseAttrError hh hq (attrMsg_fits (by decide +kernel) hsz)
theorem dl_call {name:Str} {tk:Tok} {R:Result -> Shared -> Prop} (hx:h.get? a = some { cls:=.type "list",dict:=none,data:=.seq items cn,slots:=#[] }) (hmiss:typeLookup (.type "list") name = pure none) (hnc:(["__module__","__name__","__qualname__","__doc__","__annotations__"]:List Str).contains name = false) (hh:A.handled = none)
  (hq:∀ h' tk' e,Heap.NewAttrErr h h' e (.ref a) name -> R (.error (.ref e)) ⟨h',g,d,tk',os⟩) (hsz:name.length + 100 <= sizeLine:=by size_fits) :
  codeAny (model prog w) A (.call (.builtin "list.__getattribute__") ⟨[.ref a,.str name tk],[]⟩) R ⟨h,g,d,t,os⟩ :=
 codeAny_call_builtin F.slot_list_getattribute.plain F.entry_list_ga (F.slot_list_getattribute.check _ _ _ _ _ _ _ _ (show (⟨h,g,d,t,os⟩:Shared).TypeIs (.ref a) "list" from ⟨_,hx,rfl⟩) (F.args_list_getattribute_2 _ _) (dl_entry hx hmiss hnc hh hq hsz))
theorem dl_by {name:Str} {tk:Tok} {Q:Value -> Shared -> Prop} (hx:h.get? a = some { cls:=.type "list",dict:=none,data:=.seq items cn,slots:=#[] }) (hmiss:typeLookup (.type "list") name = pure none) (hnc:(["__module__","__name__","__qualname__","__doc__","__annotations__"]:List Str).contains name = false) (hh:A.handled = none)
  (hq:∀ h' tk' e,Heap.NewAttrErr h h' e (.ref a) name -> E (.ref e) ⟨h',g,d,tk',os⟩) (hsz:name.length + 100 <= sizeLine:=by size_fits) :
  wpAny (model prog w) A (getAttrBy (.ref a) (.str name tk) false) Q E ⟨h,g,d,t,os⟩:=by
 have hT:(⟨h,g,d,t,os⟩:Shared).TypeIs (.ref a) "list":=⟨_,hx,rfl⟩;have f1:=sub_AttributeError;have f2:=F.slot_list_getattribute.lookup;have f3:=F.slot_list_getattribute.bind (.ref a);have f5:=dl_getattr
 repeat (any_goals (first | assumption | wp_step))
 refine dl_call hx hmiss hnc hh (fun h' tk' e x => ?_) hsz;obtain ⟨t',u',he⟩:=x.there;show wpAny _ _ (getattributeRaised _ _ _ _ _ _ _) _ _ _;unfold getattributeRaised
 repeat (any_goals (first | assumption | wp_step))
 exact hq _ _ _ x
theorem dl_none {name:Str} {Q:Option Value -> Shared -> Prop} (hx:h.get? a = some { cls:=.type "list",dict:=none,data:=.seq items cn,slots:=#[] }) (hmiss:typeLookup (.type "list") name = pure none) (hnc:(["__module__","__name__","__qualname__","__doc__","__annotations__"]:List Str).contains name = false) (hh:A.handled = none)
  (hq:∀ h' tk',(∀ b o,h.get? b = some o -> h'.get? b = some o) -> Q none ⟨h',g,d,tk',os⟩) (hsz:name.length + 100 <= sizeLine:=by size_fits) :
  wpAny (model prog w) A (getAttr? (.ref a) name) Q E ⟨h,g,d,t,os⟩:=by
 have f1:=sub_AttributeError;unfold getAttr? getAttrBy?;refine wpAny_bind (wpAny_mkText (wpAny_bind (wpAny_attempt (dl_by hx hmiss hnc hh (fun h' tk' e x => ?_) hsz))));obtain ⟨t',u',he⟩:=x.there;have k:=x.keeps
 repeat (any_goals (first | assumption | wp_step))
 exact hq _ _ x.keeps
end
section
variable {prog:Program} {w:World} {K:Type} [DecidableEq K] {knd:KeyKind prog w K} {A:Around} {R:Result -> Shared -> Prop}
theorem dl_plain:plainId "dict.update.loop" = true:=by decide +kernel
theorem dl_entry_loop:entryFor table "dict.update.loop" = some Builtin.«dict.update.loop»:=entryFor_of_fast (by kernel_rfl)
theorem stored_len (kvs:List (K × Value)) (k:K) (v:Value):(stored kvs k v).length <= kvs.length + 1:=by
 unfold stored;split
 ·rw [List.length_map];lia
 ·rw [List.length_append];simp
theorem merged_len:∀ (more kvs:List (K × Value)),(merged kvs more).length <= kvs.length + more.length
 | [],kvs => by unfold merged;simp
 | p :: more,kvs => by
  have h1:=merged_len more (stored kvs p.1 p.2);have h2:=stored_len kvs p.1 p.2;have e:merged kvs (p :: more) = merged (stored kvs p.1 p.2) more:=rfl;rw [e,List.length_cons];lia
theorem dl_loop {it l dd:Addr} {items:Array Value} {more:List (K × Value)} (hh:A.handled = none) (hn:more.length = items.size) (h1:dd ≠ it) (h2:dd ≠ l) (h3:it ≠ l) (ps:Nat -> Addr) (hps:∀ i,i < items.size -> items[i]? = some (.ref (ps i)) /\ ps i ≠ it /\ ps i ≠ dd) (hsz:more.length <= 20000) :
  ∀ (k i:Nat) (s:Shared),items.size - i = k -> i <= items.size -> s.heap.IsListIter it l i -> s.heap.IsList l items -> s.heap.DictOf knd dd (merged [] (more.take i)) ->
  (∀ j,j < items.size -> ∃ key v,s.heap.IsTuple (ps j) #[key,v] /\ ∃ kk,more[j]? = some (kk,v) /\ knd.is kk key = true) ->
  (∀ h' tk,h'.DictOf knd dd (merged [] more) -> (∀ b o,b ≠ it -> b ≠ dd -> s.heap.get? b = some o -> h'.get? b = some o) -> R (.ok (.ret .none)) { s with heap:=h',toks:=tk }) ->
  codeAny (model prog w) A (.builtin "dict.update.loop" ⟨[.ref dd,.ref it,rawInt i,.none],[]⟩) R s:=by
 intro k
 induction k with
 | zero =>
  intro i s hk hi hit hl hd hp hR;have hin:i = items.size:=by lia
  subst hin;refine codeAny_builtin dl_entry_loop ?_;rw [Around.under_plainId dl_plain _];show wpAny _ A.in1 (pyNext (.ref it) >>= _) _ _ s;refine wpAny_bind (wpAny_pyNext_list_end hh hit hl (by simp) fun h' he => ?_)
  refine wpAny_bind (wpAny_pure (wpAny_pure ?_));refine hR h' s.toks ?_ fun b o b1 b2 e => he b o b1 e;rw [List.take_of_length_le (by lia)] at hd
  exact hd.extBut he h1
 | succ k ih =>
  intro i s hk hi hit hl hd hp hR;have hlt:i < items.size:=by lia
  refine codeAny_builtin dl_entry_loop ?_;rw [Around.under_plainId dl_plain _];show wpAny _ A.in1 (pyNext (.ref it) >>= _) _ _ s;obtain ⟨e1,e2,e3⟩:=hps i hlt;refine wpAny_bind (wpAny_pyNext_list_item hit hl e1 fun h' hit' hs' => ?_);obtain ⟨key,v,ht,kk,em,hkk⟩:=hp i hlt;have ht':h'.IsTuple (ps i) #[key,v]:=by obtain ⟨o,ho,r⟩:=ht;exact ⟨o,(hs'.2 _ e2).trans ho,r⟩
  have hd':h'.DictOf knd dd (merged [] (more.take i)):=by obtain ⟨o,es,ep,ho,r⟩:=hd;exact ⟨o,es,ep,(hs'.2 _ h1).trans ho,r⟩
  refine wpAny_bind (wpAny_holding (wpAny_bind (wpAny_tryCatch ?_)));unfold Dict.pairItems;refine wpAny_bind (wpAny_typeOf ht'.typeIs ?_);rw [if_pos (by decide)]
  obtain ⟨o,ho,hoc,nn,hod⟩:=id ht';refine wpAny_bind (wpAny_seqItems ho hod (wpAny_pure ?_));show wpAny _ A.in1 (holding [key,v] (dictSet dd key v)) _ _ _;refine wpAny_holding (wpAny_dictSet_pairs hkk hd' (fun h2' hd2 hs2 => ?_) ?_)
  rotate_left
  ·exact Nat.le_trans (merged_len _ _) (Nat.le_trans (by rw [List.length_nil,Nat.zero_add,List.length_take];exact Nat.le_trans (Nat.min_le_right _ _) hsz) (by decide))
  have et:merged [] (more.take (i + 1)) = stored (merged [] (more.take i)) kk v:=by
   have hlt':i < more.length:=by lia
   have:more[i] = (kk,v):=by rw [List.getElem?_eq_getElem hlt'] at em;exact Option.some.inj em
   rw [List.take_succ_eq_append_getElem hlt',this];unfold merged;rw [List.foldl_append];rfl
  refine wpAny_pure ⟨plainId_quiet dl_plain _,?_⟩;have:=ih (i + 1) { s with heap:=h2',toks:=s.toks + 1 } (by lia) hlt (by obtain ⟨o,ho,r⟩:=hit';exact ⟨o,(hs2.2 _ (Ne.symm h1)).trans ho,r⟩) (by obtain ⟨o,ho,r⟩:=hl;exact ⟨o,(hs2.2 _ (Ne.symm h2)).trans ((hs'.2 _ (Ne.symm h3)).trans ho),r⟩) (by rw [et];exact hd2) (fun j hj => by
   obtain ⟨key,v,⟨o,ho,r⟩,rr⟩:=hp j hj;obtain ⟨f1,f2,f3⟩:=hps j hj;exact ⟨key,v,⟨o,(hs2.2 _ f3).trans ((hs'.2 _ f2).trans ho),r⟩,rr⟩) (fun h3' tk hd3 hk3 => hR h3' tk hd3 fun b o b1 b2 e => hk3 b o b1 b2 ((hs2.2 _ b2).trans ((hs'.2 _ b1).trans e)))
  exact this
theorem call_dictP {E:Value -> Shared -> Prop} {s:Shared} {l:Addr} {items:Array Value} {cn:Nat} {more:List (K × Value)} {Q:Value -> Shared -> Prop} (hl:s.heap.get? l = some { cls:=.type "list",dict:=none,data:=.seq items cn,slots:=#[] }) (hh:A.handled = none) (hn:more.length = items.size) (hsz:more.length <= 20000)
  (ps:Nat -> Addr) (hps:∀ i,i < items.size -> items[i]? = some (.ref (ps i))) (hp:∀ j,j < items.size -> ∃ key v,s.heap.IsTuple (ps j) #[key,v] /\ ∃ kk,more[j]? = some (kk,v) /\ knd.is kk key = true)
  (h:∀ h' tk,h'.DictOf knd s.heap.objs.size (merged [] more) -> (∀ b o,s.heap.get? b = some o -> h'.get? b = some o) -> Q (.ref s.heap.objs.size) { s with heap:=h',toks:=tk }) :
  wpAny (model prog w) A (call (.type "dict") [.ref l]) Q E s:=by
 refine callType_codes (Q₁:=fun obj s₁ => obj = .ref s.heap.objs.size /\ s₁ = { s with heap:=s.heap.push { cls:=.type "dict",data:=.dict #[] } }) F.kt_called_dict (F.kt_typeCall_dict_1 _) F.entry_dict_init (kt_code_dict_new _ ⟨rfl,rfl⟩) ?_
 rintro obj s₁ ⟨rfl,rfl⟩;have hnew:(s.heap.push { cls:=.type "dict",data:=.dict #[] }).DictOf knd s.heap.objs.size []:=Heap.DictOf.new s.heap;refine ⟨hnew.typeIs,F.args_dict_init_2 _ _,?_⟩;unfold Builtin.«dict.__init__»;refine wpAny_bind ?_;unfold Builtin.Dict.selfAndRest;refine wpAny_bind (wpAny_notOrdered_dict hnew.typeIs ?_);show wpAny _ _ (pure (s.heap.objs.size,[Value.ref l])) _ _ _;refine wpAny_pure ?_;show wpAny _ _ (Builtin.Dict.updateFrom "dict.__init__" s.heap.objs.size (.ref l) [] .none) _ _ _;unfold Builtin.Dict.updateFrom;have hl1:(s.heap.push { cls:=.type "dict",data:=.dict #[] }).get? l = some { cls:=.type "list",dict:=none,data:=.seq items cn,slots:=#[] }:=Heap.get?_push_of_some _ hl;have hT:({ s with heap:=s.heap.push { cls:=.type "dict",data:=.dict #[] } }:Shared).TypeIs (.ref l) "list":=⟨_,hl1,rfl⟩
 refine wpAny_bind (wpAny_typeOf hT ?_);rw [if_pos (by decide)]
 refine wpAny_bind ?_;refine dl_none hl1 dl_keys (by decide +kernel) hh (fun h1 tk1 k1 => ?_)
 rw [if_pos (show (none:Option Value).isNone = true from rfl)];have hl2:h1.IsList l items:=⟨_,k1 _ _ hl1,rfl,cn,rfl⟩;have up:∀ b o,s.heap.get? b = some o -> h1.get? b = some o:=fun b o e => k1 b o (Heap.get?_push_of_some _ e);obtain ⟨od,es,ep,hod,hor⟩:=hnew;have hdl:s.heap.objs.size < h1.objs.size:=Heap.lt_size (k1 _ _ hod);have hll:l < s.heap.objs.size:=Heap.lt_size hl;have hpl:∀ j,j < items.size -> ps j < s.heap.objs.size:=fun j hj => by obtain ⟨key,v,⟨o,ho,_⟩,_⟩:=hp j hj;exact Heap.lt_size ho
 refine wpAny_bind (wpAny_rule (wpAny_bind (wpAny_pyIter_list hl2 (wpAny_pure ⟨plainId_quiet dl_plain _,?_⟩))));refine dl_loop (knd:=knd) (it:=h1.objs.size) (l:=l) (items:=items) (more:=more) (A:=A.in1) hh hn (Nat.ne_of_lt hdl) (Nat.ne_of_gt hll) (Nat.ne_of_gt (Nat.lt_trans hll hdl)) ps (fun i hi => ⟨hps i hi,Nat.ne_of_lt (Nat.lt_trans (hpl i hi) hdl),Nat.ne_of_lt (hpl i hi)⟩) hsz _ 0 _ rfl (Nat.zero_le _) ⟨_,Heap.get?_push_size _ rfl,rfl,rfl⟩ ?_ ⟨od,es,ep,Heap.get?_push_of_some _ (k1 _ _ hod),hor⟩ (fun j hj => ?_) (fun h' tk hd hk => ⟨rfl,h h' tk hd fun b o e => hk b o ?_ ?_ (Heap.get?_push_of_some _ (up b o e))⟩)
 ·obtain ⟨o,ho,r⟩:=hl2;exact ⟨o,Heap.get?_push_of_some _ ho,r⟩
 ·obtain ⟨key,v,⟨o,ho,r⟩,rr⟩:=hp j hj;exact ⟨key,v,⟨o,Heap.get?_push_of_some _ (up _ _ ho),r⟩,rr⟩
 ·exact Nat.ne_of_lt (Nat.lt_trans (Heap.lt_size e) hdl)
 ·exact Nat.ne_of_lt (Heap.lt_size e)
end
theorem paired_of {α β:Type} {F:α -> β -> Prop}:∀ {l₁:List α} {l₂:List β},l₁.length = l₂.length -> (∀ (j:Nat) a b,l₁[j]? = some a -> l₂[j]? = some b -> F a b) -> Paired F l₁ l₂
 | [],[],_,_ => .nil
 | [],_ :: _,h,_ => by cases h
 | _ :: _,[],h,_ => by cases h
 | a :: l₁,b :: l₂,h,f => .cons (f 0 a b rfl rfl) (paired_of (Nat.succ.inj h) fun j x y hx hy => f (j + 1) x y (by simpa using hx) (by simpa using hy))
def PairsIn (K:PySem.W.Frag) (H:Hp) (vs:List V) (kvs:List (Key × V)):Prop:=vs.length = kvs.length /\ ∀ (j:Nat) (k:Key) (x:V),kvs[j]? = some (k,x) -> ∃ p,vs[j]? = some (.ref p) /\ H p = some (.tup [kV k,x])
def rDictP (K:PySem.W.Frag):List V -> Hp -> VK -> Prop:=fun xs H Q => ∃ l vs kvs,xs = [.ref l] /\ H l = some (.lst vs) /\ PairsIn K H vs kvs /\ kvs.length <= 20000 /\ ∀ p,H p = none -> Q (.ref p) (upd H p (.dK (mergeK [] kvs)))
theorem call_dictPR {X:Cx} (K:PySem.W.Frag) (hc:X.calm = true):CallR X (.type "dict") (rDictP K):=by
 intro pins s σ H xs us Q I r h;obtain ⟨l,vs,kvs,rfl,hl,hp,hk,q⟩:=h;obtain ⟨u,rfl,e0⟩:=vals1 r;have e1:u = .ref l:=e0;subst e1;obtain ⟨hlen,its,n,hv,hget⟩:=(show ObjOk X.prog X.w H s.heap l (.lst vs) from I.hok l _ hl);have hsz:its.toArray.size = kvs.length:=by rw [<- hp.1,List.size_toArray,<- Paired.length hv]
 have key:∀ j,j < kvs.length -> ∃ p k x,kvs[j]? = some (k,x) /\ its[j]? = some (.ref p) /\ ∃ ku xu,s.heap.IsTuple p #[ku,xu] /\ keyIs k ku = true /\ RelV x xu:=fun j hj => by
  obtain ⟨p,e1,e2⟩:=hp.2 j kvs[j].1 kvs[j].2 (List.getElem?_eq_getElem hj);obtain ⟨u,e3,e4⟩:=Vals.get hv e1;have e5:u = .ref p:=e4;subst e5;obtain ⟨_,ts,tv,hT⟩:=(show ObjOk X.prog X.w H s.heap p (.tup [kV kvs[j].1,kvs[j].2]) from I.hok p _ e2);obtain ⟨ku,xu,rfl,r1,r2⟩:=vals2 tv;exact ⟨p,_,_,List.getElem?_eq_getElem hj,e3,ku,xu,hT.to,kV_is (P:=X.prog) (w:=X.w) r1,r2⟩
 obtain ⟨f,hf⟩:=Classical.axiomOfChoice (r:=fun (j:Nat) (y:Addr × Value × Value) => ∀ hj:j < kvs.length,s.heap.IsTuple y.1 #[y.2.1,y.2.2] /\ keyIs kvs[j].1 y.2.1 = true /\ RelV kvs[j].2 y.2.2 /\ its[j]? = some (.ref y.1)) (fun j => by
  by_cases hj:j < kvs.length
  ·obtain ⟨p,k,x,e1,e2,ku,xu,hT,h1,h2⟩:=key j hj;rw [List.getElem?_eq_getElem hj] at e1;have e1':kvs[j] = (k,x):=Option.some.inj e1;exact ⟨(p,ku,xu),fun _ => ⟨hT,by rw [e1'];exact h1,by rw [e1'];exact h2,e2⟩⟩
  ·exact ⟨(0,.none,.none),fun h => absurd h hj⟩)
 let mv:List (Key × Value):=(List.range kvs.length).map fun j => ((kvs[j]?.getD (.inl 0,.non)).1,(f j).2.2)
 have hmv:mv.length = kvs.length:=by simp [mv]
 have hmj:∀ j (hj:j < kvs.length),mv[j]? = some (kvs[j].1,(f j).2.2):=fun j hj => by
  simp only [mv,List.getElem?_map,List.getElem?_range hj,Option.map_some,List.getElem?_eq_getElem hj,Option.getD_some]
 have at':∀ j (hj:j < kvs.length),∃ ku xu,s.heap.IsTuple (f j).1 #[ku,xu] /\ keyIs kvs[j].1 ku = true /\ RelV kvs[j].2 xu /\ its[j]? = some (.ref (f j).1) /\ mv[j]? = some (kvs[j].1,xu):=fun j hj => by
  obtain ⟨h1,h2,h3,h4⟩:=hf j hj;exact ⟨_,_,h1,h2,h3,h4,hmj j hj⟩
 have hKV:KV kvs mv:=by
  refine paired_of (by rw [hmv]) fun j a b ha hb => ?_
  have hj:j < kvs.length:=by
   rcases Nat.lt_or_ge j kvs.length with c | c
   ·exact c
   ·rw [List.getElem?_eq_none_iff.mpr c] at ha;cases ha
  obtain ⟨ku,xu,_,_,h2,_,h3⟩:=at' j hj;rw [List.getElem?_eq_getElem hj] at ha;cases ha;rw [h3] at hb;cases hb;exact ⟨rfl,h2⟩
 refine call_dictP (knd:=mixKind X.prog X.w) hget (I.ok.hd hc) (by rw [hmv,hsz]) (by rw [hmv];exact hk) (fun j => (f j).1) (fun i hi => ?_) (fun j hj => ?_) (fun h' tk hd hkp => ?_)
 ·rw [hsz] at hi;obtain ⟨_,_,_,_,_,e,_⟩:=at' i hi;rw [List.getElem?_toArray];exact e
 ·rw [hsz] at hj;obtain ⟨ku,xu,hT,h1,_,_,h3⟩:=at' j hj;exact ⟨ku,xu,hT,_,h3,h1⟩
 ·have hz:(mergeK [] kvs).length <= sizeLine:=by
   have h1:=length_mergeK kvs [];rw [List.length_nil] at h1;exact Nat.le_trans (show _ <= 20000 by lia) (by decide)
  exact ⟨.ref s.heap.objs.size,_,I.laid (t':=tk) hkp (Nat.le_refl _) (dk_new hz (beq_eq_false_iff_ne.mpr (Ne.symm (Nat.ne_of_lt I.big))) (hKV.merge .nil) hd),rfl,q _ (I.hok.fresh (Nat.le_refl _))⟩
end L2
namespace L2
open PySem PySem.Spec PyProof PyProof.Rows
namespace Y
end Y
namespace A
end A
namespace Z
section
variable {X:Cx} {CX:CXT} {k:Nat} {f C:Addr} {fd:FuncData} {ps:List Str} {sp:Sp} {E:XK} {x m nm:Str} {p pos pos' apos:Pos} {e o i value:Expr} {es:List Expr} {ta tv td ty:TE} {t:TA}
theorem fld (K:PySem.W.Frag) (hK:X.K = K) (he:QE X e ta) (hb:attributeBase e nm X.env (eval e X.env) = eval e X.env:=by rfl):QE X (.Attribute e nm pos) (tFld K ta nm):=by subst hK;exact ⟨pe_fld he.h hb⟩
theorem sfld (K:PySem.W.Frag) (hK:X.K = K) (ha:QE X o ta) (hv:QE X value tv) (hs:swapsWith value (some (.Attribute o nm pos')) pos.line X.env = pure false:=by rfl):QS X (.Assign [.Attribute o nm pos'] value pos) (sFld K ta tv nm):=by subst hK;exact ⟨ps_fld ha.h hv.h hs⟩
theorem meth (K:PySem.W.Frag) (hK:X.K = K) {pl:Sem Bool} (he:QE X o ta) (c:Cls K C) (hm:Meth K C m f) (F:FnOk X.prog X.w K X.mg X.base CX k f fd ps sp) (hr:Room k X.A) (hb:Binds K fd ps []) (hx:Passes CX X E) (ha:QA X (e :: es) t)
  (hst:starEach (e :: es) X.env = (false,eval e X.env) :: starEach es X.env:=by rfl) (hpl:(backTo pos (starEach es X.env)).any (·.1) = false:=by rfl)
  (ht:eval (.Call (.Attribute o m apos) (e :: es) [] pos) X.env = (do
   let ov <- eval o X.env
   standAt apos.atName
   let (f,first) <- holding [ov] (getMethod ov m pl)
   callWith pos f first (backTo pos (starEach (e :: es) X.env)) (backToKw pos (keywordEach [] X.env))):=by rfl) :
  QE X (.Call (.Attribute o m apos) (e :: es) [] pos) (tMeth C m sp [] E ta t):=by subst hK;exact ⟨pe_meth (pl:=pl) he.h c hm F hr hb .nil hx ha.h hst hpl ht⟩
theorem meth0 (K:PySem.W.Frag) (hK:X.K = K) {pl:Sem Bool} (he:QE X o ta) (c:Cls K C) (hm:Meth K C m f) (F:FnOk X.prog X.w K X.mg X.base CX k f fd ps sp) (hr:Room k X.A) (hb:Binds K fd ps []) (hx:Passes CX X E)
  (ht:eval (.Call (.Attribute o m apos) [] [] pos) X.env = (do
   let ov <- eval o X.env
   standAt apos.atName
   let (f,first) <- holding [ov] (getMethod ov m pl)
   callWith pos f first (backTo pos (starEach [] X.env)) (backToKw pos (keywordEach [] X.env))):=by rfl) :
  QE X (.Call (.Attribute o m apos) [] [] pos) (tMeth C m sp [] E ta tNil):=by subst hK;exact ⟨pe_meth0 (pl:=pl) he.h c hm F hr hb .nil hx ht⟩
theorem make (K:PySem.W.Frag) (hK:X.K = K) (M:Mk K C f) (F:FnOk X.prog X.w K X.mg X.base CX k f fd ps sp) (hr:Room (k + 1) X.A) (hg:Gl X x) (hm:X.mg x = some (.ref C)) (hb:Binds K fd ps []) (hx:Passes CX X E)
  (ha:QA X (e :: es) t) (hdb:(x == ("__debug__":Str)) = false:=by decide) (he:starEach (e :: es) X.env = (false,eval e X.env) :: starEach es X.env:=by rfl) (hpl:(backTo pos (starEach es X.env)).any (·.1) = false:=by rfl) :
  QE X (.Call (.Name x p) (e :: es) [] pos) (tMake C sp [] E t):=by subst hK;exact ⟨pe_make M F hr hg hm hb .nil hx ha.h hdb he hpl⟩
theorem dget (hu:X.A.units + 1 < cLine) (ho:QE X o td) (hi:QE X i ty) (hs:NoSl i:=by exact fun _ _ => rfl):QE X (.Subscript o i pos) (tDGet td ty):=⟨pe_dget hu ho.h hi.h hs⟩
theorem dput (hu:X.A.units + 1 < cLine) (ho:QE X o td) (hi:QE X i ty) (hv:QE X value tv) (hs:swapsWith value (some (.Subscript o i pos')) pos.line X.env = pure false:=by rfl):QS X (.Assign [.Subscript o i pos'] value pos) (sDPut td ty tv):=⟨ps_dput hu ho.h hi.h hv.h hs⟩
end
end Z
namespace Ap
theorem tFld (K:PySem.W.Frag) (ta:TE) (f:Str) (σ:St) (H:Hp) (Q:VK):L2.tFld K ta f σ H Q = ta σ H fun x H1 => ∃ a C dx fs v,x = .ref a /\ H1 a = some (.ins C dx fs) /\ Cls K C /\ NoAttr K C f /\ fs.lookup f = some v /\ Q v H1:=rfl
theorem sFld (K:PySem.W.Frag) (ta tv:TE) (f:Str) (D:Ends) (σ:St) (H:Hp):L2.sFld K ta tv f D σ H = tv σ H fun y H1 => ta σ H1 fun x H2 => ∃ a C dx fs,x = .ref a /\ H2 a = some (.ins C dx fs) /\ Cls K C /\ NoAttr K C f /\ fs.length < 1000 /\ D.nx σ (upd H2 a (.ins C dx (putF f y fs))):=rfl
theorem tMeth (C:Addr) (m:Str) (sp:Sp) (dvs:List V) (E:XK) (ta:TE) (t:TA) (σ:St) (H:Hp) (Q:VK):L2.tMeth C m sp dvs E ta t σ H Q = ta σ H fun x H1 => ∃ a dx fs,x = .ref a /\ H1 a = some (.ins C dx fs) /\ fs.lookup m = none /\ t σ H1 fun vs H2 => sp (x :: (vs ++ dvs)) H2 Q E:=rfl
theorem tMake (C:Addr) (sp:Sp) (dvs:List V) (E:XK) (t:TA) (σ:St) (H:Hp) (Q:VK):L2.tMake C sp dvs E t σ H Q = t σ H fun vs H1 => ∀ x dx,H1 x = none -> H1 dx = none -> dx ≠ x -> sp (.ref x :: (vs ++ dvs)) (upd (upd H1 dx (.own x)) x (.ins C dx [])) (fun v H2 => v = .non /\ Q (.ref x) H2) E:=rfl
theorem tDGet (td ty:TE) (σ:St) (H:Hp) (Q:VK):L2.tDGet td ty σ H Q = td σ H fun x H1 => ty σ H1 fun y H2 => ∃ a v,x = .ref a /\ DGet H2 a y (some v) /\ Q v H2:=rfl
theorem sDPut (td ty tv:TE) (D:Ends) (σ:St) (H:Hp):L2.sDPut td ty tv D σ H = tv σ H fun v H1 => td σ H1 fun x H2 => ty σ H2 fun y H3 => ∃ a H4,x = .ref a /\ DPut H3 a y v H4 /\ D.nx σ H4:=rfl
end Ap
section
variable {prog:Program} {w:World} {A:Around} {E:Value -> Shared -> Prop} {s:Shared} {K:PySem.W.Frag} {a:Addr} {D:List (Str × List Str)} {k:Str} {tk:Tok}
theorem kdic_item {ws:List Str} {Q:Value -> Shared -> Prop} (T:KDic K a D) (X:K.In s.heap) (hk:KTD.datumAt k D = some ws) (h:∀ v,KRow K ws v -> Q v { s with toks:=s.toks + 1 }):wpAny (model prog w) A (getItem (.ref a) (.str k tk)) Q E s:=by
 have hT:=T.typeIs X;unfold getItem
 try with_reducible refine wpAny_holding ?_
 refine wpAny_bind (wpAny_sequenceKey hT (by decide) ?_)
 refine wpAny_bind (wpAny_callSpecial?_slot (name:=Str.ofString "__getitem__") hT PySem.F.slot_dict_getitem
  (wpAny_call_entry PySem.F.slot_dict_getitem hT PySem.F.entry_dict_getitem ?_ (args_dict_getitem _ _)))
 show wpAny _ _ (dictGet a (.str k tk) >>= _) _ _ s;refine wpAny_bind (kdic_get T X (fun d v e r => ?_) fun e => ?_)
 ·rw [hk] at e;cases e;exact wpAny_pure ⟨v,rfl,wpAny_pure (h v r)⟩
 ·rw [hk] at e;cases e
end
def tKix (K:PySem.W.Frag) (D:List (Str × List Str)) (te:TE):TE:=fun σ H Q => te σ H fun y H1 => ∃ k ws,y = .str k /\ KTD.datumAt k D = some ws /\ ∀ p,KTp K p (ws.map V.str) -> Q (.ref p) H1
theorem pe_kix {X:Cx} {o e:Expr} {te:TE} {pos:Pos} {d:Addr} {D:List (Str × List Str)} (ho:PE X o (tC (.ref d))) (hD:KDic X.K d D) (he:PE X e te) (hs:NoSl e):PE X (.Subscript o e pos) (tKix X.K D te):=by
 intro pins s σ H Q I h;refine subD_of PySem.F.slot_dict_getitem.lookup hs (thn (ho pins s σ H (fun v H' => v = .ref d /\ H' = H) I ⟨rfl,rfl⟩) fun u s1 hq1 => ?_);obtain ⟨x,H1,I1,rx,ex,eh⟩:=hq1;subst ex eh;obtain rfl:u = Value.ref d:=rx;refine thn (he pins s1 σ H1 _ I1 h) fun iv s2 hq2 => ?_;obtain ⟨y,H2,I2,ry,k,ws,ek,e1,q⟩:=hq2;subst ek;obtain ⟨t,rfl⟩:=ry;refine ⟨hD.typeIs I2.kIn,kdic_item hD I2.kIn e1 fun v r => ?_⟩;obtain ⟨p,rfl,r⟩:=r;exact ⟨.ref p,H2,I2.tok _,rfl,q p r⟩
theorem Z.seq {X:Cx} {tg l:Expr} {tl:TE} (K:PySem.W.Frag) (hK:X.K = K) (hl:QE X l tl):QI X tg l (iSeq K tl):=by subst hK;exact ⟨pi_seq hl.h⟩
theorem Ap.iSeq (K:PySem.W.Frag) (tl:TE) (σ:St) (H:Hp) (R:It -> Hp -> Prop):L2.iSeq K tl σ H R = tl σ H fun x H1 => ∃ a,x = V.ref a /\ (((∃ xs,SqL K H1 a xs) /\ R (Itl K a) H1) \/ ((∃ xs,SqT K H1 a xs) /\ R (Itt K a) H1)):=rfl
namespace Y
end Y
namespace A
end A
namespace Y
end Y
namespace A
end A
namespace Y
def rIndex:V -> List V -> Hp -> VK -> Prop:=fun x vs H Q => ∃ (z y:Str) (i:Nat) (rest:List Nat),x = .str z /\ vs = [.str y] /\ Builtin.Str.occurrences z y 0 z.length 1 = i :: rest /\ Q (.int (i:Nat)) H
theorem mt_index {X:Cx}:MtR X "str.index" rIndex:=by
 intro pins s σ H x xs v us Q I rx rs h;obtain ⟨z,y,i,rest,rfl,rfl,ho,q⟩:=h;obtain ⟨t,rfl⟩:=rx;obtain ⟨u,rfl,k,rfl⟩:=vals1 rs;exact SC.index ho ⟨.int _,H,I.tok _,⟨_,rfl⟩,q⟩
def rIdxL:V -> List V -> Hp -> VK -> Prop:=fun x vs H Q => ∃ (a:Addr) (ws:List Str) (k:Str) (j:Nat),x = .ref a /\ H a = some (.lst (ws.map V.str)) /\ vs = [.str k] /\ ws[j]? = some k /\ (∀ m,m < j -> ws[m]? ≠ some k) /\ Q (.int (j:Nat)) H
theorem mt_idxL {X:Cx}:MtM X "list.index" rIdxL:=by
 intro pins s σ H x xs v us Q I rx rs h;obtain ⟨a,ws,k,j,rfl,hH,rfl,hj,hno,q⟩:=h;cases rx;obtain ⟨u,rfl,t,rfl⟩:=vals1 rs;obtain ⟨z,its,n,r,hl,e⟩:=I.lstM hH;obtain ⟨t',hit⟩:=strs_its r j k hj;have hjl:j < ws.length:=(List.getElem?_eq_some_iff.mp hj).1;rw [List.length_map] at z hl;have hji:j < its.toArray.size:=by rw [List.size_toArray];lia
 have sz:(sizeLine:Int) < 2 ^ 63 - 1:=by decide
 have hje:its.toArray[j] = .str k t':=by
  have:its.toArray[j]? = some (.str k t'):=by rw [List.getElem?_toArray];exact hit
  exact (Array.getElem?_eq_some_iff.mp this).2
 have hall:∀ (m:Nat) (hm:m < its.toArray.size),∃ y ty,its.toArray[m] = .str y ty /\ ws[m]? = some y:=fun m hm => by
  have hm':m < ws.length:=by rw [List.size_toArray] at hm;lia
  have e1:=List.getElem?_eq_getElem hm';obtain ⟨ty,hy⟩:=strs_its r m _ e1;have:its.toArray[m]? = some (.str ws[m] ty):=by rw [List.getElem?_toArray];exact hy
  exact ⟨_,ty,(Array.getElem?_eq_some_iff.mp this).2,e1⟩
 refine call_meets PySem.F.slot_list_index ⟨_,e,rfl⟩ PySem.F.entry_list_index (PySem.F.args_list_index_2 _ _) (SeqAt.list_indexAt a its.toArray n none _ (.str k t) (fun y => match y with | .str y _ => y == k | _ => false) j hji (by lia) (by rw [hje];exact beq_self_eq_true k) fun m hm hmj => ?_) ⟨e,fun y hy => ?_,⟨.int (j:Nat),H,I.tok _,⟨_,rfl⟩,q⟩⟩
 ·obtain ⟨y,ty,ey,ew⟩:=hall m hm;rw [ey];exact beq_eq_false_iff_ne.mpr fun z => hno m hmj (by rw [ew,z])
 ·obtain ⟨m,hm,rfl⟩:=Array.mem_iff_getElem.mp hy;obtain ⟨y,ty,ey,ew⟩:=hall m hm;rw [ey];exact SeqAt.EqAt.str_str _ _ _ _
end Y
namespace A
end A
end L2
namespace L2
open PySem PySem.Spec PyProof PyProof.Rows PySem.W
namespace SP
section
variable (k:Nat -> Int)
def R (i j:Nat):Prop:=k i < k j \/ (k i = k j /\ i < j)
variable {k}
theorem R.le {a b:Nat} (h:R k a b):k a <= k b:=by unfold R at h;lia
end
structure PI (n m:Nat) (p:Array Nat) (a:List Nat):Prop where
 eq:p.toList = a ++ List.range' m (n - m)
 perm:a.Perm (List.range m)
 le:m <= n
section
variable {n m:Nat} {p:Array Nat} {a:List Nat}
theorem PI.len (h:PI n m p a):a.length = m:=by rw [h.perm.length_eq,List.length_range]
theorem PI.lt (h:PI n m p a) {x:Nat} (hx:x ∈ a):x < m:=List.mem_range.mp (h.perm.mem_iff.mp hx)
theorem PI.size (h:PI n m p a):p.size = n:=by
 have:=h.len;have:=h.le;rw [<- Array.length_toList,h.eq,List.length_append,List.length_range',h.len];lia
theorem PI.at (h:PI n m p a) {i:Nat} {x:Nat} (hi:a[i]? = some x):p.getD i 0 = x:=by
 have:p[i]? = some x:=by
  rw [<- Array.getElem?_toList,h.eq,List.getElem?_append_left (List.getElem?_eq_some_iff.mp hi).1];exact hi
 rw [Array.getD_eq_getD_getElem?,this];rfl
theorem PI.nx (h:PI n m p a) (hm:m < n):p.getD m 0 = m:=by
 have:p[m]? = some m:=by
  rw [<- Array.getElem?_toList,h.eq,List.getElem?_append_right (by rw [h.len];exact Nat.le_refl m),h.len,Nat.sub_self,List.getElem?_range' (by lia)];simp
 rw [Array.getD_eq_getD_getElem?,this];rfl
theorem PI.step (h:PI n m p a) (hm:m < n):PI n (m + 1) p (a ++ [m]):=by
 refine ⟨?_,?_,hm⟩
 ·rw [h.eq,List.append_assoc,show n - m = (n - (m + 1)) + 1 by lia,List.range'_succ];rfl
 ·rw [List.range_succ];exact h.perm.append_right [m]
theorem PI.last (h:PI n m p a) {b:List Nat} {y:Nat} (e:a = b ++ [y]):p.getD (m - 1) 0 = y:=by
 refine h.at ?_;have:=h.len;rw [e,List.length_append] at this;simp only [List.length_cons,List.length_nil] at this;rw [e,List.getElem?_append_right (by lia),show m - 1 - b.length = 0 by lia];rfl
end
theorem bub_list {α:Type} {xs:Array α} {k l:Nat} {y:α} (hy:xs[k]? = some y) (hl:l <= k):(bubble xs k (k - l)).toList = xs.toList.take l ++ y :: (xs.toList.drop l).take (k - l) ++ xs.toList.drop (k + 1):=by
 have hk:k < xs.size:=(Array.getElem?_eq_some_iff.mp hy).1;have hL:xs.toList.length = xs.size:=by simp
 apply List.ext_getElem?;intro i;rw [Array.getElem?_toList,getElem?_bubble hk _ (by lia),show k - (k - l) = l by lia]
 rw [List.append_assoc,List.getElem?_append];have ht:(xs.toList.take l).length = l:=by rw [List.length_take];lia
 rw [ht];by_cases h1:i < l
 ·rw [if_pos h1,if_neg (by lia),if_neg (by lia),List.getElem?_take,if_pos h1,Array.getElem?_toList]
 ·rw [if_neg h1];by_cases h2:i = l
  ·subst h2;rw [if_pos rfl,Nat.sub_self,hy];rfl
  ·rw [if_neg h2,show i - l = (i - l - 1) + 1 by lia,List.cons_append,List.getElem?_cons_succ,List.getElem?_append]
   have hm:((xs.toList.drop l).take (k - l)).length = k - l:=by rw [List.length_take,List.length_drop];lia
   rw [hm];by_cases h3:i - l - 1 < k - l
   ·rw [if_pos h3,if_pos (by lia),List.getElem?_take,if_pos h3,List.getElem?_drop,Array.getElem?_toList]
    congr 1;lia
   ·rw [if_neg h3,if_neg (by lia),List.getElem?_drop,Array.getElem?_toList]
    congr 1;lia
theorem mir_list {α:Type} {xs:Array α} {i j:Nat} (hi:i <= j) (hj:j <= xs.size):(mirror xs i j ((j - i) / 2)).toList = xs.toList.take i ++ ((xs.toList.drop i).take (j - i)).reverse ++ xs.toList.drop j:=by
 have hL:xs.toList.length = xs.size:=by simp
 apply List.ext_getElem?;intro k;rw [Array.getElem?_toList,getElem?_mirror_all hj,List.append_assoc,List.getElem?_append];have ht:(xs.toList.take i).length = i:=by rw [List.length_take];lia
 have hm:((xs.toList.drop i).take (j - i)).length = j - i:=by rw [List.length_take,List.length_drop];lia
 rw [ht];by_cases h1:k < i
 ·rw [if_pos h1,if_neg (by lia),List.getElem?_take,if_pos h1,Array.getElem?_toList]
 ·rw [if_neg h1,List.getElem?_append,List.length_reverse,hm];by_cases h2:k < j
  ·rw [if_pos (by lia),if_pos (by lia),List.getElem?_reverse (by lia),hm,List.getElem?_take,if_pos (by lia),List.getElem?_drop,Array.getElem?_toList]
   congr 1;lia
  ·rw [if_neg (by lia),if_neg (by lia),List.getElem?_drop,Array.getElem?_toList]
   congr 1;lia
theorem PI.rev {n m:Nat} {p:Array Nat} {b c:List Nat} (h:PI n m p (b ++ c)):PI n m (kas_rev p b.length m) (b ++ c.reverse):=by
 have hl:b.length + c.length = m:=by rw [<- h.len,List.length_append]
 refine ⟨?_,((List.reverse_perm c).append_left b).trans h.perm,h.le⟩;unfold kas_rev;rw [mir_list (by lia) (by rw [h.size];exact h.le),h.eq,List.append_assoc b c,List.take_left,List.drop_left,show m - b.length = c.length by lia,List.take_left,<- List.append_assoc b c,List.drop_left' (by rw [List.length_append];exact hl)]
theorem ends_of {a:List Nat} {m:Nat} (h:a.length = m) (hm:1 <= m):∃ b y,a = b ++ [y]:=by
 rcases List.eq_nil_or_concat a with rfl | ⟨b,y,rfl⟩
 ·cases h;exact absurd hm (by decide)
 ·exact ⟨b,y,by simp⟩
section
variable {k:Nat -> Int} {n:Nat} {cmp:Nat -> Nat -> (Bool -> Shared -> Prop) -> Shared -> Prop} {I:Shared -> Prop}
def Asks (k:Nat -> Int) (n:Nat) (cmp:Nat -> Nat -> (Bool -> Shared -> Prop) -> Shared -> Prop) (I:Shared -> Prop):Prop:=∀ i j C s,i < n -> j < n -> I s -> (∀ s',I s' -> C (decide (k i < k j)) s') -> cmp i j C s
theorem asc_ok (hc:Asks k n cmp I) {p:Array Nat} {G:Nat -> Shared -> Prop}:∀ (f m:Nat) (a:List Nat) (s:Shared),PI n m p a -> 1 <= m -> f = n - m -> a.Pairwise (R k) -> I s ->
  (∀ m' a' s',PI n m' p a' -> m <= m' -> a'.Pairwise (R k) -> I s' -> (∀ b y,a' = b ++ [y] -> m' < n -> k m' < k y) -> G m' s') -> (kas_asc p f m).kasWp cmp G s
 | 0,m,a,s,h,h1,hf,hp,hI,g => g m a s h (Nat.le_refl m) hp hI fun _ _ _ hl => by have:=h.le;lia
 | f + 1,m,a,s,h,h1,hf,hp,hI,g => by
  have hm:m < n:=by lia
  obtain ⟨b,y,e⟩:=ends_of h.len h1;show cmp (p.getD m 0) (p.getD (m - 1) 0) _ s;rw [h.nx hm,h.last e];have hy:y < m:=h.lt (by rw [e];simp)
  refine hc m y _ s hm (by lia) hI fun s' hI' => ?_
  by_cases c:k m < k y
  ·rw [decide_eq_true c];exact g m a s' h (Nat.le_refl m) hp hI' fun b' y' e' _ => by
    rw [e] at e';have:[y] = [y']:=(List.append_inj' e' rfl).2
    cases this;exact c
  ·rw [decide_eq_false c];refine asc_ok hc f (m + 1) (a ++ [m]) s' (h.step hm) (by lia) (by lia) ?_ hI' fun m' a' s2 h' hm' hp' hI2 gl => g m' a' s2 h' (by lia) hp' hI2 gl
   refine List.pairwise_append.mpr ⟨hp,by simp,fun x hx z hz => ?_⟩
   rw [List.mem_singleton.mp hz];have hxm:=h.lt hx;have:k x <= k y:=by
    rw [e] at hx hp;rcases List.mem_append.mp hx with hx | hx
    ·exact ((List.pairwise_append.mp hp).2.2 x hx y (by simp)).le
    ·rw [List.mem_singleton.mp hx];exact Int.le_refl _
   unfold R;lia
structure DI (k:Nat -> Int) (b c:List Nat):Prop where
 fall:b.Pairwise fun x y => R k y x
 less:∀ y ∈ b,∀ x ∈ c,k x < k y
 one:∀ x ∈ c,∀ y ∈ c,k x = k y
 up:c.Pairwise (· < ·)
theorem DI.rise {b c:List Nat} (h:DI k b c):(b ++ c.reverse).reverse.Pairwise (R k):=by
 rw [List.reverse_append,List.reverse_reverse];refine List.pairwise_append.mpr ⟨?_,List.pairwise_reverse.mpr h.fall,fun x hx y hy => .inl (h.less y (List.mem_reverse.mp hy) x hx)⟩;exact List.Pairwise.imp_of_mem (fun {x y} hx hy hl => .inr ⟨h.one x hx y hy,hl⟩) h.up
theorem DI.next {b c:List Nat} {x:Nat} (h:DI k b c) (hc:c ≠ []) (hx:∀ y ∈ c,k x < k y):DI k (b ++ c.reverse) [x]:=by
 refine ⟨List.pairwise_append.mpr ⟨h.fall,List.pairwise_reverse.mpr (List.Pairwise.imp_of_mem (fun {x y} hx hy hl => .inr ⟨h.one x hx y hy,hl⟩) h.up),fun y hy z hz => .inl (h.less y hy z (List.mem_reverse.mp hz))⟩,fun y hy z hz => ?_,fun y hy z hz => ?_,by simp⟩
 ·rw [List.mem_singleton.mp hz];rcases List.mem_append.mp hy with hy | hy
  ·obtain ⟨w,hw⟩:=List.exists_mem_of_ne_nil c hc;exact Int.lt_trans (hx w hw) (h.less y hy w hw)
  ·exact hx y (List.mem_reverse.mp hy)
 ·rw [List.mem_singleton.mp hy,List.mem_singleton.mp hz]
theorem DI.more {b c:List Nat} {x:Nat} (h:DI k b c) (he:∀ y ∈ c,k x = k y) (hc:c ≠ []) (hl:∀ y ∈ c,y < x):DI k b (c ++ [x]):=by
 refine ⟨h.fall,fun y hy z hz => ?_,fun y hy z hz => ?_,List.pairwise_append.mpr ⟨h.up,by simp,fun y hy z hz => by rw [List.mem_singleton.mp hz];exact hl y hy⟩⟩
 ·rcases List.mem_append.mp hz with hz | hz
  ·exact h.less y hy z hz
  ·rw [List.mem_singleton.mp hz];obtain ⟨w,hw⟩:=List.exists_mem_of_ne_nil c hc;rw [he w hw];exact h.less y hy w hw
 ·rcases List.mem_append.mp hy with hy | hy <;> rcases List.mem_append.mp hz with hz | hz
  ·exact h.one y hy z hz
  ·rw [List.mem_singleton.mp hz];exact (he y hy).symm
  ·rw [List.mem_singleton.mp hy];exact he z hz
  ·rw [List.mem_singleton.mp hy,List.mem_singleton.mp hz]
theorem desc_ok (hc:Asks k n cmp I) {G:Array Nat × Nat × Nat -> Shared -> Prop}:∀ (f:Nat) (p:Array Nat) (m q:Nat) (b c:List Nat) (s:Shared),PI n m p (b ++ c) -> c.length = q + 1 -> DI k b c -> f = n - m -> I s ->
  (∀ p' m' q' b' c' s',PI n m' p' (b' ++ c') -> c'.length = q' + 1 -> DI k b' c' -> I s' -> G (p',m',q') s') -> (kas_desc f p m q).kasWp cmp G s
 | 0,p,m,q,b,c,s,h,hl,hd,hf,hI,g => g p m q b c s h hl hd hI
 | f + 1,p,m,q,b,c,s,h,hl,hd,hf,hI,g => by
  have hm:m < n:=by lia
  obtain ⟨c0,y,e⟩:=ends_of hl (by lia)
  have hbl:b.length + (q + 1) = m:=by rw [<- hl,<- List.length_append,h.len]
  have ne:c ≠ []:=by rw [e];simp
  have hy:y ∈ c:=by rw [e];simp
  have hya:y < m:=h.lt (List.mem_append_right _ hy);have e1:p.getD m 0 = m:=h.nx hm;have e2:p.getD (m - 1) 0 = y:=h.last (b:=b ++ c0) (by rw [e,List.append_assoc])
  show cmp (p.getD m 0) (p.getD (m - 1) 0) _ s;rw [e1,e2];refine hc m y _ s hm (by lia) hI fun s' hI' => ?_
  by_cases c1:k m < k y
  ·rw [decide_eq_true c1];have hx:∀ z ∈ c,k m < k z:=fun z hz => by rw [hd.one z hz y hy];exact c1
   show KasT.kasWp cmp (if q > 0 then _ else _) G s'
   by_cases hq:q > 0
   ·rw [if_pos hq,show m - (q + 1) = b.length by lia]
    exact desc_ok hc f _ (m + 1) 0 (b ++ c.reverse) [m] s' (h.rev.step hm) rfl (hd.next ne hx) (by lia) hI' g
   ·rw [if_neg hq];have e3:c.reverse = c:=by
     have:c.length = 1:=by lia
     obtain ⟨z,rfl⟩:=List.length_eq_one_iff.mp this;rfl
    exact desc_ok hc f p (m + 1) 0 (b ++ c.reverse) [m] s' (by rw [e3];exact h.step hm) rfl (hd.next ne hx) (by lia) hI' g
  ·rw [decide_eq_false c1];show cmp y m _ s';refine hc y m _ s' (by lia) hm hI' fun s2 hI2 => ?_
   by_cases c2:k y < k m
   ·rw [decide_eq_true c2];exact g p m q b c s2 h hl hd hI2
   ·rw [decide_eq_false c2];refine desc_ok hc f p (m + 1) (q + 1) b (c ++ [m]) s2 (by rw [<- List.append_assoc];exact h.step hm) (by rw [List.length_append,hl];rfl) (hd.more (fun z hz => ?_) ne fun z hz => h.lt (List.mem_append_right _ hz)) (by lia) hI2 g
    rw [hd.one z hz y hy];lia
theorem tail_ok (hc:Asks k n cmp I) {G:Nat × Array Nat -> Shared -> Prop} {m:Nat} {p:Array Nat} {a:List Nat} {s:Shared} (h:PI n m p a) (h1:1 <= m) (hr:a.reverse.Pairwise (R k)) (hI:I s)
  (g:∀ m' p' a' s',PI n m' p' a' -> 1 <= m' -> a'.Pairwise (R k) -> I s' -> G (m',p') s'):(kas_tail3 m n p).kasWp cmp G s:=by
 unfold kas_tail3;rw [KasT.kasWp_bind];have hv:=PI.rev (b:=[]) (c:=a) h;exact asc_ok hc (n - m) m a.reverse s hv h1 rfl hr hI fun m' a' s' h' hm' hp' hI' _ => g m' _ a' s' h' (by lia) hp' hI'
theorem part_ok (hc:Asks k n cmp I) {G:Nat × Array Nat -> Shared -> Prop} {m:Nat} {p:Array Nat} {a:List Nat} {s:Shared} (h:PI n m p a) (hm:m < n) (hd:DI k a [m]) (hI:I s)
  (g:∀ m' p' a' s',PI n m' p' a' -> 1 <= m' -> a'.Pairwise (R k) -> I s' -> G (m',p') s'):(kas_descPart m n p).kasWp cmp G s:=by
 unfold kas_descPart;rw [KasT.kasWp_bind];refine desc_ok hc (n - (m + 1)) p (m + 1) 0 a [m] s (h.step hm) rfl hd rfl hI fun p' m' q' b' c' s' h' hl' hd' hI' => ?_;have hbl:b'.length + (q' + 1) = m':=by rw [<- hl',<- List.length_append,h'.len]
 show KasT.kasWp cmp (if q' > 0 then _ else _) G s'
 by_cases hq:q' > 0
 ·rw [if_pos hq];show (kas_tail3 m' n (kas_rev p' (m' - (q' + 1)) m')).kasWp cmp G s';rw [show m' - (q' + 1) = b'.length by lia]
  exact tail_ok hc h'.rev (by lia) hd'.rise hI' g
 ·rw [if_neg hq];have e3:c'.reverse = c':=by
   have:c'.length = 1:=by lia
   obtain ⟨z,rfl⟩:=List.length_eq_one_iff.mp this;rfl
  exact tail_ok hc h' (by lia) (by rw [<- e3];exact hd'.rise) hI' g
theorem count_ok (hc:Asks k n cmp I) {G:Nat × Array Nat -> Shared -> Prop} {s:Shared} (hn:1 <= n) (hI:I s)
  (g:∀ m' p' a' s',PI n m' p' a' -> 1 <= m' -> a'.Pairwise (R k) -> I s' -> G (m',p') s'):(kas_count n (List.toArray (List.range n))).kasWp cmp G s:=by
 unfold kas_count;rw [KasT.kasWp_bind];have h0:PI n 1 (List.toArray (List.range n)) [0]:=by
  refine ⟨?_,List.Perm.refl _,hn⟩;show List.range n = [0] ++ List.range' 1 (n - 1);rw [List.range_eq_range',show n = (n - 1) + 1 by lia,List.range'_succ];rfl
 refine asc_ok hc (n - 1) 1 [0] s h0 (Nat.le_refl 1) rfl (by simp) hI fun m a s' h hm hp hI' gl => ?_
 show KasT.kasWp cmp (if (m == n) = true then _ else _) G s'
 by_cases e:m = n
 ·subst e;rw [if_pos (beq_self_eq_true m)];exact g m _ a s' h hm hp hI'
 ·rw [if_neg (by simpa using e)]
  have hmn:m < n:=by have:=h.le;lia
  obtain ⟨b,y,ea⟩:=ends_of h.len hm;have ky:=gl b y ea hmn;have hya:y < m:=h.lt (by rw [ea];simp)
  by_cases h2:m > 1
  ·rw [if_pos h2];obtain ⟨x,r,ex⟩:∃ x r,a = x :: r:=by
    cases a with
    | nil => have:=h.len;rw [List.length_nil] at this;lia
    | cons x r => exact ⟨x,r,rfl⟩
   have hxa:x < m:=h.lt (by rw [ex];simp)
   show cmp ((List.toArray (List.range n)).getD 0 0) ((List.toArray (List.range n)).getD (m - 1) 0) _ s';rw [h.at (i:=0) (x:=x) (by rw [ex];rfl),h.last ea]
   refine hc x y _ s' (by lia) (by lia) hI' fun s2 hI2 => ?_
   by_cases c:k x < k y
   ·rw [decide_eq_true c];exact g m _ a s2 h hm hp hI2
   ·rw [decide_eq_false c];have hv:=PI.rev (b:=[]) (c:=a) h;refine part_ok hc hv hmn ⟨List.pairwise_reverse.mpr hp,fun z hz w hw => ?_,fun z hz w hw => by rw [List.mem_singleton.mp hz,List.mem_singleton.mp hw],by simp⟩ hI2 g
    rw [List.mem_singleton.mp hw];have hz':=List.mem_reverse.mp hz;have hxz:k x <= k z:=by
     rw [ex] at hz' hp;rcases List.mem_cons.mp hz' with rfl | hz'
     ·exact Int.le_refl _
     ·exact ((List.pairwise_cons.mp hp).1 z hz').le
    lia
  ·rw [if_neg h2];have hm1:m = 1:=by lia
   have hb:b = []:=by
    have:=h.len;rw [ea,List.length_append,hm1] at this;simp only [List.length_cons,List.length_nil] at this;exact List.length_eq_zero_iff.mp (by lia)
   subst hb;refine part_ok hc h hmn ⟨by rw [ea];simp,fun z hz w hw => ?_,fun z hz w hw => by rw [List.mem_singleton.mp hz,List.mem_singleton.mp hw],by simp⟩ hI' g
   rw [List.mem_singleton.mp hw];rw [ea] at hz;rw [List.mem_singleton.mp hz];exact ky
theorem place_ok (hc:Asks k n cmp I) {G:Nat -> Shared -> Prop} {t:Nat} {p:Array Nat} {a:List Nat} (h:PI n t p a) (ht:t < n) (hp:a.Pairwise (R k)):∀ (f l r:Nat) (s:Shared),l <= r -> r <= t -> r - l <= f -> (∀ i x,i < l -> a[i]? = some x -> k x <= k t) -> (∀ i x,r <= i -> a[i]? = some x -> k t < k x) -> I s ->
  (∀ l' s',l' <= t -> (∀ i x,i < l' -> a[i]? = some x -> k x <= k t) -> (∀ i x,l' <= i -> a[i]? = some x -> k t < k x) -> I s' -> G l' s') -> (kas_place p t f l r).kasWp cmp G s
 | 0,l,r,s,h1,h2,h3,hlo,hhi,hI,g => g l s (by lia) hlo (fun i x hi e => hhi i x (by lia) e) hI
 | f + 1,l,r,s,h1,h2,h3,hlo,hhi,hI,g => by
  show KasT.kasWp cmp (if l >= r then _ else _) G s
  by_cases hlr:l >= r
  ·rw [if_pos hlr];exact g l s (by lia) hlo (fun i x hi e => hhi i x (by lia) e) hI
  ·rw [if_neg hlr];have hmid:(l + r) / 2 < a.length:=by rw [h.len];lia
   have em:a[(l + r) / 2]? = some a[(l + r) / 2]:=List.getElem?_eq_getElem hmid;have hma:a[(l + r) / 2] < t:=h.lt (List.getElem_mem hmid);have mono:∀ i j x y,i <= j -> a[i]? = some x -> a[j]? = some y -> k x <= k y:=fun i j x y hij ex ey => by
    rcases Nat.lt_or_ge i j with c | c
    ·obtain ⟨hi,rfl⟩:=List.getElem?_eq_some_iff.mp ex;obtain ⟨hj,rfl⟩:=List.getElem?_eq_some_iff.mp ey;exact (List.pairwise_iff_getElem.mp hp i j hi hj c).le
    ·have:i = j:=Nat.le_antisymm hij c;subst this;rw [ex] at ey;cases ey;exact Int.le_refl _
   show cmp (p.getD t 0) (p.getD ((l + r) / 2) 0) _ s;rw [h.nx ht,h.at em];refine hc t _ _ s ht (by lia) hI fun s' hI' => ?_
   by_cases c:k t < k a[(l + r) / 2]
   ·rw [decide_eq_true c];exact place_ok hc h ht hp f l ((l + r) / 2) s' (by lia) (by lia) (by lia) hlo (fun i x hi e => Int.lt_of_lt_of_le c (mono _ i _ x hi em e)) hI' g
   ·rw [decide_eq_false c];exact place_ok hc h ht hp f ((l + r) / 2 + 1) r s' (by lia) h2 (by lia) (fun i x hi e => Int.le_trans (mono i _ x _ (by lia) e em) (by lia)) hhi hI' g
theorem bin_ok (hc:Asks k n cmp I) {G:Array Nat -> Shared -> Prop}:∀ (f:Nat) (p:Array Nat) (t:Nat) (a:List Nat) (s:Shared),PI n t p a -> a.Pairwise (R k) -> f = n - t -> I s ->
  (∀ p' a' s',PI n n p' a' -> a'.Pairwise (R k) -> I s' -> G p' s') -> (kas_bin f p t).kasWp cmp G s
 | 0,p,t,a,s,h,hp,hf,hI,g => by
  have:t = n:=by have:=h.le;lia
  subst this;exact g p a s h hp hI
 | f + 1,p,t,a,s,h,hp,hf,hI,g => by
  have ht:t < n:=by lia
  show KasT.kasWp cmp ((kas_place p t t 0 t).bind _) G s;rw [KasT.kasWp_bind];refine place_ok hc h ht hp t 0 t s (Nat.zero_le _) (Nat.le_refl _) (by lia) (fun i x hi _ => absurd hi (Nat.not_lt_zero i)) (fun i x hi e => ?_) hI fun l s' hl hlo hhi hI' => ?_
  ·have:=(List.getElem?_eq_some_iff.mp e).1;rw [h.len] at this;lia
  ·have et:p[t]? = some t:=by
    rw [<- Array.getElem?_toList,h.eq,List.getElem?_append_right (by rw [h.len];exact Nat.le_refl t),h.len,Nat.sub_self,List.getElem?_range' (by lia)];simp
   have hla:l <= a.length:=by rw [h.len];exact hl
   have e1:(bubble p t (t - l)).toList = (a.take l ++ t :: a.drop l) ++ List.range' (t + 1) (n - (t + 1)):=by
    rw [bub_list et hl,h.eq,List.take_append_of_le_length hla,List.drop_append_of_le_length hla,show n - t = (n - (t + 1)) + 1 by lia,List.range'_succ]
    have e2:(a.drop l).length = t - l:=by rw [List.length_drop,h.len]
    have e3:∀ r:List Nat,(a ++ t :: r).drop (t + 1) = r:=fun r => by
     rw [show a ++ t :: r = (a ++ [t]) ++ r by simp]
     exact List.drop_left' (by rw [List.length_append,h.len];rfl)
    rw [List.take_left' e2,e3]
   have hP:PI n (t + 1) (bubble p t (t - l)) (a.take l ++ t :: a.drop l):=by
    refine ⟨e1,?_,ht⟩;have:(a.take l ++ t :: a.drop l).Perm (a ++ [t]):=by
     have h1:(a.take l ++ t :: a.drop l).Perm (t :: (a.take l ++ a.drop l)):=List.perm_middle;rw [List.take_append_drop] at h1;exact h1.trans (List.perm_append_singleton t a).symm
    rw [List.range_succ];exact this.trans (h.perm.append_right [t])
   refine bin_ok hc f _ (t + 1) _ s' hP ?_ (by lia) hI' g
   have hp1:=(List.take_append_drop l a) ▸ hp;obtain ⟨q1,q2,q3⟩:=List.pairwise_append.mp hp1;refine List.pairwise_append.mpr ⟨q1,List.pairwise_cons.mpr ⟨fun x hx => ?_,q2⟩,fun x hx y hy => ?_⟩
   ·obtain ⟨i,hi⟩:=List.mem_iff_getElem?.mp hx;rw [List.getElem?_drop] at hi;exact .inl (hhi (l + i) x (by lia) hi)
   ·rcases List.mem_cons.mp hy with rfl | hy
    ·obtain ⟨i,hi⟩:=List.mem_iff_getElem?.mp hx;rw [List.getElem?_take] at hi
     split at hi
     ·rename_i hil;have:=hlo i x hil hi;have hxt:=h.lt (List.mem_of_mem_take hx);unfold R;lia
     ·cases hi
    ·exact q3 x hx y hy
theorem sort_ok (hc:Asks k n cmp I) {G:Array Nat -> Shared -> Prop} {s:Shared} (hn:1 <= n) (hI:I s) (g:∀ p s',p.toList.Perm (List.range n) -> p.toList.Pairwise (R k) -> I s' -> G p s'):(kas_sort n).kasWp cmp G s:=by
 unfold kas_sort;rw [KasT.kasWp_bind];have fin:∀ p a s',PI n n p a -> a.Pairwise (R k) -> I s' -> G p s':=fun p a s' h hp hI' => by
  have e:p.toList = a:=by rw [h.eq,Nat.sub_self,List.range'_zero,List.append_nil]
  refine g p s' ?_ ?_ hI' <;> rw [e]
  ·exact h.perm
  ·exact hp
 refine count_ok hc hn hI fun m p a s' h h1 hp hI' => ?_;show KasT.kasWp cmp (if m < n then _ else _) G s'
 by_cases hm:m < n
 ·rw [if_pos hm];show (kas_bin (n - max m 1) p (max m 1)).kasWp cmp G s';rw [show max m 1 = m by lia]
  exact bin_ok hc (n - m) p m a s' h hp rfl hI' fin
 ·rw [if_neg hm];have:m = n:=by have:=h.le;lia
  subst this;exact fin p a s' h hp hI'
end
end SP
end L2
namespace L2
open PySem PySem.Spec PyProof PyProof.Rows
abbrev lenv (qual:Str) (scope:Scope) (L f:Addr) (cd:Value) (cl:List (Str × Addr)):Env:=PySem.W.envX qual scope L f cd cl
def cxLam (X:Cx) (A:Around) (N:List Str) (qual:Str) (scope:Scope) (f:Addr) (cd:Value) (cl:List (Str × Addr)) (s:Shared) (H:Hp):Cx where
 prog:=X.prog
 w:=X.w
 K:=X.K
 mg:=X.mg
 base:=X.base
 A:=A.deeper (lenv qual scope s.heap.objs.size f cd cl)
 N:=N
 s₀:=s
 H₀:=H
 env:=lenv qual scope s.heap.objs.size f cd cl
 outer:=X.stack
 stack:=lenv qual scope s.heap.objs.size f cd cl :: X.stack
 ex:=[]
 calm:=true
 fn:=fun _ => false
 pn:=[]
 xe:=fun _ _ => False
section
variable {X:Cx} {pins:List (Addr × Obj)} {σ:St} {H:Hp} {s:Shared}
theorem inv_lam (I:Inv X pins σ H s) {A:Around} (hA:A.frames = some X.stack) (hd:A.handled = none) {x qual:Str} {N:List Str} {σf:List (Option V)} {v:V} {u:Value} {scope:Scope} {f:Addr} {cd:Value} {cl:List (Str × Addr)} {h₁:Heap} {tk:Nat}
  (hk:scope.kind = .function) (rv:RelV v u) (hloc:scope.names.lookup x = some .local) (hns:h₁.Ns s.heap.objs.size (fun y => [(x,u)].reverse.lookup y)) (old:∀ b o,s.heap.get? b = some o -> h₁.get? b = some o)
  (hlen:σf.length = N.length) (hcl:∀ y c,cl.lookup y = some c -> X.env.cells.lookup y = some c) (hhas:∀ y,(scope.names.lookup y = some .cell \/ scope.names.lookup y = some .free) -> ∃ c,cl.lookup y = some c)
  (hf:∀ (i:Nat) (y:Str) (v:V),N[i]? = some y -> σf[i]? = some (some v) -> scope.names.lookup y = some .free /\ ∃ c u,cl.lookup y = some c /\ s.heap.IsCell c (some u) /\ RelV v u) :
  Inv (cxLam X A (x :: N) qual scope f cd cl s H) [] (some v :: σf) H { s with heap:=h₁,toks:=tk }:=by
 have noA:∀ b:Addr,b ∉ (cxLam X A (x :: N) qual scope f cd cl s H).ex:=fun b z => absurd (show b ∈ ([]:List Addr) from z) (by simp)
 refine ⟨⟨I.ok.mod,hk,rfl,rfl,Nat.le_refl _,fun y z c e1 e2 => I.ok.inj y z c (hcl y c e1) (hcl z c e2),hhas,fun y c z _ => (by cases z),fun _ => hd,Around.frames_deeper hA,.inr ⟨rfl,rfl⟩,fun b z => absurd z (noA b),I.bs,Nat.le_trans I.ok.bsz I.sz,fun b _ _ => noA b,fun b z => absurd z (noA b),I.stack,I.stkFree,I.ok.tabs.un I.base⟩,
  rfl,I.bare,Un.kept old,⟨_,hns,fun i y w e1 e2 e3 => ?_⟩,fun y c e => ?_,I.hok.fresh (Nat.le_refl _),fun y c e => I.freeC y c (hcl y c e),fun p hp => absurd (show p ∈ ([]:List (Addr × Obj)) from hp) (by simp),I.hok.kept old,?_⟩
 ·cases i with
  | zero =>
   have e1':some x = some y:=e1;have e2':some (some v) = some (some w):=e2
   cases e1';cases e2'
   exact ⟨u,rv,.inl ⟨hloc,by simp⟩⟩
  | succ i =>
   obtain ⟨h1,c,u',h2,h3,h4⟩:=hf i y w e1 e2;obtain ⟨o,ho,hd'⟩:=h3;exact ⟨u',h4,.inr ⟨.inr h1,c,h2,o,old _ _ ho,hd'⟩⟩
 ·obtain ⟨v',o,ho,hd'⟩:=I.cell y c (hcl y c e);exact ⟨v',o,old _ _ ho,hd'⟩
 ·show (some v :: σf).length = (x :: N).length;rw [List.length_cons,List.length_cons,hlen]
theorem lam_call (I:Inv X pins σ H s) {A:Around} {k:Nat} (hr:Room (k + 1) A) (hA:A.frames = some X.stack) {x qual:Str} {N:List Str} {σf:List (Option V)} {v:V} {u:Value} {scope:Scope} {params:Arguments} {body:Expr} {f c':Addr} {pm ctv:Value} {cl:List (Str × Addr)} {t:TE} {Q:VK}
  (hk:scope.kind = .function) (hco:scope.isCoroutine = false) (hgen:scope.isGenerator = false) (hcell:∀ y ∈ scope.names,y.2 ≠ .cell) (rv:RelV v u) (hloc:scope.names.lookup x = some .local)
  (ho:s.heap.get? f = some (PySem.W.kla_obj "<lambda>" qual params body scope cl pm c' ctv)) (hcd:s.heap.CodeRec (.ref c') qual)
  (hbind:∀ u,bindArgs (PySem.W.kla_fn "<lambda>" qual params body scope cl pm (.ref c') ctv) ⟨[u],[]⟩ = pure [(x,u)])
  (hlen:σf.length = N.length) (hcl:∀ y c,cl.lookup y = some c -> X.env.cells.lookup y = some c) (hhas:∀ y,(scope.names.lookup y = some .cell \/ scope.names.lookup y = some .free) -> ∃ c,cl.lookup y = some c)
  (hf:∀ (i:Nat) (y:Str) (v:V),N[i]? = some y -> σf[i]? = some (some v) -> scope.names.lookup y = some .free /\ ∃ c u,cl.lookup y = some c /\ s.heap.IsCell c (some u) /\ RelV v u)
  (hb:PE (cxLam X A (x :: N) qual scope f (.ref c') cl s H) body t) (hq:t (some v :: σf) H Q) :
  wpAny (model X.prog X.w) A (call (.ref f) [u]) (EP X pins σ Q) (fun _ _ => False) s:=by
 refine wpAny_call (PySem.W.kla_callFunE hr.depth ho rfl hco hgen rfl hcd ?_);rw [hbind];refine wpAny_pure (wpAny_newFunctionEnv hcell (fun y hy => by rw [List.mem_singleton.mp hy];exact hloc) (fun h₁ hns hsb => ⟨I.nolimit.fresh _ hsb,?_⟩) hk)
 have old:∀ b o,s.heap.get? b = some o -> h₁.get? b = some o:=fun b o e => hsb.extBut b o (Nat.ne_of_lt (Heap.lt_size e)) (Heap.get?_push_of_some _ e);have J:=inv_lam (tk:=s.toks + 1) (qual:=qual) (f:=f) (cd:=.ref c') I hA hr.hd hk rv hloc hns old hlen hcl hhas hf;refine PySem.W.kla_codeExpr (wpAny_mono (hb [] _ _ H Q J hq) (fun w s' h => ?_) fun _ _ h => h.elim);obtain ⟨v',H',J',r',q'⟩:=h;exact I.after ⟨v',H',J'.os,J'.bare,J'.base,J'.hok,r',q'⟩
end
inductive Grow:Hp -> Hp -> Prop
 | refl {H:Hp}:Grow H H
 | more {H H1:Hp} {p:Addr} {o:HO}:Grow H H1 -> H1 p = none -> Grow H (upd H1 p o)
theorem Grow.same {H H1:Hp} (g:Grow H H1):Same H H1:=by
 induction g with
 | refl => exact Same.refl _
 | more g n ih => exact fun b o e => by rw [upd_ne (ne_of_none (ih b o e) n)];exact ih b o e
theorem Grow.trans {H H1 H2:Hp} (a:Grow H H1) (b:Grow H1 H2):Grow H H2:=by
 induction b with
 | refl => exact a
 | more _ n ih => exact .more ih n
theorem triples_app {i j:Int} {ti tj:Tok} {c:Value}:∀ l:List Value,TriplesOk l -> TriplesOk (l ++ [.int i ti,.int j tj,c])
 | [],_ => trivial
 | .int _ _ :: .int _ _ :: _ :: r,h => triples_app r (show TriplesOk r from h)
theorem among_app {p:Pos} {i j:Int} {ti tj:Tok} {c cv:Value}:∀ l:List Value,TriplesOk l -> codeAmong p (l ++ [.int i ti,.int j tj,c]) = some cv -> codeAmong p l = some cv \/ cv = c
 | [],_,e => by
  have e':(if (i == p.line && j == p.col) = true then some c else codeAmong p []) = some cv:=e
  by_cases z:(i == p.line && j == p.col) = true
  ·rw [if_pos z] at e';cases e';exact .inr rfl
  ·rw [if_neg z] at e';cases e'
 | .int a ta :: .int b tb :: d :: r,h,e => by
  have e':(if (a == p.line && b == p.col) = true then some d else codeAmong p (r ++ [.int i ti,.int j tj,c])) = some cv:=e
  show (if (a == p.line && b == p.col) = true then some d else codeAmong p r) = some cv \/ _
  by_cases z:(a == p.line && b == p.col) = true
  ·rw [if_pos z] at e' ⊢;exact .inl e'
  ·rw [if_neg z] at e' ⊢;exact among_app r (show TriplesOk r from h) e'
theorem tag_app (q:Str) (more:Array Value):tagOf (#[.str q 0] ++ more) = q:=by
 unfold tagOf;rw [Array.toList_append];rfl
structure LamAt (H:Hp) (f:Addr) (q:Str) (params:Arguments) (body:Expr) (scope:Scope) (cl:List (Str × Addr)) (c':Addr) (pm ctv:Value):Prop where
 fn:H f = some (.frz (PySem.W.kla_obj "<lambda>" q params body scope cl pm c' ctv) (.own f))
 cd:IsLam H q (.ref c')
section
variable {X:Cx} {pins:List (Addr × Obj)} {σ:St} {H:Hp} {s:Shared} {E:Value -> Shared -> Prop}
theorem LamAt.up {H1:Hp} {f c':Addr} {q:Str} {params:Arguments} {body:Expr} {scope:Scope} {cl:List (Str × Addr)} {pm ctv:Value} (x:LamAt H f q params body scope cl c' pm ctv) (g:∀ b o u,H b = some (.frz o u) -> H1 b = some (.frz o u)):LamAt H1 f q params body scope cl c' pm ctv :=
 ⟨g _ _ _ x.fn,let ⟨c,oc,vs,t,e1,e2,e3⟩:=x.cd;⟨c,oc,vs,t,e1,g _ _ _ e2,e3⟩⟩
theorem LamAt.get {f c':Addr} {q:Str} {params:Arguments} {body:Expr} {scope:Scope} {cl:List (Str × Addr)} {pm ctv:Value} (x:LamAt H f q params body scope cl c' pm ctv) (I:Inv X pins σ H s) :
  s.heap.get? f = some (PySem.W.kla_obj "<lambda>" q params body scope cl pm c' ctv) /\ s.heap.CodeRec (.ref c') q:=by
 obtain ⟨c,oc,vs,t,e1,e2,e3,e4⟩:=x.cd;exact ⟨(I.hok f _ x.fn).1,c,oc,vs,t,e1,(I.hok c _ e2).1,e3,e4⟩
theorem Inv.frzNew {f:Addr} {o:Obj} {t':Nat} {h':Heap} (I:Inv X pins σ H s) (k:∀ b u,s.heap.get? b = some u -> h'.get? b = some u) (hp:s.heap.objs.size <= f) (e:h'.get? f = some o):Inv X pins σ (upd H f (.frz o (.own f))) { s with heap:=h',toks:=t' } :=
 I.laid k hp ⟨e,o,e⟩
theorem lam_make (I:Inv X pins σ H s) {x:Str} {c P:Addr} (hx:x ∈ lamNames) (ht:PySem.W.tabIn X.K x = some (c,P)) (hcode:X.env.code = .ref c) (hq:X.env.qual = x ++ ".<locals>.") {params:Arguments} {body:Expr} {scope:Scope} {pos:Pos} {cl:List (Str × Addr)} {Q:Value -> Shared -> Prop}
  (hdef:defaultsOf params X.env = ([],[])) (hcl:closureFor scope X.env = pure cl)
  (h:∀ f c' pm ctv H1 s1,Grow H H1 -> Inv X pins σ H1 s1 -> LamAt H1 f ((x ++ ".<locals>.") ++ "<lambda>") params body scope cl c' pm ctv -> Q (.ref f) s1) :
  wpAny (model X.prog X.w) X.A (eval (.Lambda params body scope pos) X.env) Q E s:=by
 have hm:(c,P,(x ++ ".<locals>.") ++ "<lambda>") ∈ lamTabs X.K:=List.mem_filterMap.mpr ⟨x,hx,by rw [ht];rfl⟩
 obtain ⟨more,hP⟩:=(I.ok.tabs.un I.base) _ hm;have C:PySem.W.CodeHd s.heap c P:=(I.ok.mod.codes _ hm).keeps I.bk;obtain ⟨qs,eP,tr,fa⟩:=I.hok P _ hP;have hns:=I.ok.mod.glob.keeps I.bk;have hgP:mainGlobals ≠ P:=fun z => by
  obtain ⟨o,es,ep,e,_⟩:=I.ok.mod.glob;have:=(I.bs _ _ e).2;rw [z,hP] at this;cases this
 have hb:s.heap.BuiltinsAt X.mg P:=by
  obtain ⟨bm,ob,b1,b2,b3,b4,b5⟩:=I.ok.mod.bm;refine ⟨bm,ob,b1,b2,fun z => ?_,fun z => ?_,I.bk _ _ b3,b4,b5⟩
  ·obtain ⟨o,es,ep,e,hd,_⟩:=I.ok.mod.glob;rw [z,e] at b3;cases b3;rw [hd] at b5;cases b5.2
  ·have:=(I.bs _ _ b3).2;rw [z,hP] at this;cases this
 refine PySem.W.kla_eval hdef ?_;rw [hq]
 cases ca:codeAmong pos qs.toList with
 | some cv =>
  have il:=fa pos cv ca;rw [tag_app] at il;obtain ⟨c',oc,vs,t,rfl,e2,e3⟩:=il;refine PySem.W.kla_makeFunctionHit hcl I.ok.glob hns hcode C eP tr ca hb fun ctv h' tk hk hsz => ?_;have n0:H h'.objs.size = none:=I.hok.fresh hsz;have J:=I.frzNew (f:=h'.objs.size) (t':=tk) (h':=h'.push { cls:=.type "function",data:=.func (PySem.W.kla_fn "<lambda>" ((x ++ ".<locals>.") ++ "<lambda>") params body scope cl ((X.mg "__name__").getD .none) (.ref c') ctv) }) (fun b u e => Heap.get?_push_of_some _ (hk b u e)) hsz (Heap.get?_push_size _ rfl);exact h _ c' _ ctv _ _ (.more .refl n0) J ⟨upd_same,c',oc,vs,t,rfl,by rw [upd_ne (ne_of_none e2 n0)];exact e2,e3⟩
 | none =>
  refine PySem.W.kla_makeFunction hcl I.ok.glob hns hcode C eP tr ca hgP hb fun c' ctv h' tk hx2 hge hlt hrec htb => ?_;obtain ⟨c2,oc,vs,t,e2,hoc,hd,hv⟩:=hrec;cases e2;have nP:P ≠ c':=fun z => absurd (Heap.lt_size eP) (by rw [z];exact Nat.not_lt.mpr hge)
  have n1:H c' = none:=I.hok.fresh hge;have keep:∀ b u,b ≠ P -> s.heap.get? b = some u -> h'.get? b = some u:=fun b u hb' e => hx2 b u hb' e;have H1ne:∀ b u,H b = some u -> upd H c' (.frz oc (.own c')) b = some u:=fun b u e => by rw [upd_ne (ne_of_none e n1)];exact e
  have hoP:∀ y,H P ≠ some (.own y):=fun y z => by rw [hP] at z;cases z
  have J1:Inv X pins σ (upd H c' (.frz oc (.own c'))) { s with heap:=h',toks:=tk }:=by
   refine I.un ⟨fun b o e n _ _ => keep b o (fun z => by rw [z,hP] at n;cases n) e,fun b o e n _ _ => ⟨o.slots,keep b o (fun z => by rw [z,hP] at n;cases n) e⟩,fun b o e n _ => ?_,fun b o e _ => ?_,fun b xs e => H1ne b _ e,fun b o u e => H1ne b _ e,fun b ps e => ⟨#[],by rw [H1ne b _ e,Array.append_empty]⟩⟩ fun b u e => ?_
   ·rw [upd_ne (fun z => absurd (Heap.lt_size e) (by rw [z];exact Nat.not_lt.mpr hge))];exact n
   ·by_cases z:b = P
    ·rw [z];exact ⟨_,htb⟩
    ·exact ⟨o,keep b o z e⟩
   ·by_cases z:b = c'
    ·subst z;rw [upd_same] at e;cases e;exact ⟨hoc,oc,hoc⟩
    ·rw [upd_ne z] at e;by_cases z2:b = P
     ·subst z2;rw [hP] at e;cases e;refine ⟨_,htb,by rw [Array.toList_append];exact triples_app _ tr,fun p cv hc => ?_⟩
      rw [Array.toList_append] at hc;rcases among_app _ tr hc with q | q
      ·obtain ⟨c2,oc2,vs2,t2,g1,g2,g3⟩:=fa p cv q;exact ⟨c2,oc2,vs2,t2,g1,H1ne _ _ g2,g3⟩
      ·rw [tag_app];exact ⟨c',oc,vs,t,q,upd_same,hd,hv⟩
     ·refine (I.hok b u e).stay (fun c v hc q => keep c v ?_ q) (fun c q => H1ne c _ q) (fun c xs q => H1ne c _ q) fun c _ _ q => H1ne c _ q;rcases hc with rfl | hc
      ·exact z2
      ·exact fun z3 => hoP b (by rw [<- z3];exact hc)
  have n2:upd H c' (.frz oc (.own c')) h'.objs.size = none:=J1.hok.fresh (Nat.le_refl _);have J:=J1.frzNew (f:=h'.objs.size) (t':=tk) (h':=h'.push (PySem.W.kla_obj "<lambda>" ((x ++ ".<locals>.") ++ "<lambda>") params body scope cl ((X.mg "__name__").getD .none) c' ctv)) (fun b u e => Heap.get?_push_of_some _ e) (Nat.le_refl _) (Heap.get?_push_size _ rfl);exact h _ c' _ ctv _ _ (.more (.more .refl n1) n2) J ⟨upd_same,c',oc,vs,t,rfl,by rw [upd_ne (ne_of_none upd_same n2)];exact upd_same,hd,hv⟩
end
section
variable {α β:Type}
def insK (p:Int × α):List (Int × α) -> List (Int × α)
 | [] => [p]
 | q :: r => if p.1 <= q.1 then p :: q :: r else q :: insK p r
def sortK:List (Int × α) -> List (Int × α)
 | [] => []
 | p :: r => insK p (sortK r)
abbrev UpK (l:List (Int × α)):Prop:=l.Pairwise fun p q => p.1 <= q.1
def atK (a:Int) (l:List (Int × α)):List (Int × α):=l.filter fun p => decide (p.1 = a)
theorem insK_perm (p:Int × α):∀ l,(insK p l).Perm (p :: l)
 | [] => .refl _
 | q :: r => by
  unfold insK;split
  ·exact .refl _
  ·exact ((insK_perm p r).cons q).trans (List.Perm.swap p q r)
theorem sortK_perm:∀ l:List (Int × α),(sortK l).Perm l
 | [] => .refl _
 | p :: r => (insK_perm p _).trans ((sortK_perm r).cons p)
theorem insK_up {p:Int × α}:∀ {l:List (Int × α)},UpK l -> UpK (insK p l)
 | [],_ => List.pairwise_singleton _ _
 | q :: r,h => by
  obtain ⟨h1,h2⟩:=List.pairwise_cons.mp h;unfold insK;split
  ·rename_i c;exact List.pairwise_cons.mpr ⟨fun z hz => by
    rcases List.mem_cons.mp hz with rfl | hz
    ·exact c
    ·exact Int.le_trans c (h1 z hz),h⟩
  ·rename_i c;refine List.pairwise_cons.mpr ⟨fun z hz => ?_,insK_up h2⟩;rcases List.mem_cons.mp ((insK_perm p r).mem_iff.mp hz) with rfl | hz
   ·lia
   ·exact h1 z hz
theorem sortK_up:∀ l:List (Int × α),UpK (sortK l)
 | [] => List.Pairwise.nil
 | _ :: r => insK_up (sortK_up r)
theorem atK_cons (a:Int) (p:Int × α) (l:List (Int × α)):atK a (p :: l) = if p.1 = a then p :: atK a l else atK a l:=by
 unfold atK;rw [List.filter_cons];by_cases z:p.1 = a
 ·rw [if_pos z,if_pos (decide_eq_true z)]
 ·rw [if_neg z,if_neg (by simp [z])]
theorem insK_at {a:Int} {p:Int × α}:∀ {l:List (Int × α)},atK a (insK p l) = atK a (p :: l)
 | [] => rfl
 | q :: r => by
  unfold insK;split
  ·rfl
  ·rename_i c;rw [atK_cons,insK_at,atK_cons,atK_cons,atK_cons];by_cases z:p.1 = a
   ·have z2:¬ q.1 = a:=by lia
    simp only [z,z2,if_true,if_false]
   ·simp only [z,if_false]
theorem sortK_at {a:Int}:∀ l:List (Int × α),atK a (sortK l) = atK a l
 | [] => rfl
 | p :: r => by
  show atK a (insK p (sortK r)) = _;rw [insK_at,atK_cons,atK_cons,sortK_at r]
theorem atK_none {a:Int}:∀ {l:List (Int × α)},(∀ p ∈ l,a < p.1) -> atK a l = []
 | [],_ => rfl
 | p :: r,h => by
  have:=h p (List.mem_cons_self ..);rw [atK_cons,if_neg (by lia),atK_none fun q hq => h q (List.mem_cons_of_mem _ hq)]
theorem up_unique:∀ {l m:List (Int × α)},UpK l -> UpK m -> (∀ a,atK a l = atK a m) -> l = m
 | [],[],_,_,_ => rfl
 | [],q :: m,_,_,h => by
  have:=h q.1;rw [atK_cons,if_pos rfl] at this;cases this
 | p :: l,[],_,_,h => by
  have:=h p.1;rw [atK_cons,if_pos rfl] at this;cases this
 | p :: l,q :: m,hl,hm,h => by
  obtain ⟨l1,l2⟩:=List.pairwise_cons.mp hl;obtain ⟨m1,m2⟩:=List.pairwise_cons.mp hm;have e:p.1 = q.1:=by
   rcases Int.lt_trichotomy p.1 q.1 with z | z | z
   ·have q1:=h p.1;rw [atK_cons,if_pos rfl,atK_cons,if_neg (by lia),atK_none (l:=m) fun r hr => by have:=m1 r hr;lia] at q1
    cases q1
   ·exact z
   ·have q1:=h q.1;rw [atK_cons,if_neg (by lia),atK_cons,if_pos rfl,atK_none (l:=l) fun r hr => by have:=l1 r hr;lia] at q1
    cases q1
  have q1:=h p.1;rw [atK_cons,if_pos rfl,atK_cons,if_pos e.symm] at q1;obtain ⟨q2,q3⟩:=List.cons.inj q1;subst q2;congr 1;refine up_unique l2 m2 fun a => ?_;have q4:=h a;rw [atK_cons,atK_cons] at q4;by_cases z:p.1 = a
  ·rw [if_pos z,if_pos z] at q4;exact (List.cons.inj q4).2
  ·rw [if_neg z,if_neg z] at q4;exact q4
theorem sortK_of {l m:List (Int × α)} (hm:UpK m) (h:∀ a,atK a m = atK a l):m = sortK l:=up_unique hm (sortK_up l) fun a => by rw [h a,sortK_at]
abbrev PKs (R:α -> β -> Prop):List (Int × α) -> List (Int × β) -> Prop:=Paired fun p q => p.1 = q.1 /\ R p.2 q.2
theorem insK_rel {R:α -> β -> Prop} {p:Int × α} {q:Int × β} (h:p.1 = q.1 /\ R p.2 q.2) {l:List (Int × α)} {m:List (Int × β)} (k:PKs R l m):PKs R (insK p l) (insK q m):=by
 induction k with
 | nil => exact .cons h .nil
 | cons r t ih =>
  unfold insK;split
  ·rename_i z;rw [if_pos (by rw [<- h.1,<- r.1];exact z)]
   exact .cons h (.cons r t)
  ·rename_i z;rw [if_neg (by rw [<- h.1,<- r.1];exact z)]
   exact .cons r ih
theorem sortK_rel {R:α -> β -> Prop} {l:List (Int × α)} {m:List (Int × β)} (k:PKs R l m):PKs R (sortK l) (sortK m):=by
 induction k with
 | nil => exact .nil
 | cons r t ih => exact insK_rel r ih
theorem zipK_rel {R:α -> β -> Prop} {ks:List Int} {l:List α} {m:List β} (k:Paired R l m):PKs R (ks.zip l) (ks.zip m):=by
 induction k generalizing ks with
 | nil => rw [List.zip_nil_right,List.zip_nil_right];exact .nil
 | cons r t ih =>
  cases ks with
  | nil => exact .nil
  | cons k ks => exact .cons ⟨rfl,r⟩ ih
theorem sndK_rel {R:α -> β -> Prop} {l:List (Int × α)} {m:List (Int × β)} (k:PKs R l m):Paired R (l.map (·.2)) (m.map (·.2)):=by
 induction k with
 | nil => exact .nil
 | cons r t ih => exact .cons r.2 ih
def byK (ks:List Int) (l:List α):List α:=(sortK (ks.zip l)).map (·.2)
theorem byK_rel {R:α -> β -> Prop} {ks:List Int} {l:List α} {m:List β} (h:Paired R l m):Paired R (byK ks l) (byK ks m):=sndK_rel (sortK_rel (zipK_rel h))
theorem byK_len {ks:List Int} {l:List α} (h:ks.length = l.length):(byK ks l).length = l.length:=by
 unfold byK;rw [List.length_map,(sortK_perm _).length_eq,List.length_zip,h,Nat.min_self]
theorem byK_perm {ks:List Int} {l:List α} (h:ks.length = l.length):(byK ks l).Perm l:=by
 have h2:((ks.zip l).map (·.2)) = l:=List.map_snd_zip (by lia)
 have h3:=(sortK_perm (ks.zip l)).map (·.2);rw [h2] at h3;exact h3
end
theorem vals_paired:∀ {xs:List V} {us:List Value},Vals xs us -> Paired RelV xs us
 | _,_,.nil => .nil
 | _,_,.cons r t => .cons r (vals_paired t)
theorem paired_vals:∀ {xs:List V} {us:List Value},Paired RelV xs us -> Vals xs us
 | _,_,.nil => .nil
 | _,_,.cons r t => .cons r (paired_vals t)
theorem ints_at:∀ {us:List Value} {ns:List Int},IntsAre us ns -> ∀ {i:Nat},i < ns.length -> ∃ t,us.getD i Value.none = .int (ns.getD i 0) t
 | _,_,.cons n t h,0,_ => ⟨t,rfl⟩
 | _,_,.cons n t h,i + 1,hi => ints_at h (i:=i) (by simpa using hi)
theorem sp_byK {us:List Value} {kz:List Int} {p:List Nat} (hl:kz.length = us.length) (hp:p.Perm (List.range us.length)) (hr:p.Pairwise (SP.R fun i => kz.getD i 0)):p.map (fun i => us.getD i Value.none) = byK kz us:=by
 have ez:(List.range us.length).map (fun i => (kz.getD i 0,us.getD i Value.none)) = kz.zip us:=by
  apply List.ext_getElem
  ·rw [List.length_map,List.length_range,List.length_zip,hl,Nat.min_self]
  ·intro i h1 h2;rw [List.length_map,List.length_range] at h1;rw [List.getElem_map,List.getElem_range,List.getElem_zip];simp [h1,hl]
 have e1:p.map (fun i => (kz.getD i 0,us.getD i Value.none)) = sortK (kz.zip us):=by
  refine sortK_of ?_ fun a => ?_
  ·exact List.pairwise_map.mpr (hr.imp fun h => h.le)
  ·have fl:∀ l:List Nat,atK a (l.map fun i => (kz.getD i 0,us.getD i Value.none)) = (l.filter fun i => decide (kz.getD i 0 = a)).map fun i => (kz.getD i 0,us.getD i Value.none):=fun l => by
    unfold atK;rw [List.filter_map];rfl
   rw [<- ez,fl,fl];congr 1;refine List.Perm.eq_of_pairwise (le:=(· < ·)) (fun a b _ _ h g => absurd h (Nat.lt_asymm g)) ?_ (List.pairwise_lt_range.filter _) (hp.filter _);rw [List.pairwise_filter];refine hr.imp fun {i j} h hi hj => ?_;have hi:=of_decide_eq_true hi;have hj:=of_decide_eq_true hj;rcases h with h | h
   ·exfalso;have h':kz.getD i 0 < kz.getD j 0:=h;lia
   ·exact h.2
 unfold byK;rw [<- e1,List.map_map];rfl
section
variable {X:Cx} {pins:List (Addr × Obj)} {σ:St} {H:Hp} {s:Shared} {E:Value -> Shared -> Prop}
theorem Inv.take {D:Addr} {ob:Obj} {o:HO} {t':Nat} {h':Heap} (I:Inv X ((D,ob) :: pins) σ H s) (hs0:X.s₀.heap.objs.size <= D) (hnp:∀ p ∈ X.pn ++ pins,p.1 ≠ D) (k:∀ b u,b ≠ D -> s.heap.get? b = some u -> h'.get? b = some u) (new:ObjOk X.prog X.w (upd H D o) h' D o) :
  Inv X pins σ (upd H D o) { s with heap:=h',toks:=t' }:=by
 obtain ⟨g1,g2,g3,g4,g5⟩:=I.pin (D,ob) (List.mem_append_right _ (List.mem_cons_self ..));have I0:Inv X pins σ H s:=⟨I.ok,I.os,I.bare,I.base,I.loc,I.cell,I.free,I.freeC,fun p hp => I.pin p ((List.mem_append.mp hp).elim (fun z => List.mem_append_left _ z) fun z => List.mem_append_right _ (List.mem_cons_of_mem _ z)),I.hok,I.len⟩;have ne:∀ b u,H b = some u -> b ≠ D:=fun b u e => ne_of_none e g2;refine I0.step (g':=s.gens) (d':=s.drawn) (ch:=[D]) (fun b hb => ?_) (fun b o' _ _ hc e _ => k b o' (fun z => hc (by rw [z];exact List.mem_singleton.mpr rfl)) e) (fun b o' _ _ hc e _ => ⟨o'.slots,k b o' (fun z => hc (by rw [z];exact List.mem_singleton.mpr rfl)) e⟩) (fun b o' hc e n => by rw [upd_ne (fun z => hc (by rw [z];exact List.mem_singleton.mpr rfl))];exact n)
  (fun b o' hc e => ⟨o',k b o' (fun z => hc (by rw [z];exact List.mem_singleton.mpr rfl)) e⟩) (fun b xs e => by rw [upd_ne (ne b _ e)];exact e) (fun b o' u e => by rw [upd_ne (ne b _ e)];exact e) (fun b ps e => ⟨#[],by rw [upd_ne (ne b _ e),e,Array.append_empty]⟩) (fun m hm => ?_) (fun b u e => ?_) I.bare
 ·rw [List.mem_singleton.mp hb];refine ⟨.inr hs0,g3,fun x c e z => ?_,hnp⟩;obtain ⟨v,o',ho',hd⟩:=I.cell x c e;rw [z,g1] at ho';cases ho';exact g5 v hd
 ·obtain ⟨o',es,ep,ho',r⟩:=hm;exact ⟨o',es,ep,k _ _ (Ne.symm g3) ho',r⟩
 ·by_cases z:b = D
  ·subst z;rw [upd_same] at e;cases e;exact new
  ·rw [upd_ne z] at e;refine (I.hok b u e).stay (fun c v hc q => k c v ?_ q) (fun c q => by rw [upd_ne (ne c _ q)];exact q) (fun c xs q => by rw [upd_ne (ne c _ q)];exact q) fun c _ _ q => by rw [upd_ne (ne c _ q)];exact q
   rcases hc with rfl | hc
   ·exact z
   ·exact ne c _ hc
theorem sk_tail {A:Around} {D e1:Nat} {st:SortSt} {kS:Addr} {xs:List V} {us:List Value} {kz:List Int} {P:PySem.Fin -> Shared -> Prop}
  (I:Inv X ((D,seqObj "list" #[] e1) :: pins) σ (upd H kS (.lst (kz.map V.int))) s) (hkS:H kS = none) (hD:H D = none) (hkD:kS ≠ D) (hs0:X.s₀.heap.objs.size <= D) (hnp:∀ p ∈ X.pn ++ pins,p.1 ≠ D)
  (hv:Vals xs us) (hlen:kz.length = us.length) (h64:us.length < 64) (ho:((arrOf st).map (·.2)).toList = byK kz us) (hfl:failedOf st = none)
  (h:∀ s',Inv X pins σ (upd (upd H kS (.lst [])) D (.lst (byK kz xs))) s' -> P (.done (.ret .none)) s') :
  wpAny (model X.prog X.w) A (ksk_tail D false e1 (.ref kS) st) P E s:=by
 obtain ⟨_,its,n,vr,ek⟩:=I.hok kS _ upd_same;have hz:its.toArray.size <= sizeLine:=by
  rw [List.size_toArray,<- vr.length,List.length_map,hlen,sizeLine_eq];lia
 have pD:=I.pin _ (List.mem_append_right _ (List.mem_cons_self ..));have hout:((arrOf st).map (·.2)).size = us.length:=by
  rw [<- Array.length_toList,ho,byK_len hlen]
 have s1:=Heap.SameBut.update s.heap kS (Obj.mapSeq fun _ => (#[]:Array Value));obtain ⟨c1,hc1⟩:∃ c,(s.heap.update kS (Obj.mapSeq fun _ => (#[]:Array Value))).get? kS = some (seqObj "list" #[] c):=⟨_,get?_update_seq ek fun _ => #[]⟩;have J1:Inv X ((D,seqObj "list" #[] e1) :: pins) σ (upd H kS (.lst [])) { s with heap:=s.heap.update kS (Obj.mapSeq fun _ => (#[]:Array Value)) }:=by
  have J:=I.write (x:=kS) (e:=kS) (o:=.lst []) (t':=s.toks) (h':=s.heap.update kS (Obj.mapSeq fun _ => (#[]:Array Value))) (by rw [upd_same];trivial) (.inl rfl) (fun b u hb q => (s1.2 b hb).trans q) ⟨_,hc1⟩ ⟨Nat.zero_le _,[],c1,.nil,hc1⟩
  rw [upd_upd] at J;exact J
 have pD1:=J1.pin _ (List.mem_append_right _ (List.mem_cons_self ..));have s2:=Heap.SameBut.update (s.heap.update kS (Obj.mapSeq fun _ => (#[]:Array Value))) D (Obj.mapSeq fun _ => (arrOf st).map (·.2));obtain ⟨c2,hc2⟩:∃ c,((s.heap.update kS (Obj.mapSeq fun _ => (#[]:Array Value))).update D (Obj.mapSeq fun _ => (arrOf st).map (·.2))).get? D = some (seqObj "list" ((arrOf st).map (·.2)) c):=⟨_,get?_update_seq pD1.1 fun _ => (arrOf st).map (·.2)⟩;have vB:Vals (byK kz xs) (byK kz us):=paired_vals (byK_rel (vals_paired hv));unfold ksk_tail;dsimp only;refine wpAny_bind (listUpdate_at ek rfl ?_ hz (Nat.zero_le _));refine wpAny_bind (wpAny_letGo ?_);refine wpAny_bind (seqEpoch_at pD1.1 rfl ?_);refine wpAny_bind (listUpdate_at pD1.1 rfl ?_ (Nat.zero_le _) (by show ((arrOf st).map (·.2)).size <= _;rw [hout,sizeLine_eq];lia))
 rw [hfl];simp only [bne_self_eq_false,Bool.false_eq_true,if_false];refine wpAny_pure (h _ (J1.take hs0 hnp (fun b u hb q => (s2.2 b hb).trans q) ⟨?_,byK kz us,c2,vB,?_⟩))
 ·rw [vB.length,byK_len hlen,sizeLine_eq];lia
 ·rw [<- ho,Array.toArray_toList];exact hc2
theorem sk_end {A:Around} {D e1:Nat} {kS:Addr} {xs:List V} {us:List Value} {kz:List Int} {keys:Array Value} {P:PySem.Fin -> Shared -> Prop}
  (I:Inv X ((D,seqObj "list" #[] e1) :: pins) σ (upd H kS (.lst (kz.map V.int))) s) (hkS:H kS = none) (hD:H D = none) (hkD:kS ≠ D) (hs0:X.s₀.heap.objs.size <= D) (hnp:∀ p ∈ X.pn ++ pins,p.1 ≠ D)
  (hv:Vals xs us) (hlen:kz.length = us.length) (h64:us.length < 64) (hk:IntsAre keys.toList kz)
  (h:∀ s',Inv X pins σ (upd (upd H kS (.lst [])) D (.lst (byK kz xs))) s' -> P (.done (.ret .none)) s') :
  wpAny (model X.prog X.w) A (ksk_end D false us.toArray e1 (.ref kS) keys) P E s:=by
 have hsz:keys.size = us.length:=by
  have z:=hk.length;rw [Array.length_toList] at z;exact z.trans hlen
 have hzs:(keys.zip us.toArray).size = us.length:=by
  rw [Array.size_zip,hsz,List.size_toArray,Nat.min_self]
 unfold ksk_end;dsimp only;rw [if_neg Bool.false_ne_true,if_neg Bool.false_ne_true];by_cases h2:us.toArray.size < 2
 ·rw [if_pos h2,if_pos h2];refine wpAny_bind (wpAny_pure ?_);rw [StateT.run_pure];refine wpAny_bind (wpAny_pure ?_);dsimp only;refine sk_tail I hkS hD hkD hs0 hnp hv hlen h64 ?_ rfl h;rw [List.size_toArray] at h2;have:=sp_byK (us:=us) (kz:=kz) (p:=List.range us.length) hlen (List.Perm.refl _) (by
   rcases us with _ | ⟨x,_ | ⟨y,r⟩⟩
   ·exact .nil
   ·simp
   ·exfalso;simp only [List.length_cons] at h2;lia)
  rw [<- this];show ((keys.zip us.toArray).map (·.2)).toList = _;rw [Array.toList_map,Array.toList_zip,List.map_snd_zip (by simp only [Array.length_toList,List.size_toArray];lia)]
  apply List.ext_getElem
  ·simp
  ·intro i h1 h2;have h1':i < us.length:=h1;simp [h1']
 ·rw [if_neg h2,if_neg h2];rw [List.size_toArray] at h2;rw [ksk_kind hk (by lia)]
  refine wpAny_bind (wpAny_pure ?_);have ek:keys = keys.toList.toArray:=(Array.toArray_toList).symm;have hkl:keys.toList.length = us.length:=by rw [Array.length_toList,hsz]
  have hat:∀ i,i < us.length -> ∃ t,keys.toList.getD i Value.none = .int (kz.getD i 0) t:=fun i hi => ints_at hk (by rw [hlen];exact hi)
  generalize keys.toList = ks at *;subst ek;refine wpAny_bind (wpAny_mono (PySem.W.kat_run (ks:=ks) (vs:=us) (κ:=oneType') (Q:=fun st' s' => s' = s /\ failedOf st' = none /\ ((arrOf st').map (·.2)).toList = byK kz us)
   (G:=fun p s' => s' = s /\ p.toList.Perm (List.range us.length) /\ p.toList.Pairwise (SP.R fun i => kz.getD i 0)) hkl (by lia) h64 (fun p st' s' a1 a2 a3 a4 => ⟨a4.1,a3,by rw [PySem.W.kat_snds hkl a2];exact sp_byK hlen a4.2.1 a4.2.2⟩) ?_) ?_ fun _ _ e => e)
  ·refine SP.sort_ok (k:=fun i => kz.getD i 0) (I:=fun s' => s' = s) (fun i j C s' hi hj hI hC => ?_) (by lia) rfl fun p s' hp hr hI => ⟨hI,hp,hr⟩
   subst hI;obtain ⟨t1,e1⟩:=hat i hi;obtain ⟨t2,e2⟩:=hat j hj;unfold PySem.W.kas_ask;rw [e1,e2];exact PySem.W.kat_lt_int (hC _ rfl)
  rintro ⟨⟨⟩,st'⟩ s' ⟨rfl,hf,ho⟩;dsimp only;exact sk_tail I hkS hD hkD hs0 hnp hv hlen h64 ho hf h
theorem vals_ints':∀ {us:List Value} {ns:List Int},Vals (ns.map V.int) us -> IntsAre us ns
 | _,[],.nil => .nil
 | _,n :: ns,.cons ⟨t,e⟩ r => by subst e;exact .cons n t (vals_ints' r)
theorem sk_rest {A:Around} {D e1:Nat} {kS:Addr} {xs:List V} {us:List Value} {kz:List Int} {f:Value} {P:PySem.Fin -> Shared -> Prop}
  (I:Inv X ((D,seqObj "list" #[] e1) :: pins) σ (upd H kS (.lst [])) s) (hkS:H kS = none) (hD:H D = none) (hkD:kS ≠ D) (hs0:X.s₀.heap.objs.size <= D) (hnp:∀ p ∈ X.pn ++ pins,p.1 ≠ D)
  (hv:Vals xs us) (hlen:kz.length = us.length) (h64:us.length < 64)
  (turn:∀ (i:Nat) (u:Value) (k:Int),us[i]? = some u -> kz[i]? = some k -> ∀ pins' H' s',Grow H H' -> Inv X pins' σ H' s' -> wpAny (model X.prog X.w) A (call f [u]) (fun r s2 => (∃ t,r = .int k t) /\ Inv X pins' σ H' s2) (fun _ _ => False) s')
  (h:∀ s',Inv X pins σ (upd (upd H kS (.lst [])) D (.lst (byK kz xs))) s' -> P (.done (.ret .none)) s') :
  wpAny (model X.prog X.w) A (ksk_rest D f false us.toArray e1 (.ref kS)) P E s:=by
 unfold ksk_rest;refine wpAny_bind (wpAny_rule ?_)
 first
  | rw [List.forIn_toArray]
  | (rw [<- Array.forIn_toList];simp only [List.toList_toArray])
 refine wpAny_bind (ksk_fold (fun i s' => Inv X ((D,seqObj "list" #[] e1) :: pins) σ (upd H kS (.lst ((kz.take i).map V.int))) s') us 0 s I ?one ?all)
 case one =>
  intro j u s' hu J;rw [Nat.zero_add] at J ⊢;have hj:j < us.length:=(List.getElem?_eq_some_iff.mp hu).1;obtain ⟨k,hkj⟩:∃ k,kz[j]? = some k:=⟨_,List.getElem?_eq_getElem (by lia)⟩
  refine wpAny_bind (wpAny_attempt (wpAny_mono (turn j u k hu hkj _ _ s' (.more .refl hkS) J) (fun r s2 hr => ?_) fun _ _ z => z.elim));obtain ⟨⟨t,rfl⟩,J2⟩:=hr;dsimp only;obtain ⟨_,its,n,vr,ek⟩:=J2.hok kS _ upd_same;have lenI:its.length <= us.length:=by
   rw [<- vr.length,List.length_map,List.length_take];lia
  have s1:=Heap.SameBut.update s2.heap kS (Obj.mapSeq (·.push (.int k t)));obtain ⟨c1,hc1⟩:∃ c,(s2.heap.update kS (Obj.mapSeq (·.push (.int k t)))).get? kS = some (seqObj "list" (its.toArray.push (.int k t)) c):=⟨_,get?_update_seq ek (·.push (.int k t))⟩;have et:kz.take (j + 1) = kz.take j ++ [k]:=by
   rw [List.take_add_one,hkj];rfl
  have vr2:Vals ((kz.take (j + 1)).map V.int) (its ++ [.int k t]):=by
   rw [et,List.map_append];exact vr.append (.cons ⟨t,rfl⟩ .nil)
  refine wpAny_bind (listUpdate_at ek rfl ?_ (by rw [List.size_toArray,sizeLine_eq];lia) (by show (its.toArray.push (.int k t)).size <= _;rw [Array.size_push,List.size_toArray,sizeLine_eq];lia))
  refine wpAny_pure ⟨rfl,?_⟩;have J3:=J2.write (x:=kS) (e:=kS) (o:=.lst ((kz.take (j + 1)).map V.int)) (t':=s2.toks) (h':=s2.heap.update kS (Obj.mapSeq (·.push (.int k t)))) (by rw [upd_same];trivial) (.inl rfl) (fun b u hb q => (s1.2 b hb).trans q) ⟨_,hc1⟩
   ⟨by rw [List.length_map,List.length_take,sizeLine_eq];lia,its ++ [.int k t],c1,vr2,by rw [hc1,List.push_toArray]⟩
  rw [upd_upd] at J3;exact J3
 case all =>
  intro s' J;have ez:kz.take (0 + us.length) = kz:=List.take_of_length_le (by lia)
  have J':Inv X ((D,seqObj "list" #[] e1) :: pins) σ (upd H kS (.lst (kz.map V.int))) s':=by
   rw [<- ez];rw [ez];simpa only [ez] using J
  obtain ⟨_,its,n,vr,ek⟩:=J'.hok kS _ upd_same;refine wpAny_bind (listItems_at ek rfl ?_);exact sk_end J' hkS hD hkD hs0 hnp hv hlen h64 (by rw [List.toList_toArray];exact vals_ints' vr) h
theorem sk_tree {A:Around} {D:Addr} {n0:Nat} {h0:Heap} {xs:List V} {us:List Value} {kz:List Int} {f:Value} {P:PySem.Fin -> Shared -> Prop}
  (I:Inv X pins σ H s) (k0:∀ b o,s.heap.get? b = some o -> h0.get? b = some o) (hDs:s.heap.objs.size <= D) (ho:h0.get? D = some (seqObj "list" us.toArray n0)) (hv:Vals xs us) (hlen:kz.length = us.length) (h64:us.length < 64)
  (turn:∀ (i:Nat) (u:Value) (k:Int),us[i]? = some u -> kz[i]? = some k -> ∀ pins' H' s',Grow H H' -> Inv X pins' σ H' s' -> wpAny (model X.prog X.w) A (call f [u]) (fun r s2 => (∃ t,r = .int k t) /\ Inv X pins' σ H' s2) (fun _ _ => False) s')
  (h:∀ H' s',Grow H H' -> H' D = none -> Inv X pins σ (upd H' D (.lst (byK kz xs))) s' -> P (.done (.ret .none)) s') :
  wpAny (model X.prog X.w) A (ksk_tree D f false) P E { s with heap:=h0 }:=by
 have hsz0:D < h0.objs.size:=Heap.lt_size ho;have s1:=Heap.SameBut.update h0 D (Obj.mapSeq fun _ => (#[]:Array Value));obtain ⟨e1,ho1⟩:∃ e,(h0.update D (Obj.mapSeq fun _ => (#[]:Array Value))).get? D = some (seqObj "list" #[] e):=⟨_,get?_update_seq ho fun _ => #[]⟩;have hkz:((h0.update D (Obj.mapSeq fun _ => (#[]:Array Value))).push (seqObj "tuple" us.toArray 0)).objs.size = h0.objs.size + 1:=by
  rw [size_push',Heap.size_update]
 have nD:∀ b o,s.heap.get? b = some o -> b ≠ D:=fun b o e => Nat.ne_of_lt (Nat.lt_of_lt_of_le (Heap.lt_size e) hDs);have keep:∀ b o,s.heap.get? b = some o -> (((h0.update D (Obj.mapSeq fun _ => (#[]:Array Value))).push (seqObj "tuple" us.toArray 0)).push (seqObj "list" #[] 0)).get? b = some o:=fun b o e =>
  Heap.get?_push_of_some _ (Heap.get?_push_of_some _ ((s1.2 b (nD b o e)).trans (k0 b o e)))
 have hle:s.heap.objs.size <= h0.objs.size + 1:=Nat.le_trans hDs (Nat.le_succ_of_le (Nat.le_of_lt hsz0));have hkD:h0.objs.size + 1 ≠ D:=Nat.ne_of_gt (Nat.lt_succ_of_lt hsz0);have hkS:H (h0.objs.size + 1) = none:=I.hok.fresh hle;have hD:H D = none:=I.hok.fresh hDs;have hnp:∀ p ∈ X.pn ++ pins,p.1 ≠ D:=fun p hp => nD _ _ (I.pin p hp).1;have J0:Inv X pins σ (upd H (h0.objs.size + 1) (.lst [])) { s with heap:=((h0.update D (Obj.mapSeq fun _ => (#[]:Array Value))).push (seqObj "tuple" us.toArray 0)).push (seqObj "list" #[] 0) } :=
  I.laid (t':=s.toks) keep hle ⟨Nat.zero_le _,[],0,.nil,by rw [<- hkz];exact Heap.get?_push_size _ rfl⟩
 have J:Inv X ((D,seqObj "list" #[] e1) :: pins) σ (upd H (h0.objs.size + 1) (.lst [])) { s with heap:=((h0.update D (Obj.mapSeq fun _ => (#[]:Array Value))).push (seqObj "tuple" us.toArray 0)).push (seqObj "list" #[] 0) }:=by
  refine J0.pins_of fun p hp => ?_;rcases List.mem_cons.mp hp with rfl | hp
  ·exact ⟨Heap.get?_push_of_some _ (Heap.get?_push_of_some _ ho1),by rw [upd_ne (Ne.symm hkD)];exact hD,fun z => absurd I.lt (by rw [<- z];exact Nat.not_lt.mpr hDs),I.nofs hDs,fun v z => by cases z⟩
  ·exact J0.pin p (List.mem_append_right _ hp)
 unfold ksk_tree;refine wpAny_bind (listItems_at ho rfl ?_);refine wpAny_bind (listUpdate_at ho rfl ?_ (by rw [List.size_toArray,sizeLine_eq];lia) (Nat.zero_le _))
 refine wpAny_bind (seqEpoch_at ho1 rfl ?_);refine wpAny_bind (wpAny_newTuple ?_ (by show us.length <= _;rw [sizeLine_eq];lia))
 refine wpAny_bind (wpAny_newList ?_ (Nat.zero_le _));refine wpAny_holding ?_;show wpAny _ _ (ksk_rest D f false us.toArray e1 (.ref ((h0.update D (Obj.mapSeq fun _ => (#[]:Array Value))).push (seqObj "tuple" us.toArray 0)).objs.size)) _ _ _;rw [hkz];exact sk_rest J hkS hD hkD (Nat.le_trans I.sz hDs) hnp hv hlen h64 turn fun s' K => h _ s' (.more .refl hkS) (by rw [upd_ne (Ne.symm hkD)];exact hD) K
end
def tLam (q:Str) (params:Arguments) (body:Expr) (scope:Scope) (cl:List (Str × Addr)):TE:=fun _ H Q => ∀ f c' pm ctv H1,Grow H H1 -> LamAt H1 f q params body scope cl c' pm ctv -> Q (.ref f) H1
theorem pe_lam {X:Cx} {x:Str} {c P:Addr} (hx:x ∈ lamNames) (ht:PySem.W.tabIn X.K x = some (c,P)) (hcode:X.env.code = .ref c) (hq:X.env.qual = x ++ ".<locals>.") {params:Arguments} {body:Expr} {scope:Scope} {pos:Pos} {cl:List (Str × Addr)}
  (hdef:defaultsOf params X.env = ([],[])) (hcl:closureFor scope X.env = pure cl):PE X (.Lambda params body scope pos) (tLam ((x ++ ".<locals>.") ++ "<lambda>") params body scope cl):=fun pins s σ H Q I h =>
 lam_make I hx ht hcode hq hdef hcl fun f c' pm ctv H1 s1 g J l => ⟨.ref f,H1,J,rfl,h f c' pm ctv H1 g l⟩
section
variable {X:Cx} {pins:List (Addr × Obj)} {σ:St} {H:Hp} {s:Shared} {E:Value -> Shared -> Prop}
def Colls (X:Cx) (A:Around) (s:Shared) (l:Addr) (xs:List V):Prop:=∀ (Q:List Value -> Shared -> Prop) (E:Value -> Shared -> Prop),(∀ h0 tk us,(∀ b o,s.heap.get? b = some o -> h0.get? b = some o) -> s.heap.objs.size <= h0.objs.size -> Vals xs us -> Q us { s with heap:=h0,toks:=tk }) -> wpAny (model X.prog X.w) A (collect (.ref l)) Q E s
theorem sk_sorted {A:Around} {l f:Addr} {xs:List V} {kz:List Int} {Q:VK} (I:Inv X pins σ H s) (hcol:Colls X A.in1 s l xs) (hlen:kz.length = xs.length) (h64:xs.length < 64)
  (turn:∀ (i:Nat) (v:V) (u:Value) (k:Int),xs[i]? = some v -> RelV v u -> kz[i]? = some k -> ∀ pins' H' s',Grow H H' -> Inv X pins' σ H' s' -> wpAny (model X.prog X.w) A.in1.in1 (call (.ref f) [u]) (fun r s2 => (∃ t,r = .int k t) /\ Inv X pins' σ H' s2) (fun _ _ => False) s')
  (h:∀ H' D,Grow H H' -> H' D = none -> Q (.ref D) (upd H' D (.lst (byK kz xs)))) :
  wpAny (model X.prog X.w) A (call (.builtin "sorted") [.ref l] [(Str.ofString "key",.ref f)]) (EP X pins σ Q) E s:=by
 refine call_function_entry_kw kind_sorted plain_sorted entry_sorted (ksk_s1 _ _) ?_;unfold Builtin.«sorted»;refine wpAny_bind (m:=checkCount "sorted" 1 1 _) (wpAny_pure (wpAny_bind (hcol _ _ fun h0 tk us k0 hz hv => ?_)));have ul:us.length = xs.length:=hv.length.symm;refine wpAny_bind (wpAny_newList ?_ (by rw [ul,sizeLine_eq];lia))
 have hoL:(h0.push (seqObj "list" us.toArray 0)).get? h0.objs.size = some (seqObj "list" us.toArray 0):=Heap.get?_push_size _ rfl;refine wpAny_bind (wpAny_holding (wpAny_call_entry_kw slot_list_sort ⟨_,hoL,rfl⟩ entry_list_sort ?srt (ksk_l1 _ _)))
 case srt =>
  show wpAny _ A.in1.in1 (Builtin.«list.sort» ⟨[.ref h0.objs.size],[(Str.ofString "key",.ref f)]⟩) _ _ _;rw [ksk_t1];refine sk_tree (s:={ s with toks:=tk }) (h0:=h0.push (seqObj "list" us.toArray 0)) (I.tok tk) (fun b o e => Heap.get?_push_of_some _ (k0 b o e)) hz hoL hv (by rw [ul];exact hlen) (by rw [ul];exact h64)
   (fun i u k hu hk pins' H' s' g J => ?_) fun H' s' g n J => ⟨_,rfl,?_⟩
  ·have hi:i < xs.length:=by rw [<- ul];exact (List.getElem?_eq_some_iff.mp hu).1
   obtain ⟨u',hu',rv⟩:=hv.get (List.getElem?_eq_getElem hi);rw [hu] at hu';cases hu';exact turn i _ u k (List.getElem?_eq_getElem hi) rv hk pins' H' s' g J
  ·exact wpAny_pure ⟨_,rfl,.ref h0.objs.size,_,J,rfl,h H' _ g n⟩
def tSortK (src:Hp -> Addr -> List V -> Prop) (pre:V -> Int -> Hp -> St -> Prop) (fr:St -> St) (t:TA):TE:=fun σ H Q => t σ H fun vs H1 => ∃ l xs kz,vs = [.ref l] /\ src H1 l xs /\ kz.length = xs.length /\ xs.length < 64 /\
 (∀ (i:Nat) (v:V) (k:Int),xs[i]? = some v -> kz[i]? = some k -> ∀ H',Grow H1 H' -> pre v k H' (fr σ)) /\ ∀ H2 D,Grow H1 H2 -> H2 D = none -> Q (.ref D) (upd H2 D (.lst (byK kz xs)))
theorem pe_sortK {e:Expr} {t:TA} {p pos kpos lpos:Pos} {x q:Str} {N:List Str} {params:Arguments} {body:Expr} {scope:Scope} {cl:List (Str × Addr)} {k:Nat} {src:Hp -> Addr -> List V -> Prop} {pre:V -> Int -> Hp -> St -> Prop} {fr:St -> St}
  (hg:Gl X "sorted") (hm:X.mg "sorted" = none) (ha:PA X [e] t) (h1:nst e = true) (hr:Room (k + 3) X.A) (hL:PE X (.Lambda params body scope lpos) (tLam q params body scope cl))
  (hsrc:∀ pins σ H s H1 l xs A,Inv X pins σ H s -> src H1 l xs -> Grow H1 H -> A.handled = none -> xs.length < 64 -> Colls X A s l xs)
  (hk:scope.kind = .function) (hco:scope.isCoroutine = false) (hgen:scope.isGenerator = false) (hcell:∀ y ∈ scope.names,y.2 ≠ .cell) (hloc:scope.names.lookup x = some .local)
  (hbind:∀ c' pm ctv u,bindArgs (PySem.W.kla_fn "<lambda>" q params body scope cl pm (.ref c') ctv) ⟨[u],[]⟩ = pure [(x,u)])
  (hlen:∀ σ:St,(fr σ).length = N.length) (hcl:∀ y c,cl.lookup y = some c -> X.env.cells.lookup y = some c) (hhas:∀ y,(scope.names.lookup y = some .cell \/ scope.names.lookup y = some .free) -> ∃ c,cl.lookup y = some c)
  (hf:∀ pins σ H s,Inv X pins σ H s -> ∀ (i:Nat) (y:Str) (v:V),N[i]? = some y -> (fr σ)[i]? = some (some v) -> scope.names.lookup y = some .free /\ ∃ c u,cl.lookup y = some c /\ s.heap.IsCell c (some u) /\ RelV v u)
  (hbody:∀ A f c' s' H' σf v i,pre v i H' σf -> ∃ t,PE (cxLam X A (x :: N) q scope f (.ref c') cl s' H') body t /\ t (some v :: σf) H' (fun w H2 => w = .int i /\ H2 = H')) :
  PE X (.Call (.Name "sorted" p) [e] [⟨some "key",.Lambda params body scope lpos,kpos⟩] pos) (tSortK src pre fr t):=by
 intro pins s σ H Q I h;refine wpAny_Call_Name_kw (ld_blt I hg hm (u:=.builtin "sorted") (by decide +kernel) ?_ (by decide) (by decide))
 have hkw:PK X [⟨some "key",.Lambda params body scope lpos,kpos⟩] (tCons (tLam q params body scope cl) tNil):=pk_cons hL pk_nil;refine callWith_kw ?_ (by rw [star1 h1];rfl) (by rw [star1 h1];rfl) rfl rfl
 refine thn (ha pos pins s σ H _ I h) fun us s1 hq1 => ?_;obtain ⟨vs,H1,I1,r1,q1⟩:=hq1;obtain ⟨l,xs,kz,rfl,hs,hle,h64,hpre,qq⟩:=q1;obtain ⟨u,rfl,ru⟩:=vals1 r1;cases ru;refine thn (hkw pos pins s1 σ H1 (fun zs H2 => ∃ f c' pm ctv,zs = [.ref f] /\ Grow H1 H2 /\ LamAt H2 f ((q)) params body scope cl c' pm ctv) I1 fun f c' pm ctv H2 g lm => ⟨f,c',pm,ctv,rfl,g,lm⟩) fun ws s2 hq2 => ?_;obtain ⟨zs,H2,I2,rz,f,c',pm,ctv,e1,g,lm⟩:=hq2;subst e1;obtain ⟨wv,rfl,rw1⟩:=vals1 rz;cases rw1;have hr1:Room (k + 2) X.A.in1:=hr.in1;refine sk_sorted I2 (hsrc _ _ _ _ _ _ _ _ I2 hs g hr1.hd h64) hle h64 (fun i v u j hv rv hj pins' H' s' g' J => ?_) fun H' D g' n => qq H' D (g.trans g') n;obtain ⟨ho,hcd⟩:=(lm.up fun b o u e => g'.same b _ e).get J;obtain ⟨tb,hb,hq⟩:=hbody X.A.in1.in1 f c' s' H' (fr σ) v j (hpre i v j hv hj H' (g.trans g'));refine wpAny_mono (lam_call J hr1.in1 J.ok.frames hk hco hgen hcell rv hloc ho hcd (hbind c' pm ctv) (hlen σ) hcl hhas (hf _ _ _ _ J) hb hq) (fun r s4 hr4 => ?_) fun _ _ z => z;obtain ⟨w,H4,J4,rw4,e4,e5⟩:=hr4;subst e4 e5;exact ⟨rw4,J4⟩
end
theorem look_hd {α:Type} {x:Str} {a:α} {l:List (Str × α)}:List.lookup x ((x,a) :: l) = some a:=by rw [List.lookup_cons,beq_self_eq_true]
theorem look_tl {α:Type} {x y:Str} {a:α} {l:List (Str × α)} (h:y ≠ x):List.lookup y ((x,a) :: l) = List.lookup y l:=by rw [List.lookup_cons,beq_eq_false_iff_ne.mpr h]
abbrev intsR (n:Nat):List V:=(List.range n).map fun k => V.int ((k:Nat):Int)
section
variable {X:Cx} {pins:List (Addr × Obj)} {σ:St} {H:Hp} {s:Shared}
theorem colls_range {A:Around} {r:Addr} {n:Nat} (hh:A.handled = none) (I:Inv X pins σ H s) (hr:H r = some (.rng 0 n)) (h64:n < 64):Colls X A s r (intsR n):=fun Q E h => by
 obtain ⟨t,u,v,e⟩:=I.hok r _ hr;have hn2:Builtin.Range.rangeSize 0 (n:Int) 1 = n:=by rw [rangeSize_one];split <;> lia
 have hsm:Builtin.Range.small 0 (n:Int) 1 = true:=small_one (by lia) (by lia) (by lia) (by lia)
 have oS:(s.heap.push { cls:=.type "list",data:=.seq ([]:List Value).toArray }).get? s.heap.objs.size = some { cls:=.type "list",data:=.seq #[] 0 }:=Heap.get?_push_size _ rfl;unfold collect;refine wpAny_bind (wpAny_runValue (codeAny_builtin PySem.F.entry_proto_collect ?_));rw [Around.under_plainId PySem.F.plain_proto_collect _];refine wpAny_bind (m:=newList []) (wpAny_newObj_type (wpAny_pure ⟨plainId_quiet PySem.F.plain_list_iadd _,codeAny_builtin PySem.F.entry_list_iadd ?_⟩));rw [Around.under_plainId PySem.F.plain_list_iadd _];show wpAny _ A.in1 (Builtin.List.listExtendWith _ _ _) _ _ _;refine wpAny_extend_range (R:=fun r s' => match r with | .ok (.ret v) => wpAny (model X.prog X.w) A (match v with | .ref a => do (match (<- load a).data with | .seq xs _ => pure xs.toList | _ => unsupported "internal:collect") | _ => unsupported "internal:collect") Q E s' | .ok _ => _ | .error e => E e s') (s:={ s with heap:=s.heap.push { cls:=.type "list",data:=.seq ([]:List Value).toArray } }) hh (Heap.get?_push_of_some _ e) hsm hn2 (by lia) s.heap.objs.size (.ref s.heap.objs.size) 0 oS fun h' tk acc c' hk hS hI => ?_
 refine wpAny_bind (m:=load s.heap.objs.size) (wpAny_load hS (wpAny_pure (h h' tk acc.toList (fun b o e => hk b o (Nat.ne_of_lt (Heap.lt_size e)) (Heap.get?_push_of_some _ e)) (Nat.le_of_lt (Heap.lt_size hS)) ?_)));have hv:=Y.vals_of_items (lo:=0) n acc.toList 0 (by simpa using hI.1) fun j v e => by
  obtain ⟨t,e2⟩:=hI.2 j v (by simpa using e)
  exact ⟨t,by rw [e2];simp⟩
 show Vals ((List.range n).map fun k => V.int ((k:Nat):Int)) acc.toList;rw [List.range_eq_range']
 simpa using hv
end
theorem SqT.same {K:PySem.W.Frag} {H H':Hp} {a:Addr} {xs:List V} (g:Same H H') (h:SqT K H a xs):SqT K H' a xs:=by
 rcases h with (h | ⟨o,h⟩) | h
 ·exact .inl (.inl (g _ _ h))
 ·exact .inl (.inr ⟨o,g _ _ h⟩)
 ·exact .inr h
def frF (j:Nat) (σ:St):St:=[(σ[j]?).getD none]
def tSortF (K:PySem.W.Frag) (j:Nat) (t:TA):TE:=tSortK (fun H l xs => ∃ n:Nat,H l = some (.rng 0 n) /\ xs = intsR n) (fun v k H' σf => ∃ i q ls,v = .int i /\ σf = [some (.ref q)] /\ SqT K H' q ls /\ atI ls i = some (.int k)) (frF j) t
theorem pe_sortF {X:Cx} {e:Expr} {t:TA} {p pos kpos lpos p1 p2 p3:Pos} {x y q:Str} {c:Addr} {j:Nat} {params:Arguments} {scope:Scope} {k:Nat} (hg:Gl X "sorted") (hm:X.mg "sorted" = none) (ha:PA X [e] t) (h1:nst e = true) (hr:Room (k + 3) X.A)
  (hL:PE X (.Lambda params (.Subscript (.Name y p1) (.Name x p2) p3) scope lpos) (tLam q params (.Subscript (.Name y p1) (.Name x p2) p3) scope [(y,c)]))
  (hsc:scope = { kind:=.function,names:=[(x,.local),(y,.free)],isGenerator:=false,isCoroutine:=false,more:=[] }) (hxy:y ≠ x) (hx1:(x == ("__debug__":Str)) = false) (hx2:(x == ("__classdict__":Str)) = false) (hy1:(y == ("__debug__":Str)) = false) (hy2:(y == ("__classdict__":Str)) = false)
  (hj:X.N[j]? = some y) (hyc:X.env.scope.names.lookup y = some .cell) (hyl:X.env.cells.lookup y = some c)
  (hbind:∀ c' pm ctv u,bindArgs (PySem.W.kla_fn "<lambda>" q params (.Subscript (.Name y p1) (.Name x p2) p3) scope [(y,c)] pm (.ref c') ctv) ⟨[u],[]⟩ = pure [(x,u)]) :
  PE X (.Call (.Name "sorted" p) [e] [⟨some "key",.Lambda params (.Subscript (.Name y p1) (.Name x p2) p3) scope lpos,kpos⟩] pos) (tSortF X.K j t):=by
 subst hsc;have lx:List.lookup x [(x,NameKind.local),(y,NameKind.free)] = some .local:=look_hd;have ly:List.lookup y [(x,NameKind.local),(y,NameKind.free)] = some .free:=by rw [look_tl hxy,look_hd]
 have lz:∀ z,z ≠ x -> z ≠ y -> List.lookup z [(x,NameKind.local),(y,NameKind.free)] = none:=fun z h1 h2 => by rw [look_tl h1,look_tl h2];rfl
 have lc:List.lookup y [(y,c)] = some c:=look_hd;have lcz:∀ z d,List.lookup z [(y,c)] = some d -> z = y /\ d = c:=fun z d e => by
  by_cases h:z = y
  ·rw [h,lc] at e;cases e;exact ⟨h,rfl⟩
  ·rw [look_tl h] at e;cases e
 refine pe_sortK (N:=[y]) hg hm ha h1 hr hL (fun pins σ H s H1 l xs A I hs g hh h64 => ?_) rfl rfl rfl (fun z hz => ?_) lx hbind (fun _ => rfl) (fun z d e => ?_) (fun z hz => ?_) (fun pins σ H s I i z v e1 e2 => ?_) fun A f c' s' H' σf v i hp => ?_
 ·obtain ⟨n,hs,rfl⟩:=hs;rw [List.length_map,List.length_range] at h64;exact colls_range hh I (g.same _ _ hs) h64
 ·rcases List.mem_cons.mp hz with rfl | hz
  ·nofun
  ·rw [List.mem_singleton.mp hz];nofun
 ·obtain ⟨rfl,rfl⟩:=lcz z d e;exact hyl
 ·by_cases z1:z = x
  ·have hz':List.lookup z [(x,NameKind.local),(y,NameKind.free)] = some .cell \/ List.lookup z [(x,NameKind.local),(y,NameKind.free)] = some .free:=hz;rw [z1,lx] at hz';rcases hz' with h | h <;> cases h
  ·by_cases z2:z = y
   ·rw [z2];exact ⟨c,lc⟩
   ·have hz':List.lookup z [(x,NameKind.local),(y,NameKind.free)] = some .cell \/ List.lookup z [(x,NameKind.local),(y,NameKind.free)] = some .free:=hz;rw [lz z z1 z2] at hz';rcases hz' with h | h <;> cases h
 ·cases i with
  | succ i => cases e1
  | zero =>
   have e1':some y = some z:=e1;cases e1';have e2':some ((σ[j]?).getD none) = some (some v):=e2;have e3:σ[j]? = some (some v):=by
    cases hσ:σ[j]? with
    | none => rw [hσ] at e2';cases e2'
    | some o => rw [hσ] at e2';exact e2'
   obtain ⟨m,_,hl⟩:=I.loc;obtain ⟨u,rv,lk⟩:=hl j y v hj e3 (.inr (.inl hyc));refine ⟨ly,c,u,lc,?_,rv⟩;rcases lk with ⟨z,_⟩ | ⟨_,d,z1,z2⟩
   ·have z':X.env.scope.names.lookup y = some .local:=z;rw [hyc] at z';cases z'
   ·rw [hyl] at z1;cases z1;exact z2
 ·obtain ⟨ix,a,ls,rfl,rfl,hq,ha'⟩:=hp;refine ⟨_,pe_ix ix_tup (pv 1 rfl (.inr (.inr ly)) hy1 hy2) (pv 0 rfl (.inl lx) hx1 hx2) (Z.pix rfl),?_⟩;exact ⟨_,rfl,_,rfl,a,ls,ix,.int i,rfl,rfl,hq,ha',rfl,rfl⟩
theorem byK_map {α β:Type} {g:α -> β} {ks:List Int} {l:List α}:byK ks (l.map g) = (byK ks l).map g:=by
 have p:∀ l:List α,Paired (fun a b => b = g a) l (l.map g):=fun l => by
  induction l with
  | nil => exact .nil
  | cons a l ih => exact .cons rfl ih
 have q:∀ {l:List α} {m:List β},Paired (fun a b => b = g a) l m -> m = l.map g:=fun {l m} h => by
  induction h with
  | nil => rfl
  | cons r _ ih => rw [r,ih];rfl
 exact q (byK_rel (p l))
namespace Y
end Y
structure LamFn (K:PySem.W.Frag) (mg:Str -> Option Value) (x:Str):Prop where
 ex:∃ c P,PySem.W.tabIn K x = some (c,P) /\ ∀ f cdv,CodeOf K mg x f cdv -> cdv = .ref c
theorem tabIn_of {K:PySem.W.Frag} {x:Str} {f c P:Addr} {oc oc':Value} {od od':Option Addr} {sl sl':Array (Option Value)} {fd:FuncData} {vs:Array Value} (a:PySem.W.nsIn K mainGlobals x = some (some (.ref f))) (l:K.lookup f = some ⟨oc,od,.func fd,sl⟩) (hc:fd.code = .ref c)
  (lc:K.lookup c = some ⟨oc',od',.fields vs,sl'⟩) (hv:vs[11]? = some (.ref P)):PySem.W.tabIn K x = some (c,P):=by
 unfold PySem.W.tabIn;rw [a];dsimp only;rw [l];dsimp only;rw [hc];dsimp only;rw [lc];dsimp only;rw [hv]
theorem tabIn_none {K:PySem.W.Frag} {x:Str} (a:PySem.W.nsIn K mainGlobals x = some none):PySem.W.tabIn K x = none:=by
 unfold PySem.W.tabIn;rw [a]
theorem LamFn.mk' {K:PySem.W.Frag} {h:Heap} {mg:Str -> Option Value} {x:Str} {c P:Addr} (X:K.In h) (G:h.Ns mainGlobals mg) (ht:PySem.W.tabIn K x = some (c,P)):LamFn K mg x :=
 ⟨c,P,ht,fun f cdv ⟨m,o,fd,lk,hd,e⟩ => by rw [<- e];exact PySem.W.law_code X G ht m (X _ _ lk) hd⟩
theorem LamOk.of {q:Program} {K:PySem.W.Frag} {o1 o2 o3:Option (Addr × Addr)} (nt:PySem.W.noTabs K = true) (t1:PySem.W.tabIn K "by_worth" = o1) (t2:PySem.W.tabIn K "by_weight" = o2) (t3:PySem.W.tabIn K "code_of" = o3) (nd:((o1.toList ++ (o2.toList ++ o3.toList)).map (·.2)).Nodup)
  (f1:o1 = none \/ ((recsOf q).find? (fun e => e.name == ("by_worth":Str))).isSome = true) (f2:o2 = none \/ ((recsOf q).find? (fun e => e.name == ("by_weight":Str))).isSome = true) (f3:o3 = none \/ ((recsOf q).find? (fun e => e.name == ("code_of":Str))).isSome = true):LamOk q K:=by
 refine ⟨nt,?_,fun x hx => ?_⟩
 ·have e:(lamTabs K).map (·.2.1) = (o1.toList ++ (o2.toList ++ o3.toList)).map (·.2):=by
   unfold lamTabs lamNames
   cases o1 <;> cases o2 <;> cases o3 <;> simp [List.filterMap,t1,t2,t3]
  rw [e];exact nd
 ·unfold lamNames at hx;rcases List.mem_cons.mp hx with rfl | hx
  ·rw [t1];exact f1
  ·rcases List.mem_cons.mp hx with rfl | hx
   ·rw [t2];exact f2
   ·rw [List.mem_singleton.mp hx,t3];exact f3
namespace Y
section
variable {X:Cx} {e:Expr} {vs:List Expr} {ue:UE} {u:UJ} {pos p:Pos}
end
def rRstrip:V -> List V -> Hp -> VK -> Prop:=fun x vs H Q => ∃ z y,x = .str z /\ vs = [.str y] /\ z.length <= sizeLine /\ Q (.str (Txt.rstripChars z y)) H
theorem mt_rstrip {X:Cx}:MtR X "str.rstrip" rRstrip:=by
 intro pins s σ H x xs v us Q I rx rs h;obtain ⟨z,y,rfl,rfl,hz,q⟩:=h;obtain ⟨t,rfl⟩:=rx;obtain ⟨u,rfl,k,rfl⟩:=vals1 rs;exact SC.rstripChars (fun t' k => ⟨.str _,H,I.tok _,⟨_,rfl⟩,q⟩) hz
def rLjust:V -> List V -> Hp -> VK -> Prop:=fun x vs H Q => ∃ z i y,x = .str z /\ vs = [.int i,.str y] /\ 0 <= i /\ i < 1000 /\ y.length = 1 /\ Q (.str (Txt.ljustF z i (y.cps.getD 0 0))) H
theorem mt_ljust {X:Cx}:MtR X "str.ljust" rLjust:=by
 intro pins s σ H x xs v us Q I rx rs h;obtain ⟨z,i,y,rfl,rfl,h0,h1,hy,q⟩:=h;obtain ⟨t,rfl⟩:=rx;obtain ⟨u1,u2,rfl,⟨t1,rfl⟩,⟨t2,rfl⟩⟩:=vals2 rs;exact ljust_fill (padOk_of (by lia) (by lia)) hy fun t' k => ⟨.str _,H,I.tok _,⟨_,rfl⟩,q⟩
end Y
theorem rstrip_list (x y:Str):(Txt.rstripChars x y).cps.toList.reverse = x.cps.toList.reverse.dropWhile y.cps.contains:=by
 have key:∀ (p:Nat -> Bool) (l:List Nat),(l.take (l.length - (l.reverse.takeWhile p).length)).reverse = l.reverse.dropWhile p:=fun p l => by
  have h:(l.reverse.takeWhile p).length <= l.length:=by simpa using (List.takeWhile_sublist p (l:=l.reverse)).length_le
  rw [List.reverse_take,<- drop_tw];congr 1;lia
 have hl:x.length = x.cps.toList.length:=by rw [Array.length_toList];rfl
 rw [<- key];unfold Txt.rstripChars Txt.stripBy;split
 ·rename_i h;unfold stripSame at h;rw [Bool.and_eq_true] at h;have h2:x.length - (x.cps.toList.reverse.takeWhile y.cps.contains).length = x.length:=by simpa [stripLo,stripHi] using h.2
  rw [<- hl,h2,hl,List.take_length]
 ·have e:∀ (a:Array Nat) (j:Nat),(a.extract 0 j).toList = a.toList.take j:=fun a j => by simp
  have e2:=e x.cps (x.length - (x.cps.toList.reverse.takeWhile y.cps.contains).length);rw [hl] at e2;exact congrArg List.reverse e2
namespace A
end A
namespace Y
def rMul1:R2:=fun x y H Q => ∃ (c:Nat) (k:Int),x = .str ⟨#[c]⟩ /\ y = .int k /\ 0 <= k /\ k <= 1000 /\ Q (.str ⟨(List.replicate k.toNat c).toArray⟩) H
theorem op_mul1 {X:Cx}:OpR X (binaryOp .Mult) rMul1:=by
 intro pins s σ H x y v u Q I rx ry h;obtain ⟨c,k,rfl,rfl,h0,h1,q⟩:=h;obtain ⟨t,rfl⟩:=rx;obtain ⟨t2,rfl⟩:=ry;have e:Txt.mul ⟨#[c]⟩ k = ⟨(List.replicate k.toNat c).toArray⟩:=by
  have:=mul_one_list c k
  cases hz:Txt.mul ⟨#[c]⟩ k with
  | mk a => rw [hz] at this;rw [<- this,Array.toArray_toList]
 have ok:MulOk ⟨#[c]⟩ k:=by
  refine ⟨by simp only [Bool.or_eq_false_iff,decide_eq_false_iff_not];lia,fun z _ => ?_,fun z _ => ?_⟩
  ·have hl:((⟨#[c]⟩:Str).length:Int) = 1:=rfl;rw [hl];have:1 <= (2 ^ 63 - 1) / k:=by
    rw [Int.le_ediv_iff_mul_le (by lia)];lia
   lia
  ·have hl:(⟨#[c]⟩:Str).length = 1:=rfl;rw [hl,Nat.one_mul];exact decide_eq_false (Nat.not_lt.mpr (Nat.le_trans (show k.toNat <= 1000 by lia) (by decide)))
 exact SB.mul ok fun t' j => ⟨.str _,H,I.tok _,⟨t',by rw [e]⟩,q⟩
end Y
namespace A
end A
namespace Y
section
variable {X:Cx} {e:Expr} {ue:UE} {pos p:Pos} {x:Str} {k:Nat} {ps:List Str} {tsp:TSp} {E:XK}
end
end Y
namespace A
end A
namespace Y
end Y
section
variable {X:Cx} {e:Expr} {te:TE}
end
namespace Y
end Y
namespace A
end A
namespace Y
section
variable {prog:Program} {w:World} {A:Around} {E:Value -> Shared -> Prop} {s:Shared}
end
end Y
namespace A
end A
section
variable {prog:Program} {w:World} {A:Around} {E:Value -> Shared -> Prop} {s:Shared}
end
section
variable {X:Cx} {a b:Expr} {rest:List Expr} {pos:Pos} {ta tb:TE}
end
namespace Y
end Y
namespace A
end A
namespace Y
def rBits:V -> List V -> Hp -> VK -> Prop:=fun x vs H Q => ∃ a:Int,x = .int a /\ vs = [] /\ Q (.int (Builtin.Int.intBits a:Nat)) H
theorem mt_bits {X:Cx}:MtR X "int.bit_length" rBits:=by
 intro pins s σ H x xs v us Q I rx rs h;obtain ⟨a,rfl,rfl,q⟩:=h;obtain ⟨t,rfl⟩:=rx;obtain rfl:=Paired.nilL rs;exact call_int_bit_length ⟨.int _,H,I.tok _,⟨_,rfl⟩,q⟩
end Y
namespace A
end A
namespace Y
def rEqE (K:PySem.W.Frag):R2:=fun x y H Q => ∃ a b xs,x = .ref a /\ y = .ref b /\ SqL K H a xs /\ SqL K H b [] /\ Q (.bl xs.isEmpty) H
theorem op_eqE {X:Cx} (K:PySem.W.Frag) (hK:X.K = K) (hu:X.A.units < cLine):OpR X (compareOp .Eq) (rEqE K):=by
 subst hK;intro pins s σ H x y v u Q I rx ry h;obtain ⟨a,b,xs,rfl,rfl,ha,hb,q⟩:=h
 cases rx;cases ry
 obtain ⟨its,r1,p1,_⟩:=I.list ha;obtain ⟨its2,r2,p2,_⟩:=I.list hb;obtain rfl:=Paired.nilL r2
 cases r1 with
 | nil => exact SeqAt.eq_listAt (e:=fun _ => true) p1.isList p2.isList rfl hu (fun j h1 => absurd h1 (Nat.not_lt_zero _)) ⟨.bl true,H,I,rfl,q⟩
 | cons h r => exact SeqAt.eq_list_lengthsAt p1.isList p2.isList (by simp) hu ⟨.bl false,H,I,rfl,q⟩
end Y
namespace A
end A
def DcAt (h:Heap) (d:Addr) (es:Array DictEntry) (ep:Nat):Prop:=∃ o,h.get? d = some o /\ o.ExactDict /\ o.data = .dict es ep
section
variable {prog:Program} {w:World} {A:Around} {E:Value -> Shared -> Prop} {s:Shared}
theorem DcAt.ty {d:Addr} {es:Array DictEntry} {ep:Nat} (x:DcAt s.heap d es ep):s.TypeIs (.ref d) "dict":=let ⟨o,ho,hc,_⟩:=x;⟨o,ho,hc.1⟩
theorem DcAt.keep {h h':Heap} {d:Addr} {es:Array DictEntry} {ep:Nat} (x:DcAt h d es ep) (k:∀ o,h.get? d = some o -> h'.get? d = some o):DcAt h' d es ep:=let ⟨o,ho,r⟩:=x;⟨o,k _ ho,r⟩
theorem DcAt.lt {h:Heap} {d:Addr} {es:Array DictEntry} {ep:Nat} (x:DcAt h d es ep):d < h.objs.size:=let ⟨_,ho,_⟩:=x;Heap.lt_size ho
theorem dc_iter {d:Addr} {es:Array DictEntry} {ep:Nat} {Q:Value -> Shared -> Prop} (low:(d == sysModules) = false) (x:DcAt s.heap d es ep)
  (q:Q (.ref s.heap.objs.size) { s with heap:=s.heap.push { cls:=.type "dict_keyiterator",data:=.fields #[.ref d,.int 0 0,.int es.size 0,.int ep 0] } }):wpAny (model prog w) A (pyIter (.ref d)) Q E s:=by
 obtain ⟨o,ho,hx,hdat⟩:=id x;refine wpAny_pyIter_slot x.ty PySem.F.slot_dict_iter (wpAny_call_entry PySem.F.slot_dict_iter x.ty PySem.F.entry_dict_iter ?_ (PySem.F.args_dict_iter_1 _));unfold Builtin.«dict.__iter__» Builtin.Dict.dictSlotNone;refine wpAny_bind (wpAny_bind (wpAny_notOrdered_dict x.ty ?_));show wpAny _ _ (pure (Value.ref d)) _ _ s;refine wpAny_pure ?_;show wpAny _ _ (Builtin.Dict.showsAll d >>= _) _ _ s;unfold Builtin.Dict.showsAll;rw [low,if_neg Bool.false_ne_true];refine wpAny_bind (wpAny_pure (wpAny_bind (wpAny_dictEntries ho hdat (wpAny_bind (wpAny_dictEpoch ho hdat ?_)))));exact wpAny_bind (wpAny_newObj_type (wpAny_pure ⟨_,rfl,"dict_keyiterator",_,⟨_,Heap.get?_push_size _ rfl,rfl⟩,PySem.F.slot_dict_keyiterator_next.lookup,q⟩))
theorem dc_next {it d:Addr} {i ep:Nat} {es:Array DictEntry} {Q:Option Value -> Shared -> Prop} (hit:s.heap.IsKeyIter it d i es.size ep) (x:DcAt s.heap d es ep) (hi:i < es.size)
  (q:∀ h',h'.IsKeyIter it d (i + 1) es.size ep -> Heap.SameBut it s.heap h' -> Q (some es[i].key) { s with heap:=h' }):wpAny (model prog w) A (pyNext (.ref it)) Q E s:=by
 obtain ⟨o,ho,hc,hd⟩:=id hit;obtain ⟨od,hod,hx,hdd⟩:=id x;unfold pyNext;refine wpAny_bind (wpAny_attempt (wpAny_callSpecial?_slot (name:=Str.ofString "__next__") hit.typeIs PySem.F.slot_dict_keyiterator_next (wpAny_call_entry PySem.F.slot_dict_keyiterator_next hit.typeIs PySem.F.entry_dict_keyiterator_next ?_ (PySem.F.args_dict_keyiterator_next_1 _))));refine wpAny_bind (wpAny_pure (wpAny_bind (wpAny_bind ?_)))
 first | refine wpAny_bind (wpAny_typeNameOfWhole_keyiter hit.typeIs (wpAny_pure (wpAny_bind (wpAny_fieldsOf ho hd ?_)))) | refine wpAny_bind (wpAny_typeNameOf_keyiter hit.typeIs (wpAny_pure (wpAny_bind (wpAny_fieldsOf ho hd ?_))))
 simp only [show Builtin.Dict_items.ownsTuple "dict_keyiterator" = false by decide,Bool.false_eq_true,if_false]
 show wpAny _ _ (if (Value.ref d == Value.none) = true then _ else _) _ _ s;rw [if_neg (show ¬ ((Value.ref d == Value.none) = true) from Bool.false_ne_true)]
 refine wpAny_bind (wpAny_pure (wpAny_bind (wpAny_dictEntries hod hdd ?_)));rw [if_neg (by simp)]
 refine wpAny_bind (wpAny_pure (wpAny_bind (wpAny_dictEpoch hod hdd ?_)));rw [if_neg (by simp)]
 refine wpAny_pure ?_;simp only [show ¬ ((i:Int) < 0) by lia,if_false,Int.toNat_natCast,Array.getElem?_eq_getElem hi]
 refine wpAny_bind ?_
 first | refine wpAny_bind (wpAny_typeNameOfWhole_keyiter hit.typeIs (wpAny_pure (wpAny_bind (wpAny_isOneOf_keyiter hit.typeIs ?_)))) | refine wpAny_bind (wpAny_typeNameOf_keyiter hit.typeIs (wpAny_pure (wpAny_bind (wpAny_isOneOf_keyiter hit.typeIs ?_))))
 show wpAny _ _ (setField (.ref it) 1 (rawInt ((i:Int) + 1)) >>= _) _ _ s;refine wpAny_bind (wpAny_setField ho hd (by simp) ?_)
 have h2:(s.heap.update it (Obj.mapFields (·.setIfInBounds 1 (rawInt ((i:Int) + 1))))).IsKeyIter it d (i + 1) es.size ep:=⟨_,Heap.get?_update_self _ ho (Obj.isFreed_of_fields (Obj.data_mapFields hd _)),(Obj.cls_mapFields ..).trans hc,by rw [Obj.data_mapFields hd];simp [rawInt]⟩
 refine wpAny_bind (wpAny_holding (wpAny_bind (wpAny_isOneOf_keyiter (s:={ s with heap:=s.heap.update it (Obj.mapFields (·.setIfInBounds 1 (rawInt ((i:Int) + 1)))) }) h2.typeIs ?_)))
 show wpAny _ _ (pure es[i].key) _ _ _;exact wpAny_pure (wpAny_pure ⟨_,rfl,wpAny_pure (q _ h2 (Heap.SameBut.update ..))⟩)
theorem dc_done {it d:Addr} {ep:Nat} {es:Array DictEntry} {Q:Option Value -> Shared -> Prop} (hh:A.handled = none) (hit:s.heap.IsKeyIter it d es.size es.size ep) (x:DcAt s.heap d es ep)
  (q:∀ h',Heap.ExtBut it s.heap h' -> Q none { s with heap:=h' }):wpAny (model prog w) A (pyNext (.ref it)) Q E s:=by
 obtain ⟨o,ho,hc,hd⟩:=id hit;obtain ⟨od,hod,hx,hdd⟩:=id x;unfold pyNext;refine wpAny_bind (wpAny_attempt (wpAny_callSpecial?_slot (name:=Str.ofString "__next__") hit.typeIs PySem.F.slot_dict_keyiterator_next (wpAny_call_entry PySem.F.slot_dict_keyiterator_next hit.typeIs PySem.F.entry_dict_keyiterator_next ?_ (PySem.F.args_dict_keyiterator_next_1 _))));refine wpAny_bind (wpAny_pure (wpAny_bind (wpAny_bind ?_)))
 first | refine wpAny_bind (wpAny_typeNameOfWhole_keyiter hit.typeIs (wpAny_pure (wpAny_bind (wpAny_fieldsOf ho hd ?_)))) | refine wpAny_bind (wpAny_typeNameOf_keyiter hit.typeIs (wpAny_pure (wpAny_bind (wpAny_fieldsOf ho hd ?_))))
 simp only [show Builtin.Dict_items.ownsTuple "dict_keyiterator" = false by decide,Bool.false_eq_true,if_false]
 show wpAny _ _ (if (Value.ref d == Value.none) = true then _ else _) _ _ s;rw [if_neg (show ¬ ((Value.ref d == Value.none) = true) from Bool.false_ne_true)]
 refine wpAny_bind (wpAny_pure (wpAny_bind (wpAny_dictEntries hod hdd ?_)));rw [if_neg (by simp)]
 refine wpAny_bind (wpAny_pure (wpAny_bind (wpAny_dictEpoch hod hdd ?_)));rw [if_neg (by simp)]
 refine wpAny_pure ?_;simp only [show ¬ ((es.size:Int) < 0) by lia,if_false,Int.toNat_natCast,Array.getElem?_eq_none (Nat.le_refl es.size)]
 refine wpAny_bind ?_
 first | refine wpAny_bind (wpAny_typeNameOfWhole_keyiter hit.typeIs (wpAny_pure ?_)) | refine wpAny_bind (wpAny_typeNameOf_keyiter hit.typeIs (wpAny_pure ?_))
 show wpAny _ _ (setField (.ref it) 0 .none >>= _) _ _ s;refine wpAny_bind (wpAny_setField ho hd (by simp) ?_)
 show wpAny _ _ (newExc (.type "StopIteration") [] >>= _) _ _ _;refine wpAny_bind ?_;simp only [newExc,newTuple];refine wpAny_bind (wpAny_newObj_type ?_ (by size_fits))
 refine wpAny_bind (m:=firstArgMember _ _) (wpAny_of_eq (a:=Value.none) (by first | rfl | (simp only [firstArgMember];rfl)) (wpAny_newObj_type ?_ (by size_fits)))
 simp only [raiseNew];refine wpAny_bind (wpAny_handled ?_);rw [show A.in1.handled = none from hh];refine wpAny_bind (wpAny_pure (wpAny_throw ?_));refine wpAny_bind (wpAny_isInstance (T:="StopIteration") (b:=true) ⟨_,Heap.get?_push_size _ rfl,rfl⟩ isSubtype_stop ?_);exact wpAny_pure (q _ (((Heap.SameBut.update ..).extBut.push _).push _))
end
theorem dc_walks {prog:Program} {w:World} {A:Around} (hh:A.handled = none) (I d:Addr) (ne:d ≠ I) (es:Array DictEntry) (ep:Nat) :
  Walks prog w A I [I,d] [I] es.size (fun i v => ∃ h:i < es.size,v = es[i].key) (fun i h => h.IsKeyIter I d i es.size ep /\ DcAt h d es ep) where
 sub:=fun b hb => by simp at hb;simp [hb]
 frame:=fun _ _ _ st hk => ⟨st.1.at fun o e => hk I (by simp) o e,st.2.keep fun o e => hk d (by simp) o e⟩
 item:=fun i s Q E hi st hQ => dc_next st.1 st.2 hi fun h' a b => hQ _ h' s.toks ⟨hi,rfl⟩ ⟨a,st.2.keep fun o e => b.extBut _ _ ne e⟩ fun c o hc e => b.extBut c o (fun h => hc (by simp [h])) e
 done:=fun s Q E st hQ => dc_done hh st.1 st.2 fun h' he => hQ h' s.toks fun c o hc e => he c o (fun h => hc (by simp [h])) e
 self:=fun _ _ _ _ st hQ => wpAny_pyIter_keyiter st.1 hQ
theorem dc_src {prog:Program} {w:World} {d:Addr} {es:Array DictEntry} {ep:Nat} (low:(d == sysModules) = false):PySem.W.KdlSrc prog w "dict" d d es.size (fun i v => ∃ h:i < es.size,v = es[i].key) (fun h => DcAt h d es ep) where
 type:=fun _ x => x.ty
 there:=fun _ x => ⟨x.lt,x.lt⟩
 keep:=fun _ _ x k => x.keep fun o e => k d (.inl rfl) o e
 notList:=by decide
 notTuple:=by decide
 hint:=fun _ _ _ _ x q => PySem.W.kdl_hint_dict x.ty q
 iter:=fun _ _ hh x => ⟨_,_,(fun _ _ q => dc_iter low x q),dc_walks hh _ d (Nat.ne_of_lt x.lt) es ep,⟨⟨_,Heap.get?_push_size _ rfl,rfl,rfl⟩,x.keep fun _ e => Heap.get?_push_of_some _ e⟩⟩
theorem rows_len {K:PySem.W.Frag} {es:List DictEntry} {D:List (Str × List Str)} (h:KTD.Rows (KRow K) es D):es.length = D.length:=by
 induction h with
 | nil => rfl
 | cons _ _ _ ih => simp [ih]
theorem rows_key {K:PySem.W.Frag} {es:List DictEntry} {D:List (Str × List Str)} (h:KTD.Rows (KRow K) es D):Vals (D.map fun p => V.str p.1) (es.map fun e => e.key):=by
 induction h with
 | nil => exact .nil
 | cons e _ _ ih => exact .cons ⟨_,e⟩ ih
def rListD (K:PySem.W.Frag) (D:List (Str × List Str)):List V -> Hp -> VK -> Prop:=fun xs H Q => ∃ d,xs = [.ref d] /\ KDic K d D /\ D.length <= sizeLine /\ ∀ l,H l = none -> Q (.ref l) (upd H l (.lst (D.map fun p => V.str p.1)))
theorem call_listD {X:Cx} {D:List (Str × List Str)} (K:PySem.W.Frag) (hK:X.K = K) (hc:X.calm = true):CallR X (.type "list") (rListD K D):=by
 intro pins s σ H xs us Q I r h;subst hK;obtain ⟨d,rfl,hd,hz,q⟩:=h;obtain ⟨u,rfl,rx⟩:=vals1 r;cases rx;obtain ⟨o,es,ep,ho,hx,hdat,hr⟩:=hd.ex;have at0:DcAt s.heap d es ep:=⟨o,I.kIn _ _ ho,hx,hdat⟩;have hl:es.size = D.length:=by rw [<- rows_len hr,Array.length_toList]
 refine PySem.W.kdl_call (dc_src hd.low) (I.ok.hd hc) at0 (by rw [hl];exact hz) fun h' tk acc c' hk hS hI => ?_
 have hv:Vals (D.map fun p => V.str p.1) acc.toList:=by
  have e:acc.toList = es.toList.map fun e => e.key:=by
   refine List.ext_getElem? fun j => ?_;rw [Array.getElem?_toList,List.getElem?_map,Array.getElem?_toList]
   cases z:acc[j]? with
   | none =>
    have:acc.size <= j:=Array.getElem?_eq_none_iff.mp z;rw [Array.getElem?_eq_none (by rw [<- hI.1];exact this)];rfl
   | some v =>
    obtain ⟨hj,rfl⟩:=hI.2 j v z;rw [Array.getElem?_eq_getElem hj];rfl
  rw [e];exact rows_key hr
 refine ⟨.ref s.heap.objs.size,_,I.laid (t':=tk) hk (Nat.le_refl _) (show ObjOk X.prog X.w _ h' _ (.lst _) from ⟨?_,acc.toList,c',hv,by simpa using hS⟩),rfl,q _ (I.hok.fresh (Nat.le_refl _))⟩
 rw [List.length_map];exact hz
namespace Y
end Y
namespace A
end A
theorem Z.zip {X:Cx} {es:List Expr} {tk:Nat} {tp:Pos} {e1 e2:Expr} {ta:TA} {p pos:Pos} (K:PySem.W.Frag) (hK:X.K = K) (hg:Gl X "zip") (hm:X.mg "zip" = none) (ha:QA X [e1,e2] ta) (h1:nst e1 = true:=by rfl) (h2:nst e2 = true:=by rfl):QI X (.Tuple es tk tp) (.Call (.Name "zip" p) [e1,e2] [] pos) (iZipK K ta):=by
 subst hK;exact ⟨pi_zipK hg hm ha.h h1 h2⟩
theorem Ap.iZipK (K:PySem.W.Frag) (ta:TA) (σ:St) (H:Hp) (R:It -> Hp -> Prop):L2.iZipK K ta σ H R = ta σ H fun vs H1 => ∃ a b k1 k2,vs = [V.ref a,V.ref b] /\ (∃ xs,SqK K k1 H1 a xs) /\ (∃ ys,SqK K k2 H1 b ys) /\ R (ItzK K k1 k2 a b) H1:=rfl
section
variable {K:PySem.W.Frag} {g:TG} {tb:TS} {D:Ends} {σ:St} {H:Hp} {te:TE} {Q:VK}
theorem compW_list {a:Addr} {xs:List V} (hn:xs.length <= sizeLine) (Pv:Addr -> Nat -> List V -> Hp -> Prop) (h0:∀ D,H D = none -> Pv D 0 [] (upd H D (.lst []))) (hD:∀ D i ys H',Pv D i ys H' -> H' D = some (.lst ys) /\ ys.length = i)
  (hl:∀ D i ys H',Pv D i ys H' -> SqL K H' a xs)
  (hs:∀ D i ys H' x (R:VK),xs[i]? = some x -> Pv D i ys H' -> (∀ v H5,H5 D = some (.lst ys) -> Pv D (i + 1) (ys ++ [v]) (upd H5 D (.lst (ys ++ [v]))) -> R v H5) -> te (some x :: σ) H' R) (hd:∀ D ys H',Pv D xs.length ys H' -> Q (.ref D) H') :
  CompW (Itl K a) 1 (gName 0) tTrue te Q σ H:=by
 intro D hD0;refine ⟨fun i m ys σ' H' => m = xs.length - i /\ i <= xs.length /\ Pv D i ys H' /\ ∃ o,σ' = o :: σ,⟨xs.length,by simp,Nat.zero_le _,h0 D hD0,none,rfl⟩,?_⟩
 rintro i m ys σ' H' ⟨rfl,hi,p,o,rfl⟩;obtain ⟨hDi,hly⟩:=hD _ _ _ _ p;have q:=hl _ _ _ _ p;refine ⟨hDi,?_⟩;by_cases hlt:i < xs.length
 ·refine .inr ⟨⟨xs,xs[i],q,by simp [hlt]⟩,by lia,fun x H2 y => ?_⟩
  obtain ⟨rfl,y⟩:=y;unfold gName tTrue;dsimp only;rw [if_pos rfl];exact hs D i ys H2 x _ (y xs q) p fun v H5 q1 q2 => ⟨q1,xs.length - (i + 1),by lia,rfl,hlt,q2,_,rfl⟩
 ·have e:i = xs.length:=by lia
  subst e;exact .inl ⟨⟨xs,q,Nat.le_refl _⟩,hd D ys H' p⟩
end
def but (B:AP') (a:Addr):AP':=fun b => B b /\ b ≠ a
namespace Y
end Y
namespace A
end A
namespace Y
end Y
namespace A
end A
end L2
namespace L2
open PySem PySem.Spec PyProof PyProof.Rows PySem.W
section
variable {prog:Program} {w:World} {A:Around} {E:Value -> Shared -> Prop} {s:Shared}
structure SAsk (prog:Program) (w:World) (s:Shared) (vs:List Value) (κ:SortKind) (kz:Nat -> Int) (h:Heap):Prop where
 kind:∀ (A:Around) (E:Value -> Shared -> Prop) (Q:SortKind -> Shared -> Prop),2 <= vs.length -> Q κ { s with heap:=h } -> wpAny (model prog w) A (keyKind' vs.toArray) Q E { s with heap:=h }
 lt:∀ (A:Around) (C:Bool -> Shared -> Prop) (i j:Nat),i < vs.length -> j < vs.length -> C (decide (kz i < kz j)) { s with heap:=h } -> kas_ask prog w A κ vs i j C { s with heap:=h }
theorem sort_gen {a:Addr} {vs:List Value} {n:Nat} {κ:SortKind} {kz:Nat -> Int} {P:Fin -> Shared -> Prop} (ho:s.heap.get? a = some (seqObj "list" vs.toArray n)) (h64:vs.length < 64)
  (hq:∀ h',(∀ b o,b ≠ a -> s.heap.get? b = some o -> h'.get? b = some o) -> SAsk prog w s vs κ kz h')
  (h:∀ p:Array Nat,p.toList.Perm (List.range vs.length) -> p.toList.Pairwise (SP.R kz) -> P (.done (.ret .none)) { s with heap:=sortedHeap s.heap a vs (List.toArray (p.toList.map fun i => vs.getD i Value.none)) }) :
  wpAny (model prog w) A (Builtin.«list.sort» ⟨[.ref a],[]⟩) P E s:=by
 rw [list_sort_plain];have ha:a < s.heap.objs.size:=Heap.lt_size ho;refine wpAny_bind (listItems_at ho rfl (wpAny_bind (listUpdate_at ho rfl ?_)));obtain ⟨e1,ho1⟩:∃ e1,(s.heap.update a (Obj.mapSeq fun _ => #[])).get? a = some (seqObj "list" #[] e1):=⟨_,get?_update_seq ho (fun _ => #[])⟩;refine wpAny_bind (seqEpoch_at ho1 rfl (wpAny_bind (wpAny_newTuple (wpAny_bind (wpAny_newList (wpAny_holding ?_))))));have up:∀ b o,b ≠ a -> s.heap.get? b = some o -> (((s.heap.update a (Obj.mapSeq fun _ => #[])).push (seqObj "tuple" vs.toArray 0)).push (seqObj "list" #[] 0)).get? b = some o:=fun b o hb e =>
  Heap.get?_push_of_some _ (Heap.get?_push_of_some _ ((Heap.get?_update_other _ _ (Ne.symm hb)).trans e))
 have ho6:(((s.heap.update a (Obj.mapSeq fun _ => #[])).push (seqObj "tuple" vs.toArray 0)).push (seqObj "list" #[] 0)).get? a = some (seqObj "list" #[] e1):=Heap.get?_push_of_some _ (Heap.get?_push_of_some _ ho1);show wpAny (model prog w) A _ P E { s with heap:=((s.heap.update a (Obj.mapSeq fun _ => #[])).push (seqObj "tuple" vs.toArray 0)).push (seqObj "list" #[] 0) }
 dsimp only;have hs:=hq _ up;have hsz:vs.toArray.size = vs.length:=by simp
 by_cases h2:vs.toArray.size < 2
 ·rw [if_pos h2,if_pos h2];refine wpAny_bind (wpAny_pure ?_);rw [StateT.run_pure];refine wpAny_bind (wpAny_pure ?_);dsimp only;refine wpAny_bind (seqEpoch_at ho6 rfl (wpAny_bind (listUpdate_at ho6 rfl ?_ (hsz2:=by rw [Array.size_map];show (pairsOf vs).size <= _;rw [pairsOf_size,sizeLine_eq];lia))))
  simp only [bne_self_eq_false,Bool.false_eq_true,if_false];refine wpAny_pure ?_;have hid:=h (List.toArray (List.range vs.length)) (List.Perm.refl _) (by
   rcases vs with _ | ⟨x,_ | ⟨y,r⟩⟩
   ·exact .nil
   ·simp
   ·exfalso;rw [hsz] at h2;simp only [List.length_cons] at h2;lia)
  have e:(arrOf (SortSt.mk' general' (vs.toArray.zip vs.toArray) #[] 7 none)).map (·.2) = List.toArray ((List.toArray (List.range vs.length)).toList.map fun i => vs.getD i Value.none):=by
   show (vs.toArray.zip vs.toArray).map (·.2) = _;apply Array.toList_inj.mp;rw [Array.toList_map,Array.toList_zip];show (vs.zip vs).map (·.2) = (List.range vs.length).map fun i => vs.getD i Value.none;rw [List.map_snd_zip (Nat.le_refl _)];refine List.ext_getElem? fun i => ?_;rw [List.getElem?_map];rcases Nat.lt_or_ge i vs.length with c | c
   ·rw [List.getElem?_range c,List.getElem?_eq_getElem c];simp [c]
   ·rw [List.getElem?_eq_none_iff.mpr c,List.getElem?_eq_none_iff.mpr (by rw [List.length_range];exact c)];rfl
  rw [e];exact hid
 ·rw [if_neg h2,if_neg h2];have h2':2 <= vs.length:=by rw [hsz] at h2;lia
  refine wpAny_bind (hs.kind _ _ _ h2' ?_);refine wpAny_bind (wpAny_mono (kat_run (ks:=vs) (vs:=vs) (Q:=fun st' s' => s' = { s with heap:=((s.heap.update a (Obj.mapSeq fun _ => #[])).push (seqObj "tuple" vs.toArray 0)).push (seqObj "list" #[] 0) } /\ ∃ p:Array Nat,arrOf st' = p.map (kas_item (vs.toArray.zip vs.toArray)) /\ failedOf st' = none /\ p.toList.Perm (List.range vs.length) /\ p.toList.Pairwise (SP.R kz))
   (G:=fun p s' => s' = { s with heap:=((s.heap.update a (Obj.mapSeq fun _ => #[])).push (seqObj "tuple" vs.toArray 0)).push (seqObj "list" #[] 0) } /\ p.toList.Perm (List.range vs.length) /\ p.toList.Pairwise (SP.R kz))
   rfl h2' h64 (fun p st' s' a1 a2 a3 a4 => ⟨a4.1,p,a2,a3,a4.2⟩) ?_) ?_ fun _ _ e => e)
  ·refine SP.sort_ok (k:=kz) (I:=fun s' => s' = { s with heap:=((s.heap.update a (Obj.mapSeq fun _ => #[])).push (seqObj "tuple" vs.toArray 0)).push (seqObj "list" #[] 0) }) (fun i j C s' hi hj hI hC => ?_) (by lia) rfl fun p s' hp hr hI => ⟨hI,hp,hr⟩
   subst hI;exact hs.lt _ _ i j hi hj (hC _ rfl)
  rintro ⟨⟨⟩,st'⟩ s' ⟨rfl,p,har,hf,hp,hr⟩;dsimp only;have esn:=kat_snds (ks:=vs) (vs:=vs) rfl har;have hl:(p.toList.map fun i => vs.getD i Value.none).length = vs.length:=by rw [List.length_map,hp.length_eq,List.length_range]
  refine wpAny_bind (seqEpoch_at ho6 rfl ?_);refine wpAny_bind (listUpdate_at ho6 rfl ?_ (hsz2:=by show ((arrOf st').map (·.2)).size <= _;rw [esn,List.size_toArray,hl,sizeLine_eq];lia))
  rw [hf];simp only [bne_self_eq_false,Bool.false_eq_true,if_false];rw [esn];exact wpAny_pure (h p hp hr)
theorem sorted_gen {l:Addr} {vs:List Value} {κ:SortKind} {kz:Nat -> Int} {Q:Value -> Shared -> Prop} (hl:s.heap.IsList l vs.toArray) (h64:vs.length < 64) (hq:∀ h',(∀ b o,s.heap.get? b = some o -> h'.get? b = some o) -> SAsk prog w s vs κ kz h')
  (h:∀ p:Array Nat,p.toList.Perm (List.range vs.length) -> p.toList.Pairwise (SP.R kz) -> Q (.ref (s.heap.objs.size + 1)) { s with heap:=sortedAll s.heap vs (List.toArray (p.toList.map fun i => vs.getD i Value.none)) }) :
  wpAny (model prog w) A (call (.builtin "sorted") [.ref l]) Q E s:=by
 refine Calls.call_function_entry kind_sorted plain_sorted entry_sorted (args_sorted1 _) ?_;unfold Builtin.«sorted»;refine wpAny_bind (m:=checkCount "sorted" 1 1 _) (wpAny_pure (wpAny_bind (collect_list hl (wpAny_bind (wpAny_newList ?_)))));have hsz:((s.heap.push (seqObj "list" #[] 0)).update s.heap.objs.size (Obj.mapSeq (· ++ vs.toArray))).objs.size = s.heap.objs.size + 1:=by rw [Heap.size_update,size_push']
 have hoL:(((s.heap.push (seqObj "list" #[] 0)).update s.heap.objs.size (Obj.mapSeq (· ++ vs.toArray))).push (seqObj "list" vs.toArray 0)).get? (s.heap.objs.size + 1) = some (seqObj "list" vs.toArray 0):=by rw [<- hsz];exact Heap.get?_push_size _ rfl
 have keep:∀ b o,s.heap.get? b = some o -> (((s.heap.push (seqObj "list" #[] 0)).update s.heap.objs.size (Obj.mapSeq (· ++ vs.toArray))).push (seqObj "list" vs.toArray 0)).get? b = some o:=fun b o q => by
  have hlt:b < s.heap.objs.size:=Heap.lt_size q;rw [Heap.get?_push_ne _ _ _ (by rw [hsz];exact Nat.ne_of_lt (Nat.lt_succ_of_lt hlt)),Heap.get?_update_ne _ _ _ _ (Nat.ne_of_lt hlt),Heap.get?_push_ne _ _ _ (Nat.ne_of_lt hlt)]
  exact q
 show wpAny _ _ _ _ _ { s with heap:=((s.heap.push (seqObj "list" #[] 0)).update s.heap.objs.size (Obj.mapSeq (· ++ vs.toArray))).push (seqObj "list" vs.toArray 0) }
 rw [hsz];refine wpAny_bind (wpAny_holding (wpAny_call_entry slot_list_sort ⟨_,hoL,rfl⟩ entry_list_sort (sort_gen (kz:=kz) (κ:=κ) (s:={ s with heap:=((s.heap.push (seqObj "list" #[] 0)).update s.heap.objs.size (Obj.mapSeq (· ++ vs.toArray))).push (seqObj "list" vs.toArray 0) }) hoL h64 (fun h' hk => ?_) fun p a1 a2 => ⟨_,rfl,?_⟩) (args_list_sort _)))
 ·have:=hq h' fun b o e => hk b o (Nat.ne_of_lt (Nat.lt_succ_of_lt (Heap.lt_size e))) (keep b o e);exact ⟨this.kind,this.lt⟩
 ·exact wpAny_pure ⟨_,rfl,h p a1 a2⟩
end
def lexLt (x y:Int × Int):Bool:=decide (x.1 < y.1 \/ (x.1 = y.1 /\ x.2 < y.2))
theorem lexLt_iff {x y:Int × Int}:lexLt x y = true ↔ (x.1 < y.1 \/ (x.1 = y.1 /\ x.2 < y.2)):=decide_eq_true_iff
def rank (l:List (Int × Int)) (x:Int × Int):Nat:=l.countP fun y => lexLt y x
def rk (l:List (Int × Int)) (i:Nat):Int:=(rank l (l.getD i (0,0)):Nat)
theorem count_less {l:List (Int × Int)} {p q:Int × Int -> Bool} (h:∀ z,p z = true -> q z = true) {x:Int × Int}:x ∈ l -> p x = false -> q x = true -> l.countP p < l.countP q:=by
 induction l with
 | nil => intro hx;cases hx
 | cons y l ih =>
  intro hx h1 h2;have hle:l.countP p <= l.countP q:=List.countP_mono_left fun z _ => h z;rw [List.countP_cons,List.countP_cons];rcases List.mem_cons.mp hx with rfl | hx
  ·rw [if_neg (by rw [h1];exact Bool.false_ne_true),if_pos h2];lia
  ·have:=ih hx h1 h2
   cases hp:p y with
   | true => rw [if_pos rfl,if_pos (h y hp)];lia
   | false => rw [if_neg Bool.false_ne_true];split <;> lia
theorem rank_lt {l:List (Int × Int)} {x y:Int × Int} (hx:x ∈ l) (hy:y ∈ l):decide (rank l x < rank l y) = lexLt x y:=by
 have irr:∀ z,lexLt z z = false:=fun z => decide_eq_false (by lia)
 cases h:lexLt x y with
 | true =>
  refine decide_eq_true (count_less (fun z hz => ?_) hx (irr x) h);rw [lexLt_iff] at h hz ⊢;lia
 | false =>
  refine decide_eq_false (Nat.not_lt.mpr (List.countP_mono_left fun z _ hz => ?_));have h':¬ (x.1 < y.1 \/ (x.1 = y.1 /\ x.2 < y.2)):=of_decide_eq_false h;rw [lexLt_iff] at hz ⊢;lia
def PrAt (h:Heap) (v:Value) (pr:Int × Int):Prop:=∃ (a:Addr) (o:Obj) (n:Nat) (t u:Tok),v = .ref a /\ h.get? a = some o /\ o.cls = .type "tuple" /\ o.data = .seq #[.int pr.1 t,.int pr.2 u] n
theorem prs_tups {h:Heap}:∀ {vs:List Value} {prs:List (Int × Int)},Paired (PrAt h) vs prs -> ∃ fs,KatTups h vs fs /\ fs.length = vs.length /\ ∀ v ∈ fs,∃ i t,v = Value.int i t
 | _,_,.nil => ⟨[],trivial,rfl,fun _ h => by cases h⟩
 | _,_,.cons r t => by
  obtain ⟨a,o,n,t1,u,rfl,ho,hc,hd⟩:=r;obtain ⟨fs,h1,h2,h3⟩:=prs_tups t;refine ⟨_ :: fs,⟨⟨a,o,_,n,rfl,ho,hc,hd,rfl⟩,h1⟩,by simp [h2],fun v hv => ?_⟩
  rcases List.mem_cons.mp hv with rfl | hv
  ·exact ⟨_,_,rfl⟩
  ·exact h3 v hv
theorem prs_at {h:Heap} {vs:List Value} {prs:List (Int × Int)} (hp:Paired (PrAt h) vs prs) {i:Nat} (hi:i < vs.length):PrAt h (vs.getD i .none) (prs.getD i (0,0)) /\ prs.getD i (0,0) ∈ prs:=by
 induction hp generalizing i with
 | nil => cases hi
 | cons r t ih =>
  cases i with
  | zero => exact ⟨r,List.mem_cons_self ..⟩
  | succ i =>
   obtain ⟨h1,h2⟩:=ih (i:=i) (by simpa using hi)
   exact ⟨h1,List.mem_cons_of_mem _ h2⟩
theorem pairs_ask {prog:Program} {w:World} {s:Shared} {vs:List Value} {prs:List (Int × Int)} {h:Heap} (hp:Paired (PrAt h) vs prs):SAsk prog w s vs (tuples' true) (rk prs) h where
 kind:=fun A E Q h2 q => by
  obtain ⟨fs,h1,h3,h4⟩:=prs_tups hp;exact kat_kind (s:={ s with heap:=h }) (T:=.type "int") h1 (by lia) (fun v hv => by obtain ⟨i,t,rfl⟩:=h4 v hv;exact Looks.of_pure rfl) rfl q
 lt:=fun A C i j hi hj q => by
  obtain ⟨⟨a,o,n,t,u,ea,ho,hc,hd⟩,mi⟩:=prs_at hp hi;obtain ⟨⟨a',o',n',t',u',ea',ho',hc',hd'⟩,mj⟩:=prs_at hp hj;have e:=rank_lt mi mj;have e':decide (rk prs i < rk prs j) = lexLt (prs.getD i (0,0)) (prs.getD j (0,0)):=by
   rw [<- e,decide_eq_decide];unfold rk;lia
  rw [e'] at q;clear e e' mi mj;unfold kas_ask;rw [ea,ea'];generalize prs.getD i (0,0) = x at *;generalize prs.getD j (0,0) = y at *;refine kat_lt (s:={ s with heap:=h }) ho hd ho' hd' ?_
  show KatLex prog w A true _ C [(.int x.1 t,.int y.1 t'),(.int x.2 u,.int y.2 u')] 0 _;refine kat_cons (wpAny_eqBool_int ?_)
  cases c1:(x.1 == y.1) with
  | false =>
   refine kat_no ?_;have h1:x.1 ≠ y.1:=beq_eq_false_iff_ne.mp c1;have e1:lexLt x y = decide (x.1 < y.1):=by unfold lexLt;rw [decide_eq_decide];lia
   rw [e1] at q;exact oneLt_int q
  | true =>
   refine kat_yes (kat_cons (wpAny_eqBool_int ?_));have h1:x.1 = y.1:=eq_of_beq c1;have e1:lexLt x y = decide (x.2 < y.2):=by unfold lexLt;rw [decide_eq_decide];lia
   rw [e1] at q
   cases c2:(x.2 == y.2) with
   | false =>
    refine kat_no ?_;show wpAny (model prog w) A (oneLt' false (.int x.2 u) (.int y.2 u')) C _ _;exact kat_one _ _ (lt_int q)
   | true =>
    have h2:x.2 = y.2:=eq_of_beq c2;refine kat_yes (kat_nil ?_);rw [decide_eq_false (by lia)] at q
    exact q
def UpP (l:List (Int × Int)):Prop:=l.Pairwise fun x y => lexLt y x = false
theorem up_of {prs:List (Int × Int)} {ix:List Nat} (hp:ix.Perm (List.range prs.length)) (hr:ix.Pairwise (SP.R (rk prs))):(ix.map fun i => prs.getD i (0,0)).Perm prs /\ UpP (ix.map fun i => prs.getD i (0,0)):=by
 have e:(List.range prs.length).map (fun i => prs.getD i (0,0)) = prs:=by
  refine List.ext_getElem? fun i => ?_;rw [List.getElem?_map];rcases Nat.lt_or_ge i prs.length with c | c
  ·rw [List.getElem?_range c,List.getElem?_eq_getElem c];simp [c]
  ·rw [List.getElem?_eq_none_iff.mpr c,List.getElem?_eq_none_iff.mpr (by rw [List.length_range];exact c)];rfl
 refine ⟨?_,List.pairwise_map.mpr (hr.imp_of_mem fun {i j} hi hj h => ?_)⟩
 ·have:=hp.map fun i => prs.getD i (0,0);rw [e] at this;exact this
 ·have mem:∀ i ∈ ix,prs.getD i (0,0) ∈ prs:=fun i hi => by
   have hl:=List.mem_range.mp (hp.mem_iff.mp hi);rw [List.getD_eq_getElem?_getD,List.getElem?_eq_getElem hl];exact List.getElem_mem hl
  rw [<- rank_lt (mem j hj) (mem i hi)];have:=h.le;unfold rk at this;exact decide_eq_false (by lia)
namespace Y
def prV (H:Hp) (v:V) (p:Int × Int):Prop:=∃ q,v = .ref q /\ H q = some (.tup [.int p.1,.int p.2])
def rSortP (K:PySem.W.Frag):List V -> Hp -> VK -> Prop:=fun xs H Q => ∃ p vs prs,xs = [.ref p] /\ SqL K H p vs /\ Paired (prV H) vs prs /\ prs.length < 64 /\ ∀ ix:List Nat,ix.Perm (List.range prs.length) -> UpP (ix.map fun i => prs.getD i (0,0)) -> ∀ l,H l = none -> Q (.ref l) (upd H l (.lst (ix.map fun i => vs.getD i .non)))
theorem prv_at {X:Cx} {pins:List (Addr × Obj)} {σ:St} {H:Hp} {s:Shared} (I:Inv X pins σ H s):∀ {vs:List V} {its:List Value} {prs:List (Int × Int)},Vals vs its -> Paired (prV H) vs prs -> Paired (PrAt s.heap) its prs
 | _,_,_,.nil,.nil => .nil
 | _,_,_,.cons r t,.cons r' t' => by
  refine .cons ?_ (prv_at I t t');obtain ⟨q,rfl,hq⟩:=r';have e:_ = Value.ref q:=r;subst e;obtain ⟨_,ts,tv,o,e1,c,n,d,_⟩:=(show ObjOk X.prog X.w H s.heap q (.tup _) from I.hok q _ hq);obtain ⟨u,w',rfl,⟨t1,rfl⟩,⟨t2,rfl⟩⟩:=vals2 tv;exact ⟨q,o,n,t1,t2,rfl,e1,c,d⟩
theorem vals_ix {vs:List V} {its:List Value} (h:Vals vs its):∀ ix:List Nat,(∀ i ∈ ix,i < vs.length) -> Vals (ix.map fun i => vs.getD i .non) (ix.map fun i => its.getD i Value.none)
 | [],_ => .nil
 | i :: ix,hi => by
  refine .cons ?_ (vals_ix h ix fun j hj => hi j (List.mem_cons_of_mem _ hj));have hl:=hi i (List.mem_cons_self ..);obtain ⟨u,e,r⟩:=Vals.get h (List.getElem?_eq_getElem hl);show RelV (vs.getD i .non) (its.getD i Value.none);rw [List.getD_eq_getElem?_getD,List.getD_eq_getElem?_getD,List.getElem?_eq_getElem hl,e];exact r
theorem call_sortP {X:Cx} (K:PySem.W.Frag) (hK:X.K = K):CallR X (.builtin "sorted") (rSortP K):=by
 subst hK;intro pins s σ H xs us Q I r h;obtain ⟨p,vs,prs,rfl,hq,hp,h64,q⟩:=h;obtain ⟨u,rfl,ru⟩:=vals1 r;cases ru;obtain ⟨its,rv,pl,hz⟩:=I.list hq;have hpa:=prv_at I rv hp;have l1:its.length = prs.length:=Paired.length hpa;have l2:vs.length = prs.length:=Paired.length hp;refine sorted_gen (κ:=tuples' true) (kz:=rk prs) pl.isList (by lia) (fun h' hk => pairs_ask (Paired.mapP hpa fun a b ⟨x,o,n,t,u,e,ho,r⟩ => ⟨x,o,n,t,u,e,hk _ _ ho,r⟩)) fun px a1 a2 => ?_
 rw [l1] at a1;obtain ⟨e,he⟩:=sortedAll_at s.heap its (List.toArray (px.toList.map fun i => its.getD i Value.none));refine ⟨.ref (s.heap.objs.size + 1),_,I.laid (t':=s.toks) (fun b ob q => sortedAll_old q) (Nat.le_succ _) (show ObjOk X.prog X.w _ _ _ (.lst (px.toList.map fun i => vs.getD i .non)) from ⟨?_,_,e,vals_ix rv px.toList (fun i hi => by rw [l2];exact List.mem_range.mp (a1.mem_iff.mp hi)),by simpa using he⟩),rfl,q px.toList a1 (up_of a1 a2).2 _ (I.hok.fresh (Nat.le_succ _))⟩
 rw [List.length_map,a1.length_eq,List.length_range];exact Nat.le_trans (Nat.le_of_lt h64) (by decide)
end Y
namespace A
end A
end L2
namespace L2
open PySem PySem.Spec PyProof PyProof.Rows
namespace Y
end Y
namespace A
end A
section
variable {X:Cx} {tg:Expr}
end
namespace Z
variable {X:Cx} {tg a b c d e f o:Expr} {ta:TA} {td ty tx:TE} {p pos apos cpos kpos:Pos} {cj:Nat}
end Z
namespace Ap
end Ap
end L2
namespace L2
open PySem PySem.Spec PyProof PyProof.Rows
section
variable {X:Cx} {pins:List (Addr × Obj)} {σ:St} {H:Hp} {s:Shared} {d:Addr} {kvs:List (Key × V)} {o:Obj}
end
namespace Z
variable {X:Cx} {tg e l:Expr} {tl:TE}
end Z
namespace Ap
end Ap
end L2
namespace L2
open PySem PySem.Spec PyProof PyProof.Rows
section
variable {prog:Program} {w:World} {A:Around} {E:Value -> Shared -> Prop} {s:Shared}
end
open Builtin Builtin.Str
section
variable {prog:Program} {w:World} {A:Around} {E:Value -> Shared -> Prop} {h:Heap} {g:Array GenState} {d:Drawn} {t:Nat} {os:OsState} {a:Addr} {items:Array Value}
end
end L2
namespace L2
open PySem PySem.Spec PyProof PyProof.Rows
open Builtin Builtin.Str
section
variable {prog:Program} {w:World} {K:Type} [DecidableEq K] {knd:KeyKind prog w K} {A:Around} {R:Result -> Shared -> Prop}
end
end L2
namespace L2
open PySem PySem.Spec PyProof PyProof.Rows
section
variable {prog:Program} {w:World} {A:Around} {E:Value -> Shared -> Prop} {s:Shared}
end
end L2
namespace L2
open PySem PySem.Spec PyProof PyProof.Rows PySem.W
namespace Y
end Y
namespace A
end A
namespace Y
end Y
namespace A
end A
end L2
namespace L2
open PySem PySem.Spec PyProof PyProof.Rows
namespace Y
end Y
namespace A
end A
namespace A4
end A4
namespace Y
end Y
namespace A
end A
section
variable {X:Cx} {pins:List (Addr × Obj)} {σ:List (Option V)} {H:Hp} {s:Shared}
end
namespace Y
end Y
namespace A
end A
namespace Y
end Y
namespace A
end A
end L2
namespace L2
open PySem PySem.Calls PySem.NumText PySem.Spec PyProof PyProof.Rows
def binV (cs:List Nat):Nat:=cs.foldl (fun a c => a * 2 + (c - 48)) 0
def Bin (cs:List Nat):Prop:=∀ c ∈ cs,c = 48 \/ c = 49
theorem step2 {c:Nat} (h:c = 48 \/ c = 49) (ds:Array Nat) (b:Bool):step 2 (ds,b) c = some (ds.push (c - 48),true):=by
 rcases h with rfl | rfl <;> rfl
theorem fold2:∀ (cs:List Nat) (ds:Array Nat) (b:Bool),Bin cs -> ∃ ds':Array Nat,cs.foldlM (step 2) (ds,b) = some (ds',b || !cs.isEmpty) /\ ds'.foldl (fun a d => a * 2 + d) 0 = cs.foldl (fun a c => a * 2 + (c - 48)) (ds.foldl (fun a d => a * 2 + d) 0)
 | [],ds,b,_ => ⟨ds,by simp,rfl⟩
 | c :: cs,ds,b,h => by
  obtain ⟨ds',e1,e2⟩:=fold2 cs (ds.push (c - 48)) true fun x hx => h x (List.mem_cons_of_mem _ hx);refine ⟨ds',?_,?_⟩
  ·rw [List.foldlM_cons,step2 (h c List.mem_cons_self)];show cs.foldlM (step 2) (ds.push (c - 48),true) = _;rw [e1];simp
  ·rw [e2,Array.foldl_push,List.foldl_cons]
theorem bin_blank {c:Nat} (h:c = 48 \/ c = 49):blank c = false:=by rcases h with rfl | rfl <;> rfl
theorem bin_drop {cs:List Nat} (h:Bin cs):cs.dropWhile blank = cs:=by
 cases cs with
 | nil => rfl
 | cons c cs => rw [List.dropWhile_cons,bin_blank (h c List.mem_cons_self)];rfl
theorem bin_sign {cs:List Nat} (h:Bin cs):sign cs = (false,cs):=by
 cases cs with
 | nil => rfl
 | cons c cs => rcases h c List.mem_cons_self with rfl | rfl <;> rfl
theorem bin_based {cs:List Nat} (h:Bin cs):based 2 cs = (2,false,cs):=by
 have e:PySem.NumText.prefix? cs = none:=by
  rcases cs with _ | ⟨c,_ | ⟨d,cs⟩⟩
  ·rfl
  ·rcases h c List.mem_cons_self with rfl | rfl <;> rfl
  ·rcases h c List.mem_cons_self with rfl | rfl
   ·rcases h d (List.mem_cons_of_mem _ List.mem_cons_self) with rfl | rfl <;> rfl
   ·rfl
 unfold based;rw [e];rfl
theorem bin_read {cs:List Nat} (h:Bin cs) (h0:cs ≠ []):(int_private% "readNumeral") 0 2 cs = (int_private% "Numeral.value") (binV cs:Int):=by
 rw [readNumeral_eq,bin_drop h,bin_sign h];show judge 0 false (based 2 cs).1 (based 2 cs).2.1 (digits? (based 2 cs).1 (((based 2 cs).2.2.reverse.dropWhile blank).reverse)) = _;rw [bin_based h];show judge 0 false 2 false (digits? 2 ((cs.reverse.dropWhile blank).reverse)) = _;rw [bin_drop (cs:=cs.reverse) (fun c hc => h c (List.mem_reverse.mp hc)),List.reverse_reverse];obtain ⟨ds,e1,e2⟩:=fold2 cs #[] false h;have e3:digits? 2 cs = some ds:=by
  unfold digits?;rw [e1]
  cases cs with
  | nil => exact absurd rfl h0
  | cons => rfl
 rw [e3];show (int_private% "Numeral.value") ((ds.foldl (fun acc d => acc * 2 + d) 0:Nat):Int) = _;rw [e2];rfl
theorem bin_seen:∀ {cs:List Nat},Bin cs -> cs.takeWhile (· != 0) = cs
 | [],_ => rfl
 | c :: cs,h => by
  rw [List.takeWhile_cons,show (c != 0) = true by rcases h c List.mem_cons_self with rfl | rfl <;> rfl,if_pos rfl,bin_seen fun x hx => h x (List.mem_cons_of_mem _ hx)]
theorem wp_text2 {M:Model} {A:Around} {E:Value -> Shared -> Prop} {s:Shared} {Q:Value -> Shared -> Prop} {v:Value} {text:List Nat} {n:Int}
  (hs:(text.takeWhile (· != 0)).length <= 640) (hr:(int_private% "readNumeral") 0 2 (text.takeWhile (· != 0)) = (int_private% "Numeral.value") n)
  (ha:((text.takeWhile (· != 0)).length == text.length) = true) (h:Q (.int n s.toks) { s with toks:=s.toks + 1 }) :
  wpAny M A ((int_private% "intFromText") v text 2) Q E s:=by
 obtain ⟨hp,g,d,tk,os⟩:=s
 repeat (any_goals (first
  | assumption
  | (with_reducible refine wpAny_ite_true (decide_eq_true hs) ?_)
  | (with_reducible refine wpAny_ite_true (decide_eq_true ha) ?_)
  | wp_step))
 all_goals (try rw [hr])
 all_goals (try dsimp only)
 repeat (any_goals (first
  | assumption
  | (with_reducible refine wpAny_ite_true (decide_eq_true hs) ?_)
  | (with_reducible refine wpAny_ite_true (decide_eq_true ha) ?_)
  | wp_step))
theorem gives_text2 {x:PySem.Str} {u t:Tok} (hl:x.length <= 640) (hb:Bin x.cps.toList) (h0:x.cps.toList ≠ []):Gives (Builtin.«int.__new__» ⟨[.type "int",.str x u,.int 2 t],[]⟩) (.int (binV x.cps.toList)) :=
 .of_wp fun M A E s Q h => by
  obtain ⟨hp,g,d,tk,os⟩:=s;have f1:=F.conv_sub_int;have f2:=F.madeHere_int;have f6:typeOf (.str x u) = pure (.type "str"):=rfl;have ht:x.cps.all (· < 128) = true:=by
   rw [<- Array.all_toList,List.all_eq_true];intro c hc;rcases hb c hc with rfl | rfl <;> rfl
  have hs:=bin_seen hb;have hk:=PySem.W.KIN.Hid.mk (And.intro (show (x.cps.toList.takeWhile (· != 0)).length <= 640 by rw [hs];exact hl) (And.intro (show (int_private% "readNumeral") 0 2 (x.cps.toList.takeWhile (· != 0)) = (int_private% "Numeral.value") (binV x.cps.toList:Int) by rw [hs];exact bin_read hb h0) (show ((x.cps.toList.takeWhile (· != 0)).length == x.cps.toList.length) = true by rw [hs];simp)))
  clear hs hl hb h0
  repeat (any_goals (first
   | assumption
   | ((with_reducible show wpAny _ _ ((int_private% "intFromText") _ _ _) _ _ _);(try rw [if_pos ht]);refine wp_text2 hk.out.1 hk.out.2.1 hk.out.2.2 ?_)
   | wp_step))
  all_goals first | exact ⟨_,rfl,h⟩ | skip
theorem typeCall_int_2 (a b:Value):checkTypeCall "int" ⟨[a,b],[]⟩ = pure ():=by kernel_rfl
theorem newCall_int_2 (a b:Value):checkBuiltinCall "int.__new__" ⟨[.type "int",a,b],[]⟩ = pure ():=by kernel_rfl
theorem call_text2 {prog:Program} {w:World} {A:Around} {E:Value -> Shared -> Prop} {s:Shared} {Q:Value -> Shared -> Prop} {x:PySem.Str} {u t:Tok} (hl:x.length <= 640) (hb:Bin x.cps.toList) (h0:x.cps.toList ≠ []) (h:Q (.int (binV x.cps.toList) s.toks) { s with toks:=s.toks + 1 }):wpAny (model prog w) A (call (.type "int") [.str x u,.int 2 t]) Q E s :=
 callType_new F.called_int F.newNe_int (typeCall_int_2 _ _) (newCall_int_2 _ _) (fun obj => F.args_object_init_3 obj _ _) F.entry_int_new (gives_text2 hl hb h0).meets (show (Made.int _).post _ s from ⟨rfl,h⟩)
def rInt2:List V -> Hp -> VK -> Prop:=fun xs H Q => ∃ z:Str,xs = [.str z,.int 2] /\ z.length <= 640 /\ Bin z.cps.toList /\ z.cps.toList ≠ [] /\ Q (.int (binV z.cps.toList)) H
theorem call_int2 {X:Cx}:CallR X (.type "int") rInt2:=by
 intro pins s σ H xs us Q I r h;obtain ⟨z,rfl,h1,h2,h3,q⟩:=h;obtain ⟨u,v,rfl,⟨t,rfl⟩,⟨t',rfl⟩⟩:=vals2 r;exact call_text2 h1 h2 h3 ⟨.int _,H,I.tok _,⟨_,rfl⟩,q⟩
namespace Y
end Y
namespace A
end A
end L2
namespace L2
open PySem PySem.Spec PyProof PyProof.Rows
namespace Y
end Y
namespace A
end A
namespace Y
end Y
namespace A
end A
end L2
namespace L2
open PySem PySem.Spec PyProof.Rows
abbrev Src:=Bool × Addr × Addr
section
variable {prog:Program} {w:World} {A:Around} {E:Value -> Shared -> Prop} {z TI TO:Addr} {S:List Src} {i:Nat}
end
section
variable {X:Cx} {pins:List (Addr × Obj)} {σ:St} {H:Hp} {s:Shared} {i:Nat}
end
section
variable {X:Cx} {es:List Expr} {tk:Nat} {tp:Pos}
end
namespace Y
section
variable {X:Cx} {e1 e2 e3:Expr} {es:List Expr} {us:UA} {pos p tp:Pos} {k:Nat}
end
end Y
namespace A
end A
end L2
namespace L2
open PySem PySem.Spec PyProof PyProof.Rows
namespace Y
end Y
section
variable {M:Model} {A:Around} {E:Value -> Shared -> Prop} {s:Shared} {env:Env} {outer:List Env} {L e:Addr} {cls:Value} {d:Option Addr} {base:Heap}
end
section
variable {X:Cx} {scope:Scope} {N:List Str} {C:Addr} {s0:Shared} {H0:Hp} {fp:List Addr} {XE:Value -> Shared -> Prop} {pins:List (Addr × Obj)} {σ:St} {H:Hp} {s:Shared}
end
section
variable {X:Cx}
end
namespace Y
end Y
namespace A
end A
end L2
namespace L2
open PySem PySem.Spec PyProof.Rows
section
variable {K:PySem.W.Frag} {F:Fx} {ad:Nat -> Addr} {B:AP'} {σ:St} {H H':Hp} {μ:Mu}
end
namespace Y
end Y
namespace Y
end Y
namespace A
end A
end L2
namespace L2
open PySem PySem.Spec PyProof PyProof.Rows
namespace Z
theorem noS {X:Cx} {st:Stmt}:QS X st (fun _ _ _ => False):=⟨fun _ _ _ _ _ _ h => h.elim⟩
end Z
namespace Y
def rNeE (K:PySem.W.Frag):R2:=fun x y H Q => ∃ a b xs,x = .ref a /\ y = .ref b /\ SqL K H a xs /\ SqL K H b [] /\ Q (.bl (!xs.isEmpty)) H
theorem op_neE {X:Cx} (K:PySem.W.Frag) (hK:X.K = K) (hu:X.A.units < cLine):OpR X (compareOp .NotEq) (rNeE K):=by
 subst hK;intro pins s σ H x y v u Q I rx ry h;obtain ⟨a,b,xs,rfl,rfl,ha,hb,q⟩:=h
 cases rx;cases ry
 obtain ⟨its,r1,p1,_⟩:=I.list ha;obtain ⟨its2,r2,p2,_⟩:=I.list hb;obtain rfl:=Paired.nilL r2
 cases r1 with
 | nil => exact SeqAt.RcNeAt.lists (e:=fun _ => true) p1.isList p2.isList rfl hu (fun j h1 => absurd h1 (Nat.not_lt_zero _)) X.prog X.w X.xe _ ⟨.bl false,H,I,rfl,q⟩
 | cons h r => exact SeqAt.RcNeAt.lists_lengths p1.isList p2.isList (by simp) hu X.prog X.w X.xe _ ⟨.bl true,H,I,rfl,q⟩
end Y
namespace A
end A
namespace Z
theorem bm0 {X:Cx} {o:Expr} {to:TE} {pos:Pos} (K:PySem.W.Frag) (hK:X.K = K) {name:Str} {apos:Pos} {T id:String} {r:V -> List V -> Hp -> VK -> Prop} (pa:PlainAttrs T) (slot:Slot T name id) (hty:typeOf (.builtin id) = pure (.type "method_descriptor")) (hm:MtR X id r) (ho:QE X o to)
  (hbase:attributeBase o name X.env (eval o X.env) = eval o X.env:=by rfl) (hline:(apos.endLine == pos.line) = true:=by rfl):QE X (.Call (.Attribute o name apos) [] [] pos) (tBM0 K T r to):=by
 subst hK;exact ⟨pe_bm0 pa slot hty hm ho.h hbase hline⟩
theorem k_ixT {X:Cx} (K:PySem.W.Frag) (hK:X.K = K):IxR X (rIxT K):=by subst hK;exact ix_tup
end Z
theorem kbT {K:PySem.W.Frag} {H H':Hp} {a:Addr} {xs:List V} (h:SqT K H a xs) (k:KB [] H H'):SqT K H' a xs:=SqT.same (fun b o z => k b o z (by simp)) h
structure QP (X:Cx) (pos:Pos) (keys:List (Option Expr)) (values:List Expr) (trs:List (TE × TE)):Prop where
 h:PPs X pos keys values trs
namespace Z
theorem kix {X:Cx} {e:Expr} {te:TE} {x:Str} {pos p:Pos} {d:Addr} {D:List (Str × List Str)} (K:PySem.W.Frag) (hK:X.K = K) (hg:Gl X x) (hm:X.mg x = some (.ref d)) (hd:KDic K d D) (he:QE X e te) (hs:NoSl e:=by exact fun _ _ => rfl) (hdb:(x == ("__debug__":Str)) = false:=by decide):QE X (.Subscript (.Name x p) e pos) (tKix K D te):=by
 subst hK;exact ⟨pe_kix (pe_glob hg hm rfl hdb) hd he.h hs⟩
theorem itS {X:Cx} {tg l:Expr} {tl:TE} (hl:QE X l tl):QI X tg l (iStr tl):=⟨pi_str hl.h⟩
theorem enumL {X:Cx} {e:Expr} {es:List Expr} {ta:TA} {p pos:Pos} (K:PySem.W.Frag) (hK:X.K = K) {k:Nat} {tp:Pos} (hg:Gl X "enumerate") (hm:X.mg "enumerate" = none) (ha:QA X [e] ta) (h1:nst e = true:=by rfl):QI X (.Tuple es k tp) (.Call (.Name "enumerate" p) [e] [] pos) (iEnumL K ta):=by
 subst hK;exact ⟨pi_enumL hg hm ha.h h1⟩
theorem sortF {X:Cx} {e:Expr} {t:TA} {p pos kpos lpos p1 p2 p3:Pos} {x y z:Str} {c Pt d:Addr} {j:Nat} {params:Arguments} {scope:Scope} {k:Nat} (K:PySem.W.Frag) (hK:X.K = K) (hx:z ∈ lamNames) (ht:PySem.W.tabIn K z = some (c,Pt)) (hcode:X.env.code = .ref c) (hq:X.env.qual = z ++ ".<locals>.") (hdef:defaultsOf params X.env = ([],[])) (hcl:closureFor scope X.env = pure [(y,d)])
  (hg:Gl X "sorted") (hm:X.mg "sorted" = none) (ha:QA X [e] t) (hr:Room (k + 3) X.A)
  (hsc:scope = { kind:=.function,names:=[(x,.local),(y,.free)],isGenerator:=false,isCoroutine:=false,more:=[] }) (hxy:y ≠ x) (hx1:(x == ("__debug__":Str)) = false) (hx2:(x == ("__classdict__":Str)) = false) (hy1:(y == ("__debug__":Str)) = false) (hy2:(y == ("__classdict__":Str)) = false)
  (hj:X.N[j]? = some y) (hyc:X.env.scope.names.lookup y = some .cell) (hyl:X.env.cells.lookup y = some d)
  (hbind:∀ c' pm ctv u,bindArgs (PySem.W.kla_fn "<lambda>" ((z ++ ".<locals>.") ++ "<lambda>") params (.Subscript (.Name y p1) (.Name x p2) p3) scope [(y,d)] pm (.ref c') ctv) ⟨[u],[]⟩ = pure [(x,u)]) (h1:nst e = true:=by rfl) :
  QE X (.Call (.Name "sorted" p) [e] [⟨some "key",.Lambda params (.Subscript (.Name y p1) (.Name x p2) p3) scope lpos,kpos⟩] pos) (tSortF K j t):=by
 subst hK;exact ⟨pe_sortF hg hm ha.h h1 hr (pe_lam hx ht hcode hq hdef hcl) hsc hxy hx1 hx2 hy1 hy2 hj hyc hyl hbind⟩
theorem k_inT {X:Cx} (K:PySem.W.Frag) (hK:X.K = K):OpR X (compareOp .In) (rIn K false):=by subst hK;exact op_in_seq
theorem k_list {X:Cx} (K:PySem.W.Frag) (hK:X.K = K):CallR X (.type "list") (fun xs H Q => ∃ p ys,xs = [.ref p] /\ (SqL K H p ys \/ SqT K H p ys) /\ ∀ l,H l = none -> Q (.ref l) (upd H l (.lst ys))):=by subst hK;exact call_list_of
theorem dnewK {X:Cx} {pos:Pos}:QE X (.Dict [] [] pos) tDNewK:=⟨pe_dnewK⟩
theorem dnil {X:Cx} {pos:Pos}:QP X pos [] [] []:=⟨pps_nil⟩
theorem dcons {X:Cx} {pos p1:Pos} {j1:Nat} {k:Str} {v:Expr} {keys:List (Option Expr)} {values:List Expr} {tv:TE} {trs:List (TE × TE)} (hv:QE X v tv) (h:QP X pos keys values trs):QP X pos (some (.Constant (.str k) j1 p1) :: keys) (v :: values) ((tC (.str k),tv) :: trs):=⟨pps_cons pe_str hv.h h.h⟩
theorem disp {X:Cx} {pos:Pos} {keys:List (Option Expr)} {values:List Expr} {trs:List (TE × TE)} (h:QP X pos keys values trs) (hall:keys.all (·.isSome) = true:=by rfl) (hl:keys.length = values.length:=by rfl) (h0:keys ≠ []:=by simp) (h15:keys.length <= 15:=by decide):QE X (.Dict keys values pos) (tDisp trs):=⟨pe_disp h.h hall hl h0 h15⟩
end Z
namespace Ap
theorem tKix (K:PySem.W.Frag) (D:List (Str × List Str)) (te:TE) (σ:St) (H:Hp) (Q:VK):L2.tKix K D te σ H Q = te σ H fun y H1 => ∃ k ws,y = .str k /\ KTD.datumAt k D = some ws /\ ∀ p,KTp K p (ws.map V.str) -> Q (.ref p) H1:=rfl
theorem iStr (tl:TE) (σ:St) (H:Hp) (R:It -> Hp -> Prop):L2.iStr tl σ H R = tl σ H fun x H1 => ∃ z,x = V.str z /\ R (Its z) H1:=rfl
theorem iEnumL (K:PySem.W.Frag) (ta:TA) (σ:St) (H:Hp) (R:It -> Hp -> Prop):L2.iEnumL K ta σ H R = ta σ H fun vs H1 => ∃ a,vs = [.ref a] /\ (∃ xs,SqL K H1 a xs) /\ R (IteL K a) H1:=rfl
theorem tSortF (K:PySem.W.Frag) (j:Nat) (t:TA) (σ:St) (H:Hp) (Q:VK):L2.tSortF K j t σ H Q = t σ H fun vs H1 => ∃ l xs kz,vs = [.ref l] /\ (∃ n:Nat,H1 l = some (.rng 0 n) /\ xs = intsR n) /\ kz.length = xs.length /\ xs.length < 64 /\
 (∀ (i:Nat) (v:V) (k:Int),xs[i]? = some v -> kz[i]? = some k -> ∀ H',Grow H1 H' -> ∃ i q ls,v = .int i /\ frF j σ = [some (.ref q)] /\ SqT K H' q ls /\ atI ls i = some (.int k)) /\ ∀ H2 D,Grow H1 H2 -> H2 D = none -> Q (.ref D) (upd H2 D (.lst (byK kz xs))):=rfl
theorem tDisp (trs:List (TE × TE)) (σ:St) (H:Hp) (Q:VK):L2.tDisp trs σ H Q = ∀ p,H p = none -> tPairs trs σ (upd H p (.dK [])) fun ps H2 => H2 p = some (.dK []) /\ ∃ kvs:List (Key × V),ps = kvs.map (fun kv => (kV kv.1,kv.2)) /\ kvs.length <= 15 /\ Q (.ref p) (upd H2 p (.dK (mergeK [] kvs))):=rfl
theorem tPairs0 (σ:St) (H:Hp) (Q:List (V × V) -> Hp -> Prop):tPairs [] σ H Q = Q [] H:=rfl
theorem tPairs1 (tk tv:TE) (r:List (TE × TE)) (σ:St) (H:Hp) (Q:List (V × V) -> Hp -> Prop):tPairs ((tk,tv) :: r) σ H Q = tk σ H fun x H1 => tv σ H1 fun y H2 => tPairs r σ H2 fun ps H3 => Q ((x,y) :: ps) H3:=rfl
theorem tDNewK (σ:St) (H:Hp) (Q:VK):L2.tDNewK σ H Q = ∀ p,H p = none -> Q (.ref p) (upd H p (.dK [])):=rfl
end Ap
section
variable {K:PySem.W.Frag} {g:TG} {tb:TS} {D:Ends} {σ:St} {H:Hp}
theorem forW_str {z:Str} (Pv:Nat -> St -> Hp -> Prop) (h0:Pv 0 σ H)
  (hs:∀ i c σ H,z.cps[i]? = some c -> Pv i σ H -> g (.str ⟨#[c]⟩) σ H fun σ2 H2 => tb { D with nx:=Pv (i + 1),ct:=Pv (i + 1),bk:=D.nx } σ2 H2) (hd:∀ σ H,Pv z.cps.size σ H -> D.nx σ H):ForW (Its z) g tb D σ H:=by
 refine ⟨fun i m σ H => m = z.cps.size - i /\ i <= z.cps.size /\ Pv i σ H,⟨z.cps.size,by simp,Nat.zero_le _,h0⟩,?_⟩
 rintro i m σ H ⟨rfl,hi,p⟩;by_cases c:i < z.cps.size
 ·refine .inr ⟨c,fun σ' H' => Pv (i + 1) σ' H',fun σ' H' h => ⟨_,by lia,rfl,c,h⟩,?_⟩
  rintro x H' ⟨rfl,y,e,rfl⟩;exact hs i y σ _ e p
 ·have e:i = z.cps.size:=by lia
  subst e;exact .inl ⟨Nat.le_refl _,hd _ _ p⟩
theorem forW_enumL {a:Addr} {xs:List V} (Pv:Nat -> St -> Hp -> Prop) (h0:Pv 0 σ H) (hl:∀ i σ H,i <= xs.length -> Pv i σ H -> SqL K H a xs)
  (hs:∀ i x σ H p,xs[i]? = some x -> Pv i σ H -> H p = none -> g (.ref p) σ (upd H p (.tup [.int i,x])) fun σ2 H2 => tb { D with nx:=Pv (i + 1),ct:=Pv (i + 1),bk:=D.nx } σ2 H2) (hd:∀ σ H,Pv xs.length σ H -> D.nx σ H) :
  ForW (IteL K a) g tb D σ H:=by
 refine ⟨fun i m σ H => m = xs.length - i /\ i <= xs.length /\ Pv i σ H,⟨xs.length,by simp,Nat.zero_le _,h0⟩,?_⟩
 rintro i m σ H ⟨rfl,hi,p⟩;have hq:=hl i σ H hi p;by_cases c:i < xs.length
 ·refine .inr ⟨⟨xs[i],xs,hq,List.getElem?_eq_getElem c⟩,fun σ' H' => Pv (i + 1) σ' H',fun σ' H' h => ⟨_,by lia,rfl,c,h⟩,?_⟩
  rintro x H' ⟨q,y,e,fr,rfl,rfl⟩;have e1:=e xs hq;exact hs i y σ H q e1 p fr
 ·have e:i = xs.length:=by lia
  subst e;exact .inl ⟨⟨xs,hq,rfl⟩,hd _ _ p⟩
end
section
variable {K:PySem.W.Frag} {σ:St} {H:Hp} {tc:TT} {te:TE} {Q:VK}
theorem tup2 {x y:V} {c:Addr} {σ:St} {o1 o2:Option V} {H:Hp} {R:St -> Hp -> Prop} (h:R (some x :: some y :: σ) (upd H c (.tup [x,y]))):gTup K 2 (gCons (gName 0) (gCons (gName 1) gNil)) (.ref c) (o1 :: o2 :: σ) (upd H c (.tup [x,y])) R:=⟨c,[x,y],rfl,SqT.of upd_same,rfl,x,[y],rfl,y,[],rfl,rfl,h⟩
theorem compW_enumT {a:Addr} {xs:List V} (hn:xs.length <= sizeLine) (Pv:Addr -> Nat -> List V -> Hp -> Prop) (h0:∀ D,H D = none -> Pv D 0 [] (upd H D (.lst []))) (hD:∀ D i ys H',Pv D i ys H' -> H' D = some (.lst ys) /\ ys.length = i)
  (hl:∀ D i ys H',Pv D i ys H' -> SqT K H' a xs)
  (hs:∀ D i ys H' x p (R:VK),xs[i]? = some x -> Pv D i ys H' -> H' p = none -> (∀ v H5,H5 D = some (.lst ys) -> Pv D (i + 1) (ys ++ [v]) (upd H5 D (.lst (ys ++ [v]))) -> R v H5) -> te (some (.int i) :: some x :: σ) (upd H' p (.tup [.int i,x])) R) (hd:∀ D ys H',Pv D xs.length ys H' -> Q (.ref D) H') :
  CompW (IteT K a) 2 (gTup K 2 (gCons (gName 0) (gCons (gName 1) gNil))) tTrue te Q σ H:=by
 intro D hD0;refine ⟨fun i m ys σ' H' => m = xs.length - i /\ i <= xs.length /\ Pv D i ys H' /\ ∃ o1 o2,σ' = o1 :: o2 :: σ,⟨xs.length,by simp,Nat.zero_le _,h0 D hD0,none,none,rfl⟩,?_⟩
 rintro i m ys σ' H' ⟨rfl,hi,p,o1,o2,rfl⟩;obtain ⟨hDi,hly⟩:=hD _ _ _ _ p;have q:=hl _ _ _ _ p;refine ⟨hDi,?_⟩;by_cases hlt:i < xs.length
 ·refine .inr ⟨⟨xs[i],xs,q,by simp [hlt]⟩,by lia,fun x H2 y => ?_⟩
  obtain ⟨c,y,hy,fr,rfl,rfl⟩:=y;refine tup2 ?_;unfold tTrue;dsimp only;rw [if_pos rfl];exact hs D i ys H' y c _ (hy xs q) p fr fun v H5 q1 q2 => ⟨q1,xs.length - (i + 1),by lia,rfl,hlt,q2,_,_,rfl⟩
 ·have e:i = xs.length:=by lia
  subst e;exact .inl ⟨⟨xs,q,rfl⟩,hd D ys H' p⟩
theorem compW_zipF {a b:Addr} {xs ys:List V} (hxy:xs.length = ys.length) (ha:SqT K H a xs) (hb:SqT K H b ys)
  (hs:∀ (i:Nat) x y H' (R:Bool -> Hp -> Prop),xs[i]? = some x -> ys[i]? = some y -> KB [] H H' -> (∀ H4,KB [] H' H4 -> R false H4) -> tc (some x :: some y :: σ) H' R) (hd:∀ D H',KB [] H H' -> H' D = some (.lst []) -> Q (.ref D) H') :
  CompW (ItzK K false false a b) 2 (gTup K 2 (gCons (gName 0) (gCons (gName 1) gNil))) tc te Q σ H:=by
 intro D hD0;refine ⟨fun i m zs σ' H' => m = xs.length - i /\ i <= xs.length /\ zs = [] /\ H' D = some (.lst []) /\ KB [] H H' /\ ∃ o1 o2,σ' = o1 :: o2 :: σ,⟨xs.length,by simp,Nat.zero_le _,rfl,upd_same,KB.new hD0,none,none,rfl⟩,?_⟩
 rintro i m zs σ' H' ⟨rfl,hi,rfl,g1,g2,o1,o2,rfl⟩;have q1:SqK K false H' a xs:=kbT ha g2;have q2:SqK K false H' b ys:=kbT hb g2;refine ⟨g1,?_⟩;by_cases hlt:i < xs.length
 ·have hl2:i < ys.length:=by lia
  refine .inr ⟨⟨xs,ys,xs[i],ys[i],q1,q2,by simp [hlt],by simp [hl2]⟩,by decide,fun x H2 z => ?_⟩
  obtain ⟨c,y1,y2,e1,e2,fr,rfl,rfl⟩:=z;refine tup2 ?_;have k3:KB [] H' (upd H' c (.tup [y1,y2])):=KB.new fr;refine hs i y1 y2 _ _ (e1 xs q1) (e2 ys q2) (g2.trans k3) fun H4 k4 => ?_;rw [if_neg Bool.false_ne_true];exact ⟨xs.length - (i + 1),by lia,rfl,hlt,rfl,k4 _ _ (k3 _ _ g1 (by simp)) (by simp),g2.trans (k3.trans k4),_,_,rfl⟩
 ·have e:i = xs.length:=by lia
  subst e;exact .inl ⟨⟨xs,ys,q1,q2,by lia⟩,hd D H' g2 g1⟩
end
theorem nxG {t:TS} {D:Ends} {σ:St} {H:Hp} (h:∀ N,N = D.nx -> t { D with nx:=N } σ H):t D σ H:=h _ rfl
theorem ifG {c:TT} {t u:TS} {D:Ends} {σ:St} {H:Hp} (h:∀ A B,A = t D -> B = u D -> c σ H fun b H1 => if b = true then A σ H1 else B σ H1):tIfS c t u D σ H:=h _ _ rfl rfl
theorem HasFn.okQc {P:Program} {w:World} {K:PySem.W.Frag} {mg:Str -> Option Value} {base:Heap} {x:Str} {st:Stmt} {N ps:List Str} {k:Nat} {sp:Sp} (F:HasFn K mg x st ps) (S:FnScope N ps (defScope st)) (len:∀ vs H Q E,sp vs H Q E -> vs.length = ps.length)
  (hbody:∀ (f:Addr) (cdv:Value) (A:Around) (outer:List Env) (s:Shared) (H:Hp) (vs:List V) (Q:VK) (E:XK),Room k (A.deeper (envOfC x (defScope st) s.heap.objs.size f cdv)) -> mg x = some (.ref f) -> HasCode K f cdv -> sp vs H Q E ->
   ∃ t,QB (cxOf CX0 P w K mg base N x (defScope st) f cdv A outer s H E).nox (defBody st) t /\ t { nx:=fun _ H' => Q .non H',rt:=Q } (start N vs) H):CallOk P w K mg base CX0 (k + 1) x ps sp:=by
 obtain ⟨f,fd,F1,b,m⟩:=F.ex;have F2:=F1;obtain ⟨oc,od,kV,doc,pm,an,cdv,ct,osl,rfl,lk,hcd⟩:=F2.ex;refine ⟨f,_,m,F1.kp,b,fn_of lk hcd S len fun A outer s H vs Q E hr hsp => ?_⟩;obtain ⟨t,h,q⟩:=hbody f cdv A outer s H vs Q E hr m ⟨_,_,lk,rfl,rfl⟩ hsp;exact ⟨t,h.h.nox,q⟩
end L2
namespace G
open PySem L2 PySem.Spec PyProof.Rows
def top (i:Nat):Stmt:=PySem.Challenge.pw_shortrows_k34_bits_run.main.body.getD i (.Pass ⟨0,0,0,0⟩)
abbrev s_Machine___init__:Stmt:=inClass (top 6) 0
abbrev s_Machine_place_next:Stmt:=inClass (top 6) 1
abbrev s_Machine_carry_out:Stmt:=inClass (top 6) 2
abbrev s_Machine_number_for:Stmt:=inClass (top 6) 3
abbrev s_Machine_heard_number:Stmt:=inClass (top 6) 4
abbrev s_Machine_told_numbers:Stmt:=inClass (top 6) 5
abbrev s_Machine_box_numbers:Stmt:=inClass (top 6) 6
structure Txt (K:PySem.W.Frag) (mg:Str -> Option Value):Prop where
 b_abs:mg "abs" = none
 b_bool:mg "bool" = none
 b_dict:mg "dict" = none
 b_enumerate:mg "enumerate" = none
 b_int:mg "int" = none
 b_isinstance:mg "isinstance" = none
 b_len:mg "len" = none
 b_list:mg "list" = none
 b_min:mg "min" = none
 b_range:mg "range" = none
 b_sorted:mg "sorted" = none
 b_str:mg "str" = none
 b_sum:mg "sum" = none
 b_tuple:mg "tuple" = none
 b_zip:mg "zip" = none
 c_BOXES:∃ a,mg "BOXES" = some (.ref a) /\ ∀ H,SqT K H a [.str "a",.str "b",.str "c",.str "d",.str "e",.str "f",.str "g",.str "h"]
 c_HALVES:∃ a,mg "HALVES" = some (.ref a) /\ ∀ H,SqT K H a [.int 8,.int 128,.int 32768]
 c_HEADS:∃ a,mg "HEADS" = some (.ref a) /\ ∀ H,SqT K H a [.str "0",.str "10",.str "11"]
 c_OF_BOXES:∃ u,mg "OF_BOXES" = some u /\ RelV (.int 2) u
 c_OF_CLASSES:∃ u,mg "OF_CLASSES" = some u /\ RelV (.int 1) u
 c_OF_WORDS:∃ u,mg "OF_WORDS" = some u /\ RelV (.int 0) u
 c_WHOLE:∃ u,mg "WHOLE" = some u /\ RelV (.int 65536) u
 c_WIDTHS:∃ a,mg "WIDTHS" = some (.ref a) /\ ∀ H,SqT K H a [.int 4,.int 8,.int 16]
 d_SHAPES:∃ d,mg "SHAPES" = some (.ref d) /\ KDic K d [("put",["box","number"]),("add",["box","box"]),("sub",["box","box"]),("copy",["box","box"]),("tell",["box"]),("hear",["box"]),("jump",["goal"]),("zero",["box","goal"]),("halt",[])]
 mc:∃ (C_Machine f___init__ f_place_next f_carry_out f_number_for f_heard_number f_told_numbers f_box_numbers:Addr) (d___init__ d_place_next d_carry_out d_number_for d_heard_number d_told_numbers d_box_numbers:FuncData),mg "Machine" = some (.ref C_Machine) /\ Cls K C_Machine /\ NoAttr K C_Machine "given" /\ NoAttr K C_Machine "heard" /\ NoAttr K C_Machine "told" /\ NoAttr K C_Machine "boxes" /\ Mk K C_Machine f___init__ /\ Fun K "__init__" "Machine.__init__" s_Machine___init__ f___init__ d___init__ /\ Binds K d___init__ ["self","given"] [] /\ Meth K C_Machine "place_next" f_place_next /\ Fun K "place_next" "Machine.place_next" s_Machine_place_next f_place_next d_place_next /\ Binds K d_place_next ["self","row","behind","end"] [] /\ Meth K C_Machine "carry_out" f_carry_out /\ Fun K "carry_out" "Machine.carry_out" s_Machine_carry_out f_carry_out d_carry_out /\ Binds K d_carry_out ["self","row"] [] /\ Meth K C_Machine "number_for" f_number_for /\ Fun K "number_for" "Machine.number_for" s_Machine_number_for f_number_for d_number_for /\ Binds K d_number_for ["self","row"] [] /\ Meth K C_Machine "heard_number" f_heard_number /\ Fun K "heard_number" "Machine.heard_number" s_Machine_heard_number f_heard_number d_heard_number /\ Binds K d_heard_number ["self"] [] /\ Meth K C_Machine "told_numbers" f_told_numbers /\ Fun K "told_numbers" "Machine.told_numbers" s_Machine_told_numbers f_told_numbers d_told_numbers /\ Binds K d_told_numbers ["self"] [] /\ Meth K C_Machine "box_numbers" f_box_numbers /\ Fun K "box_numbers" "Machine.box_numbers" s_Machine_box_numbers f_box_numbers d_box_numbers /\ Binds K d_box_numbers ["self"] []
 lam_code_of:LamFn K mg "code_of"
section
variable {P:Program} {w:World} {K:PySem.W.Frag} {mg:Str -> Option Value} {base:Heap}
namespace Kr
def ks (L:Nat):List Nat -> Nat
 | [] => 0
 | l :: r => 2 ^ (L - l) + ks L r
end Kr
def iV (xs:List Int):List V:=xs.map V.int
theorem kb_tup {ex:List Addr} {H H':Hp} {a:Addr} {xs:List V} (k:KB ex H H') (hx:∀ b ∈ ex,∃ ys,H b = some (.lst ys)) (h:H a = some (.tup xs)):H' a = some (.tup xs):=k _ _ h fun z => by
 obtain ⟨ys,e⟩:=hx a z;rw [h] at e;cases e
def Lens (ls:List Int):Prop:=0 < ls.length /\ ls.length <= 20 /\ ∀ x ∈ ls,1 <= x /\ x <= 20
def KS (ls:List Int):Nat:=Kr.ks 40 (ls.map Int.toNat)
def okL (ls:List Int):Bool:=decide (KS ls <= 2 ^ 40)
namespace Cw
def pad (n:Nat) (w:List Nat):List Nat:=w ++ List.replicate (n - w.length) 48
def pyN (w:List Nat) (n:Nat):List Nat:=pad n ((w.reverse.dropWhile (· == 49)).reverse.dropLast ++ [49])
theorem all_rep:∀ {l:List Nat},l.all (· == 49) = true -> l = List.replicate l.length 49
 | [],_ => rfl
 | c :: r,h => by
  rw [List.all_cons,Bool.and_eq_true] at h;have hc:c = 49:=beq_iff_eq.mp h.1;rw [List.length_cons,List.replicate_succ,<- all_rep h.2,hc]
theorem parts:∀ {w:List Nat},(∀ c ∈ w,c = 48 \/ c = 49) -> w.all (· == 49) = false -> ∃ p k,w = p ++ 48 :: List.replicate k 49
 | [],_,h => by cases h
 | c :: r,hb,h => by
  by_cases z:r.all (· == 49) = true
  ·rw [List.all_cons,z,Bool.and_true] at h;have hc:c = 48:=(hb c List.mem_cons_self).resolve_right fun e => by rw [e] at h;cases h
   exact ⟨[],r.length,by rw [hc,List.nil_append,<- all_rep z]⟩
  ·obtain ⟨p,k,e⟩:=parts (w:=r) (fun x hx => hb x (List.mem_cons_of_mem _ hx)) (by simpa using z)
   exact ⟨c :: p,k,by rw [e];rfl⟩
def val:List Nat -> Nat
 | [] => 0
 | c :: r => (c - 48) * 2 ^ r.length + val r
theorem val_zeros:∀ k,val (List.replicate k 48) = 0
 | 0 => rfl
 | k + 1 => by rw [List.replicate_succ,val,val_zeros k];simp
theorem val_ones:∀ k,val (List.replicate k 49) + 1 = 2 ^ k
 | 0 => rfl
 | k + 1 => by
  have:=val_ones k;rw [List.replicate_succ,val,List.length_replicate,Nat.pow_succ];lia
theorem ones_val {w:List Nat} (h:w.all (· == 49) = true):val w + 1 = 2 ^ w.length:=by
 rw [all_rep h,List.length_replicate];exact val_ones _
structure Held (done:List Nat) (w:List Nat):Prop where
 bits:∀ c ∈ w,c = 48 \/ c = 49
 len:w.length <= 40
 sum:(val w + 1) * 2 ^ (40 - w.length) = Kr.ks 40 done
theorem Held.zero {done rest w:List Nat} {l:Nat} (h:Held done w) (hk:Kr.ks 40 done + 2 ^ (40 - l) <= 2 ^ 40):w.all (· == 49) = false:=by
 cases z:w.all (· == 49) with
 | false => rfl
 | true =>
  have e:=h.sum;rw [ones_val z,<- Nat.pow_add,Nat.add_sub_cancel' h.len] at e;have:0 < 2 ^ (40 - l):=Nat.pow_pos (by decide)
  lia
theorem Held.first {l:Nat} (hl:l <= 40):Held [l] (List.replicate l 48):=⟨fun c h => .inl (List.mem_replicate.mp h).2,by rw [List.length_replicate];exact hl,by rw [val_zeros,List.length_replicate];simp [Kr.ks]⟩
def along (nx:List Nat -> Nat -> List Nat) (ln:Nat -> Nat):List Nat -> Option (List Nat) × List (List Nat) -> Option (List Nat) × List (List Nat)
 | [],s => s
 | t :: r,(a,ws) =>
  let w:=match a with | none => List.replicate (ln t) 48 | some v => nx v (ln t)
  along nx ln r (some w,ws.set t w)
theorem along_len {nx:List Nat -> Nat -> List Nat} {ln:Nat -> Nat}:∀ (o:List Nat) (s:Option (List Nat) × List (List Nat)),(along nx ln o s).2.length = s.2.length
 | [],_ => rfl
 | t :: r,(a,ws) => (along_len r _).trans List.length_set
section
variable {α:Type}
end
end Cw
local macro_rules | `(tactic| walk_at "lc") => `(tactic| first | exact Or.inl rfl | exact Or.inr rfl)
local macro_rules | `(tactic| wp_walk using $ts,*) => do
  let ids := ("Nat.reduceAdd Nat.reduceSub Nat.reduceLeDiff L2.Ap.tVar L2.Ap.tC L2.Ap.tOp L2.Ap.tUn L2.Ap.tTest L2.Ap.tIf L2.Ap.tAnd L2.Ap.tOr L2.Ap.tNot L2.Ap.tAndV L2.Ap.tChain L2.Ap.tNil L2.Ap.tK L2.Ap.tTru L2.Ap.tNotV L2.Ap.tCons L2.Ap.tTup L2.Ap.tLst L2.Ap.tCall L2.Ap.tCB L2.Ap.tBM L2.Ap.tBM0 L2.Ap.tSl L2.Ap.tNoPart L2.Ap.tPart L2.Ap.tSeq L2.Ap.tAsg L2.Ap.gName L2.Ap.gSub L2.Ap.gTup L2.Ap.gCons L2.Ap.gNil L2.Ap.tRet L2.Ap.tDrop L2.Ap.tIfS L2.Ap.tNext L2.Ap.iRng1 L2.Ap.iRng2 L2.Ap.iAny L2.Ap.iEnum tFor_ap tComp_ap L2.Ap.rI L2.Ap.rI0 L2.Ap.rU L2.Ap.uAddI L2.Ap.uAddS L2.Ap.addRef L2.Ap.uMulI L2.Ap.rEqI L2.Ap.rEqS L2.Ap.rNeI L2.Ap.rNeS L2.Ap.truB L2.Ap.ixRef L2.Ap.ixStr L2.Ap.setRef L2.Ap.lenRef L2.Ap.lenStr L2.Ap.minII L2.Ap.intB L2.Ap.tupRef L2.Ap.slRef L2.Ap.inRef L2.Ap.isiT L2.Ap.sqSame L2.Ap.sqSameT L2.Ap.updSame L2.start at_0 at_1 at_2 at_3 tyU List.map_cons List.map_nil List.length_cons List.length_nil List.replicate List.cons_append List.nil_append List.append_nil List.getElem?_cons_zero List.getElem?_cons_succ List.set_cons_zero List.set_cons_succ Option.some.injEq exists_eq_left exists_eq_left' V.int.injEq V.str.injEq V.bl.injEq V.ref.injEq List.cons.injEq and_true true_and decide_eq_true_eq Bool.not_eq_true' decide_eq_false_iff_not Bool.false_eq_true L2.Ap.iZipK L2.Ap.iSeq L2.Ap.sFld L2.Ap.tMeth L2.Ap.tMake L2.Ap.tDGet L2.Ap.sDPut L2.Ap.tFld L2.Ap.tKix L2.Ap.iStr L2.Ap.iEnumL L2.Ap.tSortF L2.Ap.tDNewK L2.Ap.tDisp L2.Ap.tPairs0 L2.Ap.tPairs1".splitOn " ").toArray.map fun n => Lean.mkIdent n.toName
  `(tactic| simp only [↓reduceIte, $[$ids:ident],*, $[$ts:term],*])
local macro_rules | `(tactic| walk_at "rz") => `(tactic| wp_walk using and_self)
def wd (w:List Nat):Str:=⟨w.toArray⟩
def thA (ws:List (List Nat)) (z:List Nat) (p:Nat):Option Nat:=(List.range ws.length).find? fun i => decide (ws.getD i [] <+: z.drop p)
theorem thA_some {ws:List (List Nat)} {z:List Nat} {p t:Nat} (h:thA ws z p = some t):t < ws.length /\ ws.getD t [] <+: z.drop p:=by
 have h1:=List.mem_of_find?_eq_some h;have h2:=List.find?_some h;exact ⟨List.mem_range.mp h1,of_decide_eq_true h2⟩
theorem thA_none {ws:List (List Nat)} {z:List Nat} {p t:Nat} (h:thA ws z p = none) (ht:t < ws.length):¬ ws.getD t [] <+: z.drop p:=fun hp => by
 have:=List.find?_eq_none.mp h t (List.mem_range.mpr ht);exact this (decide_eq_true hp)
structure Pf (ws:List (List Nat)):Prop where
 ne:∀ w ∈ ws,w ≠ []
 pre:∀ (i j:Nat) (hi:i < ws.length) (hj:j < ws.length),i ≠ j -> ¬ ws[i] <+: ws[j]
theorem Pf.th {ws:List (List Nat)} {z:List Nat} {p t:Nat} (h:Pf ws) (ht:t < ws.length) (hp:ws.getD t [] <+: z.drop p):thA ws z p = some t:=by
 cases c:thA ws z p with
 | none => exact absurd hp (thA_none c ht)
 | some i =>
  obtain ⟨hi,hpi⟩:=thA_some c;by_cases e:i = t
  ·rw [e]
  ·have g:∀ {k:Nat} (hk:k < ws.length),ws.getD k [] = ws[k]:=fun hk => by rw [List.getD_eq_getElem?_getD,List.getElem?_eq_getElem hk];rfl
   rw [g hi] at hpi;rw [g ht] at hp;rcases List.prefix_or_prefix_of_prefix hpi hp with q | q
   ·exact absurd q (h.pre i t hi ht e)
   ·exact absurd q (h.pre t i ht hi (Ne.symm e))
inductive Row where
 | put (b n:Nat) | two (w:Fin 3) (a b:Nat) | one (w:Fin 2) (b:Nat) | jump (g:Nat) | zero (b g:Nat) | halt
 deriving DecidableEq
def boxS (i:Nat):Str:=⟨#[97 + i]⟩
def w2:Fin 3 -> Str
 | 0 => "add"
 | 1 => "sub"
 | 2 => "copy"
def w1:Fin 2 -> Str
 | 0 => "tell"
 | 1 => "hear"
inductive Prt where
 | s (z:Str) | n (k:Nat)
def Row.ps:Row -> List Prt
 | .put b n => [.s "put",.s (boxS b),.n n]
 | .two w a b => [.s (w2 w),.s (boxS a),.s (boxS b)]
 | .one w b => [.s (w1 w),.s (boxS b)]
 | .jump g => [.s "jump",.n g]
 | .zero b g => [.s "zero",.s (boxS b),.n g]
 | .halt => [.s "halt"]
def lnOf (ls:List Int) (t:Nat):Nat:=(ls.getD t 0).toNat
def ordOf (ls:List Int):List Nat:=byK ls (List.range ls.length)
def wordsOf (nx:List Nat -> Nat -> List Nat) (ls:List Int):List (List Nat):=(Cw.along nx (lnOf ls) (ordOf ls) (none,List.replicate ls.length [])).2
theorem pyN_len {v:List Nat} {n:Nat} (hv:v.length <= 40) (hn:n <= 40):(Cw.pyN v n).length <= 40:=by
 have h1:((v.reverse.dropWhile (· == 49)).reverse.dropLast).length <= 39:=by
  rw [List.length_dropLast,List.length_reverse];have:=(List.dropWhile_sublist (· == 49) (l:=v.reverse)).length_le;rw [List.length_reverse] at this;lia
 unfold Cw.pyN Cw.pad;rw [List.length_append,List.length_replicate,List.length_append,List.length_singleton];lia
theorem ord_mem {ls:List Int} {t:Nat} (h:t ∈ ordOf ls):t < ls.length:=List.mem_range.mp ((byK_perm (by rw [List.length_range])).mem_iff.mp h)
namespace Cw
def Dv (a b:List Nat):Prop:=∃ u,u ++ [48] <+: a /\ u ++ [49] <+: b
theorem snoc_pre {u v:List Nat} {c d:Nat} {b:List Nat} (h1:u ++ [c] <+: b) (h2:v ++ [d] <+: b) (hl:u.length < v.length):u ++ [c] <+: v:=by
 have h3:v <+: b:=(List.prefix_append v [d]).trans h2;exact List.prefix_of_prefix_length_le h1 h3 (by rw [List.length_append];exact hl)
theorem Dv.trans {a b c:List Nat} (h:Dv a b) (g:Dv b c):Dv a c:=by
 obtain ⟨u,h1,h2⟩:=h;obtain ⟨v,g1,g2⟩:=g;rcases Nat.lt_trichotomy u.length v.length with e | e | e
 ·exact ⟨u,h1,(snoc_pre h2 g1 e).trans ((List.prefix_append v [49]).trans g2)⟩
 ·have p1:(u ++ [49]).length = (v ++ [48]).length:=by rw [List.length_append,List.length_append,e];rfl
  have p2:u ++ [49] = v ++ [48]:=(List.prefix_of_prefix_length_le h2 g1 (by lia)).eq_of_length p1
  have p3:[49] = [48]:=(List.append_inj' p2 rfl).2;exact absurd p3 (by decide)
 ·exact ⟨v,(snoc_pre g1 h2 e).trans ((List.prefix_append u [48]).trans h1),g2⟩
theorem Dv.not {a b:List Nat} (h:Dv a b):¬ a <+: b /\ ¬ b <+: a:=by
 obtain ⟨u,h1,h2⟩:=h;have key:∀ c,u ++ [48] <+: c -> u ++ [49] <+: c -> False:=fun c p q => by
  have e:u ++ [48] = u ++ [49]:=(List.prefix_of_prefix_length_le p q (by simp)).eq_of_length (by simp)
  exact absurd (List.append_cancel_left e) (by decide)
 exact ⟨fun p => key b (h1.trans p) h2,fun p => key a h1 (h2.trans p)⟩
end Cw
def Row.wi:Row -> Nat
 | .put _ _ => 0
 | .two u _ _ => 1 + u
 | .one u _ => 4 + u
 | .jump _ => 6
 | .zero _ _ => 7
 | .halt => 8
inductive Pk where
 | box (b:Nat) | num (n:Nat) | goal (g:Nat)
def Row.wd:Row -> Str
 | .put _ _ => "put"
 | .two u _ _ => w2 u
 | .one u _ => w1 u
 | .jump _ => "jump"
 | .zero _ _ => "zero"
 | .halt => "halt"
def words9:List Str:=["put","add","sub","copy","tell","hear","jump","zero","halt"]
theorem along_40 {ln:Nat -> Nat}:∀ (o:List Nat) (a:Option (List Nat)) (ws:List (List Nat)),(∀ t ∈ o,ln t <= 40) -> (∀ v,a = some v -> v.length <= 40) -> (∀ x ∈ ws,x.length <= 40) -> ∀ x ∈ (Cw.along Cw.pyN ln o (a,ws)).2,x.length <= 40
 | [],_,_,_,_,h => h
 | t :: o,a,ws,ho,ha,hw => by
  have ht:=ho t List.mem_cons_self;have h2:=fun t h => ho t (List.mem_cons_of_mem _ h)
  cases a with
  | none =>
   refine along_40 o (some (List.replicate (ln t) 48)) _ h2 (fun v e => by cases e;rw [List.length_replicate];exact ht) fun x hx => ?_
   rcases List.mem_or_eq_of_mem_set hx with z | z
   ·exact hw x z
   ·rw [z,List.length_replicate];exact ht
  | some v =>
   have hv:=pyN_len (ha v rfl) ht;refine along_40 o (some (Cw.pyN v (ln t))) _ h2 (fun v e => by cases e;exact hv) fun x hx => ?_
   rcases List.mem_or_eq_of_mem_set hx with z | z
   ·exact hw x z
   ·rw [z];exact hv
theorem words_40 {ls:List Int} (hL:Lens ls):∀ x ∈ wordsOf Cw.pyN ls,x.length <= 40:=by
 refine along_40 _ _ _ (fun t ht => ?_) (fun v e => by cases e) fun x hx => by rw [(List.mem_replicate.mp hx).2];decide
 have h:=ord_mem ht;have:=hL.2.2 _ (List.getElem_mem h);unfold lnOf;rw [List.getD_eq_getElem?_getD,List.getElem?_eq_getElem h];show ls[t].toNat <= 40;lia
theorem words_len (ls:List Int):(wordsOf Cw.pyN ls).length = ls.length:=(Cw.along_len _ _).trans (List.length_replicate ..)
structure Cd (cd:List (List (List Nat))):Prop where
 ex:∃ a b c,cd = [a,b,c] /\ a.length = 9 /\ b.length = 17 /\ c.length = 8
 le:∀ ws ∈ cd,∀ x ∈ ws,x.length <= 40
def wdAt (cd:List (List (List Nat))) (p:Nat × Nat):List Nat:=(cd.getD p.1 []).getD p.2 []
def Bk (bk:List (List Int)):Prop:=∃ a b c,bk = [a,b,c] /\ a.length = 9 /\ b.length = 17 /\ c.length = 8 /\ ∀ l ∈ bk,Lens l /\ okL l = true
def cdOf (bk:List (List Int)):List (List (List Nat)):=bk.map (wordsOf Cw.pyN)
theorem Bk.cd {bk:List (List Int)} (h:Bk bk):Cd (cdOf bk):=by
 obtain ⟨a,b,c,rfl,h1,h2,h3,h4⟩:=h;refine ⟨⟨_,_,_,rfl,by rw [words_len,h1],by rw [words_len,h2],by rw [words_len,h3]⟩,fun ws hw => ?_⟩
 obtain ⟨l,hl,rfl⟩:=List.mem_map.mp hw;exact words_40 (h4 l hl).1
theorem Cd.at {cd:List (List (List Nat))} (h:Cd cd) {p:Nat × Nat} (hp:(p.1 = 0 /\ p.2 < 9) \/ (p.1 = 1 /\ p.2 < 17) \/ (p.1 = 2 /\ p.2 < 8)):cd[p.1]? = some (cd.getD p.1 []) /\ (cd.getD p.1 [])[p.2]? = some (wdAt cd p) /\ (wdAt cd p).length <= 40:=by
 obtain ⟨a,b,c,rfl,h1,h2,h3⟩:=h.ex;have key:∀ (l:List (List Nat)) (i:Nat),i < l.length -> l[i]? = some (l.getD i []) /\ l.getD i [] ∈ l:=fun l i hi => by
  rw [List.getD_eq_getElem?_getD,List.getElem?_eq_getElem hi];exact ⟨rfl,List.getElem_mem hi⟩
 obtain ⟨x,y⟩:=p;rcases hp with ⟨rfl,hy⟩ | ⟨rfl,hy⟩ | ⟨rfl,hy⟩
 ·have:=key a y (by rw [h1];exact hy)
  exact ⟨rfl,this.1,h.le a (by simp) _ this.2⟩
 ·have:=key b y (by rw [h2];exact hy)
  exact ⟨rfl,this.1,h.le b (by simp) _ this.2⟩
 ·have:=key c y (by rw [h3];exact hy)
  exact ⟨rfl,this.1,h.le c (by simp) _ this.2⟩
structure Pt (l:List Nat):Prop where
 ks:Kr.ks 40 l = 2 ^ 40
 le:∀ x ∈ l,x + 1 <= l.length
 one:l = [0] \/ ∀ x ∈ l,1 <= x
theorem Pt.pos {l:List Nat} (h:Pt l):1 <= l.length:=by
 cases l with
 | nil => have:=h.ks;simp [Kr.ks] at this
 | cons => simp
inductive Kd where
 | box | num | go
def Kd.s:Kd -> Str
 | .box => Str.ofString "box"
 | .num => Str.ofString "number"
 | .go => Str.ofString "goal"
inductive PV where
 | box (b:Nat) | num (n:Nat) | go (d:Int)
structure RW where
 wi:Nat
 vs:List (PV × Nat)
theorem wd_inj {a b:List Nat} (h:wd a = wd b):a = b:=congrArg (fun s:Str => s.cps.toList) h
theorem Pf.nd {ws:List (List Nat)} (h:Pf ws):ws.Nodup:=by
 unfold List.Nodup;rw [List.pairwise_iff_getElem];intro i j hi hj hij e;exact h.pre i j hi hj (Nat.ne_of_lt hij) (by rw [e];exact List.prefix_refl _)
def PV.n:PV -> Int
 | .box b => (b:Int)
 | .num n => (n:Int)
 | .go d => d
def Kd.c:Kd -> Nat
 | .box => 98
 | .num => 110
 | .go => 103
inductive MRow where
 | put (b n:Nat) | two (w:Fin 3) (a b:Nat) | one (w:Fin 2) (b:Nat) | jump (g:Int) | zero (b:Nat) (g:Int) | halt
inductive MPrt where
 | s (z:Str) | n (k:Int)
def MRow.ps:MRow -> List MPrt
 | .put b n => [.s "put",.s (boxS b),.n (n:Nat)]
 | .two w a b => [.s (w2 w),.s (boxS a),.s (boxS b)]
 | .one w b => [.s (w1 w),.s (boxS b)]
 | .jump g => [.s "jump",.n g]
 | .zero b g => [.s "zero",.s (boxS b),.n g]
 | .halt => [.s "halt"]
def MRow.rel (e:Int):MRow -> MRow
 | .jump g => .jump (g - e)
 | .zero b g => .zero b (g - e)
 | r => r
def Prt.v:Prt -> V
 | .s z => .str z
 | .n k => .int (k:Nat)
def Row.vs (r:Row):List V:=r.ps.map Prt.v
def Pk.v:Pk -> V
 | .box b => .str (boxS b)
 | .num n => .int (n:Nat)
 | .goal g => .int (g:Nat)
def PV.v (behind:Nat):PV -> V
 | .box b => .str (boxS b)
 | .num n => .int (n:Int)
 | .go d => .int ((behind:Int) + d)
def PV.l:PV -> V
 | .box b => .str (boxS b)
 | .num n => .int (n:Int)
 | .go d => .int d
def RW.v (r:RW):List V:=.str (words9.getD r.wi (Str.ofString "")) :: r.vs.map fun x => x.1.v x.2
def RW.l (r:RW):List V:=.str (words9.getD r.wi (Str.ofString "")) :: r.vs.map fun x => x.1.l
def MPrt.v:MPrt -> V
 | .s z => .str z
 | .n k => .int k
def MRow.vs (r:MRow):List V:=r.ps.map MPrt.v
def Deck (H:Hp) (p dq:Addr) (n:Nat):Prop:=∃ (cells:List Int) (i t z:Int),H p = some (.lst [.ref dq,.int i,.int t,.int z]) /\ H dq = some (.lst (iV cells)) /\ (∀ c ∈ cells,0 <= c) /\ 0 <= i /\ i <= cells.length /\ cells.length <= 63 /\ 0 <= t /\ t <= n
theorem Deck.lst {H:Hp} {p dq:Addr} {n:Nat} (h:Deck H p dq n):∀ b ∈ [p,dq],∃ ys,H b = some (.lst ys):=by
 obtain ⟨cells,i,t,z,h1,h2,h3⟩:=h;intro b hb;simp only [List.mem_cons,List.not_mem_nil,or_false] at hb;rcases hb with rfl | rfl
 ·exact ⟨_,h1⟩
 ·exact ⟨_,h2⟩
theorem Deck.new {H:Hp} {p dq l:Addr} {n:Nat} (h:Deck H p dq n) (hl:H l = none):l ∉ [p,dq]:=fun z => by
 obtain ⟨ys,e⟩:=h.lst l z;rw [hl] at e;cases e
theorem Deck.tup {H H':Hp} {p dq a:Addr} {n:Nat} {xs:List V} (h:Deck H p dq n) (k:KB [p,dq] H H') (e:H a = some (.tup xs)):H' a = some (.tup xs):=kb_tup k h.lst e
def NT (ex:List Addr) (H:Hp):Prop:=∀ b ∈ ex,∀ xs,H b ≠ some (.tup xs)
theorem NT.nil (H:Hp):NT [] H:=fun b hb => nomatch hb
theorem len3 {α:Type} {l:List α} (h:l.length = 3):∃ a b c,l = [a,b,c]:=by
 rcases l with _ | ⟨a,_ | ⟨b,_ | ⟨c,_ | ⟨d,l⟩⟩⟩⟩ <;> first | exact ⟨_,_,_,rfl⟩ | (exfalso;revert h;simp)
def Pk.of (w:Str):Pk -> Prop
 | .box _ => True
 | .num _ => w = Str.ofString "put"
 | .goal _ => w ≠ Str.ofString "put"
theorem ky_ne {a b:List Nat} (h:a ≠ b):(Sum.inr (wd a):Key) ≠ .inr (wd b):=fun e => h (wd_inj (Sum.inr.inj e))
structure Tb (kvs:List (Key × V)) (ws:List (List Nat)) (n:Nat):Prop where
 len:kvs.length = n
 yes:∀ (t:Nat) (h:t < ws.length),t < n -> valV kvs (.inr (wd ws[t])) = some (.int (t:Nat))
 no:∀ x,x ∉ ws.take n -> valV kvs (.inr (wd x)) = none
theorem Tb.put {kvs:List (Key × V)} {ws:List (List Nat)} {n:Nat} (h:Tb kvs ws n) (hn:n < ws.length) (nd:ws.Nodup):Tb (putK kvs (.inr (wd ws[n])) (.int (n:Nat))) ws (n + 1):=by
 have apart:∀ t (ht:t < ws.length),t < n -> ws[t] ≠ ws[n]:=fun t ht h => List.pairwise_iff_getElem.mp nd t n ht hn h;have hno:ws[n] ∉ ws.take n:=fun hm => by
  obtain ⟨i,hi,e⟩:=List.mem_iff_getElem.mp hm;rw [List.getElem_take] at e;have hi':i < n:=by rw [List.length_take] at hi;lia
  exact apart i (by lia) hi' e
 refine ⟨by rw [putK_new _ (h.no _ hno),List.length_append,h.len];rfl,fun t ht htn => ?_,fun x hx => ?_⟩
 ·rw [valV_put];rcases Nat.lt_or_ge t n with c | c
  ·rw [if_neg (ky_ne (apart t ht c))];exact h.yes t ht c
  ·have:t = n:=by lia
   subst this;rw [if_pos rfl]
 ·have e2:ws.take (n + 1) = ws.take n ++ [ws[n]]:=by rw [List.take_succ,List.getElem?_eq_getElem hn];rfl
  rw [e2] at hx;rw [valV_put,if_neg (ky_ne fun e => hx (List.mem_append_right _ (by rw [e];exact List.mem_singleton_self _)))]
  exact h.no x fun z => hx (List.mem_append_left _ z)
section
local macro_rules | `(tactic| decide) => `(tactic| exact Nat.le_refl _)
end
local macro_rules | `(tactic| walk_at "b1") => `(tactic| (intro _ _ _ _ _ _ us hl; obtain ⟨_, e⟩ := L2.Y.len1 hl; subst e; rfl))
end
end G
open PySem PySem.W PyProof.Rows
local macro_rules | `(tactic| walk_at "b0") => `(tactic| (intro _ _ _ _ _ _ us hl; match us, hl with | [], _ => rfl))
local macro_rules | `(tactic| walk_at "b1") => `(tactic| (intro _ _ _ _ _ _ us hl; obtain ⟨_, e⟩ := L2.Y.len1 hl; subst e; rfl))
local macro_rules | `(tactic| walk_at "b2") => `(tactic| (intro _ _ _ _ _ _ us hl; obtain ⟨_, _, e⟩ := L2.Y.len2 hl; subst e; rfl))
local macro_rules | `(tactic| walk_at "b3") => `(tactic| (intro _ _ _ _ _ _ us hl; obtain ⟨_, _, _, e⟩ := L2.Y.len3 hl; subst e; rfl))
local macro_rules | `(tactic| walk_at "b4") => `(tactic| (intro _ _ _ _ _ _ us hl; obtain ⟨_, _, _, _, e⟩ := L2.Y.len4 hl; subst e; rfl))
end
