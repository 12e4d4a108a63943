import PyProof.Rows.All
import Wide.All
import OpenK.AllK
import Wide.FinOn
import Lean
import PyProof.EqAt
import PyProof.EqKinds
import PyProof.TupleCall
import KE.KSortKey
import KE.KLam
import PySem.Challenge.RW_shortrows_k26_book_of
def PySem.W.Fast.tw13091624887975457364:=0
def PySem.W.Fast.tw18439924309405841886:=0
def PySem.W.Fast.tw11775307821066756900:=0
def PySem.W.Fast.tw8963095236442254875:=0
def PySem.W.Fast.tw1863625019110967413:=0
def PySem.W.Fast.tw14851184171343017757:=0
def PySem.W.Fast.tw16341699742354757694:=0
def PySem.W.Fast.tw7338441633184957080:=0
def PySem.W.Fast.tw14475141851444482482:=0
def PySem.W.Fast.tw10534611434638555081:=0
def PySem.W.Fast.tw8701048263000774590:=0
def PySem.W.Fast.tw9452070874417438078:=0
def PySem.W.Fast.tw1560143536774285970:=0
def PySem.W.Fast.tw7747421001369626712:=0
def PySem.W.Fast.tw14277146632601458273:=0
def PySem.W.Fast.tw968681291071714471:=0
def PySem.W.Fast.tw13529562802995750238:=0
def PySem.W.Fast.tw10497272610290240413:=0
def PySem.W.Fast.tw12424852795252579531:=0
def PySem.W.Fast.tw3842477427448599954:=0
def PySem.W.Fast.tw10215224344449042446:=0
def PySem.W.Fast.tw2091411257647984322:=0
def PySem.W.Fast.tw14108697530965805386:=0
def PySem.W.Fast.tw6470664491310053941:=0
def PySem.W.Fast.tw9608797695340164500:=0
def PySem.W.Fast.tw15231327057840372360:=0
def PySem.W.Fast.tw5038446938157523841:=0
def PySem.W.Fast.tw6206103167527272199:=0
def PySem.W.Fast.tw15798417065463520275:=0
def PySem.W.Fast.tw15482234525067402840:=0
def PySem.W.Fast.tw12667942477409649608:=0
def PySem.W.Fast.tw3121944252192068034:=0
def PySem.W.Fast.tw13377214172405391075:=0
def PySem.W.Fast.tw11752437273592928394:=0
def PySem.W.Fast.tw12583984813818520816:=0
def PySem.W.Fast.tw2730252415564208300:=0
def PySem.W.Fast.tw17379017701319662886:=0
def PySem.W.Fast.tw12607092195177966617:=0
def PySem.W.Fast.tw2966532134599559108:=0
def PySem.W.Fast.tw16099856763298841073:=0
def PySem.W.Fast.tw11859709341789103375:=0
def PySem.W.Fast.tw2347108239274237351:=0
def PySem.W.Fast.tw1207950412483169693:=0
def PySem.W.Fast.tw16812078992087606070:=0
def PySem.W.Fast.tw18019334905941786641:=0
def PySem.W.Fast.tw3059981188882294218:=0
def PySem.W.Fast.tw628139639482956446:=0
def PySem.W.Fast.tw47955586876191707:=0
def PySem.W.Fast.tw4489601927755578024:=0
def PySem.W.Fast.tw608813256940236487:=0
def PySem.W.Fast.tw507928107226205244:=0
def PySem.W.Fast.tw7007520967112364784:=0
def PySem.W.Fast.tw15378379507337441198:=0
def PySem.W.Fast.tw8533252555212173645:=0
def PySem.W.Fast.tw18431324525059994433:=0
def PySem.W.Fast.tw6821141631021719847:=0
def PySem.W.Fast.tw14522462430213694152:=0
def PySem.W.Fast.tw2475145052687941763:=0
def PySem.W.Fast.tw9169872245499013526:=0
def PySem.W.Fast.tw7003577096932478495:=0
def PySem.W.Fast.tw3348558662119486527:=0
def PySem.W.Fast.tw7252201615996455993:=0
def PySem.W.Fast.tw18194683221732085452:=0
def PySem.W.Fast.tw18383945928308107332:=0
def PySem.W.Fast.tw11558386038077654618:=0
def PySem.W.Fast.tw3487587038022402101:=0
def PySem.W.Fast.tw14510118411405787225:=0
def PySem.W.Fast.tw2434372724433584047:=0
def PySem.W.Fast.tw17059505182419694016:=0
def PySem.W.Fast.tw5265767301901820457:=0
def PySem.W.Fast.tw11516864740459925394:=0
def PySem.W.Fast.tw2889360740682943381:=0
def PySem.W.Fast.tw6313318780151500233:=0
def PySem.W.Fast.tw1446612490611945238:=0
def PySem.W.Fast.tw13258014195838815464:=0
def PySem.W.Fast.tw6292631069193968088:=0
def PySem.W.Fast.tw1698849263983947494:=0
def PySem.W.Fast.tw9977238374634968690:=0
def PySem.W.Fast.tw17583548375416227052:=0
def PySem.W.Fast.tw11431368892186918220:=0
def PySem.W.Fast.tw13631855305083534692:=0
def PySem.W.Fast.tw9869682974896543094:=0
def PySem.W.Fast.tw15332737827109740456:=0
def PySem.W.Fast.tw17619440697729771407:=0
def PySem.W.Fast.tw14049711744277171443:=0
def PySem.W.Fast.tw16165635358751458738:=0
def PySem.W.Fast.tw4720474685520319019:=0
def PySem.W.Fast.tw899357552523271202:=0
def PySem.W.Fast.tw15841033560673805451:=0
def PySem.W.Fast.tw18055197331040689248:=0
def PySem.W.Fast.tw12796264302057863836:=0
def PySem.W.Fast.tw12358100497701744116:=0
def PySem.W.Fast.tw11674806921239383662:=0
def PySem.W.Fast.tw16458363106908475398:=0
def PySem.W.Fast.tw10216248394526031518:=0
def PySem.W.Fast.tw7500438639337196288:=0
def PySem.W.Fast.tw2776474084355173182:=0
def PySem.W.Fast.tw13887942134495267821:=0
def PySem.W.Fast.tw5834800780855724475:=0
def PySem.W.Fast.tw11349120494094849048:=0
def PySem.W.Fast.tw4166597604862223974:=0
def PySem.W.Fast.tw10948199188553481803:=0
def PySem.W.Fast.tw9289157872198813392:=0
def PySem.W.Fast.tw4164309433137972447:=0
def PySem.W.Fast.tw6016581557906781379:=0
def PySem.W.Fast.tw4347950814329252318:=0
def PySem.W.Fast.tw7957726356945547600:=0
def PySem.W.Fast.tw10258971903014253976:=0
def PySem.W.Fast.tw13277929150719338199:=0
def PySem.W.Fast.tw16319911697984460215:=0
def PySem.W.Fast.tw1583492214701017429:=0
def PySem.W.Fast.tw4423614793322832140:=0
def PySem.W.Fast.tw10292905308865294261:=0
def PySem.W.Fast.tw5174509319886812299:=0
def PySem.W.Fast.tw15058792605977380429:=0
def PySem.W.Fast.tw2483970559149748598:=0
def PySem.W.Fast.tw18273750304580944772:=0
def PySem.W.Fast.tw10901243249049389082:=0
def PySem.W.Fast.tw5610334327973020447:=0
def PySem.W.Fast.tw11098258660173452997:=0
def PySem.W.Fast.tw17941985732397881533:=0
def PySem.W.Fast.tw15920655063231612039:=0
def PySem.W.Fast.tw10678173178813096323:=0
def PySem.W.Fast.tw454423233432304626:=0
def PySem.W.Fast.tw6453732240914372238:=0
def PySem.W.Fast.tw17813799850515120061:=0
def PySem.W.Fast.tw2679595207952558259:=0
def PySem.W.Fast.tw12488426053657894329:=0
def PySem.W.Fast.tw10724841082839315410:=0
def PySem.W.Fast.tw10247132714809410987:=0
def PySem.W.Fast.tw6722374161601061742:=0
def PySem.W.Fast.tw178070077944336660:=0
def PySem.W.Fast.tw14027438776350040617:=0
def PySem.W.Fast.tw9399436436978566116:=0
def PySem.W.Fast.tw10581075708934898165:=0
def PySem.W.Fast.tw18223483391759238228:=0
def PySem.W.Fast.tw11413856418565083064:=0
def PySem.W.Fast.tw5174961413790894895:=0
def PySem.W.Fast.tw1243279581293403473:=0
def PySem.W.Fast.tw790679085545330318:=0
def PySem.W.Fast.tw10267969077024629814:=0
def PySem.W.Fast.tw13547247590204959278:=0
def PySem.W.Fast.tw17192912870937102246:=0
def PySem.W.Fast.tw12715264163606170370:=0
def PySem.W.Fast.tw2105691406065358659:=0
def PySem.W.Fast.tw2860369826843028696:=0
def PySem.W.Fast.tw6465610535933861823:=0
def PySem.W.Fast.tw13171868796134747619:=0
def PySem.W.Fast.tw5975294662439135763:=0
def PySem.W.Fast.tw4983039194193520865:=0
def PySem.W.Fast.tw13629096561701308120:=0
def PySem.W.Fast.tw86411013312959859:=0
def PySem.W.Fast.tw16440878626751922456:=0
def PySem.W.Fast.tw17878737758324446803:=0
def PySem.W.Fast.tw1880012409045934621:=0
def PySem.W.Fast.tw17841058241990293284:=0
def PySem.W.Fast.tw14237618072931254923:=0
def PySem.W.Fast.tw1959483138934022331:=0
def PySem.W.Fast.tw14469708536886198303:=0
def PySem.W.Fast.tw5799902804280558172:=0
def PySem.W.Fast.tw15125944005754801145:=0
def PySem.W.Fast.tw4811050237827237211:=0
def PySem.W.Fast.tw7419204654650455398:=0
def PySem.W.Fast.tw8047634676416609239:=0
def PySem.W.Fast.tw9639123301935349889:=0
def PySem.W.Fast.tw4233231204580387035:=0
def PySem.W.Fast.tw13421094249118021288:=0
def PySem.W.Fast.tw16540844894360584232:=0
set_option Elab.async false
set_option linter.all false
set_option maxRecDepth 100000
set_option maxHeartbeats 4000000
noncomputable section
namespace L2
open PySem PySem.Spec PyProof.Rows
noncomputable abbrev Key:=Sum Int Str
def yN:Key->Value->Bool
 | .inl k,v=>Value.isInt k v
 | .inr x,v=>Value.isStrOf x v
def Fb(w:World):Key->Int
 | .inl k=>hashInt k
 | .inr x=>hashStr w x
theorem bq:∀ {k:Key} {v:Value},yN k v=true->(∃ i t,k=Sum.inl i/\v=Value.int i t)\/(∃ x t,k=Sum.inr x/\v=Value.str x t)
 | .inl i,v,h=>by
  obtain⟨t,e⟩:=Value.isInt_shape (k:=i) (v:=v) h;exact .inl ⟨i,t,rfl,e⟩
 | .inr x,v,h=>by
  obtain⟨t,e⟩:=Value.isStrOf_shape (x:=x) (v:=v) h;exact .inr ⟨x,t,rfl,e⟩
theorem Bo(a b:Int):decide ((Sum.inl a:Key)=Sum.inl b)=(a == b):=by
 by_cases e:a=b
 ·subst e;simp
 ·have h:¬ (Sum.inl a:Key)=Sum.inl b:=fun q=>e (Sum.inl.inj q);rw[decide_eq_false h];exact (beq_eq_false_iff_ne.mpr e).symm
theorem A0(a b:Str):decide ((Sum.inr a:Key)=Sum.inr b)=decide (a=b):=by
 by_cases e:a=b
 ·subst e;simp
 ·have h:¬ (Sum.inr a:Key)=Sum.inr b:=fun q=>e (Sum.inr.inj q);rw[decide_eq_false h,decide_eq_false e]
theorem BG(a:Int)(b:Str):decide ((Sum.inl a:Key)=Sum.inr b)=false:=decide_eq_false (fun q=>nomatch q)
theorem zU(a:Str)(b:Int):decide ((Sum.inr a:Key)=Sum.inl b)=false:=decide_eq_false (fun q=>nomatch q)
def kH(prog:Program)(w:World):PySem.KeyKind prog w Key where
 is:=yN
 hash:=Fb w
 inj:=fun v a b ha hb=>by
  rcases bq ha with ⟨i,t,rfl,rfl⟩ | ⟨x,t,rfl,rfl⟩
  ·rcases bq hb with ⟨j,u,rfl,e⟩ | ⟨y,u,rfl,e⟩
   ·injection e with e1 _;rw[e1]
   ·exact nomatch e
  ·rcases bq hb with ⟨j,u,rfl,e⟩ | ⟨y,u,rfl,e⟩
   ·exact nomatch e
   ·injection e with e1 _;rw[e1]
 byValue:=fun k v h=>by
  rcases bq h with ⟨i,t,rfl,rfl⟩ | ⟨x,t,rfl,rfl⟩<;>rfl
 pyHash:=fun hv h=>by
  rcases bq hv with ⟨i,t,rfl,rfl⟩ | ⟨x,t,rfl,rfl⟩
  ·exact wpAny_pyHash_int h
  ·exact wpAny_pyHash_str h
 eqBool:=fun hu hv h=>by
  rcases bq hu with ⟨i,t,rfl,rfl⟩ | ⟨x,t,rfl,rfl⟩
  ·rcases bq hv with ⟨j,u,rfl,rfl⟩ | ⟨y,u,rfl,rfl⟩
   ·rw[Bo] at h;exact wpAny_eqBool_int h
   ·rw[BG] at h;exact SeqAt.EqAt.int_str i t y u _ _ _ _ h
  ·rcases bq hv with ⟨j,u,rfl,rfl⟩ | ⟨y,u,rfl,rfl⟩
   ·rw[zU] at h;exact SeqAt.EqAt.str_int x t j u _ _ _ _ h
   ·rw[A0] at h;exact wpAny_eqBool_str h
 «strs»:=fun k x t v h=>by
  rcases bq h with ⟨i,u,rfl,e⟩ | ⟨y,u,rfl,e⟩
  ·exact nomatch e
  ·injection e with e1 _
   subst e1
   cases v<;>rfl
inductive V where
 | bf | bl (b:Bool) | int (i:Int) | str (x:Str) | qZ (b:Array UInt8) | Cj (b:UInt64) | ref (a:Addr) | ty (n:String)
 deriving DecidableEq
def RelV:V->Value->Prop
 | .bf,u=>u=Value.none
 | .bl b,u=>u=Value.bool b
 | .int i,u=>∃ t,u=Value.int i t
 | .str x,u=>∃ t,u=Value.str x t
 | .qZ b,u=>∃ t,u=Value.bytes b t
 | .Cj b,u=>∃ t,u=Value.float b t
 | .ref a,u=>u=Value.ref a
 | .ty n,u=>u=Value.type n
noncomputable abbrev Vals:List V->List Value->Prop:=Paired RelV
theorem Vals.length{xs:List V}{us:List Value}(r:Vals xs us):xs.length=us.length:=Paired.length r
theorem Vals.get:∀ {xs:List V} {us:List Value} {i:Nat} {x:V},Vals xs us->xs[i]?=some x->∃ u,us[i]?=some u/\RelV x u
 | _,_,_,_,.nil,e=>by simp at e
 | _,_,0,_,.cons r _,e=>by simp at e;subst e;exact⟨_,rfl,r⟩
 | _,_,i+1,x,.cons _ t,e=>by
  obtain⟨u,h1,h2⟩:=Vals.get (i:=i) (x:=x) t (by simpa using e)
  exact⟨u,by simpa using h1,h2⟩
theorem Vals.set{x:V}{u:Value}(r:RelV x u):∀ {xs:List V} {us:List Value} (i:Nat),Vals xs us->Vals (xs.set i x) (us.set i u)
 | _,_,_,.nil=>.nil
 | _,_,0,.cons _ t=>.cons r t
 | _,_,i+1,.cons q t=>.cons q (Vals.set r i t)
theorem Vals.append:∀ {xs ys:List V} {us ws:List Value},Vals xs us->Vals ys ws->Vals (xs++ys) (us++ws)
 | _,_,_,_,.nil,s=>s
 | _,_,_,_,.cons r t,s=>.cons r (Vals.append t s)
theorem Vals.take:∀ {xs:List V} {us:List Value} (n:Nat),Vals xs us->Vals (xs.take n) (us.take n)
 | _,_,0,_=>.nil
 | _,_,_+1,.nil=>.nil
 | _,_,n+1,.cons r t=>.cons r (Vals.take n t)
theorem Vals.drop:∀ {xs:List V} {us:List Value} (n:Nat),Vals xs us->Vals (xs.drop n) (us.drop n)
 | _,_,0,r=>r
 | _,_,_+1,.nil=>.nil
 | _,_,n+1,.cons _ t=>Vals.drop n t
def Br:Option V->Option Value->Prop
 | some v,some u=>RelV v u
 | none,none=>True
 | _,_=>False
def KV{κ:Type}:List (κ×V)->List (κ×Value)->Prop:=Paired fun (p:κ×V) (q:κ×Value)=>p.1=q.1/\RelV p.2 q.2
def kV:Key->V
 | .inl i=>.int i
 | .inr x=>.str x
inductive HO where
 | lst (xs:List V)
 | tup (xs:List V)
 | dK (kvs:List (Key×V)) | dT (kvs:List (List Key×V))
 | set (S:Int->Bool) (n:Nat)
 | ins (C dx:Addr) (fs:List (Str×V))
 | own (x:Addr)
 | xd (fs:List (Str×V))
 | met (f x:Addr)
 | dh (lo hi:Int)
 | eN (o:Obj) (u:HO)
 | sG (ps:Array Value)
 | ext (φ:Heap->Prop)
noncomputable abbrev Hp:=Addr->Option HO
def upd(H:Hp)(a:Addr)(o:HO):Hp:=fun b=>if b=a then some o else H b
theorem af{H:Hp}{a:Addr}{o:HO}:upd H a o a=some o:=by unfold upd;rw[if_pos rfl]
theorem ae{H:Hp}{a b:Addr}{o:HO}(h:b≠a):upd H a o b=H b:=by unfold upd;rw[if_neg h]
theorem oB{H:Hp}{a:Addr}{o u:HO}:upd (upd H a o) a u=upd H a u:=by
 funext b;unfold upd;split<;>rfl
theorem ak{H:Hp}{a b:Addr}{o:HO}(h:H a=some o)(h':H b=none):a≠b:=by
 intro e;subst e;rw[h] at h';cases h'
def Gn:List Value->Str
 | .str q _::_=>q
 | _=>Str.ofString ""
def uU(ps:Array Value):Str:=Gn ps.toList
def zL(H:Hp)(q:Str)(cv:Value):Prop:=∃ (c:Addr) (oc:Obj) (vs:Array Value) (t:Tok),cv=.ref c/\H c=some (.eN oc (.own c))/\oc.data=.fields vs/\vs[1]?=some (.str q t)
def cH(h:Heap)(a:Addr)(items:Array Value):Prop:=∃ o:Obj,h.get? a=some o/\o.cls=.type "tuple"/\∃ n,o.data=.seq items n/\o.dict=none
theorem cH.to{h:Heap}{a:Addr}{items:Array Value}(x:cH h a items):IsTup h a items:=let ⟨o,e,c,n,d,_⟩:=x;⟨o,e,c,n,d⟩
theorem cH.new(h:Heap)(items:Array Value):cH (h.push { cls:=.type "tuple",data:=.seq items }) h.objs.size items:=⟨_,Heap.get?_push_size h rfl,rfl,_,rfl,rfl⟩
theorem cH.lt{h:Heap}{a:Addr}{items:Array Value}(x:cH h a items):a < h.objs.size:=x.to.lt
section
variable (P:Program) (w:World)
def bp(H:Hp)(h:Heap)(a:Addr):HO->Prop
 | .lst xs=>xs.length<=sizeLine/\∃ (its:List Value) (n:Nat),Vals xs its/\h.get? a=some { cls:=.type "list",data:=.seq its.toArray n }
 | .tup xs=>xs.length<=sizeLine/\∃ its:List Value,Vals xs its/\cH h a its.toArray
 | .dK kvs=>kvs.length<=sizeLine/\(a == sysModules)=false/\∃ vs,KV kvs vs/\h.DictOf (kH P w) a vs
 | .dT kvs=>kvs.length<=sizeLine/\(a == sysModules)=false/\∃ xs:List (List Key×Addr×Value),
   Paired (fun (p:List Key×V) (q:List Key×Addr×Value)=>p.1=q.1/\H q.2.1=some (.tup (p.1.map kV))/\RelV p.2 q.2.2) kvs xs /\
   ∃ o es ep,h.get? a=some o/\o.ExactDict/\o.data=.dict es ep/\es.toList=xs.map (entryOfKey (tupleKind (kH P w)))/\(xs.map (·.1)).Nodup
 | .set S n=>h.SetOf (intKind P w) a S n
 | .ins C dx fs=>H dx=some (.own a)/\fs.length<=1000/\dx≠a/\h.get? a=some (PySem.W.instObj C dx) /\
   ∃ mA,h.Ns1 dx mA/\(∀ f,Br (fs.lookup f) (mA f))/\PySem.Within mA (fs.map (·.1))
 | .own _=>∃ o,h.get? a=some o
 | .xd fs=>∃ mA,h.Ns1 a mA/\∀ f,Br (fs.lookup f) (mA f)
 | .dh lo hi=>∃ t u v,h.get? a=some { cls:=.type "range",data:=.fields #[.int lo t,.int hi u,.int 1 v] }
 | .eN o u=>h.get? a=some o/\bp H h a u
 | .sG ps=>∃ qs:Array Value,h.get? a=some { cls:=.none,data:=.fields qs }/\TriplesOk qs.toList/\∀ pos cv,codeAmong pos qs.toList=some cv->zL H (uU ps) cv
 | .met f x=>h.get? a=some (PySem.W.methodObj (.ref f) (.ref x))
 | .ext φ=>φ h/\(∃ o,h.get? a=some o)/\∀ h1 h2:Heap,φ h1->(∀ o,h1.get? a=some o->h2.get? a=some o)->φ h2
def eE(H:Hp)(h:Heap):Prop:=∀ a o,H a=some o->bp P w H h a o
end
section
variable {P:Program} {w:World} {H H':Hp} {h h':Heap} {a:Addr} {o:HO}
theorem bp.lt(x:bp P w H h a o):a < h.objs.size:=by
 cases o with
 | lst xs=>obtain⟨_,_,_,_,e⟩:=x;exact Heap.lt_size e
 | tup xs=>obtain⟨_,_,_,p⟩:=x;exact p.lt
 | dK kvs=>obtain⟨_,_,_,_,o,_,_,e,_⟩:=x;exact Heap.lt_size e
 | dT kvs=>obtain⟨_,_,_,_,o,_,_,e,_⟩:=x;exact Heap.lt_size e
 | set S n=>obtain⟨o,_,_,_,e,_⟩:=x;exact Heap.lt_size e
 | ins C dx fs=>obtain⟨_,_,_,e,_⟩:=x;exact Heap.lt_size e
 | own y=>obtain⟨_,e⟩:=x;exact Heap.lt_size e
 | xd fs=>obtain⟨_,⟨_,_,_,e,_⟩,_⟩:=x;exact Heap.lt_size e
 | dh lo hi=>obtain⟨_,_,_,e⟩:=x;exact Heap.lt_size e
 | eN ob u=>obtain⟨e,_⟩:=x;exact Heap.lt_size e
 | sG ps=>obtain⟨_,e,_⟩:=x;exact Heap.lt_size e
 | met f y=>exact Heap.lt_size (show h.get? a=some _ from x)
 | ext φ=>obtain⟨_,⟨_,e⟩,_⟩:=x;exact Heap.lt_size e
theorem Paired.mM{α β:Type}{F G:α->β->Prop}:∀ {l₁:List α} {l₂:List β},Paired F l₁ l₂->(∀ a b,F a b->G a b)->Paired G l₁ l₂
 | _,_,.nil,_=>.nil
 | _,_,.cons r t,f=>.cons (f _ _ r) (Paired.mM t f)
theorem bp.ic(x:bp P w H h a o)(k:∀ b u,(b=a\/H b=some (.own a))->h.get? b=some u->h'.get? b=some u)
  (ho:∀ b,H b=some (.own a)->H' b=some (.own a)) (ht:∀ b xs,H b=some (.tup xs)->H' b=some (.tup xs)) (hz:∀ b o u,H b=some (.eN o u)->H' b=some (.eN o u)):bp P w H' h' a o:=by
 induction o with
 | lst xs=>obtain⟨z,its,n,r,e⟩:=x;exact⟨z,its,n,r,k _ _ (.inl rfl) e⟩
 | tup xs=>obtain⟨z,its,r,ob,e,c⟩:=x;exact⟨z,its,r,ob,k _ _ (.inl rfl) e,c⟩
 | dK kvs=>obtain⟨z,y,vs,r,ob,es,ep,e,c⟩:=x;exact⟨z,y,vs,r,ob,es,ep,k _ _ (.inl rfl) e,c⟩
 | dT kvs =>
  obtain⟨z,y,xs,r,ob,es,ep,e,c⟩:=x;exact⟨z,y,xs,Paired.mM r fun p q z=>⟨z.1,ht _ _ z.2.1,z.2.2⟩,ob,es,ep,k _ _ (.inl rfl) e,c⟩
 | set S n=>obtain⟨ob,es,ep,t,e,c⟩:=x;exact⟨ob,es,ep,t,k _ _ (.inl rfl) e,c⟩
 | ins C dx fs =>
  obtain⟨d,z,ne,e,mA,⟨od,es,ep,e2,c⟩,r⟩:=x;exact⟨ho _ d,z,ne,k _ _ (.inl rfl) e,mA,⟨od,es,ep,k _ _ (.inr d) e2,c⟩,r⟩
 | own y=>obtain⟨ob,e⟩:=x;exact⟨ob,k _ _ (.inl rfl) e⟩
 | xd fs=>obtain⟨mA,⟨od,es,ep,e,c⟩,r⟩:=x;exact⟨mA,⟨od,es,ep,k _ _ (.inl rfl) e,c⟩,r⟩
 | dh lo hi=>obtain⟨t,u,v,e⟩:=x;exact⟨t,u,v,k _ _ (.inl rfl) e⟩
 | eN ob u ih=>obtain⟨e,q⟩:=x;exact⟨k _ _ (.inl rfl) e,ih q⟩
 | sG ps =>
  obtain⟨qs,e,t,f⟩:=x;exact⟨qs,k a _ (.inl rfl) e,t,fun pos cv q=>let ⟨c,oc,vs,t',e1,e2,e3⟩:=f pos cv q;⟨c,oc,vs,t',e1,hz _ _ _ e2,e3⟩⟩
 | met f y =>
  have e:h.get? a=some (PySem.W.methodObj (.ref f) (.ref y)):=x;show h'.get? a=some (PySem.W.methodObj (.ref f) (.ref y));exact k a _ (.inl rfl) e
 | ext φ=>obtain⟨p,⟨o,e⟩,st⟩:=x;exact⟨st _ _ p fun o q=>k _ _ (.inl rfl) q,⟨o,k _ _ (.inl rfl) e⟩,st⟩
theorem eE.lt(x:eE P w H h)(e:H a=some o):a < h.objs.size:=(x a o e).lt
theorem eE.fresh(x:eE P w H h)(e:h.objs.size<=a):H a=none:=by
 cases q:H a with
 | none=>rfl
 | some u=>exact absurd (Nat.lt_of_lt_of_le (x.lt q) e) (Nat.lt_irrefl _)
theorem eE.kept(x:eE P w H h)(k:∀ b u,h.get? b=some u->h'.get? b=some u):eE P w H h':=fun a o e =>
 (x a o e).ic (fun b u _ q=>k b u q) (fun _ q=>q) (fun _ _ q=>q) fun _ _ _ q=>q
theorem eE.laid(x:eE P w H h)(k:∀ b u,h.get? b=some u->h'.get? b=some u)(hp:h.objs.size<=a)(new:bp P w (upd H a o) h' a o):eE P w (upd H a o) h':=fun b u e=>by
 have hn:=x.fresh hp;by_cases hb:b=a
 ·subst hb;rw[af] at e;cases e;exact new
 ·rw[ae hb] at e;exact (x b u e).ic (fun c v _ q=>k c v q) (fun c q=>by rw[ae (ak q hn)];exact q) (fun c xs q=>by rw[ae (ak q hn)];exact q) fun c _ _ q=>by rw[ae (ak q hn)];exact q
end
def Rd(H:Hp)(a:Addr)(u:HO):Prop:=H a=some u\/∃ o,H a=some (.eN o u)
theorem Rd.ok{P:Program}{w:World}{H:Hp}{h:Heap}{a:Addr}{u:HO}(r:Rd H a u)(x:eE P w H h):bp P w H h a u:=by
 rcases r with r | ⟨o,r⟩
 ·exact x a u r
 ·obtain⟨_,q⟩:=x a _ r;exact q
def EW:Option HO->Prop
 | some (.lst _)=>True
 | some (.dK _)=>True
 | some (.dT _)=>True
 | some (.set _ _)=>True
 | some (.ins _ _ _)=>True
 | some (.ext _)=>True
 | _=>False
section
variable {P:Program} {w:World} {H:Hp} {h h':Heap} {x e:Addr} {o':HO}
theorem eE.write(ok:eE P w H h)(mu:EW (H x))(he:e=x\/H e=some (.own x))(k:∀ b u,b≠e->h.get? b=some u->h'.get? b=some u)(heo:∃ u,h'.get? e=some u)
  (new:bp P w (upd H x o') h' x o'):eE P w (upd H x o') h':=fun b u q=>by
 have nown:∀ c y,H c=some (.own y)->c≠x:=fun c y r z=>by subst z;rw[r] at mu;exact mu
 have ntup:∀ c xs,H c=some (.tup xs)->c≠x:=fun c xs r z=>by subst z;rw[r] at mu;exact mu
 have nfrz:∀ c o1 u1,H c=some (.eN o1 u1)->c≠x:=fun c _ _ r z=>by subst z;rw[r] at mu;exact mu
 by_cases hb:b=x
 ·subst hb;rw[af] at q;cases q;exact new
 ·rw[ae hb] at q;by_cases hbe:b=e
  ·have q':H b=some (.own x):=by
    rcases he with z | z
    ·exact absurd (hbe.trans z) hb
    ·rw[hbe];exact z
   rw[q] at q';cases q';obtain⟨v,hv⟩:=heo;exact⟨v,by rw[hbe];exact hv⟩
  ·refine (ok b u q).ic (fun c v hc r=>k c v ?_ r) (fun c r=>by rw[ae (nown c b r)];exact r) (fun c xs r=>by rw[ae (ntup c xs r)];exact r) fun c _ _ r=>by rw[ae (nfrz c _ _ r)];exact r
   rcases hc with rfl | hc
   ·exact hbe
   ·rintro rfl;rcases he with z | z
    ·exact nown c b hc z
    ·rw[hc] at z;cases z;exact hb rfl
end
structure Un (fs ex:List Addr) (H H':Hp) (h h':Heap):Prop where
 keep:∀ b o,h.get? b=some o->H b=none->b∉fs->b∉ex->h'.get? b=some o
 slot:∀ b o,h.get? b=some o->H b=none->b∈fs->b∉ex->∃ sl,h'.get? b=some { o with slots:=sl }
 free:∀ b o,h.get? b=some o->H b=none->b∉ex->H' b=none
 there:∀ b o,h.get? b=some o->b∉ex->∃ o',h'.get? b=some o'
 jq:∀ b xs,H b=some (.tup xs)->H' b=some (.tup xs)
 hW:∀ b o u,H b=some (.eN o u)->H' b=some (.eN o u)
 gJ:∀ b ps,H b=some (.sG ps)->∃ more,H' b=some (.sG (ps++more))
section
variable {fs fs' ex ex':List Addr} {H H1 H2:Hp} {h h1 h2 h':Heap} {a x e:Addr} {o:HO}
theorem Un.any(u:Un fs ex H H1 h h1){b:Addr}{ob:Obj}(q:h.get? b=some ob)(n:H b=none)(hx:b∉ex):∃ sl,h1.get? b=some { ob with slots:=sl }:=by
 by_cases hb:b∈fs
 ·exact u.slot b ob q n hb hx
 ·exact⟨ob.slots,u.keep b ob q n hb hx⟩
theorem Un.kept(k:∀ b u,h.get? b=some u->h'.get? b=some u):Un fs ex H H h h':=
 ⟨fun b ob q _ _ _=>k b ob q,fun b ob q _ _ _=>⟨ob.slots,k b ob q⟩,fun _ _ _ n _=>n,fun b ob q _=>⟨ob,k b ob q⟩,fun _ _ q=>q,fun _ _ _ q=>q,fun _ ps q=>⟨#[],by rw[q];simp⟩⟩
theorem Un.refl:Un fs ex H H h h:=Un.kept fun _ _ q=>q
theorem Un.laid(k:∀ b u,h.get? b=some u->h'.get? b=some u)(hp:h.objs.size<=a)(hn:H a=none):Un fs ex H (upd H a o) h h' where
 keep:=fun b u q _ _ _=>k b u q
 slot:=fun b u q _ _ _=>⟨u.slots,k b u q⟩
 free:=fun b u q n _=>by rw[ae (Nat.ne_of_lt (Nat.lt_of_lt_of_le (Heap.lt_size q) hp))];exact n
 there:=fun b u q _=>⟨u,k b u q⟩
 jq:=fun b xs q=>by rw[ae (ak q hn)];exact q
 hW:=fun b u xs q=>by rw[ae (ak q hn)];exact q
 gJ:=fun b ps q=>⟨#[],by rw[ae (ak q hn),q];simp⟩
theorem Un.write(mu:EW (H x))(he:e=x\/H e=some (.own x))(k:∀ b u,b≠e->h.get? b=some u->h'.get? b=some u)(heo:∃ u,h'.get? e=some u):Un fs ex H (upd H x o) h h':=by
 have hx:∀ b,H b=none->b≠x:=fun b n z=>by subst z;rw[n] at mu;exact mu
 have hb:∀ b,H b=none->b≠e:=fun b n z=>by
  subst z;rcases he with r | r
  ·exact hx b n r
  ·rw[n] at r;cases r
 have hm:∀ b u,H b=some u->¬ EW (some u)->b≠x:=fun b u q nm z=>by subst z;rw[q] at mu;exact nm mu
 refine⟨fun b u q n _ _=>k b u (hb b n) q,fun b u q n _ _=>⟨u.slots,k b u (hb b n) q⟩,fun b u q n _=>by rw[ae (hx b n)];exact n,fun b u q _=>?_,
  fun b xs q=>by rw[ae (hm b _ q fun z=>z)];exact q,fun b u xs q=>by rw[ae (hm b _ q fun z=>z)];exact q,fun b ps q=>⟨#[],by rw[ae (hm b _ q fun z=>z),q];simp⟩⟩
 by_cases hbe:b=e
 ·subst hbe;exact heo
 ·exact⟨u,k b u hbe q⟩
end
def e9(h:Heap)(H:Hp):List Addr:=(List.range h.objs.size).filter fun a=>(H a).isSome
def jr(h:Heap)(H:Hp):Heap:=PySem.W.hideAll h (e9 h H)
theorem rj(h:Heap)(H:Hp):(jr h H).objs.size=h.objs.size:=PySem.W.hideAll_size _ _
theorem ft{h:Heap}{H:Hp}{b:Addr}{o:Obj}(e:h.get? b=some o)(n:H b=none):(jr h H).get? b=some o:=
 PySem.W.hideAll_get _ e fun hm=>by
  have q:(H b).isSome=true:=(List.mem_filter.mp hm).2;rw[n] at q;simp at q
theorem xg{h:Heap}{H:Hp}{b:Addr}{o:Obj}(e:(jr h H).get? b=some o):h.get? b=some o/\H b=none:=by
 have e':h.get? b=some o:=PySem.W.of_hideAll (e9 h H) e;refine⟨e',?_⟩
 cases q:H b with
 | none=>rfl
 | some x =>
  have hm:b∈e9 h H:=List.mem_filter.mpr ⟨List.mem_range.mpr (Heap.lt_size e'),by simp[q]⟩
  have z:(jr h H).get? b=none:=PySem.W.hideAll_none (e9 h H) hm;rw[z] at e;cases e
def wX(g h:Heap)(L:Addr):List (Addr×Obj):=(List.range h.objs.size).filterMap fun a=>if a=L\/(g.get? a).isSome=true then none else (h.get? a).map fun o=>(a,o)
def rest(g h:Heap)(L d:Addr):List (Addr×Obj):=(wX g h L).filter fun p=>decide (p.1≠d)
def cX:List Str:=["by_worth","by_weight","code_of"]
def bD(K:PySem.W.Frag):List (Addr×Addr×Str):=cX.filterMap fun x=>(PySem.W.tabIn K x).map fun p=>(p.1,p.2,(x++".<locals>.")++"<lambda>")
def TabsOk(K:PySem.W.Frag)(H:Hp):Prop:=∀ t∈bD K,∃ more,H t.2.1=some (.sG (#[.str t.2.2 0]++more))
theorem TabsOk.un{K:PySem.W.Frag}{fs ex:List Addr}{H H1:Hp}{h h1:Heap}(x:TabsOk K H)(u:Un fs ex H H1 h h1):TabsOk K H1:=fun t ht=>by
 obtain⟨m,e⟩:=x t ht;obtain⟨m2,e2⟩:=u.gJ _ _ e;exact⟨m++m2,by rw[e2,Array.append_assoc]⟩
def Ad(mg:Str->Option Value)(h:Heap):Prop:=∃ bm ob,mg "__builtins__"=some (.ref bm)/\bm≠builtinsNs/\h.get? bm=some ob/\ob.cls=.type "module"/\ob.dict=some builtinsNs/\ob.data=.plain
structure Mod (K:PySem.W.Frag) (mg:Str->Option Value) (base:Heap):Prop where
 xC:K.In base
 glob:base.Ns mainGlobals mg
 blt:∃ mb,base.Ns builtinsNs mb/\∀ x:Str,x≠"__name__"->mb x=bootBuiltins x
 nolimit:base.NoLimit
 codes:∀ t∈bD K,PySem.W.CodeHd base t.1 t.2.1
 bm:Ad mg base
structure Cx where
 prog:Program
 w:World
 K:PySem.W.Frag
 mg:Str->Option Value
 base:Heap
 A:Around
 N:List Str
 s₀:Shared
 H₀:Hp
 env:Env
 outer:List Env
 stack:List Env
 ex:List Addr
 fn:Str->Bool
 calm:Bool
 pn:List (Addr×Obj)
 xe:Value->Shared->Prop
def gG(l:List Env):List Addr:=l.filterMap (·.frame)
noncomputable abbrev Cx.fs (X:Cx):List Addr:=gG X.outer
def Bf(sc:Scope)(x:Str):Prop:=sc.names.lookup x=some .local\/sc.names.lookup x=some .cell\/sc.names.lookup x=some .free
def Loc(sc:Scope)(x:Str):Prop:=sc.names.lookup x=some .local\/sc.names.lookup x=some .cell
def Look(env:Env)(h:Heap)(m:Str->Option Value)(x:Str)(u:Value):Prop:=
 (env.kindOf x=some .local/\m x=some u)\/((env.kindOf x=some .cell\/env.kindOf x=some .free)/\∃ c,env.cells.lookup x=some c/\h.IsCell c (some u))
structure Cx.Ok (X:Cx):Prop where
 mod:Mod X.K X.mg X.base
 kind:X.env.scope.kind=.function
 glob:X.env.globals=mainGlobals
 blt:X.env.builtins=builtinsNs
 above:X.s₀.heap.objs.size<=X.env.locals
 inj:∀ x y c,X.env.cells.lookup x=some c->X.env.cells.lookup y=some c->x=y
 has:∀ x,(X.env.kindOf x=some .cell\/X.env.kindOf x=some .free)->∃ c,X.env.cells.lookup x=some c
 Dg:∀ x c,X.fn x=true->X.env.cells.lookup x=some c->X.s₀.heap.objs.size<=c
 hd:X.calm=true->X.A.handled=none
 frames:X.A.frames=some X.stack
 EK:X.stack=X.outer\/(X.stack=X.env::X.outer/\X.env.frame=some X.env.locals)
 GH:∀ b∈X.ex,b≠X.env.locals/\∀ x c,X.env.cells.lookup x=some c->c≠b
 bs:∀ b o,X.base.get? b=some o->X.s₀.heap.get? b=some o/\X.H₀ b=none
 xH:X.base.objs.size<=X.s₀.heap.objs.size
 uO:∀ b o,X.base.get? b=some o->b∉X.ex
 xy:∀ b∈X.ex,b∉X.fs
 iO:X.s₀.heap.FunFrames X.base X.outer
 Cp:∀ b∈X.fs,X.H₀ b=none
 tabs:TabsOk X.K X.H₀
structure Inv (X:Cx) (pins:List (Addr×Obj)) (σ:List (Option V)) (H:Hp) (s:Shared):Prop where
 ok:X.Ok
 os:s.os=X.s₀.os
 bare:AllBare s.gens
 base:Un X.fs X.ex X.H₀ H X.s₀.heap s.heap
 loc:∃ m,s.heap.Ns X.env.locals m/\∀ (i:Nat) (x:Str) (v:V),X.N[i]?=some x->σ[i]?=some (some v)->Bf X.env.scope x->∃ u,RelV v u/\Look X.env s.heap m x u
 cell:∀ x c,X.env.cells.lookup x=some c->∃ v,s.heap.IsCell c v
 free:H X.env.locals=none
 cU:∀ x c,X.env.cells.lookup x=some c->H c=none
 pin:∀ p∈X.pn++pins,s.heap.get? p.1=some p.2/\H p.1=none/\p.1≠X.env.locals/\p.1∉X.fs/\∀ v,p.2.data≠.cell v
 aJ:eE X.prog X.w H s.heap
 len:σ.length=X.N.length
section
variable {X:Cx} {pins:List (Addr×Obj)} {σ:List (Option V)} {H H':Hp} {s:Shared} {h':Heap}
theorem Cx.Ok.Gs(ok:X.Ok){b:Addr}{o:Obj}(e:X.base.get? b=some o):b∉X.fs:=fun hb=>by
 have:=(ok.iO.mem hb).1;rw[e] at this;cases this
theorem Inv.bs(I:Inv X pins σ H s):∀ b o,X.base.get? b=some o->s.heap.get? b=some o/\H b=none:=fun b o e =>
 ⟨I.base.keep b o (I.ok.bs b o e).1 (I.ok.bs b o e).2 (I.ok.Gs e) (I.ok.uO b o e),I.base.free b o (I.ok.bs b o e).1 (I.ok.bs b o e).2 (I.ok.uO b o e)⟩
theorem Inv.bk(I:Inv X pins σ H s):∀ b o,X.base.get? b=some o->s.heap.get? b=some o:=fun b o e=>(I.bs b o e).1
theorem Inv.mod(I:Inv X pins σ H s):Mod X.K X.mg X.base:=I.ok.mod
theorem Inv.fo(I:Inv X pins σ H s):X.K.In s.heap:=I.ok.mod.xC.keeps I.bk
theorem Inv.nolimit(I:Inv X pins σ H s):s.heap.NoLimit:=I.ok.mod.nolimit.keeps I.bk
theorem Inv.lt(I:Inv X pins σ H s):X.env.locals < s.heap.objs.size:=let ⟨_,hn,_⟩:=I.loc;hn.lt
theorem Inv.sz(I:Inv X pins σ H s):X.s₀.heap.objs.size<=s.heap.objs.size:=Nat.le_trans I.ok.above (Nat.le_of_lt I.lt)
theorem Inv.DE(I:Inv X pins σ H s){a:Addr}(h:s.heap.objs.size<=a):a∉X.fs:=fun hb=>by
 obtain⟨_,o,ho,_⟩:=I.ok.iO.mem hb;exact absurd (Nat.lt_of_lt_of_le (Heap.lt_size ho) (Nat.le_trans I.sz h)) (Nat.lt_irrefl _)
theorem Inv.x_(I:Inv X pins σ H s):∀ x c,X.env.cells.lookup x=some c->c≠X.env.locals:=fun x c e z=>by
 obtain⟨v,o,ho,hd⟩:=I.cell x c e;obtain⟨m,⟨o',es,ep,ho',hd',_⟩,_⟩:=I.loc;rw[z,ho'] at ho;cases ho;rw[hd'] at hd;cases hd
theorem Inv.iO(I:Inv X pins σ H s):s.heap.FunFrames X.base X.outer:=by
 have all:∀ (l:List Env),(∀ b∈gG l,b∈X.fs)->X.s₀.heap.FunFrames X.base l->s.heap.FunFrames X.base l:=by
  intro l
  induction l with
  | nil=>intro _ _;trivial
  | cons env r ih =>
   intro hs hl;obtain⟨hk,⟨L,o,hf,hn,ho,hd⟩,hr⟩:=hl;have hL:L∈X.fs:=hs L (by unfold gG;rw[List.filterMap_cons,hf];exact List.mem_cons_self)
   obtain⟨sl,e⟩:=I.base.slot L o ho (I.ok.Cp L hL) hL fun z=>I.ok.xy L z hL;exact⟨hk,⟨L,_,hf,hn,e,hd⟩,ih (fun b hb=>hs b (by unfold gG;rw[List.filterMap_cons,hf];exact List.mem_cons_of_mem _ hb)) hr⟩
 exact all X.outer (fun _ hb=>hb) I.ok.iO
theorem Inv.stack(I:Inv X pins σ H s):s.heap.FunFrames X.base X.stack:=by
 rcases I.ok.EK with e | ⟨e,hf⟩
 ·rw[e];exact I.iO
 ·rw[e];obtain⟨m,hn,_⟩:=I.loc;refine .cons (by rw[I.ok.kind];decide) hf hn ?_ I.iO
  exact Heap.get?_none_of_le (Nat.le_trans I.ok.xH I.ok.above)
theorem Inv.hV(I:Inv X pins σ H s):∀ b∈gG X.stack,b∈X.env.locals::X.fs:=fun b hb=>by
 rcases I.ok.EK with e | ⟨e,hf⟩
 ·rw[e] at hb;exact List.mem_cons_of_mem _ hb
 ·rw[e] at hb;unfold gG at hb;rw[List.filterMap_cons,hf] at hb;exact hb
theorem Inv.gY(I:Inv X pins σ H s):∀ b∈gG X.stack,H b=none:=fun b hb=>by
 rcases List.mem_cons.mp (I.hV b hb) with e | hb
 ·rw[e];exact I.free
 ·obtain⟨_,o,ho,_⟩:=I.ok.iO.mem hb;exact I.base.free b o ho (I.ok.Cp b hb) fun z=>I.ok.xy b z hb
theorem Inv.step{g':Array GenState}{t':Nat}{d':Drawn}{ch:List Addr}(I:Inv X pins σ H s)
  (hch:∀ b∈ch,(b∈X.ex\/X.s₀.heap.objs.size<=b)/\b≠X.env.locals/\(∀ x c,X.env.cells.lookup x=some c->c≠b)/\∀ p∈X.pn++pins,p.1≠b)
  (keep:∀ b o,b≠X.env.locals->b∉X.fs->b∉ch->s.heap.get? b=some o->H b=none->h'.get? b=some o)
  (slot:∀ b o,b≠X.env.locals->b∈X.fs->b∉ch->s.heap.get? b=some o->H b=none->∃ sl,h'.get? b=some { o with slots:=sl }) (free:∀ b o,b∉ch->s.heap.get? b=some o->H b=none->H' b=none)
  (there:∀ b o,b∉ch->s.heap.get? b=some o->∃ o',h'.get? b=some o')
  (jq:∀ b xs,H b=some (.tup xs)->H' b=some (.tup xs)) (hW:∀ b o u,H b=some (.eN o u)->H' b=some (.eN o u)) (gJ:∀ b ps,H b=some (.sG ps)->∃ more,H' b=some (.sG (ps++more)))
  (ns:∀ m,s.heap.Ns X.env.locals m->h'.Ns X.env.locals m) (aJ:eE X.prog X.w H' h') (hg:AllBare g') :
  Inv X pins σ H' { s with heap:=h',gens:=g',drawn:=d',toks:=t' }:=by
 have neL:∀ b o,X.s₀.heap.get? b=some o->b≠X.env.locals:=fun b o e=>Nat.ne_of_lt (Nat.lt_of_lt_of_le (Heap.lt_size e) I.ok.above);have neC:∀ b o,X.s₀.heap.get? b=some o->b∉X.ex->b∉ch:=fun b o e hx hb=>by
  rcases (hch b hb).1 with z | z
  ·exact hx z
  ·exact absurd (Nat.lt_of_lt_of_le (Heap.lt_size e) z) (Nat.lt_irrefl _)
 have cellK:∀ x c,X.env.cells.lookup x=some c->∀ v,s.heap.IsCell c v->h'.IsCell c v:=fun x c e v ⟨o,ho,hd⟩=>by
  have nch:c∉ch:=fun z=>(hch c z).2.2.1 x c e rfl;by_cases hc:c∈X.fs
  ·obtain⟨sl,q⟩:=slot c o (I.x_ x c e) hc nch ho (I.cU x c e);exact⟨_,q,hd⟩
  ·exact⟨o,keep c o (I.x_ x c e) hc nch ho (I.cU x c e),hd⟩
 refine⟨I.ok,I.os,hg,⟨fun b o e n hb hx=>?_,fun b o e n hb hx=>?_,fun b o e n hx=>?_,fun b o e hx=>?_,fun b xs e=>jq b xs (I.base.jq b xs e),fun b o xs e=>hW b o xs (I.base.hW b o xs e),fun b ps e=>?_⟩,?_,fun x c e=>?_,?_,fun x c e=>?_,fun p hp=>?_,aJ,I.len⟩
 ·exact keep b o (neL b o e) hb (neC b o e hx) (I.base.keep b o e n hb hx) (I.base.free b o e n hx)
 ·obtain⟨sl,e1⟩:=I.base.slot b o e n hb hx;obtain⟨sl',e2⟩:=slot b _ (neL b o e) hb (neC b o e hx) e1 (I.base.free b o e n hx);exact⟨sl',e2⟩
 ·obtain⟨o',e1⟩:=I.base.there b o e hx;exact free b o' (neC b o e hx) e1 (I.base.free b o e n hx)
 ·obtain⟨o',e1⟩:=I.base.there b o e hx;exact there b o' (neC b o e hx) e1
 ·obtain⟨m1,e1⟩:=I.base.gJ b ps e;obtain⟨m2,e2⟩:=gJ b _ e1;exact⟨m1++m2,by rw[e2,Array.append_assoc]⟩
 ·obtain⟨m,hn,hl⟩:=I.loc;refine⟨m,ns m hn,fun i x v e1 e2 e3=>?_⟩;obtain⟨u,r,l⟩:=hl i x v e1 e2 e3;refine⟨u,r,?_⟩;rcases l with l | ⟨k,c,e,z⟩
  ·exact .inl l
  ·exact .inr ⟨k,c,e,cellK x c e _ z⟩
 ·obtain⟨v,z⟩:=I.cell x c e;exact⟨v,cellK x c e v z⟩
 ·obtain⟨m,⟨o,_,_,ho,_⟩,_⟩:=I.loc;exact free _ o (fun z=>(hch _ z).2.1 rfl) ho I.free
 ·obtain⟨v,o,ho,hd⟩:=I.cell x c e;exact free c o (fun z=>(hch c z).2.2.1 x c e rfl) ho (I.cU x c e)
 ·obtain⟨e,n,ne,nf,d⟩:=I.pin p hp;have nch:p.1∉ch:=fun z=>(hch p.1 z).2.2.2 p hp rfl;exact⟨keep p.1 p.2 ne nf nch e n,free p.1 p.2 nch e n,ne,nf,d⟩
theorem Inv.un{t':Nat}(I:Inv X pins σ H s)(u:Un X.fs [] H H' s.heap h')(aJ:eE X.prog X.w H' h'):Inv X pins σ H' { s with heap:=h',toks:=t' }:=by
 obtain⟨m,⟨o,es,ep,ho,r⟩,_⟩:=id I.loc;obtain⟨sl,hL⟩:=u.any ho I.free (by simp)
 exact I.step (g':=s.gens) (d':=s.drawn) (ch:=[]) (fun _ z=>nomatch z) (fun b o _ hb _ e n=>u.keep b o e n hb (by simp)) (fun b o _ hb _ e n=>u.slot b o e n hb (by simp)) (fun b o _ e n=>u.free b o e n (by simp)) (fun b o _ e=>u.there b o e (by simp)) u.jq u.hW u.gJ (fun m' hm=>by
  obtain⟨o',es',ep',ho',r'⟩:=hm;rw[ho] at ho';cases ho';exact⟨_,es',ep',hL,r'⟩) aJ I.bare
theorem Inv.call{g':Array GenState}{t':Nat}{d':Drawn}{ch:List Addr}(I:Inv X pins σ H s)(u:Un (gG X.stack) ch H H' s.heap h')(aJ:eE X.prog X.w H' h')(hg:AllBare g')
  (hch:∀ b∈ch,(b∈X.ex\/X.s₀.heap.objs.size<=b)/\b≠X.env.locals/\(∀ x c,X.env.cells.lookup x=some c->c≠b)/\∀ p∈X.pn++pins,p.1≠b) :
  Inv X pins σ H' { s with heap:=h',gens:=g',drawn:=d',toks:=t' }:=by
 obtain⟨m,⟨o,es,ep,ho,r⟩,_⟩:=id I.loc;obtain⟨sl,hL⟩:=u.any ho I.free fun z=>(hch _ z).2.1 rfl;exact I.step (ch:=ch) hch (fun b o hL hb hc e n=>u.keep b o e n (fun z=>(List.mem_cons.mp (I.hV b z)).elim hL hb) hc) (fun b o _ _ hc e n=>u.any e n hc) (fun b o hc e n=>u.free b o e n hc) (fun b o hc e=>u.there b o e hc) u.jq u.hW u.gJ (fun m' hm=>by
  obtain⟨o',es',ep',ho',r'⟩:=hm;rw[ho] at ho';cases ho';exact⟨_,es',ep',hL,r'⟩) aJ hg
theorem Inv.turned{t':Nat}{it:Addr}(I:Inv X pins σ H s)(k:∀ b o,b≠it->s.heap.get? b=some o->h'.get? b=some o)(hn:H it=none)(hL:it≠X.env.locals)
  (h1:it∈X.ex\/X.s₀.heap.objs.size<=it) (h2:∀ x c,X.env.cells.lookup x=some c->c≠it) (h3:∀ p∈X.pn++pins,p.1≠it):Inv X pins σ H { s with heap:=h',toks:=t' }:=by
 have nit:∀ b u,H b=some u->b≠it:=fun b u e z=>by rw[z,hn] at e;cases e
 refine I.step (g':=s.gens) (d':=s.drawn) (ch:=[it]) (fun b hb=>?_) (fun b o _ _ hc e _=>k b o (fun z=>hc (by simp[z])) e) (fun b o _ _ hc e _=>⟨o.slots,k b o (fun z=>hc (by simp[z])) e⟩) (fun _ _ _ _ n=>n)
  (fun b o hc e=>⟨o,k b o (fun z=>hc (by simp[z])) e⟩) (fun _ _ e=>e) (fun _ _ _ e=>e) (fun b ps e=>⟨#[],by rw[e];simp⟩) (fun m hm=>?_) (fun b u e=>?_) I.bare
 ·have e:b=it:=by simpa using hb
  subst e;exact⟨h1,hL,h2,h3⟩
 ·obtain⟨o,es,ep,ho,r⟩:=hm;exact⟨o,es,ep,k _ o (Ne.symm hL) ho,r⟩
 ·refine (I.aJ b u e).ic (fun c v hc q=>k c v ?_ q) (fun _ q=>q) (fun _ _ q=>q) fun _ _ _ q=>q;rcases hc with z | z
  ·rw[z];exact nit b u e
  ·exact nit c _ z
theorem Inv.tok(I:Inv X pins σ H s)(t:Nat):Inv X pins σ H { s with toks:=t }:=I.un (h':=s.heap) (t':=t) Un.refl I.aJ
theorem Inv.kept{t':Nat}(I:Inv X pins σ H s)(k:∀ b u,s.heap.get? b=some u->h'.get? b=some u):Inv X pins σ H { s with heap:=h',toks:=t' }:=I.un (Un.kept k) (I.aJ.kept k)
theorem Inv.laid{a:Addr}{o:HO}{t':Nat}(I:Inv X pins σ H s)(k:∀ b u,s.heap.get? b=some u->h'.get? b=some u)(hp:s.heap.objs.size<=a)(new:bp X.prog X.w (upd H a o) h' a o):
  Inv X pins σ (upd H a o) { s with heap:=h',toks:=t' }:=I.un (Un.laid k hp (I.aJ.fresh hp)) (I.aJ.laid k hp new)
theorem Inv.write{x e:Addr}{o:HO}{t':Nat}(I:Inv X pins σ H s)(mu:EW (H x))(he:e=x\/H e=some (.own x))(k:∀ b u,b≠e->s.heap.get? b=some u->h'.get? b=some u)(heo:∃ u,h'.get? e=some u)
  (new:bp X.prog X.w (upd H x o) h' x o):Inv X pins σ (upd H x o) { s with heap:=h',toks:=t' }:=I.un (Un.write mu he k heo) (I.aJ.write mu he k heo new)
theorem Inv.kI{pins':List (Addr×Obj)}(I:Inv X pins σ H s)(h:∀ p∈pins',s.heap.get? p.1=some p.2/\H p.1=none/\p.1≠X.env.locals/\p.1∉X.fs/\∀ v,p.2.data≠.cell v):Inv X pins' σ H s:=
 ⟨I.ok,I.os,I.bare,I.base,I.loc,I.cell,I.free,I.cU,fun p hp=>(List.mem_append.mp hp).elim (fun z=>I.pin p (List.mem_append_left _ z)) (h p),I.aJ,I.len⟩
theorem lX{N:List Str}(hN:N.Nodup){i j:Nat}{x:Str}(a:N[i]?=some x)(b:N[j]?=some x):i=j:=by
 obtain⟨h1,e1⟩:=List.getElem?_eq_some_iff.mp a;obtain⟨h2,e2⟩:=List.getElem?_eq_some_iff.mp b;exact (List.getElem_inj hN).mp (e1.trans e2.symm)
theorem jN{M:Model}{A:Around}{E:Value->Shared->Prop}{i:Nat}{x:Str}{v:V}{u:Value}{Q:Unit->Shared->Prop}(I:Inv X pins σ H s)(hN:X.N.Nodup)(hi:X.N[i]?=some x)(hx:Loc X.env.scope x)(r:RelV v u)
  (h:∀ s',Inv X pins (σ.set i (some v)) H s'->(∃ a,Heap.SameBut a s.heap s'.heap/\(a=X.env.locals\/X.env.cells.lookup x=some a))->Q () s') (hf:X.fn x=true\/X.env.scope.names.lookup x=some .local:=by first | exact .inl rfl | exact .inr rfl | assumption):wpAny M A (storeName X.env x u) Q E s:=by
 obtain⟨m,hn,hl⟩:=id I.loc;have hcls:(X.env.scope.kind == .class || (X.env.scope.kind == .module && X.env.locals != X.env.globals))=false:=by rw[I.ok.kind];rfl
 have hiσ:i < σ.length:=by rw[I.len];exact (List.getElem?_eq_some_iff.mp hi).1
 have x_:=I.x_;have tracked:∀ {a:Addr} {h':Heap},(∃ o,s.heap.get? a=some o/\H a=none)->Heap.SameBut a s.heap h'->eE X.prog X.w H h':=fun {a h'} ha hs b ob e=>by
  obtain⟨_,_,hfree⟩:=ha;refine (I.aJ b ob e).ic (fun c w' hc q=>(hs.2 c ?_).trans q) (fun _ q=>q) (fun _ _ q=>q) fun _ _ _ q=>q;rintro rfl;rcases hc with rfl | hc
  ·rw[hfree] at e;cases e
  ·rw[hfree] at hc;cases hc
 rcases hx with hk | hk
 ·refine wpAny_storeName_local hk hn (fun h' hn' hs=>?_) hcls;obtain⟨oL,_,_,hoL,_⟩:=id hn;refine h _ ⟨I.ok,I.os,I.bare,⟨fun b o e n hb hx=>?_,fun b o e n hb hx=>?_,I.base.free,fun b o e hx=>?_,I.base.jq,I.base.hW,I.base.gJ⟩,⟨_,hn',fun j y v' e1 e2 e3=>?_⟩,fun y c e=>?_,I.free,I.cU,fun p hp=>?_,tracked ⟨oL,hoL,I.free⟩ hs,by simpa using I.len⟩ ⟨_,hs,.inl rfl⟩
  ·exact (hs.2 b (Nat.ne_of_lt (Nat.lt_of_lt_of_le (Heap.lt_size e) I.ok.above))).trans (I.base.keep b o e n hb hx)
  ·obtain⟨sl,e1⟩:=I.base.slot b o e n hb hx;exact⟨sl,(hs.2 b (Nat.ne_of_lt (Nat.lt_of_lt_of_le (Heap.lt_size e) I.ok.above))).trans e1⟩
  ·obtain⟨o',e1⟩:=I.base.there b o e hx;exact⟨o',(hs.2 b (Nat.ne_of_lt (Nat.lt_of_lt_of_le (Heap.lt_size e) I.ok.above))).trans e1⟩
  ·by_cases hj:j=i
   ·subst hj;rw[hi] at e1;cases e1;rw[List.getElem?_set_self hiσ] at e2;cases e2;exact⟨u,r,.inl ⟨hk,by simp⟩⟩
   ·rw[List.getElem?_set_ne (Ne.symm hj)] at e2;obtain⟨u',r',q⟩:=hl j y v' e1 e2 e3;refine⟨u',r',?_⟩;rcases q with ⟨k,e⟩ | ⟨k,c,e,z⟩
    ·refine .inl ⟨k,?_⟩;have:y≠x:=fun e=>hj (lX hN e1 (e ▸ hi));simp[this,e]
    ·exact .inr ⟨k,c,e,z.sameBut hs (x_ y c e)⟩
  ·obtain⟨w',z⟩:=I.cell y c e;exact⟨w',z.sameBut hs (x_ y c e)⟩
  ·obtain⟨e,n,ne,nf,d⟩:=I.pin p hp;exact⟨(hs.2 p.1 ne).trans e,n,ne,nf,d⟩
 ·have hfn:X.fn x=true:=by
   rcases hf with z | z
   ·exact z
   ·rw[z] at hk;cases hk
  obtain⟨c,hc⟩:=I.ok.has x (.inl hk);obtain⟨w',z⟩:=I.cell x c hc;refine wpAny_storeName_cell I.ok.kind hk hc z (fun h' hc' hs=>?_);obtain⟨oc,hoc,hocd⟩:=id z;refine h { s with heap:=h' } ⟨I.ok,I.os,I.bare,⟨fun b o e n hb hx=>?_,fun b o e n hb hx=>?_,I.base.free,fun b o e hx=>?_,I.base.jq,I.base.hW,I.base.gJ⟩,⟨m,hn.sameBut hs (Ne.symm (x_ x c hc)),fun j y v' e1 e2 e3=>?_⟩,fun y c' e=>?_,I.free,I.cU,fun p hp=>?_,tracked ⟨oc,hoc,I.cU x c hc⟩ hs,by simpa using I.len⟩ ⟨c,hs,.inr hc⟩
  ·exact (hs.2 b (Nat.ne_of_lt (Nat.lt_of_lt_of_le (Heap.lt_size e) (I.ok.Dg x c hfn hc)))).trans (I.base.keep b o e n hb hx)
  ·obtain⟨sl,e1⟩:=I.base.slot b o e n hb hx;exact⟨sl,(hs.2 b (Nat.ne_of_lt (Nat.lt_of_lt_of_le (Heap.lt_size e) (I.ok.Dg x c hfn hc)))).trans e1⟩
  ·obtain⟨o',e1⟩:=I.base.there b o e hx;exact⟨o',(hs.2 b (Nat.ne_of_lt (Nat.lt_of_lt_of_le (Heap.lt_size e) (I.ok.Dg x c hfn hc)))).trans e1⟩
  ·by_cases hj:j=i
   ·subst hj;rw[hi] at e1;cases e1;rw[List.getElem?_set_self hiσ] at e2;cases e2;exact⟨u,r,.inr ⟨.inl hk,c,hc,hc'⟩⟩
   ·rw[List.getElem?_set_ne (Ne.symm hj)] at e2;obtain⟨u',r',q⟩:=hl j y v' e1 e2 e3;refine⟨u',r',?_⟩;rcases q with q | ⟨k,c',e,z'⟩
    ·exact .inl q
    ·refine .inr ⟨k,c',e,z'.sameBut hs ?_⟩;rintro rfl;exact hj (lX hN e1 (I.ok.inj _ _ _ e hc ▸ hi))
  ·by_cases hcc:c'=c
   ·subst hcc;exact⟨_,hc'⟩
   ·obtain⟨w2,z2⟩:=I.cell y c' e;exact⟨w2,z2.sameBut hs hcc⟩
  ·obtain⟨e,n,ne,nf,d⟩:=I.pin p hp;refine⟨(hs.2 p.1 ?_).trans e,n,ne,nf,d⟩;intro q;rw[q,hoc] at e;have q':oc=p.2:=Option.some.inj e;exact d w' (by rw[<- q'];exact hocd)
theorem lA{M:Model}{A:Around}{E:Value->Shared->Prop}{i:Nat}{x:Str}{v:V}{u:Value}{Q:Unit->Shared->Prop}(I:Inv X pins σ H s)(hN:X.N.Nodup)(hi:X.N[i]?=some x)(hx:Loc X.env.scope x)(r:RelV v u)
  (h:∀ s',Inv X pins (σ.set i (some v)) H s'->Q () s') (hf:X.fn x=true\/X.env.scope.names.lookup x=some .local:=by first | exact .inl rfl | exact .inr rfl | assumption):wpAny M A (storeName X.env x u) Q E s:=
 jN I hN hi hx r (fun s' I' _=>h s' I') hf
theorem Inv.zg{s':Shared}{ch:List Addr}(I:Inv X pins σ H s)(ho:s'.os=s.os)(u:Un (gG X.stack) ch H H' s.heap s'.heap)(aJ:eE X.prog X.w H' s'.heap)(hg:AllBare s'.gens)
  (hch:∀ b∈ch,(b∈X.ex\/X.s₀.heap.objs.size<=b)/\b≠X.env.locals/\(∀ x c,X.env.cells.lookup x=some c->c≠b)/\∀ p∈X.pn++pins,p.1≠b):Inv X pins σ H' s':=by
 obtain⟨h',g',d',t',o'⟩:=s';have e:o'=s.os:=ho;subst e;exact I.call (g':=g') (t':=t') (d':=d') u aJ hg hch
end
noncomputable abbrev XK:=Value->Option Addr->Hp->Prop
noncomputable abbrev St:=List (Option V)
noncomputable abbrev VK:=V->Hp->Prop
noncomputable abbrev TE:=St->Hp->VK->Prop
noncomputable abbrev TT:=St->Hp->(Bool->Hp->Prop)->Prop
noncomputable abbrev TA:=St->Hp->(List V->Hp->Prop)->Prop
structure Ends where
 nx:St->Hp->Prop
 rt:VK
 bk:St->Hp->Prop:=fun _ _=>False
 ct:St->Hp->Prop:=fun _ _=>False
noncomputable abbrev TS:=Ends->St->Hp->Prop
def EP(X:Cx)(pins:List (Addr×Obj))(σ:St)(Q:VK)(u:Value)(s':Shared):Prop:=∃ v H',Inv X pins σ H' s'/\RelV v u/\Q v H'
def TP(X:Cx)(pins:List (Addr×Obj))(σ:St)(Q:Bool->Hp->Prop)(b:Bool)(s':Shared):Prop:=∃ H',Inv X pins σ H' s'/\Q b H'
def AP(X:Cx)(pins:List (Addr×Obj))(σ:St)(Q:List V->Hp->Prop)(us:List Value)(s':Shared):Prop:=∃ vs H',Inv X pins σ H' s'/\Vals vs us/\Q vs H'
def SP(X:Cx)(pins:List (Addr×Obj))(D:Ends)(f:Flow)(s':Shared):Prop:=
 match f with
 | .next=>∃ σ' H',Inv X pins σ' H' s'/\D.nx σ' H'
 | .brk=>∃ σ' H',Inv X pins σ' H' s'/\D.bk σ' H'
 | .cont=>∃ σ' H',Inv X pins σ' H' s'/\D.ct σ' H'
 | .ret u=>∃ v σ' H',Inv X pins σ' H' s'/\RelV v u/\D.rt v H'
def PE(X:Cx)(e:Expr)(t:TE):Prop:=
 ∀ (pins:List (Addr×Obj)) (s:Shared) (σ:St) (H:Hp) (Q:VK),Inv X pins σ H s->t σ H Q->wpAny (model X.prog X.w) X.A (eval e X.env) (EP X pins σ Q) X.xe s
def PT(X:Cx)(e:Expr)(t:TT):Prop:=
 ∀ (pins:List (Addr×Obj)) (s:Shared) (σ:St) (H:Hp) (Q:Bool->Hp->Prop),Inv X pins σ H s->t σ H Q->wpAny (model X.prog X.w) X.A (isTrue e X.env (eval e X.env)) (TP X pins σ Q) X.xe s
def PW(X:Cx)(e:Expr)(t:TT):Prop:=
 ∀ (whole:Sem Value) (pins:List (Addr×Obj)) (s:Shared) (σ:St) (H:Hp) (Q:Bool->Hp->Prop),Inv X pins σ H s->t σ H Q->wpAny (model X.prog X.w) X.A (isTrue e X.env whole) (TP X pins σ Q) X.xe s
theorem PW.pt{X:Cx}{e:Expr}{t:TT}(h:PW X e t):PT X e t:=h _
def PA(X:Cx)(es:List Expr)(t:TA):Prop:=
 ∀ (pos:Pos) (pins:List (Addr×Obj)) (s:Shared) (σ:St) (H:Hp) (Q:List V->Hp->Prop),Inv X pins σ H s->t σ H Q->wpAny (model X.prog X.w) X.A (spliced (backTo pos (starEach es X.env))) (AP X pins σ Q) X.xe s
def PS(X:Cx)(st:Stmt)(t:TS):Prop:=
 ∀ (pins:List (Addr×Obj)) (s:Shared) (σ:St) (H:Hp) (D:Ends),Inv X pins σ H s->t D σ H->wpAny (model X.prog X.w) X.A (exec st X.env) (SP X pins D) X.xe s
def nr(X:Cx)(st:List Stmt)(t:TS):Prop:=
 ∀ (pins:List (Addr×Obj)) (s:Shared) (σ:St) (H:Hp) (D:Ends),Inv X pins σ H s->t D σ H->wpAny (model X.prog X.w) X.A (execs st X.env) (SP X pins D) X.xe s
theorem bJ{α:Type}{t:Sem α}{Q Q':α->Shared->Prop}{M:Model}{A:Around}{E:Value->Shared->Prop}{s:Shared}(h:wpAny M A t Q E s)(hQ:∀ a s,Q a s->Q' a s):wpAny M A t Q' E s:=wpAny_mono h hQ fun _ _ x=>x
section
variable {X:Cx}
def qX(i:Nat):TE:=fun σ H Q=>∃ v,σ[i]?=some (some v)/\Q v H
def tC(v:V):TE:=fun _ H Q=>Q v H
theorem An{i:Nat}{x:Str}{pos:Pos}(hN:X.N[i]?=some x)(hv:Bf X.env.scope x)(hd:(x ==("__debug__":Str))=false:=by decide)(hcd:(x ==("__classdict__":Str))=false:=by decide):PE X (.Name x pos) (qX i):=by
 intro pins s σ H Q I h;obtain⟨v,e,h⟩:=h;obtain⟨m,hn,hl⟩:=I.loc;obtain⟨u,r,l⟩:=hl i x v hN e hv;have fin:EP X pins σ Q u s:=⟨v,H,I,r,h⟩;rcases l with ⟨hk,hm⟩ | ⟨hk,c,hc,hcell⟩
 ·exact wpAny_Name (wpAny_loadName_local I.ok.kind hk hn hm fin) hd
 ·rcases hk with hk | hk
  ·exact wpAny_Name (wpAny_loadName_cell I.ok.kind hk hc hcell fin) hd
  ·exact wpAny_Name (wpAny_loadName_free I.ok.kind hk hc hcell fin hcd) hd
theorem iR{i j pos}:PE X (.Constant (.int i) j pos) (tC (.int i)):=fun _ _ _ H _ I h=>wpAny_Constant_int ⟨.int i,H,I.tok _,⟨_,rfl⟩,h⟩
theorem yQ{b j pos}:PE X (.Constant (.bool b) j pos) (tC (.bl b)):=fun _ _ _ H _ I h=>Constant_bool ⟨.bl b,H,I,rfl,h⟩
theorem BD{j pos}:PE X (.Constant .none j pos) (tC .bf):=fun _ _ _ H _ I h=>Constant_none ⟨.bf,H,I,rfl,h⟩
theorem vN{x j pos}:PE X (.Constant (.str x) j pos) (tC (.str x)):=fun _ _ _ H _ I h=>Calls.Constant_str ⟨.str x,H,I.tok _,⟨_,rfl⟩,h⟩
def Gl(X:Cx)(x:Str):Prop:=X.env.kindOf x=some .globalImplicit
theorem fE{E:Value->Shared->Prop}{pins:List (Addr×Obj)}{s:Shared}{σ:St}{H:Hp}{x:Str}{u:Value}{pos:Pos}{Q:Value->Shared->Prop}(I:Inv X pins σ H s)(hg:Gl X x)(hm:X.mg x=some u)(h:Q u s)
  (hd:(x ==("__debug__":Str))=false:=by decide):wpAny (model X.prog X.w) X.A (eval (.Name x pos) X.env) Q E s:=
 Calls.Name_function_global I.ok.kind hg (Calls.loadGlobal_global (by rw[I.ok.glob];exact I.mod.glob.keeps I.bk) hm h) hd
theorem eA{E:Value->Shared->Prop}{pins:List (Addr×Obj)}{s:Shared}{σ:St}{H:Hp}{x:Str}{u:Value}{pos:Pos}{Q:Value->Shared->Prop}(I:Inv X pins σ H s)(hg:Gl X x)(hm:X.mg x=none)(hv:bootBuiltins x=some u)(h:Q u s)
  (hn:x≠"__name__":=by decide) (hd:(x ==("__debug__":Str))=false:=by decide):wpAny (model X.prog X.w) X.A (eval (.Name x pos) X.env) Q E s:=by
 obtain⟨mb,h1,h2⟩:=I.mod.blt;exact Calls.Name_function_global I.ok.kind hg (Calls.loadGlobal_builtin (by rw[I.ok.glob];exact I.mod.glob.keeps I.bk) hm (by rw[I.ok.blt];exact h1.keeps I.bk) ((h2 x hn).trans hv) h) hd
theorem kr{x:Str}{v:V}{u:Value}{pos:Pos}(hg:Gl X x)(hm:X.mg x=some u)(r:RelV v u)(hd:(x ==("__debug__":Str))=false:=by decide):PE X (.Name x pos) (tC v):=
 fun _ _ _ H _ I h=>fE I hg hm ⟨v,H,I,r,h⟩ hd
theorem wM{x:Str}{v:V}{u:Value}{pos:Pos}(hg:Gl X x)(hm:X.mg x=none)(hv:bootBuiltins x=some u)(r:RelV v u)(hn:x≠"__name__":=by decide)(hd:(x ==("__debug__":Str))=false:=by decide):PE X (.Name x pos) (tC v):=
 fun _ _ _ H _ I h=>eA I hg hm hv ⟨v,H,I,r,h⟩ hn hd
def GR(ta tb:TE)(k:Int->Int->Hp->Prop):St->Hp->Prop:=fun σ H=>ta σ H fun x H1=>tb σ H1 fun y H2=>∃ i j,x=.int i/\y=.int j/\k i j H2
variable {a b:Expr} {ta tb:TE} {pos:Pos}
def El(p:Int->Int->Bool)(ta tb:TE):TE:=fun σ H Q=>GR ta tb (fun i j H2=>Q (.bl (p i j)) H2) σ H
noncomputable abbrev Ex:TE->TE->TE:=El fun i j=>decide (i=j)
noncomputable abbrev C0:TE->TE->TE:=El fun i j=>!decide (i=j)
variable {tA tB':TT} {rest:List Expr}
def AH(t u:TT):TT:=fun σ H Q=>t σ H fun c H1=>if c=true then u σ H1 Q else Q false H1
def Gr(t u:TT):TT:=fun σ H Q=>t σ H fun c H1=>if c=true then Q true H1 else u σ H1 Q
def DH(t:TT):TT:=fun σ H Q=>t σ H fun c H1=>Q (!c) H1
theorem xS(ha:PT X a tA):PW X (.BoolOp .And [a] pos) tA:=by
 intro wh pins s σ H Q I h;refine isTrue_and (bJ (ha pins s σ H Q I h) fun c s1 e=>?_)
 cases c with
 | true=>exact isTrue_and_nil e
 | false=>exact e
theorem BW(ha:PT X a tA):PW X (.BoolOp .Or [a] pos) tA:=by
 intro wh pins s σ H Q I h;refine isTrue_or (bJ (ha pins s σ H Q I h) fun c s1 e=>?_)
 cases c with
 | false=>exact isTrue_or_nil e
 | true=>exact e
theorem Av(ha:PT X a tA)(hb:PW X (.BoolOp .And (b::rest) pos) tB'):PW X (.BoolOp .And (a::b::rest) pos) (AH tA tB'):=by
 intro wh pins s σ H Q I h;refine isTrue_and (bJ (ha pins s σ H _ I h) fun c s1 ⟨H1,I1,q1⟩=>?_)
 cases c with
 | true=>exact hb wh pins s1 σ H1 Q I1 q1
 | false=>exact⟨H1,I1,q1⟩
theorem D0(ha:PT X a tA)(hb:PW X (.BoolOp .Or (b::rest) pos) tB'):PW X (.BoolOp .Or (a::b::rest) pos) (Gr tA tB'):=by
 intro wh pins s σ H Q I h;refine isTrue_or (bJ (ha pins s σ H _ I h) fun c s1 ⟨H1,I1,q1⟩=>?_)
 cases c with
 | true=>exact⟨H1,I1,q1⟩
 | false=>exact hb wh pins s1 σ H1 Q I1 q1
theorem B4(ha:PT X a tA):PT X (.UnaryOp .Not a pos) (DH tA):=by
 intro pins s σ H Q I h;exact isTrue_not (ha pins s σ H (fun c H1=>Q (!c) H1) I h)
end
def bA(K:PySem.W.Frag)(H:Hp)(a:Addr)(xs:List V):Prop:=
 Rd H a (.lst xs) \/
  ∃ (o:Obj) (its:Array Value) (n:Nat),K.lookup a=some o/\o.cls=.type "list"/\o.dict=none/\o.data=.seq its n/\its.size<=sizeLine/\Vals xs its.toList
def bj(K:PySem.W.Frag)(H:Hp)(a:Addr)(xs:List V):Prop:=
 Rd H a (.tup xs) \/
  ∃ (o:Obj) (its:Array Value) (n:Nat),K.lookup a=some o/\o.cls=.type "tuple"/\o.data=.seq its n/\its.size<=sizeLine/\Vals xs its.toList
def FJ:Value->Option V
 | .none=>some .bf
 | .bool b=>some (.bl b)
 | .int i _=>some (.int i)
 | .str x _=>some (.str x)
 | .bytes b _=>some (.qZ b)
 | .float b _=>some (.Cj b)
 | .ref a=>some (.ref a)
 | .type n=>some (.ty n)
 | _=>none
theorem RelV.abs{x:V}{u:Value}(r:RelV x u):FJ u=some x:=by
 cases x with
 | bf=>cases r;rfl
 | bl _=>cases r;rfl
 | int _=>obtain⟨t,rfl⟩:=r;rfl
 | str _=>obtain⟨t,rfl⟩:=r;rfl
 | qZ _=>obtain⟨t,rfl⟩:=r;rfl
 | Cj _=>obtain⟨t,rfl⟩:=r;rfl
 | ref _=>cases r;rfl
 | ty _=>cases r;rfl
theorem RelV.inj{x y:V}{u:Value}(r:RelV x u)(q:RelV y u):x=y:=Option.some.inj (r.abs.symm.trans q.abs)
theorem Vals.inj:∀ {xs ys:List V} {us:List Value},Vals xs us->Vals ys us->xs=ys
 | _,_,_,.nil,.nil=>rfl
 | _,_,_,.cons r t,.cons r' t'=>by rw[r.inj r',Vals.inj t t']
section
variable {X:Cx} {pins:List (Addr×Obj)} {σ:St} {H:Hp} {s:Shared} {a:Addr} {xs ys:List V}
theorem bA.of{K:PySem.W.Frag}(h:H a=some (.lst xs)):bA K H a xs:=.inl (.inl h)
theorem bj.of{K:PySem.W.Frag}(h:H a=some (.tup xs)):bj K H a xs:=.inl (.inl h)
theorem Inv.list(I:Inv X pins σ H s)(h:bA X.K H a xs):∃ its:List Value,Vals xs its/\PlainL s.heap a its.toArray/\xs.length<=sizeLine:=by
 rcases h with h | ⟨o,its,n,hk,hc,hd,hs,hz,r⟩
 ·obtain⟨z,its,n,r,e⟩:=h.ok I.aJ;exact⟨its,r,⟨_,n,e,rfl,rfl,rfl⟩,z⟩
 ·refine⟨its.toList,r,⟨o,n,I.fo a o hk,hc,hd,by simpa using hs⟩,?_⟩
  have e:=r.length;simp only[Array.length_toList] at e;lia
theorem Inv.tuple(I:Inv X pins σ H s)(h:bj X.K H a xs):∃ its:List Value,Vals xs its/\IsTup s.heap a its.toArray/\xs.length<=sizeLine:=by
 rcases h with h | ⟨o,its,n,hk,hc,hs,hz,r⟩
 ·obtain⟨z,its,r,p⟩:=h.ok I.aJ;exact⟨its,r,p.to,z⟩
 ·refine⟨its.toList,r,⟨o,I.fo a o hk,hc,n,by simpa using hs⟩,?_⟩
  have e:=r.length;simp only[Array.length_toList] at e;lia
theorem Inv.lM(I:Inv X pins σ H s)(h:bA X.K H a xs)(h':bA X.K H a ys):xs=ys:=by
 obtain⟨its,r,⟨o,n,e,_,_,d⟩,_⟩:=I.list h;obtain⟨its',r',⟨o',n',e',_,_,d'⟩,_⟩:=I.list h';rw[e] at e';cases e';rw[d] at d'
 injection d' with d1 _
 have:its=its':=by simpa using congrArg Array.toList d1
 subst this;exact r.inj r'
theorem Inv.gc(I:Inv X pins σ H s)(h:bj X.K H a xs)(h':bj X.K H a ys):xs=ys:=by
 obtain⟨its,r,⟨o,e,_,n,d⟩,_⟩:=I.tuple h;obtain⟨its',r',⟨o',e',_,n',d'⟩,_⟩:=I.tuple h';rw[e] at e';cases e';rw[d] at d'
 injection d' with d1 _
 have:its=its':=by simpa using congrArg Array.toList d1
 subst this;exact r.inj r'
end
noncomputable abbrev Cx.ju (X:Cx) (E:Value->Shared->Prop):Cx:={ X with xe:=E }
noncomputable abbrev Cx.xt (X:Cx):Cx:=X.ju fun _ _=>False
theorem Cx.Ok.ju{X:Cx}(ok:X.Ok)(E:Value->Shared->Prop):(X.ju E).Ok:=
 ⟨ok.mod,ok.kind,ok.glob,ok.blt,ok.above,ok.inj,ok.has,ok.Dg,ok.hd,ok.frames,ok.EK,ok.GH,ok.bs,ok.xH,ok.uO,ok.xy,ok.iO,ok.Cp,ok.tabs⟩
theorem Cx.Ok.dR{X:Cx}{E:Value->Shared->Prop}(ok:(X.ju E).Ok):X.Ok:=
 ⟨ok.mod,ok.kind,ok.glob,ok.blt,ok.above,ok.inj,ok.has,ok.Dg,ok.hd,ok.frames,ok.EK,ok.GH,ok.bs,ok.xH,ok.uO,ok.xy,ok.iO,ok.Cp,ok.tabs⟩
section
variable {X:Cx} {pins:List (Addr×Obj)} {σ:St} {H:Hp} {s:Shared} {E:Value->Shared->Prop}
theorem Inv.ju(I:Inv X pins σ H s)(E:Value->Shared->Prop):Inv (X.ju E) pins σ H s:=⟨I.ok.ju E,I.os,I.bare,I.base,I.loc,I.cell,I.free,I.cU,I.pin,I.aJ,I.len⟩
theorem Inv.dR(I:Inv (X.ju E) pins σ H s):Inv X pins σ H s:=⟨I.ok.dR,I.os,I.bare,I.base,I.loc,I.cell,I.free,I.cU,I.pin,I.aJ,I.len⟩
theorem SP.dR{D:Ends}{f:Flow}{s':Shared}(h:SP (X.ju E) pins D f s'):SP X pins D f s':=by
 cases f with
 | next=>obtain⟨σ',H',I,q⟩:=h;exact⟨σ',H',I.dR,q⟩
 | brk=>obtain⟨σ',H',I,q⟩:=h;exact⟨σ',H',I.dR,q⟩
 | cont=>obtain⟨σ',H',I,q⟩:=h;exact⟨σ',H',I.dR,q⟩
 | ret u=>obtain⟨v,σ',H',I,r,q⟩:=h;exact⟨v,σ',H',I.dR,r,q⟩
theorem nr.xt{st:List Stmt}{t:TS}(h:nr X.xt st t):nr X st t:=fun pins s σ H D I hw =>
 wpAny_mono (h pins s σ H D (I.ju _) hw) (fun _ _ q=>q.dR) fun _ _ z=>False.elim z
end
section
variable {X:Cx} {st:Stmt} {rest:List Stmt} {t u:TS} {e:Expr} {te:TE} {pos:Pos}
def zq:TS:=fun D σ H=>D.nx σ H
def BM(t u:TS):TS:=fun D σ H=>t { D with nx:=u D } σ H
theorem yB:nr X [] zq:=fun _ _ σ H _ I h=>wpAny_execs_nil ⟨σ,H,I,h⟩
theorem vi(h1:PS X st t)(h2:nr X rest u):nr X (st::rest) (BM t u):=by
 intro pins s σ H D I h;refine wpAny_execs_cons (bJ (h1 pins s σ H { D with nx:=u D } I h) fun f s1 q=>?_)
 cases f with
 | next =>
  obtain⟨σ',H',I',q⟩:=q;exact h2 pins s1 σ' H' D I' q
 | ret v=>exact q
 | brk=>exact q
 | cont=>exact q
theorem xQ(h1:PS X st t):nr X [st] t:=by
 intro pins s σ H D I h;refine wpAny_execs_cons (bJ (h1 pins s σ H D I h) fun f s1 q=>?_)
 cases f with
 | next=>exact wpAny_execs_nil q
 | ret v=>exact q
 | brk=>exact q
 | cont=>exact q
theorem Inv.quiet{pins:List (Addr×Obj)}{σ:St}{H:Hp}{s:Shared}(I:Inv X pins σ H s):interactive X.env=false:=by simp[interactive,I.ok.kind]
def zG(te:TE):TS:=fun D σ H=>te σ H fun _ H1=>D.nx σ H1
theorem yw(he:PE X e te)(hs:swapsWith e none pos.line X.env=pure false:=by rfl):PS X (.Expr e pos) (zG te):=by
 intro pins s σ H D I h;exact wpAny_Expr_any (bJ (he pins s σ H _ I h) fun v s1 ⟨x,H1,I1,r1,q1⟩=>⟨σ,H1,I1,q1⟩) I.quiet hs
def uM(te:TE):TS:=fun D σ H=>te σ H D.rt
theorem Cf(he:PE X e te):PS X (.Return (some e) pos) (uM te):=by
 intro pins s σ H D I h;exact wpAny_Return_some (bJ (he pins s σ H _ I h) fun v s1 ⟨x,H1,I1,r1,q1⟩=>⟨x,σ,H1,I1,r1,q1⟩)
def Dz(c:TT)(t u:TS):TS:=fun D σ H=>c σ H fun b H1=>if b=true then t D σ H1 else u D σ H1
theorem CQ{c:Expr}{a b:List Stmt}{tc:TT}(hc:PT X c tc)(ha:nr X a t)(hb:nr X b u):PS X (.If c a b pos) (Dz tc t u):=by
 intro pins s σ H D I h;refine wpAny_If (bJ (hc pins s σ H _ I h) fun d s1 ⟨H1,I1,q1⟩=>?_)
 cases d with
 | true=>exact ha pins s1 σ H1 D I1 q1
 | false=>exact hb pins s1 σ H1 D I1 q1
end
noncomputable abbrev TG:=V->St->Hp->(St->Hp->Prop)->Prop
noncomputable abbrev nF:=List V->St->Hp->(St->Hp->Prop)->Prop
def PG(X:Cx)(target:Expr)(t:TG):Prop:=
 ∀ (pins:List (Addr×Obj)) (s:Shared) (σ:St) (H:Hp) (v:V) (u:Value) (Q:St->Hp->Prop),Inv X pins σ H s->RelV v u->t v σ H Q ->
  wpAny (model X.prog X.w) X.A (assign target X.env u) (fun _ s'=>∃ σ' H',Inv X pins σ' H' s'/\Q σ' H') X.xe s
def Cy(X:Cx)(ts:List Expr)(t:nF):Prop:=
 ∀ (pins:List (Addr×Obj)) (s:Shared) (σ:St) (H:Hp) (vs:List V) (us:List Value) (Q:St->Hp->Prop),Inv X pins σ H s->Vals vs us->t vs σ H Q ->
  wpAny (model X.prog X.w) X.A (assignInOrder ((assignEach ts X.env).map (·.2)) us) (fun _ s'=>∃ σ' H',Inv X pins σ' H' s'/\Q σ' H') X.xe s
noncomputable abbrev xF:=V->V->V->Hp->(Hp->Prop)->Prop
def AQ(X:Cx)(t:xF):Prop:=
 ∀ (pins:List (Addr×Obj)) (s:Shared) (σ:St) (H:Hp) (o i v:V) (ov iv u:Value) (Q:Hp->Prop),Inv X pins σ H s->RelV o ov->RelV i iv->RelV v u->t o i v H Q ->
  wpAny (model X.prog X.w) X.A (setItem ov iv u) (fun _ s'=>∃ H',Inv X pins σ H' s'/\Q H') X.xe s
section
variable {X:Cx} {pos:Pos}
def bH(i:Nat):TG:=fun v σ H Q=>Q (σ.set i (some v)) H
theorem w_{i:Nat}{x:Str}(hN:X.N.Nodup)(hi:X.N[i]?=some x)(hx:Loc X.env.scope x)(hf:X.fn x=true\/X.env.scope.names.lookup x=some .local:=by first | exact .inl rfl | exact .inr rfl | assumption):PG X (.Name x pos) (bH i):=by
 intro pins s σ H v u Q I r h;exact wpAny_assign_Name (lA I hN hi hx r (fun s' I'=>⟨_,H,I',h⟩) hf)
def lJ:nF:=fun vs σ H Q=>vs=[]/\Q σ H
def dN(t:TG)(u:nF):nF:=fun vs σ H Q=>∃ v r,vs=v::r/\t v σ H fun σ' H'=>u r σ' H' Q
theorem x4:Cy X [] lJ:=by
 intro pins s σ H vs us Q I r h;obtain⟨e,h⟩:=h;subst e;cases r;exact assignInOrder_nil ⟨σ,H,I,h⟩
theorem vf{e:Expr}{es:List Expr}{t:TG}{u:nF}(h1:PG X e t)(h2:Cy X es u)
  (hs:(assignEach (e::es) X.env).map (·.2)=assign e X.env::(assignEach es X.env).map (·.2):=by rfl):Cy X (e::es) (dN t u):=by
 intro pins s σ H vs us Q I r h;obtain⟨v,vr,e1,h⟩:=h;subst e1
 cases r with
 | cons r rr =>
  rw[hs];refine assignInOrder_cons (bJ (h1 pins s σ H _ _ _ I r h) fun _ s1 ⟨σ1,H1,I1,q1⟩=>?_);exact h2 pins s1 σ1 H1 _ _ Q I1 rr q1
def lQ(K:PySem.W.Frag)(n:Nat)(t:nF):TG:=fun v σ H Q=>∃ a xs,v=.ref a/\bj K H a xs/\xs.length=n/\t xs σ H Q
theorem u6{es:List Expr}{k:Nat}{t:nF}{n:Nat}(hc:X.calm=true)(h:Cy X es t)
  (hn:(assignEach es X.env).length=n:=by rfl) (hst:(assignEach es X.env).findIdx? (·.1)=none:=by rfl):PG X (.Tuple es k pos) (lQ X.K n t):=by
 intro pins s σ H v u Q I r hw;obtain⟨a,xs,e1,hq,hl,hw⟩:=hw;subst e1;cases r;obtain⟨its,rv,ht,hz⟩:=I.tuple hq;refine assign_Tuple_tuple (I.ok.hd hc) ht (by simp[hn,<- hl,rv.length]) hst fun h' hx=>?_
 have I1:Inv X pins σ H { s with heap:=h' }:=I.kept (t':=s.toks) fun b o e=>hx b o (Nat.ne_of_lt (Heap.lt_size e)) e
 exact h pins _ σ H xs _ Q I1 (by simpa using rv) hw
def w8(to ti:TE)(t:xF):TG:=fun v σ H Q=>to σ H fun o H1=>ti σ H1 fun i H2=>t o i v H2 fun H3=>Q σ H3
theorem A4{o i:Expr}{to ti:TE}{t:xF}(ho:PE X o to)(hi:PE X i ti)(hs:AQ X t)
  (ha:∀ v,assign (.Subscript o i pos) X.env v=(do
   let ov <- holding [v] (eval o X.env)
   let iv <- holding [v,ov] (eval i X.env)
   standAt pos
   holding [v,ov,iv] (setItem ov iv v)
   release [v,ov,iv] []):=by intro _;rfl):PG X (.Subscript o i pos) (w8 to ti t):=by
 intro pins s σ H v u Q I r h;rw[ha];refine wpAny_bind (wpAny_holding (bJ (ho pins s σ H _ I h) fun ov s1 ⟨x,H1,I1,r1,q1⟩=>?_));refine wpAny_bind (wpAny_holding (bJ (hi pins s1 σ H1 _ I1 q1) fun iv s2 ⟨y,H2,I2,r2,q2⟩=>?_));refine wpAny_bind (wpAny_standAt (wpAny_bind (wpAny_holding (bJ (hs pins s2 σ H2 x y v ov iv u _ I2 r1 r2 r q2) fun _ s3 ⟨H3,I3,q3⟩=>?_))));exact wpAny_release ⟨σ,H3,I3,q3⟩
def iG(te:TE)(g:TG):TS:=fun D σ H=>te σ H fun x H1=>g x σ H1 D.nx
theorem Bk{tg e:Expr}{te:TE}{g:TG}(he:PE X e te)(hg:PG X tg g)(hs:swapsWithSole [tg] e pos.line X.env=pure false:=by rfl)(hw:swappedStores [tg] e X.env=pure none:=by rfl)
  (h1:(assignEach [tg] X.env).map (·.2)=[assign tg X.env]:=by rfl):PS X (.Assign [tg] e pos) (iG te g):=by
 intro pins s σ H D I h;refine wpAny_Assign_stores (bJ (he pins s σ H _ I h) fun v s1 ⟨x,H1,I1,r1,q1⟩=>?_) hs hw;rw[h1];exact bJ (hg pins s1 σ H1 x v _ I1 r1 q1) fun _ s2 q=>q
theorem zM{i:Nat}{x:Str}{e:Expr}{te:TE}{pos':Pos}(hN:X.N.Nodup)(hi:X.N[i]?=some x)(hx:Loc X.env.scope x)(he:PE X e te)(hs:swapsWith e (some (.Name x pos')) pos.line X.env=pure false:=by rfl)(hf:X.fn x=true\/X.env.scope.names.lookup x=some .local:=by first | exact .inl rfl | exact .inr rfl | assumption):
  PS X (.Assign [.Name x pos'] e pos) (iG te (bH i)):=by
 intro pins s σ H D I h;refine wpAny_Assign_Name (bJ (he pins s σ H _ I h) fun v s1 ⟨y,H1,I1,r1,q1⟩=>?_) hs;exact lA I1 hN hi hx r1 (fun s2 I2=>⟨_,H1,I2,q1⟩) hf
end
section
variable {X:Cx} {pos:Pos}
def uD(c:TT)(tb:TS):TS:=fun D σ H=>∃ W:Nat->St->Hp->Prop,(∃ m,W m σ H)/\∀ m σ H,W m σ H ->
 c σ H fun b H1=>if b=true then ∃ N:St->Hp->Prop,(∀ σ' H',N σ' H'->∃ m',m' < m/\W m' σ' H')/\tb { D with nx:=N,ct:=N,bk:=D.nx } σ H1 else D.nx σ H1
theorem vP{c:Expr}{body:List Stmt}{tc:TT}{tb:TS}(hp:PassesOwn (model X.prog X.w) X.A X.env X.xe)(hc:PT X c tc)(hb:nr X body tb):PS X (.While c body [] pos) (uD tc tb):=by
 intro pins s σ H D I h;obtain⟨W,⟨m0,w0⟩,turn⟩:=h;refine wpAny_While (codeAny_whileLoop (fun n s'=>∃ σ' H',Inv X pins σ' H' s'/\W n σ' H') ?_ m0 ⟨σ,H,I,w0⟩);rintro n s1 ⟨σ1,H1,I1,w1⟩;refine wpAny_passesOwn hp (bJ (hc pins s1 σ1 H1 _ I1 (turn n σ1 H1 w1)) fun b s2 ⟨H2,I2,q2⟩=>?_)
 cases b with
 | true =>
  obtain⟨N,hN,q2⟩:=q2;rw[if_pos rfl];refine wpAny_passesOwn hp (bJ (hb pins s2 σ1 H2 _ I2 q2) fun f s3 q3=>?_)
  cases f with
  | next =>
   obtain⟨σ3,H3,I3,n3⟩:=q3;obtain⟨m',hm,w3⟩:=hN σ3 H3 n3;exact⟨m',hm,σ3,H3,I3,w3⟩
  | cont =>
   obtain⟨σ3,H3,I3,n3⟩:=q3;obtain⟨m',hm,w3⟩:=hN σ3 H3 n3;exact⟨m',hm,σ3,H3,I3,w3⟩
  | brk=>exact q3
  | ret v=>exact q3
 | false =>
  rw[if_neg Bool.false_ne_true];exact wpAny_execs_nil ⟨σ1,H2,I2,q2⟩
end
structure It where
 go:Nat->Hp->Prop
 yF:Nat->Hp->V->Hp->Prop
 stop:Nat->Hp->Prop
def jv(X:Cx)(pins:List (Addr×Obj))(H:Hp)(b:Addr):Prop:=
 H b=none/\b≠X.env.locals/\b∉X.fs/\(b∈X.ex\/X.s₀.heap.objs.size<=b)/\(∀ x c,X.env.cells.lookup x=some c->c≠b)/\∀ p∈X.pn++pins,p.1≠b
theorem Inv.oo{X:Cx}{pins:List (Addr×Obj)}{σ:St}{H H':Hp}{s:Shared}{b:Addr}(I:Inv X pins σ H s)(hb:s.heap.objs.size<=b)(hn:H' b=none):jv X pins H' b:=by
 refine⟨hn,Nat.ne_of_gt (Nat.lt_of_lt_of_le I.lt hb),I.DE hb,.inr (Nat.le_trans I.sz hb),fun x c e z=>?_,fun p hp z=>?_⟩
 ·obtain⟨v,q⟩:=I.cell x c e;exact absurd (Nat.lt_of_lt_of_le q.lt (by rw[z];exact hb)) (Nat.lt_irrefl _)
 ·exact absurd (Nat.lt_of_lt_of_le (Heap.lt_size (I.pin p hp).1) (by rw[z];exact hb)) (Nat.lt_irrefl _)
structure Turn (P:Program) (w:World) (K:PySem.W.Frag) (tg:Expr) (J:It) (fp:List Addr) (it:Addr) (tn:Nat->Heap->Prop):Prop where
 mem:it∈fp
 obj:∀ i h,tn i h->∀ b∈fp,∃ o,h.get? b=some o/\∀ v,o.data≠.cell v
 keep:∀ i h h',tn i h->(∀ b∈fp,∀ o,h.get? b=some o->h'.get? b=some o)->tn i h'
 item:∀ (X:Cx),X.prog=P->X.w=w->X.K=K->X.calm=true->∀ (i:Nat) (pins:List (Addr×Obj)) (s:Shared) (σ:St) (H:Hp) (E:Value->Shared->Prop),Inv X pins σ H s->(∀ b∈fp,jv X pins H b)->tn i s.heap->J.go i H ->
  wpAny (model P w) X.A (pyNext (.ref it)) (fun r s1=>∃ u,r=some u /\
   wpAny (model P w) X.A (letOwnedTupleGo tg (.ref it) u) (fun _ s2=>∃ x H',Inv X pins σ H' s2/\RelV x u/\J.yF i H x H'/\tn (i+1) s2.heap/\∀ b∈fp,H' b=none) E s1) E s
 done:∀ (X:Cx),X.prog=P->X.w=w->X.K=K->X.calm=true->∀ (i:Nat) (pins:List (Addr×Obj)) (s:Shared) (σ:St) (H:Hp) (E:Value->Shared->Prop),Inv X pins σ H s->(∀ b∈fp,jv X pins H b)->tn i s.heap->J.stop i H ->
  wpAny (model P w) X.A (pyNext (.ref it)) (fun r s1=>r=none/\Inv X pins σ H s1) E s
 self:∀ (A:Around) (i:Nat) (s:Shared) (Q:Value->Shared->Prop) (E:Value->Shared->Prop),tn i s.heap->Q (.ref it) s->wpAny (model P w) A (pyIter (.ref it)) Q E s
noncomputable abbrev TI:=St->Hp->(It->Hp->Prop)->Prop
def G7(X:Cx)(pins:List (Addr×Obj))(σ:St)(tg:Expr)(R:It->Hp->Prop)(itv:Value)(s2:Shared):Prop:=
 ∃ (it:Addr) (fp:List Addr) (tn:Nat->Heap->Prop) (J:It) (H':Hp),itv=.ref it/\Inv X pins σ H' s2/\Turn X.prog X.w X.K tg J fp it tn/\tn 0 s2.heap/\(∀ b∈fp,jv X pins H' b)/\R J H'
def PI(X:Cx)(tg iter:Expr)(wi:TI):Prop:=
 ∀ (pins:List (Addr×Obj)) (s:Shared) (σ:St) (H:Hp) (R:It->Hp->Prop),Inv X pins σ H s->wi σ H R ->
  wpAny (model X.prog X.w) X.A (eval iter X.env) (fun v s1=>wpAny (model X.prog X.w) X.A (pyIter v) (G7 X pins σ tg R) X.xe s1) X.xe s
theorem vJ{M:Model}{A:Around}{E:Value->Shared->Prop}{s:Shared}{tg:Expr}{it:Addr}{u:Value}{o:Obj}{n:String}{vs:Array Value}{Q:Unit->Shared->Prop}(ho:s.heap.get? it=some o)(hc:o.cls=.type n)(hd:o.data=.fields vs)
    (hn:["enumerate","zip","dict_itemiterator","dict_reverseitemiterator","odict_iterator","itertools.zip_longest","itertools.pairwise"].contains n=false) (hQ:Q () s):wpAny M A (letOwnedTupleGo tg (.ref it) u) Q E s:=by
  unfold letOwnedTupleGo
  cases tg<;>first
    | exact wpAny_pure hQ
    | (cases u<;>first
        | exact wpAny_pure hQ
        | (refine wpAny_bind (wpAny_load ho ?_)
           rw[hc,hd];show wpAny M A (if (["enumerate","zip","dict_itemiterator","dict_reverseitemiterator","odict_iterator","itertools.zip_longest","itertools.pairwise"].contains n && vs[0]? == some (rawInt _))=true then _ else _) Q E s
           rw[if_neg (by intro h;rw[hn,Bool.false_and] at h;cases h)]
           exact wpAny_pure hQ))
def qf(K:PySem.W.Frag)(a:Addr):It:=
 ⟨fun i H=>∃ xs x,bA K H a xs/\xs[i]?=some x,fun i H x H'=>H'=H/\∀ xs,bA K H a xs->xs[i]?=some x,fun i H=>∃ xs,bA K H a xs/\xs.length<=i⟩
def sF(K:PySem.W.Frag)(a:Addr):It:=
 ⟨fun i H=>∃ xs x,bj K H a xs/\xs[i]?=some x,fun i H x H'=>H'=H/\∀ xs,bj K H a xs->xs[i]?=some x,fun i H=>∃ xs,bj K H a xs/\xs.length<=i⟩
def Cs(lo:Int)(n:Nat):It:=⟨fun i _=>i < n,fun i H x H'=>H'=H/\x=.int (lo+i),fun i _=>n<=i⟩
theorem jL{P:Program}{w:World}{K:PySem.W.Frag}{tg:Expr}(a it:Addr):Turn P w K tg (qf K a) [it] it (fun i h=>h.IsListIter it a i) where
 mem:=by simp
 obj:=fun i h st b hb=>by
  have e:b=it:=by simpa using hb
  subst e;obtain⟨o,e,c,d⟩:=st;exact⟨o,e,fun v z=>by rw[d] at z;cases z⟩
 keep:=fun i h h' st k=>st.at fun o e=>k it (by simp) o e
 item:=by
  intro X hP hw hK hc i pins s σ H E I hf st hg;subst hP hw hK;obtain⟨xs,x,hq,hx⟩:=hg;obtain⟨its,rv,p,hz⟩:=I.list hq;obtain⟨u,hu,ru⟩:=rv.get hx;obtain⟨f0,f1,f2,f3,f4,f5⟩:=hf it (by simp)
  refine wpAny_pyNext_list_item st p.isList (x:=u) (by simpa using hu) fun h' st' sb=>?_
  have I1:Inv X pins σ H { s with heap:=h' }:=I.turned (t':=s.toks) (fun b o hb e=>(sb.2 b hb).trans e) f0 f1 f3 f4 f5
  obtain⟨o,e,c,d⟩:=id st';exact⟨u,rfl,vJ (s:={ s with heap:=h' }) e c d (by decide) ⟨x,H,I1,ru,⟨rfl,fun ys hy=>by rw[I.lM hy hq];exact hx⟩,st',fun b hb=>(hf b hb).1⟩⟩
 done:=by
  intro X hP hw hK hc i pins s σ H E I hf st hg;subst hP hw hK;obtain⟨xs,hq,hx⟩:=hg;obtain⟨its,rv,p,hz⟩:=I.list hq;obtain⟨f0,f1,f2,f3,f4,f5⟩:=hf it (by simp)
  have hl:=rv.length;exact wpAny_pyNext_list_end (I.ok.hd hc) st p.isList (by simp;lia) fun h' eb=>⟨rfl,I.turned (t':=s.toks) (fun b o hb e=>eb b o hb e) f0 f1 f3 f4 f5⟩
 self:=fun _ _ _ _ _ st h=>wpAny_pyIter_listiter st h
theorem hZ{P:Program}{w:World}{K:PySem.W.Frag}{tg:Expr}(a it:Addr):Turn P w K tg (sF K a) [it] it (fun i h=>h.IsTupleIter it a i) where
 mem:=by simp
 obj:=fun i h st b hb=>by
  have e:b=it:=by simpa using hb
  subst e;obtain⟨o,e,c,d⟩:=st;exact⟨o,e,fun v z=>by rw[d] at z;cases z⟩
 keep:=fun i h h' st k=>st.at fun o e=>k it (by simp) o e
 item:=by
  intro X hP hw hK hc i pins s σ H E I hf st hg;subst hP hw hK;obtain⟨xs,x,hq,hx⟩:=hg;obtain⟨its,rv,p,hz⟩:=I.tuple hq;obtain⟨u,hu,ru⟩:=rv.get hx;obtain⟨f0,f1,f2,f3,f4,f5⟩:=hf it (by simp)
  refine wpAny_pyNext_tuple_item st (show s.heap.IsTuple a its.toArray from p) (x:=u) (by simpa using hu) fun h' st' sb=>?_
  have I1:Inv X pins σ H { s with heap:=h' }:=I.turned (t':=s.toks) (fun b o hb e=>(sb.2 b hb).trans e) f0 f1 f3 f4 f5
  obtain⟨o,e,c,d⟩:=id st';exact⟨u,rfl,vJ (s:={ s with heap:=h' }) e c d (by decide) ⟨x,H,I1,ru,⟨rfl,fun ys hy=>by rw[I.gc hy hq];exact hx⟩,st',fun b hb=>(hf b hb).1⟩⟩
 done:=by
  intro X hP hw hK hc i pins s σ H E I hf st hg;subst hP hw hK;obtain⟨xs,hq,hx⟩:=hg;obtain⟨its,rv,p,hz⟩:=I.tuple hq;obtain⟨f0,f1,f2,f3,f4,f5⟩:=hf it (by simp)
  have hl:=rv.length;exact wpAny_pyNext_tuple_end (I.ok.hd hc) st (show s.heap.IsTuple a its.toArray from p) (by simp;lia) fun h' eb=>⟨rfl,I.turned (t':=s.toks) (fun b o hb e=>eb b o hb e) f0 f1 f3 f4 f5⟩
 self:=fun _ _ _ _ _ st h=>wpAny_pyIter_tupleiter st h
theorem nQ{P:Program}{w:World}{K:PySem.W.Frag}{tg:Expr}(it:Addr)(lo:Int)(n:Nat):Turn P w K tg (Cs lo n) [it] it (fun i h=>IsRangeIter h it (lo+(i:Nat)*1) ((n:Int) - (i:Nat)) 1) where
 mem:=by simp
 obj:=fun i h st b hb=>by
  have e:b=it:=by simpa using hb
  subst e;exact⟨_,st,fun v z=>by
   have z':Data.fields _=Data.cell v:=z
   cases z'⟩
 keep:=fun i h h' st k=>k it (by simp) _ st
 item:=by
  intro X hP hw hK hc i pins s σ H E I hf st hg;subst hP hw hK;obtain⟨f0,f1,f2,f3,f4,f5⟩:=hf it (by simp)
  have W:=Walks.range (prog:=X.prog) (w:=X.w) (I.ok.hd hc) it lo 1 n;refine W.item i s _ _ hg st fun v h' tk hv st' kk=>?_;obtain⟨t,rfl⟩:=hv;have I1:Inv X pins σ H { s with heap:=h',toks:=tk }:=I.turned (fun b o hb e=>kk b o (by simpa using hb) e) f0 f1 f3 f4 f5
  refine⟨_,rfl,vJ (s:={ s with heap:=h',toks:=tk }) (n:="range_iterator") st' rfl rfl (by decide) ⟨.int (lo+i),H,I1,⟨t,?_⟩,⟨rfl,rfl⟩,st',fun b hb=>(hf b hb).1⟩⟩
  rw[Int.mul_one]
 done:=by
  intro X hP hw hK hc i pins s σ H E I hf st hg;subst hP hw hK;obtain⟨f0,f1,f2,f3,f4,f5⟩:=hf it (by simp)
  exact wpAny_pyNext_range_end (I.ok.hd hc) st (by have:n<=i:=hg;lia) fun h' eb=>⟨rfl,I.turned (t':=s.toks) (fun b o hb e=>eb b o hb e) f0 f1 f3 f4 f5⟩
 self:=fun _ _ _ _ _ st h=>wpAny_pyIter_rangeiter st h
section
variable {X:Cx} {tg:Expr}
theorem ml{pins:List (Addr×Obj)}{σ:St}{H:Hp}{s:Shared}{R:It->Hp->Prop}{E:Value->Shared->Prop}{lo hi:Int}{t u v:Tok}{tk:Nat}(I:Inv X pins σ H s)(h1:-(2 ^ 62)<=lo)(h2:lo < 2 ^ 62)(h3:-(2 ^ 62)<=hi)(h4:hi < 2 ^ 62)
  (q:R (Cs lo (hi - lo).toNat) H):wpAny (model X.prog X.w) X.A (pyIter (.ref s.heap.objs.size)) (G7 X pins σ tg R) E { s with heap:=s.heap.push { cls:=.type "range",data:=.fields #[.int lo t,.int hi u,.int 1 v] },toks:=tk }:=by
 refine wpAny_pyIter_range (IsRange.new ..) (small_one h1 h2 h3 h4) ?_;have I1:Inv X pins σ H { s with heap:=s.heap.push { cls:=.type "range",data:=.fields #[.int lo t,.int hi u,.int 1 v] },toks:=tk }:=I.kept fun b o e=>Heap.get?_push_of_some _ e
 refine⟨(s.heap.push { cls:=.type "range",data:=.fields #[.int lo t,.int hi u,.int 1 v] }).objs.size,[(s.heap.push { cls:=.type "range",data:=.fields #[.int lo t,.int hi u,.int 1 v] }).objs.size],_,_,H,rfl,
  I1.kept (t':=tk) fun b o e=>Heap.get?_push_of_some _ e,nQ _ lo (hi - lo).toNat,?_,fun b hb=>?_,q⟩
 ·have e1:lo+((0:Nat):Int)*1=lo:=by simp
  have e2:(((hi - lo).toNat:Nat):Int) - ((0:Nat):Int)=Builtin.Range.rangeSize lo hi 1:=by rw[rangeSize_one];split<;>lia
  show IsRangeIter _ _ (lo+((0:Nat):Int)*1) ((((hi - lo).toNat:Nat):Int) - ((0:Nat):Int)) 1;rw[e1,e2];exact Heap.get?_push_size _ rfl
 ·have e:b=(s.heap.push { cls:=.type "range",data:=.fields #[.int lo t,.int hi u,.int 1 v] }).objs.size:=by simpa using hb
  subst e;exact I1.oo (Nat.le_refl _) (I1.aJ.fresh (Nat.le_refl _))
def tV(ta:TA):TI:=fun σ H R=>ta σ H fun vs H1=>∃ j:Int,vs=[.int j]/\-(2 ^ 62)<=j/\j < 2 ^ 62/\R (Cs 0 j.toNat) H1
def vM(ta:TA):TI:=fun σ H R=>ta σ H fun vs H1=>∃ i j:Int,vs=[.int i,.int j]/\(-(2 ^ 62)<=i/\i < 2 ^ 62/\-(2 ^ 62)<=j/\j < 2 ^ 62)/\R (Cs i (j - i).toNat) H1
theorem rf{a:Expr}{ta:TA}{p pos:Pos}(hg:Gl X "range")(hm:X.mg "range"=none)(ha:PA X [a] ta)(hs:starEach [a] X.env=[(false,eval a X.env)]:=by rfl):PI X tg (.Call (.Name "range" p) [a] [] pos) (tV ta):=by
 intro pins s σ H R I h;refine Call_ (eA I hg hm boot_range (PyProof.Rows.callWith_type1 (bJ (ha pos pins s σ H _ I h) fun us s1 ⟨vs,H1,I1,r1,q1⟩=>?_) hs rfl));obtain⟨j,e,q1,q2,q⟩:=q1;subst e
 cases r1 with
 | cons r rr =>
  cases rr;obtain⟨t,rfl⟩:=r;exact call_range_1 (ml I1 (by lia) (by lia) q1 q2 (by simpa using q))
theorem rQ{a b:Expr}{ta:TA}{p pos:Pos}(hg:Gl X "range")(hm:X.mg "range"=none)(ha:PA X [a,b] ta)(hs:starEach [a,b] X.env=[(false,eval a X.env),(false,eval b X.env)]:=by rfl)(hs2:starEach [b] X.env=[(false,eval b X.env)]:=by rfl):
  PI X tg (.Call (.Name "range" p) [a,b] [] pos) (vM ta):=by
 intro pins s σ H R I h;refine Call_ (eA I hg hm boot_range (PyProof.Rows.callWith_type1 (bJ (ha pos pins s σ H _ I h) fun us s1 ⟨vs,H1,I1,r1,q1⟩=>?_) (by rw[hs,hs2]) (by rw[hs2];rfl)))
 obtain⟨i,j,e,⟨q1,q2,q3,q4⟩,q⟩:=q1;subst e
 cases r1 with
 | cons r rr =>
  cases rr with
  | cons r' rr =>
   cases rr;obtain⟨t,rfl⟩:=r;obtain⟨t',rfl⟩:=r';exact call_range_2 (ml I1 q1 q2 q3 q4 q)
def Cb(wi:TI)(g:TG)(tb:TS):TS:=fun D σ H=>wi σ H fun J H1=>∃ W:Nat->Nat->St->Hp->Prop,(∃ m,W 0 m σ H1)/\∀ i m σ H,W i m σ H ->
 (J.stop i H/\D.nx σ H)\/(J.go i H/\∃ N:St->Hp->Prop,(∀ σ' H',N σ' H'->∃ m',m' < m/\W (i+1) m' σ' H')/\∀ x H',J.yF i H x H'->g x σ H' fun σ2 H2=>tb { D with nx:=N,ct:=N,bk:=D.nx } σ2 H2)
def iA(fp:List Addr)(h:Heap):List (Addr×Obj):=fp.filterMap fun b=>(h.get? b).map fun o=>(b,o)
theorem dJ{fp:List Addr}{h:Heap}{b:Addr}{o:Obj}(hb:b∈fp)(e:h.get? b=some o):(b,o)∈iA fp h:=List.mem_filterMap.mpr ⟨b,hb,by rw[e];rfl⟩
theorem rP{fp:List Addr}{h:Heap}{p:Addr×Obj}(hp:p∈iA fp h):p.1∈fp/\h.get? p.1=some p.2:=by
 obtain⟨b,hb,e⟩:=List.mem_filterMap.mp hp
 cases q:h.get? b with
 | none=>rw[q] at e;cases e
 | some o =>
  rw[q] at e;have e':(b,o)=p:=Option.some.inj e;subst e';exact⟨hb,q⟩
theorem Inv.pinned{pins:List (Addr×Obj)}{σ:St}{H:Hp}{s:Shared}{fp:List Addr}(I:Inv X pins σ H s)(hf:∀ b∈fp,jv X pins H b)(ho:∀ b∈fp,∃ o,s.heap.get? b=some o/\∀ v,o.data≠.cell v):Inv X (pins++iA fp s.heap) σ H s:=
 I.kI fun p hp=>(List.mem_append.mp hp).elim (fun z=>I.pin p (List.mem_append_right _ z)) fun z=>by
  obtain⟨hb,e⟩:=rP z;obtain⟨f0,f1,f2,_⟩:=hf p.1 hb;obtain⟨o,e',d⟩:=ho p.1 hb;rw[e] at e';cases e';exact⟨e,f0,f1,f2,d⟩
theorem Inv.eB{pins pl:List (Addr×Obj)}{σ:St}{H:Hp}{s:Shared}(I:Inv X (pins++pl) σ H s):Inv X pins σ H s:=I.kI fun p hp=>I.pin p (List.mem_append_right _ (List.mem_append_left _ hp))
theorem A8{iter:Expr}{body:List Stmt}{wi:TI}{g:TG}{tb:TS}{pos:Pos}(hp:PassesOwn (model X.prog X.w) X.A X.env X.xe)(hc:X.calm=true)(hi:PI X tg iter wi)(hg:PG X tg g)(hb:nr X body tb)
  (hs:∀ x,foldedSetIterable iter X.env x=pure x:=by intro _;rfl):PS X (.For tg iter body [] pos) (Cb wi g tb):=by
 intro pins s σ H D I h;refine wpAny_For (bJ (hi pins s σ H _ I h) fun v s1 h1=>bJ h1 fun itv s2 h2=>?_) hs;obtain⟨it,fp,tn,J,H2,e,I2,T,dZ,f2,W,⟨m0,w0⟩,turn⟩:=h2;subst e;have stat:∀ {H':Hp},(∀ b∈fp,H' b=none)->∀ b∈fp,jv X pins H' b:=fun hn b hb=>⟨hn b hb,(f2 b hb).2⟩;refine codeAny_forLoop_any (fun n s'=>∃ i σ' H',Inv X pins σ' H' s'/\tn i s'.heap/\(∀ b∈fp,H' b=none)/\W i n σ' H') ?_ m0 ⟨0,σ,H2,I2,dZ,fun b hb=>(f2 b hb).1,w0⟩;rintro n s3 ⟨i,σ3,H3,I3,st3,fr3,w3⟩;rcases turn i n σ3 H3 w3 with ⟨stop,qn⟩ | ⟨go,N,hN,step⟩
 ·refine wpAny_passesOwn hp (bJ (T.done X rfl rfl rfl hc i pins s3 σ3 H3 X.xe I3 (stat fr3) st3 stop) fun r s4 ⟨hr,I4⟩=>?_);subst hr;exact wpAny_execs_nil ⟨σ3,H3,I4,qn⟩
 ·refine wpAny_passesOwn hp (bJ (T.item X rfl rfl rfl hc i pins s3 σ3 H3 X.xe I3 (stat fr3) st3 go) fun r s4 ⟨u,hr,h4⟩=>?_);subst hr;refine wpAny_passesOwn hp (bJ h4 fun _ s5 ⟨x,H5,I5,r5,y5,st5,fr5⟩=>?_);have I5':=I5.pinned (stat fr5) (T.obj _ _ st5);refine wpAny_passesOwn hp (bJ (hg _ s5 σ3 H5 x u _ I5' r5 (step x H5 y5)) fun _ s6 ⟨σ6,H6,I6,q6⟩=>?_);refine wpAny_passesOwn hp (bJ (hb _ s6 σ6 H6 _ I6 q6) fun f s7 q7=>?_);have again:∀ {σ7:St} {H7:Hp},Inv X (pins++iA fp s5.heap) σ7 H7 s7->N σ7 H7->∃ m,m < n/\∃ i σ' H',Inv X pins σ' H' s7/\tn i s7.heap/\(∀ b∈fp,H' b=none)/\W i m σ' H':=fun {σ7 H7} I7 n7=>by
   obtain⟨m',hm,w7⟩:=hN σ7 H7 n7;refine⟨m',hm,i+1,σ7,H7,I7.eB,T.keep _ _ _ st5 fun b hb o e=>(I7.pin (b,o) (List.mem_append_right _ (List.mem_append_right _ (dJ hb e)))).1,fun b hb=>?_,w7⟩;obtain⟨o,e,d⟩:=T.obj _ _ st5 b hb;exact (I7.pin (b,o) (List.mem_append_right _ (List.mem_append_right _ (dJ hb e)))).2.1
  cases f with
  | next=>obtain⟨σ7,H7,I7,n7⟩:=q7;exact again I7 n7
  | cont=>obtain⟨σ7,H7,I7,n7⟩:=q7;exact again I7 n7
  | brk=>obtain⟨σ7,H7,I7,q7⟩:=q7;exact⟨σ7,H7,I7.eB,q7⟩
  | ret v=>obtain⟨x7,σ7,H7,I7,r7,q7⟩:=q7;exact⟨x7,σ7,H7,I7.eB,r7,q7⟩
end
theorem uv{K:PySem.W.Frag}{a:Addr}{xs:List V}{g:TG}{tb:TS}{D:Ends}{σ:St}{H:Hp}(Pv:Nat->St->Hp->Prop)(h0:Pv 0 σ H)(hl:∀ i σ H,i<=xs.length->Pv i σ H->bA K H a xs)
  (hs:∀ i x σ H,xs[i]?=some x->Pv i σ H->g x σ H fun σ2 H2=>tb { D with nx:=Pv (i+1),ct:=Pv (i+1),bk:=D.nx } σ2 H2) (hd:∀ σ H,Pv xs.length σ H->D.nx σ H) :
  ∃ W:Nat->Nat->St->Hp->Prop,(∃ m,W 0 m σ H)/\∀ i m σ H,W i m σ H ->
   ((qf K a).stop i H/\D.nx σ H)\/((qf K a).go i H/\∃ N:St->Hp->Prop,(∀ σ' H',N σ' H'->∃ m',m' < m/\W (i+1) m' σ' H')/\∀ x H',(qf K a).yF i H x H'->g x σ H' fun σ2 H2=>tb { D with nx:=N,ct:=N,bk:=D.nx } σ2 H2):=by
 refine⟨fun i m σ H=>m=xs.length - i/\i<=xs.length/\Pv i σ H,⟨xs.length,by simp,Nat.zero_le _,h0⟩,?_⟩
 rintro i m σ H ⟨rfl,hi,p⟩;have q:=hl i σ H hi p;by_cases hlt:i < xs.length
 ·refine .inr ⟨⟨xs,xs[i],q,by simp[hlt]⟩,Pv (i+1),fun σ' H' p'=>⟨xs.length - (i+1),by lia,rfl,hlt,p'⟩,fun x H' y=>?_⟩
  obtain⟨e,y⟩:=y;subst e;exact hs i x σ _ (y xs q) p
 ·have e:i=xs.length:=by lia
  subst e;exact .inl ⟨⟨xs,q,Nat.le_refl _⟩,hd σ H p⟩
noncomputable abbrev R2:=V->V->Hp->VK->Prop
def cJ(X:Cx)(f:Value->Value->Sem Value)(r:R2):Prop:=
 ∀ (pins:List (Addr×Obj)) (s:Shared) (σ:St) (H:Hp) (x y:V) (v u:Value) (Q:VK),Inv X pins σ H s->RelV x v->RelV y u->r x y H Q ->
  wpAny (model X.prog X.w) X.A (f v u) (EP X pins σ Q) X.xe s
def aV(X:Cx)(f:Value)(r:List V->Hp->VK->Prop):Prop:=
 ∀ (pins:List (Addr×Obj)) (s:Shared) (σ:St) (H:Hp) (xs:List V) (us:List Value) (Q:VK),Inv X pins σ H s->Vals xs us->r xs H Q ->
  wpAny (model X.prog X.w) X.A (call f us) (EP X pins σ Q) X.xe s
def FO(X:Cx)(r:V->Hp->(Bool->Hp->Prop)->Prop):Prop:=
 ∀ (pins:List (Addr×Obj)) (s:Shared) (σ:St) (H:Hp) (x:V) (v:Value) (Q:Bool->Hp->Prop),Inv X pins σ H s->RelV x v->r x H Q ->
  wpAny (model X.prog X.w) X.A (truthy v) (TP X pins σ Q) X.xe s
def sH(r:R2)(ta tb:TE):TE:=fun σ H Q=>ta σ H fun x H1=>tb σ H1 fun y H2=>r x y H2 Q
def rI(C:Int->Int->Prop)(g:Int->Int->V):R2:=fun x y H Q=>∃ i j,x=.int i/\y=.int j/\C i j/\Q (g i j) H
def y8(g:Int->Int->V):R2:=fun x y H Q=>∃ i j,x=.int i/\y=.int j/\Q (g i j) H
section
variable {X:Cx} {a b c:Expr} {ta tb tc:TE} {pos:Pos}
theorem BV(ha:PE X a ta)(hb:PE X b tb){pins:List (Addr×Obj)}{s:Shared}{σ:St}{H:Hp}{R:V->V->Hp->Prop}(I:Inv X pins σ H s)
  (h:ta σ H fun x H1=>tb σ H1 fun y H2=>R x y H2) {Q:Value->Shared->Prop} {f:Value->Value->Sem Value}
  (hf:∀ v u s2 x y H2,Inv X pins σ H2 s2->RelV x v->RelV y u->R x y H2->wpAny (model X.prog X.w) X.A (f v u) Q X.xe s2) :
  wpAny (model X.prog X.w) X.A (eval a X.env) (fun v s₁=>wpAny (model X.prog X.w) X.A (eval b X.env) (fun u s₂=>wpAny (model X.prog X.w) X.A (f v u) Q X.xe s₂) X.xe s₁) X.xe s:=by
 refine bJ (ha pins s σ H _ I h) fun v s1 ⟨x,H1,I1,r1,q1⟩=>?_;refine bJ (hb pins s1 σ H1 _ I1 q1) fun u s2 ⟨y,H2,I2,r2,q2⟩=>?_;exact hf v u s2 x y H2 I2 r1 r2 q2
theorem Du{op:Operator}{r:R2}(ho:cJ X (binaryOp op) r)(ha:PE X a ta)(hb:PE X b tb):PE X (.BinOp a op b pos) (sH r ta tb):=by
 intro pins s σ H Q I h;exact wpAny_BinOp (BV ha hb I h fun v u s2 x y H2 I2 rx ry q=>ho pins s2 σ H2 x y v u Q I2 rx ry q)
theorem E6{f:Value->Value->Sem Value}{C:Int->Int->Prop}{g:Int->Int->Int}
  (rule:∀ (i j:Int) (t u:Tok) (s:Shared) (Q:Value->Shared->Prop) (E:Value->Shared->Prop),C i j->Q (.int (g i j) s.toks) { s with toks:=s.toks+1 }->wpAny (model X.prog X.w) X.A (f (.int i t) (.int j u)) Q E s) :
  cJ X f (rI C fun i j=>.int (g i j)):=by
 intro pins s σ H x y v u Q I rx ry h;obtain⟨i,j,rfl,rfl,hc,q⟩:=h;obtain⟨t,rfl⟩:=rx;obtain⟨t',rfl⟩:=ry;exact rule i j t t' s _ _ hc ⟨.int (g i j),H,I.tok _,⟨_,rfl⟩,q⟩
theorem DM{f:Value->Value->Sem Value}{g:Int->Int->Int}
  (rule:∀ (i j:Int) (t u:Tok) (s:Shared) (Q:Value->Shared->Prop) (E:Value->Shared->Prop),Q (.int (g i j) s.toks) { s with toks:=s.toks+1 }->wpAny (model X.prog X.w) X.A (f (.int i t) (.int j u)) Q E s) :
  cJ X f (y8 fun i j=>.int (g i j)):=by
 intro pins s σ H x y v u Q I rx ry h;obtain⟨i,j,rfl,rfl,q⟩:=h;obtain⟨t,rfl⟩:=rx;obtain⟨t',rfl⟩:=ry;exact rule i j t t' s _ _ ⟨.int (g i j),H,I.tok _,⟨_,rfl⟩,q⟩
theorem AK{f:Value->Value->Sem Value}{g:Int->Int->Bool}
  (rule:∀ (i j:Int) (t u:Tok) (s:Shared) (Q:Value->Shared->Prop) (E:Value->Shared->Prop),Q (.bool (g i j)) s->wpAny (model X.prog X.w) X.A (f (.int i t) (.int j u)) Q E s) :
  cJ X f (y8 fun i j=>.bl (g i j)):=by
 intro pins s σ H x y v u Q I rx ry h;obtain⟨i,j,rfl,rfl,q⟩:=h;obtain⟨t,rfl⟩:=rx;obtain⟨t',rfl⟩:=ry;exact rule i j t t' s _ _ ⟨.bl (g i j),H,I,rfl,q⟩
def FN(i j:Int):Prop:=0<=j/\j<=1000000/\i.natAbs < 2 ^ 64
def kX(i j:Int):Prop:=(-(2 ^ 64) < i/\i < 2 ^ 64)\/(-(2 ^ 64) < j/\j < 2 ^ 64)
theorem kX.ok{i j:Int}(h:kX i j):IntMulOk i j:=by
 rcases h with ⟨h1,h2⟩ | ⟨h1,h2⟩
 ·exact .of_left (intBits_le_64 h1 h2)
 ·exact .of_right (intBits_le_64 h1 h2)
theorem tH:cJ X (binaryOp .Add) (y8 fun i j=>.int (i+j)):=DM fun _ _ _ _ _ _ _ q=>add_int q
theorem cG:cJ X (binaryOp .Sub) (y8 fun i j=>.int (i - j)):=DM fun _ _ _ _ _ _ _ q=>sub_int q
theorem A2:cJ X (binaryOp .Mult) (rI kX fun i j=>.int (i*j)):=E6 fun _ _ _ _ _ _ _ hc q=>mul_int q hc.ok
theorem dH:cJ X (binaryOp .Mod) (rI (fun _ j=>0 < j) fun i j=>.int (i % j)):=E6 fun i j _ _ _ _ _ hc q=>by
 have h1:(0:Int) < j:=hc;exact mod_int' (by lia) (by rw[Int.fmod_eq_emod_of_nonneg i (by lia)];exact q)
theorem uL:cJ X (binaryOp .Pow) (rI FN fun i j=>.int (i ^ j.toNat)):=E6 fun _ _ _ _ _ _ _ hc q=>pow_int_small hc.1 hc.2.1 hc.2.2 q
end
def C8:V->V->Bool
 | .bf,.bf=>true | .bf,.int _=>true | .int _,.bf=>true | .bf,.bl _=>true | .bl _,.bf=>true | .bf,.str _=>true | .str _,.bf=>true
 | .int _,.int _=>true | .bl _,.bl _=>true | .str _,.str _=>true | .qZ _,.qZ _=>true
 | .int _,.str _=>true | .str _,.int _=>true | .bl _,.str _=>true | .str _,.bl _=>true
 | _,_=>false
def GB:R2:=fun x y H Q=>C8 x y=true/\Q (.bl (decide (x=y))) H
def GF:R2:=fun x y H Q=>C8 x y=true/\Q (.bl (!decide (x=y))) H
theorem pL{i j:Int}:decide (V.int i=V.int j)=(i == j):=by
 rw[Bool.eq_iff_iff];simp
theorem wC{i j:Bool}:decide (V.bl i=V.bl j)=(i == j):=by
 rw[Bool.eq_iff_iff];simp
theorem pJ{i j:Str}:decide (V.str i=V.str j)=(i == j):=by
 rw[Bool.eq_iff_iff];simp
theorem qk{i j:Array UInt8}:decide (V.qZ i=V.qZ j)=(i.toList == j.toList):=by
 rw[Bool.eq_iff_iff];cases i;cases j;simp
section
variable {X:Cx} {a b c:Expr} {ta tb tc:TE} {pos:Pos}
theorem aI{pins:List (Addr×Obj)}{σ:St}{H:Hp}{s:Shared}{Q:VK}{k k':Bool}(I:Inv X pins σ H s)(q:Q (.bl k) H)(e:k=k'):EP X pins σ Q (.bool k') s:=by
 subst e;exact⟨.bl k,H,I,rfl,q⟩
theorem Ef:cJ X (compareOp .Eq) GB:=by
 intro pins s σ H x y v u Q I rx ry h;obtain⟨hs,q⟩:=h
 cases x with
 | bf =>
  cases rx
  cases y with
  | bf=>cases ry;exact PySem.EqNone.eq_none_none (aI I q (by simp))
  | bl j=>cases ry;exact PySem.EqNone.eq_none_bool (aI I q (by simp))
  | int j=>obtain⟨t',rfl⟩:=ry;exact PySem.EqNone.eq_none_int (aI I q (by simp))
  | str j=>obtain⟨t',rfl⟩:=ry;exact PySem.EqNone.eq_none_str (aI I q (by simp))
  | _=>exact absurd (show false=true from hs) Bool.false_ne_true
 | bl i =>
  cases rx
  cases y with
  | bf=>cases ry;exact PySem.EqNone.eq_bool_none (aI I q (by simp))
  | bl j=>cases ry;exact eq_bool (aI I q wC)
  | str j=>obtain⟨t',rfl⟩:=ry;exact PySem.EqMixed.eq_bool_str (aI I q (by simp))
  | _=>exact absurd (show false=true from hs) Bool.false_ne_true
 | int i =>
  obtain⟨t,rfl⟩:=rx
  cases y with
  | bf=>cases ry;exact PySem.EqNone.eq_int_none (aI I q (by simp))
  | int j=>obtain⟨t',rfl⟩:=ry;exact eq_int (aI I q pL)
  | str j=>obtain⟨t',rfl⟩:=ry;exact PySem.EqMixed.eq_int_str (aI I q (by simp))
  | _=>exact absurd (show false=true from hs) Bool.false_ne_true
 | str i =>
  obtain⟨t,rfl⟩:=rx
  cases y with
  | bf=>cases ry;exact PySem.EqNone.eq_str_none (aI I q (by simp))
  | bl j=>cases ry;exact PySem.EqMixed.eq_str_bool (aI I q (by simp))
  | int j=>obtain⟨t',rfl⟩:=ry;exact PySem.EqMixed.eq_str_int (aI I q (by simp))
  | str j=>obtain⟨t',rfl⟩:=ry;exact eq_str (aI I q pJ)
  | _=>exact absurd (show false=true from hs) Bool.false_ne_true
 | qZ i =>
  obtain⟨t,rfl⟩:=rx
  cases y with
  | qZ j=>obtain⟨t',rfl⟩:=ry;exact PySem.W.eq_bytes (aI I q qk)
  | _=>exact absurd (show false=true from hs) Bool.false_ne_true
 | _=>cases y<;>exact absurd (show false=true from hs) Bool.false_ne_true
theorem CS:cJ X (compareOp .NotEq) GF:=by
 intro pins s σ H x y v u Q I rx ry h;obtain⟨hs,q⟩:=h
 cases x with
 | bf =>
  cases rx
  cases y with
  | bf=>cases ry;exact PySem.EqNone.ne_none_none (aI I q (by simp))
  | bl j=>cases ry;exact PySem.EqNone.ne_none_bool (aI I q (by simp))
  | int j=>obtain⟨t',rfl⟩:=ry;exact PySem.EqNone.ne_none_int (aI I q (by simp))
  | str j=>obtain⟨t',rfl⟩:=ry;exact PySem.EqNone.ne_none_str (aI I q (by simp))
  | _=>exact absurd (show false=true from hs) Bool.false_ne_true
 | bl i =>
  cases rx
  cases y with
  | bf=>cases ry;exact PySem.EqNone.ne_bool_none (aI I q (by simp))
  | bl j=>cases ry;exact ne_bool (aI I q (congrArg not wC))
  | str j=>obtain⟨t',rfl⟩:=ry;exact PySem.EqMixed.ne_bool_str (aI I q (by simp))
  | _=>exact absurd (show false=true from hs) Bool.false_ne_true
 | int i =>
  obtain⟨t,rfl⟩:=rx
  cases y with
  | bf=>cases ry;exact PySem.EqNone.ne_int_none (aI I q (by simp))
  | int j=>obtain⟨t',rfl⟩:=ry;exact ne_int (aI I q (congrArg not pL))
  | str j=>obtain⟨t',rfl⟩:=ry;exact PySem.EqMixed.ne_int_str (aI I q (by simp))
  | _=>exact absurd (show false=true from hs) Bool.false_ne_true
 | str i =>
  obtain⟨t,rfl⟩:=rx
  cases y with
  | bf=>cases ry;exact PySem.EqNone.ne_str_none (aI I q (by simp))
  | bl j=>cases ry;exact PySem.EqMixed.ne_str_bool (aI I q (by simp))
  | int j=>obtain⟨t',rfl⟩:=ry;exact PySem.EqMixed.ne_str_int (aI I q (by simp))
  | str j=>obtain⟨t',rfl⟩:=ry;exact ne_str (aI I q (congrArg not pJ))
  | _=>exact absurd (show false=true from hs) Bool.false_ne_true
 | qZ i =>
  obtain⟨t,rfl⟩:=rx
  cases y with
  | qZ j=>obtain⟨t',rfl⟩:=ry;exact PySem.W.ne_bytes (aI I q (congrArg not qk))
  | _=>exact absurd (show false=true from hs) Bool.false_ne_true
 | _=>cases y<;>exact absurd (show false=true from hs) Bool.false_ne_true
theorem mL:cJ X (compareOp .Lt) (y8 fun i j=>.bl (decide (i < j))):=AK fun _ _ _ _ _ _ _ q=>lt_int q
theorem pB:cJ X (compareOp .Gt) (y8 fun i j=>.bl (decide (j < i))):=AK fun _ _ _ _ _ _ _ q=>gt_int q
theorem tW:cJ X (compareOp .GtE) (y8 fun i j=>.bl (decide (j<=i))):=AK fun _ _ _ _ _ _ _ q=>ge_int q
theorem rO:cJ X (compareOp .In) (fun x y H Q=>∃ i j,x=.str i/\y=.str j/\Q (.bl (!(Builtin.Str.occurrences j i 0 j.length 1).isEmpty)) H):=by
 intro pins s σ H x y v u Q I rx ry h;obtain⟨i,j,rfl,rfl,q⟩:=h;obtain⟨t,rfl⟩:=rx;obtain⟨t',rfl⟩:=ry;exact in_str (aI I q rfl)
theorem cJ.or{f:Value->Value->Sem Value}{r r':R2}(h:cJ X f r)(h':cJ X f r'):cJ X f (fun x y H Q=>r x y H Q\/r' x y H Q):=by
 intro pins s σ H x y v u Q I rx ry q;rcases q with q | q
 ·exact h pins s σ H x y v u Q I rx ry q
 ·exact h' pins s σ H x y v u Q I rx ry q
theorem xA{op:CmpOp}{r:R2}(ho:cJ X (compareOp op) r)(ha:PE X a ta)(hb:PE X b tb)(hm:behindInMarks op b=false):PE X (.Compare a [op] [b] pos) (sH r ta tb):=by
 intro pins s σ H Q I h;exact wpAny_Compare1 (BV ha hb I h fun v u s2 x y H2 I2 rx ry q=>ho pins s2 σ H2 x y v u Q I2 rx ry q) hm
def uy(t:TE):TT:=fun σ H Q=>t σ H fun x H'=>∃ k,x=.bl k/\Q k H'
theorem xk{op:CmpOp}{r:R2}(ho:cJ X (compareOp op) r)(ha:PE X a ta)(hb:PE X b tb)(hm:behindInMarks op b=false):PT X (.Compare a [op] [b] pos) (uy (sH r ta tb)):=by
 intro pins s σ H Q I h;refine wpAny_isTrue_Compare1 (bJ (ha pins s σ H _ I h) fun v s1 ⟨x,H1,I1,r1,q1⟩=>bJ (hb pins s1 σ H1 _ I1 q1) fun u s2 ⟨y,H2,I2,r2,q2⟩=>
  bJ (ho pins s2 σ H2 x y v u _ I2 r1 r2 q2) fun c s3 ⟨z,H3,I3,r3,k,e,q3⟩=>?_) hm
 subst e;cases r3;exact wpAny_truthy_bool ⟨H3,I3,q3⟩
def t_(K:PySem.W.Frag)(x:V)(H:Hp)(k:Bool):Prop:=
 match x with
 | .bf=>k=false
 | .bl b=>k=b
 | .int i=>k=(i != 0)
 | .str y=>y.length<=sizeLine/\k=((y.length:Int) != 0)
 | .qZ y=>y.size<=sizeLine/\k=((y.size:Int) != 0)
 | .ref p=>(∃ xs,bA K H p xs/\k=!xs.isEmpty)\/(∃ xs,bj K H p xs/\k=!xs.isEmpty)\/∃ kvs,H p=some (.dK kvs)/\k=!kvs.isEmpty
 | _=>False
theorem n9{κ:Type}{kvs:List (κ×V)}{vs:List (κ×Value)}(r:KV kvs vs):(!vs.isEmpty)=!kvs.isEmpty:=by
 cases r<;>rfl
theorem i3{xs:List V}{its:List Value}(r:Vals xs its):(!its.toArray.isEmpty)=!xs.isEmpty:=by
 cases r<;>simp
theorem eX:(sizeLine:Nat) < 2 ^ 63:=by rw[sizeLine_eq];decide
theorem Ba:FO X (fun x H Q=>∃ k,t_ X.K x H k/\Q k H):=by
 intro pins s σ H x v Q I rx h;obtain⟨k,e,q⟩:=h;have hl:=eX;have hs:sizeLine=16777216:=sizeLine_eq
 cases x with
 | bf =>
  cases rx;have e':k=false:=e;subst e';exact truthy_none ⟨H,I,q⟩
 | bl b =>
  cases rx;have e':k=b:=e;subst e';exact wpAny_truthy_bool ⟨H,I,q⟩
 | int i =>
  obtain⟨t,rfl⟩:=rx;have e':k=(i != 0):=e;subst e';exact PySem.P.truthy_int ⟨H,I,q⟩
 | str y =>
  obtain⟨t,rfl⟩:=rx;obtain⟨hy,e'⟩:y.length<=sizeLine/\k=((y.length:Int) != 0):=e;subst e';exact PySem.P.truthy_str (by lia) ⟨H,I.tok _,q⟩
 | qZ y =>
  obtain⟨t,rfl⟩:=rx;obtain⟨hy,e'⟩:y.size<=sizeLine/\k=((y.size:Int) != 0):=e;subst e';exact PySem.W.truthy_bytes (by lia) ⟨H,I.tok _,q⟩
 | ref p =>
  cases rx;have e':(∃ xs,bA X.K H p xs/\k=!xs.isEmpty)\/(∃ xs,bj X.K H p xs/\k=!xs.isEmpty)\/∃ kvs,H p=some (.dK kvs)/\k=!kvs.isEmpty:=e;rcases e' with ⟨xs,hx,e'⟩ | ⟨xs,hx,e'⟩ | ⟨kvs,hx,e'⟩
  ·subst e';obtain⟨its,r,pl,hz⟩:=I.list hx;have hlen:=r.length;exact wpAny_truthy_list pl.isList (by simp only[List.size_toArray];lia) ⟨H,I.tok _,by rw[i3 r];exact q⟩
  ·subst e';obtain⟨its,r,pl,hz⟩:=I.tuple hx;have hlen:=r.length;exact truthy_tuple pl (by simp only[List.size_toArray];lia) ⟨H,I.tok _,by rw[i3 r];exact q⟩
  ·subst e';obtain⟨hz,hS,vs,r,m⟩:kvs.length<=sizeLine/\(p == sysModules)=false/\∃ vs,KV kvs vs/\s.heap.DictOf (kH X.prog X.w) p vs:=I.aJ p _ hx;have hlen:kvs.length=vs.length:=Paired.length r;exact wpAny_truthy_dict hS m (by lia) ⟨H,I.tok _,by rw[n9 r];exact q⟩
 | _=>exact (show False from e).elim
theorem vc(ha:PE X a ta)(he:∀ whole,isTrue a X.env whole=(do let v <- whole;standAt a.pos;holding [v] (truthy v))):
  PT X a (fun σ H Q=>ta σ H fun x H'=>∃ k,t_ X.K x H' k/\Q k H'):=by
 intro pins s σ H Q I h;exact isTrue_plain (bJ (ha pins s σ H _ I h) fun v s1 ⟨x,H1,I1,r1,q1⟩=>Ba pins s1 σ H1 x v Q I1 r1 q1) (he _)
theorem g_:cJ X (binaryOp .Add) (fun x y H Q=>∃ i j,x=.str i/\y=.str j/\i.length+j.length<=sizeLine/\Q (.str (i++j)) H):=by
 intro pins s σ H x y v u Q I rx ry h;obtain⟨i,j,rfl,rfl,hz,q⟩:=h;obtain⟨t,rfl⟩:=rx;obtain⟨t',rfl⟩:=ry;exact add_str (fun t' tk=>⟨.str (i++j),H,I.tok _,⟨_,rfl⟩,q⟩) hz
theorem vals1{x:V}{us:List Value}(r:Vals [x] us):∃ u,us=[u]/\RelV x u:=by
 cases r with
 | cons r1 r2=>cases r2;exact⟨_,rfl,r1⟩
theorem vals2{x y:V}{us:List Value}(r:Vals [x,y] us):∃ u w',us=[u,w']/\RelV x u/\RelV y w':=by
 cases r with
 | cons r1 r2 =>
  cases r2 with
  | cons r3 r4=>cases r4;exact⟨_,_,rfl,r1,r3⟩
theorem rX(hc:X.calm=true):aV X (.builtin "max") (fun xs H Q=>∃ i j,xs=[.int i,.int j]/\Q (.int (if j > i then j else i)) H):=by
 intro pins s σ H xs us Q I r h;obtain⟨i,j,rfl,q⟩:=h;obtain⟨u,w',rfl,⟨t,rfl⟩,⟨t',rfl⟩⟩:=vals2 r;refine max_two_ints (I.ok.hd hc) fun h' tk k=>⟨_,H,I.kept k,?_,q⟩;by_cases hj:j > i
 ·rw[if_pos hj,if_pos hj];exact⟨_,rfl⟩
 ·rw[if_neg hj,if_neg hj];exact⟨_,rfl⟩
theorem qH(hc:X.calm=true):aV X (.builtin "min") (fun xs H Q=>∃ i j,xs=[.int i,.int j]/\Q (.int (if j < i then j else i)) H):=by
 intro pins s σ H xs us Q I r h;obtain⟨i,j,rfl,q⟩:=h;obtain⟨u,w',rfl,⟨t,rfl⟩,⟨t',rfl⟩⟩:=vals2 r;refine min_two_ints (I.ok.hd hc) fun h' tk k=>⟨_,H,I.kept k,?_,q⟩;by_cases hj:j < i
 ·rw[if_pos hj,if_pos hj];exact⟨_,rfl⟩
 ·rw[if_neg hj,if_neg hj];exact⟨_,rfl⟩
theorem jz:aV X (.type "int") (fun xs H Q=>(∃ i,xs=[.int i]/\Q (.int i) H)\/∃ k,xs=[.bl k]/\Q (.int (if k then 1 else 0)) H):=by
 intro pins s σ H xs us Q I r h;rcases h with ⟨i,rfl,q⟩ | ⟨k,rfl,q⟩
 ·obtain⟨u,rfl,t,rfl⟩:=vals1 r;exact call_int_int ⟨.int i,H,I,⟨_,rfl⟩,q⟩
 ·obtain⟨u,rfl,r1⟩:=vals1 r;cases r1;exact call_int_bool ⟨.int (if k then 1 else 0),H,I.tok _,⟨_,rfl⟩,q⟩
end
structure BC (h:Heap) (x dx C:Addr) (mA:Str->Option Value):Prop where
 obj:h.get? x=some (PySem.W.instObj C dx)
 ns:h.Ns1 dx mA
 ne:dx≠x
theorem rm{h:Heap}{dx:Addr}{mA:Str->Option Value}(n:h.Ns1 dx mA):∃ od,h.get? dx=some od/\∀ name,PySem.W.lookIn name od=some (mA name):=by
 obtain⟨o,es,ep,ho,hd,hk,_,hm⟩:=n;refine⟨o,ho,fun name=>?_⟩;have e:=hm name;unfold nsFind findBy at e;rw[<- Array.find?_toList] at e;unfold PySem.W.lookIn;rw[hd];dsimp only;split
 ·rename_i y q;rw[q] at e;exact congrArg some e
 ·rename_i q;rw[q] at e;have a:es.toList.any (·.refKey)=false:=by
   rw[List.any_eq_false];intro y hy;obtain⟨z,t,hkey⟩:=hk y (Array.mem_toList_iff.mp hy);simp[DictEntry.refKey,hkey]
  have a':¬ es.toList.any (·.refKey)=true:=by rw[a];exact Bool.false_ne_true
  rw[if_neg a'];exact congrArg some e
theorem BC.look{h:Heap}{x dx C:Addr}{mA:Str->Option Value}(I:BC h x dx C mA):∃ od,PySem.W.InstAt h x (PySem.W.instObj C dx) C (some od)/\∀ name,PySem.W.lookIn name od=some (mA name):=
 let ⟨od,ho,hl⟩:=rm I.ns
 ⟨od,⟨I.obj,rfl,rfl,ho⟩,hl⟩
section
variable {prog:Program} {w:World} {A:Around} {E:Value->Shared->Prop} {s:Shared} {K:PySem.W.Frag} {x dx C f:Addr} {mA:Str->Option Value} {name:Str} {v:Value}
end
section
variable {P:Program} {w:World} {H H':Hp} {h h':Heap} {a C dx:Addr} {fs fs':List (Str×V)}
theorem yb(aJ:eE P w H h)(e:H a=some (.ins C dx fs)):∃ mA,BC h a dx C mA/\(∀ f,Br (fs.lookup f) (mA f))/\PySem.Within mA (fs.map (·.1))/\fs.length<=1000/\H dx=some (.own a):=by
 obtain⟨d,z,ne,ob,mA,n,r,q⟩:=(show bp P w H h a (.ins C dx fs) from aJ a _ e);exact⟨mA,⟨ob,n,ne⟩,r,q,z,d⟩
end
structure FY (K:PySem.W.Frag) (C:Addr):Prop where
 pg:PySem.W.plainGet K C Str.empty=true
 hd:PySem.W.hasDictIn K C=true
 po:PySem.W.plainOver K C=true
 sa:PySem.W.findIn K (.ref C) "__setattr__"=some (some (.builtin "object.__setattr__"))
theorem FY.get{K:PySem.W.Frag}{C:Addr}(c:FY K C)(f:Str):PySem.W.plainGet K C f=true:=c.pg
section
variable {X:Cx} {pins:List (Addr×Obj)} {σ:St} {H:Hp} {s:Shared} {a C dx:Addr} {fs:List (Str×V)} {f:Str} {v:V} {A:Around} {E:Value->Shared->Prop}
end
section
variable {X:Cx} {o e value:Expr} {f:Str} {pos pos' tpos:Pos} {ta tv:TE}
end
section
variable {X:Cx} {pins:List (Addr×Obj)} {σ:St} {H:Hp} {s:Shared} {A:Around} {E:Value->Shared->Prop} {Q:Value->Shared->Prop} {c:Value} {b:Bool}
inductive fC (K:PySem.W.Frag) (H:Hp):V->Value->Prop where
 | bf:fC K H .bf (.type "NoneType")
 | bl (x:Bool):fC K H (.bl x) (.type "bool")
 | int (i:Int):fC K H (.int i) (.type "int")
 | str (x:Str):fC K H (.str x) (.type "str")
 | Cj (x:UInt64):fC K H (.Cj x) (.type "float")
 | lst {a:Addr} {xs:List V} (e:H a=some (.lst xs)):fC K H (.ref a) (.type "list")
 | eN {a:Addr} {o:Obj} {xs:List V} (e:H a=some (.eN o (.lst xs))):fC K H (.ref a) (.type "list")
 | tup {a:Addr} {xs:List V} (e:H a=some (.tup xs)):fC K H (.ref a) (.type "tuple")
 | dK {a:Addr} {kvs:List (Key×V)} (e:H a=some (.dK kvs)):fC K H (.ref a) (.type "dict")
 | dT {a:Addr} {kvs:List (List Key×V)} (e:H a=some (.dT kvs)):fC K H (.ref a) (.type "dict")
 | ins {a C dx:Addr} {fs:List (Str×V)} (e:H a=some (.ins C dx fs)) (cl:FY K C) (ha:PySem.W.findIn K (.ref C) "__class__"=some (some (.builtin "object.__class__")))
   (hn:PySem.W.specialIn K (.builtin "object.__class__") "__get__"=some (some (.builtin "getset_descriptor.__get__"))) (htk:PySem.W.takesIn K (.builtin "object.__class__")=some true)
   (hm:PySem.W.mroIn K C (.type "object")=some true):fC K H (.ref a) (.ref C)
theorem jC{x:V}{u t:Value}(I:Inv X pins σ H s)(rx:RelV x u)(ty:fC X.K H x t)(e:PySem.W.kitOne X.K t c=some b)(h:∀ tk,Q (.bool b) { s with toks:=tk }):
  wpAny (model X.prog X.w) A (call (.builtin "isinstance") [u,c]) Q E s:=by
 cases ty with
 | bf=>cases (show u=Value.none from rx);exact PySem.W.kia_one PySem.W.kitx_none I.fo True.intro e (fun z=>nomatch z) h
 | bl y=>cases (show u=Value.bool y from rx);exact PySem.W.kia_one PySem.W.kitx_bool I.fo True.intro e (fun z=>nomatch z) h
 | int i=>obtain⟨t,q⟩:=(show ∃ t,u=Value.int i t from rx);cases q;exact PySem.W.kia_one PySem.W.kitx_int I.fo True.intro e (fun z=>nomatch z) h
 | str y=>obtain⟨t,q⟩:=(show ∃ t,u=Value.str y t from rx);cases q;exact PySem.W.kia_one PySem.W.kitx_str I.fo True.intro e (fun z=>nomatch z) h
 | Cj y=>obtain⟨t,q⟩:=(show ∃ t,u=Value.float y t from rx);cases q;exact PySem.W.kia_one PySem.W.kitx_float I.fo True.intro e (fun z=>nomatch z) h
 | @lst a xs ea =>
  cases (show u=Value.ref a from rx)
  obtain⟨_,_,n,_,h1⟩:=(show bp X.prog X.w H s.heap a (.lst xs) from I.aJ a _ ea);exact PySem.W.kia_one PySem.W.kitx_list I.fo ⟨_,h1,rfl⟩ e (fun z=>nomatch z) h
 | @eN a ob xs ea =>
  cases (show u=Value.ref a from rx)
  obtain⟨_,_,_,n,_,h1⟩:=(show bp X.prog X.w H s.heap a (.eN ob (.lst xs)) from I.aJ a _ ea);exact PySem.W.kia_one PySem.W.kitx_list I.fo ⟨_,h1,rfl⟩ e (fun z=>nomatch z) h
 | @tup a xs ea =>
  cases (show u=Value.ref a from rx)
  obtain⟨_,_,_,p⟩:=(show bp X.prog X.w H s.heap a (.tup xs) from I.aJ a _ ea);obtain⟨o,h1,h2,_⟩:=p;exact PySem.W.kia_one PySem.W.kitx_tuple I.fo ⟨o,h1,h2⟩ e (fun z=>nomatch z) h
 | @dK a kvs ea =>
  cases (show u=Value.ref a from rx)
  obtain⟨_,_,vs,_,p⟩:=(show bp X.prog X.w H s.heap a (.dK kvs) from I.aJ a _ ea);obtain⟨o,es,ep,h1,h2,_⟩:=p;exact PySem.W.kia_one PySem.W.kitx_dict I.fo ⟨o,h1,h2.1⟩ e (fun z=>nomatch z) h
 | @dT a kvs ea =>
  cases (show u=Value.ref a from rx)
  obtain⟨_,_,xs,_,o,es,ep,h1,h2,_⟩:=(show bp X.prog X.w H s.heap a (.dT kvs) from I.aJ a _ ea);exact PySem.W.kia_one PySem.W.kitx_dict I.fo ⟨o,h1,h2.1⟩ e (fun z=>nomatch z) h
 | @ins a C dx fs ea cl ha hn htk hm =>
  cases (show u=Value.ref a from rx)
  obtain⟨mA,O,_⟩:=yb I.aJ ea;obtain⟨od,J,_⟩:=O.look;exact PySem.W.kia_one (PySem.W.kitx_own (cl.get _) cl.hd ha hn htk hm) I.fo J e (fun z=>nomatch z) h
end
structure bz (k:Nat) (A:Around):Prop where
 hd:A.handled=none
 dp:A.depth+3*k+5 < recursionLimit
 un:A.units+16*k+200 < cLine
 gd:A.guards=some []
theorem bz.mono{j k:Nat}{A:Around}(r:bz k A)(h:j<=k):bz j A:=⟨r.hd,by have:=r.dp;lia,by have:=r.un;lia,r.gd⟩
theorem bz.deeper{k:Nat}{A:Around}(r:bz (k+1) A)(env:Env):bz k (A.deeper env):=
 ⟨r.hd,by have:=r.dp;show A.depth+1+3*k+5 < _;lia,by have:=r.un;show A.units+3+16*k+200 < _;lia,r.gd⟩
theorem bz.in1{k:Nat}{A:Around}(r:bz (k+1) A):bz k A.in1:=
 ⟨r.hd,by have:=r.dp;show A.depth+3*k+5 < _;lia,by have:=r.un;show A.units+1+16*k+200 < _;lia,r.gd⟩
theorem bz.depth{k:Nat}{A:Around}(r:bz k A):A.depth < recursionLimit:=by have:=r.dp;lia
theorem bz.units{k:Nat}{A:Around}(r:bz k A):A.units+64 < cLine:=by have:=r.un;lia
def iS:TA:=fun _ H Q=>Q [] H
def fG(ta:TE)(tr:TA):TA:=fun σ H Q=>ta σ H fun x H1=>tr σ H1 fun xs H2=>Q (x::xs) H2
section
variable {X:Cx} {e:Expr} {es:List Expr} {te:TE} {t:TA} {pos:Pos}
theorem uG:PA X [] iS:=fun _ _ _ _ H Q I h=>Calls.spliced_nil ⟨[],H,I,.nil,h⟩
theorem pM(ha:PE X e te)(hr:PA X es t)(hs:starEach (e::es) X.env=(false,eval e X.env)::starEach es X.env:=by rfl):PA X (e::es) (fG te t):=by
 intro pos pins s σ H Q I h;rw[hs];show wpAny _ _ (spliced ((false,eval e X.env)::backTo pos (starEach es X.env))) _ _ s;refine Calls.spliced_cons (bJ (ha pins s σ H _ I h) fun u s1 ⟨x,H1,I1,r1,q1⟩=>?_);exact bJ (hr pos pins s1 σ H1 _ I1 q1) fun us s2 ⟨xs,H2,I2,r2,q2⟩=>⟨x::xs,H2,I2,.cons r1 r2,q2⟩
def Eh(t:TA):TE:=fun σ H Q=>t σ H fun xs H1=>xs.length<=sizeLine/\∀ p,H1 p=none->Q (.ref p) (upd H1 p (.tup xs))
def vG(t:TA):TE:=fun σ H Q=>t σ H fun xs H1=>xs.length<=sizeLine/\∀ p,H1 p=none->Q (.ref p) (upd H1 p (.lst xs))
theorem BF{x1}(h:PA X es t):PE X (.Tuple es x1 pos) (Eh t):=by
 intro pins s σ H Q I hq;refine wpAny_Tuple_spliced (bJ (h pos pins s σ H _ I hq) fun us s1 ⟨xs,H1,I1,r,z,q⟩=>⟨by rw[<- r.length];exact z,?_⟩)
 have hf:H1 s1.heap.objs.size=none:=I1.aJ.fresh (Nat.le_refl _);refine⟨.ref s1.heap.objs.size,upd H1 s1.heap.objs.size (.tup xs),I1.laid (t':=s1.toks) (fun b u e=>Heap.get?_push_of_some _ e) (Nat.le_refl _) ?_,rfl,q _ hf⟩;exact⟨z,us,r,⟨_,Heap.get?_push_size _ rfl,rfl,_,rfl,rfl⟩⟩
theorem zO(h:PA X es t):PE X (.List es pos) (vG t):=by
 intro pins s σ H Q I hq;refine wpAny_List_spliced (bJ (h pos pins s σ H _ I hq) fun us s1 ⟨xs,H1,I1,r,z,q⟩=>⟨by rw[<- r.length];exact z,?_⟩)
 have hf:H1 s1.heap.objs.size=none:=I1.aJ.fresh (Nat.le_refl _);refine⟨.ref s1.heap.objs.size,upd H1 s1.heap.objs.size (.lst xs),I1.laid (t':=s1.toks) (fun b u e=>Heap.get?_push_of_some _ e) (Nat.le_refl _) ?_,rfl,q _ hf⟩;exact⟨z,us,0,r,Heap.get?_push_size _ rfl⟩
end
noncomputable abbrev Sp:=List V->Hp->VK->XK->Prop
noncomputable abbrev lj:=List Env->Hp->Shared->XK->Value->Shared->Prop
structure xW (P:Program) (w:World) (K:PySem.W.Frag) (mg:Str->Option Value) (base:Heap) (A:Around) (outer:List Env) (s:Shared) (H:Hp):Prop where
 frames:A.frames=some outer
 mod:Mod K mg base
 bs:∀ b o,base.get? b=some o->s.heap.get? b=some o/\H b=none
 xH:base.objs.size<=s.heap.objs.size
 iO:s.heap.FunFrames base outer
 Cp:∀ b∈gG outer,H b=none
 aJ:eE P w H s.heap
 bare:AllBare s.gens
 tabs:TabsOk K H
def CE(outer:List Env)(P:Program)(w:World)(H:Hp)(s:Shared)(Q:VK)(u:Value)(s':Shared):Prop:=
 ∃ v H',s'.os=s.os/\AllBare s'.gens/\Un (gG outer) [] H H' s.heap s'.heap/\eE P w H' s'.heap/\RelV v u/\Q v H'
def CR(CX:lj)(outer:List Env)(P:Program)(w:World)(H:Hp)(s:Shared)(Q:VK)(E:XK)(r:Result)(s':Shared):Prop:=
 match r with
 | .ok (.ret u)=>CE outer P w H s Q u s'
 | .ok _=>False
 | .error e=>CX outer H s E e s'
structure dg (P:Program) (w:World) (K:PySem.W.Frag) (mg:Str->Option Value) (base:Heap) (CX:lj) (k:Nat) (f:Addr) (fd:FuncData) (ps:List Str) (sp:Sp):Prop where
 len:∀ vs H Q E,sp vs H Q E->vs.length=ps.length
 run:∀ (A:Around) (outer:List Env) (s:Shared) (H:Hp) (args:Args) (us:List Value) (vs:List V) (Q:VK) (E:XK),bz k A->xW P w K mg base A outer s H->BindsTo s fd args (ps.zip us)->Vals vs us->sp vs H Q E ->
  codeAny (model P w) A (.call (.ref f) args) (CR CX outer P w H s Q E) s
theorem dg.mono{P:Program}{w:World}{K:PySem.W.Frag}{mg:Str->Option Value}{base:Heap}{CX:lj}{j k:Nat}{f:Addr}{fd:FuncData}{ps:List Str}{sp:Sp}(F:dg P w K mg base CX j f fd ps sp)(h:j<=k):
  dg P w K mg base CX k f fd ps sp:=⟨F.len,fun A outer s H args us vs Q E hr=>F.run A outer s H args us vs Q E (hr.mono h)⟩
theorem dg.imp{P:Program}{w:World}{K:PySem.W.Frag}{mg:Str->Option Value}{base:Heap}{CX:lj}{k:Nat}{f:Addr}{fd:FuncData}{ps:List Str}{sp sp':Sp}(F:dg P w K mg base CX k f fd ps sp)
  (h:∀ vs H Q E,sp' vs H Q E->sp vs H Q E):dg P w K mg base CX k f fd ps sp':=
 ⟨fun vs H Q E q=>F.len vs H Q E (h _ _ _ _ q),fun A outer s H args us vs Q E hr he hb hv hs=>F.run A outer s H args us vs Q E hr he hb hv (h _ _ _ _ hs)⟩
section
variable {X:Cx} {pins:List (Addr×Obj)} {σ:St} {H:Hp} {s s':Shared}
theorem Inv.CW(I:Inv X pins σ H s):xW X.prog X.w X.K X.mg X.base X.A X.stack s H:=
 ⟨I.ok.frames,I.ok.mod,I.bs,Nat.le_trans I.ok.xH I.sz,I.stack,I.gY,I.aJ,I.bare,I.ok.tabs.un I.base⟩
theorem Inv.after{Q:VK}{u:Value}(I:Inv X pins σ H s)(h:CE X.stack X.prog X.w H s Q u s'):EP X pins σ Q u s':=by
 obtain⟨v,H',os,bare,un,aJ,r,q⟩:=h;obtain⟨hh,g,d,t,os'⟩:=s';obtain rfl:os'=s.os:=os;exact⟨v,H',I.call (h':=hh) (g':=g) (d':=d) (t':=t) (ch:=[]) un aJ bare (fun b z=>absurd z (by simp)),r,q⟩
end
def eR(sp:Sp)(dvs:List V)(E:XK)(t:TA):TE:=fun σ H Q=>t σ H fun vs H1=>sp (vs++dvs) H1 Q E
def Binds(K:PySem.W.Frag)(fd:FuncData)(ps:List Str)(ds:List Value):Prop:=
 ∀ (s:Shared) (us:List Value),K.In s.heap->(us++ds).length=ps.length->BindsTo s fd ⟨us,[]⟩ (ps.zip (us++ds))
theorem Binds.all{K:PySem.W.Frag}{fd:FuncData}{ps:List Str}(h:∀ us:List Value,us.length=ps.length->bindArgs fd ⟨us,[]⟩=pure (ps.zip us)):Binds K fd ps []:=fun s us _ hl=>by
 rw[List.append_nil] at hl ⊢;exact .of_eq (h us hl)
def Passes(CX:lj)(X:Cx)(E:XK):Prop:=∀ (pins:List (Addr×Obj)) (σ:St) (H:Hp) (s:Shared) (e:Value) (s':Shared),Inv X pins σ H s->CX X.stack H s E e s'->X.xe e s'
section
variable {X:Cx} {CX:lj} {k:Nat} {f C:Addr} {fd:FuncData} {ps:List Str} {sp:Sp} {dvs:List V} {ds:List Value} {E:XK} {x m:Str} {p pos apos:Pos} {e o:Expr} {es:List Expr} {ta:TE} {t:TA}
theorem uJ{pins:List (Addr×Obj)}{σ:St}{H:Hp}{s:Shared}{Q:VK}{us:List Value}{vs:List V}(F:dg X.prog X.w X.K X.mg X.base CX k f fd ps sp)(hr:bz k X.A)(hb:Binds X.K fd ps ds)(hd:Vals dvs ds)(hx:Passes CX X E)
  (I:Inv X pins σ H s) (r:Vals vs us) (h:sp (vs++dvs) H Q E):wpAny (model X.prog X.w) X.A (call (.ref f) us) (EP X pins σ Q) X.xe s:=by
 have r2:Vals (vs++dvs) (us++ds):=r.append hd;have hl:(us++ds).length=ps.length:=by rw[<- r2.length];exact F.len _ _ _ _ h
 refine wpAny_call (codeAny_mono (F.run X.A X.stack s H ⟨us,[]⟩ (us++ds) (vs++dvs) Q E hr I.CW (hb s us I.fo hl) r2 h) fun r s' hq=>?_)
 cases r with
 | error e=>exact hx pins σ H s e s' I hq
 | ok fl =>
  cases fl with
  | ret u=>exact I.after hq
  | next=>exact False.elim hq
  | brk=>exact False.elim hq
  | cont=>exact False.elim hq
theorem wY(F:dg X.prog X.w X.K X.mg X.base CX k f fd ps sp)(hr:bz k X.A)(hg:Gl X x)(hm:X.mg x=some (.ref f))(hk:PySem.W.keepIn X.K (.ref f)=true)(hb:Binds X.K fd ps ds)(hd:Vals dvs ds)(hx:Passes CX X E)
  (ha:PA X (e::es) t) (hdb:(x ==("__debug__":Str))=false:=by decide) (he:starEach (e::es) X.env=(false,eval e X.env)::starEach es X.env:=by rfl) (hpl:(backTo pos (starEach es X.env)).any (·.1)=false:=by rfl) :
  PE X (.Call (.Name x p) (e::es) [] pos) (eR sp dvs E t):=by
 intro pins s σ H Q I h;refine wpAny_Call_Name_kw (fE I hg hm ?_ hdb);refine PySem.W.callWith_K (h₀:=X.base) I.ok.mod.xC hk (bJ (ha pos pins s σ H _ I h) fun us s1 ⟨vs,H1,I1,r,q⟩=>⟨I1.fo,?_⟩) he hpl;exact uJ F hr hb hd hx I1 r q
theorem uq(F:dg X.prog X.w X.K X.mg X.base CX k f fd ps sp)(hr:bz k X.A)(hg:Gl X x)(hm:X.mg x=some (.ref f))(hk:PySem.W.keepIn X.K (.ref f)=true)(hb:Binds X.K fd ps ds)(hd:Vals dvs ds)(hx:Passes CX X E)
  (hdb:(x ==("__debug__":Str))=false:=by decide):PE X (.Call (.Name x p) [] [] pos) (eR sp dvs E iS):=by
 intro pins s σ H Q I h;refine wpAny_Call_Name_kw (fE I hg hm ?_ hdb);exact PySem.W.callWith_K0 I.fo hk (uJ (us:=[]) F hr hb hd hx I .nil h)
end
def PK(X:Cx)(kws:List Keyword)(t:TA):Prop:=
 ∀ (pos:Pos) (pins:List (Addr×Obj)) (s:Shared) (σ:St) (H:Hp) (Q:List V->Hp->Prop),Inv X pins σ H s->t σ H Q->wpAny (model X.prog X.w) X.A (evalAll ((backToKw pos (keywordEach kws X.env)).map (·.2))) (AP X pins σ Q) X.xe s
section
variable {X:Cx} {CX:lj} {k:Nat} {f C:Addr} {fd:FuncData} {ps ks:List Str} {sp:Sp} {E:XK} {x m:Str} {p pos apos kpos:Pos} {e o:Expr} {es:List Expr} {kws:List Keyword} {te ta:TE} {t tk:TA} {nm:Option Str}
theorem BY:PK X [] iS:=fun _ _ _ _ H Q I h=>wpAny_evalAll_nil ⟨[],H,I,.nil,h⟩
theorem yh(ha:PE X e te)(hr:PK X kws t):PK X (⟨nm,e,kpos⟩::kws) (fG te t):=by
 intro pos pins s σ H Q I h;show wpAny _ _ (evalAll ((do let v <- eval e X.env;standAt pos;pure v)::(backToKw pos (keywordEach kws X.env)).map (·.2))) _ _ s
 refine wpAny_evalAll_cons (wpAny_bind (bJ (ha pins s σ H _ I h) fun u s1 ⟨x,H1,I1,r1,q1⟩=>wpAny_bind (wpAny_standAt (wpAny_pure ?_))));exact bJ (hr pos pins s1 σ H1 _ I1 q1) fun us s2 ⟨xs,H2,I2,r2,q2⟩=>⟨x::xs,H2,I2,.cons r1 r2,q2⟩
variable {g:List Value->List Value->List Value} {gV:List V->List V->List V}
end
structure av (N P:List Str) (sc:Scope):Prop where
 kind:sc.kind=.function
 co:sc.isCoroutine=false
 gen:sc.isGenerator=false
 nd:N.Nodup
 pre:N.take P.length=P
 par:∀ x∈P,sc.names.lookup x=some .local\/sc.names.lookup x=some .cell
 Bj:∀ y∈sc.names,y.2≠.free
theorem jM{kindOf:Str->Option NameKind}{x:Str}:∀ {binds:List (Str×Value)} {m:Str->Option Value},(∀ v,(x,v)∉binds)->bindL kindOf binds m x=m x
 | [],_,_=>rfl
 | (n,v)::r,m,h=>by
  unfold bindL;rw[jM fun w hw=>h w (List.mem_cons_of_mem _ hw)];split
  ·have:x≠n:=by rintro rfl;exact h v List.mem_cons_self
   simp[this]
  ·rfl
theorem jJ{kindOf:Str->Option NameKind}{x:Str}:∀ {binds:List (Str×Value)} {m:Str->Option Value},(∀ v,(x,v)∉binds)->bindC kindOf binds m x=m x
 | [],_,_=>rfl
 | (n,v)::r,m,h=>by
  unfold bindC;rw[jJ fun w hw=>h w (List.mem_cons_of_mem _ hw)];split
  ·rfl
  ·have:x≠n:=by rintro rfl;exact h v List.mem_cons_self
   simp[this]
theorem jS{kindOf:Str->Option NameKind}{x:Str}{v:Value}:∀ {P:List Str} {vs:List Value} {i:Nat} {m:Str->Option Value},P.Nodup->P[i]?=some x->vs[i]?=some v->kindOf x=some .local ->
  bindL kindOf (P.zip vs) m x=some v
 | [],_,_,_,_,h,_,_=>by simp at h
 | _::_,[],_,_,_,_,h,_=>by simp at h
 | p::P,w::vs,0,m,nd,h1,h2,hk=>by
  simp at h1 h2;subst h1;subst h2;show bindL kindOf ((p,w)::P.zip vs) m p=_;unfold bindL;rw[jM fun v hv=>(List.nodup_cons.mp nd).1 (List.of_mem_zip hv).1,if_pos hk];simp
 | p::P,w::vs,i+1,m,nd,h1,h2,hk=>by
  show bindL kindOf ((p,w)::P.zip vs) m x=_;unfold bindL;exact jS (i:=i) (List.nodup_cons.mp nd).2 (by simpa using h1) (by simpa using h2) hk
theorem jG{kindOf:Str->Option NameKind}{x:Str}{v:Value}:∀ {P:List Str} {vs:List Value} {i:Nat} {m:Str->Option Value},P.Nodup->P[i]?=some x->vs[i]?=some v->kindOf x≠some .local ->
  bindC kindOf (P.zip vs) m x=some v
 | [],_,_,_,_,h,_,_=>by simp at h
 | _::_,[],_,_,_,_,h,_=>by simp at h
 | p::P,w::vs,0,m,nd,h1,h2,hk=>by
  simp at h1 h2;subst h1;subst h2;show bindC kindOf ((p,w)::P.zip vs) m p=_;unfold bindC;rw[jJ fun v hv=>(List.nodup_cons.mp nd).1 (List.of_mem_zip hv).1,if_neg hk];simp
 | p::P,w::vs,i+1,m,nd,h1,h2,hk=>by
  show bindC kindOf ((p,w)::P.zip vs) m x=_;unfold bindC;exact jG (i:=i) (List.nodup_cons.mp nd).2 (by simpa using h1) (by simpa using h2) hk
def start(N:List Str)(vs:List V):St:=vs.map some++List.replicate (N.length - vs.length) none
def fh(CX:lj)(P:Program)(w:World)(K:PySem.W.Frag)(mg:Str->Option Value)(base:Heap)(N:List Str)(qual:Str)(scope:Scope)(f:Addr)(cd:Value)(A:Around)(outer:List Env)(s:Shared)(H:Hp)(E:XK):Cx where
 prog:=P
 w:=w
 K:=K
 mg:=mg
 base:=base
 A:=A.deeper (envOfC qual scope s.heap.objs.size f cd)
 N:=N
 s₀:=s
 H₀:=H
 env:=envOfC qual scope s.heap.objs.size f cd
 outer:=outer
 stack:=envOfC qual scope s.heap.objs.size f cd::outer
 ex:=[]
 calm:=true
 fn:=fun _=>true
 pn:=[]
 xe:=fun e s'=>wpAny (model P w) (A.deeper (envOfC qual scope s.heap.objs.size f cd)) (leaving (envOfC qual scope s.heap.objs.size f cd) e) (fun _ s''=>CX outer H s E e s'') (fun e' s''=>CX outer H s E e' s'') s'
theorem lO{sc:Scope}{n:Nat}{x:Str}(h:sc.names.lookup x=some .cell):∃ c,(cellsFrom n sc.names []).lookup x=some c:=by
 have q:=PySem.W.cellsFrom_some sc.names n [] (.inl h);exact Option.isSome_iff_exists.mp q
theorem r9{CX:lj}{P:Program}{w:World}{K:PySem.W.Frag}{mg:Str->Option Value}{base:Heap}{N ps:List Str}{qual:Str}{scope:Scope}{f:Addr}{cd:Value}{A:Around}{outer:List Env}{s s1:Shared}{H:Hp}{E:XK}{us:List Value}{vs:List V}
  (S:av N ps scope) (hd:A.handled=none) (e0:xW P w K mg base A outer s H) (hl:vs.length=ps.length) (r:Vals vs us)
  (x:InCallC s s.heap.objs.size (bindL (envOfC qual scope s.heap.objs.size f cd).kindOf (ps.zip us) fun _=>none) (cellsFrom (s.heap.objs.size+1) scope.names []) (bindC (envOfC qual scope s.heap.objs.size f cd).kindOf (ps.zip us) fun _=>none) s1) :
  Inv (fh CX P w K mg base N qual scope f cd A outer s H E) [] (start N vs) H s1:=by
 have hpl:ps.length<=N.length:=by have:=congrArg List.length S.pre;rw[List.length_take] at this;lia
 obtain⟨h1,tk,rfl,hk⟩:=x.done;have noA:∀ b:Addr,b∉(fh CX P w K mg base N qual scope f cd A outer s H E).ex:=fun b z=>absurd (show b∈([]:List Addr) from z) (by simp)
 refine⟨⟨e0.mod,S.kind,rfl,rfl,Nat.le_refl _,fun y z c h1 h2=>?_,fun y hy=>?_,fun y c _ h=>?_,fun _=>hd,Around.frames_deeper e0.frames,.inr ⟨rfl,rfl⟩,fun b z=>absurd z (noA b),e0.bs,e0.xH,fun b _ _=>noA b,fun b z=>absurd z (noA b),e0.iO,e0.Cp,e0.tabs⟩,
  rfl,e0.bare,Un.kept hk,⟨_,x.toInCall.ns,fun i y v h1 h2 h3=>?_⟩,fun y c h=>⟨_,x.cell y c h⟩,e0.aJ.fresh (Nat.le_refl _),fun y c h=>?_,fun p hp=>absurd (show p∈([]:List (Addr×Obj)) from hp) (by simp),e0.aJ.kept hk,?_⟩
 ·exact name_of_addr x.apart (PySem.mem_of_lookup h1) (PySem.mem_of_lookup h2)
 ·have hy:scope.names.lookup y=some .cell\/scope.names.lookup y=some .free:=hy;rcases hy with hy | hy
  ·exact lO hy
  ·exact absurd rfl (S.Bj _ (PySem.mem_of_lookup hy))
 ·exact Nat.le_of_lt (x.above y c (PySem.mem_of_lookup h))
 ·have hi:i < vs.length:=by
   unfold start at h2;by_cases hi:i < vs.length
   ·exact hi
   ·rw[List.getElem?_append_right (by simpa using hi)] at h2
    rw[List.getElem?_replicate] at h2
    split at h2<;>cases h2
  have ha:vs[i]?=some v:=by
   unfold start at h2;rw[List.getElem?_append_left (by simpa using hi),List.getElem?_map] at h2
   cases e:vs[i]? with
   | none=>rw[e] at h2;cases h2
   | some a=>rw[e] at h2;cases h2;rfl
  obtain⟨u,hu,rv⟩:=r.get ha;have hp:ps[i]?=some y:=by
   rw[<- S.pre,List.getElem?_take_of_lt (by lia)];exact h1
  have ndP:ps.Nodup:=by rw[<- S.pre];exact S.nd.sublist (List.take_sublist _ _)
  refine⟨u,rv,?_⟩;rcases S.par y (List.mem_of_getElem? hp) with k | k
  ·exact .inl ⟨k,jS ndP hp hu k⟩
  ·obtain⟨c,e⟩:=lO (n:=s.heap.objs.size+1) k;refine .inr ⟨.inl k,c,e,?_⟩;have q:=x.cell y c e;rw[jG ndP hp hu (by show scope.names.lookup y≠_;rw[k];decide)] at q
   exact q
 ·exact e0.aJ.fresh (Nat.le_of_lt (x.above y c (PySem.mem_of_lookup h)))
 ·unfold start;show _=N.length;rw[List.length_append,List.length_map,List.length_replicate];lia
theorem zD{CX:lj}{P:Program}{w:World}{K:PySem.W.Frag}{mg:Str->Option Value}{base:Heap}{k:Nat}{f:Addr}{name qual:Str}{params:Arguments}{body:List Stmt}{scope:Scope}{dV kV doc pm cdv ct oc:Value}{an od:Option Addr}
  {osl:Array (Option Value)} {N ps:List Str} {sp:Sp} (lk:K.lookup f=some ⟨oc,od,.func (PySem.W.fnOf name qual params body scope dV kV doc pm an cdv ct),osl⟩) (hcd:PySem.W.codeIn K cdv qual=true) (S:av N ps scope)
  (len:∀ vs H Q E,sp vs H Q E->vs.length=ps.length)
  (hbody:∀ (A:Around) (outer:List Env) (s:Shared) (H:Hp) (vs:List V) (Q:VK) (E:XK),bz k (A.deeper (envOfC qual scope s.heap.objs.size f cdv))->sp vs H Q E ->
   ∃ t,nr (fh CX P w K mg base N qual scope f cdv A outer s H E) body t/\t { nx:=fun _ H'=>Q .bf H',rt:=Q } (start N vs) H) :
  dg P w K mg base CX (k+1) f (PySem.W.fnOf name qual params body scope dV kV doc pm an cdv ct) ps sp:=by
 refine⟨len,fun A outer s H args us vs Q E hr e0 hb r hsp=>?_⟩;have hl:=len _ _ _ _ hsp;have KX:K.In s.heap:=e0.mod.xC.keeps fun b o e=>(e0.bs b o e).1;have lim:s.heap.NoLimit:=e0.mod.nolimit.keeps fun b o e=>(e0.bs b o e).1;have hkind:∀ y∈ps.zip us,scope.names.lookup y.1=some .local\/(scope.names.lookup y.1=some .cell/\((cellsFrom (s.heap.objs.size+1) scope.names []).lookup y.1).isSome=true):=fun⟨n,v⟩ hy=>by
  rcases S.par n (List.of_mem_zip hy).1 with q | q
  ·exact .inl q
  ·exact .inr ⟨q,PySem.W.cellsFrom_some _ _ _ (.inl q)⟩
 refine codeAny_call_function hr.depth (KX _ _ lk) rfl S.co S.gen rfl (PySem.W.codeRec_of KX hcd) (hb _ _ _ _ ?_);refine wpAny_newFunctionEnv_cells S.kind hkind fun env he s1 x=>?_;subst he;refine⟨lim.keeps x.toInCall.keep,codeAny_func ?_⟩;obtain⟨t,ht,hq⟩:=hbody A outer s H vs Q E (hr.deeper _) hsp;have I:Inv (fh CX P w K mg base N qual scope f cdv A outer s H E) [] (start N vs) H s1:=r9 S hr.hd e0 hl r x;refine wpAny_mono (ht [] s1 (start N vs) H _ I hq) (fun fl s' hs=>?_) fun e s' hs=>hs;have fin:∀ {σ':St} {H':Hp} {v:V} {u:Value},Inv (fh CX P w K mg base N qual scope f cdv A outer s H E) [] σ' H' s'->RelV v u->Q v H'->CE outer P w H s Q u s':=
  fun {σ' H' v u} J rv q=>⟨v,H',J.os,J.bare,J.base,J.aJ,rv,q⟩
 cases fl with
 | ret u =>
  obtain⟨v,σ',H',J,rv,q⟩:=hs;exact fin J rv q
 | next =>
  obtain⟨σ',H',J,q⟩:=hs;exact fin (v:=V.bf) (u:=Value.none) J rfl q
 | brk =>
  obtain⟨_,_,_,q⟩:=hs;exact False.elim q
 | cont =>
  obtain⟨_,_,_,q⟩:=hs;exact False.elim q
section
variable {X:Cx} {x:Str} {p pos:Pos} {e:Expr} {es:List Expr} {t:TA} {id T:String} {r:List V->Hp->VK->Prop}
def sy(r:List V->Hp->VK->Prop)(t:TA):TE:=fun σ H Q=>t σ H fun vs H1=>r vs H1 Q
theorem sL(hc:aV X (.builtin id) r)(hg:Gl X x)(hm:X.mg x=none)(hv:bootBuiltins x=some (.builtin id))(ha:PA X (e::es) t)(hn:x≠"__name__":=by decide)(hdb:(x ==("__debug__":Str))=false:=by decide)
  (he:starEach (e::es) X.env=(false,eval e X.env)::starEach es X.env:=by rfl) (hpl:(backTo pos (starEach es X.env)).any (·.1)=false:=by rfl):PE X (.Call (.Name x p) (e::es) [] pos) (sy r t):=by
 intro pins s σ H Q I h;refine wpAny_Call_Name_kw (eA I hg hm hv ?_ hn hdb);exact PyProof.Rows.callWith_builtin1 (bJ (ha pos pins s σ H _ I h) fun us s1 ⟨vs,H1,I1,r1,q1⟩=>hc pins s1 σ H1 vs us Q I1 r1 q1) he hpl
theorem rn(hc:aV X (.type T) r)(hg:Gl X x)(hm:X.mg x=none)(hv:bootBuiltins x=some (.type T))(ha:PA X (e::es) t)(hn:x≠"__name__":=by decide)(hdb:(x ==("__debug__":Str))=false:=by decide)
  (he:starEach (e::es) X.env=(false,eval e X.env)::starEach es X.env:=by rfl) (hpl:(backTo pos (starEach es X.env)).any (·.1)=false:=by rfl):PE X (.Call (.Name x p) (e::es) [] pos) (sy r t):=by
 intro pins s σ H Q I h;refine wpAny_Call_Name_kw (eA I hg hm hv ?_ hn hdb);exact PyProof.Rows.callWith_type1 (bJ (ha pos pins s σ H _ I h) fun us s1 ⟨vs,H1,I1,r1,q1⟩=>hc pins s1 σ H1 vs us Q I1 r1 q1) he hpl
end
end L2
namespace HT
open PySem PyProof.Rows
section
open PySem.SeqAt
open PySem.AutoSeq1 (wpAny_loadPart')
open PySem.MeetsSeq PySem.MeetsSeq2 PySem.MeetsSeq3
end
section
variable {prog:Program} {w:World} {A:Around} {E:Value->Shared->Prop} {s:Shared}
theorem x9{t b:Addr}{vs ws:List Value}{Q:Value->Shared->Prop}(ht:IsTup s.heap t vs.toArray)(hb:IsTup s.heap b ws.toArray)(hv:vs≠[])
  (h1:ws=[]->Q (.ref t) s) (h2:ws≠[]->Q (.ref s.heap.objs.size) { s with heap:=s.heap.push { cls:=.type "tuple",data:=.seq (vs++ws).toArray } })
  (hsz:vs.length+ws.length<=sizeLine):wpAny (model prog w) A (binaryOp .Add (.ref t) (.ref b)) Q E s:=by
 obtain⟨⟨cls,dd,data,sl⟩,ho,hc,n,hd⟩:=id ht;obtain⟨⟨cls2,dd2,data2,sl2⟩,ho2,hc2,n2,hd2⟩:=id hb;simp only at hc hd hc2 hd2;subst hc hd hc2 hd2;have e:vs.toArray++ws.toArray=(vs++ws).toArray:=by simp
 by_cases hw:ws=[]
 ·exact concat_meets ⟨_,ho,rfl⟩ ⟨_,ho2,rfl⟩ noFill_tuple_add seq_tuple_add PySem.F.slot_tuple_add PySem.F.entry_tuple_add (PySem.F.args_tuple_add_2 _ _)
   (tuple_addW1 t b vs.toArray ws.toArray n n2 dd dd2 sl sl2 (by simpa using hv) (by simp[hw])) ⟨ho,ho2,h1 hw⟩
 ·refine concat_meets ⟨_,ho,rfl⟩ ⟨_,ho2,rfl⟩ noFill_tuple_add seq_tuple_add PySem.F.slot_tuple_add PySem.F.entry_tuple_add (PySem.F.args_tuple_add_2 _ _)
   (tuple_addW2 t b vs.toArray ws.toArray n n2 dd dd2 sl sl2 (by simpa using hv) (by simpa using hw) (by rw[List.size_toArray,List.size_toArray];exact hsz)) ⟨ho,ho2,?_⟩
  rw[e];exact h2 hw
def b7(n d:Nat):Option Int->Nat
 | none=>d
 | some v=>if v < 0 then (v+(n:Int)).toNat else min v.toNat n
theorem fI(n d:Nat):b7 n d none=d:=rfl
theorem gR(n d k:Nat):b7 n d (some (k:Int))=min k n:=by
 show (if (k:Int) < 0 then ((k:Int)+(n:Int)).toNat else min (k:Int).toNat n)=min k n
 rw[if_neg (by lia),Int.toNat_natCast]
theorem mV(n d:Nat)(hd:d<=n)(o:Option Int):b7 n d o<=n:=by
 cases o with
 | none=>exact hd
 | some v =>
  show (if v < 0 then (v+(n:Int)).toNat else min v.toNat n)<=n
  by_cases hv:v < 0
  ·rw[if_pos hv];lia
  ·rw[if_neg hv];exact Nat.min_le_right _ _
theorem p_(v:Int)(n d:Nat):(if v < 0 then max (v+(n:Int)) 0 else min v (n:Int))=((b7 n d (some v):Nat):Int):=by
 show (if v < 0 then max (v+(n:Int)) 0 else min v (n:Int))=(((if v < 0 then (v+(n:Int)).toNat else min v.toNat n):Nat):Int)
 by_cases hv:v < 0
 ·simp only[if_pos hv];lia
 ·simp only[if_neg hv];lia
theorem nK(lo hi:Option Int)(n:Nat):Builtin.Slice.sliceAdjust lo hi 1 (n:Int)=(((b7 n 0 lo:Nat):Int),((b7 n n hi:Nat):Int)):=by
 have h1:¬ ((1:Int) < 0):=by lia
 unfold Builtin.Slice.sliceAdjust;simp only[h1,if_false];refine Prod.ext ?_ ?_
 ·cases lo with
  | none=>rfl
  | some v=>exact p_ v n 0
 ·cases hi with
  | none=>rfl
  | some v=>exact p_ v n n
theorem nU(i j:Nat):Builtin.Slice.slicePlaces (i:Int) (j:Int) 1=j - i:=by
 unfold Builtin.Slice.slicePlaces;have h1:(1:Int) > 0:=by lia
 simp only[h1,if_true,Int.ediv_one]
 split<;>lia
theorem hC{v:Value}{o:Option Int}{Q:Option Int->Shared->Prop}(p:IsPart v o)(h:Q o s):wpAny (model prog w) A (Builtin.Slice.slicePartIndex v) Q E s:=by
 cases p with
 | none=>exact slicePart_none h
 | int i t=>exact slicePart_int h
theorem dz{sl:Addr}{vl vu:Value}{lo hi:Option Int}{n:Nat}{Q:Int×Int×Nat->Shared->Prop}(hs:s.heap.IsSliceOf sl vl vu .none)(pl:IsPart vl lo)(pu:IsPart vu hi)
  (h:Q (((b7 n 0 lo:Nat):Int),1,b7 n n hi - b7 n 0 lo) s):wpAny (model prog w) A (Builtin.Slice.sliceApplied (.ref sl) (pure (n:Int))) Q E s:=by
 obtain⟨os,hos,hcs,hds⟩:=id hs;unfold Builtin.Slice.sliceApplied Builtin.Slice.sliceFields;refine wpAny_bind (wpAny_bind (wpAny_field hos hds (x:=vl) rfl (wpAny_bind (wpAny_field hos hds (x:=vu) rfl (wpAny_bind (wpAny_field hos hds (x:=.none) rfl (wpAny_pure ?_)))))));refine wpAny_bind (slicePart_none ?_);show wpAny _ _ (if ((1:Int) == 0)=true then _ else _) _ _ s
 rw[if_neg (by decide)]
 refine wpAny_bind (hC pl (wpAny_bind (hC pu (wpAny_bind (wpAny_pure ?_)))));show wpAny _ _ (match Builtin.Slice.sliceAdjust lo hi 1 (n:Int) with | (lo,hi)=>pure (lo,(1:Int),Builtin.Slice.slicePlaces lo hi 1)) _ _ s
 rw[nK lo hi n];show wpAny _ _ (pure (((b7 n 0 lo:Nat):Int),(1:Int),Builtin.Slice.slicePlaces ((b7 n 0 lo:Nat):Int) ((b7 n n hi:Nat):Int) 1)) _ _ s;rw[nU];exact wpAny_pure h
theorem vT(xs:Array Value)(i k:Nat):((List.range k).filterMap fun (m:Nat)=>xs[((i:Int)+(m:Int)*1).toNat]?).toArray=((xs.toList.drop i).take k).toArray:=by
 have e:(fun (m:Nat)=>xs[((i:Int)+(m:Int)*1).toNat]?)=fun m=>xs[i+m]?:=by
  funext m
  have:((i:Int)+(m:Int)*1).toNat=i+m:=by lia
  rw[this]
 rw[e];have:=pick_run xs i k;rw[List.filterMap_map] at this;have e2:((fun x=>xs[x]?) ∘ fun x=>i+x)=fun m=>xs[i+m]?:=rfl;rw[e2] at this;rw[this]
theorem fJ{t sl:Addr}{items:Array Value}{vl vu:Value}{lo hi:Option Int}{Q:Value->Shared->Prop}(ht:IsTup s.heap t items)(hs:s.heap.IsSliceOf sl vl vu .none)(pl:IsPart vl lo)(pu:IsPart vu hi)
  (hw:¬ (b7 items.size 0 lo=0/\b7 items.size items.size hi=items.size))
  (h:Q (.ref s.heap.objs.size) { s with heap:=s.heap.push { cls:=.type "tuple",data:=.seq ((items.toList.drop (b7 items.size 0 lo)).take (b7 items.size items.size hi - b7 items.size 0 lo)).toArray } })
  (hsz:items.size<=sizeLine):wpAny (model prog w) A (getItem (.ref t) (.ref sl)) Q E s:=by
 have htake:sizeOk (.seq ((items.toList.drop (b7 items.size 0 lo)).take (b7 items.size items.size hi - b7 items.size 0 lo)).toArray):=by
  show ((items.toList.drop (b7 items.size 0 lo)).take (b7 items.size items.size hi - b7 items.size 0 lo)).toArray.size<=sizeLine;rw[List.size_toArray,List.length_take,List.length_drop,Array.length_toList];exact Nat.le_trans (Nat.min_le_right _ _) (Nat.le_trans (Nat.sub_le _ _) hsz)
 have hj:b7 items.size items.size hi<=items.size:=mV _ _ (Nat.le_refl _) hi;obtain⟨os,hos,hcs,hds⟩:=id hs;have hTs:s.TypeIs (.ref sl) "slice":=⟨os,hos,hcs⟩;unfold getItem
 try with_reducible refine wpAny_holding ?_
 first | refine wpAny_bind (wpAny_pure ?_) | skip
 refine wpAny_bind (wpAny_sequenceKey ht.typeIs (by decide) ?_)
 refine wpAny_bind (wpAny_callSpecial?_slot (name:=Str.ofString "__getitem__") ht.typeIs PyProof.Rows.slot_tuple_getitem
  (wpAny_call_entry PyProof.Rows.slot_tuple_getitem ht.typeIs entry_tuple_getitem ?_ (args_tuple_getitem _ _)))
 show wpAny _ _ (Builtin.Tuple.tupleItemsOf (.ref t) >>= _) _ _ s;refine wpAny_bind (tupleItemsOf_ ht ?_);refine wpAny_bind (wpAny_typeOf hTs ?_);rw[if_pos (by decide)]
 refine wpAny_bind (dz hs pl pu ?_);have hno:¬ ((((b7 items.size 0 lo:Nat):Int) == 0 && (1:Int) == 1 && (b7 items.size items.size hi - b7 items.size 0 lo) == items.size)=true):=by
  intro q;rw[Bool.and_eq_true,Bool.and_eq_true] at q;have q1:((b7 items.size 0 lo:Nat):Int)=0:=eq_of_beq q.1.1;have q2:b7 items.size items.size hi - b7 items.size 0 lo=items.size:=eq_of_beq q.2;exact hw ⟨by lia,by lia⟩
 show wpAny _ _ (if (((b7 items.size 0 lo:Nat):Int) == 0 && (1:Int) == 1 && (b7 items.size items.size hi - b7 items.size 0 lo) == items.size)=true then _ else _) _ _ s
 rw[if_neg hno,vT]
 first
  | exact wpAny_bind (m:=Builtin.Tuple.tupleExact _) (wpAny_newObj_type (wpAny_pure ⟨_,rfl,wpAny_pure h⟩) htake)
  | exact wpAny_bind (m:=Builtin.Tuple.tupleExact _) (wpAny_newObj_type (wpAny_bind (wpAny_pure (wpAny_pure ⟨_,rfl,wpAny_pure h⟩))) htake)
  | exact wpAny_bind (wpAny_bind (m:=Builtin.Tuple.tupleExact _) (wpAny_newObj_type (wpAny_pure (wpAny_pure ⟨_,rfl,wpAny_pure h⟩)) htake))
  | exact wpAny_bind (wpAny_bind (m:=Builtin.Tuple.tupleExact _) (wpAny_newObj_type (wpAny_pure ⟨_,rfl,wpAny_pure h⟩) htake))
end
end HT
namespace L2
open PySem PySem.Spec PyProof.Rows
noncomputable abbrev TO:=St->Hp->(Option Int->Hp->Prop)->Prop
def PO(X:Cx)(e:Option Expr)(t:TO):Prop:=
 ∀ (pins:List (Addr×Obj)) (s:Shared) (σ:St) (H:Hp) (Q:Option Int->Hp->Prop),Inv X pins σ H s->t σ H Q ->
  wpAny (model X.prog X.w) X.A (evalPart e X.env) (fun u s'=>∃ o H',Inv X pins σ H' s'/\IsPart u o/\Q o H') X.xe s
def oX:TO:=fun _ H Q=>Q none H
def zH(t:TE):TO:=fun σ H Q=>t σ H fun x H1=>∃ i,x=.int i/\Q (some i) H1
theorem intsAre_of{ns:List Int}:∀ {us:List Value},Vals (ns.map V.int) us->IntsAre us ns:=by
 induction ns with
 | nil=>intro us r;rw[List.map_nil] at r;cases r;exact .nil
 | cons n ns ih =>
  intro us r;rw[List.map_cons] at r
  cases r with
  | cons r1 r2 =>
   obtain⟨t,e⟩:=r1;subst e;exact .cons n t (ih r2)
section
variable {X:Cx} {e:Expr} {te:TE} {lo hi:Option Expr} {tl th:TO} {pos p2:Pos}
theorem qm:PO X none oX:=by
 intro pins s σ H Q I h;rw[evalPart_none];exact wpAny_pure ⟨none,H,I,.none,h⟩
theorem kO(h:PE X e te):PO X (some e) (zH te):=by
 intro pins s σ H Q I hw;rw[evalPart_some];refine bJ (h pins s σ H _ I hw) fun u s1 ⟨x,H1,I1,r1,q1⟩=>?_;obtain⟨i,rfl,q⟩:=q1;obtain⟨t,rfl⟩:=r1;exact⟨some i,H1,I1,.int i t,q⟩
def su(X:Cx)(r:V->Option Int->Option Int->Hp->VK->Prop):Prop:=
 ∀ (pins:List (Addr×Obj)) (s:Shared) (σ:St) (H:Hp) (x:V) (v vl vu:Value) (lo hi:Option Int) (sl:Addr) (Q:VK),Inv X pins σ H s->RelV x v->s.heap.IsSliceOf sl vl vu .none->IsPart vl lo->IsPart vu hi->r x lo hi H Q ->
  ∃ T id,typeLookup (.type T) "__getitem__"=pure (some (.builtin id))/\s.TypeIs v T/\wpAny (model X.prog X.w) X.A (getItem v (.ref sl)) (EP X pins σ Q) X.xe s
theorem su.or{r r':V->Option Int->Option Int->Hp->VK->Prop}(h:su X r)(h':su X r'):su X (fun x lo hi H Q=>r x lo hi H Q\/r' x lo hi H Q):=by
 intro pins s σ H x v vl vu lo hi sl Q I rx hs pl pu q;rcases q with q | q
 ·exact h pins s σ H x v vl vu lo hi sl Q I rx hs pl pu q
 ·exact h' pins s σ H x v vl vu lo hi sl Q I rx hs pl pu q
def G3(r:V->Option Int->Option Int->Hp->VK->Prop)(te:TE)(tl th:TO):TE:=fun σ H Q=>te σ H fun x H1=>tl σ H1 fun l H2=>th σ H2 fun u H3=>r x l u H3 Q
theorem vD{r:V->Option Int->Option Int->Hp->VK->Prop}(hr:su X r)(he:PE X e te)(hl:PO X lo tl)(hu:PO X hi th):PE X (.Subscript e (.Slice lo hi none p2) pos) (G3 r te tl th):=by
 intro pins s σ H Q I h;refine Subscript_ (bJ (he pins s σ H _ I h) fun v s1 ⟨x,H1,I1,r1,q1⟩=>?_);refine wpAny_Slice (bJ (hl pins s1 σ H1 _ I1 q1) fun vl s2 ⟨l,H2,I2,pl,q2⟩=>bJ (hu pins s2 σ H2 _ I2 q2) fun vu s3 ⟨u,H3,I3,pu,q3⟩=>?_);rw[evalPart_none];refine wpAny_pure ?_;have I4:Inv X pins σ H3 { s3 with heap:=s3.heap.push { cls:=.type "slice",data:=.fields #[vl,vu,.none] } }:=I3.kept (t':=s3.toks) fun b ob q=>Heap.get?_push_of_some _ q
 obtain⟨T,id,hT,ht,hg⟩:=hr pins { s3 with heap:=s3.heap.push { cls:=.type "slice",data:=.fields #[vl,vu,.none] } } σ H3 x v vl vu l u s3.heap.objs.size Q I4 r1 (Heap.IsSliceOf.new ..) pl pu q3
 show wpAny (model X.prog X.w) X.A (subscriptTail e (.Slice lo hi none p2) v (.ref s3.heap.objs.size)) (EP X pins σ Q) X.xe { s3 with heap:=s3.heap.push { cls:=.type "slice",data:=.fields #[vl,vu,.none] } }
 exact tail_any (ops:=[.ref s3.heap.objs.size,v]) ht hT hg (by with_unfolding_all rfl)
def kP(xs:List V)(lo hi:Option Int):List V:=(xs.drop (HT.b7 xs.length 0 lo)).take (HT.b7 xs.length xs.length hi - HT.b7 xs.length 0 lo)
theorem gy(xs:List V)(lo hi:Option Int):(kP xs lo hi).length<=xs.length:=by
 unfold kP;rw[List.length_take,List.length_drop];exact Nat.le_trans (Nat.min_le_right _ _) (Nat.sub_le _ _)
def xb(K:PySem.W.Frag):V->Option Int->Option Int->Hp->VK->Prop:=fun x lo hi H Q=>∃ a xs,x=.ref a/\bj K H a xs /\
 ¬ (HT.b7 xs.length 0 lo=0/\HT.b7 xs.length xs.length hi=xs.length)/\∀ p,H p=none->Q (.ref p) (upd H p (.tup (kP xs lo hi)))
theorem Ca:su X (xb X.K):=by
 intro pins s σ H x v vl vu lo hi sl Q I rx hs pl pu h;obtain⟨a,xs,rfl,hx,hw,q⟩:=h;cases rx;obtain⟨its,r,ht,hz⟩:=I.tuple hx;have hlen:its.toArray.size=xs.length:=by rw[List.size_toArray];exact r.length.symm
 refine⟨"tuple",_,PyProof.Rows.slot_tuple_getitem.lookup,ht.typeIs,?_⟩;refine HT.fJ ht hs pl pu (by rw[hlen];exact hw) ?_ (by rw[hlen];exact hz)
 rw[hlen];refine⟨.ref s.heap.objs.size,_,I.laid (t':=s.toks) (o:=.tup (kP xs lo hi)) (fun b ob q=>Heap.get?_push_of_some _ q) (Nat.le_refl _) ?_,rfl,q _ (I.aJ.fresh (Nat.le_refl _))⟩;exact⟨Nat.le_trans (gy xs lo hi) hz,_,(r.drop (HT.b7 xs.length 0 lo)).take (HT.b7 xs.length xs.length hi - HT.b7 xs.length 0 lo),cH.new _ _⟩
def Ds(K:PySem.W.Frag):R2:=fun x y H Q=>∃ a b xs ys,x=.ref a/\y=.ref b/\bj K H a xs/\bj K H b ys/\xs≠[]/\xs.length+ys.length<=sizeLine /\
 (ys=[]->Q (.ref a) H)/\(ys≠[]->∀ p,H p=none->Q (.ref p) (upd H p (.tup (xs++ys))))
theorem Vals.jX{xs:List V}{us:List Value}(r:Vals xs us):us=[] ↔ xs=[]:=by
 cases r with
 | nil=>simp
 | cons _ _=>simp
theorem ph:cJ X (binaryOp .Add) (Ds X.K):=by
 intro pins s σ H x y v u Q I rx ry h;obtain⟨a,b,xs,ys,rfl,rfl,ha,hb,hx,hz,q1,q2⟩:=h;cases rx;cases ry;obtain⟨its,r1,p1,_⟩:=I.tuple ha;obtain⟨its2,r2,p2,_⟩:=I.tuple hb;refine HT.x9 p1 p2 (fun z=>hx (r1.jX.mp z)) (fun z=>⟨.ref a,H,I,rfl,q1 (r2.jX.mp z)⟩) (fun z=>?_) (by rw[<- r1.length,<- r2.length];exact hz)
 refine⟨.ref s.heap.objs.size,_,I.laid (t':=s.toks) (o:=.tup (xs++ys)) (fun b ob q=>Heap.get?_push_of_some _ q) (Nat.le_refl _) ?_,rfl,q2 (fun w=>z (r2.jX.mpr w)) _ (I.aJ.fresh (Nat.le_refl _))⟩;exact⟨by rw[List.length_append];exact hz,_,r1.append r2,cH.new _ _⟩
end
def kW(n:Nat)(i:Int):Option Nat:=if 0<=i then (if i < n then some i.toNat else none) else if -(n:Int)<=i then some (i+n).toNat else none
def bX{α:Type}(xs:List α)(i:Int):Option α:=(kW xs.length i).bind fun j=>xs[j]?
theorem pH{n:Nat}{i:Int}{j:Nat}(h:kW n i=some j):seqIndex? i n=some j/\j < n/\-(n:Int)<=i/\i < n:=by
 unfold kW at h;by_cases h0:0<=i
 ·rw[if_pos h0] at h;by_cases h1:i < n
  ·rw[if_pos h1] at h;have e:i.toNat=j:=Option.some.inj h;exact⟨by rw[seqIndex_of h0 h1,e],by lia,by lia,h1⟩
  ·rw[if_neg h1] at h;cases h
 ·rw[if_neg h0] at h;by_cases h1:-(n:Int)<=i
  ·rw[if_pos h1] at h;have e:(i+n).toNat=j:=Option.some.inj h;exact⟨by rw[seqIndex_neg (by lia) h1,e],by lia,h1,by lia⟩
  ·rw[if_neg h1] at h;cases h
theorem lq{α:Type}{xs:List α}{i:Int}{v:α}(h:bX xs i=some v):∃ j,seqIndex? i xs.length=some j/\xs[j]?=some v/\j < xs.length/\-(xs.length:Int)<=i/\i < xs.length:=by
 unfold bX at h
 cases e:kW xs.length i with
 | none=>rw[e] at h;cases h
 | some j =>
  rw[e] at h;obtain⟨h1,h2,h3,h4⟩:=pH e;exact⟨j,h1,h,h2,h3,h4⟩
theorem cN{α:Type}{xs:List α}{j:Nat}{v:α}(h:xs[j]?=some v):bX xs (j:Int)=some v:=by
 have hj:j < xs.length:=(List.getElem?_eq_some_iff.mp h).1;have e:kW xs.length (j:Int)=some j:=by
  unfold kW;rw[if_pos (by lia),if_pos (by lia)];simp
 unfold bX;rw[e];exact h
def oP(b:Expr):Prop:=∀ o i,subscripted b false o i=operate [o,i] (getItem o i)
def pC(X:Cx)(r:R2):Prop:=
 ∀ (value slice:Expr) (pins:List (Addr×Obj)) (s:Shared) (σ:St) (H:Hp) (x y:V) (v u:Value) (Q:VK),Inv X pins σ H s->RelV x v->RelV y u->r x y H Q ->
  subscripted slice false v u=operate [v,u] (getItem v u)->wpAny (model X.prog X.w) X.A (subscriptTail value slice v u) (EP X pins σ Q) X.xe s
def wH(X:Cx)(id:String)(r:V->List V->Hp->VK->Prop):Prop:=
 ∀ (pins:List (Addr×Obj)) (s:Shared) (σ:St) (H:Hp) (x:V) (xs:List V) (v:Value) (us:List Value) (Q:VK),Inv X pins σ H s->RelV x v->Vals xs us->r x xs H Q ->
  wpAny (model X.prog X.w) X.A (call (.builtin id) (v::us)) (EP X pins σ Q) X.xe s
section
variable {X:Cx} {a b:Expr} {ta tb:TE} {pos:Pos}
theorem pC.or{r r':R2}(h:pC X r)(h':pC X r'):pC X (fun x y H Q=>r x y H Q\/r' x y H Q):=by
 intro value slice pins s σ H x y v u Q I rx ry q hs;rcases q with q | q
 ·exact h value slice pins s σ H x y v u Q I rx ry q hs
 ·exact h' value slice pins s σ H x y v u Q I rx ry q hs
theorem zI{r:R2}(hr:pC X r)(ha:PE X a ta)(hb:PE X b tb)(hs:oP b):PE X (.Subscript a b pos) (sH r ta tb):=by
 intro pins s σ H Q I h;exact Subscript_ (BV ha hb I h fun v u s2 x y H2 I2 rx ry q=>hr a b pins s2 σ H2 x y v u Q I2 rx ry q (hs _ _))
def Ei(K:PySem.W.Frag):R2:=fun x y H Q=>∃ p xs i v,x=.ref p/\y=.int i/\bA K H p xs/\bX xs i=some v/\Q v H
def Es(K:PySem.W.Frag):R2:=fun x y H Q=>∃ p xs i v,x=.ref p/\y=.int i/\bj K H p xs/\bX xs i=some v/\Q v H
def CM:R2:=fun x y H Q=>∃ z i c,x=.str z/\y=.int i/\z.length<=sizeLine/\bX z.cps.toList i=some c/\Q (.str ⟨#[c]⟩) H
theorem yL:pC X (Ei X.K):=by
 intro value slice pins s σ H x y v u Q I rx ry h hs;obtain⟨p,xs,i,z,rfl,rfl,hq,he,q⟩:=h;cases rx;obtain⟨t,rfl⟩:=ry;obtain⟨its,r,pl,hz⟩:=I.list hq;obtain⟨j,h1,h2,h3,h4,h5⟩:=lq he;obtain⟨w,ew,rw'⟩:=r.get h2;have hl:=r.length;have hn:=eX;have fin:EP X pins σ Q w s:=⟨z,H,I,rw',q⟩;by_cases h0:0<=i
 ·have hj:i.toNat=j:=by
   rw[seqIndex_of h0 h5] at h1;exact Option.some.inj h1
  exact item_listR pl.isList h0 (by lia) (by rw[hj];simpa using ew) fin hs
 ·have hj:(i+(its.toArray.size:Int)).toNat=j:=by
   rw[seqIndex_neg (by lia) h4] at h1
   rw[List.size_toArray,<- hl];exact Option.some.inj h1
  exact subscriptTail_builtinR (x:=w) pl.isList.typeIs slot_list_getitem.lookup
   (wpAny_getItem_list_neg (Q:=fun r s'=>r=w/\EP X pins σ Q r s') pl.isList (by lia) (by rw[List.size_toArray]<;>lia) (by lia) (by rw[hj];simpa using ew) ⟨rfl,fin⟩) hs
theorem vm:pC X (Es X.K):=by
 intro value slice pins s σ H x y v u Q I rx ry h hs;obtain⟨p,xs,i,z,rfl,rfl,hq,he,q⟩:=h;cases rx;obtain⟨t,rfl⟩:=ry;obtain⟨its,r,pl,hz⟩:=I.tuple hq;obtain⟨j,h1,h2,h3,h4,h5⟩:=lq he;obtain⟨w,ew,rw'⟩:=r.get h2;have hl:=r.length;have hn:=eX;have fin:EP X pins σ Q w s:=⟨z,H,I,rw',q⟩;exact subscriptTail_builtinR (x:=w) pl.typeIs slot_tuple_getitem.lookup
  (getItem_tuple (j:=j) (Q:=fun r s'=>r=w/\EP X pins σ Q r s') pl (by lia) (by lia) (by rw[List.size_toArray,<- hl];exact h1) (by simpa using ew) ⟨rfl,fin⟩) hs
theorem Ac:pC X CM:=by
 intro value slice pins s σ H x y v u Q I rx ry h hs;obtain⟨z,i,c,rfl,rfl,hz,he,q⟩:=h;obtain⟨t,rfl⟩:=rx;obtain⟨t',rfl⟩:=ry;obtain⟨j,h1,h2,h3,h4,h5⟩:=lq he;have hl:z.cps.toList.length=z.length:=by simp[Str.length]
 rw[hl] at h1 h4 h5;have hn:=eX;exact tail_any (typeIs_str s z t) slot_str_getitem.lookup (getItem_str (c:=c) (by
  have e1:decide (i < -(2 ^ 63:Int))=false:=decide_eq_false (by lia)
  have e2:decide (i >= 2 ^ 63)=false:=decide_eq_false (by lia)
  rw[e1,e2,Bool.or_false]) (by rw[h1];simpa using h2) ⟨.str ⟨#[c]⟩,H,I.tok _,⟨_,rfl⟩,q⟩) hs
def EI(K:PySem.W.Frag):R2:=fun x y H Q=>Ei K x y H Q\/Es K x y H Q\/CM x y H Q
theorem tU:pC X (EI X.K):=yL.or (vm.or Ac)
theorem nE(its:List Value)(n j:Nat)(u:Value):Obj.mapSeq (·.setIfInBounds j u) { cls:=.type "list",data:=.seq its.toArray n }={ cls:=.type "list",data:=.seq (its.set j u).toArray n }:=by
 simp[Obj.mapSeq]
theorem Inv.lst{pins:List (Addr×Obj)}{σ:St}{H:Hp}{s:Shared}{p:Addr}{xs:List V}(I:Inv X pins σ H s)(h:H p=some (.lst xs)):
  ∃ (its:List Value) (n:Nat),Vals xs its/\s.heap.get? p=some { cls:=.type "list",data:=.seq its.toArray n }/\xs.length<=sizeLine:=by
 obtain⟨z,its,n,r,e⟩:=I.aJ p _ h;exact⟨its,n,r,e,z⟩
theorem Inv.AR{pins:List (Addr×Obj)}{σ:St}{H:Hp}{s:Shared}{p:Addr}{xs ys:List V}{its its':List Value}{n n':Nat}{f:Obj->Obj}(I:Inv X pins σ H s)(h:H p=some (.lst xs))
  (ho:s.heap.get? p=some { cls:=.type "list",data:=.seq its.toArray n }) (hf:f { cls:=.type "list",data:=.seq its.toArray n }={ cls:=.type "list",data:=.seq its'.toArray n' }) (r:Vals ys its') (hz:ys.length<=sizeLine) (t:Nat) :
  Inv X pins σ (upd H p (.lst ys)) { s with heap:=s.heap.update p f,toks:=t }:=by
 have e:(s.heap.update p f).get? p=some { cls:=.type "list",data:=.seq its'.toArray n' }:=by
  rw[Heap.get?_update_self f ho (by rw[hf]<;>rfl),hf]
 refine I.write (x:=p) (e:=p) (by rw[h];trivial) (.inl rfl) (fun b u hb q=>(Heap.get?_update_other _ _ (Ne.symm hb)).trans q) ⟨_,e⟩ ?_
 exact⟨hz,its',n',r,e⟩
def DJ:V->V->V->Hp->(Hp->Prop)->Prop:=fun o i v H Q=>∃ p xs k j,o=.ref p/\i=.int k/\H p=some (.lst xs)/\kW xs.length k=some j/\Q (upd H p (.lst (xs.set j v)))
theorem set_list:AQ X DJ:=by
 intro pins s σ H o i v ov iv u Q I ro ri rv h;obtain⟨p,xs,k,j,rfl,rfl,hp,hj,q⟩:=h;cases ro;obtain⟨t,rfl⟩:=ri;obtain⟨its,n,r,ho,hz⟩:=I.lst hp;obtain⟨h1,h2,h3,h4⟩:=pH hj;have hl:=r.length;have hn:=eX;have I':Inv X pins σ (upd H p (.lst (xs.set j v))) { s with heap:=s.heap.update p (Obj.mapSeq (·.setIfInBounds j u)) }:=
  I.AR hp ho (nE its n j u) (r.set rv j) (by rw[List.length_set];exact hz) s.toks
 by_cases h0:0<=k
 ·have hk:k.toNat=j:=by
   rw[seqIndex_of h0 h4] at h1;exact Option.some.inj h1
  exact PySem.W.ki_setAt ho h0 (by lia) (by rw[List.size_toArray,<- hl];exact h4) (by rw[hk];exact⟨_,I',q⟩)
 ·have hk:(k+(its.toArray.size:Int)).toNat=j:=by
   rw[seqIndex_neg (by lia) h3] at h1
   rw[List.size_toArray,<- hl];exact Option.some.inj h1
  exact PySem.W.ki_setBack ho (by lia) (by rw[List.size_toArray,<- hl];exact h3) (by lia) (by rw[hk];exact⟨_,I',q⟩)
theorem kY(lo hi:Option Int)(n:Nat):(sliceBounds lo hi none n).1=((HT.b7 n 0 lo:Nat):Int)/\(sliceBounds lo hi none n).2.1=((HT.b7 n n hi:Nat):Int)/\(sliceBounds lo hi none n).2.2=1:=by
 refine⟨?_,?_,rfl⟩
 ·cases lo with
  | none=>simp[sliceBounds,HT.b7]
  | some i =>
   simp only[sliceBounds,HT.b7,Option.getD_none,show (1:Int) > 0 by decide,if_true]
   by_cases h:i < 0
   ·simp only[h,if_true]<;>lia
   ·simp only[h,if_false]<;>lia
 ·cases hi with
  | none=>simp[sliceBounds,HT.b7]
  | some i =>
   simp only[sliceBounds,HT.b7,Option.getD_none,show (1:Int) > 0 by decide,if_true]
   by_cases h:i < 0
   ·simp only[h,if_true]<;>lia
   ·simp only[h,if_false]<;>lia
theorem jg(its:List Value)(lo hi:Option Int):slicePick its.toArray lo hi none=((its.drop (HT.b7 its.length 0 lo)).take (HT.b7 its.length its.length hi - HT.b7 its.length 0 lo)).toArray:=by
 obtain⟨h1,h2,h3⟩:=kY lo hi its.toArray.size;unfold slicePick;rw[h1,h2,h3];simp only[sliceRange_one,pick_run,List.size_toArray]<;>rfl
def D9(K:PySem.W.Frag):V->Option Int->Option Int->Hp->VK->Prop:=fun x lo hi H Q=>∃ a xs,x=.ref a/\bA K H a xs/\∀ p,H p=none->Q (.ref p) (upd H p (.lst (kP xs lo hi)))
theorem xp:su X (D9 X.K):=by
 intro pins s σ H x v vl vu lo hi sl Q I rx hs pl pu h;obtain⟨a,xs,rfl,hx,q⟩:=h;cases rx;obtain⟨its,r,ht,hz⟩:=I.list hx;have hlen:=r.length;refine⟨"list",_,slot_list_getitem.lookup,ht.isList.typeIs,?_⟩;refine wpAny_getItem_list_slice ht.isList hs pl pu .none (by simp) ?_ (by rw[List.size_toArray]<;>lia)
 rw[jg,<- hlen];refine⟨.ref s.heap.objs.size,_,I.laid (t':=s.toks) (o:=.lst (kP xs lo hi)) (fun b ob q=>Heap.get?_push_of_some _ q) (Nat.le_refl _) ?_,rfl,q _ (I.aJ.fresh (Nat.le_refl _))⟩;exact⟨Nat.le_trans (gy xs lo hi) hz,_,0,(r.drop (HT.b7 xs.length 0 lo)).take (HT.b7 xs.length xs.length hi - HT.b7 xs.length 0 lo),Heap.get?_push_size _ rfl⟩
def cW:V->Bool
 | .bf=>true
 | .bl _=>true
 | .int _=>true
 | .str _=>true
 | _=>false
def qN:V->V->Bool
 | .bf,.bf=>true
 | .bl a,.bl b=>a == b
 | .bl a,.int b=>(if a then 1 else 0) == b
 | .int a,.bl b=>a ==(if b then 1 else 0)
 | .int a,.int b=>a == b
 | .str a,.str b=>a == b
 | _,_=>false
theorem kN{A:Around}{s:Shared}{y x:V}{u v:Value}(ry:RelV y u)(rx:RelV x v)(fy:cW y=true)(fx:cW x=true):SeqAt.EqAt A s u v (qN y x):=by
 cases y with
 | bf =>
  cases ry
  cases x with
  | bf=>cases rx;exact SeqAt.EqAt.same _
  | bl b=>cases rx;exact SeqAt.EqAt.none_bool b
  | int b=>obtain⟨t,rfl⟩:=rx;exact SeqAt.EqAt.none_int b t
  | str b=>obtain⟨t,rfl⟩:=rx;exact SeqAt.EqAt.none_str b t
  | _=>exact absurd (show false=true from fx) Bool.false_ne_true
 | bl a =>
  cases ry
  cases x with
  | bf=>cases rx;exact SeqAt.EqAt.bool_none a
  | bl b=>cases rx;exact SeqAt.EqAt.bool_bool a b
  | int b=>obtain⟨t,rfl⟩:=rx;exact SeqAt.EqAt.bool_int a b t
  | str b=>obtain⟨t,rfl⟩:=rx;exact SeqAt.EqAt.bool_str a b t
  | _=>exact absurd (show false=true from fx) Bool.false_ne_true
 | int a =>
  obtain⟨t',rfl⟩:=ry
  cases x with
  | bf=>cases rx;exact SeqAt.EqAt.int_none a t'
  | bl b=>cases rx;exact SeqAt.EqAt.int_bool a t' b
  | int b=>obtain⟨t,rfl⟩:=rx;exact SeqAt.EqAt.int_int a t' b t
  | str b=>obtain⟨t,rfl⟩:=rx;exact SeqAt.EqAt.int_str a t' b t
  | _=>exact absurd (show false=true from fx) Bool.false_ne_true
 | str a =>
  obtain⟨t',rfl⟩:=ry
  cases x with
  | bf=>cases rx;exact SeqAt.EqAt.str_none a t'
  | bl b=>cases rx;exact SeqAt.EqAt.str_bool a t' b
  | int b=>obtain⟨t,rfl⟩:=rx;exact SeqAt.EqAt.str_int a t' b t
  | str b=>obtain⟨t,rfl⟩:=rx;exact SeqAt.EqAt.str_str a t' b t
  | _=>exact absurd (show false=true from fx) Bool.false_ne_true
 | _=>exact absurd (show false=true from fy) Bool.false_ne_true
def yz(x:V)(u:Value):Bool:=match u with
 | .none=>qN .bf x
 | .bool b=>qN (.bl b) x
 | .int i _=>qN (.int i) x
 | .str z _=>qN (.str z) x
 | _=>false
theorem uN{x y:V}{u:Value}(r:RelV y u)(f:cW y=true):yz x u=qN y x:=by
 cases y with
 | bf=>cases r;rfl
 | bl b=>cases r;rfl
 | int i=>obtain⟨t,rfl⟩:=r;rfl
 | str z=>obtain⟨t,rfl⟩:=r;rfl
 | _=>exact absurd (show false=true from f) Bool.false_ne_true
theorem kG{x:V}:∀ {xs:List V} {us:List Value},Vals xs us->xs.all cW=true->us.any (yz x)=xs.any fun y=>qN y x
 | _,_,.nil,_=>rfl
 | y::xs,u::us,.cons r t,f=>by
  rw[List.all_cons,Bool.and_eq_true] at f;rw[List.any_cons,List.any_cons,uN r f.1,kG t f.2]
theorem iD{A:Around}{s:Shared}{x:V}{v:Value}(rx:RelV x v)(fx:cW x=true):∀ {xs:List V} {us:List Value},Vals xs us->xs.all cW=true->∀ u∈us,SeqAt.EqAt A s u v (yz x u)
 | _,_,.nil,_=>fun u hu=>by cases hu
 | y::xs,u::us,.cons r t,f=>fun u' hu=>by
  rw[List.all_cons,Bool.and_eq_true] at f;rcases List.mem_cons.mp hu with rfl | hu
  ·rw[uN r f.1];exact kN r rx f.1 fx
  ·exact iD rx fx t f.2 u' hu
def EL(x:V)(xs:List V):Bool:=xs.any fun y=>qN y x
def G6(K:PySem.W.Frag)(neg:Bool):R2:=fun x y H Q=>∃ p xs,y=.ref p/\(bA K H p xs\/bj K H p xs)/\cW x=true/\xs.all cW=true/\Q (.bl (if neg then !EL x xs else EL x xs)) H
theorem r8:cJ X (compareOp .In) (G6 X.K false):=by
 intro pins s σ H x y v u Q I rx ry h;obtain⟨p,xs,rfl,hq,fx,fs,q⟩:=h;cases ry;rcases hq with hq | hq
 ·obtain⟨its,r,pl,hz⟩:=I.list hq;refine SeqAt.in_listAt (yz x) pl.isList (fun w hw=>iD rx fx r fs w (by simpa using hw)) ⟨.bl _,H,I,rfl,?_⟩
  rw[show its.toArray.any (yz x)=its.any (yz x) by simp,kG r fs]
  exact q
 ·obtain⟨its,r,pl,hz⟩:=I.tuple hq;refine SeqAt.in_tupleAt (yz x) pl (fun w hw=>iD rx fx r fs w (by simpa using hw)) ⟨.bl _,H,I,rfl,?_⟩
  rw[show its.toArray.any (yz x)=its.any (yz x) by simp,kG r fs]
  exact q
theorem kF:aV X (.builtin "len") (fun xs H Q=>∃ p ys,xs=[.ref p]/\(bA X.K H p ys\/bj X.K H p ys)/\Q (.int ys.length) H):=by
 intro pins s σ H xs us Q I r h;obtain⟨p,ys,rfl,hq,q⟩:=h;obtain⟨u,rfl,rx⟩:=vals1 r;cases rx;have hn:=eX;rcases hq with hq | hq
 ·obtain⟨its,r',pl,hz⟩:=I.list hq;have hlen:=r'.length;exact Calls.call_len_list pl.isList (by simp only[List.size_toArray]<;>lia) ⟨.int ys.length,H,I.tok _,⟨s.toks+1,by rw[List.size_toArray,hlen]⟩,q⟩
 ·obtain⟨its,r',pl,hz⟩:=I.tuple hq;have hlen:=r'.length;exact len_tuple pl (by simp only[List.size_toArray]<;>lia) ⟨.int ys.length,H,I.tok _,⟨s.toks+1,by rw[List.size_toArray,hlen]⟩,q⟩
theorem kM:aV X (.builtin "len") (fun xs H Q=>∃ z,xs=[.str z]/\z.length<=sizeLine/\Q (.int z.length) H):=by
 intro pins s σ H xs us Q I r h;obtain⟨z,rfl,hz,q⟩:=h;obtain⟨u,rfl,t,rfl⟩:=vals1 r;have hn:=eX;exact len_str (by lia) ⟨.int z.length,H,I.tok _,⟨_,rfl⟩,q⟩
theorem aV.or{f:Value}{r r':List V->Hp->VK->Prop}(h:aV X f r)(h':aV X f r'):aV X f (fun xs H Q=>r xs H Q\/r' xs H Q):=by
 intro pins s σ H xs us Q I rs q;rcases q with q | q
 ·exact h pins s σ H xs us Q I rs q
 ·exact h' pins s σ H xs us Q I rs q
theorem kB:aV X (.type "list") (fun xs H Q=>∃ p ys,xs=[.ref p]/\(bA X.K H p ys\/bj X.K H p ys)/\∀ l,H l=none->Q (.ref l) (upd H l (.lst ys))):=by
 intro pins s σ H xs us Q I r h;obtain⟨p,ys,rfl,hq,q⟩:=h;obtain⟨u,rfl,rx⟩:=vals1 r;cases rx;have fin:∀ (its:List Value),Vals ys its->ys.length<=sizeLine->∀ (h':Heap) (c':Nat),(∀ b o',s.heap.get? b=some o'->h'.get? b=some o') ->
   h'.get? s.heap.objs.size=some { cls:=.type "list",dict:=none,data:=.seq its.toArray c',slots:=#[] }->EP X pins σ Q (.ref s.heap.objs.size) { s with heap:=h' }:=fun its r' hz h' c' kp e =>
  ⟨.ref s.heap.objs.size,_,I.laid (t':=s.toks) kp (Nat.le_refl _) (show bp X.prog X.w _ h' _ (.lst ys) from⟨hz,its,c',r',e⟩),rfl,q _ (I.aJ.fresh (Nat.le_refl _))⟩
 rcases hq with hq | hq
 ·obtain⟨its,r',pl,hz⟩:=I.list hq;have hlen:=r'.length;obtain⟨o,ho,hc,n,hd⟩:=pl.isList;exact call_list_seq p (.inl rfl) ho hc hd (fun h' c' kp e=>fin its r' hz h' c' kp e) (by simp only[List.size_toArray]<;>lia)
 ·obtain⟨its,r',pl,hz⟩:=I.tuple hq;have hlen:=r'.length;obtain⟨o,ho,hc,n,hd⟩:=pl;exact call_list_seq p (.inr rfl) ho hc hd (fun h' c' kp e=>fin its r' hz h' c' kp e) (by simp only[List.size_toArray]<;>lia)
theorem cE:aV X (.type "tuple") (fun xs H Q=>∃ p ys,xs=[.ref p]/\((bA X.K H p ys/\∀ l,H l=none->Q (.ref l) (upd H l (.tup ys)))\/(bj X.K H p ys/\Q (.ref p) H))):=by
 intro pins s σ H xs us Q I r h;obtain⟨p,ys,rfl,h⟩:=h;obtain⟨u,rfl,rx⟩:=vals1 r;cases rx;rcases h with ⟨hq,q⟩ | ⟨hq,q⟩
 ·obtain⟨its,r',pl,hz⟩:=I.list hq;have hlen:=r'.length;refine call_tuple_list pl.isList (fun h' kp=>?_) (by simp only[List.size_toArray]<;>lia)
  have I1:Inv X pins σ H { s with heap:=h' }:=I.kept (t':=s.toks) kp
  have I2:Inv X pins σ (upd H h'.objs.size (.tup ys)) { s with heap:=h'.push { cls:=.type "tuple",data:=.seq its.toArray } }:=
   I1.laid (t':=s.toks) (fun b o e=>Heap.get?_push_of_some _ e) (Nat.le_refl _) (show bp X.prog X.w _ _ _ (.tup ys) from⟨hz,its,r',cH.new _ _⟩)
  exact⟨.ref h'.objs.size,_,I2,rfl,q _ (I1.aJ.fresh (Nat.le_refl _))⟩
 ·obtain⟨its,r',pl,hz⟩:=I.tuple hq;exact call_tuple_same pl ⟨.ref p,H,I,rfl,q⟩
def Fy(K:PySem.W.Frag)(T:String)(x:V)(H:Hp):Prop:=match x with
 | .str _=>T="str"
 | .int _=>T="int"
 | .ref p=>(T="list"/\∃ xs,bA K H p xs)\/(T="tuple"/\∃ o,K.lookup p=some o/\o.cls=.type "tuple"/\o.dict=none) \/
   (T="dict"/\((∃ kvs,H p=some (.dK kvs))\/∃ kvs,H p=some (.dT kvs)))\/(T="set"/\∃ S n,H p=some (.set S n))
 | _=>False
theorem we{pins:List (Addr×Obj)}{σ:St}{H:Hp}{s:Shared}{T:String}{x:V}{v:Value}(I:Inv X pins σ H s)(r:RelV x v)(ty:Fy X.K T x H):
  s.TypeIs v T/\∀ a,v=.ref a->∃ ob,s.heap.get? a=some ob/\ob.dict=none:=by
 cases x with
 | str z =>
  obtain⟨t,rfl⟩:=r
  cases (show T="str" from ty)
  exact⟨typeIs_str s z t,fun _ e=>nomatch e⟩
 | int i =>
  obtain⟨t,rfl⟩:=r
  cases (show T="int" from ty)
  exact⟨typeIs_int s i t,fun _ e=>nomatch e⟩
 | ref p =>
  cases r;rcases ty with ⟨rfl,xs,hq⟩ | ⟨rfl,o,hk,hc,hd⟩ | ⟨rfl,hk⟩ | ⟨rfl,S,n,hk⟩
  ·obtain⟨its,_,pl,_⟩:=I.list hq;refine⟨pl.isList.typeIs,fun a e=>?_⟩;cases e;obtain⟨o,n,e,c,hd,_⟩:=pl;exact⟨o,e,hd⟩
  ·refine⟨⟨o,I.fo p o hk,hc⟩,fun a e=>?_⟩;cases e;exact⟨o,I.fo _ o hk,hd⟩
  ·have z:∃ o,s.heap.get? p=some o/\o.ExactDict:=by
    rcases hk with ⟨kvs,hk⟩ | ⟨kvs,hk⟩
    ·obtain⟨_,_,_,_,o,_,_,e,ex,_⟩:=I.aJ p _ hk;exact⟨o,e,ex⟩
    ·obtain⟨_,_,_,_,o,_,_,e,ex,_⟩:=I.aJ p _ hk;exact⟨o,e,ex⟩
   obtain⟨o,e,ex⟩:=z;refine⟨⟨o,e,ex.1⟩,fun a e2=>?_⟩;cases e2;exact⟨o,e,ex.2.1⟩
  ·obtain⟨o,_,_,_,e,ex,_⟩:=I.aJ p _ hk;refine⟨⟨o,e,ex.1⟩,fun a e2=>?_⟩;cases e2;exact⟨o,e,ex.2.1⟩
 | _=>exact False.elim ty
def EZ(K:PySem.W.Frag)(T:String)(r:V->List V->Hp->VK->Prop)(to:TE):TE:=fun σ H Q=>to σ H fun x H1=>Fy K T x H1/\r x [] H1 Q
def Ft(K:PySem.W.Frag)(T:String)(r:V->List V->Hp->VK->Prop)(to:TE)(t:TA):TE:=fun σ H Q=>to σ H fun x H1=>Fy K T x H1/\t σ H1 fun xs H2=>r x xs H2 Q
variable {o e:Expr} {es:List Expr} {to:TE} {t:TA} {name:Str} {apos cpos:Pos} {T id:String} {r:V->List V->Hp->VK->Prop}
theorem zX(pa:PlainAttrs T)(slot:Slot T name id)(hty:typeOf (.builtin id)=pure (.type "method_descriptor"))(hm:wH X id r)(ho:PE X o to)
  (hbase:attributeBase o name X.env (eval o X.env)=eval o X.env:=by rfl) (hline:(apos.endLine == cpos.line)=true:=by rfl):PE X (.Call (.Attribute o name apos) [] [] cpos) (EZ X.K T r to):=by
 intro pins s σ H Q I h;refine wpAny_Call_method0_late hbase hline (bJ (ho pins s σ H _ I h) fun v s1 ⟨x,H1,I1,r1,ty,q1⟩=>?_);obtain⟨h1,h2⟩:=we I1 r1 ty;exact⟨T,id,pa,slot,hty,h1,h2,Calls.callWith_builtin rfl (PySem.evalArgs_none (hm pins s1 σ H1 x [] v [] Q I1 r1 .nil q1))⟩
theorem Eb(pa:PlainAttrs T)(slot:Slot T name id)(hty:typeOf (.builtin id)=pure (.type "method_descriptor"))(hm:wH X id r)(ho:PE X o to)(ha:PA X (e::es) t)
  (hbase:attributeBase o name X.env (eval o X.env)=eval o X.env:=by rfl)
  (hfew:((backTo cpos (starEach (e::es) X.env)).all (fun x=>!x.1) && (backToKw cpos (keywordEach [] X.env)).all (fun x=>x.1.isSome)
   && decide ((e::es).length+([]:List Keyword).length+(if ([]:List Keyword).isEmpty then 0 else 1) < 30))=true:=by rfl)
  (hline:(apos.endLine == cpos.line)=true:=by rfl) (hs:starEach (e::es) X.env=(false,eval e X.env)::starEach es X.env:=by rfl) (hplain:(backTo cpos (starEach es X.env)).any (·.1)=false:=by rfl) :
  PE X (.Call (.Attribute o name apos) (e::es) [] cpos) (Ft X.K T r to t):=by
 intro pins s σ H Q I h;refine wpAny_Call_method_late hbase hfew hline rfl (bJ (ho pins s σ H _ I h) fun v s1 ⟨x,H1,I1,r1,ty,q1⟩=>?_);obtain⟨h1,h2⟩:=we I1 r1 ty;refine⟨T,id,pa,slot,hty,h1,h2,?_⟩;have hA:=ha cpos pins s1 σ H1 _ I1 q1;rw[hs] at hA ⊢;refine Calls.callWith_builtin (by show (false || (backTo cpos (starEach es X.env)).any (·.1))=false;rw[hplain]<;>rfl) (Calls.evalArgs_plain ?_)
 exact bJ hA fun us s2 ⟨vs,H2,I2,r2,q2⟩=>hm pins s2 σ H2 x vs v us Q I2 r1 r2 q2
/- xs.append(e),list.index on a module's tuple .. are wH facts of 06m -/
end
def DV(X:Cx)(id:String)(r:V->List V->Hp->VK->Prop):Prop:=
 ∀ (pins:List (Addr×Obj)) (s:Shared) (σ:St) (H:Hp) (x:V) (xs:List V) (v:Value) (us:List Value) (Q:VK),Inv X pins σ H s->RelV x v->Vals xs us->r x xs H Q ->
  wpAny (model X.prog X.w) X.A (call (.builtin id) (v::us)) (EP X pins σ Q) X.xe s
theorem Vals.one:∀ {x:V} {us:List Value},Vals [x] us->∃ u,us=[u]/\RelV x u
 | _,_,.cons r .nil=>⟨_,rfl,r⟩
theorem Vals.eraseIdx:∀ {xs:List V} {us:List Value} (i:Nat),Vals xs us->Vals (xs.eraseIdx i) (us.eraseIdx i)
 | _,_,_,.nil=>.nil
 | _,_,0,.cons _ t=>t
 | _,_,i+1,.cons r t=>.cons r (Vals.eraseIdx i t)
theorem Vals.rep{xs:List V}{us:List Value}(h:Vals xs us):∀ k:Nat,Vals (List.replicate k xs).flatten (List.replicate k us).flatten
 | 0=>.nil
 | k+1=>by
  rw[List.replicate_succ,List.replicate_succ,List.flatten_cons,List.flatten_cons];exact Vals.append h (Vals.rep h k)
theorem j6{α:Type}:∀ (l:List α) (i:Nat),(l.eraseIdx i).length<=l.length
 | [],_=>Nat.le_refl _
 | _::_,0=>Nat.le_succ _
 | _::r,i+1=>Nat.succ_le_succ (j6 r i)
theorem foldl_rep(its:List Value):∀ (k:Nat) (acc:List Value),
  List.foldl (fun x1 x2=>x1++x2) acc.toArray (List.replicate k its.toArray)=(acc++(List.replicate k its).flatten).toArray
 | 0,acc=>by simp
 | k+1,acc=>by
  have e:acc.toArray++its.toArray=(acc++its).toArray:=by simp
  have e2:(acc++its)++(List.replicate k its).flatten=acc++(List.replicate (k+1) its).flatten:=by
   rw[List.replicate_succ,List.flatten_cons,List.append_assoc]
  rw[<- e2,<- foldl_rep its k (acc++its),<- e,List.replicate_succ,List.foldl_cons]
section
variable {X:Cx} {pins:List (Addr×Obj)} {σ:St} {H:Hp} {s:Shared} {l b:Addr} {xs ys zs:List V}
theorem Inv.Am{its its':List Value}{n:Nat}{f:Array Value->Array Value}{t':Nat}(I:Inv X pins σ H s)(hH:H l=some (.lst xs))
  (e:s.heap.get? l=some { cls:=.type "list",data:=.seq its.toArray n }) (hf:f its.toArray=its'.toArray) (hv:Vals ys its') (hz:ys.length<=sizeLine) :
  Inv X pins σ (upd H l (.lst ys)) { s with heap:=s.heap.update l (Obj.mapSeq f),toks:=t' }:=by
 have q:=PySem.IsL.update e f;rw[hf] at q;refine I.write (x:=l) (e:=l) (by rw[hH];exact trivial) (.inl rfl) (fun b' u hb hu=>(Heap.get?_update_other s.heap (Obj.mapSeq f) (Ne.symm hb)).trans hu) ⟨_,q⟩ ?_
 exact⟨hz,its',_,hv,q⟩
theorem Inv.B_{its:List Value}{t':Nat}(I:Inv X pins σ H s)(hv:Vals ys its)(hz:ys.length<=sizeLine):
  Inv X pins σ (upd H s.heap.objs.size (.lst ys)) { s with heap:=s.heap.push { cls:=.type "list",data:=.seq its.toArray },toks:=t' }:=
 I.laid (fun _ _ q=>Heap.get?_push_of_some _ q) (Nat.le_refl _) ⟨hz,its,0,hv,Heap.get?_push_size _ rfl⟩
theorem Inv.fresh(I:Inv X pins σ H s):H s.heap.objs.size=none:=I.aJ.fresh (Nat.le_refl _)
theorem Inv.kZ(I:Inv X pins σ H s)(hH:H l=some (.lst xs)):xs.length<=sizeLine/\∃ (its:List Value) (n:Nat),Vals xs its/\xs.length=its.length/\s.heap.get? l=some { cls:=.type "list",data:=.seq its.toArray n }:=by
 obtain⟨z,its,n,r,e⟩:=I.aJ l _ hH;exact⟨z,its,n,r,r.length,e⟩
theorem tP{n:Nat}(h:n<=sizeLine):Builtin.List.listTooLong n=false:=by
 unfold Builtin.List.listTooLong;exact decide_eq_false (by lia)
end
section
variable {X:Cx}
def pT:V->List V->Hp->VK->Prop:=fun x vs H Q=>∃ l xs y,x=.ref l/\vs=[y]/\H l=some (.lst xs)/\xs.length < sizeLine/\Q .bf (upd H l (.lst (xs++[y])))
theorem dD:DV X "list.append" pT:=by
 intro pins s σ H x vs v us Q I rx rv h;obtain⟨l,xs,y,rfl,rfl,hH,hz,q⟩:=h;cases rx;obtain⟨u,rfl,ru⟩:=rv.one;obtain⟨z,its,n,r,hl,e⟩:=I.kZ hH;refine call_meets F.slot_list_append ⟨_,e,rfl⟩ F.entry_list_append (F.args_list_append_2 _ _) (PySem.list_append l its.toArray n u (by rw[List.size_toArray];lia)) ⟨e,?_⟩
 refine⟨.bf,_,I.Am (its':=its++[u]) hH e (by simp) (r.append (.cons ru .nil)) ?_,rfl,q⟩
 rw[List.length_append,List.length_singleton];lia
def t7:V->List V->Hp->VK->Prop:=fun x vs H Q=>∃ l xs i k y,x=.ref l/\vs=[.int i]/\H l=some (.lst xs)/\-(2 ^ 63)<=i/\i < 2 ^ 63/\seqIndex? i xs.length=some k/\xs[k]?=some y/\Q y (upd H l (.lst (xs.eraseIdx k)))
theorem uS:DV X "list.pop" t7:=by
 intro pins s σ H x vs v us Q I rx rv h;obtain⟨l,xs,i,k,y,rfl,rfl,hH,h1,h2,hk,hy,q⟩:=h;cases rx;obtain⟨u,rfl,ru⟩:=rv.one;obtain⟨t,rfl⟩:=ru;obtain⟨z,its,n,r,hl,e⟩:=I.kZ hH;obtain⟨w,hw,rw'⟩:=r.get hy;refine call_meets F.slot_list_pop ⟨_,e,rfl⟩ F.entry_list_pop (F.args_list_pop_2 _ _)
  (MeetsSeq.list_pop_at l its.toArray n i t k w (fitsIndex_both h1 h2) (by rw[List.size_toArray,<- hl];exact hk) (by rw[<- Array.getElem?_toList];exact hw) (by rw[List.size_toArray];lia)) ⟨e,?_⟩
 refine⟨y,_,I.Am (its':=its.eraseIdx k) hH e ?_ (r.eraseIdx k) ?_,rw',q⟩
 ·show its.toArray.eraseIdxIfInBounds k=(its.eraseIdx k).toArray;rw[List.eraseIdxIfInBounds_toArray]
 ·have:=j6 xs k;lia
def Dw:R2:=fun x y H Q=>∃ l b xs zs,x=.ref l/\y=.ref b/\H l=some (.lst xs)/\H b=some (.lst zs)/\xs.length+zs.length<=sizeLine/\∀ p,H p=none->Q (.ref p) (upd H p (.lst (xs++zs)))
theorem sJ:cJ X (binaryOp .Add) Dw:=by
 intro pins s σ H x y v u Q I rx ry h;obtain⟨l,b,xs,zs,rfl,rfl,hH,hB,hz,q⟩:=h;cases rx;cases ry;obtain⟨z,its,n,r,hl,e⟩:=I.kZ hH;obtain⟨z2,its2,n2,r2,hl2,e2⟩:=I.kZ hB;refine PySem.P.add_list e e2 ?_ (by rw[List.size_toArray,List.size_toArray];lia)
 have ea:its.toArray++its2.toArray=(its++its2).toArray:=by simp
 rw[ea];exact⟨.ref _,_,I.B_ (t':=s.toks) (r.append r2) (by rw[List.length_append];lia),rfl,q _ I.fresh⟩
def DU:R2:=fun x y H Q=>∃ l k xs,x=.ref l/\y=.int k/\H l=some (.lst xs)/\-(2 ^ 63)<=k/\k < 2 ^ 63/\xs.length*k.toNat<=sizeLine /\
 ∀ p,H p=none->Q (.ref p) (upd H p (.lst (List.replicate k.toNat xs).flatten))
theorem len_rep{α:Type}(xs:List α)(k:Nat):(List.replicate k xs).flatten.length=k*xs.length:=by
 induction k with
 | zero=>simp
 | succ k ih=>rw[List.replicate_succ,List.flatten_cons,List.length_append,ih,Nat.succ_mul,Nat.add_comm]
theorem Cc:cJ X (binaryOp .Mult) DU:=by
 intro pins s σ H x y v u Q I rx ry h;obtain⟨l,k,xs,rfl,rfl,hH,h1,h2,hz,q⟩:=h;cases rx;obtain⟨t,rfl⟩:=ry;obtain⟨z,its,n,r,hl,e⟩:=I.kZ hH;have hlen:its.toArray.size*k.toNat<=sizeLine:=by rw[List.size_toArray,<- hl];exact hz
 have hcap:¬ its.toArray.size*k.toNat >(2 ^ 63 - 1) / 8:=by
  have:(sizeLine:Nat)<=(2 ^ 63 - 1) / 8:=by decide
  lia
 have hfit:¬ (!Builtin.List.listFitsIndex k)=true:=by
  rw[fitsIndex_both h1 h2];exact Bool.false_ne_true
 have hlong:¬ Builtin.List.listTooLong (its.toArray.size*k.toNat)=true:=by
  rw[tP hlen];exact Bool.false_ne_true
 have hnew:List.foldl (fun x1 x2=>x1++x2) #[] (List.replicate (if its.toArray.isEmpty=true then 0 else k.toNat) its.toArray)=(List.replicate k.toNat its).flatten.toArray:=by
  have f0:∀ m:Nat,List.foldl (fun x1 x2=>x1++x2) #[] (List.replicate m its.toArray)=(List.replicate m its).flatten.toArray:=fun m=>by
   have:=foldl_rep its m [];rw[List.nil_append] at this;exact this
  rw[f0]
  cases its with
  | nil=>simp
  | cons a r'=>rw[if_neg (by simp)]
 refine wpAny_binaryOp_repeat_ref (T:="list") (U:="int") (by decide) ⟨_,e,rfl⟩ (fun s'=>typeIs_int s' k t) noFill_list_mul F.fills_int_mul F.slot_int_rmul repeat_list F.slot_int_index.lookup
  (call_meets F.slot_int_rmul (typeIs_int s k t) F.entry_int_rmul (F.args_int_rmul_2 _ _) (int___rmul___int_list k t l its.toArray n)
   ⟨e,rfl,⟨_,e,rfl⟩,call_meets F.slot_list_mul ⟨_,e,rfl⟩ F.entry_list_mul (F.args_list_mul_2 _ _) (AutoListH.list___mul___list_int_3 l its.toArray n k t hfit hcap hlong) ⟨e,?_⟩⟩)
 rw[hnew];exact⟨.ref _,_,I.B_ (t':=s.toks) (r.rep k.toNat) (by rw[len_rep,Nat.mul_comm];exact hz),rfl,q _ I.fresh⟩
end
section
variable {prog:Program} {w:World} {A:Around} {E:Value->Shared->Prop} {s:Shared}
end
section
variable {X:Cx}
end
section
variable {κ:Type} [DecidableEq κ]
end
section
variable {P:Program} {w:World} {H:Hp} {h:Heap} {a:Addr}
end
section
variable {X:Cx} {pins:List (Addr×Obj)} {σ:St} {H:Hp} {s:Shared} {a:Addr} {y v:V} {u r:Value} {o:Option V} {A:Around} {E:Value->Shared->Prop}
end
section
variable {X:Cx} {pins:List (Addr×Obj)} {σ:St} {H:Hp} {s:Shared} {a:Addr} {kvs:List (Key×V)} {k:Key} {u:Value} {A:Around} {E:Value->Shared->Prop}
end
def AM(i:Expr):Prop:=∀ ov iv,subscripted i false ov iv=operate [ov,iv] (getItem ov iv)
theorem yp{prog:Program}{w:World}{A:Around}{E:Value->Shared->Prop}{s:Shared}{env:Env}{value slice:Expr}{pos:Pos}{T id:String}{Q:Value->Shared->Prop}
  (hl:typeLookup (.type T) "__getitem__"=pure (some (.builtin id))) (hs:AM slice)
  (h:wpAny (model prog w) A (eval value env) (fun o s₁=>wpAny (model prog w) A (eval slice env) (fun i s₂=>s₂.TypeIs o T/\wpAny (model prog w) A (getItem o i) Q E s₂) E s₁) E s) :
  wpAny (model prog w) A (eval (.Subscript value slice pos) env) Q E s:=by
 refine Subscript_ (wpAny_mono h (fun o s₁ h₁=>wpAny_mono h₁ (fun i s₂ h₂=>?_) fun _ _ x=>x) fun _ _ x=>x);obtain⟨hT,h₂⟩:=h₂;unfold subscriptTail;refine wpAny_bind ?_;rw[getitemInPython_of_ne hT.not_modules];refine wpAny_bind (wpAny_specialOf hT hl ?_);have fin:wpAny (model prog w) A (subscripted slice false o i) (fun r s₃=>wpAny (model prog w) A (letTemporaryGo value o r >>= fun _=>pure r) Q E s₃) E s₂:=by
  rw[hs o i];exact wpAny_operating (wpAny_mono h₂ (fun r s₃ h₃=>wpAny_bind (wpAny_letTemporaryGo (wpAny_pure h₃))) fun _ _ x=>x)
 first
  | exact wpAny_pure (wpAny_bind fin)
  | exact wpAny_bind (wpAny_pure (wpAny_bind fin))
  | exact wpAny_bind fin
section
variable {X:Cx} {o i e value:Expr} {pos pos' tpos:Pos} {td ty tv:TE}
end
section
variable {X:Cx} {pos:Pos}
end
section
variable {X:Cx} {pins:List (Addr×Obj)} {σ:St} {H:Hp} {s:Shared} {a:Addr} {y d:V} {u r:Value} {o:Option V} {A:Around} {E:Value->Shared->Prop}
end
section
variable {X:Cx} {o e f:Expr} {apos cpos:Pos} {td ty tx:TE}
end
section
variable {X:Cx} {pins:List (Addr×Obj)} {σ:St} {H:Hp} {s:Shared} {a:Addr} {kvs:List (Key×V)} {A:Around} {E:Value->Shared->Prop}
end
section
variable {X:Cx} {pins:List (Addr×Obj)} {σ:St} {H:Hp} {s:Shared} {a:Addr} {y:V} {u:Value} {A:Around} {E:Value->Shared->Prop}
end
end L2
namespace Att
open PySem PySem.W PySem.Calls PyProof.Rows
theorem gH{P:Params}{h:Heap}:∀ (ns:List Int) (vs:List Value),WellAll P h vs (ns.map WData.int)->IntsAre vs ns:=by
 intro ns
 induction ns with
 | nil =>
  intro vs w;rw[List.map_nil] at w;cases w;exact .nil
 | cons n ns ih =>
  intro vs w;rw[List.map_cons] at w
  cases w with
  | cons a b =>
   cases a;exact .cons _ _ (ih _ b)
theorem rC{l:OpenLaw}{n:Nat}(hn:l.most=some n){P:Params}{h:Heap}{args:List WData}{vals:List Value}
  (hpre:l.row.toRowW.claim.pre args=true) (hwl:WellAll P h vals args) :
  ∃ a vs ns,vals=[Value.ref a]/\args=[WData.list (ns.map WData.int)]/\h.get? a=some { cls:=.type "list",data:=.seq vs.toArray }/\IntsAre vs ns/\ns.length<=n:=by
 have hsh:WShape.hasAll [] args [.list .int]=true:=(pre_splitW hpre).1;have hc:l.pre.holds [] { args:=args }=true:=(pre_splitW hpre).2;obtain⟨d,r,rfl,h1,h2⟩:=hasAllW_cons hsh;obtain rfl:=hasAllW_nil h2;obtain⟨xs,rfl,h3⟩:=hasW_list h1;obtain⟨ns,rfl⟩:=items_int h3;have hlen:ns.length<=n:=by
  unfold OpenLaw.pre at hc;have h4:(WTm.not (.lt (.lit (.int (n:Int))) (.len (.arg 0)))).holds [] { args:=[.list (ns.map .int)] }=true:=by
   have h4:=(holds_andW hc).1;rw[hn] at h4;exact h4
  have h5:=condW_of h4 (w_not (w_lt w_lit (w_len_list (w_arg rfl))));rw[List.length_map] at h5;refine Nat.le_of_not_lt fun q=>?_;have q':(n:Int) < ((ns.length:Nat):Int):=by lia
  first
   | (rw[decide_eq_true q'] at h5;exact absurd h5 (by decide))
   | (simp at h5;lia)
 cases hwl with
 | cons w1 w2 =>
  cases w2
  cases w1 with
  | list ho hall=>exact⟨_,_,ns,rfl,rfl,ho,gH ns _ hall,hlen⟩
theorem qP(l:OpenLaw)(args:List WData):l.row.toRowW.claim.post args (.bool true) args=true:=
 postW_of (r:=l.row.toRowW) (X:=(true == true))
  (show WShape.has [] (.bool true) .bool=true by first | rfl | decide | simp[WShape.has,WShape.arms,WShape.armsAll])
  (show (WTm.eq .res (.lit (.bool true))).value [] { args:=args,res:=some (.bool true),after:=args }=some (.bool (true == true)) from w_eq_bool (w_res rfl) w_lit) rfl
theorem mG{l:OpenLaw}{n:Nat}{q:Program}{loose:List Str}{XP:(Str->Option Value)->Heap->Prop}{YP:World->Heap->Prop}{d:DefRec}
  (hn:l.most=some n) (hdf:d.params.defaults=[])
  (call:∀ (w:World) (s₀ s₁:Shared) (mg mb:Str->Option Value) (fa:Addr) (o:Obj) (pm cd doc:Value) (a:Addr) (vs:List Value) (ns:List Int),
   Ground q loose [] XP w s₀ mg mb s₁.heap->YP w s₁.heap ->
   s₁.heap.get? fa=some o->o.data=.func (docDef d.name d.params d.body d.scope pm cd doc)->s₁.heap.CodeRec cd d.name->mg d.name=some (.ref fa) ->
   s₁.heap.get? a=some { cls:=.type "list",data:=.seq vs.toArray }->IntsAre vs ns->ns.length<=n->s₁.gens=#[] ->
   codeAny (model l.prog w) callerA (.call (.ref fa) ⟨[.ref a],[]⟩) (fun r s'=>r=.ok (.ret (.bool true))/\OldK s₁.heap s'.heap/\s'.os=s₁.os/\AllBare s'.gens) s₁) :
  WalkO q loose XP YP l.row.toRowW d [] (fun f vs=>PySem.call f vs):=by
 intro w s₀ s₁ mg mb G Y fa o pm cd doc dV kV ho hd hcd hD hmg hg args vals as hpre hlay hrd hwl hlo;obtain rfl:dV=.none:=Dflts.none hD hdf;obtain rfl:kV=.none:=Dflts.noKw hD;obtain⟨a,vs,ns,rfl,rfl,hobj,hints,hlen⟩:=rC hn hpre hwl;refine enter_call (codeAny_mono (call w s₀ s₁ mg mb fa o pm cd doc a vs ns G Y ho (fd_plain hd) hcd hmg hobj hints hlen hg) fun r s' hq=>?_);obtain⟨rfl,h2,h3,h4⟩:=hq;exact⟨.inl ⟨.bool true,.bool true,[],rfl,fun _=>rfl,.bool true,qP l _,fun _=>⟨List.Pairwise.nil,fun _ hm=>(nomatch hm)⟩⟩,h2,h3,h4⟩
section
variable {prog:Program} {w:World} {A:Around} {E:Value->Shared->Prop} {s:Shared} {K:Frag}
end
end Att
namespace L2
open PySem PySem.Spec PyProof.Rows
theorem jT:∀ {vs:List Value} {ns:List Int},IntsAre vs ns->Vals (ns.map V.int) vs
 | _,_,.nil=>.nil
 | _,_,.cons n t h=>.cons ⟨t,rfl⟩ (jT h)
structure fe (q:Program) (K:PySem.W.Frag):Prop where
 nt:PySem.W.noTabs K=true
 nd:((bD K).map (·.2.1)).Nodup
 fd:∀ x∈cX,PySem.W.tabIn K x=none\/((recsOf q).find? (fun e=>e.name == x)).isSome=true
theorem fe.at{q:Program}{K:PySem.W.Frag}{loose:List Str}{mean:ExcName->Option Value}{mg mb:Str->Option Value}{h:Heap}(L:fe q K)(T:Top q loose mean mg mb h)(X:K.In h):∀ t∈bD K,PySem.W.CodeHd h t.1 t.2.1/\h.get? t.2.1=some (PySem.W.tabObj #[]):=fun t ht=>by
 unfold bD at ht;obtain⟨x,hx,e⟩:=List.mem_filterMap.mp ht;obtain⟨p,e1,e2⟩:=Option.map_eq_some_iff.mp e;obtain⟨c,Pt⟩:=p;subst e2;rcases L.fd x hx with z | z
 ·rw[z] at e1;cases e1
 ·obtain⟨d,hd⟩:=Option.isSome_iff_exists.mp z;exact PySem.W.tab_of T X hd e1
def kv:List (Addr×Addr×Str)->Addr->Option HO
 | [],_=>none
 | t::r,b=>if b=t.2.1 then some (.sG #[.str t.2.2 0]) else kv r b
theorem eD{b:Addr}{o:HO}:∀ {l:List (Addr×Addr×Str)},kv l b=some o->∃ t∈l,b=t.2.1/\o=.sG #[.str t.2.2 0]
 | t::r,e=>by
  unfold kv at e;by_cases z:b=t.2.1
  ·rw[if_pos z] at e;cases e;exact⟨t,.head _,z,rfl⟩
  ·rw[if_neg z] at e;obtain⟨u,hu,q⟩:=eD e;exact⟨u,.tail _ hu,q⟩
theorem mq{t:Addr×Addr×Str}:∀ {l:List (Addr×Addr×Str)},(l.map (·.2.1)).Nodup->t∈l->kv l t.2.1=some (.sG #[.str t.2.2 0])
 | u::r,nd,m=>by
  obtain⟨n1,n2⟩:=List.nodup_cons.mp nd;unfold kv;rcases List.mem_cons.mp m with rfl | m
  ·rw[if_pos rfl]
  ·rw[if_neg fun z=>n1 (List.mem_map.mpr ⟨t,m,z⟩)];exact mq n2 m
theorem tL{P q:Program}{w:World}{K:PySem.W.Frag}{mg mb:Str->Option Value}{CX:lj}{k:Nat}{fa a:Addr}{fd:FuncData}{x:Str}{sp:Sp}{s₁:Shared}{vs:List Value}{ns:List Int}
  (KX:K.In s₁.heap) (hns:s₁.heap.Ns mainGlobals mg) (hb:s₁.heap.Ns builtinsNs mb) (hbb:∀ x:Str,x≠"__name__"->mb x=bootBuiltins x) (hlim:s₁.heap.NoLimit) (hbm:Ad mg s₁.heap)
  (hT:∀ t∈bD K,PySem.W.CodeHd s₁.heap t.1 t.2.1/\s₁.heap.get? t.2.1=some (PySem.W.tabObj #[])) (L:fe q K) (hg:s₁.gens=#[])
  (ha:s₁.heap.get? a=some { cls:=.type "list",data:=.seq vs.toArray }) (hi:IntsAre vs ns) (hl:ns.length<=sizeLine) (hr:bz k callerA)
  (F:∀ base:Heap,K.In base->base.Ns mainGlobals mg->dg P w K mg base CX k fa fd [x] sp) (hbind:∀ (s:Shared) (u:Value),BindsTo s fd ⟨[u],[]⟩ [(x,u)])
  (hsp:∀ H:Hp,True->bA K H a (ns.map V.int)->sp [.ref a] H (fun v _=>v=.bl true) fun _ _ _=>False)
  (hCX:∀ H e s',CX [] H s₁ (fun _ _ _=>False) e s'->False) :
  codeAny (model P w) callerA (.call (.ref fa) ⟨[.ref a],[]⟩) (fun r s'=>r=.ok (.ret (.bool true))/\OldK s₁.heap s'.heap/\s'.os=s₁.os/\AllBare s'.gens) s₁:=by
 have rv:=jT hi;have lenV:=hi.length;have naT:∀ t∈bD K,t.2.1≠a:=fun t ht z=>by
  have e:=(hT t ht).2;rw[z,ha] at e;cases e
 let oS:Obj:={ cls:=.type "list",data:=.seq vs.toArray }
 have core:∀ S:Option HO,(S=none\/S=some (.eN oS (.lst (ns.map V.int))))->(S≠none->K.lookup a=none)->bA K (fun b=>if b=a then S else kv (bD K) b) a (ns.map V.int) ->
   codeAny (model P w) callerA (.call (.ref fa) ⟨[.ref a],[]⟩) (fun r s'=>r=.ok (.ret (.bool true))/\OldK s₁.heap s'.heap/\s'.os=s₁.os/\AllBare s'.gens) s₁:=by
  intro S hS hK hSq;generalize hH:(fun b=>if b=a then S else kv (bD K) b)=H at hSq
  have hA:H a=S:=by rw[<- hH];exact if_pos rfl
  have hB:∀ b,b≠a->H b=kv (bD K) b:=fun b z=>by rw[<- hH];exact if_neg z
  have free:∀ {b:Addr} {o:Obj},s₁.heap.get? b=some o->o≠PySem.W.tabObj #[]->(b=a->S=none)->H b=none:=fun {b o} e hn hz=>by
   by_cases z:b=a
   ·rw[z,hA];exact hz z
   ·rw[hB b z]
    cases q:kv (bD K) b with
    | none=>rfl
    | some u =>
     obtain⟨t,ht,e1,_⟩:=eD q;have e2:=(hT t ht).2;rw[<- e1,e] at e2;exact absurd (Option.some.inj e2) hn
  have nsK:∀ {b:Addr} {m:Str->Option Value},s₁.heap.Ns b m->(jr s₁.heap H).Ns b m:=fun {b m} ⟨o,es,ep,e,d,r⟩=>⟨o,es,ep,ft e (free e (fun z=>by rw[z] at d;cases d) fun z=>by rw[z,ha] at e;cases e;cases d),d,r⟩
  have hKb:K.In (jr s₁.heap H):=fun b o e=>ft (KX b o e) (free (KX b o e) (fun z=>by
    have h2:=List.all_eq_true.mp L.nt (b,o) (PySem.W.mem_of_lookupK e);subst z;exact absurd (show false=true from h2) Bool.false_ne_true) fun z=>by
    cases q:S with
    | none=>rfl
    | some u=>rw[z,hK (by rw[q];simp)] at e;cases e)
  have hcd:∀ t∈bD K,PySem.W.CodeHd (jr s₁.heap H) t.1 t.2.1:=fun t ht=>by
   obtain⟨o,us,fl,tf,fg,tg,mf,tx,tt,e1,e2,r⟩:=(hT t ht).1;exact⟨o,us,fl,tf,fg,tg,mf,tx,tt,ft e1 (free e1 (fun z=>by rw[z] at e2;cases e2) fun z=>by rw[z,ha] at e1;cases e1;exact absurd (Value.type.inj e2) (by decide)),e2,r⟩
  have hbm':Ad mg (jr s₁.heap H):=by
   obtain⟨bm,ob,b1,b2,b3,b4,b5⟩:=hbm;exact⟨bm,ob,b1,b2,ft b3 (free b3 (fun z=>by rw[z] at b4;cases b4) fun z=>by rw[z,ha] at b3;cases b3;exact absurd (Value.type.inj b4) (by decide)),b4,b5⟩
  have aJ:eE P w H s₁.heap:=fun b u e=>by
   by_cases z:b=a
   ·rw[z,hA] at e;rcases hS with h0 | h0
    ·rw[h0] at e;cases e
    ·rw[h0] at e;cases e;subst z;exact⟨ha,by rw[List.length_map];exact hl,vs,_,rv,ha⟩
   ·rw[hB b z] at e;obtain⟨t,ht,e1,e2⟩:=eD e;subst e2;exact⟨#[],by rw[e1];exact (hT t ht).2,trivial,fun pos cv c=>by cases (show (none:Option Value)=some cv from c)⟩
  have hM:Mod K mg (jr s₁.heap H):=⟨hKb,nsK hns,⟨mb,nsK hb,hbb⟩,let ⟨mc,h1,h2⟩:=hlim;⟨mc,nsK h1,h2⟩,hcd,hbm'⟩
  have e0:xW P w K mg (jr s₁.heap H) callerA [] s₁ H:=⟨rfl,hM,fun b o e=>xg e,Nat.le_of_eq (rj _ _),trivial,fun b hb=>absurd (show b∈([]:List Addr) from hb) (by simp),aJ,.of_eq hg,fun t ht=>⟨#[],by
   rw[hB _ (naT t ht),mq L.nd ht,Array.append_empty]⟩⟩
  refine codeAny_mono ((F _ hKb (nsK hns)).run callerA [] s₁ H ⟨[.ref a],[]⟩ [.ref a] [.ref a] _ _ hr e0 (hbind s₁ (.ref a)) (.cons rfl .nil) (hsp H trivial hSq)) fun r s' h=>?_
  cases r with
  | error e=>exact (hCX H e s' h).elim
  | ok fl =>
   cases fl with
   | next=>exact False.elim h
   | brk=>exact False.elim h
   | cont=>exact False.elim h
   | ret u =>
    obtain⟨v,H',os,bare,un,hok',r',qv⟩:=h;have q':v=.bl true:=qv;subst q';obtain rfl:u=Value.bool true:=r';have each:∀ b o,s₁.heap.get? b=some o->s'.heap.get? b=some o\/∃ c,PySem.W.CodeHd s₁.heap c b/\o=PySem.W.tabObj #[]/\∃ ps,s'.heap.get? b=some (PySem.W.tabObj ps):=fun b o e=>by
     cases qb:H b with
     | none=>exact .inl (un.keep b o e qb (by intro z;exact absurd (show b∈([]:List Addr) from z) (by simp)) (by simp))
     | some u =>
      by_cases z:b=a
      ·rw[z,hA] at qb;rcases hS with h0 | h0
       ·rw[h0] at qb;cases qb
       ·have z2:=un.hW a oS _ (by rw[hA,h0])
        obtain⟨e2,_⟩:=hok' a _ z2;rw[z,ha] at e;cases e;exact .inl (by rw[z];exact e2)
      ·have qt:=qb;rw[hB b z] at qt;obtain⟨t,ht,e1,e2⟩:=eD qt;obtain⟨h1,h2⟩:=hT t ht;rw[<- e1] at h1 h2;rw[e] at h2;cases h2;subst e2;obtain⟨more,e3⟩:=un.gJ b _ qb;obtain⟨qs,e4,_⟩:=hok' b _ e3;exact .inr ⟨_,h1,rfl,qs,e4⟩
    refine⟨rfl,⟨fun b o e=>?_,fun b o e=>?_⟩,os,bare⟩
    ·rcases each b o e with z | ⟨c,hc,z,ps,hp⟩
     ·exact .inl z
     ·subst z;exact .inr (.inl ⟨(hc.tab e).isCodeTable,rfl,#[],ps,rfl,by rw[Array.empty_append];exact hp⟩)
    ·rcases each b o e with z | ⟨c,hc,z,ps,hp⟩
     ·exact⟨o,z⟩
     ·exact⟨_,hp⟩
 cases hk:K.lookup a with
 | some o =>
  have e:=KX a o hk;rw[ha] at e;cases e;exact core none (.inl rfl) (fun z=>absurd rfl z) (.inr ⟨_,vs.toArray,_,hk,rfl,rfl,rfl,by rw[List.size_toArray,lenV];exact hl,by simpa using rv⟩)
 | none=>exact core (some (.eN oS (.lst (ns.map V.int)))) (.inr rfl) (fun _=>hk) (.inl (.inr ⟨oS,if_pos rfl⟩))
theorem yy{l:PySem.W.OpenLaw}{n k:Nat}{q:Program}{loose:List Str}{XP:(Str->Option Value)->Heap->Prop}{YP:World->Heap->Prop}{d:DefRec}{K:Params->PySem.W.Frag}{CX:World->lj}{sp:World->Sp}{x:Str}
  (hn:l.most=some n) (hn2:n<=sizeLine) (hdf:d.params.defaults=[]) (hr:bz k callerA)
  (hY:∀ (w:World) (h:Heap),YP w h->(K w.params).In h)
  (F:∀ (w:World) (mg:Str->Option Value) (fa:Addr) (h:Heap),(K w.params).In h->h.Ns mainGlobals mg->mg d.name=some (.ref fa) ->
   ∃ fd:FuncData,(∀ (s:Shared) (u:Value),BindsTo s fd ⟨[u],[]⟩ [(x,u)]) /\
    ∀ base:Heap,(K w.params).In base->base.Ns mainGlobals mg->dg l.prog w (K w.params) mg base (CX w) k fa fd [x] (sp w))
  (hsp:∀ (w:World) (H:Hp) (a:Addr) (ns:List Int),ns.length<=n->True->bA (K w.params) H a (ns.map V.int)->sp w [.ref a] H (fun v _=>v=.bl true) fun _ _ _=>False)
  (hCX:∀ (w:World) (H:Hp) (s:Shared) (e:Value) (s':Shared),CX w [] H s (fun _ _ _=>False) e s'->False) (hL:∀ (w:World) (h:Heap),(K w.params).In h->fe q (K w.params)) :
  PySem.W.WalkO q loose XP YP l.row.toRowW d [] (fun f vs=>PySem.call f vs):=by
 refine Att.mG hn hdf fun w s₀ s₁ mg mb fa o pm cd doc a vs ns G Y ho hd hcd hmg hobj hints hlen hg=>?_;have KX:=hY w _ Y;obtain⟨fd,hb,hF⟩:=F w mg fa _ KX G.T.g hmg;have L:=hL w _ KX;exact tL KX G.T.g G.T.b G.T.builtins G.T.nolimit G.T.bmain (L.at G.T KX) L hg hobj hints (Nat.le_trans hlen hn2) hr hF hb (fun H hO hS=>hsp w H a ns hlen hO hS) fun H e s'=>hCX w H s₁ e s'
def aD(s:Stmt):Arguments:=match s with
 | .FunctionDef _ a _ _ _ _ _ _ _ _=>a
 | _=>{ posonlyargs:=[],args:=[],vararg:=none,kwonlyargs:=[],kw_defaults:=[],kwarg:=none,defaults:=[] }
def ao(s:Stmt):List Stmt:=match s with
 | .FunctionDef _ _ b _ _ _ _ _ _ _=>b
 | _=>[]
def aa(s:Stmt):Scope:=match s with
 | .FunctionDef _ _ _ _ _ _ sc _ _ _=>sc
 | _=>{ kind:=.function,names:=[],isGenerator:=false,isCoroutine:=false }
noncomputable abbrev bT:lj:=fun _ _ _ _ _ _=>False
noncomputable abbrev E0:XK:=fun _ _ _=>False
theorem aH{X:Cx}:Passes bT X E0:=fun _ _ _ _ _ _ _ h=>h.elim
structure wJ (K:PySem.W.Frag) (x qual:Str) (st:Stmt) (f:Addr) (fd:FuncData):Prop where
 ex:∃ (oc:Value) (od:Option Addr) (kV doc pm:Value) (an:Option Addr) (cdv ct:Value) (osl:Array (Option Value)),
  fd=PySem.W.fnOf x qual (aD st) (ao st) (aa st) .none kV doc pm an cdv ct/\K.lookup f=some ⟨oc,od,.func fd,osl⟩/\PySem.W.codeIn K cdv qual=true
 kp:PySem.W.keepIn K (.ref f)=true
section
variable {P:Program} {w:World} {K:PySem.W.Frag} {mg:Str->Option Value} {base:Heap}
theorem wJ.ok{x qual:Str}{st:Stmt}{f:Addr}{fd:FuncData}{N ps:List Str}{k:Nat}{sp:Sp}(F:wJ K x qual st f fd)(S:av N ps (aa st))(len:∀ vs H Q E,sp vs H Q E->vs.length=ps.length)
  (hbody:∀ (cdv:Value) (A:Around) (outer:List Env) (s:Shared) (H:Hp) (vs:List V) (Q:VK) (E:XK),bz k (A.deeper (envOfC qual (aa st) s.heap.objs.size f cdv))->sp vs H Q E ->
   ∃ t,nr (fh bT P w K mg base N qual (aa st) f cdv A outer s H E).xt (ao st) t/\t { nx:=fun _ H'=>Q .bf H',rt:=Q } (start N vs) H):dg P w K mg base bT (k+1) f fd ps sp:=by
 obtain⟨oc,od,kV,doc,pm,an,cdv,ct,osl,rfl,lk,hcd⟩:=F.ex;refine zD lk hcd S len fun A outer s H vs Q E hr hsp=>?_;obtain⟨t,h,q⟩:=hbody cdv A outer s H vs Q E hr hsp;exact⟨t,h.xt,q⟩
theorem wJ.binds{x qual:Str}{st:Stmt}{f:Addr}{fd:FuncData}{ps:List Str}(F:wJ K x qual st f fd)
  (h:∀ (kV doc pm:Value) (an:Option Addr) (cdv ct:Value) (us:List Value),us.length=ps.length->bindArgs (PySem.W.fnOf x qual (aD st) (ao st) (aa st) .none kV doc pm an cdv ct) ⟨us,[]⟩=pure (ps.zip us)):Binds K fd ps []:=by
 obtain⟨oc,od,kV,doc,pm,an,cdv,ct,osl,rfl,lk,hcd⟩:=F.ex;exact .all (h kV doc pm an cdv ct)
theorem ar{x qual:Str}{st:Stmt}{f:Addr}{oc:Value}{od an:Option Addr}{osl:Array (Option Value)}{kV doc pm cdv ct:Value}(l:K.lookup f=some ⟨oc,od,.func (PySem.W.fnOf x qual (aD st) (ao st) (aa st) .none kV doc pm an cdv ct),osl⟩)
  (c:PySem.W.codeIn K cdv qual=true) (k:PySem.W.keepIn K (.ref f)=true):wJ K x qual st f (PySem.W.fnOf x qual (aD st) (ao st) (aa st) .none kV doc pm an cdv ct):=⟨⟨oc,od,kV,doc,pm,an,cdv,ct,osl,rfl,l,c⟩,k⟩
end
theorem bZ{A:Around}{k:Nat}(hr:bz k A):A.units+1 < cLine:=Nat.lt_of_le_of_lt (Nat.add_le_add_left (by decide:1<=64) _) hr.units
section
variable {X:Cx}
theorem pv(i:Nat){x:Str}{pos:Pos}(hN:X.N[i]?=some x:=by rfl)(hv:Bf X.env.scope x:=by first | exact Or.inl rfl | exact Or.inr (Or.inl rfl) | exact Or.inr (Or.inr rfl))(hd:(x ==("__debug__":Str))=false:=by decide)
  (hcd:(x ==("__classdict__":Str))=false:=by decide):PE X (.Name x pos) (qX i):=An hN hv hd hcd
end
def bC(H H':Hp):Prop:=∀ b o,H b=some o->H' b=some o
theorem bC.refl(H:Hp):bC H H:=fun _ _ h=>h
theorem bC.seq{K:PySem.W.Frag}{H H':Hp}{a:Addr}{xs:List V}(e:bC H H')(h:bA K H a xs):bA K H' a xs:=by
 rcases h with (h | ⟨o,h⟩) | h
 ·exact .inl (.inl (e _ _ h))
 ·exact .inl (.inr ⟨o,e _ _ h⟩)
 ·exact .inr h
section
variable {κ:Type} [DecidableEq κ]
end
def di(cells:List (Str×Addr)):List (Str×NameKind)->List (Str×Addr)->List (Str×Addr)
 | [],acc=>acc
 | (n,k)::r,acc=>if k=.free then di cells r ((n,(cells.lookup n).getD 0)::acc) else di cells r acc
theorem eQ{scope:Scope}{env:Env}(h:∀ x∈scope.names,x.2=.free->∃ c,env.cells.lookup x.1=some c):closureFor scope env=pure (di env.cells scope.names []):=by
 have all:∀ (l:List (Str×NameKind)) (acc:List (Str×Addr)),(∀ x∈l,x.2=.free->∃ c,env.cells.lookup x.1=some c) ->
   (forIn l acc fun (x:Str×NameKind) (cs:List (Str×Addr))=>(match x with | (name,kind)=>if (kind == NameKind.free)=true then (do let c <- cellOf env name;pure (ForInStep.yield ((name,c)::cs))) else pure (ForInStep.yield cs):Sem (ForInStep (List (Str×Addr)))))=(pure (di env.cells l acc):Sem (List (Str×Addr))):=by
  intro l
  induction l with
  | nil=>intro acc _;rfl
  | cons x r ih =>
   intro acc hl;obtain⟨n,k⟩:=x;rw[List.forIn_cons];by_cases hk:k=.free
   ·subst hk;obtain⟨c,hc⟩:=hl (n,.free) List.mem_cons_self rfl;have e:cellOf env n=pure c:=by unfold cellOf;rw[hc]
    simp only[beq_self_eq_true,if_true,e,di,pure_bind];rw[ih _ fun y hy=>hl y (List.mem_cons_of_mem _ hy),hc];rfl
   ·have hb:(k == NameKind.free)=false:=by simpa using hk
    simp only[hb,Bool.false_eq_true,if_false,di,hk,pure_bind];exact ih _ fun y hy=>hl y (List.mem_cons_of_mem _ hy)
 unfold closureFor;simp only[bind_pure];exact all scope.names [] h
theorem fS{cells:List (Str×Addr)}:∀ {l:List (Str×NameKind)} {acc:List (Str×Addr)},(∀ x∈l,x.2=.free->∃ c,cells.lookup x.1=some c)->(∀ x c,acc.lookup x=some c->cells.lookup x=some c) ->
  ∀ x c,(di cells l acc).lookup x=some c->cells.lookup x=some c
 | [],_,_,h,x,c,e=>h x c e
 | (n,k)::r,acc,hl,h,x,c,e=>by
  unfold di at e;have hr:∀ y∈r,y.2=.free->∃ c,cells.lookup y.1=some c:=fun y hy=>hl y (List.mem_cons_of_mem _ hy)
  split at e
  ·rename_i hk;refine fS hr (fun y d q=>?_) x c e;rw[List.lookup_cons] at q
   split at q
   ·rename_i hy;obtain⟨c',hc'⟩:=hl (n,k) List.mem_cons_self hk;have hy':y=n:=by simpa using hy
    subst hy';simp only[] at hc';rw[hc'] at q ⊢;exact q
   ·exact h y d q
  ·exact fS hr h x c e
theorem gi{cells:List (Str×Addr)}{x:Str}:∀ {l:List (Str×NameKind)} {acc:List (Str×Addr)},(∃ c,acc.lookup x=some c)->∃ c,(di cells l acc).lookup x=some c
 | [],_,h=>h
 | (n,k)::r,acc,h=>by
  unfold di;split
  ·refine gi ?_;rw[List.lookup_cons];split
   ·exact⟨_,rfl⟩
   ·exact h
  ·exact gi h
theorem eH{cells:List (Str×Addr)}{x:Str}:∀ {l:List (Str×NameKind)} {acc:List (Str×Addr)},(x,NameKind.free)∈l->∃ c,(di cells l acc).lookup x=some c
 | [],_,h=>by simp at h
 | (n,k)::r,acc,h=>by
  unfold di;rcases List.mem_cons.mp h with e | h
  ·cases e;rw[if_pos rfl];exact gi ⟨(cells.lookup x).getD 0,by rw[List.lookup_cons];simp⟩
  ·split
   ·exact eH h
   ·exact eH h
def aB(X:Cx)(scope:Scope)(N:List Str)(C:Addr)(s:Shared)(H:Hp)(fp:List Addr):Cx where
 prog:=X.prog
 w:=X.w
 K:=X.K
 mg:=X.mg
 base:=X.base
 A:=X.A
 N:=N
 s₀:=s
 H₀:=H
 env:=compEnvC scope (di X.env.cells scope.names []) C X.env
 outer:=X.stack
 stack:=X.stack
 ex:=fp
 calm:=X.calm
 fn:=fun _=>false
 pn:=[]
 xe:=fun _ _=>False
structure bQ (osc:Scope) (ON:List Str) (scope:Scope) (own N:List Str):Prop where
 kind:scope.kind=.function
 nd:N.Nodup
 len:N.length=own.length+ON.length
 ip:∀ y∈scope.names,y.2≠.cell
 loc:∀ y∈scope.names,y.2=.local->scope.names.lookup y.1=some .local
 free:∀ y∈scope.names,y.2=.free->osc.names.lookup y.1=some .cell\/osc.names.lookup y.1=some .free
 out:∀ p∈ON.zip (N.drop own.length),p.1=p.2\/scope.names.lookup p.2=none
 own:∀ x∈N.drop own.length,scope.names.lookup x≠some .local
theorem cp{scope:Scope}{env:Env}(x:Str)(hn:∀ y∈scope.names,y.2≠.cell):((relabel scope env).names.lookup x=some .local->scope.names.lookup x=some .local) /\
  ((relabel scope env).names.lookup x=some .cell\/(relabel scope env).names.lookup x=some .free->scope.names.lookup x=some .free):=by
 unfold relabel;simp only;revert hn;generalize scope.names=l;intro hn
 induction l with
 | nil=>simp
 | cons y r ih =>
  obtain⟨n,k⟩:=y;have ih:=ih fun y hy=>hn y (List.mem_cons_of_mem _ hy);have hk:k≠.cell:=hn (n,k) List.mem_cons_self;rw[List.map_cons];simp only;by_cases hc:(k == NameKind.free && env.scope.kind == ScopeKind.function && env.kindOf n == some NameKind.cell)=true
  ·rw[if_pos hc,List.lookup_cons,List.lookup_cons];have hf:k=.free:=by
    simp only[Bool.and_eq_true] at hc
    simpa using hc.1.1
   split
   ·subst hf;simp
   ·exact ih
  ·rw[if_neg hc,List.lookup_cons,List.lookup_cons];split
   ·constructor
    ·exact fun h=>h
    ·rintro (h | h)
     ·exact absurd (Option.some.inj h) hk
     ·exact h
   ·exact ih
def De(X:Cx)(ifs:List Expr)(t:TT):Prop:=
 ∀ (pins:List (Addr×Obj)) (s:Shared) (σ:St) (H:Hp) (Q:Bool->Hp->Prop),Inv X pins σ H s->t σ H Q ->
  wpAny (model X.prog X.w) X.A (forIn ifs true fun c r=>if r=true then do let ok <- isTrue c X.env (eval c X.env);pure (ForInStep.yield ok) else pure (ForInStep.yield r)) (TP X pins σ Q) X.xe s
def jK:TT:=fun _ H Q=>Q true H
theorem yo{X:Cx}:De X [] jK:=fun _ _ _ H _ I h=>wpAny_tests_nil ⟨H,I,h⟩
theorem kC{prog:Program}{w:World}{A:Around}{R:Result->Shared->Prop}{s:Shared}{elt target iter:Expr}{ifs:List Expr}{scope:Scope}{pos:Pos}{it acc:Value}{env:Env}(I:Nat->Shared->Prop)
  (turn:∀ n s,I n s->wpAny (model prog w) A (pyNext it) (fun r s₁=>match r with
   | none=>R (.ok .next) s₁
   | some v=>wpAny (model prog w) A (letOwnedTupleGo target it v) (fun _ s₁'=>wpAny (model prog w) A (assign target env v) (fun _ s₂ =>
     wpAny (model prog w) A (forIn ifs true fun c r=>if r=true then do let ok <- isTrue c env (eval c env);pure (ForInStep.yield ok) else pure (ForInStep.yield r)) (fun ok s₃ =>
      if ok=true then wpAny (model prog w) A (eval elt env) (fun x s₄ =>
       wpAny (model prog w) A (call (.builtin "list.append") [acc,x]) (fun _ s₅=>∃ m,m < n/\I m s₅) (fun _ _=>False) s₄) (fun _ _=>False) s₃
      else ∃ m,m < n/\I m s₃) (fun _ _=>False) s₂) (fun _ _=>False) s₁') (fun _ _=>False) s₁) (fun _ _=>False) s)
  (n:Nat) (h:I n s):codeAny (model prog w) A (.compLoop (.ListComp elt [⟨target,iter,ifs,0⟩] scope pos) 0 it acc env) R s:=by
 refine codeAny_loop rfl I (fun n s hI=>?_) n h;show wpAny _ A ((compTurn (.ListComp elt [⟨target,iter,ifs,0⟩] scope pos) 0 it acc env).onRaise (fun x=>do noteFrame x env;theTreesLotGoes x)) _ _ s
 refine wpAny_noted ?_;rw[compTurn_list];refine wpAny_bind (wpAny_standAt (wpAny_bind (wpAny_mono (turn n s hI) (fun r s₁ h₁=>?_) fun _ _ h'=>h'.elim)))
 cases r with
 | none=>exact wpAny_pure h₁
 | some v =>
  refine wpAny_bind (wpAny_mono h₁ (fun _ s₁' h₁'=>?_) fun _ _ h'=>h'.elim);refine wpAny_bind (wpAny_mono h₁' (fun _ s₂ h₂=>wpAny_bind (wpAny_mono h₂ (fun ok s₃ h₃=>?_) fun _ _ h'=>h'.elim)) fun _ _ h'=>h'.elim)
  cases ok with
  | false=>exact wpAny_pure ⟨rfl,h₃⟩
  | true =>
   exact wpAny_bind (wpAny_bind (wpAny_mono h₃ (fun x s₄ h₄=>wpAny_bind (wpAny_mono h₄ (fun _ s₅ h₅=>wpAny_pure (wpAny_pure ⟨rfl,h₅⟩)) fun _ _ h'=>h'.elim)) fun _ _ h'=>h'.elim))
def i5(wi:TI)(k:Nat)(g:TG)(tc:TT)(te:TE):TE:=fun σ H Q=>wi σ H fun J H1=>∀ D,H1 D=none ->
 ∃ W:Nat->Nat->List V->St->Hp->Prop,(∃ m,W 0 m [] (List.replicate k none++σ) (upd H1 D (.lst [])))/\∀ i m ys σ' H',W i m ys σ' H'->H' D=some (.lst ys) /\
  ((J.stop i H'/\Q (.ref D) H')\/(J.go i H'/\ys.length < sizeLine/\∀ x H2,J.yF i H' x H2->g x σ' H2 fun σ3 H3=>tc σ3 H3 fun b H4 =>
   if b=true then te σ3 H4 fun v H5=>H5 D=some (.lst ys)/\∃ m',m' < m/\W (i+1) m' (ys++[v]) σ3 (upd H5 D (.lst (ys++[v])))
   else ∃ m',m' < m/\W (i+1) m' ys σ3 H4))
theorem jD{X:Cx}{osc scope:Scope}{ON own N:List Str}{tg iter elt:Expr}{ifs:List Expr}{pos:Pos}{wi:TI}{g:TG}{tc:TT}{te:TE}(S:bQ osc ON scope own N)(hosc:X.env.scope=osc)(hON:X.N=ON)(hc:X.calm=true)(hi:PI X tg iter wi)
  (hg:∀ C s H fp,PG (aB X scope N C s H fp) tg g) (ht:∀ C s H fp,De (aB X scope N C s H fp) ifs tc) (he:∀ C s H fp,PE (aB X scope N C s H fp) elt te)
  {pins:List (Addr×Obj)} {σ:St} {H:Hp} {s:Shared} {Q:VK} (I:Inv X pins σ H s) (h:i5 wi own.length g tc te σ H Q) {RR:Value->Addr->Result->Shared->Prop}
  (fin:∀ (D C:Addr) (H':Hp) (s':Shared) (m:Str->Option Value),Inv X pins σ H' s'->Q (.ref D) H'->H' C=none->X.s₀.heap.objs.size<=C->C≠X.env.locals->(∀ x c,X.env.cells.lookup x=some c->c≠C)->(∀ p∈X.pn++pins,p.1≠C) ->
   s'.heap.Ns C m->RR (.ref D) C (.ok .next) s') :
  wpAny (model X.prog X.w) X.A (eval iter X.env) (fun x s₁=>wpAny (model X.prog X.w) X.A (pyIter x) (fun it s₂=>wpAny (model X.prog X.w) X.A (newList []) (fun acc s₃ =>
   wpAny (model X.prog X.w) X.A (newFunctionEnv scope X.env.globals (di X.env.cells scope.names []) [] X.env.qual none .none (some X.env)) (fun cenv s₄ =>
    codeAny (model X.prog X.w) X.A (.compStart (.ListComp elt [⟨tg,iter,ifs,0⟩] scope pos) 0 it acc { cenv with scope:=relabel scope X.env }) (RR acc cenv.locals) s₄) X.xe s₃) X.xe s₂) X.xe s₁) X.xe s:=by
 refine bJ (hi pins s σ H _ I h) fun v s1 h1=>bJ h1 fun itv s2 h2=>?_;obtain⟨it,fp,tn,J,H2,e,I2,T,dZ,f2,q⟩:=h2;subst e;refine wpAny_newObj_type (wpAny_newFunctionEnv S.ip (by intro y hy;simp at hy) (fun h₁ hns₁ hsb₁=>?_) S.kind)
 dsimp only at hns₁ hsb₁ ⊢;have I3:Inv X pins σ (upd H2 s2.heap.objs.size (.lst [])) { s2 with heap:=s2.heap.push { cls:=.type "list",data:=.seq ([]:List Value).toArray },toks:=s2.toks }:=I2.B_ (t':=s2.toks) .nil (Nat.zero_le _)
 have hD2:H2 s2.heap.objs.size=none:=I2.fresh;obtain⟨W,⟨m0,w0⟩,turn⟩:=q _ hD2;generalize hs3:({ s2 with heap:=s2.heap.push { cls:=.type "list",data:=.seq ([]:List Value).toArray },toks:=s2.toks }:Shared)=s3 at I3
 have eh3:s3.heap=s2.heap.push { cls:=.type "list",data:=.seq ([]:List Value).toArray }:=by rw[<- hs3]
 generalize hD:s2.heap.objs.size=D at I3 turn w0 hD2 ⊢;generalize hH3:upd H2 D (.lst [])=H3 at I3 w0;rw[<- eh3] at hns₁ hsb₁ ⊢;have hC3:H3 s3.heap.objs.size=none:=I3.fresh;have hsz3:s3.heap.objs.size=D+1:=by rw[eh3,Heap.size_push,hD]
 have fp2:∀ b∈fp,b < s2.heap.objs.size:=fun b hb=>by
  obtain⟨o,e,_⟩:=T.obj _ _ dZ b hb;exact Heap.lt_size e
 have f3:∀ b∈fp,jv X pins H3 b:=fun b hb=>by
  obtain⟨g0,g1⟩:=f2 b hb;refine⟨?_,g1⟩;rw[<- hH3,ae (by rw[<- hD];exact Nat.ne_of_lt (fp2 b hb))]
  exact g0
 have neC:∀ b o,s3.heap.get? b=some o->b≠s3.heap.objs.size:=fun b o e=>Nat.ne_of_lt (Heap.lt_size e);have old:∀ b o,s3.heap.get? b=some o->h₁.get? b=some o:=fun b o e=>hsb₁.extBut b o (neC b o e) (Heap.get?_push_of_some _ e);have hk:=S.kind;have hfr:∀ y∈scope.names,y.2=.free->∃ c,X.env.cells.lookup y.1=some c:=fun y hy hf=>I3.ok.has _ (by subst hosc;exact S.free y hy hf)
 have sub:=fS (acc:=[]) hfr (by intro x c e;simp at e)
 have JB:∀ tk,Inv (aB X scope N s3.heap.objs.size s3 H3 fp) [] (List.replicate own.length none++σ) H3 { s3 with heap:=h₁,toks:=tk }:=fun tk=>by
  refine⟨⟨I3.ok.mod,S.kind,I3.ok.glob,I3.ok.blt,Nat.le_refl _,fun x y c e1 e2=>I3.ok.inj x y c (sub x c e1) (sub y c e2),fun x hx=>?_,fun x c hf _=>(by cases hf),I3.ok.hd,I3.ok.frames,.inl rfl,fun b hb=>?_,I3.bs,Nat.le_trans I3.ok.xH I3.sz,fun b o e hb=>?_,fun b hb hf=>?_,I3.stack,I3.gY,I3.ok.tabs.un I3.base⟩,
   rfl,I3.bare,Un.kept old,⟨_,hns₁,fun i x v e1 e2 e3=>?_⟩,fun x c e=>?_,hC3,fun x c e=>I3.cU x c (sub x c e),fun p hp=>absurd (show p∈([]:List (Addr×Obj)) from hp) (by simp),I3.aJ.kept old,?_⟩
  ·have q:=(cp (env:=X.env) x S.ip).2 hx;exact eH (PySem.mem_of_lookup q)
  ·have hb:b∈fp:=hb;obtain⟨_,g1,g2,g3,g4,g5⟩:=f3 b hb;refine⟨?_,fun x c e=>g4 x c (sub x c e)⟩;have:=fp2 b hb;show b≠s3.heap.objs.size;rw[hsz3,<- hD];exact Nat.ne_of_lt (Nat.lt_succ_of_lt this)
  ·have hb:b∈fp:=hb;obtain⟨_,g1,g2,g3,g4,g5⟩:=f3 b hb;rcases g3 with g3 | g3
   ·exact I3.ok.uO b o e g3
   ·exact absurd (Nat.lt_of_lt_of_le (Heap.lt_size e) (Nat.le_trans I3.ok.xH g3)) (Nat.lt_irrefl _)
  ·have hb:b∈fp:=hb;obtain⟨_,g1,g2,g3,g4,g5⟩:=f3 b hb;rcases List.mem_cons.mp (I3.hV b hf) with z | z
   ·exact g1 z
   ·exact g2 z
  ·have hi:own.length<=i:=by
    rcases Nat.lt_or_ge i own.length with hlt | hge
    ·rw[List.getElem?_append_left (by simpa using hlt),List.getElem?_replicate] at e2
     split at e2<;>cases e2
    ·exact hge
   rw[List.getElem?_append_right (by simpa using hi),List.length_replicate] at e2
   have e1:N[own.length+(i - own.length)]?=some x:=by rw[Nat.add_sub_cancel' hi];exact e1
   have e1d:(N.drop own.length)[i - own.length]?=some x:=by rw[List.getElem?_drop];exact e1
   have nl:scope.names.lookup x≠some .local:=S.own x (List.mem_of_getElem? e1d);have vis:scope.names.lookup x=some .free:=by
    rcases e3 with z | z
    ·exact absurd ((cp (env:=X.env) x S.ip).1 z) nl
    ·exact (cp (env:=X.env) x S.ip).2 z
   have hlen:=I3.len;have hlt:i - own.length < X.N.length:=by
    rw[<- hlen];exact (List.getElem?_eq_some_iff.mp e2).1
   have hxN:X.N[i - own.length]?=some x:=by
    rw[List.getElem?_eq_getElem hlt];have mz:(X.N[i - own.length],x)∈ON.zip (N.drop own.length):=by
     rw[<- hON];refine List.mem_of_getElem? (i:=i - own.length) ?_;rw[List.getElem?_zip_eq_some];exact⟨List.getElem?_eq_getElem hlt,e1d⟩
    rcases S.out _ mz with z | z
    ·exact congrArg some z
    ·exact absurd z (by rw[vis];simp)
   have hko:X.env.scope.names.lookup x=some .cell\/X.env.scope.names.lookup x=some .free:=by subst hosc;exact S.free _ (PySem.mem_of_lookup vis) rfl
   obtain⟨m,hn,hl⟩:=I3.loc;have hv:Bf X.env.scope x:=by
    rcases hko with z | z
    ·exact .inr (.inl z)
    ·exact .inr (.inr z)
   obtain⟨u,ru,lk⟩:=hl _ x v hxN e2 hv;refine⟨u,ru,.inr ⟨?_,?_⟩⟩
   ·rcases e3 with z | z
    ·exact absurd ((cp (env:=X.env) x S.ip).1 z) nl
    ·exact z
   ·rcases lk with ⟨k,_⟩ | ⟨_,c,ec,hcell⟩
    ·exfalso
     have k':X.env.scope.names.lookup x=some .local:=k;rcases hko with z | z
     ·rw[k'] at z;cases z
     ·rw[k'] at z;cases z
    ·obtain⟨c',ec'⟩:=eH (cells:=X.env.cells) (acc:=[]) (PySem.mem_of_lookup vis);have:=sub x c' ec';rw[ec] at this;cases this;obtain⟨o,ho,hd⟩:=hcell;exact⟨c,ec',o,old c o ho,hd⟩
  ·obtain⟨v,o,ho,hd⟩:=I3.cell x c (sub x c e);exact⟨v,o,old c o ho,hd⟩
  ·show (List.replicate own.length none++σ).length=N.length;rw[S.len,List.length_append,List.length_replicate,I3.len,hON]
 have stat:∀ {H':Hp},(∀ b∈fp,H' b=none)->∀ b∈fp,jv (aB X scope N s3.heap.objs.size s3 H3 fp) [] H' b:=fun {H'} hn b hb=>by
  obtain⟨_,g1,g2,g3,g4,g5⟩:=f3 b hb;refine⟨hn b hb,?_,fun hf=>?_,.inl hb,fun x c e=>g4 x c (sub x c e),fun p hp=>absurd (show p∈([]:List (Addr×Obj)) from hp) (by simp)⟩
  ·have:=fp2 b hb;show b≠s3.heap.objs.size;rw[hsz3,<- hD];exact Nat.ne_of_lt (Nat.lt_succ_of_lt this)
  ·rcases List.mem_cons.mp (I3.hV b hf) with z | z
   ·exact g1 z
   ·exact g2 z
 have st4:tn 0 h₁:=T.keep _ _ _ dZ fun b hb o e=>old b o (by rw[eh3];exact Heap.get?_push_of_some _ e)
 have loop:∀ s4:Shared,s4={ s3 with heap:=h₁,toks:=s2.toks+([]:List (Str×Value)).length } ->
   codeAny (model X.prog X.w) X.A (.compLoop (.ListComp elt [⟨tg,iter,ifs,0⟩] scope pos) 0 (.ref it) (.ref D) (aB X scope N s3.heap.objs.size s3 H3 fp).env) (RR (.ref D) s3.heap.objs.size) s4:=by
  rintro s4 rfl;refine kC (fun n s'=>∃ i ys σ' H',Inv (aB X scope N s3.heap.objs.size s3 H3 fp) [] σ' H' s'/\tn i s'.heap/\(∀ b∈fp,H' b=none)/\W i n ys σ' H') ?_ m0 ⟨0,[],_,H3,JB _,st4,fun b hb=>(f3 b hb).1,w0⟩;rintro n s5 ⟨i,ys,σ5,H5,I5,st5,fr5,w5⟩;obtain⟨hD5,ways⟩:=turn i n ys σ5 H5 w5;rcases ways with ⟨stop,qn⟩ | ⟨go,hys,step⟩
  ·refine bJ (T.done (aB X scope N s3.heap.objs.size s3 H3 fp) rfl rfl rfl hc i [] s5 σ5 H5 _ I5 (stat fr5) st5 stop) fun r s6 ⟨hr,I6⟩=>?_;subst hr;obtain⟨m,hn,_⟩:=I6.loc;refine fin D _ H5 s6 m ?_ qn I6.free (Nat.le_trans I3.sz (Nat.le_refl _)) ?_ (fun x c e z=>?_) (fun p hp z=>?_) hn
   ·refine I3.zg (ch:=fp) I6.os I6.base I6.aJ I6.bare fun b hb=>?_;obtain⟨_,g1,g2,g3,g4,g5⟩:=f3 b hb;exact⟨g3,g1,g4,g5⟩
   ·exact Nat.ne_of_gt I3.lt
   ·obtain⟨v,o,ho,_⟩:=I3.cell x c e;exact absurd (Heap.lt_size ho) (by rw[z];exact Nat.lt_irrefl _)
   ·exact absurd (Heap.lt_size (I3.pin p hp).1) (by rw[z];exact Nat.lt_irrefl _)
  ·refine bJ (T.item (aB X scope N s3.heap.objs.size s3 H3 fp) rfl rfl rfl hc i [] s5 σ5 H5 _ I5 (stat fr5) st5 go) fun r s6 ⟨u,hr,h6⟩=>?_;subst hr;refine bJ h6 fun _ s7 ⟨x,H7,I7,r7,y7,st7,fr7⟩=>?_;have I7':=I7.pinned (stat fr7) (T.obj _ _ st7);have back:∀ {σ8:St} {H8:Hp} {s8:Shared},Inv (aB X scope N s3.heap.objs.size s3 H3 fp) ([]++iA fp s7.heap) σ8 H8 s8->tn (i+1) s8.heap/\∀ b∈fp,H8 b=none:=fun {σ8 H8 s8} I8=>by
    refine⟨T.keep _ _ _ st7 fun b hb o e=>(I8.pin (b,o) (List.mem_append_right _ (List.mem_append_right _ (dJ hb e)))).1,fun b hb=>?_⟩;obtain⟨o,e,d⟩:=T.obj _ _ st7 b hb;exact (I8.pin (b,o) (List.mem_append_right _ (List.mem_append_right _ (dJ hb e)))).2.1
   refine bJ (hg _ _ _ _ _ s7 σ5 H7 x u _ I7' r7 (step x H7 y7)) fun _ s8 ⟨σ8,H8,I8,q8⟩=>?_;refine bJ (ht _ _ _ _ _ s8 σ8 H8 _ I8 q8) fun ok s9 ⟨H9,I9,q9⟩=>?_
   cases ok with
   | false =>
    rw[if_neg (by simp)] at q9 ⊢
    obtain⟨m',hm,w9⟩:=q9;exact⟨m',hm,i+1,ys,σ8,H9,I9.eB,(back I9).1,(back I9).2,w9⟩
   | true =>
    rw[if_pos rfl] at q9 ⊢;refine bJ (he _ _ _ _ _ s9 σ8 H9 _ I9 q9) fun y s10 ⟨v10,H10,I10,r10,hD10,m',hm,w10⟩=>?_;refine bJ (dD _ s10 σ8 H10 (.ref D) [v10] (.ref D) [y] (fun r H11=>r=.bf/\H11=upd H10 D (.lst (ys++[v10]))) I10 rfl (.cons r10 .nil) ⟨D,ys,v10,rfl,rfl,hD10,hys,rfl,rfl⟩) fun _ s11 ⟨_,H11,I11,_,_,e11⟩=>?_;subst e11;exact⟨m',hm,i+1,_,σ8,_,I11.eB,(back I11).1,(back I11).2,w10⟩
 have start:=codeAny_compStart_list (R:=RR (.ref D) s3.heap.objs.size) (loop _ rfl) (T.self X.A 0 _ _ _ st4 (loop _ rfl));subst hs3;exact start
theorem wQ{X:Cx}{osc scope:Scope}{ON own N:List Str}{tg iter elt:Expr}{ifs:List Expr}{pos:Pos}{wi:TI}{g:TG}{tc:TT}{te:TE}(S:bQ osc ON scope own N)(hosc:X.env.scope=osc)(hON:X.N=ON)(hc:X.calm=true)(hi:PI X tg iter wi)
  (hg:∀ C s H fp,PG (aB X scope N C s H fp) tg g) (ht:∀ C s H fp,De (aB X scope N C s H fp) ifs tc) (he:∀ C s H fp,PE (aB X scope N C s H fp) elt te)
  (hs:∀ x,foldedSetIterable iter X.env x=pure x:=by intro _;rfl) :
  PE X (.ListComp elt [⟨tg,iter,ifs,0⟩] scope pos) (i5 wi own.length g tc te):=by
 intro pins s σ H Q I h;have hfr:∀ y∈scope.names,y.2=.free->∃ c,X.env.cells.lookup y.1=some c:=fun y hy hf=>I.ok.has _ (by subst hosc;exact S.free y hy hf)
 rw[eval_ListComp];refine wpAny_comprehension_free (use:=none) rfl hs (eQ hfr) S.kind S.loc ?_;refine jD S hosc hON hc hi hg ht he I h (RR:=fun acc C=>compPost (model X.prog X.w) X.A X.xe none (EP X pins σ Q) acc C) ?_;intro D C H' s' m I' q h1 h2 h3 h4 h5 hn;exact⟨m,hn,fun h'' hs''=>⟨.ref D,H',I'.turned (t':=s'.toks) (fun b o hb e=>(hs''.2 b hb).trans e) h1 h3 (.inr h2) h4 h5,rfl,q⟩⟩
theorem n8{X:Cx}{osc scope:Scope}{ON own N:List Str}{tg iter elt:Expr}{ifs:List Expr}{pos spos py:Pos}{wi:TI}{g:TG}{tc:TT}{te:TE}{j:Nat}{y:Str}(hN:X.N.Nodup)(hj:X.N[j]?=some y)(hx:Loc X.env.scope y)(S:bQ osc ON scope own N)(hosc:X.env.scope=osc)(hON:X.N=ON)(hc:X.calm=true)(hi:PI X tg iter wi)
  (hg:∀ C s H fp,PG (aB X scope N C s H fp) tg g) (ht:∀ C s H fp,De (aB X scope N C s H fp) ifs tc) (he:∀ C s H fp,PE (aB X scope N C s H fp) elt te)
  (hsw:swapsWith (.ListComp elt [⟨tg,iter,ifs,0⟩] scope pos) (some (.Name y py)) spos.line X.env=pure true:=by rfl)
  (hf:X.fn y=true\/X.env.scope.names.lookup y=some .local:=by first | exact .inl rfl | exact .inr rfl | assumption)
  (hs:∀ x,foldedSetIterable iter X.env x=pure x:=by intro _;rfl) :
  PS X (.Assign [.Name y py] (.ListComp elt [⟨tg,iter,ifs,0⟩] scope pos) spos) (iG (i5 wi own.length g tc te) (bH j)):=by
 intro pins s σ H Dn I h;have hfr:∀ y∈scope.names,y.2=.free->∃ c,X.env.cells.lookup y.1=some c:=fun y hy hf=>I.ok.has _ (by subst hosc;exact S.free y hy hf)
 rw[exec_Assign_Name_used _ _ _ _ hsw];refine wpAny_bind (wpAny_standAt (wpAny_bind ?_));show wpAny _ X.A (do let _ <- comprehension (.ListComp elt [⟨tg,iter,ifs,0⟩] scope pos) scope X.env _ (newList []) false (eval iter X.env) (some (assign (.Name y py) X.env))) _ _ s
 refine wpAny_bind (wpAny_mono (wpAny_comprehension_free (use:=some (assign (.Name y py) X.env)) (Q:=fun _ s'=>SP X pins Dn .next s') rfl hs (eQ hfr) S.kind S.loc ?_) (fun _ s' hq=>wpAny_pure (wpAny_pure hq)) fun _ _ e=>e);refine jD S hosc hON hc hi hg ht he I h (RR:=fun acc C=>compPost (model X.prog X.w) X.A X.xe (some (assign (.Name y py) X.env)) (fun _ s'=>SP X pins Dn .next s') acc C) ?_;intro D C H' s' m I' q h1 h2 h3 h4 h5 hn;show wpAny _ X.A (assign (.Name y py) X.env (.ref D)) _ _ _;refine wpAny_assign_Name (jN I' hN hj hx (v:=.ref D) rfl (fun s'' I'' hsb=>?_) hf);obtain⟨a,sb,ha⟩:=hsb;have nC:C≠a:=by
  rcases ha with ha | ha
  ·rw[ha];exact h3
  ·exact (h4 y a ha).symm
 exact⟨m,hn.sameBut sb nC,fun h'' hs''=>⟨_,H',I''.turned (t':=s''.toks) (fun b o hb e=>(hs''.2 b hb).trans e) h1 h3 (.inr h2) h4 h5,q⟩⟩
def bY(e:Expr):Bool:=match e with
 | .Starred ..=>false
 | _=>true
theorem b_{e:Expr}{es:List Expr}{env:Env}(h:bY e=true):starEach (e::es) env=(false,eval e env)::starEach es env:=by
 cases e<;>first | rfl | cases h
theorem plain_any{env:Env}{pos:Pos}:∀ {es:List Expr},es.all bY=true->(backTo pos (starEach es env)).any (·.1)=false
 | [],_=>rfl
 | e::es,h=>by
  rw[List.all_cons,Bool.and_eq_true] at h;rw[b_ h.1];show (false || (backTo pos (starEach es env)).any (·.1))=false;rw[plain_any h.2];rfl
theorem plain_all{env:Env}{pos:Pos}:∀ {es:List Expr},es.all bY=true->(backTo pos (starEach es env)).all (fun x=>!x.1)=true
 | [],_=>rfl
 | e::es,h=>by
  rw[List.all_cons,Bool.and_eq_true] at h;rw[b_ h.1];show (true && (backTo pos (starEach es env)).all (fun x=>!x.1))=true;rw[plain_all h.2];rfl
theorem Au{env:Env}{cpos:Pos}{e:Expr}{es:List Expr}(h:(e::es).all bY=true)(hl:(e::es).length < 30):
  ((backTo cpos (starEach (e::es) env)).all (fun x=>!x.1) && (backToKw cpos (keywordEach [] env)).all (fun x=>x.1.isSome) && decide ((e::es).length+([]:List Keyword).length+(if ([]:List Keyword).isEmpty then 0 else 1) < 30))=true:=by
 rw[plain_all h];have e2:(backToKw cpos (keywordEach [] env)).all (fun x=>x.1.isSome)=true:=rfl;rw[e2];have e3:(e::es).length+([]:List Keyword).length+(if ([]:List Keyword).isEmpty then 0 else 1) < 30:=hl
 rw[decide_eq_true e3];rfl
section
variable {X:Cx} {e:Expr} {es:List Expr} {te:TE} {t:TA}
theorem Fo(ha:PE X e te)(hr:PA X es t)(h:bY e=true:=by rfl):PA X (e::es) (fG te t):=pM ha hr (b_ h)
theorem Em{id:String}{x:Str}{p pos:Pos}{r:List V->Hp->VK->Prop}(hc:aV X (.builtin id) r)(hg:Gl X x)(hm:X.mg x=none)(hv:bootBuiltins x=some (.builtin id))(ha:PA X (e::es) t)(h1:bY e=true:=by rfl)(h2:es.all bY=true:=by rfl)(hn:x≠"__name__":=by decide)(hdb:(x ==("__debug__":Str))=false:=by decide):
  PE X (.Call (.Name x p) (e::es) [] pos) (sy r t):=sL hc hg hm hv ha hn hdb (b_ h1) (plain_any h2)
theorem Ee{T:String}{x:Str}{p pos:Pos}{r:List V->Hp->VK->Prop}(hc:aV X (.type T) r)(hg:Gl X x)(hm:X.mg x=none)(hv:bootBuiltins x=some (.type T))(ha:PA X (e::es) t)(h1:bY e=true:=by rfl)(h2:es.all bY=true:=by rfl)(hn:x≠"__name__":=by decide)(hdb:(x ==("__debug__":Str))=false:=by decide):
  PE X (.Call (.Name x p) (e::es) [] pos) (sy r t):=rn hc hg hm hv ha hn hdb (b_ h1) (plain_any h2)
theorem zR{o:Expr}{to:TE}{name:Str}{apos cpos:Pos}{T id:String}{r:V->List V->Hp->VK->Prop}(pa:PlainAttrs T)(slot:Slot T name id)(hty:typeOf (.builtin id)=pure (.type "method_descriptor"))(hm:wH X id r)(ho:PE X o to)(ha:PA X (e::es) t)
  (hbase:attributeBase o name X.env (eval o X.env)=eval o X.env) (hline:(apos.endLine == cpos.line)=true) (h:(e::es).all bY=true) (hl:(e::es).length < 30):PE X (.Call (.Attribute o name apos) (e::es) [] cpos) (Ft X.K T r to t):=by
 have h':=h;rw[List.all_cons,Bool.and_eq_true] at h';exact Eb pa slot hty hm ho ha hbase (Au h hl) hline (b_ h'.1) (plain_any h'.2)
theorem nO{tg a:Expr}{ta:TA}{p pos:Pos}(hg:Gl X "range")(hm:X.mg "range"=none)(ha:PA X [a] ta)(h:bY a=true:=by rfl):PI X tg (.Call (.Name "range" p) [a] [] pos) (tV ta):=rf hg hm ha (b_ h)
theorem om{tg a b:Expr}{ta:TA}{p pos:Pos}(hg:Gl X "range")(hm:X.mg "range"=none)(ha:PA X [a,b] ta)(h:bY a=true:=by rfl)(h2:bY b=true:=by rfl):PI X tg (.Call (.Name "range" p) [a,b] [] pos) (vM ta):=rQ hg hm ha (by rw[b_ h,b_ h2];rfl) (b_ h2)
end
structure HasFn (K:PySem.W.Frag) (mg:Str->Option Value) (x:Str) (st:Stmt) (ps:List Str):Prop where
 ex:∃ (f:Addr) (fd:FuncData),wJ K x x st f fd/\Binds K fd ps []/\mg x=some (.ref f)
structure ai (P:Program) (w:World) (K:PySem.W.Frag) (mg:Str->Option Value) (base:Heap) (CX:lj) (k:Nat) (x:Str) (ps:List Str) (sp:Sp):Prop where
 ex:∃ (f:Addr) (fd:FuncData),mg x=some (.ref f)/\PySem.W.keepIn K (.ref f)=true/\Binds K fd ps []/\dg P w K mg base CX k f fd ps sp
section
variable {P:Program} {w:World} {K:PySem.W.Frag} {mg:Str->Option Value} {base:Heap}
theorem HasFn.ok{x:Str}{st:Stmt}{N ps:List Str}{k:Nat}{sp:Sp}(F:HasFn K mg x st ps)(S:av N ps (aa st))(len:∀ vs H Q E,sp vs H Q E->vs.length=ps.length)
  (hbody:∀ (f:Addr) (cdv:Value) (A:Around) (outer:List Env) (s:Shared) (H:Hp) (vs:List V) (Q:VK) (E:XK),bz k (A.deeper (envOfC x (aa st) s.heap.objs.size f cdv))->sp vs H Q E ->
   ∃ t,nr (fh bT P w K mg base N x (aa st) f cdv A outer s H E).xt (ao st) t/\t { nx:=fun _ H'=>Q .bf H',rt:=Q } (start N vs) H):ai P w K mg base bT (k+1) x ps sp:=by
 obtain⟨f,fd,F1,b,m⟩:=F.ex;exact⟨f,fd,m,F1.kp,b,F1.ok S len fun cdv A outer s H vs Q E hr h=>hbody f cdv A outer s H vs Q E hr h⟩
end
section
variable {X:Cx} {CX:lj} {k:Nat} {ps:List Str} {sp:Sp} {E:XK} {x:Str} {p pos:Pos} {e:Expr} {es:List Expr} {t:TA}
theorem CY(F:ai X.prog X.w X.K X.mg X.base CX k x ps sp)(hr:bz k X.A)(hg:Gl X x)(hx:Passes CX X E)(ha:PA X (e::es) t)(h1:bY e=true:=by rfl)(h2:es.all bY=true:=by rfl)(hdb:(x ==("__debug__":Str))=false:=by decide):
  PE X (.Call (.Name x p) (e::es) [] pos) (eR sp [] E t):=by
 obtain⟨f,fd,m,kp,b,G⟩:=F.ex;exact wY G hr hg m kp b .nil hx ha hdb (b_ h1) (plain_any h2)
theorem Bs(F:ai X.prog X.w X.K X.mg X.base CX k x ps sp)(hr:bz k X.A)(hg:Gl X x)(hx:Passes CX X E)(hdb:(x ==("__debug__":Str))=false:=by decide):
  PE X (.Call (.Name x p) [] [] pos) (eR sp [] E iS):=by
 obtain⟨f,fd,m,kp,b,G⟩:=F.ex;exact uq G hr hg m kp b .nil hx hdb
end
def Bn:Expr->Option V
 | .Constant (.int i) _ _=>some (.int i)
 | .Constant (.str x) _ _=>some (.str x)
 | .Constant (.bool b) _ _=>some (.bl b)
 | .Constant .none _ _=>some .bf
 | _=>none
def jx:List Expr->Option (List V)
 | []=>some []
 | e::es=>match Bn e,jx es with
  | some v,some vs=>some (v::vs)
  | _,_=>none
def tK(vs:List V):TA:=fun _ H Q=>Q vs H
theorem AI{X:Cx}{e:Expr}{v:V}(h:Bn e=some v):PE X e (tC v)/\∀ es,starEach (e::es) X.env=(false,eval e X.env)::starEach es X.env:=by
 unfold Bn at h
 split at h
 ·cases h;exact⟨iR,fun _=>rfl⟩
 ·cases h;exact⟨vN,fun _=>rfl⟩
 ·cases h;exact⟨yQ,fun _=>rfl⟩
 ·cases h;exact⟨BD,fun _=>rfl⟩
 ·cases h
theorem j0{X:Cx}:∀ {es:List Expr} {vs:List V},jx es=some vs->PA X es (tK vs)
 | [],vs,h=>by cases h;exact uG
 | e::es,vs,h=>by
  unfold jx at h
  split at h
  ·rename_i v ws e1 e2;cases h;have p:=AI (X:=X) e1;exact pM (te:=tC v) (t:=tK ws) p.1 (j0 e2) (p.2 es)
  ·cases h
def sq(H:Hp)(p:Addr):Option (Bool×List V):=match H p with
 | some (.lst xs)=>some (true,xs)
 | some (.tup xs)=>some (false,xs)
 | some (.eN _ (.lst xs))=>some (true,xs)
 | some (.eN _ (.tup xs))=>some (false,xs)
 | _=>none
theorem kR{K:PySem.W.Frag}{H:Hp}{p:Addr}{xs:List V}(h:sq H p=some (true,xs)):bA K H p xs:=by
 unfold sq at h
 split at h
 ·rename_i e;cases h;exact .inl (.inl e)
 ·cases h
 ·rename_i e;cases h;exact .inl (.inr ⟨_,e⟩)
 ·cases h
 ·cases h
theorem hU{K:PySem.W.Frag}{H:Hp}{p:Addr}{xs:List V}(h:sq H p=some (false,xs)):bj K H p xs:=by
 unfold sq at h
 split at h
 ·cases h
 ·rename_i e;cases h;exact .inl (.inl e)
 ·cases h
 ·rename_i e;cases h;exact .inl (.inr ⟨_,e⟩)
 ·cases h
theorem fT{H:Hp}{p:Addr}{xs:List V}(h:H p=some (.lst xs)):sq H p=some (true,xs):=by unfold sq;rw[h]
section
variable {X:Cx}
def fq(K:PySem.W.Frag):R2:=fun x y H Q=>match x,y with
 | .int i,.int j=>Q (.int (i+j)) H
 | .str i,.str j=>i.length+j.length<=sizeLine/\Q (.str (i++j)) H
 | .ref a,.ref b=>match H a,H b with
  | some (.lst xs),some (.lst ys)=>xs.length+ys.length<=sizeLine/\∀ p,H p=none->Q (.ref p) (upd H p (.lst (xs++ys)))
  | some (.tup xs),some (.tup ys)=>xs≠[]/\ys≠[]/\xs.length+ys.length<=sizeLine/\∀ p,H p=none->Q (.ref p) (upd H p (.tup (xs++ys)))
  | _,_=>False
 | _,_=>False
theorem xE:cJ X (binaryOp .Add) (fq X.K):=by
 intro pins s σ H x y v u Q I rx ry h
 cases x with
 | int i=>cases y with
  | int j=>exact tH pins s σ H _ _ v u Q I rx ry ⟨i,j,rfl,rfl,h⟩
  | _=>exact (show False from h).elim
 | str i=>cases y with
  | str j=>exact g_ pins s σ H _ _ v u Q I rx ry ⟨i,j,rfl,rfl,h.1,h.2⟩
  | _=>exact (show False from h).elim
 | ref a=>cases y with
  | ref b =>
   unfold fq at h;simp only at h
   split at h
   ·rename_i xs ys e1 e2;exact sJ pins s σ H _ _ v u Q I rx ry ⟨a,b,xs,ys,rfl,rfl,e1,e2,h.1,h.2⟩
   ·rename_i xs ys e1 e2;obtain⟨h1,h2,h3,h4⟩:=h;exact ph pins s σ H _ _ v u Q I rx ry ⟨a,b,xs,ys,rfl,rfl,bj.of e1,bj.of e2,h1,h3,fun z=>absurd z h2,fun _=>h4⟩
   ·exact h.elim
  | _=>exact (show False from h).elim
 | _=>exact (show False from h).elim
def BN:R2:=fun x y H Q=>match x,y with
 | .int i,.int j=>kX i j/\Q (.int (i*j)) H
 | .ref a,.int j=>DU (.ref a) (.int j) H Q
 | _,_=>False
theorem oY:cJ X (binaryOp .Mult) BN:=by
 intro pins s σ H x y v u Q I rx ry h
 cases x with
 | int i=>cases y with
  | int j=>exact A2 pins s σ H _ _ v u Q I rx ry ⟨i,j,rfl,rfl,h.1,h.2⟩
  | _=>exact (show False from h).elim
 | ref a=>cases y with
  | int j=>exact Cc pins s σ H _ _ v u Q I rx ry h
  | _=>exact (show False from h).elim
 | _=>exact (show False from h).elim
def Cq(K:PySem.W.Frag):R2:=fun x y H Q=>match x,y with
 | .str z,.int i=>z.length<=sizeLine/\(match bX z.cps.toList i with | some c=>Q (.str ⟨#[c]⟩) H | none=>False)
 | .ref p,.int i=>match sq H p with
  | some (_,xs)=>(match bX xs i with | some v=>Q v H | none=>False)
  | none=>∃ xs v,bj K H p xs/\bX xs i=some v/\Q v H
 | _,_=>False
theorem GQ{k:Nat}(hu:k < cLine):pC X (Cq X.K):=by
 intro value slice pins s σ H x y v u Q I rx ry h hs;refine tU value slice pins s σ H x y v u Q I rx ry ?_ hs
 cases x with
 | str z=>cases y with
  | int i =>
   obtain⟨hz,h⟩:=h
   split at h
   ·rename_i c e;exact .inr (.inr ⟨z,i,c,rfl,rfl,hz,e,h⟩)
   ·exact h.elim
  | _=>exact (show False from h).elim
 | ref p=>cases y with
  | int i =>
   unfold Cq at h;simp only at h
   split at h
   ·rename_i b xs e
    split at h
    ·rename_i w' e'
     cases b with
     | true=>exact .inl ⟨p,xs,i,w',rfl,rfl,kR e,e',h⟩
     | false=>exact .inr (.inl ⟨p,xs,i,w',rfl,rfl,hU e,e',h⟩)
    ·exact h.elim
   ·obtain⟨xs,w',hq,e',h⟩:=h;exact .inr (.inl ⟨p,xs,i,w',rfl,rfl,hq,e',h⟩)
  | _=>exact (show False from h).elim
 | _=>exact (show False from h).elim
def FI(K:PySem.W.Frag):V->Option Int->Option Int->Hp->VK->Prop:=fun x lo hi H Q=>match x with
 | .ref p=>match sq H p with
  | some (true,xs)=>∀ q,H q=none->Q (.ref q) (upd H q (.lst (kP xs lo hi)))
  | some (false,xs)=>xb K (.ref p) lo hi H Q
  | none=>xb K (.ref p) lo hi H Q
 | _=>False
def vz:V->V->V->Hp->(Hp->Prop)->Prop:=fun o i v H Q=>match o,i with
 | .ref p,.int k=>match H p with
  | some (.lst xs)=>(match kW xs.length k with | some j=>Q (upd H p (.lst (xs.set j v))) | none=>False)
  | _=>False
 | _,_=>False
theorem uset:AQ X vz:=by
 intro pins s σ H o i v ov iv u Q I ro ri rv h
 cases o with
 | ref p=>cases i with
  | int k =>
   unfold vz at h;simp only at h
   split at h
   ·rename_i xs e
    split at h
    ·rename_i j e';exact set_list pins s σ H _ _ v ov iv u Q I ro ri rv ⟨p,xs,k,j,rfl,rfl,e,e',h⟩
    ·exact h.elim
   ·exact h.elim
  | _=>exact (show False from h).elim
 | _=>exact (show False from h).elim
def CI:List V->Hp->VK->Prop:=fun xs H Q=>match xs with
 | [.int i,.int j]=>Q (.int (if j < i then j else i)) H
 | _=>False
theorem rB(hc:X.calm=true):aV X (.builtin "min") CI:=by
 intro pins s σ H xs us Q I r h;rcases xs with _ | ⟨x,_ | ⟨y,_ | ⟨z,xs⟩⟩⟩
 ·exact (show False from h).elim
 ·cases x<;>exact (show False from h).elim
 ·cases x with
  | int i=>cases y with
   | int j=>exact qH hc pins s σ H _ us Q I r ⟨i,j,rfl,h⟩
   | _=>exact (show False from h).elim
  | _=>exact (show False from h).elim
 ·cases x with
  | int i=>cases y<;>exact (show False from h).elim
  | _=>exact (show False from h).elim
def DL:List V->Hp->VK->Prop:=fun xs H Q=>match xs with
 | [.int i,.int j]=>Q (.int (if j > i then j else i)) H
 | _=>False
theorem qG(hc:X.calm=true):aV X (.builtin "max") DL:=by
 intro pins s σ H xs us Q I r h;rcases xs with _ | ⟨x,_ | ⟨y,_ | ⟨z,zs⟩⟩⟩
 ·exact (show False from h).elim
 ·cases x<;>exact (show False from h).elim
 ·cases x with
  | int i=>cases y with
   | int j=>exact rX hc pins s σ H _ us Q I r ⟨i,j,rfl,h⟩
   | _=>exact (show False from h).elim
  | _=>exact (show False from h).elim
 ·cases x<;>first | exact (show False from h).elim | (cases y<;>exact (show False from h).elim)
def du(K:PySem.W.Frag):List V->Hp->VK->Prop:=fun xs H Q=>match xs with
 | [.ref p]=>match sq H p with
  | some (true,ys)=>∀ l,H l=none->Q (.ref l) (upd H l (.tup ys))
  | some (false,_)=>Q (.ref p) H
  | none=>∃ ys,bj K H p ys/\Q (.ref p) H
 | _=>False
theorem m7:aV X (.type "tuple") (du X.K):=by
 intro pins s σ H xs us Q I r h;rcases xs with _ | ⟨x,_ | ⟨y,xs⟩⟩
 ·exact (show False from h).elim
 rotate_left
 ·cases x<;>exact (show False from h).elim
 cases x with
 | ref p =>
  unfold du at h;simp only at h
  split at h
  ·rename_i ys e;exact cE pins s σ H _ us Q I r ⟨p,ys,rfl,.inl ⟨kR e,h⟩⟩
  ·rename_i ys e;exact cE pins s σ H _ us Q I r ⟨p,ys,rfl,.inr ⟨hU e,h⟩⟩
  ·obtain⟨ys,hq,h⟩:=h;exact cE pins s σ H _ us Q I r ⟨p,ys,rfl,.inr ⟨hq,h⟩⟩
 | _=>exact (show False from h).elim
def CG:List V->Hp->VK->Prop:=fun xs H Q=>match xs with
 | [.int i]=>Q (.int i) H
 | [.bl k]=>Q (.int (if k=true then 1 else 0)) H
 | _=>False
theorem jE:aV X (.type "int") CG:=by
 intro pins s σ H xs us Q I r h;rcases xs with _ | ⟨x,_ | ⟨y,ys⟩⟩
 ·exact (show False from h).elim
 ·cases x with
  | int i=>exact jz pins s σ H _ us Q I r (.inl ⟨i,rfl,h⟩)
  | bl k=>exact jz pins s σ H _ us Q I r (.inr ⟨k,rfl,h⟩)
  | _=>exact (show False from h).elim
 ·cases x<;>exact (show False from h).elim
theorem qJ(hc:X.calm=true):aV X (.builtin "sum") (fun xs H Q=>∃ (p:Addr) (ns:List Int),xs=[.ref p]/\bA X.K H p (ns.map V.int)/\Q (.int ns.sum) H):=by
 intro pins s σ H xs us Q I r h;obtain⟨p,ns,rfl,hq,q⟩:=h;obtain⟨u,rfl,ru⟩:=vals1 r;cases ru;obtain⟨its,rv,pl,hz⟩:=I.list hq;have hi:=intsAre_of rv;obtain⟨xs,hx⟩:=hi.allInts.items;have hl':s.heap.IsList p (intItems xs):=by rw[<- hx];exact pl.isList
 refine sum_intListG (I.ok.hd hc) hl' fun h' tk t' hk=>?_;have e1:ns=xs.toList.map (·.1):=by rw[<- nums_intItems,<- hx];exact hi.numsOf.symm
 have e2:preSum (numAt xs) xs.size=ns.sum:=by rw[preSum_eq,List.take_of_length_le (by simp),e1]
 rw[e2];exact⟨.int ns.sum,H,I.kept hk,⟨_,rfl⟩,q⟩
def yR(H:Hp):V->Option String
 | .bf=>some "NoneType"
 | .bl _=>some "bool"
 | .int _=>some "int"
 | .str _=>some "str"
 | .ref a=>match H a with
  | some (.lst _)=>some "list"
  | some (.tup _)=>some "tuple"
  | some (.dK _)=>some "dict"
  | _=>none
 | _=>none
theorem BI{K:PySem.W.Frag}{H:Hp}{x:V}{t:String}(h:yR H x=some t):fC K H x (.type t):=by
 unfold yR at h
 split at h
 ·cases h;exact .bf
 ·cases h;exact .bl _
 ·cases h;exact .int _
 ·cases h;exact .str _
 ·split at h
  ·rename_i e;cases h;exact .lst e
  ·rename_i e;cases h;exact .tup e
  ·rename_i e;cases h;exact .dK e
  ·cases h
 ·cases h
def eK(t c:String):Bool:=decide (t=c) || (t == "bool" && c == "int")
theorem tT{K:PySem.W.Frag}{t c:String}(ht:t∈["NoneType","bool","int","str","list","tuple","dict"])(hc:c∈["bool","int","str","list","tuple","dict"]):PySem.W.kitOne K (.type t) (.type c)=some (eK t c):=by
 simp only[List.mem_cons,List.not_mem_nil,or_false] at ht hc;rcases ht with rfl | rfl | rfl | rfl | rfl | rfl | rfl<;>rcases hc with rfl | rfl | rfl | rfl | rfl | rfl<;>rfl
theorem AW{H:Hp}{x:V}{t:String}(h:yR H x=some t):t∈["NoneType","bool","int","str","list","tuple","dict"]:=by
 unfold yR at h
 split at h
 ·cases h;decide
 ·cases h;decide
 ·cases h;decide
 ·cases h;decide
 ·split at h
  ·cases h;decide
  ·cases h;decide
  ·cases h;decide
  ·cases h
 ·cases h
def mj(K:PySem.W.Frag):List V->Hp->VK->Prop:=fun xs H Q=>match xs with
 | [x,.ty T]=>T∈["bool","int","str","list","tuple","dict"]/\match yR H x with
  | some t=>Q (.bl (eK t T)) H
  | none=>∃ t b,fC K H x t/\PySem.W.kitOne K t (.type T)=some b/\Q (.bl b) H
 | _=>False
theorem rd:aV X (.builtin "isinstance") (mj X.K):=by
 intro pins s σ H xs us Q I r h;rcases xs with _ | ⟨x,_ | ⟨y,_ | ⟨z,xs⟩⟩⟩
 ·exact (show False from h).elim
 ·exact (show False from h).elim
 rotate_left
 ·cases y<;>exact (show False from h).elim
 cases y with
 | ty T =>
  obtain⟨u,w',rfl,r1,r2⟩:=vals2 r;cases r2;obtain⟨hT,h⟩:=h
  split at h
  ·rename_i t e;exact jC I r1 (BI e) (tT (AW e) hT) fun tk=>⟨.bl _,H,I.tok _,rfl,h⟩
  ·obtain⟨t,b,ty,k,q⟩:=h;exact jC I r1 ty k fun tk=>⟨.bl b,H,I.tok _,rfl,q⟩
 | _=>exact (show False from h).elim
theorem Bq{x:Str}{T:String}{pos:Pos}(hg:Gl X x)(hm:X.mg x=none)(hv:bootBuiltins x=some (.type T))(hn:x≠"__name__":=by decide)(hd:(x ==("__debug__":Str))=false:=by decide):PE X (.Name x pos) (tC (.ty T)):=wM hg hm hv rfl hn hd
end
section
variable {X:Cx} {o e:Expr} {es:List Expr} {to:TE} {t:TA} {apos cpos:Pos}
end
section
variable {X:Cx} {e:Expr} {te:TE}
end
open AutoSeq1 (wpAny_loadPart')
section
variable {prog:Program} {w:World} {A:Around} {E:Value->Shared->Prop} {s:Shared}
theorem gK{it l:Addr}{i:Nat}{items:Array Value}{x:Value}{Q:Value->Shared->Prop}(hit:s.heap.IsTupleIter it l i)(hl:s.heap.IsTuple l items)(hx:items[i]?=some x)
  (hQ:∀ h',h'.IsTupleIter it l (i+1)->Heap.SameBut it s.heap h'->Q x { s with heap:=h' }):wpAny (model prog w) A (Builtin.SmallTypes.nextOf (.ref it)) Q E s:=by
 obtain⟨o,ho,hc,hd⟩:=id hit;obtain⟨ol,hol,_,nl,hdl⟩:=hl;unfold Builtin.SmallTypes.nextOf;refine wpAny_bind (wpAny_callSpecial?_slot (name:=Str.ofString "__next__") hit.typeIs F.slot_tuple_iterator_next (wpAny_call_entry F.slot_tuple_iterator_next hit.typeIs F.entry_tuple_iterator_next ?_ (F.args_tuple_iterator_next_1 _)));show wpAny _ _ (field (.ref it) 0 >>= _) _ _ s;refine wpAny_bind (wpAny_field ho hd (x:=.ref l) rfl ?_);show wpAny _ _ (if (Value.ref l == Value.none)=true then _ else _) _ _ s
 rw[if_neg (show ¬ ((Value.ref l == Value.none)=true) from Bool.false_ne_true)];show wpAny _ _ (field (.ref it) 1 >>= _) _ _ s;refine wpAny_bind (wpAny_field ho hd (x:=.int i 0) rfl ?_);show wpAny _ _ (seqItems? (.ref l) >>= _) _ _ s;refine wpAny_bind (wpAny_seqItems hol hdl ?_);simp only[Int.toNat_natCast,hx];refine wpAny_bind (wpAny_setField ho hd (by simp) (wpAny_pure ⟨x,rfl,wpAny_pure (hQ _ ?_ (Heap.SameBut.update ..))⟩))
 exact⟨_,Heap.get?_update_self _ ho (Obj.isFreed_of_fields (Obj.data_mapFields hd _)),(Obj.cls_mapFields ..).trans hc,by rw[Obj.data_mapFields hd];simp[rawInt]⟩
theorem h9{it l:Addr}{i:Nat}{items:Array Value}{Q:Value->Shared->Prop}(hh:A.handled=none)(hit:s.heap.IsTupleIter it l i)(hl:s.heap.IsTuple l items)(hx:items[i]?=none)
  (hE:∀ h' e,Heap.ExtBut it s.heap h'->(∃ o,h'.get? e=some o/\o.cls=.type "StopIteration")->E (.ref e) { s with heap:=h' }):wpAny (model prog w) A (Builtin.SmallTypes.nextOf (.ref it)) Q E s:=by
 obtain⟨o,ho,hc,hd⟩:=id hit;obtain⟨ol,hol,_,nl,hdl⟩:=hl;unfold Builtin.SmallTypes.nextOf;refine wpAny_bind (wpAny_callSpecial?_slot (name:=Str.ofString "__next__") hit.typeIs F.slot_tuple_iterator_next (wpAny_call_entry F.slot_tuple_iterator_next hit.typeIs F.entry_tuple_iterator_next ?_ (F.args_tuple_iterator_next_1 _)));show wpAny _ _ (field (.ref it) 0 >>= _) _ _ s;refine wpAny_bind (wpAny_field ho hd (x:=.ref l) rfl ?_);show wpAny _ _ (if (Value.ref l == Value.none)=true then _ else _) _ _ s
 rw[if_neg (show ¬ ((Value.ref l == Value.none)=true) from Bool.false_ne_true)];show wpAny _ _ (field (.ref it) 1 >>= _) _ _ s;refine wpAny_bind (wpAny_field ho hd (x:=.int i 0) rfl ?_);show wpAny _ _ (seqItems? (.ref l) >>= _) _ _ s;refine wpAny_bind (wpAny_seqItems hol hdl ?_);simp only[Int.toNat_natCast,hx];refine wpAny_bind (wpAny_rule (wpAny_bind (wpAny_setField ho hd (by simp) ?_)))
 show wpAny _ _ (newExc (.type "StopIteration") [] >>= _) _ _ _;refine wpAny_bind ?_;simp only[newExc,newTuple];refine wpAny_bind (wpAny_newObj_type ?_ (by size_fits))
 refine wpAny_bind (m:=firstArgMember _ _) (wpAny_of_eq (a:=Value.none) (by first | rfl | (simp only[firstArgMember];rfl)) ?_)
 refine wpAny_newObj_type ?_ (by size_fits)
 simp only[raiseNew];refine wpAny_bind (wpAny_handled ?_)
 first | rw[show A.in1.handled=none from hh] | rw[hh]
 refine wpAny_bind (wpAny_pure (wpAny_throw ?_));exact hE _ _ (((Heap.SameBut.update ..).extBut.push _).push _) ⟨_,Heap.get?_push_size _ rfl,rfl⟩
theorem fU(hh:A.handled=none)(it l:Addr)(hne:l≠it)(items:Array Value):
  Draws prog w A it [it,l] items.size (fun i v=>items[i]?=some v) (fun i h=>h.IsTupleIter it l i/\h.IsTuple l items) where
 live:=fun _ _ st=>let ⟨o,ho,_⟩:=st.1;⟨o,ho⟩
 frame:=fun _ _ _ st hk=>⟨let ⟨o,e,r⟩:=st.1;⟨o,hk it (by simp) o e,r⟩,let ⟨o,e,r⟩:=st.2;⟨o,hk l (by simp) o e,r⟩⟩
 item:=fun i s Q E hi st hQ=>by
  refine gK st.1 st.2 (x:=items[i]) (by simp[hi]) fun h' hit' hs'=>?_
  exact hQ _ h' s.toks (by simp[hi]) ⟨hit',st.2.extBut hs'.extBut hne⟩ hs'
 done:=fun s Q E st hE=>h9 hh st.1 st.2 (by simp) hE
theorem ik(l:Addr)(items:Array Value)(n:Nat)(dct:Option Addr)(sl:Array (Option Value)):
  Meets (Builtin.«enumerate.__new__» ⟨[.type "enumerate",.ref l],[]⟩) (fun _ R s=>s.heap.get? l=some { cls:=.type "tuple",dict:=dct,data:=.seq items n,slots:=sl } /\
   R (.ok (.ret (.ref (s.heap.push { cls:=.type "tuple_iterator",data:=.fields #[.ref l,.int 0 0] }).objs.size)))
    { s with heap:=(s.heap.push { cls:=.type "tuple_iterator",data:=.fields #[.ref l,.int 0 0] }).push { cls:=.type "enumerate",data:=.fields #[.none,.bool false,.ref s.heap.objs.size,rawInt 0,.none,.none] } }):=
 .of_wp fun prog w A R s h=>by
  obtain⟨hp,g,d,tk,os⟩:=s;obtain⟨hl,h⟩:=h;have hsub:=sub_enumerate;have hL:Heap.IsTuple (Shared.heap ⟨hp,g,d,tk,os⟩) l items:=⟨_,hl,rfl,n,rfl⟩;wp_walk using wpAny_loadPart' hl;refine wpAny_stack_any fun st=>wpAny_pure ?_;split
  ·rename_i c _ _ _ _ _
   cases (c == Value.type "enumerate")<;>(wp_walk using wpAny_loadPart' hl,wpAny_pyIter_tuple hL;exact⟨_,rfl,h⟩)
  ·wp_walk using wpAny_loadPart' hl,wpAny_pyIter_tuple hL;exact⟨_,rfl,h⟩
theorem jm{l:Addr}{items:Array Value}{Q:Value->Shared->Prop}(hL:s.heap.IsTuple l items)
  (h:∀ h',IsEnum h' (s.heap.objs.size+1) s.heap.objs.size 0 .none->h'.IsTupleIter s.heap.objs.size l 0->h'.objs.size=s.heap.objs.size+2 ->
   (∀ b o,s.heap.get? b=some o->h'.get? b=some o)->Q (.ref (s.heap.objs.size+1)) { s with heap:=h' }) :
  wpAny (model prog w) A (call (.type "enumerate") [.ref l]) Q E s:=by
 obtain⟨⟨c,dct,dt,sl⟩,hl,hc,n,hd⟩:=hL
 replace hc:c=.type "tuple":=hc
 replace hd:dt=.seq items n:=hd
 subst hc hd;refine callType_new F.called_enumerate (by decide) (F.typeCall_enumerate_1 _) (F.newCall_enumerate_1 _) (fun obj=>F.args_object_init_2 obj _) F.entry_enumerate_new (ik l items n dct sl) ⟨hl,?_⟩
 have hz:(s.heap.push { cls:=.type "tuple_iterator",data:=.fields #[.ref l,.int 0 0] }).objs.size=s.heap.objs.size+1:=Heap.size_push ..;show _/\_;rw[hz];have he:IsEnum ((s.heap.push { cls:=.type "tuple_iterator",data:=.fields #[.ref l,.int 0 0] }).push { cls:=.type "enumerate",data:=.fields #[.none,.bool false,.ref s.heap.objs.size,rawInt 0,.none,.none] }) (s.heap.objs.size+1) s.heap.objs.size 0 .none:=by
  have:=Heap.get?_push_size (s.heap.push { cls:=.type "tuple_iterator",data:=.fields #[.ref l,.int 0 0] }) (o:={ cls:=.type "enumerate",data:=.fields #[.none,.bool false,.ref s.heap.objs.size,rawInt 0,.none,.none] }) rfl;rw[hz] at this;exact this
 refine⟨⟨_,he,rfl⟩,h _ he ⟨_,Heap.get?_push_of_some _ (Heap.get?_push_size _ rfl),rfl,rfl⟩ (by rw[Heap.size_push,hz]) fun b o x=>Heap.get?_push_of_some _ (Heap.get?_push_of_some _ x)⟩
end
section
variable {X:Cx} {pins:List (Addr×Obj)} {σ:St} {H:Hp} {s:Shared} {h':Heap}
theorem Inv.turns{fp:List Addr}{t':Nat}(I:Inv X pins σ H s)(hf:∀ b∈fp,jv X pins H b)(k:∀ b o,b∉fp->s.heap.get? b=some o->h'.get? b=some o):Inv X pins σ H { s with heap:=h',toks:=t' }:=by
 have nf:∀ b u,H b=some u->b∉fp:=fun b u e z=>by rw[(hf b z).1] at e;cases e
 refine I.step (g':=s.gens) (d':=s.drawn) (ch:=fp) (fun b hb=>?_) (fun b o _ _ hc e _=>k b o hc e) (fun b o _ _ hc e _=>⟨o.slots,k b o hc e⟩) (fun _ _ _ _ n=>n)
  (fun b o hc e=>⟨o,k b o hc e⟩) (fun _ _ e=>e) (fun _ _ _ e=>e) (fun b ps e=>⟨#[],by rw[e];simp⟩) (fun m hm=>?_) (fun b u e=>?_) I.bare
 ·obtain⟨_,g1,g2,g3,g4,g5⟩:=hf b hb;exact⟨g3,g1,g4,g5⟩
 ·obtain⟨o,es,ep,ho,r⟩:=hm;exact⟨o,es,ep,k _ o (fun z=>(hf _ z).2.1 rfl) ho,r⟩
 ·refine (I.aJ b u e).ic (fun c v hc q=>k c v ?_ q) (fun _ q=>q) (fun _ _ q=>q) fun _ _ _ q=>q;rcases hc with z | z
  ·rw[z];exact nf b u e
  ·exact nf c _ z
theorem Inv.pj{fp:List Addr}{p:Addr}{o:HO}{t':Nat}(I:Inv X pins σ H s)(hf:∀ b∈fp,jv X pins H b)(hp:s.heap.objs.size<=p)(k:∀ b o,b∉fp->s.heap.get? b=some o->h'.get? b=some o)
  (new:bp X.prog X.w (upd H p o) h' p o):Inv X pins σ (upd H p o) { s with heap:=h',toks:=t' }:=by
 have nf:∀ b u,H b=some u->b∉fp:=fun b u e z=>by rw[(hf b z).1] at e;cases e
 have fr:H p=none:=I.aJ.fresh hp;have np:∀ b u,H b=some u->b≠p:=fun b u e=>ak e fr;have ne:∀ b o,s.heap.get? b=some o->b≠p:=fun b o e z=>by rw[z] at e;exact absurd (Nat.lt_of_lt_of_le (Heap.lt_size e) hp) (Nat.lt_irrefl _)
 refine I.step (g':=s.gens) (d':=s.drawn) (ch:=fp) (fun b hb=>?_) (fun b o _ _ hc e _=>k b o hc e) (fun b o _ _ hc e _=>⟨o.slots,k b o hc e⟩) (fun b o _ e n=>by rw[ae (ne b o e)];exact n)
  (fun b o hc e=>⟨o,k b o hc e⟩) (fun b xs e=>by rw[ae (np b _ e)];exact e) (fun b o u e=>by rw[ae (np b _ e)];exact e) (fun b ps e=>⟨#[],by rw[ae (np b _ e),e];simp⟩) (fun m hm=>?_) (fun b u e=>?_) I.bare
 ·obtain⟨_,g1,g2,g3,g4,g5⟩:=hf b hb;exact⟨g3,g1,g4,g5⟩
 ·obtain⟨o,es,ep,ho,r⟩:=hm;exact⟨o,es,ep,k _ o (fun z=>(hf _ z).2.1 rfl) ho,r⟩
 ·by_cases hb:b=p
  ·subst hb;rw[af] at e;cases e;exact new
  ·rw[ae hb] at e;refine (I.aJ b u e).ic (fun c v hc q=>k c v ?_ q) (fun c q=>by rw[ae (np c _ q)];exact q) (fun c xs q=>by rw[ae (np c _ q)];exact q) fun c _ _ q=>by rw[ae (np c _ q)];exact q
   rcases hc with z | z
   ·rw[z];exact nf b u e
   ·exact nf c _ z
end
def Gg(K:PySem.W.Frag)(a:Addr):Nat->Hp->V->Prop:=fun i H x=>∃ xs,bj K H a xs/\xs[i]?=some x
def Fd(K:PySem.W.Frag)(a:Addr):Nat->Hp->Prop:=fun i H=>∃ xs,bj K H a xs/\xs.length=i
def xK(K:PySem.W.Frag)(a:Addr):It:=
 ⟨fun i H=>∃ x,Gg K a i H x,fun i H x H'=>∃ p y,(∀ xs,bj K H a xs->xs[i]?=some y)/\H p=none/\x=.ref p/\H'=upd H p (.tup [.int i,y]),Fd K a⟩
theorem ot{P:Program}{w:World}{K:PySem.W.Frag}{es:List Expr}{tk:Nat}{tp:Pos}(a it e:Addr)(hne:e≠it):Turn P w K (.Tuple es tk tp) (xK K a) [e,it] e (fun i h=>(∃ old,IsEnum h e it i old)/\h.IsTupleIter it a i) where
 mem:=by simp
 obj:=fun i h st b hb=>by
  obtain⟨⟨old,he⟩,o,eo,c,d⟩:=st;rcases List.mem_cons.mp hb with z | z
  ·subst z;exact⟨_,he,fun v z=>by cases z⟩
  ·have z:b=it:=by simpa using z
   subst z;exact⟨o,eo,fun v z=>by rw[d] at z;cases z⟩
 keep:=fun i h h' st k=>by
  obtain⟨⟨old,he⟩,o,eo,r⟩:=st;exact⟨⟨old,k e (by simp) _ he⟩,o,k it (by simp) o eo,r⟩
 item:=by
  intro X hP hw hK hc i pins s σ H E I hf st hg;subst hP hw hK;obtain⟨x,xs,hq,hx⟩:=hg;obtain⟨⟨old,he⟩,hit⟩:=st;obtain⟨its,rv,p,hz⟩:=I.tuple hq;obtain⟨u,hu,ru⟩:=rv.get hx;obtain⟨g0,g1,g2,g3,g4,g5⟩:=hf e (by simp)
  obtain⟨f0,f1,f2,f3,f4,f5⟩:=hf it (by simp)
  have ht:s.heap.IsTuple a its.toArray:=p;have ha:a≠it:=by
   rintro rfl;obtain⟨o,e1,c1,_⟩:=hit;obtain⟨o',e2,c2,_⟩:=ht;rw[e1] at e2;cases e2;rw[c1] at c2;exact absurd (Value.type.inj c2) (by decide)
  have hea:e≠a:=by
   rintro rfl;obtain⟨o',e2,c2,_⟩:=ht;have e1:s.heap.get? e=some _:=he;rw[e1] at e2;cases e2;exact absurd (Value.type.inj c2) (by decide)
  have hi:i < its.toArray.size:=by
   have:=(List.getElem?_eq_some_iff.mp hu).1
   simpa using this
  refine wpAny_pyNext_enum_itemD (fU (A:=X.A.in1) (I.ok.hd hc) it a ha its.toArray) he ⟨hit,ht⟩ hi hne (by simp[hne,hea]) fun x' h' tk' hP ho hs' hT hsz hk=>?_
  have ex:x'=u:=by
   have hP':its.toArray[i]?=some x':=hP;rw[List.getElem?_toArray,hu] at hP';exact (Option.some.inj hP').symm
  subst ex;refine⟨.ref s.heap.objs.size,rfl,wpAny_letOwnedTupleGo_enum ho fun h2 he2 hs2=>?_⟩;have fr:H s.heap.objs.size=none:=I.aJ.fresh (Nat.le_refl _);have hle:e≠s.heap.objs.size:=Nat.ne_of_lt (Heap.lt_size he);have hT2:h2.get? s.heap.objs.size=some { cls:=.type "tuple",data:=.seq #[.int i tk',x'] }:=(hs2.2 _ (Ne.symm hle)).trans hT;have I2:Inv X pins σ (upd H s.heap.objs.size (.tup [.int i,x])) { s with heap:=h2,toks:=tk'+1 }:=by
   refine I.pj (fp:=[e,it]) hf (Nat.le_refl _) (fun b o hb eb=>?_) ⟨by show 2<=sizeLine;decide,[.int i tk',x'],.cons ⟨_,rfl⟩ (.cons ru .nil),⟨_,hT2,rfl,_,rfl,rfl⟩⟩
   have n1:b≠e:=fun z=>hb (by simp[z])
   have n2:b≠it:=fun z=>hb (by simp[z])
   exact (hs2.2 b n1).trans (hk b o n1 n2 eb)
  refine⟨.ref s.heap.objs.size,_,I2,rfl,⟨s.heap.objs.size,x,fun ys hy=>by rw[I.gc hy hq];exact hx,fr,rfl,rfl⟩,⟨⟨x',?_⟩,?_⟩,fun b hb=>?_⟩
  ·have e:(((i+1:Nat)):Int)=(i:Int)+1:=by lia
   rw[e];exact he2
  ·obtain⟨o,e1,r⟩:=hs'.1;exact⟨o,(hs2.2 it (Ne.symm hne)).trans e1,r⟩
  ·have n:b≠s.heap.objs.size:=by
    rcases List.mem_cons.mp hb with z | z
    ·subst z;exact hle
    ·have z:b=it:=by simpa using z
     subst z;obtain⟨o,e1,_⟩:=hit;exact Nat.ne_of_lt (Heap.lt_size e1)
   rw[ae n];exact (hf b hb).1
 done:=by
  intro X hP hw hK hc i pins s σ H E I hf st hg;subst hP hw hK;obtain⟨xs,hq,hx⟩:=hg;obtain⟨⟨old,he⟩,hit⟩:=st;obtain⟨its,rv,p,hz⟩:=I.tuple hq;have ht:s.heap.IsTuple a its.toArray:=p;have ha:a≠it:=by
   rintro rfl;obtain⟨o,e1,c1,_⟩:=hit;obtain⟨o',e2,c2,_⟩:=ht;rw[e1] at e2;cases e2;rw[c1] at c2;exact absurd (Value.type.inj c2) (by decide)
  have hl:=rv.length;have hsz:its.toArray.size=i:=by simp;lia
  refine wpAny_pyNext_enum_endD (fU (A:=X.A.in1) (I.ok.hd hc) it a ha its.toArray) he (by rw[hsz];exact⟨hit,ht⟩) fun h' eb=>⟨rfl,?_⟩
  exact I.turns (t':=s.toks) hf fun b o hb e1=>eb b o (fun z=>hb (by simp[z])) e1
 self:=fun A i s Q E st h=>by
  obtain⟨⟨old,he⟩,_⟩:=st;exact wpAny_pyIter_enum he h
end L2
namespace L2
open PySem PySem.Spec PyProof.Rows
section
variable {X:Cx} {es:List Expr} {tk:Nat} {tp:Pos}
def yO(K:PySem.W.Frag)(ta:TA):TI:=fun σ H R=>ta σ H fun vs H1=>∃ a,vs=[.ref a]/\(∃ xs,bj K H1 a xs)/\R (xK K a) H1
theorem xB{e:Expr}{ta:TA}{p pos:Pos}(hg:Gl X "enumerate")(hm:X.mg "enumerate"=none)(ha:PA X [e] ta)(h1:bY e=true:=by rfl)(hv:bootBuiltins "enumerate"=some (.type "enumerate"):=by decide +kernel):
  PI X (.Tuple es tk tp) (.Call (.Name "enumerate" p) [e] [] pos) (yO X.K ta):=by
 intro pins s σ H R I h;refine Call_ (eA I hg hm hv (PyProof.Rows.callWith_type1 (bJ (ha pos pins s σ H _ I h) fun us s1 ⟨vs,H1,I1,r1,q1⟩=>?_) (b_ h1) rfl));obtain⟨a,e,⟨xs,hq⟩,q⟩:=q1;subst e;obtain⟨u,rfl,ru⟩:=vals1 r1;cases ru;obtain⟨its,rv,pt,hz⟩:=I1.tuple hq;refine jm (show s1.heap.IsTuple a its.toArray from pt) fun h' he hit hsz hk=>?_;refine wpAny_pyIter_enum he ?_;have I2:Inv X pins σ H1 { s1 with heap:=h' }:=I1.kept (t':=s1.toks) hk
 refine⟨s1.heap.objs.size+1,[s1.heap.objs.size+1,s1.heap.objs.size],_,_,H1,rfl,I2,ot a s1.heap.objs.size (s1.heap.objs.size+1) (Nat.ne_of_gt (Nat.lt_succ_self _)),⟨⟨_,he⟩,hit⟩,fun b hb=>?_,q⟩;have hb':s1.heap.objs.size<=b:=by
  rcases List.mem_cons.mp hb with z | z
  ·rw[z];exact Nat.le_succ _
  ·have z:b=s1.heap.objs.size:=by simpa using z
   rw[z];exact Nat.le_refl _
 exact I1.oo hb' (I1.aJ.fresh hb')
def va(K:PySem.W.Frag)(tl:TE):TI:=fun σ H R=>tl σ H fun x H1=>match x with
 | .ref a=>match sq H1 a with
  | some (true,_)=>R (qf K a) H1
  | some (false,_)=>R (sF K a) H1
  | none=>(∃ xs,bj K H1 a xs)/\R (sF K a) H1
 | _=>False
theorem Af{tg l:Expr}{tl:TE}(hl:PE X l tl):PI X tg l (va X.K tl):=by
 intro pins s σ H R I h;refine bJ (hl pins s σ H _ I h) fun v s1 ⟨x,H1,I1,r1,q1⟩=>?_;obtain⟨a,rfl,q⟩:∃ a,x=V.ref a/\(((∃ xs,bA X.K H1 a xs)/\R (qf X.K a) H1)\/((∃ xs,bj X.K H1 a xs)/\R (sF X.K a) H1)):=by
  match x,q1 with
  | .ref a,q1 =>
   simp only at q1
   split at q1
   ·rename_i xs e;exact⟨a,rfl,.inl ⟨⟨xs,kR e⟩,q1⟩⟩
   ·rename_i xs e;exact⟨a,rfl,.inr ⟨⟨xs,hU e⟩,q1⟩⟩
   ·exact⟨a,rfl,.inr q1⟩
 cases r1;rcases q with ⟨⟨xs,hq⟩,q⟩ | ⟨⟨xs,hq⟩,q⟩
 ·obtain⟨its,rv,p,hz⟩:=I1.list hq;refine wpAny_pyIter_list p.isList ?_;refine⟨s1.heap.objs.size,[s1.heap.objs.size],_,_,H1,rfl,I1.kept (t':=s1.toks) fun b o e=>Heap.get?_push_of_some _ e,jL a _,⟨_,Heap.get?_push_size _ rfl,rfl,rfl⟩,fun b hb=>?_,q⟩;have e:b=s1.heap.objs.size:=by simpa using hb
  subst e;exact I1.oo (Nat.le_refl _) (I1.aJ.fresh (Nat.le_refl _))
 ·obtain⟨its,rv,p,hz⟩:=I1.tuple hq;refine wpAny_pyIter_tuple (show s1.heap.IsTuple a its.toArray from p) ?_;refine⟨s1.heap.objs.size,[s1.heap.objs.size],_,_,H1,rfl,I1.kept (t':=s1.toks) fun b o e=>Heap.get?_push_of_some _ e,hZ a _,⟨_,Heap.get?_push_size _ rfl,rfl,rfl⟩,fun b hb=>?_,q⟩;have e:b=s1.heap.objs.size:=by simpa using hb
  subst e;exact I1.oo (Nat.le_refl _) (I1.aJ.fresh (Nat.le_refl _))
end
def zP(J:It)(g:TG)(tb:TS)(D:Ends)(σ:St)(H:Hp):Prop:=∃ W:Nat->Nat->St->Hp->Prop,(∃ m,W 0 m σ H)/\∀ i m σ H,W i m σ H ->
 (J.stop i H/\D.nx σ H)\/(J.go i H/\∃ N:St->Hp->Prop,(∀ σ' H',N σ' H'->∃ m',m' < m/\W (i+1) m' σ' H')/\∀ x H',J.yF i H x H'->g x σ H' fun σ2 H2=>tb { D with nx:=N,ct:=N,bk:=D.nx } σ2 H2)
theorem wV(wi:TI)(g:TG)(tb:TS)(D:Ends)(σ:St)(H:Hp):Cb wi g tb D σ H=wi σ H fun J H1=>zP J g tb D σ H1:=rfl
def tE(J:It)(k:Nat)(g:TG)(tc:TT)(te:TE)(Q:VK)(σ:St)(H1:Hp):Prop:=∀ D,H1 D=none ->
 ∃ W:Nat->Nat->List V->St->Hp->Prop,(∃ m,W 0 m [] (List.replicate k none++σ) (upd H1 D (.lst [])))/\∀ i m ys σ' H',W i m ys σ' H'->H' D=some (.lst ys) /\
  ((J.stop i H'/\Q (.ref D) H')\/(J.go i H'/\ys.length < sizeLine/\∀ x H2,J.yF i H' x H2->g x σ' H2 fun σ3 H3=>tc σ3 H3 fun b H4 =>
   if b=true then te σ3 H4 fun v H5=>H5 D=some (.lst ys)/\∃ m',m' < m/\W (i+1) m' (ys++[v]) σ3 (upd H5 D (.lst (ys++[v])))
   else ∃ m',m' < m/\W (i+1) m' ys σ3 H4))
theorem t8(wi:TI)(k:Nat)(g:TG)(tc:TT)(te:TE)(σ:St)(H:Hp)(Q:VK):i5 wi k g tc te σ H Q=wi σ H fun J H1=>tE J k g tc te Q σ H1:=rfl
section
variable {K:PySem.W.Frag} {g:TG} {tb:TS} {D:Ends} {σ:St} {H:Hp} {te:TE} {Q:VK}
theorem rU{a:Addr}{xs:List V}(Pv:Nat->St->Hp->Prop)(h0:Pv 0 σ H)(hl:∀ i σ H,i<=xs.length->Pv i σ H->bA K H a xs)
  (hs:∀ i x σ H,xs[i]?=some x->Pv i σ H->g x σ H fun σ2 H2=>tb { D with nx:=Pv (i+1),ct:=Pv (i+1),bk:=D.nx } σ2 H2) (hd:∀ σ H,Pv xs.length σ H->D.nx σ H):zP (qf K a) g tb D σ H:=uv Pv h0 hl hs hd
theorem qS{a:Addr}{xs:List V}(hn:xs.length<=sizeLine)(Pv:Addr->Nat->List V->Hp->Prop)(h0:∀ D,H D=none->Pv D 0 [] (upd H D (.lst [])))(hD:∀ D i ys H',Pv D i ys H'->H' D=some (.lst ys)/\ys.length=i)
  (hl:∀ D i ys H',Pv D i ys H'->bj K H' a xs)
  (hs:∀ D i ys H' x (R:VK),xs[i]?=some x->Pv D i ys H'->(∀ v H5,H5 D=some (.lst ys)->Pv D (i+1) (ys++[v]) (upd H5 D (.lst (ys++[v])))->R v H5)->te (some x::σ) H' R) (hd:∀ D ys H',Pv D xs.length ys H'->Q (.ref D) H') :
  tE (sF K a) 1 (bH 0) jK te Q σ H:=by
 intro D hD0;refine⟨fun i m ys σ' H'=>m=xs.length - i/\i<=xs.length/\Pv D i ys H'/\∃ o,σ'=o::σ,⟨xs.length,by simp,Nat.zero_le _,h0 D hD0,none,rfl⟩,?_⟩
 rintro i m ys σ' H' ⟨rfl,hi,p,o,rfl⟩;obtain⟨hDi,hly⟩:=hD _ _ _ _ p;have q:=hl _ _ _ _ p;refine⟨hDi,?_⟩;by_cases hlt:i < xs.length
 ·refine .inr ⟨⟨xs,xs[i],q,by simp[hlt]⟩,by lia,fun x H2 y=>?_⟩
  obtain⟨rfl,y⟩:=y;unfold bH jK;dsimp only;rw[if_pos rfl];exact hs D i ys H2 x _ (y xs q) p fun v H5 q1 q2=>⟨q1,xs.length - (i+1),by lia,rfl,hlt,q2,_,rfl⟩
 ·have e:i=xs.length:=by lia
  subst e;exact .inl ⟨⟨xs,q,Nat.le_refl _⟩,hd D ys H' p⟩
end
namespace Ap
theorem qX(i:Nat)(σ:St)(H:Hp)(Q:VK):L2.qX i σ H Q=∃ v,σ[i]?=some (some v)/\Q v H:=rfl
theorem tC(v:V)(σ:St)(H:Hp)(Q:VK):L2.tC v σ H Q=Q v H:=rfl
theorem sH(r:R2)(ta tb:TE)(σ:St)(H:Hp)(Q:VK):L2.sH r ta tb σ H Q=ta σ H fun x H1=>tb σ H1 fun y H2=>r x y H2 Q:=rfl
theorem iS(σ:St)(H:Hp)(Q:List V->Hp->Prop):L2.iS σ H Q=Q [] H:=rfl
theorem fG(ta:TE)(tr:TA)(σ:St)(H:Hp)(Q:List V->Hp->Prop):L2.fG ta tr σ H Q=ta σ H fun x H1=>tr σ H1 fun xs H2=>Q (x::xs) H2:=rfl
theorem vG(t:TA)(σ:St)(H:Hp)(Q:VK):L2.vG t σ H Q=t σ H fun xs H1=>xs.length<=sizeLine/\∀ p,H1 p=none->Q (.ref p) (upd H1 p (.lst xs)):=rfl
theorem eR(sp:Sp)(dvs:List V)(E:XK)(t:TA)(σ:St)(H:Hp)(Q:VK):L2.eR sp dvs E t σ H Q=t σ H fun vs H1=>sp (vs++dvs) H1 Q E:=rfl
theorem sy(r:List V->Hp->VK->Prop)(t:TA)(σ:St)(H:Hp)(Q:VK):L2.sy r t σ H Q=t σ H fun vs H1=>r vs H1 Q:=rfl
theorem iG(te:TE)(g:TG)(D:Ends)(σ:St)(H:Hp):L2.iG te g D σ H=te σ H fun x H1=>g x σ H1 D.nx:=rfl
theorem bH(i:Nat)(v:V)(σ:St)(H:Hp)(Q:St->Hp->Prop):L2.bH i v σ H Q=Q (σ.set i (some v)) H:=rfl
theorem w8(to ti:TE)(t:xF)(v:V)(σ:St)(H:Hp)(Q:St->Hp->Prop):L2.w8 to ti t v σ H Q=to σ H fun o H1=>ti σ H1 fun i H2=>t o i v H2 fun H3=>Q σ H3:=rfl
theorem lQ(K:PySem.W.Frag)(n:Nat)(t:nF)(v:V)(σ:St)(H:Hp)(Q:St->Hp->Prop):L2.lQ K n t v σ H Q=∃ a xs,v=.ref a/\bj K H a xs/\xs.length=n/\t xs σ H Q:=rfl
theorem dN(t:TG)(u:nF)(v:V)(vs:List V)(σ:St)(H:Hp)(Q:St->Hp->Prop):L2.dN t u (v::vs) σ H Q=t v σ H fun σ' H'=>u vs σ' H' Q:=by
 refine propext ⟨fun⟨a,b,e,h⟩=>?_,fun h=>⟨v,vs,rfl,h⟩⟩
 cases e;exact h
theorem lJ(σ:St)(H:Hp)(Q:St->Hp->Prop):L2.lJ [] σ H Q=Q σ H:=propext ⟨fun h=>h.2,fun h=>⟨rfl,h⟩⟩
theorem uM(te:TE)(D:Ends)(σ:St)(H:Hp):L2.uM te D σ H=te σ H D.rt:=rfl
theorem va(K:PySem.W.Frag)(tl:TE)(σ:St)(H:Hp)(R:It->Hp->Prop):L2.va K tl σ H R=tl σ H fun x H1=>match x with
 | .ref a=>match sq H1 a with
  | some (true,_)=>R (qf K a) H1
  | some (false,_)=>R (sF K a) H1
  | none=>(∃ xs,bj K H1 a xs)/\R (sF K a) H1
 | _=>False:=rfl
theorem Ec(K:PySem.W.Frag)(i j:Int)(H:Hp)(Q:VK):fq K (.int i) (.int j) H Q=Q (.int (i+j)) H:=rfl
theorem Gh(K:PySem.W.Frag)(b:Bool)(H:Hp)(k:Bool):t_ K (.bl b) H k=(k=b):=rfl
theorem Fg(K:PySem.W.Frag)(i:Int)(H:Hp)(k:Bool):t_ K (.int i) H k=(k=(i != 0)):=rfl
end Ap
def KB(ex:List Addr)(H H':Hp):Prop:=∀ b o,H b=some o->b∉ex->H' b=some o
theorem KB.refl(ex:List Addr)(H:Hp):KB ex H H:=fun _ _ e _=>e
theorem KB.trans{ex:List Addr}{H H1 H2:Hp}(a:KB ex H H1)(b:KB ex H1 H2):KB ex H H2:=fun c o e n=>b c o (a c o e n) n
theorem KB.new{ex:List Addr}{H:Hp}{p:Addr}{o:HO}(h:H p=none):KB ex H (upd H p o):=fun b u e _=>by rw[ae (ak e h)];exact e
theorem KB.set{ex:List Addr}{H:Hp}{p:Addr}{o:HO}(h:p∈ex):KB ex H (upd H p o):=fun b u e n=>by rw[ae (fun (z:b=p)=>n (by rw[z];exact h))];exact e
theorem KB.free{ex:List Addr}{H H':Hp}(h:KB ex H H'){b:Addr}(n:b∉ex)(e:H' b=none):H b=none:=by
 cases q:H b with
 | none=>rfl
 | some o=>rw[h b o q n] at e;cases e
theorem D8{α:Type}(x:α)(r:List α):bX (x::r) 0=some x:=cN (j:=0) rfl
theorem CZ{α:Type}(a x:α)(r:List α):bX (a::x::r) 1=some x:=cN (j:=1) rfl
theorem DY{α:Type}(a b x:α)(r:List α):bX (a::b::x::r) 2=some x:=cN (j:=2) rfl
theorem Eg{α:Type}(a b c x:α)(r:List α):bX (a::b::c::x::r) 3=some x:=cN (j:=3) rfl
theorem sM{n:Nat}{i:Int}(h0:0<=i)(h:i < n):kW n i=some i.toNat:=by unfold kW;rw[if_pos h0,if_pos h]
namespace Ap
theorem zf(K:PySem.W.Frag)(p:Addr)(i:Int)(H:Hp)(Q:VK):Cq K (.ref p) (.int i) H Q=(match sq H p with
  | some (_,xs)=>(match bX xs i with | some v=>Q v H | none=>False)
  | none=>∃ xs v,bj K H p xs/\bX xs i=some v/\Q v H):=rfl
theorem setRef(p:Addr)(k:Int)(v:V)(H:Hp)(Q:Hp->Prop):vz (.ref p) (.int k) v H Q=(match H p with
  | some (.lst xs)=>(match kW xs.length k with | some j=>Q (upd H p (.lst (xs.set j v))) | none=>False)
  | _=>False):=rfl
theorem AO(K:PySem.W.Frag)(p:Addr)(H:Hp)(Q:VK):du K [.ref p] H Q=(match sq H p with
  | some (true,ys)=>∀ l,H l=none->Q (.ref l) (upd H l (.tup ys))
  | some (false,_)=>Q (.ref p) H
  | none=>∃ ys,bj K H p ys/\Q (.ref p) H):=rfl
end Ap
theorem DW{t u:TS}{D:Ends}{σ:St}{H:Hp}(h:∀ N,N=u D->t { D with nx:=N } σ H):BM t u D σ H:=h _ rfl
structure QE (X:Cx) (e:Expr) (t:TE):Prop where h:PE X e t
structure QT (X:Cx) (e:Expr) (t:TT):Prop where h:PT X e t
structure QW (X:Cx) (e:Expr) (t:TT):Prop where h:PW X e t
structure QA (X:Cx) (es:List Expr) (t:TA):Prop where h:PA X es t
structure QS (X:Cx) (st:Stmt) (t:TS):Prop where h:PS X st t
structure QB (X:Cx) (sts:List Stmt) (t:TS):Prop where h:nr X sts t
structure QI (X:Cx) (tg it:Expr) (t:TI):Prop where h:PI X tg it t
structure QG (X:Cx) (e:Expr) (t:TG):Prop where h:PG X e t
structure DK (X:Cx) (es:List Expr) (t:nF):Prop where h:Cy X es t
structure QO (X:Cx) (e:Option Expr) (t:TO):Prop where h:PO X e t
structure DZ (X:Cx) (es:List Expr) (t:TT):Prop where h:De X es t
namespace Z
def sim(b:Expr):Bool:=match b with
 | .Name .. | .Constant .. | .Call .. | .BinOp .. | .Subscript .. | .Attribute .. | .UnaryOp .. | .Compare .. | .IfExp ..=>true
 | _=>false
theorem GJ{b:Expr}(h:sim b=true):oP b:=by
 cases b<;>first | (intro _ _;rfl) | cases h
def EJ(b:Expr):Bool:=match b with
 | .Name .. | .Call .. | .Subscript .. | .Attribute ..=>true
 | _=>false
theorem ptr{b:Expr}{env:Env}(h:EJ b=true):∀ whole,isTrue b env whole=(do let v <- whole;standAt b.pos;holding [v] (truthy v)):=by
 cases b<;>first | (intro _;rfl) | cases h
def Ai(b:Expr):Bool:=match b with
 | .ListComp .. | .SetComp .. | .DictComp ..=>false
 | _=>true
theorem GG{b:Expr}{tg:Option Expr}{l:Nat}{env:Env}(h:Ai b=true):swapsWith b tg l env=pure false:=by
 cases b<;>first | rfl | cases h
section
variable {X:Cx}
theorem E2(K:PySem.W.Frag)(hK:X.K=K):cJ X (binaryOp .Add) (fq K):=by subst hK;exact xE
theorem zZ(K:PySem.W.Frag)(hK:X.K=K){k:Nat}(hu:k < cLine):pC X (Cq K):=by subst hK;exact GQ hu
theorem CK(K:PySem.W.Frag)(hK:X.K=K):aV X (.builtin "isinstance") (mj K):=by subst hK;exact rd
theorem qC(K:PySem.W.Frag)(hK:X.K=K):aV X (.type "tuple") (du K):=by subst hK;exact m7
end
section
variable {X:Cx} {a b c e o:Expr} {es:List Expr} {ta tb tc te to:TE} {t:TA} {pos p p2:Pos} {tA tB':TT} {rest:List Expr} {x:Str}
theorem int{i:Int}{j:Nat}:QE X (.Constant (.int i) j pos) (tC (.int i)):=⟨iR⟩
theorem bl{i:Bool}{j:Nat}:QE X (.Constant (.bool i) j pos) (tC (.bl i)):=⟨yQ⟩
theorem str{i:Str}{j:Nat}:QE X (.Constant (.str i) j pos) (tC (.str i)):=⟨vN⟩
theorem v(i:Nat)(hN:X.N[i]?=some x:=by rfl)(hv:Bf X.env.scope x:=by first | exact Or.inl rfl | exact Or.inr (Or.inl rfl) | exact Or.inr (Or.inr rfl))(hd:(x ==("__debug__":Str))=false:=by decide)
  (hcd:(x ==("__classdict__":Str))=false:=by decide):QE X (.Name x pos) (qX i):=⟨pv i hN hv hd hcd⟩
theorem glob{w:V}{u:Value}(hg:Gl X x)(hm:X.mg x=some u)(r:RelV w u)(hd:(x ==("__debug__":Str))=false:=by decide):QE X (.Name x pos) (tC w):=⟨kr hg hm r hd⟩
theorem op{o:Operator}{r:R2}(ho:cJ X (binaryOp o) r)(ha:QE X a ta)(hb:QE X b tb):QE X (.BinOp a o b pos) (sH r ta tb):=⟨Du ho ha.h hb.h⟩
theorem cmp{o:CmpOp}{r:R2}(ho:cJ X (compareOp o) r)(ha:QE X a ta)(hb:QE X b tb)(hm:behindInMarks o b=false:=by rfl):QE X (.Compare a [o] [b] pos) (sH r ta tb):=⟨xA ho ha.h hb.h hm⟩
theorem slice{r:V->Option Int->Option Int->Hp->VK->Prop}{lo hi:Option Expr}{tl th:TO}(hr:su X r)(he:QE X e te)(hl:QO X lo tl)(hu:QO X hi th):QE X (.Subscript e (.Slice lo hi none p2) pos) (G3 r te tl th):=⟨vD hr he.h hl.h hu.h⟩
theorem AY:QO X none oX:=⟨qm⟩
theorem Bg(he:QE X e te):QO X (some e) (zH te):=⟨kO he.h⟩
theorem ix{r:R2}(hr:pC X r)(ha:QE X a ta)(hb:QE X b tb)(hs:sim b=true:=by rfl):QE X (.Subscript a b pos) (sH r ta tb):=⟨zI hr ha.h hb.h (GJ hs)⟩
theorem tup{k:Nat}(h:QA X es t):QE X (.Tuple es k pos) (Eh t):=⟨BF h.h⟩
theorem lst(h:QA X es t):QE X (.List es pos) (vG t):=⟨zO h.h⟩
theorem nil:QA X [] iS:=⟨uG⟩
theorem cons(ha:QE X e te)(hr:QA X es t)(h:bY e=true:=by rfl):QA X (e::es) (fG te t):=⟨Fo ha.h hr.h h⟩
theorem consts{vs:List V}(h:jx es=some vs):QA X es (tK vs):=⟨j0 h⟩
theorem cb{id:String}{r:List V->Hp->VK->Prop}(hc:aV X (.builtin id) r)(hg:Gl X x)(hm:X.mg x=none)(hv:bootBuiltins x=some (.builtin id))(ha:QA X (e::es) t)(h1:bY e=true:=by rfl)(h2:es.all bY=true:=by rfl)(hn:x≠"__name__":=by decide)(hdb:(x ==("__debug__":Str))=false:=by decide):
  QE X (.Call (.Name x p) (e::es) [] pos) (sy r t):=⟨Em hc hg hm hv ha.h h1 h2 hn hdb⟩
theorem ct{T:String}{r:List V->Hp->VK->Prop}(hc:aV X (.type T) r)(hg:Gl X x)(hm:X.mg x=none)(hv:bootBuiltins x=some (.type T))(ha:QA X (e::es) t)(h1:bY e=true:=by rfl)(h2:es.all bY=true:=by rfl)(hn:x≠"__name__":=by decide)(hdb:(x ==("__debug__":Str))=false:=by decide):
  QE X (.Call (.Name x p) (e::es) [] pos) (sy r t):=⟨Ee hc hg hm hv ha.h h1 h2 hn hdb⟩
theorem Hb{T:String}(hg:Gl X x)(hm:X.mg x=none)(hv:bootBuiltins x=some (.type T))(hn:x≠"__name__":=by decide)(hd:(x ==("__debug__":Str))=false:=by decide):QE X (.Name x pos) (tC (.ty T)):=⟨Bq hg hm hv hn hd⟩
theorem fn{CX:lj}{k:Nat}{ps:List Str}{sp:Sp}{E:XK}(F:ai X.prog X.w X.K X.mg X.base CX k x ps sp)(hr:bz k X.A)(hg:Gl X x)(hx:Passes CX X E)(ha:QA X (e::es) t)(h1:bY e=true:=by rfl)(h2:es.all bY=true:=by rfl)(hdb:(x ==("__debug__":Str))=false:=by decide):
  QE X (.Call (.Name x p) (e::es) [] pos) (eR sp [] E t):=⟨CY F hr hg hx ha.h h1 h2 hdb⟩
theorem E9{CX:lj}{k:Nat}{ps:List Str}{sp:Sp}{E:XK}(F:ai X.prog X.w X.K X.mg X.base CX k x ps sp)(hr:bz k X.A)(hg:Gl X x)(hx:Passes CX X E)(hdb:(x ==("__debug__":Str))=false:=by decide):
  QE X (.Call (.Name x p) [] [] pos) (eR sp [] E iS):=⟨Bs F hr hg hx hdb⟩
theorem bm(K:PySem.W.Frag)(hK:X.K=K){name:Str}{apos:Pos}{T id:String}{r:V->List V->Hp->VK->Prop}(pa:PlainAttrs T)(slot:Slot T name id)(hty:typeOf (.builtin id)=pure (.type "method_descriptor"))(hm:wH X id r)(ho:QE X o to)(ha:QA X (e::es) t)
  (hbase:attributeBase o name X.env (eval o X.env)=eval o X.env:=by rfl) (hline:(apos.endLine == pos.line)=true:=by rfl) (h:(e::es).all bY=true:=by rfl) (hl:(e::es).length < 30:=by decide):QE X (.Call (.Attribute o name apos) (e::es) [] pos) (Ft K T r to t):=by
 subst hK;exact⟨zR pa slot hty hm ho.h ha.h hbase hline h hl⟩
theorem comp{osc scope:Scope}{ON own N:List Str}{tg iter elt:Expr}{ifs:List Expr}{wi:TI}{g:TG}{tc:TT}(S:bQ osc ON scope own N)(hosc:X.env.scope=osc)(hON:X.N=ON)(hc:X.calm=true)(hi:QI X tg iter wi)
  (hg:∀ C s H fp,QG (aB X scope N C s H fp) tg g) (ht:∀ C s H fp,DZ (aB X scope N C s H fp) ifs tc) (he:∀ C s H fp,QE (aB X scope N C s H fp) elt te) (hs:∀ x,foldedSetIterable iter X.env x=pure x:=by intro _;rfl) :
  QE X (.ListComp elt [⟨tg,iter,ifs,0⟩] scope pos) (i5 wi own.length g tc te):=⟨wQ S hosc hON hc hi.h (fun C s H fp=>(hg C s H fp).h) (fun C s H fp=>(ht C s H fp).h) (fun C s H fp=>(he C s H fp).h) hs⟩
theorem bS{o:CmpOp}{r:R2}(ho:cJ X (compareOp o) r)(ha:QE X a ta)(hb:QE X b tb)(hm:behindInMarks o b=false:=by rfl):QT X (.Compare a [o] [b] pos) (uy (sH r ta tb)):=⟨xk ho ha.h hb.h hm⟩
theorem tw(h:QW X e tA):QT X e tA:=⟨h.h.pt⟩
theorem nJ(ha:QT X a tA):QT X (.UnaryOp .Not a pos) (DH tA):=⟨B4 ha.h⟩
def F_(K:PySem.W.Frag)(ta:TE):TT:=fun σ H Q=>ta σ H fun x H'=>∃ k,t_ K x H' k/\Q k H'
theorem A1(K:PySem.W.Frag)(hK:X.K=K)(ha:QE X a ta)(he:EJ a=true:=by rfl):QT X a (F_ K ta):=by subst hK;exact⟨vc ha.h (ptr he)⟩
theorem pE(ha:QT X a tA):QW X (.BoolOp .And [a] pos) tA:=⟨xS ha.h⟩
theorem nL(ha:QT X a tA):QW X (.BoolOp .Or [a] pos) tA:=⟨BW ha.h⟩
theorem xo(ha:QT X a tA)(hb:QW X (.BoolOp .And (b::rest) pos) tB'):QW X (.BoolOp .And (a::b::rest) pos) (AH tA tB'):=⟨Av ha.h hb.h⟩
theorem yx(ha:QT X a tA)(hb:QW X (.BoolOp .Or (b::rest) pos) tB'):QW X (.BoolOp .Or (a::b::rest) pos) (Gr tA tB'):=⟨D0 ha.h hb.h⟩
theorem aR{i:Nat}(hN:X.N.Nodup)(hi:X.N[i]?=some x)(hx:Loc X.env.scope x)(hf:X.fn x=true\/X.env.scope.names.lookup x=some .local:=by first | exact .inl rfl | exact .inr rfl | assumption):QG X (.Name x pos) (bH i):=⟨w_ hN hi hx hf⟩
theorem mS(K:PySem.W.Frag)(hK:X.K=K){k n:Nat}{tg:nF}(hc:X.calm=true)(h:DK X es tg)(hn:(assignEach es X.env).length=n:=by rfl)(hst:(assignEach es X.env).findIdx? (·.1)=none:=by rfl):QG X (.Tuple es k pos) (lQ K n tg):=by subst hK;exact⟨u6 hc h.h hn hst⟩
theorem dS:DK X [] lJ:=⟨x4⟩
theorem b9{g:TG}{u:nF}(h1:QG X e g)(h2:DK X es u)(hs:(assignEach (e::es) X.env).map (·.2)=assign e X.env::(assignEach es X.env).map (·.2):=by rfl):DK X (e::es) (dN g u):=⟨vf h1.h h2.h hs⟩
theorem mH{i:Expr}{ti:TE}(ho:QE X o to)(hi:QE X i ti)
  (ha:∀ v,assign (.Subscript o i pos) X.env v=(do
   let ov <- holding [v] (eval o X.env)
   let iv <- holding [v,ov] (eval i X.env)
   standAt pos
   holding [v,ov,iv] (setItem ov iv v)
   release [v,ov,iv] []):=by intro _;rfl):QG X (.Subscript o i pos) (w8 to ti vz):=⟨A4 ho.h hi.h uset ha⟩
theorem jo{tg:Expr}{ta:TA}(hg:Gl X "range")(hm:X.mg "range"=none)(ha:QA X [a] ta)(h:bY a=true:=by rfl):QI X tg (.Call (.Name "range" p) [a] [] pos) (tV ta):=⟨nO hg hm ha.h h⟩
theorem BQ{tg:Expr}{ta:TA}(hg:Gl X "range")(hm:X.mg "range"=none)(ha:QA X [a,b] ta)(h:bY a=true:=by rfl)(h2:bY b=true:=by rfl):QI X tg (.Call (.Name "range" p) [a,b] [] pos) (vM ta):=⟨om hg hm ha.h h h2⟩
theorem enum(K:PySem.W.Frag)(hK:X.K=K){k:Nat}{tp:Pos}{ta:TA}(hg:Gl X "enumerate")(hm:X.mg "enumerate"=none)(ha:QA X [e] ta)(h1:bY e=true:=by rfl):QI X (.Tuple es k tp) (.Call (.Name "enumerate" p) [e] [] pos) (yO K ta):=by subst hK;exact⟨xB hg hm ha.h h1⟩
theorem any(K:PySem.W.Frag)(hK:X.K=K){tg l:Expr}{tl:TE}(hl:QE X l tl):QI X tg l (va K tl):=by subst hK;exact⟨Af hl.h⟩
theorem sC:DZ X [] jK:=⟨yo⟩
end
section
variable {X:Cx} {e o tg:Expr} {te to:TE} {st:Stmt} {sts xs ys:List Stmt} {t u:TS} {pos pos':Pos} {x:Str}
theorem cB:QB X [] zq:=⟨yB⟩
theorem aG(h:QS X st t):QB X [st] t:=⟨xQ h.h⟩
theorem ah(h:QS X st t)(h2:QB X sts u):QB X (st::sts) (BM t u):=⟨vi h.h h2.h⟩
theorem set{i:Nat}(hN:X.N.Nodup)(hi:X.N[i]?=some x)(hx:Loc X.env.scope x)(he:QE X e te)(hs:Ai e=true:=by rfl)(hf:X.fn x=true\/X.env.scope.names.lookup x=some .local:=by first | exact .inl rfl | exact .inr rfl | assumption):
  QS X (.Assign [.Name x pos'] e pos) (iG te (bH i)):=⟨zM hN hi hx he.h (GG hs) hf⟩
theorem setC{osc scope:Scope}{ON own N:List Str}{tg iter elt:Expr}{ifs:List Expr}{p2:Pos}{wi:TI}{g:TG}{tc:TT}{j:Nat}(hN:X.N.Nodup)(hj:X.N[j]?=some x)(hx:Loc X.env.scope x)(S:bQ osc ON scope own N)(hosc:X.env.scope=osc)(hON:X.N=ON)(hc:X.calm=true)(hi:QI X tg iter wi)
  (hg:∀ C s H fp,QG (aB X scope N C s H fp) tg g) (ht:∀ C s H fp,DZ (aB X scope N C s H fp) ifs tc) (he:∀ C s H fp,QE (aB X scope N C s H fp) elt te)
  (hsw:swapsWith (.ListComp elt [⟨tg,iter,ifs,0⟩] scope p2) (some (.Name x pos')) pos.line X.env=pure true:=by rfl)
  (hf:X.fn x=true\/X.env.scope.names.lookup x=some .local:=by first | exact .inl rfl | exact .inr rfl | assumption) (hs:∀ x,foldedSetIterable iter X.env x=pure x:=by intro _;rfl) :
  QS X (.Assign [.Name x pos'] (.ListComp elt [⟨tg,iter,ifs,0⟩] scope p2) pos) (iG (i5 wi own.length g tc te) (bH j)):=⟨n8 hN hj hx S hosc hON hc hi.h (fun C s H fp=>(hg C s H fp).h) (fun C s H fp=>(ht C s H fp).h) (fun C s H fp=>(he C s H fp).h) hsw hf hs⟩
theorem asg{g:TG}(he:QE X e te)(hg:QG X tg g)(hs:swapsWithSole [tg] e pos.line X.env=pure false:=by rfl)(hw:swappedStores [tg] e X.env=pure none:=by rfl)
  (h1:(assignEach [tg] X.env).map (·.2)=[assign tg X.env]:=by rfl):QS X (.Assign [tg] e pos) (iG te g):=⟨Bk he.h hg.h hs hw h1⟩
theorem ret(he:QE X e te):QS X (.Return (some e) pos) (uM te):=⟨Cf he.h⟩
theorem expr(he:QE X e te)(hs:Ai e=true:=by rfl):QS X (.Expr e pos) (zG te):=⟨yw he.h (GG hs)⟩
theorem fM{c:Expr}{tc:TT}(hc:QT X c tc)(ha:QB X xs t)(hb:QB X ys u):QS X (.If c xs ys pos) (Dz tc t u):=⟨CQ hc.h ha.h hb.h⟩
theorem dQ{iter:Expr}{wi:TI}{g:TG}(hp:PassesOwn (model X.prog X.w) X.A X.env X.xe)(hc:X.calm=true)(hi:QI X tg iter wi)(hg:QG X tg g)(hb:QB X xs t)(hs:∀ x,foldedSetIterable iter X.env x=pure x:=by intro _;rfl):QS X (.For tg iter xs [] pos) (Cb wi g t):=⟨A8 hp hc hi.h hg.h hb.h hs⟩
theorem iF{c:Expr}{tc:TT}(hp:PassesOwn (model X.prog X.w) X.A X.env X.xe)(hc:QT X c tc)(hb:QB X xs t):QS X (.While c xs [] pos) (uD tc t):=⟨vP hp hc.h hb.h⟩
end
end Z
namespace Ap
end Ap
theorem HasFn.G2{P:Program}{w:World}{K:PySem.W.Frag}{mg:Str->Option Value}{base:Heap}{x:Str}{st:Stmt}{N ps:List Str}{k:Nat}{sp:Sp}(F:HasFn K mg x st ps)(S:av N ps (aa st))(len:∀ vs H Q E,sp vs H Q E->vs.length=ps.length)
  (hbody:∀ (f:Addr) (cdv:Value) (A:Around) (outer:List Env) (s:Shared) (H:Hp) (vs:List V) (Q:VK) (E:XK),bz k (A.deeper (envOfC x (aa st) s.heap.objs.size f cdv))->sp vs H Q E ->
   ∃ t,QB (fh bT P w K mg base N x (aa st) f cdv A outer s H E).xt (ao st) t/\t { nx:=fun _ H'=>Q .bf H',rt:=Q } (start N vs) H):ai P w K mg base bT (k+1) x ps sp:=
 F.ok S len fun f cdv A outer s H vs Q E hr h=>let ⟨t,q,r⟩:=hbody f cdv A outer s H vs Q E hr h;⟨t,q.h,r⟩
theorem ya{P:Program}{w:World}{K:PySem.W.Frag}{mg:Str->Option Value}{base:Heap}{x:Str}{st:Stmt}{N ps:List Str}{k:Nat}{sp:Sp}{f:Addr}{fd:FuncData}(F:wJ K x x st f fd)(S:av N ps (aa st))(len:∀ vs H Q E,sp vs H Q E->vs.length=ps.length)
  (hbody:∀ (cdv:Value) (A:Around) (outer:List Env) (s:Shared) (H:Hp) (vs:List V) (Q:VK) (E:XK),bz k (A.deeper (envOfC x (aa st) s.heap.objs.size f cdv))->sp vs H Q E ->
   ∃ t,QB (fh bT P w K mg base N x (aa st) f cdv A outer s H E).xt (ao st) t/\t { nx:=fun _ H'=>Q .bf H',rt:=Q } (start N vs) H):dg P w K mg base bT (k+1) f fd ps sp:=
 F.ok S len fun cdv A outer s H vs Q E hr h=>let ⟨t,q,r⟩:=hbody cdv A outer s H vs Q E hr h;⟨t,q.h,r⟩
def jh(e:Addr)(cls:Value)(d:Option Addr)(h:Heap):Prop:=∃ o vs,h.get? e=some o/\o.cls=cls/\o.dict=d/\o.data=.fields vs
inductive T where
 | bf | bl (b:Bool) | int (i:Int) | str (x:Str) | tup (ts:List T) | lst (ts:List T) | dc (ts:List T) | dh (lo hi:Int) | d9 (ts:List T) | ly (ks:List Key) (ts:List T) | exc (c:Value) (f:Option (Str×Int))
noncomputable abbrev aK:=Addr->Prop
def Di(K:PySem.W.Frag)(a:Addr)(xs:List V):Prop:=∃ (o:Obj) (its:Array Value) (n:Nat),K.lookup a=some o/\o.cls=.type "tuple"/\o.data=.seq its n/\its.size<=sizeLine/\Vals xs its.toList
def GX(K:PySem.W.Frag)(a:Addr)(xs:List V):Prop:=∃ (o:Obj) (its:Array Value) (n:Nat),K.lookup a=some o/\o.cls=.type "list"/\o.dict=none/\o.data=.seq its n/\its.size<=sizeLine/\Vals xs its.toList
def LB(K:PySem.W.Frag)(H:Hp)(B:aK)(a:Addr)(xs:List V):Prop:=(¬ B a/\Rd H a (.lst xs))\/GX K a xs
mutual
inductive Rep (K:PySem.W.Frag) (H:Hp) (B:aK):V->T->Prop
 | bf:Rep K H B .bf .bf
 | bl (b:Bool):Rep K H B (.bl b) (.bl b)
 | int (i:Int):Rep K H B (.int i) (.int i)
 | str (x:Str):Rep K H B (.str x) (.str x)
 | tup {a:Addr} {vs:List V} {ts:List T} (n:¬ B a) (h:H a=some (.tup vs)) (r:aj K H B vs ts):Rep K H B (.ref a) (.tup ts)
 | d9 {a:Addr} {vs:List V} {ts:List T} (h:Di K a vs) (r:aj K H B vs ts):Rep K H B (.ref a) (.d9 ts)
 | lst {a:Addr} {vs:List V} {ts:List T} (n:¬ B a) (h:H a=some (.lst vs)) (r:aj K H B vs ts):Rep K H B (.ref a) (.lst ts)
 | dc {a:Addr} {vs:List V} {ts:List T} (h:LB K H B a vs) (r:aj K H B vs ts):Rep K H B (.ref a) (.dc ts)
 | dh {a:Addr} {lo hi:Int} (n:¬ B a) (h:H a=some (.dh lo hi)):Rep K H B (.ref a) (.dh lo hi)
 | ly {a:Addr} {ks:List Key} {vs:List V} {ts:List T} (n:¬ B a) (h:Rd H a (.dK (ks.zip vs))) (l:ks.length=vs.length) (r:aj K H B vs ts):Rep K H B (.ref a) (.ly ks ts)
 | exc {a:Addr} {c:Value} (n:¬ B a) (h:H a=some (.ext (jh a c none))):Rep K H B (.ref a) (.exc c none)
 | yc {a d:Addr} {c:Value} {x:Str} {i:Int} (n:¬ B a) (h:H a=some (.ext (jh a c (some d)))) (m:¬ B d) (g:H d=some (.xd [(x,.int i)])):Rep K H B (.ref a) (.exc c (some (x,i)))
inductive aj (K:PySem.W.Frag) (H:Hp) (B:aK):List V->List T->Prop
 | nil:aj K H B [] []
 | cons {v:V} {t:T} {vs:List V} {ts:List T} (h:Rep K H B v t) (r:aj K H B vs ts):aj K H B (v::vs) (t::ts)
end
def Fr(B:aK)(H:Hp)(B':aK)(H':Hp):Prop:=∀ b o,H b=some o->¬ B b->H' b=some o/\¬ B' b
theorem Fr.refl{B:aK}{H:Hp}:Fr B H B H:=fun _ _ h n=>⟨h,n⟩
theorem Fr.trans{B B1 B2:aK}{H H1 H2:Hp}(a:Fr B H B1 H1)(b:Fr B1 H1 B2 H2):Fr B H B2 H2:=fun c o h n=>let ⟨h1,n1⟩:=a c o h n;b c o h1 n1
theorem Fr.same{B:aK}{H H':Hp}(s:bC H H'):Fr B H B H':=fun b o h n=>⟨s b o h,n⟩
theorem Fr.less{B B':aK}{H:Hp}(s:∀ b,B' b->B b):Fr B H B' H:=fun b o h n=>⟨h,fun z=>n (s b z)⟩
theorem Fr.set{B:aK}{H:Hp}{a:Addr}{o:HO}(h:B a):Fr B H B (upd H a o):=fun b u e n=>⟨by rw[ae (by rintro rfl;exact n h)];exact e,n⟩
theorem bC.new{H:Hp}{p:Addr}{o:HO}(h:H p=none):bC H (upd H p o):=fun b u e=>by rw[ae (ak e h)];exact e
theorem Fr.more{B:aK}{H:Hp}{p:Addr}{o:HO}(h:H p=none):Fr B H (fun b=>b=p\/B b) (upd H p o):=fun b u e n=>⟨bC.new h b u e,fun z=>z.elim (ak e h) n⟩
theorem Rd.fr{B B':aK}{H H':Hp}{a:Addr}{u:HO}(f:Fr B H B' H')(n:¬ B a)(h:Rd H a u):¬ B' a/\Rd H' a u:=by
 rcases h with h | ⟨o,h⟩
 ·exact⟨(f a _ h n).2,.inl (f a _ h n).1⟩
 ·exact⟨(f a _ h n).2,.inr ⟨o,(f a _ h n).1⟩⟩
section
variable {K:PySem.W.Frag} {H H':Hp} {B B':aK}
theorem LB.fr{a:Addr}{xs:List V}(f:Fr B H B' H')(h:LB K H B a xs):LB K H' B' a xs:=h.elim (fun z=>.inl (z.2.fr f z.1)) .inr
theorem LB.sq{a:Addr}{xs:List V}(h:LB K H B a xs):bA K H a xs:=h.elim (fun z=>.inl z.2) .inr
mutual
theorem Rep.fr(f:Fr B H B' H'):∀ {v:V} {t:T},Rep K H B v t->Rep K H' B' v t
 | _,_,.bf=>.bf
 | _,_,.bl b=>.bl b
 | _,_,.int i=>.int i
 | _,_,.str x=>.str x
 | _,_,.tup n h r=>.tup (f _ _ h n).2 (f _ _ h n).1 (aj.fr f r)
 | _,_,.d9 h r=>.d9 h (aj.fr f r)
 | _,_,.lst n h r=>.lst (f _ _ h n).2 (f _ _ h n).1 (aj.fr f r)
 | _,_,.dc h r=>.dc (h.fr f) (aj.fr f r)
 | _,_,.dh n h=>.dh (f _ _ h n).2 (f _ _ h n).1
 | _,_,.ly n h l r=>.ly (Rd.fr f n h).1 (Rd.fr f n h).2 l (aj.fr f r)
 | _,_,.exc n h=>.exc (f _ _ h n).2 (f _ _ h n).1
 | _,_,.yc n h m g=>.yc (f _ _ h n).2 (f _ _ h n).1 (f _ _ g m).2 (f _ _ g m).1
theorem aj.fr(f:Fr B H B' H'):∀ {vs:List V} {ts:List T},aj K H B vs ts->aj K H' B' vs ts
 | _,_,.nil=>.nil
 | _,_,.cons h r=>.cons (Rep.fr f h) (aj.fr f r)
end
theorem aj.length:∀ {vs:List V} {ts:List T},aj K H B vs ts->vs.length=ts.length
 | _,_,.nil=>rfl
 | _,_,.cons _ r=>congrArg (·+1) (aj.length r)
theorem aj.get:∀ {vs:List V} {ts:List T} {i:Nat} {t:T},aj K H B vs ts->ts[i]?=some t->∃ v,vs[i]?=some v/\Rep K H B v t
 | _,_,_,_,.nil,e=>by simp at e
 | _,_,0,_,.cons h _,e=>by simp at e;subst e;exact⟨_,rfl,h⟩
 | _,_,i+1,_,.cons _ r,e=>by
  obtain⟨v,e1,h⟩:=aj.get r (by simpa using e)
  exact⟨v,by simpa using e1,h⟩
theorem aj.append:∀ {vs ws:List V} {ts us:List T},aj K H B vs ts->aj K H B ws us->aj K H B (vs++ws) (ts++us)
 | _,_,_,_,.nil,s=>s
 | _,_,_,_,.cons h r,s=>.cons h (aj.append r s)
theorem aj.take:∀ {vs:List V} {ts:List T} (n:Nat),aj K H B vs ts->aj K H B (vs.take n) (ts.take n)
 | _,_,0,_=>.nil
 | _,_,_+1,.nil=>.nil
 | _,_,n+1,.cons h r=>.cons h (aj.take n r)
theorem aj.drop:∀ {vs:List V} {ts:List T} (n:Nat),aj K H B vs ts->aj K H B (vs.drop n) (ts.drop n)
 | _,_,0,r=>r
 | _,_,_+1,.nil=>.nil
 | _,_,n+1,.cons _ r=>aj.drop n r
theorem aj.set:∀ {vs:List V} {ts:List T} {v:V} {t:T} (i:Nat),Rep K H B v t->aj K H B vs ts->aj K H B (vs.set i v) (ts.set i t)
 | _,_,_,_,_,_,.nil=>.nil
 | _,_,_,_,0,h,.cons _ r=>.cons h r
 | _,_,_,_,i+1,h,.cons q r=>.cons q (aj.set i h r)
theorem aj.rep{vs:List V}{ts:List T}(r:aj K H B vs ts):∀ n:Nat,aj K H B (List.replicate n vs).flatten (List.replicate n ts).flatten
 | 0=>.nil
 | n+1=>by rw[List.replicate_succ,List.replicate_succ,List.flatten_cons,List.flatten_cons];exact r.append (aj.rep r n)
theorem aj.erase:∀ {vs:List V} {ts:List T} (i:Nat),aj K H B vs ts->aj K H B (vs.eraseIdx i) (ts.eraseIdx i)
 | _,_,_,.nil=>.nil
 | _,_,0,.cons _ r=>r
 | _,_,i+1,.cons h r=>.cons h (aj.erase i r)
theorem aj.bX{vs:List V}{ts:List T}{i:Int}{t:T}(r:aj K H B vs ts)(e:L2.bX ts i=some t):∃ v,L2.bX vs i=some v/\Rep K H B v t:=by
 unfold L2.bX at e ⊢;rw[r.length]
 cases q:kW ts.length i with
 | none=>rw[q] at e;cases e
 | some j=>rw[q] at e;exact r.get e
end
def aT:T->Bool
 | .bf | .bl _ | .int _ | .str _=>true
 | _=>false
theorem Rep.flat{K:PySem.W.Frag}{H H':Hp}{B B':aK}{v:V}{t:T}(h:Rep K H B v t)(f:aT t=true):Rep K H' B' v t:=by
 cases h with
 | bf=>exact .bf
 | bl b=>exact .bl b
 | int i=>exact .int i
 | str x=>exact .str x
 | tup=>cases f
 | d9=>cases f
 | lst=>cases f
 | dc=>cases f
 | dh=>cases f
 | ly=>cases f
 | exc=>cases f
 | yc=>cases f
theorem aj.flat{K:PySem.W.Frag}{H H':Hp}{B B':aK}:∀ {vs:List V} {ts:List T},aj K H B vs ts->ts.all aT=true->aj K H' B' vs ts
 | _,_,.nil,_=>.nil
 | _,_,.cons h r,f=>by
  rw[List.all_cons,Bool.and_eq_true] at f;exact .cons (h.flat f.1) (aj.flat r f.2)
def Bx(K:PySem.W.Frag)(H:Hp)(B:aK)(a:Addr)(c:T):Prop:=match c with
 | .lst ts=>∃ vs,H a=some (.lst vs)/\aj K H B vs ts
 | .ly ks ts=>∃ vs,H a=some (.dK (ks.zip vs))/\ks.length=vs.length/\aj K H B vs ts
 | _=>False
theorem Bx.e9{K:PySem.W.Frag}{H:Hp}{B:aK}{a:Addr}{c:T}(h:Bx K H B a c):∃ o,H a=some o:=by
 unfold Bx at h
 split at h
 ·obtain⟨vs,e,_⟩:=h;exact⟨_,e⟩
 ·obtain⟨vs,e,_⟩:=h;exact⟨_,e⟩
 ·exact h.elim
theorem Bx.of{K:PySem.W.Frag}{H H':Hp}{B B':aK}{a:Addr}{c:T}(h:Bx K H B a c)(e:H' a=H a)(f:Fr B H B' H'):Bx K H' B' a c:=by
 unfold Bx at h ⊢
 split at h
 ·obtain⟨vs,q,r⟩:=h;exact⟨vs,e.trans q,r.fr f⟩
 ·obtain⟨vs,q,l,r⟩:=h;exact⟨vs,e.trans q,l,r.fr f⟩
 ·exact h.elim
theorem Bx.is{K:PySem.W.Frag}{H:Hp}{B:aK}{a:Addr}{c:T}(h:Bx K H B a c):(∃ ts vs,c=.lst ts/\H a=some (.lst vs)/\aj K H B vs ts)\/∃ ks ts vs,c=.ly ks ts/\H a=some (.dK (ks.zip vs))/\ks.length=vs.length/\aj K H B vs ts:=by
 unfold Bx at h
 split at h
 ·obtain⟨vs,q,r⟩:=h;exact .inl ⟨_,vs,rfl,q,r⟩
 ·obtain⟨vs,q,l,r⟩:=h;exact .inr ⟨_,_,vs,rfl,q,l,r⟩
 ·exact h.elim
theorem Bx.rep{K:PySem.W.Frag}{H:Hp}{B:aK}{a:Addr}{c:T}(h:Bx K H B a c)(n:¬ B a):Rep K H B (.ref a) c:=by
 rcases h.is with ⟨ts,vs,rfl,e,r⟩ | ⟨ks,ts,vs,rfl,e,l,r⟩
 ·exact .lst n e r
 ·exact .ly n (.inl e) l r
inductive Sl where
 | un | tr (t:T) | bx (c:T) | pb (c:T)
noncomputable abbrev Mu:=List Sl
inductive R where
 | tr (t:T) | br (i:Nat) | fr (c:T)
structure Fx where
 K:PySem.W.Frag
 H0:Hp
 P:Nat->Option Addr
 Bc:aK
 bh:∀ b,Bc b->∃ o,H0 b=some o
 G:Addr->Option (List V)
def fX(F:Fx)(ad:Nat->Addr)(B:aK)(H:Hp)(i:Nat)(s:Sl)(x:Option (Option V)):Prop:=match s with
 | .un=>True
 | .tr t=>∃ v,x=some (some v)/\Rep F.K H B v t
 | .bx c=>x=some (some (.ref (ad i)))/\B (ad i)/\F.H0 (ad i)=none/\F.P i=none/\Bx F.K H B (ad i) c
 | .pb c=>x=some (some (.ref (ad i)))/\B (ad i)/\F.P i=some (ad i)/\Bx F.K H B (ad i) c
def Sl.box:Sl->Option T
 | .bx c=>some c
 | .pb c=>some c
 | _=>none
structure Rl (F:Fx) (ad:Nat->Addr) (B:aK) (σ:St) (H:Hp) (μ:Mu):Prop where
 len:μ.length=σ.length
 slot:∀ i s,μ[i]?=some s->fX F ad B H i s σ[i]?
 inj:∀ i j s u c d,μ[i]?=some s->μ[j]?=some u->s.box=some c->u.box=some d->ad i=ad j->i=j
 par:∀ i a,F.P i=some a->(∃ c,μ[i]?=some (.pb c))/\ad i=a
 bc:∀ b,F.Bc b->B b
 e9:∀ b,B b->∃ o,H b=some o
 old:∀ b o,F.H0 b=some o->(∀ i,F.P i≠some b)->H b=some o
 gh:∀ a vs,F.G a=some vs->H a=some (.lst vs)/\B a/\∀ (i:Nat) (s:Sl) (c:T),μ[i]?=some s->s.box=some c->ad i≠a
theorem fX.boxed{F:Fx}{ad:Nat->Addr}{B:aK}{H:Hp}{i:Nat}{s:Sl}{x:Option (Option V)}{c:T}(h:fX F ad B H i s x)(e:s.box=some c):x=some (some (.ref (ad i)))/\B (ad i)/\Bx F.K H B (ad i) c/\(F.P i=some (ad i)\/F.H0 (ad i)=none):=by
 unfold fX at h
 split at h
 ·cases e
 ·cases e
 ·cases e;exact⟨h.1,h.2.1,h.2.2.2.2,.inr h.2.2.1⟩
 ·cases e;exact⟨h.1,h.2.1,h.2.2.2,.inl h.2.2.1⟩
def Hv(F:Fx)(ad:Nat->Addr)(B:aK)(H:Hp)(μ:Mu)(v:V)(r:R):Prop:=match r with
 | .tr t=>Rep F.K H B v t
 | .br i=>v=.ref (ad i)/\∃ s c,μ[i]?=some s/\s.box=some c
 | .fr _=>False
def more(B:aK)(a:Addr):aK:=fun b=>b=a\/B b
def Vr(F:Fx)(ad:Nat->Addr)(B:aK)(σ:St)(H:Hp)(μ:Mu)(v:V)(r:R):Prop:=match r with
 | .fr c=>Rl F ad B σ H μ/\∃ a,v=.ref a/\¬ B a/\F.H0 a=none/\Rl F ad (more B a) σ H μ/\Bx F.K H (more B a) a c
 | r=>Rl F ad B σ H μ/\Hv F ad B H μ v r
def R.d:R->R
 | .fr c=>.tr c
 | r=>r
section
variable {F:Fx} {ad:Nat->Addr} {B B':aK} {σ:St} {H H':Hp} {μ:Mu} {v:V} {r:R}
theorem Rl.xO(h:Rl F ad B σ H μ){p:Addr}(e:H p=none):F.H0 p=none:=by
 cases q:F.H0 p with
 | none=>rfl
 | some o =>
  by_cases z:∃ i,F.P i=some p
  ·obtain⟨i,z⟩:=z;obtain⟨⟨c,hc⟩,ha⟩:=h.par i p z;have:=(h.slot i _ hc).boxed (c:=c) rfl;obtain⟨o',e'⟩:=h.e9 _ this.2.1;rw[ha,e] at e';cases e'
  ·have:=h.old p o q fun i zi=>z ⟨i,zi⟩;rw[e] at this;cases this
theorem Rl.jt(h:Rl F ad B σ H μ){p:Addr}(e:H p=none):¬ B p:=fun z=>by
 obtain⟨o,q⟩:=h.e9 p z;rw[e] at q;cases q
theorem Rl.fr(h:Rl F ad B σ H μ)(s:bC H H')(hB:∀ b,B b->B' b)(hT:∀ b,B' b->∃ o,H' b=some o)(f:Fr B H B' H'):Rl F ad B' σ H' μ:=by
 refine⟨h.len,fun i s' e=>?_,h.inj,h.par,fun b z=>hB b (h.bc b z),hT,fun b o e n=>s b o (h.old b o e n),fun a vs e=>let ⟨g1,g2,g3⟩:=h.gh a vs e;⟨s a _ g1,hB a g2,g3⟩⟩
 have k:=h.slot i s' e;unfold fX at k ⊢
 split at k
 ·trivial
 ·obtain⟨v,e1,r⟩:=k;exact⟨v,e1,r.fr f⟩
 ·obtain⟨e1,b,z,p,x⟩:=k;obtain⟨o,q⟩:=x.e9;exact⟨e1,hB _ b,z,p,x.of ((s _ _ q).trans q.symm) f⟩
 ·obtain⟨e1,b,p,x⟩:=k;obtain⟨o,q⟩:=x.e9;exact⟨e1,hB _ b,p,x.of ((s _ _ q).trans q.symm) f⟩
theorem Rl.same(h:Rl F ad B σ H μ)(s:bC H H'):Rl F ad B σ H' μ:=h.fr s (fun _ z=>z) (fun b z=>let ⟨o,e⟩:=h.e9 b z;⟨o,s b o e⟩) (Fr.same s)
theorem Rl.new(h:Rl F ad B σ H μ){p:Addr}{o:HO}(e:H p=none):Rl F ad (more B p) σ (upd H p o) μ:=
 h.fr (bC.new e) (fun _ z=>.inr z) (fun b z=>z.elim (fun q=>by subst q;exact⟨o,af⟩) fun q=>let ⟨u,w⟩:=h.e9 b q;⟨u,bC.new e b u w⟩) (Fr.more e)
theorem Rl.less(h:Rl F ad B σ H μ)(s:∀ b,B' b->B b)(hb:∀ b,F.Bc b->B' b)(own:∀ i s' c,μ[i]?=some s'->s'.box=some c->B' (ad i))(hg:∀ a vs,F.G a=some vs->B' a):Rl F ad B' σ H μ:=by
 refine⟨h.len,fun i s' e=>?_,h.inj,h.par,hb,fun b z=>h.e9 b (s b z),h.old,fun a vs e=>let ⟨g1,g2,g3⟩:=h.gh a vs e;⟨g1,hg a vs e,g3⟩⟩
 have k:=h.slot i s' e;unfold fX at k ⊢
 split at k
 ·trivial
 ·obtain⟨v,e1,r⟩:=k;exact⟨v,e1,r.fr (Fr.less s)⟩
 ·obtain⟨e1,b,z,p,x⟩:=k;exact⟨e1,own i _ _ e rfl,z,p,x.of rfl (Fr.less s)⟩
 ·obtain⟨e1,b,p,x⟩:=k;exact⟨e1,own i _ _ e rfl,p,x.of rfl (Fr.less s)⟩
theorem Vr.rl(h:Vr F ad B σ H μ v r):Rl F ad B σ H μ:=by
 cases r with
 | tr t=>exact h.1
 | br i=>exact h.1
 | fr c=>exact h.1
theorem Vr.hv(h:Vr F ad B σ H μ v r):Hv F ad B H μ v r.d:=by
 cases r with
 | tr t=>exact h.2
 | br i=>exact h.2
 | fr c =>
  obtain⟨_,a,rfl,n,_,_,x⟩:=h;exact (x.of rfl (Fr.less fun _ z=>.inr z)).rep n
def Kp(μ μ':Mu):Prop:=∀ i:Nat,((μ[i]?).bind Sl.box).isSome=((μ'[i]?).bind Sl.box).isSome
theorem Kp.refl(μ:Mu):Kp μ μ:=fun i=>rfl
theorem Kp.trans{μ μ1 μ2:Mu}(a:Kp μ μ1)(b:Kp μ1 μ2):Kp μ μ2:=fun i=>(a i).trans (b i)
theorem Kp.symm{μ μ1:Mu}(a:Kp μ μ1):Kp μ1 μ:=fun i=>(a i).symm
theorem Kp.fwd{μ μ':Mu}(k:Kp μ μ'):∀ (i:Nat) (s:Sl) (c:T),μ[i]?=some s->s.box=some c->∃ (s':Sl) (c':T),μ'[i]?=some s'/\s'.box=some c':=fun i s c e b=>by
 have h:=k i;rw[e] at h;have h1:(s.box).isSome=((μ'[i]?).bind Sl.box).isSome:=h;rw[b] at h1
 cases q:μ'[i]? with
 | none=>rw[q] at h1;cases h1
 | some s' =>
  rw[q] at h1;have h2:true=(s'.box).isSome:=h1
  cases q2:s'.box with
  | none=>rw[q2] at h2;cases h2
  | some c'=>exact⟨s',c',rfl,q2⟩
theorem Kp.set{μ:Mu}{i:Nat}{s s':Sl}{c d:T}(e:μ[i]?=some s)(b:s.box=some c)(b':s'.box=some d):Kp μ (μ.set i s'):=fun j=>by
 have hi:i < μ.length:=(List.getElem?_eq_some_iff.mp e).1;by_cases z:i=j
 ·subst z;rw[List.getElem?_set_self hi,e];show (s.box).isSome=(s'.box).isSome;rw[b,b'];rfl
 ·rw[List.getElem?_set_ne z]
theorem Hv.fr{ad:Nat->Addr}{μ':Mu}(h:Hv F ad B H μ v r)(f:Fr B H B' H')(k:Kp μ μ'):Hv F ad B' H' μ' v r:=by
 cases r with
 | tr t=>exact Rep.fr f h
 | br i=>obtain⟨e,s,c,h1,h2⟩:=h;exact⟨e,k.fwd i s c h1 h2⟩
 | fr c=>exact h.elim
def cont(μ:Mu):R->Option T
 | .tr t=>some t
 | .br i=>(μ[i]?).bind Sl.box
 | .fr c=>some c
inductive Vw (K:PySem.W.Frag) (H:Hp) (B:aK):V->T->Prop
 | bf:Vw K H B .bf .bf
 | bl (b:Bool):Vw K H B (.bl b) (.bl b)
 | int (i:Int):Vw K H B (.int i) (.int i)
 | str (x:Str):Vw K H B (.str x) (.str x)
 | tup {a:Addr} {vs:List V} {ts:List T} (h:H a=some (.tup vs)) (r:aj K H B vs ts):Vw K H B (.ref a) (.tup ts)
 | d9 {a:Addr} {vs:List V} {ts:List T} (h:Di K a vs) (r:aj K H B vs ts):Vw K H B (.ref a) (.d9 ts)
 | lst {a:Addr} {vs:List V} {ts:List T} (h:H a=some (.lst vs)) (r:aj K H B vs ts):Vw K H B (.ref a) (.lst ts)
 | dc {a:Addr} {vs:List V} {ts:List T} (h:bA K H a vs) (r:aj K H B vs ts):Vw K H B (.ref a) (.dc ts)
 | dh {a:Addr} {lo hi:Int} (h:H a=some (.dh lo hi)):Vw K H B (.ref a) (.dh lo hi)
 | ly {a:Addr} {ks:List Key} {vs:List V} {ts:List T} (h:Rd H a (.dK (ks.zip vs))) (l:ks.length=vs.length) (r:aj K H B vs ts):Vw K H B (.ref a) (.ly ks ts)
 | exc {a:Addr} {c:Value} (h:H a=some (.ext (jh a c none))):Vw K H B (.ref a) (.exc c none)
 | yc {a d:Addr} {c:Value} {x:Str} {i:Int} (h:H a=some (.ext (jh a c (some d)))) (g:H d=some (.xd [(x,.int i)])):Vw K H B (.ref a) (.exc c (some (x,i)))
theorem Rep.vw{K:PySem.W.Frag}{t:T}(h:Rep K H B v t):Vw K H B v t:=by
 cases h with
 | bf=>exact .bf
 | bl b=>exact .bl b
 | int i=>exact .int i
 | str x=>exact .str x
 | tup n h r=>exact .tup h r
 | d9 h r=>exact .d9 h r
 | lst n h r=>exact .lst h r
 | dc h r=>exact .dc h.sq r
 | dh n h=>exact .dh h
 | ly n h l r=>exact .ly h l r
 | exc n h=>exact .exc h
 | yc n h m g=>exact .yc h g
theorem Hv.vw{t:T}(l:Rl F ad B σ H μ)(h:Hv F ad B H μ v r)(e:cont μ r=some t):Vw F.K H B v t:=by
 cases r with
 | tr u=>cases e;exact Rep.vw h
 | br i =>
  obtain⟨rfl,s,c,h1,h2⟩:=h;have e2:(μ[i]?).bind Sl.box=some t:=e;rw[h1] at e2;have e':s.box=some t:=e2;rcases ((l.slot i s h1).boxed e').2.2.1.is with ⟨ts,vs,rfl,q,rr⟩ | ⟨ks,ts,vs,rfl,q,ll,rr⟩
  ·exact .lst q rr
  ·exact .ly (.inl q) ll rr
 | fr c=>exact h.elim
def Sl.put:Sl->T->Sl
 | .bx _,c=>.bx c
 | .pb _,c=>.pb c
 | s,_=>s
theorem Sl.gL{s:Sl}{c d:T}(e:s.box=some c):(s.put d).box=some d:=by
 cases s<;>first | rfl | cases e
theorem Rl.put{i:Nat}{s:Sl}{c:T}{vs:List V}{ts:List T}(l:Rl F ad B σ H μ)(e:μ[i]?=some s)(hb:s.box=some c)(r:aj F.K H B vs ts):Rl F ad B σ (upd H (ad i) (.lst vs)) (μ.set i (s.put (.lst ts))):=by
 have k0:=(l.slot i s e).boxed hb;have hi:i < μ.length:=(List.getElem?_eq_some_iff.mp e).1;have f:Fr B H B (upd H (ad i) (.lst vs)):=Fr.set k0.2.1;have get:∀ j,(μ.set i (s.put (.lst ts)))[j]?=if j=i then some (s.put (.lst ts)) else μ[j]?:=fun j=>by
  rw[List.getElem?_set];by_cases z:i=j
  ·subst z;simp[hi]
  ·rw[if_neg z,if_neg (fun q=>z q.symm)]
 refine⟨by rw[List.length_set];exact l.len,fun j s' e'=>?_,fun j k s1 s2 c1 c2 e1 e2 b1 b2 q=>?_,fun j a p=>?_,l.bc,fun b z=>?_,fun b o e' n=>?_,fun a ws ga=>?_⟩
 ·rw[get] at e';by_cases z:j=i
  ·subst z;rw[if_pos rfl] at e';cases e';have k:=l.slot j s e
   cases s with
   | un=>cases hb
   | tr t=>cases hb
   | bx d=>exact⟨k.1,k.2.1,k.2.2.1,k.2.2.2.1,vs,af,r.fr f⟩
   | pb d=>exact⟨k.1,k.2.1,k.2.2.1,vs,af,r.fr f⟩
  ·rw[if_neg z] at e';have k:=l.slot j s' e';have ne:∀ d,s'.box=some d->ad j≠ad i:=fun d hd q=>z (l.inj j i s' s d c e' e hd hb q);unfold fX at k ⊢
   split at k
   ·trivial
   ·obtain⟨v,e1,r1⟩:=k;exact⟨v,e1,r1.fr f⟩
   ·obtain⟨e1,b,z0,p,x⟩:=k;exact⟨e1,b,z0,p,x.of (ae (ne _ rfl)) f⟩
   ·obtain⟨e1,b,p,x⟩:=k;exact⟨e1,b,p,x.of (ae (ne _ rfl)) f⟩
 ·rw[get] at e1 e2;have h1:∃ u d,μ[j]?=some u/\u.box=some d:=by
   by_cases z:j=i
   ·subst z;exact⟨s,c,e,hb⟩
   ·rw[if_neg z] at e1;exact⟨_,_,e1,b1⟩
  have h2:∃ u d,μ[k]?=some u/\u.box=some d:=by
   by_cases z:k=i
   ·subst z;exact⟨s,c,e,hb⟩
   ·rw[if_neg z] at e2;exact⟨_,_,e2,b2⟩
  obtain⟨u1,d1,g1,g2⟩:=h1;obtain⟨u2,d2,g3,g4⟩:=h2;exact l.inj j k u1 u2 d1 d2 g1 g3 g2 g4 q
 ·obtain⟨⟨d,hd⟩,ha⟩:=l.par j a p;refine⟨?_,ha⟩;rw[get];by_cases z:j=i
  ·subst z;rw[e] at hd;cases hd;rw[if_pos rfl];exact⟨_,rfl⟩
  ·rw[if_neg z];exact⟨d,hd⟩
 ·by_cases z':b=ad i
  ·subst z';exact⟨_,af⟩
  ·rw[ae z'];exact l.e9 b z
 ·have ne:b≠ad i:=by
   rintro rfl;rcases k0.2.2.2 with z | z
   ·exact n i z
   ·rw[z] at e';cases e'
  rw[ae ne];exact l.old b o e' n
 ·obtain⟨g1,g2,g3⟩:=l.gh a ws ga;refine⟨by rw[ae (fun z=>g3 i s c e hb z.symm)];exact g1,g2,fun j s' d e' b'=>?_⟩
  rw[get] at e';by_cases z:j=i
  ·subst z;exact g3 j s c e hb
  ·rw[if_neg z] at e';exact g3 j s' d e' b'
theorem Rl.Ce{i:Nat}{t:T}(l:Rl F ad B σ H μ)(hp:∀ c,μ[i]?≠some (.pb c))(h:Rep F.K H B v t):Rl F ad B (σ.set i (some v)) H (μ.set i (.tr t)):=by
 have get:∀ j,i < μ.length->(μ.set i (.tr t))[j]?=if j=i then some (.tr t) else μ[j]?:=fun j hi=>by
  rw[List.getElem?_set];by_cases z:i=j
  ·subst z;simp[hi]
  ·rw[if_neg z,if_neg (fun q=>z q.symm)]
 by_cases hi:i < μ.length
 ·refine⟨by rw[List.length_set,List.length_set];exact l.len,fun j s' e'=>?_,fun j k s1 s2 c1 c2 e1 e2 b1 b2 q=>?_,fun j a p=>?_,l.bc,l.e9,l.old,fun a ws ga=>?_⟩
  ·rw[get j hi] at e';by_cases z:j=i
   ·subst z;rw[if_pos rfl] at e';cases e';exact⟨v,by rw[List.getElem?_set_self (by rw[<- l.len];exact hi)],h⟩
   ·rw[if_neg z] at e';rw[List.getElem?_set_ne (Ne.symm z)];exact l.slot j s' e'
  ·rw[get j hi] at e1;rw[get k hi] at e2;by_cases z:j=i
   ·rw[if_pos z] at e1;cases e1;cases b1
   ·by_cases z2:k=i
    ·rw[if_pos z2] at e2;cases e2;cases b2
    ·rw[if_neg z] at e1;rw[if_neg z2] at e2;exact l.inj j k _ _ _ _ e1 e2 b1 b2 q
  ·obtain⟨⟨d,hd⟩,ha⟩:=l.par j a p;refine⟨⟨d,?_⟩,ha⟩;rw[get j hi];by_cases z:j=i
   ·subst z;exact absurd hd (hp d)
   ·rw[if_neg z];exact hd
  ·obtain⟨g1,g2,g3⟩:=l.gh a ws ga;refine⟨g1,g2,fun j s' d e' b'=>?_⟩;rw[get j hi] at e';by_cases z:j=i
   ·rw[if_pos z] at e';cases e';cases b'
   ·rw[if_neg z] at e';exact g3 j s' d e' b'
 ·have hs:σ.length<=i:=by rw[<- l.len];lia
  rw[List.set_eq_of_length_le (show μ.length<=i by lia),List.set_eq_of_length_le hs]
  exact l
theorem Rl.setB{i:Nat}{c:T}{a:Addr}(l:Rl F ad (more B a) σ H μ)(hp:∀ c,μ[i]?≠some (.pb c))(h0:F.H0 a=none)(n:¬ B a)(own:∀ j s c,μ[j]?=some s->s.box=some c->B (ad j))(gB:∀ b vs,F.G b=some vs->B b)(x:Bx F.K H (more B a) a c):
  Rl F (fun j=>if j=i then a else ad j) (more B a) (σ.set i (some (.ref a))) H (μ.set i (.bx c)):=by
 have get:∀ j,i < μ.length->(μ.set i (.bx c))[j]?=if j=i then some (.bx c) else μ[j]?:=fun j hi=>by
  rw[List.getElem?_set];by_cases z:i=j
  ·subst z;simp[hi]
  ·rw[if_neg z,if_neg (fun q=>z q.symm)]
 have pi:F.P i=none:=by
  cases q:F.P i with
  | none=>rfl
  | some b =>
   obtain⟨⟨d,hd⟩,_⟩:=l.par i b q;exact absurd hd (hp d)
 by_cases hi:i < μ.length
 ·refine⟨by rw[List.length_set,List.length_set];exact l.len,fun j s' e'=>?_,fun j k s1 s2 c1 c2 e1 e2 b1 b2 q=>?_,fun j a' p=>?_,l.bc,l.e9,l.old,fun b ws ga=>?_⟩
  ·rw[get j hi] at e';by_cases z:j=i
   ·subst z;rw[if_pos rfl] at e';cases e';show _/\_;simp only[if_pos];exact⟨by rw[List.getElem?_set_self (by rw[<- l.len];exact hi)],.inl rfl,h0,pi,x⟩
   ·rw[if_neg z] at e';rw[List.getElem?_set_ne (Ne.symm z)];have k:=l.slot j s' e';unfold fX at k ⊢;simp only[if_neg z];exact k
  ·rw[get j hi] at e1;rw[get k hi] at e2;by_cases z:j=i
   ·by_cases z2:k=i
    ·rw[z,z2]
    ·rw[if_pos z,if_neg z2] at q;rw[if_neg z2] at e2;exact absurd (own k _ _ e2 b2) (by rw[<- q];exact n)
   ·by_cases z2:k=i
    ·rw[if_pos z2,if_neg z] at q;rw[if_neg z] at e1;exact absurd (own j _ _ e1 b1) (by rw[q];exact n)
    ·rw[if_neg z] at e1;rw[if_neg z2] at e2;rw[if_neg z,if_neg z2] at q;exact l.inj j k _ _ _ _ e1 e2 b1 b2 q
  ·obtain⟨⟨d,hd⟩,ha⟩:=l.par j a' p;have z:j≠i:=by rintro rfl;exact hp d hd
   rw[get j hi,if_neg z];exact⟨⟨d,hd⟩,by simp only[if_neg z];exact ha⟩
  ·obtain⟨g1,g2,g3⟩:=l.gh b ws ga;refine⟨g1,g2,fun j s' d e' b'=>?_⟩;rw[get j hi] at e';by_cases z:j=i
   ·simp only[if_pos z];rintro rfl;exact n (gB _ ws ga)
   ·rw[if_neg z] at e';simp only[if_neg z];exact g3 j s' d e' b'
 ·have hs:σ.length<=i:=by rw[<- l.len];lia
  rw[List.set_eq_of_length_le (show μ.length<=i by lia),List.set_eq_of_length_le hs]
  have ne:∀ j s,μ[j]?=some s->j≠i:=fun j s e q=>by
   have:=(List.getElem?_eq_some_iff.mp e).1;lia
  refine⟨l.len,fun j s' e'=>?_,fun j k s1 s2 c1 c2 e1 e2 b1 b2 q=>?_,fun j a' p=>?_,l.bc,l.e9,l.old,fun b ws ga=>?_⟩
  ·have k:=l.slot j s' e';unfold fX at k ⊢;simp only[if_neg (ne j s' e')];exact k
  ·simp only[if_neg (ne j _ e1),if_neg (ne k _ e2)] at q;exact l.inj j k _ _ _ _ e1 e2 b1 b2 q
  ·obtain⟨⟨d,hd⟩,ha⟩:=l.par j a' p;exact⟨⟨d,hd⟩,by simp only[if_neg (ne j _ hd)];exact ha⟩
  ·obtain⟨g1,g2,g3⟩:=l.gh b ws ga;refine⟨g1,g2,fun j s' d e' b'=>?_⟩;simp only[if_neg (ne j _ e')];exact g3 j s' d e' b'
theorem Rl.gB(l:Rl F ad B σ H μ):∀ b vs,F.G b=some vs->B b:=fun b vs e=>(l.gh b vs e).2.1
theorem Rl.own(l:Rl F ad B σ H μ):∀ j s c,μ[j]?=some s->s.box=some c->B (ad j):=fun j s c e b=>((l.slot j s e).boxed b).2.1
theorem Rl.freeze{i:Nat}{c:T}(l:Rl F ad B σ H μ)(e:μ[i]?=some (.bx c))(hc:¬ F.Bc (ad i)):Rl F ad (fun b=>B b/\b≠ad i) σ H (μ.set i (.tr c))/\Rep F.K H (fun b=>B b/\b≠ad i) (.ref (ad i)) c:=by
 have k0:=l.slot i _ e;have hi:i < μ.length:=(List.getElem?_eq_some_iff.mp e).1;have rp:Rep F.K H (fun b=>B b/\b≠ad i) (.ref (ad i)) c:=((k0.2.2.2.2).of rfl (Fr.less fun _ z=>z.1)).rep (fun z=>z.2 rfl);have get:∀ j,(μ.set i (.tr c))[j]?=if j=i then some (.tr c) else μ[j]?:=fun j=>by
  rw[List.getElem?_set];by_cases z:i=j
  ·subst z;simp[hi]
  ·rw[if_neg z,if_neg (fun q=>z q.symm)]
 have pi:F.P i=none:=k0.2.2.2.1;refine⟨⟨by rw[List.length_set];exact l.len,fun j s' e'=>?_,fun j k s1 s2 c1 c2 e1 e2 b1 b2 q=>?_,fun j a p=>?_,fun b z=>⟨l.bc b z,by rintro rfl;exact hc z⟩,fun b z=>l.e9 b z.1,l.old,fun a ws ga=>?_⟩,rp⟩
 ·rw[get] at e';by_cases z:j=i
  ·subst z;rw[if_pos rfl] at e';cases e';exact⟨_,k0.1,rp⟩
  ·rw[if_neg z] at e';have k:=l.slot j s' e';have ne:∀ d,s'.box=some d->ad j≠ad i:=fun d hd q=>z (l.inj j i s' _ d c e' e hd rfl q);unfold fX at k ⊢
   split at k
   ·trivial
   ·obtain⟨v,e1,r1⟩:=k;exact⟨v,e1,r1.fr (Fr.less fun _ z=>z.1)⟩
   ·obtain⟨e1,b,z0,p,x⟩:=k;exact⟨e1,⟨b,ne _ rfl⟩,z0,p,x.of rfl (Fr.less fun _ z=>z.1)⟩
   ·obtain⟨e1,b,p,x⟩:=k;exact⟨e1,⟨b,ne _ rfl⟩,p,x.of rfl (Fr.less fun _ z=>z.1)⟩
 ·rw[get] at e1 e2;by_cases z:j=i
  ·rw[if_pos z] at e1;cases e1;cases b1
  ·by_cases z2:k=i
   ·rw[if_pos z2] at e2;cases e2;cases b2
   ·rw[if_neg z] at e1;rw[if_neg z2] at e2;exact l.inj j k _ _ _ _ e1 e2 b1 b2 q
 ·obtain⟨⟨d,hd⟩,ha⟩:=l.par j a p;refine⟨⟨d,?_⟩,ha⟩;rw[get];by_cases z:j=i
  ·subst z;rw[pi] at p;cases p
  ·rw[if_neg z];exact hd
 ·obtain⟨g1,g2,g3⟩:=l.gh a ws ga;refine⟨g1,⟨g2,(g3 i _ c e rfl).symm⟩,fun j s' d e' b'=>?_⟩;rw[get] at e';by_cases z:j=i
  ·rw[if_pos z] at e';cases e';cases b'
  ·rw[if_neg z] at e';exact g3 j s' d e' b'
end
noncomputable abbrev UE:=Mu->(R->Mu->Prop)->Prop
noncomputable abbrev UT:=Mu->(Bool->Mu->Prop)->Prop
noncomputable abbrev UA:=Mu->(List R->Mu->Prop)->Prop
noncomputable abbrev UO:=Mu->(Option Int->Mu->Prop)->Prop
noncomputable abbrev U2:=R->R->Mu->(R->Mu->Prop)->Prop
noncomputable abbrev UC:=List R->Mu->(R->Mu->Prop)->Prop
structure Ed where
 nx:Mu->Prop
 rt:R->Mu->Prop
 bk:Mu->Prop:=fun _=>False
 ct:Mu->Prop:=fun _=>False
noncomputable abbrev US:=Ed->Mu->Prop
def Bv(B:aK)(v:V):R->aK
 | .fr _=>(match v with | .ref a=>more B a | _=>B)
 | _=>B
theorem Fr.d{B:aK}{H H':Hp}{v:V}{r:R}(f:Fr B H (Bv B v r) H'):Fr B H B H':=fun b o h n=>⟨(f b o h n).1,n⟩
def RE(K:PySem.W.Frag)(te:TE)(ue:UE):Prop:=∀ (F:Fx) (ad:Nat->Addr) (B:aK) (σ:St) (H:Hp) (μ:Mu) (Q:VK) (Qt:R->Mu->Prop),F.K=K->Rl F ad B σ H μ->ue μ Qt ->
 (∀ v H' r μ',Vr F ad B σ H' μ' v r->Fr B H (Bv B v r) H'->Kp μ μ'->Qt r μ'->Q v H')->te σ H Q
def RT(K:PySem.W.Frag)(tt:TT)(ut:UT):Prop:=∀ (F:Fx) (ad:Nat->Addr) (B:aK) (σ:St) (H:Hp) (μ:Mu) (Q:Bool->Hp->Prop) (Qt:Bool->Mu->Prop),F.K=K->Rl F ad B σ H μ->ut μ Qt ->
 (∀ b H' μ',Rl F ad B σ H' μ'->Fr B H B H'->Kp μ μ'->Qt b μ'->Q b H')->tt σ H Q
def RA(K:PySem.W.Frag)(ta:TA)(ua:UA):Prop:=∀ (F:Fx) (ad:Nat->Addr) (B:aK) (σ:St) (H:Hp) (μ:Mu) (Q:List V->Hp->Prop) (Qt:List R->Mu->Prop),F.K=K->Rl F ad B σ H μ->ua μ Qt ->
 (∀ vs H' rs μ',Rl F ad B σ H' μ'->Paired (Hv F ad B H' μ') vs rs->Fr B H B H'->Kp μ μ'->Qt rs μ'->Q vs H')->ta σ H Q
def RO(K:PySem.W.Frag)(tt:TO)(ut:UO):Prop:=∀ (F:Fx) (ad:Nat->Addr) (B:aK) (σ:St) (H:Hp) (μ:Mu) (Q:Option Int->Hp->Prop) (Qt:Option Int->Mu->Prop),F.K=K->Rl F ad B σ H μ->ut μ Qt ->
 (∀ b H' μ',Rl F ad B σ H' μ'->Fr B H B H'->Kp μ μ'->Qt b μ'->Q b H')->tt σ H Q
def jj(K:PySem.W.Frag)(r:R2)(u:U2):Prop:=∀ (F:Fx) (ad:Nat->Addr) (B:aK) (σ:St) (H:Hp) (μ:Mu) (Q:VK) (Qt:R->Mu->Prop) (x y:V) (r1 r2:R),F.K=K->Rl F ad B σ H μ->Hv F ad B H μ x r1->Hv F ad B H μ y r2->u r1 r2 μ Qt ->
 (∀ v H' r μ',Vr F ad B σ H' μ' v r->Fr B H (Bv B v r) H'->Kp μ μ'->Qt r μ'->Q v H')->r x y H Q
def RC(K:PySem.W.Frag)(r:List V->Hp->VK->Prop)(u:UC):Prop:=∀ (F:Fx) (ad:Nat->Addr) (B:aK) (σ:St) (H:Hp) (μ:Mu) (Q:VK) (Qt:R->Mu->Prop) (xs:List V) (rs:List R),F.K=K->Rl F ad B σ H μ->Paired (Hv F ad B H μ) xs rs->u rs μ Qt ->
 (∀ v H' r μ',Vr F ad B σ H' μ' v r->Fr B H (Bv B v r) H'->Kp μ μ'->Qt r μ'->Q v H')->r xs H Q
section
variable {F:Fx} {ad:Nat->Addr} {B:aK} {σ:St} {H:Hp} {μ:Mu} {Q:VK} {Qt:R->Mu->Prop}
theorem Vr.flat{v:V}{t:T}(l:Rl F ad B σ H μ)(r:Rep F.K H B v t):Vr F ad B σ H μ v (.tr t):=⟨l,r⟩
theorem Vr.fP{p:Addr}{vs:List V}{ts:List T}(l:Rl F ad B σ H μ)(r:aj F.K H B vs ts)(e:H p=none):Vr F ad B σ (upd H p (.lst vs)) μ (.ref p) (.fr (.lst ts)):=
 ⟨l.same (bC.new e),p,rfl,l.jt e,l.xO e,l.new e,vs,af,r.fr (Fr.more e)⟩
theorem Vr.qV{p:Addr}{vs:List V}{ts:List T}(l:Rl F ad B σ H μ)(r:aj F.K H B vs ts)(e:H p=none):Vr F ad B σ (upd H p (.tup vs)) μ (.ref p) (.tr (.tup ts)):=
 ⟨l.same (bC.new e),.tup (l.jt e) af (r.fr (Fr.same (bC.new e)))⟩
end
structure YE (X:Cx) (e:Expr) (u:UE):Prop where
 ex:∃ t,QE X e t/\RE X.K t u
structure YT (X:Cx) (e:Expr) (u:UT):Prop where
 ex:∃ t,QT X e t/\RT X.K t u
structure YW (X:Cx) (e:Expr) (u:UT):Prop where
 ex:∃ t,QW X e t/\RT X.K t u
structure YA (X:Cx) (es:List Expr) (u:UA):Prop where
 ex:∃ t,QA X es t/\RA X.K t u
structure YO (X:Cx) (e:Option Expr) (u:UO):Prop where
 ex:∃ t,QO X e t/\RO X.K t u
structure BP (X:Cx) (es:List Expr) (u:UT):Prop where
 ex:∃ t,DZ X es t/\RT X.K t u
namespace Y
def uC(t:T):UE:=fun μ Q=>Q (.tr t) μ
def jf(i:Nat):UE:=fun μ Q=>match μ[i]? with
 | some (.tr t)=>Q (.tr t) μ
 | some (.bx _)=>Q (.br i) μ
 | some (.pb _)=>Q (.br i) μ
 | _=>False
def sE(u:U2)(ua ub:UE):UE:=fun μ Q=>ua μ fun r1 μ1=>ub μ1 fun r2 μ2=>u r1.d r2.d μ2 Q
section
variable {X:Cx} {a b c e o:Expr} {es rest:List Expr} {ua ub uc ue uo:UE} {uA uB:UT} {us:UA} {pos p p2:Pos} {x:Str}
theorem xT{K:PySem.W.Frag}{v:V}{t:T}(h:∀ H B,Rep K H B v t):RE K (tC v) (uC t):=fun F ad B σ H μ Q Qt hK l q k=>k v H (.tr t) μ ⟨l,show Rep F.K H B v t from hK ▸ h H B⟩ Fr.refl (Kp.refl μ) q
theorem int{i:Int}{j:Nat}:YE X (.Constant (.int i) j pos) (uC (.int i)):=⟨_,Z.int,xT fun _ _=>.int i⟩
theorem bl{i:Bool}{j:Nat}:YE X (.Constant (.bool i) j pos) (uC (.bl i)):=⟨_,Z.bl,xT fun _ _=>.bl i⟩
theorem str{i:Str}{j:Nat}:YE X (.Constant (.str i) j pos) (uC (.str i)):=⟨_,Z.str,xT fun _ _=>.str i⟩
theorem v(i:Nat)(hN:X.N[i]?=some x:=by rfl)(hv:Bf X.env.scope x:=by first | exact Or.inl rfl | exact Or.inr (Or.inl rfl) | exact Or.inr (Or.inr rfl))(hd:(x ==("__debug__":Str))=false:=by decide)
  (hcd:(x ==("__classdict__":Str))=false:=by decide):YE X (.Name x pos) (jf i):=by
 refine⟨_,Z.v i hN hv hd hcd,fun F ad B σ H μ Q Qt hK l q k=>?_⟩;unfold jf at q
 split at q
 ·rename_i t e;obtain⟨v,e1,r⟩:=l.slot i _ e;exact⟨v,e1,k v H (.tr t) μ ⟨l,r⟩ Fr.refl (Kp.refl μ) q⟩
 ·rename_i t e;have r:=l.slot i _ e;exact⟨_,r.1,k _ H (.br i) μ ⟨l,rfl,_,_,e,rfl⟩ Fr.refl (Kp.refl μ) q⟩
 ·rename_i t e;have r:=l.slot i _ e;exact⟨_,r.1,k _ H (.br i) μ ⟨l,rfl,_,_,e,rfl⟩ Fr.refl (Kp.refl μ) q⟩
 ·exact q.elim
theorem glob{w:V}{u:Value}{t:T}(hg:Gl X x)(hm:X.mg x=some u)(r:RelV w u)(h:∀ H B,Rep X.K H B w t)(hd:(x ==("__debug__":Str))=false:=by decide):YE X (.Name x pos) (uC t):=⟨_,Z.glob hg hm r hd,xT h⟩
theorem pR{K:PySem.W.Frag}{r:R2}{u:U2}{ta tb:TE}(h:jj K r u)(ha:RE K ta ua)(hb:RE K tb ub):RE K (sH r ta tb) (sE u ua ub):=fun F ad B σ H μ Q Qt hK l q k =>
 ha F ad B σ H μ _ _ hK l q fun x H1 r1 μ1 v1 f1 k1 q1=>hb F ad B σ H1 μ1 _ _ hK v1.rl q1 fun y H2 r2 μ2 v2 f2 k2 q2 =>
  h F ad B σ H2 μ2 _ _ x y r1.d r2.d hK v2.rl (v1.hv.fr f2.d k2) v2.hv q2 fun v H' r μ' v3 f3 k3 q3=>k v H' r μ' v3 ((f1.d.trans f2.d).trans f3) ((k1.trans k2).trans k3) q3
theorem op{o:Operator}{r:R2}{u:U2}(ho:cJ X (binaryOp o) r)(h:jj X.K r u)(ha:YE X a ua)(hb:YE X b ub):YE X (.BinOp a o b pos) (sE u ua ub):=by
 obtain⟨ta,qa,ra⟩:=ha;obtain⟨tb,qb,rb⟩:=hb;exact⟨_,Z.op ho qa qb,pR h ra rb⟩
theorem cmp{o:CmpOp}{r:R2}{u:U2}(ho:cJ X (compareOp o) r)(h:jj X.K r u)(ha:YE X a ua)(hb:YE X b ub)(hm:behindInMarks o b=false:=by rfl):YE X (.Compare a [o] [b] pos) (sE u ua ub):=by
 obtain⟨ta,qa,ra⟩:=ha;obtain⟨tb,qb,rb⟩:=hb;exact⟨_,Z.cmp ho qa qb hm,pR h ra rb⟩
theorem ix{r:R2}{u:U2}(hr:pC X r)(h:jj X.K r u)(ha:YE X a ua)(hb:YE X b ub)(hs:Z.sim b=true:=by rfl):YE X (.Subscript a b pos) (sE u ua ub):=by
 obtain⟨ta,qa,ra⟩:=ha;obtain⟨tb,qb,rb⟩:=hb;exact⟨_,Z.ix hr qa qb hs,pR h ra rb⟩
def mD(ue:UE):UT:=fun μ Q=>ue μ fun r μ'=>match r with
 | .tr (.bl b)=>Q b μ'
 | _=>False
theorem xM{K:PySem.W.Frag}{t:TE}(h:RE K t ue):RT K (uy t) (mD ue):=fun F ad B σ H μ Q Qt hK l q k =>
 h F ad B σ H μ _ _ hK l q fun v H' r μ' v1 f k1 q1=>by
  split at q1
  ·rename_i b;have rp:=v1.2;cases rp;exact⟨b,rfl,k b H' μ' v1.rl f.d k1 q1⟩
  ·exact q1.elim
theorem bS{o:CmpOp}{r:R2}{u:U2}(ho:cJ X (compareOp o) r)(h:jj X.K r u)(ha:YE X a ua)(hb:YE X b ub)(hm:behindInMarks o b=false:=by rfl):YT X (.Compare a [o] [b] pos) (mD (sE u ua ub)):=by
 obtain⟨ta,qa,ra⟩:=ha;obtain⟨tb,qb,rb⟩:=hb;exact⟨_,Z.bS ho qa qb hm,xM (pR h ra rb)⟩
def y6(ut:UT):UT:=fun μ Q=>ut μ fun b μ'=>Q (!b) μ'
theorem nJ(ha:YT X a uA):YT X (.UnaryOp .Not a pos) (y6 uA):=by
 obtain⟨ta,qa,ra⟩:=ha;exact⟨_,Z.nJ qa,fun F ad B σ H μ Q Qt hK l q k=>ra F ad B σ H μ _ _ hK l q fun b H' μ' l' f k1 q1=>k _ H' μ' l' f k1 q1⟩
theorem tw(h:YW X e uA):YT X e uA:=by
 obtain⟨t,q,r⟩:=h;exact⟨t,Z.tw q,r⟩
theorem pE(ha:YT X a uA):YW X (.BoolOp .And [a] pos) uA:=by obtain⟨t,q,r⟩:=ha;exact⟨t,Z.pE q,r⟩
theorem nL(ha:YT X a uA):YW X (.BoolOp .Or [a] pos) uA:=by obtain⟨t,q,r⟩:=ha;exact⟨t,Z.nL q,r⟩
def wc(u w:UT):UT:=fun μ Q=>u μ fun b μ'=>if b=true then w μ' Q else Q false μ'
def E3(u w:UT):UT:=fun μ Q=>u μ fun b μ'=>if b=true then Q true μ' else w μ' Q
theorem A6{K:PySem.W.Frag}{t u:TT}(ha:RT K t uA)(hb:RT K u uB):RT K (AH t u) (wc uA uB):=fun F ad B σ H μ Q Qt hK l q k=>ha F ad B σ H μ _ _ hK l q fun b H' μ' l' f k1 q1=>by
 cases b with
 | true=>rw[if_pos rfl] at q1 ⊢;exact hb F ad B σ H' μ' _ _ hK l' q1 fun b2 H2 μ2 l2 f2 k2 q2=>k b2 H2 μ2 l2 (f.trans f2) (k1.trans k2) q2
 | false=>rw[if_neg Bool.false_ne_true] at q1 ⊢;exact k _ H' μ' l' f k1 q1
theorem CC{K:PySem.W.Frag}{t u:TT}(ha:RT K t uA)(hb:RT K u uB):RT K (Gr t u) (E3 uA uB):=fun F ad B σ H μ Q Qt hK l q k=>ha F ad B σ H μ _ _ hK l q fun b H' μ' l' f k1 q1=>by
 cases b with
 | false=>rw[if_neg Bool.false_ne_true] at q1 ⊢;exact hb F ad B σ H' μ' _ _ hK l' q1 fun b2 H2 μ2 l2 f2 k2 q2=>k b2 H2 μ2 l2 (f.trans f2) (k1.trans k2) q2
 | true=>rw[if_pos rfl] at q1 ⊢;exact k _ H' μ' l' f k1 q1
theorem xo(ha:YT X a uA)(hb:YW X (.BoolOp .And (b::rest) pos) uB):YW X (.BoolOp .And (a::b::rest) pos) (wc uA uB):=by
 obtain⟨t,q,r⟩:=ha;obtain⟨t',q',r'⟩:=hb;exact⟨_,Z.xo q q',A6 r r'⟩
theorem yx(ha:YT X a uA)(hb:YW X (.BoolOp .Or (b::rest) pos) uB):YW X (.BoolOp .Or (a::b::rest) pos) (E3 uA uB):=by
 obtain⟨t,q,r⟩:=ha;obtain⟨t',q',r'⟩:=hb;exact⟨_,Z.yx q q',CC r r'⟩
def mQ(ue:UE):UT:=fun μ Q=>ue μ fun r μ'=>match r with
 | .tr (.bl b)=>Q b μ'
 | .tr (.int i)=>Q (i != 0) μ'
 | _=>False
theorem A1(K:PySem.W.Frag)(hK:X.K=K)(ha:YE X a ua)(he:Z.EJ a=true:=by rfl):YT X a (mQ ua):=by
 obtain⟨t,q,r⟩:=ha;refine⟨_,Z.A1 K hK q he,fun F ad B σ H μ Q Qt hK l q k=>r F ad B σ H μ _ _ hK l q fun v H' r1 μ' v1 f k1 q1=>?_⟩
 split at q1
 ·have rp:=v1.2;cases rp;exact⟨_,(Ap.Gh ..).symm ▸ rfl,k _ H' μ' v1.rl f.d k1 q1⟩
 ·have rp:=v1.2;cases rp;exact⟨_,(Ap.Fg ..).symm ▸ rfl,k _ H' μ' v1.rl f.d k1 q1⟩
 ·exact q1.elim
def C3(ue:UE):UE:=fun μ Q=>ue μ fun r μ'=>match r with
 | .tr (.int i)=>Q (.tr (.int (-i))) μ'
 | _=>False
def mK:UA:=fun μ Q=>Q [] μ
def eM(ue:UE)(us:UA):UA:=fun μ Q=>ue μ fun r μ1=>us μ1 fun rs μ2=>Q (r.d::rs) μ2
def uK(ts:List T):UA:=fun μ Q=>Q (ts.map R.tr) μ
theorem nil:YA X [] mK:=⟨_,Z.nil,fun F ad B σ H μ Q Qt hK l q k=>k [] H [] μ l .nil Fr.refl (Kp.refl μ) q⟩
theorem cons(ha:YE X e ue)(hr:YA X es us)(h:bY e=true:=by rfl):YA X (e::es) (eM ue us):=by
 obtain⟨t,q,r⟩:=ha;obtain⟨t',q',r'⟩:=hr;exact⟨_,Z.cons q q' h,fun F ad B σ H μ Q Qt hK l q k=>r F ad B σ H μ _ _ hK l q fun v H' r1 μ' v1 f k1 q1=>r' F ad B σ H' μ' _ _ hK v1.rl q1 fun vs H2 rs μ2 l2 ps f2 k2 q2 =>
  k (v::vs) H2 (r1.d::rs) μ2 l2 (.cons (v1.hv.fr f2 k2) ps) (f.d.trans f2) (k1.trans k2) q2⟩
def tu:V->Option T
 | .bf=>some .bf
 | .bl b=>some (.bl b)
 | .int i=>some (.int i)
 | .str x=>some (.str x)
 | _=>none
theorem vx{K:PySem.W.Frag}{H:Hp}{B:aK}{v:V}{t:T}(h:tu v=some t):Rep K H B v t:=by
 unfold tu at h
 split at h
 ·cases h;exact .bf
 ·cases h;exact .bl _
 ·cases h;exact .int _
 ·cases h;exact .str _
 ·cases h
theorem consts{vs:List V}{ts:List T}(h:jx es=some vs)(h2:vs.map tu=ts.map some):YA X es (uK ts):=by
 refine⟨_,Z.consts h,fun F ad B σ H μ Q Qt hK l q k=>k vs H _ μ l ?_ Fr.refl (Kp.refl μ) q⟩;clear h q k
 induction vs generalizing ts with
 | nil=>cases ts with
  | nil=>exact .nil
  | cons t ts=>cases h2
 | cons v vs ih=>cases ts with
  | nil=>cases h2
  | cons t ts =>
   rw[List.map_cons,List.map_cons] at h2
   injection h2 with e1 e2
   exact .cons (vx e1) (ih e2)
def trees:List R->Option (List T)
 | []=>some []
 | .tr t::rs=>(trees rs).map (t::·)
 | _=>none
theorem ka{F:Fx}{ad:Nat->Addr}{B:aK}{H:Hp}{μ:Mu}:∀ {vs:List V} {rs:List R} {ts:List T},Paired (Hv F ad B H μ) vs rs->trees rs=some ts->aj F.K H B vs ts
 | _,_,_,.nil,e=>by cases e;exact .nil
 | _,r::rs,ts,.cons h p,e=>by
  cases r with
  | tr t =>
   unfold trees at e
   cases q:trees rs with
   | none=>rw[q] at e;cases e
   | some us=>rw[q] at e;cases e;exact .cons h (ka p q)
  | br i=>cases e
  | fr c=>cases e
def vL(us:UA):UE:=fun μ Q=>us μ fun rs μ'=>match trees rs with
 | some ts=>ts.length<=sizeLine/\Q (.tr (.tup ts)) μ'
 | none=>False
def xf(us:UA):UE:=fun μ Q=>us μ fun rs μ'=>match trees rs with
 | some ts=>ts.length<=sizeLine/\Q (.fr (.lst ts)) μ'
 | none=>False
theorem tup{k:Nat}(h:YA X es us):YE X (.Tuple es k pos) (vL us):=by
 obtain⟨t,q,r⟩:=h;refine⟨_,Z.tup q,fun F ad B σ H μ Q Qt hK l q k=>r F ad B σ H μ _ _ hK l q fun vs H' rs μ' l1 ps f k1 q1=>?_⟩
 split at q1
 ·rename_i ts e;have rp:=ka ps e;exact⟨by rw[rp.length];exact q1.1,fun p hp=>k _ _ _ μ' (Vr.qV l1 rp hp) (f.trans (Fr.same (bC.new hp))) k1 q1.2⟩
 ·exact q1.elim
theorem lst(h:YA X es us):YE X (.List es pos) (xf us):=by
 obtain⟨t,q,r⟩:=h;refine⟨_,Z.lst q,fun F ad B σ H μ Q Qt hK l q k=>r F ad B σ H μ _ _ hK l q fun vs H' rs μ' l1 ps f k1 q1=>?_⟩
 split at q1
 ·rename_i ts e;have rp:=ka ps e;exact⟨by rw[rp.length];exact q1.1,fun p hp=>k _ _ _ μ' (Vr.fP l1 rp hp) (f.trans (Fr.more hp)) k1 q1.2⟩
 ·exact q1.elim
def zm(u:UC)(us:UA):UE:=fun μ Q=>us μ fun rs μ'=>u rs μ' Q
theorem ud{K:PySem.W.Frag}{r:List V->Hp->VK->Prop}{u:UC}{t:TA}(h:RC K r u)(ha:RA K t us):RE K (sy r t) (zm u us):=fun F ad B σ H μ Q Qt hK l q k =>
 ha F ad B σ H μ _ _ hK l q fun vs H' rs μ' l1 ps f k1 q1=>h F ad B σ H' μ' _ _ vs rs hK l1 ps q1 fun v H2 r2 μ2 v2 f2 k2 q2=>k v H2 r2 μ2 v2 (f.trans f2) (k1.trans k2) q2
theorem cb{id:String}{r:List V->Hp->VK->Prop}{u:UC}(hc:aV X (.builtin id) r)(h:RC X.K r u)(hg:Gl X x)(hm:X.mg x=none)(hv:bootBuiltins x=some (.builtin id))(ha:YA X (e::es) us)(h1:bY e=true:=by rfl)(h2:es.all bY=true:=by rfl)(hn:x≠"__name__":=by decide)(hdb:(x ==("__debug__":Str))=false:=by decide):
  YE X (.Call (.Name x p) (e::es) [] pos) (zm u us):=by
 obtain⟨t,q,rr⟩:=ha;exact⟨_,Z.cb hc hg hm hv q h1 h2 hn hdb,ud h rr⟩
theorem ct{T:String}{r:List V->Hp->VK->Prop}{u:UC}(hc:aV X (.type T) r)(h:RC X.K r u)(hg:Gl X x)(hm:X.mg x=none)(hv:bootBuiltins x=some (.type T))(ha:YA X (e::es) us)(h1:bY e=true:=by rfl)(h2:es.all bY=true:=by rfl)(hn:x≠"__name__":=by decide)(hdb:(x ==("__debug__":Str))=false:=by decide):
  YE X (.Call (.Name x p) (e::es) [] pos) (zm u us):=by
 obtain⟨t,q,rr⟩:=ha;exact⟨_,Z.ct hc hg hm hv q h1 h2 hn hdb,ud h rr⟩
def gO:UO:=fun μ Q=>Q none μ
def qz(ue:UE):UO:=fun μ Q=>ue μ fun r μ'=>match r with
 | .tr (.int i)=>Q (some i) μ'
 | _=>False
theorem AY:YO X none gO:=⟨_,Z.AY,fun F ad B σ H μ Q Qt hK l q k=>k none H μ l Fr.refl (Kp.refl μ) q⟩
theorem Bg(he:YE X e ue):YO X (some e) (qz ue):=by
 obtain⟨t,q,r⟩:=he;refine⟨_,Z.Bg q,fun F ad B σ H μ Q Qt hK l q k=>r F ad B σ H μ _ _ hK l q fun v H' r1 μ' v1 f k1 q1=>?_⟩
 split at q1
 ·have rp:=v1.2;cases rp;exact⟨_,rfl,k _ H' μ' v1.rl f.d k1 q1⟩
 ·exact q1.elim
end
end Y
namespace Y
def pY(f:T->T->Mu->(R->Mu->Prop)->Prop):U2:=fun r1 r2 μ Q=>match cont μ r1,cont μ r2 with
 | some t,some u=>f t u μ Q
 | _,_=>False
theorem eg{K:PySem.W.Frag}{r:R2}{f:T->T->Mu->(R->Mu->Prop)->Prop}
  (h:∀ (F:Fx) (ad:Nat->Addr) (B:aK) (σ:St) (H:Hp) (μ:Mu) (Q:VK) (Qt:R->Mu->Prop) (x y:V) (t u:T),F.K=K->Rl F ad B σ H μ->Vw F.K H B x t->Vw F.K H B y u->f t u μ Qt ->
   (∀ v H' r,Vr F ad B σ H' μ v r->Fr B H (Bv B v r) H'->Qt r μ->Q v H')->r x y H Q):jj K r (pY f):=by
 intro F ad B σ H μ Q Qt x y r1 r2 hK l h1 h2 q k;unfold pY at q
 split at q
 ·rename_i t u e1 e2;exact h F ad B σ H μ Q Qt x y t u hK l (h1.vw l e1) (h2.vw l e2) q fun v H' r v1 s q1=>k v H' r μ v1 s (Kp.refl μ) q1
 ·exact q.elim
def wk(C:Int->Int->Prop)(g:Int->Int->Int):T->T->Mu->(R->Mu->Prop)->Prop:=fun t u μ Q=>match t,u with
 | .int i,.int j=>C i j/\Q (.tr (.int (g i j))) μ
 | _,_=>False
theorem bK{K:PySem.W.Frag}{C:Int->Int->Prop}{g:Int->Int->Int}:jj K (rI C fun i j=>.int (g i j)) (pY (wk C g)):=eg fun F ad B σ H μ Q Qt x y t u hK l v1 v2 q k=>by
 unfold wk at q
 split at q
 ·cases v1;cases v2
  exact⟨_,_,rfl,rfl,q.1,k _ H _ (Vr.flat l (.int _)) Fr.refl q.2⟩
 ·exact q.elim
theorem bV{K:PySem.W.Frag}{g:Int->Int->Int}:jj K (y8 fun i j=>.int (g i j)) (pY (wk (fun _ _=>True) g)):=eg fun F ad B σ H μ Q Qt x y t u hK l v1 v2 q k=>by
 unfold wk at q
 split at q
 ·cases v1;cases v2
  exact⟨_,_,rfl,rfl,k _ H _ (Vr.flat l (.int _)) Fr.refl q.2⟩
 ·exact q.elim
def EG(g:Int->Int->Bool):T->T->Mu->(R->Mu->Prop)->Prop:=fun t u μ Q=>match t,u with
 | .int i,.int j=>Q (.tr (.bl (g i j))) μ
 | _,_=>False
theorem dO{K:PySem.W.Frag}{g:Int->Int->Bool}:jj K (y8 fun i j=>.bl (g i j)) (pY (EG g)):=eg fun F ad B σ H μ Q Qt x y t u hK l v1 v2 q k=>by
 unfold EG at q
 split at q
 ·cases v1;cases v2
  exact⟨_,_,rfl,rfl,k _ H _ (Vr.flat l (.bl _)) Fr.refl q⟩
 ·exact q.elim
def zv(K:PySem.W.Frag):R2:=fun x y H Q=>∃ a b xs ys,x=.ref a/\y=.ref b/\bj K H a xs/\bj K H b ys/\xs.length+ys.length<=sizeLine /\
 (xs=[]->Q (.ref b) H)/\(xs≠[]->ys=[]->Q (.ref a) H)/\(xs≠[]->ys≠[]->∀ p,H p=none->Q (.ref p) (upd H p (.tup (xs++ys))))
theorem wD{prog:Program}{w:World}{A:Around}{E:Value->Shared->Prop}{s:Shared}{t b:Addr}{ws:List Value}{Q:Value->Shared->Prop}(ht:IsTup s.heap t ([]:List Value).toArray)(hb:IsTup s.heap b ws.toArray)(h0:Q (.ref b) s):wpAny (model prog w) A (binaryOp .Add (.ref t) (.ref b)) Q E s:=by
 obtain⟨⟨cls,dd,data,sl⟩,ho,hc,n,hd⟩:=id ht;obtain⟨⟨cls2,dd2,data2,sl2⟩,ho2,hc2,n2,hd2⟩:=id hb;simp only at hc hd hc2 hd2;subst hc hd hc2 hd2;exact concat_meets ⟨_,ho,rfl⟩ ⟨_,ho2,rfl⟩ noFill_tuple_add seq_tuple_add PySem.F.slot_tuple_add PySem.F.entry_tuple_add (PySem.F.args_tuple_add_2 _ _)
   (tuple_addW0 t b _ ws.toArray n n2 dd dd2 sl sl2 (by simp)) ⟨ho,ho2,h0⟩
theorem yG{X:Cx}:cJ X (binaryOp .Add) (zv X.K):=by
 intro pins s σ H x y v u Q I rx ry h;obtain⟨a,b,xs,ys,rfl,rfl,ha,hb,hz,q0,q1,q2⟩:=h;by_cases hx:xs=[]
 ·subst hx
  cases rx;cases ry
  obtain⟨its,r1,p1,_⟩:=I.tuple ha;obtain⟨its2,r2,p2,_⟩:=I.tuple hb;cases r1;exact wD p1 p2 ⟨.ref b,H,I,rfl,q0 rfl⟩
 ·exact ph pins s σ H _ _ v u Q I rx ry ⟨a,b,xs,ys,rfl,rfl,ha,hb,hx,hz,q1 hx,q2 hx⟩
def vA(K:PySem.W.Frag):R2:=fun x y H Q=>(∃ i j,x=.int i/\y=.int j/\Q (.int (i+j)) H)\/(∃ i j,x=.str i/\y=.str j/\i.length+j.length<=sizeLine/\Q (.str (i++j)) H)\/Dw x y H Q\/zv K x y H Q
theorem aP{X:Cx}(K:PySem.W.Frag)(hK:X.K=K):cJ X (binaryOp .Add) (vA K):=by subst hK;exact tH.or (g_.or (sJ.or yG))
def bG{F:Fx}{ad:Nat->Addr}{B:aK}{H:Hp}{μ:Mu}{v:V}{t:T}(h:Hv F ad B H μ v (.tr t)):Rep F.K H B v t:=h
def fq:U2:=fun r1 r2 μ Q=>match cont μ r1,cont μ r2 with
 | some (.int i),some (.int j)=>Q (.tr (.int (i+j))) μ
 | some (.str i),some (.str j)=>i.length+j.length<=sizeLine/\Q (.tr (.str (i++j))) μ
 | some (.lst xs),some (.lst ys)=>xs.length+ys.length<=sizeLine/\Q (.fr (.lst (xs++ys))) μ
 | some (.tup xs),some (.tup ys)=>xs.length+ys.length<=sizeLine/\Q (.tr (.tup (xs++ys))) μ
 | _,_=>False
theorem Hv.uX{F:Fx}{ad:Nat->Addr}{B:aK}{σ:St}{H:Hp}{μ:Mu}{v:V}{r:R}{xs:List T}(l:Rl F ad B σ H μ)(h:Hv F ad B H μ v r)(e:cont μ r=some (.tup xs)):Rep F.K H B v (.tup xs):=by
 cases r with
 | tr t=>cases e;exact h
 | br i =>
  obtain⟨rfl,s,c,h1,h2⟩:=h;have e2:(μ[i]?).bind Sl.box=some (.tup xs):=e;rw[h1] at e2;have e':s.box=some (.tup xs):=e2;rcases ((l.slot i s h1).boxed e').2.2.1.is with ⟨ts,vs,z,_⟩ | ⟨ks,ts,vs,z,_⟩<;>cases z
 | fr c=>exact h.elim
theorem z_{K:PySem.W.Frag}:jj K (vA K) fq:=by
 intro F ad B σ H μ Q Qt x y r1 r2 hK l h1 h2 q k;subst hK;unfold fq at q
 split at q
 ·rename_i i j e1 e2;have a:=h1.vw l e1;have b:=h2.vw l e2
  cases a;cases b
  exact .inl ⟨_,_,rfl,rfl,k _ H _ μ (Vr.flat l (.int _)) Fr.refl (Kp.refl μ) q⟩
 ·rename_i i j e1 e2;have a:=h1.vw l e1;have b:=h2.vw l e2
  cases a;cases b
  exact .inr (.inl ⟨_,_,rfl,rfl,q.1,k _ H _ μ (Vr.flat l (.str _)) Fr.refl (Kp.refl μ) q.2⟩)
 ·rename_i xs ys e1 e2;have a:=h1.vw l e1;have b:=h2.vw l e2
  cases a with
  | lst ha ra=>cases b with
   | lst hb rb=>exact .inr (.inr (.inl ⟨_,_,_,_,rfl,rfl,ha,hb,by rw[ra.length,rb.length];exact q.1,fun p hp=>k _ _ _ μ (Vr.fP l (ra.append rb) hp) (Fr.more hp) (Kp.refl μ) q.2⟩))
 ·rename_i xs ys e1 e2;have a:=Hv.uX l h1 e1;have b:=Hv.uX l h2 e2;have a':=a;have b':=b
  cases a with
  | tup na ha ra=>cases b with
   | tup nb hb rb =>
    refine .inr (.inr (.inr ⟨_,_,_,_,rfl,rfl,bj.of ha,bj.of hb,by rw[ra.length,rb.length];exact q.1,fun z=>?_,fun z1 z2=>?_,fun z1 z2 p hp=>k _ _ _ μ (Vr.qV l (ra.append rb) hp) (Fr.same (bC.new hp)) (Kp.refl μ) q.2⟩))
    ·subst z;cases ra;exact k _ H _ μ (Vr.flat l b') Fr.refl (Kp.refl μ) q.2
    ·subst z2;cases rb;have q2:=q.2;rw[List.append_nil] at q2;exact k _ H _ μ (Vr.flat l a') Fr.refl (Kp.refl μ) q2
 ·exact q.elim
def qj:U2:=fun r1 r2 μ Q=>match cont μ r1,cont μ r2 with
 | some (.int i),some (.int j)=>kX i j/\Q (.tr (.int (i*j))) μ
 | some (.lst xs),some (.int k)=>-(2 ^ 63)<=k/\k < 2 ^ 63/\xs.length*k.toNat<=sizeLine/\Q (.fr (.lst (List.replicate k.toNat xs).flatten)) μ
 | _,_=>False
theorem sX{K:PySem.W.Frag}:jj K BN qj:=by
 intro F ad B σ H μ Q Qt x y r1 r2 hK l h1 h2 q k;unfold qj at q
 split at q
 ·rename_i i j e1 e2;have a:=h1.vw l e1;have b:=h2.vw l e2
  cases a;cases b
  exact⟨q.1,k _ H _ μ (Vr.flat l (.int _)) Fr.refl (Kp.refl μ) q.2⟩
 ·rename_i xs j e1 e2;have a:=h1.vw l e1;have b:=h2.vw l e2;cases b
  cases a with
  | lst ha ra=>exact⟨_,_,_,rfl,rfl,ha,q.1,q.2.1,by rw[ra.length];exact q.2.2.1,fun p hp=>k _ _ _ μ (Vr.fP l (ra.rep _) hp) (Fr.more hp) (Kp.refl μ) q.2.2.2⟩
 ·exact q.elim
def oi:U2:=fun r1 r2 μ Q=>match cont μ r1,cont μ r2 with
 | some (.lst xs),some (.int i)=>(match bX xs i with | some t=>Q (.tr t) μ | none=>False)
 | some (.tup xs),some (.int i)=>(match bX xs i with | some t=>Q (.tr t) μ | none=>False)
 | some (.d9 xs),some (.int i)=>(match bX xs i with | some t=>Q (.tr t) μ | none=>False)
 | some (.str z),some (.int i)=>z.length<=sizeLine/\(match bX z.cps.toList i with | some c=>Q (.tr (.str ⟨#[c]⟩)) μ | none=>False)
 | _,_=>False
theorem cA{X:Cx}(K:PySem.W.Frag)(hK:X.K=K):pC X (EI K):=by subst hK;exact tU
theorem Ep{K:PySem.W.Frag}:jj K (EI K) oi:=by
 intro F ad B σ H μ Q Qt x y r1 r2 hK l h1 h2 q k;subst hK;unfold oi at q
 split at q
 ·rename_i xs j e1 e2;have a:=h1.vw l e1;have b:=h2.vw l e2;cases b
  split at q
  ·rename_i t e3
   cases a with
   | lst ha ra =>
    obtain⟨v,e4,rv⟩:=ra.bX e3;exact .inl ⟨_,_,_,v,rfl,rfl,bA.of ha,e4,k _ H _ μ (Vr.flat l rv) Fr.refl (Kp.refl μ) q⟩
  ·exact q.elim
 ·rename_i xs j e1 e2;have a:=h1.vw l e1;have b:=h2.vw l e2;cases b
  split at q
  ·rename_i t e3
   cases a with
   | tup ha ra =>
    obtain⟨v,e4,rv⟩:=ra.bX e3;exact .inr (.inl ⟨_,_,_,v,rfl,rfl,bj.of ha,e4,k _ H _ μ (Vr.flat l rv) Fr.refl (Kp.refl μ) q⟩)
  ·exact q.elim
 ·rename_i xs j e1 e2;have a:=h1.vw l e1;have b:=h2.vw l e2;cases b
  split at q
  ·rename_i t e3
   cases a with
   | d9 ha ra =>
    obtain⟨v,e4,rv⟩:=ra.bX e3;exact .inr (.inl ⟨_,_,_,v,rfl,rfl,.inr ha,e4,k _ H _ μ (Vr.flat l rv) Fr.refl (Kp.refl μ) q⟩)
  ·exact q.elim
 ·rename_i xs j e1 e2;have a:=h1.vw l e1;have b:=h2.vw l e2;cases b;cases a;obtain⟨q0,q⟩:=q
  split at q
  ·rename_i t e3;exact .inr (.inr ⟨_,_,_,rfl,rfl,q0,e3,k _ H _ μ (Vr.flat l (.str _)) Fr.refl (Kp.refl μ) q⟩)
  ·exact q.elim
 ·exact q.elim
def AJ:T->T->Bool
 | .bf,.bf=>true
 | .bl a,.bl b=>a == b
 | .bl a,.int b=>(if a then 1 else 0) == b
 | .int a,.bl b=>a ==(if b then 1 else 0)
 | .int a,.int b=>a == b
 | .str a,.str b=>a == b
 | _,_=>false
def kL(xs ys:List T):Bool:=xs.length == ys.length && (List.range (min xs.length ys.length)).all fun j=>match xs[j]?,ys[j]? with
 | some x,some y=>AJ x y
 | _,_=>true
theorem vj{K:PySem.W.Frag}{H:Hp}{B:aK}{x y:V}{t u:T}(h1:Rep K H B x t)(h2:Rep K H B y u)(f1:aT t=true)(f2:aT u=true):cW x=true/\cW y=true/\qN x y=AJ t u:=by
 cases h1<;>first | (cases f1;done) | (cases h2<;>first | (cases f2;done) | exact⟨rfl,rfl,rfl⟩)
def xR(K:PySem.W.Frag)(neg:Bool):R2:=fun x y H Q=>∃ a b xs ys,x=.ref a/\y=.ref b/\((bA K H a xs/\bA K H b ys)\/(bj K H a xs/\bj K H b ys))/\xs.all cW=true/\ys.all cW=true /\
 ∀ c,c=(xs.length == ys.length && (List.range (min xs.length ys.length)).all fun j=>match xs[j]?,ys[j]? with | some x,some y=>qN x y | _,_=>true)->Q (.bl (if neg then !c else c)) H
theorem Ao{X:Cx}(hu:X.A.units < cLine):cJ X (compareOp .Eq) (xR X.K false):=by
 intro pins s σ H x y v u Q I rx ry h;obtain⟨a,b,xs,ys,rfl,rfl,hq,fx,fy,q⟩:=h
 cases rx;cases ry
 have item:∀ (its its2:List Value),Vals xs its->Vals ys its2->∀ j (h1:j < its.toArray.size) (h2:j < its2.toArray.size),SeqAt.EqAt X.A.in1 s its.toArray[j] its2.toArray[j] (match xs[j]?,ys[j]? with | some x,some y=>qN x y | _,_=>true):=fun its its2 r1 r2 j h1 h2=>by
  have l1:=r1.length;have l2:=r2.length;rw[List.size_toArray] at h1 h2;obtain⟨u1,e1,g1⟩:=r1.get (i:=j) (x:=xs[j]) (List.getElem?_eq_getElem (by lia))
  obtain⟨u2,e2,g2⟩:=r2.get (i:=j) (x:=ys[j]) (List.getElem?_eq_getElem (by lia))
  rw[List.getElem?_eq_getElem (show j < xs.length by lia),List.getElem?_eq_getElem (show j < ys.length by lia)]
  have z1:its.toArray[j]=u1:=by
   rw[List.getElem?_eq_getElem h1] at e1;simpa using e1
  have z2:its2.toArray[j]=u2:=by
   rw[List.getElem?_eq_getElem h2] at e2;simpa using e2
  rw[z1,z2];exact kN g1 g2 (List.all_eq_true.mp fx _ (List.getElem_mem _)) (List.all_eq_true.mp fy _ (List.getElem_mem _))
 rcases hq with ⟨ha,hb⟩ | ⟨ha,hb⟩
 ·obtain⟨its,r1,p1,_⟩:=I.list ha;obtain⟨its2,r2,p2,_⟩:=I.list hb;have l1:=r1.length;have l2:=r2.length;by_cases e:xs.length=ys.length
  ·refine SeqAt.eq_listAt p1.isList p2.isList (by rw[List.size_toArray,List.size_toArray];lia) hu (item its its2 r1 r2) ⟨.bl _,H,I,rfl,q _ ?_⟩
   rw[List.size_toArray,<- l1,<- e,Nat.min_self,beq_self_eq_true,Bool.true_and]
  ·refine SeqAt.eq_list_lengthsAt p1.isList p2.isList (by rw[List.size_toArray,List.size_toArray,bne_iff_ne];lia) hu ⟨.bl _,H,I,rfl,q _ ?_⟩
   rw[beq_eq_false_iff_ne.mpr e,Bool.false_and]
 ·obtain⟨its,r1,p1,_⟩:=I.tuple ha;obtain⟨its2,r2,p2,_⟩:=I.tuple hb;have l1:=r1.length;have l2:=r2.length;refine SeqAt.eq_tupleAt p1 p2 hu (item its its2 r1 r2) ⟨.bl _,H,I,rfl,q _ ?_⟩;rw[List.size_toArray,List.size_toArray,<- l1,<- l2,Bool.and_comm];rfl
theorem bO{K:PySem.W.Frag}{H:Hp}{B:aK}:∀ {xs:List V} {ts:List T},aj K H B xs ts->ts.all aT=true->xs.all cW=true
 | _,_,.nil,_=>rfl
 | _,_,.cons h r,f=>by
  rw[List.all_cons,Bool.and_eq_true] at f ⊢;refine⟨?_,bO r f.2⟩;have f1:=f.1
  cases h<;>first | rfl | cases f1
theorem kQ{K:PySem.W.Frag}{H:Hp}{B:aK}{xs ys:List V}{ts us:List T}(h1:aj K H B xs ts)(h2:aj K H B ys us)(f1:ts.all aT=true)(f2:us.all aT=true):
  kL ts us=(xs.length == ys.length && (List.range (min xs.length ys.length)).all fun j=>match xs[j]?,ys[j]? with | some x,some y=>qN x y | _,_=>true):=by
 unfold kL;have l1:=h1.length;have l2:=h2.length;rw[l1,l2];congr 1;refine List.all_congr rfl ?_ |>.symm;intro j
 cases a1:ts[j]? with
 | none =>
  have:xs[j]?=none:=List.getElem?_eq_none_iff.mpr (by have:=List.getElem?_eq_none_iff.mp a1;lia)
  rw[this]
 | some t =>
  obtain⟨v1,e1,r1⟩:=h1.get a1;rw[e1]
  cases a2:us[j]? with
  | none =>
   have:ys[j]?=none:=List.getElem?_eq_none_iff.mpr (by have:=List.getElem?_eq_none_iff.mp a2;lia)
   rw[this]
  | some u =>
   obtain⟨v2,e2,r2⟩:=h2.get a2;rw[e2];exact (vj r1 r2 (List.all_eq_true.mp f1 _ (List.mem_of_getElem? a1)) (List.all_eq_true.mp f2 _ (List.mem_of_getElem? a2))).2.2
def Aw(K:PySem.W.Frag):R2:=fun x y H Q=>GB x y H Q\/xR K false x y H Q
theorem cf{X:Cx}(K:PySem.W.Frag)(hK:X.K=K)(hu:X.A.units < cLine):cJ X (compareOp .Eq) (Aw K):=by subst hK;exact Ef.or (Ao hu)
def Cr(neg:Bool):T->T->Mu->(R->Mu->Prop)->Prop:=fun t u μ Q=>match t,u with
 | .int i,.int j=>Q (.tr (.bl (if neg then !decide (i=j) else decide (i=j)))) μ
 | .str i,.str j=>Q (.tr (.bl (if neg then !decide (i=j) else decide (i=j)))) μ
 | .bl i,.bl j=>Q (.tr (.bl (if neg then !decide (i=j) else decide (i=j)))) μ
 | .lst xs,.lst ys=>neg=false/\xs.all aT=true/\ys.all aT=true/\Q (.tr (.bl (kL xs ys))) μ
 | .tup xs,.tup ys=>neg=false/\xs.all aT=true/\ys.all aT=true/\Q (.tr (.bl (kL xs ys))) μ
 | _,_=>False
theorem dV{α:Type}[DecidableEq α]{f:α->V}(hf:∀ a b,f a=f b->a=b)(a b:α):decide (f a=f b)=decide (a=b):=by
 rw[decide_eq_decide];exact⟨hf a b,fun h=>by rw[h]⟩
theorem dA{K:PySem.W.Frag}:jj K (Aw K) (pY (Cr false)):=eg fun F ad B σ H μ Q Qt x y t u hK l v1 v2 q k=>by
 subst hK;unfold Cr at q
 split at q
 ·cases v1;cases v2
  refine .inl ⟨rfl,?_⟩;rw[dV (f:=V.int) (fun a b h=>by injection h)]
  exact k _ H _ (Vr.flat l (.bl _)) Fr.refl q
 ·cases v1;cases v2
  refine .inl ⟨rfl,?_⟩;rw[dV (f:=V.str) (fun a b h=>by injection h)]
  exact k _ H _ (Vr.flat l (.bl _)) Fr.refl q
 ·cases v1;cases v2
  refine .inl ⟨rfl,?_⟩;rw[dV (f:=V.bl) (fun a b h=>by injection h)]
  exact k _ H _ (Vr.flat l (.bl _)) Fr.refl q
 ·cases v1 with
  | lst ha ra=>cases v2 with
   | lst hb rb=>exact .inr ⟨_,_,_,_,rfl,rfl,.inl ⟨bA.of ha,bA.of hb⟩,bO ra q.2.1,bO rb q.2.2.1,fun c hc=>by
     rw[<- kQ ra rb q.2.1 q.2.2.1] at hc;subst hc;exact k _ H _ (Vr.flat l (.bl _)) Fr.refl q.2.2.2⟩
 ·cases v1 with
  | tup ha ra=>cases v2 with
   | tup hb rb=>exact .inr ⟨_,_,_,_,rfl,rfl,.inr ⟨bj.of ha,bj.of hb⟩,bO ra q.2.1,bO rb q.2.2.1,fun c hc=>by
     rw[<- kQ ra rb q.2.1 q.2.2.1] at hc;subst hc;exact k _ H _ (Vr.flat l (.bl _)) Fr.refl q.2.2.2⟩
 ·exact q.elim
def sA(f:T->Mu->(R->Mu->Prop)->Prop):UC:=fun rs μ Q=>match rs with
 | [r]=>(match cont μ r with | some t=>f t μ Q | none=>False)
 | _=>False
theorem ig{K:PySem.W.Frag}{r:List V->Hp->VK->Prop}{f:T->Mu->(R->Mu->Prop)->Prop}
  (h:∀ (F:Fx) (ad:Nat->Addr) (B:aK) (σ:St) (H:Hp) (μ:Mu) (Q:VK) (Qt:R->Mu->Prop) (x:V) (t:T),F.K=K->Rl F ad B σ H μ->Vw F.K H B x t->f t μ Qt ->
   (∀ v H' r,Vr F ad B σ H' μ v r->Fr B H (Bv B v r) H'->Qt r μ->Q v H')->r [x] H Q):RC K r (sA f):=by
 intro F ad B σ H μ Q Qt xs rs hK l p q k;unfold sA at q
 split at q
 ·split at q
  ·rename_i r0 _ t e
   cases p with
   | cons h1 p=>cases p;exact h F ad B σ H μ Q Qt _ t hK l (h1.vw l e) q fun v H' r v1 s q1=>k v H' r μ v1 s (Kp.refl μ) q1
  ·exact q.elim
 ·exact q.elim
def lU:T->Mu->(R->Mu->Prop)->Prop:=fun t μ Q=>match t with
 | .lst xs=>Q (.tr (.int xs.length)) μ
 | .tup xs=>Q (.tr (.int xs.length)) μ
 | .dc xs=>Q (.tr (.int xs.length)) μ
 | .d9 xs=>Q (.tr (.int xs.length)) μ
 | .str z=>z.length<=sizeLine/\Q (.tr (.int z.length)) μ
 | _=>False
def vO(K:PySem.W.Frag):List V->Hp->VK->Prop:=fun xs H Q=>(∃ p ys,xs=[.ref p]/\(bA K H p ys\/bj K H p ys)/\Q (.int ys.length) H)\/(∃ z,xs=[.str z]/\z.length<=sizeLine/\Q (.int z.length) H)
theorem aZ{X:Cx}(K:PySem.W.Frag)(hK:X.K=K):aV X (.builtin "len") (vO K):=by subst hK;exact kF.or kM
theorem A9{K:PySem.W.Frag}:RC K (vO K) (sA lU):=ig fun F ad B σ H μ Q Qt x t hK l v1 q k=>by
 subst hK;unfold lU at q
 split at q
 ·cases v1 with
  | lst ha ra=>exact .inl ⟨_,_,rfl,.inl (bA.of ha),by rw[ra.length];exact k _ H _ (Vr.flat l (.int _)) Fr.refl q⟩
 ·cases v1 with
  | tup ha ra=>exact .inl ⟨_,_,rfl,.inr (bj.of ha),by rw[ra.length];exact k _ H _ (Vr.flat l (.int _)) Fr.refl q⟩
 ·cases v1 with
  | dc ha ra=>exact .inl ⟨_,_,rfl,.inl ha,by rw[ra.length];exact k _ H _ (Vr.flat l (.int _)) Fr.refl q⟩
 ·cases v1 with
  | d9 ha ra=>exact .inl ⟨_,_,rfl,.inr (.inr ha),by rw[ra.length];exact k _ H _ (Vr.flat l (.int _)) Fr.refl q⟩
 ·cases v1;exact .inr ⟨_,rfl,q.1,k _ H _ (Vr.flat l (.int _)) Fr.refl q.2⟩
 ·exact q.elim
def du:UC:=fun rs μ Q=>match rs with
 | [r]=>(match cont μ r with
  | some (.lst xs)=>Q (.tr (.tup xs)) μ
  | some (.tup xs)=>Q (.tr (.tup xs)) μ
  | _=>False)
 | _=>False
def zr(K:PySem.W.Frag):List V->Hp->VK->Prop:=fun xs H Q=>∃ p ys,xs=[.ref p]/\((bA K H p ys/\∀ l,H l=none->Q (.ref l) (upd H l (.tup ys)))\/(bj K H p ys/\Q (.ref p) H))
theorem dw{X:Cx}(K:PySem.W.Frag)(hK:X.K=K):aV X (.type "tuple") (zr K):=by subst hK;exact cE
theorem eC{K:PySem.W.Frag}:RC K (zr K) du:=by
 intro F ad B σ H μ Q Qt xs rs hK l p q k;subst hK;unfold du at q
 split at q
 ·cases p with
  | cons h1 p =>
   cases p
   split at q
   ·rename_i e;have v1:=h1.vw l e
    cases v1 with
    | lst ha ra=>exact⟨_,_,rfl,.inl ⟨bA.of ha,fun p hp=>k _ _ _ μ (Vr.qV l ra hp) (Fr.same (bC.new hp)) (Kp.refl μ) q⟩⟩
   ·rename_i e;have rp:=Hv.uX l h1 e;have rp':=rp
    cases rp with
    | tup na ha ra=>exact⟨_,_,rfl,.inr ⟨bj.of ha,k _ H _ μ (Vr.flat l rp') Fr.refl (Kp.refl μ) q⟩⟩
   ·exact q.elim
 ·exact q.elim
def lL:T->Mu->(R->Mu->Prop)->Prop:=fun t μ Q=>match t with
 | .lst xs=>Q (.fr (.lst xs)) μ
 | .tup xs=>Q (.fr (.lst xs)) μ
 | .dc xs=>Q (.fr (.lst xs)) μ
 | .dh lo hi=>(hi - lo).toNat<=65536/\-(2 ^ 62)<=lo/\lo < 2 ^ 62/\-(2 ^ 62)<=hi/\hi < 2 ^ 62/\Q (.fr (.lst ((List.range (hi - lo).toNat).map fun k=>T.int (lo+(k:Nat))))) μ
 | _=>False
def tM(K:PySem.W.Frag):List V->Hp->VK->Prop:=fun xs H Q=>(∃ p ys,xs=[.ref p]/\(bA K H p ys\/bj K H p ys)/\∀ l,H l=none->Q (.ref l) (upd H l (.lst ys))) \/
 (∃ p lo hi,xs=[.ref p]/\H p=some (.dh lo hi)/\(hi - lo).toNat<=65536/\-(2 ^ 62)<=lo/\lo < 2 ^ 62/\-(2 ^ 62)<=hi/\hi < 2 ^ 62/\∀ l,H l=none->Q (.ref l) (upd H l (.lst ((List.range (hi - lo).toNat).map fun k=>V.int (lo+(k:Nat))))))
theorem eO{lo:Int}:∀ (n:Nat) (acc:List Value) (k:Nat),acc.length=n->(∀ j v,acc[j]?=some v->∃ t,v=Value.int (lo+((k+j:Nat):Int)) t)->Vals ((List.range' k n).map fun k=>V.int (lo+(k:Nat))) acc
 | 0,acc,k,h,_=>by cases acc with | nil=>exact .nil | cons a b=>cases h
 | n+1,[],k,h,_=>by cases h
 | n+1,a::acc,k,h,g=>by
  rw[List.range'_succ,List.map_cons];refine .cons ?_ (eO n acc (k+1) (by simpa using h) fun j v e=>?_)
  ·obtain⟨t,e⟩:=g 0 a rfl;exact⟨t,by simpa using e⟩
  ·obtain⟨t,e2⟩:=g (j+1) v (by simpa using e)
   exact⟨t,by rw[e2];congr 2;lia⟩
theorem nS{X:Cx}(hc:X.calm=true):aV X (.type "list") (fun xs H Q=>∃ p lo hi,xs=[.ref p]/\H p=some (.dh lo hi)/\(hi - lo).toNat<=65536/\-(2 ^ 62)<=lo/\lo < 2 ^ 62/\-(2 ^ 62)<=hi/\hi < 2 ^ 62/\∀ l,H l=none->Q (.ref l) (upd H l (.lst ((List.range (hi - lo).toNat).map fun k=>V.int (lo+(k:Nat)))))):=by
 intro pins s σ H xs us Q I r h;obtain⟨p,lo,hi,rfl,hp,hn,h1,h2,h3,h4,q⟩:=h;obtain⟨u,rfl,rx⟩:=vals1 r;cases rx;obtain⟨t,u,v,e⟩:=I.aJ p _ hp;have hn2:Builtin.Range.rangeSize lo hi 1=((hi - lo).toNat:Nat):=by rw[rangeSize_one];split<;>lia
 refine call_list_range (n:=(hi - lo).toNat) (I.ok.hd hc) e (small_one h1 h2 h3 h4) hn2 (by lia) fun h' tk acc c' hk hS hI=>?_
 have hv:Vals ((List.range (hi - lo).toNat).map fun k=>V.int (lo+(k:Nat))) acc.toList:=by
  rw[List.range_eq_range'];refine eO _ _ 0 (by simpa using hI.1) fun j v e=>?_
  obtain⟨t,e2⟩:=hI.2 j v (by simpa using e)
  exact⟨t,by rw[e2];simp⟩
 refine⟨.ref s.heap.objs.size,_,I.laid (t':=tk) hk (Nat.le_refl _) (show bp X.prog X.w _ h' _ (.lst _) from⟨?_,acc.toList,c',hv,by simpa using hS⟩),rfl,q _ (I.aJ.fresh (Nat.le_refl _))⟩
 rw[List.length_map,List.length_range];exact Nat.le_trans hn (by decide)
theorem mT{X:Cx}(K:PySem.W.Frag)(hK:X.K=K)(hc:X.calm=true):aV X (.type "list") (tM K):=by subst hK;exact kB.or (nS hc)
theorem iJ{K:PySem.W.Frag}{H:Hp}{B:aK}{lo:Int}:∀ l:List Nat,aj K H B (l.map fun k=>V.int (lo+(k:Nat))) (l.map fun k=>T.int (lo+(k:Nat)))
 | []=>.nil
 | k::l=>.cons (.int _) (iJ l)
theorem yD{K:PySem.W.Frag}:RC K (tM K) (sA lL):=ig fun F ad B σ H μ Q Qt x t hK l v1 q k=>by
 subst hK;unfold lL at q
 split at q
 ·cases v1 with
  | lst ha ra=>exact .inl ⟨_,_,rfl,.inl (bA.of ha),fun p hp=>k _ _ _ (Vr.fP l ra hp) (Fr.more hp) q⟩
 ·cases v1 with
  | tup ha ra=>exact .inl ⟨_,_,rfl,.inr (bj.of ha),fun p hp=>k _ _ _ (Vr.fP l ra hp) (Fr.more hp) q⟩
 ·cases v1 with
  | dc ha ra=>exact .inl ⟨_,_,rfl,.inl ha,fun p hp=>k _ _ _ (Vr.fP l ra hp) (Fr.more hp) q⟩
 ·cases v1 with
  | dh ha=>exact .inr ⟨_,_,_,rfl,ha,q.1,q.2.1,q.2.2.1,q.2.2.2.1,q.2.2.2.2.1,fun p hp=>k _ _ _ (Vr.fP l (iJ _) hp) (Fr.more hp) q.2.2.2.2.2⟩
 ·exact q.elim
def nR:UC:=fun rs μ Q=>match rs with
 | [.tr (.int j)]=>Q (.tr (.dh 0 j)) μ
 | [.tr (.int i),.tr (.int j)]=>Q (.tr (.dh i j)) μ
 | _=>False
def pN:List V->Hp->VK->Prop:=fun xs H Q=>(∃ j,xs=[.int j]/\∀ p,H p=none->Q (.ref p) (upd H p (.dh 0 j)))\/(∃ i j,xs=[.int i,.int j]/\∀ p,H p=none->Q (.ref p) (upd H p (.dh i j)))
theorem mP{X:Cx}:aV X (.type "range") pN:=by
 intro pins s σ H xs us Q I r h;rcases h with ⟨j,rfl,q⟩ | ⟨i,j,rfl,q⟩
 ·obtain⟨u,rfl,t,rfl⟩:=vals1 r;refine call_range_1 ?_;exact⟨.ref s.heap.objs.size,_,I.laid (o:=.dh 0 j) (fun b ob q=>Heap.get?_push_of_some _ q) (Nat.le_refl _) (show bp X.prog X.w _ _ _ (.dh 0 j) from⟨_,_,_,Heap.get?_push_size _ rfl⟩),rfl,q _ (I.aJ.fresh (Nat.le_refl _))⟩
 ·obtain⟨u,w',rfl,⟨t,rfl⟩,⟨t',rfl⟩⟩:=vals2 r;refine call_range_2 ?_;exact⟨.ref s.heap.objs.size,_,I.laid (o:=.dh i j) (fun b ob q=>Heap.get?_push_of_some _ q) (Nat.le_refl _) (show bp X.prog X.w _ _ _ (.dh i j) from⟨_,_,_,Heap.get?_push_size _ rfl⟩),rfl,q _ (I.aJ.fresh (Nat.le_refl _))⟩
theorem uR{K:PySem.W.Frag}:RC K pN nR:=by
 intro F ad B σ H μ Q Qt xs rs hK l p q k;have fin:∀ lo hi p,H p=none->Vr F ad B σ (upd H p (.dh lo hi)) μ (.ref p) (.tr (.dh lo hi)):=fun lo hi p hp=>⟨l.same (bC.new hp),.dh (l.jt hp) af⟩;unfold nR at q
 split at q
 ·cases p with
  | cons h1 p=>cases p;cases bG h1;exact .inl ⟨_,rfl,fun p hp=>k _ _ _ μ (fin _ _ p hp) (Fr.same (bC.new hp)) (Kp.refl μ) q⟩
 ·cases p with
  | cons h1 p=>cases p with
   | cons h2 p=>cases p;cases bG h1;cases bG h2;exact .inr ⟨_,_,rfl,fun p hp=>k _ _ _ μ (fin _ _ p hp) (Fr.same (bC.new hp)) (Kp.refl μ) q⟩
 ·exact q.elim
def AN(g:Int->Int->Int):UC:=fun rs μ Q=>match rs with
 | [.tr (.int i),.tr (.int j)]=>Q (.tr (.int (g i j))) μ
 | _=>False
theorem ze{K:PySem.W.Frag}{r:List V->Hp->VK->Prop}{g:Int->Int->Int}(h:∀ i j H Q,Q (.int (g i j)) H->r [.int i,.int j] H Q):RC K r (AN g):=by
 intro F ad B σ H μ Q Qt xs rs hK l p q k;unfold AN at q
 split at q
 ·cases p with
  | cons h1 p=>cases p with
   | cons h2 p=>cases p;cases bG h1;cases bG h2;exact h _ _ _ _ (k _ H _ μ (Vr.flat l (.int _)) Fr.refl (Kp.refl μ) q)
 ·exact q.elim
theorem AF{K:PySem.W.Frag}:RC K DL (AN fun i j=>if j > i then j else i):=ze fun i j H Q q=>q
theorem BO{K:PySem.W.Frag}:RC K CI (AN fun i j=>if j < i then j else i):=ze fun i j H Q q=>q
def qB:UC:=fun rs μ Q=>match rs with
 | [.tr (.int i)]=>Q (.tr (.int i)) μ
 | [.tr (.bl k)]=>Q (.tr (.int (if k=true then 1 else 0))) μ
 | _=>False
theorem t6{K:PySem.W.Frag}:RC K CG qB:=by
 intro F ad B σ H μ Q Qt xs rs hK l p q k;unfold qB at q
 split at q
 ·cases p with
  | cons h1 p=>cases p;cases bG h1;exact k _ H _ μ (Vr.flat l (.int _)) Fr.refl (Kp.refl μ) q
 ·cases p with
  | cons h1 p=>cases p;cases bG h1;exact k _ H _ μ (Vr.flat l (.int _)) Fr.refl (Kp.refl μ) q
 ·exact q.elim
end Y
namespace Y
def yv:T->String->Option Bool
 | .bf,c=>some (eK "NoneType" c)
 | .bl _,c=>some (eK "bool" c)
 | .int _,c=>some (eK "int" c)
 | .str _,c=>some (eK "str" c)
 | .lst _,c=>some (eK "list" c)
 | .tup _,c=>some (eK "tuple" c)
 | _,_=>none
def mj(ue:UE)(c:String):UE:=fun μ Q=>ue μ fun r μ'=>match cont μ' r with
 | some t=>(match yv t c with | some b=>Q (.tr (.bl b)) μ' | none=>False)
 | none=>False
theorem Vw.ty{K:PySem.W.Frag}{H:Hp}{B:aK}{v:V}{t:T}{c:String}{b:Bool}(h:Vw K H B v t)(e:yv t c=some b):∃ s,yR H v=some s/\eK s c=b:=by
 cases h with
 | bf=>cases e;exact⟨_,rfl,rfl⟩
 | bl=>cases e;exact⟨_,rfl,rfl⟩
 | int=>cases e;exact⟨_,rfl,rfl⟩
 | str=>cases e;exact⟨_,rfl,rfl⟩
 | tup h r=>cases e;exact⟨_,by unfold yR;simp only[h],rfl⟩
 | lst h r=>cases e;exact⟨_,by unfold yR;simp only[h],rfl⟩
 | dc=>cases e
 | dh=>cases e
 | ly=>cases e
 | exc=>cases e
 | yc=>cases e
 | d9=>cases e
theorem Vr.vw{F:Fx}{ad:Nat->Addr}{B:aK}{σ:St}{H:Hp}{μ:Mu}{v:V}{r:R}{t:T}(h:Vr F ad B σ H μ v r)(e:cont μ r=some t):Vw F.K H B v t:=by
 have e':cont μ r.d=some t:=by cases r<;>exact e
 exact h.hv.vw h.rl e'
section
variable {X:Cx} {a b c e o:Expr} {es rest:List Expr} {ua ub uc ue uo:UE} {uA uB:UT} {us:UA} {pos p p2 p3:Pos} {x:Str}
theorem Dr{C:String}(K:PySem.W.Frag)(hK:X.K=K)(hg:Gl X "isinstance")(hm:X.mg "isinstance"=none)(ha:YE X a ua)(hgc:Gl X x)(hmc:X.mg x=none)(hvc:bootBuiltins x=some (.type C))(hc:C∈["bool","int","str","list","tuple","dict"]:=by decide)(h1:bY a=true:=by rfl)
  (hnx:x≠"__name__":=by decide) (hdx:(x ==("__debug__":Str))=false:=by decide):YE X (.Call (.Name "isinstance" p) [a,.Name x p3] [] pos) (mj ua C):=by
 obtain⟨t,q,r⟩:=ha;refine⟨_,Z.cb (Z.CK K hK) hg hm PyProof.Rows.boot_isinstance (Z.cons q (Z.cons (Z.Hb hgc hmc hvc hnx hdx) Z.nil) h1) h1,fun F ad B σ H μ Q Qt hK l q k=>r F ad B σ H μ _ _ hK l q fun v H' r1 μ' v1 f k1 q1=>?_⟩;show L2.mj K [v,.ty C] H' Q;refine⟨hc,?_⟩
 split at q1
 ·rename_i t e
  split at q1
  ·rename_i b e2;obtain⟨s,e3,e4⟩:=Vw.ty (Vr.vw v1 e) e2;rw[e3];subst e4;exact k _ H' (.tr (.bl _)) μ' (Vr.flat v1.rl (.bl _)) f.d k1 q1
  ·exact q1.elim
 ·exact q1.elim
def cq{α:Type}(xs:List α)(lo hi:Option Int):List α:=(xs.drop (HT.b7 xs.length 0 lo)).take (HT.b7 xs.length xs.length hi - HT.b7 xs.length 0 lo)
theorem aj.cut{K:PySem.W.Frag}{H:Hp}{B:aK}{vs:List V}{ts:List T}(r:aj K H B vs ts)(lo hi:Option Int):aj K H B (kP vs lo hi) (cq ts lo hi):=by
 unfold kP cq;rw[r.length];exact (r.drop _).take _
def D3(K:PySem.W.Frag):V->Option Int->Option Int->Hp->VK->Prop:=fun x lo hi H Q=>∃ a xs,x=.ref a/\bj K H a xs/\HT.b7 xs.length 0 lo=0/\HT.b7 xs.length xs.length hi=xs.length/\Q (.ref a) H
theorem fu{prog:Program}{w:World}{A:Around}{E:Value->Shared->Prop}{s:Shared}{t sl:Addr}{items:Array Value}{vl vu:Value}{lo hi:Option Int}{Q:Value->Shared->Prop}(ht:IsTup s.heap t items)(hs:s.heap.IsSliceOf sl vl vu .none)(pl:IsPart vl lo)(pu:IsPart vu hi)
  (h1:HT.b7 items.size 0 lo=0) (h2:HT.b7 items.size items.size hi=items.size) (h:Q (.ref t) s):wpAny (model prog w) A (getItem (.ref t) (.ref sl)) Q E s:=by
 obtain⟨os,hos,hcs,hds⟩:=id hs;have hTs:s.TypeIs (.ref sl) "slice":=⟨os,hos,hcs⟩;unfold getItem
 try with_reducible refine wpAny_holding ?_
 first | refine wpAny_bind (wpAny_pure ?_) | skip
 refine wpAny_bind (wpAny_sequenceKey ht.typeIs (by decide) ?_)
 refine wpAny_bind (wpAny_callSpecial?_slot (name:=Str.ofString "__getitem__") ht.typeIs PyProof.Rows.slot_tuple_getitem
  (wpAny_call_entry PyProof.Rows.slot_tuple_getitem ht.typeIs entry_tuple_getitem ?_ (args_tuple_getitem _ _)))
 show wpAny _ _ (Builtin.Tuple.tupleItemsOf (.ref t) >>= _) _ _ s;refine wpAny_bind (tupleItemsOf_ ht ?_);refine wpAny_bind (wpAny_typeOf hTs ?_);rw[if_pos (by decide)]
 refine wpAny_bind (HT.dz hs pl pu ?_);show wpAny _ _ (if (((HT.b7 items.size 0 lo:Nat):Int) == 0 && (1:Int) == 1 && (HT.b7 items.size items.size hi - HT.b7 items.size 0 lo) == items.size)=true then _ else _) _ _ s
 rw[if_pos (by rw[h1,h2];simp)]
 unfold Builtin.Tuple.tupleIsExact;refine wpAny_bind ?_;refine wpAny_bind (wpAny_typeOf ht.typeIs (wpAny_pure ?_));rw[if_pos (by decide)]
 exact wpAny_bind (wpAny_rule (wpAny_pure ⟨_,rfl,wpAny_pure h⟩))
theorem BL{X:Cx}:su X (D3 X.K):=by
 intro pins s σ H x v vl vu lo hi sl Q I rx hs pl pu h;obtain⟨a,xs,rfl,hx,h1,h2,q⟩:=h;cases rx;obtain⟨its,r,ht,hz⟩:=I.tuple hx;have hlen:its.toArray.size=xs.length:=by rw[List.size_toArray];exact r.length.symm
 exact⟨"tuple",_,PyProof.Rows.slot_tuple_getitem.lookup,ht.typeIs,fu ht hs pl pu (by rw[hlen];exact h1) (by rw[hlen];exact h2) ⟨.ref a,H,I,rfl,q⟩⟩
def CH(K:PySem.W.Frag):V->Option Int->Option Int->Hp->VK->Prop:=fun x lo hi H Q=>D9 K x lo hi H Q\/xb K x lo hi H Q\/D3 K x lo hi H Q
theorem FE(K:PySem.W.Frag)(hK:X.K=K):su X (CH K):=by subst hK;exact xp.or (Ca.or BL)
def FI(ue:UE)(ul uh:UO):UE:=fun μ Q=>ue μ fun r μ1=>ul μ1 fun lo μ2=>uh μ2 fun hi μ3=>match cont μ3 r.d with
 | some (.lst xs)=>Q (.fr (.lst (cq xs lo hi))) μ3
 | some (.dc xs)=>Q (.fr (.lst (cq xs lo hi))) μ3
 | some (.tup xs)=>Q (.tr (.tup (cq xs lo hi))) μ3
 | _=>False
end
end Y
structure ow (F:Fx) (B:aK) (H:Hp) (D:Ends) (E:Ed):Prop where
 nx:∀ ad' B' σ' H' μ',Rl F ad' B' σ' H' μ'->Fr B H B' H'->E.nx μ'->D.nx σ' H'
 rt:∀ ad' B' σ' H' μ' v r,Vr F ad' B' σ' H' μ' v r->E.rt r μ'->D.rt v H'
 bk:∀ ad' B' σ' H' μ',Rl F ad' B' σ' H' μ'->Fr B H B' H'->E.bk μ'->D.bk σ' H'
 ct:∀ ad' B' σ' H' μ',Rl F ad' B' σ' H' μ'->Fr B H B' H'->E.ct μ'->D.ct σ' H'
theorem ow.step{F:Fx}{B B1:aK}{H H1:Hp}{D:Ends}{E:Ed}(h:ow F B H D E)(f:Fr B H B1 H1):ow F B1 H1 D E:=
 ⟨fun ad' B' σ' H' μ' l g q=>h.nx ad' B' σ' H' μ' l (f.trans g) q,h.rt,fun ad' B' σ' H' μ' l g q=>h.bk ad' B' σ' H' μ' l (f.trans g) q,fun ad' B' σ' H' μ' l g q=>h.ct ad' B' σ' H' μ' l (f.trans g) q⟩
def RS(K:PySem.W.Frag)(ts:TS)(us:US):Prop:=∀ (F:Fx) (D:Ends) (E:Ed) (ad:Nat->Addr) (B:aK) (σ:St) (H:Hp) (μ:Mu),F.K=K->Rl F ad B σ H μ->us E μ->ow F B H D E->ts D σ H
noncomputable abbrev UG:=R->Mu->(Mu->Prop)->Prop
noncomputable abbrev oW:=List T->Mu->(Mu->Prop)->Prop
def RG(K:PySem.W.Frag)(g:TG)(ug:UG):Prop:=∀ (F:Fx) (ad:Nat->Addr) (B:aK) (σ:St) (H:Hp) (μ:Mu) (v:V) (r:R) (B0:aK) (H0:Hp) (Q:St->Hp->Prop) (Qt:Mu->Prop),F.K=K->Vr F ad B σ H μ v r->Fr B0 H0 (Bv B v r) H->ug r μ Qt ->
 (∀ ad' B' σ' H' μ',Rl F ad' B' σ' H' μ'->Fr B0 H0 B' H'->Qt μ'->Q σ' H')->g v σ H Q
def GP(K:PySem.W.Frag)(g:nF)(ug:oW):Prop:=∀ (F:Fx) (ad:Nat->Addr) (B:aK) (σ:St) (H:Hp) (μ:Mu) (vs:List V) (ts:List T) (B0:aK) (H0:Hp) (Q:St->Hp->Prop) (Qt:Mu->Prop),F.K=K->Rl F ad B σ H μ->aj F.K H B vs ts->Fr B0 H0 B H->ug ts μ Qt ->
 (∀ ad' B' σ' H' μ',Rl F ad' B' σ' H' μ'->Fr B0 H0 B' H'->Qt μ'->Q σ' H')->g vs σ H Q
structure YG (X:Cx) (e:Expr) (u:UG):Prop where
 ex:∃ t,QG X e t/\RG X.K t u
structure CU (X:Cx) (es:List Expr) (u:oW):Prop where
 ex:∃ t,DK X es t/\GP X.K t u
structure YS (X:Cx) (st:Stmt) (u:US):Prop where
 ex:∃ t,QS X st t/\RS X.K t u
structure YB (X:Cx) (sts:List Stmt) (u:US):Prop where
 ex:∃ t,QB X sts t/\RS X.K t u
namespace Y
def sx(μ:Mu)(i:Nat):Prop:=match μ[i]? with
 | some (.pb _)=>False
 | _=>True
theorem kf{μ:Mu}{i:Nat}(h:sx μ i):∀ c,μ[i]?≠some (.pb c):=fun c e=>by unfold sx at h;rw[e] at h;exact h
def gN(i:Nat):UG:=fun r μ Q=>match r with
 | .tr t=>sx μ i/\Q (μ.set i (.tr t))
 | .fr c=>sx μ i/\Q (μ.set i (.bx c))
 | .br _=>False
section
variable {X:Cx} {a b c e o tg:Expr} {es rest:List Expr} {ua ub uc ue uo:UE} {uA uB:UT} {us:UA} {pos pos' p p2 p3:Pos} {x:Str} {st:Stmt} {sts xs ys:List Stmt} {u w:US}
theorem gZ{K:PySem.W.Frag}{i:Nat}:RG K (bH i) (gN i):=fun F ad B σ H μ v r B0 H0 Q Qt hK h f q k=>by
 cases r with
 | tr t=>exact k ad B _ H _ (h.1.Ce (kf q.1) h.2) f q.2
 | br i=>exact q.elim
 | fr c =>
  obtain⟨l,a,rfl,n,h0,l2,x⟩:=h;exact k _ _ _ H _ (l2.setB (kf q.1) h0 n l.own l.gB x) f q.2
theorem aR{i:Nat}(hN:X.N.Nodup)(hi:X.N[i]?=some x)(hx:Loc X.env.scope x)(hf:X.fn x=true\/X.env.scope.names.lookup x=some .local:=by first | exact .inl rfl | exact .inr rfl | assumption):YG X (.Name x pos) (gN i):=⟨_,Z.aR hN hi hx hf,gZ⟩
def EF:oW:=fun ts μ Q=>match ts with
 | []=>Q μ
 | _=>False
def EC(g:UG)(gs:oW):oW:=fun ts μ Q=>match ts with
 | []=>False
 | t::ts=>g (.tr t) μ fun μ'=>gs ts μ' Q
theorem dS:CU X [] EF:=⟨_,Z.dS,fun F ad B σ H μ vs ts B0 H0 Q Qt hK l r f q k=>by
 cases r with
 | nil=>exact⟨rfl,k ad B σ H μ l f q⟩
 | cons=>exact q.elim⟩
theorem b9{g:UG}{gs:oW}(h1:YG X e g)(h2:CU X es gs)(hs:(assignEach (e::es) X.env).map (·.2)=assign e X.env::(assignEach es X.env).map (·.2):=by rfl):CU X (e::es) (EC g gs):=by
 obtain⟨t,q,r⟩:=h1;obtain⟨t',q',r'⟩:=h2;refine⟨_,Z.b9 q q' hs,fun F ad B σ H μ vs ts B0 H0 Q Qt hK l rs f q k=>?_⟩
 cases rs with
 | nil=>exact q.elim
 | cons h hr=>exact⟨_,_,rfl,r F ad B σ H μ _ (.tr _) B H _ _ hK ⟨l,h⟩ Fr.refl q fun ad' B' σ' H' μ' l' f' q'=>r' F ad' B' σ' H' μ' _ _ B0 H0 _ _ hK l' (hr.fr f') (f.trans f') q' k⟩
def gT(n:Nat)(gs:oW):UG:=fun r μ Q=>match cont μ r.d with
 | some (.tup ts)=>ts.length=n/\gs ts μ Q
 | some (.lst ts)=>ts.length=n/\gs ts μ Q
 | _=>False
def Ey(K:PySem.W.Frag)(n:Nat)(t:nF):TG:=fun v σ H Q=>∃ a xs,v=.ref a/\(bj K H a xs\/bA K H a xs)/\xs.length=n/\t xs σ H Q
theorem j7{prog:Program}{w:World}{A:Around}{E:Value->Shared->Prop}{it t:Addr}{items:Array Value}(hne:t≠it):∀ (n i:Nat) (s:Shared) (Q:List Value->Shared->Prop),s.heap.IsListIter it t i->s.heap.IsList t items->i+n<=items.size ->
  (∀ h',h'.IsListIter it t (i+n)->Heap.SameBut it s.heap h'->Q ((items.toList.drop i).take n) { s with heap:=h' })->wpAny (model prog w) A (draw (.ref it) n) Q E s
 | 0,i,s,Q,hit,_,_,hQ=>by
  show wpAny _ _ (pure []) Q E s;exact wpAny_pure (by simpa using hQ s.heap hit (Heap.SameBut.refl ..))
 | n+1,i,s,Q,hit,ht,hle,hQ=>by
  have hlt:i < items.size:=by lia
  show wpAny _ _ (pyNext (.ref it) >>= _) Q E s;refine wpAny_bind (wpAny_pyNext_list_item hit ht (x:=items[i]) (by simp[hlt]) fun h₁ hit₁ hs₁=>?_)
  refine wpAny_bind (wpAny_holding (j7 hne n (i+1) _ _ hit₁ (ht.extBut hs₁.extBut hne) (by lia) fun h₂ hit₂ hs₂=>wpAny_pure ?_))
  have hd:items.toList.drop i=items[i]::items.toList.drop (i+1):=by simp[List.drop_eq_getElem_cons,hlt]
  have:=hQ h₂ (by rw[show i+(n+1)=i+1+n by lia];exact hit₂) (hs₁.trans hs₂)
  rw[hd,List.take_succ_cons] at this;exact this
theorem fV{prog:Program}{w:World}{A:Around}{E:Value->Shared->Prop}{s:Shared}{t:Addr}{items:Array Value}{Q:List Value->Shared->Prop}(hh:A.handled=none)(ht:s.heap.IsList t items)
  (hQ:∀ h',Heap.ExtBut s.heap.objs.size s.heap h'->Q items.toList { s with heap:=h' }):wpAny (model prog w) A (unpackItems (.ref t) items.size none) Q E s:=by
 have hlt:t≠s.heap.objs.size:=by obtain⟨o,ho,_⟩:=ht;exact Nat.ne_of_lt (Heap.lt_size ho)
 unfold unpackItems;refine wpAny_bind ?_
 ·unfold notIterableAtAll;refine wpAny_bind (wpAny_specialOf ht.typeIs F.slot_list_iter.lookup ?_);refine wpAny_pure ?_;simp only[Bool.false_eq_true,if_false];refine wpAny_bind (wpAny_holding (wpAny_pyIter_list ht ?_));refine wpAny_bind (wpAny_holding (j7 hlt items.size 0 _ _ ⟨_,Heap.get?_push_size _ rfl,rfl,rfl⟩ (ht.push _) (by lia) fun h₁ hit₁ hs₁=>?_))
  have hall:List.take items.size (List.drop 0 items.toList)=items.toList:=by
   rw[List.drop_zero];exact List.take_of_length_le (by simp)
  rw[hall];rw[if_neg (by simp)]
  have ht₁:h₁.IsList t items:=(ht.push _).extBut hs₁.extBut hlt;refine wpAny_bind (wpAny_holding (wpAny_pyNext_list_end hh hit₁ ht₁ (by simp) fun h₂ he₂=>?_))
  simp only[Option.isSome_none,Bool.false_eq_true,if_false];refine wpAny_pure (hQ h₂ fun b o hb e=>he₂ b o hb (hs₁.extBut b o hb (Heap.get?_push_of_some _ e)))
theorem wR{es:List Expr}{k:Nat}{t:nF}{n:Nat}(hc:X.calm=true)(h:Cy X es t)
  (hn:(assignEach es X.env).length=n:=by rfl) (hst:(assignEach es X.env).findIdx? (·.1)=none:=by rfl):PG X (.Tuple es k pos) (Ey X.K n t):=by
 intro pins s σ H v u Q I r hw;obtain⟨a,xs,e1,hq,hl,hw⟩:=hw;rcases hq with hq | hq
 ·exact u6 hc h hn hst pins s σ H v u Q I r ⟨a,xs,e1,hq,hl,hw⟩
 ·subst e1;cases r;obtain⟨its,rv,ht,hz⟩:=I.list hq;rw[assign_Tuple];refine wpAny_bind (wpAny_standAt ?_);unfold unpack;have hsz:(assignEach es X.env).length=its.toArray.size:=by rw[hn,<- hl,rv.length];simp
  rw[hsz,hst];refine wpAny_bind (wpAny_holding (fV (I.ok.hd hc) ht.isList fun h' hx=>?_));have I1:Inv X pins σ H { s with heap:=h' }:=I.kept (t':=s.toks) fun b o e=>hx b o (Nat.ne_of_lt (Heap.lt_size e)) e
  exact h pins _ σ H xs _ Q I1 (by simpa using rv) hw
theorem mS(K:PySem.W.Frag)(hK:X.K=K){k n:Nat}{gs:oW}(hc:X.calm=true)(h:CU X es gs)(hn:(assignEach es X.env).length=n:=by rfl)(hst:(assignEach es X.env).findIdx? (·.1)=none:=by rfl):YG X (.Tuple es k pos) (gT n gs):=by
 obtain⟨t,q,r⟩:=h;subst hK;refine⟨_,⟨wR hc q.h hn hst⟩,fun F ad B σ H μ v rr B0 H0 Q Qt hF h f q k=>?_⟩;have l:=h.rl;have f':Fr B0 H0 B H:=fun b o h n=>⟨(f b o h n).1,fun z=>(f b o h n).2 (by cases rr<;>first | exact z | (cases v<;>first | exact z | exact .inr z))⟩
 unfold gT at q
 split at q
 ·rename_i ts e;have w:=h.hv.vw l e;rw[hF] at w
  cases w with
  | tup ha ra=>exact⟨_,_,rfl,.inl (bj.of ha),by rw[ra.length];exact q.1,r F ad B σ H μ _ ts B0 H0 Q Qt hF l (by rw[hF];exact ra) f' q.2 k⟩
 ·rename_i ts e;have w:=h.hv.vw l e;rw[hF] at w
  cases w with
  | lst ha ra=>exact⟨_,_,rfl,.inr (bA.of ha),by rw[ra.length];exact q.1,r F ad B σ H μ _ ts B0 H0 Q Qt hF l (by rw[hF];exact ra) f' q.2 k⟩
 ·exact q.elim
theorem cB:YB X [] (fun E μ=>E.nx μ):=⟨_,Z.cB,fun F D E ad B σ H μ hK l q h=>h.nx ad B σ H μ l Fr.refl q⟩
theorem aG(h:YS X st u):YB X [st] u:=by obtain⟨t,q,r⟩:=h;exact⟨t,Z.aG q,r⟩
def AB(u w:US):US:=fun E μ=>u { E with nx:=w E } μ
theorem ah(h:YS X st u)(h2:YB X sts w):YB X (st::sts) (AB u w):=by
 obtain⟨t,q,r⟩:=h;obtain⟨t',q',r'⟩:=h2;exact⟨_,Z.ah q q',fun F D E ad B σ H μ hK l q h=>r F { D with nx:=t' D } { E with nx:=w E } ad B σ H μ hK l q
  ⟨fun ad1 B1 σ1 H1 μ1 l1 f1 q1=>r' F D E ad1 B1 σ1 H1 μ1 hK l1 q1 (h.step f1),h.rt,h.bk,h.ct⟩⟩
def kq(ue:UE)(g:UG):US:=fun E μ=>ue μ fun r μ'=>g r μ' E.nx
theorem jV{K:PySem.W.Frag}{te:TE}{tg:TG}{g:UG}(he:RE K te ue)(hg:RG K tg g):RS K (iG te tg) (kq ue g):=fun F D E ad B σ H μ hK l q h =>
 he F ad B σ H μ _ _ hK l q fun v H' r μ' v1 f k1 q1=>hg F ad B σ H' μ' v r B H _ _ hK v1 f q1 fun ad' B' σ' H2 μ2 l2 f2 q2=>h.nx ad' B' σ' H2 μ2 l2 f2 q2
theorem set{i:Nat}(hN:X.N.Nodup)(hi:X.N[i]?=some x)(hx:Loc X.env.scope x)(he:YE X e ue)(hs:Z.Ai e=true:=by rfl)(hf:X.fn x=true\/X.env.scope.names.lookup x=some .local:=by first | exact .inl rfl | exact .inr rfl | assumption):
  YS X (.Assign [.Name x pos'] e pos) (kq ue (gN i)):=by
 obtain⟨t,q,r⟩:=he;exact⟨_,Z.set hN hi hx q hs hf,jV r gZ⟩
theorem asg{g:UG}(he:YE X e ue)(hg:YG X tg g)(hs:swapsWithSole [tg] e pos.line X.env=pure false:=by rfl)(hw:swappedStores [tg] e X.env=pure none:=by rfl)
  (h1:(assignEach [tg] X.env).map (·.2)=[assign tg X.env]:=by rfl):YS X (.Assign [tg] e pos) (kq ue g):=by
 obtain⟨t,q,r⟩:=he;obtain⟨t',q',r'⟩:=hg;exact⟨_,Z.asg q q' hs hw h1,jV r r'⟩
def xZ(ue:UE):US:=fun E μ=>ue μ E.rt
theorem ret(he:YE X e ue):YS X (.Return (some e) pos) (xZ ue):=by
 obtain⟨t,q,r⟩:=he;exact⟨_,Z.ret q,fun F D E ad B σ H μ hK l q h=>r F ad B σ H μ _ _ hK l q fun v H' r1 μ' v1 f k1 q1=>h.rt ad B σ H' μ' v r1 v1 q1⟩
def jP(ue:UE):US:=fun E μ=>ue μ fun _ μ'=>E.nx μ'
theorem expr(he:YE X e ue)(hs:Z.Ai e=true:=by rfl):YS X (.Expr e pos) (jP ue):=by
 obtain⟨t,q,r⟩:=he;exact⟨_,Z.expr q hs,fun F D E ad B σ H μ hK l q h=>r F ad B σ H μ _ _ hK l q fun v H' r1 μ' v1 f k1 q1=>h.nx ad B σ H' μ' v1.rl f.d q1⟩
def wa(c:UT)(u w:US):US:=fun E μ=>c μ fun b μ'=>if b=true then u E μ' else w E μ'
theorem fM(hc:YT X c uA)(ha:YB X xs u)(hb:YB X ys w):YS X (.If c xs ys pos) (wa uA u w):=by
 obtain⟨tc,qc,rc⟩:=hc;obtain⟨t,q,r⟩:=ha;obtain⟨t',q',r'⟩:=hb;refine⟨_,Z.fM qc q q',fun F D E ad B σ H μ hK l q h=>rc F ad B σ H μ _ _ hK l q fun b H' μ' l1 f k1 q1=>?_⟩
 cases b with
 | true=>rw[if_pos rfl] at q1 ⊢;exact r F D E ad B σ H' μ' hK l1 q1 (h.step f)
 | false=>rw[if_neg Bool.false_ne_true] at q1 ⊢;exact r' F D E ad B σ H' μ' hK l1 q1 (h.step f)
end
end Y
structure hJ (K:PySem.W.Frag) (J:It) (Src:Hp->aK->Prop) (items:List T):Prop where
 step:∀ H B i t,(∀ b,B b->∃ o,H b=some o)->Src H B->items[i]?=some t->J.go i H/\∀ x H2,J.yF i H x H2->bC H H2/\Rep K H2 B x t
 stop:∀ H B,Src H B->J.stop items.length H
theorem hJ.imp{K:PySem.W.Frag}{J:It}{Src Src':Hp->aK->Prop}{items:List T}(h:hJ K J Src items)(f:∀ H B,Src' H B->Src H B):hJ K J Src' items:=⟨fun H B i t hb s e=>h.step H B i t hb (f H B s) e,fun H B s=>h.stop H B (f H B s)⟩
def En(F:Fx)(ad:Nat->Addr)(Src:Hp->aK->Prop):Option (Nat×List T)->Prop
 | none=>∀ B1 H1 B2 H2,Fr B1 H1 B2 H2->Src H1 B1->Src H2 B2
 | some (j,ls)=>(∀ B' σ' H' μ',Rl F ad B' σ' H' μ'->cont μ' (.br j)=some (.lst ls)->Src H' B')/\∀ B' H',Rep F.K H' B' (.ref (ad j)) (.lst ls)->Src H' B'
noncomputable abbrev UI:=Mu->(List T->Option (Nat×List T)->Mu->Prop)->Prop
def RI(K:PySem.W.Frag)(wi:TI)(ui:UI):Prop:=∀ (F:Fx) (ad:Nat->Addr) (B:aK) (σ:St) (H:Hp) (μ:Mu) (R:It->Hp->Prop) (Rt:List T->Option (Nat×List T)->Mu->Prop),F.K=K->Rl F ad B σ H μ->ui μ Rt ->
 (∀ J H' μ' items gd Src,Rl F ad B σ H' μ'->Fr B H B H'->Kp μ μ'->hJ K J Src items->Src H' B->En F ad Src gd->(∀ j ls,gd=some (j,ls)->cont μ' (.br j)=some (.lst ls))->Rt items gd μ'->R J H')->wi σ H R
structure YI (X:Cx) (tg it:Expr) (u:UI):Prop where
 ex:∃ t,QI X tg it t/\RI X.K t u
theorem vX{K:PySem.W.Frag}{a:Addr}{ts:List T}:hJ K (qf K a) (fun H B=>∃ vs,bA K H a vs/\aj K H B vs ts) ts:=
 ⟨fun H B i t hb ⟨vs,h,r⟩ e=>by
  obtain⟨v,e1,rv⟩:=r.get e;refine⟨⟨vs,v,h,e1⟩,fun x H2 y=>?_⟩;obtain⟨rfl,y⟩:=y;have:=y vs h;rw[e1] at this;cases this;exact⟨bC.refl _,rv⟩,fun H B ⟨vs,h,r⟩=>⟨vs,h,by rw[r.length];exact Nat.le_refl _⟩⟩
theorem Bl{K:PySem.W.Frag}{a:Addr}{ts:List T}:hJ K (sF K a) (fun H B=>∃ vs,bj K H a vs/\aj K H B vs ts) ts:=
 ⟨fun H B i t hb ⟨vs,h,r⟩ e=>by
  obtain⟨v,e1,rv⟩:=r.get e;refine⟨⟨vs,v,h,e1⟩,fun x H2 y=>?_⟩;obtain⟨rfl,y⟩:=y;have:=y vs h;rw[e1] at this;cases this;exact⟨bC.refl _,rv⟩,fun H B ⟨vs,h,r⟩=>⟨vs,h,by rw[r.length];exact Nat.le_refl _⟩⟩
def pairs(ts:List T):List T:=(List.range ts.length).map fun i=>.tup [.int (i:Nat),(ts[i]?).getD .bf]
theorem zT{K:PySem.W.Frag}{a:Addr}{ts:List T}:hJ K (xK K a) (fun H B=>∃ vs,bj K H a vs/\aj K H B vs ts) (pairs ts):=by
 refine⟨fun H B i t hb ⟨vs,h,r⟩ e=>?_,fun H B ⟨vs,h,r⟩=>⟨vs,h,by rw[r.length];simp[pairs]⟩⟩
 unfold pairs at e;rw[List.getElem?_map] at e;have hi:i < ts.length:=by
  rcases Nat.lt_or_ge i ts.length with z | z
  ·exact z
  ·rw[List.getElem?_eq_none_iff.mpr (by simpa using z)] at e;cases e
 rw[List.getElem?_range hi] at e;have e':T.tup [.int (i:Nat),(ts[i]?).getD .bf]=t:=Option.some.inj e;have et:ts[i]?=some ts[i]:=List.getElem?_eq_getElem hi;obtain⟨v,e1,rv⟩:=r.get et;refine⟨⟨v,vs,h,e1⟩,fun x H2 y=>?_⟩;obtain⟨p,y,hy,hp,rfl,rfl⟩:=y;have:=hy vs h;rw[e1] at this;cases this;subst e';rw[et];refine⟨bC.new hp,.tup (fun z=>?_) af (.cons (.int _) (.cons (rv.fr (Fr.same (bC.new hp))) .nil))⟩;obtain⟨o,q⟩:=hb p z;rw[hp] at q;cases q
theorem vW{K:PySem.W.Frag}{lo:Int}{n:Nat}:hJ K (Cs lo n) (fun _ _=>True) ((List.range n).map fun k=>T.int (lo+(k:Nat))):=
 ⟨fun H B i t hb _ e=>by
  rw[List.getElem?_map] at e;have hi:i < n:=by
   rcases Nat.lt_or_ge i n with z | z
   ·exact z
   ·rw[List.getElem?_eq_none_iff.mpr (by simpa using z)] at e;cases e
  rw[List.getElem?_range hi] at e;refine⟨hi,fun x H2 y=>?_⟩;obtain⟨rfl,rfl⟩:=y;cases e;exact⟨bC.refl _,.int _⟩,fun H B _=>by simp[Cs]⟩
def sS(K:PySem.W.Frag)(tl:TE):TI:=fun σ H R=>tl σ H fun x H1=>∃ a,x=V.ref a/\(((∃ xs,bA K H1 a xs)/\R (qf K a) H1)\/((∃ xs,bj K H1 a xs)/\R (sF K a) H1))
theorem tJ{X:Cx}{tg l:Expr}{tl:TE}(hl:PE X l tl):PI X tg l (sS X.K tl):=by
 intro pins s σ H R I h;refine bJ (hl pins s σ H _ I h) fun v s1 ⟨x,H1,I1,r1,q1⟩=>?_;obtain⟨a,rfl,q⟩:=q1;cases r1;rcases q with ⟨⟨xs,hq⟩,q⟩ | ⟨⟨xs,hq⟩,q⟩
 ·obtain⟨its,rv,p,hz⟩:=I1.list hq;refine wpAny_pyIter_list p.isList ?_;refine⟨s1.heap.objs.size,[s1.heap.objs.size],_,_,H1,rfl,I1.kept (t':=s1.toks) fun b o e=>Heap.get?_push_of_some _ e,jL a _,⟨_,Heap.get?_push_size _ rfl,rfl,rfl⟩,fun b hb=>?_,q⟩;have e:b=s1.heap.objs.size:=by simpa using hb
  subst e;exact I1.oo (Nat.le_refl _) (I1.aJ.fresh (Nat.le_refl _))
 ·obtain⟨its,rv,p,hz⟩:=I1.tuple hq;refine wpAny_pyIter_tuple (show s1.heap.IsTuple a its.toArray from p) ?_;refine⟨s1.heap.objs.size,[s1.heap.objs.size],_,_,H1,rfl,I1.kept (t':=s1.toks) fun b o e=>Heap.get?_push_of_some _ e,hZ a _,⟨_,Heap.get?_push_size _ rfl,rfl,rfl⟩,fun b hb=>?_,q⟩;have e:b=s1.heap.objs.size:=by simpa using hb
  subst e;exact I1.oo (Nat.le_refl _) (I1.aJ.fresh (Nat.le_refl _))
namespace Y
section
variable {X:Cx} {a b c e o tg it:Expr} {es rest:List Expr} {ua ub uc ue uo:UE} {uA uB:UT} {us:UA} {pos pos' p p2 p3:Pos} {x:Str} {st:Stmt} {sts xs ys:List Stmt} {u w:US}
def zl(ue:UE):UI:=fun μ Rt=>ue μ fun r μ'=>match r with
 | .br j=>(match cont μ' (.br j) with | some (.lst ts)=>Rt ts (some (j,ts)) μ' | _=>False)
 | .tr (.lst ts)=>Rt ts none μ'
 | .fr (.lst ts)=>Rt ts none μ'
 | .tr (.tup ts)=>Rt ts none μ'
 | .tr (.dc ts)=>Rt ts none μ'
 | .tr (.d9 ts)=>Rt ts none μ'
 | _=>False
theorem any(K:PySem.W.Frag)(hK:X.K=K)(he:YE X e ue):YI X tg e (zl ue):=by
 obtain⟨t,q,r⟩:=he;subst hK;refine⟨_,⟨tJ q.h⟩,fun F ad B σ H μ R Rt hF l q k=>r F ad B σ H μ _ _ hF l q fun v H' r1 μ' v1 f k1 q1=>?_⟩;have hv:=v1.hv;have l1:=v1.rl;have go:∀ (ts:List T) (a:Addr) (t:T),v=.ref a->Rep F.K H' B (.ref a) t->(t=.lst ts\/t=.dc ts)->Rt ts none μ'->∃ a,v=V.ref a/\(((∃ xs,bA X.K H' a xs)/\R (qf X.K a) H')\/((∃ xs,bj X.K H' a xs)/\R (sF X.K a) H')):=fun ts a t ev rp et q=>by
  have sr:∀ H B,Rep F.K H B (.ref a) t->∃ vs,bA X.K H a vs/\aj X.K H B vs ts:=fun H B h=>by
   rw[hF] at h;rcases et with rfl | rfl
   ·cases h with | lst n h r=>exact⟨_,bA.of h,r⟩
   ·cases h with | dc h r=>exact⟨_,h.sq,r⟩
  obtain⟨vs,h1,_⟩:=sr _ _ rp;exact⟨a,ev,.inl ⟨⟨vs,h1⟩,k _ H' μ' ts none (fun H B=>Rep F.K H B (.ref a) t) l1 f.d k1 (vX.imp sr) rp (fun B1 H1 B2 H2 f h=>h.fr f) (fun j ls z=>by cases z) q⟩⟩
 have goT:∀ (ts:List T) (a:Addr) (t:T),v=.ref a->Rep F.K H' B (.ref a) t->(t=.tup ts\/t=.d9 ts)->Rt ts none μ'->∃ a,v=V.ref a/\(((∃ xs,bA X.K H' a xs)/\R (qf X.K a) H')\/((∃ xs,bj X.K H' a xs)/\R (sF X.K a) H')):=fun ts a t ev rp et q=>by
  have sr:∀ H B,Rep F.K H B (.ref a) t->∃ vs,bj X.K H a vs/\aj X.K H B vs ts:=fun H B h=>by
   rw[hF] at h;rcases et with rfl | rfl
   ·cases h with | tup n h r=>exact⟨_,bj.of h,r⟩
   ·cases h with | d9 h r=>exact⟨_,.inr h,r⟩
  obtain⟨vs,h1,_⟩:=sr _ _ rp;exact⟨a,ev,.inr ⟨⟨vs,h1⟩,k _ H' μ' ts none (fun H B=>Rep F.K H B (.ref a) t) l1 f.d k1 (Bl.imp sr) rp (fun B1 H1 B2 H2 f h=>h.fr f) (fun j ls z=>by cases z) q⟩⟩
 split at q1
 ·rename_i j
  split at q1
  ·rename_i ts e;obtain⟨ev,s,c,e1,e2⟩:=hv;have src:∀ B' σ' H' μ',Rl F ad B' σ' H' μ'->cont μ' (.br j)=some (.lst ts)->∃ vs,bA X.K H' (ad j) vs/\aj X.K H' B' vs ts:=fun B' σ' H' μ' l e=>by
    have e3:(μ'[j]?).bind Sl.box=some (.lst ts):=e
    cases q:μ'[j]? with
    | none=>rw[q] at e3;cases e3
    | some s' =>
     rw[q] at e3;have bx:=((l.slot j s' q).boxed (c:=.lst ts) e3).2.2.1;rw[hF] at bx;obtain⟨vs,h1,h2⟩:=bx;exact⟨vs,bA.of h1,h2⟩
   obtain⟨vs,h1,h2⟩:=src _ _ _ _ l1 e;refine⟨ad j,ev,.inl ⟨⟨vs,h1⟩,k _ H' μ' ts (some (j,ts)) _ l1 f.d k1 vX ⟨vs,h1,h2⟩ ⟨src,fun B' H' h=>?_⟩ (fun j' ls z=>by cases z;exact e) q1⟩⟩
   rw[hF] at h
   cases h with | lst n h r=>exact⟨_,bA.of h,r⟩
  ·exact q1.elim
 ·have rp:Rep F.K H' B v _:=hv
  cases rp with | lst n h r=>exact go _ _ _ rfl (.lst n h r) (.inl rfl) q1
 ·have rp:Rep F.K H' B v _:=hv
  cases rp with | lst n h r=>exact go _ _ _ rfl (.lst n h r) (.inl rfl) q1
 ·have rp:Rep F.K H' B v _:=hv
  cases rp with | tup n h r=>exact goT _ _ _ rfl (.tup n h r) (.inl rfl) q1
 ·have rp:Rep F.K H' B v _:=hv
  cases rp with | dc h r=>exact go _ _ _ rfl (.dc h r) (.inr rfl) q1
 ·have rp:Rep F.K H' B v _:=hv
  cases rp with | d9 h r=>exact goT _ _ _ rfl (.d9 h r) (.inr rfl) q1
 ·exact q1.elim
def EN(us:UA):UI:=fun μ Rt=>us μ fun rs μ'=>match rs with
 | [.tr (.int j)]=>-(2 ^ 62)<=j/\j < 2 ^ 62/\Rt ((List.range j.toNat).map fun k=>T.int (0+(k:Nat))) none μ'
 | _=>False
def EO(us:UA):UI:=fun μ Rt=>us μ fun rs μ'=>match rs with
 | [.tr (.int i),.tr (.int j)]=>(-(2 ^ 62)<=i/\i < 2 ^ 62/\-(2 ^ 62)<=j/\j < 2 ^ 62)/\Rt ((List.range (j - i).toNat).map fun k=>T.int (i+(k:Nat))) none μ'
 | _=>False
theorem jo(hg:Gl X "range")(hm:X.mg "range"=none)(ha:YA X [a] us)(h:bY a=true:=by rfl):YI X tg (.Call (.Name "range" p) [a] [] pos) (EN us):=by
 obtain⟨t,q,r⟩:=ha;refine⟨_,Z.jo hg hm q h,fun F ad B σ H μ R Rt hF l q k=>r F ad B σ H μ _ _ hF l q fun vs H' rs μ' l1 ps f k1 q1=>?_⟩
 split at q1
 ·cases ps with
  | cons h1 ps=>cases ps;cases bG h1;exact⟨_,rfl,q1.1,q1.2.1,k _ H' μ' _ none _ l1 f k1 vW trivial (fun _ _ _ _ _ _=>trivial) (fun j ls z=>by cases z) q1.2.2⟩
 ·exact q1.elim
theorem BQ(hg:Gl X "range")(hm:X.mg "range"=none)(ha:YA X [a,b] us)(h:bY a=true:=by rfl)(h2:bY b=true:=by rfl):YI X tg (.Call (.Name "range" p) [a,b] [] pos) (EO us):=by
 obtain⟨t,q,r⟩:=ha;refine⟨_,Z.BQ hg hm q h h2,fun F ad B σ H μ R Rt hF l q k=>r F ad B σ H μ _ _ hF l q fun vs H' rs μ' l1 ps f k1 q1=>?_⟩
 split at q1
 ·cases ps with
  | cons h1 ps=>cases ps with
   | cons h2 ps=>cases ps;cases bG h1;cases bG h2;exact⟨_,_,rfl,q1.1,k _ H' μ' _ none _ l1 f k1 vW trivial (fun _ _ _ _ _ _=>trivial) (fun j ls z=>by cases z) q1.2⟩
 ·exact q1.elim
def EB(us:UA):UI:=fun μ Rt=>us μ fun rs μ'=>match rs with
 | [.tr (.tup ts)]=>Rt (pairs ts) none μ'
 | _=>False
theorem enum(K:PySem.W.Frag)(hK:X.K=K){k:Nat}{tp:Pos}(hg:Gl X "enumerate")(hm:X.mg "enumerate"=none)(ha:YA X [e] us)(h1:bY e=true:=by rfl):YI X (.Tuple es k tp) (.Call (.Name "enumerate" p) [e] [] pos) (EB us):=by
 obtain⟨t,q,r⟩:=ha;refine⟨_,Z.enum K hK hg hm q h1,fun F ad B σ H μ R Rt hF l q k=>r F ad B σ H μ _ _ hF l q fun vs H' rs μ' l1 ps f k1 q1=>?_⟩;have hF':F.K=K:=hF.trans hK
 split at q1
 ·rename_i ts
  cases ps with
  | cons h1 ps =>
   cases ps;have rp:=bG h1
   cases rp with
   | @tup a vs _ n h rr =>
    have sr:∀ H B,Rep F.K H B (.ref a) (.tup ts)->∃ vs,bj X.K H a vs/\aj X.K H B vs ts:=fun H B h=>by
     rw[hF] at h
     cases h with | tup n h r=>exact⟨_,bj.of h,r⟩
    refine⟨a,rfl,⟨vs,bj.of h⟩,?_⟩;have:=k (xK X.K a) H' μ' (pairs ts) none (fun H B=>Rep F.K H B (.ref a) (.tup ts)) l1 f k1 (zT.imp sr) (.tup n h rr) (fun B1 H1 B2 H2 f h=>h.fr f) (fun j ls z=>by cases z) q1
    rw[hK] at this;exact this
 ·exact q1.elim
def dM(g:UG)(body:US)(E:Ed):List T->Mu->Prop
 | [],μ=>E.nx μ
 | t::ts,μ=>g (.tr t) μ fun μ1=>body { E with nx:=dM g body E ts,ct:=dM g body E ts,bk:=E.nx } μ1
def uE(ui:UI)(g:UG)(body:US):US:=fun E μ=>ui μ fun items gd μ'=>match gd with
 | none=>dM g body E items μ'
 | some (j,_)=>(match μ'[j]? with
  | some (.bx c)=>dM g body E items (μ'.set j (.tr c))
  | _=>False)
theorem m5{K:PySem.W.Frag}{g:TG}{ug:UG}{tb:TS}{body:US}{F:Fx}{D:Ends}{E:Ed}{J:It}{Src:Hp->aK->Prop}{items:List T}{B0:aK}{H0:Hp}(hF:F.K=K)(hg:RG K g ug)(hb:RS K tb body)(it:hJ K J Src items)
  (pe:∀ B1 H1 B2 H2,Fr B1 H1 B2 H2->Src H1 B1->Src H2 B2) (hE:ow F B0 H0 D E) {ad:Nat->Addr} {B:aK} {σ:St} {H:Hp} {μ:Mu} (l:Rl F ad B σ H μ) (f:Fr B0 H0 B H) (sr:Src H B) (q:dM ug body E items μ) :
  ∃ W:Nat->Nat->St->Hp->Prop,(∃ m,W 0 m σ H)/\∀ i m σ H,W i m σ H ->
   (J.stop i H/\D.nx σ H)\/(J.go i H/\∃ N:St->Hp->Prop,(∀ σ' H',N σ' H'->∃ m',m' < m/\W (i+1) m' σ' H')/\∀ x H',J.yF i H x H'->g x σ H' fun σ2 H2=>tb { D with nx:=N,ct:=N,bk:=D.nx } σ2 H2):=by
 refine⟨fun i m σ H=>m=items.length - i/\i<=items.length/\∃ ad B μ,Rl F ad B σ H μ/\Fr B0 H0 B H/\Src H B/\dM ug body E (items.drop i) μ,⟨items.length,by simp,Nat.zero_le _,ad,B,μ,l,f,sr,q⟩,?_⟩
 rintro i m σ H ⟨rfl,hi,ad,B,μ,l,f,sr,q⟩;by_cases hlt:i < items.length
 ·have ei:items[i]?=some items[i]:=List.getElem?_eq_getElem hlt;rw[List.drop_eq_getElem_cons hlt] at q;obtain⟨go,yl⟩:=it.step H B i _ l.e9 sr ei;refine .inr ⟨go,fun σ' H'=>∃ ad' B' μ',Rl F ad' B' σ' H' μ'/\Fr B0 H0 B' H'/\Src H' B'/\dM ug body E (items.drop (i+1)) μ',fun σ' H' h=>⟨items.length - (i+1),by lia,rfl,hlt,h⟩,fun x H2 y=>?_⟩
  obtain⟨sm,rp⟩:=yl x H2 y;refine hg F ad B σ H2 μ x (.tr _) B H2 _ _ hF ⟨l.same sm,by show Rep F.K H2 B x _;rw[hF];exact rp⟩ Fr.refl q fun ad3 B3 σ3 H3 μ3 l3 f3 q3=>?_
  have f03:Fr B0 H0 B3 H3:=(f.trans (Fr.same sm)).trans f3;have s3:Src H3 B3:=pe _ _ _ _ ((Fr.same sm).trans f3) sr;exact hb F _ _ ad3 B3 σ3 H3 μ3 hF l3 q3 ⟨fun ad' B' σ' H' μ' l' f' q'=>⟨ad',B',μ',l',f03.trans f',pe _ _ _ _ f' s3,q'⟩,hE.rt,fun ad' B' σ' H' μ' l' f' q'=>hE.nx ad' B' σ' H' μ' l' (f03.trans f') q',fun ad' B' σ' H' μ' l' f' q'=>⟨ad',B',μ',l',f03.trans f',pe _ _ _ _ f' s3,q'⟩⟩
 ·have e:i=items.length:=by lia
  subst e;rw[List.drop_length] at q;exact .inl ⟨it.stop H B sr,hE.nx ad B σ H μ l f q⟩
theorem dQ{ui:UI}{g:UG}(hp:PassesOwn (model X.prog X.w) X.A X.env X.xe)(hc:X.calm=true)(hi:YI X tg it ui)(hg:YG X tg g)(hb:YB X xs u)(hs:∀ x,foldedSetIterable it X.env x=pure x:=by intro _;rfl):YS X (.For tg it xs [] pos) (uE ui g u):=by
 obtain⟨ti,qi,ri⟩:=hi;obtain⟨tg',qg,rg⟩:=hg;obtain⟨t,q,r⟩:=hb;refine⟨_,Z.dQ hp hc qi qg q hs,fun F D E ad B σ H μ hF l q h=>ri F ad B σ H μ _ _ hF l q fun J H' μ' items gd Src l1 f1 k1 it sr so gok q1=>?_⟩
 split at q1
 ·exact m5 hF rg r it so h l1 f1 sr q1
 ·rename_i j ls
  split at q1
  ·rename_i c ej;have bx:=l1.slot j _ ej;have hc:¬ F.Bc (ad j):=fun z=>by
    obtain⟨o,e⟩:=F.bh _ z;rw[bx.2.2.1] at e;cases e
   obtain⟨l2,rp⟩:=l1.freeze ej hc;have ec:c=.lst ls:=by
    have:=gok j ls rfl;have e2:(μ'[j]?).bind Sl.box=some (.lst ls):=this;rw[ej] at e2;exact Option.some.inj e2
   subst ec;exact m5 (Src:=fun H B=>Rep F.K H B (.ref (ad j)) (.lst ls)) hF rg r (it.imp fun H B h=>so.2 B H h) (fun B1 H1 B2 H2 f h=>h.fr f) h l2 (f1.trans (Fr.less fun b z=>z.1)) rp q1
  ·exact q1.elim
def Bi(c:UT)(body:US):US:=fun E μ=>∃ I:Nat->Mu->Prop,(∃ m,I m μ)/\∀ m μ,I m μ->c μ fun b μ'=>if b=true then body { E with nx:=fun μ2=>∃ m',m' < m/\I m' μ2,ct:=fun μ2=>∃ m',m' < m/\I m' μ2,bk:=E.nx } μ' else E.nx μ'
theorem iF(hp:PassesOwn (model X.prog X.w) X.A X.env X.xe)(hc:YT X c uA)(hb:YB X xs u):YS X (.While c xs [] pos) (Bi uA u):=by
 obtain⟨tc,qc,rc⟩:=hc;obtain⟨t,q,r⟩:=hb;refine⟨_,Z.iF hp qc q,fun F D E ad B σ H μ hF l q h=>?_⟩;obtain⟨I,⟨m0,i0⟩,turn⟩:=q;refine⟨fun m σ' H'=>∃ ad' B' μ',Rl F ad' B' σ' H' μ'/\Fr B H B' H'/\I m μ',⟨m0,ad,B,μ,l,Fr.refl,i0⟩,?_⟩;rintro m σ1 H1 ⟨ad1,B1,μ1,l1,f1,i1⟩;refine rc F ad1 B1 σ1 H1 μ1 _ _ hF l1 (turn m μ1 i1) fun b H2 μ2 l2 f2 k2 q2=>?_
 cases b with
 | true =>
  rw[if_pos rfl] at q2 ⊢;refine⟨fun σ' H'=>∃ m',m' < m/\∃ ad' B' μ',Rl F ad' B' σ' H' μ'/\Fr B H B' H'/\I m' μ',fun σ' H' h=>h,?_⟩;have hn:∀ ad' B' σ' H' μ',Rl F ad' B' σ' H' μ'->Fr B1 H2 B' H'->(∃ m',m' < m/\I m' μ')->∃ m',m' < m/\∃ ad' B' μ',Rl F ad' B' σ' H' μ'/\Fr B H B' H'/\I m' μ':=fun ad' B' σ' H' μ' l' f' ⟨m',hm,i'⟩=>⟨m',hm,ad',B',μ',l',(f1.trans f2).trans f',i'⟩;exact r F _ _ ad1 B1 σ1 H2 μ2 hF l2 q2 ⟨hn,h.rt,fun ad' B' σ' H' μ' l' f' q'=>h.nx ad' B' σ' H' μ' l' ((f1.trans f2).trans f') q',hn⟩
 | false =>
  rw[if_neg Bool.false_ne_true] at q2 ⊢;exact h.nx ad1 B1 σ1 H2 μ2 l2 (f1.trans f2) q2
end
end Y
def qW(K:PySem.W.Frag)(u:UE):TE:=fun σ H Q=>∃ (F:Fx) (ad:Nat->Addr) (B:aK) (μ:Mu) (Qt:R->Mu->Prop),F.K=K/\Rl F ad B σ H μ/\u μ Qt/\∀ v H' r μ',Vr F ad B σ H' μ' v r->Fr B H (Bv B v r) H'->Kp μ μ'->Qt r μ'->Q v H'
def rY(K:PySem.W.Frag)(u:UT):TT:=fun σ H Q=>∃ (F:Fx) (ad:Nat->Addr) (B:aK) (μ:Mu) (Qt:Bool->Mu->Prop),F.K=K/\Rl F ad B σ H μ/\u μ Qt/\∀ b H' μ',Rl F ad B σ H' μ'->Fr B H B H'->Kp μ μ'->Qt b μ'->Q b H'
theorem YE.yt{X:Cx}{e:Expr}{u:UE}(h:YE X e u):QE X e (qW X.K u):=⟨fun pins s σ H Q I hh=>by
 obtain⟨F,ad,B,μ,Qt,hF,l,q,k⟩:=hh;obtain⟨t,qe,r⟩:=h;exact qe.h pins s σ H Q I (r F ad B σ H μ Q Qt hF l q k)⟩
theorem BP.yt{X:Cx}{e:List Expr}{u:UT}(h:BP X e u):DZ X e (rY X.K u):=⟨fun pins s σ H Q I hh=>by
 obtain⟨F,ad,B,μ,Qt,hF,l,q,k⟩:=hh;obtain⟨t,qe,r⟩:=h;exact qe.h pins s σ H Q I (r F ad B σ H μ Q Qt hF l q k)⟩
theorem pO{K:PySem.W.Frag}{u:UE}:RE K (qW K u) u:=fun F ad B σ H μ Q Qt hF l q k=>⟨F,ad,B,μ,Qt,hF,l,q,k⟩
theorem qd{K:PySem.W.Frag}{u:UT}:RT K (rY K u) u:=fun F ad B σ H μ Q Qt hF l q k=>⟨F,ad,B,μ,Qt,hF,l,q,k⟩
def Fx.sh(F:Fx):Fx:={ F with P:=fun i=>match i with | 0=>none | i+1=>F.P i }
def CJ(ad:Nat->Addr):Nat->Addr:=fun i=>match i with | 0=>0 | i+1=>ad i
theorem Rl.push{F:Fx}{ad:Nat->Addr}{B:aK}{σ:St}{H:Hp}{μ:Mu}{x:V}{t:T}(l:Rl F ad B σ H μ)(h:Rep F.K H B x t):Rl F.sh (CJ ad) B (some x::σ) H (.tr t::μ):=by
 refine⟨congrArg (·+1) l.len,fun i s e=>?_,fun i j s u c d e1 e2 b1 b2 q=>?_,fun i a p=>?_,l.bc,l.e9,fun b o e n=>l.old b o e fun i z=>n (i+1) z,fun a ws ga=>?_⟩
 ·cases i with
  | zero =>
   have e':Sl.tr t=s:=by simpa using e
   subst e';exact⟨x,rfl,h⟩
  | succ i=>exact l.slot i s (by simpa using e)
 ·cases i with
  | zero =>
   have e':Sl.tr t=s:=by simpa using e1
   subst e';cases b1
  | succ i=>cases j with
   | zero =>
    have e':Sl.tr t=u:=by simpa using e2
    subst e';cases b2
   | succ j=>exact congrArg (·+1) (l.inj i j s u c d (by simpa using e1) (by simpa using e2) b1 b2 q)
 ·cases i with
  | zero=>cases p
  | succ i=>obtain⟨⟨c,e⟩,z⟩:=l.par i a p;exact⟨⟨c,by simpa using e⟩,z⟩
 ·obtain⟨g1,g2,g3⟩:=l.gh a ws ga;refine⟨g1,g2,fun i s c e b=>?_⟩
  cases i with
  | zero =>
   have e':Sl.tr t=s:=by simpa using e
   subst e';cases b
  | succ i=>exact g3 i s c (by simpa using e) b
theorem Rl.Bm{F:Fx}{ad:Nat->Addr}{B:aK}{σ:St}{H:Hp}{μ:Mu}{y:Option V}(l:Rl F.sh (CJ ad) B (y::σ) H μ):Rl F ad B σ H μ.tail:=by
 have get:∀ i,μ.tail[i]?=μ[i+1]?:=fun i=>by cases μ<;>simp
 refine⟨?_,fun i s e=>?_,fun i j s u c d e1 e2 b1 b2 q=>?_,fun i a p=>?_,l.bc,l.e9,fun b o e n=>l.old b o e fun i z=>?_,fun a ws ga=>let ⟨g1,g2,g3⟩:=l.gh a ws ga;⟨g1,g2,fun i s c e b=>g3 (i+1) s c (by rw[<- get];exact e) b⟩⟩
 ·have:=l.len;rw[List.length_tail,this];rfl
 ·rw[get] at e;exact l.slot (i+1) s e
 ·rw[get] at e1 e2;exact Nat.succ.inj (l.inj (i+1) (j+1) s u c d e1 e2 b1 b2 q)
 ·obtain⟨⟨c,e⟩,z⟩:=l.par (i+1) a p;exact⟨⟨c,by rw[get];exact e⟩,z⟩
 ·cases i with
  | zero=>cases z
  | succ i=>exact n i z
theorem Kp.tail{μ μ':Mu}{s:Sl}(k:Kp (s::μ) μ'):Kp μ μ'.tail:=fun i=>by
 have:=k (i+1);rw[List.getElem?_cons_succ] at this;rw[this]
 cases μ'<;>simp
def Fx.g(F:Fx)(D:Addr)(ys:List V):Fx:={ F with G:=fun b=>if b=D then some ys else F.G b }
section
variable {F:Fx} {ad:Nat->Addr} {B:aK} {σ:St} {H:Hp} {μ:Mu} {D:Addr} {ys zs:List V}
theorem Rl.Gv(l:Rl F ad B σ H μ)(h:H D=some (.lst ys))(hb:B D)(n:∀ (i:Nat) (s:Sl) (c:T),μ[i]?=some s->s.box=some c->ad i≠D):Rl (F.g D ys) ad B σ H μ:=by
 refine⟨l.len,l.slot,l.inj,l.par,l.bc,l.e9,l.old,fun a vs e=>?_⟩;have e':(if a=D then some ys else F.G a)=some vs:=e
 by_cases z:a=D
 ·rw[if_pos z] at e';cases e';subst z;exact⟨h,hb,n⟩
 ·rw[if_neg z] at e';exact l.gh a vs e'
theorem Rl.Fq(l:Rl (F.g D ys) ad B σ H μ):H D=some (.lst ys)/\B D/\∀ (i:Nat) (s:Sl) (c:T),μ[i]?=some s->s.box=some c->ad i≠D:=l.gh D ys (show (if D=D then some ys else F.G D)=some ys from if_pos rfl)
theorem Rl.yZ(l:Rl (F.g D ys) ad B σ H μ)(hg:F.G D=none):Rl F ad B σ H μ:=by
 refine⟨l.len,l.slot,l.inj,l.par,l.bc,l.e9,l.old,fun a vs e=>l.gh a vs ?_⟩;show (if a=D then some ys else F.G a)=some vs
 rw[if_neg (by rintro rfl;rw[hg] at e;cases e)]
 exact e
theorem Rl.setG(l:Rl (F.g D ys) ad B σ H μ)(h0:F.H0 D=none):Rl (F.g D zs) ad B σ (upd H D (.lst zs)) μ:=by
 obtain⟨g1,g2,g3⟩:=l.Fq;have f:Fr B H B (upd H D (.lst zs)):=Fr.set g2;refine⟨l.len,fun i s e=>?_,l.inj,l.par,l.bc,fun b z=>?_,fun b o e n=>?_,fun a vs e=>?_⟩
 ·have k:=l.slot i s e;unfold fX at k ⊢
  split at k
  ·trivial
  ·obtain⟨v,e1,r1⟩:=k;exact⟨v,e1,r1.fr f⟩
  ·obtain⟨e1,b,z0,p,x⟩:=k;exact⟨e1,b,z0,p,x.of (ae (g3 i _ _ e rfl)) f⟩
  ·obtain⟨e1,b,p,x⟩:=k;exact⟨e1,b,p,x.of (ae (g3 i _ _ e rfl)) f⟩
 ·by_cases z':b=D
  ·subst z';exact⟨_,af⟩
  ·rw[ae z'];exact l.e9 b z
 ·rw[ae (by rintro rfl;have e':F.H0 _=some o:=e;rw[h0] at e';cases e')]
  exact l.old b o e n
 ·have e':(if a=D then some zs else F.G a)=some vs:=e
  by_cases z:a=D
  ·rw[if_pos z] at e';cases e';subst z;exact⟨af,g2,g3⟩
  ·rw[if_neg z] at e';obtain⟨a1,a2,a3⟩:=l.gh a vs (show (if a=D then some ys else F.G a)=some vs by rw[if_neg z];exact e')
   exact⟨by rw[ae z];exact a1,a2,a3⟩
end
namespace Y
def CO:Option (Nat×List T)->Mu->Prop
 | none,_=>True
 | some (j,ls),μ=>cont μ (.br j)=some (.lst ls)
def mW(gd:Option (Nat×List T))(own:T->Mu->Option Mu)(dr:Mu->Mu)(ut:UT)(ue:UE)(Q:R->Mu->Prop):List T->List T->Mu->Prop
 | [],acc,μ=>CO gd μ/\Q (.fr (.lst acc)) μ
 | t::r,acc,μ=>CO gd μ/\acc.length < sizeLine/\(match own t μ with
  | none=>False
  | some μ1=>ut μ1 fun b μ2=>if b=true then ue μ2 fun rr μ3=>(match rr.d with
    | .tr t'=>mW gd own dr ut ue Q r (acc++[t']) (dr μ3)
    | _=>False) else mW gd own dr ut ue Q r acc (dr μ2))
def yA(t:T)(μ:Mu):Option Mu:=some (.tr t::μ)
def sf(t:T)(μ:Mu):Option Mu:=match t with
 | .tup [a,b]=>some (.tr a::.tr b::μ)
 | _=>none
def E8(μ:Mu):Mu:=μ.tail
def EA(μ:Mu):Mu:=μ.tail.tail
def gA(own:T->Mu->Option Mu)(dr:Mu->Mu)(ui:UI)(ut:UT)(ue:UE):UE:=fun μ Q=>ui μ fun items gd μ'=>mW gd own dr ut ue Q items [] μ'
structure sT (K:PySem.W.Frag) (k:Nat) (g:TG) (own:T->Mu->Option Mu) (dr:Mu->Mu) (shF:Fx->Fx) (shA:(Nat->Addr)->Nat->Addr):Prop where
 fK:∀ F,(shF F).K=F.K
 step:∀ (F:Fx) (ad:Nat->Addr) (B:aK) (σ:St) (H:Hp) (μ μ1:Mu) (x:V) (t:T) (σ':St) (Q:St->Hp->Prop),F.K=K->Rl F ad B σ H μ->Rep F.K H B x t->own t μ=some μ1->σ'.length=k->(∀ σ1,σ1.length=k->Rl (shF F) (shA ad) B (σ1++σ) H μ1->Q (σ1++σ) H)->g x (σ'++σ) H Q
 back:∀ (F:Fx) (ad:Nat->Addr) (B:aK) (σ σ1:St) (H:Hp) (μ:Mu),σ1.length=k->Rl (shF F) (shA ad) B (σ1++σ) H μ->Rl F ad B σ H (dr μ)
 kp:∀ (μ μ1 μ2:Mu) (t:T),own t μ=some μ1->Kp μ1 μ2->Kp μ (dr μ2)
theorem fQ{α:Type _}{l:List α}(h:l.length=1):∃ y,l=[y]:=by
 rcases l with _ | ⟨a,_ | ⟨b,t⟩⟩
 ·cases h
 ·exact⟨a,rfl⟩
 ·cases h
theorem iQ{α:Type _}{l:List α}(h:l.length=2):∃ y z,l=[y,z]:=by
 rcases l with _ | ⟨a,t⟩
 ·cases h
 ·obtain⟨b,rfl⟩:=fQ (Nat.succ.inj h);exact⟨a,b,rfl⟩
theorem DR{α:Type _}{l:List α}(h:l.length=3):∃ x y z,l=[x,y,z]:=by
 rcases l with _ | ⟨a,t⟩
 ·cases h
 ·obtain⟨b,c,rfl⟩:=iQ (Nat.succ.inj h);exact⟨a,b,c,rfl⟩
theorem p9{K:PySem.W.Frag}:sT K 1 (bH 0) yA E8 Fx.sh CJ where
 fK:=fun F=>rfl
 step:=fun F ad B σ H μ μ1 x t σ' Q hF l r e hk h=>by
  cases e;obtain⟨y,rfl⟩:∃ y,σ'=[y]:=by
   exact fQ hk
  exact h [some x] rfl (l.push r)
 back:=fun F ad B σ σ1 H μ hk l=>by
  obtain⟨y,rfl⟩:∃ y,σ1=[y]:=by
   exact fQ hk
  exact l.Bm
 kp:=fun μ μ1 μ2 t e k=>by cases e;exact k.tail
theorem pZ{K:PySem.W.Frag}:sT K 2 (lQ K 2 (dN (bH 0) (dN (bH 1) lJ))) sf EA (fun F=>F.sh.sh) (fun ad=>CJ (CJ ad)) where
 fK:=fun F=>rfl
 step:=fun F ad B σ H μ μ1 x t σ' Q hF l r e hk h=>by
  unfold sf at e
  split at e
  ·rename_i a b;cases e;obtain⟨y,z,rfl⟩:∃ y z,σ'=[y,z]:=by
    exact iQ hk
   cases r with
   | tup n hh rr =>
    cases rr with
    | cons r1 rr=>cases rr with
     | cons r2 rr =>
      cases rr;exact⟨_,_,rfl,bj.of hh,rfl,_,_,rfl,_,_,rfl,rfl,h [some _,some _] rfl ((l.push r2).push (F:=F.sh) r1)⟩
  ·cases e
 back:=fun F ad B σ σ1 H μ hk l=>by
  obtain⟨y,z,rfl⟩:∃ y z,σ1=[y,z]:=by
   exact iQ hk
  exact (Rl.Bm (F:=F.sh) l).Bm
 kp:=fun μ μ1 μ2 t e k=>by
  unfold sf at e
  split at e
  ·cases e;exact k.tail.tail
  ·cases e
theorem gW{K:PySem.W.Frag}{k:Nat}{g:TG}{own:T->Mu->Option Mu}{dr:Mu->Mu}{shF:Fx->Fx}{shA:(Nat->Addr)->Nat->Addr}{wi:TI}{ui:UI}{tc:TT}{ut:UT}{te:TE}{ue:UE}(O:sT K k g own dr shF shA)(hi:RI K wi ui)(ht:RT K tc ut)(he:RE K te ue):RE K (i5 wi k g tc te) (gA own dr ui ut ue):=by
 intro F ad B σ H μ Q Qt hF l q kk;refine hi F ad B σ H μ _ _ hF l q fun J H1 μ1 items gd Src l1 f1 k1 it sr so gk q1=>?_;intro D hD;have hnB:=l1.jt hD;have h0D:=l1.xO hD;have hGD:F.G D=none:=by
  cases q:F.G D with
  | none=>rfl
  | some vs=>have:=(l1.gh D vs q).1;rw[hD] at this;cases this
 have nbx:∀ (μ':Mu),Kp μ μ'->∀ (i:Nat) (s:Sl) (c:T),μ'[i]?=some s->s.box=some c->B (ad i):=fun μ' k i s c e b=>by
  obtain⟨s',c',e',b'⟩:=k.symm.fwd i s c e b;exact l.own i s' c' e' b'
 refine⟨fun i m ys σ' H'=>m=items.length - i/\i<=items.length/\∃ σ1 μ' acc,σ'=σ1++σ/\σ1.length=k/\Rl (F.g D ys) ad (more B D) σ H' μ'/\aj F.K H' (more B D) ys acc/\Fr B H (more B D) H'/\Kp μ μ'/\(gd=none->Src H' (more B D))/\mW gd own dr ut ue Qt (items.drop i) acc μ',
  ⟨items.length,by simp,Nat.zero_le _,_,μ1,[],rfl,List.length_replicate,(l1.new hD).Gv af (.inl rfl) (fun i s c e b z=>hnB (z ▸ nbx μ1 k1 i s c e b)),.nil,f1.trans (Fr.more hD),k1,fun z=>?_,q1⟩,?_⟩
 ·subst z;exact so _ _ _ _ (Fr.more hD) sr
 rintro i m ys σ' H' ⟨rfl,hi',σ1,μ',acc,rfl,hk,l2,ra,f2,k2,s2,q2⟩;have hD2:=l2.Fq.1;refine⟨hD2,?_⟩;have src:CO gd μ'->Src H' (more B D):=fun hg=>by
  cases gd with
  | none=>exact s2 rfl
  | some jl=>obtain⟨j,ls⟩:=jl;exact so.1 _ _ _ _ (l2.yZ hGD) hg
 by_cases hlt:i < items.length
 ·have ei:items[i]?=some items[i]:=List.getElem?_eq_getElem hlt;rw[List.drop_eq_getElem_cons hlt] at q2;obtain⟨hg,hz,q2⟩:=q2;have sr2:=src hg;obtain⟨go,yl⟩:=it.step H' (more B D) i _ l2.e9 sr2 ei;refine .inr ⟨go,by rw[ra.length];exact hz,fun x H3 y=>?_⟩
  obtain⟨sm,rp⟩:=yl x H3 y
  split at q2
  ·exact q2.elim
  ·rename_i μ3 eo;have f3:Fr (more B D) H' (more B D) H3:=Fr.same sm;have hF2:(F.g D ys).K=K:=hF;refine O.step (F.g D ys) ad (more B D) σ H3 μ' μ3 x _ σ1 _ hF2 (l2.same sm) (by rw[hF2];exact rp) eo hk fun σ4 hk4 l4=>?_
   refine ht (shF (F.g D ys)) (shA ad) (more B D) _ H3 μ3 _ _ ((O.fK _).trans hF2) l4 q2 fun b H5 μ5 l5 f5 k5 q5=>?_
   cases b with
   | true =>
    rw[if_pos rfl] at q5 ⊢;refine he (shF (F.g D ys)) (shA ad) (more B D) _ H5 μ5 _ _ ((O.fK _).trans hF2) l5 q5 fun v H6 r6 μ6 v6 f6 k6 q6=>?_;have l6:=O.back (F.g D ys) ad (more B D) σ σ4 H6 μ6 hk4 v6.rl;refine⟨l6.Fq.1,?_⟩;have hv:=v6.hv
    split at q6
    ·rename_i t' e6;rw[e6] at hv;have rv:Rep F.K H6 (more B D) v t':=by have:=hv;unfold Hv at this;rw[O.fK] at this;exact this
     have fa:=(f3.trans f5).trans f6.d;have fs:Fr (more B D) H6 (more B D) (upd H6 D (.lst (ys++[v]))):=Fr.set (.inl rfl);refine⟨items.length - (i+1),by lia,rfl,hlt,σ4,dr μ6,acc++[t'],rfl,hk4,l6.setG h0D,((ra.fr fa).append (.cons rv .nil)).fr fs,(f2.trans fa).trans fs,k2.trans (O.kp μ' μ3 μ6 _ eo (k5.trans k6)),fun z=>?_,q6⟩
     subst z;exact so _ _ _ _ (fa.trans fs) (s2 rfl)
    ·exact q6.elim
   | false =>
    rw[if_neg Bool.false_ne_true] at q5 ⊢;have l6:=O.back (F.g D ys) ad (more B D) σ σ4 H5 μ5 hk4 l5;have fa:=f3.trans f5;refine⟨items.length - (i+1),by lia,rfl,hlt,σ4,dr μ5,acc,rfl,hk4,l6,ra.fr fa,f2.trans fa,k2.trans (O.kp μ' μ3 μ5 _ eo k5),fun z=>?_,q5⟩
    subst z;exact so _ _ _ _ fa (s2 rfl)
 ·have e:i=items.length:=by lia
  subst e;rw[List.drop_length] at q2;obtain⟨hg,q2⟩:=q2;have l3:=l2.yZ hGD;refine .inl ⟨it.stop H' (more B D) (src hg),kk (.ref D) H' (.fr (.lst acc)) μ' ⟨l3.less (fun b z=>.inr z) l.bc (nbx μ' k2) (fun a vs ga=>?_),D,rfl,hnB,h0D,l3,ys,hD2,ra⟩ f2 k2 q2⟩;exact l.gB a vs ga
section
variable {X:Cx} {elt tg iter:Expr} {ifs:List Expr} {ue:UE} {ut:UT} {ui:UI} {pos pos' p2:Pos} {x:Str} {osc scope:Scope} {ON own N:List Str}
theorem pW(S:bQ osc ON scope own N)(hosc:X.env.scope=osc)(hON:X.N=ON)(hc:X.calm=true)(ho:own.length=1)(hi:YI X tg iter ui)
  (hg:∀ C s H fp,QG (aB X scope N C s H fp) tg (bH 0)) (ht:∀ C s H fp,BP (aB X scope N C s H fp) ifs ut) (he:∀ C s H fp,YE (aB X scope N C s H fp) elt ue) (hs:∀ x,foldedSetIterable iter X.env x=pure x:=by intro _;rfl) :
  YE X (.ListComp elt [⟨tg,iter,ifs,0⟩] scope pos) (gA yA E8 ui ut ue):=by
 obtain⟨t,q,r⟩:=hi;have h:=Z.comp (pos:=pos) (tc:=rY X.K ut) (te:=qW X.K ue) S hosc hON hc q hg (fun C s H fp=>(ht C s H fp).yt) (fun C s H fp=>(he C s H fp).yt) hs;rw[ho] at h;exact⟨_,h,gW p9 r qd pO⟩
theorem zo(K:PySem.W.Frag)(hK:X.K=K)(S:bQ osc ON scope own N)(hosc:X.env.scope=osc)(hON:X.N=ON)(hc:X.calm=true)(ho:own.length=2)(hi:YI X tg iter ui)
  (hg:∀ C s H fp,QG (aB X scope N C s H fp) tg (lQ K 2 (dN (bH 0) (dN (bH 1) lJ)))) (ht:∀ C s H fp,BP (aB X scope N C s H fp) ifs ut) (he:∀ C s H fp,YE (aB X scope N C s H fp) elt ue) (hs:∀ x,foldedSetIterable iter X.env x=pure x:=by intro _;rfl) :
  YE X (.ListComp elt [⟨tg,iter,ifs,0⟩] scope pos) (gA sf EA ui ut ue):=by
 obtain⟨t,q,r⟩:=hi;subst hK;have h:=Z.comp (pos:=pos) (tc:=rY X.K ut) (te:=qW X.K ue) S hosc hON hc q hg (fun C s H fp=>(ht C s H fp).yt) (fun C s H fp=>(he C s H fp).yt) hs;rw[ho] at h;exact⟨_,h,gW pZ r qd pO⟩
theorem C4{j:Nat}(hN:X.N.Nodup)(hj:X.N[j]?=some x)(hx:Loc X.env.scope x)(S:bQ osc ON scope own N)(hosc:X.env.scope=osc)(hON:X.N=ON)(hc:X.calm=true)(ho:own.length=1)(hi:YI X tg iter ui)
  (hg:∀ C s H fp,QG (aB X scope N C s H fp) tg (bH 0)) (ht:∀ C s H fp,BP (aB X scope N C s H fp) ifs ut) (he:∀ C s H fp,YE (aB X scope N C s H fp) elt ue)
  (hsw:swapsWith (.ListComp elt [⟨tg,iter,ifs,0⟩] scope p2) (some (.Name x pos')) pos.line X.env=pure true:=by rfl)
  (hf:X.fn x=true\/X.env.scope.names.lookup x=some .local:=by first | exact .inl rfl | exact .inr rfl | assumption) (hs:∀ x,foldedSetIterable iter X.env x=pure x:=by intro _;rfl) :
  YS X (.Assign [.Name x pos'] (.ListComp elt [⟨tg,iter,ifs,0⟩] scope p2) pos) (kq (gA yA E8 ui ut ue) (gN j)):=by
 obtain⟨t,q,r⟩:=hi;have h:=Z.setC (tc:=rY X.K ut) (te:=qW X.K ue) hN hj hx S hosc hON hc q hg (fun C s H fp=>(ht C s H fp).yt) (fun C s H fp=>(he C s H fp).yt) hsw hf hs;rw[ho] at h;exact⟨_,h,jV (gW p9 r qd pO) gZ⟩
theorem sC:BP X [] (fun μ Q=>Q true μ):=⟨_,Z.sC,fun F ad B σ H μ Q Qt hK l q k=>k true H μ l Fr.refl (Kp.refl μ) q⟩
end
end Y
def cL(μ:Mu)(j:Nat)(c:T):Mu:=match μ[j]? with
 | some s=>μ.set j (s.put c)
 | none=>μ
namespace Y
section
variable {X:Cx} {a b c e o tg it i:Expr} {es rest:List Expr} {ua ub uc ue uo ui:UE} {uA uB:UT} {us:UA} {pos pos' p p2 p3 apos:Pos} {x:Str} {st:Stmt} {sts xs ys:List Stmt} {u w:US}
def gS(uo ui:UE):UG:=fun r μ Q=>match r.d with
 | .tr t=>uo μ fun ro μ1=>ui μ1 fun ri μ2=>(match ro,ri with
  | .br j,.tr (.int k)=>(match (μ2[j]?).bind Sl.box with
   | some (.lst ts)=>(match kW ts.length k with
    | some n=>Q (cL μ2 j (.lst (ts.set n t)))
    | none=>False)
   | _=>False)
  | _,_=>False)
 | _=>False
theorem mH(ho:YE X o uo)(hi:YE X i ui)
  (ha:∀ v,assign (.Subscript o i pos) X.env v=(do
   let ov <- holding [v] (eval o X.env)
   let iv <- holding [v,ov] (eval i X.env)
   standAt pos
   holding [v,ov,iv] (setItem ov iv v)
   release [v,ov,iv] []):=by intro _;rfl):YG X (.Subscript o i pos) (gS uo ui):=by
 obtain⟨t,q,r⟩:=ho;obtain⟨t',q',r'⟩:=hi;refine⟨_,Z.mH q q' ha,fun F ad B σ H μ v rr B0 H0 Q Qt hF h f q k=>?_⟩;unfold gS at q;have f0:Fr B0 H0 B H:=fun b o h n=>⟨(f b o h n).1,fun z=>(f b o h n).2 (by cases rr<;>first | exact z | (cases v<;>first | exact z | exact .inr z))⟩
 have hv:=h.hv
 split at q
 ·rename_i t0 e0;rw[e0] at hv;refine r F ad B σ H μ _ _ hF h.rl q fun ov H1 r1 μ1 v1 f1 k1 q1=>r' F ad B σ H1 μ1 _ _ hF v1.rl q1 fun iv H2 r2 μ2 v2 f2 k2 q2=>?_
  split at q2
  ·rename_i j kk;have rp:=v2.2;cases rp;obtain⟨rfl,_⟩:=(v1.hv.fr f2.d k2)
   split at q2
   ·rename_i ts e
    split at q2
    ·rename_i n en
     cases ej:μ2[j]? with
     | none=>rw[ej] at e;cases e
     | some s =>
      rw[ej] at e;have e':s.box=some (.lst ts):=e;have l2:=v2.rl;obtain⟨vs,hl,rs⟩:=((l2.slot j s ej).boxed e').2.2.1;have rv:Rep F.K H2 B v t0:=(show Rep F.K H B v t0 from hv).fr (f1.d.trans f2.d);have l3:=l2.put ej e' (rs.set n rv);show vz (.ref (ad j)) (.int kk) v H2 _;rw[Ap.setRef,hl];simp only;rw[rs.length,en];simp only;unfold cL at q2;rw[ej] at q2;exact k ad B σ _ _ l3 ((f0.trans (f1.d.trans f2.d)).trans (Fr.set ((l2.slot j s ej).boxed e').2.1)) q2
    ·exact q2.elim
   ·exact q2.elim
  ·exact q2.elim
 ·exact q.elim
noncomputable abbrev UM:=Nat->List R->Mu->(R->Mu->Prop)->Prop
def D7:Option T->Prop->Prop
 | some (.lst _),p=>p
 | _,_=>False
def Cw(um:UM)(uo:UE)(us:UA):UE:=fun μ Q=>uo μ fun ro μ1=>match ro with
 | .br j=>D7 ((μ1[j]?).bind Sl.box) (us μ1 fun rs μ2=>um j rs μ2 Q)
 | _=>False
def RM(K:PySem.W.Frag)(r:V->List V->Hp->VK->Prop)(um:UM):Prop:=∀ (F:Fx) (ad:Nat->Addr) (B:aK) (σ:St) (H:Hp) (μ:Mu) (Q:VK) (Qt:R->Mu->Prop) (j:Nat) (s:Sl) (c:T) (xs:List V) (rs:List R),F.K=K->Rl F ad B σ H μ->μ[j]?=some s->s.box=some c->Paired (Hv F ad B H μ) xs rs->um j rs μ Qt ->
 (∀ v H' r μ',Vr F ad B σ H' μ' v r->Fr B H (Bv B v r) H'->Kp μ μ'->Qt r μ'->Q v H')->r (.ref (ad j)) xs H Q
theorem bm(K:PySem.W.Frag)(hK:X.K=K){name:Str}{id:String}{r:V->List V->Hp->VK->Prop}{um:UM}(slot:Slot "list" name id)(hty:typeOf (.builtin id)=pure (.type "method_descriptor"))(hm:wH X id r)(hr:RM X.K r um)(ho:YE X o uo)(ha:YA X (e::es) us)
  (hbase:attributeBase o name X.env (eval o X.env)=eval o X.env:=by rfl) (hline:(apos.endLine == pos.line)=true:=by rfl) (h:(e::es).all bY=true:=by rfl) (hl:(e::es).length < 30:=by decide):YE X (.Call (.Attribute o name apos) (e::es) [] pos) (Cw um uo us):=by
 obtain⟨t,q,rr⟩:=ho;obtain⟨t',q',r'⟩:=ha;refine⟨_,Z.bm K hK PySem.F.plainAttrs_list slot hty hm q q' hbase hline h hl,fun F ad B σ H μ Q Qt hF l q k=>rr F ad B σ H μ _ _ hF l q fun v H1 r1 μ1 v1 f1 k1 q1=>?_⟩
 split at q1
 ·rename_i j;obtain⟨l1,rfl,s,c,e1,e2⟩:=v1;rw[e1] at q1;have q1':D7 s.box _:=q1;rw[e2] at q1';rcases ((l1.slot j s e1).boxed e2).2.2.1.is with ⟨ts,vs,rfl,hl,_⟩ | ⟨_,_,_,rfl,_⟩
  case inr=>exact q1'.elim
  have q1:=(show us μ1 _ from q1');refine⟨.inl ⟨rfl,vs,bA.of hl⟩,?_⟩;refine r' F ad B σ H1 μ1 _ _ hF l1 q1 fun xs H2 rs μ2 l2 ps f2 k2 q2=>?_;obtain⟨s',c',e3,e4⟩:=k2.fwd j s _ e1 e2;exact hr F ad B σ H2 μ2 _ _ j s' c' xs rs hF l2 e3 e4 ps q2 fun v H3 r3 μ3 v3 f3 k3 q3=>k v H3 r3 μ3 v3 ((f1.d.trans f2).trans f3) ((k1.trans k2).trans k3) q3
 ·exact q1.elim
def fA:UM:=fun j rs μ Q=>match rs with
 | [.tr t]=>(match (μ[j]?).bind Sl.box with
  | some (.lst ts)=>ts.length < sizeLine/\Q (.tr .bf) (cL μ j (.lst (ts++[t])))
  | _=>False)
 | _=>False
theorem eG{K:PySem.W.Frag}:RM K pT fA:=by
 intro F ad B σ H μ Q Qt j s c xs rs hF l e b ps q k;unfold fA at q
 split at q
 ·cases ps with
  | cons h ps =>
   cases ps;rw[e] at q;have q':(match s.box with | some (.lst ts)=>ts.length < sizeLine/\Qt (.tr .bf) (cL μ j (.lst (ts++[_]))) | _=>False):=q
   rw[b] at q';rcases ((l.slot j s e).boxed b).2.2.1.is with ⟨ts,vs,rfl,hl,rv⟩ | ⟨_,_,_,rfl,_⟩
   case inr=>exact q'.elim
   simp only at q';refine⟨_,_,_,rfl,rfl,hl,by rw[rv.length];exact q'.1,?_⟩
   have l3:=l.put e b (rv.append (.cons (bG h) .nil));have q2:=q'.2;unfold cL at q2;rw[e] at q2;exact k _ _ (.tr .bf) _ (Vr.flat l3 .bf) (Fr.set ((l.slot j s e).boxed b).2.1) (Kp.set e b (Sl.gL b)) q2
 ·exact q.elim
end
end Y
def jn:List Bool->List V->List Addr
 | true::md,.ref a::vs=>a::jn md vs
 | _::md,_::vs=>jn md vs
 | _,_=>[]
def e_(K:PySem.W.Frag)(H:Hp)(B:aK):List Bool->List V->List T->Prop
 | [],[],[]=>True
 | false::md,v::vs,t::ts=>Rep K H B v t/\e_ K H B md vs ts
 | true::md,v::vs,t::ts=>(∃ a,v=.ref a/\B a/\Bx K H B a t)/\e_ K H B md vs ts
 | _,_,_=>False
noncomputable abbrev fc:=List T->(R->List T->Prop)->Prop
def DP(K:PySem.W.Frag)(H H':Hp)(B:aK)(as:List Addr)(v:V)(outs:List T):R->Prop
 | .tr t=>Rep K H' B v t/\Paired (Bx K H' B) as outs
 | .fr c=>∃ a,v=.ref a/\H a=none/\¬ B a/\Bx K H' (more B a) a c/\Paired (Bx K H' (more B a)) as outs
 | .br _=>False
def spT(K:PySem.W.Frag)(md:List Bool)(tsp:fc):Sp:=fun vs H Q _=>∃ (B:aK) (args:List T) (Qt:R->List T->Prop),e_ K H B md vs args/\(∀ b,B b->∃ o,H b=some o)/\(jn md vs).Nodup/\tsp args Qt /\
 ∀ v H' r outs,Qt r outs->(∀ b o,H b=some o->b∉jn md vs->H' b=some o)->DP K H H' B (jn md vs) v outs r->Q v H'
theorem e_.len{K:PySem.W.Frag}{H:Hp}{B:aK}:∀ {md:List Bool} {vs:List V} {ts:List T},e_ K H B md vs ts->vs.length=md.length/\ts.length=md.length
 | [],[],[],_=>⟨rfl,rfl⟩
 | false::md,v::vs,t::ts,h=>⟨congrArg (·+1) (e_.len h.2).1,congrArg (·+1) (e_.len h.2).2⟩
 | true::md,v::vs,t::ts,h=>⟨congrArg (·+1) (e_.len h.2).1,congrArg (·+1) (e_.len h.2).2⟩
theorem e_.get{K:PySem.W.Frag}{H:Hp}{B:aK}:∀ {md:List Bool} {vs:List V} {ts:List T} {i:Nat} {b:Bool},e_ K H B md vs ts->md[i]?=some b->∃ v t,vs[i]?=some v/\ts[i]?=some t/\(if b=true then ∃ a,v=.ref a/\B a/\Bx K H B a t else Rep K H B v t)
 | [],[],[],i,b,_,e=>by simp at e
 | c::md,[],_,_,_,h,_=>by cases c<;>exact h.elim
 | c::md,v::vs,[],_,_,h,_=>by cases c<;>exact h.elim
 | c::md,v::vs,t::ts,0,b,h,e=>by
  have e':c=b:=by simpa using e
  subst e'
  cases c with
  | false=>exact⟨v,t,rfl,rfl,by rw[if_neg Bool.false_ne_true];exact h.1⟩
  | true=>exact⟨v,t,rfl,rfl,by rw[if_pos rfl];exact h.1⟩
 | c::md,v::vs,t::ts,i+1,b,h,e=>by
  have h2:e_ K H B md vs ts:=by cases c<;>exact h.2
  obtain⟨v',t',e1,e2,q⟩:=e_.get h2 (show md[i]?=some b by simpa using e)
  exact⟨v',t',by simpa using e1,by simpa using e2,q⟩
theorem eI:∀ {md:List Bool} {vs:List V} {i:Nat} {a:Addr},md[i]?=some true->vs[i]?=some (.ref a)->a∈jn md vs
 | [],_,_,_,e,_=>by simp at e
 | c::md,[],_,_,_,e=>by simp at e
 | c::md,v::vs,0,a,e1,e2=>by
  have e1':c=true:=by simpa using e1
  have e2':v=.ref a:=by simpa using e2
  subst e1' e2';exact List.mem_cons_self
 | c::md,v::vs,i+1,a,e1,e2=>by
  have:=eI (md:=md) (vs:=vs) (i:=i) (a:=a) (by simpa using e1) (by simpa using e2)
  cases c with
  | false=>exact this
  | true=>cases v<;>first | exact List.mem_cons_of_mem _ this | exact this
theorem p6:∀ {md:List Bool} {vs:List V} {i j:Nat} {a:Addr},(jn md vs).Nodup->md[i]?=some true->md[j]?=some true->vs[i]?=some (.ref a)->vs[j]?=some (.ref a)->i=j
 | [],_,_,_,_,_,e,_,_,_=>by simp at e
 | c::md,[],_,_,_,_,_,_,e,_=>by simp at e
 | c::md,v::vs,i,j,a,nd,e1,e2,e3,e4=>by
  have tl:(jn md vs).Nodup:=by
   cases c with
   | false=>exact nd
   | true=>cases v<;>first | exact (List.nodup_cons.mp nd).2 | exact nd
  cases i with
  | zero =>
   have e1':c=true:=by simpa using e1
   have e3':v=.ref a:=by simpa using e3
   subst e1' e3'
   cases j with
   | zero=>rfl
   | succ j=>exact absurd (eI (md:=md) (vs:=vs) (i:=j) (a:=a) (by simpa using e2) (by simpa using e4)) (List.nodup_cons.mp nd).1
  | succ i=>cases j with
   | zero =>
    have e1':c=true:=by simpa using e2
    have e3':v=.ref a:=by simpa using e4
    subst e1' e3';exact absurd (eI (md:=md) (vs:=vs) (i:=i) (a:=a) (by simpa using e1) (by simpa using e3)) (List.nodup_cons.mp nd).1
   | succ j=>exact congrArg (·+1) (p6 tl (by simpa using e1) (by simpa using e2) (by simpa using e3) (by simpa using e4))
def bL:List Bool->Nat->Mu->List T
 | [],_,_=>[]
 | true::md,i,μ=>(match μ[i]? with
  | some (.pb c)=>c::bL md (i+1) μ
  | _=>bL md (i+1) μ)
 | false::md,i,μ=>bL md (i+1) μ
theorem k_{P:Addr->T->Prop}{μ:Mu}:∀ {md:List Bool} {vs:List V} {i:Nat},vs.length=md.length->(∀ n,md[n]?=some true->∃ a c,vs[n]?=some (.ref a)/\μ[i+n]?=some (.pb c)/\P a c)->Paired P (jn md vs) (bL md i μ)
 :=by
  intro md
  induction md with
  | nil =>
    intro vs i hl h
    cases vs with
    | nil=>exact .nil
    | cons v vs=>cases hl
  | cons b md ih =>
    intro vs i hl h
    cases vs with
    | nil=>cases hl
    | cons v vs =>
      have rest:=ih (vs:=vs) (i:=i+1) (Nat.succ.inj hl) fun n e=>by
        obtain⟨a,c,e1,e2,p⟩:=h (n+1) e;exact⟨a,c,e1,by rw[Nat.add_assoc,Nat.add_comm 1 n];exact e2,p⟩
      cases b with
      | false=>exact rest
      | true =>
        obtain⟨a,c,e1,e2,p⟩:=h 0 rfl;have e1':v=.ref a:=Option.some.inj e1;subst e1';rw[Nat.add_zero] at e2;show Paired P (a::jn md vs) (match μ[i]? with | some (.pb c)=>c::bL md (i+1) μ | _=>bL md (i+1) μ)
        rw[e2];exact .cons p rest
def startM:List Bool->List T->Nat->Mu
 | b::md,t::ts,n=>(if b=true then .pb t else .tr t)::startM md ts (n - 1)
 | _,_,n=>List.replicate n .un
def uu(md:List Bool)(Qt:R->List T->Prop):Ed where
 nx:=fun μ=>Qt (.tr .bf) (bL md 0 μ)
 rt:=fun r μ=>match r with
  | .tr t=>Qt (.tr t) (bL md 0 μ)
  | .fr c=>Qt (.fr c) (bL md 0 μ)
  | .br i=>(match μ[i]? with
   | some (.bx c)=>Qt (.fr c) (bL md 0 μ)
   | _=>False)
theorem iE:∀ {md:List Bool} {ts:List T} {n:Nat},ts.length=md.length->md.length<=n->(startM md ts n).length=n
 | [],[],n,_,_=>List.length_replicate
 | b::md,t::ts,n,h,hn=>by
  cases n with
  | zero=>simp at hn
  | succ n=>exact congrArg (·+1) (iE (by simpa using h) (by simpa using hn))
theorem eW:∀ {md:List Bool} {ts:List T} {n i:Nat} {s:Sl},(startM md ts n)[i]?=some s->s=.un\/∃ b t,md[i]?=some b/\ts[i]?=some t/\s=(if b=true then .pb t else .tr t)
 | [],ts,n,i,s,e=>by
  have e':(List.replicate n Sl.un)[i]?=some s:=by cases ts<;>exact e
  rw[List.getElem?_replicate] at e'
  split at e'
  ·exact .inl (Option.some.inj e').symm
  ·cases e'
 | b::md,[],n,i,s,e=>by
  have e':(List.replicate n Sl.un)[i]?=some s:=e;rw[List.getElem?_replicate] at e'
  split at e'
  ·exact .inl (Option.some.inj e').symm
  ·cases e'
 | b::md,t::ts,n,0,s,e=>.inr ⟨b,t,rfl,rfl,by have e':some (if b=true then Sl.pb t else .tr t)=some s:=e;exact (Option.some.inj e').symm⟩
 | b::md,t::ts,n,i+1,s,e=>by
  rcases eW (md:=md) (ts:=ts) (n:=n - 1) (i:=i) (s:=s) (by simpa[startM] using e) with h | ⟨b',t',h1,h2,h3⟩
  ·exact .inl h
  ·exact .inr ⟨b',t',by simpa using h1,by simpa using h2,h3⟩
theorem j8:∀ {md:List Bool} {ts:List T} {n i:Nat} {b:Bool} {t:T},md[i]?=some b->ts[i]?=some t->(startM md ts n)[i]?=some (if b=true then .pb t else .tr t)
 | [],_,_,_,_,_,e,_=>by simp at e
 | b::md,[],_,_,_,_,_,e=>by simp at e
 | b::md,t::ts,n,0,b',t',e1,e2=>by
  have e1':b=b':=by simpa using e1
  have e2':t=t':=by simpa using e2
  subst e1' e2';rfl
 | b::md,t::ts,n,i+1,b',t',e1,e2=>by
  have:=j8 (md:=md) (ts:=ts) (n:=n - 1) (i:=i) (b:=b') (t:=t') (by simpa using e1) (by simpa using e2)
  simpa[startM] using this
def kc(vs:List V)(i:Nat):Addr:=match vs[i]? with
 | some (.ref a)=>a
 | _=>0
def DA(md:List Bool)(vs:List V)(i:Nat):Option Addr:=match md[i]?,vs[i]? with
 | some true,some (.ref a)=>some a
 | _,_=>none
theorem eY{md:List Bool}{vs:List V}{i:Nat}{a:Addr}(h:DA md vs i=some a):md[i]?=some true/\vs[i]?=some (.ref a):=by
 unfold DA at h
 split at h
 ·rename_i e1 e2;cases h;exact⟨e1,e2⟩
 ·cases h
theorem kx{md:List Bool}{vs:List V}{i:Nat}{a:Addr}(h1:md[i]?=some true)(h2:vs[i]?=some (.ref a)):DA md vs i=some a:=by
 unfold DA;rw[h1,h2]
def ji(K:PySem.W.Frag)(H:Hp)(md:List Bool)(vs:List V)(B:aK)(bh:∀ b,B b->∃ o,H b=some o):Fx:=⟨K,H,DA md vs,B,bh,fun _=>none⟩
theorem h_{K:PySem.W.Frag}{H:Hp}{B:aK}{md:List Bool}{vs:List V}{args:List T}{N:List Str}(ag:e_ K H B md vs args)(bh:∀ b,B b->∃ o,H b=some o)(nd:(jn md vs).Nodup)(hN:md.length<=N.length):
  Rl (ji K H md vs B bh) (kc vs) B (start N vs) H (startM md args N.length):=by
 obtain⟨l1,l2⟩:=ag.len;have sget:∀ i v,vs[i]?=some v->(start N vs)[i]?=some (some v):=fun i v e=>by
  have hi:=(List.getElem?_eq_some_iff.mp e).1;unfold start;rw[List.getElem?_append_left (by simpa using hi),List.getElem?_map,e];rfl
 refine⟨?_,fun i s e=>?_,fun i j s u c d e1 e2 b1 b2 q=>?_,fun i a p=>?_,fun b z=>z,bh,fun b o e n=>e,fun a ws ga=>by cases ga⟩
 ·rw[iE l2 hN];unfold start;rw[List.length_append,List.length_map,List.length_replicate];lia
 ·rcases eW e with rfl | ⟨b,t,h1,h2,rfl⟩
  ·trivial
  ·obtain⟨v,t',e1,e2,q⟩:=ag.get h1;rw[h2] at e2;cases e2
   cases b with
   | false =>
    rw[if_neg Bool.false_ne_true] at q;rw[if_neg Bool.false_ne_true];exact⟨v,sget i v e1,q⟩
   | true =>
    rw[if_pos rfl] at q;rw[if_pos rfl];obtain⟨a,rfl,hb,x⟩:=q;have ea:kc vs i=a:=by unfold kc;rw[e1]
    show _/\_/\_/\_;rw[ea];exact⟨sget i _ e1,hb,kx h1 e1,x⟩
 ·have one:∀ {i:Nat} {s:Sl} {c:T},(startM md args N.length)[i]?=some s->s.box=some c->md[i]?=some true/\∃ a,vs[i]?=some (.ref a)/\kc vs i=a:=fun {i s c} e b=>by
   rcases eW e with rfl | ⟨b',t,h1,h2,rfl⟩
   ·cases b
   ·cases b' with
    | false=>rw[if_neg Bool.false_ne_true] at b;cases b
    | true =>
     obtain⟨v,t',e1,e2,q⟩:=ag.get h1;rw[if_pos rfl] at q;obtain⟨a,rfl,_⟩:=q;exact⟨h1,a,e1,by unfold kc;rw[e1]⟩
  obtain⟨m1,a1,v1,z1⟩:=one e1 b1;obtain⟨m2,a2,v2,z2⟩:=one e2 b2;rw[z1,z2] at q;subst q;exact p6 nd m1 m2 v1 v2
 ·obtain⟨h1,h2⟩:=eY p;obtain⟨v,t',e1,e2,q⟩:=ag.get h1;refine⟨⟨t',?_⟩,by unfold kc;rw[h2]⟩
  have:=j8 (n:=N.length) h1 e2;rw[if_pos rfl] at this;exact this
theorem HasFn.mR{P:Program}{w:World}{K:PySem.W.Frag}{mg:Str->Option Value}{base:Heap}{x:Str}{st:Stmt}{N ps:List Str}{k:Nat}{tsp:fc}(F:HasFn K mg x st ps)(S:av N ps (aa st))(md:List Bool)(hm:md.length=ps.length)(hN:md.length<=N.length)
  (hbody:∀ (args:List T) (Qt:R->List T->Prop),args.length=ps.length->tsp args Qt->∀ (f:Addr) (cdv:Value) (A:Around) (outer:List Env) (s:Shared) (H:Hp) (E:XK),bz k (A.deeper (envOfC x (aa st) s.heap.objs.size f cdv)) ->
   ∃ us,YB (fh bT P w K mg base N x (aa st) f cdv A outer s H E).xt (ao st) us/\us (uu md Qt) (startM md args N.length)):ai P w K mg base bT (k+1) x ps (spT K md tsp):=by
 refine F.G2 S (fun vs H Q E h=>?_) (fun f cdv A outer s H vs Q E hr h=>?_)
 ·obtain⟨B,args,Qt,ag,_⟩:=h;rw[ag.len.1,hm]
 ·obtain⟨B,args,Qt,ag,bh,nd,ht,fin⟩:=h;obtain⟨us,⟨t,q,r⟩,hu⟩:=hbody args Qt (by rw[ag.len.2,hm]) ht f cdv A outer s H E hr
  refine⟨t,q,?_⟩;have l0:=h_ (N:=N) ag bh nd hN;have outs:∀ ad' B' σ' H' μ' (B2:aK),Rl (ji K H md vs B bh) ad' B' σ' H' μ'->(∀ b,B2 b->B' b)->Paired (Bx K H' B2) (jn md vs) (bL md 0 μ'):=fun ad' B' σ' H' μ' B2 l hB=>by
   refine k_ (ag.len.1) fun n e=>?_;obtain⟨v,t',e1,e2,q⟩:=ag.get e;rw[if_pos rfl] at q;obtain⟨a,rfl,_⟩:=q;obtain⟨⟨c,hc⟩,ha⟩:=l.par n a (kx e e1);have sl:=l.slot n _ hc;refine⟨a,c,e1,by rw[Nat.zero_add];exact hc,?_⟩
   rw[<- ha];exact (sl.2.2.2).of rfl (Fr.less hB)
  have keep:∀ ad' B' σ' H' μ',Rl (ji K H md vs B bh) ad' B' σ' H' μ'->∀ b o,H b=some o->b∉jn md vs->H' b=some o:=fun ad' B' σ' H' μ' l b o e n=>l.old b o e fun i z=>n (eI (eY z).1 (eY z).2);refine r (ji K H md vs B bh) _ _ (kc vs) B (start N vs) H _ rfl l0 hu ⟨fun ad' B' σ' H' μ' l _ q=>?_,fun ad' B' σ' H' μ' v rr h q=>?_,fun _ _ _ _ _ _ _ z=>z.elim,fun _ _ _ _ _ _ _ z=>z.elim⟩
  ·exact fin .bf H' (.tr .bf) _ q (keep _ _ _ _ _ l) ⟨.bf,outs _ _ _ _ _ _ l l.bc⟩
  ·cases rr with
   | tr t=>exact fin v H' (.tr t) _ q (keep _ _ _ _ _ h.1) ⟨(show Rep K H' B' v t from h.2).fr (Fr.less h.1.bc),outs _ _ _ _ _ _ h.1 h.1.bc⟩
   | fr c =>
    obtain⟨l,a,rfl,n,h0,l2,x⟩:=h;have sub:∀ b,more B a b->more B' a b:=fun b z=>z.imp id (l.bc b);exact fin _ H' (.fr c) _ q (keep _ _ _ _ _ l) ⟨a,rfl,h0,fun z=>n (l.bc a z),x.of rfl (Fr.less sub),outs _ _ _ _ _ _ l2 sub⟩
   | br i =>
    have q':(match μ'[i]? with | some (.bx c)=>Qt (.fr c) (bL md 0 μ') | _=>False):=q
    obtain⟨l,rfl,s',c',e1,e2⟩:=h
    split at q'
    ·rename_i c ec;have sl:=l.slot i _ ec;have sub:∀ b,more B (ad' i) b->B' b:=fun b z=>z.elim (fun z=>by rw[z];exact sl.2.1) (l.bc b)
     refine fin _ H' (.fr c) _ q' (keep _ _ _ _ _ l) ⟨ad' i,rfl,sl.2.2.1,fun z=>?_,(sl.2.2.2.2).of rfl (Fr.less sub),outs _ _ _ _ _ _ l sub⟩;obtain⟨o,e⟩:=bh _ z;have:H (ad' i)=none:=sl.2.2.1;rw[this] at e;cases e
    ·exact q'.elim
def vZ(μ:Mu):List Bool->List R->Option (List T)
 | [],[]=>some []
 | false::md,r::rs=>(match cont μ r,vZ μ md rs with
  | some t,some ts=>some (t::ts)
  | _,_=>none)
 | true::md,.br j::rs=>(match cont μ (.br j),vZ μ md rs with
  | some t,some ts=>some (t::ts)
  | _,_=>none)
 | _,_=>none
def fL:List Bool->List R->List Nat
 | true::md,.br j::rs=>j::fL md rs
 | _::md,_::rs=>fL md rs
 | _,_=>[]
def gD:List Bool->List R->List Nat
 | false::md,.br j::rs=>j::gD md rs
 | _::md,_::rs=>gD md rs
 | _,_=>[]
def fw:T->Bool
 | .lst ts=>ts.all aT
 | .ly _ ts=>ts.all aT
 | t=>aT t
def fi:R->Bool
 | .tr t=>aT t
 | .fr c=>fw c
 | .br _=>false
def putAll:List Nat->List T->Mu->Mu
 | j::js,c::cs,μ=>putAll js cs (cL μ j c)
 | _,_,μ=>μ
theorem oE{μ:Mu}{i j:Nat}{c:T}(h:i≠j):(cL μ j c)[i]?=μ[i]?:=by
 unfold cL;split
 ·rw[List.getElem?_set_ne (Ne.symm h)]
 ·rfl
theorem yH{μ:Mu}{j:Nat}{c:T}{s:Sl}(e:μ[j]?=some s):(cL μ j c)[j]?=some (s.put c):=by
 unfold cL;rw[e];exact List.getElem?_set_self (List.getElem?_eq_some_iff.mp e).1
theorem wy{μ:Mu}{j:Nat}{c:T}:(cL μ j c).length=μ.length:=by
 unfold cL;split
 ·exact List.length_set
 ·rfl
theorem iP:∀ {js:List Nat} {cs:List T} {μ:Mu},(putAll js cs μ).length=μ.length
 | [],_,_=>rfl
 | _::_,[],_=>rfl
 | j::js,c::cs,μ=>(iP (js:=js)).trans wy
theorem d5:∀ {js:List Nat} {cs:List T} {μ:Mu} {i:Nat},i∉js->(putAll js cs μ)[i]?=μ[i]?
 | [],_,_,_,_=>rfl
 | _::_,[],_,_,_=>rfl
 | j::js,c::cs,μ,i,h=>(d5 (js:=js) (fun z=>h (List.mem_cons_of_mem _ z))).trans (oE fun z=>h (z ▸ List.mem_cons_self))
theorem cR{P:Addr->T->Prop}{ad:Nat->Addr}:∀ {js:List Nat} {cs:List T} {μ:Mu} {i:Nat} {s:Sl},js.Nodup->Paired P (js.map ad) cs->i∈js->μ[i]?=some s->∃ c,(putAll js cs μ)[i]?=some (s.put c)/\P (ad i) c
 | [],_,_,_,_,_,_,h,_=>by cases h
 | j::js,c::cs,μ,i,s,nd,.cons p ps,h,e=>by
  rw[List.nodup_cons] at nd;by_cases z:i=j
  ·subst z;refine⟨c,?_,p⟩;show (putAll js cs (cL μ i c))[i]?=_;rw[d5 nd.1];exact yH e
  ·rcases List.mem_cons.mp h with z' | z'
   ·exact absurd z' z
   ·exact cR (js:=js) nd.2 ps z' (by rw[oE z];exact e)
theorem Rl.call{F:Fx}{ad:Nat->Addr}{B B2:aK}{σ:St}{H H':Hp}{μ:Mu}{js:List Nat}{outs:List T}(l:Rl F ad B σ H μ)(hb:∀ j∈js,∃ (s:Sl) (c:T),μ[j]?=some s/\s.box=some c)(nd:js.Nodup)
  (keep:∀ b o,H b=some o->b∉js.map ad->H' b=some o) (sB:∀ b,B b->B2 b) (nB:∀ b o,H b=some o->¬ B b->¬ B2 b) (tB:∀ b,B2 b->¬ B b->∃ o,H' b=some o) (ps:Paired (Bx F.K H' B2) (js.map ad) outs) :
  Rl F ad B2 σ H' (putAll js outs μ)/\Kp μ (putAll js outs μ)/\Fr B H B2 H':=by
 have inB:∀ b∈js.map ad,B b:=fun b hb'=>by
  obtain⟨j,hj,rfl⟩:=List.mem_map.mp hb';obtain⟨s,c,e,q⟩:=hb j hj;exact l.own j s c e q
 have f:Fr B H B2 H':=fun b o e n=>⟨keep b o e fun z=>n (inB b z),nB b o e n⟩;have cases':∀ i s,(putAll js outs μ)[i]?=some s->(i∉js/\μ[i]?=some s)\/(i∈js/\∃ s0 c0 c,μ[i]?=some s0/\s0.box=some c0/\s=s0.put c/\Bx F.K H' B2 (ad i) c):=fun i s e=>by
  by_cases z:i∈js
  ·obtain⟨s0,c0,e0,q0⟩:=hb i z;obtain⟨c,e1,p⟩:=cR nd ps z e0;rw[e1] at e;exact .inr ⟨z,s0,c0,c,e0,q0,(Option.some.inj e).symm,p⟩
  ·rw[d5 z] at e;exact .inl ⟨z,e⟩
 have boxOld:∀ (i:Nat) (s:Sl) (c:T),(putAll js outs μ)[i]?=some s->s.box=some c->∃ (s0:Sl) (c0:T),μ[i]?=some s0/\s0.box=some c0:=fun i s c e b=>by
  rcases cases' i s e with ⟨_,e'⟩ | ⟨_,s0,c0,_,e0,q0,_⟩
  ·exact⟨s,c,e',b⟩
  ·exact⟨s0,c0,e0,q0⟩
 have ne:∀ (i:Nat) (s:Sl) (c:T),i∉js->μ[i]?=some s->s.box=some c->ad i∉js.map ad:=fun i s c z e b hm=>by
  obtain⟨j,hj,q⟩:=List.mem_map.mp hm;obtain⟨s0,c0,e0,q0⟩:=hb j hj;exact z (l.inj i j s s0 c c0 e e0 b q0 q.symm ▸ hj)
 refine⟨⟨by rw[iP];exact l.len,fun i s e=>?_,fun i j s u c d e1 e2 b1 b2 q=>?_,fun i a p=>?_,fun b z=>sB b (l.bc b z),fun b z=>?_,fun b o e n=>?_,fun a ws ga=>?_⟩,fun i=>?_,f⟩
 ·rcases cases' i s e with ⟨z,e'⟩ | ⟨z,s0,c0,c,e0,q0,rfl,x⟩
  ·have k:=l.slot i s e';unfold fX at k ⊢
   split at k
   ·trivial
   ·obtain⟨v,e1,r1⟩:=k;exact⟨v,e1,r1.fr f⟩
   ·obtain⟨e1,b,z0,p,x⟩:=k;obtain⟨o,eo⟩:=x.e9;exact⟨e1,sB _ b,z0,p,x.of ((keep _ o eo (ne i _ _ z e' rfl)).trans eo.symm) f⟩
   ·obtain⟨e1,b,p,x⟩:=k;obtain⟨o,eo⟩:=x.e9;exact⟨e1,sB _ b,p,x.of ((keep _ o eo (ne i _ _ z e' rfl)).trans eo.symm) f⟩
  ·have k:=l.slot i s0 e0
   cases s0 with
   | un=>cases q0
   | tr t=>cases q0
   | bx d=>exact⟨k.1,sB _ k.2.1,k.2.2.1,k.2.2.2.1,x⟩
   | pb d=>exact⟨k.1,sB _ k.2.1,k.2.2.1,x⟩
 ·obtain⟨s1,c1,g1,g2⟩:=boxOld i s c e1 b1;obtain⟨s2,c2,g3,g4⟩:=boxOld j u d e2 b2;exact l.inj i j s1 s2 c1 c2 g1 g3 g2 g4 q
 ·obtain⟨⟨c,e⟩,ha⟩:=l.par i a p;refine⟨?_,ha⟩;by_cases z:i∈js
  ·obtain⟨c',e1,_⟩:=cR nd ps z e;exact⟨c',e1⟩
  ·exact⟨c,by rw[d5 z];exact e⟩
 ·by_cases zb:B b
  ·obtain⟨o,e⟩:=l.e9 b zb;by_cases z2:b∈js.map ad
   ·obtain⟨j,hj,rfl⟩:=List.mem_map.mp z2;obtain⟨s0,c0,e0,q0⟩:=hb j hj;obtain⟨c,_,x⟩:=cR nd ps hj e0;exact x.e9
   ·exact⟨o,keep b o e z2⟩
  ·exact tB b z zb
 ·have e2:=l.old b o e n;refine keep b o e2 fun hm=>?_;obtain⟨j,hj,rfl⟩:=List.mem_map.mp hm;obtain⟨s0,c0,e0,q0⟩:=hb j hj;rcases ((l.slot j s0 e0).boxed q0).2.2.2 with z | z
  ·exact n j z
  ·rw[z] at e;cases e
 ·obtain⟨g1,g2,g3⟩:=l.gh a ws ga;refine⟨keep a _ g1 fun hm=>?_,sB a g2,fun i s c e b=>?_⟩
  ·obtain⟨j,hj,q⟩:=List.mem_map.mp hm;obtain⟨s0,c0,e0,q0⟩:=hb j hj;exact g3 j s0 c0 e0 q0 q
  ·obtain⟨s0,c0,e0,q0⟩:=boxOld i s c e b;exact g3 i s0 c0 e0 q0
 ·by_cases z:i∈js
  ·obtain⟨s0,c0,e0,q0⟩:=hb i z;obtain⟨c,e1,_⟩:=cR nd ps z e0;rw[e0,e1];show (s0.box).isSome=((s0.put c).box).isSome;rw[q0,Sl.gL q0];rfl
  ·rw[d5 z]
theorem zx{F:Fx}{ad:Nat->Addr}{B:aK}{σ:St}{H:Hp}{μ:Mu}(l:Rl F ad B σ H μ)(ro:List Nat):∀ {md:List Bool} {xs:List V} {rs:List R} {args:List T},Paired (Hv F ad B H μ) xs rs->vZ μ md rs=some args->(∀ j∈gD md rs,j∈ro)->(∀ j∈fL md rs,j∉ro) ->
  (∀ j∈ro,∃ (s:Sl) (c:T),μ[j]?=some s/\s.box=some c) ->
  e_ F.K H (fun b=>B b/\∀ j∈ro,b≠ad j) md xs args/\jn md xs=(fL md rs).map ad/\∀ j∈fL md rs,∃ (s:Sl) (c:T),μ[j]?=some s/\s.box=some c:=by
 intro md
 induction md with
 | nil =>
  intro xs rs args p e _ _ _
  cases p with
  | nil=>cases e;exact⟨trivial,rfl,fun j h=>by cases h⟩
  | cons h p=>cases e
 | cons bb md ih =>
  intro xs rs args pp e h1 h2 h3
  cases pp with
  | nil=>cases bb<;>cases e
  | cons h p =>
   rename_i x r xs2 rs
   cases bb with
   | false =>
    unfold vZ at e
    split at e
    ·rename_i t ts e1 e2;cases e;have sub:∀ j∈gD md rs,j∈ro:=fun j hj=>h1 j (by cases r<;>first | exact hj | exact List.mem_cons_of_mem _ hj)
     obtain⟨g1,g2,g3⟩:=ih p e2 sub h2 h3;refine⟨⟨?_,g1⟩,?_,g3⟩
     ·cases r with
      | tr t' =>
       have e1':t'=t:=Option.some.inj e1;subst e1';exact (show Rep F.K H B x t' from h).fr (Fr.less fun _ z=>z.1)
      | br j =>
       obtain⟨rfl,s,c,q1,q2⟩:=h;have e1':(μ[j]?).bind Sl.box=some t:=e1;rw[q1] at e1';have bx:=((l.slot j s q1).boxed (c:=t) e1').2.2.1;exact (bx.of rfl (Fr.less fun _ z=>z.1)).rep fun z=>z.2 j (h1 j List.mem_cons_self) rfl
      | fr c=>exact h.elim
     ·show jn (false::md) (_::_)=_;rw[show fL (false::md) (r::rs)=fL md rs by cases r<;>rfl]
      exact g2
    ·cases e
   | true =>
    cases r with
    | tr t=>cases e
    | fr c=>cases e
    | br j =>
     unfold vZ at e
     split at e
     ·rename_i t ts e1 e2;cases e;obtain⟨g1,g2,g3⟩:=ih p e2 h1 (fun i hi=>h2 i (List.mem_cons_of_mem _ hi)) h3;obtain⟨rfl,s,c,q1,q2⟩:=h;have e1':(μ[j]?).bind Sl.box=some t:=e1;rw[q1] at e1';have bx:=(l.slot j s q1).boxed (c:=t) e1';refine⟨⟨⟨ad j,rfl,⟨bx.2.1,fun i hi z=>?_⟩,bx.2.2.1.of rfl (Fr.less fun _ z=>z.1)⟩,g1⟩,congrArg (ad j::·) g2,fun i hi=>?_⟩
      ·obtain⟨s',c',q3,q4⟩:=h3 i hi;have:=l.inj j i s s' t c' q1 q3 e1' q4 z;subst this;exact h2 j List.mem_cons_self hi
      ·rcases List.mem_cons.mp hi with z | z
       ·subst z;exact⟨s,t,q1,e1'⟩
       ·exact g3 i z
     ·cases e
theorem i9{F:Fx}{ad:Nat->Addr}{B:aK}{H:Hp}{μ:Mu}:∀ {md:List Bool} {xs:List V} {rs:List R},Paired (Hv F ad B H μ) xs rs->∀ j∈gD md rs,∃ (s:Sl) (c:T),μ[j]?=some s/\s.box=some c
 | [],_,_,_,j,h=>by cases h
 | b::md,_,_,.nil,j,h=>by cases b<;>cases h
 | b::md,_,r::rs,.cons h p,j,hj=>by
  cases b with
  | true=>exact i9 (md:=md) p j (by cases r<;>exact hj)
  | false =>
   cases r with
   | tr t=>exact i9 (md:=md) p j hj
   | fr c=>exact h.elim
   | br i =>
    rcases List.mem_cons.mp hj with z | z
    ·subst z;exact h.2
    ·exact i9 (md:=md) p j z
theorem Bx.flat{K:PySem.W.Frag}{H:Hp}{B B':aK}{a:Addr}{c:T}(h:Bx K H B a c)(f:fw c=true):Bx K H B' a c:=by
 rcases h.is with ⟨ts,vs,rfl,e,r⟩ | ⟨ks,ts,vs,rfl,e,l,r⟩
 ·exact⟨vs,e,r.flat f⟩
 ·exact⟨vs,e,l,r.flat f⟩
theorem Paired.mB{K:PySem.W.Frag}{H:Hp}{B B':aK}:∀ {as:List Addr} {outs:List T},Paired (Bx K H B) as outs->outs.all fw=true->Paired (Bx K H B') as outs
 | _,_,.nil,_=>.nil
 | _,_,.cons h p,f=>by
  rw[List.all_cons,Bool.and_eq_true] at f;exact .cons (h.flat f.1) (Paired.mB p f.2)
namespace Y
def za(md:List Bool)(tsp:fc)(us:UA):UE:=fun μ Q=>us μ fun rs μ1=>match vZ μ1 md rs with
 | some args=>(fL md rs).Nodup/\(∀ j∈fL md rs,j∉gD md rs)/\tsp args fun r outs=>(gD md rs=[]\/(fi r=true/\outs.all fw=true))/\Q r (putAll (fL md rs) outs μ1)
 | none=>False
theorem yT{K:PySem.W.Frag}{md:List Bool}{tsp:fc}{E:XK}{t:TA}{us:UA}(ha:RA K t us):RE K (eR (spT K md tsp) [] E t) (za md tsp us):=by
 intro F ad B σ H μ Q Qt hF l q k;refine ha F ad B σ H μ _ _ hF l q fun vs H1 rs μ1 l1 ps f1 k1 q1=>?_
 split at q1
 ·rename_i args ea;obtain⟨nd,dj,q1⟩:=q1;have hro:=i9 (md:=md) ps;obtain⟨ag,eb,hb⟩:=zx l1 (gD md rs) ps ea (fun j h=>h) dj hro;rw[hF] at ag;show spT K md tsp (vs++[]) H1 Q E;rw[List.append_nil];have inj:∀ {js:List Nat},js.Nodup->(∀ j∈js,∃ (s:Sl) (c:T),μ1[j]?=some s/\s.box=some c)->(js.map ad).Nodup:=fun {js}=>by
   induction js with
   | nil=>exact fun _ _=>List.nodup_nil
   | cons j js ih =>
    intro nd hb;rw[List.nodup_cons] at nd;rw[List.map_cons,List.nodup_cons];refine⟨fun hm=>?_,ih nd.2 fun i hi=>hb i (List.mem_cons_of_mem _ hi)⟩;obtain⟨i,hi,z⟩:=List.mem_map.mp hm;obtain⟨s1,c1,e1,b1⟩:=hb j List.mem_cons_self;obtain⟨s2,c2,e2,b2⟩:=hb i (List.mem_cons_of_mem _ hi);exact nd.1 (l1.inj i j s2 s1 c2 c1 e2 e1 b2 b1 z ▸ hi)
  refine⟨_,args,_,ag,fun b z=>l1.e9 b z.1,by rw[eb];exact inj nd hb,q1,fun v H2 r outs hq keep res=>?_⟩
  rw[eb] at keep res;obtain⟨hfl,hq⟩:=hq;have nro:∀ {b:Addr},gD md rs=[]->B b->B b/\∀ j∈gD md rs,b≠ad j:=fun {b} z h=>⟨h,fun j hj=>by rw[z] at hj;cases hj⟩
  cases r with
  | br i=>exact res.elim
  | tr t =>
   obtain⟨rv,po⟩:=res;have rv':Rep F.K H2 B v t:=by
    rw[hF];rcases hfl with z | z
    ·exact rv.fr (Fr.less fun b h=>nro z h)
    ·exact rv.flat z.1
   have po':Paired (Bx F.K H2 B) ((fL md rs).map ad) outs:=by
    rw[hF];rcases hfl with z | z
    ·exact Paired.mM po fun a c h=>h.of rfl (Fr.less fun b h=>nro z h)
    ·exact Paired.mB po z.2
   obtain⟨l2,k2,f2⟩:=l1.call hb nd keep (fun _ z=>z) (fun _ _ _ z=>z) (fun b z n=>absurd z n) po';exact k v H2 (.tr t) _ ⟨l2,rv'⟩ (f1.trans f2) (k1.trans k2) hq
  | fr c =>
   obtain⟨a,rfl,ha0,nBa,x,po⟩:=res;have nBa':¬ B a:=l1.jt ha0;have sub:gD md rs=[]->∀ b,more B a b->more (fun b=>B b/\∀ j∈gD md rs,b≠ad j) a b:=fun z b h=>h.imp id fun h=>nro z h;have x':Bx F.K H2 (more B a) a c:=by
    rw[hF];rcases hfl with z | z
    ·exact x.of rfl (Fr.less (sub z))
    ·exact x.flat z.1
   have po':Paired (Bx F.K H2 (more B a)) ((fL md rs).map ad) outs:=by
    rw[hF];rcases hfl with z | z
    ·exact Paired.mM po fun a' c h=>h.of rfl (Fr.less (sub z))
    ·exact Paired.mB po z.2
   have po2:Paired (Bx F.K H2 B) ((fL md rs).map ad) outs:=Paired.mM po' fun a' c h=>h.of rfl (Fr.less fun _ z=>.inr z);obtain⟨l2,k2,f2⟩:=l1.call hb nd keep (fun _ z=>z) (fun _ _ _ z=>z) (fun b z n=>absurd z n) po2;obtain⟨l3,_,f3⟩:=l1.call (B2:=more B a) hb nd keep (fun _ z=>.inr z) (fun b o e n z=>z.elim (fun z=>by rw[z,ha0] at e;cases e) n) (fun b z n=>z.elim (fun z=>by rw[z];exact x'.e9) fun z=>absurd z n) po'
   exact k _ H2 (.fr c) _ ⟨l2,a,rfl,nBa',l1.xO ha0,l3,x'⟩ (f1.trans f3) (k1.trans k2) hq
 ·exact q1.elim
section
variable {X:Cx} {e:Expr} {es:List Expr} {us:UA} {pos p:Pos} {x:Str} {k:Nat} {ps:List Str} {md:List Bool} {tsp:fc} {E:XK}
theorem fn(K:PySem.W.Frag)(hK:X.K=K)(F:ai X.prog X.w X.K X.mg X.base bT k x ps (spT K md tsp))(hr:bz k X.A)(hg:Gl X x)(hx:Passes bT X E)(ha:YA X (e::es) us)(h1:bY e=true:=by rfl)(h2:es.all bY=true:=by rfl)(hdb:(x ==("__debug__":Str))=false:=by decide):
  YE X (.Call (.Name x p) (e::es) [] pos) (za md tsp us):=by
 obtain⟨t,q,r⟩:=ha;subst hK;exact⟨_,Z.fn F hr hg hx q h1 h2 hdb,yT r⟩
end
end Y
def zW:fc:=fun args Q=>∃ ns:List Int,args=[.dc (ns.map T.int)]/\ns.length<=63/\Q (.tr (.bl true)) []
section
variable {prog:Program} {w:World} {A:Around} {E:Value->Shared->Prop} {s:Shared}
structure ZA (z TI TO i1 i2 l1 l2:Addr):Prop where
 a1:TI≠z
 a2:TO≠z
 a3:i1≠z
 a4:i2≠z
 a5:TO≠i1
 a6:TO≠i2
 a7:i1≠i2
 a8:l1≠z/\l1≠TO/\l1≠i1/\l1≠i2
 a9:l2≠z/\l2≠TO/\l2≠i1/\l2≠i2
 b1:TI≠TO/\TI≠i1/\TI≠i2
theorem ZA.f1{z TI TO i1 i2 l1 l2:Addr}(D:ZA z TI TO i1 i2 l1 l2){e:Addr}(he:e=z\/e=TO\/e=i2):∀ b∈[i1,l1],b≠e:=fun b hb=>by
 rcases List.mem_cons.mp hb with rfl | hb
 ·rcases he with rfl | rfl | rfl
  ·exact D.a3
  ·exact D.a5.symm
  ·exact D.a7
 ·have hb:b=l1:=by simpa using hb
  subst hb;rcases he with rfl | rfl | rfl
  ·exact D.a8.1
  ·exact D.a8.2.1
  ·exact D.a8.2.2.2
theorem ZA.f2{z TI TO i1 i2 l1 l2:Addr}(D:ZA z TI TO i1 i2 l1 l2){e:Addr}(he:e=z\/e=TO\/e=i1):∀ b∈[i2,l2],b≠e:=fun b hb=>by
 rcases List.mem_cons.mp hb with rfl | hb
 ·rcases he with rfl | rfl | rfl
  ·exact D.a4
  ·exact D.a6.symm
  ·exact D.a7.symm
 ·have hb:b=l2:=by simpa using hb
  subst hb;rcases he with rfl | rfl | rfl
  ·exact D.a9.1
  ·exact D.a9.2.1
  ·exact D.a9.2.2.1
theorem dC{it l:Addr}{n:Nat}{P:Nat->Value->Prop}{S:Nat->Heap->Prop}{A':Around}(D:Draws prog w A' it [it,l] n P S){i:Nat}{h h':Heap}{e:Addr}(st:S i h)(hs:Heap.ExtBut e h h')(ne:∀ b∈[it,l],b≠e):S i h':=D.frame i h h' st fun b hb o q=>hs b o (ne b hb) q
theorem q_{z TI TO i1 i2 l1 l2:Addr}{k n1 n2:Nat}{P1 P2:Nat->Value->Prop}{S1 S2:Nat->Heap->Prop}{a b:Value}{Q:Value->Shared->Prop}(D:ZA z TI TO i1 i2 l1 l2)(D1:Draws prog w A i1 [i1,l1] n1 P1 S1)(D2:Draws prog w A i2 [i2,l2] n2 P2 S2)
  (hz:IsZip s.heap z TI TO .none) (hTI:IsPair s.heap TI (.ref i1) (.ref i2)) (hTO:IsPair s.heap TO a b) (st1:S1 k s.heap) (dZ:S2 k s.heap) (hk1:k < n1) (hk2:k < n2)
  (hQ:∀ x y h' tk,P1 k x->P2 k y->IsZip h' z TI TO (rawInt s.heap.objs.size)->IsPair h' TO x y->S1 (k+1) h'->S2 (k+1) h'->IsPair h' s.heap.objs.size x y ->
   (∀ c o,c≠z->c≠TO->c≠i1->c≠i2->s.heap.get? c=some o->h'.get? c=some o)->Q (.ref s.heap.objs.size) { s with heap:=h',toks:=tk }) :
  wpAny (model prog w) A (Builtin.«zip.__next__» ⟨[.ref z],[]⟩) (fun fin s'=>∃ v,fin=.done (.ret v)/\Q v s') E s:=by
 have zrec:=hz;show wpAny _ _ (field (.ref z) 2 >>= _) _ _ _;refine wpAny_bind (wpAny_field zrec rfl (x:=.bool false) rfl ?_);show wpAny _ _ (field (.ref z) 3 >>= _) _ _ _;refine wpAny_bind (wpAny_field zrec rfl (x:=.ref TI) rfl ?_);have tirec:=hTI;refine wpAny_bind (wpAny_seqItems tirec rfl ?_);show wpAny _ _ (Builtin.SmallTypes.ownedTupleIsFree (.ref z) >>= _) _ _ _;refine wpAny_bind ?_;unfold Builtin.SmallTypes.ownedTupleIsFree;refine wpAny_bind (wpAny_field zrec rfl (x:=.none) rfl (wpAny_pure ?_));simp only[if_true];refine wpAny_bind (wpAny_rule ?_);refine wpAny_bind (wpAny_field zrec rfl (x:=.ref TO) rfl ?_);refine wpAny_bind (wpAny_setField_rec zrec (by simp) fun g1 zr1 sb1=>?_)
 replace zr1:IsZip g1 z TI TO .ellipsis:=zr1
 refine wpAny_bind ?_;simp only[List.zipIdx_cons,List.zipIdx_nil,List.forIn_cons,List.forIn_nil];refine wpAny_bind (wpAny_bind (wpAny_onRaise ?_));show wpAny _ _ (Builtin.SmallTypes.nextOf (.ref i1) >>= _) _ _ _;refine wpAny_bind (D1.item k _ _ _ hk1 (dC D1 st1 sb1.extBut (D.f1 (.inl rfl))) fun x g2 tk2 px st1b sb2=>wpAny_pure ?_);have to2:IsPair g2 TO a b:=sb2.extBut _ _ D.a5 (sb1.extBut _ _ D.a2 hTO);refine wpAny_bind (wpAny_seqItems to2 rfl ?_);refine wpAny_bind (wpAny_updateSeq_pair to2 fun g3 to3 sb3=>?_)
 replace to3:IsPair g3 TO x b:=to3
 refine wpAny_bind (wpAny_letGo (wpAny_pure ?_));refine wpAny_bind (wpAny_bind (wpAny_onRaise ?_));show wpAny _ _ (Builtin.SmallTypes.nextOf (.ref i2) >>= _) _ _ _;have st2c:S2 k g3:=dC D2 (dC D2 (dC D2 dZ sb1.extBut (D.f2 (.inl rfl))) sb2.extBut (D.f2 (.inr (.inr rfl)))) sb3.extBut (D.f2 (.inr (.inl rfl)));refine wpAny_bind (D2.item k _ _ _ hk2 st2c fun y g4 tk4 py st2d sb4=>wpAny_pure ?_);have to4:IsPair g4 TO x b:=sb4.extBut _ _ D.a6 to3;refine wpAny_bind (wpAny_seqItems to4 rfl ?_);refine wpAny_bind (wpAny_updateSeq_pair to4 fun g5 to5 sb5=>?_)
 replace to5:IsPair g5 TO x y:=to5
 refine wpAny_bind (wpAny_letGo (wpAny_pure (wpAny_pure ?_)));refine wpAny_bind (wpAny_seqItems to5 rfl ?_);refine wpAny_bind (wpAny_newTuple ?_);have size5:g5.objs.size=s.heap.objs.size:=by rw[sb5.1,sb4.1,sb3.1,sb2.1,sb1.1]
 have zr5:IsZip g5 z TI TO .ellipsis:=sb5.extBut _ _ D.a2.symm (sb4.extBut _ _ D.a4.symm (sb3.extBut _ _ D.a2.symm (sb2.extBut _ _ D.a3.symm zr1)));have keep5:∀ c o,c≠z->c≠TO->c≠i1->c≠i2->s.heap.get? c=some o->g5.get? c=some o:=fun c o e1 e2 e3 e4 q =>
  sb5.extBut _ _ e2 (sb4.extBut _ _ e4 (sb3.extBut _ _ e2 (sb2.extBut _ _ e3 (sb1.extBut _ _ e1 q))))
 have s1e:S1 (k+1) g5:=dC D1 (dC D1 (dC D1 st1b sb3.extBut (D.f1 (.inr (.inl rfl)))) sb4.extBut (D.f1 (.inr (.inr rfl)))) sb5.extBut (D.f1 (.inr (.inl rfl)));have s2e:S2 (k+1) g5:=dC D2 st2d sb5.extBut (D.f2 (.inr (.inl rfl)));have zlt:z < g5.objs.size:=Heap.lt_size zr5;show wpAny _ _ (Builtin.SmallTypes.ownedTupleHandOut (.ref z) (.ref g5.objs.size) >>= _) _ _ _;refine wpAny_bind ?_;unfold Builtin.SmallTypes.ownedTupleHandOut;have zr6:IsZip (g5.push { cls:=.type "tuple",data:=.seq #[x,y] }) z TI TO .ellipsis:=Heap.get?_push_of_some _ zr5;refine wpAny_bind (wpAny_setField_rec zr6 (by simp) fun g7 zr7 sb7=>?_)
 replace zr7:IsZip g7 z TI TO (rawInt g5.objs.size):=zr7
 refine wpAny_setField_rec zr7 (by simp) fun g8 zr8 sb8=>?_
 replace zr8:IsZip g8 z TI TO (rawInt g5.objs.size):=zr8
 have up:∀ c o,c≠z->g5.get? c=some o->g8.get? c=some o:=fun c o e1 q=>sb8.extBut _ _ e1 (sb7.extBut _ _ e1 (Heap.get?_push_of_some _ q));have pr8:IsPair g8 g5.objs.size x y:=sb8.extBut _ _ (Nat.ne_of_gt zlt) (sb7.extBut _ _ (Nat.ne_of_gt zlt) (Heap.get?_push_size _ rfl));rw[size5] at zr8 pr8;refine wpAny_pure ⟨_,rfl,?_⟩;show Q (.ref g5.objs.size) _;rw[size5];exact hQ x y g8 _ px py zr8 (up _ _ D.a2 to5) (D1.frame _ _ _ s1e fun b hb o q=>up b o (D.f1 (.inl rfl) b hb) q) (D2.frame _ _ _ s2e fun b hb o q=>up b o (D.f2 (.inl rfl) b hb) q) pr8 fun c o e1 e2 e3 e4 q=>up c o e1 (keep5 c o e1 e2 e3 e4 q)
theorem tY{z TI TO i1 i2 l1 l2:Addr}{k n1 n2:Nat}{P1 P2:Nat->Value->Prop}{S1 S2:Nat->Heap->Prop}{a b:Value}{Q:Fin->Shared->Prop}(D:ZA z TI TO i1 i2 l1 l2)(D1:Draws prog w A i1 [i1,l1] n1 P1 S1)(D2:Draws prog w A i2 [i2,l2] n2 P2 S2)
  (hz:IsZip s.heap z TI TO .none) (hTI:IsPair s.heap TI (.ref i1) (.ref i2)) (hTO:IsPair s.heap TO a b) (st1:S1 k s.heap) (dZ:S2 k s.heap) (hk:k=n1\/(k < n1/\k=n2))
  (hE:∀ h' e tk,(∀ c o,c≠z->c≠TO->c≠i1->c≠i2->s.heap.get? c=some o->h'.get? c=some o)->(∃ o,h'.get? e=some o/\o.cls=.type "StopIteration")->E (.ref e) { s with heap:=h',toks:=tk }) :
  wpAny (model prog w) A (Builtin.«zip.__next__» ⟨[.ref z],[]⟩) Q E s:=by
 have zrec:=hz;show wpAny _ _ (field (.ref z) 2 >>= _) _ _ _;refine wpAny_bind (wpAny_field zrec rfl (x:=.bool false) rfl ?_);show wpAny _ _ (field (.ref z) 3 >>= _) _ _ _;refine wpAny_bind (wpAny_field zrec rfl (x:=.ref TI) rfl ?_);have tirec:=hTI;refine wpAny_bind (wpAny_seqItems tirec rfl ?_);show wpAny _ _ (Builtin.SmallTypes.ownedTupleIsFree (.ref z) >>= _) _ _ _;refine wpAny_bind ?_;unfold Builtin.SmallTypes.ownedTupleIsFree;refine wpAny_bind (wpAny_field zrec rfl (x:=.none) rfl (wpAny_pure ?_));simp only[if_true];refine wpAny_bind (wpAny_rule ?_);refine wpAny_bind (wpAny_field zrec rfl (x:=.ref TO) rfl ?_);refine wpAny_bind (wpAny_setField_rec zrec (by simp) fun g1 zr1 sb1=>?_)
 replace zr1:IsZip g1 z TI TO .ellipsis:=zr1
 refine wpAny_bind ?_;simp only[List.zipIdx_cons,List.zipIdx_nil,List.forIn_cons,List.forIn_nil];refine wpAny_bind (wpAny_bind (wpAny_onRaise ?_));show wpAny _ _ (Builtin.SmallTypes.nextOf (.ref i1) >>= _) _ _ _;rcases hk with hk | ⟨hk1,hk2⟩
 ·subst hk;refine wpAny_bind (D1.done _ _ _ (dC D1 st1 sb1.extBut (D.f1 (.inl rfl))) fun g2 e sb2 he=>?_);obtain⟨oe,hoe,hce⟩:=he;have zr2:IsZip g2 z TI TO .ellipsis:=sb2 _ _ D.a3.symm zr1;have nez:e≠z:=fun q=>by subst q;rw[zr2] at hoe;cases hoe;simp at hce
  refine wpAny_setField_rec zr2 (by simp) fun g3 _ sb3=>hE g3 e _ (fun c o e1 _ e3 _ q=>sb3.extBut _ _ e1 (sb2 _ _ e3 (sb1.extBut _ _ e1 q))) ⟨oe,sb3.extBut _ _ nez hoe,hce⟩
 ·subst hk2;refine wpAny_bind (D1.item k _ _ _ hk1 (dC D1 st1 sb1.extBut (D.f1 (.inl rfl))) fun x g2 tk2 px st1b sb2=>wpAny_pure ?_);have to2:IsPair g2 TO a b:=sb2.extBut _ _ D.a5 (sb1.extBut _ _ D.a2 hTO);refine wpAny_bind (wpAny_seqItems to2 rfl ?_);refine wpAny_bind (wpAny_updateSeq_pair to2 fun g3 to3 sb3=>?_);refine wpAny_bind (wpAny_letGo (wpAny_pure ?_));refine wpAny_bind (wpAny_bind (wpAny_onRaise ?_));show wpAny _ _ (Builtin.SmallTypes.nextOf (.ref i2) >>= _) _ _ _;have st2c:S2 k g3:=dC D2 (dC D2 (dC D2 dZ sb1.extBut (D.f2 (.inl rfl))) sb2.extBut (D.f2 (.inr (.inr rfl)))) sb3.extBut (D.f2 (.inr (.inl rfl)));refine wpAny_bind (D2.done _ _ _ st2c fun g4 e sb4 he=>?_);obtain⟨oe,hoe,hce⟩:=he;have zr4:IsZip g4 z TI TO .ellipsis:=sb4 _ _ D.a4.symm (sb3.extBut _ _ D.a2.symm (sb2.extBut _ _ D.a3.symm zr1));have nez:e≠z:=fun q=>by subst q;rw[zr4] at hoe;cases hoe;simp at hce
  refine wpAny_setField_rec zr4 (by simp) fun g5 _ sb5=>hE g5 e _ (fun c o e1 e2 e3 e4 q=>sb5.extBut _ _ e1 (sb4 _ _ e4 (sb3.extBut _ _ e2 (sb2.extBut _ _ e3 (sb1.extBut _ _ e1 q))))) ⟨oe,sb5.extBut _ _ nez hoe,hce⟩
end
def lx(K:PySem.W.Frag)(k:Bool)(H:Hp)(a:Addr)(xs:List V):Prop:=if k=true then bA K H a xs else bj K H a xs
def gv(k:Bool)(h:Heap)(it a:Addr)(i:Nat):Prop:=if k=true then h.IsListIter it a i else h.IsTupleIter it a i
def gu(k:Bool)(h:Heap)(a:Addr)(items:Array Value):Prop:=if k=true then h.IsList a items else h.IsTuple a items
theorem gX{prog:Program}{w:World}{A:Around}(k:Bool)(hh:A.handled=none)(it l:Addr)(hne:l≠it)(items:Array Value):Draws prog w A it [it,l] items.size (fun i v=>items[i]?=some v) (fun i h=>gv k h it l i/\gu k h l items):=by
 cases k with
 | true=>exact Draws.list hh it l hne items
 | false=>exact fU hh it l hne items
theorem Inv.rN{X:Cx}{pins:List (Addr×Obj)}{σ:St}{H:Hp}{s:Shared}{k:Bool}{a:Addr}{xs:List V}(I:Inv X pins σ H s)(h:lx X.K k H a xs):∃ its:List Value,Vals xs its/\gu k s.heap a its.toArray:=by
 cases k with
 | true=>obtain⟨its,r,p,_⟩:=I.list h;exact⟨its,r,p.isList⟩
 | false=>obtain⟨its,r,p,_⟩:=I.tuple h;exact⟨its,r,p⟩
theorem Inv.mC{X:Cx}{pins:List (Addr×Obj)}{σ:St}{H:Hp}{s:Shared}{k:Bool}{a:Addr}{xs ys:List V}(I:Inv X pins σ H s)(h:lx X.K k H a xs)(h':lx X.K k H a ys):xs=ys:=by
 cases k with
 | true=>exact I.lM h h'
 | false=>exact I.gc h h'
def uP(K:PySem.W.Frag)(k1 k2:Bool)(a b:Addr):It:=
  ⟨fun i H=>∃ xs ys x y,lx K k1 H a xs/\lx K k2 H b ys/\xs[i]?=some x/\ys[i]?=some y,
   fun i H v H'=>∃ p x y,(∀ xs,lx K k1 H a xs->xs[i]?=some x)/\(∀ ys,lx K k2 H b ys->ys[i]?=some y)/\H p=none/\v=.ref p/\H'=upd H p (.tup [x,y]),
   fun i H=>∃ xs ys,lx K k1 H a xs/\lx K k2 H b ys/\i=min xs.length ys.length⟩
theorem gu.ty{k:Bool}{h:Heap}{a:Addr}{items:Array Value}(x:gu k h a items):∃ o,h.get? a=some o/\(o.cls=.type "list"\/o.cls=.type "tuple")/\∃ n,o.data=.seq items n:=by
 cases k with
 | true=>obtain⟨o,e,c,n,d⟩:=(show h.IsList a items from x);exact⟨o,e,.inl c,n,d⟩
 | false=>obtain⟨o,e,c,n,d⟩:=(show h.IsTuple a items from x);exact⟨o,e,.inr c,n,d⟩
theorem gv.ty{k:Bool}{h:Heap}{it a:Addr}{i:Nat}(x:gv k h it a i):∃ o,h.get? it=some o/\(o.cls=.type "list_iterator"\/o.cls=.type "tuple_iterator")/\o.data=.fields #[.ref a,.int i 0]:=by
 cases k with
 | true=>obtain⟨o,e,c,d⟩:=(show h.IsListIter it a i from x);exact⟨o,e,.inl c,d⟩
 | false=>obtain⟨o,e,c,d⟩:=(show h.IsTupleIter it a i from x);exact⟨o,e,.inr c,d⟩
def FV(k:Bool):String:=if k=true then "list_iterator" else "tuple_iterator"
noncomputable abbrev EM (h:Heap) (k1:Bool) (a:Addr):Heap:=h.push { cls:=.type (FV k1),data:=.fields #[.ref a,.int 0 0] }
noncomputable abbrev EH (h:Heap) (k1 k2:Bool) (a b:Addr):Heap:=(EM h k1 a).push { cls:=.type (FV k2),data:=.fields #[.ref b,.int 0 0] }
noncomputable abbrev EV (h:Heap) (k1 k2:Bool) (a b:Addr):Heap:=(EH h k1 k2 a b).push { cls:=.type "tuple",data:=.seq #[.ref h.objs.size,.ref (EM h k1 a).objs.size] }
noncomputable abbrev E4 (h:Heap) (k1 k2:Bool) (a b:Addr):Heap:=(EV h k1 k2 a b).push { cls:=.type "tuple",data:=.seq #[.none,.none] }
noncomputable abbrev Ck (h:Heap) (k1 k2:Bool) (a b:Addr):Heap:=(E4 h k1 k2 a b).push { cls:=.type "zip",data:=.fields #[.none,.bool false,.bool false,.ref (EH h k1 k2 a b).objs.size,.ref (EV h k1 k2 a b).objs.size] }
theorem lF{h:Heap}{a:Addr}{items:Array Value}(x:h.IsTuple a items)(o:Obj):(h.push o).IsTuple a items:=by
 obtain⟨ob,e,r⟩:=x;exact⟨ob,Heap.get?_push_of_some _ e,r⟩
theorem nA(k1 k2:Bool)(a b:Addr)(xs ys:Array Value):
  Meets (Builtin.«zip.__new__» ⟨[.type "zip",.ref a,.ref b],[]⟩) (fun _ R s=>gu k1 s.heap a xs/\gu k2 s.heap b ys /\
   R (.ok (.ret (.ref (E4 s.heap k1 k2 a b).objs.size))) { s with heap:=Ck s.heap k1 k2 a b }):=
 .of_wp fun prog w A R s h=>by
  obtain⟨hp,g,d,tk,os⟩:=s;obtain⟨q1,q2,h⟩:=h;have hsub:=sub_zip
  cases k1 with
  | true =>
   have w1:Heap.IsList (Shared.heap ⟨hp,g,d,tk,os⟩) a xs:=q1
   cases k2 with
   | true =>
    have w2:Heap.IsList (Shared.heap ⟨hp.push { cls:=.type "list_iterator",data:=.fields #[.ref a,.int 0 0] },g,d,tk,os⟩) b ys:=Heap.IsList.push q2 _;wp_walk using wpAny_pyIter_list w1,wpAny_pyIter_list w2;exact⟨_,rfl,h⟩
   | false =>
    have w2:Heap.IsTuple (Shared.heap ⟨hp.push { cls:=.type "list_iterator",data:=.fields #[.ref a,.int 0 0] },g,d,tk,os⟩) b ys:=lF q2 _;wp_walk using wpAny_pyIter_list w1,wpAny_pyIter_tuple w2;exact⟨_,rfl,h⟩
  | false =>
   have w1:Heap.IsTuple (Shared.heap ⟨hp,g,d,tk,os⟩) a xs:=q1
   cases k2 with
   | true =>
    have w2:Heap.IsList (Shared.heap ⟨hp.push { cls:=.type "tuple_iterator",data:=.fields #[.ref a,.int 0 0] },g,d,tk,os⟩) b ys:=Heap.IsList.push q2 _;wp_walk using wpAny_pyIter_tuple w1,wpAny_pyIter_list w2;exact⟨_,rfl,h⟩
   | false =>
    have w2:Heap.IsTuple (Shared.heap ⟨hp.push { cls:=.type "tuple_iterator",data:=.fields #[.ref a,.int 0 0] },g,d,tk,os⟩) b ys:=lF q2 _;wp_walk using wpAny_pyIter_tuple w1,wpAny_pyIter_tuple w2;exact⟨_,rfl,h⟩
theorem zh{k:Bool}{h:Heap}{it a:Addr}(e:h.get? it=some { cls:=.type (FV k),data:=.fields #[.ref a,.int 0 0] }):gv k h it a 0:=by
 cases k with
 | true=>exact⟨_,e,rfl,rfl⟩
 | false=>exact⟨_,e,rfl,rfl⟩
section
variable {prog:Program} {w:World} {A:Around} {E:Value->Shared->Prop} {s:Shared}
theorem rE{k1 k2:Bool}{a b:Addr}{xs ys:Array Value}{Q:Value->Shared->Prop}(h1:gu k1 s.heap a xs)(h2:gu k2 s.heap b ys)
  (h:∀ h',IsZip h' (s.heap.objs.size+4) (s.heap.objs.size+2) (s.heap.objs.size+3) .none->IsPair h' (s.heap.objs.size+2) (.ref s.heap.objs.size) (.ref (s.heap.objs.size+1))->IsPair h' (s.heap.objs.size+3) .none .none ->
   gv k1 h' s.heap.objs.size a 0->gv k2 h' (s.heap.objs.size+1) b 0->(∀ c o,s.heap.get? c=some o->h'.get? c=some o)->Q (.ref (s.heap.objs.size+4)) { s with heap:=h' }) :
  wpAny (model prog w) A (call (.type "zip") [.ref a,.ref b]) Q E s:=by
 refine callType_new F.called_zip (by decide) (F.typeCall_zip_2 _ _) (F.newCall_zip_2 _ _) (fun obj=>F.args_object_init_3 obj _ _) F.entry_zip_new (nA k1 k2 a b xs ys) ⟨h1,h2,?_⟩
 have e1:(EM s.heap k1 a).objs.size=s.heap.objs.size+1:=Heap.size_push ..;have e2:(EH s.heap k1 k2 a b).objs.size=s.heap.objs.size+2:=by rw[Heap.size_push,e1]
 have e3:(EV s.heap k1 k2 a b).objs.size=s.heap.objs.size+3:=by rw[Heap.size_push,e2]
 have e4:(E4 s.heap k1 k2 a b).objs.size=s.heap.objs.size+4:=by rw[Heap.size_push,e3]
 have p5:(Ck s.heap k1 k2 a b).get? (E4 s.heap k1 k2 a b).objs.size=some _:=Heap.get?_push_size _ rfl;have p4:(Ck s.heap k1 k2 a b).get? (EV s.heap k1 k2 a b).objs.size=some _:=Heap.get?_push_of_some _ (Heap.get?_push_size _ rfl);have p3:(Ck s.heap k1 k2 a b).get? (EH s.heap k1 k2 a b).objs.size=some _:=Heap.get?_push_of_some _ (Heap.get?_push_of_some _ (Heap.get?_push_size _ rfl));have p2:(Ck s.heap k1 k2 a b).get? (EM s.heap k1 a).objs.size=some _:=Heap.get?_push_of_some _ (Heap.get?_push_of_some _ (Heap.get?_push_of_some _ (Heap.get?_push_size _ rfl)));have p1:(Ck s.heap k1 k2 a b).get? s.heap.objs.size=some _:=Heap.get?_push_of_some _ (Heap.get?_push_of_some _ (Heap.get?_push_of_some _ (Heap.get?_push_of_some _ (Heap.get?_push_size _ rfl))));show _/\_;rw[e2,e3,e4] at p5;rw[e1,e2] at p3;rw[e3] at p4;rw[e1] at p2;rw[e4];exact⟨⟨_,p5,rfl⟩,h _ p5 p3 p4 (zh p1) (zh p2) fun c o x=>Heap.get?_push_of_some _ (Heap.get?_push_of_some _ (Heap.get?_push_of_some _ (Heap.get?_push_of_some _ (Heap.get?_push_of_some _ x))))⟩
end
theorem sk{P:Program}{w:World}{K:PySem.W.Frag}{es:List Expr}{tk:Nat}{tp:Pos}(k1 k2:Bool)(a b z TI TO i1 i2:Addr)(D:ZA z TI TO i1 i2 a b):
  Turn P w K (.Tuple es tk tp) (uP K k1 k2 a b) [z,TI,TO,i1,i2] z (fun i h=>IsZip h z TI TO .none/\IsPair h TI (.ref i1) (.ref i2)/\(∃ x y,IsPair h TO x y)/\gv k1 h i1 a i/\gv k2 h i2 b i) where
 mem:=by simp
 obj:=fun i h st c hc=>by
  obtain⟨s1,s2,⟨x,y,s3⟩,s4,s5⟩:=st;simp only[List.mem_cons,List.not_mem_nil,or_false] at hc;rcases hc with rfl | rfl | rfl | rfl | rfl
  ·exact⟨_,s1,fun v q=>by cases q⟩
  ·exact⟨_,s2,fun v q=>by cases q⟩
  ·exact⟨_,s3,fun v q=>by cases q⟩
  ·obtain⟨o,e,_,d⟩:=s4.ty;exact⟨o,e,fun v q=>by rw[d] at q;cases q⟩
  ·obtain⟨o,e,_,d⟩:=s5.ty;exact⟨o,e,fun v q=>by rw[d] at q;cases q⟩
 keep:=fun i h h' st k=>by
  obtain⟨s1,s2,⟨x,y,s3⟩,s4,s5⟩:=st;refine⟨k z (by simp) _ s1,k TI (by simp) _ s2,⟨x,y,k TO (by simp) _ s3⟩,?_,?_⟩
  ·cases k1 with
   | true=>obtain⟨o,e,r⟩:=(show h.IsListIter i1 a i from s4);exact⟨o,k i1 (by simp) o e,r⟩
   | false=>obtain⟨o,e,r⟩:=(show h.IsTupleIter i1 a i from s4);exact⟨o,k i1 (by simp) o e,r⟩
  ·cases k2 with
   | true=>obtain⟨o,e,r⟩:=(show h.IsListIter i2 b i from s5);exact⟨o,k i2 (by simp) o e,r⟩
   | false=>obtain⟨o,e,r⟩:=(show h.IsTupleIter i2 b i from s5);exact⟨o,k i2 (by simp) o e,r⟩
 item:=by
  intro X hP hw hK hc i pins s σ H E I hf st hg;subst hP hw hK;obtain⟨xs,ys,x,y,q1,q2,ex,ey⟩:=hg;obtain⟨s1,s2,⟨x0,y0,s3⟩,s4,s5⟩:=st;obtain⟨its1,rv1,p1⟩:=I.rN q1;obtain⟨its2,rv2,p2⟩:=I.rN q2;obtain⟨u1,hu1,ru1⟩:=rv1.get ex;obtain⟨u2,hu2,ru2⟩:=rv2.get ey;have lt1:i < its1.toArray.size:=by have:=(List.getElem?_eq_some_iff.mp hu1).1;simpa using this
  have lt2:i < its2.toArray.size:=by have:=(List.getElem?_eq_some_iff.mp hu2).1;simpa using this
  have hT:s.TypeIs (.ref z) "zip":=⟨_,s1,rfl⟩;have D1:=gX (prog:=X.prog) (w:=X.w) (A:=X.A.in1) k1 (I.ok.hd hc) i1 a D.a8.2.2.1 its1.toArray;have D2:=gX (prog:=X.prog) (w:=X.w) (A:=X.A.in1) k2 (I.ok.hd hc) i2 b D.a9.2.2.2 its2.toArray;unfold pyNext;refine wpAny_bind (wpAny_attempt (wpAny_callSpecial?_slot (name:=Str.ofString "__next__") hT PySem.F.slot_zip_next (wpAny_call_entry PySem.F.slot_zip_next hT PySem.F.entry_zip_next
   (q_ D D1 D2 s1 s2 s3 ⟨s4,p1⟩ ⟨s5,p2⟩ lt1 lt2 fun v1 v2 h' tk' px py z1 t1 w1 w2 pr kp=>wpAny_pure ?_) (PySem.F.args_zip_next_1 _))))
  have fr:H s.heap.objs.size=none:=I.aJ.fresh (Nat.le_refl _);have ev1:v1=u1:=by rw[List.getElem?_toArray,hu1] at px;exact (Option.some.inj px).symm
  have ev2:v2=u2:=by rw[List.getElem?_toArray,hu2] at py;exact (Option.some.inj py).symm
  subst ev1 ev2;have lt:∀ {c o},s.heap.get? c=some o->s.heap.objs.size≠c:=fun e=>Nat.ne_of_gt (Heap.lt_size e);refine⟨.ref s.heap.objs.size,rfl,wpAny_letOwnedTupleGo_zip z1 fun h2 z2 sb2=>?_⟩;have pr2:IsPair h2 s.heap.objs.size v1 v2:=sb2.extBut _ _ (lt s1) pr;have I2:Inv X pins σ (upd H s.heap.objs.size (.tup [x,y])) { s with heap:=h2,toks:=tk' }:=by
   refine I.pj (fp:=[z,TI,TO,i1,i2]) hf (Nat.le_refl _) (fun c o hcm ec=>?_) ⟨by show 2<=sizeLine;decide,[v1,v2],.cons ru1 (.cons ru2 .nil),⟨_,pr2,rfl,_,rfl,rfl⟩⟩
   simp only[List.mem_cons,List.not_mem_nil,or_false,not_or] at hcm;exact sb2.extBut _ _ hcm.1 (kp c o hcm.1 hcm.2.2.1 hcm.2.2.2.1 hcm.2.2.2.2 ec)
  refine⟨.ref s.heap.objs.size,_,I2,rfl,⟨s.heap.objs.size,x,y,fun zs hz=>by rw[I.mC hz q1];exact ex,fun zs hz=>by rw[I.mC hz q2];exact ey,fr,rfl,rfl⟩,⟨z2,?_,⟨v1,v2,?_⟩,?_,?_⟩,fun c hcm=>?_⟩
  ·exact sb2.extBut _ _ D.a1 (kp _ _ D.a1 D.b1.1 D.b1.2.1 D.b1.2.2 s2)
  ·exact sb2.extBut _ _ D.a2 t1
  ·have:=D1.frame (i+1) h' h2 w1 fun c hcm o q=>sb2.extBut _ _ (D.f1 (.inl rfl) c hcm) q;exact this.1
  ·have:=D2.frame (i+1) h' h2 w2 fun c hcm o q=>sb2.extBut _ _ (D.f2 (.inl rfl) c hcm) q;exact this.1
  ·have hn:=(hf c hcm).1;rw[ae]
   ·exact hn
   ·simp only[List.mem_cons,List.not_mem_nil,or_false] at hcm;rcases hcm with rfl | rfl | rfl | rfl | rfl
    ·exact (lt s1).symm
    ·exact (lt s2).symm
    ·exact (lt s3).symm
    ·obtain⟨o,e,_⟩:=s4.ty;exact (lt e).symm
    ·obtain⟨o,e,_⟩:=s5.ty;exact (lt e).symm
 done:=by
  intro X hP hw hK hc i pins s σ H E I hf st hg;subst hP hw hK;obtain⟨xs,ys,q1,q2,hi⟩:=hg;obtain⟨s1,s2,⟨x0,y0,s3⟩,s4,s5⟩:=st;obtain⟨its1,rv1,p1⟩:=I.rN q1;obtain⟨its2,rv2,p2⟩:=I.rN q2;have n1:its1.toArray.size=xs.length:=by rw[List.size_toArray];exact rv1.length.symm
  have n2:its2.toArray.size=ys.length:=by rw[List.size_toArray];exact rv2.length.symm
  have hT:s.TypeIs (.ref z) "zip":=⟨_,s1,rfl⟩;have D1:=gX (prog:=X.prog) (w:=X.w) (A:=X.A.in1) k1 (I.ok.hd hc) i1 a D.a8.2.2.1 its1.toArray;have D2:=gX (prog:=X.prog) (w:=X.w) (A:=X.A.in1) k2 (I.ok.hd hc) i2 b D.a9.2.2.2 its2.toArray;unfold pyNext;refine wpAny_bind (wpAny_attempt (wpAny_callSpecial?_slot (name:=Str.ofString "__next__") hT PySem.F.slot_zip_next (wpAny_call_entry PySem.F.slot_zip_next hT PySem.F.entry_zip_next
   (tY D D1 D2 s1 s2 s3 ⟨s4,p1⟩ ⟨s5,p2⟩ (by rw[n1,n2];lia) fun h' e tk' kp he=>?_) (PySem.F.args_zip_next_1 _))))
  obtain⟨o,ho,hcl⟩:=he;refine wpAny_bind (wpAny_isInstance (T:="StopIteration") (b:=true) ⟨o,ho,hcl⟩ isSubtype_stop (wpAny_pure ⟨rfl,?_⟩));refine I.turns (t':=tk') hf fun c o hcm ec=>?_;simp only[List.mem_cons,List.not_mem_nil,or_false,not_or] at hcm;exact kp c o hcm.1 hcm.2.2.1 hcm.2.2.2.1 hcm.2.2.2.2 ec
 self:=fun A i s Q E st h=>wpAny_pyIter_zip st.1 h
section
variable {X:Cx} {es:List Expr} {tk:Nat} {tp:Pos}
def lZ(K:PySem.W.Frag)(ta:TA):TI:=fun σ H R=>ta σ H fun vs H1=>∃ a b k1 k2,vs=[.ref a,.ref b]/\(∃ xs,lx K k1 H1 a xs)/\(∃ ys,lx K k2 H1 b ys)/\R (uP K k1 k2 a b) H1
theorem oF{e1 e2:Expr}{ta:TA}{p pos:Pos}(hg:Gl X "zip")(hm:X.mg "zip"=none)(ha:PA X [e1,e2] ta)(h1:bY e1=true:=by rfl)(h2:bY e2=true:=by rfl)(hv:bootBuiltins "zip"=some (.type "zip"):=by decide +kernel):
  PI X (.Tuple es tk tp) (.Call (.Name "zip" p) [e1,e2] [] pos) (lZ X.K ta):=by
 intro pins s σ H R I h;refine Call_ (eA I hg hm hv (PyProof.Rows.callWith_type1 (bJ (ha pos pins s σ H _ I h) fun us s1 ⟨vs,H1,I1,r1,q1⟩=>?_) (by rw[b_ h1,b_ h2]) (by rw[b_ h2];rfl)))
 obtain⟨a,b,k1,k2,e,⟨xs,hx⟩,⟨ys,hy⟩,q⟩:=q1;subst e;obtain⟨u,w',rfl,ru,rw'⟩:=vals2 r1
 cases ru;cases rw'
 obtain⟨its1,rv1,p1⟩:=I1.rN hx;obtain⟨its2,rv2,p2⟩:=I1.rN hy;obtain⟨o1,eo1,_⟩:=p1.ty;obtain⟨o2,eo2,_⟩:=p2.ty;have l1:a < s1.heap.objs.size:=Heap.lt_size eo1;have l2:b < s1.heap.objs.size:=Heap.lt_size eo2;refine rE p1 p2 fun h' z1 z2 z3 z4 z5 kp=>wpAny_pyIter_zip z1 ?_;have I2:Inv X pins σ H1 { s1 with heap:=h' }:=I1.kept (t':=s1.toks) kp
 have ne:∀ (m n c:Nat),m≠n->c+m≠c+n:=fun m n c h=>by lia
 have nl:∀ (x c m:Nat),x < c->x≠c+m:=fun x c m h=>by lia
 have D:ZA (s1.heap.objs.size+4) (s1.heap.objs.size+2) (s1.heap.objs.size+3) s1.heap.objs.size (s1.heap.objs.size+1) a b:=
  ⟨ne 2 4 _ (by decide),ne 3 4 _ (by decide),ne 0 4 _ (by decide),ne 1 4 _ (by decide),ne 3 0 _ (by decide),ne 3 1 _ (by decide),ne 0 1 _ (by decide),⟨nl _ _ 4 l1,nl _ _ 3 l1,nl _ _ 0 l1,nl _ _ 1 l1⟩,⟨nl _ _ 4 l2,nl _ _ 3 l2,nl _ _ 0 l2,nl _ _ 1 l2⟩,ne 2 3 _ (by decide),ne 2 0 _ (by decide),ne 2 1 _ (by decide)⟩
 refine⟨s1.heap.objs.size+4,[s1.heap.objs.size+4,s1.heap.objs.size+2,s1.heap.objs.size+3,s1.heap.objs.size,s1.heap.objs.size+1],_,_,H1,rfl,I2,sk k1 k2 a b _ _ _ _ _ D,⟨z1,z2,⟨_,_,z3⟩,z4,z5⟩,fun c hc=>?_,q⟩;have hc':s1.heap.objs.size<=c:=by
  simp only[List.mem_cons,List.not_mem_nil,or_false] at hc;rcases hc with rfl | rfl | rfl | rfl | rfl
  ·exact Nat.le_add_right _ _
  ·exact Nat.le_add_right _ _
  ·exact Nat.le_add_right _ _
  ·exact Nat.le_refl _
  ·exact Nat.le_add_right _ _
 exact I1.oo hc' (I1.aJ.fresh hc')
end
def ee(ts us:List T):List T:=List.zipWith (fun t u=>.tup [t,u]) ts us
def nk:T->Option (List T)
 | .lst ts=>some ts
 | .tup ts=>some ts
 | .dc ts=>some ts
 | .d9 ts=>some ts
 | _=>none
def kdOf:T->Bool
 | .lst _=>true
 | .dc _=>true
 | _=>false
theorem Vw.sq{K:PySem.W.Frag}{H:Hp}{B:aK}{v:V}{t:T}{ts:List T}(h:Vw K H B v t)(e:nk t=some ts):∃ a vs,v=.ref a/\lx K (kdOf t) H a vs/\aj K H B vs ts:=by
 cases h with
 | bf=>cases e
 | bl=>cases e
 | int=>cases e
 | str=>cases e
 | dh=>cases e
 | ly=>cases e
 | exc=>cases e
 | yc=>cases e
 | tup h r=>cases e;exact⟨_,_,rfl,bj.of h,r⟩
 | d9 h r=>cases e;exact⟨_,_,rfl,.inr h,r⟩
 | lst h r=>cases e;exact⟨_,_,rfl,bA.of h,r⟩
 | dc h r=>cases e;exact⟨_,_,rfl,h,r⟩
theorem BA{K:PySem.W.Frag}{k1 k2:Bool}{a b:Addr}{ts us:List T}:hJ K (uP K k1 k2 a b) (fun H B=>(∃ vs,lx K k1 H a vs/\aj K H B vs ts)/\∃ ws,lx K k2 H b ws/\aj K H B ws us) (ee ts us):=by
 refine⟨fun H B i t hb ⟨⟨vs,h1,r1⟩,ws,h2,r2⟩ e=>?_,fun H B ⟨⟨vs,h1,r1⟩,ws,h2,r2⟩=>⟨vs,ws,h1,h2,by rw[r1.length,r2.length];simp[ee]⟩⟩
 unfold ee at e;rw[List.getElem?_zipWith] at e
 cases e1:ts[i]? with
 | none=>rw[e1] at e;cases e
 | some t1=>cases e2:us[i]? with
  | none=>rw[e1,e2] at e;cases e
  | some t2 =>
   rw[e1,e2] at e;have e':T.tup [t1,t2]=t:=Option.some.inj e;subst e';obtain⟨v1,g1,rv1⟩:=r1.get e1;obtain⟨v2,g2,rv2⟩:=r2.get e2;refine⟨⟨vs,ws,v1,v2,h1,h2,g1,g2⟩,fun x H2 y=>?_⟩;obtain⟨p,x',y',hx,hy,hp,rfl,rfl⟩:=y;have z1:=hx vs h1;have z2:=hy ws h2;rw[g1] at z1;rw[g2] at z2
   cases z1;cases z2
   have fs:Fr B H B (upd H p (.tup [v1,v2])):=Fr.same (bC.new hp);refine⟨bC.new hp,.tup (fun z=>?_) af (.cons (rv1.fr fs) (.cons (rv2.fr fs) .nil))⟩;obtain⟨o,q⟩:=hb p z;rw[hp] at q;cases q
namespace Y
section
variable {X:Cx} {e1 e2:Expr} {es:List Expr} {us:UA} {pos p tp:Pos} {k:Nat}
def iZ(us:UA):UI:=fun μ Rt=>us μ fun rs μ'=>match rs with
 | [.tr t1,.tr t2]=>(match nk t1,nk t2 with
  | some ts,some vs=>Rt (ee ts vs) none μ'
  | _,_=>False)
 | _=>False
theorem zip(K:PySem.W.Frag)(hK:X.K=K)(hg:Gl X "zip")(hm:X.mg "zip"=none)(ha:YA X [e1,e2] us)(h1:bY e1=true:=by rfl)(h2:bY e2=true:=by rfl):YI X (.Tuple es k tp) (.Call (.Name "zip" p) [e1,e2] [] pos) (iZ us):=by
 obtain⟨t,q,r⟩:=ha;subst hK;refine⟨_,⟨oF hg hm q.h h1 h2⟩,fun F ad B σ H μ R Rt hF l q k=>r F ad B σ H μ _ _ hF l q fun vs H' rs μ' l1 ps f k1 q1=>?_⟩
 split at q1
 ·rename_i t1 t2
  cases ps with
  | cons h1 ps=>cases ps with
   | cons h2 ps =>
    cases ps;have r1:=bG h1;have r2:=bG h2
    split at q1
    ·rename_i ts us e1 e2;obtain⟨a,vs,rfl,s1,_⟩:=Vw.sq r1.vw e1;obtain⟨b,ws,rfl,s2,_⟩:=Vw.sq r2.vw e2;rw[hF] at s1 s2;refine⟨a,b,kdOf t1,kdOf t2,rfl,⟨vs,s1⟩,⟨ws,s2⟩,k _ H' μ' _ none (fun H B=>Rep F.K H B (.ref a) t1/\Rep F.K H B (.ref b) t2) l1 f k1 (BA.imp fun H B h=>?_) ⟨r1,r2⟩ (fun B1 H1 B2 H2 f h=>⟨h.1.fr f,h.2.fr f⟩) (fun j ls z=>by cases z) q1⟩
     obtain⟨g1,g2⟩:=h;obtain⟨a',vs',ea,sa,ra⟩:=Vw.sq g1.vw e1;obtain⟨b',ws',eb,sb,rb⟩:=Vw.sq g2.vw e2
     cases ea;cases eb
     rw[hF] at sa sb ra rb;exact⟨⟨vs',sa,ra⟩,ws',sb,rb⟩
    ·exact q1.elim
 ·exact q1.elim
end
end Y
theorem yk{P:Program}{w:World}{K:PySem.W.Frag}{mg:Str->Option Value}{base:Heap}{x:Str}{st:Stmt}{N ps:List Str}{k:Nat}{tsp:fc}{fa:Addr}{fd:FuncData}(F:wJ K x x st fa fd)(S:av N ps (aa st))(md:List Bool)(hm:md.length=ps.length)(hN:md.length<=N.length)
  (hbody:∀ (args:List T) (Qt:R->List T->Prop),args.length=ps.length->tsp args Qt->∀ (cdv:Value) (A:Around) (outer:List Env) (s:Shared) (H:Hp) (E:XK),bz k (A.deeper (envOfC x (aa st) s.heap.objs.size fa cdv)) ->
   ∃ us,YB (fh bT P w K mg base N x (aa st) fa cdv A outer s H E).xt (ao st) us/\us (uu md Qt) (startM md args N.length)):dg P w K mg base bT (k+1) fa fd ps (spT K md tsp):=by
 refine ya F S (fun vs H Q E h=>?_) (fun cdv A outer s H vs Q E hr h=>?_)
 ·obtain⟨B,args,Qt,ag,_⟩:=h;rw[ag.len.1,hm]
 ·obtain⟨B,args,Qt,ag,bh,nd,ht,fin⟩:=h;obtain⟨us,⟨t,q,r⟩,hu⟩:=hbody args Qt (by rw[ag.len.2,hm]) ht cdv A outer s H E hr
  refine⟨t,q,?_⟩;have l0:=h_ (N:=N) ag bh nd hN;have outs:∀ ad' B' σ' H' μ' (B2:aK),Rl (ji K H md vs B bh) ad' B' σ' H' μ'->(∀ b,B2 b->B' b)->Paired (Bx K H' B2) (jn md vs) (bL md 0 μ'):=fun ad' B' σ' H' μ' B2 l hB=>by
   refine k_ (ag.len.1) fun n e=>?_;obtain⟨v,t',e1,e2,q⟩:=ag.get e;rw[if_pos rfl] at q;obtain⟨a,rfl,_⟩:=q;obtain⟨⟨c,hc⟩,ha⟩:=l.par n a (kx e e1);have sl:=l.slot n _ hc;refine⟨a,c,e1,by rw[Nat.zero_add];exact hc,?_⟩
   rw[<- ha];exact (sl.2.2.2).of rfl (Fr.less hB)
  have keep:∀ ad' B' σ' H' μ',Rl (ji K H md vs B bh) ad' B' σ' H' μ'->∀ b o,H b=some o->b∉jn md vs->H' b=some o:=fun ad' B' σ' H' μ' l b o e n=>l.old b o e fun i z=>n (eI (eY z).1 (eY z).2);refine r (ji K H md vs B bh) _ _ (kc vs) B (start N vs) H _ rfl l0 hu ⟨fun ad' B' σ' H' μ' l _ q=>?_,fun ad' B' σ' H' μ' v rr h q=>?_,fun _ _ _ _ _ _ _ z=>z.elim,fun _ _ _ _ _ _ _ z=>z.elim⟩
  ·exact fin .bf H' (.tr .bf) _ q (keep _ _ _ _ _ l) ⟨.bf,outs _ _ _ _ _ _ l l.bc⟩
  ·cases rr with
   | tr t=>exact fin v H' (.tr t) _ q (keep _ _ _ _ _ h.1) ⟨(show Rep K H' B' v t from h.2).fr (Fr.less h.1.bc),outs _ _ _ _ _ _ h.1 h.1.bc⟩
   | fr c =>
    obtain⟨l,a,rfl,n,h0,l2,x⟩:=h;have sub:∀ b,more B a b->more B' a b:=fun b z=>z.imp id (l.bc b);exact fin _ H' (.fr c) _ q (keep _ _ _ _ _ l) ⟨a,rfl,h0,fun z=>n (l.bc a z),x.of rfl (Fr.less sub),outs _ _ _ _ _ _ l2 sub⟩
   | br i =>
    have q':(match μ'[i]? with | some (.bx c)=>Qt (.fr c) (bL md 0 μ') | _=>False):=q
    obtain⟨l,rfl,s',c',e1,e2⟩:=h
    split at q'
    ·rename_i c ec;have sl:=l.slot i _ ec;have sub:∀ b,more B (ad' i) b->B' b:=fun b z=>z.elim (fun z=>by rw[z];exact sl.2.1) (l.bc b)
     refine fin _ H' (.fr c) _ q' (keep _ _ _ _ _ l) ⟨ad' i,rfl,sl.2.2.1,fun z=>?_,(sl.2.2.2.2).of rfl (Fr.less sub),outs _ _ _ _ _ _ l sub⟩;obtain⟨o,e⟩:=bh _ z;have:H (ad' i)=none:=sl.2.2.1;rw[this] at e;cases e
    ·exact q'.elim
namespace Y
section
variable {X:Cx} {es:List Expr} {pos:Pos} {x:Str}
theorem tQ{t:T}(hg:Gl X x)(h:∃ w u,X.mg x=some u/\RelV w u/\∀ H B,Rep X.K H B w t)(hd:(x ==("__debug__":Str))=false:=by decide):YE X (.Name x pos) (uC t):=by
 obtain⟨w,u,hm,r,h⟩:=h;exact glob hg hm r h hd
def pz:List V->Option (List T)
 | []=>some []
 | v::vs=>match tu v,pz vs with
  | some t,some ts=>some (t::ts)
  | _,_=>none
theorem jy:∀ {vs:List V} {ts:List T},pz vs=some ts->vs.map tu=ts.map some
 | [],ts,h=>by cases h;rfl
 | v::vs,ts,h=>by
  unfold pz at h
  split at h
  ·rename_i t us e1 e2;cases h;rw[List.map_cons,List.map_cons,e1,jy e2]
  ·cases h
theorem kE{vs:List V}{ts:List T}(h:jx es=some vs)(h2:pz vs=some ts):YA X es (uK ts):=consts h (jy h2)
end
end Y
def stp(o:Option (Prop×R))(Q:R->Prop):Prop:=match o with
 | some (C,r)=>C/\Q r
 | none=>False
theorem tR(C:Prop)(r:R)(Q:R->Prop):stp (some (C,r)) Q=(C/\Q r):=rfl
def Dd(o:Option (List T×Option (Nat×List T)))(Q:List T->Option (Nat×List T)->Prop):Prop:=match o with
 | some (ts,g)=>Q ts g
 | none=>False
def nb:Option Sl->Prop
 | some (.pb _)=>False
 | _=>True
def sl:Option T->Sl
 | none=>.un
 | some t=>.tr t
def Aq(o:Option Sl)(i:Nat):Option (Prop×R):=match o with
 | some (.tr t)=>some (True,.tr t)
 | some (.bx _)=>some (True,.br i)
 | some (.pb _)=>some (True,.br i)
 | _=>none
def tO:R->Option Bool
 | .tr (.bl b)=>some b
 | .tr (.int i)=>some (i != 0)
 | _=>none
def AD(a b:Option T):Option (Prop×R):=match a,b with
 | some (.int i),some (.int j)=>some (True,.tr (.int (i+j)))
 | some (.str i),some (.str j)=>some (i.length+j.length<=sizeLine,.tr (.str (i++j)))
 | some (.lst xs),some (.lst ys)=>some (xs.length+ys.length<=sizeLine,.fr (.lst (xs++ys)))
 | some (.tup xs),some (.tup ys)=>some (xs.length+ys.length<=sizeLine,.tr (.tup (xs++ys)))
 | _,_=>none
def oT(o:Option T):Option (Prop×R):=match o with
 | some t=>some (True,.tr t)
 | none=>none
def Gi(a b:Option T):Option (Prop×R):=match a,b with
 | some (.lst xs),some (.int i)=>oT (bX xs i)
 | some (.tup xs),some (.int i)=>oT (bX xs i)
 | some (.d9 xs),some (.int i)=>oT (bX xs i)
 | some (.str z),some (.int i)=>(match bX z.cps.toList i with | some c=>some (z.length<=sizeLine,.tr (.str ⟨#[c]⟩)) | none=>none)
 | _,_=>none
def Ea(a:T):Option (Prop×R):=match a with
 | .lst xs=>some (True,.tr (.int xs.length))
 | .tup xs=>some (True,.tr (.int xs.length))
 | .dc xs=>some (True,.tr (.int xs.length))
 | .d9 xs=>some (True,.tr (.int xs.length))
 | .str z=>some (z.length<=sizeLine,.tr (.int z.length))
 | _=>none
def nu(a:Option T):Option (Prop×R):=match a with
 | some (.lst xs)=>some (True,.tr (.tup xs))
 | some (.tup xs)=>some (True,.tr (.tup xs))
 | _=>none
def yP(a:T):Option (Prop×R):=match a with
 | .lst xs=>some (True,.fr (.lst xs))
 | .tup xs=>some (True,.fr (.lst xs))
 | .dc xs=>some (True,.fr (.lst xs))
 | .dh lo hi=>some ((hi - lo).toNat<=65536/\-(2 ^ 62)<=lo/\lo < 2 ^ 62/\-(2 ^ 62)<=hi/\hi < 2 ^ 62,.fr (.lst ((List.range (hi - lo).toNat).map fun k=>T.int (lo+(k:Nat)))))
 | _=>none
def rV(a:Option T):Option (List T):=match a with
 | some (.tup ts)=>some ts
 | some (.lst ts)=>some ts
 | _=>none
def Bp(r:R)(μ:Mu):Option (List T×Option (Nat×List T)):=match r with
 | .br j=>(match cont μ (.br j) with | some (.lst ts)=>some (ts,some (j,ts)) | _=>none)
 | .tr (.lst ts)=>some (ts,none)
 | .fr (.lst ts)=>some (ts,none)
 | .tr (.tup ts)=>some (ts,none)
 | .tr (.dc ts)=>some (ts,none)
 | .tr (.d9 ts)=>some (ts,none)
 | _=>none
namespace A
open Y
theorem uC(t:T)(μ:Mu)(Q:R->Mu->Prop):Y.uC t μ Q=Q (.tr t) μ:=rfl
theorem jf(i:Nat)(μ:Mu)(Q:R->Mu->Prop):Y.jf i μ Q=stp (Aq μ[i]? i) fun r=>Q r μ:=by
 unfold Y.jf Aq
 cases μ[i]? with
 | none=>rfl
 | some s=>cases s<;>exact propext ⟨fun h=>by first | exact h | exact⟨trivial,h⟩,fun h=>by first | exact h | exact h.2⟩
theorem sE(u:U2)(ua ub:UE)(μ:Mu)(Q:R->Mu->Prop):Y.sE u ua ub μ Q=ua μ fun r1 μ1=>ub μ1 fun r2 μ2=>u r1.d r2.d μ2 Q:=rfl
theorem mD(ue:UE)(μ:Mu)(Q:Bool->Mu->Prop):Y.mD ue μ Q=ue μ fun r μ'=>match r with | .tr (.bl b)=>Q b μ' | _=>False:=rfl
theorem y6(ut:UT)(μ:Mu)(Q:Bool->Mu->Prop):Y.y6 ut μ Q=ut μ fun b μ'=>Q (!b) μ':=rfl
theorem wc(u w:UT)(μ:Mu)(Q:Bool->Mu->Prop):Y.wc u w μ Q=u μ fun b μ'=>if b=true then w μ' Q else Q false μ':=rfl
theorem E3(u w:UT)(μ:Mu)(Q:Bool->Mu->Prop):Y.E3 u w μ Q=u μ fun b μ'=>if b=true then Q true μ' else w μ' Q:=rfl
theorem mQ(ue:UE)(μ:Mu)(Q:Bool->Mu->Prop):Y.mQ ue μ Q=ue μ fun r μ'=>match tO r with | some b=>Q b μ' | none=>False:=by
 unfold Y.mQ tO;congr 1
 funext r μ'
 cases r with
 | tr t=>cases t<;>rfl
 | br i=>rfl
 | fr c=>rfl
theorem C3(ue:UE)(μ:Mu)(Q:R->Mu->Prop):Y.C3 ue μ Q=ue μ fun r μ'=>match r with | .tr (.int i)=>Q (.tr (.int (-i))) μ' | _=>False:=rfl
theorem mK(μ:Mu)(Q:List R->Mu->Prop):Y.mK μ Q=Q [] μ:=rfl
theorem eM(ue:UE)(us:UA)(μ:Mu)(Q:List R->Mu->Prop):Y.eM ue us μ Q=ue μ fun r μ1=>us μ1 fun rs μ2=>Q (r.d::rs) μ2:=rfl
theorem uK(ts:List T)(μ:Mu)(Q:List R->Mu->Prop):Y.uK ts μ Q=Q (ts.map R.tr) μ:=rfl
theorem vL(us:UA)(μ:Mu)(Q:R->Mu->Prop):Y.vL us μ Q=us μ fun rs μ'=>match trees rs with | some ts=>ts.length<=sizeLine/\Q (.tr (.tup ts)) μ' | none=>False:=rfl
theorem xf(us:UA)(μ:Mu)(Q:R->Mu->Prop):Y.xf us μ Q=us μ fun rs μ'=>match trees rs with | some ts=>ts.length<=sizeLine/\Q (.fr (.lst ts)) μ' | none=>False:=rfl
theorem zm(u:UC)(us:UA)(μ:Mu)(Q:R->Mu->Prop):Y.zm u us μ Q=us μ fun rs μ'=>u rs μ' Q:=rfl
theorem gO(μ:Mu)(Q:Option Int->Mu->Prop):Y.gO μ Q=Q none μ:=rfl
theorem qz(ue:UE)(μ:Mu)(Q:Option Int->Mu->Prop):Y.qz ue μ Q=ue μ fun r μ'=>match r with | .tr (.int i)=>Q (some i) μ' | _=>False:=rfl
theorem pY(f:T->T->Mu->(R->Mu->Prop)->Prop)(r1 r2:R)(μ:Mu)(Q:R->Mu->Prop):Y.pY f r1 r2 μ Q=(match cont μ r1,cont μ r2 with | some t,some u=>f t u μ Q | _,_=>False):=rfl
theorem D6(C:Int->Int->Prop)(g:Int->Int->Int)(i j:Int)(μ:Mu)(Q:R->Mu->Prop):wk C g (.int i) (.int j) μ Q=(C i j/\Q (.tr (.int (g i j))) μ):=rfl
theorem Gz(g:Int->Int->Bool)(i j:Int)(μ:Mu)(Q:R->Mu->Prop):EG g (.int i) (.int j) μ Q=Q (.tr (.bl (g i j))) μ:=rfl
theorem fq(r1 r2:R)(μ:Mu)(Q:R->Mu->Prop):Y.fq r1 r2 μ Q=stp (AD (cont μ r1) (cont μ r2)) fun r=>Q r μ:=by
 unfold Y.fq AD
 cases cont μ r1 with
 | none=>rfl
 | some t=>cases cont μ r2 with
  | none=>cases t<;>rfl
  | some u=>cases t<;>cases u<;>first | rfl | exact propext ⟨fun h=>⟨trivial,h⟩,fun h=>h.2⟩
theorem oi(r1 r2:R)(μ:Mu)(Q:R->Mu->Prop):Y.oi r1 r2 μ Q=stp (Gi (cont μ r1) (cont μ r2)) fun r=>Q r μ:=by
 unfold Y.oi Gi;have e:∀ (xs:List T) (i:Int),(match bX xs i with | some t=>Q (.tr t) μ | none=>False)=stp (oT (bX xs i)) fun r=>Q r μ:=fun xs i=>by
  cases bX xs i with
  | none=>rfl
  | some t=>exact propext ⟨fun h=>⟨trivial,h⟩,fun h=>h.2⟩
 cases cont μ r1 with
 | none=>rfl
 | some t=>cases cont μ r2 with
  | none=>cases t<;>rfl
  | some u =>
   cases t<;>cases u<;>first | rfl | exact e _ _ | skip
   rename_i z i;show (z.length<=sizeLine/\(match bX z.cps.toList i with | some c=>Q (.tr (.str ⟨#[c]⟩)) μ | none=>False))=stp (match bX z.cps.toList i with | some c=>some (z.length<=sizeLine,.tr (.str ⟨#[c]⟩)) | none=>none) fun r=>Q r μ
   cases bX z.cps.toList i with
   | none=>exact propext ⟨fun h=>h.2,fun h=>h.elim⟩
   | some c=>rfl
theorem Ex(neg:Bool)(i j:Int)(μ:Mu)(Q:R->Mu->Prop):Y.Cr neg (.int i) (.int j) μ Q=Q (.tr (.bl (if neg then !decide (i=j) else decide (i=j)))) μ:=rfl
theorem Ge(neg:Bool)(i j:Str)(μ:Mu)(Q:R->Mu->Prop):Y.Cr neg (.str i) (.str j) μ Q=Q (.tr (.bl (if neg then !decide (i=j) else decide (i=j)))) μ:=rfl
theorem sA(f:T->Mu->(R->Mu->Prop)->Prop)(r:R)(μ:Mu)(Q:R->Mu->Prop):Y.sA f [r] μ Q=(match cont μ r with | some t=>f t μ Q | none=>False):=rfl
theorem lU(t:T)(μ:Mu)(Q:R->Mu->Prop):Y.lU t μ Q=stp (Ea t) fun r=>Q r μ:=by
 cases t<;>first | rfl | exact propext ⟨fun h=>⟨trivial,h⟩,fun h=>h.2⟩
theorem du(r:R)(μ:Mu)(Q:R->Mu->Prop):Y.du [r] μ Q=stp (nu (cont μ r)) fun r=>Q r μ:=by
 show (match cont μ r with | some (.lst xs)=>Q (.tr (.tup xs)) μ | some (.tup xs)=>Q (.tr (.tup xs)) μ | _=>False)=_
 unfold nu
 cases cont μ r with
 | none=>rfl
 | some t=>cases t<;>first | rfl | exact propext ⟨fun h=>⟨trivial,h⟩,fun h=>h.2⟩
theorem lL(t:T)(μ:Mu)(Q:R->Mu->Prop):Y.lL t μ Q=stp (yP t) fun r=>Q r μ:=by
 cases t<;>first | rfl | exact propext ⟨fun h=>⟨trivial,h⟩,fun h=>h.2⟩ | exact propext ⟨fun h=>⟨⟨h.1,h.2.1,h.2.2.1,h.2.2.2.1,h.2.2.2.2.1⟩,h.2.2.2.2.2⟩,fun h=>⟨h.1.1,h.1.2.1,h.1.2.2.1,h.1.2.2.2.1,h.1.2.2.2.2,h.2⟩⟩
theorem xD(j:Int)(μ:Mu)(Q:R->Mu->Prop):Y.nR [.tr (.int j)] μ Q=Q (.tr (.dh 0 j)) μ:=rfl
theorem AN(g:Int->Int->Int)(i j:Int)(μ:Mu)(Q:R->Mu->Prop):Y.AN g [.tr (.int i),.tr (.int j)] μ Q=Q (.tr (.int (g i j))) μ:=rfl
theorem DF(k:Bool)(μ:Mu)(Q:R->Mu->Prop):Y.qB [.tr (.bl k)] μ Q=Q (.tr (.int (if k=true then 1 else 0))) μ:=rfl
theorem mj(ue:UE)(c:String)(μ:Mu)(Q:R->Mu->Prop):Y.mj ue c μ Q=ue μ fun r μ'=>match cont μ' r with | some t=>(match yv t c with | some b=>Q (.tr (.bl b)) μ' | none=>False) | none=>False:=rfl
theorem kq(ue:UE)(g:UG)(E:Ed)(μ:Mu):Y.kq ue g E μ=ue μ fun r μ'=>g r μ' E.nx:=rfl
theorem Hc(i:Nat)(t:T)(μ:Mu)(Q:Mu->Prop):Y.gN i (.tr t) μ Q=(sx μ i/\Q (μ.set i (.tr t))):=rfl
theorem GL(i:Nat)(t:T)(μ:Mu)(Q:Mu->Prop):Y.gN i (.fr t) μ Q=(sx μ i/\Q (μ.set i (.bx t))):=rfl
theorem sx(μ:Mu)(i:Nat):Y.sx μ i=nb μ[i]?:=rfl
theorem Dq(t:T):nb (some (.tr t))=True:=rfl
theorem Df(t:T):nb (some (.bx t))=True:=rfl
theorem Ek:nb (some .un)=True:=rfl
theorem CL(o:Option T):nb (some (sl o))=True:=by cases o<;>rfl
theorem gT(n:Nat)(gs:oW)(r:R)(μ:Mu)(Q:Mu->Prop):Y.gT n gs r μ Q=(match rV (cont μ r.d) with | some ts=>ts.length=n/\gs ts μ Q | none=>False):=by
 unfold Y.gT rV
 cases cont μ r.d with
 | none=>rfl
 | some t=>cases t<;>rfl
theorem EC(g:UG)(gs:oW)(t:T)(ts:List T)(μ:Mu)(Q:Mu->Prop):Y.EC g gs (t::ts) μ Q=g (.tr t) μ fun μ'=>gs ts μ' Q:=rfl
theorem EF(μ:Mu)(Q:Mu->Prop):Y.EF [] μ Q=Q μ:=rfl
theorem gS(uo ui:UE)(t:T)(μ:Mu)(Q:Mu->Prop):Y.gS uo ui (.tr t) μ Q=uo μ fun ro μ1=>ui μ1 fun ri μ2=>(match ro,ri with
  | .br j,.tr (.int k)=>(match (μ2[j]?).bind Sl.box with
   | some (.lst ts)=>(match kW ts.length k with
    | some n=>Q (cL μ2 j (.lst (ts.set n t)))
    | none=>False)
   | _=>False)
  | _,_=>False):=rfl
theorem xZ(ue:UE)(E:Ed)(μ:Mu):Y.xZ ue E μ=ue μ E.rt:=rfl
theorem jP(ue:UE)(E:Ed)(μ:Mu):Y.jP ue E μ=ue μ fun _ μ'=>E.nx μ':=rfl
theorem wa(c:UT)(u w:US)(E:Ed)(μ:Mu):Y.wa c u w E μ=c μ fun b μ'=>if b=true then u E μ' else w E μ':=rfl
theorem zl(ue:UE)(μ:Mu)(Rt:List T->Option (Nat×List T)->Mu->Prop):Y.zl ue μ Rt=ue μ fun r μ'=>Dd (Bp r μ') fun ts g=>Rt ts g μ':=by
 unfold Y.zl Bp;congr 1
 funext r μ'
 cases r with
 | tr t=>cases t<;>rfl
 | br j =>
  show (match cont μ' (.br j) with | some (.lst ts)=>Rt ts (some (j,ts)) μ' | _=>False)=Dd (match cont μ' (.br j) with | some (.lst ts)=>some (ts,some (j,ts)) | _=>none) fun ts g=>Rt ts g μ'
  cases cont μ' (.br j) with
  | none=>rfl
  | some t=>cases t<;>rfl
 | fr c=>cases c<;>rfl
theorem EN(us:UA)(μ:Mu)(Rt:List T->Option (Nat×List T)->Mu->Prop):Y.EN us μ Rt=us μ fun rs μ'=>match rs with
 | [.tr (.int j)]=>-(2 ^ 62)<=j/\j < 2 ^ 62/\Rt ((List.range j.toNat).map fun k=>T.int (0+(k:Nat))) none μ'
 | _=>False:=rfl
theorem EO(us:UA)(μ:Mu)(Rt:List T->Option (Nat×List T)->Mu->Prop):Y.EO us μ Rt=us μ fun rs μ'=>match rs with
 | [.tr (.int i),.tr (.int j)]=>(-(2 ^ 62)<=i/\i < 2 ^ 62/\-(2 ^ 62)<=j/\j < 2 ^ 62)/\Rt ((List.range (j - i).toNat).map fun k=>T.int (i+(k:Nat))) none μ'
 | _=>False:=rfl
theorem EB(us:UA)(μ:Mu)(Rt:List T->Option (Nat×List T)->Mu->Prop):Y.EB us μ Rt=us μ fun rs μ'=>match rs with | [.tr (.tup ts)]=>Rt (pairs ts) none μ' | _=>False:=rfl
theorem iZ(us:UA)(μ:Mu)(Rt:List T->Option (Nat×List T)->Mu->Prop):Y.iZ us μ Rt=us μ fun rs μ'=>match rs with
 | [.tr t1,.tr t2]=>(match nk t1,nk t2 with | some ts,some vs=>Rt (ee ts vs) none μ' | _,_=>False)
 | _=>False:=rfl
theorem uE(ui:UI)(g:UG)(body:US)(E:Ed)(μ:Mu):Y.uE ui g body E μ=ui μ fun items gd μ'=>match gd with
 | none=>dM g body E items μ'
 | some (j,_)=>(match μ'[j]? with
  | some (.bx c)=>dM g body E items (μ'.set j (.tr c))
  | _=>False):=rfl
theorem gA(own:T->Mu->Option Mu)(dr:Mu->Mu)(ui:UI)(ut:UT)(ue:UE)(μ:Mu)(Q:R->Mu->Prop):Y.gA own dr ui ut ue μ Q=ui μ fun items gd μ'=>mW gd own dr ut ue Q items [] μ':=rfl
theorem Cw(um:UM)(uo:UE)(us:UA)(μ:Mu)(Q:R->Mu->Prop):Y.Cw um uo us μ Q=uo μ fun ro μ1=>match ro with | .br j=>Y.D7 ((μ1[j]?).bind Sl.box) (us μ1 fun rs μ2=>um j rs μ2 Q) | _=>False:=rfl
theorem E1(ts:List T)(p:Prop):Y.D7 (some (.lst ts)) p=p:=rfl
theorem fA(j:Nat)(t:T)(μ:Mu)(Q:R->Mu->Prop):Y.fA j [.tr t] μ Q=(match (μ[j]?).bind Sl.box with | some (.lst ts)=>ts.length < sizeLine/\Q (.tr .bf) (cL μ j (.lst (ts++[t]))) | _=>False):=rfl
theorem za(md:List Bool)(tsp:fc)(us:UA)(μ:Mu)(Q:R->Mu->Prop):Y.za md tsp us μ Q=us μ fun rs μ1=>match vZ μ1 md rs with
 | some args=>(fL md rs).Nodup/\(∀ j∈fL md rs,j∉gD md rs)/\tsp args fun r outs=>(gD md rs=[]\/(fi r=true/\outs.all fw=true))/\Q r (putAll (fL md rs) outs μ1)
 | none=>False:=rfl
theorem G_(ts:List T):nk (.lst ts)=some ts:=rfl
theorem GK(ts:List T):nk (.tup ts)=some ts:=rfl
theorem FW(xs:List T):nu (some (.lst xs))=some (True,.tr (.tup xs)):=rfl
theorem FR(lo hi:Int):yP (.dh lo hi)=some ((hi - lo).toNat<=65536/\-(2 ^ 62)<=lo/\lo < 2 ^ 62/\-(2 ^ 62)<=hi/\hi < 2 ^ 62,.fr (.lst ((List.range (hi - lo).toNat).map fun k=>T.int (lo+(k:Nat))))):=rfl
theorem FQ(xs:List T):rV (some (.tup xs))=some xs:=rfl
theorem FU(xs:List T):rV (some (.lst xs))=some xs:=rfl
theorem CP(ts:List T)(μ:Mu):Bp (.fr (.lst ts)) μ=some (ts,none):=rfl
theorem Eo(ts:List T)(μ:Mu):Bp (.tr (.tup ts)) μ=some (ts,none):=rfl
theorem C7(ts:List T)(μ:Mu):Bp (.tr (.dc ts)) μ=some (ts,none):=rfl
theorem FT(μ:Mu)(t:T):cont μ (.tr t)=some t:=rfl
theorem Gb(μ:Mu)(i:Nat):cont μ (.br i)=(μ[i]?).bind Sl.box:=rfl
theorem Fs(t:T):R.d (.tr t)=.tr t:=rfl
theorem FK(t:T):R.d (.fr t)=.tr t:=rfl
theorem Gx(i:Nat):R.d (.br i)=.br i:=rfl
theorem G0(b:Bool):tO (.tr (.bl b))=some b:=rfl
end A
theorem bR{g:UG}{body:US}{E:Ed}(I:List T->Mu->Prop){items:List T}{μ:Mu}(h0:I items μ)(hn:∀ μ,I [] μ->E.nx μ)
  (hs:∀ t ts μ (N:Mu->Prop),I (t::ts) μ->(∀ μ',I ts μ'->N μ')->g (.tr t) μ fun μ1=>body { E with nx:=N,ct:=N,bk:=E.nx } μ1):Y.dM g body E items μ:=by
 induction items generalizing μ with
 | nil=>exact hn μ h0
 | cons t ts ih=>exact hs t ts μ _ h0 fun μ' h=>ih h
theorem dn{gd:Option (Nat×List T)}{own:T->Mu->Option Mu}{dr:Mu->Mu}{ut:UT}{ue:UE}{Q:R->Mu->Prop}(I:List T->List T->Mu->Prop){items acc:List T}{μ:Mu}(h0:I items acc μ)(hn:∀ acc μ,I [] acc μ->Y.CO gd μ/\Q (.fr (.lst acc)) μ)
  (hs:∀ t r acc μ (N:List T->Mu->Prop),I (t::r) acc μ->(∀ acc' μ',I r acc' μ'->N acc' μ')->Y.CO gd μ/\acc.length < sizeLine/\(match own t μ with
   | none=>False
   | some μ1=>ut μ1 fun b μ2=>if b=true then ue μ2 fun rr μ3=>(match rr.d with
     | .tr t'=>N (acc++[t']) (dr μ3)
     | _=>False) else N acc (dr μ2))):Y.mW gd own dr ut ue Q items acc μ:=by
 induction items generalizing μ acc with
 | nil=>exact hn acc μ h0
 | cons t ts ih=>exact hs t ts acc μ (fun a m=>Y.mW gd own dr ut ue Q ts a m) h0 fun a' μ' h=>ih h
def j5(K:PySem.W.Frag):Sp:=fun vs H Q _=>∃ (a:Addr) (ns:List Int),vs=[.ref a]/\bA K H a (ns.map V.int)/\ns.length<=63/\∀ H',Q (.bl true) H'
theorem cO{K:PySem.W.Frag}{H:Hp}{B:aK}:∀ ns:List Int,aj K H B (ns.map V.int) (ns.map T.int)
 | []=>.nil
 | n::ns=>.cons (.int n) (cO ns)
theorem Ah{P:Program}{w:World}{K:PySem.W.Frag}{mg:Str->Option Value}{base:Heap}{k:Nat}{fa:Addr}{fd:FuncData}{ps:List Str}(h:dg P w K mg base bT k fa fd ps (spT K [false] zW)):dg P w K mg base bT k fa fd ps (j5 K):=by
 refine h.imp fun vs H Q E ⟨a,ns,e,hs,hl,q⟩=>?_;subst e;refine⟨fun _=>False,[.dc (ns.map T.int)],fun r outs=>r=.tr (.bl true),⟨.dc ?_ (cO ns),trivial⟩,fun b z=>z.elim,List.nodup_nil,⟨ns,rfl,hl,rfl⟩,fun v H' r outs hr _ res=>?_⟩
 ·rcases hs with hs | hs
  ·exact .inl ⟨fun z=>z,hs⟩
  ·exact .inr hs
 ·subst hr;have rv:=res.1;cases rv;exact q H'
end L2
namespace L2
open PySem PySem.Spec PyProof.Rows
namespace Y
theorem zY{X:Cx}(hu:X.A.units < cLine):cJ X (compareOp .NotEq) (xR X.K true):=by
 intro pins s σ H x y v u Q I rx ry h;obtain⟨a,b,xs,ys,rfl,rfl,hq,fx,fy,q⟩:=h
 cases rx;cases ry
 have item:∀ (its its2:List Value),Vals xs its->Vals ys its2->∀ j (h1:j < its.toArray.size) (h2:j < its2.toArray.size),SeqAt.EqAt X.A.in1 s its.toArray[j] its2.toArray[j] (match xs[j]?,ys[j]? with | some x,some y=>qN x y | _,_=>true):=fun its its2 r1 r2 j h1 h2=>by
  have l1:=r1.length;have l2:=r2.length;rw[List.size_toArray] at h1 h2;obtain⟨u1,e1,g1⟩:=r1.get (i:=j) (x:=xs[j]) (List.getElem?_eq_getElem (by lia))
  obtain⟨u2,e2,g2⟩:=r2.get (i:=j) (x:=ys[j]) (List.getElem?_eq_getElem (by lia))
  rw[List.getElem?_eq_getElem (show j < xs.length by lia),List.getElem?_eq_getElem (show j < ys.length by lia)]
  have z1:its.toArray[j]=u1:=by
   rw[List.getElem?_eq_getElem h1] at e1;simpa using e1
  have z2:its2.toArray[j]=u2:=by
   rw[List.getElem?_eq_getElem h2] at e2;simpa using e2
  rw[z1,z2];exact kN g1 g2 (List.all_eq_true.mp fx _ (List.getElem_mem _)) (List.all_eq_true.mp fy _ (List.getElem_mem _))
 rcases hq with ⟨ha,hb⟩ | ⟨ha,hb⟩
 ·obtain⟨its,r1,p1,_⟩:=I.list ha;obtain⟨its2,r2,p2,_⟩:=I.list hb;have l1:=r1.length;have l2:=r2.length;by_cases e:xs.length=ys.length
  ·refine SeqAt.RcNeAt.lists p1.isList p2.isList (by rw[List.size_toArray,List.size_toArray];lia) hu (item its its2 r1 r2) X.prog X.w X.xe _ ⟨.bl _,H,I,rfl,q _ ?_⟩
   rw[List.size_toArray,<- l1,<- e,Nat.min_self,beq_self_eq_true,Bool.true_and]
   try rfl
  ·refine SeqAt.RcNeAt.lists_lengths p1.isList p2.isList (by rw[List.size_toArray,List.size_toArray,bne_iff_ne];lia) hu X.prog X.w X.xe _ ⟨.bl true,H,I,rfl,?_⟩
   exact q false (by rw[beq_eq_false_iff_ne.mpr e,Bool.false_and])
 ·obtain⟨its,r1,p1,_⟩:=I.tuple ha;obtain⟨its2,r2,p2,_⟩:=I.tuple hb;have l1:=r1.length;have l2:=r2.length;refine SeqAt.RcNeAt.tuples p1 p2 hu (item its its2 r1 r2) X.prog X.w X.xe _ ⟨.bl _,H,I,rfl,q _ ?_⟩;rw[List.size_toArray,List.size_toArray,<- l1,<- l2,Bool.and_comm]
  try rfl
def AZ(K:PySem.W.Frag):R2:=fun x y H Q=>GF x y H Q\/xR K true x y H Q
theorem n_{X:Cx}(K:PySem.W.Frag)(hK:X.K=K)(hu:X.A.units < cLine):cJ X (compareOp .NotEq) (AZ K):=by subst hK;exact CS.or (zY hu)
def Cz:T->T->Mu->(R->Mu->Prop)->Prop:=fun t u μ Q=>match t,u with
 | .int i,.int j=>Q (.tr (.bl (!decide (i=j)))) μ
 | .str i,.str j=>Q (.tr (.bl (!decide (i=j)))) μ
 | .bl i,.bl j=>Q (.tr (.bl (!decide (i=j)))) μ
 | .lst xs,.lst ys=>xs.all aT=true/\ys.all aT=true/\Q (.tr (.bl (!kL xs ys))) μ
 | .tup xs,.tup ys=>xs.all aT=true/\ys.all aT=true/\Q (.tr (.bl (!kL xs ys))) μ
 | _,_=>False
theorem vp{K:PySem.W.Frag}:jj K (AZ K) (pY Cz):=eg fun F ad B σ H μ Q Qt x y t u hK l v1 v2 q k=>by
 subst hK;unfold Cz at q
 split at q
 ·cases v1;cases v2
  refine .inl ⟨rfl,?_⟩;rw[dV (f:=V.int) (fun a b h=>by injection h)]
  exact k _ H _ (Vr.flat l (.bl _)) Fr.refl q
 ·cases v1;cases v2
  refine .inl ⟨rfl,?_⟩;rw[dV (f:=V.str) (fun a b h=>by injection h)]
  exact k _ H _ (Vr.flat l (.bl _)) Fr.refl q
 ·cases v1;cases v2
  refine .inl ⟨rfl,?_⟩;rw[dV (f:=V.bl) (fun a b h=>by injection h)]
  exact k _ H _ (Vr.flat l (.bl _)) Fr.refl q
 ·cases v1 with
  | lst ha ra=>cases v2 with
   | lst hb rb=>exact .inr ⟨_,_,_,_,rfl,rfl,.inl ⟨bA.of ha,bA.of hb⟩,bO ra q.1,bO rb q.2.1,fun c hc=>by
     rw[<- kQ ra rb q.1 q.2.1] at hc;subst hc;exact k _ H _ (Vr.flat l (.bl _)) Fr.refl q.2.2⟩
 ·cases v1 with
  | tup ha ra=>cases v2 with
   | tup hb rb=>exact .inr ⟨_,_,_,_,rfl,rfl,.inr ⟨bj.of ha,bj.of hb⟩,bO ra q.1,bO rb q.2.1,fun c hc=>by
     rw[<- kQ ra rb q.1 q.2.1] at hc;subst hc;exact k _ H _ (Vr.flat l (.bl _)) Fr.refl q.2.2⟩
 ·exact q.elim
theorem c_:fillsNumberSlot (.type "tuple") "mul"=pure false:=
 PySem.fillsNumberSlot_seq (id:="tuple.__mul__") (r:=some (.builtin "tuple.__rmul__")) PySem.F.slot_tuple_mul.lookup (by decide +kernel) PySem.F.slot_tuple_rmul.lookup (by decide +kernel)
theorem eU:seqRepeat? (.type "tuple")=pure (some (.builtin "tuple.__mul__")):=by
 unfold seqRepeat?;rw[PySem.seqSlot_of (T:="tuple") (name:="__mul__") (id:="tuple.__mul__") PySem.F.slot_tuple_mul.lookup (by decide +kernel),PySem.seqSlot_of (T:="tuple") (name:="__rmul__") (id:="tuple.__rmul__") PySem.F.slot_tuple_rmul.lookup (by decide +kernel)];rfl
theorem i7(a:Int)(t:Tok)(l:Addr)(ob:Obj)(items:Array Value)(n:Nat)(hc:ob.cls=.type "tuple")(hd:ob.data=.seq items n):
  Meets (Builtin.«int.__rmul__» ⟨[.int a t,.ref l],[]⟩) (fun _ R s=>s.heap.get? l=some ob/\R (.ok (.ret Value.notImplemented)) s):=
 .of_wp fun prog w A R s h=>by
  obtain⟨hp,g,d,tk,os⟩:=s;obtain⟨hl,h⟩:=h;obtain⟨c,dd,da,sl⟩:=ob;simp only at hc hd;subst hc hd
  wp_walk
  exact⟨_,rfl,h⟩
theorem xi(l:Addr)(items:Array Value)(ob:Obj)(n:Nat)(k:Int)(t:Tok)(hc:ob.cls=.type "tuple")(hd:ob.data=.seq items n)(hne:items.isEmpty=false)(h1:1 < k)(h2:k<=1000)(hsz:items.size<=1000):
  Meets (Builtin.«tuple.__mul__» ⟨[.ref l,.int k t],[]⟩) (fun _ R s=>s.heap.get? l=some ob/\R (.ok (.ret (.ref s.heap.objs.size))) { s with heap:=s.heap.push { cls:=.type "tuple",data:=.seq ((List.replicate k.toNat items).foldl (·++·) #[]) } }):=
 .of_wp fun prog w A R s h=>by
  obtain⟨hp,g,d,tk,os⟩:=s;obtain⟨hl,h⟩:=h;obtain⟨c,dd,da,sl⟩:=ob;simp only at hc hd;subst hc hd;have e1:(decide (k < -(2 ^ 63)) || decide (k >= 2 ^ 63))=false:=by rw[decide_eq_false (by lia),decide_eq_false (by lia)];rfl
  have e2:(items.isEmpty || k == 1)=false:=by rw[hne,beq_eq_false_iff_ne.mpr (by lia)];rfl
  have e3:(decide (k<=0) || items.isEmpty)=false:=by rw[hne,decide_eq_false (by lia)];rfl
  wp_walk using AutoSeq1.wpAny_loadPart' hl;rw[if_neg (by rw[e1];exact Bool.false_ne_true)]
  have ht:IsTup (Shared.heap ⟨hp,g,d,tk,os⟩) l items:=⟨_,hl,rfl,n,rfl⟩;show wpAny _ _ (Builtin.Tuple.tupleItemsOf (.ref l) >>= _) _ _ _;refine wpAny_bind (tupleItemsOf_ ht ?_);rw[if_neg (by rw[e2];exact Bool.false_ne_true)]
  show wpAny _ _ (if (decide (k<=0) || items.isEmpty)=true then _ else _) _ _ _
  rw[if_neg (by rw[e3];exact Bool.false_ne_true)]
  have hm:(items.size:Int)*k<=1000*1000:=Int.mul_le_mul (by lia) h2 (by lia) (by lia)
  show wpAny _ _ (if (items.size:Int)*k >(2 ^ 63 - 1) / 8 then _ else _) _ _ _
  rw[if_neg (by lia)]
  show wpAny _ _ (if Builtin.Tuple.tupleTooMany ((items.size:Int)*k)=true then _ else _) _ _ _
  have e4:Builtin.Tuple.tupleTooMany ((items.size:Int)*k)=false:=decide_eq_false (by
   have:((sizeLine:Nat):Int) >= 1000000:=by decide
   lia)
  rw[if_neg (by rw[e4];exact Bool.false_ne_true)]
  have hl2:((List.replicate k.toNat items).foldl (·++·) #[]).size<=sizeLine:=by
   have fs:∀ (m:Nat) (acc:Array Value),((List.replicate m items).foldl (·++·) acc).size=acc.size+m*items.size:=fun m=>by
    induction m with
    | zero=>intro acc;simp
    | succ m ih=>intro acc;rw[List.replicate_succ,List.foldl_cons,ih,Array.size_append,Nat.succ_mul];lia
   rw[fs];have h3:k.toNat*items.size<=1000*1000:=Nat.mul_le_mul (by lia) hsz
   have h4:(1000000:Nat)<=sizeLine:=by decide
   simp;lia
  exact wpAny_bind (m:=Builtin.Tuple.tupleExact _) (wpAny_newObj_type (wpAny_pure ⟨_,rfl,h⟩) hl2)
theorem qK(its:List Value):∀ (m:Nat) (acc:List Value),(List.replicate m its.toArray).foldl (·++·) acc.toArray=(acc++(List.replicate m its).flatten).toArray:=fun m acc=>foldl_rep its m acc
def yY(K:PySem.W.Frag):R2:=fun x y H Q=>∃ a k xs,x=.ref a/\y=.int k/\bj K H a xs/\xs≠[]/\xs.length<=1000/\1 < k/\k<=1000/\∀ p,H p=none->Q (.ref p) (upd H p (.tup (List.replicate k.toNat xs).flatten))
theorem x5{X:Cx}:cJ X (binaryOp .Mult) (yY X.K):=by
 intro pins s σ H x y v u Q I rx ry h;obtain⟨a,k,xs,rfl,rfl,hx,hne,hsz,h1,h2,q⟩:=h;cases rx;obtain⟨t,rfl⟩:=ry;obtain⟨its,r,p,hz⟩:=I.tuple hx;obtain⟨ob,ho,hc,n,hd⟩:=id p;have hlen:=r.length;have hemp:its.toArray.isEmpty=false:=by
  cases its with
  | nil=>cases r;exact absurd rfl hne
  | cons a b=>rfl
 refine wpAny_binaryOp_repeat_ref (T:="tuple") (U:="int") (by decide) ⟨_,ho,hc⟩ (fun s'=>typeIs_int s' k t) c_ PySem.F.fills_int_mul PySem.F.slot_int_rmul eU PySem.F.slot_int_index.lookup
  (call_meets PySem.F.slot_int_rmul (typeIs_int s k t) PySem.F.entry_int_rmul (PySem.F.args_int_rmul_2 _ _) (i7 k t a ob its.toArray n hc hd)
   ⟨ho,rfl,⟨_,ho,hc⟩,call_meets PySem.F.slot_tuple_mul ⟨_,ho,hc⟩ PySem.F.entry_tuple_mul (PySem.F.args_tuple_mul_2 _ _) (xi a its.toArray ob n k t hc hd hemp h1 h2 (by rw[List.size_toArray];lia)) ⟨ho,?_⟩⟩)
 have e0:=qK its k.toNat [];rw[List.nil_append] at e0;have e0':(List.replicate k.toNat its.toArray).foldl (·++·) #[]=(List.replicate k.toNat its).flatten.toArray:=e0;rw[e0'];refine⟨.ref s.heap.objs.size,_,I.laid (t':=s.toks) (o:=.tup (List.replicate k.toNat xs).flatten) (fun b ob q=>Heap.get?_push_of_some _ q) (Nat.le_refl _) ?_,rfl,q _ (I.aJ.fresh (Nat.le_refl _))⟩;refine⟨?_,_,r.rep k.toNat,cH.new _ _⟩;rw[len_rep];have h3:k.toNat*xs.length<=1000*1000:=Nat.mul_le_mul (by lia) hsz
 exact Nat.le_trans h3 (by decide)
def uw(K:PySem.W.Frag):R2:=fun x y H Q=>BN x y H Q\/yY K x y H Q
theorem b8{X:Cx}(K:PySem.W.Frag)(hK:X.K=K):cJ X (binaryOp .Mult) (uw K):=by subst hK;exact oY.or x5
def hG:U2:=fun r1 r2 μ Q=>match cont μ r1,cont μ r2 with
 | some (.int i),some (.int j)=>kX i j/\Q (.tr (.int (i*j))) μ
 | some (.lst xs),some (.int k)=>-(2 ^ 63)<=k/\k < 2 ^ 63/\xs.length*k.toNat<=sizeLine/\Q (.fr (.lst (List.replicate k.toNat xs).flatten)) μ
 | some (.tup xs),some (.int k)=>(xs≠[]/\xs.length<=1000/\1 < k/\k<=1000)/\Q (.tr (.tup (List.replicate k.toNat xs).flatten)) μ
 | _,_=>False
theorem bo{K:PySem.W.Frag}:jj K (uw K) hG:=by
 intro F ad B σ H μ Q Qt x y r1 r2 hK l h1 h2 q k;unfold hG at q
 split at q
 ·rename_i i j e1 e2;exact .inl (sX F ad B σ H μ Q Qt x y r1 r2 hK l h1 h2 (by unfold qj;rw[e1,e2];exact q) k)
 ·rename_i xs j e1 e2;exact .inl (sX F ad B σ H μ Q Qt x y r1 r2 hK l h1 h2 (by unfold qj;rw[e1,e2];exact q) k)
 ·rename_i xs j e1 e2;have a:=h1.vw l e1;have b:=h2.vw l e2;subst hK;cases b
  cases a with
  | tup ha ra =>
   refine .inr ⟨_,_,_,rfl,rfl,bj.of ha,?_,by rw[ra.length];exact q.1.2.1,q.1.2.2.1,q.1.2.2.2,fun p hp=>k _ _ _ μ (Vr.qV l (ra.rep _) hp) (Fr.same (bC.new hp)) (Kp.refl μ) q.2⟩
   rintro rfl;cases ra;exact q.1.1 rfl
 ·exact q.elim
end Y
namespace A
theorem AE(i j:Int)(μ:Mu)(Q:R->Mu->Prop):Y.hG (.tr (.int i)) (.tr (.int j)) μ Q=(kX i j/\Q (.tr (.int (i*j))) μ):=rfl
theorem Bh(xs:List T)(k:Int)(μ:Mu)(Q:R->Mu->Prop):Y.hG (.tr (.lst xs)) (.tr (.int k)) μ Q=(-(2 ^ 63)<=k/\k < 2 ^ 63/\xs.length*k.toNat<=sizeLine/\Q (.fr (.lst (List.replicate k.toNat xs).flatten)) μ):=rfl
theorem C0(i j:Int)(μ:Mu)(Q:R->Mu->Prop):Y.Cz (.int i) (.int j) μ Q=Q (.tr (.bl (!decide (i=j)))) μ:=rfl
theorem FX(xs ys:List T)(μ:Mu)(Q:R->Mu->Prop):Y.Cz (.lst xs) (.lst ys) μ Q=(xs.all aT=true/\ys.all aT=true/\Q (.tr (.bl (!Y.kL xs ys))) μ):=rfl
end A
section
variable {prog:Program} {w:World} {A:Around} {E:Value->Shared->Prop} {s:Shared}
end
section
variable {X:Cx} {e:Expr} {te:TE}
end
namespace Y
end Y
namespace A
end A
end L2
namespace L2
open PySem PySem.Spec PyProof PyProof.Rows
namespace Y
theorem dG:∀ {us:List Value} {ns:List Int},IntsAre us ns->Vals (ns.map V.int) us
 | _,_,.nil=>.nil
 | _,_,.cons n t h=>.cons ⟨t,rfl⟩ (dG h)
theorem iI:∀ {us:List Value} {ns:List Int},IntsAre us ns->us.length=ns.length
 | _,_,.nil=>rfl
 | _,_,.cons n t h=>by simp[iI h]
section
variable {prog:Program} {w:World} {A:Around} {E:Value->Shared->Prop} {s:Shared}
theorem me{l:Addr}{vs:List Value}{Q:List Value->Shared->Prop}(hl:IsTup s.heap l vs.toArray)(hsz:vs.length<=sizeLine)
  (h:Q vs { s with heap:=(s.heap.push (seqObj "list" #[] 0)).update s.heap.objs.size (Obj.mapSeq (·++vs.toArray)) }):wpAny (model prog w) A (collect (.ref l)) Q E s:=by
 obtain⟨o,ho,hc,n,hd⟩:=id hl;unfold collect;refine wpAny_bind (wpAny_runValue (codeAny_builtin entry_proto_collect' ?_));show wpAny _ _ (do again (.builtin "list.__iadd__" ⟨[<- newList [],.ref l],[]⟩)) _ _ s
 refine wpAny_bind (wpAny_newList (wpAny_pure ⟨Code.quiet_builtin _ (by decide +kernel),codeAny_builtin entry_list_iadd' ?_⟩))
 show wpAny _ _ (Builtin.List.listExtendWith (.ref s.heap.objs.size) (.ref l) (.ref s.heap.objs.size)) _ _ { s with heap:=s.heap.push (seqObj "list" #[] 0) }
 unfold Builtin.List.listExtendWith;have ho':(s.heap.push (seqObj "list" #[] 0)).get? l=some o:=Heap.get?_push_of_some _ ho;refine wpAny_bind (wpAny_typeOf (T:="tuple") ⟨o,ho',hc⟩ ?_);have ht:(Value.type "tuple" == Value.type "tuple")=true:=by rfl
 rw[if_pos (by rw[ht];simp)]
 refine wpAny_bind (listItems_at ho' hd ?_);refine wpAny_bind (listItems_at (xs:=#[]) (n:=0) (Heap.get?_push_size _ rfl) rfl ?_);rw[if_neg (by simp)]
 refine wpAny_bind (listUpdate_at (xs:=#[]) (n:=0) (Heap.get?_push_size _ rfl) rfl ?_ (Nat.zero_le _) (by show (#[]++vs.toArray).size<=sizeLine+1;simp only[Array.size_append,List.size_toArray,List.length_nil];lia))
 refine wpAny_pure ?_;show wpAny (model prog w) A (load s.heap.objs.size >>= _) Q E { s with heap:=(s.heap.push (seqObj "list" #[] 0)).update s.heap.objs.size (Obj.mapSeq (·++vs.toArray)) }
 refine wpAny_bind (wpAny_load (get?_update_seq (Heap.get?_push_size _ rfl) _) ?_);show wpAny _ _ (pure ((#[]:Array Value)++vs.toArray).toList) Q E _;rw[show ((#[]:Array Value)++vs.toArray).toList=vs by simp]
 exact wpAny_pure h
theorem oh{l:Addr}{vs:List Value}{ns:List Int}{Q:Value->Shared->Prop}(hl:IsTup s.heap l vs.toArray)(hI:IntsAre vs ns)(h64:vs.length < 64)
  (h:∀ (out:Array Value) (ns':List Int),IntsAre out.toList ns'->ns'.Perm ns->ns'.Pairwise (·<=·)->Q (.ref (s.heap.objs.size+1)) { s with heap:=sortedAll s.heap vs out }) :
  wpAny (model prog w) A (call (.builtin "sorted") [.ref l]) Q E s:=by
 have hz:vs.length<=sizeLine:=Nat.le_trans (Nat.le_of_lt h64) (by decide)
 refine Calls.call_function_entry kind_sorted plain_sorted entry_sorted (args_sorted1 _) ?_;unfold Builtin.«sorted»;refine wpAny_bind (m:=checkCount "sorted" 1 1 _) (wpAny_pure ?_);refine wpAny_bind (me hl hz ?_);refine wpAny_bind (wpAny_newList ?_ hz);have hs:((s.heap.push (seqObj "list" #[] 0)).update s.heap.objs.size (Obj.mapSeq (·++vs.toArray))).objs.size=s.heap.objs.size+1:=by rw[Heap.size_update,size_push']
 have ho:(((s.heap.push (seqObj "list" #[] 0)).update s.heap.objs.size (Obj.mapSeq (·++vs.toArray))).push (seqObj "list" vs.toArray 0)).get? (s.heap.objs.size+1)=some (seqObj "list" vs.toArray 0):=by
  rw[<- hs];exact Heap.get?_push_size _ rfl
 show wpAny _ _ _ _ _ { s with heap:=((s.heap.push (seqObj "list" #[] 0)).update s.heap.objs.size (Obj.mapSeq (·++vs.toArray))).push (seqObj "list" vs.toArray 0) }
 rw[hs];refine wpAny_bind (wpAny_holding (wpAny_call_entry slot_list_sort ⟨_,ho,rfl⟩ entry_list_sort (list_sort_tree ho hI h64 fun out ns' a1 a2 a3=>⟨_,rfl,?_⟩) (args_list_sort _)));exact wpAny_pure ⟨_,rfl,h out ns' a1 a2 a3⟩
end
def yV(K:PySem.W.Frag):List V->Hp->VK->Prop:=fun xs H Q=>∃ p ns,xs=[.ref p]/\bj K H p (ns.map V.int)/\ns.length < 64/\∀ ns':List Int,ns'.Perm ns->ns'.Pairwise (·<=·)->∀ l,H l=none->Q (.ref l) (upd H l (.lst (ns'.map V.int)))
theorem rM{X:Cx}(K:PySem.W.Frag)(hK:X.K=K):aV X (.builtin "sorted") (yV K):=by
 subst hK;intro pins s σ H xs us Q I r h;obtain⟨p,ns,rfl,hq,h64,q⟩:=h;obtain⟨u,rfl,ru⟩:=vals1 r;cases ru;obtain⟨its,rv,pl,hz⟩:=I.tuple hq;have hi:=intsAre_of rv;refine oh pl hi (by rw[iI hi];exact h64) fun out ns' a1 a2 a3=>?_
 obtain⟨e,he⟩:=sortedAll_at s.heap its out;refine⟨.ref (s.heap.objs.size+1),_,I.laid (t':=s.toks) (fun b ob q=>sortedAll_old q) (Nat.le_succ _) (show bp X.prog X.w _ _ _ (.lst (ns'.map V.int)) from⟨?_,out.toList,e,dG a1,by simpa using he⟩),rfl,q ns' a2 a3 _ (I.aJ.fresh (Nat.le_succ _))⟩
 rw[List.length_map,a2.length_eq];exact Nat.le_trans (Nat.le_of_lt h64) (by decide)
theorem cO{K:PySem.W.Frag}{H:Hp}{B:aK}:∀ ns:List Int,aj K H B (ns.map V.int) (ns.map T.int)
 | []=>.nil
 | n::ns=>.cons (.int _) (cO ns)
theorem d8{K:PySem.W.Frag}{H:Hp}{B:aK}:∀ {ns:List Int} {vs:List V},aj K H B vs (ns.map T.int)->vs=ns.map V.int
 | [],_,.nil=>rfl
 | n::ns,_,.cons h r=>by cases h;rw[d8 r];rfl
def Dy(K:PySem.W.Frag):List V->Hp->VK->Prop:=fun xs H Q=>∃ (p:Addr) (ns:List Int),xs=[.ref p]/\bA K H p (ns.map V.int)/\Q (.int ns.sum) H
theorem jI{X:Cx}(K:PySem.W.Frag)(hK:X.K=K)(hc:X.calm=true):aV X (.builtin "sum") (Dy K):=by subst hK;exact qJ hc
def Cg:T->Mu->(R->Mu->Prop)->Prop:=fun t μ Q=>match t with
 | .lst xs=>∃ ns:List Int,xs=ns.map T.int/\Q (.tr (.int ns.sum)) μ
 | _=>False
theorem vd{K:PySem.W.Frag}:RC K (Dy K) (sA Cg):=ig fun F ad B σ H μ Q Qt x t hK l v1 q k=>by
 subst hK;unfold Cg at q
 split at q
 ·obtain⟨ns,rfl,q⟩:=q
  cases v1 with
  | lst ha ra=>exact⟨_,ns,rfl,by rw[<- d8 ra];exact bA.of ha,k _ _ _ (Vr.flat l (.int _)) Fr.refl q⟩
 ·exact q.elim
def Dp(i j:Int):Prop:=0 < j/\j < 4611686018427387904
theorem dv{X:Cx}:cJ X (binaryOp .FloorDiv) (rI Dp fun i j=>.int (i / j)):=E6 fun i j _ _ _ _ _ hc q=>by
 have h1:(0:Int) < j:=hc.1;have h2:j < 4611686018427387904:=hc.2;exact floordiv_int (by lia) (by rw[Int.fdiv_eq_ediv_of_nonneg i (by lia)];exact q) (.inl (PyProof.noPylong_of_log2 (Nat.lt_trans ((Nat.log2_lt (k:=62) (by lia)).mpr (by lia)) (by decide))))
end Y
namespace A
theorem CT(xs:List T)(μ:Mu)(Q:R->Mu->Prop):Y.Cg (.lst xs) μ Q=(∃ ns:List Int,xs=ns.map T.int/\Q (.tr (.int ns.sum)) μ):=rfl
end A
namespace Y
section
variable {prog:Program} {w:World} {A:Around} {E:Value->Shared->Prop} {s:Shared}
end
theorem jH{K:PySem.W.Frag}{H:Hp}{B:aK}:∀ ns:List Str,aj K H B (ns.map V.str) (ns.map T.str)
 | []=>.nil
 | n::ns=>.cons (.str _) (jH ns)
theorem fW{K:PySem.W.Frag}{H:Hp}{B:aK}:∀ {ns:List Str} {vs:List V},aj K H B vs (ns.map T.str)->vs=ns.map V.str
 | [],_,.nil=>rfl
 | n::ns,_,.cons h r=>by cases h;rw[fW r];rfl
noncomputable abbrev CB:=Str->List R->Mu->(R->Mu->Prop)->Prop
def ER(um:CB)(uo:UE)(us:UA):UE:=fun μ Q=>uo μ fun ro μ1=>match ro with
 | .tr (.str z)=>us μ1 fun rs μ2=>um z rs μ2 Q
 | _=>False
def G8(K:PySem.W.Frag)(r:V->List V->Hp->VK->Prop)(um:CB):Prop:=∀ (F:Fx) (ad:Nat->Addr) (B:aK) (σ:St) (H:Hp) (μ:Mu) (Q:VK) (Qt:R->Mu->Prop) (z:Str) (xs:List V) (rs:List R),F.K=K->Rl F ad B σ H μ->Paired (Hv F ad B H μ) xs rs->um z rs μ Qt ->
 (∀ v H' r μ',Vr F ad B σ H' μ' v r->Fr B H (Bv B v r) H'->Kp μ μ'->Qt r μ'->Q v H')->r (.str z) xs H Q
theorem sm{X:Cx}{o e:Expr}{es:List Expr}{uo:UE}{us:UA}{apos pos:Pos}(K:PySem.W.Frag)(hK:X.K=K){name:Str}{id:String}{r:V->List V->Hp->VK->Prop}{um:CB}(slot:Slot "str" name id)(hty:typeOf (.builtin id)=pure (.type "method_descriptor"))(hm:wH X id r)(hr:G8 X.K r um)(ho:YE X o uo)(ha:YA X (e::es) us)
  (hbase:attributeBase o name X.env (eval o X.env)=eval o X.env:=by rfl) (hline:(apos.endLine == pos.line)=true:=by rfl) (h:(e::es).all bY=true:=by rfl) (hl:(e::es).length < 30:=by decide):YE X (.Call (.Attribute o name apos) (e::es) [] pos) (ER um uo us):=by
 obtain⟨t,q,rr⟩:=ho;obtain⟨t',q',r'⟩:=ha;refine⟨_,Z.bm K hK PySem.F.plainAttrs_str slot hty hm q q' hbase hline h hl,fun F ad B σ H μ Q Qt hF l q k=>rr F ad B σ H μ _ _ hF l q fun v H1 r1 μ1 v1 f1 k1 q1=>?_⟩
 split at q1
 ·rename_i z;obtain⟨l1,rp⟩:=v1;cases rp;refine⟨rfl,?_⟩;refine r' F ad B σ H1 μ1 _ _ hF l1 q1 fun xs H2 rs μ2 l2 ps f2 k2 q2=>?_;exact hr F ad B σ H2 μ2 _ _ z xs rs hF l2 ps q2 fun v H3 r3 μ3 v3 f3 k3 q3=>k v H3 r3 μ3 v3 ((f1.d.trans f2).trans f3) ((k1.trans k2).trans k3) q3
 ·exact q1.elim
end Y
namespace A
end A
namespace Y
theorem wB(l:List Nat):∀ (n a:Nat),((List.range n).map (fun k=>a+k)).filterMap (l[·]?)=(l.drop a).take n
 | 0,_=>by simp
 | n+1,a=>by
  rw[List.range_succ,List.map_append,List.filterMap_append,wB l n a,List.take_add_one,List.getElem?_drop]
  cases h:l[a+n]?<;>simp[h]
theorem lH(lo hi:Option Int)(n:Nat):Builtin.Str.strSliceIndices lo hi 1 n=(List.range (HT.b7 n n hi - HT.b7 n 0 lo)).map (fun k=>HT.b7 n 0 lo+k):=by
 have ea:∀ (v:Int),max 0 (min (if v < 0 then v+(n:Int) else v) (n:Int))=(((if v < 0 then (v+(n:Int)).toNat else min v.toNat n):Nat):Int):=by
  intro v;split<;>lia
 have e:Builtin.Str.strSliceIndices lo hi 1 n=sliceRange (HT.b7 n 0 lo) (HT.b7 n n hi) 1:=by
  cases lo with
  | none=>cases hi with
   | none=>rfl
   | some j=>show sliceRange 0 (max 0 (min (if j < 0 then j+(n:Int) else j) (n:Int))) 1=_;rw[ea];rfl
  | some i=>cases hi with
   | none=>show sliceRange (max 0 (min (if i < 0 then i+(n:Int) else i) (n:Int))) n 1=_;rw[ea];rfl
   | some j=>show sliceRange (max 0 (min (if i < 0 then i+(n:Int) else i) (n:Int))) (max 0 (min (if j < 0 then j+(n:Int) else j) (n:Int))) 1=_;rw[ea,ea];rfl
 rw[e];generalize HT.b7 n 0 lo=a;generalize HT.b7 n n hi=b;unfold sliceRange;simp only[show ((1:Int) > 0)=True from by simp,if_true,Int.one_mul]
 have c:(if (a:Int) < (b:Int) then ((b:Int) - a+1 - 1) / 1 else 0).toNat=b - a:=by split<;>lia
 rw[c];refine List.map_congr_left fun k _=>?_;lia
theorem og(z:Str)(lo hi:Option Int):Txt.slice z lo hi=⟨((z.cps.toList.drop (HT.b7 z.cps.toList.length 0 lo)).take (HT.b7 z.cps.toList.length z.cps.toList.length hi - HT.b7 z.cps.toList.length 0 lo)).toArray⟩:=by
 have hl:z.cps.toList.length=z.length:=Array.length_toList;rw[hl];have hp:(Builtin.Str.strSliceIndices lo hi 1 z.length).filterMap (z.cps[·]?)=(z.cps.toList.drop (HT.b7 z.length 0 lo)).take (HT.b7 z.length z.length hi - HT.b7 z.length 0 lo):=by
  rw[lH];have:=wB z.cps.toList (HT.b7 z.length z.length hi - HT.b7 z.length 0 lo) (HT.b7 z.length 0 lo)
  simpa using this
 unfold Txt.slice;split
 ·rename_i h;rw[lH] at h;simp at h;have h2:=HT.mV z.length z.length (Nat.le_refl _) hi;have h3:=HT.mV z.length 0 (Nat.zero_le _) lo;have a0:HT.b7 z.length 0 lo=0:=by lia
  have b0:HT.b7 z.length z.length hi=z.length:=by lia
  rw[a0,b0,List.drop_zero,Nat.sub_zero,<- hl,List.take_length]
 ·rw[hp]
def yJ(z:Str)(lo hi:Option Int):Str:=⟨(cq z.cps.toList lo hi).toArray⟩
theorem rF(z:Str)(lo hi:Option Int):Txt.slice z lo hi=yJ z lo hi:=og z lo hi
def Dt:V->Option Int->Option Int->Hp->VK->Prop:=fun x lo hi H Q=>∃ z,x=.str z/\z.length<=sizeLine/\Q (.str (yJ z lo hi)) H
theorem AU{X:Cx}:su X Dt:=by
 intro pins s σ H x v vl vu lo hi sl Q I rx hs pl pu h;obtain⟨z,rfl,hz,q⟩:=h;rw[<- rF] at q;obtain⟨t,rfl⟩:=rx;refine⟨"str",_,PySem.F.slot_str_getitem.lookup,typeIs_str _ _ _,?_⟩
 cases pl<;>cases pu
 ·exact wpAny_getItem_str_slice (l:=none) (u:=none) (st:=none) hs rfl (post_val_or_str ⟨Nat.le_trans (Txt.slice_le z _ _) hz,fun t' k=>⟨.str _,H,I.tok _,⟨_,rfl⟩,q⟩⟩)
 ·exact wpAny_getItem_str_slice (l:=none) (u:=some (_,_)) (st:=none) hs rfl (post_val_or_str ⟨Nat.le_trans (Txt.slice_le z _ _) hz,fun t' k=>⟨.str _,H,I.tok _,⟨_,rfl⟩,q⟩⟩)
 ·exact wpAny_getItem_str_slice (l:=some (_,_)) (u:=none) (st:=none) hs rfl (post_val_or_str ⟨Nat.le_trans (Txt.slice_le z _ _) hz,fun t' k=>⟨.str _,H,I.tok _,⟨_,rfl⟩,q⟩⟩)
 ·exact wpAny_getItem_str_slice (l:=some (_,_)) (u:=some (_,_)) (st:=none) hs rfl (post_val_or_str ⟨Nat.le_trans (Txt.slice_le z _ _) hz,fun t' k=>⟨.str _,H,I.tok _,⟨_,rfl⟩,q⟩⟩)
def Gw(K:PySem.W.Frag):V->Option Int->Option Int->Hp->VK->Prop:=fun x lo hi H Q=>CH K x lo hi H Q\/Dt x lo hi H Q
theorem Fw{X:Cx}(K:PySem.W.Frag)(hK:X.K=K):su X (Gw K):=(FE K hK).or AU
def Ae(a:Option T)(lo hi:Option Int):Option (Prop×R):=match a with
 | some (.lst xs)=>some (True,.fr (.lst (cq xs lo hi)))
 | some (.dc xs)=>some (True,.fr (.lst (cq xs lo hi)))
 | some (.tup xs)=>some (True,.tr (.tup (cq xs lo hi)))
 | some (.str z)=>some (z.length<=sizeLine,.tr (.str (yJ z lo hi)))
 | _=>none
def zQ(ue:UE)(ul uh:UO):UE:=fun μ Q=>ue μ fun r μ1=>ul μ1 fun lo μ2=>uh μ2 fun hi μ3=>stp (Ae (cont μ3 r.d) lo hi) fun r=>Q r μ3
theorem BB{X:Cx}{e:Expr}{ue:UE}{p2 pos:Pos}{lo hi:Option Expr}{ul uh:UO}(K:PySem.W.Frag)(hK:X.K=K)(he:YE X e ue)(hl:YO X lo ul)(hu:YO X hi uh):YE X (.Subscript e (.Slice lo hi none p2) pos) (zQ ue ul uh):=by
 obtain⟨t,q,r⟩:=he;obtain⟨tl,ql,rl⟩:=hl;obtain⟨th,qh,rh⟩:=hu;refine⟨_,Z.slice (Fw K hK) q ql qh,fun F ad B σ H μ Q Qt hF l q k=>r F ad B σ H μ _ _ hF l q fun v H1 r1 μ1 v1 f1 k1 q1=>rl F ad B σ H1 μ1 _ _ hF v1.rl q1 fun i H2 μ2 l2 f2 k2 q2=>rh F ad B σ H2 μ2 _ _ hF l2 q2 fun j H3 μ3 l3 f3 k3 q3=>?_⟩;have hF':F.K=K:=hF.trans hK;clear hF;subst hF';have hv:=v1.hv.fr (f2.trans f3) (k2.trans k3);have ff:=(f1.d.trans f2).trans f3;have kk:=(k1.trans k2).trans k3;generalize eo:cont μ3 r1.d=o at q3;unfold Ae stp at q3
 cases o with
 | none=>exact q3.elim
 | some o=>cases o with
  | lst xs =>
   have w:=hv.vw l3 eo
   cases w with
   | lst ha ra=>exact .inl (.inl ⟨_,_,rfl,bA.of ha,fun p hp=>k _ _ _ μ3 (Vr.fP l3 (aj.cut ra i j) hp) (ff.trans (Fr.more hp)) kk q3.2⟩)
  | dc xs =>
   have w:=hv.vw l3 eo
   cases w with
   | dc ha ra=>exact .inl (.inl ⟨_,_,rfl,ha,fun p hp=>k _ _ _ μ3 (Vr.fP l3 (aj.cut ra i j) hp) (ff.trans (Fr.more hp)) kk q3.2⟩)
  | tup xs =>
   have w:=Hv.uX l3 hv eo;have w':=w
   cases w with
   | tup na ha ra =>
    by_cases z:HT.b7 xs.length 0 i=0/\HT.b7 xs.length xs.length j=xs.length
    ·have e0:cq xs i j=xs:=by unfold cq;rw[z.1,z.2,Nat.sub_zero,List.drop_zero,List.take_length]
     have q4:=q3.2;rw[e0] at q4;exact .inl (.inr (.inr ⟨_,_,rfl,bj.of ha,by rw[ra.length];exact z.1,by rw[ra.length];exact z.2,k _ H3 _ μ3 (Vr.flat l3 w') ff kk q4⟩))
    ·exact .inl (.inr (.inl ⟨_,_,rfl,bj.of ha,by rw[ra.length];exact z,fun p hp=>k _ _ _ μ3 (Vr.qV l3 (aj.cut ra i j) hp) (ff.trans (Fr.same (bC.new hp))) kk q3.2⟩))
  | str z =>
   have w:=hv.vw l3 eo;cases w;exact .inr ⟨z,rfl,q3.1,k _ H3 _ μ3 (Vr.flat l3 (.str _)) ff kk q3.2⟩
  | bf=>exact q3.elim
  | bl b=>exact q3.elim
  | int n=>exact q3.elim
  | dh a b=>exact q3.elim
  | ly a b=>exact q3.elim
  | exc a b=>exact q3.elim
  | d9 xs=>exact q3.elim
def ie:UM:=fun j rs μ Q=>match rs with
 | [.tr (.int i)]=>(match (μ[j]?).bind Sl.box with
  | some (.lst ts)=>-(2 ^ 63)<=i/\i < 2 ^ 63/\∃ k t,seqIndex? i ts.length=some k/\ts[k]?=some t/\Q (.tr t) (cL μ j (.lst (ts.eraseIdx k)))
  | _=>False)
 | _=>False
theorem vv{K:PySem.W.Frag}:RM K t7 ie:=by
 intro F ad B σ H μ Q Qt j s c xs rs hF l e b ps q k;unfold ie at q
 split at q
 ·rename_i i
  cases ps with
  | cons h ps =>
   cases ps;rw[e] at q
   cases bG h
   have q':(match s.box with | some (.lst ts)=>-(2 ^ 63)<=i/\i < 2 ^ 63/\∃ k t,seqIndex? i ts.length=some k/\ts[k]?=some t/\Qt (.tr t) (cL μ j (.lst (ts.eraseIdx k))) | _=>False):=q
   rw[b] at q';rcases ((l.slot j s e).boxed b).2.2.1.is with ⟨ts,vs,rfl,hl,rv⟩ | ⟨_,_,_,rfl,_⟩
   case inr=>exact q'.elim
   simp only at q';obtain⟨h1,h2,n,t,hk,ht,q2⟩:=q';obtain⟨y,hy,ry⟩:=rv.get ht;have fs:Fr B H B (upd H (ad j) (.lst (vs.eraseIdx n))):=Fr.set ((l.slot j s e).boxed b).2.1;refine⟨_,_,i,n,y,rfl,rfl,hl,h1,h2,by rw[rv.length];exact hk,hy,?_⟩
   have l3:=l.put e b (rv.erase n);unfold cL at q2;rw[e] at q2;exact k _ _ (.tr t) _ (Vr.flat l3 (ry.fr fs)) fs (Kp.set e b (Sl.gL b)) q2
 ·exact q.elim
def EX(i:Nat):UG:=fun r μ Q=>match r with
 | .tr t=>sx μ i/\Q (μ.set i (.tr t))
 | .fr t=>sx μ i/\Q (μ.set i (.tr t))
 | .br _=>False
theorem lW{K:PySem.W.Frag}{i:Nat}:RG K (bH i) (EX i):=fun F ad B σ H μ v r B0 H0 Q Qt hK h f q k=>by
 cases r with
 | tr t=>exact k ad B _ H _ (h.1.Ce (kf q.1) h.2) f q.2
 | br i=>exact q.elim
 | fr c =>
  refine k ad B _ H _ (h.rl.Ce (kf q.1) h.hv) (f.trans (Fr.less fun b z=>?_)) q.2;obtain⟨_,a,rfl,_⟩:=h;exact Or.inr z
section
variable {X:Cx} {e elt tg iter:Expr} {ifs:List Expr} {ue:UE} {ut:UT} {ui:UI} {pos pos' p2:Pos} {x:Str} {osc scope:Scope} {ON own N:List Str}
theorem BJ{j:Nat}(K:PySem.W.Frag)(hK:X.K=K)(hN:X.N.Nodup)(hj:X.N[j]?=some x)(hx:Loc X.env.scope x)(S:bQ osc ON scope own N)(hosc:X.env.scope=osc)(hON:X.N=ON)(hc:X.calm=true)(ho:own.length=2)(hi:YI X tg iter ui)
  (hg:∀ C s H fp,QG (aB X scope N C s H fp) tg (lQ K 2 (dN (bH 0) (dN (bH 1) lJ)))) (ht:∀ C s H fp,BP (aB X scope N C s H fp) ifs ut) (he:∀ C s H fp,YE (aB X scope N C s H fp) elt ue)
  (hsw:swapsWith (.ListComp elt [⟨tg,iter,ifs,0⟩] scope p2) (some (.Name x pos')) pos.line X.env=pure true:=by rfl)
  (hf:X.fn x=true\/X.env.scope.names.lookup x=some .local:=by first | exact .inl rfl | exact .inr rfl | assumption) (hs:∀ x,foldedSetIterable iter X.env x=pure x:=by intro _;rfl) :
  YS X (.Assign [.Name x pos'] (.ListComp elt [⟨tg,iter,ifs,0⟩] scope p2) pos) (kq (gA sf EA ui ut ue) (EX j)):=by
 obtain⟨t,q,r⟩:=hi;subst hK;have h:=Z.setC (tc:=rY X.K ut) (te:=qW X.K ue) hN hj hx S hosc hON hc q hg (fun C s H fp=>(ht C s H fp).yt) (fun C s H fp=>(he C s H fp).yt) hsw hf hs;rw[ho] at h;exact⟨_,h,jV (gW pZ r qd pO) lW⟩
end
end Y
namespace A
theorem ER(um:Y.CB)(uo:UE)(us:UA)(μ:Mu)(Q:R->Mu->Prop):Y.ER um uo us μ Q=uo μ fun ro μ1=>match ro with | .tr (.str z)=>us μ1 fun rs μ2=>um z rs μ2 Q | _=>False:=rfl
theorem ie(j:Nat)(i:Int)(μ:Mu)(Q:R->Mu->Prop):Y.ie j [.tr (.int i)] μ Q=(match (μ[j]?).bind Sl.box with
  | some (.lst ts)=>-(2 ^ 63)<=i/\i < 2 ^ 63/\∃ k t,seqIndex? i ts.length=some k/\ts[k]?=some t/\Q (.tr t) (cL μ j (.lst (ts.eraseIdx k)))
  | _=>False):=rfl
theorem Gm(i:Nat)(t:T)(μ:Mu)(Q:Mu->Prop):Y.EX i (.fr t) μ Q=(Y.sx μ i/\Q (μ.set i (.tr t))):=rfl
end A
namespace Y
theorem wo(l:Addr)(items:Array Value)(ob:Obj)(n:Nat)(k:Int)(t:Tok)(hc:ob.cls=.type "tuple")(hd:ob.data=.seq items n)(h1:k=1):
  Meets (Builtin.«tuple.__mul__» ⟨[.ref l,.int k t],[]⟩) (fun _ R s=>s.heap.get? l=some ob/\R (.ok (.ret (.ref l))) s):=
 .of_wp fun prog w A R s h=>by
  obtain⟨hp,g,d,tk,os⟩:=s;obtain⟨hl,h⟩:=h;obtain⟨c,dd,da,sl⟩:=ob;simp only at hc hd;subst hc hd;have e1:(decide (k < -(2 ^ 63)) || decide (k >= 2 ^ 63))=false:=by rw[decide_eq_false (by lia),decide_eq_false (by lia)];rfl
  have e2:(items.isEmpty || k == 1)=true:=by rw[beq_iff_eq.mpr h1,Bool.or_true]
  wp_walk using AutoSeq1.wpAny_loadPart' hl;exact⟨_,rfl,h⟩
theorem uT(l:Addr)(items:Array Value)(ob:Obj)(n:Nat)(k:Int)(t:Tok)(hc:ob.cls=.type "tuple")(hd:ob.data=.seq items n)(hne:items.isEmpty=false)(h1:k<=0)(h2:-(2 ^ 63)<=k):
  Meets (Builtin.«tuple.__mul__» ⟨[.ref l,.int k t],[]⟩) (fun _ R s=>s.heap.get? l=some ob/\R (.ok (.ret (.ref s.heap.objs.size))) { s with heap:=s.heap.push { cls:=.type "tuple",data:=.seq #[] } }):=
 .of_wp fun prog w A R s h=>by
  obtain⟨hp,g,d,tk,os⟩:=s;obtain⟨hl,h⟩:=h;obtain⟨c,dd,da,sl⟩:=ob;simp only at hc hd;subst hc hd;have e1:(decide (k < -(2 ^ 63)) || decide (k >= 2 ^ 63))=false:=by rw[decide_eq_false (by lia),decide_eq_false (by lia)];rfl
  have e2:(items.isEmpty || k == 1)=false:=by rw[hne,beq_eq_false_iff_ne.mpr (by lia)];rfl
  have e3:(decide (k<=0) || items.isEmpty)=true:=by rw[decide_eq_true h1];rfl
  wp_walk using AutoSeq1.wpAny_loadPart' hl;rw[if_neg (by rw[e1];exact Bool.false_ne_true)]
  have ht:IsTup (Shared.heap ⟨hp,g,d,tk,os⟩) l items:=⟨_,hl,rfl,n,rfl⟩;show wpAny _ _ (Builtin.Tuple.tupleItemsOf (.ref l) >>= _) _ _ _;refine wpAny_bind (tupleItemsOf_ ht ?_);rw[if_neg (by rw[e2];exact Bool.false_ne_true)]
  show wpAny _ _ (if (decide (k<=0) || items.isEmpty)=true then _ else _) _ _ _
  rw[if_pos e3];exact wpAny_bind (m:=Builtin.Tuple.tupleExact _) (wpAny_newObj_type (wpAny_pure ⟨_,rfl,h⟩) (show (#[]:Array Value).size<=sizeLine by decide))
def zj(K:PySem.W.Frag):R2:=fun x y H Q=>∃ a k xs,x=.ref a/\y=.int k/\bj K H a xs/\xs≠[]/\k<=1/\-(2 ^ 63)<=k/\(k=1->Q (.ref a) H)/\(k<=0->∀ p,H p=none->Q (.ref p) (upd H p (.tup [])))
theorem xv{X:Cx}:cJ X (binaryOp .Mult) (zj X.K):=by
 intro pins s σ H x y v u Q I rx ry h;obtain⟨a,k,xs,rfl,rfl,hx,hne,h1,h2,q1,q0⟩:=h;cases rx;obtain⟨t,rfl⟩:=ry;obtain⟨its,r,p,hz⟩:=I.tuple hx;obtain⟨ob,ho,hc,n,hd⟩:=id p;have hlen:=r.length;have hemp:its.toArray.isEmpty=false:=by
  cases its with
  | nil=>cases r;exact absurd rfl hne
  | cons a b=>rfl
 by_cases c:k=1
 ·exact wpAny_binaryOp_repeat_ref (T:="tuple") (U:="int") (by decide) ⟨_,ho,hc⟩ (fun s'=>typeIs_int s' k t) c_ PySem.F.fills_int_mul PySem.F.slot_int_rmul eU PySem.F.slot_int_index.lookup
   (call_meets PySem.F.slot_int_rmul (typeIs_int s k t) PySem.F.entry_int_rmul (PySem.F.args_int_rmul_2 _ _) (i7 k t a ob its.toArray n hc hd)
    ⟨ho,rfl,⟨_,ho,hc⟩,call_meets PySem.F.slot_tuple_mul ⟨_,ho,hc⟩ PySem.F.entry_tuple_mul (PySem.F.args_tuple_mul_2 _ _) (wo a its.toArray ob n k t hc hd c) ⟨ho,⟨.ref a,H,I,rfl,q1 c⟩⟩⟩)
 ·refine wpAny_binaryOp_repeat_ref (T:="tuple") (U:="int") (by decide) ⟨_,ho,hc⟩ (fun s'=>typeIs_int s' k t) c_ PySem.F.fills_int_mul PySem.F.slot_int_rmul eU PySem.F.slot_int_index.lookup
   (call_meets PySem.F.slot_int_rmul (typeIs_int s k t) PySem.F.entry_int_rmul (PySem.F.args_int_rmul_2 _ _) (i7 k t a ob its.toArray n hc hd)
    ⟨ho,rfl,⟨_,ho,hc⟩,call_meets PySem.F.slot_tuple_mul ⟨_,ho,hc⟩ PySem.F.entry_tuple_mul (PySem.F.args_tuple_mul_2 _ _) (uT a its.toArray ob n k t hc hd hemp (by lia) h2) ⟨ho,?_⟩⟩)
  refine⟨.ref s.heap.objs.size,_,I.laid (t':=s.toks) (o:=.tup []) (fun b ob q=>Heap.get?_push_of_some _ q) (Nat.le_refl _) ?_,rfl,q0 (by lia) _ (I.aJ.fresh (Nat.le_refl _))⟩
  exact⟨Nat.zero_le _,[],.nil,cH.new _ _⟩
def zK(K:PySem.W.Frag):R2:=fun x y H Q=>uw K x y H Q\/zj K x y H Q
theorem gP{X:Cx}(K:PySem.W.Frag)(hK:X.K=K):cJ X (binaryOp .Mult) (zK K):=by subst hK;exact (b8 X.K rfl).or xv
def p7:U2:=fun r1 r2 μ Q=>match cont μ r1,cont μ r2 with
 | some (.int i),some (.int j)=>kX i j/\Q (.tr (.int (i*j))) μ
 | some (.lst xs),some (.int k)=>-(2 ^ 63)<=k/\k < 2 ^ 63/\xs.length*k.toNat<=sizeLine/\Q (.fr (.lst (List.replicate k.toNat xs).flatten)) μ
 | some (.tup xs),some (.int k)=>(xs≠[]/\xs.length<=1000/\-(2 ^ 63)<=k/\k<=1000)/\Q (.tr (.tup (List.replicate k.toNat xs).flatten)) μ
 | _,_=>False
theorem gU{K:PySem.W.Frag}:jj K (zK K) p7:=by
 intro F ad B σ H μ Q Qt x y r1 r2 hK l h1 h2 q k;unfold p7 at q
 split at q
 ·rename_i i j e1 e2;exact .inl (bo F ad B σ H μ Q Qt x y r1 r2 hK l h1 h2 (by unfold hG;rw[e1,e2];exact q) k)
 ·rename_i xs j e1 e2;exact .inl (bo F ad B σ H μ Q Qt x y r1 r2 hK l h1 h2 (by unfold hG;rw[e1,e2];exact q) k)
 ·rename_i xs j e1 e2;by_cases c:1 < j
  ·exact .inl (bo F ad B σ H μ Q Qt x y r1 r2 hK l h1 h2 (by unfold hG;rw[e1,e2];exact⟨⟨q.1.1,q.1.2.1,c,q.1.2.2.2⟩,q.2⟩) k)
  ·have a:=Hv.uX l h1 e1;have b:=h2.vw l e2;subst hK;cases b;have a':=a
   cases a with
   | tup na ha ra =>
    refine .inr ⟨_,_,_,rfl,rfl,bj.of ha,?_,by lia,q.1.2.2.1,fun e=>?_,fun e p hp=>?_⟩
    ·rintro rfl;cases ra;exact q.1.1 rfl
    ·subst e;have q2:=q.2;rw[show (1:Int).toNat=1 from rfl] at q2;simp only[List.replicate,List.flatten_cons,List.flatten_nil,List.append_nil] at q2;exact k _ H _ μ (Vr.flat l a') Fr.refl (Kp.refl μ) q2
    ·have q2:=q.2;rw[show j.toNat=0 by lia] at q2
     exact k _ _ _ μ (Vr.qV l .nil hp) (Fr.same (bC.new hp)) (Kp.refl μ) q2
 ·exact q.elim
end Y
namespace A
theorem As(i j:Int)(μ:Mu)(Q:R->Mu->Prop):Y.p7 (.tr (.int i)) (.tr (.int j)) μ Q=(kX i j/\Q (.tr (.int (i*j))) μ):=rfl
theorem Ak(xs:List T)(k:Int)(μ:Mu)(Q:R->Mu->Prop):Y.p7 (.tr (.tup xs)) (.tr (.int k)) μ Q=((xs≠[]/\xs.length<=1000/\-(2 ^ 63)<=k/\k<=1000)/\Q (.tr (.tup (List.replicate k.toNat xs).flatten)) μ):=rfl
end A
def Fl(h:Heap)(e:Addr)(cls:Value)(d:Option Addr):Option Addr->Prop
 | none=>∃ oe vs,h.get? e=some oe/\oe.cls=cls/\oe.dict=d/\oe.data=.fields vs/\vs[1]?=some Value.none
 | some T=>∃ oe vs oT ts,h.get? e=some oe/\oe.cls=cls/\oe.dict=d/\oe.data=.fields vs/\vs[1]?=some (.ref T)/\T≠e/\h.get? T=some oT/\oT.data=.fields ts/\ts[3]?=some Value.none
theorem Fl.is{h:Heap}{e:Addr}{cls:Value}{d To:Option Addr}(f:Fl h e cls d To):jh e cls d h:=by
 cases To with
 | none=>obtain⟨oe,vs,h1,h2,h3,h4,_⟩:=f;exact⟨oe,vs,h1,h2,h3,h4⟩
 | some T=>obtain⟨oe,vs,_,_,h1,h2,h3,h4,_⟩:=f;exact⟨oe,vs,h1,h2,h3,h4⟩
theorem jh.ok{P:Program}{w:World}{H:Hp}{h:Heap}{e:Addr}{cls:Value}{d:Option Addr}(x:jh e cls d h):bp P w H h e (.ext (jh e cls d)):=
 ⟨x,let ⟨o,_,h1,_⟩:=x;⟨o,h1⟩,fun h1 h2 ⟨o,vs,a,b,c,d⟩ k=>⟨o,vs,k o a,b,c,d⟩⟩
theorem jh.one{h:Heap}{e:Addr}{cls cls':Value}{d d':Option Addr}(x:jh e cls d h)(y:jh e cls' d' h):cls=cls'/\d=d':=by
 obtain⟨o,_,h1,h2,h3,_⟩:=x;obtain⟨o',_,g1,g2,g3,_⟩:=y;rw[h1] at g1;cases g1;exact⟨h2.symm.trans g2,h3.symm.trans g3⟩
structure Mv (h h':Heap) (e:Addr) (To:Option Addr) (fs:List Addr) (T':Addr):Prop where
 keep:∀ b o,b≠e->(∀ T,To=some T->b≠T)->b∉fs->h.get? b=some o->h'.get? b=some o
 slot:∀ b o,b∈fs->h.get? b=some o->∃ sl,h'.get? b=some { o with slots:=sl }
 new:(h.get? T'=none\/To=some T')/\T'∉fs
section
variable {h:Heap} {e:Addr} {cls:Value} {d:Option Addr} {base:Heap} {l:List Env}
theorem Fl.y_{T:Addr}(f:Fl h e cls d (some T))(hl:h.FunFrames base l):T∉gG l:=fun m=>by
 obtain⟨_,o,ho,hd⟩:=hl.mem m;obtain⟨_,_,oT,ts,_,_,_,_,_,_,hT,hdT,_⟩:=f;rw[hT] at ho;cases ho;exact hd ts hdT
theorem tD{o:Obj}{vs:Array Value}(q:o.data=.fields vs)(g:Array Value->Array Value):o.mapFields g={ o with data:=.fields (g vs) }:=by
 obtain⟨c,dd,dt,sl⟩:=o;cases q;rfl
end
section
variable {M:Model} {A:Around} {E:Value->Shared->Prop} {s:Shared} {env:Env} {outer:List Env} {L e:Addr} {cls:Value} {d:Option Addr} {base:Heap}
theorem jZ{a:Addr}{o:Obj}{vs:Array Value}{i:Nat}{x:Value}{Q:Unit->Shared->Prop}(ho:s.heap.get? a=some o)(hd:o.data=.fields vs)(hi:i < vs.size)
  (hq:∀ h':Heap,(∀ b,b≠a->h'.get? b=s.heap.get? b)->h'.get? a=some { o with data:=.fields (vs.setIfInBounds i x) }->Q () { s with heap:=h' }):wpAny M A (setField (.ref a) i x) Q E s:=by
 have hm:=tD hd (·.setIfInBounds i x);refine wpAny_setField ho hd hi (hq _ (fun b n=>Heap.get?_update_other _ _ (Ne.symm n)) ?_);have:=Heap.get?_update_self (Obj.mapFields (·.setIfInBounds i x)) ho (Obj.isFreed_of_fields (Obj.data_mapFields hd _));rw[hm] at this;exact this
theorem jB{T:Addr}{fl:Value}{oe oT:Obj}{vs ts:Array Value}{Q:Unit->Shared->Prop}(he:s.heap.get? e=some oe)(hd:oe.data=.fields vs)(h1:vs[1]?=some (.ref T))(hne:T≠e)(hT:s.heap.get? T=some oT)(hdT:oT.data=.fields ts)(h3:ts[3]?=some fl)
  (hq:∀ h':Heap,(∀ b,b≠T->h'.get? b=s.heap.get? b)->h'.get? T=some { oT with data:=.fields (ts.setIfInBounds 3 .none) }->Q () { s with heap:=h' }):wpAny M A (setFlight (.ref e) none) Q E s:=by
 unfold setFlight;refine wpAny_bind (wpAny_field he hd h1 ?_);rw[if_pos (by simp)]
 exact jZ hT hdT (Array.getElem?_eq_some_iff.mp h3).1 hq
theorem qD{oe:Obj}{vs:Array Value}{head:Value}{hn:Bool}{Q:Unit->Shared->Prop}(hfr:A.frames=some (env::outer))(hf:env.frame=some L)(hl:s.heap.FunFrames base (env::outer))(he:s.heap.get? e=some oe)(hd:oe.data=.fields vs)(hsz:1 < vs.size)
  (hq:∀ (h':Heap) (T':Addr) (oT:Obj) (ts:Array Value),(∀ b o,b≠e->b∉gG (env::outer)->s.heap.get? b=some o->h'.get? b=some o)->(∀ b o,b∈gG (env::outer)->s.heap.get? b=some o->∃ sl,h'.get? b=some { o with slots:=sl }) ->
   s.heap.get? T'=none->h'.get? e=some { oe with data:=.fields (vs.setIfInBounds 1 (.ref T')) }->h'.get? T'=some oT->oT.data=.fields ts->ts[3]?=some (rawInt L)->T'≠e->T'∉gG (env::outer)->Q () { s with heap:=h' }) :
  wpAny M A (frameOf env >>= fun a=>entryPlaceOf L hn >>= fun pl=>EntryCells.newEntry head a .none (rawInt L) .none pl >>= fun b=>setField (.ref e) 1 b) Q E s:=by
 have nfe:e∉gG (env::outer):=fun m=>by
  obtain⟨_,o,ho,hnf⟩:=hl.mem m;rw[he] at ho;cases ho;exact hnf vs hd
 refine wpAny_bind (wpAny_frameOf_fun hfr hl hf fun h1 hs=>?_);obtain⟨hs1,hs2,hs3⟩:=hs;refine wpAny_bind (wpAny_entryPlaceOf fun pl hpl=>?_);unfold EntryCells.newEntry newFields;refine wpAny_bind (wpAny_newObj_type ?_ (hpl.sizeOk5 _ _ _ _ _));have e1:h1.get? e=some oe:=(hs2 e nfe).trans he;have hsize:∀ b o,h1.get? b=some o->b≠h1.objs.size:=fun b o q=>Nat.ne_of_lt (Heap.lt_size q);refine jZ (Heap.get?_push_of_some _ e1) hd hsz fun h2 k1 k2=>?_;have nfT:h1.objs.size∉gG (env::outer):=fun m=>by
  obtain⟨_,o,ho,_⟩:=hl.mem m;obtain⟨sl,q⟩:=hs3 _ o ho;exact hsize _ _ q rfl
 refine hq h2 h1.objs.size _ _ (fun b o n1 n2 q=>?_) (fun b o m q=>?_) ?_ k2 ((k1 _ (Ne.symm (hsize _ _ e1))).trans (Heap.get?_push_size h1 rfl)) rfl ?_ (Ne.symm (hsize _ _ e1)) nfT
 ·rw[k1 b n1];exact Heap.get?_push_of_some _ ((hs2 b n2).trans q)
 ·obtain⟨sl,q1⟩:=hs3 b o q;exact⟨sl,(k1 b fun z=>nfe (by rw[<- z];exact m)).trans (Heap.get?_push_of_some _ q1)⟩
 ·cases q:s.heap.get? h1.objs.size with
  | none=>rfl
  | some o =>
   obtain⟨sl,q1⟩:=hs3 _ o q;exact absurd rfl (hsize _ _ q1)
 ·rcases hpl with rfl | ⟨_,_,_,_,_,_,_,rfl⟩<;>simp
theorem v7{To:Option Addr}{Q:Unit->Shared->Prop}(hfr:A.frames=some (env::outer))(hf:env.frame=some L)(hl:s.heap.FunFrames base (env::outer))(f:Fl s.heap e cls d To)
  (hq:∀ h' T',Mv s.heap h' e To (gG (env::outer)) T'->Fl h' e cls d (some T')->Q () { s with heap:=h' }):wpAny M A (noteFrame (.ref e) env) (fun _ s2=>wpAny M A (setFlight (.ref e) none) Q E s2) E s:=by
 unfold noteFrame;simp only[hf]
 cases To with
 | none =>
  obtain⟨oe,vs,g1,g2,g3,g4,g5⟩:=id f;have hsz:=(Array.getElem?_eq_some_iff.mp g5).1;refine wpAny_bind (wpAny_field g1 g4 g5 ?_);rw[if_neg (by decide)]
  refine qD hfr hf hl g1 g4 hsz fun h1 T' oT ts k1 k2 k3 k4 k5 k6 k7 k8 k9=>?_;refine jB (s:={ s with heap:=h1 }) k4 rfl (by simp[hsz]) k8 k5 k6 k7 fun h2 j1 j2=>?_
  have nT:∀ b o,s.heap.get? b=some o->b≠T':=fun b o q z=>by rw[z,k3] at q;cases q
  refine hq h2 T' ⟨fun b o n1 _ n3 q=>?_,fun b o m q=>?_,.inl k3,k9⟩ ⟨_,_,_,_,(j1 e (Ne.symm k8)).trans k4,g2,g3,rfl,by simp[hsz],k8,j2,rfl,?_⟩
  ·exact (j1 b (nT b o q)).trans (k1 b o n1 n3 q)
  ·obtain⟨sl,q1⟩:=k2 b o m q;exact⟨sl,(j1 b (nT b o q)).trans q1⟩
  ·have:=(Array.getElem?_eq_some_iff.mp k7).1;simp[this]
 | some T =>
  obtain⟨oe,vs,oT,ts,g1,g2,g3,g4,g5,g6,g7,g8,g9⟩:=id f;have hsz:=(Array.getElem?_eq_some_iff.mp g5).1;have nfT:=f.y_ hl;refine wpAny_bind (wpAny_field g1 g4 g5 ?_);rw[if_pos (by simp)]
  refine wpAny_bind (wpAny_field g7 g8 g9 ?_);rw[if_neg (by simp[rawInt])]
  refine wpAny_bind (jZ g7 g8 (Array.getElem?_eq_some_iff.mp g9).1 fun h0 i1 i2=>?_);have hl0:h0.FunFrames base (env::outer):=hl.of_keeps fun b o q hn=>⟨o,(i1 b fun z=>by rw[z,g7] at q;cases q;exact hn ts g8).trans q,rfl⟩
  refine qD (s:={ s with heap:=h0 }) hfr hf hl0 ((i1 e (Ne.symm g6)).trans g1) g4 hsz fun h1 T' oT' ts' k1 k2 k3 k4 k5 k6 k7 k8 k9=>?_
  refine jB (s:={ s with heap:=h1 }) k4 rfl (by simp[hsz]) k8 k5 k6 k7 fun h2 j1 j2=>?_
  have nTT:T'≠T:=fun z=>by
   have k3':h0.get? T'=none:=k3;rw[z,i2] at k3';cases k3'
  have nT:∀ b o,s.heap.get? b=some o->b≠T':=fun b o q z=>by
   have k3':h0.get? T'=none:=k3;rw[<- z] at k3';by_cases z2:b=T
   ·exact nTT (z.symm.trans z2)
   ·rw[i1 b z2,q] at k3';cases k3'
  refine hq h2 T' ⟨fun b o n1 n2 n3 q=>?_,fun b o m q=>?_,.inl ?_,k9⟩ ⟨_,_,_,_,(j1 e (Ne.symm k8)).trans k4,g2,g3,rfl,by simp[hsz],k8,j2,rfl,?_⟩
  ·exact (j1 b (nT b o q)).trans (k1 b o n1 n3 ((i1 b (n2 T rfl)).trans q))
  ·have nbT:b≠T:=fun z=>nfT (by rw[<- z];exact m)
   obtain⟨sl,q1⟩:=k2 b o m ((i1 b nbT).trans q);exact⟨sl,(j1 b (nT b o q)).trans q1⟩
  ·exact (i1 T' nTT).symm.trans k3
  ·have:=(Array.getElem?_eq_some_iff.mp k7).1;simp[this]
theorem se{To:Option Addr}{Q:Unit->Shared->Prop}(hfr:A.frames=some (env::outer))(hf:env.frame=some L)(hl:s.heap.FunFrames base (env::outer))(f:Fl s.heap e cls d To)
  (hq:∀ h' T',Mv s.heap h' e To (gG (env::outer)) T'->Fl h' e cls d (some T')->Q () { s with heap:=h' }):wpAny M A (leaving env (.ref e)) Q E s:=by
 unfold leaving;exact wpAny_bind (v7 hfr hf hl f hq)
end
theorem eE.u7{P:Program}{w:World}{H:Hp}{h h':Heap}{a:Addr}{o:HO}(x:eE P w H h)(k:∀ b u,h.get? b=some u->h'.get? b=some u)(hn:H a=none)(new:bp P w (upd H a o) h' a o):eE P w (upd H a o) h':=fun b u e=>by
 by_cases z:b=a
 ·subst z;rw[af] at e;cases e;exact new
 ·rw[ae z] at e;exact (x b u e).ic (fun c v _ q=>k c v q) (fun c q=>by rw[ae (ak q hn)];exact q) (fun c xs q=>by rw[ae (ak q hn)];exact q) fun c _ _ q=>by rw[ae (ak q hn)];exact q
theorem Un.u7{fs ex:List Addr}{H:Hp}{h h':Heap}{a:Addr}{o:HO}(k:∀ b u,h.get? b=some u->h'.get? b=some u)(h0:h.get? a=none)(hn:H a=none):Un fs ex H (upd H a o) h h' where
 keep:=fun b u q _ _ _=>k b u q
 slot:=fun b u q _ _ _=>⟨u.slots,k b u q⟩
 free:=fun b u q n _=>by rw[ae (fun z=>by rw[z,h0] at q;cases q)];exact n
 there:=fun b u q _=>⟨u,k b u q⟩
 jq:=fun b xs q=>by rw[ae (ak q hn)];exact q
 hW:=fun b u xs q=>by rw[ae (ak q hn)];exact q
 gJ:=fun b ps q=>⟨#[],by rw[ae (ak q hn),q];simp⟩
theorem eE.none_of{P:Program}{w:World}{H:Hp}{h:Heap}{a:Addr}(x:eE P w H h)(e:h.get? a=none):H a=none:=by
 cases q:H a with
 | none=>rfl
 | some u =>
  have:=x a u q;obtain⟨o,ho⟩:∃ o,h.get? a=some o:=by
   clear q
   induction u with
   | lst xs=>obtain⟨_,_,_,_,z⟩:=this;exact⟨_,z⟩
   | tup xs=>obtain⟨_,_,_,o,z,_⟩:=this;exact⟨_,z⟩
   | dK kvs=>obtain⟨_,_,_,_,o,_,_,z,_⟩:=this;exact⟨_,z⟩
   | dT kvs=>obtain⟨_,_,_,_,o,_,_,z,_⟩:=this;exact⟨_,z⟩
   | set S n=>obtain⟨o,_,_,_,z,_⟩:=this;exact⟨_,z⟩
   | ins C dx fs=>obtain⟨_,_,_,z,_⟩:=this;exact⟨_,z⟩
   | own x=>exact this
   | xd fs=>obtain⟨_,⟨o,_,_,z,_⟩,_⟩:=this;exact⟨_,z⟩
   | met f x=>exact⟨_,this⟩
   | dh lo hi=>obtain⟨_,_,_,z⟩:=this;exact⟨_,z⟩
   | eN o u ih=>exact⟨_,this.1⟩
   | sG ps=>obtain⟨_,z,_⟩:=this;exact⟨_,z⟩
   | ext φ=>exact this.2.1
  rw[e] at ho;cases ho
theorem eE.moved{P:Program}{w:World}{H:Hp}{h h':Heap}{e T':Addr}{cls:Value}{d To:Option Addr}{fs:List Addr}(x:eE P w H h)(mv:Mv h h' e To fs T')(f':jh e cls d h')(he:H e=some (.ext (jh e cls d)))(hT:∀ T,To=some T->H T=none)(hf:∀ b∈fs,H b=none):eE P w H h':=fun b u q=>by
 by_cases z:b=e
 ·subst z;rw[he] at q;cases q;exact f'.ok
 ·refine (x b u q).ic (fun c v hc r=>?_) (fun _ q=>q) (fun _ _ q=>q) fun _ _ _ q=>q;have tr:∃ o,H c=some o:=by
   rcases hc with rfl | hc
   ·exact⟨u,q⟩
   ·exact⟨_,hc⟩
  obtain⟨o,tr⟩:=tr;refine mv.keep c v (fun z2=>?_) (fun T hT' z2=>?_) (fun m=>?_) r
  ·rcases hc with rfl | hc
   ·exact z z2
   ·rw[z2,he] at hc;cases hc
  ·rw[z2,hT T hT'] at tr;cases tr
  ·rw[hf c m] at tr;cases tr
section
variable {X:Cx} {pins:List (Addr×Obj)} {σ:St} {H H':Hp} {s:Shared} {h':Heap}
theorem Inv.Dk{ch:List Addr}(I:Inv X pins σ H s)
  (hch:∀ b∈ch,X.s₀.heap.get? b=none/\b≠X.env.locals/\(∀ x c,X.env.cells.lookup x=some c->c≠b)/\∀ p∈X.pn++pins,p.1≠b)
  (keep:∀ b o,b≠X.env.locals->b∉X.fs->b∉ch->s.heap.get? b=some o->H b=none->h'.get? b=some o)
  (slot:∀ b o,b≠X.env.locals->b∈X.fs->b∉ch->s.heap.get? b=some o->H b=none->∃ sl,h'.get? b=some { o with slots:=sl })
  (there:∀ b o,b∉ch->s.heap.get? b=some o->∃ o',h'.get? b=some o')
  (ns:∀ m,s.heap.Ns X.env.locals m->h'.Ns X.env.locals m) (aJ:eE X.prog X.w H h') :
  Inv X pins σ H { s with heap:=h' }:=by
 have neL:∀ b o,X.s₀.heap.get? b=some o->b≠X.env.locals:=fun b o e=>Nat.ne_of_lt (Nat.lt_of_lt_of_le (Heap.lt_size e) I.ok.above);have neC:∀ b o,X.s₀.heap.get? b=some o->b∉ch:=fun b o e hb=>by rw[(hch b hb).1] at e;cases e
 have cellK:∀ x c,X.env.cells.lookup x=some c->∀ v,s.heap.IsCell c v->h'.IsCell c v:=fun x c e v ⟨o,ho,hd⟩=>by
  have nch:c∉ch:=fun z=>(hch c z).2.2.1 x c e rfl;by_cases hc:c∈X.fs
  ·obtain⟨sl,q⟩:=slot c o (I.x_ x c e) hc nch ho (I.cU x c e);exact⟨_,q,hd⟩
  ·exact⟨o,keep c o (I.x_ x c e) hc nch ho (I.cU x c e),hd⟩
 refine⟨I.ok,I.os,I.bare,⟨fun b o e n hb hx=>?_,fun b o e n hb hx=>?_,I.base.free,fun b o e hx=>?_,I.base.jq,I.base.hW,I.base.gJ⟩,?_,fun x c e=>?_,I.free,I.cU,fun p hp=>?_,aJ,I.len⟩
 ·exact keep b o (neL b o e) hb (neC b o e) (I.base.keep b o e n hb hx) (I.base.free b o e n hx)
 ·obtain⟨sl,e1⟩:=I.base.slot b o e n hb hx;obtain⟨sl',e2⟩:=slot b _ (neL b o e) hb (neC b o e) e1 (I.base.free b o e n hx);exact⟨sl',e2⟩
 ·obtain⟨o',e1⟩:=I.base.there b o e hx;exact there b o' (neC b o e) e1
 ·obtain⟨m,hn,hl⟩:=I.loc;refine⟨m,ns m hn,fun i x v e1 e2 e3=>?_⟩;obtain⟨u,r,l⟩:=hl i x v e1 e2 e3;refine⟨u,r,?_⟩;rcases l with l | ⟨k,c,e,z⟩
  ·exact .inl l
  ·exact .inr ⟨k,c,e,cellK x c e _ z⟩
 ·obtain⟨v,z⟩:=I.cell x c e;exact⟨v,cellK x c e v z⟩
 ·obtain⟨e,n,ne,nf,d⟩:=I.pin p hp;have nch:p.1∉ch:=fun z=>(hch p.1 z).2.2.2 p hp rfl;exact⟨keep p.1 p.2 ne nf nch e n,n,ne,nf,d⟩
structure Nw (X:Cx) (pins:List (Addr×Obj)) (H:Hp) (e:Addr) (cls:Value) (d To:Option Addr):Prop where
 tr:H e=some (.ext (jh e cls d))
 e0:X.s₀.heap.get? e=none
 d0:∀ a,d=some a->X.s₀.heap.get? a=none
 t0:∀ T,To=some T->H T=none/\X.s₀.heap.get? T=none/\∀ p∈X.pn++pins,p.1≠T
theorem Inv.moved{e T':Addr}{cls:Value}{d To:Option Addr}(I:Inv X pins σ H s)(hex:X.ex=[])(f:Fl s.heap e cls d To)(nw:Nw X pins H e cls d To)(mv:Mv s.heap h' e To (gG X.stack) T')(f':Fl h' e cls d (some T')):
  Inv X pins σ H { s with heap:=h' }/\Nw X pins H e cls d (some T'):=by
 have hfr:=I.gY;have teT:∀ T o,To=some T->s.heap.get? T=some o->T∉gG X.stack:=fun T o hT _=>by subst hT;exact f.y_ I.stack
 have hne:∀ b o,s.heap.get? b=some o->H b=none->b≠e:=fun b o _ n z=>by rw[z,nw.tr] at n;cases n
 refine⟨I.Dk (ch:=To.toList) (fun b hb=>?_) (fun b o hL hb hc q n=>?_) (fun b o _ hb hc q n=>?_) (fun b o hc q=>?_) (fun m hm=>?_) (I.aJ.moved mv f'.is nw.tr (fun T hT=>(nw.t0 T hT).1) hfr),nw.tr,nw.e0,nw.d0,fun T hT=>?_⟩
 ·cases To with
  | none=>cases hb
  | some T =>
   have:b=T:=by simpa using hb
   subst this;obtain⟨h1,h2,h3⟩:=nw.t0 b rfl;obtain⟨_,_,oT,ts,_,_,_,_,_,_,hT,hdT,_⟩:=f;refine⟨h2,fun z=>?_,fun x c hc z=>?_,h3⟩
   ·obtain⟨m,⟨o,es,ep,ho,hd,_⟩,_⟩:=I.loc;rw[<- z,hT] at ho;cases ho;rw[hdT] at hd;cases hd
   ·obtain⟨v,o,ho,hd⟩:=I.cell x c hc;rw[z,hT] at ho;cases ho;rw[hdT] at hd;cases hd
 ·refine mv.keep b o (hne b o q n) (fun T hT z=>hc (by rw[hT,z];simp)) (fun m=>?_) q
  exact (List.mem_cons.mp (I.hV b m)).elim hL hb
 ·by_cases m:b∈gG X.stack
  ·exact mv.slot b o m q
  ·exact⟨o.slots,mv.keep b o (hne b o q n) (fun T hT z=>hc (by rw[hT,z];simp)) m q⟩
 ·by_cases z:b=e
  ·obtain⟨o',_,q',_⟩:=f'.is;exact⟨o',by rw[z];exact q'⟩
  ·by_cases m:b∈gG X.stack
   ·obtain⟨sl,q2⟩:=mv.slot b o m q;exact⟨_,q2⟩
   ·exact⟨o,mv.keep b o z (fun T hT z=>hc (by rw[hT,z];simp)) m q⟩
 ·obtain⟨o,es,ep,ho,r⟩:=hm;have n:=I.free;by_cases mm:X.env.locals∈gG X.stack
  ·obtain⟨sl,q2⟩:=mv.slot _ o mm ho;exact⟨_,es,ep,q2,r⟩
  ·refine⟨o,es,ep,mv.keep _ o (hne _ o ho n) (fun T hT z=>?_) mm ho,r⟩;subst hT;obtain⟨_,_,oT,ts,_,_,_,_,_,_,hT,hdT,_⟩:=f;rw[z,hT] at ho;cases ho;obtain⟨hd,_⟩:=r;rw[hdT] at hd;cases hd
 ·cases hT;rcases mv.new.1 with q | q
  ·refine⟨I.aJ.none_of q,?_,fun p hp z=>?_⟩
   ·cases q2:X.s₀.heap.get? T' with
    | none=>rfl
    | some o =>
     obtain⟨o',q3⟩:=I.base.there T' o q2 (by rw[hex];simp)
     rw[q] at q3;cases q3
   ·rw[<- z,(I.pin p hp).1] at q;cases q
  ·exact nw.t0 T' q
def qQ(X:Cx)(cls:Value)(d:Option Addr)(e:Addr)(σ:St)(H:Hp):Prop:=∀ (pins:List (Addr×Obj)) (s:Shared) (To:Option Addr),Inv X pins σ H s->Fl s.heap e cls d To->Nw X pins H e cls d To->X.xe (.ref e) s
def oR(P:Program)(w:World):lj:=fun outer H s E x s'=>∃ (e T:Addr) (cls:Value) (d:Option Addr) (H':Hp),x=.ref e/\s'.os=s.os/\AllBare s'.gens/\Un (gG outer) [] H H' s.heap s'.heap/\eE P w H' s'.heap/\Fl s'.heap e cls d (some T)/\s.heap.get? e=none/\(∀ a,d=some a->s.heap.get? a=none)/\s.heap.get? T=none/\H' e=some (.ext (jh e cls d))/\H' T=none/\E cls (some e) H'
end
theorem uY{P:Program}{w:World}{K:PySem.W.Frag}{mg:Str->Option Value}{base:Heap}{N:List Str}{qual:Str}{scope:Scope}{f:Addr}{cd:Value}{A:Around}{outer:List Env}{s0:Shared}{H0:Hp}{E:XK}{cls:Value}{d:Option Addr}{e:Addr}{σ:St}{H:Hp}(hE:E cls (some e) H):
  qQ (fh (oR P w) P w K mg base N qual scope f cd A outer s0 H0 E) cls d e σ H:=by
 intro pins s To I fl nw;refine se (base:=base) I.ok.frames rfl I.stack fl fun h' T' mv f'=>?_;obtain⟨I2,nw2⟩:=I.moved rfl fl nw mv f';exact⟨e,T',cls,d,H,rfl,I.os,I.bare,I2.base,I2.aJ,f',nw.e0,nw.d0,(nw2.t0 T' rfl).2.1,nw.tr,(nw2.t0 T' rfl).1,hE⟩
section
variable {X:Cx}
def DS(X:Cx)(σ:St)(H:Hp):XK:=fun cls de H'=>∃ (e:Addr) (d:Option Addr),de=some e/\H' e=some (.ext (jh e cls d))/\(H e=none->(∀ a,d=some a->H a=none)->qQ X cls d e σ H')
def Bb(X:Cx)(sp:Sp)(t:TA):TE:=fun σ H Q=>t σ H fun vs H1=>sp vs H1 Q (DS X σ H1)
theorem Bw{k:Nat}{ps:List Str}{sp:Sp}{x:Str}{p pos:Pos}{e:Expr}{es:List Expr}{t:TA}(F:ai X.prog X.w X.K X.mg X.base (oR X.prog X.w) k x ps sp)(hr:bz k X.A)(hg:Gl X x)(hex:X.ex=[])(ha:PA X (e::es) t)(h1:bY e=true:=by rfl)(h2:es.all bY=true:=by rfl)(hdb:(x ==("__debug__":Str))=false:=by decide):
  PE X (.Call (.Name x p) (e::es) [] pos) (Bb X sp t):=by
 intro pins s σ H Q I h;obtain⟨f,fd,hm,hk,hb,G⟩:=F.ex;refine wpAny_Call_Name_kw (fE I hg hm ?_ hdb);refine PySem.W.callWith_K (h₀:=X.base) I.ok.mod.xC hk (bJ (ha pos pins s σ H _ I h) fun us s1 ⟨vs,H1,I1,r,q⟩=>⟨I1.fo,?_⟩) (b_ h1) (plain_any h2);have hl:us.length=ps.length:=by rw[<- r.length];exact G.len _ _ _ _ q
 have hb2:=hb s1 us I1.fo (by rw[List.append_nil];exact hl)
 rw[List.append_nil] at hb2;refine wpAny_call (codeAny_mono (G.run X.A X.stack s1 H1 ⟨us,[]⟩ us vs Q (DS X σ H1) hr I1.CW hb2 r q) fun r s' hq=>?_)
 cases r with
 | error e =>
  obtain⟨ea,T,cls,d,H',rfl,ho,hbare,un,aJ,fl,n1,n3,n2,tr,nT,ea',d',hea,tr',hd⟩:=hq;cases hea;obtain⟨_,rfl⟩:=fl.is.one (show jh ea cls d' s'.heap from (aJ _ _ tr').1);have I2:=I1.zg (ch:=[]) ho un aJ hbare (fun b z=>absurd z (by simp))
  have n0:∀ b,s1.heap.get? b=none->X.s₀.heap.get? b=none:=fun b z=>by
   cases q2:X.s₀.heap.get? b with
   | none=>rfl
   | some o =>
    obtain⟨o',q3⟩:=I1.base.there b o q2 (by rw[hex];simp)
    rw[z] at q3;cases q3
  exact hd (I1.aJ.none_of n1) (fun a z=>I1.aJ.none_of (n3 a z)) pins s' (some T) I2 fl ⟨tr,n0 _ n1,fun a z=>n0 _ (n3 a z),fun T' hT=>by
   cases hT;exact⟨nT,n0 _ n2,fun p hp z=>by rw[<- z,(I1.pin p hp).1] at n2;cases n2⟩⟩
 | ok fl =>
  cases fl with
  | ret u=>exact I1.after hq
  | next=>exact False.elim hq
  | brk=>exact False.elim hq
  | cont=>exact False.elim hq
structure rZ (K:PySem.W.Frag) (C:Addr):Prop where
 q:PySem.W.excIn K C [.type "ValueError",.type "Exception",.type "BaseException",.type "object"] "ValueError.__new__"=true
theorem rZ.obj{K:PySem.W.Frag}{C:Addr}(c:rZ K C):∃ bm N nm qn bs hd sn sub ab col dd k0 k1 k2 k3 k5,K.lookup C=some (excClassObj nm qn C N bs bm hd sn sub ab col dd k0 k1 k2 k3 k5 "ValueError.__new__") /\
  (∀ h:Heap,K.In h->OwnTail h [.type "ValueError",.type "Exception",.type "BaseException",.type "object"] bm)/\(∃ oN,K.lookup N=some oN)/\∀ h:Heap,K.In h->∃ mN,h.Ns N mN/\mN "__init__"=none:=by
 have q:=c.q;unfold PySem.W.excIn at q
 split at q
 ·rename_i dd cd sl ho
  split at q
  ·rename_i C2 bm k0 k1 k2 k3 nw k5 hm hs;simp only[beq_iff_eq,Bool.not_eq_true',Bool.and_eq_true] at q;obtain⟨⟨⟨⟨⟨z1,z2⟩,z3⟩,z4⟩,z5⟩,z6⟩:=q;subst z1;subst z2;obtain⟨nm,bs,mr,ns,qn,hd,sn,sub,ab,col,dl⟩:=cd;dsimp only at hm z3 z5 z6 ho;subst hm;subst z3;obtain⟨l⟩:=sl;have hs':l=[k0,k1,k2,k3,some (.builtin "ValueError.__new__"),k5]:=hs;subst hs';refine⟨bm,ns,nm,qn,bs,hd,sn,sub,ab,col,dd,k0,k1,k2,k3,k5,ho,fun h xC=>PySem.W.tail_of_in xC z4,?_,fun h xC=>⟨_,.of_isNs (PySem.W.isNs_of_in xC z5),PySem.W.nsMap_none_of_in xC z5 z6⟩⟩;unfold PySem.W.nsOkIn at z5
   split at z5
   ·rename_i hN;exact⟨_,hN⟩
   ·cases z5
  ·cases q
 ·cases q
def zV(X:Cx)(C:Addr)(t:TA):TS:=fun D σ H=>t σ H fun vs H1=>vs.length<=sizeLine/\∀ e,H1 e=none->qQ X (.ref C) none e σ (upd H1 e (.ext (jh e (.ref C) none)))
theorem tF{x:Str}{C:Addr}{np cpos pos:Pos}{e:Expr}{es:List Expr}{t:TA}(hg:Gl X x)(hm:X.mg x=some (.ref C))(hk:rZ X.K C)(hc:X.calm=true)(hex:X.ex=[])(ha:PA X (e::es) t)(h1:bY e=true:=by rfl)(h2:es.all bY=true:=by rfl)(hdb:(x ==("__debug__":Str))=false:=by decide):
  PS X (.Raise (some (.Call (.Name x np) (e::es) [] cpos)) none pos) (zV X C t):=by
 intro pins s σ H D I h;obtain⟨bm,N,nm,qn,bs,hd,sn,sub,ab,col,dd,k0,k1,k2,k3,k5,lk,tl,⟨oN,lN⟩,hns⟩:=hk.obj;obtain⟨mN,hN,hni⟩:=hns s.heap I.fo;have FB:=PySem.F.excBase_ValueError;have hstar:starEach (e::es) X.env=(false,eval e X.env)::starEach es X.env:=b_ h1;refine wpAny_Raise_call_subU (C:=C) (nm:=nm) (q:=qn) (N:=N) (bs:=bs) (bm:=bm) (hdct:=hd) (sn:=sn) (sub:=sub) (ab:=ab) (col:=col) (dd:=dd) (k0:=k0) (k1:=k1) (k2:=k2) (k3:=k3) (k5:=k5) FB FB.hasB FB (mN:=mN) ((tl s.heap I.fo).hasType FB.hasBase) (I.ok.hd hc) ?_ hni (fE I hg hm ⟨rfl,?_⟩ hdb)
 ·rw[hstar];show (false || (backTo cpos (starEach es X.env)).any (·.1))=false;rw[plain_any h2];rfl
 ·have hp:=ha cpos pins s σ H _ I h;rw[hstar] at hp ⊢;refine Calls.evalArgs_plain (wpAny_mono hp (fun us s2 ⟨vs,H1,I1,r,hl,q⟩=>?_) fun _ _ y=>y);refine⟨rfl,by rw[<- r.length];exact hl,I1.fo _ _ lk,?_,tl _ I1.fo,fun h' ea hm2=>?_⟩
  ·obtain⟨o,es',ep,ho,rr⟩:=hN;have z1:=I.fo _ _ lN;rw[ho] at z1;cases z1;exact⟨_,es',ep,I1.fo _ _ lN,rr⟩
  ·have hne:=I1.aJ.none_of hm2.new;obtain⟨tt,g1,g2,g3⟩:=hm2.there;have fl:Fl h' ea (.ref C) none none:=⟨_,_,g1,rfl,rfl,rfl,rfl⟩;have I2:Inv X pins σ (upd H1 ea (.ext (jh ea (.ref C) none))) { s2 with heap:=h' }:=I1.un (t':=s2.toks) (Un.u7 hm2.keeps hm2.new hne) (I1.aJ.u7 hm2.keeps hne fl.is.ok)
   refine q ea hne pins _ none I2 fl ⟨af,?_,(fun a z=>by cases z),fun T z=>by cases z⟩
   cases q2:X.s₀.heap.get? ea with
   | none=>rfl
   | some o =>
    obtain⟨o',q3⟩:=I1.base.there ea o q2 (by rw[hex];simp)
    rw[hm2.new] at q3;cases q3
end
def XH(H:Hp)(e:Addr)(x:T)(cls:Value)(d:Option Addr):Prop:=H e=some (.ext (jh e cls d))/\match x with
 | .exc c none=>c=cls/\d=none
 | .exc c (some (n,i))=>c=cls/\∃ a,d=some a/\H a=some (.xd [(n,.int i)])
 | _=>False
noncomputable abbrev Xw:=T->Mu->Prop
noncomputable abbrev Cu:=Value->Option Addr->Addr->St->Hp->Prop
noncomputable abbrev UX:=Mu->(R->Mu->Prop)->Xw->Prop
noncomputable abbrev ku:=Ed->Xw->Mu->Prop
def rL(F:Fx)(B:aK)(H:Hp)(Dx:Cu)(Xt:Xw):Prop:=∀ (ad:Nat->Addr) (B':aK) (σ':St) (H':Hp) (μ':Mu) (x:T) (cls:Value) (d:Option Addr) (e:Addr),Rl F ad B' σ' H' μ'->Fr B H B' H'->XH H' e x cls d->¬ B' e->(∀ a,d=some a->¬ B' a)->Xt x μ'->Dx cls d e σ' H'
theorem rL.step{F:Fx}{B B1:aK}{H H1:Hp}{Dx:Cu}{Xt:Xw}(h:rL F B H Dx Xt)(f:Fr B H B1 H1):rL F B1 H1 Dx Xt:=fun ad B' σ' H' μ' x cls d e l f' tr n1 n2 q=>h ad B' σ' H' μ' x cls d e l (f.trans f') tr n1 n2 q
def RX(K:PySem.W.Frag)(Dx:Cu)(te:TE)(ux:UX):Prop:=∀ (F:Fx) (ad:Nat->Addr) (B:aK) (σ:St) (H:Hp) (μ:Mu) (Q:VK) (Qt:R->Mu->Prop) (Xt:Xw),F.K=K->Rl F ad B σ H μ->ux μ Qt Xt ->
 (∀ v H' r μ',Vr F ad B σ H' μ' v r->Fr B H (Bv B v r) H'->Kp μ μ'->Qt r μ'->Q v H')->rL F B H Dx Xt->te σ H Q
def ES(K:PySem.W.Frag)(Dx:Cu)(ts:TS)(us:ku):Prop:=∀ (F:Fx) (D:Ends) (E:Ed) (Xt:Xw) (ad:Nat->Addr) (B:aK) (σ:St) (H:Hp) (μ:Mu),F.K=K->Rl F ad B σ H μ->us E Xt μ->ow F B H D E->rL F B H Dx Xt->ts D σ H
structure YX (X:Cx) (e:Expr) (u:UX):Prop where
 ex:∃ t,QE X e t/\RX X.K (qQ X) t u
structure zc (X:Cx) (st:Stmt) (u:ku):Prop where
 ex:∃ t,QS X st t/\ES X.K (qQ X) t u
structure yq (X:Cx) (sts:List Stmt) (u:ku):Prop where
 ex:∃ t,QB X sts t/\ES X.K (qQ X) t u
namespace Y
section
variable {X:Cx} {a b c e o tg:Expr} {es rest:List Expr} {ua ub uc ue uo:UE} {uA uB:UT} {us:UA} {pos pos' p p2 p3:Pos} {x:Str} {st:Stmt} {sts xs ys:List Stmt} {u w:US} {ux:UX} {uxs wxs:ku}
theorem zd(h:YS X st u):zc X st (fun E _ μ=>u E μ):=by
 obtain⟨t,q,r⟩:=h;exact⟨t,q,fun F D E Xt ad B σ H μ hF l q h _=>r F D E ad B σ H μ hF l q h⟩
def Dh(u w:ku):ku:=fun E Xt μ=>u { E with nx:=w E Xt } Xt μ
theorem lB(h:zc X st uxs):yq X [st] uxs:=by obtain⟨t,q,r⟩:=h;exact⟨t,Z.aG q,r⟩
theorem DN:yq X [] (fun E _ μ=>E.nx μ):=⟨_,Z.cB,fun F D E Xt ad B σ H μ hK l q h _=>h.nx ad B σ H μ l Fr.refl q⟩
theorem dI(h:zc X st uxs)(h2:yq X sts wxs):yq X (st::sts) (Dh uxs wxs):=by
 obtain⟨t,q,r⟩:=h;obtain⟨t',q',r'⟩:=h2;exact⟨_,Z.ah q q',fun F D E Xt ad B σ H μ hK l q h hX=>r F { D with nx:=t' D } { E with nx:=wxs E Xt } Xt ad B σ H μ hK l q
  ⟨fun ad1 B1 σ1 H1 μ1 l1 f1 q1=>r' F D E Xt ad1 B1 σ1 H1 μ1 hK l1 q1 (h.step f1) (hX.step f1),h.rt,h.bk,h.ct⟩ hX⟩
def qL(ux:UX)(g:UG):ku:=fun E Xt μ=>ux μ (fun r μ'=>g r μ' E.nx) Xt
theorem pF{K:PySem.W.Frag}{Dx:Cu}{te:TE}{tg:TG}{g:UG}(he:RX K Dx te ux)(hg:RG K tg g):ES K Dx (iG te tg) (qL ux g):=fun F D E Xt ad B σ H μ hK l q h hX =>
 he F ad B σ H μ _ _ Xt hK l q (fun v H' r μ' v1 f k1 q1=>hg F ad B σ H' μ' v r B H _ _ hK v1 f q1 fun ad' B' σ' H2 μ2 l2 f2 q2=>h.nx ad' B' σ' H2 μ2 l2 f2 q2) hX
theorem Fj{i:Nat}(hN:X.N.Nodup)(hi:X.N[i]?=some x)(hx:Loc X.env.scope x)(he:YX X e ux)(hs:Z.Ai e=true:=by rfl)(hf:X.fn x=true\/X.env.scope.names.lookup x=some .local:=by first | exact .inl rfl | exact .inr rfl | assumption):
  zc X (.Assign [.Name x pos'] e pos) (qL ux (gN i)):=by
 obtain⟨t,q,r⟩:=he;exact⟨_,Z.set hN hi hx q hs hf,pF r gZ⟩
theorem yX{i:Nat}(hN:X.N.Nodup)(hi:X.N[i]?=some x)(hx:Loc X.env.scope x)(he:YX X e ux)(hs:Z.Ai e=true:=by rfl)(hf:X.fn x=true\/X.env.scope.names.lookup x=some .local:=by first | exact .inl rfl | exact .inr rfl | assumption):
  zc X (.Assign [.Name x pos'] e pos) (qL ux (EX i)):=by
 obtain⟨t,q,r⟩:=he;exact⟨_,Z.set hN hi hx q hs hf,pF r lW⟩
def E7(c:UT)(u w:ku):ku:=fun E Xt μ=>c μ fun b μ'=>if b=true then u E Xt μ' else w E Xt μ'
theorem EY(hc:YT X c uA)(ha:yq X xs uxs)(hb:yq X ys wxs):zc X (.If c xs ys pos) (E7 uA uxs wxs):=by
 obtain⟨t,q,r⟩:=hc;obtain⟨t1,q1,r1⟩:=ha;obtain⟨t2,q2,r2⟩:=hb;refine⟨_,Z.fM q q1 q2,fun F D E Xt ad B σ H μ hK l q h hX=>r F ad B σ H μ _ _ hK l q fun b H' μ' l' f k1 qq=>?_⟩
 cases b with
 | true=>exact r1 F D E Xt ad B σ H' μ' hK l' (by simpa using qq) (h.step f) (hX.step f)
 | false=>exact r2 F D E Xt ad B σ H' μ' hK l' (by simpa using qq) (h.step f) (hX.step f)
end
end Y
noncomputable abbrev wK:=List T->(R->List T->Prop)->(T->Prop)->Prop
def wI(K:PySem.W.Frag)(md:List Bool)(tsp:wK):Sp:=fun vs H Q E=>∃ Et:T->Prop,spT K md (fun args Qt=>tsp args Qt Et) vs H Q E/\∀ x cls d e H',Et x->(∀ b o,H b=some o->b∉jn md vs->H' b=some o)->XH H' e x cls d->E cls (some e) H'
theorem lK:∀ {md:List Bool} {vs:List V},md.all (fun b=>!b)=true->jn md vs=[]
 | [],_,_=>rfl
 | true::_,_,h=>by simp at h
 | false::md,[],_=>rfl
 | false::md,v::vs,h=>lK (md:=md) (vs:=vs) (by simpa using h)
namespace Y
theorem xj{K:PySem.W.Frag}{md:List Bool}{tsp:fc}{E:XK}{F:Fx}{ad:Nat->Addr}{B:aK}{σ:St}{H1:Hp}{μ1:Mu}{Q:VK}{Qt:R->Mu->Prop}{vs:List V}{rs:List R}{args:List T}(hF:F.K=K)(l1:Rl F ad B σ H1 μ1)(ps:Paired (Hv F ad B H1 μ1) vs rs)(ea:vZ μ1 md rs=some args)
  (nd:(fL md rs).Nodup) (dj:∀ j∈fL md rs,j∉gD md rs) (q1:tsp args fun r outs=>(gD md rs=[]\/(fi r=true/\outs.all fw=true))/\Qt r (putAll (fL md rs) outs μ1))
  (k:∀ v H' r μ',Vr F ad B σ H' μ' v r->Fr B H1 (Bv B v r) H'->Kp μ1 μ'->Qt r μ'->Q v H'):spT K md tsp vs H1 Q E:=by
 have hro:=i9 (md:=md) ps;obtain⟨ag,eb,hb⟩:=zx l1 (gD md rs) ps ea (fun j h=>h) dj hro;rw[hF] at ag;have inj:∀ {js:List Nat},js.Nodup->(∀ j∈js,∃ (s:Sl) (c:T),μ1[j]?=some s/\s.box=some c)->(js.map ad).Nodup:=fun {js}=>by
  induction js with
  | nil=>exact fun _ _=>List.nodup_nil
  | cons j js ih =>
   intro nd hb;rw[List.nodup_cons] at nd;rw[List.map_cons,List.nodup_cons];refine⟨fun hm=>?_,ih nd.2 fun i hi=>hb i (List.mem_cons_of_mem _ hi)⟩;obtain⟨i,hi,z⟩:=List.mem_map.mp hm;obtain⟨s1,c1,e1,b1⟩:=hb j List.mem_cons_self;obtain⟨s2,c2,e2,b2⟩:=hb i (List.mem_cons_of_mem _ hi);exact nd.1 (l1.inj i j s2 s1 c2 c1 e2 e1 b2 b1 z ▸ hi)
 refine⟨_,args,_,ag,fun b z=>l1.e9 b z.1,by rw[eb];exact inj nd hb,q1,fun v H2 r outs hq keep res=>?_⟩
 rw[eb] at keep res;obtain⟨hfl,hq⟩:=hq;have nro:∀ {b:Addr},gD md rs=[]->B b->B b/\∀ j∈gD md rs,b≠ad j:=fun {b} z h=>⟨h,fun j hj=>by rw[z] at hj;cases hj⟩
 cases r with
 | br i=>exact res.elim
 | tr t =>
  obtain⟨rv,po⟩:=res;have rv':Rep F.K H2 B v t:=by
   rw[hF];rcases hfl with z | z
   ·exact rv.fr (Fr.less fun b h=>nro z h)
   ·exact rv.flat z.1
  have po':Paired (Bx F.K H2 B) ((fL md rs).map ad) outs:=by
   rw[hF];rcases hfl with z | z
   ·exact Paired.mM po fun a c h=>h.of rfl (Fr.less fun b h=>nro z h)
   ·exact Paired.mB po z.2
  obtain⟨l2,k2,f2⟩:=l1.call hb nd keep (fun _ z=>z) (fun _ _ _ z=>z) (fun b z n=>absurd z n) po';exact k v H2 (.tr t) _ ⟨l2,rv'⟩ f2 k2 hq
 | fr c =>
  obtain⟨a,rfl,ha0,nBa,x,po⟩:=res;have nBa':¬ B a:=l1.jt ha0;have sub:gD md rs=[]->∀ b,more B a b->more (fun b=>B b/\∀ j∈gD md rs,b≠ad j) a b:=fun z b h=>h.imp id fun h=>nro z h;have x':Bx F.K H2 (more B a) a c:=by
   rw[hF];rcases hfl with z | z
   ·exact x.of rfl (Fr.less (sub z))
   ·exact x.flat z.1
  have po':Paired (Bx F.K H2 (more B a)) ((fL md rs).map ad) outs:=by
   rw[hF];rcases hfl with z | z
   ·exact Paired.mM po fun a' c h=>h.of rfl (Fr.less (sub z))
   ·exact Paired.mB po z.2
  have po2:Paired (Bx F.K H2 B) ((fL md rs).map ad) outs:=Paired.mM po' fun a' c h=>h.of rfl (Fr.less fun _ z=>.inr z);obtain⟨l2,k2,f2⟩:=l1.call hb nd keep (fun _ z=>z) (fun _ _ _ z=>z) (fun b z n=>absurd z n) po2;obtain⟨l3,_,f3⟩:=l1.call (B2:=more B a) hb nd keep (fun _ z=>.inr z) (fun b o e n z=>z.elim (fun z=>by rw[z,ha0] at e;cases e) n) (fun b z n=>z.elim (fun z=>by rw[z];exact x'.e9) fun z=>absurd z n) po'
  exact k _ H2 (.fr c) _ ⟨l2,a,rfl,nBa',l1.xO ha0,l3,x'⟩ f3 k2 hq
def EU(md:List Bool)(tsp:wK)(us:UA):UX:=fun μ Q Xt=>us μ fun rs μ1=>match vZ μ1 md rs with
 | some args=>(fL md rs).Nodup/\(∀ j∈fL md rs,j∉gD md rs)/\tsp args (fun r outs=>(gD md rs=[]\/(fi r=true/\outs.all fw=true))/\Q r (putAll (fL md rs) outs μ1)) (fun x=>Xt x μ1)
 | none=>False
theorem Fm{X:Cx}{e:Expr}{es:List Expr}{us:UA}{pos p:Pos}{x:Str}{k:Nat}{ps:List Str}{md:List Bool}{tsp:wK}(K:PySem.W.Frag)(hK:X.K=K)(F:ai X.prog X.w X.K X.mg X.base (oR X.prog X.w) k x ps (wI K md tsp))(hr:bz k X.A)(hg:Gl X x)(hex:X.ex=[])(ha:YA X (e::es) us)(h1:bY e=true:=by rfl)(h2:es.all bY=true:=by rfl)(hdb:(x ==("__debug__":Str))=false:=by decide)(hmd:md.all (fun b=>!b)=true:=by rfl):
  YX X (.Call (.Name x p) (e::es) [] pos) (EU md tsp us):=by
 obtain⟨t,q,r⟩:=ha;subst hK;refine⟨_,⟨Bw F hr hg hex q.h h1 h2 hdb⟩,fun F ad B σ H μ Q Qt Xt hF l q k hX=>?_⟩;refine r F ad B σ H μ _ _ hF l q fun vs H1 rs μ1 l1 ps f1 k1 q1=>?_
 split at q1
 ·rename_i args ea;obtain⟨nd,dj,q1⟩:=q1;refine⟨fun x=>Xt x μ1,xj (tsp:=fun args Qt=>tsp args Qt fun x=>Xt x μ1) hF l1 ps ea nd dj q1 fun v H' r μ' w f k2 q2=>k v H' r μ' w (f1.trans f) (k1.trans k2) q2,fun x cls d e H' he keep tr=>⟨e,d,rfl,tr.1,fun ne nd=>?_⟩⟩;have sm:bC H1 H':=fun b o z=>keep b o z (by rw[lK hmd];simp)
  exact hX ad B σ H' μ1 x cls d e (l1.same sm) (f1.trans (Fr.same sm)) tr (l1.jt ne) (fun a z=>l1.jt (nd a z)) he
 ·exact q1.elim
def kj(C:Addr)(us:UA):ku:=fun _ Xt μ=>us μ fun rs μ'=>rs.length<=10/\Xt (.exc (.ref C) none) μ'
theorem BU{X:Cx}{e:Expr}{es:List Expr}{us:UA}{x:Str}{C:Addr}{np cpos pos:Pos}(hg:Gl X x)(hm:X.mg x=some (.ref C))(hk:rZ X.K C)(hc:X.calm=true)(hex:X.ex=[])(ha:YA X (e::es) us)(h1:bY e=true:=by rfl)(h2:es.all bY=true:=by rfl)(hdb:(x ==("__debug__":Str))=false:=by decide):
  zc X (.Raise (some (.Call (.Name x np) (e::es) [] cpos)) none pos) (kj C us):=by
 obtain⟨t,q,r⟩:=ha;refine⟨_,⟨tF hg hm hk hc hex q.h h1 h2 hdb⟩,fun F D E Xt ad B σ H μ hF l q h hX=>?_⟩;refine r F ad B σ H μ _ _ hF l q fun vs H1 rs μ1 l1 ps f1 k1 q1=>⟨by rw[ps.length];exact Nat.le_trans q1.1 (by decide),fun ea hn=>?_⟩
 have sm:bC H1 (upd H1 ea (.ext (jh ea (.ref C) none))):=bC.new hn;exact hX ad B σ _ μ1 (.exc (.ref C) none) (.ref C) none ea (l1.same sm) (f1.trans (Fr.same sm)) ⟨af,rfl,rfl⟩ (l1.jt hn) (fun a z=>by cases z) q1.2
end Y
def vq(K:PySem.W.Frag)(mg:Str->Option Value)(x:Str)(f:Addr)(cdv:Value):Prop:=mg x=some (.ref f)/\∃ (o:Obj) (fd:FuncData),K.lookup f=some o/\o.data=.func fd/\fd.code=cdv
theorem HasFn.C6{P:Program}{w:World}{K:PySem.W.Frag}{mg:Str->Option Value}{base:Heap}{x:Str}{st:Stmt}{N ps:List Str}{k:Nat}{tsp:wK}(F:HasFn K mg x st ps)(S:av N ps (aa st))(md:List Bool)(hmd:md.all (fun b=>!b)=true)(hm:md.length=ps.length)(hN:md.length<=N.length)
  (hbody:∀ (args:List T) (Qt:R->List T->Prop) (Et:T->Prop),args.length=ps.length->tsp args Qt Et->∀ (f:Addr) (cdv:Value) (A:Around) (outer:List Env) (s:Shared) (H:Hp) (E:XK),bz k (A.deeper (envOfC x (aa st) s.heap.objs.size f cdv))->vq K mg x f cdv ->
   ∃ us,yq (fh (oR P w) P w K mg base N x (aa st) f cdv A outer s H E) (ao st) us/\us (uu md Qt) (fun x _=>Et x) (startM md args N.length)):ai P w K mg base (oR P w) (k+1) x ps (wI K md tsp):=by
 obtain⟨f,fd,F1,bnd,m⟩:=F.ex;obtain⟨oc,od,kV,doc,pm,an,cdv,ct,osl,rfl,lk,hcd⟩:=F1.ex;refine⟨f,_,m,F1.kp,bnd,zD (CX:=oR P w) lk hcd S (fun vs H Q E h=>?_) (fun A outer s H vs Q E hr h=>?_)⟩
 ·obtain⟨Et,⟨B,args,Qt,ag,_⟩,_⟩:=h;rw[ag.len.1,hm]
 ·obtain⟨Et,⟨B,args,Qt,ag,bh,nd,ht,fin⟩,hE⟩:=h;obtain⟨us,⟨t,q,r⟩,hu⟩:=hbody args Qt Et (by rw[ag.len.2,hm]) ht f cdv A outer s H E hr ⟨m,_,_,lk,rfl,rfl⟩
  refine⟨t,q.h,?_⟩;have l0:=h_ (N:=N) ag bh nd hN;have outs:∀ ad' B' σ' H' μ' (B2:aK),Rl (ji K H md vs B bh) ad' B' σ' H' μ'->(∀ b,B2 b->B' b)->Paired (Bx K H' B2) (jn md vs) (bL md 0 μ'):=fun ad' B' σ' H' μ' B2 l hB=>by
   refine k_ (ag.len.1) fun n e=>?_;obtain⟨v,t',e1,e2,q⟩:=ag.get e;rw[if_pos rfl] at q;obtain⟨a,rfl,_⟩:=q;obtain⟨⟨c,hc⟩,ha⟩:=l.par n a (kx e e1);have sl:=l.slot n _ hc;refine⟨a,c,e1,by rw[Nat.zero_add];exact hc,?_⟩
   rw[<- ha];exact (sl.2.2.2).of rfl (Fr.less hB)
  have keep:∀ ad' B' σ' H' μ',Rl (ji K H md vs B bh) ad' B' σ' H' μ'->∀ b o,H b=some o->b∉jn md vs->H' b=some o:=fun ad' B' σ' H' μ' l b o e n=>l.old b o e fun i z=>n (eI (eY z).1 (eY z).2);refine r (ji K H md vs B bh) _ _ (fun x _=>Et x) (kc vs) B (start N vs) H _ rfl l0 hu ⟨fun ad' B' σ' H' μ' l _ q=>?_,fun ad' B' σ' H' μ' v rr h q=>?_,fun _ _ _ _ _ _ _ z=>z.elim,fun _ _ _ _ _ _ _ z=>z.elim⟩ (fun ad' B' σ' H' μ' x cls d e l _ tr _ _ z=>uY (hE x cls d e H' z (keep _ _ _ _ _ l) tr))
  ·exact fin .bf H' (.tr .bf) _ q (keep _ _ _ _ _ l) ⟨.bf,outs _ _ _ _ _ _ l l.bc⟩
  ·cases rr with
   | tr t=>exact fin v H' (.tr t) _ q (keep _ _ _ _ _ h.1) ⟨(show Rep K H' B' v t from h.2).fr (Fr.less h.1.bc),outs _ _ _ _ _ _ h.1 h.1.bc⟩
   | fr c =>
    obtain⟨l,a,rfl,n,h0,l2,x⟩:=h;have sub:∀ b,more B a b->more B' a b:=fun b z=>z.imp id (l.bc b);exact fin _ H' (.fr c) _ q (keep _ _ _ _ _ l) ⟨a,rfl,h0,fun z=>n (l.bc a z),x.of rfl (Fr.less sub),outs _ _ _ _ _ _ l2 sub⟩
   | br i =>
    have q':(match μ'[i]? with | some (.bx c)=>Qt (.fr c) (bL md 0 μ') | _=>False):=q
    obtain⟨l,rfl,s',c',e1,e2⟩:=h
    split at q'
    ·rename_i c ec;have sl:=l.slot i _ ec;have sub:∀ b,more B (ad' i) b->B' b:=fun b z=>z.elim (fun z=>by rw[z];exact sl.2.1) (l.bc b)
     refine fin _ H' (.fr c) _ q' (keep _ _ _ _ _ l) ⟨ad' i,rfl,sl.2.2.1,fun z=>?_,(sl.2.2.2.2).of rfl (Fr.less sub),outs _ _ _ _ _ _ l sub⟩;obtain⟨o,e⟩:=bh _ z;have:H (ad' i)=none:=sl.2.2.1;rw[this] at e;cases e
    ·exact q'.elim
theorem HasFn.G5{P:Program}{w:World}{K:PySem.W.Frag}{mg:Str->Option Value}{base:Heap}{x:Str}{st:Stmt}{N ps:List Str}{k:Nat}{tsp:wK}(F:HasFn K mg x st ps)(S:av N ps (aa st))(md:List Bool)(hmd:md.all (fun b=>!b)=true)(hm:md.length=ps.length)(hN:md.length<=N.length)
  (hbody:∀ (args:List T) (Qt:R->List T->Prop) (Et:T->Prop),args.length=ps.length->tsp args Qt Et->∀ (f:Addr) (cdv:Value) (A:Around) (outer:List Env) (s:Shared) (H:Hp) (E:XK),bz k (A.deeper (envOfC x (aa st) s.heap.objs.size f cdv)) ->
   ∃ us,yq (fh (oR P w) P w K mg base N x (aa st) f cdv A outer s H E) (ao st) us/\us (uu md Qt) (fun x _=>Et x) (startM md args N.length)):ai P w K mg base (oR P w) (k+1) x ps (wI K md tsp):=
 F.C6 S md hmd hm hN fun args Qt Et hl h f cdv A outer s H E hr _=>hbody args Qt Et hl h f cdv A outer s H E hr
section
variable {X:Cx} {pins pins':List (Addr×Obj)} {σ:St} {H:Hp} {s:Shared} {E:Value->Shared->Prop} {e:Addr}
end
namespace Y
end Y
noncomputable abbrev UJ:=Mu->(Mu->Prop)->Prop
structure YJ (X:Cx) (vs:List Expr) (u:UJ):Prop where
 run:∀ (F:Fx) (ad:Nat->Addr) (B:aK) (σ:St) (H:Hp) (μ:Mu) (Qt:Mu->Prop) (pins:List (Addr×Obj)) (s:Shared) (acc:Str) (k:Nat) (R:Str->Shared->Prop),F.K=X.K->Rl F ad B σ H μ->u μ Qt->Inv X pins σ H s->acc.length<=2000*k->k+vs.length<=20 ->
  (∀ H' μ' s' (out:Str),Rl F ad B σ H' μ'->Fr B H B H'->Kp μ μ'->Qt μ'->Inv X pins σ H' s'->out.length<=40000->R out s')->Joins (model X.prog X.w) X.A X.xe (evalEach vs X.env) acc R s
theorem iB(a b:Str):(a++b).length=a.length+b.length:=Array.size_append
theorem ke{n:Nat}(h:n<=40000):n<=sizeLine:=Nat.le_trans h (by decide)
namespace Y
section
variable {X:Cx} {e:Expr} {vs:List Expr} {ue:UE} {u:UJ} {pos p:Pos}
theorem Fi:YJ X [] (fun μ Q=>Q μ):=⟨fun F ad B σ H μ Qt pins s acc k R hF l q I ha hk h=>h H μ s acc l Fr.refl (Kp.refl μ) q I (by simp at hk;lia)⟩
theorem B5{c:Str}{j:Nat}(h:YJ X vs u)(hc:c.length<=2000:=by decide)(he:evalEach (.Constant (.str c) j p::vs) X.env=eval (.Constant (.str c) j p) X.env::evalEach vs X.env:=by rfl):YJ X (.Constant (.str c) j p::vs) u:=by
 refine⟨fun F ad B σ H μ Qt pins s acc k R hF l q I ha hk hR=>?_⟩;rw[he];refine bJ ((Z.str (X:=X) (i:=c) (j:=j) (pos:=p)).h pins s σ H (fun v H1=>v=.str c/\H1=H) I ⟨rfl,rfl⟩) fun v s1 ⟨v',H1,I1,r1,e1,e2⟩=>?_;subst e1;subst e2;obtain⟨t,rfl⟩:=r1;have hl:(acc++c).length<=2000*(k+1):=by rw[iB];lia
 rw[List.length_cons] at hk;exact⟨c,t,rfl,ke (by lia),h.run F ad B σ H1 μ Qt pins s1 (acc++c) (k+1) R hF l q I1 hl (by lia) hR⟩
def ET(ue:UE)(u:UJ):UJ:=fun μ Q=>ue μ fun r μ'=>match r with
 | .tr (.int i)=>i.natAbs < 2 ^ 1900/\u μ' Q
 | _=>False
theorem D_(he:YE X e ue)(h:YJ X vs u)(hev:evalEach (.FormattedValue e (-1) none p::vs) X.env=eval (.FormattedValue e (-1) none p) X.env::evalEach vs X.env:=by rfl):YJ X (.FormattedValue e (-1) none p::vs) (ET ue u):=by
 obtain⟨t,qe,r⟩:=he;refine⟨fun F ad B σ H μ Qt pins s acc k R hF l q I ha hk hR=>?_⟩;rw[hev];refine wpAny_FormattedValue_plain ?_;refine bJ (qe.h pins s σ H (fun v H1=>∃ r1 μ1,Vr F ad B σ H1 μ1 v r1/\Fr B H (Bv B v r1) H1/\Kp μ μ1/\(match r1 with
  | .tr (.int i)=>i.natAbs < 2 ^ 1900/\u μ1 Qt
  | _=>False)) I (r F ad B σ H μ _ _ hF l q fun v H1 r1 μ1 w f k1 q1=>⟨r1,μ1,w,f,k1,q1⟩)) fun v s1 ⟨v',H1,I1,rv,r1,μ1,w,f,k1,q1⟩=>?_
 split at q1
 ·rename_i i;obtain⟨l1,rp⟩:=w;cases rp;obtain⟨t',rfl⟩:=rv;obtain⟨hi,q1⟩:=q1;have hlog:i.natAbs.log2 < 1920:=by
   by_cases z:i.natAbs=0
   ·rw[z];decide
   ·exact (Nat.log2_lt z).mpr (Nat.lt_of_lt_of_le hi (Nat.pow_le_pow_right (by decide) (by decide)))
  have hlen:(Str.ofString (toString i)).length<=1921:=by
   have:=int_text_length_le (k:=1920) (by decide) hlog
   rw[PySem.ofString_length];exact this
  refine wpAny_formatField_int hlog ⟨_,_,rfl,?_,?_⟩
  ·rw[iB];exact ke (by rw[List.length_cons] at hk;lia)
  ·rw[List.length_cons] at hk;exact h.run F ad B σ H1 μ1 Qt pins _ (acc++Str.ofString (toString i)) (k+1) R hF l1 q1 (I1.tok _) (by rw[iB];lia) (by lia) fun H' μ' s' out l' f' k'=>hR H' μ' s' out l' (f.trans f') (k1.trans k')
 ·exact q1.elim
def ED(u:UJ):UE:=fun μ Q=>u μ fun μ'=>∀ z:Str,z.length<=40000->Q (.tr (.str z)) μ'
theorem FZ{v1 v2:Expr}{rest:List Expr}(h:YJ X (v1::v2::rest) u)(hn:(v1::v2::rest).length<=20:=by decide):YE X (.JoinedStr (v1::v2::rest) pos) (ED u):=by
 refine⟨fun σ H Q=>∀ pins s,Inv X pins σ H s->wpAny (model X.prog X.w) X.A (eval (.JoinedStr (v1::v2::rest) pos) X.env) (EP X pins σ Q) X.xe s,⟨fun pins s σ H Q I h=>h pins s I⟩,?_⟩;intro F ad B σ H μ Q Qt hF l q k pins s I;refine wpAny_JoinedStr (h.run F ad B σ H μ _ pins s Str.empty 0 _ hF l q I (by decide) (by rw[Nat.zero_add];exact hn) fun H' μ' s' out l' f' k' q' I' ho=>⟨ke ho,?_⟩)
 exact⟨.str out,H',I'.tok _,⟨_,rfl⟩,k _ H' (.tr (.str out)) μ' ⟨l',.str out⟩ f' k' (q' out ho)⟩
end
end Y
namespace A
theorem ET(ue:UE)(u:UJ)(μ:Mu)(Q:Mu->Prop):Y.ET ue u μ Q=ue μ fun r μ'=>match r with
 | .tr (.int i)=>i.natAbs < 2 ^ 1900/\u μ' Q
 | _=>False:=rfl
theorem ED(u:UJ)(μ:Mu)(Q:R->Mu->Prop):Y.ED u μ Q=u μ fun μ'=>∀ z:Str,z.length<=40000->Q (.tr (.str z)) μ':=rfl
theorem qL(ux:UX)(g:UG)(E:Ed)(Xt:Xw)(μ:Mu):Y.qL ux g E Xt μ=ux μ (fun r μ'=>g r μ' E.nx) Xt:=rfl
theorem E7(c:UT)(u w:ku)(E:Ed)(Xt:Xw)(μ:Mu):Y.E7 c u w E Xt μ=c μ fun b μ'=>if b=true then u E Xt μ' else w E Xt μ':=rfl
theorem EU(md:List Bool)(tsp:wK)(us:UA)(μ:Mu)(Q:R->Mu->Prop)(Xt:Xw):Y.EU md tsp us μ Q Xt=us μ fun rs μ1=>match vZ μ1 md rs with
 | some args=>(fL md rs).Nodup/\(∀ j∈fL md rs,j∉gD md rs)/\tsp args (fun r outs=>(gD md rs=[]\/(fi r=true/\outs.all fw=true))/\Q r (putAll (fL md rs) outs μ1)) (fun cls=>Xt cls μ1)
 | none=>False:=rfl
theorem kj(C:Addr)(us:UA)(E:Ed)(Xt:Xw)(μ:Mu):Y.kj C us E Xt μ=us μ fun rs μ'=>rs.length<=10/\Xt (.exc (.ref C) none) μ':=rfl
end A
namespace Y
def mf(t:T)(xs:List T):Bool:=xs.any fun y=>AJ y t
theorem oZ{K:PySem.W.Frag}{H:Hp}{B:aK}{x:V}{t:T}(h:Rep K H B x t)(f:aT t=true):∀ {ys:List V} {us:List T},aj K H B ys us->us.all aT=true->cW x=true/\ys.all cW=true/\EL x ys=mf t us
 | _,_,.nil,_=>by
  refine⟨?_,rfl,rfl⟩
  cases h<;>first | rfl | cases f
 | _,_,.cons h2 r,f2=>by
  rw[List.all_cons,Bool.and_eq_true] at f2;obtain⟨a1,a2,a3⟩:=oZ h f r f2.2;obtain⟨b1,b2,b3⟩:=vj h2 h f2.1 f;refine⟨a1,by rw[List.all_cons,b1,a2];rfl,?_⟩
  unfold EL mf at a3 ⊢;rw[List.any_cons,List.any_cons,b3,a3]
def CV(K:PySem.W.Frag)(neg:Bool):R2:=fun x y H Q=>G6 K neg x y H Q\/∃ i j,x=.str i/\y=.str j/\Q (.bl (if neg then !(!(Builtin.Str.occurrences j i 0 j.length 1).isEmpty) else !(Builtin.Str.occurrences j i 0 j.length 1).isEmpty)) H
theorem t9{X:Cx}(K:PySem.W.Frag)(hK:X.K=K):cJ X (compareOp .In) (CV K false):=by subst hK;exact r8.or rO
def GD(i j:Str):Bool:=!(Builtin.Str.occurrences j i 0 j.length 1).isEmpty
def E_(neg:Bool):T->T->Mu->(R->Mu->Prop)->Prop:=fun t u μ Q=>match u with
 | .tup xs=>aT t=true/\xs.all aT=true/\Q (.tr (.bl (if neg then !mf t xs else mf t xs))) μ
 | .lst xs=>aT t=true/\xs.all aT=true/\Q (.tr (.bl (if neg then !mf t xs else mf t xs))) μ
 | .d9 xs=>aT t=true/\xs.all aT=true/\Q (.tr (.bl (if neg then !mf t xs else mf t xs))) μ
 | .str j=>(match t with | .str i=>Q (.tr (.bl (if neg then !GD i j else GD i j))) μ | _=>False)
 | _=>False
theorem Vw.fi{K:PySem.W.Frag}{H:Hp}{B:aK}{v:V}{t:T}(h:Vw K H B v t)(f:aT t=true):Rep K H B v t:=by
 cases h with
 | bf=>exact .bf
 | bl b=>exact .bl b
 | int i=>exact .int i
 | str x=>exact .str x
 | tup=>cases f
 | d9=>cases f
 | lst=>cases f
 | dc=>cases f
 | dh=>cases f
 | ly=>cases f
 | exc=>cases f
 | yc=>cases f
theorem zJ{K:PySem.W.Frag}{neg:Bool}:jj K (CV K neg) (pY (E_ neg)):=eg fun F ad B σ H μ Q Qt x y t u hK l v1 v2 q k=>by
 subst hK;unfold E_ at q
 split at q
 ·obtain⟨f1,f2,q⟩:=q
  cases v2 with
  | tup ha ra =>
   obtain⟨a1,a2,a3⟩:=oZ (Vw.fi v1 f1) f1 ra f2;exact .inl ⟨_,_,rfl,.inr (bj.of ha),a1,a2,by rw[a3];exact k _ H _ (Vr.flat l (.bl _)) Fr.refl q⟩
 ·obtain⟨f1,f2,q⟩:=q
  cases v2 with
  | lst ha ra =>
   obtain⟨a1,a2,a3⟩:=oZ (Vw.fi v1 f1) f1 ra f2;exact .inl ⟨_,_,rfl,.inl (bA.of ha),a1,a2,by rw[a3];exact k _ H _ (Vr.flat l (.bl _)) Fr.refl q⟩
 ·obtain⟨f1,f2,q⟩:=q
  cases v2 with
  | d9 ha ra =>
   obtain⟨a1,a2,a3⟩:=oZ (Vw.fi v1 f1) f1 ra f2;exact .inl ⟨_,_,rfl,.inr (.inr ha),a1,a2,by rw[a3];exact k _ H _ (Vr.flat l (.bl _)) Fr.refl q⟩
 ·split at q
  ·cases v1;cases v2
   exact .inr ⟨_,_,rfl,rfl,k _ H _ (Vr.flat l (.bl _)) Fr.refl q⟩
  ·exact q.elim
 ·exact q.elim
end Y
namespace A
theorem Ff(neg:Bool)(t:T)(xs:List T)(μ:Mu)(Q:R->Mu->Prop):Y.E_ neg t (.tup xs) μ Q=(aT t=true/\xs.all aT=true/\Q (.tr (.bl (if neg then !Y.mf t xs else Y.mf t xs))) μ):=rfl
end A
def je(n m:Nat)(e:Nat->Bool):Bool:=(List.range (min n m)).all e && n == m
inductive lz:Nat->T->T->Bool->Prop
 | flat {n:Nat} {t u:T} (f1:aT t=true) (f2:aT u=true):lz n t u (Y.AJ t u)
 | tup {n:Nat} {xs ys:List T} (e:Nat->Bool) (h:∀ (j:Nat) (x y:T),xs[j]?=some x->ys[j]?=some y->lz n x y (e j)):lz (n+1) (.tup xs) (.tup ys) (je xs.length ys.length e)
 | lst {n:Nat} {xs ys:List T} (e:Nat->Bool) (h:∀ (j:Nat) (x y:T),xs[j]?=some x->ys[j]?=some y->lz n x y (e j)):lz (n+1) (.lst xs) (.lst ys) (je xs.length ys.length e)
theorem w6{t u:T}{v:V}{K:PySem.W.Frag}{H:Hp}{B:aK}(h1:Rep K H B v t)(h2:Rep K H B v u)(f1:aT t=true)(f2:aT u=true):Y.AJ t u=true:=by
 cases h1<;>first | (cases f1;done) | (cases h2<;>first | (cases f2;done) | simp[Y.AJ])
theorem fZ{n m:Nat}{e:Nat->Bool}(h:n=m)(h2:∀ j,j < n->e j=true):je n m e=true:=by
 subst h;unfold je;rw[Nat.min_self,beq_self_eq_true,Bool.and_true,List.all_eq_true];intro j hj;exact h2 j (by simpa using hj)
theorem lz.same{n:Nat}{t u:T}{b:Bool}(d:lz n t u b):∀ {K:PySem.W.Frag} {H:Hp} {B:aK} {v:V},Rep K H B v t->Rep K H B v u->b=true:=by
 induction d with
 | flat f1 f2=>exact fun h1 h2=>w6 h1 h2 f1 f2
 | tup e h ih =>
  rename_i nn xs ys;intro K H B v h1 h2
  cases h1 with
  | tup n1 a1 r1=>cases h2 with
   | tup n2 a2 r2 =>
    rw[a1] at a2;cases a2;refine fZ (r1.length.symm.trans r2.length) fun j hj=>?_;have hx:=List.getElem?_eq_getElem hj;have hj2:j < ys.length:=by rw[<- r2.length,r1.length];exact hj
    have hy:=List.getElem?_eq_getElem hj2;obtain⟨v1,g1,p1⟩:=r1.get hx;obtain⟨v2,g2,p2⟩:=r2.get hy;rw[g1] at g2;cases g2;exact ih j _ _ hx hy p1 p2
 | lst e h ih =>
  rename_i nn xs ys;intro K H B v h1 h2
  cases h1 with
  | lst n1 a1 r1=>cases h2 with
   | lst n2 a2 r2 =>
    rw[a1] at a2;cases a2;refine fZ (r1.length.symm.trans r2.length) fun j hj=>?_;have hx:=List.getElem?_eq_getElem hj;have hj2:j < ys.length:=by rw[<- r2.length,r1.length];exact hj
    have hy:=List.getElem?_eq_getElem hj2;obtain⟨v1,g1,p1⟩:=r1.get hx;obtain⟨v2,g2,p2⟩:=r2.get hy;rw[g1] at g2;cases g2;exact ih j _ _ hx hy p1 p2
section
variable {X:Cx} {pins:List (Addr×Obj)} {σ:St} {H:Hp} {s:Shared} {B:aK}
theorem d6{A:Around}{n:Nat}{xs ys:List T}{vs ws:List V}{its its2:List Value}{e:Nat->Bool}(r1:aj X.K H B vs xs)(r2:aj X.K H B ws ys)(g1:Vals vs its)(g2:Vals ws its2)
  (ih:∀ (j:Nat) (x y:T),xs[j]?=some x->ys[j]?=some y->∀ (v w:V) (a b:Value),Rep X.K H B v x->Rep X.K H B w y->RelV v a->RelV w b->SeqAt.EqAt A s a b (e j)) :
  ∀ j (h1:j < its.toArray.size) (h2:j < its2.toArray.size),SeqAt.EqAt A s its.toArray[j] its2.toArray[j] (e j):=by
 intro j h1 h2;have l1:=g1.length;have l2:=g2.length;have l3:=r1.length;have l4:=r2.length;rw[List.size_toArray] at h1 h2;have hx:=List.getElem?_eq_getElem (show j < xs.length by lia)
 have hy:=List.getElem?_eq_getElem (show j < ys.length by lia)
 obtain⟨v1,q1,p1⟩:=r1.get hx;obtain⟨v2,q2,p2⟩:=r2.get hy;obtain⟨u1,e1,f1⟩:=g1.get q1;obtain⟨u2,e2,f2⟩:=g2.get q2;have z1:its.toArray[j]=u1:=by
  rw[List.getElem?_eq_getElem h1] at e1;simpa using e1
 have z2:its2.toArray[j]=u2:=by
  rw[List.getElem?_eq_getElem h2] at e2;simpa using e2
 rw[z1,z2];exact ih j _ _ hx hy v1 v2 u1 u2 p1 p2 f1 f2
theorem d4{vs ws:List V}{xs ys:List T}{its its2:List Value}(e:Nat->Bool)(r1:aj X.K H B vs xs)(r2:aj X.K H B ws ys)(g1:Vals vs its)(g2:Vals ws its2):((List.range (min its.toArray.size its2.toArray.size)).all e && its.toArray.size == its2.toArray.size)=je xs.length ys.length e:=by
 have l1:=g1.length;have l2:=g2.length;have l3:=r1.length;have l4:=r2.length;unfold je;rw[List.size_toArray,List.size_toArray,<- l1,<- l2,l3,l4]
theorem vn{n:Nat}{t u:T}{b:Bool}(d:lz n t u b):∀ (I:Inv X pins σ H s) {A:Around} (hu:A.units+n < cLine) (v w:V) (a c:Value),Rep X.K H B v t->Rep X.K H B w u->RelV v a->RelV w c->SeqAt.EqAt A s a c b:=by
 induction d with
 | flat f1 f2 =>
  intro I A hu v w a c h1 h2 r1 r2;obtain⟨z1,z2,z3⟩:=Y.vj h1 h2 f1 f2;rw[<- z3];exact kN r1 r2 z1 z2
 | tup e h ih =>
  intro I A hu v w a c h1 h2 r1 r2;rename_i n xs ys;have h1':=h1;have h2':=h2
  cases h1 with
  | tup n1 a1 q1=>cases h2 with
   | tup n2 a2 q2 =>
    rename_i p1 vs p2 ws
    cases r1;cases r2
    by_cases z:p1=p2
    ·subst z;rw[(lz.tup (n:=n) e h).same h1' h2'];exact SeqAt.EqAt.same _
    ·obtain⟨its,g1,pl1,_⟩:=I.tuple (bj.of a1);obtain⟨its2,g2,pl2,_⟩:=I.tuple (bj.of a2);rw[<- d4 (X:=X) e q1 q2 g1 g2];exact SeqAt.EqAt.of_refs z (SeqAt.RcAt.tuples pl1 pl2 (by lia) (d6 (n:=n) q1 q2 g1 g2 fun j x y hx hy v w a c=>ih j x y hx hy I (A:=A.in1) (by show A.units+1+n < cLine;lia) v w a c))
 | lst e h ih =>
  intro I A hu v w a c h1 h2 r1 r2;rename_i n xs ys;have h1':=h1;have h2':=h2
  cases h1 with
  | lst n1 a1 q1=>cases h2 with
   | lst n2 a2 q2 =>
    rename_i p1 vs p2 ws
    cases r1;cases r2
    by_cases z:p1=p2
    ·subst z;rw[(lz.lst (n:=n) e h).same h1' h2'];exact SeqAt.EqAt.same _
    ·obtain⟨its,g1,pl1,_⟩:=I.list (bA.of a1);obtain⟨its2,g2,pl2,_⟩:=I.list (bA.of a2);have sz:=d4 (X:=X) e q1 q2 g1 g2;rw[<- sz];by_cases hs:its.toArray.size=its2.toArray.size
     ·rw[hs,Nat.min_self,beq_self_eq_true,Bool.and_true,<- hs];exact SeqAt.EqAt.of_refs z (SeqAt.RcAt.lists pl1.isList pl2.isList hs (by lia) (d6 (n:=n) q1 q2 g1 g2 fun j x y hx hy v w a c=>ih j x y hx hy I (A:=A.in1) (by show A.units+1+n < cLine;lia) v w a c))
     ·rw[beq_eq_false_iff_ne.mpr hs,Bool.and_false];exact SeqAt.EqAt.of_refs z (SeqAt.RcAt.lists_lengths pl1.isList pl2.isList (bne_iff_ne.mpr hs) (by lia))
end
namespace Y
def wL(K:PySem.W.Frag)(n:Nat)(neg:Bool):R2:=fun x y H Q=>∃ (B:aK) (a b:Addr) (vs ws:List V) (xs ys:List T) (e:Nat->Bool),x=.ref a/\y=.ref b/\((bj K H a vs/\bj K H b ws)\/(bA K H a vs/\bA K H b ws))/\aj K H B vs xs/\aj K H B ws ys /\
 (∀ (j:Nat) (x y:T),xs[j]?=some x->ys[j]?=some y->lz n x y (e j))/\Q (.bl (if neg then !je xs.length ys.length e else je xs.length ys.length e)) H
theorem xw{X:Cx}{n:Nat}(hu:X.A.units+n+1 < cLine):cJ X (compareOp .Eq) (wL X.K n false):=by
 intro pins s σ H x y v u Q I rx ry h;obtain⟨B,a,b,vs,ws,xs,ys,e,rfl,rfl,hq,r1,r2,ih,q⟩:=h
 cases rx;cases ry
 have it:∀ (j:Nat) (x y:T),xs[j]?=some x->ys[j]?=some y->∀ (v w:V) (a b:Value),Rep X.K H B v x->Rep X.K H B w y->RelV v a->RelV w b->SeqAt.EqAt X.A.in1 s a b (e j):=fun j x y hx hy v w a c=>vn (ih j x y hx hy) I (A:=X.A.in1) (by show X.A.units+1+n < cLine;lia) v w a c
 rcases hq with ⟨ha,hb⟩ | ⟨ha,hb⟩
 ·obtain⟨its,g1,p1,_⟩:=I.tuple ha;obtain⟨its2,g2,p2,_⟩:=I.tuple hb;refine SeqAt.eq_tupleAt p1 p2 (by lia) (d6 (n:=n) r1 r2 g1 g2 it) ⟨.bl _,H,I,rfl,?_⟩
  rw[d4 (X:=X) e r1 r2 g1 g2];exact q
 ·obtain⟨its,g1,p1,_⟩:=I.list ha;obtain⟨its2,g2,p2,_⟩:=I.list hb;have sz:=d4 (X:=X) e r1 r2 g1 g2;by_cases hs:its.toArray.size=its2.toArray.size
  ·rw[hs,Nat.min_self,beq_self_eq_true,Bool.and_true,<- hs] at sz;refine SeqAt.eq_listAt p1.isList p2.isList hs (by lia) (d6 (n:=n) r1 r2 g1 g2 it) ⟨.bl _,H,I,rfl,?_⟩
   rw[sz];exact q
  ·rw[beq_eq_false_iff_ne.mpr hs,Bool.and_false] at sz;refine SeqAt.eq_list_lengthsAt p1.isList p2.isList (bne_iff_ne.mpr hs) (by lia) ⟨.bl _,H,I,rfl,?_⟩
   rw[sz];exact q
theorem y9{X:Cx}{n:Nat}(hu:X.A.units+n+1 < cLine):cJ X (compareOp .NotEq) (wL X.K n true):=by
 intro pins s σ H x y v u Q I rx ry h;obtain⟨B,a,b,vs,ws,xs,ys,e,rfl,rfl,hq,r1,r2,ih,q⟩:=h
 cases rx;cases ry
 have it:∀ (j:Nat) (x y:T),xs[j]?=some x->ys[j]?=some y->∀ (v w:V) (a b:Value),Rep X.K H B v x->Rep X.K H B w y->RelV v a->RelV w b->SeqAt.EqAt X.A.in1 s a b (e j):=fun j x y hx hy v w a c=>vn (ih j x y hx hy) I (A:=X.A.in1) (by show X.A.units+1+n < cLine;lia) v w a c
 rcases hq with ⟨ha,hb⟩ | ⟨ha,hb⟩
 ·obtain⟨its,g1,p1,_⟩:=I.tuple ha;obtain⟨its2,g2,p2,_⟩:=I.tuple hb;refine SeqAt.RcNeAt.tuples p1 p2 (by lia) (d6 (n:=n) r1 r2 g1 g2 it) X.prog X.w X.xe _ ⟨.bl _,H,I,rfl,?_⟩
  rw[d4 (X:=X) e r1 r2 g1 g2];exact q
 ·obtain⟨its,g1,p1,_⟩:=I.list ha;obtain⟨its2,g2,p2,_⟩:=I.list hb;have sz:=d4 (X:=X) e r1 r2 g1 g2;by_cases hs:its.toArray.size=its2.toArray.size
  ·rw[hs,Nat.min_self,beq_self_eq_true,Bool.and_true,<- hs] at sz;refine SeqAt.RcNeAt.lists p1.isList p2.isList hs (by lia) (d6 (n:=n) r1 r2 g1 g2 it) X.prog X.w X.xe _ ⟨.bl _,H,I,rfl,?_⟩
   rw[sz];exact q
  ·rw[beq_eq_false_iff_ne.mpr hs,Bool.and_false] at sz;refine SeqAt.RcNeAt.lists_lengths p1.isList p2.isList (bne_iff_ne.mpr hs) (by lia) X.prog X.w X.xe _ ⟨.bl true,H,I,rfl,?_⟩
   have q2:=q;rw[<- sz] at q2;exact q2
end Y
namespace Y
end Y
theorem iW{A:Around}{k:Nat}(hr:bz k A):A.units+4+1 < cLine:=Nat.lt_of_le_of_lt (Nat.add_le_add_left (by decide:4+1<=64) _) hr.units
namespace Y
def DG(K:PySem.W.Frag):R2:=fun x y H Q=>Aw K x y H Q\/wL K 4 false x y H Q
theorem Bu{X:Cx}(K:PySem.W.Frag)(hK:X.K=K)(hu:X.A.units+4+1 < cLine):cJ X (compareOp .Eq) (DG K):=by subst hK;exact (cf X.K rfl (by lia)).or (xw hu)
def C9(K:PySem.W.Frag):R2:=fun x y H Q=>AZ K x y H Q\/wL K 4 true x y H Q
theorem kU{X:Cx}(K:PySem.W.Frag)(hK:X.K=K)(hu:X.A.units+4+1 < cLine):cJ X (compareOp .NotEq) (C9 K):=by subst hK;exact (n_ X.K rfl (by lia)).or (y9 hu)
def pI(xs ys:List T)(neg:Bool)(μ:Mu)(Q:R->Mu->Prop):Prop:=∃ e:Nat->Bool,(∀ (j:Nat) (x y:T),xs[j]?=some x->ys[j]?=some y->lz 4 x y (e j))/\Q (.tr (.bl (if neg then !je xs.length ys.length e else je xs.length ys.length e))) μ
def zN:T->T->Mu->(R->Mu->Prop)->Prop:=fun t u μ Q=>match t,u with
 | .tup xs,.tup ys=>pI xs ys false μ Q
 | .lst xs,.lst ys=>pI xs ys false μ Q
 | t,u=>Cr false t u μ Q
def x8:T->T->Mu->(R->Mu->Prop)->Prop:=fun t u μ Q=>match t,u with
 | .tup xs,.tup ys=>pI xs ys true μ Q
 | .lst xs,.lst ys=>pI xs ys true μ Q
 | t,u=>Cz t u μ Q
theorem A5{K:PySem.W.Frag}:jj K (DG K) (pY zN):=eg fun F ad B σ H μ Q Qt x y t u hK l v1 v2 q k=>by
 unfold zN at q
 split at q
 ·obtain⟨e,h,q⟩:=q;subst hK
  cases v1 with
  | tup ha ra=>cases v2 with
   | tup hb rb=>exact .inr ⟨B,_,_,_,_,_,_,e,rfl,rfl,.inl ⟨bj.of ha,bj.of hb⟩,ra,rb,h,k _ H _ (Vr.flat l (.bl _)) Fr.refl q⟩
 ·obtain⟨e,h,q⟩:=q;subst hK
  cases v1 with
  | lst ha ra=>cases v2 with
   | lst hb rb=>exact .inr ⟨B,_,_,_,_,_,_,e,rfl,rfl,.inr ⟨bA.of ha,bA.of hb⟩,ra,rb,h,k _ H _ (Vr.flat l (.bl _)) Fr.refl q⟩
 ·subst hK;unfold Cr at q
  split at q
  ·cases v1;cases v2
   refine .inl (.inl ⟨rfl,?_⟩);rw[dV (f:=V.int) (fun a b h=>by injection h)]
   exact k _ H _ (Vr.flat l (.bl _)) Fr.refl q
  ·cases v1;cases v2
   refine .inl (.inl ⟨rfl,?_⟩);rw[dV (f:=V.str) (fun a b h=>by injection h)]
   exact k _ H _ (Vr.flat l (.bl _)) Fr.refl q
  ·cases v1;cases v2
   refine .inl (.inl ⟨rfl,?_⟩);rw[dV (f:=V.bl) (fun a b h=>by injection h)]
   exact k _ H _ (Vr.flat l (.bl _)) Fr.refl q
  ·exfalso;simp_all
  ·exfalso;simp_all
  ·exact q.elim
theorem lh{K:PySem.W.Frag}:jj K (C9 K) (pY x8):=eg fun F ad B σ H μ Q Qt x y t u hK l v1 v2 q k=>by
 unfold x8 at q
 split at q
 ·obtain⟨e,h,q⟩:=q;subst hK
  cases v1 with
  | tup ha ra=>cases v2 with
   | tup hb rb=>exact .inr ⟨B,_,_,_,_,_,_,e,rfl,rfl,.inl ⟨bj.of ha,bj.of hb⟩,ra,rb,h,k _ H _ (Vr.flat l (.bl _)) Fr.refl q⟩
 ·obtain⟨e,h,q⟩:=q;subst hK
  cases v1 with
  | lst ha ra=>cases v2 with
   | lst hb rb=>exact .inr ⟨B,_,_,_,_,_,_,e,rfl,rfl,.inr ⟨bA.of ha,bA.of hb⟩,ra,rb,h,k _ H _ (Vr.flat l (.bl _)) Fr.refl q⟩
 ·subst hK;unfold Cz at q
  split at q
  ·cases v1;cases v2
   refine .inl (.inl ⟨rfl,?_⟩);rw[dV (f:=V.int) (fun a b h=>by injection h)]
   exact k _ H _ (Vr.flat l (.bl _)) Fr.refl q
  ·cases v1;cases v2
   refine .inl (.inl ⟨rfl,?_⟩);rw[dV (f:=V.str) (fun a b h=>by injection h)]
   exact k _ H _ (Vr.flat l (.bl _)) Fr.refl q
  ·cases v1;cases v2
   refine .inl (.inl ⟨rfl,?_⟩);rw[dV (f:=V.bl) (fun a b h=>by injection h)]
   exact k _ H _ (Vr.flat l (.bl _)) Fr.refl q
  ·exfalso;simp_all
  ·exfalso;simp_all
  ·exact q.elim
end Y
namespace A
theorem Er(i j:Int)(μ:Mu)(Q:R->Mu->Prop):Y.zN (.int i) (.int j) μ Q=Q (.tr (.bl (decide (i=j)))) μ:=rfl
theorem Ej(i j:Int)(μ:Mu)(Q:R->Mu->Prop):Y.x8 (.int i) (.int j) μ Q=Q (.tr (.bl (!decide (i=j)))) μ:=rfl
end A
namespace Y
end Y
namespace A
end A
section
variable {prog:Program} {w:World} {A:Around} {E:Value->Shared->Prop} {s:Shared} {K:PySem.W.Frag} {x C:Addr} {ox:Obj}
end
section
variable {X:Cx}
end
namespace Y
section
variable {X:Cx} {a:Expr} {es:List Expr} {ua:UE} {pos p p3:Pos} {x:Str}
end
end Y
section
variable {X:Cx} {pins:List (Addr×Obj)} {σ:St} {H:Hp} {s:Shared}
end
namespace Y
end Y
namespace A
end A
section
variable {prog:Program} {w:World} {A:Around} {E:Value->Shared->Prop} {s:Shared} {K:PySem.W.Frag} {x C:Addr} {ox:Obj} {od:Option Obj}
end
section
variable {prog:Program} {w:World} {A:Around} {E:Value->Shared->Prop} {s:Shared} {K:PySem.W.Frag} {C S f:Addr} {name:Str}
end
section
variable {fs ex:List Addr} {H:Hp} {h h':Heap} {e d:Addr} {φ ψ:Heap->Prop}
end
section
variable {X:Cx} {C S f:Addr} {name:Str}
end
section
variable {X:Cx} {pins:List (Addr×Obj)} {σ:St} {H:Hp} {s:Shared} {C S f:Addr} {name:Str}
end
section
variable {X:Cx} {C S f:Addr} {name:Str}
end
namespace Y
section
variable {X:Cx} {C S f:Addr} {name x:Str} {e:Expr} {ue:UE} {p pos cpos:Pos}
end
end Y
section
variable {X:Cx}
end
namespace Y
section
variable {X:Cx} {a:Expr} {es:List Expr} {ua:UE} {pos p p3:Pos} {x:Str}
end
end Y
namespace A
end A
theorem iH{items:Array Value}{k:Str}{t t':Tok}{j:Nat}{prog:Program}{w:World}{A:Around}{E:Value->Shared->Prop}{Q:Option Fin×Unit->Shared->Prop}(hit:items[j]?=some (.str k t'))(hno:∀ m,m < j->∃ y ty,items[m]?=some (.str y ty)/\y≠k):∀ (m i c:Nat) (s:Shared),i+m=j->m < c->Q (some (.done (.ret (.int (j:Nat) s.toks))),()) { s with toks:=s.toks+1 } ->
  wpAny (model prog w) A (forIn (List.range' i c) ((none,()):Option Fin×Unit) fun i __s=>match items[i]? with
      | some y=>do
       let __do_lift <- eqBool y (Value.str k t)
       if __do_lift=true then do
         let __do_lift <- retInt (i:Nat)
         pure (ForInStep.done (some __do_lift,()))
        else pure (ForInStep.yield (none,()))
      | x=>pure (ForInStep.yield (none,()))) Q E s:=by
 intro m
 induction m with
 | zero =>
  intro i c s e hc h
  cases c with
  | zero=>exact absurd hc (Nat.not_lt_zero _)
  | succ c =>
   obtain rfl:i=j:=e;rw[List.range'_succ,List.forIn_cons];simp only[hit];refine wpAny_bind (wpAny_bind (wpAny_eqBool_str ?_));rw[decide_eq_true rfl]
   wp_walk
   exact h
 | succ m ih =>
  intro i c s e hc h
  cases c with
  | zero=>exact absurd hc (Nat.not_lt_zero _)
  | succ c =>
   obtain⟨y,ty,hy,ne⟩:=hno i (by lia)
   rw[List.range'_succ,List.forIn_cons];simp only[hy];refine wpAny_bind (wpAny_bind (wpAny_eqBool_str ?_));rw[decide_eq_false ne];exact wpAny_pure (ih (i+1) c s (by lia) (by lia) h)
theorem rS{p:Addr}{items:Array Value}{n:Nat}{dd:Option Addr}{sl:Array (Option Value)}{k:Str}{t t':Tok}{j:Nat}(hit:items[j]?=some (.str k t'))(hno:∀ m,m < j->∃ y ty,items[m]?=some (.str y ty)/\y≠k):
  Meets (Builtin.«tuple.index» ⟨[.ref p,.str k t],[]⟩) (fun A R s=>s.heap.get? p=some { cls:=.type "tuple",dict:=dd,data:=.seq items n,slots:=sl }/\R (.ok (.ret (.int (j:Nat) s.toks))) { s with toks:=s.toks+1 }):=by
 intro prog w A R s h;obtain⟨hp,g,d,tk,os⟩:=s;obtain⟨ho,h⟩:=h;unfold Builtin.«tuple.index»;simp only[Std.Legacy.Range.forIn_eq_forIn_range'];wp_walk using wpAny_loadPart' ho;have hj:j < items.size:=by
  rcases Nat.lt_or_ge j items.size with z | z
  ·exact z
  ·rw[Array.getElem?_eq_none_iff.mpr z] at hit;cases hit
 refine iH hit hno j 0 _ _ (Nat.zero_add _) ?_ ?_
 ·simp[Std.Legacy.Range.size];exact hj
 ·exact wpAny_pure h
def Fv(K:PySem.W.Frag):V->List V->Hp->VK->Prop:=fun x vs H Q=>∃ (a:Addr) (ws:List Str) (k:Str) (j:Nat),x=.ref a/\bj K H a (ws.map V.str)/\vs=[.str k]/\ws[j]?=some k/\(∀ m,m < j->ws[m]?≠some k)/\Q (.int (j:Nat)) H
theorem fj:∀ {ws:List Str} {its:List Value},Vals (ws.map V.str) its->∀ (m:Nat) (y:Str),ws[m]?=some y->∃ t,its[m]?=some (.str y t):=fun r m y e=>by
 obtain⟨u,h1,h2⟩:=r.get (i:=m) (x:=V.str y) (by rw[List.getElem?_map,e];rfl)
 obtain⟨t,rfl⟩:=(show RelV (.str y) u from h2);exact⟨t,h1⟩
theorem Aa{X:Cx}:wH X "tuple.index" (Fv X.K):=by
 intro pins s σ H x xs v us Q I rx rs h;obtain⟨a,ws,k,j,rfl,hq,rfl,hj,hno,q⟩:=h;obtain rfl:v=Value.ref a:=rx;obtain⟨u,rfl,t,rfl⟩:=vals1 rs;obtain⟨its,r,pl,hz⟩:=I.tuple hq;obtain⟨⟨oc,od,oda,osl⟩,ho,hc,n,hd⟩:=id pl;obtain rfl:oc=.type "tuple":=hc;obtain rfl:oda=.seq its.toArray n:=hd;obtain⟨t',hit⟩:=fj r j k hj;refine call_meets PySem.F.slot_tuple_index ⟨_,ho,rfl⟩ PySem.F.entry_tuple_index (PySem.F.args_tuple_index_2 _ _) (rS (j:=j) (t':=t') (by rw[List.getElem?_toArray];exact hit) fun m hm=>?_) ⟨ho,⟨.int (j:Nat),H,I.tok _,⟨_,rfl⟩,q⟩⟩
 have hl:m < ws.length:=Nat.lt_trans hm (List.getElem?_eq_some_iff.mp hj).1;have e:=List.getElem?_eq_getElem hl;obtain⟨ty,hy⟩:=fj r m _ e;exact⟨_,ty,by rw[List.getElem?_toArray];exact hy,fun z=>hno m hm (by rw[e,z])⟩
namespace Y
end Y
namespace A
end A
open Builtin Builtin.Str
namespace Y
end Y
namespace Y
end Y
namespace A
end A
end L2
namespace L2
open PySem PySem.Spec PyProof PyProof.Rows
section
variable {X:Cx} {es:List Expr} {tk:Nat} {tp:Pos}
end
namespace Y
end Y
namespace A
end A
def vh(K:PySem.W.Frag)(ws:List Str)(v:Value):Prop:=∃ p,v=.ref p/\Di K p (ws.map V.str)
structure ki (K:PySem.W.Frag) (a:Addr) (D:List (Str×List Str)):Prop where
 low:(a == sysModules)=false
 ex:∃ o es ep,K.lookup a=some o/\o.ExactDict/\o.data=.dict es ep/\KTD.Rows (vh K) es.toList D
section
variable {prog:Program} {w:World} {A:Around} {E:Value->Shared->Prop} {s:Shared} {K:PySem.W.Frag} {a:Addr} {D:List (Str×List Str)} {k:Str} {tk:Tok}
theorem ki.typeIs(T:ki K a D)(X:K.In s.heap):s.TypeIs (.ref a) "dict":=let ⟨o,_,_,ho,hc,_⟩:=T.ex;⟨o,X _ _ ho,hc.1⟩
theorem wu{Q:Option Value->Shared->Prop}(T:ki K a D)(X:K.In s.heap)(h1:∀ d v,KTD.datumAt k D=some d->vh K d v->Q (some v) { s with toks:=s.toks+1 })(h2:KTD.datumAt k D=none->Q none { s with toks:=s.toks+1 }):
  wpAny (model prog w) A (dictGet a (.str k tk)) Q E s:=by
 obtain⟨o,es,ep,ho,hc,hd,hr⟩:=T.ex;have ho:=X _ _ ho;unfold dictGet
 try with_reducible refine wpAny_holding ?_
 refine wpAny_bind (wpAny_pyHash_str (wpAny_bind (KTD.kt_dictFind_strs (s:={ s with toks:=s.toks+1 }) ho hd (by obtain⟨l⟩:=es;simpa using hr.exact) ?_)))
 have hq:Q (findBy (fun k v=>v.isStr k) es k) { s with toks:=s.toks+1 }:=by
  have hf:findBy (fun k v=>v.isStr k) es k=(es.toList.find? fun e=>e.key.isStr k).map (·.val):=by
   obtain⟨l⟩:=es;simp[findBy]
  rw[hf]
  cases hat:KTD.datumAt k D with
  | some d=>obtain⟨v,hv,hfl⟩:=hr.find_some hat;rw[hv];exact h1 d v hat hfl
  | none=>rw[hr.find_none hat];exact h2 hat
 rw[findBy_of_findIdx?] at hq
 cases hi:es.findIdx? fun e=>e.key.isStr k with
 | none=>rw[hi] at hq;exact wpAny_pure hq
 | some i=>rw[hi] at hq;exact wpAny_bind (wpAny_dictEntries (s:={ s with toks:=s.toks+1 }) ho hd (wpAny_pure hq))
end
namespace Y
theorem E9{X:Cx}{pos p:Pos}{x:Str}{k:Nat}{ps:List Str}{md:List Bool}{tsp:fc}{E:XK}(K:PySem.W.Frag)(hK:X.K=K)(F:ai X.prog X.w X.K X.mg X.base bT k x ps (spT K md tsp))(hr:bz k X.A)(hg:Gl X x)(hx:Passes bT X E)(hdb:(x ==("__debug__":Str))=false:=by decide):
  YE X (.Call (.Name x p) [] [] pos) (za md tsp mK):=by
 subst hK;exact⟨_,Z.E9 F hr hg hx hdb,yT (fun F ad B σ H μ Q Qt hK l q k=>k [] H [] μ l .nil Fr.refl (Kp.refl μ) q)⟩
end Y
namespace A
end A
namespace Y
section
variable {prog:Program} {w:World} {A:Around} {E:Value->Shared->Prop} {s:Shared}
end
end Y
namespace A
end A
namespace Y
def gz(g:UG)(body:ku)(E:Ed)(Xt:Xw):List T->Mu->Prop
 | [],μ=>E.nx μ
 | t::ts,μ=>g (.tr t) μ fun μ1=>body { E with nx:=gz g body E Xt ts,ct:=gz g body E Xt ts,bk:=E.nx } Xt μ1
def xn(ui:UI)(g:UG)(body:ku):ku:=fun E Xt μ=>ui μ fun items gd μ'=>gd=none/\gz g body E Xt items μ'
theorem qT{K:PySem.W.Frag}{Dx:Cu}{g:TG}{ug:UG}{tb:TS}{body:ku}{F:Fx}{D:Ends}{E:Ed}{Xt:Xw}{J:It}{Src:Hp->aK->Prop}{items:List T}{B0:aK}{H0:Hp}(hF:F.K=K)(hg:RG K g ug)(hb:ES K Dx tb body)(it:hJ K J Src items)
  (pe:∀ B1 H1 B2 H2,Fr B1 H1 B2 H2->Src H1 B1->Src H2 B2) (hE:ow F B0 H0 D E) (hX:rL F B0 H0 Dx Xt) {ad:Nat->Addr} {B:aK} {σ:St} {H:Hp} {μ:Mu} (l:Rl F ad B σ H μ) (f:Fr B0 H0 B H) (sr:Src H B) (q:gz ug body E Xt items μ) :
  ∃ W:Nat->Nat->St->Hp->Prop,(∃ m,W 0 m σ H)/\∀ i m σ H,W i m σ H ->
   (J.stop i H/\D.nx σ H)\/(J.go i H/\∃ N:St->Hp->Prop,(∀ σ' H',N σ' H'->∃ m',m' < m/\W (i+1) m' σ' H')/\∀ x H',J.yF i H x H'->g x σ H' fun σ2 H2=>tb { D with nx:=N,ct:=N,bk:=D.nx } σ2 H2):=by
 refine⟨fun i m σ H=>m=items.length - i/\i<=items.length/\∃ ad B μ,Rl F ad B σ H μ/\Fr B0 H0 B H/\Src H B/\gz ug body E Xt (items.drop i) μ,⟨items.length,by simp,Nat.zero_le _,ad,B,μ,l,f,sr,q⟩,?_⟩
 rintro i m σ H ⟨rfl,hi,ad,B,μ,l,f,sr,q⟩;by_cases hlt:i < items.length
 ·have ei:items[i]?=some items[i]:=List.getElem?_eq_getElem hlt;rw[List.drop_eq_getElem_cons hlt] at q;obtain⟨go,yl⟩:=it.step H B i _ l.e9 sr ei;refine .inr ⟨go,fun σ' H'=>∃ ad' B' μ',Rl F ad' B' σ' H' μ'/\Fr B0 H0 B' H'/\Src H' B'/\gz ug body E Xt (items.drop (i+1)) μ',fun σ' H' h=>⟨items.length - (i+1),by lia,rfl,hlt,h⟩,fun x H2 y=>?_⟩
  obtain⟨sm,rp⟩:=yl x H2 y;refine hg F ad B σ H2 μ x (.tr _) B H2 _ _ hF ⟨l.same sm,by show Rep F.K H2 B x _;rw[hF];exact rp⟩ Fr.refl q fun ad3 B3 σ3 H3 μ3 l3 f3 q3=>?_
  have f03:Fr B0 H0 B3 H3:=(f.trans (Fr.same sm)).trans f3;have s3:Src H3 B3:=pe _ _ _ _ ((Fr.same sm).trans f3) sr;exact hb F _ _ Xt ad3 B3 σ3 H3 μ3 hF l3 q3 ⟨fun ad' B' σ' H' μ' l' f' q'=>⟨ad',B',μ',l',f03.trans f',pe _ _ _ _ f' s3,q'⟩,hE.rt,fun ad' B' σ' H' μ' l' f' q'=>hE.nx ad' B' σ' H' μ' l' (f03.trans f') q',fun ad' B' σ' H' μ' l' f' q'=>⟨ad',B',μ',l',f03.trans f',pe _ _ _ _ f' s3,q'⟩⟩ (hX.step f03)
 ·have e:i=items.length:=by lia
  subst e;rw[List.drop_length] at q;exact .inl ⟨it.stop H B sr,hE.nx ad B σ H μ l f q⟩
theorem CF{X:Cx}{tg it:Expr}{xs:List Stmt}{pos:Pos}{ui:UI}{g:UG}{u:ku}(hp:PassesOwn (model X.prog X.w) X.A X.env X.xe)(hc:X.calm=true)(hi:YI X tg it ui)(hg:YG X tg g)(hb:yq X xs u)(hs:∀ x,foldedSetIterable it X.env x=pure x:=by intro _;rfl):zc X (.For tg it xs [] pos) (xn ui g u):=by
 obtain⟨ti,qi,ri⟩:=hi;obtain⟨tg',qg,rg⟩:=hg;obtain⟨t,q,r⟩:=hb;refine⟨_,Z.dQ hp hc qi qg q hs,fun F D E Xt ad B σ H μ hF l q h hX=>ri F ad B σ H μ _ _ hF l q fun J H' μ' items gd Src l1 f1 k1 it sr so gok q1=>?_⟩;obtain⟨rfl,q1⟩:=q1;exact qT hF rg r it so h hX l1 f1 sr q1
end Y
theorem vF{g:UG}{body:ku}{E:Ed}{Xt:Xw}(I:List T->Mu->Prop){items:List T}{μ:Mu}(h0:I items μ)(hn:∀ μ,I [] μ->E.nx μ)
  (hs:∀ t ts μ (N:Mu->Prop),I (t::ts) μ->(∀ μ',I ts μ'->N μ')->g (.tr t) μ fun μ1=>body { E with nx:=N,ct:=N,bk:=E.nx } Xt μ1):Y.gz g body E Xt items μ:=by
 induction items generalizing μ with
 | nil=>exact hn μ h0
 | cons t ts ih=>exact hs t ts μ _ h0 fun μ' h=>ih h
namespace A
theorem xn(ui:UI)(g:UG)(body:ku)(E:Ed)(Xt:Xw)(μ:Mu):Y.xn ui g body E Xt μ=ui μ fun items gd μ'=>gd=none/\Y.gz g body E Xt items μ':=rfl
end A
namespace Y
end Y
namespace A
end A
section
variable {prog:Program} {w:World} {A:Around} {E:Value->Shared->Prop} {s:Shared}
end
section
variable {X:Cx} {es:List Expr} {tk:Nat} {tp:Pos}
end
namespace Y
end Y
namespace Y
end Y
namespace A
end A
open Builtin Builtin.Str
section
variable {prog:Program} {w:World} {A:Around} {E:Value->Shared->Prop} {s:Shared} {x y:Str} {t u:Tok}
end
section
variable {X:Cx}
end
namespace Y
end Y
namespace A
end A
end L2
namespace L2
open PySem PySem.Spec PyProof PyProof.Rows
inductive Ou where
 | no
 | ok (r:R)
 | ck (c:Prop) (r:R)
def lu(o:Ou)(Q:R->Prop):Prop:=match o with
 | .no=>False
 | .ok r=>Q r
 | .ck c r=>c/\Q r
def rD(o:Option Sl)(i:Nat):Ou:=match o with
 | some (.tr t)=>.ok (.tr t)
 | some (.bx _)=>.ok (.br i)
 | some (.pb _)=>.ok (.br i)
 | _=>.no
def rK(a b:Option T):Ou:=match a,b with
 | some (.int i),some (.int j)=>.ok (.tr (.int (i+j)))
 | some (.str i),some (.str j)=>.ck (i.length+j.length<=sizeLine) (.tr (.str (i++j)))
 | some (.lst xs),some (.lst ys)=>.ck (xs.length+ys.length<=sizeLine) (.fr (.lst (xs++ys)))
 | some (.tup xs),some (.tup ys)=>.ck (xs.length+ys.length<=sizeLine) (.tr (.tup (xs++ys)))
 | _,_=>.no
def oQ(o:Option T):Ou:=match o with
 | some t=>.ok (.tr t)
 | none=>.no
def Cm(a b:Option T):Ou:=match a,b with
 | some (.lst xs),some (.int i)=>oQ (bX xs i)
 | some (.tup xs),some (.int i)=>oQ (bX xs i)
 | some (.d9 xs),some (.int i)=>oQ (bX xs i)
 | some (.str z),some (.int i)=>(match bX z.cps.toList i with | some c=>.ck (z.length<=sizeLine) (.tr (.str ⟨#[c]⟩)) | none=>.no)
 | _,_=>.no
def my(a:T):Ou:=match a with
 | .lst xs=>.ok (.tr (.int xs.length))
 | .tup xs=>.ok (.tr (.int xs.length))
 | .dc xs=>.ok (.tr (.int xs.length))
 | .d9 xs=>.ok (.tr (.int xs.length))
 | .str z=>.ck (z.length<=sizeLine) (.tr (.int z.length))
 | _=>.no
def Ct(a:Option T)(lo hi:Option Int):Ou:=match a with
 | some (.lst xs)=>.ok (.fr (.lst (Y.cq xs lo hi)))
 | some (.dc xs)=>.ok (.fr (.lst (Y.cq xs lo hi)))
 | some (.tup xs)=>.ok (.tr (.tup (Y.cq xs lo hi)))
 | some (.str z)=>.ck (z.length<=sizeLine) (.tr (.str (Y.yJ z lo hi)))
 | _=>.no
theorem iK(p:Prop):(True/\p)=p:=propext ⟨fun h=>h.2,fun h=>⟨trivial,h⟩⟩
theorem FF(o:Option Sl)(i:Nat)(Q:R->Prop):stp (Aq o i) Q=lu (rD o i) Q:=by
 cases o with
 | none=>rfl
 | some s=>cases s<;>first | rfl | exact iK _
theorem Fz(a b:Option T)(Q:R->Prop):stp (AD a b) Q=lu (rK a b) Q:=by
 cases a with
 | none=>rfl
 | some a=>cases b with
  | none=>cases a<;>rfl
  | some b=>cases a<;>cases b<;>first | rfl | exact iK _
theorem b7(a b:Option T)(Q:R->Prop):stp (Gi a b) Q=lu (Cm a b) Q:=by
 cases a with
 | none=>rfl
 | some a=>cases b with
  | none=>cases a<;>rfl
  | some b =>
   cases a<;>cases b<;>first
    | rfl
    | (rename_i xs i;show stp (oT (bX xs i)) Q=lu (oQ (bX xs i)) Q;cases bX xs i with | none=>rfl | some t=>exact iK _)
    | (rename_i z i;show stp (match bX z.cps.toList i with | some c=>some (z.length<=sizeLine,.tr (.str ⟨#[c]⟩)) | none=>none) Q=lu (match bX z.cps.toList i with | some c=>.ck (z.length<=sizeLine) (.tr (.str ⟨#[c]⟩)) | none=>.no) Q;cases bX z.cps.toList i<;>rfl)
theorem FA(a:T)(Q:R->Prop):stp (Ea a) Q=lu (my a) Q:=by cases a<;>first | rfl | exact iK _
theorem GY(a:Option T)(lo hi:Option Int)(Q:R->Prop):stp (Y.Ae a lo hi) Q=lu (Ct a lo hi) Q:=by
 cases a with
 | none=>rfl
 | some a=>cases a<;>first | rfl | exact iK _
namespace Y
def fF(i:Nat):UE:=fun μ Q=>lu (rD μ[i]? i) fun r=>Q r μ
def pf:U2:=fun r1 r2 μ Q=>lu (rK (cont μ r1) (cont μ r2)) fun r=>Q r μ
def xG:U2:=fun r1 r2 μ Q=>lu (Cm (cont μ r1) (cont μ r2)) fun r=>Q r μ
def uH(t:T)(μ:Mu)(Q:R->Mu->Prop):Prop:=lu (my t) fun r=>Q r μ
def xX(ue:UE)(ul uh:UO):UE:=fun μ Q=>ue μ fun r μ1=>ul μ1 fun lo μ2=>uh μ2 fun hi μ3=>lu (Ct (cont μ3 r.d) lo hi) fun r=>Q r μ3
def vH(ue:UE):UI:=fun μ Rt=>ue μ fun r μ'=>Dd (Bp r μ') fun ts g=>Rt ts g μ'
def Ci(n:Nat)(gs:oW):UG:=fun r μ Q=>match rV (cont μ r.d) with | some ts=>ts.length=n/\gs ts μ Q | none=>False
def vR(ue:UE):UT:=fun μ Q=>ue μ fun r μ'=>match tO r with | some b=>Q b μ' | none=>False
theorem Gk(i:Nat):jf i=fF i:=funext fun μ=>funext fun Q=>(A.jf i μ Q).trans (FF _ _ _)
theorem Fu:fq=pf:=funext fun r1=>funext fun r2=>funext fun μ=>funext fun Q=>(A.fq r1 r2 μ Q).trans (Fz _ _ _)
theorem Ha:oi=xG:=funext fun r1=>funext fun r2=>funext fun μ=>funext fun Q=>(A.oi r1 r2 μ Q).trans (b7 _ _ _)
theorem Fc:lU=uH:=funext fun t=>funext fun μ=>funext fun Q=>(A.lU t μ Q).trans (FA _ _)
theorem GS(ue:UE)(ul uh:UO):zQ ue ul uh=xX ue ul uh:=funext fun μ=>funext fun Q=>by
 unfold zQ xX;congr 1;funext r μ1;congr 1;funext lo μ2;congr 1;funext hi μ3;exact GY _ _ _ _
theorem GV(ue:UE):zl ue=vH ue:=funext fun μ=>funext fun Rt=>A.zl ue μ Rt
theorem eT(n:Nat)(gs:oW):gT n gs=Ci n gs:=funext fun r=>funext fun μ=>funext fun Q=>A.gT n gs r μ Q
theorem Gf(ue:UE):mQ ue=vR ue:=funext fun μ=>funext fun Q=>A.mQ ue μ Q
theorem vS{X:Cx}{x:Str}{pos:Pos}(i:Nat)(hN:X.N[i]?=some x:=by rfl)(hv:Bf X.env.scope x:=by first | exact Or.inl rfl | exact Or.inr (Or.inl rfl) | exact Or.inr (Or.inr rfl))(hd:(x ==("__debug__":Str))=false:=by decide)
  (hcd:(x ==("__classdict__":Str))=false:=by decide):YE X (.Name x pos) (fF i):=Gk i ▸ v i hN hv hd hcd
theorem aN{K:PySem.W.Frag}:jj K (vA K) pf:=Fu ▸ z_
theorem aS{K:PySem.W.Frag}:jj K (EI K) xG:=Ha ▸ Ep
theorem bI{K:PySem.W.Frag}:RC K (vO K) (sA uH):=Fc ▸ A9
theorem iM{X:Cx}{e:Expr}{ue:UE}{p2 pos:Pos}{lo hi:Option Expr}{ul uh:UO}(K:PySem.W.Frag)(hK:X.K=K)(he:YE X e ue)(hl:YO X lo ul)(hu:YO X hi uh):YE X (.Subscript e (.Slice lo hi none p2) pos) (xX ue ul uh):=GS ue ul uh ▸ BB K hK he hl hu
theorem anyS{X:Cx}{tg e:Expr}{ue:UE}(K:PySem.W.Frag)(hK:X.K=K)(he:YE X e ue):YI X tg e (vH ue):=GV ue ▸ any K hK he
theorem qx{X:Cx}{es:List Expr}{pos:Pos}(K:PySem.W.Frag)(hK:X.K=K){k n:Nat}{gs:oW}(hc:X.calm=true)(h:CU X es gs)(hn:(assignEach es X.env).length=n:=by rfl)(hst:(assignEach es X.env).findIdx? (·.1)=none:=by rfl):YG X (.Tuple es k pos) (Ci n gs):=eT n gs ▸ mS K hK hc h hn hst
theorem iy{X:Cx}{a:Expr}{ua:UE}(K:PySem.W.Frag)(hK:X.K=K)(ha:YE X a ua)(he:Z.EJ a=true:=by rfl):YT X a (vR ua):=Gf ua ▸ A1 K hK ha he
end Y
namespace A3
theorem A7(r:R)(Q:R->Prop):lu (.ok r) Q=Q r:=rfl
theorem Cd(c:Prop)(r:R)(Q:R->Prop):lu (.ck c r) Q=(c/\Q r):=rfl
theorem Ew(ts:List T)(g:Option (Nat×List T))(Q:List T->Option (Nat×List T)->Prop):Dd (some (ts,g)) Q=Q ts g:=rfl
theorem x3(t:T):oQ (some t)=.ok (.tr t):=rfl
theorem jf(i:Nat)(μ:Mu)(Q:R->Mu->Prop):Y.fF i μ Q=lu (rD μ[i]? i) fun r=>Q r μ:=rfl
theorem fq(r1 r2:R)(μ:Mu)(Q:R->Mu->Prop):Y.pf r1 r2 μ Q=lu (rK (cont μ r1) (cont μ r2)) fun r=>Q r μ:=rfl
theorem Cq(r1 r2:R)(μ:Mu)(Q:R->Mu->Prop):Y.xG r1 r2 μ Q=lu (Cm (cont μ r1) (cont μ r2)) fun r=>Q r μ:=rfl
theorem lU(t:T)(μ:Mu)(Q:R->Mu->Prop):Y.uH t μ Q=lu (my t) fun r=>Q r μ:=rfl
theorem FI(ue:UE)(ul uh:UO)(μ:Mu)(Q:R->Mu->Prop):Y.xX ue ul uh μ Q=ue μ fun r μ1=>ul μ1 fun lo μ2=>uh μ2 fun hi μ3=>lu (Ct (cont μ3 r.d) lo hi) fun r=>Q r μ3:=rfl
theorem zl(ue:UE)(μ:Mu)(Rt:List T->Option (Nat×List T)->Mu->Prop):Y.vH ue μ Rt=ue μ fun r μ'=>Dd (Bp r μ') fun ts g=>Rt ts g μ':=rfl
theorem gT(n:Nat)(gs:oW)(r:R)(μ:Mu)(Q:Mu->Prop):Y.Ci n gs r μ Q=(match rV (cont μ r.d) with | some ts=>ts.length=n/\gs ts μ Q | none=>False):=rfl
theorem mQ(ue:UE)(μ:Mu)(Q:Bool->Mu->Prop):Y.vR ue μ Q=ue μ fun r μ'=>match tO r with | some b=>Q b μ' | none=>False:=rfl
theorem Fh(t:T)(i:Nat):rD (some (.tr t)) i=.ok (.tr t):=rfl
theorem Gu(t:T)(i:Nat):rD (some (.bx t)) i=.ok (.br i):=rfl
theorem Gy(t:T)(i:Nat):rD (some (.pb t)) i=.ok (.br i):=rfl
theorem DO(i j:Int):rK (some (.int i)) (some (.int j))=.ok (.tr (.int (i+j))):=rfl
theorem DT(i j:Str):rK (some (.str i)) (some (.str j))=.ck (i.length+j.length<=sizeLine) (.tr (.str (i++j))):=rfl
theorem add_l(xs ys:List T):rK (some (.lst xs)) (some (.lst ys))=.ck (xs.length+ys.length<=sizeLine) (.fr (.lst (xs++ys))):=rfl
theorem Gp(xs:List T)(i:Int):Cm (some (.lst xs)) (some (.int i))=oQ (bX xs i):=rfl
theorem FD(xs:List T)(i:Int):Cm (some (.tup xs)) (some (.int i))=oQ (bX xs i):=rfl
theorem Fp(z:Str)(i:Int):Cm (some (.str z)) (some (.int i))=(match bX z.cps.toList i with | some c=>.ck (z.length<=sizeLine) (.tr (.str ⟨#[c]⟩)) | none=>.no):=rfl
theorem Dc(xs:List T):my (.lst xs)=.ok (.tr (.int xs.length)):=rfl
theorem C_(xs:List T):my (.tup xs)=.ok (.tr (.int xs.length)):=rfl
theorem DC(xs:List T):my (.dc xs)=.ok (.tr (.int xs.length)):=rfl
theorem Eu(z:Str):my (.str z)=.ck (z.length<=sizeLine) (.tr (.int z.length)):=rfl
theorem G1(xs:List T)(lo hi:Option Int):Ct (some (.lst xs)) lo hi=.ok (.fr (.lst (Y.cq xs lo hi))):=rfl
theorem FP(xs:List T)(lo hi:Option Int):Ct (some (.dc xs)) lo hi=.ok (.fr (.lst (Y.cq xs lo hi))):=rfl
theorem FL(xs:List T)(lo hi:Option Int):Ct (some (.tup xs)) lo hi=.ok (.tr (.tup (Y.cq xs lo hi))):=rfl
end A3
open Builtin Builtin.Str
section
variable {prog:Program} {w:World} {A:Around} {E:Value->Shared->Prop} {h:Heap} {g:Array GenState} {d:Drawn} {t:Nat} {os:OsState} {a:Addr} {items:Array Value} {cn:Nat}
end
section
variable {prog:Program} {w:World} {K:Type} [DecidableEq K] {knd:KeyKind prog w K} {A:Around} {R:Result->Shared->Prop}
end
end L2
namespace L2
open PySem PySem.Spec PyProof PyProof.Rows
namespace Y
end Y
namespace A
end A
namespace Z
section
variable {X:Cx} {CX:lj} {k:Nat} {f C:Addr} {fd:FuncData} {ps:List Str} {sp:Sp} {E:XK} {x m nm:Str} {p pos pos' apos:Pos} {e o i value:Expr} {es:List Expr} {ta tv td ty:TE} {t:TA}
end
end Z
namespace Ap
end Ap
section
variable {prog:Program} {w:World} {A:Around} {E:Value->Shared->Prop} {s:Shared} {K:PySem.W.Frag} {a:Addr} {D:List (Str×List Str)} {k:Str} {tk:Tok}
theorem rR{ws:List Str}{Q:Value->Shared->Prop}(T:ki K a D)(X:K.In s.heap)(hk:KTD.datumAt k D=some ws)(h:∀ v,vh K ws v->Q v { s with toks:=s.toks+1 }):wpAny (model prog w) A (getItem (.ref a) (.str k tk)) Q E s:=by
 have hT:=T.typeIs X;unfold getItem
 try with_reducible refine wpAny_holding ?_
 refine wpAny_bind (wpAny_sequenceKey hT (by decide) ?_)
 refine wpAny_bind (wpAny_callSpecial?_slot (name:=Str.ofString "__getitem__") hT PySem.F.slot_dict_getitem
  (wpAny_call_entry PySem.F.slot_dict_getitem hT PySem.F.entry_dict_getitem ?_ (args_dict_getitem _ _)))
 show wpAny _ _ (dictGet a (.str k tk) >>= _) _ _ s;refine wpAny_bind (wu T X (fun d v e r=>?_) fun e=>?_)
 ·rw[hk] at e;cases e;exact wpAny_pure ⟨v,rfl,wpAny_pure (h v r)⟩
 ·rw[hk] at e;cases e
end
def Gq(K:PySem.W.Frag)(D:List (Str×List Str))(te:TE):TE:=fun σ H Q=>te σ H fun y H1=>∃ k ws,y=.str k/\KTD.datumAt k D=some ws/\∀ p,Di K p (ws.map V.str)->Q (.ref p) H1
theorem B8{X:Cx}{o e:Expr}{te:TE}{pos:Pos}{d:Addr}{D:List (Str×List Str)}(ho:PE X o (tC (.ref d)))(hD:ki X.K d D)(he:PE X e te)(hs:AM e):PE X (.Subscript o e pos) (Gq X.K D te):=by
 intro pins s σ H Q I h;refine yp PySem.F.slot_dict_getitem.lookup hs (bJ (ho pins s σ H (fun v H'=>v=.ref d/\H'=H) I ⟨rfl,rfl⟩) fun u s1 ⟨x,H1,I1,rx,ex,eh⟩=>?_);subst ex eh;obtain rfl:u=Value.ref d:=rx;refine bJ (he pins s1 σ H1 _ I1 h) fun iv s2 ⟨y,H2,I2,ry,k,ws,ek,e1,q⟩=>?_;subst ek;obtain⟨t,rfl⟩:=ry;refine⟨hD.typeIs I2.fo,rR hD I2.fo e1 fun v r=>?_⟩;obtain⟨p,rfl,r⟩:=r;exact⟨.ref p,H2,I2.tok _,rfl,q p r⟩
theorem Z.seq{X:Cx}{tg l:Expr}{tl:TE}(K:PySem.W.Frag)(hK:X.K=K)(hl:QE X l tl):QI X tg l (sS K tl):=by subst hK;exact⟨tJ hl.h⟩
theorem Ap.sS(K:PySem.W.Frag)(tl:TE)(σ:St)(H:Hp)(R:It->Hp->Prop):L2.sS K tl σ H R=tl σ H fun x H1=>∃ a,x=V.ref a/\(((∃ xs,bA K H1 a xs)/\R (qf K a) H1)\/((∃ xs,bj K H1 a xs)/\R (sF K a) H1)):=rfl
namespace Y
def ye(D:List (Str×List Str))(ue:UE):UE:=fun μ Q=>ue μ fun r μ'=>match r with
 | .tr (.str k)=>(match KTD.datumAt k D with
  | some ws=>Q (.tr (.d9 (ws.map T.str))) μ'
  | none=>False)
 | _=>False
theorem GU{X:Cx}{e:Expr}{ue:UE}{x:Str}{pos p:Pos}{D:List (Str×List Str)}(K:PySem.W.Frag)(hK:X.K=K)(hg:Gl X x)(hd:∃ d,X.mg x=some (.ref d)/\ki K d D)(he:YE X e ue)(hs:AM e:=by exact fun _ _=>rfl)(hdb:(x ==("__debug__":Str))=false:=by decide):
  YE X (.Subscript (.Name x p) e pos) (ye D ue):=by
 obtain⟨t,q,r⟩:=he;obtain⟨d,hm,hd⟩:=hd;subst hK;refine⟨_,⟨B8 (kr hg hm rfl hdb) hd q.h hs⟩,fun F ad B σ H μ Q Qt hF l q k=>r F ad B σ H μ _ _ hF l q fun v H' r1 μ' v1 f k1 q1=>?_⟩
 split at q1
 ·rename_i z;obtain⟨l1,rp⟩:=v1;cases rp
  cases e1:KTD.datumAt z D with
  | none=>rw[e1] at q1;exact q1.elim
  | some ws =>
   rw[e1] at q1;exact⟨z,ws,rfl,e1,fun p kt=>k _ H' (.tr (.d9 (ws.map T.str))) μ' ⟨l1,.d9 (by rw[hF];exact kt) (jH ws)⟩ f.d k1 q1⟩
 ·exact q1.elim
end Y
namespace A
theorem ye(D:List (Str×List Str))(ue:UE)(μ:Mu)(Q:R->Mu->Prop):Y.ye D ue μ Q=ue μ fun r μ'=>match r with
 | .tr (.str k)=>(match KTD.datumAt k D with
  | some ws=>Q (.tr (.d9 (ws.map T.str))) μ'
  | none=>False)
 | _=>False:=rfl
end A
namespace Y
end Y
namespace A
end A
namespace Y
def u4:V->List V->Hp->VK->Prop:=fun x vs H Q=>∃ (z y:Str) (i:Nat) (rest:List Nat),x=.str z/\vs=[.str y]/\Builtin.Str.occurrences z y 0 z.length 1=i::rest/\Q (.int (i:Nat)) H
theorem sO{X:Cx}:wH X "str.index" u4:=by
 intro pins s σ H x xs v us Q I rx rs h;obtain⟨z,y,i,rest,rfl,rfl,ho,q⟩:=h;obtain⟨t,rfl⟩:=rx;obtain⟨u,rfl,k,rfl⟩:=vals1 rs;exact SC.index ho ⟨.int _,H,I.tok _,⟨_,rfl⟩,q⟩
def jb:CB:=fun z rs μ Q=>match rs with
 | [.tr (.str y)]=>∃ (i:Nat) (rest:List Nat),Builtin.Str.occurrences z y 0 z.length 1=i::rest/\Q (.tr (.int (i:Nat))) μ
 | _=>False
theorem u0{K:PySem.W.Frag}:G8 K u4 jb:=by
 intro F ad B σ H μ Q Qt z xs rs hF l ps q k;unfold jb at q
 split at q
 ·cases ps with
  | cons h ps =>
   cases ps
   cases bG h
   obtain⟨i,rest,ho,q⟩:=q;exact⟨z,_,i,rest,rfl,rfl,ho,k _ H _ μ (Vr.flat l (.int _)) Fr.refl (Kp.refl μ) q⟩
 ·exact q.elim
def DX:V->List V->Hp->VK->Prop:=fun x vs H Q=>∃ (a:Addr) (ws:List Str) (k:Str) (j:Nat),x=.ref a/\H a=some (.lst (ws.map V.str))/\vs=[.str k]/\ws[j]?=some k/\(∀ m,m < j->ws[m]?≠some k)/\Q (.int (j:Nat)) H
theorem pU{X:Cx}:DV X "list.index" DX:=by
 intro pins s σ H x xs v us Q I rx rs h;obtain⟨a,ws,k,j,rfl,hH,rfl,hj,hno,q⟩:=h;cases rx;obtain⟨u,rfl,t,rfl⟩:=vals1 rs;obtain⟨z,its,n,r,hl,e⟩:=I.kZ hH;obtain⟨t',hit⟩:=fj r j k hj;have hjl:j < ws.length:=(List.getElem?_eq_some_iff.mp hj).1;rw[List.length_map] at z hl;have hji:j < its.toArray.size:=by rw[List.size_toArray];lia
 have sz:(sizeLine:Int) < 2 ^ 63 - 1:=by decide
 have hje:its.toArray[j]=.str k t':=by
  have:its.toArray[j]?=some (.str k t'):=by rw[List.getElem?_toArray];exact hit
  exact (Array.getElem?_eq_some_iff.mp this).2
 have hall:∀ (m:Nat) (hm:m < its.toArray.size),∃ y ty,its.toArray[m]=.str y ty/\ws[m]?=some y:=fun m hm=>by
  have hm':m < ws.length:=by rw[List.size_toArray] at hm;lia
  have e1:=List.getElem?_eq_getElem hm';obtain⟨ty,hy⟩:=fj r m _ e1;have:its.toArray[m]?=some (.str ws[m] ty):=by rw[List.getElem?_toArray];exact hy
  exact⟨_,ty,(Array.getElem?_eq_some_iff.mp this).2,e1⟩
 refine call_meets PySem.F.slot_list_index ⟨_,e,rfl⟩ PySem.F.entry_list_index (PySem.F.args_list_index_2 _ _) (SeqAt.list_indexAt a its.toArray n none _ (.str k t) (fun y=>match y with | .str y _=>y == k | _=>false) j hji (by lia) (by rw[hje];exact beq_self_eq_true k) fun m hm hmj=>?_) ⟨e,fun y hy=>?_,⟨.int (j:Nat),H,I.tok _,⟨_,rfl⟩,q⟩⟩
 ·obtain⟨y,ty,ey,ew⟩:=hall m hm;rw[ey];exact beq_eq_false_iff_ne.mpr fun z=>hno m hmj (by rw[ew,z])
 ·obtain⟨m,hm,rfl⟩:=Array.mem_iff_getElem.mp hy;obtain⟨y,ty,ey,ew⟩:=hall m hm;rw[ey];exact SeqAt.EqAt.str_str _ _ _ _
end Y
namespace A
theorem jb(z y:Str)(μ:Mu)(Q:R->Mu->Prop):Y.jb z [.tr (.str y)] μ Q=(∃ (i:Nat) (rest:List Nat),Builtin.Str.occurrences z y 0 z.length 1=i::rest/\Q (.tr (.int (i:Nat))) μ):=rfl
end A
namespace SS
def ky(p:Keyed):Int:=numOf p.1
def ff(a:Int)(xs:List Keyed):List Keyed:=xs.filter fun p=>decide (ky p=a)
theorem fb(a:Int)(xs ys:List Keyed):ff a (xs++ys)=ff a xs++ff a ys:=List.filter_append ..
theorem oI{a:Int}{xs:List Keyed}(h:∀ p∈xs,ky p≠a):ff a xs=[]:=by
 unfold ff;rw[List.filter_eq_nil_iff];intro p hp
 simpa using h p hp
def St(xs ys:List Keyed):Prop:=∀ a,ff a xs=ff a ys
theorem St.trans{xs ys zs:List Keyed}(h:St xs ys)(g:St ys zs):St xs zs:=fun a=>(h a).trans (g a)
theorem St.past{p m r:List Keyed}{y:Keyed}(h:∀ q∈m,ky q≠ky y):St (p++y::m++r) (p++m++y::r):=by
 intro a;have e1:p++y::m++r=p++([y]++m)++r:=by simp
 have e2:p++m++y::r=p++(m++[y])++r:=by simp
 rw[e1,e2,fb,fb,fb,fb,fb];congr 2;by_cases c:ky y=a
 ·have:ff a m=[]:=oI fun q hq=>by rw[<- c];exact h q hq
  rw[fb,this,List.append_nil,List.nil_append]
 ·have:ff a [y]=[]:=oI fun q hq=>by rw[List.mem_singleton.mp hq];exact c
  rw[fb,this,List.append_nil,List.nil_append]
theorem uQ{xs:Array Keyed}{k l:Nat}{y:Keyed}(hy:xs[k]?=some y)(hl:l<=k):(bubble xs k (k - l)).toList=xs.toList.take l++y::(xs.toList.drop l).take (k - l)++xs.toList.drop (k+1):=by
 have hk:k < xs.size:=(Array.getElem?_eq_some_iff.mp hy).1;have hL:xs.toList.length=xs.size:=by simp
 apply List.ext_getElem?;intro i;rw[Array.getElem?_toList,getElem?_bubble hk _ (by lia),show k - (k - l)=l by lia]
 rw[List.append_assoc,List.getElem?_append];have ht:(xs.toList.take l).length=l:=by rw[List.length_take];lia
 rw[ht];by_cases h1:i < l
 ·rw[if_pos h1,if_neg (by lia),if_neg (by lia),List.getElem?_take,if_pos h1,Array.getElem?_toList]
 ·rw[if_neg h1];by_cases h2:i=l
  ·subst h2;rw[if_pos rfl,Nat.sub_self,hy];rfl
  ·rw[if_neg h2,show i - l=(i - l - 1)+1 by lia,List.cons_append,List.getElem?_cons_succ,List.getElem?_append]
   have hm:((xs.toList.drop l).take (k - l)).length=k - l:=by rw[List.length_take,List.length_drop];lia
   rw[hm];by_cases h3:i - l - 1 < k - l
   ·rw[if_pos h3,if_pos (by lia),List.getElem?_take,if_pos h3,List.getElem?_drop,Array.getElem?_toList]
    congr 1;lia
   ·rw[if_neg h3,if_neg (by lia),List.getElem?_drop,Array.getElem?_toList]
    congr 1;lia
theorem iY{xs:Array Keyed}{i j:Nat}(hi:i<=j)(hj:j<=xs.size):(mirror xs i j ((j - i) / 2)).toList=xs.toList.take i++((xs.toList.drop i).take (j - i)).reverse++xs.toList.drop j:=by
 have hL:xs.toList.length=xs.size:=by simp
 apply List.ext_getElem?;intro k;rw[Array.getElem?_toList,getElem?_mirror_all hj,List.append_assoc,List.getElem?_append];have ht:(xs.toList.take i).length=i:=by rw[List.length_take];lia
 have hm:((xs.toList.drop i).take (j - i)).length=j - i:=by rw[List.length_take,List.length_drop];lia
 rw[ht];by_cases h1:k < i
 ·rw[if_pos h1,if_neg (by lia),List.getElem?_take,if_pos h1,Array.getElem?_toList]
 ·rw[if_neg h1,List.getElem?_append,List.length_reverse,hm];by_cases h2:k < j
  ·rw[if_pos (by lia),if_pos (by lia),List.getElem?_reverse (by lia),hm,List.getElem?_take,if_pos (by lia),List.getElem?_drop,Array.getElem?_toList]
   congr 1;lia
  ·rw[if_neg (by lia),if_neg (by lia),List.getElem?_drop,Array.getElem?_toList]
   congr 1;lia
theorem jw{xs:Array Keyed}{i:Nat}{p:Keyed}(h:xs[i]?=some p):K xs i=ky p:=by unfold K ky;rw[h]
theorem kT{xs:Array Keyed}{i n:Nat}{p:Keyed}(h:p∈(xs.toList.drop i).take n):∃ j,i<=j/\j < i+n/\xs[j]?=some p:=by
 obtain⟨m,hm⟩:=List.mem_iff_getElem?.mp h;rw[List.getElem?_take] at hm
 split at hm
 ·rw[List.getElem?_drop,Array.getElem?_toList] at hm;exact⟨i+m,by lia,by lia,hm⟩
 ·cases hm
theorem nY{xs:Array Keyed}{i:Nat}(h:i < xs.size):∃ p,xs[i]?=some p:=⟨xs[i],by rw[Array.getElem?_eq_getElem h]⟩
theorem St.GO{xs:Array Keyed}{k l:Nat}(hk:k < xs.size)(hl:l<=k)(h:∀ i,l<=i->i < k->K xs k < K xs i):St (bubble xs k (k - l)).toList xs.toList:=by
 obtain⟨y,hy⟩:=nY hk;rw[uQ hy hl];have e:xs.toList=xs.toList.take l++(xs.toList.drop l).take (k - l)++y::xs.toList.drop (k+1):=by
  have hk':k < xs.toList.length:=by simpa using hk
  have ey:xs.toList[k]=y:=by
   have:xs.toList[k]?=some y:=by rw[Array.getElem?_toList];exact hy
   exact (List.getElem?_eq_some_iff.mp this).2
  rw[<- ey,<- List.drop_eq_getElem_cons hk',List.append_assoc];have:(xs.toList.drop l).take (k - l)++xs.toList.drop k=xs.toList.drop l:=by
   have:=List.take_append_drop (k - l) (xs.toList.drop l);rw[List.drop_drop,show l+(k - l)=k by lia] at this
   exact this
  rw[this,List.take_append_drop]
 have:=St.past (p:=xs.toList.take l) (m:=(xs.toList.drop l).take (k - l)) (r:=xs.toList.drop (k+1)) (y:=y) fun q hq=>by
  obtain⟨j,h1,h2,h3⟩:=kT hq;have:=h j h1 (by lia)
  rw[jw h3,jw hy] at this;lia
 rw[<- e] at this;exact this
def AS(n:Nat)(xs:Array Keyed)(a0:List Keyed):Prop:=St ((xs.toList.take n).reverse++xs.toList.drop n) a0
theorem AS.GZ{n:Nat}{xs:Array Keyed}{a0:List Keyed}(hn:n<=xs.size)(h:AS n xs a0):St (mirror xs 0 n ((n - 0) / 2)).toList a0:=by
 rw[iY (Nat.zero_le _) hn];have:xs.toList.take 0++((xs.toList.drop 0).take (n - 0)).reverse++xs.toList.drop n=(xs.toList.take n).reverse++xs.toList.drop n:=by simp
 rw[this];exact h
theorem AS.AG{n:Nat}{xs:Array Keyed}{a0:List Keyed}(hn:n<=xs.size)(h:St xs.toList a0):AS n (mirror xs 0 n ((n - 0) / 2)) a0:=by
 unfold AS;rw[iY (Nat.zero_le _) hn];have hl:(xs.toList.take n).reverse.length=n:=by rw[List.length_reverse,List.length_take];simp;lia
 have e1:xs.toList.take 0++((xs.toList.drop 0).take (n - 0)).reverse++xs.toList.drop n=(xs.toList.take n).reverse++xs.toList.drop n:=by simp
 rw[e1,List.take_left' hl,List.drop_left' hl,List.reverse_reverse,List.take_append_drop];exact h
theorem AS.less{n:Nat}{xs:Array Keyed}{a0:List Keyed}(hn:n < xs.size)(h:AS n xs a0)(hl:∀ i,i < n->K xs n < K xs i):AS (n+1) xs a0:=by
 obtain⟨y,hy⟩:=nY hn;have hn':n < xs.toList.length:=by simpa using hn
 have ey:xs.toList[n]?=some y:=by rw[Array.getElem?_toList];exact hy
 have e1:(xs.toList.take (n+1)).reverse=y::(xs.toList.take n).reverse:=by rw[List.take_succ,ey];simp
 have e2:xs.toList.drop n=y::xs.toList.drop (n+1):=by rw[List.drop_eq_getElem_cons hn',(List.getElem?_eq_some_iff.mp ey).2]
 unfold AS at h ⊢;rw[e2] at h;rw[e1];refine St.trans ?_ h;exact St.past (p:=[]) (m:=(xs.toList.take n).reverse) (r:=xs.toList.drop (n+1)) (y:=y) fun q hq=>by
  have hq':q∈(xs.toList.drop 0).take n:=by simpa using List.mem_reverse.mp hq
  obtain⟨j,_,h2,h3⟩:=kT hq';have:=hl j (by lia)
  rw[jw h3,jw hy] at this;lia
theorem AS.same{n q:Nat}{xs:Array Keyed}{a0:List Keyed}(hn:n < xs.size)(hq:q+1<=n)(h:AS n (mirror xs (n - (q+1)) n ((n - (n - (q+1))) / 2)) a0)(hs:∀ i,i < n - (q+1)->K xs n < K xs i):AS (n+1) (mirror xs (n+1 - (q+1+1)) (n+1) ((n+1 - (n+1 - (q+1+1))) / 2)) a0:=by
 obtain⟨y,hy⟩:=nY hn;have hL:xs.toList.length=xs.size:=by simp
 have hn':n < xs.toList.length:=by lia
 have ey:xs.toList[n]?=some y:=by rw[Array.getElem?_toList];exact hy
 obtain⟨m,hm⟩:∃ m,n - (q+1)=m:=⟨_,rfl⟩;have hm2:n+1 - (q+1+1)=m:=by lia
 rw[hm] at h hs;rw[hm2];unfold AS at h ⊢;rw[iY (by lia) (by lia)] at h ⊢
 obtain⟨p,hp⟩:∃ p,p=xs.toList.take m:=⟨_,rfl⟩;obtain⟨S,hS⟩:∃ S,S=(xs.toList.drop m).take (n - m):=⟨_,rfl⟩;have hpl:p.length=m:=by rw[hp,List.length_take];lia
 have hSl:S.length=n - m:=by rw[hS,List.length_take,List.length_drop];lia
 have e1:(xs.toList.drop m).take (n+1 - m)=S++[y]:=by
  rw[show n+1 - m=(n - m)+1 by lia,List.take_succ,<- hS,List.getElem?_drop,show m+(n - m)=n by lia,ey];rfl
 have e2:xs.toList.drop n=y::xs.toList.drop (n+1):=by rw[List.drop_eq_getElem_cons hn',(List.getElem?_eq_some_iff.mp ey).2]
 rw[<- hp,<- hS,e2] at h;rw[<- hp,e1];have l1:(p++S.reverse).length=n:=by rw[List.length_append,List.length_reverse];lia
 have l2:(p++(S++[y]).reverse).length=n+1:=by rw[List.length_append,List.length_reverse,List.length_append];simp;lia
 rw[List.take_left' l1,List.drop_left' l1,List.reverse_append,List.reverse_reverse] at h;rw[List.take_left' l2,List.drop_left' l2,List.reverse_append,List.reverse_reverse];refine St.trans ?_ h;have:=St.past (p:=S) (m:=p.reverse) (r:=xs.toList.drop (n+1)) (y:=y) fun z hz=>by
  have hz':z∈(xs.toList.drop 0).take m:=by rw[List.drop_zero,<- hp];exact List.mem_reverse.mp hz
  obtain⟨j,_,h2,h3⟩:=kT hz';have:=hs j (by lia)
  rw[jw h3,jw hy] at this;lia
 simpa using this
theorem AS.one{xs:Array Keyed}{a0:List Keyed}(h:St xs.toList a0):AS 1 xs a0:=by
 unfold AS;have:(xs.toList.take 1).reverse++xs.toList.drop 1=xs.toList:=by cases xs.toList<;>rfl
 rw[this];exact h
theorem sW{xs:Array Keyed}{i j:Nat}(hj:j<=xs.size)(he:∀ k,i<=k->k < j->K xs k=K xs (j - 1))(k:Nat):K (mirror xs i j ((j - i) / 2)) k=K xs k:=by
 have e:=getElem?_mirror_all (i:=i) hj k;by_cases h1:i<=k/\k < j
 ·rw[if_pos h1] at e;rw[K_congr e,he _ (by lia) (by lia),he k h1.1 h1.2]
 ·rw[if_neg h1] at e;exact K_congr e
theorem fB(xs:Array Keyed)(n:Nat):mirror xs (n - 1) n ((n - (n - 1)) / 2)=xs:=by
 have:(n - (n - 1)) / 2=0:=by lia
 rw[this];rfl
end SS
namespace SS
section
variable {prog:Program} {w:World} {A:Around} {E:Value->Shared->Prop} {s:Shared} {a₀:Array Keyed}
def Al(xs:Array Keyed)(n:Nat):Prop:=∀ i j,i<=j->j < n->K xs j<=K xs i
theorem oJ{st:SortSt}{n r:Nat}{Q:Option Nat->SortSt->Prop}(h0:IntKeys a₀)(hr:r<=a₀.size)(h1:1<=n)(hnr:n<=r)(hB:SBase a₀ st)(hf:Al (arrOf st) n)(ha:AS n (arrOf st) a₀.toList)
  (h:∀ m st',SBase a₀ st'->1<=m->m<=r->SortedTo (arrOf st') m->St (arrOf st').toList a₀.toList->Q (some m) st'):wpS (model prog w) A E s (tail3 n r) Q st:=by
 unfold tail3;have hz:n<=(arrOf st).size:=by have:=hB.size;lia
 refine wpS_bind (wpS_reverse ?_);have hB2:=hB.setArr (mirror_perm (arrOf st) 0 n ((n - 0) / 2));have hs2:SortedTo (mirror (arrOf st) 0 n ((n - 0) / 2)) n:=fun i j hij hj=>by
  have ei:=K_congr ((getElem?_mirror_all (i:=0) hz i).trans (if_pos ⟨Nat.zero_le _,by lia⟩))
  have ej:=K_congr ((getElem?_mirror_all (i:=0) hz j).trans (if_pos ⟨Nat.zero_le _,hj⟩));rw[ei,ej];exact hf _ _ (by lia) (by lia)
 refine wpS_bind (wpS_ascLoop h0 hr h1 hnr hB2 hs2 fun m m1 m2 m3 _=>?_);exact wpS_pure (h m _ hB2 (by lia) m2 m3 (AS.GZ hz ha))
def DI(a₀:Array Keyed)(x q:Nat)(st:SortSt):Prop:=SBase a₀ st/\Al (arrOf st) x/\q+1<=x/\(∀ i,x - (q+1)<=i->i < x->K (arrOf st) i=K (arrOf st) (x - 1))/\(∀ i,i < x - (q+1)->K (arrOf st) (x - 1) < K (arrOf st) i)/\AS x (mirror (arrOf st) (x - (q+1)) x ((x - (x - (q+1))) / 2)) a₀.toList
theorem yI{st:SortSt}{n r:Nat}{Q:DescSt->SortSt->Prop}(h0:IntKeys a₀)(hr:r<=a₀.size)(hnr:n<=r)(hI:DI a₀ n 0 st)
  (h:∀ m q st',n<=m->m<=r->DI a₀ m q st'->Q (none,m,q) st'):wpS (model prog w) A E s (descLoop n r) Q st:=by
 unfold descLoop;refine wpS_forRange (I:=fun x c st'=>∃ q,c=(none,x,q)/\DI a₀ x q st') ?_ ?_ ⟨0,rfl,hI⟩
 ·rintro x c st' hx hxr ⟨q,rfl,hB,hf,hq,he,hl,ha⟩;dsimp only;have hz:(arrOf st').size=a₀.size:=hB.size;have hx1:1<=x:=by lia
  refine wpS_bind (wpS_ltK hB h0 (by lia) (by lia) ?_)
  have lastK:∀ i,i < x->K (arrOf st') (x - 1)<=K (arrOf st') i:=fun i hi=>hf i (x - 1) (by lia) (by lia)
  by_cases c1:K (arrOf st') x < K (arrOf st') (x - 1)
  ·rw[decide_eq_true c1];simp only[if_true];have key:∀ ys:Array Keyed,ys.size=a₀.size->(∀ k,K ys k=K (arrOf st') k)->AS x ys a₀.toList->Al ys (x+1)/\(∀ i,i < x->K ys x < K ys i)/\AS (x+1) ys a₀.toList:=fun ys hys hk hA=>by
    have hlt:∀ i,i < x->K ys x < K ys i:=fun i hi=>by
     rw[hk,hk];have:=lastK i hi;lia
    refine⟨fun i j hij hj=>?_,hlt,AS.less (by lia) hA hlt⟩
    by_cases hj2:j < x
    ·rw[hk,hk];exact hf i j hij hj2
    ·obtain rfl:j=x:=by lia
     by_cases hi2:i=j
     ·subst hi2;exact Int.le_refl _
     ·exact Int.le_of_lt (hlt i (by lia))
   have fin:∀ ys:Array Keyed,ys.Perm (arrOf st')->(∀ k,K ys k=K (arrOf st') k)->AS x ys a₀.toList->DI a₀ (x+1) 0 (setArr st' ys):=fun ys hp hk hA=>by
    obtain⟨k1,k2,k3⟩:=key ys (by rw[hp.size_eq,hz]) hk hA
    refine⟨hB.setArr hp,k1,by lia,fun i i1 i2=>?_,fun i i1=>?_,?_⟩
    ·obtain rfl:i=x:=by lia
     rfl
    ·exact k2 i (by lia)
    ·show AS (x+1) (mirror ys (x+1 - 1) (x+1) ((x+1 - (x+1 - 1)) / 2)) a₀.toList;rw[fB];exact k3
   by_cases c2:q > 0
   ·rw[if_pos c2];exact wpS_bind (wpS_reverse (wpS_pure ⟨0,rfl,fin _ (mirror_perm _ _ _ _) (fun k=>sW (by lia) he k) ha⟩))
   ·rw[if_neg c2];obtain rfl:q=0:=by lia
    rw[fB] at ha;exact wpS_pure ⟨0,rfl,fin (arrOf st') (Array.Perm.refl _) (fun _=>rfl) ha⟩
  ·rw[decide_eq_false c1];simp only[Bool.false_eq_true,if_false];refine wpS_bind (wpS_ltK hB h0 (by lia) (by lia) ?_)
   by_cases c3:K (arrOf st') (x - 1) < K (arrOf st') x
   ·rw[decide_eq_true c3];simp only[if_true];exact wpS_pure (h x q st' hx (by lia) ⟨hB,hf,hq,he,hl,ha⟩)
   ·rw[decide_eq_false c3];simp only[Bool.false_eq_true,if_false];have ex:K (arrOf st') x=K (arrOf st') (x - 1):=by lia
    refine wpS_pure ⟨q+1,rfl,hB,fun i j hij hj=>?_,by lia,fun i i1 i2=>?_,fun i i1=>?_,AS.same (by lia) hq ha fun i hi=>by rw[ex];exact hl i hi⟩
    ·by_cases hj2:j < x
     ·exact hf i j hij hj2
     ·obtain rfl:j=x:=by lia
      by_cases hi2:i=j
      ·subst hi2;exact Int.le_refl _
      ·rw[ex];exact lastK i (by lia)
    ·show K (arrOf st') i=K (arrOf st') x;by_cases hi2:i=x
     ·rw[hi2]
     ·rw[ex];exact he i (by lia) (by lia)
    ·show K (arrOf st') x < K (arrOf st') i;rw[ex];exact hl i (by lia)
 ·rintro c st' ⟨q,rfl,hD⟩;rw[show max n r=r by lia] at hD ⊢
  exact h r q st' hnr (Nat.le_refl _) hD
theorem gm{st:SortSt}{n r:Nat}{Q:Option Nat->SortSt->Prop}(h0:IntKeys a₀)(hr:r<=a₀.size)(hnr:n+1<=r)(hI:DI a₀ (n+1) 0 st)
  (h:∀ m st',SBase a₀ st'->1<=m->m<=r->SortedTo (arrOf st') m->St (arrOf st').toList a₀.toList->Q (some m) st'):wpS (model prog w) A E s (descPart n r) Q st:=by
 unfold descPart;refine wpS_bind (wpS_lift (wpAny_rule ⟨rfl,?_⟩));refine wpS_bind (yI h0 hr hnr hI fun m q st' m1 m2 ⟨hB,hf,hq,he,hl,ha⟩=>?_);dsimp only;have hz:(arrOf st').size=a₀.size:=hB.size;by_cases c:q > 0
 ·rw[if_pos c];refine wpS_bind (wpS_reverse (oJ h0 hr (by lia) m2 (hB.setArr (mirror_perm _ _ _ _)) ?_ ha h))
  intro i j hij hj;have k:=sW (xs:=arrOf st') (i:=m - (q+1)) (j:=m) (by lia) he
  show K (mirror (arrOf st') (m - (q+1)) m ((m - (m - (q+1))) / 2)) j<=K (mirror (arrOf st') (m - (q+1)) m ((m - (m - (q+1))) / 2)) i;rw[k,k];exact hf i j hij hj
 ·rw[if_neg c];obtain rfl:q=0:=by lia
  rw[fB] at ha;exact oJ h0 hr (by lia) m2 hB hf ha h
theorem AV{st:SortSt}{r:Nat}{Q:Option Nat->SortSt->Prop}(h0:IntKeys a₀)(hr:r<=a₀.size)(h1:1<=r)(hB:SBase a₀ st)(hS:St (arrOf st).toList a₀.toList)
  (h:∀ m st',SBase a₀ st'->1<=m->m<=r->SortedTo (arrOf st') m->St (arrOf st').toList a₀.toList->Q (some m) st'):wpS (model prog w) A E s (countRun' 0 r) Q st:=by
 rw[countRun0_eq];have hz:(arrOf st).size=a₀.size:=hB.size;have h11:SortedTo (arrOf st) 1:=fun i j hij hj=>by
  obtain rfl:i=j:=by lia
  exact Int.le_refl _
 refine wpS_bind (wpS_ascLoop h0 hr (Nat.le_refl 1) h1 hB h11 fun n n1 n2 n3 n4=>?_);dsimp only;by_cases c0:n=r
 ·rw[if_pos (by simpa using c0)]
  exact wpS_pure (h n st hB n1 n2 n3 hS)
 ·rw[if_neg (by simpa using c0)]
  have hlt:=n4.resolve_left c0;by_cases c1:n > 1
  ·rw[if_pos c1];refine wpS_bind (wpS_ltK hB h0 (by lia) (by lia) ?_)
   by_cases c2:K (arrOf st) 0 < K (arrOf st) (n - 1)
   ·rw[decide_eq_true c2];simp only[if_true];exact wpS_pure (h n st hB n1 n2 n3 hS)
   ·rw[decide_eq_false c2];simp only[Bool.false_eq_true,if_false];have hall:∀ k,0<=k->k < n->K (arrOf st) k=K (arrOf st) (n - 1):=fun k _ hk=>by
     have a1:=n3 0 k (by lia) hk
     have a2:=n3 k (n - 1) (by lia) (by lia)
     lia
    have km:=sW (xs:=arrOf st) (i:=0) (j:=n) (by lia) hall
    have kn:∀ i,i < n->K (mirror (arrOf st) 0 n ((n - 0) / 2)) n < K (mirror (arrOf st) 0 n ((n - 0) / 2)) i:=fun i hi=>by rw[km,km,hall i (Nat.zero_le _) hi];exact hlt
    refine wpS_bind (wpS_reverse (gm h0 hr (by lia) ⟨hB.setArr (mirror_perm _ _ _ _),fun i j hij hj=>?_,by lia,fun i i1 i2=>?_,fun i i1=>?_,?_⟩ h))
    ·show K (mirror (arrOf st) 0 n ((n - 0) / 2)) j<=K (mirror (arrOf st) 0 n ((n - 0) / 2)) i;by_cases hj2:j < n
     ·rw[km,km,hall i (Nat.zero_le _) (by lia),hall j (Nat.zero_le _) hj2];exact Int.le_refl _
     ·obtain rfl:j=n:=by lia
      by_cases hi2:i=j
      ·subst hi2;exact Int.le_refl _
      ·exact Int.le_of_lt (kn i (by lia))
    ·obtain rfl:i=n:=by lia
     rfl
    ·exact kn i (by lia)
    ·show AS (n+1) (mirror (mirror (arrOf st) 0 n ((n - 0) / 2)) (n+1 - 1) (n+1) ((n+1 - (n+1 - 1)) / 2)) a₀.toList;rw[fB];exact AS.less (by rw[mirror_size];lia) (AS.AG (by lia) hS) kn
  ·rw[if_neg c1];obtain rfl:n=1:=by lia
   have k1:∀ i,i < 1->K (arrOf st) 1 < K (arrOf st) i:=fun i hi=>by
    obtain rfl:i=0:=by lia
    exact hlt
   refine gm h0 hr (by lia) ⟨hB,fun i j hij hj=>?_,by lia,fun i i1 i2=>?_,fun i i1=>k1 i (by lia),?_⟩ h
   ·by_cases hi2:i=j
    ·subst hi2;exact Int.le_refl _
    ·obtain rfl:i=0:=by lia
     obtain rfl:j=1:=by lia
     exact Int.le_of_lt hlt
   ·obtain rfl:i=1:=by lia
    rfl
   ·show AS (1+1) (mirror (arrOf st) (1+1 - 1) (1+1) ((1+1 - (1+1 - 1)) / 2)) a₀.toList;rw[fB];exact AS.less (by lia) (AS.one hS) k1
end
end SS
namespace SS
section
variable {prog:Program} {w:World} {A:Around} {E:Value->Shared->Prop} {s:Shared} {a₀:Array Keyed}
theorem By{st:SortSt}{n ok:Nat}{Q:Bool->SortSt->Prop}(h0:IntKeys a₀)(hn:n<=a₀.size)(aJ:ok<=n)(hB:SBase a₀ st)(hs:SortedTo (arrOf st) ok)(hS:St (arrOf st).toList a₀.toList)
  (h:∀ st',SBase a₀ st'->SortedTo (arrOf st') n->St (arrOf st').toList a₀.toList->Q true st'):wpS (model prog w) A E s (binarySort' 0 n ok) Q st:=by
 rw[binarySort'_eq];simp only[Nat.zero_add];refine wpS_bind (wpS_mono (wpS_forRange (I:=fun k c st'=>c=(none,())/\SBase a₀ st'/\SortedTo (arrOf st') (min k n)/\St (arrOf st').toList a₀.toList) (Q:=fun c st'=>c=(none,())/\SBase a₀ st'/\SortedTo (arrOf st') n/\St (arrOf st').toList a₀.toList) ?stp ?end_ ?ini) ?pst)
 case pst =>
  rintro c st' ⟨rfl,b1,b2,b3⟩;exact wpS_pure (h st' b1 b2 b3)
 case stp =>
  rintro k c st1 hk1 hk2 ⟨rfl,hB1,hs1,hS1⟩;have hz:(arrOf st1).size=a₀.size:=hB1.size;rw[show min k n=k by lia] at hs1
  refine wpS_bind (wpS_mono (wpS_forRange (I:=fun x c dZ=>dZ=st1/\∃ l r,c=(none,l,r)/\l<=r/\r<=k/\r - l<=k - x/\(∀ i,i < l->K (arrOf st1) i<=K (arrOf st1) k)/\∀ i,r<=i->i < k->K (arrOf st1) k < K (arrOf st1) i) (Q:=fun c dZ=>dZ=st1/\∃ l r,c=(none,l,r)/\l<=k/\(∀ i,i < l->K (arrOf st1) i<=K (arrOf st1) k)/\∀ i,l<=i->i < k->K (arrOf st1) k < K (arrOf st1) i) ?stp2 ?end2 ⟨rfl,0,k,rfl,by lia,by lia,by lia,fun i hi=>by lia,fun i i1 i2=>by lia⟩) ?pst2)
  case pst2 =>
   rintro c dZ ⟨rfl,l,r,rfl,hl,hlo,hhi⟩;show wpS _ _ _ _ (do moveDown' k l;pure (ForInStep.yield (none,()))) _ _
   rw[moveDown'_eq];refine wpS_bind (wpS_modify (wpS_pure ⟨rfl,hB1.setArr (bubble_perm _ _ _),?_,(St.GO (by lia) hl hhi).trans hS1⟩))
   rw[show min (k+1) n=k+1 by lia]
   intro i j hij hj;show K (bubble (arrOf dZ) k (k - l)) i<=K (bubble (arrOf dZ) k (k - l)) j;have hkb:∀ m,K (bubble (arrOf dZ) k (k - l)) m=if m=l then K (arrOf dZ) k else if l < m/\m<=k then K (arrOf dZ) (m - 1) else K (arrOf dZ) m:=fun m=>by
    rw[K_bubble (by lia) (by lia),show k - (k - l)=l by lia]
   rw[hkb,hkb];by_cases ci:i=l
   ·rw[if_pos ci];by_cases cj:j=l
    ·rw[if_pos cj];exact Int.le_refl _
    ·rw[if_neg cj,if_pos (by lia)]
     exact Int.le_of_lt (hhi (j - 1) (by lia) (by lia))
   ·rw[if_neg ci];by_cases ci2:l < i/\i<=k
    ·rw[if_pos ci2,if_neg (by lia),if_pos (by lia)]
     exact hs1 (i - 1) (j - 1) (by lia) (by lia)
    ·rw[if_neg ci2];by_cases cj:j=l
     ·rw[if_pos cj];exact hlo i (by lia)
     ·rw[if_neg cj];by_cases cj2:l < j/\j<=k
      ·rw[if_pos cj2];exact hs1 i (j - 1) (by lia) (by lia)
      ·rw[if_neg cj2];exact hs1 i j hij (by lia)
  case stp2 =>
   rintro x c dZ _ hx ⟨rfl,l,r,rfl,h1,h2,h3,hlo,hhi⟩;dsimp only;by_cases cg:l >= r
   ·rw[if_pos cg];exact wpS_pure ⟨rfl,l,r,rfl,by lia,hlo,fun i i1 i2=>hhi i (by lia) i2⟩
   ·rw[if_neg cg];refine wpS_bind (wpS_ltK hB1 h0 (by lia) (by lia) ?_)
    by_cases cl:K (arrOf dZ) k < K (arrOf dZ) ((l+r) / 2)
    ·rw[decide_eq_true cl];simp only[if_true];refine wpS_pure ⟨rfl,l,(l+r) / 2,rfl,by lia,by lia,by lia,hlo,fun i i1 i2=>?_⟩
     have:=hs1 ((l+r) / 2) i i1 i2;lia
    ·rw[decide_eq_false cl];simp only[Bool.false_eq_true,if_false];refine wpS_pure ⟨rfl,(l+r) / 2+1,r,rfl,by lia,by lia,by lia,fun i i1=>?_,hhi⟩
     have:=hs1 i ((l+r) / 2) (by lia) (by lia)
     lia
  case end2 =>
   rintro c dZ ⟨rfl,l,r,rfl,h1,h2,h3,hlo,hhi⟩;exact⟨rfl,l,r,rfl,by lia,hlo,fun i i1 i2=>hhi i (by lia) i2⟩
 case end_ =>
  rintro c st' ⟨hc,b1,b2,b3⟩;rw[show min (max (max ok 1) n) n=n by lia] at b2
  exact⟨hc,b1,b2,b3⟩
 case ini =>
  refine⟨rfl,hB,fun i j hij hj=>?_,hS⟩;by_cases z:ok=0
  ·obtain rfl:i=j:=by lia
   exact Int.le_refl _
  ·exact hs i j hij (by lia)
theorem yd{st:SortSt}{Q:Unit->SortSt->Prop}(h0:IntKeys a₀)(hB:SBase a₀ st)(hS:St (arrOf st).toList a₀.toList)(h2:2<=a₀.size)(h64:a₀.size < 64)
  (h:∀ st',(arrOf st').Perm a₀->failedOf st'=none->SortedTo (arrOf st') a₀.size->St (arrOf st').toList a₀.toList->Q () st'):wpS (model prog w) A E s sortRuns' Q st:=by
 rw[sortRuns'_eq];refine wpS_bind (wpS_get ?_);dsimp only;have hmr:minRun' a₀.size a₀.size 0=a₀.size:=by
  obtain⟨f,hf⟩:∃ f,a₀.size=f+1:=⟨a₀.size - 1,by lia⟩
  have e:minRun' (f+1) a₀.size 0=a₀.size:=by rw[minRun'_succ,if_pos h64];rfl
  rwa [<- hf] at e
 simp only[hB.size,hmr]
 let D:SortSt->Prop:=fun st'=>(arrOf st').Perm a₀/\failedOf st'=none/\pendingOf st'=#[(0,a₀.size,0)]/\SortedTo (arrOf st') a₀.size/\St (arrOf st').toList a₀.toList
 have mk:∀ st',SBase a₀ st'->SortedTo (arrOf st') a₀.size->St (arrOf st').toList a₀.toList->D (setPending st' ((pendingOf st').push (0,a₀.size,0))):=fun st' b1 b2 b3=>⟨b1.perm,b1.failed,by show (pendingOf st').push _=_;rw[b1.pend];rfl,b2,b3⟩
 refine wpS_bind (wpS_mono (wpS_forRange (I:=fun x c st'=>(x=0/\c=(none,0)/\SBase a₀ st'/\St (arrOf st').toList a₀.toList)\/(1<=x/\c=(none,a₀.size)/\D st')) (Q:=fun c st'=>c=(none,a₀.size)/\D st') ?stp ?end_ (.inl ⟨rfl,rfl,hB,hS⟩)) ?pst)
 case pst =>
  rintro c st1 ⟨rfl,hD⟩;dsimp only;refine wpS_bind (wpS_mono (wpS_forRange (I:=fun _ c dZ=>dZ=st1/\c=(none,())) (Q:=fun c dZ=>dZ=st1/\c=(none,())) ?stp2 (fun _ _ z=>z) ⟨rfl,rfl⟩) ?pst2)
  case pst2 =>
   rintro c dZ ⟨rfl,rfl⟩;exact wpS_pure (h _ hD.1 hD.2.1 hD.2.2.2.1 hD.2.2.2.2)
  case stp2 =>
   rintro x c dZ _ _ ⟨rfl,rfl⟩;refine wpS_bind (wpS_get ?_);rw[if_pos (by rw[hD.2.2.1];exact Nat.le_refl 1)]
   exact wpS_pure ⟨rfl,rfl⟩
 case stp =>
  rintro x c st1 _ hx (⟨rfl,rfl,b1,b2⟩ | ⟨hx1,rfl,hD⟩)
  ·dsimp only;rw[if_neg (by lia)]
   simp only[Nat.sub_zero,Nat.min_self,Nat.zero_add];refine wpS_bind (AV h0 (Nat.le_refl _) (by lia) b1 b2 fun m dZ d1 m1 m2 d2 d3=>?_)
   dsimp only;have fin:∀ st3,SBase a₀ st3->SortedTo (arrOf st3) a₀.size->St (arrOf st3).toList a₀.toList->(pendingOf st3).back?=none:=fun st3 e _ _=>by rw[e.pend];rfl
   by_cases cm:m < a₀.size
   ·rw[if_pos cm];refine wpS_bind (wpS_lift (wpAny_rule ⟨rfl,?_⟩));refine wpS_bind (By h0 (Nat.le_refl _) m2 d1 d2 d3 fun st3 e1 e2 e3=>?_);simp only[Bool.not_true,Bool.false_eq_true,if_false];refine wpS_bind (wpS_get ?_);rw[fin st3 e1 e2 e3];exact wpS_bind (wpS_modify (wpS_pure (.inr ⟨by lia,rfl,mk st3 e1 e2 e3⟩)))
   ·rw[if_neg cm];obtain rfl:m=a₀.size:=by lia
    refine wpS_bind (wpS_get ?_);rw[fin dZ d1 d2 d3];exact wpS_bind (wpS_modify (wpS_pure (.inr ⟨by lia,rfl,mk dZ d1 d2 d3⟩)))
  ·dsimp only;rw[if_pos (Nat.le_refl _)];exact wpS_pure ⟨rfl,hD⟩
 case end_ =>
  rintro c st1 (⟨hx,_⟩ | ⟨_,hc,hD⟩)
  ·lia
  ·exact⟨hc,hD⟩
end
end SS
noncomputable abbrev BH (qual:Str) (scope:Scope) (L f:Addr) (cd:Value) (cl:List (Str×Addr)):Env:=PySem.W.envX qual scope L f cd cl
def oM(X:Cx)(A:Around)(N:List Str)(qual:Str)(scope:Scope)(f:Addr)(cd:Value)(cl:List (Str×Addr))(s:Shared)(H:Hp):Cx where
 prog:=X.prog
 w:=X.w
 K:=X.K
 mg:=X.mg
 base:=X.base
 A:=A.deeper (BH qual scope s.heap.objs.size f cd cl)
 N:=N
 s₀:=s
 H₀:=H
 env:=BH qual scope s.heap.objs.size f cd cl
 outer:=X.stack
 stack:=BH qual scope s.heap.objs.size f cd cl::X.stack
 ex:=[]
 calm:=true
 fn:=fun _=>false
 pn:=[]
 xe:=fun _ _=>False
section
variable {X:Cx} {pins:List (Addr×Obj)} {σ:St} {H:Hp} {s:Shared}
theorem xx(I:Inv X pins σ H s){A:Around}(hA:A.frames=some X.stack)(hd:A.handled=none){x qual:Str}{N:List Str}{σf:List (Option V)}{v:V}{u:Value}{scope:Scope}{f:Addr}{cd:Value}{cl:List (Str×Addr)}{h₁:Heap}{tk:Nat}
  (hk:scope.kind=.function) (rv:RelV v u) (hloc:scope.names.lookup x=some .local) (hns:h₁.Ns s.heap.objs.size (fun y=>[(x,u)].reverse.lookup y)) (old:∀ b o,s.heap.get? b=some o->h₁.get? b=some o)
  (hlen:σf.length=N.length) (hcl:∀ y c,cl.lookup y=some c->X.env.cells.lookup y=some c) (hhas:∀ y,(scope.names.lookup y=some .cell\/scope.names.lookup y=some .free)->∃ c,cl.lookup y=some c)
  (hf:∀ (i:Nat) (y:Str) (v:V),N[i]?=some y->σf[i]?=some (some v)->scope.names.lookup y=some .free/\∃ c u,cl.lookup y=some c/\s.heap.IsCell c (some u)/\RelV v u) :
  Inv (oM X A (x::N) qual scope f cd cl s H) [] (some v::σf) H { s with heap:=h₁,toks:=tk }:=by
 have noA:∀ b:Addr,b∉(oM X A (x::N) qual scope f cd cl s H).ex:=fun b z=>absurd (show b∈([]:List Addr) from z) (by simp)
 refine⟨⟨I.ok.mod,hk,rfl,rfl,Nat.le_refl _,fun y z c e1 e2=>I.ok.inj y z c (hcl y c e1) (hcl z c e2),hhas,fun y c z _=>(by cases z),fun _=>hd,Around.frames_deeper hA,.inr ⟨rfl,rfl⟩,fun b z=>absurd z (noA b),I.bs,Nat.le_trans I.ok.xH I.sz,fun b _ _=>noA b,fun b z=>absurd z (noA b),I.stack,I.gY,I.ok.tabs.un I.base⟩,
  rfl,I.bare,Un.kept old,⟨_,hns,fun i y w e1 e2 e3=>?_⟩,fun y c e=>?_,I.aJ.fresh (Nat.le_refl _),fun y c e=>I.cU y c (hcl y c e),fun p hp=>absurd (show p∈([]:List (Addr×Obj)) from hp) (by simp),I.aJ.kept old,?_⟩
 ·cases i with
  | zero =>
   have e1':some x=some y:=e1;have e2':some (some v)=some (some w):=e2
   cases e1';cases e2'
   exact⟨u,rv,.inl ⟨hloc,by simp⟩⟩
  | succ i =>
   obtain⟨h1,c,u',h2,h3,h4⟩:=hf i y w e1 e2;obtain⟨o,ho,hd'⟩:=h3;exact⟨u',h4,.inr ⟨.inr h1,c,h2,o,old _ _ ho,hd'⟩⟩
 ·obtain⟨v',o,ho,hd'⟩:=I.cell y c (hcl y c e);exact⟨v',o,old _ _ ho,hd'⟩
 ·show (some v::σf).length=(x::N).length;rw[List.length_cons,List.length_cons,hlen]
theorem wb(I:Inv X pins σ H s){A:Around}{k:Nat}(hr:bz (k+1) A)(hA:A.frames=some X.stack){x qual:Str}{N:List Str}{σf:List (Option V)}{v:V}{u:Value}{scope:Scope}{params:Arguments}{body:Expr}{f c':Addr}{pm ctv:Value}{cl:List (Str×Addr)}{t:TE}{Q:VK}
  (hk:scope.kind=.function) (hco:scope.isCoroutine=false) (hgen:scope.isGenerator=false) (hcell:∀ y∈scope.names,y.2≠.cell) (rv:RelV v u) (hloc:scope.names.lookup x=some .local)
  (ho:s.heap.get? f=some (PySem.W.kla_obj "<lambda>" qual params body scope cl pm c' ctv)) (hcd:s.heap.CodeRec (.ref c') qual)
  (hbind:∀ u,bindArgs (PySem.W.kla_fn "<lambda>" qual params body scope cl pm (.ref c') ctv) ⟨[u],[]⟩=pure [(x,u)])
  (hlen:σf.length=N.length) (hcl:∀ y c,cl.lookup y=some c->X.env.cells.lookup y=some c) (hhas:∀ y,(scope.names.lookup y=some .cell\/scope.names.lookup y=some .free)->∃ c,cl.lookup y=some c)
  (hf:∀ (i:Nat) (y:Str) (v:V),N[i]?=some y->σf[i]?=some (some v)->scope.names.lookup y=some .free/\∃ c u,cl.lookup y=some c/\s.heap.IsCell c (some u)/\RelV v u)
  (hb:PE (oM X A (x::N) qual scope f (.ref c') cl s H) body t) (hq:t (some v::σf) H Q) :
  wpAny (model X.prog X.w) A (call (.ref f) [u]) (EP X pins σ Q) (fun _ _=>False) s:=by
 refine wpAny_call (PySem.W.kla_callFunE hr.depth ho rfl hco hgen rfl hcd ?_);rw[hbind];refine wpAny_pure (wpAny_newFunctionEnv hcell (fun y hy=>by rw[List.mem_singleton.mp hy];exact hloc) (fun h₁ hns hsb=>⟨I.nolimit.fresh _ hsb,?_⟩) hk)
 have old:∀ b o,s.heap.get? b=some o->h₁.get? b=some o:=fun b o e=>hsb.extBut b o (Nat.ne_of_lt (Heap.lt_size e)) (Heap.get?_push_of_some _ e);have J:=xx (tk:=s.toks+1) (qual:=qual) (f:=f) (cd:=.ref c') I hA hr.hd hk rv hloc hns old hlen hcl hhas hf;refine PySem.W.kla_codeExpr (wpAny_mono (hb [] _ _ H Q J hq) (fun w s' h=>?_) fun _ _ h=>h.elim);obtain⟨v',H',J',r',q'⟩:=h;exact I.after ⟨v',H',J'.os,J'.bare,J'.base,J'.aJ,r',q'⟩
end
inductive df:Hp->Hp->Prop
 | refl {H:Hp}:df H H
 | more {H H1:Hp} {p:Addr} {o:HO}:df H H1->H1 p=none->df H (upd H1 p o)
theorem df.same{H H1:Hp}(g:df H H1):bC H H1:=by
 induction g with
 | refl=>exact bC.refl _
 | more g n ih=>exact fun b o e=>by rw[ae (ak (ih b o e) n)];exact ih b o e
theorem df.trans{H H1 H2:Hp}(a:df H H1)(b:df H1 H2):df H H2:=by
 induction b with
 | refl=>exact a
 | more _ n ih=>exact .more ih n
theorem gr{i j:Int}{ti tj:Tok}{c:Value}:∀ l:List Value,TriplesOk l->TriplesOk (l++[.int i ti,.int j tj,c])
 | [],_=>trivial
 | .int _ _::.int _ _::_::r,h=>gr r (show TriplesOk r from h)
theorem j3{p:Pos}{i j:Int}{ti tj:Tok}{c cv:Value}:∀ l:List Value,TriplesOk l->codeAmong p (l++[.int i ti,.int j tj,c])=some cv->codeAmong p l=some cv\/cv=c
 | [],_,e=>by
  have e':(if (i == p.line && j == p.col)=true then some c else codeAmong p [])=some cv:=e
  by_cases z:(i == p.line && j == p.col)=true
  ·rw[if_pos z] at e';cases e';exact .inr rfl
  ·rw[if_neg z] at e';cases e'
 | .int a ta::.int b tb::d::r,h,e=>by
  have e':(if (a == p.line && b == p.col)=true then some d else codeAmong p (r++[.int i ti,.int j tj,c]))=some cv:=e
  show (if (a == p.line && b == p.col)=true then some d else codeAmong p r)=some cv\/_
  by_cases z:(a == p.line && b == p.col)=true
  ·rw[if_pos z] at e' ⊢;exact .inl e'
  ·rw[if_neg z] at e' ⊢;exact j3 r (show TriplesOk r from h) e'
theorem oK(q:Str)(more:Array Value):uU (#[.str q 0]++more)=q:=by
 unfold uU;rw[Array.toList_append];rfl
structure gF (H:Hp) (f:Addr) (q:Str) (params:Arguments) (body:Expr) (scope:Scope) (cl:List (Str×Addr)) (c':Addr) (pm ctv:Value):Prop where
 fn:H f=some (.eN (PySem.W.kla_obj "<lambda>" q params body scope cl pm c' ctv) (.own f))
 cd:zL H q (.ref c')
section
variable {X:Cx} {pins:List (Addr×Obj)} {σ:St} {H:Hp} {s:Shared} {E:Value->Shared->Prop}
theorem gF.up{H1:Hp}{f c':Addr}{q:Str}{params:Arguments}{body:Expr}{scope:Scope}{cl:List (Str×Addr)}{pm ctv:Value}(x:gF H f q params body scope cl c' pm ctv)(g:∀ b o u,H b=some (.eN o u)->H1 b=some (.eN o u)):gF H1 f q params body scope cl c' pm ctv:=
 ⟨g _ _ _ x.fn,let ⟨c,oc,vs,t,e1,e2,e3⟩:=x.cd;⟨c,oc,vs,t,e1,g _ _ _ e2,e3⟩⟩
theorem gF.get{f c':Addr}{q:Str}{params:Arguments}{body:Expr}{scope:Scope}{cl:List (Str×Addr)}{pm ctv:Value}(x:gF H f q params body scope cl c' pm ctv)(I:Inv X pins σ H s):
  s.heap.get? f=some (PySem.W.kla_obj "<lambda>" q params body scope cl pm c' ctv)/\s.heap.CodeRec (.ref c') q:=by
 obtain⟨c,oc,vs,t,e1,e2,e3,e4⟩:=x.cd;exact⟨(I.aJ f _ x.fn).1,c,oc,vs,t,e1,(I.aJ c _ e2).1,e3,e4⟩
theorem Inv.vt{f:Addr}{o:Obj}{t':Nat}{h':Heap}(I:Inv X pins σ H s)(k:∀ b u,s.heap.get? b=some u->h'.get? b=some u)(hp:s.heap.objs.size<=f)(e:h'.get? f=some o):Inv X pins σ (upd H f (.eN o (.own f))) { s with heap:=h',toks:=t' }:=
 I.laid k hp ⟨e,o,e⟩
theorem uI(I:Inv X pins σ H s){x:Str}{c P:Addr}(hx:x∈cX)(ht:PySem.W.tabIn X.K x=some (c,P))(hcode:X.env.code=.ref c)(hq:X.env.qual=x++".<locals>."){params:Arguments}{body:Expr}{scope:Scope}{pos:Pos}{cl:List (Str×Addr)}{Q:Value->Shared->Prop}
  (hdef:defaultsOf params X.env=([],[])) (hcl:closureFor scope X.env=pure cl)
  (h:∀ f c' pm ctv H1 s1,df H H1->Inv X pins σ H1 s1->gF H1 f ((x++".<locals>.")++"<lambda>") params body scope cl c' pm ctv->Q (.ref f) s1) :
  wpAny (model X.prog X.w) X.A (eval (.Lambda params body scope pos) X.env) Q E s:=by
 have hm:(c,P,(x++".<locals>.")++"<lambda>")∈bD X.K:=List.mem_filterMap.mpr ⟨x,hx,by rw[ht];rfl⟩
 obtain⟨more,hP⟩:=(I.ok.tabs.un I.base) _ hm;have C:PySem.W.CodeHd s.heap c P:=(I.ok.mod.codes _ hm).keeps I.bk;obtain⟨qs,eP,tr,fa⟩:=I.aJ P _ hP;have hns:=I.ok.mod.glob.keeps I.bk;have hgP:mainGlobals≠P:=fun z=>by
  obtain⟨o,es,ep,e,_⟩:=I.ok.mod.glob;have:=(I.bs _ _ e).2;rw[z,hP] at this;cases this
 have hb:s.heap.BuiltinsAt X.mg P:=by
  obtain⟨bm,ob,b1,b2,b3,b4,b5⟩:=I.ok.mod.bm;refine⟨bm,ob,b1,b2,fun z=>?_,fun z=>?_,I.bk _ _ b3,b4,b5⟩
  ·obtain⟨o,es,ep,e,hd,_⟩:=I.ok.mod.glob;rw[z,e] at b3;cases b3;rw[hd] at b5;cases b5.2
  ·have:=(I.bs _ _ b3).2;rw[z,hP] at this;cases this
 refine PySem.W.kla_eval hdef ?_;rw[hq]
 cases ca:codeAmong pos qs.toList with
 | some cv =>
  have il:=fa pos cv ca;rw[oK] at il;obtain⟨c',oc,vs,t,rfl,e2,e3⟩:=il;refine PySem.W.kla_makeFunctionHit hcl I.ok.glob hns hcode C eP tr ca hb fun ctv h' tk hk hsz=>?_;have n0:H h'.objs.size=none:=I.aJ.fresh hsz;have J:=I.vt (f:=h'.objs.size) (t':=tk) (h':=h'.push { cls:=.type "function",data:=.func (PySem.W.kla_fn "<lambda>" ((x++".<locals>.")++"<lambda>") params body scope cl ((X.mg "__name__").getD .none) (.ref c') ctv) }) (fun b u e=>Heap.get?_push_of_some _ (hk b u e)) hsz (Heap.get?_push_size _ rfl);exact h _ c' _ ctv _ _ (.more .refl n0) J ⟨af,c',oc,vs,t,rfl,by rw[ae (ak e2 n0)];exact e2,e3⟩
 | none =>
  refine PySem.W.kla_makeFunction hcl I.ok.glob hns hcode C eP tr ca hgP hb fun c' ctv h' tk hx2 hge hlt hrec htb=>?_;obtain⟨c2,oc,vs,t,e2,hoc,hd,hv⟩:=hrec;cases e2;have nP:P≠c':=fun z=>absurd (Heap.lt_size eP) (by rw[z];exact Nat.not_lt.mpr hge)
  have n1:H c'=none:=I.aJ.fresh hge;have keep:∀ b u,b≠P->s.heap.get? b=some u->h'.get? b=some u:=fun b u hb' e=>hx2 b u hb' e;have H1ne:∀ b u,H b=some u->upd H c' (.eN oc (.own c')) b=some u:=fun b u e=>by rw[ae (ak e n1)];exact e
  have hoP:∀ y,H P≠some (.own y):=fun y z=>by rw[hP] at z;cases z
  have J1:Inv X pins σ (upd H c' (.eN oc (.own c'))) { s with heap:=h',toks:=tk }:=by
   refine I.un ⟨fun b o e n _ _=>keep b o (fun z=>by rw[z,hP] at n;cases n) e,fun b o e n _ _=>⟨o.slots,keep b o (fun z=>by rw[z,hP] at n;cases n) e⟩,fun b o e n _=>?_,fun b o e _=>?_,fun b xs e=>H1ne b _ e,fun b o u e=>H1ne b _ e,fun b ps e=>⟨#[],by rw[H1ne b _ e,Array.append_empty]⟩⟩ fun b u e=>?_
   ·rw[ae (fun z=>absurd (Heap.lt_size e) (by rw[z];exact Nat.not_lt.mpr hge))];exact n
   ·by_cases z:b=P
    ·rw[z];exact⟨_,htb⟩
    ·exact⟨o,keep b o z e⟩
   ·by_cases z:b=c'
    ·subst z;rw[af] at e;cases e;exact⟨hoc,oc,hoc⟩
    ·rw[ae z] at e;by_cases z2:b=P
     ·subst z2;rw[hP] at e;cases e;refine⟨_,htb,by rw[Array.toList_append];exact gr _ tr,fun p cv hc=>?_⟩
      rw[Array.toList_append] at hc;rcases j3 _ tr hc with q | q
      ·obtain⟨c2,oc2,vs2,t2,g1,g2,g3⟩:=fa p cv q;exact⟨c2,oc2,vs2,t2,g1,H1ne _ _ g2,g3⟩
      ·rw[oK];exact⟨c',oc,vs,t,q,af,hd,hv⟩
     ·refine (I.aJ b u e).ic (fun c v hc q=>keep c v ?_ q) (fun c q=>H1ne c _ q) (fun c xs q=>H1ne c _ q) fun c _ _ q=>H1ne c _ q;rcases hc with rfl | hc
      ·exact z2
      ·exact fun z3=>hoP b (by rw[<- z3];exact hc)
  have n2:upd H c' (.eN oc (.own c')) h'.objs.size=none:=J1.aJ.fresh (Nat.le_refl _);have J:=J1.vt (f:=h'.objs.size) (t':=tk) (h':=h'.push (PySem.W.kla_obj "<lambda>" ((x++".<locals>.")++"<lambda>") params body scope cl ((X.mg "__name__").getD .none) c' ctv)) (fun b u e=>Heap.get?_push_of_some _ e) (Nat.le_refl _) (Heap.get?_push_size _ rfl);exact h _ c' _ ctv _ _ (.more (.more .refl n1) n2) J ⟨af,c',oc,vs,t,rfl,by rw[ae (ak af n2)];exact af,hd,hv⟩
end
section
variable {α β:Type}
def gI(p:Int×α):List (Int×α)->List (Int×α)
 | []=>[p]
 | q::r=>if p.1<=q.1 then p::q::r else q::gI p r
def eS:List (Int×α)->List (Int×α)
 | []=>[]
 | p::r=>gI p (eS r)
noncomputable abbrev Cv (l:List (Int×α)):Prop:=l.Pairwise fun p q=>p.1<=q.1
def atK(a:Int)(l:List (Int×α)):List (Int×α):=l.filter fun p=>decide (p.1=a)
theorem gf(p:Int×α):∀ l,(gI p l).Perm (p::l)
 | []=>.refl _
 | q::r=>by
  unfold gI;split
  ·exact .refl _
  ·exact ((gf p r).cons q).trans (List.Perm.swap p q r)
theorem cZ:∀ l:List (Int×α),(eS l).Perm l
 | []=>.refl _
 | p::r=>(gf p _).trans ((cZ r).cons p)
theorem p8{p:Int×α}:∀ {l:List (Int×α)},Cv l->Cv (gI p l)
 | [],_=>List.pairwise_singleton _ _
 | q::r,h=>by
  obtain⟨h1,h2⟩:=List.pairwise_cons.mp h;unfold gI;split
  ·rename_i c;exact List.pairwise_cons.mpr ⟨fun z hz=>by
    rcases List.mem_cons.mp hz with rfl | hz
    ·exact c
    ·exact Int.le_trans c (h1 z hz),h⟩
  ·rename_i c;refine List.pairwise_cons.mpr ⟨fun z hz=>?_,p8 h2⟩;rcases List.mem_cons.mp ((gf p r).mem_iff.mp hz) with rfl | hz
   ·lia
   ·exact h1 z hz
theorem ib:∀ l:List (Int×α),Cv (eS l)
 | []=>List.Pairwise.nil
 | _::r=>p8 (ib r)
theorem aY(a:Int)(p:Int×α)(l:List (Int×α)):atK a (p::l)=if p.1=a then p::atK a l else atK a l:=by
 unfold atK;rw[List.filter_cons];by_cases z:p.1=a
 ·rw[if_pos z,if_pos (decide_eq_true z)]
 ·rw[if_neg z,if_neg (by simp[z])]
theorem pG{a:Int}{p:Int×α}:∀ {l:List (Int×α)},atK a (gI p l)=atK a (p::l)
 | []=>rfl
 | q::r=>by
  unfold gI;split
  ·rfl
  ·rename_i c;rw[aY,pG,aY,aY,aY];by_cases z:p.1=a
   ·have z2:¬ q.1=a:=by lia
    simp only[z,z2,if_true,if_false]
   ·simp only[z,if_false]
theorem m6{a:Int}:∀ l:List (Int×α),atK a (eS l)=atK a l
 | []=>rfl
 | p::r=>by
  show atK a (gI p (eS r))=_;rw[pG,aY,aY,m6 r]
theorem iu{a:Int}:∀ {l:List (Int×α)},(∀ p∈l,a < p.1)->atK a l=[]
 | [],_=>rfl
 | p::r,h=>by
  have:=h p (List.mem_cons_self ..);rw[aY,if_neg (by lia),iu fun q hq=>h q (List.mem_cons_of_mem _ hq)]
theorem jR:∀ {l m:List (Int×α)},Cv l->Cv m->(∀ a,atK a l=atK a m)->l=m
 | [],[],_,_,_=>rfl
 | [],q::m,_,_,h=>by
  have:=h q.1;rw[aY,if_pos rfl] at this;cases this
 | p::l,[],_,_,h=>by
  have:=h p.1;rw[aY,if_pos rfl] at this;cases this
 | p::l,q::m,hl,hm,h=>by
  obtain⟨l1,l2⟩:=List.pairwise_cons.mp hl;obtain⟨m1,m2⟩:=List.pairwise_cons.mp hm;have e:p.1=q.1:=by
   rcases Int.lt_trichotomy p.1 q.1 with z | z | z
   ·have q1:=h p.1;rw[aY,if_pos rfl,aY,if_neg (by lia),iu (l:=m) fun r hr=>by have:=m1 r hr;lia] at q1
    cases q1
   ·exact z
   ·have q1:=h q.1;rw[aY,if_neg (by lia),aY,if_pos rfl,iu (l:=l) fun r hr=>by have:=l1 r hr;lia] at q1
    cases q1
  have q1:=h p.1;rw[aY,if_pos rfl,aY,if_pos e.symm] at q1;obtain⟨q2,q3⟩:=List.cons.inj q1;subst q2;congr 1;refine jR l2 m2 fun a=>?_;have q4:=h a;rw[aY,aY] at q4;by_cases z:p.1=a
  ·rw[if_pos z,if_pos z] at q4;exact (List.cons.inj q4).2
  ·rw[if_neg z,if_neg z] at q4;exact q4
theorem tq{l m:List (Int×α)}(hm:Cv m)(h:∀ a,atK a m=atK a l):m=eS l:=jR hm (ib l) fun a=>by rw[h a,m6]
noncomputable abbrev Co (R:α->β->Prop):List (Int×α)->List (Int×β)->Prop:=Paired fun p q=>p.1=q.1/\R p.2 q.2
theorem sR{R:α->β->Prop}{p:Int×α}{q:Int×β}(h:p.1=q.1/\R p.2 q.2){l:List (Int×α)}{m:List (Int×β)}(k:Co R l m):Co R (gI p l) (gI q m):=by
 induction k with
 | nil=>exact .cons h .nil
 | cons r t ih =>
  unfold gI;split
  ·rename_i z;rw[if_pos (by rw[<- h.1,<- r.1];exact z)]
   exact .cons h (.cons r t)
  ·rename_i z;rw[if_neg (by rw[<- h.1,<- r.1];exact z)]
   exact .cons r ih
theorem rH{R:α->β->Prop}{l:List (Int×α)}{m:List (Int×β)}(k:Co R l m):Co R (eS l) (eS m):=by
 induction k with
 | nil=>exact .nil
 | cons r t ih=>exact sR r ih
theorem vV{R:α->β->Prop}{ks:List Int}{l:List α}{m:List β}(k:Paired R l m):Co R (ks.zip l) (ks.zip m):=by
 induction k generalizing ks with
 | nil=>rw[List.zip_nil_right,List.zip_nil_right];exact .nil
 | cons r t ih =>
  cases ks with
  | nil=>exact .nil
  | cons k ks=>exact .cons ⟨rfl,r⟩ ih
theorem vQ{R:α->β->Prop}{l:List (Int×α)}{m:List (Int×β)}(k:Co R l m):Paired R (l.map (·.2)) (m.map (·.2)):=by
 induction k with
 | nil=>exact .nil
 | cons r t ih=>exact .cons r.2 ih
def eJ(ks:List Int)(l:List α):List α:=(eS (ks.zip l)).map (·.2)
theorem gM{R:α->β->Prop}{ks:List Int}{l:List α}{m:List β}(h:Paired R l m):Paired R (eJ ks l) (eJ ks m):=vQ (rH (vV h))
theorem pQ{ks:List Int}{l:List α}(h:ks.length=l.length):(eJ ks l).length=l.length:=by
 unfold eJ;rw[List.length_map,(cZ _).length_eq,List.length_zip,h,Nat.min_self]
theorem t4{ks:List Int}{l:List α}(h:ks.length=l.length):(eJ ks l).Perm l:=by
 have h2:((ks.zip l).map (·.2))=l:=List.map_snd_zip (by lia)
 have h3:=(cZ (ks.zip l)).map (·.2);rw[h2] at h3;exact h3
end
theorem gq:∀ {xs:List V} {us:List Value},Vals xs us->Paired RelV xs us
 | _,_,.nil=>.nil
 | _,_,.cons r t=>.cons r (gq t)
theorem gx:∀ {xs:List V} {us:List Value},Paired RelV xs us->Vals xs us
 | _,_,.nil=>.nil
 | _,_,.cons r t=>.cons r (gx t)
theorem vK{keys:Array Value}{us:List Value}{kz:List Int}{out:Array Keyed}(hk:IntsAre keys.toList kz)(hs:SortedTo out out.size)(hS:SS.St out.toList (keys.zip us.toArray).toList):(out.map (·.2)).toList=eJ kz us:=by
 let g:Keyed->Int×Value:=fun p=>(numOf p.1,p.2)
 have ez:(keys.zip us.toArray).toList.map g=kz.zip us:=by
  rw[ksk_zip,<- hk.nums,List.zip_map_left];exact List.map_congr_left fun⟨_,_⟩ _=>rfl
 have fl:∀ (a:Int) (l:List Keyed),atK a (l.map g)=(SS.ff a l).map g:=fun a l=>by
  unfold atK SS.ff;rw[List.filter_map];rfl
 have e1:out.toList.map g=eS (kz.zip us):=by
  refine tq ?_ fun a=>?_
  ·show List.Pairwise _ _;rw[List.pairwise_iff_getElem];intro i j hi hj hij;have hi':i < out.size:=by simpa using hi
   have hj':j < out.size:=by simpa using hj
   have q:=hs i j (Nat.le_of_lt hij) hj';rw[K_eq hi',K_eq hj'] at q
   simpa[g] using q
  ·rw[<- ez,fl,fl,hS a]
 unfold eJ;rw[<- e1,List.map_map,Array.toList_map];rfl
section
variable {X:Cx} {pins:List (Addr×Obj)} {σ:St} {H:Hp} {s:Shared} {E:Value->Shared->Prop}
theorem Inv.take{D:Addr}{ob:Obj}{o:HO}{t':Nat}{h':Heap}(I:Inv X ((D,ob)::pins) σ H s)(hs0:X.s₀.heap.objs.size<=D)(hnp:∀ p∈X.pn++pins,p.1≠D)(k:∀ b u,b≠D->s.heap.get? b=some u->h'.get? b=some u)(new:bp X.prog X.w (upd H D o) h' D o):
  Inv X pins σ (upd H D o) { s with heap:=h',toks:=t' }:=by
 obtain⟨g1,g2,g3,g4,g5⟩:=I.pin (D,ob) (List.mem_append_right _ (List.mem_cons_self ..));have I0:Inv X pins σ H s:=⟨I.ok,I.os,I.bare,I.base,I.loc,I.cell,I.free,I.cU,fun p hp=>I.pin p ((List.mem_append.mp hp).elim (fun z=>List.mem_append_left _ z) fun z=>List.mem_append_right _ (List.mem_cons_of_mem _ z)),I.aJ,I.len⟩;have ne:∀ b u,H b=some u->b≠D:=fun b u e=>ak e g2;refine I0.step (g':=s.gens) (d':=s.drawn) (ch:=[D]) (fun b hb=>?_) (fun b o' _ _ hc e _=>k b o' (fun z=>hc (by rw[z];exact List.mem_singleton.mpr rfl)) e) (fun b o' _ _ hc e _=>⟨o'.slots,k b o' (fun z=>hc (by rw[z];exact List.mem_singleton.mpr rfl)) e⟩) (fun b o' hc e n=>by rw[ae (fun z=>hc (by rw[z];exact List.mem_singleton.mpr rfl))];exact n)
  (fun b o' hc e=>⟨o',k b o' (fun z=>hc (by rw[z];exact List.mem_singleton.mpr rfl)) e⟩) (fun b xs e=>by rw[ae (ne b _ e)];exact e) (fun b o' u e=>by rw[ae (ne b _ e)];exact e) (fun b ps e=>⟨#[],by rw[ae (ne b _ e),e,Array.append_empty]⟩) (fun m hm=>?_) (fun b u e=>?_) I.bare
 ·rw[List.mem_singleton.mp hb];refine⟨.inr hs0,g3,fun x c e z=>?_,hnp⟩;obtain⟨v,o',ho',hd⟩:=I.cell x c e;rw[z,g1] at ho';cases ho';exact g5 v hd
 ·obtain⟨o',es,ep,ho',r⟩:=hm;exact⟨o',es,ep,k _ _ (Ne.symm g3) ho',r⟩
 ·by_cases z:b=D
  ·subst z;rw[af] at e;cases e;exact new
  ·rw[ae z] at e;refine (I.aJ b u e).ic (fun c v hc q=>k c v ?_ q) (fun c q=>by rw[ae (ne c _ q)];exact q) (fun c xs q=>by rw[ae (ne c _ q)];exact q) fun c _ _ q=>by rw[ae (ne c _ q)];exact q
   rcases hc with rfl | hc
   ·exact z
   ·exact ne c _ hc
theorem pS{A:Around}{D e1:Nat}{st:SortSt}{kS:Addr}{xs:List V}{us:List Value}{kz:List Int}{P:PySem.Fin->Shared->Prop}
  (I:Inv X ((D,seqObj "list" #[] e1)::pins) σ (upd H kS (.lst (kz.map V.int))) s) (hkS:H kS=none) (hD:H D=none) (hkD:kS≠D) (hs0:X.s₀.heap.objs.size<=D) (hnp:∀ p∈X.pn++pins,p.1≠D)
  (hv:Vals xs us) (hlen:kz.length=us.length) (h64:us.length < 64) (ho:((arrOf st).map (·.2)).toList=eJ kz us) (hfl:failedOf st=none)
  (h:∀ s',Inv X pins σ (upd (upd H kS (.lst [])) D (.lst (eJ kz xs))) s'->P (.done (.ret .none)) s') :
  wpAny (model X.prog X.w) A (ksk_tail D false e1 (.ref kS) st) P E s:=by
 obtain⟨_,its,n,vr,ek⟩:=I.aJ kS _ af;have hz:its.toArray.size<=sizeLine:=by
  rw[List.size_toArray,<- vr.length,List.length_map,hlen,sizeLine_eq];lia
 have pD:=I.pin _ (List.mem_append_right _ (List.mem_cons_self ..));have hout:((arrOf st).map (·.2)).size=us.length:=by
  rw[<- Array.length_toList,ho,pQ hlen]
 have s1:=Heap.SameBut.update s.heap kS (Obj.mapSeq fun _=>(#[]:Array Value));obtain⟨c1,hc1⟩:∃ c,(s.heap.update kS (Obj.mapSeq fun _=>(#[]:Array Value))).get? kS=some (seqObj "list" #[] c):=⟨_,get?_update_seq ek fun _=>#[]⟩;have J1:Inv X ((D,seqObj "list" #[] e1)::pins) σ (upd H kS (.lst [])) { s with heap:=s.heap.update kS (Obj.mapSeq fun _=>(#[]:Array Value)) }:=by
  have J:=I.write (x:=kS) (e:=kS) (o:=.lst []) (t':=s.toks) (h':=s.heap.update kS (Obj.mapSeq fun _=>(#[]:Array Value))) (by rw[af];trivial) (.inl rfl) (fun b u hb q=>(s1.2 b hb).trans q) ⟨_,hc1⟩ ⟨Nat.zero_le _,[],c1,.nil,hc1⟩
  rw[oB] at J;exact J
 have pD1:=J1.pin _ (List.mem_append_right _ (List.mem_cons_self ..));have s2:=Heap.SameBut.update (s.heap.update kS (Obj.mapSeq fun _=>(#[]:Array Value))) D (Obj.mapSeq fun _=>(arrOf st).map (·.2));obtain⟨c2,hc2⟩:∃ c,((s.heap.update kS (Obj.mapSeq fun _=>(#[]:Array Value))).update D (Obj.mapSeq fun _=>(arrOf st).map (·.2))).get? D=some (seqObj "list" ((arrOf st).map (·.2)) c):=⟨_,get?_update_seq pD1.1 fun _=>(arrOf st).map (·.2)⟩;have vB:Vals (eJ kz xs) (eJ kz us):=gx (gM (gq hv));unfold ksk_tail;dsimp only;refine wpAny_bind (listUpdate_at ek rfl ?_ hz (Nat.zero_le _));refine wpAny_bind (wpAny_letGo ?_);refine wpAny_bind (seqEpoch_at pD1.1 rfl ?_);refine wpAny_bind (listUpdate_at pD1.1 rfl ?_ (Nat.zero_le _) (by show ((arrOf st).map (·.2)).size<=_;rw[hout,sizeLine_eq];lia))
 rw[hfl];simp only[bne_self_eq_false,Bool.false_eq_true,if_false];refine wpAny_pure (h _ (J1.take hs0 hnp (fun b u hb q=>(s2.2 b hb).trans q) ⟨?_,eJ kz us,c2,vB,?_⟩))
 ·rw[vB.length,pQ hlen,sizeLine_eq];lia
 ·rw[<- ho,Array.toArray_toList];exact hc2
theorem Ax{A:Around}{D e1:Nat}{kS:Addr}{xs:List V}{us:List Value}{kz:List Int}{keys:Array Value}{P:PySem.Fin->Shared->Prop}
  (I:Inv X ((D,seqObj "list" #[] e1)::pins) σ (upd H kS (.lst (kz.map V.int))) s) (hkS:H kS=none) (hD:H D=none) (hkD:kS≠D) (hs0:X.s₀.heap.objs.size<=D) (hnp:∀ p∈X.pn++pins,p.1≠D)
  (hv:Vals xs us) (hlen:kz.length=us.length) (h64:us.length < 64) (hk:IntsAre keys.toList kz)
  (h:∀ s',Inv X pins σ (upd (upd H kS (.lst [])) D (.lst (eJ kz xs))) s'->P (.done (.ret .none)) s') :
  wpAny (model X.prog X.w) A (ksk_end D false us.toArray e1 (.ref kS) keys) P E s:=by
 have hsz:keys.size=us.length:=by
  have z:=hk.length;rw[Array.length_toList] at z;exact z.trans hlen
 have hzs:(keys.zip us.toArray).size=us.length:=by
  rw[Array.size_zip,hsz,List.size_toArray,Nat.min_self]
 unfold ksk_end;dsimp only;rw[if_neg Bool.false_ne_true,if_neg Bool.false_ne_true];by_cases h2:us.toArray.size < 2
 ·rw[if_pos h2,if_pos h2];refine wpAny_bind (wpAny_pure ?_);rw[StateT.run_pure];refine wpAny_bind (wpAny_pure ?_);dsimp only;refine pS I hkS hD hkD hs0 hnp hv hlen h64 ?_ rfl h;refine vK (out:=keys.zip us.toArray) hk (fun i j hij hj=>?_) fun _=>rfl;rw[hzs] at hj;rw[List.size_toArray] at h2;obtain rfl:i=j:=by lia
  exact Int.le_refl _
 ·rw[if_neg h2,if_neg h2];rw[List.size_toArray] at h2;rw[ksk_kind hk (by lia)]
  refine wpAny_bind (wpAny_pure ?_);refine wpAny_bind (wpAny_mono (SS.yd (a₀:=keys.zip us.toArray) (st:=SortSt.mk' oneType' (keys.zip us.toArray) #[] 7 none)
   (Q:=fun _ st'=>failedOf st'=none/\((arrOf st').map (·.2)).toList=eJ kz us)
   (ksk_intKeys hk) ⟨Array.Perm.refl _,rfl,rfl,rfl⟩ (fun _=>rfl) (by lia) (by lia) fun st' a1 a2 a3 a4=>⟨a2,vK hk (by rw[a1.size_eq];exact a3) a4⟩) ?_ fun _ _ e=>e)
  rintro⟨⟨⟩,st'⟩ s' ⟨rfl,hf,ho⟩;dsimp only;exact pS I hkS hD hkD hs0 hnp hv hlen h64 ho hf h
theorem ja:∀ {us:List Value} {ns:List Int},Vals (ns.map V.int) us->IntsAre us ns
 | _,[],.nil=>.nil
 | _,n::ns,.cons ⟨t,e⟩ r=>by subst e;exact .cons n t (ja r)
theorem xr{A:Around}{D e1:Nat}{kS:Addr}{xs:List V}{us:List Value}{kz:List Int}{f:Value}{P:PySem.Fin->Shared->Prop}
  (I:Inv X ((D,seqObj "list" #[] e1)::pins) σ (upd H kS (.lst [])) s) (hkS:H kS=none) (hD:H D=none) (hkD:kS≠D) (hs0:X.s₀.heap.objs.size<=D) (hnp:∀ p∈X.pn++pins,p.1≠D)
  (hv:Vals xs us) (hlen:kz.length=us.length) (h64:us.length < 64)
  (turn:∀ (i:Nat) (u:Value) (k:Int),us[i]?=some u->kz[i]?=some k->∀ pins' H' s',df H H'->Inv X pins' σ H' s'->wpAny (model X.prog X.w) A (call f [u]) (fun r s2=>(∃ t,r=.int k t)/\Inv X pins' σ H' s2) (fun _ _=>False) s')
  (h:∀ s',Inv X pins σ (upd (upd H kS (.lst [])) D (.lst (eJ kz xs))) s'->P (.done (.ret .none)) s') :
  wpAny (model X.prog X.w) A (ksk_rest D f false us.toArray e1 (.ref kS)) P E s:=by
 unfold ksk_rest;refine wpAny_bind (wpAny_rule ?_)
 first
  | rw[List.forIn_toArray]
  | (rw[<- Array.forIn_toList];simp only[List.toList_toArray])
 refine wpAny_bind (ksk_fold (fun i s'=>Inv X ((D,seqObj "list" #[] e1)::pins) σ (upd H kS (.lst ((kz.take i).map V.int))) s') us 0 s I ?one ?all)
 case one =>
  intro j u s' hu J;rw[Nat.zero_add] at J ⊢;have hj:j < us.length:=(List.getElem?_eq_some_iff.mp hu).1;obtain⟨k,hkj⟩:∃ k,kz[j]?=some k:=⟨_,List.getElem?_eq_getElem (by lia)⟩
  refine wpAny_bind (wpAny_attempt (wpAny_mono (turn j u k hu hkj _ _ s' (.more .refl hkS) J) (fun r s2 hr=>?_) fun _ _ z=>z.elim));obtain⟨⟨t,rfl⟩,J2⟩:=hr;dsimp only;obtain⟨_,its,n,vr,ek⟩:=J2.aJ kS _ af;have lenI:its.length<=us.length:=by
   rw[<- vr.length,List.length_map,List.length_take];lia
  have s1:=Heap.SameBut.update s2.heap kS (Obj.mapSeq (·.push (.int k t)));obtain⟨c1,hc1⟩:∃ c,(s2.heap.update kS (Obj.mapSeq (·.push (.int k t)))).get? kS=some (seqObj "list" (its.toArray.push (.int k t)) c):=⟨_,get?_update_seq ek (·.push (.int k t))⟩;have et:kz.take (j+1)=kz.take j++[k]:=by
   rw[List.take_add_one,hkj];rfl
  have vr2:Vals ((kz.take (j+1)).map V.int) (its++[.int k t]):=by
   rw[et,List.map_append];exact vr.append (.cons ⟨t,rfl⟩ .nil)
  refine wpAny_bind (listUpdate_at ek rfl ?_ (by rw[List.size_toArray,sizeLine_eq];lia) (by show (its.toArray.push (.int k t)).size<=_;rw[Array.size_push,List.size_toArray,sizeLine_eq];lia))
  refine wpAny_pure ⟨rfl,?_⟩;have J3:=J2.write (x:=kS) (e:=kS) (o:=.lst ((kz.take (j+1)).map V.int)) (t':=s2.toks) (h':=s2.heap.update kS (Obj.mapSeq (·.push (.int k t)))) (by rw[af];trivial) (.inl rfl) (fun b u hb q=>(s1.2 b hb).trans q) ⟨_,hc1⟩
   ⟨by rw[List.length_map,List.length_take,sizeLine_eq];lia,its++[.int k t],c1,vr2,by rw[hc1,List.push_toArray]⟩
  rw[oB] at J3;exact J3
 case all =>
  intro s' J;have ez:kz.take (0+us.length)=kz:=List.take_of_length_le (by lia)
  have J':Inv X ((D,seqObj "list" #[] e1)::pins) σ (upd H kS (.lst (kz.map V.int))) s':=by
   rw[<- ez];rw[ez];simpa only[ez] using J
  obtain⟨_,its,n,vr,ek⟩:=J'.aJ kS _ af;refine wpAny_bind (listItems_at ek rfl ?_);exact Ax J' hkS hD hkD hs0 hnp hv hlen h64 (by rw[List.toList_toArray];exact ja vr) h
theorem yE{A:Around}{D:Addr}{n0:Nat}{h0:Heap}{xs:List V}{us:List Value}{kz:List Int}{f:Value}{P:PySem.Fin->Shared->Prop}
  (I:Inv X pins σ H s) (k0:∀ b o,s.heap.get? b=some o->h0.get? b=some o) (hDs:s.heap.objs.size<=D) (ho:h0.get? D=some (seqObj "list" us.toArray n0)) (hv:Vals xs us) (hlen:kz.length=us.length) (h64:us.length < 64)
  (turn:∀ (i:Nat) (u:Value) (k:Int),us[i]?=some u->kz[i]?=some k->∀ pins' H' s',df H H'->Inv X pins' σ H' s'->wpAny (model X.prog X.w) A (call f [u]) (fun r s2=>(∃ t,r=.int k t)/\Inv X pins' σ H' s2) (fun _ _=>False) s')
  (h:∀ H' s',df H H'->H' D=none->Inv X pins σ (upd H' D (.lst (eJ kz xs))) s'->P (.done (.ret .none)) s') :
  wpAny (model X.prog X.w) A (ksk_tree D f false) P E { s with heap:=h0 }:=by
 have hsz0:D < h0.objs.size:=Heap.lt_size ho;have s1:=Heap.SameBut.update h0 D (Obj.mapSeq fun _=>(#[]:Array Value));obtain⟨e1,ho1⟩:∃ e,(h0.update D (Obj.mapSeq fun _=>(#[]:Array Value))).get? D=some (seqObj "list" #[] e):=⟨_,get?_update_seq ho fun _=>#[]⟩;have hkz:((h0.update D (Obj.mapSeq fun _=>(#[]:Array Value))).push (seqObj "tuple" us.toArray 0)).objs.size=h0.objs.size+1:=by
  rw[size_push',Heap.size_update]
 have nD:∀ b o,s.heap.get? b=some o->b≠D:=fun b o e=>Nat.ne_of_lt (Nat.lt_of_lt_of_le (Heap.lt_size e) hDs);have keep:∀ b o,s.heap.get? b=some o->(((h0.update D (Obj.mapSeq fun _=>(#[]:Array Value))).push (seqObj "tuple" us.toArray 0)).push (seqObj "list" #[] 0)).get? b=some o:=fun b o e =>
  Heap.get?_push_of_some _ (Heap.get?_push_of_some _ ((s1.2 b (nD b o e)).trans (k0 b o e)))
 have hle:s.heap.objs.size<=h0.objs.size+1:=Nat.le_trans hDs (Nat.le_succ_of_le (Nat.le_of_lt hsz0));have hkD:h0.objs.size+1≠D:=Nat.ne_of_gt (Nat.lt_succ_of_lt hsz0);have hkS:H (h0.objs.size+1)=none:=I.aJ.fresh hle;have hD:H D=none:=I.aJ.fresh hDs;have hnp:∀ p∈X.pn++pins,p.1≠D:=fun p hp=>nD _ _ (I.pin p hp).1;have J0:Inv X pins σ (upd H (h0.objs.size+1) (.lst [])) { s with heap:=((h0.update D (Obj.mapSeq fun _=>(#[]:Array Value))).push (seqObj "tuple" us.toArray 0)).push (seqObj "list" #[] 0) }:=
  I.laid (t':=s.toks) keep hle ⟨Nat.zero_le _,[],0,.nil,by rw[<- hkz];exact Heap.get?_push_size _ rfl⟩
 have J:Inv X ((D,seqObj "list" #[] e1)::pins) σ (upd H (h0.objs.size+1) (.lst [])) { s with heap:=((h0.update D (Obj.mapSeq fun _=>(#[]:Array Value))).push (seqObj "tuple" us.toArray 0)).push (seqObj "list" #[] 0) }:=by
  refine J0.kI fun p hp=>?_;rcases List.mem_cons.mp hp with rfl | hp
  ·exact⟨Heap.get?_push_of_some _ (Heap.get?_push_of_some _ ho1),by rw[ae (Ne.symm hkD)];exact hD,fun z=>absurd I.lt (by rw[<- z];exact Nat.not_lt.mpr hDs),I.DE hDs,fun v z=>by cases z⟩
  ·exact J0.pin p (List.mem_append_right _ hp)
 unfold ksk_tree;refine wpAny_bind (listItems_at ho rfl ?_);refine wpAny_bind (listUpdate_at ho rfl ?_ (by rw[List.size_toArray,sizeLine_eq];lia) (Nat.zero_le _))
 refine wpAny_bind (seqEpoch_at ho1 rfl ?_);refine wpAny_bind (wpAny_newTuple ?_ (by show us.length<=_;rw[sizeLine_eq];lia))
 refine wpAny_bind (wpAny_newList ?_ (Nat.zero_le _));refine wpAny_holding ?_;show wpAny _ _ (ksk_rest D f false us.toArray e1 (.ref ((h0.update D (Obj.mapSeq fun _=>(#[]:Array Value))).push (seqObj "tuple" us.toArray 0)).objs.size)) _ _ _;rw[hkz];exact xr J hkS hD hkD (Nat.le_trans I.sz hDs) hnp hv hlen h64 turn fun s' K=>h _ s' (.more .refl hkS) (by rw[ae (Ne.symm hkD)];exact hD) K
end
def xJ(q:Str)(params:Arguments)(body:Expr)(scope:Scope)(cl:List (Str×Addr)):TE:=fun _ H Q=>∀ f c' pm ctv H1,df H H1->gF H1 f q params body scope cl c' pm ctv->Q (.ref f) H1
theorem Be{X:Cx}{x:Str}{c P:Addr}(hx:x∈cX)(ht:PySem.W.tabIn X.K x=some (c,P))(hcode:X.env.code=.ref c)(hq:X.env.qual=x++".<locals>."){params:Arguments}{body:Expr}{scope:Scope}{pos:Pos}{cl:List (Str×Addr)}
  (hdef:defaultsOf params X.env=([],[])) (hcl:closureFor scope X.env=pure cl):PE X (.Lambda params body scope pos) (xJ ((x++".<locals>.")++"<lambda>") params body scope cl):=fun pins s σ H Q I h =>
 uI I hx ht hcode hq hdef hcl fun f c' pm ctv H1 s1 g J l=>⟨.ref f,H1,J,rfl,h f c' pm ctv H1 g l⟩
section
variable {X:Cx} {pins:List (Addr×Obj)} {σ:St} {H:Hp} {s:Shared} {E:Value->Shared->Prop}
def sZ(X:Cx)(A:Around)(s:Shared)(l:Addr)(xs:List V):Prop:=∀ (Q:List Value->Shared->Prop) (E:Value->Shared->Prop),(∀ h0 tk us,(∀ b o,s.heap.get? b=some o->h0.get? b=some o)->s.heap.objs.size<=h0.objs.size->Vals xs us->Q us { s with heap:=h0,toks:=tk })->wpAny (model X.prog X.w) A (collect (.ref l)) Q E s
theorem rW{A:Around}{l f:Addr}{xs:List V}{kz:List Int}{Q:VK}(I:Inv X pins σ H s)(hcol:sZ X A.in1 s l xs)(hlen:kz.length=xs.length)(h64:xs.length < 64)
  (turn:∀ (i:Nat) (v:V) (u:Value) (k:Int),xs[i]?=some v->RelV v u->kz[i]?=some k->∀ pins' H' s',df H H'->Inv X pins' σ H' s'->wpAny (model X.prog X.w) A.in1.in1 (call (.ref f) [u]) (fun r s2=>(∃ t,r=.int k t)/\Inv X pins' σ H' s2) (fun _ _=>False) s')
  (h:∀ H' D,df H H'->H' D=none->Q (.ref D) (upd H' D (.lst (eJ kz xs)))) :
  wpAny (model X.prog X.w) A (call (.builtin "sorted") [.ref l] [(Str.ofString "key",.ref f)]) (EP X pins σ Q) E s:=by
 refine call_function_entry_kw kind_sorted plain_sorted entry_sorted (ksk_s1 _ _) ?_;unfold Builtin.«sorted»;refine wpAny_bind (m:=checkCount "sorted" 1 1 _) (wpAny_pure (wpAny_bind (hcol _ _ fun h0 tk us k0 hz hv=>?_)));have ul:us.length=xs.length:=hv.length.symm;refine wpAny_bind (wpAny_newList ?_ (by rw[ul,sizeLine_eq];lia))
 have hoL:(h0.push (seqObj "list" us.toArray 0)).get? h0.objs.size=some (seqObj "list" us.toArray 0):=Heap.get?_push_size _ rfl;refine wpAny_bind (wpAny_holding (wpAny_call_entry_kw slot_list_sort ⟨_,hoL,rfl⟩ entry_list_sort ?srt (ksk_l1 _ _)))
 case srt =>
  show wpAny _ A.in1.in1 (Builtin.«list.sort» ⟨[.ref h0.objs.size],[(Str.ofString "key",.ref f)]⟩) _ _ _;rw[ksk_t1];refine yE (s:={ s with toks:=tk }) (h0:=h0.push (seqObj "list" us.toArray 0)) (I.tok tk) (fun b o e=>Heap.get?_push_of_some _ (k0 b o e)) hz hoL hv (by rw[ul];exact hlen) (by rw[ul];exact h64)
   (fun i u k hu hk pins' H' s' g J=>?_) fun H' s' g n J=>⟨_,rfl,?_⟩
  ·have hi:i < xs.length:=by rw[<- ul];exact (List.getElem?_eq_some_iff.mp hu).1
   obtain⟨u',hu',rv⟩:=hv.get (List.getElem?_eq_getElem hi);rw[hu] at hu';cases hu';exact turn i _ u k (List.getElem?_eq_getElem hi) rv hk pins' H' s' g J
  ·exact wpAny_pure ⟨_,rfl,.ref h0.objs.size,_,J,rfl,h H' _ g n⟩
theorem mX{A:Around}{l:Addr}{xs:List V}(I:Inv X pins σ H s)(hl:bA X.K H l xs)(h64:xs.length < 64):sZ X A s l xs:=fun Q E h=>by
 obtain⟨its,rv,pl,hz⟩:=I.list hl;refine collect_list pl.isList (h _ s.toks its (fun b o e=>?_) ?_ rv) (by rw[<- rv.length];exact hz)
 ·rw[Heap.get?_update_ne _ _ _ _ (Nat.ne_of_lt (Heap.lt_size e))];exact Heap.get?_push_of_some _ e
 ·rw[Heap.size_update,size_push'];exact Nat.le_succ _
def uV(src:Hp->Addr->List V->Prop)(pre:V->Int->Hp->St->Prop)(fr:St->St)(t:TA):TE:=fun σ H Q=>t σ H fun vs H1=>∃ l xs kz,vs=[.ref l]/\src H1 l xs/\kz.length=xs.length/\xs.length < 64 /\
 (∀ (i:Nat) (v:V) (k:Int),xs[i]?=some v->kz[i]?=some k->∀ H',df H1 H'->pre v k H' (fr σ))/\∀ H2 D,df H1 H2->H2 D=none->Q (.ref D) (upd H2 D (.lst (eJ kz xs)))
theorem wq{e:Expr}{t:TA}{p pos kpos lpos:Pos}{x q:Str}{N:List Str}{params:Arguments}{body:Expr}{scope:Scope}{cl:List (Str×Addr)}{k:Nat}{src:Hp->Addr->List V->Prop}{pre:V->Int->Hp->St->Prop}{fr:St->St}
  (hg:Gl X "sorted") (hm:X.mg "sorted"=none) (ha:PA X [e] t) (h1:bY e=true) (hr:bz (k+3) X.A) (hL:PE X (.Lambda params body scope lpos) (xJ q params body scope cl))
  (hsrc:∀ pins σ H s H1 l xs A,Inv X pins σ H s->src H1 l xs->df H1 H->A.handled=none->xs.length < 64->sZ X A s l xs)
  (hk:scope.kind=.function) (hco:scope.isCoroutine=false) (hgen:scope.isGenerator=false) (hcell:∀ y∈scope.names,y.2≠.cell) (hloc:scope.names.lookup x=some .local)
  (hbind:∀ c' pm ctv u,bindArgs (PySem.W.kla_fn "<lambda>" q params body scope cl pm (.ref c') ctv) ⟨[u],[]⟩=pure [(x,u)])
  (hlen:∀ σ:St,(fr σ).length=N.length) (hcl:∀ y c,cl.lookup y=some c->X.env.cells.lookup y=some c) (hhas:∀ y,(scope.names.lookup y=some .cell\/scope.names.lookup y=some .free)->∃ c,cl.lookup y=some c)
  (hf:∀ pins σ H s,Inv X pins σ H s->∀ (i:Nat) (y:Str) (v:V),N[i]?=some y->(fr σ)[i]?=some (some v)->scope.names.lookup y=some .free/\∃ c u,cl.lookup y=some c/\s.heap.IsCell c (some u)/\RelV v u)
  (hbody:∀ A f c' s' H' σf v i,pre v i H' σf->∃ t,PE (oM X A (x::N) q scope f (.ref c') cl s' H') body t/\t (some v::σf) H' (fun w H2=>w=.int i/\H2=H')) :
  PE X (.Call (.Name "sorted" p) [e] [⟨some "key",.Lambda params body scope lpos,kpos⟩] pos) (uV src pre fr t):=by
 intro pins s σ H Q I h;refine wpAny_Call_Name_kw (eA I hg hm (u:=.builtin "sorted") (by decide +kernel) ?_ (by decide) (by decide))
 have hkw:PK X [⟨some "key",.Lambda params body scope lpos,kpos⟩] (fG (xJ q params body scope cl) iS):=yh hL BY;refine callWith_kw ?_ (by rw[b_ h1];rfl) (by rw[b_ h1];rfl) rfl rfl
 refine bJ (ha pos pins s σ H _ I h) fun us s1 ⟨vs,H1,I1,r1,q1⟩=>?_;obtain⟨l,xs,kz,rfl,hs,hle,h64,hpre,qq⟩:=q1;obtain⟨u,rfl,ru⟩:=vals1 r1;cases ru;refine bJ (hkw pos pins s1 σ H1 (fun zs H2=>∃ f c' pm ctv,zs=[.ref f]/\df H1 H2/\gF H2 f ((q)) params body scope cl c' pm ctv) I1 fun f c' pm ctv H2 g lm=>⟨f,c',pm,ctv,rfl,g,lm⟩) fun ws s2 ⟨zs,H2,I2,rz,f,c',pm,ctv,e1,g,lm⟩=>?_;subst e1;obtain⟨wv,rfl,rw1⟩:=vals1 rz;cases rw1;have hr1:bz (k+2) X.A.in1:=hr.in1;refine rW I2 (hsrc _ _ _ _ _ _ _ _ I2 hs g hr1.hd h64) hle h64 (fun i v u j hv rv hj pins' H' s' g' J=>?_) fun H' D g' n=>qq H' D (g.trans g') n;obtain⟨ho,hcd⟩:=(lm.up fun b o u e=>g'.same b _ e).get J;obtain⟨tb,hb,hq⟩:=hbody X.A.in1.in1 f c' s' H' (fr σ) v j (hpre i v j hv hj H' (g.trans g'));refine wpAny_mono (wb J hr1.in1 J.ok.frames hk hco hgen hcell rv hloc ho hcd (hbind c' pm ctv) (hlen σ) hcl hhas (hf _ _ _ _ J) hb hq) (fun r s4 hr4=>?_) fun _ _ z=>z;obtain⟨w,H4,J4,rw4,e4,e5⟩:=hr4;subst e4 e5;exact⟨rw4,J4⟩
end
theorem xh{α:Type}{x:Str}{a:α}{l:List (Str×α)}:List.lookup x ((x,a)::l)=some a:=by rw[List.lookup_cons,beq_self_eq_true]
theorem yg{α:Type}{x y:Str}{a:α}{l:List (Str×α)}(h:y≠x):List.lookup y ((x,a)::l)=List.lookup y l:=by rw[List.lookup_cons,beq_eq_false_iff_ne.mpr h]
section
variable {X:Cx} {pins:List (Addr×Obj)} {σ:St} {H:Hp} {s:Shared}
end
def u5(K:PySem.W.Frag):List V->Hp->VK->Prop:=fun vs H1 Q=>∃ l xs kz,vs=[.ref l]/\bA K H1 l xs/\kz.length=xs.length/\xs.length < 64 /\
 (∀ (i:Nat) (v:V) (k:Int),xs[i]?=some v->kz[i]?=some k->∀ H',df H1 H'->∃ p ys,v=.ref p/\bj K H' p (.int k::ys))/\∀ H2 D,df H1 H2->H2 D=none->Q (.ref D) (upd H2 D (.lst (eJ kz xs)))
theorem vC{X:Cx}{e:Expr}{t:TA}{p pos kpos lpos p1 p2 p3:Pos}{cj:Nat}{x q:Str}{params:Arguments}{scope:Scope}{k:Nat}(hg:Gl X "sorted")(hm:X.mg "sorted"=none)(ha:PA X [e] t)(h1:bY e=true)(hr:bz (k+3) X.A)
  (hL:PE X (.Lambda params (.Subscript (.Name x p1) (.Constant (.int 0) cj p2) p3) scope lpos) (xJ q params (.Subscript (.Name x p1) (.Constant (.int 0) cj p2) p3) scope []))
  (hsc:scope={ kind:=.function,names:=[(x,.local)],isGenerator:=false,isCoroutine:=false,more:=[] }) (hx1:(x ==("__debug__":Str))=false) (hx2:(x ==("__classdict__":Str))=false)
  (hbind:∀ c' pm ctv u,bindArgs (PySem.W.kla_fn "<lambda>" q params (.Subscript (.Name x p1) (.Constant (.int 0) cj p2) p3) scope [] pm (.ref c') ctv) ⟨[u],[]⟩=pure [(x,u)]) :
  PE X (.Call (.Name "sorted" p) [e] [⟨some "key",.Lambda params (.Subscript (.Name x p1) (.Constant (.int 0) cj p2) p3) scope lpos,kpos⟩] pos) (sy (u5 X.K) t):=by
 subst hsc;have lk:∀ y,List.lookup y [(x,NameKind.local)]=if y=x then some .local else none:=fun y=>by
  by_cases z:y=x
  ·rw[if_pos z,z,xh]
  ·rw[if_neg z,yg z];rfl
 show PE X _ (uV (fun H l xs=>bA X.K H l xs) (fun v k H' _=>∃ p ys,v=.ref p/\bj X.K H' p (.int k::ys)) (fun _=>[]) t);refine wq (N:=[]) hg hm ha h1 hr hL (fun pins σ H s H1 l xs A I hs g _ h64=>mX I (g.same.seq hs) h64) rfl rfl rfl (fun y hy=>by rw[List.mem_singleton.mp hy];nofun) (by rw[lk,if_pos rfl]) hbind (fun _=>rfl) (fun y c z=>by cases z) (fun y z=>?_) (fun _ _ _ _ _ i y v z=>by cases z) fun A f c' s' H' σf v i hp=>?_
 ·rw[lk] at z
  split at z
  ·rcases z with z | z<;>cases z
  ·rcases z with z | z<;>cases z
 ·obtain⟨a,ys,rfl,hq⟩:=hp;refine⟨_,zI vm (pv 0 rfl (.inl (by show List.lookup x [(x,NameKind.local)]=_;rw[lk,if_pos rfl])) hx1 hx2) iR (Z.GJ rfl),?_⟩
  exact⟨_,rfl,a,_,0,.int i,rfl,rfl,hq,cN (j:=0) rfl,rfl,rfl⟩
theorem gp{K:PySem.W.Frag}{H:Hp}{B:aK}:∀ {vs:List V} {ts:List T},aj K H B vs ts->Paired (Rep K H B) vs ts
 | _,_,.nil=>.nil
 | _,_,.cons h r=>.cons h (gp r)
theorem gE{K:PySem.W.Frag}{H:Hp}{B:aK}:∀ {vs:List V} {ts:List T},Paired (Rep K H B) vs ts->aj K H B vs ts
 | _,_,.nil=>.nil
 | _,_,.cons h r=>.cons h (gE r)
theorem aj.eJ{K:PySem.W.Frag}{H:Hp}{B:aK}{ks:List Int}{vs:List V}{ts:List T}(r:aj K H B vs ts):aj K H B (L2.eJ ks vs) (L2.eJ ks ts):=gE (gM (gp r))
theorem oU{α β:Type}{g:α->β}{ks:List Int}{l:List α}:eJ ks (l.map g)=(eJ ks l).map g:=by
 have p:∀ l:List α,Paired (fun a b=>b=g a) l (l.map g):=fun l=>by
  induction l with
  | nil=>exact .nil
  | cons a l ih=>exact .cons rfl ih
 have q:∀ {l:List α} {m:List β},Paired (fun a b=>b=g a) l m->m=l.map g:=fun {l m} h=>by
  induction h with
  | nil=>rfl
  | cons r _ ih=>rw[r,ih];rfl
 exact q (gM (p l))
def sY:T->Option Int
 | .tup (.int k::_)=>some k
 | _=>none
namespace Y
def jW:T->Mu->(R->Mu->Prop)->Prop:=fun t μ Q=>match t with
 | .lst ts=>∃ kz:List Int,ts.map sY=kz.map some/\ts.length < 64/\Q (.fr (.lst (eJ kz ts))) μ
 | _=>False
theorem AL{ts:List T}{kz:List Int}(h:ts.map sY=kz.map some){i:Nat}{k:Int}(e:kz[i]?=some k):∃ us,ts[i]?=some (.tup (.int k::us)):=by
 have q:=congrArg (fun l=>l[i]?) h;simp only[List.getElem?_map,e,Option.map_some] at q
 cases ht:ts[i]? with
 | none=>rw[ht] at q;cases q
 | some t =>
  rw[ht] at q;have q':sY t=some k:=Option.some.inj q;unfold sY at q'
  split at q'
  ·cases q';exact⟨_,rfl⟩
  ·cases q'
theorem vE{K:PySem.W.Frag}:RC K (u5 K) (sA jW):=ig fun F ad B σ H μ Q Qt x t hK l v1 q k=>by
 subst hK;unfold jW at q
 split at q
 ·obtain⟨kz,hk,h64,q⟩:=q
  cases v1 with
  | lst ha ra =>
   have le:=congrArg List.length hk;rw[List.length_map,List.length_map] at le;refine⟨_,_,kz,rfl,bA.of ha,by rw[ra.length,le],by rw[ra.length];exact h64,fun i v j e1 e2 H' g=>?_,fun H2 D g n=>k _ _ _ (Vr.fP (l.same g.same) (ra.fr (Fr.same g.same)).eJ n) (fun b o e z=>⟨bC.new n b o (g.same b o e),fun y=>?_⟩) q⟩
   ·obtain⟨us,hu⟩:=AL hk e2;obtain⟨v',e3,rp⟩:=ra.get hu;rw[e1] at e3;cases e3
    cases rp with
    | tup nb hp rr =>
     cases rr with
     | cons r0 rr =>
      cases r0;exact⟨_,_,rfl,bj.of (g.same _ _ hp)⟩
   ·rcases y with y | y
    ·subst y;rw[g.same b o e] at n;cases n
    ·exact z y
 ·exact q.elim
theorem sortI{X:Cx}{e:Expr}{us:UA}{p pos kpos lpos p1 p2 p3:Pos}{cj:Nat}{x y:Str}{c Pt:Addr}{params:Arguments}{scope:Scope}{k:Nat}(K:PySem.W.Frag)(hK:X.K=K)(hx:y∈cX)(ht:PySem.W.tabIn K y=some (c,Pt))(hcode:X.env.code=.ref c)(hq:X.env.qual=y++".<locals>.")(hdef:defaultsOf params X.env=([],[]))(hcl:closureFor scope X.env=pure [])
  (hg:Gl X "sorted") (hm:X.mg "sorted"=none) (ha:YA X [e] us) (hr:bz (k+3) X.A)
  (hsc:scope={ kind:=.function,names:=[(x,.local)],isGenerator:=false,isCoroutine:=false,more:=[] }) (hx1:(x ==("__debug__":Str))=false) (hx2:(x ==("__classdict__":Str))=false)
  (hbind:∀ c' pm ctv u,bindArgs (PySem.W.kla_fn "<lambda>" ((y++".<locals>.")++"<lambda>") params (.Subscript (.Name x p1) (.Constant (.int 0) cj p2) p3) scope [] pm (.ref c') ctv) ⟨[u],[]⟩=pure [(x,u)]) (h1:bY e=true:=by rfl) :
  YE X (.Call (.Name "sorted" p) [e] [⟨some "key",.Lambda params (.Subscript (.Name x p1) (.Constant (.int 0) cj p2) p3) scope lpos,kpos⟩] pos) (zm (sA jW) us):=by
 subst hK;obtain⟨t,q,rr⟩:=ha;exact⟨_,⟨vC hg hm q.h h1 hr (Be hx ht hcode hq hdef hcl) hsc hx1 hx2 hbind⟩,ud vE rr⟩
end Y
structure pK (K:PySem.W.Frag) (mg:Str->Option Value) (x:Str):Prop where
 ex:∃ c P,PySem.W.tabIn K x=some (c,P)/\∀ f cdv,vq K mg x f cdv->cdv=.ref c
theorem lR{K:PySem.W.Frag}{x:Str}{f c P:Addr}{oc oc':Value}{od od':Option Addr}{sl sl':Array (Option Value)}{fd:FuncData}{vs:Array Value}(a:PySem.W.nsIn K mainGlobals x=some (some (.ref f)))(l:K.lookup f=some ⟨oc,od,.func fd,sl⟩)(hc:fd.code=.ref c)
  (lc:K.lookup c=some ⟨oc',od',.fields vs,sl'⟩) (hv:vs[11]?=some (.ref P)):PySem.W.tabIn K x=some (c,P):=by
 unfold PySem.W.tabIn;rw[a];dsimp only;rw[l];dsimp only;rw[hc];dsimp only;rw[lc];dsimp only;rw[hv]
theorem ij{K:PySem.W.Frag}{x:Str}(a:PySem.W.nsIn K mainGlobals x=some none):PySem.W.tabIn K x=none:=by
 unfold PySem.W.tabIn;rw[a]
theorem pK.mk'{K:PySem.W.Frag}{h:Heap}{mg:Str->Option Value}{x:Str}{c P:Addr}(X:K.In h)(G:h.Ns mainGlobals mg)(ht:PySem.W.tabIn K x=some (c,P)):pK K mg x:=
 ⟨c,P,ht,fun f cdv ⟨m,o,fd,lk,hd,e⟩=>by rw[<- e];exact PySem.W.law_code X G ht m (X _ _ lk) hd⟩
theorem fe.of{q:Program}{K:PySem.W.Frag}{o1 o2 o3:Option (Addr×Addr)}(nt:PySem.W.noTabs K=true)(t1:PySem.W.tabIn K "by_worth"=o1)(t2:PySem.W.tabIn K "by_weight"=o2)(t3:PySem.W.tabIn K "code_of"=o3)(nd:((o1.toList++(o2.toList++o3.toList)).map (·.2)).Nodup)
  (f1:o1=none\/((recsOf q).find? (fun e=>e.name ==("by_worth":Str))).isSome=true) (f2:o2=none\/((recsOf q).find? (fun e=>e.name ==("by_weight":Str))).isSome=true) (f3:o3=none\/((recsOf q).find? (fun e=>e.name ==("code_of":Str))).isSome=true):fe q K:=by
 refine⟨nt,?_,fun x hx=>?_⟩
 ·have e:(bD K).map (·.2.1)=(o1.toList++(o2.toList++o3.toList)).map (·.2):=by
   unfold bD cX
   cases o1<;>cases o2<;>cases o3<;>simp[List.filterMap,t1,t2,t3]
  rw[e];exact nd
 ·unfold cX at hx;rcases List.mem_cons.mp hx with rfl | hx
  ·rw[t1];exact f1
  ·rcases List.mem_cons.mp hx with rfl | hx
   ·rw[t2];exact f2
   ·rw[List.mem_singleton.mp hx,t3];exact f3
namespace Y
section
variable {X:Cx} {e:Expr} {vs:List Expr} {ue:UE} {u:UJ} {pos p:Pos}
end
end Y
theorem ai.calm{P:Program}{w:World}{K:PySem.W.Frag}{mg:Str->Option Value}{base:Heap}{k:Nat}{x:Str}{ps:List Str}{md:List Bool}{tsx:wK}{tsp:fc}(F:ai P w K mg base (oR P w) k x ps (wI K md tsx))(h:∀ args Q,tsp args Q->tsx args Q fun _=>False):ai P w K mg base bT k x ps (spT K md tsp):=by
 obtain⟨f,fd,m,kp,b,G⟩:=F.ex;have to:∀ vs H Q E,spT K md tsp vs H Q E->wI K md tsx vs H Q (fun _ _ _=>False):=fun vs H Q E ⟨B,args,Qt,ag,bh,nd,ht,fin⟩=>⟨fun _=>False,⟨B,args,Qt,ag,bh,nd,h _ _ ht,fin⟩,fun x cls d e H' z=>z.elim⟩;refine⟨f,fd,m,kp,b,⟨fun vs H Q E q=>G.len vs H Q _ (to _ _ _ _ q),fun A outer s H args us vs Q E hr e0 hb r q=>codeAny_mono (G.run A outer s H args us vs Q _ hr e0 hb r (to _ _ _ _ q)) fun r s' hq=>?_⟩⟩
 cases r with
 | error e =>
  obtain⟨_,_,_,_,_,_,_,_,_,_,_,_,_,_,_,_,z⟩:=hq;exact z.elim
 | ok fl=>cases fl<;>exact hq
namespace A
theorem xP(ts:List T)(μ:Mu)(Q:R->Mu->Prop):Y.jW (.lst ts) μ Q=(∃ kz:List Int,ts.map sY=kz.map some/\ts.length < 64/\Q (.fr (.lst (eJ kz ts))) μ):=rfl
end A
namespace Y
end Y
namespace A
end A
namespace Y
section
variable {X:Cx} {e:Expr} {ue:UE} {pos p:Pos} {x:Str} {k:Nat} {ps:List Str} {tsp:fc} {E:XK}
end
end Y
namespace A
end A
theorem mi:∀ {ns:List Int} {us:List Value} (r:Vals (ns.map V.int) us) (k:Int),us.countP (fun v=>match v with | .int j _=>j == k | _=>false)=ns.count k
 | [],_,.nil,k=>rfl
 | n::ns,_,.cons r t,k=>by
  obtain⟨u,rfl⟩:=r;rw[List.countP_cons,mi t k,List.count_cons]
theorem m4:∀ {ns:List Int} {us:List Value} (r:Vals (ns.map V.int) us),∀ y∈us,∃ j t,y=.int j t
 | [],_,.nil,y,h=>by cases h
 | n::ns,_,.cons r t,y,h=>by
  obtain⟨u,rfl⟩:=r;rcases List.mem_cons.mp h with e | e
  ·exact⟨_,_,e⟩
  ·exact m4 t y e
namespace Y
def CN:V->List V->Hp->VK->Prop:=fun x vs H Q=>∃ (a:Addr) (ns:List Int) (k:Int),x=.ref a/\H a=some (.lst (ns.map V.int))/\vs=[.int k]/\Q (.int (ns.count k:Nat)) H
theorem BS{X:Cx}:DV X "list.count" CN:=by
 intro pins s σ H x xs v us Q I rx rs h;obtain⟨a,ns,k,rfl,hH,rfl,q⟩:=h;cases rx;obtain⟨u,rfl,t,rfl⟩:=vals1 rs;obtain⟨z,its,n,r,hl,e⟩:=I.kZ hH;refine call_meets PySem.F.slot_list_count ⟨_,e,rfl⟩ PySem.F.entry_list_count (PySem.F.args_list_count_2 _ _) (SeqAt.list_countAt a its.toArray n none _ (.int k t) (fun v=>match v with | .int j _=>j == k | _=>false)) ⟨e,fun y hy=>?_,⟨.int _,H,I.tok _,⟨_,rfl⟩,?_⟩⟩
 ·obtain⟨j,u,rfl⟩:=m4 r y (by simpa using hy)
  exact SeqAt.EqAt.int_int _ _ _ _
 ·show Q (.int (((its.toArray).toList.countP _:Nat):Int)) H;rw[mi r k];exact q
def sU:UM:=fun j rs μ Q=>match rs with
 | [.tr (.int k)]=>(match (μ[j]?).bind Sl.box with
  | some (.lst ts)=>∃ ns:List Int,ts=ns.map T.int/\Q (.tr (.int (ns.count k:Nat))) μ
  | _=>False)
 | _=>False
theorem B7{K:PySem.W.Frag}:RM K CN sU:=by
 intro F ad B σ H μ Q Qt j s c xs rs hF l e b ps q k;unfold sU at q
 split at q
 ·rename_i z
  cases ps with
  | cons h ps =>
   cases ps;rw[e] at q
   cases bG h
   have q':(match s.box with | some (.lst ts)=>∃ ns:List Int,ts=ns.map T.int/\Qt (.tr (.int (ns.count z:Nat))) μ | _=>False):=q
   rw[b] at q';rcases ((l.slot j s e).boxed b).2.2.1.is with ⟨ts,vs,rfl,hl,rv⟩ | ⟨_,_,_,rfl,_⟩
   case inr=>exact q'.elim
   simp only at q';obtain⟨ns,rfl,q2⟩:=q';rw[Y.d8 rv] at hl;exact⟨_,ns,z,rfl,hl,rfl,k _ H _ μ (Vr.flat l (.int _)) Fr.refl (Kp.refl μ) q2⟩
 ·exact q.elim
def C1:V->List V->Hp->VK->Prop:=fun x vs H Q=>∃ l b xs ys,x=.ref l/\vs=[.ref b]/\b≠l/\H l=some (.lst xs)/\H b=some (.lst ys)/\xs.length+ys.length<=sizeLine/\Q .bf (upd H l (.lst (xs++ys)))
theorem A_{X:Cx}:DV X "list.extend" C1:=by
 intro pins s σ H x vs v us Q I rx rv h;obtain⟨l,b,xs,ys,rfl,rfl,hne,hH,hb,hz,q⟩:=h;cases rx;obtain⟨u,rfl,ru⟩:=vals1 rv;cases ru;obtain⟨z,its,n,r,hl,e⟩:=I.kZ hH;obtain⟨z2,its2,n2,r2,hl2,e2⟩:=I.kZ hb;have hsz:its.toArray.size+its2.toArray.size<=sizeLine:=by rw[List.size_toArray,List.size_toArray];lia
 refine call_meets F.slot_list_extend ⟨_,e,rfl⟩ F.entry_list_extend (F.args_list_extend_2 _ _) (AutoSeq1.list_extend_list_list_0 l its.toArray n b its2.toArray n2 (extend_door hsz) (by lia) (by lia)) ⟨e,e2,?_⟩
 refine⟨.bf,_,I.Am (its':=its++its2) hH e ?_ (r.append r2) (by rw[List.length_append];exact hz),rfl,q⟩
 apply Array.toList_inj.mp;simp
def s_:UM:=fun j rs μ Q=>match rs with
 | [.tr (.lst us)]=>(match (μ[j]?).bind Sl.box with
  | some (.lst ts)=>ts.length+us.length<=sizeLine/\Q (.tr .bf) (cL μ j (.lst (ts++us)))
  | _=>False)
 | _=>False
theorem B9{K:PySem.W.Frag}:RM K C1 s_:=by
 intro F ad B σ H μ Q Qt j s c xs rs hF l e b ps q k;unfold s_ at q
 split at q
 ·rename_i us
  cases ps with
  | cons h1 ps =>
   cases ps;have rt:=bG h1;rw[e] at q;have q':(match s.box with | some (.lst ts)=>ts.length+us.length<=sizeLine/\Qt (.tr .bf) (cL μ j (.lst (ts++us))) | _=>False):=q
   rw[b] at q';rcases ((l.slot j s e).boxed b).2.2.1.is with ⟨ts,vs,rfl,hl,rv⟩ | ⟨_,_,_,rfl,_⟩
   case inr=>exact q'.elim
   obtain⟨hz,q2⟩:=(show ts.length+us.length<=sizeLine/\_ from q');have hB:=((l.slot j s e).boxed b).2.1
   cases rt with
   | lst nb hb r2 =>
    rename_i a2 vs2;refine⟨_,a2,vs,vs2,rfl,rfl,fun z=>nb (z ▸ hB),hl,hb,by rw[rv.length,r2.length];exact hz,?_⟩
    have l3:=l.put e b (rv.append r2);unfold cL at q2;rw[e] at q2;exact k _ _ (.tr .bf) _ (Vr.flat l3 .bf) (Fr.set hB) (Kp.set e b (Sl.gL b)) q2
 ·exact q.elim
end Y
def wO{α:Type}:Bool->List α->List α
 | _,[]=>[]
 | true,x::r=>x::wO false r
 | false,_::r=>wO true r
def jc{α:Type}(l:List α):List α:=wO true l
theorem xu{α:Type}(ys:List α):∀ b,(wO b ys).length<=ys.length:=by
 induction ys with
 | nil=>exact fun b=>by cases b<;>exact Nat.le_refl _
 | cons y r ih =>
  intro b
  cases b with
  | true=>exact Nat.succ_le_succ (ih false)
  | false=>exact Nat.le_succ_of_le (ih true)
theorem yr{α:Type}(ys:List α):(jc ys).length<=ys.length:=xu ys true
theorem Vals.jc{xs:List V}{us:List Value}(h:Vals xs us):Vals (jc xs) (jc us):=by
 have k:∀ b,Vals (wO b xs) (wO b us):=by
  induction h with
  | nil=>exact fun b=>by cases b<;>exact .nil
  | cons h _ ih =>
   intro b
   cases b with
   | true=>exact .cons h (ih false)
   | false=>exact ih true
 exact k true
theorem aj.jc{K:PySem.W.Frag}{H:Hp}{B:aK}{xs:List V}{us:List T}(h:aj K H B xs us):aj K H B (jc xs) (jc us):=by
 have k:∀ b,aj K H B (wO b xs) (wO b us):=by
  induction xs generalizing us with
  | nil=>cases h;exact fun b=>by cases b<;>exact .nil
  | cons x xs ih =>
   cases h with
   | cons h r =>
    intro b
    cases b with
    | true=>exact .cons h (ih r false)
    | false=>exact ih r true
 exact k true
theorem tN{α:Type}(xs:List α)(n m:Nat)(h:(xs.length - m+1) / 2=n):((List.range n).map fun k=>m+2*k).filterMap (fun i=>xs[i]?)=jc (xs.drop m):=by
 induction n generalizing m with
 | zero=>rw[List.drop_of_length_le (by lia)];rfl
 | succ n ih =>
  have hm:m < xs.length:=by lia
  have h2:(xs.length - (m+2)+1) / 2=n:=by lia
  rw[List.range_succ_eq_map,List.map_cons,List.filterMap_cons];show (match xs[m]? with | none=>_ | some b=>_)=_
  rw[List.getElem?_eq_getElem hm];have e2:jc (xs.drop m)=xs[m]::jc (xs.drop (m+2)):=by
   rw[List.drop_eq_getElem_cons hm];show xs[m]::wO false (xs.drop (m+1))=_;congr 1;rw[<- List.drop_drop (i:=1) (j:=m+1)];generalize xs.drop (m+1)=z
   cases z<;>rfl
  rw[e2,<- ih (m+2) h2,List.map_map];show xs[m]::_=xs[m]::_;congr 2;exact List.map_congr_left fun k _=>by show m+2*(k+1)=m+2+2*k;rw[Nat.mul_succ,Nat.add_comm (2*k),Nat.add_assoc]
theorem tm(items:Array Value)(m:Nat):slicePick items (some (m:Int)) none (some 2)=(jc (items.toList.drop m)).toArray:=by
 unfold slicePick;have hb:sliceBounds (some (m:Int)) none (some 2) items.size=(((min m items.size:Nat):Int),(items.size:Int),2):=by
  unfold sliceBounds;simp only[Option.getD_some];rw[if_neg (show ¬ (m:Int) < 0 by lia)]
  simp only[show (2:Int) > 0 by decide,if_true]
  congr 1;lia
 rw[hb];show ((sliceRange ((min m items.size:Nat):Int) (items.size:Int) 2).filterMap (items[·]?)).toArray=_;congr 1;have el:items.toList.length=items.size:=Array.length_toList;unfold sliceRange;simp only[show (2:Int) > 0 by decide,if_true]
 have ec:(if ((min m items.size:Nat):Int) < (items.size:Int) then ((items.size:Int) - ((min m items.size:Nat):Int)+2 - 1) / 2 else 0).toNat=(items.size - m+1) / 2:=by
  split<;>lia
 rw[ec,<- tN items.toList _ m (by rw[el])]
 have ei:(fun i:Nat=>items[i]?)=fun i=>items.toList[i]?:=funext fun i=>(Array.getElem?_toList).symm;rw[ei];congr 1;refine List.map_congr_left fun k hk=>?_;have hk':=List.mem_range.mp hk;lia
section
variable {X:Cx} {e:Expr} {te:TE}
def Fn(K:PySem.W.Frag)(m:Nat)(te:TE):TE:=fun σ H Q=>te σ H fun x H1=>∃ a xs,x=V.ref a/\bA K H1 a xs/\∀ p,H1 p=none->Q (.ref p) (upd H1 p (.lst (jc (xs.drop m))))
theorem Bz{i:Int}{m j j2:Nat}{pos p1 p2 p3:Pos}(hi:i=(m:Int))(he:PE X e te):PE X (.Subscript e (.Slice (some (.Constant (.int i) j p1)) none (some (.Constant (.int 2) j2 p3)) p2) pos) (Fn X.K m te):=by
 subst hi;intro pins s σ H Q I h;refine Subscript_ (bJ (he pins s σ H _ I h) fun v s1 ⟨x,H1,I1,r1,q1⟩=>?_);refine wpAny_Slice (bJ (kO iR pins s1 σ H1 (fun o H2=>o=some (m:Int)/\H2=H1) I1 ⟨_,rfl,rfl,rfl⟩) fun vl s2 ⟨l,H2,I2,pl,el,eh⟩=>?_);subst el eh;refine bJ (qm pins s2 σ H2 (fun o H3=>o=none/\H3=H2) I2 ⟨rfl,rfl⟩) fun vu s3 ⟨u,H3,I3,pu,eu,eh⟩=>?_;subst eu eh;refine bJ (kO iR pins s3 σ H3 (fun o H4=>o=some 2/\H4=H3) I3 ⟨_,rfl,rfl,rfl⟩) fun vk s4 ⟨k,H4,I4,pk,ek,eh⟩=>?_;subst ek eh;obtain⟨a,xs,rfl,hx,q⟩:=q1;cases r1;have I5:Inv X pins σ H4 { s4 with heap:=s4.heap.push { cls:=.type "slice",data:=.fields #[vl,vu,vk] } }:=I4.kept (t':=s4.toks) fun b ob q=>Heap.get?_push_of_some _ q
 obtain⟨its,r,ht,hz⟩:=I5.list hx;have hlen:=r.length;have hg:wpAny (model X.prog X.w) X.A (getItem (.ref a) (.ref s4.heap.objs.size)) (EP X pins σ Q) X.xe { s4 with heap:=s4.heap.push { cls:=.type "slice",data:=.fields #[vl,vu,vk] } }:=by
  refine wpAny_getItem_list_slice ht.isList (Heap.IsSliceOf.new ..) pl pu pk (by simp) ?_ (by rw[List.size_toArray]<;>lia)
  rw[tm];refine⟨.ref _,_,I5.laid (t':=s4.toks) (o:=.lst (jc (xs.drop m))) (fun b ob q=>Heap.get?_push_of_some _ q) (Nat.le_refl _) ?_,rfl,q _ (I5.aJ.fresh (Nat.le_refl _))⟩;refine⟨by have:=yr (xs.drop m);rw[List.length_drop] at this;lia,jc (its.drop m),0,Vals.jc (r.drop m),?_⟩
  exact Heap.get?_push_size _ rfl
 show wpAny (model X.prog X.w) X.A (subscriptTail e (.Slice (some (.Constant (.int (m:Int)) j p1)) none (some (.Constant (.int 2) j2 p3)) p2) (.ref a) (.ref s4.heap.objs.size)) (EP X pins σ Q) X.xe { s4 with heap:=s4.heap.push { cls:=.type "slice",data:=.fields #[vl,vu,vk] } }
 exact tail_any (ops:=[.ref a,.ref s4.heap.objs.size]) ht.isList.typeIs slot_list_getitem.lookup hg (by with_unfolding_all rfl)
end
namespace Y
def xm(m:Nat)(o:Option T):Option (Prop×R):=match o with
 | some (.lst xs)=>some (True,.fr (.lst (jc (xs.drop m))))
 | _=>none
def y3(m:Nat)(ue:UE):UE:=fun μ Q=>ue μ fun r μ'=>stp (xm m (cont μ' r.d)) fun r=>Q r μ'
theorem dZ{X:Cx}{e:Expr}{ue:UE}(K:PySem.W.Frag)(hK:X.K=K)(m:Nat){i:Int}(hi:i=(m:Int)){j j2:Nat}{pos p1 p2 p3:Pos}(he:YE X e ue):YE X (.Subscript e (.Slice (some (.Constant (.int i) j p1)) none (some (.Constant (.int 2) j2 p3)) p2) pos) (y3 m ue):=by
 obtain⟨t,q,r⟩:=he;subst hK;refine⟨_,⟨Bz hi q.h⟩,fun F ad B σ H μ Q Qt hF l q k=>r F ad B σ H μ _ _ hF l q fun v H1 r1 μ1 v1 f1 k1 q1=>?_⟩;have w:=fun t (e:cont μ1 r1.d=some t)=>v1.hv.vw v1.rl e;revert q1 w;unfold xm
 cases cont μ1 r1.d with
 | none=>exact fun q1 _=>q1.elim
 | some t =>
  intro q1 w;have w:=w t rfl;rw[hF] at w
  cases w with
  | lst ha ra=>exact⟨_,_,rfl,bA.of ha,fun p hp=>k _ _ _ μ1 (Vr.fP v1.rl (by rw[hF];exact aj.jc (ra.drop m)) hp) (f1.d.trans (Fr.more hp)) k1 q1.2⟩
  | _=>exact q1.elim
end Y
namespace A
theorem sU(j:Nat)(k:Int)(μ:Mu)(Q:R->Mu->Prop):Y.sU j [.tr (.int k)] μ Q=(match (μ[j]?).bind Sl.box with
  | some (.lst ts)=>∃ ns:List Int,ts=ns.map T.int/\Q (.tr (.int (ns.count k:Nat))) μ
  | _=>False):=rfl
theorem s_(j:Nat)(us:List T)(μ:Mu)(Q:R->Mu->Prop):Y.s_ j [.tr (.lst us)] μ Q=(match (μ[j]?).bind Sl.box with
  | some (.lst ts)=>ts.length+us.length<=sizeLine/\Q (.tr .bf) (cL μ j (.lst (ts++us)))
  | _=>False):=rfl
theorem y3(m:Nat)(ue:UE)(μ:Mu)(Q:R->Mu->Prop):Y.y3 m ue μ Q=ue μ fun r μ'=>stp (Y.xm m (cont μ' r.d)) fun r=>Q r μ':=rfl
theorem Dl(m:Nat)(xs:List T):Y.xm m (some (.lst xs))=some (True,.fr (.lst (jc (xs.drop m)))):=rfl
end A
namespace Y
section
variable {prog:Program} {w:World} {A:Around} {E:Value->Shared->Prop} {s:Shared}
end
def uf(K:PySem.W.Frag):List V->Hp->VK->Prop:=fun xs H Q=>yV K xs H Q\/∃ p ns,xs=[.ref p]/\bA K H p (ns.map V.int)/\ns.length < 64/\∀ ns':List Int,ns'.Perm ns->ns'.Pairwise (·<=·)->∀ l,H l=none->Q (.ref l) (upd H l (.lst (ns'.map V.int)))
theorem iN{X:Cx}(K:PySem.W.Frag)(hK:X.K=K):aV X (.builtin "sorted") (uf K):=by
 refine (rM K hK).or ?_;subst hK;intro pins s σ H xs us Q I r h;obtain⟨p,ns,rfl,hq,h64,q⟩:=h;obtain⟨u,rfl,ru⟩:=vals1 r;cases ru;obtain⟨its,rv,pl,hz⟩:=I.list hq;have hi:=intsAre_of rv;refine sorted_ints pl.isList hi (by rw[iI hi];exact h64) fun out ns' a1 a2 a3=>?_
 obtain⟨e,he⟩:=sortedAll_at s.heap its out;refine⟨.ref (s.heap.objs.size+1),_,I.laid (t':=s.toks) (fun b ob q=>sortedAll_old q) (Nat.le_succ _) (show bp X.prog X.w _ _ _ (.lst (ns'.map V.int)) from⟨?_,out.toList,e,dG a1,by simpa using he⟩),rfl,q ns' a2 a3 _ (I.aJ.fresh (Nat.le_succ _))⟩
 rw[List.length_map,a2.length_eq];exact Nat.le_trans (Nat.le_of_lt h64) (by decide)
def ni:T->Mu->(R->Mu->Prop)->Prop:=fun t μ Q=>match t with
 | .tup xs=>∃ ns:List Int,xs=ns.map T.int/\ns.length < 64/\∀ ns':List Int,ns'.Perm ns->ns'.Pairwise (·<=·)->Q (.fr (.lst (ns'.map T.int))) μ
 | .lst xs=>∃ ns:List Int,xs=ns.map T.int/\ns.length < 64/\∀ ns':List Int,ns'.Perm ns->ns'.Pairwise (·<=·)->Q (.fr (.lst (ns'.map T.int))) μ
 | _=>False
theorem lG{K:PySem.W.Frag}:RC K (uf K) (sA ni):=ig fun F ad B σ H μ Q Qt x t hK l v1 q k=>by
 subst hK
 cases v1 with
 | tup ha ra =>
  obtain⟨ns,rfl,h64,q⟩:=q;exact .inl ⟨_,ns,rfl,by rw[<- Y.d8 ra];exact bj.of ha,h64,fun ns' a2 a3 p hp=>k _ _ _ (Vr.fP l (cO _) hp) (Fr.more hp) (q ns' a2 a3)⟩
 | lst ha ra =>
  obtain⟨ns,rfl,h64,q⟩:=q;exact .inr ⟨_,ns,rfl,by rw[<- Y.d8 ra];exact bA.of ha,h64,fun ns' a2 a3 p hp=>k _ _ _ (Vr.fP l (cO _) hp) (Fr.more hp) (q ns' a2 a3)⟩
 | _=>exact q.elim
end Y
namespace A
theorem yu(xs:List T)(μ:Mu)(Q:R->Mu->Prop):Y.ni (.lst xs) μ Q=(∃ ns:List Int,xs=ns.map T.int/\ns.length < 64/\∀ ns':List Int,ns'.Perm ns->ns'.Pairwise (·<=·)->Q (.fr (.lst (ns'.map T.int))) μ):=rfl
end A
section
variable {prog:Program} {w:World} {A:Around} {E:Value->Shared->Prop} {s:Shared}
end
section
variable {X:Cx} {a b:Expr} {rest:List Expr} {pos:Pos} {ta tb:TE}
end
namespace Y
end Y
namespace A
end A
namespace Y
def CA:V->List V->Hp->VK->Prop:=fun x vs H Q=>∃ a:Int,x=.int a/\vs=[]/\Q (.int (Builtin.Int.intBits a:Nat)) H
theorem wU{X:Cx}:wH X "int.bit_length" CA:=by
 intro pins s σ H x xs v us Q I rx rs h;obtain⟨a,rfl,rfl,q⟩:=h;obtain⟨t,rfl⟩:=rx;cases rs;exact call_int_bit_length ⟨.int _,H,I.tok _,⟨_,rfl⟩,q⟩
def o_(uo:UE):UE:=fun μ Q=>uo μ fun r μ1=>match r with
 | .tr (.int a)=>Q (.tr (.int (Builtin.Int.intBits a:Nat))) μ1
 | _=>False
theorem bits{X:Cx}{o:Expr}{uo:UE}{apos pos:Pos}(ho:YE X o uo)(hbase:attributeBase o "bit_length" X.env (eval o X.env)=eval o X.env:=by rfl)(hline:(apos.endLine == pos.line)=true:=by rfl):YE X (.Call (.Attribute o "bit_length" apos) [] [] pos) (o_ uo):=by
 obtain⟨t,q,rr⟩:=ho;refine⟨_,⟨zX PySem.F.plainAttrs_int PySem.F.slot_int_bit_length PySem.F.type_int_bit_length wU q.h hbase hline⟩,fun F ad B σ H μ Q Qt hF l q k=>rr F ad B σ H μ _ _ hF l q fun v H1 r1 μ1 v1 f1 k1 q1=>?_⟩
 split at q1
 ·have rp:=v1.2;cases rp;exact⟨rfl,_,rfl,rfl,k _ H1 _ μ1 (Vr.flat v1.rl (.int _)) f1.d k1 q1⟩
 ·exact q1.elim
end Y
namespace A
theorem o_(uo:UE)(μ:Mu)(Q:R->Mu->Prop):Y.o_ uo μ Q=uo μ fun r μ1=>match r with
 | .tr (.int a)=>Q (.tr (.int (Builtin.Int.intBits a:Nat))) μ1
 | _=>False:=rfl
end A
theorem aq{u w:US}{E:Ed}{μ:Mu}(h:∀ N:Mu->Prop,(∀ μ',w E μ'->N μ')->u { E with nx:=N } μ):Y.AB u w E μ:=h _ fun _ z=>z
theorem kA{u w:ku}{E:Ed}{Xt:Xw}{μ:Mu}(h:∀ N:Mu->Prop,(∀ μ',w E Xt μ'->N μ')->u { E with nx:=N } Xt μ):Y.Dh u w E Xt μ:=h _ fun _ z=>z
namespace Y
end Y
namespace A
end A
def gg(h:Heap)(d:Addr)(es:Array DictEntry)(ep:Nat):Prop:=∃ o,h.get? d=some o/\o.ExactDict/\o.data=.dict es ep
section
variable {prog:Program} {w:World} {A:Around} {E:Value->Shared->Prop} {s:Shared}
theorem gg.ty{d:Addr}{es:Array DictEntry}{ep:Nat}(x:gg s.heap d es ep):s.TypeIs (.ref d) "dict":=let ⟨o,ho,hc,_⟩:=x;⟨o,ho,hc.1⟩
theorem gg.keep{h h':Heap}{d:Addr}{es:Array DictEntry}{ep:Nat}(x:gg h d es ep)(k:∀ o,h.get? d=some o->h'.get? d=some o):gg h' d es ep:=let ⟨o,ho,r⟩:=x;⟨o,k _ ho,r⟩
theorem gg.lt{h:Heap}{d:Addr}{es:Array DictEntry}{ep:Nat}(x:gg h d es ep):d < h.objs.size:=let ⟨_,ho,_⟩:=x;Heap.lt_size ho
theorem xl{d:Addr}{es:Array DictEntry}{ep:Nat}{Q:Value->Shared->Prop}(low:(d == sysModules)=false)(x:gg s.heap d es ep)
  (q:Q (.ref s.heap.objs.size) { s with heap:=s.heap.push { cls:=.type "dict_keyiterator",data:=.fields #[.ref d,.int 0 0,.int es.size 0,.int ep 0] } }):wpAny (model prog w) A (pyIter (.ref d)) Q E s:=by
 obtain⟨o,ho,hx,hdat⟩:=id x;refine wpAny_pyIter_slot x.ty PySem.F.slot_dict_iter (wpAny_call_entry PySem.F.slot_dict_iter x.ty PySem.F.entry_dict_iter ?_ (PySem.F.args_dict_iter_1 _));unfold Builtin.«dict.__iter__» Builtin.Dict.dictSlotNone;refine wpAny_bind (wpAny_bind (wpAny_notOrdered_dict x.ty ?_));show wpAny _ _ (pure (Value.ref d)) _ _ s;refine wpAny_pure ?_;show wpAny _ _ (Builtin.Dict.showsAll d >>= _) _ _ s;unfold Builtin.Dict.showsAll;rw[low,if_neg Bool.false_ne_true];refine wpAny_bind (wpAny_pure (wpAny_bind (wpAny_dictEntries ho hdat (wpAny_bind (wpAny_dictEpoch ho hdat ?_)))));exact wpAny_bind (wpAny_newObj_type (wpAny_pure ⟨_,rfl,"dict_keyiterator",_,⟨_,Heap.get?_push_size _ rfl,rfl⟩,PySem.F.slot_dict_keyiterator_next.lookup,q⟩))
theorem x6{it d:Addr}{i ep:Nat}{es:Array DictEntry}{Q:Option Value->Shared->Prop}(hit:s.heap.IsKeyIter it d i es.size ep)(x:gg s.heap d es ep)(hi:i < es.size)
  (q:∀ h',h'.IsKeyIter it d (i+1) es.size ep->Heap.SameBut it s.heap h'->Q (some es[i].key) { s with heap:=h' }):wpAny (model prog w) A (pyNext (.ref it)) Q E s:=by
 obtain⟨o,ho,hc,hd⟩:=id hit;obtain⟨od,hod,hx,hdd⟩:=id x;unfold pyNext;refine wpAny_bind (wpAny_attempt (wpAny_callSpecial?_slot (name:=Str.ofString "__next__") hit.typeIs PySem.F.slot_dict_keyiterator_next (wpAny_call_entry PySem.F.slot_dict_keyiterator_next hit.typeIs PySem.F.entry_dict_keyiterator_next ?_ (PySem.F.args_dict_keyiterator_next_1 _))));refine wpAny_bind (wpAny_pure (wpAny_bind (wpAny_bind ?_)))
 first | refine wpAny_bind (wpAny_typeNameOfWhole_keyiter hit.typeIs (wpAny_pure (wpAny_bind (wpAny_fieldsOf ho hd ?_)))) | refine wpAny_bind (wpAny_typeNameOf_keyiter hit.typeIs (wpAny_pure (wpAny_bind (wpAny_fieldsOf ho hd ?_))))
 simp only[show Builtin.Dict_items.ownsTuple "dict_keyiterator"=false by decide,Bool.false_eq_true,if_false]
 show wpAny _ _ (if (Value.ref d == Value.none)=true then _ else _) _ _ s;rw[if_neg (show ¬ ((Value.ref d == Value.none)=true) from Bool.false_ne_true)]
 refine wpAny_bind (wpAny_pure (wpAny_bind (wpAny_dictEntries hod hdd ?_)));rw[if_neg (by simp)]
 refine wpAny_bind (wpAny_pure (wpAny_bind (wpAny_dictEpoch hod hdd ?_)));rw[if_neg (by simp)]
 refine wpAny_pure ?_;simp only[show ¬ ((i:Int) < 0) by lia,if_false,Int.toNat_natCast,Array.getElem?_eq_getElem hi]
 refine wpAny_bind ?_
 first | refine wpAny_bind (wpAny_typeNameOfWhole_keyiter hit.typeIs (wpAny_pure (wpAny_bind (wpAny_isOneOf_keyiter hit.typeIs ?_)))) | refine wpAny_bind (wpAny_typeNameOf_keyiter hit.typeIs (wpAny_pure (wpAny_bind (wpAny_isOneOf_keyiter hit.typeIs ?_))))
 show wpAny _ _ (setField (.ref it) 1 (rawInt ((i:Int)+1)) >>= _) _ _ s;refine wpAny_bind (wpAny_setField ho hd (by simp) ?_)
 have h2:(s.heap.update it (Obj.mapFields (·.setIfInBounds 1 (rawInt ((i:Int)+1))))).IsKeyIter it d (i+1) es.size ep:=⟨_,Heap.get?_update_self _ ho (Obj.isFreed_of_fields (Obj.data_mapFields hd _)),(Obj.cls_mapFields ..).trans hc,by rw[Obj.data_mapFields hd];simp[rawInt]⟩
 refine wpAny_bind (wpAny_holding (wpAny_bind (wpAny_isOneOf_keyiter (s:={ s with heap:=s.heap.update it (Obj.mapFields (·.setIfInBounds 1 (rawInt ((i:Int)+1)))) }) h2.typeIs ?_)))
 show wpAny _ _ (pure es[i].key) _ _ _;exact wpAny_pure (wpAny_pure ⟨_,rfl,wpAny_pure (q _ h2 (Heap.SameBut.update ..))⟩)
theorem xV{it d:Addr}{ep:Nat}{es:Array DictEntry}{Q:Option Value->Shared->Prop}(hh:A.handled=none)(hit:s.heap.IsKeyIter it d es.size es.size ep)(x:gg s.heap d es ep)
  (q:∀ h',Heap.ExtBut it s.heap h'->Q none { s with heap:=h' }):wpAny (model prog w) A (pyNext (.ref it)) Q E s:=by
 obtain⟨o,ho,hc,hd⟩:=id hit;obtain⟨od,hod,hx,hdd⟩:=id x;unfold pyNext;refine wpAny_bind (wpAny_attempt (wpAny_callSpecial?_slot (name:=Str.ofString "__next__") hit.typeIs PySem.F.slot_dict_keyiterator_next (wpAny_call_entry PySem.F.slot_dict_keyiterator_next hit.typeIs PySem.F.entry_dict_keyiterator_next ?_ (PySem.F.args_dict_keyiterator_next_1 _))));refine wpAny_bind (wpAny_pure (wpAny_bind (wpAny_bind ?_)))
 first | refine wpAny_bind (wpAny_typeNameOfWhole_keyiter hit.typeIs (wpAny_pure (wpAny_bind (wpAny_fieldsOf ho hd ?_)))) | refine wpAny_bind (wpAny_typeNameOf_keyiter hit.typeIs (wpAny_pure (wpAny_bind (wpAny_fieldsOf ho hd ?_))))
 simp only[show Builtin.Dict_items.ownsTuple "dict_keyiterator"=false by decide,Bool.false_eq_true,if_false]
 show wpAny _ _ (if (Value.ref d == Value.none)=true then _ else _) _ _ s;rw[if_neg (show ¬ ((Value.ref d == Value.none)=true) from Bool.false_ne_true)]
 refine wpAny_bind (wpAny_pure (wpAny_bind (wpAny_dictEntries hod hdd ?_)));rw[if_neg (by simp)]
 refine wpAny_bind (wpAny_pure (wpAny_bind (wpAny_dictEpoch hod hdd ?_)));rw[if_neg (by simp)]
 refine wpAny_pure ?_;simp only[show ¬ ((es.size:Int) < 0) by lia,if_false,Int.toNat_natCast,Array.getElem?_eq_none (Nat.le_refl es.size)]
 refine wpAny_bind ?_
 first | refine wpAny_bind (wpAny_typeNameOfWhole_keyiter hit.typeIs (wpAny_pure ?_)) | refine wpAny_bind (wpAny_typeNameOf_keyiter hit.typeIs (wpAny_pure ?_))
 show wpAny _ _ (setField (.ref it) 0 .none >>= _) _ _ s;refine wpAny_bind (wpAny_setField ho hd (by simp) ?_)
 show wpAny _ _ (newExc (.type "StopIteration") [] >>= _) _ _ _;refine wpAny_bind ?_;simp only[newExc,newTuple];refine wpAny_bind (wpAny_newObj_type ?_ (by size_fits))
 refine wpAny_bind (m:=firstArgMember _ _) (wpAny_of_eq (a:=Value.none) (by first | rfl | (simp only[firstArgMember];rfl)) (wpAny_newObj_type ?_ (by size_fits)))
 simp only[raiseNew];refine wpAny_bind (wpAny_handled ?_);rw[show A.in1.handled=none from hh];refine wpAny_bind (wpAny_pure (wpAny_throw ?_));refine wpAny_bind (wpAny_isInstance (T:="StopIteration") (b:=true) ⟨_,Heap.get?_push_size _ rfl,rfl⟩ isSubtype_stop ?_);exact wpAny_pure (q _ (((Heap.SameBut.update ..).extBut.push _).push _))
end
theorem wj{prog:Program}{w:World}{A:Around}(hh:A.handled=none)(I d:Addr)(ne:d≠I)(es:Array DictEntry)(ep:Nat):
  Walks prog w A I [I,d] [I] es.size (fun i v=>∃ h:i < es.size,v=es[i].key) (fun i h=>h.IsKeyIter I d i es.size ep/\gg h d es ep) where
 sub:=fun b hb=>by simp at hb;simp[hb]
 frame:=fun _ _ _ st hk=>⟨st.1.at fun o e=>hk I (by simp) o e,st.2.keep fun o e=>hk d (by simp) o e⟩
 item:=fun i s Q E hi st hQ=>x6 st.1 st.2 hi fun h' a b=>hQ _ h' s.toks ⟨hi,rfl⟩ ⟨a,st.2.keep fun o e=>b.extBut _ _ ne e⟩ fun c o hc e=>b.extBut c o (fun h=>hc (by simp[h])) e
 done:=fun s Q E st hQ=>xV hh st.1 st.2 fun h' he=>hQ h' s.toks fun c o hc e=>he c o (fun h=>hc (by simp[h])) e
 self:=fun _ _ _ _ st hQ=>wpAny_pyIter_keyiter st.1 hQ
theorem BZ{prog:Program}{w:World}{d:Addr}{es:Array DictEntry}{ep:Nat}(low:(d == sysModules)=false):PySem.W.KdlSrc prog w "dict" d d es.size (fun i v=>∃ h:i < es.size,v=es[i].key) (fun h=>gg h d es ep) where
 type:=fun _ x=>x.ty
 there:=fun _ x=>⟨x.lt,x.lt⟩
 keep:=fun _ _ x k=>x.keep fun o e=>k d (.inl rfl) o e
 notList:=by decide
 notTuple:=by decide
 hint:=fun _ _ _ _ x q=>PySem.W.kdl_hint_dict x.ty q
 iter:=fun _ _ hh x=>⟨_,_,(fun _ _ q=>xl low x q),wj hh _ d (Nat.ne_of_lt x.lt) es ep,⟨⟨_,Heap.get?_push_size _ rfl,rfl,rfl⟩,x.keep fun _ e=>Heap.get?_push_of_some _ e⟩⟩
theorem vg{K:PySem.W.Frag}{es:List DictEntry}{D:List (Str×List Str)}(h:KTD.Rows (vh K) es D):es.length=D.length:=by
 induction h with
 | nil=>rfl
 | cons _ _ _ ih=>simp[ih]
theorem tZ{K:PySem.W.Frag}{es:List DictEntry}{D:List (Str×List Str)}(h:KTD.Rows (vh K) es D):Vals (D.map fun p=>V.str p.1) (es.map fun e=>e.key):=by
 induction h with
 | nil=>exact .nil
 | cons e _ _ ih=>exact .cons ⟨_,e⟩ ih
def t5(K:PySem.W.Frag)(D:List (Str×List Str)):List V->Hp->VK->Prop:=fun xs H Q=>∃ d,xs=[.ref d]/\ki K d D/\D.length<=sizeLine/\∀ l,H l=none->Q (.ref l) (upd H l (.lst (D.map fun p=>V.str p.1)))
theorem mU{X:Cx}{D:List (Str×List Str)}(K:PySem.W.Frag)(hK:X.K=K)(hc:X.calm=true):aV X (.type "list") (t5 K D):=by
 intro pins s σ H xs us Q I r h;subst hK;obtain⟨d,rfl,hd,hz,q⟩:=h;obtain⟨u,rfl,rx⟩:=vals1 r;cases rx;obtain⟨o,es,ep,ho,hx,hdat,hr⟩:=hd.ex;have at0:gg s.heap d es ep:=⟨o,I.fo _ _ ho,hx,hdat⟩;have hl:es.size=D.length:=by rw[<- vg hr,Array.length_toList]
 refine PySem.W.kdl_call (BZ hd.low) (I.ok.hd hc) at0 (by rw[hl];exact hz) fun h' tk acc c' hk hS hI=>?_
 have hv:Vals (D.map fun p=>V.str p.1) acc.toList:=by
  have e:acc.toList=es.toList.map fun e=>e.key:=by
   refine List.ext_getElem? fun j=>?_;rw[Array.getElem?_toList,List.getElem?_map,Array.getElem?_toList]
   cases z:acc[j]? with
   | none =>
    have:acc.size<=j:=Array.getElem?_eq_none_iff.mp z;rw[Array.getElem?_eq_none (by rw[<- hI.1];exact this)];rfl
   | some v =>
    obtain⟨hj,rfl⟩:=hI.2 j v z;rw[Array.getElem?_eq_getElem hj];rfl
  rw[e];exact tZ hr
 refine⟨.ref s.heap.objs.size,_,I.laid (t':=tk) hk (Nat.le_refl _) (show bp X.prog X.w _ h' _ (.lst _) from⟨?_,acc.toList,c',hv,by simpa using hS⟩),rfl,q _ (I.aJ.fresh (Nat.le_refl _))⟩
 rw[List.length_map];exact hz
namespace Y
def pP(D:List (Str×List Str))(ue:UE):UE:=fun μ Q=>ue μ fun r μ'=>match r with
 | .tr (.str k)=>∃ i:Nat,(D.map fun p=>p.1)[i]?=some k/\(∀ m,m < i->(D.map fun p=>p.1)[m]?≠some k)/\Q (.tr (.int (i:Nat))) μ'
 | _=>False
theorem Gj{X:Cx}{e:Expr}{ue:UE}{x:Str}{p pl apos pos cpos:Pos}{D:List (Str×List Str)}(K:PySem.W.Frag)(hK:X.K=K)(hc:X.calm=true)(hg:Gl X x)(hd:∃ d,X.mg x=some (.ref d)/\ki K d D)(hgl:Gl X "list")(hml:X.mg "list"=none)(he:YE X e ue)(hz:D.length<=1000:=by decide)(h1:bY e=true:=by rfl)
  (hbase:attributeBase (.Call (.Name "list" pl) [.Name x p] [] cpos) "index" X.env (eval (.Call (.Name "list" pl) [.Name x p] [] cpos) X.env)=eval (.Call (.Name "list" pl) [.Name x p] [] cpos) X.env:=by rfl) (hline:(apos.endLine == pos.line)=true:=by rfl) (hdb:(x ==("__debug__":Str))=false:=by decide) :
  YE X (.Call (.Attribute (.Call (.Name "list" pl) [.Name x p] [] cpos) "index" apos) [e] [] pos) (pP D ue):=by
 obtain⟨t,q,r⟩:=he;obtain⟨d,hm,hd⟩:=hd;have hlist:QE X (.Call (.Name "list" pl) [.Name x p] [] cpos) (sy (t5 K D) (fG (tC (.ref d)) iS)):=Z.ct (mU K hK hc) hgl hml (by decide +kernel) (Z.cons ⟨kr hg hm rfl hdb⟩ Z.nil)
 refine⟨_,Z.bm K hK PySem.F.plainAttrs_list PySem.F.slot_list_index PySem.F.type_list_index pU hlist (Z.cons q Z.nil (h:=h1)) hbase hline (by simp[h1]) (show 1 < 30 by decide),fun F ad B σ H μ Q Qt hF l q k=>?_⟩
 refine⟨d,rfl,hd,Nat.le_trans hz (by decide),fun a ha=>?_⟩
 have sm:bC H (upd H a (.lst (D.map fun p=>V.str p.1))):=bC.new ha;refine⟨?_,r F ad B σ _ μ _ _ hF (l.same sm) q fun v H' r1 μ' v1 f k1 q1=>?_⟩
 ·exact .inl ⟨rfl,_,bA.of af⟩
 ·split at q1
  ·rename_i z;obtain⟨l1,rp⟩:=v1;cases rp;obtain⟨i,h2,h3,q2⟩:=q1;refine⟨a,D.map fun p=>p.1,z,i,rfl,?_,rfl,h2,h3,k _ H' _ μ' (Vr.flat l1 (.int _)) ((Fr.same sm).trans f.d) k1 q2⟩;rw[List.map_map];exact (f a _ af (l.jt ha)).1
  ·exact q1.elim
def oH(uo ue:UE):UE:=fun μ Q=>uo μ fun ro μ1=>match ro with
 | .fr (.lst ts)=>ue μ1 fun r μ2=>(match r with
  | .tr (.str k)=>∃ (ws:List Str) (i:Nat),ts=ws.map T.str/\ws[i]?=some k/\(∀ m,m < i->ws[m]?≠some k)/\Q (.tr (.int (i:Nat))) μ2
  | _=>False)
 | _=>False
theorem FC{X:Cx}{o e:Expr}{uo ue:UE}{apos pos:Pos}(K:PySem.W.Frag)(hK:X.K=K)(ho:YE X o uo)(he:YE X e ue)(h1:bY e=true:=by rfl)
  (hbase:attributeBase o "index" X.env (eval o X.env)=eval o X.env:=by rfl) (hline:(apos.endLine == pos.line)=true:=by rfl):YE X (.Call (.Attribute o "index" apos) [e] [] pos) (oH uo ue):=by
 obtain⟨t,q,r⟩:=ho;obtain⟨t',q',r'⟩:=he;refine⟨_,Z.bm K hK PySem.F.plainAttrs_list PySem.F.slot_list_index PySem.F.type_list_index pU q (Z.cons q' Z.nil (h:=h1)) hbase hline (by simp[h1]) (show 1 < 30 by decide),fun F ad B σ H μ Q Qt hF l q k=>r F ad B σ H μ _ _ hF l q fun v H1 r1 μ1 v1 f1 k1 q1=>?_⟩
 split at q1
 ·rename_i ts;obtain⟨l1,a,rfl,nb,n0,lm,bx⟩:=v1;rcases bx.is with ⟨ts',vs,e1,hl,rv⟩ | ⟨_,_,_,e1,_⟩
  case inr=>cases e1
  cases e1;refine⟨.inl ⟨rfl,_,bA.of hl⟩,r' F ad B σ H1 μ1 _ _ hF l1 q1 fun v2 H2 r2 μ2 v2r f2 k2 q2=>?_⟩
  split at q2
  ·rename_i z;obtain⟨l2,rp⟩:=v2r;cases rp;obtain⟨ws,i,rfl,h2,h3,q3⟩:=q2;rw[fW rv] at hl;exact⟨a,ws,z,i,rfl,(f2.d a _ hl nb).1,rfl,h2,h3,k _ H2 _ μ2 (Vr.flat l2 (.int _)) (f1.d.trans f2.d) (k1.trans k2) q3⟩
  ·exact q2.elim
 ·exact q1.elim
end Y
namespace A
theorem oH(uo ue:UE)(μ:Mu)(Q:R->Mu->Prop):Y.oH uo ue μ Q=uo μ fun ro μ1=>match ro with
 | .fr (.lst ts)=>ue μ1 fun r μ2=>(match r with
  | .tr (.str k)=>∃ (ws:List Str) (i:Nat),ts=ws.map T.str/\ws[i]?=some k/\(∀ m,m < i->ws[m]?≠some k)/\Q (.tr (.int (i:Nat))) μ2
  | _=>False)
 | _=>False:=rfl
theorem pP(D:List (Str×List Str))(ue:UE)(μ:Mu)(Q:R->Mu->Prop):Y.pP D ue μ Q=ue μ fun r μ'=>match r with
 | .tr (.str k)=>∃ i:Nat,(D.map fun p=>p.1)[i]?=some k/\(∀ m,m < i->(D.map fun p=>p.1)[m]?≠some k)/\Q (.tr (.int (i:Nat))) μ'
 | _=>False:=rfl
end A
theorem Z.zip{X:Cx}{es:List Expr}{tk:Nat}{tp:Pos}{e1 e2:Expr}{ta:TA}{p pos:Pos}(K:PySem.W.Frag)(hK:X.K=K)(hg:Gl X "zip")(hm:X.mg "zip"=none)(ha:QA X [e1,e2] ta)(h1:bY e1=true:=by rfl)(h2:bY e2=true:=by rfl):QI X (.Tuple es tk tp) (.Call (.Name "zip" p) [e1,e2] [] pos) (lZ K ta):=by
 subst hK;exact⟨oF hg hm ha.h h1 h2⟩
theorem Ap.lZ(K:PySem.W.Frag)(ta:TA)(σ:St)(H:Hp)(R:It->Hp->Prop):L2.lZ K ta σ H R=ta σ H fun vs H1=>∃ a b k1 k2,vs=[V.ref a,V.ref b]/\(∃ xs,lx K k1 H1 a xs)/\(∃ ys,lx K k2 H1 b ys)/\R (uP K k1 k2 a b) H1:=rfl
section
variable {K:PySem.W.Frag} {g:TG} {tb:TS} {D:Ends} {σ:St} {H:Hp} {te:TE} {Q:VK}
theorem qY{a b:Addr}{xs ys:List V}(hxy:xs.length=ys.length)(Pv:Nat->St->Hp->Prop)(h0:Pv 0 σ H)(hl:∀ i σ H,i<=xs.length->Pv i σ H->bj K H a xs/\bj K H b ys)
  (hs:∀ i x y σ H p,xs[i]?=some x->ys[i]?=some y->Pv i σ H->H p=none->g (.ref p) σ (upd H p (.tup [x,y])) fun σ2 H2=>tb { D with nx:=Pv (i+1),ct:=Pv (i+1),bk:=D.nx } σ2 H2) (hd:∀ σ H,Pv xs.length σ H->D.nx σ H):zP (uP K false false a b) g tb D σ H:=by
 refine⟨fun i m σ H=>m=xs.length - i/\i<=xs.length/\Pv i σ H,⟨xs.length,by simp,Nat.zero_le _,h0⟩,?_⟩
 rintro i m σ H ⟨rfl,hi,p⟩;obtain⟨q1,q2⟩:=hl i σ H hi p;have q1':lx K false H a xs:=q1;have q2':lx K false H b ys:=q2;by_cases hlt:i < xs.length
 ·have hl2:i < ys.length:=by lia
  refine .inr ⟨⟨xs,ys,xs[i],ys[i],q1',q2',by simp[hlt],by simp[hl2]⟩,Pv (i+1),fun σ' H' p'=>⟨xs.length - (i+1),by lia,rfl,hlt,p'⟩,fun x H' z=>?_⟩
  obtain⟨c,y1,y2,e1,e2,fr,rfl,rfl⟩:=z;exact hs i y1 y2 σ H c (e1 xs q1') (e2 ys q2') p fr
 ·have e:i=xs.length:=by lia
  subst e;exact .inl ⟨⟨xs,ys,q1',q2',by lia⟩,hd σ H p⟩
theorem m_{a:Addr}{xs:List V}(hn:xs.length<=sizeLine)(Pv:Addr->Nat->List V->Hp->Prop)(h0:∀ D,H D=none->Pv D 0 [] (upd H D (.lst [])))(hD:∀ D i ys H',Pv D i ys H'->H' D=some (.lst ys)/\ys.length=i)
  (hl:∀ D i ys H',Pv D i ys H'->bA K H' a xs)
  (hs:∀ D i ys H' x (R:VK),xs[i]?=some x->Pv D i ys H'->(∀ v H5,H5 D=some (.lst ys)->Pv D (i+1) (ys++[v]) (upd H5 D (.lst (ys++[v])))->R v H5)->te (some x::σ) H' R) (hd:∀ D ys H',Pv D xs.length ys H'->Q (.ref D) H') :
  tE (qf K a) 1 (bH 0) jK te Q σ H:=by
 intro D hD0;refine⟨fun i m ys σ' H'=>m=xs.length - i/\i<=xs.length/\Pv D i ys H'/\∃ o,σ'=o::σ,⟨xs.length,by simp,Nat.zero_le _,h0 D hD0,none,rfl⟩,?_⟩
 rintro i m ys σ' H' ⟨rfl,hi,p,o,rfl⟩;obtain⟨hDi,hly⟩:=hD _ _ _ _ p;have q:=hl _ _ _ _ p;refine⟨hDi,?_⟩;by_cases hlt:i < xs.length
 ·refine .inr ⟨⟨xs,xs[i],q,by simp[hlt]⟩,by lia,fun x H2 y=>?_⟩
  obtain⟨rfl,y⟩:=y;unfold bH jK;dsimp only;rw[if_pos rfl];exact hs D i ys H2 x _ (y xs q) p fun v H5 q1 q2=>⟨q1,xs.length - (i+1),by lia,rfl,hlt,q2,_,rfl⟩
 ·have e:i=xs.length:=by lia
  subst e;exact .inl ⟨⟨xs,q,Nat.le_refl _⟩,hd D ys H' p⟩
end
def but(B:aK)(a:Addr):aK:=fun b=>B b/\b≠a
theorem Rl.fz{F:Fx}{ad:Nat->Addr}{B:aK}{σ:St}{H:Hp}{μ:Mu}{j:Nat}{c:T}(l:Rl F ad B σ H μ)(hj:μ[j]?=some (.bx c)):Rl F ad (but B (ad j)) σ H (μ.set j (.tr c)):=by
 have f:Fr B H (but B (ad j)) H:=Fr.less fun b h=>h.1;have sj:fX F ad B H j (.bx c) σ[j]?:=l.slot j _ hj;obtain⟨s1,s2,s3,s4,s5⟩:=sj;have lt:j < μ.length:=(List.getElem?_eq_some_iff.mp hj).1;have ne:∀ i s d,μ[i]?=some s->s.box=some d->i≠j->ad i≠ad j:=fun i s d e b n z=>n (l.inj i j s _ d c e hj b rfl z);refine⟨by rw[List.length_set];exact l.len,fun i s e=>?_,fun i k s u d d' e1 e2 b1 b2 z=>?_,fun i a e=>?_,fun b hb=>⟨l.bc b hb,fun z=>?_⟩,fun b hb=>l.e9 b hb.1,l.old,fun a vs e=>?_⟩
 ·by_cases hij:i=j
  ·subst hij;rw[List.getElem?_set_self lt] at e;cases e;exact⟨_,s1,(s5.of rfl f).rep fun z=>z.2 rfl⟩
  ·rw[List.getElem?_set_ne (Ne.symm hij)] at e;have h:=l.slot i s e
   cases s with
   | un=>exact trivial
   | tr t=>obtain⟨v,h1,h2⟩:=h;exact⟨v,h1,h2.fr f⟩
   | bx d=>obtain⟨h1,h2,h3,h4,h5⟩:=h;exact⟨h1,⟨h2,ne i _ d e rfl hij⟩,h3,h4,h5.of rfl f⟩
   | pb d=>obtain⟨h1,h2,h3,h5⟩:=h;exact⟨h1,⟨h2,ne i _ d e rfl hij⟩,h3,h5.of rfl f⟩
 ·have n1:i≠j:=fun z=>by subst z;rw[List.getElem?_set_self lt] at e1;cases e1;cases b1
  have n2:k≠j:=fun z=>by subst z;rw[List.getElem?_set_self lt] at e2;cases e2;cases b2
  rw[List.getElem?_set_ne (Ne.symm n1)] at e1;rw[List.getElem?_set_ne (Ne.symm n2)] at e2;exact l.inj i k s u d d' e1 e2 b1 b2 z
 ·have n1:i≠j:=fun z=>by subst z;rw[s4] at e;cases e
  rw[List.getElem?_set_ne (Ne.symm n1)];exact l.par i a e
 ·subst z;obtain⟨o,ho⟩:=F.bh _ hb;rw[s3] at ho;cases ho
 ·obtain⟨g1,g2,g3⟩:=l.gh a vs e;refine⟨g1,⟨g2,fun z=>g3 j _ c hj rfl z.symm⟩,fun i s d e1 b1=>?_⟩;have n1:i≠j:=fun z=>by subst z;rw[List.getElem?_set_self lt] at e1;cases e1;cases b1
  rw[List.getElem?_set_ne (Ne.symm n1)] at e1;exact g3 i s d e1 b1
namespace Y
def sP(j:Nat)(u:US):US:=fun E μ=>match μ[j]? with
 | some (.bx c)=>u E (μ.set j (.tr c))
 | _=>False
theorem eN{X:Cx}{s:Stmt}{u:US}(j:Nat)(h:YS X s u):YS X s (sP j u):=by
 obtain⟨t,q,r⟩:=h;refine⟨t,q,fun F D E ad B σ H μ hF l q h=>?_⟩;unfold sP at q
 split at q
 ·rename_i c e;exact r F D E ad _ σ H _ hF (l.fz e) q (h.step (Fr.less fun b h=>h.1))
 ·exact q.elim
end Y
namespace A
theorem sP(j:Nat)(u:US)(E:Ed)(μ:Mu):Y.sP j u E μ=match μ[j]? with
 | some (.bx c)=>u E (μ.set j (.tr c))
 | _=>False:=rfl
end A
def DD(K:PySem.W.Frag)(mg:Str->Option Value)(x:Str):Prop:=∃ p o,mg x=some (.ref p)/\K.lookup p=some o/\o.dict=none
namespace Y
def qE(xs:List T)(ue:UE):UE:=fun μ Q=>ue μ fun r μ2=>match r with
 | .tr (.str k)=>∃ (ws:List Str) (j:Nat),xs=ws.map T.str/\ws[j]?=some k/\(∀ m,m < j->ws[m]?≠some k)/\Q (.tr (.int (j:Nat))) μ2
 | _=>False
theorem Ga{X:Cx}{e:Expr}{ue:UE}{x:Str}{xs:List T}{p apos pos:Pos}(K:PySem.W.Frag)(hK:X.K=K)(hg:Gl X x)(hc:∃ w u,X.mg x=some u/\RelV w u/\∀ H B,Rep K H B w (.d9 xs))(hn:DD K X.mg x)(he:YE X e ue)
  (hbase:attributeBase (.Name x p) "index" X.env (eval (.Name x p) X.env)=eval (.Name x p) X.env:=by rfl) (hline:(apos.endLine == pos.line)=true:=by rfl) (h1:bY e=true:=by rfl) (hdb:(x ==("__debug__":Str))=false:=by decide):YE X (.Call (.Attribute (.Name x p) "index" apos) [e] [] pos) (qE xs ue):=by
 obtain⟨t',q',r'⟩:=he;obtain⟨w,u,hm,rw',rep⟩:=hc;obtain⟨a,o,hm2,ho,hd⟩:=hn;subst hK;rw[hm] at hm2;cases hm2;refine⟨_,Z.bm X.K rfl PySem.F.plainAttrs_tuple PySem.F.slot_tuple_index PySem.F.type_tuple_index Aa (Z.glob hg hm rw' hdb) (Z.cons q' Z.nil (h:=h1)) hbase hline (by simp[h1]) (show 1 < 30 by decide),fun F ad B σ H μ Q Qt hF l q k=>?_⟩
 have rp:=rep H B
 cases rp with
 | d9 ha ra =>
  have e0:=Value.ref.inj (show Value.ref _=Value.ref _ from rw');subst e0;refine⟨.inr (.inl ⟨rfl,o,ho,?_,hd⟩),r' F ad B σ H μ _ _ hF l q fun v2 H2 r2 μ2 v2r f2 k2 q2=>?_⟩
  ·obtain⟨o',its,n,h1,h2,_⟩:=ha;rw[ho] at h1;cases h1;exact h2
  split at q2
  ·rename_i z;obtain⟨l2,rp⟩:=v2r;cases rp;obtain⟨ws,j,rfl,h2,h3,q3⟩:=q2;have e:=fW ra;subst e;exact⟨_,ws,z,j,rfl,.inr ha,rfl,h2,h3,k _ H2 _ μ2 (Vr.flat l2 (.int _)) f2.d k2 q3⟩
  ·exact q2.elim
end Y
namespace A
theorem qE(xs:List T)(ue:UE)(μ:Mu)(Q:R->Mu->Prop):Y.qE xs ue μ Q=ue μ fun r μ2=>match r with
 | .tr (.str k)=>∃ (ws:List Str) (j:Nat),xs=ws.map T.str/\ws[j]?=some k/\(∀ m,m < j->ws[m]?≠some k)/\Q (.tr (.int (j:Nat))) μ2
 | _=>False:=rfl
end A
end L2
namespace G
open PySem L2 PySem.Spec PyProof.Rows
def top(i:Nat):Stmt:=PySem.Challenge.pw_shortrows_k26_book_of.main.body.getD i (.Pass ⟨0,0,0,0⟩)
noncomputable abbrev cc:Stmt:=top 4
theorem bP:av ["lengths","free","depth","left","length"] ["lengths"] (aa cc):=⟨rfl,rfl,rfl,by decide +kernel,rfl,by decide +kernel,by decide +kernel⟩
noncomputable abbrev aw:Stmt:=top 5
theorem cD:av ["counts","bound","things","chosen"] ["counts","bound"] (aa aw):=⟨rfl,rfl,rfl,by decide +kernel,rfl,by decide +kernel,by decide +kernel⟩
noncomputable abbrev az:Stmt:=top 6
theorem aU:av ["counts","bound","coins","shelf","depth","chosen","item"] ["counts","bound"] (aa az):=⟨rfl,rfl,rfl,by decide +kernel,rfl,by decide +kernel,by decide +kernel⟩
noncomputable abbrev bE:Stmt:=top 7
theorem mO:av ["shelf"] ["shelf"] (aa bE):=⟨rfl,rfl,rfl,by decide +kernel,rfl,by decide +kernel,by decide +kernel⟩
noncomputable abbrev b6:Stmt:=top 8
theorem lP:av ["shelf"] ["shelf"] (aa b6):=⟨rfl,rfl,rfl,by decide +kernel,rfl,by decide +kernel,by decide +kernel⟩
noncomputable abbrev bB:Stmt:=top 17
theorem cC:av ["program","counts","sums","row","count","which","thing"] ["program","counts"] (aa bB):=⟨rfl,rfl,rfl,by decide +kernel,rfl,by decide +kernel,by decide +kernel⟩
noncomputable abbrev aO:Stmt:=top 18
theorem bW:av ["row","things","kind","part"] ["row"] (aa aO):=⟨rfl,rfl,rfl,by decide +kernel,rfl,by decide +kernel,by decide +kernel⟩
noncomputable abbrev aX:Stmt:=top 20
theorem cx:av ["script","found","cell"] ["script"] (aa aX):=⟨rfl,rfl,rfl,by decide +kernel,rfl,by decide +kernel,by decide +kernel⟩
noncomputable abbrev bw:Stmt:=top 21
theorem fk:av ["cell","number"] ["cell"] (aa bw):=⟨rfl,rfl,rfl,by decide +kernel,rfl,by decide +kernel,by decide +kernel⟩
noncomputable abbrev bt:Stmt:=top 22
theorem cM:av ["seed","most","found","number"] ["seed","most"] (aa bt):=⟨rfl,rfl,rfl,by decide +kernel,rfl,by decide +kernel,by decide +kernel⟩
noncomputable abbrev ba:Stmt:=top 23
theorem jk:av [] [] (aa ba):=⟨rfl,rfl,rfl,by decide +kernel,rfl,by decide +kernel,by decide +kernel⟩
noncomputable abbrev aW:Stmt:=top 24
theorem bM:av ["seed","way","number","k"] ["seed"] (aa aW):=⟨rfl,rfl,rfl,by decide +kernel,rfl,by decide +kernel,by decide +kernel⟩
noncomputable abbrev bF:Stmt:=top 25
theorem dX:av ["seed","many","words","word","one"] ["seed","many","words"] (aa bF):=⟨rfl,rfl,rfl,by decide +kernel,rfl,by decide +kernel,by decide +kernel⟩
noncomputable abbrev aE:Stmt:=top 26
theorem cI:av ["seed","most","words","many"] ["seed","most","words"] (aa aE):=⟨rfl,rfl,rfl,by decide +kernel,rfl,by decide +kernel,by decide +kernel⟩
noncomputable abbrev aM:Stmt:=top 27
theorem bU:av ["number","found"] ["number"] (aa aM):=⟨rfl,rfl,rfl,by decide +kernel,rfl,by decide +kernel,by decide +kernel⟩
noncomputable abbrev aL:Stmt:=top 28
theorem dW:av ["seed","many","way"] ["seed","many"] (aa aL):=⟨rfl,rfl,rfl,by decide +kernel,rfl,by decide +kernel,by decide +kernel⟩
noncomputable abbrev bg:Stmt:=top 29
theorem aF:av ["seed","left","count","factor","rows","counts","size","top","k"] ["seed"] (aa bg):=⟨rfl,rfl,rfl,by decide +kernel,rfl,by decide +kernel,by decide +kernel⟩
noncomputable abbrev aQ:Stmt:=top 30
theorem aA:av ["program","counts","words","classes","boxes","row","count","at","size","part","box"] ["program","counts"] (aa aQ):=⟨rfl,rfl,rfl,by decide +kernel,rfl,by decide +kernel,by decide +kernel⟩
noncomputable abbrev ax:Stmt:=top 31
theorem a_:av ["counts","pairs","some","turn"] ["counts"] (aa ax):=⟨rfl,rfl,rfl,by decide +kernel,rfl,by decide +kernel,by decide +kernel⟩
noncomputable abbrev au:Stmt:=top 32
theorem aC:av ["found","many","room","one","part","k"] ["found","many"] (aa au):=⟨rfl,rfl,rfl,by decide +kernel,rfl,by decide +kernel,by decide +kernel⟩
noncomputable abbrev dU:Stmt:=top 33
theorem cS:av ["script","cell","seed","program","counts","found","other","lengths","some"] ["script"] (aa dU):=⟨rfl,rfl,rfl,by decide +kernel,rfl,by decide +kernel,by decide +kernel⟩
structure Txt (K:PySem.W.Frag) (mg:Str->Option Value):Prop where
 Ay:mg "bool"=none
 lI:mg "enumerate"=none
 sQ:mg "int"=none
 cw:mg "isinstance"=none
 dq:mg "len"=none
 u_:mg "list"=none
 CD:mg "max"=none
 C5:mg "min"=none
 cF:mg "range"=none
 ia:mg "sorted"=none
 Ez:mg "str"=none
 zE:mg "sum"=none
 cK:mg "tuple"=none
 j4:mg "zip"=none
 y4:∃ w u,mg "BOXES"=some u/\RelV w u/\∀ H B,Rep K H B w (.d9 [.str "a",.str "b",.str "c",.str "d",.str "e",.str "f",.str "g",.str "h"])
 ny:∃ w u,mg "HOW_MANY"=some u/\RelV w u/\∀ H B,Rep K H B w (.d9 [.int 9,.int 17,.int 8])
 qI:∃ w u,mg "LONGEST"=some u/\RelV w u/\∀ H B,Rep K H B w (.int 12)
 nG:∃ w u,mg "OF_BOXES"=some u/\RelV w u/\∀ H B,Rep K H B w (.int 2)
 jY:∃ w u,mg "OF_CLASSES"=some u/\RelV w u/\∀ H B,Rep K H B w (.int 1)
 ng:∃ w u,mg "OF_WORDS"=some u/\RelV w u/\∀ H B,Rep K H B w (.int 0)
 xN:DD K mg "BOXES"
 mh:∃ d,mg "SHAPES"=some (.ref d)/\ki K d [("put",["box","number"]),("add",["box","box"]),("sub",["box","box"]),("copy",["box","box"]),("tell",["box"]),("hear",["box"]),("jump",["goal"]),("zero",["box","goal"]),("halt",[])]
 xs:∃ C_NoCode:Addr,mg "NoCode"=some (.ref C_NoCode)/\rZ K C_NoCode
 j_:pK K mg "by_worth"
section
variable {P:Program} {w:World} {K:PySem.W.Frag} {mg:Str->Option Value} {base:Heap}
local macro_rules | `(tactic| walk_at "lc") => `(tactic| first | exact Or.inl rfl | exact Or.inr rfl)
local macro_rules | `(tactic| wp_walk using $ts,*) => do
  let ids := ("L2.A.qE L2.A.sP L2.A.pP L2.A.oH L2.A.o_ L2.A.yu L2.A.sU L2.A.s_ L2.A.y3 L2.A.Dl L2.A.xP L2.A.jb L2.A.ye L2.A3.A7 L2.A3.Cd L2.A3.Ew L2.A3.x3 L2.A3.jf L2.A3.fq L2.A3.Cq L2.A3.lU L2.A3.FI L2.A3.zl L2.A3.gT L2.A3.mQ L2.A3.Fh L2.A3.Gu L2.A3.Gy L2.A3.DO L2.A3.DT L2.A3.add_l L2.A3.Gp L2.A3.FD L2.A3.Fp L2.A3.Dc L2.A3.C_ L2.A3.DC L2.A3.Eu L2.A3.G1 L2.A3.FP L2.A3.FL L2.A.E1 L2.A.xn L2.A.uC L2.A.sE L2.A.mD L2.A.y6 L2.A.wc L2.A.E3 L2.A.mK L2.A.eM L2.A.uK L2.A.vL L2.A.xf L2.A.zm L2.A.gO L2.A.qz L2.A.pY L2.A.D6 L2.A.Gz L2.A.AE L2.A.Bh L2.A.CT L2.A.C0 L2.A.FX L2.A.Ex L2.A.Ge L2.A.sA L2.A.du L2.A.lL L2.A.xD L2.A.AN L2.A.DF L2.A.mj L2.A.Gm L2.A.ER L2.A.Er L2.A.Ej L2.A.Ff L2.A.ET L2.A.ED L2.A.qL L2.A.E7 L2.A.EU L2.A.kj L2.A.As L2.A.Ak L2.A.ie L2.A.kq L2.A.Hc L2.A.GL L2.A.sx L2.A.Dq L2.A.Df L2.A.Ek L2.A.CL L2.A.EC L2.A.EF L2.A.gS L2.A.xZ L2.A.jP L2.A.wa L2.A.EN L2.A.EO L2.A.EB L2.A.iZ L2.A.uE L2.A.gA L2.A.Cw L2.A.fA L2.A.za L2.A.G_ L2.A.GK tR L2.A.FW L2.A.FR L2.A.FQ L2.A.FU L2.A.CP L2.A.Eo L2.A.C7 L2.A.FT L2.A.Gb L2.A.Fs L2.A.FK L2.A.Gx L2.A.G0 Sl.box Sl.put cL L2.putAll vZ fL gD L2.Y.trees L2.Y.yv L2.Y.yA L2.Y.sf L2.Y.E8 L2.Y.EA List.tail_cons Nat.zero_le startM uu bL Option.bind_some Option.map_some List.map_cons List.map_nil List.length_cons List.length_nil List.replicate List.cons_append List.nil_append List.append_nil List.getElem?_cons_zero List.getElem?_cons_succ List.set_cons_zero List.set_cons_succ List.nodup_nil List.nodup_cons List.not_mem_nil not_false_eq_true false_implies implies_true and_true true_and and_self true_or D8 CZ DY Eg Nat.reduceAdd Nat.reduceSub Nat.reduceLeDiff Bool.false_eq_true Bool.not_true Bool.not_false decide_eq_true_eq Bool.not_eq_true' decide_eq_false_iff_not Int.reduceToNat Int.reducePow reduceCtorEq exists_eq_left'".splitOn " ").toArray.map fun n => Lean.mkIdent n.toName
  `(tactic| simp only [↓reduceIte, $[↓$ts:term],*, $[$ids:ident],*, $[$ts:term],*])
local macro_rules | `(tactic| walk_at "rt") => `(tactic| wp_walk using and_self)
namespace Kr
def ks(L:Nat):List Nat->Nat
 | []=>0
 | l::r=>2 ^ (L - l)+ks L r
theorem eF(L:Nat):∀ a b,ks L (a++b)=ks L a+ks L b
 | [],b=>by simp[ks]
 | x::a,b=>by simp[ks,eF L a b];lia
theorem xI{L:Nat}{a b:List Nat}(h:a.Perm b):ks L a=ks L b:=by
 induction h with
 | nil=>rfl
 | cons x _ ih=>simp[ks,ih]
 | swap x y l=>simp[ks];lia
 | trans _ _ h1 h2=>exact h1.trans h2
theorem qU{L d l:Nat}(h:d < l)(hl:l<=L):2 ^ (L - d)=2*2 ^ (L - (d+1)):=by
 have:L - d=(L - (d+1))+1:=by lia
 rw[this,Nat.pow_succ];lia
def fit:List Nat->Nat->Nat->Nat->Prop:=fun r free depth L=>ks L r<=free*2 ^ (L - depth)
theorem gw{L d:Nat}:∀ {r:List Nat},(∀ x∈r,d<=x)->ks L r<=r.length*2 ^ (L - d)
 | [],_=>by simp[ks]
 | x::r,h=>by
  have ih:=gw (L:=L) (d:=d) (r:=r) fun y hy=>h y (List.mem_cons_of_mem _ hy);have hx:=h x List.mem_cons_self;have:=Nat.pow_le_pow_right (n:=2) (by decide) (Nat.sub_le_sub_left hx L)
  simp only[ks,List.length_cons,Nat.succ_mul];lia
theorem Aj{L:Nat}{x:Nat}{r:List Nat}:0 < ks L (x::r):=by
 have:=Nat.pow_pos (n:=L - x) (show 0 < 2 by decide)
 simp only[ks];lia
theorem mZ{r:List Nat}{free depth L:Nat}(h:∀ x∈r,depth<=x)(hf:r.length<=free):fit r free depth L:=
 Nat.le_trans (gw h) (Nat.mul_le_mul_right _ hf)
theorem nW{r:List Nat}{free depth L l:Nat}(h:depth < l)(hl:l<=L):fit r free depth L ↔ fit r (free*2) (depth+1) L:=by
 unfold fit;rw[qU h hl,Nat.mul_assoc]
theorem tX{r:List Nat}{free l L:Nat}(hf:0 < free):fit (l::r) free l L ↔ fit r (free - 1) l L:=by
 unfold fit;simp only[ks];obtain⟨f,rfl⟩:∃ f,free=f+1:=⟨free - 1,by lia⟩
 rw[Nat.add_sub_cancel,Nat.succ_mul];lia
theorem sV{x:Nat}{r:List Nat}{depth L:Nat}:¬ fit (x::r) 0 depth L:=by
 unfold fit;have:=Aj (L:=L) (x:=x) (r:=r);lia
end Kr
namespace Pm
noncomputable abbrev It:=Int×List Nat
def wt(X:List It):Int:=(X.map fun x=>x.1).sum
def th(X:List It):List Nat:=X.flatMap fun x=>x.2
theorem dm(x:It)(X:List It):wt (x::X)=x.1+wt X:=by simp[wt]
theorem uW:wt []=0:=rfl
theorem tI(X Y:List It):wt (X++Y)=wt X+wt Y:=by simp[wt]
theorem sg{a b:List Int}(h:a.Perm b):a.sum=b.sum:=by
 induction h with
 | nil=>rfl
 | cons x _ ih=>rw[List.sum_cons,List.sum_cons,ih]
 | swap x y l=>simp only[List.sum_cons];lia
 | trans _ _ h1 h2=>exact h1.trans h2
theorem yn{X Y:List It}(h:X.Perm Y):wt X=wt Y:=sg (h.map _)
theorem bu(x:It)(X:List It):th (x::X)=x.2++th X:=List.flatMap_cons ..
theorem fR(X Y:List It):th (X++Y)=th X++th Y:=List.flatMap_append ..
theorem gQ{X Y:List It}(h:X.Perm Y):(th X).Perm (th Y):=by
 induction h with
 | nil=>exact .refl _
 | cons x _ ih=>rw[bu,bu];exact ih.append_left _
 | swap x y l =>
  rw[bu,bu,bu,bu,<- List.append_assoc,<- List.append_assoc];exact List.perm_append_comm.append_right _
 | trans _ _ h1 h2=>exact h1.trans h2
theorem pick{α:Type}{a:α}{X:List α}(h:a∈X):∃ X',X.Perm (a::X'):=by
 obtain⟨s,t,rfl⟩:=List.append_of_mem h;exact⟨s++t,List.perm_middle⟩
theorem split{α:Type}:∀ (A B X Y:List α),(A++B).Perm (X++Y)->∃ X1 X2 Y1 Y2,X.Perm (X1++X2)/\A.Perm (X1++Y1)/\B.Perm (X2++Y2)
 | [],B,X,Y,h=>⟨[],X,[],Y,.refl _,.refl _,h⟩
 | a::A,B,X,Y,h=>by
  rw[List.cons_append] at h;rcases List.mem_append.mp (h.mem_iff.mp List.mem_cons_self) with m | m
  ·obtain⟨X',hX⟩:=pick m;have h2:(a::(A++B)).Perm (a::(X'++Y)):=h.trans (hX.append_right Y);obtain⟨X1,X2,Y1,Y2,p1,p2,p3⟩:=split A B X' Y h2.cons_inv;exact⟨a::X1,X2,Y1,Y2,hX.trans (p1.cons a),p2.cons a,p3⟩
  ·obtain⟨Y',hY⟩:=pick m;have h2:(a::(A++B)).Perm (a::(X++Y')):=(h.trans (hY.append_left X)).trans List.perm_middle;obtain⟨X1,X2,Y1,Y2,p1,p2,p3⟩:=split A B X Y' h2.cons_inv;exact⟨X1,X2,a::Y1,Y2,p1,(p2.cons a).trans List.perm_middle.symm,p3⟩
def Up(A:List It):Prop:=A.Pairwise fun x y=>x.1<=y.1
theorem zk{X:List It}(h:∀ x∈X,0<=x.1):0<=wt X:=by
 induction X with
 | nil=>exact Int.le_refl 0
 | cons x X ih =>
  rw[dm];have:=h x List.mem_cons_self;have:=ih fun y hy=>h y (List.mem_cons_of_mem _ hy);lia
theorem e8:∀ (A X Y:List It) (k:Nat),Up A->(∀ x∈A,0<=x.1)->A.Perm (X++Y)->k<=X.length->wt (A.take k)<=wt X
 | [],X,Y,k,_,_,h,hk=>by
  have e:X++Y=[]:=h.symm.eq_nil;have:X=[]:=(List.append_eq_nil_iff.mp e).1;subst this;simp[wt]
 | a::A,X,Y,0,_,hn,h,_=>by
  rw[List.take_zero,uW];exact zk fun x hx=>hn x (h.mem_iff.mpr (List.mem_append.mpr (.inl hx)))
 | a::A,X,Y,k+1,hu,hn,h,hk=>by
  have hu2:=List.pairwise_cons.mp hu;have hn2:∀ x∈A,0<=x.1:=fun x hx=>hn x (List.mem_cons_of_mem _ hx);rw[List.take_succ_cons,dm];rcases List.mem_append.mp (h.mem_iff.mp List.mem_cons_self) with m | m
  ·obtain⟨X',hX⟩:=pick m;have h2:(a::A).Perm (a::(X'++Y)):=h.trans (hX.append_right Y);have hl:=hX.length_eq;rw[List.length_cons] at hl;have:=e8 A X' Y k hu2.2 hn2 h2.cons_inv (by lia)
   rw[yn hX,dm];lia
  ·obtain⟨Y',hY⟩:=pick m
   cases X with
   | nil=>simp at hk
   | cons x X' =>
    have h2:(a::A).Perm (a::(x::X'++Y')):=(h.trans (hY.append_left _)).trans List.perm_middle;have h3:=h2.cons_inv;have hx:x∈A:=h3.mem_iff.mpr (by simp)
    have:=hu2.1 x hx;have h4:A.Perm (X'++(x::Y')):=h3.trans (by rw[List.cons_append];exact List.perm_middle.symm)
    have:=e8 A X' (x::Y') k hu2.2 hn2 h4 (by rw[List.length_cons] at hk;lia)
    rw[dm];lia
def pk:List It->List It
 | a::b::r=>(a.1+b.1,a.2++b.2)::pk r
 | _=>[]
theorem ou:∀ (A X Y:List It),(pk A).Perm (X++Y)->∃ X' Y',A.Perm (X'++Y')/\X'.length=2*X.length/\(th X').Perm (th X)
 | [],X,Y,h=>by
  have:X=[]:=(List.append_eq_nil_iff.mp h.symm.eq_nil).1;subst this;exact⟨[],[],.refl _,rfl,.refl _⟩
 | [a],X,Y,h=>by
  have:X=[]:=(List.append_eq_nil_iff.mp h.symm.eq_nil).1;subst this;exact⟨[],[a],.refl _,rfl,.refl _⟩
 | a::b::r,X,Y,h=>by
  unfold pk at h;rcases List.mem_append.mp (h.mem_iff.mp List.mem_cons_self) with m | m
  ·obtain⟨X',hX⟩:=pick m;obtain⟨X2,Y2,p1,p2,p3⟩:=ou r X' Y (h.trans (hX.append_right Y)).cons_inv;refine⟨a::b::X2,Y2,(p1.cons b).cons a,?_,?_⟩
   ·rw[hX.length_eq];simp only[List.length_cons];lia
   ·refine List.Perm.trans ?_ (gQ hX).symm;rw[bu,bu,bu,<- List.append_assoc];exact p3.append_left _
  ·obtain⟨Y',hY⟩:=pick m;obtain⟨X2,Y2,p1,p2,p3⟩:=ou r X Y' ((h.trans (hY.append_left X)).trans List.perm_middle).cons_inv;exact⟨X2,a::b::Y2,(((p1.cons b).cons a).trans ((List.perm_middle (l₁:=X2) (l₂:=Y2) (a:=b)).symm.cons a)).trans List.perm_middle.symm,p2,p3⟩
theorem kD:∀ A:List It,(pk A).length=A.length / 2
 | []=>rfl
 | [_]=>by simp[pk]
 | a::b::r=>by
  unfold pk;rw[List.length_cons,kD r];simp only[List.length_cons];lia
theorem qo:∀ (A:List It) (p:Nat),(∀ x∈A,0<=x.1)->wt ((pk A).take p)<=wt (A.take (2*p))
 | [],p,_=>by simp[pk]
 | [a],p,h=>by
  have:=zk (X:=[a].take (2*p)) fun x hx=>h x (List.mem_of_mem_take hx)
  simpa[pk,uW] using this
 | a::b::r,0,_=>by simp
 | a::b::r,p+1,h=>by
  have:=qo r p fun x hx=>h x (by simp[hx])
  unfold pk;rw[show 2*(p+1)=2*p+1+1 by lia,List.take_succ_cons,List.take_succ_cons,List.take_succ_cons,dm,dm,dm]
  show a.1+b.1+_<=_;lia
theorem zy:∀ {A:List It},(∀ x∈A,0<=x.1)->∀ x∈pk A,0<=x.1
 | [],_,x,h=>by cases h
 | [_],_,x,h=>by cases h
 | a::b::r,hn,x,h=>by
  unfold pk at h;rcases List.mem_cons.mp h with e | e
  ·have:=hn a (by simp)
   have:=hn b (by simp)
   rw[e];show 0<=a.1+b.1;lia
  ·exact zy (A:=r) (fun y hy=>hn y (by simp[hy])) x e
def sN(f:Nat->Nat):Nat->Nat
 | 0=>0
 | n+1=>sN f n+f n
def sI(f:Nat->Int):Nat->Int
 | 0=>0
 | n+1=>sI f n+f n
theorem fY(f g:Nat->Nat):∀ n,sN (fun i=>f i+g i) n=sN f n+sN g n
 | 0=>rfl
 | n+1=>by simp only[sN,fY f g n];lia
theorem ko(k:Nat)(f:Nat->Nat):∀ n,sN (fun i=>k*f i) n=k*sN f n
 | 0=>rfl
 | n+1=>by simp only[sN,ko k f n];rw[Nat.mul_add]
theorem uj{f g:Nat->Nat}:∀ {n},(∀ i,i < n->f i<=g i)->sN f n<=sN g n
 | 0,_=>Nat.le_refl _
 | n+1,h=>by
  have:=uj (n:=n) fun i hi=>h i (by lia)
  have:=h n (by lia)
  simp only[sN];lia
theorem cu{f g:Nat->Nat}:∀ {n},(∀ i,i < n->f i=g i)->sN f n=sN g n
 | 0,_=>rfl
 | n+1,h=>by simp only[sN];rw[cu (n:=n) fun i hi=>h i (by lia),h n (by lia)]
theorem nj(f g:Nat->Int):∀ n,sI (fun i=>f i+g i) n=sI f n+sI g n
 | 0=>rfl
 | n+1=>by simp only[sI,nj f g n];lia
theorem d7{f g:Nat->Int}:∀ {n},(∀ i,i < n->f i=g i)->sI f n=sI g n
 | 0,_=>rfl
 | n+1,h=>by simp only[sI];rw[d7 (n:=n) fun i hi=>h i (by lia),h n (by lia)]
theorem kK:∀ n,sN (fun _=>0) n=0
 | 0=>rfl
 | n+1=>by simp only[sN,kK n]
theorem lg:∀ n,sI (fun _=>0) n=0
 | 0=>rfl
 | n+1=>by simp only[sI,lg n];rfl
theorem kh(x:Nat):∀ n,sN (fun i=>if x=i then 1 else 0) n=if x < n then 1 else 0
 | 0=>rfl
 | n+1=>by
  simp only[sN,kh x n];by_cases h:x < n
  ·rw[if_pos h,if_neg (by lia),if_pos (by lia)]
  ·by_cases h2:x=n
   ·rw[if_neg h,if_pos h2,if_pos (by lia)]
   ·rw[if_neg h,if_neg h2,if_neg (by lia)]
theorem vb(c:Nat->Int)(x:Nat):∀ n,sI (fun i=>if x=i then c i else 0) n=if x < n then c x else 0
 | 0=>rfl
 | n+1=>by
  simp only[sI,vb c x n];by_cases h:x < n
  ·rw[if_pos h,if_neg (by lia),if_pos (by lia)];lia
  ·by_cases h2:x=n
   ·subst h2;rw[if_neg h,if_pos rfl,if_pos (by lia)];lia
   ·rw[if_neg h,if_neg h2,if_neg (by lia)];rfl
theorem gC(i x:Nat)(l:List Nat):(x::l).count i=l.count i+if x=i then 1 else 0:=by
 rw[List.count_cons];by_cases h:x=i<;>simp[h]
theorem lC{n:Nat}:∀ {l:List Nat},(∀ x∈l,x < n)->sN (fun i=>l.count i) n=l.length
 | [],_=>by simp[kK]
 | x::l,h=>by
  have e:=lC (n:=n) (l:=l) fun y hy=>h y (List.mem_cons_of_mem _ hy);rw[cu (g:=fun i=>l.count i+if x=i then 1 else 0) fun i _=>gC i x l,fY,e,kh,if_pos (h x List.mem_cons_self),List.length_cons]
theorem lY{n:Nat}{c:Nat->Int}:∀ {l:List Nat},(∀ x∈l,x < n)->(l.map c).sum=sI (fun i=>c i*(l.count i:Int)) n
 | [],_=>by simp[lg]
 | x::l,h=>by
  have e:=lY (n:=n) (c:=c) (l:=l) fun y hy=>h y (List.mem_cons_of_mem _ hy);rw[d7 (g:=fun i=>c i*(l.count i:Int)+if x=i then c i else 0) fun i _=>?_,nj,<- e,vb,if_pos (h x List.mem_cons_self),List.map_cons,List.sum_cons]
  ·lia
  ·rw[gC];by_cases z:x=i
   ·rw[if_pos z,if_pos z,Int.natCast_add,Int.mul_add];simp
   ·rw[if_neg z,if_neg z];simp
section
variable (c:Nat->Int) (n:Nat)
def coins:List It:=(List.range n).map fun i=>(c i,[i])
def Cn(l:List It):List It:=eJ (l.map fun x=>x.1) l
def shelf:Nat->List It
 | 0=>[]
 | d+1=>Cn (coins c n++pk (shelf d))
end
theorem cP(l:List It):(Cn l).Perm l:=t4 (by rw[List.length_map])
theorem kJ:∀ (l:List It) (p:Int×It),p∈(l.map fun x=>x.1).zip l->p.1=p.2.1
 | [],p,h=>by cases h
 | x::l,p,h=>by
  rw[List.map_cons,List.zip_cons_cons] at h;rcases List.mem_cons.mp h with e | e
  ·rw[e]
  ·exact kJ l p e
theorem AA(l:List It):Up (Cn l):=by
 unfold Cn eJ Up;rw[List.pairwise_map];refine (ib ((l.map fun x=>x.1).zip l)).imp_of_mem fun {a b} ha hb h=>?_;rw[<- kJ l a ((cZ _).mem_iff.mp ha),<- kJ l b ((cZ _).mem_iff.mp hb)];exact h
variable {c:Nat->Int} {n:Nat}
theorem mF:∀ d,Up (shelf c n d)
 | 0=>List.Pairwise.nil
 | d+1=>AA _
theorem iU(hc:∀ i,i < n->0<=c i):∀ d,∀ x∈shelf c n d,0<=x.1
 | 0,x,h=>by cases h
 | d+1,x,h=>by
  rcases List.mem_append.mp ((cP _).mem_iff.mp h) with m | m
  ·obtain⟨i,hi,rfl⟩:=List.mem_map.mp m;exact hc i (List.mem_range.mp hi)
  ·exact zy (iU hc d) x m
def Wd(c:Nat->Int)(n:Nat)(x:It):Prop:=x.1=(x.2.map c).sum/\∀ i∈x.2,i < n
theorem yS:∀ {A:List It},(∀ x∈A,Wd c n x)->∀ x∈pk A,Wd c n x
 | [],_,x,h=>by cases h
 | [_],_,x,h=>by cases h
 | a::b::r,hn,x,h=>by
  unfold pk at h;rcases List.mem_cons.mp h with e | e
  ·have h1:=hn a (by simp)
   have h2:=hn b (by simp)
   rw[e];refine⟨?_,fun i hi=>?_⟩
   ·show a.1+b.1=_;rw[h1.1,h2.1,List.map_append,List.sum_append]
   ·rcases List.mem_append.mp hi with z | z
    ·exact h1.2 i z
    ·exact h2.2 i z
  ·exact yS (A:=r) (fun y hy=>hn y (by simp[hy])) x e
theorem mx:∀ d,∀ x∈shelf c n d,Wd c n x
 | 0,x,h=>by cases h
 | d+1,x,h=>by
  rcases List.mem_append.mp ((cP _).mem_iff.mp h) with m | m
  ·obtain⟨i,hi,rfl⟩:=List.mem_map.mp m;exact⟨by simp,fun j hj=>by rw[List.mem_singleton.mp hj];exact List.mem_range.mp hi⟩
  ·exact yS (mx d) x m
theorem zu:∀ {X:List It},(∀ x∈X,Wd c n x)->wt X=((th X).map c).sum/\∀ i∈th X,i < n
 | [],_=>⟨rfl,fun i h=>by cases h⟩
 | x::X,h=>by
  obtain⟨h1,h2⟩:=zu (X:=X) fun y hy=>h y (List.mem_cons_of_mem _ hy);have h3:=h x List.mem_cons_self;rw[dm,bu,List.map_append,List.sum_append,h1,h3.1];exact⟨rfl,fun i hi=>(List.mem_append.mp hi).elim (h3.2 i) (h2 i)⟩
theorem lS:th (coins c n)=List.range n:=by
 unfold th coins;rw[List.flatMap_map];generalize List.range n=l
 induction l with
 | nil=>rfl
 | cons x l ih=>rw[List.flatMap_cons,ih];rfl
theorem wF{C Y:List It}(h:(coins c n).Perm (C++Y)):(∀ i,(th C).count i<=1)/\(th C).length=C.length/\∀ i∈th C,i < n:=by
 have h1:(List.range n).Perm (th C++th Y):=by rw[<- fR,<- lS (c:=c)];exact gQ h
 have hm:∀ x∈C,∃ i,x.2=[i]:=fun x hx=>by
  obtain⟨i,_,e⟩:=List.mem_map.mp (h.mem_iff.mpr (List.mem_append.mpr (.inl hx)));exact⟨i,by rw[<- e]⟩
 refine⟨fun i=>?_,?_,fun i hi=>List.mem_range.mp (h1.mem_iff.mpr (List.mem_append.mpr (.inl hi)))⟩
 ·have h2:=h1.count_eq i;rw[List.count_append] at h2;have h3:(List.range n).count i<=1:=List.nodup_iff_count.mp List.nodup_range i;lia
 ·clear h h1
  induction C with
  | nil=>rfl
  | cons x C ih =>
   obtain⟨i,e⟩:=hm x List.mem_cons_self;rw[bu,e,List.length_append,List.length_cons,List.length_cons,ih fun y hy=>hm y (List.mem_cons_of_mem _ hy)]
   simp;lia
theorem qu(a b D:Nat):(a+b)*2 ^ (D+1)=2*(2 ^ D*a)+2*b*2 ^ D:=by
 rw[Nat.pow_succ];generalize 2 ^ D=x;have h1:a*(x*2)=2*(x*a):=by rw[Nat.mul_comm a,Nat.mul_comm x 2,Nat.mul_assoc]
 have h2:b*(x*2)=2*b*x:=by rw[Nat.mul_comm x 2,<- Nat.mul_assoc,Nat.mul_comm b 2]
 rw[Nat.add_mul,h1,h2]
theorem two_split{D a:Nat}(h:a<=D):2 ^ (D+1 - a)=2*2 ^ (D - a):=by
 rw[show D+1 - a=(D - a)+1 by lia,Nat.pow_succ];lia
theorem worth:∀ (D:Nat) (X Y:List It),(shelf c n D).Perm (X++Y)->(∀ i,(th X).count i<=D)/\X.length*2 ^ D<=2*sN (fun i=>2 ^ D - 2 ^ (D - (th X).count i)) n
 | 0,X,Y,h=>by
  have:X=[]:=(List.append_eq_nil_iff.mp h.symm.eq_nil).1;subst this;exact⟨fun i=>Nat.le_refl 0,by simp⟩
 | D+1,X,Y,h=>by
  obtain⟨C,P,Y1,Y2,p1,p2,p3⟩:=split _ _ X Y ((cP _).symm.trans h);obtain⟨X',Y',q1,q2,q3⟩:=ou _ _ _ p3;obtain⟨i1,i2⟩:=worth D X' Y' q1;obtain⟨c1,c2,c3⟩:=wF p2;have e:∀ i,(th X).count i=(th C).count i+(th X').count i:=fun i=>by
   rw[(gQ p1).count_eq,fR,List.count_append,q3.count_eq]
  have hl:X.length=C.length+P.length:=by rw[p1.length_eq,List.length_append]
  refine⟨fun i=>by rw[e];have:=c1 i;have:=i1 i;lia,?_⟩
  have key:sN (fun i=>2 ^ D*(th C).count i+(2 ^ D - 2 ^ (D - (th X').count i))) n<=sN (fun i=>2 ^ (D+1) - 2 ^ (D+1 - (th X).count i)) n:=uj fun i _=>by
   have a1:=c1 i;have a2:=i1 i;have a3:2 ^ (D - (th X').count i)<=2 ^ D:=Nat.pow_le_pow_right (by decide) (Nat.sub_le _ _)
   have a4:2 ^ (D+1)=2*2 ^ D:=by rw[Nat.pow_succ];lia
   rw[e i];rcases Nat.eq_zero_or_pos ((th C).count i) with z | z
   ·rw[z,Nat.zero_add,two_split a2,a4];lia
   ·rw[show (th C).count i=1 by lia,show D+1 - (1+(th X').count i)=D - (th X').count i by lia,a4];lia
  rw[fY,ko,lC c3,c2] at key;rw[q2] at i2;rw[hl,qu];lia
theorem least(hc:∀ i,i < n->0<=c i):∀ (D:Nat) (l:Nat->Nat),(∀ i,i < n->l i<=D)->∀ k,k*2 ^ D<=2*sN (fun i=>2 ^ D - 2 ^ (D - l i)) n->k<=(shelf c n D).length/\wt ((shelf c n D).take k)<=sI (fun i=>c i*(l i:Int)) n
 | 0,l,hl,k,hk=>by
  have e:sN (fun i=>2 ^ 0 - 2 ^ (0 - l i)) n=0:=by
   rw[cu (g:=fun _=>0) fun i hi=>?_,kK];rw[show l i=0 by have:=hl i hi;lia]
  rw[e] at hk;have hk0:k=0:=by simpa using hk
  subst hk0;refine⟨Nat.zero_le _,?_⟩;rw[d7 (g:=fun _=>0) fun i hi=>?_,lg]
  ·exact Int.le_refl 0
  ·rw[show l i=0 by have:=hl i hi;lia];simp
 | D+1,l,hl,k,hk=>by
  have cz:∀ m,m<=n->∃ C Y:List It,(coins c m).Perm (C++Y)/\wt C=sI (fun i=>if 1<=l i then c i else 0) m/\C.length=sN (fun i=>if 1<=l i then 1 else 0) m:=fun m=>by
   induction m with
   | zero=>exact fun _=>⟨[],[],.refl _,rfl,rfl⟩
   | succ m ih =>
    intro hm;obtain⟨C,Y,h1,h2,h3⟩:=ih (by lia)
    have e:coins c (m+1)=coins c m++[(c m,[m])]:=by unfold coins;rw[List.range_succ,List.map_append];rfl
    by_cases z:1<=l m
    ·refine⟨C++[(c m,[m])],Y,?_,?_,?_⟩
     ·rw[e];refine (h1.append_right _).trans ?_;rw[List.append_assoc,List.append_assoc];exact List.perm_append_comm.append_left C
     ·rw[tI,h2];simp only[sI,if_pos z];simp[wt]
     ·rw[List.length_append,h3];simp only[sN,if_pos z];rfl
    ·refine⟨C,Y++[(c m,[m])],?_,?_,?_⟩
     ·rw[e,<- List.append_assoc];exact h1.append_right _
     ·rw[h2];simp only[sI,if_neg z];lia
     ·rw[h3];simp only[sN,if_neg z];lia
  obtain⟨C,Y,h1,h2,h3⟩:=cz n (Nat.le_refl _);have eV:2*sN (fun i=>2 ^ (D+1) - 2 ^ (D+1 - l i)) n=2*(2 ^ D*C.length)+2*sN (fun i=>2 ^ D - 2 ^ (D - (l i - 1))) n:=by
   rw[h3,<- ko (2 ^ D),<- Nat.mul_add,<- fY];congr 1;refine cu fun i hi=>?_;have a4:2 ^ (D+1)=2*2 ^ D:=by rw[Nat.pow_succ];lia
   by_cases z:1<=l i
   ·have a3:2 ^ (D - (l i - 1))<=2 ^ D:=Nat.pow_le_pow_right (by decide) (Nat.sub_le _ _)
    rw[if_pos z,show D+1 - l i=D - (l i - 1) by lia,a4];lia
   ·rw[if_neg z,show l i=0 by lia,Nat.sub_zero,Nat.zero_sub,Nat.sub_zero];simp
  rw[eV] at hk;have hk2:2*(k - C.length)*2 ^ D<=2*sN (fun i=>2 ^ D - 2 ^ (D - (l i - 1))) n:=by
   rcases Nat.le_total k C.length with z | z
   ·rw[Nat.sub_eq_zero_of_le z];simp
   ·obtain⟨j,rfl⟩:=Nat.le.dest z;rw[Nat.add_sub_cancel_left];rw[qu] at hk;lia
  obtain⟨g1,g2⟩:=least hc D (fun i=>l i - 1) (fun i hi=>by have:=hl i hi;lia) _ hk2
  have nn:=iU hc D;have hp:=qo (shelf c n D) (k - C.length) nn;have hpl:((pk (shelf c n D)).take (k - C.length)).length=k - C.length:=by
   rw[List.length_take,kD];lia
  have hX:(shelf c n (D+1)).Perm ((C++(pk (shelf c n D)).take (k - C.length))++(Y++(pk (shelf c n D)).drop (k - C.length))):=by
   refine (cP _).trans ((h1.append_right _).trans ?_);rw[List.append_assoc,List.append_assoc];refine List.Perm.append_left C ?_;have:pk (shelf c n D)=(pk (shelf c n D)).take (k - C.length)++(pk (shelf c n D)).drop (k - C.length):=(List.take_append_drop _ _).symm;refine List.Perm.trans (l₂:=Y++((pk (shelf c n D)).take (k - C.length)++(pk (shelf c n D)).drop (k - C.length))) (by rw[<- this]) ?_
   rw[<- List.append_assoc,<- List.append_assoc];exact List.perm_append_comm.append_right _
  have hlen:k<=(C++(pk (shelf c n D)).take (k - C.length)).length:=by rw[List.length_append,hpl];lia
  have hmin:=e8 _ _ _ k (mF (D+1)) (iU hc (D+1)) hX hlen;refine⟨by rw[hX.length_eq,List.length_append];lia,?_⟩
  rw[tI,h2] at hmin;have e:sI (fun i=>c i*(l i:Int)) n=sI (fun i=>if 1<=l i then c i else 0) n+sI (fun i=>c i*((l i - 1:Nat):Int)) n:=by
   rw[<- nj];refine d7 fun i hi=>?_;by_cases z:1<=l i
   ·rw[if_pos z];obtain⟨j,hj⟩:=Nat.le.dest z;rw[<- hj,Nat.add_sub_cancel_left,Int.natCast_add,Int.mul_add];simp
   ·rw[if_neg z,show l i=0 by lia];simp
  rw[e];lia
theorem iz{D:Nat}{l:Nat->Nat}(hl:∀ i,i < n->l i<=D):sN (fun i=>2 ^ D - 2 ^ (D - l i)) n+sN (fun i=>2 ^ (D - l i)) n=n*2 ^ D:=by
 rw[<- fY,cu (g:=fun _=>2 ^ D) fun i _=>?_]
 ·clear hl
  induction n with
  | zero=>simp[sN]
  | succ n ih=>simp only[sN,ih];rw[Nat.succ_mul]
 ·exact Nat.sub_add_cancel (Nat.pow_le_pow_right (by decide) (Nat.sub_le _ _))
def dB(c:Nat->Int)(n D i:Nat):Nat:=(th ((shelf c n D).take (2*n - 2))).count i
theorem qA(hc:∀ i,i < n->0<=c i){D:Nat}(hn:2<=n)(hD:n<=2 ^ D):
  (∀ i,dB c n D i<=D)/\(∀ i,i < n->1<=dB c n D i)/\sN (fun i=>2 ^ (D - dB c n D i)) n<=2 ^ D/\wt ((shelf c n D).take (2*n - 2))=sI (fun i=>c i*(dB c n D i:Int)) n:=by
 have hp:(shelf c n D).Perm ((shelf c n D).take (2*n - 2)++(shelf c n D).drop (2*n - 2)):=by rw[List.take_append_drop]
 obtain⟨w1,w2⟩:=worth D _ _ hp;have hk:(2*n - 2)*2 ^ D<=2*sN (fun _=>2 ^ D - 2 ^ (D - D)) n:=by
  have this:sN (fun _=>2 ^ D - 2 ^ (D - D)) n+sN (fun _=>2 ^ (D - D)) n=n*2 ^ D:=iz (n:=n) (D:=D) (l:=fun _=>D) fun _ _=>Nat.le_refl _;have e:∀ m,sN (fun _=>2 ^ (D - D)) m=m:=fun m=>by
   rw[cu (g:=fun _=>1) fun i _=>by simp]
   induction m with
   | zero=>rfl
   | succ n ih=>simp only[sN,ih]
  rw[e] at this;clear e;have h2:(2*n - 2)*2 ^ D=2*(n*2 ^ D) - 2*2 ^ D:=by rw[Nat.sub_mul,Nat.mul_assoc]
  rw[h2];lia
 have hlen:=(least hc D (fun _=>D) (fun _ _=>Nat.le_refl _) _ hk).1;have e1:((shelf c n D).take (2*n - 2)).length=2*n - 2:=by rw[List.length_take];lia
 rw[e1] at w2;have w3:=iz (n:=n) (D:=D) (l:=dB c n D) fun i _=>w1 i;have w2':(2*n - 2)*2 ^ D<=2*sN (fun i=>2 ^ D - 2 ^ (D - dB c n D i)) n:=w2;have h2:(2*n - 2)*2 ^ D=2*(n*2 ^ D) - 2*2 ^ D:=by rw[Nat.sub_mul,Nat.mul_assoc]
 have hks:sN (fun i=>2 ^ (D - dB c n D i)) n<=2 ^ D:=by
  have:n*2 ^ D >= 1*2 ^ D:=Nat.mul_le_mul_right _ (by lia)
  lia
 refine⟨w1,fun i hi=>?_,hks,?_⟩
 ·rcases Nat.eq_zero_or_pos (dB c n D i) with z | z
  ·exfalso
   have hpos:∀ j,1<=2 ^ (D - dB c n D j):=fun j=>Nat.pow_pos (by decide)
   obtain⟨j,hj,hji⟩:∃ j,j < n/\j≠i:=if h:i=0 then ⟨1,by lia,by lia⟩ else ⟨0,by lia,by lia⟩
   have:sN (fun k=>(if i=k then 2 ^ D else 0)+if j=k then 1 else 0) n<=sN (fun i=>2 ^ (D - dB c n D i)) n:=uj fun k hk=>by
    by_cases a:i=k
    ·subst a;rw[if_pos rfl,if_neg hji,z];simp
    ·rw[if_neg a];have:=hpos k;by_cases b:j=k
     ·rw[if_pos b];lia
     ·rw[if_neg b];lia
   rw[fY,kh,if_pos hj] at this;have e:sN (fun k=>if i=k then 2 ^ D else 0) n=2 ^ D:=by
    rw[cu (g:=fun k=>2 ^ D*if i=k then 1 else 0) fun k _=>by by_cases a:i=k<;>simp[a],ko,kh,if_pos hi,Nat.mul_one]
   rw[e] at this;lia
  ·exact z
 ·have hw:=zu (X:=(shelf c n D).take (2*n - 2)) fun x hx=>mx (c:=c) (n:=n) D x (List.mem_of_mem_take hx);rw[hw.1,lY hw.2];rfl
theorem i8(hc:∀ i,i < n->0<=c i){D:Nat}(hn:1<=n){l:Nat->Nat}(hl:∀ i,i < n->l i<=D)(hk:sN (fun i=>2 ^ (D - l i)) n<=2 ^ D):wt ((shelf c n D).take (2*n - 2))<=sI (fun i=>c i*(l i:Int)) n:=by
 refine (least hc D l hl (2*n - 2) ?_).2;have:=iz hl;have h2:(2*n - 2)*2 ^ D=2*(n*2 ^ D) - 2*2 ^ D:=by rw[Nat.sub_mul,Nat.mul_assoc]
 rw[h2];lia
end Pm
def cV(s:T):Prop:=∃ n f c m:Int,s=.lst [.int n,.int f,.int c,.int m]
theorem cV.flat{s:T}(h:cV s):fw s=true:=by obtain⟨n,f,c,m,rfl⟩:=h;rfl
def fm:fc:=fun args Q=>∃ (s:T) (k:Int),args=[s,.int k]/\cV s/\0 < k/\k < 2 ^ 60/\∀ (v:Int) (s':T),cV s'->0<=v->v < k->Q (.tr (.int v)) [s']
theorem wW(T:Txt K mg)(F:HasFn K mg "_law_draw" bt ["seed","most"]):ai P w K mg base bT 1 "_law_draw" ["seed","most"] (spT K [true,false] fm):=by
 refine F.mR cM [true,false] rfl (by decide) (fun args Qt hl h f cdv A outer s H E hr=>?_)
 have hu:=bZ hr;obtain⟨sd,k,rfl,⟨n,fl,c,m,rfl⟩,k0,k1,q⟩:=h;refine⟨_,(Y.ah (Y.asg (Y.op (Y.aP K rfl) Y.aN (Y.ix (Y.cA K rfl) Y.aS (Y.vS 0) Y.int) Y.int) (Y.mH (Y.vS 0) Y.int))
   (Y.ah (Y.fM (Y.tw (Y.xo (Y.bS (Y.cf K rfl (Nat.lt_of_succ_lt hu)) Y.dA (Y.ix (Y.cA K rfl) Y.aS (Y.vS 0) Y.int) Y.int) (Y.pE (Y.bS pB Y.dO (Y.ix (Y.cA K rfl) Y.aS (Y.vS 0) Y.int) Y.int)))) (Y.ah (Y.set (i:=2) cM.nd rfl (by walk_at "lc") (Y.op dH Y.bK (Y.ix (Y.cA K rfl) Y.aS (Y.vS 0) Y.int) (Y.vS 1)))
   (Y.ah (Y.asg (Y.op Y.dv Y.bK (Y.ix (Y.cA K rfl) Y.aS (Y.vS 0) Y.int) (Y.vS 1)) (Y.mH (Y.vS 0) Y.int))
   (Y.aG (Y.ret (Y.vS 2))))) Y.cB)
   (Y.ah (Y.set (i:=3) cM.nd rfl (by walk_at "lc") (Y.op dH Y.bK (Y.op (Y.b8 K rfl) Y.bo (Y.op (Y.aP K rfl) Y.aN (Y.op (Y.aP K rfl) Y.aN (Y.ix (Y.cA K rfl) Y.aS (Y.vS 0) Y.int) (Y.op (Y.b8 K rfl) Y.bo Y.int (Y.ix (Y.cA K rfl) Y.aS (Y.vS 0) Y.int))) Y.int) Y.int) Y.int))
   (Y.ah (Y.set (i:=3) cM.nd rfl (by walk_at "lc") (Y.op dH Y.bK (Y.op (Y.b8 K rfl) Y.bo (Y.op dH Y.bK (Y.op (Y.b8 K rfl) Y.bo (Y.vS 3) (Y.vS 3)) Y.int) Y.int) Y.int))
   (Y.aG (Y.ret (Y.op dH Y.bK (Y.op Y.dv Y.bK (Y.vS 3) Y.int) (Y.vS 1)))))))),?_⟩
 have fin:∀ v n c:Int,Qt (.tr (.int (v % k))) [.lst [.int n,.int fl,.int c,.int m]]:=fun v n c=>q _ _ ⟨_,_,_,_,rfl⟩ (Int.emod_nonneg _ (by lia)) (Int.emod_lt_of_pos _ k0)
 have x0:kW 4 0=some 0:=by decide
 have x2:kW 4 2=some 2:=by decide
 refine aq fun N hN=>?_;wp_walk using x2;refine hN _ ?_;clear hN N;refine aq fun N hN=>?_;wp_walk using x0;by_cases h1:fl=1
 ·by_cases h2:0 < n
  ·wp_walk using if_pos h1,if_pos h2;refine aq fun M hM=>?_;walk_at "rt";refine⟨k0,?_⟩;refine hM _ ?_;clear hM M;refine aq fun M hM=>?_;wp_walk using x0;refine⟨⟨k0,by lia⟩,?_⟩
   refine hM _ ?_;clear hM M;walk_at "rt";exact fin _ _ _
  ·wp_walk using if_pos h1,if_neg h2;refine hN _ ?_;clear hN N;have m1:∀ a:Int,0<=a % 2147483647/\a % 2147483647 < 2147483647:=fun a=>⟨by lia,by lia⟩
   refine aq fun N hN=>?_;walk_at "rt";refine⟨.inl (by decide),.inr (by decide),by decide,?_⟩
   refine hN _ ?_;clear hN N;refine aq fun N hN=>?_;walk_at "rt";refine⟨.inl ⟨by have:=m1 ((m+6997*(c+1)+11)*48271);lia,by have:=m1 ((m+6997*(c+1)+11)*48271);lia⟩,by decide,.inr (by decide),by decide,?_⟩
   refine hN _ ?_;clear hN N;walk_at "rt";exact⟨⟨by decide,by decide⟩,k0,fin _ _ _⟩
 ·wp_walk using if_neg h1;refine hN _ ?_;clear hN N;have m1:∀ a:Int,0<=a % 2147483647/\a % 2147483647 < 2147483647:=fun a=>⟨by lia,by lia⟩
  refine aq fun N hN=>?_;walk_at "rt";refine⟨.inl (by decide),.inr (by decide),by decide,?_⟩
  refine hN _ ?_;clear hN N;refine aq fun N hN=>?_;walk_at "rt";refine⟨.inl ⟨by have:=m1 ((m+6997*(c+1)+11)*48271);lia,by have:=m1 ((m+6997*(c+1)+11)*48271);lia⟩,by decide,.inr (by decide),by decide,?_⟩
  refine hN _ ?_;clear hN N;walk_at "rt";exact⟨⟨by decide,by decide⟩,k0,fin _ _ _⟩
def nI:List Int->List L2.T:=List.map L2.T.int
theorem bN(xs:List Int):(nI xs).length=xs.length:=List.length_map ..
theorem kg(xs ys:List Int):nI (xs++ys)=nI xs++nI ys:=List.map_append
def Fe(ls:List Int):Prop:=0 < ls.length/\ls.length<=20/\∀ x∈ls,1<=x/\x<=40
def KS(ls:List Int):Nat:=Kr.ks 40 (ls.map Int.toNat)
def wx(ls:List Int):Bool:=decide (KS ls<=2 ^ 40)
def zt:fc:=fun args Q=>∃ c:Int,args=[.int c]/\∀ s,cV s->Q (.fr s) []
theorem xU(T:Txt K mg)(F:HasFn K mg "_law_seed" bw ["cell"]):ai P w K mg base bT 1 "_law_seed" ["cell"] (spT K [false] zt):=by
 refine F.mR fk [false] rfl (by decide) (fun args Qt hl h f cdv A outer s H E hr=>?_)
 have hu:=bZ hr;obtain⟨c,rfl,q⟩:=h;refine⟨_,(Y.ah (Y.set (i:=1) fk.nd rfl (by walk_at "lc") (Y.cb (qG rfl) Y.AF rfl T.CD (by decide +kernel) (Y.cons (Y.vS 0) (Y.cons (Y.op cG Y.bV Y.int (Y.vS 0)) Y.nil))))
   (Y.aG (Y.ret (Y.lst (Y.cons (Y.vS 1) (Y.cons (Y.ct jE Y.t6 rfl T.sQ (by decide +kernel) (Y.cons (Y.cmp tW Y.dO (Y.vS 1) (Y.op uL Y.bK Y.int Y.int)) Y.nil)) (Y.cons Y.int (Y.cons (Y.op dH Y.bK (Y.vS 0) Y.int) Y.nil)))))))),?_⟩
 refine aq fun N hN=>?_;walk_at "rt";refine hN _ ?_;clear hN N;walk_at "rt";exact⟨⟨by decide,by decide,by decide⟩,by decide,by decide,q _ ⟨_,_,_,_,rfl⟩⟩
def zz:fc:=fun args Q=>∃ (c:L2.T) (ls:List Int),args=[c]/\(c=.tup (nI ls)\/c=.lst (nI ls))/\Fe ls/\Q (.tr (.bl (wx ls))) []
theorem AX(T:Txt K mg)(F:HasFn K mg "can_be" cc ["lengths"]):ai P w K mg base bT 1 "can_be" ["lengths"] (spT K [false] zz):=by
 refine F.mR bP [false] rfl (by decide) (fun args Qt hl h f cdv A outer s H E hr=>?_)
 have hu:=bZ hr;obtain⟨c,ls,rfl,hc,hL,q⟩:=h;have hlen:my c=Ou.ok (.tr (.int (ls.length:Int))):=by rcases hc with rfl | rfl<;>(rw[<- bN ls];rfl)
 have hsrt:∀ (μ:Mu) (Q:R->Mu->Prop),Y.ni c μ Q=(∃ ns:List Int,nI ls=ns.map L2.T.int/\ns.length < 64/\∀ ns':List Int,ns'.Perm ns->ns'.Pairwise (·<=·)->Q (.fr (.lst (ns'.map L2.T.int))) μ):=fun μ Q=>by rcases hc with rfl | rfl<;>rfl
 refine⟨_,(Y.ah (Y.set (i:=1) bP.nd rfl (by walk_at "lc") Y.int)
   (Y.ah (Y.set (i:=2) bP.nd rfl (by walk_at "lc") Y.int)
   (Y.ah (Y.set (i:=3) bP.nd rfl (by walk_at "lc") (Y.cb (Y.aZ K rfl) Y.bI rfl T.dq (by decide +kernel) (Y.cons (Y.vS 0) Y.nil)))
   (Y.ah (Y.dQ PassesOwn.never rfl (Y.anyS K rfl (Y.cb (Y.iN K rfl) Y.lG rfl T.ia (by decide +kernel) (Y.cons (Y.vS 0) Y.nil))) (Y.aR (i:=4) bP.nd rfl (by walk_at "lc")) (Y.ah (Y.fM (Y.bS (Y.cf K rfl (Nat.lt_of_succ_lt hu)) Y.dA (Y.vS 1) Y.int) (Y.aG (Y.ret Y.bl)) Y.cB)
   (Y.ah (Y.iF PassesOwn.never (Y.tw (Y.xo (Y.bS mL Y.dO (Y.vS 2) (Y.vS 4)) (Y.pE (Y.bS mL Y.dO (Y.vS 1) (Y.vS 3))))) (Y.ah (Y.set (i:=1) bP.nd rfl (by walk_at "lc") (Y.op (Y.b8 K rfl) Y.bo (Y.vS 1) Y.int))
   (Y.aG (Y.set (i:=2) bP.nd rfl (by walk_at "lc") (Y.op (Y.aP K rfl) Y.aN (Y.vS 2) Y.int)))))
   (Y.ah (Y.fM (Y.bS tW Y.dO (Y.vS 1) (Y.vS 3)) (Y.aG (Y.ret Y.bl)) Y.cB)
   (Y.ah (Y.set (i:=1) bP.nd rfl (by walk_at "lc") (Y.op cG Y.bV (Y.vS 1) Y.int))
   (Y.aG (Y.set (i:=3) bP.nd rfl (by walk_at "lc") (Y.op cG Y.bV (Y.vS 3) Y.int))))))))
   (Y.aG (Y.ret Y.bl)))))),?_⟩
 refine aq fun N hN=>?_;walk_at "rt";refine hN _ ?_;clear hN N;refine aq fun N hN=>?_;walk_at "rt";refine hN _ ?_;clear hN N;refine aq fun N hN=>?_;wp_walk using hlen;refine hN _ ?_;clear hN N;refine aq fun N hN=>?_;wp_walk using hsrt;refine⟨ls,rfl,by have:=hL.2.1;lia,fun rs hp hs=>?_⟩
 refine bR (fun rest μ=>∃ (r:List Int) (f d n:Int) (s4:Option L2.T),rest=nI r/\r.Pairwise (·<=·)/\(∀ x∈r,1<=x/\x<=40/\d<=x)/\0<=f/\0<=d/\n=r.length/\(wx ls=true ↔ Kr.fit (r.map Int.toNat) f.toNat d.toNat 40)/\μ=[.tr c,.tr (.int f),.tr (.int d),.tr (.int n),sl s4])
  ⟨rs,1,0,_,none,rfl,hs,fun x hx=>by have:=hL.2.2 x (hp.mem_iff.mp hx);lia,by decide,by decide,by rw[hp.length_eq],?_,rfl⟩ ?_ ?_
 ·unfold wx KS Kr.fit;rw[decide_eq_true_eq,Kr.xI (hp.map Int.toNat),show (1:Int).toNat*2 ^ (40 - (0:Int).toNat)=2 ^ 40 from rfl]
 ·rintro μ ⟨r,f,d,n,s4,e,_,_,_,_,_,hi,rfl⟩
  cases r with
  | cons=>cases e
  | nil =>
   show N _;refine hN _ ?_;clear hN N;walk_at "rt";have:wx ls=true:=hi.mpr (Nat.zero_le _);rw[this] at q;exact q
 ·rintro t ts μ M ⟨r,f,d,n,s4,e,hs,hx,f0,d0,hn,hi,rfl⟩ k
  cases r with
  | nil=>cases e
  | cons l r =>
   cases e;obtain⟨hl1,hl2,hl3⟩:=hx l (by simp)
   have hle:∀ x∈r,l<=x:=(List.pairwise_cons.mp hs).1;walk_at "rt";refine aq fun M' hM=>?_;by_cases hf:f=0
   ·wp_walk using if_pos hf;have:wx ls=false:=by
     cases c:wx ls with
     | false=>rfl
     | true=>have:=hi.mp c;rw[hf] at this;exact absurd this Kr.sV
    rw[this] at q;exact q
   ·wp_walk using if_neg hf;refine hM _ ?_;clear hM M';refine aq fun M' hM=>?_;have after:∀ f d:Int,0 < f->0<=d->d<=l->(d=l\/n<=f)->(wx ls=true ↔ Kr.fit ((l::r).map Int.toNat) f.toNat d.toNat 40)->M' [.tr c,.tr (.int f),.tr (.int d),.tr (.int n),.tr (.int l)]:=fun f d f0 d0 dl hc hi=>by
     refine hM _ ?_;clear hM M';refine aq fun M' hM=>?_;by_cases h3:n<=f
     ·wp_walk using if_pos h3;have:wx ls=true:=hi.mpr (Kr.mZ (fun x hx=>by
       obtain⟨y,hy,rfl⟩:=List.mem_map.mp hx;rcases List.mem_cons.mp hy with rfl | hy
       ·lia
       ·have:=hle y hy;lia) (by rw[List.length_map];lia))
      rw[this] at q;exact q
     ·wp_walk using if_neg h3;refine hM _ ?_;clear hM M';refine aq fun M' hM=>?_;walk_at "rt";refine hM _ ?_;clear hM M';walk_at "rt";have hd:d=l:=hc.resolve_right h3;subst hd;refine k _ ⟨r,f - 1,d,n - 1,some _,rfl,(List.pairwise_cons.mp hs).2,fun x hx'=>⟨(hx x (by simp[hx'])).1,(hx x (by simp[hx'])).2.1,hle x hx'⟩,by lia,d0,by rw[hn,List.length_cons];lia,?_,rfl⟩
      rw[hi,List.map_cons,Kr.tX (by lia),show (f - 1).toNat=f.toNat - 1 by lia]
    refine⟨fun m μ=>∃ f d:Int,0 < f/\0<=d/\d<=l/\m=(l - d).toNat/\(wx ls=true ↔ Kr.fit ((l::r).map Int.toNat) f.toNat d.toNat 40)/\μ=[.tr c,.tr (.int f),.tr (.int d),.tr (.int n),.tr (.int l)],⟨_,f,d,by lia,d0,hl3,rfl,hi,rfl⟩,?_⟩
    rintro m μ ⟨f,d,f0,d0,dl,rfl,hi,rfl⟩;by_cases c1:d < l
    ·by_cases c2:f < n
     ·wp_walk using if_pos c1,if_pos c2;refine aq fun M2 h2=>?_;walk_at "rt";refine⟨.inr (by decide),?_⟩
      refine h2 _ ?_;clear h2 M2;walk_at "rt";refine⟨_,?_,f*2,d+1,by lia,by lia,by lia,rfl,?_,rfl⟩
      ·lia
      ·rw[hi,Kr.nW (l:=l.toNat) (by lia) (by lia),show (f*2).toNat=f.toNat*2 by lia,show (d+1).toNat=d.toNat+1 by lia]
       exact Iff.rfl
     ·wp_walk using if_pos c1,if_neg c2;exact after f d f0 d0 dl (.inr (by lia)) hi
    ·wp_walk using if_neg c1;exact after f d f0 d0 dl (.inl (by lia)) hi
def nN(l:List Nat):List L2.T:=l.map fun i:Nat=>L2.T.int (i:Int)
theorem f_(l:List Nat):(nN l).length=l.length:=List.length_map ..
theorem oz(a b:List Nat):nN (a++b)=nN a++nN b:=List.map_append
def wN(x:Pm.It):L2.T:=.tup [.int x.1,.lst (nN x.2)]
def iT(X:List Pm.It):List L2.T:=X.map wN
theorem iX(X:List Pm.It):(iT X).length=X.length:=List.length_map ..
theorem nM(X Y:List Pm.It):iT (X++Y)=iT X++iT Y:=List.map_append
theorem oU{α β:Type}(f:α->β)(ks:List Int)(l:List α):eJ ks (l.map f)=(eJ ks l).map f:=by
 have e:∀ m:List α,Paired (fun (b:β) (a:α)=>b=f a) (m.map f) m:=fun m=>by
  induction m with
  | nil=>exact .nil
  | cons x m ih=>exact .cons rfl ih
 have h:=gM (ks:=ks) (e l);generalize eJ ks (l.map f)=u at h;generalize eJ ks l=v at h
 induction h with
 | nil=>rfl
 | cons a b ih=>rw[a,ih];rfl
def vo:wK:=fun args Q _=>∃ X:List Pm.It,args=[.lst (iT X)]/\X.length < 64/\Q (.fr (.lst (iT (Pm.Cn X)))) []
theorem ur(T:Txt K mg)(F:HasFn K mg "by_worth" bE ["shelf"]):ai P w K mg base (oR P w) 4 "by_worth" ["shelf"] (wI K [false] vo):=by
 obtain⟨c,Pt,htab,hcc⟩:=T.j_.ex;refine F.C6 mO [false] rfl rfl (by decide) (fun args Qt Et hl h f cdv A outer s H E hr hcd=>?_)
 have:=hcc _ _ hcd;subst this;have hu:=bZ hr;obtain⟨X,rfl,hX,q⟩:=h;refine⟨_,(Y.lB (Y.zd (Y.ret (Y.sortI (k:=0) K rfl (by decide) htab rfl rfl rfl rfl rfl T.ia (Y.cons (Y.vS 0) Y.nil) (hr.mono (by decide)) rfl rfl rfl (fun _ _ _ _=>rfl))))),?_⟩
 walk_at "rt";refine⟨X.map fun x=>x.1,?_,by rw[iX];exact hX,?_⟩
 ·unfold iT;rw[List.map_map,List.map_map];rfl
 ·unfold iT;rw[oU];exact q
def sv:List Pm.It->List (Pm.It×Pm.It)
 | a::b::r=>(a,b)::sv r
 | _=>[]
theorem pX:∀ X:List Pm.It,ee (jc (iT X)) (jc ((iT X).drop 1))=(sv X).map fun p=>L2.T.tup [wN p.1,wN p.2]
 | []=>rfl
 | [a]=>rfl
 | [a,b]=>rfl
 | a::b::c::r=>by
  have ih:=pX (c::r);show L2.T.tup [wN a,wN b]::ee (jc (iT (c::r))) (jc ((iT (c::r)).drop 1))=_;rw[ih];rfl
theorem vU:∀ X:List Pm.It,Pm.pk X=(sv X).map fun p=>(p.1.1+p.2.1,p.1.2++p.2.2)
 | []=>by simp[sv,Pm.pk]
 | [a]=>by simp[sv,Pm.pk]
 | a::b::r=>by rw[Pm.pk,sv,List.map_cons,vU r]
theorem wz:∀ {X:List Pm.It} {p:Pm.It×Pm.It},p∈sv X->p.1.2.length+p.2.2.length<=(Pm.th X).length
 | [],p,h=>by cases h
 | [a],p,h=>by cases h
 | a::b::r,p,h=>by
  rw[Pm.bu,Pm.bu,List.length_append,List.length_append];rcases List.mem_cons.mp h with e | e
  ·rw[e];show a.2.length+b.2.length<=_;lia
  ·have:=wz e;lia
theorem qy:∀ X:List Pm.It,(sv X).length<=X.length
 | []=>Nat.le_refl _
 | [_]=>Nat.zero_le _
 | a::b::r=>by
  have:=qy r;unfold sv;simp only[List.length_cons];lia
def tS:fc:=fun args Q=>∃ X:List Pm.It,args=[.lst (iT X)]/\X.length<=64/\(Pm.th X).length<=1000/\Q (.fr (.lst (iT (Pm.pk X)))) []
theorem v5(T:Txt K mg)(F:HasFn K mg "packs_of" b6 ["shelf"]):ai P w K mg base bT 1 "packs_of" ["shelf"] (spT K [false] tS):=by
 refine F.mR lP [false] rfl (by decide) (fun args Qt hl h f cdv A outer s H E hr=>?_)
 have hu:=bZ hr;obtain⟨X,rfl,hX,ht,q⟩:=h;refine⟨_,(Y.aG (Y.ret (Y.zo K rfl (osc:=aa b6) (ON:=["shelf"]) (own:=["one","other"]) (N:=["one","other","shelf"]) ⟨rfl,by decide +kernel,rfl,by decide +kernel,by decide +kernel,by decide +kernel,by decide +kernel,by decide +kernel⟩ rfl rfl rfl rfl (Y.zip K rfl rfl T.j4 (Y.cons (Y.dZ K rfl 0 rfl (Y.vS 0)) (Y.cons (Y.dZ K rfl 1 rfl (Y.vS 0)) Y.nil))) (fun _ _ _ _=>(Z.mS (n:=2) K rfl rfl (Z.b9 (Z.aR (i:=0) (show List.Nodup (["one","other","shelf"]:List Str) by decide +kernel) rfl (by walk_at "lc")) (Z.b9 (Z.aR (i:=1) (show List.Nodup (["one","other","shelf"]:List Str) by decide +kernel) rfl (by walk_at "lc")) Z.dS)))) (fun _ _ _ _=>Y.sC) (fun _ _ _ _=>(Y.tup (Y.cons (Y.op (Y.aP K rfl) Y.aN (Y.ix (Y.cA K rfl) Y.aS (Y.vS 0) Y.int) (Y.ix (Y.cA K rfl) Y.aS (Y.vS 1) Y.int)) (Y.cons (Y.op (Y.aP K rfl) Y.aN (Y.ix (Y.cA K rfl) Y.aS (Y.vS 0) Y.int) (Y.ix (Y.cA K rfl) Y.aS (Y.vS 1) Y.int)) Y.nil))))))),?_⟩
 walk_at "rt";rw[List.drop_zero,pX];refine dn (fun rest acc μ=>∃ (done todo:List (Pm.It×Pm.It)),done++todo=sv X/\(rest=todo.map fun p=>L2.T.tup [wN p.1,wN p.2])/\acc=iT (done.map fun p=>(p.1.1+p.2.1,p.1.2++p.2.2))/\μ=[.tr (.lst (iT X))]) ⟨[],sv X,rfl,rfl,rfl,rfl⟩ ?_ ?_
 ·rintro acc μ ⟨done,todo,e1,e2,rfl,rfl⟩;have e3:todo=[]:=by simpa using e2.symm
  subst e3;rw[List.append_nil] at e1;refine⟨trivial,?_⟩;rw[vU,<- e1] at q;exact q
 ·rintro t r acc μ M ⟨done,todo,e1,e2,rfl,rfl⟩ k
  cases todo with
  | nil=>cases e2
  | cons p todo =>
   obtain⟨rfl,rfl⟩:=List.cons.inj e2;have hm:p∈sv X:=by rw[<- e1];simp
   have h1:=wz hm;have h2:=qy X;rw[<- e1,List.length_append] at h2;refine⟨trivial,by rw[iX,List.length_map];exact Nat.lt_of_le_of_lt (show _<=64 by lia) (by decide),?_⟩
   obtain⟨⟨w1,t1⟩,w2,t2⟩:=p;unfold wN;have a0:∀ (v:Int) (l:List Nat),bX [L2.T.int v,.lst (nN l)] 0=some (.int v):=fun v l=>rfl;have a1:∀ (v:Int) (l:List Nat),bX [L2.T.int v,.lst (nN l)] 1=some (.lst (nN l)):=fun v l=>rfl;wp_walk using a0,a1;refine⟨by rw[f_,f_];exact Nat.le_trans (show _<=1000 by have:t1.length+t2.length<=_:=h1;lia) (by decide),by decide,k _ _ ⟨done++[((w1,t1),(w2,t2))],todo,by rw[<- e1];simp,rfl,?_,rfl⟩⟩
   rw[List.map_append,nM,<- oz];rfl
theorem zw:∀ A:List Pm.It,(Pm.th (Pm.pk A)).length<=(Pm.th A).length
 | []=>by simp[Pm.pk]
 | [a]=>by simp[Pm.pk,Pm.th]
 | a::b::r=>by
  have:=zw r;rw[Pm.pk,Pm.bu,Pm.bu,Pm.bu];simp only[List.length_append];lia
theorem gj(c:Nat->Int){n:Nat}(hn:1<=n):∀ d,(Pm.shelf c n d).length<=2*n - 1
 | 0=>Nat.zero_le _
 | d+1=>by
  have:=gj c hn d;rw[Pm.shelf,(Pm.cP _).length_eq,List.length_append,Pm.kD];unfold Pm.coins;rw[List.length_map,List.length_range];lia
theorem iq(c:Nat->Int)(n:Nat):∀ d,(Pm.th (Pm.shelf c n d)).length<=n*d
 | 0=>Nat.le_refl _
 | d+1=>by
  have h1:=iq c n d;have h2:=zw (Pm.shelf c n d);rw[Pm.shelf,(Pm.gQ (Pm.cP _)).length_eq,Pm.fR,List.length_append,Pm.lS,List.length_range,Nat.mul_succ];lia
def cQ(cs:List Int)(i:Nat):Int:=cs.getD i 0
theorem xq(cs:List Int):pairs (nI cs)=(List.range' 0 cs.length).map fun i:Nat=>L2.T.tup [.int (i:Int),.int (cQ cs i)]:=by
 unfold pairs;rw[bN,<- List.range_eq_range'];refine List.map_congr_left fun i hi=>?_;have h:=List.mem_range.mp hi;unfold nI cQ;rw[List.getElem?_map,List.getElem?_eq_getElem h,List.getD_eq_getElem?_getD,List.getElem?_eq_getElem h];rfl
theorem mY(c:Nat->Int)(i:Nat):Pm.coins c (i+1)=Pm.coins c i++[(c i,[i])]:=by
 unfold Pm.coins;rw[List.range_succ,List.map_append];rfl
def pV:wK:=fun args Q _=>∃ (cs:List Int) (b:Nat),args=[.tup (nI cs),.int (b:Int)]/\2<=cs.length/\cs.length<=20/\1<=b/\b<=40/\Q (.fr (.lst (nN (Pm.th ((Pm.shelf (cQ cs) cs.length b).take (2*cs.length - 2)))))) []
theorem r_(T:Txt K mg)(F:HasFn K mg "chosen_things" az ["counts","bound"])(hby_worth:ai P w K mg base (oR P w) 4 "by_worth" ["shelf"] (wI K [false] vo))(hpacks_of:ai P w K mg base bT 1 "packs_of" ["shelf"] (spT K [false] tS)):
  ai P w K mg base (oR P w) 5 "chosen_things" ["counts","bound"] (wI K [false,false] pV):=by
 refine F.G5 aU [false,false] rfl rfl (by decide) (fun args Qt Et hl h f cdv A outer s H E hr=>?_)
 have hu:=bZ hr;obtain⟨cs,b,rfl,hn2,hn,hb1,hb,q⟩:=h;refine⟨_,(Y.dI (Y.zd (Y.BJ (j:=2) K rfl aU.nd rfl (by walk_at "lc") (osc:=aa az) (ON:=["counts","bound","coins","shelf","depth","chosen","item"]) (own:=["thing","count"]) (N:=["thing","count","counts","bound","coins","shelf","depth","chosen","item"]) ⟨rfl,by decide +kernel,rfl,by decide +kernel,by decide +kernel,by decide +kernel,by decide +kernel,by decide +kernel⟩ rfl rfl rfl rfl (Y.enum K rfl rfl T.lI (Y.cons (Y.vS 0) Y.nil)) (fun _ _ _ _=>(Z.mS (n:=2) K rfl rfl (Z.b9 (Z.aR (i:=0) (show List.Nodup (["thing","count","counts","bound","coins","shelf","depth","chosen","item"]:List Str) by decide +kernel) rfl (by walk_at "lc")) (Z.b9 (Z.aR (i:=1) (show List.Nodup (["thing","count","counts","bound","coins","shelf","depth","chosen","item"]:List Str) by decide +kernel) rfl (by walk_at "lc")) Z.dS)))) (fun _ _ _ _=>Y.sC) (fun _ _ _ _=>(Y.tup (Y.cons (Y.vS 1) (Y.cons (Y.lst (Y.cons (Y.vS 0) Y.nil)) Y.nil))))))
   (Y.dI (Y.yX (i:=3) aU.nd rfl (by walk_at "lc") (Y.Fm K rfl hby_worth (hr.mono (by decide)) rfl rfl (Y.cons (Y.vS 2) Y.nil)))
   (Y.dI (Y.CF PassesOwn.leaving rfl (Y.BQ rfl T.cF (Y.cons Y.int (Y.cons (Y.vS 1) Y.nil))) (Y.aR (i:=4) aU.nd rfl (by walk_at "lc")) (Y.lB (Y.yX (i:=3) aU.nd rfl (by walk_at "lc") (Y.Fm K rfl hby_worth (hr.mono (by decide)) rfl rfl (Y.cons (Y.op (Y.aP K rfl) Y.aN (Y.vS 2) (Y.fn K rfl hpacks_of (hr.mono (by decide)) rfl aH (Y.cons (Y.vS 3) Y.nil))) Y.nil)))))
   (Y.dI (Y.zd (Y.set (i:=5) aU.nd rfl (by walk_at "lc") (Y.lst Y.nil)))
   (Y.dI (Y.zd (Y.dQ PassesOwn.leaving rfl (Y.anyS K rfl (Y.iM K rfl (Y.vS 3) Y.AY (Y.Bg (Y.op cG Y.bV (Y.op (Y.b8 K rfl) Y.bo Y.int (Y.cb (Y.aZ K rfl) Y.bI rfl T.dq (by decide +kernel) (Y.cons (Y.vS 0) Y.nil))) Y.int)))) (Y.aR (i:=6) aU.nd rfl (by walk_at "lc")) (Y.aG (Y.expr (Y.bm K rfl PySem.F.slot_list_extend PySem.F.type_list_extend Y.A_ Y.B9 (Y.vS 5) (Y.cons (Y.ix (Y.cA K rfl) Y.aS (Y.vS 6) Y.int) Y.nil))))))
   (Y.lB (Y.zd (Y.ret (Y.vS 5))))))))),?_⟩
 refine kA fun N hN=>?_;walk_at "rt";rw[xq];refine dn (fun rest acc μ=>∃ i:Nat,i<=cs.length/\(rest=(List.range' i (cs.length - i)).map fun i:Nat=>L2.T.tup [.int (i:Int),.int (cQ cs i)])/\acc=iT (Pm.coins (cQ cs) i)/\μ=[.tr (.tup (nI cs)),.tr (.int (b:Int)),.un,.un,.un,.un,.un]) ⟨0,Nat.zero_le _,rfl,rfl,rfl⟩ ?_ ?_
 ·rintro acc μ ⟨i,hi,e,rfl,rfl⟩;have hi2:i=cs.length:=by
   have:=congrArg List.length e;rw[List.length_map,List.length_range',List.length_nil] at this;lia
  subst hi2;refine⟨trivial,?_⟩;walk_at "rt";refine hN _ ?_;clear hN N;have e1:Pm.Cn (Pm.coins (cQ cs) cs.length)=Pm.shelf (cQ cs) cs.length 1:=by
   rw[Pm.shelf,Pm.shelf,Pm.pk,List.append_nil];simp
  refine kA fun N hN=>?_;walk_at "rt";have hcl:(Pm.coins (cQ cs) cs.length).length=cs.length:=by unfold Pm.coins;rw[List.length_map,List.length_range]
  refine⟨Pm.coins (cQ cs) cs.length,rfl,by lia,?_⟩
  walk_at "rt";refine hN _ ?_;clear hN N;rw[e1];clear e1;refine kA fun N hN=>?_;walk_at "rt";refine⟨by lia,?_⟩
  have eb:((b:Int) - 1).toNat=b - 1:=by lia
  rw[eb,List.range_eq_range'];refine vF (fun rest μ=>∃ (d:Nat) (o:Option L2.T),d<=b - 1/\(rest=(List.range' d (b - 1 - d)).map fun k:Nat=>L2.T.int (1+(k:Int)))/\μ=[.tr (.tup (nI cs)),.tr (.int (b:Int)),.tr (.lst (iT (Pm.coins (cQ cs) cs.length))),.tr (.lst (iT (Pm.shelf (cQ cs) cs.length (d+1)))),sl o,.un,.un]) ⟨0,none,Nat.zero_le _,rfl,rfl⟩ ?_ ?_
  ·rintro μ ⟨d,o,hd,e,rfl⟩;have hd2:d+1=b:=by
    have:=congrArg List.length e;rw[List.length_map,List.length_range',List.length_nil] at this;lia
   rw[hd2];show N _;refine hN _ ?_;clear hN N;refine kA fun N hN=>?_;walk_at "rt";refine hN _ ?_;clear hN N;refine kA fun N hN=>?_;wp_walk using bN;have ec:((2*(cs.length:Int) - 2))=((2*cs.length - 2:Nat):Int):=by lia
   have h2:=iq (cQ cs) cs.length b;have h3:cs.length*b<=20*40:=Nat.mul_le_mul hn hb;have et:Y.cq (iT (Pm.shelf (cQ cs) cs.length b)) none (some (2*(cs.length:Int) - 2))=iT ((Pm.shelf (cQ cs) cs.length b).take (2*cs.length - 2)):=by
    rw[ec];unfold Y.cq iT;rw[HT.fI,HT.gR,Nat.sub_zero,List.drop_zero,List.length_map,<- List.map_take];congr 1;rw[List.take_eq_take_iff];lia
   rw[et];have ht:(Pm.th ((Pm.shelf (cQ cs) cs.length b).take (2*cs.length - 2))).length<=800:=by
    have e2:Pm.th (Pm.shelf (cQ cs) cs.length b)=Pm.th ((Pm.shelf (cQ cs) cs.length b).take (2*cs.length - 2))++Pm.th ((Pm.shelf (cQ cs) cs.length b).drop (2*cs.length - 2)):=by rw[<- Pm.fR,List.take_append_drop]
    rw[e2,List.length_append] at h2;lia
   refine⟨.inl (by decide),?_⟩
   generalize (Pm.shelf (cQ cs) cs.length b).take (2*cs.length - 2)=Z at ht q ⊢;refine bR (fun rest μ=>∃ (done todo:List Pm.It) (o2:Option L2.T),done++todo=Z/\rest=iT todo/\μ=[.tr (.tup (nI cs)),.tr (.int (b:Int)),.tr (.lst (iT (Pm.coins (cQ cs) cs.length))),.tr (.lst (iT (Pm.shelf (cQ cs) cs.length b))),sl o,.bx (.lst (nN (Pm.th done))),sl o2]) ⟨[],Z,none,rfl,rfl,rfl⟩ ?_ ?_
   ·rintro μ ⟨done,todo,o2,e1,e2,rfl⟩;have e3:todo=[]:=by
     cases todo with
     | nil=>rfl
     | cons=>cases e2
    subst e3;rw[List.append_nil] at e1;subst e1;show N _;refine hN _ ?_;clear hN N;walk_at "rt";exact q
   ·rintro t r μ M ⟨done,todo,o2,e1,e2,rfl⟩ k
    cases todo with
    | nil=>cases e2
    | cons x todo =>
     obtain⟨rfl,rfl⟩:=List.cons.inj e2;have a1:∀ (v:Int) (l:List Nat),bX [L2.T.int v,.lst (nN l)] 1=some (.lst (nN l)):=fun v l=>rfl;have hz:(Pm.th done).length+x.2.length<=800:=by
      rw[<- e1,Pm.fR,Pm.bu] at ht;simp only[List.length_append] at ht;lia
     unfold wN;wp_walk using a1;refine⟨by rw[f_,f_];exact Nat.le_trans hz (by decide),?_⟩
     refine k _ ⟨done++[x],todo,some (.tup [.int x.1,.lst (nN x.2)]),by rw[<- e1];simp,rfl,?_⟩
     rw[Pm.fR,oz];simp only[Pm.th,List.flatMap_cons,List.flatMap_nil,List.append_nil];rfl
  ·rintro t r μ M ⟨d,o,hd,e,rfl⟩ k;have hd2:d < b - 1:=by
    have:=congrArg List.length e;rw[List.length_map,List.length_range',List.length_cons] at this;lia
   rw[show b - 1 - d=(b - 1 - (d+1))+1 by lia,List.range'_succ,List.map_cons] at e
   obtain⟨rfl,rfl⟩:=List.cons.inj e;clear e;have h1:=gj (cQ cs) (n:=cs.length) (by lia) (d+1)
   have h2:=iq (cQ cs) cs.length (d+1);have h3:cs.length*(d+1)<=20*40:=Nat.mul_le_mul hn (by lia)
   walk_at "rt";refine⟨Pm.shelf (cQ cs) cs.length (d+1),rfl,by lia,by lia,?_⟩
   walk_at "rt";have h4:=Pm.kD (Pm.shelf (cQ cs) cs.length (d+1));refine⟨by rw[iX,iX];exact Nat.le_trans (show _<=100 by lia) (by decide),?_⟩
   rw[<- nM];refine⟨_,rfl,by rw[List.length_append];lia,?_⟩
   walk_at "rt";exact k _ ⟨d+1,some _,hd2,rfl,rfl⟩
 ·rintro t r acc μ M ⟨i,hi,e,rfl,rfl⟩ k;have hi2:i < cs.length:=by
   have:=congrArg List.length e;rw[List.length_map,List.length_range',List.length_cons] at this;lia
  rw[show cs.length - i=(cs.length - (i+1))+1 by lia,List.range'_succ,List.map_cons] at e
  obtain⟨rfl,rfl⟩:=List.cons.inj e;clear e;have hl:(iT (Pm.coins (cQ cs) i)).length=i:=by unfold Pm.coins;rw[iX,List.length_map,List.length_range]
  refine⟨trivial,by rw[hl];exact Nat.lt_of_le_of_lt (show i<=20 by lia) (by decide),?_⟩
  walk_at "rt";refine⟨by decide,by decide,k _ _ ⟨i+1,hi2,rfl,?_,rfl⟩⟩
  rw[mY,nM];rfl
def ay(cs:List Int)(b:Nat):List Nat:=if cs.length=1 then [1] else (List.range cs.length).map (Pm.dB (cQ cs) cs.length (min b (cs.length - 1)))
def nv(n:Nat)(b:Int):Bool:=decide (1<=b/\n<=2 ^ b.toNat)
def v_(C:Addr):wK:=fun args Q Et=>∃ (cs:List Int) (b:Int),args=[.tup (nI cs),.int b]/\1<=cs.length/\cs.length<=20/\-40<=b/\b<=40/\((nv cs.length b=true/\Q (.tr (.tup (nN (ay cs b.toNat)))) [])\/(nv cs.length b=false/\Et (.exc (.ref C) none)))
theorem wg(L l:Nat):∀ n,Kr.ks L (List.replicate n l)=n*2 ^ (L - l)
 | 0=>by simp[Kr.ks]
 | n+1=>by rw[List.replicate_succ,Kr.ks,wg L l n,Nat.succ_mul];lia
theorem Ab{n:Nat}{b:Nat}(hb:b<=40):wx (List.replicate n (b:Int))=decide (n<=2 ^ b):=by
 unfold wx KS;rw[List.map_replicate,Int.toNat_natCast,wg];refine decide_eq_decide.mpr ?_;have e:2 ^ 40=2 ^ b*2 ^ (40 - b):=by rw[<- Nat.pow_add,Nat.add_sub_cancel' hb]
 rw[e];exact⟨fun h=>Nat.le_of_mul_le_mul_right h (Nat.pow_pos (by decide)),fun h=>Nat.mul_le_mul_right _ h⟩
theorem Bt(l:List Nat)(i:Nat):(l.map fun k:Nat=>(k:Int)).count (i:Int)=l.count i:=by
 induction l with
 | nil=>rfl
 | cons x l ih =>
  rw[List.map_cons,List.count_cons,List.count_cons,ih];congr 1;by_cases h:x=i
  ·subst h;simp
  ·have:¬ (x:Int)=(i:Int):=by lia
   simp[h,this]
theorem tG(T:Txt K mg)(F:HasFn K mg "least_lengths" aw ["counts","bound"])(hcan_be:ai P w K mg base bT 1 "can_be" ["lengths"] (spT K [false] zz))(hchosen_things:ai P w K mg base (oR P w) 5 "chosen_things" ["counts","bound"] (wI K [false,false] pV))
  {C_NoCode:Addr} (hC_NoCode:mg "NoCode"=some (.ref C_NoCode)) (kC_NoCode:rZ K C_NoCode) :
  ai P w K mg base (oR P w) 6 "least_lengths" ["counts","bound"] (wI K [false,false] (v_ C_NoCode)):=by
 refine F.G5 cD [false,false] rfl rfl (by decide) (fun args Qt Et hl h f cdv A outer s H E hr=>?_)
 have hu:=bZ hr;obtain⟨cs,b,rfl,hn1,hn,hb0,hb,q⟩:=h;refine⟨_,(Y.dI (Y.zd (Y.set (i:=2) cD.nd rfl (by walk_at "lc") (Y.cb (Y.aZ K rfl) Y.bI rfl T.dq (by decide +kernel) (Y.cons (Y.vS 0) Y.nil))))
   (Y.dI (Y.EY (Y.tw (Y.yx (Y.bS mL Y.dO (Y.vS 1) Y.int) (Y.nL (Y.nJ (Y.iy K rfl (Y.fn K rfl hcan_be (hr.mono (by decide)) rfl aH (Y.cons (Y.pW (osc:=aa aw) (ON:=["counts","bound","things","chosen"]) (own:=["count"]) (N:=["count","counts","bound","things","chosen"]) ⟨rfl,by decide +kernel,rfl,by decide +kernel,by decide +kernel,by decide +kernel,by decide +kernel,by decide +kernel⟩ rfl rfl rfl rfl (Y.anyS K rfl (Y.vS 0)) (fun _ _ _ _=>(Z.aR (i:=0) (show List.Nodup (["count","counts","bound","things","chosen"]:List Str) by decide +kernel) rfl (by walk_at "lc"))) (fun _ _ _ _=>Y.sC) (fun _ _ _ _=>(Y.vS 2))) Y.nil))))))) (Y.lB (Y.BU rfl hC_NoCode kC_NoCode rfl rfl (Y.cons (Y.FZ (Y.B5 (Y.D_ (Y.vS 1) (Y.B5 (Y.D_ (Y.vS 2) (Y.B5 Y.Fi)))))) Y.nil))) Y.DN)
   (Y.dI (Y.zd (Y.fM (Y.bS (Y.cf K rfl (Nat.lt_of_succ_lt hu)) Y.dA (Y.vS 2) Y.int) (Y.aG (Y.ret (Y.tup (Y.cons Y.int Y.nil)))) Y.cB))
   (Y.dI (Y.Fj (i:=3) cD.nd rfl (by walk_at "lc") (Y.Fm K rfl hchosen_things (hr.mono (by decide)) rfl rfl (Y.cons (Y.vS 0) (Y.cons (Y.cb (rB rfl) Y.BO rfl T.C5 (by decide +kernel) (Y.cons (Y.vS 1) (Y.cons (Y.op cG Y.bV (Y.vS 2) Y.int) Y.nil))) Y.nil))))
   (Y.lB (Y.zd (Y.ret (Y.ct (Y.dw K rfl) Y.eC rfl T.cK (by decide +kernel) (Y.cons (Y.pW (osc:=aa aw) (ON:=["counts","bound","things","chosen"]) (own:=["thing"]) (N:=["thing","counts","bound","things","chosen"]) ⟨rfl,by decide +kernel,rfl,by decide +kernel,by decide +kernel,by decide +kernel,by decide +kernel,by decide +kernel⟩ rfl rfl rfl rfl (Y.jo rfl T.cF (Y.cons (Y.vS 2) Y.nil)) (fun _ _ _ _=>(Z.aR (i:=0) (show List.Nodup (["thing","counts","bound","things","chosen"]:List Str) by decide +kernel) rfl (by walk_at "lc"))) (fun _ _ _ _=>Y.sC) (fun _ _ _ _=>(Y.bm K rfl PySem.F.slot_list_count PySem.F.type_list_count Y.BS Y.B7 (Y.vS 4) (Y.cons (Y.vS 0) Y.nil)))) Y.nil))))))))),?_⟩
 refine kA fun N hN=>?_;wp_walk using bN;refine hN _ ?_;clear hN N;refine kA fun N hN=>?_;have no:nv cs.length b=false->Et (.exc (.ref C_NoCode) none):=fun h=>by
  rcases q with ⟨z,_⟩ | ⟨_,z⟩
  ·rw[h] at z;cases z
  ·exact z
 by_cases b1:b < 1
 ·wp_walk using if_pos b1;refine⟨Nat.lt_of_le_of_lt (show b.natAbs<=40 by lia) (by decide),Nat.lt_of_le_of_lt (show (cs.length:Int).natAbs<=40 by lia) (by decide),fun _ _=>no ?_⟩
  unfold nv;exact decide_eq_false fun h=>by lia
 ·obtain⟨b,rfl⟩:∃ k:Nat,b=k:=⟨b.toNat,by lia⟩
  wp_walk using if_neg b1;refine dn (fun rest acc μ=>rest.length+acc.length=cs.length/\acc=nI (List.replicate acc.length (b:Int))/\μ=[.tr (.tup (nI cs)),.tr (.int (b:Int)),.tr (.int (cs.length:Int)),.un]) ⟨by rw[bN];rfl,rfl,rfl⟩ ?_ ?_
  ·rintro acc μ ⟨e1,e2,rfl⟩;have e3:acc=nI (List.replicate cs.length (b:Int)):=by rw[<- show acc.length=cs.length by simpa using e1];exact e2
   clear e1 e2;subst e3;refine⟨trivial,?_⟩;walk_at "rt";refine⟨_,_,rfl,.inr rfl,⟨by rw[List.length_replicate];lia,by rw[List.length_replicate];exact hn,fun x hx=>by have:=List.eq_of_mem_replicate hx;lia⟩,?_⟩
   rw[Ab (by lia)]
   have em:nv cs.length (b:Int)=decide (cs.length<=2 ^ b):=by
    unfold nv;rw[Int.toNat_natCast];exact decide_eq_decide.mpr ⟨fun h=>h.2,fun h=>⟨by lia,h⟩⟩
   rw[em] at q no
   cases hm:decide (cs.length<=2 ^ b) with
   | false =>
    walk_at "rt";exact⟨Nat.lt_of_le_of_lt (show (b:Int).natAbs<=40 by lia) (by decide),Nat.lt_of_le_of_lt (show (cs.length:Int).natAbs<=40 by lia) (by decide),fun _ _=>no hm⟩
   | true =>
    have q':Qt (.tr (.tup (nN (ay cs b)))) []:=by
     rcases q with ⟨_,z⟩ | ⟨z,_⟩
     ·exact z
     ·rw[hm] at z;cases z
    clear q no;have hm2:cs.length<=2 ^ b:=of_decide_eq_true hm;walk_at "rt";refine hN _ ?_;clear hN N;refine kA fun N hN=>?_;by_cases h1:cs.length=1
    ·wp_walk using if_pos (show (cs.length:Int)=1 by lia)
     refine⟨by decide,?_⟩
     unfold ay at q';rw[if_pos h1] at q';exact q'
    ·wp_walk using if_neg (show ¬ (cs.length:Int)=1 by lia)
     refine hN _ ?_;clear hN N;refine kA fun N hN=>?_;have eb:(if (cs.length:Int) - 1 < (b:Int) then (cs.length:Int) - 1 else (b:Int))=((min b (cs.length - 1):Nat):Int):=by split<;>lia
     wp_walk using eb;refine⟨cs,min b (cs.length - 1),rfl,by lia,hn,by lia,by lia,?_⟩
     walk_at "rt";refine hN _ ?_;clear hN N;walk_at "rt";refine⟨by lia,by lia,?_⟩
     rw[Int.toNat_natCast,List.range_eq_range'];unfold ay at q';rw[if_neg h1] at q';refine dn (fun rest acc μ=>∃ i:Nat,i<=cs.length/\(rest=(List.range' i (cs.length - i)).map fun k:Nat=>L2.T.int (0+(k:Int)))/\acc=nN ((List.range i).map (Pm.dB (cQ cs) cs.length (min b (cs.length - 1))))/\μ=[.tr (.tup (nI cs)),.tr (.int (b:Int)),.tr (.int (cs.length:Int)),.bx (.lst (nN (Pm.th ((Pm.shelf (cQ cs) cs.length (min b (cs.length - 1))).take (2*cs.length - 2)))))]) ⟨0,Nat.zero_le _,rfl,rfl,rfl⟩ ?_ ?_
     ·rintro acc μ ⟨i,hi,e,rfl,rfl⟩;have hi2:i=cs.length:=by
       have:=congrArg List.length e;rw[List.length_map,List.length_range',List.length_nil] at this;lia
      subst hi2;refine⟨trivial,?_⟩;walk_at "rt";exact q'
     ·rintro t r acc μ M ⟨i,hi,e,rfl,rfl⟩ k;have hi2:i < cs.length:=by
       have:=congrArg List.length e;rw[List.length_map,List.length_range',List.length_cons] at this;lia
      rw[show cs.length - i=(cs.length - (i+1))+1 by lia,List.range'_succ,List.map_cons] at e
      obtain⟨rfl,rfl⟩:=List.cons.inj e;clear e;refine⟨trivial,by rw[f_,List.length_map,List.length_range];exact Nat.lt_of_le_of_lt (show i<=20 by lia) (by decide),?_⟩
      walk_at "rt";refine⟨(Pm.th ((Pm.shelf (cQ cs) cs.length (min b (cs.length - 1))).take (2*cs.length - 2))).map fun k:Nat=>(k:Int),by unfold nN;rw[List.map_map];rfl,?_⟩
      rw[Int.zero_add,Bt];refine k _ _ ⟨i+1,hi2,rfl,?_,rfl⟩;rw[List.range_succ,List.map_append,oz];rfl
  ·rintro t r acc μ M ⟨e1,e2,rfl⟩ k;walk_at "rt";rw[List.length_cons] at e1;refine⟨trivial,Nat.lt_of_le_of_lt (show acc.length<=20 by lia) (by decide),k _ _ ⟨by rw[List.length_append];simp;lia,?_,rfl⟩⟩
   rw[List.length_append,List.length_singleton,List.replicate_succ',kg,<- e2];rfl
namespace Pm
theorem lT(f:Nat->Nat):∀ n,sN f (n+1)=f 0+sN (fun i=>f (i+1)) n
 | 0=>by simp[sN]
 | n+1=>by rw[sN,lT f n,sN];lia
theorem lD(f:Nat->Int):∀ n,sI f (n+1)=f 0+sI (fun i=>f (i+1)) n
 | 0=>by simp[sI]
 | n+1=>by rw[sI,lD f n,sI];lia
theorem ma(L:Nat):∀ l:List Nat,Kr.ks L l=sN (fun i=>2 ^ (L - l.getD i 0)) l.length
 | []=>rfl
 | x::l=>by rw[Kr.ks,ma L l,List.length_cons,lT];rfl
theorem l_{L D:Nat}(h:D<=L):∀ {l:List Nat},(∀ x∈l,x<=D)->Kr.ks L l=Kr.ks D l*2 ^ (L - D)
 | [],_=>by simp[Kr.ks]
 | x::l,hx=>by
  have:=hx x List.mem_cons_self;rw[Kr.ks,Kr.ks,l_ h fun y hy=>hx y (List.mem_cons_of_mem _ hy),Nat.add_mul,<- Nat.pow_add];congr 2;lia
theorem gw{L D:Nat}(h:D<=L){l:List Nat}(hx:∀ x∈l,x<=D):Kr.ks L l<=2 ^ L ↔ Kr.ks D l<=2 ^ D:=by
 rw[l_ h hx,show 2 ^ L=2 ^ D*2 ^ (L - D) by rw[<- Nat.pow_add,Nat.add_sub_cancel' h]]
 exact⟨fun h=>Nat.le_of_mul_le_mul_right h (Nat.pow_pos (by decide)),fun h=>Nat.mul_le_mul_right _ h⟩
theorem uz{L m:Nat}(hm:m<=L):∀ {l:List Nat},(∀ x∈l,x<=m)->2 ^ (L - m) ∣ Kr.ks L l
 | [],_=>⟨0,rfl⟩
 | x::l,h=>by
  have:=h x List.mem_cons_self;exact Nat.dvd_add (Nat.pow_dvd_pow 2 (by lia)) (uz hm fun y hy=>h y (List.mem_cons_of_mem _ hy))
theorem dy{L:Nat}:∀ (m:Nat) (l:List Nat),l.length=m->m<=L->Kr.ks L l < 2 ^ L->Kr.ks L l+2 ^ (L - m)<=2 ^ L
 | 0,l,hl,_,_=>by
  rw[List.length_eq_zero_iff.mp hl];simp[Kr.ks]
 | m+1,l,hl,hm,hk=>by
  have e2:2 ^ (L - m)=2*2 ^ (L - (m+1)):=by rw[show L - m=(L - (m+1))+1 by lia,Nat.pow_succ];lia
  by_cases h:∃ a∈l,m+1<=a
  ·obtain⟨a,ha,hma⟩:=h;obtain⟨s,t,rfl⟩:=List.append_of_mem ha;have e:Kr.ks L (s++a::t)=2 ^ (L - a)+Kr.ks L (s++t):=by rw[Kr.eF,Kr.ks,Kr.eF];lia
   have hl2:(s++t).length=m:=by
    rw[List.length_append,List.length_cons] at hl;rw[List.length_append];lia
   have hk2:Kr.ks L (s++t) < 2 ^ L:=by
    rw[e] at hk;exact Nat.lt_of_le_of_lt (Nat.le_add_left _ _) hk
   have:=dy m (s++t) hl2 (by lia) hk2
   have:2 ^ (L - a)<=2 ^ (L - (m+1)):=Nat.pow_le_pow_right (by decide) (by lia)
   lia
  ·have hx:∀ x∈l,x<=m:=fun x hx=>by
    rcases Nat.lt_or_ge m x with z | z
    ·exact absurd ⟨x,hx,z⟩ h
    ·exact z
   obtain⟨k,ek⟩:=uz (show m<=L by lia) hx
   have eL:2 ^ L=2 ^ (L - m)*2 ^ m:=by rw[<- Nat.pow_add];congr 1;lia
   rw[ek] at hk ⊢;have hkm:k < 2 ^ m:=by
    rw[eL] at hk;exact Nat.lt_of_mul_lt_mul_left hk
   have:2 ^ (L - m)*(k+1)<=2 ^ (L - m)*2 ^ m:=Nat.mul_le_mul_left _ hkm;rw[<- eL,Nat.mul_succ] at this;lia
theorem mI{L d:Nat}:∀ l:List Nat,Kr.ks L (l.map fun x=>min x d)=Kr.ks L (l.filter fun x=>decide (x<=d))+(l.filter fun x=>!decide (x<=d)).length*2 ^ (L - d)
 | []=>by simp[Kr.ks]
 | x::l=>by
  rw[List.map_cons,Kr.ks,mI l,List.filter_cons,List.filter_cons];by_cases h:x<=d
  ·rw[Nat.min_eq_left h];simp only[h,decide_true,if_true,Bool.not_true,Bool.false_eq_true,if_false,Kr.ks];lia
  ·rw[Nat.min_eq_right (by lia)]
   simp only[h,decide_false,if_false,Bool.not_false,if_true,Bool.false_eq_true,List.length_cons,Nat.succ_mul];lia
theorem m9{L d:Nat}:∀ l:List Nat,Kr.ks L l=Kr.ks L (l.filter fun x=>decide (x<=d))+Kr.ks L (l.filter fun x=>!decide (x<=d))/\l.length=(l.filter fun x=>decide (x<=d)).length+(l.filter fun x=>!decide (x<=d)).length
 | []=>by simp[Kr.ks]
 | x::l=>by
  obtain⟨h1,h2⟩:=m9 (L:=L) (d:=d) l;rw[Kr.ks,h1,List.length_cons,h2,List.filter_cons,List.filter_cons];by_cases h:x<=d
  ·simp only[h,decide_true,if_true,Bool.not_true,Bool.false_eq_true,if_false,Kr.ks,List.length_cons];lia
  ·simp only[h,decide_false,if_false,Bool.not_false,if_true,Bool.false_eq_true,List.length_cons,Kr.ks];lia
theorem two_le_pow:∀ k:Nat,1<=k->2*k<=2 ^ k
 | 0,h=>by lia
 | 1,_=>by decide
 | k+2,_=>by
  have:=two_le_pow (k+1) (by lia)
  rw[Nat.pow_succ];lia
theorem clamp{L:Nat}{l:List Nat}(hn:1<=l.length)(hL:l.length<=L)(hk:Kr.ks L l<=2 ^ L):Kr.ks L (l.map fun x=>min x (l.length - 1))<=2 ^ L:=by
 obtain⟨s1,s2⟩:=m9 (L:=L) (d:=l.length - 1) l;rw[mI];generalize hd:l.length - 1=d at s1 s2 ⊢;generalize l.filter (fun x=>decide (x<=d))=lo at s1 s2 ⊢;generalize ho:l.filter (fun x=>!decide (x<=d))=ov at s1 s2 ⊢
 cases ov with
 | nil=>simp only[List.length_nil,Nat.zero_mul,Kr.ks] at s1 ⊢;lia
 | cons y ov =>
  have hpos:0 < 2 ^ (L - y):=Nat.pow_pos (by decide)
  rw[Kr.ks] at s1;have h:=dy (L:=L) lo.length lo rfl (by lia) (by lia)
  have h2:=two_le_pow (y::ov).length (by simp)
  have e1:2 ^ (L - d)=2 ^ (L - l.length)*2:=by rw[show L - d=(L - l.length)+1 by lia,Nat.pow_succ]
  have e2:2 ^ (L - lo.length)=2 ^ (L - l.length)*2 ^ (y::ov).length:=by rw[<- Nat.pow_add];congr 1;lia
  have e3:(y::ov).length*2 ^ (L - d)=2 ^ (L - l.length)*(2*(y::ov).length):=by rw[e1,Nat.mul_comm,Nat.mul_assoc]
  have e4:=Nat.mul_le_mul_left (2 ^ (L - l.length)) h2;rw[e3];rw[e2] at h;lia
end Pm
def dot:List Int->List Int->Int
 | c::cs,l::ls=>c*l+dot cs ls
 | _,_=>0
def nZ(l:List Nat):List Int:=l.map fun k:Nat=>(k:Int)
theorem iL:∀ (cs:List Int) (l:List Nat),l.length=cs.length->dot cs (nZ l)=Pm.sI (fun i=>cQ cs i*((l.getD i 0:Nat):Int)) cs.length
 | [],[],_=>rfl
 | c::cs,x::l,h=>by
  rw[List.length_cons,Pm.lD];show c*(x:Int)+dot cs (nZ l)=_;rw[iL cs l (by simpa using h)]
  rfl
theorem v8:∀ {cs:List Int} {l:List Nat} {d:Nat},(∀ c∈cs,0<=c)->dot cs (nZ (l.map fun x=>min x d))<=dot cs (nZ l)
 | [],_,_,_=>by unfold dot;exact Int.le_refl _
 | c::cs,[],_,_=>by show (0:Int)<=0;lia
 | c::cs,x::l,d,h=>by
  have ih:=v8 (l:=l) (d:=d) fun y hy=>h y (List.mem_cons_of_mem _ hy);have hc:=h c List.mem_cons_self;show c*((min x d:Nat):Int)+dot cs (nZ (l.map fun x=>min x d))<=c*(x:Int)+dot cs (nZ l);have:=Int.mul_le_mul_of_nonneg_left (show ((min x d:Nat):Int)<=(x:Int) by lia) hc
  lia
theorem zA:∀ n:Nat,1<=n->n<=2 ^ (n - 1)
 | 0,h=>by lia
 | 1,_=>by decide
 | n+2,_=>by
  have:=zA (n+1) (by lia)
  rw[show n+2 - 1=(n+1 - 1)+1 by lia,Nat.pow_succ];lia
theorem Ar{cs:List Int}(h:∀ c∈cs,0<=c)(i:Nat)(hi:i < cs.length):0<=cQ cs i:=by
 unfold cQ;rw[List.getD_eq_getElem?_getD,List.getElem?_eq_getElem hi];exact h _ (List.getElem_mem hi)
theorem dF(f:Nat->Nat){n i:Nat}(h:i < n):((List.range n).map f).getD i 0=f i:=by
 rw[List.getD_eq_getElem?_getD,List.getElem?_map,List.getElem?_range h];rfl
structure D4 (cs:List Int) (b:Nat) (ls:List Nat):Prop where
 len:ls.length=cs.length
 dh:∀ x∈ls,1<=x/\x<=b
 ks:Kr.ks 40 ls<=2 ^ 40
 low:∀ l:List Nat,l.length=cs.length->(∀ x∈l,1<=x/\x<=b)->Kr.ks 40 l<=2 ^ 40->dot cs (nZ ls)<=dot cs (nZ l)
theorem jO{cs:List Int}{b:Nat}(hc:∀ c∈cs,0<=c)(hn:1<=cs.length)(hn2:cs.length<=20)(hb:1<=b)(hb2:b<=40)(hm:cs.length<=2 ^ b):D4 cs b (ay cs b):=by
 unfold ay;by_cases h1:cs.length=1
 ·rw[if_pos h1];refine⟨h1.symm,fun x hx=>?_,by decide,fun l hl hx hk=>?_⟩
  ·rw[List.mem_singleton.mp hx];lia
  ·rw[h1] at hl;obtain⟨x,rfl⟩:=List.length_eq_one_iff.mp hl;obtain⟨c,rfl⟩:=List.length_eq_one_iff.mp h1;have h0:=hc c (by simp)
   have hx1:=(hx x (by simp)).1
   show c*((1:Nat):Int)+0<=c*(x:Int)+0;have:=Int.mul_le_mul_of_nonneg_left (show ((1:Nat):Int)<=(x:Int) by lia) h0
   lia
 ·rw[if_neg h1];have hn3:2<=cs.length:=by lia
  have hcc:=Ar hc;generalize hD:min b (cs.length - 1)=D;have hD1:cs.length<=2 ^ D:=by
   rcases Nat.le_total b (cs.length - 1) with z | z
   ·rw[<- hD,Nat.min_eq_left z];exact hm
   ·rw[<- hD,Nat.min_eq_right z];exact zA _ hn
  obtain⟨w1,w2,w3,w4⟩:=Pm.qA hcc hn3 hD1;have hlen:((List.range cs.length).map (Pm.dB (cQ cs) cs.length D)).length=cs.length:=by rw[List.length_map,List.length_range]
  have hrng:∀ x∈(List.range cs.length).map (Pm.dB (cQ cs) cs.length D),1<=x/\x<=D:=fun x hx=>by
   obtain⟨i,hi,rfl⟩:=List.mem_map.mp hx;exact⟨w2 i (List.mem_range.mp hi),w1 i⟩
  have hdot:dot cs (nZ ((List.range cs.length).map (Pm.dB (cQ cs) cs.length D)))=Pm.wt ((Pm.shelf (cQ cs) cs.length D).take (2*cs.length - 2)):=by
   rw[iL _ _ hlen,w4];exact Pm.d7 fun i hi=>by rw[dF _ hi]
  refine⟨hlen,fun x hx=>by have:=hrng x hx;lia,?_,fun l hl hx hk=>?_⟩
  ·rw[Pm.gw (D:=D) (by lia) fun x hx=>(hrng x hx).2,Pm.ma,hlen]
   rw[Pm.cu (g:=fun i=>2 ^ (D - Pm.dB (cQ cs) cs.length D i)) fun i hi=>by rw[dF _ hi]]
   exact w3
  ·rw[hdot];have key:∀ l:List Nat,l.length=cs.length->(∀ x∈l,x<=D)->Kr.ks 40 l<=2 ^ 40->Pm.wt ((Pm.shelf (cQ cs) cs.length D).take (2*cs.length - 2))<=dot cs (nZ l):=fun l hl hx hk=>by
    rw[iL _ _ hl];refine Pm.i8 hcc hn (l:=fun i=>l.getD i 0) (fun i hi=>?_) ?_
    ·rw[List.getD_eq_getElem?_getD,List.getElem?_eq_getElem (by lia)]
     exact hx _ (List.getElem_mem _)
    ·rw[Pm.gw (D:=D) (by lia) hx,Pm.ma,hl] at hk
     exact hk
   refine Int.le_trans (key (l.map fun x=>min x (cs.length - 1)) (by rw[List.length_map];exact hl) (fun x hx'=>?_) ?_) (v8 hc)
   ·obtain⟨y,hy,rfl⟩:=List.mem_map.mp hx';have:=(hx y hy).2;lia
   ·have:=Pm.clamp (L:=40) (l:=l) (by lia) (by lia) hk
    rw[hl] at this;exact this
def yU:fc:=fun args Q=>∃ ns:List Int,args=[.dc (nI ns)]/\∀ v:Int,Q (.tr (.int v)) []
theorem si(T:Txt K mg)(F:HasFn K mg "_law_folded" aX ["script"]):ai P w K mg base bT 1 "_law_folded" ["script"] (spT K [false] yU):=by
 refine F.mR cx [false] rfl (by decide) (fun args Qt hl h f cdv A outer s H E hr=>?_)
 have hu:=bZ hr;obtain⟨ns,rfl,q⟩:=h;refine⟨_,(Y.ah (Y.set (i:=1) cx.nd rfl (by walk_at "lc") (Y.cb (Y.aZ K rfl) Y.bI rfl T.dq (by decide +kernel) (Y.cons (Y.vS 0) Y.nil)))
   (Y.ah (Y.dQ PassesOwn.never rfl (Y.anyS K rfl (Y.vS 0)) (Y.aR (i:=2) cx.nd rfl (by walk_at "lc")) (Y.aG (Y.set (i:=1) cx.nd rfl (by walk_at "lc") (Y.op dH Y.bK (Y.op (Y.aP K rfl) Y.aN (Y.op (Y.b8 K rfl) Y.bo (Y.vS 1) Y.int) (Y.op dH Y.bK (Y.vS 2) Y.int)) Y.int))))
   (Y.aG (Y.ret (Y.vS 1))))),?_⟩
 refine aq fun N hN=>?_;wp_walk using bN;refine hN _ ?_;clear hN N;refine aq fun N hN=>?_;walk_at "rt";refine bR (fun rest μ=>∃ (ms:List Int) (v:Int) (o:Option L2.T),rest=nI ms/\μ=[.tr (.dc (nI ns)),.tr (.int v),sl o]) ⟨ns,_,none,rfl,rfl⟩ ?_ ?_
 ·rintro μ ⟨ms,v,o,_,rfl⟩;show N _;refine hN _ ?_;clear hN N;walk_at "rt";exact q v
 ·rintro t r μ M ⟨ms,v,o,e,rfl⟩ k
  cases ms with
  | nil=>cases e
  | cons m ms =>
   cases e;walk_at "rt";refine⟨.inr (by decide),by decide,by decide,k _ ⟨ms,_,some _,rfl,rfl⟩⟩
def la:fc:=fun args Q=>args=[]/\Q (.fr (.lst [.str "put",.str "add",.str "sub",.str "copy",.str "tell",.str "hear",.str "jump",.str "zero",.str "halt"])) []
theorem qO(T:Txt K mg)(F:HasFn K mg "_law_words" ba []):ai P w K mg base bT 1 "_law_words" [] (spT K [] la):=by
 refine F.mR jk [] rfl (by decide) (fun args Qt hl h f cdv A outer s H E hr=>?_)
 obtain⟨rfl,q⟩:=h;refine⟨_,(Y.aG (Y.ret (Y.lst (Y.kE rfl rfl)))),?_⟩;walk_at "rt";exact⟨by decide,q⟩
def pd:fc:=fun args Q=>∃ s:L2.T,args=[s]/\cV s/\∀ (v:Nat) (s':L2.T),cV s'->v < 65536->Q (.tr (.int (v:Int))) [s']
theorem qR(T:Txt K mg)(F:HasFn K mg "_law_number" aW ["seed"])(h_law_draw:ai P w K mg base bT 1 "_law_draw" ["seed","most"] (spT K [true,false] fm)):ai P w K mg base bT 2 "_law_number" ["seed"] (spT K [true] pd):=by
 refine F.mR bM [true] rfl (by decide) (fun args Qt hl h f cdv A outer s H E hr=>?_)
 have hu:=bZ hr;obtain⟨sd,rfl,hs,q⟩:=h;have qi:∀ (v:Int) (s':L2.T),cV s'->0<=v->v < 65536->Qt (.tr (.int v)) [s']:=fun v s' h0 h1 h2=>by
  obtain⟨k,rfl⟩:∃ k:Nat,v=k:=⟨v.toNat,by lia⟩
  exact q k s' h0 (by lia)
 refine⟨_,(Y.ah (Y.set (i:=1) bM.nd rfl (by walk_at "lc") (Y.fn K rfl h_law_draw (hr.mono (by decide)) rfl aH (Y.cons (Y.vS 0) (Y.cons Y.int Y.nil))))
   (Y.ah (Y.fM (Y.bS (Y.cf K rfl (Nat.lt_of_succ_lt hu)) Y.dA (Y.vS 1) Y.int) (Y.aG (Y.ret (Y.fn K rfl h_law_draw (hr.mono (by decide)) rfl aH (Y.cons (Y.vS 0) (Y.cons Y.int Y.nil))))) Y.cB)
   (Y.ah (Y.fM (Y.bS (Y.cf K rfl (Nat.lt_of_succ_lt hu)) Y.dA (Y.vS 1) Y.int) (Y.aG (Y.ret (Y.fn K rfl h_law_draw (hr.mono (by decide)) rfl aH (Y.cons (Y.vS 0) (Y.cons Y.int Y.nil))))) Y.cB)
   (Y.ah (Y.fM (Y.bS (Y.cf K rfl (Nat.lt_of_succ_lt hu)) Y.dA (Y.vS 1) Y.int) (Y.aG (Y.ret (Y.op cG Y.bV Y.int (Y.fn K rfl h_law_draw (hr.mono (by decide)) rfl aH (Y.cons (Y.vS 0) (Y.cons Y.int Y.nil)))))) Y.cB)
   (Y.ah (Y.set (i:=2) bM.nd rfl (by walk_at "lc") Y.int)
   (Y.ah (Y.dQ PassesOwn.never rfl (Y.jo rfl T.cF (Y.cons (Y.fn K rfl h_law_draw (hr.mono (by decide)) rfl aH (Y.cons (Y.vS 0) (Y.cons Y.int Y.nil))) Y.nil)) (Y.aR (i:=3) bM.nd rfl (by walk_at "lc")) (Y.aG (Y.set (i:=2) bM.nd rfl (by walk_at "lc") (Y.op (Y.aP K rfl) Y.aN (Y.vS 2) (Y.vS 2)))))
   (Y.aG (Y.ret (Y.op cG Y.bV (Y.vS 2) (Y.fn K rfl h_law_draw (hr.mono (by decide)) rfl aH (Y.cons (Y.vS 0) (Y.cons Y.int Y.nil)))))))))))),?_⟩
 refine aq fun N hN=>?_;walk_at "rt";refine⟨sd,4,rfl,hs,by decide,by decide,fun way s1 hs1 w0 w1=>?_⟩
 walk_at "rt";refine hN _ ?_;clear hN N;refine aq fun N hN=>?_;by_cases a0:way=0
 ·wp_walk using if_pos a0;refine⟨s1,5,rfl,hs1,by decide,by decide,fun v s2 hs2 v0 v1=>?_⟩
  walk_at "rt";exact qi v s2 hs2 v0 (by lia)
 ·wp_walk using if_neg a0;refine hN _ ?_;clear hN N;refine aq fun N hN=>?_;by_cases a1:way=1
  ·wp_walk using if_pos a1;refine⟨s1,65536,rfl,hs1,by decide,by decide,fun v s2 hs2 v0 v1=>?_⟩
   walk_at "rt";exact qi v s2 hs2 v0 v1
  ·wp_walk using if_neg a1;refine hN _ ?_;clear hN N;refine aq fun N hN=>?_;by_cases a2:way=2
   ·wp_walk using if_pos a2;refine⟨s1,3,rfl,hs1,by decide,by decide,fun v s2 hs2 v0 v1=>?_⟩
    walk_at "rt";exact qi _ s2 hs2 (by lia) (by lia)
   ·wp_walk using if_neg a2;refine hN _ ?_;clear hN N;refine aq fun N hN=>?_;walk_at "rt";refine hN _ ?_;clear hN N;refine aq fun N hN=>?_;walk_at "rt";refine⟨s1,16,rfl,hs1,by decide,by decide,fun m s2 hs2 m0 m1=>?_⟩
    walk_at "rt";refine⟨by lia,by lia,?_⟩
    refine bR (fun rest μ=>∃ (j:Nat) (v:Int) (o:Option L2.T),j+rest.length=m.toNat/\v=2 ^ j/\μ=[.pb s2,.tr (.int way),.tr (.int v),sl o]) ⟨0,1,none,by simp,rfl,rfl⟩ ?_ ?_
    ·rintro μ ⟨j,v,o,hj,hv,rfl⟩;show N _;refine hN _ ?_;clear hN N;walk_at "rt";refine⟨s2,2,rfl,hs2,by decide,by decide,fun d s3 hs3 d0 d1=>?_⟩
     walk_at "rt";have h1:(1:Int)<=2 ^ j:=Int.le_of_lt_add_one (by have:=Int.pow_pos (n:=2) (m:=j) (by decide);lia)
     have h2:(2:Int) ^ j<=2 ^ 15:=by
      have:2 ^ j<=2 ^ 15:=Nat.pow_le_pow_right (by decide) (by simp at hj;lia)
      exact_mod_cast this
     rw[hv];exact qi _ s3 hs3 (by lia) (by lia)
    ·rintro t r μ M ⟨j,v,o,hj,hv,rfl⟩ k;walk_at "rt";refine k _ ⟨j+1,v+v,some t,by rw[List.length_cons] at hj;lia,by rw[hv,Int.pow_succ];lia,rfl⟩
theorem G4{b:Nat}(h:b < 8):b=0\/b=1\/b=2\/b=3\/b=4\/b=5\/b=6\/b=7:=by lia
inductive Row where
 | put (b n:Nat) | two (w:Fin 3) (a b:Nat) | one (w:Fin 2) (b:Nat) | jump (g:Nat) | zero (b g:Nat) | halt
 deriving DecidableEq
def dP(i:Nat):Str:=⟨#[97+i]⟩
def w2:Fin 3->Str
 | 0=>"add"
 | 1=>"sub"
 | 2=>"copy"
def w1:Fin 2->Str
 | 0=>"tell"
 | 1=>"hear"
inductive E5 where
 | s (z:Str) | n (k:Nat)
def E5.t:E5->L2.T
 | .s z=>.str z
 | .n k=>.int (k:Nat)
def Row.ps:Row->List E5
 | .put b n=>[.s "put",.s (dP b),.n n]
 | .two w a b=>[.s (w2 w),.s (dP a),.s (dP b)]
 | .one w b=>[.s (w1 w),.s (dP b)]
 | .jump g=>[.s "jump",.n g]
 | .zero b g=>[.s "zero",.s (dP b),.n g]
 | .halt=>[.s "halt"]
def Row.t(r:Row):L2.T:=.tup (r.ps.map E5.t)
def Row.Ok(size:Nat):Row->Prop
 | .put b n=>b < 8/\n < 65536
 | .two _ a b=>a < 8/\b < 8
 | .one _ b=>b < 8
 | .jump g=>g<=size
 | .zero b g=>b < 8/\g<=size
 | .halt=>True
theorem Row.Ok.mono{a b:Nat}{r:Row}(h:r.Ok a)(hm:a<=b):r.Ok b:=by
 cases r<;>simp only[Row.Ok] at h ⊢<;>lia
theorem oA{k:Int}(h0:0<=k)(h1:k < 8):bX (Str.ofString "abcdefgh").cps.toList k=some (97+k.toNat):=by
 have e:(Str.ofString "abcdefgh").cps.toList=[97,98,99,100,101,102,103,104]:=by decide +kernel
 rw[e];obtain⟨n,rfl⟩:∃ n:Nat,k=n:=⟨k.toNat,by lia⟩
 unfold bX kW;have hn:n < 8:=by lia
 rw[if_pos (by lia),if_pos (by simp;lia)]
 show [97,98,99,100,101,102,103,104][((n:Nat):Int).toNat]?=some (97+((n:Nat):Int).toNat);rw[Int.toNat_natCast];rcases G4 hn with rfl | rfl | rfl | rfl | rfl | rfl | rfl | rfl<;>rfl
theorem BE{xs:List L2.T}{i:Int}(h0:0<=i)(h1:i < xs.length):∃ t,t∈xs/\bX xs i=some t:=by
 obtain⟨n,rfl⟩:∃ n:Nat,i=n:=⟨i.toNat,by lia⟩
 have hn:n < xs.length:=by lia
 exact⟨xs[n],List.getElem_mem hn,cN (List.getElem?_eq_getElem hn)⟩
def DQ:fc:=fun args Q=>∃ (s:L2.T) (many:Nat),args=[s,.int (many:Int),.int 9]/\cV s/\many < 1000/\∀ (r:Row) (s':L2.T),r.Ok many->cV s'->Q (.tr r.t) [s']
theorem B6(T:Txt K mg)(F:HasFn K mg "_law_row" bF ["seed","many","words"])(h_law_draw:ai P w K mg base bT 1 "_law_draw" ["seed","most"] (spT K [true,false] fm))(h_law_words:ai P w K mg base bT 1 "_law_words" [] (spT K [] la))(h_law_number:ai P w K mg base bT 2 "_law_number" ["seed"] (spT K [true] pd)):
  ai P w K mg base bT 3 "_law_row" ["seed","many","words"] (spT K [true,false,false] DQ):=by
 refine F.mR dX [true,false,false] rfl (by decide) (fun args Qt hl h f cdv A outer s H E hr=>?_)
 have hu:=bZ hr;obtain⟨sd,many,rfl,hs,hmy,q⟩:=h;refine⟨_,(Y.ah (Y.set (i:=3) dX.nd rfl (by walk_at "lc") (Y.ix (Y.cA K rfl) Y.aS (Y.E9 K rfl h_law_words (hr.mono (by decide)) rfl aH) (Y.fn K rfl h_law_draw (hr.mono (by decide)) rfl aH (Y.cons (Y.vS 0) (Y.cons (Y.vS 2) Y.nil)))))
   (Y.ah (Y.set (i:=4) dX.nd rfl (by walk_at "lc") (Y.ix (Y.cA K rfl) Y.aS Y.str (Y.fn K rfl h_law_draw (hr.mono (by decide)) rfl aH (Y.cons (Y.vS 0) (Y.cons Y.int Y.nil)))))
   (Y.ah (Y.fM (Y.bS (Y.cf K rfl (Nat.lt_of_succ_lt hu)) Y.dA (Y.vS 3) Y.str) (Y.aG (Y.ret (Y.tup (Y.cons (Y.vS 3) (Y.cons (Y.vS 4) (Y.cons (Y.fn K rfl h_law_number (hr.mono (by decide)) rfl aH (Y.cons (Y.vS 0) Y.nil)) Y.nil)))))) Y.cB)
   (Y.ah (Y.fM (Y.bS (Y.t9 K rfl) Y.zJ (Y.vS 3) (Y.tup (Y.kE rfl rfl))) (Y.aG (Y.ret (Y.tup (Y.cons (Y.vS 3) (Y.cons (Y.vS 4) (Y.cons (Y.ix (Y.cA K rfl) Y.aS Y.str (Y.fn K rfl h_law_draw (hr.mono (by decide)) rfl aH (Y.cons (Y.vS 0) (Y.cons Y.int Y.nil)))) Y.nil)))))) Y.cB)
   (Y.ah (Y.fM (Y.bS (Y.t9 K rfl) Y.zJ (Y.vS 3) (Y.tup (Y.kE rfl rfl))) (Y.aG (Y.ret (Y.tup (Y.cons (Y.vS 3) (Y.cons (Y.vS 4) Y.nil))))) Y.cB)
   (Y.ah (Y.fM (Y.bS (Y.cf K rfl (Nat.lt_of_succ_lt hu)) Y.dA (Y.vS 3) Y.str) (Y.aG (Y.ret (Y.tup (Y.cons (Y.vS 3) (Y.cons (Y.fn K rfl h_law_draw (hr.mono (by decide)) rfl aH (Y.cons (Y.vS 0) (Y.cons (Y.op (Y.aP K rfl) Y.aN (Y.vS 1) Y.int) Y.nil))) Y.nil))))) Y.cB)
   (Y.ah (Y.fM (Y.bS (Y.cf K rfl (Nat.lt_of_succ_lt hu)) Y.dA (Y.vS 3) Y.str) (Y.aG (Y.ret (Y.tup (Y.cons (Y.vS 3) (Y.cons (Y.vS 4) (Y.cons (Y.fn K rfl h_law_draw (hr.mono (by decide)) rfl aH (Y.cons (Y.vS 0) (Y.cons (Y.op (Y.aP K rfl) Y.aN (Y.vS 1) Y.int) Y.nil))) Y.nil)))))) Y.cB)
   (Y.aG (Y.ret (Y.tup (Y.cons (Y.vS 3) Y.nil))))))))))),?_⟩
 refine aq fun N hN=>?_;walk_at "rt";refine⟨rfl,?_⟩;walk_at "rt";refine⟨sd,9,rfl,hs,by decide,by decide,fun c s1 hs1 c0 c1=>?_⟩
 obtain⟨v,hv,ha⟩:=BE (xs:=[.str "put",.str "add",.str "sub",.str "copy",.str "tell",.str "hear",.str "jump",.str "zero",.str "halt"]) c0 c1;wp_walk using ha;clear ha c0 c1;refine hN _ ?_;clear hN N;refine aq fun N hN=>?_;walk_at "rt";refine⟨s1,8,rfl,hs1,by decide,by decide,fun b s2 hs2 b0 b1=>?_⟩
 have hb:=oA b0 b1;wp_walk using hb;refine⟨by decide +kernel,?_⟩
 refine hN _ ?_;clear hN N;obtain⟨bn,rfl⟩:∃ bn:Nat,b=bn:=⟨b.toNat,by lia⟩
 have hb8:bn < 8:=by lia
 rw[Int.toNat_natCast];show Y.AB _ _ _ [.pb s2,.tr (.int (many:Int)),.tr (.int 9),.tr v,.tr (.str (dP bn))];have hv6:v=.str "put"\/(∃ w,v=.str (w2 w))\/(∃ w,v=.str (w1 w))\/v=.str "jump"\/v=.str "zero"\/v=.str "halt":=by
  simp only[List.mem_cons,List.not_mem_nil,or_false] at hv;rcases hv with h | h | h | h | h | h | h | h | h<;>subst h<;>first | exact .inl rfl | exact .inr (.inl ⟨0,rfl⟩) | exact .inr (.inl ⟨1,rfl⟩) | exact .inr (.inl ⟨2,rfl⟩) | exact .inr (.inr (.inl ⟨0,rfl⟩)) | exact .inr (.inr (.inl ⟨1,rfl⟩)) | simp
 clear hv;refine aq fun N hN=>?_;rcases hv6 with rfl | ⟨u,rfl⟩ | ⟨u,rfl⟩ | hv
 ·wp_walk using (show (Str.ofString "put"=Str.ofString "put")=True from eq_true rfl),if_true;refine⟨s2,rfl,hs2,fun k s3 hs3 k1=>?_⟩;walk_at "rt";exact⟨by decide,q (.put bn k) s3 ⟨hb8,k1⟩ hs3⟩
 ·have n1:∀ u,w2 u≠"put":=by decide +kernel
  have i1:∀ u,Y.mf (.str (w2 u)) [.str "add",.str "sub",.str "copy"]=true:=by decide +kernel
  wp_walk using if_neg (n1 u);refine hN _ ?_;clear hN N;refine aq fun N hN=>?_;wp_walk using i1 u;refine⟨by decide,rfl,rfl,s2,8,rfl,hs2,by decide,by decide,fun c s3 hs3 c0 c1=>?_⟩
  have hc:=oA c0 c1;wp_walk using hc;exact⟨by decide +kernel,by decide,q (.two u bn c.toNat) s3 ⟨hb8,by lia⟩ hs3⟩
 ·have n1:∀ u,w1 u≠"put":=by decide +kernel
  have i1:∀ u,Y.mf (.str (w1 u)) [.str "add",.str "sub",.str "copy"]=false:=by decide +kernel
  have i2:∀ u,Y.mf (.str (w1 u)) [.str "tell",.str "hear"]=true:=by decide +kernel
  wp_walk using if_neg (n1 u);refine hN _ ?_;clear hN N;refine aq fun N hN=>?_;wp_walk using i1 u;refine⟨by decide,rfl,rfl,?_⟩
  refine hN _ ?_;clear hN N;refine aq fun N hN=>?_;wp_walk using i2 u;exact⟨by decide,rfl,rfl,by decide,q (.one u bn) s2 hb8 hs2⟩
 ·have n1:∀ z∈([("jump"),("zero"),("halt")]:List Str),z≠"put"/\Y.mf (.str z) [.str "add",.str "sub",.str "copy"]=false/\Y.mf (.str z) [.str "tell",.str "hear"]=false:=by decide +kernel
  obtain⟨z,hz,rfl⟩:∃ z∈([("jump"),("zero"),("halt")]:List Str),v=.str z:=by rcases hv with rfl | rfl | rfl<;>exact⟨_,by simp,rfl⟩
  obtain⟨e1,e2,e3⟩:=n1 z hz;wp_walk using if_neg e1;refine hN _ ?_;clear hN N;refine aq fun N hN=>?_;wp_walk using e2;refine⟨by decide,rfl,rfl,?_⟩
  refine hN _ ?_;clear hN N;refine aq fun N hN=>?_;wp_walk using e3;refine⟨by decide,rfl,rfl,?_⟩
  refine hN _ ?_;clear hN N;refine aq fun N hN=>?_;rcases hv with hv | hv
  ·cases hv;wp_walk using if_pos (rfl:Str.ofString "jump"=Str.ofString "jump");refine⟨s2,(many:Int)+1,rfl,hs2,by lia,by lia,fun g s3 hs3 g0 g1=>?_⟩
   obtain⟨gn,rfl⟩:∃ gn:Nat,g=gn:=⟨g.toNat,by lia⟩
   walk_at "rt";exact⟨by decide,q (.jump gn) s3 (show gn<=many by lia) hs3⟩
  ·have nh:z≠"jump":=by rcases hv with hv | hv<;>cases hv<;>decide +kernel
   wp_walk using if_neg nh;refine hN _ ?_;clear hN N;refine aq fun N hN=>?_;rcases hv with hv | hv
   ·cases hv;wp_walk using if_pos (rfl:Str.ofString "zero"=Str.ofString "zero");refine⟨s2,(many:Int)+1,rfl,hs2,by lia,by lia,fun g s3 hs3 g0 g1=>?_⟩
    obtain⟨gn,rfl⟩:∃ gn:Nat,g=gn:=⟨g.toNat,by lia⟩
    walk_at "rt";exact⟨by decide,q (.zero bn gn) s3 ⟨hb8,(show gn<=many by lia)⟩ hs3⟩
   ·cases hv;have nz:Str.ofString "halt"≠Str.ofString "zero":=by decide +kernel
    wp_walk using if_neg nz;refine hN _ ?_;clear hN N;walk_at "rt";exact⟨by decide,q .halt s2 trivial hs2⟩
def rT(rs:List Row):List L2.T:=rs.map Row.t
theorem Ag(rs:List Row):(rT rs).length=rs.length:=List.length_map ..
def mJ:fc:=fun args Q=>∃ s:L2.T,args=[s,.int 60,.int 9]/\cV s/\∀ (rs:List Row) (s':L2.T),cV s'->rs.length<=60->(∀ r∈rs,r.Ok 60)->Q (.tr (.tup (rT rs))) [s']
theorem n6(T:Txt K mg)(F:HasFn K mg "_law_program" aE ["seed","most","words"])(h_law_draw:ai P w K mg base bT 1 "_law_draw" ["seed","most"] (spT K [true,false] fm))(h_law_row:ai P w K mg base bT 3 "_law_row" ["seed","many","words"] (spT K [true,false,false] DQ)):
  ai P w K mg base bT 4 "_law_program" ["seed","most","words"] (spT K [true,false,false] mJ):=by
 refine F.mR cI [true,false,false] rfl (by decide) (fun args Qt hl h f cdv A outer s H E hr=>?_)
 have hu:=bZ hr;obtain⟨sd,rfl,hs,q⟩:=h;refine⟨_,(Y.ah (Y.set (i:=3) cI.nd rfl (by walk_at "lc") (Y.fn K rfl h_law_draw (hr.mono (by decide)) rfl aH (Y.cons (Y.vS 0) (Y.cons Y.int Y.nil))))
   (Y.ah (Y.fM (Y.bS (Y.cf K rfl (Nat.lt_of_succ_lt hu)) Y.dA (Y.fn K rfl h_law_draw (hr.mono (by decide)) rfl aH (Y.cons (Y.vS 0) (Y.cons Y.int Y.nil))) Y.int) (Y.aG (Y.set (i:=3) cI.nd rfl (by walk_at "lc") (Y.op cG Y.bV (Y.vS 1) (Y.fn K rfl h_law_draw (hr.mono (by decide)) rfl aH (Y.cons (Y.vS 0) (Y.cons (Y.op (Y.aP K rfl) Y.aN Y.int (Y.op Y.dv Y.bK (Y.vS 1) Y.int)) Y.nil)))))) Y.cB)
   (Y.aG (Y.ret (Y.ct (Y.dw K rfl) Y.eC rfl T.cK (by decide +kernel) (Y.cons (Y.pW (osc:=aa aE) (ON:=["seed","most","words","many"]) (own:=["row"]) (N:=["row","seed","most","words","many"]) ⟨rfl,by decide +kernel,rfl,by decide +kernel,by decide +kernel,by decide +kernel,by decide +kernel,by decide +kernel⟩ rfl rfl rfl rfl (Y.jo rfl T.cF (Y.cons (Y.vS 3) Y.nil)) (fun _ _ _ _=>(Z.aR (i:=0) (show List.Nodup (["row","seed","most","words","many"]:List Str) by decide +kernel) rfl (by walk_at "lc"))) (fun _ _ _ _=>Y.sC) (fun _ _ _ _=>(Y.fn K rfl h_law_row (hr.mono (by decide)) rfl aH (Y.cons (Y.vS 1) (Y.cons (Y.vS 4) (Y.cons (Y.vS 3) Y.nil)))))) Y.nil)))))),?_⟩
 refine aq fun N hN=>?_;walk_at "rt";refine⟨sd,9,rfl,hs,by decide,by decide,fun m s1 hs1 m0 m1=>?_⟩
 walk_at "rt";refine hN _ ?_;clear hN N;refine aq fun N hN=>?_;walk_at "rt";refine⟨s1,5,rfl,hs1,by decide,by decide,fun v s2 hs2 v0 v1=>?_⟩
 have fin:∀ (n:Nat) (s':L2.T),cV s'->n<=60->N [.pb s',.tr (.int 60),.tr (.int 9),.tr (.int (n:Int))]:=fun n s' hs' hn=>by
  refine hN _ ?_;clear hN N;walk_at "rt";refine⟨by lia,by lia,?_⟩
  refine dn (fun rest acc μ=>∃ (rs:List Row) (s4:L2.T),rest.length+rs.length=n/\acc=rT rs/\(∀ r∈rs,r.Ok 60)/\cV s4/\μ=[.pb s4,.tr (.int 60),.tr (.int 9),.tr (.int (n:Int))]) ⟨[],s',by simp,rfl,(fun r hr=>by cases hr),hs',rfl⟩ ?_ ?_
  ·rintro acc μ ⟨rs,s4,e,rfl,aJ,hs4,rfl⟩;refine⟨trivial,?_⟩;walk_at "rt";exact q rs s4 hs4 (by simp at e;lia) aJ
  ·rintro t r acc μ M ⟨rs,s4,e,rfl,aJ,hs4,rfl⟩ k;rw[List.length_cons] at e;refine⟨trivial,by rw[Ag];exact Nat.lt_of_le_of_lt (show _<=60 by lia) (by decide),?_⟩
   walk_at "rt";refine⟨s4,n,rfl,hs4,by lia,fun rw' s5 hok5 hs5=>?_⟩
   walk_at "rt";refine k _ _ ⟨rs++[rw'],s5,by rw[List.length_append,List.length_singleton];lia,by unfold rT;rw[List.map_append];rfl,fun x hx=>?_,hs5,rfl⟩
   rcases List.mem_append.mp hx with z | z
   ·exact aJ x z
   ·rw[List.mem_singleton.mp z];exact hok5.mono hn
 by_cases a:v=0
 ·wp_walk using if_pos a;refine⟨⟨by decide,by decide⟩,s2,1+60 / 2,rfl,hs2,by decide,by decide,fun d s3 hs3 d0 d1=>?_⟩
  obtain⟨n,hn⟩:∃ n:Nat,60 - d=n:=⟨(60 - d).toNat,by lia⟩
  wp_walk using hn;exact fin n s3 hs3 (by lia)
 ·obtain⟨n,rfl⟩:∃ n:Nat,m=n:=⟨m.toNat,by lia⟩
  wp_walk using if_neg a;exact fin n s2 hs2 (by lia)
def oO:fc:=fun args Q=>∃ (s:L2.T) (n:Nat),args=[s,.int (n:Int)]/\cV s/\n<=60/\∀ (cs:List Int) (s':L2.T),cV s'->cs.length=n->(∀ x∈cs,0<=x)->Q (.tr (.tup (nI cs))) [s']
theorem i6(v:Int)(n:Nat):(List.replicate n [L2.T.int v]).flatten=nI (List.replicate n v):=by
 induction n with
 | zero=>rfl
 | succ n ih=>rw[List.replicate_succ,List.flatten_cons,ih,List.replicate_succ];rfl
theorem rG(T:Txt K mg)(F:HasFn K mg "_law_counts" aL ["seed","many"])(h_law_draw:ai P w K mg base bT 1 "_law_draw" ["seed","most"] (spT K [true,false] fm)):ai P w K mg base bT 2 "_law_counts" ["seed","many"] (spT K [true,false] oO):=by
 refine F.mR dW [true,false] rfl (by decide) (fun args Qt hl h f cdv A outer s H E hr=>?_)
 have hu:=bZ hr;obtain⟨sd,n,rfl,hs,hn,q⟩:=h;refine⟨_,(Y.ah (Y.set (i:=2) dW.nd rfl (by walk_at "lc") (Y.fn K rfl h_law_draw (hr.mono (by decide)) rfl aH (Y.cons (Y.vS 0) (Y.cons Y.int Y.nil))))
   (Y.ah (Y.fM (Y.bS mL Y.dO (Y.vS 2) Y.int) (Y.aG (Y.ret (Y.op (Y.gP K rfl) Y.gU (Y.tup (Y.cons (Y.vS 2) Y.nil)) (Y.vS 1)))) Y.cB)
   (Y.aG (Y.ret (Y.ct (Y.dw K rfl) Y.eC rfl T.cK (by decide +kernel) (Y.cons (Y.pW (osc:=aa aL) (ON:=["seed","many","way"]) (own:=["row"]) (N:=["row","seed","many","way"]) ⟨rfl,by decide +kernel,rfl,by decide +kernel,by decide +kernel,by decide +kernel,by decide +kernel,by decide +kernel⟩ rfl rfl rfl rfl (Y.jo rfl T.cF (Y.cons (Y.vS 1) Y.nil)) (fun _ _ _ _=>(Z.aR (i:=0) (show List.Nodup (["row","seed","many","way"]:List Str) by decide +kernel) rfl (by walk_at "lc"))) (fun _ _ _ _=>Y.sC) (fun _ _ _ _=>(Y.fn K rfl h_law_draw (hr.mono (by decide)) rfl aH (Y.cons (Y.vS 1) (Y.cons (Y.ix (Y.cA K rfl) Y.aS (Y.lst (Y.cons Y.int (Y.cons (Y.op uL Y.bK Y.int Y.int) Y.nil))) (Y.op cG Y.bV (Y.vS 3) Y.int)) Y.nil))))) Y.nil)))))),?_⟩
 refine aq fun N hN=>?_;walk_at "rt";refine⟨sd,4,rfl,hs,by decide,by decide,fun way s1 hs1 w0 w1=>?_⟩
 walk_at "rt";refine hN _ ?_;clear hN N;refine aq fun N hN=>?_;by_cases a:way < 2
 ·wp_walk using if_pos a,Int.toNat_natCast,i6;exact⟨by decide,⟨by simp,by lia,by lia⟩,q _ _ hs1 (List.length_replicate ..) fun x hx=>by rw[List.eq_of_mem_replicate hx];exact w0⟩
 ·wp_walk using if_neg a;refine hN _ ?_;clear hN N;obtain⟨d,hd0,hd1,ed⟩:∃ d:Int,0 < d/\d < 2 ^ 60/\bX [L2.T.int 6,.int 1000000000000] (way - 2)=some (.int d):=by
   have:way=2\/way=3:=by lia
   rcases this with rfl | rfl
   ·exact⟨6,by decide,by decide,rfl⟩
   ·exact⟨1000000000000,by decide,by decide,rfl⟩
  walk_at "rt";refine⟨by lia,by lia,?_⟩
  refine dn (fun rest acc μ=>∃ (cs:List Int) (s4:L2.T),rest.length+cs.length=n/\acc=nI cs/\(∀ x∈cs,0<=x)/\cV s4/\μ=[.pb s4,.tr (.int (n:Int)),.tr (.int way)]) ⟨[],s1,by simp,rfl,(fun x hx=>by cases hx),hs1,rfl⟩ ?_ ?_
  ·rintro acc μ ⟨cs,s4,e,rfl,h0,hs4,rfl⟩;refine⟨trivial,?_⟩;walk_at "rt";exact q cs s4 hs4 (by simpa using e) h0
  ·rintro t r acc μ M ⟨cs,s4,e,rfl,h0,hs4,rfl⟩ k;rw[List.length_cons] at e;refine⟨trivial,by rw[bN];exact Nat.lt_of_le_of_lt (show _<=60 by lia) (by decide),?_⟩
   wp_walk using ed;refine⟨⟨by decide,by decide,by decide⟩,by decide,s4,d,rfl,hs4,hd0,hd1,fun v s5 hs5 v0 v1=>?_⟩
   walk_at "rt";refine k _ _ ⟨cs++[v],s5,by rw[List.length_append,List.length_singleton];lia,by rw[kg];rfl,fun x hx=>?_,hs5,rfl⟩
   rcases List.mem_append.mp hx with z | z
   ·exact h0 x z
   ·rw[List.mem_singleton.mp z];exact v0
def zB:fc:=fun args Q=>∃ n:Nat,args=[.int (n:Int)]/\n < 65536/\∀ z:Str,z.length=Builtin.Int.intBits (n:Int)->Q (.tr (.str z)) []
theorem rk{n:Nat}(h:0 < n):Builtin.Int.intBits (n:Int)=Builtin.Int.intBits ((n / 2:Nat):Int)+1:=by
 unfold Builtin.Int.intBits;rw[if_neg (by simp;lia)]
 show (n:Int).natAbs.log2+1=_;rw[Int.natAbs_natCast,Nat.log2_def];split
 ·rw[if_neg (by simp;lia),Int.natAbs_natCast]
 ·have e:n / 2=0:=by lia
  rw[e];rfl
theorem oj(T:Txt K mg)(F:HasFn K mg "_law_figures" aM ["number"]):ai P w K mg base bT 1 "_law_figures" ["number"] (spT K [false] zB):=by
 refine F.mR bU [false] rfl (by decide) (fun args Qt hl h f cdv A outer s H E hr=>?_)
 have hu:=bZ hr;obtain⟨n,rfl,hn,q⟩:=h;refine⟨_,(Y.ah (Y.set (i:=1) bU.nd rfl (by walk_at "lc") Y.str)
   (Y.ah (Y.iF PassesOwn.never (Y.bS pB Y.dO (Y.vS 0) Y.int) (Y.ah (Y.set (i:=1) bU.nd rfl (by walk_at "lc") (Y.op (Y.aP K rfl) Y.aN (Y.ix (Y.cA K rfl) Y.aS Y.str (Y.op dH Y.bK (Y.vS 0) Y.int)) (Y.vS 1)))
   (Y.aG (Y.set (i:=0) bU.nd rfl (by walk_at "lc") (Y.op Y.dv Y.bK (Y.vS 0) Y.int)))))
   (Y.aG (Y.ret (Y.vS 1))))),?_⟩
 refine aq fun N hN=>?_;walk_at "rt";refine hN _ ?_;clear hN N;refine aq fun N hN=>?_;refine⟨fun m μ=>∃ (k:Nat) (z:Str),m=k/\k<=n/\z.length+Builtin.Int.intBits (k:Int)=Builtin.Int.intBits (n:Int)/\z.length+k<=65536/\μ=[.tr (.int (k:Int)),.tr (.str z)],⟨n,n,Str.ofString "",rfl,Nat.le_refl _,by rw[show (Str.ofString "").length=0 from rfl,Nat.zero_add],by rw[show (Str.ofString "").length=0 from rfl];lia,rfl⟩,?_⟩
 rintro k μ ⟨_,z,rfl,hk,hz,hl2,rfl⟩;by_cases c:(0:Int) < (k:Int)
 ·wp_walk using if_pos c;refine aq fun M hM=>?_;obtain⟨ch,hch⟩:∃ ch:Nat,bX (Str.ofString "01").cps.toList ((k:Int) % 2)=some ch:=by
   have:(k:Int) % 2=0\/(k:Int) % 2=1:=by lia
   rcases this with e | e<;>rw[e]
   ·exact⟨48,by decide +kernel⟩
   ·exact⟨49,by decide +kernel⟩
  wp_walk using hch;have hk1:0 < k:=by lia
  have hb:=rk hk1;refine⟨by decide,by decide +kernel,Nat.le_trans (show _<=65536 by show 1+z.length<=65536;lia) (by decide),?_⟩
  refine hM _ ?_;clear hM M;walk_at "rt";have e2:(k:Int) / 2=((k / 2:Nat):Int):=by lia
  have el:((⟨#[ch]⟩:Str)++z).length=1+z.length:=by
   show ((⟨#[ch]⟩:Str)++z).cps.size=1+z.cps.size;exact Array.size_append
  refine⟨⟨by decide,by decide⟩,k / 2,by lia,k / 2,⟨#[ch]⟩++z,rfl,by lia,by rw[el];lia,by rw[el];lia,by rw[e2]⟩
 ·wp_walk using if_neg c;have hk0:k=0:=by lia
  subst hk0;refine hN _ ?_;clear hN N;walk_at "rt";exact q z (by rw[<- hz];rfl)
def zC:fc:=fun args Q=>∃ ls:List Nat,args=[.tup (nN ls),.int (ls.length:Int)]/\ls.length<=20/\(∀ x∈ls,1<=x/\x<=12)/\Kr.ks 12 ls<=2 ^ 12/\Q (.tr (.bl true)) []
theorem wZ(T:Txt K mg)(F:HasFn K mg "_law_are_lengths" au ["found","many"]):ai P w K mg base bT 1 "_law_are_lengths" ["found","many"] (spT K [false,false] zC):=by
 refine F.mR aC [false,false] rfl (by decide) (fun args Qt hl h f cdv A outer s H E hr=>?_)
 have hu:=bZ hr;obtain⟨ls,rfl,hn,hx,hk,q⟩:=h;refine⟨_,(Y.ah (Y.fM (Y.tw (Y.yx (Y.nJ (Y.iy K rfl (Y.Dr (C:="tuple") K rfl rfl T.cw (Y.vS 0) rfl T.cK (by decide +kernel)))) (Y.nL (Y.bS (Y.n_ K rfl (Nat.lt_of_succ_lt hu)) Y.vp (Y.cb (Y.aZ K rfl) Y.bI rfl T.dq (by decide +kernel) (Y.cons (Y.vS 0) Y.nil)) (Y.vS 1))))) (Y.aG (Y.ret Y.bl)) Y.cB)
   (Y.ah (Y.set (i:=2) aC.nd rfl (by walk_at "lc") Y.int)
   (Y.ah (Y.dQ PassesOwn.never rfl (Y.anyS K rfl (Y.vS 0)) (Y.aR (i:=3) aC.nd rfl (by walk_at "lc")) (Y.ah (Y.fM (Y.tw (Y.yx (Y.nJ (Y.iy K rfl (Y.Dr (C:="int") K rfl rfl T.cw (Y.vS 3) rfl T.sQ (by decide +kernel)))) (Y.yx (Y.iy K rfl (Y.Dr (C:="bool") K rfl rfl T.cw (Y.vS 3) rfl T.Ay (by decide +kernel))) (Y.yx (Y.bS mL Y.dO (Y.vS 3) Y.int) (Y.nL (Y.bS pB Y.dO (Y.vS 3) Y.int)))))) (Y.aG (Y.ret Y.bl)) Y.cB)
   (Y.ah (Y.set (i:=4) aC.nd rfl (by walk_at "lc") Y.int)
   (Y.ah (Y.dQ PassesOwn.never rfl (Y.jo rfl T.cF (Y.cons (Y.vS 3) Y.nil)) (Y.aR (i:=5) aC.nd rfl (by walk_at "lc")) (Y.aG (Y.set (i:=4) aC.nd rfl (by walk_at "lc") (Y.op Y.dv Y.bK (Y.vS 4) Y.int))))
   (Y.aG (Y.set (i:=2) aC.nd rfl (by walk_at "lc") (Y.op cG Y.bV (Y.vS 2) (Y.vS 4))))))))
   (Y.aG (Y.ret (Y.cmp tW Y.dO (Y.vS 2) Y.int)))))),?_⟩
 refine aq fun N hN=>?_;wp_walk using (show eK "tuple" "tuple"=true by decide),f_
 refine hN _ ?_;clear hN N;refine aq fun N hN=>?_;walk_at "rt";refine hN _ ?_;clear hN N;refine aq fun N hN=>?_;walk_at "rt";refine bR (fun rest μ=>∃ (done todo:List Nat) (o3 o4 o5:Option L2.T),done++todo=ls/\rest=nN todo/\μ=[.tr (.tup (nN ls)),.tr (.int (ls.length:Int)),.tr (.int (4096 - (Kr.ks 12 done:Int))),sl o3,sl o4,sl o5]) ⟨[],ls,none,none,none,rfl,rfl,rfl⟩ ?_ ?_
 ·rintro μ ⟨done,todo,o3,o4,o5,e1,e2,rfl⟩;have e3:todo=[]:=by
   cases todo with
   | nil=>rfl
   | cons=>cases e2
  subst e3;rw[List.append_nil] at e1;subst e1;show N _;refine hN _ ?_;clear hN N;wp_walk using decide_eq_true (show (0:Int)<=4096 - (Kr.ks 12 done:Int) by have:Kr.ks 12 done<=4096:=hk;lia)
  exact q
 ·rintro t r μ M ⟨done,todo,o3,o4,o5,e1,e2,rfl⟩ k
  cases todo with
  | nil=>cases e2
  | cons x todo =>
   obtain⟨rfl,rfl⟩:=List.cons.inj e2;have hx1:=hx x (by rw[<- e1];simp)
   walk_at "rt";refine aq fun M2 h2=>?_;wp_walk using (show eK "int" "int"=true by decide),(show eK "int" "bool"=false by decide),if_neg (show ¬ (x:Int) < 1 by lia),if_neg (show ¬ (12:Int) < (x:Int) by lia)
   refine h2 _ ?_;clear h2 M2;refine aq fun M2 h2=>?_;walk_at "rt";refine h2 _ ?_;clear h2 M2;refine aq fun M2 h2=>?_;walk_at "rt";refine⟨by lia,by lia,?_⟩
   refine bR (fun rest μ=>∃ (j:Nat) (o5:Option L2.T),j+rest.length=x/\μ=[.tr (.tup (nN ls)),.tr (.int (ls.length:Int)),.tr (.int (4096 - (Kr.ks 12 done:Int))),.tr (.int (x:Int)),.tr (.int ((2 ^ (12 - j):Nat):Int)),sl o5]) ⟨0,o5,by simp,rfl⟩ ?_ ?_
   ·rintro μ ⟨j,o5,hj,rfl⟩;have hj2:j=x:=by simpa using hj
    subst hj2;show M2 _;refine h2 _ ?_;clear h2 M2;walk_at "rt";refine k _ ⟨done++[j],todo,some (.int (j:Int)),some (.int ((2 ^ (12 - j):Nat):Int)),o5,by rw[<- e1];simp,rfl,?_⟩
    have e3:((Kr.ks 12 (done++[j]):Nat):Int)=(Kr.ks 12 done:Int)+((2 ^ (12 - j):Nat):Int):=by
     rw[Kr.eF,Int.natCast_add];rfl
    rw[e3,Int.sub_sub];rfl
   ·rintro t r μ M3 ⟨j,o5,hj,rfl⟩ k3;rw[List.length_cons] at hj;walk_at "rt";refine⟨⟨by decide,by decide⟩,k3 _ ⟨j+1,some t,by lia,?_⟩⟩
    have e3:(((2 ^ (12 - j):Nat):Int)) / 2=((2 ^ (12 - (j+1)):Nat):Int):=by
     rw[show 12 - j=(12 - (j+1))+1 by lia,Nat.pow_succ]
     lia
    rw[e3];rfl
namespace Pm
def pw:List Int->List Int
 | a::b::r=>(a+b)::pw r
 | _=>[]
theorem zp:∀ A:List It,pw (A.map fun x=>x.1)=(pk A).map fun x=>x.1
 | []=>by simp[pw,pk]
 | [a]=>by simp[pw,pk]
 | a::b::r=>by rw[pk,List.map_cons,List.map_cons,List.map_cons,pw,zp r]
theorem up_eq:∀ {a b:List Int},a.Perm b->a.Pairwise (·<=·)->b.Pairwise (·<=·)->a=b:=by
 intro a
 induction a with
 | nil=>intro b p _ _;exact p.symm.eq_nil.symm ▸ rfl
 | cons x a ih =>
  intro b p ha hb
  cases b with
  | nil=>exact absurd p.eq_nil (by simp)
  | cons y b =>
   have ha2:=List.pairwise_cons.mp ha;have hb2:=List.pairwise_cons.mp hb;have hxy:x=y:=by
    have h1:x∈y::b:=p.mem_iff.mp (by simp)
    have h2:y∈x::a:=p.mem_iff.mpr (by simp)
    rcases List.mem_cons.mp h1 with e | e
    ·exact e
    ·rcases List.mem_cons.mp h2 with e' | e'
     ·exact e'.symm
     ·exact Int.le_antisymm (ha2.1 y e') (hb2.1 x e)
   subst hxy;rw[ih p.cons_inv ha2.2 hb2.2]
theorem yK{c:Nat->Int}{n d:Nat}{so:List Int}(hp:so.Perm (((List.range n).map c)++pw ((shelf c n d).map fun x=>x.1)))(hu:so.Pairwise (·<=·)):so=(shelf c n (d+1)).map fun x=>x.1:=by
 refine up_eq (hp.trans ?_) hu ?_
 ·rw[zp];refine List.Perm.trans ?_ ((cP (coins c n++pk (shelf c n d))).map _).symm;rw[List.map_append];unfold coins;rw[List.map_map];exact .refl _
 ·exact List.pairwise_map.mpr (mF (d+1))
end Pm
def nV(cs:List Int):Int:=Pm.wt ((Pm.shelf (cQ cs) cs.length 12).take (2*cs.length - 2))
theorem yf(cs:List Int):(List.range cs.length).map (cQ cs)=cs:=by
 apply List.ext_getElem
 ·simp
 ·intro i h1 h2;simp[cQ,h2]
theorem xY{cs:List Int}(hc:∀ c∈cs,0<=c)(h2:2<=cs.length)(h20:cs.length<=20):dot cs (nZ (ay cs 12))=nV cs:=by
 have hn:cs.length<=2 ^ 12:=Nat.le_trans h20 (by decide)
 have hL:=jO (b:=12) hc (by lia) h20 (by decide) (by decide) hn
 obtain⟨w1,w2,w3,w4⟩:=Pm.qA (Ar hc) h2 hn;have hlen:((List.range cs.length).map (Pm.dB (cQ cs) cs.length 12)).length=cs.length:=by rw[List.length_map,List.length_range]
 have hrng:∀ x∈(List.range cs.length).map (Pm.dB (cQ cs) cs.length 12),1<=x/\x<=12:=fun x hx=>by
  obtain⟨i,hi,rfl⟩:=List.mem_map.mp hx;exact⟨w2 i (List.mem_range.mp hi),w1 i⟩
 have hdot:dot cs (nZ ((List.range cs.length).map (Pm.dB (cQ cs) cs.length 12)))=nV cs:=by
  unfold nV;rw[iL _ _ hlen,w4];exact Pm.d7 fun i hi=>by rw[dF _ hi]
 refine Int.le_antisymm ?_ ?_
 ·rw[<- hdot];refine hL.low _ hlen hrng ?_;rw[Pm.gw (D:=12) (by decide) fun x hx=>(hrng x hx).2,Pm.ma,hlen]
  rw[Pm.cu (g:=fun i=>2 ^ (12 - Pm.dB (cQ cs) cs.length 12 i)) fun i hi=>by rw[dF _ hi]]
  exact w3
 ·unfold nV;rw[iL _ _ hL.len];refine Pm.i8 (Ar hc) (by lia) (l:=fun i=>(ay cs 12).getD i 0) (fun i hi=>?_) ?_
  ·rw[List.getD_eq_getElem?_getD,List.getElem?_eq_getElem (by rw[hL.len];exact hi)]
   exact (hL.dh _ (List.getElem_mem _)).2
  ·have hk:=hL.ks;rw[Pm.gw (D:=12) (by decide) (fun x hx=>(hL.dh x hx).2),Pm.ma,hL.len] at hk
   exact hk
theorem nH:∀ so:List Int,Pm.pw so=(List.range (so.length / 2)).map fun k=>so.getD (2*k) 0+so.getD (2*k+1) 0
 | []=>by simp[Pm.pw]
 | [a]=>by simp[Pm.pw]
 | a::b::r=>by
  rw[Pm.pw,nH r,show (a::b::r).length / 2=r.length / 2+1 by simp only[List.length_cons];lia,List.range_succ_eq_map,List.map_cons,List.map_map]
  rfl
theorem at_getD{so:List Int}{i:Nat}(h:i < so.length):bX (nI so) (i:Int)=some (.int (so.getD i 0)):=cN (by unfold nI;rw[List.getElem?_map,List.getElem?_eq_getElem h,List.getD_eq_getElem?_getD,List.getElem?_eq_getElem h];rfl)
theorem rA(xs:List Int)(n:Nat):Y.cq (nI xs) none (some (n:Int))=nI (xs.take n):=by
 unfold Y.cq;rw[HT.fI,HT.gR,Nat.sub_zero,List.drop_zero];unfold nI;rw[List.length_map,<- List.map_take];congr 1;rw[List.take_eq_take_iff];lia
def fO(cs:List Int)(d:Nat):List Int:=(Pm.shelf (cQ cs) cs.length d).map fun x=>x.1
theorem oC{cs:List Int}(h:1<=cs.length)(d:Nat):(fO cs d).length<=2*cs.length - 1:=by unfold fO;rw[List.length_map];exact gj _ h d
def zF:fc:=fun args Q=>∃ cs:List Int,args=[.lst (nI cs)]/\2<=cs.length/\cs.length<=20/\Q (.tr (.int (nV cs))) []
theorem yj(T:Txt K mg)(F:HasFn K mg "_law_least_sum" ax ["counts"]):ai P w K mg base bT 1 "_law_least_sum" ["counts"] (spT K [false] zF):=by
 refine F.mR a_ [false] rfl (by decide) (fun args Qt hl h f cdv A outer s H E hr=>?_)
 have hu:=bZ hr;obtain⟨cs,rfl,hn2,hn,q⟩:=h;refine⟨_,(Y.ah (Y.set (i:=1) a_.nd rfl (by walk_at "lc") (Y.lst Y.nil))
   (Y.ah (Y.set (i:=2) a_.nd rfl (by walk_at "lc") (Y.lst Y.nil))
   (Y.ah (Y.dQ PassesOwn.never rfl (Y.jo rfl T.cF (Y.cons Y.int Y.nil)) (Y.aR (i:=3) a_.nd rfl (by walk_at "lc")) (Y.ah (Y.set (i:=2) a_.nd rfl (by walk_at "lc") (Y.cb (Y.iN K rfl) Y.lG rfl T.ia (by decide +kernel) (Y.cons (Y.op (Y.aP K rfl) Y.aN (Y.vS 0) (Y.vS 1)) Y.nil)))
   (Y.aG (Y.C4 (j:=1) a_.nd rfl (by walk_at "lc") (osc:=aa ax) (ON:=["counts","pairs","some","turn"]) (own:=["k"]) (N:=["k","counts","pairs","some","turn"]) ⟨rfl,by decide +kernel,rfl,by decide +kernel,by decide +kernel,by decide +kernel,by decide +kernel,by decide +kernel⟩ rfl rfl rfl rfl (Y.jo rfl T.cF (Y.cons (Y.op Y.dv Y.bK (Y.cb (Y.aZ K rfl) Y.bI rfl T.dq (by decide +kernel) (Y.cons (Y.vS 2) Y.nil)) Y.int) Y.nil)) (fun _ _ _ _=>(Z.aR (i:=0) (show List.Nodup (["k","counts","pairs","some","turn"]:List Str) by decide +kernel) rfl (by walk_at "lc"))) (fun _ _ _ _=>Y.sC) (fun _ _ _ _=>(Y.op (Y.aP K rfl) Y.aN (Y.ix (Y.cA K rfl) Y.aS (Y.vS 3) (Y.op (Y.b8 K rfl) Y.bo Y.int (Y.vS 0))) (Y.ix (Y.cA K rfl) Y.aS (Y.vS 3) (Y.op (Y.aP K rfl) Y.aN (Y.op (Y.b8 K rfl) Y.bo Y.int (Y.vS 0)) Y.int))))))))
   (Y.aG (Y.ret (Y.cb (Y.jI K rfl rfl) Y.vd rfl T.zE (by decide +kernel) (Y.cons (Y.iM K rfl (Y.vS 2) Y.AY (Y.Bg (Y.op cG Y.bV (Y.op (Y.b8 K rfl) Y.bo Y.int (Y.cb (Y.aZ K rfl) Y.bI rfl T.dq (by decide +kernel) (Y.cons (Y.vS 0) Y.nil))) Y.int))) Y.nil))))))),?_⟩
 refine aq fun N hN=>?_;walk_at "rt";refine hN _ ?_;clear hN N;refine aq fun N hN=>?_;walk_at "rt";refine hN _ ?_;clear hN N;refine aq fun N hN=>?_;walk_at "rt";refine⟨by decide,by decide,?_⟩
 rw[List.range_eq_range'];refine bR (fun rest μ=>∃ (d:Nat) (o:Option L2.T),d<=12/\(rest=(List.range' d (12 - d)).map fun k:Nat=>L2.T.int (0+(k:Int)))/\μ=[.tr (.lst (nI cs)),.bx (.lst (nI (Pm.pw (fO cs d)))),.bx (.lst (nI (fO cs d))),sl o]) ⟨0,none,by decide,rfl,rfl⟩ ?_ ?_
 ·rintro μ ⟨d,o,hd,e,rfl⟩;have hd2:d=12:=by
   have:=congrArg List.length e;rw[List.length_map,List.length_range',List.length_nil] at this;lia
  subst hd2;show N _;refine hN _ ?_;clear hN N;have ec:(2*(cs.length:Int) - 2)=((2*cs.length - 2:Nat):Int):=by lia
  wp_walk using bN,ec,rA;refine⟨.inl (by decide),(fO cs 12).take (2*cs.length - 2),rfl,?_⟩
  have es:((fO cs 12).take (2*cs.length - 2)).sum=nV cs:=by
   unfold fO nV Pm.wt;rw[List.map_take]
  rw[es];exact q
 ·rintro t r μ M ⟨d,o,hd,e,rfl⟩ k;have hd2:d < 12:=by
   have:=congrArg List.length e;rw[List.length_map,List.length_range',List.length_cons] at this;lia
  rw[show 12 - d=(12 - (d+1))+1 by lia,List.range'_succ,List.map_cons] at e
  obtain⟨rfl,rfl⟩:=List.cons.inj e;clear e;have hw:=oC (cs:=cs) (by lia) d
  have hpw:(Pm.pw (fO cs d)).length<=20:=by rw[nH,List.length_map,List.length_range];lia
  walk_at "rt";refine aq fun M2 h2=>?_;wp_walk using bN;refine⟨Nat.le_trans (show _<=100 by lia) (by decide),cs++Pm.pw (fO cs d),by rw[<- kg];rfl,by rw[List.length_append];lia,fun so hp hu2=>?_⟩
  have eso:so=fO cs (d+1):=Pm.yK (by rw[yf];exact hp) hu2
  subst eso;refine h2 _ ?_;clear h2 M2;show Y.kq _ _ _ [.tr (.lst (nI cs)),.bx (.lst (nI (Pm.pw (fO cs d)))),.bx (.lst (nI (fO cs (d+1)))),.tr (.int (0+(d:Int)))];wp_walk using bN;have hw1:=oC (cs:=cs) (by lia) (d+1)
  refine⟨⟨by decide,by decide⟩,by lia,by lia,?_⟩
  have en:(((fO cs (d+1)).length:Int) / 2).toNat=(fO cs (d+1)).length / 2:=by lia
  rw[en,List.range_eq_range'];refine dn (fun rest acc μ=>∃ i:Nat,i<=(fO cs (d+1)).length / 2/\(rest=(List.range' i ((fO cs (d+1)).length / 2 - i)).map fun k:Nat=>L2.T.int (0+(k:Int)))/\acc=nI ((List.range i).map fun k=>(fO cs (d+1)).getD (2*k) 0+(fO cs (d+1)).getD (2*k+1) 0)/\μ=[.tr (.lst (nI cs)),.bx (.lst (nI (Pm.pw (fO cs d)))),.bx (.lst (nI (fO cs (d+1)))),.tr (.int (0+(d:Int)))]) ⟨0,Nat.zero_le _,rfl,rfl,rfl⟩ ?_ ?_
  ·rintro acc μ ⟨i,hi,e,rfl,rfl⟩;have hi2:i=(fO cs (d+1)).length / 2:=by
    have:=congrArg List.length e;rw[List.length_map,List.length_range',List.length_nil] at this;lia
   subst hi2;refine⟨trivial,?_⟩;walk_at "rt";refine k _ ⟨d+1,some (.int (0+(d:Int))),hd2,rfl,?_⟩;rw[nH];rfl
  ·rintro t r acc μ M ⟨i,hi,e,rfl,rfl⟩ k;have hi2:i < (fO cs (d+1)).length / 2:=by
    have:=congrArg List.length e;rw[List.length_map,List.length_range',List.length_cons] at this;lia
   rw[show (fO cs (d+1)).length / 2 - i=((fO cs (d+1)).length / 2 - (i+1))+1 by lia,List.range'_succ,List.map_cons] at e
   obtain⟨rfl,rfl⟩:=List.cons.inj e;clear e;refine⟨trivial,by rw[bN,List.length_map,List.length_range];exact Nat.lt_of_le_of_lt (show i<=100 by lia) (by decide),?_⟩
   have e1:(2:Int)*(0+(i:Int))=((2*i:Nat):Int):=by lia
   have a1:=at_getD (so:=fO cs (d+1)) (i:=2*i) (by lia)
   have a2:bX (nI (fO cs (d+1))) (((2*i:Nat):Int)+1)=_:=at_getD (so:=fO cs (d+1)) (i:=2*i+1) (by lia)
   wp_walk using e1,a1,a2;refine⟨.inl (by decide),.inl (by decide),?_⟩
   refine k _ _ ⟨i+1,hi2,rfl,?_,rfl⟩;rw[List.range_succ,List.map_append,kg];rfl
theorem mE:∀ (ns:List Int) (i:Nat),(nI ns).eraseIdx i=nI (ns.eraseIdx i)
 | [],_=>rfl
 | _::_,0=>rfl
 | n::ns,i+1=>congrArg (L2.T.int n::·) (mE ns i)
theorem cons_of{ue:UE}{us:UA}{μ:Mu}{Q:List R->Mu->Prop}(h:ue μ fun r μ1=>us μ1 fun rs μ2=>Q (r.d::rs) μ2):Y.eM ue us μ Q:=h
theorem Dv{u:U2}{ua ub:UE}{μ:Mu}{Q:R->Mu->Prop}(h:ua μ fun r1 μ1=>ub μ1 fun r2 μ2=>u r1.d r2.d μ2 Q):Y.sE u ua ub μ Q:=h
theorem wA{um:Y.UM}{us:UA}{μ:Mu}{E:Ed}{j:Nat}{ts:List L2.T}(h:μ[j]?=some (.bx (.lst ts)))(q:us μ fun rs μ2=>um j rs μ2 fun _ μ'=>E.nx μ'):Y.jP (Y.Cw um (Y.fF j) us) E μ:=by
 rw[L2.A.jP,L2.A.Cw,L2.A3.jf,h];show Y.D7 ((μ[j]?).bind Sl.box) _;rw[h];exact q
theorem BX{us:UA}{μ:Mu}{Q:R->Mu->Prop}(h:us μ fun rs μ'=>match Y.trees rs with | some ts=>ts.length<=sizeLine/\Q (.tr (.tup ts)) μ' | none=>False):Y.vL us μ Q:=h
theorem FG{t:L2.T}{μ:Mu}{Q:R->Mu->Prop}(h:Q (.tr t) μ):Y.uC t μ Q:=h
theorem GW{u:US}{E:Ed}{μ:Mu}(h:∀ E':Ed,(∀ μ',E.nx μ'->E'.nx μ')->u E' μ):u E μ:=h E fun _ z=>z
def v9:fc:=fun args Q=>∃ s:L2.T,args=[s]/\cV s/\∀ (rs:List Row) (cs:List Int) (s':L2.T),cV s'->rs.length<=60->(∀ r∈rs,r.Ok 60)->cs.length=rs.length->(∀ x∈cs,0<=x)->Q (.fr (.lst [.tup (rT rs),.tup (nI cs)])) [s']
theorem vy(T:Txt K mg)(F:HasFn K mg "_law_steep" bg ["seed"])(h_law_draw:ai P w K mg base bT 1 "_law_draw" ["seed","most"] (spT K [true,false] fm)):ai P w K mg base bT 2 "_law_steep" ["seed"] (spT K [true] v9):=by
 refine F.mR aF [true] rfl (by decide) (fun args Qt hl h f cdv A outer s H E hr=>?_)
 have hu:=bZ hr;obtain⟨sd,rfl,hs,q⟩:=h;refine⟨_,(Y.ah (Y.set (i:=1) aF.nd rfl (by walk_at "lc") (Y.ct (Y.mT K rfl rfl) Y.yD rfl T.u_ (by decide +kernel) (Y.cons (Y.ct Y.mP Y.uR rfl T.cF (by decide +kernel) (Y.cons Y.int Y.nil)) Y.nil)))
   (Y.ah (Y.set (i:=2) aF.nd rfl (by walk_at "lc") Y.int)
   (Y.ah (Y.set (i:=3) aF.nd rfl (by walk_at "lc") (Y.op (Y.aP K rfl) Y.aN Y.int (Y.fn K rfl h_law_draw (hr.mono (by decide)) rfl aH (Y.cons (Y.vS 0) (Y.cons Y.int Y.nil)))))
   (Y.ah (Y.set (i:=4) aF.nd rfl (by walk_at "lc") (Y.lst Y.nil))
   (Y.ah (Y.set (i:=5) aF.nd rfl (by walk_at "lc") (Y.lst Y.nil))
   (Y.ah (Y.iF PassesOwn.never (Y.bS (Y.n_ K rfl (Nat.lt_of_succ_lt hu)) Y.vp (Y.vS 1) (Y.lst Y.nil)) (Y.ah (Y.set (i:=6) aF.nd rfl (by walk_at "lc") (Y.bm K rfl PySem.F.slot_list_pop PySem.F.type_list_pop uS Y.vv (Y.vS 1) (Y.cons (Y.fn K rfl h_law_draw (hr.mono (by decide)) rfl aH (Y.cons (Y.vS 0) (Y.cons (Y.cb (Y.aZ K rfl) Y.bI rfl T.dq (by decide +kernel) (Y.cons (Y.vS 1) Y.nil)) Y.nil))) Y.nil)))
   (Y.ah (Y.set (i:=7) aF.nd rfl (by walk_at "lc") Y.int)
   (Y.ah (Y.dQ PassesOwn.never rfl (Y.jo rfl T.cF (Y.cons (Y.op cG Y.bV (Y.vS 6) Y.int) Y.nil)) (Y.aR (i:=8) aF.nd rfl (by walk_at "lc")) (Y.aG (Y.set (i:=7) aF.nd rfl (by walk_at "lc") (Y.op (Y.aP K rfl) Y.aN (Y.vS 7) (Y.vS 7)))))
   (Y.ah (Y.expr (Y.bm K rfl PySem.F.slot_list_append PySem.F.type_list_append dD Y.eG (Y.vS 4) (Y.cons (Y.tup (Y.cons Y.str (Y.cons (Y.ix (Y.cA K rfl) Y.aS Y.str (Y.fn K rfl h_law_draw (hr.mono (by decide)) rfl aH (Y.cons (Y.vS 0) (Y.cons Y.int Y.nil)))) (Y.cons (Y.op (Y.b8 K rfl) Y.bo (Y.ct jE Y.t6 rfl T.sQ (by decide +kernel) (Y.cons (Y.cmp pB Y.dO (Y.vS 6) Y.int) Y.nil)) (Y.op (Y.aP K rfl) Y.aN (Y.vS 7) (Y.fn K rfl h_law_draw (hr.mono (by decide)) rfl aH (Y.cons (Y.vS 0) (Y.cons (Y.vS 7) Y.nil))))) Y.nil)))) Y.nil)))
   (Y.ah (Y.expr (Y.bm K rfl PySem.F.slot_list_append PySem.F.type_list_append dD Y.eG (Y.vS 5) (Y.cons (Y.vS 2) Y.nil)))
   (Y.aG (Y.set (i:=2) aF.nd rfl (by walk_at "lc") (Y.op (Y.b8 K rfl) Y.bo (Y.vS 2) (Y.vS 3))))))))))
   (Y.aG (Y.ret (Y.lst (Y.cons (Y.ct (Y.dw K rfl) Y.eC rfl T.cK (by decide +kernel) (Y.cons (Y.vS 4) Y.nil)) (Y.cons (Y.ct (Y.dw K rfl) Y.eC rfl T.cK (by decide +kernel) (Y.cons (Y.vS 5) Y.nil)) Y.nil))))))))))),?_⟩
 refine aq fun N hN=>?_;walk_at "rt";refine⟨⟨by decide,by decide,by decide,by decide,by decide⟩,?_⟩
 refine hN _ ?_;clear hN N;refine aq fun N hN=>?_;walk_at "rt";refine hN _ ?_;clear hN N;refine aq fun N hN=>?_;walk_at "rt";refine⟨sd,2,rfl,hs,by decide,by decide,fun f s1 hs1 f0 f1=>?_⟩
 walk_at "rt";refine hN _ ?_;clear hN N;refine aq fun N hN=>?_;walk_at "rt";refine hN _ ?_;clear hN N;refine aq fun N hN=>?_;walk_at "rt";refine hN _ ?_;clear hN N;refine aq fun N hN=>?_;refine⟨fun m μ=>∃ (ls cs:List Int) (rs:List Row) (c:Int) (s':L2.T) (o6 o7 o8:Option L2.T),m=ls.length/\(∀ x∈ls,0<=x/\x<=16)/\ls.length+rs.length=17/\cs.length=rs.length/\0<=c/\(∀ x∈cs,0<=x)/\(∀ r∈rs,r.Ok 60)/\cV s'/\μ=[.pb s',.bx (.lst (nI ls)),.tr (.int c),.tr (.int (2+f)),.bx (.lst (rT rs)),.bx (.lst (nI cs)),sl o6,sl o7,sl o8],⟨17,(List.range 17).map fun k:Nat=>(0+(k:Int)),[],[],1,s1,none,none,none,rfl,by decide,rfl,rfl,by decide,(fun _ h=>by cases h),(fun _ h=>by cases h),hs1,?_⟩,?_⟩
 ·unfold nI;rw[List.map_map];rfl
 rintro m μ ⟨ls,cs,rs,c,s',o6,o7,o8,rfl,hls,hl17,hcr,hc,hcs,hrs,hs',rfl⟩;have hfl:(nI ls).all aT=true:=List.all_eq_true.mpr fun x hx=>by obtain⟨y,_,rfl⟩:=List.mem_map.mp hx;rfl
 by_cases h0:ls=[]
 ·subst h0;wp_walk using (show Y.kL (nI []) []=true from rfl);refine⟨rfl,rfl,?_⟩;refine hN _ ?_;clear hN N;walk_at "rt";exact⟨by decide,q rs cs s' hs' (by rw[List.length_nil] at hl17;lia) hrs hcr hcs⟩
 ·have e0:Y.kL (nI ls) []=false:=by
   cases ls with
   | nil=>exact absurd rfl h0
   | cons=>rfl
  have h1:1<=ls.length:=List.length_pos_iff.mpr h0;wp_walk using e0;refine⟨hfl,rfl,?_⟩;clear hfl e0 h0 hN;refine GW fun EE hE=>?_;refine aq fun M hM=>?_;wp_walk using bN;refine⟨s',(ls.length:Int),rfl,hs',by lia,by lia,fun p s2 hs2 p0 p1=>?_⟩
  walk_at "rt";obtain⟨k,rfl⟩:∃ k:Nat,p=k:=⟨p.toNat,by lia⟩
  have hk:k < ls.length:=by lia
  refine⟨by lia,by lia,k,.int ls[k],?_,?_,?_⟩
  ·rw[bN];unfold seqIndex?;simp;lia
  ·unfold nI;rw[List.getElem?_map,List.getElem?_eq_getElem hk];rfl
  walk_at "rt";refine hM _ ?_;clear hM M;have hx:=hls ls[k] (List.getElem_mem hk);generalize ls[k]=x at *;refine aq fun M hM=>?_;walk_at "rt";refine hM _ ?_;clear hM M;refine aq fun M hM=>?_;walk_at "rt";refine⟨by lia,by lia,?_⟩
  refine bR (fun rest μ=>∃ (j:Nat) (v:Int) (o8:Option L2.T),j+rest.length=(x - 1).toNat/\v=2 ^ j/\μ=[.pb s2,.bx (.lst (nI (ls.eraseIdx k))),.tr (.int c),.tr (.int (2+f)),.bx (.lst (rT rs)),.bx (.lst (nI cs)),.tr (.int x),.tr (.int v),sl o8]) ⟨0,1,o8,by simp,rfl,by rw[<- mE]⟩ ?_ ?_
  ·rintro μ ⟨j,v,o8,hj,hv,rfl⟩;show M _;refine hM _ ?_;clear hM M;rw[List.length_nil,Nat.add_zero] at hj;have h1:(1:Int)<=2 ^ j:=Int.le_of_lt_add_one (by have:=Int.pow_pos (n:=2) (m:=j) (by decide);lia)
   have h2:(2:Int) ^ j<=2 ^ 15:=by
    have:2 ^ j<=2 ^ 15:=Nat.pow_le_pow_right (by decide) (by lia)
    exact_mod_cast this
   rw[<- hv] at h1 h2;refine aq fun M hM=>?_;have idx:∀ Q:R->Mu->Prop,(∀ (b:Nat) (s3:L2.T),cV s3->b < 8->Q (.tr (.str (dP b))) [.pb s3,.bx (.lst (nI (ls.eraseIdx k))),.tr (.int c),.tr (.int (2+f)),.bx (.lst (rT rs)),.bx (.lst (nI cs)),.tr (.int x),.tr (.int v),sl o8])->Y.sE Y.xG (Y.uC (L2.T.str (Str.ofString "abcdefgh"))) (Y.za [true,false] fm (Y.eM (Y.fF 0) (Y.eM (Y.uC (L2.T.int 8)) Y.mK))) [.pb s2,.bx (.lst (nI (ls.eraseIdx k))),.tr (.int c),.tr (.int (2+f)),.bx (.lst (rT rs)),.bx (.lst (nI cs)),.tr (.int x),.tr (.int v),sl o8] Q:=fun Q hQ=>by
    walk_at "rt";refine⟨s2,8,rfl,hs2,by decide,by decide,fun b s3 hs3 b0 b1=>?_⟩
    have hb:=oA b0 b1;wp_walk using hb;exact⟨by decide +kernel,hQ b.toNat s3 hs3 (by lia)⟩
   have int1:∀ (s3:L2.T) (Q:R->Mu->Prop),(∀ g:Int,g=0\/0 < x/\g=1->Q (.tr (.int g)) [.pb s3,.bx (.lst (nI (ls.eraseIdx k))),.tr (.int c),.tr (.int (2+f)),.bx (.lst (rT rs)),.bx (.lst (nI cs)),.tr (.int x),.tr (.int v),sl o8])->Y.zm Y.qB (Y.eM (Y.sE (Y.pY (Y.EG fun i j=>decide (j < i))) (Y.fF 6) (Y.uC (L2.T.int 0))) Y.mK) [.pb s3,.bx (.lst (nI (ls.eraseIdx k))),.tr (.int c),.tr (.int (2+f)),.bx (.lst (rT rs)),.bx (.lst (nI cs)),.tr (.int x),.tr (.int v),sl o8] Q:=fun s3 Q hQ=>by
    walk_at "rt";refine hQ _ ?_;split
    ·exact .inr ⟨by assumption,rfl⟩
    ·exact .inl rfl
   have add1:∀ (s3:L2.T) (Q:R->Mu->Prop),cV s3->(∀ (d:Int) (s4:L2.T),cV s4->0<=d->d < v->Q (.tr (.int (v+d))) [.pb s4,.bx (.lst (nI (ls.eraseIdx k))),.tr (.int c),.tr (.int (2+f)),.bx (.lst (rT rs)),.bx (.lst (nI cs)),.tr (.int x),.tr (.int v),sl o8])->Y.sE Y.pf (Y.fF 7) (Y.za [true,false] fm (Y.eM (Y.fF 0) (Y.eM (Y.fF 7) Y.mK))) [.pb s3,.bx (.lst (nI (ls.eraseIdx k))),.tr (.int c),.tr (.int (2+f)),.bx (.lst (rT rs)),.bx (.lst (nI cs)),.tr (.int x),.tr (.int v),sl o8] Q:=fun s3 Q hs3 hQ=>by
    walk_at "rt";refine⟨s3,v,rfl,hs3,Int.lt_of_lt_of_le (by decide) h1,Int.lt_of_le_of_lt h2 (by decide),fun d s4 hs4 d0 d1=>?_⟩
    walk_at "rt";exact hQ d s4 hs4 d0 d1
   refine wA (ts:=rT rs) rfl ?_;refine cons_of ?_;refine BX ?_;refine cons_of ?_;refine FG ?_;refine cons_of ?_;refine idx _ fun b s3 hs3 hb=>?_;refine cons_of ?_;refine Dv ?_;refine int1 s3 _ fun g hg=>?_;refine add1 s3 _ hs3 fun d s4 hs4 d0 d1=>?_;obtain⟨n,hn,en⟩:∃ n:Nat,n < 65536/\g*(v+d)=n:=by
    rcases hg with rfl | ⟨_,rfl⟩
    ·exact⟨0,by decide,by rw[Int.zero_mul];rfl⟩
    ·clear hE hM idx int1 add1 hv;exact⟨(v+d).toNat,by lia,by lia⟩
   clear idx int1 add1;wp_walk using en;have sz:(17:Nat) < sizeLine:=by decide
   refine⟨.inl ?_,by decide,?_,?_⟩
   ·rcases hg with rfl | ⟨_,rfl⟩<;>exact⟨by decide,by decide⟩
   ·unfold rT;rw[List.length_map];clear hE hM;lia
   refine hM _ ?_;clear hM M;have er:rT rs++[L2.T.tup [L2.T.str (Str.ofString "put"),L2.T.str (dP b),L2.T.int (n:Int)]]=rT (rs++[.put b n]):=by unfold rT;rw[List.map_append];rfl
   rw[er];refine aq fun M hM=>?_;walk_at "rt";refine⟨?_,?_⟩
   ·rw[bN];clear hE hM;lia
   refine hM _ ?_;clear hM M;walk_at "rt";have hel:(ls.eraseIdx k).length=ls.length - 1:=List.length_eraseIdx_of_lt hk;have hc2:0<=c*(2+f):=Int.mul_nonneg hc (by clear hE;lia)
   refine⟨.inr (by clear hE;lia),hE _ ⟨(ls.eraseIdx k).length,?_,⟨ls.eraseIdx k,cs++[c],rs++[.put b n],c*(2+f),s4,some (.int x),some (.int v),o8,rfl,fun y hy=>hls y (List.mem_of_mem_eraseIdx hy),?_,?_,hc2,?_,?_,hs4,?_⟩⟩⟩
   ·clear hE;lia
   ·rw[List.length_append,hel];clear hE;simp only[List.length_cons,List.length_nil];lia
   ·rw[List.length_append,List.length_append,hcr];rfl
   ·intro y hy;rcases List.mem_append.mp hy with hy | hy
    ·exact hcs y hy
    ·rw[List.mem_singleton.mp hy];exact hc
   ·intro y hy;rcases List.mem_append.mp hy with hy | hy
    ·exact hrs y hy
    ·rw[List.mem_singleton.mp hy];exact⟨hb,hn⟩
   ·unfold nI;rw[List.map_append];rfl
  ·rintro t r μ M2 ⟨j,v,o8,hj,hv,rfl⟩ k;walk_at "rt";refine k _ ⟨j+1,v+v,some t,by rw[List.length_cons] at hj;lia,by rw[hv,Int.pow_succ];lia,rfl⟩
def e7(l:List Int)(i:Nat)(c:Int):List Int:=l.set i (l.getD i 0+c)
def d_(l:List Int)(is:List Nat)(c:Int):List Int:=is.foldl (fun l i=>e7 l i c) l
def Row.wi:Row->Nat
 | .put _ _=>0
 | .two u _ _=>1+u
 | .one u _=>4+u
 | .jump _=>6
 | .zero _ _=>7
 | .halt=>8
def fH(n:Nat):Nat:=Builtin.Int.intBits (n:Int)
def Row.cls:Row->List Nat
 | .put _ n=>[fH n]
 | _=>[]
def Row.uZ:Row->List Nat
 | .put b _=>[b]
 | .two _ a b=>[a,b]
 | .one _ b=>[b]
 | .jump _=>[]
 | .zero b _=>[b]
 | .halt=>[]
structure fN where
 w:List Int
 c:List Int
 b:List Int
def fN.row(s:fN)(r:Row)(c:Int):fN:=⟨e7 s.w r.wi c,d_ s.c r.cls c,d_ s.b r.uZ c⟩
def counted:List Row->List Int->fN->fN
 | r::rs,c::cs,s=>counted rs cs (s.row r c)
 | _,_,s=>s
def cy:fN:=⟨List.replicate 9 0,List.replicate 17 0,List.replicate 8 0⟩
theorem cY(l:List Int)(i:Nat)(c:Int):(e7 l i c).length=l.length:=List.length_set
theorem dE:∀ (is:List Nat) (l:List Int) (c:Int),(d_ l is c).length=l.length
 | [],_,_=>rfl
 | i::is,l,c=>by show (d_ (e7 l i c) is c).length=_;rw[dE is,cY]
theorem qF{l:List Int}{i:Nat}{c:Int}(h:∀ x∈l,0<=x)(hc:0<=c):∀ x∈e7 l i c,0<=x:=fun x hx=>by
 rcases List.mem_or_eq_of_mem_set hx with hx | hx
 ·exact h x hx
 ·have:0<=l.getD i 0:=by
   rw[List.getD_eq_getElem?_getD]
   cases e:l[i]? with
   | none=>exact Int.le_refl 0
   | some y=>exact h y (List.mem_of_getElem? e)
  lia
theorem iC:∀ (is:List Nat) {l:List Int} {c:Int},(∀ x∈l,0<=x)->0<=c->∀ x∈d_ l is c,0<=x
 | [],_,_,h,_=>h
 | i::is,l,c,h,hc=>iC is (qF (i:=i) h hc) hc
structure fN.Ok (s:fN):Prop where
 lw:s.w.length=9
 lc:s.c.length=17
 lb:s.b.length=8
 nw:∀ x∈s.w,0<=x
 nc:∀ x∈s.c,0<=x
 nb:∀ x∈s.b,0<=x
theorem fN.Ok.row{s:fN}(h:s.Ok)(r:Row){c:Int}(hc:0<=c):(s.row r c).Ok:=
 ⟨by rw[<- h.lw];exact cY _ _ _,by rw[<- h.lc];exact dE _ _ _,by rw[<- h.lb];exact dE _ _ _,qF h.nw hc,iC _ h.nc hc,iC _ h.nb hc⟩
theorem pA:cy.Ok:=⟨rfl,rfl,rfl,by decide,by decide,by decide⟩
theorem eZ:∀ (rs:List Row) (cs:List Int) {s:fN},s.Ok->(∀ x∈cs,0<=x)->(counted rs cs s).Ok
 | [],_,_,h,_=>h
 | _::_,[],_,h,_=>h
 | r::rs,c::cs,_,h,hc=>eZ rs cs (h.row r (hc c (List.mem_cons_self ..))) fun x hx=>hc x (List.mem_cons_of_mem _ hx)
theorem Row.uk(r:Row):r.wi < 9:=by
 cases r with
 | two u a b=>exact (by decide:∀ u:_root_.Fin 3,1+(u:Nat) < 9) u
 | one u b=>exact (by decide:∀ u:_root_.Fin 2,4+(u:Nat) < 9) u
 | put b n=>exact (by decide:0 < 9)
 | jump g=>exact (by decide:6 < 9)
 | zero b g=>exact (by decide:7 < 9)
 | halt=>exact (by decide:8 < 9)
theorem oG{n:Nat}(h:n < 65536):fH n < 17:=by
 unfold fH Builtin.Int.intBits;by_cases h0:n=0
 ·subst h0;decide
 ·rw[if_neg (by simpa using h0),Int.natAbs_natCast]
  have:=(Nat.log2_lt h0 (k:=16)).mpr h;lia
theorem Row.FH{r:Row}{k:Nat}(h:r.Ok k):∀ b∈r.uZ,b < 8:=by
 cases r with
 | put b n=>simpa[Row.uZ] using h.1
 | two u a b=>simp only[Row.uZ,List.mem_cons,List.not_mem_nil,or_false];exact fun x z=>z.elim (fun e=>e ▸ h.1) fun e=>e ▸ h.2
 | one u b=>simpa[Row.uZ] using (show b < 8 from h)
 | jump g=>simp[Row.uZ]
 | zero b g=>simpa[Row.uZ] using h.1
 | halt=>simp[Row.uZ]
inductive Pk where
 | box (b:Nat) | num (n:Nat) | goal (g:Nat)
def Pk.kd:Pk->Str
 | .box _=>"box"
 | .num _=>"number"
 | .goal _=>"goal"
def Pk.t:Pk->L2.T
 | .box b=>.str (dP b)
 | .num n=>.int (n:Nat)
 | .goal g=>.int (g:Nat)
def Pk.Ok:Pk->Prop
 | .box b=>b < 8
 | .num n=>n < 65536
 | .goal _=>True
def Pk.G9:Pk->List (Nat×Nat)
 | .box b=>[(2,b)]
 | .num n=>[(1,fH n)]
 | .goal _=>[]
def Pk.bx:Pk->List Nat
 | .box b=>[b]
 | _=>[]
def Row.wd:Row->Str
 | .put _ _=>"put"
 | .two u _ _=>w2 u
 | .one u _=>w1 u
 | .jump _=>"jump"
 | .zero _ _=>"zero"
 | .halt=>"halt"
def Row.jd:Row->List Pk
 | .put b n=>[.box b,.num n]
 | .two _ a b=>[.box a,.box b]
 | .one _ b=>[.box b]
 | .jump g=>[.goal g]
 | .zero b g=>[.box b,.goal g]
 | .halt=>[]
theorem Row.DB(r:Row):r.t=.tup (.str r.wd::r.jd.map Pk.t):=by cases r<;>rfl
theorem Row.oy{r:Row}{k:Nat}(h:r.Ok k):∀ p∈r.jd,p.Ok:=by
 cases r with
 | put b n=>simp only[Row.jd,List.mem_cons,List.not_mem_nil,or_false];exact fun p z=>z.elim (fun e=>e ▸ h.1) fun e=>e ▸ h.2
 | two u a b=>simp only[Row.jd,List.mem_cons,List.not_mem_nil,or_false];exact fun p z=>z.elim (fun e=>e ▸ h.1) fun e=>e ▸ h.2
 | one u b=>simp only[Row.jd,List.mem_cons,List.not_mem_nil,or_false];rintro p rfl;exact h
 | jump g=>simp only[Row.jd,List.mem_cons,List.not_mem_nil,or_false];rintro p rfl;exact trivial
 | zero b g=>simp only[Row.jd,List.mem_cons,List.not_mem_nil,or_false];exact fun p z=>z.elim (fun e=>e ▸ h.1) fun e=>e ▸ trivial
 | halt=>simp[Row.jd]
theorem Row.BR(r:Row):r.uZ=r.jd.flatMap Pk.bx:=by cases r<;>rfl
def gb(r:Row):List (Nat×Nat):=(0,r.wi)::r.jd.flatMap Pk.G9
def fN.add(s:fN)(p:Nat×Nat)(c:Int):fN:=if p.1=0 then { s with w:=e7 s.w p.2 c } else if p.1=1 then { s with c:=e7 s.c p.2 c } else { s with b:=e7 s.b p.2 c }
theorem xc(s:fN)(r:Row)(c:Int):(gb r).foldl (fun s p=>s.add p c) s=s.row r c:=by cases r<;>rfl
def dY:List Str:=["put","add","sub","copy","tell","hear","jump","zero","halt"]
theorem Dj:∀ k,k < 9->∀ m,m < k->dY[m]?≠dY[k]?:=by decide +kernel
theorem qw(r:Row):dY[r.wi]?=some r.wd/\∀ m,m < r.wi->dY[m]?≠some r.wd:=by
 have h1:dY[r.wi]?=some r.wd:=by
  cases r with
  | two u a b=>exact (by decide +kernel:∀ u:_root_.Fin 3,dY[1+(u:Nat)]?=some (w2 u)) u
  | one u b=>exact (by decide +kernel:∀ u:_root_.Fin 2,dY[4+(u:Nat)]?=some (w1 u)) u
  | put b n=>rfl
  | jump g=>rfl
  | zero b g=>rfl
  | halt=>rfl
 exact⟨h1,fun m hm=>by rw[<- h1];exact Dj _ r.uk m hm⟩
theorem Row.Dm(r:Row):(∃ b n,r=.put b n)\/(r.wd≠"put"/\r.cls=[]):=by
 cases r with
 | put b n=>exact .inl ⟨b,n,rfl⟩
 | two u a b=>exact .inr ⟨(by decide +kernel:∀ u:_root_.Fin 3,w2 u≠"put") u,rfl⟩
 | one u b=>exact .inr ⟨(by decide +kernel:∀ u:_root_.Fin 2,w1 u≠"put") u,rfl⟩
 | jump g=>exact .inr ⟨(by decide +kernel:("jump":Str)≠"put"),rfl⟩
 | zero b g=>exact .inr ⟨(by decide +kernel:("zero":Str)≠"put"),rfl⟩
 | halt=>exact .inr ⟨(by decide +kernel:("halt":Str)≠"put"),rfl⟩
theorem mw{rs:List Row}{cs:List Int}{t:L2.T}{r:List L2.T}(h:ee (rT rs) (nI cs)=t::r):∃ r0 rs' c0 cs',rs=r0::rs'/\cs=c0::cs'/\t=.tup [r0.t,.int c0]/\r=ee (rT rs') (nI cs'):=by
 cases rs with
 | nil=>cases h
 | cons r0 rs' =>
  cases cs with
  | nil=>cases h
  | cons c0 cs'=>cases h;exact⟨r0,rs',c0,cs',rfl,rfl,rfl,rfl⟩
theorem n5{rs:List Row}{cs:List Int}(h:ee (rT rs) (nI cs)=[]):rs=[]\/cs=[]:=by
 cases rs with
 | nil=>exact .inl rfl
 | cons r0 rs' =>
  cases cs with
  | nil=>exact .inr rfl
  | cons c0 cs'=>cases h
theorem kl{l:List Int}{i:Nat}(h:i < l.length):bX (nI l) ((i:Nat):Int)=some (.int (l.getD i 0)):=cN (by unfold nI;rw[List.getElem?_map,List.getD_eq_getElem?_getD,List.getElem?_eq_getElem h];rfl)
theorem i_{l:List Int}{i:Nat}{c:Int}:(nI l).set i (.int (l.getD i 0+c))=nI (e7 l i c):=by unfold nI e7;rw[List.map_set]
theorem wG{l:List Int}{i:Nat}(h:i < l.length):kW (nI l).length ((i:Nat):Int)=some i:=by rw[sM (by lia) (by rw[bN];lia)];simp
theorem Gd{b:Nat}(h:b < 8):Builtin.Str.occurrences (Str.ofString "abcdefgh") (dP b) 0 (Str.ofString "abcdefgh").length 1=[b]:=by
 rcases G4 h with rfl | rfl | rfl | rfl | rfl | rfl | rfl | rfl<;>decide +kernel
theorem lV(t:L2.T)(ts:List L2.T):Y.cq (t::ts) (some 1) none=ts:=by
 unfold Y.cq;rw[HT.fI,show (some (1:Int))=some ((1:Nat):Int) from rfl,HT.gR];simp
def lE:fc:=fun args Q=>∃ (rs:List Row) (cs:List Int),args=[.tup (rT rs),.tup (nI cs)]/\rs.length=cs.length/\rs.length<=60/\(∀ r∈rs,r.Ok 60)/\Q (.fr (.lst [.lst (nI (counted rs cs cy).w),.lst (nI (counted rs cs cy).c),.lst (nI (counted rs cs cy).b)])) []
theorem nX(T:Txt K mg)(F:HasFn K mg "_law_counted" aQ ["program","counts"])(h_law_words:ai P w K mg base bT 1 "_law_words" [] (spT K [] la))(h_law_figures:ai P w K mg base bT 1 "_law_figures" ["number"] (spT K [false] zB)):ai P w K mg base bT 2 "_law_counted" ["program","counts"] (spT K [false,false] lE):=by
 refine F.mR aA [false,false] rfl (by decide) (fun args Qt hl h f cdv A outer s H E hr=>?_)
 have hu:=bZ hr;obtain⟨rs,cs,rfl,hl2,h60,aJ,q⟩:=h;refine⟨_,(Y.ah (Y.set (i:=2) aA.nd rfl (by walk_at "lc") (Y.op (Y.b8 K rfl) Y.bo (Y.lst (Y.cons Y.int Y.nil)) Y.int))
   (Y.ah (Y.set (i:=3) aA.nd rfl (by walk_at "lc") (Y.op (Y.b8 K rfl) Y.bo (Y.lst (Y.cons Y.int Y.nil)) Y.int))
   (Y.ah (Y.set (i:=4) aA.nd rfl (by walk_at "lc") (Y.op (Y.b8 K rfl) Y.bo (Y.lst (Y.cons Y.int Y.nil)) Y.int))
   (Y.ah (Y.dQ PassesOwn.never rfl (Y.zip K rfl rfl T.j4 (Y.cons (Y.vS 0) (Y.cons (Y.vS 1) Y.nil))) (Y.qx (n:=2) K rfl rfl (Y.b9 (Y.aR (i:=5) aA.nd rfl (by walk_at "lc")) (Y.b9 (Y.aR (i:=6) aA.nd rfl (by walk_at "lc")) Y.dS))) (Y.ah (Y.set (i:=7) aA.nd rfl (by walk_at "lc") (Y.FC K rfl (Y.E9 K rfl h_law_words (hr.mono (by decide)) rfl aH) (Y.ix (Y.cA K rfl) Y.aS (Y.vS 5) Y.int)))
   (Y.ah (Y.asg (Y.op (Y.aP K rfl) Y.aN (Y.ix (Y.cA K rfl) Y.aS (Y.vS 2) (Y.vS 7)) (Y.vS 6)) (Y.mH (Y.vS 2) (Y.vS 7)))
   (Y.ah (Y.fM (Y.bS (Y.cf K rfl (Nat.lt_of_succ_lt hu)) Y.dA (Y.ix (Y.cA K rfl) Y.aS (Y.vS 5) Y.int) Y.str) (Y.ah (Y.set (i:=8) aA.nd rfl (by walk_at "lc") (Y.cb (Y.aZ K rfl) Y.bI rfl T.dq (by decide +kernel) (Y.cons (Y.fn K rfl h_law_figures (hr.mono (by decide)) rfl aH (Y.cons (Y.ix (Y.cA K rfl) Y.aS (Y.vS 5) Y.int) Y.nil)) Y.nil)))
   (Y.aG (Y.asg (Y.op (Y.aP K rfl) Y.aN (Y.ix (Y.cA K rfl) Y.aS (Y.vS 3) (Y.vS 8)) (Y.vS 6)) (Y.mH (Y.vS 3) (Y.vS 8))))) Y.cB)
   (Y.aG (Y.dQ PassesOwn.never rfl (Y.anyS K rfl (Y.iM K rfl (Y.vS 5) (Y.Bg Y.int) Y.AY)) (Y.aR (i:=9) aA.nd rfl (by walk_at "lc")) (Y.aG (Y.fM (Y.iy K rfl (Y.Dr (C:="str") K rfl rfl T.cw (Y.vS 9) rfl T.Ez (by decide +kernel))) (Y.ah (Y.set (i:=10) aA.nd rfl (by walk_at "lc") (Y.sm K rfl PySem.F.slot_str_index PySem.F.type_str_index Y.sO Y.u0 Y.str (Y.cons (Y.vS 9) Y.nil)))
   (Y.aG (Y.asg (Y.op (Y.aP K rfl) Y.aN (Y.ix (Y.cA K rfl) Y.aS (Y.vS 4) (Y.vS 10)) (Y.vS 6)) (Y.mH (Y.vS 4) (Y.vS 10))))) Y.cB))))))))
   (Y.aG (Y.eN 2 (Y.eN 3 (Y.eN 4 (Y.ret (Y.lst (Y.cons (Y.vS 2) (Y.cons (Y.vS 3) (Y.cons (Y.vS 4) Y.nil))))))))))))),?_⟩
 refine aq fun N hN=>?_;walk_at "rt";refine⟨by decide,by decide,by decide,by decide,?_⟩
 refine hN _ ?_;clear hN N;refine aq fun N hN=>?_;walk_at "rt";refine⟨by decide,by decide,by decide,by decide,?_⟩
 refine hN _ ?_;clear hN N;refine aq fun N hN=>?_;walk_at "rt";refine⟨by decide,by decide,by decide,by decide,?_⟩
 refine hN _ ?_;clear hN N;refine aq fun N hN=>?_;walk_at "rt";refine bR (fun rest μ=>∃ (rs':List Row) (cs':List Int) (z:fN) (o5 o6 o7 o8 o9 o10:Option L2.T),rest=ee (rT rs') (nI cs')/\rs'.length=cs'.length/\(∀ r∈rs',r.Ok 60)/\counted rs cs cy=counted rs' cs' z/\z.w.length=9/\z.c.length=17/\z.b.length=8/\μ=[.tr (.tup (rT rs)),.tr (.tup (nI cs)),.bx (.lst (nI z.w)),.bx (.lst (nI z.c)),.bx (.lst (nI z.b)),sl o5,sl o6,sl o7,sl o8,sl o9,sl o10]) ⟨rs,cs,cy,none,none,none,none,none,none,rfl,hl2,aJ,rfl,rfl,rfl,rfl,rfl⟩ ?_ ?_
 ·rintro μ ⟨rs',cs',z,o5,o6,o7,o8,o9,o10,e0,el,_,ec,lw,lc,lb,rfl⟩;have ez:counted rs cs cy=z:=by
   rw[ec];rcases n5 e0.symm with rfl | rfl
   ·rfl
   ·cases rs'<;>rfl
  rw[ez] at q;show N _;refine hN _ ?_;clear hN N;walk_at "rt";exact⟨by decide,q⟩
 ·rintro t r μ M2 ⟨rs',cs',z,o5,o6,o7,o8,o9,o10,e0,el,ho,ec,lw,lc,lb,rfl⟩ k;obtain⟨r0,rs2,c0,cs2,rfl,rfl,rfl,rfl⟩:=mw e0.symm;clear hN q;walk_at "rt";rw[Row.DB];have hr0:r0.Ok 60:=ho r0 (List.mem_cons_self ..);have hw:=r0.uk;refine aq fun M hM=>?_;walk_at "rt";refine⟨rfl,?_⟩;walk_at "rt";refine⟨dY,r0.wi,rfl,(qw r0).1,(qw r0).2,?_⟩;refine hM _ ?_;clear hM M;refine aq fun M hM=>?_;have a1:=kl (l:=z.w) (i:=r0.wi) (by lia)
  have a2:=wG (l:=z.w) (i:=r0.wi) (by lia)
  wp_walk using a1,a2,i_;refine hM _ ?_;clear hM M;clear a1 a2;refine aq fun M hM=>?_;have key:∀ o8:Option L2.T,M [.tr (.tup (rT rs)),.tr (.tup (nI cs)),.bx (.lst (nI (e7 z.w r0.wi c0))),.bx (.lst (nI (d_ z.c r0.cls c0))),.bx (.lst (nI z.b)),.tr (.tup (.str r0.wd::r0.jd.map Pk.t)),.tr (.int c0),.tr (.int (r0.wi:Nat)),sl o8,sl o9,sl o10]:=by
   intro o8;refine hM _ ?_;clear hM M;walk_at "rt";rw[lV];refine bR (fun rest μ=>∃ (ps:List Pk) (l:List Int) (o9 o10:Option L2.T),rest=ps.map Pk.t/\(∀ p∈ps,p.Ok)/\l.length=8/\d_ z.b r0.uZ c0=d_ l (ps.flatMap Pk.bx) c0/\μ=[.tr (.tup (rT rs)),.tr (.tup (nI cs)),.bx (.lst (nI (e7 z.w r0.wi c0))),.bx (.lst (nI (d_ z.c r0.cls c0))),.bx (.lst (nI l)),.tr (.tup (.str r0.wd::r0.jd.map Pk.t)),.tr (.int c0),.tr (.int (r0.wi:Nat)),sl o8,sl o9,sl o10]) ⟨r0.jd,z.b,o9,o10,rfl,Row.oy hr0,lb,by rw[Row.BR],rfl⟩ ?_ ?_
   ·rintro μ ⟨ps,l,o9,o10,e1,_,l8,ea,rfl⟩;have e2:ps=[]:=List.map_eq_nil_iff.mp e1.symm;subst e2;show M2 _;have ea':d_ z.b r0.uZ c0=l:=ea;rw[<- ea'];refine k _ ⟨rs2,cs2,z.row r0 c0,some (L2.T.tup (L2.T.str r0.wd::r0.jd.map Pk.t)),some (.int c0),some (.int (r0.wi:Nat)),o8,o9,o10,rfl,by simpa using el,fun r hr=>ho r (List.mem_cons_of_mem _ hr),ec,by rw[<- lw];exact cY _ _ _,by rw[<- lc];exact dE _ _ _,by rw[<- lb];exact dE _ _ _,rfl⟩
   ·rintro t r μ M3 ⟨ps,l,o9,o10,e1,hp,l8,ea,rfl⟩ k3;clear k;obtain⟨p,ps',rfl,rfl,rfl⟩:=List.map_eq_cons_iff.mp e1.symm;have hp0:=hp p (List.mem_cons_self ..);have hp1:∀ q∈ps',q.Ok:=fun q hq=>hp q (List.mem_cons_of_mem _ hq);have no:∀ n:Nat,Pk.bx p=[]->p.t=.int (n:Nat)->M3 [.tr (.tup (rT rs)),.tr (.tup (nI cs)),.bx (.lst (nI (e7 z.w r0.wi c0))),.bx (.lst (nI (d_ z.c r0.cls c0))),.bx (.lst (nI l)),.tr (.tup (.str r0.wd::r0.jd.map Pk.t)),.tr (.int c0),.tr (.int (r0.wi:Nat)),sl o8,.tr (.int (n:Nat)),sl o10]:=fun n e0 e1 =>
     k3 _ ⟨ps',l,some (.int (n:Nat)),o10,rfl,hp1,l8,by rw[ea,List.flatMap_cons,e0];rfl,rfl⟩
    cases p with
    | box b =>
     have hb:b < 8:=hp0;show Y.gN 9 (R.tr (.str (dP b))) _ _;wp_walk using (show eK "str" "str"=true from by decide +kernel),if_true
     refine aq fun M hM=>?_;walk_at "rt";refine⟨b,[],Gd hb,?_⟩;refine hM _ ?_;clear hM M;have a1:=kl (l:=l) (i:=b) (by lia)
     have a2:=wG (l:=l) (i:=b) (by lia)
     wp_walk using a1,a2,i_;exact k3 _ ⟨ps',e7 l b c0,some (.str (dP b)),some (.int (b:Nat)),rfl,hp1,by rw[cY];exact l8,by rw[ea];rfl,rfl⟩
    | num n =>
     show Y.gN 9 (R.tr (.int (n:Nat))) _ _;wp_walk using (show eK "int" "str"=false from by decide +kernel)
     exact no n rfl rfl
    | goal n =>
     show Y.gN 9 (R.tr (.int (n:Nat))) _ _;wp_walk using (show eK "int" "str"=false from by decide +kernel)
     exact no n rfl rfl
  clear hM;rcases r0.Dm with ⟨b,n,rfl⟩ | ⟨h1,h2⟩
  ·have ep:((Row.put b n).wd=Str.ofString "put")=True:=eq_true rfl;have hb:=oG hr0.2;have e2:bX (L2.T.str (Row.put b n).wd::List.map Pk.t (Row.put b n).jd) 2=some (.int (n:Nat)):=rfl;wp_walk using ep,if_true;refine aq fun M' hM=>?_;wp_walk using e2;refine⟨n,rfl,hr0.2,fun x hx=>?_⟩;have a1:=kl (l:=z.c) (i:=fH n) (by lia)
   have a2:=wG (l:=z.c) (i:=fH n) (by lia)
   have e3:((x.length:Nat):Int)=(fH n:Nat):=by rw[hx];rfl
   wp_walk using e3;refine⟨Nat.le_trans (show x.length<=17 by rw[hx];exact Nat.le_of_lt hb) (by decide),?_⟩
   refine hM _ ?_;clear hM M';wp_walk using a1,a2,i_;exact key (some (.int (fH n:Nat)))
  ·rw[h2] at key;wp_walk using if_neg h1;exact key o8
def cT(l:List (Nat×Nat)):List L2.T:=l.map fun p=>.tup [.int (p.1:Nat),.int (p.2:Nat)]
def u9:fc:=fun args Q=>∃ (r:Row) (k:Nat),args=[r.t]/\r.Ok k/\Q (.fr (.lst (cT (gb r)))) []
def dk:List (Str×List Str):=[("put",["box","number"]),("add",["box","box"]),("sub",["box","box"]),("copy",["box","box"]),("tell",["box"]),("hear",["box"]),("jump",["goal"]),("zero",["box","goal"]),("halt",[])]
theorem qM(r:Row):KTD.datumAt r.wd dk=some (r.jd.map Pk.kd):=by
 cases r with
 | two u a b=>exact (by decide +kernel:∀ u:_root_.Fin 3,KTD.datumAt (w2 u) dk=some [("box":Str),"box"]) u
 | one u b=>exact (by decide +kernel:∀ u:_root_.Fin 2,KTD.datumAt (w1 u) dk=some [("box":Str)]) u
 | put b n=>exact (by decide +kernel:KTD.datumAt ("put":Str) dk=some [("box":Str),"number"])
 | jump g=>exact (by decide +kernel:KTD.datumAt ("jump":Str) dk=some [("goal":Str)])
 | zero b g=>exact (by decide +kernel:KTD.datumAt ("zero":Str) dk=some [("box":Str),"goal"])
 | halt=>exact (by decide +kernel:KTD.datumAt ("halt":Str) dk=some ([]:List Str))
theorem ve:∀ ps:List Pk,ee ((ps.map Pk.kd).map L2.T.str) (ps.map Pk.t)=ps.map fun p=>.tup [.str p.kd,p.t]
 | []=>rfl
 | p::ps=>congrArg (_::·) (ve ps)
def D5:List Str:=["a","b","c","d","e","f","g","h"]
theorem uF{b:Nat}(h:b < 8):D5[b]?=some (dP b)/\∀ m,m < b->D5[m]?≠some (dP b):=(by decide +kernel:∀ b,b < 8->D5[b]?=some (dP b)/\∀ m,m < b->D5[m]?≠some (dP b)) b h
theorem wm(a b:List (Nat×Nat)):cT (a++b)=cT a++cT b:=List.map_append
theorem u3(T:Txt K mg)(F:HasFn K mg "coded_things" aO ["row"]):ai P w K mg base bT 1 "coded_things" ["row"] (spT K [false] u9):=by
 refine F.mR bW [false] rfl (by decide) (fun args Qt hl h f cdv A outer s H E hr=>?_)
 have hu:=bZ hr;obtain⟨r,k,rfl,aJ,q⟩:=h;refine⟨_,(Y.ah (Y.set (i:=1) bW.nd rfl (by walk_at "lc") (Y.lst (Y.cons (Y.tup (Y.cons (Y.tQ rfl T.ng) (Y.cons (Y.Gj K rfl rfl rfl T.mh rfl T.u_ (Y.ix (Y.cA K rfl) Y.aS (Y.vS 0) Y.int)) Y.nil))) Y.nil)))
   (Y.ah (Y.dQ PassesOwn.never rfl (Y.zip K rfl rfl T.j4 (Y.cons (Y.GU K rfl rfl T.mh (Y.ix (Y.cA K rfl) Y.aS (Y.vS 0) Y.int)) (Y.cons (Y.iM K rfl (Y.vS 0) (Y.Bg Y.int) Y.AY) Y.nil))) (Y.qx (n:=2) K rfl rfl (Y.b9 (Y.aR (i:=2) bW.nd rfl (by walk_at "lc")) (Y.b9 (Y.aR (i:=3) bW.nd rfl (by walk_at "lc")) Y.dS))) (Y.aG (Y.fM (Y.bS (Y.cf K rfl (Nat.lt_of_succ_lt hu)) Y.dA (Y.vS 2) Y.str) (Y.aG (Y.expr (Y.bm K rfl PySem.F.slot_list_append PySem.F.type_list_append dD Y.eG (Y.vS 1) (Y.cons (Y.tup (Y.cons (Y.tQ rfl T.nG) (Y.cons (Y.Ga K rfl rfl T.y4 T.xN (Y.vS 3)) Y.nil))) Y.nil)))) (Y.aG (Y.fM (Y.bS (Y.cf K rfl (Nat.lt_of_succ_lt hu)) Y.dA (Y.vS 2) Y.str) (Y.aG (Y.expr (Y.bm K rfl PySem.F.slot_list_append PySem.F.type_list_append dD Y.eG (Y.vS 1) (Y.cons (Y.tup (Y.cons (Y.tQ rfl T.jY) (Y.cons (Y.bits (Y.vS 3)) Y.nil))) Y.nil)))) Y.cB)))))
   (Y.aG (Y.ret (Y.vS 1))))),?_⟩
 rw[Row.DB];refine aq fun N hN=>?_;walk_at "rt";refine⟨r.wi,(qw r).1,(qw r).2,by decide,by decide,?_⟩
 refine hN _ ?_;clear hN N;refine aq fun N hN=>?_;have e1:=qM r;unfold dk at e1;wp_walk using e1,lV;show Y.dM _ _ _ (ee ((r.jd.map Pk.kd).map L2.T.str) (r.jd.map Pk.t)) _;rw[ve];refine bR (fun rest μ=>∃ (ps:List Pk) (l:List (Nat×Nat)) (o2 o3:Option L2.T),rest=ps.map (fun p=>.tup [.str p.kd,p.t])/\(∀ p∈ps,p.Ok)/\l.length+ps.length<=10/\gb r=l++ps.flatMap Pk.G9/\μ=[.tr (.tup (.str r.wd::r.jd.map Pk.t)),.bx (.lst (cT l)),sl o2,sl o3]) ⟨r.jd,[(0,r.wi)],none,none,rfl,Row.oy aJ,by cases r<;>simp[Row.jd],rfl,rfl⟩ ?_ ?_
 ·rintro μ ⟨ps,l,o2,o3,e1,_,_,ea,rfl⟩;have e2:ps=[]:=List.map_eq_nil_iff.mp e1.symm;subst e2;rw[List.flatMap_nil,List.append_nil] at ea;rw[ea] at q;show N _;refine hN _ ?_;clear hN N;walk_at "rt";exact q
 ·rintro t rest μ M ⟨ps,l,o2,o3,e1,hp,l10,ea,rfl⟩ k;obtain⟨p,ps',rfl,rfl,rfl⟩:=List.map_eq_cons_iff.mp e1.symm;have hp0:=hp p (List.mem_cons_self ..);have hp1:∀ q∈ps',q.Ok:=fun q hq=>hp q (List.mem_cons_of_mem _ hq);rw[List.length_cons] at l10;clear hN q e1
  cases p with
  | box b =>
   show Y.Ci _ _ (R.tr (.tup [.str "box",.str (dP b)])) _ _;wp_walk using (show (Str.ofString "box"=Str.ofString "box")=True from eq_true rfl),if_true;refine⟨D5,b,rfl,(uF hp0).1,(uF hp0).2,by decide,?_,?_⟩
   ·exact Nat.lt_of_le_of_lt (by unfold cT;rw[List.length_map];lia) (show 10 < sizeLine by decide)
   refine k _ ⟨ps',l++[(2,b)],some (.str "box"),some (.str (dP b)),rfl,hp1,by rw[List.length_append];simp only[List.length_cons,List.length_nil];lia,by rw[ea,List.flatMap_cons,List.append_assoc];rfl,by rw[wm];rfl⟩
  | num n =>
   show Y.Ci _ _ (R.tr (.tup [.str "number",.int (n:Nat)])) _ _;have n1:(Str.ofString "number")≠(Str.ofString "box"):=by decide +kernel
   wp_walk using if_neg n1,(show (Str.ofString "number"=Str.ofString "number")=True from eq_true rfl),if_true;refine⟨by decide,?_,?_⟩
   ·exact Nat.lt_of_le_of_lt (by unfold cT;rw[List.length_map];lia) (show 10 < sizeLine by decide)
   refine k _ ⟨ps',l++[(1,fH n)],some (.str "number"),some (.int (n:Nat)),rfl,hp1,by rw[List.length_append];simp only[List.length_cons,List.length_nil];lia,by rw[ea,List.flatMap_cons,List.append_assoc];rfl,by rw[wm];rfl⟩
  | goal n =>
   show Y.Ci _ _ (R.tr (.tup [.str "goal",.int (n:Nat)])) _ _;have n1:(Str.ofString "goal")≠(Str.ofString "box"):=by decide +kernel
   have n2:(Str.ofString "goal")≠(Str.ofString "number"):=by decide +kernel
   wp_walk using if_neg n1,if_neg n2;exact k _ ⟨ps',l,some (.str "goal"),some (.int (n:Nat)),rfl,hp1,by lia,by rw[ea,List.flatMap_cons];rfl,rfl⟩
local macro_rules | `(tactic| walk_at "rz") => do
  let ids := ("Nat.reduceAdd Nat.reduceSub Nat.reduceLeDiff L2.Ap.qX L2.Ap.tC L2.Ap.sH L2.Ap.iS L2.Ap.fG L2.Ap.vG L2.Ap.eR L2.Ap.sy L2.Ap.iG L2.Ap.bH L2.Ap.w8 L2.Ap.lQ L2.Ap.dN L2.Ap.lJ L2.Ap.uM L2.Ap.va wV t8 L2.Ap.zf L2.Ap.AO L2.start D8 CZ DY Eg List.map_cons List.map_nil List.length_cons List.length_nil List.replicate List.cons_append List.nil_append List.append_nil List.getElem?_cons_zero List.getElem?_cons_succ List.set_cons_zero List.set_cons_succ Option.some.injEq exists_eq_left' V.ref.injEq List.cons.injEq and_true true_and decide_eq_true_eq Bool.not_eq_true' decide_eq_false_iff_not Bool.false_eq_true L2.Ap.lZ L2.Ap.sS".splitOn " ").toArray.map fun n => Lean.mkIdent n.toName
  `(tactic| simp only [↓reduceIte, $[$ids:ident],*])
def iV(xs:List Int):List V:=xs.map V.int
theorem fD{H:Hp}{B:aK}:∀ {xs:List Int} {vs:List V},aj K H B vs (nI xs)->vs=iV xs
 | [],_,r=>by cases r;rfl
 | x::xs,_,r=>by
  cases r with
  | cons h r=>cases h;rw[fD r];rfl
theorem m8{H:Hp}{B:aK}:∀ xs:List Int,aj K H B (iV xs) (nI xs)
 | []=>.nil
 | x::xs=>.cons (.int x) (m8 xs)
theorem jU{H:Hp}{B:aK}:∀ {ts:List L2.T} {vs:List V},aj K H B vs ts->∀ {i:Nat} {t:L2.T},ts[i]?=some t->∃ v,vs[i]?=some v/\Rep K H B v t
 | [],_,_,i,t,e=>by simp at e
 | u::ts,_,r,i,t,e=>by
  cases r with
  | cons h r =>
   cases i with
   | zero=>cases e;exact⟨_,rfl,h⟩
   | succ i=>exact jU r (by simpa using e)
theorem j9{H:Hp}{B:aK}{v:V}{t:L2.T}:∀ {ts:List L2.T} {vs:List V},aj K H B vs ts->Rep K H B v t->aj K H B (vs++[v]) (ts++[t])
 | [],_,r,h=>by cases r;exact .cons h .nil
 | u::ts,_,r,h=>by
  cases r with
  | cons h' r=>exact .cons h' (j9 r h)
theorem iw{H:Hp}{B:aK}:∀ {ts:List L2.T} {vs:List V},aj K H B vs ts->vs.length=ts.length
 | [],_,r=>by cases r;rfl
 | u::ts,_,r=>by
  cases r with
  | cons h' r=>rw[List.length_cons,List.length_cons,iw r]
def i4(z:fN):L2.T:=.tup [.tup (nN (ay z.w 12)),.tup (nN (ay z.c 12)),.tup (nN (ay z.b 12))]
def oV:fc:=fun args Q=>∃ cs:List Int,args=[.tup (nI cs),.int 12]/\1<=cs.length/\cs.length<=20/\Q (.tr (.tup (nN (ay cs 12)))) []
theorem Az{C:Addr}(args:List L2.T)(Q:R->List L2.T->Prop)(h:oV args Q):v_ C args Q fun _=>False:=by
 obtain⟨cs,rfl,h1,h2,q⟩:=h;refine⟨cs,12,rfl,h1,h2,by decide,by decide,.inl ⟨?_,q⟩⟩
 unfold nv;exact decide_eq_true ⟨by decide,Nat.le_trans h2 (by decide)⟩
def yW:fc:=fun args Q=>∃ (rs:List Row) (cs:List Int),args=[.tup (rT rs),.tup (nI cs)]/\rs.length=cs.length/\rs.length<=60/\(∀ r∈rs,r.Ok 60)/\Q (.tr (i4 (counted rs cs cy))) []
theorem jF:∀ n:Nat,(List.replicate n [V.int 0]).flatten=iV (List.replicate n 0)
 | 0=>rfl
 | n+1=>by
  rw[List.replicate_succ,List.flatten_cons,jF n];rfl
structure MB (H:Hp) (D p0 p1 p2:Addr) (z:fN):Prop where
 oD:H D=some (.lst [.ref p0,.ref p1,.ref p2])
 o0:H p0=some (.lst (iV z.w))
 o1:H p1=some (.lst (iV z.c))
 o2:H p2=some (.lst (iV z.b))
structure MN (D p0 p1 p2:Addr):Prop where
 d0:D≠p0
 d1:D≠p1
 d2:D≠p2
 GA:p0≠p1
 GC:p0≠p2
 GI:p1≠p2
theorem MB.kb{H H':Hp}{D p0 p1 p2:Addr}{z:fN}(m:MB H D p0 p1 p2 z)(k:KB [] H H'):MB H' D p0 p1 p2 z:=⟨k _ _ m.oD (by simp),k _ _ m.o0 (by simp),k _ _ m.o1 (by simp),k _ _ m.o2 (by simp)⟩
theorem MB.out{H:Hp}{D p0 p1 p2 q:Addr}{z:fN}(m:MB H D p0 p1 p2 z)(h:H q=none\/∃ t,H q=some (.tup t)):q∉[p0,p1,p2]:=by
 have key:∀ p l,H p=some (.lst l)->q≠p:=fun p l e z=>by
  subst z;rcases h with h | ⟨t,h⟩
  ·rw[h] at e;cases e
  ·rw[h] at e;cases e
 simp only[List.mem_cons,List.not_mem_nil,or_false,not_or];exact⟨key _ _ m.o0,key _ _ m.o1,key _ _ m.o2⟩
theorem MB.at{H:Hp}{D p0 p1 p2:Addr}{z:fN}(m:MB H D p0 p1 p2 z)(n:MN D p0 p1 p2)(lw:z.w.length=9)(lc:z.c.length=17)(lb:z.b.length=8){i j:Nat}(h:(i=0/\j < 9)\/(i=1/\j < 17)\/(i=2/\j < 8))(c:Int):
  ∃ p l,bX [V.ref p0,V.ref p1,V.ref p2] ((i:Nat):Int)=some (.ref p)/\H p=some (.lst (iV l))/\j < l.length/\p∈[p0,p1,p2]/\MB (upd H p (.lst (iV (e7 l j c)))) D p0 p1 p2 (z.add (i,j) c):=by
 rcases h with ⟨rfl,h⟩ | ⟨rfl,h⟩ | ⟨rfl,h⟩
 ·exact⟨p0,z.w,rfl,m.o0,by lia,by simp,⟨by rw[ae n.d0];exact m.oD,af,by rw[ae n.GA.symm];exact m.o1,by rw[ae n.GC.symm];exact m.o2⟩⟩
 ·exact⟨p1,z.c,rfl,m.o1,by lia,by simp,⟨by rw[ae n.d1];exact m.oD,by rw[ae n.GA];exact m.o0,af,by rw[ae n.GI.symm];exact m.o2⟩⟩
 ·exact⟨p2,z.b,rfl,m.o2,by lia,by simp,⟨by rw[ae n.d2];exact m.oD,by rw[ae n.GC];exact m.o0,by rw[ae n.GI];exact m.o1,af⟩⟩
theorem xa{r:Row}{k:Nat}(h:r.Ok k):∀ p∈gb r,(p.1=0/\p.2 < 9)\/(p.1=1/\p.2 < 17)\/(p.1=2/\p.2 < 8):=by
 intro p hp;rcases List.mem_cons.mp hp with rfl | hp
 ·exact .inl ⟨rfl,r.uk⟩
 ·obtain⟨x,hx,hp⟩:=List.mem_flatMap.mp hp;have hx:=Row.oy h x hx
  cases x with
  | box b=>rw[List.mem_singleton.mp hp];exact .inr (.inr ⟨rfl,hx⟩)
  | num n=>rw[List.mem_singleton.mp hp];exact .inr (.inl ⟨rfl,oG hx⟩)
  | goal g=>cases hp
theorem fN.yC(z:fN)(p:Nat×Nat)(c:Int):(z.add p c).w.length=z.w.length/\(z.add p c).c.length=z.c.length/\(z.add p c).b.length=z.b.length:=by
 unfold fN.add;split
 ·exact⟨cY _ _ _,rfl,rfl⟩
 ·split
  ·exact⟨rfl,cY _ _ _,rfl⟩
  ·exact⟨rfl,rfl,cY _ _ _⟩
theorem yi(T:Txt K mg)(F:HasFn K mg "book_of" bB ["program","counts"])(hcoded_things:ai P w K mg base bT 1 "coded_things" ["row"] (spT K [false] u9))(hleast_lengths:ai P w K mg base bT 6 "least_lengths" ["counts","bound"] (spT K [false,false] oV)):ai P w K mg base bT 7 "book_of" ["program","counts"] (spT K [false,false] yW):=by
 obtain⟨w_HM,u_HM,hg_HOW_MANY,hr_HOW_MANY,rp_HM⟩:=T.ny;obtain⟨w_L,u_L,hg_LONGEST,hr_LONGEST,rp_L⟩:=T.qI;refine F.G2 cC (fun vs H Q E h=>?_) (fun f cdv A outer s H vs Q E hr h=>?_)
 ·obtain⟨B,args,Qt,ag,_⟩:=h;exact ag.len.1
 ·obtain⟨B,args,Qt,ag,hB,hnd,⟨rs,cs,rfl,hl,h60,aJ,hq⟩,q⟩:=h;have hu:=bZ hr;obtain⟨v1,v2,rfl⟩:=Y.iQ ag.len.1;obtain⟨r1,r2,_⟩:=ag
  cases r2 with
  | @tup cv vsc _ nc oc rc =>
   have ec:=fD rc;subst ec
   cases r1 with
   | @tup pv pvs _ np op rp =>
    refine⟨_,(Z.ah (Z.setC (j:=2) cC.nd rfl (by walk_at "lc") (osc:=aa bB) (ON:=["program","counts","sums","row","count","which","thing"]) (own:=["many"]) (N:=["many","program","counts","sums","row","count","which","thing"]) ⟨rfl,by decide +kernel,rfl,by decide +kernel,by decide +kernel,by decide +kernel,by decide +kernel,by decide +kernel⟩ rfl rfl rfl (Z.seq K rfl (Z.glob rfl hg_HOW_MANY hr_HOW_MANY)) (fun _ _ _ _=>(Z.aR (i:=0) (show List.Nodup (["many","program","counts","sums","row","count","which","thing"]:List Str) by decide +kernel) rfl (by walk_at "lc"))) (fun _ _ _ _=>Z.sC) (fun _ _ _ _=>(Z.op oY (Z.lst (Z.cons Z.int Z.nil)) (Z.v 0))))
   (Z.ah (Z.dQ PassesOwn.never rfl (Z.zip K rfl rfl T.j4 (Z.cons (Z.v 0) (Z.cons (Z.v 1) Z.nil))) (Z.mS (n:=2) K rfl rfl (Z.b9 (Z.aR (i:=3) cC.nd rfl (by walk_at "lc")) (Z.b9 (Z.aR (i:=4) cC.nd rfl (by walk_at "lc")) Z.dS))) (Z.aG (Z.dQ PassesOwn.never rfl (Z.any K rfl (Z.fn hcoded_things (hr.mono (by decide)) rfl aH (Z.cons (Z.v 3) Z.nil))) (Z.mS (n:=2) K rfl rfl (Z.b9 (Z.aR (i:=5) cC.nd rfl (by walk_at "lc")) (Z.b9 (Z.aR (i:=6) cC.nd rfl (by walk_at "lc")) Z.dS))) (Z.aG (Z.asg (Z.op (Z.E2 K rfl) (Z.ix (Z.zZ K rfl hu) (Z.ix (Z.zZ K rfl hu) (Z.v 2) (Z.v 5)) (Z.v 6)) (Z.v 4)) (Z.mH (Z.ix (Z.zZ K rfl hu) (Z.v 2) (Z.v 5)) (Z.v 6)))))))
   (Z.aG (Z.ret (Z.ct (Z.qC K rfl) rfl T.cK (by decide +kernel) (Z.cons (Z.comp (osc:=aa bB) (ON:=["program","counts","sums","row","count","which","thing"]) (own:=["counted"]) (N:=["counted","program","counts","sums","row","count","which","thing"]) ⟨rfl,by decide +kernel,rfl,by decide +kernel,by decide +kernel,by decide +kernel,by decide +kernel,by decide +kernel⟩ rfl rfl rfl (Z.any K rfl (Z.v 2)) (fun _ _ _ _=>(Z.aR (i:=0) (show List.Nodup (["counted","program","counts","sums","row","count","which","thing"]:List Str) by decide +kernel) rfl (by walk_at "lc"))) (fun _ _ _ _=>Z.sC) (fun _ _ _ _=>(Z.fn hleast_lengths (hr.mono (by decide)) rfl aH (Z.cons (Z.ct (Z.qC K rfl) rfl T.cK (by decide +kernel) (Z.cons (Z.v 0) Z.nil)) (Z.cons (Z.glob rfl hg_LONGEST hr_LONGEST) Z.nil))))) Z.nil)))))),?_⟩
    have eL:w_L=.int 12:=by have:=rp_L (fun _=>none) (fun _=>False);cases this;rfl
    subst eL;obtain⟨bm,rfl,kt⟩:∃ b,w_HM=.ref b/\Di K b [.int 9,.int 17,.int 8]:=by
     have:=rp_HM (fun _=>none) (fun _=>False)
     cases this with
     | d9 h r =>
      have e:=fD (xs:=[9,17,8]) r;subst e;exact⟨_,rfl,h⟩
    refine DW fun N hN=>?_;walk_at "rz";refine .inr ⟨⟨_,.inr kt⟩,?_⟩;refine qS (xs:=[V.int 9,V.int 17,V.int 8]) (by decide) (fun D i ys H'=>H D=none/\KB [] H H'/\H' D=some (.lst ys)/\∃ as:List Addr,ys=as.map V.ref/\as.length=i/\as.Nodup/\D∉as/\∀ (j:Nat) a,as[j]?=some a->H a=none/\∃ n:Nat,[9,17,8][j]?=some n/\H' a=some (.lst (iV (List.replicate n 0)))) (fun D hD=>⟨hD,KB.new hD,af,[],rfl,rfl,List.nodup_nil,List.not_mem_nil,fun j a e=>by cases e⟩) (fun D i ys H' ⟨h1,h2,h3,as,h4,h5,_⟩=>⟨h3,by rw[h4,List.length_map,h5]⟩) (fun D i ys H' _=>.inr kt) ?_ ?_
    ·rintro D i ys H' z R hx ⟨h1,h2,h3,as,h4,h5,h6,h7,h8⟩ k;obtain⟨n,hn,rfl,hn1⟩:∃ n:Nat,[9,17,8][i]?=some n/\z=.int (n:Nat)/\n < 20:=by
      have hi:i=0\/i=1\/i=2:=by
       have:=(List.getElem?_eq_some_iff.mp hx).1;simp only[List.length_cons,List.length_nil] at this;lia
      rcases hi with rfl | rfl | rfl
      ·exact⟨9,rfl,(Option.some.inj hx).symm,by decide⟩
      ·exact⟨17,rfl,(Option.some.inj hx).symm,by decide⟩
      ·exact⟨8,rfl,(Option.some.inj hx).symm,by decide⟩
     walk_at "rz";refine⟨by decide,fun p hp=>?_⟩
     refine⟨p,(n:Nat),[.int 0],rfl,rfl,af,by lia,by lia,Nat.le_trans (show 1*((n:Nat):Int).toNat<=20 by lia) (by decide),fun p2 hp2=>?_⟩
     have k1:KB [] H' (upd H' p (.lst [.int 0])):=KB.new hp;have k2:=k1.trans (KB.new (o:=.lst (List.replicate ((n:Nat):Int).toNat [V.int 0]).flatten) hp2);have hp2':H' p2=none:=k1.free (by simp) hp2
     have nD:p2≠D:=fun e=>by rw[e,h3] at hp2';cases hp2'
     have fp2:H p2=none:=h2.free (by simp) hp2'
     have hfl:(List.replicate ((n:Nat):Int).toNat [V.int 0]).flatten=iV (List.replicate n 0):=by rw[Int.toNat_natCast];exact jF n
     have hpa:∀ a∈as,a≠p2:=fun a ha e=>by
      obtain⟨j,hj⟩:=List.mem_iff_getElem?.mp ha;obtain⟨_,m,_,g3⟩:=h8 j a hj;rw[e,hp2'] at g3;cases g3
     rw[hfl] at k2;rw[hfl];refine k _ _ (k2 _ _ h3 (by simp)) ⟨h1,fun c o e _=>?_,af,as++[p2],by rw[h4,List.map_append];rfl,by rw[List.length_append,h5];rfl,?_,?_,?_⟩
     ·rw[ae (ak e h1)];exact k2 c o (h2 c o e (by simp)) (by simp)
     ·refine List.nodup_append.mpr ⟨h6,by simp,fun a ha b hb e=>?_⟩
      rw[List.mem_singleton.mp hb] at e;exact hpa a ha e
     ·intro hm;rcases List.mem_append.mp hm with hm | hm
      ·exact h7 hm
      ·exact nD (List.mem_singleton.mp hm).symm
     ·intro j a e;have hj:j < as.length\/j=as.length:=by
       have:=(List.getElem?_eq_some_iff.mp e).1;rw[List.length_append] at this;simp only[List.length_cons,List.length_nil] at this;lia
      rcases hj with hj | rfl
      ·rw[List.getElem?_append_left hj] at e;obtain⟨g1,m,g2,g3⟩:=h8 j a e;have na:a≠D:=fun z=>h7 (z ▸ List.mem_of_getElem? e);exact⟨g1,m,g2,by rw[ae na];exact k2 _ _ g3 (by simp)⟩
      ·rw[List.getElem?_append_right (Nat.le_refl _),Nat.sub_self] at e;cases e;exact⟨fp2,n,by rw[h5];exact hn,by rw[ae nD];exact af⟩
    rintro D ys H2 ⟨hD1,k2,oD,as,rfl,has,hnd2,hDa,hall⟩;obtain⟨p0,p1,p2,rfl⟩:∃ p0 p1 p2,as=[p0,p1,p2]:=by
     rcases as with _ | ⟨a,_ | ⟨b,_ | ⟨c,_ | ⟨d,as⟩⟩⟩⟩
     ·cases has
     ·cases has
     ·cases has
     ·exact⟨a,b,c,rfl⟩
     ·exfalso;revert has;simp
    have n3:MN D p0 p1 p2:=by
     simp only[List.mem_cons,List.not_mem_nil,or_false,not_or] at hDa;simp only[List.nodup_cons,List.mem_cons,List.not_mem_nil,or_false,not_or] at hnd2;exact⟨hDa.1,hDa.2.1,hDa.2.2,hnd2.1.1,hnd2.1.2,hnd2.2.1⟩
    have m0:MB H2 D p0 p1 p2 cy:=by
     obtain⟨_,n,en,e0⟩:=hall 0 p0 rfl;obtain⟨_,m,em,e1⟩:=hall 1 p1 rfl;obtain⟨_,l,el,e2⟩:=hall 2 p2 rfl
     cases en;cases em;cases el
     exact⟨oD,e0,e1,e2⟩
    have f0:=(hall 0 p0 rfl).1;have f1:=(hall 1 p1 rfl).1;have f2:=(hall 2 p2 rfl).1;clear hall has hnd2 hDa oD kt;rw[hN];clear hN N;refine DW fun N hN=>?_;walk_at "rz";have lp:pvs.length=rs.length:=by rw[iw rp];unfold rT;rw[List.length_map]
    have lcv:(iV cs).length=cs.length:=by unfold iV;rw[List.length_map]
    refine⟨pv,cv,false,false,⟨rfl,rfl⟩,⟨_,bj.of (k2 _ _ op (by simp))⟩,⟨_,bj.of (k2 _ _ oc (by simp))⟩,?_⟩
    refine qY (xs:=pvs) (ys:=iV cs) (by lia) (fun i σ H'=>∃ (z:fN) (o3 o4 o5 o6:Option V),MB H' D p0 p1 p2 z/\counted rs cs cy=counted (rs.drop i) (cs.drop i) z/\z.w.length=9/\z.c.length=17/\z.b.length=8/\KB [] H H'/\σ=[some (.ref pv),some (.ref cv),some (.ref D),o3,o4,o5,o6]) ⟨cy,none,none,none,none,m0,rfl,rfl,rfl,rfl,k2,rfl⟩ (fun i σ H' _ ⟨z,o3,o4,o5,o6,h1,h2,h3,h4,h5,h6,h7⟩=>⟨bj.of (h6 _ _ op (by simp)),bj.of (h6 _ _ oc (by simp))⟩) ?_ ?_
    ·rintro i x y σ H3 pr ex ey ⟨z,o3,o4,o5,o6,mb,ec,lw,lc,lb,k3,rfl⟩ hpr;have hi:i < rs.length:=by have:=(List.getElem?_eq_some_iff.mp ex).1;lia
     have hi2:i < cs.length:=by lia
     obtain⟨v,ev,rv⟩:=jU rp (i:=i) (t:=(rs[i]).t) (by unfold rT;rw[List.getElem?_map,List.getElem?_eq_getElem hi];rfl)
     rw[ex] at ev;cases ev;have ey':y=.int cs[i]:=by
      unfold iV at ey;rw[List.getElem?_map,List.getElem?_eq_getElem hi2] at ey;exact (Option.some.inj ey).symm
     subst ey';have hr0:(rs[i]).Ok 60:=aJ _ (List.getElem_mem hi);have ed:counted rs cs cy=counted (rs.drop (i+1)) (cs.drop (i+1)) (z.row rs[i] cs[i]):=by
      rw[ec,List.drop_eq_getElem_cons hi,List.drop_eq_getElem_cons hi2];rfl
     clear ec ex ey;generalize rs[i]=r0 at *;generalize cs[i]=c0 at *;clear hN q;walk_at "rz";refine⟨pr,[x,.int c0],rfl,bj.of af,rfl,?_⟩;walk_at "rz";obtain⟨H4,e4⟩:∃ H4,H4=upd H3 pr (.tup [x,.int c0]):=⟨_,rfl⟩;rw[<- e4];have k34:KB [] H3 H4:=by rw[e4];exact KB.new hpr
     clear e4;have mb4:=mb.kb k34;have k4:KB [] H H4:=k3.trans k34;refine⟨B,[r0.t],fun r outs=>r=.fr (.lst (cT (gb r0)))/\outs=[],⟨rv.fr fun b o h n=>⟨k4 b o h (by simp),n⟩,trivial⟩,fun b hb=>let ⟨o,ho⟩:=hB b hb;⟨o,k4 b o ho (by simp)⟩,List.nodup_nil,⟨r0,60,rfl,hr0,rfl,rfl⟩,fun v H5 r outs hQ keep res=>?_⟩
     obtain⟨rfl,rfl⟩:=hQ;obtain⟨a,rfl,na,nBa,⟨us,oa,ra⟩,_⟩:=res;have k45:KB [] H4 H5:=fun b o e _=>keep b o e (by show b∉([]:List Addr);simp)
     have mb5:=mb4.kb k45;have ap:a∉[p0,p1,p2]:=mb4.out (.inl na);have sqa:sq H5 a=some (true,us):=fT oa;simp only[sqa];have lus:us.length=(gb r0).length:=by rw[iw ra];unfold cT;rw[List.length_map]
     refine rU (xs:=us) (fun j σ H'=>∃ (z':fN) (o5 o6:Option V),MB H' D p0 p1 p2 z'/\((gb r0).drop j).foldl (fun s p=>s.add p c0) z'=z.row r0 c0/\z'.w.length=9/\z'.c.length=17/\z'.b.length=8/\KB [p0,p1,p2] H5 H'/\σ=[some (.ref pv),some (.ref cv),some (.ref D),some x,some (.int c0),o5,o6]) ⟨z,o5,o6,mb5,xc z r0 c0,lw,lc,lb,KB.refl _ _,rfl⟩ (fun j σ H' _ ⟨z',o5,o6,h1,h2,h3,h4,h5,h6,h7⟩=>bA.of (h6 _ _ oa ap)) ?_ ?_
     ·rintro j u σ H6 eu ⟨z',o5,o6,mb6,ef,lw',lc',lb',k6,rfl⟩;have hj:j < (gb r0).length:=by have:=(List.getElem?_eq_some_iff.mp eu).1;lia
      obtain⟨v,ev,rv2⟩:=jU ra (i:=j) (t:=.tup [.int (((gb r0)[j]).1:Nat),.int (((gb r0)[j]).2:Nat)]) (by unfold cT;rw[List.getElem?_map,List.getElem?_eq_getElem hj];rfl)
      rw[eu] at ev;cases ev;have hin:=xa hr0 _ (List.getElem_mem hj);have ef':((gb r0).drop (j+1)).foldl (fun s p=>s.add p c0) (z'.add (gb r0)[j] c0)=z.row r0 c0:=by
       rw[<- ef,List.drop_eq_getElem_cons hj];rfl
      clear ef;generalize (gb r0)[j]=pq at *;obtain⟨i1,i2⟩:=pq
      cases rv2 with
      | @tup q vs2 _ nq oq rq =>
       have e2:=fD (xs:=[(i1:Int),(i2:Int)]) rq;subst e2;have qp:q∉[p0,p1,p2]:=mb5.out (.inr ⟨_,oq⟩);have oq6:=k6 _ _ oq qp;obtain⟨p,l,ea,op6,hl2,hp,mb7⟩:=mb6.at n3 lw' lc' lb' hin c0;walk_at "rz";refine⟨q,_,rfl,bj.of oq6,rfl,?_⟩;have sD:sq H6 D=some (true,[.ref p0,.ref p1,.ref p2]):=fT mb6.oD;have sp:sq H6 p=some (true,iV l):=fT op6;have e1:bX (iV l) ((i2:Nat):Int)=some (.int (l.getD i2 0)):=cN (by unfold iV;rw[List.getElem?_map,List.getD_eq_getElem?_getD,List.getElem?_eq_getElem hl2];rfl)
       have ei:kW (iV l).length ((i2:Nat):Int)=some i2:=by
        rw[sM (by lia) (by unfold iV;rw[List.length_map];lia)];simp
       have eset:(iV l).set i2 (V.int (l.getD i2 0+c0))=iV (e7 l i2 c0):=by unfold iV e7;rw[List.map_set]
       show dN _ _ [V.int (i1:Nat),V.int (i2:Nat)] _ _ _;walk_at "rz";simp only[sD,ea,L2.Ap.zf,sp,e1,L2.Ap.Ec,L2.Ap.setRef,op6,ei,eset];obtain⟨g1,g2,g3⟩:=fN.yC z' (i1,i2) c0;exact⟨_,some (.int (i1:Nat)),some (.int (i2:Nat)),mb7,ef',by rw[g1];exact lw',by rw[g2];exact lc',by rw[g3];exact lb',k6.trans (KB.set hp),rfl,rfl⟩
     ·rintro σ H6 ⟨z',o5,o6,mb6,ef,lw',lc',lb',k6,rfl⟩;rw[lus,List.drop_length] at ef;have ef':z'=z.row r0 c0:=ef;subst ef';refine⟨_,some x,some (.int c0),o5,o6,mb6,ed,lw',lc',lb',fun b o e _=>k6 b o (k45 b o (k4 b o e (by simp)) (by simp)) ?_,rfl⟩
      simp only[List.mem_cons,List.not_mem_nil,or_false,not_or];exact⟨ak e f0,ak e f1,ak e f2⟩
    ·rintro σ H3 ⟨z,o3,o4,o5,o6,mb,ec,lw,lc,lb,k3,rfl⟩;have ez:counted rs cs cy=z:=by rw[ec,lp,List.drop_length];rfl
     rw[ez] at hq;show N _ _;rw[hN];clear hN N;walk_at "rz";have sD:sq H3 D=some (true,[.ref p0,.ref p1,.ref p2]):=fT mb.oD;simp only[sD];refine m_ (xs:=[.ref p0,.ref p1,.ref p2]) (show 3<=sizeLine by decide) (fun D2 i ys H'=>H3 D2=none/\KB [] H3 H'/\H' D2=some (.lst ys)/\ys.length=i/\aj K H' (more B D2) ys ([L2.T.tup (nN (ay z.w 12)),.tup (nN (ay z.c 12)),.tup (nN (ay z.b 12))].take i)) (fun D2 hD=>⟨hD,KB.new hD,af,rfl,.nil⟩) (fun D2 i ys H' ⟨h1,h2,h3,h4,h5⟩=>⟨h3,h4⟩) (fun D2 i ys H' ⟨h1,h2,h3,h4,h5⟩=>bA.of (h2 _ _ mb.oD (by simp))) ?_ ?_
     ·rintro D2 i ys H4 u R eu ⟨h1,k4,h3,h4,h5⟩ kk;obtain⟨p,l,rfl,op4,hl1,hl2,et⟩:∃ p l,u=.ref p/\H4 p=some (.lst (iV l))/\1<=l.length/\l.length<=20/\[L2.T.tup (nN (ay z.w 12)),.tup (nN (ay z.c 12)),.tup (nN (ay z.b 12))].take (i+1)=[L2.T.tup (nN (ay z.w 12)),.tup (nN (ay z.c 12)),.tup (nN (ay z.b 12))].take i++[.tup (nN (ay l 12))]:=by
       have hi:i=0\/i=1\/i=2:=by
        have:=(List.getElem?_eq_some_iff.mp eu).1;simp only[List.length_cons,List.length_nil] at this;lia
       rcases hi with rfl | rfl | rfl
       ·exact⟨p0,z.w,(Option.some.inj eu).symm,k4 _ _ mb.o0 (by simp),by lia,by lia,rfl⟩
       ·exact⟨p1,z.c,(Option.some.inj eu).symm,k4 _ _ mb.o1 (by simp),by lia,by lia,rfl⟩
       ·exact⟨p2,z.b,(Option.some.inj eu).symm,k4 _ _ mb.o2 (by simp),by lia,by lia,rfl⟩
      have sp:sq H4 p=some (true,iV l):=fT op4;walk_at "rz";simp only[sp];intro t ht;have k5:KB [] H4 (upd H4 t (.tup (iV l))):=KB.new ht;have kall:KB [] H (upd H4 t (.tup (iV l))):=(k3.trans k4).trans k5;have nt:¬ more B D2 t:=fun z=>by
       rcases z with z | z
       ·rw[z,h3] at ht;cases ht
       ·obtain⟨o,ho⟩:=hB t z;rw[(k3.trans k4) t o ho (by simp)] at ht;cases ht
      refine⟨more B D2,[.tup (nI l),.int 12],fun r outs=>r=.tr (.tup (nN (ay l 12)))/\outs=[],⟨.tup nt af (m8 l),.int 12,trivial⟩,fun b hb=>?_,List.nodup_nil,⟨l,rfl,hl1,hl2,rfl,rfl⟩,fun v H5 r outs hQ keep res=>?_⟩
      ·rcases hb with rfl | hb
       ·exact⟨_,k5 _ _ h3 (by simp)⟩
       ·obtain⟨o,ho⟩:=hB b hb;exact⟨o,kall b o ho (by simp)⟩
      ·obtain⟨rfl,rfl⟩:=hQ;obtain⟨rep,_⟩:=res;have k6:KB [] H4 H5:=k5.trans fun b o e _=>keep b o e (by show b∉([]:List Addr);simp)
       have fs:Fr (more B D2) H5 (more B D2) (upd H5 D2 (.lst (ys++[v]))):=Fr.set (.inl rfl);refine kk v H5 (k6 _ _ h3 (by simp)) ⟨h1,fun b o e _=>?_,af,by rw[List.length_append,h4];rfl,?_⟩
       ·rw[ae (ak e h1)];exact k6 b o (k4 b o e (by simp)) (by simp)
       ·rw[et];exact j9 ((h5.fr fun b o e n=>⟨k6 b o e (by simp),n⟩).fr fs) (rep.fr fs)
     rintro D2 ys H4 ⟨h1,k4,h3,h4,h5⟩;have s2:sq H4 D2=some (true,ys):=fT h3;walk_at "rz";simp only[s2];intro t ht;have kt:KB [] H (upd H4 t (.tup ys)):=(k3.trans k4).trans (KB.new ht);have nt:¬ B t:=fun z=>by
      obtain⟨o,ho⟩:=hB t z;rw[(k3.trans k4) t o ho (by simp)] at ht;cases ht
     refine q _ _ _ _ hq (fun b o e _=>kt b o e (by simp)) ⟨.tup nt af (h5.fr fun b o e n=>⟨?_,fun z=>n (.inr z)⟩),.nil⟩
     rw[ae (ak e ht)];exact e
theorem ym{n:Nat}{xs:List L2.T}(h:∀ x∈xs,lz n x x true):lz (n+1) (.tup xs) (.tup xs) true:=by
 have:=lz.tup (n:=n) (xs:=xs) (ys:=xs) (fun _=>true) fun j x y e1 e2=>by
  rw[e1] at e2;cases e2;exact h x (List.mem_of_getElem? e1)
 rw[fZ rfl fun _ _=>rfl] at this;exact this
theorem yM(n:Nat)(i:Int):lz n (.int i) (.int i) true:=by
 have h:=lz.flat (n:=n) (t:=.int i) (u:=.int i) rfl rfl;rw[show Y.AJ (.int i) (.int i)=true from beq_self_eq_true i] at h;exact h
theorem vI(n:Nat)(xs:List Nat):lz (n+1) (.tup (nN xs)) (.tup (nN xs)) true:=ym fun x hx=>by
 obtain⟨i,_,rfl⟩:=List.mem_map.mp hx;exact yM n i
theorem qr{z:fN}{μ:Mu}{Q:R->Mu->Prop}(q:Q (.tr (.bl false)) μ):Y.x8 (i4 z) (i4 z) μ Q:=by
 refine⟨fun _=>true,fun j x y e1 e2=>?_,?_⟩
 ·rw[e1] at e2;cases e2;have hx:=List.mem_of_getElem? e1;simp only[List.mem_cons,List.not_mem_nil,or_false] at hx;rcases hx with rfl | rfl | rfl<;>exact vI 3 _
 ·exact q
def jA:List Int->List Nat->List Int
 | c::cs,l::ls=>c*(l:Int)::jA cs ls
 | _,_=>[]
theorem jQ:∀ (cs:List Int) (ls:List Nat),(jA cs ls).sum=dot cs (nZ ls)
 | [],_=>by cases ‹List Nat›<;>rfl
 | _::_,[]=>rfl
 | c::cs,l::ls=>by
  show (c*(l:Int)::jA cs ls).sum=c*(l:Int)+dot cs (nZ ls);rw[List.sum_cons,jQ cs ls]
theorem rJ{cs:List Int}{ls:List Nat}{t:L2.T}{r:List L2.T}(h:ee (nI cs) (nN ls)=t::r):∃ c cs' l ls',cs=c::cs'/\ls=l::ls'/\t=.tup [.int c,.int (l:Int)]/\r=ee (nI cs') (nN ls'):=by
 cases cs with
 | nil=>cases h
 | cons c cs' =>
  cases ls with
  | nil=>cases h
  | cons l ls'=>cases h;exact⟨c,cs',l,ls',rfl,rfl,rfl,rfl⟩
theorem vY{cs:List Int}{ls:List Nat}(h:ee (nI cs) (nN ls)=[]):jA cs ls=[]:=by
 cases cs with
 | nil=>cases ls<;>rfl
 | cons c cs' =>
  cases ls with
  | nil=>rfl
  | cons l ls'=>cases h
theorem zS{f:Addr}{fd:FuncData}(T:Txt K mg)(F:wJ K "law" "law" dU f fd)(h_law_folded:ai P w K mg base bT 1 "_law_folded" ["script"] (spT K [false] yU))(h_law_seed:ai P w K mg base bT 1 "_law_seed" ["cell"] (spT K [false] zt))(h_law_draw:ai P w K mg base bT 1 "_law_draw" ["seed","most"] (spT K [true,false] fm))
  (h_law_program:ai P w K mg base bT 4 "_law_program" ["seed","most","words"] (spT K [true,false,false] mJ)) (h_law_counts:ai P w K mg base bT 2 "_law_counts" ["seed","many"] (spT K [true,false] oO)) (h_law_steep:ai P w K mg base bT 2 "_law_steep" ["seed"] (spT K [true] v9)) (hbook_of:ai P w K mg base bT 7 "book_of" ["program","counts"] (spT K [false,false] yW))
  (h_law_counted:ai P w K mg base bT 2 "_law_counted" ["program","counts"] (spT K [false,false] lE)) (h_law_are_lengths:ai P w K mg base bT 1 "_law_are_lengths" ["found","many"] (spT K [false,false] zC)) (h_law_least_sum:ai P w K mg base bT 1 "_law_least_sum" ["counts"] (spT K [false] zF)) :
  dg P w K mg base bT 8 f fd ["script"] (j5 K):=by
 refine Ah (yk F cS [false] rfl (by decide) (fun args Qt hl h cdv A outer s H E hr=>?_))
 have hu:=bZ hr;obtain⟨ns,rfl,hn,q⟩:=h;refine⟨_,(Y.ah (Y.dQ PassesOwn.never rfl (Y.anyS K rfl (Y.op (Y.aP K rfl) Y.aN (Y.iM K rfl (Y.vS 0) Y.AY (Y.Bg Y.int)) (Y.lst (Y.cons (Y.fn K rfl h_law_folded (hr.mono (by decide)) rfl aH (Y.cons (Y.vS 0) Y.nil)) Y.nil)))) (Y.aR (i:=1) cS.nd rfl (by walk_at "lc")) (Y.ah (Y.set (i:=2) cS.nd rfl (by walk_at "lc") (Y.fn K rfl h_law_seed (hr.mono (by decide)) rfl aH (Y.cons (Y.vS 1) Y.nil)))
   (Y.ah (Y.set (i:=3) cS.nd rfl (by walk_at "lc") (Y.fn K rfl h_law_program (hr.mono (by decide)) rfl aH (Y.cons (Y.vS 2) (Y.cons Y.int (Y.cons Y.int Y.nil)))))
   (Y.ah (Y.set (i:=4) cS.nd rfl (by walk_at "lc") (Y.fn K rfl h_law_counts (hr.mono (by decide)) rfl aH (Y.cons (Y.vS 2) (Y.cons (Y.cb (Y.aZ K rfl) Y.bI rfl T.dq (by decide +kernel) (Y.cons (Y.vS 3) Y.nil)) Y.nil))))
   (Y.ah (Y.fM (Y.bS (Y.Bu K rfl (iW hr)) Y.A5 (Y.fn K rfl h_law_draw (hr.mono (by decide)) rfl aH (Y.cons (Y.vS 2) (Y.cons Y.int Y.nil))) Y.int) (Y.aG (Y.asg (Y.fn K rfl h_law_steep (hr.mono (by decide)) rfl aH (Y.cons (Y.vS 2) Y.nil)) (Y.qx (n:=2) K rfl rfl (Y.b9 (Y.aR (i:=3) cS.nd rfl (by walk_at "lc")) (Y.b9 (Y.aR (i:=4) cS.nd rfl (by walk_at "lc")) Y.dS))))) Y.cB)
   (Y.ah (Y.set (i:=5) cS.nd rfl (by walk_at "lc") (Y.fn K rfl hbook_of (hr.mono (by decide)) rfl aH (Y.cons (Y.vS 3) (Y.cons (Y.vS 4) Y.nil))))
   (Y.ah (Y.set (i:=6) cS.nd rfl (by walk_at "lc") (Y.fn K rfl hbook_of (hr.mono (by decide)) rfl aH (Y.cons (Y.vS 3) (Y.cons (Y.op (Y.gP K rfl) Y.gU (Y.tup (Y.cons Y.int Y.nil)) (Y.cb (Y.aZ K rfl) Y.bI rfl T.dq (by decide +kernel) (Y.cons (Y.vS 3) Y.nil))) Y.nil))))
   (Y.ah (Y.fM (Y.tw (Y.yx (Y.bS (Y.kU K rfl (iW hr)) Y.lh (Y.fn K rfl hbook_of (hr.mono (by decide)) rfl aH (Y.cons (Y.vS 3) (Y.cons (Y.vS 4) Y.nil))) (Y.vS 5)) (Y.nL (Y.bS (Y.kU K rfl (iW hr)) Y.lh (Y.fn K rfl hbook_of (hr.mono (by decide)) rfl aH (Y.cons (Y.vS 3) (Y.cons (Y.op (Y.gP K rfl) Y.gU (Y.tup (Y.cons Y.int Y.nil)) (Y.cb (Y.aZ K rfl) Y.bI rfl T.dq (by decide +kernel) (Y.cons (Y.vS 3) Y.nil))) Y.nil))) (Y.vS 6))))) (Y.aG (Y.ret Y.bl)) Y.cB)
   (Y.ah (Y.fM (Y.tw (Y.yx (Y.nJ (Y.iy K rfl (Y.Dr (C:="tuple") K rfl rfl T.cw (Y.vS 5) rfl T.cK (by decide +kernel)))) (Y.nL (Y.bS (Y.kU K rfl (iW hr)) Y.lh (Y.cb (Y.aZ K rfl) Y.bI rfl T.dq (by decide +kernel) (Y.cons (Y.vS 5) Y.nil)) Y.int)))) (Y.aG (Y.ret Y.bl)) Y.cB)
   (Y.aG (Y.dQ PassesOwn.never rfl (Y.zip K rfl rfl T.j4 (Y.cons (Y.vS 5) (Y.cons (Y.fn K rfl h_law_counted (hr.mono (by decide)) rfl aH (Y.cons (Y.vS 3) (Y.cons (Y.vS 4) Y.nil))) Y.nil))) (Y.qx (n:=2) K rfl rfl (Y.b9 (Y.aR (i:=7) cS.nd rfl (by walk_at "lc")) (Y.b9 (Y.aR (i:=8) cS.nd rfl (by walk_at "lc")) Y.dS))) (Y.ah (Y.fM (Y.nJ (Y.iy K rfl (Y.fn K rfl h_law_are_lengths (hr.mono (by decide)) rfl aH (Y.cons (Y.vS 7) (Y.cons (Y.cb (Y.aZ K rfl) Y.bI rfl T.dq (by decide +kernel) (Y.cons (Y.vS 8) Y.nil)) Y.nil))))) (Y.aG (Y.ret Y.bl)) Y.cB)
   (Y.aG (Y.fM (Y.bS (Y.kU K rfl (iW hr)) Y.lh (Y.cb (Y.jI K rfl rfl) Y.vd rfl T.zE (by decide +kernel) (Y.cons (Y.zo K rfl (osc:=aa dU) (ON:=["script","cell","seed","program","counts","found","other","lengths","some"]) (own:=["one","length"]) (N:=["one","length","script","cell","seed","program","counts","found","other","lengths","some"]) ⟨rfl,by decide +kernel,rfl,by decide +kernel,by decide +kernel,by decide +kernel,by decide +kernel,by decide +kernel⟩ rfl rfl rfl rfl (Y.zip K rfl rfl T.j4 (Y.cons (Y.vS 8) (Y.cons (Y.vS 7) Y.nil))) (fun _ _ _ _=>(Z.mS (n:=2) K rfl rfl (Z.b9 (Z.aR (i:=0) (show List.Nodup (["one","length","script","cell","seed","program","counts","found","other","lengths","some"]:List Str) by decide +kernel) rfl (by walk_at "lc")) (Z.b9 (Z.aR (i:=1) (show List.Nodup (["one","length","script","cell","seed","program","counts","found","other","lengths","some"]:List Str) by decide +kernel) rfl (by walk_at "lc")) Z.dS)))) (fun _ _ _ _=>Y.sC) (fun _ _ _ _=>(Y.op (Y.gP K rfl) Y.gU (Y.vS 0) (Y.vS 1)))) Y.nil)) (Y.fn K rfl h_law_least_sum (hr.mono (by decide)) rfl aH (Y.cons (Y.vS 8) Y.nil))) (Y.aG (Y.ret Y.bl)) Y.cB))))))))))))))
   (Y.aG (Y.ret Y.bl))),?_⟩
 refine aq fun N hN=>?_;show Y.uE _ _ _ _ (startM [false] [.dc (nI ns)] _);walk_at "rt";refine⟨ns,rfl,fun fv=>?_⟩;obtain⟨ms,hms,hlm⟩:∃ ms:List Int,Y.cq (nI ns) none (some 4)++[L2.T.int fv]=nI ms/\(Y.cq (nI ns) none (some 4)).length<=4:=by
  refine⟨Y.cq ns none (some 4)++[fv],?_,?_⟩
  ·unfold nI Y.cq;rw[List.map_append,List.map_take,List.map_drop,List.length_map];rfl
  ·unfold Y.cq;rw[show (some (4:Int))=some ((4:Nat):Int) from rfl,HT.fI,HT.gR,List.length_take];lia
 wp_walk using hms;refine⟨by decide,Nat.le_trans (show (Y.cq (nI ns) none (some 4)).length+1<=5 by lia) (by decide),?_⟩
 clear hms hlm;refine bR (fun rest μ=>∃ (ms:List Int) (s1 s3 s4 s5 s6 s7 s8:Option L2.T) (sd:Sl),rest=nI ms/\(sd=.un\/∃ c,sd=.bx c)/\μ=[.tr (.dc (nI ns)),sl s1,sd,sl s3,sl s4,sl s5,sl s6,sl s7,sl s8]) ⟨ms,none,none,none,none,none,none,none,.un,rfl,.inl rfl,rfl⟩ ?_ ?_
 ·rintro μ ⟨ms,s1,s3,s4,s5,s6,s7,s8,sd,_,_,rfl⟩;show N _;refine hN _ ?_;clear hN N;walk_at "rt";exact q
 ·rintro t ts μ M ⟨ms,s1,s3,s4,s5,s6,s7,s8,sd,e,hsd,rfl⟩ k
  cases ms with
  | nil=>cases e
  | cons m ms =>
   cases e;clear hN q;have nsd:nb (some sd)=True:=by rcases hsd with rfl | ⟨c,rfl⟩<;>rfl
   walk_at "rt";refine aq fun M' hM=>?_;wp_walk using nsd;refine⟨m,rfl,fun sd1 hs1=>?_⟩;wp_walk using nsd;refine hM _ ?_;clear hM M';refine aq fun M' hM=>?_;walk_at "rt";refine⟨sd1,rfl,hs1,fun rs sd2 hs2 h60 aJ=>?_⟩;walk_at "rt";refine hM _ ?_;clear hM M';refine aq fun M' hM=>?_;walk_at "rt";refine⟨sd2,rs.length,?_,hs2,h60,fun cs sd3 hs3 hcl hc0=>?_⟩
   ·unfold rT;rw[List.length_map]
   walk_at "rt";refine hM _ ?_;clear hM M';refine aq fun M' hM=>?_;have key:∀ (rs:List Row) (cs:List Int) (sd4:L2.T),rs.length<=60->(∀ r∈rs,r.Ok 60)->cs.length=rs.length->(∀ x∈cs,0<=x)->M' [.tr (.dc (nI ns)),.tr (.int m),.bx sd4,.tr (.tup (rT rs)),.tr (.tup (nI cs)),sl s5,sl s6,sl s7,sl s8]:=by
    clear hcl hc0 h60 aJ hs3 hs2;intro rs cs sd4 h60 aJ hcl hc0;refine hM _ ?_;clear hM M';have hz:=eZ rs cs pA hc0;refine aq fun M' hM=>?_;walk_at "rt";refine⟨rs,cs,rfl,hcl.symm,h60,aJ,?_⟩;walk_at "rt";refine hM _ ?_;clear hM M';have hz1:=eZ rs (List.replicate rs.length 1) pA (fun x hx=>by rw[List.eq_of_mem_replicate hx];decide)
    have lr:(rT rs).length=rs.length:=by unfold rT;rw[List.length_map]
    refine aq fun M' hM=>?_;wp_walk using lr,Int.toNat_natCast,i6;refine⟨by decide,⟨by simp,by lia,by lia⟩,rs,List.replicate rs.length 1,rfl,by rw[List.length_replicate],h60,aJ,?_⟩
    walk_at "rt";refine hM _ ?_;clear hM M';refine aq fun M' hM=>?_;walk_at "rt";refine⟨rs,cs,rfl,hcl.symm,h60,aJ,?_⟩;walk_at "rt";refine qr ?_;wp_walk using lr,Int.toNat_natCast,i6;refine⟨by decide,⟨by simp,by lia,by lia⟩,rs,List.replicate rs.length 1,rfl,by rw[List.length_replicate],h60,aJ,?_⟩
    walk_at "rt";refine qr ?_;walk_at "rt";refine hM _ ?_;clear hM M';clear hz1;generalize counted rs (List.replicate rs.length 1) cy=z1;refine aq fun M' hM=>?_;show Y.wa _ _ _ _ [.tr (.dc (nI ns)),.tr (.int m),.bx sd4,.tr (.tup (rT rs)),.tr (.tup (nI cs)),.tr (.tup [.tup (nN (ay (counted rs cs cy).w 12)),.tup (nN (ay (counted rs cs cy).c 12)),.tup (nN (ay (counted rs cs cy).b 12))]),.tr (i4 z1),sl s7,sl s8];wp_walk using (show eK "tuple" "tuple"=true from by decide)
    rw[if_neg (by simp)]
    refine hM _ ?_;clear hM M';walk_at "rt";refine⟨rs,cs,rfl,hcl.symm,h60,aJ,?_⟩;walk_at "rt";show Y.dM _ _ _ ([(counted rs cs cy).w,(counted rs cs cy).c,(counted rs cs cy).b].map fun l=>L2.T.tup [.tup (nN (ay l 12)),.lst (nI l)]) _;have hz3:∀ l∈[(counted rs cs cy).w,(counted rs cs cy).c,(counted rs cs cy).b],2<=l.length/\l.length<=20/\∀ x∈l,0<=x:=fun l hl=>by
     simp only[List.mem_cons,List.not_mem_nil,or_false] at hl;rcases hl with rfl | rfl | rfl
     ·exact⟨by rw[hz.lw];decide,by rw[hz.lw];decide,hz.nw⟩
     ·exact⟨by rw[hz.lc];decide,by rw[hz.lc];decide,hz.nc⟩
     ·exact⟨by rw[hz.lb];decide,by rw[hz.lb];decide,hz.nb⟩
    generalize [(counted rs cs cy).w,(counted rs cs cy).c,(counted rs cs cy).b]=todo at hz3 ⊢;clear hz;generalize L2.T.tup [L2.T.tup (nN (ay (counted rs cs cy).w 12)),L2.T.tup (nN (ay (counted rs cs cy).c 12)),L2.T.tup (nN (ay (counted rs cs cy).b 12))]=bk;refine bR (fun rest μ=>∃ (todo:List (List Int)) (o7 o8:Option L2.T),rest=todo.map (fun l=>L2.T.tup [.tup (nN (ay l 12)),.lst (nI l)])/\(∀ l∈todo,2<=l.length/\l.length<=20/\∀ x∈l,0<=x)/\μ=[.tr (.dc (nI ns)),.tr (.int m),.bx sd4,.tr (.tup (rT rs)),.tr (.tup (nI cs)),.tr bk,.tr (i4 z1),sl o7,sl o8]) ⟨todo,s7,s8,rfl,hz3,rfl⟩ ?_ ?_
    ·rintro μ ⟨todo,o7,o8,_,_,rfl⟩;show M _;exact k _ ⟨ms,some (.int m),some (.tup (rT rs)),some (.tup (nI cs)),some bk,some (i4 z1),o7,o8,.bx sd4,rfl,.inr ⟨_,rfl⟩,rfl⟩
    ·rintro t r μ M3 ⟨todo,o7,o8,e,hto,rfl⟩ k3;clear k;obtain⟨l,todo',rfl,rfl,rfl⟩:=List.map_eq_cons_iff.mp e.symm;obtain⟨l2,l20,lnn⟩:=hto l (List.mem_cons_self ..);have hL:=jO (b:=12) lnn (by lia) l20 (by decide) (by decide) (Nat.le_trans l20 (by decide))
     have hS:=xY lnn l2 l20;walk_at "rt";refine aq fun M' hM=>?_;wp_walk using bN;refine⟨ay l 12,?_,by rw[hL.len];exact l20,hL.dh,(Pm.gw (D:=12) (by decide) fun x hx=>(hL.dh x hx).2).mp hL.ks,?_⟩
     ·rw[hL.len]
     walk_at "rt";refine hM _ ?_;clear hM M';walk_at "rt";refine dn (fun rest acc μ=>∃ (l':List Int) (ls':List Nat) (a:List Int),rest=ee (nI l') (nN ls')/\acc=nI a/\a++jA l' ls'=jA l (ay l 12)/\a.length+l'.length<=20/\(∀ x∈ls',x<=12)/\μ=[.tr (.dc (nI ns)),.tr (.int m),.bx sd4,.tr (.tup (rT rs)),.tr (.tup (nI cs)),.tr bk,.tr (i4 z1),.tr (.tup (nN (ay l 12))),.tr (.lst (nI l))]) ⟨l,ay l 12,[],rfl,rfl,rfl,by simpa using l20,fun x hx=>(hL.dh x hx).2,rfl⟩ ?_ ?_
     ·rintro acc μ ⟨l',ls',a,e0,rfl,ea,_,_,rfl⟩;rw[vY e0.symm,List.append_nil] at ea;subst ea;refine⟨trivial,?_⟩;walk_at "rt";refine⟨_,rfl,?_⟩;walk_at "rt";refine⟨l,rfl,l2,l20,?_⟩;rw[jQ,hS];walk_at "rt";rw[if_neg (by simp)]
      exact k3 _ ⟨todo',some _,some _,rfl,fun y hy=>hto y (List.mem_cons_of_mem _ hy),rfl⟩
     ·rintro t r acc μ M4 ⟨l',ls',a,e0,rfl,ea,hal,h12,rfl⟩ k4;obtain⟨c,l'',x,ls'',rfl,rfl,rfl,rfl⟩:=rJ e0.symm;have hx:=h12 x (List.mem_cons_self ..);rw[List.length_cons] at hal;refine⟨trivial,by rw[bN];exact Nat.lt_of_le_of_lt (show a.length<=20 by lia) (by decide),?_⟩
      walk_at "rt";refine⟨.inr ⟨by lia,by lia⟩,?_⟩
      refine k4 _ _ ⟨l'',ls'',a++[c*(x:Int)],rfl,by unfold nI;rw[List.map_append];rfl,by rw[<- ea,List.append_assoc];rfl,by rw[List.length_append];simp only[List.length_cons,List.length_nil];lia,fun y hy=>h12 y (List.mem_cons_of_mem _ hy),rfl⟩
   clear hM;walk_at "rt";refine⟨sd3,4,rfl,hs3,by decide,by decide,fun v sd4 hs4 v0 v1=>?_⟩
   by_cases hv:v=0
   ·subst hv;walk_at "rt";refine⟨sd4,rfl,hs4,fun rs cs sd5 hs5 h60 aJ hcl hc0=>?_⟩;walk_at "rt";exact key rs cs sd5 h60 aJ hcl hc0
   ·wp_walk using if_neg hv;exact key rs cs sd4 h60 aJ hcl hc0
theorem Bd{f:Addr}{fd:FuncData}(T:Txt K mg)(f_can:HasFn K mg "can_be" cc ["lengths"])(f_least:HasFn K mg "least_lengths" aw ["counts","bound"])(f_chosen:HasFn K mg "chosen_things" az ["counts","bound"])(f_worth:HasFn K mg "by_worth" bE ["shelf"])(f_packs:HasFn K mg "packs_of" b6 ["shelf"])
  (f_book:HasFn K mg "book_of" bB ["program","counts"]) (f_coded:HasFn K mg "coded_things" aO ["row"]) (f_fold:HasFn K mg "_law_folded" aX ["script"]) (f_seed:HasFn K mg "_law_seed" bw ["cell"]) (f_draw:HasFn K mg "_law_draw" bt ["seed","most"]) (f_words:HasFn K mg "_law_words" ba []) (f_number:HasFn K mg "_law_number" aW ["seed"]) (f_row:HasFn K mg "_law_row" bF ["seed","many","words"])
  (f_prog:HasFn K mg "_law_program" aE ["seed","most","words"]) (f_fig:HasFn K mg "_law_figures" aM ["number"]) (f_counts:HasFn K mg "_law_counts" aL ["seed","many"]) (f_steep:HasFn K mg "_law_steep" bg ["seed"]) (f_counted:HasFn K mg "_law_counted" aQ ["program","counts"]) (f_lsum:HasFn K mg "_law_least_sum" ax ["counts"]) (f_are:HasFn K mg "_law_are_lengths" au ["found","many"]) (F:wJ K "law" "law" dU f fd):dg P w K mg base bT 8 f fd ["script"] (j5 K):=by
 obtain⟨C_NoCode,hC_NoCode,kC_NoCode⟩:=T.xs;have dr:=wW (P:=P) (w:=w) (base:=base) T f_draw;have wd:=qO (P:=P) (w:=w) (base:=base) T f_words;have le:=tG (P:=P) (w:=w) (base:=base) T f_least (AX T f_can) (r_ T f_chosen (ur T f_worth) (v5 T f_packs)) hC_NoCode kC_NoCode;exact zS T F (si T f_fold) (xU T f_seed) dr (n6 T f_prog dr (B6 T f_row dr wd (qR T f_number dr))) (rG T f_counts dr) (vy T f_steep dr) (yi T f_book (u3 T f_coded) (le.calm Az)) (nX T f_counted wd (oj T f_fig)) (wZ T f_are) (yj T f_lsum)
theorem all_mk{l:PySem.W.OpenLaw}{w:World}{K:PySem.W.Frag}{h:Heap}{mg:Str->Option Value}{fa:Addr}(X:K.In h)(G:h.Ns mainGlobals mg)(hfa:mg "law"=some (.ref fa))
  {f0 f1 f2 f3 f4 f5 f6 f7 f8 f9 f10 f11 f12 f13 f14 f15 f16 f17 f18 f19 f20:Addr} {od0 an0 od1 an1 od2 an2 od3 an3 od4 an4 od5 an5 od6 an6 od7 an7 od8 an8 od9 an9 od10 an10 od11 an11 od12 an12 od13 an13 od14 an14 od15 an15 od16 an16 od17 an17 od18 an18 od19 an19 od20 an20:Option Addr} {sl0 sl1 sl2 sl3 sl4 sl5 sl6 sl7 sl8 sl9 sl10 sl11 sl12 sl13 sl14 sl15 sl16 sl17 sl18 sl19 sl20:Array (Option Value)} {oc0 kV0 dc0 pm0 cd0 ct0 oc1 kV1 dc1 pm1 cd1 ct1 oc2 kV2 dc2 pm2 cd2 ct2 oc3 kV3 dc3 pm3 cd3 ct3 oc4 kV4 dc4 pm4 cd4 ct4 oc5 kV5 dc5 pm5 cd5 ct5 oc6 kV6 dc6 pm6 cd6 ct6 oc7 kV7 dc7 pm7 cd7 ct7 oc8 kV8 dc8 pm8 cd8 ct8 oc9 kV9 dc9 pm9 cd9 ct9 oc10 kV10 dc10 pm10 cd10 ct10 oc11 kV11 dc11 pm11 cd11 ct11 oc12 kV12 dc12 pm12 cd12 ct12 oc13 kV13 dc13 pm13 cd13 ct13 oc14 kV14 dc14 pm14 cd14 ct14 oc15 kV15 dc15 pm15 cd15 ct15 oc16 kV16 dc16 pm16 cd16 ct16 oc17 kV17 dc17 pm17 cd17 ct17 oc18 kV18 dc18 pm18 cd18 ct18 oc19 kV19 dc19 pm19 cd19 ct19 oc20 kV20 dc20 pm20 cd20 ct20:Value}
  {q0:Addr} {qn0:Nat} {qs0:Array (Option Value)} {w0_0 w0_1 w0_2 w0_3 w0_4 w0_5 w0_6 w0_7:Tok}
  {q1:Addr} {qd1:Option Addr} {qn1:Nat} {qs1:Array (Option Value)} {w1_0 w1_1 w1_2:Tok}
  {w2_0:Tok}
  {w3_0:Tok}
  {w4_0:Tok}
  {w5_0:Tok}
  {dd0:Addr} {dh0_ep:Nat} {dh0_0 dh0_1 dh0_2 dh0_3 dh0_4 dh0_5 dh0_6 dh0_7 dh0_8:Int} {dp0_0 dp0_1 dp0_2 dp0_3 dp0_4 dp0_5 dp0_6 dp0_7 dp0_8:Addr} {do0_0 do0_1 do0_2 do0_3 do0_4 do0_5 do0_6 do0_7 do0_8:Option Addr} {dn0_0 dn0_1 dn0_2 dn0_3 dn0_4 dn0_5 dn0_6 dn0_7 dn0_8:Nat} {ds0_0 ds0_1 ds0_2 ds0_3 ds0_4 ds0_5 ds0_6 ds0_7 ds0_8:Array (Option Value)} {dt0_0 dt0_1 dt0_2 dt0_3 dt0_4 dt0_5 dt0_6 dt0_7 dt0_8 dw0_0_0 dw0_0_1 dw0_1_0 dw0_1_1 dw0_2_0 dw0_2_1 dw0_3_0 dw0_3_1 dw0_4_0 dw0_5_0 dw0_6_0 dw0_7_0 dw0_7_1:Tok}
  {xd_NoCode:Addr}
  {lc_by_worth lp_by_worth:Addr} {lO_by_worth:Value} {lD_by_worth:Option Addr} {lv_by_worth:Array Value} {lS_by_worth:Array (Option Value)}
  (a0:PySem.W.nsIn K mainGlobals "can_be"=some (some (.ref f0))) (l0:K.lookup f0=some ⟨oc0,od0,.func (PySem.W.fnOf "can_be" "can_be" (aD cc) (ao cc) (aa cc) .none kV0 dc0 pm0 an0 cd0 ct0),sl0⟩) (c0:PySem.W.codeIn K cd0 "can_be"=true) (k0:PySem.W.keepIn K (.ref f0)=true)
  (a1:PySem.W.nsIn K mainGlobals "least_lengths"=some (some (.ref f1))) (l1:K.lookup f1=some ⟨oc1,od1,.func (PySem.W.fnOf "least_lengths" "least_lengths" (aD aw) (ao aw) (aa aw) .none kV1 dc1 pm1 an1 cd1 ct1),sl1⟩) (c1:PySem.W.codeIn K cd1 "least_lengths"=true) (k1:PySem.W.keepIn K (.ref f1)=true)
  (a2:PySem.W.nsIn K mainGlobals "chosen_things"=some (some (.ref f2))) (l2:K.lookup f2=some ⟨oc2,od2,.func (PySem.W.fnOf "chosen_things" "chosen_things" (aD az) (ao az) (aa az) .none kV2 dc2 pm2 an2 cd2 ct2),sl2⟩) (c2:PySem.W.codeIn K cd2 "chosen_things"=true) (k2:PySem.W.keepIn K (.ref f2)=true)
  (a3:PySem.W.nsIn K mainGlobals "by_worth"=some (some (.ref f3))) (l3:K.lookup f3=some ⟨oc3,od3,.func (PySem.W.fnOf "by_worth" "by_worth" (aD bE) (ao bE) (aa bE) .none kV3 dc3 pm3 an3 cd3 ct3),sl3⟩) (c3:PySem.W.codeIn K cd3 "by_worth"=true) (k3:PySem.W.keepIn K (.ref f3)=true)
  (a4:PySem.W.nsIn K mainGlobals "packs_of"=some (some (.ref f4))) (l4:K.lookup f4=some ⟨oc4,od4,.func (PySem.W.fnOf "packs_of" "packs_of" (aD b6) (ao b6) (aa b6) .none kV4 dc4 pm4 an4 cd4 ct4),sl4⟩) (c4:PySem.W.codeIn K cd4 "packs_of"=true) (k4:PySem.W.keepIn K (.ref f4)=true)
  (a5:PySem.W.nsIn K mainGlobals "book_of"=some (some (.ref f5))) (l5:K.lookup f5=some ⟨oc5,od5,.func (PySem.W.fnOf "book_of" "book_of" (aD bB) (ao bB) (aa bB) .none kV5 dc5 pm5 an5 cd5 ct5),sl5⟩) (c5:PySem.W.codeIn K cd5 "book_of"=true) (k5:PySem.W.keepIn K (.ref f5)=true)
  (a6:PySem.W.nsIn K mainGlobals "coded_things"=some (some (.ref f6))) (l6:K.lookup f6=some ⟨oc6,od6,.func (PySem.W.fnOf "coded_things" "coded_things" (aD aO) (ao aO) (aa aO) .none kV6 dc6 pm6 an6 cd6 ct6),sl6⟩) (c6:PySem.W.codeIn K cd6 "coded_things"=true) (k6:PySem.W.keepIn K (.ref f6)=true)
  (a7:PySem.W.nsIn K mainGlobals "_law_folded"=some (some (.ref f7))) (l7:K.lookup f7=some ⟨oc7,od7,.func (PySem.W.fnOf "_law_folded" "_law_folded" (aD aX) (ao aX) (aa aX) .none kV7 dc7 pm7 an7 cd7 ct7),sl7⟩) (c7:PySem.W.codeIn K cd7 "_law_folded"=true) (k7:PySem.W.keepIn K (.ref f7)=true)
  (a8:PySem.W.nsIn K mainGlobals "_law_seed"=some (some (.ref f8))) (l8:K.lookup f8=some ⟨oc8,od8,.func (PySem.W.fnOf "_law_seed" "_law_seed" (aD bw) (ao bw) (aa bw) .none kV8 dc8 pm8 an8 cd8 ct8),sl8⟩) (c8:PySem.W.codeIn K cd8 "_law_seed"=true) (k8:PySem.W.keepIn K (.ref f8)=true)
  (a9:PySem.W.nsIn K mainGlobals "_law_draw"=some (some (.ref f9))) (l9:K.lookup f9=some ⟨oc9,od9,.func (PySem.W.fnOf "_law_draw" "_law_draw" (aD bt) (ao bt) (aa bt) .none kV9 dc9 pm9 an9 cd9 ct9),sl9⟩) (c9:PySem.W.codeIn K cd9 "_law_draw"=true) (k9:PySem.W.keepIn K (.ref f9)=true)
  (a10:PySem.W.nsIn K mainGlobals "_law_words"=some (some (.ref f10))) (l10:K.lookup f10=some ⟨oc10,od10,.func (PySem.W.fnOf "_law_words" "_law_words" (aD ba) (ao ba) (aa ba) .none kV10 dc10 pm10 an10 cd10 ct10),sl10⟩) (c10:PySem.W.codeIn K cd10 "_law_words"=true) (k10:PySem.W.keepIn K (.ref f10)=true)
  (a11:PySem.W.nsIn K mainGlobals "_law_number"=some (some (.ref f11))) (l11:K.lookup f11=some ⟨oc11,od11,.func (PySem.W.fnOf "_law_number" "_law_number" (aD aW) (ao aW) (aa aW) .none kV11 dc11 pm11 an11 cd11 ct11),sl11⟩) (c11:PySem.W.codeIn K cd11 "_law_number"=true) (k11:PySem.W.keepIn K (.ref f11)=true)
  (a12:PySem.W.nsIn K mainGlobals "_law_row"=some (some (.ref f12))) (l12:K.lookup f12=some ⟨oc12,od12,.func (PySem.W.fnOf "_law_row" "_law_row" (aD bF) (ao bF) (aa bF) .none kV12 dc12 pm12 an12 cd12 ct12),sl12⟩) (c12:PySem.W.codeIn K cd12 "_law_row"=true) (k12:PySem.W.keepIn K (.ref f12)=true)
  (a13:PySem.W.nsIn K mainGlobals "_law_program"=some (some (.ref f13))) (l13:K.lookup f13=some ⟨oc13,od13,.func (PySem.W.fnOf "_law_program" "_law_program" (aD aE) (ao aE) (aa aE) .none kV13 dc13 pm13 an13 cd13 ct13),sl13⟩) (c13:PySem.W.codeIn K cd13 "_law_program"=true) (k13:PySem.W.keepIn K (.ref f13)=true)
  (a14:PySem.W.nsIn K mainGlobals "_law_figures"=some (some (.ref f14))) (l14:K.lookup f14=some ⟨oc14,od14,.func (PySem.W.fnOf "_law_figures" "_law_figures" (aD aM) (ao aM) (aa aM) .none kV14 dc14 pm14 an14 cd14 ct14),sl14⟩) (c14:PySem.W.codeIn K cd14 "_law_figures"=true) (k14:PySem.W.keepIn K (.ref f14)=true)
  (a15:PySem.W.nsIn K mainGlobals "_law_counts"=some (some (.ref f15))) (l15:K.lookup f15=some ⟨oc15,od15,.func (PySem.W.fnOf "_law_counts" "_law_counts" (aD aL) (ao aL) (aa aL) .none kV15 dc15 pm15 an15 cd15 ct15),sl15⟩) (c15:PySem.W.codeIn K cd15 "_law_counts"=true) (k15:PySem.W.keepIn K (.ref f15)=true)
  (a16:PySem.W.nsIn K mainGlobals "_law_steep"=some (some (.ref f16))) (l16:K.lookup f16=some ⟨oc16,od16,.func (PySem.W.fnOf "_law_steep" "_law_steep" (aD bg) (ao bg) (aa bg) .none kV16 dc16 pm16 an16 cd16 ct16),sl16⟩) (c16:PySem.W.codeIn K cd16 "_law_steep"=true) (k16:PySem.W.keepIn K (.ref f16)=true)
  (a17:PySem.W.nsIn K mainGlobals "_law_counted"=some (some (.ref f17))) (l17:K.lookup f17=some ⟨oc17,od17,.func (PySem.W.fnOf "_law_counted" "_law_counted" (aD aQ) (ao aQ) (aa aQ) .none kV17 dc17 pm17 an17 cd17 ct17),sl17⟩) (c17:PySem.W.codeIn K cd17 "_law_counted"=true) (k17:PySem.W.keepIn K (.ref f17)=true)
  (a18:PySem.W.nsIn K mainGlobals "_law_least_sum"=some (some (.ref f18))) (l18:K.lookup f18=some ⟨oc18,od18,.func (PySem.W.fnOf "_law_least_sum" "_law_least_sum" (aD ax) (ao ax) (aa ax) .none kV18 dc18 pm18 an18 cd18 ct18),sl18⟩) (c18:PySem.W.codeIn K cd18 "_law_least_sum"=true) (k18:PySem.W.keepIn K (.ref f18)=true)
  (a19:PySem.W.nsIn K mainGlobals "_law_are_lengths"=some (some (.ref f19))) (l19:K.lookup f19=some ⟨oc19,od19,.func (PySem.W.fnOf "_law_are_lengths" "_law_are_lengths" (aD au) (ao au) (aa au) .none kV19 dc19 pm19 an19 cd19 ct19),sl19⟩) (c19:PySem.W.codeIn K cd19 "_law_are_lengths"=true) (k19:PySem.W.keepIn K (.ref f19)=true)
  (a20:PySem.W.nsIn K mainGlobals "law"=some (some (.ref f20))) (l20:K.lookup f20=some ⟨oc20,od20,.func (PySem.W.fnOf "law" "law" (aD dU) (ao dU) (aa dU) .none kV20 dc20 pm20 an20 cd20 ct20),sl20⟩) (c20:PySem.W.codeIn K cd20 "law"=true) (k20:PySem.W.keepIn K (.ref f20)=true)
  (z0:PySem.W.nsIn K mainGlobals "bool"=some none)
  (z1:PySem.W.nsIn K mainGlobals "enumerate"=some none)
  (z2:PySem.W.nsIn K mainGlobals "int"=some none)
  (z3:PySem.W.nsIn K mainGlobals "isinstance"=some none)
  (z4:PySem.W.nsIn K mainGlobals "len"=some none)
  (z5:PySem.W.nsIn K mainGlobals "list"=some none)
  (z6:PySem.W.nsIn K mainGlobals "max"=some none)
  (z7:PySem.W.nsIn K mainGlobals "min"=some none)
  (z8:PySem.W.nsIn K mainGlobals "range"=some none)
  (z9:PySem.W.nsIn K mainGlobals "sorted"=some none)
  (z10:PySem.W.nsIn K mainGlobals "str"=some none)
  (z11:PySem.W.nsIn K mainGlobals "sum"=some none)
  (z12:PySem.W.nsIn K mainGlobals "tuple"=some none)
  (z13:PySem.W.nsIn K mainGlobals "zip"=some none)
  (g0:PySem.W.nsIn K mainGlobals "BOXES"=some (some (.ref q0))) (m0:K.lookup q0=some ⟨.type "tuple",none,.seq #[.str "a" w0_0,.str "b" w0_1,.str "c" w0_2,.str "d" w0_3,.str "e" w0_4,.str "f" w0_5,.str "g" w0_6,.str "h" w0_7] qn0,qs0⟩)
  (g1:PySem.W.nsIn K mainGlobals "HOW_MANY"=some (some (.ref q1))) (m1:K.lookup q1=some ⟨.type "tuple",qd1,.seq #[.int 9 w1_0,.int 17 w1_1,.int 8 w1_2] qn1,qs1⟩)
  (g2:PySem.W.nsIn K mainGlobals "LONGEST"=some (some (.int 12 w2_0)))
  (g3:PySem.W.nsIn K mainGlobals "OF_BOXES"=some (some (.int 2 w3_0)))
  (g4:PySem.W.nsIn K mainGlobals "OF_CLASSES"=some (some (.int 1 w4_0)))
  (g5:PySem.W.nsIn K mainGlobals "OF_WORDS"=some (some (.int 0 w5_0)))
  (dg0:PySem.W.nsIn K mainGlobals "SHAPES"=some (some (.ref dd0))) (dz0:(dd0 == sysModules)=false) (dl0:K.lookup dd0=some ⟨.type "dict",none,.dict #[⟨dh0_0,.str "put" dt0_0,.ref dp0_0⟩,⟨dh0_1,.str "add" dt0_1,.ref dp0_1⟩,⟨dh0_2,.str "sub" dt0_2,.ref dp0_2⟩,⟨dh0_3,.str "copy" dt0_3,.ref dp0_3⟩,⟨dh0_4,.str "tell" dt0_4,.ref dp0_4⟩,⟨dh0_5,.str "hear" dt0_5,.ref dp0_5⟩,⟨dh0_6,.str "jump" dt0_6,.ref dp0_6⟩,⟨dh0_7,.str "zero" dt0_7,.ref dp0_7⟩,⟨dh0_8,.str "halt" dt0_8,.ref dp0_8⟩] dh0_ep,#[]⟩)
  (dm0_0:K.lookup dp0_0=some ⟨.type "tuple",do0_0,.seq #[.str "box" dw0_0_0,.str "number" dw0_0_1] dn0_0,ds0_0⟩)
  (dm0_1:K.lookup dp0_1=some ⟨.type "tuple",do0_1,.seq #[.str "box" dw0_1_0,.str "box" dw0_1_1] dn0_1,ds0_1⟩)
  (dm0_2:K.lookup dp0_2=some ⟨.type "tuple",do0_2,.seq #[.str "box" dw0_2_0,.str "box" dw0_2_1] dn0_2,ds0_2⟩)
  (dm0_3:K.lookup dp0_3=some ⟨.type "tuple",do0_3,.seq #[.str "box" dw0_3_0,.str "box" dw0_3_1] dn0_3,ds0_3⟩)
  (dm0_4:K.lookup dp0_4=some ⟨.type "tuple",do0_4,.seq #[.str "box" dw0_4_0] dn0_4,ds0_4⟩)
  (dm0_5:K.lookup dp0_5=some ⟨.type "tuple",do0_5,.seq #[.str "box" dw0_5_0] dn0_5,ds0_5⟩)
  (dm0_6:K.lookup dp0_6=some ⟨.type "tuple",do0_6,.seq #[.str "goal" dw0_6_0] dn0_6,ds0_6⟩)
  (dm0_7:K.lookup dp0_7=some ⟨.type "tuple",do0_7,.seq #[.str "box" dw0_7_0,.str "goal" dw0_7_1] dn0_7,ds0_7⟩)
  (dm0_8:K.lookup dp0_8=some ⟨.type "tuple",do0_8,.seq #[] dn0_8,ds0_8⟩)
  (xf0:PySem.W.nsIn K mainGlobals "NoCode"=some (some (.ref xd_NoCode)))
  (xf1:PySem.W.excIn K xd_NoCode [.type "ValueError",.type "Exception",.type "BaseException",.type "object"] "ValueError.__new__"=true)
  (le_by_worth:cd3=.ref lc_by_worth) (lk_by_worth:K.lookup lc_by_worth=some ⟨lO_by_worth,lD_by_worth,.fields lv_by_worth,lS_by_worth⟩) (lw_by_worth:lv_by_worth[11]?=some (.ref lp_by_worth))
  : ∃ fd:FuncData,(∀ (s:Shared) (v:Value),BindsTo s fd ⟨[v],[]⟩ [("script",v)])/\∀ base:Heap,K.In base->base.Ns mainGlobals mg->dg l.prog w K mg base bT 30 fa fd ["script"] (j5 K):=by
 have e:=hfa.symm.trans (PySem.W.mg_of X G a20);cases e;have T:Txt K mg:=⟨PySem.W.mg_none_of X G z0,PySem.W.mg_none_of X G z1,PySem.W.mg_none_of X G z2,PySem.W.mg_none_of X G z3,PySem.W.mg_none_of X G z4,PySem.W.mg_none_of X G z5,PySem.W.mg_none_of X G z6,PySem.W.mg_none_of X G z7,PySem.W.mg_none_of X G z8,PySem.W.mg_none_of X G z9,PySem.W.mg_none_of X G z10,PySem.W.mg_none_of X G z11,PySem.W.mg_none_of X G z12,PySem.W.mg_none_of X G z13,⟨.ref q0,_,PySem.W.mg_of X G g0,rfl,fun H B=>.d9 (vs:=[.str "a",.str "b",.str "c",.str "d",.str "e",.str "f",.str "g",.str "h"]) ⟨_,_,_,m0,rfl,rfl,(by show 8<=sizeLine;decide),(.cons ⟨w0_0,rfl⟩ (.cons ⟨w0_1,rfl⟩ (.cons ⟨w0_2,rfl⟩ (.cons ⟨w0_3,rfl⟩ (.cons ⟨w0_4,rfl⟩ (.cons ⟨w0_5,rfl⟩ (.cons ⟨w0_6,rfl⟩ (.cons ⟨w0_7,rfl⟩ .nil))))))))⟩ (.cons (.str _) (.cons (.str _) (.cons (.str _) (.cons (.str _) (.cons (.str _) (.cons (.str _) (.cons (.str _) (.cons (.str _) .nil))))))))⟩,⟨.ref q1,_,PySem.W.mg_of X G g1,rfl,fun H B=>.d9 (vs:=[.int 9,.int 17,.int 8]) ⟨_,_,_,m1,rfl,rfl,(by show 3<=sizeLine;decide),(.cons ⟨w1_0,rfl⟩ (.cons ⟨w1_1,rfl⟩ (.cons ⟨w1_2,rfl⟩ .nil)))⟩ (.cons (.int _) (.cons (.int _) (.cons (.int _) .nil)))⟩,⟨.int 12,_,PySem.W.mg_of X G g2,⟨_,rfl⟩,fun H B=>.int _⟩,⟨.int 2,_,PySem.W.mg_of X G g3,⟨_,rfl⟩,fun H B=>.int _⟩,⟨.int 1,_,PySem.W.mg_of X G g4,⟨_,rfl⟩,fun H B=>.int _⟩,⟨.int 0,_,PySem.W.mg_of X G g5,⟨_,rfl⟩,fun H B=>.int _⟩,⟨q0,_,PySem.W.mg_of X G g0,m0,rfl⟩,⟨dd0,PySem.W.mg_of X G dg0,dz0,_,_,_,dl0,⟨rfl,rfl,rfl⟩,rfl,(.cons rfl ⟨dp0_0,rfl,⟨_,_,_,dm0_0,rfl,rfl,(by show 2<=sizeLine;decide),(.cons ⟨dw0_0_0,rfl⟩ (.cons ⟨dw0_0_1,rfl⟩ .nil))⟩⟩ (.cons rfl ⟨dp0_1,rfl,⟨_,_,_,dm0_1,rfl,rfl,(by show 2<=sizeLine;decide),(.cons ⟨dw0_1_0,rfl⟩ (.cons ⟨dw0_1_1,rfl⟩ .nil))⟩⟩ (.cons rfl ⟨dp0_2,rfl,⟨_,_,_,dm0_2,rfl,rfl,(by show 2<=sizeLine;decide),(.cons ⟨dw0_2_0,rfl⟩ (.cons ⟨dw0_2_1,rfl⟩ .nil))⟩⟩ (.cons rfl ⟨dp0_3,rfl,⟨_,_,_,dm0_3,rfl,rfl,(by show 2<=sizeLine;decide),(.cons ⟨dw0_3_0,rfl⟩ (.cons ⟨dw0_3_1,rfl⟩ .nil))⟩⟩ (.cons rfl ⟨dp0_4,rfl,⟨_,_,_,dm0_4,rfl,rfl,(by show 1<=sizeLine;decide),(.cons ⟨dw0_4_0,rfl⟩ .nil)⟩⟩ (.cons rfl ⟨dp0_5,rfl,⟨_,_,_,dm0_5,rfl,rfl,(by show 1<=sizeLine;decide),(.cons ⟨dw0_5_0,rfl⟩ .nil)⟩⟩ (.cons rfl ⟨dp0_6,rfl,⟨_,_,_,dm0_6,rfl,rfl,(by show 1<=sizeLine;decide),(.cons ⟨dw0_6_0,rfl⟩ .nil)⟩⟩ (.cons rfl ⟨dp0_7,rfl,⟨_,_,_,dm0_7,rfl,rfl,(by show 2<=sizeLine;decide),(.cons ⟨dw0_7_0,rfl⟩ (.cons ⟨dw0_7_1,rfl⟩ .nil))⟩⟩ (.cons rfl ⟨dp0_8,rfl,⟨_,_,_,dm0_8,rfl,rfl,(by show 0<=sizeLine;decide),.nil⟩⟩ .nil)))))))))⟩,⟨_,PySem.W.mg_of X G xf0,⟨xf1⟩⟩,pK.mk' X G (lR a3 l3 le_by_worth lk_by_worth lw_by_worth)⟩
 have F0:HasFn K mg "can_be" cc ["lengths"]:=⟨f0,_,ar (st:=cc) l0 c0 k0,(ar (st:=cc) l0 c0 k0).binds (ps:=["lengths"]) (fun _ _ _ _ _ _ us hl=>by obtain⟨_,rfl⟩:=Y.fQ hl;rfl),PySem.W.mg_of X G a0⟩
 have F1:HasFn K mg "least_lengths" aw ["counts","bound"]:=⟨f1,_,ar (st:=aw) l1 c1 k1,(ar (st:=aw) l1 c1 k1).binds (ps:=["counts","bound"]) (fun _ _ _ _ _ _ us hl=>by obtain⟨_,_,rfl⟩:=Y.iQ hl;rfl),PySem.W.mg_of X G a1⟩
 have F2:HasFn K mg "chosen_things" az ["counts","bound"]:=⟨f2,_,ar (st:=az) l2 c2 k2,(ar (st:=az) l2 c2 k2).binds (ps:=["counts","bound"]) (fun _ _ _ _ _ _ us hl=>by obtain⟨_,_,rfl⟩:=Y.iQ hl;rfl),PySem.W.mg_of X G a2⟩
 have F3:HasFn K mg "by_worth" bE ["shelf"]:=⟨f3,_,ar (st:=bE) l3 c3 k3,(ar (st:=bE) l3 c3 k3).binds (ps:=["shelf"]) (fun _ _ _ _ _ _ us hl=>by obtain⟨_,rfl⟩:=Y.fQ hl;rfl),PySem.W.mg_of X G a3⟩
 have F4:HasFn K mg "packs_of" b6 ["shelf"]:=⟨f4,_,ar (st:=b6) l4 c4 k4,(ar (st:=b6) l4 c4 k4).binds (ps:=["shelf"]) (fun _ _ _ _ _ _ us hl=>by obtain⟨_,rfl⟩:=Y.fQ hl;rfl),PySem.W.mg_of X G a4⟩
 have F5:HasFn K mg "book_of" bB ["program","counts"]:=⟨f5,_,ar (st:=bB) l5 c5 k5,(ar (st:=bB) l5 c5 k5).binds (ps:=["program","counts"]) (fun _ _ _ _ _ _ us hl=>by obtain⟨_,_,rfl⟩:=Y.iQ hl;rfl),PySem.W.mg_of X G a5⟩
 have F6:HasFn K mg "coded_things" aO ["row"]:=⟨f6,_,ar (st:=aO) l6 c6 k6,(ar (st:=aO) l6 c6 k6).binds (ps:=["row"]) (fun _ _ _ _ _ _ us hl=>by obtain⟨_,rfl⟩:=Y.fQ hl;rfl),PySem.W.mg_of X G a6⟩
 have F7:HasFn K mg "_law_folded" aX ["script"]:=⟨f7,_,ar (st:=aX) l7 c7 k7,(ar (st:=aX) l7 c7 k7).binds (ps:=["script"]) (fun _ _ _ _ _ _ us hl=>by obtain⟨_,rfl⟩:=Y.fQ hl;rfl),PySem.W.mg_of X G a7⟩
 have F8:HasFn K mg "_law_seed" bw ["cell"]:=⟨f8,_,ar (st:=bw) l8 c8 k8,(ar (st:=bw) l8 c8 k8).binds (ps:=["cell"]) (fun _ _ _ _ _ _ us hl=>by obtain⟨_,rfl⟩:=Y.fQ hl;rfl),PySem.W.mg_of X G a8⟩
 have F9:HasFn K mg "_law_draw" bt ["seed","most"]:=⟨f9,_,ar (st:=bt) l9 c9 k9,(ar (st:=bt) l9 c9 k9).binds (ps:=["seed","most"]) (fun _ _ _ _ _ _ us hl=>by obtain⟨_,_,rfl⟩:=Y.iQ hl;rfl),PySem.W.mg_of X G a9⟩
 have F10:HasFn K mg "_law_words" ba []:=⟨f10,_,ar (st:=ba) l10 c10 k10,(ar (st:=ba) l10 c10 k10).binds (ps:=[]) (fun _ _ _ _ _ _ us hl=>by match us,hl with | [],_=>rfl),PySem.W.mg_of X G a10⟩
 have F11:HasFn K mg "_law_number" aW ["seed"]:=⟨f11,_,ar (st:=aW) l11 c11 k11,(ar (st:=aW) l11 c11 k11).binds (ps:=["seed"]) (fun _ _ _ _ _ _ us hl=>by obtain⟨_,rfl⟩:=Y.fQ hl;rfl),PySem.W.mg_of X G a11⟩
 have F12:HasFn K mg "_law_row" bF ["seed","many","words"]:=⟨f12,_,ar (st:=bF) l12 c12 k12,(ar (st:=bF) l12 c12 k12).binds (ps:=["seed","many","words"]) (fun _ _ _ _ _ _ us hl=>by obtain⟨_,_,_,rfl⟩:=Y.DR hl;rfl),PySem.W.mg_of X G a12⟩
 have F13:HasFn K mg "_law_program" aE ["seed","most","words"]:=⟨f13,_,ar (st:=aE) l13 c13 k13,(ar (st:=aE) l13 c13 k13).binds (ps:=["seed","most","words"]) (fun _ _ _ _ _ _ us hl=>by obtain⟨_,_,_,rfl⟩:=Y.DR hl;rfl),PySem.W.mg_of X G a13⟩
 have F14:HasFn K mg "_law_figures" aM ["number"]:=⟨f14,_,ar (st:=aM) l14 c14 k14,(ar (st:=aM) l14 c14 k14).binds (ps:=["number"]) (fun _ _ _ _ _ _ us hl=>by obtain⟨_,rfl⟩:=Y.fQ hl;rfl),PySem.W.mg_of X G a14⟩
 have F15:HasFn K mg "_law_counts" aL ["seed","many"]:=⟨f15,_,ar (st:=aL) l15 c15 k15,(ar (st:=aL) l15 c15 k15).binds (ps:=["seed","many"]) (fun _ _ _ _ _ _ us hl=>by obtain⟨_,_,rfl⟩:=Y.iQ hl;rfl),PySem.W.mg_of X G a15⟩
 have F16:HasFn K mg "_law_steep" bg ["seed"]:=⟨f16,_,ar (st:=bg) l16 c16 k16,(ar (st:=bg) l16 c16 k16).binds (ps:=["seed"]) (fun _ _ _ _ _ _ us hl=>by obtain⟨_,rfl⟩:=Y.fQ hl;rfl),PySem.W.mg_of X G a16⟩
 have F17:HasFn K mg "_law_counted" aQ ["program","counts"]:=⟨f17,_,ar (st:=aQ) l17 c17 k17,(ar (st:=aQ) l17 c17 k17).binds (ps:=["program","counts"]) (fun _ _ _ _ _ _ us hl=>by obtain⟨_,_,rfl⟩:=Y.iQ hl;rfl),PySem.W.mg_of X G a17⟩
 have F18:HasFn K mg "_law_least_sum" ax ["counts"]:=⟨f18,_,ar (st:=ax) l18 c18 k18,(ar (st:=ax) l18 c18 k18).binds (ps:=["counts"]) (fun _ _ _ _ _ _ us hl=>by obtain⟨_,rfl⟩:=Y.fQ hl;rfl),PySem.W.mg_of X G a18⟩
 have F19:HasFn K mg "_law_are_lengths" au ["found","many"]:=⟨f19,_,ar (st:=au) l19 c19 k19,(ar (st:=au) l19 c19 k19).binds (ps:=["found","many"]) (fun _ _ _ _ _ _ us hl=>by obtain⟨_,_,rfl⟩:=Y.iQ hl;rfl),PySem.W.mg_of X G a19⟩
 exact⟨PySem.W.fnOf "law" "law" (aD dU) (ao dU) (aa dU) .none kV20 dc20 pm20 an20 cd20 ct20,fun s v=>.of_eq rfl,fun base _ _=>(Bd T F0 F1 F2 F3 F4 F5 F6 F7 F8 F9 F10 F11 F12 F13 F14 F15 F16 F17 F18 F19 (ar (st:=dU) l20 c20 k20)).mono (by decide)⟩
theorem walk{l:PySem.W.OpenLaw}{q:Program}{loose:List Str}{XP:(Str->Option Value)->Heap->Prop}{YP:World->Heap->Prop}{d:DefRec}{K:Params->PySem.W.Frag}(hn:l.most=some 63)(hdf:d.params.defaults=[])
  (hY:∀ (w:World) (h:Heap),YP w h->(K w.params).In h)
  (F:∀ (w:World) (mg:Str->Option Value) (fa:Addr) (h:Heap),(K w.params).In h->h.Ns mainGlobals mg->mg d.name=some (.ref fa)->∃ fd:FuncData,(∀ (s:Shared) (u:Value),BindsTo s fd ⟨[u],[]⟩ [("script",u)])/\∀ base:Heap,(K w.params).In base->base.Ns mainGlobals mg->dg l.prog w (K w.params) mg base bT 30 fa fd ["script"] (j5 (K w.params))) (hL:∀ (w:World) (h:Heap),(K w.params).In h->fe q (K w.params)) :
  PySem.W.WalkO q loose XP YP l.row.toRowW d [] (fun f vs=>PySem.call f vs):=
 L2.yy (n:=63) (k:=30) (x:="script") (CX:=fun _=>bT) (sp:=fun w=>j5 (K w.params)) hn (by decide) hdf ⟨rfl,by decide,by decide,rfl⟩ hY F (fun _ _ a ns hl _ hS=>⟨a,ns,rfl,hS,hl,fun _=>rfl⟩) (fun _ _ _ _ _ z=>z) hL
theorem BK{q:Program}{K:PySem.W.Frag}{h:Heap}(_:K.In h){la_by_worth lc_by_worth lp_by_worth:Addr}{lo_by_worth lO_by_worth:Value}{ld_by_worth lD_by_worth:Option Addr}{lfd_by_worth:FuncData}{lv_by_worth:Array Value}{ls_by_worth lS_by_worth:Array (Option Value)}(nt:PySem.W.noTabs K=true)
  (ma_by_worth:PySem.W.nsIn K mainGlobals "by_worth"=some (some (.ref la_by_worth))) (ml_by_worth:K.lookup la_by_worth=some ⟨lo_by_worth,ld_by_worth,.func lfd_by_worth,ls_by_worth⟩) (mc_by_worth:lfd_by_worth.code=.ref lc_by_worth) (mk_by_worth:K.lookup lc_by_worth=some ⟨lO_by_worth,lD_by_worth,.fields lv_by_worth,lS_by_worth⟩) (mw_by_worth:lv_by_worth[11]?=some (.ref lp_by_worth)) (mr_by_worth:((recsOf q).find? (fun e=>e.name ==("by_worth":Str))).isSome=true)
  (ma_by_weight:PySem.W.nsIn K mainGlobals "by_weight"=some none)
  (ma_code_of:PySem.W.nsIn K mainGlobals "code_of"=some none)
  : fe q K:=fe.of nt (lR ma_by_worth ml_by_worth mc_by_worth mk_by_worth mw_by_worth) (ij ma_by_weight) (ij ma_code_of) (by first | exact mn | simp) (.inr mr_by_worth) (.inl rfl) (.inl rfl)
end
end G
open PySem PySem.W PyProof.Rows
set_option maxRecDepth 100000 in
set_option maxHeartbeats 0 in
theorem PySem.Challenge.cw_shortrows_k26_book_of_holds : PySem.Challenge.rw_shortrows_k26_book_of.Holds := by
 w_on;o_law;k_head;(case hw=>w_witness2)
 k_fill
 refine G.walk (l:=PySem.Challenge.rw_shortrows_k26_book_of) rfl rfl (fun w h Y=>by first | exact PySem.W.kIn_of Y | exact PySem.W.km_in_of Y) ?F ?L
 case F =>
  intro w mg fa h KX GN hmg
  refine' G.all_mk KX GN hmg ?a0 ?l0 ?c0 ?k0 ?a1 ?l1 ?c1 ?k1 ?a2 ?l2 ?c2 ?k2 ?a3 ?l3 ?c3 ?k3 ?a4 ?l4 ?c4 ?k4 ?a5 ?l5 ?c5 ?k5 ?a6 ?l6 ?c6 ?k6 ?a7 ?l7 ?c7 ?k7 ?a8 ?l8 ?c8 ?k8 ?a9 ?l9 ?c9 ?k9 ?a10 ?l10 ?c10 ?k10 ?a11 ?l11 ?c11 ?k11 ?a12 ?l12 ?c12 ?k12 ?a13 ?l13 ?c13 ?k13 ?a14 ?l14 ?c14 ?k14 ?a15 ?l15 ?c15 ?k15 ?a16 ?l16 ?c16 ?k16 ?a17 ?l17 ?c17 ?k17 ?a18 ?l18 ?c18 ?k18 ?a19 ?l19 ?c19 ?k19 ?a20 ?l20 ?c20 ?k20 ?z0 ?z1 ?z2 ?z3 ?z4 ?z5 ?z6 ?z7 ?z8 ?z9 ?z10 ?z11 ?z12 ?z13 ?gq0 ?mq0 ?gq1 ?mq1 ?gq2 ?gq3 ?gq4 ?gq5 ?dg0 ?dz0 ?dl0 ?dm0_0 ?dm0_1 ?dm0_2 ?dm0_3 ?dm0_4 ?dm0_5 ?dm0_6 ?dm0_7 ?dm0_8 ?xf0 ?xf1 ?le_by_worth ?lk_by_worth ?lw_by_worth
  (case a0=>k_is)
  (case l0=>k_is)
  (case c0=>k_is)
  (case k0=>k_is)
  (case a1=>k_is)
  (case l1=>k_is)
  (case c1=>k_is)
  (case k1=>k_is)
  (case a2=>k_is)
  (case l2=>k_is)
  (case c2=>k_is)
  (case k2=>k_is)
  (case a3=>k_is)
  (case l3=>k_is)
  (case c3=>k_is)
  (case k3=>k_is)
  (case a4=>k_is)
  (case l4=>k_is)
  (case c4=>k_is)
  (case k4=>k_is)
  (case a5=>k_is)
  (case l5=>k_is)
  (case c5=>k_is)
  (case k5=>k_is)
  (case a6=>k_is)
  (case l6=>k_is)
  (case c6=>k_is)
  (case k6=>k_is)
  (case a7=>k_is)
  (case l7=>k_is)
  (case c7=>k_is)
  (case k7=>k_is)
  (case a8=>k_is)
  (case l8=>k_is)
  (case c8=>k_is)
  (case k8=>k_is)
  (case a9=>k_is)
  (case l9=>k_is)
  (case c9=>k_is)
  (case k9=>k_is)
  (case a10=>k_is)
  (case l10=>k_is)
  (case c10=>k_is)
  (case k10=>k_is)
  (case a11=>k_is)
  (case l11=>k_is)
  (case c11=>k_is)
  (case k11=>k_is)
  (case a12=>k_is)
  (case l12=>k_is)
  (case c12=>k_is)
  (case k12=>k_is)
  (case a13=>k_is)
  (case l13=>k_is)
  (case c13=>k_is)
  (case k13=>k_is)
  (case a14=>k_is)
  (case l14=>k_is)
  (case c14=>k_is)
  (case k14=>k_is)
  (case a15=>k_is)
  (case l15=>k_is)
  (case c15=>k_is)
  (case k15=>k_is)
  (case a16=>k_is)
  (case l16=>k_is)
  (case c16=>k_is)
  (case k16=>k_is)
  (case a17=>k_is)
  (case l17=>k_is)
  (case c17=>k_is)
  (case k17=>k_is)
  (case a18=>k_is)
  (case l18=>k_is)
  (case c18=>k_is)
  (case k18=>k_is)
  (case a19=>k_is)
  (case l19=>k_is)
  (case c19=>k_is)
  (case k19=>k_is)
  (case a20=>k_is)
  (case l20=>k_is)
  (case c20=>k_is)
  (case k20=>k_is)
  (case z0=>k_is)
  (case z1=>k_is)
  (case z2=>k_is)
  (case z3=>k_is)
  (case z4=>k_is)
  (case z5=>k_is)
  (case z6=>k_is)
  (case z7=>k_is)
  (case z8=>k_is)
  (case z9=>k_is)
  (case z10=>k_is)
  (case z11=>k_is)
  (case z12=>k_is)
  (case z13=>k_is)
  (case gq0=>k_is)
  (case mq0=>k_is)
  (case gq1=>k_is)
  (case mq1=>k_is)
  (case gq2=>k_is)
  (case gq3=>k_is)
  (case gq4=>k_is)
  (case gq5=>k_is)
  (case dg0=>k_is)
  (case dl0=>k_is)
  (case dm0_0=>k_is)
  (case dm0_1=>k_is)
  (case dm0_2=>k_is)
  (case dm0_3=>k_is)
  (case dm0_4=>k_is)
  (case dm0_5=>k_is)
  (case dm0_6=>k_is)
  (case dm0_7=>k_is)
  (case dm0_8=>k_is)
  (case dz0=>rfl)
  (case xf0=>k_is)
  (case xf1=>k_exc)
  (case le_by_worth=>exact rfl)
  (case lk_by_worth=>k_is)
  (case lw_by_worth=>exact rfl)
 case L =>
  intro w h KX
  refine' G.BK KX (by kernel_rfl) ?ma_by_worth ?ml_by_worth ?mc_by_worth ?mk_by_worth ?mw_by_worth ?mr_by_worth ?ma_by_weight ?ma_code_of
  (case ma_by_worth=>k_is)
  (case ml_by_worth=>k_is)
  (case mc_by_worth=>exact rfl)
  (case mk_by_worth=>k_is)
  (case mw_by_worth=>exact rfl)
  (case mr_by_worth=>exact rfl)
  (case ma_by_weight=>k_is)
  (case ma_code_of=>k_is)
end
