import PyProof.Rows.All
import Wide.All
import OpenK.AllK
import Wide.FinOn
import Lean
import PyProof.EqAt
import PyProof.EqKinds
import PyProof.TupleCall
import KE.KSortKey
import KE.KLam
import PySem.Challenge.RW_shortrows_k15_whole_none_less
def PySem.W.Fast.tw1616488766787705760:=0
def PySem.W.Fast.tw10769584665729000062:=0
def PySem.W.Fast.tw8577483158556818238:=0
def PySem.W.Fast.tw11364590956913796455:=0
def PySem.W.Fast.tw15824580462816231457:=0
def PySem.W.Fast.tw12133305673732158611:=0
def PySem.W.Fast.tw3303153434490783362:=0
def PySem.W.Fast.tw8789437534765359169:=0
def PySem.W.Fast.tw6243184929880265849:=0
def PySem.W.Fast.tw5746205818958890314:=0
def PySem.W.Fast.tw428832893846741050:=0
def PySem.W.Fast.tw16880152234446049273:=0
def PySem.W.Fast.tw2302948881438960974:=0
def PySem.W.Fast.tw13027293803528421817:=0
def PySem.W.Fast.tw613699208063134478:=0
def PySem.W.Fast.tw17172980614830833142:=0
def PySem.W.Fast.tw15328192467359812055:=0
def PySem.W.Fast.tw13070183985797443338:=0
def PySem.W.Fast.tw1318267746202269988:=0
def PySem.W.Fast.tw8441604247154421690:=0
def PySem.W.Fast.tw7743341733012940427:=0
def PySem.W.Fast.tw14834436720327532988:=0
def PySem.W.Fast.tw4821393230229722979:=0
def PySem.W.Fast.tw8026683149779137194:=0
def PySem.W.Fast.tw18277300195871119449:=0
def PySem.W.Fast.tw3313222026628487148:=0
def PySem.W.Fast.tw17195948182215084088:=0
def PySem.W.Fast.tw6384452888484049248:=0
def PySem.W.Fast.tw2277687613046775194:=0
def PySem.W.Fast.tw8875519405478076997:=0
def PySem.W.Fast.tw11397007388548738136:=0
def PySem.W.Fast.tw1358377859664303023:=0
def PySem.W.Fast.tw8312000178852970145:=0
def PySem.W.Fast.tw18248292109519646353:=0
def PySem.W.Fast.tw800309082910215863:=0
def PySem.W.Fast.tw17875380373372256127:=0
def PySem.W.Fast.tw8173830486410753874:=0
def PySem.W.Fast.tw17218308874669987202:=0
def PySem.W.Fast.tw14657183044773063537:=0
def PySem.W.Fast.tw8647017614278072834:=0
def PySem.W.Fast.tw9963865269508810861:=0
def PySem.W.Fast.tw13490331429319061110:=0
def PySem.W.Fast.tw809981590299925552:=0
def PySem.W.Fast.tw3743159139858789752:=0
def PySem.W.Fast.tw5134555314663284666:=0
def PySem.W.Fast.tw13545650357684942156:=0
def PySem.W.Fast.tw15025576998103321779:=0
def PySem.W.Fast.tw2035246177817767915:=0
def PySem.W.Fast.tw15350049676641556081:=0
def PySem.W.Fast.tw12722389635774782396:=0
def PySem.W.Fast.tw8068925788158986799:=0
def PySem.W.Fast.tw15609788948886605598:=0
def PySem.W.Fast.tw11418764042120517210:=0
def PySem.W.Fast.tw1193132243279153004:=0
def PySem.W.Fast.tw17539564946197222391:=0
def PySem.W.Fast.tw16872503379745039212:=0
def PySem.W.Fast.tw10716166152669986364:=0
def PySem.W.Fast.tw11021015285772642260:=0
def PySem.W.Fast.tw7495644544321178484:=0
def PySem.W.Fast.tw10412875890941355489:=0
def PySem.W.Fast.tw2802849958715958950:=0
def PySem.W.Fast.tw15903986608974265607:=0
def PySem.W.Fast.tw5640384117899729288:=0
def PySem.W.Fast.tw9575718838176322887:=0
def PySem.W.Fast.tw12122272690013020323:=0
def PySem.W.Fast.tw13310208773113236967:=0
def PySem.W.Fast.tw17354477685769366659:=0
def PySem.W.Fast.tw13243691688412970982:=0
def PySem.W.Fast.tw11962413679698206870:=0
def PySem.W.Fast.tw11619406962810487115:=0
def PySem.W.Fast.tw2683668895132867028:=0
def PySem.W.Fast.tw2377218370691770987:=0
def PySem.W.Fast.tw9214106361704276537:=0
def PySem.W.Fast.tw14891795915722680380:=0
def PySem.W.Fast.tw12689390321841576783:=0
def PySem.W.Fast.tw10480667637579930671:=0
def PySem.W.Fast.tw5535947972034768800:=0
def PySem.W.Fast.tw6818250720341054460:=0
def PySem.W.Fast.tw15090549219232807355:=0
def PySem.W.Fast.tw17600650277732669313:=0
def PySem.W.Fast.tw11049890961269712571:=0
def PySem.W.Fast.tw6250754034187709782:=0
def PySem.W.Fast.tw10723139160988653530:=0
def PySem.W.Fast.tw13409342979467602131:=0
def PySem.W.Fast.tw5991734319345436136:=0
def PySem.W.Fast.tw4366073204664181334:=0
def PySem.W.Fast.tw7950118406921016213:=0
def PySem.W.Fast.tw17997752286061214651:=0
def PySem.W.Fast.tw2237824290794480757:=0
def PySem.W.Fast.tw16747034828080978357:=0
def PySem.W.Fast.tw17364455747855963327:=0
def PySem.W.Fast.tw2944823644045091397:=0
def PySem.W.Fast.tw4611600427427589860:=0
def PySem.W.Fast.tw16087381358238276544:=0
def PySem.W.Fast.tw559078079258117727:=0
def PySem.W.Fast.tw17385075021471158039:=0
def PySem.W.Fast.tw10414466800742909768:=0
def PySem.W.Fast.tw14989272305598415063:=0
def PySem.W.Fast.tw13890880878440774578:=0
def PySem.W.Fast.tw10550514528832927302:=0
def PySem.W.Fast.tw16633446501397690123:=0
def PySem.W.Fast.tw2563457544422714321:=0
def PySem.W.Fast.tw2091468678321485365:=0
def PySem.W.Fast.tw7655957630187344549:=0
def PySem.W.Fast.tw9063627251111155082:=0
def PySem.W.Fast.tw6986368433220312426:=0
def PySem.W.Fast.tw12642276924114446544:=0
def PySem.W.Fast.tw4880613289901351666:=0
def PySem.W.Fast.tw6135471752423410300:=0
def PySem.W.Fast.tw4046457005698841004:=0
def PySem.W.Fast.tw9735822382022028051:=0
def PySem.W.Fast.tw16274381523132308802:=0
def PySem.W.Fast.tw12329647613060612377:=0
def PySem.W.Fast.tw13663807104805956522:=0
def PySem.W.Fast.tw6998567404951612679:=0
def PySem.W.Fast.tw15871355371195422301:=0
def PySem.W.Fast.tw12075761321803369186:=0
def PySem.W.Fast.tw15617168862186241547:=0
def PySem.W.Fast.tw4727899275439137131:=0
def PySem.W.Fast.tw17916095542200603299:=0
def PySem.W.Fast.tw3597448582550146156:=0
def PySem.W.Fast.tw9790409923616561591:=0
def PySem.W.Fast.tw14572770112815484085:=0
def PySem.W.Fast.tw4668286639866515165:=0
def PySem.W.Fast.tw10010246572430917427:=0
def PySem.W.Fast.tw10068486983067537537:=0
def PySem.W.Fast.tw9208388027634468815:=0
def PySem.W.Fast.tw10291657197109767101:=0
def PySem.W.Fast.tw15627162115369861745:=0
def PySem.W.Fast.tw9780348359297892615:=0
def PySem.W.Fast.tw8126486095740212812:=0
def PySem.W.Fast.tw2774385645898038023:=0
def PySem.W.Fast.tw17102447381975346486:=0
def PySem.W.Fast.tw153859349413103199:=0
def PySem.W.Fast.tw7576942594470733654:=0
def PySem.W.Fast.tw8780966614264761640:=0
def PySem.W.Fast.tw9579368235384219897:=0
def PySem.W.Fast.tw272155098796598182:=0
def PySem.W.Fast.tw1851794637459790592:=0
def PySem.W.Fast.tw15850817203535444708:=0
def PySem.W.Fast.tw4240117526597461629:=0
def PySem.W.Fast.tw16573275852047330343:=0
def PySem.W.Fast.tw8869862958642977742:=0
def PySem.W.Fast.tw13943175173594532852:=0
def PySem.W.Fast.tw7364757478067265266:=0
def PySem.W.Fast.tw10291666669887024828:=0
def PySem.W.Fast.tw10064226614589114980:=0
def PySem.W.Fast.tw3562547175331445970:=0
def PySem.W.Fast.tw16609843126241880877:=0
def PySem.W.Fast.tw3274615835142924705:=0
def PySem.W.Fast.tw15719877455620717746:=0
def PySem.W.Fast.tw10026010986852704780:=0
def PySem.W.Fast.tw1555209621000983984:=0
def PySem.W.Fast.tw15013783719906648119:=0
def PySem.W.Fast.tw10736129303125033212:=0
def PySem.W.Fast.tw8165924099525128898:=0
def PySem.W.Fast.tw17297830575525988301:=0
def PySem.W.Fast.tw29731067178190847:=0
def PySem.W.Fast.tw6053234074131311529:=0
def PySem.W.Fast.tw15265128969784010681:=0
def PySem.W.Fast.tw13162017826593997156:=0
def PySem.W.Fast.tw16584973372150334298:=0
def PySem.W.Fast.tw8690728827801714810:=0
def PySem.W.Fast.tw18078652256720533739:=0
def PySem.W.Fast.tw9195091127438415461:=0
def PySem.W.Fast.tw5728325542175525332:=0
def PySem.W.Fast.tw10531051230354515066:=0
def PySem.W.Fast.tw4147293318348557255:=0
def PySem.W.Fast.tw6239519037316525633:=0
def PySem.W.Fast.tw17684004844781541215:=0
def PySem.W.Fast.tw16517232851869101834:=0
def PySem.W.Fast.tw2772044492632816845:=0
set_option Elab.async false
set_option linter.all false
set_option maxRecDepth 100000
set_option maxHeartbeats 4000000
noncomputable section
namespace L2
open PySem PySem.Spec PyProof.Rows
noncomputable abbrev Key:=Sum Int Str
def jw:Key->Value->Bool
 | .inl k,v=>Value.isInt k v
 | .inr x,v=>Value.isStrOf x v
def FV(w:World):Key->Int
 | .inl k=>hashInt k
 | .inr x=>hashStr w x
theorem aX:∀ {k:Key} {v:Value},jw k v=true->(∃ i t,k=Sum.inl i/\v=Value.int i t)\/(∃ x t,k=Sum.inr x/\v=Value.str x t)
 | .inl i,v,h=>by
  obtain⟨t,e⟩:=Value.isInt_shape (k:=i) (v:=v) h;exact .inl ⟨i,t,rfl,e⟩
 | .inr x,v,h=>by
  obtain⟨t,e⟩:=Value.isStrOf_shape (x:=x) (v:=v) h;exact .inr ⟨x,t,rfl,e⟩
theorem rV(i:Int)(t:Tok):jw (.inl i) (.int i t)=true:=by simp[jw,Value.isInt]
theorem rM(x:Str)(t:Tok):jw (.inr x) (.str x t)=true:=by simp[jw,Value.isStrOf]
theorem Bd(a b:Int):decide ((Sum.inl a:Key)=Sum.inl b)=(a == b):=by
 by_cases e:a=b
 ·subst e;simp
 ·have h:¬ (Sum.inl a:Key)=Sum.inl b:=fun q=>e (Sum.inl.inj q);rw[decide_eq_false h];exact (beq_eq_false_iff_ne.mpr e).symm
theorem B6(a b:Str):decide ((Sum.inr a:Key)=Sum.inr b)=decide (a=b):=by
 by_cases e:a=b
 ·subst e;simp
 ·have h:¬ (Sum.inr a:Key)=Sum.inr b:=fun q=>e (Sum.inr.inj q);rw[decide_eq_false h,decide_eq_false e]
theorem BD(a:Int)(b:Str):decide ((Sum.inl a:Key)=Sum.inr b)=false:=decide_eq_false (fun q=>nomatch q)
theorem Am(a:Str)(b:Int):decide ((Sum.inr a:Key)=Sum.inl b)=false:=decide_eq_false (fun q=>nomatch q)
def aZ(prog:Program)(w:World):PySem.KeyKind prog w Key where
 is:=jw
 hash:=FV w
 inj:=fun v a b ha hb=>by
  rcases aX ha with ⟨i,t,rfl,rfl⟩ | ⟨x,t,rfl,rfl⟩
  ·rcases aX hb with ⟨j,u,rfl,e⟩ | ⟨y,u,rfl,e⟩
   ·injection e with e1 _;rw[e1]
   ·exact nomatch e
  ·rcases aX hb with ⟨j,u,rfl,e⟩ | ⟨y,u,rfl,e⟩
   ·exact nomatch e
   ·injection e with e1 _;rw[e1]
 byValue:=fun k v h=>by
  rcases aX h with ⟨i,t,rfl,rfl⟩ | ⟨x,t,rfl,rfl⟩<;>rfl
 pyHash:=fun hv h=>by
  rcases aX hv with ⟨i,t,rfl,rfl⟩ | ⟨x,t,rfl,rfl⟩
  ·exact wpAny_pyHash_int h
  ·exact wpAny_pyHash_str h
 eqBool:=fun hu hv h=>by
  rcases aX hu with ⟨i,t,rfl,rfl⟩ | ⟨x,t,rfl,rfl⟩
  ·rcases aX hv with ⟨j,u,rfl,rfl⟩ | ⟨y,u,rfl,rfl⟩
   ·rw[Bd] at h;exact wpAny_eqBool_int h
   ·rw[BD] at h;exact SeqAt.EqAt.int_str i t y u _ _ _ _ h
  ·rcases aX hv with ⟨j,u,rfl,rfl⟩ | ⟨y,u,rfl,rfl⟩
   ·rw[Am] at h;exact SeqAt.EqAt.str_int x t j u _ _ _ _ h
   ·rw[B6] at h;exact wpAny_eqBool_str h
 «strs»:=fun k x t v h=>by
  rcases aX h with ⟨i,u,rfl,e⟩ | ⟨y,u,rfl,e⟩
  ·exact nomatch e
  ·injection e with e1 _
   subst e1
   cases v<;>rfl
theorem gr(prog:Program)(w:World)(i:Int)(t:Tok):(aZ prog w).is (.inl i) (.int i t)=true:=rV i t
theorem lT(prog:Program)(w:World)(x:Str)(t:Tok):(aZ prog w).is (.inr x) (.str x t)=true:=rM x t
inductive V where
 | aI | bl (b:Bool) | int (i:Int) | str (x:Str) | nV (b:Array UInt8) | EJ (b:UInt64) | ref (a:Addr) | ty (n:String)
 deriving DecidableEq
def RelV:V->Value->Prop
 | .aI,u=>u=Value.none
 | .bl b,u=>u=Value.bool b
 | .int i,u=>∃ t,u=Value.int i t
 | .str x,u=>∃ t,u=Value.str x t
 | .nV b,u=>∃ t,u=Value.bytes b t
 | .EJ b,u=>∃ t,u=Value.float b t
 | .ref a,u=>u=Value.ref a
 | .ty n,u=>u=Value.type n
noncomputable abbrev Vals:List V->List Value->Prop:=Paired RelV
theorem Vals.length{xs:List V}{us:List Value}(r:Vals xs us):xs.length=us.length:=Paired.length r
theorem Vals.get:∀ {xs:List V} {us:List Value} {i:Nat} {x:V},Vals xs us->xs[i]?=some x->∃ u,us[i]?=some u/\RelV x u
 | _,_,_,_,.nil,e=>by simp at e
 | _,_,0,_,.cons r _,e=>by simp at e;subst e;exact⟨_,rfl,r⟩
 | _,_,i+1,x,.cons _ t,e=>by
  obtain⟨u,h1,h2⟩:=Vals.get (i:=i) (x:=x) t (by simpa using e)
  exact⟨u,by simpa using h1,h2⟩
theorem Vals.set{x:V}{u:Value}(r:RelV x u):∀ {xs:List V} {us:List Value} (i:Nat),Vals xs us->Vals (xs.set i x) (us.set i u)
 | _,_,_,.nil=>.nil
 | _,_,0,.cons _ t=>.cons r t
 | _,_,i+1,.cons q t=>.cons q (Vals.set r i t)
theorem Vals.append:∀ {xs ys:List V} {us ws:List Value},Vals xs us->Vals ys ws->Vals (xs++ys) (us++ws)
 | _,_,_,_,.nil,s=>s
 | _,_,_,_,.cons r t,s=>.cons r (Vals.append t s)
theorem Vals.take:∀ {xs:List V} {us:List Value} (n:Nat),Vals xs us->Vals (xs.take n) (us.take n)
 | _,_,0,_=>.nil
 | _,_,_+1,.nil=>.nil
 | _,_,n+1,.cons r t=>.cons r (Vals.take n t)
theorem Vals.drop:∀ {xs:List V} {us:List Value} (n:Nat),Vals xs us->Vals (xs.drop n) (us.drop n)
 | _,_,0,r=>r
 | _,_,_+1,.nil=>.nil
 | _,_,n+1,.cons _ t=>Vals.drop n t
def i4:Option V->Option Value->Prop
 | some v,some u=>RelV v u
 | none,none=>True
 | _,_=>False
def KV{κ:Type}:List (κ×V)->List (κ×Value)->Prop:=Paired fun (p:κ×V) (q:κ×Value)=>p.1=q.1/\RelV p.2 q.2
def kV:Key->V
 | .inl i=>.int i
 | .inr x=>.str x
inductive HO where
 | lst (xs:List V)
 | tup (xs:List V)
 | dK (kvs:List (Key×V)) | dT (kvs:List (List Key×V))
 | set (S:Int->Bool) (n:Nat)
 | ins (C dx:Addr) (fs:List (Str×V))
 | own (x:Addr)
 | xd (fs:List (Str×V))
 | met (f x:Addr)
 | fD (lo hi:Int)
 | cI (o:Obj) (u:HO)
 | pI (ps:Array Value)
 | ext (φ:Heap->Prop)
noncomputable abbrev Hp:=Addr->Option HO
def upd(H:Hp)(a:Addr)(o:HO):Hp:=fun b=>if b=a then some o else H b
theorem af{H:Hp}{a:Addr}{o:HO}:upd H a o a=some o:=by unfold upd;rw[if_pos rfl]
theorem ae{H:Hp}{a b:Addr}{o:HO}(h:b≠a):upd H a o b=H b:=by unfold upd;rw[if_neg h]
theorem gJ{H:Hp}{a:Addr}{o u:HO}:upd (upd H a o) a u=upd H a u:=by
 funext b;unfold upd;split<;>rfl
theorem Dd{H:Hp}{a b:Addr}{o u:HO}(h:H a=some o)(h':H b=some u)(d:o≠u):a≠b:=by
 intro e;subst e;rw[h] at h';exact d (Option.some.inj h')
theorem ak{H:Hp}{a b:Addr}{o:HO}(h:H a=some o)(h':H b=none):a≠b:=by
 intro e;subst e;rw[h] at h';cases h'
def E_:List Value->Str
 | .str q _::_=>q
 | _=>Str.ofString ""
def v5(ps:Array Value):Str:=E_ ps.toList
def yQ(H:Hp)(q:Str)(cv:Value):Prop:=∃ (c:Addr) (oc:Obj) (vs:Array Value) (t:Tok),cv=.ref c/\H c=some (.cI oc (.own c))/\oc.data=.fields vs/\vs[1]?=some (.str q t)
def cT(h:Heap)(a:Addr)(items:Array Value):Prop:=∃ o:Obj,h.get? a=some o/\o.cls=.type "tuple"/\∃ n,o.data=.seq items n/\o.dict=none
theorem cT.to{h:Heap}{a:Addr}{items:Array Value}(x:cT h a items):IsTup h a items:=let ⟨o,e,c,n,d,_⟩:=x;⟨o,e,c,n,d⟩
theorem cT.new(h:Heap)(items:Array Value):cT (h.push { cls:=.type "tuple",data:=.seq items }) h.objs.size items:=⟨_,Heap.get?_push_size h rfl,rfl,_,rfl,rfl⟩
theorem cT.lt{h:Heap}{a:Addr}{items:Array Value}(x:cT h a items):a < h.objs.size:=x.to.lt
section
variable (P:Program) (w:World)
def aK(H:Hp)(h:Heap)(a:Addr):HO->Prop
 | .lst xs=>xs.length<=sizeLine/\∃ (its:List Value) (n:Nat),Vals xs its/\h.get? a=some { cls:=.type "list",data:=.seq its.toArray n }
 | .tup xs=>xs.length<=sizeLine/\∃ its:List Value,Vals xs its/\cT h a its.toArray
 | .dK kvs=>kvs.length<=sizeLine/\(a == sysModules)=false/\∃ vs,KV kvs vs/\h.DictOf (aZ P w) a vs
 | .dT kvs=>kvs.length<=sizeLine/\(a == sysModules)=false/\∃ xs:List (List Key×Addr×Value),
   Paired (fun (p:List Key×V) (q:List Key×Addr×Value)=>p.1=q.1/\H q.2.1=some (.tup (p.1.map kV))/\RelV p.2 q.2.2) kvs xs /\
   ∃ o es ep,h.get? a=some o/\o.ExactDict/\o.data=.dict es ep/\es.toList=xs.map (entryOfKey (tupleKind (aZ P w)))/\(xs.map (·.1)).Nodup
 | .set S n=>h.SetOf (intKind P w) a S n
 | .ins C dx fs=>H dx=some (.own a)/\fs.length<=1000/\dx≠a/\h.get? a=some (PySem.W.instObj C dx) /\
   ∃ mA,h.Ns1 dx mA/\(∀ f,i4 (fs.lookup f) (mA f))/\PySem.Within mA (fs.map (·.1))
 | .own _=>∃ o,h.get? a=some o
 | .xd fs=>∃ mA,h.Ns1 a mA/\∀ f,i4 (fs.lookup f) (mA f)
 | .fD lo hi=>∃ t u v,h.get? a=some { cls:=.type "range",data:=.fields #[.int lo t,.int hi u,.int 1 v] }
 | .cI o u=>h.get? a=some o/\aK H h a u
 | .pI ps=>∃ qs:Array Value,h.get? a=some { cls:=.none,data:=.fields qs }/\TriplesOk qs.toList/\∀ pos cv,codeAmong pos qs.toList=some cv->yQ H (v5 ps) cv
 | .met f x=>h.get? a=some (PySem.W.methodObj (.ref f) (.ref x))
 | .ext φ=>φ h/\(∃ o,h.get? a=some o)/\∀ h1 h2:Heap,φ h1->(∀ o,h1.get? a=some o->h2.get? a=some o)->φ h2
def dA(H:Hp)(h:Heap):Prop:=∀ a o,H a=some o->aK P w H h a o
end
section
variable {P:Program} {w:World} {H H':Hp} {h h':Heap} {a:Addr} {o:HO}
theorem aK.lt(x:aK P w H h a o):a < h.objs.size:=by
 cases o with
 | lst xs=>obtain⟨_,_,_,_,e⟩:=x;exact Heap.lt_size e
 | tup xs=>obtain⟨_,_,_,p⟩:=x;exact p.lt
 | dK kvs=>obtain⟨_,_,_,_,o,_,_,e,_⟩:=x;exact Heap.lt_size e
 | dT kvs=>obtain⟨_,_,_,_,o,_,_,e,_⟩:=x;exact Heap.lt_size e
 | set S n=>obtain⟨o,_,_,_,e,_⟩:=x;exact Heap.lt_size e
 | ins C dx fs=>obtain⟨_,_,_,e,_⟩:=x;exact Heap.lt_size e
 | own y=>obtain⟨_,e⟩:=x;exact Heap.lt_size e
 | xd fs=>obtain⟨_,⟨_,_,_,e,_⟩,_⟩:=x;exact Heap.lt_size e
 | fD lo hi=>obtain⟨_,_,_,e⟩:=x;exact Heap.lt_size e
 | cI ob u=>obtain⟨e,_⟩:=x;exact Heap.lt_size e
 | pI ps=>obtain⟨_,e,_⟩:=x;exact Heap.lt_size e
 | met f y=>exact Heap.lt_size (show h.get? a=some _ from x)
 | ext φ=>obtain⟨_,⟨_,e⟩,_⟩:=x;exact Heap.lt_size e
theorem Paired.jc{α β:Type}{F G:α->β->Prop}:∀ {l₁:List α} {l₂:List β},Paired F l₁ l₂->(∀ a b,F a b->G a b)->Paired G l₁ l₂
 | _,_,.nil,_=>.nil
 | _,_,.cons r t,f=>.cons (f _ _ r) (Paired.jc t f)
theorem aK.ig(x:aK P w H h a o)(k:∀ b u,(b=a\/H b=some (.own a))->h.get? b=some u->h'.get? b=some u)
  (ho:∀ b,H b=some (.own a)->H' b=some (.own a)) (ht:∀ b xs,H b=some (.tup xs)->H' b=some (.tup xs)) (hz:∀ b o u,H b=some (.cI o u)->H' b=some (.cI o u)):aK P w H' h' a o:=by
 induction o with
 | lst xs=>obtain⟨z,its,n,r,e⟩:=x;exact⟨z,its,n,r,k _ _ (.inl rfl) e⟩
 | tup xs=>obtain⟨z,its,r,ob,e,c⟩:=x;exact⟨z,its,r,ob,k _ _ (.inl rfl) e,c⟩
 | dK kvs=>obtain⟨z,y,vs,r,ob,es,ep,e,c⟩:=x;exact⟨z,y,vs,r,ob,es,ep,k _ _ (.inl rfl) e,c⟩
 | dT kvs =>
  obtain⟨z,y,xs,r,ob,es,ep,e,c⟩:=x;exact⟨z,y,xs,Paired.jc r fun p q z=>⟨z.1,ht _ _ z.2.1,z.2.2⟩,ob,es,ep,k _ _ (.inl rfl) e,c⟩
 | set S n=>obtain⟨ob,es,ep,t,e,c⟩:=x;exact⟨ob,es,ep,t,k _ _ (.inl rfl) e,c⟩
 | ins C dx fs =>
  obtain⟨d,z,ne,e,mA,⟨od,es,ep,e2,c⟩,r⟩:=x;exact⟨ho _ d,z,ne,k _ _ (.inl rfl) e,mA,⟨od,es,ep,k _ _ (.inr d) e2,c⟩,r⟩
 | own y=>obtain⟨ob,e⟩:=x;exact⟨ob,k _ _ (.inl rfl) e⟩
 | xd fs=>obtain⟨mA,⟨od,es,ep,e,c⟩,r⟩:=x;exact⟨mA,⟨od,es,ep,k _ _ (.inl rfl) e,c⟩,r⟩
 | fD lo hi=>obtain⟨t,u,v,e⟩:=x;exact⟨t,u,v,k _ _ (.inl rfl) e⟩
 | cI ob u ih=>obtain⟨e,q⟩:=x;exact⟨k _ _ (.inl rfl) e,ih q⟩
 | pI ps =>
  obtain⟨qs,e,t,f⟩:=x;exact⟨qs,k a _ (.inl rfl) e,t,fun pos cv q=>let ⟨c,oc,vs,t',e1,e2,e3⟩:=f pos cv q;⟨c,oc,vs,t',e1,hz _ _ _ e2,e3⟩⟩
 | met f y =>
  have e:h.get? a=some (PySem.W.methodObj (.ref f) (.ref y)):=x;show h'.get? a=some (PySem.W.methodObj (.ref f) (.ref y));exact k a _ (.inl rfl) e
 | ext φ=>obtain⟨p,⟨o,e⟩,st⟩:=x;exact⟨st _ _ p fun o q=>k _ _ (.inl rfl) q,⟨o,k _ _ (.inl rfl) e⟩,st⟩
theorem dA.lt(x:dA P w H h)(e:H a=some o):a < h.objs.size:=(x a o e).lt
theorem dA.fresh(x:dA P w H h)(e:h.objs.size<=a):H a=none:=by
 cases q:H a with
 | none=>rfl
 | some u=>exact absurd (Nat.lt_of_lt_of_le (x.lt q) e) (Nat.lt_irrefl _)
theorem dA.kept(x:dA P w H h)(k:∀ b u,h.get? b=some u->h'.get? b=some u):dA P w H h':=fun a o e =>
 (x a o e).ig (fun b u _ q=>k b u q) (fun _ q=>q) (fun _ _ q=>q) fun _ _ _ q=>q
theorem dA.laid(x:dA P w H h)(k:∀ b u,h.get? b=some u->h'.get? b=some u)(hp:h.objs.size<=a)(new:aK P w (upd H a o) h' a o):dA P w (upd H a o) h':=fun b u e=>by
 have hn:=x.fresh hp;by_cases hb:b=a
 ·subst hb;rw[af] at e;cases e;exact new
 ·rw[ae hb] at e;exact (x b u e).ig (fun c v _ q=>k c v q) (fun c q=>by rw[ae (ak q hn)];exact q) (fun c xs q=>by rw[ae (ak q hn)];exact q) fun c _ _ q=>by rw[ae (ak q hn)];exact q
end
def Rd(H:Hp)(a:Addr)(u:HO):Prop:=H a=some u\/∃ o,H a=some (.cI o u)
theorem Rd.ok{P:Program}{w:World}{H:Hp}{h:Heap}{a:Addr}{u:HO}(r:Rd H a u)(x:dA P w H h):aK P w H h a u:=by
 rcases r with r | ⟨o,r⟩
 ·exact x a u r
 ·obtain⟨_,q⟩:=x a _ r;exact q
def Ea:Option HO->Prop
 | some (.lst _)=>True
 | some (.dK _)=>True
 | some (.dT _)=>True
 | some (.set _ _)=>True
 | some (.ins _ _ _)=>True
 | some (.ext _)=>True
 | _=>False
section
variable {P:Program} {w:World} {H:Hp} {h h':Heap} {x e:Addr} {o':HO}
theorem dA.write(ok:dA P w H h)(mu:Ea (H x))(he:e=x\/H e=some (.own x))(k:∀ b u,b≠e->h.get? b=some u->h'.get? b=some u)(heo:∃ u,h'.get? e=some u)
  (new:aK P w (upd H x o') h' x o'):dA P w (upd H x o') h':=fun b u q=>by
 have nown:∀ c y,H c=some (.own y)->c≠x:=fun c y r z=>by subst z;rw[r] at mu;exact mu
 have ntup:∀ c xs,H c=some (.tup xs)->c≠x:=fun c xs r z=>by subst z;rw[r] at mu;exact mu
 have nfrz:∀ c o1 u1,H c=some (.cI o1 u1)->c≠x:=fun c _ _ r z=>by subst z;rw[r] at mu;exact mu
 by_cases hb:b=x
 ·subst hb;rw[af] at q;cases q;exact new
 ·rw[ae hb] at q;by_cases hbe:b=e
  ·have q':H b=some (.own x):=by
    rcases he with z | z
    ·exact absurd (hbe.trans z) hb
    ·rw[hbe];exact z
   rw[q] at q';cases q';obtain⟨v,hv⟩:=heo;exact⟨v,by rw[hbe];exact hv⟩
  ·refine (ok b u q).ig (fun c v hc r=>k c v ?_ r) (fun c r=>by rw[ae (nown c b r)];exact r) (fun c xs r=>by rw[ae (ntup c xs r)];exact r) fun c _ _ r=>by rw[ae (nfrz c _ _ r)];exact r
   rcases hc with rfl | hc
   ·exact hbe
   ·rintro rfl;rcases he with z | z
    ·exact nown c b hc z
    ·rw[hc] at z;cases z;exact hb rfl
end
structure Un (fs ex:List Addr) (H H':Hp) (h h':Heap):Prop where
 keep:∀ b o,h.get? b=some o->H b=none->b∉fs->b∉ex->h'.get? b=some o
 slot:∀ b o,h.get? b=some o->H b=none->b∈fs->b∉ex->∃ sl,h'.get? b=some { o with slots:=sl }
 free:∀ b o,h.get? b=some o->H b=none->b∉ex->H' b=none
 there:∀ b o,h.get? b=some o->b∉ex->∃ o',h'.get? b=some o'
 iA:∀ b xs,H b=some (.tup xs)->H' b=some (.tup xs)
 fQ:∀ b o u,H b=some (.cI o u)->H' b=some (.cI o u)
 fG:∀ b ps,H b=some (.pI ps)->∃ more,H' b=some (.pI (ps++more))
section
variable {fs fs' ex ex':List Addr} {H H1 H2:Hp} {h h1 h2 h':Heap} {a x e:Addr} {o:HO}
theorem Un.any(u:Un fs ex H H1 h h1){b:Addr}{ob:Obj}(q:h.get? b=some ob)(n:H b=none)(hx:b∉ex):∃ sl,h1.get? b=some { ob with slots:=sl }:=by
 by_cases hb:b∈fs
 ·exact u.slot b ob q n hb hx
 ·exact⟨ob.slots,u.keep b ob q n hb hx⟩
theorem Un.kept(k:∀ b u,h.get? b=some u->h'.get? b=some u):Un fs ex H H h h':=
 ⟨fun b ob q _ _ _=>k b ob q,fun b ob q _ _ _=>⟨ob.slots,k b ob q⟩,fun _ _ _ n _=>n,fun b ob q _=>⟨ob,k b ob q⟩,fun _ _ q=>q,fun _ _ _ q=>q,fun _ ps q=>⟨#[],by rw[q];simp⟩⟩
theorem Un.refl:Un fs ex H H h h:=Un.kept fun _ _ q=>q
theorem Un.laid(k:∀ b u,h.get? b=some u->h'.get? b=some u)(hp:h.objs.size<=a)(hn:H a=none):Un fs ex H (upd H a o) h h' where
 keep:=fun b u q _ _ _=>k b u q
 slot:=fun b u q _ _ _=>⟨u.slots,k b u q⟩
 free:=fun b u q n _=>by rw[ae (Nat.ne_of_lt (Nat.lt_of_lt_of_le (Heap.lt_size q) hp))];exact n
 there:=fun b u q _=>⟨u,k b u q⟩
 iA:=fun b xs q=>by rw[ae (ak q hn)];exact q
 fQ:=fun b u xs q=>by rw[ae (ak q hn)];exact q
 fG:=fun b ps q=>⟨#[],by rw[ae (ak q hn),q];simp⟩
theorem Un.write(mu:Ea (H x))(he:e=x\/H e=some (.own x))(k:∀ b u,b≠e->h.get? b=some u->h'.get? b=some u)(heo:∃ u,h'.get? e=some u):Un fs ex H (upd H x o) h h':=by
 have hx:∀ b,H b=none->b≠x:=fun b n z=>by subst z;rw[n] at mu;exact mu
 have hb:∀ b,H b=none->b≠e:=fun b n z=>by
  subst z;rcases he with r | r
  ·exact hx b n r
  ·rw[n] at r;cases r
 have hm:∀ b u,H b=some u->¬ Ea (some u)->b≠x:=fun b u q nm z=>by subst z;rw[q] at mu;exact nm mu
 refine⟨fun b u q n _ _=>k b u (hb b n) q,fun b u q n _ _=>⟨u.slots,k b u (hb b n) q⟩,fun b u q n _=>by rw[ae (hx b n)];exact n,fun b u q _=>?_,
  fun b xs q=>by rw[ae (hm b _ q fun z=>z)];exact q,fun b u xs q=>by rw[ae (hm b _ q fun z=>z)];exact q,fun b ps q=>⟨#[],by rw[ae (hm b _ q fun z=>z),q];simp⟩⟩
 by_cases hbe:b=e
 ·subst hbe;exact heo
 ·exact⟨u,k b u hbe q⟩
end
def er(h:Heap)(H:Hp):List Addr:=(List.range h.objs.size).filter fun a=>(H a).isSome
def iW(h:Heap)(H:Hp):Heap:=PySem.W.hideAll h (er h H)
theorem qU(h:Heap)(H:Hp):(iW h H).objs.size=h.objs.size:=PySem.W.hideAll_size _ _
theorem fc{h:Heap}{H:Hp}{b:Addr}{o:Obj}(e:h.get? b=some o)(n:H b=none):(iW h H).get? b=some o:=
 PySem.W.hideAll_get _ e fun hm=>by
  have q:(H b).isSome=true:=(List.mem_filter.mp hm).2;rw[n] at q;simp at q
theorem xA{h:Heap}{H:Hp}{b:Addr}{o:Obj}(e:(iW h H).get? b=some o):h.get? b=some o/\H b=none:=by
 have e':h.get? b=some o:=PySem.W.of_hideAll (er h H) e;refine⟨e',?_⟩
 cases q:H b with
 | none=>rfl
 | some x =>
  have hm:b∈er h H:=List.mem_filter.mpr ⟨List.mem_range.mpr (Heap.lt_size e'),by simp[q]⟩
  have z:(iW h H).get? b=none:=PySem.W.hideAll_none (er h H) hm;rw[z] at e;cases e
def xR(g h:Heap)(L:Addr):List (Addr×Obj):=(List.range h.objs.size).filterMap fun a=>if a=L\/(g.get? a).isSome=true then none else (h.get? a).map fun o=>(a,o)
def rest(g h:Heap)(L d:Addr):List (Addr×Obj):=(xR g h L).filter fun p=>decide (p.1≠d)
def cS:List Str:=["by_worth","by_weight","code_of"]
def b8(K:PySem.W.Frag):List (Addr×Addr×Str):=cS.filterMap fun x=>(PySem.W.tabIn K x).map fun p=>(p.1,p.2,(x++".<locals>.")++"<lambda>")
def TabsOk(K:PySem.W.Frag)(H:Hp):Prop:=∀ t∈b8 K,∃ more,H t.2.1=some (.pI (#[.str t.2.2 0]++more))
theorem TabsOk.un{K:PySem.W.Frag}{fs ex:List Addr}{H H1:Hp}{h h1:Heap}(x:TabsOk K H)(u:Un fs ex H H1 h h1):TabsOk K H1:=fun t ht=>by
 obtain⟨m,e⟩:=x t ht;obtain⟨m2,e2⟩:=u.fG _ _ e;exact⟨m++m2,by rw[e2,Array.append_assoc]⟩
def zZ(mg:Str->Option Value)(h:Heap):Prop:=∃ bm ob,mg "__builtins__"=some (.ref bm)/\bm≠builtinsNs/\h.get? bm=some ob/\ob.cls=.type "module"/\ob.dict=some builtinsNs/\ob.data=.plain
structure Mod (K:PySem.W.Frag) (mg:Str->Option Value) (base:Heap):Prop where
 xV:K.In base
 glob:base.Ns mainGlobals mg
 blt:∃ mb,base.Ns builtinsNs mb/\∀ x:Str,x≠"__name__"->mb x=bootBuiltins x
 nolimit:base.NoLimit
 codes:∀ t∈b8 K,PySem.W.CodeHd base t.1 t.2.1
 bm:zZ mg base
structure Cx where
 prog:Program
 w:World
 K:PySem.W.Frag
 mg:Str->Option Value
 base:Heap
 A:Around
 N:List Str
 s₀:Shared
 H₀:Hp
 env:Env
 outer:List Env
 stack:List Env
 ex:List Addr
 fn:Str->Bool
 calm:Bool
 pn:List (Addr×Obj)
 xe:Value->Shared->Prop
def gE(l:List Env):List Addr:=l.filterMap (·.frame)
noncomputable abbrev Cx.fs (X:Cx):List Addr:=gE X.outer
def Bg(sc:Scope)(x:Str):Prop:=sc.names.lookup x=some .local\/sc.names.lookup x=some .cell\/sc.names.lookup x=some .free
def Loc(sc:Scope)(x:Str):Prop:=sc.names.lookup x=some .local\/sc.names.lookup x=some .cell
def Look(env:Env)(h:Heap)(m:Str->Option Value)(x:Str)(u:Value):Prop:=
 (env.kindOf x=some .local/\m x=some u)\/((env.kindOf x=some .cell\/env.kindOf x=some .free)/\∃ c,env.cells.lookup x=some c/\h.IsCell c (some u))
structure Cx.Ok (X:Cx):Prop where
 mod:Mod X.K X.mg X.base
 kind:X.env.scope.kind=.function
 glob:X.env.globals=mainGlobals
 blt:X.env.builtins=builtinsNs
 above:X.s₀.heap.objs.size<=X.env.locals
 inj:∀ x y c,X.env.cells.lookup x=some c->X.env.cells.lookup y=some c->x=y
 has:∀ x,(X.env.kindOf x=some .cell\/X.env.kindOf x=some .free)->∃ c,X.env.cells.lookup x=some c
 Eh:∀ x c,X.fn x=true->X.env.cells.lookup x=some c->X.s₀.heap.objs.size<=c
 hd:X.calm=true->X.A.handled=none
 frames:X.A.frames=some X.stack
 E9:X.stack=X.outer\/(X.stack=X.env::X.outer/\X.env.frame=some X.env.locals)
 Gj:∀ b∈X.ex,b≠X.env.locals/\∀ x c,X.env.cells.lookup x=some c->c≠b
 bs:∀ b o,X.base.get? b=some o->X.s₀.heap.get? b=some o/\X.H₀ b=none
 x_:X.base.objs.size<=X.s₀.heap.objs.size
 vv:∀ b o,X.base.get? b=some o->b∉X.ex
 w6:∀ b∈X.ex,b∉X.fs
 iN:X.s₀.heap.FunFrames X.base X.outer
 BV:∀ b∈X.fs,X.H₀ b=none
 tabs:TabsOk X.K X.H₀
structure Inv (X:Cx) (pins:List (Addr×Obj)) (σ:List (Option V)) (H:Hp) (s:Shared):Prop where
 ok:X.Ok
 os:s.os=X.s₀.os
 bare:AllBare s.gens
 base:Un X.fs X.ex X.H₀ H X.s₀.heap s.heap
 loc:∃ m,s.heap.Ns X.env.locals m/\∀ (i:Nat) (x:Str) (v:V),X.N[i]?=some x->σ[i]?=some (some v)->Bg X.env.scope x->∃ u,RelV v u/\Look X.env s.heap m x u
 cell:∀ x c,X.env.cells.lookup x=some c->∃ v,s.heap.IsCell c v
 free:H X.env.locals=none
 cC:∀ x c,X.env.cells.lookup x=some c->H c=none
 pin:∀ p∈X.pn++pins,s.heap.get? p.1=some p.2/\H p.1=none/\p.1≠X.env.locals/\p.1∉X.fs/\∀ v,p.2.data≠.cell v
 aE:dA X.prog X.w H s.heap
 len:σ.length=X.N.length
section
variable {X:Cx} {pins:List (Addr×Obj)} {σ:List (Option V)} {H H':Hp} {s:Shared} {h':Heap}
theorem Cx.Ok.Fy(ok:X.Ok){b:Addr}{o:Obj}(e:X.base.get? b=some o):b∉X.fs:=fun hb=>by
 have:=(ok.iN.mem hb).1;rw[e] at this;cases this
theorem Inv.bs(I:Inv X pins σ H s):∀ b o,X.base.get? b=some o->s.heap.get? b=some o/\H b=none:=fun b o e =>
 ⟨I.base.keep b o (I.ok.bs b o e).1 (I.ok.bs b o e).2 (I.ok.Fy e) (I.ok.vv b o e),I.base.free b o (I.ok.bs b o e).1 (I.ok.bs b o e).2 (I.ok.vv b o e)⟩
theorem Inv.bk(I:Inv X pins σ H s):∀ b o,X.base.get? b=some o->s.heap.get? b=some o:=fun b o e=>(I.bs b o e).1
theorem Inv.mod(I:Inv X pins σ H s):Mod X.K X.mg X.base:=I.ok.mod
theorem Inv.pV(I:Inv X pins σ H s):X.K.In s.heap:=I.ok.mod.xV.keeps I.bk
theorem Inv.nolimit(I:Inv X pins σ H s):s.heap.NoLimit:=I.ok.mod.nolimit.keeps I.bk
theorem Inv.lt(I:Inv X pins σ H s):X.env.locals < s.heap.objs.size:=let ⟨_,hn,_⟩:=I.loc;hn.lt
theorem Inv.sz(I:Inv X pins σ H s):X.s₀.heap.objs.size<=s.heap.objs.size:=Nat.le_trans I.ok.above (Nat.le_of_lt I.lt)
theorem Inv.Dc(I:Inv X pins σ H s){a:Addr}(h:s.heap.objs.size<=a):a∉X.fs:=fun hb=>by
 obtain⟨_,o,ho,_⟩:=I.ok.iN.mem hb;exact absurd (Nat.lt_of_lt_of_le (Heap.lt_size ho) (Nat.le_trans I.sz h)) (Nat.lt_irrefl _)
theorem Inv.y1(I:Inv X pins σ H s):∀ x c,X.env.cells.lookup x=some c->c≠X.env.locals:=fun x c e z=>by
 obtain⟨v,o,ho,hd⟩:=I.cell x c e;obtain⟨m,⟨o',es,ep,ho',hd',_⟩,_⟩:=I.loc;rw[z,ho'] at ho;cases ho;rw[hd'] at hd;cases hd
theorem Inv.iN(I:Inv X pins σ H s):s.heap.FunFrames X.base X.outer:=by
 have all:∀ (l:List Env),(∀ b∈gE l,b∈X.fs)->X.s₀.heap.FunFrames X.base l->s.heap.FunFrames X.base l:=by
  intro l
  induction l with
  | nil=>intro _ _;trivial
  | cons env r ih =>
   intro hs hl;obtain⟨hk,⟨L,o,hf,hn,ho,hd⟩,hr⟩:=hl;have hL:L∈X.fs:=hs L (by unfold gE;rw[List.filterMap_cons,hf];exact List.mem_cons_self)
   obtain⟨sl,e⟩:=I.base.slot L o ho (I.ok.BV L hL) hL fun z=>I.ok.w6 L z hL;exact⟨hk,⟨L,_,hf,hn,e,hd⟩,ih (fun b hb=>hs b (by unfold gE;rw[List.filterMap_cons,hf];exact List.mem_cons_of_mem _ hb)) hr⟩
 exact all X.outer (fun _ hb=>hb) I.ok.iN
theorem Inv.stack(I:Inv X pins σ H s):s.heap.FunFrames X.base X.stack:=by
 rcases I.ok.E9 with e | ⟨e,hf⟩
 ·rw[e];exact I.iN
 ·rw[e];obtain⟨m,hn,_⟩:=I.loc;refine .cons (by rw[I.ok.kind];decide) hf hn ?_ I.iN
  exact Heap.get?_none_of_le (Nat.le_trans I.ok.x_ I.ok.above)
theorem Inv.ic(I:Inv X pins σ H s):∀ b∈gE X.stack,b∈X.env.locals::X.fs:=fun b hb=>by
 rcases I.ok.E9 with e | ⟨e,hf⟩
 ·rw[e] at hb;exact List.mem_cons_of_mem _ hb
 ·rw[e] at hb;unfold gE at hb;rw[List.filterMap_cons,hf] at hb;exact hb
theorem Inv.gQ(I:Inv X pins σ H s):∀ b∈gE X.stack,H b=none:=fun b hb=>by
 rcases List.mem_cons.mp (I.ic b hb) with e | hb
 ·rw[e];exact I.free
 ·obtain⟨_,o,ho,_⟩:=I.ok.iN.mem hb;exact I.base.free b o ho (I.ok.BV b hb) fun z=>I.ok.w6 b z hb
theorem Inv.step{g':Array GenState}{t':Nat}{d':Drawn}{ch:List Addr}(I:Inv X pins σ H s)
  (hch:∀ b∈ch,(b∈X.ex\/X.s₀.heap.objs.size<=b)/\b≠X.env.locals/\(∀ x c,X.env.cells.lookup x=some c->c≠b)/\∀ p∈X.pn++pins,p.1≠b)
  (keep:∀ b o,b≠X.env.locals->b∉X.fs->b∉ch->s.heap.get? b=some o->H b=none->h'.get? b=some o)
  (slot:∀ b o,b≠X.env.locals->b∈X.fs->b∉ch->s.heap.get? b=some o->H b=none->∃ sl,h'.get? b=some { o with slots:=sl }) (free:∀ b o,b∉ch->s.heap.get? b=some o->H b=none->H' b=none)
  (there:∀ b o,b∉ch->s.heap.get? b=some o->∃ o',h'.get? b=some o')
  (iA:∀ b xs,H b=some (.tup xs)->H' b=some (.tup xs)) (fQ:∀ b o u,H b=some (.cI o u)->H' b=some (.cI o u)) (fG:∀ b ps,H b=some (.pI ps)->∃ more,H' b=some (.pI (ps++more)))
  (ns:∀ m,s.heap.Ns X.env.locals m->h'.Ns X.env.locals m) (aE:dA X.prog X.w H' h') (hg:AllBare g') :
  Inv X pins σ H' { s with heap:=h',gens:=g',drawn:=d',toks:=t' }:=by
 have neL:∀ b o,X.s₀.heap.get? b=some o->b≠X.env.locals:=fun b o e=>Nat.ne_of_lt (Nat.lt_of_lt_of_le (Heap.lt_size e) I.ok.above);have neC:∀ b o,X.s₀.heap.get? b=some o->b∉X.ex->b∉ch:=fun b o e hx hb=>by
  rcases (hch b hb).1 with z | z
  ·exact hx z
  ·exact absurd (Nat.lt_of_lt_of_le (Heap.lt_size e) z) (Nat.lt_irrefl _)
 have cellK:∀ x c,X.env.cells.lookup x=some c->∀ v,s.heap.IsCell c v->h'.IsCell c v:=fun x c e v ⟨o,ho,hd⟩=>by
  have nch:c∉ch:=fun z=>(hch c z).2.2.1 x c e rfl;by_cases hc:c∈X.fs
  ·obtain⟨sl,q⟩:=slot c o (I.y1 x c e) hc nch ho (I.cC x c e);exact⟨_,q,hd⟩
  ·exact⟨o,keep c o (I.y1 x c e) hc nch ho (I.cC x c e),hd⟩
 refine⟨I.ok,I.os,hg,⟨fun b o e n hb hx=>?_,fun b o e n hb hx=>?_,fun b o e n hx=>?_,fun b o e hx=>?_,fun b xs e=>iA b xs (I.base.iA b xs e),fun b o xs e=>fQ b o xs (I.base.fQ b o xs e),fun b ps e=>?_⟩,?_,fun x c e=>?_,?_,fun x c e=>?_,fun p hp=>?_,aE,I.len⟩
 ·exact keep b o (neL b o e) hb (neC b o e hx) (I.base.keep b o e n hb hx) (I.base.free b o e n hx)
 ·obtain⟨sl,e1⟩:=I.base.slot b o e n hb hx;obtain⟨sl',e2⟩:=slot b _ (neL b o e) hb (neC b o e hx) e1 (I.base.free b o e n hx);exact⟨sl',e2⟩
 ·obtain⟨o',e1⟩:=I.base.there b o e hx;exact free b o' (neC b o e hx) e1 (I.base.free b o e n hx)
 ·obtain⟨o',e1⟩:=I.base.there b o e hx;exact there b o' (neC b o e hx) e1
 ·obtain⟨m1,e1⟩:=I.base.fG b ps e;obtain⟨m2,e2⟩:=fG b _ e1;exact⟨m1++m2,by rw[e2,Array.append_assoc]⟩
 ·obtain⟨m,hn,hl⟩:=I.loc;refine⟨m,ns m hn,fun i x v e1 e2 e3=>?_⟩;obtain⟨u,r,l⟩:=hl i x v e1 e2 e3;refine⟨u,r,?_⟩;rcases l with l | ⟨k,c,e,z⟩
  ·exact .inl l
  ·exact .inr ⟨k,c,e,cellK x c e _ z⟩
 ·obtain⟨v,z⟩:=I.cell x c e;exact⟨v,cellK x c e v z⟩
 ·obtain⟨m,⟨o,_,_,ho,_⟩,_⟩:=I.loc;exact free _ o (fun z=>(hch _ z).2.1 rfl) ho I.free
 ·obtain⟨v,o,ho,hd⟩:=I.cell x c e;exact free c o (fun z=>(hch c z).2.2.1 x c e rfl) ho (I.cC x c e)
 ·obtain⟨e,n,ne,nf,d⟩:=I.pin p hp;have nch:p.1∉ch:=fun z=>(hch p.1 z).2.2.2 p hp rfl;exact⟨keep p.1 p.2 ne nf nch e n,free p.1 p.2 nch e n,ne,nf,d⟩
theorem Inv.un{t':Nat}(I:Inv X pins σ H s)(u:Un X.fs [] H H' s.heap h')(aE:dA X.prog X.w H' h'):Inv X pins σ H' { s with heap:=h',toks:=t' }:=by
 obtain⟨m,⟨o,es,ep,ho,r⟩,_⟩:=id I.loc;obtain⟨sl,hL⟩:=u.any ho I.free (by simp)
 exact I.step (g':=s.gens) (d':=s.drawn) (ch:=[]) (fun _ z=>nomatch z) (fun b o _ hb _ e n=>u.keep b o e n hb (by simp)) (fun b o _ hb _ e n=>u.slot b o e n hb (by simp)) (fun b o _ e n=>u.free b o e n (by simp)) (fun b o _ e=>u.there b o e (by simp)) u.iA u.fQ u.fG (fun m' hm=>by
  obtain⟨o',es',ep',ho',r'⟩:=hm;rw[ho] at ho';cases ho';exact⟨_,es',ep',hL,r'⟩) aE I.bare
theorem Inv.call{g':Array GenState}{t':Nat}{d':Drawn}{ch:List Addr}(I:Inv X pins σ H s)(u:Un (gE X.stack) ch H H' s.heap h')(aE:dA X.prog X.w H' h')(hg:AllBare g')
  (hch:∀ b∈ch,(b∈X.ex\/X.s₀.heap.objs.size<=b)/\b≠X.env.locals/\(∀ x c,X.env.cells.lookup x=some c->c≠b)/\∀ p∈X.pn++pins,p.1≠b) :
  Inv X pins σ H' { s with heap:=h',gens:=g',drawn:=d',toks:=t' }:=by
 obtain⟨m,⟨o,es,ep,ho,r⟩,_⟩:=id I.loc;obtain⟨sl,hL⟩:=u.any ho I.free fun z=>(hch _ z).2.1 rfl;exact I.step (ch:=ch) hch (fun b o hL hb hc e n=>u.keep b o e n (fun z=>(List.mem_cons.mp (I.ic b z)).elim hL hb) hc) (fun b o _ _ hc e n=>u.any e n hc) (fun b o hc e n=>u.free b o e n hc) (fun b o hc e=>u.there b o e hc) u.iA u.fQ u.fG (fun m' hm=>by
  obtain⟨o',es',ep',ho',r'⟩:=hm;rw[ho] at ho';cases ho';exact⟨_,es',ep',hL,r'⟩) aE hg
theorem Inv.turned{t':Nat}{it:Addr}(I:Inv X pins σ H s)(k:∀ b o,b≠it->s.heap.get? b=some o->h'.get? b=some o)(hn:H it=none)(hL:it≠X.env.locals)
  (h1:it∈X.ex\/X.s₀.heap.objs.size<=it) (h2:∀ x c,X.env.cells.lookup x=some c->c≠it) (h3:∀ p∈X.pn++pins,p.1≠it):Inv X pins σ H { s with heap:=h',toks:=t' }:=by
 have nit:∀ b u,H b=some u->b≠it:=fun b u e z=>by rw[z,hn] at e;cases e
 refine I.step (g':=s.gens) (d':=s.drawn) (ch:=[it]) (fun b hb=>?_) (fun b o _ _ hc e _=>k b o (fun z=>hc (by simp[z])) e) (fun b o _ _ hc e _=>⟨o.slots,k b o (fun z=>hc (by simp[z])) e⟩) (fun _ _ _ _ n=>n)
  (fun b o hc e=>⟨o,k b o (fun z=>hc (by simp[z])) e⟩) (fun _ _ e=>e) (fun _ _ _ e=>e) (fun b ps e=>⟨#[],by rw[e];simp⟩) (fun m hm=>?_) (fun b u e=>?_) I.bare
 ·have e:b=it:=by simpa using hb
  subst e;exact⟨h1,hL,h2,h3⟩
 ·obtain⟨o,es,ep,ho,r⟩:=hm;exact⟨o,es,ep,k _ o (Ne.symm hL) ho,r⟩
 ·refine (I.aE b u e).ig (fun c v hc q=>k c v ?_ q) (fun _ q=>q) (fun _ _ q=>q) fun _ _ _ q=>q;rcases hc with z | z
  ·rw[z];exact nit b u e
  ·exact nit c _ z
theorem Inv.tok(I:Inv X pins σ H s)(t:Nat):Inv X pins σ H { s with toks:=t }:=I.un (h':=s.heap) (t':=t) Un.refl I.aE
theorem Inv.kept{t':Nat}(I:Inv X pins σ H s)(k:∀ b u,s.heap.get? b=some u->h'.get? b=some u):Inv X pins σ H { s with heap:=h',toks:=t' }:=I.un (Un.kept k) (I.aE.kept k)
theorem Inv.laid{a:Addr}{o:HO}{t':Nat}(I:Inv X pins σ H s)(k:∀ b u,s.heap.get? b=some u->h'.get? b=some u)(hp:s.heap.objs.size<=a)(new:aK X.prog X.w (upd H a o) h' a o):
  Inv X pins σ (upd H a o) { s with heap:=h',toks:=t' }:=I.un (Un.laid k hp (I.aE.fresh hp)) (I.aE.laid k hp new)
theorem Inv.write{x e:Addr}{o:HO}{t':Nat}(I:Inv X pins σ H s)(mu:Ea (H x))(he:e=x\/H e=some (.own x))(k:∀ b u,b≠e->s.heap.get? b=some u->h'.get? b=some u)(heo:∃ u,h'.get? e=some u)
  (new:aK X.prog X.w (upd H x o) h' x o):Inv X pins σ (upd H x o) { s with heap:=h',toks:=t' }:=I.un (Un.write mu he k heo) (I.aE.write mu he k heo new)
theorem Inv.jU{pins':List (Addr×Obj)}(I:Inv X pins σ H s)(h:∀ p∈pins',s.heap.get? p.1=some p.2/\H p.1=none/\p.1≠X.env.locals/\p.1∉X.fs/\∀ v,p.2.data≠.cell v):Inv X pins' σ H s:=
 ⟨I.ok,I.os,I.bare,I.base,I.loc,I.cell,I.free,I.cC,fun p hp=>(List.mem_append.mp hp).elim (fun z=>I.pin p (List.mem_append_left _ z)) (h p),I.aE,I.len⟩
theorem mP{N:List Str}(hN:N.Nodup){i j:Nat}{x:Str}(a:N[i]?=some x)(b:N[j]?=some x):i=j:=by
 obtain⟨h1,e1⟩:=List.getElem?_eq_some_iff.mp a;obtain⟨h2,e2⟩:=List.getElem?_eq_some_iff.mp b;exact (List.getElem_inj hN).mp (e1.trans e2.symm)
theorem jd{M:Model}{A:Around}{E:Value->Shared->Prop}{i:Nat}{x:Str}{v:V}{u:Value}{Q:Unit->Shared->Prop}(I:Inv X pins σ H s)(hN:X.N.Nodup)(hi:X.N[i]?=some x)(hx:Loc X.env.scope x)(r:RelV v u)
  (h:∀ s',Inv X pins (σ.set i (some v)) H s'->(∃ a,Heap.SameBut a s.heap s'.heap/\(a=X.env.locals\/X.env.cells.lookup x=some a))->Q () s') (hf:X.fn x=true\/X.env.scope.names.lookup x=some .local:=by first | exact .inl rfl | exact .inr rfl | assumption):wpAny M A (storeName X.env x u) Q E s:=by
 obtain⟨m,hn,hl⟩:=id I.loc;have hcls:(X.env.scope.kind == .class || (X.env.scope.kind == .module && X.env.locals != X.env.globals))=false:=by rw[I.ok.kind];rfl
 have hiσ:i < σ.length:=by rw[I.len];exact (List.getElem?_eq_some_iff.mp hi).1
 have y1:=I.y1;have tracked:∀ {a:Addr} {h':Heap},(∃ o,s.heap.get? a=some o/\H a=none)->Heap.SameBut a s.heap h'->dA X.prog X.w H h':=fun {a h'} ha hs b ob e=>by
  obtain⟨_,_,hfree⟩:=ha;refine (I.aE b ob e).ig (fun c w' hc q=>(hs.2 c ?_).trans q) (fun _ q=>q) (fun _ _ q=>q) fun _ _ _ q=>q;rintro rfl;rcases hc with rfl | hc
  ·rw[hfree] at e;cases e
  ·rw[hfree] at hc;cases hc
 rcases hx with hk | hk
 ·refine wpAny_storeName_local hk hn (fun h' hn' hs=>?_) hcls;obtain⟨oL,_,_,hoL,_⟩:=id hn;refine h _ ⟨I.ok,I.os,I.bare,⟨fun b o e n hb hx=>?_,fun b o e n hb hx=>?_,I.base.free,fun b o e hx=>?_,I.base.iA,I.base.fQ,I.base.fG⟩,⟨_,hn',fun j y v' e1 e2 e3=>?_⟩,fun y c e=>?_,I.free,I.cC,fun p hp=>?_,tracked ⟨oL,hoL,I.free⟩ hs,by simpa using I.len⟩ ⟨_,hs,.inl rfl⟩
  ·exact (hs.2 b (Nat.ne_of_lt (Nat.lt_of_lt_of_le (Heap.lt_size e) I.ok.above))).trans (I.base.keep b o e n hb hx)
  ·obtain⟨sl,e1⟩:=I.base.slot b o e n hb hx;exact⟨sl,(hs.2 b (Nat.ne_of_lt (Nat.lt_of_lt_of_le (Heap.lt_size e) I.ok.above))).trans e1⟩
  ·obtain⟨o',e1⟩:=I.base.there b o e hx;exact⟨o',(hs.2 b (Nat.ne_of_lt (Nat.lt_of_lt_of_le (Heap.lt_size e) I.ok.above))).trans e1⟩
  ·by_cases hj:j=i
   ·subst hj;rw[hi] at e1;cases e1;rw[List.getElem?_set_self hiσ] at e2;cases e2;exact⟨u,r,.inl ⟨hk,by simp⟩⟩
   ·rw[List.getElem?_set_ne (Ne.symm hj)] at e2;obtain⟨u',r',q⟩:=hl j y v' e1 e2 e3;refine⟨u',r',?_⟩;rcases q with ⟨k,e⟩ | ⟨k,c,e,z⟩
    ·refine .inl ⟨k,?_⟩;have:y≠x:=fun e=>hj (mP hN e1 (e ▸ hi));simp[this,e]
    ·exact .inr ⟨k,c,e,z.sameBut hs (y1 y c e)⟩
  ·obtain⟨w',z⟩:=I.cell y c e;exact⟨w',z.sameBut hs (y1 y c e)⟩
  ·obtain⟨e,n,ne,nf,d⟩:=I.pin p hp;exact⟨(hs.2 p.1 ne).trans e,n,ne,nf,d⟩
 ·have hfn:X.fn x=true:=by
   rcases hf with z | z
   ·exact z
   ·rw[z] at hk;cases hk
  obtain⟨c,hc⟩:=I.ok.has x (.inl hk);obtain⟨w',z⟩:=I.cell x c hc;refine wpAny_storeName_cell I.ok.kind hk hc z (fun h' hc' hs=>?_);obtain⟨oc,hoc,hocd⟩:=id z;refine h { s with heap:=h' } ⟨I.ok,I.os,I.bare,⟨fun b o e n hb hx=>?_,fun b o e n hb hx=>?_,I.base.free,fun b o e hx=>?_,I.base.iA,I.base.fQ,I.base.fG⟩,⟨m,hn.sameBut hs (Ne.symm (y1 x c hc)),fun j y v' e1 e2 e3=>?_⟩,fun y c' e=>?_,I.free,I.cC,fun p hp=>?_,tracked ⟨oc,hoc,I.cC x c hc⟩ hs,by simpa using I.len⟩ ⟨c,hs,.inr hc⟩
  ·exact (hs.2 b (Nat.ne_of_lt (Nat.lt_of_lt_of_le (Heap.lt_size e) (I.ok.Eh x c hfn hc)))).trans (I.base.keep b o e n hb hx)
  ·obtain⟨sl,e1⟩:=I.base.slot b o e n hb hx;exact⟨sl,(hs.2 b (Nat.ne_of_lt (Nat.lt_of_lt_of_le (Heap.lt_size e) (I.ok.Eh x c hfn hc)))).trans e1⟩
  ·obtain⟨o',e1⟩:=I.base.there b o e hx;exact⟨o',(hs.2 b (Nat.ne_of_lt (Nat.lt_of_lt_of_le (Heap.lt_size e) (I.ok.Eh x c hfn hc)))).trans e1⟩
  ·by_cases hj:j=i
   ·subst hj;rw[hi] at e1;cases e1;rw[List.getElem?_set_self hiσ] at e2;cases e2;exact⟨u,r,.inr ⟨.inl hk,c,hc,hc'⟩⟩
   ·rw[List.getElem?_set_ne (Ne.symm hj)] at e2;obtain⟨u',r',q⟩:=hl j y v' e1 e2 e3;refine⟨u',r',?_⟩;rcases q with q | ⟨k,c',e,z'⟩
    ·exact .inl q
    ·refine .inr ⟨k,c',e,z'.sameBut hs ?_⟩;rintro rfl;exact hj (mP hN e1 (I.ok.inj _ _ _ e hc ▸ hi))
  ·by_cases hcc:c'=c
   ·subst hcc;exact⟨_,hc'⟩
   ·obtain⟨w2,z2⟩:=I.cell y c' e;exact⟨w2,z2.sameBut hs hcc⟩
  ·obtain⟨e,n,ne,nf,d⟩:=I.pin p hp;refine⟨(hs.2 p.1 ?_).trans e,n,ne,nf,d⟩;intro q;rw[q,hoc] at e;have q':oc=p.2:=Option.some.inj e;exact d w' (by rw[<- q'];exact hocd)
theorem lI{M:Model}{A:Around}{E:Value->Shared->Prop}{i:Nat}{x:Str}{v:V}{u:Value}{Q:Unit->Shared->Prop}(I:Inv X pins σ H s)(hN:X.N.Nodup)(hi:X.N[i]?=some x)(hx:Loc X.env.scope x)(r:RelV v u)
  (h:∀ s',Inv X pins (σ.set i (some v)) H s'->Q () s') (hf:X.fn x=true\/X.env.scope.names.lookup x=some .local:=by first | exact .inl rfl | exact .inr rfl | assumption):wpAny M A (storeName X.env x u) Q E s:=
 jd I hN hi hx r (fun s' I' _=>h s' I') hf
theorem Inv.yS{s':Shared}{ch:List Addr}(I:Inv X pins σ H s)(ho:s'.os=s.os)(u:Un (gE X.stack) ch H H' s.heap s'.heap)(aE:dA X.prog X.w H' s'.heap)(hg:AllBare s'.gens)
  (hch:∀ b∈ch,(b∈X.ex\/X.s₀.heap.objs.size<=b)/\b≠X.env.locals/\(∀ x c,X.env.cells.lookup x=some c->c≠b)/\∀ p∈X.pn++pins,p.1≠b):Inv X pins σ H' s':=by
 obtain⟨h',g',d',t',o'⟩:=s';have e:o'=s.os:=ho;subst e;exact I.call (g':=g') (t':=t') (d':=d') u aE hg hch
end
noncomputable abbrev XK:=Value->Option Addr->Hp->Prop
noncomputable abbrev St:=List (Option V)
noncomputable abbrev VK:=V->Hp->Prop
noncomputable abbrev TE:=St->Hp->VK->Prop
noncomputable abbrev TT:=St->Hp->(Bool->Hp->Prop)->Prop
noncomputable abbrev TA:=St->Hp->(List V->Hp->Prop)->Prop
structure Ends where
 nx:St->Hp->Prop
 rt:VK
 bk:St->Hp->Prop:=fun _ _=>False
 ct:St->Hp->Prop:=fun _ _=>False
noncomputable abbrev TS:=Ends->St->Hp->Prop
def EP(X:Cx)(pins:List (Addr×Obj))(σ:St)(Q:VK)(u:Value)(s':Shared):Prop:=∃ v H',Inv X pins σ H' s'/\RelV v u/\Q v H'
def TP(X:Cx)(pins:List (Addr×Obj))(σ:St)(Q:Bool->Hp->Prop)(b:Bool)(s':Shared):Prop:=∃ H',Inv X pins σ H' s'/\Q b H'
def AP(X:Cx)(pins:List (Addr×Obj))(σ:St)(Q:List V->Hp->Prop)(us:List Value)(s':Shared):Prop:=∃ vs H',Inv X pins σ H' s'/\Vals vs us/\Q vs H'
def SP(X:Cx)(pins:List (Addr×Obj))(D:Ends)(f:Flow)(s':Shared):Prop:=
 match f with
 | .next=>∃ σ' H',Inv X pins σ' H' s'/\D.nx σ' H'
 | .brk=>∃ σ' H',Inv X pins σ' H' s'/\D.bk σ' H'
 | .cont=>∃ σ' H',Inv X pins σ' H' s'/\D.ct σ' H'
 | .ret u=>∃ v σ' H',Inv X pins σ' H' s'/\RelV v u/\D.rt v H'
def PE(X:Cx)(e:Expr)(t:TE):Prop:=
 ∀ (pins:List (Addr×Obj)) (s:Shared) (σ:St) (H:Hp) (Q:VK),Inv X pins σ H s->t σ H Q->wpAny (model X.prog X.w) X.A (eval e X.env) (EP X pins σ Q) X.xe s
def PT(X:Cx)(e:Expr)(t:TT):Prop:=
 ∀ (pins:List (Addr×Obj)) (s:Shared) (σ:St) (H:Hp) (Q:Bool->Hp->Prop),Inv X pins σ H s->t σ H Q->wpAny (model X.prog X.w) X.A (isTrue e X.env (eval e X.env)) (TP X pins σ Q) X.xe s
def PW(X:Cx)(e:Expr)(t:TT):Prop:=
 ∀ (whole:Sem Value) (pins:List (Addr×Obj)) (s:Shared) (σ:St) (H:Hp) (Q:Bool->Hp->Prop),Inv X pins σ H s->t σ H Q->wpAny (model X.prog X.w) X.A (isTrue e X.env whole) (TP X pins σ Q) X.xe s
theorem PW.pt{X:Cx}{e:Expr}{t:TT}(h:PW X e t):PT X e t:=h _
def PA(X:Cx)(es:List Expr)(t:TA):Prop:=
 ∀ (pos:Pos) (pins:List (Addr×Obj)) (s:Shared) (σ:St) (H:Hp) (Q:List V->Hp->Prop),Inv X pins σ H s->t σ H Q->wpAny (model X.prog X.w) X.A (spliced (backTo pos (starEach es X.env))) (AP X pins σ Q) X.xe s
def PS(X:Cx)(st:Stmt)(t:TS):Prop:=
 ∀ (pins:List (Addr×Obj)) (s:Shared) (σ:St) (H:Hp) (D:Ends),Inv X pins σ H s->t D σ H->wpAny (model X.prog X.w) X.A (exec st X.env) (SP X pins D) X.xe s
def n9(X:Cx)(st:List Stmt)(t:TS):Prop:=
 ∀ (pins:List (Addr×Obj)) (s:Shared) (σ:St) (H:Hp) (D:Ends),Inv X pins σ H s->t D σ H->wpAny (model X.prog X.w) X.A (execs st X.env) (SP X pins D) X.xe s
theorem bw{α:Type}{t:Sem α}{Q Q':α->Shared->Prop}{M:Model}{A:Around}{E:Value->Shared->Prop}{s:Shared}(h:wpAny M A t Q E s)(hQ:∀ a s,Q a s->Q' a s):wpAny M A t Q' E s:=wpAny_mono h hQ fun _ _ x=>x
section
variable {X:Cx}
def fF(i:Nat):TE:=fun σ H Q=>∃ v,σ[i]?=some (some v)/\Q v H
def tC(v:V):TE:=fun _ H Q=>Q v H
theorem zX{i:Nat}{x:Str}{pos:Pos}(hN:X.N[i]?=some x)(hv:Bg X.env.scope x)(hd:(x ==("__debug__":Str))=false:=by decide)(hcd:(x ==("__classdict__":Str))=false:=by decide):PE X (.Name x pos) (fF i):=by
 intro pins s σ H Q I h;obtain⟨v,e,h⟩:=h;obtain⟨m,hn,hl⟩:=I.loc;obtain⟨u,r,l⟩:=hl i x v hN e hv;have fin:EP X pins σ Q u s:=⟨v,H,I,r,h⟩;rcases l with ⟨hk,hm⟩ | ⟨hk,c,hc,hcell⟩
 ·exact wpAny_Name (wpAny_loadName_local I.ok.kind hk hn hm fin) hd
 ·rcases hk with hk | hk
  ·exact wpAny_Name (wpAny_loadName_cell I.ok.kind hk hc hcell fin) hd
  ·exact wpAny_Name (wpAny_loadName_free I.ok.kind hk hc hcell fin hcd) hd
theorem ik{i j pos}:PE X (.Constant (.int i) j pos) (tC (.int i)):=fun _ _ _ H _ I h=>wpAny_Constant_int ⟨.int i,H,I.tok _,⟨_,rfl⟩,h⟩
theorem ze{b j pos}:PE X (.Constant (.bool b) j pos) (tC (.bl b)):=fun _ _ _ H _ I h=>Constant_bool ⟨.bl b,H,I,rfl,h⟩
theorem sF{j pos}:PE X (.Constant .none j pos) (tC .aI):=fun _ _ _ H _ I h=>Constant_none ⟨.aI,H,I,rfl,h⟩
theorem v7{x j pos}:PE X (.Constant (.str x) j pos) (tC (.str x)):=fun _ _ _ H _ I h=>Calls.Constant_str ⟨.str x,H,I.tok _,⟨_,rfl⟩,h⟩
def Gl(X:Cx)(x:Str):Prop:=X.env.kindOf x=some .globalImplicit
theorem kq{E:Value->Shared->Prop}{pins:List (Addr×Obj)}{s:Shared}{σ:St}{H:Hp}{x:Str}{u:Value}{pos:Pos}{Q:Value->Shared->Prop}(I:Inv X pins σ H s)(hg:Gl X x)(hm:X.mg x=some u)(h:Q u s)
  (hd:(x ==("__debug__":Str))=false:=by decide):wpAny (model X.prog X.w) X.A (eval (.Name x pos) X.env) Q E s:=
 Calls.Name_function_global I.ok.kind hg (Calls.loadGlobal_global (by rw[I.ok.glob];exact I.mod.glob.keeps I.bk) hm h) hd
theorem dc{E:Value->Shared->Prop}{pins:List (Addr×Obj)}{s:Shared}{σ:St}{H:Hp}{x:Str}{u:Value}{pos:Pos}{Q:Value->Shared->Prop}(I:Inv X pins σ H s)(hg:Gl X x)(hm:X.mg x=none)(hv:bootBuiltins x=some u)(h:Q u s)
  (hn:x≠"__name__":=by decide) (hd:(x ==("__debug__":Str))=false:=by decide):wpAny (model X.prog X.w) X.A (eval (.Name x pos) X.env) Q E s:=by
 obtain⟨mb,h1,h2⟩:=I.mod.blt;exact Calls.Name_function_global I.ok.kind hg (Calls.loadGlobal_builtin (by rw[I.ok.glob];exact I.mod.glob.keeps I.bk) hm (by rw[I.ok.blt];exact h1.keeps I.bk) ((h2 x hn).trans hv) h) hd
def Gy(ta tb:TE)(k:Int->Int->Hp->Prop):St->Hp->Prop:=fun σ H=>ta σ H fun x H1=>tb σ H1 fun y H2=>∃ i j,x=.int i/\y=.int j/\k i j H2
variable {a b:Expr} {ta tb:TE} {pos:Pos}
def C6(p:Int->Int->Bool)(ta tb:TE):TE:=fun σ H Q=>Gy ta tb (fun i j H2=>Q (.bl (p i j)) H2) σ H
noncomputable abbrev Dr:TE->TE->TE:=C6 fun i j=>decide (i=j)
noncomputable abbrev Cu:TE->TE->TE:=C6 fun i j=>!decide (i=j)
def qF(ta:TE):TE:=fun σ H Q=>ta σ H fun x H1=>Q (.bl (decide (x=.aI))) H1
variable {tA tB':TT} {rest:List Expr}
def kX(t u:TT):TT:=fun σ H Q=>t σ H fun c H1=>if c=true then u σ H1 Q else Q false H1
def BP(t u:TT):TT:=fun σ H Q=>t σ H fun c H1=>if c=true then Q true H1 else u σ H1 Q
def wc(t:TT):TT:=fun σ H Q=>t σ H fun c H1=>Q (!c) H1
theorem xa(ha:PT X a tA):PW X (.BoolOp .And [a] pos) tA:=by
 intro wh pins s σ H Q I h;refine isTrue_and (bw (ha pins s σ H Q I h) fun c s1 e=>?_)
 cases c with
 | true=>exact isTrue_and_nil e
 | false=>exact e
theorem zD(ha:PT X a tA):PW X (.BoolOp .Or [a] pos) tA:=by
 intro wh pins s σ H Q I h;refine isTrue_or (bw (ha pins s σ H Q I h) fun c s1 e=>?_)
 cases c with
 | false=>exact isTrue_or_nil e
 | true=>exact e
theorem AF(ha:PT X a tA)(hb:PW X (.BoolOp .And (b::rest) pos) tB'):PW X (.BoolOp .And (a::b::rest) pos) (kX tA tB'):=by
 intro wh pins s σ H Q I h;refine isTrue_and (bw (ha pins s σ H _ I h) fun c s1 ⟨H1,I1,q1⟩=>?_)
 cases c with
 | true=>exact hb wh pins s1 σ H1 Q I1 q1
 | false=>exact⟨H1,I1,q1⟩
theorem C8(ha:PT X a tA)(hb:PW X (.BoolOp .Or (b::rest) pos) tB'):PW X (.BoolOp .Or (a::b::rest) pos) (BP tA tB'):=by
 intro wh pins s σ H Q I h;refine isTrue_or (bw (ha pins s σ H _ I h) fun c s1 ⟨H1,I1,q1⟩=>?_)
 cases c with
 | true=>exact⟨H1,I1,q1⟩
 | false=>exact hb wh pins s1 σ H1 Q I1 q1
theorem Bk(ha:PT X a tA):PT X (.UnaryOp .Not a pos) (wc tA):=by
 intro pins s σ H Q I h;exact isTrue_not (ha pins s σ H (fun c H1=>Q (!c) H1) I h)
def yK(ta tb:TE):TE:=fun σ H Q=>ta σ H fun x H1=>∃ c,x=.bl c/\if c=true then tb σ H1 Q else Q (.bl false) H1
theorem Be{op}{t:TE}(h:PE X a t):PE X (.BoolOp op [a] pos) t:=fun pins s σ H Q I hw=>BoolOp_one (h pins s σ H Q I hw)
theorem AM(ha:PE X a ta)(hb:PE X (.BoolOp .And (b::rest) pos) tb):PE X (.BoolOp .And (a::b::rest) pos) (yK ta tb):=by
 intro pins s σ H Q I h;refine BoolOp_and (bw (ha pins s σ H _ I h) fun v s1 ⟨x,H1,I1,r1,q1⟩=>?_);obtain⟨c,rfl,q1⟩:=q1;cases r1;refine wpAny_truthy_bool ?_
 cases c with
 | true=>exact hb pins s1 σ H1 Q I1 q1
 | false=>exact⟨.bl false,H1,I1,rfl,q1⟩
def Ej(t:TT)(ta tb:TE):TE:=fun σ H Q=>t σ H fun c H1=>if c=true then ta σ H1 Q else tb σ H1 Q
theorem sU{c:Expr}(hc:PT X c tA)(ha:PE X a ta)(hb:PE X b tb):PE X (.IfExp c a b pos) (Ej tA ta tb):=by
 intro pins s σ H Q I h;refine wpAny_IfExp (bw (hc pins s σ H _ I h) fun d s1 ⟨H1,I1,q1⟩=>?_)
 cases d with
 | true=>exact ha pins s1 σ H1 Q I1 q1
 | false=>exact hb pins s1 σ H1 Q I1 q1
end
def bK(K:PySem.W.Frag)(H:Hp)(a:Addr)(xs:List V):Prop:=
 Rd H a (.lst xs) \/
  ∃ (o:Obj) (its:Array Value) (n:Nat),K.lookup a=some o/\o.cls=.type "list"/\o.dict=none/\o.data=.seq its n/\its.size<=sizeLine/\Vals xs its.toList
def bu(K:PySem.W.Frag)(H:Hp)(a:Addr)(xs:List V):Prop:=
 Rd H a (.tup xs) \/
  ∃ (o:Obj) (its:Array Value) (n:Nat),K.lookup a=some o/\o.cls=.type "tuple"/\o.data=.seq its n/\its.size<=sizeLine/\Vals xs its.toList
def Fb:Value->Option V
 | .none=>some .aI
 | .bool b=>some (.bl b)
 | .int i _=>some (.int i)
 | .str x _=>some (.str x)
 | .bytes b _=>some (.nV b)
 | .float b _=>some (.EJ b)
 | .ref a=>some (.ref a)
 | .type n=>some (.ty n)
 | _=>none
theorem RelV.abs{x:V}{u:Value}(r:RelV x u):Fb u=some x:=by
 cases x with
 | aI=>cases r;rfl
 | bl _=>cases r;rfl
 | int _=>obtain⟨t,rfl⟩:=r;rfl
 | str _=>obtain⟨t,rfl⟩:=r;rfl
 | nV _=>obtain⟨t,rfl⟩:=r;rfl
 | EJ _=>obtain⟨t,rfl⟩:=r;rfl
 | ref _=>cases r;rfl
 | ty _=>cases r;rfl
theorem RelV.inj{x y:V}{u:Value}(r:RelV x u)(q:RelV y u):x=y:=Option.some.inj (r.abs.symm.trans q.abs)
theorem Vals.inj:∀ {xs ys:List V} {us:List Value},Vals xs us->Vals ys us->xs=ys
 | _,_,_,.nil,.nil=>rfl
 | _,_,_,.cons r t,.cons r' t'=>by rw[r.inj r',Vals.inj t t']
section
variable {X:Cx} {pins:List (Addr×Obj)} {σ:St} {H:Hp} {s:Shared} {a:Addr} {xs ys:List V}
theorem bK.of{K:PySem.W.Frag}(h:H a=some (.lst xs)):bK K H a xs:=.inl (.inl h)
theorem bu.of{K:PySem.W.Frag}(h:H a=some (.tup xs)):bu K H a xs:=.inl (.inl h)
theorem Inv.list(I:Inv X pins σ H s)(h:bK X.K H a xs):∃ its:List Value,Vals xs its/\PlainL s.heap a its.toArray/\xs.length<=sizeLine:=by
 rcases h with h | ⟨o,its,n,hk,hc,hd,hs,hz,r⟩
 ·obtain⟨z,its,n,r,e⟩:=h.ok I.aE;exact⟨its,r,⟨_,n,e,rfl,rfl,rfl⟩,z⟩
 ·refine⟨its.toList,r,⟨o,n,I.pV a o hk,hc,hd,by simpa using hs⟩,?_⟩
  have e:=r.length;simp only[Array.length_toList] at e;lia
theorem Inv.tuple(I:Inv X pins σ H s)(h:bu X.K H a xs):∃ its:List Value,Vals xs its/\IsTup s.heap a its.toArray/\xs.length<=sizeLine:=by
 rcases h with h | ⟨o,its,n,hk,hc,hs,hz,r⟩
 ·obtain⟨z,its,r,p⟩:=h.ok I.aE;exact⟨its,r,p.to,z⟩
 ·refine⟨its.toList,r,⟨o,I.pV a o hk,hc,n,by simpa using hs⟩,?_⟩
  have e:=r.length;simp only[Array.length_toList] at e;lia
theorem Inv.kZ(I:Inv X pins σ H s)(h:bK X.K H a xs)(h':bK X.K H a ys):xs=ys:=by
 obtain⟨its,r,⟨o,n,e,_,_,d⟩,_⟩:=I.list h;obtain⟨its',r',⟨o',n',e',_,_,d'⟩,_⟩:=I.list h';rw[e] at e';cases e';rw[d] at d'
 injection d' with d1 _
 have:its=its':=by simpa using congrArg Array.toList d1
 subst this;exact r.inj r'
theorem Inv.e7(I:Inv X pins σ H s)(h:bu X.K H a xs)(h':bu X.K H a ys):xs=ys:=by
 obtain⟨its,r,⟨o,e,_,n,d⟩,_⟩:=I.tuple h;obtain⟨its',r',⟨o',e',_,n',d'⟩,_⟩:=I.tuple h';rw[e] at e';cases e';rw[d] at d'
 injection d' with d1 _
 have:its=its':=by simpa using congrArg Array.toList d1
 subst this;exact r.inj r'
end
noncomputable abbrev Cx.iS (X:Cx) (E:Value->Shared->Prop):Cx:={ X with xe:=E }
noncomputable abbrev Cx.w8 (X:Cx):Cx:=X.iS fun _ _=>False
theorem Cx.Ok.iS{X:Cx}(ok:X.Ok)(E:Value->Shared->Prop):(X.iS E).Ok:=
 ⟨ok.mod,ok.kind,ok.glob,ok.blt,ok.above,ok.inj,ok.has,ok.Eh,ok.hd,ok.frames,ok.E9,ok.Gj,ok.bs,ok.x_,ok.vv,ok.w6,ok.iN,ok.BV,ok.tabs⟩
theorem Cx.Ok.dS{X:Cx}{E:Value->Shared->Prop}(ok:(X.iS E).Ok):X.Ok:=
 ⟨ok.mod,ok.kind,ok.glob,ok.blt,ok.above,ok.inj,ok.has,ok.Eh,ok.hd,ok.frames,ok.E9,ok.Gj,ok.bs,ok.x_,ok.vv,ok.w6,ok.iN,ok.BV,ok.tabs⟩
section
variable {X:Cx} {pins:List (Addr×Obj)} {σ:St} {H:Hp} {s:Shared} {E:Value->Shared->Prop}
theorem Inv.iS(I:Inv X pins σ H s)(E:Value->Shared->Prop):Inv (X.iS E) pins σ H s:=⟨I.ok.iS E,I.os,I.bare,I.base,I.loc,I.cell,I.free,I.cC,I.pin,I.aE,I.len⟩
theorem Inv.dS(I:Inv (X.iS E) pins σ H s):Inv X pins σ H s:=⟨I.ok.dS,I.os,I.bare,I.base,I.loc,I.cell,I.free,I.cC,I.pin,I.aE,I.len⟩
theorem SP.dS{D:Ends}{f:Flow}{s':Shared}(h:SP (X.iS E) pins D f s'):SP X pins D f s':=by
 cases f with
 | next=>obtain⟨σ',H',I,q⟩:=h;exact⟨σ',H',I.dS,q⟩
 | brk=>obtain⟨σ',H',I,q⟩:=h;exact⟨σ',H',I.dS,q⟩
 | cont=>obtain⟨σ',H',I,q⟩:=h;exact⟨σ',H',I.dS,q⟩
 | ret u=>obtain⟨v,σ',H',I,r,q⟩:=h;exact⟨v,σ',H',I.dS,r,q⟩
theorem n9.w8{st:List Stmt}{t:TS}(h:n9 X.w8 st t):n9 X st t:=fun pins s σ H D I hw =>
 wpAny_mono (h pins s σ H D (I.iS _) hw) (fun _ _ q=>q.dS) fun _ _ z=>False.elim z
end
section
variable {X:Cx} {st:Stmt} {rest:List Stmt} {t u:TS} {e:Expr} {te:TE} {pos:Pos}
def lr:TS:=fun D σ H=>D.nx σ H
def qK(t u:TS):TS:=fun D σ H=>t { D with nx:=u D } σ H
theorem xg:n9 X [] lr:=fun _ _ σ H _ I h=>wpAny_execs_nil ⟨σ,H,I,h⟩
theorem u3(h1:PS X st t)(h2:n9 X rest u):n9 X (st::rest) (qK t u):=by
 intro pins s σ H D I h;refine wpAny_execs_cons (bw (h1 pins s σ H { D with nx:=u D } I h) fun f s1 q=>?_)
 cases f with
 | next =>
  obtain⟨σ',H',I',q⟩:=q;exact h2 pins s1 σ' H' D I' q
 | ret v=>exact q
 | brk=>exact q
 | cont=>exact q
theorem xl(h1:PS X st t):n9 X [st] t:=by
 intro pins s σ H D I h;refine wpAny_execs_cons (bw (h1 pins s σ H D I h) fun f s1 q=>?_)
 cases f with
 | next=>exact wpAny_execs_nil q
 | ret v=>exact q
 | brk=>exact q
 | cont=>exact q
theorem Inv.quiet{pins:List (Addr×Obj)}{σ:St}{H:Hp}{s:Shared}(I:Inv X pins σ H s):interactive X.env=false:=by simp[interactive,I.ok.kind]
def zw(te:TE):TS:=fun D σ H=>te σ H fun _ H1=>D.nx σ H1
theorem xM(he:PE X e te)(hs:swapsWith e none pos.line X.env=pure false:=by rfl):PS X (.Expr e pos) (zw te):=by
 intro pins s σ H D I h;exact wpAny_Expr_any (bw (he pins s σ H _ I h) fun v s1 ⟨x,H1,I1,r1,q1⟩=>⟨σ,H1,I1,q1⟩) I.quiet hs
def uk(te:TE):TS:=fun D σ H=>te σ H D.rt
theorem Bo(he:PE X e te):PS X (.Return (some e) pos) (uk te):=by
 intro pins s σ H D I h;exact wpAny_Return_some (bw (he pins s σ H _ I h) fun v s1 ⟨x,H1,I1,r1,q1⟩=>⟨x,σ,H1,I1,r1,q1⟩)
def va(c:TT)(t u:TS):TS:=fun D σ H=>c σ H fun b H1=>if b=true then t D σ H1 else u D σ H1
theorem DG{c:Expr}{a b:List Stmt}{tc:TT}(hc:PT X c tc)(ha:n9 X a t)(hb:n9 X b u):PS X (.If c a b pos) (va tc t u):=by
 intro pins s σ H D I h;refine wpAny_If (bw (hc pins s σ H _ I h) fun d s1 ⟨H1,I1,q1⟩=>?_)
 cases d with
 | true=>exact ha pins s1 σ H1 D I1 q1
 | false=>exact hb pins s1 σ H1 D I1 q1
end
noncomputable abbrev TG:=V->St->Hp->(St->Hp->Prop)->Prop
noncomputable abbrev n6:=List V->St->Hp->(St->Hp->Prop)->Prop
def PG(X:Cx)(target:Expr)(t:TG):Prop:=
 ∀ (pins:List (Addr×Obj)) (s:Shared) (σ:St) (H:Hp) (v:V) (u:Value) (Q:St->Hp->Prop),Inv X pins σ H s->RelV v u->t v σ H Q ->
  wpAny (model X.prog X.w) X.A (assign target X.env u) (fun _ s'=>∃ σ' H',Inv X pins σ' H' s'/\Q σ' H') X.xe s
def Ce(X:Cx)(ts:List Expr)(t:n6):Prop:=
 ∀ (pins:List (Addr×Obj)) (s:Shared) (σ:St) (H:Hp) (vs:List V) (us:List Value) (Q:St->Hp->Prop),Inv X pins σ H s->Vals vs us->t vs σ H Q ->
  wpAny (model X.prog X.w) X.A (assignInOrder ((assignEach ts X.env).map (·.2)) us) (fun _ s'=>∃ σ' H',Inv X pins σ' H' s'/\Q σ' H') X.xe s
noncomputable abbrev B9:=V->V->V->Hp->(Hp->Prop)->Prop
def A4(X:Cx)(t:B9):Prop:=
 ∀ (pins:List (Addr×Obj)) (s:Shared) (σ:St) (H:Hp) (o i v:V) (ov iv u:Value) (Q:Hp->Prop),Inv X pins σ H s->RelV o ov->RelV i iv->RelV v u->t o i v H Q ->
  wpAny (model X.prog X.w) X.A (setItem ov iv u) (fun _ s'=>∃ H',Inv X pins σ H' s'/\Q H') X.xe s
section
variable {X:Cx} {pos:Pos}
def bO(i:Nat):TG:=fun v σ H Q=>Q (σ.set i (some v)) H
theorem x9{i:Nat}{x:Str}(hN:X.N.Nodup)(hi:X.N[i]?=some x)(hx:Loc X.env.scope x)(hf:X.fn x=true\/X.env.scope.names.lookup x=some .local:=by first | exact .inl rfl | exact .inr rfl | assumption):PG X (.Name x pos) (bO i):=by
 intro pins s σ H v u Q I r h;exact wpAny_assign_Name (lI I hN hi hx r (fun s' I'=>⟨_,H,I',h⟩) hf)
def m8:n6:=fun vs σ H Q=>vs=[]/\Q σ H
def dR(t:TG)(u:n6):n6:=fun vs σ H Q=>∃ v r,vs=v::r/\t v σ H fun σ' H'=>u r σ' H' Q
theorem xU:Ce X [] m8:=by
 intro pins s σ H vs us Q I r h;obtain⟨e,h⟩:=h;subst e;cases r;exact assignInOrder_nil ⟨σ,H,I,h⟩
theorem tN{e:Expr}{es:List Expr}{t:TG}{u:n6}(h1:PG X e t)(h2:Ce X es u)
  (hs:(assignEach (e::es) X.env).map (·.2)=assign e X.env::(assignEach es X.env).map (·.2):=by rfl):Ce X (e::es) (dR t u):=by
 intro pins s σ H vs us Q I r h;obtain⟨v,vr,e1,h⟩:=h;subst e1
 cases r with
 | cons r rr =>
  rw[hs];refine assignInOrder_cons (bw (h1 pins s σ H _ _ _ I r h) fun _ s1 ⟨σ1,H1,I1,q1⟩=>?_);exact h2 pins s1 σ1 H1 _ _ Q I1 rr q1
def mS(K:PySem.W.Frag)(n:Nat)(t:n6):TG:=fun v σ H Q=>∃ a xs,v=.ref a/\bu K H a xs/\xs.length=n/\t xs σ H Q
theorem wk{es:List Expr}{k:Nat}{t:n6}{n:Nat}(hc:X.calm=true)(h:Ce X es t)
  (hn:(assignEach es X.env).length=n:=by rfl) (hst:(assignEach es X.env).findIdx? (·.1)=none:=by rfl):PG X (.Tuple es k pos) (mS X.K n t):=by
 intro pins s σ H v u Q I r hw;obtain⟨a,xs,e1,hq,hl,hw⟩:=hw;subst e1;cases r;obtain⟨its,rv,ht,hz⟩:=I.tuple hq;refine assign_Tuple_tuple (I.ok.hd hc) ht (by simp[hn,<- hl,rv.length]) hst fun h' hx=>?_
 have I1:Inv X pins σ H { s with heap:=h' }:=I.kept (t':=s.toks) fun b o e=>hx b o (Nat.ne_of_lt (Heap.lt_size e)) e
 exact h pins _ σ H xs _ Q I1 (by simpa using rv) hw
def DW(to ti:TE)(t:B9):TG:=fun v σ H Q=>to σ H fun o H1=>ti σ H1 fun i H2=>t o i v H2 fun H3=>Q σ H3
theorem AX{o i:Expr}{to ti:TE}{t:B9}(ho:PE X o to)(hi:PE X i ti)(hs:A4 X t)
  (ha:∀ v,assign (.Subscript o i pos) X.env v=(do
   let ov <- holding [v] (eval o X.env)
   let iv <- holding [v,ov] (eval i X.env)
   standAt pos
   holding [v,ov,iv] (setItem ov iv v)
   release [v,ov,iv] []):=by intro _;rfl):PG X (.Subscript o i pos) (DW to ti t):=by
 intro pins s σ H v u Q I r h;rw[ha];refine wpAny_bind (wpAny_holding (bw (ho pins s σ H _ I h) fun ov s1 ⟨x,H1,I1,r1,q1⟩=>?_));refine wpAny_bind (wpAny_holding (bw (hi pins s1 σ H1 _ I1 q1) fun iv s2 ⟨y,H2,I2,r2,q2⟩=>?_));refine wpAny_bind (wpAny_standAt (wpAny_bind (wpAny_holding (bw (hs pins s2 σ H2 x y v ov iv u _ I2 r1 r2 r q2) fun _ s3 ⟨H3,I3,q3⟩=>?_))));exact wpAny_release ⟨σ,H3,I3,q3⟩
def h_(te:TE)(g:TG):TS:=fun D σ H=>te σ H fun x H1=>g x σ H1 D.nx
theorem Bf{tg e:Expr}{te:TE}{g:TG}(he:PE X e te)(hg:PG X tg g)(hs:swapsWithSole [tg] e pos.line X.env=pure false:=by rfl)(hw:swappedStores [tg] e X.env=pure none:=by rfl)
  (h1:(assignEach [tg] X.env).map (·.2)=[assign tg X.env]:=by rfl):PS X (.Assign [tg] e pos) (h_ te g):=by
 intro pins s σ H D I h;refine wpAny_Assign_stores (bw (he pins s σ H _ I h) fun v s1 ⟨x,H1,I1,r1,q1⟩=>?_) hs hw;rw[h1];exact bw (hg pins s1 σ H1 x v _ I1 r1 q1) fun _ s2 q=>q
theorem zH{i:Nat}{x:Str}{e:Expr}{te:TE}{pos':Pos}(hN:X.N.Nodup)(hi:X.N[i]?=some x)(hx:Loc X.env.scope x)(he:PE X e te)(hs:swapsWith e (some (.Name x pos')) pos.line X.env=pure false:=by rfl)(hf:X.fn x=true\/X.env.scope.names.lookup x=some .local:=by first | exact .inl rfl | exact .inr rfl | assumption):
  PS X (.Assign [.Name x pos'] e pos) (h_ te (bO i)):=by
 intro pins s σ H D I h;refine wpAny_Assign_Name (bw (he pins s σ H _ I h) fun v s1 ⟨y,H1,I1,r1,q1⟩=>?_) hs;exact lI I1 hN hi hx r1 (fun s2 I2=>⟨_,H1,I2,q1⟩) hf
end
section
variable {X:Cx} {pos:Pos}
def uy(c:TT)(tb:TS):TS:=fun D σ H=>∃ W:Nat->St->Hp->Prop,(∃ m,W m σ H)/\∀ m σ H,W m σ H ->
 c σ H fun b H1=>if b=true then ∃ N:St->Hp->Prop,(∀ σ' H',N σ' H'->∃ m',m' < m/\W m' σ' H')/\tb { D with nx:=N,ct:=N,bk:=D.nx } σ H1 else D.nx σ H1
theorem uM{c:Expr}{body:List Stmt}{tc:TT}{tb:TS}(hp:PassesOwn (model X.prog X.w) X.A X.env X.xe)(hc:PT X c tc)(hb:n9 X body tb):PS X (.While c body [] pos) (uy tc tb):=by
 intro pins s σ H D I h;obtain⟨W,⟨m0,w0⟩,turn⟩:=h;refine wpAny_While (codeAny_whileLoop (fun n s'=>∃ σ' H',Inv X pins σ' H' s'/\W n σ' H') ?_ m0 ⟨σ,H,I,w0⟩);rintro n s1 ⟨σ1,H1,I1,w1⟩;refine wpAny_passesOwn hp (bw (hc pins s1 σ1 H1 _ I1 (turn n σ1 H1 w1)) fun b s2 ⟨H2,I2,q2⟩=>?_)
 cases b with
 | true =>
  obtain⟨N,hN,q2⟩:=q2;rw[if_pos rfl];refine wpAny_passesOwn hp (bw (hb pins s2 σ1 H2 _ I2 q2) fun f s3 q3=>?_)
  cases f with
  | next =>
   obtain⟨σ3,H3,I3,n3⟩:=q3;obtain⟨m',hm,w3⟩:=hN σ3 H3 n3;exact⟨m',hm,σ3,H3,I3,w3⟩
  | cont =>
   obtain⟨σ3,H3,I3,n3⟩:=q3;obtain⟨m',hm,w3⟩:=hN σ3 H3 n3;exact⟨m',hm,σ3,H3,I3,w3⟩
  | brk=>exact q3
  | ret v=>exact q3
 | false =>
  rw[if_neg Bool.false_ne_true];exact wpAny_execs_nil ⟨σ1,H2,I2,q2⟩
end
structure It where
 go:Nat->Hp->Prop
 zt:Nat->Hp->V->Hp->Prop
 stop:Nat->Hp->Prop
def gY(X:Cx)(pins:List (Addr×Obj))(H:Hp)(b:Addr):Prop:=
 H b=none/\b≠X.env.locals/\b∉X.fs/\(b∈X.ex\/X.s₀.heap.objs.size<=b)/\(∀ x c,X.env.cells.lookup x=some c->c≠b)/\∀ p∈X.pn++pins,p.1≠b
theorem Inv.lV{X:Cx}{pins:List (Addr×Obj)}{σ:St}{H H':Hp}{s:Shared}{b:Addr}(I:Inv X pins σ H s)(hb:s.heap.objs.size<=b)(hn:H' b=none):gY X pins H' b:=by
 refine⟨hn,Nat.ne_of_gt (Nat.lt_of_lt_of_le I.lt hb),I.Dc hb,.inr (Nat.le_trans I.sz hb),fun x c e z=>?_,fun p hp z=>?_⟩
 ·obtain⟨v,q⟩:=I.cell x c e;exact absurd (Nat.lt_of_lt_of_le q.lt (by rw[z];exact hb)) (Nat.lt_irrefl _)
 ·exact absurd (Nat.lt_of_lt_of_le (Heap.lt_size (I.pin p hp).1) (by rw[z];exact hb)) (Nat.lt_irrefl _)
structure Turn (P:Program) (w:World) (K:PySem.W.Frag) (tg:Expr) (J:It) (fp:List Addr) (it:Addr) (tn:Nat->Heap->Prop):Prop where
 mem:it∈fp
 obj:∀ i h,tn i h->∀ b∈fp,∃ o,h.get? b=some o/\∀ v,o.data≠.cell v
 keep:∀ i h h',tn i h->(∀ b∈fp,∀ o,h.get? b=some o->h'.get? b=some o)->tn i h'
 item:∀ (X:Cx),X.prog=P->X.w=w->X.K=K->X.calm=true->∀ (i:Nat) (pins:List (Addr×Obj)) (s:Shared) (σ:St) (H:Hp) (E:Value->Shared->Prop),Inv X pins σ H s->(∀ b∈fp,gY X pins H b)->tn i s.heap->J.go i H ->
  wpAny (model P w) X.A (pyNext (.ref it)) (fun r s1=>∃ u,r=some u /\
   wpAny (model P w) X.A (letOwnedTupleGo tg (.ref it) u) (fun _ s2=>∃ x H',Inv X pins σ H' s2/\RelV x u/\J.zt i H x H'/\tn (i+1) s2.heap/\∀ b∈fp,H' b=none) E s1) E s
 done:∀ (X:Cx),X.prog=P->X.w=w->X.K=K->X.calm=true->∀ (i:Nat) (pins:List (Addr×Obj)) (s:Shared) (σ:St) (H:Hp) (E:Value->Shared->Prop),Inv X pins σ H s->(∀ b∈fp,gY X pins H b)->tn i s.heap->J.stop i H ->
  wpAny (model P w) X.A (pyNext (.ref it)) (fun r s1=>r=none/\Inv X pins σ H s1) E s
 self:∀ (A:Around) (i:Nat) (s:Shared) (Q:Value->Shared->Prop) (E:Value->Shared->Prop),tn i s.heap->Q (.ref it) s->wpAny (model P w) A (pyIter (.ref it)) Q E s
noncomputable abbrev TI:=St->Hp->(It->Hp->Prop)->Prop
def Gi(X:Cx)(pins:List (Addr×Obj))(σ:St)(tg:Expr)(R:It->Hp->Prop)(itv:Value)(s2:Shared):Prop:=
 ∃ (it:Addr) (fp:List Addr) (tn:Nat->Heap->Prop) (J:It) (H':Hp),itv=.ref it/\Inv X pins σ H' s2/\Turn X.prog X.w X.K tg J fp it tn/\tn 0 s2.heap/\(∀ b∈fp,gY X pins H' b)/\R J H'
def PI(X:Cx)(tg iter:Expr)(wi:TI):Prop:=
 ∀ (pins:List (Addr×Obj)) (s:Shared) (σ:St) (H:Hp) (R:It->Hp->Prop),Inv X pins σ H s->wi σ H R ->
  wpAny (model X.prog X.w) X.A (eval iter X.env) (fun v s1=>wpAny (model X.prog X.w) X.A (pyIter v) (Gi X pins σ tg R) X.xe s1) X.xe s
theorem pB{M:Model}{A:Around}{E:Value->Shared->Prop}{s:Shared}{tg:Expr}{it:Addr}{u:Value}{o:Obj}{n:String}{vs:Array Value}{Q:Unit->Shared->Prop}(ho:s.heap.get? it=some o)(hc:o.cls=.type n)(hd:o.data=.fields vs)
    (hn:["enumerate","zip","dict_itemiterator","dict_reverseitemiterator","odict_iterator","itertools.zip_longest","itertools.pairwise"].contains n=false) (hQ:Q () s):wpAny M A (letOwnedTupleGo tg (.ref it) u) Q E s:=by
  unfold letOwnedTupleGo
  cases tg<;>first
    | exact wpAny_pure hQ
    | (cases u<;>first
        | exact wpAny_pure hQ
        | (refine wpAny_bind (wpAny_load ho ?_)
           rw[hc,hd];show wpAny M A (if (["enumerate","zip","dict_itemiterator","dict_reverseitemiterator","odict_iterator","itertools.zip_longest","itertools.pairwise"].contains n && vs[0]? == some (rawInt _))=true then _ else _) Q E s
           rw[if_neg (by intro h;rw[hn,Bool.false_and] at h;cases h)]
           exact wpAny_pure hQ))
def Cs(K:PySem.W.Frag)(a:Addr):It:=
 ⟨fun i H=>∃ xs x,bK K H a xs/\xs[i]?=some x,fun i H x H'=>H'=H/\∀ xs,bK K H a xs->xs[i]?=some x,fun i H=>∃ xs,bK K H a xs/\xs.length<=i⟩
def Dt(K:PySem.W.Frag)(a:Addr):It:=
 ⟨fun i H=>∃ xs x,bu K H a xs/\xs[i]?=some x,fun i H x H'=>H'=H/\∀ xs,bu K H a xs->xs[i]?=some x,fun i H=>∃ xs,bu K H a xs/\xs.length<=i⟩
def BO(lo:Int)(n:Nat):It:=⟨fun i _=>i < n,fun i H x H'=>H'=H/\x=.int (lo+i),fun i _=>n<=i⟩
theorem rd{P:Program}{w:World}{K:PySem.W.Frag}{tg:Expr}(a it:Addr):Turn P w K tg (Cs K a) [it] it (fun i h=>h.IsListIter it a i) where
 mem:=by simp
 obj:=fun i h st b hb=>by
  have e:b=it:=by simpa using hb
  subst e;obtain⟨o,e,c,d⟩:=st;exact⟨o,e,fun v z=>by rw[d] at z;cases z⟩
 keep:=fun i h h' st k=>st.at fun o e=>k it (by simp) o e
 item:=by
  intro X hP hw hK hc i pins s σ H E I hf st hg;subst hP hw hK;obtain⟨xs,x,hq,hx⟩:=hg;obtain⟨its,rv,p,hz⟩:=I.list hq;obtain⟨u,hu,ru⟩:=rv.get hx;obtain⟨f0,f1,f2,f3,f4,f5⟩:=hf it (by simp)
  refine wpAny_pyNext_list_item st p.isList (x:=u) (by simpa using hu) fun h' st' sb=>?_
  have I1:Inv X pins σ H { s with heap:=h' }:=I.turned (t':=s.toks) (fun b o hb e=>(sb.2 b hb).trans e) f0 f1 f3 f4 f5
  obtain⟨o,e,c,d⟩:=id st';exact⟨u,rfl,pB (s:={ s with heap:=h' }) e c d (by decide) ⟨x,H,I1,ru,⟨rfl,fun ys hy=>by rw[I.kZ hy hq];exact hx⟩,st',fun b hb=>(hf b hb).1⟩⟩
 done:=by
  intro X hP hw hK hc i pins s σ H E I hf st hg;subst hP hw hK;obtain⟨xs,hq,hx⟩:=hg;obtain⟨its,rv,p,hz⟩:=I.list hq;obtain⟨f0,f1,f2,f3,f4,f5⟩:=hf it (by simp)
  have hl:=rv.length;exact wpAny_pyNext_list_end (I.ok.hd hc) st p.isList (by simp;lia) fun h' eb=>⟨rfl,I.turned (t':=s.toks) (fun b o hb e=>eb b o hb e) f0 f1 f3 f4 f5⟩
 self:=fun _ _ _ _ _ st h=>wpAny_pyIter_listiter st h
theorem oG{P:Program}{w:World}{K:PySem.W.Frag}{tg:Expr}(a it:Addr):Turn P w K tg (Dt K a) [it] it (fun i h=>h.IsTupleIter it a i) where
 mem:=by simp
 obj:=fun i h st b hb=>by
  have e:b=it:=by simpa using hb
  subst e;obtain⟨o,e,c,d⟩:=st;exact⟨o,e,fun v z=>by rw[d] at z;cases z⟩
 keep:=fun i h h' st k=>st.at fun o e=>k it (by simp) o e
 item:=by
  intro X hP hw hK hc i pins s σ H E I hf st hg;subst hP hw hK;obtain⟨xs,x,hq,hx⟩:=hg;obtain⟨its,rv,p,hz⟩:=I.tuple hq;obtain⟨u,hu,ru⟩:=rv.get hx;obtain⟨f0,f1,f2,f3,f4,f5⟩:=hf it (by simp)
  refine wpAny_pyNext_tuple_item st (show s.heap.IsTuple a its.toArray from p) (x:=u) (by simpa using hu) fun h' st' sb=>?_
  have I1:Inv X pins σ H { s with heap:=h' }:=I.turned (t':=s.toks) (fun b o hb e=>(sb.2 b hb).trans e) f0 f1 f3 f4 f5
  obtain⟨o,e,c,d⟩:=id st';exact⟨u,rfl,pB (s:={ s with heap:=h' }) e c d (by decide) ⟨x,H,I1,ru,⟨rfl,fun ys hy=>by rw[I.e7 hy hq];exact hx⟩,st',fun b hb=>(hf b hb).1⟩⟩
 done:=by
  intro X hP hw hK hc i pins s σ H E I hf st hg;subst hP hw hK;obtain⟨xs,hq,hx⟩:=hg;obtain⟨its,rv,p,hz⟩:=I.tuple hq;obtain⟨f0,f1,f2,f3,f4,f5⟩:=hf it (by simp)
  have hl:=rv.length;exact wpAny_pyNext_tuple_end (I.ok.hd hc) st (show s.heap.IsTuple a its.toArray from p) (by simp;lia) fun h' eb=>⟨rfl,I.turned (t':=s.toks) (fun b o hb e=>eb b o hb e) f0 f1 f3 f4 f5⟩
 self:=fun _ _ _ _ _ st h=>wpAny_pyIter_tupleiter st h
theorem nF{P:Program}{w:World}{K:PySem.W.Frag}{tg:Expr}(it:Addr)(lo:Int)(n:Nat):Turn P w K tg (BO lo n) [it] it (fun i h=>IsRangeIter h it (lo+(i:Nat)*1) ((n:Int) - (i:Nat)) 1) where
 mem:=by simp
 obj:=fun i h st b hb=>by
  have e:b=it:=by simpa using hb
  subst e;exact⟨_,st,fun v z=>by
   have z':Data.fields _=Data.cell v:=z
   cases z'⟩
 keep:=fun i h h' st k=>k it (by simp) _ st
 item:=by
  intro X hP hw hK hc i pins s σ H E I hf st hg;subst hP hw hK;obtain⟨f0,f1,f2,f3,f4,f5⟩:=hf it (by simp)
  have W:=Walks.range (prog:=X.prog) (w:=X.w) (I.ok.hd hc) it lo 1 n;refine W.item i s _ _ hg st fun v h' tk hv st' kk=>?_;obtain⟨t,rfl⟩:=hv;have I1:Inv X pins σ H { s with heap:=h',toks:=tk }:=I.turned (fun b o hb e=>kk b o (by simpa using hb) e) f0 f1 f3 f4 f5
  refine⟨_,rfl,pB (s:={ s with heap:=h',toks:=tk }) (n:="range_iterator") st' rfl rfl (by decide) ⟨.int (lo+i),H,I1,⟨t,?_⟩,⟨rfl,rfl⟩,st',fun b hb=>(hf b hb).1⟩⟩
  rw[Int.mul_one]
 done:=by
  intro X hP hw hK hc i pins s σ H E I hf st hg;subst hP hw hK;obtain⟨f0,f1,f2,f3,f4,f5⟩:=hf it (by simp)
  exact wpAny_pyNext_range_end (I.ok.hd hc) st (by have:n<=i:=hg;lia) fun h' eb=>⟨rfl,I.turned (t':=s.toks) (fun b o hb e=>eb b o hb e) f0 f1 f3 f4 f5⟩
 self:=fun _ _ _ _ _ st h=>wpAny_pyIter_rangeiter st h
section
variable {X:Cx} {tg:Expr}
theorem m4{pins:List (Addr×Obj)}{σ:St}{H:Hp}{s:Shared}{R:It->Hp->Prop}{E:Value->Shared->Prop}{lo hi:Int}{t u v:Tok}{tk:Nat}(I:Inv X pins σ H s)(h1:-(2 ^ 62)<=lo)(h2:lo < 2 ^ 62)(h3:-(2 ^ 62)<=hi)(h4:hi < 2 ^ 62)
  (q:R (BO lo (hi - lo).toNat) H):wpAny (model X.prog X.w) X.A (pyIter (.ref s.heap.objs.size)) (Gi X pins σ tg R) E { s with heap:=s.heap.push { cls:=.type "range",data:=.fields #[.int lo t,.int hi u,.int 1 v] },toks:=tk }:=by
 refine wpAny_pyIter_range (IsRange.new ..) (small_one h1 h2 h3 h4) ?_;have I1:Inv X pins σ H { s with heap:=s.heap.push { cls:=.type "range",data:=.fields #[.int lo t,.int hi u,.int 1 v] },toks:=tk }:=I.kept fun b o e=>Heap.get?_push_of_some _ e
 refine⟨(s.heap.push { cls:=.type "range",data:=.fields #[.int lo t,.int hi u,.int 1 v] }).objs.size,[(s.heap.push { cls:=.type "range",data:=.fields #[.int lo t,.int hi u,.int 1 v] }).objs.size],_,_,H,rfl,
  I1.kept (t':=tk) fun b o e=>Heap.get?_push_of_some _ e,nF _ lo (hi - lo).toNat,?_,fun b hb=>?_,q⟩
 ·have e1:lo+((0:Nat):Int)*1=lo:=by simp
  have e2:(((hi - lo).toNat:Nat):Int) - ((0:Nat):Int)=Builtin.Range.rangeSize lo hi 1:=by rw[rangeSize_one];split<;>lia
  show IsRangeIter _ _ (lo+((0:Nat):Int)*1) ((((hi - lo).toNat:Nat):Int) - ((0:Nat):Int)) 1;rw[e1,e2];exact Heap.get?_push_size _ rfl
 ·have e:b=(s.heap.push { cls:=.type "range",data:=.fields #[.int lo t,.int hi u,.int 1 v] }).objs.size:=by simpa using hb
  subst e;exact I1.lV (Nat.le_refl _) (I1.aE.fresh (Nat.le_refl _))
def tW(ta:TA):TI:=fun σ H R=>ta σ H fun vs H1=>∃ j:Int,vs=[.int j]/\-(2 ^ 62)<=j/\j < 2 ^ 62/\R (BO 0 j.toNat) H1
def sx(ta:TA):TI:=fun σ H R=>ta σ H fun vs H1=>∃ i j:Int,vs=[.int i,.int j]/\(-(2 ^ 62)<=i/\i < 2 ^ 62/\-(2 ^ 62)<=j/\j < 2 ^ 62)/\R (BO i (j - i).toNat) H1
theorem rm{a:Expr}{ta:TA}{p pos:Pos}(hg:Gl X "range")(hm:X.mg "range"=none)(ha:PA X [a] ta)(hs:starEach [a] X.env=[(false,eval a X.env)]:=by rfl):PI X tg (.Call (.Name "range" p) [a] [] pos) (tW ta):=by
 intro pins s σ H R I h;refine Call_ (dc I hg hm boot_range (PyProof.Rows.callWith_type1 (bw (ha pos pins s σ H _ I h) fun us s1 ⟨vs,H1,I1,r1,q1⟩=>?_) hs rfl));obtain⟨j,e,q1,q2,q⟩:=q1;subst e
 cases r1 with
 | cons r rr =>
  cases rr;obtain⟨t,rfl⟩:=r;exact call_range_1 (m4 I1 (by lia) (by lia) q1 q2 (by simpa using q))
theorem qW{a b:Expr}{ta:TA}{p pos:Pos}(hg:Gl X "range")(hm:X.mg "range"=none)(ha:PA X [a,b] ta)(hs:starEach [a,b] X.env=[(false,eval a X.env),(false,eval b X.env)]:=by rfl)(hs2:starEach [b] X.env=[(false,eval b X.env)]:=by rfl):
  PI X tg (.Call (.Name "range" p) [a,b] [] pos) (sx ta):=by
 intro pins s σ H R I h;refine Call_ (dc I hg hm boot_range (PyProof.Rows.callWith_type1 (bw (ha pos pins s σ H _ I h) fun us s1 ⟨vs,H1,I1,r1,q1⟩=>?_) (by rw[hs,hs2]) (by rw[hs2];rfl)))
 obtain⟨i,j,e,⟨q1,q2,q3,q4⟩,q⟩:=q1;subst e
 cases r1 with
 | cons r rr =>
  cases rr with
  | cons r' rr =>
   cases rr;obtain⟨t,rfl⟩:=r;obtain⟨t',rfl⟩:=r';exact call_range_2 (m4 I1 q1 q2 q3 q4 q)
def BF(wi:TI)(g:TG)(tb:TS):TS:=fun D σ H=>wi σ H fun J H1=>∃ W:Nat->Nat->St->Hp->Prop,(∃ m,W 0 m σ H1)/\∀ i m σ H,W i m σ H ->
 (J.stop i H/\D.nx σ H)\/(J.go i H/\∃ N:St->Hp->Prop,(∀ σ' H',N σ' H'->∃ m',m' < m/\W (i+1) m' σ' H')/\∀ x H',J.zt i H x H'->g x σ H' fun σ2 H2=>tb { D with nx:=N,ct:=N,bk:=D.nx } σ2 H2)
def iM(fp:List Addr)(h:Heap):List (Addr×Obj):=fp.filterMap fun b=>(h.get? b).map fun o=>(b,o)
theorem dF{fp:List Addr}{h:Heap}{b:Addr}{o:Obj}(hb:b∈fp)(e:h.get? b=some o):(b,o)∈iM fp h:=List.mem_filterMap.mpr ⟨b,hb,by rw[e];rfl⟩
theorem qM{fp:List Addr}{h:Heap}{p:Addr×Obj}(hp:p∈iM fp h):p.1∈fp/\h.get? p.1=some p.2:=by
 obtain⟨b,hb,e⟩:=List.mem_filterMap.mp hp
 cases q:h.get? b with
 | none=>rw[q] at e;cases e
 | some o =>
  rw[q] at e;have e':(b,o)=p:=Option.some.inj e;subst e';exact⟨hb,q⟩
theorem Inv.pinned{pins:List (Addr×Obj)}{σ:St}{H:Hp}{s:Shared}{fp:List Addr}(I:Inv X pins σ H s)(hf:∀ b∈fp,gY X pins H b)(ho:∀ b∈fp,∃ o,s.heap.get? b=some o/\∀ v,o.data≠.cell v):Inv X (pins++iM fp s.heap) σ H s:=
 I.jU fun p hp=>(List.mem_append.mp hp).elim (fun z=>I.pin p (List.mem_append_right _ z)) fun z=>by
  obtain⟨hb,e⟩:=qM z;obtain⟨f0,f1,f2,_⟩:=hf p.1 hb;obtain⟨o,e',d⟩:=ho p.1 hb;rw[e] at e';cases e';exact⟨e,f0,f1,f2,d⟩
theorem Inv.dO{pins pl:List (Addr×Obj)}{σ:St}{H:Hp}{s:Shared}(I:Inv X (pins++pl) σ H s):Inv X pins σ H s:=I.jU fun p hp=>I.pin p (List.mem_append_right _ (List.mem_append_left _ hp))
theorem AB{iter:Expr}{body:List Stmt}{wi:TI}{g:TG}{tb:TS}{pos:Pos}(hp:PassesOwn (model X.prog X.w) X.A X.env X.xe)(hc:X.calm=true)(hi:PI X tg iter wi)(hg:PG X tg g)(hb:n9 X body tb)
  (hs:∀ x,foldedSetIterable iter X.env x=pure x:=by intro _;rfl):PS X (.For tg iter body [] pos) (BF wi g tb):=by
 intro pins s σ H D I h;refine wpAny_For (bw (hi pins s σ H _ I h) fun v s1 h1=>bw h1 fun itv s2 h2=>?_) hs;obtain⟨it,fp,tn,J,H2,e,I2,T,dE,f2,W,⟨m0,w0⟩,turn⟩:=h2;subst e;have stat:∀ {H':Hp},(∀ b∈fp,H' b=none)->∀ b∈fp,gY X pins H' b:=fun hn b hb=>⟨hn b hb,(f2 b hb).2⟩;refine codeAny_forLoop_any (fun n s'=>∃ i σ' H',Inv X pins σ' H' s'/\tn i s'.heap/\(∀ b∈fp,H' b=none)/\W i n σ' H') ?_ m0 ⟨0,σ,H2,I2,dE,fun b hb=>(f2 b hb).1,w0⟩;rintro n s3 ⟨i,σ3,H3,I3,st3,fr3,w3⟩;rcases turn i n σ3 H3 w3 with ⟨stop,qn⟩ | ⟨go,N,hN,step⟩
 ·refine wpAny_passesOwn hp (bw (T.done X rfl rfl rfl hc i pins s3 σ3 H3 X.xe I3 (stat fr3) st3 stop) fun r s4 ⟨hr,I4⟩=>?_);subst hr;exact wpAny_execs_nil ⟨σ3,H3,I4,qn⟩
 ·refine wpAny_passesOwn hp (bw (T.item X rfl rfl rfl hc i pins s3 σ3 H3 X.xe I3 (stat fr3) st3 go) fun r s4 ⟨u,hr,h4⟩=>?_);subst hr;refine wpAny_passesOwn hp (bw h4 fun _ s5 ⟨x,H5,I5,r5,y5,st5,fr5⟩=>?_);have I5':=I5.pinned (stat fr5) (T.obj _ _ st5);refine wpAny_passesOwn hp (bw (hg _ s5 σ3 H5 x u _ I5' r5 (step x H5 y5)) fun _ s6 ⟨σ6,H6,I6,q6⟩=>?_);refine wpAny_passesOwn hp (bw (hb _ s6 σ6 H6 _ I6 q6) fun f s7 q7=>?_);have again:∀ {σ7:St} {H7:Hp},Inv X (pins++iM fp s5.heap) σ7 H7 s7->N σ7 H7->∃ m,m < n/\∃ i σ' H',Inv X pins σ' H' s7/\tn i s7.heap/\(∀ b∈fp,H' b=none)/\W i m σ' H':=fun {σ7 H7} I7 n7=>by
   obtain⟨m',hm,w7⟩:=hN σ7 H7 n7;refine⟨m',hm,i+1,σ7,H7,I7.dO,T.keep _ _ _ st5 fun b hb o e=>(I7.pin (b,o) (List.mem_append_right _ (List.mem_append_right _ (dF hb e)))).1,fun b hb=>?_,w7⟩;obtain⟨o,e,d⟩:=T.obj _ _ st5 b hb;exact (I7.pin (b,o) (List.mem_append_right _ (List.mem_append_right _ (dF hb e)))).2.1
  cases f with
  | next=>obtain⟨σ7,H7,I7,n7⟩:=q7;exact again I7 n7
  | cont=>obtain⟨σ7,H7,I7,n7⟩:=q7;exact again I7 n7
  | brk=>obtain⟨σ7,H7,I7,q7⟩:=q7;exact⟨σ7,H7,I7.dO,q7⟩
  | ret v=>obtain⟨x7,σ7,H7,I7,r7,q7⟩:=q7;exact⟨x7,σ7,H7,I7.dO,r7,q7⟩
end
noncomputable abbrev R2:=V->V->Hp->VK->Prop
def cN(X:Cx)(f:Value->Value->Sem Value)(r:R2):Prop:=
 ∀ (pins:List (Addr×Obj)) (s:Shared) (σ:St) (H:Hp) (x y:V) (v u:Value) (Q:VK),Inv X pins σ H s->RelV x v->RelV y u->r x y H Q ->
  wpAny (model X.prog X.w) X.A (f v u) (EP X pins σ Q) X.xe s
def EF(X:Cx)(f:Value->Sem Value)(r:V->Hp->VK->Prop):Prop:=
 ∀ (pins:List (Addr×Obj)) (s:Shared) (σ:St) (H:Hp) (x:V) (v:Value) (Q:VK),Inv X pins σ H s->RelV x v->r x H Q ->
  wpAny (model X.prog X.w) X.A (f v) (EP X pins σ Q) X.xe s
def aQ(X:Cx)(f:Value)(r:List V->Hp->VK->Prop):Prop:=
 ∀ (pins:List (Addr×Obj)) (s:Shared) (σ:St) (H:Hp) (xs:List V) (us:List Value) (Q:VK),Inv X pins σ H s->Vals xs us->r xs H Q ->
  wpAny (model X.prog X.w) X.A (call f us) (EP X pins σ Q) X.xe s
def FN(X:Cx)(r:V->Hp->(Bool->Hp->Prop)->Prop):Prop:=
 ∀ (pins:List (Addr×Obj)) (s:Shared) (σ:St) (H:Hp) (x:V) (v:Value) (Q:Bool->Hp->Prop),Inv X pins σ H s->RelV x v->r x H Q ->
  wpAny (model X.prog X.w) X.A (truthy v) (TP X pins σ Q) X.xe s
def n_(r:R2)(ta tb:TE):TE:=fun σ H Q=>ta σ H fun x H1=>tb σ H1 fun y H2=>r x y H2 Q
def Gn(r:V->Hp->VK->Prop)(ta:TE):TE:=fun σ H Q=>ta σ H fun x H1=>r x H1 Q
def rI(C:Int->Int->Prop)(g:Int->Int->V):R2:=fun x y H Q=>∃ i j,x=.int i/\y=.int j/\C i j/\Q (g i j) H
def oM(g:Int->Int->V):R2:=fun x y H Q=>∃ i j,x=.int i/\y=.int j/\Q (g i j) H
def rU(g:Int->V):V->Hp->VK->Prop:=fun x H Q=>∃ i,x=.int i/\Q (g i) H
section
variable {X:Cx} {a b c:Expr} {ta tb tc:TE} {pos:Pos}
theorem AA(ha:PE X a ta)(hb:PE X b tb){pins:List (Addr×Obj)}{s:Shared}{σ:St}{H:Hp}{R:V->V->Hp->Prop}(I:Inv X pins σ H s)
  (h:ta σ H fun x H1=>tb σ H1 fun y H2=>R x y H2) {Q:Value->Shared->Prop} {f:Value->Value->Sem Value}
  (hf:∀ v u s2 x y H2,Inv X pins σ H2 s2->RelV x v->RelV y u->R x y H2->wpAny (model X.prog X.w) X.A (f v u) Q X.xe s2) :
  wpAny (model X.prog X.w) X.A (eval a X.env) (fun v s₁=>wpAny (model X.prog X.w) X.A (eval b X.env) (fun u s₂=>wpAny (model X.prog X.w) X.A (f v u) Q X.xe s₂) X.xe s₁) X.xe s:=by
 refine bw (ha pins s σ H _ I h) fun v s1 ⟨x,H1,I1,r1,q1⟩=>?_;refine bw (hb pins s1 σ H1 _ I1 q1) fun u s2 ⟨y,H2,I2,r2,q2⟩=>?_;exact hf v u s2 x y H2 I2 r1 r2 q2
theorem C7{op:Operator}{r:R2}(ho:cN X (binaryOp op) r)(ha:PE X a ta)(hb:PE X b tb):PE X (.BinOp a op b pos) (n_ r ta tb):=by
 intro pins s σ H Q I h;exact wpAny_BinOp (AA ha hb I h fun v u s2 x y H2 I2 rx ry q=>ho pins s2 σ H2 x y v u Q I2 rx ry q)
theorem CJ{op:UnaryOp}{r:V->Hp->VK->Prop}(ho:EF X (unaryOp op) r)(ha:PE X a ta):PE X (.UnaryOp op a pos) (Gn r ta):=by
 intro pins s σ H Q I h;exact UnaryOp_ (bw (ha pins s σ H _ I h) fun v s1 ⟨x,H1,I1,r1,q1⟩=>ho pins s1 σ H1 x v Q I1 r1 q1)
theorem Eg{f:Value->Value->Sem Value}{C:Int->Int->Prop}{g:Int->Int->Int}
  (rule:∀ (i j:Int) (t u:Tok) (s:Shared) (Q:Value->Shared->Prop) (E:Value->Shared->Prop),C i j->Q (.int (g i j) s.toks) { s with toks:=s.toks+1 }->wpAny (model X.prog X.w) X.A (f (.int i t) (.int j u)) Q E s) :
  cN X f (rI C fun i j=>.int (g i j)):=by
 intro pins s σ H x y v u Q I rx ry h;obtain⟨i,j,rfl,rfl,hc,q⟩:=h;obtain⟨t,rfl⟩:=rx;obtain⟨t',rfl⟩:=ry;exact rule i j t t' s _ _ hc ⟨.int (g i j),H,I.tok _,⟨_,rfl⟩,q⟩
theorem DU{f:Value->Value->Sem Value}{g:Int->Int->Int}
  (rule:∀ (i j:Int) (t u:Tok) (s:Shared) (Q:Value->Shared->Prop) (E:Value->Shared->Prop),Q (.int (g i j) s.toks) { s with toks:=s.toks+1 }->wpAny (model X.prog X.w) X.A (f (.int i t) (.int j u)) Q E s) :
  cN X f (oM fun i j=>.int (g i j)):=by
 intro pins s σ H x y v u Q I rx ry h;obtain⟨i,j,rfl,rfl,q⟩:=h;obtain⟨t,rfl⟩:=rx;obtain⟨t',rfl⟩:=ry;exact rule i j t t' s _ _ ⟨.int (g i j),H,I.tok _,⟨_,rfl⟩,q⟩
theorem yq{f:Value->Value->Sem Value}{g:Int->Int->Bool}
  (rule:∀ (i j:Int) (t u:Tok) (s:Shared) (Q:Value->Shared->Prop) (E:Value->Shared->Prop),Q (.bool (g i j)) s->wpAny (model X.prog X.w) X.A (f (.int i t) (.int j u)) Q E s) :
  cN X f (oM fun i j=>.bl (g i j)):=by
 intro pins s σ H x y v u Q I rx ry h;obtain⟨i,j,rfl,rfl,q⟩:=h;obtain⟨t,rfl⟩:=rx;obtain⟨t',rfl⟩:=ry;exact rule i j t t' s _ _ ⟨.bl (g i j),H,I,rfl,q⟩
def D_(i j:Int):Prop:=0<=j/\j<=1000000/\i.natAbs < 2 ^ 64
def nA(i j:Int):Prop:=(-(2 ^ 64) < i/\i < 2 ^ 64)\/(-(2 ^ 64) < j/\j < 2 ^ 64)
theorem nA.ok{i j:Int}(h:nA i j):IntMulOk i j:=by
 rcases h with ⟨h1,h2⟩ | ⟨h1,h2⟩
 ·exact .of_left (intBits_le_64 h1 h2)
 ·exact .of_right (intBits_le_64 h1 h2)
theorem tP:cN X (binaryOp .Add) (oM fun i j=>.int (i+j)):=DU fun _ _ _ _ _ _ _ q=>add_int q
theorem fR:cN X (binaryOp .Sub) (oM fun i j=>.int (i - j)):=DU fun _ _ _ _ _ _ _ q=>sub_int q
theorem Ao:cN X (binaryOp .Mult) (rI nA fun i j=>.int (i*j)):=Eg fun _ _ _ _ _ _ _ hc q=>mul_int q hc.ok
theorem fP:cN X (binaryOp .Mod) (rI (fun _ j=>0 < j) fun i j=>.int (i % j)):=Eg fun i j _ _ _ _ _ hc q=>by
 have h1:(0:Int) < j:=hc;exact mod_int' (by lia) (by rw[Int.fmod_eq_emod_of_nonneg i (by lia)];exact q)
theorem d6:cN X (binaryOp .Pow) (rI D_ fun i j=>.int (i ^ j.toNat)):=Eg fun _ _ _ _ _ _ _ hc q=>pow_int_small hc.1 hc.2.1 hc.2.2 q
theorem A5:cN X (binaryOp .LShift) (rI D_ fun i j=>.int (i*2 ^ j.toNat)):=Eg fun _ _ _ _ _ _ _ hc q=>lshift_int_small hc.1 hc.2.1 hc.2.2 q
theorem G4{f:Value->Sem Value}{g:Int->Int}
  (rule:∀ (i:Int) (t:Tok) (s:Shared) (Q:Value->Shared->Prop) (E:Value->Shared->Prop),Q (.int (g i) s.toks) { s with toks:=s.toks+1 }->wpAny (model X.prog X.w) X.A (f (.int i t)) Q E s) :
  EF X f (rU fun i=>.int (g i)):=by
 intro pins s σ H x v Q I rx h;obtain⟨i,rfl,q⟩:=h;obtain⟨t,rfl⟩:=rx;exact rule i t s _ _ ⟨.int (g i),H,I.tok _,⟨_,rfl⟩,q⟩
theorem Bt:EF X (unaryOp .USub) (rU fun i=>.int (-i)):=G4 fun _ _ _ _ _ q=>neg_int q
end
def DX:V->V->Bool
 | .aI,.aI=>true | .aI,.int _=>true | .int _,.aI=>true | .aI,.bl _=>true | .bl _,.aI=>true | .aI,.str _=>true | .str _,.aI=>true
 | .int _,.int _=>true | .bl _,.bl _=>true | .str _,.str _=>true | .nV _,.nV _=>true
 | .int _,.str _=>true | .str _,.int _=>true | .bl _,.str _=>true | .str _,.bl _=>true
 | _,_=>false
def C5:R2:=fun x y H Q=>DX x y=true/\Q (.bl (decide (x=y))) H
def AN:R2:=fun x y H Q=>DX x y=true/\Q (.bl (!decide (x=y))) H
theorem p8{i j:Int}:decide (V.int i=V.int j)=(i == j):=by
 rw[Bool.eq_iff_iff];simp
theorem t6{i j:Bool}:decide (V.bl i=V.bl j)=(i == j):=by
 rw[Bool.eq_iff_iff];simp
theorem qm{i j:Str}:decide (V.str i=V.str j)=(i == j):=by
 rw[Bool.eq_iff_iff];simp
theorem pq{i j:Array UInt8}:decide (V.nV i=V.nV j)=(i.toList == j.toList):=by
 rw[Bool.eq_iff_iff];cases i;cases j;simp
section
variable {X:Cx} {a b c:Expr} {ta tb tc:TE} {pos:Pos}
theorem aA{pins:List (Addr×Obj)}{σ:St}{H:Hp}{s:Shared}{Q:VK}{k k':Bool}(I:Inv X pins σ H s)(q:Q (.bl k) H)(e:k=k'):EP X pins σ Q (.bool k') s:=by
 subst e;exact⟨.bl k,H,I,rfl,q⟩
theorem yF:cN X (compareOp .Eq) C5:=by
 intro pins s σ H x y v u Q I rx ry h;obtain⟨hs,q⟩:=h
 cases x with
 | aI =>
  cases rx
  cases y with
  | aI=>cases ry;exact PySem.EqNone.eq_none_none (aA I q (by simp))
  | bl j=>cases ry;exact PySem.EqNone.eq_none_bool (aA I q (by simp))
  | int j=>obtain⟨t',rfl⟩:=ry;exact PySem.EqNone.eq_none_int (aA I q (by simp))
  | str j=>obtain⟨t',rfl⟩:=ry;exact PySem.EqNone.eq_none_str (aA I q (by simp))
  | _=>exact absurd (show false=true from hs) Bool.false_ne_true
 | bl i =>
  cases rx
  cases y with
  | aI=>cases ry;exact PySem.EqNone.eq_bool_none (aA I q (by simp))
  | bl j=>cases ry;exact eq_bool (aA I q t6)
  | str j=>obtain⟨t',rfl⟩:=ry;exact PySem.EqMixed.eq_bool_str (aA I q (by simp))
  | _=>exact absurd (show false=true from hs) Bool.false_ne_true
 | int i =>
  obtain⟨t,rfl⟩:=rx
  cases y with
  | aI=>cases ry;exact PySem.EqNone.eq_int_none (aA I q (by simp))
  | int j=>obtain⟨t',rfl⟩:=ry;exact eq_int (aA I q p8)
  | str j=>obtain⟨t',rfl⟩:=ry;exact PySem.EqMixed.eq_int_str (aA I q (by simp))
  | _=>exact absurd (show false=true from hs) Bool.false_ne_true
 | str i =>
  obtain⟨t,rfl⟩:=rx
  cases y with
  | aI=>cases ry;exact PySem.EqNone.eq_str_none (aA I q (by simp))
  | bl j=>cases ry;exact PySem.EqMixed.eq_str_bool (aA I q (by simp))
  | int j=>obtain⟨t',rfl⟩:=ry;exact PySem.EqMixed.eq_str_int (aA I q (by simp))
  | str j=>obtain⟨t',rfl⟩:=ry;exact eq_str (aA I q qm)
  | _=>exact absurd (show false=true from hs) Bool.false_ne_true
 | nV i =>
  obtain⟨t,rfl⟩:=rx
  cases y with
  | nV j=>obtain⟨t',rfl⟩:=ry;exact PySem.W.eq_bytes (aA I q pq)
  | _=>exact absurd (show false=true from hs) Bool.false_ne_true
 | _=>cases y<;>exact absurd (show false=true from hs) Bool.false_ne_true
theorem yL:cN X (compareOp .NotEq) AN:=by
 intro pins s σ H x y v u Q I rx ry h;obtain⟨hs,q⟩:=h
 cases x with
 | aI =>
  cases rx
  cases y with
  | aI=>cases ry;exact PySem.EqNone.ne_none_none (aA I q (by simp))
  | bl j=>cases ry;exact PySem.EqNone.ne_none_bool (aA I q (by simp))
  | int j=>obtain⟨t',rfl⟩:=ry;exact PySem.EqNone.ne_none_int (aA I q (by simp))
  | str j=>obtain⟨t',rfl⟩:=ry;exact PySem.EqNone.ne_none_str (aA I q (by simp))
  | _=>exact absurd (show false=true from hs) Bool.false_ne_true
 | bl i =>
  cases rx
  cases y with
  | aI=>cases ry;exact PySem.EqNone.ne_bool_none (aA I q (by simp))
  | bl j=>cases ry;exact ne_bool (aA I q (congrArg not t6))
  | str j=>obtain⟨t',rfl⟩:=ry;exact PySem.EqMixed.ne_bool_str (aA I q (by simp))
  | _=>exact absurd (show false=true from hs) Bool.false_ne_true
 | int i =>
  obtain⟨t,rfl⟩:=rx
  cases y with
  | aI=>cases ry;exact PySem.EqNone.ne_int_none (aA I q (by simp))
  | int j=>obtain⟨t',rfl⟩:=ry;exact ne_int (aA I q (congrArg not p8))
  | str j=>obtain⟨t',rfl⟩:=ry;exact PySem.EqMixed.ne_int_str (aA I q (by simp))
  | _=>exact absurd (show false=true from hs) Bool.false_ne_true
 | str i =>
  obtain⟨t,rfl⟩:=rx
  cases y with
  | aI=>cases ry;exact PySem.EqNone.ne_str_none (aA I q (by simp))
  | bl j=>cases ry;exact PySem.EqMixed.ne_str_bool (aA I q (by simp))
  | int j=>obtain⟨t',rfl⟩:=ry;exact PySem.EqMixed.ne_str_int (aA I q (by simp))
  | str j=>obtain⟨t',rfl⟩:=ry;exact ne_str (aA I q (congrArg not qm))
  | _=>exact absurd (show false=true from hs) Bool.false_ne_true
 | nV i =>
  obtain⟨t,rfl⟩:=rx
  cases y with
  | nV j=>obtain⟨t',rfl⟩:=ry;exact PySem.W.ne_bytes (aA I q (congrArg not pq))
  | _=>exact absurd (show false=true from hs) Bool.false_ne_true
 | _=>cases y<;>exact absurd (show false=true from hs) Bool.false_ne_true
theorem pX:cN X (compareOp .Lt) (oM fun i j=>.bl (decide (i < j))):=yq fun _ _ _ _ _ _ _ q=>lt_int q
theorem Cj:cN X (compareOp .LtE) (oM fun i j=>.bl (decide (i<=j))):=yq fun _ _ _ _ _ _ _ q=>le_int q
theorem yN:cN X (compareOp .Gt) (oM fun i j=>.bl (decide (j < i))):=yq fun _ _ _ _ _ _ _ q=>gt_int q
theorem zr:cN X (compareOp .GtE) (oM fun i j=>.bl (decide (j<=i))):=yq fun _ _ _ _ _ _ _ q=>ge_int q
theorem xZ:cN X (compareOp .IsNot) (fun x y H Q=>y=.aI/\Q (.bl (!decide (x=.aI))) H):=by
 intro pins s σ H x y v u Q I rx ry h;obtain⟨rfl,q⟩:=h;cases ry;refine isnot_none_gen (aA I q ?_)
 cases x<;>first
  | (cases rx;rfl)
  | (obtain⟨t,rfl⟩:=rx;rfl)
theorem cN.or{f:Value->Value->Sem Value}{r r':R2}(h:cN X f r)(h':cN X f r'):cN X f (fun x y H Q=>r x y H Q\/r' x y H Q):=by
 intro pins s σ H x y v u Q I rx ry q;rcases q with q | q
 ·exact h pins s σ H x y v u Q I rx ry q
 ·exact h' pins s σ H x y v u Q I rx ry q
theorem xb{op:CmpOp}{r:R2}(ho:cN X (compareOp op) r)(ha:PE X a ta)(hb:PE X b tb)(hm:behindInMarks op b=false):PE X (.Compare a [op] [b] pos) (n_ r ta tb):=by
 intro pins s σ H Q I h;exact wpAny_Compare1 (AA ha hb I h fun v u s2 x y H2 I2 rx ry q=>ho pins s2 σ H2 x y v u Q I2 rx ry q) hm
def gf(t:TE):TT:=fun σ H Q=>t σ H fun x H'=>∃ k,x=.bl k/\Q k H'
theorem wQ{op:CmpOp}{r:R2}(ho:cN X (compareOp op) r)(ha:PE X a ta)(hb:PE X b tb)(hm:behindInMarks op b=false):PT X (.Compare a [op] [b] pos) (gf (n_ r ta tb)):=by
 intro pins s σ H Q I h;refine wpAny_isTrue_Compare1 (bw (ha pins s σ H _ I h) fun v s1 ⟨x,H1,I1,r1,q1⟩=>bw (hb pins s1 σ H1 _ I1 q1) fun u s2 ⟨y,H2,I2,r2,q2⟩=>
  bw (ho pins s2 σ H2 x y v u _ I2 r1 r2 q2) fun c s3 ⟨z,H3,I3,r3,k,e,q3⟩=>?_) hm
 subst e;cases r3;exact wpAny_truthy_bool ⟨H3,I3,q3⟩
def rE(K:PySem.W.Frag)(x:V)(H:Hp)(k:Bool):Prop:=
 match x with
 | .aI=>k=false
 | .bl b=>k=b
 | .int i=>k=(i != 0)
 | .str y=>y.length<=sizeLine/\k=((y.length:Int) != 0)
 | .nV y=>y.size<=sizeLine/\k=((y.size:Int) != 0)
 | .ref p=>(∃ xs,bK K H p xs/\k=!xs.isEmpty)\/(∃ xs,bu K H p xs/\k=!xs.isEmpty)\/∃ kvs,H p=some (.dK kvs)/\k=!kvs.isEmpty
 | _=>False
theorem nu{κ:Type}{kvs:List (κ×V)}{vs:List (κ×Value)}(r:KV kvs vs):(!vs.isEmpty)=!kvs.isEmpty:=by
 cases r<;>rfl
theorem i3{xs:List V}{its:List Value}(r:Vals xs its):(!its.toArray.isEmpty)=!xs.isEmpty:=by
 cases r<;>simp
theorem dG:(sizeLine:Nat) < 2 ^ 63:=by rw[sizeLine_eq];decide
theorem An:FN X (fun x H Q=>∃ k,rE X.K x H k/\Q k H):=by
 intro pins s σ H x v Q I rx h;obtain⟨k,e,q⟩:=h;have hl:=dG;have hs:sizeLine=16777216:=sizeLine_eq
 cases x with
 | aI =>
  cases rx;have e':k=false:=e;subst e';exact truthy_none ⟨H,I,q⟩
 | bl b =>
  cases rx;have e':k=b:=e;subst e';exact wpAny_truthy_bool ⟨H,I,q⟩
 | int i =>
  obtain⟨t,rfl⟩:=rx;have e':k=(i != 0):=e;subst e';exact PySem.P.truthy_int ⟨H,I,q⟩
 | str y =>
  obtain⟨t,rfl⟩:=rx;obtain⟨hy,e'⟩:y.length<=sizeLine/\k=((y.length:Int) != 0):=e;subst e';exact PySem.P.truthy_str (by lia) ⟨H,I.tok _,q⟩
 | nV y =>
  obtain⟨t,rfl⟩:=rx;obtain⟨hy,e'⟩:y.size<=sizeLine/\k=((y.size:Int) != 0):=e;subst e';exact PySem.W.truthy_bytes (by lia) ⟨H,I.tok _,q⟩
 | ref p =>
  cases rx;have e':(∃ xs,bK X.K H p xs/\k=!xs.isEmpty)\/(∃ xs,bu X.K H p xs/\k=!xs.isEmpty)\/∃ kvs,H p=some (.dK kvs)/\k=!kvs.isEmpty:=e;rcases e' with ⟨xs,hx,e'⟩ | ⟨xs,hx,e'⟩ | ⟨kvs,hx,e'⟩
  ·subst e';obtain⟨its,r,pl,hz⟩:=I.list hx;have hlen:=r.length;exact wpAny_truthy_list pl.isList (by simp only[List.size_toArray];lia) ⟨H,I.tok _,by rw[i3 r];exact q⟩
  ·subst e';obtain⟨its,r,pl,hz⟩:=I.tuple hx;have hlen:=r.length;exact truthy_tuple pl (by simp only[List.size_toArray];lia) ⟨H,I.tok _,by rw[i3 r];exact q⟩
  ·subst e';obtain⟨hz,hS,vs,r,m⟩:kvs.length<=sizeLine/\(p == sysModules)=false/\∃ vs,KV kvs vs/\s.heap.DictOf (aZ X.prog X.w) p vs:=I.aE p _ hx;have hlen:kvs.length=vs.length:=Paired.length r;exact wpAny_truthy_dict hS m (by lia) ⟨H,I.tok _,by rw[nu r];exact q⟩
 | _=>exact (show False from e).elim
theorem ve(ha:PE X a ta)(he:∀ whole,isTrue a X.env whole=(do let v <- whole;standAt a.pos;holding [v] (truthy v))):
  PT X a (fun σ H Q=>ta σ H fun x H'=>∃ k,rE X.K x H' k/\Q k H'):=by
 intro pins s σ H Q I h;exact isTrue_plain (bw (ha pins s σ H _ I h) fun v s1 ⟨x,H1,I1,r1,q1⟩=>An pins s1 σ H1 x v Q I1 r1 q1) (he _)
theorem iy:cN X (binaryOp .Add) (fun x y H Q=>∃ i j,x=.str i/\y=.str j/\i.length+j.length<=sizeLine/\Q (.str (i++j)) H):=by
 intro pins s σ H x y v u Q I rx ry h;obtain⟨i,j,rfl,rfl,hz,q⟩:=h;obtain⟨t,rfl⟩:=rx;obtain⟨t',rfl⟩:=ry;exact add_str (fun t' tk=>⟨.str (i++j),H,I.tok _,⟨_,rfl⟩,q⟩) hz
theorem vals1{x:V}{us:List Value}(r:Vals [x] us):∃ u,us=[u]/\RelV x u:=by
 cases r with
 | cons r1 r2=>cases r2;exact⟨_,rfl,r1⟩
theorem vals2{x y:V}{us:List Value}(r:Vals [x,y] us):∃ u w',us=[u,w']/\RelV x u/\RelV y w':=by
 cases r with
 | cons r1 r2 =>
  cases r2 with
  | cons r3 r4=>cases r4;exact⟨_,_,rfl,r1,r3⟩
theorem qQ(hc:X.calm=true):aQ X (.builtin "max") (fun xs H Q=>∃ i j,xs=[.int i,.int j]/\Q (.int (if j > i then j else i)) H):=by
 intro pins s σ H xs us Q I r h;obtain⟨i,j,rfl,q⟩:=h;obtain⟨u,w',rfl,⟨t,rfl⟩,⟨t',rfl⟩⟩:=vals2 r;refine max_two_ints (I.ok.hd hc) fun h' tk k=>⟨_,H,I.kept k,?_,q⟩;by_cases hj:j > i
 ·rw[if_pos hj,if_pos hj];exact⟨_,rfl⟩
 ·rw[if_neg hj,if_neg hj];exact⟨_,rfl⟩
theorem qZ(hc:X.calm=true):aQ X (.builtin "min") (fun xs H Q=>∃ i j,xs=[.int i,.int j]/\Q (.int (if j < i then j else i)) H):=by
 intro pins s σ H xs us Q I r h;obtain⟨i,j,rfl,q⟩:=h;obtain⟨u,w',rfl,⟨t,rfl⟩,⟨t',rfl⟩⟩:=vals2 r;refine min_two_ints (I.ok.hd hc) fun h' tk k=>⟨_,H,I.kept k,?_,q⟩;by_cases hj:j < i
 ·rw[if_pos hj,if_pos hj];exact⟨_,rfl⟩
 ·rw[if_neg hj,if_neg hj];exact⟨_,rfl⟩
theorem jo:aQ X (.type "int") (fun xs H Q=>(∃ i,xs=[.int i]/\Q (.int i) H)\/∃ k,xs=[.bl k]/\Q (.int (if k then 1 else 0)) H):=by
 intro pins s σ H xs us Q I r h;rcases h with ⟨i,rfl,q⟩ | ⟨k,rfl,q⟩
 ·obtain⟨u,rfl,t,rfl⟩:=vals1 r;exact call_int_int ⟨.int i,H,I,⟨_,rfl⟩,q⟩
 ·obtain⟨u,rfl,r1⟩:=vals1 r;cases r1;exact call_int_bool ⟨.int (if k then 1 else 0),H,I.tok _,⟨_,rfl⟩,q⟩
def EW(K:PySem.W.Frag)(x:V)(H:Hp)(n:Nat):Prop:=
 match x with
 | .str y=>y.length<=sizeLine/\n=y.length
 | .nV y=>y.size<=sizeLine/\n=y.size
 | .ref p=>(∃ xs,bK K H p xs/\n=xs.length)\/∃ xs,bu K H p xs/\n=xs.length
 | _=>False
theorem i9:aQ X (.builtin "len") (fun xs H Q=>∃ x n,xs=[x]/\EW X.K x H n/\Q (.int n) H):=by
 intro pins s σ H xs us Q I r h;obtain⟨x,n,rfl,e,q⟩:=h;obtain⟨u,rfl,rx⟩:=vals1 r;have hl:=dG;have hs:sizeLine=16777216:=sizeLine_eq
 cases x with
 | str y =>
  obtain⟨t,rfl⟩:=rx;obtain⟨hy,e'⟩:y.length<=sizeLine/\n=y.length:=e;subst e';exact len_str (by lia) ⟨.int _,H,I.tok _,⟨_,rfl⟩,q⟩
 | nV y =>
  obtain⟨t,rfl⟩:=rx;obtain⟨hy,e'⟩:y.size<=sizeLine/\n=y.size:=e;subst e';exact PySem.W.len_bytes (by lia) ⟨.int _,H,I.tok _,⟨_,rfl⟩,q⟩
 | ref p =>
  cases rx;have e':(∃ xs,bK X.K H p xs/\n=xs.length)\/∃ xs,bu X.K H p xs/\n=xs.length:=e;rcases e' with ⟨xs,hx,e'⟩ | ⟨xs,hx,e'⟩
  ·subst e';obtain⟨its,r',pl,hz⟩:=I.list hx;have hlen:=r'.length;exact Calls.call_len_list pl.isList (by simp only[List.size_toArray];lia) ⟨.int xs.length,H,I.tok _,⟨_,by simp only[List.size_toArray];rw[hlen]⟩,q⟩
  ·subst e';obtain⟨its,r',pl,hz⟩:=I.tuple hx;have hlen:=r'.length;exact len_tuple pl (by simp only[List.size_toArray];lia) ⟨.int xs.length,H,I.tok _,⟨_,by simp only[List.size_toArray];rw[hlen]⟩,q⟩
 | _=>exact (show False from e).elim
end
section
variable {prog:Program} {w:World} {A:Around} {E:Value->Shared->Prop} {s:Shared} {K:PySem.W.Frag} {x dx C f:Addr} {mA:Str->Option Value} {name:Str} {v:Value}
end
theorem i4.some_of{v:V}{o:Option Value}(r:i4 (some v) o):∃ u,o=some u/\RelV v u:=by
 cases o with
 | none=>exact (show False from r).elim
 | some u=>exact⟨u,rfl,r⟩
section
variable {P:Program} {w:World} {H H':Hp} {h h':Heap} {a C dx:Addr} {fs fs':List (Str×V)}
end
section
variable {X:Cx} {pins:List (Addr×Obj)} {σ:St} {H:Hp} {s:Shared} {a C dx:Addr} {fs:List (Str×V)} {f:Str} {v:V} {A:Around} {E:Value->Shared->Prop}
end
section
variable {X:Cx} {o e value:Expr} {f:Str} {pos pos' tpos:Pos} {ta tv:TE}
end
section
variable {X:Cx} {pins:List (Addr×Obj)} {σ:St} {H:Hp} {s:Shared} {A:Around} {E:Value->Shared->Prop} {Q:Value->Shared->Prop} {c:Value} {b:Bool}
end
structure bC (k:Nat) (A:Around):Prop where
 hd:A.handled=none
 dp:A.depth+3*k+5 < recursionLimit
 un:A.units+16*k+200 < cLine
 gd:A.guards=some []
theorem bC.mono{j k:Nat}{A:Around}(r:bC k A)(h:j<=k):bC j A:=⟨r.hd,by have:=r.dp;lia,by have:=r.un;lia,r.gd⟩
theorem bC.deeper{k:Nat}{A:Around}(r:bC (k+1) A)(env:Env):bC k (A.deeper env):=
 ⟨r.hd,by have:=r.dp;show A.depth+1+3*k+5 < _;lia,by have:=r.un;show A.units+3+16*k+200 < _;lia,r.gd⟩
theorem bC.in1{k:Nat}{A:Around}(r:bC (k+1) A):bC k A.in1:=
 ⟨r.hd,by have:=r.dp;show A.depth+3*k+5 < _;lia,by have:=r.un;show A.units+1+16*k+200 < _;lia,r.gd⟩
theorem bC.depth{k:Nat}{A:Around}(r:bC k A):A.depth < recursionLimit:=by have:=r.dp;lia
theorem bC.units{k:Nat}{A:Around}(r:bC k A):A.units+64 < cLine:=by have:=r.un;lia
def iQ:TA:=fun _ H Q=>Q [] H
def dX(ta:TE)(tr:TA):TA:=fun σ H Q=>ta σ H fun x H1=>tr σ H1 fun xs H2=>Q (x::xs) H2
section
variable {X:Cx} {e:Expr} {es:List Expr} {te:TE} {t:TA} {pos:Pos}
theorem sD:PA X [] iQ:=fun _ _ _ _ H Q I h=>Calls.spliced_nil ⟨[],H,I,.nil,h⟩
theorem oX(ha:PE X e te)(hr:PA X es t)(hs:starEach (e::es) X.env=(false,eval e X.env)::starEach es X.env:=by rfl):PA X (e::es) (dX te t):=by
 intro pos pins s σ H Q I h;rw[hs];show wpAny _ _ (spliced ((false,eval e X.env)::backTo pos (starEach es X.env))) _ _ s;refine Calls.spliced_cons (bw (ha pins s σ H _ I h) fun u s1 ⟨x,H1,I1,r1,q1⟩=>?_);exact bw (hr pos pins s1 σ H1 _ I1 q1) fun us s2 ⟨xs,H2,I2,r2,q2⟩=>⟨x::xs,H2,I2,.cons r1 r2,q2⟩
def DA(t:TA):TE:=fun σ H Q=>t σ H fun xs H1=>xs.length<=sizeLine/\∀ p,H1 p=none->Q (.ref p) (upd H1 p (.tup xs))
def DC(t:TA):TE:=fun σ H Q=>t σ H fun xs H1=>xs.length<=sizeLine/\∀ p,H1 p=none->Q (.ref p) (upd H1 p (.lst xs))
theorem BN{x1}(h:PA X es t):PE X (.Tuple es x1 pos) (DA t):=by
 intro pins s σ H Q I hq;refine wpAny_Tuple_spliced (bw (h pos pins s σ H _ I hq) fun us s1 ⟨xs,H1,I1,r,z,q⟩=>⟨by rw[<- r.length];exact z,?_⟩)
 have hf:H1 s1.heap.objs.size=none:=I1.aE.fresh (Nat.le_refl _);refine⟨.ref s1.heap.objs.size,upd H1 s1.heap.objs.size (.tup xs),I1.laid (t':=s1.toks) (fun b u e=>Heap.get?_push_of_some _ e) (Nat.le_refl _) ?_,rfl,q _ hf⟩;exact⟨z,us,r,⟨_,Heap.get?_push_size _ rfl,rfl,_,rfl,rfl⟩⟩
theorem AU(h:PA X es t):PE X (.List es pos) (DC t):=by
 intro pins s σ H Q I hq;refine wpAny_List_spliced (bw (h pos pins s σ H _ I hq) fun us s1 ⟨xs,H1,I1,r,z,q⟩=>⟨by rw[<- r.length];exact z,?_⟩)
 have hf:H1 s1.heap.objs.size=none:=I1.aE.fresh (Nat.le_refl _);refine⟨.ref s1.heap.objs.size,upd H1 s1.heap.objs.size (.lst xs),I1.laid (t':=s1.toks) (fun b u e=>Heap.get?_push_of_some _ e) (Nat.le_refl _) ?_,rfl,q _ hf⟩;exact⟨z,us,0,r,Heap.get?_push_size _ rfl⟩
end
noncomputable abbrev Sp:=List V->Hp->VK->XK->Prop
noncomputable abbrev kT:=List Env->Hp->Shared->XK->Value->Shared->Prop
structure xX (P:Program) (w:World) (K:PySem.W.Frag) (mg:Str->Option Value) (base:Heap) (A:Around) (outer:List Env) (s:Shared) (H:Hp):Prop where
 frames:A.frames=some outer
 mod:Mod K mg base
 bs:∀ b o,base.get? b=some o->s.heap.get? b=some o/\H b=none
 x_:base.objs.size<=s.heap.objs.size
 iN:s.heap.FunFrames base outer
 BV:∀ b∈gE outer,H b=none
 aE:dA P w H s.heap
 bare:AllBare s.gens
 tabs:TabsOk K H
def CE(outer:List Env)(P:Program)(w:World)(H:Hp)(s:Shared)(Q:VK)(u:Value)(s':Shared):Prop:=
 ∃ v H',s'.os=s.os/\AllBare s'.gens/\Un (gE outer) [] H H' s.heap s'.heap/\dA P w H' s'.heap/\RelV v u/\Q v H'
def CR(CX:kT)(outer:List Env)(P:Program)(w:World)(H:Hp)(s:Shared)(Q:VK)(E:XK)(r:Result)(s':Shared):Prop:=
 match r with
 | .ok (.ret u)=>CE outer P w H s Q u s'
 | .ok _=>False
 | .error e=>CX outer H s E e s'
structure df (P:Program) (w:World) (K:PySem.W.Frag) (mg:Str->Option Value) (base:Heap) (CX:kT) (k:Nat) (f:Addr) (fd:FuncData) (ps:List Str) (sp:Sp):Prop where
 len:∀ vs H Q E,sp vs H Q E->vs.length=ps.length
 run:∀ (A:Around) (outer:List Env) (s:Shared) (H:Hp) (args:Args) (us:List Value) (vs:List V) (Q:VK) (E:XK),bC k A->xX P w K mg base A outer s H->BindsTo s fd args (ps.zip us)->Vals vs us->sp vs H Q E ->
  codeAny (model P w) A (.call (.ref f) args) (CR CX outer P w H s Q E) s
theorem df.mono{P:Program}{w:World}{K:PySem.W.Frag}{mg:Str->Option Value}{base:Heap}{CX:kT}{j k:Nat}{f:Addr}{fd:FuncData}{ps:List Str}{sp:Sp}(F:df P w K mg base CX j f fd ps sp)(h:j<=k):
  df P w K mg base CX k f fd ps sp:=⟨F.len,fun A outer s H args us vs Q E hr=>F.run A outer s H args us vs Q E (hr.mono h)⟩
theorem df.imp{P:Program}{w:World}{K:PySem.W.Frag}{mg:Str->Option Value}{base:Heap}{CX:kT}{k:Nat}{f:Addr}{fd:FuncData}{ps:List Str}{sp sp':Sp}(F:df P w K mg base CX k f fd ps sp)
  (h:∀ vs H Q E,sp' vs H Q E->sp vs H Q E):df P w K mg base CX k f fd ps sp':=
 ⟨fun vs H Q E q=>F.len vs H Q E (h _ _ _ _ q),fun A outer s H args us vs Q E hr he hb hv hs=>F.run A outer s H args us vs Q E hr he hb hv (h _ _ _ _ hs)⟩
section
variable {X:Cx} {pins:List (Addr×Obj)} {σ:St} {H:Hp} {s s':Shared}
theorem Inv.C_(I:Inv X pins σ H s):xX X.prog X.w X.K X.mg X.base X.A X.stack s H:=
 ⟨I.ok.frames,I.ok.mod,I.bs,Nat.le_trans I.ok.x_ I.sz,I.stack,I.gQ,I.aE,I.bare,I.ok.tabs.un I.base⟩
theorem Inv.after{Q:VK}{u:Value}(I:Inv X pins σ H s)(h:CE X.stack X.prog X.w H s Q u s'):EP X pins σ Q u s':=by
 obtain⟨v,H',os,bare,un,aE,r,q⟩:=h;obtain⟨hh,g,d,t,os'⟩:=s';obtain rfl:os'=s.os:=os;exact⟨v,H',I.call (h':=hh) (g':=g) (d':=d) (t':=t) (ch:=[]) un aE bare (fun b z=>absurd z (by simp)),r,q⟩
end
def hC(sp:Sp)(dvs:List V)(E:XK)(t:TA):TE:=fun σ H Q=>t σ H fun vs H1=>sp (vs++dvs) H1 Q E
def Binds(K:PySem.W.Frag)(fd:FuncData)(ps:List Str)(ds:List Value):Prop:=
 ∀ (s:Shared) (us:List Value),K.In s.heap->(us++ds).length=ps.length->BindsTo s fd ⟨us,[]⟩ (ps.zip (us++ds))
theorem Binds.all{K:PySem.W.Frag}{fd:FuncData}{ps:List Str}(h:∀ us:List Value,us.length=ps.length->bindArgs fd ⟨us,[]⟩=pure (ps.zip us)):Binds K fd ps []:=fun s us _ hl=>by
 rw[List.append_nil] at hl ⊢;exact .of_eq (h us hl)
def Passes(CX:kT)(X:Cx)(E:XK):Prop:=∀ (pins:List (Addr×Obj)) (σ:St) (H:Hp) (s:Shared) (e:Value) (s':Shared),Inv X pins σ H s->CX X.stack H s E e s'->X.xe e s'
section
variable {X:Cx} {CX:kT} {k:Nat} {f C:Addr} {fd:FuncData} {ps:List Str} {sp:Sp} {dvs:List V} {ds:List Value} {E:XK} {x m:Str} {p pos apos:Pos} {e o:Expr} {es:List Expr} {ta:TE} {t:TA}
theorem Aj{pins:List (Addr×Obj)}{σ:St}{H:Hp}{s:Shared}{Q:VK}{us:List Value}{vs:List V}(F:df X.prog X.w X.K X.mg X.base CX k f fd ps sp)(hr:bC k X.A)(hb:Binds X.K fd ps ds)(hd:Vals dvs ds)(hx:Passes CX X E)
  (I:Inv X pins σ H s) (r:Vals vs us) (h:sp (vs++dvs) H Q E):wpAny (model X.prog X.w) X.A (call (.ref f) us) (EP X pins σ Q) X.xe s:=by
 have r2:Vals (vs++dvs) (us++ds):=r.append hd;have hl:(us++ds).length=ps.length:=by rw[<- r2.length];exact F.len _ _ _ _ h
 refine wpAny_call (codeAny_mono (F.run X.A X.stack s H ⟨us,[]⟩ (us++ds) (vs++dvs) Q E hr I.C_ (hb s us I.pV hl) r2 h) fun r s' hq=>?_)
 cases r with
 | error e=>exact hx pins σ H s e s' I hq
 | ok fl =>
  cases fl with
  | ret u=>exact I.after hq
  | next=>exact False.elim hq
  | brk=>exact False.elim hq
  | cont=>exact False.elim hq
theorem xJ(F:df X.prog X.w X.K X.mg X.base CX k f fd ps sp)(hr:bC k X.A)(hg:Gl X x)(hm:X.mg x=some (.ref f))(hk:PySem.W.keepIn X.K (.ref f)=true)(hb:Binds X.K fd ps ds)(hd:Vals dvs ds)(hx:Passes CX X E)
  (ha:PA X (e::es) t) (hdb:(x ==("__debug__":Str))=false:=by decide) (he:starEach (e::es) X.env=(false,eval e X.env)::starEach es X.env:=by rfl) (hpl:(backTo pos (starEach es X.env)).any (·.1)=false:=by rfl) :
  PE X (.Call (.Name x p) (e::es) [] pos) (hC sp dvs E t):=by
 intro pins s σ H Q I h;refine wpAny_Call_Name_kw (kq I hg hm ?_ hdb);refine PySem.W.callWith_K (h₀:=X.base) I.ok.mod.xV hk (bw (ha pos pins s σ H _ I h) fun us s1 ⟨vs,H1,I1,r,q⟩=>⟨I1.pV,?_⟩) he hpl;exact Aj F hr hb hd hx I1 r q
end
def PK(X:Cx)(kws:List Keyword)(t:TA):Prop:=
 ∀ (pos:Pos) (pins:List (Addr×Obj)) (s:Shared) (σ:St) (H:Hp) (Q:List V->Hp->Prop),Inv X pins σ H s->t σ H Q->wpAny (model X.prog X.w) X.A (evalAll ((backToKw pos (keywordEach kws X.env)).map (·.2))) (AP X pins σ Q) X.xe s
section
variable {X:Cx} {CX:kT} {k:Nat} {f C:Addr} {fd:FuncData} {ps ks:List Str} {sp:Sp} {E:XK} {x m:Str} {p pos apos kpos:Pos} {e o:Expr} {es:List Expr} {kws:List Keyword} {te ta:TE} {t tk:TA} {nm:Option Str}
theorem u0:PK X [] iQ:=fun _ _ _ _ H Q I h=>wpAny_evalAll_nil ⟨[],H,I,.nil,h⟩
theorem pJ(ha:PE X e te)(hr:PK X kws t):PK X (⟨nm,e,kpos⟩::kws) (dX te t):=by
 intro pos pins s σ H Q I h;show wpAny _ _ (evalAll ((do let v <- eval e X.env;standAt pos;pure v)::(backToKw pos (keywordEach kws X.env)).map (·.2))) _ _ s
 refine wpAny_evalAll_cons (wpAny_bind (bw (ha pins s σ H _ I h) fun u s1 ⟨x,H1,I1,r1,q1⟩=>wpAny_bind (wpAny_standAt (wpAny_pure ?_))));exact bw (hr pos pins s1 σ H1 _ I1 q1) fun us s2 ⟨xs,H2,I2,r2,q2⟩=>⟨x::xs,H2,I2,.cons r1 r2,q2⟩
variable {g:List Value->List Value->List Value} {gV:List V->List V->List V}
end
structure av (N P:List Str) (sc:Scope):Prop where
 kind:sc.kind=.function
 co:sc.isCoroutine=false
 gen:sc.isGenerator=false
 nd:N.Nodup
 pre:N.take P.length=P
 par:∀ x∈P,sc.names.lookup x=some .local\/sc.names.lookup x=some .cell
 Az:∀ y∈sc.names,y.2≠.free
theorem jr{kindOf:Str->Option NameKind}{x:Str}:∀ {binds:List (Str×Value)} {m:Str->Option Value},(∀ v,(x,v)∉binds)->bindL kindOf binds m x=m x
 | [],_,_=>rfl
 | (n,v)::r,m,h=>by
  unfold bindL;rw[jr fun w hw=>h w (List.mem_cons_of_mem _ hw)];split
  ·have:x≠n:=by rintro rfl;exact h v List.mem_cons_self
   simp[this]
  ·rfl
theorem jA{kindOf:Str->Option NameKind}{x:Str}:∀ {binds:List (Str×Value)} {m:Str->Option Value},(∀ v,(x,v)∉binds)->bindC kindOf binds m x=m x
 | [],_,_=>rfl
 | (n,v)::r,m,h=>by
  unfold bindC;rw[jA fun w hw=>h w (List.mem_cons_of_mem _ hw)];split
  ·rfl
  ·have:x≠n:=by rintro rfl;exact h v List.mem_cons_self
   simp[this]
theorem jB{kindOf:Str->Option NameKind}{x:Str}{v:Value}:∀ {P:List Str} {vs:List Value} {i:Nat} {m:Str->Option Value},P.Nodup->P[i]?=some x->vs[i]?=some v->kindOf x=some .local ->
  bindL kindOf (P.zip vs) m x=some v
 | [],_,_,_,_,h,_,_=>by simp at h
 | _::_,[],_,_,_,_,h,_=>by simp at h
 | p::P,w::vs,0,m,nd,h1,h2,hk=>by
  simp at h1 h2;subst h1;subst h2;show bindL kindOf ((p,w)::P.zip vs) m p=_;unfold bindL;rw[jr fun v hv=>(List.nodup_cons.mp nd).1 (List.of_mem_zip hv).1,if_pos hk];simp
 | p::P,w::vs,i+1,m,nd,h1,h2,hk=>by
  show bindL kindOf ((p,w)::P.zip vs) m x=_;unfold bindL;exact jB (i:=i) (List.nodup_cons.mp nd).2 (by simpa using h1) (by simpa using h2) hk
theorem jq{kindOf:Str->Option NameKind}{x:Str}{v:Value}:∀ {P:List Str} {vs:List Value} {i:Nat} {m:Str->Option Value},P.Nodup->P[i]?=some x->vs[i]?=some v->kindOf x≠some .local ->
  bindC kindOf (P.zip vs) m x=some v
 | [],_,_,_,_,h,_,_=>by simp at h
 | _::_,[],_,_,_,_,h,_=>by simp at h
 | p::P,w::vs,0,m,nd,h1,h2,hk=>by
  simp at h1 h2;subst h1;subst h2;show bindC kindOf ((p,w)::P.zip vs) m p=_;unfold bindC;rw[jA fun v hv=>(List.nodup_cons.mp nd).1 (List.of_mem_zip hv).1,if_neg hk];simp
 | p::P,w::vs,i+1,m,nd,h1,h2,hk=>by
  show bindC kindOf ((p,w)::P.zip vs) m x=_;unfold bindC;exact jq (i:=i) (List.nodup_cons.mp nd).2 (by simpa using h1) (by simpa using h2) hk
def start(N:List Str)(vs:List V):St:=vs.map some++List.replicate (N.length - vs.length) none
def fA(CX:kT)(P:Program)(w:World)(K:PySem.W.Frag)(mg:Str->Option Value)(base:Heap)(N:List Str)(qual:Str)(scope:Scope)(f:Addr)(cd:Value)(A:Around)(outer:List Env)(s:Shared)(H:Hp)(E:XK):Cx where
 prog:=P
 w:=w
 K:=K
 mg:=mg
 base:=base
 A:=A.deeper (envOfC qual scope s.heap.objs.size f cd)
 N:=N
 s₀:=s
 H₀:=H
 env:=envOfC qual scope s.heap.objs.size f cd
 outer:=outer
 stack:=envOfC qual scope s.heap.objs.size f cd::outer
 ex:=[]
 calm:=true
 fn:=fun _=>true
 pn:=[]
 xe:=fun e s'=>wpAny (model P w) (A.deeper (envOfC qual scope s.heap.objs.size f cd)) (leaving (envOfC qual scope s.heap.objs.size f cd) e) (fun _ s''=>CX outer H s E e s'') (fun e' s''=>CX outer H s E e' s'') s'
theorem mE{sc:Scope}{n:Nat}{x:Str}(h:sc.names.lookup x=some .cell):∃ c,(cellsFrom n sc.names []).lookup x=some c:=by
 have q:=PySem.W.cellsFrom_some sc.names n [] (.inl h);exact Option.isSome_iff_exists.mp q
theorem rJ{CX:kT}{P:Program}{w:World}{K:PySem.W.Frag}{mg:Str->Option Value}{base:Heap}{N ps:List Str}{qual:Str}{scope:Scope}{f:Addr}{cd:Value}{A:Around}{outer:List Env}{s s1:Shared}{H:Hp}{E:XK}{us:List Value}{vs:List V}
  (S:av N ps scope) (hd:A.handled=none) (e0:xX P w K mg base A outer s H) (hl:vs.length=ps.length) (r:Vals vs us)
  (x:InCallC s s.heap.objs.size (bindL (envOfC qual scope s.heap.objs.size f cd).kindOf (ps.zip us) fun _=>none) (cellsFrom (s.heap.objs.size+1) scope.names []) (bindC (envOfC qual scope s.heap.objs.size f cd).kindOf (ps.zip us) fun _=>none) s1) :
  Inv (fA CX P w K mg base N qual scope f cd A outer s H E) [] (start N vs) H s1:=by
 have hpl:ps.length<=N.length:=by have:=congrArg List.length S.pre;rw[List.length_take] at this;lia
 obtain⟨h1,tk,rfl,hk⟩:=x.done;have noA:∀ b:Addr,b∉(fA CX P w K mg base N qual scope f cd A outer s H E).ex:=fun b z=>absurd (show b∈([]:List Addr) from z) (by simp)
 refine⟨⟨e0.mod,S.kind,rfl,rfl,Nat.le_refl _,fun y z c h1 h2=>?_,fun y hy=>?_,fun y c _ h=>?_,fun _=>hd,Around.frames_deeper e0.frames,.inr ⟨rfl,rfl⟩,fun b z=>absurd z (noA b),e0.bs,e0.x_,fun b _ _=>noA b,fun b z=>absurd z (noA b),e0.iN,e0.BV,e0.tabs⟩,
  rfl,e0.bare,Un.kept hk,⟨_,x.toInCall.ns,fun i y v h1 h2 h3=>?_⟩,fun y c h=>⟨_,x.cell y c h⟩,e0.aE.fresh (Nat.le_refl _),fun y c h=>?_,fun p hp=>absurd (show p∈([]:List (Addr×Obj)) from hp) (by simp),e0.aE.kept hk,?_⟩
 ·exact name_of_addr x.apart (PySem.mem_of_lookup h1) (PySem.mem_of_lookup h2)
 ·have hy:scope.names.lookup y=some .cell\/scope.names.lookup y=some .free:=hy;rcases hy with hy | hy
  ·exact mE hy
  ·exact absurd rfl (S.Az _ (PySem.mem_of_lookup hy))
 ·exact Nat.le_of_lt (x.above y c (PySem.mem_of_lookup h))
 ·have hi:i < vs.length:=by
   unfold start at h2;by_cases hi:i < vs.length
   ·exact hi
   ·rw[List.getElem?_append_right (by simpa using hi)] at h2
    rw[List.getElem?_replicate] at h2
    split at h2<;>cases h2
  have ha:vs[i]?=some v:=by
   unfold start at h2;rw[List.getElem?_append_left (by simpa using hi),List.getElem?_map] at h2
   cases e:vs[i]? with
   | none=>rw[e] at h2;cases h2
   | some a=>rw[e] at h2;cases h2;rfl
  obtain⟨u,hu,rv⟩:=r.get ha;have hp:ps[i]?=some y:=by
   rw[<- S.pre,List.getElem?_take_of_lt (by lia)];exact h1
  have ndP:ps.Nodup:=by rw[<- S.pre];exact S.nd.sublist (List.take_sublist _ _)
  refine⟨u,rv,?_⟩;rcases S.par y (List.mem_of_getElem? hp) with k | k
  ·exact .inl ⟨k,jB ndP hp hu k⟩
  ·obtain⟨c,e⟩:=mE (n:=s.heap.objs.size+1) k;refine .inr ⟨.inl k,c,e,?_⟩;have q:=x.cell y c e;rw[jq ndP hp hu (by show scope.names.lookup y≠_;rw[k];decide)] at q
   exact q
 ·exact e0.aE.fresh (Nat.le_of_lt (x.above y c (PySem.mem_of_lookup h)))
 ·unfold start;show _=N.length;rw[List.length_append,List.length_map,List.length_replicate];lia
theorem zj{CX:kT}{P:Program}{w:World}{K:PySem.W.Frag}{mg:Str->Option Value}{base:Heap}{k:Nat}{f:Addr}{name qual:Str}{params:Arguments}{body:List Stmt}{scope:Scope}{dV kV doc pm cdv ct oc:Value}{an od:Option Addr}
  {osl:Array (Option Value)} {N ps:List Str} {sp:Sp} (lk:K.lookup f=some ⟨oc,od,.func (PySem.W.fnOf name qual params body scope dV kV doc pm an cdv ct),osl⟩) (hcd:PySem.W.codeIn K cdv qual=true) (S:av N ps scope)
  (len:∀ vs H Q E,sp vs H Q E->vs.length=ps.length)
  (hbody:∀ (A:Around) (outer:List Env) (s:Shared) (H:Hp) (vs:List V) (Q:VK) (E:XK),bC k (A.deeper (envOfC qual scope s.heap.objs.size f cdv))->sp vs H Q E ->
   ∃ t,n9 (fA CX P w K mg base N qual scope f cdv A outer s H E) body t/\t { nx:=fun _ H'=>Q .aI H',rt:=Q } (start N vs) H) :
  df P w K mg base CX (k+1) f (PySem.W.fnOf name qual params body scope dV kV doc pm an cdv ct) ps sp:=by
 refine⟨len,fun A outer s H args us vs Q E hr e0 hb r hsp=>?_⟩;have hl:=len _ _ _ _ hsp;have KX:K.In s.heap:=e0.mod.xV.keeps fun b o e=>(e0.bs b o e).1;have lim:s.heap.NoLimit:=e0.mod.nolimit.keeps fun b o e=>(e0.bs b o e).1;have hkind:∀ y∈ps.zip us,scope.names.lookup y.1=some .local\/(scope.names.lookup y.1=some .cell/\((cellsFrom (s.heap.objs.size+1) scope.names []).lookup y.1).isSome=true):=fun⟨n,v⟩ hy=>by
  rcases S.par n (List.of_mem_zip hy).1 with q | q
  ·exact .inl q
  ·exact .inr ⟨q,PySem.W.cellsFrom_some _ _ _ (.inl q)⟩
 refine codeAny_call_function hr.depth (KX _ _ lk) rfl S.co S.gen rfl (PySem.W.codeRec_of KX hcd) (hb _ _ _ _ ?_);refine wpAny_newFunctionEnv_cells S.kind hkind fun env he s1 x=>?_;subst he;refine⟨lim.keeps x.toInCall.keep,codeAny_func ?_⟩;obtain⟨t,ht,hq⟩:=hbody A outer s H vs Q E (hr.deeper _) hsp;have I:Inv (fA CX P w K mg base N qual scope f cdv A outer s H E) [] (start N vs) H s1:=rJ S hr.hd e0 hl r x;refine wpAny_mono (ht [] s1 (start N vs) H _ I hq) (fun fl s' hs=>?_) fun e s' hs=>hs;have fin:∀ {σ':St} {H':Hp} {v:V} {u:Value},Inv (fA CX P w K mg base N qual scope f cdv A outer s H E) [] σ' H' s'->RelV v u->Q v H'->CE outer P w H s Q u s':=
  fun {σ' H' v u} J rv q=>⟨v,H',J.os,J.bare,J.base,J.aE,rv,q⟩
 cases fl with
 | ret u =>
  obtain⟨v,σ',H',J,rv,q⟩:=hs;exact fin J rv q
 | next =>
  obtain⟨σ',H',J,q⟩:=hs;exact fin (v:=V.aI) (u:=Value.none) J rfl q
 | brk =>
  obtain⟨_,_,_,q⟩:=hs;exact False.elim q
 | cont =>
  obtain⟨_,_,_,q⟩:=hs;exact False.elim q
section
variable {X:Cx} {x:Str} {p pos:Pos} {e:Expr} {es:List Expr} {t:TA} {id T:String} {r:List V->Hp->VK->Prop}
def rX(r:List V->Hp->VK->Prop)(t:TA):TE:=fun σ H Q=>t σ H fun vs H1=>r vs H1 Q
theorem sQ(hc:aQ X (.builtin id) r)(hg:Gl X x)(hm:X.mg x=none)(hv:bootBuiltins x=some (.builtin id))(ha:PA X (e::es) t)(hn:x≠"__name__":=by decide)(hdb:(x ==("__debug__":Str))=false:=by decide)
  (he:starEach (e::es) X.env=(false,eval e X.env)::starEach es X.env:=by rfl) (hpl:(backTo pos (starEach es X.env)).any (·.1)=false:=by rfl):PE X (.Call (.Name x p) (e::es) [] pos) (rX r t):=by
 intro pins s σ H Q I h;refine wpAny_Call_Name_kw (dc I hg hm hv ?_ hn hdb);exact PyProof.Rows.callWith_builtin1 (bw (ha pos pins s σ H _ I h) fun us s1 ⟨vs,H1,I1,r1,q1⟩=>hc pins s1 σ H1 vs us Q I1 r1 q1) he hpl
theorem qV(hc:aQ X (.type T) r)(hg:Gl X x)(hm:X.mg x=none)(hv:bootBuiltins x=some (.type T))(ha:PA X (e::es) t)(hn:x≠"__name__":=by decide)(hdb:(x ==("__debug__":Str))=false:=by decide)
  (he:starEach (e::es) X.env=(false,eval e X.env)::starEach es X.env:=by rfl) (hpl:(backTo pos (starEach es X.env)).any (·.1)=false:=by rfl):PE X (.Call (.Name x p) (e::es) [] pos) (rX r t):=by
 intro pins s σ H Q I h;refine wpAny_Call_Name_kw (dc I hg hm hv ?_ hn hdb);exact PyProof.Rows.callWith_type1 (bw (ha pos pins s σ H _ I h) fun us s1 ⟨vs,H1,I1,r1,q1⟩=>hc pins s1 σ H1 vs us Q I1 r1 q1) he hpl
end
end L2
namespace HT
open PySem PyProof.Rows
section
open PySem.SeqAt
open PySem.AutoSeq1 (wpAny_loadPart')
open PySem.MeetsSeq PySem.MeetsSeq2 PySem.MeetsSeq3
end
section
variable {prog:Program} {w:World} {A:Around} {E:Value->Shared->Prop} {s:Shared}
theorem xF{t b:Addr}{vs ws:List Value}{Q:Value->Shared->Prop}(ht:IsTup s.heap t vs.toArray)(hb:IsTup s.heap b ws.toArray)(hv:vs≠[])
  (h1:ws=[]->Q (.ref t) s) (h2:ws≠[]->Q (.ref s.heap.objs.size) { s with heap:=s.heap.push { cls:=.type "tuple",data:=.seq (vs++ws).toArray } })
  (hsz:vs.length+ws.length<=sizeLine):wpAny (model prog w) A (binaryOp .Add (.ref t) (.ref b)) Q E s:=by
 obtain⟨⟨cls,dd,data,sl⟩,ho,hc,n,hd⟩:=id ht;obtain⟨⟨cls2,dd2,data2,sl2⟩,ho2,hc2,n2,hd2⟩:=id hb;simp only at hc hd hc2 hd2;subst hc hd hc2 hd2;have e:vs.toArray++ws.toArray=(vs++ws).toArray:=by simp
 by_cases hw:ws=[]
 ·exact concat_meets ⟨_,ho,rfl⟩ ⟨_,ho2,rfl⟩ noFill_tuple_add seq_tuple_add PySem.F.slot_tuple_add PySem.F.entry_tuple_add (PySem.F.args_tuple_add_2 _ _)
   (tuple_addW1 t b vs.toArray ws.toArray n n2 dd dd2 sl sl2 (by simpa using hv) (by simp[hw])) ⟨ho,ho2,h1 hw⟩
 ·refine concat_meets ⟨_,ho,rfl⟩ ⟨_,ho2,rfl⟩ noFill_tuple_add seq_tuple_add PySem.F.slot_tuple_add PySem.F.entry_tuple_add (PySem.F.args_tuple_add_2 _ _)
   (tuple_addW2 t b vs.toArray ws.toArray n n2 dd dd2 sl sl2 (by simpa using hv) (by simpa using hw) (by rw[List.size_toArray,List.size_toArray];exact hsz)) ⟨ho,ho2,?_⟩
  rw[e];exact h2 hw
def bt(n d:Nat):Option Int->Nat
 | none=>d
 | some v=>if v < 0 then (v+(n:Int)).toNat else min v.toNat n
theorem dW(n d:Nat):bt n d none=d:=rfl
theorem fm(n d k:Nat):bt n d (some (k:Int))=min k n:=by
 show (if (k:Int) < 0 then ((k:Int)+(n:Int)).toNat else min (k:Int).toNat n)=min k n
 rw[if_neg (by lia),Int.toNat_natCast]
theorem mZ(n d:Nat)(hd:d<=n)(o:Option Int):bt n d o<=n:=by
 cases o with
 | none=>exact hd
 | some v =>
  show (if v < 0 then (v+(n:Int)).toNat else min v.toNat n)<=n
  by_cases hv:v < 0
  ·rw[if_pos hv];lia
  ·rw[if_neg hv];exact Nat.min_le_right _ _
theorem pF(v:Int)(n d:Nat):(if v < 0 then max (v+(n:Int)) 0 else min v (n:Int))=((bt n d (some v):Nat):Int):=by
 show (if v < 0 then max (v+(n:Int)) 0 else min v (n:Int))=(((if v < 0 then (v+(n:Int)).toNat else min v.toNat n):Nat):Int)
 by_cases hv:v < 0
 ·simp only[if_pos hv];lia
 ·simp only[if_neg hv];lia
theorem nO(lo hi:Option Int)(n:Nat):Builtin.Slice.sliceAdjust lo hi 1 (n:Int)=(((bt n 0 lo:Nat):Int),((bt n n hi:Nat):Int)):=by
 have h1:¬ ((1:Int) < 0):=by lia
 unfold Builtin.Slice.sliceAdjust;simp only[h1,if_false];refine Prod.ext ?_ ?_
 ·cases lo with
  | none=>rfl
  | some v=>exact pF v n 0
 ·cases hi with
  | none=>rfl
  | some v=>exact pF v n n
theorem ot(i j:Nat):Builtin.Slice.slicePlaces (i:Int) (j:Int) 1=j - i:=by
 unfold Builtin.Slice.slicePlaces;have h1:(1:Int) > 0:=by lia
 simp only[h1,if_true,Int.ediv_one]
 split<;>lia
theorem g_{v:Value}{o:Option Int}{Q:Option Int->Shared->Prop}(p:IsPart v o)(h:Q o s):wpAny (model prog w) A (Builtin.Slice.slicePartIndex v) Q E s:=by
 cases p with
 | none=>exact slicePart_none h
 | int i t=>exact slicePart_int h
theorem dz{sl:Addr}{vl vu:Value}{lo hi:Option Int}{n:Nat}{Q:Int×Int×Nat->Shared->Prop}(hs:s.heap.IsSliceOf sl vl vu .none)(pl:IsPart vl lo)(pu:IsPart vu hi)
  (h:Q (((bt n 0 lo:Nat):Int),1,bt n n hi - bt n 0 lo) s):wpAny (model prog w) A (Builtin.Slice.sliceApplied (.ref sl) (pure (n:Int))) Q E s:=by
 obtain⟨os,hos,hcs,hds⟩:=id hs;unfold Builtin.Slice.sliceApplied Builtin.Slice.sliceFields;refine wpAny_bind (wpAny_bind (wpAny_field hos hds (x:=vl) rfl (wpAny_bind (wpAny_field hos hds (x:=vu) rfl (wpAny_bind (wpAny_field hos hds (x:=.none) rfl (wpAny_pure ?_)))))));refine wpAny_bind (slicePart_none ?_);show wpAny _ _ (if ((1:Int) == 0)=true then _ else _) _ _ s
 rw[if_neg (by decide)]
 refine wpAny_bind (g_ pl (wpAny_bind (g_ pu (wpAny_bind (wpAny_pure ?_)))));show wpAny _ _ (match Builtin.Slice.sliceAdjust lo hi 1 (n:Int) with | (lo,hi)=>pure (lo,(1:Int),Builtin.Slice.slicePlaces lo hi 1)) _ _ s
 rw[nO lo hi n];show wpAny _ _ (pure (((bt n 0 lo:Nat):Int),(1:Int),Builtin.Slice.slicePlaces ((bt n 0 lo:Nat):Int) ((bt n n hi:Nat):Int) 1)) _ _ s;rw[ot];exact wpAny_pure h
theorem vz(xs:Array Value)(i k:Nat):((List.range k).filterMap fun (m:Nat)=>xs[((i:Int)+(m:Int)*1).toNat]?).toArray=((xs.toList.drop i).take k).toArray:=by
 have e:(fun (m:Nat)=>xs[((i:Int)+(m:Int)*1).toNat]?)=fun m=>xs[i+m]?:=by
  funext m
  have:((i:Int)+(m:Int)*1).toNat=i+m:=by lia
  rw[this]
 rw[e];have:=pick_run xs i k;rw[List.filterMap_map] at this;have e2:((fun x=>xs[x]?) ∘ fun x=>i+x)=fun m=>xs[i+m]?:=rfl;rw[e2] at this;rw[this]
theorem fw{t sl:Addr}{items:Array Value}{vl vu:Value}{lo hi:Option Int}{Q:Value->Shared->Prop}(ht:IsTup s.heap t items)(hs:s.heap.IsSliceOf sl vl vu .none)(pl:IsPart vl lo)(pu:IsPart vu hi)
  (hw:¬ (bt items.size 0 lo=0/\bt items.size items.size hi=items.size))
  (h:Q (.ref s.heap.objs.size) { s with heap:=s.heap.push { cls:=.type "tuple",data:=.seq ((items.toList.drop (bt items.size 0 lo)).take (bt items.size items.size hi - bt items.size 0 lo)).toArray } })
  (hsz:items.size<=sizeLine):wpAny (model prog w) A (getItem (.ref t) (.ref sl)) Q E s:=by
 have htake:sizeOk (.seq ((items.toList.drop (bt items.size 0 lo)).take (bt items.size items.size hi - bt items.size 0 lo)).toArray):=by
  show ((items.toList.drop (bt items.size 0 lo)).take (bt items.size items.size hi - bt items.size 0 lo)).toArray.size<=sizeLine;rw[List.size_toArray,List.length_take,List.length_drop,Array.length_toList];exact Nat.le_trans (Nat.min_le_right _ _) (Nat.le_trans (Nat.sub_le _ _) hsz)
 have hj:bt items.size items.size hi<=items.size:=mZ _ _ (Nat.le_refl _) hi;obtain⟨os,hos,hcs,hds⟩:=id hs;have hTs:s.TypeIs (.ref sl) "slice":=⟨os,hos,hcs⟩;unfold getItem
 try with_reducible refine wpAny_holding ?_
 first | refine wpAny_bind (wpAny_pure ?_) | skip
 refine wpAny_bind (wpAny_sequenceKey ht.typeIs (by decide) ?_)
 refine wpAny_bind (wpAny_callSpecial?_slot (name:=Str.ofString "__getitem__") ht.typeIs PyProof.Rows.slot_tuple_getitem
  (wpAny_call_entry PyProof.Rows.slot_tuple_getitem ht.typeIs entry_tuple_getitem ?_ (args_tuple_getitem _ _)))
 show wpAny _ _ (Builtin.Tuple.tupleItemsOf (.ref t) >>= _) _ _ s;refine wpAny_bind (tupleItemsOf_ ht ?_);refine wpAny_bind (wpAny_typeOf hTs ?_);rw[if_pos (by decide)]
 refine wpAny_bind (dz hs pl pu ?_);have hno:¬ ((((bt items.size 0 lo:Nat):Int) == 0 && (1:Int) == 1 && (bt items.size items.size hi - bt items.size 0 lo) == items.size)=true):=by
  intro q;rw[Bool.and_eq_true,Bool.and_eq_true] at q;have q1:((bt items.size 0 lo:Nat):Int)=0:=eq_of_beq q.1.1;have q2:bt items.size items.size hi - bt items.size 0 lo=items.size:=eq_of_beq q.2;exact hw ⟨by lia,by lia⟩
 show wpAny _ _ (if (((bt items.size 0 lo:Nat):Int) == 0 && (1:Int) == 1 && (bt items.size items.size hi - bt items.size 0 lo) == items.size)=true then _ else _) _ _ s
 rw[if_neg hno,vz]
 first
  | exact wpAny_bind (m:=Builtin.Tuple.tupleExact _) (wpAny_newObj_type (wpAny_pure ⟨_,rfl,wpAny_pure h⟩) htake)
  | exact wpAny_bind (m:=Builtin.Tuple.tupleExact _) (wpAny_newObj_type (wpAny_bind (wpAny_pure (wpAny_pure ⟨_,rfl,wpAny_pure h⟩))) htake)
  | exact wpAny_bind (wpAny_bind (m:=Builtin.Tuple.tupleExact _) (wpAny_newObj_type (wpAny_pure (wpAny_pure ⟨_,rfl,wpAny_pure h⟩)) htake))
  | exact wpAny_bind (wpAny_bind (m:=Builtin.Tuple.tupleExact _) (wpAny_newObj_type (wpAny_pure ⟨_,rfl,wpAny_pure h⟩) htake))
end
end HT
namespace L2
open PySem PySem.Spec PyProof.Rows
noncomputable abbrev TO:=St->Hp->(Option Int->Hp->Prop)->Prop
def PO(X:Cx)(e:Option Expr)(t:TO):Prop:=
 ∀ (pins:List (Addr×Obj)) (s:Shared) (σ:St) (H:Hp) (Q:Option Int->Hp->Prop),Inv X pins σ H s->t σ H Q ->
  wpAny (model X.prog X.w) X.A (evalPart e X.env) (fun u s'=>∃ o H',Inv X pins σ H' s'/\IsPart u o/\Q o H') X.xe s
def pE:TO:=fun _ H Q=>Q none H
def zB(t:TE):TO:=fun σ H Q=>t σ H fun x H1=>∃ i,x=.int i/\Q (some i) H1
theorem intsAre_of{ns:List Int}:∀ {us:List Value},Vals (ns.map V.int) us->IntsAre us ns:=by
 induction ns with
 | nil=>intro us r;rw[List.map_nil] at r;cases r;exact .nil
 | cons n ns ih =>
  intro us r;rw[List.map_cons] at r
  cases r with
  | cons r1 r2 =>
   obtain⟨t,e⟩:=r1;subst e;exact .cons n t (ih r2)
section
variable {X:Cx} {e:Expr} {te:TE} {lo hi:Option Expr} {tl th:TO} {pos p2:Pos}
theorem oO:PO X none pE:=by
 intro pins s σ H Q I h;rw[evalPart_none];exact wpAny_pure ⟨none,H,I,.none,h⟩
theorem jL(h:PE X e te):PO X (some e) (zB te):=by
 intro pins s σ H Q I hw;rw[evalPart_some];refine bw (h pins s σ H _ I hw) fun u s1 ⟨x,H1,I1,r1,q1⟩=>?_;obtain⟨i,rfl,q⟩:=q1;obtain⟨t,rfl⟩:=r1;exact⟨some i,H1,I1,.int i t,q⟩
def sf(X:Cx)(r:V->Option Int->Option Int->Hp->VK->Prop):Prop:=
 ∀ (pins:List (Addr×Obj)) (s:Shared) (σ:St) (H:Hp) (x:V) (v vl vu:Value) (lo hi:Option Int) (sl:Addr) (Q:VK),Inv X pins σ H s->RelV x v->s.heap.IsSliceOf sl vl vu .none->IsPart vl lo->IsPart vu hi->r x lo hi H Q ->
  ∃ T id,typeLookup (.type T) "__getitem__"=pure (some (.builtin id))/\s.TypeIs v T/\wpAny (model X.prog X.w) X.A (getItem v (.ref sl)) (EP X pins σ Q) X.xe s
theorem sf.or{r r':V->Option Int->Option Int->Hp->VK->Prop}(h:sf X r)(h':sf X r'):sf X (fun x lo hi H Q=>r x lo hi H Q\/r' x lo hi H Q):=by
 intro pins s σ H x v vl vu lo hi sl Q I rx hs pl pu q;rcases q with q | q
 ·exact h pins s σ H x v vl vu lo hi sl Q I rx hs pl pu q
 ·exact h' pins s σ H x v vl vu lo hi sl Q I rx hs pl pu q
def Gd(r:V->Option Int->Option Int->Hp->VK->Prop)(te:TE)(tl th:TO):TE:=fun σ H Q=>te σ H fun x H1=>tl σ H1 fun l H2=>th σ H2 fun u H3=>r x l u H3 Q
theorem tu{r:V->Option Int->Option Int->Hp->VK->Prop}(hr:sf X r)(he:PE X e te)(hl:PO X lo tl)(hu:PO X hi th):PE X (.Subscript e (.Slice lo hi none p2) pos) (Gd r te tl th):=by
 intro pins s σ H Q I h;refine Subscript_ (bw (he pins s σ H _ I h) fun v s1 ⟨x,H1,I1,r1,q1⟩=>?_);refine wpAny_Slice (bw (hl pins s1 σ H1 _ I1 q1) fun vl s2 ⟨l,H2,I2,pl,q2⟩=>bw (hu pins s2 σ H2 _ I2 q2) fun vu s3 ⟨u,H3,I3,pu,q3⟩=>?_);rw[evalPart_none];refine wpAny_pure ?_;have I4:Inv X pins σ H3 { s3 with heap:=s3.heap.push { cls:=.type "slice",data:=.fields #[vl,vu,.none] } }:=I3.kept (t':=s3.toks) fun b ob q=>Heap.get?_push_of_some _ q
 obtain⟨T,id,hT,ht,hg⟩:=hr pins { s3 with heap:=s3.heap.push { cls:=.type "slice",data:=.fields #[vl,vu,.none] } } σ H3 x v vl vu l u s3.heap.objs.size Q I4 r1 (Heap.IsSliceOf.new ..) pl pu q3
 show wpAny (model X.prog X.w) X.A (subscriptTail e (.Slice lo hi none p2) v (.ref s3.heap.objs.size)) (EP X pins σ Q) X.xe { s3 with heap:=s3.heap.push { cls:=.type "slice",data:=.fields #[vl,vu,.none] } }
 exact tail_any (ops:=[.ref s3.heap.objs.size,v]) ht hT hg (by with_unfolding_all rfl)
def kG(xs:List V)(lo hi:Option Int):List V:=(xs.drop (HT.bt xs.length 0 lo)).take (HT.bt xs.length xs.length hi - HT.bt xs.length 0 lo)
theorem f_(xs:List V)(lo hi:Option Int):(kG xs lo hi).length<=xs.length:=by
 unfold kG;rw[List.length_take,List.length_drop];exact Nat.le_trans (Nat.min_le_right _ _) (Nat.sub_le _ _)
def ym(K:PySem.W.Frag):V->Option Int->Option Int->Hp->VK->Prop:=fun x lo hi H Q=>∃ a xs,x=.ref a/\bu K H a xs /\
 ¬ (HT.bt xs.length 0 lo=0/\HT.bt xs.length xs.length hi=xs.length)/\∀ p,H p=none->Q (.ref p) (upd H p (.tup (kG xs lo hi)))
theorem zR:sf X (ym X.K):=by
 intro pins s σ H x v vl vu lo hi sl Q I rx hs pl pu h;obtain⟨a,xs,rfl,hx,hw,q⟩:=h;cases rx;obtain⟨its,r,ht,hz⟩:=I.tuple hx;have hlen:its.toArray.size=xs.length:=by rw[List.size_toArray];exact r.length.symm
 refine⟨"tuple",_,PyProof.Rows.slot_tuple_getitem.lookup,ht.typeIs,?_⟩;refine HT.fw ht hs pl pu (by rw[hlen];exact hw) ?_ (by rw[hlen];exact hz)
 rw[hlen];refine⟨.ref s.heap.objs.size,_,I.laid (t':=s.toks) (o:=.tup (kG xs lo hi)) (fun b ob q=>Heap.get?_push_of_some _ q) (Nat.le_refl _) ?_,rfl,q _ (I.aE.fresh (Nat.le_refl _))⟩;exact⟨Nat.le_trans (f_ xs lo hi) hz,_,(r.drop (HT.bt xs.length 0 lo)).take (HT.bt xs.length xs.length hi - HT.bt xs.length 0 lo),cT.new _ _⟩
def Em(K:PySem.W.Frag):R2:=fun x y H Q=>∃ a b xs ys,x=.ref a/\y=.ref b/\bu K H a xs/\bu K H b ys/\xs≠[]/\xs.length+ys.length<=sizeLine /\
 (ys=[]->Q (.ref a) H)/\(ys≠[]->∀ p,H p=none->Q (.ref p) (upd H p (.tup (xs++ys))))
theorem Vals.jN{xs:List V}{us:List Value}(r:Vals xs us):us=[] ↔ xs=[]:=by
 cases r with
 | nil=>simp
 | cons _ _=>simp
theorem qd:cN X (binaryOp .Add) (Em X.K):=by
 intro pins s σ H x y v u Q I rx ry h;obtain⟨a,b,xs,ys,rfl,rfl,ha,hb,hx,hz,q1,q2⟩:=h;cases rx;cases ry;obtain⟨its,r1,p1,_⟩:=I.tuple ha;obtain⟨its2,r2,p2,_⟩:=I.tuple hb;refine HT.xF p1 p2 (fun z=>hx (r1.jN.mp z)) (fun z=>⟨.ref a,H,I,rfl,q1 (r2.jN.mp z)⟩) (fun z=>?_) (by rw[<- r1.length,<- r2.length];exact hz)
 refine⟨.ref s.heap.objs.size,_,I.laid (t':=s.toks) (o:=.tup (xs++ys)) (fun b ob q=>Heap.get?_push_of_some _ q) (Nat.le_refl _) ?_,rfl,q2 (fun w=>z (r2.jN.mpr w)) _ (I.aE.fresh (Nat.le_refl _))⟩;exact⟨by rw[List.length_append];exact hz,_,r1.append r2,cT.new _ _⟩
end
def kU(n:Nat)(i:Int):Option Nat:=if 0<=i then (if i < n then some i.toNat else none) else if -(n:Int)<=i then some (i+n).toNat else none
def bS{α:Type}(xs:List α)(i:Int):Option α:=(kU xs.length i).bind fun j=>xs[j]?
theorem qr{n:Nat}{i:Int}{j:Nat}(h:kU n i=some j):seqIndex? i n=some j/\j < n/\-(n:Int)<=i/\i < n:=by
 unfold kU at h;by_cases h0:0<=i
 ·rw[if_pos h0] at h;by_cases h1:i < n
  ·rw[if_pos h1] at h;have e:i.toNat=j:=Option.some.inj h;exact⟨by rw[seqIndex_of h0 h1,e],by lia,by lia,h1⟩
  ·rw[if_neg h1] at h;cases h
 ·rw[if_neg h0] at h;by_cases h1:-(n:Int)<=i
  ·rw[if_pos h1] at h;have e:(i+n).toNat=j:=Option.some.inj h;exact⟨by rw[seqIndex_neg (by lia) h1,e],by lia,h1,by lia⟩
  ·rw[if_neg h1] at h;cases h
theorem jV{α:Type}{xs:List α}{i:Int}{v:α}(h:bS xs i=some v):∃ j,seqIndex? i xs.length=some j/\xs[j]?=some v/\j < xs.length/\-(xs.length:Int)<=i/\i < xs.length:=by
 unfold bS at h
 cases e:kU xs.length i with
 | none=>rw[e] at h;cases h
 | some j =>
  rw[e] at h;obtain⟨h1,h2,h3,h4⟩:=qr e;exact⟨j,h1,h,h2,h3,h4⟩
theorem cJ{α:Type}{xs:List α}{j:Nat}{v:α}(h:xs[j]?=some v):bS xs (j:Int)=some v:=by
 have hj:j < xs.length:=(List.getElem?_eq_some_iff.mp h).1;have e:kU xs.length (j:Int)=some j:=by
  unfold kU;rw[if_pos (by lia),if_pos (by lia)];simp
 unfold bS;rw[e];exact h
def pP(b:Expr):Prop:=∀ o i,subscripted b false o i=operate [o,i] (getItem o i)
def oW(X:Cx)(r:R2):Prop:=
 ∀ (value slice:Expr) (pins:List (Addr×Obj)) (s:Shared) (σ:St) (H:Hp) (x y:V) (v u:Value) (Q:VK),Inv X pins σ H s->RelV x v->RelV y u->r x y H Q ->
  subscripted slice false v u=operate [v,u] (getItem v u)->wpAny (model X.prog X.w) X.A (subscriptTail value slice v u) (EP X pins σ Q) X.xe s
def CL(X:Cx)(id:String)(r:V->List V->Hp->VK->Prop):Prop:=
 ∀ (pins:List (Addr×Obj)) (s:Shared) (σ:St) (H:Hp) (x:V) (xs:List V) (v:Value) (us:List Value) (Q:VK),Inv X pins σ H s->RelV x v->Vals xs us->r x xs H Q ->
  wpAny (model X.prog X.w) X.A (call (.builtin id) (v::us)) (EP X pins σ Q) X.xe s
section
variable {X:Cx} {a b:Expr} {ta tb:TE} {pos:Pos}
theorem oW.or{r r':R2}(h:oW X r)(h':oW X r'):oW X (fun x y H Q=>r x y H Q\/r' x y H Q):=by
 intro value slice pins s σ H x y v u Q I rx ry q hs;rcases q with q | q
 ·exact h value slice pins s σ H x y v u Q I rx ry q hs
 ·exact h' value slice pins s σ H x y v u Q I rx ry q hs
theorem yV{r:R2}(hr:oW X r)(ha:PE X a ta)(hb:PE X b tb)(hs:pP b):PE X (.Subscript a b pos) (n_ r ta tb):=by
 intro pins s σ H Q I h;exact Subscript_ (AA ha hb I h fun v u s2 x y H2 I2 rx ry q=>hr a b pins s2 σ H2 x y v u Q I2 rx ry q (hs _ _))
def Cq(K:PySem.W.Frag):R2:=fun x y H Q=>∃ p xs i v,x=.ref p/\y=.int i/\bK K H p xs/\bS xs i=some v/\Q v H
def Eb(K:PySem.W.Frag):R2:=fun x y H Q=>∃ p xs i v,x=.ref p/\y=.int i/\bu K H p xs/\bS xs i=some v/\Q v H
def Dm:R2:=fun x y H Q=>∃ z i c,x=.str z/\y=.int i/\z.length<=sizeLine/\bS z.cps.toList i=some c/\Q (.str ⟨#[c]⟩) H
theorem yn:oW X (Cq X.K):=by
 intro value slice pins s σ H x y v u Q I rx ry h hs;obtain⟨p,xs,i,z,rfl,rfl,hq,he,q⟩:=h;cases rx;obtain⟨t,rfl⟩:=ry;obtain⟨its,r,pl,hz⟩:=I.list hq;obtain⟨j,h1,h2,h3,h4,h5⟩:=jV he;obtain⟨w,ew,rw'⟩:=r.get h2;have hl:=r.length;have hn:=dG;have fin:EP X pins σ Q w s:=⟨z,H,I,rw',q⟩;by_cases h0:0<=i
 ·have hj:i.toNat=j:=by
   rw[seqIndex_of h0 h5] at h1;exact Option.some.inj h1
  exact item_listR pl.isList h0 (by lia) (by rw[hj];simpa using ew) fin hs
 ·have hj:(i+(its.toArray.size:Int)).toNat=j:=by
   rw[seqIndex_neg (by lia) h4] at h1
   rw[List.size_toArray,<- hl];exact Option.some.inj h1
  exact subscriptTail_builtinR (x:=w) pl.isList.typeIs slot_list_getitem.lookup
   (wpAny_getItem_list_neg (Q:=fun r s'=>r=w/\EP X pins σ Q r s') pl.isList (by lia) (by rw[List.size_toArray]<;>lia) (by lia) (by rw[hj];simpa using ew) ⟨rfl,fin⟩) hs
theorem vx:oW X (Eb X.K):=by
 intro value slice pins s σ H x y v u Q I rx ry h hs;obtain⟨p,xs,i,z,rfl,rfl,hq,he,q⟩:=h;cases rx;obtain⟨t,rfl⟩:=ry;obtain⟨its,r,pl,hz⟩:=I.tuple hq;obtain⟨j,h1,h2,h3,h4,h5⟩:=jV he;obtain⟨w,ew,rw'⟩:=r.get h2;have hl:=r.length;have hn:=dG;have fin:EP X pins σ Q w s:=⟨z,H,I,rw',q⟩;exact subscriptTail_builtinR (x:=w) pl.typeIs slot_tuple_getitem.lookup
  (getItem_tuple (j:=j) (Q:=fun r s'=>r=w/\EP X pins σ Q r s') pl (by lia) (by lia) (by rw[List.size_toArray,<- hl];exact h1) (by simpa using ew) ⟨rfl,fin⟩) hs
theorem zC:oW X Dm:=by
 intro value slice pins s σ H x y v u Q I rx ry h hs;obtain⟨z,i,c,rfl,rfl,hz,he,q⟩:=h;obtain⟨t,rfl⟩:=rx;obtain⟨t',rfl⟩:=ry;obtain⟨j,h1,h2,h3,h4,h5⟩:=jV he;have hl:z.cps.toList.length=z.length:=by simp[Str.length]
 rw[hl] at h1 h4 h5;have hn:=dG;exact tail_any (typeIs_str s z t) slot_str_getitem.lookup (getItem_str (c:=c) (by
  have e1:decide (i < -(2 ^ 63:Int))=false:=decide_eq_false (by lia)
  have e2:decide (i >= 2 ^ 63)=false:=decide_eq_false (by lia)
  rw[e1,e2,Bool.or_false]) (by rw[h1];simpa using h2) ⟨.str ⟨#[c]⟩,H,I.tok _,⟨_,rfl⟩,q⟩) hs
def Eu(K:PySem.W.Frag):R2:=fun x y H Q=>Cq K x y H Q\/Eb K x y H Q\/Dm x y H Q
theorem sY:oW X (Eu X.K):=yn.or (vx.or zC)
theorem ni(its:List Value)(n j:Nat)(u:Value):Obj.mapSeq (·.setIfInBounds j u) { cls:=.type "list",data:=.seq its.toArray n }={ cls:=.type "list",data:=.seq (its.set j u).toArray n }:=by
 simp[Obj.mapSeq]
theorem Inv.lst{pins:List (Addr×Obj)}{σ:St}{H:Hp}{s:Shared}{p:Addr}{xs:List V}(I:Inv X pins σ H s)(h:H p=some (.lst xs)):
  ∃ (its:List Value) (n:Nat),Vals xs its/\s.heap.get? p=some { cls:=.type "list",data:=.seq its.toArray n }/\xs.length<=sizeLine:=by
 obtain⟨z,its,n,r,e⟩:=I.aE p _ h;exact⟨its,n,r,e,z⟩
theorem Inv.BK{pins:List (Addr×Obj)}{σ:St}{H:Hp}{s:Shared}{p:Addr}{xs ys:List V}{its its':List Value}{n n':Nat}{f:Obj->Obj}(I:Inv X pins σ H s)(h:H p=some (.lst xs))
  (ho:s.heap.get? p=some { cls:=.type "list",data:=.seq its.toArray n }) (hf:f { cls:=.type "list",data:=.seq its.toArray n }={ cls:=.type "list",data:=.seq its'.toArray n' }) (r:Vals ys its') (hz:ys.length<=sizeLine) (t:Nat) :
  Inv X pins σ (upd H p (.lst ys)) { s with heap:=s.heap.update p f,toks:=t }:=by
 have e:(s.heap.update p f).get? p=some { cls:=.type "list",data:=.seq its'.toArray n' }:=by
  rw[Heap.get?_update_self f ho (by rw[hf]<;>rfl),hf]
 refine I.write (x:=p) (e:=p) (by rw[h];trivial) (.inl rfl) (fun b u hb q=>(Heap.get?_update_other _ _ (Ne.symm hb)).trans q) ⟨_,e⟩ ?_
 exact⟨hz,its',n',r,e⟩
def Co:V->V->V->Hp->(Hp->Prop)->Prop:=fun o i v H Q=>∃ p xs k j,o=.ref p/\i=.int k/\H p=some (.lst xs)/\kU xs.length k=some j/\Q (upd H p (.lst (xs.set j v)))
theorem set_list:A4 X Co:=by
 intro pins s σ H o i v ov iv u Q I ro ri rv h;obtain⟨p,xs,k,j,rfl,rfl,hp,hj,q⟩:=h;cases ro;obtain⟨t,rfl⟩:=ri;obtain⟨its,n,r,ho,hz⟩:=I.lst hp;obtain⟨h1,h2,h3,h4⟩:=qr hj;have hl:=r.length;have hn:=dG;have I':Inv X pins σ (upd H p (.lst (xs.set j v))) { s with heap:=s.heap.update p (Obj.mapSeq (·.setIfInBounds j u)) }:=
  I.BK hp ho (ni its n j u) (r.set rv j) (by rw[List.length_set];exact hz) s.toks
 by_cases h0:0<=k
 ·have hk:k.toNat=j:=by
   rw[seqIndex_of h0 h4] at h1;exact Option.some.inj h1
  exact PySem.W.ki_setAt ho h0 (by lia) (by rw[List.size_toArray,<- hl];exact h4) (by rw[hk];exact⟨_,I',q⟩)
 ·have hk:(k+(its.toArray.size:Int)).toNat=j:=by
   rw[seqIndex_neg (by lia) h3] at h1
   rw[List.size_toArray,<- hl];exact Option.some.inj h1
  exact PySem.W.ki_setBack ho (by lia) (by rw[List.size_toArray,<- hl];exact h3) (by lia) (by rw[hk];exact⟨_,I',q⟩)
theorem kK(lo hi:Option Int)(n:Nat):(sliceBounds lo hi none n).1=((HT.bt n 0 lo:Nat):Int)/\(sliceBounds lo hi none n).2.1=((HT.bt n n hi:Nat):Int)/\(sliceBounds lo hi none n).2.2=1:=by
 refine⟨?_,?_,rfl⟩
 ·cases lo with
  | none=>simp[sliceBounds,HT.bt]
  | some i =>
   simp only[sliceBounds,HT.bt,Option.getD_none,show (1:Int) > 0 by decide,if_true]
   by_cases h:i < 0
   ·simp only[h,if_true]<;>lia
   ·simp only[h,if_false]<;>lia
 ·cases hi with
  | none=>simp[sliceBounds,HT.bt]
  | some i =>
   simp only[sliceBounds,HT.bt,Option.getD_none,show (1:Int) > 0 by decide,if_true]
   by_cases h:i < 0
   ·simp only[h,if_true]<;>lia
   ·simp only[h,if_false]<;>lia
theorem iY(its:List Value)(lo hi:Option Int):slicePick its.toArray lo hi none=((its.drop (HT.bt its.length 0 lo)).take (HT.bt its.length its.length hi - HT.bt its.length 0 lo)).toArray:=by
 obtain⟨h1,h2,h3⟩:=kK lo hi its.toArray.size;unfold slicePick;rw[h1,h2,h3];simp only[sliceRange_one,pick_run,List.size_toArray]<;>rfl
def D8(K:PySem.W.Frag):V->Option Int->Option Int->Hp->VK->Prop:=fun x lo hi H Q=>∃ a xs,x=.ref a/\bK K H a xs/\∀ p,H p=none->Q (.ref p) (upd H p (.lst (kG xs lo hi)))
theorem yx:sf X (D8 X.K):=by
 intro pins s σ H x v vl vu lo hi sl Q I rx hs pl pu h;obtain⟨a,xs,rfl,hx,q⟩:=h;cases rx;obtain⟨its,r,ht,hz⟩:=I.list hx;have hlen:=r.length;refine⟨"list",_,slot_list_getitem.lookup,ht.isList.typeIs,?_⟩;refine wpAny_getItem_list_slice ht.isList hs pl pu .none (by simp) ?_ (by rw[List.size_toArray]<;>lia)
 rw[iY,<- hlen];refine⟨.ref s.heap.objs.size,_,I.laid (t':=s.toks) (o:=.lst (kG xs lo hi)) (fun b ob q=>Heap.get?_push_of_some _ q) (Nat.le_refl _) ?_,rfl,q _ (I.aE.fresh (Nat.le_refl _))⟩;exact⟨Nat.le_trans (f_ xs lo hi) hz,_,0,(r.drop (HT.bt xs.length 0 lo)).take (HT.bt xs.length xs.length hi - HT.bt xs.length 0 lo),Heap.get?_push_size _ rfl⟩
def iF:V->Bool
 | .aI=>true
 | .bl _=>true
 | .int _=>true
 | .str _=>true
 | _=>false
def BZ:V->V->Bool
 | .aI,.aI=>true
 | .bl a,.bl b=>a == b
 | .bl a,.int b=>(if a then 1 else 0) == b
 | .int a,.bl b=>a ==(if b then 1 else 0)
 | .int a,.int b=>a == b
 | .str a,.str b=>a == b
 | _,_=>false
theorem t5{A:Around}{s:Shared}{y x:V}{u v:Value}(ry:RelV y u)(rx:RelV x v)(fy:iF y=true)(fx:iF x=true):SeqAt.EqAt A s u v (BZ y x):=by
 cases y with
 | aI =>
  cases ry
  cases x with
  | aI=>cases rx;exact SeqAt.EqAt.same _
  | bl b=>cases rx;exact SeqAt.EqAt.none_bool b
  | int b=>obtain⟨t,rfl⟩:=rx;exact SeqAt.EqAt.none_int b t
  | str b=>obtain⟨t,rfl⟩:=rx;exact SeqAt.EqAt.none_str b t
  | _=>exact absurd (show false=true from fx) Bool.false_ne_true
 | bl a =>
  cases ry
  cases x with
  | aI=>cases rx;exact SeqAt.EqAt.bool_none a
  | bl b=>cases rx;exact SeqAt.EqAt.bool_bool a b
  | int b=>obtain⟨t,rfl⟩:=rx;exact SeqAt.EqAt.bool_int a b t
  | str b=>obtain⟨t,rfl⟩:=rx;exact SeqAt.EqAt.bool_str a b t
  | _=>exact absurd (show false=true from fx) Bool.false_ne_true
 | int a =>
  obtain⟨t',rfl⟩:=ry
  cases x with
  | aI=>cases rx;exact SeqAt.EqAt.int_none a t'
  | bl b=>cases rx;exact SeqAt.EqAt.int_bool a t' b
  | int b=>obtain⟨t,rfl⟩:=rx;exact SeqAt.EqAt.int_int a t' b t
  | str b=>obtain⟨t,rfl⟩:=rx;exact SeqAt.EqAt.int_str a t' b t
  | _=>exact absurd (show false=true from fx) Bool.false_ne_true
 | str a =>
  obtain⟨t',rfl⟩:=ry
  cases x with
  | aI=>cases rx;exact SeqAt.EqAt.str_none a t'
  | bl b=>cases rx;exact SeqAt.EqAt.str_bool a t' b
  | int b=>obtain⟨t,rfl⟩:=rx;exact SeqAt.EqAt.str_int a t' b t
  | str b=>obtain⟨t,rfl⟩:=rx;exact SeqAt.EqAt.str_str a t' b t
  | _=>exact absurd (show false=true from fx) Bool.false_ne_true
 | _=>exact absurd (show false=true from fy) Bool.false_ne_true
theorem kQ:aQ X (.builtin "len") (fun xs H Q=>∃ p ys,xs=[.ref p]/\(bK X.K H p ys\/bu X.K H p ys)/\Q (.int ys.length) H):=by
 intro pins s σ H xs us Q I r h;obtain⟨p,ys,rfl,hq,q⟩:=h;obtain⟨u,rfl,rx⟩:=vals1 r;cases rx;have hn:=dG;rcases hq with hq | hq
 ·obtain⟨its,r',pl,hz⟩:=I.list hq;have hlen:=r'.length;exact Calls.call_len_list pl.isList (by simp only[List.size_toArray]<;>lia) ⟨.int ys.length,H,I.tok _,⟨s.toks+1,by rw[List.size_toArray,hlen]⟩,q⟩
 ·obtain⟨its,r',pl,hz⟩:=I.tuple hq;have hlen:=r'.length;exact len_tuple pl (by simp only[List.size_toArray]<;>lia) ⟨.int ys.length,H,I.tok _,⟨s.toks+1,by rw[List.size_toArray,hlen]⟩,q⟩
theorem ko:aQ X (.builtin "len") (fun xs H Q=>∃ z,xs=[.str z]/\z.length<=sizeLine/\Q (.int z.length) H):=by
 intro pins s σ H xs us Q I r h;obtain⟨z,rfl,hz,q⟩:=h;obtain⟨u,rfl,t,rfl⟩:=vals1 r;have hn:=dG;exact len_str (by lia) ⟨.int z.length,H,I.tok _,⟨_,rfl⟩,q⟩
theorem aQ.or{f:Value}{r r':List V->Hp->VK->Prop}(h:aQ X f r)(h':aQ X f r'):aQ X f (fun xs H Q=>r xs H Q\/r' xs H Q):=by
 intro pins s σ H xs us Q I rs q;rcases q with q | q
 ·exact h pins s σ H xs us Q I rs q
 ·exact h' pins s σ H xs us Q I rs q
theorem kI:aQ X (.type "list") (fun xs H Q=>∃ p ys,xs=[.ref p]/\(bK X.K H p ys\/bu X.K H p ys)/\∀ l,H l=none->Q (.ref l) (upd H l (.lst ys))):=by
 intro pins s σ H xs us Q I r h;obtain⟨p,ys,rfl,hq,q⟩:=h;obtain⟨u,rfl,rx⟩:=vals1 r;cases rx;have fin:∀ (its:List Value),Vals ys its->ys.length<=sizeLine->∀ (h':Heap) (c':Nat),(∀ b o',s.heap.get? b=some o'->h'.get? b=some o') ->
   h'.get? s.heap.objs.size=some { cls:=.type "list",dict:=none,data:=.seq its.toArray c',slots:=#[] }->EP X pins σ Q (.ref s.heap.objs.size) { s with heap:=h' }:=fun its r' hz h' c' kp e =>
  ⟨.ref s.heap.objs.size,_,I.laid (t':=s.toks) kp (Nat.le_refl _) (show aK X.prog X.w _ h' _ (.lst ys) from⟨hz,its,c',r',e⟩),rfl,q _ (I.aE.fresh (Nat.le_refl _))⟩
 rcases hq with hq | hq
 ·obtain⟨its,r',pl,hz⟩:=I.list hq;have hlen:=r'.length;obtain⟨o,ho,hc,n,hd⟩:=pl.isList;exact call_list_seq p (.inl rfl) ho hc hd (fun h' c' kp e=>fin its r' hz h' c' kp e) (by simp only[List.size_toArray]<;>lia)
 ·obtain⟨its,r',pl,hz⟩:=I.tuple hq;have hlen:=r'.length;obtain⟨o,ho,hc,n,hd⟩:=pl;exact call_list_seq p (.inr rfl) ho hc hd (fun h' c' kp e=>fin its r' hz h' c' kp e) (by simp only[List.size_toArray]<;>lia)
theorem iX:aQ X (.type "tuple") (fun xs H Q=>∃ p ys,xs=[.ref p]/\((bK X.K H p ys/\∀ l,H l=none->Q (.ref l) (upd H l (.tup ys)))\/(bu X.K H p ys/\Q (.ref p) H))):=by
 intro pins s σ H xs us Q I r h;obtain⟨p,ys,rfl,h⟩:=h;obtain⟨u,rfl,rx⟩:=vals1 r;cases rx;rcases h with ⟨hq,q⟩ | ⟨hq,q⟩
 ·obtain⟨its,r',pl,hz⟩:=I.list hq;have hlen:=r'.length;refine call_tuple_list pl.isList (fun h' kp=>?_) (by simp only[List.size_toArray]<;>lia)
  have I1:Inv X pins σ H { s with heap:=h' }:=I.kept (t':=s.toks) kp
  have I2:Inv X pins σ (upd H h'.objs.size (.tup ys)) { s with heap:=h'.push { cls:=.type "tuple",data:=.seq its.toArray } }:=
   I1.laid (t':=s.toks) (fun b o e=>Heap.get?_push_of_some _ e) (Nat.le_refl _) (show aK X.prog X.w _ _ _ (.tup ys) from⟨hz,its,r',cT.new _ _⟩)
  exact⟨.ref h'.objs.size,_,I2,rfl,q _ (I1.aE.fresh (Nat.le_refl _))⟩
 ·obtain⟨its,r',pl,hz⟩:=I.tuple hq;exact call_tuple_same pl ⟨.ref p,H,I,rfl,q⟩
def Ge(K:PySem.W.Frag)(T:String)(x:V)(H:Hp):Prop:=match x with
 | .str _=>T="str"
 | .int _=>T="int"
 | .ref p=>(T="list"/\∃ xs,bK K H p xs)\/(T="tuple"/\∃ o,K.lookup p=some o/\o.cls=.type "tuple"/\o.dict=none) \/
   (T="dict"/\((∃ kvs,H p=some (.dK kvs))\/∃ kvs,H p=some (.dT kvs)))\/(T="set"/\∃ S n,H p=some (.set S n))
 | _=>False
theorem Ba{pins:List (Addr×Obj)}{σ:St}{H:Hp}{s:Shared}{T:String}{x:V}{v:Value}(I:Inv X pins σ H s)(r:RelV x v)(ty:Ge X.K T x H):
  s.TypeIs v T/\∀ a,v=.ref a->∃ ob,s.heap.get? a=some ob/\ob.dict=none:=by
 cases x with
 | str z =>
  obtain⟨t,rfl⟩:=r
  cases (show T="str" from ty)
  exact⟨typeIs_str s z t,fun _ e=>nomatch e⟩
 | int i =>
  obtain⟨t,rfl⟩:=r
  cases (show T="int" from ty)
  exact⟨typeIs_int s i t,fun _ e=>nomatch e⟩
 | ref p =>
  cases r;rcases ty with ⟨rfl,xs,hq⟩ | ⟨rfl,o,hk,hc,hd⟩ | ⟨rfl,hk⟩ | ⟨rfl,S,n,hk⟩
  ·obtain⟨its,_,pl,_⟩:=I.list hq;refine⟨pl.isList.typeIs,fun a e=>?_⟩;cases e;obtain⟨o,n,e,c,hd,_⟩:=pl;exact⟨o,e,hd⟩
  ·refine⟨⟨o,I.pV p o hk,hc⟩,fun a e=>?_⟩;cases e;exact⟨o,I.pV _ o hk,hd⟩
  ·have z:∃ o,s.heap.get? p=some o/\o.ExactDict:=by
    rcases hk with ⟨kvs,hk⟩ | ⟨kvs,hk⟩
    ·obtain⟨_,_,_,_,o,_,_,e,ex,_⟩:=I.aE p _ hk;exact⟨o,e,ex⟩
    ·obtain⟨_,_,_,_,o,_,_,e,ex,_⟩:=I.aE p _ hk;exact⟨o,e,ex⟩
   obtain⟨o,e,ex⟩:=z;refine⟨⟨o,e,ex.1⟩,fun a e2=>?_⟩;cases e2;exact⟨o,e,ex.2.1⟩
  ·obtain⟨o,_,_,_,e,ex,_⟩:=I.aE p _ hk;refine⟨⟨o,e,ex.1⟩,fun a e2=>?_⟩;cases e2;exact⟨o,e,ex.2.1⟩
 | _=>exact False.elim ty
def Fc(K:PySem.W.Frag)(T:String)(r:V->List V->Hp->VK->Prop)(to:TE)(t:TA):TE:=fun σ H Q=>to σ H fun x H1=>Ge K T x H1/\t σ H1 fun xs H2=>r x xs H2 Q
variable {o e:Expr} {es:List Expr} {to:TE} {t:TA} {name:Str} {apos cpos:Pos} {T id:String} {r:V->List V->Hp->VK->Prop}
theorem CZ(pa:PlainAttrs T)(slot:Slot T name id)(hty:typeOf (.builtin id)=pure (.type "method_descriptor"))(hm:CL X id r)(ho:PE X o to)(ha:PA X (e::es) t)
  (hbase:attributeBase o name X.env (eval o X.env)=eval o X.env:=by rfl)
  (hfew:((backTo cpos (starEach (e::es) X.env)).all (fun x=>!x.1) && (backToKw cpos (keywordEach [] X.env)).all (fun x=>x.1.isSome)
   && decide ((e::es).length+([]:List Keyword).length+(if ([]:List Keyword).isEmpty then 0 else 1) < 30))=true:=by rfl)
  (hline:(apos.endLine == cpos.line)=true:=by rfl) (hs:starEach (e::es) X.env=(false,eval e X.env)::starEach es X.env:=by rfl) (hplain:(backTo cpos (starEach es X.env)).any (·.1)=false:=by rfl) :
  PE X (.Call (.Attribute o name apos) (e::es) [] cpos) (Fc X.K T r to t):=by
 intro pins s σ H Q I h;refine wpAny_Call_method_late hbase hfew hline rfl (bw (ho pins s σ H _ I h) fun v s1 ⟨x,H1,I1,r1,ty,q1⟩=>?_);obtain⟨h1,h2⟩:=Ba I1 r1 ty;refine⟨T,id,pa,slot,hty,h1,h2,?_⟩;have hA:=ha cpos pins s1 σ H1 _ I1 q1;rw[hs] at hA ⊢;refine Calls.callWith_builtin (by show (false || (backTo cpos (starEach es X.env)).any (·.1))=false;rw[hplain]<;>rfl) (Calls.evalArgs_plain ?_)
 exact bw hA fun us s2 ⟨vs,H2,I2,r2,q2⟩=>hm pins s2 σ H2 x vs v us Q I2 r1 r2 q2
/- xs.append(e),list.index on a module's tuple .. are CL facts of 06m -/
end
def Fg(X:Cx)(id:String)(r:V->List V->Hp->VK->Prop):Prop:=
 ∀ (pins:List (Addr×Obj)) (s:Shared) (σ:St) (H:Hp) (x:V) (xs:List V) (v:Value) (us:List Value) (Q:VK),Inv X pins σ H s->RelV x v->Vals xs us->r x xs H Q ->
  wpAny (model X.prog X.w) X.A (call (.builtin id) (v::us)) (EP X pins σ Q) X.xe s
theorem Vals.one:∀ {x:V} {us:List Value},Vals [x] us->∃ u,us=[u]/\RelV x u
 | _,_,.cons r .nil=>⟨_,rfl,r⟩
theorem Vals.rep{xs:List V}{us:List Value}(h:Vals xs us):∀ k:Nat,Vals (List.replicate k xs).flatten (List.replicate k us).flatten
 | 0=>.nil
 | k+1=>by
  rw[List.replicate_succ,List.replicate_succ,List.flatten_cons,List.flatten_cons];exact Vals.append h (Vals.rep h k)
theorem foldl_rep(its:List Value):∀ (k:Nat) (acc:List Value),
  List.foldl (fun x1 x2=>x1++x2) acc.toArray (List.replicate k its.toArray)=(acc++(List.replicate k its).flatten).toArray
 | 0,acc=>by simp
 | k+1,acc=>by
  have e:acc.toArray++its.toArray=(acc++its).toArray:=by simp
  have e2:(acc++its)++(List.replicate k its).flatten=acc++(List.replicate (k+1) its).flatten:=by
   rw[List.replicate_succ,List.flatten_cons,List.append_assoc]
  rw[<- e2,<- foldl_rep its k (acc++its),<- e,List.replicate_succ,List.foldl_cons]
section
variable {X:Cx} {pins:List (Addr×Obj)} {σ:St} {H:Hp} {s:Shared} {l b:Addr} {xs ys zs:List V}
theorem Inv.DT{its its':List Value}{n:Nat}{f:Array Value->Array Value}{t':Nat}(I:Inv X pins σ H s)(hH:H l=some (.lst xs))
  (e:s.heap.get? l=some { cls:=.type "list",data:=.seq its.toArray n }) (hf:f its.toArray=its'.toArray) (hv:Vals ys its') (hz:ys.length<=sizeLine) :
  Inv X pins σ (upd H l (.lst ys)) { s with heap:=s.heap.update l (Obj.mapSeq f),toks:=t' }:=by
 have q:=PySem.IsL.update e f;rw[hf] at q;refine I.write (x:=l) (e:=l) (by rw[hH];exact trivial) (.inl rfl) (fun b' u hb hu=>(Heap.get?_update_other s.heap (Obj.mapSeq f) (Ne.symm hb)).trans hu) ⟨_,q⟩ ?_
 exact⟨hz,its',_,hv,q⟩
theorem Inv.B8{its:List Value}{t':Nat}(I:Inv X pins σ H s)(hv:Vals ys its)(hz:ys.length<=sizeLine):
  Inv X pins σ (upd H s.heap.objs.size (.lst ys)) { s with heap:=s.heap.push { cls:=.type "list",data:=.seq its.toArray },toks:=t' }:=
 I.laid (fun _ _ q=>Heap.get?_push_of_some _ q) (Nat.le_refl _) ⟨hz,its,0,hv,Heap.get?_push_size _ rfl⟩
theorem Inv.fresh(I:Inv X pins σ H s):H s.heap.objs.size=none:=I.aE.fresh (Nat.le_refl _)
theorem Inv.nz(I:Inv X pins σ H s)(hH:H l=some (.lst xs)):xs.length<=sizeLine/\∃ (its:List Value) (n:Nat),Vals xs its/\xs.length=its.length/\s.heap.get? l=some { cls:=.type "list",data:=.seq its.toArray n }:=by
 obtain⟨z,its,n,r,e⟩:=I.aE l _ hH;exact⟨z,its,n,r,r.length,e⟩
theorem uj{n:Nat}(h:n<=sizeLine):Builtin.List.listTooLong n=false:=by
 unfold Builtin.List.listTooLong;exact decide_eq_false (by lia)
end
section
variable {X:Cx}
def qo:V->List V->Hp->VK->Prop:=fun x vs H Q=>∃ l xs y,x=.ref l/\vs=[y]/\H l=some (.lst xs)/\xs.length < sizeLine/\Q .aI (upd H l (.lst (xs++[y])))
theorem cL:Fg X "list.append" qo:=by
 intro pins s σ H x vs v us Q I rx rv h;obtain⟨l,xs,y,rfl,rfl,hH,hz,q⟩:=h;cases rx;obtain⟨u,rfl,ru⟩:=rv.one;obtain⟨z,its,n,r,hl,e⟩:=I.nz hH;refine call_meets F.slot_list_append ⟨_,e,rfl⟩ F.entry_list_append (F.args_list_append_2 _ _) (PySem.list_append l its.toArray n u (by rw[List.size_toArray];lia)) ⟨e,?_⟩
 refine⟨.aI,_,I.DT (its':=its++[u]) hH e (by simp) (r.append (.cons ru .nil)) ?_,rfl,q⟩
 rw[List.length_append,List.length_singleton];lia
def Cm:R2:=fun x y H Q=>∃ l b xs zs,x=.ref l/\y=.ref b/\H l=some (.lst xs)/\H b=some (.lst zs)/\xs.length+zs.length<=sizeLine/\∀ p,H p=none->Q (.ref p) (upd H p (.lst (xs++zs)))
theorem sM:cN X (binaryOp .Add) Cm:=by
 intro pins s σ H x y v u Q I rx ry h;obtain⟨l,b,xs,zs,rfl,rfl,hH,hB,hz,q⟩:=h;cases rx;cases ry;obtain⟨z,its,n,r,hl,e⟩:=I.nz hH;obtain⟨z2,its2,n2,r2,hl2,e2⟩:=I.nz hB;refine PySem.P.add_list e e2 ?_ (by rw[List.size_toArray,List.size_toArray];lia)
 have ea:its.toArray++its2.toArray=(its++its2).toArray:=by simp
 rw[ea];exact⟨.ref _,_,I.B8 (t':=s.toks) (r.append r2) (by rw[List.length_append];lia),rfl,q _ I.fresh⟩
def Dw:R2:=fun x y H Q=>∃ l k xs,x=.ref l/\y=.int k/\H l=some (.lst xs)/\-(2 ^ 63)<=k/\k < 2 ^ 63/\xs.length*k.toNat<=sizeLine /\
 ∀ p,H p=none->Q (.ref p) (upd H p (.lst (List.replicate k.toNat xs).flatten))
theorem len_rep{α:Type}(xs:List α)(k:Nat):(List.replicate k xs).flatten.length=k*xs.length:=by
 induction k with
 | zero=>simp
 | succ k ih=>rw[List.replicate_succ,List.flatten_cons,List.length_append,ih,Nat.succ_mul,Nat.add_comm]
theorem Ab:cN X (binaryOp .Mult) Dw:=by
 intro pins s σ H x y v u Q I rx ry h;obtain⟨l,k,xs,rfl,rfl,hH,h1,h2,hz,q⟩:=h;cases rx;obtain⟨t,rfl⟩:=ry;obtain⟨z,its,n,r,hl,e⟩:=I.nz hH;have hlen:its.toArray.size*k.toNat<=sizeLine:=by rw[List.size_toArray,<- hl];exact hz
 have hcap:¬ its.toArray.size*k.toNat >(2 ^ 63 - 1) / 8:=by
  have:(sizeLine:Nat)<=(2 ^ 63 - 1) / 8:=by decide
  lia
 have hfit:¬ (!Builtin.List.listFitsIndex k)=true:=by
  rw[fitsIndex_both h1 h2];exact Bool.false_ne_true
 have hlong:¬ Builtin.List.listTooLong (its.toArray.size*k.toNat)=true:=by
  rw[uj hlen];exact Bool.false_ne_true
 have hnew:List.foldl (fun x1 x2=>x1++x2) #[] (List.replicate (if its.toArray.isEmpty=true then 0 else k.toNat) its.toArray)=(List.replicate k.toNat its).flatten.toArray:=by
  have f0:∀ m:Nat,List.foldl (fun x1 x2=>x1++x2) #[] (List.replicate m its.toArray)=(List.replicate m its).flatten.toArray:=fun m=>by
   have:=foldl_rep its m [];rw[List.nil_append] at this;exact this
  rw[f0]
  cases its with
  | nil=>simp
  | cons a r'=>rw[if_neg (by simp)]
 refine wpAny_binaryOp_repeat_ref (T:="list") (U:="int") (by decide) ⟨_,e,rfl⟩ (fun s'=>typeIs_int s' k t) noFill_list_mul F.fills_int_mul F.slot_int_rmul repeat_list F.slot_int_index.lookup
  (call_meets F.slot_int_rmul (typeIs_int s k t) F.entry_int_rmul (F.args_int_rmul_2 _ _) (int___rmul___int_list k t l its.toArray n)
   ⟨e,rfl,⟨_,e,rfl⟩,call_meets F.slot_list_mul ⟨_,e,rfl⟩ F.entry_list_mul (F.args_list_mul_2 _ _) (AutoListH.list___mul___list_int_3 l its.toArray n k t hfit hcap hlong) ⟨e,?_⟩⟩)
 rw[hnew];exact⟨.ref _,_,I.B8 (t':=s.toks) (r.rep k.toNat) (by rw[len_rep,Nat.mul_comm];exact hz),rfl,q _ I.fresh⟩
end
section
variable {prog:Program} {w:World} {A:Around} {E:Value->Shared->Prop} {s:Shared}
end
section
variable {X:Cx}
end
section
variable {κ:Type} [DecidableEq κ]
def cq(kvs:List (κ×V))(k:κ):Option V:=(kvs.find? fun kv=>decide (kv.1=k)).map (·.2)
def putK(kvs:List (κ×V))(k:κ)(v:V):List (κ×V):=
 if (kvs.any fun kv=>decide (kv.1=k))=true then kvs.map (fun kv=>if kv.1=k then (kv.1,v) else kv) else kvs++[(k,v)]
def gm(kvs:List (κ×V))(k:κ):List (κ×V):=kvs.filter fun kv=>decide (kv.1≠k)
theorem bD{p:κ×V}{r:List (κ×V)}{k:κ}(e:p.1=k):cq (p::r) k=some p.2:=by simp[cq,List.find?_cons,e]
theorem bB{p:κ×V}{r:List (κ×V)}{k:κ}(e:¬ p.1=k):cq (p::r) k=cq r k:=by simp[cq,List.find?_cons,e]
theorem dq(k:κ):∀ kvs:List (κ×V),(kvs.any fun kv=>decide (kv.1=k))=(cq kvs k).isSome
 | []=>rfl
 | p::r=>by
  rw[List.any_cons];by_cases e:p.1=k
  ·simp only[bD e,decide_eq_true e,Bool.true_or,Option.isSome_some]
  ·rw[bB e,decide_eq_false e,Bool.false_or];exact dq k r
theorem kY(k j:κ)(y:V):∀ kvs:List (κ×V),cq (kvs.map fun kv=>if kv.1=k then (kv.1,y) else kv) j=(cq kvs j).map fun x=>if j=k then y else x
 | []=>rfl
 | p::r=>by
  have ih:=kY k j y r;rw[List.map_cons];by_cases h:p.1=k
  ·rw[if_pos h];by_cases e:p.1=j
   ·rw[bD (p:=(p.1,y)) e,bD e,Option.map_some,if_pos (e.symm.trans h)]
   ·rw[bB (p:=(p.1,y)) e,bB e,ih]
  ·rw[if_neg h];by_cases e:p.1=j
   ·rw[bD (p:=p) e,bD e,Option.map_some,if_neg (fun z=>h (e.trans z))]
   ·rw[bB (p:=p) e,bB e,ih]
theorem jy(k j:κ)(y:V):∀ kvs:List (κ×V),cq kvs k=none->cq (kvs++[(k,y)]) j=if j=k then some y else cq kvs j
 | [],_=>by
  by_cases e:k=j
  ·rw[if_pos e.symm];exact bD (p:=(k,y)) e
  ·rw[if_neg (fun z=>e z.symm)];exact bB (p:=(k,y)) e
 | p::r,hn=>by
  rw[List.cons_append];have hk:¬ p.1=k:=fun z=>by rw[bD z] at hn;cases hn
  rw[bB hk] at hn;have ih:=jy k j y r hn;by_cases e:p.1=j
  ·rw[bD e,bD e,if_neg (fun z=>hk (e.trans z))]
  ·rw[bB e,bB e,ih]
theorem sj(kvs:List (κ×V))(k j:κ)(y:V):cq (putK kvs k y) j=if j=k then some y else cq kvs j:=by
 unfold putK;by_cases a:(kvs.any fun kv=>decide (kv.1=k))=true
 ·rw[if_pos a,kY];rw[dq] at a;by_cases e:j=k
  ·obtain⟨x,hx⟩:=Option.isSome_iff_exists.mp a;rw[if_pos e,e,hx,Option.map_some,if_pos rfl]
  ·rw[if_neg e]
   cases cq kvs j with
   | none=>rfl
   | some x=>rw[Option.map_some,if_neg e]
 ·rw[if_neg a];refine jy k j y kvs ?_;rw[dq] at a
  cases q:cq kvs k with
  | none=>rfl
  | some x=>rw[q] at a;exact (a rfl).elim
theorem dM(kvs:List (κ×V))(k:κ)(v:V):(putK kvs k v).length<=kvs.length+1:=by
 unfold putK;split
 ·rw[List.length_map];lia
 ·rw[List.length_append,List.length_cons,List.length_nil];lia
theorem l_{kvs:List (κ×V)}{k:κ}(v:V)(h:cq kvs k=none):putK kvs k v=kvs++[(k,v)]:=by
 unfold putK;rw[dq,h];exact if_neg (by decide)
theorem i4.fS{o:Option V}{u:Option Value}(r:i4 o u):o.isSome=u.isSome:=by
 cases o with
 | none=>cases u with
  | none=>rfl
  | some _=>exact (show False from r).elim
 | some _=>cases u with
  | none=>exact (show False from r).elim
  | some _=>rfl
theorem KV.val{kvs:List (κ×V)}{vs:List (κ×Value)}(r:KV kvs vs)(k:κ):i4 (cq kvs k) (valueAt vs k):=by
 unfold KV at r
 induction r with
 | nil=>exact True.intro
 | @cons p q ps qs h t ih =>
  obtain⟨h1,h2⟩:=h;by_cases e:p.1=k
  ·have e':q.1=k:=h1.symm.trans e;have b:valueAt (q::qs) k=some q.2:=by simp[valueAt,List.find?_cons,e']
   rw[bD e,b];exact h2
  ·have e':¬ q.1=k:=fun z=>e (h1.trans z);have b:valueAt (q::qs) k=valueAt qs k:=by simp[valueAt,List.find?_cons,e']
   rw[bB e,b];exact ih
theorem KV.any{kvs:List (κ×V)}{vs:List (κ×Value)}(r:KV kvs vs)(k:κ):(kvs.any fun kv=>decide (kv.1=k))=vs.any fun kv=>decide (kv.1=k):=by
 unfold KV at r
 induction r with
 | nil=>rfl
 | cons h t ih=>rw[List.any_cons,List.any_cons,ih,h.1]
theorem KV.BH{kvs:List (κ×V)}{vs:List (κ×Value)}(r:KV kvs vs)(k:κ){y:V}{u:Value}(ry:RelV y u):
  KV (kvs.map fun kv=>if kv.1=k then (kv.1,y) else kv) (vs.map fun kv=>if kv.1=k then (kv.1,u) else kv):=by
 unfold KV at r ⊢
 induction r with
 | nil=>exact .nil
 | @cons p q ps qs h t ih =>
  rw[List.map_cons,List.map_cons];refine .cons ?_ ih;obtain⟨h1,h2⟩:=h;by_cases e:p.1=k
  ·rw[if_pos e,if_pos (h1.symm.trans e)];exact⟨h1,ry⟩
  ·rw[if_neg e,if_neg (fun z=>e (h1.trans z))];exact⟨h1,h2⟩
theorem KV.put{kvs:List (κ×V)}{vs:List (κ×Value)}(r:KV kvs vs)(k:κ){y:V}{u:Value}(ry:RelV y u):KV (putK kvs k y) (stored vs k u):=by
 unfold putK stored;rw[r.any k];by_cases e:(vs.any fun kv=>decide (kv.1=k))=true
 ·rw[if_pos e,if_pos e];exact r.BH k ry
 ·rw[if_neg e,if_neg e];exact Paired.snoc r ⟨rfl,ry⟩
theorem KV.drop{kvs:List (κ×V)}{vs:List (κ×Value)}(r:KV kvs vs)(k:κ):KV (gm kvs k) (without vs k):=by
 unfold KV at r ⊢;unfold gm without
 induction r with
 | nil=>exact .nil
 | @cons p q ps qs h t ih =>
  obtain⟨h1,h2⟩:=h;rw[List.filter_cons,List.filter_cons];by_cases e:p.1=k
  ·have a:¬ decide (p.1≠k)=true:=by simp[e]
   have b:¬ decide (q.1≠k)=true:=by simp[h1.symm.trans e]
   rw[if_neg a,if_neg b];exact ih
  ·have e':¬ q.1=k:=fun z=>e (h1.trans z);have a:decide (p.1≠k)=true:=by simp[e]
   have b:decide (q.1≠k)=true:=by simp[e']
   rw[if_pos a,if_pos b];exact .cons ⟨h1,h2⟩ ih
theorem KV.length{kvs:List (κ×V)}{vs:List (κ×Value)}(r:KV kvs vs):kvs.length=vs.length:=Paired.length r
theorem uH(kvs:List (κ×V))(k:κ):(gm kvs k).length<=kvs.length:=List.length_filter_le _ _
end
theorem ma{P:Program}{w:World}{k:Key}{u:Value}(r:RelV (kV k) u):(aZ P w).is k u=true:=by
 cases k with
 | inl i=>obtain⟨t,e⟩:=(show ∃ t,u=Value.int i t from r);subst e;exact gr P w i t
 | inr x=>obtain⟨t,e⟩:=(show ∃ t,u=Value.str x t from r);subst e;exact lT P w x t
theorem ju{P:Program}{w:World}:∀ {ks:List Key} {us:List Value},Vals (ks.map kV) us->ItemsAre (aZ P w) ks us
 | [],_,r=>by rw[List.map_nil] at r;cases r;exact .nil
 | k::ks,_,r=>by
  rw[List.map_cons] at r
  cases r with
  | cons h t=>exact .cons (ma h) (ju t)
noncomputable abbrev KT (H:Hp):List (List Key×V)->List (List Key×Addr×Value)->Prop:=Paired fun p q=>p.1=q.1/\H q.2.1=some (.tup (p.1.map kV))/\RelV p.2 q.2.2
theorem KT.val{H:Hp}{kvs:List (List Key×V)}{xs:List (List Key×Addr×Value)}(r:KT H kvs xs)(k:List Key):i4 (cq kvs k) ((atKey xs k).map (·.2)):=by
 induction r with
 | nil=>exact True.intro
 | @cons p q ps qs h t ih =>
  obtain⟨h1,_,h2⟩:=h;by_cases e:p.1=k
  ·have e':q.1=k:=h1.symm.trans e;have b:atKey (q::qs) k=some q.2:=by simp[atKey,List.find?_cons,e']
   rw[bD e,b];exact h2
  ·have e':¬ q.1=k:=fun z=>e (h1.trans z);have b:atKey (q::qs) k=atKey qs k:=by simp[atKey,List.find?_cons,e']
   rw[bB e,b];exact ih
theorem KT.BH{H:Hp}{kvs:List (List Key×V)}{xs:List (List Key×Addr×Value)}(r:KT H kvs xs)(k:List Key){y:V}{u:Value}(ry:RelV y u):
  KT H (kvs.map fun kv=>if kv.1=k then (kv.1,y) else kv) (xs.map (putAt k u)):=by
 induction r with
 | nil=>exact .nil
 | @cons p q ps qs h t ih =>
  rw[List.map_cons,List.map_cons];refine .cons ?_ ih;obtain⟨h1,h2,h3⟩:=h;unfold putAt;by_cases e:p.1=k
  ·rw[if_pos e,if_pos (h1.symm.trans e)];exact⟨h1,h2,ry⟩
  ·rw[if_neg e,if_neg (fun z=>e (h1.trans z))];exact⟨h1,h2,h3⟩
theorem KT.put{H:Hp}{kvs:List (List Key×V)}{xs:List (List Key×Addr×Value)}(r:KT H kvs xs)(k:List Key){b:Addr}{y:V}{u:Value}(hb:H b=some (.tup (k.map kV)))(ry:RelV y u):
  KT H (putK kvs k y) (storedH xs k b u):=by
 have e:(kvs.any fun kv=>decide (kv.1=k))=(atKey xs k).isSome:=by
  rw[dq,(r.val k).fS,Option.isSome_map]
 unfold putK storedH;rw[e];by_cases q:(atKey xs k).isSome=true
 ·rw[if_pos q,if_pos q];exact r.BH k ry
 ·rw[if_neg q,if_neg q];exact Paired.snoc r ⟨rfl,hb,ry⟩
theorem KT.keeps{H H':Hp}{kvs:List (List Key×V)}{xs:List (List Key×Addr×Value)}(r:KT H kvs xs)(ht:∀ b ys,H b=some (.tup ys)->H' b=some (.tup ys)):KT H' kvs xs:=
 Paired.jc r fun _ _ z=>⟨z.1,ht _ _ z.2.1,z.2.2⟩
section
variable {P:Program} {w:World} {H:Hp} {h:Heap} {a:Addr}
theorem yU{u:HO}(ok:dA P w H h)(e:Rd H a u):aK P w H h a u:=e.ok ok
theorem jD{kvs:List (Key×V)}(ok:dA P w H h)(e:Rd H a (.dK kvs)):kvs.length<=sizeLine/\(a == sysModules)=false/\∃ vs,KV kvs vs/\h.DictOf (aZ P w) a vs:=
 show aK P w H h a (.dK kvs) from yU ok e
theorem zd{kvs:List (Key×V)}(ok:dA P w H h)(e:H a=some (.dK kvs)):kvs.length<=sizeLine/\(a == sysModules)=false/\∃ vs,KV kvs vs/\h.DictOf (aZ P w) a vs:=jD ok (.inl e)
theorem jP{ks:List Key}(ok:dA P w H h)(e:H a=some (.tup (ks.map kV))):(tupleKind (aZ P w)).is h ks a:=by
 obtain⟨_,its,r,o,h1,h2,n,h3,_⟩:=(show aK P w H h a (.tup (ks.map kV)) from ok a _ e);exact⟨o,its.toArray,n,h1,h2,h3,by simpa using ju r⟩
theorem lz{kvs:List (List Key×V)}(ok:dA P w H h)(e:Rd H a (.dT kvs)):kvs.length<=sizeLine/\(a == sysModules)=false /\
  ∃ xs,KT H kvs xs/\h.DictOfH (tupleKind (aZ P w)) a xs:=by
 obtain⟨z,y,xs,r,o,es,ep,h1,h2,h3,h4,h5⟩:=(show aK P w H h a (.dT kvs) from yU ok e);refine⟨z,y,xs,r,o,es,ep,h1,h2,h3,h4,fun x hx=>?_,h5⟩;have all:∀ {l:List (List Key×V)} {m:List (List Key×Addr×Value)},KT H l m->∀ x∈m,(tupleKind (aZ P w)).is h x.1 x.2.1:=by
  intro l m q
  induction q with
  | nil=>intro x hx;exact nomatch hx
  | @cons p q ps qs hq t ih =>
   intro x hx;rcases List.mem_cons.mp hx with e | hx
   ·subst e;exact jP ok (by rw[<- hq.1];exact hq.2.1)
   ·exact ih x hx
 exact all r x hx
theorem CP{kvs:List (List Key×V)}(ok:dA P w H h)(e:H a=some (.dT kvs)):kvs.length<=sizeLine/\(a == sysModules)=false /\
  ∃ xs,KT H kvs xs/\h.DictOfH (tupleKind (aZ P w)) a xs:=lz ok (.inl e)
end
def oE(H:Hp)(a:Addr)(y:V)(r:Option V):Prop:=
 (∃ kvs k,Rd H a (.dK kvs)/\y=kV k/\r=cq kvs k)\/∃ kvs k b,Rd H a (.dT kvs)/\y=.ref b/\H b=some (.tup (k.map kV))/\r=cq kvs k
def o8(H:Hp)(a:Addr)(y v:V)(H':Hp):Prop:=
 (∃ kvs k,H a=some (.dK kvs)/\y=kV k/\kvs.length < sizeLine/\H'=upd H a (.dK (putK kvs k v))) \/
 ∃ kvs k b,H a=some (.dT kvs)/\y=.ref b/\H b=some (.tup (k.map kV))/\kvs.length < sizeLine/\H'=upd H a (.dT (putK kvs k v))
theorem o8.k{H:Hp}{a:Addr}{kvs:List (Key×V)}{k:Key}{v:V}(e:H a=some (.dK kvs))(hl:kvs.length < sizeLine):o8 H a (kV k) v (upd H a (.dK (putK kvs k v))):=.inl ⟨kvs,k,e,rfl,hl,rfl⟩
section
variable {X:Cx} {pins:List (Addr×Obj)} {σ:St} {H:Hp} {s:Shared} {a:Addr} {y v:V} {u r:Value} {o:Option V} {A:Around} {E:Value->Shared->Prop}
theorem Inv.big(I:Inv X pins σ H s):sysModules < s.heap.objs.size:=by
 have h:mainGlobals < s.heap.objs.size:=(I.mod.glob.keeps I.bk).lt;exact Nat.lt_trans (by decide) h
theorem qO{Q:Value->Shared->Prop}(hu:A.units+1 < cLine)(I:Inv X pins σ H s)(g:oE H a y (some v))(ry:RelV y u)(h:∀ w' s',Inv X pins σ H s'->RelV v w'->Q w' s'):
  wpAny (model X.prog X.w) A (getItem (.ref a) u) Q E s:=by
 rcases g with ⟨kvs,k,e,ey,l⟩ | ⟨kvs,k,b,e,ey,eb,l⟩
 ·subst ey;obtain⟨z,hd,vs,rel,dd⟩:=jD I.aE e;obtain⟨w',hw,rw'⟩:=i4.some_of (v:=v) (o:=valueAt vs k) (by rw[l];exact rel.val k)
  exact wpAny_getItem_of (ma ry) dd.mapOf hw (h w' _ (I.tok _) rw')
 ·subst ey
  cases (show u=Value.ref b from ry)
  obtain⟨z,hd,xs,rel,dd⟩:=lz I.aE e;obtain⟨w',hw,rw'⟩:=i4.some_of (v:=v) (o:=(atKey xs k).map (·.2)) (by rw[l];exact rel.val k)
  obtain⟨p,hp,hp2⟩:=Option.map_eq_some_iff.mp hw;refine wpAny_getItem_heap (tupleKind_room_in1 hu) (jP I.aE eb) dd hp ?_;rw[hp2];exact h w' _ (I.tok _) rw'
theorem xh{Q:Value->Shared->Prop}(hu:A.units+1 < cLine)(I:Inv X pins σ H s)(g:oE H a y o)(ry:RelV y u)(h:∀ s',Inv X pins σ H s'->Q (.bool (!o.isSome)) s'):
  wpAny (model X.prog X.w) A (compareOp .NotIn u (.ref a)) Q E s:=by
 rcases g with ⟨kvs,k,e,ey,l⟩ | ⟨kvs,k,b,e,ey,eb,l⟩
 ·subst ey;obtain⟨z,hd,vs,rel,dd⟩:=jD I.aE e;refine wpAny_notIn_of (ma ry) hd dd.mapOf ?_;rw[<- (rel.val k).fS,<- l];exact h _ (I.tok _)
 ·subst ey
  cases (show u=Value.ref b from ry)
  obtain⟨z,hd,xs,rel,dd⟩:=lz I.aE e;refine wpAny_notIn_heap (tupleKind_room_in1 hu) (jP I.aE eb) hd dd ?_;have q:=(rel.val k).fS;rw[Option.isSome_map] at q;rw[<- q,<- l];exact h _ (I.tok _)
theorem kA{h':Heap}{t':Nat}{ob:HO}(I:Inv X pins σ H s)(mu:Ea (H a))(hs:Heap.SameBut a s.heap h')(he:∃ q,h'.get? a=some q)(new:aK X.prog X.w (upd H a ob) h' a ob):
  Inv X pins σ (upd H a ob) { s with heap:=h',toks:=t' }:=
 I.write (x:=a) (e:=a) mu (.inl rfl) (fun b q hb z=>(hs.2 b hb).trans z) he new
theorem n5{P:Program}{w:World}{H':Hp}{h':Heap}{kvs:List (Key×V)}{vs:List (Key×Value)}(z:kvs.length<=sizeLine)(hd:(a == sysModules)=false)(rel:KV kvs vs)(dd:h'.DictOf (aZ P w) a vs):
  aK P w H' h' a (.dK kvs):=⟨z,hd,vs,rel,dd⟩
theorem qP{H':Hp}{Q:Unit->Shared->Prop}(hu:A.units+1 < cLine)(I:Inv X pins σ H s)(g:o8 H a y v H')(ry:RelV y u)(rv:RelV v r)(h:∀ s',Inv X pins σ H' s'->Q () s'):
  wpAny (model X.prog X.w) A (setItem (.ref a) u r) Q E s:=by
 rcases g with ⟨kvs,k,e,ey,l,eH⟩ | ⟨kvs,k,b,e,ey,eb,l,eH⟩
 ·subst ey eH;obtain⟨z,hd,vs,rel,dd⟩:=zd I.aE e;have hz:vs.length<=sizeLine:=by rw[<- rel.length];exact z
  have hl:(putK kvs k v).length<=sizeLine:=by have:=dM kvs k v;lia
  refine wpAny_setItem_pairs (hsz:=hz) (ma ry) dd fun h' dd' hs=>h _ ?_;have he:∃ q,h'.get? a=some q:=let ⟨q,_,_,hq,_⟩:=dd';⟨q,hq⟩
  exact kA I (by rw[e];exact True.intro) hs he (n5 hl hd (rel.put k rv) dd')
 ·subst ey eH
  cases (show u=Value.ref b from ry)
  obtain⟨z,hd,xs,rel,dd⟩:=CP I.aE e;have hz:xs.length<=sizeLine:=by rw[<- Paired.length rel];exact z
  have hl:(putK kvs k v).length<=sizeLine:=by have:=dM kvs k v;lia
  refine wpAny_setItem_heap (hsz:=hz) (tupleKind_room_in1 hu) (jP I.aE eb) dd fun h' dd' hs=>h _ ?_;obtain⟨q,es,ep,hq,h2,h3,h4,_,h5⟩:=dd';refine kA I (by rw[e];exact True.intro) hs ⟨q,hq⟩ ⟨hl,hd,_,(rel.put k eb rv).keeps fun c ys ec=>?_,q,es,ep,hq,h2,h3,h4,h5⟩
  rw[ae (Dd ec e (fun z=>nomatch z))];exact ec
end
section
variable {X:Cx} {pins:List (Addr×Obj)} {σ:St} {H:Hp} {s:Shared} {a:Addr} {kvs:List (Key×V)} {k:Key} {u:Value} {A:Around} {E:Value->Shared->Prop}
theorem En{v:V}{more:List Value}{Q:Value->Shared->Prop}(I:Inv X pins σ H s)(e:H a=some (.dK kvs))(ry:RelV (kV k) u)(l:cq kvs k=some v)(hm:more=[]\/∃ x,more=[x])
  (h:∀ w' s',Inv X pins σ (upd H a (.dK (gm kvs k))) s'->RelV v w'->Q w' s'):wpAny (model X.prog X.w) A (call (.builtin "dict.pop") (.ref a::u::more)) Q E s:=by
 obtain⟨z,hd,vs,rel,dd⟩:=zd I.aE e;obtain⟨w',hw,rw'⟩:=i4.some_of (v:=v) (o:=valueAt vs k) (by rw[<- l];exact rel.val k)
 have hp:(keyPart u).isSome=true:=by
  cases k with
  | inl i=>obtain⟨t,q⟩:=(show ∃ t,u=Value.int i t from ry);subst q;rfl
  | inr x=>obtain⟨t,q⟩:=(show ∃ t,u=Value.str x t from ry);subst q;rfl
 have ha:argsOk "dict.pop" ⟨.ref a::u::more,[]⟩:=by
  rcases hm with q | ⟨x,q⟩
  ·subst q;exact PySem.F.args_dict_pop_2 _ _
  ·subst q;exact PySem.F.args_dict_pop_3 _ _ _
 refine call_meetsIn PySem.F.slot_dict_pop dd.typeIs PySem.F.entry_dict_pop ha (meets_dict_pop_there (aZ X.prog X.w) a (ma ry) more hm hp)
  ⟨vs,w',dd,by rw[<- rel.length];exact z,hw,fun h' dd' hs=>h w' _ ?_ rw'⟩
 have he:∃ q,h'.get? a=some q:=let ⟨q,_,_,hq,_⟩:=dd';⟨q,hq⟩
 exact kA I (by rw[e];exact True.intro) hs he (n5 (Nat.le_trans (uH kvs k) z) hd (rel.drop k) dd')
theorem C3{Q:Value->Shared->Prop}(I:Inv X pins σ H s)(e:Rd H a (.dK kvs))(h:∀ t s',Inv X pins σ H s'->Q (.int kvs.length t) s'):wpAny (model X.prog X.w) A (call (.builtin "len") [.ref a]) Q E s:=by
 obtain⟨z,hd,vs,rel,dd⟩:=jD I.aE e;refine call_len_dict hd dd (by rw[<- rel.length];rw[sizeLine_eq] at z;lia) ?_
 rw[<- rel.length];exact h _ _ (I.tok _)
end
def A1(i:Expr):Prop:=∀ ov iv,subscripted i false ov iv=operate [ov,iv] (getItem ov iv)
theorem wu{prog:Program}{w:World}{A:Around}{E:Value->Shared->Prop}{s:Shared}{env:Env}{value slice:Expr}{pos:Pos}{T id:String}{Q:Value->Shared->Prop}
  (hl:typeLookup (.type T) "__getitem__"=pure (some (.builtin id))) (hs:A1 slice)
  (h:wpAny (model prog w) A (eval value env) (fun o s₁=>wpAny (model prog w) A (eval slice env) (fun i s₂=>s₂.TypeIs o T/\wpAny (model prog w) A (getItem o i) Q E s₂) E s₁) E s) :
  wpAny (model prog w) A (eval (.Subscript value slice pos) env) Q E s:=by
 refine Subscript_ (wpAny_mono h (fun o s₁ h₁=>wpAny_mono h₁ (fun i s₂ h₂=>?_) fun _ _ x=>x) fun _ _ x=>x);obtain⟨hT,h₂⟩:=h₂;unfold subscriptTail;refine wpAny_bind ?_;rw[getitemInPython_of_ne hT.not_modules];refine wpAny_bind (wpAny_specialOf hT hl ?_);have fin:wpAny (model prog w) A (subscripted slice false o i) (fun r s₃=>wpAny (model prog w) A (letTemporaryGo value o r >>= fun _=>pure r) Q E s₃) E s₂:=by
  rw[hs o i];exact wpAny_operating (wpAny_mono h₂ (fun r s₃ h₃=>wpAny_bind (wpAny_letTemporaryGo (wpAny_pure h₃))) fun _ _ x=>x)
 first
  | exact wpAny_pure (wpAny_bind fin)
  | exact wpAny_bind (wpAny_pure (wpAny_bind fin))
  | exact wpAny_bind fin
theorem lL{X:Cx}{pins:List (Addr×Obj)}{σ:St}{H:Hp}{s:Shared}{a:Addr}{y:V}{o:Option V}(I:Inv X pins σ H s)(g:oE H a y o):s.TypeIs (.ref a) "dict":=by
 rcases g with ⟨kvs,k,e,_,_⟩ | ⟨kvs,k,b,e,_,_,_⟩
 ·obtain⟨_,_,vs,_,dd⟩:=jD I.aE e;exact dd.typeIs
 ·obtain⟨_,_,xs,_,dd⟩:=lz I.aE e;exact dd.typeIs
def j7(td ty:TE):TE:=fun σ H Q=>td σ H fun x H1=>ty σ H1 fun y H2=>∃ a v,x=.ref a/\oE H2 a y (some v)/\Q v H2
def lH(td ty tv:TE):TS:=fun D σ H=>tv σ H fun v H1=>td σ H1 fun x H2=>ty σ H2 fun y H3=>∃ a H4,x=.ref a/\o8 H3 a y v H4/\D.nx σ H4
section
variable {X:Cx} {o i e value:Expr} {pos pos' tpos:Pos} {td ty tv:TE}
theorem yz(hu:X.A.units+1 < cLine)(ho:PE X o td)(hi:PE X i ty)(hs:A1 i):PE X (.Subscript o i pos) (j7 td ty):=by
 intro pins s σ H Q I h;refine wu PySem.F.slot_dict_getitem.lookup hs (bw (ho pins s σ H _ I h) fun u s1 ⟨x,H1,I1,rx,q1⟩=>bw (hi pins s1 σ H1 _ I1 q1) fun iv s2 ⟨y,H2,I2,ry,a,v,ex,g,q2⟩=>?_);subst ex;obtain rfl:u=Value.ref a:=rx;exact⟨lL I2 g,qO hu I2 g ry fun w' s3 I3 rw'=>⟨v,H2,I3,rw',q2⟩⟩
theorem wD(hu:X.A.units+1 < cLine)(ho:PE X o td)(hi:PE X i ty)(hv:PE X value tv)(hs:swapsWith value (some (.Subscript o i pos')) pos.line X.env=pure false):
  PS X (.Assign [.Subscript o i pos'] value pos) (lH td ty tv):=by
 intro pins s σ H D I h;refine wpAny_Assign_Subscript (bw (hv pins s σ H _ I h) fun r s1 ⟨v,H1,I1,rv,q1⟩=>bw (ho pins s1 σ H1 _ I1 q1) fun u s2 ⟨x,H2,I2,rx,q2⟩=>bw (hi pins s2 σ H2 _ I2 q2) fun iv s3 ⟨y,H3,I3,ry,a,H4,ex,g,q3⟩=>?_) hs;subst ex;obtain rfl:u=Value.ref a:=rx;exact qP hu I3 g ry rv fun s4 I4=>⟨σ,H4,I4,q3⟩
end
section
variable {X:Cx} {pos:Pos}
end
def dC(kvs more:List (Key×V)):List (Key×V):=more.foldl (fun acc kv=>putK acc kv.1 kv.2) kvs
theorem KV.merge:∀ {more:List (Key×V)} {rs:List (Key×Value)} {kvs:List (Key×V)} {vs:List (Key×Value)},KV more rs->KV kvs vs->KV (dC kvs more) (merged vs rs):=by
 intro more rs kvs vs r;unfold KV at r
 induction r generalizing kvs vs with
 | nil=>intro q;exact q
 | @cons p q ps qs h t ih =>
  intro r0;have e:KV (putK kvs p.1 p.2) (stored vs q.1 q.2):=by
   have:=r0.put p.1 h.2;rw[<- h.1];exact this
  exact ih e
theorem eK:∀ (more kvs:List (Key×V)),(dC kvs more).length<=kvs.length+more.length
 | [],kvs=>by show kvs.length<=kvs.length+0;lia
 | p::r,kvs=>by
  have h1:=eK r (putK kvs p.1 p.2);have h2:=dM kvs p.1 p.2;show (dC (putK kvs p.1 p.2) r).length<=_;rw[List.length_cons];lia
structure M1 (X:Cx) (o:Expr) (m:Str) (apos:Pos) (e:Expr) (cpos:Pos):Prop where
 base:attributeBase o m X.env (eval o X.env)=eval o X.env
 G2:((backTo cpos (starEach [e] X.env)).all (fun x=>!x.1) && (backToKw cpos (keywordEach [] X.env)).all (fun x=>x.1.isSome)
  && decide (([e]:List Expr).length+([]:List Keyword).length+(if ([]:List Keyword).isEmpty then 0 else 1) < 30))=true
 line:(apos.endLine == cpos.line)=true
 trees:backTo cpos (starEach [e] X.env)=[(false,eval e X.env)]
def Fd(H:Hp)(a:Addr):Prop:=(∃ kvs,Rd H a (.dK kvs))\/∃ kvs,Rd H a (.dT kvs)
theorem By{X:Cx}{pins:List (Addr×Obj)}{σ:St}{H:Hp}{s:Shared}{a:Addr}(I:Inv X pins σ H s)(d:Fd H a):
  s.TypeIs (.ref a) "dict"/\(∀ b,Value.ref a=.ref b->∃ ob,s.heap.get? b=some ob/\ob.dict=none)/\(a == sysModules)=false:=by
 rcases d with ⟨kvs,e⟩ | ⟨kvs,e⟩
 ·obtain⟨_,hd,vs,_,dd⟩:=jD I.aE e;refine⟨dd.typeIs,fun b q=>?_,hd⟩;cases q;obtain⟨ob,_,_,h1,h2,_⟩:=dd;exact⟨ob,h1,h2.2.1⟩
 ·obtain⟨_,hd,xs,_,dd⟩:=lz I.aE e;refine⟨dd.typeIs,fun b q=>?_,hd⟩;cases q;obtain⟨ob,_,_,h1,h2,_⟩:=dd;exact⟨ob,h1,h2.2.1⟩
section
variable {X:Cx} {pins:List (Addr×Obj)} {σ:St} {H:Hp} {s:Shared} {a:Addr} {y d:V} {u r:Value} {o:Option V} {A:Around} {E:Value->Shared->Prop}
end
def i7(td ty:TE):TE:=fun σ H Q=>td σ H fun x H1=>∃ a,x=.ref a/\Fd H1 a/\ty σ H1 fun y H2=>∃ kvs k v,H2 a=some (.dK kvs)/\y=kV k/\cq kvs k=some v/\Q v (upd H2 a (.dK (gm kvs k)))
section
variable {X:Cx} {o e f:Expr} {apos cpos:Pos} {td ty tx:TE}
theorem ud(ho:PE X o td)(he:PE X e ty)(m:M1 X o "pop" apos e cpos):PE X (.Call (.Attribute o "pop" apos) [e] [] cpos) (i7 td ty):=by
 intro pins s σ H Q I h;refine wpAny_Call_method m.base m.G2 m.line PySem.F.plainAttrs_dict PySem.F.slot_dict_pop PySem.F.type_dict_pop (bw (ho pins s σ H _ I h) fun u s1 ⟨x,H1,I1,rx,a,ex,d,q1⟩=>?_);subst ex;obtain rfl:u=Value.ref a:=rx;obtain⟨t1,t2,_⟩:=By I1 d;refine⟨t1,t2,?_⟩;rw[m.trees];refine Calls.callWith_builtin rfl (Calls.evalArgs_plain (Calls.spliced_cons (bw (he pins s1 σ H1 _ I1 q1) fun iv s2 ⟨y,H2,I2,ry,kvs,k,v,ea,ey,l,q2⟩=>Calls.spliced_nil ?_)));subst ey;exact En I2 ea ry l (.inl rfl) fun w' s3 I3 rw'=>⟨v,_,I3,rw',q2⟩
end
section
variable {X:Cx} {pins:List (Addr×Obj)} {σ:St} {H:Hp} {s:Shared} {a:Addr} {kvs:List (Key×V)} {A:Around} {E:Value->Shared->Prop}
end
section
variable {X:Cx} {pins:List (Addr×Obj)} {σ:St} {H:Hp} {s:Shared} {a:Addr} {y:V} {u:Value} {A:Around} {E:Value->Shared->Prop}
end
end L2
namespace Att
open PySem PySem.W PySem.Calls PyProof.Rows
theorem gH{P:Params}{h:Heap}:∀ (ns:List Int) (vs:List Value),WellAll P h vs (ns.map WData.int)->IntsAre vs ns:=by
 intro ns
 induction ns with
 | nil =>
  intro vs w;rw[List.map_nil] at w;cases w;exact .nil
 | cons n ns ih =>
  intro vs w;rw[List.map_cons] at w
  cases w with
  | cons a b =>
   cases a;exact .cons _ _ (ih _ b)
theorem rB{l:OpenLaw}{n:Nat}(hn:l.most=some n){P:Params}{h:Heap}{args:List WData}{vals:List Value}
  (hpre:l.row.toRowW.claim.pre args=true) (hwl:WellAll P h vals args) :
  ∃ a vs ns,vals=[Value.ref a]/\args=[WData.list (ns.map WData.int)]/\h.get? a=some { cls:=.type "list",data:=.seq vs.toArray }/\IntsAre vs ns/\ns.length<=n:=by
 have hsh:WShape.hasAll [] args [.list .int]=true:=(pre_splitW hpre).1;have hc:l.pre.holds [] { args:=args }=true:=(pre_splitW hpre).2;obtain⟨d,r,rfl,h1,h2⟩:=hasAllW_cons hsh;obtain rfl:=hasAllW_nil h2;obtain⟨xs,rfl,h3⟩:=hasW_list h1;obtain⟨ns,rfl⟩:=items_int h3;have hlen:ns.length<=n:=by
  unfold OpenLaw.pre at hc;have h4:(WTm.not (.lt (.lit (.int (n:Int))) (.len (.arg 0)))).holds [] { args:=[.list (ns.map .int)] }=true:=by
   have h4:=(holds_andW hc).1;rw[hn] at h4;exact h4
  have h5:=condW_of h4 (w_not (w_lt w_lit (w_len_list (w_arg rfl))));rw[List.length_map] at h5;refine Nat.le_of_not_lt fun q=>?_;have q':(n:Int) < ((ns.length:Nat):Int):=by lia
  first
   | (rw[decide_eq_true q'] at h5;exact absurd h5 (by decide))
   | (simp at h5;lia)
 cases hwl with
 | cons w1 w2 =>
  cases w2
  cases w1 with
  | list ho hall=>exact⟨_,_,ns,rfl,rfl,ho,gH ns _ hall,hlen⟩
theorem qB(l:OpenLaw)(args:List WData):l.row.toRowW.claim.post args (.bool true) args=true:=
 postW_of (r:=l.row.toRowW) (X:=(true == true))
  (show WShape.has [] (.bool true) .bool=true by first | rfl | decide | simp[WShape.has,WShape.arms,WShape.armsAll])
  (show (WTm.eq .res (.lit (.bool true))).value [] { args:=args,res:=some (.bool true),after:=args }=some (.bool (true == true)) from w_eq_bool (w_res rfl) w_lit) rfl
theorem lW{l:OpenLaw}{n:Nat}{q:Program}{loose:List Str}{XP:(Str->Option Value)->Heap->Prop}{YP:World->Heap->Prop}{d:DefRec}
  (hn:l.most=some n) (hdf:d.params.defaults=[])
  (call:∀ (w:World) (s₀ s₁:Shared) (mg mb:Str->Option Value) (fa:Addr) (o:Obj) (pm cd doc:Value) (a:Addr) (vs:List Value) (ns:List Int),
   Ground q loose [] XP w s₀ mg mb s₁.heap->YP w s₁.heap ->
   s₁.heap.get? fa=some o->o.data=.func (docDef d.name d.params d.body d.scope pm cd doc)->s₁.heap.CodeRec cd d.name->mg d.name=some (.ref fa) ->
   s₁.heap.get? a=some { cls:=.type "list",data:=.seq vs.toArray }->IntsAre vs ns->ns.length<=n->s₁.gens=#[] ->
   codeAny (model l.prog w) callerA (.call (.ref fa) ⟨[.ref a],[]⟩) (fun r s'=>r=.ok (.ret (.bool true))/\OldK s₁.heap s'.heap/\s'.os=s₁.os/\AllBare s'.gens) s₁) :
  WalkO q loose XP YP l.row.toRowW d [] (fun f vs=>PySem.call f vs):=by
 intro w s₀ s₁ mg mb G Y fa o pm cd doc dV kV ho hd hcd hD hmg hg args vals as hpre hlay hrd hwl hlo;obtain rfl:dV=.none:=Dflts.none hD hdf;obtain rfl:kV=.none:=Dflts.noKw hD;obtain⟨a,vs,ns,rfl,rfl,hobj,hints,hlen⟩:=rB hn hpre hwl;refine enter_call (codeAny_mono (call w s₀ s₁ mg mb fa o pm cd doc a vs ns G Y ho (fd_plain hd) hcd hmg hobj hints hlen hg) fun r s' hq=>?_);obtain⟨rfl,h2,h3,h4⟩:=hq;exact⟨.inl ⟨.bool true,.bool true,[],rfl,fun _=>rfl,.bool true,qB l _,fun _=>⟨List.Pairwise.nil,fun _ hm=>(nomatch hm)⟩⟩,h2,h3,h4⟩
section
variable {prog:Program} {w:World} {A:Around} {E:Value->Shared->Prop} {s:Shared} {K:Frag}
end
end Att
namespace L2
open PySem PySem.Spec PyProof.Rows
theorem j8:∀ {vs:List Value} {ns:List Int},IntsAre vs ns->Vals (ns.map V.int) vs
 | _,_,.nil=>.nil
 | _,_,.cons n t h=>.cons ⟨t,rfl⟩ (j8 h)
structure fo (q:Program) (K:PySem.W.Frag):Prop where
 nt:PySem.W.noTabs K=true
 nd:((b8 K).map (·.2.1)).Nodup
 fd:∀ x∈cS,PySem.W.tabIn K x=none\/((recsOf q).find? (fun e=>e.name == x)).isSome=true
theorem fo.at{q:Program}{K:PySem.W.Frag}{loose:List Str}{mean:ExcName->Option Value}{mg mb:Str->Option Value}{h:Heap}(L:fo q K)(T:Top q loose mean mg mb h)(X:K.In h):∀ t∈b8 K,PySem.W.CodeHd h t.1 t.2.1/\h.get? t.2.1=some (PySem.W.tabObj #[]):=fun t ht=>by
 unfold b8 at ht;obtain⟨x,hx,e⟩:=List.mem_filterMap.mp ht;obtain⟨p,e1,e2⟩:=Option.map_eq_some_iff.mp e;obtain⟨c,Pt⟩:=p;subst e2;rcases L.fd x hx with z | z
 ·rw[z] at e1;cases e1
 ·obtain⟨d,hd⟩:=Option.isSome_iff_exists.mp z;exact PySem.W.tab_of T X hd e1
def kN:List (Addr×Addr×Str)->Addr->Option HO
 | [],_=>none
 | t::r,b=>if b=t.2.1 then some (.pI #[.str t.2.2 0]) else kN r b
theorem d_{b:Addr}{o:HO}:∀ {l:List (Addr×Addr×Str)},kN l b=some o->∃ t∈l,b=t.2.1/\o=.pI #[.str t.2.2 0]
 | t::r,e=>by
  unfold kN at e;by_cases z:b=t.2.1
  ·rw[if_pos z] at e;cases e;exact⟨t,.head _,z,rfl⟩
  ·rw[if_neg z] at e;obtain⟨u,hu,q⟩:=d_ e;exact⟨u,.tail _ hu,q⟩
theorem mC{t:Addr×Addr×Str}:∀ {l:List (Addr×Addr×Str)},(l.map (·.2.1)).Nodup->t∈l->kN l t.2.1=some (.pI #[.str t.2.2 0])
 | u::r,nd,m=>by
  obtain⟨n1,n2⟩:=List.nodup_cons.mp nd;unfold kN;rcases List.mem_cons.mp m with rfl | m
  ·rw[if_pos rfl]
  ·rw[if_neg fun z=>n1 (List.mem_map.mpr ⟨t,m,z⟩)];exact mC n2 m
theorem vE{P q:Program}{w:World}{K:PySem.W.Frag}{mg mb:Str->Option Value}{CX:kT}{k:Nat}{fa a:Addr}{fd:FuncData}{x:Str}{sp:Sp}{s₁:Shared}{vs:List Value}{ns:List Int}
  (KX:K.In s₁.heap) (hns:s₁.heap.Ns mainGlobals mg) (hb:s₁.heap.Ns builtinsNs mb) (hbb:∀ x:Str,x≠"__name__"->mb x=bootBuiltins x) (hlim:s₁.heap.NoLimit) (hbm:zZ mg s₁.heap)
  (hT:∀ t∈b8 K,PySem.W.CodeHd s₁.heap t.1 t.2.1/\s₁.heap.get? t.2.1=some (PySem.W.tabObj #[])) (L:fo q K) (hg:s₁.gens=#[])
  (ha:s₁.heap.get? a=some { cls:=.type "list",data:=.seq vs.toArray }) (hi:IntsAre vs ns) (hl:ns.length<=sizeLine) (hr:bC k callerA)
  (F:∀ base:Heap,K.In base->base.Ns mainGlobals mg->df P w K mg base CX k fa fd [x] sp) (hbind:∀ (s:Shared) (u:Value),BindsTo s fd ⟨[u],[]⟩ [(x,u)])
  (hsp:∀ H:Hp,True->bK K H a (ns.map V.int)->sp [.ref a] H (fun v _=>v=.bl true) fun _ _ _=>False)
  (hCX:∀ H e s',CX [] H s₁ (fun _ _ _=>False) e s'->False) :
  codeAny (model P w) callerA (.call (.ref fa) ⟨[.ref a],[]⟩) (fun r s'=>r=.ok (.ret (.bool true))/\OldK s₁.heap s'.heap/\s'.os=s₁.os/\AllBare s'.gens) s₁:=by
 have rv:=j8 hi;have lenV:=hi.length;have naT:∀ t∈b8 K,t.2.1≠a:=fun t ht z=>by
  have e:=(hT t ht).2;rw[z,ha] at e;cases e
 let oS:Obj:={ cls:=.type "list",data:=.seq vs.toArray }
 have core:∀ S:Option HO,(S=none\/S=some (.cI oS (.lst (ns.map V.int))))->(S≠none->K.lookup a=none)->bK K (fun b=>if b=a then S else kN (b8 K) b) a (ns.map V.int) ->
   codeAny (model P w) callerA (.call (.ref fa) ⟨[.ref a],[]⟩) (fun r s'=>r=.ok (.ret (.bool true))/\OldK s₁.heap s'.heap/\s'.os=s₁.os/\AllBare s'.gens) s₁:=by
  intro S hS hK hSq;generalize hH:(fun b=>if b=a then S else kN (b8 K) b)=H at hSq
  have hA:H a=S:=by rw[<- hH];exact if_pos rfl
  have hB:∀ b,b≠a->H b=kN (b8 K) b:=fun b z=>by rw[<- hH];exact if_neg z
  have free:∀ {b:Addr} {o:Obj},s₁.heap.get? b=some o->o≠PySem.W.tabObj #[]->(b=a->S=none)->H b=none:=fun {b o} e hn hz=>by
   by_cases z:b=a
   ·rw[z,hA];exact hz z
   ·rw[hB b z]
    cases q:kN (b8 K) b with
    | none=>rfl
    | some u =>
     obtain⟨t,ht,e1,_⟩:=d_ q;have e2:=(hT t ht).2;rw[<- e1,e] at e2;exact absurd (Option.some.inj e2) hn
  have nsK:∀ {b:Addr} {m:Str->Option Value},s₁.heap.Ns b m->(iW s₁.heap H).Ns b m:=fun {b m} ⟨o,es,ep,e,d,r⟩=>⟨o,es,ep,fc e (free e (fun z=>by rw[z] at d;cases d) fun z=>by rw[z,ha] at e;cases e;cases d),d,r⟩
  have hKb:K.In (iW s₁.heap H):=fun b o e=>fc (KX b o e) (free (KX b o e) (fun z=>by
    have h2:=List.all_eq_true.mp L.nt (b,o) (PySem.W.mem_of_lookupK e);subst z;exact absurd (show false=true from h2) Bool.false_ne_true) fun z=>by
    cases q:S with
    | none=>rfl
    | some u=>rw[z,hK (by rw[q];simp)] at e;cases e)
  have hcd:∀ t∈b8 K,PySem.W.CodeHd (iW s₁.heap H) t.1 t.2.1:=fun t ht=>by
   obtain⟨o,us,fl,tf,fg,tg,inF,tx,tt,e1,e2,r⟩:=(hT t ht).1;exact⟨o,us,fl,tf,fg,tg,inF,tx,tt,fc e1 (free e1 (fun z=>by rw[z] at e2;cases e2) fun z=>by rw[z,ha] at e1;cases e1;exact absurd (Value.type.inj e2) (by decide)),e2,r⟩
  have hbm':zZ mg (iW s₁.heap H):=by
   obtain⟨bm,ob,b1,b2,b3,b4,b5⟩:=hbm;exact⟨bm,ob,b1,b2,fc b3 (free b3 (fun z=>by rw[z] at b4;cases b4) fun z=>by rw[z,ha] at b3;cases b3;exact absurd (Value.type.inj b4) (by decide)),b4,b5⟩
  have aE:dA P w H s₁.heap:=fun b u e=>by
   by_cases z:b=a
   ·rw[z,hA] at e;rcases hS with h0 | h0
    ·rw[h0] at e;cases e
    ·rw[h0] at e;cases e;subst z;exact⟨ha,by rw[List.length_map];exact hl,vs,_,rv,ha⟩
   ·rw[hB b z] at e;obtain⟨t,ht,e1,e2⟩:=d_ e;subst e2;exact⟨#[],by rw[e1];exact (hT t ht).2,trivial,fun pos cv c=>by cases (show (none:Option Value)=some cv from c)⟩
  have hM:Mod K mg (iW s₁.heap H):=⟨hKb,nsK hns,⟨mb,nsK hb,hbb⟩,let ⟨mc,h1,h2⟩:=hlim;⟨mc,nsK h1,h2⟩,hcd,hbm'⟩
  have e0:xX P w K mg (iW s₁.heap H) callerA [] s₁ H:=⟨rfl,hM,fun b o e=>xA e,Nat.le_of_eq (qU _ _),trivial,fun b hb=>absurd (show b∈([]:List Addr) from hb) (by simp),aE,.of_eq hg,fun t ht=>⟨#[],by
   rw[hB _ (naT t ht),mC L.nd ht,Array.append_empty]⟩⟩
  refine codeAny_mono ((F _ hKb (nsK hns)).run callerA [] s₁ H ⟨[.ref a],[]⟩ [.ref a] [.ref a] _ _ hr e0 (hbind s₁ (.ref a)) (.cons rfl .nil) (hsp H trivial hSq)) fun r s' h=>?_
  cases r with
  | error e=>exact (hCX H e s' h).elim
  | ok fl =>
   cases fl with
   | next=>exact False.elim h
   | brk=>exact False.elim h
   | cont=>exact False.elim h
   | ret u =>
    obtain⟨v,H',os,bare,un,hok',r',qv⟩:=h;have q':v=.bl true:=qv;subst q';obtain rfl:u=Value.bool true:=r';have each:∀ b o,s₁.heap.get? b=some o->s'.heap.get? b=some o\/∃ c,PySem.W.CodeHd s₁.heap c b/\o=PySem.W.tabObj #[]/\∃ ps,s'.heap.get? b=some (PySem.W.tabObj ps):=fun b o e=>by
     cases qb:H b with
     | none=>exact .inl (un.keep b o e qb (by intro z;exact absurd (show b∈([]:List Addr) from z) (by simp)) (by simp))
     | some u =>
      by_cases z:b=a
      ·rw[z,hA] at qb;rcases hS with h0 | h0
       ·rw[h0] at qb;cases qb
       ·have z2:=un.fQ a oS _ (by rw[hA,h0])
        obtain⟨e2,_⟩:=hok' a _ z2;rw[z,ha] at e;cases e;exact .inl (by rw[z];exact e2)
      ·have qt:=qb;rw[hB b z] at qt;obtain⟨t,ht,e1,e2⟩:=d_ qt;obtain⟨h1,h2⟩:=hT t ht;rw[<- e1] at h1 h2;rw[e] at h2;cases h2;subst e2;obtain⟨more,e3⟩:=un.fG b _ qb;obtain⟨qs,e4,_⟩:=hok' b _ e3;exact .inr ⟨_,h1,rfl,qs,e4⟩
    refine⟨rfl,⟨fun b o e=>?_,fun b o e=>?_⟩,os,bare⟩
    ·rcases each b o e with z | ⟨c,hc,z,ps,hp⟩
     ·exact .inl z
     ·subst z;exact .inr (.inl ⟨(hc.tab e).isCodeTable,rfl,#[],ps,rfl,by rw[Array.empty_append];exact hp⟩)
    ·rcases each b o e with z | ⟨c,hc,z,ps,hp⟩
     ·exact⟨o,z⟩
     ·exact⟨_,hp⟩
 cases hk:K.lookup a with
 | some o =>
  have e:=KX a o hk;rw[ha] at e;cases e;exact core none (.inl rfl) (fun z=>absurd rfl z) (.inr ⟨_,vs.toArray,_,hk,rfl,rfl,rfl,by rw[List.size_toArray,lenV];exact hl,by simpa using rv⟩)
 | none=>exact core (some (.cI oS (.lst (ns.map V.int)))) (.inr rfl) (fun _=>hk) (.inl (.inr ⟨oS,if_pos rfl⟩))
theorem xY{l:PySem.W.OpenLaw}{n k:Nat}{q:Program}{loose:List Str}{XP:(Str->Option Value)->Heap->Prop}{YP:World->Heap->Prop}{d:DefRec}{K:Params->PySem.W.Frag}{CX:World->kT}{sp:World->Sp}{x:Str}
  (hn:l.most=some n) (hn2:n<=sizeLine) (hdf:d.params.defaults=[]) (hr:bC k callerA)
  (hY:∀ (w:World) (h:Heap),YP w h->(K w.params).In h)
  (F:∀ (w:World) (mg:Str->Option Value) (fa:Addr) (h:Heap),(K w.params).In h->h.Ns mainGlobals mg->mg d.name=some (.ref fa) ->
   ∃ fd:FuncData,(∀ (s:Shared) (u:Value),BindsTo s fd ⟨[u],[]⟩ [(x,u)]) /\
    ∀ base:Heap,(K w.params).In base->base.Ns mainGlobals mg->df l.prog w (K w.params) mg base (CX w) k fa fd [x] (sp w))
  (hsp:∀ (w:World) (H:Hp) (a:Addr) (ns:List Int),ns.length<=n->True->bK (K w.params) H a (ns.map V.int)->sp w [.ref a] H (fun v _=>v=.bl true) fun _ _ _=>False)
  (hCX:∀ (w:World) (H:Hp) (s:Shared) (e:Value) (s':Shared),CX w [] H s (fun _ _ _=>False) e s'->False) (hL:∀ (w:World) (h:Heap),(K w.params).In h->fo q (K w.params)) :
  PySem.W.WalkO q loose XP YP l.row.toRowW d [] (fun f vs=>PySem.call f vs):=by
 refine Att.lW hn hdf fun w s₀ s₁ mg mb fa o pm cd doc a vs ns G Y ho hd hcd hmg hobj hints hlen hg=>?_;have KX:=hY w _ Y;obtain⟨fd,hb,hF⟩:=F w mg fa _ KX G.T.g hmg;have L:=hL w _ KX;exact vE KX G.T.g G.T.b G.T.builtins G.T.nolimit G.T.bmain (L.at G.T KX) L hg hobj hints (Nat.le_trans hlen hn2) hr hF hb (fun H hO hS=>hsp w H a ns hlen hO hS) fun H e s'=>hCX w H s₁ e s'
def az(s:Stmt):Arguments:=match s with
 | .FunctionDef _ a _ _ _ _ _ _ _ _=>a
 | _=>{ posonlyargs:=[],args:=[],vararg:=none,kwonlyargs:=[],kw_defaults:=[],kwarg:=none,defaults:=[] }
def aq(s:Stmt):List Stmt:=match s with
 | .FunctionDef _ _ b _ _ _ _ _ _ _=>b
 | _=>[]
def aa(s:Stmt):Scope:=match s with
 | .FunctionDef _ _ _ _ _ _ sc _ _ _=>sc
 | _=>{ kind:=.function,names:=[],isGenerator:=false,isCoroutine:=false }
noncomputable abbrev bY:kT:=fun _ _ _ _ _ _=>False
noncomputable abbrev E0:XK:=fun _ _ _=>False
theorem aR{X:Cx}:Passes bY X E0:=fun _ _ _ _ _ _ _ h=>h.elim
structure wm (K:PySem.W.Frag) (x qual:Str) (st:Stmt) (f:Addr) (fd:FuncData):Prop where
 ex:∃ (oc:Value) (od:Option Addr) (kV doc pm:Value) (an:Option Addr) (cdv ct:Value) (osl:Array (Option Value)),
  fd=PySem.W.fnOf x qual (az st) (aq st) (aa st) .none kV doc pm an cdv ct/\K.lookup f=some ⟨oc,od,.func fd,osl⟩/\PySem.W.codeIn K cdv qual=true
 kp:PySem.W.keepIn K (.ref f)=true
section
variable {P:Program} {w:World} {K:PySem.W.Frag} {mg:Str->Option Value} {base:Heap}
theorem wm.ok{x qual:Str}{st:Stmt}{f:Addr}{fd:FuncData}{N ps:List Str}{k:Nat}{sp:Sp}(F:wm K x qual st f fd)(S:av N ps (aa st))(len:∀ vs H Q E,sp vs H Q E->vs.length=ps.length)
  (hbody:∀ (cdv:Value) (A:Around) (outer:List Env) (s:Shared) (H:Hp) (vs:List V) (Q:VK) (E:XK),bC k (A.deeper (envOfC qual (aa st) s.heap.objs.size f cdv))->sp vs H Q E ->
   ∃ t,n9 (fA bY P w K mg base N qual (aa st) f cdv A outer s H E).w8 (aq st) t/\t { nx:=fun _ H'=>Q .aI H',rt:=Q } (start N vs) H):df P w K mg base bY (k+1) f fd ps sp:=by
 obtain⟨oc,od,kV,doc,pm,an,cdv,ct,osl,rfl,lk,hcd⟩:=F.ex;refine zj lk hcd S len fun A outer s H vs Q E hr hsp=>?_;obtain⟨t,h,q⟩:=hbody cdv A outer s H vs Q E hr hsp;exact⟨t,h.w8,q⟩
theorem wm.binds{x qual:Str}{st:Stmt}{f:Addr}{fd:FuncData}{ps:List Str}(F:wm K x qual st f fd)
  (h:∀ (kV doc pm:Value) (an:Option Addr) (cdv ct:Value) (us:List Value),us.length=ps.length->bindArgs (PySem.W.fnOf x qual (az st) (aq st) (aa st) .none kV doc pm an cdv ct) ⟨us,[]⟩=pure (ps.zip us)):Binds K fd ps []:=by
 obtain⟨oc,od,kV,doc,pm,an,cdv,ct,osl,rfl,lk,hcd⟩:=F.ex;exact .all (h kV doc pm an cdv ct)
theorem ar{x qual:Str}{st:Stmt}{f:Addr}{oc:Value}{od an:Option Addr}{osl:Array (Option Value)}{kV doc pm cdv ct:Value}(l:K.lookup f=some ⟨oc,od,.func (PySem.W.fnOf x qual (az st) (aq st) (aa st) .none kV doc pm an cdv ct),osl⟩)
  (c:PySem.W.codeIn K cdv qual=true) (k:PySem.W.keepIn K (.ref f)=true):wm K x qual st f (PySem.W.fnOf x qual (az st) (aq st) (aa st) .none kV doc pm an cdv ct):=⟨⟨oc,od,kV,doc,pm,an,cdv,ct,osl,rfl,l,c⟩,k⟩
end
theorem bV{A:Around}{k:Nat}(hr:bC k A):A.units+1 < cLine:=Nat.lt_of_le_of_lt (Nat.add_le_add_left (by decide:1<=64) _) hr.units
section
variable {X:Cx}
theorem pv(i:Nat){x:Str}{pos:Pos}(hN:X.N[i]?=some x:=by rfl)(hv:Bg X.env.scope x:=by first | exact Or.inl rfl | exact Or.inr (Or.inl rfl) | exact Or.inr (Or.inr rfl))(hd:(x ==("__debug__":Str))=false:=by decide)
  (hcd:(x ==("__classdict__":Str))=false:=by decide):PE X (.Name x pos) (fF i):=zX hN hv hd hcd
theorem rC:aQ X (.builtin "len") (fun xs H Q=>∃ a kvs,xs=[V.ref a]/\H a=some (.dK kvs)/\Q (.int kvs.length) H):=by
 intro pins s σ H xs us Q I r h;obtain⟨a,kvs,rfl,ha,q⟩:=h;obtain⟨u,rfl,ru⟩:=vals1 r;cases ru;exact C3 I (.inl ha) fun t s' I'=>⟨.int kvs.length,H,I',⟨t,rfl⟩,q⟩
end
def bM(H H':Hp):Prop:=∀ b o,H b=some o->H' b=some o
theorem bM.refl(H:Hp):bM H H:=fun _ _ h=>h
theorem bM.seq{K:PySem.W.Frag}{H H':Hp}{a:Addr}{xs:List V}(e:bM H H')(h:bK K H a xs):bK K H' a xs:=by
 rcases h with (h | ⟨o,h⟩) | h
 ·exact .inl (.inl (e _ _ h))
 ·exact .inl (.inr ⟨o,e _ _ h⟩)
 ·exact .inr h
section
variable {κ:Type} [DecidableEq κ]
theorem wG{kvs:List (κ×V)}{k:κ}{v:V}(h:cq kvs k=some v):k∈kvs.map (·.1):=by
 have q:(kvs.any fun kv=>decide (kv.1=k))=true:=by
  rw[dq,h]
  all_goals rfl
 obtain⟨p,hp,e⟩:=List.any_eq_true.mp q;exact List.mem_map.mpr ⟨p,hp,of_decide_eq_true e⟩
end
def c_(cells:List (Str×Addr)):List (Str×NameKind)->List (Str×Addr)->List (Str×Addr)
 | [],acc=>acc
 | (n,k)::r,acc=>if k=.free then c_ cells r ((n,(cells.lookup n).getD 0)::acc) else c_ cells r acc
theorem eF{scope:Scope}{env:Env}(h:∀ x∈scope.names,x.2=.free->∃ c,env.cells.lookup x.1=some c):closureFor scope env=pure (c_ env.cells scope.names []):=by
 have all:∀ (l:List (Str×NameKind)) (acc:List (Str×Addr)),(∀ x∈l,x.2=.free->∃ c,env.cells.lookup x.1=some c) ->
   (forIn l acc fun (x:Str×NameKind) (cs:List (Str×Addr))=>(match x with | (name,kind)=>if (kind == NameKind.free)=true then (do let c <- cellOf env name;pure (ForInStep.yield ((name,c)::cs))) else pure (ForInStep.yield cs):Sem (ForInStep (List (Str×Addr)))))=(pure (c_ env.cells l acc):Sem (List (Str×Addr))):=by
  intro l
  induction l with
  | nil=>intro acc _;rfl
  | cons x r ih =>
   intro acc hl;obtain⟨n,k⟩:=x;rw[List.forIn_cons];by_cases hk:k=.free
   ·subst hk;obtain⟨c,hc⟩:=hl (n,.free) List.mem_cons_self rfl;have e:cellOf env n=pure c:=by unfold cellOf;rw[hc]
    simp only[beq_self_eq_true,if_true,e,c_,pure_bind];rw[ih _ fun y hy=>hl y (List.mem_cons_of_mem _ hy),hc];rfl
   ·have hb:(k == NameKind.free)=false:=by simpa using hk
    simp only[hb,Bool.false_eq_true,if_false,c_,hk,pure_bind];exact ih _ fun y hy=>hl y (List.mem_cons_of_mem _ hy)
 unfold closureFor;simp only[bind_pure];exact all scope.names [] h
theorem fJ{cells:List (Str×Addr)}:∀ {l:List (Str×NameKind)} {acc:List (Str×Addr)},(∀ x∈l,x.2=.free->∃ c,cells.lookup x.1=some c)->(∀ x c,acc.lookup x=some c->cells.lookup x=some c) ->
  ∀ x c,(c_ cells l acc).lookup x=some c->cells.lookup x=some c
 | [],_,_,h,x,c,e=>h x c e
 | (n,k)::r,acc,hl,h,x,c,e=>by
  unfold c_ at e;have hr:∀ y∈r,y.2=.free->∃ c,cells.lookup y.1=some c:=fun y hy=>hl y (List.mem_cons_of_mem _ hy)
  split at e
  ·rename_i hk;refine fJ hr (fun y d q=>?_) x c e;rw[List.lookup_cons] at q
   split at q
   ·rename_i hy;obtain⟨c',hc'⟩:=hl (n,k) List.mem_cons_self hk;have hy':y=n:=by simpa using hy
    subst hy';simp only[] at hc';rw[hc'] at q ⊢;exact q
   ·exact h y d q
  ·exact fJ hr h x c e
theorem fH{cells:List (Str×Addr)}{x:Str}:∀ {l:List (Str×NameKind)} {acc:List (Str×Addr)},(∃ c,acc.lookup x=some c)->∃ c,(c_ cells l acc).lookup x=some c
 | [],_,h=>h
 | (n,k)::r,acc,h=>by
  unfold c_;split
  ·refine fH ?_;rw[List.lookup_cons];split
   ·exact⟨_,rfl⟩
   ·exact h
  ·exact fH h
theorem dY{cells:List (Str×Addr)}{x:Str}:∀ {l:List (Str×NameKind)} {acc:List (Str×Addr)},(x,NameKind.free)∈l->∃ c,(c_ cells l acc).lookup x=some c
 | [],_,h=>by simp at h
 | (n,k)::r,acc,h=>by
  unfold c_;rcases List.mem_cons.mp h with e | h
  ·cases e;rw[if_pos rfl];exact fH ⟨(cells.lookup x).getD 0,by rw[List.lookup_cons];simp⟩
  ·split
   ·exact dY h
   ·exact dY h
def aB(X:Cx)(scope:Scope)(N:List Str)(C:Addr)(s:Shared)(H:Hp)(fp:List Addr):Cx where
 prog:=X.prog
 w:=X.w
 K:=X.K
 mg:=X.mg
 base:=X.base
 A:=X.A
 N:=N
 s₀:=s
 H₀:=H
 env:=compEnvC scope (c_ X.env.cells scope.names []) C X.env
 outer:=X.stack
 stack:=X.stack
 ex:=fp
 calm:=X.calm
 fn:=fun _=>false
 pn:=[]
 xe:=fun _ _=>False
structure bT (osc:Scope) (ON:List Str) (scope:Scope) (own N:List Str):Prop where
 kind:scope.kind=.function
 nd:N.Nodup
 len:N.length=own.length+ON.length
 ib:∀ y∈scope.names,y.2≠.cell
 loc:∀ y∈scope.names,y.2=.local->scope.names.lookup y.1=some .local
 free:∀ y∈scope.names,y.2=.free->osc.names.lookup y.1=some .cell\/osc.names.lookup y.1=some .free
 out:∀ p∈ON.zip (N.drop own.length),p.1=p.2\/scope.names.lookup p.2=none
 own:∀ x∈N.drop own.length,scope.names.lookup x≠some .local
theorem b_{scope:Scope}{env:Env}(x:Str)(hn:∀ y∈scope.names,y.2≠.cell):((relabel scope env).names.lookup x=some .local->scope.names.lookup x=some .local) /\
  ((relabel scope env).names.lookup x=some .cell\/(relabel scope env).names.lookup x=some .free->scope.names.lookup x=some .free):=by
 unfold relabel;simp only;revert hn;generalize scope.names=l;intro hn
 induction l with
 | nil=>simp
 | cons y r ih =>
  obtain⟨n,k⟩:=y;have ih:=ih fun y hy=>hn y (List.mem_cons_of_mem _ hy);have hk:k≠.cell:=hn (n,k) List.mem_cons_self;rw[List.map_cons];simp only;by_cases hc:(k == NameKind.free && env.scope.kind == ScopeKind.function && env.kindOf n == some NameKind.cell)=true
  ·rw[if_pos hc,List.lookup_cons,List.lookup_cons];have hf:k=.free:=by
    simp only[Bool.and_eq_true] at hc
    simpa using hc.1.1
   split
   ·subst hf;simp
   ·exact ih
  ·rw[if_neg hc,List.lookup_cons,List.lookup_cons];split
   ·constructor
    ·exact fun h=>h
    ·rintro (h | h)
     ·exact absurd (Option.some.inj h) hk
     ·exact h
   ·exact ih
def Cd(X:Cx)(ifs:List Expr)(t:TT):Prop:=
 ∀ (pins:List (Addr×Obj)) (s:Shared) (σ:St) (H:Hp) (Q:Bool->Hp->Prop),Inv X pins σ H s->t σ H Q ->
  wpAny (model X.prog X.w) X.A (forIn ifs true fun c r=>if r=true then do let ok <- isTrue c X.env (eval c X.env);pure (ForInStep.yield ok) else pure (ForInStep.yield r)) (TP X pins σ Q) X.xe s
def zv:TT:=fun _ H Q=>Q true H
theorem xO{X:Cx}:Cd X [] zv:=fun _ _ _ H _ I h=>wpAny_tests_nil ⟨H,I,h⟩
theorem x5{X:Cx}{c:Expr}{t:TT}(h:PT X c t):Cd X [c] t:=fun pins s σ H Q I hw=>wpAny_tests_one (h pins s σ H Q I hw)
theorem kM{prog:Program}{w:World}{A:Around}{R:Result->Shared->Prop}{s:Shared}{elt target iter:Expr}{ifs:List Expr}{scope:Scope}{pos:Pos}{it acc:Value}{env:Env}(I:Nat->Shared->Prop)
  (turn:∀ n s,I n s->wpAny (model prog w) A (pyNext it) (fun r s₁=>match r with
   | none=>R (.ok .next) s₁
   | some v=>wpAny (model prog w) A (letOwnedTupleGo target it v) (fun _ s₁'=>wpAny (model prog w) A (assign target env v) (fun _ s₂ =>
     wpAny (model prog w) A (forIn ifs true fun c r=>if r=true then do let ok <- isTrue c env (eval c env);pure (ForInStep.yield ok) else pure (ForInStep.yield r)) (fun ok s₃ =>
      if ok=true then wpAny (model prog w) A (eval elt env) (fun x s₄ =>
       wpAny (model prog w) A (call (.builtin "list.append") [acc,x]) (fun _ s₅=>∃ m,m < n/\I m s₅) (fun _ _=>False) s₄) (fun _ _=>False) s₃
      else ∃ m,m < n/\I m s₃) (fun _ _=>False) s₂) (fun _ _=>False) s₁') (fun _ _=>False) s₁) (fun _ _=>False) s)
  (n:Nat) (h:I n s):codeAny (model prog w) A (.compLoop (.ListComp elt [⟨target,iter,ifs,0⟩] scope pos) 0 it acc env) R s:=by
 refine codeAny_loop rfl I (fun n s hI=>?_) n h;show wpAny _ A ((compTurn (.ListComp elt [⟨target,iter,ifs,0⟩] scope pos) 0 it acc env).onRaise (fun x=>do noteFrame x env;theTreesLotGoes x)) _ _ s
 refine wpAny_noted ?_;rw[compTurn_list];refine wpAny_bind (wpAny_standAt (wpAny_bind (wpAny_mono (turn n s hI) (fun r s₁ h₁=>?_) fun _ _ h'=>h'.elim)))
 cases r with
 | none=>exact wpAny_pure h₁
 | some v =>
  refine wpAny_bind (wpAny_mono h₁ (fun _ s₁' h₁'=>?_) fun _ _ h'=>h'.elim);refine wpAny_bind (wpAny_mono h₁' (fun _ s₂ h₂=>wpAny_bind (wpAny_mono h₂ (fun ok s₃ h₃=>?_) fun _ _ h'=>h'.elim)) fun _ _ h'=>h'.elim)
  cases ok with
  | false=>exact wpAny_pure ⟨rfl,h₃⟩
  | true =>
   exact wpAny_bind (wpAny_bind (wpAny_mono h₃ (fun x s₄ h₄=>wpAny_bind (wpAny_mono h₄ (fun _ s₅ h₅=>wpAny_pure (wpAny_pure ⟨rfl,h₅⟩)) fun _ _ h'=>h'.elim)) fun _ _ h'=>h'.elim))
def hU(wi:TI)(k:Nat)(g:TG)(tc:TT)(te:TE):TE:=fun σ H Q=>wi σ H fun J H1=>∀ D,H1 D=none ->
 ∃ W:Nat->Nat->List V->St->Hp->Prop,(∃ m,W 0 m [] (List.replicate k none++σ) (upd H1 D (.lst [])))/\∀ i m ys σ' H',W i m ys σ' H'->H' D=some (.lst ys) /\
  ((J.stop i H'/\Q (.ref D) H')\/(J.go i H'/\ys.length < sizeLine/\∀ x H2,J.zt i H' x H2->g x σ' H2 fun σ3 H3=>tc σ3 H3 fun b H4 =>
   if b=true then te σ3 H4 fun v H5=>H5 D=some (.lst ys)/\∃ m',m' < m/\W (i+1) m' (ys++[v]) σ3 (upd H5 D (.lst (ys++[v])))
   else ∃ m',m' < m/\W (i+1) m' ys σ3 H4))
theorem j3{X:Cx}{osc scope:Scope}{ON own N:List Str}{tg iter elt:Expr}{ifs:List Expr}{pos:Pos}{wi:TI}{g:TG}{tc:TT}{te:TE}(S:bT osc ON scope own N)(hosc:X.env.scope=osc)(hON:X.N=ON)(hc:X.calm=true)(hi:PI X tg iter wi)
  (hg:∀ C s H fp,PG (aB X scope N C s H fp) tg g) (ht:∀ C s H fp,Cd (aB X scope N C s H fp) ifs tc) (he:∀ C s H fp,PE (aB X scope N C s H fp) elt te)
  {pins:List (Addr×Obj)} {σ:St} {H:Hp} {s:Shared} {Q:VK} (I:Inv X pins σ H s) (h:hU wi own.length g tc te σ H Q) {RR:Value->Addr->Result->Shared->Prop}
  (fin:∀ (D C:Addr) (H':Hp) (s':Shared) (m:Str->Option Value),Inv X pins σ H' s'->Q (.ref D) H'->H' C=none->X.s₀.heap.objs.size<=C->C≠X.env.locals->(∀ x c,X.env.cells.lookup x=some c->c≠C)->(∀ p∈X.pn++pins,p.1≠C) ->
   s'.heap.Ns C m->RR (.ref D) C (.ok .next) s') :
  wpAny (model X.prog X.w) X.A (eval iter X.env) (fun x s₁=>wpAny (model X.prog X.w) X.A (pyIter x) (fun it s₂=>wpAny (model X.prog X.w) X.A (newList []) (fun acc s₃ =>
   wpAny (model X.prog X.w) X.A (newFunctionEnv scope X.env.globals (c_ X.env.cells scope.names []) [] X.env.qual none .none (some X.env)) (fun cenv s₄ =>
    codeAny (model X.prog X.w) X.A (.compStart (.ListComp elt [⟨tg,iter,ifs,0⟩] scope pos) 0 it acc { cenv with scope:=relabel scope X.env }) (RR acc cenv.locals) s₄) X.xe s₃) X.xe s₂) X.xe s₁) X.xe s:=by
 refine bw (hi pins s σ H _ I h) fun v s1 h1=>bw h1 fun itv s2 h2=>?_;obtain⟨it,fp,tn,J,H2,e,I2,T,dE,f2,q⟩:=h2;subst e;refine wpAny_newObj_type (wpAny_newFunctionEnv S.ib (by intro y hy;simp at hy) (fun h₁ hns₁ hsb₁=>?_) S.kind)
 dsimp only at hns₁ hsb₁ ⊢;have I3:Inv X pins σ (upd H2 s2.heap.objs.size (.lst [])) { s2 with heap:=s2.heap.push { cls:=.type "list",data:=.seq ([]:List Value).toArray },toks:=s2.toks }:=I2.B8 (t':=s2.toks) .nil (Nat.zero_le _)
 have hD2:H2 s2.heap.objs.size=none:=I2.fresh;obtain⟨W,⟨m0,w0⟩,turn⟩:=q _ hD2;generalize hs3:({ s2 with heap:=s2.heap.push { cls:=.type "list",data:=.seq ([]:List Value).toArray },toks:=s2.toks }:Shared)=s3 at I3
 have eh3:s3.heap=s2.heap.push { cls:=.type "list",data:=.seq ([]:List Value).toArray }:=by rw[<- hs3]
 generalize hD:s2.heap.objs.size=D at I3 turn w0 hD2 ⊢;generalize hH3:upd H2 D (.lst [])=H3 at I3 w0;rw[<- eh3] at hns₁ hsb₁ ⊢;have hC3:H3 s3.heap.objs.size=none:=I3.fresh;have hsz3:s3.heap.objs.size=D+1:=by rw[eh3,Heap.size_push,hD]
 have fp2:∀ b∈fp,b < s2.heap.objs.size:=fun b hb=>by
  obtain⟨o,e,_⟩:=T.obj _ _ dE b hb;exact Heap.lt_size e
 have f3:∀ b∈fp,gY X pins H3 b:=fun b hb=>by
  obtain⟨g0,g1⟩:=f2 b hb;refine⟨?_,g1⟩;rw[<- hH3,ae (by rw[<- hD];exact Nat.ne_of_lt (fp2 b hb))]
  exact g0
 have neC:∀ b o,s3.heap.get? b=some o->b≠s3.heap.objs.size:=fun b o e=>Nat.ne_of_lt (Heap.lt_size e);have old:∀ b o,s3.heap.get? b=some o->h₁.get? b=some o:=fun b o e=>hsb₁.extBut b o (neC b o e) (Heap.get?_push_of_some _ e);have hk:=S.kind;have hfr:∀ y∈scope.names,y.2=.free->∃ c,X.env.cells.lookup y.1=some c:=fun y hy hf=>I3.ok.has _ (by subst hosc;exact S.free y hy hf)
 have sub:=fJ (acc:=[]) hfr (by intro x c e;simp at e)
 have JB:∀ tk,Inv (aB X scope N s3.heap.objs.size s3 H3 fp) [] (List.replicate own.length none++σ) H3 { s3 with heap:=h₁,toks:=tk }:=fun tk=>by
  refine⟨⟨I3.ok.mod,S.kind,I3.ok.glob,I3.ok.blt,Nat.le_refl _,fun x y c e1 e2=>I3.ok.inj x y c (sub x c e1) (sub y c e2),fun x hx=>?_,fun x c hf _=>(by cases hf),I3.ok.hd,I3.ok.frames,.inl rfl,fun b hb=>?_,I3.bs,Nat.le_trans I3.ok.x_ I3.sz,fun b o e hb=>?_,fun b hb hf=>?_,I3.stack,I3.gQ,I3.ok.tabs.un I3.base⟩,
   rfl,I3.bare,Un.kept old,⟨_,hns₁,fun i x v e1 e2 e3=>?_⟩,fun x c e=>?_,hC3,fun x c e=>I3.cC x c (sub x c e),fun p hp=>absurd (show p∈([]:List (Addr×Obj)) from hp) (by simp),I3.aE.kept old,?_⟩
  ·have q:=(b_ (env:=X.env) x S.ib).2 hx;exact dY (PySem.mem_of_lookup q)
  ·have hb:b∈fp:=hb;obtain⟨_,g1,g2,g3,g4,g5⟩:=f3 b hb;refine⟨?_,fun x c e=>g4 x c (sub x c e)⟩;have:=fp2 b hb;show b≠s3.heap.objs.size;rw[hsz3,<- hD];exact Nat.ne_of_lt (Nat.lt_succ_of_lt this)
  ·have hb:b∈fp:=hb;obtain⟨_,g1,g2,g3,g4,g5⟩:=f3 b hb;rcases g3 with g3 | g3
   ·exact I3.ok.vv b o e g3
   ·exact absurd (Nat.lt_of_lt_of_le (Heap.lt_size e) (Nat.le_trans I3.ok.x_ g3)) (Nat.lt_irrefl _)
  ·have hb:b∈fp:=hb;obtain⟨_,g1,g2,g3,g4,g5⟩:=f3 b hb;rcases List.mem_cons.mp (I3.ic b hf) with z | z
   ·exact g1 z
   ·exact g2 z
  ·have hi:own.length<=i:=by
    rcases Nat.lt_or_ge i own.length with hlt | hge
    ·rw[List.getElem?_append_left (by simpa using hlt),List.getElem?_replicate] at e2
     split at e2<;>cases e2
    ·exact hge
   rw[List.getElem?_append_right (by simpa using hi),List.length_replicate] at e2
   have e1:N[own.length+(i - own.length)]?=some x:=by rw[Nat.add_sub_cancel' hi];exact e1
   have e1d:(N.drop own.length)[i - own.length]?=some x:=by rw[List.getElem?_drop];exact e1
   have nl:scope.names.lookup x≠some .local:=S.own x (List.mem_of_getElem? e1d);have vis:scope.names.lookup x=some .free:=by
    rcases e3 with z | z
    ·exact absurd ((b_ (env:=X.env) x S.ib).1 z) nl
    ·exact (b_ (env:=X.env) x S.ib).2 z
   have hlen:=I3.len;have hlt:i - own.length < X.N.length:=by
    rw[<- hlen];exact (List.getElem?_eq_some_iff.mp e2).1
   have hxN:X.N[i - own.length]?=some x:=by
    rw[List.getElem?_eq_getElem hlt];have mz:(X.N[i - own.length],x)∈ON.zip (N.drop own.length):=by
     rw[<- hON];refine List.mem_of_getElem? (i:=i - own.length) ?_;rw[List.getElem?_zip_eq_some];exact⟨List.getElem?_eq_getElem hlt,e1d⟩
    rcases S.out _ mz with z | z
    ·exact congrArg some z
    ·exact absurd z (by rw[vis];simp)
   have hko:X.env.scope.names.lookup x=some .cell\/X.env.scope.names.lookup x=some .free:=by subst hosc;exact S.free _ (PySem.mem_of_lookup vis) rfl
   obtain⟨m,hn,hl⟩:=I3.loc;have hv:Bg X.env.scope x:=by
    rcases hko with z | z
    ·exact .inr (.inl z)
    ·exact .inr (.inr z)
   obtain⟨u,ru,lk⟩:=hl _ x v hxN e2 hv;refine⟨u,ru,.inr ⟨?_,?_⟩⟩
   ·rcases e3 with z | z
    ·exact absurd ((b_ (env:=X.env) x S.ib).1 z) nl
    ·exact z
   ·rcases lk with ⟨k,_⟩ | ⟨_,c,ec,hcell⟩
    ·exfalso
     have k':X.env.scope.names.lookup x=some .local:=k;rcases hko with z | z
     ·rw[k'] at z;cases z
     ·rw[k'] at z;cases z
    ·obtain⟨c',ec'⟩:=dY (cells:=X.env.cells) (acc:=[]) (PySem.mem_of_lookup vis);have:=sub x c' ec';rw[ec] at this;cases this;obtain⟨o,ho,hd⟩:=hcell;exact⟨c,ec',o,old c o ho,hd⟩
  ·obtain⟨v,o,ho,hd⟩:=I3.cell x c (sub x c e);exact⟨v,o,old c o ho,hd⟩
  ·show (List.replicate own.length none++σ).length=N.length;rw[S.len,List.length_append,List.length_replicate,I3.len,hON]
 have stat:∀ {H':Hp},(∀ b∈fp,H' b=none)->∀ b∈fp,gY (aB X scope N s3.heap.objs.size s3 H3 fp) [] H' b:=fun {H'} hn b hb=>by
  obtain⟨_,g1,g2,g3,g4,g5⟩:=f3 b hb;refine⟨hn b hb,?_,fun hf=>?_,.inl hb,fun x c e=>g4 x c (sub x c e),fun p hp=>absurd (show p∈([]:List (Addr×Obj)) from hp) (by simp)⟩
  ·have:=fp2 b hb;show b≠s3.heap.objs.size;rw[hsz3,<- hD];exact Nat.ne_of_lt (Nat.lt_succ_of_lt this)
  ·rcases List.mem_cons.mp (I3.ic b hf) with z | z
   ·exact g1 z
   ·exact g2 z
 have st4:tn 0 h₁:=T.keep _ _ _ dE fun b hb o e=>old b o (by rw[eh3];exact Heap.get?_push_of_some _ e)
 have loop:∀ s4:Shared,s4={ s3 with heap:=h₁,toks:=s2.toks+([]:List (Str×Value)).length } ->
   codeAny (model X.prog X.w) X.A (.compLoop (.ListComp elt [⟨tg,iter,ifs,0⟩] scope pos) 0 (.ref it) (.ref D) (aB X scope N s3.heap.objs.size s3 H3 fp).env) (RR (.ref D) s3.heap.objs.size) s4:=by
  rintro s4 rfl;refine kM (fun n s'=>∃ i ys σ' H',Inv (aB X scope N s3.heap.objs.size s3 H3 fp) [] σ' H' s'/\tn i s'.heap/\(∀ b∈fp,H' b=none)/\W i n ys σ' H') ?_ m0 ⟨0,[],_,H3,JB _,st4,fun b hb=>(f3 b hb).1,w0⟩;rintro n s5 ⟨i,ys,σ5,H5,I5,st5,fr5,w5⟩;obtain⟨hD5,ways⟩:=turn i n ys σ5 H5 w5;rcases ways with ⟨stop,qn⟩ | ⟨go,hys,step⟩
  ·refine bw (T.done (aB X scope N s3.heap.objs.size s3 H3 fp) rfl rfl rfl hc i [] s5 σ5 H5 _ I5 (stat fr5) st5 stop) fun r s6 ⟨hr,I6⟩=>?_;subst hr;obtain⟨m,hn,_⟩:=I6.loc;refine fin D _ H5 s6 m ?_ qn I6.free (Nat.le_trans I3.sz (Nat.le_refl _)) ?_ (fun x c e z=>?_) (fun p hp z=>?_) hn
   ·refine I3.yS (ch:=fp) I6.os I6.base I6.aE I6.bare fun b hb=>?_;obtain⟨_,g1,g2,g3,g4,g5⟩:=f3 b hb;exact⟨g3,g1,g4,g5⟩
   ·exact Nat.ne_of_gt I3.lt
   ·obtain⟨v,o,ho,_⟩:=I3.cell x c e;exact absurd (Heap.lt_size ho) (by rw[z];exact Nat.lt_irrefl _)
   ·exact absurd (Heap.lt_size (I3.pin p hp).1) (by rw[z];exact Nat.lt_irrefl _)
  ·refine bw (T.item (aB X scope N s3.heap.objs.size s3 H3 fp) rfl rfl rfl hc i [] s5 σ5 H5 _ I5 (stat fr5) st5 go) fun r s6 ⟨u,hr,h6⟩=>?_;subst hr;refine bw h6 fun _ s7 ⟨x,H7,I7,r7,y7,st7,fr7⟩=>?_;have I7':=I7.pinned (stat fr7) (T.obj _ _ st7);have back:∀ {σ8:St} {H8:Hp} {s8:Shared},Inv (aB X scope N s3.heap.objs.size s3 H3 fp) ([]++iM fp s7.heap) σ8 H8 s8->tn (i+1) s8.heap/\∀ b∈fp,H8 b=none:=fun {σ8 H8 s8} I8=>by
    refine⟨T.keep _ _ _ st7 fun b hb o e=>(I8.pin (b,o) (List.mem_append_right _ (List.mem_append_right _ (dF hb e)))).1,fun b hb=>?_⟩;obtain⟨o,e,d⟩:=T.obj _ _ st7 b hb;exact (I8.pin (b,o) (List.mem_append_right _ (List.mem_append_right _ (dF hb e)))).2.1
   refine bw (hg _ _ _ _ _ s7 σ5 H7 x u _ I7' r7 (step x H7 y7)) fun _ s8 ⟨σ8,H8,I8,q8⟩=>?_;refine bw (ht _ _ _ _ _ s8 σ8 H8 _ I8 q8) fun ok s9 ⟨H9,I9,q9⟩=>?_
   cases ok with
   | false =>
    rw[if_neg (by simp)] at q9 ⊢
    obtain⟨m',hm,w9⟩:=q9;exact⟨m',hm,i+1,ys,σ8,H9,I9.dO,(back I9).1,(back I9).2,w9⟩
   | true =>
    rw[if_pos rfl] at q9 ⊢;refine bw (he _ _ _ _ _ s9 σ8 H9 _ I9 q9) fun y s10 ⟨v10,H10,I10,r10,hD10,m',hm,w10⟩=>?_;refine bw (cL _ s10 σ8 H10 (.ref D) [v10] (.ref D) [y] (fun r H11=>r=.aI/\H11=upd H10 D (.lst (ys++[v10]))) I10 rfl (.cons r10 .nil) ⟨D,ys,v10,rfl,rfl,hD10,hys,rfl,rfl⟩) fun _ s11 ⟨_,H11,I11,_,_,e11⟩=>?_;subst e11;exact⟨m',hm,i+1,_,σ8,_,I11.dO,(back I11).1,(back I11).2,w10⟩
 have start:=codeAny_compStart_list (R:=RR (.ref D) s3.heap.objs.size) (loop _ rfl) (T.self X.A 0 _ _ _ st4 (loop _ rfl));subst hs3;exact start
theorem wI{X:Cx}{osc scope:Scope}{ON own N:List Str}{tg iter elt:Expr}{ifs:List Expr}{pos:Pos}{wi:TI}{g:TG}{tc:TT}{te:TE}(S:bT osc ON scope own N)(hosc:X.env.scope=osc)(hON:X.N=ON)(hc:X.calm=true)(hi:PI X tg iter wi)
  (hg:∀ C s H fp,PG (aB X scope N C s H fp) tg g) (ht:∀ C s H fp,Cd (aB X scope N C s H fp) ifs tc) (he:∀ C s H fp,PE (aB X scope N C s H fp) elt te)
  (hs:∀ x,foldedSetIterable iter X.env x=pure x:=by intro _;rfl) :
  PE X (.ListComp elt [⟨tg,iter,ifs,0⟩] scope pos) (hU wi own.length g tc te):=by
 intro pins s σ H Q I h;have hfr:∀ y∈scope.names,y.2=.free->∃ c,X.env.cells.lookup y.1=some c:=fun y hy hf=>I.ok.has _ (by subst hosc;exact S.free y hy hf)
 rw[eval_ListComp];refine wpAny_comprehension_free (use:=none) rfl hs (eF hfr) S.kind S.loc ?_;refine j3 S hosc hON hc hi hg ht he I h (RR:=fun acc C=>compPost (model X.prog X.w) X.A X.xe none (EP X pins σ Q) acc C) ?_;intro D C H' s' m I' q h1 h2 h3 h4 h5 hn;exact⟨m,hn,fun h'' hs''=>⟨.ref D,H',I'.turned (t':=s'.toks) (fun b o hb e=>(hs''.2 b hb).trans e) h1 h3 (.inr h2) h4 h5,rfl,q⟩⟩
theorem nS{X:Cx}{osc scope:Scope}{ON own N:List Str}{tg iter elt:Expr}{ifs:List Expr}{pos spos py:Pos}{wi:TI}{g:TG}{tc:TT}{te:TE}{j:Nat}{y:Str}(hN:X.N.Nodup)(hj:X.N[j]?=some y)(hx:Loc X.env.scope y)(S:bT osc ON scope own N)(hosc:X.env.scope=osc)(hON:X.N=ON)(hc:X.calm=true)(hi:PI X tg iter wi)
  (hg:∀ C s H fp,PG (aB X scope N C s H fp) tg g) (ht:∀ C s H fp,Cd (aB X scope N C s H fp) ifs tc) (he:∀ C s H fp,PE (aB X scope N C s H fp) elt te)
  (hsw:swapsWith (.ListComp elt [⟨tg,iter,ifs,0⟩] scope pos) (some (.Name y py)) spos.line X.env=pure true:=by rfl)
  (hf:X.fn y=true\/X.env.scope.names.lookup y=some .local:=by first | exact .inl rfl | exact .inr rfl | assumption)
  (hs:∀ x,foldedSetIterable iter X.env x=pure x:=by intro _;rfl) :
  PS X (.Assign [.Name y py] (.ListComp elt [⟨tg,iter,ifs,0⟩] scope pos) spos) (h_ (hU wi own.length g tc te) (bO j)):=by
 intro pins s σ H Dn I h;have hfr:∀ y∈scope.names,y.2=.free->∃ c,X.env.cells.lookup y.1=some c:=fun y hy hf=>I.ok.has _ (by subst hosc;exact S.free y hy hf)
 rw[exec_Assign_Name_used _ _ _ _ hsw];refine wpAny_bind (wpAny_standAt (wpAny_bind ?_));show wpAny _ X.A (do let _ <- comprehension (.ListComp elt [⟨tg,iter,ifs,0⟩] scope pos) scope X.env _ (newList []) false (eval iter X.env) (some (assign (.Name y py) X.env))) _ _ s
 refine wpAny_bind (wpAny_mono (wpAny_comprehension_free (use:=some (assign (.Name y py) X.env)) (Q:=fun _ s'=>SP X pins Dn .next s') rfl hs (eF hfr) S.kind S.loc ?_) (fun _ s' hq=>wpAny_pure (wpAny_pure hq)) fun _ _ e=>e);refine j3 S hosc hON hc hi hg ht he I h (RR:=fun acc C=>compPost (model X.prog X.w) X.A X.xe (some (assign (.Name y py) X.env)) (fun _ s'=>SP X pins Dn .next s') acc C) ?_;intro D C H' s' m I' q h1 h2 h3 h4 h5 hn;show wpAny _ X.A (assign (.Name y py) X.env (.ref D)) _ _ _;refine wpAny_assign_Name (jd I' hN hj hx (v:=.ref D) rfl (fun s'' I'' hsb=>?_) hf);obtain⟨a,sb,ha⟩:=hsb;have nC:C≠a:=by
  rcases ha with ha | ha
  ·rw[ha];exact h3
  ·exact (h4 y a ha).symm
 exact⟨m,hn.sameBut sb nC,fun h'' hs''=>⟨_,H',I''.turned (t':=s''.toks) (fun b o hb e=>(hs''.2 b hb).trans e) h1 h3 (.inr h2) h4 h5,q⟩⟩
def bX(e:Expr):Bool:=match e with
 | .Starred ..=>false
 | _=>true
theorem bN{e:Expr}{es:List Expr}{env:Env}(h:bX e=true):starEach (e::es) env=(false,eval e env)::starEach es env:=by
 cases e<;>first | rfl | cases h
theorem plain_any{env:Env}{pos:Pos}:∀ {es:List Expr},es.all bX=true->(backTo pos (starEach es env)).any (·.1)=false
 | [],_=>rfl
 | e::es,h=>by
  rw[List.all_cons,Bool.and_eq_true] at h;rw[bN h.1];show (false || (backTo pos (starEach es env)).any (·.1))=false;rw[plain_any h.2];rfl
theorem plain_all{env:Env}{pos:Pos}:∀ {es:List Expr},es.all bX=true->(backTo pos (starEach es env)).all (fun x=>!x.1)=true
 | [],_=>rfl
 | e::es,h=>by
  rw[List.all_cons,Bool.and_eq_true] at h;rw[bN h.1];show (true && (backTo pos (starEach es env)).all (fun x=>!x.1))=true;rw[plain_all h.2];rfl
theorem vW{env:Env}{cpos:Pos}{e:Expr}{es:List Expr}(h:(e::es).all bX=true)(hl:(e::es).length < 30):
  ((backTo cpos (starEach (e::es) env)).all (fun x=>!x.1) && (backToKw cpos (keywordEach [] env)).all (fun x=>x.1.isSome) && decide ((e::es).length+([]:List Keyword).length+(if ([]:List Keyword).isEmpty then 0 else 1) < 30))=true:=by
 rw[plain_all h];have e2:(backToKw cpos (keywordEach [] env)).all (fun x=>x.1.isSome)=true:=rfl;rw[e2];have e3:(e::es).length+([]:List Keyword).length+(if ([]:List Keyword).isEmpty then 0 else 1) < 30:=hl
 rw[decide_eq_true e3];rfl
section
variable {X:Cx} {e:Expr} {es:List Expr} {te:TE} {t:TA}
theorem EH(ha:PE X e te)(hr:PA X es t)(h:bX e=true:=by rfl):PA X (e::es) (dX te t):=oX ha hr (bN h)
theorem Cn{id:String}{x:Str}{p pos:Pos}{r:List V->Hp->VK->Prop}(hc:aQ X (.builtin id) r)(hg:Gl X x)(hm:X.mg x=none)(hv:bootBuiltins x=some (.builtin id))(ha:PA X (e::es) t)(h1:bX e=true:=by rfl)(h2:es.all bX=true:=by rfl)(hn:x≠"__name__":=by decide)(hdb:(x ==("__debug__":Str))=false:=by decide):
  PE X (.Call (.Name x p) (e::es) [] pos) (rX r t):=sQ hc hg hm hv ha hn hdb (bN h1) (plain_any h2)
theorem Cf{T:String}{x:Str}{p pos:Pos}{r:List V->Hp->VK->Prop}(hc:aQ X (.type T) r)(hg:Gl X x)(hm:X.mg x=none)(hv:bootBuiltins x=some (.type T))(ha:PA X (e::es) t)(h1:bX e=true:=by rfl)(h2:es.all bX=true:=by rfl)(hn:x≠"__name__":=by decide)(hdb:(x ==("__debug__":Str))=false:=by decide):
  PE X (.Call (.Name x p) (e::es) [] pos) (rX r t):=qV hc hg hm hv ha hn hdb (bN h1) (plain_any h2)
theorem A2{o:Expr}{to:TE}{name:Str}{apos cpos:Pos}{T id:String}{r:V->List V->Hp->VK->Prop}(pa:PlainAttrs T)(slot:Slot T name id)(hty:typeOf (.builtin id)=pure (.type "method_descriptor"))(hm:CL X id r)(ho:PE X o to)(ha:PA X (e::es) t)
  (hbase:attributeBase o name X.env (eval o X.env)=eval o X.env) (hline:(apos.endLine == cpos.line)=true) (h:(e::es).all bX=true) (hl:(e::es).length < 30):PE X (.Call (.Attribute o name apos) (e::es) [] cpos) (Fc X.K T r to t):=by
 have h':=h;rw[List.all_cons,Bool.and_eq_true] at h';exact CZ pa slot hty hm ho ha hbase (vW h hl) hline (bN h'.1) (plain_any h'.2)
theorem oA{tg a:Expr}{ta:TA}{p pos:Pos}(hg:Gl X "range")(hm:X.mg "range"=none)(ha:PA X [a] ta)(h:bX a=true:=by rfl):PI X tg (.Call (.Name "range" p) [a] [] pos) (tW ta):=rm hg hm ha (bN h)
theorem m_{tg a b:Expr}{ta:TA}{p pos:Pos}(hg:Gl X "range")(hm:X.mg "range"=none)(ha:PA X [a,b] ta)(h:bX a=true:=by rfl)(h2:bX b=true:=by rfl):PI X tg (.Call (.Name "range" p) [a,b] [] pos) (sx ta):=qW hg hm ha (by rw[bN h,bN h2];rfl) (bN h2)
end
structure HasFn (K:PySem.W.Frag) (mg:Str->Option Value) (x:Str) (st:Stmt) (ps:List Str):Prop where
 ex:∃ (f:Addr) (fd:FuncData),wm K x x st f fd/\Binds K fd ps []/\mg x=some (.ref f)
structure ah (P:Program) (w:World) (K:PySem.W.Frag) (mg:Str->Option Value) (base:Heap) (CX:kT) (k:Nat) (x:Str) (ps:List Str) (sp:Sp):Prop where
 ex:∃ (f:Addr) (fd:FuncData),mg x=some (.ref f)/\PySem.W.keepIn K (.ref f)=true/\Binds K fd ps []/\df P w K mg base CX k f fd ps sp
section
variable {P:Program} {w:World} {K:PySem.W.Frag} {mg:Str->Option Value} {base:Heap}
theorem HasFn.ok{x:Str}{st:Stmt}{N ps:List Str}{k:Nat}{sp:Sp}(F:HasFn K mg x st ps)(S:av N ps (aa st))(len:∀ vs H Q E,sp vs H Q E->vs.length=ps.length)
  (hbody:∀ (f:Addr) (cdv:Value) (A:Around) (outer:List Env) (s:Shared) (H:Hp) (vs:List V) (Q:VK) (E:XK),bC k (A.deeper (envOfC x (aa st) s.heap.objs.size f cdv))->sp vs H Q E ->
   ∃ t,n9 (fA bY P w K mg base N x (aa st) f cdv A outer s H E).w8 (aq st) t/\t { nx:=fun _ H'=>Q .aI H',rt:=Q } (start N vs) H):ah P w K mg base bY (k+1) x ps sp:=by
 obtain⟨f,fd,F1,b,m⟩:=F.ex;exact⟨f,fd,m,F1.kp,b,F1.ok S len fun cdv A outer s H vs Q E hr h=>hbody f cdv A outer s H vs Q E hr h⟩
end
section
variable {X:Cx} {CX:kT} {k:Nat} {ps:List Str} {sp:Sp} {E:XK} {x:Str} {p pos:Pos} {e:Expr} {es:List Expr} {t:TA}
theorem DR(F:ah X.prog X.w X.K X.mg X.base CX k x ps sp)(hr:bC k X.A)(hg:Gl X x)(hx:Passes CX X E)(ha:PA X (e::es) t)(h1:bX e=true:=by rfl)(h2:es.all bX=true:=by rfl)(hdb:(x ==("__debug__":Str))=false:=by decide):
  PE X (.Call (.Name x p) (e::es) [] pos) (hC sp [] E t):=by
 obtain⟨f,fd,m,kp,b,G⟩:=F.ex;exact xJ G hr hg m kp b .nil hx ha hdb (bN h1) (plain_any h2)
end
def AV:Expr->Option V
 | .Constant (.int i) _ _=>some (.int i)
 | .Constant (.str x) _ _=>some (.str x)
 | .Constant (.bool b) _ _=>some (.bl b)
 | .Constant .none _ _=>some .aI
 | _=>none
def jn:List Expr->Option (List V)
 | []=>some []
 | e::es=>match AV e,jn es with
  | some v,some vs=>some (v::vs)
  | _,_=>none
def tK(vs:List V):TA:=fun _ H Q=>Q vs H
theorem zF{X:Cx}{e:Expr}{v:V}(h:AV e=some v):PE X e (tC v)/\∀ es,starEach (e::es) X.env=(false,eval e X.env)::starEach es X.env:=by
 unfold AV at h
 split at h
 ·cases h;exact⟨ik,fun _=>rfl⟩
 ·cases h;exact⟨v7,fun _=>rfl⟩
 ·cases h;exact⟨ze,fun _=>rfl⟩
 ·cases h;exact⟨sF,fun _=>rfl⟩
 ·cases h
theorem jf{X:Cx}:∀ {es:List Expr} {vs:List V},jn es=some vs->PA X es (tK vs)
 | [],vs,h=>by cases h;exact sD
 | e::es,vs,h=>by
  unfold jn at h
  split at h
  ·rename_i v ws e1 e2;cases h;have p:=zF (X:=X) e1;exact oX (te:=tC v) (t:=tK ws) p.1 (jf e2) (p.2 es)
  ·cases h
def sq(H:Hp)(p:Addr):Option (Bool×List V):=match H p with
 | some (.lst xs)=>some (true,xs)
 | some (.tup xs)=>some (false,xs)
 | some (.cI _ (.lst xs))=>some (true,xs)
 | some (.cI _ (.tup xs))=>some (false,xs)
 | _=>none
theorem pA{K:PySem.W.Frag}{H:Hp}{p:Addr}{xs:List V}(h:sq H p=some (true,xs)):bK K H p xs:=by
 unfold sq at h
 split at h
 ·rename_i e;cases h;exact .inl (.inl e)
 ·cases h
 ·rename_i e;cases h;exact .inl (.inr ⟨_,e⟩)
 ·cases h
 ·cases h
theorem lC{K:PySem.W.Frag}{H:Hp}{p:Addr}{xs:List V}(h:sq H p=some (false,xs)):bu K H p xs:=by
 unfold sq at h
 split at h
 ·cases h
 ·rename_i e;cases h;exact .inl (.inl e)
 ·cases h
 ·rename_i e;cases h;exact .inl (.inr ⟨_,e⟩)
 ·cases h
theorem ku{H:Hp}{p:Addr}{xs:List V}(h:H p=some (.tup xs)):sq H p=some (false,xs):=by unfold sq;rw[h]
section
variable {X:Cx}
def fN(K:PySem.W.Frag):R2:=fun x y H Q=>match x,y with
 | .int i,.int j=>Q (.int (i+j)) H
 | .str i,.str j=>i.length+j.length<=sizeLine/\Q (.str (i++j)) H
 | .ref a,.ref b=>match H a,H b with
  | some (.lst xs),some (.lst ys)=>xs.length+ys.length<=sizeLine/\∀ p,H p=none->Q (.ref p) (upd H p (.lst (xs++ys)))
  | some (.tup xs),some (.tup ys)=>xs≠[]/\ys≠[]/\xs.length+ys.length<=sizeLine/\∀ p,H p=none->Q (.ref p) (upd H p (.tup (xs++ys)))
  | _,_=>False
 | _,_=>False
theorem y8:cN X (binaryOp .Add) (fN X.K):=by
 intro pins s σ H x y v u Q I rx ry h
 cases x with
 | int i=>cases y with
  | int j=>exact tP pins s σ H _ _ v u Q I rx ry ⟨i,j,rfl,rfl,h⟩
  | _=>exact (show False from h).elim
 | str i=>cases y with
  | str j=>exact iy pins s σ H _ _ v u Q I rx ry ⟨i,j,rfl,rfl,h.1,h.2⟩
  | _=>exact (show False from h).elim
 | ref a=>cases y with
  | ref b =>
   unfold fN at h;simp only at h
   split at h
   ·rename_i xs ys e1 e2;exact sM pins s σ H _ _ v u Q I rx ry ⟨a,b,xs,ys,rfl,rfl,e1,e2,h.1,h.2⟩
   ·rename_i xs ys e1 e2;obtain⟨h1,h2,h3,h4⟩:=h;exact qd pins s σ H _ _ v u Q I rx ry ⟨a,b,xs,ys,rfl,rfl,bu.of e1,bu.of e2,h1,h3,fun z=>absurd z h2,fun _=>h4⟩
   ·exact h.elim
  | _=>exact (show False from h).elim
 | _=>exact (show False from h).elim
def BB:R2:=fun x y H Q=>match x,y with
 | .int i,.int j=>nA i j/\Q (.int (i*j)) H
 | .ref a,.int j=>Dw (.ref a) (.int j) H Q
 | _,_=>False
theorem wq:cN X (binaryOp .Mult) BB:=by
 intro pins s σ H x y v u Q I rx ry h
 cases x with
 | int i=>cases y with
  | int j=>exact Ao pins s σ H _ _ v u Q I rx ry ⟨i,j,rfl,rfl,h.1,h.2⟩
  | _=>exact (show False from h).elim
 | ref a=>cases y with
  | int j=>exact Ab pins s σ H _ _ v u Q I rx ry h
  | _=>exact (show False from h).elim
 | _=>exact (show False from h).elim
theorem wd:cN X (compareOp .Eq) C5:=yF
theorem v8:cN X (compareOp .NotEq) AN:=yL
def BW(K:PySem.W.Frag):R2:=fun x y H Q=>match x,y with
 | .str z,.int i=>z.length<=sizeLine/\(match bS z.cps.toList i with | some c=>Q (.str ⟨#[c]⟩) H | none=>False)
 | .ref p,.int i=>match sq H p with
  | some (_,xs)=>(match bS xs i with | some v=>Q v H | none=>False)
  | none=>∃ xs v,bu K H p xs/\bS xs i=some v/\Q v H
 | _,_=>False
theorem Gu{k:Nat}(hu:k < cLine):oW X (BW X.K):=by
 intro value slice pins s σ H x y v u Q I rx ry h hs;refine sY value slice pins s σ H x y v u Q I rx ry ?_ hs
 cases x with
 | str z=>cases y with
  | int i =>
   obtain⟨hz,h⟩:=h
   split at h
   ·rename_i c e;exact .inr (.inr ⟨z,i,c,rfl,rfl,hz,e,h⟩)
   ·exact h.elim
  | _=>exact (show False from h).elim
 | ref p=>cases y with
  | int i =>
   unfold BW at h;simp only at h
   split at h
   ·rename_i b xs e
    split at h
    ·rename_i w' e'
     cases b with
     | true=>exact .inl ⟨p,xs,i,w',rfl,rfl,pA e,e',h⟩
     | false=>exact .inr (.inl ⟨p,xs,i,w',rfl,rfl,lC e,e',h⟩)
    ·exact h.elim
   ·obtain⟨xs,w',hq,e',h⟩:=h;exact .inr (.inl ⟨p,xs,i,w',rfl,rfl,hq,e',h⟩)
  | _=>exact (show False from h).elim
 | _=>exact (show False from h).elim
def FQ(K:PySem.W.Frag):V->Option Int->Option Int->Hp->VK->Prop:=fun x lo hi H Q=>match x with
 | .ref p=>match sq H p with
  | some (true,xs)=>∀ q,H q=none->Q (.ref q) (upd H q (.lst (kG xs lo hi)))
  | some (false,xs)=>ym K (.ref p) lo hi H Q
  | none=>ym K (.ref p) lo hi H Q
 | _=>False
def t_:V->V->V->Hp->(Hp->Prop)->Prop:=fun o i v H Q=>match o,i with
 | .ref p,.int k=>match H p with
  | some (.lst xs)=>(match kU xs.length k with | some j=>Q (upd H p (.lst (xs.set j v))) | none=>False)
  | _=>False
 | _,_=>False
theorem uset:A4 X t_:=by
 intro pins s σ H o i v ov iv u Q I ro ri rv h
 cases o with
 | ref p=>cases i with
  | int k =>
   unfold t_ at h;simp only at h
   split at h
   ·rename_i xs e
    split at h
    ·rename_i j e';exact set_list pins s σ H _ _ v ov iv u Q I ro ri rv ⟨p,xs,k,j,rfl,rfl,e,e',h⟩
    ·exact h.elim
   ·exact h.elim
  | _=>exact (show False from h).elim
 | _=>exact (show False from h).elim
def wF(K:PySem.W.Frag):List V->Hp->VK->Prop:=fun xs H Q=>match xs with
 | [.str y]=>y.length<=sizeLine/\Q (.int y.length) H
 | [.ref p]=>match sq H p with
  | some (_,ys)=>Q (.int ys.length) H
  | none=>∃ ys,bu K H p ys/\Q (.int ys.length) H
 | _=>False
theorem qR:aQ X (.builtin "len") (wF X.K):=by
 intro pins s σ H xs us Q I r h;rcases xs with _ | ⟨x,_ | ⟨y,xs⟩⟩
 ·exact (show False from h).elim
 rotate_left
 ·cases x<;>exact (show False from h).elim
 cases x with
 | str y=>exact i9 pins s σ H _ us Q I r ⟨.str y,_,rfl,⟨h.1,rfl⟩,h.2⟩
 | ref p =>
  unfold wF at h;simp only at h
  split at h
  ·rename_i b ys e;refine i9 pins s σ H _ us Q I r ⟨.ref p,ys.length,rfl,?_,h⟩
   cases b with
   | true=>exact .inl ⟨ys,pA e,rfl⟩
   | false=>exact .inr ⟨ys,lC e,rfl⟩
  ·obtain⟨ys,hq,h⟩:=h;exact i9 pins s σ H _ us Q I r ⟨.ref p,ys.length,rfl,.inr ⟨ys,hq,rfl⟩,h⟩
 | _=>exact (show False from h).elim
def D5:List V->Hp->VK->Prop:=fun xs H Q=>match xs with
 | [.int i,.int j]=>Q (.int (if j < i then j else i)) H
 | _=>False
theorem qI(hc:X.calm=true):aQ X (.builtin "min") D5:=by
 intro pins s σ H xs us Q I r h;rcases xs with _ | ⟨x,_ | ⟨y,_ | ⟨z,xs⟩⟩⟩
 ·exact (show False from h).elim
 ·cases x<;>exact (show False from h).elim
 ·cases x with
  | int i=>cases y with
   | int j=>exact qZ hc pins s σ H _ us Q I r ⟨i,j,rfl,h⟩
   | _=>exact (show False from h).elim
  | _=>exact (show False from h).elim
 ·cases x with
  | int i=>cases y<;>exact (show False from h).elim
  | _=>exact (show False from h).elim
def A6:List V->Hp->VK->Prop:=fun xs H Q=>match xs with
 | [.int i,.int j]=>Q (.int (if j > i then j else i)) H
 | _=>False
theorem jC(hc:X.calm=true):aQ X (.builtin "max") A6:=by
 intro pins s σ H xs us Q I r h;rcases xs with _ | ⟨x,_ | ⟨y,_ | ⟨z,zs⟩⟩⟩
 ·exact (show False from h).elim
 ·cases x<;>exact (show False from h).elim
 ·cases x with
  | int i=>cases y with
   | int j=>exact qQ hc pins s σ H _ us Q I r ⟨i,j,rfl,h⟩
   | _=>exact (show False from h).elim
  | _=>exact (show False from h).elim
 ·cases x<;>first | exact (show False from h).elim | (cases y<;>exact (show False from h).elim)
def fV(K:PySem.W.Frag):List V->Hp->VK->Prop:=fun xs H Q=>match xs with
 | [.ref p]=>match sq H p with
  | some (true,ys)=>∀ l,H l=none->Q (.ref l) (upd H l (.tup ys))
  | some (false,_)=>Q (.ref p) H
  | none=>∃ ys,bu K H p ys/\Q (.ref p) H
 | _=>False
def DL:List V->Hp->VK->Prop:=fun xs H Q=>match xs with
 | [.int i]=>Q (.int i) H
 | [.bl k]=>Q (.int (if k=true then 1 else 0)) H
 | _=>False
theorem rW:aQ X (.type "int") DL:=by
 intro pins s σ H xs us Q I r h;rcases xs with _ | ⟨x,_ | ⟨y,ys⟩⟩
 ·exact (show False from h).elim
 ·cases x with
  | int i=>exact jo pins s σ H _ us Q I r (.inl ⟨i,rfl,h⟩)
  | bl k=>exact jo pins s σ H _ us Q I r (.inr ⟨k,rfl,h⟩)
  | _=>exact (show False from h).elim
 ·cases x<;>exact (show False from h).elim
theorem rP(hc:X.calm=true):aQ X (.builtin "sum") (fun xs H Q=>∃ (p:Addr) (ns:List Int),xs=[.ref p]/\bK X.K H p (ns.map V.int)/\Q (.int ns.sum) H):=by
 intro pins s σ H xs us Q I r h;obtain⟨p,ns,rfl,hq,q⟩:=h;obtain⟨u,rfl,ru⟩:=vals1 r;cases ru;obtain⟨its,rv,pl,hz⟩:=I.list hq;have hi:=intsAre_of rv;obtain⟨xs,hx⟩:=hi.allInts.items;have hl':s.heap.IsList p (intItems xs):=by rw[<- hx];exact pl.isList
 refine sum_intListG (I.ok.hd hc) hl' fun h' tk t' hk=>?_;have e1:ns=xs.toList.map (·.1):=by rw[<- nums_intItems,<- hx];exact hi.numsOf.symm
 have e2:preSum (numAt xs) xs.size=ns.sum:=by rw[preSum_eq,List.take_of_length_le (by simp),e1]
 rw[e2];exact⟨.int ns.sum,H,I.kept hk,⟨_,rfl⟩,q⟩
def qN(t c:String):Bool:=decide (t=c) || (t == "bool" && c == "int")
end
section
variable {X:Cx} {o e:Expr} {es:List Expr} {to:TE} {t:TA} {apos cpos:Pos}
end
section
variable {X:Cx} {e:Expr} {te:TE}
end
open AutoSeq1 (wpAny_loadPart')
section
variable {prog:Program} {w:World} {A:Around} {E:Value->Shared->Prop} {s:Shared}
theorem gI{it l:Addr}{i:Nat}{items:Array Value}{x:Value}{Q:Value->Shared->Prop}(hit:s.heap.IsTupleIter it l i)(hl:s.heap.IsTuple l items)(hx:items[i]?=some x)
  (hQ:∀ h',h'.IsTupleIter it l (i+1)->Heap.SameBut it s.heap h'->Q x { s with heap:=h' }):wpAny (model prog w) A (Builtin.SmallTypes.nextOf (.ref it)) Q E s:=by
 obtain⟨o,ho,hc,hd⟩:=id hit;obtain⟨ol,hol,_,nl,hdl⟩:=hl;unfold Builtin.SmallTypes.nextOf;refine wpAny_bind (wpAny_callSpecial?_slot (name:=Str.ofString "__next__") hit.typeIs F.slot_tuple_iterator_next (wpAny_call_entry F.slot_tuple_iterator_next hit.typeIs F.entry_tuple_iterator_next ?_ (F.args_tuple_iterator_next_1 _)));show wpAny _ _ (field (.ref it) 0 >>= _) _ _ s;refine wpAny_bind (wpAny_field ho hd (x:=.ref l) rfl ?_);show wpAny _ _ (if (Value.ref l == Value.none)=true then _ else _) _ _ s
 rw[if_neg (show ¬ ((Value.ref l == Value.none)=true) from Bool.false_ne_true)];show wpAny _ _ (field (.ref it) 1 >>= _) _ _ s;refine wpAny_bind (wpAny_field ho hd (x:=.int i 0) rfl ?_);show wpAny _ _ (seqItems? (.ref l) >>= _) _ _ s;refine wpAny_bind (wpAny_seqItems hol hdl ?_);simp only[Int.toNat_natCast,hx];refine wpAny_bind (wpAny_setField ho hd (by simp) (wpAny_pure ⟨x,rfl,wpAny_pure (hQ _ ?_ (Heap.SameBut.update ..))⟩))
 exact⟨_,Heap.get?_update_self _ ho (Obj.isFreed_of_fields (Obj.data_mapFields hd _)),(Obj.cls_mapFields ..).trans hc,by rw[Obj.data_mapFields hd];simp[rawInt]⟩
theorem hG{it l:Addr}{i:Nat}{items:Array Value}{Q:Value->Shared->Prop}(hh:A.handled=none)(hit:s.heap.IsTupleIter it l i)(hl:s.heap.IsTuple l items)(hx:items[i]?=none)
  (hE:∀ h' e,Heap.ExtBut it s.heap h'->(∃ o,h'.get? e=some o/\o.cls=.type "StopIteration")->E (.ref e) { s with heap:=h' }):wpAny (model prog w) A (Builtin.SmallTypes.nextOf (.ref it)) Q E s:=by
 obtain⟨o,ho,hc,hd⟩:=id hit;obtain⟨ol,hol,_,nl,hdl⟩:=hl;unfold Builtin.SmallTypes.nextOf;refine wpAny_bind (wpAny_callSpecial?_slot (name:=Str.ofString "__next__") hit.typeIs F.slot_tuple_iterator_next (wpAny_call_entry F.slot_tuple_iterator_next hit.typeIs F.entry_tuple_iterator_next ?_ (F.args_tuple_iterator_next_1 _)));show wpAny _ _ (field (.ref it) 0 >>= _) _ _ s;refine wpAny_bind (wpAny_field ho hd (x:=.ref l) rfl ?_);show wpAny _ _ (if (Value.ref l == Value.none)=true then _ else _) _ _ s
 rw[if_neg (show ¬ ((Value.ref l == Value.none)=true) from Bool.false_ne_true)];show wpAny _ _ (field (.ref it) 1 >>= _) _ _ s;refine wpAny_bind (wpAny_field ho hd (x:=.int i 0) rfl ?_);show wpAny _ _ (seqItems? (.ref l) >>= _) _ _ s;refine wpAny_bind (wpAny_seqItems hol hdl ?_);simp only[Int.toNat_natCast,hx];refine wpAny_bind (wpAny_rule (wpAny_bind (wpAny_setField ho hd (by simp) ?_)))
 show wpAny _ _ (newExc (.type "StopIteration") [] >>= _) _ _ _;refine wpAny_bind ?_;simp only[newExc,newTuple];refine wpAny_bind (wpAny_newObj_type ?_ (by size_fits))
 refine wpAny_bind (m:=firstArgMember _ _) (wpAny_of_eq (a:=Value.none) (by first | rfl | (simp only[firstArgMember];rfl)) ?_)
 refine wpAny_newObj_type ?_ (by size_fits)
 simp only[raiseNew];refine wpAny_bind (wpAny_handled ?_)
 first | rw[show A.in1.handled=none from hh] | rw[hh]
 refine wpAny_bind (wpAny_pure (wpAny_throw ?_));exact hE _ _ (((Heap.SameBut.update ..).extBut.push _).push _) ⟨_,Heap.get?_push_size _ rfl,rfl⟩
theorem cM(hh:A.handled=none)(it l:Addr)(hne:l≠it)(items:Array Value):
  Draws prog w A it [it,l] items.size (fun i v=>items[i]?=some v) (fun i h=>h.IsTupleIter it l i/\h.IsTuple l items) where
 live:=fun _ _ st=>let ⟨o,ho,_⟩:=st.1;⟨o,ho⟩
 frame:=fun _ _ _ st hk=>⟨let ⟨o,e,r⟩:=st.1;⟨o,hk it (by simp) o e,r⟩,let ⟨o,e,r⟩:=st.2;⟨o,hk l (by simp) o e,r⟩⟩
 item:=fun i s Q E hi st hQ=>by
  refine gI st.1 st.2 (x:=items[i]) (by simp[hi]) fun h' hit' hs'=>?_
  exact hQ _ h' s.toks (by simp[hi]) ⟨hit',st.2.extBut hs'.extBut hne⟩ hs'
 done:=fun s Q E st hE=>hG hh st.1 st.2 (by simp) hE
theorem hW(l:Addr)(items:Array Value)(n:Nat)(dct:Option Addr)(sl:Array (Option Value)):
  Meets (Builtin.«enumerate.__new__» ⟨[.type "enumerate",.ref l],[]⟩) (fun _ R s=>s.heap.get? l=some { cls:=.type "tuple",dict:=dct,data:=.seq items n,slots:=sl } /\
   R (.ok (.ret (.ref (s.heap.push { cls:=.type "tuple_iterator",data:=.fields #[.ref l,.int 0 0] }).objs.size)))
    { s with heap:=(s.heap.push { cls:=.type "tuple_iterator",data:=.fields #[.ref l,.int 0 0] }).push { cls:=.type "enumerate",data:=.fields #[.none,.bool false,.ref s.heap.objs.size,rawInt 0,.none,.none] } }):=
 .of_wp fun prog w A R s h=>by
  obtain⟨hp,g,d,tk,os⟩:=s;obtain⟨hl,h⟩:=h;have hsub:=sub_enumerate;have hL:Heap.IsTuple (Shared.heap ⟨hp,g,d,tk,os⟩) l items:=⟨_,hl,rfl,n,rfl⟩;wp_walk using wpAny_loadPart' hl;refine wpAny_stack_any fun st=>wpAny_pure ?_;split
  ·rename_i c _ _ _ _ _
   cases (c == Value.type "enumerate")<;>(wp_walk using wpAny_loadPart' hl,wpAny_pyIter_tuple hL;exact⟨_,rfl,h⟩)
  ·wp_walk using wpAny_loadPart' hl,wpAny_pyIter_tuple hL;exact⟨_,rfl,h⟩
theorem eG{l:Addr}{items:Array Value}{Q:Value->Shared->Prop}(hL:s.heap.IsTuple l items)
  (h:∀ h',IsEnum h' (s.heap.objs.size+1) s.heap.objs.size 0 .none->h'.IsTupleIter s.heap.objs.size l 0->h'.objs.size=s.heap.objs.size+2 ->
   (∀ b o,s.heap.get? b=some o->h'.get? b=some o)->Q (.ref (s.heap.objs.size+1)) { s with heap:=h' }) :
  wpAny (model prog w) A (call (.type "enumerate") [.ref l]) Q E s:=by
 obtain⟨⟨c,dct,dt,sl⟩,hl,hc,n,hd⟩:=hL
 replace hc:c=.type "tuple":=hc
 replace hd:dt=.seq items n:=hd
 subst hc hd;refine callType_new F.called_enumerate (by decide) (F.typeCall_enumerate_1 _) (F.newCall_enumerate_1 _) (fun obj=>F.args_object_init_2 obj _) F.entry_enumerate_new (hW l items n dct sl) ⟨hl,?_⟩
 have hz:(s.heap.push { cls:=.type "tuple_iterator",data:=.fields #[.ref l,.int 0 0] }).objs.size=s.heap.objs.size+1:=Heap.size_push ..;show _/\_;rw[hz];have he:IsEnum ((s.heap.push { cls:=.type "tuple_iterator",data:=.fields #[.ref l,.int 0 0] }).push { cls:=.type "enumerate",data:=.fields #[.none,.bool false,.ref s.heap.objs.size,rawInt 0,.none,.none] }) (s.heap.objs.size+1) s.heap.objs.size 0 .none:=by
  have:=Heap.get?_push_size (s.heap.push { cls:=.type "tuple_iterator",data:=.fields #[.ref l,.int 0 0] }) (o:={ cls:=.type "enumerate",data:=.fields #[.none,.bool false,.ref s.heap.objs.size,rawInt 0,.none,.none] }) rfl;rw[hz] at this;exact this
 refine⟨⟨_,he,rfl⟩,h _ he ⟨_,Heap.get?_push_of_some _ (Heap.get?_push_size _ rfl),rfl,rfl⟩ (by rw[Heap.size_push,hz]) fun b o x=>Heap.get?_push_of_some _ (Heap.get?_push_of_some _ x)⟩
end
section
variable {X:Cx} {pins:List (Addr×Obj)} {σ:St} {H:Hp} {s:Shared} {h':Heap}
theorem Inv.turns{fp:List Addr}{t':Nat}(I:Inv X pins σ H s)(hf:∀ b∈fp,gY X pins H b)(k:∀ b o,b∉fp->s.heap.get? b=some o->h'.get? b=some o):Inv X pins σ H { s with heap:=h',toks:=t' }:=by
 have nf:∀ b u,H b=some u->b∉fp:=fun b u e z=>by rw[(hf b z).1] at e;cases e
 refine I.step (g':=s.gens) (d':=s.drawn) (ch:=fp) (fun b hb=>?_) (fun b o _ _ hc e _=>k b o hc e) (fun b o _ _ hc e _=>⟨o.slots,k b o hc e⟩) (fun _ _ _ _ n=>n)
  (fun b o hc e=>⟨o,k b o hc e⟩) (fun _ _ e=>e) (fun _ _ _ e=>e) (fun b ps e=>⟨#[],by rw[e];simp⟩) (fun m hm=>?_) (fun b u e=>?_) I.bare
 ·obtain⟨_,g1,g2,g3,g4,g5⟩:=hf b hb;exact⟨g3,g1,g4,g5⟩
 ·obtain⟨o,es,ep,ho,r⟩:=hm;exact⟨o,es,ep,k _ o (fun z=>(hf _ z).2.1 rfl) ho,r⟩
 ·refine (I.aE b u e).ig (fun c v hc q=>k c v ?_ q) (fun _ q=>q) (fun _ _ q=>q) fun _ _ _ q=>q;rcases hc with z | z
  ·rw[z];exact nf b u e
  ·exact nf c _ z
theorem Inv.gO{fp:List Addr}{p:Addr}{o:HO}{t':Nat}(I:Inv X pins σ H s)(hf:∀ b∈fp,gY X pins H b)(hp:s.heap.objs.size<=p)(k:∀ b o,b∉fp->s.heap.get? b=some o->h'.get? b=some o)
  (new:aK X.prog X.w (upd H p o) h' p o):Inv X pins σ (upd H p o) { s with heap:=h',toks:=t' }:=by
 have nf:∀ b u,H b=some u->b∉fp:=fun b u e z=>by rw[(hf b z).1] at e;cases e
 have fr:H p=none:=I.aE.fresh hp;have np:∀ b u,H b=some u->b≠p:=fun b u e=>ak e fr;have ne:∀ b o,s.heap.get? b=some o->b≠p:=fun b o e z=>by rw[z] at e;exact absurd (Nat.lt_of_lt_of_le (Heap.lt_size e) hp) (Nat.lt_irrefl _)
 refine I.step (g':=s.gens) (d':=s.drawn) (ch:=fp) (fun b hb=>?_) (fun b o _ _ hc e _=>k b o hc e) (fun b o _ _ hc e _=>⟨o.slots,k b o hc e⟩) (fun b o _ e n=>by rw[ae (ne b o e)];exact n)
  (fun b o hc e=>⟨o,k b o hc e⟩) (fun b xs e=>by rw[ae (np b _ e)];exact e) (fun b o u e=>by rw[ae (np b _ e)];exact e) (fun b ps e=>⟨#[],by rw[ae (np b _ e),e];simp⟩) (fun m hm=>?_) (fun b u e=>?_) I.bare
 ·obtain⟨_,g1,g2,g3,g4,g5⟩:=hf b hb;exact⟨g3,g1,g4,g5⟩
 ·obtain⟨o,es,ep,ho,r⟩:=hm;exact⟨o,es,ep,k _ o (fun z=>(hf _ z).2.1 rfl) ho,r⟩
 ·by_cases hb:b=p
  ·subst hb;rw[af] at e;cases e;exact new
  ·rw[ae hb] at e;refine (I.aE b u e).ig (fun c v hc q=>k c v ?_ q) (fun c q=>by rw[ae (np c _ q)];exact q) (fun c xs q=>by rw[ae (np c _ q)];exact q) fun c _ _ q=>by rw[ae (np c _ q)];exact q
   rcases hc with z | z
   ·rw[z];exact nf b u e
   ·exact nf c _ z
end
def Eo(K:PySem.W.Frag)(a:Addr):Nat->Hp->V->Prop:=fun i H x=>∃ xs,bu K H a xs/\xs[i]?=some x
def Cz(K:PySem.W.Frag)(a:Addr):Nat->Hp->Prop:=fun i H=>∃ xs,bu K H a xs/\xs.length=i
def xm(K:PySem.W.Frag)(a:Addr):It:=
 ⟨fun i H=>∃ x,Eo K a i H x,fun i H x H'=>∃ p y,(∀ xs,bu K H a xs->xs[i]?=some y)/\H p=none/\x=.ref p/\H'=upd H p (.tup [.int i,y]),Cz K a⟩
theorem mY{P:Program}{w:World}{K:PySem.W.Frag}{es:List Expr}{tk:Nat}{tp:Pos}(a it e:Addr)(hne:e≠it):Turn P w K (.Tuple es tk tp) (xm K a) [e,it] e (fun i h=>(∃ old,IsEnum h e it i old)/\h.IsTupleIter it a i) where
 mem:=by simp
 obj:=fun i h st b hb=>by
  obtain⟨⟨old,he⟩,o,eo,c,d⟩:=st;rcases List.mem_cons.mp hb with z | z
  ·subst z;exact⟨_,he,fun v z=>by cases z⟩
  ·have z:b=it:=by simpa using z
   subst z;exact⟨o,eo,fun v z=>by rw[d] at z;cases z⟩
 keep:=fun i h h' st k=>by
  obtain⟨⟨old,he⟩,o,eo,r⟩:=st;exact⟨⟨old,k e (by simp) _ he⟩,o,k it (by simp) o eo,r⟩
 item:=by
  intro X hP hw hK hc i pins s σ H E I hf st hg;subst hP hw hK;obtain⟨x,xs,hq,hx⟩:=hg;obtain⟨⟨old,he⟩,hit⟩:=st;obtain⟨its,rv,p,hz⟩:=I.tuple hq;obtain⟨u,hu,ru⟩:=rv.get hx;obtain⟨g0,g1,g2,g3,g4,g5⟩:=hf e (by simp)
  obtain⟨f0,f1,f2,f3,f4,f5⟩:=hf it (by simp)
  have ht:s.heap.IsTuple a its.toArray:=p;have ha:a≠it:=by
   rintro rfl;obtain⟨o,e1,c1,_⟩:=hit;obtain⟨o',e2,c2,_⟩:=ht;rw[e1] at e2;cases e2;rw[c1] at c2;exact absurd (Value.type.inj c2) (by decide)
  have hea:e≠a:=by
   rintro rfl;obtain⟨o',e2,c2,_⟩:=ht;have e1:s.heap.get? e=some _:=he;rw[e1] at e2;cases e2;exact absurd (Value.type.inj c2) (by decide)
  have hi:i < its.toArray.size:=by
   have:=(List.getElem?_eq_some_iff.mp hu).1
   simpa using this
  refine wpAny_pyNext_enum_itemD (cM (A:=X.A.in1) (I.ok.hd hc) it a ha its.toArray) he ⟨hit,ht⟩ hi hne (by simp[hne,hea]) fun x' h' tk' hP ho hs' hT hsz hk=>?_
  have ex:x'=u:=by
   have hP':its.toArray[i]?=some x':=hP;rw[List.getElem?_toArray,hu] at hP';exact (Option.some.inj hP').symm
  subst ex;refine⟨.ref s.heap.objs.size,rfl,wpAny_letOwnedTupleGo_enum ho fun h2 he2 hs2=>?_⟩;have fr:H s.heap.objs.size=none:=I.aE.fresh (Nat.le_refl _);have hle:e≠s.heap.objs.size:=Nat.ne_of_lt (Heap.lt_size he);have hT2:h2.get? s.heap.objs.size=some { cls:=.type "tuple",data:=.seq #[.int i tk',x'] }:=(hs2.2 _ (Ne.symm hle)).trans hT;have I2:Inv X pins σ (upd H s.heap.objs.size (.tup [.int i,x])) { s with heap:=h2,toks:=tk'+1 }:=by
   refine I.gO (fp:=[e,it]) hf (Nat.le_refl _) (fun b o hb eb=>?_) ⟨by show 2<=sizeLine;decide,[.int i tk',x'],.cons ⟨_,rfl⟩ (.cons ru .nil),⟨_,hT2,rfl,_,rfl,rfl⟩⟩
   have n1:b≠e:=fun z=>hb (by simp[z])
   have n2:b≠it:=fun z=>hb (by simp[z])
   exact (hs2.2 b n1).trans (hk b o n1 n2 eb)
  refine⟨.ref s.heap.objs.size,_,I2,rfl,⟨s.heap.objs.size,x,fun ys hy=>by rw[I.e7 hy hq];exact hx,fr,rfl,rfl⟩,⟨⟨x',?_⟩,?_⟩,fun b hb=>?_⟩
  ·have e:(((i+1:Nat)):Int)=(i:Int)+1:=by lia
   rw[e];exact he2
  ·obtain⟨o,e1,r⟩:=hs'.1;exact⟨o,(hs2.2 it (Ne.symm hne)).trans e1,r⟩
  ·have n:b≠s.heap.objs.size:=by
    rcases List.mem_cons.mp hb with z | z
    ·subst z;exact hle
    ·have z:b=it:=by simpa using z
     subst z;obtain⟨o,e1,_⟩:=hit;exact Nat.ne_of_lt (Heap.lt_size e1)
   rw[ae n];exact (hf b hb).1
 done:=by
  intro X hP hw hK hc i pins s σ H E I hf st hg;subst hP hw hK;obtain⟨xs,hq,hx⟩:=hg;obtain⟨⟨old,he⟩,hit⟩:=st;obtain⟨its,rv,p,hz⟩:=I.tuple hq;have ht:s.heap.IsTuple a its.toArray:=p;have ha:a≠it:=by
   rintro rfl;obtain⟨o,e1,c1,_⟩:=hit;obtain⟨o',e2,c2,_⟩:=ht;rw[e1] at e2;cases e2;rw[c1] at c2;exact absurd (Value.type.inj c2) (by decide)
  have hl:=rv.length;have hsz:its.toArray.size=i:=by simp;lia
  refine wpAny_pyNext_enum_endD (cM (A:=X.A.in1) (I.ok.hd hc) it a ha its.toArray) he (by rw[hsz];exact⟨hit,ht⟩) fun h' eb=>⟨rfl,?_⟩
  exact I.turns (t':=s.toks) hf fun b o hb e1=>eb b o (fun z=>hb (by simp[z])) e1
 self:=fun A i s Q E st h=>by
  obtain⟨⟨old,he⟩,_⟩:=st;exact wpAny_pyIter_enum he h
end L2
namespace L2
open PySem PySem.Spec PyProof.Rows
section
variable {X:Cx} {es:List Expr} {tk:Nat} {tp:Pos}
def yY(K:PySem.W.Frag)(ta:TA):TI:=fun σ H R=>ta σ H fun vs H1=>∃ a,vs=[.ref a]/\(∃ xs,bu K H1 a xs)/\R (xm K a) H1
theorem xQ{e:Expr}{ta:TA}{p pos:Pos}(hg:Gl X "enumerate")(hm:X.mg "enumerate"=none)(ha:PA X [e] ta)(h1:bX e=true:=by rfl)(hv:bootBuiltins "enumerate"=some (.type "enumerate"):=by decide +kernel):
  PI X (.Tuple es tk tp) (.Call (.Name "enumerate" p) [e] [] pos) (yY X.K ta):=by
 intro pins s σ H R I h;refine Call_ (dc I hg hm hv (PyProof.Rows.callWith_type1 (bw (ha pos pins s σ H _ I h) fun us s1 ⟨vs,H1,I1,r1,q1⟩=>?_) (bN h1) rfl));obtain⟨a,e,⟨xs,hq⟩,q⟩:=q1;subst e;obtain⟨u,rfl,ru⟩:=vals1 r1;cases ru;obtain⟨its,rv,pt,hz⟩:=I1.tuple hq;refine eG (show s1.heap.IsTuple a its.toArray from pt) fun h' he hit hsz hk=>?_;refine wpAny_pyIter_enum he ?_;have I2:Inv X pins σ H1 { s1 with heap:=h' }:=I1.kept (t':=s1.toks) hk
 refine⟨s1.heap.objs.size+1,[s1.heap.objs.size+1,s1.heap.objs.size],_,_,H1,rfl,I2,mY a s1.heap.objs.size (s1.heap.objs.size+1) (Nat.ne_of_gt (Nat.lt_succ_self _)),⟨⟨_,he⟩,hit⟩,fun b hb=>?_,q⟩;have hb':s1.heap.objs.size<=b:=by
  rcases List.mem_cons.mp hb with z | z
  ·rw[z];exact Nat.le_succ _
  ·have z:b=s1.heap.objs.size:=by simpa using z
   rw[z];exact Nat.le_refl _
 exact I1.lV hb' (I1.aE.fresh hb')
end
def Ef(J:It)(g:TG)(tb:TS)(D:Ends)(σ:St)(H:Hp):Prop:=∃ W:Nat->Nat->St->Hp->Prop,(∃ m,W 0 m σ H)/\∀ i m σ H,W i m σ H ->
 (J.stop i H/\D.nx σ H)\/(J.go i H/\∃ N:St->Hp->Prop,(∀ σ' H',N σ' H'->∃ m',m' < m/\W (i+1) m' σ' H')/\∀ x H',J.zt i H x H'->g x σ H' fun σ2 H2=>tb { D with nx:=N,ct:=N,bk:=D.nx } σ2 H2)
theorem y4(wi:TI)(g:TG)(tb:TS)(D:Ends)(σ:St)(H:Hp):BF wi g tb D σ H=wi σ H fun J H1=>Ef J g tb D σ H1:=rfl
def uf(J:It)(k:Nat)(g:TG)(tc:TT)(te:TE)(Q:VK)(σ:St)(H1:Hp):Prop:=∀ D,H1 D=none ->
 ∃ W:Nat->Nat->List V->St->Hp->Prop,(∃ m,W 0 m [] (List.replicate k none++σ) (upd H1 D (.lst [])))/\∀ i m ys σ' H',W i m ys σ' H'->H' D=some (.lst ys) /\
  ((J.stop i H'/\Q (.ref D) H')\/(J.go i H'/\ys.length < sizeLine/\∀ x H2,J.zt i H' x H2->g x σ' H2 fun σ3 H3=>tc σ3 H3 fun b H4 =>
   if b=true then te σ3 H4 fun v H5=>H5 D=some (.lst ys)/\∃ m',m' < m/\W (i+1) m' (ys++[v]) σ3 (upd H5 D (.lst (ys++[v])))
   else ∃ m',m' < m/\W (i+1) m' ys σ3 H4))
theorem vV(wi:TI)(k:Nat)(g:TG)(tc:TT)(te:TE)(σ:St)(H:Hp)(Q:VK):hU wi k g tc te σ H Q=wi σ H fun J H1=>uf J k g tc te Q σ H1:=rfl
section
variable {K:PySem.W.Frag} {g:TG} {tb:TS} {D:Ends} {σ:St} {H:Hp} {te:TE} {Q:VK}
end
namespace Ap
theorem fF(i:Nat)(σ:St)(H:Hp)(Q:VK):L2.fF i σ H Q=∃ v,σ[i]?=some (some v)/\Q v H:=rfl
theorem tC(v:V)(σ:St)(H:Hp)(Q:VK):L2.tC v σ H Q=Q v H:=rfl
theorem n_(r:R2)(ta tb:TE)(σ:St)(H:Hp)(Q:VK):L2.n_ r ta tb σ H Q=ta σ H fun x H1=>tb σ H1 fun y H2=>r x y H2 Q:=rfl
theorem gf(t:TE)(σ:St)(H:Hp)(Q:Bool->Hp->Prop):L2.gf t σ H Q=t σ H fun x H'=>∃ k,x=.bl k/\Q k H':=rfl
theorem Ej(t:TT)(ta tb:TE)(σ:St)(H:Hp)(Q:VK):L2.Ej t ta tb σ H Q=t σ H fun c H1=>if c=true then ta σ H1 Q else tb σ H1 Q:=rfl
theorem kX(t u:TT)(σ:St)(H:Hp)(Q:Bool->Hp->Prop):L2.kX t u σ H Q=t σ H fun c H1=>if c=true then u σ H1 Q else Q false H1:=rfl
theorem BP(t u:TT)(σ:St)(H:Hp)(Q:Bool->Hp->Prop):L2.BP t u σ H Q=t σ H fun c H1=>if c=true then Q true H1 else u σ H1 Q:=rfl
theorem wc(t:TT)(σ:St)(H:Hp)(Q:Bool->Hp->Prop):L2.wc t σ H Q=t σ H fun c H1=>Q (!c) H1:=rfl
theorem iQ(σ:St)(H:Hp)(Q:List V->Hp->Prop):L2.iQ σ H Q=Q [] H:=rfl
theorem dX(ta:TE)(tr:TA)(σ:St)(H:Hp)(Q:List V->Hp->Prop):L2.dX ta tr σ H Q=ta σ H fun x H1=>tr σ H1 fun xs H2=>Q (x::xs) H2:=rfl
theorem hC(sp:Sp)(dvs:List V)(E:XK)(t:TA)(σ:St)(H:Hp)(Q:VK):L2.hC sp dvs E t σ H Q=t σ H fun vs H1=>sp (vs++dvs) H1 Q E:=rfl
theorem rX(r:List V->Hp->VK->Prop)(t:TA)(σ:St)(H:Hp)(Q:VK):L2.rX r t σ H Q=t σ H fun vs H1=>r vs H1 Q:=rfl
theorem qK(t u:TS)(D:Ends)(σ:St)(H:Hp):L2.qK t u D σ H=t { D with nx:=u D } σ H:=rfl
theorem h_(te:TE)(g:TG)(D:Ends)(σ:St)(H:Hp):L2.h_ te g D σ H=te σ H fun x H1=>g x σ H1 D.nx:=rfl
theorem bO(i:Nat)(v:V)(σ:St)(H:Hp)(Q:St->Hp->Prop):L2.bO i v σ H Q=Q (σ.set i (some v)) H:=rfl
theorem mS(K:PySem.W.Frag)(n:Nat)(t:n6)(v:V)(σ:St)(H:Hp)(Q:St->Hp->Prop):L2.mS K n t v σ H Q=∃ a xs,v=.ref a/\bu K H a xs/\xs.length=n/\t xs σ H Q:=rfl
theorem dR(t:TG)(u:n6)(v:V)(vs:List V)(σ:St)(H:Hp)(Q:St->Hp->Prop):L2.dR t u (v::vs) σ H Q=t v σ H fun σ' H'=>u vs σ' H' Q:=by
 refine propext ⟨fun⟨a,b,e,h⟩=>?_,fun h=>⟨v,vs,rfl,h⟩⟩
 cases e;exact h
theorem m8(σ:St)(H:Hp)(Q:St->Hp->Prop):L2.m8 [] σ H Q=Q σ H:=propext ⟨fun h=>h.2,fun h=>⟨rfl,h⟩⟩
theorem uk(te:TE)(D:Ends)(σ:St)(H:Hp):L2.uk te D σ H=te σ H D.rt:=rfl
theorem va(c:TT)(t u:TS)(D:Ends)(σ:St)(H:Hp):L2.va c t u D σ H=c σ H fun b H1=>if b=true then t D σ H1 else u D σ H1:=rfl
theorem lr(D:Ends)(σ:St)(H:Hp):L2.lr D σ H=D.nx σ H:=rfl
theorem oM(g:Int->Int->V)(i j:Int)(H:Hp)(Q:VK):L2.oM g (.int i) (.int j) H Q=Q (g i j) H:=by
 refine propext ⟨fun⟨a,b,e1,e2,h⟩=>?_,fun h=>⟨i,j,rfl,rfl,h⟩⟩
 cases e1;cases e2;exact h
theorem FZ(i j:Int)(H:Hp)(Q:VK):C5 (.int i) (.int j) H Q=Q (.bl (decide (i=j))) H:=by
 have e:decide (V.int i=V.int j)=decide (i=j):=by rw[decide_eq_decide];constructor<;>intro h<;>(try cases h)<;>(try rw[h])<;>rfl
 unfold C5;rw[e];exact propext ⟨fun h=>h.2,fun h=>⟨rfl,h⟩⟩
theorem EL(i j:Int)(H:Hp)(Q:VK):AN (.int i) (.int j) H Q=Q (.bl (!decide (i=j))) H:=by
 have e:decide (V.int i=V.int j)=decide (i=j):=by rw[decide_eq_decide];constructor<;>intro h<;>(try cases h)<;>(try rw[h])<;>rfl
 unfold AN;rw[e];exact propext ⟨fun h=>h.2,fun h=>⟨rfl,h⟩⟩
theorem EK(K:PySem.W.Frag)(b:Bool)(H:Hp)(k:Bool):rE K (.bl b) H k=(k=b):=rfl
theorem Fv(K:PySem.W.Frag)(i:Int)(H:Hp)(k:Bool):rE K (.int i) H k=(k=(i != 0)):=rfl
end Ap
def KB(ex:List Addr)(H H':Hp):Prop:=∀ b o,H b=some o->b∉ex->H' b=some o
theorem KB.trans{ex:List Addr}{H H1 H2:Hp}(a:KB ex H H1)(b:KB ex H1 H2):KB ex H H2:=fun c o e n=>b c o (a c o e n) n
theorem KB.new{ex:List Addr}{H:Hp}{p:Addr}{o:HO}(h:H p=none):KB ex H (upd H p o):=fun b u e _=>by rw[ae (ak e h)];exact e
theorem Ec{α:Type}(x:α)(r:List α):bS (x::r) 0=some x:=cJ (j:=0) rfl
theorem DB{α:Type}(a x:α)(r:List α):bS (a::x::r) 1=some x:=cJ (j:=1) rfl
theorem CV{α:Type}(a b x:α)(r:List α):bS (a::b::x::r) 2=some x:=cJ (j:=2) rfl
theorem CI{α:Type}(a b c x:α)(r:List α):bS (a::b::c::x::r) 3=some x:=cJ (j:=3) rfl
theorem zQ{n:Nat}{i:Int}(h0:0<=i)(h:i < n):kU n i=some i.toNat:=by unfold kU;rw[if_pos h0,if_pos h]
namespace Ap
theorem CC(K:PySem.W.Frag)(p:Addr)(i:Int)(H:Hp)(Q:VK):BW K (.ref p) (.int i) H Q=(match sq H p with
  | some (_,xs)=>(match bS xs i with | some v=>Q v H | none=>False)
  | none=>∃ xs v,bu K H p xs/\bS xs i=some v/\Q v H):=rfl
theorem setRef(p:Addr)(k:Int)(v:V)(H:Hp)(Q:Hp->Prop):t_ (.ref p) (.int k) v H Q=(match H p with
  | some (.lst xs)=>(match kU xs.length k with | some j=>Q (upd H p (.lst (xs.set j v))) | none=>False)
  | _=>False):=rfl
theorem Bj(K:PySem.W.Frag)(p:Addr)(H:Hp)(Q:VK):wF K [.ref p] H Q=(match sq H p with
  | some (_,ys)=>Q (.int ys.length) H
  | none=>∃ ys,bu K H p ys/\Q (.int ys.length) H):=rfl
theorem CF(i j:Int)(H:Hp)(Q:VK):A6 [.int i,.int j] H Q=Q (.int (if j > i then j else i)) H:=rfl
theorem xp(H:Hp)(p:Addr)(o:HO):upd H p o p=some o:=af
end Ap
theorem uF{t u:TS}{D:Ends}{σ:St}{H:Hp}(h:∀ N,N=u D->t { D with nx:=N } σ H):qK t u D σ H:=h _ rfl
structure QE (X:Cx) (e:Expr) (t:TE):Prop where h:PE X e t
structure QT (X:Cx) (e:Expr) (t:TT):Prop where h:PT X e t
structure QW (X:Cx) (e:Expr) (t:TT):Prop where h:PW X e t
structure QA (X:Cx) (es:List Expr) (t:TA):Prop where h:PA X es t
structure QS (X:Cx) (st:Stmt) (t:TS):Prop where h:PS X st t
structure QB (X:Cx) (sts:List Stmt) (t:TS):Prop where h:n9 X sts t
structure QI (X:Cx) (tg it:Expr) (t:TI):Prop where h:PI X tg it t
structure QG (X:Cx) (e:Expr) (t:TG):Prop where h:PG X e t
structure El (X:Cx) (es:List Expr) (t:n6):Prop where h:Ce X es t
structure QO (X:Cx) (e:Option Expr) (t:TO):Prop where h:PO X e t
structure BY (X:Cx) (es:List Expr) (t:TT):Prop where h:Cd X es t
namespace Z
def sim(b:Expr):Bool:=match b with
 | .Name .. | .Constant .. | .Call .. | .BinOp .. | .Subscript .. | .Attribute .. | .UnaryOp .. | .Compare .. | .IfExp ..=>true
 | _=>false
theorem Gp{b:Expr}(h:sim b=true):pP b:=by
 cases b<;>first | (intro _ _;rfl) | cases h
def Ex(b:Expr):Bool:=match b with
 | .Name .. | .Call .. | .Subscript .. | .Attribute ..=>true
 | _=>false
theorem ptr{b:Expr}{env:Env}(h:Ex b=true):∀ whole,isTrue b env whole=(do let v <- whole;standAt b.pos;holding [v] (truthy v)):=by
 cases b<;>first | (intro _;rfl) | cases h
def yG(b:Expr):Bool:=match b with
 | .ListComp .. | .SetComp .. | .DictComp ..=>false
 | _=>true
theorem Gg{b:Expr}{tg:Option Expr}{l:Nat}{env:Env}(h:yG b=true):swapsWith b tg l env=pure false:=by
 cases b<;>first | rfl | cases h
section
variable {X:Cx}
theorem yZ(K:PySem.W.Frag)(hK:X.K=K):cN X (binaryOp .Add) (fN K):=by subst hK;exact y8
theorem wN(K:PySem.W.Frag)(hK:X.K=K){k:Nat}(hu:k < cLine):oW X (BW K):=by subst hK;exact Gu hu
theorem C1(K:PySem.W.Frag)(hK:X.K=K):aQ X (.builtin "len") (wF K):=by subst hK;exact qR
end
section
variable {X:Cx} {a b c e o:Expr} {es:List Expr} {ta tb tc te to:TE} {t:TA} {pos p p2:Pos} {tA tB':TT} {rest:List Expr} {x:Str}
theorem int{i:Int}{j:Nat}:QE X (.Constant (.int i) j pos) (tC (.int i)):=⟨ik⟩
theorem bl{i:Bool}{j:Nat}:QE X (.Constant (.bool i) j pos) (tC (.bl i)):=⟨ze⟩
theorem aI{j:Nat}:QE X (.Constant .none j pos) (tC .aI):=⟨sF⟩
theorem str{i:Str}{j:Nat}:QE X (.Constant (.str i) j pos) (tC (.str i)):=⟨v7⟩
theorem v(i:Nat)(hN:X.N[i]?=some x:=by rfl)(hv:Bg X.env.scope x:=by first | exact Or.inl rfl | exact Or.inr (Or.inl rfl) | exact Or.inr (Or.inr rfl))(hd:(x ==("__debug__":Str))=false:=by decide)
  (hcd:(x ==("__classdict__":Str))=false:=by decide):QE X (.Name x pos) (fF i):=⟨pv i hN hv hd hcd⟩
theorem op{o:Operator}{r:R2}(ho:cN X (binaryOp o) r)(ha:QE X a ta)(hb:QE X b tb):QE X (.BinOp a o b pos) (n_ r ta tb):=⟨C7 ho ha.h hb.h⟩
theorem un{o:UnaryOp}{r:V->Hp->VK->Prop}(ho:EF X (unaryOp o) r)(ha:QE X a ta):QE X (.UnaryOp o a pos) (Gn r ta):=⟨CJ ho ha.h⟩
theorem cmp{o:CmpOp}{r:R2}(ho:cN X (compareOp o) r)(ha:QE X a ta)(hb:QE X b tb)(hm:behindInMarks o b=false:=by rfl):QE X (.Compare a [o] [b] pos) (n_ r ta tb):=⟨xb ho ha.h hb.h hm⟩
theorem and(ha:QE X a ta)(hb:QE X (.BoolOp .And (b::rest) pos) tb):QE X (.BoolOp .And (a::b::rest) pos) (yK ta tb):=⟨AM ha.h hb.h⟩
theorem one{o:BoolOp}(ha:QE X a ta):QE X (.BoolOp o [a] pos) ta:=⟨Be ha.h⟩
theorem Gx(hc:QT X c tA)(ha:QE X a ta)(hb:QE X b tb):QE X (.IfExp c a b pos) (Ej tA ta tb):=⟨sU hc.h ha.h hb.h⟩
theorem slice{r:V->Option Int->Option Int->Hp->VK->Prop}{lo hi:Option Expr}{tl th:TO}(hr:sf X r)(he:QE X e te)(hl:QO X lo tl)(hu:QO X hi th):QE X (.Subscript e (.Slice lo hi none p2) pos) (Gd r te tl th):=⟨tu hr he.h hl.h hu.h⟩
theorem sg:QO X none pE:=⟨oO⟩
theorem rY(he:QE X e te):QO X (some e) (zB te):=⟨jL he.h⟩
theorem ix{r:R2}(hr:oW X r)(ha:QE X a ta)(hb:QE X b tb)(hs:sim b=true:=by rfl):QE X (.Subscript a b pos) (n_ r ta tb):=⟨yV hr ha.h hb.h (Gp hs)⟩
theorem tup{k:Nat}(h:QA X es t):QE X (.Tuple es k pos) (DA t):=⟨BN h.h⟩
theorem lst(h:QA X es t):QE X (.List es pos) (DC t):=⟨AU h.h⟩
theorem nil:QA X [] iQ:=⟨sD⟩
theorem cons(ha:QE X e te)(hr:QA X es t)(h:bX e=true:=by rfl):QA X (e::es) (dX te t):=⟨EH ha.h hr.h h⟩
theorem consts{vs:List V}(h:jn es=some vs):QA X es (tK vs):=⟨jf h⟩
theorem cb{id:String}{r:List V->Hp->VK->Prop}(hc:aQ X (.builtin id) r)(hg:Gl X x)(hm:X.mg x=none)(hv:bootBuiltins x=some (.builtin id))(ha:QA X (e::es) t)(h1:bX e=true:=by rfl)(h2:es.all bX=true:=by rfl)(hn:x≠"__name__":=by decide)(hdb:(x ==("__debug__":Str))=false:=by decide):
  QE X (.Call (.Name x p) (e::es) [] pos) (rX r t):=⟨Cn hc hg hm hv ha.h h1 h2 hn hdb⟩
theorem ct{T:String}{r:List V->Hp->VK->Prop}(hc:aQ X (.type T) r)(hg:Gl X x)(hm:X.mg x=none)(hv:bootBuiltins x=some (.type T))(ha:QA X (e::es) t)(h1:bX e=true:=by rfl)(h2:es.all bX=true:=by rfl)(hn:x≠"__name__":=by decide)(hdb:(x ==("__debug__":Str))=false:=by decide):
  QE X (.Call (.Name x p) (e::es) [] pos) (rX r t):=⟨Cf hc hg hm hv ha.h h1 h2 hn hdb⟩
theorem fn{CX:kT}{k:Nat}{ps:List Str}{sp:Sp}{E:XK}(F:ah X.prog X.w X.K X.mg X.base CX k x ps sp)(hr:bC k X.A)(hg:Gl X x)(hx:Passes CX X E)(ha:QA X (e::es) t)(h1:bX e=true:=by rfl)(h2:es.all bX=true:=by rfl)(hdb:(x ==("__debug__":Str))=false:=by decide):
  QE X (.Call (.Name x p) (e::es) [] pos) (hC sp [] E t):=⟨DR F hr hg hx ha.h h1 h2 hdb⟩
theorem bm(K:PySem.W.Frag)(hK:X.K=K){name:Str}{apos:Pos}{T id:String}{r:V->List V->Hp->VK->Prop}(pa:PlainAttrs T)(slot:Slot T name id)(hty:typeOf (.builtin id)=pure (.type "method_descriptor"))(hm:CL X id r)(ho:QE X o to)(ha:QA X (e::es) t)
  (hbase:attributeBase o name X.env (eval o X.env)=eval o X.env:=by rfl) (hline:(apos.endLine == pos.line)=true:=by rfl) (h:(e::es).all bX=true:=by rfl) (hl:(e::es).length < 30:=by decide):QE X (.Call (.Attribute o name apos) (e::es) [] pos) (Fc K T r to t):=by
 subst hK;exact⟨A2 pa slot hty hm ho.h ha.h hbase hline h hl⟩
theorem comp{osc scope:Scope}{ON own N:List Str}{tg iter elt:Expr}{ifs:List Expr}{wi:TI}{g:TG}{tc:TT}(S:bT osc ON scope own N)(hosc:X.env.scope=osc)(hON:X.N=ON)(hc:X.calm=true)(hi:QI X tg iter wi)
  (hg:∀ C s H fp,QG (aB X scope N C s H fp) tg g) (ht:∀ C s H fp,BY (aB X scope N C s H fp) ifs tc) (he:∀ C s H fp,QE (aB X scope N C s H fp) elt te) (hs:∀ x,foldedSetIterable iter X.env x=pure x:=by intro _;rfl) :
  QE X (.ListComp elt [⟨tg,iter,ifs,0⟩] scope pos) (hU wi own.length g tc te):=⟨wI S hosc hON hc hi.h (fun C s H fp=>(hg C s H fp).h) (fun C s H fp=>(ht C s H fp).h) (fun C s H fp=>(he C s H fp).h) hs⟩
theorem cB{o:CmpOp}{r:R2}(ho:cN X (compareOp o) r)(ha:QE X a ta)(hb:QE X b tb)(hm:behindInMarks o b=false:=by rfl):QT X (.Compare a [o] [b] pos) (gf (n_ r ta tb)):=⟨wQ ho ha.h hb.h hm⟩
theorem tw(h:QW X e tA):QT X e tA:=⟨h.h.pt⟩
theorem xi(ha:QT X a tA):QT X (.UnaryOp .Not a pos) (wc tA):=⟨Bk ha.h⟩
def yg(K:PySem.W.Frag)(ta:TE):TT:=fun σ H Q=>ta σ H fun x H'=>∃ k,rE K x H' k/\Q k H'
theorem wo(K:PySem.W.Frag)(hK:X.K=K)(ha:QE X a ta)(he:Ex a=true:=by rfl):QT X a (yg K ta):=by subst hK;exact⟨ve ha.h (ptr he)⟩
theorem mB(ha:QT X a tA):QW X (.BoolOp .And [a] pos) tA:=⟨xa ha.h⟩
theorem si(ha:QT X a tA):QW X (.BoolOp .Or [a] pos) tA:=⟨zD ha.h⟩
theorem vg(ha:QT X a tA)(hb:QW X (.BoolOp .And (b::rest) pos) tB'):QW X (.BoolOp .And (a::b::rest) pos) (kX tA tB'):=⟨AF ha.h hb.h⟩
theorem Cb(ha:QT X a tA)(hb:QW X (.BoolOp .Or (b::rest) pos) tB'):QW X (.BoolOp .Or (a::b::rest) pos) (BP tA tB'):=⟨C8 ha.h hb.h⟩
theorem bq{i:Nat}(hN:X.N.Nodup)(hi:X.N[i]?=some x)(hx:Loc X.env.scope x)(hf:X.fn x=true\/X.env.scope.names.lookup x=some .local:=by first | exact .inl rfl | exact .inr rfl | assumption):QG X (.Name x pos) (bO i):=⟨x9 hN hi hx hf⟩
theorem mW(K:PySem.W.Frag)(hK:X.K=K){k n:Nat}{tg:n6}(hc:X.calm=true)(h:El X es tg)(hn:(assignEach es X.env).length=n:=by rfl)(hst:(assignEach es X.env).findIdx? (·.1)=none:=by rfl):QG X (.Tuple es k pos) (mS K n tg):=by subst hK;exact⟨wk hc h.h hn hst⟩
theorem eE:El X [] m8:=⟨xU⟩
theorem bF{g:TG}{u:n6}(h1:QG X e g)(h2:El X es u)(hs:(assignEach (e::es) X.env).map (·.2)=assign e X.env::(assignEach es X.env).map (·.2):=by rfl):El X (e::es) (dR g u):=⟨tN h1.h h2.h hs⟩
theorem og{i:Expr}{ti:TE}(ho:QE X o to)(hi:QE X i ti)
  (ha:∀ v,assign (.Subscript o i pos) X.env v=(do
   let ov <- holding [v] (eval o X.env)
   let iv <- holding [v,ov] (eval i X.env)
   standAt pos
   holding [v,ov,iv] (setItem ov iv v)
   release [v,ov,iv] []):=by intro _;rfl):QG X (.Subscript o i pos) (DW to ti t_):=⟨AX ho.h hi.h uset ha⟩
theorem nX{tg:Expr}{ta:TA}(hg:Gl X "range")(hm:X.mg "range"=none)(ha:QA X [a] ta)(h:bX a=true:=by rfl):QI X tg (.Call (.Name "range" p) [a] [] pos) (tW ta):=⟨oA hg hm ha.h h⟩
theorem Ak{tg:Expr}{ta:TA}(hg:Gl X "range")(hm:X.mg "range"=none)(ha:QA X [a,b] ta)(h:bX a=true:=by rfl)(h2:bX b=true:=by rfl):QI X tg (.Call (.Name "range" p) [a,b] [] pos) (sx ta):=⟨m_ hg hm ha.h h h2⟩
theorem enum(K:PySem.W.Frag)(hK:X.K=K){k:Nat}{tp:Pos}{ta:TA}(hg:Gl X "enumerate")(hm:X.mg "enumerate"=none)(ha:QA X [e] ta)(h1:bX e=true:=by rfl):QI X (.Tuple es k tp) (.Call (.Name "enumerate" p) [e] [] pos) (yY K ta):=by subst hK;exact⟨xQ hg hm ha.h h1⟩
theorem xn:BY X [] zv:=⟨xO⟩
theorem Gq(h:QT X c tA):BY X [c] tA:=⟨x5 h.h⟩
end
section
variable {X:Cx} {e o tg:Expr} {te to:TE} {st:Stmt} {sts xs ys:List Stmt} {t u:TS} {pos pos':Pos} {x:Str}
theorem dU:QB X [] lr:=⟨xg⟩
theorem ba(h:QS X st t):QB X [st] t:=⟨xl h.h⟩
theorem ai(h:QS X st t)(h2:QB X sts u):QB X (st::sts) (qK t u):=⟨u3 h.h h2.h⟩
theorem set{i:Nat}(hN:X.N.Nodup)(hi:X.N[i]?=some x)(hx:Loc X.env.scope x)(he:QE X e te)(hs:yG e=true:=by rfl)(hf:X.fn x=true\/X.env.scope.names.lookup x=some .local:=by first | exact .inl rfl | exact .inr rfl | assumption):
  QS X (.Assign [.Name x pos'] e pos) (h_ te (bO i)):=⟨zH hN hi hx he.h (Gg hs) hf⟩
theorem setC{osc scope:Scope}{ON own N:List Str}{tg iter elt:Expr}{ifs:List Expr}{p2:Pos}{wi:TI}{g:TG}{tc:TT}{j:Nat}(hN:X.N.Nodup)(hj:X.N[j]?=some x)(hx:Loc X.env.scope x)(S:bT osc ON scope own N)(hosc:X.env.scope=osc)(hON:X.N=ON)(hc:X.calm=true)(hi:QI X tg iter wi)
  (hg:∀ C s H fp,QG (aB X scope N C s H fp) tg g) (ht:∀ C s H fp,BY (aB X scope N C s H fp) ifs tc) (he:∀ C s H fp,QE (aB X scope N C s H fp) elt te)
  (hsw:swapsWith (.ListComp elt [⟨tg,iter,ifs,0⟩] scope p2) (some (.Name x pos')) pos.line X.env=pure true:=by rfl)
  (hf:X.fn x=true\/X.env.scope.names.lookup x=some .local:=by first | exact .inl rfl | exact .inr rfl | assumption) (hs:∀ x,foldedSetIterable iter X.env x=pure x:=by intro _;rfl) :
  QS X (.Assign [.Name x pos'] (.ListComp elt [⟨tg,iter,ifs,0⟩] scope p2) pos) (h_ (hU wi own.length g tc te) (bO j)):=⟨nS hN hj hx S hosc hON hc hi.h (fun C s H fp=>(hg C s H fp).h) (fun C s H fp=>(ht C s H fp).h) (fun C s H fp=>(he C s H fp).h) hsw hf hs⟩
theorem asg{g:TG}(he:QE X e te)(hg:QG X tg g)(hs:swapsWithSole [tg] e pos.line X.env=pure false:=by rfl)(hw:swappedStores [tg] e X.env=pure none:=by rfl)
  (h1:(assignEach [tg] X.env).map (·.2)=[assign tg X.env]:=by rfl):QS X (.Assign [tg] e pos) (h_ te g):=⟨Bf he.h hg.h hs hw h1⟩
theorem ret(he:QE X e te):QS X (.Return (some e) pos) (uk te):=⟨Bo he.h⟩
theorem expr(he:QE X e te)(hs:yG e=true:=by rfl):QS X (.Expr e pos) (zw te):=⟨xM he.h (Gg hs)⟩
theorem ml{c:Expr}{tc:TT}(hc:QT X c tc)(ha:QB X xs t)(hb:QB X ys u):QS X (.If c xs ys pos) (va tc t u):=⟨DG hc.h ha.h hb.h⟩
theorem gF{iter:Expr}{wi:TI}{g:TG}(hp:PassesOwn (model X.prog X.w) X.A X.env X.xe)(hc:X.calm=true)(hi:QI X tg iter wi)(hg:QG X tg g)(hb:QB X xs t)(hs:∀ x,foldedSetIterable iter X.env x=pure x:=by intro _;rfl):QS X (.For tg iter xs [] pos) (BF wi g t):=⟨AB hp hc hi.h hg.h hb.h hs⟩
theorem kr{c:Expr}{tc:TT}(hp:PassesOwn (model X.prog X.w) X.A X.env X.xe)(hc:QT X c tc)(hb:QB X xs t):QS X (.While c xs [] pos) (uy tc t):=⟨uM hp hc.h hb.h⟩
end
end Z
namespace Ap
theorem yg(K:PySem.W.Frag)(ta:TE)(σ:St)(H:Hp)(Q:Bool->Hp->Prop):L2.Z.yg K ta σ H Q=ta σ H fun x H'=>∃ k,rE K x H' k/\Q k H':=rfl
end Ap
theorem HasFn.Ga{P:Program}{w:World}{K:PySem.W.Frag}{mg:Str->Option Value}{base:Heap}{x:Str}{st:Stmt}{N ps:List Str}{k:Nat}{sp:Sp}(F:HasFn K mg x st ps)(S:av N ps (aa st))(len:∀ vs H Q E,sp vs H Q E->vs.length=ps.length)
  (hbody:∀ (f:Addr) (cdv:Value) (A:Around) (outer:List Env) (s:Shared) (H:Hp) (vs:List V) (Q:VK) (E:XK),bC k (A.deeper (envOfC x (aa st) s.heap.objs.size f cdv))->sp vs H Q E ->
   ∃ t,QB (fA bY P w K mg base N x (aa st) f cdv A outer s H E).w8 (aq st) t/\t { nx:=fun _ H'=>Q .aI H',rt:=Q } (start N vs) H):ah P w K mg base bY (k+1) x ps sp:=
 F.ok S len fun f cdv A outer s H vs Q E hr h=>let ⟨t,q,r⟩:=hbody f cdv A outer s H vs Q E hr h;⟨t,q.h,r⟩
theorem wL{P:Program}{w:World}{K:PySem.W.Frag}{mg:Str->Option Value}{base:Heap}{x:Str}{st:Stmt}{N ps:List Str}{k:Nat}{sp:Sp}{f:Addr}{fd:FuncData}(F:wm K x x st f fd)(S:av N ps (aa st))(len:∀ vs H Q E,sp vs H Q E->vs.length=ps.length)
  (hbody:∀ (cdv:Value) (A:Around) (outer:List Env) (s:Shared) (H:Hp) (vs:List V) (Q:VK) (E:XK),bC k (A.deeper (envOfC x (aa st) s.heap.objs.size f cdv))->sp vs H Q E ->
   ∃ t,QB (fA bY P w K mg base N x (aa st) f cdv A outer s H E).w8 (aq st) t/\t { nx:=fun _ H'=>Q .aI H',rt:=Q } (start N vs) H):df P w K mg base bY (k+1) f fd ps sp:=
 F.ok S len fun cdv A outer s H vs Q E hr h=>let ⟨t,q,r⟩:=hbody cdv A outer s H vs Q E hr h;⟨t,q.h,r⟩
def iR(e:Addr)(cls:Value)(d:Option Addr)(h:Heap):Prop:=∃ o vs,h.get? e=some o/\o.cls=cls/\o.dict=d/\o.data=.fields vs
inductive T where
 | aI | bl (b:Bool) | int (i:Int) | str (x:Str) | tup (ts:List T) | lst (ts:List T) | d7 (ts:List T) | fD (lo hi:Int) | gg (ts:List T) | jH (ks:List Key) (ts:List T) | exc (c:Value) (f:Option (Str×Int))
noncomputable abbrev aL:=Addr->Prop
def Gf(K:PySem.W.Frag)(a:Addr)(xs:List V):Prop:=∃ (o:Obj) (its:Array Value) (n:Nat),K.lookup a=some o/\o.cls=.type "tuple"/\o.data=.seq its n/\its.size<=sizeLine/\Vals xs its.toList
def G7(K:PySem.W.Frag)(a:Addr)(xs:List V):Prop:=∃ (o:Obj) (its:Array Value) (n:Nat),K.lookup a=some o/\o.cls=.type "list"/\o.dict=none/\o.data=.seq its n/\its.size<=sizeLine/\Vals xs its.toList
def LB(K:PySem.W.Frag)(H:Hp)(B:aL)(a:Addr)(xs:List V):Prop:=(¬ B a/\Rd H a (.lst xs))\/G7 K a xs
mutual
inductive Rep (K:PySem.W.Frag) (H:Hp) (B:aL):V->T->Prop
 | aI:Rep K H B .aI .aI
 | bl (b:Bool):Rep K H B (.bl b) (.bl b)
 | int (i:Int):Rep K H B (.int i) (.int i)
 | str (x:Str):Rep K H B (.str x) (.str x)
 | tup {a:Addr} {vs:List V} {ts:List T} (n:¬ B a) (h:H a=some (.tup vs)) (r:aj K H B vs ts):Rep K H B (.ref a) (.tup ts)
 | gg {a:Addr} {vs:List V} {ts:List T} (h:Gf K a vs) (r:aj K H B vs ts):Rep K H B (.ref a) (.gg ts)
 | lst {a:Addr} {vs:List V} {ts:List T} (n:¬ B a) (h:H a=some (.lst vs)) (r:aj K H B vs ts):Rep K H B (.ref a) (.lst ts)
 | d7 {a:Addr} {vs:List V} {ts:List T} (h:LB K H B a vs) (r:aj K H B vs ts):Rep K H B (.ref a) (.d7 ts)
 | fD {a:Addr} {lo hi:Int} (n:¬ B a) (h:H a=some (.fD lo hi)):Rep K H B (.ref a) (.fD lo hi)
 | jH {a:Addr} {ks:List Key} {vs:List V} {ts:List T} (n:¬ B a) (h:Rd H a (.dK (ks.zip vs))) (l:ks.length=vs.length) (r:aj K H B vs ts):Rep K H B (.ref a) (.jH ks ts)
 | exc {a:Addr} {c:Value} (n:¬ B a) (h:H a=some (.ext (iR a c none))):Rep K H B (.ref a) (.exc c none)
 | AE {a d:Addr} {c:Value} {x:Str} {i:Int} (n:¬ B a) (h:H a=some (.ext (iR a c (some d)))) (m:¬ B d) (g:H d=some (.xd [(x,.int i)])):Rep K H B (.ref a) (.exc c (some (x,i)))
inductive aj (K:PySem.W.Frag) (H:Hp) (B:aL):List V->List T->Prop
 | nil:aj K H B [] []
 | cons {v:V} {t:T} {vs:List V} {ts:List T} (h:Rep K H B v t) (r:aj K H B vs ts):aj K H B (v::vs) (t::ts)
end
def Fr(B:aL)(H:Hp)(B':aL)(H':Hp):Prop:=∀ b o,H b=some o->¬ B b->H' b=some o/\¬ B' b
theorem Fr.refl{B:aL}{H:Hp}:Fr B H B H:=fun _ _ h n=>⟨h,n⟩
theorem Fr.trans{B B1 B2:aL}{H H1 H2:Hp}(a:Fr B H B1 H1)(b:Fr B1 H1 B2 H2):Fr B H B2 H2:=fun c o h n=>let ⟨h1,n1⟩:=a c o h n;b c o h1 n1
theorem Fr.same{B:aL}{H H':Hp}(s:bM H H'):Fr B H B H':=fun b o h n=>⟨s b o h,n⟩
theorem Fr.less{B B':aL}{H:Hp}(s:∀ b,B' b->B b):Fr B H B' H:=fun b o h n=>⟨h,fun z=>n (s b z)⟩
theorem Fr.set{B:aL}{H:Hp}{a:Addr}{o:HO}(h:B a):Fr B H B (upd H a o):=fun b u e n=>⟨by rw[ae (by rintro rfl;exact n h)];exact e,n⟩
theorem bM.new{H:Hp}{p:Addr}{o:HO}(h:H p=none):bM H (upd H p o):=fun b u e=>by rw[ae (ak e h)];exact e
theorem Fr.more{B:aL}{H:Hp}{p:Addr}{o:HO}(h:H p=none):Fr B H (fun b=>b=p\/B b) (upd H p o):=fun b u e n=>⟨bM.new h b u e,fun z=>z.elim (ak e h) n⟩
theorem Rd.fr{B B':aL}{H H':Hp}{a:Addr}{u:HO}(f:Fr B H B' H')(n:¬ B a)(h:Rd H a u):¬ B' a/\Rd H' a u:=by
 rcases h with h | ⟨o,h⟩
 ·exact⟨(f a _ h n).2,.inl (f a _ h n).1⟩
 ·exact⟨(f a _ h n).2,.inr ⟨o,(f a _ h n).1⟩⟩
section
variable {K:PySem.W.Frag} {H H':Hp} {B B':aL}
theorem LB.fr{a:Addr}{xs:List V}(f:Fr B H B' H')(h:LB K H B a xs):LB K H' B' a xs:=h.elim (fun z=>.inl (z.2.fr f z.1)) .inr
theorem LB.sq{a:Addr}{xs:List V}(h:LB K H B a xs):bK K H a xs:=h.elim (fun z=>.inl z.2) .inr
mutual
theorem Rep.fr(f:Fr B H B' H'):∀ {v:V} {t:T},Rep K H B v t->Rep K H' B' v t
 | _,_,.aI=>.aI
 | _,_,.bl b=>.bl b
 | _,_,.int i=>.int i
 | _,_,.str x=>.str x
 | _,_,.tup n h r=>.tup (f _ _ h n).2 (f _ _ h n).1 (aj.fr f r)
 | _,_,.gg h r=>.gg h (aj.fr f r)
 | _,_,.lst n h r=>.lst (f _ _ h n).2 (f _ _ h n).1 (aj.fr f r)
 | _,_,.d7 h r=>.d7 (h.fr f) (aj.fr f r)
 | _,_,.fD n h=>.fD (f _ _ h n).2 (f _ _ h n).1
 | _,_,.jH n h l r=>.jH (Rd.fr f n h).1 (Rd.fr f n h).2 l (aj.fr f r)
 | _,_,.exc n h=>.exc (f _ _ h n).2 (f _ _ h n).1
 | _,_,.AE n h m g=>.AE (f _ _ h n).2 (f _ _ h n).1 (f _ _ g m).2 (f _ _ g m).1
theorem aj.fr(f:Fr B H B' H'):∀ {vs:List V} {ts:List T},aj K H B vs ts->aj K H' B' vs ts
 | _,_,.nil=>.nil
 | _,_,.cons h r=>.cons (Rep.fr f h) (aj.fr f r)
end
theorem aj.length:∀ {vs:List V} {ts:List T},aj K H B vs ts->vs.length=ts.length
 | _,_,.nil=>rfl
 | _,_,.cons _ r=>congrArg (·+1) (aj.length r)
theorem aj.get:∀ {vs:List V} {ts:List T} {i:Nat} {t:T},aj K H B vs ts->ts[i]?=some t->∃ v,vs[i]?=some v/\Rep K H B v t
 | _,_,_,_,.nil,e=>by simp at e
 | _,_,0,_,.cons h _,e=>by simp at e;subst e;exact⟨_,rfl,h⟩
 | _,_,i+1,_,.cons _ r,e=>by
  obtain⟨v,e1,h⟩:=aj.get r (by simpa using e)
  exact⟨v,by simpa using e1,h⟩
theorem aj.append:∀ {vs ws:List V} {ts us:List T},aj K H B vs ts->aj K H B ws us->aj K H B (vs++ws) (ts++us)
 | _,_,_,_,.nil,s=>s
 | _,_,_,_,.cons h r,s=>.cons h (aj.append r s)
theorem aj.take:∀ {vs:List V} {ts:List T} (n:Nat),aj K H B vs ts->aj K H B (vs.take n) (ts.take n)
 | _,_,0,_=>.nil
 | _,_,_+1,.nil=>.nil
 | _,_,n+1,.cons h r=>.cons h (aj.take n r)
theorem aj.drop:∀ {vs:List V} {ts:List T} (n:Nat),aj K H B vs ts->aj K H B (vs.drop n) (ts.drop n)
 | _,_,0,r=>r
 | _,_,_+1,.nil=>.nil
 | _,_,n+1,.cons _ r=>aj.drop n r
theorem aj.set:∀ {vs:List V} {ts:List T} {v:V} {t:T} (i:Nat),Rep K H B v t->aj K H B vs ts->aj K H B (vs.set i v) (ts.set i t)
 | _,_,_,_,_,_,.nil=>.nil
 | _,_,_,_,0,h,.cons _ r=>.cons h r
 | _,_,_,_,i+1,h,.cons q r=>.cons q (aj.set i h r)
theorem aj.rep{vs:List V}{ts:List T}(r:aj K H B vs ts):∀ n:Nat,aj K H B (List.replicate n vs).flatten (List.replicate n ts).flatten
 | 0=>.nil
 | n+1=>by rw[List.replicate_succ,List.replicate_succ,List.flatten_cons,List.flatten_cons];exact r.append (aj.rep r n)
theorem aj.bS{vs:List V}{ts:List T}{i:Int}{t:T}(r:aj K H B vs ts)(e:L2.bS ts i=some t):∃ v,L2.bS vs i=some v/\Rep K H B v t:=by
 unfold L2.bS at e ⊢;rw[r.length]
 cases q:kU ts.length i with
 | none=>rw[q] at e;cases e
 | some j=>rw[q] at e;exact r.get e
end
def bP:T->Bool
 | .aI | .bl _ | .int _ | .str _=>true
 | _=>false
theorem Rep.flat{K:PySem.W.Frag}{H H':Hp}{B B':aL}{v:V}{t:T}(h:Rep K H B v t)(f:bP t=true):Rep K H' B' v t:=by
 cases h with
 | aI=>exact .aI
 | bl b=>exact .bl b
 | int i=>exact .int i
 | str x=>exact .str x
 | tup=>cases f
 | gg=>cases f
 | lst=>cases f
 | d7=>cases f
 | fD=>cases f
 | jH=>cases f
 | exc=>cases f
 | AE=>cases f
theorem aj.flat{K:PySem.W.Frag}{H H':Hp}{B B':aL}:∀ {vs:List V} {ts:List T},aj K H B vs ts->ts.all bP=true->aj K H' B' vs ts
 | _,_,.nil,_=>.nil
 | _,_,.cons h r,f=>by
  rw[List.all_cons,Bool.and_eq_true] at f;exact .cons (h.flat f.1) (aj.flat r f.2)
def Bx(K:PySem.W.Frag)(H:Hp)(B:aL)(a:Addr)(c:T):Prop:=match c with
 | .lst ts=>∃ vs,H a=some (.lst vs)/\aj K H B vs ts
 | .jH ks ts=>∃ vs,H a=some (.dK (ks.zip vs))/\ks.length=vs.length/\aj K H B vs ts
 | _=>False
theorem Bx.er{K:PySem.W.Frag}{H:Hp}{B:aL}{a:Addr}{c:T}(h:Bx K H B a c):∃ o,H a=some o:=by
 unfold Bx at h
 split at h
 ·obtain⟨vs,e,_⟩:=h;exact⟨_,e⟩
 ·obtain⟨vs,e,_⟩:=h;exact⟨_,e⟩
 ·exact h.elim
theorem Bx.of{K:PySem.W.Frag}{H H':Hp}{B B':aL}{a:Addr}{c:T}(h:Bx K H B a c)(e:H' a=H a)(f:Fr B H B' H'):Bx K H' B' a c:=by
 unfold Bx at h ⊢
 split at h
 ·obtain⟨vs,q,r⟩:=h;exact⟨vs,e.trans q,r.fr f⟩
 ·obtain⟨vs,q,l,r⟩:=h;exact⟨vs,e.trans q,l,r.fr f⟩
 ·exact h.elim
theorem Bx.is{K:PySem.W.Frag}{H:Hp}{B:aL}{a:Addr}{c:T}(h:Bx K H B a c):(∃ ts vs,c=.lst ts/\H a=some (.lst vs)/\aj K H B vs ts)\/∃ ks ts vs,c=.jH ks ts/\H a=some (.dK (ks.zip vs))/\ks.length=vs.length/\aj K H B vs ts:=by
 unfold Bx at h
 split at h
 ·obtain⟨vs,q,r⟩:=h;exact .inl ⟨_,vs,rfl,q,r⟩
 ·obtain⟨vs,q,l,r⟩:=h;exact .inr ⟨_,_,vs,rfl,q,l,r⟩
 ·exact h.elim
theorem Bx.rep{K:PySem.W.Frag}{H:Hp}{B:aL}{a:Addr}{c:T}(h:Bx K H B a c)(n:¬ B a):Rep K H B (.ref a) c:=by
 rcases h.is with ⟨ts,vs,rfl,e,r⟩ | ⟨ks,ts,vs,rfl,e,l,r⟩
 ·exact .lst n e r
 ·exact .jH n (.inl e) l r
inductive Sl where
 | un | tr (t:T) | bx (c:T) | pb (c:T)
noncomputable abbrev Mu:=List Sl
inductive R where
 | tr (t:T) | br (i:Nat) | fr (c:T)
structure Fx where
 K:PySem.W.Frag
 H0:Hp
 P:Nat->Option Addr
 Bc:aL
 bh:∀ b,Bc b->∃ o,H0 b=some o
 G:Addr->Option (List V)
def gD(F:Fx)(ad:Nat->Addr)(B:aL)(H:Hp)(i:Nat)(s:Sl)(x:Option (Option V)):Prop:=match s with
 | .un=>True
 | .tr t=>∃ v,x=some (some v)/\Rep F.K H B v t
 | .bx c=>x=some (some (.ref (ad i)))/\B (ad i)/\F.H0 (ad i)=none/\F.P i=none/\Bx F.K H B (ad i) c
 | .pb c=>x=some (some (.ref (ad i)))/\B (ad i)/\F.P i=some (ad i)/\Bx F.K H B (ad i) c
def Sl.box:Sl->Option T
 | .bx c=>some c
 | .pb c=>some c
 | _=>none
structure Rl (F:Fx) (ad:Nat->Addr) (B:aL) (σ:St) (H:Hp) (μ:Mu):Prop where
 len:μ.length=σ.length
 slot:∀ i s,μ[i]?=some s->gD F ad B H i s σ[i]?
 inj:∀ i j s u c d,μ[i]?=some s->μ[j]?=some u->s.box=some c->u.box=some d->ad i=ad j->i=j
 par:∀ i a,F.P i=some a->(∃ c,μ[i]?=some (.pb c))/\ad i=a
 bc:∀ b,F.Bc b->B b
 er:∀ b,B b->∃ o,H b=some o
 old:∀ b o,F.H0 b=some o->(∀ i,F.P i≠some b)->H b=some o
 gh:∀ a vs,F.G a=some vs->H a=some (.lst vs)/\B a/\∀ (i:Nat) (s:Sl) (c:T),μ[i]?=some s->s.box=some c->ad i≠a
theorem gD.boxed{F:Fx}{ad:Nat->Addr}{B:aL}{H:Hp}{i:Nat}{s:Sl}{x:Option (Option V)}{c:T}(h:gD F ad B H i s x)(e:s.box=some c):x=some (some (.ref (ad i)))/\B (ad i)/\Bx F.K H B (ad i) c/\(F.P i=some (ad i)\/F.H0 (ad i)=none):=by
 unfold gD at h
 split at h
 ·cases e
 ·cases e
 ·cases e;exact⟨h.1,h.2.1,h.2.2.2.2,.inr h.2.2.1⟩
 ·cases e;exact⟨h.1,h.2.1,h.2.2.2,.inl h.2.2.1⟩
def Hv(F:Fx)(ad:Nat->Addr)(B:aL)(H:Hp)(μ:Mu)(v:V)(r:R):Prop:=match r with
 | .tr t=>Rep F.K H B v t
 | .br i=>v=.ref (ad i)/\∃ s c,μ[i]?=some s/\s.box=some c
 | .fr _=>False
def more(B:aL)(a:Addr):aL:=fun b=>b=a\/B b
def Vr(F:Fx)(ad:Nat->Addr)(B:aL)(σ:St)(H:Hp)(μ:Mu)(v:V)(r:R):Prop:=match r with
 | .fr c=>Rl F ad B σ H μ/\∃ a,v=.ref a/\¬ B a/\F.H0 a=none/\Rl F ad (more B a) σ H μ/\Bx F.K H (more B a) a c
 | r=>Rl F ad B σ H μ/\Hv F ad B H μ v r
def R.d:R->R
 | .fr c=>.tr c
 | r=>r
section
variable {F:Fx} {ad:Nat->Addr} {B B':aL} {σ:St} {H H':Hp} {μ:Mu} {v:V} {r:R}
theorem Rl.xv(h:Rl F ad B σ H μ){p:Addr}(e:H p=none):F.H0 p=none:=by
 cases q:F.H0 p with
 | none=>rfl
 | some o =>
  by_cases z:∃ i,F.P i=some p
  ·obtain⟨i,z⟩:=z;obtain⟨⟨c,hc⟩,ha⟩:=h.par i p z;have:=(h.slot i _ hc).boxed (c:=c) rfl;obtain⟨o',e'⟩:=h.er _ this.2.1;rw[ha,e] at e';cases e'
  ·have:=h.old p o q fun i zi=>z ⟨i,zi⟩;rw[e] at this;cases this
theorem Rl.m5(h:Rl F ad B σ H μ){p:Addr}(e:H p=none):¬ B p:=fun z=>by
 obtain⟨o,q⟩:=h.er p z;rw[e] at q;cases q
theorem Rl.fr(h:Rl F ad B σ H μ)(s:bM H H')(hB:∀ b,B b->B' b)(hT:∀ b,B' b->∃ o,H' b=some o)(f:Fr B H B' H'):Rl F ad B' σ H' μ:=by
 refine⟨h.len,fun i s' e=>?_,h.inj,h.par,fun b z=>hB b (h.bc b z),hT,fun b o e n=>s b o (h.old b o e n),fun a vs e=>let ⟨g1,g2,g3⟩:=h.gh a vs e;⟨s a _ g1,hB a g2,g3⟩⟩
 have k:=h.slot i s' e;unfold gD at k ⊢
 split at k
 ·trivial
 ·obtain⟨v,e1,r⟩:=k;exact⟨v,e1,r.fr f⟩
 ·obtain⟨e1,b,z,p,x⟩:=k;obtain⟨o,q⟩:=x.er;exact⟨e1,hB _ b,z,p,x.of ((s _ _ q).trans q.symm) f⟩
 ·obtain⟨e1,b,p,x⟩:=k;obtain⟨o,q⟩:=x.er;exact⟨e1,hB _ b,p,x.of ((s _ _ q).trans q.symm) f⟩
theorem Rl.same(h:Rl F ad B σ H μ)(s:bM H H'):Rl F ad B σ H' μ:=h.fr s (fun _ z=>z) (fun b z=>let ⟨o,e⟩:=h.er b z;⟨o,s b o e⟩) (Fr.same s)
theorem Rl.new(h:Rl F ad B σ H μ){p:Addr}{o:HO}(e:H p=none):Rl F ad (more B p) σ (upd H p o) μ:=
 h.fr (bM.new e) (fun _ z=>.inr z) (fun b z=>z.elim (fun q=>by subst q;exact⟨o,af⟩) fun q=>let ⟨u,w⟩:=h.er b q;⟨u,bM.new e b u w⟩) (Fr.more e)
theorem Rl.less(h:Rl F ad B σ H μ)(s:∀ b,B' b->B b)(hb:∀ b,F.Bc b->B' b)(own:∀ i s' c,μ[i]?=some s'->s'.box=some c->B' (ad i))(hg:∀ a vs,F.G a=some vs->B' a):Rl F ad B' σ H μ:=by
 refine⟨h.len,fun i s' e=>?_,h.inj,h.par,hb,fun b z=>h.er b (s b z),h.old,fun a vs e=>let ⟨g1,g2,g3⟩:=h.gh a vs e;⟨g1,hg a vs e,g3⟩⟩
 have k:=h.slot i s' e;unfold gD at k ⊢
 split at k
 ·trivial
 ·obtain⟨v,e1,r⟩:=k;exact⟨v,e1,r.fr (Fr.less s)⟩
 ·obtain⟨e1,b,z,p,x⟩:=k;exact⟨e1,own i _ _ e rfl,z,p,x.of rfl (Fr.less s)⟩
 ·obtain⟨e1,b,p,x⟩:=k;exact⟨e1,own i _ _ e rfl,p,x.of rfl (Fr.less s)⟩
theorem Vr.rl(h:Vr F ad B σ H μ v r):Rl F ad B σ H μ:=by
 cases r with
 | tr t=>exact h.1
 | br i=>exact h.1
 | fr c=>exact h.1
theorem Vr.hv(h:Vr F ad B σ H μ v r):Hv F ad B H μ v r.d:=by
 cases r with
 | tr t=>exact h.2
 | br i=>exact h.2
 | fr c =>
  obtain⟨_,a,rfl,n,_,_,x⟩:=h;exact (x.of rfl (Fr.less fun _ z=>.inr z)).rep n
def Kp(μ μ':Mu):Prop:=∀ i:Nat,((μ[i]?).bind Sl.box).isSome=((μ'[i]?).bind Sl.box).isSome
theorem Kp.refl(μ:Mu):Kp μ μ:=fun i=>rfl
theorem Kp.trans{μ μ1 μ2:Mu}(a:Kp μ μ1)(b:Kp μ1 μ2):Kp μ μ2:=fun i=>(a i).trans (b i)
theorem Kp.symm{μ μ1:Mu}(a:Kp μ μ1):Kp μ1 μ:=fun i=>(a i).symm
theorem Kp.fwd{μ μ':Mu}(k:Kp μ μ'):∀ (i:Nat) (s:Sl) (c:T),μ[i]?=some s->s.box=some c->∃ (s':Sl) (c':T),μ'[i]?=some s'/\s'.box=some c':=fun i s c e b=>by
 have h:=k i;rw[e] at h;have h1:(s.box).isSome=((μ'[i]?).bind Sl.box).isSome:=h;rw[b] at h1
 cases q:μ'[i]? with
 | none=>rw[q] at h1;cases h1
 | some s' =>
  rw[q] at h1;have h2:true=(s'.box).isSome:=h1
  cases q2:s'.box with
  | none=>rw[q2] at h2;cases h2
  | some c'=>exact⟨s',c',rfl,q2⟩
theorem Kp.set{μ:Mu}{i:Nat}{s s':Sl}{c d:T}(e:μ[i]?=some s)(b:s.box=some c)(b':s'.box=some d):Kp μ (μ.set i s'):=fun j=>by
 have hi:i < μ.length:=(List.getElem?_eq_some_iff.mp e).1;by_cases z:i=j
 ·subst z;rw[List.getElem?_set_self hi,e];show (s.box).isSome=(s'.box).isSome;rw[b,b'];rfl
 ·rw[List.getElem?_set_ne z]
theorem Hv.fr{ad:Nat->Addr}{μ':Mu}(h:Hv F ad B H μ v r)(f:Fr B H B' H')(k:Kp μ μ'):Hv F ad B' H' μ' v r:=by
 cases r with
 | tr t=>exact Rep.fr f h
 | br i=>obtain⟨e,s,c,h1,h2⟩:=h;exact⟨e,k.fwd i s c h1 h2⟩
 | fr c=>exact h.elim
def cont(μ:Mu):R->Option T
 | .tr t=>some t
 | .br i=>(μ[i]?).bind Sl.box
 | .fr c=>some c
inductive Vw (K:PySem.W.Frag) (H:Hp) (B:aL):V->T->Prop
 | aI:Vw K H B .aI .aI
 | bl (b:Bool):Vw K H B (.bl b) (.bl b)
 | int (i:Int):Vw K H B (.int i) (.int i)
 | str (x:Str):Vw K H B (.str x) (.str x)
 | tup {a:Addr} {vs:List V} {ts:List T} (h:H a=some (.tup vs)) (r:aj K H B vs ts):Vw K H B (.ref a) (.tup ts)
 | gg {a:Addr} {vs:List V} {ts:List T} (h:Gf K a vs) (r:aj K H B vs ts):Vw K H B (.ref a) (.gg ts)
 | lst {a:Addr} {vs:List V} {ts:List T} (h:H a=some (.lst vs)) (r:aj K H B vs ts):Vw K H B (.ref a) (.lst ts)
 | d7 {a:Addr} {vs:List V} {ts:List T} (h:bK K H a vs) (r:aj K H B vs ts):Vw K H B (.ref a) (.d7 ts)
 | fD {a:Addr} {lo hi:Int} (h:H a=some (.fD lo hi)):Vw K H B (.ref a) (.fD lo hi)
 | jH {a:Addr} {ks:List Key} {vs:List V} {ts:List T} (h:Rd H a (.dK (ks.zip vs))) (l:ks.length=vs.length) (r:aj K H B vs ts):Vw K H B (.ref a) (.jH ks ts)
 | exc {a:Addr} {c:Value} (h:H a=some (.ext (iR a c none))):Vw K H B (.ref a) (.exc c none)
 | AE {a d:Addr} {c:Value} {x:Str} {i:Int} (h:H a=some (.ext (iR a c (some d)))) (g:H d=some (.xd [(x,.int i)])):Vw K H B (.ref a) (.exc c (some (x,i)))
theorem Rep.vw{K:PySem.W.Frag}{t:T}(h:Rep K H B v t):Vw K H B v t:=by
 cases h with
 | aI=>exact .aI
 | bl b=>exact .bl b
 | int i=>exact .int i
 | str x=>exact .str x
 | tup n h r=>exact .tup h r
 | gg h r=>exact .gg h r
 | lst n h r=>exact .lst h r
 | d7 h r=>exact .d7 h.sq r
 | fD n h=>exact .fD h
 | jH n h l r=>exact .jH h l r
 | exc n h=>exact .exc h
 | AE n h m g=>exact .AE h g
theorem Hv.vw{t:T}(l:Rl F ad B σ H μ)(h:Hv F ad B H μ v r)(e:cont μ r=some t):Vw F.K H B v t:=by
 cases r with
 | tr u=>cases e;exact Rep.vw h
 | br i =>
  obtain⟨rfl,s,c,h1,h2⟩:=h;have e2:(μ[i]?).bind Sl.box=some t:=e;rw[h1] at e2;have e':s.box=some t:=e2;rcases ((l.slot i s h1).boxed e').2.2.1.is with ⟨ts,vs,rfl,q,rr⟩ | ⟨ks,ts,vs,rfl,q,ll,rr⟩
  ·exact .lst q rr
  ·exact .jH (.inl q) ll rr
 | fr c=>exact h.elim
def Sl.put:Sl->T->Sl
 | .bx _,c=>.bx c
 | .pb _,c=>.pb c
 | s,_=>s
theorem Sl.jG{s:Sl}{c d:T}(e:s.box=some c):(s.put d).box=some d:=by
 cases s<;>first | rfl | cases e
theorem Rl.put{i:Nat}{s:Sl}{c:T}{vs:List V}{ts:List T}(l:Rl F ad B σ H μ)(e:μ[i]?=some s)(hb:s.box=some c)(r:aj F.K H B vs ts):Rl F ad B σ (upd H (ad i) (.lst vs)) (μ.set i (s.put (.lst ts))):=by
 have k0:=(l.slot i s e).boxed hb;have hi:i < μ.length:=(List.getElem?_eq_some_iff.mp e).1;have f:Fr B H B (upd H (ad i) (.lst vs)):=Fr.set k0.2.1;have get:∀ j,(μ.set i (s.put (.lst ts)))[j]?=if j=i then some (s.put (.lst ts)) else μ[j]?:=fun j=>by
  rw[List.getElem?_set];by_cases z:i=j
  ·subst z;simp[hi]
  ·rw[if_neg z,if_neg (fun q=>z q.symm)]
 refine⟨by rw[List.length_set];exact l.len,fun j s' e'=>?_,fun j k s1 s2 c1 c2 e1 e2 b1 b2 q=>?_,fun j a p=>?_,l.bc,fun b z=>?_,fun b o e' n=>?_,fun a ws ga=>?_⟩
 ·rw[get] at e';by_cases z:j=i
  ·subst z;rw[if_pos rfl] at e';cases e';have k:=l.slot j s e
   cases s with
   | un=>cases hb
   | tr t=>cases hb
   | bx d=>exact⟨k.1,k.2.1,k.2.2.1,k.2.2.2.1,vs,af,r.fr f⟩
   | pb d=>exact⟨k.1,k.2.1,k.2.2.1,vs,af,r.fr f⟩
  ·rw[if_neg z] at e';have k:=l.slot j s' e';have ne:∀ d,s'.box=some d->ad j≠ad i:=fun d hd q=>z (l.inj j i s' s d c e' e hd hb q);unfold gD at k ⊢
   split at k
   ·trivial
   ·obtain⟨v,e1,r1⟩:=k;exact⟨v,e1,r1.fr f⟩
   ·obtain⟨e1,b,z0,p,x⟩:=k;exact⟨e1,b,z0,p,x.of (ae (ne _ rfl)) f⟩
   ·obtain⟨e1,b,p,x⟩:=k;exact⟨e1,b,p,x.of (ae (ne _ rfl)) f⟩
 ·rw[get] at e1 e2;have h1:∃ u d,μ[j]?=some u/\u.box=some d:=by
   by_cases z:j=i
   ·subst z;exact⟨s,c,e,hb⟩
   ·rw[if_neg z] at e1;exact⟨_,_,e1,b1⟩
  have h2:∃ u d,μ[k]?=some u/\u.box=some d:=by
   by_cases z:k=i
   ·subst z;exact⟨s,c,e,hb⟩
   ·rw[if_neg z] at e2;exact⟨_,_,e2,b2⟩
  obtain⟨u1,d1,g1,g2⟩:=h1;obtain⟨u2,d2,g3,g4⟩:=h2;exact l.inj j k u1 u2 d1 d2 g1 g3 g2 g4 q
 ·obtain⟨⟨d,hd⟩,ha⟩:=l.par j a p;refine⟨?_,ha⟩;rw[get];by_cases z:j=i
  ·subst z;rw[e] at hd;cases hd;rw[if_pos rfl];exact⟨_,rfl⟩
  ·rw[if_neg z];exact⟨d,hd⟩
 ·by_cases z':b=ad i
  ·subst z';exact⟨_,af⟩
  ·rw[ae z'];exact l.er b z
 ·have ne:b≠ad i:=by
   rintro rfl;rcases k0.2.2.2 with z | z
   ·exact n i z
   ·rw[z] at e';cases e'
  rw[ae ne];exact l.old b o e' n
 ·obtain⟨g1,g2,g3⟩:=l.gh a ws ga;refine⟨by rw[ae (fun z=>g3 i s c e hb z.symm)];exact g1,g2,fun j s' d e' b'=>?_⟩
  rw[get] at e';by_cases z:j=i
  ·subst z;exact g3 j s c e hb
  ·rw[if_neg z] at e';exact g3 j s' d e' b'
theorem Rl.BA{i:Nat}{t:T}(l:Rl F ad B σ H μ)(hp:∀ c,μ[i]?≠some (.pb c))(h:Rep F.K H B v t):Rl F ad B (σ.set i (some v)) H (μ.set i (.tr t)):=by
 have get:∀ j,i < μ.length->(μ.set i (.tr t))[j]?=if j=i then some (.tr t) else μ[j]?:=fun j hi=>by
  rw[List.getElem?_set];by_cases z:i=j
  ·subst z;simp[hi]
  ·rw[if_neg z,if_neg (fun q=>z q.symm)]
 by_cases hi:i < μ.length
 ·refine⟨by rw[List.length_set,List.length_set];exact l.len,fun j s' e'=>?_,fun j k s1 s2 c1 c2 e1 e2 b1 b2 q=>?_,fun j a p=>?_,l.bc,l.er,l.old,fun a ws ga=>?_⟩
  ·rw[get j hi] at e';by_cases z:j=i
   ·subst z;rw[if_pos rfl] at e';cases e';exact⟨v,by rw[List.getElem?_set_self (by rw[<- l.len];exact hi)],h⟩
   ·rw[if_neg z] at e';rw[List.getElem?_set_ne (Ne.symm z)];exact l.slot j s' e'
  ·rw[get j hi] at e1;rw[get k hi] at e2;by_cases z:j=i
   ·rw[if_pos z] at e1;cases e1;cases b1
   ·by_cases z2:k=i
    ·rw[if_pos z2] at e2;cases e2;cases b2
    ·rw[if_neg z] at e1;rw[if_neg z2] at e2;exact l.inj j k _ _ _ _ e1 e2 b1 b2 q
  ·obtain⟨⟨d,hd⟩,ha⟩:=l.par j a p;refine⟨⟨d,?_⟩,ha⟩;rw[get j hi];by_cases z:j=i
   ·subst z;exact absurd hd (hp d)
   ·rw[if_neg z];exact hd
  ·obtain⟨g1,g2,g3⟩:=l.gh a ws ga;refine⟨g1,g2,fun j s' d e' b'=>?_⟩;rw[get j hi] at e';by_cases z:j=i
   ·rw[if_pos z] at e';cases e';cases b'
   ·rw[if_neg z] at e';exact g3 j s' d e' b'
 ·have hs:σ.length<=i:=by rw[<- l.len];lia
  rw[List.set_eq_of_length_le (show μ.length<=i by lia),List.set_eq_of_length_le hs]
  exact l
theorem Rl.setB{i:Nat}{c:T}{a:Addr}(l:Rl F ad (more B a) σ H μ)(hp:∀ c,μ[i]?≠some (.pb c))(h0:F.H0 a=none)(n:¬ B a)(own:∀ j s c,μ[j]?=some s->s.box=some c->B (ad j))(gB:∀ b vs,F.G b=some vs->B b)(x:Bx F.K H (more B a) a c):
  Rl F (fun j=>if j=i then a else ad j) (more B a) (σ.set i (some (.ref a))) H (μ.set i (.bx c)):=by
 have get:∀ j,i < μ.length->(μ.set i (.bx c))[j]?=if j=i then some (.bx c) else μ[j]?:=fun j hi=>by
  rw[List.getElem?_set];by_cases z:i=j
  ·subst z;simp[hi]
  ·rw[if_neg z,if_neg (fun q=>z q.symm)]
 have pi:F.P i=none:=by
  cases q:F.P i with
  | none=>rfl
  | some b =>
   obtain⟨⟨d,hd⟩,_⟩:=l.par i b q;exact absurd hd (hp d)
 by_cases hi:i < μ.length
 ·refine⟨by rw[List.length_set,List.length_set];exact l.len,fun j s' e'=>?_,fun j k s1 s2 c1 c2 e1 e2 b1 b2 q=>?_,fun j a' p=>?_,l.bc,l.er,l.old,fun b ws ga=>?_⟩
  ·rw[get j hi] at e';by_cases z:j=i
   ·subst z;rw[if_pos rfl] at e';cases e';show _/\_;simp only[if_pos];exact⟨by rw[List.getElem?_set_self (by rw[<- l.len];exact hi)],.inl rfl,h0,pi,x⟩
   ·rw[if_neg z] at e';rw[List.getElem?_set_ne (Ne.symm z)];have k:=l.slot j s' e';unfold gD at k ⊢;simp only[if_neg z];exact k
  ·rw[get j hi] at e1;rw[get k hi] at e2;by_cases z:j=i
   ·by_cases z2:k=i
    ·rw[z,z2]
    ·rw[if_pos z,if_neg z2] at q;rw[if_neg z2] at e2;exact absurd (own k _ _ e2 b2) (by rw[<- q];exact n)
   ·by_cases z2:k=i
    ·rw[if_pos z2,if_neg z] at q;rw[if_neg z] at e1;exact absurd (own j _ _ e1 b1) (by rw[q];exact n)
    ·rw[if_neg z] at e1;rw[if_neg z2] at e2;rw[if_neg z,if_neg z2] at q;exact l.inj j k _ _ _ _ e1 e2 b1 b2 q
  ·obtain⟨⟨d,hd⟩,ha⟩:=l.par j a' p;have z:j≠i:=by rintro rfl;exact hp d hd
   rw[get j hi,if_neg z];exact⟨⟨d,hd⟩,by simp only[if_neg z];exact ha⟩
  ·obtain⟨g1,g2,g3⟩:=l.gh b ws ga;refine⟨g1,g2,fun j s' d e' b'=>?_⟩;rw[get j hi] at e';by_cases z:j=i
   ·simp only[if_pos z];rintro rfl;exact n (gB _ ws ga)
   ·rw[if_neg z] at e';simp only[if_neg z];exact g3 j s' d e' b'
 ·have hs:σ.length<=i:=by rw[<- l.len];lia
  rw[List.set_eq_of_length_le (show μ.length<=i by lia),List.set_eq_of_length_le hs]
  have ne:∀ j s,μ[j]?=some s->j≠i:=fun j s e q=>by
   have:=(List.getElem?_eq_some_iff.mp e).1;lia
  refine⟨l.len,fun j s' e'=>?_,fun j k s1 s2 c1 c2 e1 e2 b1 b2 q=>?_,fun j a' p=>?_,l.bc,l.er,l.old,fun b ws ga=>?_⟩
  ·have k:=l.slot j s' e';unfold gD at k ⊢;simp only[if_neg (ne j s' e')];exact k
  ·simp only[if_neg (ne j _ e1),if_neg (ne k _ e2)] at q;exact l.inj j k _ _ _ _ e1 e2 b1 b2 q
  ·obtain⟨⟨d,hd⟩,ha⟩:=l.par j a' p;exact⟨⟨d,hd⟩,by simp only[if_neg (ne j _ hd)];exact ha⟩
  ·obtain⟨g1,g2,g3⟩:=l.gh b ws ga;refine⟨g1,g2,fun j s' d e' b'=>?_⟩;simp only[if_neg (ne j _ e')];exact g3 j s' d e' b'
theorem Rl.gB(l:Rl F ad B σ H μ):∀ b vs,F.G b=some vs->B b:=fun b vs e=>(l.gh b vs e).2.1
theorem Rl.own(l:Rl F ad B σ H μ):∀ j s c,μ[j]?=some s->s.box=some c->B (ad j):=fun j s c e b=>((l.slot j s e).boxed b).2.1
theorem Rl.freeze{i:Nat}{c:T}(l:Rl F ad B σ H μ)(e:μ[i]?=some (.bx c))(hc:¬ F.Bc (ad i)):Rl F ad (fun b=>B b/\b≠ad i) σ H (μ.set i (.tr c))/\Rep F.K H (fun b=>B b/\b≠ad i) (.ref (ad i)) c:=by
 have k0:=l.slot i _ e;have hi:i < μ.length:=(List.getElem?_eq_some_iff.mp e).1;have rp:Rep F.K H (fun b=>B b/\b≠ad i) (.ref (ad i)) c:=((k0.2.2.2.2).of rfl (Fr.less fun _ z=>z.1)).rep (fun z=>z.2 rfl);have get:∀ j,(μ.set i (.tr c))[j]?=if j=i then some (.tr c) else μ[j]?:=fun j=>by
  rw[List.getElem?_set];by_cases z:i=j
  ·subst z;simp[hi]
  ·rw[if_neg z,if_neg (fun q=>z q.symm)]
 have pi:F.P i=none:=k0.2.2.2.1;refine⟨⟨by rw[List.length_set];exact l.len,fun j s' e'=>?_,fun j k s1 s2 c1 c2 e1 e2 b1 b2 q=>?_,fun j a p=>?_,fun b z=>⟨l.bc b z,by rintro rfl;exact hc z⟩,fun b z=>l.er b z.1,l.old,fun a ws ga=>?_⟩,rp⟩
 ·rw[get] at e';by_cases z:j=i
  ·subst z;rw[if_pos rfl] at e';cases e';exact⟨_,k0.1,rp⟩
  ·rw[if_neg z] at e';have k:=l.slot j s' e';have ne:∀ d,s'.box=some d->ad j≠ad i:=fun d hd q=>z (l.inj j i s' _ d c e' e hd rfl q);unfold gD at k ⊢
   split at k
   ·trivial
   ·obtain⟨v,e1,r1⟩:=k;exact⟨v,e1,r1.fr (Fr.less fun _ z=>z.1)⟩
   ·obtain⟨e1,b,z0,p,x⟩:=k;exact⟨e1,⟨b,ne _ rfl⟩,z0,p,x.of rfl (Fr.less fun _ z=>z.1)⟩
   ·obtain⟨e1,b,p,x⟩:=k;exact⟨e1,⟨b,ne _ rfl⟩,p,x.of rfl (Fr.less fun _ z=>z.1)⟩
 ·rw[get] at e1 e2;by_cases z:j=i
  ·rw[if_pos z] at e1;cases e1;cases b1
  ·by_cases z2:k=i
   ·rw[if_pos z2] at e2;cases e2;cases b2
   ·rw[if_neg z] at e1;rw[if_neg z2] at e2;exact l.inj j k _ _ _ _ e1 e2 b1 b2 q
 ·obtain⟨⟨d,hd⟩,ha⟩:=l.par j a p;refine⟨⟨d,?_⟩,ha⟩;rw[get];by_cases z:j=i
  ·subst z;rw[pi] at p;cases p
  ·rw[if_neg z];exact hd
 ·obtain⟨g1,g2,g3⟩:=l.gh a ws ga;refine⟨g1,⟨g2,(g3 i _ c e rfl).symm⟩,fun j s' d e' b'=>?_⟩;rw[get] at e';by_cases z:j=i
  ·rw[if_pos z] at e';cases e';cases b'
  ·rw[if_neg z] at e';exact g3 j s' d e' b'
end
noncomputable abbrev UE:=Mu->(R->Mu->Prop)->Prop
noncomputable abbrev UT:=Mu->(Bool->Mu->Prop)->Prop
noncomputable abbrev UA:=Mu->(List R->Mu->Prop)->Prop
noncomputable abbrev UO:=Mu->(Option Int->Mu->Prop)->Prop
noncomputable abbrev U2:=R->R->Mu->(R->Mu->Prop)->Prop
noncomputable abbrev UC:=List R->Mu->(R->Mu->Prop)->Prop
structure Ed where
 nx:Mu->Prop
 rt:R->Mu->Prop
 bk:Mu->Prop:=fun _=>False
 ct:Mu->Prop:=fun _=>False
noncomputable abbrev US:=Ed->Mu->Prop
def Bv(B:aL)(v:V):R->aL
 | .fr _=>(match v with | .ref a=>more B a | _=>B)
 | _=>B
theorem Fr.d{B:aL}{H H':Hp}{v:V}{r:R}(f:Fr B H (Bv B v r) H'):Fr B H B H':=fun b o h n=>⟨(f b o h n).1,n⟩
def RE(K:PySem.W.Frag)(te:TE)(ue:UE):Prop:=∀ (F:Fx) (ad:Nat->Addr) (B:aL) (σ:St) (H:Hp) (μ:Mu) (Q:VK) (Qt:R->Mu->Prop),F.K=K->Rl F ad B σ H μ->ue μ Qt ->
 (∀ v H' r μ',Vr F ad B σ H' μ' v r->Fr B H (Bv B v r) H'->Kp μ μ'->Qt r μ'->Q v H')->te σ H Q
def RT(K:PySem.W.Frag)(tt:TT)(ut:UT):Prop:=∀ (F:Fx) (ad:Nat->Addr) (B:aL) (σ:St) (H:Hp) (μ:Mu) (Q:Bool->Hp->Prop) (Qt:Bool->Mu->Prop),F.K=K->Rl F ad B σ H μ->ut μ Qt ->
 (∀ b H' μ',Rl F ad B σ H' μ'->Fr B H B H'->Kp μ μ'->Qt b μ'->Q b H')->tt σ H Q
def RA(K:PySem.W.Frag)(ta:TA)(ua:UA):Prop:=∀ (F:Fx) (ad:Nat->Addr) (B:aL) (σ:St) (H:Hp) (μ:Mu) (Q:List V->Hp->Prop) (Qt:List R->Mu->Prop),F.K=K->Rl F ad B σ H μ->ua μ Qt ->
 (∀ vs H' rs μ',Rl F ad B σ H' μ'->Paired (Hv F ad B H' μ') vs rs->Fr B H B H'->Kp μ μ'->Qt rs μ'->Q vs H')->ta σ H Q
def RO(K:PySem.W.Frag)(tt:TO)(ut:UO):Prop:=∀ (F:Fx) (ad:Nat->Addr) (B:aL) (σ:St) (H:Hp) (μ:Mu) (Q:Option Int->Hp->Prop) (Qt:Option Int->Mu->Prop),F.K=K->Rl F ad B σ H μ->ut μ Qt ->
 (∀ b H' μ',Rl F ad B σ H' μ'->Fr B H B H'->Kp μ μ'->Qt b μ'->Q b H')->tt σ H Q
def kW(K:PySem.W.Frag)(r:R2)(u:U2):Prop:=∀ (F:Fx) (ad:Nat->Addr) (B:aL) (σ:St) (H:Hp) (μ:Mu) (Q:VK) (Qt:R->Mu->Prop) (x y:V) (r1 r2:R),F.K=K->Rl F ad B σ H μ->Hv F ad B H μ x r1->Hv F ad B H μ y r2->u r1 r2 μ Qt ->
 (∀ v H' r μ',Vr F ad B σ H' μ' v r->Fr B H (Bv B v r) H'->Kp μ μ'->Qt r μ'->Q v H')->r x y H Q
def RC(K:PySem.W.Frag)(r:List V->Hp->VK->Prop)(u:UC):Prop:=∀ (F:Fx) (ad:Nat->Addr) (B:aL) (σ:St) (H:Hp) (μ:Mu) (Q:VK) (Qt:R->Mu->Prop) (xs:List V) (rs:List R),F.K=K->Rl F ad B σ H μ->Paired (Hv F ad B H μ) xs rs->u rs μ Qt ->
 (∀ v H' r μ',Vr F ad B σ H' μ' v r->Fr B H (Bv B v r) H'->Kp μ μ'->Qt r μ'->Q v H')->r xs H Q
section
variable {F:Fx} {ad:Nat->Addr} {B:aL} {σ:St} {H:Hp} {μ:Mu} {Q:VK} {Qt:R->Mu->Prop}
theorem Vr.flat{v:V}{t:T}(l:Rl F ad B σ H μ)(r:Rep F.K H B v t):Vr F ad B σ H μ v (.tr t):=⟨l,r⟩
theorem Vr.fL{p:Addr}{vs:List V}{ts:List T}(l:Rl F ad B σ H μ)(r:aj F.K H B vs ts)(e:H p=none):Vr F ad B σ (upd H p (.lst vs)) μ (.ref p) (.fr (.lst ts)):=
 ⟨l.same (bM.new e),p,rfl,l.m5 e,l.xv e,l.new e,vs,af,r.fr (Fr.more e)⟩
theorem Vr.vp{p:Addr}{vs:List V}{ts:List T}(l:Rl F ad B σ H μ)(r:aj F.K H B vs ts)(e:H p=none):Vr F ad B σ (upd H p (.tup vs)) μ (.ref p) (.tr (.tup ts)):=
 ⟨l.same (bM.new e),.tup (l.m5 e) af (r.fr (Fr.same (bM.new e)))⟩
end
structure YE (X:Cx) (e:Expr) (u:UE):Prop where
 ex:∃ t,QE X e t/\RE X.K t u
structure YT (X:Cx) (e:Expr) (u:UT):Prop where
 ex:∃ t,QT X e t/\RT X.K t u
structure YW (X:Cx) (e:Expr) (u:UT):Prop where
 ex:∃ t,QW X e t/\RT X.K t u
structure YA (X:Cx) (es:List Expr) (u:UA):Prop where
 ex:∃ t,QA X es t/\RA X.K t u
structure YO (X:Cx) (e:Option Expr) (u:UO):Prop where
 ex:∃ t,QO X e t/\RO X.K t u
structure Ca (X:Cx) (es:List Expr) (u:UT):Prop where
 ex:∃ t,BY X es t/\RT X.K t u
namespace Y
def uC(t:T):UE:=fun μ Q=>Q (.tr t) μ
def kx(i:Nat):UE:=fun μ Q=>match μ[i]? with
 | some (.tr t)=>Q (.tr t) μ
 | some (.bx _)=>Q (.br i) μ
 | some (.pb _)=>Q (.br i) μ
 | _=>False
def yJ(u:U2)(ua ub:UE):UE:=fun μ Q=>ua μ fun r1 μ1=>ub μ1 fun r2 μ2=>u r1.d r2.d μ2 Q
section
variable {X:Cx} {a b c e o:Expr} {es rest:List Expr} {ua ub uc ue uo:UE} {uA uB:UT} {us:UA} {pos p p2:Pos} {x:Str}
theorem xC{K:PySem.W.Frag}{v:V}{t:T}(h:∀ H B,Rep K H B v t):RE K (tC v) (uC t):=fun F ad B σ H μ Q Qt hK l q k=>k v H (.tr t) μ ⟨l,show Rep F.K H B v t from hK ▸ h H B⟩ Fr.refl (Kp.refl μ) q
theorem int{i:Int}{j:Nat}:YE X (.Constant (.int i) j pos) (uC (.int i)):=⟨_,Z.int,xC fun _ _=>.int i⟩
theorem bl{i:Bool}{j:Nat}:YE X (.Constant (.bool i) j pos) (uC (.bl i)):=⟨_,Z.bl,xC fun _ _=>.bl i⟩
theorem aI{j:Nat}:YE X (.Constant .none j pos) (uC .aI):=⟨_,Z.aI,xC fun _ _=>.aI⟩
theorem str{i:Str}{j:Nat}:YE X (.Constant (.str i) j pos) (uC (.str i)):=⟨_,Z.str,xC fun _ _=>.str i⟩
theorem v(i:Nat)(hN:X.N[i]?=some x:=by rfl)(hv:Bg X.env.scope x:=by first | exact Or.inl rfl | exact Or.inr (Or.inl rfl) | exact Or.inr (Or.inr rfl))(hd:(x ==("__debug__":Str))=false:=by decide)
  (hcd:(x ==("__classdict__":Str))=false:=by decide):YE X (.Name x pos) (kx i):=by
 refine⟨_,Z.v i hN hv hd hcd,fun F ad B σ H μ Q Qt hK l q k=>?_⟩;unfold kx at q
 split at q
 ·rename_i t e;obtain⟨v,e1,r⟩:=l.slot i _ e;exact⟨v,e1,k v H (.tr t) μ ⟨l,r⟩ Fr.refl (Kp.refl μ) q⟩
 ·rename_i t e;have r:=l.slot i _ e;exact⟨_,r.1,k _ H (.br i) μ ⟨l,rfl,_,_,e,rfl⟩ Fr.refl (Kp.refl μ) q⟩
 ·rename_i t e;have r:=l.slot i _ e;exact⟨_,r.1,k _ H (.br i) μ ⟨l,rfl,_,_,e,rfl⟩ Fr.refl (Kp.refl μ) q⟩
 ·exact q.elim
theorem qk{K:PySem.W.Frag}{r:R2}{u:U2}{ta tb:TE}(h:kW K r u)(ha:RE K ta ua)(hb:RE K tb ub):RE K (n_ r ta tb) (yJ u ua ub):=fun F ad B σ H μ Q Qt hK l q k =>
 ha F ad B σ H μ _ _ hK l q fun x H1 r1 μ1 v1 f1 k1 q1=>hb F ad B σ H1 μ1 _ _ hK v1.rl q1 fun y H2 r2 μ2 v2 f2 k2 q2 =>
  h F ad B σ H2 μ2 _ _ x y r1.d r2.d hK v2.rl (v1.hv.fr f2.d k2) v2.hv q2 fun v H' r μ' v3 f3 k3 q3=>k v H' r μ' v3 ((f1.d.trans f2.d).trans f3) ((k1.trans k2).trans k3) q3
theorem op{o:Operator}{r:R2}{u:U2}(ho:cN X (binaryOp o) r)(h:kW X.K r u)(ha:YE X a ua)(hb:YE X b ub):YE X (.BinOp a o b pos) (yJ u ua ub):=by
 obtain⟨ta,qa,ra⟩:=ha;obtain⟨tb,qb,rb⟩:=hb;exact⟨_,Z.op ho qa qb,qk h ra rb⟩
theorem cmp{o:CmpOp}{r:R2}{u:U2}(ho:cN X (compareOp o) r)(h:kW X.K r u)(ha:YE X a ua)(hb:YE X b ub)(hm:behindInMarks o b=false:=by rfl):YE X (.Compare a [o] [b] pos) (yJ u ua ub):=by
 obtain⟨ta,qa,ra⟩:=ha;obtain⟨tb,qb,rb⟩:=hb;exact⟨_,Z.cmp ho qa qb hm,qk h ra rb⟩
theorem ix{r:R2}{u:U2}(hr:oW X r)(h:kW X.K r u)(ha:YE X a ua)(hb:YE X b ub)(hs:Z.sim b=true:=by rfl):YE X (.Subscript a b pos) (yJ u ua ub):=by
 obtain⟨ta,qa,ra⟩:=ha;obtain⟨tb,qb,rb⟩:=hb;exact⟨_,Z.ix hr qa qb hs,qk h ra rb⟩
def lR(ue:UE):UT:=fun μ Q=>ue μ fun r μ'=>match r with
 | .tr (.bl b)=>Q b μ'
 | _=>False
theorem xt{K:PySem.W.Frag}{t:TE}(h:RE K t ue):RT K (gf t) (lR ue):=fun F ad B σ H μ Q Qt hK l q k =>
 h F ad B σ H μ _ _ hK l q fun v H' r μ' v1 f k1 q1=>by
  split at q1
  ·rename_i b;have rp:=v1.2;cases rp;exact⟨b,rfl,k b H' μ' v1.rl f.d k1 q1⟩
  ·exact q1.elim
theorem cB{o:CmpOp}{r:R2}{u:U2}(ho:cN X (compareOp o) r)(h:kW X.K r u)(ha:YE X a ua)(hb:YE X b ub)(hm:behindInMarks o b=false:=by rfl):YT X (.Compare a [o] [b] pos) (lR (yJ u ua ub)):=by
 obtain⟨ta,qa,ra⟩:=ha;obtain⟨tb,qb,rb⟩:=hb;exact⟨_,Z.cB ho qa qb hm,xt (qk h ra rb)⟩
def y3(ut:UT):UT:=fun μ Q=>ut μ fun b μ'=>Q (!b) μ'
theorem xi(ha:YT X a uA):YT X (.UnaryOp .Not a pos) (y3 uA):=by
 obtain⟨ta,qa,ra⟩:=ha;exact⟨_,Z.xi qa,fun F ad B σ H μ Q Qt hK l q k=>ra F ad B σ H μ _ _ hK l q fun b H' μ' l' f k1 q1=>k _ H' μ' l' f k1 q1⟩
theorem tw(h:YW X e uA):YT X e uA:=by
 obtain⟨t,q,r⟩:=h;exact⟨t,Z.tw q,r⟩
theorem mB(ha:YT X a uA):YW X (.BoolOp .And [a] pos) uA:=by obtain⟨t,q,r⟩:=ha;exact⟨t,Z.mB q,r⟩
theorem si(ha:YT X a uA):YW X (.BoolOp .Or [a] pos) uA:=by obtain⟨t,q,r⟩:=ha;exact⟨t,Z.si q,r⟩
def uO(u w:UT):UT:=fun μ Q=>u μ fun b μ'=>if b=true then w μ' Q else Q false μ'
def De(u w:UT):UT:=fun μ Q=>u μ fun b μ'=>if b=true then Q true μ' else w μ' Q
theorem Ag{K:PySem.W.Frag}{t u:TT}(ha:RT K t uA)(hb:RT K u uB):RT K (kX t u) (uO uA uB):=fun F ad B σ H μ Q Qt hK l q k=>ha F ad B σ H μ _ _ hK l q fun b H' μ' l' f k1 q1=>by
 cases b with
 | true=>rw[if_pos rfl] at q1 ⊢;exact hb F ad B σ H' μ' _ _ hK l' q1 fun b2 H2 μ2 l2 f2 k2 q2=>k b2 H2 μ2 l2 (f.trans f2) (k1.trans k2) q2
 | false=>rw[if_neg Bool.false_ne_true] at q1 ⊢;exact k _ H' μ' l' f k1 q1
theorem Dy{K:PySem.W.Frag}{t u:TT}(ha:RT K t uA)(hb:RT K u uB):RT K (BP t u) (De uA uB):=fun F ad B σ H μ Q Qt hK l q k=>ha F ad B σ H μ _ _ hK l q fun b H' μ' l' f k1 q1=>by
 cases b with
 | false=>rw[if_neg Bool.false_ne_true] at q1 ⊢;exact hb F ad B σ H' μ' _ _ hK l' q1 fun b2 H2 μ2 l2 f2 k2 q2=>k b2 H2 μ2 l2 (f.trans f2) (k1.trans k2) q2
 | true=>rw[if_pos rfl] at q1 ⊢;exact k _ H' μ' l' f k1 q1
theorem vg(ha:YT X a uA)(hb:YW X (.BoolOp .And (b::rest) pos) uB):YW X (.BoolOp .And (a::b::rest) pos) (uO uA uB):=by
 obtain⟨t,q,r⟩:=ha;obtain⟨t',q',r'⟩:=hb;exact⟨_,Z.vg q q',Ag r r'⟩
theorem Cb(ha:YT X a uA)(hb:YW X (.BoolOp .Or (b::rest) pos) uB):YW X (.BoolOp .Or (a::b::rest) pos) (De uA uB):=by
 obtain⟨t,q,r⟩:=ha;obtain⟨t',q',r'⟩:=hb;exact⟨_,Z.Cb q q',Dy r r'⟩
def mR(ue:UE):UT:=fun μ Q=>ue μ fun r μ'=>match r with
 | .tr (.bl b)=>Q b μ'
 | .tr (.int i)=>Q (i != 0) μ'
 | _=>False
theorem wo(K:PySem.W.Frag)(hK:X.K=K)(ha:YE X a ua)(he:Z.Ex a=true:=by rfl):YT X a (mR ua):=by
 obtain⟨t,q,r⟩:=ha;refine⟨_,Z.wo K hK q he,fun F ad B σ H μ Q Qt hK l q k=>r F ad B σ H μ _ _ hK l q fun v H' r1 μ' v1 f k1 q1=>?_⟩
 split at q1
 ·have rp:=v1.2;cases rp;exact⟨_,(Ap.EK ..).symm ▸ rfl,k _ H' μ' v1.rl f.d k1 q1⟩
 ·have rp:=v1.2;cases rp;exact⟨_,(Ap.Fv ..).symm ▸ rfl,k _ H' μ' v1.rl f.d k1 q1⟩
 ·exact q1.elim
def qz(ua ub:UE):UE:=fun μ Q=>ua μ fun r μ'=>match r with
 | .tr (.bl true)=>ub μ' Q
 | .tr (.bl false)=>Q (.tr (.bl false)) μ'
 | _=>False
theorem and(ha:YE X a ua)(hb:YE X (.BoolOp .And (b::rest) pos) ub):YE X (.BoolOp .And (a::b::rest) pos) (qz ua ub):=by
 obtain⟨t,q,r⟩:=ha;obtain⟨t',q',r'⟩:=hb;refine⟨_,Z.and q q',fun F ad B σ H μ Q Qt hK l q k=>r F ad B σ H μ _ _ hK l q fun v H' r1 μ' v1 f k1 q1=>?_⟩
 split at q1
 ·have rp:=v1.2;cases rp;refine⟨_,rfl,?_⟩;rw[if_pos rfl];exact r' F ad B σ H' μ' _ _ hK v1.rl q1 fun v2 H2 r2 μ2 v3 f2 k2 q2=>k v2 H2 r2 μ2 v3 (f.d.trans f2) (k1.trans k2) q2
 ·have rp:=v1.2;cases rp;refine⟨_,rfl,?_⟩;rw[if_neg Bool.false_ne_true];exact k _ H' _ μ' (Vr.flat v1.rl (.bl _)) f.d k1 q1
 ·exact q1.elim
theorem one{o:BoolOp}(ha:YE X a ua):YE X (.BoolOp o [a] pos) ua:=by obtain⟨t,q,r⟩:=ha;exact⟨t,Z.one q,r⟩
def xG(ue:UE):UE:=fun μ Q=>ue μ fun r μ'=>match r with
 | .tr (.int i)=>Q (.tr (.int (-i))) μ'
 | _=>False
theorem neg(ha:YE X a ua):YE X (.UnaryOp .USub a pos) (xG ua):=by
 obtain⟨t,q,r⟩:=ha;refine⟨_,Z.un Bt q,fun F ad B σ H μ Q Qt hK l q k=>r F ad B σ H μ _ _ hK l q fun v H' r1 μ' v1 f k1 q1=>?_⟩
 split at q1
 ·have rp:=v1.2;cases rp;exact⟨_,rfl,k _ H' _ μ' (Vr.flat v1.rl (.int _)) f.d k1 q1⟩
 ·exact q1.elim
def yh:UA:=fun μ Q=>Q [] μ
def oY(ue:UE)(us:UA):UA:=fun μ Q=>ue μ fun r μ1=>us μ1 fun rs μ2=>Q (r.d::rs) μ2
def uK(ts:List T):UA:=fun μ Q=>Q (ts.map R.tr) μ
theorem nil:YA X [] yh:=⟨_,Z.nil,fun F ad B σ H μ Q Qt hK l q k=>k [] H [] μ l .nil Fr.refl (Kp.refl μ) q⟩
theorem cons(ha:YE X e ue)(hr:YA X es us)(h:bX e=true:=by rfl):YA X (e::es) (oY ue us):=by
 obtain⟨t,q,r⟩:=ha;obtain⟨t',q',r'⟩:=hr;exact⟨_,Z.cons q q' h,fun F ad B σ H μ Q Qt hK l q k=>r F ad B σ H μ _ _ hK l q fun v H' r1 μ' v1 f k1 q1=>r' F ad B σ H' μ' _ _ hK v1.rl q1 fun vs H2 rs μ2 l2 ps f2 k2 q2 =>
  k (v::vs) H2 (r1.d::rs) μ2 l2 (.cons (v1.hv.fr f2 k2) ps) (f.d.trans f2) (k1.trans k2) q2⟩
def vF:V->Option T
 | .aI=>some .aI
 | .bl b=>some (.bl b)
 | .int i=>some (.int i)
 | .str x=>some (.str x)
 | _=>none
theorem uE{K:PySem.W.Frag}{H:Hp}{B:aL}{v:V}{t:T}(h:vF v=some t):Rep K H B v t:=by
 unfold vF at h
 split at h
 ·cases h;exact .aI
 ·cases h;exact .bl _
 ·cases h;exact .int _
 ·cases h;exact .str _
 ·cases h
theorem consts{vs:List V}{ts:List T}(h:jn es=some vs)(h2:vs.map vF=ts.map some):YA X es (uK ts):=by
 refine⟨_,Z.consts h,fun F ad B σ H μ Q Qt hK l q k=>k vs H _ μ l ?_ Fr.refl (Kp.refl μ) q⟩;clear h q k
 induction vs generalizing ts with
 | nil=>cases ts with
  | nil=>exact .nil
  | cons t ts=>cases h2
 | cons v vs ih=>cases ts with
  | nil=>cases h2
  | cons t ts =>
   rw[List.map_cons,List.map_cons] at h2
   injection h2 with e1 e2
   exact .cons (uE e1) (ih e2)
def trees:List R->Option (List T)
 | []=>some []
 | .tr t::rs=>(trees rs).map (t::·)
 | _=>none
theorem kf{F:Fx}{ad:Nat->Addr}{B:aL}{H:Hp}{μ:Mu}:∀ {vs:List V} {rs:List R} {ts:List T},Paired (Hv F ad B H μ) vs rs->trees rs=some ts->aj F.K H B vs ts
 | _,_,_,.nil,e=>by cases e;exact .nil
 | _,r::rs,ts,.cons h p,e=>by
  cases r with
  | tr t =>
   unfold trees at e
   cases q:trees rs with
   | none=>rw[q] at e;cases e
   | some us=>rw[q] at e;cases e;exact .cons h (kf p q)
  | br i=>cases e
  | fr c=>cases e
def wx(us:UA):UE:=fun μ Q=>us μ fun rs μ'=>match trees rs with
 | some ts=>ts.length<=sizeLine/\Q (.tr (.tup ts)) μ'
 | none=>False
def yc(us:UA):UE:=fun μ Q=>us μ fun rs μ'=>match trees rs with
 | some ts=>ts.length<=sizeLine/\Q (.fr (.lst ts)) μ'
 | none=>False
theorem tup{k:Nat}(h:YA X es us):YE X (.Tuple es k pos) (wx us):=by
 obtain⟨t,q,r⟩:=h;refine⟨_,Z.tup q,fun F ad B σ H μ Q Qt hK l q k=>r F ad B σ H μ _ _ hK l q fun vs H' rs μ' l1 ps f k1 q1=>?_⟩
 split at q1
 ·rename_i ts e;have rp:=kf ps e;exact⟨by rw[rp.length];exact q1.1,fun p hp=>k _ _ _ μ' (Vr.vp l1 rp hp) (f.trans (Fr.same (bM.new hp))) k1 q1.2⟩
 ·exact q1.elim
theorem lst(h:YA X es us):YE X (.List es pos) (yc us):=by
 obtain⟨t,q,r⟩:=h;refine⟨_,Z.lst q,fun F ad B σ H μ Q Qt hK l q k=>r F ad B σ H μ _ _ hK l q fun vs H' rs μ' l1 ps f k1 q1=>?_⟩
 split at q1
 ·rename_i ts e;have rp:=kf ps e;exact⟨by rw[rp.length];exact q1.1,fun p hp=>k _ _ _ μ' (Vr.fL l1 rp hp) (f.trans (Fr.more hp)) k1 q1.2⟩
 ·exact q1.elim
def Av(u:UC)(us:UA):UE:=fun μ Q=>us μ fun rs μ'=>u rs μ' Q
theorem sR{K:PySem.W.Frag}{r:List V->Hp->VK->Prop}{u:UC}{t:TA}(h:RC K r u)(ha:RA K t us):RE K (rX r t) (Av u us):=fun F ad B σ H μ Q Qt hK l q k =>
 ha F ad B σ H μ _ _ hK l q fun vs H' rs μ' l1 ps f k1 q1=>h F ad B σ H' μ' _ _ vs rs hK l1 ps q1 fun v H2 r2 μ2 v2 f2 k2 q2=>k v H2 r2 μ2 v2 (f.trans f2) (k1.trans k2) q2
theorem cb{id:String}{r:List V->Hp->VK->Prop}{u:UC}(hc:aQ X (.builtin id) r)(h:RC X.K r u)(hg:Gl X x)(hm:X.mg x=none)(hv:bootBuiltins x=some (.builtin id))(ha:YA X (e::es) us)(h1:bX e=true:=by rfl)(h2:es.all bX=true:=by rfl)(hn:x≠"__name__":=by decide)(hdb:(x ==("__debug__":Str))=false:=by decide):
  YE X (.Call (.Name x p) (e::es) [] pos) (Av u us):=by
 obtain⟨t,q,rr⟩:=ha;exact⟨_,Z.cb hc hg hm hv q h1 h2 hn hdb,sR h rr⟩
theorem ct{T:String}{r:List V->Hp->VK->Prop}{u:UC}(hc:aQ X (.type T) r)(h:RC X.K r u)(hg:Gl X x)(hm:X.mg x=none)(hv:bootBuiltins x=some (.type T))(ha:YA X (e::es) us)(h1:bX e=true:=by rfl)(h2:es.all bX=true:=by rfl)(hn:x≠"__name__":=by decide)(hdb:(x ==("__debug__":Str))=false:=by decide):
  YE X (.Call (.Name x p) (e::es) [] pos) (Av u us):=by
 obtain⟨t,q,rr⟩:=ha;exact⟨_,Z.ct hc hg hm hv q h1 h2 hn hdb,sR h rr⟩
def gM:UO:=fun μ Q=>Q none μ
def pg(ue:UE):UO:=fun μ Q=>ue μ fun r μ'=>match r with
 | .tr (.int i)=>Q (some i) μ'
 | _=>False
theorem sg:YO X none gM:=⟨_,Z.sg,fun F ad B σ H μ Q Qt hK l q k=>k none H μ l Fr.refl (Kp.refl μ) q⟩
theorem rY(he:YE X e ue):YO X (some e) (pg ue):=by
 obtain⟨t,q,r⟩:=he;refine⟨_,Z.rY q,fun F ad B σ H μ Q Qt hK l q k=>r F ad B σ H μ _ _ hK l q fun v H' r1 μ' v1 f k1 q1=>?_⟩
 split at q1
 ·have rp:=v1.2;cases rp;exact⟨_,rfl,k _ H' μ' v1.rl f.d k1 q1⟩
 ·exact q1.elim
end
end Y
namespace Y
def tL(f:T->T->Mu->(R->Mu->Prop)->Prop):U2:=fun r1 r2 μ Q=>match cont μ r1,cont μ r2 with
 | some t,some u=>f t u μ Q
 | _,_=>False
theorem fU{K:PySem.W.Frag}{r:R2}{f:T->T->Mu->(R->Mu->Prop)->Prop}
  (h:∀ (F:Fx) (ad:Nat->Addr) (B:aL) (σ:St) (H:Hp) (μ:Mu) (Q:VK) (Qt:R->Mu->Prop) (x y:V) (t u:T),F.K=K->Rl F ad B σ H μ->Vw F.K H B x t->Vw F.K H B y u->f t u μ Qt ->
   (∀ v H' r,Vr F ad B σ H' μ v r->Fr B H (Bv B v r) H'->Qt r μ->Q v H')->r x y H Q):kW K r (tL f):=by
 intro F ad B σ H μ Q Qt x y r1 r2 hK l h1 h2 q k;unfold tL at q
 split at q
 ·rename_i t u e1 e2;exact h F ad B σ H μ Q Qt x y t u hK l (h1.vw l e1) (h2.vw l e2) q fun v H' r v1 s q1=>k v H' r μ v1 s (Kp.refl μ) q1
 ·exact q.elim
def uT(C:Int->Int->Prop)(g:Int->Int->Int):T->T->Mu->(R->Mu->Prop)->Prop:=fun t u μ Q=>match t,u with
 | .int i,.int j=>C i j/\Q (.tr (.int (g i j))) μ
 | _,_=>False
theorem bA{K:PySem.W.Frag}{C:Int->Int->Prop}{g:Int->Int->Int}:kW K (rI C fun i j=>.int (g i j)) (tL (uT C g)):=fU fun F ad B σ H μ Q Qt x y t u hK l v1 v2 q k=>by
 unfold uT at q
 split at q
 ·cases v1;cases v2
  exact⟨_,_,rfl,rfl,q.1,k _ H _ (Vr.flat l (.int _)) Fr.refl q.2⟩
 ·exact q.elim
theorem dZ{K:PySem.W.Frag}{g:Int->Int->Int}:kW K (oM fun i j=>.int (g i j)) (tL (uT (fun _ _=>True) g)):=fU fun F ad B σ H μ Q Qt x y t u hK l v1 v2 q k=>by
 unfold uT at q
 split at q
 ·cases v1;cases v2
  exact⟨_,_,rfl,rfl,k _ H _ (Vr.flat l (.int _)) Fr.refl q.2⟩
 ·exact q.elim
def Fw(g:Int->Int->Bool):T->T->Mu->(R->Mu->Prop)->Prop:=fun t u μ Q=>match t,u with
 | .int i,.int j=>Q (.tr (.bl (g i j))) μ
 | _,_=>False
theorem gp{K:PySem.W.Frag}{g:Int->Int->Bool}:kW K (oM fun i j=>.bl (g i j)) (tL (Fw g)):=fU fun F ad B σ H μ Q Qt x y t u hK l v1 v2 q k=>by
 unfold Fw at q
 split at q
 ·cases v1;cases v2
  exact⟨_,_,rfl,rfl,k _ H _ (Vr.flat l (.bl _)) Fr.refl q⟩
 ·exact q.elim
def zh(K:PySem.W.Frag):R2:=fun x y H Q=>∃ a b xs ys,x=.ref a/\y=.ref b/\bu K H a xs/\bu K H b ys/\xs.length+ys.length<=sizeLine /\
 (xs=[]->Q (.ref b) H)/\(xs≠[]->ys=[]->Q (.ref a) H)/\(xs≠[]->ys≠[]->∀ p,H p=none->Q (.ref p) (upd H p (.tup (xs++ys))))
theorem uV{prog:Program}{w:World}{A:Around}{E:Value->Shared->Prop}{s:Shared}{t b:Addr}{ws:List Value}{Q:Value->Shared->Prop}(ht:IsTup s.heap t ([]:List Value).toArray)(hb:IsTup s.heap b ws.toArray)(h0:Q (.ref b) s):wpAny (model prog w) A (binaryOp .Add (.ref t) (.ref b)) Q E s:=by
 obtain⟨⟨cls,dd,data,sl⟩,ho,hc,n,hd⟩:=id ht;obtain⟨⟨cls2,dd2,data2,sl2⟩,ho2,hc2,n2,hd2⟩:=id hb;simp only at hc hd hc2 hd2;subst hc hd hc2 hd2;exact concat_meets ⟨_,ho,rfl⟩ ⟨_,ho2,rfl⟩ noFill_tuple_add seq_tuple_add PySem.F.slot_tuple_add PySem.F.entry_tuple_add (PySem.F.args_tuple_add_2 _ _)
   (tuple_addW0 t b _ ws.toArray n n2 dd dd2 sl sl2 (by simp)) ⟨ho,ho2,h0⟩
theorem yb{X:Cx}:cN X (binaryOp .Add) (zh X.K):=by
 intro pins s σ H x y v u Q I rx ry h;obtain⟨a,b,xs,ys,rfl,rfl,ha,hb,hz,q0,q1,q2⟩:=h;by_cases hx:xs=[]
 ·subst hx
  cases rx;cases ry
  obtain⟨its,r1,p1,_⟩:=I.tuple ha;obtain⟨its2,r2,p2,_⟩:=I.tuple hb;cases r1;exact uV p1 p2 ⟨.ref b,H,I,rfl,q0 rfl⟩
 ·exact qd pins s σ H _ _ v u Q I rx ry ⟨a,b,xs,ys,rfl,rfl,ha,hb,hx,hz,q1 hx,q2 hx⟩
def su(K:PySem.W.Frag):R2:=fun x y H Q=>(∃ i j,x=.int i/\y=.int j/\Q (.int (i+j)) H)\/(∃ i j,x=.str i/\y=.str j/\i.length+j.length<=sizeLine/\Q (.str (i++j)) H)\/Cm x y H Q\/zh K x y H Q
theorem aD{X:Cx}(K:PySem.W.Frag)(hK:X.K=K):cN X (binaryOp .Add) (su K):=by subst hK;exact tP.or (iy.or (sM.or yb))
def cu{F:Fx}{ad:Nat->Addr}{B:aL}{H:Hp}{μ:Mu}{v:V}{t:T}(h:Hv F ad B H μ v (.tr t)):Rep F.K H B v t:=h
def fN:U2:=fun r1 r2 μ Q=>match cont μ r1,cont μ r2 with
 | some (.int i),some (.int j)=>Q (.tr (.int (i+j))) μ
 | some (.str i),some (.str j)=>i.length+j.length<=sizeLine/\Q (.tr (.str (i++j))) μ
 | some (.lst xs),some (.lst ys)=>xs.length+ys.length<=sizeLine/\Q (.fr (.lst (xs++ys))) μ
 | some (.tup xs),some (.tup ys)=>xs.length+ys.length<=sizeLine/\Q (.tr (.tup (xs++ys))) μ
 | _,_=>False
theorem Hv.wK{F:Fx}{ad:Nat->Addr}{B:aL}{σ:St}{H:Hp}{μ:Mu}{v:V}{r:R}{xs:List T}(l:Rl F ad B σ H μ)(h:Hv F ad B H μ v r)(e:cont μ r=some (.tup xs)):Rep F.K H B v (.tup xs):=by
 cases r with
 | tr t=>cases e;exact h
 | br i =>
  obtain⟨rfl,s,c,h1,h2⟩:=h;have e2:(μ[i]?).bind Sl.box=some (.tup xs):=e;rw[h1] at e2;have e':s.box=some (.tup xs):=e2;rcases ((l.slot i s h1).boxed e').2.2.1.is with ⟨ts,vs,z,_⟩ | ⟨ks,ts,vs,z,_⟩<;>cases z
 | fr c=>exact h.elim
theorem Bw{K:PySem.W.Frag}:kW K (su K) fN:=by
 intro F ad B σ H μ Q Qt x y r1 r2 hK l h1 h2 q k;subst hK;unfold fN at q
 split at q
 ·rename_i i j e1 e2;have a:=h1.vw l e1;have b:=h2.vw l e2
  cases a;cases b
  exact .inl ⟨_,_,rfl,rfl,k _ H _ μ (Vr.flat l (.int _)) Fr.refl (Kp.refl μ) q⟩
 ·rename_i i j e1 e2;have a:=h1.vw l e1;have b:=h2.vw l e2
  cases a;cases b
  exact .inr (.inl ⟨_,_,rfl,rfl,q.1,k _ H _ μ (Vr.flat l (.str _)) Fr.refl (Kp.refl μ) q.2⟩)
 ·rename_i xs ys e1 e2;have a:=h1.vw l e1;have b:=h2.vw l e2
  cases a with
  | lst ha ra=>cases b with
   | lst hb rb=>exact .inr (.inr (.inl ⟨_,_,_,_,rfl,rfl,ha,hb,by rw[ra.length,rb.length];exact q.1,fun p hp=>k _ _ _ μ (Vr.fL l (ra.append rb) hp) (Fr.more hp) (Kp.refl μ) q.2⟩))
 ·rename_i xs ys e1 e2;have a:=Hv.wK l h1 e1;have b:=Hv.wK l h2 e2;have a':=a;have b':=b
  cases a with
  | tup na ha ra=>cases b with
   | tup nb hb rb =>
    refine .inr (.inr (.inr ⟨_,_,_,_,rfl,rfl,bu.of ha,bu.of hb,by rw[ra.length,rb.length];exact q.1,fun z=>?_,fun z1 z2=>?_,fun z1 z2 p hp=>k _ _ _ μ (Vr.vp l (ra.append rb) hp) (Fr.same (bM.new hp)) (Kp.refl μ) q.2⟩))
    ·subst z;cases ra;exact k _ H _ μ (Vr.flat l b') Fr.refl (Kp.refl μ) q.2
    ·subst z2;cases rb;have q2:=q.2;rw[List.append_nil] at q2;exact k _ H _ μ (Vr.flat l a') Fr.refl (Kp.refl μ) q2
 ·exact q.elim
def p0:U2:=fun r1 r2 μ Q=>match cont μ r1,cont μ r2 with
 | some (.int i),some (.int j)=>nA i j/\Q (.tr (.int (i*j))) μ
 | some (.lst xs),some (.int k)=>-(2 ^ 63)<=k/\k < 2 ^ 63/\xs.length*k.toNat<=sizeLine/\Q (.fr (.lst (List.replicate k.toNat xs).flatten)) μ
 | _,_=>False
theorem tm{K:PySem.W.Frag}:kW K BB p0:=by
 intro F ad B σ H μ Q Qt x y r1 r2 hK l h1 h2 q k;unfold p0 at q
 split at q
 ·rename_i i j e1 e2;have a:=h1.vw l e1;have b:=h2.vw l e2
  cases a;cases b
  exact⟨q.1,k _ H _ μ (Vr.flat l (.int _)) Fr.refl (Kp.refl μ) q.2⟩
 ·rename_i xs j e1 e2;have a:=h1.vw l e1;have b:=h2.vw l e2;cases b
  cases a with
  | lst ha ra=>exact⟨_,_,_,rfl,rfl,ha,q.1,q.2.1,by rw[ra.length];exact q.2.2.1,fun p hp=>k _ _ _ μ (Vr.fL l (ra.rep _) hp) (Fr.more hp) (Kp.refl μ) q.2.2.2⟩
 ·exact q.elim
def oj:U2:=fun r1 r2 μ Q=>match cont μ r1,cont μ r2 with
 | some (.lst xs),some (.int i)=>(match bS xs i with | some t=>Q (.tr t) μ | none=>False)
 | some (.tup xs),some (.int i)=>(match bS xs i with | some t=>Q (.tr t) μ | none=>False)
 | some (.gg xs),some (.int i)=>(match bS xs i with | some t=>Q (.tr t) μ | none=>False)
 | some (.str z),some (.int i)=>z.length<=sizeLine/\(match bS z.cps.toList i with | some c=>Q (.tr (.str ⟨#[c]⟩)) μ | none=>False)
 | _,_=>False
theorem cE{X:Cx}(K:PySem.W.Frag)(hK:X.K=K):oW X (Eu K):=by subst hK;exact sY
theorem Dh{K:PySem.W.Frag}:kW K (Eu K) oj:=by
 intro F ad B σ H μ Q Qt x y r1 r2 hK l h1 h2 q k;subst hK;unfold oj at q
 split at q
 ·rename_i xs j e1 e2;have a:=h1.vw l e1;have b:=h2.vw l e2;cases b
  split at q
  ·rename_i t e3
   cases a with
   | lst ha ra =>
    obtain⟨v,e4,rv⟩:=ra.bS e3;exact .inl ⟨_,_,_,v,rfl,rfl,bK.of ha,e4,k _ H _ μ (Vr.flat l rv) Fr.refl (Kp.refl μ) q⟩
  ·exact q.elim
 ·rename_i xs j e1 e2;have a:=h1.vw l e1;have b:=h2.vw l e2;cases b
  split at q
  ·rename_i t e3
   cases a with
   | tup ha ra =>
    obtain⟨v,e4,rv⟩:=ra.bS e3;exact .inr (.inl ⟨_,_,_,v,rfl,rfl,bu.of ha,e4,k _ H _ μ (Vr.flat l rv) Fr.refl (Kp.refl μ) q⟩)
  ·exact q.elim
 ·rename_i xs j e1 e2;have a:=h1.vw l e1;have b:=h2.vw l e2;cases b
  split at q
  ·rename_i t e3
   cases a with
   | gg ha ra =>
    obtain⟨v,e4,rv⟩:=ra.bS e3;exact .inr (.inl ⟨_,_,_,v,rfl,rfl,.inr ha,e4,k _ H _ μ (Vr.flat l rv) Fr.refl (Kp.refl μ) q⟩)
  ·exact q.elim
 ·rename_i xs j e1 e2;have a:=h1.vw l e1;have b:=h2.vw l e2;cases b;cases a;obtain⟨q0,q⟩:=q
  split at q
  ·rename_i t e3;exact .inr (.inr ⟨_,_,_,rfl,rfl,q0,e3,k _ H _ μ (Vr.flat l (.str _)) Fr.refl (Kp.refl μ) q⟩)
  ·exact q.elim
 ·exact q.elim
def qF(neg:Bool):T->T->Mu->(R->Mu->Prop)->Prop:=fun t u μ Q=>match u with
 | .aI=>Q (.tr (.bl (match t with | .aI=>!neg | _=>neg))) μ
 | _=>False
theorem wX{K:PySem.W.Frag}:kW K (fun x y H Q=>y=.aI/\Q (.bl (!decide (x=.aI))) H) (tL (qF true)):=fU fun F ad B σ H μ Q Qt x y t u hK l v1 v2 q k=>by
 unfold qF at q
 split at q
 ·cases v2;refine⟨rfl,?_⟩
  cases v1<;>exact k _ H _ (Vr.flat l (.bl _)) Fr.refl q
 ·exact q.elim
def Gm:T->T->Bool
 | .aI,.aI=>true
 | .bl a,.bl b=>a == b
 | .bl a,.int b=>(if a then 1 else 0) == b
 | .int a,.bl b=>a ==(if b then 1 else 0)
 | .int a,.int b=>a == b
 | .str a,.str b=>a == b
 | _,_=>false
def nW(xs ys:List T):Bool:=xs.length == ys.length && (List.range (min xs.length ys.length)).all fun j=>match xs[j]?,ys[j]? with
 | some x,some y=>Gm x y
 | _,_=>true
theorem C9{K:PySem.W.Frag}{H:Hp}{B:aL}{x y:V}{t u:T}(h1:Rep K H B x t)(h2:Rep K H B y u)(f1:bP t=true)(f2:bP u=true):iF x=true/\iF y=true/\BZ x y=Gm t u:=by
 cases h1<;>first | (cases f1;done) | (cases h2<;>first | (cases f2;done) | exact⟨rfl,rfl,rfl⟩)
def yv(K:PySem.W.Frag)(neg:Bool):R2:=fun x y H Q=>∃ a b xs ys,x=.ref a/\y=.ref b/\((bK K H a xs/\bK K H b ys)\/(bu K H a xs/\bu K H b ys))/\xs.all iF=true/\ys.all iF=true /\
 ∀ c,c=(xs.length == ys.length && (List.range (min xs.length ys.length)).all fun j=>match xs[j]?,ys[j]? with | some x,some y=>BZ x y | _,_=>true)->Q (.bl (if neg then !c else c)) H
theorem Bz{X:Cx}(hu:X.A.units < cLine):cN X (compareOp .Eq) (yv X.K false):=by
 intro pins s σ H x y v u Q I rx ry h;obtain⟨a,b,xs,ys,rfl,rfl,hq,fx,fy,q⟩:=h
 cases rx;cases ry
 have item:∀ (its its2:List Value),Vals xs its->Vals ys its2->∀ j (h1:j < its.toArray.size) (h2:j < its2.toArray.size),SeqAt.EqAt X.A.in1 s its.toArray[j] its2.toArray[j] (match xs[j]?,ys[j]? with | some x,some y=>BZ x y | _,_=>true):=fun its its2 r1 r2 j h1 h2=>by
  have l1:=r1.length;have l2:=r2.length;rw[List.size_toArray] at h1 h2;obtain⟨u1,e1,g1⟩:=r1.get (i:=j) (x:=xs[j]) (List.getElem?_eq_getElem (by lia))
  obtain⟨u2,e2,g2⟩:=r2.get (i:=j) (x:=ys[j]) (List.getElem?_eq_getElem (by lia))
  rw[List.getElem?_eq_getElem (show j < xs.length by lia),List.getElem?_eq_getElem (show j < ys.length by lia)]
  have z1:its.toArray[j]=u1:=by
   rw[List.getElem?_eq_getElem h1] at e1;simpa using e1
  have z2:its2.toArray[j]=u2:=by
   rw[List.getElem?_eq_getElem h2] at e2;simpa using e2
  rw[z1,z2];exact t5 g1 g2 (List.all_eq_true.mp fx _ (List.getElem_mem _)) (List.all_eq_true.mp fy _ (List.getElem_mem _))
 rcases hq with ⟨ha,hb⟩ | ⟨ha,hb⟩
 ·obtain⟨its,r1,p1,_⟩:=I.list ha;obtain⟨its2,r2,p2,_⟩:=I.list hb;have l1:=r1.length;have l2:=r2.length;by_cases e:xs.length=ys.length
  ·refine SeqAt.eq_listAt p1.isList p2.isList (by rw[List.size_toArray,List.size_toArray];lia) hu (item its its2 r1 r2) ⟨.bl _,H,I,rfl,q _ ?_⟩
   rw[List.size_toArray,<- l1,<- e,Nat.min_self,beq_self_eq_true,Bool.true_and]
  ·refine SeqAt.eq_list_lengthsAt p1.isList p2.isList (by rw[List.size_toArray,List.size_toArray,bne_iff_ne];lia) hu ⟨.bl _,H,I,rfl,q _ ?_⟩
   rw[beq_eq_false_iff_ne.mpr e,Bool.false_and]
 ·obtain⟨its,r1,p1,_⟩:=I.tuple ha;obtain⟨its2,r2,p2,_⟩:=I.tuple hb;have l1:=r1.length;have l2:=r2.length;refine SeqAt.eq_tupleAt p1 p2 hu (item its its2 r1 r2) ⟨.bl _,H,I,rfl,q _ ?_⟩;rw[List.size_toArray,List.size_toArray,<- l1,<- l2,Bool.and_comm];rfl
theorem bL{K:PySem.W.Frag}{H:Hp}{B:aL}:∀ {xs:List V} {ts:List T},aj K H B xs ts->ts.all bP=true->xs.all iF=true
 | _,_,.nil,_=>rfl
 | _,_,.cons h r,f=>by
  rw[List.all_cons,Bool.and_eq_true] at f ⊢;refine⟨?_,bL r f.2⟩;have f1:=f.1
  cases h<;>first | rfl | cases f1
theorem kD{K:PySem.W.Frag}{H:Hp}{B:aL}{xs ys:List V}{ts us:List T}(h1:aj K H B xs ts)(h2:aj K H B ys us)(f1:ts.all bP=true)(f2:us.all bP=true):
  nW ts us=(xs.length == ys.length && (List.range (min xs.length ys.length)).all fun j=>match xs[j]?,ys[j]? with | some x,some y=>BZ x y | _,_=>true):=by
 unfold nW;have l1:=h1.length;have l2:=h2.length;rw[l1,l2];congr 1;refine List.all_congr rfl ?_ |>.symm;intro j
 cases a1:ts[j]? with
 | none =>
  have:xs[j]?=none:=List.getElem?_eq_none_iff.mpr (by have:=List.getElem?_eq_none_iff.mp a1;lia)
  rw[this]
 | some t =>
  obtain⟨v1,e1,r1⟩:=h1.get a1;rw[e1]
  cases a2:us[j]? with
  | none =>
   have:ys[j]?=none:=List.getElem?_eq_none_iff.mpr (by have:=List.getElem?_eq_none_iff.mp a2;lia)
   rw[this]
  | some u =>
   obtain⟨v2,e2,r2⟩:=h2.get a2;rw[e2];exact (C9 r1 r2 (List.all_eq_true.mp f1 _ (List.mem_of_getElem? a1)) (List.all_eq_true.mp f2 _ (List.mem_of_getElem? a2))).2.2
def Cy(K:PySem.W.Frag):R2:=fun x y H Q=>C5 x y H Q\/yv K false x y H Q
theorem cw{X:Cx}(K:PySem.W.Frag)(hK:X.K=K)(hu:X.A.units < cLine):cN X (compareOp .Eq) (Cy K):=by subst hK;exact yF.or (Bz hu)
def EA(neg:Bool):T->T->Mu->(R->Mu->Prop)->Prop:=fun t u μ Q=>match t,u with
 | .int i,.int j=>Q (.tr (.bl (if neg then !decide (i=j) else decide (i=j)))) μ
 | .str i,.str j=>Q (.tr (.bl (if neg then !decide (i=j) else decide (i=j)))) μ
 | .bl i,.bl j=>Q (.tr (.bl (if neg then !decide (i=j) else decide (i=j)))) μ
 | .lst xs,.lst ys=>neg=false/\xs.all bP=true/\ys.all bP=true/\Q (.tr (.bl (nW xs ys))) μ
 | .tup xs,.tup ys=>neg=false/\xs.all bP=true/\ys.all bP=true/\Q (.tr (.bl (nW xs ys))) μ
 | _,_=>False
theorem dV{α:Type}[DecidableEq α]{f:α->V}(hf:∀ a b,f a=f b->a=b)(a b:α):decide (f a=f b)=decide (a=b):=by
 rw[decide_eq_decide];exact⟨hf a b,fun h=>by rw[h]⟩
theorem dk{K:PySem.W.Frag}:kW K (Cy K) (tL (EA false)):=fU fun F ad B σ H μ Q Qt x y t u hK l v1 v2 q k=>by
 subst hK;unfold EA at q
 split at q
 ·cases v1;cases v2
  refine .inl ⟨rfl,?_⟩;rw[dV (f:=V.int) (fun a b h=>by injection h)]
  exact k _ H _ (Vr.flat l (.bl _)) Fr.refl q
 ·cases v1;cases v2
  refine .inl ⟨rfl,?_⟩;rw[dV (f:=V.str) (fun a b h=>by injection h)]
  exact k _ H _ (Vr.flat l (.bl _)) Fr.refl q
 ·cases v1;cases v2
  refine .inl ⟨rfl,?_⟩;rw[dV (f:=V.bl) (fun a b h=>by injection h)]
  exact k _ H _ (Vr.flat l (.bl _)) Fr.refl q
 ·cases v1 with
  | lst ha ra=>cases v2 with
   | lst hb rb=>exact .inr ⟨_,_,_,_,rfl,rfl,.inl ⟨bK.of ha,bK.of hb⟩,bL ra q.2.1,bL rb q.2.2.1,fun c hc=>by
     rw[<- kD ra rb q.2.1 q.2.2.1] at hc;subst hc;exact k _ H _ (Vr.flat l (.bl _)) Fr.refl q.2.2.2⟩
 ·cases v1 with
  | tup ha ra=>cases v2 with
   | tup hb rb=>exact .inr ⟨_,_,_,_,rfl,rfl,.inr ⟨bu.of ha,bu.of hb⟩,bL ra q.2.1,bL rb q.2.2.1,fun c hc=>by
     rw[<- kD ra rb q.2.1 q.2.2.1] at hc;subst hc;exact k _ H _ (Vr.flat l (.bl _)) Fr.refl q.2.2.2⟩
 ·exact q.elim
def se(f:T->Mu->(R->Mu->Prop)->Prop):UC:=fun rs μ Q=>match rs with
 | [r]=>(match cont μ r with | some t=>f t μ Q | none=>False)
 | _=>False
theorem iH{K:PySem.W.Frag}{r:List V->Hp->VK->Prop}{f:T->Mu->(R->Mu->Prop)->Prop}
  (h:∀ (F:Fx) (ad:Nat->Addr) (B:aL) (σ:St) (H:Hp) (μ:Mu) (Q:VK) (Qt:R->Mu->Prop) (x:V) (t:T),F.K=K->Rl F ad B σ H μ->Vw F.K H B x t->f t μ Qt ->
   (∀ v H' r,Vr F ad B σ H' μ v r->Fr B H (Bv B v r) H'->Qt r μ->Q v H')->r [x] H Q):RC K r (se f):=by
 intro F ad B σ H μ Q Qt xs rs hK l p q k;unfold se at q
 split at q
 ·split at q
  ·rename_i r0 _ t e
   cases p with
   | cons h1 p=>cases p;exact h F ad B σ H μ Q Qt _ t hK l (h1.vw l e) q fun v H' r v1 s q1=>k v H' r μ v1 s (Kp.refl μ) q1
  ·exact q.elim
 ·exact q.elim
def lM:T->Mu->(R->Mu->Prop)->Prop:=fun t μ Q=>match t with
 | .lst xs=>Q (.tr (.int xs.length)) μ
 | .tup xs=>Q (.tr (.int xs.length)) μ
 | .d7 xs=>Q (.tr (.int xs.length)) μ
 | .gg xs=>Q (.tr (.int xs.length)) μ
 | .str z=>z.length<=sizeLine/\Q (.tr (.int z.length)) μ
 | _=>False
def u5(K:PySem.W.Frag):List V->Hp->VK->Prop:=fun xs H Q=>(∃ p ys,xs=[.ref p]/\(bK K H p ys\/bu K H p ys)/\Q (.int ys.length) H)\/(∃ z,xs=[.str z]/\z.length<=sizeLine/\Q (.int z.length) H)
theorem aU{X:Cx}(K:PySem.W.Frag)(hK:X.K=K):aQ X (.builtin "len") (u5 K):=by subst hK;exact kQ.or ko
theorem Ac{K:PySem.W.Frag}:RC K (u5 K) (se lM):=iH fun F ad B σ H μ Q Qt x t hK l v1 q k=>by
 subst hK;unfold lM at q
 split at q
 ·cases v1 with
  | lst ha ra=>exact .inl ⟨_,_,rfl,.inl (bK.of ha),by rw[ra.length];exact k _ H _ (Vr.flat l (.int _)) Fr.refl q⟩
 ·cases v1 with
  | tup ha ra=>exact .inl ⟨_,_,rfl,.inr (bu.of ha),by rw[ra.length];exact k _ H _ (Vr.flat l (.int _)) Fr.refl q⟩
 ·cases v1 with
  | d7 ha ra=>exact .inl ⟨_,_,rfl,.inl ha,by rw[ra.length];exact k _ H _ (Vr.flat l (.int _)) Fr.refl q⟩
 ·cases v1 with
  | gg ha ra=>exact .inl ⟨_,_,rfl,.inr (.inr ha),by rw[ra.length];exact k _ H _ (Vr.flat l (.int _)) Fr.refl q⟩
 ·cases v1;exact .inr ⟨_,rfl,q.1,k _ H _ (Vr.flat l (.int _)) Fr.refl q.2⟩
 ·exact q.elim
def fV:UC:=fun rs μ Q=>match rs with
 | [r]=>(match cont μ r with
  | some (.lst xs)=>Q (.tr (.tup xs)) μ
  | some (.tup xs)=>Q (.tr (.tup xs)) μ
  | _=>False)
 | _=>False
def zu(K:PySem.W.Frag):List V->Hp->VK->Prop:=fun xs H Q=>∃ p ys,xs=[.ref p]/\((bK K H p ys/\∀ l,H l=none->Q (.ref l) (upd H l (.tup ys)))\/(bu K H p ys/\Q (.ref p) H))
theorem bU{X:Cx}(K:PySem.W.Frag)(hK:X.K=K):aQ X (.type "tuple") (zu K):=by subst hK;exact iX
theorem cD{K:PySem.W.Frag}:RC K (zu K) fV:=by
 intro F ad B σ H μ Q Qt xs rs hK l p q k;subst hK;unfold fV at q
 split at q
 ·cases p with
  | cons h1 p =>
   cases p
   split at q
   ·rename_i e;have v1:=h1.vw l e
    cases v1 with
    | lst ha ra=>exact⟨_,_,rfl,.inl ⟨bK.of ha,fun p hp=>k _ _ _ μ (Vr.vp l ra hp) (Fr.same (bM.new hp)) (Kp.refl μ) q⟩⟩
   ·rename_i e;have rp:=Hv.wK l h1 e;have rp':=rp
    cases rp with
    | tup na ha ra=>exact⟨_,_,rfl,.inr ⟨bu.of ha,k _ H _ μ (Vr.flat l rp') Fr.refl (Kp.refl μ) q⟩⟩
   ·exact q.elim
 ·exact q.elim
def mx:T->Mu->(R->Mu->Prop)->Prop:=fun t μ Q=>match t with
 | .lst xs=>Q (.fr (.lst xs)) μ
 | .tup xs=>Q (.fr (.lst xs)) μ
 | .d7 xs=>Q (.fr (.lst xs)) μ
 | .fD lo hi=>(hi - lo).toNat<=65536/\-(2 ^ 62)<=lo/\lo < 2 ^ 62/\-(2 ^ 62)<=hi/\hi < 2 ^ 62/\Q (.fr (.lst ((List.range (hi - lo).toNat).map fun k=>T.int (lo+(k:Nat))))) μ
 | _=>False
def sJ(K:PySem.W.Frag):List V->Hp->VK->Prop:=fun xs H Q=>(∃ p ys,xs=[.ref p]/\(bK K H p ys\/bu K H p ys)/\∀ l,H l=none->Q (.ref l) (upd H l (.lst ys))) \/
 (∃ p lo hi,xs=[.ref p]/\H p=some (.fD lo hi)/\(hi - lo).toNat<=65536/\-(2 ^ 62)<=lo/\lo < 2 ^ 62/\-(2 ^ 62)<=hi/\hi < 2 ^ 62/\∀ l,H l=none->Q (.ref l) (upd H l (.lst ((List.range (hi - lo).toNat).map fun k=>V.int (lo+(k:Nat))))))
theorem eA{lo:Int}:∀ (n:Nat) (acc:List Value) (k:Nat),acc.length=n->(∀ j v,acc[j]?=some v->∃ t,v=Value.int (lo+((k+j:Nat):Int)) t)->Vals ((List.range' k n).map fun k=>V.int (lo+(k:Nat))) acc
 | 0,acc,k,h,_=>by cases acc with | nil=>exact .nil | cons a b=>cases h
 | n+1,[],k,h,_=>by cases h
 | n+1,a::acc,k,h,g=>by
  rw[List.range'_succ,List.map_cons];refine .cons ?_ (eA n acc (k+1) (by simpa using h) fun j v e=>?_)
  ·obtain⟨t,e⟩:=g 0 a rfl;exact⟨t,by simpa using e⟩
  ·obtain⟨t,e2⟩:=g (j+1) v (by simpa using e)
   exact⟨t,by rw[e2];congr 2;lia⟩
theorem nk{X:Cx}(hc:X.calm=true):aQ X (.type "list") (fun xs H Q=>∃ p lo hi,xs=[.ref p]/\H p=some (.fD lo hi)/\(hi - lo).toNat<=65536/\-(2 ^ 62)<=lo/\lo < 2 ^ 62/\-(2 ^ 62)<=hi/\hi < 2 ^ 62/\∀ l,H l=none->Q (.ref l) (upd H l (.lst ((List.range (hi - lo).toNat).map fun k=>V.int (lo+(k:Nat)))))):=by
 intro pins s σ H xs us Q I r h;obtain⟨p,lo,hi,rfl,hp,hn,h1,h2,h3,h4,q⟩:=h;obtain⟨u,rfl,rx⟩:=vals1 r;cases rx;obtain⟨t,u,v,e⟩:=I.aE p _ hp;have hn2:Builtin.Range.rangeSize lo hi 1=((hi - lo).toNat:Nat):=by rw[rangeSize_one];split<;>lia
 refine call_list_range (n:=(hi - lo).toNat) (I.ok.hd hc) e (small_one h1 h2 h3 h4) hn2 (by lia) fun h' tk acc c' hk hS hI=>?_
 have hv:Vals ((List.range (hi - lo).toNat).map fun k=>V.int (lo+(k:Nat))) acc.toList:=by
  rw[List.range_eq_range'];refine eA _ _ 0 (by simpa using hI.1) fun j v e=>?_
  obtain⟨t,e2⟩:=hI.2 j v (by simpa using e)
  exact⟨t,by rw[e2];simp⟩
 refine⟨.ref s.heap.objs.size,_,I.laid (t':=tk) hk (Nat.le_refl _) (show aK X.prog X.w _ h' _ (.lst _) from⟨?_,acc.toList,c',hv,by simpa using hS⟩),rfl,q _ (I.aE.fresh (Nat.le_refl _))⟩
 rw[List.length_map,List.length_range];exact Nat.le_trans hn (by decide)
theorem mU{X:Cx}(K:PySem.W.Frag)(hK:X.K=K)(hc:X.calm=true):aQ X (.type "list") (sJ K):=by subst hK;exact kI.or (nk hc)
theorem gX{K:PySem.W.Frag}{H:Hp}{B:aL}{lo:Int}:∀ l:List Nat,aj K H B (l.map fun k=>V.int (lo+(k:Nat))) (l.map fun k=>T.int (lo+(k:Nat)))
 | []=>.nil
 | k::l=>.cons (.int _) (gX l)
theorem wM{K:PySem.W.Frag}:RC K (sJ K) (se mx):=iH fun F ad B σ H μ Q Qt x t hK l v1 q k=>by
 subst hK;unfold mx at q
 split at q
 ·cases v1 with
  | lst ha ra=>exact .inl ⟨_,_,rfl,.inl (bK.of ha),fun p hp=>k _ _ _ (Vr.fL l ra hp) (Fr.more hp) q⟩
 ·cases v1 with
  | tup ha ra=>exact .inl ⟨_,_,rfl,.inr (bu.of ha),fun p hp=>k _ _ _ (Vr.fL l ra hp) (Fr.more hp) q⟩
 ·cases v1 with
  | d7 ha ra=>exact .inl ⟨_,_,rfl,.inl ha,fun p hp=>k _ _ _ (Vr.fL l ra hp) (Fr.more hp) q⟩
 ·cases v1 with
  | fD ha=>exact .inr ⟨_,_,_,rfl,ha,q.1,q.2.1,q.2.2.1,q.2.2.2.1,q.2.2.2.2.1,fun p hp=>k _ _ _ (Vr.fL l (gX _) hp) (Fr.more hp) q.2.2.2.2.2⟩
 ·exact q.elim
def Bp(g:Int->Int->Int):UC:=fun rs μ Q=>match rs with
 | [.tr (.int i),.tr (.int j)]=>Q (.tr (.int (g i j))) μ
 | _=>False
theorem yR{K:PySem.W.Frag}{r:List V->Hp->VK->Prop}{g:Int->Int->Int}(h:∀ i j H Q,Q (.int (g i j)) H->r [.int i,.int j] H Q):RC K r (Bp g):=by
 intro F ad B σ H μ Q Qt xs rs hK l p q k;unfold Bp at q
 split at q
 ·cases p with
  | cons h1 p=>cases p with
   | cons h2 p=>cases p;cases cu h1;cases cu h2;exact h _ _ _ _ (k _ H _ μ (Vr.flat l (.int _)) Fr.refl (Kp.refl μ) q)
 ·exact q.elim
theorem zW{K:PySem.W.Frag}:RC K A6 (Bp fun i j=>if j > i then j else i):=yR fun i j H Q q=>q
theorem AW{K:PySem.W.Frag}:RC K D5 (Bp fun i j=>if j < i then j else i):=yR fun i j H Q q=>q
def vR:UC:=fun rs μ Q=>match rs with
 | [.tr (.int i)]=>Q (.tr (.int i)) μ
 | [.tr (.bl k)]=>Q (.tr (.int (if k=true then 1 else 0))) μ
 | _=>False
theorem Bu{K:PySem.W.Frag}:RC K DL vR:=by
 intro F ad B σ H μ Q Qt xs rs hK l p q k;unfold vR at q
 split at q
 ·cases p with
  | cons h1 p=>cases p;cases cu h1;exact k _ H _ μ (Vr.flat l (.int _)) Fr.refl (Kp.refl μ) q
 ·cases p with
  | cons h1 p=>cases p;cases cu h1;exact k _ H _ μ (Vr.flat l (.int _)) Fr.refl (Kp.refl μ) q
 ·exact q.elim
end Y
namespace Y
def Fi:T->String->Option Bool
 | .aI,c=>some (qN "NoneType" c)
 | .bl _,c=>some (qN "bool" c)
 | .int _,c=>some (qN "int" c)
 | .str _,c=>some (qN "str" c)
 | .lst _,c=>some (qN "list" c)
 | .tup _,c=>some (qN "tuple" c)
 | _,_=>none
section
variable {X:Cx} {a b c e o:Expr} {es rest:List Expr} {ua ub uc ue uo:UE} {uA uB:UT} {us:UA} {pos p p2 p3:Pos} {x:Str}
def bH{α:Type}(xs:List α)(lo hi:Option Int):List α:=(xs.drop (HT.bt xs.length 0 lo)).take (HT.bt xs.length xs.length hi - HT.bt xs.length 0 lo)
theorem aj.cut{K:PySem.W.Frag}{H:Hp}{B:aL}{vs:List V}{ts:List T}(r:aj K H B vs ts)(lo hi:Option Int):aj K H B (kG vs lo hi) (bH ts lo hi):=by
 unfold kG bH;rw[r.length];exact (r.drop _).take _
def DN(K:PySem.W.Frag):V->Option Int->Option Int->Hp->VK->Prop:=fun x lo hi H Q=>∃ a xs,x=.ref a/\bu K H a xs/\HT.bt xs.length 0 lo=0/\HT.bt xs.length xs.length hi=xs.length/\Q (.ref a) H
theorem fe{prog:Program}{w:World}{A:Around}{E:Value->Shared->Prop}{s:Shared}{t sl:Addr}{items:Array Value}{vl vu:Value}{lo hi:Option Int}{Q:Value->Shared->Prop}(ht:IsTup s.heap t items)(hs:s.heap.IsSliceOf sl vl vu .none)(pl:IsPart vl lo)(pu:IsPart vu hi)
  (h1:HT.bt items.size 0 lo=0) (h2:HT.bt items.size items.size hi=items.size) (h:Q (.ref t) s):wpAny (model prog w) A (getItem (.ref t) (.ref sl)) Q E s:=by
 obtain⟨os,hos,hcs,hds⟩:=id hs;have hTs:s.TypeIs (.ref sl) "slice":=⟨os,hos,hcs⟩;unfold getItem
 try with_reducible refine wpAny_holding ?_
 first | refine wpAny_bind (wpAny_pure ?_) | skip
 refine wpAny_bind (wpAny_sequenceKey ht.typeIs (by decide) ?_)
 refine wpAny_bind (wpAny_callSpecial?_slot (name:=Str.ofString "__getitem__") ht.typeIs PyProof.Rows.slot_tuple_getitem
  (wpAny_call_entry PyProof.Rows.slot_tuple_getitem ht.typeIs entry_tuple_getitem ?_ (args_tuple_getitem _ _)))
 show wpAny _ _ (Builtin.Tuple.tupleItemsOf (.ref t) >>= _) _ _ s;refine wpAny_bind (tupleItemsOf_ ht ?_);refine wpAny_bind (wpAny_typeOf hTs ?_);rw[if_pos (by decide)]
 refine wpAny_bind (HT.dz hs pl pu ?_);show wpAny _ _ (if (((HT.bt items.size 0 lo:Nat):Int) == 0 && (1:Int) == 1 && (HT.bt items.size items.size hi - HT.bt items.size 0 lo) == items.size)=true then _ else _) _ _ s
 rw[if_pos (by rw[h1,h2];simp)]
 unfold Builtin.Tuple.tupleIsExact;refine wpAny_bind ?_;refine wpAny_bind (wpAny_typeOf ht.typeIs (wpAny_pure ?_));rw[if_pos (by decide)]
 exact wpAny_bind (wpAny_rule (wpAny_pure ⟨_,rfl,wpAny_pure h⟩))
theorem zI{X:Cx}:sf X (DN X.K):=by
 intro pins s σ H x v vl vu lo hi sl Q I rx hs pl pu h;obtain⟨a,xs,rfl,hx,h1,h2,q⟩:=h;cases rx;obtain⟨its,r,ht,hz⟩:=I.tuple hx;have hlen:its.toArray.size=xs.length:=by rw[List.size_toArray];exact r.length.symm
 exact⟨"tuple",_,PyProof.Rows.slot_tuple_getitem.lookup,ht.typeIs,fe ht hs pl pu (by rw[hlen];exact h1) (by rw[hlen];exact h2) ⟨.ref a,H,I,rfl,q⟩⟩
def Dq(K:PySem.W.Frag):V->Option Int->Option Int->Hp->VK->Prop:=fun x lo hi H Q=>D8 K x lo hi H Q\/ym K x lo hi H Q\/DN K x lo hi H Q
theorem EO(K:PySem.W.Frag)(hK:X.K=K):sf X (Dq K):=by subst hK;exact yx.or (zR.or zI)
def FQ(ue:UE)(ul uh:UO):UE:=fun μ Q=>ue μ fun r μ1=>ul μ1 fun lo μ2=>uh μ2 fun hi μ3=>match cont μ3 r.d with
 | some (.lst xs)=>Q (.fr (.lst (bH xs lo hi))) μ3
 | some (.d7 xs)=>Q (.fr (.lst (bH xs lo hi))) μ3
 | some (.tup xs)=>Q (.tr (.tup (bH xs lo hi))) μ3
 | _=>False
end
end Y
structure nv (F:Fx) (B:aL) (H:Hp) (D:Ends) (E:Ed):Prop where
 nx:∀ ad' B' σ' H' μ',Rl F ad' B' σ' H' μ'->Fr B H B' H'->E.nx μ'->D.nx σ' H'
 rt:∀ ad' B' σ' H' μ' v r,Vr F ad' B' σ' H' μ' v r->E.rt r μ'->D.rt v H'
 bk:∀ ad' B' σ' H' μ',Rl F ad' B' σ' H' μ'->Fr B H B' H'->E.bk μ'->D.bk σ' H'
 ct:∀ ad' B' σ' H' μ',Rl F ad' B' σ' H' μ'->Fr B H B' H'->E.ct μ'->D.ct σ' H'
theorem nv.step{F:Fx}{B B1:aL}{H H1:Hp}{D:Ends}{E:Ed}(h:nv F B H D E)(f:Fr B H B1 H1):nv F B1 H1 D E:=
 ⟨fun ad' B' σ' H' μ' l g q=>h.nx ad' B' σ' H' μ' l (f.trans g) q,h.rt,fun ad' B' σ' H' μ' l g q=>h.bk ad' B' σ' H' μ' l (f.trans g) q,fun ad' B' σ' H' μ' l g q=>h.ct ad' B' σ' H' μ' l (f.trans g) q⟩
def RS(K:PySem.W.Frag)(ts:TS)(us:US):Prop:=∀ (F:Fx) (D:Ends) (E:Ed) (ad:Nat->Addr) (B:aL) (σ:St) (H:Hp) (μ:Mu),F.K=K->Rl F ad B σ H μ->us E μ->nv F B H D E->ts D σ H
noncomputable abbrev UG:=R->Mu->(Mu->Prop)->Prop
noncomputable abbrev pw:=List T->Mu->(Mu->Prop)->Prop
def RG(K:PySem.W.Frag)(g:TG)(ug:UG):Prop:=∀ (F:Fx) (ad:Nat->Addr) (B:aL) (σ:St) (H:Hp) (μ:Mu) (v:V) (r:R) (B0:aL) (H0:Hp) (Q:St->Hp->Prop) (Qt:Mu->Prop),F.K=K->Vr F ad B σ H μ v r->Fr B0 H0 (Bv B v r) H->ug r μ Qt ->
 (∀ ad' B' σ' H' μ',Rl F ad' B' σ' H' μ'->Fr B0 H0 B' H'->Qt μ'->Q σ' H')->g v σ H Q
def Gv(K:PySem.W.Frag)(g:n6)(ug:pw):Prop:=∀ (F:Fx) (ad:Nat->Addr) (B:aL) (σ:St) (H:Hp) (μ:Mu) (vs:List V) (ts:List T) (B0:aL) (H0:Hp) (Q:St->Hp->Prop) (Qt:Mu->Prop),F.K=K->Rl F ad B σ H μ->aj F.K H B vs ts->Fr B0 H0 B H->ug ts μ Qt ->
 (∀ ad' B' σ' H' μ',Rl F ad' B' σ' H' μ'->Fr B0 H0 B' H'->Qt μ'->Q σ' H')->g vs σ H Q
structure YG (X:Cx) (e:Expr) (u:UG):Prop where
 ex:∃ t,QG X e t/\RG X.K t u
structure DQ (X:Cx) (es:List Expr) (u:pw):Prop where
 ex:∃ t,El X es t/\Gv X.K t u
structure YS (X:Cx) (st:Stmt) (u:US):Prop where
 ex:∃ t,QS X st t/\RS X.K t u
structure YB (X:Cx) (sts:List Stmt) (u:US):Prop where
 ex:∃ t,QB X sts t/\RS X.K t u
namespace Y
def rZ(μ:Mu)(i:Nat):Prop:=match μ[i]? with
 | some (.pb _)=>False
 | _=>True
theorem jE{μ:Mu}{i:Nat}(h:rZ μ i):∀ c,μ[i]?≠some (.pb c):=fun c e=>by unfold rZ at h;rw[e] at h;exact h
def gN(i:Nat):UG:=fun r μ Q=>match r with
 | .tr t=>rZ μ i/\Q (μ.set i (.tr t))
 | .fr c=>rZ μ i/\Q (μ.set i (.bx c))
 | .br _=>False
section
variable {X:Cx} {a b c e o tg:Expr} {es rest:List Expr} {ua ub uc ue uo:UE} {uA uB:UT} {us:UA} {pos pos' p p2 p3:Pos} {x:Str} {st:Stmt} {sts xs ys:List Stmt} {u w:US}
theorem jX{K:PySem.W.Frag}{i:Nat}:RG K (bO i) (gN i):=fun F ad B σ H μ v r B0 H0 Q Qt hK h f q k=>by
 cases r with
 | tr t=>exact k ad B _ H _ (h.1.BA (jE q.1) h.2) f q.2
 | br i=>exact q.elim
 | fr c =>
  obtain⟨l,a,rfl,n,h0,l2,x⟩:=h;exact k _ _ _ H _ (l2.setB (jE q.1) h0 n l.own l.gB x) f q.2
theorem bq{i:Nat}(hN:X.N.Nodup)(hi:X.N[i]?=some x)(hx:Loc X.env.scope x)(hf:X.fn x=true\/X.env.scope.names.lookup x=some .local:=by first | exact .inl rfl | exact .inr rfl | assumption):YG X (.Name x pos) (gN i):=⟨_,Z.bq hN hi hx hf,jX⟩
def E2:pw:=fun ts μ Q=>match ts with
 | []=>Q μ
 | _=>False
def E4(g:UG)(gs:pw):pw:=fun ts μ Q=>match ts with
 | []=>False
 | t::ts=>g (.tr t) μ fun μ'=>gs ts μ' Q
theorem eE:DQ X [] E2:=⟨_,Z.eE,fun F ad B σ H μ vs ts B0 H0 Q Qt hK l r f q k=>by
 cases r with
 | nil=>exact⟨rfl,k ad B σ H μ l f q⟩
 | cons=>exact q.elim⟩
theorem bF{g:UG}{gs:pw}(h1:YG X e g)(h2:DQ X es gs)(hs:(assignEach (e::es) X.env).map (·.2)=assign e X.env::(assignEach es X.env).map (·.2):=by rfl):DQ X (e::es) (E4 g gs):=by
 obtain⟨t,q,r⟩:=h1;obtain⟨t',q',r'⟩:=h2;refine⟨_,Z.bF q q' hs,fun F ad B σ H μ vs ts B0 H0 Q Qt hK l rs f q k=>?_⟩
 cases rs with
 | nil=>exact q.elim
 | cons h hr=>exact⟨_,_,rfl,r F ad B σ H μ _ (.tr _) B H _ _ hK ⟨l,h⟩ Fr.refl q fun ad' B' σ' H' μ' l' f' q'=>r' F ad' B' σ' H' μ' _ _ B0 H0 _ _ hK l' (hr.fr f') (f.trans f') q' k⟩
def gT(n:Nat)(gs:pw):UG:=fun r μ Q=>match cont μ r.d with
 | some (.tup ts)=>ts.length=n/\gs ts μ Q
 | some (.lst ts)=>ts.length=n/\gs ts μ Q
 | _=>False
def Di(K:PySem.W.Frag)(n:Nat)(t:n6):TG:=fun v σ H Q=>∃ a xs,v=.ref a/\(bu K H a xs\/bK K H a xs)/\xs.length=n/\t xs σ H Q
theorem j6{prog:Program}{w:World}{A:Around}{E:Value->Shared->Prop}{it t:Addr}{items:Array Value}(hne:t≠it):∀ (n i:Nat) (s:Shared) (Q:List Value->Shared->Prop),s.heap.IsListIter it t i->s.heap.IsList t items->i+n<=items.size ->
  (∀ h',h'.IsListIter it t (i+n)->Heap.SameBut it s.heap h'->Q ((items.toList.drop i).take n) { s with heap:=h' })->wpAny (model prog w) A (draw (.ref it) n) Q E s
 | 0,i,s,Q,hit,_,_,hQ=>by
  show wpAny _ _ (pure []) Q E s;exact wpAny_pure (by simpa using hQ s.heap hit (Heap.SameBut.refl ..))
 | n+1,i,s,Q,hit,ht,hle,hQ=>by
  have hlt:i < items.size:=by lia
  show wpAny _ _ (pyNext (.ref it) >>= _) Q E s;refine wpAny_bind (wpAny_pyNext_list_item hit ht (x:=items[i]) (by simp[hlt]) fun h₁ hit₁ hs₁=>?_)
  refine wpAny_bind (wpAny_holding (j6 hne n (i+1) _ _ hit₁ (ht.extBut hs₁.extBut hne) (by lia) fun h₂ hit₂ hs₂=>wpAny_pure ?_))
  have hd:items.toList.drop i=items[i]::items.toList.drop (i+1):=by simp[List.drop_eq_getElem_cons,hlt]
  have:=hQ h₂ (by rw[show i+(n+1)=i+1+n by lia];exact hit₂) (hs₁.trans hs₂)
  rw[hd,List.take_succ_cons] at this;exact this
theorem fI{prog:Program}{w:World}{A:Around}{E:Value->Shared->Prop}{s:Shared}{t:Addr}{items:Array Value}{Q:List Value->Shared->Prop}(hh:A.handled=none)(ht:s.heap.IsList t items)
  (hQ:∀ h',Heap.ExtBut s.heap.objs.size s.heap h'->Q items.toList { s with heap:=h' }):wpAny (model prog w) A (unpackItems (.ref t) items.size none) Q E s:=by
 have hlt:t≠s.heap.objs.size:=by obtain⟨o,ho,_⟩:=ht;exact Nat.ne_of_lt (Heap.lt_size ho)
 unfold unpackItems;refine wpAny_bind ?_
 ·unfold notIterableAtAll;refine wpAny_bind (wpAny_specialOf ht.typeIs F.slot_list_iter.lookup ?_);refine wpAny_pure ?_;simp only[Bool.false_eq_true,if_false];refine wpAny_bind (wpAny_holding (wpAny_pyIter_list ht ?_));refine wpAny_bind (wpAny_holding (j6 hlt items.size 0 _ _ ⟨_,Heap.get?_push_size _ rfl,rfl,rfl⟩ (ht.push _) (by lia) fun h₁ hit₁ hs₁=>?_))
  have hall:List.take items.size (List.drop 0 items.toList)=items.toList:=by
   rw[List.drop_zero];exact List.take_of_length_le (by simp)
  rw[hall];rw[if_neg (by simp)]
  have ht₁:h₁.IsList t items:=(ht.push _).extBut hs₁.extBut hlt;refine wpAny_bind (wpAny_holding (wpAny_pyNext_list_end hh hit₁ ht₁ (by simp) fun h₂ he₂=>?_))
  simp only[Option.isSome_none,Bool.false_eq_true,if_false];refine wpAny_pure (hQ h₂ fun b o hb e=>he₂ b o hb (hs₁.extBut b o hb (Heap.get?_push_of_some _ e)))
theorem wU{es:List Expr}{k:Nat}{t:n6}{n:Nat}(hc:X.calm=true)(h:Ce X es t)
  (hn:(assignEach es X.env).length=n:=by rfl) (hst:(assignEach es X.env).findIdx? (·.1)=none:=by rfl):PG X (.Tuple es k pos) (Di X.K n t):=by
 intro pins s σ H v u Q I r hw;obtain⟨a,xs,e1,hq,hl,hw⟩:=hw;rcases hq with hq | hq
 ·exact wk hc h hn hst pins s σ H v u Q I r ⟨a,xs,e1,hq,hl,hw⟩
 ·subst e1;cases r;obtain⟨its,rv,ht,hz⟩:=I.list hq;rw[assign_Tuple];refine wpAny_bind (wpAny_standAt ?_);unfold unpack;have hsz:(assignEach es X.env).length=its.toArray.size:=by rw[hn,<- hl,rv.length];simp
  rw[hsz,hst];refine wpAny_bind (wpAny_holding (fI (I.ok.hd hc) ht.isList fun h' hx=>?_));have I1:Inv X pins σ H { s with heap:=h' }:=I.kept (t':=s.toks) fun b o e=>hx b o (Nat.ne_of_lt (Heap.lt_size e)) e
  exact h pins _ σ H xs _ Q I1 (by simpa using rv) hw
theorem mW(K:PySem.W.Frag)(hK:X.K=K){k n:Nat}{gs:pw}(hc:X.calm=true)(h:DQ X es gs)(hn:(assignEach es X.env).length=n:=by rfl)(hst:(assignEach es X.env).findIdx? (·.1)=none:=by rfl):YG X (.Tuple es k pos) (gT n gs):=by
 obtain⟨t,q,r⟩:=h;subst hK;refine⟨_,⟨wU hc q.h hn hst⟩,fun F ad B σ H μ v rr B0 H0 Q Qt hF h f q k=>?_⟩;have l:=h.rl;have f':Fr B0 H0 B H:=fun b o h n=>⟨(f b o h n).1,fun z=>(f b o h n).2 (by cases rr<;>first | exact z | (cases v<;>first | exact z | exact .inr z))⟩
 unfold gT at q
 split at q
 ·rename_i ts e;have w:=h.hv.vw l e;rw[hF] at w
  cases w with
  | tup ha ra=>exact⟨_,_,rfl,.inl (bu.of ha),by rw[ra.length];exact q.1,r F ad B σ H μ _ ts B0 H0 Q Qt hF l (by rw[hF];exact ra) f' q.2 k⟩
 ·rename_i ts e;have w:=h.hv.vw l e;rw[hF] at w
  cases w with
  | lst ha ra=>exact⟨_,_,rfl,.inr (bK.of ha),by rw[ra.length];exact q.1,r F ad B σ H μ _ ts B0 H0 Q Qt hF l (by rw[hF];exact ra) f' q.2 k⟩
 ·exact q.elim
theorem dU:YB X [] (fun E μ=>E.nx μ):=⟨_,Z.dU,fun F D E ad B σ H μ hK l q h=>h.nx ad B σ H μ l Fr.refl q⟩
theorem ba(h:YS X st u):YB X [st] u:=by obtain⟨t,q,r⟩:=h;exact⟨t,Z.ba q,r⟩
def Ay(u w:US):US:=fun E μ=>u { E with nx:=w E } μ
theorem ai(h:YS X st u)(h2:YB X sts w):YB X (st::sts) (Ay u w):=by
 obtain⟨t,q,r⟩:=h;obtain⟨t',q',r'⟩:=h2;exact⟨_,Z.ai q q',fun F D E ad B σ H μ hK l q h=>r F { D with nx:=t' D } { E with nx:=w E } ad B σ H μ hK l q
  ⟨fun ad1 B1 σ1 H1 μ1 l1 f1 q1=>r' F D E ad1 B1 σ1 H1 μ1 hK l1 q1 (h.step f1),h.rt,h.bk,h.ct⟩⟩
def mq(ue:UE)(g:UG):US:=fun E μ=>ue μ fun r μ'=>g r μ' E.nx
theorem jS{K:PySem.W.Frag}{te:TE}{tg:TG}{g:UG}(he:RE K te ue)(hg:RG K tg g):RS K (h_ te tg) (mq ue g):=fun F D E ad B σ H μ hK l q h =>
 he F ad B σ H μ _ _ hK l q fun v H' r μ' v1 f k1 q1=>hg F ad B σ H' μ' v r B H _ _ hK v1 f q1 fun ad' B' σ' H2 μ2 l2 f2 q2=>h.nx ad' B' σ' H2 μ2 l2 f2 q2
theorem set{i:Nat}(hN:X.N.Nodup)(hi:X.N[i]?=some x)(hx:Loc X.env.scope x)(he:YE X e ue)(hs:Z.yG e=true:=by rfl)(hf:X.fn x=true\/X.env.scope.names.lookup x=some .local:=by first | exact .inl rfl | exact .inr rfl | assumption):
  YS X (.Assign [.Name x pos'] e pos) (mq ue (gN i)):=by
 obtain⟨t,q,r⟩:=he;exact⟨_,Z.set hN hi hx q hs hf,jS r jX⟩
theorem asg{g:UG}(he:YE X e ue)(hg:YG X tg g)(hs:swapsWithSole [tg] e pos.line X.env=pure false:=by rfl)(hw:swappedStores [tg] e X.env=pure none:=by rfl)
  (h1:(assignEach [tg] X.env).map (·.2)=[assign tg X.env]:=by rfl):YS X (.Assign [tg] e pos) (mq ue g):=by
 obtain⟨t,q,r⟩:=he;obtain⟨t',q',r'⟩:=hg;exact⟨_,Z.asg q q' hs hw h1,jS r r'⟩
def ya(ue:UE):US:=fun E μ=>ue μ E.rt
theorem ret(he:YE X e ue):YS X (.Return (some e) pos) (ya ue):=by
 obtain⟨t,q,r⟩:=he;exact⟨_,Z.ret q,fun F D E ad B σ H μ hK l q h=>r F ad B σ H μ _ _ hK l q fun v H' r1 μ' v1 f k1 q1=>h.rt ad B σ H' μ' v r1 v1 q1⟩
def pK(ue:UE):US:=fun E μ=>ue μ fun _ μ'=>E.nx μ'
theorem expr(he:YE X e ue)(hs:Z.yG e=true:=by rfl):YS X (.Expr e pos) (pK ue):=by
 obtain⟨t,q,r⟩:=he;exact⟨_,Z.expr q hs,fun F D E ad B σ H μ hK l q h=>r F ad B σ H μ _ _ hK l q fun v H' r1 μ' v1 f k1 q1=>h.nx ad B σ H' μ' v1.rl f.d q1⟩
def xD(c:UT)(u w:US):US:=fun E μ=>c μ fun b μ'=>if b=true then u E μ' else w E μ'
theorem ml(hc:YT X c uA)(ha:YB X xs u)(hb:YB X ys w):YS X (.If c xs ys pos) (xD uA u w):=by
 obtain⟨tc,qc,rc⟩:=hc;obtain⟨t,q,r⟩:=ha;obtain⟨t',q',r'⟩:=hb;refine⟨_,Z.ml qc q q',fun F D E ad B σ H μ hK l q h=>rc F ad B σ H μ _ _ hK l q fun b H' μ' l1 f k1 q1=>?_⟩
 cases b with
 | true=>rw[if_pos rfl] at q1 ⊢;exact r F D E ad B σ H' μ' hK l1 q1 (h.step f)
 | false=>rw[if_neg Bool.false_ne_true] at q1 ⊢;exact r' F D E ad B σ H' μ' hK l1 q1 (h.step f)
end
end Y
structure iG (K:PySem.W.Frag) (J:It) (Src:Hp->aL->Prop) (items:List T):Prop where
 step:∀ H B i t,(∀ b,B b->∃ o,H b=some o)->Src H B->items[i]?=some t->J.go i H/\∀ x H2,J.zt i H x H2->bM H H2/\Rep K H2 B x t
 stop:∀ H B,Src H B->J.stop items.length H
theorem iG.imp{K:PySem.W.Frag}{J:It}{Src Src':Hp->aL->Prop}{items:List T}(h:iG K J Src items)(f:∀ H B,Src' H B->Src H B):iG K J Src' items:=⟨fun H B i t hb s e=>h.step H B i t hb (f H B s) e,fun H B s=>h.stop H B (f H B s)⟩
def CT(F:Fx)(ad:Nat->Addr)(Src:Hp->aL->Prop):Option (Nat×List T)->Prop
 | none=>∀ B1 H1 B2 H2,Fr B1 H1 B2 H2->Src H1 B1->Src H2 B2
 | some (j,ls)=>(∀ B' σ' H' μ',Rl F ad B' σ' H' μ'->cont μ' (.br j)=some (.lst ls)->Src H' B')/\∀ B' H',Rep F.K H' B' (.ref (ad j)) (.lst ls)->Src H' B'
noncomputable abbrev UI:=Mu->(List T->Option (Nat×List T)->Mu->Prop)->Prop
def RI(K:PySem.W.Frag)(wi:TI)(ui:UI):Prop:=∀ (F:Fx) (ad:Nat->Addr) (B:aL) (σ:St) (H:Hp) (μ:Mu) (R:It->Hp->Prop) (Rt:List T->Option (Nat×List T)->Mu->Prop),F.K=K->Rl F ad B σ H μ->ui μ Rt ->
 (∀ J H' μ' items gd Src,Rl F ad B σ H' μ'->Fr B H B H'->Kp μ μ'->iG K J Src items->Src H' B->CT F ad Src gd->(∀ j ls,gd=some (j,ls)->cont μ' (.br j)=some (.lst ls))->Rt items gd μ'->R J H')->wi σ H R
structure YI (X:Cx) (tg it:Expr) (u:UI):Prop where
 ex:∃ t,QI X tg it t/\RI X.K t u
theorem sX{K:PySem.W.Frag}{a:Addr}{ts:List T}:iG K (Cs K a) (fun H B=>∃ vs,bK K H a vs/\aj K H B vs ts) ts:=
 ⟨fun H B i t hb ⟨vs,h,r⟩ e=>by
  obtain⟨v,e1,rv⟩:=r.get e;refine⟨⟨vs,v,h,e1⟩,fun x H2 y=>?_⟩;obtain⟨rfl,y⟩:=y;have:=y vs h;rw[e1] at this;cases this;exact⟨bM.refl _,rv⟩,fun H B ⟨vs,h,r⟩=>⟨vs,h,by rw[r.length];exact Nat.le_refl _⟩⟩
theorem AO{K:PySem.W.Frag}{a:Addr}{ts:List T}:iG K (Dt K a) (fun H B=>∃ vs,bu K H a vs/\aj K H B vs ts) ts:=
 ⟨fun H B i t hb ⟨vs,h,r⟩ e=>by
  obtain⟨v,e1,rv⟩:=r.get e;refine⟨⟨vs,v,h,e1⟩,fun x H2 y=>?_⟩;obtain⟨rfl,y⟩:=y;have:=y vs h;rw[e1] at this;cases this;exact⟨bM.refl _,rv⟩,fun H B ⟨vs,h,r⟩=>⟨vs,h,by rw[r.length];exact Nat.le_refl _⟩⟩
def pairs(ts:List T):List T:=(List.range ts.length).map fun i=>.tup [.int (i:Nat),(ts[i]?).getD .aI]
theorem AG{K:PySem.W.Frag}{a:Addr}{ts:List T}:iG K (xm K a) (fun H B=>∃ vs,bu K H a vs/\aj K H B vs ts) (pairs ts):=by
 refine⟨fun H B i t hb ⟨vs,h,r⟩ e=>?_,fun H B ⟨vs,h,r⟩=>⟨vs,h,by rw[r.length];simp[pairs]⟩⟩
 unfold pairs at e;rw[List.getElem?_map] at e;have hi:i < ts.length:=by
  rcases Nat.lt_or_ge i ts.length with z | z
  ·exact z
  ·rw[List.getElem?_eq_none_iff.mpr (by simpa using z)] at e;cases e
 rw[List.getElem?_range hi] at e;have e':T.tup [.int (i:Nat),(ts[i]?).getD .aI]=t:=Option.some.inj e;have et:ts[i]?=some ts[i]:=List.getElem?_eq_getElem hi;obtain⟨v,e1,rv⟩:=r.get et;refine⟨⟨v,vs,h,e1⟩,fun x H2 y=>?_⟩;obtain⟨p,y,hy,hp,rfl,rfl⟩:=y;have:=hy vs h;rw[e1] at this;cases this;subst e';rw[et];refine⟨bM.new hp,.tup (fun z=>?_) af (.cons (.int _) (.cons (rv.fr (Fr.same (bM.new hp))) .nil))⟩;obtain⟨o,q⟩:=hb p z;rw[hp] at q;cases q
theorem vq{K:PySem.W.Frag}{lo:Int}{n:Nat}:iG K (BO lo n) (fun _ _=>True) ((List.range n).map fun k=>T.int (lo+(k:Nat))):=
 ⟨fun H B i t hb _ e=>by
  rw[List.getElem?_map] at e;have hi:i < n:=by
   rcases Nat.lt_or_ge i n with z | z
   ·exact z
   ·rw[List.getElem?_eq_none_iff.mpr (by simpa using z)] at e;cases e
  rw[List.getElem?_range hi] at e;refine⟨hi,fun x H2 y=>?_⟩;obtain⟨rfl,rfl⟩:=y;cases e;exact⟨bM.refl _,.int _⟩,fun H B _=>by simp[BO]⟩
def Fj(K:PySem.W.Frag)(tl:TE):TI:=fun σ H R=>tl σ H fun x H1=>∃ a,x=V.ref a/\(((∃ xs,bK K H1 a xs)/\R (Cs K a) H1)\/((∃ xs,bu K H1 a xs)/\R (Dt K a) H1))
theorem Ad{X:Cx}{tg l:Expr}{tl:TE}(hl:PE X l tl):PI X tg l (Fj X.K tl):=by
 intro pins s σ H R I h;refine bw (hl pins s σ H _ I h) fun v s1 ⟨x,H1,I1,r1,q1⟩=>?_;obtain⟨a,rfl,q⟩:=q1;cases r1;rcases q with ⟨⟨xs,hq⟩,q⟩ | ⟨⟨xs,hq⟩,q⟩
 ·obtain⟨its,rv,p,hz⟩:=I1.list hq;refine wpAny_pyIter_list p.isList ?_;refine⟨s1.heap.objs.size,[s1.heap.objs.size],_,_,H1,rfl,I1.kept (t':=s1.toks) fun b o e=>Heap.get?_push_of_some _ e,rd a _,⟨_,Heap.get?_push_size _ rfl,rfl,rfl⟩,fun b hb=>?_,q⟩;have e:b=s1.heap.objs.size:=by simpa using hb
  subst e;exact I1.lV (Nat.le_refl _) (I1.aE.fresh (Nat.le_refl _))
 ·obtain⟨its,rv,p,hz⟩:=I1.tuple hq;refine wpAny_pyIter_tuple (show s1.heap.IsTuple a its.toArray from p) ?_;refine⟨s1.heap.objs.size,[s1.heap.objs.size],_,_,H1,rfl,I1.kept (t':=s1.toks) fun b o e=>Heap.get?_push_of_some _ e,oG a _,⟨_,Heap.get?_push_size _ rfl,rfl,rfl⟩,fun b hb=>?_,q⟩;have e:b=s1.heap.objs.size:=by simpa using hb
  subst e;exact I1.lV (Nat.le_refl _) (I1.aE.fresh (Nat.le_refl _))
namespace Y
section
variable {X:Cx} {a b c e o tg it:Expr} {es rest:List Expr} {ua ub uc ue uo:UE} {uA uB:UT} {us:UA} {pos pos' p p2 p3:Pos} {x:Str} {st:Stmt} {sts xs ys:List Stmt} {u w:US}
def zm(ue:UE):UI:=fun μ Rt=>ue μ fun r μ'=>match r with
 | .br j=>(match cont μ' (.br j) with | some (.lst ts)=>Rt ts (some (j,ts)) μ' | _=>False)
 | .tr (.lst ts)=>Rt ts none μ'
 | .fr (.lst ts)=>Rt ts none μ'
 | .tr (.tup ts)=>Rt ts none μ'
 | .tr (.d7 ts)=>Rt ts none μ'
 | .tr (.gg ts)=>Rt ts none μ'
 | _=>False
theorem any(K:PySem.W.Frag)(hK:X.K=K)(he:YE X e ue):YI X tg e (zm ue):=by
 obtain⟨t,q,r⟩:=he;subst hK;refine⟨_,⟨Ad q.h⟩,fun F ad B σ H μ R Rt hF l q k=>r F ad B σ H μ _ _ hF l q fun v H' r1 μ' v1 f k1 q1=>?_⟩;have hv:=v1.hv;have l1:=v1.rl;have go:∀ (ts:List T) (a:Addr) (t:T),v=.ref a->Rep F.K H' B (.ref a) t->(t=.lst ts\/t=.d7 ts)->Rt ts none μ'->∃ a,v=V.ref a/\(((∃ xs,bK X.K H' a xs)/\R (Cs X.K a) H')\/((∃ xs,bu X.K H' a xs)/\R (Dt X.K a) H')):=fun ts a t ev rp et q=>by
  have sr:∀ H B,Rep F.K H B (.ref a) t->∃ vs,bK X.K H a vs/\aj X.K H B vs ts:=fun H B h=>by
   rw[hF] at h;rcases et with rfl | rfl
   ·cases h with | lst n h r=>exact⟨_,bK.of h,r⟩
   ·cases h with | d7 h r=>exact⟨_,h.sq,r⟩
  obtain⟨vs,h1,_⟩:=sr _ _ rp;exact⟨a,ev,.inl ⟨⟨vs,h1⟩,k _ H' μ' ts none (fun H B=>Rep F.K H B (.ref a) t) l1 f.d k1 (sX.imp sr) rp (fun B1 H1 B2 H2 f h=>h.fr f) (fun j ls z=>by cases z) q⟩⟩
 have goT:∀ (ts:List T) (a:Addr) (t:T),v=.ref a->Rep F.K H' B (.ref a) t->(t=.tup ts\/t=.gg ts)->Rt ts none μ'->∃ a,v=V.ref a/\(((∃ xs,bK X.K H' a xs)/\R (Cs X.K a) H')\/((∃ xs,bu X.K H' a xs)/\R (Dt X.K a) H')):=fun ts a t ev rp et q=>by
  have sr:∀ H B,Rep F.K H B (.ref a) t->∃ vs,bu X.K H a vs/\aj X.K H B vs ts:=fun H B h=>by
   rw[hF] at h;rcases et with rfl | rfl
   ·cases h with | tup n h r=>exact⟨_,bu.of h,r⟩
   ·cases h with | gg h r=>exact⟨_,.inr h,r⟩
  obtain⟨vs,h1,_⟩:=sr _ _ rp;exact⟨a,ev,.inr ⟨⟨vs,h1⟩,k _ H' μ' ts none (fun H B=>Rep F.K H B (.ref a) t) l1 f.d k1 (AO.imp sr) rp (fun B1 H1 B2 H2 f h=>h.fr f) (fun j ls z=>by cases z) q⟩⟩
 split at q1
 ·rename_i j
  split at q1
  ·rename_i ts e;obtain⟨ev,s,c,e1,e2⟩:=hv;have src:∀ B' σ' H' μ',Rl F ad B' σ' H' μ'->cont μ' (.br j)=some (.lst ts)->∃ vs,bK X.K H' (ad j) vs/\aj X.K H' B' vs ts:=fun B' σ' H' μ' l e=>by
    have e3:(μ'[j]?).bind Sl.box=some (.lst ts):=e
    cases q:μ'[j]? with
    | none=>rw[q] at e3;cases e3
    | some s' =>
     rw[q] at e3;have bx:=((l.slot j s' q).boxed (c:=.lst ts) e3).2.2.1;rw[hF] at bx;obtain⟨vs,h1,h2⟩:=bx;exact⟨vs,bK.of h1,h2⟩
   obtain⟨vs,h1,h2⟩:=src _ _ _ _ l1 e;refine⟨ad j,ev,.inl ⟨⟨vs,h1⟩,k _ H' μ' ts (some (j,ts)) _ l1 f.d k1 sX ⟨vs,h1,h2⟩ ⟨src,fun B' H' h=>?_⟩ (fun j' ls z=>by cases z;exact e) q1⟩⟩
   rw[hF] at h
   cases h with | lst n h r=>exact⟨_,bK.of h,r⟩
  ·exact q1.elim
 ·have rp:Rep F.K H' B v _:=hv
  cases rp with | lst n h r=>exact go _ _ _ rfl (.lst n h r) (.inl rfl) q1
 ·have rp:Rep F.K H' B v _:=hv
  cases rp with | lst n h r=>exact go _ _ _ rfl (.lst n h r) (.inl rfl) q1
 ·have rp:Rep F.K H' B v _:=hv
  cases rp with | tup n h r=>exact goT _ _ _ rfl (.tup n h r) (.inl rfl) q1
 ·have rp:Rep F.K H' B v _:=hv
  cases rp with | d7 h r=>exact go _ _ _ rfl (.d7 h r) (.inr rfl) q1
 ·have rp:Rep F.K H' B v _:=hv
  cases rp with | gg h r=>exact goT _ _ _ rfl (.gg h r) (.inr rfl) q1
 ·exact q1.elim
def EG(us:UA):UI:=fun μ Rt=>us μ fun rs μ'=>match rs with
 | [.tr (.int j)]=>-(2 ^ 62)<=j/\j < 2 ^ 62/\Rt ((List.range j.toNat).map fun k=>T.int (0+(k:Nat))) none μ'
 | _=>False
def Es(us:UA):UI:=fun μ Rt=>us μ fun rs μ'=>match rs with
 | [.tr (.int i),.tr (.int j)]=>(-(2 ^ 62)<=i/\i < 2 ^ 62/\-(2 ^ 62)<=j/\j < 2 ^ 62)/\Rt ((List.range (j - i).toNat).map fun k=>T.int (i+(k:Nat))) none μ'
 | _=>False
theorem nX(hg:Gl X "range")(hm:X.mg "range"=none)(ha:YA X [a] us)(h:bX a=true:=by rfl):YI X tg (.Call (.Name "range" p) [a] [] pos) (EG us):=by
 obtain⟨t,q,r⟩:=ha;refine⟨_,Z.nX hg hm q h,fun F ad B σ H μ R Rt hF l q k=>r F ad B σ H μ _ _ hF l q fun vs H' rs μ' l1 ps f k1 q1=>?_⟩
 split at q1
 ·cases ps with
  | cons h1 ps=>cases ps;cases cu h1;exact⟨_,rfl,q1.1,q1.2.1,k _ H' μ' _ none _ l1 f k1 vq trivial (fun _ _ _ _ _ _=>trivial) (fun j ls z=>by cases z) q1.2.2⟩
 ·exact q1.elim
theorem Ak(hg:Gl X "range")(hm:X.mg "range"=none)(ha:YA X [a,b] us)(h:bX a=true:=by rfl)(h2:bX b=true:=by rfl):YI X tg (.Call (.Name "range" p) [a,b] [] pos) (Es us):=by
 obtain⟨t,q,r⟩:=ha;refine⟨_,Z.Ak hg hm q h h2,fun F ad B σ H μ R Rt hF l q k=>r F ad B σ H μ _ _ hF l q fun vs H' rs μ' l1 ps f k1 q1=>?_⟩
 split at q1
 ·cases ps with
  | cons h1 ps=>cases ps with
   | cons h2 ps=>cases ps;cases cu h1;cases cu h2;exact⟨_,_,rfl,q1.1,k _ H' μ' _ none _ l1 f k1 vq trivial (fun _ _ _ _ _ _=>trivial) (fun j ls z=>by cases z) q1.2⟩
 ·exact q1.elim
def Ez(us:UA):UI:=fun μ Rt=>us μ fun rs μ'=>match rs with
 | [.tr (.tup ts)]=>Rt (pairs ts) none μ'
 | _=>False
theorem enum(K:PySem.W.Frag)(hK:X.K=K){k:Nat}{tp:Pos}(hg:Gl X "enumerate")(hm:X.mg "enumerate"=none)(ha:YA X [e] us)(h1:bX e=true:=by rfl):YI X (.Tuple es k tp) (.Call (.Name "enumerate" p) [e] [] pos) (Ez us):=by
 obtain⟨t,q,r⟩:=ha;refine⟨_,Z.enum K hK hg hm q h1,fun F ad B σ H μ R Rt hF l q k=>r F ad B σ H μ _ _ hF l q fun vs H' rs μ' l1 ps f k1 q1=>?_⟩;have hF':F.K=K:=hF.trans hK
 split at q1
 ·rename_i ts
  cases ps with
  | cons h1 ps =>
   cases ps;have rp:=cu h1
   cases rp with
   | @tup a vs _ n h rr =>
    have sr:∀ H B,Rep F.K H B (.ref a) (.tup ts)->∃ vs,bu X.K H a vs/\aj X.K H B vs ts:=fun H B h=>by
     rw[hF] at h
     cases h with | tup n h r=>exact⟨_,bu.of h,r⟩
    refine⟨a,rfl,⟨vs,bu.of h⟩,?_⟩;have:=k (xm X.K a) H' μ' (pairs ts) none (fun H B=>Rep F.K H B (.ref a) (.tup ts)) l1 f k1 (AG.imp sr) (.tup n h rr) (fun B1 H1 B2 H2 f h=>h.fr f) (fun j ls z=>by cases z) q1
    rw[hK] at this;exact this
 ·exact q1.elim
def eC(g:UG)(body:US)(E:Ed):List T->Mu->Prop
 | [],μ=>E.nx μ
 | t::ts,μ=>g (.tr t) μ fun μ1=>body { E with nx:=eC g body E ts,ct:=eC g body E ts,bk:=E.nx } μ1
def tI(ui:UI)(g:UG)(body:US):US:=fun E μ=>ui μ fun items gd μ'=>match gd with
 | none=>eC g body E items μ'
 | some (j,_)=>(match μ'[j]? with
  | some (.bx c)=>eC g body E items (μ'.set j (.tr c))
  | _=>False)
theorem lP{K:PySem.W.Frag}{g:TG}{ug:UG}{tb:TS}{body:US}{F:Fx}{D:Ends}{E:Ed}{J:It}{Src:Hp->aL->Prop}{items:List T}{B0:aL}{H0:Hp}(hF:F.K=K)(hg:RG K g ug)(hb:RS K tb body)(it:iG K J Src items)
  (pe:∀ B1 H1 B2 H2,Fr B1 H1 B2 H2->Src H1 B1->Src H2 B2) (hE:nv F B0 H0 D E) {ad:Nat->Addr} {B:aL} {σ:St} {H:Hp} {μ:Mu} (l:Rl F ad B σ H μ) (f:Fr B0 H0 B H) (sr:Src H B) (q:eC ug body E items μ) :
  ∃ W:Nat->Nat->St->Hp->Prop,(∃ m,W 0 m σ H)/\∀ i m σ H,W i m σ H ->
   (J.stop i H/\D.nx σ H)\/(J.go i H/\∃ N:St->Hp->Prop,(∀ σ' H',N σ' H'->∃ m',m' < m/\W (i+1) m' σ' H')/\∀ x H',J.zt i H x H'->g x σ H' fun σ2 H2=>tb { D with nx:=N,ct:=N,bk:=D.nx } σ2 H2):=by
 refine⟨fun i m σ H=>m=items.length - i/\i<=items.length/\∃ ad B μ,Rl F ad B σ H μ/\Fr B0 H0 B H/\Src H B/\eC ug body E (items.drop i) μ,⟨items.length,by simp,Nat.zero_le _,ad,B,μ,l,f,sr,q⟩,?_⟩
 rintro i m σ H ⟨rfl,hi,ad,B,μ,l,f,sr,q⟩;by_cases hlt:i < items.length
 ·have ei:items[i]?=some items[i]:=List.getElem?_eq_getElem hlt;rw[List.drop_eq_getElem_cons hlt] at q;obtain⟨go,yl⟩:=it.step H B i _ l.er sr ei;refine .inr ⟨go,fun σ' H'=>∃ ad' B' μ',Rl F ad' B' σ' H' μ'/\Fr B0 H0 B' H'/\Src H' B'/\eC ug body E (items.drop (i+1)) μ',fun σ' H' h=>⟨items.length - (i+1),by lia,rfl,hlt,h⟩,fun x H2 y=>?_⟩
  obtain⟨sm,rp⟩:=yl x H2 y;refine hg F ad B σ H2 μ x (.tr _) B H2 _ _ hF ⟨l.same sm,by show Rep F.K H2 B x _;rw[hF];exact rp⟩ Fr.refl q fun ad3 B3 σ3 H3 μ3 l3 f3 q3=>?_
  have f03:Fr B0 H0 B3 H3:=(f.trans (Fr.same sm)).trans f3;have s3:Src H3 B3:=pe _ _ _ _ ((Fr.same sm).trans f3) sr;exact hb F _ _ ad3 B3 σ3 H3 μ3 hF l3 q3 ⟨fun ad' B' σ' H' μ' l' f' q'=>⟨ad',B',μ',l',f03.trans f',pe _ _ _ _ f' s3,q'⟩,hE.rt,fun ad' B' σ' H' μ' l' f' q'=>hE.nx ad' B' σ' H' μ' l' (f03.trans f') q',fun ad' B' σ' H' μ' l' f' q'=>⟨ad',B',μ',l',f03.trans f',pe _ _ _ _ f' s3,q'⟩⟩
 ·have e:i=items.length:=by lia
  subst e;rw[List.drop_length] at q;exact .inl ⟨it.stop H B sr,hE.nx ad B σ H μ l f q⟩
theorem gF{ui:UI}{g:UG}(hp:PassesOwn (model X.prog X.w) X.A X.env X.xe)(hc:X.calm=true)(hi:YI X tg it ui)(hg:YG X tg g)(hb:YB X xs u)(hs:∀ x,foldedSetIterable it X.env x=pure x:=by intro _;rfl):YS X (.For tg it xs [] pos) (tI ui g u):=by
 obtain⟨ti,qi,ri⟩:=hi;obtain⟨tg',qg,rg⟩:=hg;obtain⟨t,q,r⟩:=hb;refine⟨_,Z.gF hp hc qi qg q hs,fun F D E ad B σ H μ hF l q h=>ri F ad B σ H μ _ _ hF l q fun J H' μ' items gd Src l1 f1 k1 it sr so gok q1=>?_⟩
 split at q1
 ·exact lP hF rg r it so h l1 f1 sr q1
 ·rename_i j ls
  split at q1
  ·rename_i c ej;have bx:=l1.slot j _ ej;have hc:¬ F.Bc (ad j):=fun z=>by
    obtain⟨o,e⟩:=F.bh _ z;rw[bx.2.2.1] at e;cases e
   obtain⟨l2,rp⟩:=l1.freeze ej hc;have ec:c=.lst ls:=by
    have:=gok j ls rfl;have e2:(μ'[j]?).bind Sl.box=some (.lst ls):=this;rw[ej] at e2;exact Option.some.inj e2
   subst ec;exact lP (Src:=fun H B=>Rep F.K H B (.ref (ad j)) (.lst ls)) hF rg r (it.imp fun H B h=>so.2 B H h) (fun B1 H1 B2 H2 f h=>h.fr f) h l2 (f1.trans (Fr.less fun b z=>z.1)) rp q1
  ·exact q1.elim
def AZ(c:UT)(body:US):US:=fun E μ=>∃ I:Nat->Mu->Prop,(∃ m,I m μ)/\∀ m μ,I m μ->c μ fun b μ'=>if b=true then body { E with nx:=fun μ2=>∃ m',m' < m/\I m' μ2,ct:=fun μ2=>∃ m',m' < m/\I m' μ2,bk:=E.nx } μ' else E.nx μ'
theorem kr(hp:PassesOwn (model X.prog X.w) X.A X.env X.xe)(hc:YT X c uA)(hb:YB X xs u):YS X (.While c xs [] pos) (AZ uA u):=by
 obtain⟨tc,qc,rc⟩:=hc;obtain⟨t,q,r⟩:=hb;refine⟨_,Z.kr hp qc q,fun F D E ad B σ H μ hF l q h=>?_⟩;obtain⟨I,⟨m0,i0⟩,turn⟩:=q;refine⟨fun m σ' H'=>∃ ad' B' μ',Rl F ad' B' σ' H' μ'/\Fr B H B' H'/\I m μ',⟨m0,ad,B,μ,l,Fr.refl,i0⟩,?_⟩;rintro m σ1 H1 ⟨ad1,B1,μ1,l1,f1,i1⟩;refine rc F ad1 B1 σ1 H1 μ1 _ _ hF l1 (turn m μ1 i1) fun b H2 μ2 l2 f2 k2 q2=>?_
 cases b with
 | true =>
  rw[if_pos rfl] at q2 ⊢;refine⟨fun σ' H'=>∃ m',m' < m/\∃ ad' B' μ',Rl F ad' B' σ' H' μ'/\Fr B H B' H'/\I m' μ',fun σ' H' h=>h,?_⟩;have hn:∀ ad' B' σ' H' μ',Rl F ad' B' σ' H' μ'->Fr B1 H2 B' H'->(∃ m',m' < m/\I m' μ')->∃ m',m' < m/\∃ ad' B' μ',Rl F ad' B' σ' H' μ'/\Fr B H B' H'/\I m' μ':=fun ad' B' σ' H' μ' l' f' ⟨m',hm,i'⟩=>⟨m',hm,ad',B',μ',l',(f1.trans f2).trans f',i'⟩;exact r F _ _ ad1 B1 σ1 H2 μ2 hF l2 q2 ⟨hn,h.rt,fun ad' B' σ' H' μ' l' f' q'=>h.nx ad' B' σ' H' μ' l' ((f1.trans f2).trans f') q',hn⟩
 | false =>
  rw[if_neg Bool.false_ne_true] at q2 ⊢;exact h.nx ad1 B1 σ1 H2 μ2 l2 (f1.trans f2) q2
end
end Y
def tJ(K:PySem.W.Frag)(u:UE):TE:=fun σ H Q=>∃ (F:Fx) (ad:Nat->Addr) (B:aL) (μ:Mu) (Qt:R->Mu->Prop),F.K=K/\Rl F ad B σ H μ/\u μ Qt/\∀ v H' r μ',Vr F ad B σ H' μ' v r->Fr B H (Bv B v r) H'->Kp μ μ'->Qt r μ'->Q v H'
def vQ(K:PySem.W.Frag)(u:UT):TT:=fun σ H Q=>∃ (F:Fx) (ad:Nat->Addr) (B:aL) (μ:Mu) (Qt:Bool->Mu->Prop),F.K=K/\Rl F ad B σ H μ/\u μ Qt/\∀ b H' μ',Rl F ad B σ H' μ'->Fr B H B H'->Kp μ μ'->Qt b μ'->Q b H'
theorem YE.AJ{X:Cx}{e:Expr}{u:UE}(h:YE X e u):QE X e (tJ X.K u):=⟨fun pins s σ H Q I hh=>by
 obtain⟨F,ad,B,μ,Qt,hF,l,q,k⟩:=hh;obtain⟨t,qe,r⟩:=h;exact qe.h pins s σ H Q I (r F ad B σ H μ Q Qt hF l q k)⟩
theorem Ca.AJ{X:Cx}{e:List Expr}{u:UT}(h:Ca X e u):BY X e (vQ X.K u):=⟨fun pins s σ H Q I hh=>by
 obtain⟨F,ad,B,μ,Qt,hF,l,q,k⟩:=hh;obtain⟨t,qe,r⟩:=h;exact qe.h pins s σ H Q I (r F ad B σ H μ Q Qt hF l q k)⟩
theorem vJ{K:PySem.W.Frag}{u:UE}:RE K (tJ K u) u:=fun F ad B σ H μ Q Qt hF l q k=>⟨F,ad,B,μ,Qt,hF,l,q,k⟩
theorem uz{K:PySem.W.Frag}{u:UT}:RT K (vQ K u) u:=fun F ad B σ H μ Q Qt hF l q k=>⟨F,ad,B,μ,Qt,hF,l,q,k⟩
def Fx.sh(F:Fx):Fx:={ F with P:=fun i=>match i with | 0=>none | i+1=>F.P i }
def Ck(ad:Nat->Addr):Nat->Addr:=fun i=>match i with | 0=>0 | i+1=>ad i
theorem Rl.push{F:Fx}{ad:Nat->Addr}{B:aL}{σ:St}{H:Hp}{μ:Mu}{x:V}{t:T}(l:Rl F ad B σ H μ)(h:Rep F.K H B x t):Rl F.sh (Ck ad) B (some x::σ) H (.tr t::μ):=by
 refine⟨congrArg (·+1) l.len,fun i s e=>?_,fun i j s u c d e1 e2 b1 b2 q=>?_,fun i a p=>?_,l.bc,l.er,fun b o e n=>l.old b o e fun i z=>n (i+1) z,fun a ws ga=>?_⟩
 ·cases i with
  | zero =>
   have e':Sl.tr t=s:=by simpa using e
   subst e';exact⟨x,rfl,h⟩
  | succ i=>exact l.slot i s (by simpa using e)
 ·cases i with
  | zero =>
   have e':Sl.tr t=s:=by simpa using e1
   subst e';cases b1
  | succ i=>cases j with
   | zero =>
    have e':Sl.tr t=u:=by simpa using e2
    subst e';cases b2
   | succ j=>exact congrArg (·+1) (l.inj i j s u c d (by simpa using e1) (by simpa using e2) b1 b2 q)
 ·cases i with
  | zero=>cases p
  | succ i=>obtain⟨⟨c,e⟩,z⟩:=l.par i a p;exact⟨⟨c,by simpa using e⟩,z⟩
 ·obtain⟨g1,g2,g3⟩:=l.gh a ws ga;refine⟨g1,g2,fun i s c e b=>?_⟩
  cases i with
  | zero =>
   have e':Sl.tr t=s:=by simpa using e
   subst e';cases b
  | succ i=>exact g3 i s c (by simpa using e) b
theorem Rl.zL{F:Fx}{ad:Nat->Addr}{B:aL}{σ:St}{H:Hp}{μ:Mu}{y:Option V}(l:Rl F.sh (Ck ad) B (y::σ) H μ):Rl F ad B σ H μ.tail:=by
 have get:∀ i,μ.tail[i]?=μ[i+1]?:=fun i=>by cases μ<;>simp
 refine⟨?_,fun i s e=>?_,fun i j s u c d e1 e2 b1 b2 q=>?_,fun i a p=>?_,l.bc,l.er,fun b o e n=>l.old b o e fun i z=>?_,fun a ws ga=>let ⟨g1,g2,g3⟩:=l.gh a ws ga;⟨g1,g2,fun i s c e b=>g3 (i+1) s c (by rw[<- get];exact e) b⟩⟩
 ·have:=l.len;rw[List.length_tail,this];rfl
 ·rw[get] at e;exact l.slot (i+1) s e
 ·rw[get] at e1 e2;exact Nat.succ.inj (l.inj (i+1) (j+1) s u c d e1 e2 b1 b2 q)
 ·obtain⟨⟨c,e⟩,z⟩:=l.par (i+1) a p;exact⟨⟨c,by rw[get];exact e⟩,z⟩
 ·cases i with
  | zero=>cases z
  | succ i=>exact n i z
theorem Kp.tail{μ μ':Mu}{s:Sl}(k:Kp (s::μ) μ'):Kp μ μ'.tail:=fun i=>by
 have:=k (i+1);rw[List.getElem?_cons_succ] at this;rw[this]
 cases μ'<;>simp
def Fx.g(F:Fx)(D:Addr)(ys:List V):Fx:={ F with G:=fun b=>if b=D then some ys else F.G b }
section
variable {F:Fx} {ad:Nat->Addr} {B:aL} {σ:St} {H:Hp} {μ:Mu} {D:Addr} {ys zs:List V}
theorem Rl.ES(l:Rl F ad B σ H μ)(h:H D=some (.lst ys))(hb:B D)(n:∀ (i:Nat) (s:Sl) (c:T),μ[i]?=some s->s.box=some c->ad i≠D):Rl (F.g D ys) ad B σ H μ:=by
 refine⟨l.len,l.slot,l.inj,l.par,l.bc,l.er,l.old,fun a vs e=>?_⟩;have e':(if a=D then some ys else F.G a)=some vs:=e
 by_cases z:a=D
 ·rw[if_pos z] at e';cases e';subst z;exact⟨h,hb,n⟩
 ·rw[if_neg z] at e';exact l.gh a vs e'
theorem Rl.FD(l:Rl (F.g D ys) ad B σ H μ):H D=some (.lst ys)/\B D/\∀ (i:Nat) (s:Sl) (c:T),μ[i]?=some s->s.box=some c->ad i≠D:=l.gh D ys (show (if D=D then some ys else F.G D)=some ys from if_pos rfl)
theorem Rl.yD(l:Rl (F.g D ys) ad B σ H μ)(hg:F.G D=none):Rl F ad B σ H μ:=by
 refine⟨l.len,l.slot,l.inj,l.par,l.bc,l.er,l.old,fun a vs e=>l.gh a vs ?_⟩;show (if a=D then some ys else F.G a)=some vs
 rw[if_neg (by rintro rfl;rw[hg] at e;cases e)]
 exact e
theorem Rl.setG(l:Rl (F.g D ys) ad B σ H μ)(h0:F.H0 D=none):Rl (F.g D zs) ad B σ (upd H D (.lst zs)) μ:=by
 obtain⟨g1,g2,g3⟩:=l.FD;have f:Fr B H B (upd H D (.lst zs)):=Fr.set g2;refine⟨l.len,fun i s e=>?_,l.inj,l.par,l.bc,fun b z=>?_,fun b o e n=>?_,fun a vs e=>?_⟩
 ·have k:=l.slot i s e;unfold gD at k ⊢
  split at k
  ·trivial
  ·obtain⟨v,e1,r1⟩:=k;exact⟨v,e1,r1.fr f⟩
  ·obtain⟨e1,b,z0,p,x⟩:=k;exact⟨e1,b,z0,p,x.of (ae (g3 i _ _ e rfl)) f⟩
  ·obtain⟨e1,b,p,x⟩:=k;exact⟨e1,b,p,x.of (ae (g3 i _ _ e rfl)) f⟩
 ·by_cases z':b=D
  ·subst z';exact⟨_,af⟩
  ·rw[ae z'];exact l.er b z
 ·rw[ae (by rintro rfl;have e':F.H0 _=some o:=e;rw[h0] at e';cases e')]
  exact l.old b o e n
 ·have e':(if a=D then some zs else F.G a)=some vs:=e
  by_cases z:a=D
  ·rw[if_pos z] at e';cases e';subst z;exact⟨af,g2,g3⟩
  ·rw[if_neg z] at e';obtain⟨a1,a2,a3⟩:=l.gh a vs (show (if a=D then some ys else F.G a)=some vs by rw[if_neg z];exact e')
   exact⟨by rw[ae z];exact a1,a2,a3⟩
end
namespace Y
def D0:Option (Nat×List T)->Mu->Prop
 | none,_=>True
 | some (j,ls),μ=>cont μ (.br j)=some (.lst ls)
def nL(gd:Option (Nat×List T))(own:T->Mu->Option Mu)(dr:Mu->Mu)(ut:UT)(ue:UE)(Q:R->Mu->Prop):List T->List T->Mu->Prop
 | [],acc,μ=>D0 gd μ/\Q (.fr (.lst acc)) μ
 | t::r,acc,μ=>D0 gd μ/\acc.length < sizeLine/\(match own t μ with
  | none=>False
  | some μ1=>ut μ1 fun b μ2=>if b=true then ue μ2 fun rr μ3=>(match rr.d with
    | .tr t'=>nL gd own dr ut ue Q r (acc++[t']) (dr μ3)
    | _=>False) else nL gd own dr ut ue Q r acc (dr μ2))
def BL(t:T)(μ:Mu):Option Mu:=some (.tr t::μ)
def rO(t:T)(μ:Mu):Option Mu:=match t with
 | .tup [a,b]=>some (.tr a::.tr b::μ)
 | _=>none
def FI(μ:Mu):Mu:=μ.tail
def E8(μ:Mu):Mu:=μ.tail.tail
def i6(own:T->Mu->Option Mu)(dr:Mu->Mu)(ui:UI)(ut:UT)(ue:UE):UE:=fun μ Q=>ui μ fun items gd μ'=>nL gd own dr ut ue Q items [] μ'
structure sV (K:PySem.W.Frag) (k:Nat) (g:TG) (own:T->Mu->Option Mu) (dr:Mu->Mu) (shF:Fx->Fx) (shA:(Nat->Addr)->Nat->Addr):Prop where
 fK:∀ F,(shF F).K=F.K
 step:∀ (F:Fx) (ad:Nat->Addr) (B:aL) (σ:St) (H:Hp) (μ μ1:Mu) (x:V) (t:T) (σ':St) (Q:St->Hp->Prop),F.K=K->Rl F ad B σ H μ->Rep F.K H B x t->own t μ=some μ1->σ'.length=k->(∀ σ1,σ1.length=k->Rl (shF F) (shA ad) B (σ1++σ) H μ1->Q (σ1++σ) H)->g x (σ'++σ) H Q
 back:∀ (F:Fx) (ad:Nat->Addr) (B:aL) (σ σ1:St) (H:Hp) (μ:Mu),σ1.length=k->Rl (shF F) (shA ad) B (σ1++σ) H μ->Rl F ad B σ H (dr μ)
 kp:∀ (μ μ1 μ2:Mu) (t:T),own t μ=some μ1->Kp μ1 μ2->Kp μ (dr μ2)
theorem iP{α:Type _}{l:List α}(h:l.length=1):∃ y,l=[y]:=by
 rcases l with _ | ⟨a,_ | ⟨b,t⟩⟩
 ·cases h
 ·exact⟨a,rfl⟩
 ·cases h
theorem fC{α:Type _}{l:List α}(h:l.length=2):∃ y z,l=[y,z]:=by
 rcases l with _ | ⟨a,t⟩
 ·cases h
 ·obtain⟨b,rfl⟩:=iP (Nat.succ.inj h);exact⟨a,b,rfl⟩
theorem zO{α:Type _}{l:List α}(h:l.length=3):∃ x y z,l=[x,y,z]:=by
 rcases l with _ | ⟨a,t⟩
 ·cases h
 ·obtain⟨b,c,rfl⟩:=fC (Nat.succ.inj h);exact⟨a,b,c,rfl⟩
theorem wV{K:PySem.W.Frag}:sV K 1 (bO 0) BL FI Fx.sh Ck where
 fK:=fun F=>rfl
 step:=fun F ad B σ H μ μ1 x t σ' Q hF l r e hk h=>by
  cases e;obtain⟨y,rfl⟩:∃ y,σ'=[y]:=by
   exact iP hk
  exact h [some x] rfl (l.push r)
 back:=fun F ad B σ σ1 H μ hk l=>by
  obtain⟨y,rfl⟩:∃ y,σ1=[y]:=by
   exact iP hk
  exact l.zL
 kp:=fun μ μ1 μ2 t e k=>by cases e;exact k.tail
theorem oU{K:PySem.W.Frag}:sV K 2 (mS K 2 (dR (bO 0) (dR (bO 1) m8))) rO E8 (fun F=>F.sh.sh) (fun ad=>Ck (Ck ad)) where
 fK:=fun F=>rfl
 step:=fun F ad B σ H μ μ1 x t σ' Q hF l r e hk h=>by
  unfold rO at e
  split at e
  ·rename_i a b;cases e;obtain⟨y,z,rfl⟩:∃ y z,σ'=[y,z]:=by
    exact fC hk
   cases r with
   | tup n hh rr =>
    cases rr with
    | cons r1 rr=>cases rr with
     | cons r2 rr =>
      cases rr;exact⟨_,_,rfl,bu.of hh,rfl,_,_,rfl,_,_,rfl,rfl,h [some _,some _] rfl ((l.push r2).push (F:=F.sh) r1)⟩
  ·cases e
 back:=fun F ad B σ σ1 H μ hk l=>by
  obtain⟨y,z,rfl⟩:∃ y z,σ1=[y,z]:=by
   exact fC hk
  exact (Rl.zL (F:=F.sh) l).zL
 kp:=fun μ μ1 μ2 t e k=>by
  unfold rO at e
  split at e
  ·cases e;exact k.tail.tail
  ·cases e
theorem kl{K:PySem.W.Frag}{k:Nat}{g:TG}{own:T->Mu->Option Mu}{dr:Mu->Mu}{shF:Fx->Fx}{shA:(Nat->Addr)->Nat->Addr}{wi:TI}{ui:UI}{tc:TT}{ut:UT}{te:TE}{ue:UE}(O:sV K k g own dr shF shA)(hi:RI K wi ui)(ht:RT K tc ut)(he:RE K te ue):RE K (hU wi k g tc te) (i6 own dr ui ut ue):=by
 intro F ad B σ H μ Q Qt hF l q kk;refine hi F ad B σ H μ _ _ hF l q fun J H1 μ1 items gd Src l1 f1 k1 it sr so gk q1=>?_;intro D hD;have hnB:=l1.m5 hD;have h0D:=l1.xv hD;have hGD:F.G D=none:=by
  cases q:F.G D with
  | none=>rfl
  | some vs=>have:=(l1.gh D vs q).1;rw[hD] at this;cases this
 have nbx:∀ (μ':Mu),Kp μ μ'->∀ (i:Nat) (s:Sl) (c:T),μ'[i]?=some s->s.box=some c->B (ad i):=fun μ' k i s c e b=>by
  obtain⟨s',c',e',b'⟩:=k.symm.fwd i s c e b;exact l.own i s' c' e' b'
 refine⟨fun i m ys σ' H'=>m=items.length - i/\i<=items.length/\∃ σ1 μ' acc,σ'=σ1++σ/\σ1.length=k/\Rl (F.g D ys) ad (more B D) σ H' μ'/\aj F.K H' (more B D) ys acc/\Fr B H (more B D) H'/\Kp μ μ'/\(gd=none->Src H' (more B D))/\nL gd own dr ut ue Qt (items.drop i) acc μ',
  ⟨items.length,by simp,Nat.zero_le _,_,μ1,[],rfl,List.length_replicate,(l1.new hD).ES af (.inl rfl) (fun i s c e b z=>hnB (z ▸ nbx μ1 k1 i s c e b)),.nil,f1.trans (Fr.more hD),k1,fun z=>?_,q1⟩,?_⟩
 ·subst z;exact so _ _ _ _ (Fr.more hD) sr
 rintro i m ys σ' H' ⟨rfl,hi',σ1,μ',acc,rfl,hk,l2,ra,f2,k2,s2,q2⟩;have hD2:=l2.FD.1;refine⟨hD2,?_⟩;have src:D0 gd μ'->Src H' (more B D):=fun hg=>by
  cases gd with
  | none=>exact s2 rfl
  | some jl=>obtain⟨j,ls⟩:=jl;exact so.1 _ _ _ _ (l2.yD hGD) hg
 by_cases hlt:i < items.length
 ·have ei:items[i]?=some items[i]:=List.getElem?_eq_getElem hlt;rw[List.drop_eq_getElem_cons hlt] at q2;obtain⟨hg,hz,q2⟩:=q2;have sr2:=src hg;obtain⟨go,yl⟩:=it.step H' (more B D) i _ l2.er sr2 ei;refine .inr ⟨go,by rw[ra.length];exact hz,fun x H3 y=>?_⟩
  obtain⟨sm,rp⟩:=yl x H3 y
  split at q2
  ·exact q2.elim
  ·rename_i μ3 eo;have f3:Fr (more B D) H' (more B D) H3:=Fr.same sm;have hF2:(F.g D ys).K=K:=hF;refine O.step (F.g D ys) ad (more B D) σ H3 μ' μ3 x _ σ1 _ hF2 (l2.same sm) (by rw[hF2];exact rp) eo hk fun σ4 hk4 l4=>?_
   refine ht (shF (F.g D ys)) (shA ad) (more B D) _ H3 μ3 _ _ ((O.fK _).trans hF2) l4 q2 fun b H5 μ5 l5 f5 k5 q5=>?_
   cases b with
   | true =>
    rw[if_pos rfl] at q5 ⊢;refine he (shF (F.g D ys)) (shA ad) (more B D) _ H5 μ5 _ _ ((O.fK _).trans hF2) l5 q5 fun v H6 r6 μ6 v6 f6 k6 q6=>?_;have l6:=O.back (F.g D ys) ad (more B D) σ σ4 H6 μ6 hk4 v6.rl;refine⟨l6.FD.1,?_⟩;have hv:=v6.hv
    split at q6
    ·rename_i t' e6;rw[e6] at hv;have rv:Rep F.K H6 (more B D) v t':=by have:=hv;unfold Hv at this;rw[O.fK] at this;exact this
     have fa:=(f3.trans f5).trans f6.d;have fs:Fr (more B D) H6 (more B D) (upd H6 D (.lst (ys++[v]))):=Fr.set (.inl rfl);refine⟨items.length - (i+1),by lia,rfl,hlt,σ4,dr μ6,acc++[t'],rfl,hk4,l6.setG h0D,((ra.fr fa).append (.cons rv .nil)).fr fs,(f2.trans fa).trans fs,k2.trans (O.kp μ' μ3 μ6 _ eo (k5.trans k6)),fun z=>?_,q6⟩
     subst z;exact so _ _ _ _ (fa.trans fs) (s2 rfl)
    ·exact q6.elim
   | false =>
    rw[if_neg Bool.false_ne_true] at q5 ⊢;have l6:=O.back (F.g D ys) ad (more B D) σ σ4 H5 μ5 hk4 l5;have fa:=f3.trans f5;refine⟨items.length - (i+1),by lia,rfl,hlt,σ4,dr μ5,acc,rfl,hk4,l6,ra.fr fa,f2.trans fa,k2.trans (O.kp μ' μ3 μ5 _ eo k5),fun z=>?_,q5⟩
    subst z;exact so _ _ _ _ fa (s2 rfl)
 ·have e:i=items.length:=by lia
  subst e;rw[List.drop_length] at q2;obtain⟨hg,q2⟩:=q2;have l3:=l2.yD hGD;refine .inl ⟨it.stop H' (more B D) (src hg),kk (.ref D) H' (.fr (.lst acc)) μ' ⟨l3.less (fun b z=>.inr z) l.bc (nbx μ' k2) (fun a vs ga=>?_),D,rfl,hnB,h0D,l3,ys,hD2,ra⟩ f2 k2 q2⟩;exact l.gB a vs ga
section
variable {X:Cx} {elt tg iter:Expr} {ifs:List Expr} {ue:UE} {ut:UT} {ui:UI} {pos pos' p2:Pos} {x:Str} {osc scope:Scope} {ON own N:List Str}
theorem u_(S:bT osc ON scope own N)(hosc:X.env.scope=osc)(hON:X.N=ON)(hc:X.calm=true)(ho:own.length=1)(hi:YI X tg iter ui)
  (hg:∀ C s H fp,QG (aB X scope N C s H fp) tg (bO 0)) (ht:∀ C s H fp,Ca (aB X scope N C s H fp) ifs ut) (he:∀ C s H fp,YE (aB X scope N C s H fp) elt ue) (hs:∀ x,foldedSetIterable iter X.env x=pure x:=by intro _;rfl) :
  YE X (.ListComp elt [⟨tg,iter,ifs,0⟩] scope pos) (i6 BL FI ui ut ue):=by
 obtain⟨t,q,r⟩:=hi;have h:=Z.comp (pos:=pos) (tc:=vQ X.K ut) (te:=tJ X.K ue) S hosc hON hc q hg (fun C s H fp=>(ht C s H fp).AJ) (fun C s H fp=>(he C s H fp).AJ) hs;rw[ho] at h;exact⟨_,h,kl wV r uz vJ⟩
theorem u6(K:PySem.W.Frag)(hK:X.K=K)(S:bT osc ON scope own N)(hosc:X.env.scope=osc)(hON:X.N=ON)(hc:X.calm=true)(ho:own.length=2)(hi:YI X tg iter ui)
  (hg:∀ C s H fp,QG (aB X scope N C s H fp) tg (mS K 2 (dR (bO 0) (dR (bO 1) m8)))) (ht:∀ C s H fp,Ca (aB X scope N C s H fp) ifs ut) (he:∀ C s H fp,YE (aB X scope N C s H fp) elt ue) (hs:∀ x,foldedSetIterable iter X.env x=pure x:=by intro _;rfl) :
  YE X (.ListComp elt [⟨tg,iter,ifs,0⟩] scope pos) (i6 rO E8 ui ut ue):=by
 obtain⟨t,q,r⟩:=hi;subst hK;have h:=Z.comp (pos:=pos) (tc:=vQ X.K ut) (te:=tJ X.K ue) S hosc hON hc q hg (fun C s H fp=>(ht C s H fp).AJ) (fun C s H fp=>(he C s H fp).AJ) hs;rw[ho] at h;exact⟨_,h,kl oU r uz vJ⟩
theorem xn:Ca X [] (fun μ Q=>Q true μ):=⟨_,Z.xn,fun F ad B σ H μ Q Qt hK l q k=>k true H μ l Fr.refl (Kp.refl μ) q⟩
end
end Y
def dv(μ:Mu)(j:Nat)(c:T):Mu:=match μ[j]? with
 | some s=>μ.set j (s.put c)
 | none=>μ
namespace Y
section
variable {X:Cx} {a b c e o tg it i:Expr} {es rest:List Expr} {ua ub uc ue uo ui:UE} {uA uB:UT} {us:UA} {pos pos' p p2 p3 apos:Pos} {x:Str} {st:Stmt} {sts xs ys:List Stmt} {u w:US}
def gS(uo ui:UE):UG:=fun r μ Q=>match r.d with
 | .tr t=>uo μ fun ro μ1=>ui μ1 fun ri μ2=>(match ro,ri with
  | .br j,.tr (.int k)=>(match (μ2[j]?).bind Sl.box with
   | some (.lst ts)=>(match kU ts.length k with
    | some n=>Q (dv μ2 j (.lst (ts.set n t)))
    | none=>False)
   | _=>False)
  | _,_=>False)
 | _=>False
theorem og(ho:YE X o uo)(hi:YE X i ui)
  (ha:∀ v,assign (.Subscript o i pos) X.env v=(do
   let ov <- holding [v] (eval o X.env)
   let iv <- holding [v,ov] (eval i X.env)
   standAt pos
   holding [v,ov,iv] (setItem ov iv v)
   release [v,ov,iv] []):=by intro _;rfl):YG X (.Subscript o i pos) (gS uo ui):=by
 obtain⟨t,q,r⟩:=ho;obtain⟨t',q',r'⟩:=hi;refine⟨_,Z.og q q' ha,fun F ad B σ H μ v rr B0 H0 Q Qt hF h f q k=>?_⟩;unfold gS at q;have f0:Fr B0 H0 B H:=fun b o h n=>⟨(f b o h n).1,fun z=>(f b o h n).2 (by cases rr<;>first | exact z | (cases v<;>first | exact z | exact .inr z))⟩
 have hv:=h.hv
 split at q
 ·rename_i t0 e0;rw[e0] at hv;refine r F ad B σ H μ _ _ hF h.rl q fun ov H1 r1 μ1 v1 f1 k1 q1=>r' F ad B σ H1 μ1 _ _ hF v1.rl q1 fun iv H2 r2 μ2 v2 f2 k2 q2=>?_
  split at q2
  ·rename_i j kk;have rp:=v2.2;cases rp;obtain⟨rfl,_⟩:=(v1.hv.fr f2.d k2)
   split at q2
   ·rename_i ts e
    split at q2
    ·rename_i n en
     cases ej:μ2[j]? with
     | none=>rw[ej] at e;cases e
     | some s =>
      rw[ej] at e;have e':s.box=some (.lst ts):=e;have l2:=v2.rl;obtain⟨vs,hl,rs⟩:=((l2.slot j s ej).boxed e').2.2.1;have rv:Rep F.K H2 B v t0:=(show Rep F.K H B v t0 from hv).fr (f1.d.trans f2.d);have l3:=l2.put ej e' (rs.set n rv);show t_ (.ref (ad j)) (.int kk) v H2 _;rw[Ap.setRef,hl];simp only;rw[rs.length,en];simp only;unfold dv at q2;rw[ej] at q2;exact k ad B σ _ _ l3 ((f0.trans (f1.d.trans f2.d)).trans (Fr.set ((l2.slot j s ej).boxed e').2.1)) q2
    ·exact q2.elim
   ·exact q2.elim
  ·exact q2.elim
 ·exact q.elim
noncomputable abbrev UM:=Nat->List R->Mu->(R->Mu->Prop)->Prop
def ED:Option T->Prop->Prop
 | some (.lst _),p=>p
 | _,_=>False
def E1(um:UM)(uo:UE)(us:UA):UE:=fun μ Q=>uo μ fun ro μ1=>match ro with
 | .br j=>ED ((μ1[j]?).bind Sl.box) (us μ1 fun rs μ2=>um j rs μ2 Q)
 | _=>False
def RM(K:PySem.W.Frag)(r:V->List V->Hp->VK->Prop)(um:UM):Prop:=∀ (F:Fx) (ad:Nat->Addr) (B:aL) (σ:St) (H:Hp) (μ:Mu) (Q:VK) (Qt:R->Mu->Prop) (j:Nat) (s:Sl) (c:T) (xs:List V) (rs:List R),F.K=K->Rl F ad B σ H μ->μ[j]?=some s->s.box=some c->Paired (Hv F ad B H μ) xs rs->um j rs μ Qt ->
 (∀ v H' r μ',Vr F ad B σ H' μ' v r->Fr B H (Bv B v r) H'->Kp μ μ'->Qt r μ'->Q v H')->r (.ref (ad j)) xs H Q
theorem bm(K:PySem.W.Frag)(hK:X.K=K){name:Str}{id:String}{r:V->List V->Hp->VK->Prop}{um:UM}(slot:Slot "list" name id)(hty:typeOf (.builtin id)=pure (.type "method_descriptor"))(hm:CL X id r)(hr:RM X.K r um)(ho:YE X o uo)(ha:YA X (e::es) us)
  (hbase:attributeBase o name X.env (eval o X.env)=eval o X.env:=by rfl) (hline:(apos.endLine == pos.line)=true:=by rfl) (h:(e::es).all bX=true:=by rfl) (hl:(e::es).length < 30:=by decide):YE X (.Call (.Attribute o name apos) (e::es) [] pos) (E1 um uo us):=by
 obtain⟨t,q,rr⟩:=ho;obtain⟨t',q',r'⟩:=ha;refine⟨_,Z.bm K hK PySem.F.plainAttrs_list slot hty hm q q' hbase hline h hl,fun F ad B σ H μ Q Qt hF l q k=>rr F ad B σ H μ _ _ hF l q fun v H1 r1 μ1 v1 f1 k1 q1=>?_⟩
 split at q1
 ·rename_i j;obtain⟨l1,rfl,s,c,e1,e2⟩:=v1;rw[e1] at q1;have q1':ED s.box _:=q1;rw[e2] at q1';rcases ((l1.slot j s e1).boxed e2).2.2.1.is with ⟨ts,vs,rfl,hl,_⟩ | ⟨_,_,_,rfl,_⟩
  case inr=>exact q1'.elim
  have q1:=(show us μ1 _ from q1');refine⟨.inl ⟨rfl,vs,bK.of hl⟩,?_⟩;refine r' F ad B σ H1 μ1 _ _ hF l1 q1 fun xs H2 rs μ2 l2 ps f2 k2 q2=>?_;obtain⟨s',c',e3,e4⟩:=k2.fwd j s _ e1 e2;exact hr F ad B σ H2 μ2 _ _ j s' c' xs rs hF l2 e3 e4 ps q2 fun v H3 r3 μ3 v3 f3 k3 q3=>k v H3 r3 μ3 v3 ((f1.d.trans f2).trans f3) ((k1.trans k2).trans k3) q3
 ·exact q1.elim
def fB:UM:=fun j rs μ Q=>match rs with
 | [.tr t]=>(match (μ[j]?).bind Sl.box with
  | some (.lst ts)=>ts.length < sizeLine/\Q (.tr .aI) (dv μ j (.lst (ts++[t])))
  | _=>False)
 | _=>False
theorem dw{K:PySem.W.Frag}:RM K qo fB:=by
 intro F ad B σ H μ Q Qt j s c xs rs hF l e b ps q k;unfold fB at q
 split at q
 ·cases ps with
  | cons h ps =>
   cases ps;rw[e] at q;have q':(match s.box with | some (.lst ts)=>ts.length < sizeLine/\Qt (.tr .aI) (dv μ j (.lst (ts++[_]))) | _=>False):=q
   rw[b] at q';rcases ((l.slot j s e).boxed b).2.2.1.is with ⟨ts,vs,rfl,hl,rv⟩ | ⟨_,_,_,rfl,_⟩
   case inr=>exact q'.elim
   simp only at q';refine⟨_,_,_,rfl,rfl,hl,by rw[rv.length];exact q'.1,?_⟩
   have l3:=l.put e b (rv.append (.cons (cu h) .nil));have q2:=q'.2;unfold dv at q2;rw[e] at q2;exact k _ _ (.tr .aI) _ (Vr.flat l3 .aI) (Fr.set ((l.slot j s e).boxed b).2.1) (Kp.set e b (Sl.jG b)) q2
 ·exact q.elim
end
end Y
def i_:List Bool->List V->List Addr
 | true::md,.ref a::vs=>a::i_ md vs
 | _::md,_::vs=>i_ md vs
 | _,_=>[]
def eR(K:PySem.W.Frag)(H:Hp)(B:aL):List Bool->List V->List T->Prop
 | [],[],[]=>True
 | false::md,v::vs,t::ts=>Rep K H B v t/\eR K H B md vs ts
 | true::md,v::vs,t::ts=>(∃ a,v=.ref a/\B a/\Bx K H B a t)/\eR K H B md vs ts
 | _,_,_=>False
noncomputable abbrev fE:=List T->(R->List T->Prop)->Prop
def DP(K:PySem.W.Frag)(H H':Hp)(B:aL)(as:List Addr)(v:V)(outs:List T):R->Prop
 | .tr t=>Rep K H' B v t/\Paired (Bx K H' B) as outs
 | .fr c=>∃ a,v=.ref a/\H a=none/\¬ B a/\Bx K H' (more B a) a c/\Paired (Bx K H' (more B a)) as outs
 | .br _=>False
def spT(K:PySem.W.Frag)(md:List Bool)(tsp:fE):Sp:=fun vs H Q _=>∃ (B:aL) (args:List T) (Qt:R->List T->Prop),eR K H B md vs args/\(∀ b,B b->∃ o,H b=some o)/\(i_ md vs).Nodup/\tsp args Qt /\
 ∀ v H' r outs,Qt r outs->(∀ b o,H b=some o->b∉i_ md vs->H' b=some o)->DP K H H' B (i_ md vs) v outs r->Q v H'
theorem eR.len{K:PySem.W.Frag}{H:Hp}{B:aL}:∀ {md:List Bool} {vs:List V} {ts:List T},eR K H B md vs ts->vs.length=md.length/\ts.length=md.length
 | [],[],[],_=>⟨rfl,rfl⟩
 | false::md,v::vs,t::ts,h=>⟨congrArg (·+1) (eR.len h.2).1,congrArg (·+1) (eR.len h.2).2⟩
 | true::md,v::vs,t::ts,h=>⟨congrArg (·+1) (eR.len h.2).1,congrArg (·+1) (eR.len h.2).2⟩
theorem eR.get{K:PySem.W.Frag}{H:Hp}{B:aL}:∀ {md:List Bool} {vs:List V} {ts:List T} {i:Nat} {b:Bool},eR K H B md vs ts->md[i]?=some b->∃ v t,vs[i]?=some v/\ts[i]?=some t/\(if b=true then ∃ a,v=.ref a/\B a/\Bx K H B a t else Rep K H B v t)
 | [],[],[],i,b,_,e=>by simp at e
 | c::md,[],_,_,_,h,_=>by cases c<;>exact h.elim
 | c::md,v::vs,[],_,_,h,_=>by cases c<;>exact h.elim
 | c::md,v::vs,t::ts,0,b,h,e=>by
  have e':c=b:=by simpa using e
  subst e'
  cases c with
  | false=>exact⟨v,t,rfl,rfl,by rw[if_neg Bool.false_ne_true];exact h.1⟩
  | true=>exact⟨v,t,rfl,rfl,by rw[if_pos rfl];exact h.1⟩
 | c::md,v::vs,t::ts,i+1,b,h,e=>by
  have h2:eR K H B md vs ts:=by cases c<;>exact h.2
  obtain⟨v',t',e1,e2,q⟩:=eR.get h2 (show md[i]?=some b by simpa using e)
  exact⟨v',t',by simpa using e1,by simpa using e2,q⟩
theorem eg:∀ {md:List Bool} {vs:List V} {i:Nat} {a:Addr},md[i]?=some true->vs[i]?=some (.ref a)->a∈i_ md vs
 | [],_,_,_,e,_=>by simp at e
 | c::md,[],_,_,_,e=>by simp at e
 | c::md,v::vs,0,a,e1,e2=>by
  have e1':c=true:=by simpa using e1
  have e2':v=.ref a:=by simpa using e2
  subst e1' e2';exact List.mem_cons_self
 | c::md,v::vs,i+1,a,e1,e2=>by
  have:=eg (md:=md) (vs:=vs) (i:=i) (a:=a) (by simpa using e1) (by simpa using e2)
  cases c with
  | false=>exact this
  | true=>cases v<;>first | exact List.mem_cons_of_mem _ this | exact this
theorem qu:∀ {md:List Bool} {vs:List V} {i j:Nat} {a:Addr},(i_ md vs).Nodup->md[i]?=some true->md[j]?=some true->vs[i]?=some (.ref a)->vs[j]?=some (.ref a)->i=j
 | [],_,_,_,_,_,e,_,_,_=>by simp at e
 | c::md,[],_,_,_,_,_,_,e,_=>by simp at e
 | c::md,v::vs,i,j,a,nd,e1,e2,e3,e4=>by
  have tl:(i_ md vs).Nodup:=by
   cases c with
   | false=>exact nd
   | true=>cases v<;>first | exact (List.nodup_cons.mp nd).2 | exact nd
  cases i with
  | zero =>
   have e1':c=true:=by simpa using e1
   have e3':v=.ref a:=by simpa using e3
   subst e1' e3'
   cases j with
   | zero=>rfl
   | succ j=>exact absurd (eg (md:=md) (vs:=vs) (i:=j) (a:=a) (by simpa using e2) (by simpa using e4)) (List.nodup_cons.mp nd).1
  | succ i=>cases j with
   | zero =>
    have e1':c=true:=by simpa using e2
    have e3':v=.ref a:=by simpa using e4
    subst e1' e3';exact absurd (eg (md:=md) (vs:=vs) (i:=i) (a:=a) (by simpa using e1) (by simpa using e3)) (List.nodup_cons.mp nd).1
   | succ j=>exact congrArg (·+1) (qu tl (by simpa using e1) (by simpa using e2) (by simpa using e3) (by simpa using e4))
def bI:List Bool->Nat->Mu->List T
 | [],_,_=>[]
 | true::md,i,μ=>(match μ[i]? with
  | some (.pb c)=>c::bI md (i+1) μ
  | _=>bI md (i+1) μ)
 | false::md,i,μ=>bI md (i+1) μ
theorem jW{P:Addr->T->Prop}{μ:Mu}:∀ {md:List Bool} {vs:List V} {i:Nat},vs.length=md.length->(∀ n,md[n]?=some true->∃ a c,vs[n]?=some (.ref a)/\μ[i+n]?=some (.pb c)/\P a c)->Paired P (i_ md vs) (bI md i μ)
 :=by
  intro md
  induction md with
  | nil =>
    intro vs i hl h
    cases vs with
    | nil=>exact .nil
    | cons v vs=>cases hl
  | cons b md ih =>
    intro vs i hl h
    cases vs with
    | nil=>cases hl
    | cons v vs =>
      have rest:=ih (vs:=vs) (i:=i+1) (Nat.succ.inj hl) fun n e=>by
        obtain⟨a,c,e1,e2,p⟩:=h (n+1) e;exact⟨a,c,e1,by rw[Nat.add_assoc,Nat.add_comm 1 n];exact e2,p⟩
      cases b with
      | false=>exact rest
      | true =>
        obtain⟨a,c,e1,e2,p⟩:=h 0 rfl;have e1':v=.ref a:=Option.some.inj e1;subst e1';rw[Nat.add_zero] at e2;show Paired P (a::i_ md vs) (match μ[i]? with | some (.pb c)=>c::bI md (i+1) μ | _=>bI md (i+1) μ)
        rw[e2];exact .cons p rest
def startM:List Bool->List T->Nat->Mu
 | b::md,t::ts,n=>(if b=true then .pb t else .tr t)::startM md ts (n - 1)
 | _,_,n=>List.replicate n .un
def tq(md:List Bool)(Qt:R->List T->Prop):Ed where
 nx:=fun μ=>Qt (.tr .aI) (bI md 0 μ)
 rt:=fun r μ=>match r with
  | .tr t=>Qt (.tr t) (bI md 0 μ)
  | .fr c=>Qt (.fr c) (bI md 0 μ)
  | .br i=>(match μ[i]? with
   | some (.bx c)=>Qt (.fr c) (bI md 0 μ)
   | _=>False)
theorem iE:∀ {md:List Bool} {ts:List T} {n:Nat},ts.length=md.length->md.length<=n->(startM md ts n).length=n
 | [],[],n,_,_=>List.length_replicate
 | b::md,t::ts,n,h,hn=>by
  cases n with
  | zero=>simp at hn
  | succ n=>exact congrArg (·+1) (iE (by simpa using h) (by simpa using hn))
theorem eY:∀ {md:List Bool} {ts:List T} {n i:Nat} {s:Sl},(startM md ts n)[i]?=some s->s=.un\/∃ b t,md[i]?=some b/\ts[i]?=some t/\s=(if b=true then .pb t else .tr t)
 | [],ts,n,i,s,e=>by
  have e':(List.replicate n Sl.un)[i]?=some s:=by cases ts<;>exact e
  rw[List.getElem?_replicate] at e'
  split at e'
  ·exact .inl (Option.some.inj e').symm
  ·cases e'
 | b::md,[],n,i,s,e=>by
  have e':(List.replicate n Sl.un)[i]?=some s:=e;rw[List.getElem?_replicate] at e'
  split at e'
  ·exact .inl (Option.some.inj e').symm
  ·cases e'
 | b::md,t::ts,n,0,s,e=>.inr ⟨b,t,rfl,rfl,by have e':some (if b=true then Sl.pb t else .tr t)=some s:=e;exact (Option.some.inj e').symm⟩
 | b::md,t::ts,n,i+1,s,e=>by
  rcases eY (md:=md) (ts:=ts) (n:=n - 1) (i:=i) (s:=s) (by simpa[startM] using e) with h | ⟨b',t',h1,h2,h3⟩
  ·exact .inl h
  ·exact .inr ⟨b',t',by simpa using h1,by simpa using h2,h3⟩
theorem j5:∀ {md:List Bool} {ts:List T} {n i:Nat} {b:Bool} {t:T},md[i]?=some b->ts[i]?=some t->(startM md ts n)[i]?=some (if b=true then .pb t else .tr t)
 | [],_,_,_,_,_,e,_=>by simp at e
 | b::md,[],_,_,_,_,_,e=>by simp at e
 | b::md,t::ts,n,0,b',t',e1,e2=>by
  have e1':b=b':=by simpa using e1
  have e2':t=t':=by simpa using e2
  subst e1' e2';rfl
 | b::md,t::ts,n,i+1,b',t',e1,e2=>by
  have:=j5 (md:=md) (ts:=ts) (n:=n - 1) (i:=i) (b:=b') (t:=t') (by simpa using e1) (by simpa using e2)
  simpa[startM] using this
def jK(vs:List V)(i:Nat):Addr:=match vs[i]? with
 | some (.ref a)=>a
 | _=>0
def D6(md:List Bool)(vs:List V)(i:Nat):Option Addr:=match md[i]?,vs[i]? with
 | some true,some (.ref a)=>some a
 | _,_=>none
theorem eQ{md:List Bool}{vs:List V}{i:Nat}{a:Addr}(h:D6 md vs i=some a):md[i]?=some true/\vs[i]?=some (.ref a):=by
 unfold D6 at h
 split at h
 ·rename_i e1 e2;cases h;exact⟨e1,e2⟩
 ·cases h
theorem kL{md:List Bool}{vs:List V}{i:Nat}{a:Addr}(h1:md[i]?=some true)(h2:vs[i]?=some (.ref a)):D6 md vs i=some a:=by
 unfold D6;rw[h1,h2]
def ja(K:PySem.W.Frag)(H:Hp)(md:List Bool)(vs:List V)(B:aL)(bh:∀ b,B b->∃ o,H b=some o):Fx:=⟨K,H,D6 md vs,B,bh,fun _=>none⟩
theorem iB{K:PySem.W.Frag}{H:Hp}{B:aL}{md:List Bool}{vs:List V}{args:List T}{N:List Str}(ag:eR K H B md vs args)(bh:∀ b,B b->∃ o,H b=some o)(nd:(i_ md vs).Nodup)(hN:md.length<=N.length):
  Rl (ja K H md vs B bh) (jK vs) B (start N vs) H (startM md args N.length):=by
 obtain⟨l1,l2⟩:=ag.len;have sget:∀ i v,vs[i]?=some v->(start N vs)[i]?=some (some v):=fun i v e=>by
  have hi:=(List.getElem?_eq_some_iff.mp e).1;unfold start;rw[List.getElem?_append_left (by simpa using hi),List.getElem?_map,e];rfl
 refine⟨?_,fun i s e=>?_,fun i j s u c d e1 e2 b1 b2 q=>?_,fun i a p=>?_,fun b z=>z,bh,fun b o e n=>e,fun a ws ga=>by cases ga⟩
 ·rw[iE l2 hN];unfold start;rw[List.length_append,List.length_map,List.length_replicate];lia
 ·rcases eY e with rfl | ⟨b,t,h1,h2,rfl⟩
  ·trivial
  ·obtain⟨v,t',e1,e2,q⟩:=ag.get h1;rw[h2] at e2;cases e2
   cases b with
   | false =>
    rw[if_neg Bool.false_ne_true] at q;rw[if_neg Bool.false_ne_true];exact⟨v,sget i v e1,q⟩
   | true =>
    rw[if_pos rfl] at q;rw[if_pos rfl];obtain⟨a,rfl,hb,x⟩:=q;have ea:jK vs i=a:=by unfold jK;rw[e1]
    show _/\_/\_/\_;rw[ea];exact⟨sget i _ e1,hb,kL h1 e1,x⟩
 ·have one:∀ {i:Nat} {s:Sl} {c:T},(startM md args N.length)[i]?=some s->s.box=some c->md[i]?=some true/\∃ a,vs[i]?=some (.ref a)/\jK vs i=a:=fun {i s c} e b=>by
   rcases eY e with rfl | ⟨b',t,h1,h2,rfl⟩
   ·cases b
   ·cases b' with
    | false=>rw[if_neg Bool.false_ne_true] at b;cases b
    | true =>
     obtain⟨v,t',e1,e2,q⟩:=ag.get h1;rw[if_pos rfl] at q;obtain⟨a,rfl,_⟩:=q;exact⟨h1,a,e1,by unfold jK;rw[e1]⟩
  obtain⟨m1,a1,v1,z1⟩:=one e1 b1;obtain⟨m2,a2,v2,z2⟩:=one e2 b2;rw[z1,z2] at q;subst q;exact qu nd m1 m2 v1 v2
 ·obtain⟨h1,h2⟩:=eQ p;obtain⟨v,t',e1,e2,q⟩:=ag.get h1;refine⟨⟨t',?_⟩,by unfold jK;rw[h2]⟩
  have:=j5 (n:=N.length) h1 e2;rw[if_pos rfl] at this;exact this
theorem HasFn.rL{P:Program}{w:World}{K:PySem.W.Frag}{mg:Str->Option Value}{base:Heap}{x:Str}{st:Stmt}{N ps:List Str}{k:Nat}{tsp:fE}(F:HasFn K mg x st ps)(S:av N ps (aa st))(md:List Bool)(hm:md.length=ps.length)(hN:md.length<=N.length)
  (hbody:∀ (args:List T) (Qt:R->List T->Prop),args.length=ps.length->tsp args Qt->∀ (f:Addr) (cdv:Value) (A:Around) (outer:List Env) (s:Shared) (H:Hp) (E:XK),bC k (A.deeper (envOfC x (aa st) s.heap.objs.size f cdv)) ->
   ∃ us,YB (fA bY P w K mg base N x (aa st) f cdv A outer s H E).w8 (aq st) us/\us (tq md Qt) (startM md args N.length)):ah P w K mg base bY (k+1) x ps (spT K md tsp):=by
 refine F.Ga S (fun vs H Q E h=>?_) (fun f cdv A outer s H vs Q E hr h=>?_)
 ·obtain⟨B,args,Qt,ag,_⟩:=h;rw[ag.len.1,hm]
 ·obtain⟨B,args,Qt,ag,bh,nd,ht,fin⟩:=h;obtain⟨us,⟨t,q,r⟩,hu⟩:=hbody args Qt (by rw[ag.len.2,hm]) ht f cdv A outer s H E hr
  refine⟨t,q,?_⟩;have l0:=iB (N:=N) ag bh nd hN;have outs:∀ ad' B' σ' H' μ' (B2:aL),Rl (ja K H md vs B bh) ad' B' σ' H' μ'->(∀ b,B2 b->B' b)->Paired (Bx K H' B2) (i_ md vs) (bI md 0 μ'):=fun ad' B' σ' H' μ' B2 l hB=>by
   refine jW (ag.len.1) fun n e=>?_;obtain⟨v,t',e1,e2,q⟩:=ag.get e;rw[if_pos rfl] at q;obtain⟨a,rfl,_⟩:=q;obtain⟨⟨c,hc⟩,ha⟩:=l.par n a (kL e e1);have sl:=l.slot n _ hc;refine⟨a,c,e1,by rw[Nat.zero_add];exact hc,?_⟩
   rw[<- ha];exact (sl.2.2.2).of rfl (Fr.less hB)
  have keep:∀ ad' B' σ' H' μ',Rl (ja K H md vs B bh) ad' B' σ' H' μ'->∀ b o,H b=some o->b∉i_ md vs->H' b=some o:=fun ad' B' σ' H' μ' l b o e n=>l.old b o e fun i z=>n (eg (eQ z).1 (eQ z).2);refine r (ja K H md vs B bh) _ _ (jK vs) B (start N vs) H _ rfl l0 hu ⟨fun ad' B' σ' H' μ' l _ q=>?_,fun ad' B' σ' H' μ' v rr h q=>?_,fun _ _ _ _ _ _ _ z=>z.elim,fun _ _ _ _ _ _ _ z=>z.elim⟩
  ·exact fin .aI H' (.tr .aI) _ q (keep _ _ _ _ _ l) ⟨.aI,outs _ _ _ _ _ _ l l.bc⟩
  ·cases rr with
   | tr t=>exact fin v H' (.tr t) _ q (keep _ _ _ _ _ h.1) ⟨(show Rep K H' B' v t from h.2).fr (Fr.less h.1.bc),outs _ _ _ _ _ _ h.1 h.1.bc⟩
   | fr c =>
    obtain⟨l,a,rfl,n,h0,l2,x⟩:=h;have sub:∀ b,more B a b->more B' a b:=fun b z=>z.imp id (l.bc b);exact fin _ H' (.fr c) _ q (keep _ _ _ _ _ l) ⟨a,rfl,h0,fun z=>n (l.bc a z),x.of rfl (Fr.less sub),outs _ _ _ _ _ _ l2 sub⟩
   | br i =>
    have q':(match μ'[i]? with | some (.bx c)=>Qt (.fr c) (bI md 0 μ') | _=>False):=q
    obtain⟨l,rfl,s',c',e1,e2⟩:=h
    split at q'
    ·rename_i c ec;have sl:=l.slot i _ ec;have sub:∀ b,more B (ad' i) b->B' b:=fun b z=>z.elim (fun z=>by rw[z];exact sl.2.1) (l.bc b)
     refine fin _ H' (.fr c) _ q' (keep _ _ _ _ _ l) ⟨ad' i,rfl,sl.2.2.1,fun z=>?_,(sl.2.2.2.2).of rfl (Fr.less sub),outs _ _ _ _ _ _ l sub⟩;obtain⟨o,e⟩:=bh _ z;have:H (ad' i)=none:=sl.2.2.1;rw[this] at e;cases e
    ·exact q'.elim
def uW(μ:Mu):List Bool->List R->Option (List T)
 | [],[]=>some []
 | false::md,r::rs=>(match cont μ r,uW μ md rs with
  | some t,some ts=>some (t::ts)
  | _,_=>none)
 | true::md,.br j::rs=>(match cont μ (.br j),uW μ md rs with
  | some t,some ts=>some (t::ts)
  | _,_=>none)
 | _,_=>none
def fh:List Bool->List R->List Nat
 | true::md,.br j::rs=>j::fh md rs
 | _::md,_::rs=>fh md rs
 | _,_=>[]
def gx:List Bool->List R->List Nat
 | false::md,.br j::rs=>j::gx md rs
 | _::md,_::rs=>gx md rs
 | _,_=>[]
def gq:T->Bool
 | .lst ts=>ts.all bP
 | .jH _ ts=>ts.all bP
 | t=>bP t
def mf:R->Bool
 | .tr t=>bP t
 | .fr c=>gq c
 | .br _=>false
def putAll:List Nat->List T->Mu->Mu
 | j::js,c::cs,μ=>putAll js cs (dv μ j c)
 | _,_,μ=>μ
theorem pU{μ:Mu}{i j:Nat}{c:T}(h:i≠j):(dv μ j c)[i]?=μ[i]?:=by
 unfold dv;split
 ·rw[List.getElem?_set_ne (Ne.symm h)]
 ·rfl
theorem xH{μ:Mu}{j:Nat}{c:T}{s:Sl}(e:μ[j]?=some s):(dv μ j c)[j]?=some (s.put c):=by
 unfold dv;rw[e];exact List.getElem?_set_self (List.getElem?_eq_some_iff.mp e).1
theorem sT{μ:Mu}{j:Nat}{c:T}:(dv μ j c).length=μ.length:=by
 unfold dv;split
 ·exact List.length_set
 ·rfl
theorem ip:∀ {js:List Nat} {cs:List T} {μ:Mu},(putAll js cs μ).length=μ.length
 | [],_,_=>rfl
 | _::_,[],_=>rfl
 | j::js,c::cs,μ=>(ip (js:=js)).trans sT
theorem dm:∀ {js:List Nat} {cs:List T} {μ:Mu} {i:Nat},i∉js->(putAll js cs μ)[i]?=μ[i]?
 | [],_,_,_,_=>rfl
 | _::_,[],_,_,_=>rfl
 | j::js,c::cs,μ,i,h=>(dm (js:=js) (fun z=>h (List.mem_cons_of_mem _ z))).trans (pU fun z=>h (z ▸ List.mem_cons_self))
theorem cR{P:Addr->T->Prop}{ad:Nat->Addr}:∀ {js:List Nat} {cs:List T} {μ:Mu} {i:Nat} {s:Sl},js.Nodup->Paired P (js.map ad) cs->i∈js->μ[i]?=some s->∃ c,(putAll js cs μ)[i]?=some (s.put c)/\P (ad i) c
 | [],_,_,_,_,_,_,h,_=>by cases h
 | j::js,c::cs,μ,i,s,nd,.cons p ps,h,e=>by
  rw[List.nodup_cons] at nd;by_cases z:i=j
  ·subst z;refine⟨c,?_,p⟩;show (putAll js cs (dv μ i c))[i]?=_;rw[dm nd.1];exact xH e
  ·rcases List.mem_cons.mp h with z' | z'
   ·exact absurd z' z
   ·exact cR (js:=js) nd.2 ps z' (by rw[pU z];exact e)
theorem Rl.call{F:Fx}{ad:Nat->Addr}{B B2:aL}{σ:St}{H H':Hp}{μ:Mu}{js:List Nat}{outs:List T}(l:Rl F ad B σ H μ)(hb:∀ j∈js,∃ (s:Sl) (c:T),μ[j]?=some s/\s.box=some c)(nd:js.Nodup)
  (keep:∀ b o,H b=some o->b∉js.map ad->H' b=some o) (sB:∀ b,B b->B2 b) (nB:∀ b o,H b=some o->¬ B b->¬ B2 b) (tB:∀ b,B2 b->¬ B b->∃ o,H' b=some o) (ps:Paired (Bx F.K H' B2) (js.map ad) outs) :
  Rl F ad B2 σ H' (putAll js outs μ)/\Kp μ (putAll js outs μ)/\Fr B H B2 H':=by
 have inB:∀ b∈js.map ad,B b:=fun b hb'=>by
  obtain⟨j,hj,rfl⟩:=List.mem_map.mp hb';obtain⟨s,c,e,q⟩:=hb j hj;exact l.own j s c e q
 have f:Fr B H B2 H':=fun b o e n=>⟨keep b o e fun z=>n (inB b z),nB b o e n⟩;have cases':∀ i s,(putAll js outs μ)[i]?=some s->(i∉js/\μ[i]?=some s)\/(i∈js/\∃ s0 c0 c,μ[i]?=some s0/\s0.box=some c0/\s=s0.put c/\Bx F.K H' B2 (ad i) c):=fun i s e=>by
  by_cases z:i∈js
  ·obtain⟨s0,c0,e0,q0⟩:=hb i z;obtain⟨c,e1,p⟩:=cR nd ps z e0;rw[e1] at e;exact .inr ⟨z,s0,c0,c,e0,q0,(Option.some.inj e).symm,p⟩
  ·rw[dm z] at e;exact .inl ⟨z,e⟩
 have boxOld:∀ (i:Nat) (s:Sl) (c:T),(putAll js outs μ)[i]?=some s->s.box=some c->∃ (s0:Sl) (c0:T),μ[i]?=some s0/\s0.box=some c0:=fun i s c e b=>by
  rcases cases' i s e with ⟨_,e'⟩ | ⟨_,s0,c0,_,e0,q0,_⟩
  ·exact⟨s,c,e',b⟩
  ·exact⟨s0,c0,e0,q0⟩
 have ne:∀ (i:Nat) (s:Sl) (c:T),i∉js->μ[i]?=some s->s.box=some c->ad i∉js.map ad:=fun i s c z e b hm=>by
  obtain⟨j,hj,q⟩:=List.mem_map.mp hm;obtain⟨s0,c0,e0,q0⟩:=hb j hj;exact z (l.inj i j s s0 c c0 e e0 b q0 q.symm ▸ hj)
 refine⟨⟨by rw[ip];exact l.len,fun i s e=>?_,fun i j s u c d e1 e2 b1 b2 q=>?_,fun i a p=>?_,fun b z=>sB b (l.bc b z),fun b z=>?_,fun b o e n=>?_,fun a ws ga=>?_⟩,fun i=>?_,f⟩
 ·rcases cases' i s e with ⟨z,e'⟩ | ⟨z,s0,c0,c,e0,q0,rfl,x⟩
  ·have k:=l.slot i s e';unfold gD at k ⊢
   split at k
   ·trivial
   ·obtain⟨v,e1,r1⟩:=k;exact⟨v,e1,r1.fr f⟩
   ·obtain⟨e1,b,z0,p,x⟩:=k;obtain⟨o,eo⟩:=x.er;exact⟨e1,sB _ b,z0,p,x.of ((keep _ o eo (ne i _ _ z e' rfl)).trans eo.symm) f⟩
   ·obtain⟨e1,b,p,x⟩:=k;obtain⟨o,eo⟩:=x.er;exact⟨e1,sB _ b,p,x.of ((keep _ o eo (ne i _ _ z e' rfl)).trans eo.symm) f⟩
  ·have k:=l.slot i s0 e0
   cases s0 with
   | un=>cases q0
   | tr t=>cases q0
   | bx d=>exact⟨k.1,sB _ k.2.1,k.2.2.1,k.2.2.2.1,x⟩
   | pb d=>exact⟨k.1,sB _ k.2.1,k.2.2.1,x⟩
 ·obtain⟨s1,c1,g1,g2⟩:=boxOld i s c e1 b1;obtain⟨s2,c2,g3,g4⟩:=boxOld j u d e2 b2;exact l.inj i j s1 s2 c1 c2 g1 g3 g2 g4 q
 ·obtain⟨⟨c,e⟩,ha⟩:=l.par i a p;refine⟨?_,ha⟩;by_cases z:i∈js
  ·obtain⟨c',e1,_⟩:=cR nd ps z e;exact⟨c',e1⟩
  ·exact⟨c,by rw[dm z];exact e⟩
 ·by_cases zb:B b
  ·obtain⟨o,e⟩:=l.er b zb;by_cases z2:b∈js.map ad
   ·obtain⟨j,hj,rfl⟩:=List.mem_map.mp z2;obtain⟨s0,c0,e0,q0⟩:=hb j hj;obtain⟨c,_,x⟩:=cR nd ps hj e0;exact x.er
   ·exact⟨o,keep b o e z2⟩
  ·exact tB b z zb
 ·have e2:=l.old b o e n;refine keep b o e2 fun hm=>?_;obtain⟨j,hj,rfl⟩:=List.mem_map.mp hm;obtain⟨s0,c0,e0,q0⟩:=hb j hj;rcases ((l.slot j s0 e0).boxed q0).2.2.2 with z | z
  ·exact n j z
  ·rw[z] at e;cases e
 ·obtain⟨g1,g2,g3⟩:=l.gh a ws ga;refine⟨keep a _ g1 fun hm=>?_,sB a g2,fun i s c e b=>?_⟩
  ·obtain⟨j,hj,q⟩:=List.mem_map.mp hm;obtain⟨s0,c0,e0,q0⟩:=hb j hj;exact g3 j s0 c0 e0 q0 q
  ·obtain⟨s0,c0,e0,q0⟩:=boxOld i s c e b;exact g3 i s0 c0 e0 q0
 ·by_cases z:i∈js
  ·obtain⟨s0,c0,e0,q0⟩:=hb i z;obtain⟨c,e1,_⟩:=cR nd ps z e0;rw[e0,e1];show (s0.box).isSome=((s0.put c).box).isSome;rw[q0,Sl.jG q0];rfl
  ·rw[dm z]
theorem zk{F:Fx}{ad:Nat->Addr}{B:aL}{σ:St}{H:Hp}{μ:Mu}(l:Rl F ad B σ H μ)(ro:List Nat):∀ {md:List Bool} {xs:List V} {rs:List R} {args:List T},Paired (Hv F ad B H μ) xs rs->uW μ md rs=some args->(∀ j∈gx md rs,j∈ro)->(∀ j∈fh md rs,j∉ro) ->
  (∀ j∈ro,∃ (s:Sl) (c:T),μ[j]?=some s/\s.box=some c) ->
  eR F.K H (fun b=>B b/\∀ j∈ro,b≠ad j) md xs args/\i_ md xs=(fh md rs).map ad/\∀ j∈fh md rs,∃ (s:Sl) (c:T),μ[j]?=some s/\s.box=some c:=by
 intro md
 induction md with
 | nil =>
  intro xs rs args p e _ _ _
  cases p with
  | nil=>cases e;exact⟨trivial,rfl,fun j h=>by cases h⟩
  | cons h p=>cases e
 | cons bb md ih =>
  intro xs rs args pp e h1 h2 h3
  cases pp with
  | nil=>cases bb<;>cases e
  | cons h p =>
   rename_i x r xs2 rs
   cases bb with
   | false =>
    unfold uW at e
    split at e
    ·rename_i t ts e1 e2;cases e;have sub:∀ j∈gx md rs,j∈ro:=fun j hj=>h1 j (by cases r<;>first | exact hj | exact List.mem_cons_of_mem _ hj)
     obtain⟨g1,g2,g3⟩:=ih p e2 sub h2 h3;refine⟨⟨?_,g1⟩,?_,g3⟩
     ·cases r with
      | tr t' =>
       have e1':t'=t:=Option.some.inj e1;subst e1';exact (show Rep F.K H B x t' from h).fr (Fr.less fun _ z=>z.1)
      | br j =>
       obtain⟨rfl,s,c,q1,q2⟩:=h;have e1':(μ[j]?).bind Sl.box=some t:=e1;rw[q1] at e1';have bx:=((l.slot j s q1).boxed (c:=t) e1').2.2.1;exact (bx.of rfl (Fr.less fun _ z=>z.1)).rep fun z=>z.2 j (h1 j List.mem_cons_self) rfl
      | fr c=>exact h.elim
     ·show i_ (false::md) (_::_)=_;rw[show fh (false::md) (r::rs)=fh md rs by cases r<;>rfl]
      exact g2
    ·cases e
   | true =>
    cases r with
    | tr t=>cases e
    | fr c=>cases e
    | br j =>
     unfold uW at e
     split at e
     ·rename_i t ts e1 e2;cases e;obtain⟨g1,g2,g3⟩:=ih p e2 h1 (fun i hi=>h2 i (List.mem_cons_of_mem _ hi)) h3;obtain⟨rfl,s,c,q1,q2⟩:=h;have e1':(μ[j]?).bind Sl.box=some t:=e1;rw[q1] at e1';have bx:=(l.slot j s q1).boxed (c:=t) e1';refine⟨⟨⟨ad j,rfl,⟨bx.2.1,fun i hi z=>?_⟩,bx.2.2.1.of rfl (Fr.less fun _ z=>z.1)⟩,g1⟩,congrArg (ad j::·) g2,fun i hi=>?_⟩
      ·obtain⟨s',c',q3,q4⟩:=h3 i hi;have:=l.inj j i s s' t c' q1 q3 e1' q4 z;subst this;exact h2 j List.mem_cons_self hi
      ·rcases List.mem_cons.mp hi with z | z
       ·subst z;exact⟨s,t,q1,e1'⟩
       ·exact g3 i z
     ·cases e
theorem iJ{F:Fx}{ad:Nat->Addr}{B:aL}{H:Hp}{μ:Mu}:∀ {md:List Bool} {xs:List V} {rs:List R},Paired (Hv F ad B H μ) xs rs->∀ j∈gx md rs,∃ (s:Sl) (c:T),μ[j]?=some s/\s.box=some c
 | [],_,_,_,j,h=>by cases h
 | b::md,_,_,.nil,j,h=>by cases b<;>cases h
 | b::md,_,r::rs,.cons h p,j,hj=>by
  cases b with
  | true=>exact iJ (md:=md) p j (by cases r<;>exact hj)
  | false =>
   cases r with
   | tr t=>exact iJ (md:=md) p j hj
   | fr c=>exact h.elim
   | br i =>
    rcases List.mem_cons.mp hj with z | z
    ·subst z;exact h.2
    ·exact iJ (md:=md) p j z
theorem Bx.flat{K:PySem.W.Frag}{H:Hp}{B B':aL}{a:Addr}{c:T}(h:Bx K H B a c)(f:gq c=true):Bx K H B' a c:=by
 rcases h.is with ⟨ts,vs,rfl,e,r⟩ | ⟨ks,ts,vs,rfl,e,l,r⟩
 ·exact⟨vs,e,r.flat f⟩
 ·exact⟨vs,e,l,r.flat f⟩
theorem Paired.lJ{K:PySem.W.Frag}{H:Hp}{B B':aL}:∀ {as:List Addr} {outs:List T},Paired (Bx K H B) as outs->outs.all gq=true->Paired (Bx K H B') as outs
 | _,_,.nil,_=>.nil
 | _,_,.cons h p,f=>by
  rw[List.all_cons,Bool.and_eq_true] at f;exact .cons (h.flat f.1) (Paired.lJ p f.2)
namespace Y
def CQ(md:List Bool)(tsp:fE)(us:UA):UE:=fun μ Q=>us μ fun rs μ1=>match uW μ1 md rs with
 | some args=>(fh md rs).Nodup/\(∀ j∈fh md rs,j∉gx md rs)/\tsp args fun r outs=>(gx md rs=[]\/(mf r=true/\outs.all gq=true))/\Q r (putAll (fh md rs) outs μ1)
 | none=>False
theorem Cw{K:PySem.W.Frag}{md:List Bool}{tsp:fE}{E:XK}{t:TA}{us:UA}(ha:RA K t us):RE K (hC (spT K md tsp) [] E t) (CQ md tsp us):=by
 intro F ad B σ H μ Q Qt hF l q k;refine ha F ad B σ H μ _ _ hF l q fun vs H1 rs μ1 l1 ps f1 k1 q1=>?_
 split at q1
 ·rename_i args ea;obtain⟨nd,dj,q1⟩:=q1;have hro:=iJ (md:=md) ps;obtain⟨ag,eb,hb⟩:=zk l1 (gx md rs) ps ea (fun j h=>h) dj hro;rw[hF] at ag;show spT K md tsp (vs++[]) H1 Q E;rw[List.append_nil];have inj:∀ {js:List Nat},js.Nodup->(∀ j∈js,∃ (s:Sl) (c:T),μ1[j]?=some s/\s.box=some c)->(js.map ad).Nodup:=fun {js}=>by
   induction js with
   | nil=>exact fun _ _=>List.nodup_nil
   | cons j js ih =>
    intro nd hb;rw[List.nodup_cons] at nd;rw[List.map_cons,List.nodup_cons];refine⟨fun hm=>?_,ih nd.2 fun i hi=>hb i (List.mem_cons_of_mem _ hi)⟩;obtain⟨i,hi,z⟩:=List.mem_map.mp hm;obtain⟨s1,c1,e1,b1⟩:=hb j List.mem_cons_self;obtain⟨s2,c2,e2,b2⟩:=hb i (List.mem_cons_of_mem _ hi);exact nd.1 (l1.inj i j s2 s1 c2 c1 e2 e1 b2 b1 z ▸ hi)
  refine⟨_,args,_,ag,fun b z=>l1.er b z.1,by rw[eb];exact inj nd hb,q1,fun v H2 r outs hq keep res=>?_⟩
  rw[eb] at keep res;obtain⟨hfl,hq⟩:=hq;have nro:∀ {b:Addr},gx md rs=[]->B b->B b/\∀ j∈gx md rs,b≠ad j:=fun {b} z h=>⟨h,fun j hj=>by rw[z] at hj;cases hj⟩
  cases r with
  | br i=>exact res.elim
  | tr t =>
   obtain⟨rv,po⟩:=res;have rv':Rep F.K H2 B v t:=by
    rw[hF];rcases hfl with z | z
    ·exact rv.fr (Fr.less fun b h=>nro z h)
    ·exact rv.flat z.1
   have po':Paired (Bx F.K H2 B) ((fh md rs).map ad) outs:=by
    rw[hF];rcases hfl with z | z
    ·exact Paired.jc po fun a c h=>h.of rfl (Fr.less fun b h=>nro z h)
    ·exact Paired.lJ po z.2
   obtain⟨l2,k2,f2⟩:=l1.call hb nd keep (fun _ z=>z) (fun _ _ _ z=>z) (fun b z n=>absurd z n) po';exact k v H2 (.tr t) _ ⟨l2,rv'⟩ (f1.trans f2) (k1.trans k2) hq
  | fr c =>
   obtain⟨a,rfl,ha0,nBa,x,po⟩:=res;have nBa':¬ B a:=l1.m5 ha0;have sub:gx md rs=[]->∀ b,more B a b->more (fun b=>B b/\∀ j∈gx md rs,b≠ad j) a b:=fun z b h=>h.imp id fun h=>nro z h;have x':Bx F.K H2 (more B a) a c:=by
    rw[hF];rcases hfl with z | z
    ·exact x.of rfl (Fr.less (sub z))
    ·exact x.flat z.1
   have po':Paired (Bx F.K H2 (more B a)) ((fh md rs).map ad) outs:=by
    rw[hF];rcases hfl with z | z
    ·exact Paired.jc po fun a' c h=>h.of rfl (Fr.less (sub z))
    ·exact Paired.lJ po z.2
   have po2:Paired (Bx F.K H2 B) ((fh md rs).map ad) outs:=Paired.jc po' fun a' c h=>h.of rfl (Fr.less fun _ z=>.inr z);obtain⟨l2,k2,f2⟩:=l1.call hb nd keep (fun _ z=>z) (fun _ _ _ z=>z) (fun b z n=>absurd z n) po2;obtain⟨l3,_,f3⟩:=l1.call (B2:=more B a) hb nd keep (fun _ z=>.inr z) (fun b o e n z=>z.elim (fun z=>by rw[z,ha0] at e;cases e) n) (fun b z n=>z.elim (fun z=>by rw[z];exact x'.er) fun z=>absurd z n) po'
   exact k _ H2 (.fr c) _ ⟨l2,a,rfl,nBa',l1.xv ha0,l3,x'⟩ (f1.trans f3) (k1.trans k2) hq
 ·exact q1.elim
section
variable {X:Cx} {e:Expr} {es:List Expr} {us:UA} {pos p:Pos} {x:Str} {k:Nat} {ps:List Str} {md:List Bool} {tsp:fE} {E:XK}
theorem fn(K:PySem.W.Frag)(hK:X.K=K)(F:ah X.prog X.w X.K X.mg X.base bY k x ps (spT K md tsp))(hr:bC k X.A)(hg:Gl X x)(hx:Passes bY X E)(ha:YA X (e::es) us)(h1:bX e=true:=by rfl)(h2:es.all bX=true:=by rfl)(hdb:(x ==("__debug__":Str))=false:=by decide):
  YE X (.Call (.Name x p) (e::es) [] pos) (CQ md tsp us):=by
 obtain⟨t,q,r⟩:=ha;subst hK;exact⟨_,Z.fn F hr hg hx q h1 h2 hdb,Cw r⟩
end
end Y
def B4:fE:=fun args Q=>∃ ns:List Int,args=[.d7 (ns.map T.int)]/\ns.length<=63/\Q (.tr (.bl true)) []
section
variable {prog:Program} {w:World} {A:Around} {E:Value->Shared->Prop} {s:Shared}
structure ZA (z TI TO i1 i2 l1 l2:Addr):Prop where
 a1:TI≠z
 a2:TO≠z
 a3:i1≠z
 a4:i2≠z
 a5:TO≠i1
 a6:TO≠i2
 a7:i1≠i2
 a8:l1≠z/\l1≠TO/\l1≠i1/\l1≠i2
 a9:l2≠z/\l2≠TO/\l2≠i1/\l2≠i2
 b1:TI≠TO/\TI≠i1/\TI≠i2
theorem ZA.f1{z TI TO i1 i2 l1 l2:Addr}(D:ZA z TI TO i1 i2 l1 l2){e:Addr}(he:e=z\/e=TO\/e=i2):∀ b∈[i1,l1],b≠e:=fun b hb=>by
 rcases List.mem_cons.mp hb with rfl | hb
 ·rcases he with rfl | rfl | rfl
  ·exact D.a3
  ·exact D.a5.symm
  ·exact D.a7
 ·have hb:b=l1:=by simpa using hb
  subst hb;rcases he with rfl | rfl | rfl
  ·exact D.a8.1
  ·exact D.a8.2.1
  ·exact D.a8.2.2.2
theorem ZA.f2{z TI TO i1 i2 l1 l2:Addr}(D:ZA z TI TO i1 i2 l1 l2){e:Addr}(he:e=z\/e=TO\/e=i1):∀ b∈[i2,l2],b≠e:=fun b hb=>by
 rcases List.mem_cons.mp hb with rfl | hb
 ·rcases he with rfl | rfl | rfl
  ·exact D.a4
  ·exact D.a6.symm
  ·exact D.a7.symm
 ·have hb:b=l2:=by simpa using hb
  subst hb;rcases he with rfl | rfl | rfl
  ·exact D.a9.1
  ·exact D.a9.2.1
  ·exact D.a9.2.2.1
theorem d4{it l:Addr}{n:Nat}{P:Nat->Value->Prop}{S:Nat->Heap->Prop}{A':Around}(D:Draws prog w A' it [it,l] n P S){i:Nat}{h h':Heap}{e:Addr}(st:S i h)(hs:Heap.ExtBut e h h')(ne:∀ b∈[it,l],b≠e):S i h':=D.frame i h h' st fun b hb o q=>hs b o (ne b hb) q
theorem qY{z TI TO i1 i2 l1 l2:Addr}{k n1 n2:Nat}{P1 P2:Nat->Value->Prop}{S1 S2:Nat->Heap->Prop}{a b:Value}{Q:Value->Shared->Prop}(D:ZA z TI TO i1 i2 l1 l2)(D1:Draws prog w A i1 [i1,l1] n1 P1 S1)(D2:Draws prog w A i2 [i2,l2] n2 P2 S2)
  (hz:IsZip s.heap z TI TO .none) (hTI:IsPair s.heap TI (.ref i1) (.ref i2)) (hTO:IsPair s.heap TO a b) (st1:S1 k s.heap) (dE:S2 k s.heap) (hk1:k < n1) (hk2:k < n2)
  (hQ:∀ x y h' tk,P1 k x->P2 k y->IsZip h' z TI TO (rawInt s.heap.objs.size)->IsPair h' TO x y->S1 (k+1) h'->S2 (k+1) h'->IsPair h' s.heap.objs.size x y ->
   (∀ c o,c≠z->c≠TO->c≠i1->c≠i2->s.heap.get? c=some o->h'.get? c=some o)->Q (.ref s.heap.objs.size) { s with heap:=h',toks:=tk }) :
  wpAny (model prog w) A (Builtin.«zip.__next__» ⟨[.ref z],[]⟩) (fun fin s'=>∃ v,fin=.done (.ret v)/\Q v s') E s:=by
 have zrec:=hz;show wpAny _ _ (field (.ref z) 2 >>= _) _ _ _;refine wpAny_bind (wpAny_field zrec rfl (x:=.bool false) rfl ?_);show wpAny _ _ (field (.ref z) 3 >>= _) _ _ _;refine wpAny_bind (wpAny_field zrec rfl (x:=.ref TI) rfl ?_);have tirec:=hTI;refine wpAny_bind (wpAny_seqItems tirec rfl ?_);show wpAny _ _ (Builtin.SmallTypes.ownedTupleIsFree (.ref z) >>= _) _ _ _;refine wpAny_bind ?_;unfold Builtin.SmallTypes.ownedTupleIsFree;refine wpAny_bind (wpAny_field zrec rfl (x:=.none) rfl (wpAny_pure ?_));simp only[if_true];refine wpAny_bind (wpAny_rule ?_);refine wpAny_bind (wpAny_field zrec rfl (x:=.ref TO) rfl ?_);refine wpAny_bind (wpAny_setField_rec zrec (by simp) fun g1 zr1 sb1=>?_)
 replace zr1:IsZip g1 z TI TO .ellipsis:=zr1
 refine wpAny_bind ?_;simp only[List.zipIdx_cons,List.zipIdx_nil,List.forIn_cons,List.forIn_nil];refine wpAny_bind (wpAny_bind (wpAny_onRaise ?_));show wpAny _ _ (Builtin.SmallTypes.nextOf (.ref i1) >>= _) _ _ _;refine wpAny_bind (D1.item k _ _ _ hk1 (d4 D1 st1 sb1.extBut (D.f1 (.inl rfl))) fun x g2 tk2 px st1b sb2=>wpAny_pure ?_);have to2:IsPair g2 TO a b:=sb2.extBut _ _ D.a5 (sb1.extBut _ _ D.a2 hTO);refine wpAny_bind (wpAny_seqItems to2 rfl ?_);refine wpAny_bind (wpAny_updateSeq_pair to2 fun g3 to3 sb3=>?_)
 replace to3:IsPair g3 TO x b:=to3
 refine wpAny_bind (wpAny_letGo (wpAny_pure ?_));refine wpAny_bind (wpAny_bind (wpAny_onRaise ?_));show wpAny _ _ (Builtin.SmallTypes.nextOf (.ref i2) >>= _) _ _ _;have st2c:S2 k g3:=d4 D2 (d4 D2 (d4 D2 dE sb1.extBut (D.f2 (.inl rfl))) sb2.extBut (D.f2 (.inr (.inr rfl)))) sb3.extBut (D.f2 (.inr (.inl rfl)));refine wpAny_bind (D2.item k _ _ _ hk2 st2c fun y g4 tk4 py st2d sb4=>wpAny_pure ?_);have to4:IsPair g4 TO x b:=sb4.extBut _ _ D.a6 to3;refine wpAny_bind (wpAny_seqItems to4 rfl ?_);refine wpAny_bind (wpAny_updateSeq_pair to4 fun g5 to5 sb5=>?_)
 replace to5:IsPair g5 TO x y:=to5
 refine wpAny_bind (wpAny_letGo (wpAny_pure (wpAny_pure ?_)));refine wpAny_bind (wpAny_seqItems to5 rfl ?_);refine wpAny_bind (wpAny_newTuple ?_);have size5:g5.objs.size=s.heap.objs.size:=by rw[sb5.1,sb4.1,sb3.1,sb2.1,sb1.1]
 have zr5:IsZip g5 z TI TO .ellipsis:=sb5.extBut _ _ D.a2.symm (sb4.extBut _ _ D.a4.symm (sb3.extBut _ _ D.a2.symm (sb2.extBut _ _ D.a3.symm zr1)));have keep5:∀ c o,c≠z->c≠TO->c≠i1->c≠i2->s.heap.get? c=some o->g5.get? c=some o:=fun c o e1 e2 e3 e4 q =>
  sb5.extBut _ _ e2 (sb4.extBut _ _ e4 (sb3.extBut _ _ e2 (sb2.extBut _ _ e3 (sb1.extBut _ _ e1 q))))
 have s1e:S1 (k+1) g5:=d4 D1 (d4 D1 (d4 D1 st1b sb3.extBut (D.f1 (.inr (.inl rfl)))) sb4.extBut (D.f1 (.inr (.inr rfl)))) sb5.extBut (D.f1 (.inr (.inl rfl)));have s2e:S2 (k+1) g5:=d4 D2 st2d sb5.extBut (D.f2 (.inr (.inl rfl)));have zlt:z < g5.objs.size:=Heap.lt_size zr5;show wpAny _ _ (Builtin.SmallTypes.ownedTupleHandOut (.ref z) (.ref g5.objs.size) >>= _) _ _ _;refine wpAny_bind ?_;unfold Builtin.SmallTypes.ownedTupleHandOut;have zr6:IsZip (g5.push { cls:=.type "tuple",data:=.seq #[x,y] }) z TI TO .ellipsis:=Heap.get?_push_of_some _ zr5;refine wpAny_bind (wpAny_setField_rec zr6 (by simp) fun g7 zr7 sb7=>?_)
 replace zr7:IsZip g7 z TI TO (rawInt g5.objs.size):=zr7
 refine wpAny_setField_rec zr7 (by simp) fun g8 zr8 sb8=>?_
 replace zr8:IsZip g8 z TI TO (rawInt g5.objs.size):=zr8
 have up:∀ c o,c≠z->g5.get? c=some o->g8.get? c=some o:=fun c o e1 q=>sb8.extBut _ _ e1 (sb7.extBut _ _ e1 (Heap.get?_push_of_some _ q));have pr8:IsPair g8 g5.objs.size x y:=sb8.extBut _ _ (Nat.ne_of_gt zlt) (sb7.extBut _ _ (Nat.ne_of_gt zlt) (Heap.get?_push_size _ rfl));rw[size5] at zr8 pr8;refine wpAny_pure ⟨_,rfl,?_⟩;show Q (.ref g5.objs.size) _;rw[size5];exact hQ x y g8 _ px py zr8 (up _ _ D.a2 to5) (D1.frame _ _ _ s1e fun b hb o q=>up b o (D.f1 (.inl rfl) b hb) q) (D2.frame _ _ _ s2e fun b hb o q=>up b o (D.f2 (.inl rfl) b hb) q) pr8 fun c o e1 e2 e3 e4 q=>up c o e1 (keep5 c o e1 e2 e3 e4 q)
theorem uU{z TI TO i1 i2 l1 l2:Addr}{k n1 n2:Nat}{P1 P2:Nat->Value->Prop}{S1 S2:Nat->Heap->Prop}{a b:Value}{Q:Fin->Shared->Prop}(D:ZA z TI TO i1 i2 l1 l2)(D1:Draws prog w A i1 [i1,l1] n1 P1 S1)(D2:Draws prog w A i2 [i2,l2] n2 P2 S2)
  (hz:IsZip s.heap z TI TO .none) (hTI:IsPair s.heap TI (.ref i1) (.ref i2)) (hTO:IsPair s.heap TO a b) (st1:S1 k s.heap) (dE:S2 k s.heap) (hk:k=n1\/(k < n1/\k=n2))
  (hE:∀ h' e tk,(∀ c o,c≠z->c≠TO->c≠i1->c≠i2->s.heap.get? c=some o->h'.get? c=some o)->(∃ o,h'.get? e=some o/\o.cls=.type "StopIteration")->E (.ref e) { s with heap:=h',toks:=tk }) :
  wpAny (model prog w) A (Builtin.«zip.__next__» ⟨[.ref z],[]⟩) Q E s:=by
 have zrec:=hz;show wpAny _ _ (field (.ref z) 2 >>= _) _ _ _;refine wpAny_bind (wpAny_field zrec rfl (x:=.bool false) rfl ?_);show wpAny _ _ (field (.ref z) 3 >>= _) _ _ _;refine wpAny_bind (wpAny_field zrec rfl (x:=.ref TI) rfl ?_);have tirec:=hTI;refine wpAny_bind (wpAny_seqItems tirec rfl ?_);show wpAny _ _ (Builtin.SmallTypes.ownedTupleIsFree (.ref z) >>= _) _ _ _;refine wpAny_bind ?_;unfold Builtin.SmallTypes.ownedTupleIsFree;refine wpAny_bind (wpAny_field zrec rfl (x:=.none) rfl (wpAny_pure ?_));simp only[if_true];refine wpAny_bind (wpAny_rule ?_);refine wpAny_bind (wpAny_field zrec rfl (x:=.ref TO) rfl ?_);refine wpAny_bind (wpAny_setField_rec zrec (by simp) fun g1 zr1 sb1=>?_)
 replace zr1:IsZip g1 z TI TO .ellipsis:=zr1
 refine wpAny_bind ?_;simp only[List.zipIdx_cons,List.zipIdx_nil,List.forIn_cons,List.forIn_nil];refine wpAny_bind (wpAny_bind (wpAny_onRaise ?_));show wpAny _ _ (Builtin.SmallTypes.nextOf (.ref i1) >>= _) _ _ _;rcases hk with hk | ⟨hk1,hk2⟩
 ·subst hk;refine wpAny_bind (D1.done _ _ _ (d4 D1 st1 sb1.extBut (D.f1 (.inl rfl))) fun g2 e sb2 he=>?_);obtain⟨oe,hoe,hce⟩:=he;have zr2:IsZip g2 z TI TO .ellipsis:=sb2 _ _ D.a3.symm zr1;have nez:e≠z:=fun q=>by subst q;rw[zr2] at hoe;cases hoe;simp at hce
  refine wpAny_setField_rec zr2 (by simp) fun g3 _ sb3=>hE g3 e _ (fun c o e1 _ e3 _ q=>sb3.extBut _ _ e1 (sb2 _ _ e3 (sb1.extBut _ _ e1 q))) ⟨oe,sb3.extBut _ _ nez hoe,hce⟩
 ·subst hk2;refine wpAny_bind (D1.item k _ _ _ hk1 (d4 D1 st1 sb1.extBut (D.f1 (.inl rfl))) fun x g2 tk2 px st1b sb2=>wpAny_pure ?_);have to2:IsPair g2 TO a b:=sb2.extBut _ _ D.a5 (sb1.extBut _ _ D.a2 hTO);refine wpAny_bind (wpAny_seqItems to2 rfl ?_);refine wpAny_bind (wpAny_updateSeq_pair to2 fun g3 to3 sb3=>?_);refine wpAny_bind (wpAny_letGo (wpAny_pure ?_));refine wpAny_bind (wpAny_bind (wpAny_onRaise ?_));show wpAny _ _ (Builtin.SmallTypes.nextOf (.ref i2) >>= _) _ _ _;have st2c:S2 k g3:=d4 D2 (d4 D2 (d4 D2 dE sb1.extBut (D.f2 (.inl rfl))) sb2.extBut (D.f2 (.inr (.inr rfl)))) sb3.extBut (D.f2 (.inr (.inl rfl)));refine wpAny_bind (D2.done _ _ _ st2c fun g4 e sb4 he=>?_);obtain⟨oe,hoe,hce⟩:=he;have zr4:IsZip g4 z TI TO .ellipsis:=sb4 _ _ D.a4.symm (sb3.extBut _ _ D.a2.symm (sb2.extBut _ _ D.a3.symm zr1));have nez:e≠z:=fun q=>by subst q;rw[zr4] at hoe;cases hoe;simp at hce
  refine wpAny_setField_rec zr4 (by simp) fun g5 _ sb5=>hE g5 e _ (fun c o e1 e2 e3 e4 q=>sb5.extBut _ _ e1 (sb4 _ _ e4 (sb3.extBut _ _ e2 (sb2.extBut _ _ e3 (sb1.extBut _ _ e1 q))))) ⟨oe,sb5.extBut _ _ nez hoe,hce⟩
end
def pR(K:PySem.W.Frag)(k:Bool)(H:Hp)(a:Addr)(xs:List V):Prop:=if k=true then bK K H a xs else bu K H a xs
def gj(k:Bool)(h:Heap)(it a:Addr)(i:Nat):Prop:=if k=true then h.IsListIter it a i else h.IsTupleIter it a i
def gw(k:Bool)(h:Heap)(a:Addr)(items:Array Value):Prop:=if k=true then h.IsList a items else h.IsTuple a items
theorem gP{prog:Program}{w:World}{A:Around}(k:Bool)(hh:A.handled=none)(it l:Addr)(hne:l≠it)(items:Array Value):Draws prog w A it [it,l] items.size (fun i v=>items[i]?=some v) (fun i h=>gj k h it l i/\gw k h l items):=by
 cases k with
 | true=>exact Draws.list hh it l hne items
 | false=>exact cM hh it l hne items
theorem Inv.qT{X:Cx}{pins:List (Addr×Obj)}{σ:St}{H:Hp}{s:Shared}{k:Bool}{a:Addr}{xs:List V}(I:Inv X pins σ H s)(h:pR X.K k H a xs):∃ its:List Value,Vals xs its/\gw k s.heap a its.toArray:=by
 cases k with
 | true=>obtain⟨its,r,p,_⟩:=I.list h;exact⟨its,r,p.isList⟩
 | false=>obtain⟨its,r,p,_⟩:=I.tuple h;exact⟨its,r,p⟩
theorem Inv.mJ{X:Cx}{pins:List (Addr×Obj)}{σ:St}{H:Hp}{s:Shared}{k:Bool}{a:Addr}{xs ys:List V}(I:Inv X pins σ H s)(h:pR X.K k H a xs)(h':pR X.K k H a ys):xs=ys:=by
 cases k with
 | true=>exact I.kZ h h'
 | false=>exact I.e7 h h'
def AY(K:PySem.W.Frag)(k1 k2:Bool)(a b:Addr):It:=
  ⟨fun i H=>∃ xs ys x y,pR K k1 H a xs/\pR K k2 H b ys/\xs[i]?=some x/\ys[i]?=some y,
   fun i H v H'=>∃ p x y,(∀ xs,pR K k1 H a xs->xs[i]?=some x)/\(∀ ys,pR K k2 H b ys->ys[i]?=some y)/\H p=none/\v=.ref p/\H'=upd H p (.tup [x,y]),
   fun i H=>∃ xs ys,pR K k1 H a xs/\pR K k2 H b ys/\i=min xs.length ys.length⟩
theorem gw.ty{k:Bool}{h:Heap}{a:Addr}{items:Array Value}(x:gw k h a items):∃ o,h.get? a=some o/\(o.cls=.type "list"\/o.cls=.type "tuple")/\∃ n,o.data=.seq items n:=by
 cases k with
 | true=>obtain⟨o,e,c,n,d⟩:=(show h.IsList a items from x);exact⟨o,e,.inl c,n,d⟩
 | false=>obtain⟨o,e,c,n,d⟩:=(show h.IsTuple a items from x);exact⟨o,e,.inr c,n,d⟩
theorem gj.ty{k:Bool}{h:Heap}{it a:Addr}{i:Nat}(x:gj k h it a i):∃ o,h.get? it=some o/\(o.cls=.type "list_iterator"\/o.cls=.type "tuple_iterator")/\o.data=.fields #[.ref a,.int i 0]:=by
 cases k with
 | true=>obtain⟨o,e,c,d⟩:=(show h.IsListIter it a i from x);exact⟨o,e,.inl c,d⟩
 | false=>obtain⟨o,e,c,d⟩:=(show h.IsTupleIter it a i from x);exact⟨o,e,.inr c,d⟩
def EX(k:Bool):String:=if k=true then "list_iterator" else "tuple_iterator"
noncomputable abbrev E5 (h:Heap) (k1:Bool) (a:Addr):Heap:=h.push { cls:=.type (EX k1),data:=.fields #[.ref a,.int 0 0] }
noncomputable abbrev Ew (h:Heap) (k1 k2:Bool) (a b:Addr):Heap:=(E5 h k1 a).push { cls:=.type (EX k2),data:=.fields #[.ref b,.int 0 0] }
noncomputable abbrev Ep (h:Heap) (k1 k2:Bool) (a b:Addr):Heap:=(Ew h k1 k2 a b).push { cls:=.type "tuple",data:=.seq #[.ref h.objs.size,.ref (E5 h k1 a).objs.size] }
noncomputable abbrev E3 (h:Heap) (k1 k2:Bool) (a b:Addr):Heap:=(Ep h k1 k2 a b).push { cls:=.type "tuple",data:=.seq #[.none,.none] }
noncomputable abbrev BU (h:Heap) (k1 k2:Bool) (a b:Addr):Heap:=(E3 h k1 k2 a b).push { cls:=.type "zip",data:=.fields #[.none,.bool false,.bool false,.ref (Ew h k1 k2 a b).objs.size,.ref (Ep h k1 k2 a b).objs.size] }
theorem lD{h:Heap}{a:Addr}{items:Array Value}(x:h.IsTuple a items)(o:Obj):(h.push o).IsTuple a items:=by
 obtain⟨ob,e,r⟩:=x;exact⟨ob,Heap.get?_push_of_some _ e,r⟩
theorem oF(k1 k2:Bool)(a b:Addr)(xs ys:Array Value):
  Meets (Builtin.«zip.__new__» ⟨[.type "zip",.ref a,.ref b],[]⟩) (fun _ R s=>gw k1 s.heap a xs/\gw k2 s.heap b ys /\
   R (.ok (.ret (.ref (E3 s.heap k1 k2 a b).objs.size))) { s with heap:=BU s.heap k1 k2 a b }):=
 .of_wp fun prog w A R s h=>by
  obtain⟨hp,g,d,tk,os⟩:=s;obtain⟨q1,q2,h⟩:=h;have hsub:=sub_zip
  cases k1 with
  | true =>
   have w1:Heap.IsList (Shared.heap ⟨hp,g,d,tk,os⟩) a xs:=q1
   cases k2 with
   | true =>
    have w2:Heap.IsList (Shared.heap ⟨hp.push { cls:=.type "list_iterator",data:=.fields #[.ref a,.int 0 0] },g,d,tk,os⟩) b ys:=Heap.IsList.push q2 _;wp_walk using wpAny_pyIter_list w1,wpAny_pyIter_list w2;exact⟨_,rfl,h⟩
   | false =>
    have w2:Heap.IsTuple (Shared.heap ⟨hp.push { cls:=.type "list_iterator",data:=.fields #[.ref a,.int 0 0] },g,d,tk,os⟩) b ys:=lD q2 _;wp_walk using wpAny_pyIter_list w1,wpAny_pyIter_tuple w2;exact⟨_,rfl,h⟩
  | false =>
   have w1:Heap.IsTuple (Shared.heap ⟨hp,g,d,tk,os⟩) a xs:=q1
   cases k2 with
   | true =>
    have w2:Heap.IsList (Shared.heap ⟨hp.push { cls:=.type "tuple_iterator",data:=.fields #[.ref a,.int 0 0] },g,d,tk,os⟩) b ys:=Heap.IsList.push q2 _;wp_walk using wpAny_pyIter_tuple w1,wpAny_pyIter_list w2;exact⟨_,rfl,h⟩
   | false =>
    have w2:Heap.IsTuple (Shared.heap ⟨hp.push { cls:=.type "tuple_iterator",data:=.fields #[.ref a,.int 0 0] },g,d,tk,os⟩) b ys:=lD q2 _;wp_walk using wpAny_pyIter_tuple w1,wpAny_pyIter_tuple w2;exact⟨_,rfl,h⟩
theorem zc{k:Bool}{h:Heap}{it a:Addr}(e:h.get? it=some { cls:=.type (EX k),data:=.fields #[.ref a,.int 0 0] }):gj k h it a 0:=by
 cases k with
 | true=>exact⟨_,e,rfl,rfl⟩
 | false=>exact⟨_,e,rfl,rfl⟩
section
variable {prog:Program} {w:World} {A:Around} {E:Value->Shared->Prop} {s:Shared}
theorem r9{k1 k2:Bool}{a b:Addr}{xs ys:Array Value}{Q:Value->Shared->Prop}(h1:gw k1 s.heap a xs)(h2:gw k2 s.heap b ys)
  (h:∀ h',IsZip h' (s.heap.objs.size+4) (s.heap.objs.size+2) (s.heap.objs.size+3) .none->IsPair h' (s.heap.objs.size+2) (.ref s.heap.objs.size) (.ref (s.heap.objs.size+1))->IsPair h' (s.heap.objs.size+3) .none .none ->
   gj k1 h' s.heap.objs.size a 0->gj k2 h' (s.heap.objs.size+1) b 0->(∀ c o,s.heap.get? c=some o->h'.get? c=some o)->Q (.ref (s.heap.objs.size+4)) { s with heap:=h' }) :
  wpAny (model prog w) A (call (.type "zip") [.ref a,.ref b]) Q E s:=by
 refine callType_new F.called_zip (by decide) (F.typeCall_zip_2 _ _) (F.newCall_zip_2 _ _) (fun obj=>F.args_object_init_3 obj _ _) F.entry_zip_new (oF k1 k2 a b xs ys) ⟨h1,h2,?_⟩
 have e1:(E5 s.heap k1 a).objs.size=s.heap.objs.size+1:=Heap.size_push ..;have e2:(Ew s.heap k1 k2 a b).objs.size=s.heap.objs.size+2:=by rw[Heap.size_push,e1]
 have e3:(Ep s.heap k1 k2 a b).objs.size=s.heap.objs.size+3:=by rw[Heap.size_push,e2]
 have e4:(E3 s.heap k1 k2 a b).objs.size=s.heap.objs.size+4:=by rw[Heap.size_push,e3]
 have p5:(BU s.heap k1 k2 a b).get? (E3 s.heap k1 k2 a b).objs.size=some _:=Heap.get?_push_size _ rfl;have p4:(BU s.heap k1 k2 a b).get? (Ep s.heap k1 k2 a b).objs.size=some _:=Heap.get?_push_of_some _ (Heap.get?_push_size _ rfl);have p3:(BU s.heap k1 k2 a b).get? (Ew s.heap k1 k2 a b).objs.size=some _:=Heap.get?_push_of_some _ (Heap.get?_push_of_some _ (Heap.get?_push_size _ rfl));have p2:(BU s.heap k1 k2 a b).get? (E5 s.heap k1 a).objs.size=some _:=Heap.get?_push_of_some _ (Heap.get?_push_of_some _ (Heap.get?_push_of_some _ (Heap.get?_push_size _ rfl)));have p1:(BU s.heap k1 k2 a b).get? s.heap.objs.size=some _:=Heap.get?_push_of_some _ (Heap.get?_push_of_some _ (Heap.get?_push_of_some _ (Heap.get?_push_of_some _ (Heap.get?_push_size _ rfl))));show _/\_;rw[e2,e3,e4] at p5;rw[e1,e2] at p3;rw[e3] at p4;rw[e1] at p2;rw[e4];exact⟨⟨_,p5,rfl⟩,h _ p5 p3 p4 (zc p1) (zc p2) fun c o x=>Heap.get?_push_of_some _ (Heap.get?_push_of_some _ (Heap.get?_push_of_some _ (Heap.get?_push_of_some _ (Heap.get?_push_of_some _ x))))⟩
end
theorem qJ{P:Program}{w:World}{K:PySem.W.Frag}{es:List Expr}{tk:Nat}{tp:Pos}(k1 k2:Bool)(a b z TI TO i1 i2:Addr)(D:ZA z TI TO i1 i2 a b):
  Turn P w K (.Tuple es tk tp) (AY K k1 k2 a b) [z,TI,TO,i1,i2] z (fun i h=>IsZip h z TI TO .none/\IsPair h TI (.ref i1) (.ref i2)/\(∃ x y,IsPair h TO x y)/\gj k1 h i1 a i/\gj k2 h i2 b i) where
 mem:=by simp
 obj:=fun i h st c hc=>by
  obtain⟨s1,s2,⟨x,y,s3⟩,s4,s5⟩:=st;simp only[List.mem_cons,List.not_mem_nil,or_false] at hc;rcases hc with rfl | rfl | rfl | rfl | rfl
  ·exact⟨_,s1,fun v q=>by cases q⟩
  ·exact⟨_,s2,fun v q=>by cases q⟩
  ·exact⟨_,s3,fun v q=>by cases q⟩
  ·obtain⟨o,e,_,d⟩:=s4.ty;exact⟨o,e,fun v q=>by rw[d] at q;cases q⟩
  ·obtain⟨o,e,_,d⟩:=s5.ty;exact⟨o,e,fun v q=>by rw[d] at q;cases q⟩
 keep:=fun i h h' st k=>by
  obtain⟨s1,s2,⟨x,y,s3⟩,s4,s5⟩:=st;refine⟨k z (by simp) _ s1,k TI (by simp) _ s2,⟨x,y,k TO (by simp) _ s3⟩,?_,?_⟩
  ·cases k1 with
   | true=>obtain⟨o,e,r⟩:=(show h.IsListIter i1 a i from s4);exact⟨o,k i1 (by simp) o e,r⟩
   | false=>obtain⟨o,e,r⟩:=(show h.IsTupleIter i1 a i from s4);exact⟨o,k i1 (by simp) o e,r⟩
  ·cases k2 with
   | true=>obtain⟨o,e,r⟩:=(show h.IsListIter i2 b i from s5);exact⟨o,k i2 (by simp) o e,r⟩
   | false=>obtain⟨o,e,r⟩:=(show h.IsTupleIter i2 b i from s5);exact⟨o,k i2 (by simp) o e,r⟩
 item:=by
  intro X hP hw hK hc i pins s σ H E I hf st hg;subst hP hw hK;obtain⟨xs,ys,x,y,q1,q2,ex,ey⟩:=hg;obtain⟨s1,s2,⟨x0,y0,s3⟩,s4,s5⟩:=st;obtain⟨its1,rv1,p1⟩:=I.qT q1;obtain⟨its2,rv2,p2⟩:=I.qT q2;obtain⟨u1,hu1,ru1⟩:=rv1.get ex;obtain⟨u2,hu2,ru2⟩:=rv2.get ey;have lt1:i < its1.toArray.size:=by have:=(List.getElem?_eq_some_iff.mp hu1).1;simpa using this
  have lt2:i < its2.toArray.size:=by have:=(List.getElem?_eq_some_iff.mp hu2).1;simpa using this
  have hT:s.TypeIs (.ref z) "zip":=⟨_,s1,rfl⟩;have D1:=gP (prog:=X.prog) (w:=X.w) (A:=X.A.in1) k1 (I.ok.hd hc) i1 a D.a8.2.2.1 its1.toArray;have D2:=gP (prog:=X.prog) (w:=X.w) (A:=X.A.in1) k2 (I.ok.hd hc) i2 b D.a9.2.2.2 its2.toArray;unfold pyNext;refine wpAny_bind (wpAny_attempt (wpAny_callSpecial?_slot (name:=Str.ofString "__next__") hT PySem.F.slot_zip_next (wpAny_call_entry PySem.F.slot_zip_next hT PySem.F.entry_zip_next
   (qY D D1 D2 s1 s2 s3 ⟨s4,p1⟩ ⟨s5,p2⟩ lt1 lt2 fun v1 v2 h' tk' px py z1 t1 w1 w2 pr kp=>wpAny_pure ?_) (PySem.F.args_zip_next_1 _))))
  have fr:H s.heap.objs.size=none:=I.aE.fresh (Nat.le_refl _);have ev1:v1=u1:=by rw[List.getElem?_toArray,hu1] at px;exact (Option.some.inj px).symm
  have ev2:v2=u2:=by rw[List.getElem?_toArray,hu2] at py;exact (Option.some.inj py).symm
  subst ev1 ev2;have lt:∀ {c o},s.heap.get? c=some o->s.heap.objs.size≠c:=fun e=>Nat.ne_of_gt (Heap.lt_size e);refine⟨.ref s.heap.objs.size,rfl,wpAny_letOwnedTupleGo_zip z1 fun h2 z2 sb2=>?_⟩;have pr2:IsPair h2 s.heap.objs.size v1 v2:=sb2.extBut _ _ (lt s1) pr;have I2:Inv X pins σ (upd H s.heap.objs.size (.tup [x,y])) { s with heap:=h2,toks:=tk' }:=by
   refine I.gO (fp:=[z,TI,TO,i1,i2]) hf (Nat.le_refl _) (fun c o hcm ec=>?_) ⟨by show 2<=sizeLine;decide,[v1,v2],.cons ru1 (.cons ru2 .nil),⟨_,pr2,rfl,_,rfl,rfl⟩⟩
   simp only[List.mem_cons,List.not_mem_nil,or_false,not_or] at hcm;exact sb2.extBut _ _ hcm.1 (kp c o hcm.1 hcm.2.2.1 hcm.2.2.2.1 hcm.2.2.2.2 ec)
  refine⟨.ref s.heap.objs.size,_,I2,rfl,⟨s.heap.objs.size,x,y,fun zs hz=>by rw[I.mJ hz q1];exact ex,fun zs hz=>by rw[I.mJ hz q2];exact ey,fr,rfl,rfl⟩,⟨z2,?_,⟨v1,v2,?_⟩,?_,?_⟩,fun c hcm=>?_⟩
  ·exact sb2.extBut _ _ D.a1 (kp _ _ D.a1 D.b1.1 D.b1.2.1 D.b1.2.2 s2)
  ·exact sb2.extBut _ _ D.a2 t1
  ·have:=D1.frame (i+1) h' h2 w1 fun c hcm o q=>sb2.extBut _ _ (D.f1 (.inl rfl) c hcm) q;exact this.1
  ·have:=D2.frame (i+1) h' h2 w2 fun c hcm o q=>sb2.extBut _ _ (D.f2 (.inl rfl) c hcm) q;exact this.1
  ·have hn:=(hf c hcm).1;rw[ae]
   ·exact hn
   ·simp only[List.mem_cons,List.not_mem_nil,or_false] at hcm;rcases hcm with rfl | rfl | rfl | rfl | rfl
    ·exact (lt s1).symm
    ·exact (lt s2).symm
    ·exact (lt s3).symm
    ·obtain⟨o,e,_⟩:=s4.ty;exact (lt e).symm
    ·obtain⟨o,e,_⟩:=s5.ty;exact (lt e).symm
 done:=by
  intro X hP hw hK hc i pins s σ H E I hf st hg;subst hP hw hK;obtain⟨xs,ys,q1,q2,hi⟩:=hg;obtain⟨s1,s2,⟨x0,y0,s3⟩,s4,s5⟩:=st;obtain⟨its1,rv1,p1⟩:=I.qT q1;obtain⟨its2,rv2,p2⟩:=I.qT q2;have n1:its1.toArray.size=xs.length:=by rw[List.size_toArray];exact rv1.length.symm
  have n2:its2.toArray.size=ys.length:=by rw[List.size_toArray];exact rv2.length.symm
  have hT:s.TypeIs (.ref z) "zip":=⟨_,s1,rfl⟩;have D1:=gP (prog:=X.prog) (w:=X.w) (A:=X.A.in1) k1 (I.ok.hd hc) i1 a D.a8.2.2.1 its1.toArray;have D2:=gP (prog:=X.prog) (w:=X.w) (A:=X.A.in1) k2 (I.ok.hd hc) i2 b D.a9.2.2.2 its2.toArray;unfold pyNext;refine wpAny_bind (wpAny_attempt (wpAny_callSpecial?_slot (name:=Str.ofString "__next__") hT PySem.F.slot_zip_next (wpAny_call_entry PySem.F.slot_zip_next hT PySem.F.entry_zip_next
   (uU D D1 D2 s1 s2 s3 ⟨s4,p1⟩ ⟨s5,p2⟩ (by rw[n1,n2];lia) fun h' e tk' kp he=>?_) (PySem.F.args_zip_next_1 _))))
  obtain⟨o,ho,hcl⟩:=he;refine wpAny_bind (wpAny_isInstance (T:="StopIteration") (b:=true) ⟨o,ho,hcl⟩ isSubtype_stop (wpAny_pure ⟨rfl,?_⟩));refine I.turns (t':=tk') hf fun c o hcm ec=>?_;simp only[List.mem_cons,List.not_mem_nil,or_false,not_or] at hcm;exact kp c o hcm.1 hcm.2.2.1 hcm.2.2.2.1 hcm.2.2.2.2 ec
 self:=fun A i s Q E st h=>wpAny_pyIter_zip st.1 h
section
variable {X:Cx} {es:List Expr} {tk:Nat} {tp:Pos}
def Dv(K:PySem.W.Frag)(ta:TA):TI:=fun σ H R=>ta σ H fun vs H1=>∃ a b k1 k2,vs=[.ref a,.ref b]/\(∃ xs,pR K k1 H1 a xs)/\(∃ ys,pR K k2 H1 b ys)/\R (AY K k1 k2 a b) H1
theorem y2{e1 e2:Expr}{ta:TA}{p pos:Pos}(hg:Gl X "zip")(hm:X.mg "zip"=none)(ha:PA X [e1,e2] ta)(h1:bX e1=true:=by rfl)(h2:bX e2=true:=by rfl)(hv:bootBuiltins "zip"=some (.type "zip"):=by decide +kernel):
  PI X (.Tuple es tk tp) (.Call (.Name "zip" p) [e1,e2] [] pos) (Dv X.K ta):=by
 intro pins s σ H R I h;refine Call_ (dc I hg hm hv (PyProof.Rows.callWith_type1 (bw (ha pos pins s σ H _ I h) fun us s1 ⟨vs,H1,I1,r1,q1⟩=>?_) (by rw[bN h1,bN h2]) (by rw[bN h2];rfl)))
 obtain⟨a,b,k1,k2,e,⟨xs,hx⟩,⟨ys,hy⟩,q⟩:=q1;subst e;obtain⟨u,w',rfl,ru,rw'⟩:=vals2 r1
 cases ru;cases rw'
 obtain⟨its1,rv1,p1⟩:=I1.qT hx;obtain⟨its2,rv2,p2⟩:=I1.qT hy;obtain⟨o1,eo1,_⟩:=p1.ty;obtain⟨o2,eo2,_⟩:=p2.ty;have l1:a < s1.heap.objs.size:=Heap.lt_size eo1;have l2:b < s1.heap.objs.size:=Heap.lt_size eo2;refine r9 p1 p2 fun h' z1 z2 z3 z4 z5 kp=>wpAny_pyIter_zip z1 ?_;have I2:Inv X pins σ H1 { s1 with heap:=h' }:=I1.kept (t':=s1.toks) kp
 have ne:∀ (m n c:Nat),m≠n->c+m≠c+n:=fun m n c h=>by lia
 have nl:∀ (x c m:Nat),x < c->x≠c+m:=fun x c m h=>by lia
 have D:ZA (s1.heap.objs.size+4) (s1.heap.objs.size+2) (s1.heap.objs.size+3) s1.heap.objs.size (s1.heap.objs.size+1) a b:=
  ⟨ne 2 4 _ (by decide),ne 3 4 _ (by decide),ne 0 4 _ (by decide),ne 1 4 _ (by decide),ne 3 0 _ (by decide),ne 3 1 _ (by decide),ne 0 1 _ (by decide),⟨nl _ _ 4 l1,nl _ _ 3 l1,nl _ _ 0 l1,nl _ _ 1 l1⟩,⟨nl _ _ 4 l2,nl _ _ 3 l2,nl _ _ 0 l2,nl _ _ 1 l2⟩,ne 2 3 _ (by decide),ne 2 0 _ (by decide),ne 2 1 _ (by decide)⟩
 refine⟨s1.heap.objs.size+4,[s1.heap.objs.size+4,s1.heap.objs.size+2,s1.heap.objs.size+3,s1.heap.objs.size,s1.heap.objs.size+1],_,_,H1,rfl,I2,qJ k1 k2 a b _ _ _ _ _ D,⟨z1,z2,⟨_,_,z3⟩,z4,z5⟩,fun c hc=>?_,q⟩;have hc':s1.heap.objs.size<=c:=by
  simp only[List.mem_cons,List.not_mem_nil,or_false] at hc;rcases hc with rfl | rfl | rfl | rfl | rfl
  ·exact Nat.le_add_right _ _
  ·exact Nat.le_add_right _ _
  ·exact Nat.le_add_right _ _
  ·exact Nat.le_refl _
  ·exact Nat.le_add_right _ _
 exact I1.lV hc' (I1.aE.fresh hc')
end
def jI(ts us:List T):List T:=List.zipWith (fun t u=>.tup [t,u]) ts us
def ly:T->Option (List T)
 | .lst ts=>some ts
 | .tup ts=>some ts
 | .d7 ts=>some ts
 | .gg ts=>some ts
 | _=>none
def kdOf:T->Bool
 | .lst _=>true
 | .d7 _=>true
 | _=>false
theorem Vw.sq{K:PySem.W.Frag}{H:Hp}{B:aL}{v:V}{t:T}{ts:List T}(h:Vw K H B v t)(e:ly t=some ts):∃ a vs,v=.ref a/\pR K (kdOf t) H a vs/\aj K H B vs ts:=by
 cases h with
 | aI=>cases e
 | bl=>cases e
 | int=>cases e
 | str=>cases e
 | fD=>cases e
 | jH=>cases e
 | exc=>cases e
 | AE=>cases e
 | tup h r=>cases e;exact⟨_,_,rfl,bu.of h,r⟩
 | gg h r=>cases e;exact⟨_,_,rfl,.inr h,r⟩
 | lst h r=>cases e;exact⟨_,_,rfl,bK.of h,r⟩
 | d7 h r=>cases e;exact⟨_,_,rfl,h,r⟩
theorem BM{K:PySem.W.Frag}{k1 k2:Bool}{a b:Addr}{ts us:List T}:iG K (AY K k1 k2 a b) (fun H B=>(∃ vs,pR K k1 H a vs/\aj K H B vs ts)/\∃ ws,pR K k2 H b ws/\aj K H B ws us) (jI ts us):=by
 refine⟨fun H B i t hb ⟨⟨vs,h1,r1⟩,ws,h2,r2⟩ e=>?_,fun H B ⟨⟨vs,h1,r1⟩,ws,h2,r2⟩=>⟨vs,ws,h1,h2,by rw[r1.length,r2.length];simp[jI]⟩⟩
 unfold jI at e;rw[List.getElem?_zipWith] at e
 cases e1:ts[i]? with
 | none=>rw[e1] at e;cases e
 | some t1=>cases e2:us[i]? with
  | none=>rw[e1,e2] at e;cases e
  | some t2 =>
   rw[e1,e2] at e;have e':T.tup [t1,t2]=t:=Option.some.inj e;subst e';obtain⟨v1,g1,rv1⟩:=r1.get e1;obtain⟨v2,g2,rv2⟩:=r2.get e2;refine⟨⟨vs,ws,v1,v2,h1,h2,g1,g2⟩,fun x H2 y=>?_⟩;obtain⟨p,x',y',hx,hy,hp,rfl,rfl⟩:=y;have z1:=hx vs h1;have z2:=hy ws h2;rw[g1] at z1;rw[g2] at z2
   cases z1;cases z2
   have fs:Fr B H B (upd H p (.tup [v1,v2])):=Fr.same (bM.new hp);refine⟨bM.new hp,.tup (fun z=>?_) af (.cons (rv1.fr fs) (.cons (rv2.fr fs) .nil))⟩;obtain⟨o,q⟩:=hb p z;rw[hp] at q;cases q
namespace Y
section
variable {X:Cx} {e1 e2:Expr} {es:List Expr} {us:UA} {pos p tp:Pos} {k:Nat}
def iZ(us:UA):UI:=fun μ Rt=>us μ fun rs μ'=>match rs with
 | [.tr t1,.tr t2]=>(match ly t1,ly t2 with
  | some ts,some vs=>Rt (jI ts vs) none μ'
  | _,_=>False)
 | _=>False
theorem zip(K:PySem.W.Frag)(hK:X.K=K)(hg:Gl X "zip")(hm:X.mg "zip"=none)(ha:YA X [e1,e2] us)(h1:bX e1=true:=by rfl)(h2:bX e2=true:=by rfl):YI X (.Tuple es k tp) (.Call (.Name "zip" p) [e1,e2] [] pos) (iZ us):=by
 obtain⟨t,q,r⟩:=ha;subst hK;refine⟨_,⟨y2 hg hm q.h h1 h2⟩,fun F ad B σ H μ R Rt hF l q k=>r F ad B σ H μ _ _ hF l q fun vs H' rs μ' l1 ps f k1 q1=>?_⟩
 split at q1
 ·rename_i t1 t2
  cases ps with
  | cons h1 ps=>cases ps with
   | cons h2 ps =>
    cases ps;have r1:=cu h1;have r2:=cu h2
    split at q1
    ·rename_i ts us e1 e2;obtain⟨a,vs,rfl,s1,_⟩:=Vw.sq r1.vw e1;obtain⟨b,ws,rfl,s2,_⟩:=Vw.sq r2.vw e2;rw[hF] at s1 s2;refine⟨a,b,kdOf t1,kdOf t2,rfl,⟨vs,s1⟩,⟨ws,s2⟩,k _ H' μ' _ none (fun H B=>Rep F.K H B (.ref a) t1/\Rep F.K H B (.ref b) t2) l1 f k1 (BM.imp fun H B h=>?_) ⟨r1,r2⟩ (fun B1 H1 B2 H2 f h=>⟨h.1.fr f,h.2.fr f⟩) (fun j ls z=>by cases z) q1⟩
     obtain⟨g1,g2⟩:=h;obtain⟨a',vs',ea,sa,ra⟩:=Vw.sq g1.vw e1;obtain⟨b',ws',eb,sb,rb⟩:=Vw.sq g2.vw e2
     cases ea;cases eb
     rw[hF] at sa sb ra rb;exact⟨⟨vs',sa,ra⟩,ws',sb,rb⟩
    ·exact q1.elim
 ·exact q1.elim
end
end Y
theorem x6{P:Program}{w:World}{K:PySem.W.Frag}{mg:Str->Option Value}{base:Heap}{x:Str}{st:Stmt}{N ps:List Str}{k:Nat}{tsp:fE}{fa:Addr}{fd:FuncData}(F:wm K x x st fa fd)(S:av N ps (aa st))(md:List Bool)(hm:md.length=ps.length)(hN:md.length<=N.length)
  (hbody:∀ (args:List T) (Qt:R->List T->Prop),args.length=ps.length->tsp args Qt->∀ (cdv:Value) (A:Around) (outer:List Env) (s:Shared) (H:Hp) (E:XK),bC k (A.deeper (envOfC x (aa st) s.heap.objs.size fa cdv)) ->
   ∃ us,YB (fA bY P w K mg base N x (aa st) fa cdv A outer s H E).w8 (aq st) us/\us (tq md Qt) (startM md args N.length)):df P w K mg base bY (k+1) fa fd ps (spT K md tsp):=by
 refine wL F S (fun vs H Q E h=>?_) (fun cdv A outer s H vs Q E hr h=>?_)
 ·obtain⟨B,args,Qt,ag,_⟩:=h;rw[ag.len.1,hm]
 ·obtain⟨B,args,Qt,ag,bh,nd,ht,fin⟩:=h;obtain⟨us,⟨t,q,r⟩,hu⟩:=hbody args Qt (by rw[ag.len.2,hm]) ht cdv A outer s H E hr
  refine⟨t,q,?_⟩;have l0:=iB (N:=N) ag bh nd hN;have outs:∀ ad' B' σ' H' μ' (B2:aL),Rl (ja K H md vs B bh) ad' B' σ' H' μ'->(∀ b,B2 b->B' b)->Paired (Bx K H' B2) (i_ md vs) (bI md 0 μ'):=fun ad' B' σ' H' μ' B2 l hB=>by
   refine jW (ag.len.1) fun n e=>?_;obtain⟨v,t',e1,e2,q⟩:=ag.get e;rw[if_pos rfl] at q;obtain⟨a,rfl,_⟩:=q;obtain⟨⟨c,hc⟩,ha⟩:=l.par n a (kL e e1);have sl:=l.slot n _ hc;refine⟨a,c,e1,by rw[Nat.zero_add];exact hc,?_⟩
   rw[<- ha];exact (sl.2.2.2).of rfl (Fr.less hB)
  have keep:∀ ad' B' σ' H' μ',Rl (ja K H md vs B bh) ad' B' σ' H' μ'->∀ b o,H b=some o->b∉i_ md vs->H' b=some o:=fun ad' B' σ' H' μ' l b o e n=>l.old b o e fun i z=>n (eg (eQ z).1 (eQ z).2);refine r (ja K H md vs B bh) _ _ (jK vs) B (start N vs) H _ rfl l0 hu ⟨fun ad' B' σ' H' μ' l _ q=>?_,fun ad' B' σ' H' μ' v rr h q=>?_,fun _ _ _ _ _ _ _ z=>z.elim,fun _ _ _ _ _ _ _ z=>z.elim⟩
  ·exact fin .aI H' (.tr .aI) _ q (keep _ _ _ _ _ l) ⟨.aI,outs _ _ _ _ _ _ l l.bc⟩
  ·cases rr with
   | tr t=>exact fin v H' (.tr t) _ q (keep _ _ _ _ _ h.1) ⟨(show Rep K H' B' v t from h.2).fr (Fr.less h.1.bc),outs _ _ _ _ _ _ h.1 h.1.bc⟩
   | fr c =>
    obtain⟨l,a,rfl,n,h0,l2,x⟩:=h;have sub:∀ b,more B a b->more B' a b:=fun b z=>z.imp id (l.bc b);exact fin _ H' (.fr c) _ q (keep _ _ _ _ _ l) ⟨a,rfl,h0,fun z=>n (l.bc a z),x.of rfl (Fr.less sub),outs _ _ _ _ _ _ l2 sub⟩
   | br i =>
    have q':(match μ'[i]? with | some (.bx c)=>Qt (.fr c) (bI md 0 μ') | _=>False):=q
    obtain⟨l,rfl,s',c',e1,e2⟩:=h
    split at q'
    ·rename_i c ec;have sl:=l.slot i _ ec;have sub:∀ b,more B (ad' i) b->B' b:=fun b z=>z.elim (fun z=>by rw[z];exact sl.2.1) (l.bc b)
     refine fin _ H' (.fr c) _ q' (keep _ _ _ _ _ l) ⟨ad' i,rfl,sl.2.2.1,fun z=>?_,(sl.2.2.2.2).of rfl (Fr.less sub),outs _ _ _ _ _ _ l sub⟩;obtain⟨o,e⟩:=bh _ z;have:H (ad' i)=none:=sl.2.2.1;rw[this] at e;cases e
    ·exact q'.elim
namespace Y
section
variable {X:Cx} {es:List Expr} {pos:Pos} {x:Str}
def qx:List V->Option (List T)
 | []=>some []
 | v::vs=>match vF v,qx vs with
  | some t,some ts=>some (t::ts)
  | _,_=>none
theorem j0:∀ {vs:List V} {ts:List T},qx vs=some ts->vs.map vF=ts.map some
 | [],ts,h=>by cases h;rfl
 | v::vs,ts,h=>by
  unfold qx at h
  split at h
  ·rename_i t us e1 e2;cases h;rw[List.map_cons,List.map_cons,e1,j0 e2]
  ·cases h
theorem p9{vs:List V}{ts:List T}(h:jn es=some vs)(h2:qx vs=some ts):YA X es (uK ts):=consts h (j0 h2)
end
end Y
theorem ng{u w:US}{E:Ed}{μ:Mu}(h:∀ N,N=w E->u { E with nx:=N } μ):Y.Ay u w E μ:=h _ rfl
def stp(o:Option (Prop×R))(Q:R->Prop):Prop:=match o with
 | some (C,r)=>C/\Q r
 | none=>False
theorem vN(C:Prop)(r:R)(Q:R->Prop):stp (some (C,r)) Q=(C/\Q r):=rfl
def DH(o:Option (List T×Option (Nat×List T)))(Q:List T->Option (Nat×List T)->Prop):Prop:=match o with
 | some (ts,g)=>Q ts g
 | none=>False
def nb:Option Sl->Prop
 | some (.pb _)=>False
 | _=>True
def sl:Option T->Sl
 | none=>.un
 | some t=>.tr t
def AK(o:Option Sl)(i:Nat):Option (Prop×R):=match o with
 | some (.tr t)=>some (True,.tr t)
 | some (.bx _)=>some (True,.br i)
 | some (.pb _)=>some (True,.br i)
 | _=>none
def uN:R->Option Bool
 | .tr (.bl b)=>some b
 | .tr (.int i)=>some (i != 0)
 | _=>none
def AH(a b:Option T):Option (Prop×R):=match a,b with
 | some (.int i),some (.int j)=>some (True,.tr (.int (i+j)))
 | some (.str i),some (.str j)=>some (i.length+j.length<=sizeLine,.tr (.str (i++j)))
 | some (.lst xs),some (.lst ys)=>some (xs.length+ys.length<=sizeLine,.fr (.lst (xs++ys)))
 | some (.tup xs),some (.tup ys)=>some (xs.length+ys.length<=sizeLine,.tr (.tup (xs++ys)))
 | _,_=>none
def oT(o:Option T):Option (Prop×R):=match o with
 | some t=>some (True,.tr t)
 | none=>none
def Fm(a b:Option T):Option (Prop×R):=match a,b with
 | some (.lst xs),some (.int i)=>oT (bS xs i)
 | some (.tup xs),some (.int i)=>oT (bS xs i)
 | some (.gg xs),some (.int i)=>oT (bS xs i)
 | some (.str z),some (.int i)=>(match bS z.cps.toList i with | some c=>some (z.length<=sizeLine,.tr (.str ⟨#[c]⟩)) | none=>none)
 | _,_=>none
def DE(a:T):Option (Prop×R):=match a with
 | .lst xs=>some (True,.tr (.int xs.length))
 | .tup xs=>some (True,.tr (.int xs.length))
 | .d7 xs=>some (True,.tr (.int xs.length))
 | .gg xs=>some (True,.tr (.int xs.length))
 | .str z=>some (z.length<=sizeLine,.tr (.int z.length))
 | _=>none
def oa(a:Option T):Option (Prop×R):=match a with
 | some (.lst xs)=>some (True,.tr (.tup xs))
 | some (.tup xs)=>some (True,.tr (.tup xs))
 | _=>none
def yC(a:T):Option (Prop×R):=match a with
 | .lst xs=>some (True,.fr (.lst xs))
 | .tup xs=>some (True,.fr (.lst xs))
 | .d7 xs=>some (True,.fr (.lst xs))
 | .fD lo hi=>some ((hi - lo).toNat<=65536/\-(2 ^ 62)<=lo/\lo < 2 ^ 62/\-(2 ^ 62)<=hi/\hi < 2 ^ 62,.fr (.lst ((List.range (hi - lo).toNat).map fun k=>T.int (lo+(k:Nat)))))
 | _=>none
def tT(a:Option T):Option (List T):=match a with
 | some (.tup ts)=>some ts
 | some (.lst ts)=>some ts
 | _=>none
def B_(r:R)(μ:Mu):Option (List T×Option (Nat×List T)):=match r with
 | .br j=>(match cont μ (.br j) with | some (.lst ts)=>some (ts,some (j,ts)) | _=>none)
 | .tr (.lst ts)=>some (ts,none)
 | .fr (.lst ts)=>some (ts,none)
 | .tr (.tup ts)=>some (ts,none)
 | .tr (.d7 ts)=>some (ts,none)
 | .tr (.gg ts)=>some (ts,none)
 | _=>none
namespace A
open Y
theorem uC(t:T)(μ:Mu)(Q:R->Mu->Prop):Y.uC t μ Q=Q (.tr t) μ:=rfl
theorem kx(i:Nat)(μ:Mu)(Q:R->Mu->Prop):Y.kx i μ Q=stp (AK μ[i]? i) fun r=>Q r μ:=by
 unfold Y.kx AK
 cases μ[i]? with
 | none=>rfl
 | some s=>cases s<;>exact propext ⟨fun h=>by first | exact h | exact⟨trivial,h⟩,fun h=>by first | exact h | exact h.2⟩
theorem yJ(u:U2)(ua ub:UE)(μ:Mu)(Q:R->Mu->Prop):Y.yJ u ua ub μ Q=ua μ fun r1 μ1=>ub μ1 fun r2 μ2=>u r1.d r2.d μ2 Q:=rfl
theorem lR(ue:UE)(μ:Mu)(Q:Bool->Mu->Prop):Y.lR ue μ Q=ue μ fun r μ'=>match r with | .tr (.bl b)=>Q b μ' | _=>False:=rfl
theorem y3(ut:UT)(μ:Mu)(Q:Bool->Mu->Prop):Y.y3 ut μ Q=ut μ fun b μ'=>Q (!b) μ':=rfl
theorem uO(u w:UT)(μ:Mu)(Q:Bool->Mu->Prop):Y.uO u w μ Q=u μ fun b μ'=>if b=true then w μ' Q else Q false μ':=rfl
theorem De(u w:UT)(μ:Mu)(Q:Bool->Mu->Prop):Y.De u w μ Q=u μ fun b μ'=>if b=true then Q true μ' else w μ' Q:=rfl
theorem mR(ue:UE)(μ:Mu)(Q:Bool->Mu->Prop):Y.mR ue μ Q=ue μ fun r μ'=>match uN r with | some b=>Q b μ' | none=>False:=by
 unfold Y.mR uN;congr 1
 funext r μ'
 cases r with
 | tr t=>cases t<;>rfl
 | br i=>rfl
 | fr c=>rfl
theorem qz(ua ub:UE)(μ:Mu)(Q:R->Mu->Prop):Y.qz ua ub μ Q=ua μ fun r μ'=>match r with | .tr (.bl true)=>ub μ' Q | .tr (.bl false)=>Q (.tr (.bl false)) μ' | _=>False:=rfl
theorem xG(ue:UE)(μ:Mu)(Q:R->Mu->Prop):Y.xG ue μ Q=ue μ fun r μ'=>match r with | .tr (.int i)=>Q (.tr (.int (-i))) μ' | _=>False:=rfl
theorem yh(μ:Mu)(Q:List R->Mu->Prop):Y.yh μ Q=Q [] μ:=rfl
theorem oY(ue:UE)(us:UA)(μ:Mu)(Q:List R->Mu->Prop):Y.oY ue us μ Q=ue μ fun r μ1=>us μ1 fun rs μ2=>Q (r.d::rs) μ2:=rfl
theorem uK(ts:List T)(μ:Mu)(Q:List R->Mu->Prop):Y.uK ts μ Q=Q (ts.map R.tr) μ:=rfl
theorem wx(us:UA)(μ:Mu)(Q:R->Mu->Prop):Y.wx us μ Q=us μ fun rs μ'=>match trees rs with | some ts=>ts.length<=sizeLine/\Q (.tr (.tup ts)) μ' | none=>False:=rfl
theorem yc(us:UA)(μ:Mu)(Q:R->Mu->Prop):Y.yc us μ Q=us μ fun rs μ'=>match trees rs with | some ts=>ts.length<=sizeLine/\Q (.fr (.lst ts)) μ' | none=>False:=rfl
theorem Av(u:UC)(us:UA)(μ:Mu)(Q:R->Mu->Prop):Y.Av u us μ Q=us μ fun rs μ'=>u rs μ' Q:=rfl
theorem gM(μ:Mu)(Q:Option Int->Mu->Prop):Y.gM μ Q=Q none μ:=rfl
theorem pg(ue:UE)(μ:Mu)(Q:Option Int->Mu->Prop):Y.pg ue μ Q=ue μ fun r μ'=>match r with | .tr (.int i)=>Q (some i) μ' | _=>False:=rfl
theorem tL(f:T->T->Mu->(R->Mu->Prop)->Prop)(r1 r2:R)(μ:Mu)(Q:R->Mu->Prop):Y.tL f r1 r2 μ Q=(match cont μ r1,cont μ r2 with | some t,some u=>f t u μ Q | _,_=>False):=rfl
theorem CA(C:Int->Int->Prop)(g:Int->Int->Int)(i j:Int)(μ:Mu)(Q:R->Mu->Prop):uT C g (.int i) (.int j) μ Q=(C i j/\Q (.tr (.int (g i j))) μ):=rfl
theorem EI(g:Int->Int->Bool)(i j:Int)(μ:Mu)(Q:R->Mu->Prop):Fw g (.int i) (.int j) μ Q=Q (.tr (.bl (g i j))) μ:=rfl
theorem fN(r1 r2:R)(μ:Mu)(Q:R->Mu->Prop):Y.fN r1 r2 μ Q=stp (AH (cont μ r1) (cont μ r2)) fun r=>Q r μ:=by
 unfold Y.fN AH
 cases cont μ r1 with
 | none=>rfl
 | some t=>cases cont μ r2 with
  | none=>cases t<;>rfl
  | some u=>cases t<;>cases u<;>first | rfl | exact propext ⟨fun h=>⟨trivial,h⟩,fun h=>h.2⟩
theorem oj(r1 r2:R)(μ:Mu)(Q:R->Mu->Prop):Y.oj r1 r2 μ Q=stp (Fm (cont μ r1) (cont μ r2)) fun r=>Q r μ:=by
 unfold Y.oj Fm;have e:∀ (xs:List T) (i:Int),(match bS xs i with | some t=>Q (.tr t) μ | none=>False)=stp (oT (bS xs i)) fun r=>Q r μ:=fun xs i=>by
  cases bS xs i with
  | none=>rfl
  | some t=>exact propext ⟨fun h=>⟨trivial,h⟩,fun h=>h.2⟩
 cases cont μ r1 with
 | none=>rfl
 | some t=>cases cont μ r2 with
  | none=>cases t<;>rfl
  | some u =>
   cases t<;>cases u<;>first | rfl | exact e _ _ | skip
   rename_i z i;show (z.length<=sizeLine/\(match bS z.cps.toList i with | some c=>Q (.tr (.str ⟨#[c]⟩)) μ | none=>False))=stp (match bS z.cps.toList i with | some c=>some (z.length<=sizeLine,.tr (.str ⟨#[c]⟩)) | none=>none) fun r=>Q r μ
   cases bS z.cps.toList i with
   | none=>exact propext ⟨fun h=>h.2,fun h=>h.elim⟩
   | some c=>rfl
theorem qF(neg:Bool)(t:T)(μ:Mu)(Q:R->Mu->Prop):Y.qF neg t .aI μ Q=Q (.tr (.bl (match t with | .aI=>!neg | _=>neg))) μ:=rfl
theorem Dr(neg:Bool)(i j:Int)(μ:Mu)(Q:R->Mu->Prop):Y.EA neg (.int i) (.int j) μ Q=Q (.tr (.bl (if neg then !decide (i=j) else decide (i=j)))) μ:=rfl
theorem Fh(neg:Bool)(xs ys:List T)(μ:Mu)(Q:R->Mu->Prop):Y.EA neg (.lst xs) (.lst ys) μ Q=(neg=false/\xs.all bP=true/\ys.all bP=true/\Q (.tr (.bl (nW xs ys))) μ):=rfl
theorem se(f:T->Mu->(R->Mu->Prop)->Prop)(r:R)(μ:Mu)(Q:R->Mu->Prop):Y.se f [r] μ Q=(match cont μ r with | some t=>f t μ Q | none=>False):=rfl
theorem lM(t:T)(μ:Mu)(Q:R->Mu->Prop):Y.lM t μ Q=stp (DE t) fun r=>Q r μ:=by
 cases t<;>first | rfl | exact propext ⟨fun h=>⟨trivial,h⟩,fun h=>h.2⟩
theorem fV(r:R)(μ:Mu)(Q:R->Mu->Prop):Y.fV [r] μ Q=stp (oa (cont μ r)) fun r=>Q r μ:=by
 show (match cont μ r with | some (.lst xs)=>Q (.tr (.tup xs)) μ | some (.tup xs)=>Q (.tr (.tup xs)) μ | _=>False)=_
 unfold oa
 cases cont μ r with
 | none=>rfl
 | some t=>cases t<;>first | rfl | exact propext ⟨fun h=>⟨trivial,h⟩,fun h=>h.2⟩
theorem mx(t:T)(μ:Mu)(Q:R->Mu->Prop):Y.mx t μ Q=stp (yC t) fun r=>Q r μ:=by
 cases t<;>first | rfl | exact propext ⟨fun h=>⟨trivial,h⟩,fun h=>h.2⟩ | exact propext ⟨fun h=>⟨⟨h.1,h.2.1,h.2.2.1,h.2.2.2.1,h.2.2.2.2.1⟩,h.2.2.2.2.2⟩,fun h=>⟨h.1.1,h.1.2.1,h.1.2.2.1,h.1.2.2.2.1,h.1.2.2.2.2,h.2⟩⟩
theorem Bp(g:Int->Int->Int)(i j:Int)(μ:Mu)(Q:R->Mu->Prop):Y.Bp g [.tr (.int i),.tr (.int j)] μ Q=Q (.tr (.int (g i j))) μ:=rfl
theorem CG(k:Bool)(μ:Mu)(Q:R->Mu->Prop):Y.vR [.tr (.bl k)] μ Q=Q (.tr (.int (if k=true then 1 else 0))) μ:=rfl
theorem mq(ue:UE)(g:UG)(E:Ed)(μ:Mu):Y.mq ue g E μ=ue μ fun r μ'=>g r μ' E.nx:=rfl
theorem Gs(i:Nat)(t:T)(μ:Mu)(Q:Mu->Prop):Y.gN i (.tr t) μ Q=(rZ μ i/\Q (μ.set i (.tr t))):=rfl
theorem G6(i:Nat)(t:T)(μ:Mu)(Q:Mu->Prop):Y.gN i (.fr t) μ Q=(rZ μ i/\Q (μ.set i (.bx t))):=rfl
theorem rZ(μ:Mu)(i:Nat):Y.rZ μ i=nb μ[i]?:=rfl
theorem CO(t:T):nb (some (.tr t))=True:=rfl
theorem DF(t:T):nb (some (.bx t))=True:=rfl
theorem CW:nb (some .un)=True:=rfl
theorem D3(o:Option T):nb (some (sl o))=True:=by cases o<;>rfl
theorem gT(n:Nat)(gs:pw)(r:R)(μ:Mu)(Q:Mu->Prop):Y.gT n gs r μ Q=(match tT (cont μ r.d) with | some ts=>ts.length=n/\gs ts μ Q | none=>False):=by
 unfold Y.gT tT
 cases cont μ r.d with
 | none=>rfl
 | some t=>cases t<;>rfl
theorem E4(g:UG)(gs:pw)(t:T)(ts:List T)(μ:Mu)(Q:Mu->Prop):Y.E4 g gs (t::ts) μ Q=g (.tr t) μ fun μ'=>gs ts μ' Q:=rfl
theorem E2(μ:Mu)(Q:Mu->Prop):Y.E2 [] μ Q=Q μ:=rfl
theorem gS(uo ui:UE)(t:T)(μ:Mu)(Q:Mu->Prop):Y.gS uo ui (.tr t) μ Q=uo μ fun ro μ1=>ui μ1 fun ri μ2=>(match ro,ri with
  | .br j,.tr (.int k)=>(match (μ2[j]?).bind Sl.box with
   | some (.lst ts)=>(match kU ts.length k with
    | some n=>Q (dv μ2 j (.lst (ts.set n t)))
    | none=>False)
   | _=>False)
  | _,_=>False):=rfl
theorem ya(ue:UE)(E:Ed)(μ:Mu):Y.ya ue E μ=ue μ E.rt:=rfl
theorem pK(ue:UE)(E:Ed)(μ:Mu):Y.pK ue E μ=ue μ fun _ μ'=>E.nx μ':=rfl
theorem xD(c:UT)(u w:US)(E:Ed)(μ:Mu):Y.xD c u w E μ=c μ fun b μ'=>if b=true then u E μ' else w E μ':=rfl
theorem zm(ue:UE)(μ:Mu)(Rt:List T->Option (Nat×List T)->Mu->Prop):Y.zm ue μ Rt=ue μ fun r μ'=>DH (B_ r μ') fun ts g=>Rt ts g μ':=by
 unfold Y.zm B_;congr 1
 funext r μ'
 cases r with
 | tr t=>cases t<;>rfl
 | br j =>
  show (match cont μ' (.br j) with | some (.lst ts)=>Rt ts (some (j,ts)) μ' | _=>False)=DH (match cont μ' (.br j) with | some (.lst ts)=>some (ts,some (j,ts)) | _=>none) fun ts g=>Rt ts g μ'
  cases cont μ' (.br j) with
  | none=>rfl
  | some t=>cases t<;>rfl
 | fr c=>cases c<;>rfl
theorem EG(us:UA)(μ:Mu)(Rt:List T->Option (Nat×List T)->Mu->Prop):Y.EG us μ Rt=us μ fun rs μ'=>match rs with
 | [.tr (.int j)]=>-(2 ^ 62)<=j/\j < 2 ^ 62/\Rt ((List.range j.toNat).map fun k=>T.int (0+(k:Nat))) none μ'
 | _=>False:=rfl
theorem Es(us:UA)(μ:Mu)(Rt:List T->Option (Nat×List T)->Mu->Prop):Y.Es us μ Rt=us μ fun rs μ'=>match rs with
 | [.tr (.int i),.tr (.int j)]=>(-(2 ^ 62)<=i/\i < 2 ^ 62/\-(2 ^ 62)<=j/\j < 2 ^ 62)/\Rt ((List.range (j - i).toNat).map fun k=>T.int (i+(k:Nat))) none μ'
 | _=>False:=rfl
theorem Ez(us:UA)(μ:Mu)(Rt:List T->Option (Nat×List T)->Mu->Prop):Y.Ez us μ Rt=us μ fun rs μ'=>match rs with | [.tr (.tup ts)]=>Rt (pairs ts) none μ' | _=>False:=rfl
theorem iZ(us:UA)(μ:Mu)(Rt:List T->Option (Nat×List T)->Mu->Prop):Y.iZ us μ Rt=us μ fun rs μ'=>match rs with
 | [.tr t1,.tr t2]=>(match ly t1,ly t2 with | some ts,some vs=>Rt (jI ts vs) none μ' | _,_=>False)
 | _=>False:=rfl
theorem tI(ui:UI)(g:UG)(body:US)(E:Ed)(μ:Mu):Y.tI ui g body E μ=ui μ fun items gd μ'=>match gd with
 | none=>eC g body E items μ'
 | some (j,_)=>(match μ'[j]? with
  | some (.bx c)=>eC g body E items (μ'.set j (.tr c))
  | _=>False):=rfl
theorem i6(own:T->Mu->Option Mu)(dr:Mu->Mu)(ui:UI)(ut:UT)(ue:UE)(μ:Mu)(Q:R->Mu->Prop):Y.i6 own dr ui ut ue μ Q=ui μ fun items gd μ'=>nL gd own dr ut ue Q items [] μ':=rfl
theorem E1(um:UM)(uo:UE)(us:UA)(μ:Mu)(Q:R->Mu->Prop):Y.E1 um uo us μ Q=uo μ fun ro μ1=>match ro with | .br j=>Y.ED ((μ1[j]?).bind Sl.box) (us μ1 fun rs μ2=>um j rs μ2 Q) | _=>False:=rfl
theorem C0(ts:List T)(p:Prop):Y.ED (some (.lst ts)) p=p:=rfl
theorem fB(j:Nat)(t:T)(μ:Mu)(Q:R->Mu->Prop):Y.fB j [.tr t] μ Q=(match (μ[j]?).bind Sl.box with | some (.lst ts)=>ts.length < sizeLine/\Q (.tr .aI) (dv μ j (.lst (ts++[t]))) | _=>False):=rfl
theorem CQ(md:List Bool)(tsp:fE)(us:UA)(μ:Mu)(Q:R->Mu->Prop):Y.CQ md tsp us μ Q=us μ fun rs μ1=>match uW μ1 md rs with
 | some args=>(fh md rs).Nodup/\(∀ j∈fh md rs,j∉gx md rs)/\tsp args fun r outs=>(gx md rs=[]\/(mf r=true/\outs.all gq=true))/\Q r (putAll (fh md rs) outs μ1)
 | none=>False:=rfl
theorem Gw(ts:List T):ly (.lst ts)=some ts:=rfl
theorem Gr(ts:List T):ly (.tup ts)=some ts:=rfl
theorem FJ(xs:List T):oa (some (.lst xs))=some (True,.tr (.tup xs)):=rfl
theorem ET(xs:List T):yC (.tup xs)=some (True,.fr (.lst xs)):=rfl
theorem Fs(xs:List T):tT (some (.tup xs))=some xs:=rfl
theorem Ds(ts:List T)(μ:Mu):B_ (.fr (.lst ts)) μ=some (ts,none):=rfl
theorem Dk(ts:List T)(μ:Mu):B_ (.tr (.tup ts)) μ=some (ts,none):=rfl
theorem EZ(μ:Mu)(t:T):cont μ (.tr t)=some t:=rfl
theorem FC(μ:Mu)(i:Nat):cont μ (.br i)=(μ[i]?).bind Sl.box:=rfl
theorem Ff(t:T):R.d (.tr t)=.tr t:=rfl
theorem Fp(t:T):R.d (.fr t)=.tr t:=rfl
theorem FH(i:Nat):R.d (.br i)=.br i:=rfl
theorem FX(b:Bool):uN (.tr (.bl b))=some b:=rfl
end A
theorem cV{g:UG}{body:US}{E:Ed}(I:List T->Mu->Prop){items:List T}{μ:Mu}(h0:I items μ)(hn:∀ μ,I [] μ->E.nx μ)
  (hs:∀ t ts μ (N:Mu->Prop),I (t::ts) μ->(∀ μ',I ts μ'->N μ')->g (.tr t) μ fun μ1=>body { E with nx:=N,ct:=N,bk:=E.nx } μ1):Y.eC g body E items μ:=by
 induction items generalizing μ with
 | nil=>exact hn μ h0
 | cons t ts ih=>exact hs t ts μ _ h0 fun μ' h=>ih h
theorem d5{gd:Option (Nat×List T)}{own:T->Mu->Option Mu}{dr:Mu->Mu}{ut:UT}{ue:UE}{Q:R->Mu->Prop}(I:List T->List T->Mu->Prop){items acc:List T}{μ:Mu}(h0:I items acc μ)(hn:∀ acc μ,I [] acc μ->Y.D0 gd μ/\Q (.fr (.lst acc)) μ)
  (hs:∀ t r acc μ (N:List T->Mu->Prop),I (t::r) acc μ->(∀ acc' μ',I r acc' μ'->N acc' μ')->Y.D0 gd μ/\acc.length < sizeLine/\(match own t μ with
   | none=>False
   | some μ1=>ut μ1 fun b μ2=>if b=true then ue μ2 fun rr μ3=>(match rr.d with
     | .tr t'=>N (acc++[t']) (dr μ3)
     | _=>False) else N acc (dr μ2))):Y.nL gd own dr ut ue Q items acc μ:=by
 induction items generalizing μ acc with
 | nil=>exact hn acc μ h0
 | cons t ts ih=>exact hs t ts acc μ (fun a m=>Y.nL gd own dr ut ue Q ts a m) h0 fun a' μ' h=>ih h
def jh(K:PySem.W.Frag):Sp:=fun vs H Q _=>∃ (a:Addr) (ns:List Int),vs=[.ref a]/\bK K H a (ns.map V.int)/\ns.length<=63/\∀ H',Q (.bl true) H'
theorem cO{K:PySem.W.Frag}{H:Hp}{B:aL}:∀ ns:List Int,aj K H B (ns.map V.int) (ns.map T.int)
 | []=>.nil
 | n::ns=>.cons (.int n) (cO ns)
theorem A0{P:Program}{w:World}{K:PySem.W.Frag}{mg:Str->Option Value}{base:Heap}{k:Nat}{fa:Addr}{fd:FuncData}{ps:List Str}(h:df P w K mg base bY k fa fd ps (spT K [false] B4)):df P w K mg base bY k fa fd ps (jh K):=by
 refine h.imp fun vs H Q E ⟨a,ns,e,hs,hl,q⟩=>?_;subst e;refine⟨fun _=>False,[.d7 (ns.map T.int)],fun r outs=>r=.tr (.bl true),⟨.d7 ?_ (cO ns),trivial⟩,fun b z=>z.elim,List.nodup_nil,⟨ns,rfl,hl,rfl⟩,fun v H' r outs hr _ res=>?_⟩
 ·rcases hs with hs | hs
  ·exact .inl ⟨fun z=>z,hs⟩
  ·exact .inr hs
 ·subst hr;have rv:=res.1;cases rv;exact q H'
end L2
namespace L2
open PySem PySem.Spec PyProof.Rows
namespace Y
theorem B7{X:Cx}(hu:X.A.units < cLine):cN X (compareOp .NotEq) (yv X.K true):=by
 intro pins s σ H x y v u Q I rx ry h;obtain⟨a,b,xs,ys,rfl,rfl,hq,fx,fy,q⟩:=h
 cases rx;cases ry
 have item:∀ (its its2:List Value),Vals xs its->Vals ys its2->∀ j (h1:j < its.toArray.size) (h2:j < its2.toArray.size),SeqAt.EqAt X.A.in1 s its.toArray[j] its2.toArray[j] (match xs[j]?,ys[j]? with | some x,some y=>BZ x y | _,_=>true):=fun its its2 r1 r2 j h1 h2=>by
  have l1:=r1.length;have l2:=r2.length;rw[List.size_toArray] at h1 h2;obtain⟨u1,e1,g1⟩:=r1.get (i:=j) (x:=xs[j]) (List.getElem?_eq_getElem (by lia))
  obtain⟨u2,e2,g2⟩:=r2.get (i:=j) (x:=ys[j]) (List.getElem?_eq_getElem (by lia))
  rw[List.getElem?_eq_getElem (show j < xs.length by lia),List.getElem?_eq_getElem (show j < ys.length by lia)]
  have z1:its.toArray[j]=u1:=by
   rw[List.getElem?_eq_getElem h1] at e1;simpa using e1
  have z2:its2.toArray[j]=u2:=by
   rw[List.getElem?_eq_getElem h2] at e2;simpa using e2
  rw[z1,z2];exact t5 g1 g2 (List.all_eq_true.mp fx _ (List.getElem_mem _)) (List.all_eq_true.mp fy _ (List.getElem_mem _))
 rcases hq with ⟨ha,hb⟩ | ⟨ha,hb⟩
 ·obtain⟨its,r1,p1,_⟩:=I.list ha;obtain⟨its2,r2,p2,_⟩:=I.list hb;have l1:=r1.length;have l2:=r2.length;by_cases e:xs.length=ys.length
  ·refine SeqAt.RcNeAt.lists p1.isList p2.isList (by rw[List.size_toArray,List.size_toArray];lia) hu (item its its2 r1 r2) X.prog X.w X.xe _ ⟨.bl _,H,I,rfl,q _ ?_⟩
   rw[List.size_toArray,<- l1,<- e,Nat.min_self,beq_self_eq_true,Bool.true_and]
   try rfl
  ·refine SeqAt.RcNeAt.lists_lengths p1.isList p2.isList (by rw[List.size_toArray,List.size_toArray,bne_iff_ne];lia) hu X.prog X.w X.xe _ ⟨.bl true,H,I,rfl,?_⟩
   exact q false (by rw[beq_eq_false_iff_ne.mpr e,Bool.false_and])
 ·obtain⟨its,r1,p1,_⟩:=I.tuple ha;obtain⟨its2,r2,p2,_⟩:=I.tuple hb;have l1:=r1.length;have l2:=r2.length;refine SeqAt.RcNeAt.tuples p1 p2 hu (item its its2 r1 r2) X.prog X.w X.xe _ ⟨.bl _,H,I,rfl,q _ ?_⟩;rw[List.size_toArray,List.size_toArray,<- l1,<- l2,Bool.and_comm]
  try rfl
def DM(K:PySem.W.Frag):R2:=fun x y H Q=>AN x y H Q\/yv K true x y H Q
theorem tZ{X:Cx}(K:PySem.W.Frag)(hK:X.K=K)(hu:X.A.units < cLine):cN X (compareOp .NotEq) (DM K):=by subst hK;exact yL.or (B7 hu)
def E6:T->T->Mu->(R->Mu->Prop)->Prop:=fun t u μ Q=>match t,u with
 | .int i,.int j=>Q (.tr (.bl (!decide (i=j)))) μ
 | .str i,.str j=>Q (.tr (.bl (!decide (i=j)))) μ
 | .bl i,.bl j=>Q (.tr (.bl (!decide (i=j)))) μ
 | .lst xs,.lst ys=>xs.all bP=true/\ys.all bP=true/\Q (.tr (.bl (!nW xs ys))) μ
 | .tup xs,.tup ys=>xs.all bP=true/\ys.all bP=true/\Q (.tr (.bl (!nW xs ys))) μ
 | _,_=>False
theorem uY{K:PySem.W.Frag}:kW K (DM K) (tL E6):=fU fun F ad B σ H μ Q Qt x y t u hK l v1 v2 q k=>by
 subst hK;unfold E6 at q
 split at q
 ·cases v1;cases v2
  refine .inl ⟨rfl,?_⟩;rw[dV (f:=V.int) (fun a b h=>by injection h)]
  exact k _ H _ (Vr.flat l (.bl _)) Fr.refl q
 ·cases v1;cases v2
  refine .inl ⟨rfl,?_⟩;rw[dV (f:=V.str) (fun a b h=>by injection h)]
  exact k _ H _ (Vr.flat l (.bl _)) Fr.refl q
 ·cases v1;cases v2
  refine .inl ⟨rfl,?_⟩;rw[dV (f:=V.bl) (fun a b h=>by injection h)]
  exact k _ H _ (Vr.flat l (.bl _)) Fr.refl q
 ·cases v1 with
  | lst ha ra=>cases v2 with
   | lst hb rb=>exact .inr ⟨_,_,_,_,rfl,rfl,.inl ⟨bK.of ha,bK.of hb⟩,bL ra q.1,bL rb q.2.1,fun c hc=>by
     rw[<- kD ra rb q.1 q.2.1] at hc;subst hc;exact k _ H _ (Vr.flat l (.bl _)) Fr.refl q.2.2⟩
 ·cases v1 with
  | tup ha ra=>cases v2 with
   | tup hb rb=>exact .inr ⟨_,_,_,_,rfl,rfl,.inr ⟨bu.of ha,bu.of hb⟩,bL ra q.1,bL rb q.2.1,fun c hc=>by
     rw[<- kD ra rb q.1 q.2.1] at hc;subst hc;exact k _ H _ (Vr.flat l (.bl _)) Fr.refl q.2.2⟩
 ·exact q.elim
theorem iw:fillsNumberSlot (.type "tuple") "mul"=pure false:=
 PySem.fillsNumberSlot_seq (id:="tuple.__mul__") (r:=some (.builtin "tuple.__rmul__")) PySem.F.slot_tuple_mul.lookup (by decide +kernel) PySem.F.slot_tuple_rmul.lookup (by decide +kernel)
theorem ow:seqRepeat? (.type "tuple")=pure (some (.builtin "tuple.__mul__")):=by
 unfold seqRepeat?;rw[PySem.seqSlot_of (T:="tuple") (name:="__mul__") (id:="tuple.__mul__") PySem.F.slot_tuple_mul.lookup (by decide +kernel),PySem.seqSlot_of (T:="tuple") (name:="__rmul__") (id:="tuple.__rmul__") PySem.F.slot_tuple_rmul.lookup (by decide +kernel)];rfl
theorem vH(a:Int)(t:Tok)(l:Addr)(ob:Obj)(items:Array Value)(n:Nat)(hc:ob.cls=.type "tuple")(hd:ob.data=.seq items n):
  Meets (Builtin.«int.__rmul__» ⟨[.int a t,.ref l],[]⟩) (fun _ R s=>s.heap.get? l=some ob/\R (.ok (.ret Value.notImplemented)) s):=
 .of_wp fun prog w A R s h=>by
  obtain⟨hp,g,d,tk,os⟩:=s;obtain⟨hl,h⟩:=h;obtain⟨c,dd,da,sl⟩:=ob;simp only at hc hd;subst hc hd
  wp_walk
  exact⟨_,rfl,h⟩
theorem xf(l:Addr)(items:Array Value)(ob:Obj)(n:Nat)(k:Int)(t:Tok)(hc:ob.cls=.type "tuple")(hd:ob.data=.seq items n)(hne:items.isEmpty=false)(h1:1 < k)(h2:k<=1000)(hsz:items.size<=1000):
  Meets (Builtin.«tuple.__mul__» ⟨[.ref l,.int k t],[]⟩) (fun _ R s=>s.heap.get? l=some ob/\R (.ok (.ret (.ref s.heap.objs.size))) { s with heap:=s.heap.push { cls:=.type "tuple",data:=.seq ((List.replicate k.toNat items).foldl (·++·) #[]) } }):=
 .of_wp fun prog w A R s h=>by
  obtain⟨hp,g,d,tk,os⟩:=s;obtain⟨hl,h⟩:=h;obtain⟨c,dd,da,sl⟩:=ob;simp only at hc hd;subst hc hd;have e1:(decide (k < -(2 ^ 63)) || decide (k >= 2 ^ 63))=false:=by rw[decide_eq_false (by lia),decide_eq_false (by lia)];rfl
  have e2:(items.isEmpty || k == 1)=false:=by rw[hne,beq_eq_false_iff_ne.mpr (by lia)];rfl
  have e3:(decide (k<=0) || items.isEmpty)=false:=by rw[hne,decide_eq_false (by lia)];rfl
  wp_walk using AutoSeq1.wpAny_loadPart' hl;rw[if_neg (by rw[e1];exact Bool.false_ne_true)]
  have ht:IsTup (Shared.heap ⟨hp,g,d,tk,os⟩) l items:=⟨_,hl,rfl,n,rfl⟩;show wpAny _ _ (Builtin.Tuple.tupleItemsOf (.ref l) >>= _) _ _ _;refine wpAny_bind (tupleItemsOf_ ht ?_);rw[if_neg (by rw[e2];exact Bool.false_ne_true)]
  show wpAny _ _ (if (decide (k<=0) || items.isEmpty)=true then _ else _) _ _ _
  rw[if_neg (by rw[e3];exact Bool.false_ne_true)]
  have hm:(items.size:Int)*k<=1000*1000:=Int.mul_le_mul (by lia) h2 (by lia) (by lia)
  show wpAny _ _ (if (items.size:Int)*k >(2 ^ 63 - 1) / 8 then _ else _) _ _ _
  rw[if_neg (by lia)]
  show wpAny _ _ (if Builtin.Tuple.tupleTooMany ((items.size:Int)*k)=true then _ else _) _ _ _
  have e4:Builtin.Tuple.tupleTooMany ((items.size:Int)*k)=false:=decide_eq_false (by
   have:((sizeLine:Nat):Int) >= 1000000:=by decide
   lia)
  rw[if_neg (by rw[e4];exact Bool.false_ne_true)]
  have hl2:((List.replicate k.toNat items).foldl (·++·) #[]).size<=sizeLine:=by
   have fs:∀ (m:Nat) (acc:Array Value),((List.replicate m items).foldl (·++·) acc).size=acc.size+m*items.size:=fun m=>by
    induction m with
    | zero=>intro acc;simp
    | succ m ih=>intro acc;rw[List.replicate_succ,List.foldl_cons,ih,Array.size_append,Nat.succ_mul];lia
   rw[fs];have h3:k.toNat*items.size<=1000*1000:=Nat.mul_le_mul (by lia) hsz
   have h4:(1000000:Nat)<=sizeLine:=by decide
   simp;lia
  exact wpAny_bind (m:=Builtin.Tuple.tupleExact _) (wpAny_newObj_type (wpAny_pure ⟨_,rfl,h⟩) hl2)
theorem rT(its:List Value):∀ (m:Nat) (acc:List Value),(List.replicate m its.toArray).foldl (·++·) acc.toArray=(acc++(List.replicate m its).flatten).toArray:=fun m acc=>foldl_rep its m acc
def za(K:PySem.W.Frag):R2:=fun x y H Q=>∃ a k xs,x=.ref a/\y=.int k/\bu K H a xs/\xs≠[]/\xs.length<=1000/\1 < k/\k<=1000/\∀ p,H p=none->Q (.ref p) (upd H p (.tup (List.replicate k.toNat xs).flatten))
theorem yf{X:Cx}:cN X (binaryOp .Mult) (za X.K):=by
 intro pins s σ H x y v u Q I rx ry h;obtain⟨a,k,xs,rfl,rfl,hx,hne,hsz,h1,h2,q⟩:=h;cases rx;obtain⟨t,rfl⟩:=ry;obtain⟨its,r,p,hz⟩:=I.tuple hx;obtain⟨ob,ho,hc,n,hd⟩:=id p;have hlen:=r.length;have hemp:its.toArray.isEmpty=false:=by
  cases its with
  | nil=>cases r;exact absurd rfl hne
  | cons a b=>rfl
 refine wpAny_binaryOp_repeat_ref (T:="tuple") (U:="int") (by decide) ⟨_,ho,hc⟩ (fun s'=>typeIs_int s' k t) iw PySem.F.fills_int_mul PySem.F.slot_int_rmul ow PySem.F.slot_int_index.lookup
  (call_meets PySem.F.slot_int_rmul (typeIs_int s k t) PySem.F.entry_int_rmul (PySem.F.args_int_rmul_2 _ _) (vH k t a ob its.toArray n hc hd)
   ⟨ho,rfl,⟨_,ho,hc⟩,call_meets PySem.F.slot_tuple_mul ⟨_,ho,hc⟩ PySem.F.entry_tuple_mul (PySem.F.args_tuple_mul_2 _ _) (xf a its.toArray ob n k t hc hd hemp h1 h2 (by rw[List.size_toArray];lia)) ⟨ho,?_⟩⟩)
 have e0:=rT its k.toNat [];rw[List.nil_append] at e0;have e0':(List.replicate k.toNat its.toArray).foldl (·++·) #[]=(List.replicate k.toNat its).flatten.toArray:=e0;rw[e0'];refine⟨.ref s.heap.objs.size,_,I.laid (t':=s.toks) (o:=.tup (List.replicate k.toNat xs).flatten) (fun b ob q=>Heap.get?_push_of_some _ q) (Nat.le_refl _) ?_,rfl,q _ (I.aE.fresh (Nat.le_refl _))⟩;refine⟨?_,_,r.rep k.toNat,cT.new _ _⟩;rw[len_rep];have h3:k.toNat*xs.length<=1000*1000:=Nat.mul_le_mul (by lia) hsz
 exact Nat.le_trans h3 (by decide)
def zf(K:PySem.W.Frag):R2:=fun x y H Q=>BB x y H Q\/za K x y H Q
theorem cy{X:Cx}(K:PySem.W.Frag)(hK:X.K=K):cN X (binaryOp .Mult) (zf K):=by subst hK;exact wq.or yf
def pS:U2:=fun r1 r2 μ Q=>match cont μ r1,cont μ r2 with
 | some (.int i),some (.int j)=>nA i j/\Q (.tr (.int (i*j))) μ
 | some (.lst xs),some (.int k)=>-(2 ^ 63)<=k/\k < 2 ^ 63/\xs.length*k.toNat<=sizeLine/\Q (.fr (.lst (List.replicate k.toNat xs).flatten)) μ
 | some (.tup xs),some (.int k)=>(xs≠[]/\xs.length<=1000/\1 < k/\k<=1000)/\Q (.tr (.tup (List.replicate k.toNat xs).flatten)) μ
 | _,_=>False
theorem cx{K:PySem.W.Frag}:kW K (zf K) pS:=by
 intro F ad B σ H μ Q Qt x y r1 r2 hK l h1 h2 q k;unfold pS at q
 split at q
 ·rename_i i j e1 e2;exact .inl (tm F ad B σ H μ Q Qt x y r1 r2 hK l h1 h2 (by unfold p0;rw[e1,e2];exact q) k)
 ·rename_i xs j e1 e2;exact .inl (tm F ad B σ H μ Q Qt x y r1 r2 hK l h1 h2 (by unfold p0;rw[e1,e2];exact q) k)
 ·rename_i xs j e1 e2;have a:=h1.vw l e1;have b:=h2.vw l e2;subst hK;cases b
  cases a with
  | tup ha ra =>
   refine .inr ⟨_,_,_,rfl,rfl,bu.of ha,?_,by rw[ra.length];exact q.1.2.1,q.1.2.2.1,q.1.2.2.2,fun p hp=>k _ _ _ μ (Vr.vp l (ra.rep _) hp) (Fr.same (bM.new hp)) (Kp.refl μ) q.2⟩
   rintro rfl;cases ra;exact q.1.1 rfl
 ·exact q.elim
end Y
namespace A
theorem zN(i j:Int)(μ:Mu)(Q:R->Mu->Prop):Y.pS (.tr (.int i)) (.tr (.int j)) μ Q=(nA i j/\Q (.tr (.int (i*j))) μ):=rfl
theorem zV(xs:List T)(k:Int)(μ:Mu)(Q:R->Mu->Prop):Y.pS (.tr (.lst xs)) (.tr (.int k)) μ Q=(-(2 ^ 63)<=k/\k < 2 ^ 63/\xs.length*k.toNat<=sizeLine/\Q (.fr (.lst (List.replicate k.toNat xs).flatten)) μ):=rfl
theorem Cu(i j:Int)(μ:Mu)(Q:R->Mu->Prop):Y.E6 (.int i) (.int j) μ Q=Q (.tr (.bl (!decide (i=j)))) μ:=rfl
theorem FL(i j:Bool)(μ:Mu)(Q:R->Mu->Prop):Y.E6 (.bl i) (.bl j) μ Q=Q (.tr (.bl (!decide (i=j)))) μ:=rfl
end A
section
variable {prog:Program} {w:World} {A:Around} {E:Value->Shared->Prop} {s:Shared}
end
section
variable {X:Cx} {e:Expr} {te:TE}
end
namespace Y
end Y
namespace A
end A
end L2
namespace L2
open PySem PySem.Spec PyProof PyProof.Rows
namespace Y
theorem d9:∀ {us:List Value} {ns:List Int},IntsAre us ns->Vals (ns.map V.int) us
 | _,_,.nil=>.nil
 | _,_,.cons n t h=>.cons ⟨t,rfl⟩ (d9 h)
theorem gW:∀ {us:List Value} {ns:List Int},IntsAre us ns->us.length=ns.length
 | _,_,.nil=>rfl
 | _,_,.cons n t h=>by simp[gW h]
section
variable {prog:Program} {w:World} {A:Around} {E:Value->Shared->Prop} {s:Shared}
theorem mL{l:Addr}{vs:List Value}{Q:List Value->Shared->Prop}(hl:IsTup s.heap l vs.toArray)(hsz:vs.length<=sizeLine)
  (h:Q vs { s with heap:=(s.heap.push (seqObj "list" #[] 0)).update s.heap.objs.size (Obj.mapSeq (·++vs.toArray)) }):wpAny (model prog w) A (collect (.ref l)) Q E s:=by
 obtain⟨o,ho,hc,n,hd⟩:=id hl;unfold collect;refine wpAny_bind (wpAny_runValue (codeAny_builtin entry_proto_collect' ?_));show wpAny _ _ (do again (.builtin "list.__iadd__" ⟨[<- newList [],.ref l],[]⟩)) _ _ s
 refine wpAny_bind (wpAny_newList (wpAny_pure ⟨Code.quiet_builtin _ (by decide +kernel),codeAny_builtin entry_list_iadd' ?_⟩))
 show wpAny _ _ (Builtin.List.listExtendWith (.ref s.heap.objs.size) (.ref l) (.ref s.heap.objs.size)) _ _ { s with heap:=s.heap.push (seqObj "list" #[] 0) }
 unfold Builtin.List.listExtendWith;have ho':(s.heap.push (seqObj "list" #[] 0)).get? l=some o:=Heap.get?_push_of_some _ ho;refine wpAny_bind (wpAny_typeOf (T:="tuple") ⟨o,ho',hc⟩ ?_);have ht:(Value.type "tuple" == Value.type "tuple")=true:=by rfl
 rw[if_pos (by rw[ht];simp)]
 refine wpAny_bind (listItems_at ho' hd ?_);refine wpAny_bind (listItems_at (xs:=#[]) (n:=0) (Heap.get?_push_size _ rfl) rfl ?_);rw[if_neg (by simp)]
 refine wpAny_bind (listUpdate_at (xs:=#[]) (n:=0) (Heap.get?_push_size _ rfl) rfl ?_ (Nat.zero_le _) (by show (#[]++vs.toArray).size<=sizeLine+1;simp only[Array.size_append,List.size_toArray,List.length_nil];lia))
 refine wpAny_pure ?_;show wpAny (model prog w) A (load s.heap.objs.size >>= _) Q E { s with heap:=(s.heap.push (seqObj "list" #[] 0)).update s.heap.objs.size (Obj.mapSeq (·++vs.toArray)) }
 refine wpAny_bind (wpAny_load (get?_update_seq (Heap.get?_push_size _ rfl) _) ?_);show wpAny _ _ (pure ((#[]:Array Value)++vs.toArray).toList) Q E _;rw[show ((#[]:Array Value)++vs.toArray).toList=vs by simp]
 exact wpAny_pure h
theorem n8{l:Addr}{vs:List Value}{ns:List Int}{Q:Value->Shared->Prop}(hl:IsTup s.heap l vs.toArray)(hI:IntsAre vs ns)(h64:vs.length < 64)
  (h:∀ (out:Array Value) (ns':List Int),IntsAre out.toList ns'->ns'.Perm ns->ns'.Pairwise (·<=·)->Q (.ref (s.heap.objs.size+1)) { s with heap:=sortedAll s.heap vs out }) :
  wpAny (model prog w) A (call (.builtin "sorted") [.ref l]) Q E s:=by
 have hz:vs.length<=sizeLine:=Nat.le_trans (Nat.le_of_lt h64) (by decide)
 refine Calls.call_function_entry kind_sorted plain_sorted entry_sorted (args_sorted1 _) ?_;unfold Builtin.«sorted»;refine wpAny_bind (m:=checkCount "sorted" 1 1 _) (wpAny_pure ?_);refine wpAny_bind (mL hl hz ?_);refine wpAny_bind (wpAny_newList ?_ hz);have hs:((s.heap.push (seqObj "list" #[] 0)).update s.heap.objs.size (Obj.mapSeq (·++vs.toArray))).objs.size=s.heap.objs.size+1:=by rw[Heap.size_update,size_push']
 have ho:(((s.heap.push (seqObj "list" #[] 0)).update s.heap.objs.size (Obj.mapSeq (·++vs.toArray))).push (seqObj "list" vs.toArray 0)).get? (s.heap.objs.size+1)=some (seqObj "list" vs.toArray 0):=by
  rw[<- hs];exact Heap.get?_push_size _ rfl
 show wpAny _ _ _ _ _ { s with heap:=((s.heap.push (seqObj "list" #[] 0)).update s.heap.objs.size (Obj.mapSeq (·++vs.toArray))).push (seqObj "list" vs.toArray 0) }
 rw[hs];refine wpAny_bind (wpAny_holding (wpAny_call_entry slot_list_sort ⟨_,ho,rfl⟩ entry_list_sort (list_sort_tree ho hI h64 fun out ns' a1 a2 a3=>⟨_,rfl,?_⟩) (args_list_sort _)));exact wpAny_pure ⟨_,rfl,h out ns' a1 a2 a3⟩
end
def yW(K:PySem.W.Frag):List V->Hp->VK->Prop:=fun xs H Q=>∃ p ns,xs=[.ref p]/\bu K H p (ns.map V.int)/\ns.length < 64/\∀ ns':List Int,ns'.Perm ns->ns'.Pairwise (·<=·)->∀ l,H l=none->Q (.ref l) (upd H l (.lst (ns'.map V.int)))
theorem rj{X:Cx}(K:PySem.W.Frag)(hK:X.K=K):aQ X (.builtin "sorted") (yW K):=by
 subst hK;intro pins s σ H xs us Q I r h;obtain⟨p,ns,rfl,hq,h64,q⟩:=h;obtain⟨u,rfl,ru⟩:=vals1 r;cases ru;obtain⟨its,rv,pl,hz⟩:=I.tuple hq;have hi:=intsAre_of rv;refine n8 pl hi (by rw[gW hi];exact h64) fun out ns' a1 a2 a3=>?_
 obtain⟨e,he⟩:=sortedAll_at s.heap its out;refine⟨.ref (s.heap.objs.size+1),_,I.laid (t':=s.toks) (fun b ob q=>sortedAll_old q) (Nat.le_succ _) (show aK X.prog X.w _ _ _ (.lst (ns'.map V.int)) from⟨?_,out.toList,e,d9 a1,by simpa using he⟩),rfl,q ns' a2 a3 _ (I.aE.fresh (Nat.le_succ _))⟩
 rw[List.length_map,a2.length_eq];exact Nat.le_trans (Nat.le_of_lt h64) (by decide)
theorem cO{K:PySem.W.Frag}{H:Hp}{B:aL}:∀ ns:List Int,aj K H B (ns.map V.int) (ns.map T.int)
 | []=>.nil
 | n::ns=>.cons (.int _) (cO ns)
theorem di{K:PySem.W.Frag}{H:Hp}{B:aL}:∀ {ns:List Int} {vs:List V},aj K H B vs (ns.map T.int)->vs=ns.map V.int
 | [],_,.nil=>rfl
 | n::ns,_,.cons h r=>by cases h;rw[di r];rfl
def Dl(K:PySem.W.Frag):List V->Hp->VK->Prop:=fun xs H Q=>∃ (p:Addr) (ns:List Int),xs=[.ref p]/\bK K H p (ns.map V.int)/\Q (.int ns.sum) H
theorem jz{X:Cx}(K:PySem.W.Frag)(hK:X.K=K)(hc:X.calm=true):aQ X (.builtin "sum") (Dl K):=by subst hK;exact rP hc
def zT:T->Mu->(R->Mu->Prop)->Prop:=fun t μ Q=>match t with
 | .lst xs=>∃ ns:List Int,xs=ns.map T.int/\Q (.tr (.int ns.sum)) μ
 | _=>False
theorem sv{K:PySem.W.Frag}:RC K (Dl K) (se zT):=iH fun F ad B σ H μ Q Qt x t hK l v1 q k=>by
 subst hK;unfold zT at q
 split at q
 ·obtain⟨ns,rfl,q⟩:=q
  cases v1 with
  | lst ha ra=>exact⟨_,ns,rfl,by rw[<- di ra];exact bK.of ha,k _ _ _ (Vr.flat l (.int _)) Fr.refl q⟩
 ·exact q.elim
def CB(i j:Int):Prop:=0 < j/\j < 4611686018427387904
theorem gR{X:Cx}:cN X (binaryOp .FloorDiv) (rI CB fun i j=>.int (i / j)):=Eg fun i j _ _ _ _ _ hc q=>by
 have h1:(0:Int) < j:=hc.1;have h2:j < 4611686018427387904:=hc.2;exact floordiv_int (by lia) (by rw[Int.fdiv_eq_ediv_of_nonneg i (by lia)];exact q) (.inl (PyProof.noPylong_of_log2 (Nat.lt_trans ((Nat.log2_lt (k:=62) (by lia)).mpr (by lia)) (by decide))))
end Y
namespace A
theorem D9(xs:List T)(μ:Mu)(Q:R->Mu->Prop):Y.zT (.lst xs) μ Q=(∃ ns:List Int,xs=ns.map T.int/\Q (.tr (.int ns.sum)) μ):=rfl
end A
namespace Y
section
variable {prog:Program} {w:World} {A:Around} {E:Value->Shared->Prop} {s:Shared}
end
end Y
namespace A
end A
namespace Y
theorem tG(l:List Nat):∀ (n a:Nat),((List.range n).map (fun k=>a+k)).filterMap (l[·]?)=(l.drop a).take n
 | 0,_=>by simp
 | n+1,a=>by
  rw[List.range_succ,List.map_append,List.filterMap_append,tG l n a,List.take_add_one,List.getElem?_drop]
  cases h:l[a+n]?<;>simp[h]
theorem lY(lo hi:Option Int)(n:Nat):Builtin.Str.strSliceIndices lo hi 1 n=(List.range (HT.bt n n hi - HT.bt n 0 lo)).map (fun k=>HT.bt n 0 lo+k):=by
 have ea:∀ (v:Int),max 0 (min (if v < 0 then v+(n:Int) else v) (n:Int))=(((if v < 0 then (v+(n:Int)).toNat else min v.toNat n):Nat):Int):=by
  intro v;split<;>lia
 have e:Builtin.Str.strSliceIndices lo hi 1 n=sliceRange (HT.bt n 0 lo) (HT.bt n n hi) 1:=by
  cases lo with
  | none=>cases hi with
   | none=>rfl
   | some j=>show sliceRange 0 (max 0 (min (if j < 0 then j+(n:Int) else j) (n:Int))) 1=_;rw[ea];rfl
  | some i=>cases hi with
   | none=>show sliceRange (max 0 (min (if i < 0 then i+(n:Int) else i) (n:Int))) n 1=_;rw[ea];rfl
   | some j=>show sliceRange (max 0 (min (if i < 0 then i+(n:Int) else i) (n:Int))) (max 0 (min (if j < 0 then j+(n:Int) else j) (n:Int))) 1=_;rw[ea,ea];rfl
 rw[e];generalize HT.bt n 0 lo=a;generalize HT.bt n n hi=b;unfold sliceRange;simp only[show ((1:Int) > 0)=True from by simp,if_true,Int.one_mul]
 have c:(if (a:Int) < (b:Int) then ((b:Int) - a+1 - 1) / 1 else 0).toNat=b - a:=by split<;>lia
 rw[c];refine List.map_congr_left fun k _=>?_;lia
theorem nR(z:Str)(lo hi:Option Int):Txt.slice z lo hi=⟨((z.cps.toList.drop (HT.bt z.cps.toList.length 0 lo)).take (HT.bt z.cps.toList.length z.cps.toList.length hi - HT.bt z.cps.toList.length 0 lo)).toArray⟩:=by
 have hl:z.cps.toList.length=z.length:=Array.length_toList;rw[hl];have hp:(Builtin.Str.strSliceIndices lo hi 1 z.length).filterMap (z.cps[·]?)=(z.cps.toList.drop (HT.bt z.length 0 lo)).take (HT.bt z.length z.length hi - HT.bt z.length 0 lo):=by
  rw[lY];have:=tG z.cps.toList (HT.bt z.length z.length hi - HT.bt z.length 0 lo) (HT.bt z.length 0 lo)
  simpa using this
 unfold Txt.slice;split
 ·rename_i h;rw[lY] at h;simp at h;have h2:=HT.mZ z.length z.length (Nat.le_refl _) hi;have h3:=HT.mZ z.length 0 (Nat.zero_le _) lo;have a0:HT.bt z.length 0 lo=0:=by lia
  have b0:HT.bt z.length z.length hi=z.length:=by lia
  rw[a0,b0,List.drop_zero,Nat.sub_zero,<- hl,List.take_length]
 ·rw[hp]
def wz(z:Str)(lo hi:Option Int):Str:=⟨(bH z.cps.toList lo hi).toArray⟩
theorem rA(z:Str)(lo hi:Option Int):Txt.slice z lo hi=wz z lo hi:=nR z lo hi
def Cp:V->Option Int->Option Int->Hp->VK->Prop:=fun x lo hi H Q=>∃ z,x=.str z/\z.length<=sizeLine/\Q (.str (wz z lo hi)) H
theorem zE{X:Cx}:sf X Cp:=by
 intro pins s σ H x v vl vu lo hi sl Q I rx hs pl pu h;obtain⟨z,rfl,hz,q⟩:=h;rw[<- rA] at q;obtain⟨t,rfl⟩:=rx;refine⟨"str",_,PySem.F.slot_str_getitem.lookup,typeIs_str _ _ _,?_⟩
 cases pl<;>cases pu
 ·exact wpAny_getItem_str_slice (l:=none) (u:=none) (st:=none) hs rfl (post_val_or_str ⟨Nat.le_trans (Txt.slice_le z _ _) hz,fun t' k=>⟨.str _,H,I.tok _,⟨_,rfl⟩,q⟩⟩)
 ·exact wpAny_getItem_str_slice (l:=none) (u:=some (_,_)) (st:=none) hs rfl (post_val_or_str ⟨Nat.le_trans (Txt.slice_le z _ _) hz,fun t' k=>⟨.str _,H,I.tok _,⟨_,rfl⟩,q⟩⟩)
 ·exact wpAny_getItem_str_slice (l:=some (_,_)) (u:=none) (st:=none) hs rfl (post_val_or_str ⟨Nat.le_trans (Txt.slice_le z _ _) hz,fun t' k=>⟨.str _,H,I.tok _,⟨_,rfl⟩,q⟩⟩)
 ·exact wpAny_getItem_str_slice (l:=some (_,_)) (u:=some (_,_)) (st:=none) hs rfl (post_val_or_str ⟨Nat.le_trans (Txt.slice_le z _ _) hz,fun t' k=>⟨.str _,H,I.tok _,⟨_,rfl⟩,q⟩⟩)
def FG(K:PySem.W.Frag):V->Option Int->Option Int->Hp->VK->Prop:=fun x lo hi H Q=>Dq K x lo hi H Q\/Cp x lo hi H Q
theorem FF{X:Cx}(K:PySem.W.Frag)(hK:X.K=K):sf X (FG K):=(EO K hK).or zE
def Br(a:Option T)(lo hi:Option Int):Option (Prop×R):=match a with
 | some (.lst xs)=>some (True,.fr (.lst (bH xs lo hi)))
 | some (.d7 xs)=>some (True,.fr (.lst (bH xs lo hi)))
 | some (.tup xs)=>some (True,.tr (.tup (bH xs lo hi)))
 | some (.str z)=>some (z.length<=sizeLine,.tr (.str (wz z lo hi)))
 | _=>none
def zM(ue:UE)(ul uh:UO):UE:=fun μ Q=>ue μ fun r μ1=>ul μ1 fun lo μ2=>uh μ2 fun hi μ3=>stp (Br (cont μ3 r.d) lo hi) fun r=>Q r μ3
theorem A_{X:Cx}{e:Expr}{ue:UE}{p2 pos:Pos}{lo hi:Option Expr}{ul uh:UO}(K:PySem.W.Frag)(hK:X.K=K)(he:YE X e ue)(hl:YO X lo ul)(hu:YO X hi uh):YE X (.Subscript e (.Slice lo hi none p2) pos) (zM ue ul uh):=by
 obtain⟨t,q,r⟩:=he;obtain⟨tl,ql,rl⟩:=hl;obtain⟨th,qh,rh⟩:=hu;refine⟨_,Z.slice (FF K hK) q ql qh,fun F ad B σ H μ Q Qt hF l q k=>r F ad B σ H μ _ _ hF l q fun v H1 r1 μ1 v1 f1 k1 q1=>rl F ad B σ H1 μ1 _ _ hF v1.rl q1 fun i H2 μ2 l2 f2 k2 q2=>rh F ad B σ H2 μ2 _ _ hF l2 q2 fun j H3 μ3 l3 f3 k3 q3=>?_⟩;have hF':F.K=K:=hF.trans hK;clear hF;subst hF';have hv:=v1.hv.fr (f2.trans f3) (k2.trans k3);have ff:=(f1.d.trans f2).trans f3;have kk:=(k1.trans k2).trans k3;generalize eo:cont μ3 r1.d=o at q3;unfold Br stp at q3
 cases o with
 | none=>exact q3.elim
 | some o=>cases o with
  | lst xs =>
   have w:=hv.vw l3 eo
   cases w with
   | lst ha ra=>exact .inl (.inl ⟨_,_,rfl,bK.of ha,fun p hp=>k _ _ _ μ3 (Vr.fL l3 (aj.cut ra i j) hp) (ff.trans (Fr.more hp)) kk q3.2⟩)
  | d7 xs =>
   have w:=hv.vw l3 eo
   cases w with
   | d7 ha ra=>exact .inl (.inl ⟨_,_,rfl,ha,fun p hp=>k _ _ _ μ3 (Vr.fL l3 (aj.cut ra i j) hp) (ff.trans (Fr.more hp)) kk q3.2⟩)
  | tup xs =>
   have w:=Hv.wK l3 hv eo;have w':=w
   cases w with
   | tup na ha ra =>
    by_cases z:HT.bt xs.length 0 i=0/\HT.bt xs.length xs.length j=xs.length
    ·have e0:bH xs i j=xs:=by unfold bH;rw[z.1,z.2,Nat.sub_zero,List.drop_zero,List.take_length]
     have q4:=q3.2;rw[e0] at q4;exact .inl (.inr (.inr ⟨_,_,rfl,bu.of ha,by rw[ra.length];exact z.1,by rw[ra.length];exact z.2,k _ H3 _ μ3 (Vr.flat l3 w') ff kk q4⟩))
    ·exact .inl (.inr (.inl ⟨_,_,rfl,bu.of ha,by rw[ra.length];exact z,fun p hp=>k _ _ _ μ3 (Vr.vp l3 (aj.cut ra i j) hp) (ff.trans (Fr.same (bM.new hp))) kk q3.2⟩))
  | str z =>
   have w:=hv.vw l3 eo;cases w;exact .inr ⟨z,rfl,q3.1,k _ H3 _ μ3 (Vr.flat l3 (.str _)) ff kk q3.2⟩
  | aI=>exact q3.elim
  | bl b=>exact q3.elim
  | int n=>exact q3.elim
  | fD a b=>exact q3.elim
  | jH a b=>exact q3.elim
  | exc a b=>exact q3.elim
  | gg xs=>exact q3.elim
def Cg(i:Nat):UG:=fun r μ Q=>match r with
 | .tr t=>rZ μ i/\Q (μ.set i (.tr t))
 | .fr t=>rZ μ i/\Q (μ.set i (.tr t))
 | .br _=>False
theorem gZ{K:PySem.W.Frag}{i:Nat}:RG K (bO i) (Cg i):=fun F ad B σ H μ v r B0 H0 Q Qt hK h f q k=>by
 cases r with
 | tr t=>exact k ad B _ H _ (h.1.BA (jE q.1) h.2) f q.2
 | br i=>exact q.elim
 | fr c =>
  refine k ad B _ H _ (h.rl.BA (jE q.1) h.hv) (f.trans (Fr.less fun b z=>?_)) q.2;obtain⟨_,a,rfl,_⟩:=h;exact Or.inr z
section
variable {X:Cx} {e elt tg iter:Expr} {ifs:List Expr} {ue:UE} {ut:UT} {ui:UI} {pos pos' p2:Pos} {x:Str} {osc scope:Scope} {ON own N:List Str}
theorem DJ{i:Nat}(hN:X.N.Nodup)(hi:X.N[i]?=some x)(hx:Loc X.env.scope x)(he:YE X e ue)(hs:Z.yG e=true:=by rfl)(hf:X.fn x=true\/X.env.scope.names.lookup x=some .local:=by first | exact .inl rfl | exact .inr rfl | assumption):
  YS X (.Assign [.Name x pos'] e pos) (mq ue (Cg i)):=by
 obtain⟨t,q,r⟩:=he;exact⟨_,Z.set hN hi hx q hs hf,jS r gZ⟩
theorem A8{j:Nat}(K:PySem.W.Frag)(hK:X.K=K)(hN:X.N.Nodup)(hj:X.N[j]?=some x)(hx:Loc X.env.scope x)(S:bT osc ON scope own N)(hosc:X.env.scope=osc)(hON:X.N=ON)(hc:X.calm=true)(ho:own.length=2)(hi:YI X tg iter ui)
  (hg:∀ C s H fp,QG (aB X scope N C s H fp) tg (mS K 2 (dR (bO 0) (dR (bO 1) m8)))) (ht:∀ C s H fp,Ca (aB X scope N C s H fp) ifs ut) (he:∀ C s H fp,YE (aB X scope N C s H fp) elt ue)
  (hsw:swapsWith (.ListComp elt [⟨tg,iter,ifs,0⟩] scope p2) (some (.Name x pos')) pos.line X.env=pure true:=by rfl)
  (hf:X.fn x=true\/X.env.scope.names.lookup x=some .local:=by first | exact .inl rfl | exact .inr rfl | assumption) (hs:∀ x,foldedSetIterable iter X.env x=pure x:=by intro _;rfl) :
  YS X (.Assign [.Name x pos'] (.ListComp elt [⟨tg,iter,ifs,0⟩] scope p2) pos) (mq (i6 rO E8 ui ut ue) (Cg j)):=by
 obtain⟨t,q,r⟩:=hi;subst hK;have h:=Z.setC (tc:=vQ X.K ut) (te:=tJ X.K ue) hN hj hx S hosc hON hc q hg (fun C s H fp=>(ht C s H fp).AJ) (fun C s H fp=>(he C s H fp).AJ) hsw hf hs;rw[ho] at h;exact⟨_,h,jS (kl oU r uz vJ) gZ⟩
end
end Y
namespace A
theorem Gb(i:Nat)(t:T)(μ:Mu)(Q:Mu->Prop):Y.Cg i (.fr t) μ Q=(Y.rZ μ i/\Q (μ.set i (.tr t))):=rfl
end A
namespace Y
end Y
namespace A
end A
def Fl(h:Heap)(e:Addr)(cls:Value)(d:Option Addr):Option Addr->Prop
 | none=>∃ oe vs,h.get? e=some oe/\oe.cls=cls/\oe.dict=d/\oe.data=.fields vs/\vs[1]?=some Value.none
 | some T=>∃ oe vs oT ts,h.get? e=some oe/\oe.cls=cls/\oe.dict=d/\oe.data=.fields vs/\vs[1]?=some (.ref T)/\T≠e/\h.get? T=some oT/\oT.data=.fields ts/\ts[3]?=some Value.none
theorem Fl.is{h:Heap}{e:Addr}{cls:Value}{d To:Option Addr}(f:Fl h e cls d To):iR e cls d h:=by
 cases To with
 | none=>obtain⟨oe,vs,h1,h2,h3,h4,_⟩:=f;exact⟨oe,vs,h1,h2,h3,h4⟩
 | some T=>obtain⟨oe,vs,_,_,h1,h2,h3,h4,_⟩:=f;exact⟨oe,vs,h1,h2,h3,h4⟩
theorem iR.ok{P:Program}{w:World}{H:Hp}{h:Heap}{e:Addr}{cls:Value}{d:Option Addr}(x:iR e cls d h):aK P w H h e (.ext (iR e cls d)):=
 ⟨x,let ⟨o,_,h1,_⟩:=x;⟨o,h1⟩,fun h1 h2 ⟨o,vs,a,b,c,d⟩ k=>⟨o,vs,k o a,b,c,d⟩⟩
theorem iR.one{h:Heap}{e:Addr}{cls cls':Value}{d d':Option Addr}(x:iR e cls d h)(y:iR e cls' d' h):cls=cls'/\d=d':=by
 obtain⟨o,_,h1,h2,h3,_⟩:=x;obtain⟨o',_,g1,g2,g3,_⟩:=y;rw[h1] at g1;cases g1;exact⟨h2.symm.trans g2,h3.symm.trans g3⟩
structure Mv (h h':Heap) (e:Addr) (To:Option Addr) (fs:List Addr) (T':Addr):Prop where
 keep:∀ b o,b≠e->(∀ T,To=some T->b≠T)->b∉fs->h.get? b=some o->h'.get? b=some o
 slot:∀ b o,b∈fs->h.get? b=some o->∃ sl,h'.get? b=some { o with slots:=sl }
 new:(h.get? T'=none\/To=some T')/\T'∉fs
section
variable {h:Heap} {e:Addr} {cls:Value} {d:Option Addr} {base:Heap} {l:List Env}
theorem Fl.y_{T:Addr}(f:Fl h e cls d (some T))(hl:h.FunFrames base l):T∉gE l:=fun m=>by
 obtain⟨_,o,ho,hd⟩:=hl.mem m;obtain⟨_,_,oT,ts,_,_,_,_,_,_,hT,hdT,_⟩:=f;rw[hT] at ho;cases ho;exact hd ts hdT
theorem vc{o:Obj}{vs:Array Value}(q:o.data=.fields vs)(g:Array Value->Array Value):o.mapFields g={ o with data:=.fields (g vs) }:=by
 obtain⟨c,dd,dt,sl⟩:=o;cases q;rfl
end
section
variable {M:Model} {A:Around} {E:Value->Shared->Prop} {s:Shared} {env:Env} {outer:List Env} {L e:Addr} {cls:Value} {d:Option Addr} {base:Heap}
theorem kh{a:Addr}{o:Obj}{vs:Array Value}{i:Nat}{x:Value}{Q:Unit->Shared->Prop}(ho:s.heap.get? a=some o)(hd:o.data=.fields vs)(hi:i < vs.size)
  (hq:∀ h':Heap,(∀ b,b≠a->h'.get? b=s.heap.get? b)->h'.get? a=some { o with data:=.fields (vs.setIfInBounds i x) }->Q () { s with heap:=h' }):wpAny M A (setField (.ref a) i x) Q E s:=by
 have hm:=vc hd (·.setIfInBounds i x);refine wpAny_setField ho hd hi (hq _ (fun b n=>Heap.get?_update_other _ _ (Ne.symm n)) ?_);have:=Heap.get?_update_self (Obj.mapFields (·.setIfInBounds i x)) ho (Obj.isFreed_of_fields (Obj.data_mapFields hd _));rw[hm] at this;exact this
theorem je{T:Addr}{fl:Value}{oe oT:Obj}{vs ts:Array Value}{Q:Unit->Shared->Prop}(he:s.heap.get? e=some oe)(hd:oe.data=.fields vs)(h1:vs[1]?=some (.ref T))(hne:T≠e)(hT:s.heap.get? T=some oT)(hdT:oT.data=.fields ts)(h3:ts[3]?=some fl)
  (hq:∀ h':Heap,(∀ b,b≠T->h'.get? b=s.heap.get? b)->h'.get? T=some { oT with data:=.fields (ts.setIfInBounds 3 .none) }->Q () { s with heap:=h' }):wpAny M A (setFlight (.ref e) none) Q E s:=by
 unfold setFlight;refine wpAny_bind (wpAny_field he hd h1 ?_);rw[if_pos (by simp)]
 exact kh hT hdT (Array.getElem?_eq_some_iff.mp h3).1 hq
theorem pC{oe:Obj}{vs:Array Value}{head:Value}{hn:Bool}{Q:Unit->Shared->Prop}(hfr:A.frames=some (env::outer))(hf:env.frame=some L)(hl:s.heap.FunFrames base (env::outer))(he:s.heap.get? e=some oe)(hd:oe.data=.fields vs)(hsz:1 < vs.size)
  (hq:∀ (h':Heap) (T':Addr) (oT:Obj) (ts:Array Value),(∀ b o,b≠e->b∉gE (env::outer)->s.heap.get? b=some o->h'.get? b=some o)->(∀ b o,b∈gE (env::outer)->s.heap.get? b=some o->∃ sl,h'.get? b=some { o with slots:=sl }) ->
   s.heap.get? T'=none->h'.get? e=some { oe with data:=.fields (vs.setIfInBounds 1 (.ref T')) }->h'.get? T'=some oT->oT.data=.fields ts->ts[3]?=some (rawInt L)->T'≠e->T'∉gE (env::outer)->Q () { s with heap:=h' }) :
  wpAny M A (frameOf env >>= fun a=>entryPlaceOf L hn >>= fun pl=>EntryCells.newEntry head a .none (rawInt L) .none pl >>= fun b=>setField (.ref e) 1 b) Q E s:=by
 have nfe:e∉gE (env::outer):=fun m=>by
  obtain⟨_,o,ho,hnf⟩:=hl.mem m;rw[he] at ho;cases ho;exact hnf vs hd
 refine wpAny_bind (wpAny_frameOf_fun hfr hl hf fun h1 hs=>?_);obtain⟨hs1,hs2,hs3⟩:=hs;refine wpAny_bind (wpAny_entryPlaceOf fun pl hpl=>?_);unfold EntryCells.newEntry newFields;refine wpAny_bind (wpAny_newObj_type ?_ (hpl.sizeOk5 _ _ _ _ _));have e1:h1.get? e=some oe:=(hs2 e nfe).trans he;have hsize:∀ b o,h1.get? b=some o->b≠h1.objs.size:=fun b o q=>Nat.ne_of_lt (Heap.lt_size q);refine kh (Heap.get?_push_of_some _ e1) hd hsz fun h2 k1 k2=>?_;have nfT:h1.objs.size∉gE (env::outer):=fun m=>by
  obtain⟨_,o,ho,_⟩:=hl.mem m;obtain⟨sl,q⟩:=hs3 _ o ho;exact hsize _ _ q rfl
 refine hq h2 h1.objs.size _ _ (fun b o n1 n2 q=>?_) (fun b o m q=>?_) ?_ k2 ((k1 _ (Ne.symm (hsize _ _ e1))).trans (Heap.get?_push_size h1 rfl)) rfl ?_ (Ne.symm (hsize _ _ e1)) nfT
 ·rw[k1 b n1];exact Heap.get?_push_of_some _ ((hs2 b n2).trans q)
 ·obtain⟨sl,q1⟩:=hs3 b o q;exact⟨sl,(k1 b fun z=>nfe (by rw[<- z];exact m)).trans (Heap.get?_push_of_some _ q1)⟩
 ·cases q:s.heap.get? h1.objs.size with
  | none=>rfl
  | some o =>
   obtain⟨sl,q1⟩:=hs3 _ o q;exact absurd rfl (hsize _ _ q1)
 ·rcases hpl with rfl | ⟨_,_,_,_,_,_,_,rfl⟩<;>simp
theorem tF{To:Option Addr}{Q:Unit->Shared->Prop}(hfr:A.frames=some (env::outer))(hf:env.frame=some L)(hl:s.heap.FunFrames base (env::outer))(f:Fl s.heap e cls d To)
  (hq:∀ h' T',Mv s.heap h' e To (gE (env::outer)) T'->Fl h' e cls d (some T')->Q () { s with heap:=h' }):wpAny M A (noteFrame (.ref e) env) (fun _ s2=>wpAny M A (setFlight (.ref e) none) Q E s2) E s:=by
 unfold noteFrame;simp only[hf]
 cases To with
 | none =>
  obtain⟨oe,vs,g1,g2,g3,g4,g5⟩:=id f;have hsz:=(Array.getElem?_eq_some_iff.mp g5).1;refine wpAny_bind (wpAny_field g1 g4 g5 ?_);rw[if_neg (by decide)]
  refine pC hfr hf hl g1 g4 hsz fun h1 T' oT ts k1 k2 k3 k4 k5 k6 k7 k8 k9=>?_;refine je (s:={ s with heap:=h1 }) k4 rfl (by simp[hsz]) k8 k5 k6 k7 fun h2 j1 j2=>?_
  have nT:∀ b o,s.heap.get? b=some o->b≠T':=fun b o q z=>by rw[z,k3] at q;cases q
  refine hq h2 T' ⟨fun b o n1 _ n3 q=>?_,fun b o m q=>?_,.inl k3,k9⟩ ⟨_,_,_,_,(j1 e (Ne.symm k8)).trans k4,g2,g3,rfl,by simp[hsz],k8,j2,rfl,?_⟩
  ·exact (j1 b (nT b o q)).trans (k1 b o n1 n3 q)
  ·obtain⟨sl,q1⟩:=k2 b o m q;exact⟨sl,(j1 b (nT b o q)).trans q1⟩
  ·have:=(Array.getElem?_eq_some_iff.mp k7).1;simp[this]
 | some T =>
  obtain⟨oe,vs,oT,ts,g1,g2,g3,g4,g5,g6,g7,g8,g9⟩:=id f;have hsz:=(Array.getElem?_eq_some_iff.mp g5).1;have nfT:=f.y_ hl;refine wpAny_bind (wpAny_field g1 g4 g5 ?_);rw[if_pos (by simp)]
  refine wpAny_bind (wpAny_field g7 g8 g9 ?_);rw[if_neg (by simp[rawInt])]
  refine wpAny_bind (kh g7 g8 (Array.getElem?_eq_some_iff.mp g9).1 fun h0 i1 i2=>?_);have hl0:h0.FunFrames base (env::outer):=hl.of_keeps fun b o q hn=>⟨o,(i1 b fun z=>by rw[z,g7] at q;cases q;exact hn ts g8).trans q,rfl⟩
  refine pC (s:={ s with heap:=h0 }) hfr hf hl0 ((i1 e (Ne.symm g6)).trans g1) g4 hsz fun h1 T' oT' ts' k1 k2 k3 k4 k5 k6 k7 k8 k9=>?_
  refine je (s:={ s with heap:=h1 }) k4 rfl (by simp[hsz]) k8 k5 k6 k7 fun h2 j1 j2=>?_
  have nTT:T'≠T:=fun z=>by
   have k3':h0.get? T'=none:=k3;rw[z,i2] at k3';cases k3'
  have nT:∀ b o,s.heap.get? b=some o->b≠T':=fun b o q z=>by
   have k3':h0.get? T'=none:=k3;rw[<- z] at k3';by_cases z2:b=T
   ·exact nTT (z.symm.trans z2)
   ·rw[i1 b z2,q] at k3';cases k3'
  refine hq h2 T' ⟨fun b o n1 n2 n3 q=>?_,fun b o m q=>?_,.inl ?_,k9⟩ ⟨_,_,_,_,(j1 e (Ne.symm k8)).trans k4,g2,g3,rfl,by simp[hsz],k8,j2,rfl,?_⟩
  ·exact (j1 b (nT b o q)).trans (k1 b o n1 n3 ((i1 b (n2 T rfl)).trans q))
  ·have nbT:b≠T:=fun z=>nfT (by rw[<- z];exact m)
   obtain⟨sl,q1⟩:=k2 b o m ((i1 b nbT).trans q);exact⟨sl,(j1 b (nT b o q)).trans q1⟩
  ·exact (i1 T' nTT).symm.trans k3
  ·have:=(Array.getElem?_eq_some_iff.mp k7).1;simp[this]
theorem qG{To:Option Addr}{Q:Unit->Shared->Prop}(hfr:A.frames=some (env::outer))(hf:env.frame=some L)(hl:s.heap.FunFrames base (env::outer))(f:Fl s.heap e cls d To)
  (hq:∀ h' T',Mv s.heap h' e To (gE (env::outer)) T'->Fl h' e cls d (some T')->Q () { s with heap:=h' }):wpAny M A (leaving env (.ref e)) Q E s:=by
 unfold leaving;exact wpAny_bind (tF hfr hf hl f hq)
end
theorem dA.vy{P:Program}{w:World}{H:Hp}{h h':Heap}{a:Addr}{o:HO}(x:dA P w H h)(k:∀ b u,h.get? b=some u->h'.get? b=some u)(hn:H a=none)(new:aK P w (upd H a o) h' a o):dA P w (upd H a o) h':=fun b u e=>by
 by_cases z:b=a
 ·subst z;rw[af] at e;cases e;exact new
 ·rw[ae z] at e;exact (x b u e).ig (fun c v _ q=>k c v q) (fun c q=>by rw[ae (ak q hn)];exact q) (fun c xs q=>by rw[ae (ak q hn)];exact q) fun c _ _ q=>by rw[ae (ak q hn)];exact q
theorem Un.vy{fs ex:List Addr}{H:Hp}{h h':Heap}{a:Addr}{o:HO}(k:∀ b u,h.get? b=some u->h'.get? b=some u)(h0:h.get? a=none)(hn:H a=none):Un fs ex H (upd H a o) h h' where
 keep:=fun b u q _ _ _=>k b u q
 slot:=fun b u q _ _ _=>⟨u.slots,k b u q⟩
 free:=fun b u q n _=>by rw[ae (fun z=>by rw[z,h0] at q;cases q)];exact n
 there:=fun b u q _=>⟨u,k b u q⟩
 iA:=fun b xs q=>by rw[ae (ak q hn)];exact q
 fQ:=fun b u xs q=>by rw[ae (ak q hn)];exact q
 fG:=fun b ps q=>⟨#[],by rw[ae (ak q hn),q];simp⟩
theorem dA.none_of{P:Program}{w:World}{H:Hp}{h:Heap}{a:Addr}(x:dA P w H h)(e:h.get? a=none):H a=none:=by
 cases q:H a with
 | none=>rfl
 | some u =>
  have:=x a u q;obtain⟨o,ho⟩:∃ o,h.get? a=some o:=by
   clear q
   induction u with
   | lst xs=>obtain⟨_,_,_,_,z⟩:=this;exact⟨_,z⟩
   | tup xs=>obtain⟨_,_,_,o,z,_⟩:=this;exact⟨_,z⟩
   | dK kvs=>obtain⟨_,_,_,_,o,_,_,z,_⟩:=this;exact⟨_,z⟩
   | dT kvs=>obtain⟨_,_,_,_,o,_,_,z,_⟩:=this;exact⟨_,z⟩
   | set S n=>obtain⟨o,_,_,_,z,_⟩:=this;exact⟨_,z⟩
   | ins C dx fs=>obtain⟨_,_,_,z,_⟩:=this;exact⟨_,z⟩
   | own x=>exact this
   | xd fs=>obtain⟨_,⟨o,_,_,z,_⟩,_⟩:=this;exact⟨_,z⟩
   | met f x=>exact⟨_,this⟩
   | fD lo hi=>obtain⟨_,_,_,z⟩:=this;exact⟨_,z⟩
   | cI o u ih=>exact⟨_,this.1⟩
   | pI ps=>obtain⟨_,z,_⟩:=this;exact⟨_,z⟩
   | ext φ=>exact this.2.1
  rw[e] at ho;cases ho
theorem dA.moved{P:Program}{w:World}{H:Hp}{h h':Heap}{e T':Addr}{cls:Value}{d To:Option Addr}{fs:List Addr}(x:dA P w H h)(mv:Mv h h' e To fs T')(f':iR e cls d h')(he:H e=some (.ext (iR e cls d)))(hT:∀ T,To=some T->H T=none)(hf:∀ b∈fs,H b=none):dA P w H h':=fun b u q=>by
 by_cases z:b=e
 ·subst z;rw[he] at q;cases q;exact f'.ok
 ·refine (x b u q).ig (fun c v hc r=>?_) (fun _ q=>q) (fun _ _ q=>q) fun _ _ _ q=>q;have tr:∃ o,H c=some o:=by
   rcases hc with rfl | hc
   ·exact⟨u,q⟩
   ·exact⟨_,hc⟩
  obtain⟨o,tr⟩:=tr;refine mv.keep c v (fun z2=>?_) (fun T hT' z2=>?_) (fun m=>?_) r
  ·rcases hc with rfl | hc
   ·exact z z2
   ·rw[z2,he] at hc;cases hc
  ·rw[z2,hT T hT'] at tr;cases tr
  ·rw[hf c m] at tr;cases tr
section
variable {X:Cx} {pins:List (Addr×Obj)} {σ:St} {H H':Hp} {s:Shared} {h':Heap}
theorem Inv.Dj{ch:List Addr}(I:Inv X pins σ H s)
  (hch:∀ b∈ch,X.s₀.heap.get? b=none/\b≠X.env.locals/\(∀ x c,X.env.cells.lookup x=some c->c≠b)/\∀ p∈X.pn++pins,p.1≠b)
  (keep:∀ b o,b≠X.env.locals->b∉X.fs->b∉ch->s.heap.get? b=some o->H b=none->h'.get? b=some o)
  (slot:∀ b o,b≠X.env.locals->b∈X.fs->b∉ch->s.heap.get? b=some o->H b=none->∃ sl,h'.get? b=some { o with slots:=sl })
  (there:∀ b o,b∉ch->s.heap.get? b=some o->∃ o',h'.get? b=some o')
  (ns:∀ m,s.heap.Ns X.env.locals m->h'.Ns X.env.locals m) (aE:dA X.prog X.w H h') :
  Inv X pins σ H { s with heap:=h' }:=by
 have neL:∀ b o,X.s₀.heap.get? b=some o->b≠X.env.locals:=fun b o e=>Nat.ne_of_lt (Nat.lt_of_lt_of_le (Heap.lt_size e) I.ok.above);have neC:∀ b o,X.s₀.heap.get? b=some o->b∉ch:=fun b o e hb=>by rw[(hch b hb).1] at e;cases e
 have cellK:∀ x c,X.env.cells.lookup x=some c->∀ v,s.heap.IsCell c v->h'.IsCell c v:=fun x c e v ⟨o,ho,hd⟩=>by
  have nch:c∉ch:=fun z=>(hch c z).2.2.1 x c e rfl;by_cases hc:c∈X.fs
  ·obtain⟨sl,q⟩:=slot c o (I.y1 x c e) hc nch ho (I.cC x c e);exact⟨_,q,hd⟩
  ·exact⟨o,keep c o (I.y1 x c e) hc nch ho (I.cC x c e),hd⟩
 refine⟨I.ok,I.os,I.bare,⟨fun b o e n hb hx=>?_,fun b o e n hb hx=>?_,I.base.free,fun b o e hx=>?_,I.base.iA,I.base.fQ,I.base.fG⟩,?_,fun x c e=>?_,I.free,I.cC,fun p hp=>?_,aE,I.len⟩
 ·exact keep b o (neL b o e) hb (neC b o e) (I.base.keep b o e n hb hx) (I.base.free b o e n hx)
 ·obtain⟨sl,e1⟩:=I.base.slot b o e n hb hx;obtain⟨sl',e2⟩:=slot b _ (neL b o e) hb (neC b o e) e1 (I.base.free b o e n hx);exact⟨sl',e2⟩
 ·obtain⟨o',e1⟩:=I.base.there b o e hx;exact there b o' (neC b o e) e1
 ·obtain⟨m,hn,hl⟩:=I.loc;refine⟨m,ns m hn,fun i x v e1 e2 e3=>?_⟩;obtain⟨u,r,l⟩:=hl i x v e1 e2 e3;refine⟨u,r,?_⟩;rcases l with l | ⟨k,c,e,z⟩
  ·exact .inl l
  ·exact .inr ⟨k,c,e,cellK x c e _ z⟩
 ·obtain⟨v,z⟩:=I.cell x c e;exact⟨v,cellK x c e v z⟩
 ·obtain⟨e,n,ne,nf,d⟩:=I.pin p hp;have nch:p.1∉ch:=fun z=>(hch p.1 z).2.2.2 p hp rfl;exact⟨keep p.1 p.2 ne nf nch e n,n,ne,nf,d⟩
structure Nw (X:Cx) (pins:List (Addr×Obj)) (H:Hp) (e:Addr) (cls:Value) (d To:Option Addr):Prop where
 tr:H e=some (.ext (iR e cls d))
 e0:X.s₀.heap.get? e=none
 d0:∀ a,d=some a->X.s₀.heap.get? a=none
 t0:∀ T,To=some T->H T=none/\X.s₀.heap.get? T=none/\∀ p∈X.pn++pins,p.1≠T
theorem Inv.moved{e T':Addr}{cls:Value}{d To:Option Addr}(I:Inv X pins σ H s)(hex:X.ex=[])(f:Fl s.heap e cls d To)(nw:Nw X pins H e cls d To)(mv:Mv s.heap h' e To (gE X.stack) T')(f':Fl h' e cls d (some T')):
  Inv X pins σ H { s with heap:=h' }/\Nw X pins H e cls d (some T'):=by
 have hfr:=I.gQ;have teT:∀ T o,To=some T->s.heap.get? T=some o->T∉gE X.stack:=fun T o hT _=>by subst hT;exact f.y_ I.stack
 have hne:∀ b o,s.heap.get? b=some o->H b=none->b≠e:=fun b o _ n z=>by rw[z,nw.tr] at n;cases n
 refine⟨I.Dj (ch:=To.toList) (fun b hb=>?_) (fun b o hL hb hc q n=>?_) (fun b o _ hb hc q n=>?_) (fun b o hc q=>?_) (fun m hm=>?_) (I.aE.moved mv f'.is nw.tr (fun T hT=>(nw.t0 T hT).1) hfr),nw.tr,nw.e0,nw.d0,fun T hT=>?_⟩
 ·cases To with
  | none=>cases hb
  | some T =>
   have:b=T:=by simpa using hb
   subst this;obtain⟨h1,h2,h3⟩:=nw.t0 b rfl;obtain⟨_,_,oT,ts,_,_,_,_,_,_,hT,hdT,_⟩:=f;refine⟨h2,fun z=>?_,fun x c hc z=>?_,h3⟩
   ·obtain⟨m,⟨o,es,ep,ho,hd,_⟩,_⟩:=I.loc;rw[<- z,hT] at ho;cases ho;rw[hdT] at hd;cases hd
   ·obtain⟨v,o,ho,hd⟩:=I.cell x c hc;rw[z,hT] at ho;cases ho;rw[hdT] at hd;cases hd
 ·refine mv.keep b o (hne b o q n) (fun T hT z=>hc (by rw[hT,z];simp)) (fun m=>?_) q
  exact (List.mem_cons.mp (I.ic b m)).elim hL hb
 ·by_cases m:b∈gE X.stack
  ·exact mv.slot b o m q
  ·exact⟨o.slots,mv.keep b o (hne b o q n) (fun T hT z=>hc (by rw[hT,z];simp)) m q⟩
 ·by_cases z:b=e
  ·obtain⟨o',_,q',_⟩:=f'.is;exact⟨o',by rw[z];exact q'⟩
  ·by_cases m:b∈gE X.stack
   ·obtain⟨sl,q2⟩:=mv.slot b o m q;exact⟨_,q2⟩
   ·exact⟨o,mv.keep b o z (fun T hT z=>hc (by rw[hT,z];simp)) m q⟩
 ·obtain⟨o,es,ep,ho,r⟩:=hm;have n:=I.free;by_cases mm:X.env.locals∈gE X.stack
  ·obtain⟨sl,q2⟩:=mv.slot _ o mm ho;exact⟨_,es,ep,q2,r⟩
  ·refine⟨o,es,ep,mv.keep _ o (hne _ o ho n) (fun T hT z=>?_) mm ho,r⟩;subst hT;obtain⟨_,_,oT,ts,_,_,_,_,_,_,hT,hdT,_⟩:=f;rw[z,hT] at ho;cases ho;obtain⟨hd,_⟩:=r;rw[hdT] at hd;cases hd
 ·cases hT;rcases mv.new.1 with q | q
  ·refine⟨I.aE.none_of q,?_,fun p hp z=>?_⟩
   ·cases q2:X.s₀.heap.get? T' with
    | none=>rfl
    | some o =>
     obtain⟨o',q3⟩:=I.base.there T' o q2 (by rw[hex];simp)
     rw[q] at q3;cases q3
   ·rw[<- z,(I.pin p hp).1] at q;cases q
  ·exact nw.t0 T' q
def rD(X:Cx)(cls:Value)(d:Option Addr)(e:Addr)(σ:St)(H:Hp):Prop:=∀ (pins:List (Addr×Obj)) (s:Shared) (To:Option Addr),Inv X pins σ H s->Fl s.heap e cls d To->Nw X pins H e cls d To->X.xe (.ref e) s
def m7(P:Program)(w:World):kT:=fun outer H s E x s'=>∃ (e T:Addr) (cls:Value) (d:Option Addr) (H':Hp),x=.ref e/\s'.os=s.os/\AllBare s'.gens/\Un (gE outer) [] H H' s.heap s'.heap/\dA P w H' s'.heap/\Fl s'.heap e cls d (some T)/\s.heap.get? e=none/\(∀ a,d=some a->s.heap.get? a=none)/\s.heap.get? T=none/\H' e=some (.ext (iR e cls d))/\H' T=none/\E cls (some e) H'
end
theorem tD{P:Program}{w:World}{K:PySem.W.Frag}{mg:Str->Option Value}{base:Heap}{N:List Str}{qual:Str}{scope:Scope}{f:Addr}{cd:Value}{A:Around}{outer:List Env}{s0:Shared}{H0:Hp}{E:XK}{cls:Value}{d:Option Addr}{e:Addr}{σ:St}{H:Hp}(hE:E cls (some e) H):
  rD (fA (m7 P w) P w K mg base N qual scope f cd A outer s0 H0 E) cls d e σ H:=by
 intro pins s To I fl nw;refine qG (base:=base) I.ok.frames rfl I.stack fl fun h' T' mv f'=>?_;obtain⟨I2,nw2⟩:=I.moved rfl fl nw mv f';exact⟨e,T',cls,d,H,rfl,I.os,I.bare,I2.base,I2.aE,f',nw.e0,nw.d0,(nw2.t0 T' rfl).2.1,nw.tr,(nw2.t0 T' rfl).1,hE⟩
section
variable {X:Cx}
def D4(X:Cx)(σ:St)(H:Hp):XK:=fun cls de H'=>∃ (e:Addr) (d:Option Addr),de=some e/\H' e=some (.ext (iR e cls d))/\(H e=none->(∀ a,d=some a->H a=none)->rD X cls d e σ H')
def zS(X:Cx)(sp:Sp)(t:TA):TE:=fun σ H Q=>t σ H fun vs H1=>sp vs H1 Q (D4 X σ H1)
theorem zK{k:Nat}{ps:List Str}{sp:Sp}{x:Str}{p pos:Pos}{e:Expr}{es:List Expr}{t:TA}(F:ah X.prog X.w X.K X.mg X.base (m7 X.prog X.w) k x ps sp)(hr:bC k X.A)(hg:Gl X x)(hex:X.ex=[])(ha:PA X (e::es) t)(h1:bX e=true:=by rfl)(h2:es.all bX=true:=by rfl)(hdb:(x ==("__debug__":Str))=false:=by decide):
  PE X (.Call (.Name x p) (e::es) [] pos) (zS X sp t):=by
 intro pins s σ H Q I h;obtain⟨f,fd,hm,hk,hb,G⟩:=F.ex;refine wpAny_Call_Name_kw (kq I hg hm ?_ hdb);refine PySem.W.callWith_K (h₀:=X.base) I.ok.mod.xV hk (bw (ha pos pins s σ H _ I h) fun us s1 ⟨vs,H1,I1,r,q⟩=>⟨I1.pV,?_⟩) (bN h1) (plain_any h2);have hl:us.length=ps.length:=by rw[<- r.length];exact G.len _ _ _ _ q
 have hb2:=hb s1 us I1.pV (by rw[List.append_nil];exact hl)
 rw[List.append_nil] at hb2;refine wpAny_call (codeAny_mono (G.run X.A X.stack s1 H1 ⟨us,[]⟩ us vs Q (D4 X σ H1) hr I1.C_ hb2 r q) fun r s' hq=>?_)
 cases r with
 | error e =>
  obtain⟨ea,T,cls,d,H',rfl,ho,hbare,un,aE,fl,n1,n3,n2,tr,nT,ea',d',hea,tr',hd⟩:=hq;cases hea;obtain⟨_,rfl⟩:=fl.is.one (show iR ea cls d' s'.heap from (aE _ _ tr').1);have I2:=I1.yS (ch:=[]) ho un aE hbare (fun b z=>absurd z (by simp))
  have n0:∀ b,s1.heap.get? b=none->X.s₀.heap.get? b=none:=fun b z=>by
   cases q2:X.s₀.heap.get? b with
   | none=>rfl
   | some o =>
    obtain⟨o',q3⟩:=I1.base.there b o q2 (by rw[hex];simp)
    rw[z] at q3;cases q3
  exact hd (I1.aE.none_of n1) (fun a z=>I1.aE.none_of (n3 a z)) pins s' (some T) I2 fl ⟨tr,n0 _ n1,fun a z=>n0 _ (n3 a z),fun T' hT=>by
   cases hT;exact⟨nT,n0 _ n2,fun p hp z=>by rw[<- z,(I1.pin p hp).1] at n2;cases n2⟩⟩
 | ok fl =>
  cases fl with
  | ret u=>exact I1.after hq
  | next=>exact False.elim hq
  | brk=>exact False.elim hq
  | cont=>exact False.elim hq
structure rF (K:PySem.W.Frag) (C:Addr):Prop where
 q:PySem.W.excIn K C [.type "ValueError",.type "Exception",.type "BaseException",.type "object"] "ValueError.__new__"=true
theorem rF.obj{K:PySem.W.Frag}{C:Addr}(c:rF K C):∃ bm N nm qn bs hd sn sub ab col dd k0 k1 k2 k3 k5,K.lookup C=some (excClassObj nm qn C N bs bm hd sn sub ab col dd k0 k1 k2 k3 k5 "ValueError.__new__") /\
  (∀ h:Heap,K.In h->OwnTail h [.type "ValueError",.type "Exception",.type "BaseException",.type "object"] bm)/\(∃ oN,K.lookup N=some oN)/\∀ h:Heap,K.In h->∃ mN,h.Ns N mN/\mN "__init__"=none:=by
 have q:=c.q;unfold PySem.W.excIn at q
 split at q
 ·rename_i dd cd sl ho
  split at q
  ·rename_i C2 bm k0 k1 k2 k3 nw k5 hm hs;simp only[beq_iff_eq,Bool.not_eq_true',Bool.and_eq_true] at q;obtain⟨⟨⟨⟨⟨z1,z2⟩,z3⟩,z4⟩,z5⟩,z6⟩:=q;subst z1;subst z2;obtain⟨nm,bs,mr,ns,qn,hd,sn,sub,ab,col,dl⟩:=cd;dsimp only at hm z3 z5 z6 ho;subst hm;subst z3;obtain⟨l⟩:=sl;have hs':l=[k0,k1,k2,k3,some (.builtin "ValueError.__new__"),k5]:=hs;subst hs';refine⟨bm,ns,nm,qn,bs,hd,sn,sub,ab,col,dd,k0,k1,k2,k3,k5,ho,fun h xV=>PySem.W.tail_of_in xV z4,?_,fun h xV=>⟨_,.of_isNs (PySem.W.isNs_of_in xV z5),PySem.W.nsMap_none_of_in xV z5 z6⟩⟩;unfold PySem.W.nsOkIn at z5
   split at z5
   ·rename_i hN;exact⟨_,hN⟩
   ·cases z5
  ·cases q
 ·cases q
def Af(X:Cx)(C:Addr)(t:TA):TS:=fun D σ H=>t σ H fun vs H1=>vs.length<=sizeLine/\∀ e,H1 e=none->rD X (.ref C) none e σ (upd H1 e (.ext (iR e (.ref C) none)))
theorem uQ{x:Str}{C:Addr}{np cpos pos:Pos}{e:Expr}{es:List Expr}{t:TA}(hg:Gl X x)(hm:X.mg x=some (.ref C))(hk:rF X.K C)(hc:X.calm=true)(hex:X.ex=[])(ha:PA X (e::es) t)(h1:bX e=true:=by rfl)(h2:es.all bX=true:=by rfl)(hdb:(x ==("__debug__":Str))=false:=by decide):
  PS X (.Raise (some (.Call (.Name x np) (e::es) [] cpos)) none pos) (Af X C t):=by
 intro pins s σ H D I h;obtain⟨bm,N,nm,qn,bs,hd,sn,sub,ab,col,dd,k0,k1,k2,k3,k5,lk,tl,⟨oN,lN⟩,hns⟩:=hk.obj;obtain⟨mN,hN,hni⟩:=hns s.heap I.pV;have FB:=PySem.F.excBase_ValueError;have hstar:starEach (e::es) X.env=(false,eval e X.env)::starEach es X.env:=bN h1;refine wpAny_Raise_call_subU (C:=C) (nm:=nm) (q:=qn) (N:=N) (bs:=bs) (bm:=bm) (hdct:=hd) (sn:=sn) (sub:=sub) (ab:=ab) (col:=col) (dd:=dd) (k0:=k0) (k1:=k1) (k2:=k2) (k3:=k3) (k5:=k5) FB FB.hasB FB (mN:=mN) ((tl s.heap I.pV).hasType FB.hasBase) (I.ok.hd hc) ?_ hni (kq I hg hm ⟨rfl,?_⟩ hdb)
 ·rw[hstar];show (false || (backTo cpos (starEach es X.env)).any (·.1))=false;rw[plain_any h2];rfl
 ·have hp:=ha cpos pins s σ H _ I h;rw[hstar] at hp ⊢;refine Calls.evalArgs_plain (wpAny_mono hp (fun us s2 ⟨vs,H1,I1,r,hl,q⟩=>?_) fun _ _ y=>y);refine⟨rfl,by rw[<- r.length];exact hl,I1.pV _ _ lk,?_,tl _ I1.pV,fun h' ea hm2=>?_⟩
  ·obtain⟨o,es',ep,ho,rr⟩:=hN;have z1:=I.pV _ _ lN;rw[ho] at z1;cases z1;exact⟨_,es',ep,I1.pV _ _ lN,rr⟩
  ·have hne:=I1.aE.none_of hm2.new;obtain⟨tt,g1,g2,g3⟩:=hm2.there;have fl:Fl h' ea (.ref C) none none:=⟨_,_,g1,rfl,rfl,rfl,rfl⟩;have I2:Inv X pins σ (upd H1 ea (.ext (iR ea (.ref C) none))) { s2 with heap:=h' }:=I1.un (t':=s2.toks) (Un.vy hm2.keeps hm2.new hne) (I1.aE.vy hm2.keeps hne fl.is.ok)
   refine q ea hne pins _ none I2 fl ⟨af,?_,(fun a z=>by cases z),fun T z=>by cases z⟩
   cases q2:X.s₀.heap.get? ea with
   | none=>rfl
   | some o =>
    obtain⟨o',q3⟩:=I1.base.there ea o q2 (by rw[hex];simp)
    rw[hm2.new] at q3;cases q3
end
def XH(H:Hp)(e:Addr)(x:T)(cls:Value)(d:Option Addr):Prop:=H e=some (.ext (iR e cls d))/\match x with
 | .exc c none=>c=cls/\d=none
 | .exc c (some (n,i))=>c=cls/\∃ a,d=some a/\H a=some (.xd [(n,.int i)])
 | _=>False
noncomputable abbrev Xw:=T->Mu->Prop
noncomputable abbrev BQ:=Value->Option Addr->Addr->St->Hp->Prop
noncomputable abbrev UX:=Mu->(R->Mu->Prop)->Xw->Prop
noncomputable abbrev kj:=Ed->Xw->Mu->Prop
def rH(F:Fx)(B:aL)(H:Hp)(Dx:BQ)(Xt:Xw):Prop:=∀ (ad:Nat->Addr) (B':aL) (σ':St) (H':Hp) (μ':Mu) (x:T) (cls:Value) (d:Option Addr) (e:Addr),Rl F ad B' σ' H' μ'->Fr B H B' H'->XH H' e x cls d->¬ B' e->(∀ a,d=some a->¬ B' a)->Xt x μ'->Dx cls d e σ' H'
theorem rH.step{F:Fx}{B B1:aL}{H H1:Hp}{Dx:BQ}{Xt:Xw}(h:rH F B H Dx Xt)(f:Fr B H B1 H1):rH F B1 H1 Dx Xt:=fun ad B' σ' H' μ' x cls d e l f' tr n1 n2 q=>h ad B' σ' H' μ' x cls d e l (f.trans f') tr n1 n2 q
def RX(K:PySem.W.Frag)(Dx:BQ)(te:TE)(ux:UX):Prop:=∀ (F:Fx) (ad:Nat->Addr) (B:aL) (σ:St) (H:Hp) (μ:Mu) (Q:VK) (Qt:R->Mu->Prop) (Xt:Xw),F.K=K->Rl F ad B σ H μ->ux μ Qt Xt ->
 (∀ v H' r μ',Vr F ad B σ H' μ' v r->Fr B H (Bv B v r) H'->Kp μ μ'->Qt r μ'->Q v H')->rH F B H Dx Xt->te σ H Q
def Ey(K:PySem.W.Frag)(Dx:BQ)(ts:TS)(us:kj):Prop:=∀ (F:Fx) (D:Ends) (E:Ed) (Xt:Xw) (ad:Nat->Addr) (B:aL) (σ:St) (H:Hp) (μ:Mu),F.K=K->Rl F ad B σ H μ->us E Xt μ->nv F B H D E->rH F B H Dx Xt->ts D σ H
structure YX (X:Cx) (e:Expr) (u:UX):Prop where
 ex:∃ t,QE X e t/\RX X.K (rD X) t u
structure yB (X:Cx) (st:Stmt) (u:kj):Prop where
 ex:∃ t,QS X st t/\Ey X.K (rD X) t u
structure yo (X:Cx) (sts:List Stmt) (u:kj):Prop where
 ex:∃ t,QB X sts t/\Ey X.K (rD X) t u
namespace Y
section
variable {X:Cx} {a b c e o tg:Expr} {es rest:List Expr} {ua ub uc ue uo:UE} {uA uB:UT} {us:UA} {pos pos' p p2 p3:Pos} {x:Str} {st:Stmt} {sts xs ys:List Stmt} {u w:US} {ux:UX} {uxs wxs:kj}
theorem xq(h:YS X st u):yB X st (fun E _ μ=>u E μ):=by
 obtain⟨t,q,r⟩:=h;exact⟨t,q,fun F D E Xt ad B σ H μ hF l q h _=>r F D E ad B σ H μ hF l q h⟩
def DY(u w:kj):kj:=fun E Xt μ=>u { E with nx:=w E Xt } Xt μ
theorem jj(h:yB X st uxs):yo X [st] uxs:=by obtain⟨t,q,r⟩:=h;exact⟨t,Z.ba q,r⟩
theorem Ct:yo X [] (fun E _ μ=>E.nx μ):=⟨_,Z.dU,fun F D E Xt ad B σ H μ hK l q h _=>h.nx ad B σ H μ l Fr.refl q⟩
theorem d8(h:yB X st uxs)(h2:yo X sts wxs):yo X (st::sts) (DY uxs wxs):=by
 obtain⟨t,q,r⟩:=h;obtain⟨t',q',r'⟩:=h2;exact⟨_,Z.ai q q',fun F D E Xt ad B σ H μ hK l q h hX=>r F { D with nx:=t' D } { E with nx:=wxs E Xt } Xt ad B σ H μ hK l q
  ⟨fun ad1 B1 σ1 H1 μ1 l1 f1 q1=>r' F D E Xt ad1 B1 σ1 H1 μ1 hK l1 q1 (h.step f1) (hX.step f1),h.rt,h.bk,h.ct⟩ hX⟩
def rR(ux:UX)(g:UG):kj:=fun E Xt μ=>ux μ (fun r μ'=>g r μ' E.nx) Xt
theorem qw{K:PySem.W.Frag}{Dx:BQ}{te:TE}{tg:TG}{g:UG}(he:RX K Dx te ux)(hg:RG K tg g):Ey K Dx (h_ te tg) (rR ux g):=fun F D E Xt ad B σ H μ hK l q h hX =>
 he F ad B σ H μ _ _ Xt hK l q (fun v H' r μ' v1 f k1 q1=>hg F ad B σ H' μ' v r B H _ _ hK v1 f q1 fun ad' B' σ' H2 μ2 l2 f2 q2=>h.nx ad' B' σ' H2 μ2 l2 f2 q2) hX
theorem Fn{i:Nat}(hN:X.N.Nodup)(hi:X.N[i]?=some x)(hx:Loc X.env.scope x)(he:YX X e ux)(hs:Z.yG e=true:=by rfl)(hf:X.fn x=true\/X.env.scope.names.lookup x=some .local:=by first | exact .inl rfl | exact .inr rfl | assumption):
  yB X (.Assign [.Name x pos'] e pos) (rR ux (gN i)):=by
 obtain⟨t,q,r⟩:=he;exact⟨_,Z.set hN hi hx q hs hf,qw r jX⟩
theorem yI{i:Nat}(hN:X.N.Nodup)(hi:X.N[i]?=some x)(hx:Loc X.env.scope x)(he:YX X e ux)(hs:Z.yG e=true:=by rfl)(hf:X.fn x=true\/X.env.scope.names.lookup x=some .local:=by first | exact .inl rfl | exact .inr rfl | assumption):
  yB X (.Assign [.Name x pos'] e pos) (rR ux (Cg i)):=by
 obtain⟨t,q,r⟩:=he;exact⟨_,Z.set hN hi hx q hs hf,qw r gZ⟩
def EC(c:UT)(u w:kj):kj:=fun E Xt μ=>c μ fun b μ'=>if b=true then u E Xt μ' else w E Xt μ'
theorem FK(hc:YT X c uA)(ha:yo X xs uxs)(hb:yo X ys wxs):yB X (.If c xs ys pos) (EC uA uxs wxs):=by
 obtain⟨t,q,r⟩:=hc;obtain⟨t1,q1,r1⟩:=ha;obtain⟨t2,q2,r2⟩:=hb;refine⟨_,Z.ml q q1 q2,fun F D E Xt ad B σ H μ hK l q h hX=>r F ad B σ H μ _ _ hK l q fun b H' μ' l' f k1 qq=>?_⟩
 cases b with
 | true=>exact r1 F D E Xt ad B σ H' μ' hK l' (by simpa using qq) (h.step f) (hX.step f)
 | false=>exact r2 F D E Xt ad B σ H' μ' hK l' (by simpa using qq) (h.step f) (hX.step f)
end
end Y
noncomputable abbrev vb:=List T->(R->List T->Prop)->(T->Prop)->Prop
def rK(K:PySem.W.Frag)(md:List Bool)(tsp:vb):Sp:=fun vs H Q E=>∃ Et:T->Prop,spT K md (fun args Qt=>tsp args Qt Et) vs H Q E/\∀ x cls d e H',Et x->(∀ b o,H b=some o->b∉i_ md vs->H' b=some o)->XH H' e x cls d->E cls (some e) H'
theorem mI:∀ {md:List Bool} {vs:List V},md.all (fun b=>!b)=true->i_ md vs=[]
 | [],_,_=>rfl
 | true::_,_,h=>by simp at h
 | false::md,[],_=>rfl
 | false::md,v::vs,h=>mI (md:=md) (vs:=vs) (by simpa using h)
namespace Y
theorem yu{K:PySem.W.Frag}{md:List Bool}{tsp:fE}{E:XK}{F:Fx}{ad:Nat->Addr}{B:aL}{σ:St}{H1:Hp}{μ1:Mu}{Q:VK}{Qt:R->Mu->Prop}{vs:List V}{rs:List R}{args:List T}(hF:F.K=K)(l1:Rl F ad B σ H1 μ1)(ps:Paired (Hv F ad B H1 μ1) vs rs)(ea:uW μ1 md rs=some args)
  (nd:(fh md rs).Nodup) (dj:∀ j∈fh md rs,j∉gx md rs) (q1:tsp args fun r outs=>(gx md rs=[]\/(mf r=true/\outs.all gq=true))/\Qt r (putAll (fh md rs) outs μ1))
  (k:∀ v H' r μ',Vr F ad B σ H' μ' v r->Fr B H1 (Bv B v r) H'->Kp μ1 μ'->Qt r μ'->Q v H'):spT K md tsp vs H1 Q E:=by
 have hro:=iJ (md:=md) ps;obtain⟨ag,eb,hb⟩:=zk l1 (gx md rs) ps ea (fun j h=>h) dj hro;rw[hF] at ag;have inj:∀ {js:List Nat},js.Nodup->(∀ j∈js,∃ (s:Sl) (c:T),μ1[j]?=some s/\s.box=some c)->(js.map ad).Nodup:=fun {js}=>by
  induction js with
  | nil=>exact fun _ _=>List.nodup_nil
  | cons j js ih =>
   intro nd hb;rw[List.nodup_cons] at nd;rw[List.map_cons,List.nodup_cons];refine⟨fun hm=>?_,ih nd.2 fun i hi=>hb i (List.mem_cons_of_mem _ hi)⟩;obtain⟨i,hi,z⟩:=List.mem_map.mp hm;obtain⟨s1,c1,e1,b1⟩:=hb j List.mem_cons_self;obtain⟨s2,c2,e2,b2⟩:=hb i (List.mem_cons_of_mem _ hi);exact nd.1 (l1.inj i j s2 s1 c2 c1 e2 e1 b2 b1 z ▸ hi)
 refine⟨_,args,_,ag,fun b z=>l1.er b z.1,by rw[eb];exact inj nd hb,q1,fun v H2 r outs hq keep res=>?_⟩
 rw[eb] at keep res;obtain⟨hfl,hq⟩:=hq;have nro:∀ {b:Addr},gx md rs=[]->B b->B b/\∀ j∈gx md rs,b≠ad j:=fun {b} z h=>⟨h,fun j hj=>by rw[z] at hj;cases hj⟩
 cases r with
 | br i=>exact res.elim
 | tr t =>
  obtain⟨rv,po⟩:=res;have rv':Rep F.K H2 B v t:=by
   rw[hF];rcases hfl with z | z
   ·exact rv.fr (Fr.less fun b h=>nro z h)
   ·exact rv.flat z.1
  have po':Paired (Bx F.K H2 B) ((fh md rs).map ad) outs:=by
   rw[hF];rcases hfl with z | z
   ·exact Paired.jc po fun a c h=>h.of rfl (Fr.less fun b h=>nro z h)
   ·exact Paired.lJ po z.2
  obtain⟨l2,k2,f2⟩:=l1.call hb nd keep (fun _ z=>z) (fun _ _ _ z=>z) (fun b z n=>absurd z n) po';exact k v H2 (.tr t) _ ⟨l2,rv'⟩ f2 k2 hq
 | fr c =>
  obtain⟨a,rfl,ha0,nBa,x,po⟩:=res;have nBa':¬ B a:=l1.m5 ha0;have sub:gx md rs=[]->∀ b,more B a b->more (fun b=>B b/\∀ j∈gx md rs,b≠ad j) a b:=fun z b h=>h.imp id fun h=>nro z h;have x':Bx F.K H2 (more B a) a c:=by
   rw[hF];rcases hfl with z | z
   ·exact x.of rfl (Fr.less (sub z))
   ·exact x.flat z.1
  have po':Paired (Bx F.K H2 (more B a)) ((fh md rs).map ad) outs:=by
   rw[hF];rcases hfl with z | z
   ·exact Paired.jc po fun a' c h=>h.of rfl (Fr.less (sub z))
   ·exact Paired.lJ po z.2
  have po2:Paired (Bx F.K H2 B) ((fh md rs).map ad) outs:=Paired.jc po' fun a' c h=>h.of rfl (Fr.less fun _ z=>.inr z);obtain⟨l2,k2,f2⟩:=l1.call hb nd keep (fun _ z=>z) (fun _ _ _ z=>z) (fun b z n=>absurd z n) po2;obtain⟨l3,_,f3⟩:=l1.call (B2:=more B a) hb nd keep (fun _ z=>.inr z) (fun b o e n z=>z.elim (fun z=>by rw[z,ha0] at e;cases e) n) (fun b z n=>z.elim (fun z=>by rw[z];exact x'.er) fun z=>absurd z n) po'
  exact k _ H2 (.fr c) _ ⟨l2,a,rfl,nBa',l1.xv ha0,l3,x'⟩ f3 k2 hq
def E7(md:List Bool)(tsp:vb)(us:UA):UX:=fun μ Q Xt=>us μ fun rs μ1=>match uW μ1 md rs with
 | some args=>(fh md rs).Nodup/\(∀ j∈fh md rs,j∉gx md rs)/\tsp args (fun r outs=>(gx md rs=[]\/(mf r=true/\outs.all gq=true))/\Q r (putAll (fh md rs) outs μ1)) (fun x=>Xt x μ1)
 | none=>False
theorem FY{X:Cx}{e:Expr}{es:List Expr}{us:UA}{pos p:Pos}{x:Str}{k:Nat}{ps:List Str}{md:List Bool}{tsp:vb}(K:PySem.W.Frag)(hK:X.K=K)(F:ah X.prog X.w X.K X.mg X.base (m7 X.prog X.w) k x ps (rK K md tsp))(hr:bC k X.A)(hg:Gl X x)(hex:X.ex=[])(ha:YA X (e::es) us)(h1:bX e=true:=by rfl)(h2:es.all bX=true:=by rfl)(hdb:(x ==("__debug__":Str))=false:=by decide)(hmd:md.all (fun b=>!b)=true:=by rfl):
  YX X (.Call (.Name x p) (e::es) [] pos) (E7 md tsp us):=by
 obtain⟨t,q,r⟩:=ha;subst hK;refine⟨_,⟨zK F hr hg hex q.h h1 h2 hdb⟩,fun F ad B σ H μ Q Qt Xt hF l q k hX=>?_⟩;refine r F ad B σ H μ _ _ hF l q fun vs H1 rs μ1 l1 ps f1 k1 q1=>?_
 split at q1
 ·rename_i args ea;obtain⟨nd,dj,q1⟩:=q1;refine⟨fun x=>Xt x μ1,yu (tsp:=fun args Qt=>tsp args Qt fun x=>Xt x μ1) hF l1 ps ea nd dj q1 fun v H' r μ' w f k2 q2=>k v H' r μ' w (f1.trans f) (k1.trans k2) q2,fun x cls d e H' he keep tr=>⟨e,d,rfl,tr.1,fun ne nd=>?_⟩⟩;have sm:bM H1 H':=fun b o z=>keep b o z (by rw[mI hmd];simp)
  exact hX ad B σ H' μ1 x cls d e (l1.same sm) (f1.trans (Fr.same sm)) tr (l1.m5 ne) (fun a z=>l1.m5 (nd a z)) he
 ·exact q1.elim
def jO(C:Addr)(us:UA):kj:=fun _ Xt μ=>us μ fun rs μ'=>rs.length<=10/\Xt (.exc (.ref C) none) μ'
theorem Ah{X:Cx}{e:Expr}{es:List Expr}{us:UA}{x:Str}{C:Addr}{np cpos pos:Pos}(hg:Gl X x)(hm:X.mg x=some (.ref C))(hk:rF X.K C)(hc:X.calm=true)(hex:X.ex=[])(ha:YA X (e::es) us)(h1:bX e=true:=by rfl)(h2:es.all bX=true:=by rfl)(hdb:(x ==("__debug__":Str))=false:=by decide):
  yB X (.Raise (some (.Call (.Name x np) (e::es) [] cpos)) none pos) (jO C us):=by
 obtain⟨t,q,r⟩:=ha;refine⟨_,⟨uQ hg hm hk hc hex q.h h1 h2 hdb⟩,fun F D E Xt ad B σ H μ hF l q h hX=>?_⟩;refine r F ad B σ H μ _ _ hF l q fun vs H1 rs μ1 l1 ps f1 k1 q1=>⟨by rw[ps.length];exact Nat.le_trans q1.1 (by decide),fun ea hn=>?_⟩
 have sm:bM H1 (upd H1 ea (.ext (iR ea (.ref C) none))):=bM.new hn;exact hX ad B σ _ μ1 (.exc (.ref C) none) (.ref C) none ea (l1.same sm) (f1.trans (Fr.same sm)) ⟨af,rfl,rfl⟩ (l1.m5 hn) (fun a z=>by cases z) q1.2
end Y
def vT(K:PySem.W.Frag)(mg:Str->Option Value)(x:Str)(f:Addr)(cdv:Value):Prop:=mg x=some (.ref f)/\∃ (o:Obj) (fd:FuncData),K.lookup f=some o/\o.data=.func fd/\fd.code=cdv
theorem HasFn.Ax{P:Program}{w:World}{K:PySem.W.Frag}{mg:Str->Option Value}{base:Heap}{x:Str}{st:Stmt}{N ps:List Str}{k:Nat}{tsp:vb}(F:HasFn K mg x st ps)(S:av N ps (aa st))(md:List Bool)(hmd:md.all (fun b=>!b)=true)(hm:md.length=ps.length)(hN:md.length<=N.length)
  (hbody:∀ (args:List T) (Qt:R->List T->Prop) (Et:T->Prop),args.length=ps.length->tsp args Qt Et->∀ (f:Addr) (cdv:Value) (A:Around) (outer:List Env) (s:Shared) (H:Hp) (E:XK),bC k (A.deeper (envOfC x (aa st) s.heap.objs.size f cdv))->vT K mg x f cdv ->
   ∃ us,yo (fA (m7 P w) P w K mg base N x (aa st) f cdv A outer s H E) (aq st) us/\us (tq md Qt) (fun x _=>Et x) (startM md args N.length)):ah P w K mg base (m7 P w) (k+1) x ps (rK K md tsp):=by
 obtain⟨f,fd,F1,bnd,m⟩:=F.ex;obtain⟨oc,od,kV,doc,pm,an,cdv,ct,osl,rfl,lk,hcd⟩:=F1.ex;refine⟨f,_,m,F1.kp,bnd,zj (CX:=m7 P w) lk hcd S (fun vs H Q E h=>?_) (fun A outer s H vs Q E hr h=>?_)⟩
 ·obtain⟨Et,⟨B,args,Qt,ag,_⟩,_⟩:=h;rw[ag.len.1,hm]
 ·obtain⟨Et,⟨B,args,Qt,ag,bh,nd,ht,fin⟩,hE⟩:=h;obtain⟨us,⟨t,q,r⟩,hu⟩:=hbody args Qt Et (by rw[ag.len.2,hm]) ht f cdv A outer s H E hr ⟨m,_,_,lk,rfl,rfl⟩
  refine⟨t,q.h,?_⟩;have l0:=iB (N:=N) ag bh nd hN;have outs:∀ ad' B' σ' H' μ' (B2:aL),Rl (ja K H md vs B bh) ad' B' σ' H' μ'->(∀ b,B2 b->B' b)->Paired (Bx K H' B2) (i_ md vs) (bI md 0 μ'):=fun ad' B' σ' H' μ' B2 l hB=>by
   refine jW (ag.len.1) fun n e=>?_;obtain⟨v,t',e1,e2,q⟩:=ag.get e;rw[if_pos rfl] at q;obtain⟨a,rfl,_⟩:=q;obtain⟨⟨c,hc⟩,ha⟩:=l.par n a (kL e e1);have sl:=l.slot n _ hc;refine⟨a,c,e1,by rw[Nat.zero_add];exact hc,?_⟩
   rw[<- ha];exact (sl.2.2.2).of rfl (Fr.less hB)
  have keep:∀ ad' B' σ' H' μ',Rl (ja K H md vs B bh) ad' B' σ' H' μ'->∀ b o,H b=some o->b∉i_ md vs->H' b=some o:=fun ad' B' σ' H' μ' l b o e n=>l.old b o e fun i z=>n (eg (eQ z).1 (eQ z).2);refine r (ja K H md vs B bh) _ _ (fun x _=>Et x) (jK vs) B (start N vs) H _ rfl l0 hu ⟨fun ad' B' σ' H' μ' l _ q=>?_,fun ad' B' σ' H' μ' v rr h q=>?_,fun _ _ _ _ _ _ _ z=>z.elim,fun _ _ _ _ _ _ _ z=>z.elim⟩ (fun ad' B' σ' H' μ' x cls d e l _ tr _ _ z=>tD (hE x cls d e H' z (keep _ _ _ _ _ l) tr))
  ·exact fin .aI H' (.tr .aI) _ q (keep _ _ _ _ _ l) ⟨.aI,outs _ _ _ _ _ _ l l.bc⟩
  ·cases rr with
   | tr t=>exact fin v H' (.tr t) _ q (keep _ _ _ _ _ h.1) ⟨(show Rep K H' B' v t from h.2).fr (Fr.less h.1.bc),outs _ _ _ _ _ _ h.1 h.1.bc⟩
   | fr c =>
    obtain⟨l,a,rfl,n,h0,l2,x⟩:=h;have sub:∀ b,more B a b->more B' a b:=fun b z=>z.imp id (l.bc b);exact fin _ H' (.fr c) _ q (keep _ _ _ _ _ l) ⟨a,rfl,h0,fun z=>n (l.bc a z),x.of rfl (Fr.less sub),outs _ _ _ _ _ _ l2 sub⟩
   | br i =>
    have q':(match μ'[i]? with | some (.bx c)=>Qt (.fr c) (bI md 0 μ') | _=>False):=q
    obtain⟨l,rfl,s',c',e1,e2⟩:=h
    split at q'
    ·rename_i c ec;have sl:=l.slot i _ ec;have sub:∀ b,more B (ad' i) b->B' b:=fun b z=>z.elim (fun z=>by rw[z];exact sl.2.1) (l.bc b)
     refine fin _ H' (.fr c) _ q' (keep _ _ _ _ _ l) ⟨ad' i,rfl,sl.2.2.1,fun z=>?_,(sl.2.2.2.2).of rfl (Fr.less sub),outs _ _ _ _ _ _ l sub⟩;obtain⟨o,e⟩:=bh _ z;have:H (ad' i)=none:=sl.2.2.1;rw[this] at e;cases e
    ·exact q'.elim
theorem HasFn.Gk{P:Program}{w:World}{K:PySem.W.Frag}{mg:Str->Option Value}{base:Heap}{x:Str}{st:Stmt}{N ps:List Str}{k:Nat}{tsp:vb}(F:HasFn K mg x st ps)(S:av N ps (aa st))(md:List Bool)(hmd:md.all (fun b=>!b)=true)(hm:md.length=ps.length)(hN:md.length<=N.length)
  (hbody:∀ (args:List T) (Qt:R->List T->Prop) (Et:T->Prop),args.length=ps.length->tsp args Qt Et->∀ (f:Addr) (cdv:Value) (A:Around) (outer:List Env) (s:Shared) (H:Hp) (E:XK),bC k (A.deeper (envOfC x (aa st) s.heap.objs.size f cdv)) ->
   ∃ us,yo (fA (m7 P w) P w K mg base N x (aa st) f cdv A outer s H E) (aq st) us/\us (tq md Qt) (fun x _=>Et x) (startM md args N.length)):ah P w K mg base (m7 P w) (k+1) x ps (rK K md tsp):=
 F.Ax S md hmd hm hN fun args Qt Et hl h f cdv A outer s H E hr _=>hbody args Qt Et hl h f cdv A outer s H E hr
section
variable {X:Cx} {pins pins':List (Addr×Obj)} {σ:St} {H:Hp} {s:Shared} {E:Value->Shared->Prop} {e:Addr}
end
namespace Y
end Y
noncomputable abbrev UJ:=Mu->(Mu->Prop)->Prop
structure YJ (X:Cx) (vs:List Expr) (u:UJ):Prop where
 run:∀ (F:Fx) (ad:Nat->Addr) (B:aL) (σ:St) (H:Hp) (μ:Mu) (Qt:Mu->Prop) (pins:List (Addr×Obj)) (s:Shared) (acc:Str) (k:Nat) (R:Str->Shared->Prop),F.K=X.K->Rl F ad B σ H μ->u μ Qt->Inv X pins σ H s->acc.length<=2000*k->k+vs.length<=20 ->
  (∀ H' μ' s' (out:Str),Rl F ad B σ H' μ'->Fr B H B H'->Kp μ μ'->Qt μ'->Inv X pins σ H' s'->out.length<=40000->R out s')->Joins (model X.prog X.w) X.A X.xe (evalEach vs X.env) acc R s
theorem i5(a b:Str):(a++b).length=a.length+b.length:=Array.size_append
theorem jJ{n:Nat}(h:n<=40000):n<=sizeLine:=Nat.le_trans h (by decide)
namespace Y
section
variable {X:Cx} {e:Expr} {vs:List Expr} {ue:UE} {u:UJ} {pos p:Pos}
theorem EN:YJ X [] (fun μ Q=>Q μ):=⟨fun F ad B σ H μ Qt pins s acc k R hF l q I ha hk h=>h H μ s acc l Fr.refl (Kp.refl μ) q I (by simp at hk;lia)⟩
theorem Bm{c:Str}{j:Nat}(h:YJ X vs u)(hc:c.length<=2000:=by decide)(he:evalEach (.Constant (.str c) j p::vs) X.env=eval (.Constant (.str c) j p) X.env::evalEach vs X.env:=by rfl):YJ X (.Constant (.str c) j p::vs) u:=by
 refine⟨fun F ad B σ H μ Qt pins s acc k R hF l q I ha hk hR=>?_⟩;rw[he];refine bw ((Z.str (X:=X) (i:=c) (j:=j) (pos:=p)).h pins s σ H (fun v H1=>v=.str c/\H1=H) I ⟨rfl,rfl⟩) fun v s1 ⟨v',H1,I1,r1,e1,e2⟩=>?_;subst e1;subst e2;obtain⟨t,rfl⟩:=r1;have hl:(acc++c).length<=2000*(k+1):=by rw[i5];lia
 rw[List.length_cons] at hk;exact⟨c,t,rfl,jJ (by lia),h.run F ad B σ H1 μ Qt pins s1 (acc++c) (k+1) R hF l q I1 hl (by lia) hR⟩
def EE(ue:UE)(u:UJ):UJ:=fun μ Q=>ue μ fun r μ'=>match r with
 | .tr (.int i)=>i.natAbs < 2 ^ 1900/\u μ' Q
 | _=>False
theorem C4(he:YE X e ue)(h:YJ X vs u)(hev:evalEach (.FormattedValue e (-1) none p::vs) X.env=eval (.FormattedValue e (-1) none p) X.env::evalEach vs X.env:=by rfl):YJ X (.FormattedValue e (-1) none p::vs) (EE ue u):=by
 obtain⟨t,qe,r⟩:=he;refine⟨fun F ad B σ H μ Qt pins s acc k R hF l q I ha hk hR=>?_⟩;rw[hev];refine wpAny_FormattedValue_plain ?_;refine bw (qe.h pins s σ H (fun v H1=>∃ r1 μ1,Vr F ad B σ H1 μ1 v r1/\Fr B H (Bv B v r1) H1/\Kp μ μ1/\(match r1 with
  | .tr (.int i)=>i.natAbs < 2 ^ 1900/\u μ1 Qt
  | _=>False)) I (r F ad B σ H μ _ _ hF l q fun v H1 r1 μ1 w f k1 q1=>⟨r1,μ1,w,f,k1,q1⟩)) fun v s1 ⟨v',H1,I1,rv,r1,μ1,w,f,k1,q1⟩=>?_
 split at q1
 ·rename_i i;obtain⟨l1,rp⟩:=w;cases rp;obtain⟨t',rfl⟩:=rv;obtain⟨hi,q1⟩:=q1;have hlog:i.natAbs.log2 < 1920:=by
   by_cases z:i.natAbs=0
   ·rw[z];decide
   ·exact (Nat.log2_lt z).mpr (Nat.lt_of_lt_of_le hi (Nat.pow_le_pow_right (by decide) (by decide)))
  have hlen:(Str.ofString (toString i)).length<=1921:=by
   have:=int_text_length_le (k:=1920) (by decide) hlog
   rw[PySem.ofString_length];exact this
  refine wpAny_formatField_int hlog ⟨_,_,rfl,?_,?_⟩
  ·rw[i5];exact jJ (by rw[List.length_cons] at hk;lia)
  ·rw[List.length_cons] at hk;exact h.run F ad B σ H1 μ1 Qt pins _ (acc++Str.ofString (toString i)) (k+1) R hF l1 q1 (I1.tok _) (by rw[i5];lia) (by lia) fun H' μ' s' out l' f' k'=>hR H' μ' s' out l' (f.trans f') (k1.trans k')
 ·exact q1.elim
def Er(u:UJ):UE:=fun μ Q=>u μ fun μ'=>∀ z:Str,z.length<=40000->Q (.tr (.str z)) μ'
theorem Fo{v1 v2:Expr}{rest:List Expr}(h:YJ X (v1::v2::rest) u)(hn:(v1::v2::rest).length<=20:=by decide):YE X (.JoinedStr (v1::v2::rest) pos) (Er u):=by
 refine⟨fun σ H Q=>∀ pins s,Inv X pins σ H s->wpAny (model X.prog X.w) X.A (eval (.JoinedStr (v1::v2::rest) pos) X.env) (EP X pins σ Q) X.xe s,⟨fun pins s σ H Q I h=>h pins s I⟩,?_⟩;intro F ad B σ H μ Q Qt hF l q k pins s I;refine wpAny_JoinedStr (h.run F ad B σ H μ _ pins s Str.empty 0 _ hF l q I (by decide) (by rw[Nat.zero_add];exact hn) fun H' μ' s' out l' f' k' q' I' ho=>⟨jJ ho,?_⟩)
 exact⟨.str out,H',I'.tok _,⟨_,rfl⟩,k _ H' (.tr (.str out)) μ' ⟨l',.str out⟩ f' k' (q' out ho)⟩
end
end Y
namespace A
theorem EE(ue:UE)(u:UJ)(μ:Mu)(Q:Mu->Prop):Y.EE ue u μ Q=ue μ fun r μ'=>match r with
 | .tr (.int i)=>i.natAbs < 2 ^ 1900/\u μ' Q
 | _=>False:=rfl
theorem Er(u:UJ)(μ:Mu)(Q:R->Mu->Prop):Y.Er u μ Q=u μ fun μ'=>∀ z:Str,z.length<=40000->Q (.tr (.str z)) μ':=rfl
theorem rR(ux:UX)(g:UG)(E:Ed)(Xt:Xw)(μ:Mu):Y.rR ux g E Xt μ=ux μ (fun r μ'=>g r μ' E.nx) Xt:=rfl
theorem EC(c:UT)(u w:kj)(E:Ed)(Xt:Xw)(μ:Mu):Y.EC c u w E Xt μ=c μ fun b μ'=>if b=true then u E Xt μ' else w E Xt μ':=rfl
theorem E7(md:List Bool)(tsp:vb)(us:UA)(μ:Mu)(Q:R->Mu->Prop)(Xt:Xw):Y.E7 md tsp us μ Q Xt=us μ fun rs μ1=>match uW μ1 md rs with
 | some args=>(fh md rs).Nodup/\(∀ j∈fh md rs,j∉gx md rs)/\tsp args (fun r outs=>(gx md rs=[]\/(mf r=true/\outs.all gq=true))/\Q r (putAll (fh md rs) outs μ1)) (fun cls=>Xt cls μ1)
 | none=>False:=rfl
theorem jO(C:Addr)(us:UA)(E:Ed)(Xt:Xw)(μ:Mu):Y.jO C us E Xt μ=us μ fun rs μ'=>rs.length<=10/\Xt (.exc (.ref C) none) μ':=rfl
end A
namespace Y
end Y
namespace A
end A
section
variable {X:Cx} {pins:List (Addr×Obj)} {σ:St} {H:Hp} {s:Shared} {B:aL}
end
namespace Y
end Y
namespace Y
end Y
namespace Y
end Y
namespace A
end A
namespace Y
end Y
namespace A
end A
section
variable {prog:Program} {w:World} {A:Around} {E:Value->Shared->Prop} {s:Shared} {K:PySem.W.Frag} {x C:Addr} {ox:Obj}
end
section
variable {X:Cx}
end
namespace Y
section
variable {X:Cx} {a:Expr} {es:List Expr} {ua:UE} {pos p p3:Pos} {x:Str}
end
end Y
section
variable {X:Cx} {pins:List (Addr×Obj)} {σ:St} {H:Hp} {s:Shared}
end
namespace Y
end Y
namespace A
end A
section
variable {prog:Program} {w:World} {A:Around} {E:Value->Shared->Prop} {s:Shared} {K:PySem.W.Frag} {x C:Addr} {ox:Obj} {od:Option Obj}
end
section
variable {prog:Program} {w:World} {A:Around} {E:Value->Shared->Prop} {s:Shared} {K:PySem.W.Frag} {C S f:Addr} {name:Str}
end
section
variable {fs ex:List Addr} {H:Hp} {h h':Heap} {e d:Addr} {φ ψ:Heap->Prop}
end
section
variable {X:Cx} {C S f:Addr} {name:Str}
end
section
variable {X:Cx} {pins:List (Addr×Obj)} {σ:St} {H:Hp} {s:Shared} {C S f:Addr} {name:Str}
end
section
variable {X:Cx} {C S f:Addr} {name:Str}
end
namespace Y
section
variable {X:Cx} {C S f:Addr} {name x:Str} {e:Expr} {ue:UE} {p pos cpos:Pos}
end
end Y
section
variable {X:Cx}
end
namespace Y
section
variable {X:Cx} {a:Expr} {es:List Expr} {ua:UE} {pos p p3:Pos} {x:Str}
end
end Y
namespace A
end A
namespace Y
end Y
namespace A
end A
open Builtin Builtin.Str
namespace Y
theorem sE:∀ (bs:List Bool),(List.range bs.length).all (fun i=>(bs[i]?).getD false)=bs.all id
 | []=>rfl
 | b::bs=>by
  rw[List.length_cons,List.range_succ_eq_map,List.all_cons,List.all_map,List.all_cons,<- sE bs];rfl
def Du(K:PySem.W.Frag):List V->Hp->VK->Prop:=fun xs H Q=>∃ (p:Addr) (bs:List Bool),xs=[.ref p]/\bK K H p (bs.map V.bl)/\Q (.bl (bs.all id)) H
theorem qX{X:Cx}(K:PySem.W.Frag)(hK:X.K=K)(hc:X.calm=true):aQ X (.builtin "all") (Du K):=by
 subst hK;intro pins s σ H xs us Q I r h;obtain⟨p,bs,rfl,hq,q⟩:=h;obtain⟨u,rfl,ru⟩:=vals1 r;cases ru;obtain⟨its,rv,pl,hz⟩:=I.list hq;have ht:s.heap.IsList p its.toArray:=pl.isList;have hlt:p < s.heap.objs.size:=by obtain⟨o,ho,_⟩:=id ht;exact Heap.lt_size ho
 have hlen:its.length=bs.length:=by have:=rv.length;rw[List.length_map] at this;lia
 refine call_all_walk (wpAny_pyIter_list ht ?_);refine⟨_,[_,p],[_],_,_,_,fun i=>(bs[i]?).getD false,rfl,Walks.list (A:=X.A.in1) (I.ok.hd hc) _ p (Nat.ne_of_lt hlt) its.toArray,⟨⟨_,Heap.get?_push_size _ rfl,rfl,rfl⟩,ht.push _⟩,fun i v s' Q' E' hP hQ=>?_,fun h' tk hk=>?_⟩
 ·have hP':its[i]?=some v:=by rw[<- List.getElem?_toArray];exact hP
  have hi:i < bs.length:=by have:=(List.getElem?_eq_some_iff.mp hP').1;lia
  obtain⟨v',e',rr⟩:=rv.get (i:=i) (x:=V.bl bs[i]) (by rw[List.getElem?_map,List.getElem?_eq_getElem hi];rfl)
  have e2:its[i]?=some v':=e';rw[hP'] at e2;cases e2;cases rr;simp only[List.getElem?_eq_getElem hi,Option.getD_some] at hQ;exact wpAny_truthy_bool hQ
 ·have e:((List.range its.toArray.size).all fun i=>(bs[i]?).getD false)=bs.all id:=by
   rw[List.size_toArray,hlen];exact sE bs
  rw[e];refine⟨.bl (bs.all id),H,I.kept fun b o e=>hk b o (fun hm=>?_) (Heap.get?_push_of_some _ e),rfl,q⟩;rcases List.mem_cons.mp hm with rfl | hm
  ·exact absurd (Heap.lt_size e) (Nat.lt_irrefl _)
  ·cases hm
end Y
namespace Y
end Y
namespace A
end A
end L2
namespace L2
open PySem PySem.Spec PyProof PyProof.Rows
section
variable {X:Cx} {es:List Expr} {tk:Nat} {tp:Pos}
end
namespace Y
end Y
namespace A
end A
section
variable {prog:Program} {w:World} {A:Around} {E:Value->Shared->Prop} {s:Shared} {K:PySem.W.Frag} {a:Addr} {D:List (Str×List Str)} {k:Str} {tk:Tok}
end
namespace Y
end Y
namespace A
end A
namespace Y
section
variable {prog:Program} {w:World} {A:Around} {E:Value->Shared->Prop} {s:Shared}
end
end Y
namespace A
end A
namespace Y
def fY(g:UG)(body:kj)(E:Ed)(Xt:Xw):List T->Mu->Prop
 | [],μ=>E.nx μ
 | t::ts,μ=>g (.tr t) μ fun μ1=>body { E with nx:=fY g body E Xt ts,ct:=fY g body E Xt ts,bk:=E.nx } Xt μ1
def wA(ui:UI)(g:UG)(body:kj):kj:=fun E Xt μ=>ui μ fun items gd μ'=>gd=none/\fY g body E Xt items μ'
theorem rn{K:PySem.W.Frag}{Dx:BQ}{g:TG}{ug:UG}{tb:TS}{body:kj}{F:Fx}{D:Ends}{E:Ed}{Xt:Xw}{J:It}{Src:Hp->aL->Prop}{items:List T}{B0:aL}{H0:Hp}(hF:F.K=K)(hg:RG K g ug)(hb:Ey K Dx tb body)(it:iG K J Src items)
  (pe:∀ B1 H1 B2 H2,Fr B1 H1 B2 H2->Src H1 B1->Src H2 B2) (hE:nv F B0 H0 D E) (hX:rH F B0 H0 Dx Xt) {ad:Nat->Addr} {B:aL} {σ:St} {H:Hp} {μ:Mu} (l:Rl F ad B σ H μ) (f:Fr B0 H0 B H) (sr:Src H B) (q:fY ug body E Xt items μ) :
  ∃ W:Nat->Nat->St->Hp->Prop,(∃ m,W 0 m σ H)/\∀ i m σ H,W i m σ H ->
   (J.stop i H/\D.nx σ H)\/(J.go i H/\∃ N:St->Hp->Prop,(∀ σ' H',N σ' H'->∃ m',m' < m/\W (i+1) m' σ' H')/\∀ x H',J.zt i H x H'->g x σ H' fun σ2 H2=>tb { D with nx:=N,ct:=N,bk:=D.nx } σ2 H2):=by
 refine⟨fun i m σ H=>m=items.length - i/\i<=items.length/\∃ ad B μ,Rl F ad B σ H μ/\Fr B0 H0 B H/\Src H B/\fY ug body E Xt (items.drop i) μ,⟨items.length,by simp,Nat.zero_le _,ad,B,μ,l,f,sr,q⟩,?_⟩
 rintro i m σ H ⟨rfl,hi,ad,B,μ,l,f,sr,q⟩;by_cases hlt:i < items.length
 ·have ei:items[i]?=some items[i]:=List.getElem?_eq_getElem hlt;rw[List.drop_eq_getElem_cons hlt] at q;obtain⟨go,yl⟩:=it.step H B i _ l.er sr ei;refine .inr ⟨go,fun σ' H'=>∃ ad' B' μ',Rl F ad' B' σ' H' μ'/\Fr B0 H0 B' H'/\Src H' B'/\fY ug body E Xt (items.drop (i+1)) μ',fun σ' H' h=>⟨items.length - (i+1),by lia,rfl,hlt,h⟩,fun x H2 y=>?_⟩
  obtain⟨sm,rp⟩:=yl x H2 y;refine hg F ad B σ H2 μ x (.tr _) B H2 _ _ hF ⟨l.same sm,by show Rep F.K H2 B x _;rw[hF];exact rp⟩ Fr.refl q fun ad3 B3 σ3 H3 μ3 l3 f3 q3=>?_
  have f03:Fr B0 H0 B3 H3:=(f.trans (Fr.same sm)).trans f3;have s3:Src H3 B3:=pe _ _ _ _ ((Fr.same sm).trans f3) sr;exact hb F _ _ Xt ad3 B3 σ3 H3 μ3 hF l3 q3 ⟨fun ad' B' σ' H' μ' l' f' q'=>⟨ad',B',μ',l',f03.trans f',pe _ _ _ _ f' s3,q'⟩,hE.rt,fun ad' B' σ' H' μ' l' f' q'=>hE.nx ad' B' σ' H' μ' l' (f03.trans f') q',fun ad' B' σ' H' μ' l' f' q'=>⟨ad',B',μ',l',f03.trans f',pe _ _ _ _ f' s3,q'⟩⟩ (hX.step f03)
 ·have e:i=items.length:=by lia
  subst e;rw[List.drop_length] at q;exact .inl ⟨it.stop H B sr,hE.nx ad B σ H μ l f q⟩
theorem DO{X:Cx}{tg it:Expr}{xs:List Stmt}{pos:Pos}{ui:UI}{g:UG}{u:kj}(hp:PassesOwn (model X.prog X.w) X.A X.env X.xe)(hc:X.calm=true)(hi:YI X tg it ui)(hg:YG X tg g)(hb:yo X xs u)(hs:∀ x,foldedSetIterable it X.env x=pure x:=by intro _;rfl):yB X (.For tg it xs [] pos) (wA ui g u):=by
 obtain⟨ti,qi,ri⟩:=hi;obtain⟨tg',qg,rg⟩:=hg;obtain⟨t,q,r⟩:=hb;refine⟨_,Z.gF hp hc qi qg q hs,fun F D E Xt ad B σ H μ hF l q h hX=>ri F ad B σ H μ _ _ hF l q fun J H' μ' items gd Src l1 f1 k1 it sr so gok q1=>?_⟩;obtain⟨rfl,q1⟩:=q1;exact rn hF rg r it so h hX l1 f1 sr q1
end Y
theorem uL{g:UG}{body:kj}{E:Ed}{Xt:Xw}(I:List T->Mu->Prop){items:List T}{μ:Mu}(h0:I items μ)(hn:∀ μ,I [] μ->E.nx μ)
  (hs:∀ t ts μ (N:Mu->Prop),I (t::ts) μ->(∀ μ',I ts μ'->N μ')->g (.tr t) μ fun μ1=>body { E with nx:=N,ct:=N,bk:=E.nx } Xt μ1):Y.fY g body E Xt items μ:=by
 induction items generalizing μ with
 | nil=>exact hn μ h0
 | cons t ts ih=>exact hs t ts μ _ h0 fun μ' h=>ih h
namespace A
theorem wA(ui:UI)(g:UG)(body:kj)(E:Ed)(Xt:Xw)(μ:Mu):Y.wA ui g body E Xt μ=ui μ fun items gd μ'=>gd=none/\Y.fY g body E Xt items μ':=rfl
end A
namespace Y
def Df(neg:Bool):R2:=fun x y H Q=>∃ a o,y=.ref a/\oE H a x o/\Q (.bl (if neg then !o.isSome else o.isSome)) H
theorem mj{X:Cx}(hu:X.A.units+1 < cLine):cN X (compareOp .NotIn) (Df true):=by
 intro pins s σ H x y v u Q I rx ry h;obtain⟨a,o,rfl,g,q⟩:=h;obtain rfl:u=Value.ref a:=ry;exact xh hu I g rx fun s' I'=>⟨.bl (!o.isSome),H,I',rfl,q⟩
theorem ji:∀ (more kvs:List (Key×V)),((kvs++more).map (·.1)).Nodup->dC kvs more=kvs++more
 | [],kvs,_=>by rw[List.append_nil];rfl
 | p::r,kvs,h=>by
  have hn:cq kvs p.1=none:=by
   cases hv:cq kvs p.1 with
   | none=>rfl
   | some v =>
    have hm:=wG hv;rw[List.map_append,List.map_cons] at h;have:=List.nodup_append.mp h;exact absurd rfl (this.2.2 _ hm _ List.mem_cons_self)
  show dC (putK kvs p.1 p.2) r=_;rw[l_ p.2 hn,ji r _ (by rw[List.append_assoc];exact h),List.append_assoc]
  rfl
end Y
namespace A
end A
section
variable {prog:Program} {w:World} {A:Around} {E:Value->Shared->Prop} {s:Shared}
end
section
variable {X:Cx} {es:List Expr} {tk:Nat} {tp:Pos}
end
namespace Y
end Y
namespace Y
end Y
namespace A
end A
open Builtin Builtin.Str
section
variable {prog:Program} {w:World} {A:Around} {E:Value->Shared->Prop} {s:Shared} {x y:Str} {t u:Tok}
end
section
variable {X:Cx}
end
namespace Y
end Y
namespace A
end A
end L2
namespace L2
open PySem PySem.Spec PyProof PyProof.Rows
inductive Ou where
 | no
 | ok (r:R)
 | ck (c:Prop) (r:R)
def jQ(o:Ou)(Q:R->Prop):Prop:=match o with
 | .no=>False
 | .ok r=>Q r
 | .ck c r=>c/\Q r
def r8(o:Option Sl)(i:Nat):Ou:=match o with
 | some (.tr t)=>.ok (.tr t)
 | some (.bx _)=>.ok (.br i)
 | some (.pb _)=>.ok (.br i)
 | _=>.no
def vG(a b:Option T):Ou:=match a,b with
 | some (.int i),some (.int j)=>.ok (.tr (.int (i+j)))
 | some (.str i),some (.str j)=>.ck (i.length+j.length<=sizeLine) (.tr (.str (i++j)))
 | some (.lst xs),some (.lst ys)=>.ck (xs.length+ys.length<=sizeLine) (.fr (.lst (xs++ys)))
 | some (.tup xs),some (.tup ys)=>.ck (xs.length+ys.length<=sizeLine) (.tr (.tup (xs++ys)))
 | _,_=>.no
def oQ(o:Option T):Ou:=match o with
 | some t=>.ok (.tr t)
 | none=>.no
def Ei(a b:Option T):Ou:=match a,b with
 | some (.lst xs),some (.int i)=>oQ (bS xs i)
 | some (.tup xs),some (.int i)=>oQ (bS xs i)
 | some (.gg xs),some (.int i)=>oQ (bS xs i)
 | some (.str z),some (.int i)=>(match bS z.cps.toList i with | some c=>.ck (z.length<=sizeLine) (.tr (.str ⟨#[c]⟩)) | none=>.no)
 | _,_=>.no
def nU(a:T):Ou:=match a with
 | .lst xs=>.ok (.tr (.int xs.length))
 | .tup xs=>.ok (.tr (.int xs.length))
 | .d7 xs=>.ok (.tr (.int xs.length))
 | .gg xs=>.ok (.tr (.int xs.length))
 | .str z=>.ck (z.length<=sizeLine) (.tr (.int z.length))
 | _=>.no
def CD(a:Option T)(lo hi:Option Int):Ou:=match a with
 | some (.lst xs)=>.ok (.fr (.lst (Y.bH xs lo hi)))
 | some (.d7 xs)=>.ok (.fr (.lst (Y.bH xs lo hi)))
 | some (.tup xs)=>.ok (.tr (.tup (Y.bH xs lo hi)))
 | some (.str z)=>.ck (z.length<=sizeLine) (.tr (.str (Y.wz z lo hi)))
 | _=>.no
theorem ia(p:Prop):(True/\p)=p:=propext ⟨fun h=>h.2,fun h=>⟨trivial,h⟩⟩
theorem FO(o:Option Sl)(i:Nat)(Q:R->Prop):stp (AK o i) Q=jQ (r8 o i) Q:=by
 cases o with
 | none=>rfl
 | some s=>cases s<;>first | rfl | exact ia _
theorem Fz(a b:Option T)(Q:R->Prop):stp (AH a b) Q=jQ (vG a b) Q:=by
 cases a with
 | none=>rfl
 | some a=>cases b with
  | none=>cases a<;>rfl
  | some b=>cases a<;>cases b<;>first | rfl | exact ia _
theorem bt(a b:Option T)(Q:R->Prop):stp (Fm a b) Q=jQ (Ei a b) Q:=by
 cases a with
 | none=>rfl
 | some a=>cases b with
  | none=>cases a<;>rfl
  | some b =>
   cases a<;>cases b<;>first
    | rfl
    | (rename_i xs i;show stp (oT (bS xs i)) Q=jQ (oQ (bS xs i)) Q;cases bS xs i with | none=>rfl | some t=>exact ia _)
    | (rename_i z i;show stp (match bS z.cps.toList i with | some c=>some (z.length<=sizeLine,.tr (.str ⟨#[c]⟩)) | none=>none) Q=jQ (match bS z.cps.toList i with | some c=>.ck (z.length<=sizeLine) (.tr (.str ⟨#[c]⟩)) | none=>.no) Q;cases bS z.cps.toList i<;>rfl)
theorem FE(a:T)(Q:R->Prop):stp (DE a) Q=jQ (nU a) Q:=by cases a<;>first | rfl | exact ia _
theorem Gz(a:Option T)(lo hi:Option Int)(Q:R->Prop):stp (Y.Br a lo hi) Q=jQ (CD a lo hi) Q:=by
 cases a with
 | none=>rfl
 | some a=>cases a<;>first | rfl | exact ia _
namespace Y
def uD(i:Nat):UE:=fun μ Q=>jQ (r8 μ[i]? i) fun r=>Q r μ
def uv:U2:=fun r1 r2 μ Q=>jQ (vG (cont μ r1) (cont μ r2)) fun r=>Q r μ
def Au:U2:=fun r1 r2 μ Q=>jQ (Ei (cont μ r1) (cont μ r2)) fun r=>Q r μ
def vj(t:T)(μ:Mu)(Q:R->Mu->Prop):Prop:=jQ (nU t) fun r=>Q r μ
def wy(ue:UE)(ul uh:UO):UE:=fun μ Q=>ue μ fun r μ1=>ul μ1 fun lo μ2=>uh μ2 fun hi μ3=>jQ (CD (cont μ3 r.d) lo hi) fun r=>Q r μ3
def vM(ue:UE):UI:=fun μ Rt=>ue μ fun r μ'=>DH (B_ r μ') fun ts g=>Rt ts g μ'
def ER(n:Nat)(gs:pw):UG:=fun r μ Q=>match tT (cont μ r.d) with | some ts=>ts.length=n/\gs ts μ Q | none=>False
def uq(ue:UE):UT:=fun μ Q=>ue μ fun r μ'=>match uN r with | some b=>Q b μ' | none=>False
theorem EV(i:Nat):kx i=uD i:=funext fun μ=>funext fun Q=>(A.kx i μ Q).trans (FO _ _ _)
theorem Fu:fN=uv:=funext fun r1=>funext fun r2=>funext fun μ=>funext fun Q=>(A.fN r1 r2 μ Q).trans (Fz _ _ _)
theorem G1:oj=Au:=funext fun r1=>funext fun r2=>funext fun μ=>funext fun Q=>(A.oj r1 r2 μ Q).trans (bt _ _ _)
theorem FA:lM=vj:=funext fun t=>funext fun μ=>funext fun Q=>(A.lM t μ Q).trans (FE _ _)
theorem G5(ue:UE)(ul uh:UO):zM ue ul uh=wy ue ul uh:=funext fun μ=>funext fun Q=>by
 unfold zM wy;congr 1;funext r μ1;congr 1;funext lo μ2;congr 1;funext hi μ3;exact Gz _ _ _ _
theorem GB(ue:UE):zm ue=vM ue:=funext fun μ=>funext fun Rt=>A.zm ue μ Rt
theorem eT(n:Nat)(gs:pw):gT n gs=ER n gs:=funext fun r=>funext fun μ=>funext fun Q=>A.gT n gs r μ Q
theorem FT(ue:UE):mR ue=uq ue:=funext fun μ=>funext fun Q=>A.mR ue μ Q
theorem vS{X:Cx}{x:Str}{pos:Pos}(i:Nat)(hN:X.N[i]?=some x:=by rfl)(hv:Bg X.env.scope x:=by first | exact Or.inl rfl | exact Or.inr (Or.inl rfl) | exact Or.inr (Or.inr rfl))(hd:(x ==("__debug__":Str))=false:=by decide)
  (hcd:(x ==("__classdict__":Str))=false:=by decide):YE X (.Name x pos) (uD i):=EV i ▸ v i hN hv hd hcd
theorem aC{K:PySem.W.Frag}:kW K (su K) uv:=Fu ▸ Bw
theorem aV{K:PySem.W.Frag}:kW K (Eu K) Au:=G1 ▸ Dh
theorem bG{K:PySem.W.Frag}:RC K (u5 K) (se vj):=FA ▸ Ac
theorem dh{X:Cx}{e:Expr}{ue:UE}{p2 pos:Pos}{lo hi:Option Expr}{ul uh:UO}(K:PySem.W.Frag)(hK:X.K=K)(he:YE X e ue)(hl:YO X lo ul)(hu:YO X hi uh):YE X (.Subscript e (.Slice lo hi none p2) pos) (wy ue ul uh):=G5 ue ul uh ▸ A_ K hK he hl hu
theorem anyS{X:Cx}{tg e:Expr}{ue:UE}(K:PySem.W.Frag)(hK:X.K=K)(he:YE X e ue):YI X tg e (vM ue):=GB ue ▸ any K hK he
theorem u7{X:Cx}{es:List Expr}{pos:Pos}(K:PySem.W.Frag)(hK:X.K=K){k n:Nat}{gs:pw}(hc:X.calm=true)(h:DQ X es gs)(hn:(assignEach es X.env).length=n:=by rfl)(hst:(assignEach es X.env).findIdx? (·.1)=none:=by rfl):YG X (.Tuple es k pos) (ER n gs):=eT n gs ▸ mW K hK hc h hn hst
theorem Cv{X:Cx}{a:Expr}{ua:UE}(K:PySem.W.Frag)(hK:X.K=K)(ha:YE X a ua)(he:Z.Ex a=true:=by rfl):YT X a (uq ua):=FT ua ▸ wo K hK ha he
end Y
namespace A3
theorem BJ(r:R)(Q:R->Prop):jQ (.ok r) Q=Q r:=rfl
theorem BG(c:Prop)(r:R)(Q:R->Prop):jQ (.ck c r) Q=(c/\Q r):=rfl
theorem DK(ts:List T)(g:Option (Nat×List T))(Q:List T->Option (Nat×List T)->Prop):DH (some (ts,g)) Q=Q ts g:=rfl
theorem yA(t:T):oQ (some t)=.ok (.tr t):=rfl
theorem kx(i:Nat)(μ:Mu)(Q:R->Mu->Prop):Y.uD i μ Q=jQ (r8 μ[i]? i) fun r=>Q r μ:=rfl
theorem fN(r1 r2:R)(μ:Mu)(Q:R->Mu->Prop):Y.uv r1 r2 μ Q=jQ (vG (cont μ r1) (cont μ r2)) fun r=>Q r μ:=rfl
theorem BW(r1 r2:R)(μ:Mu)(Q:R->Mu->Prop):Y.Au r1 r2 μ Q=jQ (Ei (cont μ r1) (cont μ r2)) fun r=>Q r μ:=rfl
theorem lM(t:T)(μ:Mu)(Q:R->Mu->Prop):Y.vj t μ Q=jQ (nU t) fun r=>Q r μ:=rfl
theorem FQ(ue:UE)(ul uh:UO)(μ:Mu)(Q:R->Mu->Prop):Y.wy ue ul uh μ Q=ue μ fun r μ1=>ul μ1 fun lo μ2=>uh μ2 fun hi μ3=>jQ (CD (cont μ3 r.d) lo hi) fun r=>Q r μ3:=rfl
theorem zm(ue:UE)(μ:Mu)(Rt:List T->Option (Nat×List T)->Mu->Prop):Y.vM ue μ Rt=ue μ fun r μ'=>DH (B_ r μ') fun ts g=>Rt ts g μ':=rfl
theorem gT(n:Nat)(gs:pw)(r:R)(μ:Mu)(Q:Mu->Prop):Y.ER n gs r μ Q=(match tT (cont μ r.d) with | some ts=>ts.length=n/\gs ts μ Q | none=>False):=rfl
theorem mR(ue:UE)(μ:Mu)(Q:Bool->Mu->Prop):Y.uq ue μ Q=ue μ fun r μ'=>match uN r with | some b=>Q b μ' | none=>False:=rfl
theorem F_(t:T)(i:Nat):r8 (some (.tr t)) i=.ok (.tr t):=rfl
theorem EM(t:T)(i:Nat):r8 (some (.bx t)) i=.ok (.br i):=rfl
theorem Fq(t:T)(i:Nat):r8 (some (.pb t)) i=.ok (.br i):=rfl
theorem Ek(i j:Int):vG (some (.int i)) (some (.int j))=.ok (.tr (.int (i+j))):=rfl
theorem add_l(xs ys:List T):vG (some (.lst xs)) (some (.lst ys))=.ck (xs.length+ys.length<=sizeLine) (.fr (.lst (xs++ys))):=rfl
theorem FP(xs:List T)(i:Int):Ei (some (.lst xs)) (some (.int i))=oQ (bS xs i):=rfl
theorem EY(xs:List T)(i:Int):Ei (some (.tup xs)) (some (.int i))=oQ (bS xs i):=rfl
theorem DV(xs:List T):nU (.lst xs)=.ok (.tr (.int xs.length)):=rfl
theorem CN(xs:List T):nU (.tup xs)=.ok (.tr (.int xs.length)):=rfl
theorem DD(xs:List T):nU (.d7 xs)=.ok (.tr (.int xs.length)):=rfl
theorem EU(xs:List T)(lo hi:Option Int):CD (some (.lst xs)) lo hi=.ok (.fr (.lst (Y.bH xs lo hi))):=rfl
theorem Ft(xs:List T)(lo hi:Option Int):CD (some (.d7 xs)) lo hi=.ok (.fr (.lst (Y.bH xs lo hi))):=rfl
end A3
open Builtin Builtin.Str
section
variable {prog:Program} {w:World} {A:Around} {E:Value->Shared->Prop} {h:Heap} {g:Array GenState} {d:Drawn} {t:Nat} {os:OsState} {a:Addr} {items:Array Value} {cn:Nat}
end
section
variable {prog:Program} {w:World} {K:Type} [DecidableEq K] {knd:KeyKind prog w K} {A:Around} {R:Result->Shared->Prop}
theorem fb:plainId "dict.update.loop"=true:=by decide +kernel
theorem eD:entryFor table "dict.update.loop"=some Builtin.«dict.update.loop»:=entryFor_of_fast (by kernel_rfl)
theorem nJ(kvs:List (K×Value))(k:K)(v:Value):(stored kvs k v).length<=kvs.length+1:=by
 unfold stored;split
 ·rw[List.length_map];lia
 ·rw[List.length_append];simp
theorem iz:∀ (more kvs:List (K×Value)),(merged kvs more).length<=kvs.length+more.length
 | [],kvs=>by unfold merged;simp
 | p::more,kvs=>by
  have h1:=iz more (stored kvs p.1 p.2);have h2:=nJ kvs p.1 p.2;have e:merged kvs (p::more)=merged (stored kvs p.1 p.2) more:=rfl;rw[e,List.length_cons];lia
end
end L2
namespace L2
open PySem PySem.Spec PyProof PyProof.Rows
namespace Y
end Y
namespace A
end A
namespace Z
section
variable {X:Cx} {CX:kT} {k:Nat} {f C:Addr} {fd:FuncData} {ps:List Str} {sp:Sp} {E:XK} {x m nm:Str} {p pos pos' apos:Pos} {e o i value:Expr} {es:List Expr} {ta tv td ty:TE} {t:TA}
theorem yd(hu:X.A.units+1 < cLine)(ho:QE X o td)(hi:QE X i ty)(hs:A1 i:=by exact fun _ _=>rfl):QE X (.Subscript o i pos) (j7 td ty):=⟨yz hu ho.h hi.h hs⟩
theorem dput(hu:X.A.units+1 < cLine)(ho:QE X o td)(hi:QE X i ty)(hv:QE X value tv)(hs:swapsWith value (some (.Subscript o i pos')) pos.line X.env=pure false:=by rfl):QS X (.Assign [.Subscript o i pos'] value pos) (lH td ty tv):=⟨wD hu ho.h hi.h hv.h hs⟩
end
end Z
namespace Ap
theorem j7(td ty:TE)(σ:St)(H:Hp)(Q:VK):L2.j7 td ty σ H Q=td σ H fun x H1=>ty σ H1 fun y H2=>∃ a v,x=.ref a/\oE H2 a y (some v)/\Q v H2:=rfl
theorem lH(td ty tv:TE)(D:Ends)(σ:St)(H:Hp):L2.lH td ty tv D σ H=tv σ H fun v H1=>td σ H1 fun x H2=>ty σ H2 fun y H3=>∃ a H4,x=.ref a/\o8 H3 a y v H4/\D.nx σ H4:=rfl
end Ap
section
variable {prog:Program} {w:World} {A:Around} {E:Value->Shared->Prop} {s:Shared} {K:PySem.W.Frag} {a:Addr} {D:List (Str×List Str)} {k:Str} {tk:Tok}
end
namespace Y
end Y
namespace A
end A
namespace Y
end Y
namespace A
end A
namespace Y
end Y
namespace A
end A
namespace SS
def ky(p:Keyed):Int:=numOf p.1
def ff(a:Int)(xs:List Keyed):List Keyed:=xs.filter fun p=>decide (ky p=a)
theorem eM(a:Int)(xs ys:List Keyed):ff a (xs++ys)=ff a xs++ff a ys:=List.filter_append ..
theorem qy{a:Int}{xs:List Keyed}(h:∀ p∈xs,ky p≠a):ff a xs=[]:=by
 unfold ff;rw[List.filter_eq_nil_iff];intro p hp
 simpa using h p hp
def St(xs ys:List Keyed):Prop:=∀ a,ff a xs=ff a ys
theorem St.trans{xs ys zs:List Keyed}(h:St xs ys)(g:St ys zs):St xs zs:=fun a=>(h a).trans (g a)
theorem St.past{p m r:List Keyed}{y:Keyed}(h:∀ q∈m,ky q≠ky y):St (p++y::m++r) (p++m++y::r):=by
 intro a;have e1:p++y::m++r=p++([y]++m)++r:=by simp
 have e2:p++m++y::r=p++(m++[y])++r:=by simp
 rw[e1,e2,eM,eM,eM,eM,eM];congr 2;by_cases c:ky y=a
 ·have:ff a m=[]:=qy fun q hq=>by rw[<- c];exact h q hq
  rw[eM,this,List.append_nil,List.nil_append]
 ·have:ff a [y]=[]:=qy fun q hq=>by rw[List.mem_singleton.mp hq];exact c
  rw[eM,this,List.append_nil,List.nil_append]
theorem mw{xs:Array Keyed}{k l:Nat}{y:Keyed}(hy:xs[k]?=some y)(hl:l<=k):(bubble xs k (k - l)).toList=xs.toList.take l++y::(xs.toList.drop l).take (k - l)++xs.toList.drop (k+1):=by
 have hk:k < xs.size:=(Array.getElem?_eq_some_iff.mp hy).1;have hL:xs.toList.length=xs.size:=by simp
 apply List.ext_getElem?;intro i;rw[Array.getElem?_toList,getElem?_bubble hk _ (by lia),show k - (k - l)=l by lia]
 rw[List.append_assoc,List.getElem?_append];have ht:(xs.toList.take l).length=l:=by rw[List.length_take];lia
 rw[ht];by_cases h1:i < l
 ·rw[if_pos h1,if_neg (by lia),if_neg (by lia),List.getElem?_take,if_pos h1,Array.getElem?_toList]
 ·rw[if_neg h1];by_cases h2:i=l
  ·subst h2;rw[if_pos rfl,Nat.sub_self,hy];rfl
  ·rw[if_neg h2,show i - l=(i - l - 1)+1 by lia,List.cons_append,List.getElem?_cons_succ,List.getElem?_append]
   have hm:((xs.toList.drop l).take (k - l)).length=k - l:=by rw[List.length_take,List.length_drop];lia
   rw[hm];by_cases h3:i - l - 1 < k - l
   ·rw[if_pos h3,if_pos (by lia),List.getElem?_take,if_pos h3,List.getElem?_drop,Array.getElem?_toList]
    congr 1;lia
   ·rw[if_neg h3,if_neg (by lia),List.getElem?_drop,Array.getElem?_toList]
    congr 1;lia
theorem fi{xs:Array Keyed}{i j:Nat}(hi:i<=j)(hj:j<=xs.size):(mirror xs i j ((j - i) / 2)).toList=xs.toList.take i++((xs.toList.drop i).take (j - i)).reverse++xs.toList.drop j:=by
 have hL:xs.toList.length=xs.size:=by simp
 apply List.ext_getElem?;intro k;rw[Array.getElem?_toList,getElem?_mirror_all hj,List.append_assoc,List.getElem?_append];have ht:(xs.toList.take i).length=i:=by rw[List.length_take];lia
 have hm:((xs.toList.drop i).take (j - i)).length=j - i:=by rw[List.length_take,List.length_drop];lia
 rw[ht];by_cases h1:k < i
 ·rw[if_pos h1,if_neg (by lia),List.getElem?_take,if_pos h1,Array.getElem?_toList]
 ·rw[if_neg h1,List.getElem?_append,List.length_reverse,hm];by_cases h2:k < j
  ·rw[if_pos (by lia),if_pos (by lia),List.getElem?_reverse (by lia),hm,List.getElem?_take,if_pos (by lia),List.getElem?_drop,Array.getElem?_toList]
   congr 1;lia
  ·rw[if_neg (by lia),if_neg (by lia),List.getElem?_drop,Array.getElem?_toList]
   congr 1;lia
theorem jv{xs:Array Keyed}{i:Nat}{p:Keyed}(h:xs[i]?=some p):K xs i=ky p:=by unfold K ky;rw[h]
theorem kP{xs:Array Keyed}{i n:Nat}{p:Keyed}(h:p∈(xs.toList.drop i).take n):∃ j,i<=j/\j < i+n/\xs[j]?=some p:=by
 obtain⟨m,hm⟩:=List.mem_iff_getElem?.mp h;rw[List.getElem?_take] at hm
 split at hm
 ·rw[List.getElem?_drop,Array.getElem?_toList] at hm;exact⟨i+m,by lia,by lia,hm⟩
 ·cases hm
theorem mX{xs:Array Keyed}{i:Nat}(h:i < xs.size):∃ p,xs[i]?=some p:=⟨xs[i],by rw[Array.getElem?_eq_getElem h]⟩
theorem St.G8{xs:Array Keyed}{k l:Nat}(hk:k < xs.size)(hl:l<=k)(h:∀ i,l<=i->i < k->K xs k < K xs i):St (bubble xs k (k - l)).toList xs.toList:=by
 obtain⟨y,hy⟩:=mX hk;rw[mw hy hl];have e:xs.toList=xs.toList.take l++(xs.toList.drop l).take (k - l)++y::xs.toList.drop (k+1):=by
  have hk':k < xs.toList.length:=by simpa using hk
  have ey:xs.toList[k]=y:=by
   have:xs.toList[k]?=some y:=by rw[Array.getElem?_toList];exact hy
   exact (List.getElem?_eq_some_iff.mp this).2
  rw[<- ey,<- List.drop_eq_getElem_cons hk',List.append_assoc];have:(xs.toList.drop l).take (k - l)++xs.toList.drop k=xs.toList.drop l:=by
   have:=List.take_append_drop (k - l) (xs.toList.drop l);rw[List.drop_drop,show l+(k - l)=k by lia] at this
   exact this
  rw[this,List.take_append_drop]
 have:=St.past (p:=xs.toList.take l) (m:=(xs.toList.drop l).take (k - l)) (r:=xs.toList.drop (k+1)) (y:=y) fun q hq=>by
  obtain⟨j,h1,h2,h3⟩:=kP hq;have:=h j h1 (by lia)
  rw[jv h3,jv hy] at this;lia
 rw[<- e] at this;exact this
def AS(n:Nat)(xs:Array Keyed)(a0:List Keyed):Prop:=St ((xs.toList.take n).reverse++xs.toList.drop n) a0
theorem AS.G0{n:Nat}{xs:Array Keyed}{a0:List Keyed}(hn:n<=xs.size)(h:AS n xs a0):St (mirror xs 0 n ((n - 0) / 2)).toList a0:=by
 rw[fi (Nat.zero_le _) hn];have:xs.toList.take 0++((xs.toList.drop 0).take (n - 0)).reverse++xs.toList.drop n=(xs.toList.take n).reverse++xs.toList.drop n:=by simp
 rw[this];exact h
theorem AS.As{n:Nat}{xs:Array Keyed}{a0:List Keyed}(hn:n<=xs.size)(h:St xs.toList a0):AS n (mirror xs 0 n ((n - 0) / 2)) a0:=by
 unfold AS;rw[fi (Nat.zero_le _) hn];have hl:(xs.toList.take n).reverse.length=n:=by rw[List.length_reverse,List.length_take];simp;lia
 have e1:xs.toList.take 0++((xs.toList.drop 0).take (n - 0)).reverse++xs.toList.drop n=(xs.toList.take n).reverse++xs.toList.drop n:=by simp
 rw[e1,List.take_left' hl,List.drop_left' hl,List.reverse_reverse,List.take_append_drop];exact h
theorem AS.less{n:Nat}{xs:Array Keyed}{a0:List Keyed}(hn:n < xs.size)(h:AS n xs a0)(hl:∀ i,i < n->K xs n < K xs i):AS (n+1) xs a0:=by
 obtain⟨y,hy⟩:=mX hn;have hn':n < xs.toList.length:=by simpa using hn
 have ey:xs.toList[n]?=some y:=by rw[Array.getElem?_toList];exact hy
 have e1:(xs.toList.take (n+1)).reverse=y::(xs.toList.take n).reverse:=by rw[List.take_succ,ey];simp
 have e2:xs.toList.drop n=y::xs.toList.drop (n+1):=by rw[List.drop_eq_getElem_cons hn',(List.getElem?_eq_some_iff.mp ey).2]
 unfold AS at h ⊢;rw[e2] at h;rw[e1];refine St.trans ?_ h;exact St.past (p:=[]) (m:=(xs.toList.take n).reverse) (r:=xs.toList.drop (n+1)) (y:=y) fun q hq=>by
  have hq':q∈(xs.toList.drop 0).take n:=by simpa using List.mem_reverse.mp hq
  obtain⟨j,_,h2,h3⟩:=kP hq';have:=hl j (by lia)
  rw[jv h3,jv hy] at this;lia
theorem AS.same{n q:Nat}{xs:Array Keyed}{a0:List Keyed}(hn:n < xs.size)(hq:q+1<=n)(h:AS n (mirror xs (n - (q+1)) n ((n - (n - (q+1))) / 2)) a0)(hs:∀ i,i < n - (q+1)->K xs n < K xs i):AS (n+1) (mirror xs (n+1 - (q+1+1)) (n+1) ((n+1 - (n+1 - (q+1+1))) / 2)) a0:=by
 obtain⟨y,hy⟩:=mX hn;have hL:xs.toList.length=xs.size:=by simp
 have hn':n < xs.toList.length:=by lia
 have ey:xs.toList[n]?=some y:=by rw[Array.getElem?_toList];exact hy
 obtain⟨m,hm⟩:∃ m,n - (q+1)=m:=⟨_,rfl⟩;have hm2:n+1 - (q+1+1)=m:=by lia
 rw[hm] at h hs;rw[hm2];unfold AS at h ⊢;rw[fi (by lia) (by lia)] at h ⊢
 obtain⟨p,hp⟩:∃ p,p=xs.toList.take m:=⟨_,rfl⟩;obtain⟨S,hS⟩:∃ S,S=(xs.toList.drop m).take (n - m):=⟨_,rfl⟩;have hpl:p.length=m:=by rw[hp,List.length_take];lia
 have hSl:S.length=n - m:=by rw[hS,List.length_take,List.length_drop];lia
 have e1:(xs.toList.drop m).take (n+1 - m)=S++[y]:=by
  rw[show n+1 - m=(n - m)+1 by lia,List.take_succ,<- hS,List.getElem?_drop,show m+(n - m)=n by lia,ey];rfl
 have e2:xs.toList.drop n=y::xs.toList.drop (n+1):=by rw[List.drop_eq_getElem_cons hn',(List.getElem?_eq_some_iff.mp ey).2]
 rw[<- hp,<- hS,e2] at h;rw[<- hp,e1];have l1:(p++S.reverse).length=n:=by rw[List.length_append,List.length_reverse];lia
 have l2:(p++(S++[y]).reverse).length=n+1:=by rw[List.length_append,List.length_reverse,List.length_append];simp;lia
 rw[List.take_left' l1,List.drop_left' l1,List.reverse_append,List.reverse_reverse] at h;rw[List.take_left' l2,List.drop_left' l2,List.reverse_append,List.reverse_reverse];refine St.trans ?_ h;have:=St.past (p:=S) (m:=p.reverse) (r:=xs.toList.drop (n+1)) (y:=y) fun z hz=>by
  have hz':z∈(xs.toList.drop 0).take m:=by rw[List.drop_zero,<- hp];exact List.mem_reverse.mp hz
  obtain⟨j,_,h2,h3⟩:=kP hz';have:=hs j (by lia)
  rw[jv h3,jv hy] at this;lia
 simpa using this
theorem AS.one{xs:Array Keyed}{a0:List Keyed}(h:St xs.toList a0):AS 1 xs a0:=by
 unfold AS;have:(xs.toList.take 1).reverse++xs.toList.drop 1=xs.toList:=by cases xs.toList<;>rfl
 rw[this];exact h
theorem sy{xs:Array Keyed}{i j:Nat}(hj:j<=xs.size)(he:∀ k,i<=k->k < j->K xs k=K xs (j - 1))(k:Nat):K (mirror xs i j ((j - i) / 2)) k=K xs k:=by
 have e:=getElem?_mirror_all (i:=i) hj k;by_cases h1:i<=k/\k < j
 ·rw[if_pos h1] at e;rw[K_congr e,he _ (by lia) (by lia),he k h1.1 h1.2]
 ·rw[if_neg h1] at e;exact K_congr e
theorem fk(xs:Array Keyed)(n:Nat):mirror xs (n - 1) n ((n - (n - 1)) / 2)=xs:=by
 have:(n - (n - 1)) / 2=0:=by lia
 rw[this];rfl
end SS
namespace SS
section
variable {prog:Program} {w:World} {A:Around} {E:Value->Shared->Prop} {s:Shared} {a₀:Array Keyed}
def Ai(xs:Array Keyed)(n:Nat):Prop:=∀ i j,i<=j->j < n->K xs j<=K xs i
theorem p6{st:SortSt}{n r:Nat}{Q:Option Nat->SortSt->Prop}(h0:IntKeys a₀)(hr:r<=a₀.size)(h1:1<=n)(hnr:n<=r)(hB:SBase a₀ st)(hf:Ai (arrOf st) n)(ha:AS n (arrOf st) a₀.toList)
  (h:∀ m st',SBase a₀ st'->1<=m->m<=r->SortedTo (arrOf st') m->St (arrOf st').toList a₀.toList->Q (some m) st'):wpS (model prog w) A E s (tail3 n r) Q st:=by
 unfold tail3;have hz:n<=(arrOf st).size:=by have:=hB.size;lia
 refine wpS_bind (wpS_reverse ?_);have hB2:=hB.setArr (mirror_perm (arrOf st) 0 n ((n - 0) / 2));have hs2:SortedTo (mirror (arrOf st) 0 n ((n - 0) / 2)) n:=fun i j hij hj=>by
  have ei:=K_congr ((getElem?_mirror_all (i:=0) hz i).trans (if_pos ⟨Nat.zero_le _,by lia⟩))
  have ej:=K_congr ((getElem?_mirror_all (i:=0) hz j).trans (if_pos ⟨Nat.zero_le _,hj⟩));rw[ei,ej];exact hf _ _ (by lia) (by lia)
 refine wpS_bind (wpS_ascLoop h0 hr h1 hnr hB2 hs2 fun m m1 m2 m3 _=>?_);exact wpS_pure (h m _ hB2 (by lia) m2 m3 (AS.G0 hz ha))
def DI(a₀:Array Keyed)(x q:Nat)(st:SortSt):Prop:=SBase a₀ st/\Ai (arrOf st) x/\q+1<=x/\(∀ i,x - (q+1)<=i->i < x->K (arrOf st) i=K (arrOf st) (x - 1))/\(∀ i,i < x - (q+1)->K (arrOf st) (x - 1) < K (arrOf st) i)/\AS x (mirror (arrOf st) (x - (q+1)) x ((x - (x - (q+1))) / 2)) a₀.toList
theorem xw{st:SortSt}{n r:Nat}{Q:DescSt->SortSt->Prop}(h0:IntKeys a₀)(hr:r<=a₀.size)(hnr:n<=r)(hI:DI a₀ n 0 st)
  (h:∀ m q st',n<=m->m<=r->DI a₀ m q st'->Q (none,m,q) st'):wpS (model prog w) A E s (descLoop n r) Q st:=by
 unfold descLoop;refine wpS_forRange (I:=fun x c st'=>∃ q,c=(none,x,q)/\DI a₀ x q st') ?_ ?_ ⟨0,rfl,hI⟩
 ·rintro x c st' hx hxr ⟨q,rfl,hB,hf,hq,he,hl,ha⟩;dsimp only;have hz:(arrOf st').size=a₀.size:=hB.size;have hx1:1<=x:=by lia
  refine wpS_bind (wpS_ltK hB h0 (by lia) (by lia) ?_)
  have lastK:∀ i,i < x->K (arrOf st') (x - 1)<=K (arrOf st') i:=fun i hi=>hf i (x - 1) (by lia) (by lia)
  by_cases c1:K (arrOf st') x < K (arrOf st') (x - 1)
  ·rw[decide_eq_true c1];simp only[if_true];have key:∀ ys:Array Keyed,ys.size=a₀.size->(∀ k,K ys k=K (arrOf st') k)->AS x ys a₀.toList->Ai ys (x+1)/\(∀ i,i < x->K ys x < K ys i)/\AS (x+1) ys a₀.toList:=fun ys hys hk hA=>by
    have hlt:∀ i,i < x->K ys x < K ys i:=fun i hi=>by
     rw[hk,hk];have:=lastK i hi;lia
    refine⟨fun i j hij hj=>?_,hlt,AS.less (by lia) hA hlt⟩
    by_cases hj2:j < x
    ·rw[hk,hk];exact hf i j hij hj2
    ·obtain rfl:j=x:=by lia
     by_cases hi2:i=j
     ·subst hi2;exact Int.le_refl _
     ·exact Int.le_of_lt (hlt i (by lia))
   have fin:∀ ys:Array Keyed,ys.Perm (arrOf st')->(∀ k,K ys k=K (arrOf st') k)->AS x ys a₀.toList->DI a₀ (x+1) 0 (setArr st' ys):=fun ys hp hk hA=>by
    obtain⟨k1,k2,k3⟩:=key ys (by rw[hp.size_eq,hz]) hk hA
    refine⟨hB.setArr hp,k1,by lia,fun i i1 i2=>?_,fun i i1=>?_,?_⟩
    ·obtain rfl:i=x:=by lia
     rfl
    ·exact k2 i (by lia)
    ·show AS (x+1) (mirror ys (x+1 - 1) (x+1) ((x+1 - (x+1 - 1)) / 2)) a₀.toList;rw[fk];exact k3
   by_cases c2:q > 0
   ·rw[if_pos c2];exact wpS_bind (wpS_reverse (wpS_pure ⟨0,rfl,fin _ (mirror_perm _ _ _ _) (fun k=>sy (by lia) he k) ha⟩))
   ·rw[if_neg c2];obtain rfl:q=0:=by lia
    rw[fk] at ha;exact wpS_pure ⟨0,rfl,fin (arrOf st') (Array.Perm.refl _) (fun _=>rfl) ha⟩
  ·rw[decide_eq_false c1];simp only[Bool.false_eq_true,if_false];refine wpS_bind (wpS_ltK hB h0 (by lia) (by lia) ?_)
   by_cases c3:K (arrOf st') (x - 1) < K (arrOf st') x
   ·rw[decide_eq_true c3];simp only[if_true];exact wpS_pure (h x q st' hx (by lia) ⟨hB,hf,hq,he,hl,ha⟩)
   ·rw[decide_eq_false c3];simp only[Bool.false_eq_true,if_false];have ex:K (arrOf st') x=K (arrOf st') (x - 1):=by lia
    refine wpS_pure ⟨q+1,rfl,hB,fun i j hij hj=>?_,by lia,fun i i1 i2=>?_,fun i i1=>?_,AS.same (by lia) hq ha fun i hi=>by rw[ex];exact hl i hi⟩
    ·by_cases hj2:j < x
     ·exact hf i j hij hj2
     ·obtain rfl:j=x:=by lia
      by_cases hi2:i=j
      ·subst hi2;exact Int.le_refl _
      ·rw[ex];exact lastK i (by lia)
    ·show K (arrOf st') i=K (arrOf st') x;by_cases hi2:i=x
     ·rw[hi2]
     ·rw[ex];exact he i (by lia) (by lia)
    ·show K (arrOf st') x < K (arrOf st') i;rw[ex];exact hl i (by lia)
 ·rintro c st' ⟨q,rfl,hD⟩;rw[show max n r=r by lia] at hD ⊢
  exact h r q st' hnr (Nat.le_refl _) hD
theorem gu{st:SortSt}{n r:Nat}{Q:Option Nat->SortSt->Prop}(h0:IntKeys a₀)(hr:r<=a₀.size)(hnr:n+1<=r)(hI:DI a₀ (n+1) 0 st)
  (h:∀ m st',SBase a₀ st'->1<=m->m<=r->SortedTo (arrOf st') m->St (arrOf st').toList a₀.toList->Q (some m) st'):wpS (model prog w) A E s (descPart n r) Q st:=by
 unfold descPart;refine wpS_bind (wpS_lift (wpAny_rule ⟨rfl,?_⟩));refine wpS_bind (xw h0 hr hnr hI fun m q st' m1 m2 ⟨hB,hf,hq,he,hl,ha⟩=>?_);dsimp only;have hz:(arrOf st').size=a₀.size:=hB.size;by_cases c:q > 0
 ·rw[if_pos c];refine wpS_bind (wpS_reverse (p6 h0 hr (by lia) m2 (hB.setArr (mirror_perm _ _ _ _)) ?_ ha h))
  intro i j hij hj;have k:=sy (xs:=arrOf st') (i:=m - (q+1)) (j:=m) (by lia) he
  show K (mirror (arrOf st') (m - (q+1)) m ((m - (m - (q+1))) / 2)) j<=K (mirror (arrOf st') (m - (q+1)) m ((m - (m - (q+1))) / 2)) i;rw[k,k];exact hf i j hij hj
 ·rw[if_neg c];obtain rfl:q=0:=by lia
  rw[fk] at ha;exact p6 h0 hr (by lia) m2 hB hf ha h
theorem Ae{st:SortSt}{r:Nat}{Q:Option Nat->SortSt->Prop}(h0:IntKeys a₀)(hr:r<=a₀.size)(h1:1<=r)(hB:SBase a₀ st)(hS:St (arrOf st).toList a₀.toList)
  (h:∀ m st',SBase a₀ st'->1<=m->m<=r->SortedTo (arrOf st') m->St (arrOf st').toList a₀.toList->Q (some m) st'):wpS (model prog w) A E s (countRun' 0 r) Q st:=by
 rw[countRun0_eq];have hz:(arrOf st).size=a₀.size:=hB.size;have h11:SortedTo (arrOf st) 1:=fun i j hij hj=>by
  obtain rfl:i=j:=by lia
  exact Int.le_refl _
 refine wpS_bind (wpS_ascLoop h0 hr (Nat.le_refl 1) h1 hB h11 fun n n1 n2 n3 n4=>?_);dsimp only;by_cases c0:n=r
 ·rw[if_pos (by simpa using c0)]
  exact wpS_pure (h n st hB n1 n2 n3 hS)
 ·rw[if_neg (by simpa using c0)]
  have hlt:=n4.resolve_left c0;by_cases c1:n > 1
  ·rw[if_pos c1];refine wpS_bind (wpS_ltK hB h0 (by lia) (by lia) ?_)
   by_cases c2:K (arrOf st) 0 < K (arrOf st) (n - 1)
   ·rw[decide_eq_true c2];simp only[if_true];exact wpS_pure (h n st hB n1 n2 n3 hS)
   ·rw[decide_eq_false c2];simp only[Bool.false_eq_true,if_false];have hall:∀ k,0<=k->k < n->K (arrOf st) k=K (arrOf st) (n - 1):=fun k _ hk=>by
     have a1:=n3 0 k (by lia) hk
     have a2:=n3 k (n - 1) (by lia) (by lia)
     lia
    have km:=sy (xs:=arrOf st) (i:=0) (j:=n) (by lia) hall
    have kn:∀ i,i < n->K (mirror (arrOf st) 0 n ((n - 0) / 2)) n < K (mirror (arrOf st) 0 n ((n - 0) / 2)) i:=fun i hi=>by rw[km,km,hall i (Nat.zero_le _) hi];exact hlt
    refine wpS_bind (wpS_reverse (gu h0 hr (by lia) ⟨hB.setArr (mirror_perm _ _ _ _),fun i j hij hj=>?_,by lia,fun i i1 i2=>?_,fun i i1=>?_,?_⟩ h))
    ·show K (mirror (arrOf st) 0 n ((n - 0) / 2)) j<=K (mirror (arrOf st) 0 n ((n - 0) / 2)) i;by_cases hj2:j < n
     ·rw[km,km,hall i (Nat.zero_le _) (by lia),hall j (Nat.zero_le _) hj2];exact Int.le_refl _
     ·obtain rfl:j=n:=by lia
      by_cases hi2:i=j
      ·subst hi2;exact Int.le_refl _
      ·exact Int.le_of_lt (kn i (by lia))
    ·obtain rfl:i=n:=by lia
     rfl
    ·exact kn i (by lia)
    ·show AS (n+1) (mirror (mirror (arrOf st) 0 n ((n - 0) / 2)) (n+1 - 1) (n+1) ((n+1 - (n+1 - 1)) / 2)) a₀.toList;rw[fk];exact AS.less (by rw[mirror_size];lia) (AS.As (by lia) hS) kn
  ·rw[if_neg c1];obtain rfl:n=1:=by lia
   have k1:∀ i,i < 1->K (arrOf st) 1 < K (arrOf st) i:=fun i hi=>by
    obtain rfl:i=0:=by lia
    exact hlt
   refine gu h0 hr (by lia) ⟨hB,fun i j hij hj=>?_,by lia,fun i i1 i2=>?_,fun i i1=>k1 i (by lia),?_⟩ h
   ·by_cases hi2:i=j
    ·subst hi2;exact Int.le_refl _
    ·obtain rfl:i=0:=by lia
     obtain rfl:j=1:=by lia
     exact Int.le_of_lt hlt
   ·obtain rfl:i=1:=by lia
    rfl
   ·show AS (1+1) (mirror (arrOf st) (1+1 - 1) (1+1) ((1+1 - (1+1 - 1)) / 2)) a₀.toList;rw[fk];exact AS.less (by lia) (AS.one hS) k1
end
end SS
namespace SS
section
variable {prog:Program} {w:World} {A:Around} {E:Value->Shared->Prop} {s:Shared} {a₀:Array Keyed}
theorem BC{st:SortSt}{n ok:Nat}{Q:Bool->SortSt->Prop}(h0:IntKeys a₀)(hn:n<=a₀.size)(aE:ok<=n)(hB:SBase a₀ st)(hs:SortedTo (arrOf st) ok)(hS:St (arrOf st).toList a₀.toList)
  (h:∀ st',SBase a₀ st'->SortedTo (arrOf st') n->St (arrOf st').toList a₀.toList->Q true st'):wpS (model prog w) A E s (binarySort' 0 n ok) Q st:=by
 rw[binarySort'_eq];simp only[Nat.zero_add];refine wpS_bind (wpS_mono (wpS_forRange (I:=fun k c st'=>c=(none,())/\SBase a₀ st'/\SortedTo (arrOf st') (min k n)/\St (arrOf st').toList a₀.toList) (Q:=fun c st'=>c=(none,())/\SBase a₀ st'/\SortedTo (arrOf st') n/\St (arrOf st').toList a₀.toList) ?stp ?end_ ?ini) ?pst)
 case pst =>
  rintro c st' ⟨rfl,b1,b2,b3⟩;exact wpS_pure (h st' b1 b2 b3)
 case stp =>
  rintro k c st1 hk1 hk2 ⟨rfl,hB1,hs1,hS1⟩;have hz:(arrOf st1).size=a₀.size:=hB1.size;rw[show min k n=k by lia] at hs1
  refine wpS_bind (wpS_mono (wpS_forRange (I:=fun x c dE=>dE=st1/\∃ l r,c=(none,l,r)/\l<=r/\r<=k/\r - l<=k - x/\(∀ i,i < l->K (arrOf st1) i<=K (arrOf st1) k)/\∀ i,r<=i->i < k->K (arrOf st1) k < K (arrOf st1) i) (Q:=fun c dE=>dE=st1/\∃ l r,c=(none,l,r)/\l<=k/\(∀ i,i < l->K (arrOf st1) i<=K (arrOf st1) k)/\∀ i,l<=i->i < k->K (arrOf st1) k < K (arrOf st1) i) ?stp2 ?end2 ⟨rfl,0,k,rfl,by lia,by lia,by lia,fun i hi=>by lia,fun i i1 i2=>by lia⟩) ?pst2)
  case pst2 =>
   rintro c dE ⟨rfl,l,r,rfl,hl,hlo,hhi⟩;show wpS _ _ _ _ (do moveDown' k l;pure (ForInStep.yield (none,()))) _ _
   rw[moveDown'_eq];refine wpS_bind (wpS_modify (wpS_pure ⟨rfl,hB1.setArr (bubble_perm _ _ _),?_,(St.G8 (by lia) hl hhi).trans hS1⟩))
   rw[show min (k+1) n=k+1 by lia]
   intro i j hij hj;show K (bubble (arrOf dE) k (k - l)) i<=K (bubble (arrOf dE) k (k - l)) j;have hkb:∀ m,K (bubble (arrOf dE) k (k - l)) m=if m=l then K (arrOf dE) k else if l < m/\m<=k then K (arrOf dE) (m - 1) else K (arrOf dE) m:=fun m=>by
    rw[K_bubble (by lia) (by lia),show k - (k - l)=l by lia]
   rw[hkb,hkb];by_cases ci:i=l
   ·rw[if_pos ci];by_cases cj:j=l
    ·rw[if_pos cj];exact Int.le_refl _
    ·rw[if_neg cj,if_pos (by lia)]
     exact Int.le_of_lt (hhi (j - 1) (by lia) (by lia))
   ·rw[if_neg ci];by_cases ci2:l < i/\i<=k
    ·rw[if_pos ci2,if_neg (by lia),if_pos (by lia)]
     exact hs1 (i - 1) (j - 1) (by lia) (by lia)
    ·rw[if_neg ci2];by_cases cj:j=l
     ·rw[if_pos cj];exact hlo i (by lia)
     ·rw[if_neg cj];by_cases cj2:l < j/\j<=k
      ·rw[if_pos cj2];exact hs1 i (j - 1) (by lia) (by lia)
      ·rw[if_neg cj2];exact hs1 i j hij (by lia)
  case stp2 =>
   rintro x c dE _ hx ⟨rfl,l,r,rfl,h1,h2,h3,hlo,hhi⟩;dsimp only;by_cases cg:l >= r
   ·rw[if_pos cg];exact wpS_pure ⟨rfl,l,r,rfl,by lia,hlo,fun i i1 i2=>hhi i (by lia) i2⟩
   ·rw[if_neg cg];refine wpS_bind (wpS_ltK hB1 h0 (by lia) (by lia) ?_)
    by_cases cl:K (arrOf dE) k < K (arrOf dE) ((l+r) / 2)
    ·rw[decide_eq_true cl];simp only[if_true];refine wpS_pure ⟨rfl,l,(l+r) / 2,rfl,by lia,by lia,by lia,hlo,fun i i1 i2=>?_⟩
     have:=hs1 ((l+r) / 2) i i1 i2;lia
    ·rw[decide_eq_false cl];simp only[Bool.false_eq_true,if_false];refine wpS_pure ⟨rfl,(l+r) / 2+1,r,rfl,by lia,by lia,by lia,fun i i1=>?_,hhi⟩
     have:=hs1 i ((l+r) / 2) (by lia) (by lia)
     lia
  case end2 =>
   rintro c dE ⟨rfl,l,r,rfl,h1,h2,h3,hlo,hhi⟩;exact⟨rfl,l,r,rfl,by lia,hlo,fun i i1 i2=>hhi i (by lia) i2⟩
 case end_ =>
  rintro c st' ⟨hc,b1,b2,b3⟩;rw[show min (max (max ok 1) n) n=n by lia] at b2
  exact⟨hc,b1,b2,b3⟩
 case ini =>
  refine⟨rfl,hB,fun i j hij hj=>?_,hS⟩;by_cases z:ok=0
  ·obtain rfl:i=j:=by lia
   exact Int.le_refl _
  ·exact hs i j hij (by lia)
theorem xx{st:SortSt}{Q:Unit->SortSt->Prop}(h0:IntKeys a₀)(hB:SBase a₀ st)(hS:St (arrOf st).toList a₀.toList)(h2:2<=a₀.size)(h64:a₀.size < 64)
  (h:∀ st',(arrOf st').Perm a₀->failedOf st'=none->SortedTo (arrOf st') a₀.size->St (arrOf st').toList a₀.toList->Q () st'):wpS (model prog w) A E s sortRuns' Q st:=by
 rw[sortRuns'_eq];refine wpS_bind (wpS_get ?_);dsimp only;have hmr:minRun' a₀.size a₀.size 0=a₀.size:=by
  obtain⟨f,hf⟩:∃ f,a₀.size=f+1:=⟨a₀.size - 1,by lia⟩
  have e:minRun' (f+1) a₀.size 0=a₀.size:=by rw[minRun'_succ,if_pos h64];rfl
  rwa [<- hf] at e
 simp only[hB.size,hmr]
 let D:SortSt->Prop:=fun st'=>(arrOf st').Perm a₀/\failedOf st'=none/\pendingOf st'=#[(0,a₀.size,0)]/\SortedTo (arrOf st') a₀.size/\St (arrOf st').toList a₀.toList
 have mk:∀ st',SBase a₀ st'->SortedTo (arrOf st') a₀.size->St (arrOf st').toList a₀.toList->D (setPending st' ((pendingOf st').push (0,a₀.size,0))):=fun st' b1 b2 b3=>⟨b1.perm,b1.failed,by show (pendingOf st').push _=_;rw[b1.pend];rfl,b2,b3⟩
 refine wpS_bind (wpS_mono (wpS_forRange (I:=fun x c st'=>(x=0/\c=(none,0)/\SBase a₀ st'/\St (arrOf st').toList a₀.toList)\/(1<=x/\c=(none,a₀.size)/\D st')) (Q:=fun c st'=>c=(none,a₀.size)/\D st') ?stp ?end_ (.inl ⟨rfl,rfl,hB,hS⟩)) ?pst)
 case pst =>
  rintro c st1 ⟨rfl,hD⟩;dsimp only;refine wpS_bind (wpS_mono (wpS_forRange (I:=fun _ c dE=>dE=st1/\c=(none,())) (Q:=fun c dE=>dE=st1/\c=(none,())) ?stp2 (fun _ _ z=>z) ⟨rfl,rfl⟩) ?pst2)
  case pst2 =>
   rintro c dE ⟨rfl,rfl⟩;exact wpS_pure (h _ hD.1 hD.2.1 hD.2.2.2.1 hD.2.2.2.2)
  case stp2 =>
   rintro x c dE _ _ ⟨rfl,rfl⟩;refine wpS_bind (wpS_get ?_);rw[if_pos (by rw[hD.2.2.1];exact Nat.le_refl 1)]
   exact wpS_pure ⟨rfl,rfl⟩
 case stp =>
  rintro x c st1 _ hx (⟨rfl,rfl,b1,b2⟩ | ⟨hx1,rfl,hD⟩)
  ·dsimp only;rw[if_neg (by lia)]
   simp only[Nat.sub_zero,Nat.min_self,Nat.zero_add];refine wpS_bind (Ae h0 (Nat.le_refl _) (by lia) b1 b2 fun m dE d1 m1 m2 d2 d3=>?_)
   dsimp only;have fin:∀ st3,SBase a₀ st3->SortedTo (arrOf st3) a₀.size->St (arrOf st3).toList a₀.toList->(pendingOf st3).back?=none:=fun st3 e _ _=>by rw[e.pend];rfl
   by_cases cm:m < a₀.size
   ·rw[if_pos cm];refine wpS_bind (wpS_lift (wpAny_rule ⟨rfl,?_⟩));refine wpS_bind (BC h0 (Nat.le_refl _) m2 d1 d2 d3 fun st3 e1 e2 e3=>?_);simp only[Bool.not_true,Bool.false_eq_true,if_false];refine wpS_bind (wpS_get ?_);rw[fin st3 e1 e2 e3];exact wpS_bind (wpS_modify (wpS_pure (.inr ⟨by lia,rfl,mk st3 e1 e2 e3⟩)))
   ·rw[if_neg cm];obtain rfl:m=a₀.size:=by lia
    refine wpS_bind (wpS_get ?_);rw[fin dE d1 d2 d3];exact wpS_bind (wpS_modify (wpS_pure (.inr ⟨by lia,rfl,mk dE d1 d2 d3⟩)))
  ·dsimp only;rw[if_pos (Nat.le_refl _)];exact wpS_pure ⟨rfl,hD⟩
 case end_ =>
  rintro c st1 (⟨hx,_⟩ | ⟨_,hc,hD⟩)
  ·lia
  ·exact⟨hc,hD⟩
end
end SS
noncomputable abbrev Aq (qual:Str) (scope:Scope) (L f:Addr) (cd:Value) (cl:List (Str×Addr)):Env:=PySem.W.envX qual scope L f cd cl
def oI(X:Cx)(A:Around)(N:List Str)(qual:Str)(scope:Scope)(f:Addr)(cd:Value)(cl:List (Str×Addr))(s:Shared)(H:Hp):Cx where
 prog:=X.prog
 w:=X.w
 K:=X.K
 mg:=X.mg
 base:=X.base
 A:=A.deeper (Aq qual scope s.heap.objs.size f cd cl)
 N:=N
 s₀:=s
 H₀:=H
 env:=Aq qual scope s.heap.objs.size f cd cl
 outer:=X.stack
 stack:=Aq qual scope s.heap.objs.size f cd cl::X.stack
 ex:=[]
 calm:=true
 fn:=fun _=>false
 pn:=[]
 xe:=fun _ _=>False
section
variable {X:Cx} {pins:List (Addr×Obj)} {σ:St} {H:Hp} {s:Shared}
theorem wC(I:Inv X pins σ H s){A:Around}(hA:A.frames=some X.stack)(hd:A.handled=none){x qual:Str}{N:List Str}{σf:List (Option V)}{v:V}{u:Value}{scope:Scope}{f:Addr}{cd:Value}{cl:List (Str×Addr)}{h₁:Heap}{tk:Nat}
  (hk:scope.kind=.function) (rv:RelV v u) (hloc:scope.names.lookup x=some .local) (hns:h₁.Ns s.heap.objs.size (fun y=>[(x,u)].reverse.lookup y)) (old:∀ b o,s.heap.get? b=some o->h₁.get? b=some o)
  (hlen:σf.length=N.length) (hcl:∀ y c,cl.lookup y=some c->X.env.cells.lookup y=some c) (hhas:∀ y,(scope.names.lookup y=some .cell\/scope.names.lookup y=some .free)->∃ c,cl.lookup y=some c)
  (hf:∀ (i:Nat) (y:Str) (v:V),N[i]?=some y->σf[i]?=some (some v)->scope.names.lookup y=some .free/\∃ c u,cl.lookup y=some c/\s.heap.IsCell c (some u)/\RelV v u) :
  Inv (oI X A (x::N) qual scope f cd cl s H) [] (some v::σf) H { s with heap:=h₁,toks:=tk }:=by
 have noA:∀ b:Addr,b∉(oI X A (x::N) qual scope f cd cl s H).ex:=fun b z=>absurd (show b∈([]:List Addr) from z) (by simp)
 refine⟨⟨I.ok.mod,hk,rfl,rfl,Nat.le_refl _,fun y z c e1 e2=>I.ok.inj y z c (hcl y c e1) (hcl z c e2),hhas,fun y c z _=>(by cases z),fun _=>hd,Around.frames_deeper hA,.inr ⟨rfl,rfl⟩,fun b z=>absurd z (noA b),I.bs,Nat.le_trans I.ok.x_ I.sz,fun b _ _=>noA b,fun b z=>absurd z (noA b),I.stack,I.gQ,I.ok.tabs.un I.base⟩,
  rfl,I.bare,Un.kept old,⟨_,hns,fun i y w e1 e2 e3=>?_⟩,fun y c e=>?_,I.aE.fresh (Nat.le_refl _),fun y c e=>I.cC y c (hcl y c e),fun p hp=>absurd (show p∈([]:List (Addr×Obj)) from hp) (by simp),I.aE.kept old,?_⟩
 ·cases i with
  | zero =>
   have e1':some x=some y:=e1;have e2':some (some v)=some (some w):=e2
   cases e1';cases e2'
   exact⟨u,rv,.inl ⟨hloc,by simp⟩⟩
  | succ i =>
   obtain⟨h1,c,u',h2,h3,h4⟩:=hf i y w e1 e2;obtain⟨o,ho,hd'⟩:=h3;exact⟨u',h4,.inr ⟨.inr h1,c,h2,o,old _ _ ho,hd'⟩⟩
 ·obtain⟨v',o,ho,hd'⟩:=I.cell y c (hcl y c e);exact⟨v',o,old _ _ ho,hd'⟩
 ·show (some v::σf).length=(x::N).length;rw[List.length_cons,List.length_cons,hlen]
theorem sA(I:Inv X pins σ H s){A:Around}{k:Nat}(hr:bC (k+1) A)(hA:A.frames=some X.stack){x qual:Str}{N:List Str}{σf:List (Option V)}{v:V}{u:Value}{scope:Scope}{params:Arguments}{body:Expr}{f c':Addr}{pm ctv:Value}{cl:List (Str×Addr)}{t:TE}{Q:VK}
  (hk:scope.kind=.function) (hco:scope.isCoroutine=false) (hgen:scope.isGenerator=false) (hcell:∀ y∈scope.names,y.2≠.cell) (rv:RelV v u) (hloc:scope.names.lookup x=some .local)
  (ho:s.heap.get? f=some (PySem.W.kla_obj "<lambda>" qual params body scope cl pm c' ctv)) (hcd:s.heap.CodeRec (.ref c') qual)
  (hbind:∀ u,bindArgs (PySem.W.kla_fn "<lambda>" qual params body scope cl pm (.ref c') ctv) ⟨[u],[]⟩=pure [(x,u)])
  (hlen:σf.length=N.length) (hcl:∀ y c,cl.lookup y=some c->X.env.cells.lookup y=some c) (hhas:∀ y,(scope.names.lookup y=some .cell\/scope.names.lookup y=some .free)->∃ c,cl.lookup y=some c)
  (hf:∀ (i:Nat) (y:Str) (v:V),N[i]?=some y->σf[i]?=some (some v)->scope.names.lookup y=some .free/\∃ c u,cl.lookup y=some c/\s.heap.IsCell c (some u)/\RelV v u)
  (hb:PE (oI X A (x::N) qual scope f (.ref c') cl s H) body t) (hq:t (some v::σf) H Q) :
  wpAny (model X.prog X.w) A (call (.ref f) [u]) (EP X pins σ Q) (fun _ _=>False) s:=by
 refine wpAny_call (PySem.W.kla_callFunE hr.depth ho rfl hco hgen rfl hcd ?_);rw[hbind];refine wpAny_pure (wpAny_newFunctionEnv hcell (fun y hy=>by rw[List.mem_singleton.mp hy];exact hloc) (fun h₁ hns hsb=>⟨I.nolimit.fresh _ hsb,?_⟩) hk)
 have old:∀ b o,s.heap.get? b=some o->h₁.get? b=some o:=fun b o e=>hsb.extBut b o (Nat.ne_of_lt (Heap.lt_size e)) (Heap.get?_push_of_some _ e);have J:=wC (tk:=s.toks+1) (qual:=qual) (f:=f) (cd:=.ref c') I hA hr.hd hk rv hloc hns old hlen hcl hhas hf;refine PySem.W.kla_codeExpr (wpAny_mono (hb [] _ _ H Q J hq) (fun w s' h=>?_) fun _ _ h=>h.elim);obtain⟨v',H',J',r',q'⟩:=h;exact I.after ⟨v',H',J'.os,J'.bare,J'.base,J'.aE,r',q'⟩
end
inductive cU:Hp->Hp->Prop
 | refl {H:Hp}:cU H H
 | more {H H1:Hp} {p:Addr} {o:HO}:cU H H1->H1 p=none->cU H (upd H1 p o)
theorem cU.same{H H1:Hp}(g:cU H H1):bM H H1:=by
 induction g with
 | refl=>exact bM.refl _
 | more g n ih=>exact fun b o e=>by rw[ae (ak (ih b o e) n)];exact ih b o e
theorem cU.trans{H H1 H2:Hp}(a:cU H H1)(b:cU H1 H2):cU H H2:=by
 induction b with
 | refl=>exact a
 | more _ n ih=>exact .more ih n
theorem gz{i j:Int}{ti tj:Tok}{c:Value}:∀ l:List Value,TriplesOk l->TriplesOk (l++[.int i ti,.int j tj,c])
 | [],_=>trivial
 | .int _ _::.int _ _::_::r,h=>gz r (show TriplesOk r from h)
theorem jt{p:Pos}{i j:Int}{ti tj:Tok}{c cv:Value}:∀ l:List Value,TriplesOk l->codeAmong p (l++[.int i ti,.int j tj,c])=some cv->codeAmong p l=some cv\/cv=c
 | [],_,e=>by
  have e':(if (i == p.line && j == p.col)=true then some c else codeAmong p [])=some cv:=e
  by_cases z:(i == p.line && j == p.col)=true
  ·rw[if_pos z] at e';cases e';exact .inr rfl
  ·rw[if_neg z] at e';cases e'
 | .int a ta::.int b tb::d::r,h,e=>by
  have e':(if (a == p.line && b == p.col)=true then some d else codeAmong p (r++[.int i ti,.int j tj,c]))=some cv:=e
  show (if (a == p.line && b == p.col)=true then some d else codeAmong p r)=some cv\/_
  by_cases z:(a == p.line && b == p.col)=true
  ·rw[if_pos z] at e' ⊢;exact .inl e'
  ·rw[if_neg z] at e' ⊢;exact jt r (show TriplesOk r from h) e'
theorem oK(q:Str)(more:Array Value):v5 (#[.str q 0]++more)=q:=by
 unfold v5;rw[Array.toList_append];rfl
structure gy (H:Hp) (f:Addr) (q:Str) (params:Arguments) (body:Expr) (scope:Scope) (cl:List (Str×Addr)) (c':Addr) (pm ctv:Value):Prop where
 fn:H f=some (.cI (PySem.W.kla_obj "<lambda>" q params body scope cl pm c' ctv) (.own f))
 cd:yQ H q (.ref c')
section
variable {X:Cx} {pins:List (Addr×Obj)} {σ:St} {H:Hp} {s:Shared} {E:Value->Shared->Prop}
theorem gy.up{H1:Hp}{f c':Addr}{q:Str}{params:Arguments}{body:Expr}{scope:Scope}{cl:List (Str×Addr)}{pm ctv:Value}(x:gy H f q params body scope cl c' pm ctv)(g:∀ b o u,H b=some (.cI o u)->H1 b=some (.cI o u)):gy H1 f q params body scope cl c' pm ctv:=
 ⟨g _ _ _ x.fn,let ⟨c,oc,vs,t,e1,e2,e3⟩:=x.cd;⟨c,oc,vs,t,e1,g _ _ _ e2,e3⟩⟩
theorem gy.get{f c':Addr}{q:Str}{params:Arguments}{body:Expr}{scope:Scope}{cl:List (Str×Addr)}{pm ctv:Value}(x:gy H f q params body scope cl c' pm ctv)(I:Inv X pins σ H s):
  s.heap.get? f=some (PySem.W.kla_obj "<lambda>" q params body scope cl pm c' ctv)/\s.heap.CodeRec (.ref c') q:=by
 obtain⟨c,oc,vs,t,e1,e2,e3,e4⟩:=x.cd;exact⟨(I.aE f _ x.fn).1,c,oc,vs,t,e1,(I.aE c _ e2).1,e3,e4⟩
theorem Inv.v_{f:Addr}{o:Obj}{t':Nat}{h':Heap}(I:Inv X pins σ H s)(k:∀ b u,s.heap.get? b=some u->h'.get? b=some u)(hp:s.heap.objs.size<=f)(e:h'.get? f=some o):Inv X pins σ (upd H f (.cI o (.own f))) { s with heap:=h',toks:=t' }:=
 I.laid k hp ⟨e,o,e⟩
theorem vf(I:Inv X pins σ H s){x:Str}{c P:Addr}(hx:x∈cS)(ht:PySem.W.tabIn X.K x=some (c,P))(hcode:X.env.code=.ref c)(hq:X.env.qual=x++".<locals>."){params:Arguments}{body:Expr}{scope:Scope}{pos:Pos}{cl:List (Str×Addr)}{Q:Value->Shared->Prop}
  (hdef:defaultsOf params X.env=([],[])) (hcl:closureFor scope X.env=pure cl)
  (h:∀ f c' pm ctv H1 s1,cU H H1->Inv X pins σ H1 s1->gy H1 f ((x++".<locals>.")++"<lambda>") params body scope cl c' pm ctv->Q (.ref f) s1) :
  wpAny (model X.prog X.w) X.A (eval (.Lambda params body scope pos) X.env) Q E s:=by
 have hm:(c,P,(x++".<locals>.")++"<lambda>")∈b8 X.K:=List.mem_filterMap.mpr ⟨x,hx,by rw[ht];rfl⟩
 obtain⟨more,hP⟩:=(I.ok.tabs.un I.base) _ hm;have C:PySem.W.CodeHd s.heap c P:=(I.ok.mod.codes _ hm).keeps I.bk;obtain⟨qs,eP,tr,fa⟩:=I.aE P _ hP;have hns:=I.ok.mod.glob.keeps I.bk;have hgP:mainGlobals≠P:=fun z=>by
  obtain⟨o,es,ep,e,_⟩:=I.ok.mod.glob;have:=(I.bs _ _ e).2;rw[z,hP] at this;cases this
 have hb:s.heap.BuiltinsAt X.mg P:=by
  obtain⟨bm,ob,b1,b2,b3,b4,b5⟩:=I.ok.mod.bm;refine⟨bm,ob,b1,b2,fun z=>?_,fun z=>?_,I.bk _ _ b3,b4,b5⟩
  ·obtain⟨o,es,ep,e,hd,_⟩:=I.ok.mod.glob;rw[z,e] at b3;cases b3;rw[hd] at b5;cases b5.2
  ·have:=(I.bs _ _ b3).2;rw[z,hP] at this;cases this
 refine PySem.W.kla_eval hdef ?_;rw[hq]
 cases ca:codeAmong pos qs.toList with
 | some cv =>
  have il:=fa pos cv ca;rw[oK] at il;obtain⟨c',oc,vs,t,rfl,e2,e3⟩:=il;refine PySem.W.kla_makeFunctionHit hcl I.ok.glob hns hcode C eP tr ca hb fun ctv h' tk hk hsz=>?_;have n0:H h'.objs.size=none:=I.aE.fresh hsz;have J:=I.v_ (f:=h'.objs.size) (t':=tk) (h':=h'.push { cls:=.type "function",data:=.func (PySem.W.kla_fn "<lambda>" ((x++".<locals>.")++"<lambda>") params body scope cl ((X.mg "__name__").getD .none) (.ref c') ctv) }) (fun b u e=>Heap.get?_push_of_some _ (hk b u e)) hsz (Heap.get?_push_size _ rfl);exact h _ c' _ ctv _ _ (.more .refl n0) J ⟨af,c',oc,vs,t,rfl,by rw[ae (ak e2 n0)];exact e2,e3⟩
 | none =>
  refine PySem.W.kla_makeFunction hcl I.ok.glob hns hcode C eP tr ca hgP hb fun c' ctv h' tk hx2 hge hlt hrec htb=>?_;obtain⟨c2,oc,vs,t,e2,hoc,hd,hv⟩:=hrec;cases e2;have nP:P≠c':=fun z=>absurd (Heap.lt_size eP) (by rw[z];exact Nat.not_lt.mpr hge)
  have n1:H c'=none:=I.aE.fresh hge;have keep:∀ b u,b≠P->s.heap.get? b=some u->h'.get? b=some u:=fun b u hb' e=>hx2 b u hb' e;have H1ne:∀ b u,H b=some u->upd H c' (.cI oc (.own c')) b=some u:=fun b u e=>by rw[ae (ak e n1)];exact e
  have hoP:∀ y,H P≠some (.own y):=fun y z=>by rw[hP] at z;cases z
  have J1:Inv X pins σ (upd H c' (.cI oc (.own c'))) { s with heap:=h',toks:=tk }:=by
   refine I.un ⟨fun b o e n _ _=>keep b o (fun z=>by rw[z,hP] at n;cases n) e,fun b o e n _ _=>⟨o.slots,keep b o (fun z=>by rw[z,hP] at n;cases n) e⟩,fun b o e n _=>?_,fun b o e _=>?_,fun b xs e=>H1ne b _ e,fun b o u e=>H1ne b _ e,fun b ps e=>⟨#[],by rw[H1ne b _ e,Array.append_empty]⟩⟩ fun b u e=>?_
   ·rw[ae (fun z=>absurd (Heap.lt_size e) (by rw[z];exact Nat.not_lt.mpr hge))];exact n
   ·by_cases z:b=P
    ·rw[z];exact⟨_,htb⟩
    ·exact⟨o,keep b o z e⟩
   ·by_cases z:b=c'
    ·subst z;rw[af] at e;cases e;exact⟨hoc,oc,hoc⟩
    ·rw[ae z] at e;by_cases z2:b=P
     ·subst z2;rw[hP] at e;cases e;refine⟨_,htb,by rw[Array.toList_append];exact gz _ tr,fun p cv hc=>?_⟩
      rw[Array.toList_append] at hc;rcases jt _ tr hc with q | q
      ·obtain⟨c2,oc2,vs2,t2,g1,g2,g3⟩:=fa p cv q;exact⟨c2,oc2,vs2,t2,g1,H1ne _ _ g2,g3⟩
      ·rw[oK];exact⟨c',oc,vs,t,q,af,hd,hv⟩
     ·refine (I.aE b u e).ig (fun c v hc q=>keep c v ?_ q) (fun c q=>H1ne c _ q) (fun c xs q=>H1ne c _ q) fun c _ _ q=>H1ne c _ q;rcases hc with rfl | hc
      ·exact z2
      ·exact fun z3=>hoP b (by rw[<- z3];exact hc)
  have n2:upd H c' (.cI oc (.own c')) h'.objs.size=none:=J1.aE.fresh (Nat.le_refl _);have J:=J1.v_ (f:=h'.objs.size) (t':=tk) (h':=h'.push (PySem.W.kla_obj "<lambda>" ((x++".<locals>.")++"<lambda>") params body scope cl ((X.mg "__name__").getD .none) c' ctv)) (fun b u e=>Heap.get?_push_of_some _ e) (Nat.le_refl _) (Heap.get?_push_size _ rfl);exact h _ c' _ ctv _ _ (.more (.more .refl n1) n2) J ⟨af,c',oc,vs,t,rfl,by rw[ae (ak af n2)];exact af,hd,hv⟩
end
section
variable {α β:Type}
def gC(p:Int×α):List (Int×α)->List (Int×α)
 | []=>[p]
 | q::r=>if p.1<=q.1 then p::q::r else q::gC p r
def eB:List (Int×α)->List (Int×α)
 | []=>[]
 | p::r=>gC p (eB r)
noncomputable abbrev BR (l:List (Int×α)):Prop:=l.Pairwise fun p q=>p.1<=q.1
def atK(a:Int)(l:List (Int×α)):List (Int×α):=l.filter fun p=>decide (p.1=a)
theorem fW(p:Int×α):∀ l,(gC p l).Perm (p::l)
 | []=>.refl _
 | q::r=>by
  unfold gC;split
  ·exact .refl _
  ·exact ((fW p r).cons q).trans (List.Perm.swap p q r)
theorem bQ:∀ l:List (Int×α),(eB l).Perm l
 | []=>.refl _
 | p::r=>(fW p _).trans ((bQ r).cons p)
theorem pj{p:Int×α}:∀ {l:List (Int×α)},BR l->BR (gC p l)
 | [],_=>List.pairwise_singleton _ _
 | q::r,h=>by
  obtain⟨h1,h2⟩:=List.pairwise_cons.mp h;unfold gC;split
  ·rename_i c;exact List.pairwise_cons.mpr ⟨fun z hz=>by
    rcases List.mem_cons.mp hz with rfl | hz
    ·exact c
    ·exact Int.le_trans c (h1 z hz),h⟩
  ·rename_i c;refine List.pairwise_cons.mpr ⟨fun z hz=>?_,pj h2⟩;rcases List.mem_cons.mp ((fW p r).mem_iff.mp hz) with rfl | hz
   ·lia
   ·exact h1 z hz
theorem fv:∀ l:List (Int×α),BR (eB l)
 | []=>List.Pairwise.nil
 | _::r=>pj (fv r)
theorem aS(a:Int)(p:Int×α)(l:List (Int×α)):atK a (p::l)=if p.1=a then p::atK a l else atK a l:=by
 unfold atK;rw[List.filter_cons];by_cases z:p.1=a
 ·rw[if_pos z,if_pos (decide_eq_true z)]
 ·rw[if_neg z,if_neg (by simp[z])]
theorem pY{a:Int}{p:Int×α}:∀ {l:List (Int×α)},atK a (gC p l)=atK a (p::l)
 | []=>rfl
 | q::r=>by
  unfold gC;split
  ·rfl
  ·rename_i c;rw[aS,pY,aS,aS,aS];by_cases z:p.1=a
   ·have z2:¬ q.1=a:=by lia
    simp only[z,z2,if_true,if_false]
   ·simp only[z,if_false]
theorem lO{a:Int}:∀ l:List (Int×α),atK a (eB l)=atK a l
 | []=>rfl
 | p::r=>by
  show atK a (gC p (eB r))=_;rw[pY,aS,aS,lO r]
theorem iD{a:Int}:∀ {l:List (Int×α)},(∀ p∈l,a < p.1)->atK a l=[]
 | [],_=>rfl
 | p::r,h=>by
  have:=h p (List.mem_cons_self ..);rw[aS,if_neg (by lia),iD fun q hq=>h q (List.mem_cons_of_mem _ hq)]
theorem j4:∀ {l m:List (Int×α)},BR l->BR m->(∀ a,atK a l=atK a m)->l=m
 | [],[],_,_,_=>rfl
 | [],q::m,_,_,h=>by
  have:=h q.1;rw[aS,if_pos rfl] at this;cases this
 | p::l,[],_,_,h=>by
  have:=h p.1;rw[aS,if_pos rfl] at this;cases this
 | p::l,q::m,hl,hm,h=>by
  obtain⟨l1,l2⟩:=List.pairwise_cons.mp hl;obtain⟨m1,m2⟩:=List.pairwise_cons.mp hm;have e:p.1=q.1:=by
   rcases Int.lt_trichotomy p.1 q.1 with z | z | z
   ·have q1:=h p.1;rw[aS,if_pos rfl,aS,if_neg (by lia),iD (l:=m) fun r hr=>by have:=m1 r hr;lia] at q1
    cases q1
   ·exact z
   ·have q1:=h q.1;rw[aS,if_neg (by lia),aS,if_pos rfl,iD (l:=l) fun r hr=>by have:=l1 r hr;lia] at q1
    cases q1
  have q1:=h p.1;rw[aS,if_pos rfl,aS,if_pos e.symm] at q1;obtain⟨q2,q3⟩:=List.cons.inj q1;subst q2;congr 1;refine j4 l2 m2 fun a=>?_;have q4:=h a;rw[aS,aS] at q4;by_cases z:p.1=a
  ·rw[if_pos z,if_pos z] at q4;exact (List.cons.inj q4).2
  ·rw[if_neg z,if_neg z] at q4;exact q4
theorem sk{l m:List (Int×α)}(hm:BR m)(h:∀ a,atK a m=atK a l):m=eB l:=j4 hm (fv l) fun a=>by rw[h a,lO]
noncomputable abbrev Cc (R:α->β->Prop):List (Int×α)->List (Int×β)->Prop:=Paired fun p q=>p.1=q.1/\R p.2 q.2
theorem uS{R:α->β->Prop}{p:Int×α}{q:Int×β}(h:p.1=q.1/\R p.2 q.2){l:List (Int×α)}{m:List (Int×β)}(k:Cc R l m):Cc R (gC p l) (gC q m):=by
 induction k with
 | nil=>exact .cons h .nil
 | cons r t ih =>
  unfold gC;split
  ·rename_i z;rw[if_pos (by rw[<- h.1,<- r.1];exact z)]
   exact .cons h (.cons r t)
  ·rename_i z;rw[if_neg (by rw[<- h.1,<- r.1];exact z)]
   exact .cons r ih
theorem qL{R:α->β->Prop}{l:List (Int×α)}{m:List (Int×β)}(k:Cc R l m):Cc R (eB l) (eB m):=by
 induction k with
 | nil=>exact .nil
 | cons r t ih=>exact uS r ih
theorem uJ{R:α->β->Prop}{ks:List Int}{l:List α}{m:List β}(k:Paired R l m):Cc R (ks.zip l) (ks.zip m):=by
 induction k generalizing ks with
 | nil=>rw[List.zip_nil_right,List.zip_nil_right];exact .nil
 | cons r t ih =>
  cases ks with
  | nil=>exact .nil
  | cons k ks=>exact .cons ⟨rfl,r⟩ ih
theorem t9{R:α->β->Prop}{l:List (Int×α)}{m:List (Int×β)}(k:Cc R l m):Paired R (l.map (·.2)) (m.map (·.2)):=by
 induction k with
 | nil=>exact .nil
 | cons r t ih=>exact .cons r.2 ih
def dI(ks:List Int)(l:List α):List α:=(eB (ks.zip l)).map (·.2)
theorem gK{R:α->β->Prop}{ks:List Int}{l:List α}{m:List β}(h:Paired R l m):Paired R (dI ks l) (dI ks m):=t9 (qL (uJ h))
theorem kH{ks:List Int}{l:List α}(h:ks.length=l.length):(dI ks l).length=l.length:=by
 unfold dI;rw[List.length_map,(bQ _).length_eq,List.length_zip,h,Nat.min_self]
theorem lG{ks:List Int}{l:List α}(h:ks.length=l.length):(dI ks l).Perm l:=by
 have h2:((ks.zip l).map (·.2))=l:=List.map_snd_zip (by lia)
 have h3:=(bQ (ks.zip l)).map (·.2);rw[h2] at h3;exact h3
end
theorem gv:∀ {xs:List V} {us:List Value},Vals xs us->Paired RelV xs us
 | _,_,.nil=>.nil
 | _,_,.cons r t=>.cons r (gv t)
theorem gn:∀ {xs:List V} {us:List Value},Paired RelV xs us->Vals xs us
 | _,_,.nil=>.nil
 | _,_,.cons r t=>.cons r (gn t)
theorem vO{keys:Array Value}{us:List Value}{kz:List Int}{out:Array Keyed}(hk:IntsAre keys.toList kz)(hs:SortedTo out out.size)(hS:SS.St out.toList (keys.zip us.toArray).toList):(out.map (·.2)).toList=dI kz us:=by
 let g:Keyed->Int×Value:=fun p=>(numOf p.1,p.2)
 have ez:(keys.zip us.toArray).toList.map g=kz.zip us:=by
  rw[ksk_zip,<- hk.nums,List.zip_map_left];exact List.map_congr_left fun⟨_,_⟩ _=>rfl
 have fl:∀ (a:Int) (l:List Keyed),atK a (l.map g)=(SS.ff a l).map g:=fun a l=>by
  unfold atK SS.ff;rw[List.filter_map];rfl
 have e1:out.toList.map g=eB (kz.zip us):=by
  refine sk ?_ fun a=>?_
  ·show List.Pairwise _ _;rw[List.pairwise_iff_getElem];intro i j hi hj hij;have hi':i < out.size:=by simpa using hi
   have hj':j < out.size:=by simpa using hj
   have q:=hs i j (Nat.le_of_lt hij) hj';rw[K_eq hi',K_eq hj'] at q
   simpa[g] using q
  ·rw[<- ez,fl,fl,hS a]
 unfold dI;rw[<- e1,List.map_map,Array.toList_map];rfl
section
variable {X:Cx} {pins:List (Addr×Obj)} {σ:St} {H:Hp} {s:Shared} {E:Value->Shared->Prop}
theorem Inv.take{D:Addr}{ob:Obj}{o:HO}{t':Nat}{h':Heap}(I:Inv X ((D,ob)::pins) σ H s)(hs0:X.s₀.heap.objs.size<=D)(hnp:∀ p∈X.pn++pins,p.1≠D)(k:∀ b u,b≠D->s.heap.get? b=some u->h'.get? b=some u)(new:aK X.prog X.w (upd H D o) h' D o):
  Inv X pins σ (upd H D o) { s with heap:=h',toks:=t' }:=by
 obtain⟨g1,g2,g3,g4,g5⟩:=I.pin (D,ob) (List.mem_append_right _ (List.mem_cons_self ..));have I0:Inv X pins σ H s:=⟨I.ok,I.os,I.bare,I.base,I.loc,I.cell,I.free,I.cC,fun p hp=>I.pin p ((List.mem_append.mp hp).elim (fun z=>List.mem_append_left _ z) fun z=>List.mem_append_right _ (List.mem_cons_of_mem _ z)),I.aE,I.len⟩;have ne:∀ b u,H b=some u->b≠D:=fun b u e=>ak e g2;refine I0.step (g':=s.gens) (d':=s.drawn) (ch:=[D]) (fun b hb=>?_) (fun b o' _ _ hc e _=>k b o' (fun z=>hc (by rw[z];exact List.mem_singleton.mpr rfl)) e) (fun b o' _ _ hc e _=>⟨o'.slots,k b o' (fun z=>hc (by rw[z];exact List.mem_singleton.mpr rfl)) e⟩) (fun b o' hc e n=>by rw[ae (fun z=>hc (by rw[z];exact List.mem_singleton.mpr rfl))];exact n)
  (fun b o' hc e=>⟨o',k b o' (fun z=>hc (by rw[z];exact List.mem_singleton.mpr rfl)) e⟩) (fun b xs e=>by rw[ae (ne b _ e)];exact e) (fun b o' u e=>by rw[ae (ne b _ e)];exact e) (fun b ps e=>⟨#[],by rw[ae (ne b _ e),e,Array.append_empty]⟩) (fun m hm=>?_) (fun b u e=>?_) I.bare
 ·rw[List.mem_singleton.mp hb];refine⟨.inr hs0,g3,fun x c e z=>?_,hnp⟩;obtain⟨v,o',ho',hd⟩:=I.cell x c e;rw[z,g1] at ho';cases ho';exact g5 v hd
 ·obtain⟨o',es,ep,ho',r⟩:=hm;exact⟨o',es,ep,k _ _ (Ne.symm g3) ho',r⟩
 ·by_cases z:b=D
  ·subst z;rw[af] at e;cases e;exact new
  ·rw[ae z] at e;refine (I.aE b u e).ig (fun c v hc q=>k c v ?_ q) (fun c q=>by rw[ae (ne c _ q)];exact q) (fun c xs q=>by rw[ae (ne c _ q)];exact q) fun c _ _ q=>by rw[ae (ne c _ q)];exact q
   rcases hc with rfl | hc
   ·exact z
   ·exact ne c _ hc
theorem qf{A:Around}{D e1:Nat}{st:SortSt}{kS:Addr}{xs:List V}{us:List Value}{kz:List Int}{P:PySem.Fin->Shared->Prop}
  (I:Inv X ((D,seqObj "list" #[] e1)::pins) σ (upd H kS (.lst (kz.map V.int))) s) (hkS:H kS=none) (hD:H D=none) (hkD:kS≠D) (hs0:X.s₀.heap.objs.size<=D) (hnp:∀ p∈X.pn++pins,p.1≠D)
  (hv:Vals xs us) (hlen:kz.length=us.length) (h64:us.length < 64) (ho:((arrOf st).map (·.2)).toList=dI kz us) (hfl:failedOf st=none)
  (h:∀ s',Inv X pins σ (upd (upd H kS (.lst [])) D (.lst (dI kz xs))) s'->P (.done (.ret .none)) s') :
  wpAny (model X.prog X.w) A (ksk_tail D false e1 (.ref kS) st) P E s:=by
 obtain⟨_,its,n,vr,ek⟩:=I.aE kS _ af;have hz:its.toArray.size<=sizeLine:=by
  rw[List.size_toArray,<- vr.length,List.length_map,hlen,sizeLine_eq];lia
 have pD:=I.pin _ (List.mem_append_right _ (List.mem_cons_self ..));have hout:((arrOf st).map (·.2)).size=us.length:=by
  rw[<- Array.length_toList,ho,kH hlen]
 have s1:=Heap.SameBut.update s.heap kS (Obj.mapSeq fun _=>(#[]:Array Value));obtain⟨c1,hc1⟩:∃ c,(s.heap.update kS (Obj.mapSeq fun _=>(#[]:Array Value))).get? kS=some (seqObj "list" #[] c):=⟨_,get?_update_seq ek fun _=>#[]⟩;have J1:Inv X ((D,seqObj "list" #[] e1)::pins) σ (upd H kS (.lst [])) { s with heap:=s.heap.update kS (Obj.mapSeq fun _=>(#[]:Array Value)) }:=by
  have J:=I.write (x:=kS) (e:=kS) (o:=.lst []) (t':=s.toks) (h':=s.heap.update kS (Obj.mapSeq fun _=>(#[]:Array Value))) (by rw[af];trivial) (.inl rfl) (fun b u hb q=>(s1.2 b hb).trans q) ⟨_,hc1⟩ ⟨Nat.zero_le _,[],c1,.nil,hc1⟩
  rw[gJ] at J;exact J
 have pD1:=J1.pin _ (List.mem_append_right _ (List.mem_cons_self ..));have s2:=Heap.SameBut.update (s.heap.update kS (Obj.mapSeq fun _=>(#[]:Array Value))) D (Obj.mapSeq fun _=>(arrOf st).map (·.2));obtain⟨c2,hc2⟩:∃ c,((s.heap.update kS (Obj.mapSeq fun _=>(#[]:Array Value))).update D (Obj.mapSeq fun _=>(arrOf st).map (·.2))).get? D=some (seqObj "list" ((arrOf st).map (·.2)) c):=⟨_,get?_update_seq pD1.1 fun _=>(arrOf st).map (·.2)⟩;have vB:Vals (dI kz xs) (dI kz us):=gn (gK (gv hv));unfold ksk_tail;dsimp only;refine wpAny_bind (listUpdate_at ek rfl ?_ hz (Nat.zero_le _));refine wpAny_bind (wpAny_letGo ?_);refine wpAny_bind (seqEpoch_at pD1.1 rfl ?_);refine wpAny_bind (listUpdate_at pD1.1 rfl ?_ (Nat.zero_le _) (by show ((arrOf st).map (·.2)).size<=_;rw[hout,sizeLine_eq];lia))
 rw[hfl];simp only[bne_self_eq_false,Bool.false_eq_true,if_false];refine wpAny_pure (h _ (J1.take hs0 hnp (fun b u hb q=>(s2.2 b hb).trans q) ⟨?_,dI kz us,c2,vB,?_⟩))
 ·rw[vB.length,kH hlen,sizeLine_eq];lia
 ·rw[<- ho,Array.toArray_toList];exact hc2
theorem AL{A:Around}{D e1:Nat}{kS:Addr}{xs:List V}{us:List Value}{kz:List Int}{keys:Array Value}{P:PySem.Fin->Shared->Prop}
  (I:Inv X ((D,seqObj "list" #[] e1)::pins) σ (upd H kS (.lst (kz.map V.int))) s) (hkS:H kS=none) (hD:H D=none) (hkD:kS≠D) (hs0:X.s₀.heap.objs.size<=D) (hnp:∀ p∈X.pn++pins,p.1≠D)
  (hv:Vals xs us) (hlen:kz.length=us.length) (h64:us.length < 64) (hk:IntsAre keys.toList kz)
  (h:∀ s',Inv X pins σ (upd (upd H kS (.lst [])) D (.lst (dI kz xs))) s'->P (.done (.ret .none)) s') :
  wpAny (model X.prog X.w) A (ksk_end D false us.toArray e1 (.ref kS) keys) P E s:=by
 have hsz:keys.size=us.length:=by
  have z:=hk.length;rw[Array.length_toList] at z;exact z.trans hlen
 have hzs:(keys.zip us.toArray).size=us.length:=by
  rw[Array.size_zip,hsz,List.size_toArray,Nat.min_self]
 unfold ksk_end;dsimp only;rw[if_neg Bool.false_ne_true,if_neg Bool.false_ne_true];by_cases h2:us.toArray.size < 2
 ·rw[if_pos h2,if_pos h2];refine wpAny_bind (wpAny_pure ?_);rw[StateT.run_pure];refine wpAny_bind (wpAny_pure ?_);dsimp only;refine qf I hkS hD hkD hs0 hnp hv hlen h64 ?_ rfl h;refine vO (out:=keys.zip us.toArray) hk (fun i j hij hj=>?_) fun _=>rfl;rw[hzs] at hj;rw[List.size_toArray] at h2;obtain rfl:i=j:=by lia
  exact Int.le_refl _
 ·rw[if_neg h2,if_neg h2];rw[List.size_toArray] at h2;rw[ksk_kind hk (by lia)]
  refine wpAny_bind (wpAny_pure ?_);refine wpAny_bind (wpAny_mono (SS.xx (a₀:=keys.zip us.toArray) (st:=SortSt.mk' oneType' (keys.zip us.toArray) #[] 7 none)
   (Q:=fun _ st'=>failedOf st'=none/\((arrOf st').map (·.2)).toList=dI kz us)
   (ksk_intKeys hk) ⟨Array.Perm.refl _,rfl,rfl,rfl⟩ (fun _=>rfl) (by lia) (by lia) fun st' a1 a2 a3 a4=>⟨a2,vO hk (by rw[a1.size_eq];exact a3) a4⟩) ?_ fun _ _ e=>e)
  rintro⟨⟨⟩,st'⟩ s' ⟨rfl,hf,ho⟩;dsimp only;exact qf I hkS hD hkD hs0 hnp hv hlen h64 ho hf h
theorem iC:∀ {us:List Value} {ns:List Int},Vals (ns.map V.int) us->IntsAre us ns
 | _,[],.nil=>.nil
 | _,n::ns,.cons ⟨t,e⟩ r=>by subst e;exact .cons n t (iC r)
theorem xB{A:Around}{D e1:Nat}{kS:Addr}{xs:List V}{us:List Value}{kz:List Int}{f:Value}{P:PySem.Fin->Shared->Prop}
  (I:Inv X ((D,seqObj "list" #[] e1)::pins) σ (upd H kS (.lst [])) s) (hkS:H kS=none) (hD:H D=none) (hkD:kS≠D) (hs0:X.s₀.heap.objs.size<=D) (hnp:∀ p∈X.pn++pins,p.1≠D)
  (hv:Vals xs us) (hlen:kz.length=us.length) (h64:us.length < 64)
  (turn:∀ (i:Nat) (u:Value) (k:Int),us[i]?=some u->kz[i]?=some k->∀ pins' H' s',cU H H'->Inv X pins' σ H' s'->wpAny (model X.prog X.w) A (call f [u]) (fun r s2=>(∃ t,r=.int k t)/\Inv X pins' σ H' s2) (fun _ _=>False) s')
  (h:∀ s',Inv X pins σ (upd (upd H kS (.lst [])) D (.lst (dI kz xs))) s'->P (.done (.ret .none)) s') :
  wpAny (model X.prog X.w) A (ksk_rest D f false us.toArray e1 (.ref kS)) P E s:=by
 unfold ksk_rest;refine wpAny_bind (wpAny_rule ?_)
 first
  | rw[List.forIn_toArray]
  | (rw[<- Array.forIn_toList];simp only[List.toList_toArray])
 refine wpAny_bind (ksk_fold (fun i s'=>Inv X ((D,seqObj "list" #[] e1)::pins) σ (upd H kS (.lst ((kz.take i).map V.int))) s') us 0 s I ?one ?all)
 case one =>
  intro j u s' hu J;rw[Nat.zero_add] at J ⊢;have hj:j < us.length:=(List.getElem?_eq_some_iff.mp hu).1;obtain⟨k,hkj⟩:∃ k,kz[j]?=some k:=⟨_,List.getElem?_eq_getElem (by lia)⟩
  refine wpAny_bind (wpAny_attempt (wpAny_mono (turn j u k hu hkj _ _ s' (.more .refl hkS) J) (fun r s2 hr=>?_) fun _ _ z=>z.elim));obtain⟨⟨t,rfl⟩,J2⟩:=hr;dsimp only;obtain⟨_,its,n,vr,ek⟩:=J2.aE kS _ af;have lenI:its.length<=us.length:=by
   rw[<- vr.length,List.length_map,List.length_take];lia
  have s1:=Heap.SameBut.update s2.heap kS (Obj.mapSeq (·.push (.int k t)));obtain⟨c1,hc1⟩:∃ c,(s2.heap.update kS (Obj.mapSeq (·.push (.int k t)))).get? kS=some (seqObj "list" (its.toArray.push (.int k t)) c):=⟨_,get?_update_seq ek (·.push (.int k t))⟩;have et:kz.take (j+1)=kz.take j++[k]:=by
   rw[List.take_add_one,hkj];rfl
  have vr2:Vals ((kz.take (j+1)).map V.int) (its++[.int k t]):=by
   rw[et,List.map_append];exact vr.append (.cons ⟨t,rfl⟩ .nil)
  refine wpAny_bind (listUpdate_at ek rfl ?_ (by rw[List.size_toArray,sizeLine_eq];lia) (by show (its.toArray.push (.int k t)).size<=_;rw[Array.size_push,List.size_toArray,sizeLine_eq];lia))
  refine wpAny_pure ⟨rfl,?_⟩;have J3:=J2.write (x:=kS) (e:=kS) (o:=.lst ((kz.take (j+1)).map V.int)) (t':=s2.toks) (h':=s2.heap.update kS (Obj.mapSeq (·.push (.int k t)))) (by rw[af];trivial) (.inl rfl) (fun b u hb q=>(s1.2 b hb).trans q) ⟨_,hc1⟩
   ⟨by rw[List.length_map,List.length_take,sizeLine_eq];lia,its++[.int k t],c1,vr2,by rw[hc1,List.push_toArray]⟩
  rw[gJ] at J3;exact J3
 case all =>
  intro s' J;have ez:kz.take (0+us.length)=kz:=List.take_of_length_le (by lia)
  have J':Inv X ((D,seqObj "list" #[] e1)::pins) σ (upd H kS (.lst (kz.map V.int))) s':=by
   rw[<- ez];rw[ez];simpa only[ez] using J
  obtain⟨_,its,n,vr,ek⟩:=J'.aE kS _ af;refine wpAny_bind (listItems_at ek rfl ?_);exact AL J' hkS hD hkD hs0 hnp hv hlen h64 (by rw[List.toList_toArray];exact iC vr) h
theorem xP{A:Around}{D:Addr}{n0:Nat}{h0:Heap}{xs:List V}{us:List Value}{kz:List Int}{f:Value}{P:PySem.Fin->Shared->Prop}
  (I:Inv X pins σ H s) (k0:∀ b o,s.heap.get? b=some o->h0.get? b=some o) (hDs:s.heap.objs.size<=D) (ho:h0.get? D=some (seqObj "list" us.toArray n0)) (hv:Vals xs us) (hlen:kz.length=us.length) (h64:us.length < 64)
  (turn:∀ (i:Nat) (u:Value) (k:Int),us[i]?=some u->kz[i]?=some k->∀ pins' H' s',cU H H'->Inv X pins' σ H' s'->wpAny (model X.prog X.w) A (call f [u]) (fun r s2=>(∃ t,r=.int k t)/\Inv X pins' σ H' s2) (fun _ _=>False) s')
  (h:∀ H' s',cU H H'->H' D=none->Inv X pins σ (upd H' D (.lst (dI kz xs))) s'->P (.done (.ret .none)) s') :
  wpAny (model X.prog X.w) A (ksk_tree D f false) P E { s with heap:=h0 }:=by
 have hsz0:D < h0.objs.size:=Heap.lt_size ho;have s1:=Heap.SameBut.update h0 D (Obj.mapSeq fun _=>(#[]:Array Value));obtain⟨e1,ho1⟩:∃ e,(h0.update D (Obj.mapSeq fun _=>(#[]:Array Value))).get? D=some (seqObj "list" #[] e):=⟨_,get?_update_seq ho fun _=>#[]⟩;have hkz:((h0.update D (Obj.mapSeq fun _=>(#[]:Array Value))).push (seqObj "tuple" us.toArray 0)).objs.size=h0.objs.size+1:=by
  rw[size_push',Heap.size_update]
 have nD:∀ b o,s.heap.get? b=some o->b≠D:=fun b o e=>Nat.ne_of_lt (Nat.lt_of_lt_of_le (Heap.lt_size e) hDs);have keep:∀ b o,s.heap.get? b=some o->(((h0.update D (Obj.mapSeq fun _=>(#[]:Array Value))).push (seqObj "tuple" us.toArray 0)).push (seqObj "list" #[] 0)).get? b=some o:=fun b o e =>
  Heap.get?_push_of_some _ (Heap.get?_push_of_some _ ((s1.2 b (nD b o e)).trans (k0 b o e)))
 have hle:s.heap.objs.size<=h0.objs.size+1:=Nat.le_trans hDs (Nat.le_succ_of_le (Nat.le_of_lt hsz0));have hkD:h0.objs.size+1≠D:=Nat.ne_of_gt (Nat.lt_succ_of_lt hsz0);have hkS:H (h0.objs.size+1)=none:=I.aE.fresh hle;have hD:H D=none:=I.aE.fresh hDs;have hnp:∀ p∈X.pn++pins,p.1≠D:=fun p hp=>nD _ _ (I.pin p hp).1;have J0:Inv X pins σ (upd H (h0.objs.size+1) (.lst [])) { s with heap:=((h0.update D (Obj.mapSeq fun _=>(#[]:Array Value))).push (seqObj "tuple" us.toArray 0)).push (seqObj "list" #[] 0) }:=
  I.laid (t':=s.toks) keep hle ⟨Nat.zero_le _,[],0,.nil,by rw[<- hkz];exact Heap.get?_push_size _ rfl⟩
 have J:Inv X ((D,seqObj "list" #[] e1)::pins) σ (upd H (h0.objs.size+1) (.lst [])) { s with heap:=((h0.update D (Obj.mapSeq fun _=>(#[]:Array Value))).push (seqObj "tuple" us.toArray 0)).push (seqObj "list" #[] 0) }:=by
  refine J0.jU fun p hp=>?_;rcases List.mem_cons.mp hp with rfl | hp
  ·exact⟨Heap.get?_push_of_some _ (Heap.get?_push_of_some _ ho1),by rw[ae (Ne.symm hkD)];exact hD,fun z=>absurd I.lt (by rw[<- z];exact Nat.not_lt.mpr hDs),I.Dc hDs,fun v z=>by cases z⟩
  ·exact J0.pin p (List.mem_append_right _ hp)
 unfold ksk_tree;refine wpAny_bind (listItems_at ho rfl ?_);refine wpAny_bind (listUpdate_at ho rfl ?_ (by rw[List.size_toArray,sizeLine_eq];lia) (Nat.zero_le _))
 refine wpAny_bind (seqEpoch_at ho1 rfl ?_);refine wpAny_bind (wpAny_newTuple ?_ (by show us.length<=_;rw[sizeLine_eq];lia))
 refine wpAny_bind (wpAny_newList ?_ (Nat.zero_le _));refine wpAny_holding ?_;show wpAny _ _ (ksk_rest D f false us.toArray e1 (.ref ((h0.update D (Obj.mapSeq fun _=>(#[]:Array Value))).push (seqObj "tuple" us.toArray 0)).objs.size)) _ _ _;rw[hkz];exact xB J hkS hD hkD (Nat.le_trans I.sz hDs) hnp hv hlen h64 turn fun s' K=>h _ s' (.more .refl hkS) (by rw[ae (Ne.symm hkD)];exact hD) K
end
def xu(q:Str)(params:Arguments)(body:Expr)(scope:Scope)(cl:List (Str×Addr)):TE:=fun _ H Q=>∀ f c' pm ctv H1,cU H H1->gy H1 f q params body scope cl c' pm ctv->Q (.ref f) H1
theorem AI{X:Cx}{x:Str}{c P:Addr}(hx:x∈cS)(ht:PySem.W.tabIn X.K x=some (c,P))(hcode:X.env.code=.ref c)(hq:X.env.qual=x++".<locals>."){params:Arguments}{body:Expr}{scope:Scope}{pos:Pos}{cl:List (Str×Addr)}
  (hdef:defaultsOf params X.env=([],[])) (hcl:closureFor scope X.env=pure cl):PE X (.Lambda params body scope pos) (xu ((x++".<locals>.")++"<lambda>") params body scope cl):=fun pins s σ H Q I h =>
 vf I hx ht hcode hq hdef hcl fun f c' pm ctv H1 s1 g J l=>⟨.ref f,H1,J,rfl,h f c' pm ctv H1 g l⟩
section
variable {X:Cx} {pins:List (Addr×Obj)} {σ:St} {H:Hp} {s:Shared} {E:Value->Shared->Prop}
def wj(X:Cx)(A:Around)(s:Shared)(l:Addr)(xs:List V):Prop:=∀ (Q:List Value->Shared->Prop) (E:Value->Shared->Prop),(∀ h0 tk us,(∀ b o,s.heap.get? b=some o->h0.get? b=some o)->s.heap.objs.size<=h0.objs.size->Vals xs us->Q us { s with heap:=h0,toks:=tk })->wpAny (model X.prog X.w) A (collect (.ref l)) Q E s
theorem qC{A:Around}{l f:Addr}{xs:List V}{kz:List Int}{Q:VK}(I:Inv X pins σ H s)(hcol:wj X A.in1 s l xs)(hlen:kz.length=xs.length)(h64:xs.length < 64)
  (turn:∀ (i:Nat) (v:V) (u:Value) (k:Int),xs[i]?=some v->RelV v u->kz[i]?=some k->∀ pins' H' s',cU H H'->Inv X pins' σ H' s'->wpAny (model X.prog X.w) A.in1.in1 (call (.ref f) [u]) (fun r s2=>(∃ t,r=.int k t)/\Inv X pins' σ H' s2) (fun _ _=>False) s')
  (h:∀ H' D,cU H H'->H' D=none->Q (.ref D) (upd H' D (.lst (dI kz xs)))) :
  wpAny (model X.prog X.w) A (call (.builtin "sorted") [.ref l] [(Str.ofString "key",.ref f)]) (EP X pins σ Q) E s:=by
 refine call_function_entry_kw kind_sorted plain_sorted entry_sorted (ksk_s1 _ _) ?_;unfold Builtin.«sorted»;refine wpAny_bind (m:=checkCount "sorted" 1 1 _) (wpAny_pure (wpAny_bind (hcol _ _ fun h0 tk us k0 hz hv=>?_)));have ul:us.length=xs.length:=hv.length.symm;refine wpAny_bind (wpAny_newList ?_ (by rw[ul,sizeLine_eq];lia))
 have hoL:(h0.push (seqObj "list" us.toArray 0)).get? h0.objs.size=some (seqObj "list" us.toArray 0):=Heap.get?_push_size _ rfl;refine wpAny_bind (wpAny_holding (wpAny_call_entry_kw slot_list_sort ⟨_,hoL,rfl⟩ entry_list_sort ?srt (ksk_l1 _ _)))
 case srt =>
  show wpAny _ A.in1.in1 (Builtin.«list.sort» ⟨[.ref h0.objs.size],[(Str.ofString "key",.ref f)]⟩) _ _ _;rw[ksk_t1];refine xP (s:={ s with toks:=tk }) (h0:=h0.push (seqObj "list" us.toArray 0)) (I.tok tk) (fun b o e=>Heap.get?_push_of_some _ (k0 b o e)) hz hoL hv (by rw[ul];exact hlen) (by rw[ul];exact h64)
   (fun i u k hu hk pins' H' s' g J=>?_) fun H' s' g n J=>⟨_,rfl,?_⟩
  ·have hi:i < xs.length:=by rw[<- ul];exact (List.getElem?_eq_some_iff.mp hu).1
   obtain⟨u',hu',rv⟩:=hv.get (List.getElem?_eq_getElem hi);rw[hu] at hu';cases hu';exact turn i _ u k (List.getElem?_eq_getElem hi) rv hk pins' H' s' g J
  ·exact wpAny_pure ⟨_,rfl,.ref h0.objs.size,_,J,rfl,h H' _ g n⟩
theorem oo{A:Around}{l:Addr}{xs:List V}(I:Inv X pins σ H s)(hl:bK X.K H l xs)(h64:xs.length < 64):wj X A s l xs:=fun Q E h=>by
 obtain⟨its,rv,pl,hz⟩:=I.list hl;refine collect_list pl.isList (h _ s.toks its (fun b o e=>?_) ?_ rv) (by rw[<- rv.length];exact hz)
 ·rw[Heap.get?_update_ne _ _ _ _ (Nat.ne_of_lt (Heap.lt_size e))];exact Heap.get?_push_of_some _ e
 ·rw[Heap.size_update,size_push'];exact Nat.le_succ _
def uw(src:Hp->Addr->List V->Prop)(pre:V->Int->Hp->St->Prop)(fr:St->St)(t:TA):TE:=fun σ H Q=>t σ H fun vs H1=>∃ l xs kz,vs=[.ref l]/\src H1 l xs/\kz.length=xs.length/\xs.length < 64 /\
 (∀ (i:Nat) (v:V) (k:Int),xs[i]?=some v->kz[i]?=some k->∀ H',cU H1 H'->pre v k H' (fr σ))/\∀ H2 D,cU H1 H2->H2 D=none->Q (.ref D) (upd H2 D (.lst (dI kz xs)))
theorem t4{e:Expr}{t:TA}{p pos kpos lpos:Pos}{x q:Str}{N:List Str}{params:Arguments}{body:Expr}{scope:Scope}{cl:List (Str×Addr)}{k:Nat}{src:Hp->Addr->List V->Prop}{pre:V->Int->Hp->St->Prop}{fr:St->St}
  (hg:Gl X "sorted") (hm:X.mg "sorted"=none) (ha:PA X [e] t) (h1:bX e=true) (hr:bC (k+3) X.A) (hL:PE X (.Lambda params body scope lpos) (xu q params body scope cl))
  (hsrc:∀ pins σ H s H1 l xs A,Inv X pins σ H s->src H1 l xs->cU H1 H->A.handled=none->xs.length < 64->wj X A s l xs)
  (hk:scope.kind=.function) (hco:scope.isCoroutine=false) (hgen:scope.isGenerator=false) (hcell:∀ y∈scope.names,y.2≠.cell) (hloc:scope.names.lookup x=some .local)
  (hbind:∀ c' pm ctv u,bindArgs (PySem.W.kla_fn "<lambda>" q params body scope cl pm (.ref c') ctv) ⟨[u],[]⟩=pure [(x,u)])
  (hlen:∀ σ:St,(fr σ).length=N.length) (hcl:∀ y c,cl.lookup y=some c->X.env.cells.lookup y=some c) (hhas:∀ y,(scope.names.lookup y=some .cell\/scope.names.lookup y=some .free)->∃ c,cl.lookup y=some c)
  (hf:∀ pins σ H s,Inv X pins σ H s->∀ (i:Nat) (y:Str) (v:V),N[i]?=some y->(fr σ)[i]?=some (some v)->scope.names.lookup y=some .free/\∃ c u,cl.lookup y=some c/\s.heap.IsCell c (some u)/\RelV v u)
  (hbody:∀ A f c' s' H' σf v i,pre v i H' σf->∃ t,PE (oI X A (x::N) q scope f (.ref c') cl s' H') body t/\t (some v::σf) H' (fun w H2=>w=.int i/\H2=H')) :
  PE X (.Call (.Name "sorted" p) [e] [⟨some "key",.Lambda params body scope lpos,kpos⟩] pos) (uw src pre fr t):=by
 intro pins s σ H Q I h;refine wpAny_Call_Name_kw (dc I hg hm (u:=.builtin "sorted") (by decide +kernel) ?_ (by decide) (by decide))
 have hkw:PK X [⟨some "key",.Lambda params body scope lpos,kpos⟩] (dX (xu q params body scope cl) iQ):=pJ hL u0;refine callWith_kw ?_ (by rw[bN h1];rfl) (by rw[bN h1];rfl) rfl rfl
 refine bw (ha pos pins s σ H _ I h) fun us s1 ⟨vs,H1,I1,r1,q1⟩=>?_;obtain⟨l,xs,kz,rfl,hs,hle,h64,hpre,qq⟩:=q1;obtain⟨u,rfl,ru⟩:=vals1 r1;cases ru;refine bw (hkw pos pins s1 σ H1 (fun zs H2=>∃ f c' pm ctv,zs=[.ref f]/\cU H1 H2/\gy H2 f ((q)) params body scope cl c' pm ctv) I1 fun f c' pm ctv H2 g lm=>⟨f,c',pm,ctv,rfl,g,lm⟩) fun ws s2 ⟨zs,H2,I2,rz,f,c',pm,ctv,e1,g,lm⟩=>?_;subst e1;obtain⟨wv,rfl,rw1⟩:=vals1 rz;cases rw1;have hr1:bC (k+2) X.A.in1:=hr.in1;refine qC I2 (hsrc _ _ _ _ _ _ _ _ I2 hs g hr1.hd h64) hle h64 (fun i v u j hv rv hj pins' H' s' g' J=>?_) fun H' D g' n=>qq H' D (g.trans g') n;obtain⟨ho,hcd⟩:=(lm.up fun b o u e=>g'.same b _ e).get J;obtain⟨tb,hb,hq⟩:=hbody X.A.in1.in1 f c' s' H' (fr σ) v j (hpre i v j hv hj H' (g.trans g'));refine wpAny_mono (sA J hr1.in1 J.ok.frames hk hco hgen hcell rv hloc ho hcd (hbind c' pm ctv) (hlen σ) hcl hhas (hf _ _ _ _ J) hb hq) (fun r s4 hr4=>?_) fun _ _ z=>z;obtain⟨w,H4,J4,rw4,e4,e5⟩:=hr4;subst e4 e5;exact⟨rw4,J4⟩
end
theorem wZ{α:Type}{x:Str}{a:α}{l:List (Str×α)}:List.lookup x ((x,a)::l)=some a:=by rw[List.lookup_cons,beq_self_eq_true]
theorem yr{α:Type}{x y:Str}{a:α}{l:List (Str×α)}(h:y≠x):List.lookup y ((x,a)::l)=List.lookup y l:=by rw[List.lookup_cons,beq_eq_false_iff_ne.mpr h]
section
variable {X:Cx} {pins:List (Addr×Obj)} {σ:St} {H:Hp} {s:Shared}
end
def tS(K:PySem.W.Frag):List V->Hp->VK->Prop:=fun vs H1 Q=>∃ l xs kz,vs=[.ref l]/\bK K H1 l xs/\kz.length=xs.length/\xs.length < 64 /\
 (∀ (i:Nat) (v:V) (k:Int),xs[i]?=some v->kz[i]?=some k->∀ H',cU H1 H'->∃ p ys,v=.ref p/\bu K H' p (.int k::ys))/\∀ H2 D,cU H1 H2->H2 D=none->Q (.ref D) (upd H2 D (.lst (dI kz xs)))
theorem uI{X:Cx}{e:Expr}{t:TA}{p pos kpos lpos p1 p2 p3:Pos}{cj:Nat}{x q:Str}{params:Arguments}{scope:Scope}{k:Nat}(hg:Gl X "sorted")(hm:X.mg "sorted"=none)(ha:PA X [e] t)(h1:bX e=true)(hr:bC (k+3) X.A)
  (hL:PE X (.Lambda params (.Subscript (.Name x p1) (.Constant (.int 0) cj p2) p3) scope lpos) (xu q params (.Subscript (.Name x p1) (.Constant (.int 0) cj p2) p3) scope []))
  (hsc:scope={ kind:=.function,names:=[(x,.local)],isGenerator:=false,isCoroutine:=false,more:=[] }) (hx1:(x ==("__debug__":Str))=false) (hx2:(x ==("__classdict__":Str))=false)
  (hbind:∀ c' pm ctv u,bindArgs (PySem.W.kla_fn "<lambda>" q params (.Subscript (.Name x p1) (.Constant (.int 0) cj p2) p3) scope [] pm (.ref c') ctv) ⟨[u],[]⟩=pure [(x,u)]) :
  PE X (.Call (.Name "sorted" p) [e] [⟨some "key",.Lambda params (.Subscript (.Name x p1) (.Constant (.int 0) cj p2) p3) scope lpos,kpos⟩] pos) (rX (tS X.K) t):=by
 subst hsc;have lk:∀ y,List.lookup y [(x,NameKind.local)]=if y=x then some .local else none:=fun y=>by
  by_cases z:y=x
  ·rw[if_pos z,z,wZ]
  ·rw[if_neg z,yr z];rfl
 show PE X _ (uw (fun H l xs=>bK X.K H l xs) (fun v k H' _=>∃ p ys,v=.ref p/\bu X.K H' p (.int k::ys)) (fun _=>[]) t);refine t4 (N:=[]) hg hm ha h1 hr hL (fun pins σ H s H1 l xs A I hs g _ h64=>oo I (g.same.seq hs) h64) rfl rfl rfl (fun y hy=>by rw[List.mem_singleton.mp hy];nofun) (by rw[lk,if_pos rfl]) hbind (fun _=>rfl) (fun y c z=>by cases z) (fun y z=>?_) (fun _ _ _ _ _ i y v z=>by cases z) fun A f c' s' H' σf v i hp=>?_
 ·rw[lk] at z
  split at z
  ·rcases z with z | z<;>cases z
  ·rcases z with z | z<;>cases z
 ·obtain⟨a,ys,rfl,hq⟩:=hp;refine⟨_,yV vx (pv 0 rfl (.inl (by show List.lookup x [(x,NameKind.local)]=_;rw[lk,if_pos rfl])) hx1 hx2) ik (Z.Gp rfl),?_⟩
  exact⟨_,rfl,a,_,0,.int i,rfl,rfl,hq,cJ (j:=0) rfl,rfl,rfl⟩
theorem gc{K:PySem.W.Frag}{H:Hp}{B:aL}:∀ {vs:List V} {ts:List T},aj K H B vs ts->Paired (Rep K H B) vs ts
 | _,_,.nil=>.nil
 | _,_,.cons h r=>.cons h (gc r)
theorem gA{K:PySem.W.Frag}{H:Hp}{B:aL}:∀ {vs:List V} {ts:List T},Paired (Rep K H B) vs ts->aj K H B vs ts
 | _,_,.nil=>.nil
 | _,_,.cons h r=>.cons h (gA r)
theorem aj.dI{K:PySem.W.Frag}{H:Hp}{B:aL}{ks:List Int}{vs:List V}{ts:List T}(r:aj K H B vs ts):aj K H B (L2.dI ks vs) (L2.dI ks ts):=gA (gK (gc r))
theorem kO{α β:Type}{g:α->β}{ks:List Int}{l:List α}:dI ks (l.map g)=(dI ks l).map g:=by
 have p:∀ l:List α,Paired (fun a b=>b=g a) l (l.map g):=fun l=>by
  induction l with
  | nil=>exact .nil
  | cons a l ih=>exact .cons rfl ih
 have q:∀ {l:List α} {m:List β},Paired (fun a b=>b=g a) l m->m=l.map g:=fun {l m} h=>by
  induction h with
  | nil=>rfl
  | cons r _ ih=>rw[r,ih];rfl
 exact q (gK (p l))
def vX:T->Option Int
 | .tup (.int k::_)=>some k
 | _=>none
namespace Y
def jT:T->Mu->(R->Mu->Prop)->Prop:=fun t μ Q=>match t with
 | .lst ts=>∃ kz:List Int,ts.map vX=kz.map some/\ts.length < 64/\Q (.fr (.lst (dI kz ts))) μ
 | _=>False
theorem zP{ts:List T}{kz:List Int}(h:ts.map vX=kz.map some){i:Nat}{k:Int}(e:kz[i]?=some k):∃ us,ts[i]?=some (.tup (.int k::us)):=by
 have q:=congrArg (fun l=>l[i]?) h;simp only[List.getElem?_map,e,Option.map_some] at q
 cases ht:ts[i]? with
 | none=>rw[ht] at q;cases q
 | some t =>
  rw[ht] at q;have q':vX t=some k:=Option.some.inj q;unfold vX at q'
  split at q'
  ·cases q';exact⟨_,rfl⟩
  ·cases q'
theorem we{K:PySem.W.Frag}:RC K (tS K) (se jT):=iH fun F ad B σ H μ Q Qt x t hK l v1 q k=>by
 subst hK;unfold jT at q
 split at q
 ·obtain⟨kz,hk,h64,q⟩:=q
  cases v1 with
  | lst ha ra =>
   have le:=congrArg List.length hk;rw[List.length_map,List.length_map] at le;refine⟨_,_,kz,rfl,bK.of ha,by rw[ra.length,le],by rw[ra.length];exact h64,fun i v j e1 e2 H' g=>?_,fun H2 D g n=>k _ _ _ (Vr.fL (l.same g.same) (ra.fr (Fr.same g.same)).dI n) (fun b o e z=>⟨bM.new n b o (g.same b o e),fun y=>?_⟩) q⟩
   ·obtain⟨us,hu⟩:=zP hk e2;obtain⟨v',e3,rp⟩:=ra.get hu;rw[e1] at e3;cases e3
    cases rp with
    | tup nb hp rr =>
     cases rr with
     | cons r0 rr =>
      cases r0;exact⟨_,_,rfl,bu.of (g.same _ _ hp)⟩
   ·rcases y with y | y
    ·subst y;rw[g.same b o e] at n;cases n
    ·exact z y
 ·exact q.elim
theorem sortI{X:Cx}{e:Expr}{us:UA}{p pos kpos lpos p1 p2 p3:Pos}{cj:Nat}{x y:Str}{c Pt:Addr}{params:Arguments}{scope:Scope}{k:Nat}(K:PySem.W.Frag)(hK:X.K=K)(hx:y∈cS)(ht:PySem.W.tabIn K y=some (c,Pt))(hcode:X.env.code=.ref c)(hq:X.env.qual=y++".<locals>.")(hdef:defaultsOf params X.env=([],[]))(hcl:closureFor scope X.env=pure [])
  (hg:Gl X "sorted") (hm:X.mg "sorted"=none) (ha:YA X [e] us) (hr:bC (k+3) X.A)
  (hsc:scope={ kind:=.function,names:=[(x,.local)],isGenerator:=false,isCoroutine:=false,more:=[] }) (hx1:(x ==("__debug__":Str))=false) (hx2:(x ==("__classdict__":Str))=false)
  (hbind:∀ c' pm ctv u,bindArgs (PySem.W.kla_fn "<lambda>" ((y++".<locals>.")++"<lambda>") params (.Subscript (.Name x p1) (.Constant (.int 0) cj p2) p3) scope [] pm (.ref c') ctv) ⟨[u],[]⟩=pure [(x,u)]) (h1:bX e=true:=by rfl) :
  YE X (.Call (.Name "sorted" p) [e] [⟨some "key",.Lambda params (.Subscript (.Name x p1) (.Constant (.int 0) cj p2) p3) scope lpos,kpos⟩] pos) (Av (se jT) us):=by
 subst hK;obtain⟨t,q,rr⟩:=ha;exact⟨_,⟨uI hg hm q.h h1 hr (AI hx ht hcode hq hdef hcl) hsc hx1 hx2 hbind⟩,sR we rr⟩
end Y
structure jx (K:PySem.W.Frag) (mg:Str->Option Value) (x:Str):Prop where
 ex:∃ c P,PySem.W.tabIn K x=some (c,P)/\∀ f cdv,vT K mg x f cdv->cdv=.ref c
theorem fu{K:PySem.W.Frag}{x:Str}{f c P:Addr}{oc oc':Value}{od od':Option Addr}{sl sl':Array (Option Value)}{fd:FuncData}{vs:Array Value}(a:PySem.W.nsIn K mainGlobals x=some (some (.ref f)))(l:K.lookup f=some ⟨oc,od,.func fd,sl⟩)(hc:fd.code=.ref c)
  (lc:K.lookup c=some ⟨oc',od',.fields vs,sl'⟩) (hv:vs[11]?=some (.ref P)):PySem.W.tabIn K x=some (c,P):=by
 unfold PySem.W.tabIn;rw[a];dsimp only;rw[l];dsimp only;rw[hc];dsimp only;rw[lc];dsimp only;rw[hv]
theorem nE{K:PySem.W.Frag}{x:Str}(a:PySem.W.nsIn K mainGlobals x=some none):PySem.W.tabIn K x=none:=by
 unfold PySem.W.tabIn;rw[a]
theorem jx.mk'{K:PySem.W.Frag}{h:Heap}{mg:Str->Option Value}{x:Str}{c P:Addr}(X:K.In h)(G:h.Ns mainGlobals mg)(ht:PySem.W.tabIn K x=some (c,P)):jx K mg x:=
 ⟨c,P,ht,fun f cdv ⟨m,o,fd,lk,hd,e⟩=>by rw[<- e];exact PySem.W.law_code X G ht m (X _ _ lk) hd⟩
theorem fo.of{q:Program}{K:PySem.W.Frag}{o1 o2 o3:Option (Addr×Addr)}(nt:PySem.W.noTabs K=true)(t1:PySem.W.tabIn K "by_worth"=o1)(t2:PySem.W.tabIn K "by_weight"=o2)(t3:PySem.W.tabIn K "code_of"=o3)(nd:((o1.toList++(o2.toList++o3.toList)).map (·.2)).Nodup)
  (f1:o1=none\/((recsOf q).find? (fun e=>e.name ==("by_worth":Str))).isSome=true) (f2:o2=none\/((recsOf q).find? (fun e=>e.name ==("by_weight":Str))).isSome=true) (f3:o3=none\/((recsOf q).find? (fun e=>e.name ==("code_of":Str))).isSome=true):fo q K:=by
 refine⟨nt,?_,fun x hx=>?_⟩
 ·have e:(b8 K).map (·.2.1)=(o1.toList++(o2.toList++o3.toList)).map (·.2):=by
   unfold b8 cS
   cases o1<;>cases o2<;>cases o3<;>simp[List.filterMap,t1,t2,t3]
  rw[e];exact nd
 ·unfold cS at hx;rcases List.mem_cons.mp hx with rfl | hx
  ·rw[t1];exact f1
  ·rcases List.mem_cons.mp hx with rfl | hx
   ·rw[t2];exact f2
   ·rw[List.mem_singleton.mp hx,t3];exact f3
namespace Y
section
variable {X:Cx} {e:Expr} {vs:List Expr} {ue:UE} {u:UJ} {pos p:Pos}
end
end Y
theorem ah.calm{P:Program}{w:World}{K:PySem.W.Frag}{mg:Str->Option Value}{base:Heap}{k:Nat}{x:Str}{ps:List Str}{md:List Bool}{tsx:vb}{tsp:fE}(F:ah P w K mg base (m7 P w) k x ps (rK K md tsx))(h:∀ args Q,tsp args Q->tsx args Q fun _=>False):ah P w K mg base bY k x ps (spT K md tsp):=by
 obtain⟨f,fd,m,kp,b,G⟩:=F.ex;have to:∀ vs H Q E,spT K md tsp vs H Q E->rK K md tsx vs H Q (fun _ _ _=>False):=fun vs H Q E ⟨B,args,Qt,ag,bh,nd,ht,fin⟩=>⟨fun _=>False,⟨B,args,Qt,ag,bh,nd,h _ _ ht,fin⟩,fun x cls d e H' z=>z.elim⟩;refine⟨f,fd,m,kp,b,⟨fun vs H Q E q=>G.len vs H Q _ (to _ _ _ _ q),fun A outer s H args us vs Q E hr e0 hb r q=>codeAny_mono (G.run A outer s H args us vs Q _ hr e0 hb r (to _ _ _ _ q)) fun r s' hq=>?_⟩⟩
 cases r with
 | error e =>
  obtain⟨_,_,_,_,_,_,_,_,_,_,_,_,_,_,_,_,z⟩:=hq;exact z.elim
 | ok fl=>cases fl<;>exact hq
namespace A
theorem yj(ts:List T)(μ:Mu)(Q:R->Mu->Prop):Y.jT (.lst ts) μ Q=(∃ kz:List Int,ts.map vX=kz.map some/\ts.length < 64/\Q (.fr (.lst (dI kz ts))) μ):=rfl
end A
namespace Y
end Y
namespace A
end A
namespace Y
section
variable {X:Cx} {e:Expr} {ue:UE} {pos p:Pos} {x:Str} {k:Nat} {ps:List Str} {tsp:fE} {E:XK}
end
end Y
namespace A
end A
theorem lu:∀ {ns:List Int} {us:List Value} (r:Vals (ns.map V.int) us) (k:Int),us.countP (fun v=>match v with | .int j _=>j == k | _=>false)=ns.count k
 | [],_,.nil,k=>rfl
 | n::ns,_,.cons r t,k=>by
  obtain⟨u,rfl⟩:=r;rw[List.countP_cons,lu t k,List.count_cons]
theorem me:∀ {ns:List Int} {us:List Value} (r:Vals (ns.map V.int) us),∀ y∈us,∃ j t,y=.int j t
 | [],_,.nil,y,h=>by cases h
 | n::ns,_,.cons r t,y,h=>by
  obtain⟨u,rfl⟩:=r;rcases List.mem_cons.mp h with e | e
  ·exact⟨_,_,e⟩
  ·exact me t y e
namespace Y
def CS:V->List V->Hp->VK->Prop:=fun x vs H Q=>∃ (a:Addr) (ns:List Int) (k:Int),x=.ref a/\H a=some (.lst (ns.map V.int))/\vs=[.int k]/\Q (.int (ns.count k:Nat)) H
theorem BI{X:Cx}:Fg X "list.count" CS:=by
 intro pins s σ H x xs v us Q I rx rs h;obtain⟨a,ns,k,rfl,hH,rfl,q⟩:=h;cases rx;obtain⟨u,rfl,t,rfl⟩:=vals1 rs;obtain⟨z,its,n,r,hl,e⟩:=I.nz hH;refine call_meets PySem.F.slot_list_count ⟨_,e,rfl⟩ PySem.F.entry_list_count (PySem.F.args_list_count_2 _ _) (SeqAt.list_countAt a its.toArray n none _ (.int k t) (fun v=>match v with | .int j _=>j == k | _=>false)) ⟨e,fun y hy=>?_,⟨.int _,H,I.tok _,⟨_,rfl⟩,?_⟩⟩
 ·obtain⟨j,u,rfl⟩:=me r y (by simpa using hy)
  exact SeqAt.EqAt.int_int _ _ _ _
 ·show Q (.int (((its.toArray).toList.countP _:Nat):Int)) H;rw[lu r k];exact q
def vL:UM:=fun j rs μ Q=>match rs with
 | [.tr (.int k)]=>(match (μ[j]?).bind Sl.box with
  | some (.lst ts)=>∃ ns:List Int,ts=ns.map T.int/\Q (.tr (.int (ns.count k:Nat))) μ
  | _=>False)
 | _=>False
theorem zJ{K:PySem.W.Frag}:RM K CS vL:=by
 intro F ad B σ H μ Q Qt j s c xs rs hF l e b ps q k;unfold vL at q
 split at q
 ·rename_i z
  cases ps with
  | cons h ps =>
   cases ps;rw[e] at q
   cases cu h
   have q':(match s.box with | some (.lst ts)=>∃ ns:List Int,ts=ns.map T.int/\Qt (.tr (.int (ns.count z:Nat))) μ | _=>False):=q
   rw[b] at q';rcases ((l.slot j s e).boxed b).2.2.1.is with ⟨ts,vs,rfl,hl,rv⟩ | ⟨_,_,_,rfl,_⟩
   case inr=>exact q'.elim
   simp only at q';obtain⟨ns,rfl,q2⟩:=q';rw[Y.di rv] at hl;exact⟨_,ns,z,rfl,hl,rfl,k _ H _ μ (Vr.flat l (.int _)) Fr.refl (Kp.refl μ) q2⟩
 ·exact q.elim
def CM:V->List V->Hp->VK->Prop:=fun x vs H Q=>∃ l b xs ys,x=.ref l/\vs=[.ref b]/\b≠l/\H l=some (.lst xs)/\H b=some (.lst ys)/\xs.length+ys.length<=sizeLine/\Q .aI (upd H l (.lst (xs++ys)))
theorem Ar{X:Cx}:Fg X "list.extend" CM:=by
 intro pins s σ H x vs v us Q I rx rv h;obtain⟨l,b,xs,ys,rfl,rfl,hne,hH,hb,hz,q⟩:=h;cases rx;obtain⟨u,rfl,ru⟩:=vals1 rv;cases ru;obtain⟨z,its,n,r,hl,e⟩:=I.nz hH;obtain⟨z2,its2,n2,r2,hl2,e2⟩:=I.nz hb;have hsz:its.toArray.size+its2.toArray.size<=sizeLine:=by rw[List.size_toArray,List.size_toArray];lia
 refine call_meets F.slot_list_extend ⟨_,e,rfl⟩ F.entry_list_extend (F.args_list_extend_2 _ _) (AutoSeq1.list_extend_list_list_0 l its.toArray n b its2.toArray n2 (extend_door hsz) (by lia) (by lia)) ⟨e,e2,?_⟩
 refine⟨.aI,_,I.DT (its':=its++its2) hH e ?_ (r.append r2) (by rw[List.length_append];exact hz),rfl,q⟩
 apply Array.toList_inj.mp;simp
def sH:UM:=fun j rs μ Q=>match rs with
 | [.tr (.lst us)]=>(match (μ[j]?).bind Sl.box with
  | some (.lst ts)=>ts.length+us.length<=sizeLine/\Q (.tr .aI) (dv μ j (.lst (ts++us)))
  | _=>False)
 | _=>False
theorem zU{K:PySem.W.Frag}:RM K CM sH:=by
 intro F ad B σ H μ Q Qt j s c xs rs hF l e b ps q k;unfold sH at q
 split at q
 ·rename_i us
  cases ps with
  | cons h1 ps =>
   cases ps;have rt:=cu h1;rw[e] at q;have q':(match s.box with | some (.lst ts)=>ts.length+us.length<=sizeLine/\Qt (.tr .aI) (dv μ j (.lst (ts++us))) | _=>False):=q
   rw[b] at q';rcases ((l.slot j s e).boxed b).2.2.1.is with ⟨ts,vs,rfl,hl,rv⟩ | ⟨_,_,_,rfl,_⟩
   case inr=>exact q'.elim
   obtain⟨hz,q2⟩:=(show ts.length+us.length<=sizeLine/\_ from q');have hB:=((l.slot j s e).boxed b).2.1
   cases rt with
   | lst nb hb r2 =>
    rename_i a2 vs2;refine⟨_,a2,vs,vs2,rfl,rfl,fun z=>nb (z ▸ hB),hl,hb,by rw[rv.length,r2.length];exact hz,?_⟩
    have l3:=l.put e b (rv.append r2);unfold dv at q2;rw[e] at q2;exact k _ _ (.tr .aI) _ (Vr.flat l3 .aI) (Fr.set hB) (Kp.set e b (Sl.jG b)) q2
 ·exact q.elim
end Y
def xk{α:Type}:Bool->List α->List α
 | _,[]=>[]
 | true,x::r=>x::xk false r
 | false,_::r=>xk true r
def iO{α:Type}(l:List α):List α:=xk true l
theorem yp{α:Type}(ys:List α):∀ b,(xk b ys).length<=ys.length:=by
 induction ys with
 | nil=>exact fun b=>by cases b<;>exact Nat.le_refl _
 | cons y r ih =>
  intro b
  cases b with
  | true=>exact Nat.succ_le_succ (ih false)
  | false=>exact Nat.le_succ_of_le (ih true)
theorem w_{α:Type}(ys:List α):(iO ys).length<=ys.length:=yp ys true
theorem Vals.iO{xs:List V}{us:List Value}(h:Vals xs us):Vals (iO xs) (iO us):=by
 have k:∀ b,Vals (xk b xs) (xk b us):=by
  induction h with
  | nil=>exact fun b=>by cases b<;>exact .nil
  | cons h _ ih =>
   intro b
   cases b with
   | true=>exact .cons h (ih false)
   | false=>exact ih true
 exact k true
theorem aj.iO{K:PySem.W.Frag}{H:Hp}{B:aL}{xs:List V}{us:List T}(h:aj K H B xs us):aj K H B (iO xs) (iO us):=by
 have k:∀ b,aj K H B (xk b xs) (xk b us):=by
  induction xs generalizing us with
  | nil=>cases h;exact fun b=>by cases b<;>exact .nil
  | cons x xs ih =>
   cases h with
   | cons h r =>
    intro b
    cases b with
    | true=>exact .cons h (ih r false)
    | false=>exact ih r true
 exact k true
theorem tQ{α:Type}(xs:List α)(n m:Nat)(h:(xs.length - m+1) / 2=n):((List.range n).map fun k=>m+2*k).filterMap (fun i=>xs[i]?)=iO (xs.drop m):=by
 induction n generalizing m with
 | zero=>rw[List.drop_of_length_le (by lia)];rfl
 | succ n ih =>
  have hm:m < xs.length:=by lia
  have h2:(xs.length - (m+2)+1) / 2=n:=by lia
  rw[List.range_succ_eq_map,List.map_cons,List.filterMap_cons];show (match xs[m]? with | none=>_ | some b=>_)=_
  rw[List.getElem?_eq_getElem hm];have e2:iO (xs.drop m)=xs[m]::iO (xs.drop (m+2)):=by
   rw[List.drop_eq_getElem_cons hm];show xs[m]::xk false (xs.drop (m+1))=_;congr 1;rw[<- List.drop_drop (i:=1) (j:=m+1)];generalize xs.drop (m+1)=z
   cases z<;>rfl
  rw[e2,<- ih (m+2) h2,List.map_map];show xs[m]::_=xs[m]::_;congr 2;exact List.map_congr_left fun k _=>by show m+2*(k+1)=m+2+2*k;rw[Nat.mul_succ,Nat.add_comm (2*k),Nat.add_assoc]
theorem sC(items:Array Value)(m:Nat):slicePick items (some (m:Int)) none (some 2)=(iO (items.toList.drop m)).toArray:=by
 unfold slicePick;have hb:sliceBounds (some (m:Int)) none (some 2) items.size=(((min m items.size:Nat):Int),(items.size:Int),2):=by
  unfold sliceBounds;simp only[Option.getD_some];rw[if_neg (show ¬ (m:Int) < 0 by lia)]
  simp only[show (2:Int) > 0 by decide,if_true]
  congr 1;lia
 rw[hb];show ((sliceRange ((min m items.size:Nat):Int) (items.size:Int) 2).filterMap (items[·]?)).toArray=_;congr 1;have el:items.toList.length=items.size:=Array.length_toList;unfold sliceRange;simp only[show (2:Int) > 0 by decide,if_true]
 have ec:(if ((min m items.size:Nat):Int) < (items.size:Int) then ((items.size:Int) - ((min m items.size:Nat):Int)+2 - 1) / 2 else 0).toNat=(items.size - m+1) / 2:=by
  split<;>lia
 rw[ec,<- tQ items.toList _ m (by rw[el])]
 have ei:(fun i:Nat=>items[i]?)=fun i=>items.toList[i]?:=funext fun i=>(Array.getElem?_toList).symm;rw[ei];congr 1;refine List.map_congr_left fun k hk=>?_;have hk':=List.mem_range.mp hk;lia
section
variable {X:Cx} {e:Expr} {te:TE}
def FR(K:PySem.W.Frag)(m:Nat)(te:TE):TE:=fun σ H Q=>te σ H fun x H1=>∃ a xs,x=V.ref a/\bK K H1 a xs/\∀ p,H1 p=none->Q (.ref p) (upd H1 p (.lst (iO (xs.drop m))))
theorem z_{i:Int}{m j j2:Nat}{pos p1 p2 p3:Pos}(hi:i=(m:Int))(he:PE X e te):PE X (.Subscript e (.Slice (some (.Constant (.int i) j p1)) none (some (.Constant (.int 2) j2 p3)) p2) pos) (FR X.K m te):=by
 subst hi;intro pins s σ H Q I h;refine Subscript_ (bw (he pins s σ H _ I h) fun v s1 ⟨x,H1,I1,r1,q1⟩=>?_);refine wpAny_Slice (bw (jL ik pins s1 σ H1 (fun o H2=>o=some (m:Int)/\H2=H1) I1 ⟨_,rfl,rfl,rfl⟩) fun vl s2 ⟨l,H2,I2,pl,el,eh⟩=>?_);subst el eh;refine bw (oO pins s2 σ H2 (fun o H3=>o=none/\H3=H2) I2 ⟨rfl,rfl⟩) fun vu s3 ⟨u,H3,I3,pu,eu,eh⟩=>?_;subst eu eh;refine bw (jL ik pins s3 σ H3 (fun o H4=>o=some 2/\H4=H3) I3 ⟨_,rfl,rfl,rfl⟩) fun vk s4 ⟨k,H4,I4,pk,ek,eh⟩=>?_;subst ek eh;obtain⟨a,xs,rfl,hx,q⟩:=q1;cases r1;have I5:Inv X pins σ H4 { s4 with heap:=s4.heap.push { cls:=.type "slice",data:=.fields #[vl,vu,vk] } }:=I4.kept (t':=s4.toks) fun b ob q=>Heap.get?_push_of_some _ q
 obtain⟨its,r,ht,hz⟩:=I5.list hx;have hlen:=r.length;have hg:wpAny (model X.prog X.w) X.A (getItem (.ref a) (.ref s4.heap.objs.size)) (EP X pins σ Q) X.xe { s4 with heap:=s4.heap.push { cls:=.type "slice",data:=.fields #[vl,vu,vk] } }:=by
  refine wpAny_getItem_list_slice ht.isList (Heap.IsSliceOf.new ..) pl pu pk (by simp) ?_ (by rw[List.size_toArray]<;>lia)
  rw[sC];refine⟨.ref _,_,I5.laid (t':=s4.toks) (o:=.lst (iO (xs.drop m))) (fun b ob q=>Heap.get?_push_of_some _ q) (Nat.le_refl _) ?_,rfl,q _ (I5.aE.fresh (Nat.le_refl _))⟩;refine⟨by have:=w_ (xs.drop m);rw[List.length_drop] at this;lia,iO (its.drop m),0,Vals.iO (r.drop m),?_⟩
  exact Heap.get?_push_size _ rfl
 show wpAny (model X.prog X.w) X.A (subscriptTail e (.Slice (some (.Constant (.int (m:Int)) j p1)) none (some (.Constant (.int 2) j2 p3)) p2) (.ref a) (.ref s4.heap.objs.size)) (EP X pins σ Q) X.xe { s4 with heap:=s4.heap.push { cls:=.type "slice",data:=.fields #[vl,vu,vk] } }
 exact tail_any (ops:=[.ref a,.ref s4.heap.objs.size]) ht.isList.typeIs slot_list_getitem.lookup hg (by with_unfolding_all rfl)
end
namespace Y
def xc(m:Nat)(o:Option T):Option (Prop×R):=match o with
 | some (.lst xs)=>some (True,.fr (.lst (iO (xs.drop m))))
 | _=>none
def x8(m:Nat)(ue:UE):UE:=fun μ Q=>ue μ fun r μ'=>stp (xc m (cont μ' r.d)) fun r=>Q r μ'
theorem dE{X:Cx}{e:Expr}{ue:UE}(K:PySem.W.Frag)(hK:X.K=K)(m:Nat){i:Int}(hi:i=(m:Int)){j j2:Nat}{pos p1 p2 p3:Pos}(he:YE X e ue):YE X (.Subscript e (.Slice (some (.Constant (.int i) j p1)) none (some (.Constant (.int 2) j2 p3)) p2) pos) (x8 m ue):=by
 obtain⟨t,q,r⟩:=he;subst hK;refine⟨_,⟨z_ hi q.h⟩,fun F ad B σ H μ Q Qt hF l q k=>r F ad B σ H μ _ _ hF l q fun v H1 r1 μ1 v1 f1 k1 q1=>?_⟩;have w:=fun t (e:cont μ1 r1.d=some t)=>v1.hv.vw v1.rl e;revert q1 w;unfold xc
 cases cont μ1 r1.d with
 | none=>exact fun q1 _=>q1.elim
 | some t =>
  intro q1 w;have w:=w t rfl;rw[hF] at w
  cases w with
  | lst ha ra=>exact⟨_,_,rfl,bK.of ha,fun p hp=>k _ _ _ μ1 (Vr.fL v1.rl (by rw[hF];exact aj.iO (ra.drop m)) hp) (f1.d.trans (Fr.more hp)) k1 q1.2⟩
  | _=>exact q1.elim
end Y
namespace A
theorem vL(j:Nat)(k:Int)(μ:Mu)(Q:R->Mu->Prop):Y.vL j [.tr (.int k)] μ Q=(match (μ[j]?).bind Sl.box with
  | some (.lst ts)=>∃ ns:List Int,ts=ns.map T.int/\Q (.tr (.int (ns.count k:Nat))) μ
  | _=>False):=rfl
theorem sH(j:Nat)(us:List T)(μ:Mu)(Q:R->Mu->Prop):Y.sH j [.tr (.lst us)] μ Q=(match (μ[j]?).bind Sl.box with
  | some (.lst ts)=>ts.length+us.length<=sizeLine/\Q (.tr .aI) (dv μ j (.lst (ts++us)))
  | _=>False):=rfl
theorem x8(m:Nat)(ue:UE)(μ:Mu)(Q:R->Mu->Prop):Y.x8 m ue μ Q=ue μ fun r μ'=>stp (Y.xc m (cont μ' r.d)) fun r=>Q r μ':=rfl
theorem Ee(m:Nat)(xs:List T):Y.xc m (some (.lst xs))=some (True,.fr (.lst (iO (xs.drop m)))):=rfl
end A
namespace Y
section
variable {prog:Program} {w:World} {A:Around} {E:Value->Shared->Prop} {s:Shared}
end
def sO(K:PySem.W.Frag):List V->Hp->VK->Prop:=fun xs H Q=>yW K xs H Q\/∃ p ns,xs=[.ref p]/\bK K H p (ns.map V.int)/\ns.length < 64/\∀ ns':List Int,ns'.Perm ns->ns'.Pairwise (·<=·)->∀ l,H l=none->Q (.ref l) (upd H l (.lst (ns'.map V.int)))
theorem ou{X:Cx}(K:PySem.W.Frag)(hK:X.K=K):aQ X (.builtin "sorted") (sO K):=by
 refine (rj K hK).or ?_;subst hK;intro pins s σ H xs us Q I r h;obtain⟨p,ns,rfl,hq,h64,q⟩:=h;obtain⟨u,rfl,ru⟩:=vals1 r;cases ru;obtain⟨its,rv,pl,hz⟩:=I.list hq;have hi:=intsAre_of rv;refine sorted_ints pl.isList hi (by rw[gW hi];exact h64) fun out ns' a1 a2 a3=>?_
 obtain⟨e,he⟩:=sortedAll_at s.heap its out;refine⟨.ref (s.heap.objs.size+1),_,I.laid (t':=s.toks) (fun b ob q=>sortedAll_old q) (Nat.le_succ _) (show aK X.prog X.w _ _ _ (.lst (ns'.map V.int)) from⟨?_,out.toList,e,d9 a1,by simpa using he⟩),rfl,q ns' a2 a3 _ (I.aE.fresh (Nat.le_succ _))⟩
 rw[List.length_map,a2.length_eq];exact Nat.le_trans (Nat.le_of_lt h64) (by decide)
def uP:T->Mu->(R->Mu->Prop)->Prop:=fun t μ Q=>match t with
 | .tup xs=>∃ ns:List Int,xs=ns.map T.int/\ns.length < 64/\∀ ns':List Int,ns'.Perm ns->ns'.Pairwise (·<=·)->Q (.fr (.lst (ns'.map T.int))) μ
 | .lst xs=>∃ ns:List Int,xs=ns.map T.int/\ns.length < 64/\∀ ns':List Int,ns'.Perm ns->ns'.Pairwise (·<=·)->Q (.fr (.lst (ns'.map T.int))) μ
 | _=>False
theorem sZ{K:PySem.W.Frag}:RC K (sO K) (se uP):=iH fun F ad B σ H μ Q Qt x t hK l v1 q k=>by
 subst hK
 cases v1 with
 | tup ha ra =>
  obtain⟨ns,rfl,h64,q⟩:=q;exact .inl ⟨_,ns,rfl,by rw[<- Y.di ra];exact bu.of ha,h64,fun ns' a2 a3 p hp=>k _ _ _ (Vr.fL l (cO _) hp) (Fr.more hp) (q ns' a2 a3)⟩
 | lst ha ra =>
  obtain⟨ns,rfl,h64,q⟩:=q;exact .inr ⟨_,ns,rfl,by rw[<- Y.di ra];exact bK.of ha,h64,fun ns' a2 a3 p hp=>k _ _ _ (Vr.fL l (cO _) hp) (Fr.more hp) (q ns' a2 a3)⟩
 | _=>exact q.elim
end Y
namespace A
end A
section
variable {prog:Program} {w:World} {A:Around} {E:Value->Shared->Prop} {s:Shared}
end
section
variable {X:Cx} {a b:Expr} {rest:List Expr} {pos:Pos} {ta tb:TE}
end
namespace Y
end Y
namespace A
end A
namespace Y
end Y
namespace A
end A
theorem aT{u w:US}{E:Ed}{μ:Mu}(h:∀ N:Mu->Prop,(∀ μ',w E μ'->N μ')->u { E with nx:=N } μ):Y.Ay u w E μ:=h _ fun _ z=>z
theorem kJ{u w:kj}{E:Ed}{Xt:Xw}{μ:Mu}(h:∀ N:Mu->Prop,(∀ μ',w E Xt μ'->N μ')->u { E with nx:=N } Xt μ):Y.DY u w E Xt μ:=h _ fun _ z=>z
namespace Y
end Y
namespace A
end A
def mH(h:Heap)(d:Addr)(es:Array DictEntry)(ep:Nat):Prop:=∃ o,h.get? d=some o/\o.ExactDict/\o.data=.dict es ep
section
variable {prog:Program} {w:World} {A:Around} {E:Value->Shared->Prop} {s:Shared}
theorem mH.ty{d:Addr}{es:Array DictEntry}{ep:Nat}(x:mH s.heap d es ep):s.TypeIs (.ref d) "dict":=let ⟨o,ho,hc,_⟩:=x;⟨o,ho,hc.1⟩
theorem mH.lt{h:Heap}{d:Addr}{es:Array DictEntry}{ep:Nat}(x:mH h d es ep):d < h.objs.size:=let ⟨_,ho,_⟩:=x;Heap.lt_size ho
theorem yt{d:Addr}{es:Array DictEntry}{ep:Nat}{Q:Value->Shared->Prop}(low:(d == sysModules)=false)(x:mH s.heap d es ep)
  (q:Q (.ref s.heap.objs.size) { s with heap:=s.heap.push { cls:=.type "dict_keyiterator",data:=.fields #[.ref d,.int 0 0,.int es.size 0,.int ep 0] } }):wpAny (model prog w) A (pyIter (.ref d)) Q E s:=by
 obtain⟨o,ho,hx,hdat⟩:=id x;refine wpAny_pyIter_slot x.ty PySem.F.slot_dict_iter (wpAny_call_entry PySem.F.slot_dict_iter x.ty PySem.F.entry_dict_iter ?_ (PySem.F.args_dict_iter_1 _));unfold Builtin.«dict.__iter__» Builtin.Dict.dictSlotNone;refine wpAny_bind (wpAny_bind (wpAny_notOrdered_dict x.ty ?_));show wpAny _ _ (pure (Value.ref d)) _ _ s;refine wpAny_pure ?_;show wpAny _ _ (Builtin.Dict.showsAll d >>= _) _ _ s;unfold Builtin.Dict.showsAll;rw[low,if_neg Bool.false_ne_true];refine wpAny_bind (wpAny_pure (wpAny_bind (wpAny_dictEntries ho hdat (wpAny_bind (wpAny_dictEpoch ho hdat ?_)))));exact wpAny_bind (wpAny_newObj_type (wpAny_pure ⟨_,rfl,"dict_keyiterator",_,⟨_,Heap.get?_push_size _ rfl,rfl⟩,PySem.F.slot_dict_keyiterator_next.lookup,q⟩))
theorem wR{it d:Addr}{i ep:Nat}{es:Array DictEntry}{Q:Option Value->Shared->Prop}(hit:s.heap.IsKeyIter it d i es.size ep)(x:mH s.heap d es ep)(hi:i < es.size)
  (q:∀ h',h'.IsKeyIter it d (i+1) es.size ep->Heap.SameBut it s.heap h'->Q (some es[i].key) { s with heap:=h' }):wpAny (model prog w) A (pyNext (.ref it)) Q E s:=by
 obtain⟨o,ho,hc,hd⟩:=id hit;obtain⟨od,hod,hx,hdd⟩:=id x;unfold pyNext;refine wpAny_bind (wpAny_attempt (wpAny_callSpecial?_slot (name:=Str.ofString "__next__") hit.typeIs PySem.F.slot_dict_keyiterator_next (wpAny_call_entry PySem.F.slot_dict_keyiterator_next hit.typeIs PySem.F.entry_dict_keyiterator_next ?_ (PySem.F.args_dict_keyiterator_next_1 _))));refine wpAny_bind (wpAny_pure (wpAny_bind (wpAny_bind ?_)))
 first | refine wpAny_bind (wpAny_typeNameOfWhole_keyiter hit.typeIs (wpAny_pure (wpAny_bind (wpAny_fieldsOf ho hd ?_)))) | refine wpAny_bind (wpAny_typeNameOf_keyiter hit.typeIs (wpAny_pure (wpAny_bind (wpAny_fieldsOf ho hd ?_))))
 simp only[show Builtin.Dict_items.ownsTuple "dict_keyiterator"=false by decide,Bool.false_eq_true,if_false]
 show wpAny _ _ (if (Value.ref d == Value.none)=true then _ else _) _ _ s;rw[if_neg (show ¬ ((Value.ref d == Value.none)=true) from Bool.false_ne_true)]
 refine wpAny_bind (wpAny_pure (wpAny_bind (wpAny_dictEntries hod hdd ?_)));rw[if_neg (by simp)]
 refine wpAny_bind (wpAny_pure (wpAny_bind (wpAny_dictEpoch hod hdd ?_)));rw[if_neg (by simp)]
 refine wpAny_pure ?_;simp only[show ¬ ((i:Int) < 0) by lia,if_false,Int.toNat_natCast,Array.getElem?_eq_getElem hi]
 refine wpAny_bind ?_
 first | refine wpAny_bind (wpAny_typeNameOfWhole_keyiter hit.typeIs (wpAny_pure (wpAny_bind (wpAny_isOneOf_keyiter hit.typeIs ?_)))) | refine wpAny_bind (wpAny_typeNameOf_keyiter hit.typeIs (wpAny_pure (wpAny_bind (wpAny_isOneOf_keyiter hit.typeIs ?_))))
 show wpAny _ _ (setField (.ref it) 1 (rawInt ((i:Int)+1)) >>= _) _ _ s;refine wpAny_bind (wpAny_setField ho hd (by simp) ?_)
 have h2:(s.heap.update it (Obj.mapFields (·.setIfInBounds 1 (rawInt ((i:Int)+1))))).IsKeyIter it d (i+1) es.size ep:=⟨_,Heap.get?_update_self _ ho (Obj.isFreed_of_fields (Obj.data_mapFields hd _)),(Obj.cls_mapFields ..).trans hc,by rw[Obj.data_mapFields hd];simp[rawInt]⟩
 refine wpAny_bind (wpAny_holding (wpAny_bind (wpAny_isOneOf_keyiter (s:={ s with heap:=s.heap.update it (Obj.mapFields (·.setIfInBounds 1 (rawInt ((i:Int)+1)))) }) h2.typeIs ?_)))
 show wpAny _ _ (pure es[i].key) _ _ _;exact wpAny_pure (wpAny_pure ⟨_,rfl,wpAny_pure (q _ h2 (Heap.SameBut.update ..))⟩)
theorem wY{it d:Addr}{ep:Nat}{es:Array DictEntry}{Q:Option Value->Shared->Prop}(hh:A.handled=none)(hit:s.heap.IsKeyIter it d es.size es.size ep)(x:mH s.heap d es ep)
  (q:∀ h',Heap.ExtBut it s.heap h'->Q none { s with heap:=h' }):wpAny (model prog w) A (pyNext (.ref it)) Q E s:=by
 obtain⟨o,ho,hc,hd⟩:=id hit;obtain⟨od,hod,hx,hdd⟩:=id x;unfold pyNext;refine wpAny_bind (wpAny_attempt (wpAny_callSpecial?_slot (name:=Str.ofString "__next__") hit.typeIs PySem.F.slot_dict_keyiterator_next (wpAny_call_entry PySem.F.slot_dict_keyiterator_next hit.typeIs PySem.F.entry_dict_keyiterator_next ?_ (PySem.F.args_dict_keyiterator_next_1 _))));refine wpAny_bind (wpAny_pure (wpAny_bind (wpAny_bind ?_)))
 first | refine wpAny_bind (wpAny_typeNameOfWhole_keyiter hit.typeIs (wpAny_pure (wpAny_bind (wpAny_fieldsOf ho hd ?_)))) | refine wpAny_bind (wpAny_typeNameOf_keyiter hit.typeIs (wpAny_pure (wpAny_bind (wpAny_fieldsOf ho hd ?_))))
 simp only[show Builtin.Dict_items.ownsTuple "dict_keyiterator"=false by decide,Bool.false_eq_true,if_false]
 show wpAny _ _ (if (Value.ref d == Value.none)=true then _ else _) _ _ s;rw[if_neg (show ¬ ((Value.ref d == Value.none)=true) from Bool.false_ne_true)]
 refine wpAny_bind (wpAny_pure (wpAny_bind (wpAny_dictEntries hod hdd ?_)));rw[if_neg (by simp)]
 refine wpAny_bind (wpAny_pure (wpAny_bind (wpAny_dictEpoch hod hdd ?_)));rw[if_neg (by simp)]
 refine wpAny_pure ?_;simp only[show ¬ ((es.size:Int) < 0) by lia,if_false,Int.toNat_natCast,Array.getElem?_eq_none (Nat.le_refl es.size)]
 refine wpAny_bind ?_
 first | refine wpAny_bind (wpAny_typeNameOfWhole_keyiter hit.typeIs (wpAny_pure ?_)) | refine wpAny_bind (wpAny_typeNameOf_keyiter hit.typeIs (wpAny_pure ?_))
 show wpAny _ _ (setField (.ref it) 0 .none >>= _) _ _ s;refine wpAny_bind (wpAny_setField ho hd (by simp) ?_)
 show wpAny _ _ (newExc (.type "StopIteration") [] >>= _) _ _ _;refine wpAny_bind ?_;simp only[newExc,newTuple];refine wpAny_bind (wpAny_newObj_type ?_ (by size_fits))
 refine wpAny_bind (m:=firstArgMember _ _) (wpAny_of_eq (a:=Value.none) (by first | rfl | (simp only[firstArgMember];rfl)) (wpAny_newObj_type ?_ (by size_fits)))
 simp only[raiseNew];refine wpAny_bind (wpAny_handled ?_);rw[show A.in1.handled=none from hh];refine wpAny_bind (wpAny_pure (wpAny_throw ?_));refine wpAny_bind (wpAny_isInstance (T:="StopIteration") (b:=true) ⟨_,Heap.get?_push_size _ rfl,rfl⟩ isSubtype_stop ?_);exact wpAny_pure (q _ (((Heap.SameBut.update ..).extBut.push _).push _))
end
namespace Y
end Y
namespace A
end A
section
variable {K:PySem.W.Frag} {g:TG} {tb:TS} {D:Ends} {σ:St} {H:Hp} {te:TE} {Q:VK}
end
namespace Y
end Y
namespace A
end A
namespace Y
end Y
namespace A
end A
end L2
namespace L2
open PySem PySem.Spec PyProof PyProof.Rows PySem.W
namespace SP
section
variable (k:Nat->Int)
def R(i j:Nat):Prop:=k i < k j\/(k i=k j/\i < j)
variable {k}
end
section
variable {n m:Nat} {p:Array Nat} {a:List Nat}
end
theorem mw{α:Type}{xs:Array α}{k l:Nat}{y:α}(hy:xs[k]?=some y)(hl:l<=k):(bubble xs k (k - l)).toList=xs.toList.take l++y::(xs.toList.drop l).take (k - l)++xs.toList.drop (k+1):=by
 have hk:k < xs.size:=(Array.getElem?_eq_some_iff.mp hy).1;have hL:xs.toList.length=xs.size:=by simp
 apply List.ext_getElem?;intro i;rw[Array.getElem?_toList,getElem?_bubble hk _ (by lia),show k - (k - l)=l by lia]
 rw[List.append_assoc,List.getElem?_append];have ht:(xs.toList.take l).length=l:=by rw[List.length_take];lia
 rw[ht];by_cases h1:i < l
 ·rw[if_pos h1,if_neg (by lia),if_neg (by lia),List.getElem?_take,if_pos h1,Array.getElem?_toList]
 ·rw[if_neg h1];by_cases h2:i=l
  ·subst h2;rw[if_pos rfl,Nat.sub_self,hy];rfl
  ·rw[if_neg h2,show i - l=(i - l - 1)+1 by lia,List.cons_append,List.getElem?_cons_succ,List.getElem?_append]
   have hm:((xs.toList.drop l).take (k - l)).length=k - l:=by rw[List.length_take,List.length_drop];lia
   rw[hm];by_cases h3:i - l - 1 < k - l
   ·rw[if_pos h3,if_pos (by lia),List.getElem?_take,if_pos h3,List.getElem?_drop,Array.getElem?_toList]
    congr 1;lia
   ·rw[if_neg h3,if_neg (by lia),List.getElem?_drop,Array.getElem?_toList]
    congr 1;lia
theorem fi{α:Type}{xs:Array α}{i j:Nat}(hi:i<=j)(hj:j<=xs.size):(mirror xs i j ((j - i) / 2)).toList=xs.toList.take i++((xs.toList.drop i).take (j - i)).reverse++xs.toList.drop j:=by
 have hL:xs.toList.length=xs.size:=by simp
 apply List.ext_getElem?;intro k;rw[Array.getElem?_toList,getElem?_mirror_all hj,List.append_assoc,List.getElem?_append];have ht:(xs.toList.take i).length=i:=by rw[List.length_take];lia
 have hm:((xs.toList.drop i).take (j - i)).length=j - i:=by rw[List.length_take,List.length_drop];lia
 rw[ht];by_cases h1:k < i
 ·rw[if_pos h1,if_neg (by lia),List.getElem?_take,if_pos h1,Array.getElem?_toList]
 ·rw[if_neg h1,List.getElem?_append,List.length_reverse,hm];by_cases h2:k < j
  ·rw[if_pos (by lia),if_pos (by lia),List.getElem?_reverse (by lia),hm,List.getElem?_take,if_pos (by lia),List.getElem?_drop,Array.getElem?_toList]
   congr 1;lia
  ·rw[if_neg (by lia),if_neg (by lia),List.getElem?_drop,Array.getElem?_toList]
   congr 1;lia
section
variable {k:Nat->Int} {n:Nat} {cmp:Nat->Nat->(Bool->Shared->Prop)->Shared->Prop} {I:Shared->Prop}
end
end SP
section
variable {prog:Program} {w:World} {A:Around} {E:Value->Shared->Prop} {s:Shared}
end
def lexLt(x y:Int×Int):Bool:=decide (x.1 < y.1\/(x.1=y.1/\x.2 < y.2))
def rank(l:List (Int×Int))(x:Int×Int):Nat:=l.countP fun y=>lexLt y x
def rk(l:List (Int×Int))(i:Nat):Int:=(rank l (l.getD i (0,0)):Nat)
namespace Y
end Y
namespace A
end A
end L2
namespace L2
open PySem PySem.Spec PyProof PyProof.Rows
namespace Y
end Y
namespace A
end A
section
variable {X:Cx} {tg:Expr}
end
namespace Z
variable {X:Cx} {tg a b c d e f o:Expr} {ta:TA} {td ty tx:TE} {p pos apos cpos kpos:Pos} {cj:Nat}
end Z
namespace Ap
end Ap
end L2
namespace L2
open PySem PySem.Spec PyProof PyProof.Rows
theorem aK.FU{P:Program}{w:World}{H H':Hp}{h:Heap}{a:Addr}{o:HO}(x:aK P w H h a o)(ho:∀ b,H b=some (.own a)->H' b=some (.own a))(ht:∀ b xs,H b=some (.tup xs)->H' b=some (.tup xs))(hz:∀ b ob c,H b=some (.cI ob (.own c))->H' b=some (.cI ob (.own c))):aK P w H' h a o:=by
 induction o with
 | dT kvs=>obtain⟨z,y,xs,r,c⟩:=x;exact⟨z,y,xs,Paired.jc r fun p q z=>⟨z.1,ht _ _ z.2.1,z.2.2⟩,c⟩
 | ins C dx fs=>obtain⟨d,z⟩:=x;exact⟨ho _ d,z⟩
 | cI ob u ih=>exact⟨x.1,ih x.2⟩
 | pI ps =>
  obtain⟨qs,e,t,f⟩:=x;exact⟨qs,e,t,fun pos cv q=>let ⟨c,oc,vs,t',e1,e2,e3⟩:=f pos cv q;⟨c,oc,vs,t',e1,hz _ _ _ e2,e3⟩⟩
 | _=>exact x
section
variable {X:Cx} {pins:List (Addr×Obj)} {σ:St} {H:Hp} {s:Shared} {d:Addr} {kvs:List (Key×V)} {o:Obj}
theorem Inv.zp{u u':HO}(I:Inv X pins σ H s)(e:H d=some u)(n1:∀ xs,u≠.tup xs)(n2:∀ ps,u≠.pI ps)(n3:∀ a,u≠.own a)(n4:∀ ob c,u≠.cI ob (.own c))(nf:∀ ob v,X.H₀ d≠some (.cI ob v))(new:aK X.prog X.w H s.heap d u'):Inv X pins σ (upd H d u') s:=by
 have ne:∀ b v,H b=some v->v≠u->b≠d:=fun b v q h z=>by subst z;rw[e] at q;exact h (Option.some.inj q).symm
 have neN:∀ b,H b=none->b≠d:=fun b q z=>by subst z;rw[e] at q;cases q
 have st:∀ a v,aK X.prog X.w H s.heap a v->aK X.prog X.w (upd H d u') s.heap a v:=fun a v x=>x.FU (fun b q=>by rw[ae (ne b _ q fun z=>n3 _ z.symm)];exact q) (fun b xs q=>by rw[ae (ne b _ q fun z=>n1 _ z.symm)];exact q) fun b ob c q=>by rw[ae (ne b _ q fun z=>n4 _ _ z.symm)];exact q
 refine⟨I.ok,I.os,I.bare,⟨I.base.keep,I.base.slot,fun b ob q n hx=>?_,I.base.there,fun b xs q=>?_,fun b ob v q=>?_,fun b ps q=>?_⟩,I.loc,I.cell,?_,fun x c q=>?_,fun p hp=>?_,fun b v q=>?_,I.len⟩
 ·rw[ae (neN b (I.base.free b ob q n hx))];exact I.base.free b ob q n hx
 ·have q':=I.base.iA b xs q;rw[ae (ne b _ q' fun z=>n1 _ z.symm)];exact q'
 ·have q':=I.base.fQ b ob v q;rw[ae (fun z=>nf ob v (by rw[<- z];exact q))];exact q'
 ·obtain⟨m,q'⟩:=I.base.fG b ps q;exact⟨m,by rw[ae (ne b _ q' fun z=>n2 _ z.symm)];exact q'⟩
 ·rw[ae (neN _ I.free)];exact I.free
 ·rw[ae (neN _ (I.cC x c q))];exact I.cC x c q
 ·obtain⟨h1,h2,h3⟩:=I.pin p hp;exact⟨h1,by rw[ae (neN _ h2)];exact h2,h3⟩
 ·by_cases z:b=d
  ·subst z;rw[af] at q;cases q;exact st _ _ new
  ·rw[ae z] at q;exact st _ _ (I.aE b v q)
theorem Inv.zo{u:HO}(I:Inv X pins σ H s)(e:H d=some u)(n:∀ ob v,u≠.cI ob v):∀ ob v,X.H₀ d≠some (.cI ob v):=fun ob v z=>by
 have:=I.base.fQ d ob v z;rw[e] at this;exact n ob v (Option.some.inj this)
theorem Inv.hold(I:Inv X pins σ H s)(e:H d=some (.dK kvs))(ho:s.heap.get? d=some o):Inv X pins σ (upd H d (.cI o (.dK kvs))) s:=
 I.zp e (fun _ z=>nomatch z) (fun _ z=>nomatch z) (fun _ z=>nomatch z) (fun _ _ z=>nomatch z) (I.zo e fun _ _ z=>nomatch z) ⟨ho,I.aE d _ e⟩
theorem Inv.letGo(I:Inv X pins σ H s)(e:H d=some (.cI o (.dK kvs)))(nf:∀ ob v,X.H₀ d≠some (.cI ob v)):Inv X pins σ (upd H d (.dK kvs)) s:=
 I.zp e (fun _ z=>nomatch z) (fun _ z=>nomatch z) (fun _ z=>nomatch z) (fun _ _ z=>nomatch z) nf (I.aE d _ e).2
def my(t:Addr->Obj->List (Key×V)->TE):TE:=fun σ H Q=>∃ d kvs,(H d=some (.dK kvs)/\∀ o,t d o kvs σ (upd H d (.cI o (.dK kvs))) fun v H'=>H' d=some (.cI o (.dK kvs))/\Q v (upd H' d (.dK kvs)))\/∃ o,H d=some (.cI o (.dK kvs))/\t d o kvs σ H Q
theorem xT{e:Expr}{t:Addr->Obj->List (Key×V)->TE}(h:∀ d o kvs,PE X e (t d o kvs)):PE X e (my t):=by
 intro pins s σ H Q I hq;obtain⟨d,kvs,⟨e1,hq⟩ | ⟨o,e1,hq⟩⟩:=hq
 ·obtain⟨_,_,vs,_,o,es,ep,ho,_⟩:=(show aK X.prog X.w H s.heap d (.dK kvs) from I.aE d _ e1);have nf:=I.zo e1 fun _ _ z=>nomatch z;exact bw (h d o kvs pins s σ _ _ (I.hold e1 ho) (hq o)) fun v s' ⟨x,H',I',r,e',q⟩=>⟨x,_,I'.letGo e' nf,r,q⟩
 ·exact h d o kvs pins s σ H Q I hq
end
def Dz(d:Addr)(o:Obj)(kvs:List (Key×V)):It:=⟨fun i H=>H d=some (.cI o (.dK kvs))/\i < kvs.length,fun i H x H'=>H'=H/\∃ p,kvs[i]?=some p/\x=kV p.1,fun i H=>H d=some (.cI o (.dK kvs))/\i=kvs.length⟩
theorem Bq{kvs:List (Key×V)}{vs:List (Key×Value)}(r:KV kvs vs):kvs.length=vs.length:=by
 unfold KV at r
 induction r with
 | nil=>rfl
 | cons _ _ ih=>rw[List.length_cons,List.length_cons,ih]
theorem pairs_len{P:Program}{w:World}{es:List DictEntry}{vs:List (Key×Value)}(r:PySem.Pairs (aZ P w) es vs):es.length=vs.length:=by
 induction r with
 | nil=>rfl
 | cons _ _ _ ih=>rw[List.length_cons,List.length_cons,ih]
theorem rN{P:Program}{w:World}{es:List DictEntry}{vs:List (Key×Value)}(r:PySem.Pairs (aZ P w) es vs):∀ {kvs:List (Key×V)},KV kvs vs->∀ {i:Nat} {p:Key×V} {e:DictEntry},kvs[i]?=some p->es[i]?=some e->RelV (kV p.1) e.key:=by
 induction r with
 | nil=>intro kvs _ i p e _ h;simp at h
 | @cons e0 kv es vs h1 h2 r ih =>
  intro kvs hk i p e hp he;unfold KV at hk
  cases hk with
  | cons q hk =>
   cases i with
   | zero =>
    simp at hp he;subst hp he;rw[<- q.1] at h1;rcases aX h1 with ⟨j,t,e1,e2⟩ | ⟨x,t,e1,e2⟩
    ·rw[e1,e2];exact⟨t,rfl⟩
    ·rw[e1,e2];exact⟨t,rfl⟩
   | succ i=>exact ih hk (by simpa using hp) (by simpa using he)
theorem kg{X:Cx}{pins:List (Addr×Obj)}{σ:St}{H:Hp}{s:Shared}{d:Addr}{kvs:List (Key×V)}{o:Obj}(I:Inv X pins σ H s)(e:H d=some (.cI o (.dK kvs))):∃ es ep,mH s.heap d es ep/\o.data=.dict es ep/\es.size=kvs.length/\(d == sysModules)=false/\∀ (i:Nat) (p:Key×V) (h:i < es.size),kvs[i]?=some p->RelV (kV p.1) es[i].key:=by
 obtain⟨ho,_,lowd,vs,rk,o',es,ep,ho',hx,hdat,_,pr,_⟩:=(show aK X.prog X.w H s.heap d (.cI o (.dK kvs)) from I.aE d _ e);rw[ho] at ho';cases ho';refine⟨es,ep,⟨o,ho,hx,hdat⟩,hdat,by rw[Bq rk,<- pairs_len pr,Array.length_toList],lowd,fun i p h hp=>rN pr rk hp ?_⟩
 rw[Array.getElem?_toList,Array.getElem?_eq_getElem h]
theorem rS{P:Program}{w:World}{K:PySem.W.Frag}{tg:Expr}{d:Addr}{o:Obj}{kvs:List (Key×V)}(it:Addr)(es:Array DictEntry)(ep:Nat)(hd:o.data=.dict es ep)(ne:it≠d):Turn P w K tg (Dz d o kvs) [it] it (fun i h=>h.IsKeyIter it d i es.size ep) where
 mem:=by simp
 obj:=fun i h st b hb=>by
  have e:b=it:=by simpa using hb
  subst e;obtain⟨ob,h1,_,h3⟩:=st;exact⟨ob,h1,fun v z=>by rw[h3] at z;cases z⟩
 keep:=fun i h h' st k=>st.at fun ob e=>k it (by simp) _ e
 item:=by
  intro X hP hw hK hc i pins s σ H E I hf st hg;subst hP hw hK;obtain⟨f0,f1,f2,f3,f4,f5⟩:=hf it (by simp)
  obtain⟨hh,hi⟩:=hg;obtain⟨es',ep',at0,hd',hl,_,hk⟩:=kg I hh;rw[hd] at hd';cases hd';refine wR st at0 (by lia) fun h' a b=>?_
  have I1:Inv X pins σ H { s with heap:=h' }:=I.turned (t':=s.toks) (fun c ob hb e=>b.extBut c ob hb e) f0 f1 f3 f4 f5
  obtain⟨ob,g1,g2,g3⟩:=id a;refine⟨_,rfl,pB (s:={ s with heap:=h' }) (n:="dict_keyiterator") g1 g2 g3 (by decide) ⟨kV (kvs[i]).1,H,I1,hk i kvs[i] (by lia) (List.getElem?_eq_getElem hi),⟨rfl,kvs[i],List.getElem?_eq_getElem hi,rfl⟩,a,fun b hb=>(hf b hb).1⟩⟩
 done:=by
  intro X hP hw hK hc i pins s σ H E I hf st hg;subst hP hw hK;obtain⟨f0,f1,f2,f3,f4,f5⟩:=hf it (by simp)
  obtain⟨hh,hi⟩:=hg;obtain⟨es',ep',at0,hd',hl,_,hk⟩:=kg I hh;rw[hd] at hd';cases hd';have e:i=es.size:=by lia
  subst e;exact wY (I.ok.hd hc) st at0 fun h' eb=>⟨rfl,I.turned (t':=s.toks) (fun b ob hb e=>eb b ob hb e) f0 f1 f3 f4 f5⟩
 self:=fun _ _ _ _ _ st h=>wpAny_pyIter_keyiter st h
def lS(d:Addr)(o:Obj)(kvs:List (Key×V))(tl:TE):TI:=fun σ H R=>tl σ H fun x H1=>x=.ref d/\H1 d=some (.cI o (.dK kvs))/\R (Dz d o kvs) H1
theorem yi{X:Cx}{tg l:Expr}{tl:TE}{d:Addr}{o:Obj}{kvs:List (Key×V)}(hl:PE X l tl):PI X tg l (lS d o kvs tl):=by
 intro pins s σ H R I h;refine bw (hl pins s σ H _ I h) fun v s1 ⟨x,H1,I1,r1,q1⟩=>?_;obtain⟨rfl,hh,q⟩:=q1;cases r1;obtain⟨es,ep,at0,hd,hlen,low,hk⟩:=kg I1 hh;refine yt low at0 ?_;refine⟨s1.heap.objs.size,[s1.heap.objs.size],_,_,H1,rfl,I1.kept (t':=s1.toks) fun b ob e=>Heap.get?_push_of_some _ e,rS _ es ep hd (Ne.symm (Nat.ne_of_lt at0.lt)),⟨_,Heap.get?_push_size _ rfl,rfl,rfl⟩,fun b hb=>?_,q⟩;have e:b=s1.heap.objs.size:=by simpa using hb
 subst e;exact I1.lV (Nat.le_refl _) (I1.aE.fresh (Nat.le_refl _))
namespace Z
variable {X:Cx} {tg e l:Expr} {tl:TE}
theorem hold{t:Addr->Obj->List (Key×V)->TE}(h:∀ d o kvs,QE X e (t d o kvs)):QE X e (my t):=⟨xT fun d o kvs=>(h d o kvs).h⟩
theorem held(d:Addr)(o:Obj)(kvs:List (Key×V))(hl:QE X l tl):QI X tg l (lS d o kvs tl):=⟨yi hl.h⟩
theorem allB{t:TA}{p pos:Pos}(K:PySem.W.Frag)(hK:X.K=K)(hc:X.calm=true)(hg:Gl X "all")(hm:X.mg "all"=none)(ha:QA X [e] t)(h1:bX e=true:=by rfl):QE X (.Call (.Name "all" p) [e] [] pos) (rX (Y.Du K) t):=Z.cb (Y.qX K hK hc) hg hm (by decide +kernel) ha (h1:=h1)
end Z
namespace Ap
theorem my(t:Addr->Obj->List (Key×V)->TE)(σ:St)(H:Hp)(Q:VK):L2.my t σ H Q=∃ d kvs,(H d=some (.dK kvs)/\∀ o,t d o kvs σ (upd H d (.cI o (.dK kvs))) fun v H'=>H' d=some (.cI o (.dK kvs))/\Q v (upd H' d (.dK kvs)))\/∃ o,H d=some (.cI o (.dK kvs))/\t d o kvs σ H Q:=rfl
theorem lS(d:Addr)(o:Obj)(kvs:List (Key×V))(tl:TE)(σ:St)(H:Hp)(R:It->Hp->Prop):L2.lS d o kvs tl σ H R=tl σ H fun x H1=>x=.ref d/\H1 d=some (.cI o (.dK kvs))/\R (Dz d o kvs) H1:=rfl
end Ap
theorem nM{d:Addr}{o:Obj}{kvs:List (Key×V)}{tc:TT}{te:TE}{Q:VK}{σ:St}{H:Hp}(hn:kvs.length<=sizeLine)(Pv:Addr->Nat->List V->Hp->Prop)(h0:∀ D,H D=none->Pv D 0 [] (upd H D (.lst [])))(hD:∀ D i ys H',Pv D i ys H'->H' D=some (.lst ys)/\ys.length<=i)
  (hl:∀ D i ys H',Pv D i ys H'->H' d=some (.cI o (.dK kvs)))
  (hs:∀ D i ys H' p (R:VK) (R0:Hp->Prop),kvs[i]?=some p->Pv D i ys H'->(∀ v H5,H5 D=some (.lst ys)->Pv D (i+1) (ys++[v]) (upd H5 D (.lst (ys++[v])))->R v H5)->(∀ H4,Pv D (i+1) ys H4->R0 H4)->tc (some (kV p.1)::σ) H' fun b H4=>if b=true then te (some (kV p.1)::σ) H4 R else R0 H4)
  (hd:∀ D ys H',Pv D kvs.length ys H'->Q (.ref D) H'):uf (Dz d o kvs) 1 (bO 0) tc te Q σ H:=by
 intro D hD0;refine⟨fun i m ys σ' H'=>m=kvs.length - i/\i<=kvs.length/\Pv D i ys H'/\∃ o,σ'=o::σ,⟨kvs.length,by simp,Nat.zero_le _,h0 D hD0,none,rfl⟩,?_⟩
 rintro i m ys σ' H' ⟨rfl,hi,p,o',rfl⟩;obtain⟨hDi,hly⟩:=hD _ _ _ _ p;refine⟨hDi,?_⟩;by_cases hlt:i < kvs.length
 ·refine .inr ⟨⟨hl _ _ _ _ p,hlt⟩,by lia,fun x H2 y=>?_⟩
  obtain⟨rfl,pr,hp,rfl⟩:=y;unfold bO;exact hs D i ys H2 pr _ _ hp p (fun v H5 q1 q2=>⟨q1,kvs.length - (i+1),by lia,rfl,hlt,q2,_,rfl⟩) fun H4 q=>⟨kvs.length - (i+1),by lia,rfl,hlt,q,_,rfl⟩
 ·have e:i=kvs.length:=by lia
  subst e;exact .inl ⟨⟨hl _ _ _ _ p,rfl⟩,hd D ys H' p⟩
end L2
namespace L2
open PySem PySem.Spec PyProof PyProof.Rows
def e9(h:Heap)(e it:Addr)(i:Int)(x0 fl item:Value):Prop:=h.get? e=some { cls:=.type "enumerate",dict:=none,data:=.fields #[x0,fl,.ref it,rawInt i,.none,item],slots:=#[] }
def mO(h:Heap)(e it:Addr)(i:Int):Prop:=∃ x0 fl item,e9 h e it i x0 fl item/\(x0=.none\/∃ a:Nat,x0=rawInt a)
section
variable {prog:Program} {w:World} {A:Around} {E:Value->Shared->Prop} {s:Shared}
theorem mO.keep{h h':Heap}{e it:Addr}{i:Int}(x:mO h e it i)(k:∀ o,h.get? e=some o->h'.get? e=some o):mO h' e it i:=let ⟨a,b,c,r,z⟩:=x;⟨a,b,c,k _ r,z⟩
theorem lU{a:Addr}{Q:Option Obj->Shared->Prop}(hq:Q (s.heap.get? a) s):wpAny (model prog w) A (loadIfAlive a) Q E s:=fun _ _ _=>hq
theorem xr{e it:Addr}{i:Int}{x0 fl item:Value}{Q:Bool->Shared->Prop}(he:e9 s.heap e it i x0 fl item)(hx:x0=.none\/∃ a:Nat,x0=rawInt a)(hQ:∀ b h' fl',e9 h' e it i x0 fl' item->Heap.SameBut e s.heap h'->Q b { s with heap:=h' }):wpAny (model prog w) A (Builtin.SmallTypes.ownedTupleIsFree (.ref e)) Q E s:=by
 obtain⟨hp,g,d,tk,os⟩:=s;unfold Builtin.SmallTypes.ownedTupleIsFree;rcases hx with rfl | ⟨a,rfl⟩
 ·refine wpAny_bind (wpAny_field he rfl (x:=.none) rfl (wpAny_pure ?_));exact hQ true hp fl he ⟨rfl,fun _ _=>rfl⟩
 ·refine wpAny_bind (wpAny_field he rfl (x:=rawInt a) rfl ?_);show wpAny _ _ (loadIfAlive ((a:Int).toNat) >>= _) _ _ _;refine wpAny_bind (lU ?_)
  cases (hp.get? ((a:Int).toNat)).isNone with
  | true =>
   rw[if_pos rfl];exact wpAny_pure (hQ true hp fl he ⟨rfl,fun _ _=>rfl⟩)
  | false =>
   rw[if_neg Bool.false_ne_true];refine wpAny_bind (wpAny_field he rfl (x:=fl) rfl ?_);dsimp only;split
   ·refine wpAny_bind (wpAny_setField_rec he (by simp) fun h₂ he₂ hs₂=>?_)
    exact wpAny_pure (hQ false h₂ _ he₂ hs₂)
   ·exact wpAny_pure (hQ false hp fl he ⟨rfl,fun _ _=>rfl⟩)
theorem wB{e it:Addr}{fp:List Addr}{n k:Nat}{i:Int}{P:Nat->Value->Prop}{St:Nat->Heap->Prop}{Q:Option Value->Shared->Prop}
  (D:Draws prog w A.in1 it fp n P St) (he:mO s.heap e it i) (hst:St k s.heap) (hlt:k < n) (hne:e≠it) (hef:e∉fp)
  (hQ:∀ x h' tk,P k x->mO h' e it (i+1)->St (k+1) h'->h'.get? s.heap.objs.size=some { cls:=.type "tuple",data:=.seq #[.int i tk,x] }->h'.objs.size=s.heap.objs.size+1 ->
   (∀ b o,b≠e->b≠it->s.heap.get? b=some o->h'.get? b=some o)->Q (some (.ref s.heap.objs.size)) { s with heap:=h',toks:=tk+1 }):wpAny (model prog w) A (pyNext (.ref e)) Q E s:=by
 obtain⟨x0,fl,item,he,hx⟩:=he;have hT:s.TypeIs (.ref e) "enumerate":=⟨_,he,rfl⟩;obtain⟨hp,g,d,tk₀,os⟩:=s;unfold pyNext;refine wpAny_bind (wpAny_attempt (wpAny_callSpecial?_slot (name:=Str.ofString "__next__") hT PySem.F.slot_enumerate_next
  (wpAny_call_entry PySem.F.slot_enumerate_next hT PySem.F.entry_enumerate_next ?_ (PySem.F.args_enumerate_next_1 _))))
 show wpAny _ _ (field (.ref e) 2 >>= _) _ _ _;refine wpAny_bind (wpAny_field he rfl (x:=.ref it) rfl ?_);refine wpAny_bind (D.item k _ _ _ hlt hst fun x h₁ tk hPx hit₁ hs₁=>?_)
 replace hs₁:Heap.SameBut it hp h₁:=hs₁
 have he₁:e9 h₁ e it i x0 fl item:=(hs₁.2 e hne).trans he;show wpAny _ _ (field (.ref e) 3 >>= _) _ _ ⟨h₁,g,d,tk,os⟩;refine wpAny_bind (wpAny_field he₁ rfl (x:=rawInt i) rfl ?_);show wpAny _ _ (field (.ref e) 4 >>= _) _ _ ⟨h₁,g,d,tk,os⟩;refine wpAny_bind (wpAny_field he₁ rfl (x:=.none) rfl ?_);show wpAny _ _ (mkInt i >>= _) _ _ ⟨h₁,g,d,tk,os⟩;refine wpAny_bind (wpAny_mkInt ?_);show wpAny _ _ (setField (.ref e) 3 (rawInt (i+1)) >>= _) _ _ ⟨h₁,g,d,tk+1,os⟩;refine wpAny_bind (wpAny_setField_rec he₁ (by simp) fun h₂ he₂ hs₂=>?_)
 replace hs₂:Heap.SameBut e h₁ h₂:=hs₂
 replace he₂:e9 h₂ e it (i+1) x0 fl item:=he₂
 show wpAny _ _ (setField (.ref e) 4 .none >>= _) _ _ ⟨h₂,g,d,tk+1,os⟩;refine wpAny_bind (wpAny_setField_rec he₂ (by simp) fun h₃ he₃ hs₃=>?_)
 replace hs₃:Heap.SameBut e h₂ h₃:=hs₃
 replace he₃:e9 h₃ e it (i+1) x0 fl item:=he₃
 show wpAny _ _ (newTuple [.int i tk,x] >>= _) _ _ ⟨h₃,g,d,tk+1,os⟩;refine wpAny_bind (wpAny_newTuple ?_);have he₄:e9 (h₃.push { cls:=.type "tuple",data:=.seq #[.int i tk,x] }) e it (i+1) x0 fl item:=Heap.get?_push_of_some _ he₃;generalize hh₄:h₃.push { cls:=.type "tuple",data:=.seq #[.int i tk,x] }=h₄ at he₄;have hsz:h₃.objs.size=hp.objs.size:=by rw[hs₃.1,hs₂.1,hs₁.1]
 have hel:e < hp.objs.size:=Heap.lt_size he;have ht₄:h₄.get? hp.objs.size=some { cls:=.type "tuple",data:=.seq #[.int i tk,x] }:=by rw[<- hh₄,<- hsz];exact Heap.get?_push_size _ rfl
 have hz₄:h₄.objs.size=hp.objs.size+1:=by rw[<- hh₄,Heap.size_push,hsz]
 have hk₄:∀ b o,b≠e->b≠it->hp.get? b=some o->h₄.get? b=some o:=fun b o hbe hbi hb=>by
  rw[<- hh₄];exact Heap.get?_push_of_some _ (hs₃.extBut b o hbe (hs₂.extBut b o hbe (hs₁.extBut b o hbi hb)))
 have hit₄:St (k+1) h₄:=D.frame _ _ _ hit₁ fun b hb o y=>by
  have hbe:b≠e:=fun q=>hef (q ▸ hb);rw[<- hh₄];exact Heap.get?_push_of_some _ (hs₃.extBut b o hbe (hs₂.extBut b o hbe y))
 show wpAny _ _ (Builtin.SmallTypes.ownedTupleIsFree (.ref e) >>= _) _ _ ⟨h₄,g,d,tk+1,os⟩;rw[hsz];clear hh₄ he₃ hs₃ he₂ hs₂ he₁ hs₁ hit₁ hsz h₃ h₂ h₁;refine wpAny_bind (xr (s:=⟨h₄,g,d,tk+1,os⟩) he₄ hx fun b h5 fl5 he5 hs5=>?_)
 replace hs5:Heap.SameBut e h₄ h5:=hs5
 have fin:∀ h',mO h' e it (i+1)->Heap.SameBut e h₄ h'->Q (some (.ref hp.objs.size)) ⟨h',g,d,tk+1,os⟩:=fun h' q1 q2=>hQ x h' tk hPx q1 (D.frame _ _ _ hit₄ fun b hb o y=>q2.extBut b o (fun q=>hef (q ▸ hb)) y) (q2.extBut _ _ (Nat.ne_of_gt hel) ht₄) (by rw[q2.1];exact hz₄) fun b o hbe hbi hb=>q2.extBut b o hbe (hk₄ b o hbe hbi hb)
 cases b with
 | false =>
  simp only[Bool.false_eq_true,if_false];exact wpAny_pure ⟨_,rfl,wpAny_pure (fin h5 ⟨x0,fl5,item,he5,hx⟩ hs5)⟩
 | true =>
  simp only[if_true];refine wpAny_bind (wpAny_rule ?_);refine wpAny_bind (wpAny_field he5 rfl (x:=item) rfl ?_);refine wpAny_bind (wpAny_setField_rec he5 (by simp) fun h6 he6 hs6=>?_)
  replace hs6:Heap.SameBut e h5 h6:=hs6
  replace he6:e9 h6 e it (i+1) x0 fl5 x:=he6
  show wpAny _ _ (Builtin.SmallTypes.ownedTupleHandOut (.ref e) (.ref hp.objs.size) >>= _) _ _ ⟨h6,g,d,tk+1,os⟩;refine wpAny_bind ?_;unfold Builtin.SmallTypes.ownedTupleHandOut;refine wpAny_bind (wpAny_setField_rec he6 (by simp) fun h7 he7 hs7=>?_)
  replace hs7:Heap.SameBut e h6 h7:=hs7
  replace he7:e9 h7 e it (i+1) (rawInt hp.objs.size) fl5 x:=he7
  refine wpAny_setField_rec he7 (by simp) fun h8 he8 hs8=>?_
  replace hs8:Heap.SameBut e h7 h8:=hs8
  replace he8:e9 h8 e it (i+1) (rawInt hp.objs.size) (.bool false) x:=he8
  refine wpAny_bind (wpAny_letGo (wpAny_pure ⟨_,rfl,wpAny_pure (fin h8 ⟨_,_,_,he8,.inr ⟨_,rfl⟩⟩ ⟨by rw[hs8.1,hs7.1,hs6.1,hs5.1],fun b hb=>by rw[hs8.2 b hb,hs7.2 b hb,hs6.2 b hb,hs5.2 b hb]⟩)⟩))
end
open Builtin Builtin.Str
section
variable {prog:Program} {w:World} {A:Around} {E:Value->Shared->Prop} {h:Heap} {g:Array GenState} {d:Drawn} {t:Nat} {os:OsState} {a:Addr} {items:Array Value}
theorem wO:typeLookup (.type "enumerate") "keys"=pure none:=am_miss_of_fast (by kernel_rfl)
theorem Dp:entryFor table "enumerate.__getattribute__"=some Builtin.«object.__getattribute__»:=entryFor_alias (id':="object.__getattribute__") (by kernel_rfl) (by first | rfl | decide +kernel) (by decide +kernel) (by kernel_rfl)
theorem ny:typeLookup (.type "enumerate") "__getattr__"=pure none:=by rw[typeLookup_type,builtinLookup_eq_fast];kernel_rfl
theorem vm{name:Str}{tk:Tok}{Q:Fin->Shared->Prop}(hx:h.get? a=some { cls:=.type "enumerate",dict:=none,data:=.fields items,slots:=#[] })(hmiss:typeLookup (.type "enumerate") name=pure none)(hnc:(["__module__","__name__","__qualname__","__doc__","__annotations__"]:List Str).contains name=false)(hh:A.handled=none)
  (hq:∀ h' tk' e,Heap.NewAttrErr h h' e (.ref a) name->E (.ref e) ⟨h',g,d,tk',os⟩) (hsz:name.length+100<=sizeLine:=by size_fits) :
  wpAny (model prog w) A (Builtin.«object.__getattribute__» ⟨[.ref a,.str name tk],[]⟩) Q E ⟨h,g,d,t,os⟩:=by
 have hT:(⟨h,g,d,t,os⟩:Shared).TypeIs (.ref a) "enumerate":=⟨_,hx,rfl⟩;unfold Builtin.«object.__getattribute__»
 repeat (any_goals (first | assumption | wp_step))
 rw[if_neg (by rw[hnc];decide)]
 repeat (any_goals (first | assumption | wp_step))
 exact wpAny_raiseAttrError hh hq (attrMsg_fits (by decide +kernel) hsz)
theorem xo{name:Str}{tk:Tok}{R:Result->Shared->Prop}(hx:h.get? a=some { cls:=.type "enumerate",dict:=none,data:=.fields items,slots:=#[] })(hmiss:typeLookup (.type "enumerate") name=pure none)(hnc:(["__module__","__name__","__qualname__","__doc__","__annotations__"]:List Str).contains name=false)(hh:A.handled=none)
  (hq:∀ h' tk' e,Heap.NewAttrErr h h' e (.ref a) name->R (.error (.ref e)) ⟨h',g,d,tk',os⟩) (hsz:name.length+100<=sizeLine:=by size_fits) :
  codeAny (model prog w) A (.call (.builtin "enumerate.__getattribute__") ⟨[.ref a,.str name tk],[]⟩) R ⟨h,g,d,t,os⟩:=
 codeAny_call_builtin F.slot_enumerate_getattribute.plain Dp (F.slot_enumerate_getattribute.check _ _ _ _ _ _ _ _ (show (⟨h,g,d,t,os⟩:Shared).TypeIs (.ref a) "enumerate" from⟨_,hx,rfl⟩) (F.args_enumerate_getattribute_2 _ _) (vm hx hmiss hnc hh hq hsz))
theorem Ci{name:Str}{tk:Tok}{Q:Value->Shared->Prop}(hx:h.get? a=some { cls:=.type "enumerate",dict:=none,data:=.fields items,slots:=#[] })(hmiss:typeLookup (.type "enumerate") name=pure none)(hnc:(["__module__","__name__","__qualname__","__doc__","__annotations__"]:List Str).contains name=false)(hh:A.handled=none)
  (hq:∀ h' tk' e,Heap.NewAttrErr h h' e (.ref a) name->E (.ref e) ⟨h',g,d,tk',os⟩) (hsz:name.length+100<=sizeLine:=by size_fits) :
  wpAny (model prog w) A (getAttrBy (.ref a) (.str name tk) false) Q E ⟨h,g,d,t,os⟩:=by
 have hT:(⟨h,g,d,t,os⟩:Shared).TypeIs (.ref a) "enumerate":=⟨_,hx,rfl⟩;have f1:=sub_AttributeError;have f2:=F.slot_enumerate_getattribute.lookup;have f3:=F.slot_enumerate_getattribute.bind (.ref a);have f5:=ny
 repeat (any_goals (first | assumption | wp_step))
 refine xo hx hmiss hnc hh (fun h' tk' e x=>?_) hsz;obtain⟨t',u',he⟩:=x.there;show wpAny _ _ (getattributeRaised _ _ _ _ _ _ _) _ _ _;unfold getattributeRaised
 repeat (any_goals (first | assumption | wp_step))
 exact hq _ _ _ x
theorem wH{name:Str}{Q:Option Value->Shared->Prop}(hx:h.get? a=some { cls:=.type "enumerate",dict:=none,data:=.fields items,slots:=#[] })(hmiss:typeLookup (.type "enumerate") name=pure none)(hnc:(["__module__","__name__","__qualname__","__doc__","__annotations__"]:List Str).contains name=false)(hh:A.handled=none)
  (hq:∀ h' tk',(∀ b o,h.get? b=some o->h'.get? b=some o)->Q none ⟨h',g,d,tk',os⟩) (hsz:name.length+100<=sizeLine:=by size_fits) :
  wpAny (model prog w) A (getAttr? (.ref a) name) Q E ⟨h,g,d,t,os⟩:=by
 have f1:=sub_AttributeError;unfold getAttr? getAttrBy?;refine wpAny_bind (wpAny_mkText (wpAny_bind (wpAny_attempt (Ci hx hmiss hnc hh (fun h' tk' e x=>?_) hsz))));obtain⟨t',u',he⟩:=x.there;have k:=x.keeps
 repeat (any_goals (first | assumption | wp_step))
 exact hq _ _ x.keeps
end
end L2
namespace L2
open PySem PySem.Spec PyProof PyProof.Rows
open Builtin Builtin.Str
section
variable {prog:Program} {w:World} {K:Type} [DecidableEq K] {knd:KeyKind prog w K} {A:Around} {R:Result->Shared->Prop}
theorem xW{E:Value->Shared->Prop}{s:Shared}{e it:Addr}{fp:List Addr}{n:Nat}{P:Nat->Value->Prop}{St:Nat->Heap->Prop}{i:Int}{Q:Option Value->Shared->Prop}
  (D:Draws prog w A.in1 it fp n P St) (he:mO s.heap e it i) (hst:St n s.heap)
  (hQ:∀ h',Heap.ExtBut it s.heap h'->Q none { s with heap:=h' }):wpAny (model prog w) A (pyNext (.ref e)) Q E s:=by
 obtain⟨x0,fl,item,he,hx⟩:=he;have hT:s.TypeIs (.ref e) "enumerate":=⟨_,he,rfl⟩;unfold pyNext;refine wpAny_bind (wpAny_attempt (wpAny_callSpecial?_slot (name:=Str.ofString "__next__") hT PySem.F.slot_enumerate_next
  (wpAny_call_entry PySem.F.slot_enumerate_next hT PySem.F.entry_enumerate_next ?_ (PySem.F.args_enumerate_next_1 _))))
 show wpAny _ _ (field (.ref e) 2 >>= _) _ _ _;refine wpAny_bind (wpAny_field he rfl (x:=.ref it) rfl ?_);refine wpAny_bind (D.done _ _ _ hst fun h' x he' hx'=>?_);obtain⟨o,ho,hc⟩:=hx';refine wpAny_bind (wpAny_isInstance (T:="StopIteration") (b:=true) ⟨o,ho,hc⟩ isSubtype_stop ?_);exact wpAny_pure (hQ _ he')
theorem y6{it l e dd:Addr}{items:Array Value}{more:List (K×Value)}(hh:A.handled=none)(hn:more.length=items.size)(h1:dd≠it)(h2:dd≠l)(h3:l≠it)(h4:dd≠e)(h5:e≠it)(h6:e≠l)(hm:∀ (j:Nat) v,items[j]?=some v->∃ kk,more[j]?=some (kk,v)/\∀ tk,knd.is kk (.int j tk)=true)(hsz:more.length<=1000):
  ∀ (k i:Nat) (s:Shared),items.size - i=k->i<=items.size->mO s.heap e it i->s.heap.IsTupleIter it l i->s.heap.IsTuple l items->s.heap.DictOf knd dd (merged [] (more.take i)) ->
  (∀ h' tk,h'.DictOf knd dd (merged [] more)->(∀ b o,b≠it->b≠e->b≠dd->s.heap.get? b=some o->h'.get? b=some o)->R (.ok (.ret .none)) { s with heap:=h',toks:=tk }) ->
  codeAny (model prog w) A (.builtin "dict.update.loop" ⟨[.ref dd,.ref e,rawInt i,.none],[]⟩) R s:=by
 have D:=cM (prog:=prog) (w:=w) (A:=A.in1.in1) hh it l h3 items;intro k
 induction k with
 | zero =>
  intro i s hk hi hen hit hl hd hR;have hin:i=items.size:=by lia
  subst hin;refine codeAny_builtin eD ?_;rw[Around.under_plainId fb _];show wpAny _ A.in1 (pyNext (.ref e) >>= _) _ _ s;refine wpAny_bind (xW D hen ⟨hit,hl⟩ fun h' he=>?_);refine wpAny_bind (wpAny_pure (wpAny_pure ?_));refine hR h' s.toks ?_ fun b o b1 b2 b3 x=>he b o b1 x;rw[List.take_of_length_le (by lia)] at hd
  exact hd.extBut he h1
 | succ k ih =>
  intro i s hk hi hen hit hl hd hR;have hlt:i < items.size:=by lia
  refine codeAny_builtin eD ?_;rw[Around.under_plainId fb _];show wpAny _ A.in1 (pyNext (.ref e) >>= _) _ _ s;have hel:e < s.heap.objs.size:=by obtain⟨_,_,_,r,_⟩:=hen;exact Heap.lt_size r
  have hdl:dd < s.heap.objs.size:=by obtain⟨_,_,_,r,_⟩:=hd;exact Heap.lt_size r
  have hil:it < s.heap.objs.size:=by obtain⟨_,r,_⟩:=hit;exact Heap.lt_size r
  have hll:l < s.heap.objs.size:=by obtain⟨_,r,_⟩:=hl;exact Heap.lt_size r
  refine wpAny_bind (wB D hen ⟨hit,hl⟩ hlt h5 (by simp[h5,h6]) fun x h' tk hx hen' hst' ht hz hk'=>?_)
  obtain⟨kk,em,hkk⟩:=hm i x hx;have ht':h'.IsTuple s.heap.objs.size #[.int i tk,x]:=⟨_,ht,rfl,_,rfl⟩;have hd':h'.DictOf knd dd (merged [] (more.take i)):=by obtain⟨o,es,ep,ho,r⟩:=hd;exact⟨o,es,ep,hk' _ _ h4 h1 ho,r⟩
  refine wpAny_bind (wpAny_holding (wpAny_bind (wpAny_tryCatch ?_)));unfold Dict.pairItems;refine wpAny_bind (wpAny_typeOf ht'.typeIs ?_);rw[if_pos (by decide)]
  obtain⟨o,ho,hoc,nn,hod⟩:=id ht';refine wpAny_bind (wpAny_seqItems ho hod (wpAny_pure ?_));show wpAny _ A.in1 (holding [.int i tk,x] (dictSet dd (.int i tk) x)) _ _ _;refine wpAny_holding (wpAny_dictSet_pairs (hkk tk) hd' (fun h2' hd2 hs2=>?_) ?_)
  rotate_left
  ·exact Nat.le_trans (iz _ _) (Nat.le_trans (by rw[List.length_nil,Nat.zero_add,List.length_take];exact Nat.le_trans (Nat.min_le_right _ _) hsz) (by decide))
  have et:merged [] (more.take (i+1))=stored (merged [] (more.take i)) kk x:=by
   have hlt':i < more.length:=by lia
   have:more[i]=(kk,x):=by rw[List.getElem?_eq_getElem hlt'] at em;exact Option.some.inj em
   rw[List.take_succ_eq_append_getElem hlt',this];unfold merged;rw[List.foldl_append];rfl
  refine wpAny_pure ⟨plainId_quiet fb _,?_⟩;have up:∀ b u,b≠dd->h'.get? b=some u->h2'.get? b=some u:=fun b u hb q=>(hs2.2 _ hb).trans q;obtain⟨g1,g2⟩:=hst';exact ih (i+1) { s with heap:=h2',toks:=tk+1+1 } (by lia) hlt (hen'.keep fun u q=>up _ _ (Ne.symm h4) q) (by obtain⟨o,ho,r⟩:=g1;exact⟨o,up _ _ (Ne.symm h1) ho,r⟩) (by obtain⟨o,ho,r⟩:=g2;exact⟨o,up _ _ (Ne.symm h2) ho,r⟩) (by rw[et];exact hd2) fun h3' tk3 hd3 hk3=>hR h3' tk3 hd3 fun b u b1 b2 b3 q=>hk3 b u b1 b2 b3 (up _ _ b3 (hk' _ _ b2 b1 q))
theorem oy{E:Value->Shared->Prop}{s:Shared}{l e it:Addr}{items:Array Value}{more:List (K×Value)}{Q:Value->Shared->Prop}(hen:IsEnum s.heap e it 0 .none)(hit:s.heap.IsTupleIter it l 0)(hl:s.heap.IsTuple l items)(hh:A.handled=none)(hn:more.length=items.size)(hsz:more.length<=1000)(h3:l≠it)(h5:e≠it)(h6:e≠l)
  (hm:∀ (j:Nat) v,items[j]?=some v->∃ kk,more[j]?=some (kk,v)/\∀ tk,knd.is kk (.int j tk)=true)
  (h:∀ h' tk,h'.DictOf knd s.heap.objs.size (merged [] more)->(∀ b o,b≠it->b≠e->s.heap.get? b=some o->h'.get? b=some o)->Q (.ref s.heap.objs.size) { s with heap:=h',toks:=tk }) :
  wpAny (model prog w) A (call (.type "dict") [.ref e]) Q E s:=by
 refine callType_codes (Q₁:=fun obj s₁=>obj=.ref s.heap.objs.size/\s₁={ s with heap:=s.heap.push { cls:=.type "dict",data:=.dict #[] } }) F.kt_called_dict (F.kt_typeCall_dict_1 _) F.entry_dict_init (kt_code_dict_new _ ⟨rfl,rfl⟩) ?_
 rintro obj s₁ ⟨rfl,rfl⟩;have hnew:(s.heap.push { cls:=.type "dict",data:=.dict #[] }).DictOf knd s.heap.objs.size []:=Heap.DictOf.new s.heap;refine⟨hnew.typeIs,F.args_dict_init_2 _ _,?_⟩;unfold Builtin.«dict.__init__»;refine wpAny_bind ?_;unfold Builtin.Dict.selfAndRest;refine wpAny_bind (wpAny_notOrdered_dict hnew.typeIs ?_);show wpAny _ _ (pure (s.heap.objs.size,[Value.ref e])) _ _ _;refine wpAny_pure ?_;show wpAny _ _ (Builtin.Dict.updateFrom "dict.__init__" s.heap.objs.size (.ref e) [] .none) _ _ _;unfold Builtin.Dict.updateFrom;have he1:IsEnum (s.heap.push { cls:=.type "dict",data:=.dict #[] }) e it 0 .none:=Heap.get?_push_of_some _ hen;have hT:({ s with heap:=s.heap.push { cls:=.type "dict",data:=.dict #[] } }:Shared).TypeIs (.ref e) "enumerate":=⟨_,he1,rfl⟩
 refine wpAny_bind (wpAny_typeOf hT ?_);rw[if_pos (by decide)]
 refine wpAny_bind ?_;refine wH he1 wO (by decide +kernel) hh (fun h1 tk1 k1=>?_)
 rw[if_pos (show (none:Option Value).isNone=true from rfl)];have up:∀ b o,s.heap.get? b=some o->h1.get? b=some o:=fun b o q=>k1 b o (Heap.get?_push_of_some _ q);obtain⟨od,es,ep,hod,hor⟩:=hnew;have hel:e < s.heap.objs.size:=Heap.lt_size hen;have hil:it < s.heap.objs.size:=by obtain⟨_,r,_⟩:=hit;exact Heap.lt_size r
 have hll:l < s.heap.objs.size:=by obtain⟨_,r,_⟩:=hl;exact Heap.lt_size r
 refine wpAny_bind (wpAny_rule (wpAny_bind (wpAny_pyIter_enum (up _ _ hen) (wpAny_pure ⟨plainId_quiet fb _,?_⟩))));refine y6 (knd:=knd) (it:=it) (l:=l) (items:=items) (more:=more) (A:=A.in1) hh hn (Nat.ne_of_gt hil) (Nat.ne_of_gt hll) h3 (Nat.ne_of_gt hel) h5 h6 hm hsz _ 0 _ rfl (Nat.zero_le _) ⟨_,_,_,up _ _ hen,.inl rfl⟩ ?_ ?_ ⟨od,es,ep,k1 _ _ hod,hor⟩ (fun h2 tk2 hd2 hk2=>?_)
 ·obtain⟨o,ho,r⟩:=hit;exact⟨o,up _ _ ho,r⟩
 ·obtain⟨o,ho,r⟩:=hl;exact⟨o,up _ _ ho,r⟩
 ·exact⟨rfl,h h2 tk2 hd2 fun b o b1 b2 q=>hk2 b o b1 b2 (Nat.ne_of_lt (Heap.lt_size q)) (up _ _ q)⟩
end
def nG:List V->Nat->List (Key×V)
 | [],_=>[]
 | v::vs,i=>(.inl (i:Int),v)::nG vs (i+1)
theorem o_:∀ (vs:List V) (i:Nat),(nG vs i).length=vs.length
 | [],_=>rfl
 | v::vs,i=>congrArg (·+1) (o_ vs (i+1))
def oC:List Value->Nat->List (Key×Value)
 | [],_=>[]
 | v::vs,i=>(.inl (i:Int),v)::oC vs (i+1)
theorem iu:∀ (vs:List Value) (i:Nat),(oC vs i).length=vs.length
 | [],_=>rfl
 | v::vs,i=>congrArg (·+1) (iu vs (i+1))
theorem oP:∀ (vs:List Value) (i j:Nat) (v:Value),vs[j]?=some v->(oC vs i)[j]?=some (.inl ((i+j:Nat):Int),v)
 | [],_,_,_,h=>by simp at h
 | u::vs,i,0,v,h=>by simp at h;subst h;rfl
 | u::vs,i,j+1,v,h=>by
  have:=oP vs (i+1) j v (by simpa using h)
  rw[show i+1+j=i+(j+1) by lia] at this
  exact this
theorem sL:∀ {vs:List V} {us:List Value} (i:Nat),Vals vs us->KV (nG vs i) (oC us i)
 | _,_,_,.nil=>.nil
 | _,_,i,.cons h r=>.cons ⟨rfl,h⟩ (sL (i+1) r)
theorem mK:∀ (vs:List V) (i:Nat),((nG vs i).map (·.1)).Nodup/\∀ k∈(nG vs i).map (·.1),∃ j:Nat,i<=j/\k=.inl (j:Int)
 | [],_=>⟨List.nodup_nil,fun k h=>by simp[nG] at h⟩
 | v::vs,i=>by
  obtain⟨h1,h2⟩:=mK vs (i+1);refine⟨List.nodup_cons.mpr ⟨fun hm=>?_,h1⟩,fun k hk=>?_⟩
  ·obtain⟨j,hj,e⟩:=h2 _ hm;have:=Sum.inl.inj e;lia
  ·rcases List.mem_cons.mp hk with rfl | hk
   ·exact⟨i,Nat.le_refl _,rfl⟩
   ·obtain⟨j,hj,e⟩:=h2 k hk;exact⟨j,by lia,e⟩
def ij(K:PySem.W.Frag)(ta:TA):TE:=fun σ H Q=>ta σ H fun xs H1=>∃ a vs,xs=[.ref a]/\bu K H1 a vs/\vs.length<=1000/\∀ p,H1 p=none->Q (.ref p) (upd H1 p (.dK (nG vs 0)))
theorem wa{X:Cx}{e:Expr}{ta:TA}{p p2 pos pos2:Pos}(hc:X.calm=true)(hg:Gl X "enumerate")(hm:X.mg "enumerate"=none)(hgd:Gl X "dict")(hmd:X.mg "dict"=none)(ha:PA X [e] ta)(h1:bX e=true):PE X (.Call (.Name "dict" p) [.Call (.Name "enumerate" p2) [e] [] pos2] [] pos) (ij X.K ta):=by
 intro pins s σ H Q I h;refine Call_ (dc I hgd hmd (u:=.type "dict") (by decide +kernel) (PyProof.Rows.callWith_type1 ?_ rfl rfl))
 refine Calls.spliced_cons (Call_ (dc I hg hm (u:=.type "enumerate") (by decide +kernel) (PyProof.Rows.callWith_type1 (bw (ha pos2 pins s σ H _ I h) fun us s1 ⟨vs,H1,I1,r1,q1⟩=>?_) (bN h1) rfl)))
 obtain⟨a,vs,rfl,hq,hlen,q⟩:=q1;obtain⟨u,rfl,ru⟩:=vals1 r1;cases ru;obtain⟨its,rv,pt,hz⟩:=I1.tuple hq;have hpt:s1.heap.IsTuple a its.toArray:=pt;have hal:a < s1.heap.objs.size:=by obtain⟨_,r,_⟩:=hpt;exact Heap.lt_size r
 refine eG hpt fun h' he hit hsz hk=>Calls.spliced_nil ?_;have I2:Inv X pins σ H1 { s1 with heap:=h' }:=I1.kept (t':=s1.toks) hk
 have hit1:its.length=vs.length:=(Paired.length rv).symm;refine oy (knd:=aZ X.prog X.w) (s:={ s1 with heap:=h' }) (more:=oC its 0) he hit (by obtain⟨o,ho,r⟩:=hpt;exact⟨o,hk _ _ ho,r⟩) (I.ok.hd hc) (by rw[iu,List.size_toArray]) (by rw[iu,hit1];exact hlen) (Nat.ne_of_lt hal) (Nat.ne_of_gt (Nat.lt_succ_self _)) (Nat.ne_of_gt (Nat.lt_succ_of_lt hal)) (fun j v hv=>⟨.inl (j:Int),by rw[List.getElem?_toArray] at hv;have:=oP its 0 j v hv;rw[Nat.zero_add] at this;exact this,fun tk=>gr _ _ _ _⟩) fun h2 tk hd hk2=>?_
 have hfp:∀ b∈[s1.heap.objs.size+1,s1.heap.objs.size],gY X pins H1 b:=fun b hb=>by
  have hb':s1.heap.objs.size<=b:=by
   rcases List.mem_cons.mp hb with z | z
   ·rw[z];exact Nat.le_succ _
   ·rw[List.mem_singleton.mp z];exact Nat.le_refl _
  exact I1.lV hb' (I1.aE.fresh hb')
 have em:merged [] (oC its 0)=merged [] (oC its 0):=rfl;have hlen2:(dC [] (nG vs 0)).length<=sizeLine:=by
  have h1:=eK (nG vs 0) [];rw[List.length_nil,o_] at h1;exact Nat.le_trans (show _<=1000 by lia) (by decide)
 have emk:dC [] (nG vs 0)=nG vs 0:=by
  rw[Y.ji _ [] (by rw[List.nil_append];exact (mK vs 0).1),List.nil_append]
 have new:aK X.prog X.w (upd H1 h'.objs.size (.dK (dC [] (nG vs 0)))) h2 h'.objs.size (.dK (dC [] (nG vs 0))):=n5 hlen2 (beq_eq_false_iff_ne.mpr (Ne.symm (Nat.ne_of_lt I2.big))) ((sL 0 rv).merge .nil) hd;have J:=I2.gO (t':=tk) (h':=h2) hfp (Nat.le_refl _) (fun b o hb x=>hk2 b o (fun z=>hb (by simp[z])) (fun z=>hb (by simp[z])) x) new
 rw[emk] at J;exact⟨.ref h'.objs.size,_,J,rfl,q _ (I2.aE.fresh (Nat.le_refl _))⟩
theorem Z.CK{X:Cx}{e:Expr}{ta:TA}{p p2 pos pos2:Pos}(K:PySem.W.Frag)(hK:X.K=K)(hc:X.calm=true)(hg:Gl X "enumerate")(hm:X.mg "enumerate"=none)(hgd:Gl X "dict")(hmd:X.mg "dict"=none)(ha:QA X [e] ta)(h1:bX e=true:=by rfl):QE X (.Call (.Name "dict" p) [.Call (.Name "enumerate" p2) [e] [] pos2] [] pos) (ij K ta):=by subst hK;exact⟨wa hc hg hm hgd hmd ha.h h1⟩
theorem Ap.ij(K:PySem.W.Frag)(ta:TA)(σ:St)(H:Hp)(Q:VK):L2.ij K ta σ H Q=ta σ H fun xs H1=>∃ a vs,xs=[.ref a]/\bu K H1 a vs/\vs.length<=1000/\∀ p,H1 p=none->Q (.ref p) (upd H1 p (.dK (nG vs 0))):=rfl
end L2
namespace L2
open PySem PySem.Spec PyProof PyProof.Rows
section
variable {prog:Program} {w:World} {A:Around} {E:Value->Shared->Prop} {s:Shared}
theorem qE{T newId initId:String}{Bn Bi:Builtin}{args:List Value}{kw:List (Str×Value)}{S:PySem.Spec}{Q Q₁:Value->Shared->Prop}(ft:TypeCalled T newId initId)
  (hct:checkTypeCall T ⟨args,kw⟩=pure ()) (hcn:checkBuiltinCall newId ⟨.type T::args,kw⟩=pure ())
  (entryN:entryFor table newId=some Bn) (entryI:entryFor table initId=some Bi) (g:Meets (Bn ⟨.type T::args,kw⟩) S)
  (h:S A.in1 (wants Q₁ E) s)
  (hnext:∀ obj s₁,Q₁ obj s₁->s₁.TypeIs obj T/\argsOk initId ⟨obj::args,kw⟩/\∃ Si,Meets (Bi ⟨obj::args,kw⟩) Si/\Si A.in1 (wants (fun r s₂=>r=.none/\Q obj s₂) E) s₁) :
  wpAny (model prog w) A (call (.type T) args kw) Q E s:=by
 obtain⟨c,tl,hmro⟩:=ft.mro;have hmade:=ft.made;have hsub:=ft.sub;refine wpAny_call (codeAny_of_tree ?_);show wpAny _ _ (callAny (.type T) _) _ _ _;refine wpAny_pure ⟨Code.quiet_builtin _ (by decide +kernel),codeAny_builtin PySem.F.entry_type_call ?_⟩
 rw[Around.under_plain (weight_type_call_type T args kw) (units_type_call_type T args kw)];have h1:=ft.notType;have h2:=ft.canCreate
 repeat (any_goals (first | assumption | wp_step))
 refine codeAny_mono (codeAny_call_builtin ft.plain entryN (wpAny_of_eq hcn (g prog w A.in1 _ s h))) fun r s₁ hr=>?_
 cases r with
 | error e=>exact hr
 | ok fl =>
  cases fl with
  | ret obj =>
   obtain⟨hT,aE,Si,gi,hsi⟩:=hnext _ _ hr;have hli:=ft.init.lookup;have hbi:=ft.init.bind obj
   repeat (any_goals (first | assumption | wp_step))
   refine codeAny_mono (codeAny_call_builtin ft.init.plain entryI (ft.init.check _ _ _ _ _ _ _ _ hT aE (gi prog w A.in1 _ s₁ hsi))) fun r₂ s₂ hr₂=>?_
   cases r₂ with
   | error e=>exact hr₂
   | ok fl₂ =>
    cases fl₂ with
    | ret r =>
     obtain⟨rfl,hq⟩:=hr₂
     repeat (any_goals (first | assumption | wp_step))
    | _=>exact hr₂.elim
  | _=>exact hr.elim
theorem j_{T newId:String}{self a:Value}{rest:List Value}{kw:List (Str×Value)}(hl:typeLookup (.type T) "__init__"=pure (some (.builtin "object.__init__")))
  (hm:Bind.madeBy (.type T)=pure (some newId)) (hne:(some newId != some "object.__new__")=true) :
  Meets (Builtin.«object.__init__» ⟨self::a::rest,kw⟩) (fun _ R s=>s.TypeIs self T/\R (.ok (.ret .none)) s):=by
 refine Meets.of_wp fun prog w A R s hs=>?_;obtain⟨hT,hq⟩:=hs
 repeat (any_goals (first | assumption | wp_step))
 exact⟨_,rfl,hq⟩
theorem fT(l:Addr)(items:Array Value)(n:Nat)(dct:Option Addr)(sl:Array (Option Value))(i:Int)(t:Tok)(hi:Builtin.SmallTypes.fitsIndex i=true):
  Meets (Builtin.«enumerate.__new__» ⟨[.type "enumerate",.ref l],[(Str.ofString "start",.int i t)]⟩) (fun _ R s=>s.heap.get? l=some { cls:=.type "tuple",dict:=dct,data:=.seq items n,slots:=sl } /\
   R (.ok (.ret (.ref (s.heap.push { cls:=.type "tuple_iterator",data:=.fields #[.ref l,.int 0 0] }).objs.size)))
    { s with heap:=(s.heap.push { cls:=.type "tuple_iterator",data:=.fields #[.ref l,.int 0 0] }).push { cls:=.type "enumerate",data:=.fields #[.none,.bool false,.ref s.heap.objs.size,rawInt i,.none,.none] } }):=
 .of_wp fun prog w A R s h=>by
  obtain⟨hp,g,d,tk,os⟩:=s;obtain⟨hl,h⟩:=h;have hsub:=sub_enumerate;have hL:Heap.IsTuple (Shared.heap ⟨hp,g,d,tk,os⟩) l items:=⟨_,hl,rfl,n,rfl⟩;wp_walk using wpAny_loadPart' hl;refine wpAny_stack_any fun st=>wpAny_pure ?_;split
  ·rename_i c _ _ _ _ _
   cases (c == Value.type "enumerate")<;>(wp_walk using wpAny_loadPart' hl,hi,wpAny_pyIter_tuple hL;exact⟨_,rfl,h⟩)
  ·wp_walk using wpAny_loadPart' hl,hi,wpAny_pyIter_tuple hL;exact⟨_,rfl,h⟩
theorem G3(a v:Value):checkTypeCall "enumerate" ⟨[a],[(Str.ofString "start",v)]⟩=pure ():=by kernel_rfl
theorem GA(a v:Value):checkBuiltinCall "enumerate.__new__" ⟨[.type "enumerate",a],[(Str.ofString "start",v)]⟩=pure ():=by kernel_rfl
theorem gG{l:Addr}{items:Array Value}{i:Int}{t:Tok}{Q:Value->Shared->Prop}(hL:s.heap.IsTuple l items)(hi:Builtin.SmallTypes.fitsIndex i=true)(aE:∀ obj,argsOk "object.__init__" ⟨obj::[Value.ref l],[(Str.ofString "start",.int i t)]⟩)
  (h:∀ h',IsEnum h' (s.heap.objs.size+1) s.heap.objs.size i .none->h'.IsTupleIter s.heap.objs.size l 0->h'.objs.size=s.heap.objs.size+2 ->
   (∀ b o,s.heap.get? b=some o->h'.get? b=some o)->Q (.ref (s.heap.objs.size+1)) { s with heap:=h' }) :
  wpAny (model prog w) A (call (.type "enumerate") [.ref l] [(Str.ofString "start",.int i t)]) Q E s:=by
 obtain⟨⟨c,dct,dt,sl⟩,hl,hc,n,hd⟩:=hL
 replace hc:c=.type "tuple":=hc
 replace hd:dt=.seq items n:=hd
 subst hc hd;refine qE (Q₁:=fun obj s₁=>s₁.TypeIs obj "enumerate"/\Q obj s₁) F.called_enumerate (G3 _ _) (GA _ _) F.entry_enumerate_new F.entry_object_init (fT l items n dct sl i t hi) ⟨hl,?_⟩ fun obj _ hq=>⟨hq.1,aE obj,_,j_ F.called_enumerate.init.lookup F.called_enumerate.made (by decide),hq.1,rfl,hq.2⟩
 have hz:(s.heap.push { cls:=.type "tuple_iterator",data:=.fields #[.ref l,.int 0 0] }).objs.size=s.heap.objs.size+1:=Heap.size_push ..;show _/\_;rw[hz];have he:IsEnum ((s.heap.push { cls:=.type "tuple_iterator",data:=.fields #[.ref l,.int 0 0] }).push { cls:=.type "enumerate",data:=.fields #[.none,.bool false,.ref s.heap.objs.size,rawInt i,.none,.none] }) (s.heap.objs.size+1) s.heap.objs.size i .none:=by
  have:=Heap.get?_push_size (s.heap.push { cls:=.type "tuple_iterator",data:=.fields #[.ref l,.int 0 0] }) (o:={ cls:=.type "enumerate",data:=.fields #[.none,.bool false,.ref s.heap.objs.size,rawInt i,.none,.none] }) rfl;rw[hz] at this;exact this
 refine⟨⟨_,he,rfl⟩,h _ he ⟨_,Heap.get?_push_of_some _ (Heap.get?_push_size _ rfl),rfl,rfl⟩ (by rw[Heap.size_push,hz]) fun b o x=>Heap.get?_push_of_some _ (Heap.get?_push_of_some _ x)⟩
end
theorem lh{prog:Program}{w:World}{A:Around}{it:Addr}{fp:List Addr}{n:Nat}{P:Nat->Value->Prop}{St:Nat->Heap->Prop}(m:Nat)(D:Draws prog w A it fp n P St):Draws prog w A it fp (m+n) (fun i v=>∃ j,i=m+j/\P j v) (fun i h=>∃ j,i=m+j/\St j h) where
 live:=fun _ _ ⟨j,_,st⟩=>D.live j _ st
 frame:=fun _ _ _ ⟨j,e,st⟩ hk=>⟨j,e,D.frame _ _ _ st hk⟩
 item:=fun i s Q E hi ⟨j,e,st⟩ hQ=>by
  subst e;exact D.item j s Q E (by lia) st fun v h' tk hv st' hs=>hQ v h' tk ⟨j,rfl,hv⟩ ⟨j+1,by lia,st'⟩ hs
 done:=fun s Q E ⟨j,e,st⟩ hE=>by
  have:j=n:=by lia
  subst this;exact D.done s Q E st hE
def x3(K:PySem.W.Frag)(a:Addr)(m:Nat):It:=
 ⟨fun i H=>∃ x,Eo K a i H x,fun i H x H'=>∃ p y,(∀ xs,bu K H a xs->xs[i]?=some y)/\H p=none/\x=.ref p/\H'=upd H p (.tup [.int ((m+i:Nat):Int),y]),Cz K a⟩
theorem oz{P:Program}{w:World}{K:PySem.W.Frag}{es:List Expr}{tk:Nat}{tp:Pos}(a it e:Addr)(m:Nat)(hne:e≠it):Turn P w K (.Tuple es tk tp) (x3 K a m) [e,it] e (fun i h=>(∃ old,IsEnum h e it ((m+i:Nat):Int) old)/\h.IsTupleIter it a i) where
 mem:=by simp
 obj:=fun i h st b hb=>by
  obtain⟨⟨old,he⟩,o,eo,c,d⟩:=st;rcases List.mem_cons.mp hb with z | z
  ·subst z;exact⟨_,he,fun v z=>by cases z⟩
  ·have z:b=it:=by simpa using z
   subst z;exact⟨o,eo,fun v z=>by rw[d] at z;cases z⟩
 keep:=fun i h h' st k=>by
  obtain⟨⟨old,he⟩,o,eo,r⟩:=st;exact⟨⟨old,k e (by simp) _ he⟩,o,k it (by simp) o eo,r⟩
 item:=by
  intro X hP hw hK hc i pins s σ H E I hf st hg;subst hP hw hK;obtain⟨x,xs,hq,hx⟩:=hg;obtain⟨⟨old,he⟩,hit⟩:=st;obtain⟨its,rv,p,hz⟩:=I.tuple hq;obtain⟨u,hu,ru⟩:=rv.get hx;obtain⟨g0,g1,g2,g3,g4,g5⟩:=hf e (by simp)
  obtain⟨f0,f1,f2,f3,f4,f5⟩:=hf it (by simp)
  have ht:s.heap.IsTuple a its.toArray:=p;have ha:a≠it:=by
   rintro rfl;obtain⟨o,e1,c1,_⟩:=hit;obtain⟨o',e2,c2,_⟩:=ht;rw[e1] at e2;cases e2;rw[c1] at c2;exact absurd (Value.type.inj c2) (by decide)
  have hea:e≠a:=by
   rintro rfl;obtain⟨o',e2,c2,_⟩:=ht;have e1:s.heap.get? e=some _:=he;rw[e1] at e2;cases e2;exact absurd (Value.type.inj c2) (by decide)
  have hi:i < its.toArray.size:=by
   have:=(List.getElem?_eq_some_iff.mp hu).1
   simpa using this
  refine wpAny_pyNext_enum_itemD (lh m (cM (A:=X.A.in1) (I.ok.hd hc) it a ha its.toArray)) he ⟨i,rfl,hit,ht⟩ (by lia) hne (by simp[hne,hea]) fun x' h' tk' hP ho hs' hT hsz hk=>?_
  have ex:x'=u:=by
   obtain⟨j,ej,hP'⟩:=hP;have ej':j=i:=by lia
   subst ej';rw[List.getElem?_toArray,hu] at hP';exact (Option.some.inj hP').symm
  subst ex;refine⟨.ref s.heap.objs.size,rfl,wpAny_letOwnedTupleGo_enum ho fun h2 he2 hs2=>?_⟩;have fr:H s.heap.objs.size=none:=I.aE.fresh (Nat.le_refl _);have hle:e≠s.heap.objs.size:=Nat.ne_of_lt (Heap.lt_size he);have hT2:h2.get? s.heap.objs.size=some { cls:=.type "tuple",data:=.seq #[.int ((m+i:Nat):Int) tk',x'] }:=(hs2.2 _ (Ne.symm hle)).trans hT;have I2:Inv X pins σ (upd H s.heap.objs.size (.tup [.int ((m+i:Nat):Int),x])) { s with heap:=h2,toks:=tk'+1 }:=by
   refine I.gO (fp:=[e,it]) hf (Nat.le_refl _) (fun b o hb eb=>?_) ⟨by show 2<=sizeLine;decide,[.int ((m+i:Nat):Int) tk',x'],.cons ⟨_,rfl⟩ (.cons ru .nil),⟨_,hT2,rfl,_,rfl,rfl⟩⟩
   have n1:b≠e:=fun z=>hb (by simp[z])
   have n2:b≠it:=fun z=>hb (by simp[z])
   exact (hs2.2 b n1).trans (hk b o n1 n2 eb)
  refine⟨.ref s.heap.objs.size,_,I2,rfl,⟨s.heap.objs.size,x,fun ys hy=>by rw[I.e7 hy hq];exact hx,fr,rfl,rfl⟩,⟨⟨x',?_⟩,?_⟩,fun b hb=>?_⟩
  ·have e:(((m+(i+1):Nat)):Int)=((m+i:Nat):Int)+1:=by lia
   rw[e];exact he2
  ·obtain⟨j,ej,hs1,hs2'⟩:=hs';have ej':j=i+1:=by lia
   subst ej';obtain⟨o,e1,r⟩:=hs1;exact⟨o,(hs2.2 it (Ne.symm hne)).trans e1,r⟩
  ·have n:b≠s.heap.objs.size:=by
    rcases List.mem_cons.mp hb with z | z
    ·subst z;exact hle
    ·have z:b=it:=by simpa using z
     subst z;obtain⟨o,e1,_⟩:=hit;exact Nat.ne_of_lt (Heap.lt_size e1)
   rw[ae n];exact (hf b hb).1
 done:=by
  intro X hP hw hK hc i pins s σ H E I hf st hg;subst hP hw hK;obtain⟨xs,hq,hx⟩:=hg;obtain⟨⟨old,he⟩,hit⟩:=st;obtain⟨its,rv,p,hz⟩:=I.tuple hq;have ht:s.heap.IsTuple a its.toArray:=p;have ha:a≠it:=by
   rintro rfl;obtain⟨o,e1,c1,_⟩:=hit;obtain⟨o',e2,c2,_⟩:=ht;rw[e1] at e2;cases e2;rw[c1] at c2;exact absurd (Value.type.inj c2) (by decide)
  have hl:=rv.length;have hsz:its.toArray.size=i:=by simp;lia
  refine wpAny_pyNext_enum_endD (lh m (cM (A:=X.A.in1) (I.ok.hd hc) it a ha its.toArray)) he ⟨i,by rw[hsz],hit,ht⟩ fun h' eb=>⟨rfl,?_⟩
  exact I.turns (t':=s.toks) hf fun b o hb e1=>eb b o (fun z=>hb (by simp[z])) e1
 self:=fun A i s Q E st h=>by
  obtain⟨⟨old,he⟩,_⟩:=st;exact wpAny_pyIter_enum he h
theorem G9(a b v:Value):argsOk "object.__init__" ⟨[a,b],[(Str.ofString "start",v)]⟩:=by
 unfold argsOk;rw[signature?_of (id:="object.__init__") (n:=['_','_','t','i','n','i','_','_']) (o:=['t','c','e','j','b','o']) (by kernel_rfl) PySem.F.owner_object];kernel_rfl
theorem qD{M:Model}{A:Around}{E:Value->Shared->Prop}{s:Shared}{env:Env}{pos:Pos}{T:String}{e:Expr}{kws:List Keyword}{Q:Value->Shared->Prop}
  (h:wpAny M A (spliced (backTo pos (starEach [e] env))) (fun vs s₁=>wpAny M A (evalAll ((backToKw pos (keywordEach kws env)).map (·.2)))
   (fun kvs s₂=>wpAny M A (call (.type T) vs (((backToKw pos (keywordEach kws env)).filterMap (·.1)).zip kvs)) Q E s₂) E s₁) E s)
  (he:starEach [e] env=[(false,eval e env)])
  (hall:(backToKw pos (keywordEach kws env)).all (·.1.isSome)=true)
  (hkw:(backToKw pos (keywordEach kws env)).any (·.1.isNone)=false) :
  wpAny M A (callWith pos (.type T) [] (backTo pos (starEach [e] env)) (backToKw pos (keywordEach kws env))) Q E s:=by
 have hplain:(backTo pos (starEach [e] env)).any (·.1)=false:=by rw[he];rfl
 have he':backTo pos (starEach [e] env)=(false,eval e env)::backTo pos (starEach [] env):=by rw[he];rfl
 unfold callWith;refine wpAny_bind (wpAny_holding (wpAny_mono (Q:=fun a s₁=>wpAny M A (call (.type T) ([]++a.pos) a.kw) Q E s₁) ?_ (fun a s₁ h₁=>wpAny_bind (wpAny_standAt ?_)) fun _ _ x=>x))
 ·rw[he'] at h ⊢;exact PyProof.Rows.evalArgs_kwB hall h
 simp only[hplain,hkw,Bool.or_false];refine wpAny_bind (wpAny_pure ?_);exact wpAny_bind (wpAny_mono h₁ (fun r s₂ hr=>wpAny_bind (wpAny_holding (wpAny_point (wpAny_pure hr)))) fun _ _ x=>x)
def iK(K:PySem.W.Frag)(ta tk:TA):TI:=fun σ H R=>ta σ H fun vs H1=>tk σ H1 fun ws H2=>∃ a m,vs=[.ref a]/\ws=[.int (m:Nat)]/\m<=1000/\(∃ xs,bu K H2 a xs)/\R (x3 K a m) H2
theorem vi{X:Cx}{es:List Expr}{k:Nat}{tp:Pos}{e v:Expr}{ta:TA}{te:TE}{p pos kpos:Pos}(hg:Gl X "enumerate")(hm:X.mg "enumerate"=none)(ha:PA X [e] ta)(hv:PE X v te)(h1:bX e=true):
  PI X (.Tuple es k tp) (.Call (.Name "enumerate" p) [e] [⟨some "start",v,kpos⟩] pos) (iK X.K ta (dX te iQ)):=by
 intro pins s σ H R I h;refine wpAny_Call_Name_kw (dc I hg hm (u:=.type "enumerate") (by decide +kernel) ?_ (by decide) (by decide))
 have hk:PK X [⟨some "start",v,kpos⟩] (dX te iQ):=pJ hv u0;refine qD ?_ (bN h1) rfl rfl;refine bw (ha pos pins s σ H _ I h) fun us s1 ⟨vs,H1,I1,r1,q1⟩=>?_;refine bw (hk pos pins s1 σ H1 _ I1 q1) fun ws s2 ⟨zs,H2,I2,rz,a,m,ev,ez,hm1,⟨xs,hq⟩,q⟩=>?_;subst ev ez;obtain⟨u,rfl,ru⟩:=vals1 r1;cases ru;obtain⟨wv,rfl,rw1⟩:=vals1 rz;obtain⟨t,rfl⟩:=rw1;obtain⟨its,rv,pt,hz⟩:=I2.tuple hq;refine gG (show s2.heap.IsTuple a its.toArray from pt) (by unfold Builtin.SmallTypes.fitsIndex;simp;lia) (fun obj=>G9 _ _ _) fun h' he hit hsz hk=>?_
 refine wpAny_pyIter_enum he ?_;have I3:Inv X pins σ H2 { s2 with heap:=h' }:=I2.kept (t':=s2.toks) hk
 refine⟨s2.heap.objs.size+1,[s2.heap.objs.size+1,s2.heap.objs.size],_,_,H2,rfl,I3,oz a s2.heap.objs.size (s2.heap.objs.size+1) m (Nat.ne_of_gt (Nat.lt_succ_self _)),⟨⟨_,by rw[Nat.add_zero];exact he⟩,hit⟩,fun b hb=>?_,q⟩
 have hb':s2.heap.objs.size<=b:=by
  rcases List.mem_cons.mp hb with z | z
  ·rw[z];exact Nat.le_succ _
  ·have z:b=s2.heap.objs.size:=by simpa using z
   rw[z];exact Nat.le_refl _
 exact I2.lV hb' (I2.aE.fresh hb')
theorem Z.Dg{X:Cx}{es:List Expr}{k:Nat}{tp:Pos}{e v:Expr}{ta:TA}{te:TE}{p pos kpos:Pos}(K:PySem.W.Frag)(hK:X.K=K)(hg:Gl X "enumerate")(hm:X.mg "enumerate"=none)(ha:QA X [e] ta)(hv:QE X v te)(h1:bX e=true:=by rfl):QI X (.Tuple es k tp) (.Call (.Name "enumerate" p) [e] [⟨some "start",v,kpos⟩] pos) (iK K ta (dX te iQ)):=by subst hK;exact⟨vi hg hm ha.h hv.h h1⟩
theorem Ap.iK(K:PySem.W.Frag)(ta tk:TA)(σ:St)(H:Hp)(R:It->Hp->Prop):L2.iK K ta tk σ H R=ta σ H fun vs H1=>tk σ H1 fun ws H2=>∃ a m,vs=[.ref a]/\ws=[.int (m:Nat)]/\m<=1000/\(∃ xs,bu K H2 a xs)/\R (x3 K a m) H2:=rfl
theorem oB{K:PySem.W.Frag}{g:TG}{tb:TS}{D:Ends}{σ:St}{H:Hp}{a:Addr}{m:Nat}{xs:List V}(Pv:Nat->St->Hp->Prop)(h0:Pv 0 σ H)(hl:∀ i σ H,i<=xs.length->Pv i σ H->bu K H a xs)
  (hs:∀ i x σ H p,xs[i]?=some x->Pv i σ H->H p=none->g (.ref p) σ (upd H p (.tup [.int ((m+i:Nat):Int),x])) fun σ2 H2=>tb { D with nx:=Pv (i+1),ct:=Pv (i+1),bk:=D.nx } σ2 H2) (hd:∀ σ H,Pv xs.length σ H->D.nx σ H) :
  Ef (x3 K a m) g tb D σ H:=by
 refine⟨fun i m σ H=>m=xs.length - i/\i<=xs.length/\Pv i σ H,⟨xs.length,by simp,Nat.zero_le _,h0⟩,?_⟩
 rintro i m σ H ⟨rfl,hi,p⟩;have q:=hl i σ H hi p;by_cases hlt:i < xs.length
 ·refine .inr ⟨⟨xs[i],xs,q,by simp[hlt]⟩,Pv (i+1),fun σ' H' p'=>⟨xs.length - (i+1),by lia,rfl,hlt,p'⟩,fun x H' y=>?_⟩
  obtain⟨b,y,hy,fr,rfl,rfl⟩:=y;exact hs i y σ H b (hy xs q) p fr
 ·have e:i=xs.length:=by lia
  subst e;exact .inl ⟨⟨xs,q,rfl⟩,hd σ H p⟩
theorem Z.zy{X:Cx}{o e:Expr}{td ty:TE}{apos cpos:Pos}(ho:QE X o td)(he:QE X e ty)(h:bX e=true:=by rfl)(hb:attributeBase o "pop" X.env (eval o X.env)=eval o X.env:=by rfl)(hl:(apos.endLine == cpos.line)=true:=by rfl):QE X (.Call (.Attribute o "pop" apos) [e] [] cpos) (i7 td ty):=
 ⟨ud ho.h he.h ⟨hb,vW (by simp[h]) (show 1 < 30 by decide),hl,by rw[bN h];rfl⟩⟩
theorem Ap.i7(td ty:TE)(σ:St)(H:Hp)(Q:VK):L2.i7 td ty σ H Q=td σ H fun x H1=>∃ a,x=.ref a/\Fd H1 a/\ty σ H1 fun y H2=>∃ kvs k v,H2 a=some (.dK kvs)/\y=kV k/\cq kvs k=some v/\Q v (upd H2 a (.dK (gm kvs k))):=rfl
end L2
namespace G
open PySem L2 PySem.Spec PyProof.Rows
def top(i:Nat):Stmt:=PySem.Challenge.pw_shortrows_k15_whole_none_less.main.body.getD i (.Pass ⟨0,0,0,0⟩)
noncomputable abbrev cc:Stmt:=top 4
theorem bJ:av ["lengths","free","depth","left","length"] ["lengths"] (aa cc):=⟨rfl,rfl,rfl,by decide +kernel,rfl,by decide +kernel,by decide +kernel⟩
noncomputable abbrev bE:Stmt:=top 5
theorem o7:av ["counts","lengths"] ["counts","lengths"] (aa bE):=⟨rfl,rfl,rfl,by decide +kernel,rfl,by decide +kernel,by decide +kernel⟩
noncomputable abbrev au:Stmt:=top 6
theorem cp:av ["counts","bound","things","chosen"] ["counts","bound"] (aa au):=⟨rfl,rfl,rfl,by decide +kernel,rfl,by decide +kernel,by decide +kernel⟩
noncomputable abbrev ax:Stmt:=top 7
theorem aJ:av ["counts","bound","coins","shelf","depth","chosen","item"] ["counts","bound"] (aa ax):=⟨rfl,rfl,rfl,by decide +kernel,rfl,by decide +kernel,by decide +kernel⟩
noncomputable abbrev b7:Stmt:=top 8
theorem mM:av ["shelf"] ["shelf"] (aa b7):=⟨rfl,rfl,rfl,by decide +kernel,rfl,by decide +kernel,by decide +kernel⟩
noncomputable abbrev bp:Stmt:=top 9
theorem mQ:av ["shelf"] ["shelf"] (aa bp):=⟨rfl,rfl,rfl,by decide +kernel,rfl,by decide +kernel,by decide +kernel⟩
noncomputable abbrev b9:Stmt:=top 11
theorem lA:av ["counts"] ["counts"] (aa b9):=⟨rfl,rfl,rfl,by decide +kernel,rfl,by decide +kernel,by decide +kernel⟩
noncomputable abbrev aw:Stmt:=top 12
theorem aG:av ["counts","paper","standing","one","other","both"] ["counts"] (aa aw):=⟨rfl,rfl,rfl,by decide +kernel,rfl,by decide +kernel,by decide +kernel⟩
noncomputable abbrev bo:Stmt:=top 13
theorem kF:av ["standing"] ["standing"] (aa bo):=⟨rfl,rfl,rfl,by decide +kernel,rfl,by decide +kernel,by decide +kernel⟩
noncomputable abbrev aO:Stmt:=top 14
theorem dJ:av ["counts","lengths","paper","weight"] ["counts","lengths","paper"] (aa aO):=⟨rfl,rfl,rfl,by decide +kernel,rfl,by decide +kernel,by decide +kernel⟩
noncomputable abbrev ao:Stmt:=top 15
theorem ay:av ["counts","paper","standing","weight","number","pair"] ["counts","paper"] (aa ao):=⟨rfl,rfl,rfl,by decide +kernel,rfl,by decide +kernel,by decide +kernel⟩
noncomputable abbrev aP:Stmt:=top 16
theorem eI:av ["standing","one","other","heavier"] ["standing","one","other"] (aa aP):=⟨rfl,rfl,rfl,by decide +kernel,rfl,by decide +kernel,by decide +kernel⟩
noncomputable abbrev bg:Stmt:=top 18
theorem e_:av ["cell","number"] ["cell"] (aa bg):=⟨rfl,rfl,rfl,by decide +kernel,rfl,by decide +kernel,by decide +kernel⟩
noncomputable abbrev bf:Stmt:=top 19
theorem cK:av ["seed","most","found","number"] ["seed","most"] (aa bf):=⟨rfl,rfl,rfl,by decide +kernel,rfl,by decide +kernel,by decide +kernel⟩
noncomputable abbrev aW:Stmt:=top 20
theorem iU:av ["script","many"] ["script","many"] (aa aW):=⟨rfl,rfl,rfl,by decide +kernel,rfl,by decide +kernel,by decide +kernel⟩
noncomputable abbrev aF:Stmt:=top 23
theorem aH:av ["seed","many","way","found","k","number","start"] ["seed","many"] (aa aF):=⟨rfl,rfl,rfl,by decide +kernel,rfl,by decide +kernel,by decide +kernel⟩
noncomputable abbrev bj:Stmt:=top 25
theorem bZ:av ["counts","lengths","total","count","length"] ["counts","lengths"] (aa bj):=⟨rfl,rfl,rfl,by decide +kernel,rfl,by decide +kernel,by decide +kernel⟩
noncomputable abbrev aM:Stmt:=top 27
theorem b6:av ["seed","many","found","k","at","start"] ["seed","many"] (aa aM):=⟨rfl,rfl,rfl,by decide +kernel,rfl,by decide +kernel,by decide +kernel⟩
noncomputable abbrev aN:Stmt:=top 28
theorem bz:av ["seed","told","found","turn","some","one","other"] ["seed","told"] (aa aN):=⟨rfl,rfl,rfl,by decide +kernel,rfl,by decide +kernel,by decide +kernel⟩
noncomputable abbrev eJ:Stmt:=top 29
theorem dD:av ["script","cell","seed","counts","told","paper","least","lengths","total"] ["script"] (aa eJ):=⟨rfl,rfl,rfl,by decide +kernel,rfl,by decide +kernel,by decide +kernel⟩
structure Txt (K:PySem.W.Frag) (mg:Str->Option Value):Prop where
 CU:mg "all"=none
 FW:mg "bool"=none
 Bl:mg "dict"=none
 cZ:mg "enumerate"=none
 DZ:mg "int"=none
 wJ:mg "isinstance"=none
 cG:mg "len"=none
 A9:mg "list"=none
 zq:mg "max"=none
 D7:mg "min"=none
 ee:mg "range"=none
 hV:mg "sorted"=none
 yO:mg "sum"=none
 cY:mg "tuple"=none
 ur:mg "zip"=none
 xs:∃ C_NoCode:Addr,mg "NoCode"=some (.ref C_NoCode)/\rF K C_NoCode
 kE:jx K mg "by_worth"
 jb:jx K mg "by_weight"
section
variable {P:Program} {w:World} {K:PySem.W.Frag} {mg:Str->Option Value} {base:Heap}
local macro_rules | `(tactic| walk_at "lc") => `(tactic| first | exact Or.inl rfl | exact Or.inr rfl)
local macro_rules | `(tactic| wp_walk using $ts,*) => do
  let ids := ("L2.A.vL L2.A.sH L2.A.x8 L2.A.Ee L2.A.yj L2.A3.BJ L2.A3.BG L2.A3.DK L2.A3.yA L2.A3.kx L2.A3.fN L2.A3.BW L2.A3.lM L2.A3.FQ L2.A3.zm L2.A3.gT L2.A3.mR L2.A3.F_ L2.A3.EM L2.A3.Fq L2.A3.Ek L2.A3.add_l L2.A3.FP L2.A3.EY L2.A3.DV L2.A3.CN L2.A3.DD L2.A3.EU L2.A3.Ft L2.A.C0 L2.A.wA L2.A.uC L2.A.yJ L2.A.lR L2.A.y3 L2.A.uO L2.A.De L2.A.qz L2.A.xG L2.A.yh L2.A.oY L2.A.uK L2.A.wx L2.A.yc L2.A.Av L2.A.gM L2.A.pg L2.A.tL L2.A.CA L2.A.EI L2.A.zN L2.A.zV L2.A.D9 L2.A.Cu L2.A.FL L2.A.qF L2.A.Dr L2.A.Fh L2.A.se L2.A.fV L2.A.mx L2.A.Bp L2.A.CG L2.A.Gb L2.A.EE L2.A.Er L2.A.rR L2.A.EC L2.A.E7 L2.A.jO L2.A.mq L2.A.Gs L2.A.G6 L2.A.rZ L2.A.CO L2.A.DF L2.A.CW L2.A.D3 L2.A.E4 L2.A.E2 L2.A.gS L2.A.ya L2.A.pK L2.A.xD L2.A.EG L2.A.Es L2.A.Ez L2.A.iZ L2.A.tI L2.A.i6 L2.A.E1 L2.A.fB L2.A.CQ L2.A.Gw L2.A.Gr vN L2.A.FJ L2.A.ET L2.A.Fs L2.A.Ds L2.A.Dk L2.A.EZ L2.A.FC L2.A.Ff L2.A.Fp L2.A.FH L2.A.FX Sl.box Sl.put dv L2.putAll uW fh gx L2.Y.trees L2.Y.Fi L2.Y.BL L2.Y.rO L2.Y.FI L2.Y.E8 List.tail_cons Nat.zero_le startM tq bI Option.bind_some Option.map_some List.map_cons List.map_nil List.length_cons List.length_nil List.replicate List.cons_append List.nil_append List.append_nil List.getElem?_cons_zero List.getElem?_cons_succ List.set_cons_zero List.set_cons_succ List.nodup_nil List.nodup_cons List.not_mem_nil List.mem_cons not_false_eq_true false_implies implies_true forall_eq or_false and_true true_and and_self true_or Ec DB CV CI Nat.reduceAdd Nat.reduceSub Nat.reduceLeDiff Bool.false_eq_true Bool.not_true Bool.not_false decide_eq_true_eq Bool.not_eq_true' decide_eq_false_iff_not Int.reduceToNat Int.reducePow reduceCtorEq exists_eq_left'".splitOn " ").toArray.map fun n => Lean.mkIdent n.toName
  `(tactic| simp only [↓reduceIte, $[↓$ts:term],*, $[$ids:ident],*, $[$ts:term],*])
local macro_rules | `(tactic| walk_at "rt") => `(tactic| wp_walk using and_self)
namespace Kr
def ks(L:Nat):List Nat->Nat
 | []=>0
 | l::r=>2 ^ (L - l)+ks L r
theorem bW(L:Nat):∀ a b,ks L (a++b)=ks L a+ks L b
 | [],b=>by simp[ks]
 | x::a,b=>by simp[ks,bW L a b];lia
theorem fz{L:Nat}{a b:List Nat}(h:a.Perm b):ks L a=ks L b:=by
 induction h with
 | nil=>rfl
 | cons x _ ih=>simp[ks,ih]
 | swap x y l=>simp[ks];lia
 | trans _ _ h1 h2=>exact h1.trans h2
theorem j9{L d l:Nat}(h:d < l)(hl:l<=L):2 ^ (L - d)=2*2 ^ (L - (d+1)):=by
 have:L - d=(L - (d+1))+1:=by lia
 rw[this,Nat.pow_succ];lia
def fit:List Nat->Nat->Nat->Nat->Prop:=fun r free depth L=>ks L r<=free*2 ^ (L - depth)
theorem lQ{L d:Nat}:∀ {r:List Nat},(∀ x∈r,d<=x)->ks L r<=r.length*2 ^ (L - d)
 | [],_=>by simp[ks]
 | x::r,h=>by
  have ih:=lQ (L:=L) (d:=d) (r:=r) fun y hy=>h y (List.mem_cons_of_mem _ hy);have hx:=h x List.mem_cons_self;have:=Nat.pow_le_pow_right (n:=2) (by decide) (Nat.sub_le_sub_left hx L)
  simp only[ks,List.length_cons,Nat.succ_mul];lia
theorem Al{L:Nat}{x:Nat}{r:List Nat}:0 < ks L (x::r):=by
 have:=Nat.pow_pos (n:=L - x) (show 0 < 2 by decide)
 simp only[ks];lia
theorem oh{r:List Nat}{free depth L:Nat}(h:∀ x∈r,depth<=x)(hf:r.length<=free):fit r free depth L:=
 Nat.le_trans (lQ h) (Nat.mul_le_mul_right _ hf)
theorem nK{r:List Nat}{free depth L l:Nat}(h:depth < l)(hl:l<=L):fit r free depth L ↔ fit r (free*2) (depth+1) L:=by
 unfold fit;rw[j9 h hl,Nat.mul_assoc]
theorem vn{r:List Nat}{free l L:Nat}(hf:0 < free):fit (l::r) free l L ↔ fit r (free - 1) l L:=by
 unfold fit;simp only[ks];obtain⟨f,rfl⟩:∃ f,free=f+1:=⟨free - 1,by lia⟩
 rw[Nat.add_sub_cancel,Nat.succ_mul];lia
theorem v9{x:Nat}{r:List Nat}{depth L:Nat}:¬ fit (x::r) 0 depth L:=by
 unfold fit;have:=Al (L:=L) (x:=x) (r:=r);lia
end Kr
namespace Pm
noncomputable abbrev It:=Int×List Nat
def wt(X:List It):Int:=(X.map fun x=>x.1).sum
def th(X:List It):List Nat:=X.flatMap fun x=>x.2
theorem cX(x:It)(X:List It):wt (x::X)=x.1+wt X:=by simp[wt]
theorem vY:wt []=0:=rfl
theorem tX(X Y:List It):wt (X++Y)=wt X+wt Y:=by simp[wt]
theorem q_{a b:List Int}(h:a.Perm b):a.sum=b.sum:=by
 induction h with
 | nil=>rfl
 | cons x _ ih=>rw[List.sum_cons,List.sum_cons,ih]
 | swap x y l=>simp only[List.sum_cons];lia
 | trans _ _ h1 h2=>exact h1.trans h2
theorem xS{X Y:List It}(h:X.Perm Y):wt X=wt Y:=q_ (h.map _)
theorem a_(x:It)(X:List It):th (x::X)=x.2++th X:=List.flatMap_cons ..
theorem fM(X Y:List It):th (X++Y)=th X++th Y:=List.flatMap_append ..
theorem gL{X Y:List It}(h:X.Perm Y):(th X).Perm (th Y):=by
 induction h with
 | nil=>exact .refl _
 | cons x _ ih=>rw[a_,a_];exact ih.append_left _
 | swap x y l =>
  rw[a_,a_,a_,a_,<- List.append_assoc,<- List.append_assoc];exact List.perm_append_comm.append_right _
 | trans _ _ h1 h2=>exact h1.trans h2
theorem pick{α:Type}{a:α}{X:List α}(h:a∈X):∃ X',X.Perm (a::X'):=by
 obtain⟨s,t,rfl⟩:=List.append_of_mem h;exact⟨s++t,List.perm_middle⟩
theorem split{α:Type}:∀ (A B X Y:List α),(A++B).Perm (X++Y)->∃ X1 X2 Y1 Y2,X.Perm (X1++X2)/\A.Perm (X1++Y1)/\B.Perm (X2++Y2)
 | [],B,X,Y,h=>⟨[],X,[],Y,.refl _,.refl _,h⟩
 | a::A,B,X,Y,h=>by
  rw[List.cons_append] at h;rcases List.mem_append.mp (h.mem_iff.mp List.mem_cons_self) with m | m
  ·obtain⟨X',hX⟩:=pick m;have h2:(a::(A++B)).Perm (a::(X'++Y)):=h.trans (hX.append_right Y);obtain⟨X1,X2,Y1,Y2,p1,p2,p3⟩:=split A B X' Y h2.cons_inv;exact⟨a::X1,X2,Y1,Y2,hX.trans (p1.cons a),p2.cons a,p3⟩
  ·obtain⟨Y',hY⟩:=pick m;have h2:(a::(A++B)).Perm (a::(X++Y')):=(h.trans (hY.append_left X)).trans List.perm_middle;obtain⟨X1,X2,Y1,Y2,p1,p2,p3⟩:=split A B X Y' h2.cons_inv;exact⟨X1,X2,a::Y1,Y2,p1,(p2.cons a).trans List.perm_middle.symm,p3⟩
def Up(A:List It):Prop:=A.Pairwise fun x y=>x.1<=y.1
theorem yE{X:List It}(h:∀ x∈X,0<=x.1):0<=wt X:=by
 induction X with
 | nil=>exact Int.le_refl 0
 | cons x X ih =>
  rw[cX];have:=h x List.mem_cons_self;have:=ih fun y hy=>h y (List.mem_cons_of_mem _ hy);lia
theorem dN:∀ (A X Y:List It) (k:Nat),Up A->(∀ x∈A,0<=x.1)->A.Perm (X++Y)->k<=X.length->wt (A.take k)<=wt X
 | [],X,Y,k,_,_,h,hk=>by
  have e:X++Y=[]:=h.symm.eq_nil;have:X=[]:=(List.append_eq_nil_iff.mp e).1;subst this;simp[wt]
 | a::A,X,Y,0,_,hn,h,_=>by
  rw[List.take_zero,vY];exact yE fun x hx=>hn x (h.mem_iff.mpr (List.mem_append.mpr (.inl hx)))
 | a::A,X,Y,k+1,hu,hn,h,hk=>by
  have hu2:=List.pairwise_cons.mp hu;have hn2:∀ x∈A,0<=x.1:=fun x hx=>hn x (List.mem_cons_of_mem _ hx);rw[List.take_succ_cons,cX];rcases List.mem_append.mp (h.mem_iff.mp List.mem_cons_self) with m | m
  ·obtain⟨X',hX⟩:=pick m;have h2:(a::A).Perm (a::(X'++Y)):=h.trans (hX.append_right Y);have hl:=hX.length_eq;rw[List.length_cons] at hl;have:=dN A X' Y k hu2.2 hn2 h2.cons_inv (by lia)
   rw[xS hX,cX];lia
  ·obtain⟨Y',hY⟩:=pick m
   cases X with
   | nil=>simp at hk
   | cons x X' =>
    have h2:(a::A).Perm (a::(x::X'++Y')):=(h.trans (hY.append_left _)).trans List.perm_middle;have h3:=h2.cons_inv;have hx:x∈A:=h3.mem_iff.mpr (by simp)
    have:=hu2.1 x hx;have h4:A.Perm (X'++(x::Y')):=h3.trans (by rw[List.cons_append];exact List.perm_middle.symm)
    have:=dN A X' (x::Y') k hu2.2 hn2 h4 (by rw[List.length_cons] at hk;lia)
    rw[cX];lia
def pk:List It->List It
 | a::b::r=>(a.1+b.1,a.2++b.2)::pk r
 | _=>[]
theorem nQ:∀ (A X Y:List It),(pk A).Perm (X++Y)->∃ X' Y',A.Perm (X'++Y')/\X'.length=2*X.length/\(th X').Perm (th X)
 | [],X,Y,h=>by
  have:X=[]:=(List.append_eq_nil_iff.mp h.symm.eq_nil).1;subst this;exact⟨[],[],.refl _,rfl,.refl _⟩
 | [a],X,Y,h=>by
  have:X=[]:=(List.append_eq_nil_iff.mp h.symm.eq_nil).1;subst this;exact⟨[],[a],.refl _,rfl,.refl _⟩
 | a::b::r,X,Y,h=>by
  unfold pk at h;rcases List.mem_append.mp (h.mem_iff.mp List.mem_cons_self) with m | m
  ·obtain⟨X',hX⟩:=pick m;obtain⟨X2,Y2,p1,p2,p3⟩:=nQ r X' Y (h.trans (hX.append_right Y)).cons_inv;refine⟨a::b::X2,Y2,(p1.cons b).cons a,?_,?_⟩
   ·rw[hX.length_eq];simp only[List.length_cons];lia
   ·refine List.Perm.trans ?_ (gL hX).symm;rw[a_,a_,a_,<- List.append_assoc];exact p3.append_left _
  ·obtain⟨Y',hY⟩:=pick m;obtain⟨X2,Y2,p1,p2,p3⟩:=nQ r X Y' ((h.trans (hY.append_left X)).trans List.perm_middle).cons_inv;exact⟨X2,a::b::Y2,(((p1.cons b).cons a).trans ((List.perm_middle (l₁:=X2) (l₂:=Y2) (a:=b)).symm.cons a)).trans List.perm_middle.symm,p2,p3⟩
theorem jY:∀ A:List It,(pk A).length=A.length / 2
 | []=>rfl
 | [_]=>by simp[pk]
 | a::b::r=>by
  unfold pk;rw[List.length_cons,jY r];simp only[List.length_cons];lia
theorem oZ:∀ (A:List It) (p:Nat),(∀ x∈A,0<=x.1)->wt ((pk A).take p)<=wt (A.take (2*p))
 | [],p,_=>by simp[pk]
 | [a],p,h=>by
  have:=yE (X:=[a].take (2*p)) fun x hx=>h x (List.mem_of_mem_take hx)
  simpa[pk,vY] using this
 | a::b::r,0,_=>by simp
 | a::b::r,p+1,h=>by
  have:=oZ r p fun x hx=>h x (by simp[hx])
  unfold pk;rw[show 2*(p+1)=2*p+1+1 by lia,List.take_succ_cons,List.take_succ_cons,List.take_succ_cons,cX,cX,cX]
  show a.1+b.1+_<=_;lia
theorem zz:∀ {A:List It},(∀ x∈A,0<=x.1)->∀ x∈pk A,0<=x.1
 | [],_,x,h=>by cases h
 | [_],_,x,h=>by cases h
 | a::b::r,hn,x,h=>by
  unfold pk at h;rcases List.mem_cons.mp h with e | e
  ·have:=hn a (by simp)
   have:=hn b (by simp)
   rw[e];show 0<=a.1+b.1;lia
  ·exact zz (A:=r) (fun y hy=>hn y (by simp[hy])) x e
def sN(f:Nat->Nat):Nat->Nat
 | 0=>0
 | n+1=>sN f n+f n
def sI(f:Nat->Int):Nat->Int
 | 0=>0
 | n+1=>sI f n+f n
theorem fO(f g:Nat->Nat):∀ n,sN (fun i=>f i+g i) n=sN f n+sN g n
 | 0=>rfl
 | n+1=>by simp only[sN,fO f g n];lia
theorem ki(k:Nat)(f:Nat->Nat):∀ n,sN (fun i=>k*f i) n=k*sN f n
 | 0=>rfl
 | n+1=>by simp only[sN,ki k f n];rw[Nat.mul_add]
theorem s_{f g:Nat->Nat}:∀ {n},(∀ i,i < n->f i<=g i)->sN f n<=sN g n
 | 0,_=>Nat.le_refl _
 | n+1,h=>by
  have:=s_ (n:=n) fun i hi=>h i (by lia)
  have:=h n (by lia)
  simp only[sN];lia
theorem cA{f g:Nat->Nat}:∀ {n},(∀ i,i < n->f i=g i)->sN f n=sN g n
 | 0,_=>rfl
 | n+1,h=>by simp only[sN];rw[cA (n:=n) fun i hi=>h i (by lia),h n (by lia)]
theorem nY(f g:Nat->Int):∀ n,sI (fun i=>f i+g i) n=sI f n+sI g n
 | 0=>rfl
 | n+1=>by simp only[sI,nY f g n];lia
theorem dP{f g:Nat->Int}:∀ {n},(∀ i,i < n->f i=g i)->sI f n=sI g n
 | 0,_=>rfl
 | n+1,h=>by simp only[sI];rw[dP (n:=n) fun i hi=>h i (by lia),h n (by lia)]
theorem jZ:∀ n,sN (fun _=>0) n=0
 | 0=>rfl
 | n+1=>by simp only[sN,jZ n]
theorem jR:∀ n,sI (fun _=>0) n=0
 | 0=>rfl
 | n+1=>by simp only[sI,jR n];rfl
theorem kR(x:Nat):∀ n,sN (fun i=>if x=i then 1 else 0) n=if x < n then 1 else 0
 | 0=>rfl
 | n+1=>by
  simp only[sN,kR x n];by_cases h:x < n
  ·rw[if_pos h,if_neg (by lia),if_pos (by lia)]
  ·by_cases h2:x=n
   ·rw[if_neg h,if_pos h2,if_pos (by lia)]
   ·rw[if_neg h,if_neg h2,if_neg (by lia)]
theorem vh(c:Nat->Int)(x:Nat):∀ n,sI (fun i=>if x=i then c i else 0) n=if x < n then c x else 0
 | 0=>rfl
 | n+1=>by
  simp only[sI,vh c x n];by_cases h:x < n
  ·rw[if_pos h,if_neg (by lia),if_pos (by lia)];lia
  ·by_cases h2:x=n
   ·subst h2;rw[if_neg h,if_pos rfl,if_pos (by lia)];lia
   ·rw[if_neg h,if_neg h2,if_neg (by lia)];rfl
theorem fZ(i x:Nat)(l:List Nat):(x::l).count i=l.count i+if x=i then 1 else 0:=by
 rw[List.count_cons];by_cases h:x=i<;>simp[h]
theorem mD{n:Nat}:∀ {l:List Nat},(∀ x∈l,x < n)->sN (fun i=>l.count i) n=l.length
 | [],_=>by simp[jZ]
 | x::l,h=>by
  have e:=mD (n:=n) (l:=l) fun y hy=>h y (List.mem_cons_of_mem _ hy);rw[cA (g:=fun i=>l.count i+if x=i then 1 else 0) fun i _=>fZ i x l,fO,e,kR,if_pos (h x List.mem_cons_self),List.length_cons]
theorem mG{n:Nat}{c:Nat->Int}:∀ {l:List Nat},(∀ x∈l,x < n)->(l.map c).sum=sI (fun i=>c i*(l.count i:Int)) n
 | [],_=>by simp[jR]
 | x::l,h=>by
  have e:=mG (n:=n) (c:=c) (l:=l) fun y hy=>h y (List.mem_cons_of_mem _ hy);rw[dP (g:=fun i=>c i*(l.count i:Int)+if x=i then c i else 0) fun i _=>?_,nY,<- e,vh,if_pos (h x List.mem_cons_self),List.map_cons,List.sum_cons]
  ·lia
  ·rw[fZ];by_cases z:x=i
   ·rw[if_pos z,if_pos z,Int.natCast_add,Int.mul_add];simp
   ·rw[if_neg z,if_neg z];simp
section
variable (c:Nat->Int) (n:Nat)
def coins:List It:=(List.range n).map fun i=>(c i,[i])
def BS(l:List It):List It:=dI (l.map fun x=>x.1) l
def shelf:Nat->List It
 | 0=>[]
 | d+1=>BS (coins c n++pk (shelf d))
end
theorem dn(l:List It):(BS l).Perm l:=lG (by rw[List.length_map])
theorem kC:∀ (l:List It) (p:Int×It),p∈(l.map fun x=>x.1).zip l->p.1=p.2.1
 | [],p,h=>by cases h
 | x::l,p,h=>by
  rw[List.map_cons,List.zip_cons_cons] at h;rcases List.mem_cons.mp h with e | e
  ·rw[e]
  ·exact kC l p e
theorem AR(l:List It):Up (BS l):=by
 unfold BS dI Up;rw[List.pairwise_map];refine (fv ((l.map fun x=>x.1).zip l)).imp_of_mem fun {a b} ha hb h=>?_;rw[<- kC l a ((bQ _).mem_iff.mp ha),<- kC l b ((bQ _).mem_iff.mp hb)];exact h
variable {c:Nat->Int} {n:Nat}
theorem uG:∀ d,Up (shelf c n d)
 | 0=>List.Pairwise.nil
 | d+1=>AR _
theorem ie(hc:∀ i,i < n->0<=c i):∀ d,∀ x∈shelf c n d,0<=x.1
 | 0,x,h=>by cases h
 | d+1,x,h=>by
  rcases List.mem_append.mp ((dn _).mem_iff.mp h) with m | m
  ·obtain⟨i,hi,rfl⟩:=List.mem_map.mp m;exact hc i (List.mem_range.mp hi)
  ·exact zz (ie hc d) x m
def Wd(c:Nat->Int)(n:Nat)(x:It):Prop:=x.1=(x.2.map c).sum/\∀ i∈x.2,i < n
theorem yT:∀ {A:List It},(∀ x∈A,Wd c n x)->∀ x∈pk A,Wd c n x
 | [],_,x,h=>by cases h
 | [_],_,x,h=>by cases h
 | a::b::r,hn,x,h=>by
  unfold pk at h;rcases List.mem_cons.mp h with e | e
  ·have h1:=hn a (by simp)
   have h2:=hn b (by simp)
   rw[e];refine⟨?_,fun i hi=>?_⟩
   ·show a.1+b.1=_;rw[h1.1,h2.1,List.map_append,List.sum_append]
   ·rcases List.mem_append.mp hi with z | z
    ·exact h1.2 i z
    ·exact h2.2 i z
  ·exact yT (A:=r) (fun y hy=>hn y (by simp[hy])) x e
theorem m6:∀ d,∀ x∈shelf c n d,Wd c n x
 | 0,x,h=>by cases h
 | d+1,x,h=>by
  rcases List.mem_append.mp ((dn _).mem_iff.mp h) with m | m
  ·obtain⟨i,hi,rfl⟩:=List.mem_map.mp m;exact⟨by simp,fun j hj=>by rw[List.mem_singleton.mp hj];exact List.mem_range.mp hi⟩
  ·exact yT (m6 d) x m
theorem zx:∀ {X:List It},(∀ x∈X,Wd c n x)->wt X=((th X).map c).sum/\∀ i∈th X,i < n
 | [],_=>⟨rfl,fun i h=>by cases h⟩
 | x::X,h=>by
  obtain⟨h1,h2⟩:=zx (X:=X) fun y hy=>h y (List.mem_cons_of_mem _ hy);have h3:=h x List.mem_cons_self;rw[cX,a_,List.map_append,List.sum_append,h1,h3.1];exact⟨rfl,fun i hi=>(List.mem_append.mp hi).elim (h3.2 i) (h2 i)⟩
theorem lZ:th (coins c n)=List.range n:=by
 unfold th coins;rw[List.flatMap_map];generalize List.range n=l
 induction l with
 | nil=>rfl
 | cons x l ih=>rw[List.flatMap_cons,ih];rfl
theorem vK{C Y:List It}(h:(coins c n).Perm (C++Y)):(∀ i,(th C).count i<=1)/\(th C).length=C.length/\∀ i∈th C,i < n:=by
 have h1:(List.range n).Perm (th C++th Y):=by rw[<- fM,<- lZ (c:=c)];exact gL h
 have hm:∀ x∈C,∃ i,x.2=[i]:=fun x hx=>by
  obtain⟨i,_,e⟩:=List.mem_map.mp (h.mem_iff.mpr (List.mem_append.mpr (.inl hx)));exact⟨i,by rw[<- e]⟩
 refine⟨fun i=>?_,?_,fun i hi=>List.mem_range.mp (h1.mem_iff.mpr (List.mem_append.mpr (.inl hi)))⟩
 ·have h2:=h1.count_eq i;rw[List.count_append] at h2;have h3:(List.range n).count i<=1:=List.nodup_iff_count.mp List.nodup_range i;lia
 ·clear h h1
  induction C with
  | nil=>rfl
  | cons x C ih =>
   obtain⟨i,e⟩:=hm x List.mem_cons_self;rw[a_,e,List.length_append,List.length_cons,List.length_cons,ih fun y hy=>hm y (List.mem_cons_of_mem _ hy)]
   simp;lia
theorem pM(a b D:Nat):(a+b)*2 ^ (D+1)=2*(2 ^ D*a)+2*b*2 ^ D:=by
 rw[Nat.pow_succ];generalize 2 ^ D=x;have h1:a*(x*2)=2*(x*a):=by rw[Nat.mul_comm a,Nat.mul_comm x 2,Nat.mul_assoc]
 have h2:b*(x*2)=2*b*x:=by rw[Nat.mul_comm x 2,<- Nat.mul_assoc,Nat.mul_comm b 2]
 rw[Nat.add_mul,h1,h2]
theorem two_split{D a:Nat}(h:a<=D):2 ^ (D+1 - a)=2*2 ^ (D - a):=by
 rw[show D+1 - a=(D - a)+1 by lia,Nat.pow_succ];lia
theorem worth:∀ (D:Nat) (X Y:List It),(shelf c n D).Perm (X++Y)->(∀ i,(th X).count i<=D)/\X.length*2 ^ D<=2*sN (fun i=>2 ^ D - 2 ^ (D - (th X).count i)) n
 | 0,X,Y,h=>by
  have:X=[]:=(List.append_eq_nil_iff.mp h.symm.eq_nil).1;subst this;exact⟨fun i=>Nat.le_refl 0,by simp⟩
 | D+1,X,Y,h=>by
  obtain⟨C,P,Y1,Y2,p1,p2,p3⟩:=split _ _ X Y ((dn _).symm.trans h);obtain⟨X',Y',q1,q2,q3⟩:=nQ _ _ _ p3;obtain⟨i1,i2⟩:=worth D X' Y' q1;obtain⟨c1,c2,c3⟩:=vK p2;have e:∀ i,(th X).count i=(th C).count i+(th X').count i:=fun i=>by
   rw[(gL p1).count_eq,fM,List.count_append,q3.count_eq]
  have hl:X.length=C.length+P.length:=by rw[p1.length_eq,List.length_append]
  refine⟨fun i=>by rw[e];have:=c1 i;have:=i1 i;lia,?_⟩
  have key:sN (fun i=>2 ^ D*(th C).count i+(2 ^ D - 2 ^ (D - (th X').count i))) n<=sN (fun i=>2 ^ (D+1) - 2 ^ (D+1 - (th X).count i)) n:=s_ fun i _=>by
   have a1:=c1 i;have a2:=i1 i;have a3:2 ^ (D - (th X').count i)<=2 ^ D:=Nat.pow_le_pow_right (by decide) (Nat.sub_le _ _)
   have a4:2 ^ (D+1)=2*2 ^ D:=by rw[Nat.pow_succ];lia
   rw[e i];rcases Nat.eq_zero_or_pos ((th C).count i) with z | z
   ·rw[z,Nat.zero_add,two_split a2,a4];lia
   ·rw[show (th C).count i=1 by lia,show D+1 - (1+(th X').count i)=D - (th X').count i by lia,a4];lia
  rw[fO,ki,mD c3,c2] at key;rw[q2] at i2;rw[hl,pM];lia
theorem least(hc:∀ i,i < n->0<=c i):∀ (D:Nat) (l:Nat->Nat),(∀ i,i < n->l i<=D)->∀ k,k*2 ^ D<=2*sN (fun i=>2 ^ D - 2 ^ (D - l i)) n->k<=(shelf c n D).length/\wt ((shelf c n D).take k)<=sI (fun i=>c i*(l i:Int)) n
 | 0,l,hl,k,hk=>by
  have e:sN (fun i=>2 ^ 0 - 2 ^ (0 - l i)) n=0:=by
   rw[cA (g:=fun _=>0) fun i hi=>?_,jZ];rw[show l i=0 by have:=hl i hi;lia]
  rw[e] at hk;have hk0:k=0:=by simpa using hk
  subst hk0;refine⟨Nat.zero_le _,?_⟩;rw[dP (g:=fun _=>0) fun i hi=>?_,jR]
  ·exact Int.le_refl 0
  ·rw[show l i=0 by have:=hl i hi;lia];simp
 | D+1,l,hl,k,hk=>by
  have cz:∀ m,m<=n->∃ C Y:List It,(coins c m).Perm (C++Y)/\wt C=sI (fun i=>if 1<=l i then c i else 0) m/\C.length=sN (fun i=>if 1<=l i then 1 else 0) m:=fun m=>by
   induction m with
   | zero=>exact fun _=>⟨[],[],.refl _,rfl,rfl⟩
   | succ m ih =>
    intro hm;obtain⟨C,Y,h1,h2,h3⟩:=ih (by lia)
    have e:coins c (m+1)=coins c m++[(c m,[m])]:=by unfold coins;rw[List.range_succ,List.map_append];rfl
    by_cases z:1<=l m
    ·refine⟨C++[(c m,[m])],Y,?_,?_,?_⟩
     ·rw[e];refine (h1.append_right _).trans ?_;rw[List.append_assoc,List.append_assoc];exact List.perm_append_comm.append_left C
     ·rw[tX,h2];simp only[sI,if_pos z];simp[wt]
     ·rw[List.length_append,h3];simp only[sN,if_pos z];rfl
    ·refine⟨C,Y++[(c m,[m])],?_,?_,?_⟩
     ·rw[e,<- List.append_assoc];exact h1.append_right _
     ·rw[h2];simp only[sI,if_neg z];lia
     ·rw[h3];simp only[sN,if_neg z];lia
  obtain⟨C,Y,h1,h2,h3⟩:=cz n (Nat.le_refl _);have eV:2*sN (fun i=>2 ^ (D+1) - 2 ^ (D+1 - l i)) n=2*(2 ^ D*C.length)+2*sN (fun i=>2 ^ D - 2 ^ (D - (l i - 1))) n:=by
   rw[h3,<- ki (2 ^ D),<- Nat.mul_add,<- fO];congr 1;refine cA fun i hi=>?_;have a4:2 ^ (D+1)=2*2 ^ D:=by rw[Nat.pow_succ];lia
   by_cases z:1<=l i
   ·have a3:2 ^ (D - (l i - 1))<=2 ^ D:=Nat.pow_le_pow_right (by decide) (Nat.sub_le _ _)
    rw[if_pos z,show D+1 - l i=D - (l i - 1) by lia,a4];lia
   ·rw[if_neg z,show l i=0 by lia,Nat.sub_zero,Nat.zero_sub,Nat.sub_zero];simp
  rw[eV] at hk;have hk2:2*(k - C.length)*2 ^ D<=2*sN (fun i=>2 ^ D - 2 ^ (D - (l i - 1))) n:=by
   rcases Nat.le_total k C.length with z | z
   ·rw[Nat.sub_eq_zero_of_le z];simp
   ·obtain⟨j,rfl⟩:=Nat.le.dest z;rw[Nat.add_sub_cancel_left];rw[pM] at hk;lia
  obtain⟨g1,g2⟩:=least hc D (fun i=>l i - 1) (fun i hi=>by have:=hl i hi;lia) _ hk2
  have nn:=ie hc D;have hp:=oZ (shelf c n D) (k - C.length) nn;have hpl:((pk (shelf c n D)).take (k - C.length)).length=k - C.length:=by
   rw[List.length_take,jY];lia
  have hX:(shelf c n (D+1)).Perm ((C++(pk (shelf c n D)).take (k - C.length))++(Y++(pk (shelf c n D)).drop (k - C.length))):=by
   refine (dn _).trans ((h1.append_right _).trans ?_);rw[List.append_assoc,List.append_assoc];refine List.Perm.append_left C ?_;have:pk (shelf c n D)=(pk (shelf c n D)).take (k - C.length)++(pk (shelf c n D)).drop (k - C.length):=(List.take_append_drop _ _).symm;refine List.Perm.trans (l₂:=Y++((pk (shelf c n D)).take (k - C.length)++(pk (shelf c n D)).drop (k - C.length))) (by rw[<- this]) ?_
   rw[<- List.append_assoc,<- List.append_assoc];exact List.perm_append_comm.append_right _
  have hlen:k<=(C++(pk (shelf c n D)).take (k - C.length)).length:=by rw[List.length_append,hpl];lia
  have hmin:=dN _ _ _ k (uG (D+1)) (ie hc (D+1)) hX hlen;refine⟨by rw[hX.length_eq,List.length_append];lia,?_⟩
  rw[tX,h2] at hmin;have e:sI (fun i=>c i*(l i:Int)) n=sI (fun i=>if 1<=l i then c i else 0) n+sI (fun i=>c i*((l i - 1:Nat):Int)) n:=by
   rw[<- nY];refine dP fun i hi=>?_;by_cases z:1<=l i
   ·rw[if_pos z];obtain⟨j,hj⟩:=Nat.le.dest z;rw[<- hj,Nat.add_sub_cancel_left,Int.natCast_add,Int.mul_add];simp
   ·rw[if_neg z,show l i=0 by lia];simp
  rw[e];lia
theorem gU{D:Nat}{l:Nat->Nat}(hl:∀ i,i < n->l i<=D):sN (fun i=>2 ^ D - 2 ^ (D - l i)) n+sN (fun i=>2 ^ (D - l i)) n=n*2 ^ D:=by
 rw[<- fO,cA (g:=fun _=>2 ^ D) fun i _=>?_]
 ·clear hl
  induction n with
  | zero=>simp[sN]
  | succ n ih=>simp only[sN,ih];rw[Nat.succ_mul]
 ·exact Nat.sub_add_cancel (Nat.pow_le_pow_right (by decide) (Nat.sub_le _ _))
def e8(c:Nat->Int)(n D i:Nat):Nat:=(th ((shelf c n D).take (2*n - 2))).count i
theorem xK(hc:∀ i,i < n->0<=c i){D:Nat}(hn:2<=n)(hD:n<=2 ^ D):
  (∀ i,e8 c n D i<=D)/\(∀ i,i < n->1<=e8 c n D i)/\sN (fun i=>2 ^ (D - e8 c n D i)) n<=2 ^ D/\wt ((shelf c n D).take (2*n - 2))=sI (fun i=>c i*(e8 c n D i:Int)) n:=by
 have hp:(shelf c n D).Perm ((shelf c n D).take (2*n - 2)++(shelf c n D).drop (2*n - 2)):=by rw[List.take_append_drop]
 obtain⟨w1,w2⟩:=worth D _ _ hp;have hk:(2*n - 2)*2 ^ D<=2*sN (fun _=>2 ^ D - 2 ^ (D - D)) n:=by
  have this:sN (fun _=>2 ^ D - 2 ^ (D - D)) n+sN (fun _=>2 ^ (D - D)) n=n*2 ^ D:=gU (n:=n) (D:=D) (l:=fun _=>D) fun _ _=>Nat.le_refl _;have e:∀ m,sN (fun _=>2 ^ (D - D)) m=m:=fun m=>by
   rw[cA (g:=fun _=>1) fun i _=>by simp]
   induction m with
   | zero=>rfl
   | succ n ih=>simp only[sN,ih]
  rw[e] at this;clear e;have h2:(2*n - 2)*2 ^ D=2*(n*2 ^ D) - 2*2 ^ D:=by rw[Nat.sub_mul,Nat.mul_assoc]
  rw[h2];lia
 have hlen:=(least hc D (fun _=>D) (fun _ _=>Nat.le_refl _) _ hk).1;have e1:((shelf c n D).take (2*n - 2)).length=2*n - 2:=by rw[List.length_take];lia
 rw[e1] at w2;have w3:=gU (n:=n) (D:=D) (l:=e8 c n D) fun i _=>w1 i;have w2':(2*n - 2)*2 ^ D<=2*sN (fun i=>2 ^ D - 2 ^ (D - e8 c n D i)) n:=w2;have h2:(2*n - 2)*2 ^ D=2*(n*2 ^ D) - 2*2 ^ D:=by rw[Nat.sub_mul,Nat.mul_assoc]
 have hks:sN (fun i=>2 ^ (D - e8 c n D i)) n<=2 ^ D:=by
  have:n*2 ^ D >= 1*2 ^ D:=Nat.mul_le_mul_right _ (by lia)
  lia
 refine⟨w1,fun i hi=>?_,hks,?_⟩
 ·rcases Nat.eq_zero_or_pos (e8 c n D i) with z | z
  ·exfalso
   have hpos:∀ j,1<=2 ^ (D - e8 c n D j):=fun j=>Nat.pow_pos (by decide)
   obtain⟨j,hj,hji⟩:∃ j,j < n/\j≠i:=if h:i=0 then ⟨1,by lia,by lia⟩ else ⟨0,by lia,by lia⟩
   have:sN (fun k=>(if i=k then 2 ^ D else 0)+if j=k then 1 else 0) n<=sN (fun i=>2 ^ (D - e8 c n D i)) n:=s_ fun k hk=>by
    by_cases a:i=k
    ·subst a;rw[if_pos rfl,if_neg hji,z];simp
    ·rw[if_neg a];have:=hpos k;by_cases b:j=k
     ·rw[if_pos b];lia
     ·rw[if_neg b];lia
   rw[fO,kR,if_pos hj] at this;have e:sN (fun k=>if i=k then 2 ^ D else 0) n=2 ^ D:=by
    rw[cA (g:=fun k=>2 ^ D*if i=k then 1 else 0) fun k _=>by by_cases a:i=k<;>simp[a],ki,kR,if_pos hi,Nat.mul_one]
   rw[e] at this;lia
  ·exact z
 ·have hw:=zx (X:=(shelf c n D).take (2*n - 2)) fun x hx=>m6 (c:=c) (n:=n) D x (List.mem_of_mem_take hx);rw[hw.1,mG hw.2];rfl
theorem nH(hc:∀ i,i < n->0<=c i){D:Nat}(hn:1<=n){l:Nat->Nat}(hl:∀ i,i < n->l i<=D)(hk:sN (fun i=>2 ^ (D - l i)) n<=2 ^ D):wt ((shelf c n D).take (2*n - 2))<=sI (fun i=>c i*(l i:Int)) n:=by
 refine (least hc D l hl (2*n - 2) ?_).2;have:=gU hl;have h2:(2*n - 2)*2 ^ D=2*(n*2 ^ D) - 2*2 ^ D:=by rw[Nat.sub_mul,Nat.mul_assoc]
 rw[h2];lia
end Pm
def dQ(s:T):Prop:=∃ n f c m:Int,s=.lst [.int n,.int f,.int c,.int m]
def lj:fE:=fun args Q=>∃ (s:T) (k:Int),args=[s,.int k]/\dQ s/\0 < k/\k < 2 ^ 30/\∀ (v:Int) (s':T),dQ s'->0<=v->v < k->Q (.tr (.int v)) [s']
theorem yk(T:Txt K mg)(F:HasFn K mg "_law_draw" bf ["seed","most"]):ah P w K mg base bY 1 "_law_draw" ["seed","most"] (spT K [true,false] lj):=by
 refine F.rL cK [true,false] rfl (by decide) (fun args Qt hl h f cdv A outer s H E hr=>?_)
 have hu:=bV hr;obtain⟨sd,k,rfl,⟨n,fl,c,m,rfl⟩,k0,k1,q⟩:=h;refine⟨_,(Y.ai (Y.asg (Y.op (Y.aD K rfl) Y.aC (Y.ix (Y.cE K rfl) Y.aV (Y.vS 0) Y.int) Y.int) (Y.og (Y.vS 0) Y.int))
   (Y.ai (Y.ml (Y.tw (Y.vg (Y.cB (Y.cw K rfl (Nat.lt_of_succ_lt hu)) Y.dk (Y.ix (Y.cE K rfl) Y.aV (Y.vS 0) Y.int) Y.int) (Y.mB (Y.cB yN Y.gp (Y.ix (Y.cE K rfl) Y.aV (Y.vS 0) Y.int) Y.int)))) (Y.ai (Y.set (i:=2) cK.nd rfl (by walk_at "lc") (Y.op fP Y.bA (Y.ix (Y.cE K rfl) Y.aV (Y.vS 0) Y.int) (Y.vS 1)))
   (Y.ai (Y.asg (Y.op Y.gR Y.bA (Y.ix (Y.cE K rfl) Y.aV (Y.vS 0) Y.int) (Y.vS 1)) (Y.og (Y.vS 0) Y.int))
   (Y.ba (Y.ret (Y.vS 2))))) Y.dU)
   (Y.ai (Y.set (i:=3) cK.nd rfl (by walk_at "lc") (Y.op fP Y.bA (Y.op (Y.cy K rfl) Y.cx (Y.op (Y.aD K rfl) Y.aC (Y.op (Y.aD K rfl) Y.aC (Y.ix (Y.cE K rfl) Y.aV (Y.vS 0) Y.int) (Y.op (Y.cy K rfl) Y.cx Y.int (Y.ix (Y.cE K rfl) Y.aV (Y.vS 0) Y.int))) Y.int) Y.int) Y.int))
   (Y.ai (Y.set (i:=3) cK.nd rfl (by walk_at "lc") (Y.op fP Y.bA (Y.op (Y.cy K rfl) Y.cx (Y.op fP Y.bA (Y.op (Y.cy K rfl) Y.cx (Y.vS 3) (Y.vS 3)) Y.int) Y.int) Y.int))
   (Y.ba (Y.ret (Y.op fP Y.bA (Y.op Y.gR Y.bA (Y.vS 3) Y.int) (Y.vS 1)))))))),?_⟩
 have fin:∀ v n c:Int,Qt (.tr (.int (v % k))) [.lst [.int n,.int fl,.int c,.int m]]:=fun v n c=>q _ _ ⟨_,_,_,_,rfl⟩ (Int.emod_nonneg _ (by lia)) (Int.emod_lt_of_pos _ k0)
 have x0:kU 4 0=some 0:=by decide
 have x2:kU 4 2=some 2:=by decide
 refine aT fun N hN=>?_;wp_walk using x2;refine hN _ ?_;clear hN N;refine aT fun N hN=>?_;wp_walk using x0;by_cases h1:fl=1
 ·by_cases h2:0 < n
  ·wp_walk using if_pos h1,if_pos h2;refine aT fun M hM=>?_;walk_at "rt";refine⟨k0,?_⟩;refine hM _ ?_;clear hM M;refine aT fun M hM=>?_;wp_walk using x0;refine⟨⟨k0,by lia⟩,?_⟩
   refine hM _ ?_;clear hM M;walk_at "rt";exact fin _ _ _
  ·wp_walk using if_pos h1,if_neg h2;refine hN _ ?_;clear hN N;have m1:∀ a:Int,0<=a % 2147483647/\a % 2147483647 < 2147483647:=fun a=>⟨by lia,by lia⟩
   refine aT fun N hN=>?_;walk_at "rt";refine⟨.inl (by decide),.inr (by decide),by decide,?_⟩
   refine hN _ ?_;clear hN N;refine aT fun N hN=>?_;walk_at "rt";refine⟨.inl ⟨by have:=m1 ((m+7127*(c+1)+17)*48271);lia,by have:=m1 ((m+7127*(c+1)+17)*48271);lia⟩,by decide,.inr (by decide),by decide,?_⟩
   refine hN _ ?_;clear hN N;walk_at "rt";exact⟨⟨by decide,by decide⟩,k0,fin _ _ _⟩
 ·wp_walk using if_neg h1;refine hN _ ?_;clear hN N;have m1:∀ a:Int,0<=a % 2147483647/\a % 2147483647 < 2147483647:=fun a=>⟨by lia,by lia⟩
  refine aT fun N hN=>?_;walk_at "rt";refine⟨.inl (by decide),.inr (by decide),by decide,?_⟩
  refine hN _ ?_;clear hN N;refine aT fun N hN=>?_;walk_at "rt";refine⟨.inl ⟨by have:=m1 ((m+7127*(c+1)+17)*48271);lia,by have:=m1 ((m+7127*(c+1)+17)*48271);lia⟩,by decide,.inr (by decide),by decide,?_⟩
  refine hN _ ?_;clear hN N;walk_at "rt";exact⟨⟨by decide,by decide⟩,k0,fin _ _ _⟩
def nI:List Int->List L2.T:=List.map L2.T.int
theorem aY(xs:List Int):(nI xs).length=xs.length:=List.length_map ..
theorem iL(xs ys:List Int):nI (xs++ys)=nI xs++nI ys:=List.map_append
theorem yM{xs:List Int}{i:Int}{v:Int}(h:bS xs i=some v):bS (nI xs) i=some (.int v):=by
 unfold bS at h ⊢;unfold nI;rw[List.length_map]
 cases e:kU xs.length i with
 | none=>rw[e] at h;cases h
 | some j=>rw[e] at h;have h':xs[j]?=some v:=h;show (List.map L2.T.int xs)[j]?=_;rw[List.getElem?_map,h'];rfl
theorem qj(xs:List Int)(a b:Option Int):Y.bH (nI xs) a b=nI (Y.bH xs a b):=by
 unfold Y.bH nI;rw[List.length_map,List.map_take,List.map_drop]
def Cr(ls:List Int):Prop:=0 < ls.length/\ls.length<=20/\∀ x∈ls,1<=x/\x<=40
def KS(ls:List Int):Nat:=Kr.ks 40 (ls.map Int.toNat)
def mT(ls:List Int):Bool:=decide (KS ls<=2 ^ 40)
def yP:fE:=fun args Q=>∃ c:Int,args=[.int c]/\∀ s,dQ s->Q (.fr s) []
theorem xj(T:Txt K mg)(F:HasFn K mg "_law_seed" bg ["cell"]):ah P w K mg base bY 1 "_law_seed" ["cell"] (spT K [false] yP):=by
 refine F.rL e_ [false] rfl (by decide) (fun args Qt hl h f cdv A outer s H E hr=>?_)
 have hu:=bV hr;obtain⟨c,rfl,q⟩:=h;refine⟨_,(Y.ai (Y.set (i:=1) e_.nd rfl (by walk_at "lc") (Y.cb (jC rfl) Y.zW rfl T.zq (by decide +kernel) (Y.cons (Y.vS 0) (Y.cons (Y.op fR Y.dZ Y.int (Y.vS 0)) Y.nil))))
   (Y.ba (Y.ret (Y.lst (Y.cons (Y.vS 1) (Y.cons (Y.ct rW Y.Bu rfl T.DZ (by decide +kernel) (Y.cons (Y.cmp zr Y.gp (Y.vS 1) (Y.op d6 Y.bA Y.int Y.int)) Y.nil)) (Y.cons Y.int (Y.cons (Y.op fP Y.bA (Y.vS 0) Y.int) Y.nil)))))))),?_⟩
 refine aT fun N hN=>?_;walk_at "rt";refine hN _ ?_;clear hN N;walk_at "rt";exact⟨⟨by decide,by decide,by decide⟩,by decide,by decide,q _ ⟨_,_,_,_,rfl⟩⟩
def sW:fE:=fun args Q=>∃ (ns:List Int) (m:Nat),args=[.d7 (nI ns),.int (m:Int)]/\m<=20/\∀ ms,Q (.fr (.lst (nI ms))) []
theorem vd(T:Txt K mg)(F:HasFn K mg "_law_cells" aW ["script","many"]):ah P w K mg base bY 1 "_law_cells" ["script","many"] (spT K [false,false] sW):=by
 refine F.rL iU [false,false] rfl (by decide) (fun args Qt hl h f cdv A outer s H E hr=>?_)
 have hu:=bV hr;obtain⟨ns,m,rfl,hm,q⟩:=h;refine⟨_,(Y.ba (Y.ret (Y.op (Y.aD K rfl) Y.aC (Y.dh K rfl (Y.vS 0) Y.sg (Y.rY (Y.vS 1))) (Y.lst (Y.cons (Y.cb (Y.aU K rfl) Y.bG rfl T.cG (by decide +kernel) (Y.cons (Y.vS 0) Y.nil)) Y.nil))))),?_⟩
 have e0:∀ n:Int,nI (Y.bH ns none (some (m:Int)))++[L2.T.int n]=nI (Y.bH ns none (some (m:Int))++[n]):=fun n=>by rw[iL];rfl
 have e1:(Y.bH ns none (some (m:Int))).length<=20:=by
  unfold Y.bH;rw[HT.dW,HT.fm,List.length_take];lia
 wp_walk using qj,aY,e0;refine⟨by decide,?_,q _⟩
 exact Nat.le_trans (show _<=100 by lia) (by decide)
def tR:fE:=fun args Q=>∃ (c:L2.T) (ls:List Int),args=[c]/\(c=.tup (nI ls)\/c=.lst (nI ls))/\Cr ls/\Q (.tr (.bl (mT ls))) []
theorem tO(T:Txt K mg)(F:HasFn K mg "can_be" cc ["lengths"]):ah P w K mg base bY 1 "can_be" ["lengths"] (spT K [false] tR):=by
 refine F.rL bJ [false] rfl (by decide) (fun args Qt hl h f cdv A outer s H E hr=>?_)
 have hu:=bV hr;obtain⟨c,ls,rfl,hc,hL,q⟩:=h;have hlen:nU c=Ou.ok (.tr (.int (ls.length:Int))):=by rcases hc with rfl | rfl<;>(rw[<- aY ls];rfl)
 have hsrt:∀ (μ:Mu) (Q:R->Mu->Prop),Y.uP c μ Q=(∃ ns:List Int,nI ls=ns.map L2.T.int/\ns.length < 64/\∀ ns':List Int,ns'.Perm ns->ns'.Pairwise (·<=·)->Q (.fr (.lst (ns'.map L2.T.int))) μ):=fun μ Q=>by rcases hc with rfl | rfl<;>rfl
 refine⟨_,(Y.ai (Y.set (i:=1) bJ.nd rfl (by walk_at "lc") Y.int)
   (Y.ai (Y.set (i:=2) bJ.nd rfl (by walk_at "lc") Y.int)
   (Y.ai (Y.set (i:=3) bJ.nd rfl (by walk_at "lc") (Y.cb (Y.aU K rfl) Y.bG rfl T.cG (by decide +kernel) (Y.cons (Y.vS 0) Y.nil)))
   (Y.ai (Y.gF PassesOwn.never rfl (Y.anyS K rfl (Y.cb (Y.ou K rfl) Y.sZ rfl T.hV (by decide +kernel) (Y.cons (Y.vS 0) Y.nil))) (Y.bq (i:=4) bJ.nd rfl (by walk_at "lc")) (Y.ai (Y.ml (Y.cB (Y.cw K rfl (Nat.lt_of_succ_lt hu)) Y.dk (Y.vS 1) Y.int) (Y.ba (Y.ret Y.bl)) Y.dU)
   (Y.ai (Y.kr PassesOwn.never (Y.tw (Y.vg (Y.cB pX Y.gp (Y.vS 2) (Y.vS 4)) (Y.mB (Y.cB pX Y.gp (Y.vS 1) (Y.vS 3))))) (Y.ai (Y.set (i:=1) bJ.nd rfl (by walk_at "lc") (Y.op (Y.cy K rfl) Y.cx (Y.vS 1) Y.int))
   (Y.ba (Y.set (i:=2) bJ.nd rfl (by walk_at "lc") (Y.op (Y.aD K rfl) Y.aC (Y.vS 2) Y.int)))))
   (Y.ai (Y.ml (Y.cB zr Y.gp (Y.vS 1) (Y.vS 3)) (Y.ba (Y.ret Y.bl)) Y.dU)
   (Y.ai (Y.set (i:=1) bJ.nd rfl (by walk_at "lc") (Y.op fR Y.dZ (Y.vS 1) Y.int))
   (Y.ba (Y.set (i:=3) bJ.nd rfl (by walk_at "lc") (Y.op fR Y.dZ (Y.vS 3) Y.int))))))))
   (Y.ba (Y.ret Y.bl)))))),?_⟩
 refine aT fun N hN=>?_;walk_at "rt";refine hN _ ?_;clear hN N;refine aT fun N hN=>?_;walk_at "rt";refine hN _ ?_;clear hN N;refine aT fun N hN=>?_;wp_walk using hlen;refine hN _ ?_;clear hN N;refine aT fun N hN=>?_;wp_walk using hsrt;refine⟨ls,rfl,by have:=hL.2.1;lia,fun rs hp hs=>?_⟩
 refine cV (fun rest μ=>∃ (r:List Int) (f d n:Int) (s4:Option L2.T),rest=nI r/\r.Pairwise (·<=·)/\(∀ x∈r,1<=x/\x<=40/\d<=x)/\0<=f/\0<=d/\n=r.length/\(mT ls=true ↔ Kr.fit (r.map Int.toNat) f.toNat d.toNat 40)/\μ=[.tr c,.tr (.int f),.tr (.int d),.tr (.int n),sl s4])
  ⟨rs,1,0,_,none,rfl,hs,fun x hx=>by have:=hL.2.2 x (hp.mem_iff.mp hx);lia,by decide,by decide,by rw[hp.length_eq],?_,rfl⟩ ?_ ?_
 ·unfold mT KS Kr.fit;rw[decide_eq_true_eq,Kr.fz (hp.map Int.toNat),show (1:Int).toNat*2 ^ (40 - (0:Int).toNat)=2 ^ 40 from rfl]
 ·rintro μ ⟨r,f,d,n,s4,e,_,_,_,_,_,hi,rfl⟩
  cases r with
  | cons=>cases e
  | nil =>
   show N _;refine hN _ ?_;clear hN N;walk_at "rt";have:mT ls=true:=hi.mpr (Nat.zero_le _);rw[this] at q;exact q
 ·rintro t ts μ M ⟨r,f,d,n,s4,e,hs,hx,f0,d0,hn,hi,rfl⟩ k
  cases r with
  | nil=>cases e
  | cons l r =>
   cases e;obtain⟨hl1,hl2,hl3⟩:=hx l (by simp)
   have hle:∀ x∈r,l<=x:=(List.pairwise_cons.mp hs).1;walk_at "rt";refine aT fun M' hM=>?_;by_cases hf:f=0
   ·wp_walk using if_pos hf;have:mT ls=false:=by
     cases c:mT ls with
     | false=>rfl
     | true=>have:=hi.mp c;rw[hf] at this;exact absurd this Kr.v9
    rw[this] at q;exact q
   ·wp_walk using if_neg hf;refine hM _ ?_;clear hM M';refine aT fun M' hM=>?_;have after:∀ f d:Int,0 < f->0<=d->d<=l->(d=l\/n<=f)->(mT ls=true ↔ Kr.fit ((l::r).map Int.toNat) f.toNat d.toNat 40)->M' [.tr c,.tr (.int f),.tr (.int d),.tr (.int n),.tr (.int l)]:=fun f d f0 d0 dl hc hi=>by
     refine hM _ ?_;clear hM M';refine aT fun M' hM=>?_;by_cases h3:n<=f
     ·wp_walk using if_pos h3;have:mT ls=true:=hi.mpr (Kr.oh (fun x hx=>by
       obtain⟨y,hy,rfl⟩:=List.mem_map.mp hx;rcases List.mem_cons.mp hy with rfl | hy
       ·lia
       ·have:=hle y hy;lia) (by rw[List.length_map];lia))
      rw[this] at q;exact q
     ·wp_walk using if_neg h3;refine hM _ ?_;clear hM M';refine aT fun M' hM=>?_;walk_at "rt";refine hM _ ?_;clear hM M';walk_at "rt";have hd:d=l:=hc.resolve_right h3;subst hd;refine k _ ⟨r,f - 1,d,n - 1,some _,rfl,(List.pairwise_cons.mp hs).2,fun x hx'=>⟨(hx x (by simp[hx'])).1,(hx x (by simp[hx'])).2.1,hle x hx'⟩,by lia,d0,by rw[hn,List.length_cons];lia,?_,rfl⟩
      rw[hi,List.map_cons,Kr.vn (by lia),show (f - 1).toNat=f.toNat - 1 by lia]
    refine⟨fun m μ=>∃ f d:Int,0 < f/\0<=d/\d<=l/\m=(l - d).toNat/\(mT ls=true ↔ Kr.fit ((l::r).map Int.toNat) f.toNat d.toNat 40)/\μ=[.tr c,.tr (.int f),.tr (.int d),.tr (.int n),.tr (.int l)],⟨_,f,d,by lia,d0,hl3,rfl,hi,rfl⟩,?_⟩
    rintro m μ ⟨f,d,f0,d0,dl,rfl,hi,rfl⟩;by_cases c1:d < l
    ·by_cases c2:f < n
     ·wp_walk using if_pos c1,if_pos c2;refine aT fun M2 h2=>?_;walk_at "rt";refine⟨.inr (by decide),?_⟩
      refine h2 _ ?_;clear h2 M2;walk_at "rt";refine⟨_,?_,f*2,d+1,by lia,by lia,by lia,rfl,?_,rfl⟩
      ·lia
      ·rw[hi,Kr.nK (l:=l.toNat) (by lia) (by lia),show (f*2).toNat=f.toNat*2 by lia,show (d+1).toNat=d.toNat+1 by lia]
       exact Iff.rfl
     ·wp_walk using if_pos c1,if_neg c2;exact after f d f0 d0 dl (.inr (by lia)) hi
    ·wp_walk using if_neg c1;exact after f d f0 d0 dl (.inl (by lia)) hi
theorem fj(xs:List Int)(n:Nat):Y.bH (nI xs) none (some (n:Int))=nI (xs.take n):=by
 unfold Y.bH;rw[HT.dW,HT.fm,Nat.sub_zero,List.drop_zero];unfold nI;rw[List.length_map,<- List.map_take];congr 1;rw[List.take_eq_take_iff];lia
theorem iI(xs:List Int)(n:Nat):Y.bH (nI xs) (some (n:Int)) none=nI (xs.drop n):=by
 unfold Y.bH;rw[HT.dW,HT.fm];unfold nI;rw[List.length_map,<- List.map_drop];rcases Nat.lt_or_ge n xs.length with z | z
 ·rw[Nat.min_eq_left (by lia)]
  rw[List.take_of_length_le (by simp)]
 ·rw[Nat.min_eq_right z,Nat.sub_self,List.take_zero,List.drop_eq_nil_of_le z];rfl
theorem wW{v:Int}(h0:0<=v)(h1:v < 6):∃ d:Int,(0 < d/\d < 4611686018427387904)/\bS [L2.T.int 1,.int 1000,.int 1000000,.int 1000000000,.int 100000000000,.int 1000000000000] v=some (.int d):=by
 have:v=0\/v=1\/v=2\/v=3\/v=4\/v=5:=by lia
 rcases this with rfl | rfl | rfl | rfl | rfl | rfl
 ·exact⟨1,⟨by decide,by decide⟩,rfl⟩
 ·exact⟨1000,⟨by decide,by decide⟩,rfl⟩
 ·exact⟨1000000,⟨by decide,by decide⟩,rfl⟩
 ·exact⟨1000000000,⟨by decide,by decide⟩,rfl⟩
 ·exact⟨100000000000,⟨by decide,by decide⟩,rfl⟩
 ·exact⟨1000000000000,⟨by decide,by decide⟩,rfl⟩
theorem m9(v:Int):∀ n:Nat,(List.replicate n [L2.T.int v]).flatten=nI (List.replicate n v)
 | 0=>rfl
 | n+1=>by rw[List.replicate_succ,List.flatten_cons,m9 v n,List.replicate_succ];rfl
theorem vC:∀ {l:List Int},(∀ x∈l,0<=x)->0<=l.sum
 | [],_=>Int.le_refl _
 | x::l,h=>by
  rw[List.sum_cons];exact Int.add_nonneg (h x List.mem_cons_self) (vC fun y hy=>h y (List.mem_cons_of_mem _ hy))
theorem Aa{fs:List Int}(h:∀ x∈fs,0<=x):0<=(Y.bH (0::1::fs) (some (-2)) none).sum:=vC fun x hx=>by
 have hx:x∈(0::1::fs:List Int):=by
  unfold Y.bH at hx;exact List.mem_of_mem_drop (List.mem_of_mem_take hx)
 rcases List.mem_cons.mp hx with e | hx
 ·lia
 ·rcases List.mem_cons.mp hx with e | hx
  ·lia
  ·exact h x hx
theorem BE{n d:Int}(h:0<=n)(hd:0 < d):0<=n / d:=Int.ediv_nonneg h (Int.le_of_lt hd)
def pG:fE:=fun args Q=>∃ (s:L2.T) (n:Nat),args=[s,.int (n:Int)]/\dQ s/\0 < n/\n<=20/\∀ (cs:List Int) (s':L2.T),dQ s'->cs.length=n->(∀ x∈cs,0<=x)->Q (.tr (.tup (nI cs))) [s']
theorem qA(T:Txt K mg)(F:HasFn K mg "_law_counts" aF ["seed","many"])(h_law_draw:ah P w K mg base bY 1 "_law_draw" ["seed","most"] (spT K [true,false] lj)):ah P w K mg base bY 2 "_law_counts" ["seed","many"] (spT K [true,false] pG):=by
 refine F.rL aH [true,false] rfl (by decide) (fun args Qt hl h f cdv A outer s H E hr=>?_)
 have hu:=bV hr;obtain⟨sd,n,rfl,hs,n0,n1,q⟩:=h;refine⟨_,(Y.ai (Y.set (i:=2) aH.nd rfl (by walk_at "lc") (Y.fn K rfl h_law_draw (hr.mono (by decide)) rfl aR (Y.cons (Y.vS 0) (Y.cons Y.int Y.nil))))
   (Y.ai (Y.ml (Y.cB (Y.cw K rfl (Nat.lt_of_succ_lt hu)) Y.dk (Y.vS 2) Y.int) (Y.ba (Y.ret (Y.ct (Y.bU K rfl) Y.cD rfl T.cY (by decide +kernel) (Y.cons (Y.op (Y.cy K rfl) Y.cx (Y.lst (Y.cons (Y.fn K rfl h_law_draw (hr.mono (by decide)) rfl aR (Y.cons (Y.vS 0) (Y.cons Y.int Y.nil))) Y.nil)) (Y.vS 1)) Y.nil)))) Y.dU)
   (Y.ai (Y.ml (Y.cB (Y.cw K rfl (Nat.lt_of_succ_lt hu)) Y.dk (Y.vS 2) Y.int) (Y.ba (Y.ret (Y.ct (Y.bU K rfl) Y.cD rfl T.cY (by decide +kernel) (Y.cons (Y.u_ (osc:=aa aF) (ON:=["seed","many","way","found","k","number","start"]) (own:=["k"]) (N:=["k","seed","many","way","found",".k","number","start"]) ⟨rfl,by decide +kernel,rfl,by decide +kernel,by decide +kernel,by decide +kernel,by decide +kernel,by decide +kernel⟩ rfl rfl rfl rfl (Y.nX rfl T.ee (Y.cons (Y.vS 1) Y.nil)) (fun _ _ _ _=>(Z.bq (i:=0) (show List.Nodup (["k","seed","many","way","found",".k","number","start"]:List Str) by decide +kernel) rfl (by walk_at "lc"))) (fun _ _ _ _=>Y.xn) (fun _ _ _ _=>(Y.fn K rfl h_law_draw (hr.mono (by decide)) rfl aR (Y.cons (Y.vS 1) (Y.cons Y.int Y.nil))))) Y.nil)))) Y.dU)
   (Y.ai (Y.set (i:=3) aH.nd rfl (by walk_at "lc") (Y.lst Y.nil))
   (Y.ai (Y.gF PassesOwn.never rfl (Y.nX rfl T.ee (Y.cons (Y.vS 1) Y.nil)) (Y.bq (i:=4) aH.nd rfl (by walk_at "lc")) (Y.ai (Y.set (i:=5) aH.nd rfl (by walk_at "lc") (Y.op (Y.aD K rfl) Y.aC (Y.op (Y.cy K rfl) Y.cx (Y.fn K rfl h_law_draw (hr.mono (by decide)) rfl aR (Y.cons (Y.vS 0) (Y.cons (Y.op d6 Y.bA Y.int Y.int) Y.nil))) (Y.op d6 Y.bA Y.int Y.int)) (Y.fn K rfl h_law_draw (hr.mono (by decide)) rfl aR (Y.cons (Y.vS 0) (Y.cons (Y.op d6 Y.bA Y.int Y.int) Y.nil)))))
   (Y.ai (Y.ml (Y.cB (Y.cw K rfl (Nat.lt_of_succ_lt hu)) Y.dk (Y.vS 2) Y.int) (Y.ba (Y.set (i:=5) aH.nd rfl (by walk_at "lc") (Y.op A5 Y.bA Y.int (Y.vS 4)))) Y.dU)
   (Y.ai (Y.ml (Y.cB (Y.cw K rfl (Nat.lt_of_succ_lt hu)) Y.dk (Y.vS 2) Y.int) (Y.ba (Y.set (i:=5) aH.nd rfl (by walk_at "lc") (Y.op (Y.aD K rfl) Y.aC (Y.cb (Y.jz K rfl rfl) Y.sv rfl T.yO (by decide +kernel) (Y.cons (Y.dh K rfl (Y.op (Y.aD K rfl) Y.aC (Y.lst (Y.p9 rfl rfl)) (Y.vS 3)) (Y.rY (Y.neg Y.int)) Y.sg) Y.nil)) (Y.fn K rfl h_law_draw (hr.mono (by decide)) rfl aR (Y.cons (Y.vS 0) (Y.cons Y.int Y.nil)))))) Y.dU)
   (Y.ai (Y.ml (Y.cB (Y.cw K rfl (Nat.lt_of_succ_lt hu)) Y.dk (Y.vS 2) Y.int) (Y.ba (Y.set (i:=5) aH.nd rfl (by walk_at "lc") (Y.op Y.gR Y.bA (Y.vS 5) (Y.ix (Y.cE K rfl) Y.aV (Y.lst (Y.cons Y.int (Y.cons (Y.op d6 Y.bA Y.int Y.int) (Y.cons (Y.op d6 Y.bA Y.int Y.int) (Y.cons (Y.op d6 Y.bA Y.int Y.int) (Y.cons (Y.op d6 Y.bA Y.int Y.int) (Y.cons (Y.op d6 Y.bA Y.int Y.int) Y.nil))))))) (Y.fn K rfl h_law_draw (hr.mono (by decide)) rfl aR (Y.cons (Y.vS 0) (Y.cons Y.int Y.nil))))))) Y.dU)
   (Y.ba (Y.expr (Y.bm K rfl PySem.F.slot_list_append PySem.F.type_list_append cL Y.dw (Y.vS 3) (Y.cons (Y.vS 5) Y.nil)))))))))
   (Y.ai (Y.set (i:=6) aH.nd rfl (by walk_at "lc") (Y.fn K rfl h_law_draw (hr.mono (by decide)) rfl aR (Y.cons (Y.vS 0) (Y.cons (Y.vS 1) Y.nil))))
   (Y.ba (Y.ret (Y.ct (Y.bU K rfl) Y.cD rfl T.cY (by decide +kernel) (Y.cons (Y.op (Y.aD K rfl) Y.aC (Y.dh K rfl (Y.vS 3) (Y.rY (Y.vS 6)) Y.sg) (Y.dh K rfl (Y.vS 3) Y.sg (Y.rY (Y.vS 6)))) Y.nil)))))))))),?_⟩
 refine aT fun N hN=>?_;walk_at "rt";refine⟨sd,6,rfl,hs,by decide,by decide,fun way s1 hs1 w0 w1=>?_⟩
 walk_at "rt";refine hN _ ?_;clear hN N;refine aT fun N hN=>?_;by_cases a0:way=0
 ·wp_walk using if_pos a0;refine⟨s1,3,rfl,hs1,by decide,by decide,fun v s2 hs2 v0 _=>?_⟩
  wp_walk using Int.toNat_natCast,m9;exact⟨by decide,by lia,by lia,Nat.le_trans (show _<=60 by lia) (by decide),q _ _ hs2 (List.length_replicate ..) (fun x hx=>by rw[List.eq_of_mem_replicate hx];exact v0)⟩
 ·wp_walk using if_neg a0;refine hN _ ?_;clear hN N;refine aT fun N hN=>?_;by_cases a1:way=1
  ·wp_walk using if_pos a1;refine⟨by lia,by lia,?_⟩
   refine d5 (fun rest acc μ=>∃ (i:Nat) (ss:List Int) (s4:L2.T),rest.length=n - i/\i<=n/\acc=nI ss/\ss.length=i/\(∀ x∈ss,0<=x)/\dQ s4/\μ=[.pb s4,.tr (.int (n:Int)),.tr (.int way),.un,.un,.un,.un]) ⟨0,[],s1,by simp,Nat.zero_le _,rfl,rfl,(fun x hx=>by cases hx),hs1,rfl⟩ ?_ ?_
   ·rintro acc μ ⟨i,ss,s4,e,hi,rfl,hsl,hss,hs4,rfl⟩;have hin:i=n:=by simp at e;lia
    refine⟨trivial,?_⟩;walk_at "rt";exact q _ _ hs4 (by lia) hss
   ·rintro t r acc μ M ⟨i,ss,s4,e,hi,rfl,hsl,hss,hs4,rfl⟩ k;have hi2:i < n:=by simp at e;lia
    refine⟨trivial,by rw[aY,hsl];exact Nat.lt_of_le_of_lt (show i<=60 by lia) (by decide),?_⟩
    walk_at "rt";refine⟨s4,7,rfl,hs4,by decide,by decide,fun v s5 hs5 v0 _=>?_⟩
    walk_at "rt";exact k _ _ ⟨i+1,ss++[v],s5,by simp at e ⊢;lia,hi2,by simp[nI],by simp[hsl],(fun x hx=>(List.mem_append.mp hx).elim (hss x) fun h=>by rw[List.mem_singleton.mp h];exact v0),hs5,rfl⟩
  ·wp_walk using if_neg a1;refine hN _ ?_;clear hN N;refine aT fun N hN=>?_;walk_at "rt";refine hN _ ?_;clear hN N;refine aT fun N hN=>?_;walk_at "rt";refine⟨by lia,by lia,?_⟩
   refine cV (fun rest μ=>∃ (i:Nat) (fs:List Int) (s5:L2.T) (o4 o5:Option L2.T),rest.length=n - i/\(∀ t∈rest,∃ k:Int,t=.int k/\0<=k/\k<=20)/\i<=n/\fs.length=i/\(∀ x∈fs,0<=x)/\dQ s5/\μ=[.pb s5,.tr (.int (n:Int)),.tr (.int way),.bx (.lst (nI fs)),sl o4,sl o5,.un])
    ⟨0,[],s1,none,none,by simp,fun t ht=>?_,Nat.zero_le _,rfl,(fun x hx=>by cases hx),hs1,rfl⟩ ?_ ?_
   ·obtain⟨a,ha,rfl⟩:=List.mem_map.mp ht;have:=List.mem_range.mp ha;exact⟨_,rfl,by lia,by lia⟩
   ·rintro μ ⟨i,fs,s5,o4,o5,e,_,hi,hfl,hff,hs5,rfl⟩;have hin:i=n:=by simp at e;lia
    show N _;refine hN _ ?_;clear hN N;refine aT fun N hN=>?_;walk_at "rt";refine⟨s5,(n:Int),rfl,hs5,by lia,by lia,fun v s6 hs6 v0 v1=>?_⟩
    obtain⟨x,rfl⟩:∃ x:Nat,v=x:=⟨v.toNat,by lia⟩
    walk_at "rt";refine hN _ ?_;clear hN N;wp_walk using fj,iI,aY;refine⟨Nat.le_trans (show _<=60 by rw[List.length_drop,List.length_take];lia) (by decide),?_⟩
    rw[<- iL];exact q _ _ hs6 (by rw[List.length_append,List.length_drop,List.length_take];lia) (fun x hx=>(List.mem_append.mp hx).elim (fun h=>hff x (List.mem_of_mem_drop h)) fun h=>hff x (List.mem_of_mem_take h))
   ·rintro t ts μ M ⟨i,fs,s5,o4,o5,e,ht,hi,hfl,hff,hs5,rfl⟩ k;obtain⟨kk,rfl,k0,k1⟩:=ht t (by simp)
    have hi2:i < n:=by simp at e;lia
    have hz:(nI fs).length < sizeLine:=by rw[aY];exact Nat.lt_of_le_of_lt (show fs.length<=60 by lia) (by decide)
    walk_at "rt";refine aT fun M1 h1=>?_;have r1:∀ (num:Int) (s':L2.T),0<=num->dQ s'->M1 [.pb s',.tr (.int (n:Int)),.tr (.int way),.bx (.lst (nI fs)),.tr (.int kk),.tr (.int num),.un]:=fun num s' num0 hs'=>by
     refine h1 _ ?_;clear h1 M1;refine aT fun M2 h2=>?_;have r2:∀ (num:Int) (s':L2.T),0<=num->dQ s'->M2 [.pb s',.tr (.int (n:Int)),.tr (.int way),.bx (.lst (nI fs)),.tr (.int kk),.tr (.int num),.un]:=fun num s' num0 hs'=>by
      refine h2 _ ?_;clear h2 M2;refine aT fun M3 h3=>?_;have r3:∀ (num:Int) (s':L2.T),0<=num->dQ s'->M3 [.pb s',.tr (.int (n:Int)),.tr (.int way),.bx (.lst (nI fs)),.tr (.int kk),.tr (.int num),.un]:=fun num s' num0 hs'=>by
       refine h3 _ ?_;clear h3 M3;refine aT fun M4 h4=>?_;have r4:∀ (num:Int) (s':L2.T),0<=num->dQ s'->M4 [.pb s',.tr (.int (n:Int)),.tr (.int way),.bx (.lst (nI fs)),.tr (.int kk),.tr (.int num),.un]:=fun num s' num0 hs'=>by
        refine h4 _ ?_;clear h4 M4;walk_at "rt";exact⟨hz,k _ ⟨i+1,fs++[num],s',some (.int kk),some (.int num),by simp at e ⊢;lia,fun t h=>ht t (by simp[h]),hi2,by simp[hfl],(fun x hx=>(List.mem_append.mp hx).elim (hff x) fun h=>by rw[List.mem_singleton.mp h];exact num0),hs',by simp[nI,sl]⟩⟩
       by_cases a:way=4
       ·wp_walk using if_pos a;refine⟨⟨by decide,by decide,by decide⟩,⟨by decide,by decide,by decide⟩,⟨by decide,by decide,by decide⟩,⟨by decide,by decide,by decide⟩,⟨by decide,by decide,by decide⟩,by decide,s',6,rfl,hs',by decide,by decide,fun v s6 hs6 v0 v1=>?_⟩
        obtain⟨d,hd,ed⟩:=wW v0 v1;wp_walk using ed;exact⟨hd,r4 _ _ (BE num0 hd.1) hs6⟩
       ·wp_walk using if_neg a;exact r4 _ _ num0 hs'
      by_cases a:way=3
      ·wp_walk using if_pos a;refine⟨by decide,Nat.le_trans (show _<=60 by rw[aY];lia) (by decide),Y.bH (0::1::fs) (some (-2)) none,qj (0::1::fs) _ _,s',2,rfl,hs',by decide,by decide,fun v s6 hs6 v0 _=>?_⟩
       walk_at "rt";exact r3 _ _ (Int.add_nonneg (Aa hff) v0) hs6
      ·wp_walk using if_neg a;exact r3 _ _ num0 hs'
     by_cases a:way=2
     ·wp_walk using if_pos a;exact⟨⟨k0,by lia,by decide⟩,r2 _ _ (by rw[Int.one_mul];exact Int.le_of_lt (Int.pow_pos (by decide))) hs'⟩
     ·wp_walk using if_neg a;exact r2 _ _ num0 hs'
    walk_at "rt";refine⟨⟨by decide,by decide,by decide⟩,s5,1000000,rfl,hs5,by decide,by decide,fun v s6 hs6 v0 v1=>?_⟩
    walk_at "rt";refine⟨⟨by decide,by decide,by decide⟩,.inr ⟨by decide,by decide⟩,⟨by decide,by decide,by decide⟩,s6,1000000,rfl,hs6,by decide,by decide,fun v2 s7 hs7 w0 _=>?_⟩
    walk_at "rt";exact r1 _ _ (by lia) hs7
def nN(l:List Nat):List L2.T:=l.map fun i:Nat=>L2.T.int (i:Int)
theorem hJ(l:List Nat):(nN l).length=l.length:=List.length_map ..
theorem nj(a b:List Nat):nN (a++b)=nN a++nN b:=List.map_append
def x4(x:Pm.It):L2.T:=.tup [.int x.1,.lst (nN x.2)]
def iT(X:List Pm.It):List L2.T:=X.map x4
theorem h9(X:List Pm.It):(iT X).length=X.length:=List.length_map ..
theorem oi(X Y:List Pm.It):iT (X++Y)=iT X++iT Y:=List.map_append
theorem kO{α β:Type}(f:α->β)(ks:List Int)(l:List α):dI ks (l.map f)=(dI ks l).map f:=by
 have e:∀ m:List α,Paired (fun (b:β) (a:α)=>b=f a) (m.map f) m:=fun m=>by
  induction m with
  | nil=>exact .nil
  | cons x m ih=>exact .cons rfl ih
 have h:=gK (ks:=ks) (e l);generalize dI ks (l.map f)=u at h;generalize dI ks l=v at h
 induction h with
 | nil=>rfl
 | cons a b ih=>rw[a,ih];rfl
def u4:vb:=fun args Q _=>∃ X:List Pm.It,args=[.lst (iT X)]/\X.length < 64/\Q (.fr (.lst (iT (Pm.BS X)))) []
theorem tE(T:Txt K mg)(F:HasFn K mg "by_worth" b7 ["shelf"]):ah P w K mg base (m7 P w) 4 "by_worth" ["shelf"] (rK K [false] u4):=by
 obtain⟨c,Pt,htab,hcc⟩:=T.kE.ex;refine F.Ax mM [false] rfl rfl (by decide) (fun args Qt Et hl h f cdv A outer s H E hr hcd=>?_)
 have:=hcc _ _ hcd;subst this;have hu:=bV hr;obtain⟨X,rfl,hX,q⟩:=h;refine⟨_,(Y.jj (Y.xq (Y.ret (Y.sortI (k:=0) K rfl (by decide) htab rfl rfl rfl rfl rfl T.hV (Y.cons (Y.vS 0) Y.nil) (hr.mono (by decide)) rfl rfl rfl (fun _ _ _ _=>rfl))))),?_⟩
 walk_at "rt";refine⟨X.map fun x=>x.1,?_,by rw[h9];exact hX,?_⟩
 ·unfold iT;rw[List.map_map,List.map_map];rfl
 ·unfold iT;rw[kO];exact q
def r_:List Pm.It->List (Pm.It×Pm.It)
 | a::b::r=>(a,b)::r_ r
 | _=>[]
theorem pW:∀ X:List Pm.It,jI (iO (iT X)) (iO ((iT X).drop 1))=(r_ X).map fun p=>L2.T.tup [x4 p.1,x4 p.2]
 | []=>rfl
 | [a]=>rfl
 | [a,b]=>rfl
 | a::b::c::r=>by
  have ih:=pW (c::r);show L2.T.tup [x4 a,x4 b]::jI (iO (iT (c::r))) (iO ((iT (c::r)).drop 1))=_;rw[ih];rfl
theorem wb:∀ X:List Pm.It,Pm.pk X=(r_ X).map fun p=>(p.1.1+p.2.1,p.1.2++p.2.2)
 | []=>by simp[r_,Pm.pk]
 | [a]=>by simp[r_,Pm.pk]
 | a::b::r=>by rw[Pm.pk,r_,List.map_cons,wb r]
theorem vU:∀ {X:List Pm.It} {p:Pm.It×Pm.It},p∈r_ X->p.1.2.length+p.2.2.length<=(Pm.th X).length
 | [],p,h=>by cases h
 | [a],p,h=>by cases h
 | a::b::r,p,h=>by
  rw[Pm.a_,Pm.a_,List.length_append,List.length_append];rcases List.mem_cons.mp h with e | e
  ·rw[e];show a.2.length+b.2.length<=_;lia
  ·have:=vU e;lia
theorem p_:∀ X:List Pm.It,(r_ X).length<=X.length
 | []=>Nat.le_refl _
 | [_]=>Nat.zero_le _
 | a::b::r=>by
  have:=p_ r;unfold r_;simp only[List.length_cons];lia
def uZ:fE:=fun args Q=>∃ X:List Pm.It,args=[.lst (iT X)]/\X.length<=64/\(Pm.th X).length<=1000/\Q (.fr (.lst (iT (Pm.pk X)))) []
theorem vZ(T:Txt K mg)(F:HasFn K mg "packs_of" bp ["shelf"]):ah P w K mg base bY 1 "packs_of" ["shelf"] (spT K [false] uZ):=by
 refine F.rL mQ [false] rfl (by decide) (fun args Qt hl h f cdv A outer s H E hr=>?_)
 have hu:=bV hr;obtain⟨X,rfl,hX,ht,q⟩:=h;refine⟨_,(Y.ba (Y.ret (Y.u6 K rfl (osc:=aa bp) (ON:=["shelf"]) (own:=["one","other"]) (N:=["one","other","shelf"]) ⟨rfl,by decide +kernel,rfl,by decide +kernel,by decide +kernel,by decide +kernel,by decide +kernel,by decide +kernel⟩ rfl rfl rfl rfl (Y.zip K rfl rfl T.ur (Y.cons (Y.dE K rfl 0 rfl (Y.vS 0)) (Y.cons (Y.dE K rfl 1 rfl (Y.vS 0)) Y.nil))) (fun _ _ _ _=>(Z.mW (n:=2) K rfl rfl (Z.bF (Z.bq (i:=0) (show List.Nodup (["one","other","shelf"]:List Str) by decide +kernel) rfl (by walk_at "lc")) (Z.bF (Z.bq (i:=1) (show List.Nodup (["one","other","shelf"]:List Str) by decide +kernel) rfl (by walk_at "lc")) Z.eE)))) (fun _ _ _ _=>Y.xn) (fun _ _ _ _=>(Y.tup (Y.cons (Y.op (Y.aD K rfl) Y.aC (Y.ix (Y.cE K rfl) Y.aV (Y.vS 0) Y.int) (Y.ix (Y.cE K rfl) Y.aV (Y.vS 1) Y.int)) (Y.cons (Y.op (Y.aD K rfl) Y.aC (Y.ix (Y.cE K rfl) Y.aV (Y.vS 0) Y.int) (Y.ix (Y.cE K rfl) Y.aV (Y.vS 1) Y.int)) Y.nil))))))),?_⟩
 walk_at "rt";rw[List.drop_zero,pW];refine d5 (fun rest acc μ=>∃ (done todo:List (Pm.It×Pm.It)),done++todo=r_ X/\(rest=todo.map fun p=>L2.T.tup [x4 p.1,x4 p.2])/\acc=iT (done.map fun p=>(p.1.1+p.2.1,p.1.2++p.2.2))/\μ=[.tr (.lst (iT X))]) ⟨[],r_ X,rfl,rfl,rfl,rfl⟩ ?_ ?_
 ·rintro acc μ ⟨done,todo,e1,e2,rfl,rfl⟩;have e3:todo=[]:=by simpa using e2.symm
  subst e3;rw[List.append_nil] at e1;refine⟨trivial,?_⟩;rw[wb,<- e1] at q;exact q
 ·rintro t r acc μ M ⟨done,todo,e1,e2,rfl,rfl⟩ k
  cases todo with
  | nil=>cases e2
  | cons p todo =>
   obtain⟨rfl,rfl⟩:=List.cons.inj e2;have hm:p∈r_ X:=by rw[<- e1];simp
   have h1:=vU hm;have h2:=p_ X;rw[<- e1,List.length_append] at h2;refine⟨trivial,by rw[h9,List.length_map];exact Nat.lt_of_le_of_lt (show _<=64 by lia) (by decide),?_⟩
   obtain⟨⟨w1,t1⟩,w2,t2⟩:=p;unfold x4;have a0:∀ (v:Int) (l:List Nat),bS [L2.T.int v,.lst (nN l)] 0=some (.int v):=fun v l=>rfl;have a1:∀ (v:Int) (l:List Nat),bS [L2.T.int v,.lst (nN l)] 1=some (.lst (nN l)):=fun v l=>rfl;wp_walk using a0,a1;refine⟨by rw[hJ,hJ];exact Nat.le_trans (show _<=1000 by have:t1.length+t2.length<=_:=h1;lia) (by decide),by decide,k _ _ ⟨done++[((w1,t1),(w2,t2))],todo,by rw[<- e1];simp,rfl,?_,rfl⟩⟩
   rw[List.map_append,oi,<- nj];rfl
theorem zA:∀ A:List Pm.It,(Pm.th (Pm.pk A)).length<=(Pm.th A).length
 | []=>by simp[Pm.pk]
 | [a]=>by simp[Pm.pk,Pm.th]
 | a::b::r=>by
  have:=zA r;rw[Pm.pk,Pm.a_,Pm.a_,Pm.a_];simp only[List.length_append];lia
theorem jm(c:Nat->Int){n:Nat}(hn:1<=n):∀ d,(Pm.shelf c n d).length<=2*n - 1
 | 0=>Nat.zero_le _
 | d+1=>by
  have:=jm c hn d;rw[Pm.shelf,(Pm.dn _).length_eq,List.length_append,Pm.jY];unfold Pm.coins;rw[List.length_map,List.length_range];lia
theorem iq(c:Nat->Int)(n:Nat):∀ d,(Pm.th (Pm.shelf c n d)).length<=n*d
 | 0=>Nat.le_refl _
 | d+1=>by
  have h1:=iq c n d;have h2:=zA (Pm.shelf c n d);rw[Pm.shelf,(Pm.gL (Pm.dn _)).length_eq,Pm.fM,List.length_append,Pm.lZ,List.length_range,Nat.mul_succ];lia
def cQ(cs:List Int)(i:Nat):Int:=cs.getD i 0
theorem pH(cs:List Int):pairs (nI cs)=(List.range' 0 cs.length).map fun i:Nat=>L2.T.tup [.int (i:Int),.int (cQ cs i)]:=by
 unfold pairs;rw[aY,<- List.range_eq_range'];refine List.map_congr_left fun i hi=>?_;have h:=List.mem_range.mp hi;unfold nI cQ;rw[List.getElem?_map,List.getElem?_eq_getElem h,List.getD_eq_getElem?_getD,List.getElem?_eq_getElem h];rfl
theorem o9(c:Nat->Int)(i:Nat):Pm.coins c (i+1)=Pm.coins c i++[(c i,[i])]:=by
 unfold Pm.coins;rw[List.range_succ,List.map_append];rfl
def ph:vb:=fun args Q _=>∃ (cs:List Int) (b:Nat),args=[.tup (nI cs),.int (b:Int)]/\2<=cs.length/\cs.length<=20/\1<=b/\b<=40/\Q (.fr (.lst (nN (Pm.th ((Pm.shelf (cQ cs) cs.length b).take (2*cs.length - 2)))))) []
theorem rf(T:Txt K mg)(F:HasFn K mg "chosen_things" ax ["counts","bound"])(hby_worth:ah P w K mg base (m7 P w) 4 "by_worth" ["shelf"] (rK K [false] u4))(hpacks_of:ah P w K mg base bY 1 "packs_of" ["shelf"] (spT K [false] uZ)):
  ah P w K mg base (m7 P w) 5 "chosen_things" ["counts","bound"] (rK K [false,false] ph):=by
 refine F.Gk aJ [false,false] rfl rfl (by decide) (fun args Qt Et hl h f cdv A outer s H E hr=>?_)
 have hu:=bV hr;obtain⟨cs,b,rfl,hn2,hn,hb1,hb,q⟩:=h;refine⟨_,(Y.d8 (Y.xq (Y.A8 (j:=2) K rfl aJ.nd rfl (by walk_at "lc") (osc:=aa ax) (ON:=["counts","bound","coins","shelf","depth","chosen","item"]) (own:=["thing","count"]) (N:=["thing","count","counts","bound","coins","shelf","depth","chosen","item"]) ⟨rfl,by decide +kernel,rfl,by decide +kernel,by decide +kernel,by decide +kernel,by decide +kernel,by decide +kernel⟩ rfl rfl rfl rfl (Y.enum K rfl rfl T.cZ (Y.cons (Y.vS 0) Y.nil)) (fun _ _ _ _=>(Z.mW (n:=2) K rfl rfl (Z.bF (Z.bq (i:=0) (show List.Nodup (["thing","count","counts","bound","coins","shelf","depth","chosen","item"]:List Str) by decide +kernel) rfl (by walk_at "lc")) (Z.bF (Z.bq (i:=1) (show List.Nodup (["thing","count","counts","bound","coins","shelf","depth","chosen","item"]:List Str) by decide +kernel) rfl (by walk_at "lc")) Z.eE)))) (fun _ _ _ _=>Y.xn) (fun _ _ _ _=>(Y.tup (Y.cons (Y.vS 1) (Y.cons (Y.lst (Y.cons (Y.vS 0) Y.nil)) Y.nil))))))
   (Y.d8 (Y.yI (i:=3) aJ.nd rfl (by walk_at "lc") (Y.FY K rfl hby_worth (hr.mono (by decide)) rfl rfl (Y.cons (Y.vS 2) Y.nil)))
   (Y.d8 (Y.DO PassesOwn.leaving rfl (Y.Ak rfl T.ee (Y.cons Y.int (Y.cons (Y.vS 1) Y.nil))) (Y.bq (i:=4) aJ.nd rfl (by walk_at "lc")) (Y.jj (Y.yI (i:=3) aJ.nd rfl (by walk_at "lc") (Y.FY K rfl hby_worth (hr.mono (by decide)) rfl rfl (Y.cons (Y.op (Y.aD K rfl) Y.aC (Y.vS 2) (Y.fn K rfl hpacks_of (hr.mono (by decide)) rfl aR (Y.cons (Y.vS 3) Y.nil))) Y.nil)))))
   (Y.d8 (Y.xq (Y.set (i:=5) aJ.nd rfl (by walk_at "lc") (Y.lst Y.nil)))
   (Y.d8 (Y.xq (Y.gF PassesOwn.leaving rfl (Y.anyS K rfl (Y.dh K rfl (Y.vS 3) Y.sg (Y.rY (Y.op fR Y.dZ (Y.op (Y.cy K rfl) Y.cx Y.int (Y.cb (Y.aU K rfl) Y.bG rfl T.cG (by decide +kernel) (Y.cons (Y.vS 0) Y.nil))) Y.int)))) (Y.bq (i:=6) aJ.nd rfl (by walk_at "lc")) (Y.ba (Y.expr (Y.bm K rfl PySem.F.slot_list_extend PySem.F.type_list_extend Y.Ar Y.zU (Y.vS 5) (Y.cons (Y.ix (Y.cE K rfl) Y.aV (Y.vS 6) Y.int) Y.nil))))))
   (Y.jj (Y.xq (Y.ret (Y.vS 5))))))))),?_⟩
 refine kJ fun N hN=>?_;walk_at "rt";rw[pH];refine d5 (fun rest acc μ=>∃ i:Nat,i<=cs.length/\(rest=(List.range' i (cs.length - i)).map fun i:Nat=>L2.T.tup [.int (i:Int),.int (cQ cs i)])/\acc=iT (Pm.coins (cQ cs) i)/\μ=[.tr (.tup (nI cs)),.tr (.int (b:Int)),.un,.un,.un,.un,.un]) ⟨0,Nat.zero_le _,rfl,rfl,rfl⟩ ?_ ?_
 ·rintro acc μ ⟨i,hi,e,rfl,rfl⟩;have hi2:i=cs.length:=by
   have:=congrArg List.length e;rw[List.length_map,List.length_range',List.length_nil] at this;lia
  subst hi2;refine⟨trivial,?_⟩;walk_at "rt";refine hN _ ?_;clear hN N;have e1:Pm.BS (Pm.coins (cQ cs) cs.length)=Pm.shelf (cQ cs) cs.length 1:=by
   rw[Pm.shelf,Pm.shelf,Pm.pk,List.append_nil];simp
  refine kJ fun N hN=>?_;walk_at "rt";have hcl:(Pm.coins (cQ cs) cs.length).length=cs.length:=by unfold Pm.coins;rw[List.length_map,List.length_range]
  refine⟨Pm.coins (cQ cs) cs.length,rfl,by lia,?_⟩
  walk_at "rt";refine hN _ ?_;clear hN N;rw[e1];clear e1;refine kJ fun N hN=>?_;walk_at "rt";refine⟨by lia,?_⟩
  have eb:((b:Int) - 1).toNat=b - 1:=by lia
  rw[eb,List.range_eq_range'];refine uL (fun rest μ=>∃ (d:Nat) (o:Option L2.T),d<=b - 1/\(rest=(List.range' d (b - 1 - d)).map fun k:Nat=>L2.T.int (1+(k:Int)))/\μ=[.tr (.tup (nI cs)),.tr (.int (b:Int)),.tr (.lst (iT (Pm.coins (cQ cs) cs.length))),.tr (.lst (iT (Pm.shelf (cQ cs) cs.length (d+1)))),sl o,.un,.un]) ⟨0,none,Nat.zero_le _,rfl,rfl⟩ ?_ ?_
  ·rintro μ ⟨d,o,hd,e,rfl⟩;have hd2:d+1=b:=by
    have:=congrArg List.length e;rw[List.length_map,List.length_range',List.length_nil] at this;lia
   rw[hd2];show N _;refine hN _ ?_;clear hN N;refine kJ fun N hN=>?_;walk_at "rt";refine hN _ ?_;clear hN N;refine kJ fun N hN=>?_;wp_walk using aY;have ec:((2*(cs.length:Int) - 2))=((2*cs.length - 2:Nat):Int):=by lia
   have h2:=iq (cQ cs) cs.length b;have h3:cs.length*b<=20*40:=Nat.mul_le_mul hn hb;have et:Y.bH (iT (Pm.shelf (cQ cs) cs.length b)) none (some (2*(cs.length:Int) - 2))=iT ((Pm.shelf (cQ cs) cs.length b).take (2*cs.length - 2)):=by
    rw[ec];unfold Y.bH iT;rw[HT.dW,HT.fm,Nat.sub_zero,List.drop_zero,List.length_map,<- List.map_take];congr 1;rw[List.take_eq_take_iff];lia
   rw[et];have ht:(Pm.th ((Pm.shelf (cQ cs) cs.length b).take (2*cs.length - 2))).length<=800:=by
    have e2:Pm.th (Pm.shelf (cQ cs) cs.length b)=Pm.th ((Pm.shelf (cQ cs) cs.length b).take (2*cs.length - 2))++Pm.th ((Pm.shelf (cQ cs) cs.length b).drop (2*cs.length - 2)):=by rw[<- Pm.fM,List.take_append_drop]
    rw[e2,List.length_append] at h2;lia
   refine⟨.inl (by decide),?_⟩
   generalize (Pm.shelf (cQ cs) cs.length b).take (2*cs.length - 2)=Z at ht q ⊢;refine cV (fun rest μ=>∃ (done todo:List Pm.It) (o2:Option L2.T),done++todo=Z/\rest=iT todo/\μ=[.tr (.tup (nI cs)),.tr (.int (b:Int)),.tr (.lst (iT (Pm.coins (cQ cs) cs.length))),.tr (.lst (iT (Pm.shelf (cQ cs) cs.length b))),sl o,.bx (.lst (nN (Pm.th done))),sl o2]) ⟨[],Z,none,rfl,rfl,rfl⟩ ?_ ?_
   ·rintro μ ⟨done,todo,o2,e1,e2,rfl⟩;have e3:todo=[]:=by
     cases todo with
     | nil=>rfl
     | cons=>cases e2
    subst e3;rw[List.append_nil] at e1;subst e1;show N _;refine hN _ ?_;clear hN N;walk_at "rt";exact q
   ·rintro t r μ M ⟨done,todo,o2,e1,e2,rfl⟩ k
    cases todo with
    | nil=>cases e2
    | cons x todo =>
     obtain⟨rfl,rfl⟩:=List.cons.inj e2;have a1:∀ (v:Int) (l:List Nat),bS [L2.T.int v,.lst (nN l)] 1=some (.lst (nN l)):=fun v l=>rfl;have hz:(Pm.th done).length+x.2.length<=800:=by
      rw[<- e1,Pm.fM,Pm.a_] at ht;simp only[List.length_append] at ht;lia
     unfold x4;wp_walk using a1;refine⟨by rw[hJ,hJ];exact Nat.le_trans hz (by decide),?_⟩
     refine k _ ⟨done++[x],todo,some (.tup [.int x.1,.lst (nN x.2)]),by rw[<- e1];simp,rfl,?_⟩
     rw[Pm.fM,nj];simp only[Pm.th,List.flatMap_cons,List.flatMap_nil,List.append_nil];rfl
  ·rintro t r μ M ⟨d,o,hd,e,rfl⟩ k;have hd2:d < b - 1:=by
    have:=congrArg List.length e;rw[List.length_map,List.length_range',List.length_cons] at this;lia
   rw[show b - 1 - d=(b - 1 - (d+1))+1 by lia,List.range'_succ,List.map_cons] at e
   obtain⟨rfl,rfl⟩:=List.cons.inj e;clear e;have h1:=jm (cQ cs) (n:=cs.length) (by lia) (d+1)
   have h2:=iq (cQ cs) cs.length (d+1);have h3:cs.length*(d+1)<=20*40:=Nat.mul_le_mul hn (by lia)
   walk_at "rt";refine⟨Pm.shelf (cQ cs) cs.length (d+1),rfl,by lia,by lia,?_⟩
   walk_at "rt";have h4:=Pm.jY (Pm.shelf (cQ cs) cs.length (d+1));refine⟨by rw[h9,h9];exact Nat.le_trans (show _<=100 by lia) (by decide),?_⟩
   rw[<- oi];refine⟨_,rfl,by rw[List.length_append];lia,?_⟩
   walk_at "rt";exact k _ ⟨d+1,some _,hd2,rfl,rfl⟩
 ·rintro t r acc μ M ⟨i,hi,e,rfl,rfl⟩ k;have hi2:i < cs.length:=by
   have:=congrArg List.length e;rw[List.length_map,List.length_range',List.length_cons] at this;lia
  rw[show cs.length - i=(cs.length - (i+1))+1 by lia,List.range'_succ,List.map_cons] at e
  obtain⟨rfl,rfl⟩:=List.cons.inj e;clear e;have hl:(iT (Pm.coins (cQ cs) i)).length=i:=by unfold Pm.coins;rw[h9,List.length_map,List.length_range]
  refine⟨trivial,by rw[hl];exact Nat.lt_of_le_of_lt (show i<=20 by lia) (by decide),?_⟩
  walk_at "rt";refine⟨by decide,by decide,k _ _ ⟨i+1,hi2,rfl,?_,rfl⟩⟩
  rw[o9,oi];rfl
def bR(cs:List Int)(b:Nat):List Nat:=if cs.length=1 then [1] else (List.range cs.length).map (Pm.e8 (cQ cs) cs.length (min b (cs.length - 1)))
def jM(n:Nat)(b:Int):Bool:=decide (1<=b/\n<=2 ^ b.toNat)
def om(C:Addr):vb:=fun args Q Et=>∃ (cs:List Int) (b:Int),args=[.tup (nI cs),.int b]/\1<=cs.length/\cs.length<=20/\-40<=b/\b<=40/\((jM cs.length b=true/\Q (.tr (.tup (nN (bR cs b.toNat)))) [])\/(jM cs.length b=false/\Et (.exc (.ref C) none)))
theorem vo(L l:Nat):∀ n,Kr.ks L (List.replicate n l)=n*2 ^ (L - l)
 | 0=>by simp[Kr.ks]
 | n+1=>by rw[List.replicate_succ,Kr.ks,vo L l n,Nat.succ_mul];lia
theorem AD{n:Nat}{b:Nat}(hb:b<=40):mT (List.replicate n (b:Int))=decide (n<=2 ^ b):=by
 unfold mT KS;rw[List.map_replicate,Int.toNat_natCast,vo];refine decide_eq_decide.mpr ?_;have e:2 ^ 40=2 ^ b*2 ^ (40 - b):=by rw[<- Nat.pow_add,Nat.add_sub_cancel' hb]
 rw[e];exact⟨fun h=>Nat.le_of_mul_le_mul_right h (Nat.pow_pos (by decide)),fun h=>Nat.mul_le_mul_right _ h⟩
theorem AQ(l:List Nat)(i:Nat):(l.map fun k:Nat=>(k:Int)).count (i:Int)=l.count i:=by
 induction l with
 | nil=>rfl
 | cons x l ih =>
  rw[List.map_cons,List.count_cons,List.count_cons,ih];congr 1;by_cases h:x=i
  ·subst h;simp
  ·have:¬ (x:Int)=(i:Int):=by lia
   simp[h,this]
theorem uX(T:Txt K mg)(F:HasFn K mg "least_lengths" au ["counts","bound"])(hcan_be:ah P w K mg base bY 1 "can_be" ["lengths"] (spT K [false] tR))(hchosen_things:ah P w K mg base (m7 P w) 5 "chosen_things" ["counts","bound"] (rK K [false,false] ph))
  {C_NoCode:Addr} (hC_NoCode:mg "NoCode"=some (.ref C_NoCode)) (kC_NoCode:rF K C_NoCode) :
  ah P w K mg base (m7 P w) 6 "least_lengths" ["counts","bound"] (rK K [false,false] (om C_NoCode)):=by
 refine F.Gk cp [false,false] rfl rfl (by decide) (fun args Qt Et hl h f cdv A outer s H E hr=>?_)
 have hu:=bV hr;obtain⟨cs,b,rfl,hn1,hn,hb0,hb,q⟩:=h;refine⟨_,(Y.d8 (Y.xq (Y.set (i:=2) cp.nd rfl (by walk_at "lc") (Y.cb (Y.aU K rfl) Y.bG rfl T.cG (by decide +kernel) (Y.cons (Y.vS 0) Y.nil))))
   (Y.d8 (Y.FK (Y.tw (Y.Cb (Y.cB pX Y.gp (Y.vS 1) Y.int) (Y.si (Y.xi (Y.Cv K rfl (Y.fn K rfl hcan_be (hr.mono (by decide)) rfl aR (Y.cons (Y.u_ (osc:=aa au) (ON:=["counts","bound","things","chosen"]) (own:=["count"]) (N:=["count","counts","bound","things","chosen"]) ⟨rfl,by decide +kernel,rfl,by decide +kernel,by decide +kernel,by decide +kernel,by decide +kernel,by decide +kernel⟩ rfl rfl rfl rfl (Y.anyS K rfl (Y.vS 0)) (fun _ _ _ _=>(Z.bq (i:=0) (show List.Nodup (["count","counts","bound","things","chosen"]:List Str) by decide +kernel) rfl (by walk_at "lc"))) (fun _ _ _ _=>Y.xn) (fun _ _ _ _=>(Y.vS 2))) Y.nil))))))) (Y.jj (Y.Ah rfl hC_NoCode kC_NoCode rfl rfl (Y.cons (Y.Fo (Y.Bm (Y.C4 (Y.vS 1) (Y.Bm (Y.C4 (Y.vS 2) (Y.Bm Y.EN)))))) Y.nil))) Y.Ct)
   (Y.d8 (Y.xq (Y.ml (Y.cB (Y.cw K rfl (Nat.lt_of_succ_lt hu)) Y.dk (Y.vS 2) Y.int) (Y.ba (Y.ret (Y.tup (Y.cons Y.int Y.nil)))) Y.dU))
   (Y.d8 (Y.Fn (i:=3) cp.nd rfl (by walk_at "lc") (Y.FY K rfl hchosen_things (hr.mono (by decide)) rfl rfl (Y.cons (Y.vS 0) (Y.cons (Y.cb (qI rfl) Y.AW rfl T.D7 (by decide +kernel) (Y.cons (Y.vS 1) (Y.cons (Y.op fR Y.dZ (Y.vS 2) Y.int) Y.nil))) Y.nil))))
   (Y.jj (Y.xq (Y.ret (Y.ct (Y.bU K rfl) Y.cD rfl T.cY (by decide +kernel) (Y.cons (Y.u_ (osc:=aa au) (ON:=["counts","bound","things","chosen"]) (own:=["thing"]) (N:=["thing","counts","bound","things","chosen"]) ⟨rfl,by decide +kernel,rfl,by decide +kernel,by decide +kernel,by decide +kernel,by decide +kernel,by decide +kernel⟩ rfl rfl rfl rfl (Y.nX rfl T.ee (Y.cons (Y.vS 2) Y.nil)) (fun _ _ _ _=>(Z.bq (i:=0) (show List.Nodup (["thing","counts","bound","things","chosen"]:List Str) by decide +kernel) rfl (by walk_at "lc"))) (fun _ _ _ _=>Y.xn) (fun _ _ _ _=>(Y.bm K rfl PySem.F.slot_list_count PySem.F.type_list_count Y.BI Y.zJ (Y.vS 4) (Y.cons (Y.vS 0) Y.nil)))) Y.nil))))))))),?_⟩
 refine kJ fun N hN=>?_;wp_walk using aY;refine hN _ ?_;clear hN N;refine kJ fun N hN=>?_;have no:jM cs.length b=false->Et (.exc (.ref C_NoCode) none):=fun h=>by
  rcases q with ⟨z,_⟩ | ⟨_,z⟩
  ·rw[h] at z;cases z
  ·exact z
 by_cases b1:b < 1
 ·wp_walk using if_pos b1;refine⟨Nat.lt_of_le_of_lt (show b.natAbs<=40 by lia) (by decide),Nat.lt_of_le_of_lt (show (cs.length:Int).natAbs<=40 by lia) (by decide),fun _ _=>no ?_⟩
  unfold jM;exact decide_eq_false fun h=>by lia
 ·obtain⟨b,rfl⟩:∃ k:Nat,b=k:=⟨b.toNat,by lia⟩
  wp_walk using if_neg b1;refine d5 (fun rest acc μ=>rest.length+acc.length=cs.length/\acc=nI (List.replicate acc.length (b:Int))/\μ=[.tr (.tup (nI cs)),.tr (.int (b:Int)),.tr (.int (cs.length:Int)),.un]) ⟨by rw[aY];rfl,rfl,rfl⟩ ?_ ?_
  ·rintro acc μ ⟨e1,e2,rfl⟩;have e3:acc=nI (List.replicate cs.length (b:Int)):=by rw[<- show acc.length=cs.length by simpa using e1];exact e2
   clear e1 e2;subst e3;refine⟨trivial,?_⟩;walk_at "rt";refine⟨_,_,rfl,.inr rfl,⟨by rw[List.length_replicate];lia,by rw[List.length_replicate];exact hn,fun x hx=>by have:=List.eq_of_mem_replicate hx;lia⟩,?_⟩
   rw[AD (by lia)]
   have em:jM cs.length (b:Int)=decide (cs.length<=2 ^ b):=by
    unfold jM;rw[Int.toNat_natCast];exact decide_eq_decide.mpr ⟨fun h=>h.2,fun h=>⟨by lia,h⟩⟩
   rw[em] at q no
   cases hm:decide (cs.length<=2 ^ b) with
   | false =>
    walk_at "rt";exact⟨Nat.lt_of_le_of_lt (show (b:Int).natAbs<=40 by lia) (by decide),Nat.lt_of_le_of_lt (show (cs.length:Int).natAbs<=40 by lia) (by decide),fun _ _=>no hm⟩
   | true =>
    have q':Qt (.tr (.tup (nN (bR cs b)))) []:=by
     rcases q with ⟨_,z⟩ | ⟨z,_⟩
     ·exact z
     ·rw[hm] at z;cases z
    clear q no;have hm2:cs.length<=2 ^ b:=of_decide_eq_true hm;walk_at "rt";refine hN _ ?_;clear hN N;refine kJ fun N hN=>?_;by_cases h1:cs.length=1
    ·wp_walk using if_pos (show (cs.length:Int)=1 by lia)
     refine⟨by decide,?_⟩
     unfold bR at q';rw[if_pos h1] at q';exact q'
    ·wp_walk using if_neg (show ¬ (cs.length:Int)=1 by lia)
     refine hN _ ?_;clear hN N;refine kJ fun N hN=>?_;have eb:(if (cs.length:Int) - 1 < (b:Int) then (cs.length:Int) - 1 else (b:Int))=((min b (cs.length - 1):Nat):Int):=by split<;>lia
     wp_walk using eb;refine⟨cs,min b (cs.length - 1),rfl,by lia,hn,by lia,by lia,?_⟩
     walk_at "rt";refine hN _ ?_;clear hN N;walk_at "rt";refine⟨by lia,by lia,?_⟩
     rw[Int.toNat_natCast,List.range_eq_range'];unfold bR at q';rw[if_neg h1] at q';refine d5 (fun rest acc μ=>∃ i:Nat,i<=cs.length/\(rest=(List.range' i (cs.length - i)).map fun k:Nat=>L2.T.int (0+(k:Int)))/\acc=nN ((List.range i).map (Pm.e8 (cQ cs) cs.length (min b (cs.length - 1))))/\μ=[.tr (.tup (nI cs)),.tr (.int (b:Int)),.tr (.int (cs.length:Int)),.bx (.lst (nN (Pm.th ((Pm.shelf (cQ cs) cs.length (min b (cs.length - 1))).take (2*cs.length - 2)))))]) ⟨0,Nat.zero_le _,rfl,rfl,rfl⟩ ?_ ?_
     ·rintro acc μ ⟨i,hi,e,rfl,rfl⟩;have hi2:i=cs.length:=by
       have:=congrArg List.length e;rw[List.length_map,List.length_range',List.length_nil] at this;lia
      subst hi2;refine⟨trivial,?_⟩;walk_at "rt";exact q'
     ·rintro t r acc μ M ⟨i,hi,e,rfl,rfl⟩ k;have hi2:i < cs.length:=by
       have:=congrArg List.length e;rw[List.length_map,List.length_range',List.length_cons] at this;lia
      rw[show cs.length - i=(cs.length - (i+1))+1 by lia,List.range'_succ,List.map_cons] at e
      obtain⟨rfl,rfl⟩:=List.cons.inj e;clear e;refine⟨trivial,by rw[hJ,List.length_map,List.length_range];exact Nat.lt_of_le_of_lt (show i<=20 by lia) (by decide),?_⟩
      walk_at "rt";refine⟨(Pm.th ((Pm.shelf (cQ cs) cs.length (min b (cs.length - 1))).take (2*cs.length - 2))).map fun k:Nat=>(k:Int),by unfold nN;rw[List.map_map];rfl,?_⟩
      rw[Int.zero_add,AQ];refine k _ _ ⟨i+1,hi2,rfl,?_,rfl⟩;rw[List.range_succ,List.map_append,nj];rfl
  ·rintro t r acc μ M ⟨e1,e2,rfl⟩ k;walk_at "rt";rw[List.length_cons] at e1;refine⟨trivial,Nat.lt_of_le_of_lt (show acc.length<=20 by lia) (by decide),k _ _ ⟨by rw[List.length_append];simp;lia,?_,rfl⟩⟩
   rw[List.length_append,List.length_singleton,List.replicate_succ',iL,<- e2];rfl
namespace Pm
theorem lg(f:Nat->Nat):∀ n,sN f (n+1)=f 0+sN (fun i=>f (i+1)) n
 | 0=>by simp[sN]
 | n+1=>by rw[sN,lg f n,sN];lia
theorem mi(f:Nat->Int):∀ n,sI f (n+1)=f 0+sI (fun i=>f (i+1)) n
 | 0=>by simp[sI]
 | n+1=>by rw[sI,mi f n,sI];lia
theorem wg(L:Nat):∀ l:List Nat,Kr.ks L l=sN (fun i=>2 ^ (L - l.getD i 0)) l.length
 | []=>rfl
 | x::l=>by rw[Kr.ks,wg L l,List.length_cons,lg];rfl
theorem lX{L D:Nat}(h:D<=L):∀ {l:List Nat},(∀ x∈l,x<=D)->Kr.ks L l=Kr.ks D l*2 ^ (L - D)
 | [],_=>by simp[Kr.ks]
 | x::l,hx=>by
  have:=hx x List.mem_cons_self;rw[Kr.ks,Kr.ks,lX h fun y hy=>hx y (List.mem_cons_of_mem _ hy),Nat.add_mul,<- Nat.pow_add];congr 2;lia
theorem lQ{L D:Nat}(h:D<=L){l:List Nat}(hx:∀ x∈l,x<=D):Kr.ks L l<=2 ^ L ↔ Kr.ks D l<=2 ^ D:=by
 rw[lX h hx,show 2 ^ L=2 ^ D*2 ^ (L - D) by rw[<- Nat.pow_add,Nat.add_sub_cancel' h]]
 exact⟨fun h=>Nat.le_of_mul_le_mul_right h (Nat.pow_pos (by decide)),fun h=>Nat.mul_le_mul_right _ h⟩
theorem nh{L m:Nat}(hm:m<=L):∀ {l:List Nat},(∀ x∈l,x<=m)->2 ^ (L - m) ∣ Kr.ks L l
 | [],_=>⟨0,rfl⟩
 | x::l,h=>by
  have:=h x List.mem_cons_self;exact Nat.dvd_add (Nat.pow_dvd_pow 2 (by lia)) (nh hm fun y hy=>h y (List.mem_cons_of_mem _ hy))
theorem dy{L:Nat}:∀ (m:Nat) (l:List Nat),l.length=m->m<=L->Kr.ks L l < 2 ^ L->Kr.ks L l+2 ^ (L - m)<=2 ^ L
 | 0,l,hl,_,_=>by
  rw[List.length_eq_zero_iff.mp hl];simp[Kr.ks]
 | m+1,l,hl,hm,hk=>by
  have e2:2 ^ (L - m)=2*2 ^ (L - (m+1)):=by rw[show L - m=(L - (m+1))+1 by lia,Nat.pow_succ];lia
  by_cases h:∃ a∈l,m+1<=a
  ·obtain⟨a,ha,hma⟩:=h;obtain⟨s,t,rfl⟩:=List.append_of_mem ha;have e:Kr.ks L (s++a::t)=2 ^ (L - a)+Kr.ks L (s++t):=by rw[Kr.bW,Kr.ks,Kr.bW];lia
   have hl2:(s++t).length=m:=by
    rw[List.length_append,List.length_cons] at hl;rw[List.length_append];lia
   have hk2:Kr.ks L (s++t) < 2 ^ L:=by
    rw[e] at hk;exact Nat.lt_of_le_of_lt (Nat.le_add_left _ _) hk
   have:=dy m (s++t) hl2 (by lia) hk2
   have:2 ^ (L - a)<=2 ^ (L - (m+1)):=Nat.pow_le_pow_right (by decide) (by lia)
   lia
  ·have hx:∀ x∈l,x<=m:=fun x hx=>by
    rcases Nat.lt_or_ge m x with z | z
    ·exact absurd ⟨x,hx,z⟩ h
    ·exact z
   obtain⟨k,ek⟩:=nh (show m<=L by lia) hx
   have eL:2 ^ L=2 ^ (L - m)*2 ^ m:=by rw[<- Nat.pow_add];congr 1;lia
   rw[ek] at hk ⊢;have hkm:k < 2 ^ m:=by
    rw[eL] at hk;exact Nat.lt_of_mul_lt_mul_left hk
   have:2 ^ (L - m)*(k+1)<=2 ^ (L - m)*2 ^ m:=Nat.mul_le_mul_left _ hkm;rw[<- eL,Nat.mul_succ] at this;lia
theorem lE{L d:Nat}:∀ l:List Nat,Kr.ks L (l.map fun x=>min x d)=Kr.ks L (l.filter fun x=>decide (x<=d))+(l.filter fun x=>!decide (x<=d)).length*2 ^ (L - d)
 | []=>by simp[Kr.ks]
 | x::l=>by
  rw[List.map_cons,Kr.ks,lE l,List.filter_cons,List.filter_cons];by_cases h:x<=d
  ·rw[Nat.min_eq_left h];simp only[h,decide_true,if_true,Bool.not_true,Bool.false_eq_true,if_false,Kr.ks];lia
  ·rw[Nat.min_eq_right (by lia)]
   simp only[h,decide_false,if_false,Bool.not_false,if_true,Bool.false_eq_true,List.length_cons,Nat.succ_mul];lia
theorem lF{L d:Nat}:∀ l:List Nat,Kr.ks L l=Kr.ks L (l.filter fun x=>decide (x<=d))+Kr.ks L (l.filter fun x=>!decide (x<=d))/\l.length=(l.filter fun x=>decide (x<=d)).length+(l.filter fun x=>!decide (x<=d)).length
 | []=>by simp[Kr.ks]
 | x::l=>by
  obtain⟨h1,h2⟩:=lF (L:=L) (d:=d) l;rw[Kr.ks,h1,List.length_cons,h2,List.filter_cons,List.filter_cons];by_cases h:x<=d
  ·simp only[h,decide_true,if_true,Bool.not_true,Bool.false_eq_true,if_false,Kr.ks,List.length_cons];lia
  ·simp only[h,decide_false,if_false,Bool.not_false,if_true,Bool.false_eq_true,List.length_cons,Kr.ks];lia
theorem two_le_pow:∀ k:Nat,1<=k->2*k<=2 ^ k
 | 0,h=>by lia
 | 1,_=>by decide
 | k+2,_=>by
  have:=two_le_pow (k+1) (by lia)
  rw[Nat.pow_succ];lia
theorem clamp{L:Nat}{l:List Nat}(hn:1<=l.length)(hL:l.length<=L)(hk:Kr.ks L l<=2 ^ L):Kr.ks L (l.map fun x=>min x (l.length - 1))<=2 ^ L:=by
 obtain⟨s1,s2⟩:=lF (L:=L) (d:=l.length - 1) l;rw[lE];generalize hd:l.length - 1=d at s1 s2 ⊢;generalize l.filter (fun x=>decide (x<=d))=lo at s1 s2 ⊢;generalize ho:l.filter (fun x=>!decide (x<=d))=ov at s1 s2 ⊢
 cases ov with
 | nil=>simp only[List.length_nil,Nat.zero_mul,Kr.ks] at s1 ⊢;lia
 | cons y ov =>
  have hpos:0 < 2 ^ (L - y):=Nat.pow_pos (by decide)
  rw[Kr.ks] at s1;have h:=dy (L:=L) lo.length lo rfl (by lia) (by lia)
  have h2:=two_le_pow (y::ov).length (by simp)
  have e1:2 ^ (L - d)=2 ^ (L - l.length)*2:=by rw[show L - d=(L - l.length)+1 by lia,Nat.pow_succ]
  have e2:2 ^ (L - lo.length)=2 ^ (L - l.length)*2 ^ (y::ov).length:=by rw[<- Nat.pow_add];congr 1;lia
  have e3:(y::ov).length*2 ^ (L - d)=2 ^ (L - l.length)*(2*(y::ov).length):=by rw[e1,Nat.mul_comm,Nat.mul_assoc]
  have e4:=Nat.mul_le_mul_left (2 ^ (L - l.length)) h2;rw[e3];rw[e2] at h;lia
end Pm
def dot:List Int->List Int->Int
 | c::cs,l::ls=>c*l+dot cs ls
 | _,_=>0
def nZ(l:List Nat):List Int:=l.map fun k:Nat=>(k:Int)
theorem cf(l:List Nat):(nZ l).length=l.length:=List.length_map ..
theorem yX(l:List Nat):nN l=nI (nZ l):=by unfold nN nZ nI;rw[List.map_map];rfl
theorem mV:∀ (cs:List Int) (l:List Nat),l.length=cs.length->dot cs (nZ l)=Pm.sI (fun i=>cQ cs i*((l.getD i 0:Nat):Int)) cs.length
 | [],[],_=>rfl
 | c::cs,x::l,h=>by
  rw[List.length_cons,Pm.mi];show c*(x:Int)+dot cs (nZ l)=_;rw[mV cs l (by simpa using h)]
  rfl
theorem vI:∀ {cs:List Int} {l:List Nat} {d:Nat},(∀ c∈cs,0<=c)->dot cs (nZ (l.map fun x=>min x d))<=dot cs (nZ l)
 | [],_,_,_=>by unfold dot;exact Int.le_refl _
 | c::cs,[],_,_=>by show (0:Int)<=0;lia
 | c::cs,x::l,d,h=>by
  have ih:=vI (l:=l) (d:=d) fun y hy=>h y (List.mem_cons_of_mem _ hy);have hc:=h c List.mem_cons_self;show c*((min x d:Nat):Int)+dot cs (nZ (l.map fun x=>min x d))<=c*(x:Int)+dot cs (nZ l);have:=Int.mul_le_mul_of_nonneg_left (show ((min x d:Nat):Int)<=(x:Int) by lia) hc
  lia
theorem pd:∀ n:Nat,1<=n->n<=2 ^ (n - 1)
 | 0,h=>by lia
 | 1,_=>by decide
 | n+2,_=>by
  have:=pd (n+1) (by lia)
  rw[show n+2 - 1=(n+1 - 1)+1 by lia,Nat.pow_succ];lia
theorem CY{cs:List Int}(h:∀ c∈cs,0<=c)(i:Nat)(hi:i < cs.length):0<=cQ cs i:=by
 unfold cQ;rw[List.getD_eq_getElem?_getD,List.getElem?_eq_getElem hi];exact h _ (List.getElem_mem hi)
theorem hZ(f:Nat->Nat){n i:Nat}(h:i < n):((List.range n).map f).getD i 0=f i:=by
 rw[List.getD_eq_getElem?_getD,List.getElem?_map,List.getElem?_range h];rfl
structure zg (cs:List Int) (b:Nat) (ls:List Nat):Prop where
 len:ls.length=cs.length
 fD:∀ x∈ls,1<=x/\x<=b
 ks:Kr.ks 40 ls<=2 ^ 40
 low:∀ l:List Nat,l.length=cs.length->(∀ x∈l,1<=x/\x<=b)->Kr.ks 40 l<=2 ^ 40->dot cs (nZ ls)<=dot cs (nZ l)
theorem qS{cs:List Int}{b:Nat}(hc:∀ c∈cs,0<=c)(hn:1<=cs.length)(hn2:cs.length<=20)(hb:1<=b)(hb2:b<=40)(hm:cs.length<=2 ^ b):zg cs b (bR cs b):=by
 unfold bR;by_cases h1:cs.length=1
 ·rw[if_pos h1];refine⟨h1.symm,fun x hx=>?_,by decide,fun l hl hx hk=>?_⟩
  ·rw[List.mem_singleton.mp hx];lia
  ·rw[h1] at hl;obtain⟨x,rfl⟩:=List.length_eq_one_iff.mp hl;obtain⟨c,rfl⟩:=List.length_eq_one_iff.mp h1;have h0:=hc c (by simp)
   have hx1:=(hx x (by simp)).1
   show c*((1:Nat):Int)+0<=c*(x:Int)+0;have:=Int.mul_le_mul_of_nonneg_left (show ((1:Nat):Int)<=(x:Int) by lia) h0
   lia
 ·rw[if_neg h1];have hn3:2<=cs.length:=by lia
  have hcc:=CY hc;generalize hD:min b (cs.length - 1)=D;have hD1:cs.length<=2 ^ D:=by
   rcases Nat.le_total b (cs.length - 1) with z | z
   ·rw[<- hD,Nat.min_eq_left z];exact hm
   ·rw[<- hD,Nat.min_eq_right z];exact pd _ hn
  obtain⟨w1,w2,w3,w4⟩:=Pm.xK hcc hn3 hD1;have hlen:((List.range cs.length).map (Pm.e8 (cQ cs) cs.length D)).length=cs.length:=by rw[List.length_map,List.length_range]
  have hrng:∀ x∈(List.range cs.length).map (Pm.e8 (cQ cs) cs.length D),1<=x/\x<=D:=fun x hx=>by
   obtain⟨i,hi,rfl⟩:=List.mem_map.mp hx;exact⟨w2 i (List.mem_range.mp hi),w1 i⟩
  have hdot:dot cs (nZ ((List.range cs.length).map (Pm.e8 (cQ cs) cs.length D)))=Pm.wt ((Pm.shelf (cQ cs) cs.length D).take (2*cs.length - 2)):=by
   rw[mV _ _ hlen,w4];exact Pm.dP fun i hi=>by rw[hZ _ hi]
  refine⟨hlen,fun x hx=>by have:=hrng x hx;lia,?_,fun l hl hx hk=>?_⟩
  ·rw[Pm.lQ (D:=D) (by lia) fun x hx=>(hrng x hx).2,Pm.wg,hlen]
   rw[Pm.cA (g:=fun i=>2 ^ (D - Pm.e8 (cQ cs) cs.length D i)) fun i hi=>by rw[hZ _ hi]]
   exact w3
  ·rw[hdot];have key:∀ l:List Nat,l.length=cs.length->(∀ x∈l,x<=D)->Kr.ks 40 l<=2 ^ 40->Pm.wt ((Pm.shelf (cQ cs) cs.length D).take (2*cs.length - 2))<=dot cs (nZ l):=fun l hl hx hk=>by
    rw[mV _ _ hl];refine Pm.nH hcc hn (l:=fun i=>l.getD i 0) (fun i hi=>?_) ?_
    ·rw[List.getD_eq_getElem?_getD,List.getElem?_eq_getElem (by lia)]
     exact hx _ (List.getElem_mem _)
    ·rw[Pm.lQ (D:=D) (by lia) hx,Pm.wg,hl] at hk
     exact hk
   refine Int.le_trans (key (l.map fun x=>min x (cs.length - 1)) (by rw[List.length_map];exact hl) (fun x hx'=>?_) ?_) (vI hc)
   ·obtain⟨y,hy,rfl⟩:=List.mem_map.mp hx';have:=(hx y hy).2;lia
   ·have:=Pm.clamp (L:=40) (l:=l) (by lia) (by lia) hk
    rw[hl] at this;exact this
def pZ:fE:=fun args Q=>∃ (c:L2.T) (cs ls:List Int),args=[c,.tup (nI ls)]/\ly c=some (nI cs)/\cs.length<=20/\(∀ x∈ls,1<=x/\x<=40)/\Q (.tr (.int (dot cs ls))) []
theorem small{x:Int}(h:1<=x/\x<=40):-(2 ^ 64) < x/\x < 2 ^ 64:=⟨by lia,by lia⟩
theorem tY(T:Txt K mg)(F:HasFn K mg "_law_cost" bj ["counts","lengths"]):ah P w K mg base bY 1 "_law_cost" ["counts","lengths"] (spT K [false,false] pZ):=by
 refine F.rL bZ [false,false] rfl (by decide) (fun args Qt hl h f cdv A outer s H E hr=>?_)
 have hu:=bV hr;obtain⟨c,cs,ls,rfl,hsq,hcl,hx,q⟩:=h;refine⟨_,(Y.ai (Y.set (i:=2) bZ.nd rfl (by walk_at "lc") Y.int)
   (Y.ai (Y.gF PassesOwn.never rfl (Y.zip K rfl rfl T.ur (Y.cons (Y.vS 0) (Y.cons (Y.vS 1) Y.nil))) (Y.u7 (n:=2) K rfl rfl (Y.bF (Y.bq (i:=3) bZ.nd rfl (by walk_at "lc")) (Y.bF (Y.bq (i:=4) bZ.nd rfl (by walk_at "lc")) Y.eE))) (Y.ba (Y.set (i:=2) bZ.nd rfl (by walk_at "lc") (Y.op (Y.aD K rfl) Y.aC (Y.vS 2) (Y.op (Y.cy K rfl) Y.cx (Y.vS 3) (Y.vS 4))))))
   (Y.ba (Y.ret (Y.vS 2))))),?_⟩
 refine aT fun N hN=>?_;walk_at "rt";refine hN _ ?_;clear hN N;refine aT fun N hN=>?_;wp_walk using hsq;refine cV (fun rest μ=>∃ (cs' ls':List Int) (v:Int) (s3 s4:Option L2.T),rest=jI (nI cs') (nI ls')/\(∀ x∈ls',1<=x/\x<=40)/\v+dot cs' ls'=dot cs ls/\μ=[.tr c,.tr (.tup (nI ls)),.tr (.int v),sl s3,sl s4]) ⟨cs,ls,0,none,none,rfl,hx,by lia,rfl⟩ ?_ ?_
 ·rintro μ ⟨cs',ls',v,s3,s4,e,_,ev,rfl⟩;have e0:dot cs' ls'=0:=by
   cases cs' with
   | nil=>rfl
   | cons=>cases ls' with
    | nil=>rfl
    | cons=>cases e
  show N _;refine hN _ ?_;clear hN N;walk_at "rt";rw[e0,Int.add_zero] at ev;rw[ev];exact q
 ·rintro t ts μ M ⟨cs',ls',v,s3,s4,e,hx',ev,rfl⟩ k
  cases cs' with
  | nil=>cases e
  | cons c cs'=>cases ls' with
   | nil=>cases e
   | cons l ls' =>
    cases e;walk_at "rt";refine⟨.inr (small (hx' l (by simp))),k _ ⟨cs',ls',_,some _,some _,rfl,fun x h=>hx' x (by simp[h]),?_,rfl⟩⟩
    rw[<- ev];simp only[dot];lia
theorem lK{cs hs:List Int}(h:cs.Perm hs):∀ r:List Int,r.length=cs.length->∃ r',r'.Perm r/\dot hs r'=dot cs r:=by
 induction h with
 | nil=>exact fun r hr=>⟨r,.refl _,rfl⟩
 | cons x _ ih =>
  intro r hr
  cases r with
  | nil=>cases hr
  | cons y r =>
   obtain⟨r',p,e⟩:=ih r (by simpa using hr)
   exact⟨y::r',p.cons y,by simp only[dot,e]⟩
 | swap x y l =>
  intro r hr;rcases r with _ | ⟨a,_ | ⟨b,r⟩⟩
  ·cases hr
  ·cases hr
  ·exact⟨b::a::r,.swap a b r,by simp only[dot];omega⟩
 | trans p1 _ h1 h2 =>
  intro r hr;obtain⟨r1,q1,e1⟩:=h1 r hr;obtain⟨r2,q2,e2⟩:=h2 r1 (by rw[q1.length_eq,hr,p1.length_eq])
  exact⟨r2,q2.trans q1,by rw[e2,e1]⟩
theorem jg:∀ (hs:List Int) (h x:Int) (ys:List Int),(h::hs).Pairwise (· >= ·)->ys.Pairwise (·<=·)->ys.length=hs.length->∃ r,r.Perm (x::ys)/\r.Pairwise (·<=·)/\dot (h::hs) r<=dot (h::hs) (x::ys)
 | [],h,x,[],_,_,_=>⟨[x],.refl _,List.pairwise_singleton _ _,Int.le_refl _⟩
 | g::hs,h,x,y::ys,hd,hu,hl=>by
  have hd2:=List.pairwise_cons.mp hd;have hu2:=List.pairwise_cons.mp hu;by_cases z:x<=y
  ·refine⟨x::y::ys,.refl _,List.pairwise_cons.mpr ⟨fun a ha=>?_,hu⟩,Int.le_refl _⟩;rcases List.mem_cons.mp ha with e | e
   ·omega
   ·have:=hu2.1 a e;omega
  ·obtain⟨r,p,u,e⟩:=jg hs g x ys hd2.2 hu2.2 (by simpa using hl)
   refine⟨y::r,(p.cons y).trans (.swap x y ys),List.pairwise_cons.mpr ⟨fun a ha=>?_,u⟩,?_⟩
   ·rcases List.mem_cons.mp (p.mem_iff.mp ha) with e | e
    ·omega
    ·exact hu2.1 a e
   ·have hg:g<=h:=hd2.1 g (by simp)
    have key:0<=(h - g)*(x - y):=Int.mul_nonneg (by omega) (by omega)
    have ek:(h - g)*(x - y)=h*x - h*y - g*x+g*y:=by
     rw[Int.sub_mul,Int.mul_sub,Int.mul_sub];omega
    simp only[dot] at e ⊢
    omega
theorem yH:∀ (hs f:List Int),hs.Pairwise (· >= ·)->f.length=hs.length->∃ r,r.Perm f/\r.Pairwise (·<=·)/\dot hs r<=dot hs f
 | [],[],_,_=>⟨[],.refl _,.nil,Int.le_refl _⟩
 | h::hs,x::f,hd,hl=>by
  obtain⟨ys,p,u,e⟩:=yH hs f (List.pairwise_cons.mp hd).2 (by simpa using hl)
  obtain⟨r,p2,u2,e2⟩:=jg hs h x ys hd u (by rw[p.length_eq];simpa using hl)
  refine⟨r,p2.trans (p.cons x),u2,Int.le_trans e2 ?_⟩;simp only[dot]
  omega
theorem sG{l:List Nat}{r:List Int}(h:r.Perm (nZ l)):∃ k:List Nat,r=nZ k/\k.Perm l:=by
 refine⟨r.map Int.toNat,?_,?_⟩
 ·unfold nZ;rw[List.map_map];have e:r.map ((fun k:Nat=>(k:Int)) ∘ Int.toNat)=r.map id:=List.map_congr_left fun x hx=>by
   obtain⟨k,_,rfl⟩:=List.mem_map.mp (h.mem_iff.mp hx);rfl
  rw[e,List.map_id]
 ·have:=h.map Int.toNat;unfold nZ at this;rw[List.map_map,show (Int.toNat ∘ fun k:Nat=>(k:Int))=id from funext fun k=>Int.toNat_natCast k,List.map_id] at this;exact this
theorem pf:∀ {a c b d:List Int},a.length=c.length->dot (a++b) (c++d)=dot a c+dot b d
 | [],[],b,d,_=>by show dot b d=0+dot b d;omega
 | x::a,y::c,b,d,h=>by
  show x*y+dot (a++b) (c++d)=x*y+dot a c+dot b d;rw[pf (by simpa using h)];omega
theorem jF:∀ {a c:List Int},a.length=c.length->dot a.reverse c.reverse=dot a c
 | [],[],_=>rfl
 | x::a,y::c,h=>by
  have h2:a.length=c.length:=by simpa using h
  rw[List.reverse_cons,List.reverse_cons,pf (by rw[List.length_reverse,List.length_reverse];exact h2),jF h2]
  show _+(x*y+0)=x*y+dot a c
  omega
theorem tV{ws f:List Int}(hu:ws.Pairwise (·<=·))(hl:f.length=ws.length):∃ r,r.Perm f/\r.Pairwise (· >= ·)/\dot ws r<=dot ws f:=by
 obtain⟨r,p,u,e⟩:=yH ws.reverse f.reverse (List.pairwise_reverse.mpr (hu.imp fun h=>h)) (by rw[List.length_reverse,List.length_reverse,hl])
 refine⟨r.reverse,(List.reverse_perm r).trans (p.trans (List.reverse_perm f)),List.pairwise_reverse.mpr (u.imp fun h=>h),?_⟩;have hl2:r.length=f.length:=by rw[p.length_eq,List.length_reverse]
 have e1:dot ws.reverse r=dot ws r.reverse:=by
  have:=jF (a:=ws) (c:=r.reverse) (by rw[List.length_reverse,hl2,hl])
  rw[List.reverse_reverse] at this;exact this
 rw[e1,jF hl.symm] at e;exact e
def LB(ws:List Int)(t:Int):Prop:=∀ l:List Nat,l.length=ws.length->(∀ x∈l,x<=40)->Kr.ks 40 l<=2 ^ 40->t<=dot ws (nZ l)
def AC(ws:List Int)(t:Int):Prop:=∃ l:List Nat,l.length=ws.length/\(∀ x∈l,x+1<=ws.length)/\Kr.ks 40 l<=2 ^ 40/\dot ws (nZ l)=t
theorem LB.perm{ws vs:List Int}{t:Int}(h:LB ws t)(p:vs.Perm ws):LB vs t:=fun l hl hx hk=>by
 obtain⟨r,q,e⟩:=lK p (nZ l) (by rw[cf,hl])
 obtain⟨k,rfl,pk⟩:=sG q;rw[<- e];exact h k (by rw[pk.length_eq,hl,p.length_eq]) (fun x hx'=>hx x (pk.mem_iff.mp hx')) (by rw[Kr.fz pk];exact hk)
theorem AC.perm{ws vs:List Int}{t:Int}(h:AC ws t)(p:ws.Perm vs):AC vs t:=by
 obtain⟨l,hl,hx,hk,e0⟩:=h;obtain⟨r,q,e⟩:=lK p (nZ l) (by rw[cf,hl])
 obtain⟨k,rfl,pk⟩:=sG q;exact⟨k,by rw[pk.length_eq,hl,p.length_eq],fun x hx'=>by rw[<- p.length_eq];exact hx x (pk.mem_iff.mp hx'),by rw[Kr.fz pk];exact hk,by rw[e,e0]⟩
theorem LB.one(w:Int)(h:0<=w):LB [w] 0:=fun l hl _ _=>by
 obtain⟨x,rfl⟩:=List.length_eq_one_iff.mp hl;show 0<=w*(x:Int)+0;have:=Int.mul_nonneg h (Int.natCast_nonneg x)
 omega
theorem AC.one(w:Int):AC [w] 0:=⟨[0],rfl,fun x hx=>by rw[List.mem_singleton.mp hx];exact Nat.le_refl _,by decide,by show w*0+0=0;simp⟩
theorem xy{y:Nat}{zs:List Nat}(hy:y<=40)(hz:∀ z∈zs,z<=y)(hk:Kr.ks 40 (y::zs) < 2 ^ 40):Kr.ks 40 (y::y::zs)<=2 ^ 40:=by
 obtain⟨k,ek⟩:=Pm.nh (L:=40) hy (l:=y::zs) fun x hx=>by
  rcases List.mem_cons.mp hx with e | e
  ·omega
  ·exact hz x e
 rw[Kr.ks,ek];rw[ek] at hk;have eL:2 ^ 40=2 ^ (40 - y)*2 ^ y:=by rw[<- Nat.pow_add];congr 1;omega
 have hkm:k < 2 ^ y:=by
  rw[eL] at hk;exact Nat.lt_of_mul_lt_mul_left hk
 have:2 ^ (40 - y)*(k+1)<=2 ^ (40 - y)*2 ^ y:=Nat.mul_le_mul_left _ hkm;rw[<- eL,Nat.mul_succ] at this
 omega
theorem LB.merge{a b t:Int}{r:List Int}(ha:0<=a)(hu:(a::b::r).Pairwise (·<=·))(h:LB ((a+b)::r) t):LB (a::b::r) (t+(a+b)):=fun l hl hx hk=>by
 obtain⟨r',p,u,e⟩:=tV hu (f:=nZ l) (by rw[cf,hl])
 obtain⟨k,rfl,pk⟩:=sG p;refine Int.le_trans ?_ e;have hl2:k.length=(a::b::r).length:=by rw[pk.length_eq,hl]
 rcases k with _ | ⟨x,_ | ⟨y,zs⟩⟩
 ·cases hl2
 ·cases hl2
 ·have hd:(x::y::zs).Pairwise (· >= ·):=by
   unfold nZ at u;rw[List.pairwise_map] at u;exact u.imp fun h=>Int.ofNat_le.mp h
  have hd1:=List.pairwise_cons.mp hd;have hd2:=List.pairwise_cons.mp hd1.2;have hxy:y<=x:=hd1.1 y (by simp)
  have hx40:∀ z∈x::y::zs,z<=40:=fun z hz=>hx z (pk.mem_iff.mp hz);have hks:Kr.ks 40 (x::y::zs)<=2 ^ 40:=by rw[Kr.fz pk];exact hk
  have hy40:=hx40 y (by simp)
  have hpos:0 < 2 ^ (40 - x):=Nat.pow_pos (by decide)
  have hlt:Kr.ks 40 (y::zs) < 2 ^ 40:=by rw[Kr.ks] at hks;omega
  have hroom:=xy hy40 (fun z hz=>hd2.1 z hz) hlt;have hy1:1<=y:=by
   rcases Nat.eq_zero_or_pos y with z | z
   ·subst z;rw[Kr.ks,Kr.ks] at hroom;have:(2:Nat) ^ (40 - 0)=2 ^ 40:=rfl;have:0 < (2:Nat) ^ 40:=by decide
    omega
   ·exact z
  have hm:Kr.ks 40 ((y - 1)::zs)<=2 ^ 40:=by
   rw[Kr.ks] at hroom ⊢;rw[Kr.ks] at hroom;have e2:2 ^ (40 - (y - 1))=2*2 ^ (40 - y):=by rw[show 40 - (y - 1)=(40 - y)+1 by omega,Nat.pow_succ];omega
   rw[e2];omega
  have hT:=h ((y - 1)::zs) (by simp at hl2 ⊢;omega) (fun z hz=>by
   rcases List.mem_cons.mp hz with q | q
   ·omega
   ·exact hx40 z (by simp[q])) hm
  have e3:dot ((a+b)::r) (nZ ((y - 1)::zs))=(a+b)*((y:Int) - 1)+dot r (nZ zs):=by
   show (a+b)*((y - 1:Nat):Int)+dot r (nZ zs)=_;rw[show ((y - 1:Nat):Int)=(y:Int) - 1 by omega]
  have e4:dot (a::b::r) (nZ (x::y::zs))=a*(x:Int)+(b*(y:Int)+dot r (nZ zs)):=rfl;have e5:=Int.mul_le_mul_of_nonneg_left (show (y:Int)<=(x:Int) by omega) ha
  rw[e3,Int.mul_sub,Int.add_mul,Int.mul_one] at hT;rw[e4]
  omega
theorem AC.merge{a b t:Int}{r:List Int}(hr:r.length<=30)(h:AC ((a+b)::r) t):AC (a::b::r) (t+(a+b)):=by
 obtain⟨l,hl,hx,hk,e⟩:=h
 cases l with
 | nil=>cases hl
 | cons z zs =>
  have hz:=hx z (by simp)
  rw[List.length_cons] at hz hx;refine⟨(z+1)::(z+1)::zs,by simp at hl ⊢;exact hl,fun x hx'=>?_,?_,?_⟩
  ·rw[List.length_cons,List.length_cons];rcases List.mem_cons.mp hx' with q | q
   ·omega
   ·rcases List.mem_cons.mp q with q | q
    ·omega
    ·have:=hx x (by simp[q]);omega
  ·rw[Kr.ks] at hk;rw[Kr.ks,Kr.ks];have e2:2 ^ (40 - z)=2*2 ^ (40 - (z+1)):=by rw[show 40 - z=(40 - (z+1))+1 by omega,Nat.pow_succ];omega
   omega
  ·have e3:dot ((a+b)::r) (nZ (z::zs))=(a+b)*(z:Int)+dot r (nZ zs):=rfl;rw[e3] at e;show a*((z+1:Nat):Int)+(b*((z+1:Nat):Int)+dot r (nZ zs))=_;rw[Int.natCast_add,Int.mul_add,Int.mul_add,<- e,Int.add_mul]
   omega
theorem nr{cs:List Int}{b:Nat}{ls:List Nat}{t:Int}(hn2:2<=cs.length)(hb:b<=40)(hbn:cs.length<=b+1)(hL:zg cs b ls)(h1:LB cs t)(h2:AC cs t):dot cs (nZ ls)=t:=by
 refine Int.le_antisymm ?_ (h1 ls hL.len (fun x hx=>by have:=hL.fD x hx;omega) hL.ks)
 obtain⟨l,hl,hx,hk,e⟩:=h2;rw[<- e];refine hL.low l hl (fun x hx'=>⟨?_,by have:=hx x hx';omega⟩) hk
 rcases Nat.eq_zero_or_pos x with z | z
 ·exfalso
  subst z;obtain⟨s,u,rfl⟩:=List.append_of_mem hx';rw[Kr.bW,Kr.ks] at hk;have e0:(2:Nat) ^ (40 - 0)=2 ^ 40:=rfl;have h0:∀ l:List Nat,l≠[]->0 < Kr.ks 40 l:=fun l hl=>by
   cases l with
   | nil=>exact absurd rfl hl
   | cons y l=>rw[Kr.ks];exact Nat.lt_of_lt_of_le (Nat.pow_pos (by decide)) (Nat.le_add_right _ _)
  have h2:s≠[]\/u≠[]:=by
   cases s with
   | nil=>cases u with
    | nil=>simp at hl;omega
    | cons=>exact .inr (by simp)
   | cons=>exact .inl (by simp)
  rcases h2 with q | q
  ·have:=h0 _ q;omega
  ·have:=h0 _ q;omega
 ·exact z
noncomputable abbrev WN:=Int×Nat
def EB(x:WN):L2.T:=.tup [.int x.1,.int (x.2:Int)]
def wT(X:List WN):List L2.T:=X.map EB
theorem eO(X:List WN):(wT X).length=X.length:=List.length_map ..
theorem vA(X Y:List WN):wT (X++Y)=wT X++wT Y:=List.map_append
def eW(X:List WN):List WN:=dI (X.map fun x=>x.1) X
def pN:vb:=fun args Q _=>∃ X:List WN,args=[.lst (wT X)]/\X.length < 64/\Q (.fr (.lst (wT (eW X)))) []
def uR:fE:=fun args Q=>∃ X:List WN,args=[.lst (wT X)]/\X.length < 64/\Q (.fr (.lst (wT (eW X)))) []
theorem qH(T:Txt K mg)(F:HasFn K mg "by_weight" bo ["standing"]):ah P w K mg base (m7 P w) 4 "by_weight" ["standing"] (rK K [false] pN):=by
 obtain⟨c,Pt,htab,hcc⟩:=T.jb.ex;refine F.Ax kF [false] rfl rfl (by decide) (fun args Qt Et hl h f cdv A outer s H E hr hcd=>?_)
 have:=hcc _ _ hcd;subst this;have hu:=bV hr;obtain⟨X,rfl,hX,q⟩:=h;refine⟨_,(Y.jj (Y.xq (Y.ret (Y.sortI (k:=0) K rfl (by decide) htab rfl rfl rfl rfl rfl T.hV (Y.cons (Y.vS 0) Y.nil) (hr.mono (by decide)) rfl rfl rfl (fun _ _ _ _=>rfl))))),?_⟩
 walk_at "rt";refine⟨X.map fun x=>x.1,?_,by rw[eO];exact hX,?_⟩
 ·unfold wT;rw[List.map_map,List.map_map];rfl
 ·unfold wT;rw[kO];exact q
def hf:Nat->List WN->Nat->List (Nat×Nat)
 | k+1,a::b::r,p=>(a.2,b.2)::hf k (eW (r++[(a.1+b.1,p)])) (p+1)
 | _,_,_=>[]
def eX(cs:List Int)(n:Nat):List WN:=(List.range n).map fun i=>(cQ cs i,i)
theorem vD(cs:List Int)(i:Nat):eX cs (i+1)=eX cs i++[(cQ cs i,i)]:=by
 unfold eX;rw[List.range_succ,List.map_append];rfl
theorem dB(cs:List Int)(n:Nat):(eX cs n).length=n:=by unfold eX;rw[List.length_map,List.length_range]
theorem cW(X:List WN):(eW X).length=X.length:=kH (by rw[List.length_map])
def cH(cs:List Int):List (Nat×Nat):=hf cs.length (eW (eX cs cs.length)) cs.length
def pT(p:Nat×Nat):L2.T:=.tup [.int (p.1:Int),.int (p.2:Int)]
def zl(ps:List (Nat×Nat)):List L2.T:=ps.map pT
theorem qp(ps:List (Nat×Nat)):(zl ps).length=ps.length:=List.length_map ..
theorem ye(a b:List (Nat×Nat)):zl (a++b)=zl a++zl b:=List.map_append
def sS:fE:=fun args Q=>∃ cs:List Int,args=[.tup (nI cs)]/\1<=cs.length/\cs.length<=20/\Q (.tr (.tup (zl (cH cs)))) []
theorem vP(T:Txt K mg)(F:HasFn K mg "lightest_first" aw ["counts"])(hby:ah P w K mg base (m7 P w) 4 "by_weight" ["standing"] (rK K [false] pN)):ah P w K mg base bY 5 "lightest_first" ["counts"] (spT K [false] sS):=by
 have hcalm_by_weight:ah P w K mg base bY 4 "by_weight" ["standing"] (spT K [false] uR):=hby.calm fun args Q h=>h;refine F.rL aG [false] rfl (by decide) (fun args Qt hl h f cdv A outer s H E hr=>?_)
 have hu:=bV hr;obtain⟨cs,rfl,hn1,hn,q⟩:=h;refine⟨_,(Y.ai (Y.set (i:=1) aG.nd rfl (by walk_at "lc") (Y.lst Y.nil))
   (Y.ai (Y.DJ (i:=2) aG.nd rfl (by walk_at "lc") (Y.fn K rfl hcalm_by_weight (hr.mono (by decide)) rfl aR (Y.cons (Y.u6 K rfl (osc:=aa aw) (ON:=["counts","paper","standing","one","other","both"]) (own:=["thing","count"]) (N:=["thing","count","counts","paper","standing","one","other","both"]) ⟨rfl,by decide +kernel,rfl,by decide +kernel,by decide +kernel,by decide +kernel,by decide +kernel,by decide +kernel⟩ rfl rfl rfl rfl (Y.enum K rfl rfl T.cZ (Y.cons (Y.vS 0) Y.nil)) (fun _ _ _ _=>(Z.mW (n:=2) K rfl rfl (Z.bF (Z.bq (i:=0) (show List.Nodup (["thing","count","counts","paper","standing","one","other","both"]:List Str) by decide +kernel) rfl (by walk_at "lc")) (Z.bF (Z.bq (i:=1) (show List.Nodup (["thing","count","counts","paper","standing","one","other","both"]:List Str) by decide +kernel) rfl (by walk_at "lc")) Z.eE)))) (fun _ _ _ _=>Y.xn) (fun _ _ _ _=>(Y.tup (Y.cons (Y.vS 1) (Y.cons (Y.vS 0) Y.nil))))) Y.nil)))
   (Y.ai (Y.kr PassesOwn.never (Y.cB yN Y.gp (Y.cb (Y.aU K rfl) Y.bG rfl T.cG (by decide +kernel) (Y.cons (Y.vS 2) Y.nil)) Y.int) (Y.ai (Y.set (i:=3) aG.nd rfl (by walk_at "lc") (Y.ix (Y.cE K rfl) Y.aV (Y.vS 2) Y.int))
   (Y.ai (Y.set (i:=4) aG.nd rfl (by walk_at "lc") (Y.ix (Y.cE K rfl) Y.aV (Y.vS 2) Y.int))
   (Y.ai (Y.set (i:=5) aG.nd rfl (by walk_at "lc") (Y.tup (Y.cons (Y.op (Y.aD K rfl) Y.aC (Y.ix (Y.cE K rfl) Y.aV (Y.vS 3) Y.int) (Y.ix (Y.cE K rfl) Y.aV (Y.vS 4) Y.int)) (Y.cons (Y.op (Y.aD K rfl) Y.aC (Y.cb (Y.aU K rfl) Y.bG rfl T.cG (by decide +kernel) (Y.cons (Y.vS 0) Y.nil)) (Y.cb (Y.aU K rfl) Y.bG rfl T.cG (by decide +kernel) (Y.cons (Y.vS 1) Y.nil))) Y.nil))))
   (Y.ai (Y.expr (Y.bm K rfl PySem.F.slot_list_append PySem.F.type_list_append cL Y.dw (Y.vS 1) (Y.cons (Y.tup (Y.cons (Y.ix (Y.cE K rfl) Y.aV (Y.vS 3) Y.int) (Y.cons (Y.ix (Y.cE K rfl) Y.aV (Y.vS 4) Y.int) Y.nil))) Y.nil)))
   (Y.ba (Y.DJ (i:=2) aG.nd rfl (by walk_at "lc") (Y.fn K rfl hcalm_by_weight (hr.mono (by decide)) rfl aR (Y.cons (Y.op (Y.aD K rfl) Y.aC (Y.dh K rfl (Y.vS 2) (Y.rY Y.int) Y.sg) (Y.lst (Y.cons (Y.vS 5) Y.nil))) Y.nil)))))))))
   (Y.ba (Y.ret (Y.ct (Y.bU K rfl) Y.cD rfl T.cY (by decide +kernel) (Y.cons (Y.vS 1) Y.nil))))))),?_⟩
 refine ng fun N hN=>?_;walk_at "rt";rw[hN];clear hN N;refine ng fun N hN=>?_;walk_at "rt";rw[pH];refine d5 (fun rest acc μ=>∃ i:Nat,i<=cs.length/\(rest=(List.range' i (cs.length - i)).map fun i:Nat=>L2.T.tup [.int (i:Int),.int (cQ cs i)])/\acc=wT (eX cs i)/\μ=[.tr (.tup (nI cs)),.bx (.lst []),.un,.un,.un,.un]) ⟨0,Nat.zero_le _,rfl,rfl,rfl⟩ ?_ ?_
 ·rintro acc μ ⟨i,hi,e,rfl,rfl⟩;have hi2:i=cs.length:=by
   have:=congrArg List.length e;rw[List.length_map,List.length_range',List.length_nil] at this;lia
  subst hi2;refine⟨trivial,?_⟩;walk_at "rt";refine⟨_,rfl,by rw[dB];lia,?_⟩
  walk_at "rt";rw[hN];clear hN N;refine ng fun N hN=>?_;refine⟨fun m μ=>∃ (done:List (Nat×Nat)) (st:List WN) (o3 o4 o5:Option L2.T),done++hf st.length st (cs.length+done.length)=cH cs/\st.length+done.length=cs.length/\1<=st.length/\m=st.length/\μ=[.tr (.tup (nI cs)),.bx (.lst (zl done)),.tr (.lst (wT st)),sl o3,sl o4,sl o5],⟨_,[],eW (eX cs cs.length),none,none,none,by rw[cW,dB];rfl,by rw[cW,dB];rfl,by rw[cW,dB];exact hn1,rfl,rfl⟩,?_⟩
  rintro m μ ⟨done,st,o3,o4,o5,e1,e2,e3,rfl,rfl⟩;by_cases h1:(1:Int) < (st.length:Int)
  ·wp_walk using eO,if_pos h1;rcases st with _ | ⟨a,_ | ⟨b,r⟩⟩
   ·simp at h1
   ·simp at h1
   ·have a0:bS (wT (a::b::r)) 0=some (EB a):=cJ (xs:=wT (a::b::r)) (j:=0) rfl;have a1:bS (wT (a::b::r)) 1=some (EB b):=cJ (xs:=wT (a::b::r)) (j:=1) rfl;have f0:∀ x:WN,bS [L2.T.int x.1,.int (x.2:Int)] 0=some (.int x.1):=fun x=>rfl;have f1:∀ x:WN,bS [L2.T.int x.1,.int (x.2:Int)] 1=some (.int (x.2:Int)):=fun x=>rfl;rw[List.length_cons,List.length_cons] at e2;refine ng fun M2 h2=>?_;wp_walk using a0;rw[h2];clear h2 M2;refine ng fun M2 h2=>?_;wp_walk using a1;rw[h2];clear h2 M2;refine ng fun M2 h2=>?_;unfold EB;wp_walk using f0,aY,qp;refine⟨by decide,?_⟩
    rw[h2];clear h2 M2;refine ng fun M2 h2=>?_;wp_walk using f1;refine⟨by decide,by rw[qp];exact Nat.lt_of_le_of_lt (show done.length<=20 by lia) (by decide),?_⟩
    rw[h2];clear h2 M2;have ec:Y.bH (wT (a::b::r)) (some 2) none=wT r:=by
     unfold Y.bH;rw[HT.dW,show (some (2:Int))=some ((2:Nat):Int) from rfl,HT.fm,eO];show ((wT (a::b::r)).drop (min 2 (r.length+1+1))).take (r.length+1+1 - min 2 (r.length+1+1))=_;rw[Nat.min_eq_left (by lia)]
     exact List.take_of_length_le (by rw[show (wT (a::b::r)).drop 2=wT r from rfl,eO];lia)
    wp_walk using ec,eO;refine⟨by decide,Nat.le_trans (show _<=100 by lia) (by decide),r++[(a.1+b.1,cs.length+done.length)],?_,by rw[List.length_append,List.length_singleton];lia,?_⟩
    ·rw[vA];show _=[L2.T.lst (wT r++[L2.T.tup [.int (a.1+b.1),.int ((cs.length+done.length:Nat):Int)]])];rw[Int.natCast_add]
    ·walk_at "rt";have hl:(eW (r++[(a.1+b.1,cs.length+done.length)])).length=r.length+1:=by rw[cW,List.length_append,List.length_singleton]
     refine⟨_,?_,done++[(a.2,b.2)],eW (r++[(a.1+b.1,cs.length+done.length)]),some (.tup [.int a.1,.int (a.2:Int)]),some (.tup [.int b.1,.int (b.2:Int)]),some (.tup [.int (a.1+b.1),.int ((cs.length:Int)+(done.length:Int))]),?_,?_,?_,rfl,?_⟩
     ·rw[hl];lia
     ·rw[<- e1,hl,List.append_assoc];congr 1;show (a.2,b.2)::hf (r.length+1) _ _=(a.2,b.2)::hf (r.length+1) _ _;rw[List.length_append,List.length_singleton,<- Nat.add_assoc]
     ·rw[hl,List.length_append,List.length_singleton];lia
     ·rw[hl];lia
     ·rw[ye];rfl
  ·wp_walk using eO,if_neg h1;have hs1:st.length=1:=by lia
   obtain⟨a,rfl⟩:=List.length_eq_one_iff.mp hs1;rw[hN];clear hN N;walk_at "rt";rw[show hf [a].length [a] (cs.length+done.length)=[] from rfl,List.append_nil] at e1;rw[e1];exact q
 ·rintro t r acc μ M ⟨i,hi,e,rfl,rfl⟩ k;have hi2:i < cs.length:=by
   have:=congrArg List.length e;rw[List.length_map,List.length_range',List.length_cons] at this;lia
  rw[show cs.length - i=(cs.length - (i+1))+1 by lia,List.range'_succ,List.map_cons] at e
  obtain⟨rfl,rfl⟩:=List.cons.inj e;clear e;refine⟨trivial,by rw[eO,dB];exact Nat.lt_of_le_of_lt (show i<=20 by lia) (by decide),?_⟩
  walk_at "rt";refine⟨by decide,k _ _ ⟨i+1,hi2,rfl,?_,rfl⟩⟩
  rw[vD,vA];rfl
def y9:fE:=fun args Q=>∃ (cs:List Int) (b:Int),args=[.tup (nI cs),.int b]/\1<=cs.length/\cs.length<=20/\-40<=b/\b<=40/\jM cs.length b=true/\Q (.tr (.tup (nN (bR cs b.toNat)))) []
def t7:fE:=fun args Q=>∃ cs:List Int,args=[.tup (nI cs)]/\1<=cs.length/\cs.length<=20/\Q (.tr (.tup [.tup (nN (bR cs cs.length)),.tup (zl (cH cs))])) []
theorem CH{n:Nat}(h:1<=n):jM n (n:Int)=true:=decide_eq_true ⟨by lia,by rw[Int.toNat_natCast];exact Nat.le_trans (pd n h) (Nat.pow_le_pow_right (by decide) (by lia))⟩
theorem sP(T:Txt K mg)(F:HasFn K mg "paper_of" b9 ["counts"])(hle:ah P w K mg base (m7 P w) 6 "least_lengths" ["counts","bound"] (rK K [false,false] (om C)))(hlightest_first:ah P w K mg base bY 5 "lightest_first" ["counts"] (spT K [false] sS)):
  ah P w K mg base bY 7 "paper_of" ["counts"] (spT K [false] t7):=by
 have hcalm_least_lengths:ah P w K mg base bY 6 "least_lengths" ["counts","bound"] (spT K [false,false] y9):=hle.calm fun args Q ⟨cs,b,e,h1,h2,h3,h4,h5,q⟩=>⟨cs,b,e,h1,h2,h3,h4,.inl ⟨h5,q⟩⟩;refine F.rL lA [false] rfl (by decide) (fun args Qt hl h f cdv A outer s H E hr=>?_)
 have hu:=bV hr;obtain⟨cs,rfl,hn1,hn,q⟩:=h;refine⟨_,(Y.ba (Y.ret (Y.tup (Y.cons (Y.fn K rfl hcalm_least_lengths (hr.mono (by decide)) rfl aR (Y.cons (Y.vS 0) (Y.cons (Y.cb (Y.aU K rfl) Y.bG rfl T.cG (by decide +kernel) (Y.cons (Y.vS 0) Y.nil)) Y.nil))) (Y.cons (Y.fn K rfl hlightest_first (hr.mono (by decide)) rfl aR (Y.cons (Y.vS 0) Y.nil)) Y.nil))))),?_⟩
 wp_walk using aY;refine⟨cs,(cs.length:Int),rfl,hn1,hn,by lia,by lia,CH hn1,?_⟩
 walk_at "rt";refine⟨cs,rfl,hn1,hn,?_⟩;walk_at "rt";exact⟨by decide,by rw[Int.toNat_natCast];exact q⟩
def BX(st:List WN):Prop:=st.Pairwise fun x y=>x.1<=y.1
theorem cP(X:List WN):(eW X).Perm X:=lG (by rw[List.length_map])
theorem lq(l:List WN):∀ p∈(l.map fun x=>x.1).zip l,p.1=p.2.1:=by
 induction l with
 | nil=>exact fun p h=>by cases h
 | cons x l ih =>
  intro p h;rw[List.map_cons,List.zip_cons_cons] at h;rcases List.mem_cons.mp h with e | e
  ·rw[e]
  ·exact ih p e
theorem fX(l:List WN):BX (eW l):=by
 unfold eW dI BX;rw[List.pairwise_map];refine (fv ((l.map fun x=>x.1).zip l)).imp_of_mem fun {a b} ha hb h=>?_;rw[<- lq l a ((bQ _).mem_iff.mp ha),<- lq l b ((bQ _).mem_iff.mp hb)];exact h
def hT:Nat->List WN->Nat->Int
 | k+1,a::b::r,p=>(a.1+b.1)+hT k (eW (r++[(a.1+b.1,p)])) (p+1)
 | _,_,_=>0
def yy(st:List WN):List Int:=st.map fun x=>x.1
theorem Fe:∀ (m:Nat) (st:List WN) (p:Nat),st.length=m->1<=m->m<=20->BX st->(∀ x∈st,0<=x.1)->LB (yy st) (hT m st p)/\AC (yy st) (hT m st p):=by
 intro m
 induction m with
 | zero=>intro st p _ h;lia
 | succ m ih =>
  intro st p hl _ hm hu h0;rcases st with _ | ⟨a,_ | ⟨b,r⟩⟩
  ·cases hl
  ·have e:hT (m+1) [a] p=0:=by simp[hT]
   rw[e];exact⟨LB.one a.1 (h0 a (by simp)),AC.one a.1⟩
  ·have hl2:r.length+1=m:=by simpa using hl
   have hp:=cP (r++[(a.1+b.1,p)]);have ha:=h0 a (by simp)
   have hb:=h0 b (by simp)
   obtain⟨g1,g2⟩:=ih (eW (r++[(a.1+b.1,p)])) (p+1) (by rw[cW,List.length_append];exact hl2) (by lia) (by lia) (fX _) fun x hx=>by
    rcases List.mem_append.mp (hp.mem_iff.mp hx) with z | z
    ·exact h0 x (by simp[z])
    ·rw[List.mem_singleton.mp z];exact Int.add_nonneg ha hb
   have hq:(yy (eW (r++[(a.1+b.1,p)]))).Perm ((a.1+b.1)::yy r):=by
    refine (hp.map _).trans ?_;rw[List.map_append];exact List.perm_append_comm
   have e:hT (m+1) (a::b::r) p=hT m (eW (r++[(a.1+b.1,p)])) (p+1)+(a.1+b.1):=by rw[hT];lia
   rw[e];have hu2:(a.1::b.1::yy r).Pairwise (·<=·):=List.pairwise_map.mpr hu;refine⟨(g1.perm hq.symm).merge ha hu2,(g2.perm hq).merge ?_⟩;unfold yy;rw[List.length_map];lia
structure eN (st:List WN) (ws:List Int) (sd:List Bool):Prop where
 len:sd.length=ws.length
 nd:(st.map fun x=>x.2).Nodup
 up:BX st
 at_:∀ x∈st,ws[x.2]?=some x.1
 iff:∀ k:Nat,sd[k]?=some true ↔ k∈st.map fun x=>x.2
theorem eN.first(cs:List Int):eN (eW (eX cs cs.length)) cs (List.replicate cs.length true):=by
 have hp:=cP (eX cs cs.length);have e:(eX cs cs.length).map (fun x=>x.2)=List.range cs.length:=by
  unfold eX;rw[List.map_map];exact List.map_id _
 refine⟨List.length_replicate ..,?_,fX _,fun x hx=>?_,fun k=>?_⟩
 ·rw[(hp.map _).nodup_iff,e];exact List.nodup_range
 ·obtain⟨i,hi,rfl⟩:=List.mem_map.mp (hp.mem_iff.mp hx);have h:=List.mem_range.mp hi;show cs[i]?=some (cQ cs i);unfold cQ;rw[List.getD_eq_getElem?_getD,List.getElem?_eq_getElem h];rfl
 ·rw[(hp.map _).mem_iff,e,List.mem_range,List.getElem?_replicate];by_cases h:k < cs.length
  ·rw[if_pos h];exact⟨fun _=>h,fun _=>rfl⟩
  ·rw[if_neg h];exact⟨fun z=>(by cases z),fun z=>absurd z h⟩
theorem eN.lt{st:List WN}{ws:List Int}{sd:List Bool}(h:eN st ws sd){x:WN}(hx:x∈st):x.2 < ws.length:=(List.getElem?_eq_some_iff.mp (h.at_ x hx)).1
theorem eN.next{a b:WN}{r:List WN}{ws:List Int}{sd:List Bool}(h:eN (a::b::r) ws sd):eN (eW (r++[(a.1+b.1,ws.length)])) (ws++[a.1+b.1]) ((sd.set a.2 false).set b.2 false++[true]):=by
 have hp:=cP (r++[(a.1+b.1,ws.length)]);have hr:∀ x∈r,x.2 < ws.length:=fun x hx=>h.lt (by simp[hx])
 have nd:=h.nd;rw[List.map_cons,List.map_cons,List.nodup_cons,List.nodup_cons] at nd;have e:((r++[(a.1+b.1,ws.length)]).map fun x=>x.2)=(r.map fun x=>x.2)++[ws.length]:=by rw[List.map_append];rfl
 have hl:((sd.set a.2 false).set b.2 false).length=ws.length:=by rw[List.length_set,List.length_set,h.len]
 refine⟨by rw[List.length_append,List.length_append,hl];rfl,?_,fX _,fun x hx=>?_,fun k=>?_⟩
 ·rw[(hp.map _).nodup_iff,e,List.nodup_append];refine⟨nd.2.2,List.pairwise_singleton _ _,fun x hx y hy=>?_⟩;obtain⟨z,hz,rfl⟩:=List.mem_map.mp hx;rw[List.mem_singleton.mp hy];exact Nat.ne_of_lt (hr z hz)
 ·rcases List.mem_append.mp (hp.mem_iff.mp hx) with z | z
  ·rw[List.getElem?_append_left (hr x z)];exact h.at_ x (by simp[z])
  ·rw[List.mem_singleton.mp z];show (ws++[a.1+b.1])[ws.length]?=some (a.1+b.1);rw[List.getElem?_append_right (Nat.le_refl _),Nat.sub_self];rfl
 ·rw[(hp.map _).mem_iff,e,List.mem_append,List.mem_singleton];rcases Nat.lt_or_ge k ws.length with hk | hk
  ·rw[List.getElem?_append_left (by rw[hl];exact hk)]
   have hkl:k≠ws.length:=Nat.ne_of_lt hk;by_cases kb:b.2=k
   ·subst kb;rw[List.getElem?_set_self (by rw[List.length_set,h.len];exact hk)]
    exact⟨fun z=>(by cases z),fun z=>z.elim (fun z=>absurd z nd.2.1) fun z=>absurd z hkl⟩
   ·rw[List.getElem?_set_ne kb];by_cases ka:a.2=k
    ·subst ka;rw[List.getElem?_set_self (by rw[h.len];exact hk)]
     exact⟨fun z=>(by cases z),fun z=>z.elim (fun z=>absurd (List.mem_cons_of_mem _ z) nd.1) fun z=>absurd z hkl⟩
    ·rw[List.getElem?_set_ne ka,h.iff k,List.map_cons,List.map_cons,List.mem_cons,List.mem_cons];exact⟨fun z=>z.elim (fun z=>absurd z.symm ka) fun z=>z.elim (fun z=>absurd z.symm kb) .inl,fun z=>.inr (.inr (z.elim id fun z=>absurd z hkl))⟩
  ·rw[List.getElem?_append_right (by rw[hl];exact hk),hl]
   rcases Nat.eq_or_lt_of_le hk with q | q
   ·rw[<- q,Nat.sub_self];exact⟨fun _=>.inr rfl,fun _=>rfl⟩
   ·rw[List.getElem?_eq_none (by rw[List.length_singleton];lia)]
    refine⟨fun z=>(by cases z),fun z=>z.elim (fun z=>?_) fun z=>by lia⟩
    obtain⟨x,hx,rfl⟩:=List.mem_map.mp z;have:=hr x hx;lia
local macro_rules | `(tactic| walk_at "rz") => do
  let ids := ("Nat.reduceAdd Nat.reduceSub Nat.reduceLeDiff L2.Ap.fF L2.Ap.tC L2.Ap.n_ L2.Ap.gf L2.Ap.Ej L2.Ap.kX L2.Ap.BP L2.Ap.wc L2.Ap.iQ L2.Ap.yg L2.Ap.dX L2.Ap.hC L2.Ap.rX L2.Ap.qK L2.Ap.h_ L2.Ap.bO L2.Ap.mS L2.Ap.dR L2.Ap.m8 L2.Ap.uk L2.Ap.va L2.Ap.lr y4 vV L2.Ap.oM L2.Ap.FZ L2.Ap.EL L2.Ap.CC L2.Ap.Bj L2.Ap.CF L2.Ap.xp L2.start Ec DB CV CI List.map_cons List.map_nil List.length_cons List.length_nil List.replicate List.cons_append List.nil_append List.append_nil List.getElem?_cons_zero List.getElem?_cons_succ List.set_cons_zero List.set_cons_succ Option.some.injEq exists_eq_left' V.int.injEq V.bl.injEq V.ref.injEq List.cons.injEq and_true true_and decide_eq_true_eq Bool.not_eq_true' decide_eq_false_iff_not Bool.false_eq_true L2.Ap.ij L2.Ap.iK L2.Ap.i7 L2.Ap.my L2.Ap.lS L2.Ap.j7 L2.Ap.lH".splitOn " ").toArray.map fun n => Lean.mkIdent n.toName
  `(tactic| simp only [↓reduceIte, $[$ids:ident],*])
def look(st:List (Int×Int))(k:Int):Option Int:=match st with
 | []=>none
 | p::st=>if p.1=k then some p.2 else look st k
def Gh(st:List (Int×Int)):L2.T:=.jH (st.map fun p=>.inl p.1) (st.map fun p=>.int p.2)
def eZ(st:List (Int×Int)):List (Key×V):=st.map fun p=>(.inl p.1,.int p.2)
theorem du(k:Int):∀ st:List (Int×Int),cq (eZ st) (.inl k)=(look st k).map V.int
 | []=>rfl
 | p::st=>by
  unfold eZ look;rw[List.map_cons];by_cases e:p.1=k
  ·rw[if_pos e,bD (by rw[e])];rfl
  ·rw[if_neg e,bB (fun z=>e (Sum.inl.inj z))];exact du k st
def eU(st:List (Int×Int))(a b:Int):Bool:=if a=b then false else match look st a,look st b with
 | some x,some y=>(st.filter fun p=>decide (p.1≠a) && decide (p.1≠b)).all fun p=>decide ((if x < y then y else x)<=(look st p.1).getD 0)
 | _,_=>false
theorem oJ{H:Hp}{B:aL}:∀ {st:List (Int×Int)} {vs:List V},aj K H B vs (st.map fun p=>.int p.2)->(st.map fun p=>(Sum.inl p.1:Key)).zip vs=eZ st
 | [],_,r=>by cases r;rfl
 | p::st,_,r=>by
  cases r with
  | cons h r=>cases h;rw[List.map_cons,List.zip_cons_cons,oJ r];rfl
theorem lB:∀ {st:List (Int×Int)} {p:Int×Int},p∈st->∃ v,look st p.1=some v
 | q::st,p,h=>by
  unfold look;by_cases e:q.1=p.1
  ·exact⟨_,if_pos e⟩
  ·rw[if_neg e];rcases List.mem_cons.mp h with rfl | h
   ·exact absurd rfl e
   ·exact lB h
def A7:fE:=fun args Q=>∃ (st:List (Int×Int)) (a b:Int),args=[Gh st,.int a,.int b]/\st.length<=100/\Q (.tr (.bl (eU st a b))) []
theorem zG(T:Txt K mg)(F:HasFn K mg "may_be_put" aP ["standing","one","other"]):ah P w K mg base bY 1 "may_be_put" ["standing","one","other"] (spT K [false,false,false] A7):=by
 refine F.Ga eI (fun vs H Q E h=>?_) (fun f cdv A outer s H vs Q E hr h=>?_)
 ·obtain⟨B,args,Qt,ag,_⟩:=h;exact ag.len.1
 ·obtain⟨B,args,Qt,ag,hB,hnd,⟨st,a,b,rfl,hst,hq⟩,q⟩:=h;have hu:=bV hr;obtain⟨v1,v2,v3,rfl⟩:=Y.zO ag.len.1;obtain⟨r1,r2,r3,_⟩:=ag;cases r3;cases r2
  cases r1 with
  | @jH d ks vs ts nd hd ll rr =>
   rw[oJ rr] at hd;refine⟨_,(Z.ai (Z.ml (Z.tw (Z.Cb (Z.cB wd (Z.v 1) (Z.v 2)) (Z.Cb (Z.cB (Y.mj hu) (Z.v 1) (Z.v 0)) (Z.si (Z.cB (Y.mj hu) (Z.v 2) (Z.v 0)))))) (Z.ba (Z.ret Z.bl)) Z.dU)
   (Z.ai (Z.set (i:=3) eI.nd rfl (by walk_at "lc") (Z.cb (jC rfl) rfl T.zq (by decide +kernel) (Z.cons (Z.yd hu (Z.v 0) (Z.v 1)) (Z.cons (Z.yd hu (Z.v 0) (Z.v 2)) Z.nil))))
   (Z.ba (Z.ret (Z.allB K rfl rfl rfl T.CU (Z.cons (Z.hold fun d0 o0 kvs0=>(Z.comp (osc:=aa aP) (ON:=["standing","one","other","heavier"]) (own:=["beside"]) (N:=["beside","standing","one","other","heavier"]) ⟨rfl,by decide +kernel,rfl,by decide +kernel,by decide +kernel,by decide +kernel,by decide +kernel,by decide +kernel⟩ rfl rfl rfl (Z.held d0 o0 kvs0 (Z.v 0)) (fun _ _ _ _=>(Z.bq (i:=0) (show List.Nodup (["beside","standing","one","other","heavier"]:List Str) by decide +kernel) rfl (by walk_at "lc"))) (fun _ _ _ _=>(Z.Gq (Z.tw (Z.vg (Z.cB v8 (Z.v 0) (Z.v 2)) (Z.mB (Z.cB v8 (Z.v 0) (Z.v 3))))))) (fun _ _ _ _=>(Z.cmp Cj (Z.v 4) (Z.yd hu (Z.v 1) (Z.v 0)))))) Z.nil)))))),?_⟩
   refine uF fun N hN=>?_;walk_at "rz";have dg:∀ k:Int,oE H d (.int k) ((look st k).map V.int):=fun k=>.inl ⟨eZ st,.inl k,hd,rfl,(du k st).symm⟩;have fin:∀ r:Bool,eU st a b=r->Q (V.bl r) H:=fun r e=>by
    rw[e] at hq;exact q _ _ _ _ hq (fun b o e _=>e) ⟨.bl _,.nil⟩
   by_cases hab:a=b
   ·rw[if_pos hab];exact fin false (by unfold eU;rw[if_pos hab])
   rw[if_neg hab]
   cases ha:look st a with
   | none =>
    refine⟨d,_,rfl,dg a,_,rfl,?_⟩;rw[ha];exact fin false (by unfold eU;rw[if_neg hab,ha])
   | some x =>
   refine⟨d,_,rfl,dg a,_,rfl,?_⟩;rw[ha]
   cases hb:look st b with
   | none =>
    refine⟨d,_,rfl,dg b,_,rfl,?_⟩;rw[hb];exact fin false (by unfold eU;rw[if_neg hab,ha,hb])
   | some y =>
   refine⟨d,_,rfl,dg b,_,rfl,?_⟩;rw[hb];show N _ _;rw[hN];clear hN N;refine uF fun N hN=>?_;walk_at "rz";refine⟨d,_,rfl,by have:=dg a;rw[ha] at this;exact this,d,_,rfl,by have:=dg b;rw[hb] at this;exact this,?_⟩
   walk_at "rz";rw[hN];clear hN N;walk_at "rz";have comp:∀ (o:Obj) (Hf:Hp) (QQ:VK),Hf d=some (.cI o (.dK (eZ st)))->(∀ D H',Hf D=none->H' d=some (.cI o (.dK (eZ st)))->KB [] Hf H'->H' D=some (.lst (((st.filter fun p=>decide (p.1≠a) && decide (p.1≠b)).map fun p=>decide ((if x < y then y else x)<=(look st p.1).getD 0)).map V.bl))->QQ (.ref D) H') ->
     uf (Dz d o (eZ st)) 1 (bO 0) (kX (gf (n_ AN (fF 0) (fF 2))) (gf (n_ AN (fF 0) (fF 3)))) (n_ (oM fun i j=>V.bl (decide (i<=j))) (fF 4) (j7 (fF 1) (fF 0))) QQ [some (V.ref d),some (V.int a),some (V.int b),some (V.int (if y > x then y else x))] Hf:=fun o Hf QQ hf fq=>by
    refine nM (Nat.le_trans (show (eZ st).length<=100 by unfold eZ;rw[List.length_map];exact hst) (by decide)) (fun D i ys H'=>Hf D=none/\KB [] Hf H'/\H' D=some (.lst ys)/\ys=((((st.take i).filter fun p=>decide (p.1≠a) && decide (p.1≠b)).map fun p=>decide ((if x < y then y else x)<=(look st p.1).getD 0)).map V.bl)) (fun D hD=>⟨hD,KB.new hD,af,rfl⟩) (fun D i ys H' ⟨h1,h2,h3,h4⟩=>⟨h3,by rw[h4,List.length_map,List.length_map];exact Nat.le_trans (List.length_filter_le ..) (by rw[List.length_take];exact Nat.min_le_left _ _)⟩) (fun D i ys H' ⟨h1,h2,h3,h4⟩=>h2 _ _ hf (by simp)) ?_ ?_
    ·rintro D i ys H' p R R0 hp ⟨h1,h2,h3,rfl⟩ k1 k0;have hi:i < st.length:=by
      have:=(List.getElem?_eq_some_iff.mp hp).1;unfold eZ at this;rw[List.length_map] at this;exact this
     have ep:p=(.inl (st[i]).1,.int (st[i]).2):=by
      unfold eZ at hp;rw[List.getElem?_map,List.getElem?_eq_getElem hi] at hp;exact (Option.some.inj hp).symm
     subst ep;have et:st.take (i+1)=st.take i++[st[i]]:=(List.take_append_getElem hi).symm;obtain⟨v,ev⟩:=lB (List.getElem_mem hi);have emx:(if y > x then y else x)=if x < y then y else x:=rfl
     rw[et,List.filter_append] at k1 k0;generalize st[i]=pp at *;show kX _ _ [some (V.int pp.1),_,_,_,_] _ _;walk_at "rz";by_cases c1:pp.1=a
     ·rw[if_neg (not_not_intro c1)];refine k0 _ ⟨h1,h2,h3,?_⟩;rw[List.filter_cons_of_neg (by simp[c1]),List.filter_nil,List.append_nil]
     ·rw[if_pos c1];by_cases c2:pp.1=b
      ·rw[if_neg (not_not_intro c2)];refine k0 _ ⟨h1,h2,h3,?_⟩;rw[List.filter_cons_of_neg (by simp[c2]),List.filter_nil,List.append_nil]
      ·rw[if_pos c2];refine⟨d,.int v,rfl,.inl ⟨eZ st,.inl pp.1,.inr ⟨o,h2 _ _ hf (by simp)⟩,rfl,by rw[du,ev];rfl⟩,?_⟩
       walk_at "rz";refine k1 _ _ h3 ⟨h1,fun c u e _=>?_,af,?_⟩
       ·rw[ae (ak e h1)];exact h2 c u e (by simp)
       ·rw[List.filter_cons_of_pos (by simp[c1,c2]),List.filter_nil,List.map_append,List.map_append]
        show _=_++[V.bl (decide ((if x < y then y else x)<=(look st pp.1).getD 0))]
        rw[ev];rfl
    ·rintro D ys H' ⟨h1,h2,h3,rfl⟩;refine fq D H' h1 (h2 _ _ hf (by simp)) h2 ?_
     rw[h3,List.take_of_length_le (by unfold eZ;rw[List.length_map];exact Nat.le_refl _)]
   have eall:eU st a b=(((st.filter fun p=>decide (p.1≠a) && decide (p.1≠b)).map fun p=>decide ((if x < y then y else x)<=(look st p.1).getD 0)).all id):=by
    unfold eU;rw[if_neg hab,ha,hb,List.all_map];rfl
   rcases hd with hd | ⟨o,hd⟩
   ·refine⟨d,eZ st,.inl ⟨hd,fun o=>⟨rfl,comp o _ _ af fun D H' hD hdd kb oD=>⟨hdd,D,_,rfl,bK.of (by rw[ae (fun z=>by rw[z,af] at hD;cases hD)];exact oD),?_⟩⟩⟩⟩
    rw[<- eall];refine q _ _ _ _ hq (fun c u e _=>?_) ⟨.bl _,.nil⟩;by_cases z:c=d
    ·subst z;rw[hd] at e;cases e;exact af
    ·rw[ae z];exact kb c u (by rw[ae z];exact e) (by simp)
   ·refine⟨d,eZ st,.inr ⟨o,hd,rfl,hd,comp o _ _ hd fun D H' hD hdd kb oD=>⟨D,_,rfl,bK.of oD,?_⟩⟩⟩;rw[<- eall];exact q _ _ _ _ hq (fun c u e _=>kb c u e (by simp)) ⟨.bl _,.nil⟩
def iV(xs:List Int):List V:=xs.map V.int
theorem i8{H:Hp}{B:aL}:∀ {xs:List Int} {vs:List V},aj K H B vs (nI xs)->vs=iV xs
 | [],_,r=>by cases r;rfl
 | x::xs,_,r=>by
  cases r with
  | cons h r=>cases h;rw[i8 r];rfl
def xI(ps:List (Nat×Nat)):List L2.T:=ps.map fun p=>.tup [.int (p.1:Nat),.int (p.2:Nat)]
def eS(st:List (Int×Int))(n:Nat)(a b:Int):Option (List (Int×Int)×Int):=if eU st a b=true then (match look st a,look st b with
 | some x,some y=>some ((st.filter fun p=>decide (p.1≠a) && decide (p.1≠b))++[((n:Int),x+y)],x+y)
 | _,_=>none) else none
def putAll(st:List (Int×Int))(n:Nat)(w:Int):List (Nat×Nat)->Option (List (Int×Int)×Int)
 | []=>some (st,w)
 | p::ps=>(match eS st n p.1 p.2 with
  | some (st',v)=>putAll st' (n+1) (w+v) ps
  | none=>none)
def num:List Int->Nat->List (Int×Int)
 | [],_=>[]
 | c::cs,i=>((i:Int),c)::num cs (i+1)
theorem oH:∀ (cs:List Int) (i:Nat),(num cs i).length=cs.length
 | [],_=>rfl
 | c::cs,i=>congrArg (·+1) (oH cs (i+1))
theorem t8:∀ (cs:List Int) (i:Nat) (p:Int×Int),p∈num cs i->p.1 < ((i+cs.length:Nat):Int)
 | c::cs,i,p,h=>by
  rcases List.mem_cons.mp h with rfl | h
  ·show (i:Int) < _;rw[List.length_cons];lia
  ·have:=t8 cs (i+1) p h;rw[List.length_cons];lia
theorem mh(st:List (Int×Int))(a:Int):gm (eZ st) (.inl a)=eZ (st.filter fun p=>decide (p.1≠a)):=by
 unfold gm eZ;rw[List.filter_map];congr 1;refine List.filter_congr fun p _=>?_;show decide (¬ (Sum.inl p.1:Key)=Sum.inl a)=decide (p.1≠a);exact decide_eq_decide.mpr ⟨fun h z=>h (by rw[z]),fun h z=>h (Sum.inl.inj z)⟩
theorem oV:∀ st:List (Int×Int),(st.map fun p=>(Sum.inl p.1:Key)).zip (st.map fun p=>V.int p.2)=eZ st
 | []=>rfl
 | p::st=>by rw[List.map_cons,List.map_cons,List.zip_cons_cons,oV st];rfl
theorem p7{H:Hp}{B:aL}:∀ st:List (Int×Int),aj K H B (st.map fun p=>V.int p.2) (st.map fun p=>.int p.2)
 | []=>.nil
 | p::st=>.cons (.int _) (p7 st)
theorem tM{st:List (Int×Int)}{a b:Int}(h:eU st a b=true):a≠b/\∃ x y,look st a=some x/\look st b=some y:=by
 unfold eU at h
 split at h
 ·cases h
 ·rename_i hab
  split at h
  ·rename_i x y h1 h2;exact⟨hab,x,y,h1,h2⟩
  ·cases h
theorem dH{a b:Int}(hab:a≠b):∀ st:List (Int×Int),look (st.filter fun p=>decide (p.1≠a)) b=look st b
 | []=>rfl
 | p::st=>by
  by_cases e:p.1=a
  ·rw[List.filter_cons_of_neg (by simp[e]),dH hab st]
   show _=if p.1=b then _ else _
   rw[if_neg (fun z=>hab (e.symm.trans z))]
  ·rw[List.filter_cons_of_pos (by simp[e])]
   show (if p.1=b then _ else _)=if p.1=b then _ else _
   rw[dH hab st]
theorem jk{k:Int}:∀ {st:List (Int×Int)},(∀ p∈st,p.1 < k)->look st k=none
 | [],_=>rfl
 | p::st,h=>by
  show (if p.1=k then _ else _)=_
  rw[if_neg (by have:=h p List.mem_cons_self;lia)]
  exact jk fun q hq=>h q (List.mem_cons_of_mem _ hq)
def cF(cs:List Int)(ps:List (Nat×Nat)):L2.T:=match putAll (num cs 0) cs.length 0 ps with
 | some (st,w)=>if st.length=1 then .int w else .aI
 | none=>.aI
def tH:fE:=fun args Q=>∃ (cs:List Int) (ps:List (Nat×Nat)),args=[.tup (nI cs),.tup (xI ps)]/\1<=cs.length/\cs.length<=20/\ps.length<=20/\Q (.tr (cF cs ps)) []
theorem uu(T:Txt K mg)(F:HasFn K mg "weight_put_together" ao ["counts","paper"])(hmay_be_put:ah P w K mg base bY 1 "may_be_put" ["standing","one","other"] (spT K [false,false,false] A7)):ah P w K mg base bY 2 "weight_put_together" ["counts","paper"] (spT K [false,false] tH):=by
 refine F.Ga ay (fun vs H Q E h=>?_) (fun f cdv A outer s H vs Q E hr h=>?_)
 ·obtain⟨B,args,Qt,ag,_⟩:=h;exact ag.len.1
 ·obtain⟨B,args,Qt,ag,hB,hnd,⟨cs,ps,rfl,hn1,hn,hp,hq⟩,q⟩:=h;have hu:=bV hr;obtain⟨v1,v2,rfl⟩:=Y.fC ag.len.1;obtain⟨r1,r2,_⟩:=ag
  cases r2 with
  | @tup pv pvs _ np op rp =>
   cases r1 with
   | @tup cv vsc _ nc oc rc =>
    have ec:=i8 rc;subst ec;refine⟨_,(Z.ai (Z.set (i:=2) ay.nd rfl (by walk_at "lc") (Z.CK K rfl rfl rfl T.cZ rfl T.Bl (Z.cons (Z.v 0) Z.nil)))
   (Z.ai (Z.set (i:=3) ay.nd rfl (by walk_at "lc") Z.int)
   (Z.ai (Z.gF PassesOwn.never rfl (Z.Dg K rfl rfl T.cZ (Z.cons (Z.v 1) Z.nil) (Z.cb (Z.C1 K rfl) rfl T.cG (by decide +kernel) (Z.cons (Z.v 0) Z.nil))) (Z.mW (n:=2) K rfl rfl (Z.bF (Z.bq (i:=4) ay.nd rfl (by walk_at "lc")) (Z.bF (Z.bq (i:=5) ay.nd rfl (by walk_at "lc")) Z.eE))) (Z.ai (Z.ml (Z.xi (Z.wo K rfl (Z.fn hmay_be_put (hr.mono (by decide)) rfl aR (Z.cons (Z.v 2) (Z.cons (Z.ix (Z.wN K rfl hu) (Z.v 5) Z.int) (Z.cons (Z.ix (Z.wN K rfl hu) (Z.v 5) Z.int) Z.nil)))))) (Z.ba (Z.ret Z.aI)) Z.dU)
   (Z.ai (Z.dput hu (Z.v 2) (Z.v 4) (Z.op (Z.yZ K rfl) (Z.zy (Z.v 2) (Z.ix (Z.wN K rfl hu) (Z.v 5) Z.int)) (Z.zy (Z.v 2) (Z.ix (Z.wN K rfl hu) (Z.v 5) Z.int))))
   (Z.ba (Z.set (i:=3) ay.nd rfl (by walk_at "lc") (Z.op (Z.yZ K rfl) (Z.v 3) (Z.yd hu (Z.v 2) (Z.v 4))))))))
   (Z.ba (Z.ret (Z.Gx (Z.cB wd (Z.cb rC rfl T.cG (by decide +kernel) (Z.cons (Z.v 2) Z.nil)) Z.int) (Z.v 3) Z.aI)))))),?_⟩
    refine uF fun N hN=>?_;walk_at "rz";refine⟨cv,iV cs,rfl,bu.of oc,by unfold iV;rw[List.length_map];lia,fun d hd=>?_⟩
    have een:∀ (cs:List Int) (i:Nat),nG (iV cs) i=eZ (num cs i):=fun cs=>by
     induction cs with
     | nil=>intro i;rfl
     | cons c cs ih=>intro i;exact congrArg (_::·) (ih (i+1))
    rw[een];rw[hN];clear hN N;refine uF fun N hN=>?_;walk_at "rz";rw[hN];clear hN N;refine uF fun N hN=>?_;walk_at "rz";obtain⟨H1,e1⟩:∃ H1,H1=upd H d (.dK (eZ (num cs 0))):=⟨_,rfl⟩;rw[<- e1];have k1:KB [] H H1:=by rw[e1];exact KB.new hd
    have od:H1 d=some (.dK (eZ (num cs 0))):=by rw[e1];exact af
    clear e1;have sc1:sq H1 cv=some (false,iV cs):=ku (k1 _ _ oc (by simp))
    simp only[sc1];have lv:(iV cs).length=cs.length:=List.length_map ..;have lp:pvs.length=ps.length:=by have:=rp.length;unfold xI at this;rw[List.length_map] at this;exact this
    refine⟨pv,cs.length,rfl,by rw[lv],by lia,⟨pvs,bu.of (k1 _ _ op (by simp))⟩,?_⟩
    refine oB (xs:=pvs) (fun i σ H'=>∃ (st:List (Int×Int)) (wt:Int) (o4 o5:Option V),KB [] H H'/\H' d=some (.dK (eZ st))/\putAll (num cs 0) cs.length 0 ps=putAll st (cs.length+i) wt (ps.drop i)/\(∀ p∈st,p.1 < ((cs.length+i:Nat):Int))/\st.length<=20+i/\σ=[some (V.ref cv),some (V.ref pv),some (V.ref d),some (V.int wt),o4,o5]) ⟨num cs 0,0,none,none,k1,od,rfl,?_,?_,rfl⟩ (fun i σ H' _ ⟨st,wt,o4,o5,h1,_⟩=>bu.of (h1 _ _ op (by simp))) ?_ ?_
    ·intro p hp;have:=t8 cs 0 p hp;rw[Nat.zero_add] at this;exact this
    ·rw[oH];lia
    ·rintro i x σ H2 pr ex ⟨st,wt,o4,o5,k2,od2,epa,hlt,hlen,rfl⟩ hpr;have hi:i < ps.length:=by have:=(List.getElem?_eq_some_iff.mp ex).1;lia
     obtain⟨v,ev,rv⟩:=rp.get (i:=i) (t:=.tup [.int ((ps[i]).1:Nat),.int ((ps[i]).2:Nat)]) (by unfold xI;rw[List.getElem?_map,List.getElem?_eq_getElem hi];rfl)
     rw[ex] at ev;cases ev;have epb:putAll (num cs 0) cs.length 0 ps=(match eS st (cs.length+i) (ps[i]).1 (ps[i]).2 with
       | some (st',v)=>putAll st' (cs.length+(i+1)) (wt+v) (ps.drop (i+1))
       | none=>none):=by rw[epa,List.drop_eq_getElem_cons hi];rfl
     clear epa ex;generalize ps[i]=pp at *;obtain⟨a,b⟩:=pp
     cases rv with
     | @tup qa vs2 _ nq oq rq =>
     have e2:=i8 (xs:=[(a:Int),(b:Int)]) rq;subst e2;have oq2:=k2 _ _ oq (by simp)
     clear hN;walk_at "rz";refine⟨pr,_,rfl,bu.of af,rfl,?_⟩;have k3:KB [] H2 (upd H2 pr (.tup [V.int ((cs.length+i:Nat):Int),.ref qa])):=KB.new hpr;have od3:=k3 _ _ od2 (by simp)
     have oq3:=k3 _ _ oq2 (by simp)
     generalize upd H2 pr (.tup [V.int ((cs.length+i:Nat):Int),.ref qa])=H3 at *;have sq3:sq H3 qa=some (false,iV [(a:Int),(b:Int)]):=ku oq3;walk_at "rz";simp only[sq3];show L2.spT K [false,false,false] A7 [V.ref d,V.int (a:Int),V.int (b:Int)] H3 _ _;have k33:=k2.trans k3;refine⟨B,[Gh st,.int (a:Int),.int (b:Int)],fun r outs=>r=.tr (.bl (eU st a b))/\outs=[],⟨.jH (fun z=>by obtain⟨o,ho⟩:=hB d z;rw[hd] at ho;cases ho) (.inl (by rw[oV];exact od3)) (by rw[List.length_map,List.length_map]) (p7 st),.int _,.int _,trivial⟩,fun b hb=>let ⟨o,ho⟩:=hB b hb;⟨o,k33 b o ho (by simp)⟩,List.nodup_nil,⟨st,a,b,rfl,by lia,rfl,rfl⟩,fun v H5 r outs hQ keep res=>?_⟩
     obtain⟨rfl,rfl⟩:=hQ;obtain⟨rep,_⟩:=res;cases rep;have k5:KB [] H3 H5:=fun b o e _=>keep b o e (by show b∉([]:List Addr);simp)
     have k55:=k33.trans k5;refine⟨eU st a b,rfl,?_⟩
     cases hm:eU st a b with
     | false =>
      rw[if_pos rfl];have ew:cF cs ps=.aI:=by
       unfold cF;rw[epb];unfold eS;rw[hm];rfl
      rw[ew] at hq;exact q _ _ _ _ hq (fun b o e _=>k55 b o e (by simp)) ⟨.aI,.nil⟩
     | true =>
      rw[if_neg (by decide)]
      obtain⟨hab,x,y,hx,hy⟩:=tM hm;have od5:=k5 _ _ od3 (by simp)
      have oq5:=k5 _ _ oq3 (by simp)
      have sq5:sq H5 qa=some (false,iV [(a:Int),(b:Int)]):=ku oq5;simp only[sq5];refine⟨.inl ⟨_,.inl od5⟩,?_⟩;refine⟨eZ st,.inl (a:Int),.int x,od5,rfl,by rw[du,hx];rfl,.inl ⟨_,.inl af⟩,?_⟩
      rw[mh];have nqd:qa≠d:=fun z=>by rw[z,hd] at oq;cases oq
      have sq6:sq (upd H5 d (.dK (eZ (st.filter fun p=>decide (p.1≠(a:Int)))))) qa=some (false,iV [(a:Int),(b:Int)]):=ku (by rw[ae nqd];exact oq5)
      simp only[sq6];refine⟨eZ (st.filter fun p=>decide (p.1≠(a:Int))),.inl (b:Int),.int y,rfl,rfl,by rw[du,dH hab,hy];rfl,?_⟩
      rw[mh,List.filter_filter,gJ];have ef:(st.filter fun p=>decide (p.1≠(b:Int)) && decide (p.1≠(a:Int)))=st.filter fun p=>decide (p.1≠(a:Int)) && decide (p.1≠(b:Int)):=List.filter_congr fun p _=>Bool.and_comm _ _;rw[ef];have epc:putAll (num cs 0) cs.length 0 ps=putAll ((st.filter fun p=>decide (p.1≠(a:Int)) && decide (p.1≠(b:Int)))++[(((cs.length+i:Nat):Int),x+y)]) (cs.length+(i+1)) (wt+(x+y)) (ps.drop (i+1)):=by
       rw[epb];unfold eS;rw[if_pos hm,hx,hy]
      have hf:∀ p∈st.filter fun p=>decide (p.1≠(a:Int)) && decide (p.1≠(b:Int)),p.1 < ((cs.length+i:Nat):Int):=fun p hp=>hlt p (List.mem_filter.mp hp).1;have hfl:(st.filter fun p=>decide (p.1≠(a:Int)) && decide (p.1≠(b:Int))).length<=st.length:=List.length_filter_le ..;generalize (st.filter fun p=>decide (p.1≠(a:Int)) && decide (p.1≠(b:Int)))=dE at *;have l2:(eZ dE).length=dE.length:=List.length_map ..;show ∃ a H4,d=a/\o8 _ a _ (.int (x+y)) H4/\_;refine⟨d,_,rfl,o8.k (k:=.inl ((cs.length+i:Nat):Int)) af (Nat.lt_of_le_of_lt (show _<=100 by lia) (by decide)),d,.int (x+y),rfl,.inl ⟨_,.inl ((cs.length+i:Nat):Int),.inl af,rfl,by rw[sj,if_pos rfl]⟩,?_⟩
      rw[l_ _ (by rw[du,jk hf];rfl),gJ]
      refine⟨dE++[(((cs.length+i:Nat):Int),x+y)],wt+(x+y),_,_,fun c o e _=>?_,?_,epc,fun p hp=>?_,?_,rfl,rfl,rfl⟩
      ·rw[ae (ak e hd)];exact k55 c o e (by simp)
      ·rw[af];unfold eZ;rw[List.map_append];rfl
      ·rcases List.mem_append.mp hp with hp | hp
       ·have:=hf p hp;lia
       ·rw[List.mem_singleton.mp hp];show ((cs.length+i:Nat):Int) < _;lia
      ·rw[List.length_append];simp only[List.length_cons,List.length_nil];lia
    ·rintro σ H2 ⟨st,wt,o4,o5,k2,od2,epa,hlt,hlen,rfl⟩;show N _ _;rw[hN];clear hN N;walk_at "rz";refine⟨d,eZ st,rfl,od2,?_⟩;have ew:cF cs ps=if st.length=1 then .int wt else .aI:=by
      unfold cF;rw[epa,lp,List.drop_length];rfl
     have ls:(eZ st).length=st.length:=List.length_map ..;rw[ew] at hq;by_cases h1:st.length=1
     ·rw[if_pos h1] at hq;rw[if_pos (by rw[ls,h1];rfl)]
      exact q _ _ _ _ hq (fun b o e _=>k2 b o e (by simp)) ⟨.int _,.nil⟩
     ·rw[if_neg h1] at hq;rw[if_neg (by rw[ls];lia)]
      exact q _ _ _ _ hq (fun b o e _=>k2 b o e (by simp)) ⟨.aI,.nil⟩
theorem xN(T:Txt K mg)(F:HasFn K mg "cost_of" bE ["counts","lengths"]):ah P w K mg base bY 1 "cost_of" ["counts","lengths"] (spT K [false,false] pZ):=by
 refine F.rL o7 [false,false] rfl (by decide) (fun args Qt hl h f cdv A outer s H E hr=>?_)
 have hu:=bV hr;obtain⟨c,cs,ls,rfl,hsq,hcl,hx,q⟩:=h;refine⟨_,(Y.ba (Y.ret (Y.cb (Y.jz K rfl rfl) Y.sv rfl T.yO (by decide +kernel) (Y.cons (Y.u6 K rfl (osc:=aa bE) (ON:=["counts","lengths"]) (own:=["count","length"]) (N:=["count","length","counts","lengths"]) ⟨rfl,by decide +kernel,rfl,by decide +kernel,by decide +kernel,by decide +kernel,by decide +kernel,by decide +kernel⟩ rfl rfl rfl rfl (Y.zip K rfl rfl T.ur (Y.cons (Y.vS 0) (Y.cons (Y.vS 1) Y.nil))) (fun _ _ _ _=>(Z.mW (n:=2) K rfl rfl (Z.bF (Z.bq (i:=0) (show List.Nodup (["count","length","counts","lengths"]:List Str) by decide +kernel) rfl (by walk_at "lc")) (Z.bF (Z.bq (i:=1) (show List.Nodup (["count","length","counts","lengths"]:List Str) by decide +kernel) rfl (by walk_at "lc")) Z.eE)))) (fun _ _ _ _=>Y.xn) (fun _ _ _ _=>(Y.op (Y.cy K rfl) Y.cx (Y.vS 0) (Y.vS 1)))) Y.nil)))),?_⟩
 wp_walk using hsq;refine d5 (fun rest acc μ=>∃ (cs' ls' vs:List Int),rest=jI (nI cs') (nI ls')/\cs'.length+vs.length<=20/\acc=nI vs/\(∀ x∈ls',1<=x/\x<=40)/\vs.sum+dot cs' ls'=dot cs ls/\μ=[.tr c,.tr (.tup (nI ls))]) ⟨cs,ls,[],rfl,by simpa using hcl,rfl,hx,by simp,rfl⟩ ?_ ?_
 ·rintro acc μ ⟨cs',ls',vs,e,_,rfl,_,ev,rfl⟩;have e0:dot cs' ls'=0:=by
   cases cs' with
   | nil=>rfl
   | cons=>cases ls' with
    | nil=>rfl
    | cons=>cases e
  refine⟨trivial,?_⟩;walk_at "rt";rw[e0,Int.add_zero] at ev;exact⟨vs,rfl,by rw[ev];exact q⟩
 ·rintro t ts acc μ M ⟨cs',ls',vs,e,hlen,rfl,hx',ev,rfl⟩ k
  cases cs' with
  | nil=>cases e
  | cons c cs'=>cases ls' with
   | nil=>cases e
   | cons l ls' =>
    cases e;rw[List.length_cons] at hlen;refine⟨trivial,by rw[aY];exact Nat.lt_of_le_of_lt (show vs.length<=20 by lia) (by decide),?_⟩
    walk_at "rt";refine⟨.inr (small (hx' l (by simp))),k _ _ ⟨cs',ls',vs++[c*l],rfl,by rw[List.length_append,List.length_singleton];lia,by rw[iL];rfl,fun x h=>hx' x (by simp[h]),?_,rfl⟩⟩
    rw[<- ev,List.sum_append];simp only[dot,List.sum_cons,List.sum_nil];lia
def kB(cs ls:List Int)(ps:List (Nat×Nat)):Bool:=if cs.length=1 then decide (ps.length=0) && decide (ls.getD 0 0=1) else (match cF cs ps with
 | .int w=>mT ls && decide (dot cs ls=w)
 | _=>false)
def vt:fE:=fun args Q=>∃ (cs ls:List Int) (ps:List (Nat×Nat)),args=[.tup (nI cs),.tup (nI ls),.tup (xI ps)]/\2<=cs.length/\cs.length<=20/\ls.length=cs.length/\ps.length<=20/\Cr ls/\Q (.tr (.bl (kB cs ls ps))) []
theorem tU(T:Txt K mg)(F:HasFn K mg "paper_shown" aO ["counts","lengths","paper"])(hweight_put_together:ah P w K mg base bY 2 "weight_put_together" ["counts","paper"] (spT K [false,false] tH))(hcan_be:ah P w K mg base bY 1 "can_be" ["lengths"] (spT K [false] tR))(hcost_of:ah P w K mg base bY 1 "cost_of" ["counts","lengths"] (spT K [false,false] pZ)):ah P w K mg base bY 3 "paper_shown" ["counts","lengths","paper"] (spT K [false,false,false] vt):=by
 refine F.rL dJ [false,false,false] rfl (by decide) (fun args Qt hl h f cdv A outer s H E hr=>?_)
 have hu:=bV hr;obtain⟨cs,ls,ps,rfl,h2,h20,hll,hp,hL,q⟩:=h;refine⟨_,(Y.ai (Y.ml (Y.cB (Y.cw K rfl (Nat.lt_of_succ_lt hu)) Y.dk (Y.cb (Y.aU K rfl) Y.bG rfl T.cG (by decide +kernel) (Y.cons (Y.vS 0) Y.nil)) Y.int) (Y.ba (Y.ret (Y.and (Y.cmp (Y.cw K rfl (Nat.lt_of_succ_lt hu)) Y.dk (Y.cb (Y.aU K rfl) Y.bG rfl T.cG (by decide +kernel) (Y.cons (Y.vS 2) Y.nil)) Y.int) (Y.one (Y.cmp (Y.cw K rfl (Nat.lt_of_succ_lt hu)) Y.dk (Y.ix (Y.cE K rfl) Y.aV (Y.vS 1) Y.int) Y.int))))) Y.dU)
   (Y.ai (Y.set (i:=3) dJ.nd rfl (by walk_at "lc") (Y.fn K rfl hweight_put_together (hr.mono (by decide)) rfl aR (Y.cons (Y.vS 0) (Y.cons (Y.vS 2) Y.nil))))
   (Y.ba (Y.ret (Y.and (Y.cmp xZ Y.wX (Y.vS 3) Y.aI) (Y.and (Y.fn K rfl hcan_be (hr.mono (by decide)) rfl aR (Y.cons (Y.vS 1) Y.nil)) (Y.one (Y.cmp (Y.cw K rfl (Nat.lt_of_succ_lt hu)) Y.dk (Y.fn K rfl hcost_of (hr.mono (by decide)) rfl aR (Y.cons (Y.vS 0) (Y.cons (Y.vS 1) Y.nil))) (Y.vS 3))))))))),?_⟩
 refine aT fun N hN=>?_;wp_walk using aY;rw[if_neg (by lia)]
 refine hN _ ?_;clear hN N;refine aT fun N hN=>?_;walk_at "rt";refine⟨cs,ps,rfl,by lia,h20,hp,?_⟩
 walk_at "rt";refine hN _ ?_;clear hN N;have hsh:kB cs ls ps=(match cF cs ps with
   | .int w=>mT ls && decide (dot cs ls=w)
   | _=>false):=if_neg (by lia)
 have two:(∃ w,cF cs ps=.int w)\/cF cs ps=.aI:=by
  unfold cF;split
  ·split
   ·exact .inl ⟨_,rfl⟩
   ·exact .inr rfl
  ·exact .inr rfl
 rcases two with ⟨w,e⟩ | e
 ·rw[e] at hsh ⊢;walk_at "rt";refine⟨_,ls,rfl,.inl rfl,hL,?_⟩
  cases ho:mT ls with
  | false =>
   walk_at "rt";rw[ho] at hsh;rw[hsh] at q;exact q
  | true =>
   walk_at "rt";refine⟨_,cs,ls,rfl,rfl,h20,hL.2.2,?_⟩;walk_at "rt";rw[ho] at hsh;rw[hsh] at q;exact q
 ·rw[e] at hsh ⊢;walk_at "rt";rw[hsh] at q;exact q
def pz:fE:=fun args Q=>∃ (s:L2.T) (n:Nat),args=[s,.int (n:Int)]/\dQ s/\2<=n/\n<=20/\∀ (l:List Nat) (s':L2.T),dQ s'->l.length=n->(∀ x∈l,1<=x/\x<=19)->Kr.ks 40 l=2 ^ 40->Q (.tr (.tup (nI (nZ l)))) [s']
theorem rQ(T:Txt K mg)(F:HasFn K mg "_law_parted" aM ["seed","many"])(h_law_draw:ah P w K mg base bY 1 "_law_draw" ["seed","most"] (spT K [true,false] lj)):ah P w K mg base bY 2 "_law_parted" ["seed","many"] (spT K [true,false] pz):=by
 refine F.rL b6 [true,false] rfl (by decide) (fun args Qt hl h f cdv A outer s H E hr=>?_)
 have hu:=bV hr;obtain⟨sd,n,rfl,hsd,h2,h20,q⟩:=h;refine⟨_,(Y.ai (Y.set (i:=2) b6.nd rfl (by walk_at "lc") (Y.lst (Y.p9 rfl rfl)))
   (Y.ai (Y.gF PassesOwn.never rfl (Y.nX rfl T.ee (Y.cons (Y.op fR Y.dZ (Y.vS 1) Y.int) Y.nil)) (Y.bq (i:=3) b6.nd rfl (by walk_at "lc")) (Y.ai (Y.set (i:=4) b6.nd rfl (by walk_at "lc") (Y.fn K rfl h_law_draw (hr.mono (by decide)) rfl aR (Y.cons (Y.vS 0) (Y.cons (Y.cb (Y.aU K rfl) Y.bG rfl T.cG (by decide +kernel) (Y.cons (Y.vS 2) Y.nil)) Y.nil))))
   (Y.ba (Y.set (i:=2) b6.nd rfl (by walk_at "lc") (Y.op (Y.aD K rfl) Y.aC (Y.op (Y.aD K rfl) Y.aC (Y.dh K rfl (Y.vS 2) Y.sg (Y.rY (Y.vS 4))) (Y.lst (Y.cons (Y.op (Y.aD K rfl) Y.aC (Y.ix (Y.cE K rfl) Y.aV (Y.vS 2) (Y.vS 4)) Y.int) (Y.cons (Y.op (Y.aD K rfl) Y.aC (Y.ix (Y.cE K rfl) Y.aV (Y.vS 2) (Y.vS 4)) Y.int) Y.nil)))) (Y.dh K rfl (Y.vS 2) (Y.rY (Y.op (Y.aD K rfl) Y.aC (Y.vS 4) Y.int)) Y.sg))))))
   (Y.ai (Y.set (i:=5) b6.nd rfl (by walk_at "lc") (Y.fn K rfl h_law_draw (hr.mono (by decide)) rfl aR (Y.cons (Y.vS 0) (Y.cons (Y.vS 1) Y.nil))))
   (Y.ba (Y.ret (Y.ct (Y.bU K rfl) Y.cD rfl T.cY (by decide +kernel) (Y.cons (Y.op (Y.aD K rfl) Y.aC (Y.dh K rfl (Y.vS 2) (Y.rY (Y.vS 5)) Y.sg) (Y.dh K rfl (Y.vS 2) Y.sg (Y.rY (Y.vS 5)))) Y.nil))))))),?_⟩
 refine aT fun N hN=>?_;walk_at "rt";refine⟨by decide,?_⟩
 refine hN _ ?_;clear hN N;refine aT fun N hN=>?_;walk_at "rt";refine⟨by lia,by lia,?_⟩
 refine cV (fun rest μ=>∃ (l:List Nat) (s:L2.T) (o3 o4:Option L2.T),dQ s/\rest.length+l.length=n/\2<=l.length/\(∀ x∈l,1<=x/\x+1<=l.length)/\Kr.ks 40 l=2 ^ 40/\μ=[.pb s,.tr (.int (n:Int)),.bx (.lst (nI (nZ l))),sl o3,sl o4,.un]) ⟨[1,1],sd,none,none,hsd,by rw[List.length_map,List.length_range];simp;lia,by decide,by simp,by decide,rfl⟩ ?_ ?_
 ·rintro μ ⟨l,s,o3,o4,hs,hlen,hl2,hx,hk,rfl⟩;show N _;refine hN _ ?_;clear hN N;refine aT fun N hN=>?_;walk_at "rt";refine⟨s,n,rfl,hs,by lia,by lia,fun v s2 hs2 v0 v1=>?_⟩
  obtain⟨a,rfl⟩:∃ a:Nat,v=a:=⟨v.toNat,by lia⟩
  walk_at "rt";refine hN _ ?_;clear hN N;walk_at "rt";rw[iI,fj,<- iL];refine⟨Nat.le_trans (show _<=100 by rw[aY,aY,List.length_drop,List.length_take,cf];lia) (by decide),?_⟩
  have ed:(nZ l).drop a++(nZ l).take a=nZ (l.drop a++l.take a):=by unfold nZ;rw[List.map_append,List.map_drop,List.map_take]
  rw[ed];have pp:(l.drop a++l.take a).Perm l:=by
   have:=List.perm_append_comm (l₁:=l.drop a) (l₂:=l.take a);rw[List.take_append_drop] at this;exact this
  have hl3:l.length=n:=by simpa using hlen
  exact q _ _ hs2 (by rw[pp.length_eq];exact hl3) (fun x hx'=>by have:=hx x (pp.mem_iff.mp hx');lia) (by rw[Kr.fz pp];exact hk)
 ·rintro t ts μ M ⟨l,s,o3,o4,hs,hlen,hl2,hx,hk,rfl⟩ k;walk_at "rt";refine aT fun M' hM=>?_;wp_walk using aY;refine⟨s,l.length,by rw[cf],hs,by lia,by lia,fun v s2 hs2 v0 v1=>?_⟩
  obtain⟨a,rfl⟩:∃ a:Nat,v=a:=⟨v.toNat,by lia⟩
  walk_at "rt";refine hM _ ?_;clear hM M';have ha:a < l.length:=by lia
  have eat:bS (nI (nZ l)) (a:Int)=some (.int ((l[a]:Nat):Int)):=yM (cJ (by unfold nZ;rw[List.getElem?_map,List.getElem?_eq_getElem ha];rfl))
  wp_walk using eat;have el:Y.bH (nI (nZ l)) none (some (a:Int))++[L2.T.int ((l[a]:Nat)+1),L2.T.int ((l[a]:Nat)+1)]++Y.bH (nI (nZ l)) (some ((a:Int)+1)) none=nI (nZ (l.take a++[l[a]+1,l[a]+1]++l.drop (a+1))):=by
   rw[fj,show (a:Int)+1=((a+1:Nat):Int) from rfl,iI];unfold nZ nI;simp only[List.map_append,List.map_take,List.map_drop];rfl
  have elen:(l.take a++[l[a]+1,l[a]+1]++l.drop (a+1)).length=l.length+1:=by
   rw[List.length_append,List.length_append,List.length_take,List.length_drop];simp only[List.length_cons,List.length_nil];lia
  have hlen':ts.length+1+l.length=n:=hlen;refine⟨by decide,?_,?_,?_⟩
  ·exact Nat.le_trans (show _<=100 by rw[fj,aY,List.length_take,cf];lia) (by decide)
  ·rw[<- List.length_append,el,aY,cf,elen];exact Nat.le_trans (show _<=100 by lia) (by decide)
  rw[el];have hsp:l=l.take a++[l[a]]++l.drop (a+1):=by
   rw[List.append_assoc,List.singleton_append,List.getElem_cons_drop,List.take_append_drop]
  have hxa:=hx l[a] (List.getElem_mem ha);have hks:Kr.ks 40 (l.take a++[l[a]+1,l[a]+1]++l.drop (a+1))=2 ^ 40:=by
   rw[<- hk]
   conv=>rhs;rw[hsp]
   rw[Kr.bW,Kr.bW,Kr.bW,Kr.bW];have e:=Kr.j9 (L:=40) (d:=l[a]) (l:=l[a]+1) (by lia) (by lia)
   simp only[Kr.ks];lia
  refine k _ ⟨_,s2,some t,some _,hs2,by rw[elen];lia,by rw[elen];lia,fun x hx'=>?_,hks,rfl⟩
  rw[elen];rcases List.mem_append.mp hx' with z | z
  ·rcases List.mem_append.mp z with z | z
   ·have:=hx x (List.mem_of_mem_take z);lia
   ·simp at z;lia
  ·have:=hx x (List.mem_of_mem_drop z);lia
def mF(ls:List (List Nat)):List L2.T:=ls.map fun l=>.tup (nI (nZ l))
def pQ:fE:=fun args Q=>∃ (s:L2.T) (l:List Nat),args=[s,.tup (nI (nZ l))]/\dQ s/\2<=l.length/\l.length<=20/\(∀ x∈l,1<=x/\x<=19)/\Kr.ks 40 l<=2 ^ 40/\∀ (ls:List (List Nat)) (s':L2.T),dQ s'->ls.length<=18->(∀ m∈ls,m.length=l.length/\(∀ x∈m,1<=x/\x<=40)/\Kr.ks 40 m<=2 ^ 40)->Q (.fr (.lst (mF ls))) [s']
theorem ke(L:Nat):∀ (l:List Nat) (a y:Nat) (h:a < l.length),Kr.ks L (l.set a y)+2 ^ (L - l[a])=Kr.ks L l+2 ^ (L - y)
 | x::l,0,y,_=>by simp only[List.set_cons_zero,Kr.ks,List.getElem_cons_zero];lia
 | x::l,a+1,y,h=>by
  have:=ke L l a y (by simpa using h)
  simp only[List.set_cons_succ,Kr.ks,List.getElem_cons_succ];lia
theorem rG(T:Txt K mg)(F:HasFn K mg "_law_others" aN ["seed","told"])(h_law_draw:ah P w K mg base bY 1 "_law_draw" ["seed","most"] (spT K [true,false] lj))(h_law_parted:ah P w K mg base bY 2 "_law_parted" ["seed","many"] (spT K [true,false] pz)):ah P w K mg base bY 3 "_law_others" ["seed","told"] (spT K [true,false] pQ):=by
 refine F.rL bz [true,false] rfl (by decide) (fun args Qt hl h f cdv A outer s H E hr=>?_)
 have hu:=bV hr;obtain⟨sd,l,rfl,hsd,h2,h20,hx,hk,q⟩:=h;refine⟨_,(Y.ai (Y.set (i:=2) bz.nd rfl (by walk_at "lc") (Y.lst Y.nil))
   (Y.ai (Y.gF PassesOwn.never rfl (Y.nX rfl T.ee (Y.cons Y.int Y.nil)) (Y.bq (i:=3) bz.nd rfl (by walk_at "lc")) (Y.ai (Y.expr (Y.bm K rfl PySem.F.slot_list_append PySem.F.type_list_append cL Y.dw (Y.vS 2) (Y.cons (Y.fn K rfl h_law_parted (hr.mono (by decide)) rfl aR (Y.cons (Y.vS 0) (Y.cons (Y.cb (Y.aU K rfl) Y.bG rfl T.cG (by decide +kernel) (Y.cons (Y.vS 1) Y.nil)) Y.nil))) Y.nil)))
   (Y.ai (Y.set (i:=4) bz.nd rfl (by walk_at "lc") (Y.ct (Y.mU K rfl rfl) Y.wM rfl T.A9 (by decide +kernel) (Y.cons (Y.vS 1) Y.nil)))
   (Y.ai (Y.set (i:=5) bz.nd rfl (by walk_at "lc") (Y.fn K rfl h_law_draw (hr.mono (by decide)) rfl aR (Y.cons (Y.vS 0) (Y.cons (Y.cb (Y.aU K rfl) Y.bG rfl T.cG (by decide +kernel) (Y.cons (Y.vS 4) Y.nil)) Y.nil))))
   (Y.ai (Y.set (i:=6) bz.nd rfl (by walk_at "lc") (Y.fn K rfl h_law_draw (hr.mono (by decide)) rfl aR (Y.cons (Y.vS 0) (Y.cons (Y.cb (Y.aU K rfl) Y.bG rfl T.cG (by decide +kernel) (Y.cons (Y.vS 4) Y.nil)) Y.nil))))
   (Y.ai (Y.asg (Y.tup (Y.cons (Y.ix (Y.cE K rfl) Y.aV (Y.vS 4) (Y.vS 6)) (Y.cons (Y.ix (Y.cE K rfl) Y.aV (Y.vS 4) (Y.vS 5)) Y.nil))) (Y.u7 (n:=2) K rfl rfl (Y.bF (Y.og (Y.vS 4) (Y.vS 5)) (Y.bF (Y.og (Y.vS 4) (Y.vS 6)) Y.eE))))
   (Y.ai (Y.expr (Y.bm K rfl PySem.F.slot_list_append PySem.F.type_list_append cL Y.dw (Y.vS 2) (Y.cons (Y.ct (Y.bU K rfl) Y.cD rfl T.cY (by decide +kernel) (Y.cons (Y.vS 4) Y.nil)) Y.nil)))
   (Y.ai (Y.asg (Y.op (Y.aD K rfl) Y.aC (Y.ix (Y.cE K rfl) Y.aV (Y.vS 4) (Y.vS 5)) (Y.fn K rfl h_law_draw (hr.mono (by decide)) rfl aR (Y.cons (Y.vS 0) (Y.cons Y.int Y.nil)))) (Y.og (Y.vS 4) (Y.vS 5)))
   (Y.ba (Y.expr (Y.bm K rfl PySem.F.slot_list_append PySem.F.type_list_append cL Y.dw (Y.vS 2) (Y.cons (Y.ct (Y.bU K rfl) Y.cD rfl T.cY (by decide +kernel) (Y.cons (Y.vS 4) Y.nil)) Y.nil))))))))))))
   (Y.ba (Y.ret (Y.vS 2))))),?_⟩
 refine aT fun N hN=>?_;walk_at "rt";refine hN _ ?_;clear hN N;refine aT fun N hN=>?_;walk_at "rt";refine⟨by decide,by decide,?_⟩
 refine cV (fun rest μ=>∃ (ls:List (List Nat)) (s:L2.T) (o3 o5 o6:Option L2.T) (b4:Sl),dQ s/\3*rest.length+ls.length=18/\(∀ m∈ls,m.length=l.length/\(∀ x∈m,1<=x/\x<=40)/\Kr.ks 40 m<=2 ^ 40)/\(b4=.un\/∃ c,b4=.bx c)/\μ=[.pb s,.tr (.tup (nI (nZ l))),.bx (.lst (mF ls)),sl o3,b4,sl o5,sl o6]) ⟨[],sd,none,none,none,.un,hsd,by rw[List.length_map,List.length_range];rfl,by simp,.inl rfl,rfl⟩ ?_ ?_
 ·rintro μ ⟨ls,s,o3,o5,o6,b4,hs,hlen,hall,hb4,rfl⟩;show N _;refine hN _ ?_;clear hN N;walk_at "rt";exact q ls s hs (by lia) hall
 ·rintro t ts μ M ⟨ls,s,o3,o5,o6,b4,hs,hlen,hall,hb4,rfl⟩ k;have nb4:nb (some b4)=True:=by rcases hb4 with rfl | ⟨c,rfl⟩<;>rfl
  walk_at "rt";refine aT fun M' hM=>?_;wp_walk using aY;refine⟨s,l.length,by rw[cf],hs,h2,h20,fun m1 s1 hs1 g1 g2 g3=>?_⟩
  walk_at "rt";have lsl:∀ ls:List (List Nat),ls.length<=18->(mF ls).length < sizeLine:=fun ls h=>by unfold mF;rw[List.length_map];exact Nat.lt_of_le_of_lt h (by decide)
  have lsa:∀ (ls:List (List Nat)) (m:List Nat),mF ls++[L2.T.tup (nI (nZ m))]=mF (ls++[m]):=fun ls m=>by unfold mF;rw[List.map_append];rfl
  have hlen':3*(ts.length+1)+ls.length=18:=hlen;refine⟨lsl _ (by lia),?_⟩
  rw[lsa];refine hM _ ?_;clear hM M';refine aT fun M' hM=>?_;wp_walk using nb4;refine hM _ ?_;clear hM M';refine aT fun M' hM=>?_;wp_walk using aY;refine⟨s1,l.length,by rw[cf],hs1,by lia,by lia,fun v s2 hs2 v0 v1=>?_⟩
  obtain⟨a,rfl⟩:∃ a:Nat,v=a:=⟨v.toNat,by lia⟩
  walk_at "rt";refine hM _ ?_;clear hM M';refine aT fun M' hM=>?_;wp_walk using aY;refine⟨s2,l.length,by rw[cf],hs2,by lia,by lia,fun v s3 hs3 w0 w1=>?_⟩
  obtain⟨b,rfl⟩:∃ b:Nat,v=b:=⟨v.toNat,by lia⟩
  walk_at "rt";refine hM _ ?_;clear hM M';have ha:a < l.length:=by lia
  have hb:b < l.length:=by lia
  have eat:∀ (m:List Nat) (c:Nat) (h:c < m.length),bS (nI (nZ m)) (c:Int)=some (.int ((m[c]:Nat):Int)):=fun m c h=>yM (cJ (by unfold nZ;rw[List.getElem?_map,List.getElem?_eq_getElem h];rfl))
  refine aT fun M' hM=>?_;wp_walk using (eat l a ha),(eat l b hb);have eset:∀ (m:List Nat) (c y:Nat),(nI (nZ m)).set c (.int ((y:Nat):Int))=nI (nZ (m.set c y)):=fun m c y=>by unfold nI nZ;rw[List.map_set,List.map_set]
  have eix:∀ (m:List Nat) (c:Nat),c < m.length->kU (nI (nZ m)).length (c:Int)=some c:=fun m c h=>by rw[zQ (by lia) (by rw[aY,cf];lia)];simp
  have hb1:b < (l.set a l[b]).length:=by rw[List.length_set];exact hb
  simp only[eix l a ha,eset,eix _ b hb1];refine⟨by decide,?_⟩
  refine hM _ ?_;clear hM M';have kb:=ke 40 l a l[b] ha;have kc:=ke 40 (l.set a l[b]) b l[a] hb1;have eb:(l.set a l[b])[b]=l[b]:=by
   rw[List.getElem_set];split
   ·rfl
   ·rfl
  rw[eb] at kc;have l2k:Kr.ks 40 ((l.set a l[b]).set b l[a])=Kr.ks 40 l:=by lia
  have l2l:((l.set a l[b]).set b l[a]).length=l.length:=by rw[List.length_set,List.length_set]
  have l2x:∀ x∈(l.set a l[b]).set b l[a],1<=x/\x<=19:=fun x hx'=>by
   rcases List.mem_or_eq_of_mem_set hx' with z | z
   ·rcases List.mem_or_eq_of_mem_set z with z | z
    ·exact hx x z
    ·rw[z];exact hx _ (List.getElem_mem hb)
   ·rw[z];exact hx _ (List.getElem_mem ha)
  generalize (l.set a l[b]).set b l[a]=l2 at *;refine aT fun M' hM=>?_;walk_at "rt";refine⟨lsl _ (by rw[List.length_append,List.length_singleton];lia),?_⟩
  rw[lsa];refine hM _ ?_;clear hM M';have ha2:a < l2.length:=by lia
  refine aT fun M' hM=>?_;wp_walk using (eat l2 a ha2);refine⟨s3,3,rfl,hs3,by decide,by decide,fun v s4 hs4 x0 x1=>?_⟩
  obtain⟨c,rfl⟩:∃ c:Nat,v=c:=⟨v.toNat,by lia⟩
  wp_walk using (eix l2 a ha2),(show ((l2[a]:Nat):Int)+(c:Int)=((l2[a]+c:Nat):Int) from rfl),eset;refine hM _ ?_;clear hM M';have kd:=ke 40 l2 a (l2[a]+c) ha2;have l3l:(l2.set a (l2[a]+c)).length=l.length:=by rw[List.length_set,l2l]
  have l3x:∀ x∈l2.set a (l2[a]+c),1<=x/\x<=40:=fun x hx'=>by
   rcases List.mem_or_eq_of_mem_set hx' with z | z
   ·have:=l2x x z;lia
   ·have:=l2x _ (List.getElem_mem ha2);lia
  have l3k:Kr.ks 40 (l2.set a (l2[a]+c))<=2 ^ 40:=by
   have:2 ^ (40 - (l2[a]+c))<=2 ^ (40 - l2[a]):=Nat.pow_le_pow_right (by decide) (by lia)
   lia
  generalize l2.set a (l2[a]+c)=l3 at *;walk_at "rt";refine⟨lsl _ (by rw[List.length_append,List.length_append,List.length_singleton,List.length_singleton];lia),?_⟩
  rw[lsa];refine k _ ⟨ls++[m1]++[l2]++[l3],s4,some t,some _,some _,_,hs4,?_,fun m hm=>?_,.inr ⟨_,rfl⟩,rfl⟩
  ·rw[List.length_append,List.length_append,List.length_append,List.length_singleton,List.length_singleton,List.length_singleton];lia
  ·rcases List.mem_append.mp hm with hm | hm
   ·rcases List.mem_append.mp hm with hm | hm
    ·rcases List.mem_append.mp hm with hm | hm
     ·exact hall m hm
     ·rw[List.mem_singleton.mp hm];exact⟨g1,fun x hx'=>by have:=g2 x hx';lia,by rw[g3];exact Nat.le_refl _⟩
    ·rw[List.mem_singleton.mp hm];exact⟨l2l,fun x hx'=>by have:=l2x x hx';lia,by rw[l2k];exact hk⟩
   ·rw[List.mem_singleton.mp hm];exact⟨l3l,l3x,l3k⟩
def sw(x:WN):Int×Int:=((x.2:Int),x.1)
theorem gb:∀ {d:List (Int×Int)},(d.map fun p=>p.1).Nodup->∀ {p:Int×Int},p∈d->look d p.1=some p.2
 | q::d,nd,p,h=>by
  rw[List.map_cons,List.nodup_cons] at nd;unfold look;rcases List.mem_cons.mp h with rfl | h
  ·exact if_pos rfl
  ·rw[if_neg (fun z=>nd.1 (by rw[z];exact List.mem_map.mpr ⟨p,h,rfl⟩))]
   exact gb nd.2 h
structure DS (d:List (Int×Int)) (st:List WN) (n:Nat):Prop where
 pm:d.Perm (st.map sw)
 nd:(st.map fun x=>x.2).Nodup
 lt:∀ x∈st,x.2 < n
 up:BX st
theorem DS.keys{d:List (Int×Int)}{st:List WN}{n:Nat}(h:DS d st n):(d.map fun p=>p.1).Nodup:=by
 rw[(h.pm.map fun p=>p.1).nodup_iff,List.map_map];have:=h.nd;unfold List.Nodup at this ⊢;rw[List.pairwise_map] at this ⊢;exact this.imp fun z e=>z (Int.ofNat.inj e)
theorem DS.look{d:List (Int×Int)}{st:List WN}{n:Nat}(h:DS d st n){x:WN}(hx:x∈st):look d (x.2:Int)=some x.1:=gb h.keys (p:=sw x) (h.pm.mem_iff.mpr (List.mem_map.mpr ⟨x,hx,rfl⟩))
theorem DS.next{d:List (Int×Int)}{a b:WN}{r:List WN}{n:Nat}(h:DS d (a::b::r) n):∃ d',eS d n (a.2:Int) (b.2:Int)=some (d',a.1+b.1)/\DS d' (eW (r++[(a.1+b.1,n)])) (n+1):=by
 have nd:=h.nd;rw[List.map_cons,List.map_cons,List.nodup_cons,List.nodup_cons] at nd;have up:=h.up;unfold BX at up;rw[List.pairwise_cons,List.pairwise_cons] at up;have hab:¬ (a.2:Int)=(b.2:Int):=fun e=>nd.1 (by rw[Int.ofNat.inj e];exact List.mem_cons_self)
 have la:=h.look (x:=a) (by simp)
 have lb:=h.look (x:=b) (by simp)
 have fp:(d.filter fun p=>decide (p.1≠(a.2:Int)) && decide (p.1≠(b.2:Int))).Perm (r.map sw):=by
  have:=h.pm.filter fun p=>decide (p.1≠(a.2:Int)) && decide (p.1≠(b.2:Int));rw[List.map_cons,List.map_cons,List.filter_cons_of_neg (by simp[sw]),List.filter_cons_of_neg (by simp[sw]),(List.filter_eq_self (l:=r.map sw)).mpr] at this
  ·exact this
  ·intro p hp;obtain⟨x,hx,rfl⟩:=List.mem_map.mp hp;have n1:x.2≠a.2:=fun e=>nd.1 (by rw[<- e];exact List.mem_cons_of_mem _ (List.mem_map.mpr ⟨x,hx,rfl⟩))
   have n2:x.2≠b.2:=fun e=>nd.2.1 (by rw[<- e];exact List.mem_map.mpr ⟨x,hx,rfl⟩)
   show (decide ((x.2:Int)≠(a.2:Int)) && decide ((x.2:Int)≠(b.2:Int)))=true;rw[decide_eq_true (show (x.2:Int)≠(a.2:Int) from fun e=>n1 (Int.ofNat.inj e)),decide_eq_true (show (x.2:Int)≠(b.2:Int) from fun e=>n2 (Int.ofNat.inj e))];rfl
 have hm:eU d (a.2:Int) (b.2:Int)=true:=by
  unfold eU;rw[if_neg hab,la,lb];show List.all _ _=true;rw[List.all_eq_true];intro p hp;obtain⟨x,hx,e⟩:=List.mem_map.mp (fp.mem_iff.mp hp);have lx:=h.look (x:=x) (by simp[hx])
  rw[show p.1=(x.2:Int) from by rw[<- e];rfl,lx]
  refine decide_eq_true ?_;have g1:=up.1 b (by simp)
  have g2:=up.2.1 x hx;show (if a.1 < b.1 then b.1 else a.1)<=x.1
  split<;>lia
 refine⟨(d.filter fun p=>decide (p.1≠(a.2:Int)) && decide (p.1≠(b.2:Int)))++[((n:Int),a.1+b.1)],?_,?_⟩
 ·unfold eS;rw[if_pos hm,la,lb]
 ·have hp:=cP (r++[(a.1+b.1,n)]);have hr:∀ x∈r,x.2 < n:=fun x hx=>h.lt x (by simp[hx])
  refine⟨?_,?_,fun x hx=>?_,fX _⟩
  ·refine List.Perm.trans ?_ (hp.map sw).symm;rw[List.map_append];exact fp.append_right _
  ·rw[(hp.map _).nodup_iff,List.map_append,List.nodup_append];refine⟨nd.2.2,List.pairwise_singleton _ _,fun x hx y hy=>?_⟩;obtain⟨z,hz,rfl⟩:=List.mem_map.mp hx;rw[List.mem_singleton.mp hy];exact Nat.ne_of_lt (hr z hz)
  ·rcases List.mem_append.mp (hp.mem_iff.mp hx) with z | z
   ·exact Nat.lt_succ_of_lt (hr x z)
   ·rw[List.mem_singleton.mp z];exact Nat.lt_succ_self n
theorem Aw:∀ (m:Nat) (st:List WN) (d:List (Int×Int)) (n:Nat) (v:Int),st.length=m->1<=m->DS d st n->∃ p,putAll d n v (hf m st n)=some ([p],v+hT m st n):=by
 intro m
 induction m with
 | zero=>intro st d n v _ h;lia
 | succ m ih =>
  intro st d n v hl _ h;rcases st with _ | ⟨a,_ | ⟨b,r⟩⟩
  ·cases hl
  ·have e:=List.perm_singleton.mp h.pm;refine⟨sw a,?_⟩;rw[show hf (m+1) [a] n=[] by simp[hf],show hT (m+1) [a] n=0 by simp[hT],e,Int.add_zero]
   rfl
  ·have hl2:r.length+1=m:=by simpa using hl
   obtain⟨d',e,h'⟩:=h.next;obtain⟨p,hp⟩:=ih (eW (r++[(a.1+b.1,n)])) d' (n+1) (v+(a.1+b.1)) (by rw[cW,List.length_append];exact hl2) (by lia) h'
   refine⟨p,?_⟩;rw[show hf (m+1) (a::b::r) n=(a.2,b.2)::hf m (eW (r++[(a.1+b.1,n)])) (n+1) by rw[hf],show hT (m+1) (a::b::r) n=(a.1+b.1)+hT m (eW (r++[(a.1+b.1,n)])) (n+1) by rw[hT],<- Int.add_assoc]
   show (match eS d n (a.2:Int) (b.2:Int) with
    | some (st',v')=>putAll st' (n+1) (v+v') (hf m (eW (r++[(a.1+b.1,n)])) (n+1))
    | none=>none)=_
   rw[e];exact hp
theorem pL:∀ (cs:List Int) (i j:Nat),(num cs i)[j]?=cs[j]?.map fun c=>(((i+j:Nat):Int),c)
 | [],i,j=>by rw[num];rfl
 | c::cs,i,0=>rfl
 | c::cs,i,j+1=>by
  show (num cs (i+1))[j]?=cs[j]?.map _;rw[pL cs (i+1) j,show i+1+j=i+(j+1) by lia]
theorem xE(cs:List Int):num cs 0=(eX cs cs.length).map sw:=by
 apply List.ext_getElem?;intro j;rw[pL];unfold eX;rw[List.map_map,List.getElem?_map,Nat.zero_add];rcases Nat.lt_or_ge j cs.length with h | h
 ·rw[List.getElem?_eq_getElem h,List.getElem?_eq_getElem (by rw[List.length_range];exact h),List.getElem_range]
  show some ((j:Int),cs[j])=some ((j:Int),cQ cs j);unfold cQ;rw[List.getD_eq_getElem?_getD,List.getElem?_eq_getElem h];rfl
 ·rw[List.getElem?_eq_none h,List.getElem?_eq_none (by rw[List.length_range];exact h)]
  rfl
theorem k_{cs:List Int}(h1:1<=cs.length):cF cs (cH cs)=.int (hT cs.length (eW (eX cs cs.length)) cs.length):=by
 have hp:=cP (eX cs cs.length);have e:(eX cs cs.length).map (fun x=>x.2)=List.range cs.length:=by
  unfold eX;rw[List.map_map];exact List.map_id _
 have h:DS (num cs 0) (eW (eX cs cs.length)) cs.length:=by
  refine⟨?_,?_,fun x hx=>?_,fX _⟩
  ·rw[xE];exact (hp.map sw).symm
  ·rw[(hp.map _).nodup_iff,e];exact List.nodup_range
  ·obtain⟨i,hi,rfl⟩:=List.mem_map.mp (hp.mem_iff.mp hx);exact List.mem_range.mp hi
 obtain⟨p,hp⟩:=Aw cs.length _ _ _ 0 (by rw[cW,dB]) h1 h
 unfold cF cH;rw[hp,Int.zero_add];rfl
theorem pO(cs:List Int):(yy (eW (eX cs cs.length))).Perm cs:=by
 have ew:yy (eX cs cs.length)=cs:=by
  unfold yy eX;rw[List.map_map];apply List.ext_getElem
  ·simp
  ·intro i h1 h2;simp[cQ,h2]
 have:=(cP (eX cs cs.length)).map fun x=>x.1;rw[show (eX cs cs.length).map (fun x=>x.1)=cs from ew] at this;exact this
theorem yw{cs:List Int}(h1:1<=cs.length)(hn:cs.length<=20)(hc:∀ c∈cs,0<=c):LB cs (hT cs.length (eW (eX cs cs.length)) cs.length)/\AC cs (hT cs.length (eW (eX cs cs.length)) cs.length):=by
 obtain⟨g1,g2⟩:=Fe cs.length (eW (eX cs cs.length)) cs.length (by rw[cW,dB]) h1 hn (fX _) fun x hx=>by
  obtain⟨i,hi,rfl⟩:=List.mem_map.mp ((cP (eX cs cs.length)).mem_iff.mp hx);exact CY hc i (List.mem_range.mp hi)
 exact⟨g1.perm (pO cs).symm,g2.perm (pO cs)⟩
theorem u9:∀ (m:Nat) (st:List WN) (n:Nat),(hf m st n).length<=m
 | 0,st,n=>by simp[hf]
 | m+1,[],n=>by simp[hf]
 | m+1,[a],n=>by simp[hf]
 | m+1,a::b::r,n=>by
  rw[hf,List.length_cons];exact Nat.succ_le_succ (u9 m _ _)
def oR:fE:=fun args Q=>∃ (cs:List Int) (b:Nat),args=[.tup (nI cs),.int (b:Int)]/\1<=cs.length/\cs.length<=20/\1<=b/\b<=40/\cs.length<=2 ^ b/\Q (.tr (.tup (nN (bR cs b)))) []
theorem Bh{C:Addr}(args:List L2.T)(Q:R->List L2.T->Prop)(h:oR args Q):om C args Q fun _=>False:=by
 obtain⟨cs,b,rfl,h1,h2,h3,h4,h5,q⟩:=h;refine⟨cs,b,rfl,h1,h2,by lia,by lia,.inl ⟨?_,by rw[Int.toNat_natCast];exact q⟩⟩
 unfold jM;rw[Int.toNat_natCast];exact decide_eq_true ⟨by lia,h5⟩
theorem B5{l:List Nat}(h:Kr.ks 40 l<=2 ^ 40):mT (nZ l)=true:=by
 unfold mT KS nZ;rw[List.map_map,show (Int.toNat ∘ fun k:Nat=>(k:Int))=id from funext fun k=>Int.toNat_natCast k,List.map_id];exact decide_eq_true h
theorem Bs{f:Addr}{fd:FuncData}(T:Txt K mg)(F:wm K "law" "law" eJ f fd)(h_law_cells:ah P w K mg base bY 1 "_law_cells" ["script","many"] (spT K [false,false] sW))(h_law_seed:ah P w K mg base bY 1 "_law_seed" ["cell"] (spT K [false] yP))(h_law_draw:ah P w K mg base bY 1 "_law_draw" ["seed","most"] (spT K [true,false] lj))
  (h_law_counts:ah P w K mg base bY 2 "_law_counts" ["seed","many"] (spT K [true,false] pG)) (hpaper_of:ah P w K mg base bY 7 "paper_of" ["counts"] (spT K [false] t7)) (hleast_lengths:ah P w K mg base bY 6 "least_lengths" ["counts","bound"] (spT K [false,false] oR))
  (h_law_cost:ah P w K mg base bY 1 "_law_cost" ["counts","lengths"] (spT K [false,false] pZ)) (h_law_others:ah P w K mg base bY 3 "_law_others" ["seed","told"] (spT K [true,false] pQ)) (hpaper_shown:ah P w K mg base bY 3 "paper_shown" ["counts","lengths","paper"] (spT K [false,false,false] vt)) :
  df P w K mg base bY 9 f fd ["script"] (jh K):=by
 refine A0 (x6 F dD [false] rfl (by decide) (fun args Qt hl h cdv A outer s H E hr=>?_))
 have hu:=bV hr;obtain⟨ns,rfl,hn,q⟩:=h;refine⟨_,(Y.ai (Y.gF PassesOwn.never rfl (Y.anyS K rfl (Y.fn K rfl h_law_cells (hr.mono (by decide)) rfl aR (Y.cons (Y.vS 0) (Y.cons Y.int Y.nil)))) (Y.bq (i:=1) dD.nd rfl (by walk_at "lc")) (Y.ai (Y.set (i:=2) dD.nd rfl (by walk_at "lc") (Y.fn K rfl h_law_seed (hr.mono (by decide)) rfl aR (Y.cons (Y.vS 1) Y.nil)))
   (Y.ai (Y.set (i:=3) dD.nd rfl (by walk_at "lc") (Y.fn K rfl h_law_counts (hr.mono (by decide)) rfl aR (Y.cons (Y.vS 2) (Y.cons (Y.op (Y.aD K rfl) Y.aC Y.int (Y.fn K rfl h_law_draw (hr.mono (by decide)) rfl aR (Y.cons (Y.vS 2) (Y.cons Y.int Y.nil)))) Y.nil))))
   (Y.ai (Y.asg (Y.fn K rfl hpaper_of (hr.mono (by decide)) rfl aR (Y.cons (Y.vS 3) Y.nil)) (Y.u7 (n:=2) K rfl rfl (Y.bF (Y.bq (i:=4) dD.nd rfl (by walk_at "lc")) (Y.bF (Y.bq (i:=5) dD.nd rfl (by walk_at "lc")) Y.eE))))
   (Y.ai (Y.set (i:=6) dD.nd rfl (by walk_at "lc") (Y.fn K rfl h_law_cost (hr.mono (by decide)) rfl aR (Y.cons (Y.vS 3) (Y.cons (Y.vS 4) Y.nil))))
   (Y.ai (Y.ml (Y.cB (Y.tZ K rfl (Nat.lt_of_succ_lt hu)) Y.uY (Y.fn K rfl h_law_cost (hr.mono (by decide)) rfl aR (Y.cons (Y.vS 3) (Y.cons (Y.fn K rfl hleast_lengths (hr.mono (by decide)) rfl aR (Y.cons (Y.vS 3) (Y.cons Y.int Y.nil))) Y.nil))) (Y.vS 6)) (Y.ba (Y.ret Y.bl)) Y.dU)
   (Y.ba (Y.gF PassesOwn.never rfl (Y.anyS K rfl (Y.fn K rfl h_law_others (hr.mono (by decide)) rfl aR (Y.cons (Y.vS 2) (Y.cons (Y.vS 4) Y.nil)))) (Y.bq (i:=7) dD.nd rfl (by walk_at "lc")) (Y.ai (Y.set (i:=8) dD.nd rfl (by walk_at "lc") (Y.fn K rfl h_law_cost (hr.mono (by decide)) rfl aR (Y.cons (Y.vS 3) (Y.cons (Y.vS 7) Y.nil))))
   (Y.ba (Y.ml (Y.tw (Y.Cb (Y.cB pX Y.gp (Y.vS 8) (Y.vS 6)) (Y.si (Y.cB (Y.tZ K rfl (Nat.lt_of_succ_lt hu)) Y.uY (Y.fn K rfl hpaper_shown (hr.mono (by decide)) rfl aR (Y.cons (Y.vS 3) (Y.cons (Y.vS 7) (Y.cons (Y.vS 5) Y.nil)))) (Y.cmp (Y.cw K rfl (Nat.lt_of_succ_lt hu)) Y.dk (Y.vS 8) (Y.vS 6)))))) (Y.ba (Y.ret Y.bl)) Y.dU)))))))))))
   (Y.ba (Y.ret Y.bl))),?_⟩
 refine aT fun N hN=>?_;show Y.tI _ _ _ _ (startM [false] [.d7 (nI ns)] _);walk_at "rt";refine⟨ns,6,rfl,by decide,fun ms=>?_⟩
 walk_at "rt";refine cV (fun rest μ=>∃ (ms:List Int) (s1 s3 s4 s5 s6 s7 s8:Option L2.T) (sd:Sl),rest=nI ms/\(sd=.un\/∃ c,sd=.bx c)/\μ=[.tr (.d7 (nI ns)),sl s1,sd,sl s3,sl s4,sl s5,sl s6,sl s7,sl s8]) ⟨ms,none,none,none,none,none,none,none,.un,rfl,.inl rfl,rfl⟩ ?_ ?_
 ·rintro μ ⟨ms,s1,s3,s4,s5,s6,s7,s8,sd,_,_,rfl⟩;show N _;refine hN _ ?_;clear hN N;walk_at "rt";exact q
 ·rintro t ts μ M ⟨ms,s1,s3,s4,s5,s6,s7,s8,sd,e,hsd,rfl⟩ k
  cases ms with
  | nil=>cases e
  | cons m ms =>
   cases e;have nsd:nb (some sd)=True:=by rcases hsd with rfl | ⟨c,rfl⟩<;>rfl
   walk_at "rt";refine aT fun M' hM=>?_;wp_walk using nsd;refine⟨m,rfl,fun sd1 hs1=>?_⟩;wp_walk using nsd;refine hM _ ?_;clear hM M';refine aT fun M' hM=>?_;walk_at "rt";refine⟨sd1,7,rfl,hs1,by decide,by decide,fun v sd2 hs2 v0 v1=>?_⟩
   obtain⟨n,hn⟩:∃ n:Nat,2+v=n:=⟨(2+v).toNat,by lia⟩
   wp_walk using hn;refine⟨sd2,n,rfl,hs2,by lia,by lia,fun cs sd3 hs3 hcl hc0=>?_⟩
   walk_at "rt";refine hM _ ?_;clear hM M';refine aT fun M' hM=>?_;walk_at "rt";refine⟨cs,rfl,by lia,by lia,?_⟩
   rw[yX];walk_at "rt";refine hM _ ?_;clear hM M';have hL:=qS hc0 (by lia) (by lia) (show 1<=cs.length by lia) (by lia) (Nat.le_trans (pd cs.length (by lia)) (Nat.pow_le_pow_right (by decide) (by lia)))
   obtain⟨g1,g2⟩:=yw (cs:=cs) (by lia) (by lia) hc0
   have hw:=k_ (cs:=cs) (by lia)
   have hcost:=nr (by lia) (by lia) (by lia) hL g1 g2
   have hpl:(cH cs).length<=20:=Nat.le_trans (u9 cs.length _ _) (by lia)
   have h20:bR cs 20=bR cs cs.length:=by
    unfold bR;rw[show min 20 (cs.length - 1)=min cs.length (cs.length - 1) by lia]
   have l40:∀ {l:List Nat} {b:Nat},(∀ x∈l,1<=x/\x<=b)->b<=40->∀ x∈nZ l,1<=x/\x<=40:=fun h hb x hx=>by
    obtain⟨y,hy,rfl⟩:=List.mem_map.mp hx;have:=h y hy;lia
   refine aT fun M' hM=>?_;walk_at "rt";refine⟨_,cs,_,rfl,rfl,by lia,l40 hL.fD (by lia),?_⟩
   rw[hcost];walk_at "rt";refine hM _ ?_;clear hM M';refine aT fun M' hM=>?_;walk_at "rt";refine⟨cs,20,rfl,by lia,by lia,by decide,by decide,by lia,?_⟩
   rw[h20,yX];walk_at "rt";refine⟨_,cs,_,rfl,rfl,by lia,l40 hL.fD (by lia),?_⟩
   rw[hcost];wp_walk using if_neg (not_not_intro rfl);refine hM _ ?_;clear hM M';walk_at "rt";refine⟨sd3,bR cs cs.length,rfl,hs3,by rw[hL.len];lia,by rw[hL.len];lia,fun x hx=>by have:=hL.fD x hx;lia,hL.ks,fun ls sd4 hs4 hll hls=>?_⟩
   walk_at "rt";refine cV (fun rest μ=>∃ (todo:List (List Nat)) (s7 s8:Option L2.T),rest=mF todo/\(∀ m∈todo,m.length=(bR cs cs.length).length/\(∀ x∈m,1<=x/\x<=40)/\Kr.ks 40 m<=2 ^ 40)/\μ=[.tr (.d7 (nI ns)),.tr (.int m),.bx sd4,.tr (.tup (nI cs)),.tr (.tup (nI (nZ (bR cs cs.length)))),.tr (.tup (zl (cH cs))),.tr (.int (hT cs.length (eW (eX cs cs.length)) cs.length)),sl s7,sl s8]) ⟨ls,s7,s8,rfl,hls,rfl⟩ ?_ ?_
   ·rintro μ ⟨todo,s7,s8,e,_,rfl⟩;exact k _ ⟨ms,some _,some _,some _,some _,some _,s7,s8,_,rfl,.inr ⟨_,rfl⟩,rfl⟩
   ·rintro t ts μ M2 ⟨todo,s7,s8,e,hls,rfl⟩ k2
    cases todo with
    | nil=>cases e
    | cons l todo =>
     cases e;obtain⟨a1,a2,a3⟩:=hls l (by simp)
     rw[hL.len] at a1;have hlow:=g1 l a1 (fun x hx=>(a2 x hx).2) a3;have hsh:kB cs (nZ l) (cH cs)=decide (dot cs (nZ l)=hT cs.length (eW (eX cs cs.length)) cs.length):=by
      unfold kB;rw[if_neg (by lia),hw,B5 a3]
      rfl
     generalize hT cs.length (eW (eX cs cs.length)) cs.length=ht at *;walk_at "rt";refine aT fun M' hM=>?_;walk_at "rt";refine⟨_,cs,_,rfl,rfl,by lia,l40 a2 (by lia),?_⟩
     walk_at "rt";refine hM _ ?_;clear hM M';wp_walk using if_neg (show ¬ dot cs (nZ l) < ht by lia)
     refine⟨cs,nZ l,cH cs,rfl,by lia,by lia,by rw[cf,a1],hpl,⟨by rw[cf];lia,by rw[cf];lia,l40 a2 (by lia)⟩,?_⟩
     rw[hsh];walk_at "rt";rw[if_neg (not_not_intro trivial)];exact k2 _ ⟨todo,some _,some _,rfl,fun m hm=>hls m (by simp[hm]),rfl⟩
theorem Bb{f:Addr}{fd:FuncData}(T:Txt K mg)(f_can:HasFn K mg "can_be" cc ["lengths"])(f_cost:HasFn K mg "cost_of" bE ["counts","lengths"])(f_least:HasFn K mg "least_lengths" au ["counts","bound"])(f_chosen:HasFn K mg "chosen_things" ax ["counts","bound"])(f_worth:HasFn K mg "by_worth" b7 ["shelf"])(f_packs:HasFn K mg "packs_of" bp ["shelf"])
  (f_paper:HasFn K mg "paper_of" b9 ["counts"]) (f_light:HasFn K mg "lightest_first" aw ["counts"]) (f_weight:HasFn K mg "by_weight" bo ["standing"]) (f_shown:HasFn K mg "paper_shown" aO ["counts","lengths","paper"]) (f_wpt:HasFn K mg "weight_put_together" ao ["counts","paper"]) (f_may:HasFn K mg "may_be_put" aP ["standing","one","other"])
  (f_seed:HasFn K mg "_law_seed" bg ["cell"]) (f_draw:HasFn K mg "_law_draw" bf ["seed","most"]) (f_cells:HasFn K mg "_law_cells" aW ["script","many"]) (f_counts:HasFn K mg "_law_counts" aF ["seed","many"])
  (f_lcost:HasFn K mg "_law_cost" bj ["counts","lengths"]) (f_parted:HasFn K mg "_law_parted" aM ["seed","many"]) (f_others:HasFn K mg "_law_others" aN ["seed","told"]) (F:wm K "law" "law" eJ f fd):df P w K mg base bY 9 f fd ["script"] (jh K):=by
 obtain⟨C_NoCode,hC_NoCode,kC_NoCode⟩:=T.xs;have dr:=yk (P:=P) (w:=w) (base:=base) T f_draw;have le:=uX (P:=P) (w:=w) (base:=base) T f_least (tO T f_can) (rf T f_chosen (tE T f_worth) (vZ T f_packs)) hC_NoCode kC_NoCode;exact Bs T F (vd T f_cells) (xj T f_seed) dr (qA T f_counts dr) (sP T f_paper le (vP T f_light (qH T f_weight))) (le.calm Bh) (tY T f_lcost) (rG T f_others dr (rQ T f_parted dr)) (tU T f_shown (uu T f_wpt (zG T f_may)) (tO T f_can) (xN T f_cost))
theorem all_mk{l:PySem.W.OpenLaw}{w:World}{K:PySem.W.Frag}{h:Heap}{mg:Str->Option Value}{fa:Addr}(X:K.In h)(G:h.Ns mainGlobals mg)(hfa:mg "law"=some (.ref fa))
  {f0 f1 f2 f3 f4 f5 f6 f7 f8 f9 f10 f11 f12 f13 f14 f15 f16 f17 f18 f19:Addr} {od0 an0 od1 an1 od2 an2 od3 an3 od4 an4 od5 an5 od6 an6 od7 an7 od8 an8 od9 an9 od10 an10 od11 an11 od12 an12 od13 an13 od14 an14 od15 an15 od16 an16 od17 an17 od18 an18 od19 an19:Option Addr} {sl0 sl1 sl2 sl3 sl4 sl5 sl6 sl7 sl8 sl9 sl10 sl11 sl12 sl13 sl14 sl15 sl16 sl17 sl18 sl19:Array (Option Value)} {oc0 kV0 dc0 pm0 cd0 ct0 oc1 kV1 dc1 pm1 cd1 ct1 oc2 kV2 dc2 pm2 cd2 ct2 oc3 kV3 dc3 pm3 cd3 ct3 oc4 kV4 dc4 pm4 cd4 ct4 oc5 kV5 dc5 pm5 cd5 ct5 oc6 kV6 dc6 pm6 cd6 ct6 oc7 kV7 dc7 pm7 cd7 ct7 oc8 kV8 dc8 pm8 cd8 ct8 oc9 kV9 dc9 pm9 cd9 ct9 oc10 kV10 dc10 pm10 cd10 ct10 oc11 kV11 dc11 pm11 cd11 ct11 oc12 kV12 dc12 pm12 cd12 ct12 oc13 kV13 dc13 pm13 cd13 ct13 oc14 kV14 dc14 pm14 cd14 ct14 oc15 kV15 dc15 pm15 cd15 ct15 oc16 kV16 dc16 pm16 cd16 ct16 oc17 kV17 dc17 pm17 cd17 ct17 oc18 kV18 dc18 pm18 cd18 ct18 oc19 kV19 dc19 pm19 cd19 ct19:Value}
  {xd_NoCode:Addr}
  {lc_by_worth lp_by_worth:Addr} {lO_by_worth:Value} {lD_by_worth:Option Addr} {lv_by_worth:Array Value} {lS_by_worth:Array (Option Value)}
  {lc_by_weight lp_by_weight:Addr} {lO_by_weight:Value} {lD_by_weight:Option Addr} {lv_by_weight:Array Value} {lS_by_weight:Array (Option Value)}
  (a0:PySem.W.nsIn K mainGlobals "can_be"=some (some (.ref f0))) (l0:K.lookup f0=some ⟨oc0,od0,.func (PySem.W.fnOf "can_be" "can_be" (az cc) (aq cc) (aa cc) .none kV0 dc0 pm0 an0 cd0 ct0),sl0⟩) (c0:PySem.W.codeIn K cd0 "can_be"=true) (k0:PySem.W.keepIn K (.ref f0)=true)
  (a1:PySem.W.nsIn K mainGlobals "cost_of"=some (some (.ref f1))) (l1:K.lookup f1=some ⟨oc1,od1,.func (PySem.W.fnOf "cost_of" "cost_of" (az bE) (aq bE) (aa bE) .none kV1 dc1 pm1 an1 cd1 ct1),sl1⟩) (c1:PySem.W.codeIn K cd1 "cost_of"=true) (k1:PySem.W.keepIn K (.ref f1)=true)
  (a2:PySem.W.nsIn K mainGlobals "least_lengths"=some (some (.ref f2))) (l2:K.lookup f2=some ⟨oc2,od2,.func (PySem.W.fnOf "least_lengths" "least_lengths" (az au) (aq au) (aa au) .none kV2 dc2 pm2 an2 cd2 ct2),sl2⟩) (c2:PySem.W.codeIn K cd2 "least_lengths"=true) (k2:PySem.W.keepIn K (.ref f2)=true)
  (a3:PySem.W.nsIn K mainGlobals "chosen_things"=some (some (.ref f3))) (l3:K.lookup f3=some ⟨oc3,od3,.func (PySem.W.fnOf "chosen_things" "chosen_things" (az ax) (aq ax) (aa ax) .none kV3 dc3 pm3 an3 cd3 ct3),sl3⟩) (c3:PySem.W.codeIn K cd3 "chosen_things"=true) (k3:PySem.W.keepIn K (.ref f3)=true)
  (a4:PySem.W.nsIn K mainGlobals "by_worth"=some (some (.ref f4))) (l4:K.lookup f4=some ⟨oc4,od4,.func (PySem.W.fnOf "by_worth" "by_worth" (az b7) (aq b7) (aa b7) .none kV4 dc4 pm4 an4 cd4 ct4),sl4⟩) (c4:PySem.W.codeIn K cd4 "by_worth"=true) (k4:PySem.W.keepIn K (.ref f4)=true)
  (a5:PySem.W.nsIn K mainGlobals "packs_of"=some (some (.ref f5))) (l5:K.lookup f5=some ⟨oc5,od5,.func (PySem.W.fnOf "packs_of" "packs_of" (az bp) (aq bp) (aa bp) .none kV5 dc5 pm5 an5 cd5 ct5),sl5⟩) (c5:PySem.W.codeIn K cd5 "packs_of"=true) (k5:PySem.W.keepIn K (.ref f5)=true)
  (a6:PySem.W.nsIn K mainGlobals "paper_of"=some (some (.ref f6))) (l6:K.lookup f6=some ⟨oc6,od6,.func (PySem.W.fnOf "paper_of" "paper_of" (az b9) (aq b9) (aa b9) .none kV6 dc6 pm6 an6 cd6 ct6),sl6⟩) (c6:PySem.W.codeIn K cd6 "paper_of"=true) (k6:PySem.W.keepIn K (.ref f6)=true)
  (a7:PySem.W.nsIn K mainGlobals "lightest_first"=some (some (.ref f7))) (l7:K.lookup f7=some ⟨oc7,od7,.func (PySem.W.fnOf "lightest_first" "lightest_first" (az aw) (aq aw) (aa aw) .none kV7 dc7 pm7 an7 cd7 ct7),sl7⟩) (c7:PySem.W.codeIn K cd7 "lightest_first"=true) (k7:PySem.W.keepIn K (.ref f7)=true)
  (a8:PySem.W.nsIn K mainGlobals "by_weight"=some (some (.ref f8))) (l8:K.lookup f8=some ⟨oc8,od8,.func (PySem.W.fnOf "by_weight" "by_weight" (az bo) (aq bo) (aa bo) .none kV8 dc8 pm8 an8 cd8 ct8),sl8⟩) (c8:PySem.W.codeIn K cd8 "by_weight"=true) (k8:PySem.W.keepIn K (.ref f8)=true)
  (a9:PySem.W.nsIn K mainGlobals "paper_shown"=some (some (.ref f9))) (l9:K.lookup f9=some ⟨oc9,od9,.func (PySem.W.fnOf "paper_shown" "paper_shown" (az aO) (aq aO) (aa aO) .none kV9 dc9 pm9 an9 cd9 ct9),sl9⟩) (c9:PySem.W.codeIn K cd9 "paper_shown"=true) (k9:PySem.W.keepIn K (.ref f9)=true)
  (a10:PySem.W.nsIn K mainGlobals "weight_put_together"=some (some (.ref f10))) (l10:K.lookup f10=some ⟨oc10,od10,.func (PySem.W.fnOf "weight_put_together" "weight_put_together" (az ao) (aq ao) (aa ao) .none kV10 dc10 pm10 an10 cd10 ct10),sl10⟩) (c10:PySem.W.codeIn K cd10 "weight_put_together"=true) (k10:PySem.W.keepIn K (.ref f10)=true)
  (a11:PySem.W.nsIn K mainGlobals "may_be_put"=some (some (.ref f11))) (l11:K.lookup f11=some ⟨oc11,od11,.func (PySem.W.fnOf "may_be_put" "may_be_put" (az aP) (aq aP) (aa aP) .none kV11 dc11 pm11 an11 cd11 ct11),sl11⟩) (c11:PySem.W.codeIn K cd11 "may_be_put"=true) (k11:PySem.W.keepIn K (.ref f11)=true)
  (a12:PySem.W.nsIn K mainGlobals "_law_seed"=some (some (.ref f12))) (l12:K.lookup f12=some ⟨oc12,od12,.func (PySem.W.fnOf "_law_seed" "_law_seed" (az bg) (aq bg) (aa bg) .none kV12 dc12 pm12 an12 cd12 ct12),sl12⟩) (c12:PySem.W.codeIn K cd12 "_law_seed"=true) (k12:PySem.W.keepIn K (.ref f12)=true)
  (a13:PySem.W.nsIn K mainGlobals "_law_draw"=some (some (.ref f13))) (l13:K.lookup f13=some ⟨oc13,od13,.func (PySem.W.fnOf "_law_draw" "_law_draw" (az bf) (aq bf) (aa bf) .none kV13 dc13 pm13 an13 cd13 ct13),sl13⟩) (c13:PySem.W.codeIn K cd13 "_law_draw"=true) (k13:PySem.W.keepIn K (.ref f13)=true)
  (a14:PySem.W.nsIn K mainGlobals "_law_cells"=some (some (.ref f14))) (l14:K.lookup f14=some ⟨oc14,od14,.func (PySem.W.fnOf "_law_cells" "_law_cells" (az aW) (aq aW) (aa aW) .none kV14 dc14 pm14 an14 cd14 ct14),sl14⟩) (c14:PySem.W.codeIn K cd14 "_law_cells"=true) (k14:PySem.W.keepIn K (.ref f14)=true)
  (a15:PySem.W.nsIn K mainGlobals "_law_counts"=some (some (.ref f15))) (l15:K.lookup f15=some ⟨oc15,od15,.func (PySem.W.fnOf "_law_counts" "_law_counts" (az aF) (aq aF) (aa aF) .none kV15 dc15 pm15 an15 cd15 ct15),sl15⟩) (c15:PySem.W.codeIn K cd15 "_law_counts"=true) (k15:PySem.W.keepIn K (.ref f15)=true)
  (a16:PySem.W.nsIn K mainGlobals "_law_cost"=some (some (.ref f16))) (l16:K.lookup f16=some ⟨oc16,od16,.func (PySem.W.fnOf "_law_cost" "_law_cost" (az bj) (aq bj) (aa bj) .none kV16 dc16 pm16 an16 cd16 ct16),sl16⟩) (c16:PySem.W.codeIn K cd16 "_law_cost"=true) (k16:PySem.W.keepIn K (.ref f16)=true)
  (a17:PySem.W.nsIn K mainGlobals "_law_parted"=some (some (.ref f17))) (l17:K.lookup f17=some ⟨oc17,od17,.func (PySem.W.fnOf "_law_parted" "_law_parted" (az aM) (aq aM) (aa aM) .none kV17 dc17 pm17 an17 cd17 ct17),sl17⟩) (c17:PySem.W.codeIn K cd17 "_law_parted"=true) (k17:PySem.W.keepIn K (.ref f17)=true)
  (a18:PySem.W.nsIn K mainGlobals "_law_others"=some (some (.ref f18))) (l18:K.lookup f18=some ⟨oc18,od18,.func (PySem.W.fnOf "_law_others" "_law_others" (az aN) (aq aN) (aa aN) .none kV18 dc18 pm18 an18 cd18 ct18),sl18⟩) (c18:PySem.W.codeIn K cd18 "_law_others"=true) (k18:PySem.W.keepIn K (.ref f18)=true)
  (a19:PySem.W.nsIn K mainGlobals "law"=some (some (.ref f19))) (l19:K.lookup f19=some ⟨oc19,od19,.func (PySem.W.fnOf "law" "law" (az eJ) (aq eJ) (aa eJ) .none kV19 dc19 pm19 an19 cd19 ct19),sl19⟩) (c19:PySem.W.codeIn K cd19 "law"=true) (k19:PySem.W.keepIn K (.ref f19)=true)
  (z0:PySem.W.nsIn K mainGlobals "all"=some none)
  (z1:PySem.W.nsIn K mainGlobals "bool"=some none)
  (z2:PySem.W.nsIn K mainGlobals "dict"=some none)
  (z3:PySem.W.nsIn K mainGlobals "enumerate"=some none)
  (z4:PySem.W.nsIn K mainGlobals "int"=some none)
  (z5:PySem.W.nsIn K mainGlobals "isinstance"=some none)
  (z6:PySem.W.nsIn K mainGlobals "len"=some none)
  (z7:PySem.W.nsIn K mainGlobals "list"=some none)
  (z8:PySem.W.nsIn K mainGlobals "max"=some none)
  (z9:PySem.W.nsIn K mainGlobals "min"=some none)
  (z10:PySem.W.nsIn K mainGlobals "range"=some none)
  (z11:PySem.W.nsIn K mainGlobals "sorted"=some none)
  (z12:PySem.W.nsIn K mainGlobals "sum"=some none)
  (z13:PySem.W.nsIn K mainGlobals "tuple"=some none)
  (z14:PySem.W.nsIn K mainGlobals "zip"=some none)
  (xf0:PySem.W.nsIn K mainGlobals "NoCode"=some (some (.ref xd_NoCode)))
  (xf1:PySem.W.excIn K xd_NoCode [.type "ValueError",.type "Exception",.type "BaseException",.type "object"] "ValueError.__new__"=true)
  (le_by_worth:cd4=.ref lc_by_worth) (lk_by_worth:K.lookup lc_by_worth=some ⟨lO_by_worth,lD_by_worth,.fields lv_by_worth,lS_by_worth⟩) (lw_by_worth:lv_by_worth[11]?=some (.ref lp_by_worth))
  (le_by_weight:cd8=.ref lc_by_weight) (lk_by_weight:K.lookup lc_by_weight=some ⟨lO_by_weight,lD_by_weight,.fields lv_by_weight,lS_by_weight⟩) (lw_by_weight:lv_by_weight[11]?=some (.ref lp_by_weight))
  : ∃ fd:FuncData,(∀ (s:Shared) (v:Value),BindsTo s fd ⟨[v],[]⟩ [("script",v)])/\∀ base:Heap,K.In base->base.Ns mainGlobals mg->df l.prog w K mg base bY 30 fa fd ["script"] (jh K):=by
 have e:=hfa.symm.trans (PySem.W.mg_of X G a19);cases e;have T:Txt K mg:=⟨PySem.W.mg_none_of X G z0,PySem.W.mg_none_of X G z1,PySem.W.mg_none_of X G z2,PySem.W.mg_none_of X G z3,PySem.W.mg_none_of X G z4,PySem.W.mg_none_of X G z5,PySem.W.mg_none_of X G z6,PySem.W.mg_none_of X G z7,PySem.W.mg_none_of X G z8,PySem.W.mg_none_of X G z9,PySem.W.mg_none_of X G z10,PySem.W.mg_none_of X G z11,PySem.W.mg_none_of X G z12,PySem.W.mg_none_of X G z13,PySem.W.mg_none_of X G z14,⟨_,PySem.W.mg_of X G xf0,⟨xf1⟩⟩,jx.mk' X G (fu a4 l4 le_by_worth lk_by_worth lw_by_worth),jx.mk' X G (fu a8 l8 le_by_weight lk_by_weight lw_by_weight)⟩;have F0:HasFn K mg "can_be" cc ["lengths"]:=⟨f0,_,ar (st:=cc) l0 c0 k0,(ar (st:=cc) l0 c0 k0).binds (ps:=["lengths"]) (fun _ _ _ _ _ _ us hl=>by obtain⟨_,rfl⟩:=Y.iP hl;rfl),PySem.W.mg_of X G a0⟩
 have F1:HasFn K mg "cost_of" bE ["counts","lengths"]:=⟨f1,_,ar (st:=bE) l1 c1 k1,(ar (st:=bE) l1 c1 k1).binds (ps:=["counts","lengths"]) (fun _ _ _ _ _ _ us hl=>by obtain⟨_,_,rfl⟩:=Y.fC hl;rfl),PySem.W.mg_of X G a1⟩
 have F2:HasFn K mg "least_lengths" au ["counts","bound"]:=⟨f2,_,ar (st:=au) l2 c2 k2,(ar (st:=au) l2 c2 k2).binds (ps:=["counts","bound"]) (fun _ _ _ _ _ _ us hl=>by obtain⟨_,_,rfl⟩:=Y.fC hl;rfl),PySem.W.mg_of X G a2⟩
 have F3:HasFn K mg "chosen_things" ax ["counts","bound"]:=⟨f3,_,ar (st:=ax) l3 c3 k3,(ar (st:=ax) l3 c3 k3).binds (ps:=["counts","bound"]) (fun _ _ _ _ _ _ us hl=>by obtain⟨_,_,rfl⟩:=Y.fC hl;rfl),PySem.W.mg_of X G a3⟩
 have F4:HasFn K mg "by_worth" b7 ["shelf"]:=⟨f4,_,ar (st:=b7) l4 c4 k4,(ar (st:=b7) l4 c4 k4).binds (ps:=["shelf"]) (fun _ _ _ _ _ _ us hl=>by obtain⟨_,rfl⟩:=Y.iP hl;rfl),PySem.W.mg_of X G a4⟩
 have F5:HasFn K mg "packs_of" bp ["shelf"]:=⟨f5,_,ar (st:=bp) l5 c5 k5,(ar (st:=bp) l5 c5 k5).binds (ps:=["shelf"]) (fun _ _ _ _ _ _ us hl=>by obtain⟨_,rfl⟩:=Y.iP hl;rfl),PySem.W.mg_of X G a5⟩
 have F6:HasFn K mg "paper_of" b9 ["counts"]:=⟨f6,_,ar (st:=b9) l6 c6 k6,(ar (st:=b9) l6 c6 k6).binds (ps:=["counts"]) (fun _ _ _ _ _ _ us hl=>by obtain⟨_,rfl⟩:=Y.iP hl;rfl),PySem.W.mg_of X G a6⟩
 have F7:HasFn K mg "lightest_first" aw ["counts"]:=⟨f7,_,ar (st:=aw) l7 c7 k7,(ar (st:=aw) l7 c7 k7).binds (ps:=["counts"]) (fun _ _ _ _ _ _ us hl=>by obtain⟨_,rfl⟩:=Y.iP hl;rfl),PySem.W.mg_of X G a7⟩
 have F8:HasFn K mg "by_weight" bo ["standing"]:=⟨f8,_,ar (st:=bo) l8 c8 k8,(ar (st:=bo) l8 c8 k8).binds (ps:=["standing"]) (fun _ _ _ _ _ _ us hl=>by obtain⟨_,rfl⟩:=Y.iP hl;rfl),PySem.W.mg_of X G a8⟩
 have F9:HasFn K mg "paper_shown" aO ["counts","lengths","paper"]:=⟨f9,_,ar (st:=aO) l9 c9 k9,(ar (st:=aO) l9 c9 k9).binds (ps:=["counts","lengths","paper"]) (fun _ _ _ _ _ _ us hl=>by obtain⟨_,_,_,rfl⟩:=Y.zO hl;rfl),PySem.W.mg_of X G a9⟩
 have F10:HasFn K mg "weight_put_together" ao ["counts","paper"]:=⟨f10,_,ar (st:=ao) l10 c10 k10,(ar (st:=ao) l10 c10 k10).binds (ps:=["counts","paper"]) (fun _ _ _ _ _ _ us hl=>by obtain⟨_,_,rfl⟩:=Y.fC hl;rfl),PySem.W.mg_of X G a10⟩
 have F11:HasFn K mg "may_be_put" aP ["standing","one","other"]:=⟨f11,_,ar (st:=aP) l11 c11 k11,(ar (st:=aP) l11 c11 k11).binds (ps:=["standing","one","other"]) (fun _ _ _ _ _ _ us hl=>by obtain⟨_,_,_,rfl⟩:=Y.zO hl;rfl),PySem.W.mg_of X G a11⟩
 have F12:HasFn K mg "_law_seed" bg ["cell"]:=⟨f12,_,ar (st:=bg) l12 c12 k12,(ar (st:=bg) l12 c12 k12).binds (ps:=["cell"]) (fun _ _ _ _ _ _ us hl=>by obtain⟨_,rfl⟩:=Y.iP hl;rfl),PySem.W.mg_of X G a12⟩
 have F13:HasFn K mg "_law_draw" bf ["seed","most"]:=⟨f13,_,ar (st:=bf) l13 c13 k13,(ar (st:=bf) l13 c13 k13).binds (ps:=["seed","most"]) (fun _ _ _ _ _ _ us hl=>by obtain⟨_,_,rfl⟩:=Y.fC hl;rfl),PySem.W.mg_of X G a13⟩
 have F14:HasFn K mg "_law_cells" aW ["script","many"]:=⟨f14,_,ar (st:=aW) l14 c14 k14,(ar (st:=aW) l14 c14 k14).binds (ps:=["script","many"]) (fun _ _ _ _ _ _ us hl=>by obtain⟨_,_,rfl⟩:=Y.fC hl;rfl),PySem.W.mg_of X G a14⟩
 have F15:HasFn K mg "_law_counts" aF ["seed","many"]:=⟨f15,_,ar (st:=aF) l15 c15 k15,(ar (st:=aF) l15 c15 k15).binds (ps:=["seed","many"]) (fun _ _ _ _ _ _ us hl=>by obtain⟨_,_,rfl⟩:=Y.fC hl;rfl),PySem.W.mg_of X G a15⟩
 have F16:HasFn K mg "_law_cost" bj ["counts","lengths"]:=⟨f16,_,ar (st:=bj) l16 c16 k16,(ar (st:=bj) l16 c16 k16).binds (ps:=["counts","lengths"]) (fun _ _ _ _ _ _ us hl=>by obtain⟨_,_,rfl⟩:=Y.fC hl;rfl),PySem.W.mg_of X G a16⟩
 have F17:HasFn K mg "_law_parted" aM ["seed","many"]:=⟨f17,_,ar (st:=aM) l17 c17 k17,(ar (st:=aM) l17 c17 k17).binds (ps:=["seed","many"]) (fun _ _ _ _ _ _ us hl=>by obtain⟨_,_,rfl⟩:=Y.fC hl;rfl),PySem.W.mg_of X G a17⟩
 have F18:HasFn K mg "_law_others" aN ["seed","told"]:=⟨f18,_,ar (st:=aN) l18 c18 k18,(ar (st:=aN) l18 c18 k18).binds (ps:=["seed","told"]) (fun _ _ _ _ _ _ us hl=>by obtain⟨_,_,rfl⟩:=Y.fC hl;rfl),PySem.W.mg_of X G a18⟩
 exact⟨PySem.W.fnOf "law" "law" (az eJ) (aq eJ) (aa eJ) .none kV19 dc19 pm19 an19 cd19 ct19,fun s v=>.of_eq rfl,fun base _ _=>(Bb T F0 F1 F2 F3 F4 F5 F6 F7 F8 F9 F10 F11 F12 F13 F14 F15 F16 F17 F18 (ar (st:=eJ) l19 c19 k19)).mono (by decide)⟩
theorem walk{l:PySem.W.OpenLaw}{q:Program}{loose:List Str}{XP:(Str->Option Value)->Heap->Prop}{YP:World->Heap->Prop}{d:DefRec}{K:Params->PySem.W.Frag}(hn:l.most=some 63)(hdf:d.params.defaults=[])
  (hY:∀ (w:World) (h:Heap),YP w h->(K w.params).In h)
  (F:∀ (w:World) (mg:Str->Option Value) (fa:Addr) (h:Heap),(K w.params).In h->h.Ns mainGlobals mg->mg d.name=some (.ref fa)->∃ fd:FuncData,(∀ (s:Shared) (u:Value),BindsTo s fd ⟨[u],[]⟩ [("script",u)])/\∀ base:Heap,(K w.params).In base->base.Ns mainGlobals mg->df l.prog w (K w.params) mg base bY 30 fa fd ["script"] (jh (K w.params))) (hL:∀ (w:World) (h:Heap),(K w.params).In h->fo q (K w.params)) :
  PySem.W.WalkO q loose XP YP l.row.toRowW d [] (fun f vs=>PySem.call f vs):=
 L2.xY (n:=63) (k:=30) (x:="script") (CX:=fun _=>bY) (sp:=fun w=>jh (K w.params)) hn (by decide) hdf ⟨rfl,by decide,by decide,rfl⟩ hY F (fun _ _ a ns hl _ hS=>⟨a,ns,rfl,hS,hl,fun _=>rfl⟩) (fun _ _ _ _ _ z=>z) hL
theorem zY{q:Program}{K:PySem.W.Frag}{h:Heap}(_:K.In h){la_by_worth lc_by_worth lp_by_worth:Addr}{lo_by_worth lO_by_worth:Value}{ld_by_worth lD_by_worth:Option Addr}{lfd_by_worth:FuncData}{lv_by_worth:Array Value}{ls_by_worth lS_by_worth:Array (Option Value)}{la_by_weight lc_by_weight lp_by_weight:Addr}{lo_by_weight lO_by_weight:Value}{ld_by_weight lD_by_weight:Option Addr}{lfd_by_weight:FuncData}{lv_by_weight:Array Value}{ls_by_weight lS_by_weight:Array (Option Value)}(nt:PySem.W.noTabs K=true)
  (ma_by_worth:PySem.W.nsIn K mainGlobals "by_worth"=some (some (.ref la_by_worth))) (ml_by_worth:K.lookup la_by_worth=some ⟨lo_by_worth,ld_by_worth,.func lfd_by_worth,ls_by_worth⟩) (mc_by_worth:lfd_by_worth.code=.ref lc_by_worth) (mk_by_worth:K.lookup lc_by_worth=some ⟨lO_by_worth,lD_by_worth,.fields lv_by_worth,lS_by_worth⟩) (mw_by_worth:lv_by_worth[11]?=some (.ref lp_by_worth)) (mr_by_worth:((recsOf q).find? (fun e=>e.name ==("by_worth":Str))).isSome=true)
  (ma_by_weight:PySem.W.nsIn K mainGlobals "by_weight"=some (some (.ref la_by_weight))) (ml_by_weight:K.lookup la_by_weight=some ⟨lo_by_weight,ld_by_weight,.func lfd_by_weight,ls_by_weight⟩) (mc_by_weight:lfd_by_weight.code=.ref lc_by_weight) (mk_by_weight:K.lookup lc_by_weight=some ⟨lO_by_weight,lD_by_weight,.fields lv_by_weight,lS_by_weight⟩) (mw_by_weight:lv_by_weight[11]?=some (.ref lp_by_weight)) (mr_by_weight:((recsOf q).find? (fun e=>e.name ==("by_weight":Str))).isSome=true)
  (ma_code_of:PySem.W.nsIn K mainGlobals "code_of"=some none)
  (mn:[lp_by_worth,lp_by_weight].Nodup)
  : fo q K:=fo.of nt (fu ma_by_worth ml_by_worth mc_by_worth mk_by_worth mw_by_worth) (fu ma_by_weight ml_by_weight mc_by_weight mk_by_weight mw_by_weight) (nE ma_code_of) (by first | exact mn | simp) (.inr mr_by_worth) (.inr mr_by_weight) (.inl rfl)
end
end G
open PySem PySem.W PyProof.Rows
set_option maxRecDepth 100000 in
set_option maxHeartbeats 0 in
theorem PySem.Challenge.cw_shortrows_k15_whole_none_less_holds : PySem.Challenge.rw_shortrows_k15_whole_none_less.Holds := by
 w_on;o_law;k_head;(case hw=>w_witness2)
 k_fill
 refine G.walk (l:=PySem.Challenge.rw_shortrows_k15_whole_none_less) rfl rfl (fun w h Y=>by first | exact PySem.W.kIn_of Y | exact PySem.W.km_in_of Y) ?F ?L
 case F =>
  intro w mg fa h KX GN hmg
  refine' G.all_mk KX GN hmg ?a0 ?l0 ?c0 ?k0 ?a1 ?l1 ?c1 ?k1 ?a2 ?l2 ?c2 ?k2 ?a3 ?l3 ?c3 ?k3 ?a4 ?l4 ?c4 ?k4 ?a5 ?l5 ?c5 ?k5 ?a6 ?l6 ?c6 ?k6 ?a7 ?l7 ?c7 ?k7 ?a8 ?l8 ?c8 ?k8 ?a9 ?l9 ?c9 ?k9 ?a10 ?l10 ?c10 ?k10 ?a11 ?l11 ?c11 ?k11 ?a12 ?l12 ?c12 ?k12 ?a13 ?l13 ?c13 ?k13 ?a14 ?l14 ?c14 ?k14 ?a15 ?l15 ?c15 ?k15 ?a16 ?l16 ?c16 ?k16 ?a17 ?l17 ?c17 ?k17 ?a18 ?l18 ?c18 ?k18 ?a19 ?l19 ?c19 ?k19 ?z0 ?z1 ?z2 ?z3 ?z4 ?z5 ?z6 ?z7 ?z8 ?z9 ?z10 ?z11 ?z12 ?z13 ?z14 ?xf0 ?xf1 ?le_by_worth ?lk_by_worth ?lw_by_worth ?le_by_weight ?lk_by_weight ?lw_by_weight
  (case a0=>k_is)
  (case l0=>k_is)
  (case c0=>k_is)
  (case k0=>k_is)
  (case a1=>k_is)
  (case l1=>k_is)
  (case c1=>k_is)
  (case k1=>k_is)
  (case a2=>k_is)
  (case l2=>k_is)
  (case c2=>k_is)
  (case k2=>k_is)
  (case a3=>k_is)
  (case l3=>k_is)
  (case c3=>k_is)
  (case k3=>k_is)
  (case a4=>k_is)
  (case l4=>k_is)
  (case c4=>k_is)
  (case k4=>k_is)
  (case a5=>k_is)
  (case l5=>k_is)
  (case c5=>k_is)
  (case k5=>k_is)
  (case a6=>k_is)
  (case l6=>k_is)
  (case c6=>k_is)
  (case k6=>k_is)
  (case a7=>k_is)
  (case l7=>k_is)
  (case c7=>k_is)
  (case k7=>k_is)
  (case a8=>k_is)
  (case l8=>k_is)
  (case c8=>k_is)
  (case k8=>k_is)
  (case a9=>k_is)
  (case l9=>k_is)
  (case c9=>k_is)
  (case k9=>k_is)
  (case a10=>k_is)
  (case l10=>k_is)
  (case c10=>k_is)
  (case k10=>k_is)
  (case a11=>k_is)
  (case l11=>k_is)
  (case c11=>k_is)
  (case k11=>k_is)
  (case a12=>k_is)
  (case l12=>k_is)
  (case c12=>k_is)
  (case k12=>k_is)
  (case a13=>k_is)
  (case l13=>k_is)
  (case c13=>k_is)
  (case k13=>k_is)
  (case a14=>k_is)
  (case l14=>k_is)
  (case c14=>k_is)
  (case k14=>k_is)
  (case a15=>k_is)
  (case l15=>k_is)
  (case c15=>k_is)
  (case k15=>k_is)
  (case a16=>k_is)
  (case l16=>k_is)
  (case c16=>k_is)
  (case k16=>k_is)
  (case a17=>k_is)
  (case l17=>k_is)
  (case c17=>k_is)
  (case k17=>k_is)
  (case a18=>k_is)
  (case l18=>k_is)
  (case c18=>k_is)
  (case k18=>k_is)
  (case a19=>k_is)
  (case l19=>k_is)
  (case c19=>k_is)
  (case k19=>k_is)
  (case z0=>k_is)
  (case z1=>k_is)
  (case z2=>k_is)
  (case z3=>k_is)
  (case z4=>k_is)
  (case z5=>k_is)
  (case z6=>k_is)
  (case z7=>k_is)
  (case z8=>k_is)
  (case z9=>k_is)
  (case z10=>k_is)
  (case z11=>k_is)
  (case z12=>k_is)
  (case z13=>k_is)
  (case z14=>k_is)
  (case xf0=>k_is)
  (case xf1=>k_exc)
  (case le_by_worth=>exact rfl)
  (case lk_by_worth=>k_is)
  (case lw_by_worth=>exact rfl)
  (case le_by_weight=>exact rfl)
  (case lk_by_weight=>k_is)
  (case lw_by_weight=>exact rfl)
 case L =>
  intro w h KX
  refine' G.zY KX (by kernel_rfl) ?ma_by_worth ?ml_by_worth ?mc_by_worth ?mk_by_worth ?mw_by_worth ?mr_by_worth ?ma_by_weight ?ml_by_weight ?mc_by_weight ?mk_by_weight ?mw_by_weight ?mr_by_weight ?ma_code_of ?mn
  (case ma_by_worth=>k_is)
  (case ml_by_worth=>k_is)
  (case mc_by_worth=>exact rfl)
  (case mk_by_worth=>k_is)
  (case mw_by_worth=>exact rfl)
  (case mr_by_worth=>exact rfl)
  (case ma_by_weight=>k_is)
  (case ml_by_weight=>k_is)
  (case mc_by_weight=>exact rfl)
  (case mk_by_weight=>k_is)
  (case mw_by_weight=>exact rfl)
  (case mr_by_weight=>exact rfl)
  (case ma_code_of=>k_is)
  (case mn=>decide)
end
