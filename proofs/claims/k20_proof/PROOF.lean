import PyProof.Rows.All
import Wide.All
import OpenK.AllK
import Wide.FinOn
import Lean
import PyProof.EqAt
import PyProof.EqKinds
import PyProof.TupleCall
import KE.KSortKey
import KE.KLam
import PySem.Challenge.RW_shortrows_k20_whole_codes
def PySem.W.Fast.tw17065594219716143686:=0
def PySem.W.Fast.tw11020607233780403611:=0
def PySem.W.Fast.tw15815849878404782139:=0
def PySem.W.Fast.tw13139244572081779150:=0
def PySem.W.Fast.tw9184813445103017008:=0
def PySem.W.Fast.tw16666995116725331888:=0
def PySem.W.Fast.tw16585006568763955016:=0
def PySem.W.Fast.tw4276760027616223171:=0
def PySem.W.Fast.tw6368259281966144991:=0
def PySem.W.Fast.tw11198689807942661425:=0
def PySem.W.Fast.tw9409267132384069199:=0
def PySem.W.Fast.tw12157628166327797823:=0
def PySem.W.Fast.tw13021859757037848429:=0
def PySem.W.Fast.tw9950409488324022634:=0
def PySem.W.Fast.tw527904245678003032:=0
def PySem.W.Fast.tw6308717240288679680:=0
def PySem.W.Fast.tw11879176854159072766:=0
def PySem.W.Fast.tw11202272381073137164:=0
def PySem.W.Fast.tw1873209609630013293:=0
def PySem.W.Fast.tw15174585775113689775:=0
def PySem.W.Fast.tw8826776143300544721:=0
def PySem.W.Fast.tw10449230454935328817:=0
def PySem.W.Fast.tw8588322206137863131:=0
def PySem.W.Fast.tw6396947559047981216:=0
def PySem.W.Fast.tw14184222653370767537:=0
def PySem.W.Fast.tw2258883545076341025:=0
def PySem.W.Fast.tw17193909777206298089:=0
def PySem.W.Fast.tw4557987811385659187:=0
def PySem.W.Fast.tw8920533570890295040:=0
def PySem.W.Fast.tw8053173388803987954:=0
def PySem.W.Fast.tw7107403901262418451:=0
def PySem.W.Fast.tw7914281400618391912:=0
def PySem.W.Fast.tw5125635090507526262:=0
def PySem.W.Fast.tw14617365229932749670:=0
def PySem.W.Fast.tw2717494731804244622:=0
def PySem.W.Fast.tw16675548432041821729:=0
def PySem.W.Fast.tw16003944281857370664:=0
def PySem.W.Fast.tw15104701697435851770:=0
def PySem.W.Fast.tw13088467025133188952:=0
def PySem.W.Fast.tw8625155882277059555:=0
def PySem.W.Fast.tw18057359412155849350:=0
def PySem.W.Fast.tw12057107672092834906:=0
def PySem.W.Fast.tw4501538427563830245:=0
def PySem.W.Fast.tw12991978516377691231:=0
def PySem.W.Fast.tw7657864480455102123:=0
def PySem.W.Fast.tw5458535509114623010:=0
def PySem.W.Fast.tw988277787487916680:=0
def PySem.W.Fast.tw8892304510974238442:=0
def PySem.W.Fast.tw17336718921692747040:=0
def PySem.W.Fast.tw17016330953156738841:=0
def PySem.W.Fast.tw12196223999524317624:=0
def PySem.W.Fast.tw12830847795766162811:=0
def PySem.W.Fast.tw10989064397769153901:=0
def PySem.W.Fast.tw6082862956887583591:=0
def PySem.W.Fast.tw17816972440013530568:=0
def PySem.W.Fast.tw10030270037463081073:=0
def PySem.W.Fast.tw18433839905274069452:=0
def PySem.W.Fast.tw10261092843387335260:=0
def PySem.W.Fast.tw4150345321637955699:=0
def PySem.W.Fast.tw4827847882882504471:=0
def PySem.W.Fast.tw393377219186636644:=0
def PySem.W.Fast.tw17034281912310508470:=0
def PySem.W.Fast.tw12072372660756207008:=0
def PySem.W.Fast.tw14155075609084360371:=0
def PySem.W.Fast.tw2593171690777318736:=0
def PySem.W.Fast.tw9023587396775564412:=0
def PySem.W.Fast.tw3922072006196635929:=0
def PySem.W.Fast.tw7103102836332205067:=0
def PySem.W.Fast.tw5837771079246685973:=0
def PySem.W.Fast.tw13593668435986382088:=0
def PySem.W.Fast.tw12623141328309544283:=0
def PySem.W.Fast.tw17591723403315571993:=0
def PySem.W.Fast.tw17514417408144992020:=0
def PySem.W.Fast.tw2523143317307021168:=0
def PySem.W.Fast.tw5768681760061761879:=0
def PySem.W.Fast.tw10125916334510906977:=0
def PySem.W.Fast.tw6466392171841047735:=0
def PySem.W.Fast.tw18364586765225480694:=0
def PySem.W.Fast.tw9175075297486920717:=0
def PySem.W.Fast.tw653017142180404703:=0
def PySem.W.Fast.tw7473267677611104413:=0
def PySem.W.Fast.tw2299002095952171973:=0
def PySem.W.Fast.tw2612767930056061011:=0
def PySem.W.Fast.tw11045097665514825279:=0
def PySem.W.Fast.tw2852414517949326462:=0
def PySem.W.Fast.tw10178134580897167787:=0
def PySem.W.Fast.tw17235947095805819469:=0
def PySem.W.Fast.tw12610914682715559425:=0
def PySem.W.Fast.tw2520144046418524909:=0
def PySem.W.Fast.tw5663110998405095302:=0
def PySem.W.Fast.tw8985123907001546130:=0
def PySem.W.Fast.tw14164710403880945919:=0
def PySem.W.Fast.tw10576336939562876883:=0
def PySem.W.Fast.tw11640301429615914158:=0
def PySem.W.Fast.tw15019164837778443693:=0
def PySem.W.Fast.tw2569028283867979016:=0
def PySem.W.Fast.tw14086294241034369485:=0
def PySem.W.Fast.tw9354819256575586149:=0
def PySem.W.Fast.tw2446233794124857486:=0
def PySem.W.Fast.tw11837696071611319478:=0
def PySem.W.Fast.tw16672636410205350128:=0
def PySem.W.Fast.tw4456903385544789962:=0
def PySem.W.Fast.tw2070402437029554041:=0
def PySem.W.Fast.tw18341838037087079229:=0
def PySem.W.Fast.tw10810609235179641975:=0
def PySem.W.Fast.tw3487666483058535716:=0
def PySem.W.Fast.tw6632015222786113417:=0
def PySem.W.Fast.tw1607519256636523373:=0
def PySem.W.Fast.tw6319995927544205112:=0
def PySem.W.Fast.tw13212641489182874631:=0
def PySem.W.Fast.tw6883398269761516696:=0
def PySem.W.Fast.tw6133581388550557821:=0
def PySem.W.Fast.tw4596988983408707708:=0
def PySem.W.Fast.tw3833788783320477968:=0
def PySem.W.Fast.tw2859338122425936786:=0
def PySem.W.Fast.tw5746662389823029225:=0
def PySem.W.Fast.tw196746976399104655:=0
def PySem.W.Fast.tw13601903060157273756:=0
def PySem.W.Fast.tw628335517991141110:=0
def PySem.W.Fast.tw6232984195994518406:=0
def PySem.W.Fast.tw8849151647516395887:=0
def PySem.W.Fast.tw8302781839759230713:=0
def PySem.W.Fast.tw2198333140529989487:=0
def PySem.W.Fast.tw1737877853699893120:=0
def PySem.W.Fast.tw17482935086162063653:=0
def PySem.W.Fast.tw11906052551536731037:=0
def PySem.W.Fast.tw15517792027249779097:=0
def PySem.W.Fast.tw17405069977281575768:=0
def PySem.W.Fast.tw1721331718734158781:=0
def PySem.W.Fast.tw17635434195703949552:=0
def PySem.W.Fast.tw3018978790537833403:=0
def PySem.W.Fast.tw15046017860317764746:=0
def PySem.W.Fast.tw11783405960869575099:=0
def PySem.W.Fast.tw4567151249574701971:=0
def PySem.W.Fast.tw5628596756277273191:=0
def PySem.W.Fast.tw9662308346413409078:=0
def PySem.W.Fast.tw17937531783200457903:=0
def PySem.W.Fast.tw3012579940747855323:=0
def PySem.W.Fast.tw15422053340850350581:=0
def PySem.W.Fast.tw10316220227448562844:=0
def PySem.W.Fast.tw12594494314750919227:=0
def PySem.W.Fast.tw4505183724131725244:=0
def PySem.W.Fast.tw5542307364762898353:=0
def PySem.W.Fast.tw7143545805592955381:=0
def PySem.W.Fast.tw16467208409757695209:=0
def PySem.W.Fast.tw15823573788090676632:=0
def PySem.W.Fast.tw10164206408086377145:=0
def PySem.W.Fast.tw4535926785739040262:=0
def PySem.W.Fast.tw16053829986218526220:=0
def PySem.W.Fast.tw2357891814860150374:=0
def PySem.W.Fast.tw7330930683305535572:=0
def PySem.W.Fast.tw9121010431466508062:=0
def PySem.W.Fast.tw14180147039949733142:=0
def PySem.W.Fast.tw7311233975264677756:=0
def PySem.W.Fast.tw2837589107131885658:=0
def PySem.W.Fast.tw15099260865039659041:=0
def PySem.W.Fast.tw5904867658250523109:=0
def PySem.W.Fast.tw16770457689667824277:=0
def PySem.W.Fast.tw8613715999620968254:=0
def PySem.W.Fast.tw13034504470908714069:=0
def PySem.W.Fast.tw714014021392676378:=0
def PySem.W.Fast.tw2151436721535946110:=0
def PySem.W.Fast.tw5553685100445083618:=0
def PySem.W.Fast.tw3146149229095507771:=0
def PySem.W.Fast.tw2922170766897438630:=0
def PySem.W.Fast.tw17089390959645538927:=0
def PySem.W.Fast.tw1580224960066448942:=0
def PySem.W.Fast.tw8931984147759872197:=0
def PySem.W.Fast.tw3603405112150408629:=0
def PySem.W.Fast.tw12493721004643353019:=0
def PySem.W.Fast.tw1900901025449047110:=0
def PySem.W.Fast.tw3670675284624464253:=0
def PySem.W.Fast.tw12391378606672243642:=0
def PySem.W.Fast.tw4389883040107748108:=0
def PySem.W.Fast.tw4101542759502966353:=0
def PySem.W.Fast.tw4738873210612608813:=0
def PySem.W.Fast.tw15822927186531622902:=0
def PySem.W.Fast.tw11027733531998447613:=0
def PySem.W.Fast.tw6317622917316755167:=0
def PySem.W.Fast.tw1727052398749309255:=0
def PySem.W.Fast.tw5140552750048514379:=0
def PySem.W.Fast.tw1083993095338292246:=0
def PySem.W.Fast.tw12389297018159595068:=0
def PySem.W.Fast.tw18437331888274779766:=0
def PySem.W.Fast.tw9528845263040268942:=0
def PySem.W.Fast.tw371848809695298514:=0
def PySem.W.Fast.tw12662250832379203482:=0
def PySem.W.Fast.tw10587094724979442888:=0
def PySem.W.Fast.tw8336684194751983788:=0
def PySem.W.Fast.tw3613790171605828048:=0
def PySem.W.Fast.tw3824006792123589524:=0
def PySem.W.Fast.tw13827471620313883637:=0
def PySem.W.Fast.tw6493944741398883450:=0
def PySem.W.Fast.tw17137212094123241154:=0
def PySem.W.Fast.tw4597248700440310376:=0
def PySem.W.Fast.tw11829686400519877184:=0
def PySem.W.Fast.tw15388610996085083712:=0
set_option Elab.async false
set_option linter.all false
set_option maxRecDepth 100000
set_option maxHeartbeats 4000000
noncomputable section
namespace L2
open PySem PySem.Spec PyProof.Rows
noncomputable abbrev Key:=Sum Int Str
def y_:Key->Value->Bool
 | .inl k,v=>Value.isInt k v
 | .inr x,v=>Value.isStrOf x v
def FF(w:World):Key->Int
 | .inl k=>hashInt k
 | .inr x=>hashStr w x
theorem a_:∀ {k:Key} {v:Value},y_ k v=true->(∃ i t,k=Sum.inl i/\v=Value.int i t)\/(∃ x t,k=Sum.inr x/\v=Value.str x t)
 | .inl i,v,h=>by
  obtain⟨t,e⟩:=Value.isInt_shape (k:=i) (v:=v) h;exact .inl ⟨i,t,rfl,e⟩
 | .inr x,v,h=>by
  obtain⟨t,e⟩:=Value.isStrOf_shape (x:=x) (v:=v) h;exact .inr ⟨x,t,rfl,e⟩
theorem BM(a b:Int):decide ((Sum.inl a:Key)=Sum.inl b)=(a == b):=by
 by_cases e:a=b
 ·subst e;simp
 ·have h:¬ (Sum.inl a:Key)=Sum.inl b:=fun q=>e (Sum.inl.inj q);rw[decide_eq_false h];exact (beq_eq_false_iff_ne.mpr e).symm
theorem AG(a b:Str):decide ((Sum.inr a:Key)=Sum.inr b)=decide (a=b):=by
 by_cases e:a=b
 ·subst e;simp
 ·have h:¬ (Sum.inr a:Key)=Sum.inr b:=fun q=>e (Sum.inr.inj q);rw[decide_eq_false h,decide_eq_false e]
theorem Cs(a:Int)(b:Str):decide ((Sum.inl a:Key)=Sum.inr b)=false:=decide_eq_false (fun q=>nomatch q)
theorem A9(a:Str)(b:Int):decide ((Sum.inr a:Key)=Sum.inl b)=false:=decide_eq_false (fun q=>nomatch q)
def jQ(prog:Program)(w:World):PySem.KeyKind prog w Key where
 is:=y_
 hash:=FF w
 inj:=fun v a b ha hb=>by
  rcases a_ ha with ⟨i,t,rfl,rfl⟩ | ⟨x,t,rfl,rfl⟩
  ·rcases a_ hb with ⟨j,u,rfl,e⟩ | ⟨y,u,rfl,e⟩
   ·injection e with e1 _;rw[e1]
   ·exact nomatch e
  ·rcases a_ hb with ⟨j,u,rfl,e⟩ | ⟨y,u,rfl,e⟩
   ·exact nomatch e
   ·injection e with e1 _;rw[e1]
 byValue:=fun k v h=>by
  rcases a_ h with ⟨i,t,rfl,rfl⟩ | ⟨x,t,rfl,rfl⟩<;>rfl
 pyHash:=fun hv h=>by
  rcases a_ hv with ⟨i,t,rfl,rfl⟩ | ⟨x,t,rfl,rfl⟩
  ·exact wpAny_pyHash_int h
  ·exact wpAny_pyHash_str h
 eqBool:=fun hu hv h=>by
  rcases a_ hu with ⟨i,t,rfl,rfl⟩ | ⟨x,t,rfl,rfl⟩
  ·rcases a_ hv with ⟨j,u,rfl,rfl⟩ | ⟨y,u,rfl,rfl⟩
   ·rw[BM] at h;exact wpAny_eqBool_int h
   ·rw[Cs] at h;exact SeqAt.EqAt.int_str i t y u _ _ _ _ h
  ·rcases a_ hv with ⟨j,u,rfl,rfl⟩ | ⟨y,u,rfl,rfl⟩
   ·rw[A9] at h;exact SeqAt.EqAt.str_int x t j u _ _ _ _ h
   ·rw[AG] at h;exact wpAny_eqBool_str h
 «strs»:=fun k x t v h=>by
  rcases a_ h with ⟨i,u,rfl,e⟩ | ⟨y,u,rfl,e⟩
  ·exact nomatch e
  ·injection e with e1 _
   subst e1
   cases v<;>rfl
inductive V where
 | aI | bl (b:Bool) | int (i:Int) | str (x:Str) | qN (b:Array UInt8) | Gy (b:UInt64) | ref (a:Addr) | ty (n:String)
 deriving DecidableEq
def RelV:V->Value->Prop
 | .aI,u=>u=Value.none
 | .bl b,u=>u=Value.bool b
 | .int i,u=>∃ t,u=Value.int i t
 | .str x,u=>∃ t,u=Value.str x t
 | .qN b,u=>∃ t,u=Value.bytes b t
 | .Gy b,u=>∃ t,u=Value.float b t
 | .ref a,u=>u=Value.ref a
 | .ty n,u=>u=Value.type n
noncomputable abbrev Vals:List V->List Value->Prop:=Paired RelV
theorem Vals.length{xs:List V}{us:List Value}(r:Vals xs us):xs.length=us.length:=Paired.length r
theorem Vals.get:∀ {xs:List V} {us:List Value} {i:Nat} {x:V},Vals xs us->xs[i]?=some x->∃ u,us[i]?=some u/\RelV x u
 | _,_,_,_,.nil,e=>by simp at e
 | _,_,0,_,.cons r _,e=>by simp at e;subst e;exact⟨_,rfl,r⟩
 | _,_,i+1,x,.cons _ t,e=>by
  obtain⟨u,h1,h2⟩:=Vals.get (i:=i) (x:=x) t (by simpa using e)
  exact⟨u,by simpa using h1,h2⟩
theorem Vals.set{x:V}{u:Value}(r:RelV x u):∀ {xs:List V} {us:List Value} (i:Nat),Vals xs us->Vals (xs.set i x) (us.set i u)
 | _,_,_,.nil=>.nil
 | _,_,0,.cons _ t=>.cons r t
 | _,_,i+1,.cons q t=>.cons q (Vals.set r i t)
theorem Vals.append:∀ {xs ys:List V} {us ws:List Value},Vals xs us->Vals ys ws->Vals (xs++ys) (us++ws)
 | _,_,_,_,.nil,s=>s
 | _,_,_,_,.cons r t,s=>.cons r (Vals.append t s)
theorem Vals.take:∀ {xs:List V} {us:List Value} (n:Nat),Vals xs us->Vals (xs.take n) (us.take n)
 | _,_,0,_=>.nil
 | _,_,_+1,.nil=>.nil
 | _,_,n+1,.cons r t=>.cons r (Vals.take n t)
theorem Vals.drop:∀ {xs:List V} {us:List Value} (n:Nat),Vals xs us->Vals (xs.drop n) (us.drop n)
 | _,_,0,r=>r
 | _,_,_+1,.nil=>.nil
 | _,_,n+1,.cons _ t=>Vals.drop n t
def E1:Option V->Option Value->Prop
 | some v,some u=>RelV v u
 | none,none=>True
 | _,_=>False
def KV{κ:Type}:List (κ×V)->List (κ×Value)->Prop:=Paired fun (p:κ×V) (q:κ×Value)=>p.1=q.1/\RelV p.2 q.2
def kV:Key->V
 | .inl i=>.int i
 | .inr x=>.str x
inductive HO where
 | lst (xs:List V)
 | tup (xs:List V)
 | dK (kvs:List (Key×V)) | dT (kvs:List (List Key×V))
 | set (S:Int->Bool) (n:Nat)
 | ins (C dx:Addr) (fs:List (Str×V))
 | own (x:Addr)
 | xd (fs:List (Str×V))
 | met (f x:Addr)
 | dk (lo hi:Int)
 | gF (o:Obj) (u:HO)
 | sy (ps:Array Value)
 | ext (φ:Heap->Prop)
noncomputable abbrev Hp:=Addr->Option HO
def upd(H:Hp)(a:Addr)(o:HO):Hp:=fun b=>if b=a then some o else H b
theorem aj{H:Hp}{a:Addr}{o:HO}:upd H a o a=some o:=by unfold upd;rw[if_pos rfl]
theorem ae{H:Hp}{a b:Addr}{o:HO}(h:b≠a):upd H a o b=H b:=by unfold upd;rw[if_neg h]
theorem pW{H:Hp}{a:Addr}{o u:HO}:upd (upd H a o) a u=upd H a u:=by
 funext b;unfold upd;split<;>rfl
theorem ak{H:Hp}{a b:Addr}{o:HO}(h:H a=some o)(h':H b=none):a≠b:=by
 intro e;subst e;rw[h] at h';cases h'
def FX:List Value->Str
 | .str q _::_=>q
 | _=>Str.ofString ""
def wq(ps:Array Value):Str:=FX ps.toList
def zH(H:Hp)(q:Str)(cv:Value):Prop:=∃ (c:Addr) (oc:Obj) (vs:Array Value) (t:Tok),cv=.ref c/\H c=some (.gF oc (.own c))/\oc.data=.fields vs/\vs[1]?=some (.str q t)
def cP(h:Heap)(a:Addr)(items:Array Value):Prop:=∃ o:Obj,h.get? a=some o/\o.cls=.type "tuple"/\∃ n,o.data=.seq items n/\o.dict=none
theorem cP.to{h:Heap}{a:Addr}{items:Array Value}(x:cP h a items):IsTup h a items:=let ⟨o,e,c,n,d,_⟩:=x;⟨o,e,c,n,d⟩
theorem cP.new(h:Heap)(items:Array Value):cP (h.push { cls:=.type "tuple",data:=.seq items }) h.objs.size items:=⟨_,Heap.get?_push_size h rfl,rfl,_,rfl,rfl⟩
theorem cP.lt{h:Heap}{a:Addr}{items:Array Value}(x:cP h a items):a < h.objs.size:=x.to.lt
section
variable (P:Program) (w:World)
def b7(H:Hp)(h:Heap)(a:Addr):HO->Prop
 | .lst xs=>xs.length<=sizeLine/\∃ (its:List Value) (n:Nat),Vals xs its/\h.get? a=some { cls:=.type "list",data:=.seq its.toArray n }
 | .tup xs=>xs.length<=sizeLine/\∃ its:List Value,Vals xs its/\cP h a its.toArray
 | .dK kvs=>kvs.length<=sizeLine/\(a == sysModules)=false/\∃ vs,KV kvs vs/\h.DictOf (jQ P w) a vs
 | .dT kvs=>kvs.length<=sizeLine/\(a == sysModules)=false/\∃ xs:List (List Key×Addr×Value),
   Paired (fun (p:List Key×V) (q:List Key×Addr×Value)=>p.1=q.1/\H q.2.1=some (.tup (p.1.map kV))/\RelV p.2 q.2.2) kvs xs /\
   ∃ o es ep,h.get? a=some o/\o.ExactDict/\o.data=.dict es ep/\es.toList=xs.map (entryOfKey (tupleKind (jQ P w)))/\(xs.map (·.1)).Nodup
 | .set S n=>h.SetOf (intKind P w) a S n
 | .ins C dx fs=>H dx=some (.own a)/\fs.length<=1000/\dx≠a/\h.get? a=some (PySem.W.instObj C dx) /\
   ∃ mA,h.Ns1 dx mA/\(∀ f,E1 (fs.lookup f) (mA f))/\PySem.Within mA (fs.map (·.1))
 | .own _=>∃ o,h.get? a=some o
 | .xd fs=>∃ mA,h.Ns1 a mA/\∀ f,E1 (fs.lookup f) (mA f)
 | .dk lo hi=>∃ t u v,h.get? a=some { cls:=.type "range",data:=.fields #[.int lo t,.int hi u,.int 1 v] }
 | .gF o u=>h.get? a=some o/\b7 H h a u
 | .sy ps=>∃ qs:Array Value,h.get? a=some { cls:=.none,data:=.fields qs }/\TriplesOk qs.toList/\∀ pos cv,codeAmong pos qs.toList=some cv->zH H (wq ps) cv
 | .met f x=>h.get? a=some (PySem.W.methodObj (.ref f) (.ref x))
 | .ext φ=>φ h/\(∃ o,h.get? a=some o)/\∀ h1 h2:Heap,φ h1->(∀ o,h1.get? a=some o->h2.get? a=some o)->φ h2
def eE(H:Hp)(h:Heap):Prop:=∀ a o,H a=some o->b7 P w H h a o
end
section
variable {P:Program} {w:World} {H H':Hp} {h h':Heap} {a:Addr} {o:HO}
theorem b7.lt(x:b7 P w H h a o):a < h.objs.size:=by
 cases o with
 | lst xs=>obtain⟨_,_,_,_,e⟩:=x;exact Heap.lt_size e
 | tup xs=>obtain⟨_,_,_,p⟩:=x;exact p.lt
 | dK kvs=>obtain⟨_,_,_,_,o,_,_,e,_⟩:=x;exact Heap.lt_size e
 | dT kvs=>obtain⟨_,_,_,_,o,_,_,e,_⟩:=x;exact Heap.lt_size e
 | set S n=>obtain⟨o,_,_,_,e,_⟩:=x;exact Heap.lt_size e
 | ins C dx fs=>obtain⟨_,_,_,e,_⟩:=x;exact Heap.lt_size e
 | own y=>obtain⟨_,e⟩:=x;exact Heap.lt_size e
 | xd fs=>obtain⟨_,⟨_,_,_,e,_⟩,_⟩:=x;exact Heap.lt_size e
 | dk lo hi=>obtain⟨_,_,_,e⟩:=x;exact Heap.lt_size e
 | gF ob u=>obtain⟨e,_⟩:=x;exact Heap.lt_size e
 | sy ps=>obtain⟨_,e,_⟩:=x;exact Heap.lt_size e
 | met f y=>exact Heap.lt_size (show h.get? a=some _ from x)
 | ext φ=>obtain⟨_,⟨_,e⟩,_⟩:=x;exact Heap.lt_size e
theorem Paired.kf{α β:Type}{F G:α->β->Prop}:∀ {l₁:List α} {l₂:List β},Paired F l₁ l₂->(∀ a b,F a b->G a b)->Paired G l₁ l₂
 | _,_,.nil,_=>.nil
 | _,_,.cons r t,f=>.cons (f _ _ r) (Paired.kf t f)
theorem b7.gZ(x:b7 P w H h a o)(k:∀ b u,(b=a\/H b=some (.own a))->h.get? b=some u->h'.get? b=some u)
  (ho:∀ b,H b=some (.own a)->H' b=some (.own a)) (ht:∀ b xs,H b=some (.tup xs)->H' b=some (.tup xs)) (hz:∀ b o u,H b=some (.gF o u)->H' b=some (.gF o u)):b7 P w H' h' a o:=by
 induction o with
 | lst xs=>obtain⟨z,its,n,r,e⟩:=x;exact⟨z,its,n,r,k _ _ (.inl rfl) e⟩
 | tup xs=>obtain⟨z,its,r,ob,e,c⟩:=x;exact⟨z,its,r,ob,k _ _ (.inl rfl) e,c⟩
 | dK kvs=>obtain⟨z,y,vs,r,ob,es,ep,e,c⟩:=x;exact⟨z,y,vs,r,ob,es,ep,k _ _ (.inl rfl) e,c⟩
 | dT kvs =>
  obtain⟨z,y,xs,r,ob,es,ep,e,c⟩:=x;exact⟨z,y,xs,Paired.kf r fun p q z=>⟨z.1,ht _ _ z.2.1,z.2.2⟩,ob,es,ep,k _ _ (.inl rfl) e,c⟩
 | set S n=>obtain⟨ob,es,ep,t,e,c⟩:=x;exact⟨ob,es,ep,t,k _ _ (.inl rfl) e,c⟩
 | ins C dx fs =>
  obtain⟨d,z,ne,e,mA,⟨od,es,ep,e2,c⟩,r⟩:=x;exact⟨ho _ d,z,ne,k _ _ (.inl rfl) e,mA,⟨od,es,ep,k _ _ (.inr d) e2,c⟩,r⟩
 | own y=>obtain⟨ob,e⟩:=x;exact⟨ob,k _ _ (.inl rfl) e⟩
 | xd fs=>obtain⟨mA,⟨od,es,ep,e,c⟩,r⟩:=x;exact⟨mA,⟨od,es,ep,k _ _ (.inl rfl) e,c⟩,r⟩
 | dk lo hi=>obtain⟨t,u,v,e⟩:=x;exact⟨t,u,v,k _ _ (.inl rfl) e⟩
 | gF ob u ih=>obtain⟨e,q⟩:=x;exact⟨k _ _ (.inl rfl) e,ih q⟩
 | sy ps =>
  obtain⟨qs,e,t,f⟩:=x;exact⟨qs,k a _ (.inl rfl) e,t,fun pos cv q=>let ⟨c,oc,vs,t',e1,e2,e3⟩:=f pos cv q;⟨c,oc,vs,t',e1,hz _ _ _ e2,e3⟩⟩
 | met f y =>
  have e:h.get? a=some (PySem.W.methodObj (.ref f) (.ref y)):=x;show h'.get? a=some (PySem.W.methodObj (.ref f) (.ref y));exact k a _ (.inl rfl) e
 | ext φ=>obtain⟨p,⟨o,e⟩,st⟩:=x;exact⟨st _ _ p fun o q=>k _ _ (.inl rfl) q,⟨o,k _ _ (.inl rfl) e⟩,st⟩
theorem eE.lt(x:eE P w H h)(e:H a=some o):a < h.objs.size:=(x a o e).lt
theorem eE.fresh(x:eE P w H h)(e:h.objs.size<=a):H a=none:=by
 cases q:H a with
 | none=>rfl
 | some u=>exact absurd (Nat.lt_of_lt_of_le (x.lt q) e) (Nat.lt_irrefl _)
theorem eE.kept(x:eE P w H h)(k:∀ b u,h.get? b=some u->h'.get? b=some u):eE P w H h':=fun a o e =>
 (x a o e).gZ (fun b u _ q=>k b u q) (fun _ q=>q) (fun _ _ q=>q) fun _ _ _ q=>q
theorem eE.laid(x:eE P w H h)(k:∀ b u,h.get? b=some u->h'.get? b=some u)(hp:h.objs.size<=a)(new:b7 P w (upd H a o) h' a o):eE P w (upd H a o) h':=fun b u e=>by
 have hn:=x.fresh hp;by_cases hb:b=a
 ·subst hb;rw[aj] at e;cases e;exact new
 ·rw[ae hb] at e;exact (x b u e).gZ (fun c v _ q=>k c v q) (fun c q=>by rw[ae (ak q hn)];exact q) (fun c xs q=>by rw[ae (ak q hn)];exact q) fun c _ _ q=>by rw[ae (ak q hn)];exact q
end
def Rd(H:Hp)(a:Addr)(u:HO):Prop:=H a=some u\/∃ o,H a=some (.gF o u)
theorem Rd.ok{P:Program}{w:World}{H:Hp}{h:Heap}{a:Addr}{u:HO}(r:Rd H a u)(x:eE P w H h):b7 P w H h a u:=by
 rcases r with r | ⟨o,r⟩
 ·exact x a u r
 ·obtain⟨_,q⟩:=x a _ r;exact q
def ET:Option HO->Prop
 | some (.lst _)=>True
 | some (.dK _)=>True
 | some (.dT _)=>True
 | some (.set _ _)=>True
 | some (.ins _ _ _)=>True
 | some (.ext _)=>True
 | _=>False
section
variable {P:Program} {w:World} {H:Hp} {h h':Heap} {x e:Addr} {o':HO}
theorem eE.write(ok:eE P w H h)(mu:ET (H x))(he:e=x\/H e=some (.own x))(k:∀ b u,b≠e->h.get? b=some u->h'.get? b=some u)(heo:∃ u,h'.get? e=some u)
  (new:b7 P w (upd H x o') h' x o'):eE P w (upd H x o') h':=fun b u q=>by
 have nown:∀ c y,H c=some (.own y)->c≠x:=fun c y r z=>by subst z;rw[r] at mu;exact mu
 have ntup:∀ c xs,H c=some (.tup xs)->c≠x:=fun c xs r z=>by subst z;rw[r] at mu;exact mu
 have nfrz:∀ c o1 u1,H c=some (.gF o1 u1)->c≠x:=fun c _ _ r z=>by subst z;rw[r] at mu;exact mu
 by_cases hb:b=x
 ·subst hb;rw[aj] at q;cases q;exact new
 ·rw[ae hb] at q;by_cases hbe:b=e
  ·have q':H b=some (.own x):=by
    rcases he with z | z
    ·exact absurd (hbe.trans z) hb
    ·rw[hbe];exact z
   rw[q] at q';cases q';obtain⟨v,hv⟩:=heo;exact⟨v,by rw[hbe];exact hv⟩
  ·refine (ok b u q).gZ (fun c v hc r=>k c v ?_ r) (fun c r=>by rw[ae (nown c b r)];exact r) (fun c xs r=>by rw[ae (ntup c xs r)];exact r) fun c _ _ r=>by rw[ae (nfrz c _ _ r)];exact r
   rcases hc with rfl | hc
   ·exact hbe
   ·rintro rfl;rcases he with z | z
    ·exact nown c b hc z
    ·rw[hc] at z;cases z;exact hb rfl
end
structure Un (fs ex:List Addr) (H H':Hp) (h h':Heap):Prop where
 keep:∀ b o,h.get? b=some o->H b=none->b∉fs->b∉ex->h'.get? b=some o
 slot:∀ b o,h.get? b=some o->H b=none->b∈fs->b∉ex->∃ sl,h'.get? b=some { o with slots:=sl }
 free:∀ b o,h.get? b=some o->H b=none->b∉ex->H' b=none
 there:∀ b o,h.get? b=some o->b∉ex->∃ o',h'.get? b=some o'
 ja:∀ b xs,H b=some (.tup xs)->H' b=some (.tup xs)
 gX:∀ b o u,H b=some (.gF o u)->H' b=some (.gF o u)
 gC:∀ b ps,H b=some (.sy ps)->∃ more,H' b=some (.sy (ps++more))
section
variable {fs fs' ex ex':List Addr} {H H1 H2:Hp} {h h1 h2 h':Heap} {a x e:Addr} {o:HO}
theorem Un.any(u:Un fs ex H H1 h h1){b:Addr}{ob:Obj}(q:h.get? b=some ob)(n:H b=none)(hx:b∉ex):∃ sl,h1.get? b=some { ob with slots:=sl }:=by
 by_cases hb:b∈fs
 ·exact u.slot b ob q n hb hx
 ·exact⟨ob.slots,u.keep b ob q n hb hx⟩
theorem Un.kept(k:∀ b u,h.get? b=some u->h'.get? b=some u):Un fs ex H H h h':=
 ⟨fun b ob q _ _ _=>k b ob q,fun b ob q _ _ _=>⟨ob.slots,k b ob q⟩,fun _ _ _ n _=>n,fun b ob q _=>⟨ob,k b ob q⟩,fun _ _ q=>q,fun _ _ _ q=>q,fun _ ps q=>⟨#[],by rw[q];simp⟩⟩
theorem Un.refl:Un fs ex H H h h:=Un.kept fun _ _ q=>q
theorem Un.laid(k:∀ b u,h.get? b=some u->h'.get? b=some u)(hp:h.objs.size<=a)(hn:H a=none):Un fs ex H (upd H a o) h h' where
 keep:=fun b u q _ _ _=>k b u q
 slot:=fun b u q _ _ _=>⟨u.slots,k b u q⟩
 free:=fun b u q n _=>by rw[ae (Nat.ne_of_lt (Nat.lt_of_lt_of_le (Heap.lt_size q) hp))];exact n
 there:=fun b u q _=>⟨u,k b u q⟩
 ja:=fun b xs q=>by rw[ae (ak q hn)];exact q
 gX:=fun b u xs q=>by rw[ae (ak q hn)];exact q
 gC:=fun b ps q=>⟨#[],by rw[ae (ak q hn),q];simp⟩
theorem Un.write(mu:ET (H x))(he:e=x\/H e=some (.own x))(k:∀ b u,b≠e->h.get? b=some u->h'.get? b=some u)(heo:∃ u,h'.get? e=some u):Un fs ex H (upd H x o) h h':=by
 have hx:∀ b,H b=none->b≠x:=fun b n z=>by subst z;rw[n] at mu;exact mu
 have hb:∀ b,H b=none->b≠e:=fun b n z=>by
  subst z;rcases he with r | r
  ·exact hx b n r
  ·rw[n] at r;cases r
 have hm:∀ b u,H b=some u->¬ ET (some u)->b≠x:=fun b u q nm z=>by subst z;rw[q] at mu;exact nm mu
 refine⟨fun b u q n _ _=>k b u (hb b n) q,fun b u q n _ _=>⟨u.slots,k b u (hb b n) q⟩,fun b u q n _=>by rw[ae (hx b n)];exact n,fun b u q _=>?_,
  fun b xs q=>by rw[ae (hm b _ q fun z=>z)];exact q,fun b u xs q=>by rw[ae (hm b _ q fun z=>z)];exact q,fun b ps q=>⟨#[],by rw[ae (hm b _ q fun z=>z),q];simp⟩⟩
 by_cases hbe:b=e
 ·subst hbe;exact heo
 ·exact⟨u,k b u hbe q⟩
end
def er(h:Heap)(H:Hp):List Addr:=(List.range h.objs.size).filter fun a=>(H a).isSome
def jh(h:Heap)(H:Hp):Heap:=PySem.W.hideAll h (er h H)
theorem qR(h:Heap)(H:Hp):(jh h H).objs.size=h.objs.size:=PySem.W.hideAll_size _ _
theorem fv{h:Heap}{H:Hp}{b:Addr}{o:Obj}(e:h.get? b=some o)(n:H b=none):(jh h H).get? b=some o:=
 PySem.W.hideAll_get _ e fun hm=>by
  have q:(H b).isSome=true:=(List.mem_filter.mp hm).2;rw[n] at q;simp at q
theorem yz{h:Heap}{H:Hp}{b:Addr}{o:Obj}(e:(jh h H).get? b=some o):h.get? b=some o/\H b=none:=by
 have e':h.get? b=some o:=PySem.W.of_hideAll (er h H) e;refine⟨e',?_⟩
 cases q:H b with
 | none=>rfl
 | some x =>
  have hm:b∈er h H:=List.mem_filter.mpr ⟨List.mem_range.mpr (Heap.lt_size e'),by simp[q]⟩
  have z:(jh h H).get? b=none:=PySem.W.hideAll_none (er h H) hm;rw[z] at e;cases e
def xw(g h:Heap)(L:Addr):List (Addr×Obj):=(List.range h.objs.size).filterMap fun a=>if a=L\/(g.get? a).isSome=true then none else (h.get? a).map fun o=>(a,o)
def rest(g h:Heap)(L d:Addr):List (Addr×Obj):=(xw g h L).filter fun p=>decide (p.1≠d)
def cF:List Str:=["by_worth","by_weight","code_of"]
def b8(K:PySem.W.Frag):List (Addr×Addr×Str):=cF.filterMap fun x=>(PySem.W.tabIn K x).map fun p=>(p.1,p.2,(x++".<locals>.")++"<lambda>")
def TabsOk(K:PySem.W.Frag)(H:Hp):Prop:=∀ t∈b8 K,∃ more,H t.2.1=some (.sy (#[.str t.2.2 0]++more))
theorem TabsOk.un{K:PySem.W.Frag}{fs ex:List Addr}{H H1:Hp}{h h1:Heap}(x:TabsOk K H)(u:Un fs ex H H1 h h1):TabsOk K H1:=fun t ht=>by
 obtain⟨m,e⟩:=x t ht;obtain⟨m2,e2⟩:=u.gC _ _ e;exact⟨m++m2,by rw[e2,Array.append_assoc]⟩
def Ca(mg:Str->Option Value)(h:Heap):Prop:=∃ bm ob,mg "__builtins__"=some (.ref bm)/\bm≠builtinsNs/\h.get? bm=some ob/\ob.cls=.type "module"/\ob.dict=some builtinsNs/\ob.data=.plain
structure Mod (K:PySem.W.Frag) (mg:Str->Option Value) (base:Heap):Prop where
 xW:K.In base
 glob:base.Ns mainGlobals mg
 blt:∃ mb,base.Ns builtinsNs mb/\∀ x:Str,x≠"__name__"->mb x=bootBuiltins x
 nolimit:base.NoLimit
 codes:∀ t∈b8 K,PySem.W.CodeHd base t.1 t.2.1
 bm:Ca mg base
structure Cx where
 prog:Program
 w:World
 K:PySem.W.Frag
 mg:Str->Option Value
 base:Heap
 A:Around
 N:List Str
 s₀:Shared
 H₀:Hp
 env:Env
 outer:List Env
 stack:List Env
 ex:List Addr
 fn:Str->Bool
 calm:Bool
 pn:List (Addr×Obj)
 xe:Value->Shared->Prop
def gx(l:List Env):List Addr:=l.filterMap (·.frame)
noncomputable abbrev Cx.fs (X:Cx):List Addr:=gx X.outer
def BY(sc:Scope)(x:Str):Prop:=sc.names.lookup x=some .local\/sc.names.lookup x=some .cell\/sc.names.lookup x=some .free
def Loc(sc:Scope)(x:Str):Prop:=sc.names.lookup x=some .local\/sc.names.lookup x=some .cell
def Look(env:Env)(h:Heap)(m:Str->Option Value)(x:Str)(u:Value):Prop:=
 (env.kindOf x=some .local/\m x=some u)\/((env.kindOf x=some .cell\/env.kindOf x=some .free)/\∃ c,env.cells.lookup x=some c/\h.IsCell c (some u))
structure Cx.Ok (X:Cx):Prop where
 mod:Mod X.K X.mg X.base
 kind:X.env.scope.kind=.function
 glob:X.env.globals=mainGlobals
 blt:X.env.builtins=builtinsNs
 above:X.s₀.heap.objs.size<=X.env.locals
 inj:∀ x y c,X.env.cells.lookup x=some c->X.env.cells.lookup y=some c->x=y
 has:∀ x,(X.env.kindOf x=some .cell\/X.env.kindOf x=some .free)->∃ c,X.env.cells.lookup x=some c
 El:∀ x c,X.fn x=true->X.env.cells.lookup x=some c->X.s₀.heap.objs.size<=c
 hd:X.calm=true->X.A.handled=none
 frames:X.A.frames=some X.stack
 Fg:X.stack=X.outer\/(X.stack=X.env::X.outer/\X.env.frame=some X.env.locals)
 GU:∀ b∈X.ex,b≠X.env.locals/\∀ x c,X.env.cells.lookup x=some c->c≠b
 bs:∀ b o,X.base.get? b=some o->X.s₀.heap.get? b=some o/\X.H₀ b=none
 xQ:X.base.objs.size<=X.s₀.heap.objs.size
 uP:∀ b o,X.base.get? b=some o->b∉X.ex
 yR:∀ b∈X.ex,b∉X.fs
 h8:X.s₀.heap.FunFrames X.base X.outer
 C8:∀ b∈X.fs,X.H₀ b=none
 tabs:TabsOk X.K X.H₀
structure Inv (X:Cx) (pins:List (Addr×Obj)) (σ:List (Option V)) (H:Hp) (s:Shared):Prop where
 ok:X.Ok
 os:s.os=X.s₀.os
 bare:AllBare s.gens
 base:Un X.fs X.ex X.H₀ H X.s₀.heap s.heap
 loc:∃ m,s.heap.Ns X.env.locals m/\∀ (i:Nat) (x:Str) (v:V),X.N[i]?=some x->σ[i]?=some (some v)->BY X.env.scope x->∃ u,RelV v u/\Look X.env s.heap m x u
 cell:∀ x c,X.env.cells.lookup x=some c->∃ v,s.heap.IsCell c v
 free:H X.env.locals=none
 cQ:∀ x c,X.env.cells.lookup x=some c->H c=none
 pin:∀ p∈X.pn++pins,s.heap.get? p.1=some p.2/\H p.1=none/\p.1≠X.env.locals/\p.1∉X.fs/\∀ v,p.2.data≠.cell v
 aS:eE X.prog X.w H s.heap
 len:σ.length=X.N.length
section
variable {X:Cx} {pins:List (Addr×Obj)} {σ:List (Option V)} {H H':Hp} {s:Shared} {h':Heap}
theorem Cx.Ok.Ge(ok:X.Ok){b:Addr}{o:Obj}(e:X.base.get? b=some o):b∉X.fs:=fun hb=>by
 have:=(ok.h8.mem hb).1;rw[e] at this;cases this
theorem Inv.bs(I:Inv X pins σ H s):∀ b o,X.base.get? b=some o->s.heap.get? b=some o/\H b=none:=fun b o e =>
 ⟨I.base.keep b o (I.ok.bs b o e).1 (I.ok.bs b o e).2 (I.ok.Ge e) (I.ok.uP b o e),I.base.free b o (I.ok.bs b o e).1 (I.ok.bs b o e).2 (I.ok.uP b o e)⟩
theorem Inv.bk(I:Inv X pins σ H s):∀ b o,X.base.get? b=some o->s.heap.get? b=some o:=fun b o e=>(I.bs b o e).1
theorem Inv.mod(I:Inv X pins σ H s):Mod X.K X.mg X.base:=I.ok.mod
theorem Inv.oK(I:Inv X pins σ H s):X.K.In s.heap:=I.ok.mod.xW.keeps I.bk
theorem Inv.nolimit(I:Inv X pins σ H s):s.heap.NoLimit:=I.ok.mod.nolimit.keeps I.bk
theorem Inv.lt(I:Inv X pins σ H s):X.env.locals < s.heap.objs.size:=let ⟨_,hn,_⟩:=I.loc;hn.lt
theorem Inv.sz(I:Inv X pins σ H s):X.s₀.heap.objs.size<=s.heap.objs.size:=Nat.le_trans I.ok.above (Nat.le_of_lt I.lt)
theorem Inv.DX(I:Inv X pins σ H s){a:Addr}(h:s.heap.objs.size<=a):a∉X.fs:=fun hb=>by
 obtain⟨_,o,ho,_⟩:=I.ok.h8.mem hb;exact absurd (Nat.lt_of_lt_of_le (Heap.lt_size ho) (Nat.le_trans I.sz h)) (Nat.lt_irrefl _)
theorem Inv.yC(I:Inv X pins σ H s):∀ x c,X.env.cells.lookup x=some c->c≠X.env.locals:=fun x c e z=>by
 obtain⟨v,o,ho,hd⟩:=I.cell x c e;obtain⟨m,⟨o',es,ep,ho',hd',_⟩,_⟩:=I.loc;rw[z,ho'] at ho;cases ho;rw[hd'] at hd;cases hd
theorem Inv.h8(I:Inv X pins σ H s):s.heap.FunFrames X.base X.outer:=by
 have all:∀ (l:List Env),(∀ b∈gx l,b∈X.fs)->X.s₀.heap.FunFrames X.base l->s.heap.FunFrames X.base l:=by
  intro l
  induction l with
  | nil=>intro _ _;trivial
  | cons env r ih =>
   intro hs hl;obtain⟨hk,⟨L,o,hf,hn,ho,hd⟩,hr⟩:=hl;have hL:L∈X.fs:=hs L (by unfold gx;rw[List.filterMap_cons,hf];exact List.mem_cons_self)
   obtain⟨sl,e⟩:=I.base.slot L o ho (I.ok.C8 L hL) hL fun z=>I.ok.yR L z hL;exact⟨hk,⟨L,_,hf,hn,e,hd⟩,ih (fun b hb=>hs b (by unfold gx;rw[List.filterMap_cons,hf];exact List.mem_cons_of_mem _ hb)) hr⟩
 exact all X.outer (fun _ hb=>hb) I.ok.h8
theorem Inv.stack(I:Inv X pins σ H s):s.heap.FunFrames X.base X.stack:=by
 rcases I.ok.Fg with e | ⟨e,hf⟩
 ·rw[e];exact I.h8
 ·rw[e];obtain⟨m,hn,_⟩:=I.loc;refine .cons (by rw[I.ok.kind];decide) hf hn ?_ I.h8
  exact Heap.get?_none_of_le (Nat.le_trans I.ok.xQ I.ok.above)
theorem Inv.iC(I:Inv X pins σ H s):∀ b∈gx X.stack,b∈X.env.locals::X.fs:=fun b hb=>by
 rcases I.ok.Fg with e | ⟨e,hf⟩
 ·rw[e] at hb;exact List.mem_cons_of_mem _ hb
 ·rw[e] at hb;unfold gx at hb;rw[List.filterMap_cons,hf] at hb;exact hb
theorem Inv.gE(I:Inv X pins σ H s):∀ b∈gx X.stack,H b=none:=fun b hb=>by
 rcases List.mem_cons.mp (I.iC b hb) with e | hb
 ·rw[e];exact I.free
 ·obtain⟨_,o,ho,_⟩:=I.ok.h8.mem hb;exact I.base.free b o ho (I.ok.C8 b hb) fun z=>I.ok.yR b z hb
theorem Inv.step{g':Array GenState}{t':Nat}{d':Drawn}{ch:List Addr}(I:Inv X pins σ H s)
  (hch:∀ b∈ch,(b∈X.ex\/X.s₀.heap.objs.size<=b)/\b≠X.env.locals/\(∀ x c,X.env.cells.lookup x=some c->c≠b)/\∀ p∈X.pn++pins,p.1≠b)
  (keep:∀ b o,b≠X.env.locals->b∉X.fs->b∉ch->s.heap.get? b=some o->H b=none->h'.get? b=some o)
  (slot:∀ b o,b≠X.env.locals->b∈X.fs->b∉ch->s.heap.get? b=some o->H b=none->∃ sl,h'.get? b=some { o with slots:=sl }) (free:∀ b o,b∉ch->s.heap.get? b=some o->H b=none->H' b=none)
  (there:∀ b o,b∉ch->s.heap.get? b=some o->∃ o',h'.get? b=some o')
  (ja:∀ b xs,H b=some (.tup xs)->H' b=some (.tup xs)) (gX:∀ b o u,H b=some (.gF o u)->H' b=some (.gF o u)) (gC:∀ b ps,H b=some (.sy ps)->∃ more,H' b=some (.sy (ps++more)))
  (ns:∀ m,s.heap.Ns X.env.locals m->h'.Ns X.env.locals m) (aS:eE X.prog X.w H' h') (hg:AllBare g') :
  Inv X pins σ H' { s with heap:=h',gens:=g',drawn:=d',toks:=t' }:=by
 have neL:∀ b o,X.s₀.heap.get? b=some o->b≠X.env.locals:=fun b o e=>Nat.ne_of_lt (Nat.lt_of_lt_of_le (Heap.lt_size e) I.ok.above);have neC:∀ b o,X.s₀.heap.get? b=some o->b∉X.ex->b∉ch:=fun b o e hx hb=>by
  rcases (hch b hb).1 with z | z
  ·exact hx z
  ·exact absurd (Nat.lt_of_lt_of_le (Heap.lt_size e) z) (Nat.lt_irrefl _)
 have cellK:∀ x c,X.env.cells.lookup x=some c->∀ v,s.heap.IsCell c v->h'.IsCell c v:=fun x c e v ⟨o,ho,hd⟩=>by
  have nch:c∉ch:=fun z=>(hch c z).2.2.1 x c e rfl;by_cases hc:c∈X.fs
  ·obtain⟨sl,q⟩:=slot c o (I.yC x c e) hc nch ho (I.cQ x c e);exact⟨_,q,hd⟩
  ·exact⟨o,keep c o (I.yC x c e) hc nch ho (I.cQ x c e),hd⟩
 refine⟨I.ok,I.os,hg,⟨fun b o e n hb hx=>?_,fun b o e n hb hx=>?_,fun b o e n hx=>?_,fun b o e hx=>?_,fun b xs e=>ja b xs (I.base.ja b xs e),fun b o xs e=>gX b o xs (I.base.gX b o xs e),fun b ps e=>?_⟩,?_,fun x c e=>?_,?_,fun x c e=>?_,fun p hp=>?_,aS,I.len⟩
 ·exact keep b o (neL b o e) hb (neC b o e hx) (I.base.keep b o e n hb hx) (I.base.free b o e n hx)
 ·obtain⟨sl,e1⟩:=I.base.slot b o e n hb hx;obtain⟨sl',e2⟩:=slot b _ (neL b o e) hb (neC b o e hx) e1 (I.base.free b o e n hx);exact⟨sl',e2⟩
 ·obtain⟨o',e1⟩:=I.base.there b o e hx;exact free b o' (neC b o e hx) e1 (I.base.free b o e n hx)
 ·obtain⟨o',e1⟩:=I.base.there b o e hx;exact there b o' (neC b o e hx) e1
 ·obtain⟨m1,e1⟩:=I.base.gC b ps e;obtain⟨m2,e2⟩:=gC b _ e1;exact⟨m1++m2,by rw[e2,Array.append_assoc]⟩
 ·obtain⟨m,hn,hl⟩:=I.loc;refine⟨m,ns m hn,fun i x v e1 e2 e3=>?_⟩;obtain⟨u,r,l⟩:=hl i x v e1 e2 e3;refine⟨u,r,?_⟩;rcases l with l | ⟨k,c,e,z⟩
  ·exact .inl l
  ·exact .inr ⟨k,c,e,cellK x c e _ z⟩
 ·obtain⟨v,z⟩:=I.cell x c e;exact⟨v,cellK x c e v z⟩
 ·obtain⟨m,⟨o,_,_,ho,_⟩,_⟩:=I.loc;exact free _ o (fun z=>(hch _ z).2.1 rfl) ho I.free
 ·obtain⟨v,o,ho,hd⟩:=I.cell x c e;exact free c o (fun z=>(hch c z).2.2.1 x c e rfl) ho (I.cQ x c e)
 ·obtain⟨e,n,ne,nf,d⟩:=I.pin p hp;have nch:p.1∉ch:=fun z=>(hch p.1 z).2.2.2 p hp rfl;exact⟨keep p.1 p.2 ne nf nch e n,free p.1 p.2 nch e n,ne,nf,d⟩
theorem Inv.un{t':Nat}(I:Inv X pins σ H s)(u:Un X.fs [] H H' s.heap h')(aS:eE X.prog X.w H' h'):Inv X pins σ H' { s with heap:=h',toks:=t' }:=by
 obtain⟨m,⟨o,es,ep,ho,r⟩,_⟩:=id I.loc;obtain⟨sl,hL⟩:=u.any ho I.free (by simp)
 exact I.step (g':=s.gens) (d':=s.drawn) (ch:=[]) (fun _ z=>nomatch z) (fun b o _ hb _ e n=>u.keep b o e n hb (by simp)) (fun b o _ hb _ e n=>u.slot b o e n hb (by simp)) (fun b o _ e n=>u.free b o e n (by simp)) (fun b o _ e=>u.there b o e (by simp)) u.ja u.gX u.gC (fun m' hm=>by
  obtain⟨o',es',ep',ho',r'⟩:=hm;rw[ho] at ho';cases ho';exact⟨_,es',ep',hL,r'⟩) aS I.bare
theorem Inv.call{g':Array GenState}{t':Nat}{d':Drawn}{ch:List Addr}(I:Inv X pins σ H s)(u:Un (gx X.stack) ch H H' s.heap h')(aS:eE X.prog X.w H' h')(hg:AllBare g')
  (hch:∀ b∈ch,(b∈X.ex\/X.s₀.heap.objs.size<=b)/\b≠X.env.locals/\(∀ x c,X.env.cells.lookup x=some c->c≠b)/\∀ p∈X.pn++pins,p.1≠b) :
  Inv X pins σ H' { s with heap:=h',gens:=g',drawn:=d',toks:=t' }:=by
 obtain⟨m,⟨o,es,ep,ho,r⟩,_⟩:=id I.loc;obtain⟨sl,hL⟩:=u.any ho I.free fun z=>(hch _ z).2.1 rfl;exact I.step (ch:=ch) hch (fun b o hL hb hc e n=>u.keep b o e n (fun z=>(List.mem_cons.mp (I.iC b z)).elim hL hb) hc) (fun b o _ _ hc e n=>u.any e n hc) (fun b o hc e n=>u.free b o e n hc) (fun b o hc e=>u.there b o e hc) u.ja u.gX u.gC (fun m' hm=>by
  obtain⟨o',es',ep',ho',r'⟩:=hm;rw[ho] at ho';cases ho';exact⟨_,es',ep',hL,r'⟩) aS hg
theorem Inv.turned{t':Nat}{it:Addr}(I:Inv X pins σ H s)(k:∀ b o,b≠it->s.heap.get? b=some o->h'.get? b=some o)(hn:H it=none)(hL:it≠X.env.locals)
  (h1:it∈X.ex\/X.s₀.heap.objs.size<=it) (h2:∀ x c,X.env.cells.lookup x=some c->c≠it) (h3:∀ p∈X.pn++pins,p.1≠it):Inv X pins σ H { s with heap:=h',toks:=t' }:=by
 have nit:∀ b u,H b=some u->b≠it:=fun b u e z=>by rw[z,hn] at e;cases e
 refine I.step (g':=s.gens) (d':=s.drawn) (ch:=[it]) (fun b hb=>?_) (fun b o _ _ hc e _=>k b o (fun z=>hc (by simp[z])) e) (fun b o _ _ hc e _=>⟨o.slots,k b o (fun z=>hc (by simp[z])) e⟩) (fun _ _ _ _ n=>n)
  (fun b o hc e=>⟨o,k b o (fun z=>hc (by simp[z])) e⟩) (fun _ _ e=>e) (fun _ _ _ e=>e) (fun b ps e=>⟨#[],by rw[e];simp⟩) (fun m hm=>?_) (fun b u e=>?_) I.bare
 ·have e:b=it:=by simpa using hb
  subst e;exact⟨h1,hL,h2,h3⟩
 ·obtain⟨o,es,ep,ho,r⟩:=hm;exact⟨o,es,ep,k _ o (Ne.symm hL) ho,r⟩
 ·refine (I.aS b u e).gZ (fun c v hc q=>k c v ?_ q) (fun _ q=>q) (fun _ _ q=>q) fun _ _ _ q=>q;rcases hc with z | z
  ·rw[z];exact nit b u e
  ·exact nit c _ z
theorem Inv.tok(I:Inv X pins σ H s)(t:Nat):Inv X pins σ H { s with toks:=t }:=I.un (h':=s.heap) (t':=t) Un.refl I.aS
theorem Inv.kept{t':Nat}(I:Inv X pins σ H s)(k:∀ b u,s.heap.get? b=some u->h'.get? b=some u):Inv X pins σ H { s with heap:=h',toks:=t' }:=I.un (Un.kept k) (I.aS.kept k)
theorem Inv.laid{a:Addr}{o:HO}{t':Nat}(I:Inv X pins σ H s)(k:∀ b u,s.heap.get? b=some u->h'.get? b=some u)(hp:s.heap.objs.size<=a)(new:b7 X.prog X.w (upd H a o) h' a o):
  Inv X pins σ (upd H a o) { s with heap:=h',toks:=t' }:=I.un (Un.laid k hp (I.aS.fresh hp)) (I.aS.laid k hp new)
theorem Inv.write{x e:Addr}{o:HO}{t':Nat}(I:Inv X pins σ H s)(mu:ET (H x))(he:e=x\/H e=some (.own x))(k:∀ b u,b≠e->s.heap.get? b=some u->h'.get? b=some u)(heo:∃ u,h'.get? e=some u)
  (new:b7 X.prog X.w (upd H x o) h' x o):Inv X pins σ (upd H x o) { s with heap:=h',toks:=t' }:=I.un (Un.write mu he k heo) (I.aS.write mu he k heo new)
theorem Inv.kx{pins':List (Addr×Obj)}(I:Inv X pins σ H s)(h:∀ p∈pins',s.heap.get? p.1=some p.2/\H p.1=none/\p.1≠X.env.locals/\p.1∉X.fs/\∀ v,p.2.data≠.cell v):Inv X pins' σ H s:=
 ⟨I.ok,I.os,I.bare,I.base,I.loc,I.cell,I.free,I.cQ,fun p hp=>(List.mem_append.mp hp).elim (fun z=>I.pin p (List.mem_append_left _ z)) (h p),I.aS,I.len⟩
theorem lr{N:List Str}(hN:N.Nodup){i j:Nat}{x:Str}(a:N[i]?=some x)(b:N[j]?=some x):i=j:=by
 obtain⟨h1,e1⟩:=List.getElem?_eq_some_iff.mp a;obtain⟨h2,e2⟩:=List.getElem?_eq_some_iff.mp b;exact (List.getElem_inj hN).mp (e1.trans e2.symm)
theorem j4{M:Model}{A:Around}{E:Value->Shared->Prop}{i:Nat}{x:Str}{v:V}{u:Value}{Q:Unit->Shared->Prop}(I:Inv X pins σ H s)(hN:X.N.Nodup)(hi:X.N[i]?=some x)(hx:Loc X.env.scope x)(r:RelV v u)
  (h:∀ s',Inv X pins (σ.set i (some v)) H s'->(∃ a,Heap.SameBut a s.heap s'.heap/\(a=X.env.locals\/X.env.cells.lookup x=some a))->Q () s') (hf:X.fn x=true\/X.env.scope.names.lookup x=some .local:=by first | exact .inl rfl | exact .inr rfl | assumption):wpAny M A (storeName X.env x u) Q E s:=by
 obtain⟨m,hn,hl⟩:=id I.loc;have hcls:(X.env.scope.kind == .class || (X.env.scope.kind == .module && X.env.locals != X.env.globals))=false:=by rw[I.ok.kind];rfl
 have hiσ:i < σ.length:=by rw[I.len];exact (List.getElem?_eq_some_iff.mp hi).1
 have yC:=I.yC;have tracked:∀ {a:Addr} {h':Heap},(∃ o,s.heap.get? a=some o/\H a=none)->Heap.SameBut a s.heap h'->eE X.prog X.w H h':=fun {a h'} ha hs b ob e=>by
  obtain⟨_,_,hfree⟩:=ha;refine (I.aS b ob e).gZ (fun c w' hc q=>(hs.2 c ?_).trans q) (fun _ q=>q) (fun _ _ q=>q) fun _ _ _ q=>q;rintro rfl;rcases hc with rfl | hc
  ·rw[hfree] at e;cases e
  ·rw[hfree] at hc;cases hc
 rcases hx with hk | hk
 ·refine wpAny_storeName_local hk hn (fun h' hn' hs=>?_) hcls;obtain⟨oL,_,_,hoL,_⟩:=id hn;refine h _ ⟨I.ok,I.os,I.bare,⟨fun b o e n hb hx=>?_,fun b o e n hb hx=>?_,I.base.free,fun b o e hx=>?_,I.base.ja,I.base.gX,I.base.gC⟩,⟨_,hn',fun j y v' e1 e2 e3=>?_⟩,fun y c e=>?_,I.free,I.cQ,fun p hp=>?_,tracked ⟨oL,hoL,I.free⟩ hs,by simpa using I.len⟩ ⟨_,hs,.inl rfl⟩
  ·exact (hs.2 b (Nat.ne_of_lt (Nat.lt_of_lt_of_le (Heap.lt_size e) I.ok.above))).trans (I.base.keep b o e n hb hx)
  ·obtain⟨sl,e1⟩:=I.base.slot b o e n hb hx;exact⟨sl,(hs.2 b (Nat.ne_of_lt (Nat.lt_of_lt_of_le (Heap.lt_size e) I.ok.above))).trans e1⟩
  ·obtain⟨o',e1⟩:=I.base.there b o e hx;exact⟨o',(hs.2 b (Nat.ne_of_lt (Nat.lt_of_lt_of_le (Heap.lt_size e) I.ok.above))).trans e1⟩
  ·by_cases hj:j=i
   ·subst hj;rw[hi] at e1;cases e1;rw[List.getElem?_set_self hiσ] at e2;cases e2;exact⟨u,r,.inl ⟨hk,by simp⟩⟩
   ·rw[List.getElem?_set_ne (Ne.symm hj)] at e2;obtain⟨u',r',q⟩:=hl j y v' e1 e2 e3;refine⟨u',r',?_⟩;rcases q with ⟨k,e⟩ | ⟨k,c,e,z⟩
    ·refine .inl ⟨k,?_⟩;have:y≠x:=fun e=>hj (lr hN e1 (e ▸ hi));simp[this,e]
    ·exact .inr ⟨k,c,e,z.sameBut hs (yC y c e)⟩
  ·obtain⟨w',z⟩:=I.cell y c e;exact⟨w',z.sameBut hs (yC y c e)⟩
  ·obtain⟨e,n,ne,nf,d⟩:=I.pin p hp;exact⟨(hs.2 p.1 ne).trans e,n,ne,nf,d⟩
 ·have hfn:X.fn x=true:=by
   rcases hf with z | z
   ·exact z
   ·rw[z] at hk;cases hk
  obtain⟨c,hc⟩:=I.ok.has x (.inl hk);obtain⟨w',z⟩:=I.cell x c hc;refine wpAny_storeName_cell I.ok.kind hk hc z (fun h' hc' hs=>?_);obtain⟨oc,hoc,hocd⟩:=id z;refine h { s with heap:=h' } ⟨I.ok,I.os,I.bare,⟨fun b o e n hb hx=>?_,fun b o e n hb hx=>?_,I.base.free,fun b o e hx=>?_,I.base.ja,I.base.gX,I.base.gC⟩,⟨m,hn.sameBut hs (Ne.symm (yC x c hc)),fun j y v' e1 e2 e3=>?_⟩,fun y c' e=>?_,I.free,I.cQ,fun p hp=>?_,tracked ⟨oc,hoc,I.cQ x c hc⟩ hs,by simpa using I.len⟩ ⟨c,hs,.inr hc⟩
  ·exact (hs.2 b (Nat.ne_of_lt (Nat.lt_of_lt_of_le (Heap.lt_size e) (I.ok.El x c hfn hc)))).trans (I.base.keep b o e n hb hx)
  ·obtain⟨sl,e1⟩:=I.base.slot b o e n hb hx;exact⟨sl,(hs.2 b (Nat.ne_of_lt (Nat.lt_of_lt_of_le (Heap.lt_size e) (I.ok.El x c hfn hc)))).trans e1⟩
  ·obtain⟨o',e1⟩:=I.base.there b o e hx;exact⟨o',(hs.2 b (Nat.ne_of_lt (Nat.lt_of_lt_of_le (Heap.lt_size e) (I.ok.El x c hfn hc)))).trans e1⟩
  ·by_cases hj:j=i
   ·subst hj;rw[hi] at e1;cases e1;rw[List.getElem?_set_self hiσ] at e2;cases e2;exact⟨u,r,.inr ⟨.inl hk,c,hc,hc'⟩⟩
   ·rw[List.getElem?_set_ne (Ne.symm hj)] at e2;obtain⟨u',r',q⟩:=hl j y v' e1 e2 e3;refine⟨u',r',?_⟩;rcases q with q | ⟨k,c',e,z'⟩
    ·exact .inl q
    ·refine .inr ⟨k,c',e,z'.sameBut hs ?_⟩;rintro rfl;exact hj (lr hN e1 (I.ok.inj _ _ _ e hc ▸ hi))
  ·by_cases hcc:c'=c
   ·subst hcc;exact⟨_,hc'⟩
   ·obtain⟨w2,z2⟩:=I.cell y c' e;exact⟨w2,z2.sameBut hs hcc⟩
  ·obtain⟨e,n,ne,nf,d⟩:=I.pin p hp;refine⟨(hs.2 p.1 ?_).trans e,n,ne,nf,d⟩;intro q;rw[q,hoc] at e;have q':oc=p.2:=Option.some.inj e;exact d w' (by rw[<- q'];exact hocd)
theorem mG{M:Model}{A:Around}{E:Value->Shared->Prop}{i:Nat}{x:Str}{v:V}{u:Value}{Q:Unit->Shared->Prop}(I:Inv X pins σ H s)(hN:X.N.Nodup)(hi:X.N[i]?=some x)(hx:Loc X.env.scope x)(r:RelV v u)
  (h:∀ s',Inv X pins (σ.set i (some v)) H s'->Q () s') (hf:X.fn x=true\/X.env.scope.names.lookup x=some .local:=by first | exact .inl rfl | exact .inr rfl | assumption):wpAny M A (storeName X.env x u) Q E s:=
 j4 I hN hi hx r (fun s' I' _=>h s' I') hf
theorem Inv.zh{s':Shared}{ch:List Addr}(I:Inv X pins σ H s)(ho:s'.os=s.os)(u:Un (gx X.stack) ch H H' s.heap s'.heap)(aS:eE X.prog X.w H' s'.heap)(hg:AllBare s'.gens)
  (hch:∀ b∈ch,(b∈X.ex\/X.s₀.heap.objs.size<=b)/\b≠X.env.locals/\(∀ x c,X.env.cells.lookup x=some c->c≠b)/\∀ p∈X.pn++pins,p.1≠b):Inv X pins σ H' s':=by
 obtain⟨h',g',d',t',o'⟩:=s';have e:o'=s.os:=ho;subst e;exact I.call (g':=g') (t':=t') (d':=d') u aS hg hch
end
noncomputable abbrev XK:=Value->Option Addr->Hp->Prop
noncomputable abbrev St:=List (Option V)
noncomputable abbrev VK:=V->Hp->Prop
noncomputable abbrev TE:=St->Hp->VK->Prop
noncomputable abbrev TT:=St->Hp->(Bool->Hp->Prop)->Prop
noncomputable abbrev TA:=St->Hp->(List V->Hp->Prop)->Prop
structure Ends where
 nx:St->Hp->Prop
 rt:VK
 bk:St->Hp->Prop:=fun _ _=>False
 ct:St->Hp->Prop:=fun _ _=>False
noncomputable abbrev TS:=Ends->St->Hp->Prop
def EP(X:Cx)(pins:List (Addr×Obj))(σ:St)(Q:VK)(u:Value)(s':Shared):Prop:=∃ v H',Inv X pins σ H' s'/\RelV v u/\Q v H'
def TP(X:Cx)(pins:List (Addr×Obj))(σ:St)(Q:Bool->Hp->Prop)(b:Bool)(s':Shared):Prop:=∃ H',Inv X pins σ H' s'/\Q b H'
def AP(X:Cx)(pins:List (Addr×Obj))(σ:St)(Q:List V->Hp->Prop)(us:List Value)(s':Shared):Prop:=∃ vs H',Inv X pins σ H' s'/\Vals vs us/\Q vs H'
def SP(X:Cx)(pins:List (Addr×Obj))(D:Ends)(f:Flow)(s':Shared):Prop:=
 match f with
 | .next=>∃ σ' H',Inv X pins σ' H' s'/\D.nx σ' H'
 | .brk=>∃ σ' H',Inv X pins σ' H' s'/\D.bk σ' H'
 | .cont=>∃ σ' H',Inv X pins σ' H' s'/\D.ct σ' H'
 | .ret u=>∃ v σ' H',Inv X pins σ' H' s'/\RelV v u/\D.rt v H'
def PE(X:Cx)(e:Expr)(t:TE):Prop:=
 ∀ (pins:List (Addr×Obj)) (s:Shared) (σ:St) (H:Hp) (Q:VK),Inv X pins σ H s->t σ H Q->wpAny (model X.prog X.w) X.A (eval e X.env) (EP X pins σ Q) X.xe s
def PT(X:Cx)(e:Expr)(t:TT):Prop:=
 ∀ (pins:List (Addr×Obj)) (s:Shared) (σ:St) (H:Hp) (Q:Bool->Hp->Prop),Inv X pins σ H s->t σ H Q->wpAny (model X.prog X.w) X.A (isTrue e X.env (eval e X.env)) (TP X pins σ Q) X.xe s
def PW(X:Cx)(e:Expr)(t:TT):Prop:=
 ∀ (whole:Sem Value) (pins:List (Addr×Obj)) (s:Shared) (σ:St) (H:Hp) (Q:Bool->Hp->Prop),Inv X pins σ H s->t σ H Q->wpAny (model X.prog X.w) X.A (isTrue e X.env whole) (TP X pins σ Q) X.xe s
theorem PW.pt{X:Cx}{e:Expr}{t:TT}(h:PW X e t):PT X e t:=h _
def PA(X:Cx)(es:List Expr)(t:TA):Prop:=
 ∀ (pos:Pos) (pins:List (Addr×Obj)) (s:Shared) (σ:St) (H:Hp) (Q:List V->Hp->Prop),Inv X pins σ H s->t σ H Q->wpAny (model X.prog X.w) X.A (spliced (backTo pos (starEach es X.env))) (AP X pins σ Q) X.xe s
def PS(X:Cx)(st:Stmt)(t:TS):Prop:=
 ∀ (pins:List (Addr×Obj)) (s:Shared) (σ:St) (H:Hp) (D:Ends),Inv X pins σ H s->t D σ H->wpAny (model X.prog X.w) X.A (exec st X.env) (SP X pins D) X.xe s
def mS(X:Cx)(st:List Stmt)(t:TS):Prop:=
 ∀ (pins:List (Addr×Obj)) (s:Shared) (σ:St) (H:Hp) (D:Ends),Inv X pins σ H s->t D σ H->wpAny (model X.prog X.w) X.A (execs st X.env) (SP X pins D) X.xe s
theorem bJ{α:Type}{t:Sem α}{Q Q':α->Shared->Prop}{M:Model}{A:Around}{E:Value->Shared->Prop}{s:Shared}(h:wpAny M A t Q E s)(hQ:∀ a s,Q a s->Q' a s):wpAny M A t Q' E s:=wpAny_mono h hQ fun _ _ x=>x
section
variable {X:Cx}
def BR(i:Nat):TE:=fun σ H Q=>∃ v,σ[i]?=some (some v)/\Q v H
def tC(v:V):TE:=fun _ H Q=>Q v H
theorem Co{i:Nat}{x:Str}{pos:Pos}(hN:X.N[i]?=some x)(hv:BY X.env.scope x)(hd:(x ==("__debug__":Str))=false:=by decide)(hcd:(x ==("__classdict__":Str))=false:=by decide):PE X (.Name x pos) (BR i):=by
 intro pins s σ H Q I h;obtain⟨v,e,h⟩:=h;obtain⟨m,hn,hl⟩:=I.loc;obtain⟨u,r,l⟩:=hl i x v hN e hv;have fin:EP X pins σ Q u s:=⟨v,H,I,r,h⟩;rcases l with ⟨hk,hm⟩ | ⟨hk,c,hc,hcell⟩
 ·exact wpAny_Name (wpAny_loadName_local I.ok.kind hk hn hm fin) hd
 ·rcases hk with hk | hk
  ·exact wpAny_Name (wpAny_loadName_cell I.ok.kind hk hc hcell fin) hd
  ·exact wpAny_Name (wpAny_loadName_free I.ok.kind hk hc hcell fin hcd) hd
theorem i6{i j pos}:PE X (.Constant (.int i) j pos) (tC (.int i)):=fun _ _ _ H _ I h=>wpAny_Constant_int ⟨.int i,H,I.tok _,⟨_,rfl⟩,h⟩
theorem ze{b j pos}:PE X (.Constant (.bool b) j pos) (tC (.bl b)):=fun _ _ _ H _ I h=>Constant_bool ⟨.bl b,H,I,rfl,h⟩
theorem vY{j pos}:PE X (.Constant .none j pos) (tC .aI):=fun _ _ _ H _ I h=>Constant_none ⟨.aI,H,I,rfl,h⟩
theorem wF{x j pos}:PE X (.Constant (.str x) j pos) (tC (.str x)):=fun _ _ _ H _ I h=>Calls.Constant_str ⟨.str x,H,I.tok _,⟨_,rfl⟩,h⟩
def Gl(X:Cx)(x:Str):Prop:=X.env.kindOf x=some .globalImplicit
theorem kc{E:Value->Shared->Prop}{pins:List (Addr×Obj)}{s:Shared}{σ:St}{H:Hp}{x:Str}{u:Value}{pos:Pos}{Q:Value->Shared->Prop}(I:Inv X pins σ H s)(hg:Gl X x)(hm:X.mg x=some u)(h:Q u s)
  (hd:(x ==("__debug__":Str))=false:=by decide):wpAny (model X.prog X.w) X.A (eval (.Name x pos) X.env) Q E s:=
 Calls.Name_function_global I.ok.kind hg (Calls.loadGlobal_global (by rw[I.ok.glob];exact I.mod.glob.keeps I.bk) hm h) hd
theorem eN{E:Value->Shared->Prop}{pins:List (Addr×Obj)}{s:Shared}{σ:St}{H:Hp}{x:Str}{u:Value}{pos:Pos}{Q:Value->Shared->Prop}(I:Inv X pins σ H s)(hg:Gl X x)(hm:X.mg x=none)(hv:bootBuiltins x=some u)(h:Q u s)
  (hn:x≠"__name__":=by decide) (hd:(x ==("__debug__":Str))=false:=by decide):wpAny (model X.prog X.w) X.A (eval (.Name x pos) X.env) Q E s:=by
 obtain⟨mb,h1,h2⟩:=I.mod.blt;exact Calls.Name_function_global I.ok.kind hg (Calls.loadGlobal_builtin (by rw[I.ok.glob];exact I.mod.glob.keeps I.bk) hm (by rw[I.ok.blt];exact h1.keeps I.bk) ((h2 x hn).trans hv) h) hd
def Hk(ta tb:TE)(k:Int->Int->Hp->Prop):St->Hp->Prop:=fun σ H=>ta σ H fun x H1=>tb σ H1 fun y H2=>∃ i j,x=.int i/\y=.int j/\k i j H2
variable {a b:Expr} {ta tb:TE} {pos:Pos}
def Gs(p:Int->Int->Bool)(ta tb:TE):TE:=fun σ H Q=>Hk ta tb (fun i j H2=>Q (.bl (p i j)) H2) σ H
noncomputable abbrev DO:TE->TE->TE:=Gs fun i j=>decide (i=j)
def qO(ta:TE):TE:=fun σ H Q=>ta σ H fun x H1=>Q (.bl (decide (x=.aI))) H1
variable {tA tB':TT} {rest:List Expr}
def AO(t u:TT):TT:=fun σ H Q=>t σ H fun c H1=>if c=true then u σ H1 Q else Q false H1
def Gi(t u:TT):TT:=fun σ H Q=>t σ H fun c H1=>if c=true then Q true H1 else u σ H1 Q
def Ep(t:TT):TT:=fun σ H Q=>t σ H fun c H1=>Q (!c) H1
theorem xV(ha:PT X a tA):PW X (.BoolOp .And [a] pos) tA:=by
 intro wh pins s σ H Q I h;refine isTrue_and (bJ (ha pins s σ H Q I h) fun c s1 e=>?_)
 cases c with
 | true=>exact isTrue_and_nil e
 | false=>exact e
theorem Ct(ha:PT X a tA):PW X (.BoolOp .Or [a] pos) tA:=by
 intro wh pins s σ H Q I h;refine isTrue_or (bJ (ha pins s σ H Q I h) fun c s1 e=>?_)
 cases c with
 | false=>exact isTrue_or_nil e
 | true=>exact e
theorem Bn(ha:PT X a tA)(hb:PW X (.BoolOp .And (b::rest) pos) tB'):PW X (.BoolOp .And (a::b::rest) pos) (AO tA tB'):=by
 intro wh pins s σ H Q I h;refine isTrue_and (bJ (ha pins s σ H _ I h) fun c s1 ⟨H1,I1,q1⟩=>?_)
 cases c with
 | true=>exact hb wh pins s1 σ H1 Q I1 q1
 | false=>exact⟨H1,I1,q1⟩
theorem Eh(ha:PT X a tA)(hb:PW X (.BoolOp .Or (b::rest) pos) tB'):PW X (.BoolOp .Or (a::b::rest) pos) (Gi tA tB'):=by
 intro wh pins s σ H Q I h;refine isTrue_or (bJ (ha pins s σ H _ I h) fun c s1 ⟨H1,I1,q1⟩=>?_)
 cases c with
 | true=>exact⟨H1,I1,q1⟩
 | false=>exact hb wh pins s1 σ H1 Q I1 q1
theorem AB(ha:PT X a tA):PT X (.UnaryOp .Not a pos) (Ep tA):=by
 intro pins s σ H Q I h;exact isTrue_not (ha pins s σ H (fun c H1=>Q (!c) H1) I h)
def zu(ta:TE):TE:=fun σ H Q=>ta σ H fun x H1=>∃ c,x=.bl c/\Q (.bl (!c)) H1
theorem Av(ha:PE X a ta):PE X (.UnaryOp .Not a pos) (zu ta):=by
 intro pins s σ H Q I h;refine UnaryOp_ (bJ (ha pins s σ H _ I h) fun v s1 ⟨x,H1,I1,r1,q1⟩=>?_);obtain⟨c,rfl,q1⟩:=q1;cases r1;exact not_of (wpAny_truthy_bool ⟨.bl (!c),H1,I1,rfl,q1⟩)
end
def bB(K:PySem.W.Frag)(H:Hp)(a:Addr)(xs:List V):Prop:=
 Rd H a (.lst xs) \/
  ∃ (o:Obj) (its:Array Value) (n:Nat),K.lookup a=some o/\o.cls=.type "list"/\o.dict=none/\o.data=.seq its n/\its.size<=sizeLine/\Vals xs its.toList
def b6(K:PySem.W.Frag)(H:Hp)(a:Addr)(xs:List V):Prop:=
 Rd H a (.tup xs) \/
  ∃ (o:Obj) (its:Array Value) (n:Nat),K.lookup a=some o/\o.cls=.type "tuple"/\o.data=.seq its n/\its.size<=sizeLine/\Vals xs its.toList
def FC:Value->Option V
 | .none=>some .aI
 | .bool b=>some (.bl b)
 | .int i _=>some (.int i)
 | .str x _=>some (.str x)
 | .bytes b _=>some (.qN b)
 | .float b _=>some (.Gy b)
 | .ref a=>some (.ref a)
 | .type n=>some (.ty n)
 | _=>none
theorem RelV.abs{x:V}{u:Value}(r:RelV x u):FC u=some x:=by
 cases x with
 | aI=>cases r;rfl
 | bl _=>cases r;rfl
 | int _=>obtain⟨t,rfl⟩:=r;rfl
 | str _=>obtain⟨t,rfl⟩:=r;rfl
 | qN _=>obtain⟨t,rfl⟩:=r;rfl
 | Gy _=>obtain⟨t,rfl⟩:=r;rfl
 | ref _=>cases r;rfl
 | ty _=>cases r;rfl
theorem RelV.inj{x y:V}{u:Value}(r:RelV x u)(q:RelV y u):x=y:=Option.some.inj (r.abs.symm.trans q.abs)
theorem Vals.inj:∀ {xs ys:List V} {us:List Value},Vals xs us->Vals ys us->xs=ys
 | _,_,_,.nil,.nil=>rfl
 | _,_,_,.cons r t,.cons r' t'=>by rw[r.inj r',Vals.inj t t']
section
variable {X:Cx} {pins:List (Addr×Obj)} {σ:St} {H:Hp} {s:Shared} {a:Addr} {xs ys:List V}
theorem bB.of{K:PySem.W.Frag}(h:H a=some (.lst xs)):bB K H a xs:=.inl (.inl h)
theorem b6.of{K:PySem.W.Frag}(h:H a=some (.tup xs)):b6 K H a xs:=.inl (.inl h)
theorem Inv.list(I:Inv X pins σ H s)(h:bB X.K H a xs):∃ its:List Value,Vals xs its/\PlainL s.heap a its.toArray/\xs.length<=sizeLine:=by
 rcases h with h | ⟨o,its,n,hk,hc,hd,hs,hz,r⟩
 ·obtain⟨z,its,n,r,e⟩:=h.ok I.aS;exact⟨its,r,⟨_,n,e,rfl,rfl,rfl⟩,z⟩
 ·refine⟨its.toList,r,⟨o,n,I.oK a o hk,hc,hd,by simpa using hs⟩,?_⟩
  have e:=r.length;simp only[Array.length_toList] at e;lia
theorem Inv.tuple(I:Inv X pins σ H s)(h:b6 X.K H a xs):∃ its:List Value,Vals xs its/\IsTup s.heap a its.toArray/\xs.length<=sizeLine:=by
 rcases h with h | ⟨o,its,n,hk,hc,hs,hz,r⟩
 ·obtain⟨z,its,r,p⟩:=h.ok I.aS;exact⟨its,r,p.to,z⟩
 ·refine⟨its.toList,r,⟨o,I.oK a o hk,hc,n,by simpa using hs⟩,?_⟩
  have e:=r.length;simp only[Array.length_toList] at e;lia
theorem Inv.mC(I:Inv X pins σ H s)(h:bB X.K H a xs)(h':bB X.K H a ys):xs=ys:=by
 obtain⟨its,r,⟨o,n,e,_,_,d⟩,_⟩:=I.list h;obtain⟨its',r',⟨o',n',e',_,_,d'⟩,_⟩:=I.list h';rw[e] at e';cases e';rw[d] at d'
 injection d' with d1 _
 have:its=its':=by simpa using congrArg Array.toList d1
 subst this;exact r.inj r'
theorem Inv.fF(I:Inv X pins σ H s)(h:b6 X.K H a xs)(h':b6 X.K H a ys):xs=ys:=by
 obtain⟨its,r,⟨o,e,_,n,d⟩,_⟩:=I.tuple h;obtain⟨its',r',⟨o',e',_,n',d'⟩,_⟩:=I.tuple h';rw[e] at e';cases e';rw[d] at d'
 injection d' with d1 _
 have:its=its':=by simpa using congrArg Array.toList d1
 subst this;exact r.inj r'
end
noncomputable abbrev Cx.ji (X:Cx) (E:Value->Shared->Prop):Cx:={ X with xe:=E }
noncomputable abbrev Cx.yD (X:Cx):Cx:=X.ji fun _ _=>False
theorem Cx.Ok.ji{X:Cx}(ok:X.Ok)(E:Value->Shared->Prop):(X.ji E).Ok:=
 ⟨ok.mod,ok.kind,ok.glob,ok.blt,ok.above,ok.inj,ok.has,ok.El,ok.hd,ok.frames,ok.Fg,ok.GU,ok.bs,ok.xQ,ok.uP,ok.yR,ok.h8,ok.C8,ok.tabs⟩
theorem Cx.Ok.dP{X:Cx}{E:Value->Shared->Prop}(ok:(X.ji E).Ok):X.Ok:=
 ⟨ok.mod,ok.kind,ok.glob,ok.blt,ok.above,ok.inj,ok.has,ok.El,ok.hd,ok.frames,ok.Fg,ok.GU,ok.bs,ok.xQ,ok.uP,ok.yR,ok.h8,ok.C8,ok.tabs⟩
section
variable {X:Cx} {pins:List (Addr×Obj)} {σ:St} {H:Hp} {s:Shared} {E:Value->Shared->Prop}
theorem Inv.ji(I:Inv X pins σ H s)(E:Value->Shared->Prop):Inv (X.ji E) pins σ H s:=⟨I.ok.ji E,I.os,I.bare,I.base,I.loc,I.cell,I.free,I.cQ,I.pin,I.aS,I.len⟩
theorem Inv.dP(I:Inv (X.ji E) pins σ H s):Inv X pins σ H s:=⟨I.ok.dP,I.os,I.bare,I.base,I.loc,I.cell,I.free,I.cQ,I.pin,I.aS,I.len⟩
theorem SP.dP{D:Ends}{f:Flow}{s':Shared}(h:SP (X.ji E) pins D f s'):SP X pins D f s':=by
 cases f with
 | next=>obtain⟨σ',H',I,q⟩:=h;exact⟨σ',H',I.dP,q⟩
 | brk=>obtain⟨σ',H',I,q⟩:=h;exact⟨σ',H',I.dP,q⟩
 | cont=>obtain⟨σ',H',I,q⟩:=h;exact⟨σ',H',I.dP,q⟩
 | ret u=>obtain⟨v,σ',H',I,r,q⟩:=h;exact⟨v,σ',H',I.dP,r,q⟩
theorem mS.yD{st:List Stmt}{t:TS}(h:mS X.yD st t):mS X st t:=fun pins s σ H D I hw =>
 wpAny_mono (h pins s σ H D (I.ji _) hw) (fun _ _ q=>q.dP) fun _ _ z=>False.elim z
end
section
variable {X:Cx} {st:Stmt} {rest:List Stmt} {t u:TS} {e:Expr} {te:TE} {pos:Pos}
def yZ:TS:=fun D σ H=>D.nx σ H
def E5(t u:TS):TS:=fun D σ H=>t { D with nx:=u D } σ H
theorem xc:mS X [] yZ:=fun _ _ σ H _ I h=>wpAny_execs_nil ⟨σ,H,I,h⟩
theorem tM(h1:PS X st t)(h2:mS X rest u):mS X (st::rest) (E5 t u):=by
 intro pins s σ H D I h;refine wpAny_execs_cons (bJ (h1 pins s σ H { D with nx:=u D } I h) fun f s1 q=>?_)
 cases f with
 | next =>
  obtain⟨σ',H',I',q⟩:=q;exact h2 pins s1 σ' H' D I' q
 | ret v=>exact q
 | brk=>exact q
 | cont=>exact q
theorem yu(h1:PS X st t):mS X [st] t:=by
 intro pins s σ H D I h;refine wpAny_execs_cons (bJ (h1 pins s σ H D I h) fun f s1 q=>?_)
 cases f with
 | next=>exact wpAny_execs_nil q
 | ret v=>exact q
 | brk=>exact q
 | cont=>exact q
theorem Inv.quiet{pins:List (Addr×Obj)}{σ:St}{H:Hp}{s:Shared}(I:Inv X pins σ H s):interactive X.env=false:=by simp[interactive,I.ok.kind]
def zM(te:TE):TS:=fun D σ H=>te σ H fun _ H1=>D.nx σ H1
theorem xA(he:PE X e te)(hs:swapsWith e none pos.line X.env=pure false:=by rfl):PS X (.Expr e pos) (zM te):=by
 intro pins s σ H D I h;exact wpAny_Expr_any (bJ (he pins s σ H _ I h) fun v s1 ⟨x,H1,I1,r1,q1⟩=>⟨σ,H1,I1,q1⟩) I.quiet hs
def Dq(te:TE):TS:=fun D σ H=>te σ H D.rt
theorem Ao(he:PE X e te):PS X (.Return (some e) pos) (Dq te):=by
 intro pins s σ H D I h;exact wpAny_Return_some (bJ (he pins s σ H _ I h) fun v s1 ⟨x,H1,I1,r1,q1⟩=>⟨x,σ,H1,I1,r1,q1⟩)
def DC(c:TT)(t u:TS):TS:=fun D σ H=>c σ H fun b H1=>if b=true then t D σ H1 else u D σ H1
theorem EH{c:Expr}{a b:List Stmt}{tc:TT}(hc:PT X c tc)(ha:mS X a t)(hb:mS X b u):PS X (.If c a b pos) (DC tc t u):=by
 intro pins s σ H D I h;refine wpAny_If (bJ (hc pins s σ H _ I h) fun d s1 ⟨H1,I1,q1⟩=>?_)
 cases d with
 | true=>exact ha pins s1 σ H1 D I1 q1
 | false=>exact hb pins s1 σ H1 D I1 q1
end
noncomputable abbrev TG:=V->St->Hp->(St->Hp->Prop)->Prop
noncomputable abbrev sg:=List V->St->Hp->(St->Hp->Prop)->Prop
def PG(X:Cx)(target:Expr)(t:TG):Prop:=
 ∀ (pins:List (Addr×Obj)) (s:Shared) (σ:St) (H:Hp) (v:V) (u:Value) (Q:St->Hp->Prop),Inv X pins σ H s->RelV v u->t v σ H Q ->
  wpAny (model X.prog X.w) X.A (assign target X.env u) (fun _ s'=>∃ σ' H',Inv X pins σ' H' s'/\Q σ' H') X.xe s
def CB(X:Cx)(ts:List Expr)(t:sg):Prop:=
 ∀ (pins:List (Addr×Obj)) (s:Shared) (σ:St) (H:Hp) (vs:List V) (us:List Value) (Q:St->Hp->Prop),Inv X pins σ H s->Vals vs us->t vs σ H Q ->
  wpAny (model X.prog X.w) X.A (assignInOrder ((assignEach ts X.env).map (·.2)) us) (fun _ s'=>∃ σ' H',Inv X pins σ' H' s'/\Q σ' H') X.xe s
noncomputable abbrev Bj:=V->V->V->Hp->(Hp->Prop)->Prop
def AA(X:Cx)(t:Bj):Prop:=
 ∀ (pins:List (Addr×Obj)) (s:Shared) (σ:St) (H:Hp) (o i v:V) (ov iv u:Value) (Q:Hp->Prop),Inv X pins σ H s->RelV o ov->RelV i iv->RelV v u->t o i v H Q ->
  wpAny (model X.prog X.w) X.A (setItem ov iv u) (fun _ s'=>∃ H',Inv X pins σ H' s'/\Q H') X.xe s
section
variable {X:Cx} {pos:Pos}
def cG(i:Nat):TG:=fun v σ H Q=>Q (σ.set i (some v)) H
theorem y9{i:Nat}{x:Str}(hN:X.N.Nodup)(hi:X.N[i]?=some x)(hx:Loc X.env.scope x)(hf:X.fn x=true\/X.env.scope.names.lookup x=some .local:=by first | exact .inl rfl | exact .inr rfl | assumption):PG X (.Name x pos) (cG i):=by
 intro pins s σ H v u Q I r h;exact wpAny_assign_Name (mG I hN hi hx r (fun s' I'=>⟨_,H,I',h⟩) hf)
def w6:sg:=fun vs σ H Q=>vs=[]/\Q σ H
def gn(t:TG)(u:sg):sg:=fun vs σ H Q=>∃ v r,vs=v::r/\t v σ H fun σ' H'=>u r σ' H' Q
theorem x5:CB X [] w6:=by
 intro pins s σ H vs us Q I r h;obtain⟨e,h⟩:=h;subst e;cases r;exact assignInOrder_nil ⟨σ,H,I,h⟩
theorem uO{e:Expr}{es:List Expr}{t:TG}{u:sg}(h1:PG X e t)(h2:CB X es u)
  (hs:(assignEach (e::es) X.env).map (·.2)=assign e X.env::(assignEach es X.env).map (·.2):=by rfl):CB X (e::es) (gn t u):=by
 intro pins s σ H vs us Q I r h;obtain⟨v,vr,e1,h⟩:=h;subst e1
 cases r with
 | cons r rr =>
  rw[hs];refine assignInOrder_cons (bJ (h1 pins s σ H _ _ _ I r h) fun _ s1 ⟨σ1,H1,I1,q1⟩=>?_);exact h2 pins s1 σ1 H1 _ _ Q I1 rr q1
def vA(K:PySem.W.Frag)(n:Nat)(t:sg):TG:=fun v σ H Q=>∃ a xs,v=.ref a/\b6 K H a xs/\xs.length=n/\t xs σ H Q
theorem u0{es:List Expr}{k:Nat}{t:sg}{n:Nat}(hc:X.calm=true)(h:CB X es t)
  (hn:(assignEach es X.env).length=n:=by rfl) (hst:(assignEach es X.env).findIdx? (·.1)=none:=by rfl):PG X (.Tuple es k pos) (vA X.K n t):=by
 intro pins s σ H v u Q I r hw;obtain⟨a,xs,e1,hq,hl,hw⟩:=hw;subst e1;cases r;obtain⟨its,rv,ht,hz⟩:=I.tuple hq;refine assign_Tuple_tuple (I.ok.hd hc) ht (by simp[hn,<- hl,rv.length]) hst fun h' hx=>?_
 have I1:Inv X pins σ H { s with heap:=h' }:=I.kept (t':=s.toks) fun b o e=>hx b o (Nat.ne_of_lt (Heap.lt_size e)) e
 exact h pins _ σ H xs _ Q I1 (by simpa using rv) hw
def CN(to ti:TE)(t:Bj):TG:=fun v σ H Q=>to σ H fun o H1=>ti σ H1 fun i H2=>t o i v H2 fun H3=>Q σ H3
theorem Bs{o i:Expr}{to ti:TE}{t:Bj}(ho:PE X o to)(hi:PE X i ti)(hs:AA X t)
  (ha:∀ v,assign (.Subscript o i pos) X.env v=(do
   let ov <- holding [v] (eval o X.env)
   let iv <- holding [v,ov] (eval i X.env)
   standAt pos
   holding [v,ov,iv] (setItem ov iv v)
   release [v,ov,iv] []):=by intro _;rfl):PG X (.Subscript o i pos) (CN to ti t):=by
 intro pins s σ H v u Q I r h;rw[ha];refine wpAny_bind (wpAny_holding (bJ (ho pins s σ H _ I h) fun ov s1 ⟨x,H1,I1,r1,q1⟩=>?_));refine wpAny_bind (wpAny_holding (bJ (hi pins s1 σ H1 _ I1 q1) fun iv s2 ⟨y,H2,I2,r2,q2⟩=>?_));refine wpAny_bind (wpAny_standAt (wpAny_bind (wpAny_holding (bJ (hs pins s2 σ H2 x y v ov iv u _ I2 r1 r2 r q2) fun _ s3 ⟨H3,I3,q3⟩=>?_))));exact wpAny_release ⟨σ,H3,I3,q3⟩
def m5(te:TE)(g:TG):TS:=fun D σ H=>te σ H fun x H1=>g x σ H1 D.nx
theorem Bg{tg e:Expr}{te:TE}{g:TG}(he:PE X e te)(hg:PG X tg g)(hs:swapsWithSole [tg] e pos.line X.env=pure false:=by rfl)(hw:swappedStores [tg] e X.env=pure none:=by rfl)
  (h1:(assignEach [tg] X.env).map (·.2)=[assign tg X.env]:=by rfl):PS X (.Assign [tg] e pos) (m5 te g):=by
 intro pins s σ H D I h;refine wpAny_Assign_stores (bJ (he pins s σ H _ I h) fun v s1 ⟨x,H1,I1,r1,q1⟩=>?_) hs hw;rw[h1];exact bJ (hg pins s1 σ H1 x v _ I1 r1 q1) fun _ s2 q=>q
theorem Bq{i:Nat}{x:Str}{e:Expr}{te:TE}{pos':Pos}(hN:X.N.Nodup)(hi:X.N[i]?=some x)(hx:Loc X.env.scope x)(he:PE X e te)(hs:swapsWith e (some (.Name x pos')) pos.line X.env=pure false:=by rfl)(hf:X.fn x=true\/X.env.scope.names.lookup x=some .local:=by first | exact .inl rfl | exact .inr rfl | assumption):
  PS X (.Assign [.Name x pos'] e pos) (m5 te (cG i)):=by
 intro pins s σ H D I h;refine wpAny_Assign_Name (bJ (he pins s σ H _ I h) fun v s1 ⟨y,H1,I1,r1,q1⟩=>?_) hs;exact mG I1 hN hi hx r1 (fun s2 I2=>⟨_,H1,I2,q1⟩) hf
end
section
variable {X:Cx} {pos:Pos}
def wC(c:TT)(tb:TS):TS:=fun D σ H=>∃ W:Nat->St->Hp->Prop,(∃ m,W m σ H)/\∀ m σ H,W m σ H ->
 c σ H fun b H1=>if b=true then ∃ N:St->Hp->Prop,(∀ σ' H',N σ' H'->∃ m',m' < m/\W m' σ' H')/\tb { D with nx:=N,ct:=N,bk:=D.nx } σ H1 else D.nx σ H1
theorem uJ{c:Expr}{body:List Stmt}{tc:TT}{tb:TS}(hp:PassesOwn (model X.prog X.w) X.A X.env X.xe)(hc:PT X c tc)(hb:mS X body tb):PS X (.While c body [] pos) (wC tc tb):=by
 intro pins s σ H D I h;obtain⟨W,⟨m0,w0⟩,turn⟩:=h;refine wpAny_While (codeAny_whileLoop (fun n s'=>∃ σ' H',Inv X pins σ' H' s'/\W n σ' H') ?_ m0 ⟨σ,H,I,w0⟩);rintro n s1 ⟨σ1,H1,I1,w1⟩;refine wpAny_passesOwn hp (bJ (hc pins s1 σ1 H1 _ I1 (turn n σ1 H1 w1)) fun b s2 ⟨H2,I2,q2⟩=>?_)
 cases b with
 | true =>
  obtain⟨N,hN,q2⟩:=q2;rw[if_pos rfl];refine wpAny_passesOwn hp (bJ (hb pins s2 σ1 H2 _ I2 q2) fun f s3 q3=>?_)
  cases f with
  | next =>
   obtain⟨σ3,H3,I3,n3⟩:=q3;obtain⟨m',hm,w3⟩:=hN σ3 H3 n3;exact⟨m',hm,σ3,H3,I3,w3⟩
  | cont =>
   obtain⟨σ3,H3,I3,n3⟩:=q3;obtain⟨m',hm,w3⟩:=hN σ3 H3 n3;exact⟨m',hm,σ3,H3,I3,w3⟩
  | brk=>exact q3
  | ret v=>exact q3
 | false =>
  rw[if_neg Bool.false_ne_true];exact wpAny_execs_nil ⟨σ1,H2,I2,q2⟩
end
structure It where
 go:Nat->Hp->Prop
 C5:Nat->Hp->V->Hp->Prop
 stop:Nat->Hp->Prop
def iW(X:Cx)(pins:List (Addr×Obj))(H:Hp)(b:Addr):Prop:=
 H b=none/\b≠X.env.locals/\b∉X.fs/\(b∈X.ex\/X.s₀.heap.objs.size<=b)/\(∀ x c,X.env.cells.lookup x=some c->c≠b)/\∀ p∈X.pn++pins,p.1≠b
theorem Inv.uY{X:Cx}{pins:List (Addr×Obj)}{σ:St}{H H':Hp}{s:Shared}{b:Addr}(I:Inv X pins σ H s)(hb:s.heap.objs.size<=b)(hn:H' b=none):iW X pins H' b:=by
 refine⟨hn,Nat.ne_of_gt (Nat.lt_of_lt_of_le I.lt hb),I.DX hb,.inr (Nat.le_trans I.sz hb),fun x c e z=>?_,fun p hp z=>?_⟩
 ·obtain⟨v,q⟩:=I.cell x c e;exact absurd (Nat.lt_of_lt_of_le q.lt (by rw[z];exact hb)) (Nat.lt_irrefl _)
 ·exact absurd (Nat.lt_of_lt_of_le (Heap.lt_size (I.pin p hp).1) (by rw[z];exact hb)) (Nat.lt_irrefl _)
structure Turn (P:Program) (w:World) (K:PySem.W.Frag) (tg:Expr) (J:It) (fp:List Addr) (it:Addr) (tn:Nat->Heap->Prop):Prop where
 mem:it∈fp
 obj:∀ i h,tn i h->∀ b∈fp,∃ o,h.get? b=some o/\∀ v,o.data≠.cell v
 keep:∀ i h h',tn i h->(∀ b∈fp,∀ o,h.get? b=some o->h'.get? b=some o)->tn i h'
 item:∀ (X:Cx),X.prog=P->X.w=w->X.K=K->X.calm=true->∀ (i:Nat) (pins:List (Addr×Obj)) (s:Shared) (σ:St) (H:Hp) (E:Value->Shared->Prop),Inv X pins σ H s->(∀ b∈fp,iW X pins H b)->tn i s.heap->J.go i H ->
  wpAny (model P w) X.A (pyNext (.ref it)) (fun r s1=>∃ u,r=some u /\
   wpAny (model P w) X.A (letOwnedTupleGo tg (.ref it) u) (fun _ s2=>∃ x H',Inv X pins σ H' s2/\RelV x u/\J.C5 i H x H'/\tn (i+1) s2.heap/\∀ b∈fp,H' b=none) E s1) E s
 done:∀ (X:Cx),X.prog=P->X.w=w->X.K=K->X.calm=true->∀ (i:Nat) (pins:List (Addr×Obj)) (s:Shared) (σ:St) (H:Hp) (E:Value->Shared->Prop),Inv X pins σ H s->(∀ b∈fp,iW X pins H b)->tn i s.heap->J.stop i H ->
  wpAny (model P w) X.A (pyNext (.ref it)) (fun r s1=>r=none/\Inv X pins σ H s1) E s
 self:∀ (A:Around) (i:Nat) (s:Shared) (Q:Value->Shared->Prop) (E:Value->Shared->Prop),tn i s.heap->Q (.ref it) s->wpAny (model P w) A (pyIter (.ref it)) Q E s
noncomputable abbrev TI:=St->Hp->(It->Hp->Prop)->Prop
def GV(X:Cx)(pins:List (Addr×Obj))(σ:St)(tg:Expr)(R:It->Hp->Prop)(itv:Value)(s2:Shared):Prop:=
 ∃ (it:Addr) (fp:List Addr) (tn:Nat->Heap->Prop) (J:It) (H':Hp),itv=.ref it/\Inv X pins σ H' s2/\Turn X.prog X.w X.K tg J fp it tn/\tn 0 s2.heap/\(∀ b∈fp,iW X pins H' b)/\R J H'
def PI(X:Cx)(tg iter:Expr)(wi:TI):Prop:=
 ∀ (pins:List (Addr×Obj)) (s:Shared) (σ:St) (H:Hp) (R:It->Hp->Prop),Inv X pins σ H s->wi σ H R ->
  wpAny (model X.prog X.w) X.A (eval iter X.env) (fun v s1=>wpAny (model X.prog X.w) X.A (pyIter v) (GV X pins σ tg R) X.xe s1) X.xe s
theorem tR{M:Model}{A:Around}{E:Value->Shared->Prop}{s:Shared}{tg:Expr}{it:Addr}{u:Value}{o:Obj}{n:String}{vs:Array Value}{Q:Unit->Shared->Prop}(ho:s.heap.get? it=some o)(hc:o.cls=.type n)(hd:o.data=.fields vs)
    (hn:["enumerate","zip","dict_itemiterator","dict_reverseitemiterator","odict_iterator","itertools.zip_longest","itertools.pairwise"].contains n=false) (hQ:Q () s):wpAny M A (letOwnedTupleGo tg (.ref it) u) Q E s:=by
  unfold letOwnedTupleGo
  cases tg<;>first
    | exact wpAny_pure hQ
    | (cases u<;>first
        | exact wpAny_pure hQ
        | (refine wpAny_bind (wpAny_load ho ?_)
           rw[hc,hd];show wpAny M A (if (["enumerate","zip","dict_itemiterator","dict_reverseitemiterator","odict_iterator","itertools.zip_longest","itertools.pairwise"].contains n && vs[0]? == some (rawInt _))=true then _ else _) Q E s
           rw[if_neg (by intro h;rw[hn,Bool.false_and] at h;cases h)]
           exact wpAny_pure hQ))
def DT(K:PySem.W.Frag)(a:Addr):It:=
 ⟨fun i H=>∃ xs x,bB K H a xs/\xs[i]?=some x,fun i H x H'=>H'=H/\∀ xs,bB K H a xs->xs[i]?=some x,fun i H=>∃ xs,bB K H a xs/\xs.length<=i⟩
def DH(K:PySem.W.Frag)(a:Addr):It:=
 ⟨fun i H=>∃ xs x,b6 K H a xs/\xs[i]?=some x,fun i H x H'=>H'=H/\∀ xs,b6 K H a xs->xs[i]?=some x,fun i H=>∃ xs,b6 K H a xs/\xs.length<=i⟩
def C1(lo:Int)(n:Nat):It:=⟨fun i _=>i < n,fun i H x H'=>H'=H/\x=.int (lo+i),fun i _=>n<=i⟩
theorem rT{P:Program}{w:World}{K:PySem.W.Frag}{tg:Expr}(a it:Addr):Turn P w K tg (DT K a) [it] it (fun i h=>h.IsListIter it a i) where
 mem:=by simp
 obj:=fun i h st b hb=>by
  have e:b=it:=by simpa using hb
  subst e;obtain⟨o,e,c,d⟩:=st;exact⟨o,e,fun v z=>by rw[d] at z;cases z⟩
 keep:=fun i h h' st k=>st.at fun o e=>k it (by simp) o e
 item:=by
  intro X hP hw hK hc i pins s σ H E I hf st hg;subst hP hw hK;obtain⟨xs,x,hq,hx⟩:=hg;obtain⟨its,rv,p,hz⟩:=I.list hq;obtain⟨u,hu,ru⟩:=rv.get hx;obtain⟨f0,f1,f2,f3,f4,f5⟩:=hf it (by simp)
  refine wpAny_pyNext_list_item st p.isList (x:=u) (by simpa using hu) fun h' st' sb=>?_
  have I1:Inv X pins σ H { s with heap:=h' }:=I.turned (t':=s.toks) (fun b o hb e=>(sb.2 b hb).trans e) f0 f1 f3 f4 f5
  obtain⟨o,e,c,d⟩:=id st';exact⟨u,rfl,tR (s:={ s with heap:=h' }) e c d (by decide) ⟨x,H,I1,ru,⟨rfl,fun ys hy=>by rw[I.mC hy hq];exact hx⟩,st',fun b hb=>(hf b hb).1⟩⟩
 done:=by
  intro X hP hw hK hc i pins s σ H E I hf st hg;subst hP hw hK;obtain⟨xs,hq,hx⟩:=hg;obtain⟨its,rv,p,hz⟩:=I.list hq;obtain⟨f0,f1,f2,f3,f4,f5⟩:=hf it (by simp)
  have hl:=rv.length;exact wpAny_pyNext_list_end (I.ok.hd hc) st p.isList (by simp;lia) fun h' eb=>⟨rfl,I.turned (t':=s.toks) (fun b o hb e=>eb b o hb e) f0 f1 f3 f4 f5⟩
 self:=fun _ _ _ _ _ st h=>wpAny_pyIter_listiter st h
theorem nX{P:Program}{w:World}{K:PySem.W.Frag}{tg:Expr}(a it:Addr):Turn P w K tg (DH K a) [it] it (fun i h=>h.IsTupleIter it a i) where
 mem:=by simp
 obj:=fun i h st b hb=>by
  have e:b=it:=by simpa using hb
  subst e;obtain⟨o,e,c,d⟩:=st;exact⟨o,e,fun v z=>by rw[d] at z;cases z⟩
 keep:=fun i h h' st k=>st.at fun o e=>k it (by simp) o e
 item:=by
  intro X hP hw hK hc i pins s σ H E I hf st hg;subst hP hw hK;obtain⟨xs,x,hq,hx⟩:=hg;obtain⟨its,rv,p,hz⟩:=I.tuple hq;obtain⟨u,hu,ru⟩:=rv.get hx;obtain⟨f0,f1,f2,f3,f4,f5⟩:=hf it (by simp)
  refine wpAny_pyNext_tuple_item st (show s.heap.IsTuple a its.toArray from p) (x:=u) (by simpa using hu) fun h' st' sb=>?_
  have I1:Inv X pins σ H { s with heap:=h' }:=I.turned (t':=s.toks) (fun b o hb e=>(sb.2 b hb).trans e) f0 f1 f3 f4 f5
  obtain⟨o,e,c,d⟩:=id st';exact⟨u,rfl,tR (s:={ s with heap:=h' }) e c d (by decide) ⟨x,H,I1,ru,⟨rfl,fun ys hy=>by rw[I.fF hy hq];exact hx⟩,st',fun b hb=>(hf b hb).1⟩⟩
 done:=by
  intro X hP hw hK hc i pins s σ H E I hf st hg;subst hP hw hK;obtain⟨xs,hq,hx⟩:=hg;obtain⟨its,rv,p,hz⟩:=I.tuple hq;obtain⟨f0,f1,f2,f3,f4,f5⟩:=hf it (by simp)
  have hl:=rv.length;exact wpAny_pyNext_tuple_end (I.ok.hd hc) st (show s.heap.IsTuple a its.toArray from p) (by simp;lia) fun h' eb=>⟨rfl,I.turned (t':=s.toks) (fun b o hb e=>eb b o hb e) f0 f1 f3 f4 f5⟩
 self:=fun _ _ _ _ _ st h=>wpAny_pyIter_tupleiter st h
theorem nE{P:Program}{w:World}{K:PySem.W.Frag}{tg:Expr}(it:Addr)(lo:Int)(n:Nat):Turn P w K tg (C1 lo n) [it] it (fun i h=>IsRangeIter h it (lo+(i:Nat)*1) ((n:Int) - (i:Nat)) 1) where
 mem:=by simp
 obj:=fun i h st b hb=>by
  have e:b=it:=by simpa using hb
  subst e;exact⟨_,st,fun v z=>by
   have z':Data.fields _=Data.cell v:=z
   cases z'⟩
 keep:=fun i h h' st k=>k it (by simp) _ st
 item:=by
  intro X hP hw hK hc i pins s σ H E I hf st hg;subst hP hw hK;obtain⟨f0,f1,f2,f3,f4,f5⟩:=hf it (by simp)
  have W:=Walks.range (prog:=X.prog) (w:=X.w) (I.ok.hd hc) it lo 1 n;refine W.item i s _ _ hg st fun v h' tk hv st' kk=>?_;obtain⟨t,rfl⟩:=hv;have I1:Inv X pins σ H { s with heap:=h',toks:=tk }:=I.turned (fun b o hb e=>kk b o (by simpa using hb) e) f0 f1 f3 f4 f5
  refine⟨_,rfl,tR (s:={ s with heap:=h',toks:=tk }) (n:="range_iterator") st' rfl rfl (by decide) ⟨.int (lo+i),H,I1,⟨t,?_⟩,⟨rfl,rfl⟩,st',fun b hb=>(hf b hb).1⟩⟩
  rw[Int.mul_one]
 done:=by
  intro X hP hw hK hc i pins s σ H E I hf st hg;subst hP hw hK;obtain⟨f0,f1,f2,f3,f4,f5⟩:=hf it (by simp)
  exact wpAny_pyNext_range_end (I.ok.hd hc) st (by have:n<=i:=hg;lia) fun h' eb=>⟨rfl,I.turned (t':=s.toks) (fun b o hb e=>eb b o hb e) f0 f1 f3 f4 f5⟩
 self:=fun _ _ _ _ _ st h=>wpAny_pyIter_rangeiter st h
section
variable {X:Cx} {tg:Expr}
theorem my{pins:List (Addr×Obj)}{σ:St}{H:Hp}{s:Shared}{R:It->Hp->Prop}{E:Value->Shared->Prop}{lo hi:Int}{t u v:Tok}{tk:Nat}(I:Inv X pins σ H s)(h1:-(2 ^ 62)<=lo)(h2:lo < 2 ^ 62)(h3:-(2 ^ 62)<=hi)(h4:hi < 2 ^ 62)
  (q:R (C1 lo (hi - lo).toNat) H):wpAny (model X.prog X.w) X.A (pyIter (.ref s.heap.objs.size)) (GV X pins σ tg R) E { s with heap:=s.heap.push { cls:=.type "range",data:=.fields #[.int lo t,.int hi u,.int 1 v] },toks:=tk }:=by
 refine wpAny_pyIter_range (IsRange.new ..) (small_one h1 h2 h3 h4) ?_;have I1:Inv X pins σ H { s with heap:=s.heap.push { cls:=.type "range",data:=.fields #[.int lo t,.int hi u,.int 1 v] },toks:=tk }:=I.kept fun b o e=>Heap.get?_push_of_some _ e
 refine⟨(s.heap.push { cls:=.type "range",data:=.fields #[.int lo t,.int hi u,.int 1 v] }).objs.size,[(s.heap.push { cls:=.type "range",data:=.fields #[.int lo t,.int hi u,.int 1 v] }).objs.size],_,_,H,rfl,
  I1.kept (t':=tk) fun b o e=>Heap.get?_push_of_some _ e,nE _ lo (hi - lo).toNat,?_,fun b hb=>?_,q⟩
 ·have e1:lo+((0:Nat):Int)*1=lo:=by simp
  have e2:(((hi - lo).toNat:Nat):Int) - ((0:Nat):Int)=Builtin.Range.rangeSize lo hi 1:=by rw[rangeSize_one];split<;>lia
  show IsRangeIter _ _ (lo+((0:Nat):Int)*1) ((((hi - lo).toNat:Nat):Int) - ((0:Nat):Int)) 1;rw[e1,e2];exact Heap.get?_push_size _ rfl
 ·have e:b=(s.heap.push { cls:=.type "range",data:=.fields #[.int lo t,.int hi u,.int 1 v] }).objs.size:=by simpa using hb
  subst e;exact I1.uY (Nat.le_refl _) (I1.aS.fresh (Nat.le_refl _))
def vF(ta:TA):TI:=fun σ H R=>ta σ H fun vs H1=>∃ j:Int,vs=[.int j]/\-(2 ^ 62)<=j/\j < 2 ^ 62/\R (C1 0 j.toNat) H1
def uL(ta:TA):TI:=fun σ H R=>ta σ H fun vs H1=>∃ i j:Int,vs=[.int i,.int j]/\(-(2 ^ 62)<=i/\i < 2 ^ 62/\-(2 ^ 62)<=j/\j < 2 ^ 62)/\R (C1 i (j - i).toNat) H1
theorem qV{a:Expr}{ta:TA}{p pos:Pos}(hg:Gl X "range")(hm:X.mg "range"=none)(ha:PA X [a] ta)(hs:starEach [a] X.env=[(false,eval a X.env)]:=by rfl):PI X tg (.Call (.Name "range" p) [a] [] pos) (vF ta):=by
 intro pins s σ H R I h;refine Call_ (eN I hg hm boot_range (PyProof.Rows.callWith_type1 (bJ (ha pos pins s σ H _ I h) fun us s1 ⟨vs,H1,I1,r1,q1⟩=>?_) hs rfl));obtain⟨j,e,q1,q2,q⟩:=q1;subst e
 cases r1 with
 | cons r rr =>
  cases rr;obtain⟨t,rfl⟩:=r;exact call_range_1 (my I1 (by lia) (by lia) q1 q2 (by simpa using q))
theorem rB{a b:Expr}{ta:TA}{p pos:Pos}(hg:Gl X "range")(hm:X.mg "range"=none)(ha:PA X [a,b] ta)(hs:starEach [a,b] X.env=[(false,eval a X.env),(false,eval b X.env)]:=by rfl)(hs2:starEach [b] X.env=[(false,eval b X.env)]:=by rfl):
  PI X tg (.Call (.Name "range" p) [a,b] [] pos) (uL ta):=by
 intro pins s σ H R I h;refine Call_ (eN I hg hm boot_range (PyProof.Rows.callWith_type1 (bJ (ha pos pins s σ H _ I h) fun us s1 ⟨vs,H1,I1,r1,q1⟩=>?_) (by rw[hs,hs2]) (by rw[hs2];rfl)))
 obtain⟨i,j,e,⟨q1,q2,q3,q4⟩,q⟩:=q1;subst e
 cases r1 with
 | cons r rr =>
  cases rr with
  | cons r' rr =>
   cases rr;obtain⟨t,rfl⟩:=r;obtain⟨t',rfl⟩:=r';exact call_range_2 (my I1 q1 q2 q3 q4 q)
def DU(wi:TI)(g:TG)(tb:TS):TS:=fun D σ H=>wi σ H fun J H1=>∃ W:Nat->Nat->St->Hp->Prop,(∃ m,W 0 m σ H1)/\∀ i m σ H,W i m σ H ->
 (J.stop i H/\D.nx σ H)\/(J.go i H/\∃ N:St->Hp->Prop,(∀ σ' H',N σ' H'->∃ m',m' < m/\W (i+1) m' σ' H')/\∀ x H',J.C5 i H x H'->g x σ H' fun σ2 H2=>tb { D with nx:=N,ct:=N,bk:=D.nx } σ2 H2)
def ia(fp:List Addr)(h:Heap):List (Addr×Obj):=fp.filterMap fun b=>(h.get? b).map fun o=>(b,o)
theorem d9{fp:List Addr}{h:Heap}{b:Addr}{o:Obj}(hb:b∈fp)(e:h.get? b=some o):(b,o)∈ia fp h:=List.mem_filterMap.mpr ⟨b,hb,by rw[e];rfl⟩
theorem rj{fp:List Addr}{h:Heap}{p:Addr×Obj}(hp:p∈ia fp h):p.1∈fp/\h.get? p.1=some p.2:=by
 obtain⟨b,hb,e⟩:=List.mem_filterMap.mp hp
 cases q:h.get? b with
 | none=>rw[q] at e;cases e
 | some o =>
  rw[q] at e;have e':(b,o)=p:=Option.some.inj e;subst e';exact⟨hb,q⟩
theorem Inv.pinned{pins:List (Addr×Obj)}{σ:St}{H:Hp}{s:Shared}{fp:List Addr}(I:Inv X pins σ H s)(hf:∀ b∈fp,iW X pins H b)(ho:∀ b∈fp,∃ o,s.heap.get? b=some o/\∀ v,o.data≠.cell v):Inv X (pins++ia fp s.heap) σ H s:=
 I.kx fun p hp=>(List.mem_append.mp hp).elim (fun z=>I.pin p (List.mem_append_right _ z)) fun z=>by
  obtain⟨hb,e⟩:=rj z;obtain⟨f0,f1,f2,_⟩:=hf p.1 hb;obtain⟨o,e',d⟩:=ho p.1 hb;rw[e] at e';cases e';exact⟨e,f0,f1,f2,d⟩
theorem Inv.dW{pins pl:List (Addr×Obj)}{σ:St}{H:Hp}{s:Shared}(I:Inv X (pins++pl) σ H s):Inv X pins σ H s:=I.kx fun p hp=>I.pin p (List.mem_append_right _ (List.mem_append_left _ hp))
theorem BS{iter:Expr}{body:List Stmt}{wi:TI}{g:TG}{tb:TS}{pos:Pos}(hp:PassesOwn (model X.prog X.w) X.A X.env X.xe)(hc:X.calm=true)(hi:PI X tg iter wi)(hg:PG X tg g)(hb:mS X body tb)
  (hs:∀ x,foldedSetIterable iter X.env x=pure x:=by intro _;rfl):PS X (.For tg iter body [] pos) (DU wi g tb):=by
 intro pins s σ H D I h;refine wpAny_For (bJ (hi pins s σ H _ I h) fun v s1 h1=>bJ h1 fun itv s2 h2=>?_) hs;obtain⟨it,fp,tn,J,H2,e,I2,T,dQ,f2,W,⟨m0,w0⟩,turn⟩:=h2;subst e;have stat:∀ {H':Hp},(∀ b∈fp,H' b=none)->∀ b∈fp,iW X pins H' b:=fun hn b hb=>⟨hn b hb,(f2 b hb).2⟩;refine codeAny_forLoop_any (fun n s'=>∃ i σ' H',Inv X pins σ' H' s'/\tn i s'.heap/\(∀ b∈fp,H' b=none)/\W i n σ' H') ?_ m0 ⟨0,σ,H2,I2,dQ,fun b hb=>(f2 b hb).1,w0⟩;rintro n s3 ⟨i,σ3,H3,I3,st3,fr3,w3⟩;rcases turn i n σ3 H3 w3 with ⟨stop,qn⟩ | ⟨go,N,hN,step⟩
 ·refine wpAny_passesOwn hp (bJ (T.done X rfl rfl rfl hc i pins s3 σ3 H3 X.xe I3 (stat fr3) st3 stop) fun r s4 ⟨hr,I4⟩=>?_);subst hr;exact wpAny_execs_nil ⟨σ3,H3,I4,qn⟩
 ·refine wpAny_passesOwn hp (bJ (T.item X rfl rfl rfl hc i pins s3 σ3 H3 X.xe I3 (stat fr3) st3 go) fun r s4 ⟨u,hr,h4⟩=>?_);subst hr;refine wpAny_passesOwn hp (bJ h4 fun _ s5 ⟨x,H5,I5,r5,y5,st5,fr5⟩=>?_);have I5':=I5.pinned (stat fr5) (T.obj _ _ st5);refine wpAny_passesOwn hp (bJ (hg _ s5 σ3 H5 x u _ I5' r5 (step x H5 y5)) fun _ s6 ⟨σ6,H6,I6,q6⟩=>?_);refine wpAny_passesOwn hp (bJ (hb _ s6 σ6 H6 _ I6 q6) fun f s7 q7=>?_);have again:∀ {σ7:St} {H7:Hp},Inv X (pins++ia fp s5.heap) σ7 H7 s7->N σ7 H7->∃ m,m < n/\∃ i σ' H',Inv X pins σ' H' s7/\tn i s7.heap/\(∀ b∈fp,H' b=none)/\W i m σ' H':=fun {σ7 H7} I7 n7=>by
   obtain⟨m',hm,w7⟩:=hN σ7 H7 n7;refine⟨m',hm,i+1,σ7,H7,I7.dW,T.keep _ _ _ st5 fun b hb o e=>(I7.pin (b,o) (List.mem_append_right _ (List.mem_append_right _ (d9 hb e)))).1,fun b hb=>?_,w7⟩;obtain⟨o,e,d⟩:=T.obj _ _ st5 b hb;exact (I7.pin (b,o) (List.mem_append_right _ (List.mem_append_right _ (d9 hb e)))).2.1
  cases f with
  | next=>obtain⟨σ7,H7,I7,n7⟩:=q7;exact again I7 n7
  | cont=>obtain⟨σ7,H7,I7,n7⟩:=q7;exact again I7 n7
  | brk=>obtain⟨σ7,H7,I7,q7⟩:=q7;exact⟨σ7,H7,I7.dW,q7⟩
  | ret v=>obtain⟨x7,σ7,H7,I7,r7,q7⟩:=q7;exact⟨x7,σ7,H7,I7.dW,r7,q7⟩
end
noncomputable abbrev R2:=V->V->Hp->VK->Prop
def cO(X:Cx)(f:Value->Value->Sem Value)(r:R2):Prop:=
 ∀ (pins:List (Addr×Obj)) (s:Shared) (σ:St) (H:Hp) (x y:V) (v u:Value) (Q:VK),Inv X pins σ H s->RelV x v->RelV y u->r x y H Q ->
  wpAny (model X.prog X.w) X.A (f v u) (EP X pins σ Q) X.xe s
def Fq(X:Cx)(f:Value->Sem Value)(r:V->Hp->VK->Prop):Prop:=
 ∀ (pins:List (Addr×Obj)) (s:Shared) (σ:St) (H:Hp) (x:V) (v:Value) (Q:VK),Inv X pins σ H s->RelV x v->r x H Q ->
  wpAny (model X.prog X.w) X.A (f v) (EP X pins σ Q) X.xe s
def aL(X:Cx)(f:Value)(r:List V->Hp->VK->Prop):Prop:=
 ∀ (pins:List (Addr×Obj)) (s:Shared) (σ:St) (H:Hp) (xs:List V) (us:List Value) (Q:VK),Inv X pins σ H s->Vals xs us->r xs H Q ->
  wpAny (model X.prog X.w) X.A (call f us) (EP X pins σ Q) X.xe s
def Gu(X:Cx)(r:V->Hp->(Bool->Hp->Prop)->Prop):Prop:=
 ∀ (pins:List (Addr×Obj)) (s:Shared) (σ:St) (H:Hp) (x:V) (v:Value) (Q:Bool->Hp->Prop),Inv X pins σ H s->RelV x v->r x H Q ->
  wpAny (model X.prog X.w) X.A (truthy v) (TP X pins σ Q) X.xe s
def x4(r:R2)(ta tb:TE):TE:=fun σ H Q=>ta σ H fun x H1=>tb σ H1 fun y H2=>r x y H2 Q
def GZ(r:V->Hp->VK->Prop)(ta:TE):TE:=fun σ H Q=>ta σ H fun x H1=>r x H1 Q
def rI(C:Int->Int->Prop)(g:Int->Int->V):R2:=fun x y H Q=>∃ i j,x=.int i/\y=.int j/\C i j/\Q (g i j) H
def yj(g:Int->Int->V):R2:=fun x y H Q=>∃ i j,x=.int i/\y=.int j/\Q (g i j) H
def rU(g:Int->V):V->Hp->VK->Prop:=fun x H Q=>∃ i,x=.int i/\Q (g i) H
section
variable {X:Cx} {a b c:Expr} {ta tb tc:TE} {pos:Pos}
theorem Ae(ha:PE X a ta)(hb:PE X b tb){pins:List (Addr×Obj)}{s:Shared}{σ:St}{H:Hp}{R:V->V->Hp->Prop}(I:Inv X pins σ H s)
  (h:ta σ H fun x H1=>tb σ H1 fun y H2=>R x y H2) {Q:Value->Shared->Prop} {f:Value->Value->Sem Value}
  (hf:∀ v u s2 x y H2,Inv X pins σ H2 s2->RelV x v->RelV y u->R x y H2->wpAny (model X.prog X.w) X.A (f v u) Q X.xe s2) :
  wpAny (model X.prog X.w) X.A (eval a X.env) (fun v s₁=>wpAny (model X.prog X.w) X.A (eval b X.env) (fun u s₂=>wpAny (model X.prog X.w) X.A (f v u) Q X.xe s₂) X.xe s₁) X.xe s:=by
 refine bJ (ha pins s σ H _ I h) fun v s1 ⟨x,H1,I1,r1,q1⟩=>?_;refine bJ (hb pins s1 σ H1 _ I1 q1) fun u s2 ⟨y,H2,I2,r2,q2⟩=>?_;exact hf v u s2 x y H2 I2 r1 r2 q2
theorem Dj{op:Operator}{r:R2}(ho:cO X (binaryOp op) r)(ha:PE X a ta)(hb:PE X b tb):PE X (.BinOp a op b pos) (x4 r ta tb):=by
 intro pins s σ H Q I h;exact wpAny_BinOp (Ae ha hb I h fun v u s2 x y H2 I2 rx ry q=>ho pins s2 σ H2 x y v u Q I2 rx ry q)
theorem DQ{op:UnaryOp}{r:V->Hp->VK->Prop}(ho:Fq X (unaryOp op) r)(ha:PE X a ta):PE X (.UnaryOp op a pos) (GZ r ta):=by
 intro pins s σ H Q I h;exact UnaryOp_ (bJ (ha pins s σ H _ I h) fun v s1 ⟨x,H1,I1,r1,q1⟩=>ho pins s1 σ H1 x v Q I1 r1 q1)
theorem EL{f:Value->Value->Sem Value}{C:Int->Int->Prop}{g:Int->Int->Int}
  (rule:∀ (i j:Int) (t u:Tok) (s:Shared) (Q:Value->Shared->Prop) (E:Value->Shared->Prop),C i j->Q (.int (g i j) s.toks) { s with toks:=s.toks+1 }->wpAny (model X.prog X.w) X.A (f (.int i t) (.int j u)) Q E s) :
  cO X f (rI C fun i j=>.int (g i j)):=by
 intro pins s σ H x y v u Q I rx ry h;obtain⟨i,j,rfl,rfl,hc,q⟩:=h;obtain⟨t,rfl⟩:=rx;obtain⟨t',rfl⟩:=ry;exact rule i j t t' s _ _ hc ⟨.int (g i j),H,I.tok _,⟨_,rfl⟩,q⟩
theorem E4{f:Value->Value->Sem Value}{g:Int->Int->Int}
  (rule:∀ (i j:Int) (t u:Tok) (s:Shared) (Q:Value->Shared->Prop) (E:Value->Shared->Prop),Q (.int (g i j) s.toks) { s with toks:=s.toks+1 }->wpAny (model X.prog X.w) X.A (f (.int i t) (.int j u)) Q E s) :
  cO X f (yj fun i j=>.int (g i j)):=by
 intro pins s σ H x y v u Q I rx ry h;obtain⟨i,j,rfl,rfl,q⟩:=h;obtain⟨t,rfl⟩:=rx;obtain⟨t',rfl⟩:=ry;exact rule i j t t' s _ _ ⟨.int (g i j),H,I.tok _,⟨_,rfl⟩,q⟩
theorem As{f:Value->Value->Sem Value}{g:Int->Int->Bool}
  (rule:∀ (i j:Int) (t u:Tok) (s:Shared) (Q:Value->Shared->Prop) (E:Value->Shared->Prop),Q (.bool (g i j)) s->wpAny (model X.prog X.w) X.A (f (.int i t) (.int j u)) Q E s) :
  cO X f (yj fun i j=>.bl (g i j)):=by
 intro pins s σ H x y v u Q I rx ry h;obtain⟨i,j,rfl,rfl,q⟩:=h;obtain⟨t,rfl⟩:=rx;obtain⟨t',rfl⟩:=ry;exact rule i j t t' s _ _ ⟨.bl (g i j),H,I,rfl,q⟩
def Dm(i j:Int):Prop:=0<=j/\j<=1000000/\i.natAbs < 2 ^ 64
def mY(i j:Int):Prop:=(-(2 ^ 64) < i/\i < 2 ^ 64)\/(-(2 ^ 64) < j/\j < 2 ^ 64)
theorem mY.ok{i j:Int}(h:mY i j):IntMulOk i j:=by
 rcases h with ⟨h1,h2⟩ | ⟨h1,h2⟩
 ·exact .of_left (intBits_le_64 h1 h2)
 ·exact .of_right (intBits_le_64 h1 h2)
theorem A8:cO X (binaryOp .Add) (yj fun i j=>.int (i+j)):=E4 fun _ _ _ _ _ _ _ q=>add_int q
theorem dZ:cO X (binaryOp .Sub) (yj fun i j=>.int (i - j)):=E4 fun _ _ _ _ _ _ _ q=>sub_int q
theorem A4:cO X (binaryOp .Mult) (rI mY fun i j=>.int (i*j)):=EL fun _ _ _ _ _ _ _ hc q=>mul_int q hc.ok
theorem eM:cO X (binaryOp .Mod) (rI (fun _ j=>0 < j) fun i j=>.int (i % j)):=EL fun i j _ _ _ _ _ hc q=>by
 have h1:(0:Int) < j:=hc;exact mod_int' (by lia) (by rw[Int.fmod_eq_emod_of_nonneg i (by lia)];exact q)
theorem dB:cO X (binaryOp .Pow) (rI Dm fun i j=>.int (i ^ j.toNat)):=EL fun _ _ _ _ _ _ _ hc q=>pow_int_small hc.1 hc.2.1 hc.2.2 q
theorem BA:cO X (binaryOp .LShift) (rI Dm fun i j=>.int (i*2 ^ j.toNat)):=EL fun _ _ _ _ _ _ _ hc q=>lshift_int_small hc.1 hc.2.1 hc.2.2 q
theorem Hq{f:Value->Sem Value}{g:Int->Int}
  (rule:∀ (i:Int) (t:Tok) (s:Shared) (Q:Value->Shared->Prop) (E:Value->Shared->Prop),Q (.int (g i) s.toks) { s with toks:=s.toks+1 }->wpAny (model X.prog X.w) X.A (f (.int i t)) Q E s) :
  Fq X f (rU fun i=>.int (g i)):=by
 intro pins s σ H x v Q I rx h;obtain⟨i,rfl,q⟩:=h;obtain⟨t,rfl⟩:=rx;exact rule i t s _ _ ⟨.int (g i),H,I.tok _,⟨_,rfl⟩,q⟩
theorem B_:Fq X (unaryOp .USub) (rU fun i=>.int (-i)):=Hq fun _ _ _ _ _ q=>neg_int q
end
def E8:V->V->Bool
 | .aI,.aI=>true | .aI,.int _=>true | .int _,.aI=>true | .aI,.bl _=>true | .bl _,.aI=>true | .aI,.str _=>true | .str _,.aI=>true
 | .int _,.int _=>true | .bl _,.bl _=>true | .str _,.str _=>true | .qN _,.qN _=>true
 | .int _,.str _=>true | .str _,.int _=>true | .bl _,.str _=>true | .str _,.bl _=>true
 | _,_=>false
def GL:R2:=fun x y H Q=>E8 x y=true/\Q (.bl (decide (x=y))) H
def GX:R2:=fun x y H Q=>E8 x y=true/\Q (.bl (!decide (x=y))) H
theorem qD{i j:Int}:decide (V.int i=V.int j)=(i == j):=by
 rw[Bool.eq_iff_iff];simp
theorem tQ{i j:Bool}:decide (V.bl i=V.bl j)=(i == j):=by
 rw[Bool.eq_iff_iff];simp
theorem pz{i j:Str}:decide (V.str i=V.str j)=(i == j):=by
 rw[Bool.eq_iff_iff];simp
theorem oF{i j:Array UInt8}:decide (V.qN i=V.qN j)=(i.toList == j.toList):=by
 rw[Bool.eq_iff_iff];cases i;cases j;simp
section
variable {X:Cx} {a b c:Expr} {ta tb tc:TE} {pos:Pos}
theorem aB{pins:List (Addr×Obj)}{σ:St}{H:Hp}{s:Shared}{Q:VK}{k k':Bool}(I:Inv X pins σ H s)(q:Q (.bl k) H)(e:k=k'):EP X pins σ Q (.bool k') s:=by
 subst e;exact⟨.bl k,H,I,rfl,q⟩
theorem Ef:cO X (compareOp .Eq) GL:=by
 intro pins s σ H x y v u Q I rx ry h;obtain⟨hs,q⟩:=h
 cases x with
 | aI =>
  cases rx
  cases y with
  | aI=>cases ry;exact PySem.EqNone.eq_none_none (aB I q (by simp))
  | bl j=>cases ry;exact PySem.EqNone.eq_none_bool (aB I q (by simp))
  | int j=>obtain⟨t',rfl⟩:=ry;exact PySem.EqNone.eq_none_int (aB I q (by simp))
  | str j=>obtain⟨t',rfl⟩:=ry;exact PySem.EqNone.eq_none_str (aB I q (by simp))
  | _=>exact absurd (show false=true from hs) Bool.false_ne_true
 | bl i =>
  cases rx
  cases y with
  | aI=>cases ry;exact PySem.EqNone.eq_bool_none (aB I q (by simp))
  | bl j=>cases ry;exact eq_bool (aB I q tQ)
  | str j=>obtain⟨t',rfl⟩:=ry;exact PySem.EqMixed.eq_bool_str (aB I q (by simp))
  | _=>exact absurd (show false=true from hs) Bool.false_ne_true
 | int i =>
  obtain⟨t,rfl⟩:=rx
  cases y with
  | aI=>cases ry;exact PySem.EqNone.eq_int_none (aB I q (by simp))
  | int j=>obtain⟨t',rfl⟩:=ry;exact eq_int (aB I q qD)
  | str j=>obtain⟨t',rfl⟩:=ry;exact PySem.EqMixed.eq_int_str (aB I q (by simp))
  | _=>exact absurd (show false=true from hs) Bool.false_ne_true
 | str i =>
  obtain⟨t,rfl⟩:=rx
  cases y with
  | aI=>cases ry;exact PySem.EqNone.eq_str_none (aB I q (by simp))
  | bl j=>cases ry;exact PySem.EqMixed.eq_str_bool (aB I q (by simp))
  | int j=>obtain⟨t',rfl⟩:=ry;exact PySem.EqMixed.eq_str_int (aB I q (by simp))
  | str j=>obtain⟨t',rfl⟩:=ry;exact eq_str (aB I q pz)
  | _=>exact absurd (show false=true from hs) Bool.false_ne_true
 | qN i =>
  obtain⟨t,rfl⟩:=rx
  cases y with
  | qN j=>obtain⟨t',rfl⟩:=ry;exact PySem.W.eq_bytes (aB I q oF)
  | _=>exact absurd (show false=true from hs) Bool.false_ne_true
 | _=>cases y<;>exact absurd (show false=true from hs) Bool.false_ne_true
theorem Eb:cO X (compareOp .NotEq) GX:=by
 intro pins s σ H x y v u Q I rx ry h;obtain⟨hs,q⟩:=h
 cases x with
 | aI =>
  cases rx
  cases y with
  | aI=>cases ry;exact PySem.EqNone.ne_none_none (aB I q (by simp))
  | bl j=>cases ry;exact PySem.EqNone.ne_none_bool (aB I q (by simp))
  | int j=>obtain⟨t',rfl⟩:=ry;exact PySem.EqNone.ne_none_int (aB I q (by simp))
  | str j=>obtain⟨t',rfl⟩:=ry;exact PySem.EqNone.ne_none_str (aB I q (by simp))
  | _=>exact absurd (show false=true from hs) Bool.false_ne_true
 | bl i =>
  cases rx
  cases y with
  | aI=>cases ry;exact PySem.EqNone.ne_bool_none (aB I q (by simp))
  | bl j=>cases ry;exact ne_bool (aB I q (congrArg not tQ))
  | str j=>obtain⟨t',rfl⟩:=ry;exact PySem.EqMixed.ne_bool_str (aB I q (by simp))
  | _=>exact absurd (show false=true from hs) Bool.false_ne_true
 | int i =>
  obtain⟨t,rfl⟩:=rx
  cases y with
  | aI=>cases ry;exact PySem.EqNone.ne_int_none (aB I q (by simp))
  | int j=>obtain⟨t',rfl⟩:=ry;exact ne_int (aB I q (congrArg not qD))
  | str j=>obtain⟨t',rfl⟩:=ry;exact PySem.EqMixed.ne_int_str (aB I q (by simp))
  | _=>exact absurd (show false=true from hs) Bool.false_ne_true
 | str i =>
  obtain⟨t,rfl⟩:=rx
  cases y with
  | aI=>cases ry;exact PySem.EqNone.ne_str_none (aB I q (by simp))
  | bl j=>cases ry;exact PySem.EqMixed.ne_str_bool (aB I q (by simp))
  | int j=>obtain⟨t',rfl⟩:=ry;exact PySem.EqMixed.ne_str_int (aB I q (by simp))
  | str j=>obtain⟨t',rfl⟩:=ry;exact ne_str (aB I q (congrArg not pz))
  | _=>exact absurd (show false=true from hs) Bool.false_ne_true
 | qN i =>
  obtain⟨t,rfl⟩:=rx
  cases y with
  | qN j=>obtain⟨t',rfl⟩:=ry;exact PySem.W.ne_bytes (aB I q (congrArg not oF))
  | _=>exact absurd (show false=true from hs) Bool.false_ne_true
 | _=>cases y<;>exact absurd (show false=true from hs) Bool.false_ne_true
theorem iM:cO X (compareOp .Lt) (yj fun i j=>.bl (decide (i < j))):=As fun _ _ _ _ _ _ _ q=>lt_int q
theorem yX:cO X (compareOp .Gt) (yj fun i j=>.bl (decide (j < i))):=As fun _ _ _ _ _ _ _ q=>gt_int q
theorem wo:cO X (compareOp .GtE) (yj fun i j=>.bl (decide (j<=i))):=As fun _ _ _ _ _ _ _ q=>ge_int q
theorem rn:cO X (compareOp .Lt) (fun x y H Q=>∃ i j,x=.str i/\y=.str j/\Q (.bl (decide (i.cps.toList < j.cps.toList))) H):=by
 intro pins s σ H x y v u Q I rx ry h;obtain⟨i,j,rfl,rfl,q⟩:=h;obtain⟨t,rfl⟩:=rx;obtain⟨t',rfl⟩:=ry;exact lt_str (aB I q rfl)
theorem ur:cO X (compareOp .Is) (fun x y H Q=>y=.aI/\Q (.bl (decide (x=.aI))) H):=by
 intro pins s σ H x y v u Q I rx ry h;obtain⟨rfl,q⟩:=h;cases ry;refine is_none_gen (aB I q ?_)
 cases x<;>first
  | (cases rx;rfl)
  | (obtain⟨t,rfl⟩:=rx;rfl)
theorem cO.or{f:Value->Value->Sem Value}{r r':R2}(h:cO X f r)(h':cO X f r'):cO X f (fun x y H Q=>r x y H Q\/r' x y H Q):=by
 intro pins s σ H x y v u Q I rx ry q;rcases q with q | q
 ·exact h pins s σ H x y v u Q I rx ry q
 ·exact h' pins s σ H x y v u Q I rx ry q
theorem xM{op:CmpOp}{r:R2}(ho:cO X (compareOp op) r)(ha:PE X a ta)(hb:PE X b tb)(hm:behindInMarks op b=false):PE X (.Compare a [op] [b] pos) (x4 r ta tb):=by
 intro pins s σ H Q I h;exact wpAny_Compare1 (Ae ha hb I h fun v u s2 x y H2 I2 rx ry q=>ho pins s2 σ H2 x y v u Q I2 rx ry q) hm
def uD(t:TE):TT:=fun σ H Q=>t σ H fun x H'=>∃ k,x=.bl k/\Q k H'
theorem x_{op:CmpOp}{r:R2}(ho:cO X (compareOp op) r)(ha:PE X a ta)(hb:PE X b tb)(hm:behindInMarks op b=false):PT X (.Compare a [op] [b] pos) (uD (x4 r ta tb)):=by
 intro pins s σ H Q I h;refine wpAny_isTrue_Compare1 (bJ (ha pins s σ H _ I h) fun v s1 ⟨x,H1,I1,r1,q1⟩=>bJ (hb pins s1 σ H1 _ I1 q1) fun u s2 ⟨y,H2,I2,r2,q2⟩=>
  bJ (ho pins s2 σ H2 x y v u _ I2 r1 r2 q2) fun c s3 ⟨z,H3,I3,r3,k,e,q3⟩=>?_) hm
 subst e;cases r3;exact wpAny_truthy_bool ⟨H3,I3,q3⟩
def w8(K:PySem.W.Frag)(x:V)(H:Hp)(k:Bool):Prop:=
 match x with
 | .aI=>k=false
 | .bl b=>k=b
 | .int i=>k=(i != 0)
 | .str y=>y.length<=sizeLine/\k=((y.length:Int) != 0)
 | .qN y=>y.size<=sizeLine/\k=((y.size:Int) != 0)
 | .ref p=>(∃ xs,bB K H p xs/\k=!xs.isEmpty)\/(∃ xs,b6 K H p xs/\k=!xs.isEmpty)\/∃ kvs,H p=some (.dK kvs)/\k=!kvs.isEmpty
 | _=>False
theorem o7{κ:Type}{kvs:List (κ×V)}{vs:List (κ×Value)}(r:KV kvs vs):(!vs.isEmpty)=!kvs.isEmpty:=by
 cases r<;>rfl
theorem iJ{xs:List V}{its:List Value}(r:Vals xs its):(!its.toArray.isEmpty)=!xs.isEmpty:=by
 cases r<;>simp
theorem eI:(sizeLine:Nat) < 2 ^ 63:=by rw[sizeLine_eq];decide
theorem Al:Gu X (fun x H Q=>∃ k,w8 X.K x H k/\Q k H):=by
 intro pins s σ H x v Q I rx h;obtain⟨k,e,q⟩:=h;have hl:=eI;have hs:sizeLine=16777216:=sizeLine_eq
 cases x with
 | aI =>
  cases rx;have e':k=false:=e;subst e';exact truthy_none ⟨H,I,q⟩
 | bl b =>
  cases rx;have e':k=b:=e;subst e';exact wpAny_truthy_bool ⟨H,I,q⟩
 | int i =>
  obtain⟨t,rfl⟩:=rx;have e':k=(i != 0):=e;subst e';exact PySem.P.truthy_int ⟨H,I,q⟩
 | str y =>
  obtain⟨t,rfl⟩:=rx;obtain⟨hy,e'⟩:y.length<=sizeLine/\k=((y.length:Int) != 0):=e;subst e';exact PySem.P.truthy_str (by lia) ⟨H,I.tok _,q⟩
 | qN y =>
  obtain⟨t,rfl⟩:=rx;obtain⟨hy,e'⟩:y.size<=sizeLine/\k=((y.size:Int) != 0):=e;subst e';exact PySem.W.truthy_bytes (by lia) ⟨H,I.tok _,q⟩
 | ref p =>
  cases rx;have e':(∃ xs,bB X.K H p xs/\k=!xs.isEmpty)\/(∃ xs,b6 X.K H p xs/\k=!xs.isEmpty)\/∃ kvs,H p=some (.dK kvs)/\k=!kvs.isEmpty:=e;rcases e' with ⟨xs,hx,e'⟩ | ⟨xs,hx,e'⟩ | ⟨kvs,hx,e'⟩
  ·subst e';obtain⟨its,r,pl,hz⟩:=I.list hx;have hlen:=r.length;exact wpAny_truthy_list pl.isList (by simp only[List.size_toArray];lia) ⟨H,I.tok _,by rw[iJ r];exact q⟩
  ·subst e';obtain⟨its,r,pl,hz⟩:=I.tuple hx;have hlen:=r.length;exact truthy_tuple pl (by simp only[List.size_toArray];lia) ⟨H,I.tok _,by rw[iJ r];exact q⟩
  ·subst e';obtain⟨hz,hS,vs,r,m⟩:kvs.length<=sizeLine/\(p == sysModules)=false/\∃ vs,KV kvs vs/\s.heap.DictOf (jQ X.prog X.w) p vs:=I.aS p _ hx;have hlen:kvs.length=vs.length:=Paired.length r;exact wpAny_truthy_dict hS m (by lia) ⟨H,I.tok _,by rw[o7 r];exact q⟩
 | _=>exact (show False from e).elim
theorem uE(ha:PE X a ta)(he:∀ whole,isTrue a X.env whole=(do let v <- whole;standAt a.pos;holding [v] (truthy v))):
  PT X a (fun σ H Q=>ta σ H fun x H'=>∃ k,w8 X.K x H' k/\Q k H'):=by
 intro pins s σ H Q I h;exact isTrue_plain (bJ (ha pins s σ H _ I h) fun v s1 ⟨x,H1,I1,r1,q1⟩=>Al pins s1 σ H1 x v Q I1 r1 q1) (he _)
theorem nO:cO X (binaryOp .Add) (fun x y H Q=>∃ i j,x=.str i/\y=.str j/\i.length+j.length<=sizeLine/\Q (.str (i++j)) H):=by
 intro pins s σ H x y v u Q I rx ry h;obtain⟨i,j,rfl,rfl,hz,q⟩:=h;obtain⟨t,rfl⟩:=rx;obtain⟨t',rfl⟩:=ry;exact add_str (fun t' tk=>⟨.str (i++j),H,I.tok _,⟨_,rfl⟩,q⟩) hz
theorem vals1{x:V}{us:List Value}(r:Vals [x] us):∃ u,us=[u]/\RelV x u:=by
 cases r with
 | cons r1 r2=>cases r2;exact⟨_,rfl,r1⟩
theorem vals2{x y:V}{us:List Value}(r:Vals [x,y] us):∃ u w',us=[u,w']/\RelV x u/\RelV y w':=by
 cases r with
 | cons r1 r2 =>
  cases r2 with
  | cons r3 r4=>cases r4;exact⟨_,_,rfl,r1,r3⟩
theorem qI(hc:X.calm=true):aL X (.builtin "max") (fun xs H Q=>∃ i j,xs=[.int i,.int j]/\Q (.int (if j > i then j else i)) H):=by
 intro pins s σ H xs us Q I r h;obtain⟨i,j,rfl,q⟩:=h;obtain⟨u,w',rfl,⟨t,rfl⟩,⟨t',rfl⟩⟩:=vals2 r;refine max_two_ints (I.ok.hd hc) fun h' tk k=>⟨_,H,I.kept k,?_,q⟩;by_cases hj:j > i
 ·rw[if_pos hj,if_pos hj];exact⟨_,rfl⟩
 ·rw[if_neg hj,if_neg hj];exact⟨_,rfl⟩
theorem r8(hc:X.calm=true):aL X (.builtin "min") (fun xs H Q=>∃ i j,xs=[.int i,.int j]/\Q (.int (if j < i then j else i)) H):=by
 intro pins s σ H xs us Q I r h;obtain⟨i,j,rfl,q⟩:=h;obtain⟨u,w',rfl,⟨t,rfl⟩,⟨t',rfl⟩⟩:=vals2 r;refine min_two_ints (I.ok.hd hc) fun h' tk k=>⟨_,H,I.kept k,?_,q⟩;by_cases hj:j < i
 ·rw[if_pos hj,if_pos hj];exact⟨_,rfl⟩
 ·rw[if_neg hj,if_neg hj];exact⟨_,rfl⟩
theorem j5:aL X (.type "int") (fun xs H Q=>(∃ i,xs=[.int i]/\Q (.int i) H)\/∃ k,xs=[.bl k]/\Q (.int (if k then 1 else 0)) H):=by
 intro pins s σ H xs us Q I r h;rcases h with ⟨i,rfl,q⟩ | ⟨k,rfl,q⟩
 ·obtain⟨u,rfl,t,rfl⟩:=vals1 r;exact call_int_int ⟨.int i,H,I,⟨_,rfl⟩,q⟩
 ·obtain⟨u,rfl,r1⟩:=vals1 r;cases r1;exact call_int_bool ⟨.int (if k then 1 else 0),H,I.tok _,⟨_,rfl⟩,q⟩
end
section
variable {prog:Program} {w:World} {A:Around} {E:Value->Shared->Prop} {s:Shared} {K:PySem.W.Frag} {x dx C f:Addr} {mA:Str->Option Value} {name:Str} {v:Value}
end
section
variable {P:Program} {w:World} {H H':Hp} {h h':Heap} {a C dx:Addr} {fs fs':List (Str×V)}
end
section
variable {X:Cx} {pins:List (Addr×Obj)} {σ:St} {H:Hp} {s:Shared} {a C dx:Addr} {fs:List (Str×V)} {f:Str} {v:V} {A:Around} {E:Value->Shared->Prop}
end
section
variable {X:Cx} {o e value:Expr} {f:Str} {pos pos' tpos:Pos} {ta tv:TE}
end
section
variable {X:Cx} {pins:List (Addr×Obj)} {σ:St} {H:Hp} {s:Shared} {A:Around} {E:Value->Shared->Prop} {Q:Value->Shared->Prop} {c:Value} {b:Bool}
end
structure bo (k:Nat) (A:Around):Prop where
 hd:A.handled=none
 dp:A.depth+3*k+5 < recursionLimit
 un:A.units+16*k+200 < cLine
 gd:A.guards=some []
theorem bo.mono{j k:Nat}{A:Around}(r:bo k A)(h:j<=k):bo j A:=⟨r.hd,by have:=r.dp;lia,by have:=r.un;lia,r.gd⟩
theorem bo.deeper{k:Nat}{A:Around}(r:bo (k+1) A)(env:Env):bo k (A.deeper env):=
 ⟨r.hd,by have:=r.dp;show A.depth+1+3*k+5 < _;lia,by have:=r.un;show A.units+3+16*k+200 < _;lia,r.gd⟩
theorem bo.in1{k:Nat}{A:Around}(r:bo (k+1) A):bo k A.in1:=
 ⟨r.hd,by have:=r.dp;show A.depth+3*k+5 < _;lia,by have:=r.un;show A.units+1+16*k+200 < _;lia,r.gd⟩
theorem bo.depth{k:Nat}{A:Around}(r:bo k A):A.depth < recursionLimit:=by have:=r.dp;lia
theorem bo.units{k:Nat}{A:Around}(r:bo k A):A.units+64 < cLine:=by have:=r.un;lia
theorem bo.Bt{k:Nat}{A:Around}(r:bo k A):A.units < cLine:=by have:=r.un;lia
def yn:TA:=fun _ H Q=>Q [] H
def mf(ta:TE)(tr:TA):TA:=fun σ H Q=>ta σ H fun x H1=>tr σ H1 fun xs H2=>Q (x::xs) H2
section
variable {X:Cx} {e:Expr} {es:List Expr} {te:TE} {t:TA} {pos:Pos}
theorem wM:PA X [] yn:=fun _ _ _ _ H Q I h=>Calls.spliced_nil ⟨[],H,I,.nil,h⟩
theorem qk(ha:PE X e te)(hr:PA X es t)(hs:starEach (e::es) X.env=(false,eval e X.env)::starEach es X.env:=by rfl):PA X (e::es) (mf te t):=by
 intro pos pins s σ H Q I h;rw[hs];show wpAny _ _ (spliced ((false,eval e X.env)::backTo pos (starEach es X.env))) _ _ s;refine Calls.spliced_cons (bJ (ha pins s σ H _ I h) fun u s1 ⟨x,H1,I1,r1,q1⟩=>?_);exact bJ (hr pos pins s1 σ H1 _ I1 q1) fun us s2 ⟨xs,H2,I2,r2,q2⟩=>⟨x::xs,H2,I2,.cons r1 r2,q2⟩
def DJ(t:TA):TE:=fun σ H Q=>t σ H fun xs H1=>xs.length<=sizeLine/\∀ p,H1 p=none->Q (.ref p) (upd H1 p (.tup xs))
def Ex(t:TA):TE:=fun σ H Q=>t σ H fun xs H1=>xs.length<=sizeLine/\∀ p,H1 p=none->Q (.ref p) (upd H1 p (.lst xs))
theorem BF{x1}(h:PA X es t):PE X (.Tuple es x1 pos) (DJ t):=by
 intro pins s σ H Q I hq;refine wpAny_Tuple_spliced (bJ (h pos pins s σ H _ I hq) fun us s1 ⟨xs,H1,I1,r,z,q⟩=>⟨by rw[<- r.length];exact z,?_⟩)
 have hf:H1 s1.heap.objs.size=none:=I1.aS.fresh (Nat.le_refl _);refine⟨.ref s1.heap.objs.size,upd H1 s1.heap.objs.size (.tup xs),I1.laid (t':=s1.toks) (fun b u e=>Heap.get?_push_of_some _ e) (Nat.le_refl _) ?_,rfl,q _ hf⟩;exact⟨z,us,r,⟨_,Heap.get?_push_size _ rfl,rfl,_,rfl,rfl⟩⟩
theorem BD(h:PA X es t):PE X (.List es pos) (Ex t):=by
 intro pins s σ H Q I hq;refine wpAny_List_spliced (bJ (h pos pins s σ H _ I hq) fun us s1 ⟨xs,H1,I1,r,z,q⟩=>⟨by rw[<- r.length];exact z,?_⟩)
 have hf:H1 s1.heap.objs.size=none:=I1.aS.fresh (Nat.le_refl _);refine⟨.ref s1.heap.objs.size,upd H1 s1.heap.objs.size (.lst xs),I1.laid (t':=s1.toks) (fun b u e=>Heap.get?_push_of_some _ e) (Nat.le_refl _) ?_,rfl,q _ hf⟩;exact⟨z,us,0,r,Heap.get?_push_size _ rfl⟩
end
noncomputable abbrev Sp:=List V->Hp->VK->XK->Prop
noncomputable abbrev kZ:=List Env->Hp->Shared->XK->Value->Shared->Prop
structure xx (P:Program) (w:World) (K:PySem.W.Frag) (mg:Str->Option Value) (base:Heap) (A:Around) (outer:List Env) (s:Shared) (H:Hp):Prop where
 frames:A.frames=some outer
 mod:Mod K mg base
 bs:∀ b o,base.get? b=some o->s.heap.get? b=some o/\H b=none
 xQ:base.objs.size<=s.heap.objs.size
 h8:s.heap.FunFrames base outer
 C8:∀ b∈gx outer,H b=none
 aS:eE P w H s.heap
 bare:AllBare s.gens
 tabs:TabsOk K H
def CE(outer:List Env)(P:Program)(w:World)(H:Hp)(s:Shared)(Q:VK)(u:Value)(s':Shared):Prop:=
 ∃ v H',s'.os=s.os/\AllBare s'.gens/\Un (gx outer) [] H H' s.heap s'.heap/\eE P w H' s'.heap/\RelV v u/\Q v H'
def CR(CX:kZ)(outer:List Env)(P:Program)(w:World)(H:Hp)(s:Shared)(Q:VK)(E:XK)(r:Result)(s':Shared):Prop:=
 match r with
 | .ok (.ret u)=>CE outer P w H s Q u s'
 | .ok _=>False
 | .error e=>CX outer H s E e s'
structure dg (P:Program) (w:World) (K:PySem.W.Frag) (mg:Str->Option Value) (base:Heap) (CX:kZ) (k:Nat) (f:Addr) (fd:FuncData) (ps:List Str) (sp:Sp):Prop where
 len:∀ vs H Q E,sp vs H Q E->vs.length=ps.length
 run:∀ (A:Around) (outer:List Env) (s:Shared) (H:Hp) (args:Args) (us:List Value) (vs:List V) (Q:VK) (E:XK),bo k A->xx P w K mg base A outer s H->BindsTo s fd args (ps.zip us)->Vals vs us->sp vs H Q E ->
  codeAny (model P w) A (.call (.ref f) args) (CR CX outer P w H s Q E) s
theorem dg.mono{P:Program}{w:World}{K:PySem.W.Frag}{mg:Str->Option Value}{base:Heap}{CX:kZ}{j k:Nat}{f:Addr}{fd:FuncData}{ps:List Str}{sp:Sp}(F:dg P w K mg base CX j f fd ps sp)(h:j<=k):
  dg P w K mg base CX k f fd ps sp:=⟨F.len,fun A outer s H args us vs Q E hr=>F.run A outer s H args us vs Q E (hr.mono h)⟩
theorem dg.imp{P:Program}{w:World}{K:PySem.W.Frag}{mg:Str->Option Value}{base:Heap}{CX:kZ}{k:Nat}{f:Addr}{fd:FuncData}{ps:List Str}{sp sp':Sp}(F:dg P w K mg base CX k f fd ps sp)
  (h:∀ vs H Q E,sp' vs H Q E->sp vs H Q E):dg P w K mg base CX k f fd ps sp':=
 ⟨fun vs H Q E q=>F.len vs H Q E (h _ _ _ _ q),fun A outer s H args us vs Q E hr he hb hv hs=>F.run A outer s H args us vs Q E hr he hb hv (h _ _ _ _ hs)⟩
section
variable {X:Cx} {pins:List (Addr×Obj)} {σ:St} {H:Hp} {s s':Shared}
theorem Inv.CI(I:Inv X pins σ H s):xx X.prog X.w X.K X.mg X.base X.A X.stack s H:=
 ⟨I.ok.frames,I.ok.mod,I.bs,Nat.le_trans I.ok.xQ I.sz,I.stack,I.gE,I.aS,I.bare,I.ok.tabs.un I.base⟩
theorem Inv.after{Q:VK}{u:Value}(I:Inv X pins σ H s)(h:CE X.stack X.prog X.w H s Q u s'):EP X pins σ Q u s':=by
 obtain⟨v,H',os,bare,un,aS,r,q⟩:=h;obtain⟨hh,g,d,t,os'⟩:=s';obtain rfl:os'=s.os:=os;exact⟨v,H',I.call (h':=hh) (g':=g) (d':=d) (t':=t) (ch:=[]) un aS bare (fun b z=>absurd z (by simp)),r,q⟩
end
def qz(sp:Sp)(dvs:List V)(E:XK)(t:TA):TE:=fun σ H Q=>t σ H fun vs H1=>sp (vs++dvs) H1 Q E
def Binds(K:PySem.W.Frag)(fd:FuncData)(ps:List Str)(ds:List Value):Prop:=
 ∀ (s:Shared) (us:List Value),K.In s.heap->(us++ds).length=ps.length->BindsTo s fd ⟨us,[]⟩ (ps.zip (us++ds))
theorem Binds.all{K:PySem.W.Frag}{fd:FuncData}{ps:List Str}(h:∀ us:List Value,us.length=ps.length->bindArgs fd ⟨us,[]⟩=pure (ps.zip us)):Binds K fd ps []:=fun s us _ hl=>by
 rw[List.append_nil] at hl ⊢;exact .of_eq (h us hl)
def Passes(CX:kZ)(X:Cx)(E:XK):Prop:=∀ (pins:List (Addr×Obj)) (σ:St) (H:Hp) (s:Shared) (e:Value) (s':Shared),Inv X pins σ H s->CX X.stack H s E e s'->X.xe e s'
section
variable {X:Cx} {CX:kZ} {k:Nat} {f C:Addr} {fd:FuncData} {ps:List Str} {sp:Sp} {dvs:List V} {ds:List Value} {E:XK} {x m:Str} {p pos apos:Pos} {e o:Expr} {es:List Expr} {ta:TE} {t:TA}
theorem AE{pins:List (Addr×Obj)}{σ:St}{H:Hp}{s:Shared}{Q:VK}{us:List Value}{vs:List V}(F:dg X.prog X.w X.K X.mg X.base CX k f fd ps sp)(hr:bo k X.A)(hb:Binds X.K fd ps ds)(hd:Vals dvs ds)(hx:Passes CX X E)
  (I:Inv X pins σ H s) (r:Vals vs us) (h:sp (vs++dvs) H Q E):wpAny (model X.prog X.w) X.A (call (.ref f) us) (EP X pins σ Q) X.xe s:=by
 have r2:Vals (vs++dvs) (us++ds):=r.append hd;have hl:(us++ds).length=ps.length:=by rw[<- r2.length];exact F.len _ _ _ _ h
 refine wpAny_call (codeAny_mono (F.run X.A X.stack s H ⟨us,[]⟩ (us++ds) (vs++dvs) Q E hr I.CI (hb s us I.oK hl) r2 h) fun r s' hq=>?_)
 cases r with
 | error e=>exact hx pins σ H s e s' I hq
 | ok fl =>
  cases fl with
  | ret u=>exact I.after hq
  | next=>exact False.elim hq
  | brk=>exact False.elim hq
  | cont=>exact False.elim hq
theorem xn(F:dg X.prog X.w X.K X.mg X.base CX k f fd ps sp)(hr:bo k X.A)(hg:Gl X x)(hm:X.mg x=some (.ref f))(hk:PySem.W.keepIn X.K (.ref f)=true)(hb:Binds X.K fd ps ds)(hd:Vals dvs ds)(hx:Passes CX X E)
  (ha:PA X (e::es) t) (hdb:(x ==("__debug__":Str))=false:=by decide) (he:starEach (e::es) X.env=(false,eval e X.env)::starEach es X.env:=by rfl) (hpl:(backTo pos (starEach es X.env)).any (·.1)=false:=by rfl) :
  PE X (.Call (.Name x p) (e::es) [] pos) (qz sp dvs E t):=by
 intro pins s σ H Q I h;refine wpAny_Call_Name_kw (kc I hg hm ?_ hdb);refine PySem.W.callWith_K (h₀:=X.base) I.ok.mod.xW hk (bJ (ha pos pins s σ H _ I h) fun us s1 ⟨vs,H1,I1,r,q⟩=>⟨I1.oK,?_⟩) he hpl;exact AE F hr hb hd hx I1 r q
end
def PK(X:Cx)(kws:List Keyword)(t:TA):Prop:=
 ∀ (pos:Pos) (pins:List (Addr×Obj)) (s:Shared) (σ:St) (H:Hp) (Q:List V->Hp->Prop),Inv X pins σ H s->t σ H Q->wpAny (model X.prog X.w) X.A (evalAll ((backToKw pos (keywordEach kws X.env)).map (·.2))) (AP X pins σ Q) X.xe s
section
variable {X:Cx} {CX:kZ} {k:Nat} {f C:Addr} {fd:FuncData} {ps ks:List Str} {sp:Sp} {E:XK} {x m:Str} {p pos apos kpos:Pos} {e o:Expr} {es:List Expr} {kws:List Keyword} {te ta:TE} {t tk:TA} {nm:Option Str}
theorem Cd:PK X [] yn:=fun _ _ _ _ H Q I h=>wpAny_evalAll_nil ⟨[],H,I,.nil,h⟩
theorem yJ(ha:PE X e te)(hr:PK X kws t):PK X (⟨nm,e,kpos⟩::kws) (mf te t):=by
 intro pos pins s σ H Q I h;show wpAny _ _ (evalAll ((do let v <- eval e X.env;standAt pos;pure v)::(backToKw pos (keywordEach kws X.env)).map (·.2))) _ _ s
 refine wpAny_evalAll_cons (wpAny_bind (bJ (ha pins s σ H _ I h) fun u s1 ⟨x,H1,I1,r1,q1⟩=>wpAny_bind (wpAny_standAt (wpAny_pure ?_))));exact bJ (hr pos pins s1 σ H1 _ I1 q1) fun us s2 ⟨xs,H2,I2,r2,q2⟩=>⟨x::xs,H2,I2,.cons r1 r2,q2⟩
variable {g:List Value->List Value->List Value} {gV:List V->List V->List V}
end
structure ax (N P:List Str) (sc:Scope):Prop where
 kind:sc.kind=.function
 co:sc.isCoroutine=false
 gen:sc.isGenerator=false
 nd:N.Nodup
 pre:N.take P.length=P
 par:∀ x∈P,sc.names.lookup x=some .local\/sc.names.lookup x=some .cell
 BP:∀ y∈sc.names,y.2≠.free
theorem jC{kindOf:Str->Option NameKind}{x:Str}:∀ {binds:List (Str×Value)} {m:Str->Option Value},(∀ v,(x,v)∉binds)->bindL kindOf binds m x=m x
 | [],_,_=>rfl
 | (n,v)::r,m,h=>by
  unfold bindL;rw[jC fun w hw=>h w (List.mem_cons_of_mem _ hw)];split
  ·have:x≠n:=by rintro rfl;exact h v List.mem_cons_self
   simp[this]
  ·rfl
theorem jJ{kindOf:Str->Option NameKind}{x:Str}:∀ {binds:List (Str×Value)} {m:Str->Option Value},(∀ v,(x,v)∉binds)->bindC kindOf binds m x=m x
 | [],_,_=>rfl
 | (n,v)::r,m,h=>by
  unfold bindC;rw[jJ fun w hw=>h w (List.mem_cons_of_mem _ hw)];split
  ·rfl
  ·have:x≠n:=by rintro rfl;exact h v List.mem_cons_self
   simp[this]
theorem jF{kindOf:Str->Option NameKind}{x:Str}{v:Value}:∀ {P:List Str} {vs:List Value} {i:Nat} {m:Str->Option Value},P.Nodup->P[i]?=some x->vs[i]?=some v->kindOf x=some .local ->
  bindL kindOf (P.zip vs) m x=some v
 | [],_,_,_,_,h,_,_=>by simp at h
 | _::_,[],_,_,_,_,h,_=>by simp at h
 | p::P,w::vs,0,m,nd,h1,h2,hk=>by
  simp at h1 h2;subst h1;subst h2;show bindL kindOf ((p,w)::P.zip vs) m p=_;unfold bindL;rw[jC fun v hv=>(List.nodup_cons.mp nd).1 (List.of_mem_zip hv).1,if_pos hk];simp
 | p::P,w::vs,i+1,m,nd,h1,h2,hk=>by
  show bindL kindOf ((p,w)::P.zip vs) m x=_;unfold bindL;exact jF (i:=i) (List.nodup_cons.mp nd).2 (by simpa using h1) (by simpa using h2) hk
theorem jz{kindOf:Str->Option NameKind}{x:Str}{v:Value}:∀ {P:List Str} {vs:List Value} {i:Nat} {m:Str->Option Value},P.Nodup->P[i]?=some x->vs[i]?=some v->kindOf x≠some .local ->
  bindC kindOf (P.zip vs) m x=some v
 | [],_,_,_,_,h,_,_=>by simp at h
 | _::_,[],_,_,_,_,h,_=>by simp at h
 | p::P,w::vs,0,m,nd,h1,h2,hk=>by
  simp at h1 h2;subst h1;subst h2;show bindC kindOf ((p,w)::P.zip vs) m p=_;unfold bindC;rw[jJ fun v hv=>(List.nodup_cons.mp nd).1 (List.of_mem_zip hv).1,if_neg hk];simp
 | p::P,w::vs,i+1,m,nd,h1,h2,hk=>by
  show bindC kindOf ((p,w)::P.zip vs) m x=_;unfold bindC;exact jz (i:=i) (List.nodup_cons.mp nd).2 (by simpa using h1) (by simpa using h2) hk
def start(N:List Str)(vs:List V):St:=vs.map some++List.replicate (N.length - vs.length) none
def fk(CX:kZ)(P:Program)(w:World)(K:PySem.W.Frag)(mg:Str->Option Value)(base:Heap)(N:List Str)(qual:Str)(scope:Scope)(f:Addr)(cd:Value)(A:Around)(outer:List Env)(s:Shared)(H:Hp)(E:XK):Cx where
 prog:=P
 w:=w
 K:=K
 mg:=mg
 base:=base
 A:=A.deeper (envOfC qual scope s.heap.objs.size f cd)
 N:=N
 s₀:=s
 H₀:=H
 env:=envOfC qual scope s.heap.objs.size f cd
 outer:=outer
 stack:=envOfC qual scope s.heap.objs.size f cd::outer
 ex:=[]
 calm:=true
 fn:=fun _=>true
 pn:=[]
 xe:=fun e s'=>wpAny (model P w) (A.deeper (envOfC qual scope s.heap.objs.size f cd)) (leaving (envOfC qual scope s.heap.objs.size f cd) e) (fun _ s''=>CX outer H s E e s'') (fun e' s''=>CX outer H s E e' s'') s'
theorem m7{sc:Scope}{n:Nat}{x:Str}(h:sc.names.lookup x=some .cell):∃ c,(cellsFrom n sc.names []).lookup x=some c:=by
 have q:=PySem.W.cellsFrom_some sc.names n [] (.inl h);exact Option.isSome_iff_exists.mp q
theorem qK{CX:kZ}{P:Program}{w:World}{K:PySem.W.Frag}{mg:Str->Option Value}{base:Heap}{N ps:List Str}{qual:Str}{scope:Scope}{f:Addr}{cd:Value}{A:Around}{outer:List Env}{s s1:Shared}{H:Hp}{E:XK}{us:List Value}{vs:List V}
  (S:ax N ps scope) (hd:A.handled=none) (e0:xx P w K mg base A outer s H) (hl:vs.length=ps.length) (r:Vals vs us)
  (x:InCallC s s.heap.objs.size (bindL (envOfC qual scope s.heap.objs.size f cd).kindOf (ps.zip us) fun _=>none) (cellsFrom (s.heap.objs.size+1) scope.names []) (bindC (envOfC qual scope s.heap.objs.size f cd).kindOf (ps.zip us) fun _=>none) s1) :
  Inv (fk CX P w K mg base N qual scope f cd A outer s H E) [] (start N vs) H s1:=by
 have hpl:ps.length<=N.length:=by have:=congrArg List.length S.pre;rw[List.length_take] at this;lia
 obtain⟨h1,tk,rfl,hk⟩:=x.done;have noA:∀ b:Addr,b∉(fk CX P w K mg base N qual scope f cd A outer s H E).ex:=fun b z=>absurd (show b∈([]:List Addr) from z) (by simp)
 refine⟨⟨e0.mod,S.kind,rfl,rfl,Nat.le_refl _,fun y z c h1 h2=>?_,fun y hy=>?_,fun y c _ h=>?_,fun _=>hd,Around.frames_deeper e0.frames,.inr ⟨rfl,rfl⟩,fun b z=>absurd z (noA b),e0.bs,e0.xQ,fun b _ _=>noA b,fun b z=>absurd z (noA b),e0.h8,e0.C8,e0.tabs⟩,
  rfl,e0.bare,Un.kept hk,⟨_,x.toInCall.ns,fun i y v h1 h2 h3=>?_⟩,fun y c h=>⟨_,x.cell y c h⟩,e0.aS.fresh (Nat.le_refl _),fun y c h=>?_,fun p hp=>absurd (show p∈([]:List (Addr×Obj)) from hp) (by simp),e0.aS.kept hk,?_⟩
 ·exact name_of_addr x.apart (PySem.mem_of_lookup h1) (PySem.mem_of_lookup h2)
 ·have hy:scope.names.lookup y=some .cell\/scope.names.lookup y=some .free:=hy;rcases hy with hy | hy
  ·exact m7 hy
  ·exact absurd rfl (S.BP _ (PySem.mem_of_lookup hy))
 ·exact Nat.le_of_lt (x.above y c (PySem.mem_of_lookup h))
 ·have hi:i < vs.length:=by
   unfold start at h2;by_cases hi:i < vs.length
   ·exact hi
   ·rw[List.getElem?_append_right (by simpa using hi)] at h2
    rw[List.getElem?_replicate] at h2
    split at h2<;>cases h2
  have ha:vs[i]?=some v:=by
   unfold start at h2;rw[List.getElem?_append_left (by simpa using hi),List.getElem?_map] at h2
   cases e:vs[i]? with
   | none=>rw[e] at h2;cases h2
   | some a=>rw[e] at h2;cases h2;rfl
  obtain⟨u,hu,rv⟩:=r.get ha;have hp:ps[i]?=some y:=by
   rw[<- S.pre,List.getElem?_take_of_lt (by lia)];exact h1
  have ndP:ps.Nodup:=by rw[<- S.pre];exact S.nd.sublist (List.take_sublist _ _)
  refine⟨u,rv,?_⟩;rcases S.par y (List.mem_of_getElem? hp) with k | k
  ·exact .inl ⟨k,jF ndP hp hu k⟩
  ·obtain⟨c,e⟩:=m7 (n:=s.heap.objs.size+1) k;refine .inr ⟨.inl k,c,e,?_⟩;have q:=x.cell y c e;rw[jz ndP hp hu (by show scope.names.lookup y≠_;rw[k];decide)] at q
   exact q
 ·exact e0.aS.fresh (Nat.le_of_lt (x.above y c (PySem.mem_of_lookup h)))
 ·unfold start;show _=N.length;rw[List.length_append,List.length_map,List.length_replicate];lia
theorem zt{CX:kZ}{P:Program}{w:World}{K:PySem.W.Frag}{mg:Str->Option Value}{base:Heap}{k:Nat}{f:Addr}{name qual:Str}{params:Arguments}{body:List Stmt}{scope:Scope}{dV kV doc pm cdv ct oc:Value}{an od:Option Addr}
  {osl:Array (Option Value)} {N ps:List Str} {sp:Sp} (lk:K.lookup f=some ⟨oc,od,.func (PySem.W.fnOf name qual params body scope dV kV doc pm an cdv ct),osl⟩) (hcd:PySem.W.codeIn K cdv qual=true) (S:ax N ps scope)
  (len:∀ vs H Q E,sp vs H Q E->vs.length=ps.length)
  (hbody:∀ (A:Around) (outer:List Env) (s:Shared) (H:Hp) (vs:List V) (Q:VK) (E:XK),bo k (A.deeper (envOfC qual scope s.heap.objs.size f cdv))->sp vs H Q E ->
   ∃ t,mS (fk CX P w K mg base N qual scope f cdv A outer s H E) body t/\t { nx:=fun _ H'=>Q .aI H',rt:=Q } (start N vs) H) :
  dg P w K mg base CX (k+1) f (PySem.W.fnOf name qual params body scope dV kV doc pm an cdv ct) ps sp:=by
 refine⟨len,fun A outer s H args us vs Q E hr e0 hb r hsp=>?_⟩;have hl:=len _ _ _ _ hsp;have KX:K.In s.heap:=e0.mod.xW.keeps fun b o e=>(e0.bs b o e).1;have lim:s.heap.NoLimit:=e0.mod.nolimit.keeps fun b o e=>(e0.bs b o e).1;have hkind:∀ y∈ps.zip us,scope.names.lookup y.1=some .local\/(scope.names.lookup y.1=some .cell/\((cellsFrom (s.heap.objs.size+1) scope.names []).lookup y.1).isSome=true):=fun⟨n,v⟩ hy=>by
  rcases S.par n (List.of_mem_zip hy).1 with q | q
  ·exact .inl q
  ·exact .inr ⟨q,PySem.W.cellsFrom_some _ _ _ (.inl q)⟩
 refine codeAny_call_function hr.depth (KX _ _ lk) rfl S.co S.gen rfl (PySem.W.codeRec_of KX hcd) (hb _ _ _ _ ?_);refine wpAny_newFunctionEnv_cells S.kind hkind fun env he s1 x=>?_;subst he;refine⟨lim.keeps x.toInCall.keep,codeAny_func ?_⟩;obtain⟨t,ht,hq⟩:=hbody A outer s H vs Q E (hr.deeper _) hsp;have I:Inv (fk CX P w K mg base N qual scope f cdv A outer s H E) [] (start N vs) H s1:=qK S hr.hd e0 hl r x;refine wpAny_mono (ht [] s1 (start N vs) H _ I hq) (fun fl s' hs=>?_) fun e s' hs=>hs;have fin:∀ {σ':St} {H':Hp} {v:V} {u:Value},Inv (fk CX P w K mg base N qual scope f cdv A outer s H E) [] σ' H' s'->RelV v u->Q v H'->CE outer P w H s Q u s':=
  fun {σ' H' v u} J rv q=>⟨v,H',J.os,J.bare,J.base,J.aS,rv,q⟩
 cases fl with
 | ret u =>
  obtain⟨v,σ',H',J,rv,q⟩:=hs;exact fin J rv q
 | next =>
  obtain⟨σ',H',J,q⟩:=hs;exact fin (v:=V.aI) (u:=Value.none) J rfl q
 | brk =>
  obtain⟨_,_,_,q⟩:=hs;exact False.elim q
 | cont =>
  obtain⟨_,_,_,q⟩:=hs;exact False.elim q
section
variable {X:Cx} {x:Str} {p pos:Pos} {e:Expr} {es:List Expr} {t:TA} {id T:String} {r:List V->Hp->VK->Prop}
def zr(r:List V->Hp->VK->Prop)(t:TA):TE:=fun σ H Q=>t σ H fun vs H1=>r vs H1 Q
theorem vI(hc:aL X (.builtin id) r)(hg:Gl X x)(hm:X.mg x=none)(hv:bootBuiltins x=some (.builtin id))(ha:PA X (e::es) t)(hn:x≠"__name__":=by decide)(hdb:(x ==("__debug__":Str))=false:=by decide)
  (he:starEach (e::es) X.env=(false,eval e X.env)::starEach es X.env:=by rfl) (hpl:(backTo pos (starEach es X.env)).any (·.1)=false:=by rfl):PE X (.Call (.Name x p) (e::es) [] pos) (zr r t):=by
 intro pins s σ H Q I h;refine wpAny_Call_Name_kw (eN I hg hm hv ?_ hn hdb);exact PyProof.Rows.callWith_builtin1 (bJ (ha pos pins s σ H _ I h) fun us s1 ⟨vs,H1,I1,r1,q1⟩=>hc pins s1 σ H1 vs us Q I1 r1 q1) he hpl
theorem r9(hc:aL X (.type T) r)(hg:Gl X x)(hm:X.mg x=none)(hv:bootBuiltins x=some (.type T))(ha:PA X (e::es) t)(hn:x≠"__name__":=by decide)(hdb:(x ==("__debug__":Str))=false:=by decide)
  (he:starEach (e::es) X.env=(false,eval e X.env)::starEach es X.env:=by rfl) (hpl:(backTo pos (starEach es X.env)).any (·.1)=false:=by rfl):PE X (.Call (.Name x p) (e::es) [] pos) (zr r t):=by
 intro pins s σ H Q I h;refine wpAny_Call_Name_kw (eN I hg hm hv ?_ hn hdb);exact PyProof.Rows.callWith_type1 (bJ (ha pos pins s σ H _ I h) fun us s1 ⟨vs,H1,I1,r1,q1⟩=>hc pins s1 σ H1 vs us Q I1 r1 q1) he hpl
end
end L2
namespace HT
open PySem PyProof.Rows
section
open PySem.SeqAt
open PySem.AutoSeq1 (wpAny_loadPart')
open PySem.MeetsSeq PySem.MeetsSeq2 PySem.MeetsSeq3
end
section
variable {prog:Program} {w:World} {A:Around} {E:Value->Shared->Prop} {s:Shared}
theorem yO{t b:Addr}{vs ws:List Value}{Q:Value->Shared->Prop}(ht:IsTup s.heap t vs.toArray)(hb:IsTup s.heap b ws.toArray)(hv:vs≠[])
  (h1:ws=[]->Q (.ref t) s) (h2:ws≠[]->Q (.ref s.heap.objs.size) { s with heap:=s.heap.push { cls:=.type "tuple",data:=.seq (vs++ws).toArray } })
  (hsz:vs.length+ws.length<=sizeLine):wpAny (model prog w) A (binaryOp .Add (.ref t) (.ref b)) Q E s:=by
 obtain⟨⟨cls,dd,data,sl⟩,ho,hc,n,hd⟩:=id ht;obtain⟨⟨cls2,dd2,data2,sl2⟩,ho2,hc2,n2,hd2⟩:=id hb;simp only at hc hd hc2 hd2;subst hc hd hc2 hd2;have e:vs.toArray++ws.toArray=(vs++ws).toArray:=by simp
 by_cases hw:ws=[]
 ·exact concat_meets ⟨_,ho,rfl⟩ ⟨_,ho2,rfl⟩ noFill_tuple_add seq_tuple_add PySem.F.slot_tuple_add PySem.F.entry_tuple_add (PySem.F.args_tuple_add_2 _ _)
   (tuple_addW1 t b vs.toArray ws.toArray n n2 dd dd2 sl sl2 (by simpa using hv) (by simp[hw])) ⟨ho,ho2,h1 hw⟩
 ·refine concat_meets ⟨_,ho,rfl⟩ ⟨_,ho2,rfl⟩ noFill_tuple_add seq_tuple_add PySem.F.slot_tuple_add PySem.F.entry_tuple_add (PySem.F.args_tuple_add_2 _ _)
   (tuple_addW2 t b vs.toArray ws.toArray n n2 dd dd2 sl sl2 (by simpa using hv) (by simpa using hw) (by rw[List.size_toArray,List.size_toArray];exact hsz)) ⟨ho,ho2,?_⟩
  rw[e];exact h2 hw
def bq(n d:Nat):Option Int->Nat
 | none=>d
 | some v=>if v < 0 then (v+(n:Int)).toNat else min v.toNat n
theorem cH(n d:Nat):bq n d none=d:=rfl
theorem d8(n d k:Nat):bq n d (some (k:Int))=min k n:=by
 show (if (k:Int) < 0 then ((k:Int)+(n:Int)).toNat else min (k:Int).toNat n)=min k n
 rw[if_neg (by lia),Int.toNat_natCast]
theorem nA(n d:Nat)(hd:d<=n)(o:Option Int):bq n d o<=n:=by
 cases o with
 | none=>exact hd
 | some v =>
  show (if v < 0 then (v+(n:Int)).toNat else min v.toNat n)<=n
  by_cases hv:v < 0
  ·rw[if_pos hv];lia
  ·rw[if_neg hv];exact Nat.min_le_right _ _
theorem ph(v:Int)(n d:Nat):(if v < 0 then max (v+(n:Int)) 0 else min v (n:Int))=((bq n d (some v):Nat):Int):=by
 show (if v < 0 then max (v+(n:Int)) 0 else min v (n:Int))=(((if v < 0 then (v+(n:Int)).toNat else min v.toNat n):Nat):Int)
 by_cases hv:v < 0
 ·simp only[if_pos hv];lia
 ·simp only[if_neg hv];lia
theorem ot(lo hi:Option Int)(n:Nat):Builtin.Slice.sliceAdjust lo hi 1 (n:Int)=(((bq n 0 lo:Nat):Int),((bq n n hi:Nat):Int)):=by
 have h1:¬ ((1:Int) < 0):=by lia
 unfold Builtin.Slice.sliceAdjust;simp only[h1,if_false];refine Prod.ext ?_ ?_
 ·cases lo with
  | none=>rfl
  | some v=>exact ph v n 0
 ·cases hi with
  | none=>rfl
  | some v=>exact ph v n n
theorem nV(i j:Nat):Builtin.Slice.slicePlaces (i:Int) (j:Int) 1=j - i:=by
 unfold Builtin.Slice.slicePlaces;have h1:(1:Int) > 0:=by lia
 simp only[h1,if_true,Int.ediv_one]
 split<;>lia
theorem gW{v:Value}{o:Option Int}{Q:Option Int->Shared->Prop}(p:IsPart v o)(h:Q o s):wpAny (model prog w) A (Builtin.Slice.slicePartIndex v) Q E s:=by
 cases p with
 | none=>exact slicePart_none h
 | int i t=>exact slicePart_int h
theorem dm{sl:Addr}{vl vu:Value}{lo hi:Option Int}{n:Nat}{Q:Int×Int×Nat->Shared->Prop}(hs:s.heap.IsSliceOf sl vl vu .none)(pl:IsPart vl lo)(pu:IsPart vu hi)
  (h:Q (((bq n 0 lo:Nat):Int),1,bq n n hi - bq n 0 lo) s):wpAny (model prog w) A (Builtin.Slice.sliceApplied (.ref sl) (pure (n:Int))) Q E s:=by
 obtain⟨os,hos,hcs,hds⟩:=id hs;unfold Builtin.Slice.sliceApplied Builtin.Slice.sliceFields;refine wpAny_bind (wpAny_bind (wpAny_field hos hds (x:=vl) rfl (wpAny_bind (wpAny_field hos hds (x:=vu) rfl (wpAny_bind (wpAny_field hos hds (x:=.none) rfl (wpAny_pure ?_)))))));refine wpAny_bind (slicePart_none ?_);show wpAny _ _ (if ((1:Int) == 0)=true then _ else _) _ _ s
 rw[if_neg (by decide)]
 refine wpAny_bind (gW pl (wpAny_bind (gW pu (wpAny_bind (wpAny_pure ?_)))));show wpAny _ _ (match Builtin.Slice.sliceAdjust lo hi 1 (n:Int) with | (lo,hi)=>pure (lo,(1:Int),Builtin.Slice.slicePlaces lo hi 1)) _ _ s
 rw[ot lo hi n];show wpAny _ _ (pure (((bq n 0 lo:Nat):Int),(1:Int),Builtin.Slice.slicePlaces ((bq n 0 lo:Nat):Int) ((bq n n hi:Nat):Int) 1)) _ _ s;rw[nV];exact wpAny_pure h
theorem sX(xs:Array Value)(i k:Nat):((List.range k).filterMap fun (m:Nat)=>xs[((i:Int)+(m:Int)*1).toNat]?).toArray=((xs.toList.drop i).take k).toArray:=by
 have e:(fun (m:Nat)=>xs[((i:Int)+(m:Int)*1).toNat]?)=fun m=>xs[i+m]?:=by
  funext m
  have:((i:Int)+(m:Int)*1).toNat=i+m:=by lia
  rw[this]
 rw[e];have:=pick_run xs i k;rw[List.filterMap_map] at this;have e2:((fun x=>xs[x]?) ∘ fun x=>i+x)=fun m=>xs[i+m]?:=rfl;rw[e2] at this;rw[this]
theorem fj{t sl:Addr}{items:Array Value}{vl vu:Value}{lo hi:Option Int}{Q:Value->Shared->Prop}(ht:IsTup s.heap t items)(hs:s.heap.IsSliceOf sl vl vu .none)(pl:IsPart vl lo)(pu:IsPart vu hi)
  (hw:¬ (bq items.size 0 lo=0/\bq items.size items.size hi=items.size))
  (h:Q (.ref s.heap.objs.size) { s with heap:=s.heap.push { cls:=.type "tuple",data:=.seq ((items.toList.drop (bq items.size 0 lo)).take (bq items.size items.size hi - bq items.size 0 lo)).toArray } })
  (hsz:items.size<=sizeLine):wpAny (model prog w) A (getItem (.ref t) (.ref sl)) Q E s:=by
 have htake:sizeOk (.seq ((items.toList.drop (bq items.size 0 lo)).take (bq items.size items.size hi - bq items.size 0 lo)).toArray):=by
  show ((items.toList.drop (bq items.size 0 lo)).take (bq items.size items.size hi - bq items.size 0 lo)).toArray.size<=sizeLine;rw[List.size_toArray,List.length_take,List.length_drop,Array.length_toList];exact Nat.le_trans (Nat.min_le_right _ _) (Nat.le_trans (Nat.sub_le _ _) hsz)
 have hj:bq items.size items.size hi<=items.size:=nA _ _ (Nat.le_refl _) hi;obtain⟨os,hos,hcs,hds⟩:=id hs;have hTs:s.TypeIs (.ref sl) "slice":=⟨os,hos,hcs⟩;unfold getItem
 try with_reducible refine wpAny_holding ?_
 first | refine wpAny_bind (wpAny_pure ?_) | skip
 refine wpAny_bind (wpAny_sequenceKey ht.typeIs (by decide) ?_)
 refine wpAny_bind (wpAny_callSpecial?_slot (name:=Str.ofString "__getitem__") ht.typeIs PyProof.Rows.slot_tuple_getitem
  (wpAny_call_entry PyProof.Rows.slot_tuple_getitem ht.typeIs entry_tuple_getitem ?_ (args_tuple_getitem _ _)))
 show wpAny _ _ (Builtin.Tuple.tupleItemsOf (.ref t) >>= _) _ _ s;refine wpAny_bind (tupleItemsOf_ ht ?_);refine wpAny_bind (wpAny_typeOf hTs ?_);rw[if_pos (by decide)]
 refine wpAny_bind (dm hs pl pu ?_);have hno:¬ ((((bq items.size 0 lo:Nat):Int) == 0 && (1:Int) == 1 && (bq items.size items.size hi - bq items.size 0 lo) == items.size)=true):=by
  intro q;rw[Bool.and_eq_true,Bool.and_eq_true] at q;have q1:((bq items.size 0 lo:Nat):Int)=0:=eq_of_beq q.1.1;have q2:bq items.size items.size hi - bq items.size 0 lo=items.size:=eq_of_beq q.2;exact hw ⟨by lia,by lia⟩
 show wpAny _ _ (if (((bq items.size 0 lo:Nat):Int) == 0 && (1:Int) == 1 && (bq items.size items.size hi - bq items.size 0 lo) == items.size)=true then _ else _) _ _ s
 rw[if_neg hno,sX]
 first
  | exact wpAny_bind (m:=Builtin.Tuple.tupleExact _) (wpAny_newObj_type (wpAny_pure ⟨_,rfl,wpAny_pure h⟩) htake)
  | exact wpAny_bind (m:=Builtin.Tuple.tupleExact _) (wpAny_newObj_type (wpAny_bind (wpAny_pure (wpAny_pure ⟨_,rfl,wpAny_pure h⟩))) htake)
  | exact wpAny_bind (wpAny_bind (m:=Builtin.Tuple.tupleExact _) (wpAny_newObj_type (wpAny_pure (wpAny_pure ⟨_,rfl,wpAny_pure h⟩)) htake))
  | exact wpAny_bind (wpAny_bind (m:=Builtin.Tuple.tupleExact _) (wpAny_newObj_type (wpAny_pure ⟨_,rfl,wpAny_pure h⟩) htake))
end
end HT
namespace L2
open PySem PySem.Spec PyProof.Rows
noncomputable abbrev TO:=St->Hp->(Option Int->Hp->Prop)->Prop
def PO(X:Cx)(e:Option Expr)(t:TO):Prop:=
 ∀ (pins:List (Addr×Obj)) (s:Shared) (σ:St) (H:Hp) (Q:Option Int->Hp->Prop),Inv X pins σ H s->t σ H Q ->
  wpAny (model X.prog X.w) X.A (evalPart e X.env) (fun u s'=>∃ o H',Inv X pins σ H' s'/\IsPart u o/\Q o H') X.xe s
def o_:TO:=fun _ H Q=>Q none H
def zP(t:TE):TO:=fun σ H Q=>t σ H fun x H1=>∃ i,x=.int i/\Q (some i) H1
theorem intsAre_of{ns:List Int}:∀ {us:List Value},Vals (ns.map V.int) us->IntsAre us ns:=by
 induction ns with
 | nil=>intro us r;rw[List.map_nil] at r;cases r;exact .nil
 | cons n ns ih =>
  intro us r;rw[List.map_cons] at r
  cases r with
  | cons r1 r2 =>
   obtain⟨t,e⟩:=r1;subst e;exact .cons n t (ih r2)
section
variable {X:Cx} {e:Expr} {te:TE} {lo hi:Option Expr} {tl th:TO} {pos p2:Pos}
theorem pF:PO X none o_:=by
 intro pins s σ H Q I h;rw[evalPart_none];exact wpAny_pure ⟨none,H,I,.none,h⟩
theorem kP(h:PE X e te):PO X (some e) (zP te):=by
 intro pins s σ H Q I hw;rw[evalPart_some];refine bJ (h pins s σ H _ I hw) fun u s1 ⟨x,H1,I1,r1,q1⟩=>?_;obtain⟨i,rfl,q⟩:=q1;obtain⟨t,rfl⟩:=r1;exact⟨some i,H1,I1,.int i t,q⟩
def sD(X:Cx)(r:V->Option Int->Option Int->Hp->VK->Prop):Prop:=
 ∀ (pins:List (Addr×Obj)) (s:Shared) (σ:St) (H:Hp) (x:V) (v vl vu:Value) (lo hi:Option Int) (sl:Addr) (Q:VK),Inv X pins σ H s->RelV x v->s.heap.IsSliceOf sl vl vu .none->IsPart vl lo->IsPart vu hi->r x lo hi H Q ->
  ∃ T id,typeLookup (.type T) "__getitem__"=pure (some (.builtin id))/\s.TypeIs v T/\wpAny (model X.prog X.w) X.A (getItem v (.ref sl)) (EP X pins σ Q) X.xe s
theorem sD.or{r r':V->Option Int->Option Int->Hp->VK->Prop}(h:sD X r)(h':sD X r'):sD X (fun x lo hi H Q=>r x lo hi H Q\/r' x lo hi H Q):=by
 intro pins s σ H x v vl vu lo hi sl Q I rx hs pl pu q;rcases q with q | q
 ·exact h pins s σ H x v vl vu lo hi sl Q I rx hs pl pu q
 ·exact h' pins s σ H x v vl vu lo hi sl Q I rx hs pl pu q
def GS(r:V->Option Int->Option Int->Hp->VK->Prop)(te:TE)(tl th:TO):TE:=fun σ H Q=>te σ H fun x H1=>tl σ H1 fun l H2=>th σ H2 fun u H3=>r x l u H3 Q
theorem t5{r:V->Option Int->Option Int->Hp->VK->Prop}(hr:sD X r)(he:PE X e te)(hl:PO X lo tl)(hu:PO X hi th):PE X (.Subscript e (.Slice lo hi none p2) pos) (GS r te tl th):=by
 intro pins s σ H Q I h;refine Subscript_ (bJ (he pins s σ H _ I h) fun v s1 ⟨x,H1,I1,r1,q1⟩=>?_);refine wpAny_Slice (bJ (hl pins s1 σ H1 _ I1 q1) fun vl s2 ⟨l,H2,I2,pl,q2⟩=>bJ (hu pins s2 σ H2 _ I2 q2) fun vu s3 ⟨u,H3,I3,pu,q3⟩=>?_);rw[evalPart_none];refine wpAny_pure ?_;have I4:Inv X pins σ H3 { s3 with heap:=s3.heap.push { cls:=.type "slice",data:=.fields #[vl,vu,.none] } }:=I3.kept (t':=s3.toks) fun b ob q=>Heap.get?_push_of_some _ q
 obtain⟨T,id,hT,ht,hg⟩:=hr pins { s3 with heap:=s3.heap.push { cls:=.type "slice",data:=.fields #[vl,vu,.none] } } σ H3 x v vl vu l u s3.heap.objs.size Q I4 r1 (Heap.IsSliceOf.new ..) pl pu q3
 show wpAny (model X.prog X.w) X.A (subscriptTail e (.Slice lo hi none p2) v (.ref s3.heap.objs.size)) (EP X pins σ Q) X.xe { s3 with heap:=s3.heap.push { cls:=.type "slice",data:=.fields #[vl,vu,.none] } }
 exact tail_any (ops:=[.ref s3.heap.objs.size,v]) ht hT hg (by with_unfolding_all rfl)
def kM(xs:List V)(lo hi:Option Int):List V:=(xs.drop (HT.bq xs.length 0 lo)).take (HT.bq xs.length xs.length hi - HT.bq xs.length 0 lo)
theorem gj(xs:List V)(lo hi:Option Int):(kM xs lo hi).length<=xs.length:=by
 unfold kM;rw[List.length_take,List.length_drop];exact Nat.le_trans (Nat.min_le_right _ _) (Nat.sub_le _ _)
def y4(K:PySem.W.Frag):V->Option Int->Option Int->Hp->VK->Prop:=fun x lo hi H Q=>∃ a xs,x=.ref a/\b6 K H a xs /\
 ¬ (HT.bq xs.length 0 lo=0/\HT.bq xs.length xs.length hi=xs.length)/\∀ p,H p=none->Q (.ref p) (upd H p (.tup (kM xs lo hi)))
theorem Aq:sD X (y4 X.K):=by
 intro pins s σ H x v vl vu lo hi sl Q I rx hs pl pu h;obtain⟨a,xs,rfl,hx,hw,q⟩:=h;cases rx;obtain⟨its,r,ht,hz⟩:=I.tuple hx;have hlen:its.toArray.size=xs.length:=by rw[List.size_toArray];exact r.length.symm
 refine⟨"tuple",_,PyProof.Rows.slot_tuple_getitem.lookup,ht.typeIs,?_⟩;refine HT.fj ht hs pl pu (by rw[hlen];exact hw) ?_ (by rw[hlen];exact hz)
 rw[hlen];refine⟨.ref s.heap.objs.size,_,I.laid (t':=s.toks) (o:=.tup (kM xs lo hi)) (fun b ob q=>Heap.get?_push_of_some _ q) (Nat.le_refl _) ?_,rfl,q _ (I.aS.fresh (Nat.le_refl _))⟩;exact⟨Nat.le_trans (gj xs lo hi) hz,_,(r.drop (HT.bq xs.length 0 lo)).take (HT.bq xs.length xs.length hi - HT.bq xs.length 0 lo),cP.new _ _⟩
def Dk(K:PySem.W.Frag):R2:=fun x y H Q=>∃ a b xs ys,x=.ref a/\y=.ref b/\b6 K H a xs/\b6 K H b ys/\xs≠[]/\xs.length+ys.length<=sizeLine /\
 (ys=[]->Q (.ref a) H)/\(ys≠[]->∀ p,H p=none->Q (.ref p) (upd H p (.tup (xs++ys))))
theorem Vals.kA{xs:List V}{us:List Value}(r:Vals xs us):us=[] ↔ xs=[]:=by
 cases r with
 | nil=>simp
 | cons _ _=>simp
theorem xR:cO X (binaryOp .Add) (Dk X.K):=by
 intro pins s σ H x y v u Q I rx ry h;obtain⟨a,b,xs,ys,rfl,rfl,ha,hb,hx,hz,q1,q2⟩:=h;cases rx;cases ry;obtain⟨its,r1,p1,_⟩:=I.tuple ha;obtain⟨its2,r2,p2,_⟩:=I.tuple hb;refine HT.yO p1 p2 (fun z=>hx (r1.kA.mp z)) (fun z=>⟨.ref a,H,I,rfl,q1 (r2.kA.mp z)⟩) (fun z=>?_) (by rw[<- r1.length,<- r2.length];exact hz)
 refine⟨.ref s.heap.objs.size,_,I.laid (t':=s.toks) (o:=.tup (xs++ys)) (fun b ob q=>Heap.get?_push_of_some _ q) (Nat.le_refl _) ?_,rfl,q2 (fun w=>z (r2.kA.mpr w)) _ (I.aS.fresh (Nat.le_refl _))⟩;exact⟨by rw[List.length_append];exact hz,_,r1.append r2,cP.new _ _⟩
end
def k_(n:Nat)(i:Int):Option Nat:=if 0<=i then (if i < n then some i.toNat else none) else if -(n:Int)<=i then some (i+n).toNat else none
def bV{α:Type}(xs:List α)(i:Int):Option α:=(k_ xs.length i).bind fun j=>xs[j]?
theorem pC{n:Nat}{i:Int}{j:Nat}(h:k_ n i=some j):seqIndex? i n=some j/\j < n/\-(n:Int)<=i/\i < n:=by
 unfold k_ at h;by_cases h0:0<=i
 ·rw[if_pos h0] at h;by_cases h1:i < n
  ·rw[if_pos h1] at h;have e:i.toNat=j:=Option.some.inj h;exact⟨by rw[seqIndex_of h0 h1,e],by lia,by lia,h1⟩
  ·rw[if_neg h1] at h;cases h
 ·rw[if_neg h0] at h;by_cases h1:-(n:Int)<=i
  ·rw[if_pos h1] at h;have e:(i+n).toNat=j:=Option.some.inj h;exact⟨by rw[seqIndex_neg (by lia) h1,e],by lia,h1,by lia⟩
  ·rw[if_neg h1] at h;cases h
theorem jT{α:Type}{xs:List α}{i:Int}{v:α}(h:bV xs i=some v):∃ j,seqIndex? i xs.length=some j/\xs[j]?=some v/\j < xs.length/\-(xs.length:Int)<=i/\i < xs.length:=by
 unfold bV at h
 cases e:k_ xs.length i with
 | none=>rw[e] at h;cases h
 | some j =>
  rw[e] at h;obtain⟨h1,h2,h3,h4⟩:=pC e;exact⟨j,h1,h,h2,h3,h4⟩
theorem bT{α:Type}{xs:List α}{j:Nat}{v:α}(h:xs[j]?=some v):bV xs (j:Int)=some v:=by
 have hj:j < xs.length:=(List.getElem?_eq_some_iff.mp h).1;have e:k_ xs.length (j:Int)=some j:=by
  unfold k_;rw[if_pos (by lia),if_pos (by lia)];simp
 unfold bV;rw[e];exact h
def pd(b:Expr):Prop:=∀ o i,subscripted b false o i=operate [o,i] (getItem o i)
def sA(X:Cx)(r:R2):Prop:=
 ∀ (value slice:Expr) (pins:List (Addr×Obj)) (s:Shared) (σ:St) (H:Hp) (x y:V) (v u:Value) (Q:VK),Inv X pins σ H s->RelV x v->RelV y u->r x y H Q ->
  subscripted slice false v u=operate [v,u] (getItem v u)->wpAny (model X.prog X.w) X.A (subscriptTail value slice v u) (EP X pins σ Q) X.xe s
def oR(X:Cx)(id:String)(r:V->List V->Hp->VK->Prop):Prop:=
 ∀ (pins:List (Addr×Obj)) (s:Shared) (σ:St) (H:Hp) (x:V) (xs:List V) (v:Value) (us:List Value) (Q:VK),Inv X pins σ H s->RelV x v->Vals xs us->r x xs H Q ->
  wpAny (model X.prog X.w) X.A (call (.builtin id) (v::us)) (EP X pins σ Q) X.xe s
section
variable {X:Cx} {a b:Expr} {ta tb:TE} {pos:Pos}
theorem sA.or{r r':R2}(h:sA X r)(h':sA X r'):sA X (fun x y H Q=>r x y H Q\/r' x y H Q):=by
 intro value slice pins s σ H x y v u Q I rx ry q hs;rcases q with q | q
 ·exact h value slice pins s σ H x y v u Q I rx ry q hs
 ·exact h' value slice pins s σ H x y v u Q I rx ry q hs
theorem uu{r:R2}(hr:sA X r)(ha:PE X a ta)(hb:PE X b tb)(hs:pd b):PE X (.Subscript a b pos) (x4 r ta tb):=by
 intro pins s σ H Q I h;exact Subscript_ (Ae ha hb I h fun v u s2 x y H2 I2 rx ry q=>hr a b pins s2 σ H2 x y v u Q I2 rx ry q (hs _ _))
def Ee(K:PySem.W.Frag):R2:=fun x y H Q=>∃ p xs i v,x=.ref p/\y=.int i/\bB K H p xs/\bV xs i=some v/\Q v H
def Dw(K:PySem.W.Frag):R2:=fun x y H Q=>∃ p xs i v,x=.ref p/\y=.int i/\b6 K H p xs/\bV xs i=some v/\Q v H
def CV:R2:=fun x y H Q=>∃ z i c,x=.str z/\y=.int i/\z.length<=sizeLine/\bV z.cps.toList i=some c/\Q (.str ⟨#[c]⟩) H
theorem w_:sA X (Ee X.K):=by
 intro value slice pins s σ H x y v u Q I rx ry h hs;obtain⟨p,xs,i,z,rfl,rfl,hq,he,q⟩:=h;cases rx;obtain⟨t,rfl⟩:=ry;obtain⟨its,r,pl,hz⟩:=I.list hq;obtain⟨j,h1,h2,h3,h4,h5⟩:=jT he;obtain⟨w,ew,rw'⟩:=r.get h2;have hl:=r.length;have hn:=eI;have fin:EP X pins σ Q w s:=⟨z,H,I,rw',q⟩;by_cases h0:0<=i
 ·have hj:i.toNat=j:=by
   rw[seqIndex_of h0 h5] at h1;exact Option.some.inj h1
  exact item_listR pl.isList h0 (by lia) (by rw[hj];simpa using ew) fin hs
 ·have hj:(i+(its.toArray.size:Int)).toNat=j:=by
   rw[seqIndex_neg (by lia) h4] at h1
   rw[List.size_toArray,<- hl];exact Option.some.inj h1
  exact subscriptTail_builtinR (x:=w) pl.isList.typeIs slot_list_getitem.lookup
   (wpAny_getItem_list_neg (Q:=fun r s'=>r=w/\EP X pins σ Q r s') pl.isList (by lia) (by rw[List.size_toArray]<;>lia) (by lia) (by rw[hj];simpa using ew) ⟨rfl,fin⟩) hs
theorem m_:sA X (Dw X.K):=by
 intro value slice pins s σ H x y v u Q I rx ry h hs;obtain⟨p,xs,i,z,rfl,rfl,hq,he,q⟩:=h;cases rx;obtain⟨t,rfl⟩:=ry;obtain⟨its,r,pl,hz⟩:=I.tuple hq;obtain⟨j,h1,h2,h3,h4,h5⟩:=jT he;obtain⟨w,ew,rw'⟩:=r.get h2;have hl:=r.length;have hn:=eI;have fin:EP X pins σ Q w s:=⟨z,H,I,rw',q⟩;exact subscriptTail_builtinR (x:=w) pl.typeIs slot_tuple_getitem.lookup
  (getItem_tuple (j:=j) (Q:=fun r s'=>r=w/\EP X pins σ Q r s') pl (by lia) (by lia) (by rw[List.size_toArray,<- hl];exact h1) (by simpa using ew) ⟨rfl,fin⟩) hs
theorem AM:sA X CV:=by
 intro value slice pins s σ H x y v u Q I rx ry h hs;obtain⟨z,i,c,rfl,rfl,hz,he,q⟩:=h;obtain⟨t,rfl⟩:=rx;obtain⟨t',rfl⟩:=ry;obtain⟨j,h1,h2,h3,h4,h5⟩:=jT he;have hl:z.cps.toList.length=z.length:=by simp[Str.length]
 rw[hl] at h1 h4 h5;have hn:=eI;exact tail_any (typeIs_str s z t) slot_str_getitem.lookup (getItem_str (c:=c) (by
  have e1:decide (i < -(2 ^ 63:Int))=false:=decide_eq_false (by lia)
  have e2:decide (i >= 2 ^ 63)=false:=decide_eq_false (by lia)
  rw[e1,e2,Bool.or_false]) (by rw[h1];simpa using h2) ⟨.str ⟨#[c]⟩,H,I.tok _,⟨_,rfl⟩,q⟩) hs
def Fc(K:PySem.W.Frag):R2:=fun x y H Q=>Ee K x y H Q\/Dw K x y H Q\/CV x y H Q
theorem Cc:sA X (Fc X.K):=w_.or (m_.or AM)
theorem nY(its:List Value)(n j:Nat)(u:Value):Obj.mapSeq (·.setIfInBounds j u) { cls:=.type "list",data:=.seq its.toArray n }={ cls:=.type "list",data:=.seq (its.set j u).toArray n }:=by
 simp[Obj.mapSeq]
theorem Inv.lst{pins:List (Addr×Obj)}{σ:St}{H:Hp}{s:Shared}{p:Addr}{xs:List V}(I:Inv X pins σ H s)(h:H p=some (.lst xs)):
  ∃ (its:List Value) (n:Nat),Vals xs its/\s.heap.get? p=some { cls:=.type "list",data:=.seq its.toArray n }/\xs.length<=sizeLine:=by
 obtain⟨z,its,n,r,e⟩:=I.aS p _ h;exact⟨its,n,r,e,z⟩
theorem Inv.Cr{pins:List (Addr×Obj)}{σ:St}{H:Hp}{s:Shared}{p:Addr}{xs ys:List V}{its its':List Value}{n n':Nat}{f:Obj->Obj}(I:Inv X pins σ H s)(h:H p=some (.lst xs))
  (ho:s.heap.get? p=some { cls:=.type "list",data:=.seq its.toArray n }) (hf:f { cls:=.type "list",data:=.seq its.toArray n }={ cls:=.type "list",data:=.seq its'.toArray n' }) (r:Vals ys its') (hz:ys.length<=sizeLine) (t:Nat) :
  Inv X pins σ (upd H p (.lst ys)) { s with heap:=s.heap.update p f,toks:=t }:=by
 have e:(s.heap.update p f).get? p=some { cls:=.type "list",data:=.seq its'.toArray n' }:=by
  rw[Heap.get?_update_self f ho (by rw[hf]<;>rfl),hf]
 refine I.write (x:=p) (e:=p) (by rw[h];trivial) (.inl rfl) (fun b u hb q=>(Heap.get?_update_other _ _ (Ne.symm hb)).trans q) ⟨_,e⟩ ?_
 exact⟨hz,its',n',r,e⟩
def Ea:V->V->V->Hp->(Hp->Prop)->Prop:=fun o i v H Q=>∃ p xs k j,o=.ref p/\i=.int k/\H p=some (.lst xs)/\k_ xs.length k=some j/\Q (upd H p (.lst (xs.set j v)))
theorem set_list:AA X Ea:=by
 intro pins s σ H o i v ov iv u Q I ro ri rv h;obtain⟨p,xs,k,j,rfl,rfl,hp,hj,q⟩:=h;cases ro;obtain⟨t,rfl⟩:=ri;obtain⟨its,n,r,ho,hz⟩:=I.lst hp;obtain⟨h1,h2,h3,h4⟩:=pC hj;have hl:=r.length;have hn:=eI;have I':Inv X pins σ (upd H p (.lst (xs.set j v))) { s with heap:=s.heap.update p (Obj.mapSeq (·.setIfInBounds j u)) }:=
  I.Cr hp ho (nY its n j u) (r.set rv j) (by rw[List.length_set];exact hz) s.toks
 by_cases h0:0<=k
 ·have hk:k.toNat=j:=by
   rw[seqIndex_of h0 h4] at h1;exact Option.some.inj h1
  exact PySem.W.ki_setAt ho h0 (by lia) (by rw[List.size_toArray,<- hl];exact h4) (by rw[hk];exact⟨_,I',q⟩)
 ·have hk:(k+(its.toArray.size:Int)).toNat=j:=by
   rw[seqIndex_neg (by lia) h3] at h1
   rw[List.size_toArray,<- hl];exact Option.some.inj h1
  exact PySem.W.ki_setBack ho (by lia) (by rw[List.size_toArray,<- hl];exact h3) (by lia) (by rw[hk];exact⟨_,I',q⟩)
theorem jX(lo hi:Option Int)(n:Nat):(sliceBounds lo hi none n).1=((HT.bq n 0 lo:Nat):Int)/\(sliceBounds lo hi none n).2.1=((HT.bq n n hi:Nat):Int)/\(sliceBounds lo hi none n).2.2=1:=by
 refine⟨?_,?_,rfl⟩
 ·cases lo with
  | none=>simp[sliceBounds,HT.bq]
  | some i =>
   simp only[sliceBounds,HT.bq,Option.getD_none,show (1:Int) > 0 by decide,if_true]
   by_cases h:i < 0
   ·simp only[h,if_true]<;>lia
   ·simp only[h,if_false]<;>lia
 ·cases hi with
  | none=>simp[sliceBounds,HT.bq]
  | some i =>
   simp only[sliceBounds,HT.bq,Option.getD_none,show (1:Int) > 0 by decide,if_true]
   by_cases h:i < 0
   ·simp only[h,if_true]<;>lia
   ·simp only[h,if_false]<;>lia
theorem jg(its:List Value)(lo hi:Option Int):slicePick its.toArray lo hi none=((its.drop (HT.bq its.length 0 lo)).take (HT.bq its.length its.length hi - HT.bq its.length 0 lo)).toArray:=by
 obtain⟨h1,h2,h3⟩:=jX lo hi its.toArray.size;unfold slicePick;rw[h1,h2,h3];simp only[sliceRange_one,pick_run,List.size_toArray]<;>rfl
def DM(K:PySem.W.Frag):V->Option Int->Option Int->Hp->VK->Prop:=fun x lo hi H Q=>∃ a xs,x=.ref a/\bB K H a xs/\∀ p,H p=none->Q (.ref p) (upd H p (.lst (kM xs lo hi)))
theorem xl:sD X (DM X.K):=by
 intro pins s σ H x v vl vu lo hi sl Q I rx hs pl pu h;obtain⟨a,xs,rfl,hx,q⟩:=h;cases rx;obtain⟨its,r,ht,hz⟩:=I.list hx;have hlen:=r.length;refine⟨"list",_,slot_list_getitem.lookup,ht.isList.typeIs,?_⟩;refine wpAny_getItem_list_slice ht.isList hs pl pu .none (by simp) ?_ (by rw[List.size_toArray]<;>lia)
 rw[jg,<- hlen];refine⟨.ref s.heap.objs.size,_,I.laid (t':=s.toks) (o:=.lst (kM xs lo hi)) (fun b ob q=>Heap.get?_push_of_some _ q) (Nat.le_refl _) ?_,rfl,q _ (I.aS.fresh (Nat.le_refl _))⟩;exact⟨Nat.le_trans (gj xs lo hi) hz,_,0,(r.drop (HT.bq xs.length 0 lo)).take (HT.bq xs.length xs.length hi - HT.bq xs.length 0 lo),Heap.get?_push_size _ rfl⟩
def iE:V->Bool
 | .aI=>true
 | .bl _=>true
 | .int _=>true
 | .str _=>true
 | _=>false
def Cy:V->V->Bool
 | .aI,.aI=>true
 | .bl a,.bl b=>a == b
 | .bl a,.int b=>(if a then 1 else 0) == b
 | .int a,.bl b=>a ==(if b then 1 else 0)
 | .int a,.int b=>a == b
 | .str a,.str b=>a == b
 | _,_=>false
theorem nv{A:Around}{s:Shared}{y x:V}{u v:Value}(ry:RelV y u)(rx:RelV x v)(fy:iE y=true)(fx:iE x=true):SeqAt.EqAt A s u v (Cy y x):=by
 cases y with
 | aI =>
  cases ry
  cases x with
  | aI=>cases rx;exact SeqAt.EqAt.same _
  | bl b=>cases rx;exact SeqAt.EqAt.none_bool b
  | int b=>obtain⟨t,rfl⟩:=rx;exact SeqAt.EqAt.none_int b t
  | str b=>obtain⟨t,rfl⟩:=rx;exact SeqAt.EqAt.none_str b t
  | _=>exact absurd (show false=true from fx) Bool.false_ne_true
 | bl a =>
  cases ry
  cases x with
  | aI=>cases rx;exact SeqAt.EqAt.bool_none a
  | bl b=>cases rx;exact SeqAt.EqAt.bool_bool a b
  | int b=>obtain⟨t,rfl⟩:=rx;exact SeqAt.EqAt.bool_int a b t
  | str b=>obtain⟨t,rfl⟩:=rx;exact SeqAt.EqAt.bool_str a b t
  | _=>exact absurd (show false=true from fx) Bool.false_ne_true
 | int a =>
  obtain⟨t',rfl⟩:=ry
  cases x with
  | aI=>cases rx;exact SeqAt.EqAt.int_none a t'
  | bl b=>cases rx;exact SeqAt.EqAt.int_bool a t' b
  | int b=>obtain⟨t,rfl⟩:=rx;exact SeqAt.EqAt.int_int a t' b t
  | str b=>obtain⟨t,rfl⟩:=rx;exact SeqAt.EqAt.int_str a t' b t
  | _=>exact absurd (show false=true from fx) Bool.false_ne_true
 | str a =>
  obtain⟨t',rfl⟩:=ry
  cases x with
  | aI=>cases rx;exact SeqAt.EqAt.str_none a t'
  | bl b=>cases rx;exact SeqAt.EqAt.str_bool a t' b
  | int b=>obtain⟨t,rfl⟩:=rx;exact SeqAt.EqAt.str_int a t' b t
  | str b=>obtain⟨t,rfl⟩:=rx;exact SeqAt.EqAt.str_str a t' b t
  | _=>exact absurd (show false=true from fx) Bool.false_ne_true
 | _=>exact absurd (show false=true from fy) Bool.false_ne_true
theorem kG:aL X (.builtin "len") (fun xs H Q=>∃ p ys,xs=[.ref p]/\(bB X.K H p ys\/b6 X.K H p ys)/\Q (.int ys.length) H):=by
 intro pins s σ H xs us Q I r h;obtain⟨p,ys,rfl,hq,q⟩:=h;obtain⟨u,rfl,rx⟩:=vals1 r;cases rx;have hn:=eI;rcases hq with hq | hq
 ·obtain⟨its,r',pl,hz⟩:=I.list hq;have hlen:=r'.length;exact Calls.call_len_list pl.isList (by simp only[List.size_toArray]<;>lia) ⟨.int ys.length,H,I.tok _,⟨s.toks+1,by rw[List.size_toArray,hlen]⟩,q⟩
 ·obtain⟨its,r',pl,hz⟩:=I.tuple hq;have hlen:=r'.length;exact len_tuple pl (by simp only[List.size_toArray]<;>lia) ⟨.int ys.length,H,I.tok _,⟨s.toks+1,by rw[List.size_toArray,hlen]⟩,q⟩
theorem kB:aL X (.builtin "len") (fun xs H Q=>∃ z,xs=[.str z]/\z.length<=sizeLine/\Q (.int z.length) H):=by
 intro pins s σ H xs us Q I r h;obtain⟨z,rfl,hz,q⟩:=h;obtain⟨u,rfl,t,rfl⟩:=vals1 r;have hn:=eI;exact len_str (by lia) ⟨.int z.length,H,I.tok _,⟨_,rfl⟩,q⟩
theorem aL.or{f:Value}{r r':List V->Hp->VK->Prop}(h:aL X f r)(h':aL X f r'):aL X f (fun xs H Q=>r xs H Q\/r' xs H Q):=by
 intro pins s σ H xs us Q I rs q;rcases q with q | q
 ·exact h pins s σ H xs us Q I rs q
 ·exact h' pins s σ H xs us Q I rs q
theorem kg:aL X (.type "list") (fun xs H Q=>∃ p ys,xs=[.ref p]/\(bB X.K H p ys\/b6 X.K H p ys)/\∀ l,H l=none->Q (.ref l) (upd H l (.lst ys))):=by
 intro pins s σ H xs us Q I r h;obtain⟨p,ys,rfl,hq,q⟩:=h;obtain⟨u,rfl,rx⟩:=vals1 r;cases rx;have fin:∀ (its:List Value),Vals ys its->ys.length<=sizeLine->∀ (h':Heap) (c':Nat),(∀ b o',s.heap.get? b=some o'->h'.get? b=some o') ->
   h'.get? s.heap.objs.size=some { cls:=.type "list",dict:=none,data:=.seq its.toArray c',slots:=#[] }->EP X pins σ Q (.ref s.heap.objs.size) { s with heap:=h' }:=fun its r' hz h' c' kp e =>
  ⟨.ref s.heap.objs.size,_,I.laid (t':=s.toks) kp (Nat.le_refl _) (show b7 X.prog X.w _ h' _ (.lst ys) from⟨hz,its,c',r',e⟩),rfl,q _ (I.aS.fresh (Nat.le_refl _))⟩
 rcases hq with hq | hq
 ·obtain⟨its,r',pl,hz⟩:=I.list hq;have hlen:=r'.length;obtain⟨o,ho,hc,n,hd⟩:=pl.isList;exact call_list_seq p (.inl rfl) ho hc hd (fun h' c' kp e=>fin its r' hz h' c' kp e) (by simp only[List.size_toArray]<;>lia)
 ·obtain⟨its,r',pl,hz⟩:=I.tuple hq;have hlen:=r'.length;obtain⟨o,ho,hc,n,hd⟩:=pl;exact call_list_seq p (.inr rfl) ho hc hd (fun h' c' kp e=>fin its r' hz h' c' kp e) (by simp only[List.size_toArray]<;>lia)
theorem jf:aL X (.type "tuple") (fun xs H Q=>∃ p ys,xs=[.ref p]/\((bB X.K H p ys/\∀ l,H l=none->Q (.ref l) (upd H l (.tup ys)))\/(b6 X.K H p ys/\Q (.ref p) H))):=by
 intro pins s σ H xs us Q I r h;obtain⟨p,ys,rfl,h⟩:=h;obtain⟨u,rfl,rx⟩:=vals1 r;cases rx;rcases h with ⟨hq,q⟩ | ⟨hq,q⟩
 ·obtain⟨its,r',pl,hz⟩:=I.list hq;have hlen:=r'.length;refine call_tuple_list pl.isList (fun h' kp=>?_) (by simp only[List.size_toArray]<;>lia)
  have I1:Inv X pins σ H { s with heap:=h' }:=I.kept (t':=s.toks) kp
  have I2:Inv X pins σ (upd H h'.objs.size (.tup ys)) { s with heap:=h'.push { cls:=.type "tuple",data:=.seq its.toArray } }:=
   I1.laid (t':=s.toks) (fun b o e=>Heap.get?_push_of_some _ e) (Nat.le_refl _) (show b7 X.prog X.w _ _ _ (.tup ys) from⟨hz,its,r',cP.new _ _⟩)
  exact⟨.ref h'.objs.size,_,I2,rfl,q _ (I1.aS.fresh (Nat.le_refl _))⟩
 ·obtain⟨its,r',pl,hz⟩:=I.tuple hq;exact call_tuple_same pl ⟨.ref p,H,I,rfl,q⟩
def FQ(K:PySem.W.Frag)(T:String)(x:V)(H:Hp):Prop:=match x with
 | .str _=>T="str"
 | .int _=>T="int"
 | .ref p=>(T="list"/\∃ xs,bB K H p xs)\/(T="tuple"/\∃ o,K.lookup p=some o/\o.cls=.type "tuple"/\o.dict=none) \/
   (T="dict"/\((∃ kvs,H p=some (.dK kvs))\/∃ kvs,H p=some (.dT kvs)))\/(T="set"/\∃ S n,H p=some (.set S n))
 | _=>False
theorem wm{pins:List (Addr×Obj)}{σ:St}{H:Hp}{s:Shared}{T:String}{x:V}{v:Value}(I:Inv X pins σ H s)(r:RelV x v)(ty:FQ X.K T x H):
  s.TypeIs v T/\∀ a,v=.ref a->∃ ob,s.heap.get? a=some ob/\ob.dict=none:=by
 cases x with
 | str z =>
  obtain⟨t,rfl⟩:=r
  cases (show T="str" from ty)
  exact⟨typeIs_str s z t,fun _ e=>nomatch e⟩
 | int i =>
  obtain⟨t,rfl⟩:=r
  cases (show T="int" from ty)
  exact⟨typeIs_int s i t,fun _ e=>nomatch e⟩
 | ref p =>
  cases r;rcases ty with ⟨rfl,xs,hq⟩ | ⟨rfl,o,hk,hc,hd⟩ | ⟨rfl,hk⟩ | ⟨rfl,S,n,hk⟩
  ·obtain⟨its,_,pl,_⟩:=I.list hq;refine⟨pl.isList.typeIs,fun a e=>?_⟩;cases e;obtain⟨o,n,e,c,hd,_⟩:=pl;exact⟨o,e,hd⟩
  ·refine⟨⟨o,I.oK p o hk,hc⟩,fun a e=>?_⟩;cases e;exact⟨o,I.oK _ o hk,hd⟩
  ·have z:∃ o,s.heap.get? p=some o/\o.ExactDict:=by
    rcases hk with ⟨kvs,hk⟩ | ⟨kvs,hk⟩
    ·obtain⟨_,_,_,_,o,_,_,e,ex,_⟩:=I.aS p _ hk;exact⟨o,e,ex⟩
    ·obtain⟨_,_,_,_,o,_,_,e,ex,_⟩:=I.aS p _ hk;exact⟨o,e,ex⟩
   obtain⟨o,e,ex⟩:=z;refine⟨⟨o,e,ex.1⟩,fun a e2=>?_⟩;cases e2;exact⟨o,e,ex.2.1⟩
  ·obtain⟨o,_,_,_,e,ex,_⟩:=I.aS p _ hk;refine⟨⟨o,e,ex.1⟩,fun a e2=>?_⟩;cases e2;exact⟨o,e,ex.2.1⟩
 | _=>exact False.elim ty
def Gw(K:PySem.W.Frag)(T:String)(r:V->List V->Hp->VK->Prop)(to:TE):TE:=fun σ H Q=>to σ H fun x H1=>FQ K T x H1/\r x [] H1 Q
def G7(K:PySem.W.Frag)(T:String)(r:V->List V->Hp->VK->Prop)(to:TE)(t:TA):TE:=fun σ H Q=>to σ H fun x H1=>FQ K T x H1/\t σ H1 fun xs H2=>r x xs H2 Q
variable {o e:Expr} {es:List Expr} {to:TE} {t:TA} {name:Str} {apos cpos:Pos} {T id:String} {r:V->List V->Hp->VK->Prop}
theorem A2(pa:PlainAttrs T)(slot:Slot T name id)(hty:typeOf (.builtin id)=pure (.type "method_descriptor"))(hm:oR X id r)(ho:PE X o to)
  (hbase:attributeBase o name X.env (eval o X.env)=eval o X.env:=by rfl) (hline:(apos.endLine == cpos.line)=true:=by rfl):PE X (.Call (.Attribute o name apos) [] [] cpos) (Gw X.K T r to):=by
 intro pins s σ H Q I h;refine wpAny_Call_method0_late hbase hline (bJ (ho pins s σ H _ I h) fun v s1 ⟨x,H1,I1,r1,ty,q1⟩=>?_);obtain⟨h1,h2⟩:=wm I1 r1 ty;exact⟨T,id,pa,slot,hty,h1,h2,Calls.callWith_builtin rfl (PySem.evalArgs_none (hm pins s1 σ H1 x [] v [] Q I1 r1 .nil q1))⟩
theorem E7(pa:PlainAttrs T)(slot:Slot T name id)(hty:typeOf (.builtin id)=pure (.type "method_descriptor"))(hm:oR X id r)(ho:PE X o to)(ha:PA X (e::es) t)
  (hbase:attributeBase o name X.env (eval o X.env)=eval o X.env:=by rfl)
  (hfew:((backTo cpos (starEach (e::es) X.env)).all (fun x=>!x.1) && (backToKw cpos (keywordEach [] X.env)).all (fun x=>x.1.isSome)
   && decide ((e::es).length+([]:List Keyword).length+(if ([]:List Keyword).isEmpty then 0 else 1) < 30))=true:=by rfl)
  (hline:(apos.endLine == cpos.line)=true:=by rfl) (hs:starEach (e::es) X.env=(false,eval e X.env)::starEach es X.env:=by rfl) (hplain:(backTo cpos (starEach es X.env)).any (·.1)=false:=by rfl) :
  PE X (.Call (.Attribute o name apos) (e::es) [] cpos) (G7 X.K T r to t):=by
 intro pins s σ H Q I h;refine wpAny_Call_method_late hbase hfew hline rfl (bJ (ho pins s σ H _ I h) fun v s1 ⟨x,H1,I1,r1,ty,q1⟩=>?_);obtain⟨h1,h2⟩:=wm I1 r1 ty;refine⟨T,id,pa,slot,hty,h1,h2,?_⟩;have hA:=ha cpos pins s1 σ H1 _ I1 q1;rw[hs] at hA ⊢;refine Calls.callWith_builtin (by show (false || (backTo cpos (starEach es X.env)).any (·.1))=false;rw[hplain]<;>rfl) (Calls.evalArgs_plain ?_)
 exact bJ hA fun us s2 ⟨vs,H2,I2,r2,q2⟩=>hm pins s2 σ H2 x vs v us Q I2 r1 r2 q2
/- xs.append(e),list.index on a module's tuple .. are oR facts of 06m -/
end
def E_(X:Cx)(id:String)(r:V->List V->Hp->VK->Prop):Prop:=
 ∀ (pins:List (Addr×Obj)) (s:Shared) (σ:St) (H:Hp) (x:V) (xs:List V) (v:Value) (us:List Value) (Q:VK),Inv X pins σ H s->RelV x v->Vals xs us->r x xs H Q ->
  wpAny (model X.prog X.w) X.A (call (.builtin id) (v::us)) (EP X pins σ Q) X.xe s
theorem Vals.one:∀ {x:V} {us:List Value},Vals [x] us->∃ u,us=[u]/\RelV x u
 | _,_,.cons r .nil=>⟨_,rfl,r⟩
theorem Vals.eraseIdx:∀ {xs:List V} {us:List Value} (i:Nat),Vals xs us->Vals (xs.eraseIdx i) (us.eraseIdx i)
 | _,_,_,.nil=>.nil
 | _,_,0,.cons _ t=>t
 | _,_,i+1,.cons r t=>.cons r (Vals.eraseIdx i t)
theorem Vals.rep{xs:List V}{us:List Value}(h:Vals xs us):∀ k:Nat,Vals (List.replicate k xs).flatten (List.replicate k us).flatten
 | 0=>.nil
 | k+1=>by
  rw[List.replicate_succ,List.replicate_succ,List.flatten_cons,List.flatten_cons];exact Vals.append h (Vals.rep h k)
theorem jv{α:Type}:∀ (l:List α) (i:Nat),(l.eraseIdx i).length<=l.length
 | [],_=>Nat.le_refl _
 | _::_,0=>Nat.le_succ _
 | _::r,i+1=>Nat.succ_le_succ (jv r i)
theorem foldl_rep(its:List Value):∀ (k:Nat) (acc:List Value),
  List.foldl (fun x1 x2=>x1++x2) acc.toArray (List.replicate k its.toArray)=(acc++(List.replicate k its).flatten).toArray
 | 0,acc=>by simp
 | k+1,acc=>by
  have e:acc.toArray++its.toArray=(acc++its).toArray:=by simp
  have e2:(acc++its)++(List.replicate k its).flatten=acc++(List.replicate (k+1) its).flatten:=by
   rw[List.replicate_succ,List.flatten_cons,List.append_assoc]
  rw[<- e2,<- foldl_rep its k (acc++its),<- e,List.replicate_succ,List.foldl_cons]
section
variable {X:Cx} {pins:List (Addr×Obj)} {σ:St} {H:Hp} {s:Shared} {l b:Addr} {xs ys zs:List V}
theorem Inv.Bu{its its':List Value}{n:Nat}{f:Array Value->Array Value}{t':Nat}(I:Inv X pins σ H s)(hH:H l=some (.lst xs))
  (e:s.heap.get? l=some { cls:=.type "list",data:=.seq its.toArray n }) (hf:f its.toArray=its'.toArray) (hv:Vals ys its') (hz:ys.length<=sizeLine) :
  Inv X pins σ (upd H l (.lst ys)) { s with heap:=s.heap.update l (Obj.mapSeq f),toks:=t' }:=by
 have q:=PySem.IsL.update e f;rw[hf] at q;refine I.write (x:=l) (e:=l) (by rw[hH];exact trivial) (.inl rfl) (fun b' u hb hu=>(Heap.get?_update_other s.heap (Obj.mapSeq f) (Ne.symm hb)).trans hu) ⟨_,q⟩ ?_
 exact⟨hz,its',_,hv,q⟩
theorem Inv.Ax{its:List Value}{t':Nat}(I:Inv X pins σ H s)(hv:Vals ys its)(hz:ys.length<=sizeLine):
  Inv X pins σ (upd H s.heap.objs.size (.lst ys)) { s with heap:=s.heap.push { cls:=.type "list",data:=.seq its.toArray },toks:=t' }:=
 I.laid (fun _ _ q=>Heap.get?_push_of_some _ q) (Nat.le_refl _) ⟨hz,its,0,hv,Heap.get?_push_size _ rfl⟩
theorem Inv.fresh(I:Inv X pins σ H s):H s.heap.objs.size=none:=I.aS.fresh (Nat.le_refl _)
theorem Inv.mM(I:Inv X pins σ H s)(hH:H l=some (.lst xs)):xs.length<=sizeLine/\∃ (its:List Value) (n:Nat),Vals xs its/\xs.length=its.length/\s.heap.get? l=some { cls:=.type "list",data:=.seq its.toArray n }:=by
 obtain⟨z,its,n,r,e⟩:=I.aS l _ hH;exact⟨z,its,n,r,r.length,e⟩
theorem wj{n:Nat}(h:n<=sizeLine):Builtin.List.listTooLong n=false:=by
 unfold Builtin.List.listTooLong;exact decide_eq_false (by lia)
end
section
variable {X:Cx}
def qF:V->List V->Hp->VK->Prop:=fun x vs H Q=>∃ l xs y,x=.ref l/\vs=[y]/\H l=some (.lst xs)/\xs.length < sizeLine/\Q .aI (upd H l (.lst (xs++[y])))
theorem fM:E_ X "list.append" qF:=by
 intro pins s σ H x vs v us Q I rx rv h;obtain⟨l,xs,y,rfl,rfl,hH,hz,q⟩:=h;cases rx;obtain⟨u,rfl,ru⟩:=rv.one;obtain⟨z,its,n,r,hl,e⟩:=I.mM hH;refine call_meets F.slot_list_append ⟨_,e,rfl⟩ F.entry_list_append (F.args_list_append_2 _ _) (PySem.list_append l its.toArray n u (by rw[List.size_toArray];lia)) ⟨e,?_⟩
 refine⟨.aI,_,I.Bu (its':=its++[u]) hH e (by simp) (r.append (.cons ru .nil)) ?_,rfl,q⟩
 rw[List.length_append,List.length_singleton];lia
def sU:V->List V->Hp->VK->Prop:=fun x vs H Q=>∃ l xs i k y,x=.ref l/\vs=[.int i]/\H l=some (.lst xs)/\-(2 ^ 63)<=i/\i < 2 ^ 63/\seqIndex? i xs.length=some k/\xs[k]?=some y/\Q y (upd H l (.lst (xs.eraseIdx k)))
theorem m4:E_ X "list.pop" sU:=by
 intro pins s σ H x vs v us Q I rx rv h;obtain⟨l,xs,i,k,y,rfl,rfl,hH,h1,h2,hk,hy,q⟩:=h;cases rx;obtain⟨u,rfl,ru⟩:=rv.one;obtain⟨t,rfl⟩:=ru;obtain⟨z,its,n,r,hl,e⟩:=I.mM hH;obtain⟨w,hw,rw'⟩:=r.get hy;refine call_meets F.slot_list_pop ⟨_,e,rfl⟩ F.entry_list_pop (F.args_list_pop_2 _ _)
  (MeetsSeq.list_pop_at l its.toArray n i t k w (fitsIndex_both h1 h2) (by rw[List.size_toArray,<- hl];exact hk) (by rw[<- Array.getElem?_toList];exact hw) (by rw[List.size_toArray];lia)) ⟨e,?_⟩
 refine⟨y,_,I.Bu (its':=its.eraseIdx k) hH e ?_ (r.eraseIdx k) ?_,rw',q⟩
 ·show its.toArray.eraseIdxIfInBounds k=(its.eraseIdx k).toArray;rw[List.eraseIdxIfInBounds_toArray]
 ·have:=jv xs k;lia
def E9:R2:=fun x y H Q=>∃ l b xs zs,x=.ref l/\y=.ref b/\H l=some (.lst xs)/\H b=some (.lst zs)/\xs.length+zs.length<=sizeLine/\∀ p,H p=none->Q (.ref p) (upd H p (.lst (xs++zs)))
theorem Bk:cO X (binaryOp .Add) E9:=by
 intro pins s σ H x y v u Q I rx ry h;obtain⟨l,b,xs,zs,rfl,rfl,hH,hB,hz,q⟩:=h;cases rx;cases ry;obtain⟨z,its,n,r,hl,e⟩:=I.mM hH;obtain⟨z2,its2,n2,r2,hl2,e2⟩:=I.mM hB;refine PySem.P.add_list e e2 ?_ (by rw[List.size_toArray,List.size_toArray];lia)
 have ea:its.toArray++its2.toArray=(its++its2).toArray:=by simp
 rw[ea];exact⟨.ref _,_,I.Ax (t':=s.toks) (r.append r2) (by rw[List.length_append];lia),rfl,q _ I.fresh⟩
def DA:R2:=fun x y H Q=>∃ l k xs,x=.ref l/\y=.int k/\H l=some (.lst xs)/\-(2 ^ 63)<=k/\k < 2 ^ 63/\xs.length*k.toNat<=sizeLine /\
 ∀ p,H p=none->Q (.ref p) (upd H p (.lst (List.replicate k.toNat xs).flatten))
theorem len_rep{α:Type}(xs:List α)(k:Nat):(List.replicate k xs).flatten.length=k*xs.length:=by
 induction k with
 | zero=>simp
 | succ k ih=>rw[List.replicate_succ,List.flatten_cons,List.length_append,ih,Nat.succ_mul,Nat.add_comm]
theorem BK:cO X (binaryOp .Mult) DA:=by
 intro pins s σ H x y v u Q I rx ry h;obtain⟨l,k,xs,rfl,rfl,hH,h1,h2,hz,q⟩:=h;cases rx;obtain⟨t,rfl⟩:=ry;obtain⟨z,its,n,r,hl,e⟩:=I.mM hH;have hlen:its.toArray.size*k.toNat<=sizeLine:=by rw[List.size_toArray,<- hl];exact hz
 have hcap:¬ its.toArray.size*k.toNat >(2 ^ 63 - 1) / 8:=by
  have:(sizeLine:Nat)<=(2 ^ 63 - 1) / 8:=by decide
  lia
 have hfit:¬ (!Builtin.List.listFitsIndex k)=true:=by
  rw[fitsIndex_both h1 h2];exact Bool.false_ne_true
 have hlong:¬ Builtin.List.listTooLong (its.toArray.size*k.toNat)=true:=by
  rw[wj hlen];exact Bool.false_ne_true
 have hnew:List.foldl (fun x1 x2=>x1++x2) #[] (List.replicate (if its.toArray.isEmpty=true then 0 else k.toNat) its.toArray)=(List.replicate k.toNat its).flatten.toArray:=by
  have f0:∀ m:Nat,List.foldl (fun x1 x2=>x1++x2) #[] (List.replicate m its.toArray)=(List.replicate m its).flatten.toArray:=fun m=>by
   have:=foldl_rep its m [];rw[List.nil_append] at this;exact this
  rw[f0]
  cases its with
  | nil=>simp
  | cons a r'=>rw[if_neg (by simp)]
 refine wpAny_binaryOp_repeat_ref (T:="list") (U:="int") (by decide) ⟨_,e,rfl⟩ (fun s'=>typeIs_int s' k t) noFill_list_mul F.fills_int_mul F.slot_int_rmul repeat_list F.slot_int_index.lookup
  (call_meets F.slot_int_rmul (typeIs_int s k t) F.entry_int_rmul (F.args_int_rmul_2 _ _) (int___rmul___int_list k t l its.toArray n)
   ⟨e,rfl,⟨_,e,rfl⟩,call_meets F.slot_list_mul ⟨_,e,rfl⟩ F.entry_list_mul (F.args_list_mul_2 _ _) (AutoListH.list___mul___list_int_3 l its.toArray n k t hfit hcap hlong) ⟨e,?_⟩⟩)
 rw[hnew];exact⟨.ref _,_,I.Ax (t':=s.toks) (r.rep k.toNat) (by rw[len_rep,Nat.mul_comm];exact hz),rfl,q _ I.fresh⟩
end
section
variable {prog:Program} {w:World} {A:Around} {E:Value->Shared->Prop} {s:Shared}
end
section
variable {X:Cx}
end
section
variable {κ:Type} [DecidableEq κ]
end
section
variable {P:Program} {w:World} {H:Hp} {h:Heap} {a:Addr}
end
section
variable {X:Cx} {pins:List (Addr×Obj)} {σ:St} {H:Hp} {s:Shared} {a:Addr} {y v:V} {u r:Value} {o:Option V} {A:Around} {E:Value->Shared->Prop}
end
section
variable {X:Cx} {pins:List (Addr×Obj)} {σ:St} {H:Hp} {s:Shared} {a:Addr} {kvs:List (Key×V)} {k:Key} {u:Value} {A:Around} {E:Value->Shared->Prop}
end
section
variable {X:Cx} {o i e value:Expr} {pos pos' tpos:Pos} {td ty tv:TE}
end
section
variable {X:Cx} {pos:Pos}
end
section
variable {X:Cx} {pins:List (Addr×Obj)} {σ:St} {H:Hp} {s:Shared} {a:Addr} {y d:V} {u r:Value} {o:Option V} {A:Around} {E:Value->Shared->Prop}
end
section
variable {X:Cx} {o e f:Expr} {apos cpos:Pos} {td ty tx:TE}
end
section
variable {X:Cx} {pins:List (Addr×Obj)} {σ:St} {H:Hp} {s:Shared} {a:Addr} {kvs:List (Key×V)} {A:Around} {E:Value->Shared->Prop}
end
section
variable {X:Cx} {pins:List (Addr×Obj)} {σ:St} {H:Hp} {s:Shared} {a:Addr} {y:V} {u:Value} {A:Around} {E:Value->Shared->Prop}
end
end L2
namespace Att
open PySem PySem.W PySem.Calls PyProof.Rows
theorem gv{P:Params}{h:Heap}:∀ (ns:List Int) (vs:List Value),WellAll P h vs (ns.map WData.int)->IntsAre vs ns:=by
 intro ns
 induction ns with
 | nil =>
  intro vs w;rw[List.map_nil] at w;cases w;exact .nil
 | cons n ns ih =>
  intro vs w;rw[List.map_cons] at w
  cases w with
  | cons a b =>
   cases a;exact .cons _ _ (ih _ b)
theorem rP{l:OpenLaw}{n:Nat}(hn:l.most=some n){P:Params}{h:Heap}{args:List WData}{vals:List Value}
  (hpre:l.row.toRowW.claim.pre args=true) (hwl:WellAll P h vals args) :
  ∃ a vs ns,vals=[Value.ref a]/\args=[WData.list (ns.map WData.int)]/\h.get? a=some { cls:=.type "list",data:=.seq vs.toArray }/\IntsAre vs ns/\ns.length<=n:=by
 have hsh:WShape.hasAll [] args [.list .int]=true:=(pre_splitW hpre).1;have hc:l.pre.holds [] { args:=args }=true:=(pre_splitW hpre).2;obtain⟨d,r,rfl,h1,h2⟩:=hasAllW_cons hsh;obtain rfl:=hasAllW_nil h2;obtain⟨xs,rfl,h3⟩:=hasW_list h1;obtain⟨ns,rfl⟩:=items_int h3;have hlen:ns.length<=n:=by
  unfold OpenLaw.pre at hc;have h4:(WTm.not (.lt (.lit (.int (n:Int))) (.len (.arg 0)))).holds [] { args:=[.list (ns.map .int)] }=true:=by
   have h4:=(holds_andW hc).1;rw[hn] at h4;exact h4
  have h5:=condW_of h4 (w_not (w_lt w_lit (w_len_list (w_arg rfl))));rw[List.length_map] at h5;refine Nat.le_of_not_lt fun q=>?_;have q':(n:Int) < ((ns.length:Nat):Int):=by lia
  first
   | (rw[decide_eq_true q'] at h5;exact absurd h5 (by decide))
   | (simp at h5;lia)
 cases hwl with
 | cons w1 w2 =>
  cases w2
  cases w1 with
  | list ho hall=>exact⟨_,_,ns,rfl,rfl,ho,gv ns _ hall,hlen⟩
theorem qZ(l:OpenLaw)(args:List WData):l.row.toRowW.claim.post args (.bool true) args=true:=
 postW_of (r:=l.row.toRowW) (X:=(true == true))
  (show WShape.has [] (.bool true) .bool=true by first | rfl | decide | simp[WShape.has,WShape.arms,WShape.armsAll])
  (show (WTm.eq .res (.lit (.bool true))).value [] { args:=args,res:=some (.bool true),after:=args }=some (.bool (true == true)) from w_eq_bool (w_res rfl) w_lit) rfl
theorem m6{l:OpenLaw}{n:Nat}{q:Program}{loose:List Str}{XP:(Str->Option Value)->Heap->Prop}{YP:World->Heap->Prop}{d:DefRec}
  (hn:l.most=some n) (hdf:d.params.defaults=[])
  (call:∀ (w:World) (s₀ s₁:Shared) (mg mb:Str->Option Value) (fa:Addr) (o:Obj) (pm cd doc:Value) (a:Addr) (vs:List Value) (ns:List Int),
   Ground q loose [] XP w s₀ mg mb s₁.heap->YP w s₁.heap ->
   s₁.heap.get? fa=some o->o.data=.func (docDef d.name d.params d.body d.scope pm cd doc)->s₁.heap.CodeRec cd d.name->mg d.name=some (.ref fa) ->
   s₁.heap.get? a=some { cls:=.type "list",data:=.seq vs.toArray }->IntsAre vs ns->ns.length<=n->s₁.gens=#[] ->
   codeAny (model l.prog w) callerA (.call (.ref fa) ⟨[.ref a],[]⟩) (fun r s'=>r=.ok (.ret (.bool true))/\OldK s₁.heap s'.heap/\s'.os=s₁.os/\AllBare s'.gens) s₁) :
  WalkO q loose XP YP l.row.toRowW d [] (fun f vs=>PySem.call f vs):=by
 intro w s₀ s₁ mg mb G Y fa o pm cd doc dV kV ho hd hcd hD hmg hg args vals as hpre hlay hrd hwl hlo;obtain rfl:dV=.none:=Dflts.none hD hdf;obtain rfl:kV=.none:=Dflts.noKw hD;obtain⟨a,vs,ns,rfl,rfl,hobj,hints,hlen⟩:=rP hn hpre hwl;refine enter_call (codeAny_mono (call w s₀ s₁ mg mb fa o pm cd doc a vs ns G Y ho (fd_plain hd) hcd hmg hobj hints hlen hg) fun r s' hq=>?_);obtain⟨rfl,h2,h3,h4⟩:=hq;exact⟨.inl ⟨.bool true,.bool true,[],rfl,fun _=>rfl,.bool true,qZ l _,fun _=>⟨List.Pairwise.nil,fun _ hm=>(nomatch hm)⟩⟩,h2,h3,h4⟩
section
variable {prog:Program} {w:World} {A:Around} {E:Value->Shared->Prop} {s:Shared} {K:Frag}
end
end Att
namespace L2
open PySem PySem.Spec PyProof.Rows
theorem jD:∀ {vs:List Value} {ns:List Int},IntsAre vs ns->Vals (ns.map V.int) vs
 | _,_,.nil=>.nil
 | _,_,.cons n t h=>.cons ⟨t,rfl⟩ (jD h)
structure eZ (q:Program) (K:PySem.W.Frag):Prop where
 nt:PySem.W.noTabs K=true
 nd:((b8 K).map (·.2.1)).Nodup
 fd:∀ x∈cF,PySem.W.tabIn K x=none\/((recsOf q).find? (fun e=>e.name == x)).isSome=true
theorem eZ.at{q:Program}{K:PySem.W.Frag}{loose:List Str}{mean:ExcName->Option Value}{mg mb:Str->Option Value}{h:Heap}(L:eZ q K)(T:Top q loose mean mg mb h)(X:K.In h):∀ t∈b8 K,PySem.W.CodeHd h t.1 t.2.1/\h.get? t.2.1=some (PySem.W.tabObj #[]):=fun t ht=>by
 unfold b8 at ht;obtain⟨x,hx,e⟩:=List.mem_filterMap.mp ht;obtain⟨p,e1,e2⟩:=Option.map_eq_some_iff.mp e;obtain⟨c,Pt⟩:=p;subst e2;rcases L.fd x hx with z | z
 ·rw[z] at e1;cases e1
 ·obtain⟨d,hd⟩:=Option.isSome_iff_exists.mp z;exact PySem.W.tab_of T X hd e1
def kN:List (Addr×Addr×Str)->Addr->Option HO
 | [],_=>none
 | t::r,b=>if b=t.2.1 then some (.sy #[.str t.2.2 0]) else kN r b
theorem ef{b:Addr}{o:HO}:∀ {l:List (Addr×Addr×Str)},kN l b=some o->∃ t∈l,b=t.2.1/\o=.sy #[.str t.2.2 0]
 | t::r,e=>by
  unfold kN at e;by_cases z:b=t.2.1
  ·rw[if_pos z] at e;cases e;exact⟨t,.head _,z,rfl⟩
  ·rw[if_neg z] at e;obtain⟨u,hu,q⟩:=ef e;exact⟨u,.tail _ hu,q⟩
theorem mB{t:Addr×Addr×Str}:∀ {l:List (Addr×Addr×Str)},(l.map (·.2.1)).Nodup->t∈l->kN l t.2.1=some (.sy #[.str t.2.2 0])
 | u::r,nd,m=>by
  obtain⟨n1,n2⟩:=List.nodup_cons.mp nd;unfold kN;rcases List.mem_cons.mp m with rfl | m
  ·rw[if_pos rfl]
  ·rw[if_neg fun z=>n1 (List.mem_map.mpr ⟨t,m,z⟩)];exact mB n2 m
theorem tF{P q:Program}{w:World}{K:PySem.W.Frag}{mg mb:Str->Option Value}{CX:kZ}{k:Nat}{fa a:Addr}{fd:FuncData}{x:Str}{sp:Sp}{s₁:Shared}{vs:List Value}{ns:List Int}
  (KX:K.In s₁.heap) (hns:s₁.heap.Ns mainGlobals mg) (hb:s₁.heap.Ns builtinsNs mb) (hbb:∀ x:Str,x≠"__name__"->mb x=bootBuiltins x) (hlim:s₁.heap.NoLimit) (hbm:Ca mg s₁.heap)
  (hT:∀ t∈b8 K,PySem.W.CodeHd s₁.heap t.1 t.2.1/\s₁.heap.get? t.2.1=some (PySem.W.tabObj #[])) (L:eZ q K) (hg:s₁.gens=#[])
  (ha:s₁.heap.get? a=some { cls:=.type "list",data:=.seq vs.toArray }) (hi:IntsAre vs ns) (hl:ns.length<=sizeLine) (hr:bo k callerA)
  (F:∀ base:Heap,K.In base->base.Ns mainGlobals mg->dg P w K mg base CX k fa fd [x] sp) (hbind:∀ (s:Shared) (u:Value),BindsTo s fd ⟨[u],[]⟩ [(x,u)])
  (hsp:∀ H:Hp,True->bB K H a (ns.map V.int)->sp [.ref a] H (fun v _=>v=.bl true) fun _ _ _=>False)
  (hCX:∀ H e s',CX [] H s₁ (fun _ _ _=>False) e s'->False) :
  codeAny (model P w) callerA (.call (.ref fa) ⟨[.ref a],[]⟩) (fun r s'=>r=.ok (.ret (.bool true))/\OldK s₁.heap s'.heap/\s'.os=s₁.os/\AllBare s'.gens) s₁:=by
 have rv:=jD hi;have lenV:=hi.length;have naT:∀ t∈b8 K,t.2.1≠a:=fun t ht z=>by
  have e:=(hT t ht).2;rw[z,ha] at e;cases e
 let oS:Obj:={ cls:=.type "list",data:=.seq vs.toArray }
 have core:∀ S:Option HO,(S=none\/S=some (.gF oS (.lst (ns.map V.int))))->(S≠none->K.lookup a=none)->bB K (fun b=>if b=a then S else kN (b8 K) b) a (ns.map V.int) ->
   codeAny (model P w) callerA (.call (.ref fa) ⟨[.ref a],[]⟩) (fun r s'=>r=.ok (.ret (.bool true))/\OldK s₁.heap s'.heap/\s'.os=s₁.os/\AllBare s'.gens) s₁:=by
  intro S hS hK hSq;generalize hH:(fun b=>if b=a then S else kN (b8 K) b)=H at hSq
  have hA:H a=S:=by rw[<- hH];exact if_pos rfl
  have hB:∀ b,b≠a->H b=kN (b8 K) b:=fun b z=>by rw[<- hH];exact if_neg z
  have free:∀ {b:Addr} {o:Obj},s₁.heap.get? b=some o->o≠PySem.W.tabObj #[]->(b=a->S=none)->H b=none:=fun {b o} e hn hz=>by
   by_cases z:b=a
   ·rw[z,hA];exact hz z
   ·rw[hB b z]
    cases q:kN (b8 K) b with
    | none=>rfl
    | some u =>
     obtain⟨t,ht,e1,_⟩:=ef q;have e2:=(hT t ht).2;rw[<- e1,e] at e2;exact absurd (Option.some.inj e2) hn
  have nsK:∀ {b:Addr} {m:Str->Option Value},s₁.heap.Ns b m->(jh s₁.heap H).Ns b m:=fun {b m} ⟨o,es,ep,e,d,r⟩=>⟨o,es,ep,fv e (free e (fun z=>by rw[z] at d;cases d) fun z=>by rw[z,ha] at e;cases e;cases d),d,r⟩
  have hKb:K.In (jh s₁.heap H):=fun b o e=>fv (KX b o e) (free (KX b o e) (fun z=>by
    have h2:=List.all_eq_true.mp L.nt (b,o) (PySem.W.mem_of_lookupK e);subst z;exact absurd (show false=true from h2) Bool.false_ne_true) fun z=>by
    cases q:S with
    | none=>rfl
    | some u=>rw[z,hK (by rw[q];simp)] at e;cases e)
  have hcd:∀ t∈b8 K,PySem.W.CodeHd (jh s₁.heap H) t.1 t.2.1:=fun t ht=>by
   obtain⟨o,us,fl,tf,fg,tg,inF,tx,tt,e1,e2,r⟩:=(hT t ht).1;exact⟨o,us,fl,tf,fg,tg,inF,tx,tt,fv e1 (free e1 (fun z=>by rw[z] at e2;cases e2) fun z=>by rw[z,ha] at e1;cases e1;exact absurd (Value.type.inj e2) (by decide)),e2,r⟩
  have hbm':Ca mg (jh s₁.heap H):=by
   obtain⟨bm,ob,b1,b2,b3,b4,b5⟩:=hbm;exact⟨bm,ob,b1,b2,fv b3 (free b3 (fun z=>by rw[z] at b4;cases b4) fun z=>by rw[z,ha] at b3;cases b3;exact absurd (Value.type.inj b4) (by decide)),b4,b5⟩
  have aS:eE P w H s₁.heap:=fun b u e=>by
   by_cases z:b=a
   ·rw[z,hA] at e;rcases hS with h0 | h0
    ·rw[h0] at e;cases e
    ·rw[h0] at e;cases e;subst z;exact⟨ha,by rw[List.length_map];exact hl,vs,_,rv,ha⟩
   ·rw[hB b z] at e;obtain⟨t,ht,e1,e2⟩:=ef e;subst e2;exact⟨#[],by rw[e1];exact (hT t ht).2,trivial,fun pos cv c=>by cases (show (none:Option Value)=some cv from c)⟩
  have hM:Mod K mg (jh s₁.heap H):=⟨hKb,nsK hns,⟨mb,nsK hb,hbb⟩,let ⟨mc,h1,h2⟩:=hlim;⟨mc,nsK h1,h2⟩,hcd,hbm'⟩
  have e0:xx P w K mg (jh s₁.heap H) callerA [] s₁ H:=⟨rfl,hM,fun b o e=>yz e,Nat.le_of_eq (qR _ _),trivial,fun b hb=>absurd (show b∈([]:List Addr) from hb) (by simp),aS,.of_eq hg,fun t ht=>⟨#[],by
   rw[hB _ (naT t ht),mB L.nd ht,Array.append_empty]⟩⟩
  refine codeAny_mono ((F _ hKb (nsK hns)).run callerA [] s₁ H ⟨[.ref a],[]⟩ [.ref a] [.ref a] _ _ hr e0 (hbind s₁ (.ref a)) (.cons rfl .nil) (hsp H trivial hSq)) fun r s' h=>?_
  cases r with
  | error e=>exact (hCX H e s' h).elim
  | ok fl =>
   cases fl with
   | next=>exact False.elim h
   | brk=>exact False.elim h
   | cont=>exact False.elim h
   | ret u =>
    obtain⟨v,H',os,bare,un,hok',r',qv⟩:=h;have q':v=.bl true:=qv;subst q';obtain rfl:u=Value.bool true:=r';have each:∀ b o,s₁.heap.get? b=some o->s'.heap.get? b=some o\/∃ c,PySem.W.CodeHd s₁.heap c b/\o=PySem.W.tabObj #[]/\∃ ps,s'.heap.get? b=some (PySem.W.tabObj ps):=fun b o e=>by
     cases qb:H b with
     | none=>exact .inl (un.keep b o e qb (by intro z;exact absurd (show b∈([]:List Addr) from z) (by simp)) (by simp))
     | some u =>
      by_cases z:b=a
      ·rw[z,hA] at qb;rcases hS with h0 | h0
       ·rw[h0] at qb;cases qb
       ·have z2:=un.gX a oS _ (by rw[hA,h0])
        obtain⟨e2,_⟩:=hok' a _ z2;rw[z,ha] at e;cases e;exact .inl (by rw[z];exact e2)
      ·have qt:=qb;rw[hB b z] at qt;obtain⟨t,ht,e1,e2⟩:=ef qt;obtain⟨h1,h2⟩:=hT t ht;rw[<- e1] at h1 h2;rw[e] at h2;cases h2;subst e2;obtain⟨more,e3⟩:=un.gC b _ qb;obtain⟨qs,e4,_⟩:=hok' b _ e3;exact .inr ⟨_,h1,rfl,qs,e4⟩
    refine⟨rfl,⟨fun b o e=>?_,fun b o e=>?_⟩,os,bare⟩
    ·rcases each b o e with z | ⟨c,hc,z,ps,hp⟩
     ·exact .inl z
     ·subst z;exact .inr (.inl ⟨(hc.tab e).isCodeTable,rfl,#[],ps,rfl,by rw[Array.empty_append];exact hp⟩)
    ·rcases each b o e with z | ⟨c,hc,z,ps,hp⟩
     ·exact⟨o,z⟩
     ·exact⟨_,hp⟩
 cases hk:K.lookup a with
 | some o =>
  have e:=KX a o hk;rw[ha] at e;cases e;exact core none (.inl rfl) (fun z=>absurd rfl z) (.inr ⟨_,vs.toArray,_,hk,rfl,rfl,rfl,by rw[List.size_toArray,lenV];exact hl,by simpa using rv⟩)
 | none=>exact core (some (.gF oS (.lst (ns.map V.int)))) (.inr rfl) (fun _=>hk) (.inl (.inr ⟨oS,if_pos rfl⟩))
theorem y1{l:PySem.W.OpenLaw}{n k:Nat}{q:Program}{loose:List Str}{XP:(Str->Option Value)->Heap->Prop}{YP:World->Heap->Prop}{d:DefRec}{K:Params->PySem.W.Frag}{CX:World->kZ}{sp:World->Sp}{x:Str}
  (hn:l.most=some n) (hn2:n<=sizeLine) (hdf:d.params.defaults=[]) (hr:bo k callerA)
  (hY:∀ (w:World) (h:Heap),YP w h->(K w.params).In h)
  (F:∀ (w:World) (mg:Str->Option Value) (fa:Addr) (h:Heap),(K w.params).In h->h.Ns mainGlobals mg->mg d.name=some (.ref fa) ->
   ∃ fd:FuncData,(∀ (s:Shared) (u:Value),BindsTo s fd ⟨[u],[]⟩ [(x,u)]) /\
    ∀ base:Heap,(K w.params).In base->base.Ns mainGlobals mg->dg l.prog w (K w.params) mg base (CX w) k fa fd [x] (sp w))
  (hsp:∀ (w:World) (H:Hp) (a:Addr) (ns:List Int),ns.length<=n->True->bB (K w.params) H a (ns.map V.int)->sp w [.ref a] H (fun v _=>v=.bl true) fun _ _ _=>False)
  (hCX:∀ (w:World) (H:Hp) (s:Shared) (e:Value) (s':Shared),CX w [] H s (fun _ _ _=>False) e s'->False) (hL:∀ (w:World) (h:Heap),(K w.params).In h->eZ q (K w.params)) :
  PySem.W.WalkO q loose XP YP l.row.toRowW d [] (fun f vs=>PySem.call f vs):=by
 refine Att.m6 hn hdf fun w s₀ s₁ mg mb fa o pm cd doc a vs ns G Y ho hd hcd hmg hobj hints hlen hg=>?_;have KX:=hY w _ Y;obtain⟨fd,hb,hF⟩:=F w mg fa _ KX G.T.g hmg;have L:=hL w _ KX;exact tF KX G.T.g G.T.b G.T.builtins G.T.nolimit G.T.bmain (L.at G.T KX) L hg hobj hints (Nat.le_trans hlen hn2) hr hF hb (fun H hO hS=>hsp w H a ns hlen hO hS) fun H e s'=>hCX w H s₁ e s'
def aC(s:Stmt):Arguments:=match s with
 | .FunctionDef _ a _ _ _ _ _ _ _ _=>a
 | _=>{ posonlyargs:=[],args:=[],vararg:=none,kwonlyargs:=[],kw_defaults:=[],kwarg:=none,defaults:=[] }
def ao(s:Stmt):List Stmt:=match s with
 | .FunctionDef _ _ b _ _ _ _ _ _ _=>b
 | _=>[]
def aa(s:Stmt):Scope:=match s with
 | .FunctionDef _ _ _ _ _ _ sc _ _ _=>sc
 | _=>{ kind:=.function,names:=[],isGenerator:=false,isCoroutine:=false }
noncomputable abbrev cw:kZ:=fun _ _ _ _ _ _=>False
noncomputable abbrev E0:XK:=fun _ _ _=>False
theorem aU{X:Cx}:Passes cw X E0:=fun _ _ _ _ _ _ _ h=>h.elim
structure wV (K:PySem.W.Frag) (x qual:Str) (st:Stmt) (f:Addr) (fd:FuncData):Prop where
 ex:∃ (oc:Value) (od:Option Addr) (kV doc pm:Value) (an:Option Addr) (cdv ct:Value) (osl:Array (Option Value)),
  fd=PySem.W.fnOf x qual (aC st) (ao st) (aa st) .none kV doc pm an cdv ct/\K.lookup f=some ⟨oc,od,.func fd,osl⟩/\PySem.W.codeIn K cdv qual=true
 kp:PySem.W.keepIn K (.ref f)=true
section
variable {P:Program} {w:World} {K:PySem.W.Frag} {mg:Str->Option Value} {base:Heap}
theorem wV.ok{x qual:Str}{st:Stmt}{f:Addr}{fd:FuncData}{N ps:List Str}{k:Nat}{sp:Sp}(F:wV K x qual st f fd)(S:ax N ps (aa st))(len:∀ vs H Q E,sp vs H Q E->vs.length=ps.length)
  (hbody:∀ (cdv:Value) (A:Around) (outer:List Env) (s:Shared) (H:Hp) (vs:List V) (Q:VK) (E:XK),bo k (A.deeper (envOfC qual (aa st) s.heap.objs.size f cdv))->sp vs H Q E ->
   ∃ t,mS (fk cw P w K mg base N qual (aa st) f cdv A outer s H E).yD (ao st) t/\t { nx:=fun _ H'=>Q .aI H',rt:=Q } (start N vs) H):dg P w K mg base cw (k+1) f fd ps sp:=by
 obtain⟨oc,od,kV,doc,pm,an,cdv,ct,osl,rfl,lk,hcd⟩:=F.ex;refine zt lk hcd S len fun A outer s H vs Q E hr hsp=>?_;obtain⟨t,h,q⟩:=hbody cdv A outer s H vs Q E hr hsp;exact⟨t,h.yD,q⟩
theorem wV.binds{x qual:Str}{st:Stmt}{f:Addr}{fd:FuncData}{ps:List Str}(F:wV K x qual st f fd)
  (h:∀ (kV doc pm:Value) (an:Option Addr) (cdv ct:Value) (us:List Value),us.length=ps.length->bindArgs (PySem.W.fnOf x qual (aC st) (ao st) (aa st) .none kV doc pm an cdv ct) ⟨us,[]⟩=pure (ps.zip us)):Binds K fd ps []:=by
 obtain⟨oc,od,kV,doc,pm,an,cdv,ct,osl,rfl,lk,hcd⟩:=F.ex;exact .all (h kV doc pm an cdv ct)
theorem aw{x qual:Str}{st:Stmt}{f:Addr}{oc:Value}{od an:Option Addr}{osl:Array (Option Value)}{kV doc pm cdv ct:Value}(l:K.lookup f=some ⟨oc,od,.func (PySem.W.fnOf x qual (aC st) (ao st) (aa st) .none kV doc pm an cdv ct),osl⟩)
  (c:PySem.W.codeIn K cdv qual=true) (k:PySem.W.keepIn K (.ref f)=true):wV K x qual st f (PySem.W.fnOf x qual (aC st) (ao st) (aa st) .none kV doc pm an cdv ct):=⟨⟨oc,od,kV,doc,pm,an,cdv,ct,osl,rfl,l,c⟩,k⟩
end
theorem b_{A:Around}{k:Nat}(hr:bo k A):A.units+1 < cLine:=Nat.lt_of_le_of_lt (Nat.add_le_add_left (by decide:1<=64) _) hr.units
section
variable {X:Cx}
theorem pv(i:Nat){x:Str}{pos:Pos}(hN:X.N[i]?=some x:=by rfl)(hv:BY X.env.scope x:=by first | exact Or.inl rfl | exact Or.inr (Or.inl rfl) | exact Or.inr (Or.inr rfl))(hd:(x ==("__debug__":Str))=false:=by decide)
  (hcd:(x ==("__classdict__":Str))=false:=by decide):PE X (.Name x pos) (BR i):=Co hN hv hd hcd
end
def bC(H H':Hp):Prop:=∀ b o,H b=some o->H' b=some o
theorem bC.refl(H:Hp):bC H H:=fun _ _ h=>h
theorem bC.seq{K:PySem.W.Frag}{H H':Hp}{a:Addr}{xs:List V}(e:bC H H')(h:bB K H a xs):bB K H' a xs:=by
 rcases h with (h | ⟨o,h⟩) | h
 ·exact .inl (.inl (e _ _ h))
 ·exact .inl (.inr ⟨o,e _ _ h⟩)
 ·exact .inr h
section
variable {κ:Type} [DecidableEq κ]
end
def cX(cells:List (Str×Addr)):List (Str×NameKind)->List (Str×Addr)->List (Str×Addr)
 | [],acc=>acc
 | (n,k)::r,acc=>if k=.free then cX cells r ((n,(cells.lookup n).getD 0)::acc) else cX cells r acc
theorem eF{scope:Scope}{env:Env}(h:∀ x∈scope.names,x.2=.free->∃ c,env.cells.lookup x.1=some c):closureFor scope env=pure (cX env.cells scope.names []):=by
 have all:∀ (l:List (Str×NameKind)) (acc:List (Str×Addr)),(∀ x∈l,x.2=.free->∃ c,env.cells.lookup x.1=some c) ->
   (forIn l acc fun (x:Str×NameKind) (cs:List (Str×Addr))=>(match x with | (name,kind)=>if (kind == NameKind.free)=true then (do let c <- cellOf env name;pure (ForInStep.yield ((name,c)::cs))) else pure (ForInStep.yield cs):Sem (ForInStep (List (Str×Addr)))))=(pure (cX env.cells l acc):Sem (List (Str×Addr))):=by
  intro l
  induction l with
  | nil=>intro acc _;rfl
  | cons x r ih =>
   intro acc hl;obtain⟨n,k⟩:=x;rw[List.forIn_cons];by_cases hk:k=.free
   ·subst hk;obtain⟨c,hc⟩:=hl (n,.free) List.mem_cons_self rfl;have e:cellOf env n=pure c:=by unfold cellOf;rw[hc]
    simp only[beq_self_eq_true,if_true,e,cX,pure_bind];rw[ih _ fun y hy=>hl y (List.mem_cons_of_mem _ hy),hc];rfl
   ·have hb:(k == NameKind.free)=false:=by simpa using hk
    simp only[hb,Bool.false_eq_true,if_false,cX,hk,pure_bind];exact ih _ fun y hy=>hl y (List.mem_cons_of_mem _ hy)
 unfold closureFor;simp only[bind_pure];exact all scope.names [] h
theorem fH{cells:List (Str×Addr)}:∀ {l:List (Str×NameKind)} {acc:List (Str×Addr)},(∀ x∈l,x.2=.free->∃ c,cells.lookup x.1=some c)->(∀ x c,acc.lookup x=some c->cells.lookup x=some c) ->
  ∀ x c,(cX cells l acc).lookup x=some c->cells.lookup x=some c
 | [],_,_,h,x,c,e=>h x c e
 | (n,k)::r,acc,hl,h,x,c,e=>by
  unfold cX at e;have hr:∀ y∈r,y.2=.free->∃ c,cells.lookup y.1=some c:=fun y hy=>hl y (List.mem_cons_of_mem _ hy)
  split at e
  ·rename_i hk;refine fH hr (fun y d q=>?_) x c e;rw[List.lookup_cons] at q
   split at q
   ·rename_i hy;obtain⟨c',hc'⟩:=hl (n,k) List.mem_cons_self hk;have hy':y=n:=by simpa using hy
    subst hy';simp only[] at hc';rw[hc'] at q ⊢;exact q
   ·exact h y d q
  ·exact fH hr h x c e
theorem fE{cells:List (Str×Addr)}{x:Str}:∀ {l:List (Str×NameKind)} {acc:List (Str×Addr)},(∃ c,acc.lookup x=some c)->∃ c,(cX cells l acc).lookup x=some c
 | [],_,h=>h
 | (n,k)::r,acc,h=>by
  unfold cX;split
  ·refine fE ?_;rw[List.lookup_cons];split
   ·exact⟨_,rfl⟩
   ·exact h
  ·exact fE h
theorem e9{cells:List (Str×Addr)}{x:Str}:∀ {l:List (Str×NameKind)} {acc:List (Str×Addr)},(x,NameKind.free)∈l->∃ c,(cX cells l acc).lookup x=some c
 | [],_,h=>by simp at h
 | (n,k)::r,acc,h=>by
  unfold cX;rcases List.mem_cons.mp h with e | h
  ·cases e;rw[if_pos rfl];exact fE ⟨(cells.lookup x).getD 0,by rw[List.lookup_cons];simp⟩
  ·split
   ·exact e9 h
   ·exact e9 h
def aA(X:Cx)(scope:Scope)(N:List Str)(C:Addr)(s:Shared)(H:Hp)(fp:List Addr):Cx where
 prog:=X.prog
 w:=X.w
 K:=X.K
 mg:=X.mg
 base:=X.base
 A:=X.A
 N:=N
 s₀:=s
 H₀:=H
 env:=compEnvC scope (cX X.env.cells scope.names []) C X.env
 outer:=X.stack
 stack:=X.stack
 ex:=fp
 calm:=X.calm
 fn:=fun _=>false
 pn:=[]
 xe:=fun _ _=>False
structure bP (osc:Scope) (ON:List Str) (scope:Scope) (own N:List Str):Prop where
 kind:scope.kind=.function
 nd:N.Nodup
 len:N.length=own.length+ON.length
 hU:∀ y∈scope.names,y.2≠.cell
 loc:∀ y∈scope.names,y.2=.local->scope.names.lookup y.1=some .local
 free:∀ y∈scope.names,y.2=.free->osc.names.lookup y.1=some .cell\/osc.names.lookup y.1=some .free
 out:∀ p∈ON.zip (N.drop own.length),p.1=p.2\/scope.names.lookup p.2=none
 own:∀ x∈N.drop own.length,scope.names.lookup x≠some .local
theorem cc{scope:Scope}{env:Env}(x:Str)(hn:∀ y∈scope.names,y.2≠.cell):((relabel scope env).names.lookup x=some .local->scope.names.lookup x=some .local) /\
  ((relabel scope env).names.lookup x=some .cell\/(relabel scope env).names.lookup x=some .free->scope.names.lookup x=some .free):=by
 unfold relabel;simp only;revert hn;generalize scope.names=l;intro hn
 induction l with
 | nil=>simp
 | cons y r ih =>
  obtain⟨n,k⟩:=y;have ih:=ih fun y hy=>hn y (List.mem_cons_of_mem _ hy);have hk:k≠.cell:=hn (n,k) List.mem_cons_self;rw[List.map_cons];simp only;by_cases hc:(k == NameKind.free && env.scope.kind == ScopeKind.function && env.kindOf n == some NameKind.cell)=true
  ·rw[if_pos hc,List.lookup_cons,List.lookup_cons];have hf:k=.free:=by
    simp only[Bool.and_eq_true] at hc
    simpa using hc.1.1
   split
   ·subst hf;simp
   ·exact ih
  ·rw[if_neg hc,List.lookup_cons,List.lookup_cons];split
   ·constructor
    ·exact fun h=>h
    ·rintro (h | h)
     ·exact absurd (Option.some.inj h) hk
     ·exact h
   ·exact ih
def Cz(X:Cx)(ifs:List Expr)(t:TT):Prop:=
 ∀ (pins:List (Addr×Obj)) (s:Shared) (σ:St) (H:Hp) (Q:Bool->Hp->Prop),Inv X pins σ H s->t σ H Q ->
  wpAny (model X.prog X.w) X.A (forIn ifs true fun c r=>if r=true then do let ok <- isTrue c X.env (eval c X.env);pure (ForInStep.yield ok) else pure (ForInStep.yield r)) (TP X pins σ Q) X.xe s
def zo:TT:=fun _ H Q=>Q true H
theorem xu{X:Cx}:Cz X [] zo:=fun _ _ _ H _ I h=>wpAny_tests_nil ⟨H,I,h⟩
theorem yc{X:Cx}{c:Expr}{t:TT}(h:PT X c t):Cz X [c] t:=fun pins s σ H Q I hw=>wpAny_tests_one (h pins s σ H Q I hw)
theorem kF{prog:Program}{w:World}{A:Around}{R:Result->Shared->Prop}{s:Shared}{elt target iter:Expr}{ifs:List Expr}{scope:Scope}{pos:Pos}{it acc:Value}{env:Env}(I:Nat->Shared->Prop)
  (turn:∀ n s,I n s->wpAny (model prog w) A (pyNext it) (fun r s₁=>match r with
   | none=>R (.ok .next) s₁
   | some v=>wpAny (model prog w) A (letOwnedTupleGo target it v) (fun _ s₁'=>wpAny (model prog w) A (assign target env v) (fun _ s₂ =>
     wpAny (model prog w) A (forIn ifs true fun c r=>if r=true then do let ok <- isTrue c env (eval c env);pure (ForInStep.yield ok) else pure (ForInStep.yield r)) (fun ok s₃ =>
      if ok=true then wpAny (model prog w) A (eval elt env) (fun x s₄ =>
       wpAny (model prog w) A (call (.builtin "list.append") [acc,x]) (fun _ s₅=>∃ m,m < n/\I m s₅) (fun _ _=>False) s₄) (fun _ _=>False) s₃
      else ∃ m,m < n/\I m s₃) (fun _ _=>False) s₂) (fun _ _=>False) s₁') (fun _ _=>False) s₁) (fun _ _=>False) s)
  (n:Nat) (h:I n s):codeAny (model prog w) A (.compLoop (.ListComp elt [⟨target,iter,ifs,0⟩] scope pos) 0 it acc env) R s:=by
 refine codeAny_loop rfl I (fun n s hI=>?_) n h;show wpAny _ A ((compTurn (.ListComp elt [⟨target,iter,ifs,0⟩] scope pos) 0 it acc env).onRaise (fun x=>do noteFrame x env;theTreesLotGoes x)) _ _ s
 refine wpAny_noted ?_;rw[compTurn_list];refine wpAny_bind (wpAny_standAt (wpAny_bind (wpAny_mono (turn n s hI) (fun r s₁ h₁=>?_) fun _ _ h'=>h'.elim)))
 cases r with
 | none=>exact wpAny_pure h₁
 | some v =>
  refine wpAny_bind (wpAny_mono h₁ (fun _ s₁' h₁'=>?_) fun _ _ h'=>h'.elim);refine wpAny_bind (wpAny_mono h₁' (fun _ s₂ h₂=>wpAny_bind (wpAny_mono h₂ (fun ok s₃ h₃=>?_) fun _ _ h'=>h'.elim)) fun _ _ h'=>h'.elim)
  cases ok with
  | false=>exact wpAny_pure ⟨rfl,h₃⟩
  | true =>
   exact wpAny_bind (wpAny_bind (wpAny_mono h₃ (fun x s₄ h₄=>wpAny_bind (wpAny_mono h₄ (fun _ s₅ h₅=>wpAny_pure (wpAny_pure ⟨rfl,h₅⟩)) fun _ _ h'=>h'.elim)) fun _ _ h'=>h'.elim))
def jy(wi:TI)(k:Nat)(g:TG)(tc:TT)(te:TE):TE:=fun σ H Q=>wi σ H fun J H1=>∀ D,H1 D=none ->
 ∃ W:Nat->Nat->List V->St->Hp->Prop,(∃ m,W 0 m [] (List.replicate k none++σ) (upd H1 D (.lst [])))/\∀ i m ys σ' H',W i m ys σ' H'->H' D=some (.lst ys) /\
  ((J.stop i H'/\Q (.ref D) H')\/(J.go i H'/\ys.length < sizeLine/\∀ x H2,J.C5 i H' x H2->g x σ' H2 fun σ3 H3=>tc σ3 H3 fun b H4 =>
   if b=true then te σ3 H4 fun v H5=>H5 D=some (.lst ys)/\∃ m',m' < m/\W (i+1) m' (ys++[v]) σ3 (upd H5 D (.lst (ys++[v])))
   else ∃ m',m' < m/\W (i+1) m' ys σ3 H4))
theorem jr{X:Cx}{osc scope:Scope}{ON own N:List Str}{tg iter elt:Expr}{ifs:List Expr}{pos:Pos}{wi:TI}{g:TG}{tc:TT}{te:TE}(S:bP osc ON scope own N)(hosc:X.env.scope=osc)(hON:X.N=ON)(hc:X.calm=true)(hi:PI X tg iter wi)
  (hg:∀ C s H fp,PG (aA X scope N C s H fp) tg g) (ht:∀ C s H fp,Cz (aA X scope N C s H fp) ifs tc) (he:∀ C s H fp,PE (aA X scope N C s H fp) elt te)
  {pins:List (Addr×Obj)} {σ:St} {H:Hp} {s:Shared} {Q:VK} (I:Inv X pins σ H s) (h:jy wi own.length g tc te σ H Q) {RR:Value->Addr->Result->Shared->Prop}
  (fin:∀ (D C:Addr) (H':Hp) (s':Shared) (m:Str->Option Value),Inv X pins σ H' s'->Q (.ref D) H'->H' C=none->X.s₀.heap.objs.size<=C->C≠X.env.locals->(∀ x c,X.env.cells.lookup x=some c->c≠C)->(∀ p∈X.pn++pins,p.1≠C) ->
   s'.heap.Ns C m->RR (.ref D) C (.ok .next) s') :
  wpAny (model X.prog X.w) X.A (eval iter X.env) (fun x s₁=>wpAny (model X.prog X.w) X.A (pyIter x) (fun it s₂=>wpAny (model X.prog X.w) X.A (newList []) (fun acc s₃ =>
   wpAny (model X.prog X.w) X.A (newFunctionEnv scope X.env.globals (cX X.env.cells scope.names []) [] X.env.qual none .none (some X.env)) (fun cenv s₄ =>
    codeAny (model X.prog X.w) X.A (.compStart (.ListComp elt [⟨tg,iter,ifs,0⟩] scope pos) 0 it acc { cenv with scope:=relabel scope X.env }) (RR acc cenv.locals) s₄) X.xe s₃) X.xe s₂) X.xe s₁) X.xe s:=by
 refine bJ (hi pins s σ H _ I h) fun v s1 h1=>bJ h1 fun itv s2 h2=>?_;obtain⟨it,fp,tn,J,H2,e,I2,T,dQ,f2,q⟩:=h2;subst e;refine wpAny_newObj_type (wpAny_newFunctionEnv S.hU (by intro y hy;simp at hy) (fun h₁ hns₁ hsb₁=>?_) S.kind)
 dsimp only at hns₁ hsb₁ ⊢;have I3:Inv X pins σ (upd H2 s2.heap.objs.size (.lst [])) { s2 with heap:=s2.heap.push { cls:=.type "list",data:=.seq ([]:List Value).toArray },toks:=s2.toks }:=I2.Ax (t':=s2.toks) .nil (Nat.zero_le _)
 have hD2:H2 s2.heap.objs.size=none:=I2.fresh;obtain⟨W,⟨m0,w0⟩,turn⟩:=q _ hD2;generalize hs3:({ s2 with heap:=s2.heap.push { cls:=.type "list",data:=.seq ([]:List Value).toArray },toks:=s2.toks }:Shared)=s3 at I3
 have eh3:s3.heap=s2.heap.push { cls:=.type "list",data:=.seq ([]:List Value).toArray }:=by rw[<- hs3]
 generalize hD:s2.heap.objs.size=D at I3 turn w0 hD2 ⊢;generalize hH3:upd H2 D (.lst [])=H3 at I3 w0;rw[<- eh3] at hns₁ hsb₁ ⊢;have hC3:H3 s3.heap.objs.size=none:=I3.fresh;have hsz3:s3.heap.objs.size=D+1:=by rw[eh3,Heap.size_push,hD]
 have fp2:∀ b∈fp,b < s2.heap.objs.size:=fun b hb=>by
  obtain⟨o,e,_⟩:=T.obj _ _ dQ b hb;exact Heap.lt_size e
 have f3:∀ b∈fp,iW X pins H3 b:=fun b hb=>by
  obtain⟨g0,g1⟩:=f2 b hb;refine⟨?_,g1⟩;rw[<- hH3,ae (by rw[<- hD];exact Nat.ne_of_lt (fp2 b hb))]
  exact g0
 have neC:∀ b o,s3.heap.get? b=some o->b≠s3.heap.objs.size:=fun b o e=>Nat.ne_of_lt (Heap.lt_size e);have old:∀ b o,s3.heap.get? b=some o->h₁.get? b=some o:=fun b o e=>hsb₁.extBut b o (neC b o e) (Heap.get?_push_of_some _ e);have hk:=S.kind;have hfr:∀ y∈scope.names,y.2=.free->∃ c,X.env.cells.lookup y.1=some c:=fun y hy hf=>I3.ok.has _ (by subst hosc;exact S.free y hy hf)
 have sub:=fH (acc:=[]) hfr (by intro x c e;simp at e)
 have JB:∀ tk,Inv (aA X scope N s3.heap.objs.size s3 H3 fp) [] (List.replicate own.length none++σ) H3 { s3 with heap:=h₁,toks:=tk }:=fun tk=>by
  refine⟨⟨I3.ok.mod,S.kind,I3.ok.glob,I3.ok.blt,Nat.le_refl _,fun x y c e1 e2=>I3.ok.inj x y c (sub x c e1) (sub y c e2),fun x hx=>?_,fun x c hf _=>(by cases hf),I3.ok.hd,I3.ok.frames,.inl rfl,fun b hb=>?_,I3.bs,Nat.le_trans I3.ok.xQ I3.sz,fun b o e hb=>?_,fun b hb hf=>?_,I3.stack,I3.gE,I3.ok.tabs.un I3.base⟩,
   rfl,I3.bare,Un.kept old,⟨_,hns₁,fun i x v e1 e2 e3=>?_⟩,fun x c e=>?_,hC3,fun x c e=>I3.cQ x c (sub x c e),fun p hp=>absurd (show p∈([]:List (Addr×Obj)) from hp) (by simp),I3.aS.kept old,?_⟩
  ·have q:=(cc (env:=X.env) x S.hU).2 hx;exact e9 (PySem.mem_of_lookup q)
  ·have hb:b∈fp:=hb;obtain⟨_,g1,g2,g3,g4,g5⟩:=f3 b hb;refine⟨?_,fun x c e=>g4 x c (sub x c e)⟩;have:=fp2 b hb;show b≠s3.heap.objs.size;rw[hsz3,<- hD];exact Nat.ne_of_lt (Nat.lt_succ_of_lt this)
  ·have hb:b∈fp:=hb;obtain⟨_,g1,g2,g3,g4,g5⟩:=f3 b hb;rcases g3 with g3 | g3
   ·exact I3.ok.uP b o e g3
   ·exact absurd (Nat.lt_of_lt_of_le (Heap.lt_size e) (Nat.le_trans I3.ok.xQ g3)) (Nat.lt_irrefl _)
  ·have hb:b∈fp:=hb;obtain⟨_,g1,g2,g3,g4,g5⟩:=f3 b hb;rcases List.mem_cons.mp (I3.iC b hf) with z | z
   ·exact g1 z
   ·exact g2 z
  ·have hi:own.length<=i:=by
    rcases Nat.lt_or_ge i own.length with hlt | hge
    ·rw[List.getElem?_append_left (by simpa using hlt),List.getElem?_replicate] at e2
     split at e2<;>cases e2
    ·exact hge
   rw[List.getElem?_append_right (by simpa using hi),List.length_replicate] at e2
   have e1:N[own.length+(i - own.length)]?=some x:=by rw[Nat.add_sub_cancel' hi];exact e1
   have e1d:(N.drop own.length)[i - own.length]?=some x:=by rw[List.getElem?_drop];exact e1
   have nl:scope.names.lookup x≠some .local:=S.own x (List.mem_of_getElem? e1d);have vis:scope.names.lookup x=some .free:=by
    rcases e3 with z | z
    ·exact absurd ((cc (env:=X.env) x S.hU).1 z) nl
    ·exact (cc (env:=X.env) x S.hU).2 z
   have hlen:=I3.len;have hlt:i - own.length < X.N.length:=by
    rw[<- hlen];exact (List.getElem?_eq_some_iff.mp e2).1
   have hxN:X.N[i - own.length]?=some x:=by
    rw[List.getElem?_eq_getElem hlt];have mz:(X.N[i - own.length],x)∈ON.zip (N.drop own.length):=by
     rw[<- hON];refine List.mem_of_getElem? (i:=i - own.length) ?_;rw[List.getElem?_zip_eq_some];exact⟨List.getElem?_eq_getElem hlt,e1d⟩
    rcases S.out _ mz with z | z
    ·exact congrArg some z
    ·exact absurd z (by rw[vis];simp)
   have hko:X.env.scope.names.lookup x=some .cell\/X.env.scope.names.lookup x=some .free:=by subst hosc;exact S.free _ (PySem.mem_of_lookup vis) rfl
   obtain⟨m,hn,hl⟩:=I3.loc;have hv:BY X.env.scope x:=by
    rcases hko with z | z
    ·exact .inr (.inl z)
    ·exact .inr (.inr z)
   obtain⟨u,ru,lk⟩:=hl _ x v hxN e2 hv;refine⟨u,ru,.inr ⟨?_,?_⟩⟩
   ·rcases e3 with z | z
    ·exact absurd ((cc (env:=X.env) x S.hU).1 z) nl
    ·exact z
   ·rcases lk with ⟨k,_⟩ | ⟨_,c,ec,hcell⟩
    ·exfalso
     have k':X.env.scope.names.lookup x=some .local:=k;rcases hko with z | z
     ·rw[k'] at z;cases z
     ·rw[k'] at z;cases z
    ·obtain⟨c',ec'⟩:=e9 (cells:=X.env.cells) (acc:=[]) (PySem.mem_of_lookup vis);have:=sub x c' ec';rw[ec] at this;cases this;obtain⟨o,ho,hd⟩:=hcell;exact⟨c,ec',o,old c o ho,hd⟩
  ·obtain⟨v,o,ho,hd⟩:=I3.cell x c (sub x c e);exact⟨v,o,old c o ho,hd⟩
  ·show (List.replicate own.length none++σ).length=N.length;rw[S.len,List.length_append,List.length_replicate,I3.len,hON]
 have stat:∀ {H':Hp},(∀ b∈fp,H' b=none)->∀ b∈fp,iW (aA X scope N s3.heap.objs.size s3 H3 fp) [] H' b:=fun {H'} hn b hb=>by
  obtain⟨_,g1,g2,g3,g4,g5⟩:=f3 b hb;refine⟨hn b hb,?_,fun hf=>?_,.inl hb,fun x c e=>g4 x c (sub x c e),fun p hp=>absurd (show p∈([]:List (Addr×Obj)) from hp) (by simp)⟩
  ·have:=fp2 b hb;show b≠s3.heap.objs.size;rw[hsz3,<- hD];exact Nat.ne_of_lt (Nat.lt_succ_of_lt this)
  ·rcases List.mem_cons.mp (I3.iC b hf) with z | z
   ·exact g1 z
   ·exact g2 z
 have st4:tn 0 h₁:=T.keep _ _ _ dQ fun b hb o e=>old b o (by rw[eh3];exact Heap.get?_push_of_some _ e)
 have loop:∀ s4:Shared,s4={ s3 with heap:=h₁,toks:=s2.toks+([]:List (Str×Value)).length } ->
   codeAny (model X.prog X.w) X.A (.compLoop (.ListComp elt [⟨tg,iter,ifs,0⟩] scope pos) 0 (.ref it) (.ref D) (aA X scope N s3.heap.objs.size s3 H3 fp).env) (RR (.ref D) s3.heap.objs.size) s4:=by
  rintro s4 rfl;refine kF (fun n s'=>∃ i ys σ' H',Inv (aA X scope N s3.heap.objs.size s3 H3 fp) [] σ' H' s'/\tn i s'.heap/\(∀ b∈fp,H' b=none)/\W i n ys σ' H') ?_ m0 ⟨0,[],_,H3,JB _,st4,fun b hb=>(f3 b hb).1,w0⟩;rintro n s5 ⟨i,ys,σ5,H5,I5,st5,fr5,w5⟩;obtain⟨hD5,ways⟩:=turn i n ys σ5 H5 w5;rcases ways with ⟨stop,qn⟩ | ⟨go,hys,step⟩
  ·refine bJ (T.done (aA X scope N s3.heap.objs.size s3 H3 fp) rfl rfl rfl hc i [] s5 σ5 H5 _ I5 (stat fr5) st5 stop) fun r s6 ⟨hr,I6⟩=>?_;subst hr;obtain⟨m,hn,_⟩:=I6.loc;refine fin D _ H5 s6 m ?_ qn I6.free (Nat.le_trans I3.sz (Nat.le_refl _)) ?_ (fun x c e z=>?_) (fun p hp z=>?_) hn
   ·refine I3.zh (ch:=fp) I6.os I6.base I6.aS I6.bare fun b hb=>?_;obtain⟨_,g1,g2,g3,g4,g5⟩:=f3 b hb;exact⟨g3,g1,g4,g5⟩
   ·exact Nat.ne_of_gt I3.lt
   ·obtain⟨v,o,ho,_⟩:=I3.cell x c e;exact absurd (Heap.lt_size ho) (by rw[z];exact Nat.lt_irrefl _)
   ·exact absurd (Heap.lt_size (I3.pin p hp).1) (by rw[z];exact Nat.lt_irrefl _)
  ·refine bJ (T.item (aA X scope N s3.heap.objs.size s3 H3 fp) rfl rfl rfl hc i [] s5 σ5 H5 _ I5 (stat fr5) st5 go) fun r s6 ⟨u,hr,h6⟩=>?_;subst hr;refine bJ h6 fun _ s7 ⟨x,H7,I7,r7,y7,st7,fr7⟩=>?_;have I7':=I7.pinned (stat fr7) (T.obj _ _ st7);have back:∀ {σ8:St} {H8:Hp} {s8:Shared},Inv (aA X scope N s3.heap.objs.size s3 H3 fp) ([]++ia fp s7.heap) σ8 H8 s8->tn (i+1) s8.heap/\∀ b∈fp,H8 b=none:=fun {σ8 H8 s8} I8=>by
    refine⟨T.keep _ _ _ st7 fun b hb o e=>(I8.pin (b,o) (List.mem_append_right _ (List.mem_append_right _ (d9 hb e)))).1,fun b hb=>?_⟩;obtain⟨o,e,d⟩:=T.obj _ _ st7 b hb;exact (I8.pin (b,o) (List.mem_append_right _ (List.mem_append_right _ (d9 hb e)))).2.1
   refine bJ (hg _ _ _ _ _ s7 σ5 H7 x u _ I7' r7 (step x H7 y7)) fun _ s8 ⟨σ8,H8,I8,q8⟩=>?_;refine bJ (ht _ _ _ _ _ s8 σ8 H8 _ I8 q8) fun ok s9 ⟨H9,I9,q9⟩=>?_
   cases ok with
   | false =>
    rw[if_neg (by simp)] at q9 ⊢
    obtain⟨m',hm,w9⟩:=q9;exact⟨m',hm,i+1,ys,σ8,H9,I9.dW,(back I9).1,(back I9).2,w9⟩
   | true =>
    rw[if_pos rfl] at q9 ⊢;refine bJ (he _ _ _ _ _ s9 σ8 H9 _ I9 q9) fun y s10 ⟨v10,H10,I10,r10,hD10,m',hm,w10⟩=>?_;refine bJ (fM _ s10 σ8 H10 (.ref D) [v10] (.ref D) [y] (fun r H11=>r=.aI/\H11=upd H10 D (.lst (ys++[v10]))) I10 rfl (.cons r10 .nil) ⟨D,ys,v10,rfl,rfl,hD10,hys,rfl,rfl⟩) fun _ s11 ⟨_,H11,I11,_,_,e11⟩=>?_;subst e11;exact⟨m',hm,i+1,_,σ8,_,I11.dW,(back I11).1,(back I11).2,w10⟩
 have start:=codeAny_compStart_list (R:=RR (.ref D) s3.heap.objs.size) (loop _ rfl) (T.self X.A 0 _ _ _ st4 (loop _ rfl));subst hs3;exact start
theorem yh{X:Cx}{osc scope:Scope}{ON own N:List Str}{tg iter elt:Expr}{ifs:List Expr}{pos:Pos}{wi:TI}{g:TG}{tc:TT}{te:TE}(S:bP osc ON scope own N)(hosc:X.env.scope=osc)(hON:X.N=ON)(hc:X.calm=true)(hi:PI X tg iter wi)
  (hg:∀ C s H fp,PG (aA X scope N C s H fp) tg g) (ht:∀ C s H fp,Cz (aA X scope N C s H fp) ifs tc) (he:∀ C s H fp,PE (aA X scope N C s H fp) elt te)
  (hs:∀ x,foldedSetIterable iter X.env x=pure x:=by intro _;rfl) :
  PE X (.ListComp elt [⟨tg,iter,ifs,0⟩] scope pos) (jy wi own.length g tc te):=by
 intro pins s σ H Q I h;have hfr:∀ y∈scope.names,y.2=.free->∃ c,X.env.cells.lookup y.1=some c:=fun y hy hf=>I.ok.has _ (by subst hosc;exact S.free y hy hf)
 rw[eval_ListComp];refine wpAny_comprehension_free (use:=none) rfl hs (eF hfr) S.kind S.loc ?_;refine jr S hosc hON hc hi hg ht he I h (RR:=fun acc C=>compPost (model X.prog X.w) X.A X.xe none (EP X pins σ Q) acc C) ?_;intro D C H' s' m I' q h1 h2 h3 h4 h5 hn;exact⟨m,hn,fun h'' hs''=>⟨.ref D,H',I'.turned (t':=s'.toks) (fun b o hb e=>(hs''.2 b hb).trans e) h1 h3 (.inr h2) h4 h5,rfl,q⟩⟩
theorem nj{X:Cx}{osc scope:Scope}{ON own N:List Str}{tg iter elt:Expr}{ifs:List Expr}{pos spos py:Pos}{wi:TI}{g:TG}{tc:TT}{te:TE}{j:Nat}{y:Str}(hN:X.N.Nodup)(hj:X.N[j]?=some y)(hx:Loc X.env.scope y)(S:bP osc ON scope own N)(hosc:X.env.scope=osc)(hON:X.N=ON)(hc:X.calm=true)(hi:PI X tg iter wi)
  (hg:∀ C s H fp,PG (aA X scope N C s H fp) tg g) (ht:∀ C s H fp,Cz (aA X scope N C s H fp) ifs tc) (he:∀ C s H fp,PE (aA X scope N C s H fp) elt te)
  (hsw:swapsWith (.ListComp elt [⟨tg,iter,ifs,0⟩] scope pos) (some (.Name y py)) spos.line X.env=pure true:=by rfl)
  (hf:X.fn y=true\/X.env.scope.names.lookup y=some .local:=by first | exact .inl rfl | exact .inr rfl | assumption)
  (hs:∀ x,foldedSetIterable iter X.env x=pure x:=by intro _;rfl) :
  PS X (.Assign [.Name y py] (.ListComp elt [⟨tg,iter,ifs,0⟩] scope pos) spos) (m5 (jy wi own.length g tc te) (cG j)):=by
 intro pins s σ H Dn I h;have hfr:∀ y∈scope.names,y.2=.free->∃ c,X.env.cells.lookup y.1=some c:=fun y hy hf=>I.ok.has _ (by subst hosc;exact S.free y hy hf)
 rw[exec_Assign_Name_used _ _ _ _ hsw];refine wpAny_bind (wpAny_standAt (wpAny_bind ?_));show wpAny _ X.A (do let _ <- comprehension (.ListComp elt [⟨tg,iter,ifs,0⟩] scope pos) scope X.env _ (newList []) false (eval iter X.env) (some (assign (.Name y py) X.env))) _ _ s
 refine wpAny_bind (wpAny_mono (wpAny_comprehension_free (use:=some (assign (.Name y py) X.env)) (Q:=fun _ s'=>SP X pins Dn .next s') rfl hs (eF hfr) S.kind S.loc ?_) (fun _ s' hq=>wpAny_pure (wpAny_pure hq)) fun _ _ e=>e);refine jr S hosc hON hc hi hg ht he I h (RR:=fun acc C=>compPost (model X.prog X.w) X.A X.xe (some (assign (.Name y py) X.env)) (fun _ s'=>SP X pins Dn .next s') acc C) ?_;intro D C H' s' m I' q h1 h2 h3 h4 h5 hn;show wpAny _ X.A (assign (.Name y py) X.env (.ref D)) _ _ _;refine wpAny_assign_Name (j4 I' hN hj hx (v:=.ref D) rfl (fun s'' I'' hsb=>?_) hf);obtain⟨a,sb,ha⟩:=hsb;have nC:C≠a:=by
  rcases ha with ha | ha
  ·rw[ha];exact h3
  ·exact (h4 y a ha).symm
 exact⟨m,hn.sameBut sb nC,fun h'' hs''=>⟨_,H',I''.turned (t':=s''.toks) (fun b o hb e=>(hs''.2 b hb).trans e) h1 h3 (.inr h2) h4 h5,q⟩⟩
def cx(e:Expr):Bool:=match e with
 | .Starred ..=>false
 | _=>true
theorem cf{e:Expr}{es:List Expr}{env:Env}(h:cx e=true):starEach (e::es) env=(false,eval e env)::starEach es env:=by
 cases e<;>first | rfl | cases h
theorem plain_any{env:Env}{pos:Pos}:∀ {es:List Expr},es.all cx=true->(backTo pos (starEach es env)).any (·.1)=false
 | [],_=>rfl
 | e::es,h=>by
  rw[List.all_cons,Bool.and_eq_true] at h;rw[cf h.1];show (false || (backTo pos (starEach es env)).any (·.1))=false;rw[plain_any h.2];rfl
theorem plain_all{env:Env}{pos:Pos}:∀ {es:List Expr},es.all cx=true->(backTo pos (starEach es env)).all (fun x=>!x.1)=true
 | [],_=>rfl
 | e::es,h=>by
  rw[List.all_cons,Bool.and_eq_true] at h;rw[cf h.1];show (true && (backTo pos (starEach es env)).all (fun x=>!x.1))=true;rw[plain_all h.2];rfl
theorem Bl{env:Env}{cpos:Pos}{e:Expr}{es:List Expr}(h:(e::es).all cx=true)(hl:(e::es).length < 30):
  ((backTo cpos (starEach (e::es) env)).all (fun x=>!x.1) && (backToKw cpos (keywordEach [] env)).all (fun x=>x.1.isSome) && decide ((e::es).length+([]:List Keyword).length+(if ([]:List Keyword).isEmpty then 0 else 1) < 30))=true:=by
 rw[plain_all h];have e2:(backToKw cpos (keywordEach [] env)).all (fun x=>x.1.isSome)=true:=rfl;rw[e2];have e3:(e::es).length+([]:List Keyword).length+(if ([]:List Keyword).isEmpty then 0 else 1) < 30:=hl
 rw[decide_eq_true e3];rfl
section
variable {X:Cx} {e:Expr} {es:List Expr} {te:TE} {t:TA}
theorem Gh(ha:PE X e te)(hr:PA X es t)(h:cx e=true:=by rfl):PA X (e::es) (mf te t):=qk ha hr (cf h)
theorem Dr{id:String}{x:Str}{p pos:Pos}{r:List V->Hp->VK->Prop}(hc:aL X (.builtin id) r)(hg:Gl X x)(hm:X.mg x=none)(hv:bootBuiltins x=some (.builtin id))(ha:PA X (e::es) t)(h1:cx e=true:=by rfl)(h2:es.all cx=true:=by rfl)(hn:x≠"__name__":=by decide)(hdb:(x ==("__debug__":Str))=false:=by decide):
  PE X (.Call (.Name x p) (e::es) [] pos) (zr r t):=vI hc hg hm hv ha hn hdb (cf h1) (plain_any h2)
theorem D8{T:String}{x:Str}{p pos:Pos}{r:List V->Hp->VK->Prop}(hc:aL X (.type T) r)(hg:Gl X x)(hm:X.mg x=none)(hv:bootBuiltins x=some (.type T))(ha:PA X (e::es) t)(h1:cx e=true:=by rfl)(h2:es.all cx=true:=by rfl)(hn:x≠"__name__":=by decide)(hdb:(x ==("__debug__":Str))=false:=by decide):
  PE X (.Call (.Name x p) (e::es) [] pos) (zr r t):=r9 hc hg hm hv ha hn hdb (cf h1) (plain_any h2)
theorem Ba{o:Expr}{to:TE}{name:Str}{apos cpos:Pos}{T id:String}{r:V->List V->Hp->VK->Prop}(pa:PlainAttrs T)(slot:Slot T name id)(hty:typeOf (.builtin id)=pure (.type "method_descriptor"))(hm:oR X id r)(ho:PE X o to)(ha:PA X (e::es) t)
  (hbase:attributeBase o name X.env (eval o X.env)=eval o X.env) (hline:(apos.endLine == cpos.line)=true) (h:(e::es).all cx=true) (hl:(e::es).length < 30):PE X (.Call (.Attribute o name apos) (e::es) [] cpos) (G7 X.K T r to t):=by
 have h':=h;rw[List.all_cons,Bool.and_eq_true] at h';exact E7 pa slot hty hm ho ha hbase (Bl h hl) hline (cf h'.1) (plain_any h'.2)
theorem ni{tg a:Expr}{ta:TA}{p pos:Pos}(hg:Gl X "range")(hm:X.mg "range"=none)(ha:PA X [a] ta)(h:cx a=true:=by rfl):PI X tg (.Call (.Name "range" p) [a] [] pos) (vF ta):=qV hg hm ha (cf h)
theorem oh{tg a b:Expr}{ta:TA}{p pos:Pos}(hg:Gl X "range")(hm:X.mg "range"=none)(ha:PA X [a,b] ta)(h:cx a=true:=by rfl)(h2:cx b=true:=by rfl):PI X tg (.Call (.Name "range" p) [a,b] [] pos) (uL ta):=rB hg hm ha (by rw[cf h,cf h2];rfl) (cf h2)
end
structure HasFn (K:PySem.W.Frag) (mg:Str->Option Value) (x:Str) (st:Stmt) (ps:List Str):Prop where
 ex:∃ (f:Addr) (fd:FuncData),wV K x x st f fd/\Binds K fd ps []/\mg x=some (.ref f)
structure ah (P:Program) (w:World) (K:PySem.W.Frag) (mg:Str->Option Value) (base:Heap) (CX:kZ) (k:Nat) (x:Str) (ps:List Str) (sp:Sp):Prop where
 ex:∃ (f:Addr) (fd:FuncData),mg x=some (.ref f)/\PySem.W.keepIn K (.ref f)=true/\Binds K fd ps []/\dg P w K mg base CX k f fd ps sp
section
variable {P:Program} {w:World} {K:PySem.W.Frag} {mg:Str->Option Value} {base:Heap}
theorem HasFn.ok{x:Str}{st:Stmt}{N ps:List Str}{k:Nat}{sp:Sp}(F:HasFn K mg x st ps)(S:ax N ps (aa st))(len:∀ vs H Q E,sp vs H Q E->vs.length=ps.length)
  (hbody:∀ (f:Addr) (cdv:Value) (A:Around) (outer:List Env) (s:Shared) (H:Hp) (vs:List V) (Q:VK) (E:XK),bo k (A.deeper (envOfC x (aa st) s.heap.objs.size f cdv))->sp vs H Q E ->
   ∃ t,mS (fk cw P w K mg base N x (aa st) f cdv A outer s H E).yD (ao st) t/\t { nx:=fun _ H'=>Q .aI H',rt:=Q } (start N vs) H):ah P w K mg base cw (k+1) x ps sp:=by
 obtain⟨f,fd,F1,b,m⟩:=F.ex;exact⟨f,fd,m,F1.kp,b,F1.ok S len fun cdv A outer s H vs Q E hr h=>hbody f cdv A outer s H vs Q E hr h⟩
end
section
variable {X:Cx} {CX:kZ} {k:Nat} {ps:List Str} {sp:Sp} {E:XK} {x:Str} {p pos:Pos} {e:Expr} {es:List Expr} {t:TA}
theorem Ek(F:ah X.prog X.w X.K X.mg X.base CX k x ps sp)(hr:bo k X.A)(hg:Gl X x)(hx:Passes CX X E)(ha:PA X (e::es) t)(h1:cx e=true:=by rfl)(h2:es.all cx=true:=by rfl)(hdb:(x ==("__debug__":Str))=false:=by decide):
  PE X (.Call (.Name x p) (e::es) [] pos) (qz sp [] E t):=by
 obtain⟨f,fd,m,kp,b,G⟩:=F.ex;exact xn G hr hg m kp b .nil hx ha hdb (cf h1) (plain_any h2)
end
def BN:Expr->Option V
 | .Constant (.int i) _ _=>some (.int i)
 | .Constant (.str x) _ _=>some (.str x)
 | .Constant (.bool b) _ _=>some (.bl b)
 | .Constant .none _ _=>some .aI
 | _=>none
def j9:List Expr->Option (List V)
 | []=>some []
 | e::es=>match BN e,j9 es with
  | some v,some vs=>some (v::vs)
  | _,_=>none
def tK(vs:List V):TA:=fun _ H Q=>Q vs H
theorem BZ{X:Cx}{e:Expr}{v:V}(h:BN e=some v):PE X e (tC v)/\∀ es,starEach (e::es) X.env=(false,eval e X.env)::starEach es X.env:=by
 unfold BN at h
 split at h
 ·cases h;exact⟨i6,fun _=>rfl⟩
 ·cases h;exact⟨wF,fun _=>rfl⟩
 ·cases h;exact⟨ze,fun _=>rfl⟩
 ·cases h;exact⟨vY,fun _=>rfl⟩
 ·cases h
theorem jt{X:Cx}:∀ {es:List Expr} {vs:List V},j9 es=some vs->PA X es (tK vs)
 | [],vs,h=>by cases h;exact wM
 | e::es,vs,h=>by
  unfold j9 at h
  split at h
  ·rename_i v ws e1 e2;cases h;have p:=BZ (X:=X) e1;exact qk (te:=tC v) (t:=tK ws) p.1 (jt e2) (p.2 es)
  ·cases h
def sq(H:Hp)(p:Addr):Option (Bool×List V):=match H p with
 | some (.lst xs)=>some (true,xs)
 | some (.tup xs)=>some (false,xs)
 | some (.gF _ (.lst xs))=>some (true,xs)
 | some (.gF _ (.tup xs))=>some (false,xs)
 | _=>none
section
variable {X:Cx}
def iU(K:PySem.W.Frag):R2:=fun x y H Q=>match x,y with
 | .int i,.int j=>Q (.int (i+j)) H
 | .str i,.str j=>i.length+j.length<=sizeLine/\Q (.str (i++j)) H
 | .ref a,.ref b=>match H a,H b with
  | some (.lst xs),some (.lst ys)=>xs.length+ys.length<=sizeLine/\∀ p,H p=none->Q (.ref p) (upd H p (.lst (xs++ys)))
  | some (.tup xs),some (.tup ys)=>xs≠[]/\ys≠[]/\xs.length+ys.length<=sizeLine/\∀ p,H p=none->Q (.ref p) (upd H p (.tup (xs++ys)))
  | _,_=>False
 | _,_=>False
def Bm:R2:=fun x y H Q=>match x,y with
 | .int i,.int j=>mY i j/\Q (.int (i*j)) H
 | .ref a,.int j=>DA (.ref a) (.int j) H Q
 | _,_=>False
theorem yS:cO X (binaryOp .Mult) Bm:=by
 intro pins s σ H x y v u Q I rx ry h
 cases x with
 | int i=>cases y with
  | int j=>exact A4 pins s σ H _ _ v u Q I rx ry ⟨i,j,rfl,rfl,h.1,h.2⟩
  | _=>exact (show False from h).elim
 | ref a=>cases y with
  | int j=>exact BK pins s σ H _ _ v u Q I rx ry h
  | _=>exact (show False from h).elim
 | _=>exact (show False from h).elim
def GY(K:PySem.W.Frag):R2:=fun x y H Q=>match x,y with
 | .str z,.int i=>z.length<=sizeLine/\(match bV z.cps.toList i with | some c=>Q (.str ⟨#[c]⟩) H | none=>False)
 | .ref p,.int i=>match sq H p with
  | some (_,xs)=>(match bV xs i with | some v=>Q v H | none=>False)
  | none=>∃ xs v,b6 K H p xs/\bV xs i=some v/\Q v H
 | _,_=>False
def GD(K:PySem.W.Frag):V->Option Int->Option Int->Hp->VK->Prop:=fun x lo hi H Q=>match x with
 | .ref p=>match sq H p with
  | some (true,xs)=>∀ q,H q=none->Q (.ref q) (upd H q (.lst (kM xs lo hi)))
  | some (false,xs)=>y4 K (.ref p) lo hi H Q
  | none=>y4 K (.ref p) lo hi H Q
 | _=>False
def ve:V->V->V->Hp->(Hp->Prop)->Prop:=fun o i v H Q=>match o,i with
 | .ref p,.int k=>match H p with
  | some (.lst xs)=>(match k_ xs.length k with | some j=>Q (upd H p (.lst (xs.set j v))) | none=>False)
  | _=>False
 | _,_=>False
theorem uset:AA X ve:=by
 intro pins s σ H o i v ov iv u Q I ro ri rv h
 cases o with
 | ref p=>cases i with
  | int k =>
   unfold ve at h;simp only at h
   split at h
   ·rename_i xs e
    split at h
    ·rename_i j e';exact set_list pins s σ H _ _ v ov iv u Q I ro ri rv ⟨p,xs,k,j,rfl,rfl,e,e',h⟩
    ·exact h.elim
   ·exact h.elim
  | _=>exact (show False from h).elim
 | _=>exact (show False from h).elim
def Ez:List V->Hp->VK->Prop:=fun xs H Q=>match xs with
 | [.int i,.int j]=>Q (.int (if j < i then j else i)) H
 | _=>False
theorem qH(hc:X.calm=true):aL X (.builtin "min") Ez:=by
 intro pins s σ H xs us Q I r h;rcases xs with _ | ⟨x,_ | ⟨y,_ | ⟨z,xs⟩⟩⟩
 ·exact (show False from h).elim
 ·cases x<;>exact (show False from h).elim
 ·cases x with
  | int i=>cases y with
   | int j=>exact r8 hc pins s σ H _ us Q I r ⟨i,j,rfl,h⟩
   | _=>exact (show False from h).elim
  | _=>exact (show False from h).elim
 ·cases x with
  | int i=>cases y<;>exact (show False from h).elim
  | _=>exact (show False from h).elim
def Ay:List V->Hp->VK->Prop:=fun xs H Q=>match xs with
 | [.int i,.int j]=>Q (.int (if j > i then j else i)) H
 | _=>False
theorem ee(hc:X.calm=true):aL X (.builtin "max") Ay:=by
 intro pins s σ H xs us Q I r h;rcases xs with _ | ⟨x,_ | ⟨y,_ | ⟨z,zs⟩⟩⟩
 ·exact (show False from h).elim
 ·cases x<;>exact (show False from h).elim
 ·cases x with
  | int i=>cases y with
   | int j=>exact qI hc pins s σ H _ us Q I r ⟨i,j,rfl,h⟩
   | _=>exact (show False from h).elim
  | _=>exact (show False from h).elim
 ·cases x<;>first | exact (show False from h).elim | (cases y<;>exact (show False from h).elim)
def fD(K:PySem.W.Frag):List V->Hp->VK->Prop:=fun xs H Q=>match xs with
 | [.ref p]=>match sq H p with
  | some (true,ys)=>∀ l,H l=none->Q (.ref l) (upd H l (.tup ys))
  | some (false,_)=>Q (.ref p) H
  | none=>∃ ys,b6 K H p ys/\Q (.ref p) H
 | _=>False
def EI:List V->Hp->VK->Prop:=fun xs H Q=>match xs with
 | [.int i]=>Q (.int i) H
 | [.bl k]=>Q (.int (if k=true then 1 else 0)) H
 | _=>False
theorem qT:aL X (.type "int") EI:=by
 intro pins s σ H xs us Q I r h;rcases xs with _ | ⟨x,_ | ⟨y,ys⟩⟩
 ·exact (show False from h).elim
 ·cases x with
  | int i=>exact j5 pins s σ H _ us Q I r (.inl ⟨i,rfl,h⟩)
  | bl k=>exact j5 pins s σ H _ us Q I r (.inr ⟨k,rfl,h⟩)
  | _=>exact (show False from h).elim
 ·cases x<;>exact (show False from h).elim
theorem sk(hc:X.calm=true):aL X (.builtin "sum") (fun xs H Q=>∃ (p:Addr) (ns:List Int),xs=[.ref p]/\bB X.K H p (ns.map V.int)/\Q (.int ns.sum) H):=by
 intro pins s σ H xs us Q I r h;obtain⟨p,ns,rfl,hq,q⟩:=h;obtain⟨u,rfl,ru⟩:=vals1 r;cases ru;obtain⟨its,rv,pl,hz⟩:=I.list hq;have hi:=intsAre_of rv;obtain⟨xs,hx⟩:=hi.allInts.items;have hl':s.heap.IsList p (intItems xs):=by rw[<- hx];exact pl.isList
 refine sum_intListG (I.ok.hd hc) hl' fun h' tk t' hk=>?_;have e1:ns=xs.toList.map (·.1):=by rw[<- nums_intItems,<- hx];exact hi.numsOf.symm
 have e2:preSum (numAt xs) xs.size=ns.sum:=by rw[preSum_eq,List.take_of_length_le (by simp),e1]
 rw[e2];exact⟨.int ns.sum,H,I.kept hk,⟨_,rfl⟩,q⟩
def rJoin(K:PySem.W.Frag):V->List V->Hp->VK->Prop:=fun x vs H Q=>∃ z l ys,x=.str z/\vs=[.ref l]/\bB K H l (ys.map V.str)/\(ys.map (·.length)).sum+ys.length*z.length<=16777216/\Q (.str (Str.join z ys)) H
theorem cT:∀ {ys:List Str} {us:List Value},Vals (ys.map V.str) us->StrsAre us ys
 | [],_,.nil=>.nil
 | y::ys,_,.cons r t=>by
  obtain⟨k,rfl⟩:=r;exact .cons y k (cT t)
theorem yT:oR X "str.join" (rJoin X.K):=by
 intro pins s σ H x xs v us Q I rx rs h;obtain⟨z,l,ys,rfl,rfl,hq,hz,q⟩:=h;obtain⟨t,rfl⟩:=rx;obtain⟨u,rfl,ru⟩:=vals1 rs;cases ru;obtain⟨its,rv,pl,_⟩:=I.list hq;refine join_list pl.isList (by simpa using cT rv) hz fun t' k=>?_
 have e:Txt.join z ys=Str.join z ys:=StrLaws.glued_eq_join z ys;rw[e];exact⟨.str _,H,I.tok _,⟨_,rfl⟩,q⟩
end
section
variable {X:Cx} {o e:Expr} {es:List Expr} {to:TE} {t:TA} {apos cpos:Pos}
end
section
variable {X:Cx} {e:Expr} {te:TE}
theorem oJ(p:Nat->Bool):∀ (l:List Nat),l.drop (l.takeWhile p).length=l.dropWhile p
 | []=>rfl
 | x::l=>by
  by_cases h:p x
  ·simp[List.takeWhile_cons,List.dropWhile_cons,h,oJ p l]
  ·simp[List.takeWhile_cons,List.dropWhile_cons,h]
end
open AutoSeq1 (wpAny_loadPart')
section
variable {prog:Program} {w:World} {A:Around} {E:Value->Shared->Prop} {s:Shared}
theorem gz{it l:Addr}{i:Nat}{items:Array Value}{x:Value}{Q:Value->Shared->Prop}(hit:s.heap.IsTupleIter it l i)(hl:s.heap.IsTuple l items)(hx:items[i]?=some x)
  (hQ:∀ h',h'.IsTupleIter it l (i+1)->Heap.SameBut it s.heap h'->Q x { s with heap:=h' }):wpAny (model prog w) A (Builtin.SmallTypes.nextOf (.ref it)) Q E s:=by
 obtain⟨o,ho,hc,hd⟩:=id hit;obtain⟨ol,hol,_,nl,hdl⟩:=hl;unfold Builtin.SmallTypes.nextOf;refine wpAny_bind (wpAny_callSpecial?_slot (name:=Str.ofString "__next__") hit.typeIs F.slot_tuple_iterator_next (wpAny_call_entry F.slot_tuple_iterator_next hit.typeIs F.entry_tuple_iterator_next ?_ (F.args_tuple_iterator_next_1 _)));show wpAny _ _ (field (.ref it) 0 >>= _) _ _ s;refine wpAny_bind (wpAny_field ho hd (x:=.ref l) rfl ?_);show wpAny _ _ (if (Value.ref l == Value.none)=true then _ else _) _ _ s
 rw[if_neg (show ¬ ((Value.ref l == Value.none)=true) from Bool.false_ne_true)];show wpAny _ _ (field (.ref it) 1 >>= _) _ _ s;refine wpAny_bind (wpAny_field ho hd (x:=.int i 0) rfl ?_);show wpAny _ _ (seqItems? (.ref l) >>= _) _ _ s;refine wpAny_bind (wpAny_seqItems hol hdl ?_);simp only[Int.toNat_natCast,hx];refine wpAny_bind (wpAny_setField ho hd (by simp) (wpAny_pure ⟨x,rfl,wpAny_pure (hQ _ ?_ (Heap.SameBut.update ..))⟩))
 exact⟨_,Heap.get?_update_self _ ho (Obj.isFreed_of_fields (Obj.data_mapFields hd _)),(Obj.cls_mapFields ..).trans hc,by rw[Obj.data_mapFields hd];simp[rawInt]⟩
theorem iw{it l:Addr}{i:Nat}{items:Array Value}{Q:Value->Shared->Prop}(hh:A.handled=none)(hit:s.heap.IsTupleIter it l i)(hl:s.heap.IsTuple l items)(hx:items[i]?=none)
  (hE:∀ h' e,Heap.ExtBut it s.heap h'->(∃ o,h'.get? e=some o/\o.cls=.type "StopIteration")->E (.ref e) { s with heap:=h' }):wpAny (model prog w) A (Builtin.SmallTypes.nextOf (.ref it)) Q E s:=by
 obtain⟨o,ho,hc,hd⟩:=id hit;obtain⟨ol,hol,_,nl,hdl⟩:=hl;unfold Builtin.SmallTypes.nextOf;refine wpAny_bind (wpAny_callSpecial?_slot (name:=Str.ofString "__next__") hit.typeIs F.slot_tuple_iterator_next (wpAny_call_entry F.slot_tuple_iterator_next hit.typeIs F.entry_tuple_iterator_next ?_ (F.args_tuple_iterator_next_1 _)));show wpAny _ _ (field (.ref it) 0 >>= _) _ _ s;refine wpAny_bind (wpAny_field ho hd (x:=.ref l) rfl ?_);show wpAny _ _ (if (Value.ref l == Value.none)=true then _ else _) _ _ s
 rw[if_neg (show ¬ ((Value.ref l == Value.none)=true) from Bool.false_ne_true)];show wpAny _ _ (field (.ref it) 1 >>= _) _ _ s;refine wpAny_bind (wpAny_field ho hd (x:=.int i 0) rfl ?_);show wpAny _ _ (seqItems? (.ref l) >>= _) _ _ s;refine wpAny_bind (wpAny_seqItems hol hdl ?_);simp only[Int.toNat_natCast,hx];refine wpAny_bind (wpAny_rule (wpAny_bind (wpAny_setField ho hd (by simp) ?_)))
 show wpAny _ _ (newExc (.type "StopIteration") [] >>= _) _ _ _;refine wpAny_bind ?_;simp only[newExc,newTuple];refine wpAny_bind (wpAny_newObj_type ?_ (by size_fits))
 refine wpAny_bind (m:=firstArgMember _ _) (wpAny_of_eq (a:=Value.none) (by first | rfl | (simp only[firstArgMember];rfl)) ?_)
 refine wpAny_newObj_type ?_ (by size_fits)
 simp only[raiseNew];refine wpAny_bind (wpAny_handled ?_)
 first | rw[show A.in1.handled=none from hh] | rw[hh]
 refine wpAny_bind (wpAny_pure (wpAny_throw ?_));exact hE _ _ (((Heap.SameBut.update ..).extBut.push _).push _) ⟨_,Heap.get?_push_size _ rfl,rfl⟩
theorem fP(hh:A.handled=none)(it l:Addr)(hne:l≠it)(items:Array Value):
  Draws prog w A it [it,l] items.size (fun i v=>items[i]?=some v) (fun i h=>h.IsTupleIter it l i/\h.IsTuple l items) where
 live:=fun _ _ st=>let ⟨o,ho,_⟩:=st.1;⟨o,ho⟩
 frame:=fun _ _ _ st hk=>⟨let ⟨o,e,r⟩:=st.1;⟨o,hk it (by simp) o e,r⟩,let ⟨o,e,r⟩:=st.2;⟨o,hk l (by simp) o e,r⟩⟩
 item:=fun i s Q E hi st hQ=>by
  refine gz st.1 st.2 (x:=items[i]) (by simp[hi]) fun h' hit' hs'=>?_
  exact hQ _ h' s.toks (by simp[hi]) ⟨hit',st.2.extBut hs'.extBut hne⟩ hs'
 done:=fun s Q E st hE=>iw hh st.1 st.2 (by simp) hE
theorem iD(l:Addr)(items:Array Value)(n:Nat)(dct:Option Addr)(sl:Array (Option Value)):
  Meets (Builtin.«enumerate.__new__» ⟨[.type "enumerate",.ref l],[]⟩) (fun _ R s=>s.heap.get? l=some { cls:=.type "tuple",dict:=dct,data:=.seq items n,slots:=sl } /\
   R (.ok (.ret (.ref (s.heap.push { cls:=.type "tuple_iterator",data:=.fields #[.ref l,.int 0 0] }).objs.size)))
    { s with heap:=(s.heap.push { cls:=.type "tuple_iterator",data:=.fields #[.ref l,.int 0 0] }).push { cls:=.type "enumerate",data:=.fields #[.none,.bool false,.ref s.heap.objs.size,rawInt 0,.none,.none] } }):=
 .of_wp fun prog w A R s h=>by
  obtain⟨hp,g,d,tk,os⟩:=s;obtain⟨hl,h⟩:=h;have hsub:=sub_enumerate;have hL:Heap.IsTuple (Shared.heap ⟨hp,g,d,tk,os⟩) l items:=⟨_,hl,rfl,n,rfl⟩;wp_walk using wpAny_loadPart' hl;refine wpAny_stack_any fun st=>wpAny_pure ?_;split
  ·rename_i c _ _ _ _ _
   cases (c == Value.type "enumerate")<;>(wp_walk using wpAny_loadPart' hl,wpAny_pyIter_tuple hL;exact⟨_,rfl,h⟩)
  ·wp_walk using wpAny_loadPart' hl,wpAny_pyIter_tuple hL;exact⟨_,rfl,h⟩
theorem iV{l:Addr}{items:Array Value}{Q:Value->Shared->Prop}(hL:s.heap.IsTuple l items)
  (h:∀ h',IsEnum h' (s.heap.objs.size+1) s.heap.objs.size 0 .none->h'.IsTupleIter s.heap.objs.size l 0->h'.objs.size=s.heap.objs.size+2 ->
   (∀ b o,s.heap.get? b=some o->h'.get? b=some o)->Q (.ref (s.heap.objs.size+1)) { s with heap:=h' }) :
  wpAny (model prog w) A (call (.type "enumerate") [.ref l]) Q E s:=by
 obtain⟨⟨c,dct,dt,sl⟩,hl,hc,n,hd⟩:=hL
 replace hc:c=.type "tuple":=hc
 replace hd:dt=.seq items n:=hd
 subst hc hd;refine callType_new F.called_enumerate (by decide) (F.typeCall_enumerate_1 _) (F.newCall_enumerate_1 _) (fun obj=>F.args_object_init_2 obj _) F.entry_enumerate_new (iD l items n dct sl) ⟨hl,?_⟩
 have hz:(s.heap.push { cls:=.type "tuple_iterator",data:=.fields #[.ref l,.int 0 0] }).objs.size=s.heap.objs.size+1:=Heap.size_push ..;show _/\_;rw[hz];have he:IsEnum ((s.heap.push { cls:=.type "tuple_iterator",data:=.fields #[.ref l,.int 0 0] }).push { cls:=.type "enumerate",data:=.fields #[.none,.bool false,.ref s.heap.objs.size,rawInt 0,.none,.none] }) (s.heap.objs.size+1) s.heap.objs.size 0 .none:=by
  have:=Heap.get?_push_size (s.heap.push { cls:=.type "tuple_iterator",data:=.fields #[.ref l,.int 0 0] }) (o:={ cls:=.type "enumerate",data:=.fields #[.none,.bool false,.ref s.heap.objs.size,rawInt 0,.none,.none] }) rfl;rw[hz] at this;exact this
 refine⟨⟨_,he,rfl⟩,h _ he ⟨_,Heap.get?_push_of_some _ (Heap.get?_push_size _ rfl),rfl,rfl⟩ (by rw[Heap.size_push,hz]) fun b o x=>Heap.get?_push_of_some _ (Heap.get?_push_of_some _ x)⟩
end
section
variable {X:Cx} {pins:List (Addr×Obj)} {σ:St} {H:Hp} {s:Shared} {h':Heap}
theorem Inv.turns{fp:List Addr}{t':Nat}(I:Inv X pins σ H s)(hf:∀ b∈fp,iW X pins H b)(k:∀ b o,b∉fp->s.heap.get? b=some o->h'.get? b=some o):Inv X pins σ H { s with heap:=h',toks:=t' }:=by
 have nf:∀ b u,H b=some u->b∉fp:=fun b u e z=>by rw[(hf b z).1] at e;cases e
 refine I.step (g':=s.gens) (d':=s.drawn) (ch:=fp) (fun b hb=>?_) (fun b o _ _ hc e _=>k b o hc e) (fun b o _ _ hc e _=>⟨o.slots,k b o hc e⟩) (fun _ _ _ _ n=>n)
  (fun b o hc e=>⟨o,k b o hc e⟩) (fun _ _ e=>e) (fun _ _ _ e=>e) (fun b ps e=>⟨#[],by rw[e];simp⟩) (fun m hm=>?_) (fun b u e=>?_) I.bare
 ·obtain⟨_,g1,g2,g3,g4,g5⟩:=hf b hb;exact⟨g3,g1,g4,g5⟩
 ·obtain⟨o,es,ep,ho,r⟩:=hm;exact⟨o,es,ep,k _ o (fun z=>(hf _ z).2.1 rfl) ho,r⟩
 ·refine (I.aS b u e).gZ (fun c v hc q=>k c v ?_ q) (fun _ q=>q) (fun _ _ q=>q) fun _ _ _ q=>q;rcases hc with z | z
  ·rw[z];exact nf b u e
  ·exact nf c _ z
theorem Inv.p9{fp:List Addr}{p:Addr}{o:HO}{t':Nat}(I:Inv X pins σ H s)(hf:∀ b∈fp,iW X pins H b)(hp:s.heap.objs.size<=p)(k:∀ b o,b∉fp->s.heap.get? b=some o->h'.get? b=some o)
  (new:b7 X.prog X.w (upd H p o) h' p o):Inv X pins σ (upd H p o) { s with heap:=h',toks:=t' }:=by
 have nf:∀ b u,H b=some u->b∉fp:=fun b u e z=>by rw[(hf b z).1] at e;cases e
 have fr:H p=none:=I.aS.fresh hp;have np:∀ b u,H b=some u->b≠p:=fun b u e=>ak e fr;have ne:∀ b o,s.heap.get? b=some o->b≠p:=fun b o e z=>by rw[z] at e;exact absurd (Nat.lt_of_lt_of_le (Heap.lt_size e) hp) (Nat.lt_irrefl _)
 refine I.step (g':=s.gens) (d':=s.drawn) (ch:=fp) (fun b hb=>?_) (fun b o _ _ hc e _=>k b o hc e) (fun b o _ _ hc e _=>⟨o.slots,k b o hc e⟩) (fun b o _ e n=>by rw[ae (ne b o e)];exact n)
  (fun b o hc e=>⟨o,k b o hc e⟩) (fun b xs e=>by rw[ae (np b _ e)];exact e) (fun b o u e=>by rw[ae (np b _ e)];exact e) (fun b ps e=>⟨#[],by rw[ae (np b _ e),e];simp⟩) (fun m hm=>?_) (fun b u e=>?_) I.bare
 ·obtain⟨_,g1,g2,g3,g4,g5⟩:=hf b hb;exact⟨g3,g1,g4,g5⟩
 ·obtain⟨o,es,ep,ho,r⟩:=hm;exact⟨o,es,ep,k _ o (fun z=>(hf _ z).2.1 rfl) ho,r⟩
 ·by_cases hb:b=p
  ·subst hb;rw[aj] at e;cases e;exact new
  ·rw[ae hb] at e;refine (I.aS b u e).gZ (fun c v hc q=>k c v ?_ q) (fun c q=>by rw[ae (np c _ q)];exact q) (fun c xs q=>by rw[ae (np c _ q)];exact q) fun c _ _ q=>by rw[ae (np c _ q)];exact q
   rcases hc with z | z
   ·rw[z];exact nf b u e
   ·exact nf c _ z
end
def Fw(K:PySem.W.Frag)(a:Addr):Nat->Hp->V->Prop:=fun i H x=>∃ xs,b6 K H a xs/\xs[i]?=some x
def Gk(K:PySem.W.Frag)(a:Addr):Nat->Hp->Prop:=fun i H=>∃ xs,b6 K H a xs/\xs.length=i
def yH(K:PySem.W.Frag)(a:Addr):It:=
 ⟨fun i H=>∃ x,Fw K a i H x,fun i H x H'=>∃ p y,(∀ xs,b6 K H a xs->xs[i]?=some y)/\H p=none/\x=.ref p/\H'=upd H p (.tup [.int i,y]),Gk K a⟩
theorem oB{P:Program}{w:World}{K:PySem.W.Frag}{es:List Expr}{tk:Nat}{tp:Pos}(a it e:Addr)(hne:e≠it):Turn P w K (.Tuple es tk tp) (yH K a) [e,it] e (fun i h=>(∃ old,IsEnum h e it i old)/\h.IsTupleIter it a i) where
 mem:=by simp
 obj:=fun i h st b hb=>by
  obtain⟨⟨old,he⟩,o,eo,c,d⟩:=st;rcases List.mem_cons.mp hb with z | z
  ·subst z;exact⟨_,he,fun v z=>by cases z⟩
  ·have z:b=it:=by simpa using z
   subst z;exact⟨o,eo,fun v z=>by rw[d] at z;cases z⟩
 keep:=fun i h h' st k=>by
  obtain⟨⟨old,he⟩,o,eo,r⟩:=st;exact⟨⟨old,k e (by simp) _ he⟩,o,k it (by simp) o eo,r⟩
 item:=by
  intro X hP hw hK hc i pins s σ H E I hf st hg;subst hP hw hK;obtain⟨x,xs,hq,hx⟩:=hg;obtain⟨⟨old,he⟩,hit⟩:=st;obtain⟨its,rv,p,hz⟩:=I.tuple hq;obtain⟨u,hu,ru⟩:=rv.get hx;obtain⟨g0,g1,g2,g3,g4,g5⟩:=hf e (by simp)
  obtain⟨f0,f1,f2,f3,f4,f5⟩:=hf it (by simp)
  have ht:s.heap.IsTuple a its.toArray:=p;have ha:a≠it:=by
   rintro rfl;obtain⟨o,e1,c1,_⟩:=hit;obtain⟨o',e2,c2,_⟩:=ht;rw[e1] at e2;cases e2;rw[c1] at c2;exact absurd (Value.type.inj c2) (by decide)
  have hea:e≠a:=by
   rintro rfl;obtain⟨o',e2,c2,_⟩:=ht;have e1:s.heap.get? e=some _:=he;rw[e1] at e2;cases e2;exact absurd (Value.type.inj c2) (by decide)
  have hi:i < its.toArray.size:=by
   have:=(List.getElem?_eq_some_iff.mp hu).1
   simpa using this
  refine wpAny_pyNext_enum_itemD (fP (A:=X.A.in1) (I.ok.hd hc) it a ha its.toArray) he ⟨hit,ht⟩ hi hne (by simp[hne,hea]) fun x' h' tk' hP ho hs' hT hsz hk=>?_
  have ex:x'=u:=by
   have hP':its.toArray[i]?=some x':=hP;rw[List.getElem?_toArray,hu] at hP';exact (Option.some.inj hP').symm
  subst ex;refine⟨.ref s.heap.objs.size,rfl,wpAny_letOwnedTupleGo_enum ho fun h2 he2 hs2=>?_⟩;have fr:H s.heap.objs.size=none:=I.aS.fresh (Nat.le_refl _);have hle:e≠s.heap.objs.size:=Nat.ne_of_lt (Heap.lt_size he);have hT2:h2.get? s.heap.objs.size=some { cls:=.type "tuple",data:=.seq #[.int i tk',x'] }:=(hs2.2 _ (Ne.symm hle)).trans hT;have I2:Inv X pins σ (upd H s.heap.objs.size (.tup [.int i,x])) { s with heap:=h2,toks:=tk'+1 }:=by
   refine I.p9 (fp:=[e,it]) hf (Nat.le_refl _) (fun b o hb eb=>?_) ⟨by show 2<=sizeLine;decide,[.int i tk',x'],.cons ⟨_,rfl⟩ (.cons ru .nil),⟨_,hT2,rfl,_,rfl,rfl⟩⟩
   have n1:b≠e:=fun z=>hb (by simp[z])
   have n2:b≠it:=fun z=>hb (by simp[z])
   exact (hs2.2 b n1).trans (hk b o n1 n2 eb)
  refine⟨.ref s.heap.objs.size,_,I2,rfl,⟨s.heap.objs.size,x,fun ys hy=>by rw[I.fF hy hq];exact hx,fr,rfl,rfl⟩,⟨⟨x',?_⟩,?_⟩,fun b hb=>?_⟩
  ·have e:(((i+1:Nat)):Int)=(i:Int)+1:=by lia
   rw[e];exact he2
  ·obtain⟨o,e1,r⟩:=hs'.1;exact⟨o,(hs2.2 it (Ne.symm hne)).trans e1,r⟩
  ·have n:b≠s.heap.objs.size:=by
    rcases List.mem_cons.mp hb with z | z
    ·subst z;exact hle
    ·have z:b=it:=by simpa using z
     subst z;obtain⟨o,e1,_⟩:=hit;exact Nat.ne_of_lt (Heap.lt_size e1)
   rw[ae n];exact (hf b hb).1
 done:=by
  intro X hP hw hK hc i pins s σ H E I hf st hg;subst hP hw hK;obtain⟨xs,hq,hx⟩:=hg;obtain⟨⟨old,he⟩,hit⟩:=st;obtain⟨its,rv,p,hz⟩:=I.tuple hq;have ht:s.heap.IsTuple a its.toArray:=p;have ha:a≠it:=by
   rintro rfl;obtain⟨o,e1,c1,_⟩:=hit;obtain⟨o',e2,c2,_⟩:=ht;rw[e1] at e2;cases e2;rw[c1] at c2;exact absurd (Value.type.inj c2) (by decide)
  have hl:=rv.length;have hsz:its.toArray.size=i:=by simp;lia
  refine wpAny_pyNext_enum_endD (fP (A:=X.A.in1) (I.ok.hd hc) it a ha its.toArray) he (by rw[hsz];exact⟨hit,ht⟩) fun h' eb=>⟨rfl,?_⟩
  exact I.turns (t':=s.toks) hf fun b o hb e1=>eb b o (fun z=>hb (by simp[z])) e1
 self:=fun A i s Q E st h=>by
  obtain⟨⟨old,he⟩,_⟩:=st;exact wpAny_pyIter_enum he h
end L2
namespace L2
open PySem PySem.Spec PyProof.Rows
section
variable {X:Cx} {es:List Expr} {tk:Nat} {tp:Pos}
def zG(K:PySem.W.Frag)(ta:TA):TI:=fun σ H R=>ta σ H fun vs H1=>∃ a,vs=[.ref a]/\(∃ xs,b6 K H1 a xs)/\R (yH K a) H1
theorem xm{e:Expr}{ta:TA}{p pos:Pos}(hg:Gl X "enumerate")(hm:X.mg "enumerate"=none)(ha:PA X [e] ta)(h1:cx e=true:=by rfl)(hv:bootBuiltins "enumerate"=some (.type "enumerate"):=by decide +kernel):
  PI X (.Tuple es tk tp) (.Call (.Name "enumerate" p) [e] [] pos) (zG X.K ta):=by
 intro pins s σ H R I h;refine Call_ (eN I hg hm hv (PyProof.Rows.callWith_type1 (bJ (ha pos pins s σ H _ I h) fun us s1 ⟨vs,H1,I1,r1,q1⟩=>?_) (cf h1) rfl));obtain⟨a,e,⟨xs,hq⟩,q⟩:=q1;subst e;obtain⟨u,rfl,ru⟩:=vals1 r1;cases ru;obtain⟨its,rv,pt,hz⟩:=I1.tuple hq;refine iV (show s1.heap.IsTuple a its.toArray from pt) fun h' he hit hsz hk=>?_;refine wpAny_pyIter_enum he ?_;have I2:Inv X pins σ H1 { s1 with heap:=h' }:=I1.kept (t':=s1.toks) hk
 refine⟨s1.heap.objs.size+1,[s1.heap.objs.size+1,s1.heap.objs.size],_,_,H1,rfl,I2,oB a s1.heap.objs.size (s1.heap.objs.size+1) (Nat.ne_of_gt (Nat.lt_succ_self _)),⟨⟨_,he⟩,hit⟩,fun b hb=>?_,q⟩;have hb':s1.heap.objs.size<=b:=by
  rcases List.mem_cons.mp hb with z | z
  ·rw[z];exact Nat.le_succ _
  ·have z:b=s1.heap.objs.size:=by simpa using z
   rw[z];exact Nat.le_refl _
 exact I1.uY hb' (I1.aS.fresh hb')
end
section
variable {K:PySem.W.Frag} {g:TG} {tb:TS} {D:Ends} {σ:St} {H:Hp} {te:TE} {Q:VK}
end
namespace Ap
theorem Gx(K:PySem.W.Frag)(b:Bool)(H:Hp)(k:Bool):w8 K (.bl b) H k=(k=b):=rfl
theorem Gr(K:PySem.W.Frag)(i:Int)(H:Hp)(k:Bool):w8 K (.int i) H k=(k=(i != 0)):=rfl
end Ap
theorem GI{α:Type}(x:α)(r:List α):bV (x::r) 0=some x:=bT (j:=0) rfl
theorem FR{α:Type}(a x:α)(r:List α):bV (a::x::r) 1=some x:=bT (j:=1) rfl
theorem G5{α:Type}(a b x:α)(r:List α):bV (a::b::x::r) 2=some x:=bT (j:=2) rfl
theorem FV{α:Type}(a b c x:α)(r:List α):bV (a::b::c::x::r) 3=some x:=bT (j:=3) rfl
namespace Ap
theorem setRef(p:Addr)(k:Int)(v:V)(H:Hp)(Q:Hp->Prop):ve (.ref p) (.int k) v H Q=(match H p with
  | some (.lst xs)=>(match k_ xs.length k with | some j=>Q (upd H p (.lst (xs.set j v))) | none=>False)
  | _=>False):=rfl
end Ap
structure QE (X:Cx) (e:Expr) (t:TE):Prop where h:PE X e t
structure QT (X:Cx) (e:Expr) (t:TT):Prop where h:PT X e t
structure QW (X:Cx) (e:Expr) (t:TT):Prop where h:PW X e t
structure QA (X:Cx) (es:List Expr) (t:TA):Prop where h:PA X es t
structure QS (X:Cx) (st:Stmt) (t:TS):Prop where h:PS X st t
structure QB (X:Cx) (sts:List Stmt) (t:TS):Prop where h:mS X sts t
structure QI (X:Cx) (tg it:Expr) (t:TI):Prop where h:PI X tg it t
structure QG (X:Cx) (e:Expr) (t:TG):Prop where h:PG X e t
structure D_ (X:Cx) (es:List Expr) (t:sg):Prop where h:CB X es t
structure QO (X:Cx) (e:Option Expr) (t:TO):Prop where h:PO X e t
structure C9 (X:Cx) (es:List Expr) (t:TT):Prop where h:Cz X es t
namespace Z
def sim(b:Expr):Bool:=match b with
 | .Name .. | .Constant .. | .Call .. | .BinOp .. | .Subscript .. | .Attribute .. | .UnaryOp .. | .Compare .. | .IfExp ..=>true
 | _=>false
theorem Gf{b:Expr}(h:sim b=true):pd b:=by
 cases b<;>first | (intro _ _;rfl) | cases h
def EV(b:Expr):Bool:=match b with
 | .Name .. | .Call .. | .Subscript .. | .Attribute ..=>true
 | _=>false
theorem ptr{b:Expr}{env:Env}(h:EV b=true):∀ whole,isTrue b env whole=(do let v <- whole;standAt b.pos;holding [v] (truthy v)):=by
 cases b<;>first | (intro _;rfl) | cases h
def zJ(b:Expr):Bool:=match b with
 | .ListComp .. | .SetComp .. | .DictComp ..=>false
 | _=>true
theorem GR{b:Expr}{tg:Option Expr}{l:Nat}{env:Env}(h:zJ b=true):swapsWith b tg l env=pure false:=by
 cases b<;>first | rfl | cases h
section
variable {X:Cx}
end
section
variable {X:Cx} {a b c e o:Expr} {es:List Expr} {ta tb tc te to:TE} {t:TA} {pos p p2:Pos} {tA tB':TT} {rest:List Expr} {x:Str}
theorem int{i:Int}{j:Nat}:QE X (.Constant (.int i) j pos) (tC (.int i)):=⟨i6⟩
theorem bl{i:Bool}{j:Nat}:QE X (.Constant (.bool i) j pos) (tC (.bl i)):=⟨ze⟩
theorem aI{j:Nat}:QE X (.Constant .none j pos) (tC .aI):=⟨vY⟩
theorem str{i:Str}{j:Nat}:QE X (.Constant (.str i) j pos) (tC (.str i)):=⟨wF⟩
theorem v(i:Nat)(hN:X.N[i]?=some x:=by rfl)(hv:BY X.env.scope x:=by first | exact Or.inl rfl | exact Or.inr (Or.inl rfl) | exact Or.inr (Or.inr rfl))(hd:(x ==("__debug__":Str))=false:=by decide)
  (hcd:(x ==("__classdict__":Str))=false:=by decide):QE X (.Name x pos) (BR i):=⟨pv i hN hv hd hcd⟩
theorem op{o:Operator}{r:R2}(ho:cO X (binaryOp o) r)(ha:QE X a ta)(hb:QE X b tb):QE X (.BinOp a o b pos) (x4 r ta tb):=⟨Dj ho ha.h hb.h⟩
theorem un{o:UnaryOp}{r:V->Hp->VK->Prop}(ho:Fq X (unaryOp o) r)(ha:QE X a ta):QE X (.UnaryOp o a pos) (GZ r ta):=⟨DQ ho ha.h⟩
theorem cmp{o:CmpOp}{r:R2}(ho:cO X (compareOp o) r)(ha:QE X a ta)(hb:QE X b tb)(hm:behindInMarks o b=false:=by rfl):QE X (.Compare a [o] [b] pos) (x4 r ta tb):=⟨xM ho ha.h hb.h hm⟩
theorem not(ha:QE X a ta):QE X (.UnaryOp .Not a pos) (zu ta):=⟨Av ha.h⟩
theorem slice{r:V->Option Int->Option Int->Hp->VK->Prop}{lo hi:Option Expr}{tl th:TO}(hr:sD X r)(he:QE X e te)(hl:QO X lo tl)(hu:QO X hi th):QE X (.Subscript e (.Slice lo hi none p2) pos) (GS r te tl th):=⟨t5 hr he.h hl.h hu.h⟩
theorem qY:QO X none o_:=⟨pF⟩
theorem sf(he:QE X e te):QO X (some e) (zP te):=⟨kP he.h⟩
theorem ix{r:R2}(hr:sA X r)(ha:QE X a ta)(hb:QE X b tb)(hs:sim b=true:=by rfl):QE X (.Subscript a b pos) (x4 r ta tb):=⟨uu hr ha.h hb.h (Gf hs)⟩
theorem tup{k:Nat}(h:QA X es t):QE X (.Tuple es k pos) (DJ t):=⟨BF h.h⟩
theorem lst(h:QA X es t):QE X (.List es pos) (Ex t):=⟨BD h.h⟩
theorem nil:QA X [] yn:=⟨wM⟩
theorem cons(ha:QE X e te)(hr:QA X es t)(h:cx e=true:=by rfl):QA X (e::es) (mf te t):=⟨Gh ha.h hr.h h⟩
theorem consts{vs:List V}(h:j9 es=some vs):QA X es (tK vs):=⟨jt h⟩
theorem cb{id:String}{r:List V->Hp->VK->Prop}(hc:aL X (.builtin id) r)(hg:Gl X x)(hm:X.mg x=none)(hv:bootBuiltins x=some (.builtin id))(ha:QA X (e::es) t)(h1:cx e=true:=by rfl)(h2:es.all cx=true:=by rfl)(hn:x≠"__name__":=by decide)(hdb:(x ==("__debug__":Str))=false:=by decide):
  QE X (.Call (.Name x p) (e::es) [] pos) (zr r t):=⟨Dr hc hg hm hv ha.h h1 h2 hn hdb⟩
theorem ct{T:String}{r:List V->Hp->VK->Prop}(hc:aL X (.type T) r)(hg:Gl X x)(hm:X.mg x=none)(hv:bootBuiltins x=some (.type T))(ha:QA X (e::es) t)(h1:cx e=true:=by rfl)(h2:es.all cx=true:=by rfl)(hn:x≠"__name__":=by decide)(hdb:(x ==("__debug__":Str))=false:=by decide):
  QE X (.Call (.Name x p) (e::es) [] pos) (zr r t):=⟨D8 hc hg hm hv ha.h h1 h2 hn hdb⟩
theorem fn{CX:kZ}{k:Nat}{ps:List Str}{sp:Sp}{E:XK}(F:ah X.prog X.w X.K X.mg X.base CX k x ps sp)(hr:bo k X.A)(hg:Gl X x)(hx:Passes CX X E)(ha:QA X (e::es) t)(h1:cx e=true:=by rfl)(h2:es.all cx=true:=by rfl)(hdb:(x ==("__debug__":Str))=false:=by decide):
  QE X (.Call (.Name x p) (e::es) [] pos) (qz sp [] E t):=⟨Ek F hr hg hx ha.h h1 h2 hdb⟩
theorem bm(K:PySem.W.Frag)(hK:X.K=K){name:Str}{apos:Pos}{T id:String}{r:V->List V->Hp->VK->Prop}(pa:PlainAttrs T)(slot:Slot T name id)(hty:typeOf (.builtin id)=pure (.type "method_descriptor"))(hm:oR X id r)(ho:QE X o to)(ha:QA X (e::es) t)
  (hbase:attributeBase o name X.env (eval o X.env)=eval o X.env:=by rfl) (hline:(apos.endLine == pos.line)=true:=by rfl) (h:(e::es).all cx=true:=by rfl) (hl:(e::es).length < 30:=by decide):QE X (.Call (.Attribute o name apos) (e::es) [] pos) (G7 K T r to t):=by
 subst hK;exact⟨Ba pa slot hty hm ho.h ha.h hbase hline h hl⟩
theorem comp{osc scope:Scope}{ON own N:List Str}{tg iter elt:Expr}{ifs:List Expr}{wi:TI}{g:TG}{tc:TT}(S:bP osc ON scope own N)(hosc:X.env.scope=osc)(hON:X.N=ON)(hc:X.calm=true)(hi:QI X tg iter wi)
  (hg:∀ C s H fp,QG (aA X scope N C s H fp) tg g) (ht:∀ C s H fp,C9 (aA X scope N C s H fp) ifs tc) (he:∀ C s H fp,QE (aA X scope N C s H fp) elt te) (hs:∀ x,foldedSetIterable iter X.env x=pure x:=by intro _;rfl) :
  QE X (.ListComp elt [⟨tg,iter,ifs,0⟩] scope pos) (jy wi own.length g tc te):=⟨yh S hosc hON hc hi.h (fun C s H fp=>(hg C s H fp).h) (fun C s H fp=>(ht C s H fp).h) (fun C s H fp=>(he C s H fp).h) hs⟩
theorem cq{o:CmpOp}{r:R2}(ho:cO X (compareOp o) r)(ha:QE X a ta)(hb:QE X b tb)(hm:behindInMarks o b=false:=by rfl):QT X (.Compare a [o] [b] pos) (uD (x4 r ta tb)):=⟨x_ ho ha.h hb.h hm⟩
theorem tw(h:QW X e tA):QT X e tA:=⟨h.h.pt⟩
theorem nH(ha:QT X a tA):QT X (.UnaryOp .Not a pos) (Ep tA):=⟨AB ha.h⟩
def Gd(K:PySem.W.Frag)(ta:TE):TT:=fun σ H Q=>ta σ H fun x H'=>∃ k,w8 K x H' k/\Q k H'
theorem Ah(K:PySem.W.Frag)(hK:X.K=K)(ha:QE X a ta)(he:EV a=true:=by rfl):QT X a (Gd K ta):=by subst hK;exact⟨uE ha.h (ptr he)⟩
theorem jH(ha:QT X a tA):QW X (.BoolOp .And [a] pos) tA:=⟨xV ha.h⟩
theorem rM(ha:QT X a tA):QW X (.BoolOp .Or [a] pos) tA:=⟨Ct ha.h⟩
theorem rE(ha:QT X a tA)(hb:QW X (.BoolOp .And (b::rest) pos) tB'):QW X (.BoolOp .And (a::b::rest) pos) (AO tA tB'):=⟨Bn ha.h hb.h⟩
theorem BE(ha:QT X a tA)(hb:QW X (.BoolOp .Or (b::rest) pos) tB'):QW X (.BoolOp .Or (a::b::rest) pos) (Gi tA tB'):=⟨Eh ha.h hb.h⟩
theorem aQ{i:Nat}(hN:X.N.Nodup)(hi:X.N[i]?=some x)(hx:Loc X.env.scope x)(hf:X.fn x=true\/X.env.scope.names.lookup x=some .local:=by first | exact .inl rfl | exact .inr rfl | assumption):QG X (.Name x pos) (cG i):=⟨y9 hN hi hx hf⟩
theorem oa(K:PySem.W.Frag)(hK:X.K=K){k n:Nat}{tg:sg}(hc:X.calm=true)(h:D_ X es tg)(hn:(assignEach es X.env).length=n:=by rfl)(hst:(assignEach es X.env).findIdx? (·.1)=none:=by rfl):QG X (.Tuple es k pos) (vA K n tg):=by subst hK;exact⟨u0 hc h.h hn hst⟩
theorem fX:D_ X [] w6:=⟨x5⟩
theorem cu{g:TG}{u:sg}(h1:QG X e g)(h2:D_ X es u)(hs:(assignEach (e::es) X.env).map (·.2)=assign e X.env::(assignEach es X.env).map (·.2):=by rfl):D_ X (e::es) (gn g u):=⟨uO h1.h h2.h hs⟩
theorem sF{i:Expr}{ti:TE}(ho:QE X o to)(hi:QE X i ti)
  (ha:∀ v,assign (.Subscript o i pos) X.env v=(do
   let ov <- holding [v] (eval o X.env)
   let iv <- holding [v,ov] (eval i X.env)
   standAt pos
   holding [v,ov,iv] (setItem ov iv v)
   release [v,ov,iv] []):=by intro _;rfl):QG X (.Subscript o i pos) (CN to ti ve):=⟨Bs ho.h hi.h uset ha⟩
theorem ip{tg:Expr}{ta:TA}(hg:Gl X "range")(hm:X.mg "range"=none)(ha:QA X [a] ta)(h:cx a=true:=by rfl):QI X tg (.Call (.Name "range" p) [a] [] pos) (vF ta):=⟨ni hg hm ha.h h⟩
theorem B6{tg:Expr}{ta:TA}(hg:Gl X "range")(hm:X.mg "range"=none)(ha:QA X [a,b] ta)(h:cx a=true:=by rfl)(h2:cx b=true:=by rfl):QI X tg (.Call (.Name "range" p) [a,b] [] pos) (uL ta):=⟨oh hg hm ha.h h h2⟩
theorem enum(K:PySem.W.Frag)(hK:X.K=K){k:Nat}{tp:Pos}{ta:TA}(hg:Gl X "enumerate")(hm:X.mg "enumerate"=none)(ha:QA X [e] ta)(h1:cx e=true:=by rfl):QI X (.Tuple es k tp) (.Call (.Name "enumerate" p) [e] [] pos) (zG K ta):=by subst hK;exact⟨xm hg hm ha.h h1⟩
theorem la:C9 X [] zo:=⟨xu⟩
theorem GH(h:QT X c tA):C9 X [c] tA:=⟨yc h.h⟩
end
section
variable {X:Cx} {e o tg:Expr} {te to:TE} {st:Stmt} {sts xs ys:List Stmt} {t u:TS} {pos pos':Pos} {x:Str}
theorem df:QB X [] yZ:=⟨xc⟩
theorem aX(h:QS X st t):QB X [st] t:=⟨yu h.h⟩
theorem ai(h:QS X st t)(h2:QB X sts u):QB X (st::sts) (E5 t u):=⟨tM h.h h2.h⟩
theorem set{i:Nat}(hN:X.N.Nodup)(hi:X.N[i]?=some x)(hx:Loc X.env.scope x)(he:QE X e te)(hs:zJ e=true:=by rfl)(hf:X.fn x=true\/X.env.scope.names.lookup x=some .local:=by first | exact .inl rfl | exact .inr rfl | assumption):
  QS X (.Assign [.Name x pos'] e pos) (m5 te (cG i)):=⟨Bq hN hi hx he.h (GR hs) hf⟩
theorem setC{osc scope:Scope}{ON own N:List Str}{tg iter elt:Expr}{ifs:List Expr}{p2:Pos}{wi:TI}{g:TG}{tc:TT}{j:Nat}(hN:X.N.Nodup)(hj:X.N[j]?=some x)(hx:Loc X.env.scope x)(S:bP osc ON scope own N)(hosc:X.env.scope=osc)(hON:X.N=ON)(hc:X.calm=true)(hi:QI X tg iter wi)
  (hg:∀ C s H fp,QG (aA X scope N C s H fp) tg g) (ht:∀ C s H fp,C9 (aA X scope N C s H fp) ifs tc) (he:∀ C s H fp,QE (aA X scope N C s H fp) elt te)
  (hsw:swapsWith (.ListComp elt [⟨tg,iter,ifs,0⟩] scope p2) (some (.Name x pos')) pos.line X.env=pure true:=by rfl)
  (hf:X.fn x=true\/X.env.scope.names.lookup x=some .local:=by first | exact .inl rfl | exact .inr rfl | assumption) (hs:∀ x,foldedSetIterable iter X.env x=pure x:=by intro _;rfl) :
  QS X (.Assign [.Name x pos'] (.ListComp elt [⟨tg,iter,ifs,0⟩] scope p2) pos) (m5 (jy wi own.length g tc te) (cG j)):=⟨nj hN hj hx S hosc hON hc hi.h (fun C s H fp=>(hg C s H fp).h) (fun C s H fp=>(ht C s H fp).h) (fun C s H fp=>(he C s H fp).h) hsw hf hs⟩
theorem asg{g:TG}(he:QE X e te)(hg:QG X tg g)(hs:swapsWithSole [tg] e pos.line X.env=pure false:=by rfl)(hw:swappedStores [tg] e X.env=pure none:=by rfl)
  (h1:(assignEach [tg] X.env).map (·.2)=[assign tg X.env]:=by rfl):QS X (.Assign [tg] e pos) (m5 te g):=⟨Bg he.h hg.h hs hw h1⟩
theorem ret(he:QE X e te):QS X (.Return (some e) pos) (Dq te):=⟨Ao he.h⟩
theorem expr(he:QE X e te)(hs:zJ e=true:=by rfl):QS X (.Expr e pos) (zM te):=⟨xA he.h (GR hs)⟩
theorem jc{c:Expr}{tc:TT}(hc:QT X c tc)(ha:QB X xs t)(hb:QB X ys u):QS X (.If c xs ys pos) (DC tc t u):=⟨EH hc.h ha.h hb.h⟩
theorem iG{iter:Expr}{wi:TI}{g:TG}(hp:PassesOwn (model X.prog X.w) X.A X.env X.xe)(hc:X.calm=true)(hi:QI X tg iter wi)(hg:QG X tg g)(hb:QB X xs t)(hs:∀ x,foldedSetIterable iter X.env x=pure x:=by intro _;rfl):QS X (.For tg iter xs [] pos) (DU wi g t):=⟨BS hp hc hi.h hg.h hb.h hs⟩
theorem jS{c:Expr}{tc:TT}(hp:PassesOwn (model X.prog X.w) X.A X.env X.xe)(hc:QT X c tc)(hb:QB X xs t):QS X (.While c xs [] pos) (wC tc t):=⟨uJ hp hc.h hb.h⟩
end
end Z
namespace Ap
end Ap
theorem HasFn.Ho{P:Program}{w:World}{K:PySem.W.Frag}{mg:Str->Option Value}{base:Heap}{x:Str}{st:Stmt}{N ps:List Str}{k:Nat}{sp:Sp}(F:HasFn K mg x st ps)(S:ax N ps (aa st))(len:∀ vs H Q E,sp vs H Q E->vs.length=ps.length)
  (hbody:∀ (f:Addr) (cdv:Value) (A:Around) (outer:List Env) (s:Shared) (H:Hp) (vs:List V) (Q:VK) (E:XK),bo k (A.deeper (envOfC x (aa st) s.heap.objs.size f cdv))->sp vs H Q E ->
   ∃ t,QB (fk cw P w K mg base N x (aa st) f cdv A outer s H E).yD (ao st) t/\t { nx:=fun _ H'=>Q .aI H',rt:=Q } (start N vs) H):ah P w K mg base cw (k+1) x ps sp:=
 F.ok S len fun f cdv A outer s H vs Q E hr h=>let ⟨t,q,r⟩:=hbody f cdv A outer s H vs Q E hr h;⟨t,q.h,r⟩
theorem yG{P:Program}{w:World}{K:PySem.W.Frag}{mg:Str->Option Value}{base:Heap}{x:Str}{st:Stmt}{N ps:List Str}{k:Nat}{sp:Sp}{f:Addr}{fd:FuncData}(F:wV K x x st f fd)(S:ax N ps (aa st))(len:∀ vs H Q E,sp vs H Q E->vs.length=ps.length)
  (hbody:∀ (cdv:Value) (A:Around) (outer:List Env) (s:Shared) (H:Hp) (vs:List V) (Q:VK) (E:XK),bo k (A.deeper (envOfC x (aa st) s.heap.objs.size f cdv))->sp vs H Q E ->
   ∃ t,QB (fk cw P w K mg base N x (aa st) f cdv A outer s H E).yD (ao st) t/\t { nx:=fun _ H'=>Q .aI H',rt:=Q } (start N vs) H):dg P w K mg base cw (k+1) f fd ps sp:=
 F.ok S len fun cdv A outer s H vs Q E hr h=>let ⟨t,q,r⟩:=hbody cdv A outer s H vs Q E hr h;⟨t,q.h,r⟩
def jd(e:Addr)(cls:Value)(d:Option Addr)(h:Heap):Prop:=∃ o vs,h.get? e=some o/\o.cls=cls/\o.dict=d/\o.data=.fields vs
inductive T where
 | aI | bl (b:Bool) | int (i:Int) | str (x:Str) | tup (ts:List T) | lst (ts:List T) | d7 (ts:List T) | dk (lo hi:Int) | gm (ts:List T) | mO (ks:List Key) (ts:List T) | exc (c:Value) (f:Option (Str×Int))
noncomputable abbrev aJ:=Addr->Prop
def GQ(K:PySem.W.Frag)(a:Addr)(xs:List V):Prop:=∃ (o:Obj) (its:Array Value) (n:Nat),K.lookup a=some o/\o.cls=.type "tuple"/\o.data=.seq its n/\its.size<=sizeLine/\Vals xs its.toList
def Hb(K:PySem.W.Frag)(a:Addr)(xs:List V):Prop:=∃ (o:Obj) (its:Array Value) (n:Nat),K.lookup a=some o/\o.cls=.type "list"/\o.dict=none/\o.data=.seq its n/\its.size<=sizeLine/\Vals xs its.toList
def LB(K:PySem.W.Frag)(H:Hp)(B:aJ)(a:Addr)(xs:List V):Prop:=(¬ B a/\Rd H a (.lst xs))\/Hb K a xs
mutual
inductive Rep (K:PySem.W.Frag) (H:Hp) (B:aJ):V->T->Prop
 | aI:Rep K H B .aI .aI
 | bl (b:Bool):Rep K H B (.bl b) (.bl b)
 | int (i:Int):Rep K H B (.int i) (.int i)
 | str (x:Str):Rep K H B (.str x) (.str x)
 | tup {a:Addr} {vs:List V} {ts:List T} (n:¬ B a) (h:H a=some (.tup vs)) (r:af K H B vs ts):Rep K H B (.ref a) (.tup ts)
 | gm {a:Addr} {vs:List V} {ts:List T} (h:GQ K a vs) (r:af K H B vs ts):Rep K H B (.ref a) (.gm ts)
 | lst {a:Addr} {vs:List V} {ts:List T} (n:¬ B a) (h:H a=some (.lst vs)) (r:af K H B vs ts):Rep K H B (.ref a) (.lst ts)
 | d7 {a:Addr} {vs:List V} {ts:List T} (h:LB K H B a vs) (r:af K H B vs ts):Rep K H B (.ref a) (.d7 ts)
 | dk {a:Addr} {lo hi:Int} (n:¬ B a) (h:H a=some (.dk lo hi)):Rep K H B (.ref a) (.dk lo hi)
 | mO {a:Addr} {ks:List Key} {vs:List V} {ts:List T} (n:¬ B a) (h:Rd H a (.dK (ks.zip vs))) (l:ks.length=vs.length) (r:af K H B vs ts):Rep K H B (.ref a) (.mO ks ts)
 | exc {a:Addr} {c:Value} (n:¬ B a) (h:H a=some (.ext (jd a c none))):Rep K H B (.ref a) (.exc c none)
 | BO {a d:Addr} {c:Value} {x:Str} {i:Int} (n:¬ B a) (h:H a=some (.ext (jd a c (some d)))) (m:¬ B d) (g:H d=some (.xd [(x,.int i)])):Rep K H B (.ref a) (.exc c (some (x,i)))
inductive af (K:PySem.W.Frag) (H:Hp) (B:aJ):List V->List T->Prop
 | nil:af K H B [] []
 | cons {v:V} {t:T} {vs:List V} {ts:List T} (h:Rep K H B v t) (r:af K H B vs ts):af K H B (v::vs) (t::ts)
end
def Fr(B:aJ)(H:Hp)(B':aJ)(H':Hp):Prop:=∀ b o,H b=some o->¬ B b->H' b=some o/\¬ B' b
theorem Fr.refl{B:aJ}{H:Hp}:Fr B H B H:=fun _ _ h n=>⟨h,n⟩
theorem Fr.trans{B B1 B2:aJ}{H H1 H2:Hp}(a:Fr B H B1 H1)(b:Fr B1 H1 B2 H2):Fr B H B2 H2:=fun c o h n=>let ⟨h1,n1⟩:=a c o h n;b c o h1 n1
theorem Fr.same{B:aJ}{H H':Hp}(s:bC H H'):Fr B H B H':=fun b o h n=>⟨s b o h,n⟩
theorem Fr.less{B B':aJ}{H:Hp}(s:∀ b,B' b->B b):Fr B H B' H:=fun b o h n=>⟨h,fun z=>n (s b z)⟩
theorem Fr.set{B:aJ}{H:Hp}{a:Addr}{o:HO}(h:B a):Fr B H B (upd H a o):=fun b u e n=>⟨by rw[ae (by rintro rfl;exact n h)];exact e,n⟩
theorem bC.new{H:Hp}{p:Addr}{o:HO}(h:H p=none):bC H (upd H p o):=fun b u e=>by rw[ae (ak e h)];exact e
theorem Fr.more{B:aJ}{H:Hp}{p:Addr}{o:HO}(h:H p=none):Fr B H (fun b=>b=p\/B b) (upd H p o):=fun b u e n=>⟨bC.new h b u e,fun z=>z.elim (ak e h) n⟩
theorem Rd.fr{B B':aJ}{H H':Hp}{a:Addr}{u:HO}(f:Fr B H B' H')(n:¬ B a)(h:Rd H a u):¬ B' a/\Rd H' a u:=by
 rcases h with h | ⟨o,h⟩
 ·exact⟨(f a _ h n).2,.inl (f a _ h n).1⟩
 ·exact⟨(f a _ h n).2,.inr ⟨o,(f a _ h n).1⟩⟩
section
variable {K:PySem.W.Frag} {H H':Hp} {B B':aJ}
theorem LB.fr{a:Addr}{xs:List V}(f:Fr B H B' H')(h:LB K H B a xs):LB K H' B' a xs:=h.elim (fun z=>.inl (z.2.fr f z.1)) .inr
theorem LB.sq{a:Addr}{xs:List V}(h:LB K H B a xs):bB K H a xs:=h.elim (fun z=>.inl z.2) .inr
mutual
theorem Rep.fr(f:Fr B H B' H'):∀ {v:V} {t:T},Rep K H B v t->Rep K H' B' v t
 | _,_,.aI=>.aI
 | _,_,.bl b=>.bl b
 | _,_,.int i=>.int i
 | _,_,.str x=>.str x
 | _,_,.tup n h r=>.tup (f _ _ h n).2 (f _ _ h n).1 (af.fr f r)
 | _,_,.gm h r=>.gm h (af.fr f r)
 | _,_,.lst n h r=>.lst (f _ _ h n).2 (f _ _ h n).1 (af.fr f r)
 | _,_,.d7 h r=>.d7 (h.fr f) (af.fr f r)
 | _,_,.dk n h=>.dk (f _ _ h n).2 (f _ _ h n).1
 | _,_,.mO n h l r=>.mO (Rd.fr f n h).1 (Rd.fr f n h).2 l (af.fr f r)
 | _,_,.exc n h=>.exc (f _ _ h n).2 (f _ _ h n).1
 | _,_,.BO n h m g=>.BO (f _ _ h n).2 (f _ _ h n).1 (f _ _ g m).2 (f _ _ g m).1
theorem af.fr(f:Fr B H B' H'):∀ {vs:List V} {ts:List T},af K H B vs ts->af K H' B' vs ts
 | _,_,.nil=>.nil
 | _,_,.cons h r=>.cons (Rep.fr f h) (af.fr f r)
end
theorem af.length:∀ {vs:List V} {ts:List T},af K H B vs ts->vs.length=ts.length
 | _,_,.nil=>rfl
 | _,_,.cons _ r=>congrArg (·+1) (af.length r)
theorem af.get:∀ {vs:List V} {ts:List T} {i:Nat} {t:T},af K H B vs ts->ts[i]?=some t->∃ v,vs[i]?=some v/\Rep K H B v t
 | _,_,_,_,.nil,e=>by simp at e
 | _,_,0,_,.cons h _,e=>by simp at e;subst e;exact⟨_,rfl,h⟩
 | _,_,i+1,_,.cons _ r,e=>by
  obtain⟨v,e1,h⟩:=af.get r (by simpa using e)
  exact⟨v,by simpa using e1,h⟩
theorem af.append:∀ {vs ws:List V} {ts us:List T},af K H B vs ts->af K H B ws us->af K H B (vs++ws) (ts++us)
 | _,_,_,_,.nil,s=>s
 | _,_,_,_,.cons h r,s=>.cons h (af.append r s)
theorem af.take:∀ {vs:List V} {ts:List T} (n:Nat),af K H B vs ts->af K H B (vs.take n) (ts.take n)
 | _,_,0,_=>.nil
 | _,_,_+1,.nil=>.nil
 | _,_,n+1,.cons h r=>.cons h (af.take n r)
theorem af.drop:∀ {vs:List V} {ts:List T} (n:Nat),af K H B vs ts->af K H B (vs.drop n) (ts.drop n)
 | _,_,0,r=>r
 | _,_,_+1,.nil=>.nil
 | _,_,n+1,.cons _ r=>af.drop n r
theorem af.set:∀ {vs:List V} {ts:List T} {v:V} {t:T} (i:Nat),Rep K H B v t->af K H B vs ts->af K H B (vs.set i v) (ts.set i t)
 | _,_,_,_,_,_,.nil=>.nil
 | _,_,_,_,0,h,.cons _ r=>.cons h r
 | _,_,_,_,i+1,h,.cons q r=>.cons q (af.set i h r)
theorem af.rep{vs:List V}{ts:List T}(r:af K H B vs ts):∀ n:Nat,af K H B (List.replicate n vs).flatten (List.replicate n ts).flatten
 | 0=>.nil
 | n+1=>by rw[List.replicate_succ,List.replicate_succ,List.flatten_cons,List.flatten_cons];exact r.append (af.rep r n)
theorem af.erase:∀ {vs:List V} {ts:List T} (i:Nat),af K H B vs ts->af K H B (vs.eraseIdx i) (ts.eraseIdx i)
 | _,_,_,.nil=>.nil
 | _,_,0,.cons _ r=>r
 | _,_,i+1,.cons h r=>.cons h (af.erase i r)
theorem af.bV{vs:List V}{ts:List T}{i:Int}{t:T}(r:af K H B vs ts)(e:L2.bV ts i=some t):∃ v,L2.bV vs i=some v/\Rep K H B v t:=by
 unfold L2.bV at e ⊢;rw[r.length]
 cases q:k_ ts.length i with
 | none=>rw[q] at e;cases e
 | some j=>rw[q] at e;exact r.get e
end
def bM:T->Bool
 | .aI | .bl _ | .int _ | .str _=>true
 | _=>false
theorem Rep.flat{K:PySem.W.Frag}{H H':Hp}{B B':aJ}{v:V}{t:T}(h:Rep K H B v t)(f:bM t=true):Rep K H' B' v t:=by
 cases h with
 | aI=>exact .aI
 | bl b=>exact .bl b
 | int i=>exact .int i
 | str x=>exact .str x
 | tup=>cases f
 | gm=>cases f
 | lst=>cases f
 | d7=>cases f
 | dk=>cases f
 | mO=>cases f
 | exc=>cases f
 | BO=>cases f
theorem af.flat{K:PySem.W.Frag}{H H':Hp}{B B':aJ}:∀ {vs:List V} {ts:List T},af K H B vs ts->ts.all bM=true->af K H' B' vs ts
 | _,_,.nil,_=>.nil
 | _,_,.cons h r,f=>by
  rw[List.all_cons,Bool.and_eq_true] at f;exact .cons (h.flat f.1) (af.flat r f.2)
def Bx(K:PySem.W.Frag)(H:Hp)(B:aJ)(a:Addr)(c:T):Prop:=match c with
 | .lst ts=>∃ vs,H a=some (.lst vs)/\af K H B vs ts
 | .mO ks ts=>∃ vs,H a=some (.dK (ks.zip vs))/\ks.length=vs.length/\af K H B vs ts
 | _=>False
theorem Bx.er{K:PySem.W.Frag}{H:Hp}{B:aJ}{a:Addr}{c:T}(h:Bx K H B a c):∃ o,H a=some o:=by
 unfold Bx at h
 split at h
 ·obtain⟨vs,e,_⟩:=h;exact⟨_,e⟩
 ·obtain⟨vs,e,_⟩:=h;exact⟨_,e⟩
 ·exact h.elim
theorem Bx.of{K:PySem.W.Frag}{H H':Hp}{B B':aJ}{a:Addr}{c:T}(h:Bx K H B a c)(e:H' a=H a)(f:Fr B H B' H'):Bx K H' B' a c:=by
 unfold Bx at h ⊢
 split at h
 ·obtain⟨vs,q,r⟩:=h;exact⟨vs,e.trans q,r.fr f⟩
 ·obtain⟨vs,q,l,r⟩:=h;exact⟨vs,e.trans q,l,r.fr f⟩
 ·exact h.elim
theorem Bx.is{K:PySem.W.Frag}{H:Hp}{B:aJ}{a:Addr}{c:T}(h:Bx K H B a c):(∃ ts vs,c=.lst ts/\H a=some (.lst vs)/\af K H B vs ts)\/∃ ks ts vs,c=.mO ks ts/\H a=some (.dK (ks.zip vs))/\ks.length=vs.length/\af K H B vs ts:=by
 unfold Bx at h
 split at h
 ·obtain⟨vs,q,r⟩:=h;exact .inl ⟨_,vs,rfl,q,r⟩
 ·obtain⟨vs,q,l,r⟩:=h;exact .inr ⟨_,_,vs,rfl,q,l,r⟩
 ·exact h.elim
theorem Bx.rep{K:PySem.W.Frag}{H:Hp}{B:aJ}{a:Addr}{c:T}(h:Bx K H B a c)(n:¬ B a):Rep K H B (.ref a) c:=by
 rcases h.is with ⟨ts,vs,rfl,e,r⟩ | ⟨ks,ts,vs,rfl,e,l,r⟩
 ·exact .lst n e r
 ·exact .mO n (.inl e) l r
inductive Sl where
 | un | tr (t:T) | bx (c:T) | pb (c:T)
noncomputable abbrev Mu:=List Sl
inductive R where
 | tr (t:T) | br (i:Nat) | fr (c:T)
structure Fx where
 K:PySem.W.Frag
 H0:Hp
 P:Nat->Option Addr
 Bc:aJ
 bh:∀ b,Bc b->∃ o,H0 b=some o
 G:Addr->Option (List V)
def gy(F:Fx)(ad:Nat->Addr)(B:aJ)(H:Hp)(i:Nat)(s:Sl)(x:Option (Option V)):Prop:=match s with
 | .un=>True
 | .tr t=>∃ v,x=some (some v)/\Rep F.K H B v t
 | .bx c=>x=some (some (.ref (ad i)))/\B (ad i)/\F.H0 (ad i)=none/\F.P i=none/\Bx F.K H B (ad i) c
 | .pb c=>x=some (some (.ref (ad i)))/\B (ad i)/\F.P i=some (ad i)/\Bx F.K H B (ad i) c
def Sl.box:Sl->Option T
 | .bx c=>some c
 | .pb c=>some c
 | _=>none
structure Rl (F:Fx) (ad:Nat->Addr) (B:aJ) (σ:St) (H:Hp) (μ:Mu):Prop where
 len:μ.length=σ.length
 slot:∀ i s,μ[i]?=some s->gy F ad B H i s σ[i]?
 inj:∀ i j s u c d,μ[i]?=some s->μ[j]?=some u->s.box=some c->u.box=some d->ad i=ad j->i=j
 par:∀ i a,F.P i=some a->(∃ c,μ[i]?=some (.pb c))/\ad i=a
 bc:∀ b,F.Bc b->B b
 er:∀ b,B b->∃ o,H b=some o
 old:∀ b o,F.H0 b=some o->(∀ i,F.P i≠some b)->H b=some o
 gh:∀ a vs,F.G a=some vs->H a=some (.lst vs)/\B a/\∀ (i:Nat) (s:Sl) (c:T),μ[i]?=some s->s.box=some c->ad i≠a
theorem gy.boxed{F:Fx}{ad:Nat->Addr}{B:aJ}{H:Hp}{i:Nat}{s:Sl}{x:Option (Option V)}{c:T}(h:gy F ad B H i s x)(e:s.box=some c):x=some (some (.ref (ad i)))/\B (ad i)/\Bx F.K H B (ad i) c/\(F.P i=some (ad i)\/F.H0 (ad i)=none):=by
 unfold gy at h
 split at h
 ·cases e
 ·cases e
 ·cases e;exact⟨h.1,h.2.1,h.2.2.2.2,.inr h.2.2.1⟩
 ·cases e;exact⟨h.1,h.2.1,h.2.2.2,.inl h.2.2.1⟩
def Hv(F:Fx)(ad:Nat->Addr)(B:aJ)(H:Hp)(μ:Mu)(v:V)(r:R):Prop:=match r with
 | .tr t=>Rep F.K H B v t
 | .br i=>v=.ref (ad i)/\∃ s c,μ[i]?=some s/\s.box=some c
 | .fr _=>False
def more(B:aJ)(a:Addr):aJ:=fun b=>b=a\/B b
def Vr(F:Fx)(ad:Nat->Addr)(B:aJ)(σ:St)(H:Hp)(μ:Mu)(v:V)(r:R):Prop:=match r with
 | .fr c=>Rl F ad B σ H μ/\∃ a,v=.ref a/\¬ B a/\F.H0 a=none/\Rl F ad (more B a) σ H μ/\Bx F.K H (more B a) a c
 | r=>Rl F ad B σ H μ/\Hv F ad B H μ v r
def R.d:R->R
 | .fr c=>.tr c
 | r=>r
section
variable {F:Fx} {ad:Nat->Addr} {B B':aJ} {σ:St} {H H':Hp} {μ:Mu} {v:V} {r:R}
theorem Rl.y8(h:Rl F ad B σ H μ){p:Addr}(e:H p=none):F.H0 p=none:=by
 cases q:F.H0 p with
 | none=>rfl
 | some o =>
  by_cases z:∃ i,F.P i=some p
  ·obtain⟨i,z⟩:=z;obtain⟨⟨c,hc⟩,ha⟩:=h.par i p z;have:=(h.slot i _ hc).boxed (c:=c) rfl;obtain⟨o',e'⟩:=h.er _ this.2.1;rw[ha,e] at e';cases e'
  ·have:=h.old p o q fun i zi=>z ⟨i,zi⟩;rw[e] at this;cases this
theorem Rl.jY(h:Rl F ad B σ H μ){p:Addr}(e:H p=none):¬ B p:=fun z=>by
 obtain⟨o,q⟩:=h.er p z;rw[e] at q;cases q
theorem Rl.fr(h:Rl F ad B σ H μ)(s:bC H H')(hB:∀ b,B b->B' b)(hT:∀ b,B' b->∃ o,H' b=some o)(f:Fr B H B' H'):Rl F ad B' σ H' μ:=by
 refine⟨h.len,fun i s' e=>?_,h.inj,h.par,fun b z=>hB b (h.bc b z),hT,fun b o e n=>s b o (h.old b o e n),fun a vs e=>let ⟨g1,g2,g3⟩:=h.gh a vs e;⟨s a _ g1,hB a g2,g3⟩⟩
 have k:=h.slot i s' e;unfold gy at k ⊢
 split at k
 ·trivial
 ·obtain⟨v,e1,r⟩:=k;exact⟨v,e1,r.fr f⟩
 ·obtain⟨e1,b,z,p,x⟩:=k;obtain⟨o,q⟩:=x.er;exact⟨e1,hB _ b,z,p,x.of ((s _ _ q).trans q.symm) f⟩
 ·obtain⟨e1,b,p,x⟩:=k;obtain⟨o,q⟩:=x.er;exact⟨e1,hB _ b,p,x.of ((s _ _ q).trans q.symm) f⟩
theorem Rl.same(h:Rl F ad B σ H μ)(s:bC H H'):Rl F ad B σ H' μ:=h.fr s (fun _ z=>z) (fun b z=>let ⟨o,e⟩:=h.er b z;⟨o,s b o e⟩) (Fr.same s)
theorem Rl.new(h:Rl F ad B σ H μ){p:Addr}{o:HO}(e:H p=none):Rl F ad (more B p) σ (upd H p o) μ:=
 h.fr (bC.new e) (fun _ z=>.inr z) (fun b z=>z.elim (fun q=>by subst q;exact⟨o,aj⟩) fun q=>let ⟨u,w⟩:=h.er b q;⟨u,bC.new e b u w⟩) (Fr.more e)
theorem Rl.less(h:Rl F ad B σ H μ)(s:∀ b,B' b->B b)(hb:∀ b,F.Bc b->B' b)(own:∀ i s' c,μ[i]?=some s'->s'.box=some c->B' (ad i))(hg:∀ a vs,F.G a=some vs->B' a):Rl F ad B' σ H μ:=by
 refine⟨h.len,fun i s' e=>?_,h.inj,h.par,hb,fun b z=>h.er b (s b z),h.old,fun a vs e=>let ⟨g1,g2,g3⟩:=h.gh a vs e;⟨g1,hg a vs e,g3⟩⟩
 have k:=h.slot i s' e;unfold gy at k ⊢
 split at k
 ·trivial
 ·obtain⟨v,e1,r⟩:=k;exact⟨v,e1,r.fr (Fr.less s)⟩
 ·obtain⟨e1,b,z,p,x⟩:=k;exact⟨e1,own i _ _ e rfl,z,p,x.of rfl (Fr.less s)⟩
 ·obtain⟨e1,b,p,x⟩:=k;exact⟨e1,own i _ _ e rfl,p,x.of rfl (Fr.less s)⟩
theorem Vr.rl(h:Vr F ad B σ H μ v r):Rl F ad B σ H μ:=by
 cases r with
 | tr t=>exact h.1
 | br i=>exact h.1
 | fr c=>exact h.1
theorem Vr.hv(h:Vr F ad B σ H μ v r):Hv F ad B H μ v r.d:=by
 cases r with
 | tr t=>exact h.2
 | br i=>exact h.2
 | fr c =>
  obtain⟨_,a,rfl,n,_,_,x⟩:=h;exact (x.of rfl (Fr.less fun _ z=>.inr z)).rep n
def Kp(μ μ':Mu):Prop:=∀ i:Nat,((μ[i]?).bind Sl.box).isSome=((μ'[i]?).bind Sl.box).isSome
theorem Kp.refl(μ:Mu):Kp μ μ:=fun i=>rfl
theorem Kp.trans{μ μ1 μ2:Mu}(a:Kp μ μ1)(b:Kp μ1 μ2):Kp μ μ2:=fun i=>(a i).trans (b i)
theorem Kp.symm{μ μ1:Mu}(a:Kp μ μ1):Kp μ1 μ:=fun i=>(a i).symm
theorem Kp.fwd{μ μ':Mu}(k:Kp μ μ'):∀ (i:Nat) (s:Sl) (c:T),μ[i]?=some s->s.box=some c->∃ (s':Sl) (c':T),μ'[i]?=some s'/\s'.box=some c':=fun i s c e b=>by
 have h:=k i;rw[e] at h;have h1:(s.box).isSome=((μ'[i]?).bind Sl.box).isSome:=h;rw[b] at h1
 cases q:μ'[i]? with
 | none=>rw[q] at h1;cases h1
 | some s' =>
  rw[q] at h1;have h2:true=(s'.box).isSome:=h1
  cases q2:s'.box with
  | none=>rw[q2] at h2;cases h2
  | some c'=>exact⟨s',c',rfl,q2⟩
theorem Kp.set{μ:Mu}{i:Nat}{s s':Sl}{c d:T}(e:μ[i]?=some s)(b:s.box=some c)(b':s'.box=some d):Kp μ (μ.set i s'):=fun j=>by
 have hi:i < μ.length:=(List.getElem?_eq_some_iff.mp e).1;by_cases z:i=j
 ·subst z;rw[List.getElem?_set_self hi,e];show (s.box).isSome=(s'.box).isSome;rw[b,b'];rfl
 ·rw[List.getElem?_set_ne z]
theorem Hv.fr{ad:Nat->Addr}{μ':Mu}(h:Hv F ad B H μ v r)(f:Fr B H B' H')(k:Kp μ μ'):Hv F ad B' H' μ' v r:=by
 cases r with
 | tr t=>exact Rep.fr f h
 | br i=>obtain⟨e,s,c,h1,h2⟩:=h;exact⟨e,k.fwd i s c h1 h2⟩
 | fr c=>exact h.elim
def cont(μ:Mu):R->Option T
 | .tr t=>some t
 | .br i=>(μ[i]?).bind Sl.box
 | .fr c=>some c
inductive Vw (K:PySem.W.Frag) (H:Hp) (B:aJ):V->T->Prop
 | aI:Vw K H B .aI .aI
 | bl (b:Bool):Vw K H B (.bl b) (.bl b)
 | int (i:Int):Vw K H B (.int i) (.int i)
 | str (x:Str):Vw K H B (.str x) (.str x)
 | tup {a:Addr} {vs:List V} {ts:List T} (h:H a=some (.tup vs)) (r:af K H B vs ts):Vw K H B (.ref a) (.tup ts)
 | gm {a:Addr} {vs:List V} {ts:List T} (h:GQ K a vs) (r:af K H B vs ts):Vw K H B (.ref a) (.gm ts)
 | lst {a:Addr} {vs:List V} {ts:List T} (h:H a=some (.lst vs)) (r:af K H B vs ts):Vw K H B (.ref a) (.lst ts)
 | d7 {a:Addr} {vs:List V} {ts:List T} (h:bB K H a vs) (r:af K H B vs ts):Vw K H B (.ref a) (.d7 ts)
 | dk {a:Addr} {lo hi:Int} (h:H a=some (.dk lo hi)):Vw K H B (.ref a) (.dk lo hi)
 | mO {a:Addr} {ks:List Key} {vs:List V} {ts:List T} (h:Rd H a (.dK (ks.zip vs))) (l:ks.length=vs.length) (r:af K H B vs ts):Vw K H B (.ref a) (.mO ks ts)
 | exc {a:Addr} {c:Value} (h:H a=some (.ext (jd a c none))):Vw K H B (.ref a) (.exc c none)
 | BO {a d:Addr} {c:Value} {x:Str} {i:Int} (h:H a=some (.ext (jd a c (some d)))) (g:H d=some (.xd [(x,.int i)])):Vw K H B (.ref a) (.exc c (some (x,i)))
theorem Rep.vw{K:PySem.W.Frag}{t:T}(h:Rep K H B v t):Vw K H B v t:=by
 cases h with
 | aI=>exact .aI
 | bl b=>exact .bl b
 | int i=>exact .int i
 | str x=>exact .str x
 | tup n h r=>exact .tup h r
 | gm h r=>exact .gm h r
 | lst n h r=>exact .lst h r
 | d7 h r=>exact .d7 h.sq r
 | dk n h=>exact .dk h
 | mO n h l r=>exact .mO h l r
 | exc n h=>exact .exc h
 | BO n h m g=>exact .BO h g
theorem Hv.vw{t:T}(l:Rl F ad B σ H μ)(h:Hv F ad B H μ v r)(e:cont μ r=some t):Vw F.K H B v t:=by
 cases r with
 | tr u=>cases e;exact Rep.vw h
 | br i =>
  obtain⟨rfl,s,c,h1,h2⟩:=h;have e2:(μ[i]?).bind Sl.box=some t:=e;rw[h1] at e2;have e':s.box=some t:=e2;rcases ((l.slot i s h1).boxed e').2.2.1.is with ⟨ts,vs,rfl,q,rr⟩ | ⟨ks,ts,vs,rfl,q,ll,rr⟩
  ·exact .lst q rr
  ·exact .mO (.inl q) ll rr
 | fr c=>exact h.elim
def Sl.put:Sl->T->Sl
 | .bx _,c=>.bx c
 | .pb _,c=>.pb c
 | s,_=>s
theorem Sl.gI{s:Sl}{c d:T}(e:s.box=some c):(s.put d).box=some d:=by
 cases s<;>first | rfl | cases e
theorem Rl.put{i:Nat}{s:Sl}{c:T}{vs:List V}{ts:List T}(l:Rl F ad B σ H μ)(e:μ[i]?=some s)(hb:s.box=some c)(r:af F.K H B vs ts):Rl F ad B σ (upd H (ad i) (.lst vs)) (μ.set i (s.put (.lst ts))):=by
 have k0:=(l.slot i s e).boxed hb;have hi:i < μ.length:=(List.getElem?_eq_some_iff.mp e).1;have f:Fr B H B (upd H (ad i) (.lst vs)):=Fr.set k0.2.1;have get:∀ j,(μ.set i (s.put (.lst ts)))[j]?=if j=i then some (s.put (.lst ts)) else μ[j]?:=fun j=>by
  rw[List.getElem?_set];by_cases z:i=j
  ·subst z;simp[hi]
  ·rw[if_neg z,if_neg (fun q=>z q.symm)]
 refine⟨by rw[List.length_set];exact l.len,fun j s' e'=>?_,fun j k s1 s2 c1 c2 e1 e2 b1 b2 q=>?_,fun j a p=>?_,l.bc,fun b z=>?_,fun b o e' n=>?_,fun a ws ga=>?_⟩
 ·rw[get] at e';by_cases z:j=i
  ·subst z;rw[if_pos rfl] at e';cases e';have k:=l.slot j s e
   cases s with
   | un=>cases hb
   | tr t=>cases hb
   | bx d=>exact⟨k.1,k.2.1,k.2.2.1,k.2.2.2.1,vs,aj,r.fr f⟩
   | pb d=>exact⟨k.1,k.2.1,k.2.2.1,vs,aj,r.fr f⟩
  ·rw[if_neg z] at e';have k:=l.slot j s' e';have ne:∀ d,s'.box=some d->ad j≠ad i:=fun d hd q=>z (l.inj j i s' s d c e' e hd hb q);unfold gy at k ⊢
   split at k
   ·trivial
   ·obtain⟨v,e1,r1⟩:=k;exact⟨v,e1,r1.fr f⟩
   ·obtain⟨e1,b,z0,p,x⟩:=k;exact⟨e1,b,z0,p,x.of (ae (ne _ rfl)) f⟩
   ·obtain⟨e1,b,p,x⟩:=k;exact⟨e1,b,p,x.of (ae (ne _ rfl)) f⟩
 ·rw[get] at e1 e2;have h1:∃ u d,μ[j]?=some u/\u.box=some d:=by
   by_cases z:j=i
   ·subst z;exact⟨s,c,e,hb⟩
   ·rw[if_neg z] at e1;exact⟨_,_,e1,b1⟩
  have h2:∃ u d,μ[k]?=some u/\u.box=some d:=by
   by_cases z:k=i
   ·subst z;exact⟨s,c,e,hb⟩
   ·rw[if_neg z] at e2;exact⟨_,_,e2,b2⟩
  obtain⟨u1,d1,g1,g2⟩:=h1;obtain⟨u2,d2,g3,g4⟩:=h2;exact l.inj j k u1 u2 d1 d2 g1 g3 g2 g4 q
 ·obtain⟨⟨d,hd⟩,ha⟩:=l.par j a p;refine⟨?_,ha⟩;rw[get];by_cases z:j=i
  ·subst z;rw[e] at hd;cases hd;rw[if_pos rfl];exact⟨_,rfl⟩
  ·rw[if_neg z];exact⟨d,hd⟩
 ·by_cases z':b=ad i
  ·subst z';exact⟨_,aj⟩
  ·rw[ae z'];exact l.er b z
 ·have ne:b≠ad i:=by
   rintro rfl;rcases k0.2.2.2 with z | z
   ·exact n i z
   ·rw[z] at e';cases e'
  rw[ae ne];exact l.old b o e' n
 ·obtain⟨g1,g2,g3⟩:=l.gh a ws ga;refine⟨by rw[ae (fun z=>g3 i s c e hb z.symm)];exact g1,g2,fun j s' d e' b'=>?_⟩
  rw[get] at e';by_cases z:j=i
  ·subst z;exact g3 j s c e hb
  ·rw[if_neg z] at e';exact g3 j s' d e' b'
theorem Rl.BG{i:Nat}{t:T}(l:Rl F ad B σ H μ)(hp:∀ c,μ[i]?≠some (.pb c))(h:Rep F.K H B v t):Rl F ad B (σ.set i (some v)) H (μ.set i (.tr t)):=by
 have get:∀ j,i < μ.length->(μ.set i (.tr t))[j]?=if j=i then some (.tr t) else μ[j]?:=fun j hi=>by
  rw[List.getElem?_set];by_cases z:i=j
  ·subst z;simp[hi]
  ·rw[if_neg z,if_neg (fun q=>z q.symm)]
 by_cases hi:i < μ.length
 ·refine⟨by rw[List.length_set,List.length_set];exact l.len,fun j s' e'=>?_,fun j k s1 s2 c1 c2 e1 e2 b1 b2 q=>?_,fun j a p=>?_,l.bc,l.er,l.old,fun a ws ga=>?_⟩
  ·rw[get j hi] at e';by_cases z:j=i
   ·subst z;rw[if_pos rfl] at e';cases e';exact⟨v,by rw[List.getElem?_set_self (by rw[<- l.len];exact hi)],h⟩
   ·rw[if_neg z] at e';rw[List.getElem?_set_ne (Ne.symm z)];exact l.slot j s' e'
  ·rw[get j hi] at e1;rw[get k hi] at e2;by_cases z:j=i
   ·rw[if_pos z] at e1;cases e1;cases b1
   ·by_cases z2:k=i
    ·rw[if_pos z2] at e2;cases e2;cases b2
    ·rw[if_neg z] at e1;rw[if_neg z2] at e2;exact l.inj j k _ _ _ _ e1 e2 b1 b2 q
  ·obtain⟨⟨d,hd⟩,ha⟩:=l.par j a p;refine⟨⟨d,?_⟩,ha⟩;rw[get j hi];by_cases z:j=i
   ·subst z;exact absurd hd (hp d)
   ·rw[if_neg z];exact hd
  ·obtain⟨g1,g2,g3⟩:=l.gh a ws ga;refine⟨g1,g2,fun j s' d e' b'=>?_⟩;rw[get j hi] at e';by_cases z:j=i
   ·rw[if_pos z] at e';cases e';cases b'
   ·rw[if_neg z] at e';exact g3 j s' d e' b'
 ·have hs:σ.length<=i:=by rw[<- l.len];lia
  rw[List.set_eq_of_length_le (show μ.length<=i by lia),List.set_eq_of_length_le hs]
  exact l
theorem Rl.setB{i:Nat}{c:T}{a:Addr}(l:Rl F ad (more B a) σ H μ)(hp:∀ c,μ[i]?≠some (.pb c))(h0:F.H0 a=none)(n:¬ B a)(own:∀ j s c,μ[j]?=some s->s.box=some c->B (ad j))(gB:∀ b vs,F.G b=some vs->B b)(x:Bx F.K H (more B a) a c):
  Rl F (fun j=>if j=i then a else ad j) (more B a) (σ.set i (some (.ref a))) H (μ.set i (.bx c)):=by
 have get:∀ j,i < μ.length->(μ.set i (.bx c))[j]?=if j=i then some (.bx c) else μ[j]?:=fun j hi=>by
  rw[List.getElem?_set];by_cases z:i=j
  ·subst z;simp[hi]
  ·rw[if_neg z,if_neg (fun q=>z q.symm)]
 have pi:F.P i=none:=by
  cases q:F.P i with
  | none=>rfl
  | some b =>
   obtain⟨⟨d,hd⟩,_⟩:=l.par i b q;exact absurd hd (hp d)
 by_cases hi:i < μ.length
 ·refine⟨by rw[List.length_set,List.length_set];exact l.len,fun j s' e'=>?_,fun j k s1 s2 c1 c2 e1 e2 b1 b2 q=>?_,fun j a' p=>?_,l.bc,l.er,l.old,fun b ws ga=>?_⟩
  ·rw[get j hi] at e';by_cases z:j=i
   ·subst z;rw[if_pos rfl] at e';cases e';show _/\_;simp only[if_pos];exact⟨by rw[List.getElem?_set_self (by rw[<- l.len];exact hi)],.inl rfl,h0,pi,x⟩
   ·rw[if_neg z] at e';rw[List.getElem?_set_ne (Ne.symm z)];have k:=l.slot j s' e';unfold gy at k ⊢;simp only[if_neg z];exact k
  ·rw[get j hi] at e1;rw[get k hi] at e2;by_cases z:j=i
   ·by_cases z2:k=i
    ·rw[z,z2]
    ·rw[if_pos z,if_neg z2] at q;rw[if_neg z2] at e2;exact absurd (own k _ _ e2 b2) (by rw[<- q];exact n)
   ·by_cases z2:k=i
    ·rw[if_pos z2,if_neg z] at q;rw[if_neg z] at e1;exact absurd (own j _ _ e1 b1) (by rw[q];exact n)
    ·rw[if_neg z] at e1;rw[if_neg z2] at e2;rw[if_neg z,if_neg z2] at q;exact l.inj j k _ _ _ _ e1 e2 b1 b2 q
  ·obtain⟨⟨d,hd⟩,ha⟩:=l.par j a' p;have z:j≠i:=by rintro rfl;exact hp d hd
   rw[get j hi,if_neg z];exact⟨⟨d,hd⟩,by simp only[if_neg z];exact ha⟩
  ·obtain⟨g1,g2,g3⟩:=l.gh b ws ga;refine⟨g1,g2,fun j s' d e' b'=>?_⟩;rw[get j hi] at e';by_cases z:j=i
   ·simp only[if_pos z];rintro rfl;exact n (gB _ ws ga)
   ·rw[if_neg z] at e';simp only[if_neg z];exact g3 j s' d e' b'
 ·have hs:σ.length<=i:=by rw[<- l.len];lia
  rw[List.set_eq_of_length_le (show μ.length<=i by lia),List.set_eq_of_length_le hs]
  have ne:∀ j s,μ[j]?=some s->j≠i:=fun j s e q=>by
   have:=(List.getElem?_eq_some_iff.mp e).1;lia
  refine⟨l.len,fun j s' e'=>?_,fun j k s1 s2 c1 c2 e1 e2 b1 b2 q=>?_,fun j a' p=>?_,l.bc,l.er,l.old,fun b ws ga=>?_⟩
  ·have k:=l.slot j s' e';unfold gy at k ⊢;simp only[if_neg (ne j s' e')];exact k
  ·simp only[if_neg (ne j _ e1),if_neg (ne k _ e2)] at q;exact l.inj j k _ _ _ _ e1 e2 b1 b2 q
  ·obtain⟨⟨d,hd⟩,ha⟩:=l.par j a' p;exact⟨⟨d,hd⟩,by simp only[if_neg (ne j _ hd)];exact ha⟩
  ·obtain⟨g1,g2,g3⟩:=l.gh b ws ga;refine⟨g1,g2,fun j s' d e' b'=>?_⟩;simp only[if_neg (ne j _ e')];exact g3 j s' d e' b'
theorem Rl.gB(l:Rl F ad B σ H μ):∀ b vs,F.G b=some vs->B b:=fun b vs e=>(l.gh b vs e).2.1
theorem Rl.own(l:Rl F ad B σ H μ):∀ j s c,μ[j]?=some s->s.box=some c->B (ad j):=fun j s c e b=>((l.slot j s e).boxed b).2.1
theorem Rl.freeze{i:Nat}{c:T}(l:Rl F ad B σ H μ)(e:μ[i]?=some (.bx c))(hc:¬ F.Bc (ad i)):Rl F ad (fun b=>B b/\b≠ad i) σ H (μ.set i (.tr c))/\Rep F.K H (fun b=>B b/\b≠ad i) (.ref (ad i)) c:=by
 have k0:=l.slot i _ e;have hi:i < μ.length:=(List.getElem?_eq_some_iff.mp e).1;have rp:Rep F.K H (fun b=>B b/\b≠ad i) (.ref (ad i)) c:=((k0.2.2.2.2).of rfl (Fr.less fun _ z=>z.1)).rep (fun z=>z.2 rfl);have get:∀ j,(μ.set i (.tr c))[j]?=if j=i then some (.tr c) else μ[j]?:=fun j=>by
  rw[List.getElem?_set];by_cases z:i=j
  ·subst z;simp[hi]
  ·rw[if_neg z,if_neg (fun q=>z q.symm)]
 have pi:F.P i=none:=k0.2.2.2.1;refine⟨⟨by rw[List.length_set];exact l.len,fun j s' e'=>?_,fun j k s1 s2 c1 c2 e1 e2 b1 b2 q=>?_,fun j a p=>?_,fun b z=>⟨l.bc b z,by rintro rfl;exact hc z⟩,fun b z=>l.er b z.1,l.old,fun a ws ga=>?_⟩,rp⟩
 ·rw[get] at e';by_cases z:j=i
  ·subst z;rw[if_pos rfl] at e';cases e';exact⟨_,k0.1,rp⟩
  ·rw[if_neg z] at e';have k:=l.slot j s' e';have ne:∀ d,s'.box=some d->ad j≠ad i:=fun d hd q=>z (l.inj j i s' _ d c e' e hd rfl q);unfold gy at k ⊢
   split at k
   ·trivial
   ·obtain⟨v,e1,r1⟩:=k;exact⟨v,e1,r1.fr (Fr.less fun _ z=>z.1)⟩
   ·obtain⟨e1,b,z0,p,x⟩:=k;exact⟨e1,⟨b,ne _ rfl⟩,z0,p,x.of rfl (Fr.less fun _ z=>z.1)⟩
   ·obtain⟨e1,b,p,x⟩:=k;exact⟨e1,⟨b,ne _ rfl⟩,p,x.of rfl (Fr.less fun _ z=>z.1)⟩
 ·rw[get] at e1 e2;by_cases z:j=i
  ·rw[if_pos z] at e1;cases e1;cases b1
  ·by_cases z2:k=i
   ·rw[if_pos z2] at e2;cases e2;cases b2
   ·rw[if_neg z] at e1;rw[if_neg z2] at e2;exact l.inj j k _ _ _ _ e1 e2 b1 b2 q
 ·obtain⟨⟨d,hd⟩,ha⟩:=l.par j a p;refine⟨⟨d,?_⟩,ha⟩;rw[get];by_cases z:j=i
  ·subst z;rw[pi] at p;cases p
  ·rw[if_neg z];exact hd
 ·obtain⟨g1,g2,g3⟩:=l.gh a ws ga;refine⟨g1,⟨g2,(g3 i _ c e rfl).symm⟩,fun j s' d e' b'=>?_⟩;rw[get] at e';by_cases z:j=i
  ·rw[if_pos z] at e';cases e';cases b'
  ·rw[if_neg z] at e';exact g3 j s' d e' b'
end
noncomputable abbrev UE:=Mu->(R->Mu->Prop)->Prop
noncomputable abbrev UT:=Mu->(Bool->Mu->Prop)->Prop
noncomputable abbrev UA:=Mu->(List R->Mu->Prop)->Prop
noncomputable abbrev UO:=Mu->(Option Int->Mu->Prop)->Prop
noncomputable abbrev U2:=R->R->Mu->(R->Mu->Prop)->Prop
noncomputable abbrev UC:=List R->Mu->(R->Mu->Prop)->Prop
structure Ed where
 nx:Mu->Prop
 rt:R->Mu->Prop
 bk:Mu->Prop:=fun _=>False
 ct:Mu->Prop:=fun _=>False
noncomputable abbrev US:=Ed->Mu->Prop
def Bv(B:aJ)(v:V):R->aJ
 | .fr _=>(match v with | .ref a=>more B a | _=>B)
 | _=>B
theorem Fr.d{B:aJ}{H H':Hp}{v:V}{r:R}(f:Fr B H (Bv B v r) H'):Fr B H B H':=fun b o h n=>⟨(f b o h n).1,n⟩
def RE(K:PySem.W.Frag)(te:TE)(ue:UE):Prop:=∀ (F:Fx) (ad:Nat->Addr) (B:aJ) (σ:St) (H:Hp) (μ:Mu) (Q:VK) (Qt:R->Mu->Prop),F.K=K->Rl F ad B σ H μ->ue μ Qt ->
 (∀ v H' r μ',Vr F ad B σ H' μ' v r->Fr B H (Bv B v r) H'->Kp μ μ'->Qt r μ'->Q v H')->te σ H Q
def RT(K:PySem.W.Frag)(tt:TT)(ut:UT):Prop:=∀ (F:Fx) (ad:Nat->Addr) (B:aJ) (σ:St) (H:Hp) (μ:Mu) (Q:Bool->Hp->Prop) (Qt:Bool->Mu->Prop),F.K=K->Rl F ad B σ H μ->ut μ Qt ->
 (∀ b H' μ',Rl F ad B σ H' μ'->Fr B H B H'->Kp μ μ'->Qt b μ'->Q b H')->tt σ H Q
def RA(K:PySem.W.Frag)(ta:TA)(ua:UA):Prop:=∀ (F:Fx) (ad:Nat->Addr) (B:aJ) (σ:St) (H:Hp) (μ:Mu) (Q:List V->Hp->Prop) (Qt:List R->Mu->Prop),F.K=K->Rl F ad B σ H μ->ua μ Qt ->
 (∀ vs H' rs μ',Rl F ad B σ H' μ'->Paired (Hv F ad B H' μ') vs rs->Fr B H B H'->Kp μ μ'->Qt rs μ'->Q vs H')->ta σ H Q
def RO(K:PySem.W.Frag)(tt:TO)(ut:UO):Prop:=∀ (F:Fx) (ad:Nat->Addr) (B:aJ) (σ:St) (H:Hp) (μ:Mu) (Q:Option Int->Hp->Prop) (Qt:Option Int->Mu->Prop),F.K=K->Rl F ad B σ H μ->ut μ Qt ->
 (∀ b H' μ',Rl F ad B σ H' μ'->Fr B H B H'->Kp μ μ'->Qt b μ'->Q b H')->tt σ H Q
def iR(K:PySem.W.Frag)(r:R2)(u:U2):Prop:=∀ (F:Fx) (ad:Nat->Addr) (B:aJ) (σ:St) (H:Hp) (μ:Mu) (Q:VK) (Qt:R->Mu->Prop) (x y:V) (r1 r2:R),F.K=K->Rl F ad B σ H μ->Hv F ad B H μ x r1->Hv F ad B H μ y r2->u r1 r2 μ Qt ->
 (∀ v H' r μ',Vr F ad B σ H' μ' v r->Fr B H (Bv B v r) H'->Kp μ μ'->Qt r μ'->Q v H')->r x y H Q
def RC(K:PySem.W.Frag)(r:List V->Hp->VK->Prop)(u:UC):Prop:=∀ (F:Fx) (ad:Nat->Addr) (B:aJ) (σ:St) (H:Hp) (μ:Mu) (Q:VK) (Qt:R->Mu->Prop) (xs:List V) (rs:List R),F.K=K->Rl F ad B σ H μ->Paired (Hv F ad B H μ) xs rs->u rs μ Qt ->
 (∀ v H' r μ',Vr F ad B σ H' μ' v r->Fr B H (Bv B v r) H'->Kp μ μ'->Qt r μ'->Q v H')->r xs H Q
section
variable {F:Fx} {ad:Nat->Addr} {B:aJ} {σ:St} {H:Hp} {μ:Mu} {Q:VK} {Qt:R->Mu->Prop}
theorem Vr.flat{v:V}{t:T}(l:Rl F ad B σ H μ)(r:Rep F.K H B v t):Vr F ad B σ H μ v (.tr t):=⟨l,r⟩
theorem Vr.dJ{p:Addr}{vs:List V}{ts:List T}(l:Rl F ad B σ H μ)(r:af F.K H B vs ts)(e:H p=none):Vr F ad B σ (upd H p (.lst vs)) μ (.ref p) (.fr (.lst ts)):=
 ⟨l.same (bC.new e),p,rfl,l.jY e,l.y8 e,l.new e,vs,aj,r.fr (Fr.more e)⟩
theorem Vr.vV{p:Addr}{vs:List V}{ts:List T}(l:Rl F ad B σ H μ)(r:af F.K H B vs ts)(e:H p=none):Vr F ad B σ (upd H p (.tup vs)) μ (.ref p) (.tr (.tup ts)):=
 ⟨l.same (bC.new e),.tup (l.jY e) aj (r.fr (Fr.same (bC.new e)))⟩
end
structure YE (X:Cx) (e:Expr) (u:UE):Prop where
 ex:∃ t,QE X e t/\RE X.K t u
structure YT (X:Cx) (e:Expr) (u:UT):Prop where
 ex:∃ t,QT X e t/\RT X.K t u
structure YW (X:Cx) (e:Expr) (u:UT):Prop where
 ex:∃ t,QW X e t/\RT X.K t u
structure YA (X:Cx) (es:List Expr) (u:UA):Prop where
 ex:∃ t,QA X es t/\RA X.K t u
structure YO (X:Cx) (e:Option Expr) (u:UO):Prop where
 ex:∃ t,QO X e t/\RO X.K t u
structure zF (X:Cx) (es:List Expr) (u:UT):Prop where
 ex:∃ t,C9 X es t/\RT X.K t u
namespace Y
def uC(t:T):UE:=fun μ Q=>Q (.tr t) μ
def kC(i:Nat):UE:=fun μ Q=>match μ[i]? with
 | some (.tr t)=>Q (.tr t) μ
 | some (.bx _)=>Q (.br i) μ
 | some (.pb _)=>Q (.br i) μ
 | _=>False
def zw(u:U2)(ua ub:UE):UE:=fun μ Q=>ua μ fun r1 μ1=>ub μ1 fun r2 μ2=>u r1.d r2.d μ2 Q
section
variable {X:Cx} {a b c e o:Expr} {es rest:List Expr} {ua ub uc ue uo:UE} {uA uB:UT} {us:UA} {pos p p2:Pos} {x:Str}
theorem xB{K:PySem.W.Frag}{v:V}{t:T}(h:∀ H B,Rep K H B v t):RE K (tC v) (uC t):=fun F ad B σ H μ Q Qt hK l q k=>k v H (.tr t) μ ⟨l,show Rep F.K H B v t from hK ▸ h H B⟩ Fr.refl (Kp.refl μ) q
theorem int{i:Int}{j:Nat}:YE X (.Constant (.int i) j pos) (uC (.int i)):=⟨_,Z.int,xB fun _ _=>.int i⟩
theorem bl{i:Bool}{j:Nat}:YE X (.Constant (.bool i) j pos) (uC (.bl i)):=⟨_,Z.bl,xB fun _ _=>.bl i⟩
theorem aI{j:Nat}:YE X (.Constant .none j pos) (uC .aI):=⟨_,Z.aI,xB fun _ _=>.aI⟩
theorem str{i:Str}{j:Nat}:YE X (.Constant (.str i) j pos) (uC (.str i)):=⟨_,Z.str,xB fun _ _=>.str i⟩
theorem v(i:Nat)(hN:X.N[i]?=some x:=by rfl)(hv:BY X.env.scope x:=by first | exact Or.inl rfl | exact Or.inr (Or.inl rfl) | exact Or.inr (Or.inr rfl))(hd:(x ==("__debug__":Str))=false:=by decide)
  (hcd:(x ==("__classdict__":Str))=false:=by decide):YE X (.Name x pos) (kC i):=by
 refine⟨_,Z.v i hN hv hd hcd,fun F ad B σ H μ Q Qt hK l q k=>?_⟩;unfold kC at q
 split at q
 ·rename_i t e;obtain⟨v,e1,r⟩:=l.slot i _ e;exact⟨v,e1,k v H (.tr t) μ ⟨l,r⟩ Fr.refl (Kp.refl μ) q⟩
 ·rename_i t e;have r:=l.slot i _ e;exact⟨_,r.1,k _ H (.br i) μ ⟨l,rfl,_,_,e,rfl⟩ Fr.refl (Kp.refl μ) q⟩
 ·rename_i t e;have r:=l.slot i _ e;exact⟨_,r.1,k _ H (.br i) μ ⟨l,rfl,_,_,e,rfl⟩ Fr.refl (Kp.refl μ) q⟩
 ·exact q.elim
theorem qB{K:PySem.W.Frag}{r:R2}{u:U2}{ta tb:TE}(h:iR K r u)(ha:RE K ta ua)(hb:RE K tb ub):RE K (x4 r ta tb) (zw u ua ub):=fun F ad B σ H μ Q Qt hK l q k =>
 ha F ad B σ H μ _ _ hK l q fun x H1 r1 μ1 v1 f1 k1 q1=>hb F ad B σ H1 μ1 _ _ hK v1.rl q1 fun y H2 r2 μ2 v2 f2 k2 q2 =>
  h F ad B σ H2 μ2 _ _ x y r1.d r2.d hK v2.rl (v1.hv.fr f2.d k2) v2.hv q2 fun v H' r μ' v3 f3 k3 q3=>k v H' r μ' v3 ((f1.d.trans f2.d).trans f3) ((k1.trans k2).trans k3) q3
theorem op{o:Operator}{r:R2}{u:U2}(ho:cO X (binaryOp o) r)(h:iR X.K r u)(ha:YE X a ua)(hb:YE X b ub):YE X (.BinOp a o b pos) (zw u ua ub):=by
 obtain⟨ta,qa,ra⟩:=ha;obtain⟨tb,qb,rb⟩:=hb;exact⟨_,Z.op ho qa qb,qB h ra rb⟩
theorem cmp{o:CmpOp}{r:R2}{u:U2}(ho:cO X (compareOp o) r)(h:iR X.K r u)(ha:YE X a ua)(hb:YE X b ub)(hm:behindInMarks o b=false:=by rfl):YE X (.Compare a [o] [b] pos) (zw u ua ub):=by
 obtain⟨ta,qa,ra⟩:=ha;obtain⟨tb,qb,rb⟩:=hb;exact⟨_,Z.cmp ho qa qb hm,qB h ra rb⟩
theorem ix{r:R2}{u:U2}(hr:sA X r)(h:iR X.K r u)(ha:YE X a ua)(hb:YE X b ub)(hs:Z.sim b=true:=by rfl):YE X (.Subscript a b pos) (zw u ua ub):=by
 obtain⟨ta,qa,ra⟩:=ha;obtain⟨tb,qb,rb⟩:=hb;exact⟨_,Z.ix hr qa qb hs,qB h ra rb⟩
def mE(ue:UE):UT:=fun μ Q=>ue μ fun r μ'=>match r with
 | .tr (.bl b)=>Q b μ'
 | _=>False
theorem yv{K:PySem.W.Frag}{t:TE}(h:RE K t ue):RT K (uD t) (mE ue):=fun F ad B σ H μ Q Qt hK l q k =>
 h F ad B σ H μ _ _ hK l q fun v H' r μ' v1 f k1 q1=>by
  split at q1
  ·rename_i b;have rp:=v1.2;cases rp;exact⟨b,rfl,k b H' μ' v1.rl f.d k1 q1⟩
  ·exact q1.elim
theorem cq{o:CmpOp}{r:R2}{u:U2}(ho:cO X (compareOp o) r)(h:iR X.K r u)(ha:YE X a ua)(hb:YE X b ub)(hm:behindInMarks o b=false:=by rfl):YT X (.Compare a [o] [b] pos) (mE (zw u ua ub)):=by
 obtain⟨ta,qa,ra⟩:=ha;obtain⟨tb,qb,rb⟩:=hb;exact⟨_,Z.cq ho qa qb hm,yv (qB h ra rb)⟩
def yN(ut:UT):UT:=fun μ Q=>ut μ fun b μ'=>Q (!b) μ'
theorem nH(ha:YT X a uA):YT X (.UnaryOp .Not a pos) (yN uA):=by
 obtain⟨ta,qa,ra⟩:=ha;exact⟨_,Z.nH qa,fun F ad B σ H μ Q Qt hK l q k=>ra F ad B σ H μ _ _ hK l q fun b H' μ' l' f k1 q1=>k _ H' μ' l' f k1 q1⟩
theorem tw(h:YW X e uA):YT X e uA:=by
 obtain⟨t,q,r⟩:=h;exact⟨t,Z.tw q,r⟩
theorem jH(ha:YT X a uA):YW X (.BoolOp .And [a] pos) uA:=by obtain⟨t,q,r⟩:=ha;exact⟨t,Z.jH q,r⟩
theorem rM(ha:YT X a uA):YW X (.BoolOp .Or [a] pos) uA:=by obtain⟨t,q,r⟩:=ha;exact⟨t,Z.rM q,r⟩
def vJ(u w:UT):UT:=fun μ Q=>u μ fun b μ'=>if b=true then w μ' Q else Q false μ'
def Dl(u w:UT):UT:=fun μ Q=>u μ fun b μ'=>if b=true then Q true μ' else w μ' Q
theorem AF{K:PySem.W.Frag}{t u:TT}(ha:RT K t uA)(hb:RT K u uB):RT K (AO t u) (vJ uA uB):=fun F ad B σ H μ Q Qt hK l q k=>ha F ad B σ H μ _ _ hK l q fun b H' μ' l' f k1 q1=>by
 cases b with
 | true=>rw[if_pos rfl] at q1 ⊢;exact hb F ad B σ H' μ' _ _ hK l' q1 fun b2 H2 μ2 l2 f2 k2 q2=>k b2 H2 μ2 l2 (f.trans f2) (k1.trans k2) q2
 | false=>rw[if_neg Bool.false_ne_true] at q1 ⊢;exact k _ H' μ' l' f k1 q1
theorem DL{K:PySem.W.Frag}{t u:TT}(ha:RT K t uA)(hb:RT K u uB):RT K (Gi t u) (Dl uA uB):=fun F ad B σ H μ Q Qt hK l q k=>ha F ad B σ H μ _ _ hK l q fun b H' μ' l' f k1 q1=>by
 cases b with
 | false=>rw[if_neg Bool.false_ne_true] at q1 ⊢;exact hb F ad B σ H' μ' _ _ hK l' q1 fun b2 H2 μ2 l2 f2 k2 q2=>k b2 H2 μ2 l2 (f.trans f2) (k1.trans k2) q2
 | true=>rw[if_pos rfl] at q1 ⊢;exact k _ H' μ' l' f k1 q1
theorem rE(ha:YT X a uA)(hb:YW X (.BoolOp .And (b::rest) pos) uB):YW X (.BoolOp .And (a::b::rest) pos) (vJ uA uB):=by
 obtain⟨t,q,r⟩:=ha;obtain⟨t',q',r'⟩:=hb;exact⟨_,Z.rE q q',AF r r'⟩
theorem BE(ha:YT X a uA)(hb:YW X (.BoolOp .Or (b::rest) pos) uB):YW X (.BoolOp .Or (a::b::rest) pos) (Dl uA uB):=by
 obtain⟨t,q,r⟩:=ha;obtain⟨t',q',r'⟩:=hb;exact⟨_,Z.BE q q',DL r r'⟩
def lX(ue:UE):UT:=fun μ Q=>ue μ fun r μ'=>match r with
 | .tr (.bl b)=>Q b μ'
 | .tr (.int i)=>Q (i != 0) μ'
 | _=>False
theorem Ah(K:PySem.W.Frag)(hK:X.K=K)(ha:YE X a ua)(he:Z.EV a=true:=by rfl):YT X a (lX ua):=by
 obtain⟨t,q,r⟩:=ha;refine⟨_,Z.Ah K hK q he,fun F ad B σ H μ Q Qt hK l q k=>r F ad B σ H μ _ _ hK l q fun v H' r1 μ' v1 f k1 q1=>?_⟩
 split at q1
 ·have rp:=v1.2;cases rp;exact⟨_,(Ap.Gx ..).symm ▸ rfl,k _ H' μ' v1.rl f.d k1 q1⟩
 ·have rp:=v1.2;cases rp;exact⟨_,(Ap.Gr ..).symm ▸ rfl,k _ H' μ' v1.rl f.d k1 q1⟩
 ·exact q1.elim
def pG(ue:UE):UE:=fun μ Q=>ue μ fun r μ'=>match r with
 | .tr (.bl b)=>Q (.tr (.bl (!b))) μ'
 | _=>False
theorem not(ha:YE X a ua):YE X (.UnaryOp .Not a pos) (pG ua):=by
 obtain⟨t,q,r⟩:=ha;refine⟨_,Z.not q,fun F ad B σ H μ Q Qt hK l q k=>r F ad B σ H μ _ _ hK l q fun v H' r1 μ' v1 f k1 q1=>?_⟩
 split at q1
 ·have rp:=v1.2;cases rp;exact⟨_,rfl,k _ H' _ μ' (Vr.flat v1.rl (.bl _)) f.d k1 q1⟩
 ·exact q1.elim
def xt(ue:UE):UE:=fun μ Q=>ue μ fun r μ'=>match r with
 | .tr (.int i)=>Q (.tr (.int (-i))) μ'
 | _=>False
theorem neg(ha:YE X a ua):YE X (.UnaryOp .USub a pos) (xt ua):=by
 obtain⟨t,q,r⟩:=ha;refine⟨_,Z.un B_ q,fun F ad B σ H μ Q Qt hK l q k=>r F ad B σ H μ _ _ hK l q fun v H' r1 μ' v1 f k1 q1=>?_⟩
 split at q1
 ·have rp:=v1.2;cases rp;exact⟨_,rfl,k _ H' _ μ' (Vr.flat v1.rl (.int _)) f.d k1 q1⟩
 ·exact q1.elim
def xZ:UA:=fun μ Q=>Q [] μ
def qr(ue:UE)(us:UA):UA:=fun μ Q=>ue μ fun r μ1=>us μ1 fun rs μ2=>Q (r.d::rs) μ2
def uK(ts:List T):UA:=fun μ Q=>Q (ts.map R.tr) μ
theorem nil:YA X [] xZ:=⟨_,Z.nil,fun F ad B σ H μ Q Qt hK l q k=>k [] H [] μ l .nil Fr.refl (Kp.refl μ) q⟩
theorem cons(ha:YE X e ue)(hr:YA X es us)(h:cx e=true:=by rfl):YA X (e::es) (qr ue us):=by
 obtain⟨t,q,r⟩:=ha;obtain⟨t',q',r'⟩:=hr;exact⟨_,Z.cons q q' h,fun F ad B σ H μ Q Qt hK l q k=>r F ad B σ H μ _ _ hK l q fun v H' r1 μ' v1 f k1 q1=>r' F ad B σ H' μ' _ _ hK v1.rl q1 fun vs H2 rs μ2 l2 ps f2 k2 q2 =>
  k (v::vs) H2 (r1.d::rs) μ2 l2 (.cons (v1.hv.fr f2 k2) ps) (f.d.trans f2) (k1.trans k2) q2⟩
def wz:V->Option T
 | .aI=>some .aI
 | .bl b=>some (.bl b)
 | .int i=>some (.int i)
 | .str x=>some (.str x)
 | _=>none
theorem tq{K:PySem.W.Frag}{H:Hp}{B:aJ}{v:V}{t:T}(h:wz v=some t):Rep K H B v t:=by
 unfold wz at h
 split at h
 ·cases h;exact .aI
 ·cases h;exact .bl _
 ·cases h;exact .int _
 ·cases h;exact .str _
 ·cases h
theorem consts{vs:List V}{ts:List T}(h:j9 es=some vs)(h2:vs.map wz=ts.map some):YA X es (uK ts):=by
 refine⟨_,Z.consts h,fun F ad B σ H μ Q Qt hK l q k=>k vs H _ μ l ?_ Fr.refl (Kp.refl μ) q⟩;clear h q k
 induction vs generalizing ts with
 | nil=>cases ts with
  | nil=>exact .nil
  | cons t ts=>cases h2
 | cons v vs ih=>cases ts with
  | nil=>cases h2
  | cons t ts =>
   rw[List.map_cons,List.map_cons] at h2
   injection h2 with e1 e2
   exact .cons (tq e1) (ih e2)
def trees:List R->Option (List T)
 | []=>some []
 | .tr t::rs=>(trees rs).map (t::·)
 | _=>none
theorem jV{F:Fx}{ad:Nat->Addr}{B:aJ}{H:Hp}{μ:Mu}:∀ {vs:List V} {rs:List R} {ts:List T},Paired (Hv F ad B H μ) vs rs->trees rs=some ts->af F.K H B vs ts
 | _,_,_,.nil,e=>by cases e;exact .nil
 | _,r::rs,ts,.cons h p,e=>by
  cases r with
  | tr t =>
   unfold trees at e
   cases q:trees rs with
   | none=>rw[q] at e;cases e
   | some us=>rw[q] at e;cases e;exact .cons h (jV p q)
  | br i=>cases e
  | fr c=>cases e
def yk(us:UA):UE:=fun μ Q=>us μ fun rs μ'=>match trees rs with
 | some ts=>ts.length<=sizeLine/\Q (.tr (.tup ts)) μ'
 | none=>False
def xF(us:UA):UE:=fun μ Q=>us μ fun rs μ'=>match trees rs with
 | some ts=>ts.length<=sizeLine/\Q (.fr (.lst ts)) μ'
 | none=>False
theorem tup{k:Nat}(h:YA X es us):YE X (.Tuple es k pos) (yk us):=by
 obtain⟨t,q,r⟩:=h;refine⟨_,Z.tup q,fun F ad B σ H μ Q Qt hK l q k=>r F ad B σ H μ _ _ hK l q fun vs H' rs μ' l1 ps f k1 q1=>?_⟩
 split at q1
 ·rename_i ts e;have rp:=jV ps e;exact⟨by rw[rp.length];exact q1.1,fun p hp=>k _ _ _ μ' (Vr.vV l1 rp hp) (f.trans (Fr.same (bC.new hp))) k1 q1.2⟩
 ·exact q1.elim
theorem lst(h:YA X es us):YE X (.List es pos) (xF us):=by
 obtain⟨t,q,r⟩:=h;refine⟨_,Z.lst q,fun F ad B σ H μ Q Qt hK l q k=>r F ad B σ H μ _ _ hK l q fun vs H' rs μ' l1 ps f k1 q1=>?_⟩
 split at q1
 ·rename_i ts e;have rp:=jV ps e;exact⟨by rw[rp.length];exact q1.1,fun p hp=>k _ _ _ μ' (Vr.dJ l1 rp hp) (f.trans (Fr.more hp)) k1 q1.2⟩
 ·exact q1.elim
def zV(u:UC)(us:UA):UE:=fun μ Q=>us μ fun rs μ'=>u rs μ' Q
theorem u5{K:PySem.W.Frag}{r:List V->Hp->VK->Prop}{u:UC}{t:TA}(h:RC K r u)(ha:RA K t us):RE K (zr r t) (zV u us):=fun F ad B σ H μ Q Qt hK l q k =>
 ha F ad B σ H μ _ _ hK l q fun vs H' rs μ' l1 ps f k1 q1=>h F ad B σ H' μ' _ _ vs rs hK l1 ps q1 fun v H2 r2 μ2 v2 f2 k2 q2=>k v H2 r2 μ2 v2 (f.trans f2) (k1.trans k2) q2
theorem cb{id:String}{r:List V->Hp->VK->Prop}{u:UC}(hc:aL X (.builtin id) r)(h:RC X.K r u)(hg:Gl X x)(hm:X.mg x=none)(hv:bootBuiltins x=some (.builtin id))(ha:YA X (e::es) us)(h1:cx e=true:=by rfl)(h2:es.all cx=true:=by rfl)(hn:x≠"__name__":=by decide)(hdb:(x ==("__debug__":Str))=false:=by decide):
  YE X (.Call (.Name x p) (e::es) [] pos) (zV u us):=by
 obtain⟨t,q,rr⟩:=ha;exact⟨_,Z.cb hc hg hm hv q h1 h2 hn hdb,u5 h rr⟩
theorem ct{T:String}{r:List V->Hp->VK->Prop}{u:UC}(hc:aL X (.type T) r)(h:RC X.K r u)(hg:Gl X x)(hm:X.mg x=none)(hv:bootBuiltins x=some (.type T))(ha:YA X (e::es) us)(h1:cx e=true:=by rfl)(h2:es.all cx=true:=by rfl)(hn:x≠"__name__":=by decide)(hdb:(x ==("__debug__":Str))=false:=by decide):
  YE X (.Call (.Name x p) (e::es) [] pos) (zV u us):=by
 obtain⟨t,q,rr⟩:=ha;exact⟨_,Z.ct hc hg hm hv q h1 h2 hn hdb,u5 h rr⟩
def gH:UO:=fun μ Q=>Q none μ
def p8(ue:UE):UO:=fun μ Q=>ue μ fun r μ'=>match r with
 | .tr (.int i)=>Q (some i) μ'
 | _=>False
theorem qY:YO X none gH:=⟨_,Z.qY,fun F ad B σ H μ Q Qt hK l q k=>k none H μ l Fr.refl (Kp.refl μ) q⟩
theorem sf(he:YE X e ue):YO X (some e) (p8 ue):=by
 obtain⟨t,q,r⟩:=he;refine⟨_,Z.sf q,fun F ad B σ H μ Q Qt hK l q k=>r F ad B σ H μ _ _ hK l q fun v H' r1 μ' v1 f k1 q1=>?_⟩
 split at q1
 ·have rp:=v1.2;cases rp;exact⟨_,rfl,k _ H' μ' v1.rl f.d k1 q1⟩
 ·exact q1.elim
end
end Y
namespace Y
def pR(f:T->T->Mu->(R->Mu->Prop)->Prop):U2:=fun r1 r2 μ Q=>match cont μ r1,cont μ r2 with
 | some t,some u=>f t u μ Q
 | _,_=>False
theorem dA{K:PySem.W.Frag}{r:R2}{f:T->T->Mu->(R->Mu->Prop)->Prop}
  (h:∀ (F:Fx) (ad:Nat->Addr) (B:aJ) (σ:St) (H:Hp) (μ:Mu) (Q:VK) (Qt:R->Mu->Prop) (x y:V) (t u:T),F.K=K->Rl F ad B σ H μ->Vw F.K H B x t->Vw F.K H B y u->f t u μ Qt ->
   (∀ v H' r,Vr F ad B σ H' μ v r->Fr B H (Bv B v r) H'->Qt r μ->Q v H')->r x y H Q):iR K r (pR f):=by
 intro F ad B σ H μ Q Qt x y r1 r2 hK l h1 h2 q k;unfold pR at q
 split at q
 ·rename_i t u e1 e2;exact h F ad B σ H μ Q Qt x y t u hK l (h1.vw l e1) (h2.vw l e2) q fun v H' r v1 s q1=>k v H' r μ v1 s (Kp.refl μ) q1
 ·exact q.elim
def uW(C:Int->Int->Prop)(g:Int->Int->Int):T->T->Mu->(R->Mu->Prop)->Prop:=fun t u μ Q=>match t,u with
 | .int i,.int j=>C i j/\Q (.tr (.int (g i j))) μ
 | _,_=>False
theorem bt{K:PySem.W.Frag}{C:Int->Int->Prop}{g:Int->Int->Int}:iR K (rI C fun i j=>.int (g i j)) (pR (uW C g)):=dA fun F ad B σ H μ Q Qt x y t u hK l v1 v2 q k=>by
 unfold uW at q
 split at q
 ·cases v1;cases v2
  exact⟨_,_,rfl,rfl,q.1,k _ H _ (Vr.flat l (.int _)) Fr.refl q.2⟩
 ·exact q.elim
theorem c_{K:PySem.W.Frag}{g:Int->Int->Int}:iR K (yj fun i j=>.int (g i j)) (pR (uW (fun _ _=>True) g)):=dA fun F ad B σ H μ Q Qt x y t u hK l v1 v2 q k=>by
 unfold uW at q
 split at q
 ·cases v1;cases v2
  exact⟨_,_,rfl,rfl,k _ H _ (Vr.flat l (.int _)) Fr.refl q.2⟩
 ·exact q.elim
def GG(g:Int->Int->Bool):T->T->Mu->(R->Mu->Prop)->Prop:=fun t u μ Q=>match t,u with
 | .int i,.int j=>Q (.tr (.bl (g i j))) μ
 | _,_=>False
theorem dE{K:PySem.W.Frag}{g:Int->Int->Bool}:iR K (yj fun i j=>.bl (g i j)) (pR (GG g)):=dA fun F ad B σ H μ Q Qt x y t u hK l v1 v2 q k=>by
 unfold GG at q
 split at q
 ·cases v1;cases v2
  exact⟨_,_,rfl,rfl,k _ H _ (Vr.flat l (.bl _)) Fr.refl q⟩
 ·exact q.elim
def zN(K:PySem.W.Frag):R2:=fun x y H Q=>∃ a b xs ys,x=.ref a/\y=.ref b/\b6 K H a xs/\b6 K H b ys/\xs.length+ys.length<=sizeLine /\
 (xs=[]->Q (.ref b) H)/\(xs≠[]->ys=[]->Q (.ref a) H)/\(xs≠[]->ys≠[]->∀ p,H p=none->Q (.ref p) (upd H p (.tup (xs++ys))))
theorem vt{prog:Program}{w:World}{A:Around}{E:Value->Shared->Prop}{s:Shared}{t b:Addr}{ws:List Value}{Q:Value->Shared->Prop}(ht:IsTup s.heap t ([]:List Value).toArray)(hb:IsTup s.heap b ws.toArray)(h0:Q (.ref b) s):wpAny (model prog w) A (binaryOp .Add (.ref t) (.ref b)) Q E s:=by
 obtain⟨⟨cls,dd,data,sl⟩,ho,hc,n,hd⟩:=id ht;obtain⟨⟨cls2,dd2,data2,sl2⟩,ho2,hc2,n2,hd2⟩:=id hb;simp only at hc hd hc2 hd2;subst hc hd hc2 hd2;exact concat_meets ⟨_,ho,rfl⟩ ⟨_,ho2,rfl⟩ noFill_tuple_add seq_tuple_add PySem.F.slot_tuple_add PySem.F.entry_tuple_add (PySem.F.args_tuple_add_2 _ _)
   (tuple_addW0 t b _ ws.toArray n n2 dd dd2 sl sl2 (by simp)) ⟨ho,ho2,h0⟩
theorem yr{X:Cx}:cO X (binaryOp .Add) (zN X.K):=by
 intro pins s σ H x y v u Q I rx ry h;obtain⟨a,b,xs,ys,rfl,rfl,ha,hb,hz,q0,q1,q2⟩:=h;by_cases hx:xs=[]
 ·subst hx
  cases rx;cases ry
  obtain⟨its,r1,p1,_⟩:=I.tuple ha;obtain⟨its2,r2,p2,_⟩:=I.tuple hb;cases r1;exact vt p1 p2 ⟨.ref b,H,I,rfl,q0 rfl⟩
 ·exact xR pins s σ H _ _ v u Q I rx ry ⟨a,b,xs,ys,rfl,rfl,ha,hb,hx,hz,q1 hx,q2 hx⟩
def vg(K:PySem.W.Frag):R2:=fun x y H Q=>(∃ i j,x=.int i/\y=.int j/\Q (.int (i+j)) H)\/(∃ i j,x=.str i/\y=.str j/\i.length+j.length<=sizeLine/\Q (.str (i++j)) H)\/E9 x y H Q\/zN K x y H Q
theorem aG{X:Cx}(K:PySem.W.Frag)(hK:X.K=K):cO X (binaryOp .Add) (vg K):=by subst hK;exact A8.or (nO.or (Bk.or yr))
def aW{F:Fx}{ad:Nat->Addr}{B:aJ}{H:Hp}{μ:Mu}{v:V}{t:T}(h:Hv F ad B H μ v (.tr t)):Rep F.K H B v t:=h
def iU:U2:=fun r1 r2 μ Q=>match cont μ r1,cont μ r2 with
 | some (.int i),some (.int j)=>Q (.tr (.int (i+j))) μ
 | some (.str i),some (.str j)=>i.length+j.length<=sizeLine/\Q (.tr (.str (i++j))) μ
 | some (.lst xs),some (.lst ys)=>xs.length+ys.length<=sizeLine/\Q (.fr (.lst (xs++ys))) μ
 | some (.tup xs),some (.tup ys)=>xs.length+ys.length<=sizeLine/\Q (.tr (.tup (xs++ys))) μ
 | _,_=>False
theorem Hv.yA{F:Fx}{ad:Nat->Addr}{B:aJ}{σ:St}{H:Hp}{μ:Mu}{v:V}{r:R}{xs:List T}(l:Rl F ad B σ H μ)(h:Hv F ad B H μ v r)(e:cont μ r=some (.tup xs)):Rep F.K H B v (.tup xs):=by
 cases r with
 | tr t=>cases e;exact h
 | br i =>
  obtain⟨rfl,s,c,h1,h2⟩:=h;have e2:(μ[i]?).bind Sl.box=some (.tup xs):=e;rw[h1] at e2;have e':s.box=some (.tup xs):=e2;rcases ((l.slot i s h1).boxed e').2.2.1.is with ⟨ts,vs,z,_⟩ | ⟨ks,ts,vs,z,_⟩<;>cases z
 | fr c=>exact h.elim
theorem Au{K:PySem.W.Frag}:iR K (vg K) iU:=by
 intro F ad B σ H μ Q Qt x y r1 r2 hK l h1 h2 q k;subst hK;unfold iU at q
 split at q
 ·rename_i i j e1 e2;have a:=h1.vw l e1;have b:=h2.vw l e2
  cases a;cases b
  exact .inl ⟨_,_,rfl,rfl,k _ H _ μ (Vr.flat l (.int _)) Fr.refl (Kp.refl μ) q⟩
 ·rename_i i j e1 e2;have a:=h1.vw l e1;have b:=h2.vw l e2
  cases a;cases b
  exact .inr (.inl ⟨_,_,rfl,rfl,q.1,k _ H _ μ (Vr.flat l (.str _)) Fr.refl (Kp.refl μ) q.2⟩)
 ·rename_i xs ys e1 e2;have a:=h1.vw l e1;have b:=h2.vw l e2
  cases a with
  | lst ha ra=>cases b with
   | lst hb rb=>exact .inr (.inr (.inl ⟨_,_,_,_,rfl,rfl,ha,hb,by rw[ra.length,rb.length];exact q.1,fun p hp=>k _ _ _ μ (Vr.dJ l (ra.append rb) hp) (Fr.more hp) (Kp.refl μ) q.2⟩))
 ·rename_i xs ys e1 e2;have a:=Hv.yA l h1 e1;have b:=Hv.yA l h2 e2;have a':=a;have b':=b
  cases a with
  | tup na ha ra=>cases b with
   | tup nb hb rb =>
    refine .inr (.inr (.inr ⟨_,_,_,_,rfl,rfl,b6.of ha,b6.of hb,by rw[ra.length,rb.length];exact q.1,fun z=>?_,fun z1 z2=>?_,fun z1 z2 p hp=>k _ _ _ μ (Vr.vV l (ra.append rb) hp) (Fr.same (bC.new hp)) (Kp.refl μ) q.2⟩))
    ·subst z;cases ra;exact k _ H _ μ (Vr.flat l b') Fr.refl (Kp.refl μ) q.2
    ·subst z2;cases rb;have q2:=q.2;rw[List.append_nil] at q2;exact k _ H _ μ (Vr.flat l a') Fr.refl (Kp.refl μ) q2
 ·exact q.elim
def oU:U2:=fun r1 r2 μ Q=>match cont μ r1,cont μ r2 with
 | some (.int i),some (.int j)=>mY i j/\Q (.tr (.int (i*j))) μ
 | some (.lst xs),some (.int k)=>-(2 ^ 63)<=k/\k < 2 ^ 63/\xs.length*k.toNat<=sizeLine/\Q (.fr (.lst (List.replicate k.toNat xs).flatten)) μ
 | _,_=>False
theorem uR{K:PySem.W.Frag}:iR K Bm oU:=by
 intro F ad B σ H μ Q Qt x y r1 r2 hK l h1 h2 q k;unfold oU at q
 split at q
 ·rename_i i j e1 e2;have a:=h1.vw l e1;have b:=h2.vw l e2
  cases a;cases b
  exact⟨q.1,k _ H _ μ (Vr.flat l (.int _)) Fr.refl (Kp.refl μ) q.2⟩
 ·rename_i xs j e1 e2;have a:=h1.vw l e1;have b:=h2.vw l e2;cases b
  cases a with
  | lst ha ra=>exact⟨_,_,_,rfl,rfl,ha,q.1,q.2.1,by rw[ra.length];exact q.2.2.1,fun p hp=>k _ _ _ μ (Vr.dJ l (ra.rep _) hp) (Fr.more hp) (Kp.refl μ) q.2.2.2⟩
 ·exact q.elim
def nQ:U2:=fun r1 r2 μ Q=>match cont μ r1,cont μ r2 with
 | some (.lst xs),some (.int i)=>(match bV xs i with | some t=>Q (.tr t) μ | none=>False)
 | some (.tup xs),some (.int i)=>(match bV xs i with | some t=>Q (.tr t) μ | none=>False)
 | some (.gm xs),some (.int i)=>(match bV xs i with | some t=>Q (.tr t) μ | none=>False)
 | some (.str z),some (.int i)=>z.length<=sizeLine/\(match bV z.cps.toList i with | some c=>Q (.tr (.str ⟨#[c]⟩)) μ | none=>False)
 | _,_=>False
theorem cJ{X:Cx}(K:PySem.W.Frag)(hK:X.K=K):sA X (Fc K):=by subst hK;exact Cc
theorem Em{K:PySem.W.Frag}:iR K (Fc K) nQ:=by
 intro F ad B σ H μ Q Qt x y r1 r2 hK l h1 h2 q k;subst hK;unfold nQ at q
 split at q
 ·rename_i xs j e1 e2;have a:=h1.vw l e1;have b:=h2.vw l e2;cases b
  split at q
  ·rename_i t e3
   cases a with
   | lst ha ra =>
    obtain⟨v,e4,rv⟩:=ra.bV e3;exact .inl ⟨_,_,_,v,rfl,rfl,bB.of ha,e4,k _ H _ μ (Vr.flat l rv) Fr.refl (Kp.refl μ) q⟩
  ·exact q.elim
 ·rename_i xs j e1 e2;have a:=h1.vw l e1;have b:=h2.vw l e2;cases b
  split at q
  ·rename_i t e3
   cases a with
   | tup ha ra =>
    obtain⟨v,e4,rv⟩:=ra.bV e3;exact .inr (.inl ⟨_,_,_,v,rfl,rfl,b6.of ha,e4,k _ H _ μ (Vr.flat l rv) Fr.refl (Kp.refl μ) q⟩)
  ·exact q.elim
 ·rename_i xs j e1 e2;have a:=h1.vw l e1;have b:=h2.vw l e2;cases b
  split at q
  ·rename_i t e3
   cases a with
   | gm ha ra =>
    obtain⟨v,e4,rv⟩:=ra.bV e3;exact .inr (.inl ⟨_,_,_,v,rfl,rfl,.inr ha,e4,k _ H _ μ (Vr.flat l rv) Fr.refl (Kp.refl μ) q⟩)
  ·exact q.elim
 ·rename_i xs j e1 e2;have a:=h1.vw l e1;have b:=h2.vw l e2;cases b;cases a;obtain⟨q0,q⟩:=q
  split at q
  ·rename_i t e3;exact .inr (.inr ⟨_,_,_,rfl,rfl,q0,e3,k _ H _ μ (Vr.flat l (.str _)) Fr.refl (Kp.refl μ) q⟩)
  ·exact q.elim
 ·exact q.elim
def qO(neg:Bool):T->T->Mu->(R->Mu->Prop)->Prop:=fun t u μ Q=>match u with
 | .aI=>Q (.tr (.bl (match t with | .aI=>!neg | _=>neg))) μ
 | _=>False
theorem uv{K:PySem.W.Frag}:iR K (fun x y H Q=>y=.aI/\Q (.bl (decide (x=.aI))) H) (pR (qO false)):=dA fun F ad B σ H μ Q Qt x y t u hK l v1 v2 q k=>by
 unfold qO at q
 split at q
 ·cases v2;refine⟨rfl,?_⟩
  cases v1<;>exact k _ H _ (Vr.flat l (.bl _)) Fr.refl q
 ·exact q.elim
def CA:T->T->Bool
 | .aI,.aI=>true
 | .bl a,.bl b=>a == b
 | .bl a,.int b=>(if a then 1 else 0) == b
 | .int a,.bl b=>a ==(if b then 1 else 0)
 | .int a,.int b=>a == b
 | .str a,.str b=>a == b
 | _,_=>false
def rW(xs ys:List T):Bool:=xs.length == ys.length && (List.range (min xs.length ys.length)).all fun j=>match xs[j]?,ys[j]? with
 | some x,some y=>CA x y
 | _,_=>true
theorem zI{K:PySem.W.Frag}{H:Hp}{B:aJ}{x y:V}{t u:T}(h1:Rep K H B x t)(h2:Rep K H B y u)(f1:bM t=true)(f2:bM u=true):iE x=true/\iE y=true/\Cy x y=CA t u:=by
 cases h1<;>first | (cases f1;done) | (cases h2<;>first | (cases f2;done) | exact⟨rfl,rfl,rfl⟩)
def xK(K:PySem.W.Frag)(neg:Bool):R2:=fun x y H Q=>∃ a b xs ys,x=.ref a/\y=.ref b/\((bB K H a xs/\bB K H b ys)\/(b6 K H a xs/\b6 K H b ys))/\xs.all iE=true/\ys.all iE=true /\
 ∀ c,c=(xs.length == ys.length && (List.range (min xs.length ys.length)).all fun j=>match xs[j]?,ys[j]? with | some x,some y=>Cy x y | _,_=>true)->Q (.bl (if neg then !c else c)) H
theorem B4{X:Cx}(hu:X.A.units < cLine):cO X (compareOp .Eq) (xK X.K false):=by
 intro pins s σ H x y v u Q I rx ry h;obtain⟨a,b,xs,ys,rfl,rfl,hq,fx,fy,q⟩:=h
 cases rx;cases ry
 have item:∀ (its its2:List Value),Vals xs its->Vals ys its2->∀ j (h1:j < its.toArray.size) (h2:j < its2.toArray.size),SeqAt.EqAt X.A.in1 s its.toArray[j] its2.toArray[j] (match xs[j]?,ys[j]? with | some x,some y=>Cy x y | _,_=>true):=fun its its2 r1 r2 j h1 h2=>by
  have l1:=r1.length;have l2:=r2.length;rw[List.size_toArray] at h1 h2;obtain⟨u1,e1,g1⟩:=r1.get (i:=j) (x:=xs[j]) (List.getElem?_eq_getElem (by lia))
  obtain⟨u2,e2,g2⟩:=r2.get (i:=j) (x:=ys[j]) (List.getElem?_eq_getElem (by lia))
  rw[List.getElem?_eq_getElem (show j < xs.length by lia),List.getElem?_eq_getElem (show j < ys.length by lia)]
  have z1:its.toArray[j]=u1:=by
   rw[List.getElem?_eq_getElem h1] at e1;simpa using e1
  have z2:its2.toArray[j]=u2:=by
   rw[List.getElem?_eq_getElem h2] at e2;simpa using e2
  rw[z1,z2];exact nv g1 g2 (List.all_eq_true.mp fx _ (List.getElem_mem _)) (List.all_eq_true.mp fy _ (List.getElem_mem _))
 rcases hq with ⟨ha,hb⟩ | ⟨ha,hb⟩
 ·obtain⟨its,r1,p1,_⟩:=I.list ha;obtain⟨its2,r2,p2,_⟩:=I.list hb;have l1:=r1.length;have l2:=r2.length;by_cases e:xs.length=ys.length
  ·refine SeqAt.eq_listAt p1.isList p2.isList (by rw[List.size_toArray,List.size_toArray];lia) hu (item its its2 r1 r2) ⟨.bl _,H,I,rfl,q _ ?_⟩
   rw[List.size_toArray,<- l1,<- e,Nat.min_self,beq_self_eq_true,Bool.true_and]
  ·refine SeqAt.eq_list_lengthsAt p1.isList p2.isList (by rw[List.size_toArray,List.size_toArray,bne_iff_ne];lia) hu ⟨.bl _,H,I,rfl,q _ ?_⟩
   rw[beq_eq_false_iff_ne.mpr e,Bool.false_and]
 ·obtain⟨its,r1,p1,_⟩:=I.tuple ha;obtain⟨its2,r2,p2,_⟩:=I.tuple hb;have l1:=r1.length;have l2:=r2.length;refine SeqAt.eq_tupleAt p1 p2 hu (item its its2 r1 r2) ⟨.bl _,H,I,rfl,q _ ?_⟩;rw[List.size_toArray,List.size_toArray,<- l1,<- l2,Bool.and_comm];rfl
theorem bO{K:PySem.W.Frag}{H:Hp}{B:aJ}:∀ {xs:List V} {ts:List T},af K H B xs ts->ts.all bM=true->xs.all iE=true
 | _,_,.nil,_=>rfl
 | _,_,.cons h r,f=>by
  rw[List.all_cons,Bool.and_eq_true] at f ⊢;refine⟨?_,bO r f.2⟩;have f1:=f.1
  cases h<;>first | rfl | cases f1
theorem jO{K:PySem.W.Frag}{H:Hp}{B:aJ}{xs ys:List V}{ts us:List T}(h1:af K H B xs ts)(h2:af K H B ys us)(f1:ts.all bM=true)(f2:us.all bM=true):
  rW ts us=(xs.length == ys.length && (List.range (min xs.length ys.length)).all fun j=>match xs[j]?,ys[j]? with | some x,some y=>Cy x y | _,_=>true):=by
 unfold rW;have l1:=h1.length;have l2:=h2.length;rw[l1,l2];congr 1;refine List.all_congr rfl ?_ |>.symm;intro j
 cases a1:ts[j]? with
 | none =>
  have:xs[j]?=none:=List.getElem?_eq_none_iff.mpr (by have:=List.getElem?_eq_none_iff.mp a1;lia)
  rw[this]
 | some t =>
  obtain⟨v1,e1,r1⟩:=h1.get a1;rw[e1]
  cases a2:us[j]? with
  | none =>
   have:ys[j]?=none:=List.getElem?_eq_none_iff.mpr (by have:=List.getElem?_eq_none_iff.mp a2;lia)
   rw[this]
  | some u =>
   obtain⟨v2,e2,r2⟩:=h2.get a2;rw[e2];exact (zI r1 r2 (List.all_eq_true.mp f1 _ (List.mem_of_getElem? a1)) (List.all_eq_true.mp f2 _ (List.mem_of_getElem? a2))).2.2
def D5(K:PySem.W.Frag):R2:=fun x y H Q=>GL x y H Q\/xK K false x y H Q
theorem dN{X:Cx}(K:PySem.W.Frag)(hK:X.K=K)(hu:X.A.units < cLine):cO X (compareOp .Eq) (D5 K):=by subst hK;exact Ef.or (B4 hu)
def GA(neg:Bool):T->T->Mu->(R->Mu->Prop)->Prop:=fun t u μ Q=>match t,u with
 | .int i,.int j=>Q (.tr (.bl (if neg then !decide (i=j) else decide (i=j)))) μ
 | .str i,.str j=>Q (.tr (.bl (if neg then !decide (i=j) else decide (i=j)))) μ
 | .bl i,.bl j=>Q (.tr (.bl (if neg then !decide (i=j) else decide (i=j)))) μ
 | .lst xs,.lst ys=>neg=false/\xs.all bM=true/\ys.all bM=true/\Q (.tr (.bl (rW xs ys))) μ
 | .tup xs,.tup ys=>neg=false/\xs.all bM=true/\ys.all bM=true/\Q (.tr (.bl (rW xs ys))) μ
 | _,_=>False
theorem dV{α:Type}[DecidableEq α]{f:α->V}(hf:∀ a b,f a=f b->a=b)(a b:α):decide (f a=f b)=decide (a=b):=by
 rw[decide_eq_decide];exact⟨hf a b,fun h=>by rw[h]⟩
theorem gf{K:PySem.W.Frag}:iR K (D5 K) (pR (GA false)):=dA fun F ad B σ H μ Q Qt x y t u hK l v1 v2 q k=>by
 subst hK;unfold GA at q
 split at q
 ·cases v1;cases v2
  refine .inl ⟨rfl,?_⟩;rw[dV (f:=V.int) (fun a b h=>by injection h)]
  exact k _ H _ (Vr.flat l (.bl _)) Fr.refl q
 ·cases v1;cases v2
  refine .inl ⟨rfl,?_⟩;rw[dV (f:=V.str) (fun a b h=>by injection h)]
  exact k _ H _ (Vr.flat l (.bl _)) Fr.refl q
 ·cases v1;cases v2
  refine .inl ⟨rfl,?_⟩;rw[dV (f:=V.bl) (fun a b h=>by injection h)]
  exact k _ H _ (Vr.flat l (.bl _)) Fr.refl q
 ·cases v1 with
  | lst ha ra=>cases v2 with
   | lst hb rb=>exact .inr ⟨_,_,_,_,rfl,rfl,.inl ⟨bB.of ha,bB.of hb⟩,bO ra q.2.1,bO rb q.2.2.1,fun c hc=>by
     rw[<- jO ra rb q.2.1 q.2.2.1] at hc;subst hc;exact k _ H _ (Vr.flat l (.bl _)) Fr.refl q.2.2.2⟩
 ·cases v1 with
  | tup ha ra=>cases v2 with
   | tup hb rb=>exact .inr ⟨_,_,_,_,rfl,rfl,.inr ⟨b6.of ha,b6.of hb⟩,bO ra q.2.1,bO rb q.2.2.1,fun c hc=>by
     rw[<- jO ra rb q.2.1 q.2.2.1] at hc;subst hc;exact k _ H _ (Vr.flat l (.bl _)) Fr.refl q.2.2.2⟩
 ·exact q.elim
def n8(f:T->Mu->(R->Mu->Prop)->Prop):UC:=fun rs μ Q=>match rs with
 | [r]=>(match cont μ r with | some t=>f t μ Q | none=>False)
 | _=>False
theorem dS{K:PySem.W.Frag}{r:List V->Hp->VK->Prop}{f:T->Mu->(R->Mu->Prop)->Prop}
  (h:∀ (F:Fx) (ad:Nat->Addr) (B:aJ) (σ:St) (H:Hp) (μ:Mu) (Q:VK) (Qt:R->Mu->Prop) (x:V) (t:T),F.K=K->Rl F ad B σ H μ->Vw F.K H B x t->f t μ Qt ->
   (∀ v H' r,Vr F ad B σ H' μ v r->Fr B H (Bv B v r) H'->Qt r μ->Q v H')->r [x] H Q):RC K r (n8 f):=by
 intro F ad B σ H μ Q Qt xs rs hK l p q k;unfold n8 at q
 split at q
 ·split at q
  ·rename_i r0 _ t e
   cases p with
   | cons h1 p=>cases p;exact h F ad B σ H μ Q Qt _ t hK l (h1.vw l e) q fun v H' r v1 s q1=>k v H' r μ v1 s (Kp.refl μ) q1
  ·exact q.elim
 ·exact q.elim
def mw:T->Mu->(R->Mu->Prop)->Prop:=fun t μ Q=>match t with
 | .lst xs=>Q (.tr (.int xs.length)) μ
 | .tup xs=>Q (.tr (.int xs.length)) μ
 | .d7 xs=>Q (.tr (.int xs.length)) μ
 | .gm xs=>Q (.tr (.int xs.length)) μ
 | .str z=>z.length<=sizeLine/\Q (.tr (.int z.length)) μ
 | _=>False
def wJ(K:PySem.W.Frag):List V->Hp->VK->Prop:=fun xs H Q=>(∃ p ys,xs=[.ref p]/\(bB K H p ys\/b6 K H p ys)/\Q (.int ys.length) H)\/(∃ z,xs=[.str z]/\z.length<=sizeLine/\Q (.int z.length) H)
theorem aq{X:Cx}(K:PySem.W.Frag)(hK:X.K=K):aL X (.builtin "len") (wJ K):=by subst hK;exact kG.or kB
theorem BX{K:PySem.W.Frag}:RC K (wJ K) (n8 mw):=dS fun F ad B σ H μ Q Qt x t hK l v1 q k=>by
 subst hK;unfold mw at q
 split at q
 ·cases v1 with
  | lst ha ra=>exact .inl ⟨_,_,rfl,.inl (bB.of ha),by rw[ra.length];exact k _ H _ (Vr.flat l (.int _)) Fr.refl q⟩
 ·cases v1 with
  | tup ha ra=>exact .inl ⟨_,_,rfl,.inr (b6.of ha),by rw[ra.length];exact k _ H _ (Vr.flat l (.int _)) Fr.refl q⟩
 ·cases v1 with
  | d7 ha ra=>exact .inl ⟨_,_,rfl,.inl ha,by rw[ra.length];exact k _ H _ (Vr.flat l (.int _)) Fr.refl q⟩
 ·cases v1 with
  | gm ha ra=>exact .inl ⟨_,_,rfl,.inr (.inr ha),by rw[ra.length];exact k _ H _ (Vr.flat l (.int _)) Fr.refl q⟩
 ·cases v1;exact .inr ⟨_,rfl,q.1,k _ H _ (Vr.flat l (.int _)) Fr.refl q.2⟩
 ·exact q.elim
def fD:UC:=fun rs μ Q=>match rs with
 | [r]=>(match cont μ r with
  | some (.lst xs)=>Q (.tr (.tup xs)) μ
  | some (.tup xs)=>Q (.tr (.tup xs)) μ
  | _=>False)
 | _=>False
def zq(K:PySem.W.Frag):List V->Hp->VK->Prop:=fun xs H Q=>∃ p ys,xs=[.ref p]/\((bB K H p ys/\∀ l,H l=none->Q (.ref l) (upd H l (.tup ys)))\/(b6 K H p ys/\Q (.ref p) H))
theorem aZ{X:Cx}(K:PySem.W.Frag)(hK:X.K=K):aL X (.type "tuple") (zq K):=by subst hK;exact jf
theorem bD{K:PySem.W.Frag}:RC K (zq K) fD:=by
 intro F ad B σ H μ Q Qt xs rs hK l p q k;subst hK;unfold fD at q
 split at q
 ·cases p with
  | cons h1 p =>
   cases p
   split at q
   ·rename_i e;have v1:=h1.vw l e
    cases v1 with
    | lst ha ra=>exact⟨_,_,rfl,.inl ⟨bB.of ha,fun p hp=>k _ _ _ μ (Vr.vV l ra hp) (Fr.same (bC.new hp)) (Kp.refl μ) q⟩⟩
   ·rename_i e;have rp:=Hv.yA l h1 e;have rp':=rp
    cases rp with
    | tup na ha ra=>exact⟨_,_,rfl,.inr ⟨b6.of ha,k _ H _ μ (Vr.flat l rp') Fr.refl (Kp.refl μ) q⟩⟩
   ·exact q.elim
 ·exact q.elim
def l_:T->Mu->(R->Mu->Prop)->Prop:=fun t μ Q=>match t with
 | .lst xs=>Q (.fr (.lst xs)) μ
 | .tup xs=>Q (.fr (.lst xs)) μ
 | .d7 xs=>Q (.fr (.lst xs)) μ
 | .dk lo hi=>(hi - lo).toNat<=65536/\-(2 ^ 62)<=lo/\lo < 2 ^ 62/\-(2 ^ 62)<=hi/\hi < 2 ^ 62/\Q (.fr (.lst ((List.range (hi - lo).toNat).map fun k=>T.int (lo+(k:Nat))))) μ
 | _=>False
def wI(K:PySem.W.Frag):List V->Hp->VK->Prop:=fun xs H Q=>(∃ p ys,xs=[.ref p]/\(bB K H p ys\/b6 K H p ys)/\∀ l,H l=none->Q (.ref l) (upd H l (.lst ys))) \/
 (∃ p lo hi,xs=[.ref p]/\H p=some (.dk lo hi)/\(hi - lo).toNat<=65536/\-(2 ^ 62)<=lo/\lo < 2 ^ 62/\-(2 ^ 62)<=hi/\hi < 2 ^ 62/\∀ l,H l=none->Q (.ref l) (upd H l (.lst ((List.range (hi - lo).toNat).map fun k=>V.int (lo+(k:Nat))))))
theorem dh{lo:Int}:∀ (n:Nat) (acc:List Value) (k:Nat),acc.length=n->(∀ j v,acc[j]?=some v->∃ t,v=Value.int (lo+((k+j:Nat):Int)) t)->Vals ((List.range' k n).map fun k=>V.int (lo+(k:Nat))) acc
 | 0,acc,k,h,_=>by cases acc with | nil=>exact .nil | cons a b=>cases h
 | n+1,[],k,h,_=>by cases h
 | n+1,a::acc,k,h,g=>by
  rw[List.range'_succ,List.map_cons];refine .cons ?_ (dh n acc (k+1) (by simpa using h) fun j v e=>?_)
  ·obtain⟨t,e⟩:=g 0 a rfl;exact⟨t,by simpa using e⟩
  ·obtain⟨t,e2⟩:=g (j+1) v (by simpa using e)
   exact⟨t,by rw[e2];congr 2;lia⟩
theorem nr{X:Cx}(hc:X.calm=true):aL X (.type "list") (fun xs H Q=>∃ p lo hi,xs=[.ref p]/\H p=some (.dk lo hi)/\(hi - lo).toNat<=65536/\-(2 ^ 62)<=lo/\lo < 2 ^ 62/\-(2 ^ 62)<=hi/\hi < 2 ^ 62/\∀ l,H l=none->Q (.ref l) (upd H l (.lst ((List.range (hi - lo).toNat).map fun k=>V.int (lo+(k:Nat)))))):=by
 intro pins s σ H xs us Q I r h;obtain⟨p,lo,hi,rfl,hp,hn,h1,h2,h3,h4,q⟩:=h;obtain⟨u,rfl,rx⟩:=vals1 r;cases rx;obtain⟨t,u,v,e⟩:=I.aS p _ hp;have hn2:Builtin.Range.rangeSize lo hi 1=((hi - lo).toNat:Nat):=by rw[rangeSize_one];split<;>lia
 refine call_list_range (n:=(hi - lo).toNat) (I.ok.hd hc) e (small_one h1 h2 h3 h4) hn2 (by lia) fun h' tk acc c' hk hS hI=>?_
 have hv:Vals ((List.range (hi - lo).toNat).map fun k=>V.int (lo+(k:Nat))) acc.toList:=by
  rw[List.range_eq_range'];refine dh _ _ 0 (by simpa using hI.1) fun j v e=>?_
  obtain⟨t,e2⟩:=hI.2 j v (by simpa using e)
  exact⟨t,by rw[e2];simp⟩
 refine⟨.ref s.heap.objs.size,_,I.laid (t':=tk) hk (Nat.le_refl _) (show b7 X.prog X.w _ h' _ (.lst _) from⟨?_,acc.toList,c',hv,by simpa using hS⟩),rfl,q _ (I.aS.fresh (Nat.le_refl _))⟩
 rw[List.length_map,List.length_range];exact Nat.le_trans hn (by decide)
theorem o8{X:Cx}(K:PySem.W.Frag)(hK:X.K=K)(hc:X.calm=true):aL X (.type "list") (wI K):=by subst hK;exact kg.or (nr hc)
theorem ie{K:PySem.W.Frag}{H:Hp}{B:aJ}{lo:Int}:∀ l:List Nat,af K H B (l.map fun k=>V.int (lo+(k:Nat))) (l.map fun k=>T.int (lo+(k:Nat)))
 | []=>.nil
 | k::l=>.cons (.int _) (ie l)
theorem ya{K:PySem.W.Frag}:RC K (wI K) (n8 l_):=dS fun F ad B σ H μ Q Qt x t hK l v1 q k=>by
 subst hK;unfold l_ at q
 split at q
 ·cases v1 with
  | lst ha ra=>exact .inl ⟨_,_,rfl,.inl (bB.of ha),fun p hp=>k _ _ _ (Vr.dJ l ra hp) (Fr.more hp) q⟩
 ·cases v1 with
  | tup ha ra=>exact .inl ⟨_,_,rfl,.inr (b6.of ha),fun p hp=>k _ _ _ (Vr.dJ l ra hp) (Fr.more hp) q⟩
 ·cases v1 with
  | d7 ha ra=>exact .inl ⟨_,_,rfl,.inl ha,fun p hp=>k _ _ _ (Vr.dJ l ra hp) (Fr.more hp) q⟩
 ·cases v1 with
  | dk ha=>exact .inr ⟨_,_,_,rfl,ha,q.1,q.2.1,q.2.2.1,q.2.2.2.1,q.2.2.2.2.1,fun p hp=>k _ _ _ (Vr.dJ l (ie _) hp) (Fr.more hp) q.2.2.2.2.2⟩
 ·exact q.elim
def nk:UC:=fun rs μ Q=>match rs with
 | [.tr (.int j)]=>Q (.tr (.dk 0 j)) μ
 | [.tr (.int i),.tr (.int j)]=>Q (.tr (.dk i j)) μ
 | _=>False
def oX:List V->Hp->VK->Prop:=fun xs H Q=>(∃ j,xs=[.int j]/\∀ p,H p=none->Q (.ref p) (upd H p (.dk 0 j)))\/(∃ i j,xs=[.int i,.int j]/\∀ p,H p=none->Q (.ref p) (upd H p (.dk i j)))
theorem lP{X:Cx}:aL X (.type "range") oX:=by
 intro pins s σ H xs us Q I r h;rcases h with ⟨j,rfl,q⟩ | ⟨i,j,rfl,q⟩
 ·obtain⟨u,rfl,t,rfl⟩:=vals1 r;refine call_range_1 ?_;exact⟨.ref s.heap.objs.size,_,I.laid (o:=.dk 0 j) (fun b ob q=>Heap.get?_push_of_some _ q) (Nat.le_refl _) (show b7 X.prog X.w _ _ _ (.dk 0 j) from⟨_,_,_,Heap.get?_push_size _ rfl⟩),rfl,q _ (I.aS.fresh (Nat.le_refl _))⟩
 ·obtain⟨u,w',rfl,⟨t,rfl⟩,⟨t',rfl⟩⟩:=vals2 r;refine call_range_2 ?_;exact⟨.ref s.heap.objs.size,_,I.laid (o:=.dk i j) (fun b ob q=>Heap.get?_push_of_some _ q) (Nat.le_refl _) (show b7 X.prog X.w _ _ _ (.dk i j) from⟨_,_,_,Heap.get?_push_size _ rfl⟩),rfl,q _ (I.aS.fresh (Nat.le_refl _))⟩
theorem vp{K:PySem.W.Frag}:RC K oX nk:=by
 intro F ad B σ H μ Q Qt xs rs hK l p q k;have fin:∀ lo hi p,H p=none->Vr F ad B σ (upd H p (.dk lo hi)) μ (.ref p) (.tr (.dk lo hi)):=fun lo hi p hp=>⟨l.same (bC.new hp),.dk (l.jY hp) aj⟩;unfold nk at q
 split at q
 ·cases p with
  | cons h1 p=>cases p;cases aW h1;exact .inl ⟨_,rfl,fun p hp=>k _ _ _ μ (fin _ _ p hp) (Fr.same (bC.new hp)) (Kp.refl μ) q⟩
 ·cases p with
  | cons h1 p=>cases p with
   | cons h2 p=>cases p;cases aW h1;cases aW h2;exact .inr ⟨_,_,rfl,fun p hp=>k _ _ _ μ (fin _ _ p hp) (Fr.same (bC.new hp)) (Kp.refl μ) q⟩
 ·exact q.elim
def AI(g:Int->Int->Int):UC:=fun rs μ Q=>match rs with
 | [.tr (.int i),.tr (.int j)]=>Q (.tr (.int (g i j))) μ
 | _=>False
theorem zU{K:PySem.W.Frag}{r:List V->Hp->VK->Prop}{g:Int->Int->Int}(h:∀ i j H Q,Q (.int (g i j)) H->r [.int i,.int j] H Q):RC K r (AI g):=by
 intro F ad B σ H μ Q Qt xs rs hK l p q k;unfold AI at q
 split at q
 ·cases p with
  | cons h1 p=>cases p with
   | cons h2 p=>cases p;cases aW h1;cases aW h2;exact h _ _ _ _ (k _ H _ μ (Vr.flat l (.int _)) Fr.refl (Kp.refl μ) q)
 ·exact q.elim
theorem kI{K:PySem.W.Frag}:RC K Ay (AI fun i j=>if j > i then j else i):=zU fun i j H Q q=>q
theorem B8{K:PySem.W.Frag}:RC K Ez (AI fun i j=>if j < i then j else i):=zU fun i j H Q q=>q
def vc:UC:=fun rs μ Q=>match rs with
 | [.tr (.int i)]=>Q (.tr (.int i)) μ
 | [.tr (.bl k)]=>Q (.tr (.int (if k=true then 1 else 0))) μ
 | _=>False
theorem Bw{K:PySem.W.Frag}:RC K EI vc:=by
 intro F ad B σ H μ Q Qt xs rs hK l p q k;unfold vc at q
 split at q
 ·cases p with
  | cons h1 p=>cases p;cases aW h1;exact k _ H _ μ (Vr.flat l (.int _)) Fr.refl (Kp.refl μ) q
 ·cases p with
  | cons h1 p=>cases p;cases aW h1;exact k _ H _ μ (Vr.flat l (.int _)) Fr.refl (Kp.refl μ) q
 ·exact q.elim
end Y
namespace Y
section
variable {X:Cx} {a b c e o:Expr} {es rest:List Expr} {ua ub uc ue uo:UE} {uA uB:UT} {us:UA} {pos p p2 p3:Pos} {x:Str}
def bu{α:Type}(xs:List α)(lo hi:Option Int):List α:=(xs.drop (HT.bq xs.length 0 lo)).take (HT.bq xs.length xs.length hi - HT.bq xs.length 0 lo)
theorem af.cut{K:PySem.W.Frag}{H:Hp}{B:aJ}{vs:List V}{ts:List T}(r:af K H B vs ts)(lo hi:Option Int):af K H B (kM vs lo hi) (bu ts lo hi):=by
 unfold kM bu;rw[r.length];exact (r.drop _).take _
def CD(K:PySem.W.Frag):V->Option Int->Option Int->Hp->VK->Prop:=fun x lo hi H Q=>∃ a xs,x=.ref a/\b6 K H a xs/\HT.bq xs.length 0 lo=0/\HT.bq xs.length xs.length hi=xs.length/\Q (.ref a) H
theorem fq{prog:Program}{w:World}{A:Around}{E:Value->Shared->Prop}{s:Shared}{t sl:Addr}{items:Array Value}{vl vu:Value}{lo hi:Option Int}{Q:Value->Shared->Prop}(ht:IsTup s.heap t items)(hs:s.heap.IsSliceOf sl vl vu .none)(pl:IsPart vl lo)(pu:IsPart vu hi)
  (h1:HT.bq items.size 0 lo=0) (h2:HT.bq items.size items.size hi=items.size) (h:Q (.ref t) s):wpAny (model prog w) A (getItem (.ref t) (.ref sl)) Q E s:=by
 obtain⟨os,hos,hcs,hds⟩:=id hs;have hTs:s.TypeIs (.ref sl) "slice":=⟨os,hos,hcs⟩;unfold getItem
 try with_reducible refine wpAny_holding ?_
 first | refine wpAny_bind (wpAny_pure ?_) | skip
 refine wpAny_bind (wpAny_sequenceKey ht.typeIs (by decide) ?_)
 refine wpAny_bind (wpAny_callSpecial?_slot (name:=Str.ofString "__getitem__") ht.typeIs PyProof.Rows.slot_tuple_getitem
  (wpAny_call_entry PyProof.Rows.slot_tuple_getitem ht.typeIs entry_tuple_getitem ?_ (args_tuple_getitem _ _)))
 show wpAny _ _ (Builtin.Tuple.tupleItemsOf (.ref t) >>= _) _ _ s;refine wpAny_bind (tupleItemsOf_ ht ?_);refine wpAny_bind (wpAny_typeOf hTs ?_);rw[if_pos (by decide)]
 refine wpAny_bind (HT.dm hs pl pu ?_);show wpAny _ _ (if (((HT.bq items.size 0 lo:Nat):Int) == 0 && (1:Int) == 1 && (HT.bq items.size items.size hi - HT.bq items.size 0 lo) == items.size)=true then _ else _) _ _ s
 rw[if_pos (by rw[h1,h2];simp)]
 unfold Builtin.Tuple.tupleIsExact;refine wpAny_bind ?_;refine wpAny_bind (wpAny_typeOf ht.typeIs (wpAny_pure ?_));rw[if_pos (by decide)]
 exact wpAny_bind (wpAny_rule (wpAny_pure ⟨_,rfl,wpAny_pure h⟩))
theorem AR{X:Cx}:sD X (CD X.K):=by
 intro pins s σ H x v vl vu lo hi sl Q I rx hs pl pu h;obtain⟨a,xs,rfl,hx,h1,h2,q⟩:=h;cases rx;obtain⟨its,r,ht,hz⟩:=I.tuple hx;have hlen:its.toArray.size=xs.length:=by rw[List.size_toArray];exact r.length.symm
 exact⟨"tuple",_,PyProof.Rows.slot_tuple_getitem.lookup,ht.typeIs,fq ht hs pl pu (by rw[hlen];exact h1) (by rw[hlen];exact h2) ⟨.ref a,H,I,rfl,q⟩⟩
def DF(K:PySem.W.Frag):V->Option Int->Option Int->Hp->VK->Prop:=fun x lo hi H Q=>DM K x lo hi H Q\/y4 K x lo hi H Q\/CD K x lo hi H Q
theorem Ga(K:PySem.W.Frag)(hK:X.K=K):sD X (DF K):=by subst hK;exact xl.or (Aq.or AR)
def GD(ue:UE)(ul uh:UO):UE:=fun μ Q=>ue μ fun r μ1=>ul μ1 fun lo μ2=>uh μ2 fun hi μ3=>match cont μ3 r.d with
 | some (.lst xs)=>Q (.fr (.lst (bu xs lo hi))) μ3
 | some (.d7 xs)=>Q (.fr (.lst (bu xs lo hi))) μ3
 | some (.tup xs)=>Q (.tr (.tup (bu xs lo hi))) μ3
 | _=>False
end
end Y
structure om (F:Fx) (B:aJ) (H:Hp) (D:Ends) (E:Ed):Prop where
 nx:∀ ad' B' σ' H' μ',Rl F ad' B' σ' H' μ'->Fr B H B' H'->E.nx μ'->D.nx σ' H'
 rt:∀ ad' B' σ' H' μ' v r,Vr F ad' B' σ' H' μ' v r->E.rt r μ'->D.rt v H'
 bk:∀ ad' B' σ' H' μ',Rl F ad' B' σ' H' μ'->Fr B H B' H'->E.bk μ'->D.bk σ' H'
 ct:∀ ad' B' σ' H' μ',Rl F ad' B' σ' H' μ'->Fr B H B' H'->E.ct μ'->D.ct σ' H'
theorem om.step{F:Fx}{B B1:aJ}{H H1:Hp}{D:Ends}{E:Ed}(h:om F B H D E)(f:Fr B H B1 H1):om F B1 H1 D E:=
 ⟨fun ad' B' σ' H' μ' l g q=>h.nx ad' B' σ' H' μ' l (f.trans g) q,h.rt,fun ad' B' σ' H' μ' l g q=>h.bk ad' B' σ' H' μ' l (f.trans g) q,fun ad' B' σ' H' μ' l g q=>h.ct ad' B' σ' H' μ' l (f.trans g) q⟩
def RS(K:PySem.W.Frag)(ts:TS)(us:US):Prop:=∀ (F:Fx) (D:Ends) (E:Ed) (ad:Nat->Addr) (B:aJ) (σ:St) (H:Hp) (μ:Mu),F.K=K->Rl F ad B σ H μ->us E μ->om F B H D E->ts D σ H
noncomputable abbrev UG:=R->Mu->(Mu->Prop)->Prop
noncomputable abbrev qj:=List T->Mu->(Mu->Prop)->Prop
def RG(K:PySem.W.Frag)(g:TG)(ug:UG):Prop:=∀ (F:Fx) (ad:Nat->Addr) (B:aJ) (σ:St) (H:Hp) (μ:Mu) (v:V) (r:R) (B0:aJ) (H0:Hp) (Q:St->Hp->Prop) (Qt:Mu->Prop),F.K=K->Vr F ad B σ H μ v r->Fr B0 H0 (Bv B v r) H->ug r μ Qt ->
 (∀ ad' B' σ' H' μ',Rl F ad' B' σ' H' μ'->Fr B0 H0 B' H'->Qt μ'->Q σ' H')->g v σ H Q
def Hg(K:PySem.W.Frag)(g:sg)(ug:qj):Prop:=∀ (F:Fx) (ad:Nat->Addr) (B:aJ) (σ:St) (H:Hp) (μ:Mu) (vs:List V) (ts:List T) (B0:aJ) (H0:Hp) (Q:St->Hp->Prop) (Qt:Mu->Prop),F.K=K->Rl F ad B σ H μ->af F.K H B vs ts->Fr B0 H0 B H->ug ts μ Qt ->
 (∀ ad' B' σ' H' μ',Rl F ad' B' σ' H' μ'->Fr B0 H0 B' H'->Qt μ'->Q σ' H')->g vs σ H Q
structure YG (X:Cx) (e:Expr) (u:UG):Prop where
 ex:∃ t,QG X e t/\RG X.K t u
structure Eg (X:Cx) (es:List Expr) (u:qj):Prop where
 ex:∃ t,D_ X es t/\Hg X.K t u
structure YS (X:Cx) (st:Stmt) (u:US):Prop where
 ex:∃ t,QS X st t/\RS X.K t u
structure YB (X:Cx) (sts:List Stmt) (u:US):Prop where
 ex:∃ t,QB X sts t/\RS X.K t u
namespace Y
def sE(μ:Mu)(i:Nat):Prop:=match μ[i]? with
 | some (.pb _)=>False
 | _=>True
theorem jR{μ:Mu}{i:Nat}(h:sE μ i):∀ c,μ[i]?≠some (.pb c):=fun c e=>by unfold sE at h;rw[e] at h;exact h
def gN(i:Nat):UG:=fun r μ Q=>match r with
 | .tr t=>sE μ i/\Q (μ.set i (.tr t))
 | .fr c=>sE μ i/\Q (μ.set i (.bx c))
 | .br _=>False
section
variable {X:Cx} {a b c e o tg:Expr} {es rest:List Expr} {ua ub uc ue uo:UE} {uA uB:UT} {us:UA} {pos pos' p p2 p3:Pos} {x:Str} {st:Stmt} {sts xs ys:List Stmt} {u w:US}
theorem gJ{K:PySem.W.Frag}{i:Nat}:RG K (cG i) (gN i):=fun F ad B σ H μ v r B0 H0 Q Qt hK h f q k=>by
 cases r with
 | tr t=>exact k ad B _ H _ (h.1.BG (jR q.1) h.2) f q.2
 | br i=>exact q.elim
 | fr c =>
  obtain⟨l,a,rfl,n,h0,l2,x⟩:=h;exact k _ _ _ H _ (l2.setB (jR q.1) h0 n l.own l.gB x) f q.2
theorem aQ{i:Nat}(hN:X.N.Nodup)(hi:X.N[i]?=some x)(hx:Loc X.env.scope x)(hf:X.fn x=true\/X.env.scope.names.lookup x=some .local:=by first | exact .inl rfl | exact .inr rfl | assumption):YG X (.Name x pos) (gN i):=⟨_,Z.aQ hN hi hx hf,gJ⟩
def EN:qj:=fun ts μ Q=>match ts with
 | []=>Q μ
 | _=>False
def Fm(g:UG)(gs:qj):qj:=fun ts μ Q=>match ts with
 | []=>False
 | t::ts=>g (.tr t) μ fun μ'=>gs ts μ' Q
theorem fX:Eg X [] EN:=⟨_,Z.fX,fun F ad B σ H μ vs ts B0 H0 Q Qt hK l r f q k=>by
 cases r with
 | nil=>exact⟨rfl,k ad B σ H μ l f q⟩
 | cons=>exact q.elim⟩
theorem cu{g:UG}{gs:qj}(h1:YG X e g)(h2:Eg X es gs)(hs:(assignEach (e::es) X.env).map (·.2)=assign e X.env::(assignEach es X.env).map (·.2):=by rfl):Eg X (e::es) (Fm g gs):=by
 obtain⟨t,q,r⟩:=h1;obtain⟨t',q',r'⟩:=h2;refine⟨_,Z.cu q q' hs,fun F ad B σ H μ vs ts B0 H0 Q Qt hK l rs f q k=>?_⟩
 cases rs with
 | nil=>exact q.elim
 | cons h hr=>exact⟨_,_,rfl,r F ad B σ H μ _ (.tr _) B H _ _ hK ⟨l,h⟩ Fr.refl q fun ad' B' σ' H' μ' l' f' q'=>r' F ad' B' σ' H' μ' _ _ B0 H0 _ _ hK l' (hr.fr f') (f.trans f') q' k⟩
def gT(n:Nat)(gs:qj):UG:=fun r μ Q=>match cont μ r.d with
 | some (.tup ts)=>ts.length=n/\gs ts μ Q
 | some (.lst ts)=>ts.length=n/\gs ts μ Q
 | _=>False
def Ds(K:PySem.W.Frag)(n:Nat)(t:sg):TG:=fun v σ H Q=>∃ a xs,v=.ref a/\(b6 K H a xs\/bB K H a xs)/\xs.length=n/\t xs σ H Q
theorem jj{prog:Program}{w:World}{A:Around}{E:Value->Shared->Prop}{it t:Addr}{items:Array Value}(hne:t≠it):∀ (n i:Nat) (s:Shared) (Q:List Value->Shared->Prop),s.heap.IsListIter it t i->s.heap.IsList t items->i+n<=items.size ->
  (∀ h',h'.IsListIter it t (i+n)->Heap.SameBut it s.heap h'->Q ((items.toList.drop i).take n) { s with heap:=h' })->wpAny (model prog w) A (draw (.ref it) n) Q E s
 | 0,i,s,Q,hit,_,_,hQ=>by
  show wpAny _ _ (pure []) Q E s;exact wpAny_pure (by simpa using hQ s.heap hit (Heap.SameBut.refl ..))
 | n+1,i,s,Q,hit,ht,hle,hQ=>by
  have hlt:i < items.size:=by lia
  show wpAny _ _ (pyNext (.ref it) >>= _) Q E s;refine wpAny_bind (wpAny_pyNext_list_item hit ht (x:=items[i]) (by simp[hlt]) fun h₁ hit₁ hs₁=>?_)
  refine wpAny_bind (wpAny_holding (jj hne n (i+1) _ _ hit₁ (ht.extBut hs₁.extBut hne) (by lia) fun h₂ hit₂ hs₂=>wpAny_pure ?_))
  have hd:items.toList.drop i=items[i]::items.toList.drop (i+1):=by simp[List.drop_eq_getElem_cons,hlt]
  have:=hQ h₂ (by rw[show i+(n+1)=i+1+n by lia];exact hit₂) (hs₁.trans hs₂)
  rw[hd,List.take_succ_cons] at this;exact this
theorem fB{prog:Program}{w:World}{A:Around}{E:Value->Shared->Prop}{s:Shared}{t:Addr}{items:Array Value}{Q:List Value->Shared->Prop}(hh:A.handled=none)(ht:s.heap.IsList t items)
  (hQ:∀ h',Heap.ExtBut s.heap.objs.size s.heap h'->Q items.toList { s with heap:=h' }):wpAny (model prog w) A (unpackItems (.ref t) items.size none) Q E s:=by
 have hlt:t≠s.heap.objs.size:=by obtain⟨o,ho,_⟩:=ht;exact Nat.ne_of_lt (Heap.lt_size ho)
 unfold unpackItems;refine wpAny_bind ?_
 ·unfold notIterableAtAll;refine wpAny_bind (wpAny_specialOf ht.typeIs F.slot_list_iter.lookup ?_);refine wpAny_pure ?_;simp only[Bool.false_eq_true,if_false];refine wpAny_bind (wpAny_holding (wpAny_pyIter_list ht ?_));refine wpAny_bind (wpAny_holding (jj hlt items.size 0 _ _ ⟨_,Heap.get?_push_size _ rfl,rfl,rfl⟩ (ht.push _) (by lia) fun h₁ hit₁ hs₁=>?_))
  have hall:List.take items.size (List.drop 0 items.toList)=items.toList:=by
   rw[List.drop_zero];exact List.take_of_length_le (by simp)
  rw[hall];rw[if_neg (by simp)]
  have ht₁:h₁.IsList t items:=(ht.push _).extBut hs₁.extBut hlt;refine wpAny_bind (wpAny_holding (wpAny_pyNext_list_end hh hit₁ ht₁ (by simp) fun h₂ he₂=>?_))
  simp only[Option.isSome_none,Bool.false_eq_true,if_false];refine wpAny_pure (hQ h₂ fun b o hb e=>he₂ b o hb (hs₁.extBut b o hb (Heap.get?_push_of_some _ e)))
theorem xg{es:List Expr}{k:Nat}{t:sg}{n:Nat}(hc:X.calm=true)(h:CB X es t)
  (hn:(assignEach es X.env).length=n:=by rfl) (hst:(assignEach es X.env).findIdx? (·.1)=none:=by rfl):PG X (.Tuple es k pos) (Ds X.K n t):=by
 intro pins s σ H v u Q I r hw;obtain⟨a,xs,e1,hq,hl,hw⟩:=hw;rcases hq with hq | hq
 ·exact u0 hc h hn hst pins s σ H v u Q I r ⟨a,xs,e1,hq,hl,hw⟩
 ·subst e1;cases r;obtain⟨its,rv,ht,hz⟩:=I.list hq;rw[assign_Tuple];refine wpAny_bind (wpAny_standAt ?_);unfold unpack;have hsz:(assignEach es X.env).length=its.toArray.size:=by rw[hn,<- hl,rv.length];simp
  rw[hsz,hst];refine wpAny_bind (wpAny_holding (fB (I.ok.hd hc) ht.isList fun h' hx=>?_));have I1:Inv X pins σ H { s with heap:=h' }:=I.kept (t':=s.toks) fun b o e=>hx b o (Nat.ne_of_lt (Heap.lt_size e)) e
  exact h pins _ σ H xs _ Q I1 (by simpa using rv) hw
theorem oa(K:PySem.W.Frag)(hK:X.K=K){k n:Nat}{gs:qj}(hc:X.calm=true)(h:Eg X es gs)(hn:(assignEach es X.env).length=n:=by rfl)(hst:(assignEach es X.env).findIdx? (·.1)=none:=by rfl):YG X (.Tuple es k pos) (gT n gs):=by
 obtain⟨t,q,r⟩:=h;subst hK;refine⟨_,⟨xg hc q.h hn hst⟩,fun F ad B σ H μ v rr B0 H0 Q Qt hF h f q k=>?_⟩;have l:=h.rl;have f':Fr B0 H0 B H:=fun b o h n=>⟨(f b o h n).1,fun z=>(f b o h n).2 (by cases rr<;>first | exact z | (cases v<;>first | exact z | exact .inr z))⟩
 unfold gT at q
 split at q
 ·rename_i ts e;have w:=h.hv.vw l e;rw[hF] at w
  cases w with
  | tup ha ra=>exact⟨_,_,rfl,.inl (b6.of ha),by rw[ra.length];exact q.1,r F ad B σ H μ _ ts B0 H0 Q Qt hF l (by rw[hF];exact ra) f' q.2 k⟩
 ·rename_i ts e;have w:=h.hv.vw l e;rw[hF] at w
  cases w with
  | lst ha ra=>exact⟨_,_,rfl,.inr (bB.of ha),by rw[ra.length];exact q.1,r F ad B σ H μ _ ts B0 H0 Q Qt hF l (by rw[hF];exact ra) f' q.2 k⟩
 ·exact q.elim
theorem df:YB X [] (fun E μ=>E.nx μ):=⟨_,Z.df,fun F D E ad B σ H μ hK l q h=>h.nx ad B σ H μ l Fr.refl q⟩
theorem aX(h:YS X st u):YB X [st] u:=by obtain⟨t,q,r⟩:=h;exact⟨t,Z.aX q,r⟩
def BC(u w:US):US:=fun E μ=>u { E with nx:=w E } μ
theorem ai(h:YS X st u)(h2:YB X sts w):YB X (st::sts) (BC u w):=by
 obtain⟨t,q,r⟩:=h;obtain⟨t',q',r'⟩:=h2;exact⟨_,Z.ai q q',fun F D E ad B σ H μ hK l q h=>r F { D with nx:=t' D } { E with nx:=w E } ad B σ H μ hK l q
  ⟨fun ad1 B1 σ1 H1 μ1 l1 f1 q1=>r' F D E ad1 B1 σ1 H1 μ1 hK l1 q1 (h.step f1),h.rt,h.bk,h.ct⟩⟩
def kU(ue:UE)(g:UG):US:=fun E μ=>ue μ fun r μ'=>g r μ' E.nx
theorem iP{K:PySem.W.Frag}{te:TE}{tg:TG}{g:UG}(he:RE K te ue)(hg:RG K tg g):RS K (m5 te tg) (kU ue g):=fun F D E ad B σ H μ hK l q h =>
 he F ad B σ H μ _ _ hK l q fun v H' r μ' v1 f k1 q1=>hg F ad B σ H' μ' v r B H _ _ hK v1 f q1 fun ad' B' σ' H2 μ2 l2 f2 q2=>h.nx ad' B' σ' H2 μ2 l2 f2 q2
theorem set{i:Nat}(hN:X.N.Nodup)(hi:X.N[i]?=some x)(hx:Loc X.env.scope x)(he:YE X e ue)(hs:Z.zJ e=true:=by rfl)(hf:X.fn x=true\/X.env.scope.names.lookup x=some .local:=by first | exact .inl rfl | exact .inr rfl | assumption):
  YS X (.Assign [.Name x pos'] e pos) (kU ue (gN i)):=by
 obtain⟨t,q,r⟩:=he;exact⟨_,Z.set hN hi hx q hs hf,iP r gJ⟩
theorem asg{g:UG}(he:YE X e ue)(hg:YG X tg g)(hs:swapsWithSole [tg] e pos.line X.env=pure false:=by rfl)(hw:swappedStores [tg] e X.env=pure none:=by rfl)
  (h1:(assignEach [tg] X.env).map (·.2)=[assign tg X.env]:=by rfl):YS X (.Assign [tg] e pos) (kU ue g):=by
 obtain⟨t,q,r⟩:=he;obtain⟨t',q',r'⟩:=hg;exact⟨_,Z.asg q q' hs hw h1,iP r r'⟩
def xS(ue:UE):US:=fun E μ=>ue μ E.rt
theorem ret(he:YE X e ue):YS X (.Return (some e) pos) (xS ue):=by
 obtain⟨t,q,r⟩:=he;exact⟨_,Z.ret q,fun F D E ad B σ H μ hK l q h=>r F ad B σ H μ _ _ hK l q fun v H' r1 μ' v1 f k1 q1=>h.rt ad B σ H' μ' v r1 v1 q1⟩
def qm(ue:UE):US:=fun E μ=>ue μ fun _ μ'=>E.nx μ'
theorem expr(he:YE X e ue)(hs:Z.zJ e=true:=by rfl):YS X (.Expr e pos) (qm ue):=by
 obtain⟨t,q,r⟩:=he;exact⟨_,Z.expr q hs,fun F D E ad B σ H μ hK l q h=>r F ad B σ H μ _ _ hK l q fun v H' r1 μ' v1 f k1 q1=>h.nx ad B σ H' μ' v1.rl f.d q1⟩
def xD(c:UT)(u w:US):US:=fun E μ=>c μ fun b μ'=>if b=true then u E μ' else w E μ'
theorem jc(hc:YT X c uA)(ha:YB X xs u)(hb:YB X ys w):YS X (.If c xs ys pos) (xD uA u w):=by
 obtain⟨tc,qc,rc⟩:=hc;obtain⟨t,q,r⟩:=ha;obtain⟨t',q',r'⟩:=hb;refine⟨_,Z.jc qc q q',fun F D E ad B σ H μ hK l q h=>rc F ad B σ H μ _ _ hK l q fun b H' μ' l1 f k1 q1=>?_⟩
 cases b with
 | true=>rw[if_pos rfl] at q1 ⊢;exact r F D E ad B σ H' μ' hK l1 q1 (h.step f)
 | false=>rw[if_neg Bool.false_ne_true] at q1 ⊢;exact r' F D E ad B σ H' μ' hK l1 q1 (h.step f)
end
end Y
structure h9 (K:PySem.W.Frag) (J:It) (Src:Hp->aJ->Prop) (items:List T):Prop where
 step:∀ H B i t,(∀ b,B b->∃ o,H b=some o)->Src H B->items[i]?=some t->J.go i H/\∀ x H2,J.C5 i H x H2->bC H H2/\Rep K H2 B x t
 stop:∀ H B,Src H B->J.stop items.length H
theorem h9.imp{K:PySem.W.Frag}{J:It}{Src Src':Hp->aJ->Prop}{items:List T}(h:h9 K J Src items)(f:∀ H B,Src' H B->Src H B):h9 K J Src' items:=⟨fun H B i t hb s e=>h.step H B i t hb (f H B s) e,fun H B s=>h.stop H B (f H B s)⟩
def DR(F:Fx)(ad:Nat->Addr)(Src:Hp->aJ->Prop):Option (Nat×List T)->Prop
 | none=>∀ B1 H1 B2 H2,Fr B1 H1 B2 H2->Src H1 B1->Src H2 B2
 | some (j,ls)=>(∀ B' σ' H' μ',Rl F ad B' σ' H' μ'->cont μ' (.br j)=some (.lst ls)->Src H' B')/\∀ B' H',Rep F.K H' B' (.ref (ad j)) (.lst ls)->Src H' B'
noncomputable abbrev UI:=Mu->(List T->Option (Nat×List T)->Mu->Prop)->Prop
def RI(K:PySem.W.Frag)(wi:TI)(ui:UI):Prop:=∀ (F:Fx) (ad:Nat->Addr) (B:aJ) (σ:St) (H:Hp) (μ:Mu) (R:It->Hp->Prop) (Rt:List T->Option (Nat×List T)->Mu->Prop),F.K=K->Rl F ad B σ H μ->ui μ Rt ->
 (∀ J H' μ' items gd Src,Rl F ad B σ H' μ'->Fr B H B H'->Kp μ μ'->h9 K J Src items->Src H' B->DR F ad Src gd->(∀ j ls,gd=some (j,ls)->cont μ' (.br j)=some (.lst ls))->Rt items gd μ'->R J H')->wi σ H R
structure YI (X:Cx) (tg it:Expr) (u:UI):Prop where
 ex:∃ t,QI X tg it t/\RI X.K t u
theorem vX{K:PySem.W.Frag}{a:Addr}{ts:List T}:h9 K (DT K a) (fun H B=>∃ vs,bB K H a vs/\af K H B vs ts) ts:=
 ⟨fun H B i t hb ⟨vs,h,r⟩ e=>by
  obtain⟨v,e1,rv⟩:=r.get e;refine⟨⟨vs,v,h,e1⟩,fun x H2 y=>?_⟩;obtain⟨rfl,y⟩:=y;have:=y vs h;rw[e1] at this;cases this;exact⟨bC.refl _,rv⟩,fun H B ⟨vs,h,r⟩=>⟨vs,h,by rw[r.length];exact Nat.le_refl _⟩⟩
theorem Cj{K:PySem.W.Frag}{a:Addr}{ts:List T}:h9 K (DH K a) (fun H B=>∃ vs,b6 K H a vs/\af K H B vs ts) ts:=
 ⟨fun H B i t hb ⟨vs,h,r⟩ e=>by
  obtain⟨v,e1,rv⟩:=r.get e;refine⟨⟨vs,v,h,e1⟩,fun x H2 y=>?_⟩;obtain⟨rfl,y⟩:=y;have:=y vs h;rw[e1] at this;cases this;exact⟨bC.refl _,rv⟩,fun H B ⟨vs,h,r⟩=>⟨vs,h,by rw[r.length];exact Nat.le_refl _⟩⟩
def pairs(ts:List T):List T:=(List.range ts.length).map fun i=>.tup [.int (i:Nat),(ts[i]?).getD .aI]
theorem AH{K:PySem.W.Frag}{a:Addr}{ts:List T}:h9 K (yH K a) (fun H B=>∃ vs,b6 K H a vs/\af K H B vs ts) (pairs ts):=by
 refine⟨fun H B i t hb ⟨vs,h,r⟩ e=>?_,fun H B ⟨vs,h,r⟩=>⟨vs,h,by rw[r.length];simp[pairs]⟩⟩
 unfold pairs at e;rw[List.getElem?_map] at e;have hi:i < ts.length:=by
  rcases Nat.lt_or_ge i ts.length with z | z
  ·exact z
  ·rw[List.getElem?_eq_none_iff.mpr (by simpa using z)] at e;cases e
 rw[List.getElem?_range hi] at e;have e':T.tup [.int (i:Nat),(ts[i]?).getD .aI]=t:=Option.some.inj e;have et:ts[i]?=some ts[i]:=List.getElem?_eq_getElem hi;obtain⟨v,e1,rv⟩:=r.get et;refine⟨⟨v,vs,h,e1⟩,fun x H2 y=>?_⟩;obtain⟨p,y,hy,hp,rfl,rfl⟩:=y;have:=hy vs h;rw[e1] at this;cases this;subst e';rw[et];refine⟨bC.new hp,.tup (fun z=>?_) aj (.cons (.int _) (.cons (rv.fr (Fr.same (bC.new hp))) .nil))⟩;obtain⟨o,q⟩:=hb p z;rw[hp] at q;cases q
theorem tS{K:PySem.W.Frag}{lo:Int}{n:Nat}:h9 K (C1 lo n) (fun _ _=>True) ((List.range n).map fun k=>T.int (lo+(k:Nat))):=
 ⟨fun H B i t hb _ e=>by
  rw[List.getElem?_map] at e;have hi:i < n:=by
   rcases Nat.lt_or_ge i n with z | z
   ·exact z
   ·rw[List.getElem?_eq_none_iff.mpr (by simpa using z)] at e;cases e
  rw[List.getElem?_range hi] at e;refine⟨hi,fun x H2 y=>?_⟩;obtain⟨rfl,rfl⟩:=y;cases e;exact⟨bC.refl _,.int _⟩,fun H B _=>by simp[C1]⟩
def GC(K:PySem.W.Frag)(tl:TE):TI:=fun σ H R=>tl σ H fun x H1=>∃ a,x=V.ref a/\(((∃ xs,bB K H1 a xs)/\R (DT K a) H1)\/((∃ xs,b6 K H1 a xs)/\R (DH K a) H1))
theorem A5{X:Cx}{tg l:Expr}{tl:TE}(hl:PE X l tl):PI X tg l (GC X.K tl):=by
 intro pins s σ H R I h;refine bJ (hl pins s σ H _ I h) fun v s1 ⟨x,H1,I1,r1,q1⟩=>?_;obtain⟨a,rfl,q⟩:=q1;cases r1;rcases q with ⟨⟨xs,hq⟩,q⟩ | ⟨⟨xs,hq⟩,q⟩
 ·obtain⟨its,rv,p,hz⟩:=I1.list hq;refine wpAny_pyIter_list p.isList ?_;refine⟨s1.heap.objs.size,[s1.heap.objs.size],_,_,H1,rfl,I1.kept (t':=s1.toks) fun b o e=>Heap.get?_push_of_some _ e,rT a _,⟨_,Heap.get?_push_size _ rfl,rfl,rfl⟩,fun b hb=>?_,q⟩;have e:b=s1.heap.objs.size:=by simpa using hb
  subst e;exact I1.uY (Nat.le_refl _) (I1.aS.fresh (Nat.le_refl _))
 ·obtain⟨its,rv,p,hz⟩:=I1.tuple hq;refine wpAny_pyIter_tuple (show s1.heap.IsTuple a its.toArray from p) ?_;refine⟨s1.heap.objs.size,[s1.heap.objs.size],_,_,H1,rfl,I1.kept (t':=s1.toks) fun b o e=>Heap.get?_push_of_some _ e,nX a _,⟨_,Heap.get?_push_size _ rfl,rfl,rfl⟩,fun b hb=>?_,q⟩;have e:b=s1.heap.objs.size:=by simpa using hb
  subst e;exact I1.uY (Nat.le_refl _) (I1.aS.fresh (Nat.le_refl _))
namespace Y
section
variable {X:Cx} {a b c e o tg it:Expr} {es rest:List Expr} {ua ub uc ue uo:UE} {uA uB:UT} {us:UA} {pos pos' p p2 p3:Pos} {x:Str} {st:Stmt} {sts xs ys:List Stmt} {u w:US}
def yV(ue:UE):UI:=fun μ Rt=>ue μ fun r μ'=>match r with
 | .br j=>(match cont μ' (.br j) with | some (.lst ts)=>Rt ts (some (j,ts)) μ' | _=>False)
 | .tr (.lst ts)=>Rt ts none μ'
 | .fr (.lst ts)=>Rt ts none μ'
 | .tr (.tup ts)=>Rt ts none μ'
 | .tr (.d7 ts)=>Rt ts none μ'
 | .tr (.gm ts)=>Rt ts none μ'
 | _=>False
theorem any(K:PySem.W.Frag)(hK:X.K=K)(he:YE X e ue):YI X tg e (yV ue):=by
 obtain⟨t,q,r⟩:=he;subst hK;refine⟨_,⟨A5 q.h⟩,fun F ad B σ H μ R Rt hF l q k=>r F ad B σ H μ _ _ hF l q fun v H' r1 μ' v1 f k1 q1=>?_⟩;have hv:=v1.hv;have l1:=v1.rl;have go:∀ (ts:List T) (a:Addr) (t:T),v=.ref a->Rep F.K H' B (.ref a) t->(t=.lst ts\/t=.d7 ts)->Rt ts none μ'->∃ a,v=V.ref a/\(((∃ xs,bB X.K H' a xs)/\R (DT X.K a) H')\/((∃ xs,b6 X.K H' a xs)/\R (DH X.K a) H')):=fun ts a t ev rp et q=>by
  have sr:∀ H B,Rep F.K H B (.ref a) t->∃ vs,bB X.K H a vs/\af X.K H B vs ts:=fun H B h=>by
   rw[hF] at h;rcases et with rfl | rfl
   ·cases h with | lst n h r=>exact⟨_,bB.of h,r⟩
   ·cases h with | d7 h r=>exact⟨_,h.sq,r⟩
  obtain⟨vs,h1,_⟩:=sr _ _ rp;exact⟨a,ev,.inl ⟨⟨vs,h1⟩,k _ H' μ' ts none (fun H B=>Rep F.K H B (.ref a) t) l1 f.d k1 (vX.imp sr) rp (fun B1 H1 B2 H2 f h=>h.fr f) (fun j ls z=>by cases z) q⟩⟩
 have goT:∀ (ts:List T) (a:Addr) (t:T),v=.ref a->Rep F.K H' B (.ref a) t->(t=.tup ts\/t=.gm ts)->Rt ts none μ'->∃ a,v=V.ref a/\(((∃ xs,bB X.K H' a xs)/\R (DT X.K a) H')\/((∃ xs,b6 X.K H' a xs)/\R (DH X.K a) H')):=fun ts a t ev rp et q=>by
  have sr:∀ H B,Rep F.K H B (.ref a) t->∃ vs,b6 X.K H a vs/\af X.K H B vs ts:=fun H B h=>by
   rw[hF] at h;rcases et with rfl | rfl
   ·cases h with | tup n h r=>exact⟨_,b6.of h,r⟩
   ·cases h with | gm h r=>exact⟨_,.inr h,r⟩
  obtain⟨vs,h1,_⟩:=sr _ _ rp;exact⟨a,ev,.inr ⟨⟨vs,h1⟩,k _ H' μ' ts none (fun H B=>Rep F.K H B (.ref a) t) l1 f.d k1 (Cj.imp sr) rp (fun B1 H1 B2 H2 f h=>h.fr f) (fun j ls z=>by cases z) q⟩⟩
 split at q1
 ·rename_i j
  split at q1
  ·rename_i ts e;obtain⟨ev,s,c,e1,e2⟩:=hv;have src:∀ B' σ' H' μ',Rl F ad B' σ' H' μ'->cont μ' (.br j)=some (.lst ts)->∃ vs,bB X.K H' (ad j) vs/\af X.K H' B' vs ts:=fun B' σ' H' μ' l e=>by
    have e3:(μ'[j]?).bind Sl.box=some (.lst ts):=e
    cases q:μ'[j]? with
    | none=>rw[q] at e3;cases e3
    | some s' =>
     rw[q] at e3;have bx:=((l.slot j s' q).boxed (c:=.lst ts) e3).2.2.1;rw[hF] at bx;obtain⟨vs,h1,h2⟩:=bx;exact⟨vs,bB.of h1,h2⟩
   obtain⟨vs,h1,h2⟩:=src _ _ _ _ l1 e;refine⟨ad j,ev,.inl ⟨⟨vs,h1⟩,k _ H' μ' ts (some (j,ts)) _ l1 f.d k1 vX ⟨vs,h1,h2⟩ ⟨src,fun B' H' h=>?_⟩ (fun j' ls z=>by cases z;exact e) q1⟩⟩
   rw[hF] at h
   cases h with | lst n h r=>exact⟨_,bB.of h,r⟩
  ·exact q1.elim
 ·have rp:Rep F.K H' B v _:=hv
  cases rp with | lst n h r=>exact go _ _ _ rfl (.lst n h r) (.inl rfl) q1
 ·have rp:Rep F.K H' B v _:=hv
  cases rp with | lst n h r=>exact go _ _ _ rfl (.lst n h r) (.inl rfl) q1
 ·have rp:Rep F.K H' B v _:=hv
  cases rp with | tup n h r=>exact goT _ _ _ rfl (.tup n h r) (.inl rfl) q1
 ·have rp:Rep F.K H' B v _:=hv
  cases rp with | d7 h r=>exact go _ _ _ rfl (.d7 h r) (.inr rfl) q1
 ·have rp:Rep F.K H' B v _:=hv
  cases rp with | gm h r=>exact goT _ _ _ rfl (.gm h r) (.inr rfl) q1
 ·exact q1.elim
def Fi(us:UA):UI:=fun μ Rt=>us μ fun rs μ'=>match rs with
 | [.tr (.int j)]=>-(2 ^ 62)<=j/\j < 2 ^ 62/\Rt ((List.range j.toNat).map fun k=>T.int (0+(k:Nat))) none μ'
 | _=>False
def EZ(us:UA):UI:=fun μ Rt=>us μ fun rs μ'=>match rs with
 | [.tr (.int i),.tr (.int j)]=>(-(2 ^ 62)<=i/\i < 2 ^ 62/\-(2 ^ 62)<=j/\j < 2 ^ 62)/\Rt ((List.range (j - i).toNat).map fun k=>T.int (i+(k:Nat))) none μ'
 | _=>False
theorem ip(hg:Gl X "range")(hm:X.mg "range"=none)(ha:YA X [a] us)(h:cx a=true:=by rfl):YI X tg (.Call (.Name "range" p) [a] [] pos) (Fi us):=by
 obtain⟨t,q,r⟩:=ha;refine⟨_,Z.ip hg hm q h,fun F ad B σ H μ R Rt hF l q k=>r F ad B σ H μ _ _ hF l q fun vs H' rs μ' l1 ps f k1 q1=>?_⟩
 split at q1
 ·cases ps with
  | cons h1 ps=>cases ps;cases aW h1;exact⟨_,rfl,q1.1,q1.2.1,k _ H' μ' _ none _ l1 f k1 tS trivial (fun _ _ _ _ _ _=>trivial) (fun j ls z=>by cases z) q1.2.2⟩
 ·exact q1.elim
theorem B6(hg:Gl X "range")(hm:X.mg "range"=none)(ha:YA X [a,b] us)(h:cx a=true:=by rfl)(h2:cx b=true:=by rfl):YI X tg (.Call (.Name "range" p) [a,b] [] pos) (EZ us):=by
 obtain⟨t,q,r⟩:=ha;refine⟨_,Z.B6 hg hm q h h2,fun F ad B σ H μ R Rt hF l q k=>r F ad B σ H μ _ _ hF l q fun vs H' rs μ' l1 ps f k1 q1=>?_⟩
 split at q1
 ·cases ps with
  | cons h1 ps=>cases ps with
   | cons h2 ps=>cases ps;cases aW h1;cases aW h2;exact⟨_,_,rfl,q1.1,k _ H' μ' _ none _ l1 f k1 tS trivial (fun _ _ _ _ _ _=>trivial) (fun j ls z=>by cases z) q1.2⟩
 ·exact q1.elim
def Fe(us:UA):UI:=fun μ Rt=>us μ fun rs μ'=>match rs with
 | [.tr (.tup ts)]=>Rt (pairs ts) none μ'
 | _=>False
theorem enum(K:PySem.W.Frag)(hK:X.K=K){k:Nat}{tp:Pos}(hg:Gl X "enumerate")(hm:X.mg "enumerate"=none)(ha:YA X [e] us)(h1:cx e=true:=by rfl):YI X (.Tuple es k tp) (.Call (.Name "enumerate" p) [e] [] pos) (Fe us):=by
 obtain⟨t,q,r⟩:=ha;refine⟨_,Z.enum K hK hg hm q h1,fun F ad B σ H μ R Rt hF l q k=>r F ad B σ H μ _ _ hF l q fun vs H' rs μ' l1 ps f k1 q1=>?_⟩;have hF':F.K=K:=hF.trans hK
 split at q1
 ·rename_i ts
  cases ps with
  | cons h1 ps =>
   cases ps;have rp:=aW h1
   cases rp with
   | @tup a vs _ n h rr =>
    have sr:∀ H B,Rep F.K H B (.ref a) (.tup ts)->∃ vs,b6 X.K H a vs/\af X.K H B vs ts:=fun H B h=>by
     rw[hF] at h
     cases h with | tup n h r=>exact⟨_,b6.of h,r⟩
    refine⟨a,rfl,⟨vs,b6.of h⟩,?_⟩;have:=k (yH X.K a) H' μ' (pairs ts) none (fun H B=>Rep F.K H B (.ref a) (.tup ts)) l1 f k1 (AH.imp sr) (.tup n h rr) (fun B1 H1 B2 H2 f h=>h.fr f) (fun j ls z=>by cases z) q1
    rw[hK] at this;exact this
 ·exact q1.elim
def eG(g:UG)(body:US)(E:Ed):List T->Mu->Prop
 | [],μ=>E.nx μ
 | t::ts,μ=>g (.tr t) μ fun μ1=>body { E with nx:=eG g body E ts,ct:=eG g body E ts,bk:=E.nx } μ1
def we(ui:UI)(g:UG)(body:US):US:=fun E μ=>ui μ fun items gd μ'=>match gd with
 | none=>eG g body E items μ'
 | some (j,_)=>(match μ'[j]? with
  | some (.bx c)=>eG g body E items (μ'.set j (.tr c))
  | _=>False)
theorem me{K:PySem.W.Frag}{g:TG}{ug:UG}{tb:TS}{body:US}{F:Fx}{D:Ends}{E:Ed}{J:It}{Src:Hp->aJ->Prop}{items:List T}{B0:aJ}{H0:Hp}(hF:F.K=K)(hg:RG K g ug)(hb:RS K tb body)(it:h9 K J Src items)
  (pe:∀ B1 H1 B2 H2,Fr B1 H1 B2 H2->Src H1 B1->Src H2 B2) (hE:om F B0 H0 D E) {ad:Nat->Addr} {B:aJ} {σ:St} {H:Hp} {μ:Mu} (l:Rl F ad B σ H μ) (f:Fr B0 H0 B H) (sr:Src H B) (q:eG ug body E items μ) :
  ∃ W:Nat->Nat->St->Hp->Prop,(∃ m,W 0 m σ H)/\∀ i m σ H,W i m σ H ->
   (J.stop i H/\D.nx σ H)\/(J.go i H/\∃ N:St->Hp->Prop,(∀ σ' H',N σ' H'->∃ m',m' < m/\W (i+1) m' σ' H')/\∀ x H',J.C5 i H x H'->g x σ H' fun σ2 H2=>tb { D with nx:=N,ct:=N,bk:=D.nx } σ2 H2):=by
 refine⟨fun i m σ H=>m=items.length - i/\i<=items.length/\∃ ad B μ,Rl F ad B σ H μ/\Fr B0 H0 B H/\Src H B/\eG ug body E (items.drop i) μ,⟨items.length,by simp,Nat.zero_le _,ad,B,μ,l,f,sr,q⟩,?_⟩
 rintro i m σ H ⟨rfl,hi,ad,B,μ,l,f,sr,q⟩;by_cases hlt:i < items.length
 ·have ei:items[i]?=some items[i]:=List.getElem?_eq_getElem hlt;rw[List.drop_eq_getElem_cons hlt] at q;obtain⟨go,yl⟩:=it.step H B i _ l.er sr ei;refine .inr ⟨go,fun σ' H'=>∃ ad' B' μ',Rl F ad' B' σ' H' μ'/\Fr B0 H0 B' H'/\Src H' B'/\eG ug body E (items.drop (i+1)) μ',fun σ' H' h=>⟨items.length - (i+1),by lia,rfl,hlt,h⟩,fun x H2 y=>?_⟩
  obtain⟨sm,rp⟩:=yl x H2 y;refine hg F ad B σ H2 μ x (.tr _) B H2 _ _ hF ⟨l.same sm,by show Rep F.K H2 B x _;rw[hF];exact rp⟩ Fr.refl q fun ad3 B3 σ3 H3 μ3 l3 f3 q3=>?_
  have f03:Fr B0 H0 B3 H3:=(f.trans (Fr.same sm)).trans f3;have s3:Src H3 B3:=pe _ _ _ _ ((Fr.same sm).trans f3) sr;exact hb F _ _ ad3 B3 σ3 H3 μ3 hF l3 q3 ⟨fun ad' B' σ' H' μ' l' f' q'=>⟨ad',B',μ',l',f03.trans f',pe _ _ _ _ f' s3,q'⟩,hE.rt,fun ad' B' σ' H' μ' l' f' q'=>hE.nx ad' B' σ' H' μ' l' (f03.trans f') q',fun ad' B' σ' H' μ' l' f' q'=>⟨ad',B',μ',l',f03.trans f',pe _ _ _ _ f' s3,q'⟩⟩
 ·have e:i=items.length:=by lia
  subst e;rw[List.drop_length] at q;exact .inl ⟨it.stop H B sr,hE.nx ad B σ H μ l f q⟩
theorem iG{ui:UI}{g:UG}(hp:PassesOwn (model X.prog X.w) X.A X.env X.xe)(hc:X.calm=true)(hi:YI X tg it ui)(hg:YG X tg g)(hb:YB X xs u)(hs:∀ x,foldedSetIterable it X.env x=pure x:=by intro _;rfl):YS X (.For tg it xs [] pos) (we ui g u):=by
 obtain⟨ti,qi,ri⟩:=hi;obtain⟨tg',qg,rg⟩:=hg;obtain⟨t,q,r⟩:=hb;refine⟨_,Z.iG hp hc qi qg q hs,fun F D E ad B σ H μ hF l q h=>ri F ad B σ H μ _ _ hF l q fun J H' μ' items gd Src l1 f1 k1 it sr so gok q1=>?_⟩
 split at q1
 ·exact me hF rg r it so h l1 f1 sr q1
 ·rename_i j ls
  split at q1
  ·rename_i c ej;have bx:=l1.slot j _ ej;have hc:¬ F.Bc (ad j):=fun z=>by
    obtain⟨o,e⟩:=F.bh _ z;rw[bx.2.2.1] at e;cases e
   obtain⟨l2,rp⟩:=l1.freeze ej hc;have ec:c=.lst ls:=by
    have:=gok j ls rfl;have e2:(μ'[j]?).bind Sl.box=some (.lst ls):=this;rw[ej] at e2;exact Option.some.inj e2
   subst ec;exact me (Src:=fun H B=>Rep F.K H B (.ref (ad j)) (.lst ls)) hF rg r (it.imp fun H B h=>so.2 B H h) (fun B1 H1 B2 H2 f h=>h.fr f) h l2 (f1.trans (Fr.less fun b z=>z.1)) rp q1
  ·exact q1.elim
def A0(c:UT)(body:US):US:=fun E μ=>∃ I:Nat->Mu->Prop,(∃ m,I m μ)/\∀ m μ,I m μ->c μ fun b μ'=>if b=true then body { E with nx:=fun μ2=>∃ m',m' < m/\I m' μ2,ct:=fun μ2=>∃ m',m' < m/\I m' μ2,bk:=E.nx } μ' else E.nx μ'
theorem jS(hp:PassesOwn (model X.prog X.w) X.A X.env X.xe)(hc:YT X c uA)(hb:YB X xs u):YS X (.While c xs [] pos) (A0 uA u):=by
 obtain⟨tc,qc,rc⟩:=hc;obtain⟨t,q,r⟩:=hb;refine⟨_,Z.jS hp qc q,fun F D E ad B σ H μ hF l q h=>?_⟩;obtain⟨I,⟨m0,i0⟩,turn⟩:=q;refine⟨fun m σ' H'=>∃ ad' B' μ',Rl F ad' B' σ' H' μ'/\Fr B H B' H'/\I m μ',⟨m0,ad,B,μ,l,Fr.refl,i0⟩,?_⟩;rintro m σ1 H1 ⟨ad1,B1,μ1,l1,f1,i1⟩;refine rc F ad1 B1 σ1 H1 μ1 _ _ hF l1 (turn m μ1 i1) fun b H2 μ2 l2 f2 k2 q2=>?_
 cases b with
 | true =>
  rw[if_pos rfl] at q2 ⊢;refine⟨fun σ' H'=>∃ m',m' < m/\∃ ad' B' μ',Rl F ad' B' σ' H' μ'/\Fr B H B' H'/\I m' μ',fun σ' H' h=>h,?_⟩;have hn:∀ ad' B' σ' H' μ',Rl F ad' B' σ' H' μ'->Fr B1 H2 B' H'->(∃ m',m' < m/\I m' μ')->∃ m',m' < m/\∃ ad' B' μ',Rl F ad' B' σ' H' μ'/\Fr B H B' H'/\I m' μ':=fun ad' B' σ' H' μ' l' f' ⟨m',hm,i'⟩=>⟨m',hm,ad',B',μ',l',(f1.trans f2).trans f',i'⟩;exact r F _ _ ad1 B1 σ1 H2 μ2 hF l2 q2 ⟨hn,h.rt,fun ad' B' σ' H' μ' l' f' q'=>h.nx ad' B' σ' H' μ' l' ((f1.trans f2).trans f') q',hn⟩
 | false =>
  rw[if_neg Bool.false_ne_true] at q2 ⊢;exact h.nx ad1 B1 σ1 H2 μ2 l2 (f1.trans f2) q2
end
end Y
def qQ(K:PySem.W.Frag)(u:UE):TE:=fun σ H Q=>∃ (F:Fx) (ad:Nat->Addr) (B:aJ) (μ:Mu) (Qt:R->Mu->Prop),F.K=K/\Rl F ad B σ H μ/\u μ Qt/\∀ v H' r μ',Vr F ad B σ H' μ' v r->Fr B H (Bv B v r) H'->Kp μ μ'->Qt r μ'->Q v H'
def sx(K:PySem.W.Frag)(u:UT):TT:=fun σ H Q=>∃ (F:Fx) (ad:Nat->Addr) (B:aJ) (μ:Mu) (Qt:Bool->Mu->Prop),F.K=K/\Rl F ad B σ H μ/\u μ Qt/\∀ b H' μ',Rl F ad B σ H' μ'->Fr B H B H'->Kp μ μ'->Qt b μ'->Q b H'
theorem YE.yt{X:Cx}{e:Expr}{u:UE}(h:YE X e u):QE X e (qQ X.K u):=⟨fun pins s σ H Q I hh=>by
 obtain⟨F,ad,B,μ,Qt,hF,l,q,k⟩:=hh;obtain⟨t,qe,r⟩:=h;exact qe.h pins s σ H Q I (r F ad B σ H μ Q Qt hF l q k)⟩
theorem zF.yt{X:Cx}{e:List Expr}{u:UT}(h:zF X e u):C9 X e (sx X.K u):=⟨fun pins s σ H Q I hh=>by
 obtain⟨F,ad,B,μ,Qt,hF,l,q,k⟩:=hh;obtain⟨t,qe,r⟩:=h;exact qe.h pins s σ H Q I (r F ad B σ H μ Q Qt hF l q k)⟩
theorem pH{K:PySem.W.Frag}{u:UE}:RE K (qQ K u) u:=fun F ad B σ H μ Q Qt hF l q k=>⟨F,ad,B,μ,Qt,hF,l,q,k⟩
theorem pO{K:PySem.W.Frag}{u:UT}:RT K (sx K u) u:=fun F ad B σ H μ Q Qt hF l q k=>⟨F,ad,B,μ,Qt,hF,l,q,k⟩
def Fx.sh(F:Fx):Fx:={ F with P:=fun i=>match i with | 0=>none | i+1=>F.P i }
def CS(ad:Nat->Addr):Nat->Addr:=fun i=>match i with | 0=>0 | i+1=>ad i
theorem Rl.push{F:Fx}{ad:Nat->Addr}{B:aJ}{σ:St}{H:Hp}{μ:Mu}{x:V}{t:T}(l:Rl F ad B σ H μ)(h:Rep F.K H B x t):Rl F.sh (CS ad) B (some x::σ) H (.tr t::μ):=by
 refine⟨congrArg (·+1) l.len,fun i s e=>?_,fun i j s u c d e1 e2 b1 b2 q=>?_,fun i a p=>?_,l.bc,l.er,fun b o e n=>l.old b o e fun i z=>n (i+1) z,fun a ws ga=>?_⟩
 ·cases i with
  | zero =>
   have e':Sl.tr t=s:=by simpa using e
   subst e';exact⟨x,rfl,h⟩
  | succ i=>exact l.slot i s (by simpa using e)
 ·cases i with
  | zero =>
   have e':Sl.tr t=s:=by simpa using e1
   subst e';cases b1
  | succ i=>cases j with
   | zero =>
    have e':Sl.tr t=u:=by simpa using e2
    subst e';cases b2
   | succ j=>exact congrArg (·+1) (l.inj i j s u c d (by simpa using e1) (by simpa using e2) b1 b2 q)
 ·cases i with
  | zero=>cases p
  | succ i=>obtain⟨⟨c,e⟩,z⟩:=l.par i a p;exact⟨⟨c,by simpa using e⟩,z⟩
 ·obtain⟨g1,g2,g3⟩:=l.gh a ws ga;refine⟨g1,g2,fun i s c e b=>?_⟩
  cases i with
  | zero =>
   have e':Sl.tr t=s:=by simpa using e
   subst e';cases b
  | succ i=>exact g3 i s c (by simpa using e) b
theorem Rl.Am{F:Fx}{ad:Nat->Addr}{B:aJ}{σ:St}{H:Hp}{μ:Mu}{y:Option V}(l:Rl F.sh (CS ad) B (y::σ) H μ):Rl F ad B σ H μ.tail:=by
 have get:∀ i,μ.tail[i]?=μ[i+1]?:=fun i=>by cases μ<;>simp
 refine⟨?_,fun i s e=>?_,fun i j s u c d e1 e2 b1 b2 q=>?_,fun i a p=>?_,l.bc,l.er,fun b o e n=>l.old b o e fun i z=>?_,fun a ws ga=>let ⟨g1,g2,g3⟩:=l.gh a ws ga;⟨g1,g2,fun i s c e b=>g3 (i+1) s c (by rw[<- get];exact e) b⟩⟩
 ·have:=l.len;rw[List.length_tail,this];rfl
 ·rw[get] at e;exact l.slot (i+1) s e
 ·rw[get] at e1 e2;exact Nat.succ.inj (l.inj (i+1) (j+1) s u c d e1 e2 b1 b2 q)
 ·obtain⟨⟨c,e⟩,z⟩:=l.par (i+1) a p;exact⟨⟨c,by rw[get];exact e⟩,z⟩
 ·cases i with
  | zero=>cases z
  | succ i=>exact n i z
theorem Kp.tail{μ μ':Mu}{s:Sl}(k:Kp (s::μ) μ'):Kp μ μ'.tail:=fun i=>by
 have:=k (i+1);rw[List.getElem?_cons_succ] at this;rw[this]
 cases μ'<;>simp
def Fx.g(F:Fx)(D:Addr)(ys:List V):Fx:={ F with G:=fun b=>if b=D then some ys else F.G b }
section
variable {F:Fx} {ad:Nat->Addr} {B:aJ} {σ:St} {H:Hp} {μ:Mu} {D:Addr} {ys zs:List V}
theorem Rl.G6(l:Rl F ad B σ H μ)(h:H D=some (.lst ys))(hb:B D)(n:∀ (i:Nat) (s:Sl) (c:T),μ[i]?=some s->s.box=some c->ad i≠D):Rl (F.g D ys) ad B σ H μ:=by
 refine⟨l.len,l.slot,l.inj,l.par,l.bc,l.er,l.old,fun a vs e=>?_⟩;have e':(if a=D then some ys else F.G a)=some vs:=e
 by_cases z:a=D
 ·rw[if_pos z] at e';cases e';subst z;exact⟨h,hb,n⟩
 ·rw[if_neg z] at e';exact l.gh a vs e'
theorem Rl.FH(l:Rl (F.g D ys) ad B σ H μ):H D=some (.lst ys)/\B D/\∀ (i:Nat) (s:Sl) (c:T),μ[i]?=some s->s.box=some c->ad i≠D:=l.gh D ys (show (if D=D then some ys else F.G D)=some ys from if_pos rfl)
theorem Rl.yW(l:Rl (F.g D ys) ad B σ H μ)(hg:F.G D=none):Rl F ad B σ H μ:=by
 refine⟨l.len,l.slot,l.inj,l.par,l.bc,l.er,l.old,fun a vs e=>l.gh a vs ?_⟩;show (if a=D then some ys else F.G a)=some vs
 rw[if_neg (by rintro rfl;rw[hg] at e;cases e)]
 exact e
theorem Rl.setG(l:Rl (F.g D ys) ad B σ H μ)(h0:F.H0 D=none):Rl (F.g D zs) ad B σ (upd H D (.lst zs)) μ:=by
 obtain⟨g1,g2,g3⟩:=l.FH;have f:Fr B H B (upd H D (.lst zs)):=Fr.set g2;refine⟨l.len,fun i s e=>?_,l.inj,l.par,l.bc,fun b z=>?_,fun b o e n=>?_,fun a vs e=>?_⟩
 ·have k:=l.slot i s e;unfold gy at k ⊢
  split at k
  ·trivial
  ·obtain⟨v,e1,r1⟩:=k;exact⟨v,e1,r1.fr f⟩
  ·obtain⟨e1,b,z0,p,x⟩:=k;exact⟨e1,b,z0,p,x.of (ae (g3 i _ _ e rfl)) f⟩
  ·obtain⟨e1,b,p,x⟩:=k;exact⟨e1,b,p,x.of (ae (g3 i _ _ e rfl)) f⟩
 ·by_cases z':b=D
  ·subst z';exact⟨_,aj⟩
  ·rw[ae z'];exact l.er b z
 ·rw[ae (by rintro rfl;have e':F.H0 _=some o:=e;rw[h0] at e';cases e')]
  exact l.old b o e n
 ·have e':(if a=D then some zs else F.G a)=some vs:=e
  by_cases z:a=D
  ·rw[if_pos z] at e';cases e';subst z;exact⟨aj,g2,g3⟩
  ·rw[if_neg z] at e';obtain⟨a1,a2,a3⟩:=l.gh a vs (show (if a=D then some ys else F.G a)=some vs by rw[if_neg z];exact e')
   exact⟨by rw[ae z];exact a1,a2,a3⟩
end
namespace Y
def Ej:Option (Nat×List T)->Mu->Prop
 | none,_=>True
 | some (j,ls),μ=>cont μ (.br j)=some (.lst ls)
def mV(gd:Option (Nat×List T))(own:T->Mu->Option Mu)(dr:Mu->Mu)(ut:UT)(ue:UE)(Q:R->Mu->Prop):List T->List T->Mu->Prop
 | [],acc,μ=>Ej gd μ/\Q (.fr (.lst acc)) μ
 | t::r,acc,μ=>Ej gd μ/\acc.length < sizeLine/\(match own t μ with
  | none=>False
  | some μ1=>ut μ1 fun b μ2=>if b=true then ue μ2 fun rr μ3=>(match rr.d with
    | .tr t'=>mV gd own dr ut ue Q r (acc++[t']) (dr μ3)
    | _=>False) else mV gd own dr ut ue Q r acc (dr μ2))
def yB(t:T)(μ:Mu):Option Mu:=some (.tr t::μ)
def su(t:T)(μ:Mu):Option Mu:=match t with
 | .tup [a,b]=>some (.tr a::.tr b::μ)
 | _=>none
def Fo(μ:Mu):Mu:=μ.tail
def Fd(μ:Mu):Mu:=μ.tail.tail
def f_(own:T->Mu->Option Mu)(dr:Mu->Mu)(ui:UI)(ut:UT)(ue:UE):UE:=fun μ Q=>ui μ fun items gd μ'=>mV gd own dr ut ue Q items [] μ'
structure t_ (K:PySem.W.Frag) (k:Nat) (g:TG) (own:T->Mu->Option Mu) (dr:Mu->Mu) (shF:Fx->Fx) (shA:(Nat->Addr)->Nat->Addr):Prop where
 fK:∀ F,(shF F).K=F.K
 step:∀ (F:Fx) (ad:Nat->Addr) (B:aJ) (σ:St) (H:Hp) (μ μ1:Mu) (x:V) (t:T) (σ':St) (Q:St->Hp->Prop),F.K=K->Rl F ad B σ H μ->Rep F.K H B x t->own t μ=some μ1->σ'.length=k->(∀ σ1,σ1.length=k->Rl (shF F) (shA ad) B (σ1++σ) H μ1->Q (σ1++σ) H)->g x (σ'++σ) H Q
 back:∀ (F:Fx) (ad:Nat->Addr) (B:aJ) (σ σ1:St) (H:Hp) (μ:Mu),σ1.length=k->Rl (shF F) (shA ad) B (σ1++σ) H μ->Rl F ad B σ H (dr μ)
 kp:∀ (μ μ1 μ2:Mu) (t:T),own t μ=some μ1->Kp μ1 μ2->Kp μ (dr μ2)
theorem jZ{α:Type _}{l:List α}(h:l.length=1):∃ y,l=[y]:=by
 rcases l with _ | ⟨a,_ | ⟨b,t⟩⟩
 ·cases h
 ·exact⟨a,rfl⟩
 ·cases h
theorem fR{α:Type _}{l:List α}(h:l.length=2):∃ y z,l=[y,z]:=by
 rcases l with _ | ⟨a,t⟩
 ·cases h
 ·obtain⟨b,rfl⟩:=jZ (Nat.succ.inj h);exact⟨a,b,rfl⟩
theorem Du{α:Type _}{l:List α}(h:l.length=3):∃ x y z,l=[x,y,z]:=by
 rcases l with _ | ⟨a,t⟩
 ·cases h
 ·obtain⟨b,c,rfl⟩:=fR (Nat.succ.inj h);exact⟨a,b,c,rfl⟩
theorem qp{K:PySem.W.Frag}:t_ K 1 (cG 0) yB Fo Fx.sh CS where
 fK:=fun F=>rfl
 step:=fun F ad B σ H μ μ1 x t σ' Q hF l r e hk h=>by
  cases e;obtain⟨y,rfl⟩:∃ y,σ'=[y]:=by
   exact jZ hk
  exact h [some x] rfl (l.push r)
 back:=fun F ad B σ σ1 H μ hk l=>by
  obtain⟨y,rfl⟩:∃ y,σ1=[y]:=by
   exact jZ hk
  exact l.Am
 kp:=fun μ μ1 μ2 t e k=>by cases e;exact k.tail
theorem pX{K:PySem.W.Frag}:t_ K 2 (vA K 2 (gn (cG 0) (gn (cG 1) w6))) su Fd (fun F=>F.sh.sh) (fun ad=>CS (CS ad)) where
 fK:=fun F=>rfl
 step:=fun F ad B σ H μ μ1 x t σ' Q hF l r e hk h=>by
  unfold su at e
  split at e
  ·rename_i a b;cases e;obtain⟨y,z,rfl⟩:∃ y z,σ'=[y,z]:=by
    exact fR hk
   cases r with
   | tup n hh rr =>
    cases rr with
    | cons r1 rr=>cases rr with
     | cons r2 rr =>
      cases rr;exact⟨_,_,rfl,b6.of hh,rfl,_,_,rfl,_,_,rfl,rfl,h [some _,some _] rfl ((l.push r2).push (F:=F.sh) r1)⟩
  ·cases e
 back:=fun F ad B σ σ1 H μ hk l=>by
  obtain⟨y,z,rfl⟩:∃ y z,σ1=[y,z]:=by
   exact fR hk
  exact (Rl.Am (F:=F.sh) l).Am
 kp:=fun μ μ1 μ2 t e k=>by
  unfold su at e
  split at e
  ·cases e;exact k.tail.tail
  ·cases e
theorem gP{K:PySem.W.Frag}{k:Nat}{g:TG}{own:T->Mu->Option Mu}{dr:Mu->Mu}{shF:Fx->Fx}{shA:(Nat->Addr)->Nat->Addr}{wi:TI}{ui:UI}{tc:TT}{ut:UT}{te:TE}{ue:UE}(O:t_ K k g own dr shF shA)(hi:RI K wi ui)(ht:RT K tc ut)(he:RE K te ue):RE K (jy wi k g tc te) (f_ own dr ui ut ue):=by
 intro F ad B σ H μ Q Qt hF l q kk;refine hi F ad B σ H μ _ _ hF l q fun J H1 μ1 items gd Src l1 f1 k1 it sr so gk q1=>?_;intro D hD;have hnB:=l1.jY hD;have h0D:=l1.y8 hD;have hGD:F.G D=none:=by
  cases q:F.G D with
  | none=>rfl
  | some vs=>have:=(l1.gh D vs q).1;rw[hD] at this;cases this
 have nbx:∀ (μ':Mu),Kp μ μ'->∀ (i:Nat) (s:Sl) (c:T),μ'[i]?=some s->s.box=some c->B (ad i):=fun μ' k i s c e b=>by
  obtain⟨s',c',e',b'⟩:=k.symm.fwd i s c e b;exact l.own i s' c' e' b'
 refine⟨fun i m ys σ' H'=>m=items.length - i/\i<=items.length/\∃ σ1 μ' acc,σ'=σ1++σ/\σ1.length=k/\Rl (F.g D ys) ad (more B D) σ H' μ'/\af F.K H' (more B D) ys acc/\Fr B H (more B D) H'/\Kp μ μ'/\(gd=none->Src H' (more B D))/\mV gd own dr ut ue Qt (items.drop i) acc μ',
  ⟨items.length,by simp,Nat.zero_le _,_,μ1,[],rfl,List.length_replicate,(l1.new hD).G6 aj (.inl rfl) (fun i s c e b z=>hnB (z ▸ nbx μ1 k1 i s c e b)),.nil,f1.trans (Fr.more hD),k1,fun z=>?_,q1⟩,?_⟩
 ·subst z;exact so _ _ _ _ (Fr.more hD) sr
 rintro i m ys σ' H' ⟨rfl,hi',σ1,μ',acc,rfl,hk,l2,ra,f2,k2,s2,q2⟩;have hD2:=l2.FH.1;refine⟨hD2,?_⟩;have src:Ej gd μ'->Src H' (more B D):=fun hg=>by
  cases gd with
  | none=>exact s2 rfl
  | some jl=>obtain⟨j,ls⟩:=jl;exact so.1 _ _ _ _ (l2.yW hGD) hg
 by_cases hlt:i < items.length
 ·have ei:items[i]?=some items[i]:=List.getElem?_eq_getElem hlt;rw[List.drop_eq_getElem_cons hlt] at q2;obtain⟨hg,hz,q2⟩:=q2;have sr2:=src hg;obtain⟨go,yl⟩:=it.step H' (more B D) i _ l2.er sr2 ei;refine .inr ⟨go,by rw[ra.length];exact hz,fun x H3 y=>?_⟩
  obtain⟨sm,rp⟩:=yl x H3 y
  split at q2
  ·exact q2.elim
  ·rename_i μ3 eo;have f3:Fr (more B D) H' (more B D) H3:=Fr.same sm;have hF2:(F.g D ys).K=K:=hF;refine O.step (F.g D ys) ad (more B D) σ H3 μ' μ3 x _ σ1 _ hF2 (l2.same sm) (by rw[hF2];exact rp) eo hk fun σ4 hk4 l4=>?_
   refine ht (shF (F.g D ys)) (shA ad) (more B D) _ H3 μ3 _ _ ((O.fK _).trans hF2) l4 q2 fun b H5 μ5 l5 f5 k5 q5=>?_
   cases b with
   | true =>
    rw[if_pos rfl] at q5 ⊢;refine he (shF (F.g D ys)) (shA ad) (more B D) _ H5 μ5 _ _ ((O.fK _).trans hF2) l5 q5 fun v H6 r6 μ6 v6 f6 k6 q6=>?_;have l6:=O.back (F.g D ys) ad (more B D) σ σ4 H6 μ6 hk4 v6.rl;refine⟨l6.FH.1,?_⟩;have hv:=v6.hv
    split at q6
    ·rename_i t' e6;rw[e6] at hv;have rv:Rep F.K H6 (more B D) v t':=by have:=hv;unfold Hv at this;rw[O.fK] at this;exact this
     have fa:=(f3.trans f5).trans f6.d;have fs:Fr (more B D) H6 (more B D) (upd H6 D (.lst (ys++[v]))):=Fr.set (.inl rfl);refine⟨items.length - (i+1),by lia,rfl,hlt,σ4,dr μ6,acc++[t'],rfl,hk4,l6.setG h0D,((ra.fr fa).append (.cons rv .nil)).fr fs,(f2.trans fa).trans fs,k2.trans (O.kp μ' μ3 μ6 _ eo (k5.trans k6)),fun z=>?_,q6⟩
     subst z;exact so _ _ _ _ (fa.trans fs) (s2 rfl)
    ·exact q6.elim
   | false =>
    rw[if_neg Bool.false_ne_true] at q5 ⊢;have l6:=O.back (F.g D ys) ad (more B D) σ σ4 H5 μ5 hk4 l5;have fa:=f3.trans f5;refine⟨items.length - (i+1),by lia,rfl,hlt,σ4,dr μ5,acc,rfl,hk4,l6,ra.fr fa,f2.trans fa,k2.trans (O.kp μ' μ3 μ5 _ eo k5),fun z=>?_,q5⟩
    subst z;exact so _ _ _ _ fa (s2 rfl)
 ·have e:i=items.length:=by lia
  subst e;rw[List.drop_length] at q2;obtain⟨hg,q2⟩:=q2;have l3:=l2.yW hGD;refine .inl ⟨it.stop H' (more B D) (src hg),kk (.ref D) H' (.fr (.lst acc)) μ' ⟨l3.less (fun b z=>.inr z) l.bc (nbx μ' k2) (fun a vs ga=>?_),D,rfl,hnB,h0D,l3,ys,hD2,ra⟩ f2 k2 q2⟩;exact l.gB a vs ga
section
variable {X:Cx} {elt tg iter:Expr} {ifs:List Expr} {ue:UE} {ut:UT} {ui:UI} {pos pos' p2:Pos} {x:Str} {osc scope:Scope} {ON own N:List Str}
theorem fi(S:bP osc ON scope own N)(hosc:X.env.scope=osc)(hON:X.N=ON)(hc:X.calm=true)(ho:own.length=1)(hi:YI X tg iter ui)
  (hg:∀ C s H fp,QG (aA X scope N C s H fp) tg (cG 0)) (ht:∀ C s H fp,zF (aA X scope N C s H fp) ifs ut) (he:∀ C s H fp,YE (aA X scope N C s H fp) elt ue) (hs:∀ x,foldedSetIterable iter X.env x=pure x:=by intro _;rfl) :
  YE X (.ListComp elt [⟨tg,iter,ifs,0⟩] scope pos) (f_ yB Fo ui ut ue):=by
 obtain⟨t,q,r⟩:=hi;have h:=Z.comp (pos:=pos) (tc:=sx X.K ut) (te:=qQ X.K ue) S hosc hON hc q hg (fun C s H fp=>(ht C s H fp).yt) (fun C s H fp=>(he C s H fp).yt) hs;rw[ho] at h;exact⟨_,h,gP qp r pO pH⟩
theorem pf(K:PySem.W.Frag)(hK:X.K=K)(S:bP osc ON scope own N)(hosc:X.env.scope=osc)(hON:X.N=ON)(hc:X.calm=true)(ho:own.length=2)(hi:YI X tg iter ui)
  (hg:∀ C s H fp,QG (aA X scope N C s H fp) tg (vA K 2 (gn (cG 0) (gn (cG 1) w6)))) (ht:∀ C s H fp,zF (aA X scope N C s H fp) ifs ut) (he:∀ C s H fp,YE (aA X scope N C s H fp) elt ue) (hs:∀ x,foldedSetIterable iter X.env x=pure x:=by intro _;rfl) :
  YE X (.ListComp elt [⟨tg,iter,ifs,0⟩] scope pos) (f_ su Fd ui ut ue):=by
 obtain⟨t,q,r⟩:=hi;subst hK;have h:=Z.comp (pos:=pos) (tc:=sx X.K ut) (te:=qQ X.K ue) S hosc hON hc q hg (fun C s H fp=>(ht C s H fp).yt) (fun C s H fp=>(he C s H fp).yt) hs;rw[ho] at h;exact⟨_,h,gP pX r pO pH⟩
theorem tN{j:Nat}(hN:X.N.Nodup)(hj:X.N[j]?=some x)(hx:Loc X.env.scope x)(S:bP osc ON scope own N)(hosc:X.env.scope=osc)(hON:X.N=ON)(hc:X.calm=true)(ho:own.length=1)(hi:YI X tg iter ui)
  (hg:∀ C s H fp,QG (aA X scope N C s H fp) tg (cG 0)) (ht:∀ C s H fp,zF (aA X scope N C s H fp) ifs ut) (he:∀ C s H fp,YE (aA X scope N C s H fp) elt ue)
  (hsw:swapsWith (.ListComp elt [⟨tg,iter,ifs,0⟩] scope p2) (some (.Name x pos')) pos.line X.env=pure true:=by rfl)
  (hf:X.fn x=true\/X.env.scope.names.lookup x=some .local:=by first | exact .inl rfl | exact .inr rfl | assumption) (hs:∀ x,foldedSetIterable iter X.env x=pure x:=by intro _;rfl) :
  YS X (.Assign [.Name x pos'] (.ListComp elt [⟨tg,iter,ifs,0⟩] scope p2) pos) (kU (f_ yB Fo ui ut ue) (gN j)):=by
 obtain⟨t,q,r⟩:=hi;have h:=Z.setC (tc:=sx X.K ut) (te:=qQ X.K ue) hN hj hx S hosc hON hc q hg (fun C s H fp=>(ht C s H fp).yt) (fun C s H fp=>(he C s H fp).yt) hsw hf hs;rw[ho] at h;exact⟨_,h,iP (gP qp r pO pH) gJ⟩
theorem la:zF X [] (fun μ Q=>Q true μ):=⟨_,Z.la,fun F ad B σ H μ Q Qt hK l q k=>k true H μ l Fr.refl (Kp.refl μ) q⟩
theorem GH{c:Expr}(h:YT X c ut):zF X [c] ut:=by obtain⟨t,q,r⟩:=h;exact⟨t,Z.GH q,r⟩
end
end Y
def cN(μ:Mu)(j:Nat)(c:T):Mu:=match μ[j]? with
 | some s=>μ.set j (s.put c)
 | none=>μ
namespace Y
section
variable {X:Cx} {a b c e o tg it i:Expr} {es rest:List Expr} {ua ub uc ue uo ui:UE} {uA uB:UT} {us:UA} {pos pos' p p2 p3 apos:Pos} {x:Str} {st:Stmt} {sts xs ys:List Stmt} {u w:US}
def gS(uo ui:UE):UG:=fun r μ Q=>match r.d with
 | .tr t=>uo μ fun ro μ1=>ui μ1 fun ri μ2=>(match ro,ri with
  | .br j,.tr (.int k)=>(match (μ2[j]?).bind Sl.box with
   | some (.lst ts)=>(match k_ ts.length k with
    | some n=>Q (cN μ2 j (.lst (ts.set n t)))
    | none=>False)
   | _=>False)
  | _,_=>False)
 | _=>False
theorem sF(ho:YE X o uo)(hi:YE X i ui)
  (ha:∀ v,assign (.Subscript o i pos) X.env v=(do
   let ov <- holding [v] (eval o X.env)
   let iv <- holding [v,ov] (eval i X.env)
   standAt pos
   holding [v,ov,iv] (setItem ov iv v)
   release [v,ov,iv] []):=by intro _;rfl):YG X (.Subscript o i pos) (gS uo ui):=by
 obtain⟨t,q,r⟩:=ho;obtain⟨t',q',r'⟩:=hi;refine⟨_,Z.sF q q' ha,fun F ad B σ H μ v rr B0 H0 Q Qt hF h f q k=>?_⟩;unfold gS at q;have f0:Fr B0 H0 B H:=fun b o h n=>⟨(f b o h n).1,fun z=>(f b o h n).2 (by cases rr<;>first | exact z | (cases v<;>first | exact z | exact .inr z))⟩
 have hv:=h.hv
 split at q
 ·rename_i t0 e0;rw[e0] at hv;refine r F ad B σ H μ _ _ hF h.rl q fun ov H1 r1 μ1 v1 f1 k1 q1=>r' F ad B σ H1 μ1 _ _ hF v1.rl q1 fun iv H2 r2 μ2 v2 f2 k2 q2=>?_
  split at q2
  ·rename_i j kk;have rp:=v2.2;cases rp;obtain⟨rfl,_⟩:=(v1.hv.fr f2.d k2)
   split at q2
   ·rename_i ts e
    split at q2
    ·rename_i n en
     cases ej:μ2[j]? with
     | none=>rw[ej] at e;cases e
     | some s =>
      rw[ej] at e;have e':s.box=some (.lst ts):=e;have l2:=v2.rl;obtain⟨vs,hl,rs⟩:=((l2.slot j s ej).boxed e').2.2.1;have rv:Rep F.K H2 B v t0:=(show Rep F.K H B v t0 from hv).fr (f1.d.trans f2.d);have l3:=l2.put ej e' (rs.set n rv);show ve (.ref (ad j)) (.int kk) v H2 _;rw[Ap.setRef,hl];simp only;rw[rs.length,en];simp only;unfold cN at q2;rw[ej] at q2;exact k ad B σ _ _ l3 ((f0.trans (f1.d.trans f2.d)).trans (Fr.set ((l2.slot j s ej).boxed e').2.1)) q2
    ·exact q2.elim
   ·exact q2.elim
  ·exact q2.elim
 ·exact q.elim
noncomputable abbrev UM:=Nat->List R->Mu->(R->Mu->Prop)->Prop
def Fp:Option T->Prop->Prop
 | some (.lst _),p=>p
 | _,_=>False
def EW(um:UM)(uo:UE)(us:UA):UE:=fun μ Q=>uo μ fun ro μ1=>match ro with
 | .br j=>Fp ((μ1[j]?).bind Sl.box) (us μ1 fun rs μ2=>um j rs μ2 Q)
 | _=>False
def RM(K:PySem.W.Frag)(r:V->List V->Hp->VK->Prop)(um:UM):Prop:=∀ (F:Fx) (ad:Nat->Addr) (B:aJ) (σ:St) (H:Hp) (μ:Mu) (Q:VK) (Qt:R->Mu->Prop) (j:Nat) (s:Sl) (c:T) (xs:List V) (rs:List R),F.K=K->Rl F ad B σ H μ->μ[j]?=some s->s.box=some c->Paired (Hv F ad B H μ) xs rs->um j rs μ Qt ->
 (∀ v H' r μ',Vr F ad B σ H' μ' v r->Fr B H (Bv B v r) H'->Kp μ μ'->Qt r μ'->Q v H')->r (.ref (ad j)) xs H Q
theorem bm(K:PySem.W.Frag)(hK:X.K=K){name:Str}{id:String}{r:V->List V->Hp->VK->Prop}{um:UM}(slot:Slot "list" name id)(hty:typeOf (.builtin id)=pure (.type "method_descriptor"))(hm:oR X id r)(hr:RM X.K r um)(ho:YE X o uo)(ha:YA X (e::es) us)
  (hbase:attributeBase o name X.env (eval o X.env)=eval o X.env:=by rfl) (hline:(apos.endLine == pos.line)=true:=by rfl) (h:(e::es).all cx=true:=by rfl) (hl:(e::es).length < 30:=by decide):YE X (.Call (.Attribute o name apos) (e::es) [] pos) (EW um uo us):=by
 obtain⟨t,q,rr⟩:=ho;obtain⟨t',q',r'⟩:=ha;refine⟨_,Z.bm K hK PySem.F.plainAttrs_list slot hty hm q q' hbase hline h hl,fun F ad B σ H μ Q Qt hF l q k=>rr F ad B σ H μ _ _ hF l q fun v H1 r1 μ1 v1 f1 k1 q1=>?_⟩
 split at q1
 ·rename_i j;obtain⟨l1,rfl,s,c,e1,e2⟩:=v1;rw[e1] at q1;have q1':Fp s.box _:=q1;rw[e2] at q1';rcases ((l1.slot j s e1).boxed e2).2.2.1.is with ⟨ts,vs,rfl,hl,_⟩ | ⟨_,_,_,rfl,_⟩
  case inr=>exact q1'.elim
  have q1:=(show us μ1 _ from q1');refine⟨.inl ⟨rfl,vs,bB.of hl⟩,?_⟩;refine r' F ad B σ H1 μ1 _ _ hF l1 q1 fun xs H2 rs μ2 l2 ps f2 k2 q2=>?_;obtain⟨s',c',e3,e4⟩:=k2.fwd j s _ e1 e2;exact hr F ad B σ H2 μ2 _ _ j s' c' xs rs hF l2 e3 e4 ps q2 fun v H3 r3 μ3 v3 f3 k3 q3=>k v H3 r3 μ3 v3 ((f1.d.trans f2).trans f3) ((k1.trans k2).trans k3) q3
 ·exact q1.elim
def fc:UM:=fun j rs μ Q=>match rs with
 | [.tr t]=>(match (μ[j]?).bind Sl.box with
  | some (.lst ts)=>ts.length < sizeLine/\Q (.tr .aI) (cN μ j (.lst (ts++[t])))
  | _=>False)
 | _=>False
theorem j6{K:PySem.W.Frag}:RM K qF fc:=by
 intro F ad B σ H μ Q Qt j s c xs rs hF l e b ps q k;unfold fc at q
 split at q
 ·cases ps with
  | cons h ps =>
   cases ps;rw[e] at q;have q':(match s.box with | some (.lst ts)=>ts.length < sizeLine/\Qt (.tr .aI) (cN μ j (.lst (ts++[_]))) | _=>False):=q
   rw[b] at q';rcases ((l.slot j s e).boxed b).2.2.1.is with ⟨ts,vs,rfl,hl,rv⟩ | ⟨_,_,_,rfl,_⟩
   case inr=>exact q'.elim
   simp only at q';refine⟨_,_,_,rfl,rfl,hl,by rw[rv.length];exact q'.1,?_⟩
   have l3:=l.put e b (rv.append (.cons (aW h) .nil));have q2:=q'.2;unfold cN at q2;rw[e] at q2;exact k _ _ (.tr .aI) _ (Vr.flat l3 .aI) (Fr.set ((l.slot j s e).boxed b).2.1) (Kp.set e b (Sl.gI b)) q2
 ·exact q.elim
end
end Y
def iY:List Bool->List V->List Addr
 | true::md,.ref a::vs=>a::iY md vs
 | _::md,_::vs=>iY md vs
 | _,_=>[]
def eQ(K:PySem.W.Frag)(H:Hp)(B:aJ):List Bool->List V->List T->Prop
 | [],[],[]=>True
 | false::md,v::vs,t::ts=>Rep K H B v t/\eQ K H B md vs ts
 | true::md,v::vs,t::ts=>(∃ a,v=.ref a/\B a/\Bx K H B a t)/\eQ K H B md vs ts
 | _,_,_=>False
noncomputable abbrev fL:=List T->(R->List T->Prop)->Prop
def Dy(K:PySem.W.Frag)(H H':Hp)(B:aJ)(as:List Addr)(v:V)(outs:List T):R->Prop
 | .tr t=>Rep K H' B v t/\Paired (Bx K H' B) as outs
 | .fr c=>∃ a,v=.ref a/\H a=none/\¬ B a/\Bx K H' (more B a) a c/\Paired (Bx K H' (more B a)) as outs
 | .br _=>False
def spT(K:PySem.W.Frag)(md:List Bool)(tsp:fL):Sp:=fun vs H Q _=>∃ (B:aJ) (args:List T) (Qt:R->List T->Prop),eQ K H B md vs args/\(∀ b,B b->∃ o,H b=some o)/\(iY md vs).Nodup/\tsp args Qt /\
 ∀ v H' r outs,Qt r outs->(∀ b o,H b=some o->b∉iY md vs->H' b=some o)->Dy K H H' B (iY md vs) v outs r->Q v H'
theorem eQ.len{K:PySem.W.Frag}{H:Hp}{B:aJ}:∀ {md:List Bool} {vs:List V} {ts:List T},eQ K H B md vs ts->vs.length=md.length/\ts.length=md.length
 | [],[],[],_=>⟨rfl,rfl⟩
 | false::md,v::vs,t::ts,h=>⟨congrArg (·+1) (eQ.len h.2).1,congrArg (·+1) (eQ.len h.2).2⟩
 | true::md,v::vs,t::ts,h=>⟨congrArg (·+1) (eQ.len h.2).1,congrArg (·+1) (eQ.len h.2).2⟩
theorem eQ.get{K:PySem.W.Frag}{H:Hp}{B:aJ}:∀ {md:List Bool} {vs:List V} {ts:List T} {i:Nat} {b:Bool},eQ K H B md vs ts->md[i]?=some b->∃ v t,vs[i]?=some v/\ts[i]?=some t/\(if b=true then ∃ a,v=.ref a/\B a/\Bx K H B a t else Rep K H B v t)
 | [],[],[],i,b,_,e=>by simp at e
 | c::md,[],_,_,_,h,_=>by cases c<;>exact h.elim
 | c::md,v::vs,[],_,_,h,_=>by cases c<;>exact h.elim
 | c::md,v::vs,t::ts,0,b,h,e=>by
  have e':c=b:=by simpa using e
  subst e'
  cases c with
  | false=>exact⟨v,t,rfl,rfl,by rw[if_neg Bool.false_ne_true];exact h.1⟩
  | true=>exact⟨v,t,rfl,rfl,by rw[if_pos rfl];exact h.1⟩
 | c::md,v::vs,t::ts,i+1,b,h,e=>by
  have h2:eQ K H B md vs ts:=by cases c<;>exact h.2
  obtain⟨v',t',e1,e2,q⟩:=eQ.get h2 (show md[i]?=some b by simpa using e)
  exact⟨v',t',by simpa using e1,by simpa using e2,q⟩
theorem eA:∀ {md:List Bool} {vs:List V} {i:Nat} {a:Addr},md[i]?=some true->vs[i]?=some (.ref a)->a∈iY md vs
 | [],_,_,_,e,_=>by simp at e
 | c::md,[],_,_,_,e=>by simp at e
 | c::md,v::vs,0,a,e1,e2=>by
  have e1':c=true:=by simpa using e1
  have e2':v=.ref a:=by simpa using e2
  subst e1' e2';exact List.mem_cons_self
 | c::md,v::vs,i+1,a,e1,e2=>by
  have:=eA (md:=md) (vs:=vs) (i:=i) (a:=a) (by simpa using e1) (by simpa using e2)
  cases c with
  | false=>exact this
  | true=>cases v<;>first | exact List.mem_cons_of_mem _ this | exact this
theorem pE:∀ {md:List Bool} {vs:List V} {i j:Nat} {a:Addr},(iY md vs).Nodup->md[i]?=some true->md[j]?=some true->vs[i]?=some (.ref a)->vs[j]?=some (.ref a)->i=j
 | [],_,_,_,_,_,e,_,_,_=>by simp at e
 | c::md,[],_,_,_,_,_,_,e,_=>by simp at e
 | c::md,v::vs,i,j,a,nd,e1,e2,e3,e4=>by
  have tl:(iY md vs).Nodup:=by
   cases c with
   | false=>exact nd
   | true=>cases v<;>first | exact (List.nodup_cons.mp nd).2 | exact nd
  cases i with
  | zero =>
   have e1':c=true:=by simpa using e1
   have e3':v=.ref a:=by simpa using e3
   subst e1' e3'
   cases j with
   | zero=>rfl
   | succ j=>exact absurd (eA (md:=md) (vs:=vs) (i:=j) (a:=a) (by simpa using e2) (by simpa using e4)) (List.nodup_cons.mp nd).1
  | succ i=>cases j with
   | zero =>
    have e1':c=true:=by simpa using e2
    have e3':v=.ref a:=by simpa using e4
    subst e1' e3';exact absurd (eA (md:=md) (vs:=vs) (i:=i) (a:=a) (by simpa using e1) (by simpa using e3)) (List.nodup_cons.mp nd).1
   | succ j=>exact congrArg (·+1) (pE tl (by simpa using e1) (by simpa using e2) (by simpa using e3) (by simpa using e4))
def bN:List Bool->Nat->Mu->List T
 | [],_,_=>[]
 | true::md,i,μ=>(match μ[i]? with
  | some (.pb c)=>c::bN md (i+1) μ
  | _=>bN md (i+1) μ)
 | false::md,i,μ=>bN md (i+1) μ
theorem kQ{P:Addr->T->Prop}{μ:Mu}:∀ {md:List Bool} {vs:List V} {i:Nat},vs.length=md.length->(∀ n,md[n]?=some true->∃ a c,vs[n]?=some (.ref a)/\μ[i+n]?=some (.pb c)/\P a c)->Paired P (iY md vs) (bN md i μ)
 :=by
  intro md
  induction md with
  | nil =>
    intro vs i hl h
    cases vs with
    | nil=>exact .nil
    | cons v vs=>cases hl
  | cons b md ih =>
    intro vs i hl h
    cases vs with
    | nil=>cases hl
    | cons v vs =>
      have rest:=ih (vs:=vs) (i:=i+1) (Nat.succ.inj hl) fun n e=>by
        obtain⟨a,c,e1,e2,p⟩:=h (n+1) e;exact⟨a,c,e1,by rw[Nat.add_assoc,Nat.add_comm 1 n];exact e2,p⟩
      cases b with
      | false=>exact rest
      | true =>
        obtain⟨a,c,e1,e2,p⟩:=h 0 rfl;have e1':v=.ref a:=Option.some.inj e1;subst e1';rw[Nat.add_zero] at e2;show Paired P (a::iY md vs) (match μ[i]? with | some (.pb c)=>c::bN md (i+1) μ | _=>bN md (i+1) μ)
        rw[e2];exact .cons p rest
def startM:List Bool->List T->Nat->Mu
 | b::md,t::ts,n=>(if b=true then .pb t else .tr t)::startM md ts (n - 1)
 | _,_,n=>List.replicate n .un
def wR(md:List Bool)(Qt:R->List T->Prop):Ed where
 nx:=fun μ=>Qt (.tr .aI) (bN md 0 μ)
 rt:=fun r μ=>match r with
  | .tr t=>Qt (.tr t) (bN md 0 μ)
  | .fr c=>Qt (.fr c) (bN md 0 μ)
  | .br i=>(match μ[i]? with
   | some (.bx c)=>Qt (.fr c) (bN md 0 μ)
   | _=>False)
theorem i4:∀ {md:List Bool} {ts:List T} {n:Nat},ts.length=md.length->md.length<=n->(startM md ts n).length=n
 | [],[],n,_,_=>List.length_replicate
 | b::md,t::ts,n,h,hn=>by
  cases n with
  | zero=>simp at hn
  | succ n=>exact congrArg (·+1) (i4 (by simpa using h) (by simpa using hn))
theorem eK:∀ {md:List Bool} {ts:List T} {n i:Nat} {s:Sl},(startM md ts n)[i]?=some s->s=.un\/∃ b t,md[i]?=some b/\ts[i]?=some t/\s=(if b=true then .pb t else .tr t)
 | [],ts,n,i,s,e=>by
  have e':(List.replicate n Sl.un)[i]?=some s:=by cases ts<;>exact e
  rw[List.getElem?_replicate] at e'
  split at e'
  ·exact .inl (Option.some.inj e').symm
  ·cases e'
 | b::md,[],n,i,s,e=>by
  have e':(List.replicate n Sl.un)[i]?=some s:=e;rw[List.getElem?_replicate] at e'
  split at e'
  ·exact .inl (Option.some.inj e').symm
  ·cases e'
 | b::md,t::ts,n,0,s,e=>.inr ⟨b,t,rfl,rfl,by have e':some (if b=true then Sl.pb t else .tr t)=some s:=e;exact (Option.some.inj e').symm⟩
 | b::md,t::ts,n,i+1,s,e=>by
  rcases eK (md:=md) (ts:=ts) (n:=n - 1) (i:=i) (s:=s) (by simpa[startM] using e) with h | ⟨b',t',h1,h2,h3⟩
  ·exact .inl h
  ·exact .inr ⟨b',t',by simpa using h1,by simpa using h2,h3⟩
theorem jA:∀ {md:List Bool} {ts:List T} {n i:Nat} {b:Bool} {t:T},md[i]?=some b->ts[i]?=some t->(startM md ts n)[i]?=some (if b=true then .pb t else .tr t)
 | [],_,_,_,_,_,e,_=>by simp at e
 | b::md,[],_,_,_,_,_,e=>by simp at e
 | b::md,t::ts,n,0,b',t',e1,e2=>by
  have e1':b=b':=by simpa using e1
  have e2':t=t':=by simpa using e2
  subst e1' e2';rfl
 | b::md,t::ts,n,i+1,b',t',e1,e2=>by
  have:=jA (md:=md) (ts:=ts) (n:=n - 1) (i:=i) (b:=b') (t:=t') (by simpa using e1) (by simpa using e2)
  simpa[startM] using this
def kv(vs:List V)(i:Nat):Addr:=match vs[i]? with
 | some (.ref a)=>a
 | _=>0
def CW(md:List Bool)(vs:List V)(i:Nat):Option Addr:=match md[i]?,vs[i]? with
 | some true,some (.ref a)=>some a
 | _,_=>none
theorem eJ{md:List Bool}{vs:List V}{i:Nat}{a:Addr}(h:CW md vs i=some a):md[i]?=some true/\vs[i]?=some (.ref a):=by
 unfold CW at h
 split at h
 ·rename_i e1 e2;cases h;exact⟨e1,e2⟩
 ·cases h
theorem jP{md:List Bool}{vs:List V}{i:Nat}{a:Addr}(h1:md[i]?=some true)(h2:vs[i]?=some (.ref a)):CW md vs i=some a:=by
 unfold CW;rw[h1,h2]
def iX(K:PySem.W.Frag)(H:Hp)(md:List Bool)(vs:List V)(B:aJ)(bh:∀ b,B b->∃ o,H b=some o):Fx:=⟨K,H,CW md vs,B,bh,fun _=>none⟩
theorem i7{K:PySem.W.Frag}{H:Hp}{B:aJ}{md:List Bool}{vs:List V}{args:List T}{N:List Str}(ag:eQ K H B md vs args)(bh:∀ b,B b->∃ o,H b=some o)(nd:(iY md vs).Nodup)(hN:md.length<=N.length):
  Rl (iX K H md vs B bh) (kv vs) B (start N vs) H (startM md args N.length):=by
 obtain⟨l1,l2⟩:=ag.len;have sget:∀ i v,vs[i]?=some v->(start N vs)[i]?=some (some v):=fun i v e=>by
  have hi:=(List.getElem?_eq_some_iff.mp e).1;unfold start;rw[List.getElem?_append_left (by simpa using hi),List.getElem?_map,e];rfl
 refine⟨?_,fun i s e=>?_,fun i j s u c d e1 e2 b1 b2 q=>?_,fun i a p=>?_,fun b z=>z,bh,fun b o e n=>e,fun a ws ga=>by cases ga⟩
 ·rw[i4 l2 hN];unfold start;rw[List.length_append,List.length_map,List.length_replicate];lia
 ·rcases eK e with rfl | ⟨b,t,h1,h2,rfl⟩
  ·trivial
  ·obtain⟨v,t',e1,e2,q⟩:=ag.get h1;rw[h2] at e2;cases e2
   cases b with
   | false =>
    rw[if_neg Bool.false_ne_true] at q;rw[if_neg Bool.false_ne_true];exact⟨v,sget i v e1,q⟩
   | true =>
    rw[if_pos rfl] at q;rw[if_pos rfl];obtain⟨a,rfl,hb,x⟩:=q;have ea:kv vs i=a:=by unfold kv;rw[e1]
    show _/\_/\_/\_;rw[ea];exact⟨sget i _ e1,hb,jP h1 e1,x⟩
 ·have one:∀ {i:Nat} {s:Sl} {c:T},(startM md args N.length)[i]?=some s->s.box=some c->md[i]?=some true/\∃ a,vs[i]?=some (.ref a)/\kv vs i=a:=fun {i s c} e b=>by
   rcases eK e with rfl | ⟨b',t,h1,h2,rfl⟩
   ·cases b
   ·cases b' with
    | false=>rw[if_neg Bool.false_ne_true] at b;cases b
    | true =>
     obtain⟨v,t',e1,e2,q⟩:=ag.get h1;rw[if_pos rfl] at q;obtain⟨a,rfl,_⟩:=q;exact⟨h1,a,e1,by unfold kv;rw[e1]⟩
  obtain⟨m1,a1,v1,z1⟩:=one e1 b1;obtain⟨m2,a2,v2,z2⟩:=one e2 b2;rw[z1,z2] at q;subst q;exact pE nd m1 m2 v1 v2
 ·obtain⟨h1,h2⟩:=eJ p;obtain⟨v,t',e1,e2,q⟩:=ag.get h1;refine⟨⟨t',?_⟩,by unfold kv;rw[h2]⟩
  have:=jA (n:=N.length) h1 e2;rw[if_pos rfl] at this;exact this
theorem HasFn.pg{P:Program}{w:World}{K:PySem.W.Frag}{mg:Str->Option Value}{base:Heap}{x:Str}{st:Stmt}{N ps:List Str}{k:Nat}{tsp:fL}(F:HasFn K mg x st ps)(S:ax N ps (aa st))(md:List Bool)(hm:md.length=ps.length)(hN:md.length<=N.length)
  (hbody:∀ (args:List T) (Qt:R->List T->Prop),args.length=ps.length->tsp args Qt->∀ (f:Addr) (cdv:Value) (A:Around) (outer:List Env) (s:Shared) (H:Hp) (E:XK),bo k (A.deeper (envOfC x (aa st) s.heap.objs.size f cdv)) ->
   ∃ us,YB (fk cw P w K mg base N x (aa st) f cdv A outer s H E).yD (ao st) us/\us (wR md Qt) (startM md args N.length)):ah P w K mg base cw (k+1) x ps (spT K md tsp):=by
 refine F.Ho S (fun vs H Q E h=>?_) (fun f cdv A outer s H vs Q E hr h=>?_)
 ·obtain⟨B,args,Qt,ag,_⟩:=h;rw[ag.len.1,hm]
 ·obtain⟨B,args,Qt,ag,bh,nd,ht,fin⟩:=h;obtain⟨us,⟨t,q,r⟩,hu⟩:=hbody args Qt (by rw[ag.len.2,hm]) ht f cdv A outer s H E hr
  refine⟨t,q,?_⟩;have l0:=i7 (N:=N) ag bh nd hN;have outs:∀ ad' B' σ' H' μ' (B2:aJ),Rl (iX K H md vs B bh) ad' B' σ' H' μ'->(∀ b,B2 b->B' b)->Paired (Bx K H' B2) (iY md vs) (bN md 0 μ'):=fun ad' B' σ' H' μ' B2 l hB=>by
   refine kQ (ag.len.1) fun n e=>?_;obtain⟨v,t',e1,e2,q⟩:=ag.get e;rw[if_pos rfl] at q;obtain⟨a,rfl,_⟩:=q;obtain⟨⟨c,hc⟩,ha⟩:=l.par n a (jP e e1);have sl:=l.slot n _ hc;refine⟨a,c,e1,by rw[Nat.zero_add];exact hc,?_⟩
   rw[<- ha];exact (sl.2.2.2).of rfl (Fr.less hB)
  have keep:∀ ad' B' σ' H' μ',Rl (iX K H md vs B bh) ad' B' σ' H' μ'->∀ b o,H b=some o->b∉iY md vs->H' b=some o:=fun ad' B' σ' H' μ' l b o e n=>l.old b o e fun i z=>n (eA (eJ z).1 (eJ z).2);refine r (iX K H md vs B bh) _ _ (kv vs) B (start N vs) H _ rfl l0 hu ⟨fun ad' B' σ' H' μ' l _ q=>?_,fun ad' B' σ' H' μ' v rr h q=>?_,fun _ _ _ _ _ _ _ z=>z.elim,fun _ _ _ _ _ _ _ z=>z.elim⟩
  ·exact fin .aI H' (.tr .aI) _ q (keep _ _ _ _ _ l) ⟨.aI,outs _ _ _ _ _ _ l l.bc⟩
  ·cases rr with
   | tr t=>exact fin v H' (.tr t) _ q (keep _ _ _ _ _ h.1) ⟨(show Rep K H' B' v t from h.2).fr (Fr.less h.1.bc),outs _ _ _ _ _ _ h.1 h.1.bc⟩
   | fr c =>
    obtain⟨l,a,rfl,n,h0,l2,x⟩:=h;have sub:∀ b,more B a b->more B' a b:=fun b z=>z.imp id (l.bc b);exact fin _ H' (.fr c) _ q (keep _ _ _ _ _ l) ⟨a,rfl,h0,fun z=>n (l.bc a z),x.of rfl (Fr.less sub),outs _ _ _ _ _ _ l2 sub⟩
   | br i =>
    have q':(match μ'[i]? with | some (.bx c)=>Qt (.fr c) (bN md 0 μ') | _=>False):=q
    obtain⟨l,rfl,s',c',e1,e2⟩:=h
    split at q'
    ·rename_i c ec;have sl:=l.slot i _ ec;have sub:∀ b,more B (ad' i) b->B' b:=fun b z=>z.elim (fun z=>by rw[z];exact sl.2.1) (l.bc b)
     refine fin _ H' (.fr c) _ q' (keep _ _ _ _ _ l) ⟨ad' i,rfl,sl.2.2.1,fun z=>?_,(sl.2.2.2.2).of rfl (Fr.less sub),outs _ _ _ _ _ _ l sub⟩;obtain⟨o,e⟩:=bh _ z;have:H (ad' i)=none:=sl.2.2.1;rw[this] at e;cases e
    ·exact q'.elim
def wa(μ:Mu):List Bool->List R->Option (List T)
 | [],[]=>some []
 | false::md,r::rs=>(match cont μ r,wa μ md rs with
  | some t,some ts=>some (t::ts)
  | _,_=>none)
 | true::md,.br j::rs=>(match cont μ (.br j),wa μ md rs with
  | some t,some ts=>some (t::ts)
  | _,_=>none)
 | _,_=>none
def fu:List Bool->List R->List Nat
 | true::md,.br j::rs=>j::fu md rs
 | _::md,_::rs=>fu md rs
 | _,_=>[]
def fT:List Bool->List R->List Nat
 | false::md,.br j::rs=>j::fT md rs
 | _::md,_::rs=>fT md rs
 | _,_=>[]
def fe:T->Bool
 | .lst ts=>ts.all bM
 | .mO _ ts=>ts.all bM
 | t=>bM t
def lp:R->Bool
 | .tr t=>bM t
 | .fr c=>fe c
 | .br _=>false
def putAll:List Nat->List T->Mu->Mu
 | j::js,c::cs,μ=>putAll js cs (cN μ j c)
 | _,_,μ=>μ
theorem oZ{μ:Mu}{i j:Nat}{c:T}(h:i≠j):(cN μ j c)[i]?=μ[i]?:=by
 unfold cN;split
 ·rw[List.getElem?_set_ne (Ne.symm h)]
 ·rfl
theorem y6{μ:Mu}{j:Nat}{c:T}{s:Sl}(e:μ[j]?=some s):(cN μ j c)[j]?=some (s.put c):=by
 unfold cN;rw[e];exact List.getElem?_set_self (List.getElem?_eq_some_iff.mp e).1
theorem wQ{μ:Mu}{j:Nat}{c:T}:(cN μ j c).length=μ.length:=by
 unfold cN;split
 ·exact List.length_set
 ·rfl
theorem iu:∀ {js:List Nat} {cs:List T} {μ:Mu},(putAll js cs μ).length=μ.length
 | [],_,_=>rfl
 | _::_,[],_=>rfl
 | j::js,c::cs,μ=>(iu (js:=js)).trans wQ
theorem dz:∀ {js:List Nat} {cs:List T} {μ:Mu} {i:Nat},i∉js->(putAll js cs μ)[i]?=μ[i]?
 | [],_,_,_,_=>rfl
 | _::_,[],_,_,_=>rfl
 | j::js,c::cs,μ,i,h=>(dz (js:=js) (fun z=>h (List.mem_cons_of_mem _ z))).trans (oZ fun z=>h (z ▸ List.mem_cons_self))
theorem cS{P:Addr->T->Prop}{ad:Nat->Addr}:∀ {js:List Nat} {cs:List T} {μ:Mu} {i:Nat} {s:Sl},js.Nodup->Paired P (js.map ad) cs->i∈js->μ[i]?=some s->∃ c,(putAll js cs μ)[i]?=some (s.put c)/\P (ad i) c
 | [],_,_,_,_,_,_,h,_=>by cases h
 | j::js,c::cs,μ,i,s,nd,.cons p ps,h,e=>by
  rw[List.nodup_cons] at nd;by_cases z:i=j
  ·subst z;refine⟨c,?_,p⟩;show (putAll js cs (cN μ i c))[i]?=_;rw[dz nd.1];exact y6 e
  ·rcases List.mem_cons.mp h with z' | z'
   ·exact absurd z' z
   ·exact cS (js:=js) nd.2 ps z' (by rw[oZ z];exact e)
theorem Rl.call{F:Fx}{ad:Nat->Addr}{B B2:aJ}{σ:St}{H H':Hp}{μ:Mu}{js:List Nat}{outs:List T}(l:Rl F ad B σ H μ)(hb:∀ j∈js,∃ (s:Sl) (c:T),μ[j]?=some s/\s.box=some c)(nd:js.Nodup)
  (keep:∀ b o,H b=some o->b∉js.map ad->H' b=some o) (sB:∀ b,B b->B2 b) (nB:∀ b o,H b=some o->¬ B b->¬ B2 b) (tB:∀ b,B2 b->¬ B b->∃ o,H' b=some o) (ps:Paired (Bx F.K H' B2) (js.map ad) outs) :
  Rl F ad B2 σ H' (putAll js outs μ)/\Kp μ (putAll js outs μ)/\Fr B H B2 H':=by
 have inB:∀ b∈js.map ad,B b:=fun b hb'=>by
  obtain⟨j,hj,rfl⟩:=List.mem_map.mp hb';obtain⟨s,c,e,q⟩:=hb j hj;exact l.own j s c e q
 have f:Fr B H B2 H':=fun b o e n=>⟨keep b o e fun z=>n (inB b z),nB b o e n⟩;have cases':∀ i s,(putAll js outs μ)[i]?=some s->(i∉js/\μ[i]?=some s)\/(i∈js/\∃ s0 c0 c,μ[i]?=some s0/\s0.box=some c0/\s=s0.put c/\Bx F.K H' B2 (ad i) c):=fun i s e=>by
  by_cases z:i∈js
  ·obtain⟨s0,c0,e0,q0⟩:=hb i z;obtain⟨c,e1,p⟩:=cS nd ps z e0;rw[e1] at e;exact .inr ⟨z,s0,c0,c,e0,q0,(Option.some.inj e).symm,p⟩
  ·rw[dz z] at e;exact .inl ⟨z,e⟩
 have boxOld:∀ (i:Nat) (s:Sl) (c:T),(putAll js outs μ)[i]?=some s->s.box=some c->∃ (s0:Sl) (c0:T),μ[i]?=some s0/\s0.box=some c0:=fun i s c e b=>by
  rcases cases' i s e with ⟨_,e'⟩ | ⟨_,s0,c0,_,e0,q0,_⟩
  ·exact⟨s,c,e',b⟩
  ·exact⟨s0,c0,e0,q0⟩
 have ne:∀ (i:Nat) (s:Sl) (c:T),i∉js->μ[i]?=some s->s.box=some c->ad i∉js.map ad:=fun i s c z e b hm=>by
  obtain⟨j,hj,q⟩:=List.mem_map.mp hm;obtain⟨s0,c0,e0,q0⟩:=hb j hj;exact z (l.inj i j s s0 c c0 e e0 b q0 q.symm ▸ hj)
 refine⟨⟨by rw[iu];exact l.len,fun i s e=>?_,fun i j s u c d e1 e2 b1 b2 q=>?_,fun i a p=>?_,fun b z=>sB b (l.bc b z),fun b z=>?_,fun b o e n=>?_,fun a ws ga=>?_⟩,fun i=>?_,f⟩
 ·rcases cases' i s e with ⟨z,e'⟩ | ⟨z,s0,c0,c,e0,q0,rfl,x⟩
  ·have k:=l.slot i s e';unfold gy at k ⊢
   split at k
   ·trivial
   ·obtain⟨v,e1,r1⟩:=k;exact⟨v,e1,r1.fr f⟩
   ·obtain⟨e1,b,z0,p,x⟩:=k;obtain⟨o,eo⟩:=x.er;exact⟨e1,sB _ b,z0,p,x.of ((keep _ o eo (ne i _ _ z e' rfl)).trans eo.symm) f⟩
   ·obtain⟨e1,b,p,x⟩:=k;obtain⟨o,eo⟩:=x.er;exact⟨e1,sB _ b,p,x.of ((keep _ o eo (ne i _ _ z e' rfl)).trans eo.symm) f⟩
  ·have k:=l.slot i s0 e0
   cases s0 with
   | un=>cases q0
   | tr t=>cases q0
   | bx d=>exact⟨k.1,sB _ k.2.1,k.2.2.1,k.2.2.2.1,x⟩
   | pb d=>exact⟨k.1,sB _ k.2.1,k.2.2.1,x⟩
 ·obtain⟨s1,c1,g1,g2⟩:=boxOld i s c e1 b1;obtain⟨s2,c2,g3,g4⟩:=boxOld j u d e2 b2;exact l.inj i j s1 s2 c1 c2 g1 g3 g2 g4 q
 ·obtain⟨⟨c,e⟩,ha⟩:=l.par i a p;refine⟨?_,ha⟩;by_cases z:i∈js
  ·obtain⟨c',e1,_⟩:=cS nd ps z e;exact⟨c',e1⟩
  ·exact⟨c,by rw[dz z];exact e⟩
 ·by_cases zb:B b
  ·obtain⟨o,e⟩:=l.er b zb;by_cases z2:b∈js.map ad
   ·obtain⟨j,hj,rfl⟩:=List.mem_map.mp z2;obtain⟨s0,c0,e0,q0⟩:=hb j hj;obtain⟨c,_,x⟩:=cS nd ps hj e0;exact x.er
   ·exact⟨o,keep b o e z2⟩
  ·exact tB b z zb
 ·have e2:=l.old b o e n;refine keep b o e2 fun hm=>?_;obtain⟨j,hj,rfl⟩:=List.mem_map.mp hm;obtain⟨s0,c0,e0,q0⟩:=hb j hj;rcases ((l.slot j s0 e0).boxed q0).2.2.2 with z | z
  ·exact n j z
  ·rw[z] at e;cases e
 ·obtain⟨g1,g2,g3⟩:=l.gh a ws ga;refine⟨keep a _ g1 fun hm=>?_,sB a g2,fun i s c e b=>?_⟩
  ·obtain⟨j,hj,q⟩:=List.mem_map.mp hm;obtain⟨s0,c0,e0,q0⟩:=hb j hj;exact g3 j s0 c0 e0 q0 q
  ·obtain⟨s0,c0,e0,q0⟩:=boxOld i s c e b;exact g3 i s0 c0 e0 q0
 ·by_cases z:i∈js
  ·obtain⟨s0,c0,e0,q0⟩:=hb i z;obtain⟨c,e1,_⟩:=cS nd ps z e0;rw[e0,e1];show (s0.box).isSome=((s0.put c).box).isSome;rw[q0,Sl.gI q0];rfl
  ·rw[dz z]
theorem zQ{F:Fx}{ad:Nat->Addr}{B:aJ}{σ:St}{H:Hp}{μ:Mu}(l:Rl F ad B σ H μ)(ro:List Nat):∀ {md:List Bool} {xs:List V} {rs:List R} {args:List T},Paired (Hv F ad B H μ) xs rs->wa μ md rs=some args->(∀ j∈fT md rs,j∈ro)->(∀ j∈fu md rs,j∉ro) ->
  (∀ j∈ro,∃ (s:Sl) (c:T),μ[j]?=some s/\s.box=some c) ->
  eQ F.K H (fun b=>B b/\∀ j∈ro,b≠ad j) md xs args/\iY md xs=(fu md rs).map ad/\∀ j∈fu md rs,∃ (s:Sl) (c:T),μ[j]?=some s/\s.box=some c:=by
 intro md
 induction md with
 | nil =>
  intro xs rs args p e _ _ _
  cases p with
  | nil=>cases e;exact⟨trivial,rfl,fun j h=>by cases h⟩
  | cons h p=>cases e
 | cons bb md ih =>
  intro xs rs args pp e h1 h2 h3
  cases pp with
  | nil=>cases bb<;>cases e
  | cons h p =>
   rename_i x r xs2 rs
   cases bb with
   | false =>
    unfold wa at e
    split at e
    ·rename_i t ts e1 e2;cases e;have sub:∀ j∈fT md rs,j∈ro:=fun j hj=>h1 j (by cases r<;>first | exact hj | exact List.mem_cons_of_mem _ hj)
     obtain⟨g1,g2,g3⟩:=ih p e2 sub h2 h3;refine⟨⟨?_,g1⟩,?_,g3⟩
     ·cases r with
      | tr t' =>
       have e1':t'=t:=Option.some.inj e1;subst e1';exact (show Rep F.K H B x t' from h).fr (Fr.less fun _ z=>z.1)
      | br j =>
       obtain⟨rfl,s,c,q1,q2⟩:=h;have e1':(μ[j]?).bind Sl.box=some t:=e1;rw[q1] at e1';have bx:=((l.slot j s q1).boxed (c:=t) e1').2.2.1;exact (bx.of rfl (Fr.less fun _ z=>z.1)).rep fun z=>z.2 j (h1 j List.mem_cons_self) rfl
      | fr c=>exact h.elim
     ·show iY (false::md) (_::_)=_;rw[show fu (false::md) (r::rs)=fu md rs by cases r<;>rfl]
      exact g2
    ·cases e
   | true =>
    cases r with
    | tr t=>cases e
    | fr c=>cases e
    | br j =>
     unfold wa at e
     split at e
     ·rename_i t ts e1 e2;cases e;obtain⟨g1,g2,g3⟩:=ih p e2 h1 (fun i hi=>h2 i (List.mem_cons_of_mem _ hi)) h3;obtain⟨rfl,s,c,q1,q2⟩:=h;have e1':(μ[j]?).bind Sl.box=some t:=e1;rw[q1] at e1';have bx:=(l.slot j s q1).boxed (c:=t) e1';refine⟨⟨⟨ad j,rfl,⟨bx.2.1,fun i hi z=>?_⟩,bx.2.2.1.of rfl (Fr.less fun _ z=>z.1)⟩,g1⟩,congrArg (ad j::·) g2,fun i hi=>?_⟩
      ·obtain⟨s',c',q3,q4⟩:=h3 i hi;have:=l.inj j i s s' t c' q1 q3 e1' q4 z;subst this;exact h2 j List.mem_cons_self hi
      ·rcases List.mem_cons.mp hi with z | z
       ·subst z;exact⟨s,t,q1,e1'⟩
       ·exact g3 i z
     ·cases e
theorem iF{F:Fx}{ad:Nat->Addr}{B:aJ}{H:Hp}{μ:Mu}:∀ {md:List Bool} {xs:List V} {rs:List R},Paired (Hv F ad B H μ) xs rs->∀ j∈fT md rs,∃ (s:Sl) (c:T),μ[j]?=some s/\s.box=some c
 | [],_,_,_,j,h=>by cases h
 | b::md,_,_,.nil,j,h=>by cases b<;>cases h
 | b::md,_,r::rs,.cons h p,j,hj=>by
  cases b with
  | true=>exact iF (md:=md) p j (by cases r<;>exact hj)
  | false =>
   cases r with
   | tr t=>exact iF (md:=md) p j hj
   | fr c=>exact h.elim
   | br i =>
    rcases List.mem_cons.mp hj with z | z
    ·subst z;exact h.2
    ·exact iF (md:=md) p j z
theorem Bx.flat{K:PySem.W.Frag}{H:Hp}{B B':aJ}{a:Addr}{c:T}(h:Bx K H B a c)(f:fe c=true):Bx K H B' a c:=by
 rcases h.is with ⟨ts,vs,rfl,e,r⟩ | ⟨ks,ts,vs,rfl,e,l,r⟩
 ·exact⟨vs,e,r.flat f⟩
 ·exact⟨vs,e,l,r.flat f⟩
theorem Paired.mq{K:PySem.W.Frag}{H:Hp}{B B':aJ}:∀ {as:List Addr} {outs:List T},Paired (Bx K H B) as outs->outs.all fe=true->Paired (Bx K H B') as outs
 | _,_,.nil,_=>.nil
 | _,_,.cons h p,f=>by
  rw[List.all_cons,Bool.and_eq_true] at f;exact .cons (h.flat f.1) (Paired.mq p f.2)
namespace Y
def En(md:List Bool)(tsp:fL)(us:UA):UE:=fun μ Q=>us μ fun rs μ1=>match wa μ1 md rs with
 | some args=>(fu md rs).Nodup/\(∀ j∈fu md rs,j∉fT md rs)/\tsp args fun r outs=>(fT md rs=[]\/(lp r=true/\outs.all fe=true))/\Q r (putAll (fu md rs) outs μ1)
 | none=>False
theorem DK{K:PySem.W.Frag}{md:List Bool}{tsp:fL}{E:XK}{t:TA}{us:UA}(ha:RA K t us):RE K (qz (spT K md tsp) [] E t) (En md tsp us):=by
 intro F ad B σ H μ Q Qt hF l q k;refine ha F ad B σ H μ _ _ hF l q fun vs H1 rs μ1 l1 ps f1 k1 q1=>?_
 split at q1
 ·rename_i args ea;obtain⟨nd,dj,q1⟩:=q1;have hro:=iF (md:=md) ps;obtain⟨ag,eb,hb⟩:=zQ l1 (fT md rs) ps ea (fun j h=>h) dj hro;rw[hF] at ag;show spT K md tsp (vs++[]) H1 Q E;rw[List.append_nil];have inj:∀ {js:List Nat},js.Nodup->(∀ j∈js,∃ (s:Sl) (c:T),μ1[j]?=some s/\s.box=some c)->(js.map ad).Nodup:=fun {js}=>by
   induction js with
   | nil=>exact fun _ _=>List.nodup_nil
   | cons j js ih =>
    intro nd hb;rw[List.nodup_cons] at nd;rw[List.map_cons,List.nodup_cons];refine⟨fun hm=>?_,ih nd.2 fun i hi=>hb i (List.mem_cons_of_mem _ hi)⟩;obtain⟨i,hi,z⟩:=List.mem_map.mp hm;obtain⟨s1,c1,e1,b1⟩:=hb j List.mem_cons_self;obtain⟨s2,c2,e2,b2⟩:=hb i (List.mem_cons_of_mem _ hi);exact nd.1 (l1.inj i j s2 s1 c2 c1 e2 e1 b2 b1 z ▸ hi)
  refine⟨_,args,_,ag,fun b z=>l1.er b z.1,by rw[eb];exact inj nd hb,q1,fun v H2 r outs hq keep res=>?_⟩
  rw[eb] at keep res;obtain⟨hfl,hq⟩:=hq;have nro:∀ {b:Addr},fT md rs=[]->B b->B b/\∀ j∈fT md rs,b≠ad j:=fun {b} z h=>⟨h,fun j hj=>by rw[z] at hj;cases hj⟩
  cases r with
  | br i=>exact res.elim
  | tr t =>
   obtain⟨rv,po⟩:=res;have rv':Rep F.K H2 B v t:=by
    rw[hF];rcases hfl with z | z
    ·exact rv.fr (Fr.less fun b h=>nro z h)
    ·exact rv.flat z.1
   have po':Paired (Bx F.K H2 B) ((fu md rs).map ad) outs:=by
    rw[hF];rcases hfl with z | z
    ·exact Paired.kf po fun a c h=>h.of rfl (Fr.less fun b h=>nro z h)
    ·exact Paired.mq po z.2
   obtain⟨l2,k2,f2⟩:=l1.call hb nd keep (fun _ z=>z) (fun _ _ _ z=>z) (fun b z n=>absurd z n) po';exact k v H2 (.tr t) _ ⟨l2,rv'⟩ (f1.trans f2) (k1.trans k2) hq
  | fr c =>
   obtain⟨a,rfl,ha0,nBa,x,po⟩:=res;have nBa':¬ B a:=l1.jY ha0;have sub:fT md rs=[]->∀ b,more B a b->more (fun b=>B b/\∀ j∈fT md rs,b≠ad j) a b:=fun z b h=>h.imp id fun h=>nro z h;have x':Bx F.K H2 (more B a) a c:=by
    rw[hF];rcases hfl with z | z
    ·exact x.of rfl (Fr.less (sub z))
    ·exact x.flat z.1
   have po':Paired (Bx F.K H2 (more B a)) ((fu md rs).map ad) outs:=by
    rw[hF];rcases hfl with z | z
    ·exact Paired.kf po fun a' c h=>h.of rfl (Fr.less (sub z))
    ·exact Paired.mq po z.2
   have po2:Paired (Bx F.K H2 B) ((fu md rs).map ad) outs:=Paired.kf po' fun a' c h=>h.of rfl (Fr.less fun _ z=>.inr z);obtain⟨l2,k2,f2⟩:=l1.call hb nd keep (fun _ z=>z) (fun _ _ _ z=>z) (fun b z n=>absurd z n) po2;obtain⟨l3,_,f3⟩:=l1.call (B2:=more B a) hb nd keep (fun _ z=>.inr z) (fun b o e n z=>z.elim (fun z=>by rw[z,ha0] at e;cases e) n) (fun b z n=>z.elim (fun z=>by rw[z];exact x'.er) fun z=>absurd z n) po'
   exact k _ H2 (.fr c) _ ⟨l2,a,rfl,nBa',l1.y8 ha0,l3,x'⟩ (f1.trans f3) (k1.trans k2) hq
 ·exact q1.elim
section
variable {X:Cx} {e:Expr} {es:List Expr} {us:UA} {pos p:Pos} {x:Str} {k:Nat} {ps:List Str} {md:List Bool} {tsp:fL} {E:XK}
theorem fn(K:PySem.W.Frag)(hK:X.K=K)(F:ah X.prog X.w X.K X.mg X.base cw k x ps (spT K md tsp))(hr:bo k X.A)(hg:Gl X x)(hx:Passes cw X E)(ha:YA X (e::es) us)(h1:cx e=true:=by rfl)(h2:es.all cx=true:=by rfl)(hdb:(x ==("__debug__":Str))=false:=by decide):
  YE X (.Call (.Name x p) (e::es) [] pos) (En md tsp us):=by
 obtain⟨t,q,r⟩:=ha;subst hK;exact⟨_,Z.fn F hr hg hx q h1 h2 hdb,DK r⟩
end
end Y
def A_:fL:=fun args Q=>∃ ns:List Int,args=[.d7 (ns.map T.int)]/\ns.length<=63/\Q (.tr (.bl true)) []
section
variable {prog:Program} {w:World} {A:Around} {E:Value->Shared->Prop} {s:Shared}
structure ZA (z TI TO i1 i2 l1 l2:Addr):Prop where
 a1:TI≠z
 a2:TO≠z
 a3:i1≠z
 a4:i2≠z
 a5:TO≠i1
 a6:TO≠i2
 a7:i1≠i2
 a8:l1≠z/\l1≠TO/\l1≠i1/\l1≠i2
 a9:l2≠z/\l2≠TO/\l2≠i1/\l2≠i2
 b1:TI≠TO/\TI≠i1/\TI≠i2
theorem ZA.f1{z TI TO i1 i2 l1 l2:Addr}(D:ZA z TI TO i1 i2 l1 l2){e:Addr}(he:e=z\/e=TO\/e=i2):∀ b∈[i1,l1],b≠e:=fun b hb=>by
 rcases List.mem_cons.mp hb with rfl | hb
 ·rcases he with rfl | rfl | rfl
  ·exact D.a3
  ·exact D.a5.symm
  ·exact D.a7
 ·have hb:b=l1:=by simpa using hb
  subst hb;rcases he with rfl | rfl | rfl
  ·exact D.a8.1
  ·exact D.a8.2.1
  ·exact D.a8.2.2.2
theorem ZA.f2{z TI TO i1 i2 l1 l2:Addr}(D:ZA z TI TO i1 i2 l1 l2){e:Addr}(he:e=z\/e=TO\/e=i1):∀ b∈[i2,l2],b≠e:=fun b hb=>by
 rcases List.mem_cons.mp hb with rfl | hb
 ·rcases he with rfl | rfl | rfl
  ·exact D.a4
  ·exact D.a6.symm
  ·exact D.a7.symm
 ·have hb:b=l2:=by simpa using hb
  subst hb;rcases he with rfl | rfl | rfl
  ·exact D.a9.1
  ·exact D.a9.2.1
  ·exact D.a9.2.2.1
theorem du{it l:Addr}{n:Nat}{P:Nat->Value->Prop}{S:Nat->Heap->Prop}{A':Around}(D:Draws prog w A' it [it,l] n P S){i:Nat}{h h':Heap}{e:Addr}(st:S i h)(hs:Heap.ExtBut e h h')(ne:∀ b∈[it,l],b≠e):S i h':=D.frame i h h' st fun b hb o q=>hs b o (ne b hb) q
theorem rV{z TI TO i1 i2 l1 l2:Addr}{k n1 n2:Nat}{P1 P2:Nat->Value->Prop}{S1 S2:Nat->Heap->Prop}{a b:Value}{Q:Value->Shared->Prop}(D:ZA z TI TO i1 i2 l1 l2)(D1:Draws prog w A i1 [i1,l1] n1 P1 S1)(D2:Draws prog w A i2 [i2,l2] n2 P2 S2)
  (hz:IsZip s.heap z TI TO .none) (hTI:IsPair s.heap TI (.ref i1) (.ref i2)) (hTO:IsPair s.heap TO a b) (st1:S1 k s.heap) (dQ:S2 k s.heap) (hk1:k < n1) (hk2:k < n2)
  (hQ:∀ x y h' tk,P1 k x->P2 k y->IsZip h' z TI TO (rawInt s.heap.objs.size)->IsPair h' TO x y->S1 (k+1) h'->S2 (k+1) h'->IsPair h' s.heap.objs.size x y ->
   (∀ c o,c≠z->c≠TO->c≠i1->c≠i2->s.heap.get? c=some o->h'.get? c=some o)->Q (.ref s.heap.objs.size) { s with heap:=h',toks:=tk }) :
  wpAny (model prog w) A (Builtin.«zip.__next__» ⟨[.ref z],[]⟩) (fun fin s'=>∃ v,fin=.done (.ret v)/\Q v s') E s:=by
 have zrec:=hz;show wpAny _ _ (field (.ref z) 2 >>= _) _ _ _;refine wpAny_bind (wpAny_field zrec rfl (x:=.bool false) rfl ?_);show wpAny _ _ (field (.ref z) 3 >>= _) _ _ _;refine wpAny_bind (wpAny_field zrec rfl (x:=.ref TI) rfl ?_);have tirec:=hTI;refine wpAny_bind (wpAny_seqItems tirec rfl ?_);show wpAny _ _ (Builtin.SmallTypes.ownedTupleIsFree (.ref z) >>= _) _ _ _;refine wpAny_bind ?_;unfold Builtin.SmallTypes.ownedTupleIsFree;refine wpAny_bind (wpAny_field zrec rfl (x:=.none) rfl (wpAny_pure ?_));simp only[if_true];refine wpAny_bind (wpAny_rule ?_);refine wpAny_bind (wpAny_field zrec rfl (x:=.ref TO) rfl ?_);refine wpAny_bind (wpAny_setField_rec zrec (by simp) fun g1 zr1 sb1=>?_)
 replace zr1:IsZip g1 z TI TO .ellipsis:=zr1
 refine wpAny_bind ?_;simp only[List.zipIdx_cons,List.zipIdx_nil,List.forIn_cons,List.forIn_nil];refine wpAny_bind (wpAny_bind (wpAny_onRaise ?_));show wpAny _ _ (Builtin.SmallTypes.nextOf (.ref i1) >>= _) _ _ _;refine wpAny_bind (D1.item k _ _ _ hk1 (du D1 st1 sb1.extBut (D.f1 (.inl rfl))) fun x g2 tk2 px st1b sb2=>wpAny_pure ?_);have to2:IsPair g2 TO a b:=sb2.extBut _ _ D.a5 (sb1.extBut _ _ D.a2 hTO);refine wpAny_bind (wpAny_seqItems to2 rfl ?_);refine wpAny_bind (wpAny_updateSeq_pair to2 fun g3 to3 sb3=>?_)
 replace to3:IsPair g3 TO x b:=to3
 refine wpAny_bind (wpAny_letGo (wpAny_pure ?_));refine wpAny_bind (wpAny_bind (wpAny_onRaise ?_));show wpAny _ _ (Builtin.SmallTypes.nextOf (.ref i2) >>= _) _ _ _;have st2c:S2 k g3:=du D2 (du D2 (du D2 dQ sb1.extBut (D.f2 (.inl rfl))) sb2.extBut (D.f2 (.inr (.inr rfl)))) sb3.extBut (D.f2 (.inr (.inl rfl)));refine wpAny_bind (D2.item k _ _ _ hk2 st2c fun y g4 tk4 py st2d sb4=>wpAny_pure ?_);have to4:IsPair g4 TO x b:=sb4.extBut _ _ D.a6 to3;refine wpAny_bind (wpAny_seqItems to4 rfl ?_);refine wpAny_bind (wpAny_updateSeq_pair to4 fun g5 to5 sb5=>?_)
 replace to5:IsPair g5 TO x y:=to5
 refine wpAny_bind (wpAny_letGo (wpAny_pure (wpAny_pure ?_)));refine wpAny_bind (wpAny_seqItems to5 rfl ?_);refine wpAny_bind (wpAny_newTuple ?_);have size5:g5.objs.size=s.heap.objs.size:=by rw[sb5.1,sb4.1,sb3.1,sb2.1,sb1.1]
 have zr5:IsZip g5 z TI TO .ellipsis:=sb5.extBut _ _ D.a2.symm (sb4.extBut _ _ D.a4.symm (sb3.extBut _ _ D.a2.symm (sb2.extBut _ _ D.a3.symm zr1)));have keep5:∀ c o,c≠z->c≠TO->c≠i1->c≠i2->s.heap.get? c=some o->g5.get? c=some o:=fun c o e1 e2 e3 e4 q =>
  sb5.extBut _ _ e2 (sb4.extBut _ _ e4 (sb3.extBut _ _ e2 (sb2.extBut _ _ e3 (sb1.extBut _ _ e1 q))))
 have s1e:S1 (k+1) g5:=du D1 (du D1 (du D1 st1b sb3.extBut (D.f1 (.inr (.inl rfl)))) sb4.extBut (D.f1 (.inr (.inr rfl)))) sb5.extBut (D.f1 (.inr (.inl rfl)));have s2e:S2 (k+1) g5:=du D2 st2d sb5.extBut (D.f2 (.inr (.inl rfl)));have zlt:z < g5.objs.size:=Heap.lt_size zr5;show wpAny _ _ (Builtin.SmallTypes.ownedTupleHandOut (.ref z) (.ref g5.objs.size) >>= _) _ _ _;refine wpAny_bind ?_;unfold Builtin.SmallTypes.ownedTupleHandOut;have zr6:IsZip (g5.push { cls:=.type "tuple",data:=.seq #[x,y] }) z TI TO .ellipsis:=Heap.get?_push_of_some _ zr5;refine wpAny_bind (wpAny_setField_rec zr6 (by simp) fun g7 zr7 sb7=>?_)
 replace zr7:IsZip g7 z TI TO (rawInt g5.objs.size):=zr7
 refine wpAny_setField_rec zr7 (by simp) fun g8 zr8 sb8=>?_
 replace zr8:IsZip g8 z TI TO (rawInt g5.objs.size):=zr8
 have up:∀ c o,c≠z->g5.get? c=some o->g8.get? c=some o:=fun c o e1 q=>sb8.extBut _ _ e1 (sb7.extBut _ _ e1 (Heap.get?_push_of_some _ q));have pr8:IsPair g8 g5.objs.size x y:=sb8.extBut _ _ (Nat.ne_of_gt zlt) (sb7.extBut _ _ (Nat.ne_of_gt zlt) (Heap.get?_push_size _ rfl));rw[size5] at zr8 pr8;refine wpAny_pure ⟨_,rfl,?_⟩;show Q (.ref g5.objs.size) _;rw[size5];exact hQ x y g8 _ px py zr8 (up _ _ D.a2 to5) (D1.frame _ _ _ s1e fun b hb o q=>up b o (D.f1 (.inl rfl) b hb) q) (D2.frame _ _ _ s2e fun b hb o q=>up b o (D.f2 (.inl rfl) b hb) q) pr8 fun c o e1 e2 e3 e4 q=>up c o e1 (keep5 c o e1 e2 e3 e4 q)
theorem ud{z TI TO i1 i2 l1 l2:Addr}{k n1 n2:Nat}{P1 P2:Nat->Value->Prop}{S1 S2:Nat->Heap->Prop}{a b:Value}{Q:Fin->Shared->Prop}(D:ZA z TI TO i1 i2 l1 l2)(D1:Draws prog w A i1 [i1,l1] n1 P1 S1)(D2:Draws prog w A i2 [i2,l2] n2 P2 S2)
  (hz:IsZip s.heap z TI TO .none) (hTI:IsPair s.heap TI (.ref i1) (.ref i2)) (hTO:IsPair s.heap TO a b) (st1:S1 k s.heap) (dQ:S2 k s.heap) (hk:k=n1\/(k < n1/\k=n2))
  (hE:∀ h' e tk,(∀ c o,c≠z->c≠TO->c≠i1->c≠i2->s.heap.get? c=some o->h'.get? c=some o)->(∃ o,h'.get? e=some o/\o.cls=.type "StopIteration")->E (.ref e) { s with heap:=h',toks:=tk }) :
  wpAny (model prog w) A (Builtin.«zip.__next__» ⟨[.ref z],[]⟩) Q E s:=by
 have zrec:=hz;show wpAny _ _ (field (.ref z) 2 >>= _) _ _ _;refine wpAny_bind (wpAny_field zrec rfl (x:=.bool false) rfl ?_);show wpAny _ _ (field (.ref z) 3 >>= _) _ _ _;refine wpAny_bind (wpAny_field zrec rfl (x:=.ref TI) rfl ?_);have tirec:=hTI;refine wpAny_bind (wpAny_seqItems tirec rfl ?_);show wpAny _ _ (Builtin.SmallTypes.ownedTupleIsFree (.ref z) >>= _) _ _ _;refine wpAny_bind ?_;unfold Builtin.SmallTypes.ownedTupleIsFree;refine wpAny_bind (wpAny_field zrec rfl (x:=.none) rfl (wpAny_pure ?_));simp only[if_true];refine wpAny_bind (wpAny_rule ?_);refine wpAny_bind (wpAny_field zrec rfl (x:=.ref TO) rfl ?_);refine wpAny_bind (wpAny_setField_rec zrec (by simp) fun g1 zr1 sb1=>?_)
 replace zr1:IsZip g1 z TI TO .ellipsis:=zr1
 refine wpAny_bind ?_;simp only[List.zipIdx_cons,List.zipIdx_nil,List.forIn_cons,List.forIn_nil];refine wpAny_bind (wpAny_bind (wpAny_onRaise ?_));show wpAny _ _ (Builtin.SmallTypes.nextOf (.ref i1) >>= _) _ _ _;rcases hk with hk | ⟨hk1,hk2⟩
 ·subst hk;refine wpAny_bind (D1.done _ _ _ (du D1 st1 sb1.extBut (D.f1 (.inl rfl))) fun g2 e sb2 he=>?_);obtain⟨oe,hoe,hce⟩:=he;have zr2:IsZip g2 z TI TO .ellipsis:=sb2 _ _ D.a3.symm zr1;have nez:e≠z:=fun q=>by subst q;rw[zr2] at hoe;cases hoe;simp at hce
  refine wpAny_setField_rec zr2 (by simp) fun g3 _ sb3=>hE g3 e _ (fun c o e1 _ e3 _ q=>sb3.extBut _ _ e1 (sb2 _ _ e3 (sb1.extBut _ _ e1 q))) ⟨oe,sb3.extBut _ _ nez hoe,hce⟩
 ·subst hk2;refine wpAny_bind (D1.item k _ _ _ hk1 (du D1 st1 sb1.extBut (D.f1 (.inl rfl))) fun x g2 tk2 px st1b sb2=>wpAny_pure ?_);have to2:IsPair g2 TO a b:=sb2.extBut _ _ D.a5 (sb1.extBut _ _ D.a2 hTO);refine wpAny_bind (wpAny_seqItems to2 rfl ?_);refine wpAny_bind (wpAny_updateSeq_pair to2 fun g3 to3 sb3=>?_);refine wpAny_bind (wpAny_letGo (wpAny_pure ?_));refine wpAny_bind (wpAny_bind (wpAny_onRaise ?_));show wpAny _ _ (Builtin.SmallTypes.nextOf (.ref i2) >>= _) _ _ _;have st2c:S2 k g3:=du D2 (du D2 (du D2 dQ sb1.extBut (D.f2 (.inl rfl))) sb2.extBut (D.f2 (.inr (.inr rfl)))) sb3.extBut (D.f2 (.inr (.inl rfl)));refine wpAny_bind (D2.done _ _ _ st2c fun g4 e sb4 he=>?_);obtain⟨oe,hoe,hce⟩:=he;have zr4:IsZip g4 z TI TO .ellipsis:=sb4 _ _ D.a4.symm (sb3.extBut _ _ D.a2.symm (sb2.extBut _ _ D.a3.symm zr1));have nez:e≠z:=fun q=>by subst q;rw[zr4] at hoe;cases hoe;simp at hce
  refine wpAny_setField_rec zr4 (by simp) fun g5 _ sb5=>hE g5 e _ (fun c o e1 e2 e3 e4 q=>sb5.extBut _ _ e1 (sb4 _ _ e4 (sb3.extBut _ _ e2 (sb2.extBut _ _ e3 (sb1.extBut _ _ e1 q))))) ⟨oe,sb5.extBut _ _ nez hoe,hce⟩
end
def pQ(K:PySem.W.Frag)(k:Bool)(H:Hp)(a:Addr)(xs:List V):Prop:=if k=true then bB K H a xs else b6 K H a xs
def gg(k:Bool)(h:Heap)(it a:Addr)(i:Nat):Prop:=if k=true then h.IsListIter it a i else h.IsTupleIter it a i
def gi(k:Bool)(h:Heap)(a:Addr)(items:Array Value):Prop:=if k=true then h.IsList a items else h.IsTuple a items
theorem gD{prog:Program}{w:World}{A:Around}(k:Bool)(hh:A.handled=none)(it l:Addr)(hne:l≠it)(items:Array Value):Draws prog w A it [it,l] items.size (fun i v=>items[i]?=some v) (fun i h=>gg k h it l i/\gi k h l items):=by
 cases k with
 | true=>exact Draws.list hh it l hne items
 | false=>exact fP hh it l hne items
theorem Inv.rY{X:Cx}{pins:List (Addr×Obj)}{σ:St}{H:Hp}{s:Shared}{k:Bool}{a:Addr}{xs:List V}(I:Inv X pins σ H s)(h:pQ X.K k H a xs):∃ its:List Value,Vals xs its/\gi k s.heap a its.toArray:=by
 cases k with
 | true=>obtain⟨its,r,p,_⟩:=I.list h;exact⟨its,r,p.isList⟩
 | false=>obtain⟨its,r,p,_⟩:=I.tuple h;exact⟨its,r,p⟩
theorem Inv.lL{X:Cx}{pins:List (Addr×Obj)}{σ:St}{H:Hp}{s:Shared}{k:Bool}{a:Addr}{xs ys:List V}(I:Inv X pins σ H s)(h:pQ X.K k H a xs)(h':pQ X.K k H a ys):xs=ys:=by
 cases k with
 | true=>exact I.mC h h'
 | false=>exact I.fF h h'
def AU(K:PySem.W.Frag)(k1 k2:Bool)(a b:Addr):It:=
  ⟨fun i H=>∃ xs ys x y,pQ K k1 H a xs/\pQ K k2 H b ys/\xs[i]?=some x/\ys[i]?=some y,
   fun i H v H'=>∃ p x y,(∀ xs,pQ K k1 H a xs->xs[i]?=some x)/\(∀ ys,pQ K k2 H b ys->ys[i]?=some y)/\H p=none/\v=.ref p/\H'=upd H p (.tup [x,y]),
   fun i H=>∃ xs ys,pQ K k1 H a xs/\pQ K k2 H b ys/\i=min xs.length ys.length⟩
theorem gi.ty{k:Bool}{h:Heap}{a:Addr}{items:Array Value}(x:gi k h a items):∃ o,h.get? a=some o/\(o.cls=.type "list"\/o.cls=.type "tuple")/\∃ n,o.data=.seq items n:=by
 cases k with
 | true=>obtain⟨o,e,c,n,d⟩:=(show h.IsList a items from x);exact⟨o,e,.inl c,n,d⟩
 | false=>obtain⟨o,e,c,n,d⟩:=(show h.IsTuple a items from x);exact⟨o,e,.inr c,n,d⟩
theorem gg.ty{k:Bool}{h:Heap}{it a:Addr}{i:Nat}(x:gg k h it a i):∃ o,h.get? it=some o/\(o.cls=.type "list_iterator"\/o.cls=.type "tuple_iterator")/\o.data=.fields #[.ref a,.int i 0]:=by
 cases k with
 | true=>obtain⟨o,e,c,d⟩:=(show h.IsListIter it a i from x);exact⟨o,e,.inl c,d⟩
 | false=>obtain⟨o,e,c,d⟩:=(show h.IsTupleIter it a i from x);exact⟨o,e,.inr c,d⟩
def FE(k:Bool):String:=if k=true then "list_iterator" else "tuple_iterator"
noncomputable abbrev EU (h:Heap) (k1:Bool) (a:Addr):Heap:=h.push { cls:=.type (FE k1),data:=.fields #[.ref a,.int 0 0] }
noncomputable abbrev Fh (h:Heap) (k1 k2:Bool) (a b:Addr):Heap:=(EU h k1 a).push { cls:=.type (FE k2),data:=.fields #[.ref b,.int 0 0] }
noncomputable abbrev Fj (h:Heap) (k1 k2:Bool) (a b:Addr):Heap:=(Fh h k1 k2 a b).push { cls:=.type "tuple",data:=.seq #[.ref h.objs.size,.ref (EU h k1 a).objs.size] }
noncomputable abbrev Fb (h:Heap) (k1 k2:Bool) (a b:Addr):Heap:=(Fj h k1 k2 a b).push { cls:=.type "tuple",data:=.seq #[.none,.none] }
noncomputable abbrev CC (h:Heap) (k1 k2:Bool) (a b:Addr):Heap:=(Fb h k1 k2 a b).push { cls:=.type "zip",data:=.fields #[.none,.bool false,.bool false,.ref (Fh h k1 k2 a b).objs.size,.ref (Fj h k1 k2 a b).objs.size] }
theorem mh{h:Heap}{a:Addr}{items:Array Value}(x:h.IsTuple a items)(o:Obj):(h.push o).IsTuple a items:=by
 obtain⟨ob,e,r⟩:=x;exact⟨ob,Heap.get?_push_of_some _ e,r⟩
theorem mU(k1 k2:Bool)(a b:Addr)(xs ys:Array Value):
  Meets (Builtin.«zip.__new__» ⟨[.type "zip",.ref a,.ref b],[]⟩) (fun _ R s=>gi k1 s.heap a xs/\gi k2 s.heap b ys /\
   R (.ok (.ret (.ref (Fb s.heap k1 k2 a b).objs.size))) { s with heap:=CC s.heap k1 k2 a b }):=
 .of_wp fun prog w A R s h=>by
  obtain⟨hp,g,d,tk,os⟩:=s;obtain⟨q1,q2,h⟩:=h;have hsub:=sub_zip
  cases k1 with
  | true =>
   have w1:Heap.IsList (Shared.heap ⟨hp,g,d,tk,os⟩) a xs:=q1
   cases k2 with
   | true =>
    have w2:Heap.IsList (Shared.heap ⟨hp.push { cls:=.type "list_iterator",data:=.fields #[.ref a,.int 0 0] },g,d,tk,os⟩) b ys:=Heap.IsList.push q2 _;wp_walk using wpAny_pyIter_list w1,wpAny_pyIter_list w2;exact⟨_,rfl,h⟩
   | false =>
    have w2:Heap.IsTuple (Shared.heap ⟨hp.push { cls:=.type "list_iterator",data:=.fields #[.ref a,.int 0 0] },g,d,tk,os⟩) b ys:=mh q2 _;wp_walk using wpAny_pyIter_list w1,wpAny_pyIter_tuple w2;exact⟨_,rfl,h⟩
  | false =>
   have w1:Heap.IsTuple (Shared.heap ⟨hp,g,d,tk,os⟩) a xs:=q1
   cases k2 with
   | true =>
    have w2:Heap.IsList (Shared.heap ⟨hp.push { cls:=.type "tuple_iterator",data:=.fields #[.ref a,.int 0 0] },g,d,tk,os⟩) b ys:=Heap.IsList.push q2 _;wp_walk using wpAny_pyIter_tuple w1,wpAny_pyIter_list w2;exact⟨_,rfl,h⟩
   | false =>
    have w2:Heap.IsTuple (Shared.heap ⟨hp.push { cls:=.type "tuple_iterator",data:=.fields #[.ref a,.int 0 0] },g,d,tk,os⟩) b ys:=mh q2 _;wp_walk using wpAny_pyIter_tuple w1,wpAny_pyIter_tuple w2;exact⟨_,rfl,h⟩
theorem zk{k:Bool}{h:Heap}{it a:Addr}(e:h.get? it=some { cls:=.type (FE k),data:=.fields #[.ref a,.int 0 0] }):gg k h it a 0:=by
 cases k with
 | true=>exact⟨_,e,rfl,rfl⟩
 | false=>exact⟨_,e,rfl,rfl⟩
section
variable {prog:Program} {w:World} {A:Around} {E:Value->Shared->Prop} {s:Shared}
theorem qP{k1 k2:Bool}{a b:Addr}{xs ys:Array Value}{Q:Value->Shared->Prop}(h1:gi k1 s.heap a xs)(h2:gi k2 s.heap b ys)
  (h:∀ h',IsZip h' (s.heap.objs.size+4) (s.heap.objs.size+2) (s.heap.objs.size+3) .none->IsPair h' (s.heap.objs.size+2) (.ref s.heap.objs.size) (.ref (s.heap.objs.size+1))->IsPair h' (s.heap.objs.size+3) .none .none ->
   gg k1 h' s.heap.objs.size a 0->gg k2 h' (s.heap.objs.size+1) b 0->(∀ c o,s.heap.get? c=some o->h'.get? c=some o)->Q (.ref (s.heap.objs.size+4)) { s with heap:=h' }) :
  wpAny (model prog w) A (call (.type "zip") [.ref a,.ref b]) Q E s:=by
 refine callType_new F.called_zip (by decide) (F.typeCall_zip_2 _ _) (F.newCall_zip_2 _ _) (fun obj=>F.args_object_init_3 obj _ _) F.entry_zip_new (mU k1 k2 a b xs ys) ⟨h1,h2,?_⟩
 have e1:(EU s.heap k1 a).objs.size=s.heap.objs.size+1:=Heap.size_push ..;have e2:(Fh s.heap k1 k2 a b).objs.size=s.heap.objs.size+2:=by rw[Heap.size_push,e1]
 have e3:(Fj s.heap k1 k2 a b).objs.size=s.heap.objs.size+3:=by rw[Heap.size_push,e2]
 have e4:(Fb s.heap k1 k2 a b).objs.size=s.heap.objs.size+4:=by rw[Heap.size_push,e3]
 have p5:(CC s.heap k1 k2 a b).get? (Fb s.heap k1 k2 a b).objs.size=some _:=Heap.get?_push_size _ rfl;have p4:(CC s.heap k1 k2 a b).get? (Fj s.heap k1 k2 a b).objs.size=some _:=Heap.get?_push_of_some _ (Heap.get?_push_size _ rfl);have p3:(CC s.heap k1 k2 a b).get? (Fh s.heap k1 k2 a b).objs.size=some _:=Heap.get?_push_of_some _ (Heap.get?_push_of_some _ (Heap.get?_push_size _ rfl));have p2:(CC s.heap k1 k2 a b).get? (EU s.heap k1 a).objs.size=some _:=Heap.get?_push_of_some _ (Heap.get?_push_of_some _ (Heap.get?_push_of_some _ (Heap.get?_push_size _ rfl)));have p1:(CC s.heap k1 k2 a b).get? s.heap.objs.size=some _:=Heap.get?_push_of_some _ (Heap.get?_push_of_some _ (Heap.get?_push_of_some _ (Heap.get?_push_of_some _ (Heap.get?_push_size _ rfl))));show _/\_;rw[e2,e3,e4] at p5;rw[e1,e2] at p3;rw[e3] at p4;rw[e1] at p2;rw[e4];exact⟨⟨_,p5,rfl⟩,h _ p5 p3 p4 (zk p1) (zk p2) fun c o x=>Heap.get?_push_of_some _ (Heap.get?_push_of_some _ (Heap.get?_push_of_some _ (Heap.get?_push_of_some _ (Heap.get?_push_of_some _ x))))⟩
end
theorem sj{P:Program}{w:World}{K:PySem.W.Frag}{es:List Expr}{tk:Nat}{tp:Pos}(k1 k2:Bool)(a b z TI TO i1 i2:Addr)(D:ZA z TI TO i1 i2 a b):
  Turn P w K (.Tuple es tk tp) (AU K k1 k2 a b) [z,TI,TO,i1,i2] z (fun i h=>IsZip h z TI TO .none/\IsPair h TI (.ref i1) (.ref i2)/\(∃ x y,IsPair h TO x y)/\gg k1 h i1 a i/\gg k2 h i2 b i) where
 mem:=by simp
 obj:=fun i h st c hc=>by
  obtain⟨s1,s2,⟨x,y,s3⟩,s4,s5⟩:=st;simp only[List.mem_cons,List.not_mem_nil,or_false] at hc;rcases hc with rfl | rfl | rfl | rfl | rfl
  ·exact⟨_,s1,fun v q=>by cases q⟩
  ·exact⟨_,s2,fun v q=>by cases q⟩
  ·exact⟨_,s3,fun v q=>by cases q⟩
  ·obtain⟨o,e,_,d⟩:=s4.ty;exact⟨o,e,fun v q=>by rw[d] at q;cases q⟩
  ·obtain⟨o,e,_,d⟩:=s5.ty;exact⟨o,e,fun v q=>by rw[d] at q;cases q⟩
 keep:=fun i h h' st k=>by
  obtain⟨s1,s2,⟨x,y,s3⟩,s4,s5⟩:=st;refine⟨k z (by simp) _ s1,k TI (by simp) _ s2,⟨x,y,k TO (by simp) _ s3⟩,?_,?_⟩
  ·cases k1 with
   | true=>obtain⟨o,e,r⟩:=(show h.IsListIter i1 a i from s4);exact⟨o,k i1 (by simp) o e,r⟩
   | false=>obtain⟨o,e,r⟩:=(show h.IsTupleIter i1 a i from s4);exact⟨o,k i1 (by simp) o e,r⟩
  ·cases k2 with
   | true=>obtain⟨o,e,r⟩:=(show h.IsListIter i2 b i from s5);exact⟨o,k i2 (by simp) o e,r⟩
   | false=>obtain⟨o,e,r⟩:=(show h.IsTupleIter i2 b i from s5);exact⟨o,k i2 (by simp) o e,r⟩
 item:=by
  intro X hP hw hK hc i pins s σ H E I hf st hg;subst hP hw hK;obtain⟨xs,ys,x,y,q1,q2,ex,ey⟩:=hg;obtain⟨s1,s2,⟨x0,y0,s3⟩,s4,s5⟩:=st;obtain⟨its1,rv1,p1⟩:=I.rY q1;obtain⟨its2,rv2,p2⟩:=I.rY q2;obtain⟨u1,hu1,ru1⟩:=rv1.get ex;obtain⟨u2,hu2,ru2⟩:=rv2.get ey;have lt1:i < its1.toArray.size:=by have:=(List.getElem?_eq_some_iff.mp hu1).1;simpa using this
  have lt2:i < its2.toArray.size:=by have:=(List.getElem?_eq_some_iff.mp hu2).1;simpa using this
  have hT:s.TypeIs (.ref z) "zip":=⟨_,s1,rfl⟩;have D1:=gD (prog:=X.prog) (w:=X.w) (A:=X.A.in1) k1 (I.ok.hd hc) i1 a D.a8.2.2.1 its1.toArray;have D2:=gD (prog:=X.prog) (w:=X.w) (A:=X.A.in1) k2 (I.ok.hd hc) i2 b D.a9.2.2.2 its2.toArray;unfold pyNext;refine wpAny_bind (wpAny_attempt (wpAny_callSpecial?_slot (name:=Str.ofString "__next__") hT PySem.F.slot_zip_next (wpAny_call_entry PySem.F.slot_zip_next hT PySem.F.entry_zip_next
   (rV D D1 D2 s1 s2 s3 ⟨s4,p1⟩ ⟨s5,p2⟩ lt1 lt2 fun v1 v2 h' tk' px py z1 t1 w1 w2 pr kp=>wpAny_pure ?_) (PySem.F.args_zip_next_1 _))))
  have fr:H s.heap.objs.size=none:=I.aS.fresh (Nat.le_refl _);have ev1:v1=u1:=by rw[List.getElem?_toArray,hu1] at px;exact (Option.some.inj px).symm
  have ev2:v2=u2:=by rw[List.getElem?_toArray,hu2] at py;exact (Option.some.inj py).symm
  subst ev1 ev2;have lt:∀ {c o},s.heap.get? c=some o->s.heap.objs.size≠c:=fun e=>Nat.ne_of_gt (Heap.lt_size e);refine⟨.ref s.heap.objs.size,rfl,wpAny_letOwnedTupleGo_zip z1 fun h2 z2 sb2=>?_⟩;have pr2:IsPair h2 s.heap.objs.size v1 v2:=sb2.extBut _ _ (lt s1) pr;have I2:Inv X pins σ (upd H s.heap.objs.size (.tup [x,y])) { s with heap:=h2,toks:=tk' }:=by
   refine I.p9 (fp:=[z,TI,TO,i1,i2]) hf (Nat.le_refl _) (fun c o hcm ec=>?_) ⟨by show 2<=sizeLine;decide,[v1,v2],.cons ru1 (.cons ru2 .nil),⟨_,pr2,rfl,_,rfl,rfl⟩⟩
   simp only[List.mem_cons,List.not_mem_nil,or_false,not_or] at hcm;exact sb2.extBut _ _ hcm.1 (kp c o hcm.1 hcm.2.2.1 hcm.2.2.2.1 hcm.2.2.2.2 ec)
  refine⟨.ref s.heap.objs.size,_,I2,rfl,⟨s.heap.objs.size,x,y,fun zs hz=>by rw[I.lL hz q1];exact ex,fun zs hz=>by rw[I.lL hz q2];exact ey,fr,rfl,rfl⟩,⟨z2,?_,⟨v1,v2,?_⟩,?_,?_⟩,fun c hcm=>?_⟩
  ·exact sb2.extBut _ _ D.a1 (kp _ _ D.a1 D.b1.1 D.b1.2.1 D.b1.2.2 s2)
  ·exact sb2.extBut _ _ D.a2 t1
  ·have:=D1.frame (i+1) h' h2 w1 fun c hcm o q=>sb2.extBut _ _ (D.f1 (.inl rfl) c hcm) q;exact this.1
  ·have:=D2.frame (i+1) h' h2 w2 fun c hcm o q=>sb2.extBut _ _ (D.f2 (.inl rfl) c hcm) q;exact this.1
  ·have hn:=(hf c hcm).1;rw[ae]
   ·exact hn
   ·simp only[List.mem_cons,List.not_mem_nil,or_false] at hcm;rcases hcm with rfl | rfl | rfl | rfl | rfl
    ·exact (lt s1).symm
    ·exact (lt s2).symm
    ·exact (lt s3).symm
    ·obtain⟨o,e,_⟩:=s4.ty;exact (lt e).symm
    ·obtain⟨o,e,_⟩:=s5.ty;exact (lt e).symm
 done:=by
  intro X hP hw hK hc i pins s σ H E I hf st hg;subst hP hw hK;obtain⟨xs,ys,q1,q2,hi⟩:=hg;obtain⟨s1,s2,⟨x0,y0,s3⟩,s4,s5⟩:=st;obtain⟨its1,rv1,p1⟩:=I.rY q1;obtain⟨its2,rv2,p2⟩:=I.rY q2;have n1:its1.toArray.size=xs.length:=by rw[List.size_toArray];exact rv1.length.symm
  have n2:its2.toArray.size=ys.length:=by rw[List.size_toArray];exact rv2.length.symm
  have hT:s.TypeIs (.ref z) "zip":=⟨_,s1,rfl⟩;have D1:=gD (prog:=X.prog) (w:=X.w) (A:=X.A.in1) k1 (I.ok.hd hc) i1 a D.a8.2.2.1 its1.toArray;have D2:=gD (prog:=X.prog) (w:=X.w) (A:=X.A.in1) k2 (I.ok.hd hc) i2 b D.a9.2.2.2 its2.toArray;unfold pyNext;refine wpAny_bind (wpAny_attempt (wpAny_callSpecial?_slot (name:=Str.ofString "__next__") hT PySem.F.slot_zip_next (wpAny_call_entry PySem.F.slot_zip_next hT PySem.F.entry_zip_next
   (ud D D1 D2 s1 s2 s3 ⟨s4,p1⟩ ⟨s5,p2⟩ (by rw[n1,n2];lia) fun h' e tk' kp he=>?_) (PySem.F.args_zip_next_1 _))))
  obtain⟨o,ho,hcl⟩:=he;refine wpAny_bind (wpAny_isInstance (T:="StopIteration") (b:=true) ⟨o,ho,hcl⟩ isSubtype_stop (wpAny_pure ⟨rfl,?_⟩));refine I.turns (t':=tk') hf fun c o hcm ec=>?_;simp only[List.mem_cons,List.not_mem_nil,or_false,not_or] at hcm;exact kp c o hcm.1 hcm.2.2.1 hcm.2.2.2.1 hcm.2.2.2.2 ec
 self:=fun A i s Q E st h=>wpAny_pyIter_zip st.1 h
section
variable {X:Cx} {es:List Expr} {tk:Nat} {tp:Pos}
def CZ(K:PySem.W.Frag)(ta:TA):TI:=fun σ H R=>ta σ H fun vs H1=>∃ a b k1 k2,vs=[.ref a,.ref b]/\(∃ xs,pQ K k1 H1 a xs)/\(∃ ys,pQ K k2 H1 b ys)/\R (AU K k1 k2 a b) H1
theorem xp{e1 e2:Expr}{ta:TA}{p pos:Pos}(hg:Gl X "zip")(hm:X.mg "zip"=none)(ha:PA X [e1,e2] ta)(h1:cx e1=true:=by rfl)(h2:cx e2=true:=by rfl)(hv:bootBuiltins "zip"=some (.type "zip"):=by decide +kernel):
  PI X (.Tuple es tk tp) (.Call (.Name "zip" p) [e1,e2] [] pos) (CZ X.K ta):=by
 intro pins s σ H R I h;refine Call_ (eN I hg hm hv (PyProof.Rows.callWith_type1 (bJ (ha pos pins s σ H _ I h) fun us s1 ⟨vs,H1,I1,r1,q1⟩=>?_) (by rw[cf h1,cf h2]) (by rw[cf h2];rfl)))
 obtain⟨a,b,k1,k2,e,⟨xs,hx⟩,⟨ys,hy⟩,q⟩:=q1;subst e;obtain⟨u,w',rfl,ru,rw'⟩:=vals2 r1
 cases ru;cases rw'
 obtain⟨its1,rv1,p1⟩:=I1.rY hx;obtain⟨its2,rv2,p2⟩:=I1.rY hy;obtain⟨o1,eo1,_⟩:=p1.ty;obtain⟨o2,eo2,_⟩:=p2.ty;have l1:a < s1.heap.objs.size:=Heap.lt_size eo1;have l2:b < s1.heap.objs.size:=Heap.lt_size eo2;refine qP p1 p2 fun h' z1 z2 z3 z4 z5 kp=>wpAny_pyIter_zip z1 ?_;have I2:Inv X pins σ H1 { s1 with heap:=h' }:=I1.kept (t':=s1.toks) kp
 have ne:∀ (m n c:Nat),m≠n->c+m≠c+n:=fun m n c h=>by lia
 have nl:∀ (x c m:Nat),x < c->x≠c+m:=fun x c m h=>by lia
 have D:ZA (s1.heap.objs.size+4) (s1.heap.objs.size+2) (s1.heap.objs.size+3) s1.heap.objs.size (s1.heap.objs.size+1) a b:=
  ⟨ne 2 4 _ (by decide),ne 3 4 _ (by decide),ne 0 4 _ (by decide),ne 1 4 _ (by decide),ne 3 0 _ (by decide),ne 3 1 _ (by decide),ne 0 1 _ (by decide),⟨nl _ _ 4 l1,nl _ _ 3 l1,nl _ _ 0 l1,nl _ _ 1 l1⟩,⟨nl _ _ 4 l2,nl _ _ 3 l2,nl _ _ 0 l2,nl _ _ 1 l2⟩,ne 2 3 _ (by decide),ne 2 0 _ (by decide),ne 2 1 _ (by decide)⟩
 refine⟨s1.heap.objs.size+4,[s1.heap.objs.size+4,s1.heap.objs.size+2,s1.heap.objs.size+3,s1.heap.objs.size,s1.heap.objs.size+1],_,_,H1,rfl,I2,sj k1 k2 a b _ _ _ _ _ D,⟨z1,z2,⟨_,_,z3⟩,z4,z5⟩,fun c hc=>?_,q⟩;have hc':s1.heap.objs.size<=c:=by
  simp only[List.mem_cons,List.not_mem_nil,or_false] at hc;rcases hc with rfl | rfl | rfl | rfl | rfl
  ·exact Nat.le_add_right _ _
  ·exact Nat.le_add_right _ _
  ·exact Nat.le_add_right _ _
  ·exact Nat.le_refl _
  ·exact Nat.le_add_right _ _
 exact I1.uY hc' (I1.aS.fresh hc')
end
def kT(ts us:List T):List T:=List.zipWith (fun t u=>.tup [t,u]) ts us
def lb:T->Option (List T)
 | .lst ts=>some ts
 | .tup ts=>some ts
 | .d7 ts=>some ts
 | .gm ts=>some ts
 | _=>none
def kdOf:T->Bool
 | .lst _=>true
 | .d7 _=>true
 | _=>false
theorem Vw.sq{K:PySem.W.Frag}{H:Hp}{B:aJ}{v:V}{t:T}{ts:List T}(h:Vw K H B v t)(e:lb t=some ts):∃ a vs,v=.ref a/\pQ K (kdOf t) H a vs/\af K H B vs ts:=by
 cases h with
 | aI=>cases e
 | bl=>cases e
 | int=>cases e
 | str=>cases e
 | dk=>cases e
 | mO=>cases e
 | exc=>cases e
 | BO=>cases e
 | tup h r=>cases e;exact⟨_,_,rfl,b6.of h,r⟩
 | gm h r=>cases e;exact⟨_,_,rfl,.inr h,r⟩
 | lst h r=>cases e;exact⟨_,_,rfl,bB.of h,r⟩
 | d7 h r=>cases e;exact⟨_,_,rfl,h,r⟩
theorem Ag{K:PySem.W.Frag}{k1 k2:Bool}{a b:Addr}{ts us:List T}:h9 K (AU K k1 k2 a b) (fun H B=>(∃ vs,pQ K k1 H a vs/\af K H B vs ts)/\∃ ws,pQ K k2 H b ws/\af K H B ws us) (kT ts us):=by
 refine⟨fun H B i t hb ⟨⟨vs,h1,r1⟩,ws,h2,r2⟩ e=>?_,fun H B ⟨⟨vs,h1,r1⟩,ws,h2,r2⟩=>⟨vs,ws,h1,h2,by rw[r1.length,r2.length];simp[kT]⟩⟩
 unfold kT at e;rw[List.getElem?_zipWith] at e
 cases e1:ts[i]? with
 | none=>rw[e1] at e;cases e
 | some t1=>cases e2:us[i]? with
  | none=>rw[e1,e2] at e;cases e
  | some t2 =>
   rw[e1,e2] at e;have e':T.tup [t1,t2]=t:=Option.some.inj e;subst e';obtain⟨v1,g1,rv1⟩:=r1.get e1;obtain⟨v2,g2,rv2⟩:=r2.get e2;refine⟨⟨vs,ws,v1,v2,h1,h2,g1,g2⟩,fun x H2 y=>?_⟩;obtain⟨p,x',y',hx,hy,hp,rfl,rfl⟩:=y;have z1:=hx vs h1;have z2:=hy ws h2;rw[g1] at z1;rw[g2] at z2
   cases z1;cases z2
   have fs:Fr B H B (upd H p (.tup [v1,v2])):=Fr.same (bC.new hp);refine⟨bC.new hp,.tup (fun z=>?_) aj (.cons (rv1.fr fs) (.cons (rv2.fr fs) .nil))⟩;obtain⟨o,q⟩:=hb p z;rw[hp] at q;cases q
namespace Y
section
variable {X:Cx} {e1 e2:Expr} {es:List Expr} {us:UA} {pos p tp:Pos} {k:Nat}
def iZ(us:UA):UI:=fun μ Rt=>us μ fun rs μ'=>match rs with
 | [.tr t1,.tr t2]=>(match lb t1,lb t2 with
  | some ts,some vs=>Rt (kT ts vs) none μ'
  | _,_=>False)
 | _=>False
theorem zip(K:PySem.W.Frag)(hK:X.K=K)(hg:Gl X "zip")(hm:X.mg "zip"=none)(ha:YA X [e1,e2] us)(h1:cx e1=true:=by rfl)(h2:cx e2=true:=by rfl):YI X (.Tuple es k tp) (.Call (.Name "zip" p) [e1,e2] [] pos) (iZ us):=by
 obtain⟨t,q,r⟩:=ha;subst hK;refine⟨_,⟨xp hg hm q.h h1 h2⟩,fun F ad B σ H μ R Rt hF l q k=>r F ad B σ H μ _ _ hF l q fun vs H' rs μ' l1 ps f k1 q1=>?_⟩
 split at q1
 ·rename_i t1 t2
  cases ps with
  | cons h1 ps=>cases ps with
   | cons h2 ps =>
    cases ps;have r1:=aW h1;have r2:=aW h2
    split at q1
    ·rename_i ts us e1 e2;obtain⟨a,vs,rfl,s1,_⟩:=Vw.sq r1.vw e1;obtain⟨b,ws,rfl,s2,_⟩:=Vw.sq r2.vw e2;rw[hF] at s1 s2;refine⟨a,b,kdOf t1,kdOf t2,rfl,⟨vs,s1⟩,⟨ws,s2⟩,k _ H' μ' _ none (fun H B=>Rep F.K H B (.ref a) t1/\Rep F.K H B (.ref b) t2) l1 f k1 (Ag.imp fun H B h=>?_) ⟨r1,r2⟩ (fun B1 H1 B2 H2 f h=>⟨h.1.fr f,h.2.fr f⟩) (fun j ls z=>by cases z) q1⟩
     obtain⟨g1,g2⟩:=h;obtain⟨a',vs',ea,sa,ra⟩:=Vw.sq g1.vw e1;obtain⟨b',ws',eb,sb,rb⟩:=Vw.sq g2.vw e2
     cases ea;cases eb
     rw[hF] at sa sb ra rb;exact⟨⟨vs',sa,ra⟩,ws',sb,rb⟩
    ·exact q1.elim
 ·exact q1.elim
end
end Y
theorem xT{P:Program}{w:World}{K:PySem.W.Frag}{mg:Str->Option Value}{base:Heap}{x:Str}{st:Stmt}{N ps:List Str}{k:Nat}{tsp:fL}{fa:Addr}{fd:FuncData}(F:wV K x x st fa fd)(S:ax N ps (aa st))(md:List Bool)(hm:md.length=ps.length)(hN:md.length<=N.length)
  (hbody:∀ (args:List T) (Qt:R->List T->Prop),args.length=ps.length->tsp args Qt->∀ (cdv:Value) (A:Around) (outer:List Env) (s:Shared) (H:Hp) (E:XK),bo k (A.deeper (envOfC x (aa st) s.heap.objs.size fa cdv)) ->
   ∃ us,YB (fk cw P w K mg base N x (aa st) fa cdv A outer s H E).yD (ao st) us/\us (wR md Qt) (startM md args N.length)):dg P w K mg base cw (k+1) fa fd ps (spT K md tsp):=by
 refine yG F S (fun vs H Q E h=>?_) (fun cdv A outer s H vs Q E hr h=>?_)
 ·obtain⟨B,args,Qt,ag,_⟩:=h;rw[ag.len.1,hm]
 ·obtain⟨B,args,Qt,ag,bh,nd,ht,fin⟩:=h;obtain⟨us,⟨t,q,r⟩,hu⟩:=hbody args Qt (by rw[ag.len.2,hm]) ht cdv A outer s H E hr
  refine⟨t,q,?_⟩;have l0:=i7 (N:=N) ag bh nd hN;have outs:∀ ad' B' σ' H' μ' (B2:aJ),Rl (iX K H md vs B bh) ad' B' σ' H' μ'->(∀ b,B2 b->B' b)->Paired (Bx K H' B2) (iY md vs) (bN md 0 μ'):=fun ad' B' σ' H' μ' B2 l hB=>by
   refine kQ (ag.len.1) fun n e=>?_;obtain⟨v,t',e1,e2,q⟩:=ag.get e;rw[if_pos rfl] at q;obtain⟨a,rfl,_⟩:=q;obtain⟨⟨c,hc⟩,ha⟩:=l.par n a (jP e e1);have sl:=l.slot n _ hc;refine⟨a,c,e1,by rw[Nat.zero_add];exact hc,?_⟩
   rw[<- ha];exact (sl.2.2.2).of rfl (Fr.less hB)
  have keep:∀ ad' B' σ' H' μ',Rl (iX K H md vs B bh) ad' B' σ' H' μ'->∀ b o,H b=some o->b∉iY md vs->H' b=some o:=fun ad' B' σ' H' μ' l b o e n=>l.old b o e fun i z=>n (eA (eJ z).1 (eJ z).2);refine r (iX K H md vs B bh) _ _ (kv vs) B (start N vs) H _ rfl l0 hu ⟨fun ad' B' σ' H' μ' l _ q=>?_,fun ad' B' σ' H' μ' v rr h q=>?_,fun _ _ _ _ _ _ _ z=>z.elim,fun _ _ _ _ _ _ _ z=>z.elim⟩
  ·exact fin .aI H' (.tr .aI) _ q (keep _ _ _ _ _ l) ⟨.aI,outs _ _ _ _ _ _ l l.bc⟩
  ·cases rr with
   | tr t=>exact fin v H' (.tr t) _ q (keep _ _ _ _ _ h.1) ⟨(show Rep K H' B' v t from h.2).fr (Fr.less h.1.bc),outs _ _ _ _ _ _ h.1 h.1.bc⟩
   | fr c =>
    obtain⟨l,a,rfl,n,h0,l2,x⟩:=h;have sub:∀ b,more B a b->more B' a b:=fun b z=>z.imp id (l.bc b);exact fin _ H' (.fr c) _ q (keep _ _ _ _ _ l) ⟨a,rfl,h0,fun z=>n (l.bc a z),x.of rfl (Fr.less sub),outs _ _ _ _ _ _ l2 sub⟩
   | br i =>
    have q':(match μ'[i]? with | some (.bx c)=>Qt (.fr c) (bN md 0 μ') | _=>False):=q
    obtain⟨l,rfl,s',c',e1,e2⟩:=h
    split at q'
    ·rename_i c ec;have sl:=l.slot i _ ec;have sub:∀ b,more B (ad' i) b->B' b:=fun b z=>z.elim (fun z=>by rw[z];exact sl.2.1) (l.bc b)
     refine fin _ H' (.fr c) _ q' (keep _ _ _ _ _ l) ⟨ad' i,rfl,sl.2.2.1,fun z=>?_,(sl.2.2.2.2).of rfl (Fr.less sub),outs _ _ _ _ _ _ l sub⟩;obtain⟨o,e⟩:=bh _ z;have:H (ad' i)=none:=sl.2.2.1;rw[this] at e;cases e
    ·exact q'.elim
namespace Y
section
variable {X:Cx} {es:List Expr} {pos:Pos} {x:Str}
def oM:List V->Option (List T)
 | []=>some []
 | v::vs=>match wz v,oM vs with
  | some t,some ts=>some (t::ts)
  | _,_=>none
theorem jn:∀ {vs:List V} {ts:List T},oM vs=some ts->vs.map wz=ts.map some
 | [],ts,h=>by cases h;rfl
 | v::vs,ts,h=>by
  unfold oM at h
  split at h
  ·rename_i t us e1 e2;cases h;rw[List.map_cons,List.map_cons,e1,jn e2]
  ·cases h
theorem oI{vs:List V}{ts:List T}(h:j9 es=some vs)(h2:oM vs=some ts):YA X es (uK ts):=consts h (jn h2)
end
end Y
theorem dF{u w:US}{E:Ed}{μ:Mu}(h:∀ N,N=w E->u { E with nx:=N } μ):Y.BC u w E μ:=h _ rfl
def stp(o:Option (Prop×R))(Q:R->Prop):Prop:=match o with
 | some (C,r)=>C/\Q r
 | none=>False
theorem vb(C:Prop)(r:R)(Q:R->Prop):stp (some (C,r)) Q=(C/\Q r):=rfl
def CL(o:Option (List T×Option (Nat×List T)))(Q:List T->Option (Nat×List T)->Prop):Prop:=match o with
 | some (ts,g)=>Q ts g
 | none=>False
def nb:Option Sl->Prop
 | some (.pb _)=>False
 | _=>True
def sl:Option T->Sl
 | none=>.un
 | some t=>.tr t
def Ai(o:Option Sl)(i:Nat):Option (Prop×R):=match o with
 | some (.tr t)=>some (True,.tr t)
 | some (.bx _)=>some (True,.br i)
 | some (.pb _)=>some (True,.br i)
 | _=>none
def vQ:R->Option Bool
 | .tr (.bl b)=>some b
 | .tr (.int i)=>some (i != 0)
 | _=>none
def AJ(a b:Option T):Option (Prop×R):=match a,b with
 | some (.int i),some (.int j)=>some (True,.tr (.int (i+j)))
 | some (.str i),some (.str j)=>some (i.length+j.length<=sizeLine,.tr (.str (i++j)))
 | some (.lst xs),some (.lst ys)=>some (xs.length+ys.length<=sizeLine,.fr (.lst (xs++ys)))
 | some (.tup xs),some (.tup ys)=>some (xs.length+ys.length<=sizeLine,.tr (.tup (xs++ys)))
 | _,_=>none
def oT(o:Option T):Option (Prop×R):=match o with
 | some t=>some (True,.tr t)
 | none=>none
def FI(a b:Option T):Option (Prop×R):=match a,b with
 | some (.lst xs),some (.int i)=>oT (bV xs i)
 | some (.tup xs),some (.int i)=>oT (bV xs i)
 | some (.gm xs),some (.int i)=>oT (bV xs i)
 | some (.str z),some (.int i)=>(match bV z.cps.toList i with | some c=>some (z.length<=sizeLine,.tr (.str ⟨#[c]⟩)) | none=>none)
 | _,_=>none
def DS(a:T):Option (Prop×R):=match a with
 | .lst xs=>some (True,.tr (.int xs.length))
 | .tup xs=>some (True,.tr (.int xs.length))
 | .d7 xs=>some (True,.tr (.int xs.length))
 | .gm xs=>some (True,.tr (.int xs.length))
 | .str z=>some (z.length<=sizeLine,.tr (.int z.length))
 | _=>none
def n5(a:Option T):Option (Prop×R):=match a with
 | some (.lst xs)=>some (True,.tr (.tup xs))
 | some (.tup xs)=>some (True,.tr (.tup xs))
 | _=>none
def yY(a:T):Option (Prop×R):=match a with
 | .lst xs=>some (True,.fr (.lst xs))
 | .tup xs=>some (True,.fr (.lst xs))
 | .d7 xs=>some (True,.fr (.lst xs))
 | .dk lo hi=>some ((hi - lo).toNat<=65536/\-(2 ^ 62)<=lo/\lo < 2 ^ 62/\-(2 ^ 62)<=hi/\hi < 2 ^ 62,.fr (.lst ((List.range (hi - lo).toNat).map fun k=>T.int (lo+(k:Nat)))))
 | _=>none
def tT(a:Option T):Option (List T):=match a with
 | some (.tup ts)=>some ts
 | some (.lst ts)=>some ts
 | _=>none
def Cp(r:R)(μ:Mu):Option (List T×Option (Nat×List T)):=match r with
 | .br j=>(match cont μ (.br j) with | some (.lst ts)=>some (ts,some (j,ts)) | _=>none)
 | .tr (.lst ts)=>some (ts,none)
 | .fr (.lst ts)=>some (ts,none)
 | .tr (.tup ts)=>some (ts,none)
 | .tr (.d7 ts)=>some (ts,none)
 | .tr (.gm ts)=>some (ts,none)
 | _=>none
namespace A
open Y
theorem uC(t:T)(μ:Mu)(Q:R->Mu->Prop):Y.uC t μ Q=Q (.tr t) μ:=rfl
theorem kC(i:Nat)(μ:Mu)(Q:R->Mu->Prop):Y.kC i μ Q=stp (Ai μ[i]? i) fun r=>Q r μ:=by
 unfold Y.kC Ai
 cases μ[i]? with
 | none=>rfl
 | some s=>cases s<;>exact propext ⟨fun h=>by first | exact h | exact⟨trivial,h⟩,fun h=>by first | exact h | exact h.2⟩
theorem zw(u:U2)(ua ub:UE)(μ:Mu)(Q:R->Mu->Prop):Y.zw u ua ub μ Q=ua μ fun r1 μ1=>ub μ1 fun r2 μ2=>u r1.d r2.d μ2 Q:=rfl
theorem mE(ue:UE)(μ:Mu)(Q:Bool->Mu->Prop):Y.mE ue μ Q=ue μ fun r μ'=>match r with | .tr (.bl b)=>Q b μ' | _=>False:=rfl
theorem yN(ut:UT)(μ:Mu)(Q:Bool->Mu->Prop):Y.yN ut μ Q=ut μ fun b μ'=>Q (!b) μ':=rfl
theorem vJ(u w:UT)(μ:Mu)(Q:Bool->Mu->Prop):Y.vJ u w μ Q=u μ fun b μ'=>if b=true then w μ' Q else Q false μ':=rfl
theorem Dl(u w:UT)(μ:Mu)(Q:Bool->Mu->Prop):Y.Dl u w μ Q=u μ fun b μ'=>if b=true then Q true μ' else w μ' Q:=rfl
theorem lX(ue:UE)(μ:Mu)(Q:Bool->Mu->Prop):Y.lX ue μ Q=ue μ fun r μ'=>match vQ r with | some b=>Q b μ' | none=>False:=by
 unfold Y.lX vQ;congr 1
 funext r μ'
 cases r with
 | tr t=>cases t<;>rfl
 | br i=>rfl
 | fr c=>rfl
theorem pG(ue:UE)(μ:Mu)(Q:R->Mu->Prop):Y.pG ue μ Q=ue μ fun r μ'=>match r with | .tr (.bl b)=>Q (.tr (.bl (!b))) μ' | _=>False:=rfl
theorem xt(ue:UE)(μ:Mu)(Q:R->Mu->Prop):Y.xt ue μ Q=ue μ fun r μ'=>match r with | .tr (.int i)=>Q (.tr (.int (-i))) μ' | _=>False:=rfl
theorem xZ(μ:Mu)(Q:List R->Mu->Prop):Y.xZ μ Q=Q [] μ:=rfl
theorem qr(ue:UE)(us:UA)(μ:Mu)(Q:List R->Mu->Prop):Y.qr ue us μ Q=ue μ fun r μ1=>us μ1 fun rs μ2=>Q (r.d::rs) μ2:=rfl
theorem uK(ts:List T)(μ:Mu)(Q:List R->Mu->Prop):Y.uK ts μ Q=Q (ts.map R.tr) μ:=rfl
theorem yk(us:UA)(μ:Mu)(Q:R->Mu->Prop):Y.yk us μ Q=us μ fun rs μ'=>match trees rs with | some ts=>ts.length<=sizeLine/\Q (.tr (.tup ts)) μ' | none=>False:=rfl
theorem xF(us:UA)(μ:Mu)(Q:R->Mu->Prop):Y.xF us μ Q=us μ fun rs μ'=>match trees rs with | some ts=>ts.length<=sizeLine/\Q (.fr (.lst ts)) μ' | none=>False:=rfl
theorem zV(u:UC)(us:UA)(μ:Mu)(Q:R->Mu->Prop):Y.zV u us μ Q=us μ fun rs μ'=>u rs μ' Q:=rfl
theorem gH(μ:Mu)(Q:Option Int->Mu->Prop):Y.gH μ Q=Q none μ:=rfl
theorem p8(ue:UE)(μ:Mu)(Q:Option Int->Mu->Prop):Y.p8 ue μ Q=ue μ fun r μ'=>match r with | .tr (.int i)=>Q (some i) μ' | _=>False:=rfl
theorem pR(f:T->T->Mu->(R->Mu->Prop)->Prop)(r1 r2:R)(μ:Mu)(Q:R->Mu->Prop):Y.pR f r1 r2 μ Q=(match cont μ r1,cont μ r2 with | some t,some u=>f t u μ Q | _,_=>False):=rfl
theorem CP(C:Int->Int->Prop)(g:Int->Int->Int)(i j:Int)(μ:Mu)(Q:R->Mu->Prop):uW C g (.int i) (.int j) μ Q=(C i j/\Q (.tr (.int (g i j))) μ):=rfl
theorem Fv(g:Int->Int->Bool)(i j:Int)(μ:Mu)(Q:R->Mu->Prop):GG g (.int i) (.int j) μ Q=Q (.tr (.bl (g i j))) μ:=rfl
theorem iU(r1 r2:R)(μ:Mu)(Q:R->Mu->Prop):Y.iU r1 r2 μ Q=stp (AJ (cont μ r1) (cont μ r2)) fun r=>Q r μ:=by
 unfold Y.iU AJ
 cases cont μ r1 with
 | none=>rfl
 | some t=>cases cont μ r2 with
  | none=>cases t<;>rfl
  | some u=>cases t<;>cases u<;>first | rfl | exact propext ⟨fun h=>⟨trivial,h⟩,fun h=>h.2⟩
theorem nQ(r1 r2:R)(μ:Mu)(Q:R->Mu->Prop):Y.nQ r1 r2 μ Q=stp (FI (cont μ r1) (cont μ r2)) fun r=>Q r μ:=by
 unfold Y.nQ FI;have e:∀ (xs:List T) (i:Int),(match bV xs i with | some t=>Q (.tr t) μ | none=>False)=stp (oT (bV xs i)) fun r=>Q r μ:=fun xs i=>by
  cases bV xs i with
  | none=>rfl
  | some t=>exact propext ⟨fun h=>⟨trivial,h⟩,fun h=>h.2⟩
 cases cont μ r1 with
 | none=>rfl
 | some t=>cases cont μ r2 with
  | none=>cases t<;>rfl
  | some u =>
   cases t<;>cases u<;>first | rfl | exact e _ _ | skip
   rename_i z i;show (z.length<=sizeLine/\(match bV z.cps.toList i with | some c=>Q (.tr (.str ⟨#[c]⟩)) μ | none=>False))=stp (match bV z.cps.toList i with | some c=>some (z.length<=sizeLine,.tr (.str ⟨#[c]⟩)) | none=>none) fun r=>Q r μ
   cases bV z.cps.toList i with
   | none=>exact propext ⟨fun h=>h.2,fun h=>h.elim⟩
   | some c=>rfl
theorem qO(neg:Bool)(t:T)(μ:Mu)(Q:R->Mu->Prop):Y.qO neg t .aI μ Q=Q (.tr (.bl (match t with | .aI=>!neg | _=>neg))) μ:=rfl
theorem DO(neg:Bool)(i j:Int)(μ:Mu)(Q:R->Mu->Prop):Y.GA neg (.int i) (.int j) μ Q=Q (.tr (.bl (if neg then !decide (i=j) else decide (i=j)))) μ:=rfl
theorem n8(f:T->Mu->(R->Mu->Prop)->Prop)(r:R)(μ:Mu)(Q:R->Mu->Prop):Y.n8 f [r] μ Q=(match cont μ r with | some t=>f t μ Q | none=>False):=rfl
theorem mw(t:T)(μ:Mu)(Q:R->Mu->Prop):Y.mw t μ Q=stp (DS t) fun r=>Q r μ:=by
 cases t<;>first | rfl | exact propext ⟨fun h=>⟨trivial,h⟩,fun h=>h.2⟩
theorem fD(r:R)(μ:Mu)(Q:R->Mu->Prop):Y.fD [r] μ Q=stp (n5 (cont μ r)) fun r=>Q r μ:=by
 show (match cont μ r with | some (.lst xs)=>Q (.tr (.tup xs)) μ | some (.tup xs)=>Q (.tr (.tup xs)) μ | _=>False)=_
 unfold n5
 cases cont μ r with
 | none=>rfl
 | some t=>cases t<;>first | rfl | exact propext ⟨fun h=>⟨trivial,h⟩,fun h=>h.2⟩
theorem l_(t:T)(μ:Mu)(Q:R->Mu->Prop):Y.l_ t μ Q=stp (yY t) fun r=>Q r μ:=by
 cases t<;>first | rfl | exact propext ⟨fun h=>⟨trivial,h⟩,fun h=>h.2⟩ | exact propext ⟨fun h=>⟨⟨h.1,h.2.1,h.2.2.1,h.2.2.2.1,h.2.2.2.2.1⟩,h.2.2.2.2.2⟩,fun h=>⟨h.1.1,h.1.2.1,h.1.2.2.1,h.1.2.2.2.1,h.1.2.2.2.2,h.2⟩⟩
theorem yd(j:Int)(μ:Mu)(Q:R->Mu->Prop):Y.nk [.tr (.int j)] μ Q=Q (.tr (.dk 0 j)) μ:=rfl
theorem AI(g:Int->Int->Int)(i j:Int)(μ:Mu)(Q:R->Mu->Prop):Y.AI g [.tr (.int i),.tr (.int j)] μ Q=Q (.tr (.int (g i j))) μ:=rfl
theorem CJ(k:Bool)(μ:Mu)(Q:R->Mu->Prop):Y.vc [.tr (.bl k)] μ Q=Q (.tr (.int (if k=true then 1 else 0))) μ:=rfl
theorem kU(ue:UE)(g:UG)(E:Ed)(μ:Mu):Y.kU ue g E μ=ue μ fun r μ'=>g r μ' E.nx:=rfl
theorem Hh(i:Nat)(t:T)(μ:Mu)(Q:Mu->Prop):Y.gN i (.tr t) μ Q=(sE μ i/\Q (μ.set i (.tr t))):=rfl
theorem Hn(i:Nat)(t:T)(μ:Mu)(Q:Mu->Prop):Y.gN i (.fr t) μ Q=(sE μ i/\Q (μ.set i (.bx t))):=rfl
theorem sE(μ:Mu)(i:Nat):Y.sE μ i=nb μ[i]?:=rfl
theorem Eu(t:T):nb (some (.tr t))=True:=rfl
theorem E6(t:T):nb (some (.bx t))=True:=rfl
theorem Er:nb (some .un)=True:=rfl
theorem D6(o:Option T):nb (some (sl o))=True:=by cases o<;>rfl
theorem gT(n:Nat)(gs:qj)(r:R)(μ:Mu)(Q:Mu->Prop):Y.gT n gs r μ Q=(match tT (cont μ r.d) with | some ts=>ts.length=n/\gs ts μ Q | none=>False):=by
 unfold Y.gT tT
 cases cont μ r.d with
 | none=>rfl
 | some t=>cases t<;>rfl
theorem Fm(g:UG)(gs:qj)(t:T)(ts:List T)(μ:Mu)(Q:Mu->Prop):Y.Fm g gs (t::ts) μ Q=g (.tr t) μ fun μ'=>gs ts μ' Q:=rfl
theorem EN(μ:Mu)(Q:Mu->Prop):Y.EN [] μ Q=Q μ:=rfl
theorem gS(uo ui:UE)(t:T)(μ:Mu)(Q:Mu->Prop):Y.gS uo ui (.tr t) μ Q=uo μ fun ro μ1=>ui μ1 fun ri μ2=>(match ro,ri with
  | .br j,.tr (.int k)=>(match (μ2[j]?).bind Sl.box with
   | some (.lst ts)=>(match k_ ts.length k with
    | some n=>Q (cN μ2 j (.lst (ts.set n t)))
    | none=>False)
   | _=>False)
  | _,_=>False):=rfl
theorem xS(ue:UE)(E:Ed)(μ:Mu):Y.xS ue E μ=ue μ E.rt:=rfl
theorem qm(ue:UE)(E:Ed)(μ:Mu):Y.qm ue E μ=ue μ fun _ μ'=>E.nx μ':=rfl
theorem xD(c:UT)(u w:US)(E:Ed)(μ:Mu):Y.xD c u w E μ=c μ fun b μ'=>if b=true then u E μ' else w E μ':=rfl
theorem yV(ue:UE)(μ:Mu)(Rt:List T->Option (Nat×List T)->Mu->Prop):Y.yV ue μ Rt=ue μ fun r μ'=>CL (Cp r μ') fun ts g=>Rt ts g μ':=by
 unfold Y.yV Cp;congr 1
 funext r μ'
 cases r with
 | tr t=>cases t<;>rfl
 | br j =>
  show (match cont μ' (.br j) with | some (.lst ts)=>Rt ts (some (j,ts)) μ' | _=>False)=CL (match cont μ' (.br j) with | some (.lst ts)=>some (ts,some (j,ts)) | _=>none) fun ts g=>Rt ts g μ'
  cases cont μ' (.br j) with
  | none=>rfl
  | some t=>cases t<;>rfl
 | fr c=>cases c<;>rfl
theorem Fi(us:UA)(μ:Mu)(Rt:List T->Option (Nat×List T)->Mu->Prop):Y.Fi us μ Rt=us μ fun rs μ'=>match rs with
 | [.tr (.int j)]=>-(2 ^ 62)<=j/\j < 2 ^ 62/\Rt ((List.range j.toNat).map fun k=>T.int (0+(k:Nat))) none μ'
 | _=>False:=rfl
theorem EZ(us:UA)(μ:Mu)(Rt:List T->Option (Nat×List T)->Mu->Prop):Y.EZ us μ Rt=us μ fun rs μ'=>match rs with
 | [.tr (.int i),.tr (.int j)]=>(-(2 ^ 62)<=i/\i < 2 ^ 62/\-(2 ^ 62)<=j/\j < 2 ^ 62)/\Rt ((List.range (j - i).toNat).map fun k=>T.int (i+(k:Nat))) none μ'
 | _=>False:=rfl
theorem Fe(us:UA)(μ:Mu)(Rt:List T->Option (Nat×List T)->Mu->Prop):Y.Fe us μ Rt=us μ fun rs μ'=>match rs with | [.tr (.tup ts)]=>Rt (pairs ts) none μ' | _=>False:=rfl
theorem iZ(us:UA)(μ:Mu)(Rt:List T->Option (Nat×List T)->Mu->Prop):Y.iZ us μ Rt=us μ fun rs μ'=>match rs with
 | [.tr t1,.tr t2]=>(match lb t1,lb t2 with | some ts,some vs=>Rt (kT ts vs) none μ' | _,_=>False)
 | _=>False:=rfl
theorem we(ui:UI)(g:UG)(body:US)(E:Ed)(μ:Mu):Y.we ui g body E μ=ui μ fun items gd μ'=>match gd with
 | none=>eG g body E items μ'
 | some (j,_)=>(match μ'[j]? with
  | some (.bx c)=>eG g body E items (μ'.set j (.tr c))
  | _=>False):=rfl
theorem f_(own:T->Mu->Option Mu)(dr:Mu->Mu)(ui:UI)(ut:UT)(ue:UE)(μ:Mu)(Q:R->Mu->Prop):Y.f_ own dr ui ut ue μ Q=ui μ fun items gd μ'=>mV gd own dr ut ue Q items [] μ':=rfl
theorem EW(um:UM)(uo:UE)(us:UA)(μ:Mu)(Q:R->Mu->Prop):Y.EW um uo us μ Q=uo μ fun ro μ1=>match ro with | .br j=>Y.Fp ((μ1[j]?).bind Sl.box) (us μ1 fun rs μ2=>um j rs μ2 Q) | _=>False:=rfl
theorem EJ(ts:List T)(p:Prop):Y.Fp (some (.lst ts)) p=p:=rfl
theorem fc(j:Nat)(t:T)(μ:Mu)(Q:R->Mu->Prop):Y.fc j [.tr t] μ Q=(match (μ[j]?).bind Sl.box with | some (.lst ts)=>ts.length < sizeLine/\Q (.tr .aI) (cN μ j (.lst (ts++[t]))) | _=>False):=rfl
theorem En(md:List Bool)(tsp:fL)(us:UA)(μ:Mu)(Q:R->Mu->Prop):Y.En md tsp us μ Q=us μ fun rs μ1=>match wa μ1 md rs with
 | some args=>(fu md rs).Nodup/\(∀ j∈fu md rs,j∉fT md rs)/\tsp args fun r outs=>(fT md rs=[]\/(lp r=true/\outs.all fe=true))/\Q r (putAll (fu md rs) outs μ1)
 | none=>False:=rfl
theorem Hi(ts:List T):lb (.lst ts)=some ts:=rfl
theorem He(ts:List T):lb (.tup ts)=some ts:=rfl
def Gn:Option T->Nat->Option (List T×Option (Nat×List T))
 | some (.lst ts),j=>some (ts,some (j,ts))
 | _,_=>none
theorem FN(xs:List T):n5 (some (.lst xs))=some (True,.tr (.tup xs)):=rfl
theorem F_(xs:List T):yY (.lst xs)=some (True,.fr (.lst xs)):=rfl
theorem FO(xs:List T):tT (some (.tup xs))=some xs:=rfl
theorem DW(ts:List T)(μ:Mu):Cp (.fr (.lst ts)) μ=some (ts,none):=rfl
theorem DP(ts:List T)(μ:Mu):Cp (.tr (.tup ts)) μ=some (ts,none):=rfl
theorem Dd(j:Nat)(μ:Mu):Cp (.br j) μ=Gn (cont μ (.br j)) j:=by
 show (match cont μ (.br j) with | some (.lst ts)=>some (ts,some (j,ts)) | _=>none)=_
 unfold Gn
 cases cont μ (.br j) with
 | none=>rfl
 | some t=>cases t<;>rfl
theorem EG(ts:List T)(j:Nat):Gn (some (.lst ts)) j=some (ts,some (j,ts)):=rfl
theorem Gb(μ:Mu)(t:T):cont μ (.tr t)=some t:=rfl
theorem FA(μ:Mu)(i:Nat):cont μ (.br i)=(μ[i]?).bind Sl.box:=rfl
theorem Fy(t:T):R.d (.tr t)=.tr t:=rfl
theorem G3(t:T):R.d (.fr t)=.tr t:=rfl
theorem G1(i:Nat):R.d (.br i)=.br i:=rfl
theorem G2(b:Bool):vQ (.tr (.bl b))=some b:=rfl
end A
theorem cY{g:UG}{body:US}{E:Ed}(I:List T->Mu->Prop){items:List T}{μ:Mu}(h0:I items μ)(hn:∀ μ,I [] μ->E.nx μ)
  (hs:∀ t ts μ (N:Mu->Prop),I (t::ts) μ->(∀ μ',I ts μ'->N μ')->g (.tr t) μ fun μ1=>body { E with nx:=N,ct:=N,bk:=E.nx } μ1):Y.eG g body E items μ:=by
 induction items generalizing μ with
 | nil=>exact hn μ h0
 | cons t ts ih=>exact hs t ts μ _ h0 fun μ' h=>ih h
theorem ba{gd:Option (Nat×List T)}{own:T->Mu->Option Mu}{dr:Mu->Mu}{ut:UT}{ue:UE}{Q:R->Mu->Prop}(I:List T->List T->Mu->Prop){items acc:List T}{μ:Mu}(h0:I items acc μ)(hn:∀ acc μ,I [] acc μ->Y.Ej gd μ/\Q (.fr (.lst acc)) μ)
  (hs:∀ t r acc μ (N:List T->Mu->Prop),I (t::r) acc μ->(∀ acc' μ',I r acc' μ'->N acc' μ')->Y.Ej gd μ/\acc.length < sizeLine/\(match own t μ with
   | none=>False
   | some μ1=>ut μ1 fun b μ2=>if b=true then ue μ2 fun rr μ3=>(match rr.d with
     | .tr t'=>N (acc++[t']) (dr μ3)
     | _=>False) else N acc (dr μ2))):Y.mV gd own dr ut ue Q items acc μ:=by
 induction items generalizing μ acc with
 | nil=>exact hn acc μ h0
 | cons t ts ih=>exact hs t ts acc μ (fun a m=>Y.mV gd own dr ut ue Q ts a m) h0 fun a' μ' h=>ih h
def ju(K:PySem.W.Frag):Sp:=fun vs H Q _=>∃ (a:Addr) (ns:List Int),vs=[.ref a]/\bB K H a (ns.map V.int)/\ns.length<=63/\∀ H',Q (.bl true) H'
theorem cA{K:PySem.W.Frag}{H:Hp}{B:aJ}:∀ ns:List Int,af K H B (ns.map V.int) (ns.map T.int)
 | []=>.nil
 | n::ns=>.cons (.int n) (cA ns)
theorem Cb{P:Program}{w:World}{K:PySem.W.Frag}{mg:Str->Option Value}{base:Heap}{k:Nat}{fa:Addr}{fd:FuncData}{ps:List Str}(h:dg P w K mg base cw k fa fd ps (spT K [false] A_)):dg P w K mg base cw k fa fd ps (ju K):=by
 refine h.imp fun vs H Q E ⟨a,ns,e,hs,hl,q⟩=>?_;subst e;refine⟨fun _=>False,[.d7 (ns.map T.int)],fun r outs=>r=.tr (.bl true),⟨.d7 ?_ (cA ns),trivial⟩,fun b z=>z.elim,List.nodup_nil,⟨ns,rfl,hl,rfl⟩,fun v H' r outs hr _ res=>?_⟩
 ·rcases hs with hs | hs
  ·exact .inl ⟨fun z=>z,hs⟩
  ·exact .inr hs
 ·subst hr;have rv:=res.1;cases rv;exact q H'
end L2
namespace L2
open PySem PySem.Spec PyProof.Rows
namespace Y
theorem Ck{X:Cx}(hu:X.A.units < cLine):cO X (compareOp .NotEq) (xK X.K true):=by
 intro pins s σ H x y v u Q I rx ry h;obtain⟨a,b,xs,ys,rfl,rfl,hq,fx,fy,q⟩:=h
 cases rx;cases ry
 have item:∀ (its its2:List Value),Vals xs its->Vals ys its2->∀ j (h1:j < its.toArray.size) (h2:j < its2.toArray.size),SeqAt.EqAt X.A.in1 s its.toArray[j] its2.toArray[j] (match xs[j]?,ys[j]? with | some x,some y=>Cy x y | _,_=>true):=fun its its2 r1 r2 j h1 h2=>by
  have l1:=r1.length;have l2:=r2.length;rw[List.size_toArray] at h1 h2;obtain⟨u1,e1,g1⟩:=r1.get (i:=j) (x:=xs[j]) (List.getElem?_eq_getElem (by lia))
  obtain⟨u2,e2,g2⟩:=r2.get (i:=j) (x:=ys[j]) (List.getElem?_eq_getElem (by lia))
  rw[List.getElem?_eq_getElem (show j < xs.length by lia),List.getElem?_eq_getElem (show j < ys.length by lia)]
  have z1:its.toArray[j]=u1:=by
   rw[List.getElem?_eq_getElem h1] at e1;simpa using e1
  have z2:its2.toArray[j]=u2:=by
   rw[List.getElem?_eq_getElem h2] at e2;simpa using e2
  rw[z1,z2];exact nv g1 g2 (List.all_eq_true.mp fx _ (List.getElem_mem _)) (List.all_eq_true.mp fy _ (List.getElem_mem _))
 rcases hq with ⟨ha,hb⟩ | ⟨ha,hb⟩
 ·obtain⟨its,r1,p1,_⟩:=I.list ha;obtain⟨its2,r2,p2,_⟩:=I.list hb;have l1:=r1.length;have l2:=r2.length;by_cases e:xs.length=ys.length
  ·refine SeqAt.RcNeAt.lists p1.isList p2.isList (by rw[List.size_toArray,List.size_toArray];lia) hu (item its its2 r1 r2) X.prog X.w X.xe _ ⟨.bl _,H,I,rfl,q _ ?_⟩
   rw[List.size_toArray,<- l1,<- e,Nat.min_self,beq_self_eq_true,Bool.true_and]
   try rfl
  ·refine SeqAt.RcNeAt.lists_lengths p1.isList p2.isList (by rw[List.size_toArray,List.size_toArray,bne_iff_ne];lia) hu X.prog X.w X.xe _ ⟨.bl true,H,I,rfl,?_⟩
   exact q false (by rw[beq_eq_false_iff_ne.mpr e,Bool.false_and])
 ·obtain⟨its,r1,p1,_⟩:=I.tuple ha;obtain⟨its2,r2,p2,_⟩:=I.tuple hb;have l1:=r1.length;have l2:=r2.length;refine SeqAt.RcNeAt.tuples p1 p2 hu (item its its2 r1 r2) X.prog X.w X.xe _ ⟨.bl _,H,I,rfl,q _ ?_⟩;rw[List.size_toArray,List.size_toArray,<- l1,<- l2,Bool.and_comm]
  try rfl
def Aa(K:PySem.W.Frag):R2:=fun x y H Q=>GX x y H Q\/xK K true x y H Q
theorem u3{X:Cx}(K:PySem.W.Frag)(hK:X.K=K)(hu:X.A.units < cLine):cO X (compareOp .NotEq) (Aa K):=by subst hK;exact Eb.or (Ck hu)
def Ei:T->T->Mu->(R->Mu->Prop)->Prop:=fun t u μ Q=>match t,u with
 | .int i,.int j=>Q (.tr (.bl (!decide (i=j)))) μ
 | .str i,.str j=>Q (.tr (.bl (!decide (i=j)))) μ
 | .bl i,.bl j=>Q (.tr (.bl (!decide (i=j)))) μ
 | .lst xs,.lst ys=>xs.all bM=true/\ys.all bM=true/\Q (.tr (.bl (!rW xs ys))) μ
 | .tup xs,.tup ys=>xs.all bM=true/\ys.all bM=true/\Q (.tr (.bl (!rW xs ys))) μ
 | _,_=>False
theorem BU{K:PySem.W.Frag}:iR K (Aa K) (pR Ei):=dA fun F ad B σ H μ Q Qt x y t u hK l v1 v2 q k=>by
 subst hK;unfold Ei at q
 split at q
 ·cases v1;cases v2
  refine .inl ⟨rfl,?_⟩;rw[dV (f:=V.int) (fun a b h=>by injection h)]
  exact k _ H _ (Vr.flat l (.bl _)) Fr.refl q
 ·cases v1;cases v2
  refine .inl ⟨rfl,?_⟩;rw[dV (f:=V.str) (fun a b h=>by injection h)]
  exact k _ H _ (Vr.flat l (.bl _)) Fr.refl q
 ·cases v1;cases v2
  refine .inl ⟨rfl,?_⟩;rw[dV (f:=V.bl) (fun a b h=>by injection h)]
  exact k _ H _ (Vr.flat l (.bl _)) Fr.refl q
 ·cases v1 with
  | lst ha ra=>cases v2 with
   | lst hb rb=>exact .inr ⟨_,_,_,_,rfl,rfl,.inl ⟨bB.of ha,bB.of hb⟩,bO ra q.1,bO rb q.2.1,fun c hc=>by
     rw[<- jO ra rb q.1 q.2.1] at hc;subst hc;exact k _ H _ (Vr.flat l (.bl _)) Fr.refl q.2.2⟩
 ·cases v1 with
  | tup ha ra=>cases v2 with
   | tup hb rb=>exact .inr ⟨_,_,_,_,rfl,rfl,.inr ⟨b6.of ha,b6.of hb⟩,bO ra q.1,bO rb q.2.1,fun c hc=>by
     rw[<- jO ra rb q.1 q.2.1] at hc;subst hc;exact k _ H _ (Vr.flat l (.bl _)) Fr.refl q.2.2⟩
 ·exact q.elim
theorem iK:fillsNumberSlot (.type "tuple") "mul"=pure false:=
 PySem.fillsNumberSlot_seq (id:="tuple.__mul__") (r:=some (.builtin "tuple.__rmul__")) PySem.F.slot_tuple_mul.lookup (by decide +kernel) PySem.F.slot_tuple_rmul.lookup (by decide +kernel)
theorem oy:seqRepeat? (.type "tuple")=pure (some (.builtin "tuple.__mul__")):=by
 unfold seqRepeat?;rw[PySem.seqSlot_of (T:="tuple") (name:="__mul__") (id:="tuple.__mul__") PySem.F.slot_tuple_mul.lookup (by decide +kernel),PySem.seqSlot_of (T:="tuple") (name:="__rmul__") (id:="tuple.__rmul__") PySem.F.slot_tuple_rmul.lookup (by decide +kernel)];rfl
theorem sS(a:Int)(t:Tok)(l:Addr)(ob:Obj)(items:Array Value)(n:Nat)(hc:ob.cls=.type "tuple")(hd:ob.data=.seq items n):
  Meets (Builtin.«int.__rmul__» ⟨[.int a t,.ref l],[]⟩) (fun _ R s=>s.heap.get? l=some ob/\R (.ok (.ret Value.notImplemented)) s):=
 .of_wp fun prog w A R s h=>by
  obtain⟨hp,g,d,tk,os⟩:=s;obtain⟨hl,h⟩:=h;obtain⟨c,dd,da,sl⟩:=ob;simp only at hc hd;subst hc hd
  wp_walk
  exact⟨_,rfl,h⟩
theorem yy(l:Addr)(items:Array Value)(ob:Obj)(n:Nat)(k:Int)(t:Tok)(hc:ob.cls=.type "tuple")(hd:ob.data=.seq items n)(hne:items.isEmpty=false)(h1:1 < k)(h2:k<=1000)(hsz:items.size<=1000):
  Meets (Builtin.«tuple.__mul__» ⟨[.ref l,.int k t],[]⟩) (fun _ R s=>s.heap.get? l=some ob/\R (.ok (.ret (.ref s.heap.objs.size))) { s with heap:=s.heap.push { cls:=.type "tuple",data:=.seq ((List.replicate k.toNat items).foldl (·++·) #[]) } }):=
 .of_wp fun prog w A R s h=>by
  obtain⟨hp,g,d,tk,os⟩:=s;obtain⟨hl,h⟩:=h;obtain⟨c,dd,da,sl⟩:=ob;simp only at hc hd;subst hc hd;have e1:(decide (k < -(2 ^ 63)) || decide (k >= 2 ^ 63))=false:=by rw[decide_eq_false (by lia),decide_eq_false (by lia)];rfl
  have e2:(items.isEmpty || k == 1)=false:=by rw[hne,beq_eq_false_iff_ne.mpr (by lia)];rfl
  have e3:(decide (k<=0) || items.isEmpty)=false:=by rw[hne,decide_eq_false (by lia)];rfl
  wp_walk using AutoSeq1.wpAny_loadPart' hl;rw[if_neg (by rw[e1];exact Bool.false_ne_true)]
  have ht:IsTup (Shared.heap ⟨hp,g,d,tk,os⟩) l items:=⟨_,hl,rfl,n,rfl⟩;show wpAny _ _ (Builtin.Tuple.tupleItemsOf (.ref l) >>= _) _ _ _;refine wpAny_bind (tupleItemsOf_ ht ?_);rw[if_neg (by rw[e2];exact Bool.false_ne_true)]
  show wpAny _ _ (if (decide (k<=0) || items.isEmpty)=true then _ else _) _ _ _
  rw[if_neg (by rw[e3];exact Bool.false_ne_true)]
  have hm:(items.size:Int)*k<=1000*1000:=Int.mul_le_mul (by lia) h2 (by lia) (by lia)
  show wpAny _ _ (if (items.size:Int)*k >(2 ^ 63 - 1) / 8 then _ else _) _ _ _
  rw[if_neg (by lia)]
  show wpAny _ _ (if Builtin.Tuple.tupleTooMany ((items.size:Int)*k)=true then _ else _) _ _ _
  have e4:Builtin.Tuple.tupleTooMany ((items.size:Int)*k)=false:=decide_eq_false (by
   have:((sizeLine:Nat):Int) >= 1000000:=by decide
   lia)
  rw[if_neg (by rw[e4];exact Bool.false_ne_true)]
  have hl2:((List.replicate k.toNat items).foldl (·++·) #[]).size<=sizeLine:=by
   have fs:∀ (m:Nat) (acc:Array Value),((List.replicate m items).foldl (·++·) acc).size=acc.size+m*items.size:=fun m=>by
    induction m with
    | zero=>intro acc;simp
    | succ m ih=>intro acc;rw[List.replicate_succ,List.foldl_cons,ih,Array.size_append,Nat.succ_mul];lia
   rw[fs];have h3:k.toNat*items.size<=1000*1000:=Nat.mul_le_mul (by lia) hsz
   have h4:(1000000:Nat)<=sizeLine:=by decide
   simp;lia
  exact wpAny_bind (m:=Builtin.Tuple.tupleExact _) (wpAny_newObj_type (wpAny_pure ⟨_,rfl,h⟩) hl2)
theorem rK(its:List Value):∀ (m:Nat) (acc:List Value),(List.replicate m its.toArray).foldl (·++·) acc.toArray=(acc++(List.replicate m its).flatten).toArray:=fun m acc=>foldl_rep its m acc
def zL(K:PySem.W.Frag):R2:=fun x y H Q=>∃ a k xs,x=.ref a/\y=.int k/\b6 K H a xs/\xs≠[]/\xs.length<=1000/\1 < k/\k<=1000/\∀ p,H p=none->Q (.ref p) (upd H p (.tup (List.replicate k.toNat xs).flatten))
theorem yg{X:Cx}:cO X (binaryOp .Mult) (zL X.K):=by
 intro pins s σ H x y v u Q I rx ry h;obtain⟨a,k,xs,rfl,rfl,hx,hne,hsz,h1,h2,q⟩:=h;cases rx;obtain⟨t,rfl⟩:=ry;obtain⟨its,r,p,hz⟩:=I.tuple hx;obtain⟨ob,ho,hc,n,hd⟩:=id p;have hlen:=r.length;have hemp:its.toArray.isEmpty=false:=by
  cases its with
  | nil=>cases r;exact absurd rfl hne
  | cons a b=>rfl
 refine wpAny_binaryOp_repeat_ref (T:="tuple") (U:="int") (by decide) ⟨_,ho,hc⟩ (fun s'=>typeIs_int s' k t) iK PySem.F.fills_int_mul PySem.F.slot_int_rmul oy PySem.F.slot_int_index.lookup
  (call_meets PySem.F.slot_int_rmul (typeIs_int s k t) PySem.F.entry_int_rmul (PySem.F.args_int_rmul_2 _ _) (sS k t a ob its.toArray n hc hd)
   ⟨ho,rfl,⟨_,ho,hc⟩,call_meets PySem.F.slot_tuple_mul ⟨_,ho,hc⟩ PySem.F.entry_tuple_mul (PySem.F.args_tuple_mul_2 _ _) (yy a its.toArray ob n k t hc hd hemp h1 h2 (by rw[List.size_toArray];lia)) ⟨ho,?_⟩⟩)
 have e0:=rK its k.toNat [];rw[List.nil_append] at e0;have e0':(List.replicate k.toNat its.toArray).foldl (·++·) #[]=(List.replicate k.toNat its).flatten.toArray:=e0;rw[e0'];refine⟨.ref s.heap.objs.size,_,I.laid (t':=s.toks) (o:=.tup (List.replicate k.toNat xs).flatten) (fun b ob q=>Heap.get?_push_of_some _ q) (Nat.le_refl _) ?_,rfl,q _ (I.aS.fresh (Nat.le_refl _))⟩;refine⟨?_,_,r.rep k.toNat,cP.new _ _⟩;rw[len_rep];have h3:k.toNat*xs.length<=1000*1000:=Nat.mul_le_mul (by lia) hsz
 exact Nat.le_trans h3 (by decide)
def zl(K:PySem.W.Frag):R2:=fun x y H Q=>Bm x y H Q\/zL K x y H Q
theorem cD{X:Cx}(K:PySem.W.Frag)(hK:X.K=K):cO X (binaryOp .Mult) (zl K):=by subst hK;exact yS.or yg
def qu:U2:=fun r1 r2 μ Q=>match cont μ r1,cont μ r2 with
 | some (.int i),some (.int j)=>mY i j/\Q (.tr (.int (i*j))) μ
 | some (.lst xs),some (.int k)=>-(2 ^ 63)<=k/\k < 2 ^ 63/\xs.length*k.toNat<=sizeLine/\Q (.fr (.lst (List.replicate k.toNat xs).flatten)) μ
 | some (.tup xs),some (.int k)=>(xs≠[]/\xs.length<=1000/\1 < k/\k<=1000)/\Q (.tr (.tup (List.replicate k.toNat xs).flatten)) μ
 | _,_=>False
theorem cE{K:PySem.W.Frag}:iR K (zl K) qu:=by
 intro F ad B σ H μ Q Qt x y r1 r2 hK l h1 h2 q k;unfold qu at q
 split at q
 ·rename_i i j e1 e2;exact .inl (uR F ad B σ H μ Q Qt x y r1 r2 hK l h1 h2 (by unfold oU;rw[e1,e2];exact q) k)
 ·rename_i xs j e1 e2;exact .inl (uR F ad B σ H μ Q Qt x y r1 r2 hK l h1 h2 (by unfold oU;rw[e1,e2];exact q) k)
 ·rename_i xs j e1 e2;have a:=h1.vw l e1;have b:=h2.vw l e2;subst hK;cases b
  cases a with
  | tup ha ra =>
   refine .inr ⟨_,_,_,rfl,rfl,b6.of ha,?_,by rw[ra.length];exact q.1.2.1,q.1.2.2.1,q.1.2.2.2,fun p hp=>k _ _ _ μ (Vr.vV l (ra.rep _) hp) (Fr.same (bC.new hp)) (Kp.refl μ) q.2⟩
   rintro rfl;cases ra;exact q.1.1 rfl
 ·exact q.elim
end Y
namespace A
theorem Ar(i j:Int)(μ:Mu)(Q:R->Mu->Prop):Y.qu (.tr (.int i)) (.tr (.int j)) μ Q=(mY i j/\Q (.tr (.int (i*j))) μ):=rfl
theorem AD(xs:List T)(k:Int)(μ:Mu)(Q:R->Mu->Prop):Y.qu (.tr (.lst xs)) (.tr (.int k)) μ Q=(-(2 ^ 63)<=k/\k < 2 ^ 63/\xs.length*k.toNat<=sizeLine/\Q (.fr (.lst (List.replicate k.toNat xs).flatten)) μ):=rfl
theorem Gz(i j:Str)(μ:Mu)(Q:R->Mu->Prop):Y.Ei (.str i) (.str j) μ Q=Q (.tr (.bl (!decide (i=j)))) μ:=rfl
end A
section
variable {prog:Program} {w:World} {A:Around} {E:Value->Shared->Prop} {s:Shared}
end
section
variable {X:Cx} {e:Expr} {te:TE}
end
namespace Y
end Y
namespace A
end A
end L2
namespace L2
open PySem PySem.Spec PyProof PyProof.Rows
namespace Y
theorem dD:∀ {us:List Value} {ns:List Int},IntsAre us ns->Vals (ns.map V.int) us
 | _,_,.nil=>.nil
 | _,_,.cons n t h=>.cons ⟨t,rfl⟩ (dD h)
theorem dO:∀ {us:List Value} {ns:List Int},IntsAre us ns->us.length=ns.length
 | _,_,.nil=>rfl
 | _,_,.cons n t h=>by simp[dO h]
theorem fw:∀ {us:List Value} {ns:List Int} {i:Nat} {v:Value},IntsAre us ns->us[i]?=some v->∃ t,v=.int (ns.getD i 0) t
 | _,_,_,_,.nil,e=>by simp at e
 | _,_,0,_,.cons n t h,e=>⟨t,by simpa using e.symm⟩
 | _,_,i+1,_,.cons n t h,e=>by
  obtain⟨t',e'⟩:=fw (i:=i) h (by simpa using e)
  exact⟨t',by simpa using e'⟩
section
variable {prog:Program} {w:World} {A:Around} {E:Value->Shared->Prop} {s:Shared}
theorem gp{l:Addr}{vs:List Value}{Q:List Value->Shared->Prop}(hl:IsTup s.heap l vs.toArray)(hsz:vs.length<=sizeLine)
  (h:Q vs { s with heap:=(s.heap.push (seqObj "list" #[] 0)).update s.heap.objs.size (Obj.mapSeq (·++vs.toArray)) }):wpAny (model prog w) A (collect (.ref l)) Q E s:=by
 obtain⟨o,ho,hc,n,hd⟩:=id hl;unfold collect;refine wpAny_bind (wpAny_runValue (codeAny_builtin entry_proto_collect' ?_));show wpAny _ _ (do again (.builtin "list.__iadd__" ⟨[<- newList [],.ref l],[]⟩)) _ _ s
 refine wpAny_bind (wpAny_newList (wpAny_pure ⟨Code.quiet_builtin _ (by decide +kernel),codeAny_builtin entry_list_iadd' ?_⟩))
 show wpAny _ _ (Builtin.List.listExtendWith (.ref s.heap.objs.size) (.ref l) (.ref s.heap.objs.size)) _ _ { s with heap:=s.heap.push (seqObj "list" #[] 0) }
 unfold Builtin.List.listExtendWith;have ho':(s.heap.push (seqObj "list" #[] 0)).get? l=some o:=Heap.get?_push_of_some _ ho;refine wpAny_bind (wpAny_typeOf (T:="tuple") ⟨o,ho',hc⟩ ?_);have ht:(Value.type "tuple" == Value.type "tuple")=true:=by rfl
 rw[if_pos (by rw[ht];simp)]
 refine wpAny_bind (listItems_at ho' hd ?_);refine wpAny_bind (listItems_at (xs:=#[]) (n:=0) (Heap.get?_push_size _ rfl) rfl ?_);rw[if_neg (by simp)]
 refine wpAny_bind (listUpdate_at (xs:=#[]) (n:=0) (Heap.get?_push_size _ rfl) rfl ?_ (Nat.zero_le _) (by show (#[]++vs.toArray).size<=sizeLine+1;simp only[Array.size_append,List.size_toArray,List.length_nil];lia))
 refine wpAny_pure ?_;show wpAny (model prog w) A (load s.heap.objs.size >>= _) Q E { s with heap:=(s.heap.push (seqObj "list" #[] 0)).update s.heap.objs.size (Obj.mapSeq (·++vs.toArray)) }
 refine wpAny_bind (wpAny_load (get?_update_seq (Heap.get?_push_size _ rfl) _) ?_);show wpAny _ _ (pure ((#[]:Array Value)++vs.toArray).toList) Q E _;rw[show ((#[]:Array Value)++vs.toArray).toList=vs by simp]
 exact wpAny_pure h
theorem nW{l:Addr}{vs:List Value}{ns:List Int}{Q:Value->Shared->Prop}(hl:IsTup s.heap l vs.toArray)(hI:IntsAre vs ns)(h64:vs.length < 64)
  (h:∀ (out:Array Value) (ns':List Int),IntsAre out.toList ns'->ns'.Perm ns->ns'.Pairwise (·<=·)->Q (.ref (s.heap.objs.size+1)) { s with heap:=sortedAll s.heap vs out }) :
  wpAny (model prog w) A (call (.builtin "sorted") [.ref l]) Q E s:=by
 have hz:vs.length<=sizeLine:=Nat.le_trans (Nat.le_of_lt h64) (by decide)
 refine Calls.call_function_entry kind_sorted plain_sorted entry_sorted (args_sorted1 _) ?_;unfold Builtin.«sorted»;refine wpAny_bind (m:=checkCount "sorted" 1 1 _) (wpAny_pure ?_);refine wpAny_bind (gp hl hz ?_);refine wpAny_bind (wpAny_newList ?_ hz);have hs:((s.heap.push (seqObj "list" #[] 0)).update s.heap.objs.size (Obj.mapSeq (·++vs.toArray))).objs.size=s.heap.objs.size+1:=by rw[Heap.size_update,size_push']
 have ho:(((s.heap.push (seqObj "list" #[] 0)).update s.heap.objs.size (Obj.mapSeq (·++vs.toArray))).push (seqObj "list" vs.toArray 0)).get? (s.heap.objs.size+1)=some (seqObj "list" vs.toArray 0):=by
  rw[<- hs];exact Heap.get?_push_size _ rfl
 show wpAny _ _ _ _ _ { s with heap:=((s.heap.push (seqObj "list" #[] 0)).update s.heap.objs.size (Obj.mapSeq (·++vs.toArray))).push (seqObj "list" vs.toArray 0) }
 rw[hs];refine wpAny_bind (wpAny_holding (wpAny_call_entry slot_list_sort ⟨_,ho,rfl⟩ entry_list_sort (list_sort_tree ho hI h64 fun out ns' a1 a2 a3=>⟨_,rfl,?_⟩) (args_list_sort _)));exact wpAny_pure ⟨_,rfl,h out ns' a1 a2 a3⟩
theorem yK{l:Addr}{vs:List Value}{ns:List Int}{Q:Value->Shared->Prop}(hh:A.handled=none)(hl:IsTup s.heap l vs.toArray)(hI:IntsAre vs ns)(hne:0 < ns.length)
  (h:∀ M h' tk t',M∈ns->(∀ a∈ns,a<=M)->(∀ b o,s.heap.get? b=some o->h'.get? b=some o)->Q (.int M t') { s with heap:=h',toks:=tk }) :
  wpAny (model prog w) A (call (.builtin "max") [.ref l]) Q E s:=by
 have ht:s.heap.IsTuple l vs.toArray:=hl;have hlt:l < s.heap.objs.size:=by obtain⟨o,ho,_⟩:=id hl;exact Heap.lt_size ho
 have hlen:=dO hI;refine call_max_walk (wpAny_pyIter_tuple ht ?_);refine⟨_,[_,l],[_],_,_,_,_,rfl,Walks.tuple (A:=A.in1) hh _ l (Nat.ne_of_lt hlt) vs.toArray,⟨⟨_,Heap.get?_push_size _ rfl,rfl,rfl⟩,ht.push _⟩,fun c hc=>?_,by simpa[hlen] using hne,CmpOf.ints_gt (fun i=>ns.getD i 0) (fun i v e=>fw hI (by simpa using e)),fun v h' tk hP hk=>?_⟩
 ·show c < (s.heap.push _).objs.size;rw[Heap.size_push];rcases List.mem_cons.mp hc with rfl | hc
  ·exact Nat.lt_succ_self _
  ·rcases List.mem_cons.mp hc with rfl | hc
   ·exact Nat.lt_succ_of_lt hlt
   ·cases hc
 ·obtain⟨t,rfl⟩:=fw (i:=argBest (fun i j=>decide (ns.getD i 0 > ns.getD j 0)) (vs.toArray.size - 1)) hI (by rw[<- List.getElem?_toArray];exact hP)
  obtain⟨h1,h2⟩:=argBest_gt (fun i=>ns.getD i 0) (vs.toArray.size - 1);have hsz:vs.toArray.size=ns.length:=by simpa using hlen
  refine h _ h' tk t ?_ (fun a ha=>?_) (fun b o e=>hk b o (fun hm=>?_) (Heap.get?_push_of_some _ e))
  ·have:argBest (fun i j=>decide (ns.getD i 0 > ns.getD j 0)) (vs.toArray.size - 1) < ns.length:=by lia
   rw[List.getD_eq_getElem?_getD,List.getElem?_eq_getElem this];exact List.getElem_mem _
  ·obtain⟨j,hj,rfl⟩:=List.mem_iff_getElem.mp ha;have:=h2 j (by lia)
   rw[List.getD_eq_getElem?_getD,List.getElem?_eq_getElem hj] at this;exact this
  ·rcases List.mem_cons.mp hm with rfl | hm
   ·exact absurd (Heap.lt_size e) (Nat.lt_irrefl _)
   ·cases hm
end
def vy(K:PySem.W.Frag):List V->Hp->VK->Prop:=fun xs H Q=>∃ p ns,xs=[.ref p]/\b6 K H p (ns.map V.int)/\ns.length < 64/\∀ ns':List Int,ns'.Perm ns->ns'.Pairwise (·<=·)->∀ l,H l=none->Q (.ref l) (upd H l (.lst (ns'.map V.int)))
theorem jE{X:Cx}(K:PySem.W.Frag)(hK:X.K=K):aL X (.builtin "sorted") (vy K):=by
 subst hK;intro pins s σ H xs us Q I r h;obtain⟨p,ns,rfl,hq,h64,q⟩:=h;obtain⟨u,rfl,ru⟩:=vals1 r;cases ru;obtain⟨its,rv,pl,hz⟩:=I.tuple hq;have hi:=intsAre_of rv;refine nW pl hi (by rw[dO hi];exact h64) fun out ns' a1 a2 a3=>?_
 obtain⟨e,he⟩:=sortedAll_at s.heap its out;refine⟨.ref (s.heap.objs.size+1),_,I.laid (t':=s.toks) (fun b ob q=>sortedAll_old q) (Nat.le_succ _) (show b7 X.prog X.w _ _ _ (.lst (ns'.map V.int)) from⟨?_,out.toList,e,dD a1,by simpa using he⟩),rfl,q ns' a2 a3 _ (I.aS.fresh (Nat.le_succ _))⟩
 rw[List.length_map,a2.length_eq];exact Nat.le_trans (Nat.le_of_lt h64) (by decide)
def u4(K:PySem.W.Frag):List V->Hp->VK->Prop:=fun xs H Q=>Ay xs H Q\/∃ (p:Addr) (ns:List Int),xs=[.ref p]/\b6 K H p (ns.map V.int)/\0 < ns.length/\∀ M:Int,M∈ns->(∀ a∈ns,a<=M)->Q (.int M) H
theorem si{X:Cx}(K:PySem.W.Frag)(hK:X.K=K)(hc:X.calm=true):aL X (.builtin "max") (u4 K):=by
 subst hK;refine (ee hc).or ?_;intro pins s σ H xs us Q I r h;obtain⟨p,ns,rfl,hq,hne,q⟩:=h;obtain⟨u,rfl,ru⟩:=vals1 r;cases ru;obtain⟨its,rv,pl,hz⟩:=I.tuple hq;refine yK (I.ok.hd hc) pl (intsAre_of rv) hne fun M h' tk t' m1 m2 hk=>?_;exact⟨.int M,H,I.kept hk,⟨_,rfl⟩,q M m1 m2⟩
theorem cA{K:PySem.W.Frag}{H:Hp}{B:aJ}:∀ ns:List Int,af K H B (ns.map V.int) (ns.map T.int)
 | []=>.nil
 | n::ns=>.cons (.int _) (cA ns)
theorem bI{K:PySem.W.Frag}{H:Hp}{B:aJ}:∀ {ns:List Int} {vs:List V},af K H B vs (ns.map T.int)->vs=ns.map V.int
 | [],_,.nil=>rfl
 | n::ns,_,.cons h r=>by cases h;rw[bI r];rfl
def tO:UC:=fun rs μ Q=>match rs with
 | [.tr (.int i),.tr (.int j)]=>Q (.tr (.int (if j > i then j else i))) μ
 | [.tr (.tup xs)]=>∃ ns:List Int,xs=ns.map T.int/\0 < ns.length/\∀ M:Int,M∈ns->(∀ a∈ns,a<=M)->Q (.tr (.int M)) μ
 | _=>False
theorem xN{K:PySem.W.Frag}:RC K (u4 K) tO:=by
 intro F ad B σ H μ Q Qt xs rs hK l p q k;unfold tO at q
 split at q
 ·exact .inl (kI F ad B σ H μ Q Qt xs _ hK l p q k)
 ·obtain⟨ns,rfl,hne,q⟩:=q;subst hK
  cases p with
  | cons h1 p =>
   cases p;have v1:=h1.vw l (show cont μ (.tr (.tup (ns.map T.int)))=some _ from rfl)
   cases v1 with
   | tup ha ra=>exact .inr ⟨_,ns,rfl,by rw[<- bI ra];exact b6.of ha,hne,fun M m1 m2=>k _ H _ μ (Vr.flat l (.int _)) Fr.refl (Kp.refl μ) (q M m1 m2)⟩
 ·exact q.elim
def CY(K:PySem.W.Frag):List V->Hp->VK->Prop:=fun xs H Q=>∃ (p:Addr) (ns:List Int),xs=[.ref p]/\bB K H p (ns.map V.int)/\Q (.int ns.sum) H
theorem jw{X:Cx}(K:PySem.W.Frag)(hK:X.K=K)(hc:X.calm=true):aL X (.builtin "sum") (CY K):=by subst hK;exact sk hc
def AZ:T->Mu->(R->Mu->Prop)->Prop:=fun t μ Q=>match t with
 | .lst xs=>∃ ns:List Int,xs=ns.map T.int/\Q (.tr (.int ns.sum)) μ
 | _=>False
theorem uX{K:PySem.W.Frag}:RC K (CY K) (n8 AZ):=dS fun F ad B σ H μ Q Qt x t hK l v1 q k=>by
 subst hK;unfold AZ at q
 split at q
 ·obtain⟨ns,rfl,q⟩:=q
  cases v1 with
  | lst ha ra=>exact⟨_,ns,rfl,by rw[<- bI ra];exact bB.of ha,k _ _ _ (Vr.flat l (.int _)) Fr.refl q⟩
 ·exact q.elim
def DD(i j:Int):Prop:=0 < j/\j < 4611686018427387904
theorem hG{X:Cx}:cO X (binaryOp .FloorDiv) (rI DD fun i j=>.int (i / j)):=EL fun i j _ _ _ _ _ hc q=>by
 have h1:(0:Int) < j:=hc.1;have h2:j < 4611686018427387904:=hc.2;exact floordiv_int (by lia) (by rw[Int.fdiv_eq_ediv_of_nonneg i (by lia)];exact q) (.inl (PyProof.noPylong_of_log2 (Nat.lt_trans ((Nat.log2_lt (k:=62) (by lia)).mpr (by lia)) (by decide))))
end Y
namespace A
theorem DY(xs:List T)(μ:Mu)(Q:R->Mu->Prop):Y.AZ (.lst xs) μ Q=(∃ ns:List Int,xs=ns.map T.int/\Q (.tr (.int ns.sum)) μ):=rfl
end A
namespace Y
theorem eU:∀ {us:List Value} {ns:List Str},StrsAre us ns->Vals (ns.map V.str) us
 | _,_,.nil=>.nil
 | _,_,.cons n t h=>.cons ⟨t,rfl⟩ (eU h)
theorem mJ:∀ {us:List Value} {ns:List Str},StrsAre us ns->us.length=ns.length
 | _,_,.nil=>rfl
 | _,_,.cons n t h=>by simp[mJ h]
theorem cT:∀ {ns:List Str} {us:List Value},Vals (ns.map V.str) us->StrsAre us ns
 | [],_,.nil=>.nil
 | n::ns,_,.cons r1 r2=>by obtain⟨t,rfl⟩:=r1;exact .cons n t (cT r2)
section
variable {prog:Program} {w:World} {A:Around} {E:Value->Shared->Prop} {s:Shared}
theorem gA{l:Addr}{vs:List Value}{ns:List Str}{Q:Value->Shared->Prop}(hl:IsTup s.heap l vs.toArray)(hI:StrsAre vs ns)(h64:vs.length < 64)
  (h:∀ (out:Array Value) (ns':List Str),StrsAre out.toList ns'->ns'.Perm ns->sortedS ns'=true->Q (.ref (s.heap.objs.size+1)) { s with heap:=sortedAll s.heap vs out }) :
  wpAny (model prog w) A (call (.builtin "sorted") [.ref l]) Q E s:=by
 have hz:vs.length<=sizeLine:=Nat.le_trans (Nat.le_of_lt h64) (by decide)
 refine Calls.call_function_entry kind_sorted plain_sorted entry_sorted (args_sorted1 _) ?_;unfold Builtin.«sorted»;refine wpAny_bind (m:=checkCount "sorted" 1 1 _) (wpAny_pure ?_);refine wpAny_bind (gp hl hz ?_);refine wpAny_bind (wpAny_newList ?_ hz);have hs:((s.heap.push (seqObj "list" #[] 0)).update s.heap.objs.size (Obj.mapSeq (·++vs.toArray))).objs.size=s.heap.objs.size+1:=by rw[Heap.size_update,size_push']
 have ho:(((s.heap.push (seqObj "list" #[] 0)).update s.heap.objs.size (Obj.mapSeq (·++vs.toArray))).push (seqObj "list" vs.toArray 0)).get? (s.heap.objs.size+1)=some (seqObj "list" vs.toArray 0):=by
  rw[<- hs];exact Heap.get?_push_size _ rfl
 show wpAny _ _ _ _ _ { s with heap:=((s.heap.push (seqObj "list" #[] 0)).update s.heap.objs.size (Obj.mapSeq (·++vs.toArray))).push (seqObj "list" vs.toArray 0) }
 rw[hs];refine wpAny_bind (wpAny_holding (wpAny_call_entry slot_list_sort ⟨_,ho,rfl⟩ entry_list_sort (list_sort_treeK strKind_oneLt ho hI.keysOf (fun v₁ v₂ rest e=>keyKind_strs (by rw[<- e];exact hI)) h64 fun st' a1 a2=>⟨_,rfl,?_⟩) (args_list_sort _)))
 obtain⟨ss',h1,h2,h3⟩:=sorted_out_str hI a1 a2;exact wpAny_pure ⟨_,rfl,h _ ss' h1 h2 h3⟩
end
def uH(K:PySem.W.Frag):List V->Hp->VK->Prop:=fun xs H Q=>∃ (p:Addr) (ns:List Str),xs=[.ref p]/\b6 K H p (ns.map V.str)/\ns.length < 64/\∀ ns':List Str,ns'.Perm ns->sortedS ns'=true->∀ l,H l=none->Q (.ref l) (upd H l (.lst (ns'.map V.str)))
theorem oj{X:Cx}(K:PySem.W.Frag)(hK:X.K=K):aL X (.builtin "sorted") (uH K):=by
 subst hK;intro pins s σ H xs us Q I r h;obtain⟨p,ns,rfl,hq,h64,q⟩:=h;obtain⟨u,rfl,ru⟩:=vals1 r;cases ru;obtain⟨its,rv,pl,hz⟩:=I.tuple hq;have hi:=cT rv;refine gA pl hi (by rw[mJ hi];exact h64) fun out ns' a1 a2 a3=>?_
 obtain⟨e,he⟩:=sortedAll_at s.heap its out;refine⟨.ref (s.heap.objs.size+1),_,I.laid (t':=s.toks) (fun b ob q=>sortedAll_old q) (Nat.le_succ _) (show b7 X.prog X.w _ _ _ (.lst (ns'.map V.str)) from⟨?_,out.toList,e,eU a1,by simpa using he⟩),rfl,q ns' a2 a3 _ (I.aS.fresh (Nat.le_succ _))⟩
 rw[List.length_map,a2.length_eq];exact Nat.le_trans (Nat.le_of_lt h64) (by decide)
theorem jL{K:PySem.W.Frag}{H:Hp}{B:aJ}:∀ ns:List Str,af K H B (ns.map V.str) (ns.map T.str)
 | []=>.nil
 | n::ns=>.cons (.str _) (jL ns)
theorem fS{K:PySem.W.Frag}{H:Hp}{B:aJ}:∀ {ns:List Str} {vs:List V},af K H B vs (ns.map T.str)->vs=ns.map V.str
 | [],_,.nil=>rfl
 | n::ns,_,.cons h r=>by cases h;rw[fS r];rfl
def vU(K:PySem.W.Frag):List V->Hp->VK->Prop:=fun xs H Q=>vy K xs H Q\/uH K xs H Q
theorem o6{X:Cx}(K:PySem.W.Frag)(hK:X.K=K):aL X (.builtin "sorted") (vU K):=(jE K hK).or (oj K hK)
def mW:T->Mu->(R->Mu->Prop)->Prop:=fun t μ Q=>match t with
 | .tup xs=>(∃ ns:List Int,xs=ns.map T.int/\ns.length < 64/\∀ ns':List Int,ns'.Perm ns->ns'.Pairwise (·<=·)->Q (.fr (.lst (ns'.map T.int))) μ)\/(∃ ns:List Str,xs=ns.map T.str/\ns.length < 64/\∀ ns':List Str,ns'.Perm ns->sortedS ns'=true->Q (.fr (.lst (ns'.map T.str))) μ)
 | _=>False
theorem vi{K:PySem.W.Frag}:RC K (vU K) (n8 mW):=dS fun F ad B σ H μ Q Qt x t hK l v1 q k=>by
 subst hK;unfold mW at q
 split at q
 ·rcases q with ⟨ns,rfl,h64,q⟩ | ⟨ns,rfl,h64,q⟩
  ·cases v1 with
   | tup ha ra=>exact .inl ⟨_,ns,rfl,by rw[<- bI ra];exact b6.of ha,h64,fun ns' a2 a3 p hp=>k _ _ _ (Vr.dJ l (cA _) hp) (Fr.more hp) (q ns' a2 a3)⟩
  ·cases v1 with
   | tup ha ra=>exact .inr ⟨_,ns,rfl,by rw[<- fS ra];exact b6.of ha,h64,fun ns' a2 a3 p hp=>k _ _ _ (Vr.dJ l (jL _) hp) (Fr.more hp) (q ns' a2 a3)⟩
 ·exact q.elim
theorem s_:∀ (bs:List Bool),(List.range bs.length).any (fun i=>(bs[i]?).getD false)=bs.any id
 | []=>rfl
 | b::bs=>by
  rw[List.length_cons,List.range_succ_eq_map,List.any_cons,List.any_map,List.any_cons,<- s_ bs];rfl
def DN(K:PySem.W.Frag):List V->Hp->VK->Prop:=fun xs H Q=>∃ (p:Addr) (bs:List Bool),xs=[.ref p]/\bB K H p (bs.map V.bl)/\Q (.bl (bs.any id)) H
theorem qG{X:Cx}(K:PySem.W.Frag)(hK:X.K=K)(hc:X.calm=true):aL X (.builtin "any") (DN K):=by
 subst hK;intro pins s σ H xs us Q I r h;obtain⟨p,bs,rfl,hq,q⟩:=h;obtain⟨u,rfl,ru⟩:=vals1 r;cases ru;obtain⟨its,rv,pl,hz⟩:=I.list hq;have ht:s.heap.IsList p its.toArray:=pl.isList;have hlt:p < s.heap.objs.size:=by obtain⟨o,ho,_⟩:=id ht;exact Heap.lt_size ho
 have hlen:its.length=bs.length:=by have:=rv.length;rw[List.length_map] at this;lia
 refine call_any_walk (wpAny_pyIter_list ht ?_);refine⟨_,[_,p],[_],_,_,_,fun i=>(bs[i]?).getD false,rfl,Walks.list (A:=X.A.in1) (I.ok.hd hc) _ p (Nat.ne_of_lt hlt) its.toArray,⟨⟨_,Heap.get?_push_size _ rfl,rfl,rfl⟩,ht.push _⟩,fun i v s' Q' E' hP hQ=>?_,fun h' tk hk=>?_⟩
 ·have hP':its[i]?=some v:=by rw[<- List.getElem?_toArray];exact hP
  have hi:i < bs.length:=by have:=(List.getElem?_eq_some_iff.mp hP').1;lia
  obtain⟨v',e',rr⟩:=rv.get (i:=i) (x:=V.bl bs[i]) (by rw[List.getElem?_map,List.getElem?_eq_getElem hi];rfl)
  have e2:its[i]?=some v':=e';rw[hP'] at e2;cases e2;cases rr;simp only[List.getElem?_eq_getElem hi,Option.getD_some] at hQ;exact wpAny_truthy_bool hQ
 ·have e:((List.range its.toArray.size).any fun i=>(bs[i]?).getD false)=bs.any id:=by
   rw[List.size_toArray,hlen];exact s_ bs
  rw[e];refine⟨.bl (bs.any id),H,I.kept fun b o e=>hk b o (fun hm=>?_) (Heap.get?_push_of_some _ e),rfl,q⟩;rcases List.mem_cons.mp hm with rfl | hm
  ·exact absurd (Heap.lt_size e) (Nat.lt_irrefl _)
  ·cases hm
theorem hV{K:PySem.W.Frag}{H:Hp}{B:aJ}:∀ {bs:List Bool} {vs:List V},af K H B vs (bs.map T.bl)->vs=bs.map V.bl
 | [],_,.nil=>rfl
 | n::ns,_,.cons h r=>by cases h;rw[hV r];rfl
def AW:T->Mu->(R->Mu->Prop)->Prop:=fun t μ Q=>match t with
 | .lst xs=>∃ bs:List Bool,xs=bs.map T.bl/\Q (.tr (.bl (bs.any id))) μ
 | _=>False
theorem A6{K:PySem.W.Frag}:RC K (DN K) (n8 AW):=dS fun F ad B σ H μ Q Qt x t hK l v1 q k=>by
 subst hK;unfold AW at q
 split at q
 ·obtain⟨bs,rfl,q⟩:=q
  cases v1 with
  | lst ha ra=>exact⟨_,bs,rfl,by rw[<- hV ra];exact bB.of ha,k _ _ _ (Vr.flat l (.bl _)) Fr.refl q⟩
 ·exact q.elim
noncomputable abbrev wY:=Str->List R->Mu->(R->Mu->Prop)->Prop
def Ff(um:wY)(uo:UE)(us:UA):UE:=fun μ Q=>uo μ fun ro μ1=>match ro with
 | .tr (.str z)=>us μ1 fun rs μ2=>um z rs μ2 Q
 | _=>False
def C7(K:PySem.W.Frag)(r:V->List V->Hp->VK->Prop)(um:wY):Prop:=∀ (F:Fx) (ad:Nat->Addr) (B:aJ) (σ:St) (H:Hp) (μ:Mu) (Q:VK) (Qt:R->Mu->Prop) (z:Str) (xs:List V) (rs:List R),F.K=K->Rl F ad B σ H μ->Paired (Hv F ad B H μ) xs rs->um z rs μ Qt ->
 (∀ v H' r μ',Vr F ad B σ H' μ' v r->Fr B H (Bv B v r) H'->Kp μ μ'->Qt r μ'->Q v H')->r (.str z) xs H Q
theorem sm{X:Cx}{o e:Expr}{es:List Expr}{uo:UE}{us:UA}{apos pos:Pos}(K:PySem.W.Frag)(hK:X.K=K){name:Str}{id:String}{r:V->List V->Hp->VK->Prop}{um:wY}(slot:Slot "str" name id)(hty:typeOf (.builtin id)=pure (.type "method_descriptor"))(hm:oR X id r)(hr:C7 X.K r um)(ho:YE X o uo)(ha:YA X (e::es) us)
  (hbase:attributeBase o name X.env (eval o X.env)=eval o X.env:=by rfl) (hline:(apos.endLine == pos.line)=true:=by rfl) (h:(e::es).all cx=true:=by rfl) (hl:(e::es).length < 30:=by decide):YE X (.Call (.Attribute o name apos) (e::es) [] pos) (Ff um uo us):=by
 obtain⟨t,q,rr⟩:=ho;obtain⟨t',q',r'⟩:=ha;refine⟨_,Z.bm K hK PySem.F.plainAttrs_str slot hty hm q q' hbase hline h hl,fun F ad B σ H μ Q Qt hF l q k=>rr F ad B σ H μ _ _ hF l q fun v H1 r1 μ1 v1 f1 k1 q1=>?_⟩
 split at q1
 ·rename_i z;obtain⟨l1,rp⟩:=v1;cases rp;refine⟨rfl,?_⟩;refine r' F ad B σ H1 μ1 _ _ hF l1 q1 fun xs H2 rs μ2 l2 ps f2 k2 q2=>?_;exact hr F ad B σ H2 μ2 _ _ z xs rs hF l2 ps q2 fun v H3 r3 μ3 v3 f3 k3 q3=>k v H3 r3 μ3 v3 ((f1.d.trans f2).trans f3) ((k1.trans k2).trans k3) q3
 ·exact q1.elim
def oO:V->List V->Hp->VK->Prop:=fun x vs H Q=>∃ z y,x=.str z/\vs=[.str y]/\Q (.bl (Txt.startswith z y)) H
theorem rL{X:Cx}:oR X "str.startswith" oO:=by
 intro pins s σ H x xs v us Q I rx rs h;obtain⟨z,y,rfl,rfl,q⟩:=h;obtain⟨t,rfl⟩:=rx;obtain⟨u,rfl,k,rfl⟩:=vals1 rs;exact SC.startswith ⟨.bl _,H,I,rfl,q⟩
def eX:wY:=fun z rs μ Q=>match rs with
 | [.tr (.str y)]=>Q (.tr (.bl (Txt.startswith z y))) μ
 | _=>False
theorem rD{K:PySem.W.Frag}:C7 K oO eX:=by
 intro F ad B σ H μ Q Qt z xs rs hF l ps q k;unfold eX at q
 split at q
 ·cases ps with
  | cons h ps =>
   cases ps
   cases aW h
   exact⟨z,_,rfl,rfl,k _ H _ μ (Vr.flat l (.bl _)) Fr.refl (Kp.refl μ) q⟩
 ·exact q.elim
end Y
namespace A
theorem EA(xs:List T)(μ:Mu)(Q:R->Mu->Prop):Y.AW (.lst xs) μ Q=(∃ bs:List Bool,xs=bs.map T.bl/\Q (.tr (.bl (bs.any id))) μ):=rfl
end A
namespace Y
theorem sZ(l:List Nat):∀ (n a:Nat),((List.range n).map (fun k=>a+k)).filterMap (l[·]?)=(l.drop a).take n
 | 0,_=>by simp
 | n+1,a=>by
  rw[List.range_succ,List.map_append,List.filterMap_append,sZ l n a,List.take_add_one,List.getElem?_drop]
  cases h:l[a+n]?<;>simp[h]
theorem lG(lo hi:Option Int)(n:Nat):Builtin.Str.strSliceIndices lo hi 1 n=(List.range (HT.bq n n hi - HT.bq n 0 lo)).map (fun k=>HT.bq n 0 lo+k):=by
 have ea:∀ (v:Int),max 0 (min (if v < 0 then v+(n:Int) else v) (n:Int))=(((if v < 0 then (v+(n:Int)).toNat else min v.toNat n):Nat):Int):=by
  intro v;split<;>lia
 have e:Builtin.Str.strSliceIndices lo hi 1 n=sliceRange (HT.bq n 0 lo) (HT.bq n n hi) 1:=by
  cases lo with
  | none=>cases hi with
   | none=>rfl
   | some j=>show sliceRange 0 (max 0 (min (if j < 0 then j+(n:Int) else j) (n:Int))) 1=_;rw[ea];rfl
  | some i=>cases hi with
   | none=>show sliceRange (max 0 (min (if i < 0 then i+(n:Int) else i) (n:Int))) n 1=_;rw[ea];rfl
   | some j=>show sliceRange (max 0 (min (if i < 0 then i+(n:Int) else i) (n:Int))) (max 0 (min (if j < 0 then j+(n:Int) else j) (n:Int))) 1=_;rw[ea,ea];rfl
 rw[e];generalize HT.bq n 0 lo=a;generalize HT.bq n n hi=b;unfold sliceRange;simp only[show ((1:Int) > 0)=True from by simp,if_true,Int.one_mul]
 have c:(if (a:Int) < (b:Int) then ((b:Int) - a+1 - 1) / 1 else 0).toNat=b - a:=by split<;>lia
 rw[c];refine List.map_congr_left fun k _=>?_;lia
theorem og(z:Str)(lo hi:Option Int):Txt.slice z lo hi=⟨((z.cps.toList.drop (HT.bq z.cps.toList.length 0 lo)).take (HT.bq z.cps.toList.length z.cps.toList.length hi - HT.bq z.cps.toList.length 0 lo)).toArray⟩:=by
 have hl:z.cps.toList.length=z.length:=Array.length_toList;rw[hl];have hp:(Builtin.Str.strSliceIndices lo hi 1 z.length).filterMap (z.cps[·]?)=(z.cps.toList.drop (HT.bq z.length 0 lo)).take (HT.bq z.length z.length hi - HT.bq z.length 0 lo):=by
  rw[lG];have:=sZ z.cps.toList (HT.bq z.length z.length hi - HT.bq z.length 0 lo) (HT.bq z.length 0 lo)
  simpa using this
 unfold Txt.slice;split
 ·rename_i h;rw[lG] at h;simp at h;have h2:=HT.nA z.length z.length (Nat.le_refl _) hi;have h3:=HT.nA z.length 0 (Nat.zero_le _) lo;have a0:HT.bq z.length 0 lo=0:=by lia
  have b0:HT.bq z.length z.length hi=z.length:=by lia
  rw[a0,b0,List.drop_zero,Nat.sub_zero,<- hl,List.take_length]
 ·rw[hp]
def eH(z:Str)(lo hi:Option Int):Str:=⟨(bu z.cps.toList lo hi).toArray⟩
theorem qL(z:Str)(lo hi:Option Int):Txt.slice z lo hi=eH z lo hi:=og z lo hi
def DG:V->Option Int->Option Int->Hp->VK->Prop:=fun x lo hi H Q=>∃ z,x=.str z/\z.length<=sizeLine/\Q (.str (eH z lo hi)) H
theorem Cu{X:Cx}:sD X DG:=by
 intro pins s σ H x v vl vu lo hi sl Q I rx hs pl pu h;obtain⟨z,rfl,hz,q⟩:=h;rw[<- qL] at q;obtain⟨t,rfl⟩:=rx;refine⟨"str",_,PySem.F.slot_str_getitem.lookup,typeIs_str _ _ _,?_⟩
 cases pl<;>cases pu
 ·exact wpAny_getItem_str_slice (l:=none) (u:=none) (st:=none) hs rfl (post_val_or_str ⟨Nat.le_trans (Txt.slice_le z _ _) hz,fun t' k=>⟨.str _,H,I.tok _,⟨_,rfl⟩,q⟩⟩)
 ·exact wpAny_getItem_str_slice (l:=none) (u:=some (_,_)) (st:=none) hs rfl (post_val_or_str ⟨Nat.le_trans (Txt.slice_le z _ _) hz,fun t' k=>⟨.str _,H,I.tok _,⟨_,rfl⟩,q⟩⟩)
 ·exact wpAny_getItem_str_slice (l:=some (_,_)) (u:=none) (st:=none) hs rfl (post_val_or_str ⟨Nat.le_trans (Txt.slice_le z _ _) hz,fun t' k=>⟨.str _,H,I.tok _,⟨_,rfl⟩,q⟩⟩)
 ·exact wpAny_getItem_str_slice (l:=some (_,_)) (u:=some (_,_)) (st:=none) hs rfl (post_val_or_str ⟨Nat.le_trans (Txt.slice_le z _ _) hz,fun t' k=>⟨.str _,H,I.tok _,⟨_,rfl⟩,q⟩⟩)
def GK(K:PySem.W.Frag):V->Option Int->Option Int->Hp->VK->Prop:=fun x lo hi H Q=>DF K x lo hi H Q\/DG x lo hi H Q
theorem Gm{X:Cx}(K:PySem.W.Frag)(hK:X.K=K):sD X (GK K):=(Ga K hK).or Cu
def A1(a:Option T)(lo hi:Option Int):Option (Prop×R):=match a with
 | some (.lst xs)=>some (True,.fr (.lst (bu xs lo hi)))
 | some (.d7 xs)=>some (True,.fr (.lst (bu xs lo hi)))
 | some (.tup xs)=>some (True,.tr (.tup (bu xs lo hi)))
 | some (.str z)=>some (z.length<=sizeLine,.tr (.str (eH z lo hi)))
 | _=>none
def Bz(ue:UE)(ul uh:UO):UE:=fun μ Q=>ue μ fun r μ1=>ul μ1 fun lo μ2=>uh μ2 fun hi μ3=>stp (A1 (cont μ3 r.d) lo hi) fun r=>Q r μ3
theorem Aj{X:Cx}{e:Expr}{ue:UE}{p2 pos:Pos}{lo hi:Option Expr}{ul uh:UO}(K:PySem.W.Frag)(hK:X.K=K)(he:YE X e ue)(hl:YO X lo ul)(hu:YO X hi uh):YE X (.Subscript e (.Slice lo hi none p2) pos) (Bz ue ul uh):=by
 obtain⟨t,q,r⟩:=he;obtain⟨tl,ql,rl⟩:=hl;obtain⟨th,qh,rh⟩:=hu;refine⟨_,Z.slice (Gm K hK) q ql qh,fun F ad B σ H μ Q Qt hF l q k=>r F ad B σ H μ _ _ hF l q fun v H1 r1 μ1 v1 f1 k1 q1=>rl F ad B σ H1 μ1 _ _ hF v1.rl q1 fun i H2 μ2 l2 f2 k2 q2=>rh F ad B σ H2 μ2 _ _ hF l2 q2 fun j H3 μ3 l3 f3 k3 q3=>?_⟩;have hF':F.K=K:=hF.trans hK;clear hF;subst hF';have hv:=v1.hv.fr (f2.trans f3) (k2.trans k3);have ff:=(f1.d.trans f2).trans f3;have kk:=(k1.trans k2).trans k3;generalize eo:cont μ3 r1.d=o at q3;unfold A1 stp at q3
 cases o with
 | none=>exact q3.elim
 | some o=>cases o with
  | lst xs =>
   have w:=hv.vw l3 eo
   cases w with
   | lst ha ra=>exact .inl (.inl ⟨_,_,rfl,bB.of ha,fun p hp=>k _ _ _ μ3 (Vr.dJ l3 (af.cut ra i j) hp) (ff.trans (Fr.more hp)) kk q3.2⟩)
  | d7 xs =>
   have w:=hv.vw l3 eo
   cases w with
   | d7 ha ra=>exact .inl (.inl ⟨_,_,rfl,ha,fun p hp=>k _ _ _ μ3 (Vr.dJ l3 (af.cut ra i j) hp) (ff.trans (Fr.more hp)) kk q3.2⟩)
  | tup xs =>
   have w:=Hv.yA l3 hv eo;have w':=w
   cases w with
   | tup na ha ra =>
    by_cases z:HT.bq xs.length 0 i=0/\HT.bq xs.length xs.length j=xs.length
    ·have e0:bu xs i j=xs:=by unfold bu;rw[z.1,z.2,Nat.sub_zero,List.drop_zero,List.take_length]
     have q4:=q3.2;rw[e0] at q4;exact .inl (.inr (.inr ⟨_,_,rfl,b6.of ha,by rw[ra.length];exact z.1,by rw[ra.length];exact z.2,k _ H3 _ μ3 (Vr.flat l3 w') ff kk q4⟩))
    ·exact .inl (.inr (.inl ⟨_,_,rfl,b6.of ha,by rw[ra.length];exact z,fun p hp=>k _ _ _ μ3 (Vr.vV l3 (af.cut ra i j) hp) (ff.trans (Fr.same (bC.new hp))) kk q3.2⟩))
  | str z =>
   have w:=hv.vw l3 eo;cases w;exact .inr ⟨z,rfl,q3.1,k _ H3 _ μ3 (Vr.flat l3 (.str _)) ff kk q3.2⟩
  | aI=>exact q3.elim
  | bl b=>exact q3.elim
  | int n=>exact q3.elim
  | dk a b=>exact q3.elim
  | mO a b=>exact q3.elim
  | exc a b=>exact q3.elim
  | gm xs=>exact q3.elim
def iH:UM:=fun j rs μ Q=>match rs with
 | [.tr (.int i)]=>(match (μ[j]?).bind Sl.box with
  | some (.lst ts)=>-(2 ^ 63)<=i/\i < 2 ^ 63/\∃ k t,seqIndex? i ts.length=some k/\ts[k]?=some t/\Q (.tr t) (cN μ j (.lst (ts.eraseIdx k)))
  | _=>False)
 | _=>False
theorem lF{K:PySem.W.Frag}:RM K sU iH:=by
 intro F ad B σ H μ Q Qt j s c xs rs hF l e b ps q k;unfold iH at q
 split at q
 ·rename_i i
  cases ps with
  | cons h ps =>
   cases ps;rw[e] at q
   cases aW h
   have q':(match s.box with | some (.lst ts)=>-(2 ^ 63)<=i/\i < 2 ^ 63/\∃ k t,seqIndex? i ts.length=some k/\ts[k]?=some t/\Qt (.tr t) (cN μ j (.lst (ts.eraseIdx k))) | _=>False):=q
   rw[b] at q';rcases ((l.slot j s e).boxed b).2.2.1.is with ⟨ts,vs,rfl,hl,rv⟩ | ⟨_,_,_,rfl,_⟩
   case inr=>exact q'.elim
   simp only at q';obtain⟨h1,h2,n,t,hk,ht,q2⟩:=q';obtain⟨y,hy,ry⟩:=rv.get ht;have fs:Fr B H B (upd H (ad j) (.lst (vs.eraseIdx n))):=Fr.set ((l.slot j s e).boxed b).2.1;refine⟨_,_,i,n,y,rfl,rfl,hl,h1,h2,by rw[rv.length];exact hk,hy,?_⟩
   have l3:=l.put e b (rv.erase n);unfold cN at q2;rw[e] at q2;exact k _ _ (.tr t) _ (Vr.flat l3 (ry.fr fs)) fs (Kp.set e b (Sl.gI b)) q2
 ·exact q.elim
def m9:wY:=fun z rs μ Q=>match rs with
 | [r]=>(match cont μ r with
  | some (.lst xs)=>∃ ys:List Str,xs=ys.map T.str/\(ys.map (·.length)).sum+ys.length*z.length<=16777216/\Q (.tr (.str (Str.join z ys))) μ
  | _=>False)
 | _=>False
theorem tU{X:Cx}(K:PySem.W.Frag)(hK:X.K=K):oR X "str.join" (rJoin K):=by subst hK;exact yT
theorem x3{K:PySem.W.Frag}:C7 K (rJoin K) m9:=by
 intro F ad B σ H μ Q Qt z xs rs hF l ps q k;subst hF;unfold m9 at q
 split at q
 ·rename_i r
  cases ps with
  | cons h ps =>
   cases ps
   split at q
   ·rename_i ts e;obtain⟨ys,rfl,hz,q⟩:=q;have w:=h.vw l e
    cases w with
    | lst ha ra=>exact⟨z,_,ys,rfl,rfl,by rw[<- fS ra];exact bB.of ha,hz,k _ H _ μ (Vr.flat l (.str _)) Fr.refl (Kp.refl μ) q⟩
   ·exact q.elim
 ·exact q.elim
def EC(i:Nat):UG:=fun r μ Q=>match r with
 | .tr t=>sE μ i/\Q (μ.set i (.tr t))
 | .fr t=>sE μ i/\Q (μ.set i (.tr t))
 | .br _=>False
theorem hZ{K:PySem.W.Frag}{i:Nat}:RG K (cG i) (EC i):=fun F ad B σ H μ v r B0 H0 Q Qt hK h f q k=>by
 cases r with
 | tr t=>exact k ad B _ H _ (h.1.BG (jR q.1) h.2) f q.2
 | br i=>exact q.elim
 | fr c =>
  refine k ad B _ H _ (h.rl.BG (jR q.1) h.hv) (f.trans (Fr.less fun b z=>?_)) q.2;obtain⟨_,a,rfl,_⟩:=h;exact Or.inr z
section
variable {X:Cx} {e elt tg iter:Expr} {ifs:List Expr} {ue:UE} {ut:UT} {ui:UI} {pos pos' p2:Pos} {x:Str} {osc scope:Scope} {ON own N:List Str}
theorem Gq{i:Nat}(hN:X.N.Nodup)(hi:X.N[i]?=some x)(hx:Loc X.env.scope x)(he:YE X e ue)(hs:Z.zJ e=true:=by rfl)(hf:X.fn x=true\/X.env.scope.names.lookup x=some .local:=by first | exact .inl rfl | exact .inr rfl | assumption):
  YS X (.Assign [.Name x pos'] e pos) (kU ue (EC i)):=by
 obtain⟨t,q,r⟩:=he;exact⟨_,Z.set hN hi hx q hs hf,iP r hZ⟩
theorem BQ{j:Nat}(K:PySem.W.Frag)(hK:X.K=K)(hN:X.N.Nodup)(hj:X.N[j]?=some x)(hx:Loc X.env.scope x)(S:bP osc ON scope own N)(hosc:X.env.scope=osc)(hON:X.N=ON)(hc:X.calm=true)(ho:own.length=2)(hi:YI X tg iter ui)
  (hg:∀ C s H fp,QG (aA X scope N C s H fp) tg (vA K 2 (gn (cG 0) (gn (cG 1) w6)))) (ht:∀ C s H fp,zF (aA X scope N C s H fp) ifs ut) (he:∀ C s H fp,YE (aA X scope N C s H fp) elt ue)
  (hsw:swapsWith (.ListComp elt [⟨tg,iter,ifs,0⟩] scope p2) (some (.Name x pos')) pos.line X.env=pure true:=by rfl)
  (hf:X.fn x=true\/X.env.scope.names.lookup x=some .local:=by first | exact .inl rfl | exact .inr rfl | assumption) (hs:∀ x,foldedSetIterable iter X.env x=pure x:=by intro _;rfl) :
  YS X (.Assign [.Name x pos'] (.ListComp elt [⟨tg,iter,ifs,0⟩] scope p2) pos) (kU (f_ su Fd ui ut ue) (EC j)):=by
 obtain⟨t,q,r⟩:=hi;subst hK;have h:=Z.setC (tc:=sx X.K ut) (te:=qQ X.K ue) hN hj hx S hosc hON hc q hg (fun C s H fp=>(ht C s H fp).yt) (fun C s H fp=>(he C s H fp).yt) hsw hf hs;rw[ho] at h;exact⟨_,h,iP (gP pX r pO pH) hZ⟩
end
end Y
namespace A
theorem xG(xs:List T)(μ:Mu)(Q:R->Mu->Prop):Y.mW (.tup xs) μ Q=((∃ ns:List Int,xs=ns.map T.int/\ns.length < 64/\∀ ns':List Int,ns'.Perm ns->ns'.Pairwise (·<=·)->Q (.fr (.lst (ns'.map T.int))) μ)\/(∃ ns:List Str,xs=ns.map T.str/\ns.length < 64/\∀ ns':List Str,ns'.Perm ns->sortedS ns'=true->Q (.fr (.lst (ns'.map T.str))) μ)):=rfl
theorem Ff(um:Y.wY)(uo:UE)(us:UA)(μ:Mu)(Q:R->Mu->Prop):Y.Ff um uo us μ Q=uo μ fun ro μ1=>match ro with | .tr (.str z)=>us μ1 fun rs μ2=>um z rs μ2 Q | _=>False:=rfl
theorem eX(z y:Str)(μ:Mu)(Q:R->Mu->Prop):Y.eX z [.tr (.str y)] μ Q=Q (.tr (.bl (Txt.startswith z y))) μ:=rfl
theorem m9(z:Str)(r:R)(μ:Mu)(Q:R->Mu->Prop):Y.m9 z [r] μ Q=(match cont μ r with
  | some (.lst xs)=>∃ ys:List Str,xs=ys.map T.str/\(ys.map (·.length)).sum+ys.length*z.length<=16777216/\Q (.tr (.str (Str.join z ys))) μ
  | _=>False):=rfl
theorem iH(j:Nat)(i:Int)(μ:Mu)(Q:R->Mu->Prop):Y.iH j [.tr (.int i)] μ Q=(match (μ[j]?).bind Sl.box with
  | some (.lst ts)=>-(2 ^ 63)<=i/\i < 2 ^ 63/\∃ k t,seqIndex? i ts.length=some k/\ts[k]?=some t/\Q (.tr t) (cN μ j (.lst (ts.eraseIdx k)))
  | _=>False):=rfl
theorem GB(i:Nat)(t:T)(μ:Mu)(Q:Mu->Prop):Y.EC i (.fr t) μ Q=(Y.sE μ i/\Q (μ.set i (.tr t))):=rfl
end A
namespace Y
def dY(z y:Str)(i:Int):Bool:=decide (fromIndex z.length i+y.length<=z.length) && Builtin.Str.subAt z y (fromIndex z.length i)
def lC:V->List V->Hp->VK->Prop:=fun x vs H Q=>∃ z y i,x=.str z/\vs=[.str y,.int i]/\Q (.bl (dY z y i)) H
theorem oC{X:Cx}:oR X "str.startswith" lC:=by
 intro pins s σ H x xs v us Q I rx rs h;obtain⟨z,y,i,rfl,rfl,q⟩:=h;obtain⟨t,rfl⟩:=rx
 cases rs with
 | cons r1 rs=>cases rs with
  | cons r2 rs =>
   cases rs;obtain⟨u1,rfl⟩:=r1;obtain⟨u2,rfl⟩:=r2;exact call_gives PySem.F.slot_str_startswith (typeIs_str _ _ _) PySem.F.entry_str_startswith (PySem.F.args_str_startswith_3 _ _ _) (gives_str_startswith_from z y i t _ _) ⟨.bl _,H,I,rfl,q⟩
def dH:wY:=fun z rs μ Q=>match rs with
 | [.tr (.str y),.tr (.int i)]=>Q (.tr (.bl (dY z y i))) μ
 | _=>False
theorem nL{K:PySem.W.Frag}:C7 K lC dH:=by
 intro F ad B σ H μ Q Qt z xs rs hF l ps q k;unfold dH at q
 split at q
 ·cases ps with
  | cons h ps=>cases ps with
   | cons h2 ps =>
    cases ps
    cases aW h
    cases aW h2
    exact⟨z,_,_,rfl,rfl,k _ H _ μ (Vr.flat l (.bl _)) Fr.refl (Kp.refl μ) q⟩
 ·exact q.elim
theorem yF{X:Cx}{e c:Option Expr}{pos:Pos}:YS X (.Raise e c pos) (fun _ _=>False):=⟨fun _ _ _=>False,⟨fun _ _ _ _ _ _ h=>h.elim⟩,fun _ _ _ _ _ _ _ _ _ _ h _=>h⟩
end Y
namespace A
theorem dH(z y:Str)(i:Int)(μ:Mu)(Q:R->Mu->Prop):Y.dH z [.tr (.str y),.tr (.int i)] μ Q=Q (.tr (.bl (Y.dY z y i))) μ:=rfl
end A
def Fl(h:Heap)(e:Addr)(cls:Value)(d:Option Addr):Option Addr->Prop
 | none=>∃ oe vs,h.get? e=some oe/\oe.cls=cls/\oe.dict=d/\oe.data=.fields vs/\vs[1]?=some Value.none
 | some T=>∃ oe vs oT ts,h.get? e=some oe/\oe.cls=cls/\oe.dict=d/\oe.data=.fields vs/\vs[1]?=some (.ref T)/\T≠e/\h.get? T=some oT/\oT.data=.fields ts/\ts[3]?=some Value.none
theorem Fl.is{h:Heap}{e:Addr}{cls:Value}{d To:Option Addr}(f:Fl h e cls d To):jd e cls d h:=by
 cases To with
 | none=>obtain⟨oe,vs,h1,h2,h3,h4,_⟩:=f;exact⟨oe,vs,h1,h2,h3,h4⟩
 | some T=>obtain⟨oe,vs,_,_,h1,h2,h3,h4,_⟩:=f;exact⟨oe,vs,h1,h2,h3,h4⟩
theorem jd.ok{P:Program}{w:World}{H:Hp}{h:Heap}{e:Addr}{cls:Value}{d:Option Addr}(x:jd e cls d h):b7 P w H h e (.ext (jd e cls d)):=
 ⟨x,let ⟨o,_,h1,_⟩:=x;⟨o,h1⟩,fun h1 h2 ⟨o,vs,a,b,c,d⟩ k=>⟨o,vs,k o a,b,c,d⟩⟩
theorem jd.one{h:Heap}{e:Addr}{cls cls':Value}{d d':Option Addr}(x:jd e cls d h)(y:jd e cls' d' h):cls=cls'/\d=d':=by
 obtain⟨o,_,h1,h2,h3,_⟩:=x;obtain⟨o',_,g1,g2,g3,_⟩:=y;rw[h1] at g1;cases g1;exact⟨h2.symm.trans g2,h3.symm.trans g3⟩
structure Mv (h h':Heap) (e:Addr) (To:Option Addr) (fs:List Addr) (T':Addr):Prop where
 keep:∀ b o,b≠e->(∀ T,To=some T->b≠T)->b∉fs->h.get? b=some o->h'.get? b=some o
 slot:∀ b o,b∈fs->h.get? b=some o->∃ sl,h'.get? b=some { o with slots:=sl }
 new:(h.get? T'=none\/To=some T')/\T'∉fs
section
variable {h:Heap} {e:Addr} {cls:Value} {d:Option Addr} {base:Heap} {l:List Env}
theorem Fl.zc{T:Addr}(f:Fl h e cls d (some T))(hl:h.FunFrames base l):T∉gx l:=fun m=>by
 obtain⟨_,o,ho,hd⟩:=hl.mem m;obtain⟨_,_,oT,ts,_,_,_,_,_,_,hT,hdT,_⟩:=f;rw[hT] at ho;cases ho;exact hd ts hdT
theorem t7{o:Obj}{vs:Array Value}(q:o.data=.fields vs)(g:Array Value->Array Value):o.mapFields g={ o with data:=.fields (g vs) }:=by
 obtain⟨c,dd,dt,sl⟩:=o;cases q;rfl
end
section
variable {M:Model} {A:Around} {E:Value->Shared->Prop} {s:Shared} {env:Env} {outer:List Env} {L e:Addr} {cls:Value} {d:Option Addr} {base:Heap}
theorem ku{a:Addr}{o:Obj}{vs:Array Value}{i:Nat}{x:Value}{Q:Unit->Shared->Prop}(ho:s.heap.get? a=some o)(hd:o.data=.fields vs)(hi:i < vs.size)
  (hq:∀ h':Heap,(∀ b,b≠a->h'.get? b=s.heap.get? b)->h'.get? a=some { o with data:=.fields (vs.setIfInBounds i x) }->Q () { s with heap:=h' }):wpAny M A (setField (.ref a) i x) Q E s:=by
 have hm:=t7 hd (·.setIfInBounds i x);refine wpAny_setField ho hd hi (hq _ (fun b n=>Heap.get?_update_other _ _ (Ne.symm n)) ?_);have:=Heap.get?_update_self (Obj.mapFields (·.setIfInBounds i x)) ho (Obj.isFreed_of_fields (Obj.data_mapFields hd _));rw[hm] at this;exact this
theorem jk{T:Addr}{fl:Value}{oe oT:Obj}{vs ts:Array Value}{Q:Unit->Shared->Prop}(he:s.heap.get? e=some oe)(hd:oe.data=.fields vs)(h1:vs[1]?=some (.ref T))(hne:T≠e)(hT:s.heap.get? T=some oT)(hdT:oT.data=.fields ts)(h3:ts[3]?=some fl)
  (hq:∀ h':Heap,(∀ b,b≠T->h'.get? b=s.heap.get? b)->h'.get? T=some { oT with data:=.fields (ts.setIfInBounds 3 .none) }->Q () { s with heap:=h' }):wpAny M A (setFlight (.ref e) none) Q E s:=by
 unfold setFlight;refine wpAny_bind (wpAny_field he hd h1 ?_);rw[if_pos (by simp)]
 exact ku hT hdT (Array.getElem?_eq_some_iff.mp h3).1 hq
theorem pB{oe:Obj}{vs:Array Value}{head:Value}{hn:Bool}{Q:Unit->Shared->Prop}(hfr:A.frames=some (env::outer))(hf:env.frame=some L)(hl:s.heap.FunFrames base (env::outer))(he:s.heap.get? e=some oe)(hd:oe.data=.fields vs)(hsz:1 < vs.size)
  (hq:∀ (h':Heap) (T':Addr) (oT:Obj) (ts:Array Value),(∀ b o,b≠e->b∉gx (env::outer)->s.heap.get? b=some o->h'.get? b=some o)->(∀ b o,b∈gx (env::outer)->s.heap.get? b=some o->∃ sl,h'.get? b=some { o with slots:=sl }) ->
   s.heap.get? T'=none->h'.get? e=some { oe with data:=.fields (vs.setIfInBounds 1 (.ref T')) }->h'.get? T'=some oT->oT.data=.fields ts->ts[3]?=some (rawInt L)->T'≠e->T'∉gx (env::outer)->Q () { s with heap:=h' }) :
  wpAny M A (frameOf env >>= fun a=>entryPlaceOf L hn >>= fun pl=>EntryCells.newEntry head a .none (rawInt L) .none pl >>= fun b=>setField (.ref e) 1 b) Q E s:=by
 have nfe:e∉gx (env::outer):=fun m=>by
  obtain⟨_,o,ho,hnf⟩:=hl.mem m;rw[he] at ho;cases ho;exact hnf vs hd
 refine wpAny_bind (wpAny_frameOf_fun hfr hl hf fun h1 hs=>?_);obtain⟨hs1,hs2,hs3⟩:=hs;refine wpAny_bind (wpAny_entryPlaceOf fun pl hpl=>?_);unfold EntryCells.newEntry newFields;refine wpAny_bind (wpAny_newObj_type ?_ (hpl.sizeOk5 _ _ _ _ _));have e1:h1.get? e=some oe:=(hs2 e nfe).trans he;have hsize:∀ b o,h1.get? b=some o->b≠h1.objs.size:=fun b o q=>Nat.ne_of_lt (Heap.lt_size q);refine ku (Heap.get?_push_of_some _ e1) hd hsz fun h2 k1 k2=>?_;have nfT:h1.objs.size∉gx (env::outer):=fun m=>by
  obtain⟨_,o,ho,_⟩:=hl.mem m;obtain⟨sl,q⟩:=hs3 _ o ho;exact hsize _ _ q rfl
 refine hq h2 h1.objs.size _ _ (fun b o n1 n2 q=>?_) (fun b o m q=>?_) ?_ k2 ((k1 _ (Ne.symm (hsize _ _ e1))).trans (Heap.get?_push_size h1 rfl)) rfl ?_ (Ne.symm (hsize _ _ e1)) nfT
 ·rw[k1 b n1];exact Heap.get?_push_of_some _ ((hs2 b n2).trans q)
 ·obtain⟨sl,q1⟩:=hs3 b o q;exact⟨sl,(k1 b fun z=>nfe (by rw[<- z];exact m)).trans (Heap.get?_push_of_some _ q1)⟩
 ·cases q:s.heap.get? h1.objs.size with
  | none=>rfl
  | some o =>
   obtain⟨sl,q1⟩:=hs3 _ o q;exact absurd rfl (hsize _ _ q1)
 ·rcases hpl with rfl | ⟨_,_,_,_,_,_,_,rfl⟩<;>simp
theorem wL{To:Option Addr}{Q:Unit->Shared->Prop}(hfr:A.frames=some (env::outer))(hf:env.frame=some L)(hl:s.heap.FunFrames base (env::outer))(f:Fl s.heap e cls d To)
  (hq:∀ h' T',Mv s.heap h' e To (gx (env::outer)) T'->Fl h' e cls d (some T')->Q () { s with heap:=h' }):wpAny M A (noteFrame (.ref e) env) (fun _ s2=>wpAny M A (setFlight (.ref e) none) Q E s2) E s:=by
 unfold noteFrame;simp only[hf]
 cases To with
 | none =>
  obtain⟨oe,vs,g1,g2,g3,g4,g5⟩:=id f;have hsz:=(Array.getElem?_eq_some_iff.mp g5).1;refine wpAny_bind (wpAny_field g1 g4 g5 ?_);rw[if_neg (by decide)]
  refine pB hfr hf hl g1 g4 hsz fun h1 T' oT ts k1 k2 k3 k4 k5 k6 k7 k8 k9=>?_;refine jk (s:={ s with heap:=h1 }) k4 rfl (by simp[hsz]) k8 k5 k6 k7 fun h2 j1 j2=>?_
  have nT:∀ b o,s.heap.get? b=some o->b≠T':=fun b o q z=>by rw[z,k3] at q;cases q
  refine hq h2 T' ⟨fun b o n1 _ n3 q=>?_,fun b o m q=>?_,.inl k3,k9⟩ ⟨_,_,_,_,(j1 e (Ne.symm k8)).trans k4,g2,g3,rfl,by simp[hsz],k8,j2,rfl,?_⟩
  ·exact (j1 b (nT b o q)).trans (k1 b o n1 n3 q)
  ·obtain⟨sl,q1⟩:=k2 b o m q;exact⟨sl,(j1 b (nT b o q)).trans q1⟩
  ·have:=(Array.getElem?_eq_some_iff.mp k7).1;simp[this]
 | some T =>
  obtain⟨oe,vs,oT,ts,g1,g2,g3,g4,g5,g6,g7,g8,g9⟩:=id f;have hsz:=(Array.getElem?_eq_some_iff.mp g5).1;have nfT:=f.zc hl;refine wpAny_bind (wpAny_field g1 g4 g5 ?_);rw[if_pos (by simp)]
  refine wpAny_bind (wpAny_field g7 g8 g9 ?_);rw[if_neg (by simp[rawInt])]
  refine wpAny_bind (ku g7 g8 (Array.getElem?_eq_some_iff.mp g9).1 fun h0 i1 i2=>?_);have hl0:h0.FunFrames base (env::outer):=hl.of_keeps fun b o q hn=>⟨o,(i1 b fun z=>by rw[z,g7] at q;cases q;exact hn ts g8).trans q,rfl⟩
  refine pB (s:={ s with heap:=h0 }) hfr hf hl0 ((i1 e (Ne.symm g6)).trans g1) g4 hsz fun h1 T' oT' ts' k1 k2 k3 k4 k5 k6 k7 k8 k9=>?_
  refine jk (s:={ s with heap:=h1 }) k4 rfl (by simp[hsz]) k8 k5 k6 k7 fun h2 j1 j2=>?_
  have nTT:T'≠T:=fun z=>by
   have k3':h0.get? T'=none:=k3;rw[z,i2] at k3';cases k3'
  have nT:∀ b o,s.heap.get? b=some o->b≠T':=fun b o q z=>by
   have k3':h0.get? T'=none:=k3;rw[<- z] at k3';by_cases z2:b=T
   ·exact nTT (z.symm.trans z2)
   ·rw[i1 b z2,q] at k3';cases k3'
  refine hq h2 T' ⟨fun b o n1 n2 n3 q=>?_,fun b o m q=>?_,.inl ?_,k9⟩ ⟨_,_,_,_,(j1 e (Ne.symm k8)).trans k4,g2,g3,rfl,by simp[hsz],k8,j2,rfl,?_⟩
  ·exact (j1 b (nT b o q)).trans (k1 b o n1 n3 ((i1 b (n2 T rfl)).trans q))
  ·have nbT:b≠T:=fun z=>nfT (by rw[<- z];exact m)
   obtain⟨sl,q1⟩:=k2 b o m ((i1 b nbT).trans q);exact⟨sl,(j1 b (nT b o q)).trans q1⟩
  ·exact (i1 T' nTT).symm.trans k3
  ·have:=(Array.getElem?_eq_some_iff.mp k7).1;simp[this]
theorem rX{To:Option Addr}{Q:Unit->Shared->Prop}(hfr:A.frames=some (env::outer))(hf:env.frame=some L)(hl:s.heap.FunFrames base (env::outer))(f:Fl s.heap e cls d To)
  (hq:∀ h' T',Mv s.heap h' e To (gx (env::outer)) T'->Fl h' e cls d (some T')->Q () { s with heap:=h' }):wpAny M A (leaving env (.ref e)) Q E s:=by
 unfold leaving;exact wpAny_bind (wL hfr hf hl f hq)
end
theorem eE.wB{P:Program}{w:World}{H:Hp}{h h':Heap}{a:Addr}{o:HO}(x:eE P w H h)(k:∀ b u,h.get? b=some u->h'.get? b=some u)(hn:H a=none)(new:b7 P w (upd H a o) h' a o):eE P w (upd H a o) h':=fun b u e=>by
 by_cases z:b=a
 ·subst z;rw[aj] at e;cases e;exact new
 ·rw[ae z] at e;exact (x b u e).gZ (fun c v _ q=>k c v q) (fun c q=>by rw[ae (ak q hn)];exact q) (fun c xs q=>by rw[ae (ak q hn)];exact q) fun c _ _ q=>by rw[ae (ak q hn)];exact q
theorem Un.wB{fs ex:List Addr}{H:Hp}{h h':Heap}{a:Addr}{o:HO}(k:∀ b u,h.get? b=some u->h'.get? b=some u)(h0:h.get? a=none)(hn:H a=none):Un fs ex H (upd H a o) h h' where
 keep:=fun b u q _ _ _=>k b u q
 slot:=fun b u q _ _ _=>⟨u.slots,k b u q⟩
 free:=fun b u q n _=>by rw[ae (fun z=>by rw[z,h0] at q;cases q)];exact n
 there:=fun b u q _=>⟨u,k b u q⟩
 ja:=fun b xs q=>by rw[ae (ak q hn)];exact q
 gX:=fun b u xs q=>by rw[ae (ak q hn)];exact q
 gC:=fun b ps q=>⟨#[],by rw[ae (ak q hn),q];simp⟩
theorem eE.none_of{P:Program}{w:World}{H:Hp}{h:Heap}{a:Addr}(x:eE P w H h)(e:h.get? a=none):H a=none:=by
 cases q:H a with
 | none=>rfl
 | some u =>
  have:=x a u q;obtain⟨o,ho⟩:∃ o,h.get? a=some o:=by
   clear q
   induction u with
   | lst xs=>obtain⟨_,_,_,_,z⟩:=this;exact⟨_,z⟩
   | tup xs=>obtain⟨_,_,_,o,z,_⟩:=this;exact⟨_,z⟩
   | dK kvs=>obtain⟨_,_,_,_,o,_,_,z,_⟩:=this;exact⟨_,z⟩
   | dT kvs=>obtain⟨_,_,_,_,o,_,_,z,_⟩:=this;exact⟨_,z⟩
   | set S n=>obtain⟨o,_,_,_,z,_⟩:=this;exact⟨_,z⟩
   | ins C dx fs=>obtain⟨_,_,_,z,_⟩:=this;exact⟨_,z⟩
   | own x=>exact this
   | xd fs=>obtain⟨_,⟨o,_,_,z,_⟩,_⟩:=this;exact⟨_,z⟩
   | met f x=>exact⟨_,this⟩
   | dk lo hi=>obtain⟨_,_,_,z⟩:=this;exact⟨_,z⟩
   | gF o u ih=>exact⟨_,this.1⟩
   | sy ps=>obtain⟨_,z,_⟩:=this;exact⟨_,z⟩
   | ext φ=>exact this.2.1
  rw[e] at ho;cases ho
theorem eE.moved{P:Program}{w:World}{H:Hp}{h h':Heap}{e T':Addr}{cls:Value}{d To:Option Addr}{fs:List Addr}(x:eE P w H h)(mv:Mv h h' e To fs T')(f':jd e cls d h')(he:H e=some (.ext (jd e cls d)))(hT:∀ T,To=some T->H T=none)(hf:∀ b∈fs,H b=none):eE P w H h':=fun b u q=>by
 by_cases z:b=e
 ·subst z;rw[he] at q;cases q;exact f'.ok
 ·refine (x b u q).gZ (fun c v hc r=>?_) (fun _ q=>q) (fun _ _ q=>q) fun _ _ _ q=>q;have tr:∃ o,H c=some o:=by
   rcases hc with rfl | hc
   ·exact⟨u,q⟩
   ·exact⟨_,hc⟩
  obtain⟨o,tr⟩:=tr;refine mv.keep c v (fun z2=>?_) (fun T hT' z2=>?_) (fun m=>?_) r
  ·rcases hc with rfl | hc
   ·exact z z2
   ·rw[z2,he] at hc;cases hc
  ·rw[z2,hT T hT'] at tr;cases tr
  ·rw[hf c m] at tr;cases tr
section
variable {X:Cx} {pins:List (Addr×Obj)} {σ:St} {H H':Hp} {s:Shared} {h':Heap}
theorem Inv.EB{ch:List Addr}(I:Inv X pins σ H s)
  (hch:∀ b∈ch,X.s₀.heap.get? b=none/\b≠X.env.locals/\(∀ x c,X.env.cells.lookup x=some c->c≠b)/\∀ p∈X.pn++pins,p.1≠b)
  (keep:∀ b o,b≠X.env.locals->b∉X.fs->b∉ch->s.heap.get? b=some o->H b=none->h'.get? b=some o)
  (slot:∀ b o,b≠X.env.locals->b∈X.fs->b∉ch->s.heap.get? b=some o->H b=none->∃ sl,h'.get? b=some { o with slots:=sl })
  (there:∀ b o,b∉ch->s.heap.get? b=some o->∃ o',h'.get? b=some o')
  (ns:∀ m,s.heap.Ns X.env.locals m->h'.Ns X.env.locals m) (aS:eE X.prog X.w H h') :
  Inv X pins σ H { s with heap:=h' }:=by
 have neL:∀ b o,X.s₀.heap.get? b=some o->b≠X.env.locals:=fun b o e=>Nat.ne_of_lt (Nat.lt_of_lt_of_le (Heap.lt_size e) I.ok.above);have neC:∀ b o,X.s₀.heap.get? b=some o->b∉ch:=fun b o e hb=>by rw[(hch b hb).1] at e;cases e
 have cellK:∀ x c,X.env.cells.lookup x=some c->∀ v,s.heap.IsCell c v->h'.IsCell c v:=fun x c e v ⟨o,ho,hd⟩=>by
  have nch:c∉ch:=fun z=>(hch c z).2.2.1 x c e rfl;by_cases hc:c∈X.fs
  ·obtain⟨sl,q⟩:=slot c o (I.yC x c e) hc nch ho (I.cQ x c e);exact⟨_,q,hd⟩
  ·exact⟨o,keep c o (I.yC x c e) hc nch ho (I.cQ x c e),hd⟩
 refine⟨I.ok,I.os,I.bare,⟨fun b o e n hb hx=>?_,fun b o e n hb hx=>?_,I.base.free,fun b o e hx=>?_,I.base.ja,I.base.gX,I.base.gC⟩,?_,fun x c e=>?_,I.free,I.cQ,fun p hp=>?_,aS,I.len⟩
 ·exact keep b o (neL b o e) hb (neC b o e) (I.base.keep b o e n hb hx) (I.base.free b o e n hx)
 ·obtain⟨sl,e1⟩:=I.base.slot b o e n hb hx;obtain⟨sl',e2⟩:=slot b _ (neL b o e) hb (neC b o e) e1 (I.base.free b o e n hx);exact⟨sl',e2⟩
 ·obtain⟨o',e1⟩:=I.base.there b o e hx;exact there b o' (neC b o e) e1
 ·obtain⟨m,hn,hl⟩:=I.loc;refine⟨m,ns m hn,fun i x v e1 e2 e3=>?_⟩;obtain⟨u,r,l⟩:=hl i x v e1 e2 e3;refine⟨u,r,?_⟩;rcases l with l | ⟨k,c,e,z⟩
  ·exact .inl l
  ·exact .inr ⟨k,c,e,cellK x c e _ z⟩
 ·obtain⟨v,z⟩:=I.cell x c e;exact⟨v,cellK x c e v z⟩
 ·obtain⟨e,n,ne,nf,d⟩:=I.pin p hp;have nch:p.1∉ch:=fun z=>(hch p.1 z).2.2.2 p hp rfl;exact⟨keep p.1 p.2 ne nf nch e n,n,ne,nf,d⟩
structure Nw (X:Cx) (pins:List (Addr×Obj)) (H:Hp) (e:Addr) (cls:Value) (d To:Option Addr):Prop where
 tr:H e=some (.ext (jd e cls d))
 e0:X.s₀.heap.get? e=none
 d0:∀ a,d=some a->X.s₀.heap.get? a=none
 t0:∀ T,To=some T->H T=none/\X.s₀.heap.get? T=none/\∀ p∈X.pn++pins,p.1≠T
theorem Inv.moved{e T':Addr}{cls:Value}{d To:Option Addr}(I:Inv X pins σ H s)(hex:X.ex=[])(f:Fl s.heap e cls d To)(nw:Nw X pins H e cls d To)(mv:Mv s.heap h' e To (gx X.stack) T')(f':Fl h' e cls d (some T')):
  Inv X pins σ H { s with heap:=h' }/\Nw X pins H e cls d (some T'):=by
 have hfr:=I.gE;have teT:∀ T o,To=some T->s.heap.get? T=some o->T∉gx X.stack:=fun T o hT _=>by subst hT;exact f.zc I.stack
 have hne:∀ b o,s.heap.get? b=some o->H b=none->b≠e:=fun b o _ n z=>by rw[z,nw.tr] at n;cases n
 refine⟨I.EB (ch:=To.toList) (fun b hb=>?_) (fun b o hL hb hc q n=>?_) (fun b o _ hb hc q n=>?_) (fun b o hc q=>?_) (fun m hm=>?_) (I.aS.moved mv f'.is nw.tr (fun T hT=>(nw.t0 T hT).1) hfr),nw.tr,nw.e0,nw.d0,fun T hT=>?_⟩
 ·cases To with
  | none=>cases hb
  | some T =>
   have:b=T:=by simpa using hb
   subst this;obtain⟨h1,h2,h3⟩:=nw.t0 b rfl;obtain⟨_,_,oT,ts,_,_,_,_,_,_,hT,hdT,_⟩:=f;refine⟨h2,fun z=>?_,fun x c hc z=>?_,h3⟩
   ·obtain⟨m,⟨o,es,ep,ho,hd,_⟩,_⟩:=I.loc;rw[<- z,hT] at ho;cases ho;rw[hdT] at hd;cases hd
   ·obtain⟨v,o,ho,hd⟩:=I.cell x c hc;rw[z,hT] at ho;cases ho;rw[hdT] at hd;cases hd
 ·refine mv.keep b o (hne b o q n) (fun T hT z=>hc (by rw[hT,z];simp)) (fun m=>?_) q
  exact (List.mem_cons.mp (I.iC b m)).elim hL hb
 ·by_cases m:b∈gx X.stack
  ·exact mv.slot b o m q
  ·exact⟨o.slots,mv.keep b o (hne b o q n) (fun T hT z=>hc (by rw[hT,z];simp)) m q⟩
 ·by_cases z:b=e
  ·obtain⟨o',_,q',_⟩:=f'.is;exact⟨o',by rw[z];exact q'⟩
  ·by_cases m:b∈gx X.stack
   ·obtain⟨sl,q2⟩:=mv.slot b o m q;exact⟨_,q2⟩
   ·exact⟨o,mv.keep b o z (fun T hT z=>hc (by rw[hT,z];simp)) m q⟩
 ·obtain⟨o,es,ep,ho,r⟩:=hm;have n:=I.free;by_cases mm:X.env.locals∈gx X.stack
  ·obtain⟨sl,q2⟩:=mv.slot _ o mm ho;exact⟨_,es,ep,q2,r⟩
  ·refine⟨o,es,ep,mv.keep _ o (hne _ o ho n) (fun T hT z=>?_) mm ho,r⟩;subst hT;obtain⟨_,_,oT,ts,_,_,_,_,_,_,hT,hdT,_⟩:=f;rw[z,hT] at ho;cases ho;obtain⟨hd,_⟩:=r;rw[hdT] at hd;cases hd
 ·cases hT;rcases mv.new.1 with q | q
  ·refine⟨I.aS.none_of q,?_,fun p hp z=>?_⟩
   ·cases q2:X.s₀.heap.get? T' with
    | none=>rfl
    | some o =>
     obtain⟨o',q3⟩:=I.base.there T' o q2 (by rw[hex];simp)
     rw[q] at q3;cases q3
   ·rw[<- z,(I.pin p hp).1] at q;cases q
  ·exact nw.t0 T' q
def qX(X:Cx)(cls:Value)(d:Option Addr)(e:Addr)(σ:St)(H:Hp):Prop:=∀ (pins:List (Addr×Obj)) (s:Shared) (To:Option Addr),Inv X pins σ H s->Fl s.heap e cls d To->Nw X pins H e cls d To->X.xe (.ref e) s
def nS(P:Program)(w:World):kZ:=fun outer H s E x s'=>∃ (e T:Addr) (cls:Value) (d:Option Addr) (H':Hp),x=.ref e/\s'.os=s.os/\AllBare s'.gens/\Un (gx outer) [] H H' s.heap s'.heap/\eE P w H' s'.heap/\Fl s'.heap e cls d (some T)/\s.heap.get? e=none/\(∀ a,d=some a->s.heap.get? a=none)/\s.heap.get? T=none/\H' e=some (.ext (jd e cls d))/\H' T=none/\E cls (some e) H'
end
theorem t6{P:Program}{w:World}{K:PySem.W.Frag}{mg:Str->Option Value}{base:Heap}{N:List Str}{qual:Str}{scope:Scope}{f:Addr}{cd:Value}{A:Around}{outer:List Env}{s0:Shared}{H0:Hp}{E:XK}{cls:Value}{d:Option Addr}{e:Addr}{σ:St}{H:Hp}(hE:E cls (some e) H):
  qX (fk (nS P w) P w K mg base N qual scope f cd A outer s0 H0 E) cls d e σ H:=by
 intro pins s To I fl nw;refine rX (base:=base) I.ok.frames rfl I.stack fl fun h' T' mv f'=>?_;obtain⟨I2,nw2⟩:=I.moved rfl fl nw mv f';exact⟨e,T',cls,d,H,rfl,I.os,I.bare,I2.base,I2.aS,f',nw.e0,nw.d0,(nw2.t0 T' rfl).2.1,nw.tr,(nw2.t0 T' rfl).1,hE⟩
section
variable {X:Cx}
def Dt(X:Cx)(σ:St)(H:Hp):XK:=fun cls de H'=>∃ (e:Addr) (d:Option Addr),de=some e/\H' e=some (.ext (jd e cls d))/\(H e=none->(∀ a,d=some a->H a=none)->qX X cls d e σ H')
def B9(X:Cx)(sp:Sp)(t:TA):TE:=fun σ H Q=>t σ H fun vs H1=>sp vs H1 Q (Dt X σ H1)
theorem z_{k:Nat}{ps:List Str}{sp:Sp}{x:Str}{p pos:Pos}{e:Expr}{es:List Expr}{t:TA}(F:ah X.prog X.w X.K X.mg X.base (nS X.prog X.w) k x ps sp)(hr:bo k X.A)(hg:Gl X x)(hex:X.ex=[])(ha:PA X (e::es) t)(h1:cx e=true:=by rfl)(h2:es.all cx=true:=by rfl)(hdb:(x ==("__debug__":Str))=false:=by decide):
  PE X (.Call (.Name x p) (e::es) [] pos) (B9 X sp t):=by
 intro pins s σ H Q I h;obtain⟨f,fd,hm,hk,hb,G⟩:=F.ex;refine wpAny_Call_Name_kw (kc I hg hm ?_ hdb);refine PySem.W.callWith_K (h₀:=X.base) I.ok.mod.xW hk (bJ (ha pos pins s σ H _ I h) fun us s1 ⟨vs,H1,I1,r,q⟩=>⟨I1.oK,?_⟩) (cf h1) (plain_any h2);have hl:us.length=ps.length:=by rw[<- r.length];exact G.len _ _ _ _ q
 have hb2:=hb s1 us I1.oK (by rw[List.append_nil];exact hl)
 rw[List.append_nil] at hb2;refine wpAny_call (codeAny_mono (G.run X.A X.stack s1 H1 ⟨us,[]⟩ us vs Q (Dt X σ H1) hr I1.CI hb2 r q) fun r s' hq=>?_)
 cases r with
 | error e =>
  obtain⟨ea,T,cls,d,H',rfl,ho,hbare,un,aS,fl,n1,n3,n2,tr,nT,ea',d',hea,tr',hd⟩:=hq;cases hea;obtain⟨_,rfl⟩:=fl.is.one (show jd ea cls d' s'.heap from (aS _ _ tr').1);have I2:=I1.zh (ch:=[]) ho un aS hbare (fun b z=>absurd z (by simp))
  have n0:∀ b,s1.heap.get? b=none->X.s₀.heap.get? b=none:=fun b z=>by
   cases q2:X.s₀.heap.get? b with
   | none=>rfl
   | some o =>
    obtain⟨o',q3⟩:=I1.base.there b o q2 (by rw[hex];simp)
    rw[z] at q3;cases q3
  exact hd (I1.aS.none_of n1) (fun a z=>I1.aS.none_of (n3 a z)) pins s' (some T) I2 fl ⟨tr,n0 _ n1,fun a z=>n0 _ (n3 a z),fun T' hT=>by
   cases hT;exact⟨nT,n0 _ n2,fun p hp z=>by rw[<- z,(I1.pin p hp).1] at n2;cases n2⟩⟩
 | ok fl =>
  cases fl with
  | ret u=>exact I1.after hq
  | next=>exact False.elim hq
  | brk=>exact False.elim hq
  | cont=>exact False.elim hq
structure oi (K:PySem.W.Frag) (C:Addr):Prop where
 q:PySem.W.excIn K C [.type "ValueError",.type "Exception",.type "BaseException",.type "object"] "ValueError.__new__"=true
theorem oi.obj{K:PySem.W.Frag}{C:Addr}(c:oi K C):∃ bm N nm qn bs hd sn sub ab col dd k0 k1 k2 k3 k5,K.lookup C=some (excClassObj nm qn C N bs bm hd sn sub ab col dd k0 k1 k2 k3 k5 "ValueError.__new__") /\
  (∀ h:Heap,K.In h->OwnTail h [.type "ValueError",.type "Exception",.type "BaseException",.type "object"] bm)/\(∃ oN,K.lookup N=some oN)/\∀ h:Heap,K.In h->∃ mN,h.Ns N mN/\mN "__init__"=none:=by
 have q:=c.q;unfold PySem.W.excIn at q
 split at q
 ·rename_i dd cd sl ho
  split at q
  ·rename_i C2 bm k0 k1 k2 k3 nw k5 hm hs;simp only[beq_iff_eq,Bool.not_eq_true',Bool.and_eq_true] at q;obtain⟨⟨⟨⟨⟨z1,z2⟩,z3⟩,z4⟩,z5⟩,z6⟩:=q;subst z1;subst z2;obtain⟨nm,bs,mr,ns,qn,hd,sn,sub,ab,col,dl⟩:=cd;dsimp only at hm z3 z5 z6 ho;subst hm;subst z3;obtain⟨l⟩:=sl;have hs':l=[k0,k1,k2,k3,some (.builtin "ValueError.__new__"),k5]:=hs;subst hs';refine⟨bm,ns,nm,qn,bs,hd,sn,sub,ab,col,dd,k0,k1,k2,k3,k5,ho,fun h xW=>PySem.W.tail_of_in xW z4,?_,fun h xW=>⟨_,.of_isNs (PySem.W.isNs_of_in xW z5),PySem.W.nsMap_none_of_in xW z5 z6⟩⟩;unfold PySem.W.nsOkIn at z5
   split at z5
   ·rename_i hN;exact⟨_,hN⟩
   ·cases z5
  ·cases q
 ·cases q
def By(X:Cx)(C:Addr)(t:TA):TS:=fun D σ H=>t σ H fun vs H1=>vs.length<=sizeLine/\∀ e,H1 e=none->qX X (.ref C) none e σ (upd H1 e (.ext (jd e (.ref C) none)))
theorem tL{x:Str}{C:Addr}{np cpos pos:Pos}{e:Expr}{es:List Expr}{t:TA}(hg:Gl X x)(hm:X.mg x=some (.ref C))(hk:oi X.K C)(hc:X.calm=true)(hex:X.ex=[])(ha:PA X (e::es) t)(h1:cx e=true:=by rfl)(h2:es.all cx=true:=by rfl)(hdb:(x ==("__debug__":Str))=false:=by decide):
  PS X (.Raise (some (.Call (.Name x np) (e::es) [] cpos)) none pos) (By X C t):=by
 intro pins s σ H D I h;obtain⟨bm,N,nm,qn,bs,hd,sn,sub,ab,col,dd,k0,k1,k2,k3,k5,lk,tl,⟨oN,lN⟩,hns⟩:=hk.obj;obtain⟨mN,hN,hni⟩:=hns s.heap I.oK;have FB:=PySem.F.excBase_ValueError;have hstar:starEach (e::es) X.env=(false,eval e X.env)::starEach es X.env:=cf h1;refine wpAny_Raise_call_subU (C:=C) (nm:=nm) (q:=qn) (N:=N) (bs:=bs) (bm:=bm) (hdct:=hd) (sn:=sn) (sub:=sub) (ab:=ab) (col:=col) (dd:=dd) (k0:=k0) (k1:=k1) (k2:=k2) (k3:=k3) (k5:=k5) FB FB.hasB FB (mN:=mN) ((tl s.heap I.oK).hasType FB.hasBase) (I.ok.hd hc) ?_ hni (kc I hg hm ⟨rfl,?_⟩ hdb)
 ·rw[hstar];show (false || (backTo cpos (starEach es X.env)).any (·.1))=false;rw[plain_any h2];rfl
 ·have hp:=ha cpos pins s σ H _ I h;rw[hstar] at hp ⊢;refine Calls.evalArgs_plain (wpAny_mono hp (fun us s2 ⟨vs,H1,I1,r,hl,q⟩=>?_) fun _ _ y=>y);refine⟨rfl,by rw[<- r.length];exact hl,I1.oK _ _ lk,?_,tl _ I1.oK,fun h' ea hm2=>?_⟩
  ·obtain⟨o,es',ep,ho,rr⟩:=hN;have z1:=I.oK _ _ lN;rw[ho] at z1;cases z1;exact⟨_,es',ep,I1.oK _ _ lN,rr⟩
  ·have hne:=I1.aS.none_of hm2.new;obtain⟨tt,g1,g2,g3⟩:=hm2.there;have fl:Fl h' ea (.ref C) none none:=⟨_,_,g1,rfl,rfl,rfl,rfl⟩;have I2:Inv X pins σ (upd H1 ea (.ext (jd ea (.ref C) none))) { s2 with heap:=h' }:=I1.un (t':=s2.toks) (Un.wB hm2.keeps hm2.new hne) (I1.aS.wB hm2.keeps hne fl.is.ok)
   refine q ea hne pins _ none I2 fl ⟨aj,?_,(fun a z=>by cases z),fun T z=>by cases z⟩
   cases q2:X.s₀.heap.get? ea with
   | none=>rfl
   | some o =>
    obtain⟨o',q3⟩:=I1.base.there ea o q2 (by rw[hex];simp)
    rw[hm2.new] at q3;cases q3
end
def XH(H:Hp)(e:Addr)(x:T)(cls:Value)(d:Option Addr):Prop:=H e=some (.ext (jd e cls d))/\match x with
 | .exc c none=>c=cls/\d=none
 | .exc c (some (n,i))=>c=cls/\∃ a,d=some a/\H a=some (.xd [(n,.int i)])
 | _=>False
noncomputable abbrev Xw:=T->Mu->Prop
noncomputable abbrev C6:=Value->Option Addr->Addr->St->Hp->Prop
noncomputable abbrev UX:=Mu->(R->Mu->Prop)->Xw->Prop
noncomputable abbrev jq:=Ed->Xw->Mu->Prop
def qM(F:Fx)(B:aJ)(H:Hp)(Dx:C6)(Xt:Xw):Prop:=∀ (ad:Nat->Addr) (B':aJ) (σ':St) (H':Hp) (μ':Mu) (x:T) (cls:Value) (d:Option Addr) (e:Addr),Rl F ad B' σ' H' μ'->Fr B H B' H'->XH H' e x cls d->¬ B' e->(∀ a,d=some a->¬ B' a)->Xt x μ'->Dx cls d e σ' H'
theorem qM.step{F:Fx}{B B1:aJ}{H H1:Hp}{Dx:C6}{Xt:Xw}(h:qM F B H Dx Xt)(f:Fr B H B1 H1):qM F B1 H1 Dx Xt:=fun ad B' σ' H' μ' x cls d e l f' tr n1 n2 q=>h ad B' σ' H' μ' x cls d e l (f.trans f') tr n1 n2 q
def RX(K:PySem.W.Frag)(Dx:C6)(te:TE)(ux:UX):Prop:=∀ (F:Fx) (ad:Nat->Addr) (B:aJ) (σ:St) (H:Hp) (μ:Mu) (Q:VK) (Qt:R->Mu->Prop) (Xt:Xw),F.K=K->Rl F ad B σ H μ->ux μ Qt Xt ->
 (∀ v H' r μ',Vr F ad B σ H' μ' v r->Fr B H (Bv B v r) H'->Kp μ μ'->Qt r μ'->Q v H')->qM F B H Dx Xt->te σ H Q
def ES(K:PySem.W.Frag)(Dx:C6)(ts:TS)(us:jq):Prop:=∀ (F:Fx) (D:Ends) (E:Ed) (Xt:Xw) (ad:Nat->Addr) (B:aJ) (σ:St) (H:Hp) (μ:Mu),F.K=K->Rl F ad B σ H μ->us E Xt μ->om F B H D E->qM F B H Dx Xt->ts D σ H
structure YX (X:Cx) (e:Expr) (u:UX):Prop where
 ex:∃ t,QE X e t/\RX X.K (qX X) t u
structure zv (X:Cx) (st:Stmt) (u:jq):Prop where
 ex:∃ t,QS X st t/\ES X.K (qX X) t u
structure xf (X:Cx) (sts:List Stmt) (u:jq):Prop where
 ex:∃ t,QB X sts t/\ES X.K (qX X) t u
namespace Y
section
variable {X:Cx} {a b c e o tg:Expr} {es rest:List Expr} {ua ub uc ue uo:UE} {uA uB:UT} {us:UA} {pos pos' p p2 p3:Pos} {x:Str} {st:Stmt} {sts xs ys:List Stmt} {u w:US} {ux:UX} {uxs wxs:jq}
theorem sC(h:YS X st u):zv X st (fun E _ μ=>u E μ):=by
 obtain⟨t,q,r⟩:=h;exact⟨t,q,fun F D E Xt ad B σ H μ hF l q h _=>r F D E ad B σ H μ hF l q h⟩
def Bd(u w:jq):jq:=fun E Xt μ=>u { E with nx:=w E Xt } Xt μ
theorem h_(h:zv X st uxs):xf X [st] uxs:=by obtain⟨t,q,r⟩:=h;exact⟨t,Z.aX q,r⟩
theorem zD:xf X [] (fun E _ μ=>E.nx μ):=⟨_,Z.df,fun F D E Xt ad B σ H μ hK l q h _=>h.nx ad B σ H μ l Fr.refl q⟩
theorem cB(h:zv X st uxs)(h2:xf X sts wxs):xf X (st::sts) (Bd uxs wxs):=by
 obtain⟨t,q,r⟩:=h;obtain⟨t',q',r'⟩:=h2;exact⟨_,Z.ai q q',fun F D E Xt ad B σ H μ hK l q h hX=>r F { D with nx:=t' D } { E with nx:=wxs E Xt } Xt ad B σ H μ hK l q
  ⟨fun ad1 B1 σ1 H1 μ1 l1 f1 q1=>r' F D E Xt ad1 B1 σ1 H1 μ1 hK l1 q1 (h.step f1) (hX.step f1),h.rt,h.bk,h.ct⟩ hX⟩
def rC(ux:UX)(g:UG):jq:=fun E Xt μ=>ux μ (fun r μ'=>g r μ' E.nx) Xt
theorem p6{K:PySem.W.Frag}{Dx:C6}{te:TE}{tg:TG}{g:UG}(he:RX K Dx te ux)(hg:RG K tg g):ES K Dx (m5 te tg) (rC ux g):=fun F D E Xt ad B σ H μ hK l q h hX =>
 he F ad B σ H μ _ _ Xt hK l q (fun v H' r μ' v1 f k1 q1=>hg F ad B σ H' μ' v r B H _ _ hK v1 f q1 fun ad' B' σ' H2 μ2 l2 f2 q2=>h.nx ad' B' σ' H2 μ2 l2 f2 q2) hX
theorem FT{i:Nat}(hN:X.N.Nodup)(hi:X.N[i]?=some x)(hx:Loc X.env.scope x)(he:YX X e ux)(hs:Z.zJ e=true:=by rfl)(hf:X.fn x=true\/X.env.scope.names.lookup x=some .local:=by first | exact .inl rfl | exact .inr rfl | assumption):
  zv X (.Assign [.Name x pos'] e pos) (rC ux (gN i)):=by
 obtain⟨t,q,r⟩:=he;exact⟨_,Z.set hN hi hx q hs hf,p6 r gJ⟩
theorem zd{i:Nat}(hN:X.N.Nodup)(hi:X.N[i]?=some x)(hx:Loc X.env.scope x)(he:YX X e ux)(hs:Z.zJ e=true:=by rfl)(hf:X.fn x=true\/X.env.scope.names.lookup x=some .local:=by first | exact .inl rfl | exact .inr rfl | assumption):
  zv X (.Assign [.Name x pos'] e pos) (rC ux (EC i)):=by
 obtain⟨t,q,r⟩:=he;exact⟨_,Z.set hN hi hx q hs hf,p6 r hZ⟩
def EX(c:UT)(u w:jq):jq:=fun E Xt μ=>c μ fun b μ'=>if b=true then u E Xt μ' else w E Xt μ'
theorem CT(hc:YT X c uA)(ha:xf X xs uxs)(hb:xf X ys wxs):zv X (.If c xs ys pos) (EX uA uxs wxs):=by
 obtain⟨t,q,r⟩:=hc;obtain⟨t1,q1,r1⟩:=ha;obtain⟨t2,q2,r2⟩:=hb;refine⟨_,Z.jc q q1 q2,fun F D E Xt ad B σ H μ hK l q h hX=>r F ad B σ H μ _ _ hK l q fun b H' μ' l' f k1 qq=>?_⟩
 cases b with
 | true=>exact r1 F D E Xt ad B σ H' μ' hK l' (by simpa using qq) (h.step f) (hX.step f)
 | false=>exact r2 F D E Xt ad B σ H' μ' hK l' (by simpa using qq) (h.step f) (hX.step f)
end
end Y
noncomputable abbrev vx:=List T->(R->List T->Prop)->(T->Prop)->Prop
def u_(K:PySem.W.Frag)(md:List Bool)(tsp:vx):Sp:=fun vs H Q E=>∃ Et:T->Prop,spT K md (fun args Qt=>tsp args Qt Et) vs H Q E/\∀ x cls d e H',Et x->(∀ b o,H b=some o->b∉iY md vs->H' b=some o)->XH H' e x cls d->E cls (some e) H'
theorem mD:∀ {md:List Bool} {vs:List V},md.all (fun b=>!b)=true->iY md vs=[]
 | [],_,_=>rfl
 | true::_,_,h=>by simp at h
 | false::md,[],_=>rfl
 | false::md,v::vs,h=>mD (md:=md) (vs:=vs) (by simpa using h)
namespace Y
theorem yb{K:PySem.W.Frag}{md:List Bool}{tsp:fL}{E:XK}{F:Fx}{ad:Nat->Addr}{B:aJ}{σ:St}{H1:Hp}{μ1:Mu}{Q:VK}{Qt:R->Mu->Prop}{vs:List V}{rs:List R}{args:List T}(hF:F.K=K)(l1:Rl F ad B σ H1 μ1)(ps:Paired (Hv F ad B H1 μ1) vs rs)(ea:wa μ1 md rs=some args)
  (nd:(fu md rs).Nodup) (dj:∀ j∈fu md rs,j∉fT md rs) (q1:tsp args fun r outs=>(fT md rs=[]\/(lp r=true/\outs.all fe=true))/\Qt r (putAll (fu md rs) outs μ1))
  (k:∀ v H' r μ',Vr F ad B σ H' μ' v r->Fr B H1 (Bv B v r) H'->Kp μ1 μ'->Qt r μ'->Q v H'):spT K md tsp vs H1 Q E:=by
 have hro:=iF (md:=md) ps;obtain⟨ag,eb,hb⟩:=zQ l1 (fT md rs) ps ea (fun j h=>h) dj hro;rw[hF] at ag;have inj:∀ {js:List Nat},js.Nodup->(∀ j∈js,∃ (s:Sl) (c:T),μ1[j]?=some s/\s.box=some c)->(js.map ad).Nodup:=fun {js}=>by
  induction js with
  | nil=>exact fun _ _=>List.nodup_nil
  | cons j js ih =>
   intro nd hb;rw[List.nodup_cons] at nd;rw[List.map_cons,List.nodup_cons];refine⟨fun hm=>?_,ih nd.2 fun i hi=>hb i (List.mem_cons_of_mem _ hi)⟩;obtain⟨i,hi,z⟩:=List.mem_map.mp hm;obtain⟨s1,c1,e1,b1⟩:=hb j List.mem_cons_self;obtain⟨s2,c2,e2,b2⟩:=hb i (List.mem_cons_of_mem _ hi);exact nd.1 (l1.inj i j s2 s1 c2 c1 e2 e1 b2 b1 z ▸ hi)
 refine⟨_,args,_,ag,fun b z=>l1.er b z.1,by rw[eb];exact inj nd hb,q1,fun v H2 r outs hq keep res=>?_⟩
 rw[eb] at keep res;obtain⟨hfl,hq⟩:=hq;have nro:∀ {b:Addr},fT md rs=[]->B b->B b/\∀ j∈fT md rs,b≠ad j:=fun {b} z h=>⟨h,fun j hj=>by rw[z] at hj;cases hj⟩
 cases r with
 | br i=>exact res.elim
 | tr t =>
  obtain⟨rv,po⟩:=res;have rv':Rep F.K H2 B v t:=by
   rw[hF];rcases hfl with z | z
   ·exact rv.fr (Fr.less fun b h=>nro z h)
   ·exact rv.flat z.1
  have po':Paired (Bx F.K H2 B) ((fu md rs).map ad) outs:=by
   rw[hF];rcases hfl with z | z
   ·exact Paired.kf po fun a c h=>h.of rfl (Fr.less fun b h=>nro z h)
   ·exact Paired.mq po z.2
  obtain⟨l2,k2,f2⟩:=l1.call hb nd keep (fun _ z=>z) (fun _ _ _ z=>z) (fun b z n=>absurd z n) po';exact k v H2 (.tr t) _ ⟨l2,rv'⟩ f2 k2 hq
 | fr c =>
  obtain⟨a,rfl,ha0,nBa,x,po⟩:=res;have nBa':¬ B a:=l1.jY ha0;have sub:fT md rs=[]->∀ b,more B a b->more (fun b=>B b/\∀ j∈fT md rs,b≠ad j) a b:=fun z b h=>h.imp id fun h=>nro z h;have x':Bx F.K H2 (more B a) a c:=by
   rw[hF];rcases hfl with z | z
   ·exact x.of rfl (Fr.less (sub z))
   ·exact x.flat z.1
  have po':Paired (Bx F.K H2 (more B a)) ((fu md rs).map ad) outs:=by
   rw[hF];rcases hfl with z | z
   ·exact Paired.kf po fun a' c h=>h.of rfl (Fr.less (sub z))
   ·exact Paired.mq po z.2
  have po2:Paired (Bx F.K H2 B) ((fu md rs).map ad) outs:=Paired.kf po' fun a' c h=>h.of rfl (Fr.less fun _ z=>.inr z);obtain⟨l2,k2,f2⟩:=l1.call hb nd keep (fun _ z=>z) (fun _ _ _ z=>z) (fun b z n=>absurd z n) po2;obtain⟨l3,_,f3⟩:=l1.call (B2:=more B a) hb nd keep (fun _ z=>.inr z) (fun b o e n z=>z.elim (fun z=>by rw[z,ha0] at e;cases e) n) (fun b z n=>z.elim (fun z=>by rw[z];exact x'.er) fun z=>absurd z n) po'
  exact k _ H2 (.fr c) _ ⟨l2,a,rfl,nBa',l1.y8 ha0,l3,x'⟩ f3 k2 hq
def EO(md:List Bool)(tsp:vx)(us:UA):UX:=fun μ Q Xt=>us μ fun rs μ1=>match wa μ1 md rs with
 | some args=>(fu md rs).Nodup/\(∀ j∈fu md rs,j∉fT md rs)/\tsp args (fun r outs=>(fT md rs=[]\/(lp r=true/\outs.all fe=true))/\Q r (putAll (fu md rs) outs μ1)) (fun x=>Xt x μ1)
 | none=>False
theorem G4{X:Cx}{e:Expr}{es:List Expr}{us:UA}{pos p:Pos}{x:Str}{k:Nat}{ps:List Str}{md:List Bool}{tsp:vx}(K:PySem.W.Frag)(hK:X.K=K)(F:ah X.prog X.w X.K X.mg X.base (nS X.prog X.w) k x ps (u_ K md tsp))(hr:bo k X.A)(hg:Gl X x)(hex:X.ex=[])(ha:YA X (e::es) us)(h1:cx e=true:=by rfl)(h2:es.all cx=true:=by rfl)(hdb:(x ==("__debug__":Str))=false:=by decide)(hmd:md.all (fun b=>!b)=true:=by rfl):
  YX X (.Call (.Name x p) (e::es) [] pos) (EO md tsp us):=by
 obtain⟨t,q,r⟩:=ha;subst hK;refine⟨_,⟨z_ F hr hg hex q.h h1 h2 hdb⟩,fun F ad B σ H μ Q Qt Xt hF l q k hX=>?_⟩;refine r F ad B σ H μ _ _ hF l q fun vs H1 rs μ1 l1 ps f1 k1 q1=>?_
 split at q1
 ·rename_i args ea;obtain⟨nd,dj,q1⟩:=q1;refine⟨fun x=>Xt x μ1,yb (tsp:=fun args Qt=>tsp args Qt fun x=>Xt x μ1) hF l1 ps ea nd dj q1 fun v H' r μ' w f k2 q2=>k v H' r μ' w (f1.trans f) (k1.trans k2) q2,fun x cls d e H' he keep tr=>⟨e,d,rfl,tr.1,fun ne nd=>?_⟩⟩;have sm:bC H1 H':=fun b o z=>keep b o z (by rw[mD hmd];simp)
  exact hX ad B σ H' μ1 x cls d e (l1.same sm) (f1.trans (Fr.same sm)) tr (l1.jY ne) (fun a z=>l1.jY (nd a z)) he
 ·exact q1.elim
def kJ(C:Addr)(us:UA):jq:=fun _ Xt μ=>us μ fun rs μ'=>rs.length<=10/\Xt (.exc (.ref C) none) μ'
theorem sJ{X:Cx}{e:Expr}{es:List Expr}{us:UA}{x:Str}{C:Addr}{np cpos pos:Pos}(hg:Gl X x)(hm:X.mg x=some (.ref C))(hk:oi X.K C)(hc:X.calm=true)(hex:X.ex=[])(ha:YA X (e::es) us)(h1:cx e=true:=by rfl)(h2:es.all cx=true:=by rfl)(hdb:(x ==("__debug__":Str))=false:=by decide):
  zv X (.Raise (some (.Call (.Name x np) (e::es) [] cpos)) none pos) (kJ C us):=by
 obtain⟨t,q,r⟩:=ha;refine⟨_,⟨tL hg hm hk hc hex q.h h1 h2 hdb⟩,fun F D E Xt ad B σ H μ hF l q h hX=>?_⟩;refine r F ad B σ H μ _ _ hF l q fun vs H1 rs μ1 l1 ps f1 k1 q1=>⟨by rw[ps.length];exact Nat.le_trans q1.1 (by decide),fun ea hn=>?_⟩
 have sm:bC H1 (upd H1 ea (.ext (jd ea (.ref C) none))):=bC.new hn;exact hX ad B σ _ μ1 (.exc (.ref C) none) (.ref C) none ea (l1.same sm) (f1.trans (Fr.same sm)) ⟨aj,rfl,rfl⟩ (l1.jY hn) (fun a z=>by cases z) q1.2
end Y
def wN(K:PySem.W.Frag)(mg:Str->Option Value)(x:Str)(f:Addr)(cdv:Value):Prop:=mg x=some (.ref f)/\∃ (o:Obj) (fd:FuncData),K.lookup f=some o/\o.data=.func fd/\fd.code=cdv
theorem HasFn.Cf{P:Program}{w:World}{K:PySem.W.Frag}{mg:Str->Option Value}{base:Heap}{x:Str}{st:Stmt}{N ps:List Str}{k:Nat}{tsp:vx}(F:HasFn K mg x st ps)(S:ax N ps (aa st))(md:List Bool)(hmd:md.all (fun b=>!b)=true)(hm:md.length=ps.length)(hN:md.length<=N.length)
  (hbody:∀ (args:List T) (Qt:R->List T->Prop) (Et:T->Prop),args.length=ps.length->tsp args Qt Et->∀ (f:Addr) (cdv:Value) (A:Around) (outer:List Env) (s:Shared) (H:Hp) (E:XK),bo k (A.deeper (envOfC x (aa st) s.heap.objs.size f cdv))->wN K mg x f cdv ->
   ∃ us,xf (fk (nS P w) P w K mg base N x (aa st) f cdv A outer s H E) (ao st) us/\us (wR md Qt) (fun x _=>Et x) (startM md args N.length)):ah P w K mg base (nS P w) (k+1) x ps (u_ K md tsp):=by
 obtain⟨f,fd,F1,bnd,m⟩:=F.ex;obtain⟨oc,od,kV,doc,pm,an,cdv,ct,osl,rfl,lk,hcd⟩:=F1.ex;refine⟨f,_,m,F1.kp,bnd,zt (CX:=nS P w) lk hcd S (fun vs H Q E h=>?_) (fun A outer s H vs Q E hr h=>?_)⟩
 ·obtain⟨Et,⟨B,args,Qt,ag,_⟩,_⟩:=h;rw[ag.len.1,hm]
 ·obtain⟨Et,⟨B,args,Qt,ag,bh,nd,ht,fin⟩,hE⟩:=h;obtain⟨us,⟨t,q,r⟩,hu⟩:=hbody args Qt Et (by rw[ag.len.2,hm]) ht f cdv A outer s H E hr ⟨m,_,_,lk,rfl,rfl⟩
  refine⟨t,q.h,?_⟩;have l0:=i7 (N:=N) ag bh nd hN;have outs:∀ ad' B' σ' H' μ' (B2:aJ),Rl (iX K H md vs B bh) ad' B' σ' H' μ'->(∀ b,B2 b->B' b)->Paired (Bx K H' B2) (iY md vs) (bN md 0 μ'):=fun ad' B' σ' H' μ' B2 l hB=>by
   refine kQ (ag.len.1) fun n e=>?_;obtain⟨v,t',e1,e2,q⟩:=ag.get e;rw[if_pos rfl] at q;obtain⟨a,rfl,_⟩:=q;obtain⟨⟨c,hc⟩,ha⟩:=l.par n a (jP e e1);have sl:=l.slot n _ hc;refine⟨a,c,e1,by rw[Nat.zero_add];exact hc,?_⟩
   rw[<- ha];exact (sl.2.2.2).of rfl (Fr.less hB)
  have keep:∀ ad' B' σ' H' μ',Rl (iX K H md vs B bh) ad' B' σ' H' μ'->∀ b o,H b=some o->b∉iY md vs->H' b=some o:=fun ad' B' σ' H' μ' l b o e n=>l.old b o e fun i z=>n (eA (eJ z).1 (eJ z).2);refine r (iX K H md vs B bh) _ _ (fun x _=>Et x) (kv vs) B (start N vs) H _ rfl l0 hu ⟨fun ad' B' σ' H' μ' l _ q=>?_,fun ad' B' σ' H' μ' v rr h q=>?_,fun _ _ _ _ _ _ _ z=>z.elim,fun _ _ _ _ _ _ _ z=>z.elim⟩ (fun ad' B' σ' H' μ' x cls d e l _ tr _ _ z=>t6 (hE x cls d e H' z (keep _ _ _ _ _ l) tr))
  ·exact fin .aI H' (.tr .aI) _ q (keep _ _ _ _ _ l) ⟨.aI,outs _ _ _ _ _ _ l l.bc⟩
  ·cases rr with
   | tr t=>exact fin v H' (.tr t) _ q (keep _ _ _ _ _ h.1) ⟨(show Rep K H' B' v t from h.2).fr (Fr.less h.1.bc),outs _ _ _ _ _ _ h.1 h.1.bc⟩
   | fr c =>
    obtain⟨l,a,rfl,n,h0,l2,x⟩:=h;have sub:∀ b,more B a b->more B' a b:=fun b z=>z.imp id (l.bc b);exact fin _ H' (.fr c) _ q (keep _ _ _ _ _ l) ⟨a,rfl,h0,fun z=>n (l.bc a z),x.of rfl (Fr.less sub),outs _ _ _ _ _ _ l2 sub⟩
   | br i =>
    have q':(match μ'[i]? with | some (.bx c)=>Qt (.fr c) (bN md 0 μ') | _=>False):=q
    obtain⟨l,rfl,s',c',e1,e2⟩:=h
    split at q'
    ·rename_i c ec;have sl:=l.slot i _ ec;have sub:∀ b,more B (ad' i) b->B' b:=fun b z=>z.elim (fun z=>by rw[z];exact sl.2.1) (l.bc b)
     refine fin _ H' (.fr c) _ q' (keep _ _ _ _ _ l) ⟨ad' i,rfl,sl.2.2.1,fun z=>?_,(sl.2.2.2.2).of rfl (Fr.less sub),outs _ _ _ _ _ _ l sub⟩;obtain⟨o,e⟩:=bh _ z;have:H (ad' i)=none:=sl.2.2.1;rw[this] at e;cases e
    ·exact q'.elim
theorem HasFn.G_{P:Program}{w:World}{K:PySem.W.Frag}{mg:Str->Option Value}{base:Heap}{x:Str}{st:Stmt}{N ps:List Str}{k:Nat}{tsp:vx}(F:HasFn K mg x st ps)(S:ax N ps (aa st))(md:List Bool)(hmd:md.all (fun b=>!b)=true)(hm:md.length=ps.length)(hN:md.length<=N.length)
  (hbody:∀ (args:List T) (Qt:R->List T->Prop) (Et:T->Prop),args.length=ps.length->tsp args Qt Et->∀ (f:Addr) (cdv:Value) (A:Around) (outer:List Env) (s:Shared) (H:Hp) (E:XK),bo k (A.deeper (envOfC x (aa st) s.heap.objs.size f cdv)) ->
   ∃ us,xf (fk (nS P w) P w K mg base N x (aa st) f cdv A outer s H E) (ao st) us/\us (wR md Qt) (fun x _=>Et x) (startM md args N.length)):ah P w K mg base (nS P w) (k+1) x ps (u_ K md tsp):=
 F.Cf S md hmd hm hN fun args Qt Et hl h f cdv A outer s H E hr _=>hbody args Qt Et hl h f cdv A outer s H E hr
section
variable {X:Cx} {pins pins':List (Addr×Obj)} {σ:St} {H:Hp} {s:Shared} {E:Value->Shared->Prop} {e:Addr}
end
namespace Y
end Y
noncomputable abbrev UJ:=Mu->(Mu->Prop)->Prop
structure YJ (X:Cx) (vs:List Expr) (u:UJ):Prop where
 run:∀ (F:Fx) (ad:Nat->Addr) (B:aJ) (σ:St) (H:Hp) (μ:Mu) (Qt:Mu->Prop) (pins:List (Addr×Obj)) (s:Shared) (acc:Str) (k:Nat) (R:Str->Shared->Prop),F.K=X.K->Rl F ad B σ H μ->u μ Qt->Inv X pins σ H s->acc.length<=2000*k->k+vs.length<=20 ->
  (∀ H' μ' s' (out:Str),Rl F ad B σ H' μ'->Fr B H B H'->Kp μ μ'->Qt μ'->Inv X pins σ H' s'->out.length<=40000->R out s')->Joins (model X.prog X.w) X.A X.xe (evalEach vs X.env) acc R s
theorem dI(a b:Str):(a++b).length=a.length+b.length:=Array.size_append
theorem d5{n:Nat}(h:n<=40000):n<=sizeLine:=Nat.le_trans h (by decide)
namespace Y
section
variable {X:Cx} {e:Expr} {vs:List Expr} {ue:UE} {u:UJ} {pos p:Pos}
theorem DE:YJ X [] (fun μ Q=>Q μ):=⟨fun F ad B σ H μ Qt pins s acc k R hF l q I ha hk h=>h H μ s acc l Fr.refl (Kp.refl μ) q I (by simp at hk;lia)⟩
theorem ym{c:Str}{j:Nat}(h:YJ X vs u)(hc:c.length<=2000:=by decide)(he:evalEach (.Constant (.str c) j p::vs) X.env=eval (.Constant (.str c) j p) X.env::evalEach vs X.env:=by rfl):YJ X (.Constant (.str c) j p::vs) u:=by
 refine⟨fun F ad B σ H μ Qt pins s acc k R hF l q I ha hk hR=>?_⟩;rw[he];refine bJ ((Z.str (X:=X) (i:=c) (j:=j) (pos:=p)).h pins s σ H (fun v H1=>v=.str c/\H1=H) I ⟨rfl,rfl⟩) fun v s1 ⟨v',H1,I1,r1,e1,e2⟩=>?_;subst e1;subst e2;obtain⟨t,rfl⟩:=r1;have hl:(acc++c).length<=2000*(k+1):=by rw[dI];lia
 rw[List.length_cons] at hk;exact⟨c,t,rfl,d5 (by lia),h.run F ad B σ H1 μ Qt pins s1 (acc++c) (k+1) R hF l q I1 hl (by lia) hR⟩
def Fn(ue:UE)(u:UJ):UJ:=fun μ Q=>ue μ fun r μ'=>match r with
 | .tr (.int i)=>i.natAbs < 2 ^ 1900/\u μ' Q
 | _=>False
theorem De(he:YE X e ue)(h:YJ X vs u)(hev:evalEach (.FormattedValue e (-1) none p::vs) X.env=eval (.FormattedValue e (-1) none p) X.env::evalEach vs X.env:=by rfl):YJ X (.FormattedValue e (-1) none p::vs) (Fn ue u):=by
 obtain⟨t,qe,r⟩:=he;refine⟨fun F ad B σ H μ Qt pins s acc k R hF l q I ha hk hR=>?_⟩;rw[hev];refine wpAny_FormattedValue_plain ?_;refine bJ (qe.h pins s σ H (fun v H1=>∃ r1 μ1,Vr F ad B σ H1 μ1 v r1/\Fr B H (Bv B v r1) H1/\Kp μ μ1/\(match r1 with
  | .tr (.int i)=>i.natAbs < 2 ^ 1900/\u μ1 Qt
  | _=>False)) I (r F ad B σ H μ _ _ hF l q fun v H1 r1 μ1 w f k1 q1=>⟨r1,μ1,w,f,k1,q1⟩)) fun v s1 ⟨v',H1,I1,rv,r1,μ1,w,f,k1,q1⟩=>?_
 split at q1
 ·rename_i i;obtain⟨l1,rp⟩:=w;cases rp;obtain⟨t',rfl⟩:=rv;obtain⟨hi,q1⟩:=q1;have hlog:i.natAbs.log2 < 1920:=by
   by_cases z:i.natAbs=0
   ·rw[z];decide
   ·exact (Nat.log2_lt z).mpr (Nat.lt_of_lt_of_le hi (Nat.pow_le_pow_right (by decide) (by decide)))
  have hlen:(Str.ofString (toString i)).length<=1921:=by
   have:=int_text_length_le (k:=1920) (by decide) hlog
   rw[PySem.ofString_length];exact this
  refine wpAny_formatField_int hlog ⟨_,_,rfl,?_,?_⟩
  ·rw[dI];exact d5 (by rw[List.length_cons] at hk;lia)
  ·rw[List.length_cons] at hk;exact h.run F ad B σ H1 μ1 Qt pins _ (acc++Str.ofString (toString i)) (k+1) R hF l1 q1 (I1.tok _) (by rw[dI];lia) (by lia) fun H' μ' s' out l' f' k'=>hR H' μ' s' out l' (f.trans f') (k1.trans k')
 ·exact q1.elim
def EY(u:UJ):UE:=fun μ Q=>u μ fun μ'=>∀ z:Str,z.length<=40000->Q (.tr (.str z)) μ'
theorem Es{v1 v2:Expr}{rest:List Expr}(h:YJ X (v1::v2::rest) u)(hn:(v1::v2::rest).length<=20:=by decide):YE X (.JoinedStr (v1::v2::rest) pos) (EY u):=by
 refine⟨fun σ H Q=>∀ pins s,Inv X pins σ H s->wpAny (model X.prog X.w) X.A (eval (.JoinedStr (v1::v2::rest) pos) X.env) (EP X pins σ Q) X.xe s,⟨fun pins s σ H Q I h=>h pins s I⟩,?_⟩;intro F ad B σ H μ Q Qt hF l q k pins s I;refine wpAny_JoinedStr (h.run F ad B σ H μ _ pins s Str.empty 0 _ hF l q I (by decide) (by rw[Nat.zero_add];exact hn) fun H' μ' s' out l' f' k' q' I' ho=>⟨d5 ho,?_⟩)
 exact⟨.str out,H',I'.tok _,⟨_,rfl⟩,k _ H' (.tr (.str out)) μ' ⟨l',.str out⟩ f' k' (q' out ho)⟩
end
end Y
namespace A
theorem Fn(ue:UE)(u:UJ)(μ:Mu)(Q:Mu->Prop):Y.Fn ue u μ Q=ue μ fun r μ'=>match r with
 | .tr (.int i)=>i.natAbs < 2 ^ 1900/\u μ' Q
 | _=>False:=rfl
theorem EY(u:UJ)(μ:Mu)(Q:R->Mu->Prop):Y.EY u μ Q=u μ fun μ'=>∀ z:Str,z.length<=40000->Q (.tr (.str z)) μ':=rfl
theorem rC(ux:UX)(g:UG)(E:Ed)(Xt:Xw)(μ:Mu):Y.rC ux g E Xt μ=ux μ (fun r μ'=>g r μ' E.nx) Xt:=rfl
theorem EX(c:UT)(u w:jq)(E:Ed)(Xt:Xw)(μ:Mu):Y.EX c u w E Xt μ=c μ fun b μ'=>if b=true then u E Xt μ' else w E Xt μ':=rfl
theorem EO(md:List Bool)(tsp:vx)(us:UA)(μ:Mu)(Q:R->Mu->Prop)(Xt:Xw):Y.EO md tsp us μ Q Xt=us μ fun rs μ1=>match wa μ1 md rs with
 | some args=>(fu md rs).Nodup/\(∀ j∈fu md rs,j∉fT md rs)/\tsp args (fun r outs=>(fT md rs=[]\/(lp r=true/\outs.all fe=true))/\Q r (putAll (fu md rs) outs μ1)) (fun cls=>Xt cls μ1)
 | none=>False:=rfl
theorem kJ(C:Addr)(us:UA)(E:Ed)(Xt:Xw)(μ:Mu):Y.kJ C us E Xt μ=us μ fun rs μ'=>rs.length<=10/\Xt (.exc (.ref C) none) μ':=rfl
end A
theorem yw{u w:jq}{E:Ed}{Xt:Xw}{μ:Mu}(h:∀ N,N=w E Xt->u { E with nx:=N } Xt μ):Y.Bd u w E Xt μ:=h _ rfl
namespace Y
end Y
namespace A
end A
def gw(n m:Nat)(e:Nat->Bool):Bool:=(List.range (min n m)).all e && n == m
inductive pw:Nat->T->T->Bool->Prop
 | flat {n:Nat} {t u:T} (f1:bM t=true) (f2:bM u=true):pw n t u (Y.CA t u)
 | tup {n:Nat} {xs ys:List T} (e:Nat->Bool) (h:∀ (j:Nat) (x y:T),xs[j]?=some x->ys[j]?=some y->pw n x y (e j)):pw (n+1) (.tup xs) (.tup ys) (gw xs.length ys.length e)
 | lst {n:Nat} {xs ys:List T} (e:Nat->Bool) (h:∀ (j:Nat) (x y:T),xs[j]?=some x->ys[j]?=some y->pw n x y (e j)):pw (n+1) (.lst xs) (.lst ys) (gw xs.length ys.length e)
theorem sL{t u:T}{v:V}{K:PySem.W.Frag}{H:Hp}{B:aJ}(h1:Rep K H B v t)(h2:Rep K H B v u)(f1:bM t=true)(f2:bM u=true):Y.CA t u=true:=by
 cases h1<;>first | (cases f1;done) | (cases h2<;>first | (cases f2;done) | simp[Y.CA])
theorem fO{n m:Nat}{e:Nat->Bool}(h:n=m)(h2:∀ j,j < n->e j=true):gw n m e=true:=by
 subst h;unfold gw;rw[Nat.min_self,beq_self_eq_true,Bool.and_true,List.all_eq_true];intro j hj;exact h2 j (by simpa using hj)
theorem pw.same{n:Nat}{t u:T}{b:Bool}(d:pw n t u b):∀ {K:PySem.W.Frag} {H:Hp} {B:aJ} {v:V},Rep K H B v t->Rep K H B v u->b=true:=by
 induction d with
 | flat f1 f2=>exact fun h1 h2=>sL h1 h2 f1 f2
 | tup e h ih =>
  rename_i nn xs ys;intro K H B v h1 h2
  cases h1 with
  | tup n1 a1 r1=>cases h2 with
   | tup n2 a2 r2 =>
    rw[a1] at a2;cases a2;refine fO (r1.length.symm.trans r2.length) fun j hj=>?_;have hx:=List.getElem?_eq_getElem hj;have hj2:j < ys.length:=by rw[<- r2.length,r1.length];exact hj
    have hy:=List.getElem?_eq_getElem hj2;obtain⟨v1,g1,p1⟩:=r1.get hx;obtain⟨v2,g2,p2⟩:=r2.get hy;rw[g1] at g2;cases g2;exact ih j _ _ hx hy p1 p2
 | lst e h ih =>
  rename_i nn xs ys;intro K H B v h1 h2
  cases h1 with
  | lst n1 a1 r1=>cases h2 with
   | lst n2 a2 r2 =>
    rw[a1] at a2;cases a2;refine fO (r1.length.symm.trans r2.length) fun j hj=>?_;have hx:=List.getElem?_eq_getElem hj;have hj2:j < ys.length:=by rw[<- r2.length,r1.length];exact hj
    have hy:=List.getElem?_eq_getElem hj2;obtain⟨v1,g1,p1⟩:=r1.get hx;obtain⟨v2,g2,p2⟩:=r2.get hy;rw[g1] at g2;cases g2;exact ih j _ _ hx hy p1 p2
section
variable {X:Cx} {pins:List (Addr×Obj)} {σ:St} {H:Hp} {s:Shared} {B:aJ}
theorem fh{A:Around}{n:Nat}{xs ys:List T}{vs ws:List V}{its its2:List Value}{e:Nat->Bool}(r1:af X.K H B vs xs)(r2:af X.K H B ws ys)(g1:Vals vs its)(g2:Vals ws its2)
  (ih:∀ (j:Nat) (x y:T),xs[j]?=some x->ys[j]?=some y->∀ (v w:V) (a b:Value),Rep X.K H B v x->Rep X.K H B w y->RelV v a->RelV w b->SeqAt.EqAt A s a b (e j)) :
  ∀ j (h1:j < its.toArray.size) (h2:j < its2.toArray.size),SeqAt.EqAt A s its.toArray[j] its2.toArray[j] (e j):=by
 intro j h1 h2;have l1:=g1.length;have l2:=g2.length;have l3:=r1.length;have l4:=r2.length;rw[List.size_toArray] at h1 h2;have hx:=List.getElem?_eq_getElem (show j < xs.length by lia)
 have hy:=List.getElem?_eq_getElem (show j < ys.length by lia)
 obtain⟨v1,q1,p1⟩:=r1.get hx;obtain⟨v2,q2,p2⟩:=r2.get hy;obtain⟨u1,e1,f1⟩:=g1.get q1;obtain⟨u2,e2,f2⟩:=g2.get q2;have z1:its.toArray[j]=u1:=by
  rw[List.getElem?_eq_getElem h1] at e1;simpa using e1
 have z2:its2.toArray[j]=u2:=by
  rw[List.getElem?_eq_getElem h2] at e2;simpa using e2
 rw[z1,z2];exact ih j _ _ hx hy v1 v2 u1 u2 p1 p2 f1 f2
theorem eR{vs ws:List V}{xs ys:List T}{its its2:List Value}(e:Nat->Bool)(r1:af X.K H B vs xs)(r2:af X.K H B ws ys)(g1:Vals vs its)(g2:Vals ws its2):((List.range (min its.toArray.size its2.toArray.size)).all e && its.toArray.size == its2.toArray.size)=gw xs.length ys.length e:=by
 have l1:=g1.length;have l2:=g2.length;have l3:=r1.length;have l4:=r2.length;unfold gw;rw[List.size_toArray,List.size_toArray,<- l1,<- l2,l3,l4]
theorem Bi{n:Nat}{t u:T}{b:Bool}(d:pw n t u b):∀ (I:Inv X pins σ H s) {A:Around} (hu:A.units+n < cLine) (v w:V) (a c:Value),Rep X.K H B v t->Rep X.K H B w u->RelV v a->RelV w c->SeqAt.EqAt A s a c b:=by
 induction d with
 | flat f1 f2 =>
  intro I A hu v w a c h1 h2 r1 r2;obtain⟨z1,z2,z3⟩:=Y.zI h1 h2 f1 f2;rw[<- z3];exact nv r1 r2 z1 z2
 | tup e h ih =>
  intro I A hu v w a c h1 h2 r1 r2;rename_i n xs ys;have h1':=h1;have h2':=h2
  cases h1 with
  | tup n1 a1 q1=>cases h2 with
   | tup n2 a2 q2 =>
    rename_i p1 vs p2 ws
    cases r1;cases r2
    by_cases z:p1=p2
    ·subst z;rw[(pw.tup (n:=n) e h).same h1' h2'];exact SeqAt.EqAt.same _
    ·obtain⟨its,g1,pl1,_⟩:=I.tuple (b6.of a1);obtain⟨its2,g2,pl2,_⟩:=I.tuple (b6.of a2);rw[<- eR (X:=X) e q1 q2 g1 g2];exact SeqAt.EqAt.of_refs z (SeqAt.RcAt.tuples pl1 pl2 (by lia) (fh (n:=n) q1 q2 g1 g2 fun j x y hx hy v w a c=>ih j x y hx hy I (A:=A.in1) (by show A.units+1+n < cLine;lia) v w a c))
 | lst e h ih =>
  intro I A hu v w a c h1 h2 r1 r2;rename_i n xs ys;have h1':=h1;have h2':=h2
  cases h1 with
  | lst n1 a1 q1=>cases h2 with
   | lst n2 a2 q2 =>
    rename_i p1 vs p2 ws
    cases r1;cases r2
    by_cases z:p1=p2
    ·subst z;rw[(pw.lst (n:=n) e h).same h1' h2'];exact SeqAt.EqAt.same _
    ·obtain⟨its,g1,pl1,_⟩:=I.list (bB.of a1);obtain⟨its2,g2,pl2,_⟩:=I.list (bB.of a2);have sz:=eR (X:=X) e q1 q2 g1 g2;rw[<- sz];by_cases hs:its.toArray.size=its2.toArray.size
     ·rw[hs,Nat.min_self,beq_self_eq_true,Bool.and_true,<- hs];exact SeqAt.EqAt.of_refs z (SeqAt.RcAt.lists pl1.isList pl2.isList hs (by lia) (fh (n:=n) q1 q2 g1 g2 fun j x y hx hy v w a c=>ih j x y hx hy I (A:=A.in1) (by show A.units+1+n < cLine;lia) v w a c))
     ·rw[beq_eq_false_iff_ne.mpr hs,Bool.and_false];exact SeqAt.EqAt.of_refs z (SeqAt.RcAt.lists_lengths pl1.isList pl2.isList (bne_iff_ne.mpr hs) (by lia))
end
namespace Y
def E2(K:PySem.W.Frag)(n:Nat)(neg:Bool):R2:=fun x y H Q=>∃ (B:aJ) (a b:Addr) (vs ws:List V) (xs ys:List T) (e:Nat->Bool),x=.ref a/\y=.ref b/\((b6 K H a vs/\b6 K H b ws)\/(bB K H a vs/\bB K H b ws))/\af K H B vs xs/\af K H B ws ys /\
 (∀ (j:Nat) (x y:T),xs[j]?=some x->ys[j]?=some y->pw n x y (e j))/\Q (.bl (if neg then !gw xs.length ys.length e else gw xs.length ys.length e)) H
theorem yP{X:Cx}{n:Nat}(hu:X.A.units+n+1 < cLine):cO X (compareOp .NotEq) (E2 X.K n true):=by
 intro pins s σ H x y v u Q I rx ry h;obtain⟨B,a,b,vs,ws,xs,ys,e,rfl,rfl,hq,r1,r2,ih,q⟩:=h
 cases rx;cases ry
 have it:∀ (j:Nat) (x y:T),xs[j]?=some x->ys[j]?=some y->∀ (v w:V) (a b:Value),Rep X.K H B v x->Rep X.K H B w y->RelV v a->RelV w b->SeqAt.EqAt X.A.in1 s a b (e j):=fun j x y hx hy v w a c=>Bi (ih j x y hx hy) I (A:=X.A.in1) (by show X.A.units+1+n < cLine;lia) v w a c
 rcases hq with ⟨ha,hb⟩ | ⟨ha,hb⟩
 ·obtain⟨its,g1,p1,_⟩:=I.tuple ha;obtain⟨its2,g2,p2,_⟩:=I.tuple hb;refine SeqAt.RcNeAt.tuples p1 p2 (by lia) (fh (n:=n) r1 r2 g1 g2 it) X.prog X.w X.xe _ ⟨.bl _,H,I,rfl,?_⟩
  rw[eR (X:=X) e r1 r2 g1 g2];exact q
 ·obtain⟨its,g1,p1,_⟩:=I.list ha;obtain⟨its2,g2,p2,_⟩:=I.list hb;have sz:=eR (X:=X) e r1 r2 g1 g2;by_cases hs:its.toArray.size=its2.toArray.size
  ·rw[hs,Nat.min_self,beq_self_eq_true,Bool.and_true,<- hs] at sz;refine SeqAt.RcNeAt.lists p1.isList p2.isList hs (by lia) (fh (n:=n) r1 r2 g1 g2 it) X.prog X.w X.xe _ ⟨.bl _,H,I,rfl,?_⟩
   rw[sz];exact q
  ·rw[beq_eq_false_iff_ne.mpr hs,Bool.and_false] at sz;refine SeqAt.RcNeAt.lists_lengths p1.isList p2.isList (bne_iff_ne.mpr hs) (by lia) X.prog X.w X.xe _ ⟨.bl true,H,I,rfl,?_⟩
   have q2:=q;rw[<- sz] at q2;exact q2
end Y
namespace Y
end Y
theorem kW{A:Around}{k:Nat}(hr:bo k A):A.units+4+1 < cLine:=Nat.lt_of_le_of_lt (Nat.add_le_add_left (by decide:4+1<=64) _) hr.units
namespace Y
def CM(K:PySem.W.Frag):R2:=fun x y H Q=>Aa K x y H Q\/E2 K 4 true x y H Q
theorem kq{X:Cx}(K:PySem.W.Frag)(hK:X.K=K)(hu:X.A.units+4+1 < cLine):cO X (compareOp .NotEq) (CM K):=by subst hK;exact (u3 X.K rfl (by lia)).or (yP hu)
def jK(xs ys:List T)(neg:Bool)(μ:Mu)(Q:R->Mu->Prop):Prop:=∃ e:Nat->Bool,(∀ (j:Nat) (x y:T),xs[j]?=some x->ys[j]?=some y->pw 4 x y (e j))/\Q (.tr (.bl (if neg then !gw xs.length ys.length e else gw xs.length ys.length e))) μ
def uw:T->T->Mu->(R->Mu->Prop)->Prop:=fun t u μ Q=>match t,u with
 | .tup xs,.tup ys=>jK xs ys true μ Q
 | .lst xs,.lst ys=>jK xs ys true μ Q
 | t,u=>Ei t u μ Q
theorem jW{K:PySem.W.Frag}:iR K (CM K) (pR uw):=dA fun F ad B σ H μ Q Qt x y t u hK l v1 v2 q k=>by
 unfold uw at q
 split at q
 ·obtain⟨e,h,q⟩:=q;subst hK
  cases v1 with
  | tup ha ra=>cases v2 with
   | tup hb rb=>exact .inr ⟨B,_,_,_,_,_,_,e,rfl,rfl,.inl ⟨b6.of ha,b6.of hb⟩,ra,rb,h,k _ H _ (Vr.flat l (.bl _)) Fr.refl q⟩
 ·obtain⟨e,h,q⟩:=q;subst hK
  cases v1 with
  | lst ha ra=>cases v2 with
   | lst hb rb=>exact .inr ⟨B,_,_,_,_,_,_,e,rfl,rfl,.inr ⟨bB.of ha,bB.of hb⟩,ra,rb,h,k _ H _ (Vr.flat l (.bl _)) Fr.refl q⟩
 ·subst hK;unfold Ei at q
  split at q
  ·cases v1;cases v2
   refine .inl (.inl ⟨rfl,?_⟩);rw[dV (f:=V.int) (fun a b h=>by injection h)]
   exact k _ H _ (Vr.flat l (.bl _)) Fr.refl q
  ·cases v1;cases v2
   refine .inl (.inl ⟨rfl,?_⟩);rw[dV (f:=V.str) (fun a b h=>by injection h)]
   exact k _ H _ (Vr.flat l (.bl _)) Fr.refl q
  ·cases v1;cases v2
   refine .inl (.inl ⟨rfl,?_⟩);rw[dV (f:=V.bl) (fun a b h=>by injection h)]
   exact k _ H _ (Vr.flat l (.bl _)) Fr.refl q
  ·exfalso;simp_all
  ·exfalso;simp_all
  ·exact q.elim
end Y
namespace A
theorem DZ(xs ys:List T)(μ:Mu)(Q:R->Mu->Prop):Y.uw (.tup xs) (.tup ys) μ Q=Y.jK xs ys true μ Q:=rfl
theorem Df(xs ys:List T)(μ:Mu)(Q:R->Mu->Prop):Y.uw (.lst xs) (.lst ys) μ Q=Y.jK xs ys true μ Q:=rfl
theorem D4(i j:Int)(μ:Mu)(Q:R->Mu->Prop):Y.uw (.int i) (.int j) μ Q=Q (.tr (.bl (!decide (i=j)))) μ:=rfl
end A
namespace Y
end Y
namespace A
end A
section
variable {prog:Program} {w:World} {A:Around} {E:Value->Shared->Prop} {s:Shared} {K:PySem.W.Frag} {x C:Addr} {ox:Obj}
end
section
variable {X:Cx}
end
namespace Y
section
variable {X:Cx} {a:Expr} {es:List Expr} {ua:UE} {pos p p3:Pos} {x:Str}
end
end Y
section
variable {X:Cx} {pins:List (Addr×Obj)} {σ:St} {H:Hp} {s:Shared}
end
namespace Y
end Y
namespace A
end A
section
variable {prog:Program} {w:World} {A:Around} {E:Value->Shared->Prop} {s:Shared} {K:PySem.W.Frag} {x C:Addr} {ox:Obj} {od:Option Obj}
end
section
variable {prog:Program} {w:World} {A:Around} {E:Value->Shared->Prop} {s:Shared} {K:PySem.W.Frag} {C S f:Addr} {name:Str}
end
section
variable {fs ex:List Addr} {H:Hp} {h h':Heap} {e d:Addr} {φ ψ:Heap->Prop}
end
section
variable {X:Cx} {C S f:Addr} {name:Str}
end
section
variable {X:Cx} {pins:List (Addr×Obj)} {σ:St} {H:Hp} {s:Shared} {C S f:Addr} {name:Str}
end
section
variable {X:Cx} {C S f:Addr} {name:Str}
end
namespace Y
section
variable {X:Cx} {C S f:Addr} {name x:Str} {e:Expr} {ue:UE} {p pos cpos:Pos}
end
end Y
section
variable {X:Cx}
end
namespace Y
section
variable {X:Cx} {a:Expr} {es:List Expr} {ua:UE} {pos p p3:Pos} {x:Str}
end
end Y
namespace A
end A
namespace Y
end Y
namespace A
end A
open Builtin Builtin.Str
namespace Y
end Y
namespace Y
end Y
namespace A
end A
end L2
namespace L2
open PySem PySem.Spec PyProof PyProof.Rows
section
variable {X:Cx} {es:List Expr} {tk:Nat} {tp:Pos}
end
namespace Y
end Y
namespace A
end A
section
variable {prog:Program} {w:World} {A:Around} {E:Value->Shared->Prop} {s:Shared} {K:PySem.W.Frag} {a:Addr} {D:List (Str×List Str)} {k:Str} {tk:Tok}
end
namespace Y
end Y
namespace A
end A
namespace Y
section
variable {prog:Program} {w:World} {A:Around} {E:Value->Shared->Prop} {s:Shared}
theorem x8{l:Addr}{vs:List Value}{ns:List Int}{Q:Value->Shared->Prop}(hh:A.handled=none)(ht:s.heap.IsList l vs.toArray)(hI:IntsAre vs ns)(hne:0 < ns.length)
  (h:∀ M h' tk t',M∈ns->(∀ a∈ns,a<=M)->(∀ b o,s.heap.get? b=some o->h'.get? b=some o)->Q (.int M t') { s with heap:=h',toks:=tk }) :
  wpAny (model prog w) A (call (.builtin "max") [.ref l]) Q E s:=by
 have hlt:l < s.heap.objs.size:=by obtain⟨o,ho,_⟩:=id ht;exact Heap.lt_size ho
 have hlen:=dO hI;refine call_max_walk (wpAny_pyIter_list ht ?_);refine⟨_,[_,l],[_],_,_,_,_,rfl,Walks.list (A:=A.in1) hh _ l (Nat.ne_of_lt hlt) vs.toArray,⟨⟨_,Heap.get?_push_size _ rfl,rfl,rfl⟩,ht.push _⟩,fun c hc=>?_,by simpa[hlen] using hne,CmpOf.ints_gt (fun i=>ns.getD i 0) (fun i v e=>fw hI (by simpa using e)),fun v h' tk hP hk=>?_⟩
 ·show c < (s.heap.push _).objs.size;rw[Heap.size_push];rcases List.mem_cons.mp hc with rfl | hc
  ·exact Nat.lt_succ_self _
  ·rcases List.mem_cons.mp hc with rfl | hc
   ·exact Nat.lt_succ_of_lt hlt
   ·cases hc
 ·obtain⟨t,rfl⟩:=fw (i:=argBest (fun i j=>decide (ns.getD i 0 > ns.getD j 0)) (vs.toArray.size - 1)) hI (by rw[<- List.getElem?_toArray];exact hP)
  obtain⟨h1,h2⟩:=argBest_gt (fun i=>ns.getD i 0) (vs.toArray.size - 1);have hsz:vs.toArray.size=ns.length:=by simpa using hlen
  refine h _ h' tk t ?_ (fun a ha=>?_) (fun b o e=>hk b o (fun hm=>?_) (Heap.get?_push_of_some _ e))
  ·have:argBest (fun i j=>decide (ns.getD i 0 > ns.getD j 0)) (vs.toArray.size - 1) < ns.length:=by lia
   rw[List.getD_eq_getElem?_getD,List.getElem?_eq_getElem this];exact List.getElem_mem _
  ·obtain⟨j,hj,rfl⟩:=List.mem_iff_getElem.mp ha;have:=h2 j (by lia)
   rw[List.getD_eq_getElem?_getD,List.getElem?_eq_getElem hj] at this;exact this
  ·rcases List.mem_cons.mp hm with rfl | hm
   ·exact absurd (Heap.lt_size e) (Nat.lt_irrefl _)
   ·cases hm
end
def zS(K:PySem.W.Frag):List V->Hp->VK->Prop:=fun xs H Q=>u4 K xs H Q\/∃ (p:Addr) (ns:List Int),xs=[.ref p]/\bB K H p (ns.map V.int)/\0 < ns.length/\∀ M:Int,M∈ns->(∀ a∈ns,a<=M)->Q (.int M) H
theorem se{X:Cx}(K:PySem.W.Frag)(hK:X.K=K)(hc:X.calm=true):aL X (.builtin "max") (zS K):=by
 refine (si K hK hc).or ?_;subst hK;intro pins s σ H xs us Q I r h;obtain⟨p,ns,rfl,hq,hne,q⟩:=h;obtain⟨u,rfl,ru⟩:=vals1 r;cases ru;obtain⟨its,rv,pl,hz⟩:=I.list hq;refine x8 (I.ok.hd hc) pl.isList (intsAre_of rv) hne fun M h' tk t' m1 m2 hk=>?_;exact⟨.int M,H,I.kept hk,⟨_,rfl⟩,q M m1 m2⟩
def wD:UC:=fun rs μ Q=>match rs with
 | [.tr (.lst xs)]=>∃ ns:List Int,xs=ns.map T.int/\0 < ns.length/\∀ M:Int,M∈ns->(∀ a∈ns,a<=M)->Q (.tr (.int M)) μ
 | _=>tO rs μ Q
theorem xH{K:PySem.W.Frag}:RC K (zS K) wD:=by
 intro F ad B σ H μ Q Qt xs rs hK l p q k;unfold wD at q
 split at q
 ·obtain⟨ns,rfl,hne,q⟩:=q;subst hK
  cases p with
  | cons h1 p =>
   cases p;have v1:=h1.vw l (show cont μ (.tr (.lst (ns.map T.int)))=some _ from rfl)
   cases v1 with
   | lst ha ra=>exact .inr ⟨_,ns,rfl,by rw[<- bI ra];exact bB.of ha,hne,fun M m1 m2=>k _ H _ μ (Vr.flat l (.int _)) Fr.refl (Kp.refl μ) (q M m1 m2)⟩
 ·exact .inl (xN F ad B σ H μ Q Qt xs _ hK l p q k)
end Y
namespace A
theorem Dp(xs:List T)(μ:Mu)(Q:R->Mu->Prop):Y.wD [.tr (.lst xs)] μ Q=(∃ ns:List Int,xs=ns.map T.int/\0 < ns.length/\∀ M:Int,M∈ns->(∀ a∈ns,a<=M)->Q (.tr (.int M)) μ):=rfl
end A
namespace Y
def gq(g:UG)(body:jq)(E:Ed)(Xt:Xw):List T->Mu->Prop
 | [],μ=>E.nx μ
 | t::ts,μ=>g (.tr t) μ fun μ1=>body { E with nx:=gq g body E Xt ts,ct:=gq g body E Xt ts,bk:=E.nx } Xt μ1
def yo(ui:UI)(g:UG)(body:jq):jq:=fun E Xt μ=>ui μ fun items gd μ'=>gd=none/\gq g body E Xt items μ'
theorem rF{K:PySem.W.Frag}{Dx:C6}{g:TG}{ug:UG}{tb:TS}{body:jq}{F:Fx}{D:Ends}{E:Ed}{Xt:Xw}{J:It}{Src:Hp->aJ->Prop}{items:List T}{B0:aJ}{H0:Hp}(hF:F.K=K)(hg:RG K g ug)(hb:ES K Dx tb body)(it:h9 K J Src items)
  (pe:∀ B1 H1 B2 H2,Fr B1 H1 B2 H2->Src H1 B1->Src H2 B2) (hE:om F B0 H0 D E) (hX:qM F B0 H0 Dx Xt) {ad:Nat->Addr} {B:aJ} {σ:St} {H:Hp} {μ:Mu} (l:Rl F ad B σ H μ) (f:Fr B0 H0 B H) (sr:Src H B) (q:gq ug body E Xt items μ) :
  ∃ W:Nat->Nat->St->Hp->Prop,(∃ m,W 0 m σ H)/\∀ i m σ H,W i m σ H ->
   (J.stop i H/\D.nx σ H)\/(J.go i H/\∃ N:St->Hp->Prop,(∀ σ' H',N σ' H'->∃ m',m' < m/\W (i+1) m' σ' H')/\∀ x H',J.C5 i H x H'->g x σ H' fun σ2 H2=>tb { D with nx:=N,ct:=N,bk:=D.nx } σ2 H2):=by
 refine⟨fun i m σ H=>m=items.length - i/\i<=items.length/\∃ ad B μ,Rl F ad B σ H μ/\Fr B0 H0 B H/\Src H B/\gq ug body E Xt (items.drop i) μ,⟨items.length,by simp,Nat.zero_le _,ad,B,μ,l,f,sr,q⟩,?_⟩
 rintro i m σ H ⟨rfl,hi,ad,B,μ,l,f,sr,q⟩;by_cases hlt:i < items.length
 ·have ei:items[i]?=some items[i]:=List.getElem?_eq_getElem hlt;rw[List.drop_eq_getElem_cons hlt] at q;obtain⟨go,yl⟩:=it.step H B i _ l.er sr ei;refine .inr ⟨go,fun σ' H'=>∃ ad' B' μ',Rl F ad' B' σ' H' μ'/\Fr B0 H0 B' H'/\Src H' B'/\gq ug body E Xt (items.drop (i+1)) μ',fun σ' H' h=>⟨items.length - (i+1),by lia,rfl,hlt,h⟩,fun x H2 y=>?_⟩
  obtain⟨sm,rp⟩:=yl x H2 y;refine hg F ad B σ H2 μ x (.tr _) B H2 _ _ hF ⟨l.same sm,by show Rep F.K H2 B x _;rw[hF];exact rp⟩ Fr.refl q fun ad3 B3 σ3 H3 μ3 l3 f3 q3=>?_
  have f03:Fr B0 H0 B3 H3:=(f.trans (Fr.same sm)).trans f3;have s3:Src H3 B3:=pe _ _ _ _ ((Fr.same sm).trans f3) sr;exact hb F _ _ Xt ad3 B3 σ3 H3 μ3 hF l3 q3 ⟨fun ad' B' σ' H' μ' l' f' q'=>⟨ad',B',μ',l',f03.trans f',pe _ _ _ _ f' s3,q'⟩,hE.rt,fun ad' B' σ' H' μ' l' f' q'=>hE.nx ad' B' σ' H' μ' l' (f03.trans f') q',fun ad' B' σ' H' μ' l' f' q'=>⟨ad',B',μ',l',f03.trans f',pe _ _ _ _ f' s3,q'⟩⟩ (hX.step f03)
 ·have e:i=items.length:=by lia
  subst e;rw[List.drop_length] at q;exact .inl ⟨it.stop H B sr,hE.nx ad B σ H μ l f q⟩
theorem DV{X:Cx}{tg it:Expr}{xs:List Stmt}{pos:Pos}{ui:UI}{g:UG}{u:jq}(hp:PassesOwn (model X.prog X.w) X.A X.env X.xe)(hc:X.calm=true)(hi:YI X tg it ui)(hg:YG X tg g)(hb:xf X xs u)(hs:∀ x,foldedSetIterable it X.env x=pure x:=by intro _;rfl):zv X (.For tg it xs [] pos) (yo ui g u):=by
 obtain⟨ti,qi,ri⟩:=hi;obtain⟨tg',qg,rg⟩:=hg;obtain⟨t,q,r⟩:=hb;refine⟨_,Z.iG hp hc qi qg q hs,fun F D E Xt ad B σ H μ hF l q h hX=>ri F ad B σ H μ _ _ hF l q fun J H' μ' items gd Src l1 f1 k1 it sr so gok q1=>?_⟩;obtain⟨rfl,q1⟩:=q1;exact rF hF rg r it so h hX l1 f1 sr q1
end Y
theorem tD{g:UG}{body:jq}{E:Ed}{Xt:Xw}(I:List T->Mu->Prop){items:List T}{μ:Mu}(h0:I items μ)(hn:∀ μ,I [] μ->E.nx μ)
  (hs:∀ t ts μ (N:Mu->Prop),I (t::ts) μ->(∀ μ',I ts μ'->N μ')->g (.tr t) μ fun μ1=>body { E with nx:=N,ct:=N,bk:=E.nx } Xt μ1):Y.gq g body E Xt items μ:=by
 induction items generalizing μ with
 | nil=>exact hn μ h0
 | cons t ts ih=>exact hs t ts μ _ h0 fun μ' h=>ih h
namespace A
theorem yo(ui:UI)(g:UG)(body:jq)(E:Ed)(Xt:Xw)(μ:Mu):Y.yo ui g body E Xt μ=ui μ fun items gd μ'=>gd=none/\Y.gq g body E Xt items μ':=rfl
end A
namespace Y
end Y
namespace A
end A
section
variable {prog:Program} {w:World} {A:Around} {E:Value->Shared->Prop} {s:Shared}
end
section
variable {X:Cx} {es:List Expr} {tk:Nat} {tp:Pos}
end
namespace Y
end Y
namespace Y
end Y
namespace A
end A
open Builtin Builtin.Str
section
variable {prog:Program} {w:World} {A:Around} {E:Value->Shared->Prop} {s:Shared} {x y:Str} {t u:Tok}
end
section
variable {X:Cx}
end
namespace Y
end Y
namespace A
end A
end L2
namespace L2
open PySem PySem.Spec PyProof PyProof.Rows
inductive Ou where
 | no
 | ok (r:R)
 | ck (c:Prop) (r:R)
def j_(o:Ou)(Q:R->Prop):Prop:=match o with
 | .no=>False
 | .ok r=>Q r
 | .ck c r=>c/\Q r
def qS(o:Option Sl)(i:Nat):Ou:=match o with
 | some (.tr t)=>.ok (.tr t)
 | some (.bx _)=>.ok (.br i)
 | some (.pb _)=>.ok (.br i)
 | _=>.no
def r_(a b:Option T):Ou:=match a,b with
 | some (.int i),some (.int j)=>.ok (.tr (.int (i+j)))
 | some (.str i),some (.str j)=>.ck (i.length+j.length<=sizeLine) (.tr (.str (i++j)))
 | some (.lst xs),some (.lst ys)=>.ck (xs.length+ys.length<=sizeLine) (.fr (.lst (xs++ys)))
 | some (.tup xs),some (.tup ys)=>.ck (xs.length+ys.length<=sizeLine) (.tr (.tup (xs++ys)))
 | _,_=>.no
def oQ(o:Option T):Ou:=match o with
 | some t=>.ok (.tr t)
 | none=>.no
def CU(a b:Option T):Ou:=match a,b with
 | some (.lst xs),some (.int i)=>oQ (bV xs i)
 | some (.tup xs),some (.int i)=>oQ (bV xs i)
 | some (.gm xs),some (.int i)=>oQ (bV xs i)
 | some (.str z),some (.int i)=>(match bV z.cps.toList i with | some c=>.ck (z.length<=sizeLine) (.tr (.str ⟨#[c]⟩)) | none=>.no)
 | _,_=>.no
def lA(a:T):Ou:=match a with
 | .lst xs=>.ok (.tr (.int xs.length))
 | .tup xs=>.ok (.tr (.int xs.length))
 | .d7 xs=>.ok (.tr (.int xs.length))
 | .gm xs=>.ok (.tr (.int xs.length))
 | .str z=>.ck (z.length<=sizeLine) (.tr (.int z.length))
 | _=>.no
def B7(a:Option T)(lo hi:Option Int):Ou:=match a with
 | some (.lst xs)=>.ok (.fr (.lst (Y.bu xs lo hi)))
 | some (.d7 xs)=>.ok (.fr (.lst (Y.bu xs lo hi)))
 | some (.tup xs)=>.ok (.tr (.tup (Y.bu xs lo hi)))
 | some (.str z)=>.ck (z.length<=sizeLine) (.tr (.str (Y.eH z lo hi)))
 | _=>.no
theorem h7(p:Prop):(True/\p)=p:=propext ⟨fun h=>h.2,fun h=>⟨trivial,h⟩⟩
theorem G8(o:Option Sl)(i:Nat)(Q:R->Prop):stp (Ai o i) Q=j_ (qS o i) Q:=by
 cases o with
 | none=>rfl
 | some s=>cases s<;>first | rfl | exact h7 _
theorem GJ(a b:Option T)(Q:R->Prop):stp (AJ a b) Q=j_ (r_ a b) Q:=by
 cases a with
 | none=>rfl
 | some a=>cases b with
  | none=>cases a<;>rfl
  | some b=>cases a<;>cases b<;>first | rfl | exact h7 _
theorem bq(a b:Option T)(Q:R->Prop):stp (FI a b) Q=j_ (CU a b) Q:=by
 cases a with
 | none=>rfl
 | some a=>cases b with
  | none=>cases a<;>rfl
  | some b =>
   cases a<;>cases b<;>first
    | rfl
    | (rename_i xs i;show stp (oT (bV xs i)) Q=j_ (oQ (bV xs i)) Q;cases bV xs i with | none=>rfl | some t=>exact h7 _)
    | (rename_i z i;show stp (match bV z.cps.toList i with | some c=>some (z.length<=sizeLine,.tr (.str ⟨#[c]⟩)) | none=>none) Q=j_ (match bV z.cps.toList i with | some c=>.ck (z.length<=sizeLine) (.tr (.str ⟨#[c]⟩)) | none=>.no) Q;cases bV z.cps.toList i<;>rfl)
theorem FZ(a:T)(Q:R->Prop):stp (DS a) Q=j_ (lA a) Q:=by cases a<;>first | rfl | exact h7 _
theorem Hl(a:Option T)(lo hi:Option Int)(Q:R->Prop):stp (Y.A1 a lo hi) Q=j_ (B7 a lo hi) Q:=by
 cases a with
 | none=>rfl
 | some a=>cases a<;>first | rfl | exact h7 _
namespace Y
def vN(i:Nat):UE:=fun μ Q=>j_ (qS μ[i]? i) fun r=>Q r μ
def v8:U2:=fun r1 r2 μ Q=>j_ (r_ (cont μ r1) (cont μ r2)) fun r=>Q r μ
def AK:U2:=fun r1 r2 μ Q=>j_ (CU (cont μ r1) (cont μ r2)) fun r=>Q r μ
def v_(t:T)(μ:Mu)(Q:R->Mu->Prop):Prop:=j_ (lA t) fun r=>Q r μ
def yQ(ue:UE)(ul uh:UO):UE:=fun μ Q=>ue μ fun r μ1=>ul μ1 fun lo μ2=>uh μ2 fun hi μ3=>j_ (B7 (cont μ3 r.d) lo hi) fun r=>Q r μ3
def tW(ue:UE):UI:=fun μ Rt=>ue μ fun r μ'=>CL (Cp r μ') fun ts g=>Rt ts g μ'
def Fs(n:Nat)(gs:qj):UG:=fun r μ Q=>match tT (cont μ r.d) with | some ts=>ts.length=n/\gs ts μ Q | none=>False
def v5(ue:UE):UT:=fun μ Q=>ue μ fun r μ'=>match vQ r with | some b=>Q b μ' | none=>False
theorem Gj(i:Nat):kC i=vN i:=funext fun μ=>funext fun Q=>(A.kC i μ Q).trans (G8 _ _ _)
theorem FK:iU=v8:=funext fun r1=>funext fun r2=>funext fun μ=>funext fun Q=>(A.iU r1 r2 μ Q).trans (GJ _ _ _)
theorem Hj:nQ=AK:=funext fun r1=>funext fun r2=>funext fun μ=>funext fun Q=>(A.nQ r1 r2 μ Q).trans (bq _ _ _)
theorem Gg:mw=v_:=funext fun t=>funext fun μ=>funext fun Q=>(A.mw t μ Q).trans (FZ _ _)
theorem Hm(ue:UE)(ul uh:UO):Bz ue ul uh=yQ ue ul uh:=funext fun μ=>funext fun Q=>by
 unfold Bz yQ;congr 1;funext r μ1;congr 1;funext lo μ2;congr 1;funext hi μ3;exact Hl _ _ _ _
theorem Hd(ue:UE):yV ue=tW ue:=funext fun μ=>funext fun Rt=>A.yV ue μ Rt
theorem eT(n:Nat)(gs:qj):gT n gs=Fs n gs:=funext fun r=>funext fun μ=>funext fun Q=>A.gT n gs r μ Q
theorem FD(ue:UE):lX ue=v5 ue:=funext fun μ=>funext fun Q=>A.lX ue μ Q
theorem vS{X:Cx}{x:Str}{pos:Pos}(i:Nat)(hN:X.N[i]?=some x:=by rfl)(hv:BY X.env.scope x:=by first | exact Or.inl rfl | exact Or.inr (Or.inl rfl) | exact Or.inr (Or.inr rfl))(hd:(x ==("__debug__":Str))=false:=by decide)
  (hcd:(x ==("__classdict__":Str))=false:=by decide):YE X (.Name x pos) (vN i):=Gj i ▸ v i hN hv hd hcd
theorem aH{K:PySem.W.Frag}:iR K (vg K) v8:=FK ▸ Au
theorem aR{K:PySem.W.Frag}:iR K (Fc K) AK:=Hj ▸ Em
theorem aK{K:PySem.W.Frag}:RC K (wJ K) (n8 v_):=Gg ▸ BX
theorem cV{X:Cx}{e:Expr}{ue:UE}{p2 pos:Pos}{lo hi:Option Expr}{ul uh:UO}(K:PySem.W.Frag)(hK:X.K=K)(he:YE X e ue)(hl:YO X lo ul)(hu:YO X hi uh):YE X (.Subscript e (.Slice lo hi none p2) pos) (yQ ue ul uh):=Hm ue ul uh ▸ Aj K hK he hl hu
theorem anyS{X:Cx}{tg e:Expr}{ue:UE}(K:PySem.W.Frag)(hK:X.K=K)(he:YE X e ue):YI X tg e (tW ue):=Hd ue ▸ any K hK he
theorem Dc{X:Cx}{es:List Expr}{pos:Pos}(K:PySem.W.Frag)(hK:X.K=K){k n:Nat}{gs:qj}(hc:X.calm=true)(h:Eg X es gs)(hn:(assignEach es X.env).length=n:=by rfl)(hst:(assignEach es X.env).findIdx? (·.1)=none:=by rfl):YG X (.Tuple es k pos) (Fs n gs):=eT n gs ▸ oa K hK hc h hn hst
theorem lu{X:Cx}{a:Expr}{ua:UE}(K:PySem.W.Frag)(hK:X.K=K)(ha:YE X a ua)(he:Z.EV a=true:=by rfl):YT X a (v5 ua):=FD ua ▸ Ah K hK ha he
end Y
namespace A3
theorem zZ(r:R)(Q:R->Prop):j_ (.ok r) Q=Q r:=rfl
theorem AQ(c:Prop)(r:R)(Q:R->Prop):j_ (.ck c r) Q=(c/\Q r):=rfl
theorem Di(ts:List T)(g:Option (Nat×List T))(Q:List T->Option (Nat×List T)->Prop):CL (some (ts,g)) Q=Q ts g:=rfl
theorem xr(t:T):oQ (some t)=.ok (.tr t):=rfl
theorem kC(i:Nat)(μ:Mu)(Q:R->Mu->Prop):Y.vN i μ Q=j_ (qS μ[i]? i) fun r=>Q r μ:=rfl
theorem iU(r1 r2:R)(μ:Mu)(Q:R->Mu->Prop):Y.v8 r1 r2 μ Q=j_ (r_ (cont μ r1) (cont μ r2)) fun r=>Q r μ:=rfl
theorem GY(r1 r2:R)(μ:Mu)(Q:R->Mu->Prop):Y.AK r1 r2 μ Q=j_ (CU (cont μ r1) (cont μ r2)) fun r=>Q r μ:=rfl
theorem mw(t:T)(μ:Mu)(Q:R->Mu->Prop):Y.v_ t μ Q=j_ (lA t) fun r=>Q r μ:=rfl
theorem GD(ue:UE)(ul uh:UO)(μ:Mu)(Q:R->Mu->Prop):Y.yQ ue ul uh μ Q=ue μ fun r μ1=>ul μ1 fun lo μ2=>uh μ2 fun hi μ3=>j_ (B7 (cont μ3 r.d) lo hi) fun r=>Q r μ3:=rfl
theorem yV(ue:UE)(μ:Mu)(Rt:List T->Option (Nat×List T)->Mu->Prop):Y.tW ue μ Rt=ue μ fun r μ'=>CL (Cp r μ') fun ts g=>Rt ts g μ':=rfl
theorem gT(n:Nat)(gs:qj)(r:R)(μ:Mu)(Q:Mu->Prop):Y.Fs n gs r μ Q=(match tT (cont μ r.d) with | some ts=>ts.length=n/\gs ts μ Q | none=>False):=rfl
theorem lX(ue:UE)(μ:Mu)(Q:Bool->Mu->Prop):Y.v5 ue μ Q=ue μ fun r μ'=>match vQ r with | some b=>Q b μ' | none=>False:=rfl
theorem FJ(t:T)(i:Nat):qS (some (.tr t)) i=.ok (.tr t):=rfl
theorem FP(t:T)(i:Nat):qS (some (.bx t)) i=.ok (.br i):=rfl
theorem FG(t:T)(i:Nat):qS (some (.pb t)) i=.ok (.br i):=rfl
theorem Ey(i j:Int):r_ (some (.int i)) (some (.int j))=.ok (.tr (.int (i+j))):=rfl
theorem E3(i j:Str):r_ (some (.str i)) (some (.str j))=.ck (i.length+j.length<=sizeLine) (.tr (.str (i++j))):=rfl
theorem add_l(xs ys:List T):r_ (some (.lst xs)) (some (.lst ys))=.ck (xs.length+ys.length<=sizeLine) (.fr (.lst (xs++ys))):=rfl
theorem Gp(xs:List T)(i:Int):CU (some (.lst xs)) (some (.int i))=oQ (bV xs i):=rfl
theorem Fu(xs:List T)(i:Int):CU (some (.tup xs)) (some (.int i))=oQ (bV xs i):=rfl
theorem D3(xs:List T):lA (.lst xs)=.ok (.tr (.int xs.length)):=rfl
theorem Eo(xs:List T):lA (.tup xs)=.ok (.tr (.int xs.length)):=rfl
theorem Dh(xs:List T):lA (.d7 xs)=.ok (.tr (.int xs.length)):=rfl
theorem CG(z:Str):lA (.str z)=.ck (z.length<=sizeLine) (.tr (.int z.length)):=rfl
theorem Fz(xs:List T)(lo hi:Option Int):B7 (some (.lst xs)) lo hi=.ok (.fr (.lst (Y.bu xs lo hi))):=rfl
theorem FY(xs:List T)(lo hi:Option Int):B7 (some (.d7 xs)) lo hi=.ok (.fr (.lst (Y.bu xs lo hi))):=rfl
theorem Ft(xs:List T)(lo hi:Option Int):B7 (some (.tup xs)) lo hi=.ok (.tr (.tup (Y.bu xs lo hi))):=rfl
theorem G0(z:Str)(lo hi:Option Int):B7 (some (.str z)) lo hi=.ck (z.length<=sizeLine) (.tr (.str (Y.eH z lo hi))):=rfl
end A3
open Builtin Builtin.Str
section
variable {prog:Program} {w:World} {A:Around} {E:Value->Shared->Prop} {h:Heap} {g:Array GenState} {d:Drawn} {t:Nat} {os:OsState} {a:Addr} {items:Array Value} {cn:Nat}
end
section
variable {prog:Program} {w:World} {K:Type} [DecidableEq K] {knd:KeyKind prog w K} {A:Around} {R:Result->Shared->Prop}
end
end L2
namespace L2
open PySem PySem.Spec PyProof PyProof.Rows
def mP(ks:List Str)(us:List T):List T:=List.zipWith (fun k u=>T.tup [.str k,u]) ks us
namespace Y
end Y
namespace A
end A
namespace Z
section
variable {X:Cx} {CX:kZ} {k:Nat} {f C:Addr} {fd:FuncData} {ps:List Str} {sp:Sp} {E:XK} {x m nm:Str} {p pos pos' apos:Pos} {e o i value:Expr} {es:List Expr} {ta tv td ty:TE} {t:TA}
end
end Z
namespace Ap
end Ap
section
variable {prog:Program} {w:World} {A:Around} {E:Value->Shared->Prop} {s:Shared} {K:PySem.W.Frag} {a:Addr} {D:List (Str×List Str)} {k:Str} {tk:Tok}
end
namespace Y
end Y
namespace A
end A
namespace Y
end Y
namespace A
end A
namespace Y
end Y
namespace A
end A
namespace SS
def ky(p:Keyed):Int:=numOf p.1
def ff(a:Int)(xs:List Keyed):List Keyed:=xs.filter fun p=>decide (ky p=a)
theorem eO(a:Int)(xs ys:List Keyed):ff a (xs++ys)=ff a xs++ff a ys:=List.filter_append ..
theorem pq{a:Int}{xs:List Keyed}(h:∀ p∈xs,ky p≠a):ff a xs=[]:=by
 unfold ff;rw[List.filter_eq_nil_iff];intro p hp
 simpa using h p hp
def St(xs ys:List Keyed):Prop:=∀ a,ff a xs=ff a ys
theorem St.trans{xs ys zs:List Keyed}(h:St xs ys)(g:St ys zs):St xs zs:=fun a=>(h a).trans (g a)
theorem St.past{p m r:List Keyed}{y:Keyed}(h:∀ q∈m,ky q≠ky y):St (p++y::m++r) (p++m++y::r):=by
 intro a;have e1:p++y::m++r=p++([y]++m)++r:=by simp
 have e2:p++m++y::r=p++(m++[y])++r:=by simp
 rw[e1,e2,eO,eO,eO,eO,eO];congr 2;by_cases c:ky y=a
 ·have:ff a m=[]:=pq fun q hq=>by rw[<- c];exact h q hq
  rw[eO,this,List.append_nil,List.nil_append]
 ·have:ff a [y]=[]:=pq fun q hq=>by rw[List.mem_singleton.mp hq];exact c
  rw[eO,this,List.append_nil,List.nil_append]
theorem i8{xs:Array Keyed}{k l:Nat}{y:Keyed}(hy:xs[k]?=some y)(hl:l<=k):(bubble xs k (k - l)).toList=xs.toList.take l++y::(xs.toList.drop l).take (k - l)++xs.toList.drop (k+1):=by
 have hk:k < xs.size:=(Array.getElem?_eq_some_iff.mp hy).1;have hL:xs.toList.length=xs.size:=by simp
 apply List.ext_getElem?;intro i;rw[Array.getElem?_toList,getElem?_bubble hk _ (by lia),show k - (k - l)=l by lia]
 rw[List.append_assoc,List.getElem?_append];have ht:(xs.toList.take l).length=l:=by rw[List.length_take];lia
 rw[ht];by_cases h1:i < l
 ·rw[if_pos h1,if_neg (by lia),if_neg (by lia),List.getElem?_take,if_pos h1,Array.getElem?_toList]
 ·rw[if_neg h1];by_cases h2:i=l
  ·subst h2;rw[if_pos rfl,Nat.sub_self,hy];rfl
  ·rw[if_neg h2,show i - l=(i - l - 1)+1 by lia,List.cons_append,List.getElem?_cons_succ,List.getElem?_append]
   have hm:((xs.toList.drop l).take (k - l)).length=k - l:=by rw[List.length_take,List.length_drop];lia
   rw[hm];by_cases h3:i - l - 1 < k - l
   ·rw[if_pos h3,if_pos (by lia),List.getElem?_take,if_pos h3,List.getElem?_drop,Array.getElem?_toList]
    congr 1;lia
   ·rw[if_neg h3,if_neg (by lia),List.getElem?_drop,Array.getElem?_toList]
    congr 1;lia
theorem dM{xs:Array Keyed}{i j:Nat}(hi:i<=j)(hj:j<=xs.size):(mirror xs i j ((j - i) / 2)).toList=xs.toList.take i++((xs.toList.drop i).take (j - i)).reverse++xs.toList.drop j:=by
 have hL:xs.toList.length=xs.size:=by simp
 apply List.ext_getElem?;intro k;rw[Array.getElem?_toList,getElem?_mirror_all hj,List.append_assoc,List.getElem?_append];have ht:(xs.toList.take i).length=i:=by rw[List.length_take];lia
 have hm:((xs.toList.drop i).take (j - i)).length=j - i:=by rw[List.length_take,List.length_drop];lia
 rw[ht];by_cases h1:k < i
 ·rw[if_pos h1,if_neg (by lia),List.getElem?_take,if_pos h1,Array.getElem?_toList]
 ·rw[if_neg h1,List.getElem?_append,List.length_reverse,hm];by_cases h2:k < j
  ·rw[if_pos (by lia),if_pos (by lia),List.getElem?_reverse (by lia),hm,List.getElem?_take,if_pos (by lia),List.getElem?_drop,Array.getElem?_toList]
   congr 1;lia
  ·rw[if_neg (by lia),if_neg (by lia),List.getElem?_drop,Array.getElem?_toList]
   congr 1;lia
theorem j7{xs:Array Keyed}{i:Nat}{p:Keyed}(h:xs[i]?=some p):K xs i=ky p:=by unfold K ky;rw[h]
theorem kd{xs:Array Keyed}{i n:Nat}{p:Keyed}(h:p∈(xs.toList.drop i).take n):∃ j,i<=j/\j < i+n/\xs[j]?=some p:=by
 obtain⟨m,hm⟩:=List.mem_iff_getElem?.mp h;rw[List.getElem?_take] at hm
 split at hm
 ·rw[List.getElem?_drop,Array.getElem?_toList] at hm;exact⟨i+m,by lia,by lia,hm⟩
 ·cases hm
theorem nU{xs:Array Keyed}{i:Nat}(h:i < xs.size):∃ p,xs[i]?=some p:=⟨xs[i],by rw[Array.getElem?_eq_getElem h]⟩
theorem St.Hc{xs:Array Keyed}{k l:Nat}(hk:k < xs.size)(hl:l<=k)(h:∀ i,l<=i->i < k->K xs k < K xs i):St (bubble xs k (k - l)).toList xs.toList:=by
 obtain⟨y,hy⟩:=nU hk;rw[i8 hy hl];have e:xs.toList=xs.toList.take l++(xs.toList.drop l).take (k - l)++y::xs.toList.drop (k+1):=by
  have hk':k < xs.toList.length:=by simpa using hk
  have ey:xs.toList[k]=y:=by
   have:xs.toList[k]?=some y:=by rw[Array.getElem?_toList];exact hy
   exact (List.getElem?_eq_some_iff.mp this).2
  rw[<- ey,<- List.drop_eq_getElem_cons hk',List.append_assoc];have:(xs.toList.drop l).take (k - l)++xs.toList.drop k=xs.toList.drop l:=by
   have:=List.take_append_drop (k - l) (xs.toList.drop l);rw[List.drop_drop,show l+(k - l)=k by lia] at this
   exact this
  rw[this,List.take_append_drop]
 have:=St.past (p:=xs.toList.take l) (m:=(xs.toList.drop l).take (k - l)) (r:=xs.toList.drop (k+1)) (y:=y) fun q hq=>by
  obtain⟨j,h1,h2,h3⟩:=kd hq;have:=h j h1 (by lia)
  rw[j7 h3,j7 hy] at this;lia
 rw[<- e] at this;exact this
def AS(n:Nat)(xs:Array Keyed)(a0:List Keyed):Prop:=St ((xs.toList.take n).reverse++xs.toList.drop n) a0
theorem AS.Ha{n:Nat}{xs:Array Keyed}{a0:List Keyed}(hn:n<=xs.size)(h:AS n xs a0):St (mirror xs 0 n ((n - 0) / 2)).toList a0:=by
 rw[dM (Nat.zero_le _) hn];have:xs.toList.take 0++((xs.toList.drop 0).take (n - 0)).reverse++xs.toList.drop n=(xs.toList.take n).reverse++xs.toList.drop n:=by simp
 rw[this];exact h
theorem AS.Cm{n:Nat}{xs:Array Keyed}{a0:List Keyed}(hn:n<=xs.size)(h:St xs.toList a0):AS n (mirror xs 0 n ((n - 0) / 2)) a0:=by
 unfold AS;rw[dM (Nat.zero_le _) hn];have hl:(xs.toList.take n).reverse.length=n:=by rw[List.length_reverse,List.length_take];simp;lia
 have e1:xs.toList.take 0++((xs.toList.drop 0).take (n - 0)).reverse++xs.toList.drop n=(xs.toList.take n).reverse++xs.toList.drop n:=by simp
 rw[e1,List.take_left' hl,List.drop_left' hl,List.reverse_reverse,List.take_append_drop];exact h
theorem AS.less{n:Nat}{xs:Array Keyed}{a0:List Keyed}(hn:n < xs.size)(h:AS n xs a0)(hl:∀ i,i < n->K xs n < K xs i):AS (n+1) xs a0:=by
 obtain⟨y,hy⟩:=nU hn;have hn':n < xs.toList.length:=by simpa using hn
 have ey:xs.toList[n]?=some y:=by rw[Array.getElem?_toList];exact hy
 have e1:(xs.toList.take (n+1)).reverse=y::(xs.toList.take n).reverse:=by rw[List.take_succ,ey];simp
 have e2:xs.toList.drop n=y::xs.toList.drop (n+1):=by rw[List.drop_eq_getElem_cons hn',(List.getElem?_eq_some_iff.mp ey).2]
 unfold AS at h ⊢;rw[e2] at h;rw[e1];refine St.trans ?_ h;exact St.past (p:=[]) (m:=(xs.toList.take n).reverse) (r:=xs.toList.drop (n+1)) (y:=y) fun q hq=>by
  have hq':q∈(xs.toList.drop 0).take n:=by simpa using List.mem_reverse.mp hq
  obtain⟨j,_,h2,h3⟩:=kd hq';have:=hl j (by lia)
  rw[j7 h3,j7 hy] at this;lia
theorem AS.same{n q:Nat}{xs:Array Keyed}{a0:List Keyed}(hn:n < xs.size)(hq:q+1<=n)(h:AS n (mirror xs (n - (q+1)) n ((n - (n - (q+1))) / 2)) a0)(hs:∀ i,i < n - (q+1)->K xs n < K xs i):AS (n+1) (mirror xs (n+1 - (q+1+1)) (n+1) ((n+1 - (n+1 - (q+1+1))) / 2)) a0:=by
 obtain⟨y,hy⟩:=nU hn;have hL:xs.toList.length=xs.size:=by simp
 have hn':n < xs.toList.length:=by lia
 have ey:xs.toList[n]?=some y:=by rw[Array.getElem?_toList];exact hy
 obtain⟨m,hm⟩:∃ m,n - (q+1)=m:=⟨_,rfl⟩;have hm2:n+1 - (q+1+1)=m:=by lia
 rw[hm] at h hs;rw[hm2];unfold AS at h ⊢;rw[dM (by lia) (by lia)] at h ⊢
 obtain⟨p,hp⟩:∃ p,p=xs.toList.take m:=⟨_,rfl⟩;obtain⟨S,hS⟩:∃ S,S=(xs.toList.drop m).take (n - m):=⟨_,rfl⟩;have hpl:p.length=m:=by rw[hp,List.length_take];lia
 have hSl:S.length=n - m:=by rw[hS,List.length_take,List.length_drop];lia
 have e1:(xs.toList.drop m).take (n+1 - m)=S++[y]:=by
  rw[show n+1 - m=(n - m)+1 by lia,List.take_succ,<- hS,List.getElem?_drop,show m+(n - m)=n by lia,ey];rfl
 have e2:xs.toList.drop n=y::xs.toList.drop (n+1):=by rw[List.drop_eq_getElem_cons hn',(List.getElem?_eq_some_iff.mp ey).2]
 rw[<- hp,<- hS,e2] at h;rw[<- hp,e1];have l1:(p++S.reverse).length=n:=by rw[List.length_append,List.length_reverse];lia
 have l2:(p++(S++[y]).reverse).length=n+1:=by rw[List.length_append,List.length_reverse,List.length_append];simp;lia
 rw[List.take_left' l1,List.drop_left' l1,List.reverse_append,List.reverse_reverse] at h;rw[List.take_left' l2,List.drop_left' l2,List.reverse_append,List.reverse_reverse];refine St.trans ?_ h;have:=St.past (p:=S) (m:=p.reverse) (r:=xs.toList.drop (n+1)) (y:=y) fun z hz=>by
  have hz':z∈(xs.toList.drop 0).take m:=by rw[List.drop_zero,<- hp];exact List.mem_reverse.mp hz
  obtain⟨j,_,h2,h3⟩:=kd hz';have:=hs j (by lia)
  rw[j7 h3,j7 hy] at this;lia
 simpa using this
theorem AS.one{xs:Array Keyed}{a0:List Keyed}(h:St xs.toList a0):AS 1 xs a0:=by
 unfold AS;have:(xs.toList.take 1).reverse++xs.toList.drop 1=xs.toList:=by cases xs.toList<;>rfl
 rw[this];exact h
theorem uU{xs:Array Keyed}{i j:Nat}(hj:j<=xs.size)(he:∀ k,i<=k->k < j->K xs k=K xs (j - 1))(k:Nat):K (mirror xs i j ((j - i) / 2)) k=K xs k:=by
 have e:=getElem?_mirror_all (i:=i) hj k;by_cases h1:i<=k/\k < j
 ·rw[if_pos h1] at e;rw[K_congr e,he _ (by lia) (by lia),he k h1.1 h1.2]
 ·rw[if_neg h1] at e;exact K_congr e
theorem e_(xs:Array Keyed)(n:Nat):mirror xs (n - 1) n ((n - (n - 1)) / 2)=xs:=by
 have:(n - (n - 1)) / 2=0:=by lia
 rw[this];rfl
end SS
namespace SS
section
variable {prog:Program} {w:World} {A:Around} {E:Value->Shared->Prop} {s:Shared} {a₀:Array Keyed}
def zY(xs:Array Keyed)(n:Nat):Prop:=∀ i j,i<=j->j < n->K xs j<=K xs i
theorem p_{st:SortSt}{n r:Nat}{Q:Option Nat->SortSt->Prop}(h0:IntKeys a₀)(hr:r<=a₀.size)(h1:1<=n)(hnr:n<=r)(hB:SBase a₀ st)(hf:zY (arrOf st) n)(ha:AS n (arrOf st) a₀.toList)
  (h:∀ m st',SBase a₀ st'->1<=m->m<=r->SortedTo (arrOf st') m->St (arrOf st').toList a₀.toList->Q (some m) st'):wpS (model prog w) A E s (tail3 n r) Q st:=by
 unfold tail3;have hz:n<=(arrOf st).size:=by have:=hB.size;lia
 refine wpS_bind (wpS_reverse ?_);have hB2:=hB.setArr (mirror_perm (arrOf st) 0 n ((n - 0) / 2));have hs2:SortedTo (mirror (arrOf st) 0 n ((n - 0) / 2)) n:=fun i j hij hj=>by
  have ei:=K_congr ((getElem?_mirror_all (i:=0) hz i).trans (if_pos ⟨Nat.zero_le _,by lia⟩))
  have ej:=K_congr ((getElem?_mirror_all (i:=0) hz j).trans (if_pos ⟨Nat.zero_le _,hj⟩));rw[ei,ej];exact hf _ _ (by lia) (by lia)
 refine wpS_bind (wpS_ascLoop h0 hr h1 hnr hB2 hs2 fun m m1 m2 m3 _=>?_);exact wpS_pure (h m _ hB2 (by lia) m2 m3 (AS.Ha hz ha))
def DI(a₀:Array Keyed)(x q:Nat)(st:SortSt):Prop:=SBase a₀ st/\zY (arrOf st) x/\q+1<=x/\(∀ i,x - (q+1)<=i->i < x->K (arrOf st) i=K (arrOf st) (x - 1))/\(∀ i,i < x - (q+1)->K (arrOf st) (x - 1) < K (arrOf st) i)/\AS x (mirror (arrOf st) (x - (q+1)) x ((x - (x - (q+1))) / 2)) a₀.toList
theorem xU{st:SortSt}{n r:Nat}{Q:DescSt->SortSt->Prop}(h0:IntKeys a₀)(hr:r<=a₀.size)(hnr:n<=r)(hI:DI a₀ n 0 st)
  (h:∀ m q st',n<=m->m<=r->DI a₀ m q st'->Q (none,m,q) st'):wpS (model prog w) A E s (descLoop n r) Q st:=by
 unfold descLoop;refine wpS_forRange (I:=fun x c st'=>∃ q,c=(none,x,q)/\DI a₀ x q st') ?_ ?_ ⟨0,rfl,hI⟩
 ·rintro x c st' hx hxr ⟨q,rfl,hB,hf,hq,he,hl,ha⟩;dsimp only;have hz:(arrOf st').size=a₀.size:=hB.size;have hx1:1<=x:=by lia
  refine wpS_bind (wpS_ltK hB h0 (by lia) (by lia) ?_)
  have lastK:∀ i,i < x->K (arrOf st') (x - 1)<=K (arrOf st') i:=fun i hi=>hf i (x - 1) (by lia) (by lia)
  by_cases c1:K (arrOf st') x < K (arrOf st') (x - 1)
  ·rw[decide_eq_true c1];simp only[if_true];have key:∀ ys:Array Keyed,ys.size=a₀.size->(∀ k,K ys k=K (arrOf st') k)->AS x ys a₀.toList->zY ys (x+1)/\(∀ i,i < x->K ys x < K ys i)/\AS (x+1) ys a₀.toList:=fun ys hys hk hA=>by
    have hlt:∀ i,i < x->K ys x < K ys i:=fun i hi=>by
     rw[hk,hk];have:=lastK i hi;lia
    refine⟨fun i j hij hj=>?_,hlt,AS.less (by lia) hA hlt⟩
    by_cases hj2:j < x
    ·rw[hk,hk];exact hf i j hij hj2
    ·obtain rfl:j=x:=by lia
     by_cases hi2:i=j
     ·subst hi2;exact Int.le_refl _
     ·exact Int.le_of_lt (hlt i (by lia))
   have fin:∀ ys:Array Keyed,ys.Perm (arrOf st')->(∀ k,K ys k=K (arrOf st') k)->AS x ys a₀.toList->DI a₀ (x+1) 0 (setArr st' ys):=fun ys hp hk hA=>by
    obtain⟨k1,k2,k3⟩:=key ys (by rw[hp.size_eq,hz]) hk hA
    refine⟨hB.setArr hp,k1,by lia,fun i i1 i2=>?_,fun i i1=>?_,?_⟩
    ·obtain rfl:i=x:=by lia
     rfl
    ·exact k2 i (by lia)
    ·show AS (x+1) (mirror ys (x+1 - 1) (x+1) ((x+1 - (x+1 - 1)) / 2)) a₀.toList;rw[e_];exact k3
   by_cases c2:q > 0
   ·rw[if_pos c2];exact wpS_bind (wpS_reverse (wpS_pure ⟨0,rfl,fin _ (mirror_perm _ _ _ _) (fun k=>uU (by lia) he k) ha⟩))
   ·rw[if_neg c2];obtain rfl:q=0:=by lia
    rw[e_] at ha;exact wpS_pure ⟨0,rfl,fin (arrOf st') (Array.Perm.refl _) (fun _=>rfl) ha⟩
  ·rw[decide_eq_false c1];simp only[Bool.false_eq_true,if_false];refine wpS_bind (wpS_ltK hB h0 (by lia) (by lia) ?_)
   by_cases c3:K (arrOf st') (x - 1) < K (arrOf st') x
   ·rw[decide_eq_true c3];simp only[if_true];exact wpS_pure (h x q st' hx (by lia) ⟨hB,hf,hq,he,hl,ha⟩)
   ·rw[decide_eq_false c3];simp only[Bool.false_eq_true,if_false];have ex:K (arrOf st') x=K (arrOf st') (x - 1):=by lia
    refine wpS_pure ⟨q+1,rfl,hB,fun i j hij hj=>?_,by lia,fun i i1 i2=>?_,fun i i1=>?_,AS.same (by lia) hq ha fun i hi=>by rw[ex];exact hl i hi⟩
    ·by_cases hj2:j < x
     ·exact hf i j hij hj2
     ·obtain rfl:j=x:=by lia
      by_cases hi2:i=j
      ·subst hi2;exact Int.le_refl _
      ·rw[ex];exact lastK i (by lia)
    ·show K (arrOf st') i=K (arrOf st') x;by_cases hi2:i=x
     ·rw[hi2]
     ·rw[ex];exact he i (by lia) (by lia)
    ·show K (arrOf st') x < K (arrOf st') i;rw[ex];exact hl i (by lia)
 ·rintro c st' ⟨q,rfl,hD⟩;rw[show max n r=r by lia] at hD ⊢
  exact h r q st' hnr (Nat.le_refl _) hD
theorem fY{st:SortSt}{n r:Nat}{Q:Option Nat->SortSt->Prop}(h0:IntKeys a₀)(hr:r<=a₀.size)(hnr:n+1<=r)(hI:DI a₀ (n+1) 0 st)
  (h:∀ m st',SBase a₀ st'->1<=m->m<=r->SortedTo (arrOf st') m->St (arrOf st').toList a₀.toList->Q (some m) st'):wpS (model prog w) A E s (descPart n r) Q st:=by
 unfold descPart;refine wpS_bind (wpS_lift (wpAny_rule ⟨rfl,?_⟩));refine wpS_bind (xU h0 hr hnr hI fun m q st' m1 m2 ⟨hB,hf,hq,he,hl,ha⟩=>?_);dsimp only;have hz:(arrOf st').size=a₀.size:=hB.size;by_cases c:q > 0
 ·rw[if_pos c];refine wpS_bind (wpS_reverse (p_ h0 hr (by lia) m2 (hB.setArr (mirror_perm _ _ _ _)) ?_ ha h))
  intro i j hij hj;have k:=uU (xs:=arrOf st') (i:=m - (q+1)) (j:=m) (by lia) he
  show K (mirror (arrOf st') (m - (q+1)) m ((m - (m - (q+1))) / 2)) j<=K (mirror (arrOf st') (m - (q+1)) m ((m - (m - (q+1))) / 2)) i;rw[k,k];exact hf i j hij hj
 ·rw[if_neg c];obtain rfl:q=0:=by lia
  rw[e_] at ha;exact p_ h0 hr (by lia) m2 hB hf ha h
theorem Br{st:SortSt}{r:Nat}{Q:Option Nat->SortSt->Prop}(h0:IntKeys a₀)(hr:r<=a₀.size)(h1:1<=r)(hB:SBase a₀ st)(hS:St (arrOf st).toList a₀.toList)
  (h:∀ m st',SBase a₀ st'->1<=m->m<=r->SortedTo (arrOf st') m->St (arrOf st').toList a₀.toList->Q (some m) st'):wpS (model prog w) A E s (countRun' 0 r) Q st:=by
 rw[countRun0_eq];have hz:(arrOf st).size=a₀.size:=hB.size;have h11:SortedTo (arrOf st) 1:=fun i j hij hj=>by
  obtain rfl:i=j:=by lia
  exact Int.le_refl _
 refine wpS_bind (wpS_ascLoop h0 hr (Nat.le_refl 1) h1 hB h11 fun n n1 n2 n3 n4=>?_);dsimp only;by_cases c0:n=r
 ·rw[if_pos (by simpa using c0)]
  exact wpS_pure (h n st hB n1 n2 n3 hS)
 ·rw[if_neg (by simpa using c0)]
  have hlt:=n4.resolve_left c0;by_cases c1:n > 1
  ·rw[if_pos c1];refine wpS_bind (wpS_ltK hB h0 (by lia) (by lia) ?_)
   by_cases c2:K (arrOf st) 0 < K (arrOf st) (n - 1)
   ·rw[decide_eq_true c2];simp only[if_true];exact wpS_pure (h n st hB n1 n2 n3 hS)
   ·rw[decide_eq_false c2];simp only[Bool.false_eq_true,if_false];have hall:∀ k,0<=k->k < n->K (arrOf st) k=K (arrOf st) (n - 1):=fun k _ hk=>by
     have a1:=n3 0 k (by lia) hk
     have a2:=n3 k (n - 1) (by lia) (by lia)
     lia
    have km:=uU (xs:=arrOf st) (i:=0) (j:=n) (by lia) hall
    have kn:∀ i,i < n->K (mirror (arrOf st) 0 n ((n - 0) / 2)) n < K (mirror (arrOf st) 0 n ((n - 0) / 2)) i:=fun i hi=>by rw[km,km,hall i (Nat.zero_le _) hi];exact hlt
    refine wpS_bind (wpS_reverse (fY h0 hr (by lia) ⟨hB.setArr (mirror_perm _ _ _ _),fun i j hij hj=>?_,by lia,fun i i1 i2=>?_,fun i i1=>?_,?_⟩ h))
    ·show K (mirror (arrOf st) 0 n ((n - 0) / 2)) j<=K (mirror (arrOf st) 0 n ((n - 0) / 2)) i;by_cases hj2:j < n
     ·rw[km,km,hall i (Nat.zero_le _) (by lia),hall j (Nat.zero_le _) hj2];exact Int.le_refl _
     ·obtain rfl:j=n:=by lia
      by_cases hi2:i=j
      ·subst hi2;exact Int.le_refl _
      ·exact Int.le_of_lt (kn i (by lia))
    ·obtain rfl:i=n:=by lia
     rfl
    ·exact kn i (by lia)
    ·show AS (n+1) (mirror (mirror (arrOf st) 0 n ((n - 0) / 2)) (n+1 - 1) (n+1) ((n+1 - (n+1 - 1)) / 2)) a₀.toList;rw[e_];exact AS.less (by rw[mirror_size];lia) (AS.Cm (by lia) hS) kn
  ·rw[if_neg c1];obtain rfl:n=1:=by lia
   have k1:∀ i,i < 1->K (arrOf st) 1 < K (arrOf st) i:=fun i hi=>by
    obtain rfl:i=0:=by lia
    exact hlt
   refine fY h0 hr (by lia) ⟨hB,fun i j hij hj=>?_,by lia,fun i i1 i2=>?_,fun i i1=>k1 i (by lia),?_⟩ h
   ·by_cases hi2:i=j
    ·subst hi2;exact Int.le_refl _
    ·obtain rfl:i=0:=by lia
     obtain rfl:j=1:=by lia
     exact Int.le_of_lt hlt
   ·obtain rfl:i=1:=by lia
    rfl
   ·show AS (1+1) (mirror (arrOf st) (1+1 - 1) (1+1) ((1+1 - (1+1 - 1)) / 2)) a₀.toList;rw[e_];exact AS.less (by lia) (AS.one hS) k1
end
end SS
namespace SS
section
variable {prog:Program} {w:World} {A:Around} {E:Value->Shared->Prop} {s:Shared} {a₀:Array Keyed}
theorem Ad{st:SortSt}{n ok:Nat}{Q:Bool->SortSt->Prop}(h0:IntKeys a₀)(hn:n<=a₀.size)(aS:ok<=n)(hB:SBase a₀ st)(hs:SortedTo (arrOf st) ok)(hS:St (arrOf st).toList a₀.toList)
  (h:∀ st',SBase a₀ st'->SortedTo (arrOf st') n->St (arrOf st').toList a₀.toList->Q true st'):wpS (model prog w) A E s (binarySort' 0 n ok) Q st:=by
 rw[binarySort'_eq];simp only[Nat.zero_add];refine wpS_bind (wpS_mono (wpS_forRange (I:=fun k c st'=>c=(none,())/\SBase a₀ st'/\SortedTo (arrOf st') (min k n)/\St (arrOf st').toList a₀.toList) (Q:=fun c st'=>c=(none,())/\SBase a₀ st'/\SortedTo (arrOf st') n/\St (arrOf st').toList a₀.toList) ?stp ?end_ ?ini) ?pst)
 case pst =>
  rintro c st' ⟨rfl,b1,b2,b3⟩;exact wpS_pure (h st' b1 b2 b3)
 case stp =>
  rintro k c st1 hk1 hk2 ⟨rfl,hB1,hs1,hS1⟩;have hz:(arrOf st1).size=a₀.size:=hB1.size;rw[show min k n=k by lia] at hs1
  refine wpS_bind (wpS_mono (wpS_forRange (I:=fun x c dQ=>dQ=st1/\∃ l r,c=(none,l,r)/\l<=r/\r<=k/\r - l<=k - x/\(∀ i,i < l->K (arrOf st1) i<=K (arrOf st1) k)/\∀ i,r<=i->i < k->K (arrOf st1) k < K (arrOf st1) i) (Q:=fun c dQ=>dQ=st1/\∃ l r,c=(none,l,r)/\l<=k/\(∀ i,i < l->K (arrOf st1) i<=K (arrOf st1) k)/\∀ i,l<=i->i < k->K (arrOf st1) k < K (arrOf st1) i) ?stp2 ?end2 ⟨rfl,0,k,rfl,by lia,by lia,by lia,fun i hi=>by lia,fun i i1 i2=>by lia⟩) ?pst2)
  case pst2 =>
   rintro c dQ ⟨rfl,l,r,rfl,hl,hlo,hhi⟩;show wpS _ _ _ _ (do moveDown' k l;pure (ForInStep.yield (none,()))) _ _
   rw[moveDown'_eq];refine wpS_bind (wpS_modify (wpS_pure ⟨rfl,hB1.setArr (bubble_perm _ _ _),?_,(St.Hc (by lia) hl hhi).trans hS1⟩))
   rw[show min (k+1) n=k+1 by lia]
   intro i j hij hj;show K (bubble (arrOf dQ) k (k - l)) i<=K (bubble (arrOf dQ) k (k - l)) j;have hkb:∀ m,K (bubble (arrOf dQ) k (k - l)) m=if m=l then K (arrOf dQ) k else if l < m/\m<=k then K (arrOf dQ) (m - 1) else K (arrOf dQ) m:=fun m=>by
    rw[K_bubble (by lia) (by lia),show k - (k - l)=l by lia]
   rw[hkb,hkb];by_cases ci:i=l
   ·rw[if_pos ci];by_cases cj:j=l
    ·rw[if_pos cj];exact Int.le_refl _
    ·rw[if_neg cj,if_pos (by lia)]
     exact Int.le_of_lt (hhi (j - 1) (by lia) (by lia))
   ·rw[if_neg ci];by_cases ci2:l < i/\i<=k
    ·rw[if_pos ci2,if_neg (by lia),if_pos (by lia)]
     exact hs1 (i - 1) (j - 1) (by lia) (by lia)
    ·rw[if_neg ci2];by_cases cj:j=l
     ·rw[if_pos cj];exact hlo i (by lia)
     ·rw[if_neg cj];by_cases cj2:l < j/\j<=k
      ·rw[if_pos cj2];exact hs1 i (j - 1) (by lia) (by lia)
      ·rw[if_neg cj2];exact hs1 i j hij (by lia)
  case stp2 =>
   rintro x c dQ _ hx ⟨rfl,l,r,rfl,h1,h2,h3,hlo,hhi⟩;dsimp only;by_cases cg:l >= r
   ·rw[if_pos cg];exact wpS_pure ⟨rfl,l,r,rfl,by lia,hlo,fun i i1 i2=>hhi i (by lia) i2⟩
   ·rw[if_neg cg];refine wpS_bind (wpS_ltK hB1 h0 (by lia) (by lia) ?_)
    by_cases cl:K (arrOf dQ) k < K (arrOf dQ) ((l+r) / 2)
    ·rw[decide_eq_true cl];simp only[if_true];refine wpS_pure ⟨rfl,l,(l+r) / 2,rfl,by lia,by lia,by lia,hlo,fun i i1 i2=>?_⟩
     have:=hs1 ((l+r) / 2) i i1 i2;lia
    ·rw[decide_eq_false cl];simp only[Bool.false_eq_true,if_false];refine wpS_pure ⟨rfl,(l+r) / 2+1,r,rfl,by lia,by lia,by lia,fun i i1=>?_,hhi⟩
     have:=hs1 i ((l+r) / 2) (by lia) (by lia)
     lia
  case end2 =>
   rintro c dQ ⟨rfl,l,r,rfl,h1,h2,h3,hlo,hhi⟩;exact⟨rfl,l,r,rfl,by lia,hlo,fun i i1 i2=>hhi i (by lia) i2⟩
 case end_ =>
  rintro c st' ⟨hc,b1,b2,b3⟩;rw[show min (max (max ok 1) n) n=n by lia] at b2
  exact⟨hc,b1,b2,b3⟩
 case ini =>
  refine⟨rfl,hB,fun i j hij hj=>?_,hS⟩;by_cases z:ok=0
  ·obtain rfl:i=j:=by lia
   exact Int.le_refl _
  ·exact hs i j hij (by lia)
theorem yq{st:SortSt}{Q:Unit->SortSt->Prop}(h0:IntKeys a₀)(hB:SBase a₀ st)(hS:St (arrOf st).toList a₀.toList)(h2:2<=a₀.size)(h64:a₀.size < 64)
  (h:∀ st',(arrOf st').Perm a₀->failedOf st'=none->SortedTo (arrOf st') a₀.size->St (arrOf st').toList a₀.toList->Q () st'):wpS (model prog w) A E s sortRuns' Q st:=by
 rw[sortRuns'_eq];refine wpS_bind (wpS_get ?_);dsimp only;have hmr:minRun' a₀.size a₀.size 0=a₀.size:=by
  obtain⟨f,hf⟩:∃ f,a₀.size=f+1:=⟨a₀.size - 1,by lia⟩
  have e:minRun' (f+1) a₀.size 0=a₀.size:=by rw[minRun'_succ,if_pos h64];rfl
  rwa [<- hf] at e
 simp only[hB.size,hmr]
 let D:SortSt->Prop:=fun st'=>(arrOf st').Perm a₀/\failedOf st'=none/\pendingOf st'=#[(0,a₀.size,0)]/\SortedTo (arrOf st') a₀.size/\St (arrOf st').toList a₀.toList
 have mk:∀ st',SBase a₀ st'->SortedTo (arrOf st') a₀.size->St (arrOf st').toList a₀.toList->D (setPending st' ((pendingOf st').push (0,a₀.size,0))):=fun st' b1 b2 b3=>⟨b1.perm,b1.failed,by show (pendingOf st').push _=_;rw[b1.pend];rfl,b2,b3⟩
 refine wpS_bind (wpS_mono (wpS_forRange (I:=fun x c st'=>(x=0/\c=(none,0)/\SBase a₀ st'/\St (arrOf st').toList a₀.toList)\/(1<=x/\c=(none,a₀.size)/\D st')) (Q:=fun c st'=>c=(none,a₀.size)/\D st') ?stp ?end_ (.inl ⟨rfl,rfl,hB,hS⟩)) ?pst)
 case pst =>
  rintro c st1 ⟨rfl,hD⟩;dsimp only;refine wpS_bind (wpS_mono (wpS_forRange (I:=fun _ c dQ=>dQ=st1/\c=(none,())) (Q:=fun c dQ=>dQ=st1/\c=(none,())) ?stp2 (fun _ _ z=>z) ⟨rfl,rfl⟩) ?pst2)
  case pst2 =>
   rintro c dQ ⟨rfl,rfl⟩;exact wpS_pure (h _ hD.1 hD.2.1 hD.2.2.2.1 hD.2.2.2.2)
  case stp2 =>
   rintro x c dQ _ _ ⟨rfl,rfl⟩;refine wpS_bind (wpS_get ?_);rw[if_pos (by rw[hD.2.2.1];exact Nat.le_refl 1)]
   exact wpS_pure ⟨rfl,rfl⟩
 case stp =>
  rintro x c st1 _ hx (⟨rfl,rfl,b1,b2⟩ | ⟨hx1,rfl,hD⟩)
  ·dsimp only;rw[if_neg (by lia)]
   simp only[Nat.sub_zero,Nat.min_self,Nat.zero_add];refine wpS_bind (Br h0 (Nat.le_refl _) (by lia) b1 b2 fun m dQ d1 m1 m2 d2 d3=>?_)
   dsimp only;have fin:∀ st3,SBase a₀ st3->SortedTo (arrOf st3) a₀.size->St (arrOf st3).toList a₀.toList->(pendingOf st3).back?=none:=fun st3 e _ _=>by rw[e.pend];rfl
   by_cases cm:m < a₀.size
   ·rw[if_pos cm];refine wpS_bind (wpS_lift (wpAny_rule ⟨rfl,?_⟩));refine wpS_bind (Ad h0 (Nat.le_refl _) m2 d1 d2 d3 fun st3 e1 e2 e3=>?_);simp only[Bool.not_true,Bool.false_eq_true,if_false];refine wpS_bind (wpS_get ?_);rw[fin st3 e1 e2 e3];exact wpS_bind (wpS_modify (wpS_pure (.inr ⟨by lia,rfl,mk st3 e1 e2 e3⟩)))
   ·rw[if_neg cm];obtain rfl:m=a₀.size:=by lia
    refine wpS_bind (wpS_get ?_);rw[fin dQ d1 d2 d3];exact wpS_bind (wpS_modify (wpS_pure (.inr ⟨by lia,rfl,mk dQ d1 d2 d3⟩)))
  ·dsimp only;rw[if_pos (Nat.le_refl _)];exact wpS_pure ⟨rfl,hD⟩
 case end_ =>
  rintro c st1 (⟨hx,_⟩ | ⟨_,hc,hD⟩)
  ·lia
  ·exact⟨hc,hD⟩
end
end SS
noncomputable abbrev BV (qual:Str) (scope:Scope) (L f:Addr) (cd:Value) (cl:List (Str×Addr)):Env:=PySem.W.envX qual scope L f cd cl
def oW(X:Cx)(A:Around)(N:List Str)(qual:Str)(scope:Scope)(f:Addr)(cd:Value)(cl:List (Str×Addr))(s:Shared)(H:Hp):Cx where
 prog:=X.prog
 w:=X.w
 K:=X.K
 mg:=X.mg
 base:=X.base
 A:=A.deeper (BV qual scope s.heap.objs.size f cd cl)
 N:=N
 s₀:=s
 H₀:=H
 env:=BV qual scope s.heap.objs.size f cd cl
 outer:=X.stack
 stack:=BV qual scope s.heap.objs.size f cd cl::X.stack
 ex:=[]
 calm:=true
 fn:=fun _=>false
 pn:=[]
 xe:=fun _ _=>False
section
variable {X:Cx} {pins:List (Addr×Obj)} {σ:St} {H:Hp} {s:Shared}
theorem y2(I:Inv X pins σ H s){A:Around}(hA:A.frames=some X.stack)(hd:A.handled=none){x qual:Str}{N:List Str}{σf:List (Option V)}{v:V}{u:Value}{scope:Scope}{f:Addr}{cd:Value}{cl:List (Str×Addr)}{h₁:Heap}{tk:Nat}
  (hk:scope.kind=.function) (rv:RelV v u) (hloc:scope.names.lookup x=some .local) (hns:h₁.Ns s.heap.objs.size (fun y=>[(x,u)].reverse.lookup y)) (old:∀ b o,s.heap.get? b=some o->h₁.get? b=some o)
  (hlen:σf.length=N.length) (hcl:∀ y c,cl.lookup y=some c->X.env.cells.lookup y=some c) (hhas:∀ y,(scope.names.lookup y=some .cell\/scope.names.lookup y=some .free)->∃ c,cl.lookup y=some c)
  (hf:∀ (i:Nat) (y:Str) (v:V),N[i]?=some y->σf[i]?=some (some v)->scope.names.lookup y=some .free/\∃ c u,cl.lookup y=some c/\s.heap.IsCell c (some u)/\RelV v u) :
  Inv (oW X A (x::N) qual scope f cd cl s H) [] (some v::σf) H { s with heap:=h₁,toks:=tk }:=by
 have noA:∀ b:Addr,b∉(oW X A (x::N) qual scope f cd cl s H).ex:=fun b z=>absurd (show b∈([]:List Addr) from z) (by simp)
 refine⟨⟨I.ok.mod,hk,rfl,rfl,Nat.le_refl _,fun y z c e1 e2=>I.ok.inj y z c (hcl y c e1) (hcl z c e2),hhas,fun y c z _=>(by cases z),fun _=>hd,Around.frames_deeper hA,.inr ⟨rfl,rfl⟩,fun b z=>absurd z (noA b),I.bs,Nat.le_trans I.ok.xQ I.sz,fun b _ _=>noA b,fun b z=>absurd z (noA b),I.stack,I.gE,I.ok.tabs.un I.base⟩,
  rfl,I.bare,Un.kept old,⟨_,hns,fun i y w e1 e2 e3=>?_⟩,fun y c e=>?_,I.aS.fresh (Nat.le_refl _),fun y c e=>I.cQ y c (hcl y c e),fun p hp=>absurd (show p∈([]:List (Addr×Obj)) from hp) (by simp),I.aS.kept old,?_⟩
 ·cases i with
  | zero =>
   have e1':some x=some y:=e1;have e2':some (some v)=some (some w):=e2
   cases e1';cases e2'
   exact⟨u,rv,.inl ⟨hloc,by simp⟩⟩
  | succ i =>
   obtain⟨h1,c,u',h2,h3,h4⟩:=hf i y w e1 e2;obtain⟨o,ho,hd'⟩:=h3;exact⟨u',h4,.inr ⟨.inr h1,c,h2,o,old _ _ ho,hd'⟩⟩
 ·obtain⟨v',o,ho,hd'⟩:=I.cell y c (hcl y c e);exact⟨v',o,old _ _ ho,hd'⟩
 ·show (some v::σf).length=(x::N).length;rw[List.length_cons,List.length_cons,hlen]
theorem wG(I:Inv X pins σ H s){A:Around}{k:Nat}(hr:bo (k+1) A)(hA:A.frames=some X.stack){x qual:Str}{N:List Str}{σf:List (Option V)}{v:V}{u:Value}{scope:Scope}{params:Arguments}{body:Expr}{f c':Addr}{pm ctv:Value}{cl:List (Str×Addr)}{t:TE}{Q:VK}
  (hk:scope.kind=.function) (hco:scope.isCoroutine=false) (hgen:scope.isGenerator=false) (hcell:∀ y∈scope.names,y.2≠.cell) (rv:RelV v u) (hloc:scope.names.lookup x=some .local)
  (ho:s.heap.get? f=some (PySem.W.kla_obj "<lambda>" qual params body scope cl pm c' ctv)) (hcd:s.heap.CodeRec (.ref c') qual)
  (hbind:∀ u,bindArgs (PySem.W.kla_fn "<lambda>" qual params body scope cl pm (.ref c') ctv) ⟨[u],[]⟩=pure [(x,u)])
  (hlen:σf.length=N.length) (hcl:∀ y c,cl.lookup y=some c->X.env.cells.lookup y=some c) (hhas:∀ y,(scope.names.lookup y=some .cell\/scope.names.lookup y=some .free)->∃ c,cl.lookup y=some c)
  (hf:∀ (i:Nat) (y:Str) (v:V),N[i]?=some y->σf[i]?=some (some v)->scope.names.lookup y=some .free/\∃ c u,cl.lookup y=some c/\s.heap.IsCell c (some u)/\RelV v u)
  (hb:PE (oW X A (x::N) qual scope f (.ref c') cl s H) body t) (hq:t (some v::σf) H Q) :
  wpAny (model X.prog X.w) A (call (.ref f) [u]) (EP X pins σ Q) (fun _ _=>False) s:=by
 refine wpAny_call (PySem.W.kla_callFunE hr.depth ho rfl hco hgen rfl hcd ?_);rw[hbind];refine wpAny_pure (wpAny_newFunctionEnv hcell (fun y hy=>by rw[List.mem_singleton.mp hy];exact hloc) (fun h₁ hns hsb=>⟨I.nolimit.fresh _ hsb,?_⟩) hk)
 have old:∀ b o,s.heap.get? b=some o->h₁.get? b=some o:=fun b o e=>hsb.extBut b o (Nat.ne_of_lt (Heap.lt_size e)) (Heap.get?_push_of_some _ e);have J:=y2 (tk:=s.toks+1) (qual:=qual) (f:=f) (cd:=.ref c') I hA hr.hd hk rv hloc hns old hlen hcl hhas hf;refine PySem.W.kla_codeExpr (wpAny_mono (hb [] _ _ H Q J hq) (fun w s' h=>?_) fun _ _ h=>h.elim);obtain⟨v',H',J',r',q'⟩:=h;exact I.after ⟨v',H',J'.os,J'.bare,J'.base,J'.aS,r',q'⟩
end
inductive cW:Hp->Hp->Prop
 | refl {H:Hp}:cW H H
 | more {H H1:Hp} {p:Addr} {o:HO}:cW H H1->H1 p=none->cW H (upd H1 p o)
theorem cW.same{H H1:Hp}(g:cW H H1):bC H H1:=by
 induction g with
 | refl=>exact bC.refl _
 | more g n ih=>exact fun b o e=>by rw[ae (ak (ih b o e) n)];exact ih b o e
theorem cW.trans{H H1 H2:Hp}(a:cW H H1)(b:cW H1 H2):cW H H2:=by
 induction b with
 | refl=>exact a
 | more _ n ih=>exact .more ih n
theorem gr{i j:Int}{ti tj:Tok}{c:Value}:∀ l:List Value,TriplesOk l->TriplesOk (l++[.int i ti,.int j tj,c])
 | [],_=>trivial
 | .int _ _::.int _ _::_::r,h=>gr r (show TriplesOk r from h)
theorem jI{p:Pos}{i j:Int}{ti tj:Tok}{c cv:Value}:∀ l:List Value,TriplesOk l->codeAmong p (l++[.int i ti,.int j tj,c])=some cv->codeAmong p l=some cv\/cv=c
 | [],_,e=>by
  have e':(if (i == p.line && j == p.col)=true then some c else codeAmong p [])=some cv:=e
  by_cases z:(i == p.line && j == p.col)=true
  ·rw[if_pos z] at e';cases e';exact .inr rfl
  ·rw[if_neg z] at e';cases e'
 | .int a ta::.int b tb::d::r,h,e=>by
  have e':(if (a == p.line && b == p.col)=true then some d else codeAmong p (r++[.int i ti,.int j tj,c]))=some cv:=e
  show (if (a == p.line && b == p.col)=true then some d else codeAmong p r)=some cv\/_
  by_cases z:(a == p.line && b == p.col)=true
  ·rw[if_pos z] at e' ⊢;exact .inl e'
  ·rw[if_neg z] at e' ⊢;exact jI r (show TriplesOk r from h) e'
theorem pN(q:Str)(more:Array Value):wq (#[.str q 0]++more)=q:=by
 unfold wq;rw[Array.toList_append];rfl
structure gu (H:Hp) (f:Addr) (q:Str) (params:Arguments) (body:Expr) (scope:Scope) (cl:List (Str×Addr)) (c':Addr) (pm ctv:Value):Prop where
 fn:H f=some (.gF (PySem.W.kla_obj "<lambda>" q params body scope cl pm c' ctv) (.own f))
 cd:zH H q (.ref c')
section
variable {X:Cx} {pins:List (Addr×Obj)} {σ:St} {H:Hp} {s:Shared} {E:Value->Shared->Prop}
theorem gu.up{H1:Hp}{f c':Addr}{q:Str}{params:Arguments}{body:Expr}{scope:Scope}{cl:List (Str×Addr)}{pm ctv:Value}(x:gu H f q params body scope cl c' pm ctv)(g:∀ b o u,H b=some (.gF o u)->H1 b=some (.gF o u)):gu H1 f q params body scope cl c' pm ctv:=
 ⟨g _ _ _ x.fn,let ⟨c,oc,vs,t,e1,e2,e3⟩:=x.cd;⟨c,oc,vs,t,e1,g _ _ _ e2,e3⟩⟩
theorem gu.get{f c':Addr}{q:Str}{params:Arguments}{body:Expr}{scope:Scope}{cl:List (Str×Addr)}{pm ctv:Value}(x:gu H f q params body scope cl c' pm ctv)(I:Inv X pins σ H s):
  s.heap.get? f=some (PySem.W.kla_obj "<lambda>" q params body scope cl pm c' ctv)/\s.heap.CodeRec (.ref c') q:=by
 obtain⟨c,oc,vs,t,e1,e2,e3,e4⟩:=x.cd;exact⟨(I.aS f _ x.fn).1,c,oc,vs,t,e1,(I.aS c _ e2).1,e3,e4⟩
theorem Inv.wk{f:Addr}{o:Obj}{t':Nat}{h':Heap}(I:Inv X pins σ H s)(k:∀ b u,s.heap.get? b=some u->h'.get? b=some u)(hp:s.heap.objs.size<=f)(e:h'.get? f=some o):Inv X pins σ (upd H f (.gF o (.own f))) { s with heap:=h',toks:=t' }:=
 I.laid k hp ⟨e,o,e⟩
theorem wK(I:Inv X pins σ H s){x:Str}{c P:Addr}(hx:x∈cF)(ht:PySem.W.tabIn X.K x=some (c,P))(hcode:X.env.code=.ref c)(hq:X.env.qual=x++".<locals>."){params:Arguments}{body:Expr}{scope:Scope}{pos:Pos}{cl:List (Str×Addr)}{Q:Value->Shared->Prop}
  (hdef:defaultsOf params X.env=([],[])) (hcl:closureFor scope X.env=pure cl)
  (h:∀ f c' pm ctv H1 s1,cW H H1->Inv X pins σ H1 s1->gu H1 f ((x++".<locals>.")++"<lambda>") params body scope cl c' pm ctv->Q (.ref f) s1) :
  wpAny (model X.prog X.w) X.A (eval (.Lambda params body scope pos) X.env) Q E s:=by
 have hm:(c,P,(x++".<locals>.")++"<lambda>")∈b8 X.K:=List.mem_filterMap.mpr ⟨x,hx,by rw[ht];rfl⟩
 obtain⟨more,hP⟩:=(I.ok.tabs.un I.base) _ hm;have C:PySem.W.CodeHd s.heap c P:=(I.ok.mod.codes _ hm).keeps I.bk;obtain⟨qs,eP,tr,fa⟩:=I.aS P _ hP;have hns:=I.ok.mod.glob.keeps I.bk;have hgP:mainGlobals≠P:=fun z=>by
  obtain⟨o,es,ep,e,_⟩:=I.ok.mod.glob;have:=(I.bs _ _ e).2;rw[z,hP] at this;cases this
 have hb:s.heap.BuiltinsAt X.mg P:=by
  obtain⟨bm,ob,b1,b2,b3,b4,b5⟩:=I.ok.mod.bm;refine⟨bm,ob,b1,b2,fun z=>?_,fun z=>?_,I.bk _ _ b3,b4,b5⟩
  ·obtain⟨o,es,ep,e,hd,_⟩:=I.ok.mod.glob;rw[z,e] at b3;cases b3;rw[hd] at b5;cases b5.2
  ·have:=(I.bs _ _ b3).2;rw[z,hP] at this;cases this
 refine PySem.W.kla_eval hdef ?_;rw[hq]
 cases ca:codeAmong pos qs.toList with
 | some cv =>
  have il:=fa pos cv ca;rw[pN] at il;obtain⟨c',oc,vs,t,rfl,e2,e3⟩:=il;refine PySem.W.kla_makeFunctionHit hcl I.ok.glob hns hcode C eP tr ca hb fun ctv h' tk hk hsz=>?_;have n0:H h'.objs.size=none:=I.aS.fresh hsz;have J:=I.wk (f:=h'.objs.size) (t':=tk) (h':=h'.push { cls:=.type "function",data:=.func (PySem.W.kla_fn "<lambda>" ((x++".<locals>.")++"<lambda>") params body scope cl ((X.mg "__name__").getD .none) (.ref c') ctv) }) (fun b u e=>Heap.get?_push_of_some _ (hk b u e)) hsz (Heap.get?_push_size _ rfl);exact h _ c' _ ctv _ _ (.more .refl n0) J ⟨aj,c',oc,vs,t,rfl,by rw[ae (ak e2 n0)];exact e2,e3⟩
 | none =>
  refine PySem.W.kla_makeFunction hcl I.ok.glob hns hcode C eP tr ca hgP hb fun c' ctv h' tk hx2 hge hlt hrec htb=>?_;obtain⟨c2,oc,vs,t,e2,hoc,hd,hv⟩:=hrec;cases e2;have nP:P≠c':=fun z=>absurd (Heap.lt_size eP) (by rw[z];exact Nat.not_lt.mpr hge)
  have n1:H c'=none:=I.aS.fresh hge;have keep:∀ b u,b≠P->s.heap.get? b=some u->h'.get? b=some u:=fun b u hb' e=>hx2 b u hb' e;have H1ne:∀ b u,H b=some u->upd H c' (.gF oc (.own c')) b=some u:=fun b u e=>by rw[ae (ak e n1)];exact e
  have hoP:∀ y,H P≠some (.own y):=fun y z=>by rw[hP] at z;cases z
  have J1:Inv X pins σ (upd H c' (.gF oc (.own c'))) { s with heap:=h',toks:=tk }:=by
   refine I.un ⟨fun b o e n _ _=>keep b o (fun z=>by rw[z,hP] at n;cases n) e,fun b o e n _ _=>⟨o.slots,keep b o (fun z=>by rw[z,hP] at n;cases n) e⟩,fun b o e n _=>?_,fun b o e _=>?_,fun b xs e=>H1ne b _ e,fun b o u e=>H1ne b _ e,fun b ps e=>⟨#[],by rw[H1ne b _ e,Array.append_empty]⟩⟩ fun b u e=>?_
   ·rw[ae (fun z=>absurd (Heap.lt_size e) (by rw[z];exact Nat.not_lt.mpr hge))];exact n
   ·by_cases z:b=P
    ·rw[z];exact⟨_,htb⟩
    ·exact⟨o,keep b o z e⟩
   ·by_cases z:b=c'
    ·subst z;rw[aj] at e;cases e;exact⟨hoc,oc,hoc⟩
    ·rw[ae z] at e;by_cases z2:b=P
     ·subst z2;rw[hP] at e;cases e;refine⟨_,htb,by rw[Array.toList_append];exact gr _ tr,fun p cv hc=>?_⟩
      rw[Array.toList_append] at hc;rcases jI _ tr hc with q | q
      ·obtain⟨c2,oc2,vs2,t2,g1,g2,g3⟩:=fa p cv q;exact⟨c2,oc2,vs2,t2,g1,H1ne _ _ g2,g3⟩
      ·rw[pN];exact⟨c',oc,vs,t,q,aj,hd,hv⟩
     ·refine (I.aS b u e).gZ (fun c v hc q=>keep c v ?_ q) (fun c q=>H1ne c _ q) (fun c xs q=>H1ne c _ q) fun c _ _ q=>H1ne c _ q;rcases hc with rfl | hc
      ·exact z2
      ·exact fun z3=>hoP b (by rw[<- z3];exact hc)
  have n2:upd H c' (.gF oc (.own c')) h'.objs.size=none:=J1.aS.fresh (Nat.le_refl _);have J:=J1.wk (f:=h'.objs.size) (t':=tk) (h':=h'.push (PySem.W.kla_obj "<lambda>" ((x++".<locals>.")++"<lambda>") params body scope cl ((X.mg "__name__").getD .none) c' ctv)) (fun b u e=>Heap.get?_push_of_some _ e) (Nat.le_refl _) (Heap.get?_push_size _ rfl);exact h _ c' _ ctv _ _ (.more (.more .refl n1) n2) J ⟨aj,c',oc,vs,t,rfl,by rw[ae (ak aj n2)];exact aj,hd,hv⟩
end
section
variable {α β:Type}
def eW(p:Int×α):List (Int×α)->List (Int×α)
 | []=>[p]
 | q::r=>if p.1<=q.1 then p::q::r else q::eW p r
def dq:List (Int×α)->List (Int×α)
 | []=>[]
 | p::r=>eW p (dq r)
noncomputable abbrev C3 (l:List (Int×α)):Prop:=l.Pairwise fun p q=>p.1<=q.1
def atK(a:Int)(l:List (Int×α)):List (Int×α):=l.filter fun p=>decide (p.1=a)
theorem eC(p:Int×α):∀ l,(eW p l).Perm (p::l)
 | []=>.refl _
 | q::r=>by
  unfold eW;split
  ·exact .refl _
  ·exact ((eC p r).cons q).trans (List.Perm.swap p q r)
theorem bW:∀ l:List (Int×α),(dq l).Perm l
 | []=>.refl _
 | p::r=>(eC p _).trans ((bW r).cons p)
theorem pS{p:Int×α}:∀ {l:List (Int×α)},C3 l->C3 (eW p l)
 | [],_=>List.pairwise_singleton _ _
 | q::r,h=>by
  obtain⟨h1,h2⟩:=List.pairwise_cons.mp h;unfold eW;split
  ·rename_i c;exact List.pairwise_cons.mpr ⟨fun z hz=>by
    rcases List.mem_cons.mp hz with rfl | hz
    ·exact c
    ·exact Int.le_trans c (h1 z hz),h⟩
  ·rename_i c;refine List.pairwise_cons.mpr ⟨fun z hz=>?_,pS h2⟩;rcases List.mem_cons.mp ((eC p r).mem_iff.mp hz) with rfl | hz
   ·lia
   ·exact h1 z hz
theorem gY:∀ l:List (Int×α),C3 (dq l)
 | []=>List.Pairwise.nil
 | _::r=>pS (gY r)
theorem aP(a:Int)(p:Int×α)(l:List (Int×α)):atK a (p::l)=if p.1=a then p::atK a l else atK a l:=by
 unfold atK;rw[List.filter_cons];by_cases z:p.1=a
 ·rw[if_pos z,if_pos (decide_eq_true z)]
 ·rw[if_neg z,if_neg (by simp[z])]
theorem qd{a:Int}{p:Int×α}:∀ {l:List (Int×α)},atK a (eW p l)=atK a (p::l)
 | []=>rfl
 | q::r=>by
  unfold eW;split
  ·rfl
  ·rename_i c;rw[aP,qd,aP,aP,aP];by_cases z:p.1=a
   ·have z2:¬ q.1=a:=by lia
    simp only[z,z2,if_true,if_false]
   ·simp only[z,if_false]
theorem mF{a:Int}:∀ l:List (Int×α),atK a (dq l)=atK a l
 | []=>rfl
 | p::r=>by
  show atK a (eW p (dq r))=_;rw[qd,aP,aP,mF r]
theorem iI{a:Int}:∀ {l:List (Int×α)},(∀ p∈l,a < p.1)->atK a l=[]
 | [],_=>rfl
 | p::r,h=>by
  have:=h p (List.mem_cons_self ..);rw[aP,if_neg (by lia),iI fun q hq=>h q (List.mem_cons_of_mem _ hq)]
theorem j0:∀ {l m:List (Int×α)},C3 l->C3 m->(∀ a,atK a l=atK a m)->l=m
 | [],[],_,_,_=>rfl
 | [],q::m,_,_,h=>by
  have:=h q.1;rw[aP,if_pos rfl] at this;cases this
 | p::l,[],_,_,h=>by
  have:=h p.1;rw[aP,if_pos rfl] at this;cases this
 | p::l,q::m,hl,hm,h=>by
  obtain⟨l1,l2⟩:=List.pairwise_cons.mp hl;obtain⟨m1,m2⟩:=List.pairwise_cons.mp hm;have e:p.1=q.1:=by
   rcases Int.lt_trichotomy p.1 q.1 with z | z | z
   ·have q1:=h p.1;rw[aP,if_pos rfl,aP,if_neg (by lia),iI (l:=m) fun r hr=>by have:=m1 r hr;lia] at q1
    cases q1
   ·exact z
   ·have q1:=h q.1;rw[aP,if_neg (by lia),aP,if_pos rfl,iI (l:=l) fun r hr=>by have:=l1 r hr;lia] at q1
    cases q1
  have q1:=h p.1;rw[aP,if_pos rfl,aP,if_pos e.symm] at q1;obtain⟨q2,q3⟩:=List.cons.inj q1;subst q2;congr 1;refine j0 l2 m2 fun a=>?_;have q4:=h a;rw[aP,aP] at q4;by_cases z:p.1=a
  ·rw[if_pos z,if_pos z] at q4;exact (List.cons.inj q4).2
  ·rw[if_neg z,if_neg z] at q4;exact q4
theorem vo{l m:List (Int×α)}(hm:C3 m)(h:∀ a,atK a m=atK a l):m=dq l:=j0 hm (gY l) fun a=>by rw[h a,mF]
noncomputable abbrev Cv (R:α->β->Prop):List (Int×α)->List (Int×β)->Prop:=Paired fun p q=>p.1=q.1/\R p.2 q.2
theorem sV{R:α->β->Prop}{p:Int×α}{q:Int×β}(h:p.1=q.1/\R p.2 q.2){l:List (Int×α)}{m:List (Int×β)}(k:Cv R l m):Cv R (eW p l) (eW q m):=by
 induction k with
 | nil=>exact .cons h .nil
 | cons r t ih =>
  unfold eW;split
  ·rename_i z;rw[if_pos (by rw[<- h.1,<- r.1];exact z)]
   exact .cons h (.cons r t)
  ·rename_i z;rw[if_neg (by rw[<- h.1,<- r.1];exact z)]
   exact .cons r ih
theorem qU{R:α->β->Prop}{l:List (Int×α)}{m:List (Int×β)}(k:Cv R l m):Cv R (dq l) (dq m):=by
 induction k with
 | nil=>exact .nil
 | cons r t ih=>exact sV r ih
theorem tY{R:α->β->Prop}{ks:List Int}{l:List α}{m:List β}(k:Paired R l m):Cv R (ks.zip l) (ks.zip m):=by
 induction k generalizing ks with
 | nil=>rw[List.zip_nil_right,List.zip_nil_right];exact .nil
 | cons r t ih =>
  cases ks with
  | nil=>exact .nil
  | cons k ks=>exact .cons ⟨rfl,r⟩ ih
theorem vR{R:α->β->Prop}{l:List (Int×α)}{m:List (Int×β)}(k:Cv R l m):Paired R (l.map (·.2)) (m.map (·.2)):=by
 induction k with
 | nil=>exact .nil
 | cons r t ih=>exact .cons r.2 ih
def d6(ks:List Int)(l:List α):List α:=(dq (ks.zip l)).map (·.2)
theorem gQ{R:α->β->Prop}{ks:List Int}{l:List α}{m:List β}(h:Paired R l m):Paired R (d6 ks l) (d6 ks m):=vR (qU (tY h))
theorem pI{ks:List Int}{l:List α}(h:ks.length=l.length):(d6 ks l).length=l.length:=by
 unfold d6;rw[List.length_map,(bW _).length_eq,List.length_zip,h,Nat.min_self]
theorem iN{ks:List Int}{l:List α}(h:ks.length=l.length):(d6 ks l).Perm l:=by
 have h2:((ks.zip l).map (·.2))=l:=List.map_snd_zip (by lia)
 have h3:=(bW (ks.zip l)).map (·.2);rw[h2] at h3;exact h3
end
theorem fW:∀ {xs:List V} {us:List Value},Vals xs us->Paired RelV xs us
 | _,_,.nil=>.nil
 | _,_,.cons r t=>.cons r (fW t)
theorem fU:∀ {xs:List V} {us:List Value},Paired RelV xs us->Vals xs us
 | _,_,.nil=>.nil
 | _,_,.cons r t=>.cons r (fU t)
theorem uT{keys:Array Value}{us:List Value}{kz:List Int}{out:Array Keyed}(hk:IntsAre keys.toList kz)(hs:SortedTo out out.size)(hS:SS.St out.toList (keys.zip us.toArray).toList):(out.map (·.2)).toList=d6 kz us:=by
 let g:Keyed->Int×Value:=fun p=>(numOf p.1,p.2)
 have ez:(keys.zip us.toArray).toList.map g=kz.zip us:=by
  rw[ksk_zip,<- hk.nums,List.zip_map_left];exact List.map_congr_left fun⟨_,_⟩ _=>rfl
 have fl:∀ (a:Int) (l:List Keyed),atK a (l.map g)=(SS.ff a l).map g:=fun a l=>by
  unfold atK SS.ff;rw[List.filter_map];rfl
 have e1:out.toList.map g=dq (kz.zip us):=by
  refine vo ?_ fun a=>?_
  ·show List.Pairwise _ _;rw[List.pairwise_iff_getElem];intro i j hi hj hij;have hi':i < out.size:=by simpa using hi
   have hj':j < out.size:=by simpa using hj
   have q:=hs i j (Nat.le_of_lt hij) hj';rw[K_eq hi',K_eq hj'] at q
   simpa[g] using q
  ·rw[<- ez,fl,fl,hS a]
 unfold d6;rw[<- e1,List.map_map,Array.toList_map];rfl
section
variable {X:Cx} {pins:List (Addr×Obj)} {σ:St} {H:Hp} {s:Shared} {E:Value->Shared->Prop}
theorem Inv.take{D:Addr}{ob:Obj}{o:HO}{t':Nat}{h':Heap}(I:Inv X ((D,ob)::pins) σ H s)(hs0:X.s₀.heap.objs.size<=D)(hnp:∀ p∈X.pn++pins,p.1≠D)(k:∀ b u,b≠D->s.heap.get? b=some u->h'.get? b=some u)(new:b7 X.prog X.w (upd H D o) h' D o):
  Inv X pins σ (upd H D o) { s with heap:=h',toks:=t' }:=by
 obtain⟨g1,g2,g3,g4,g5⟩:=I.pin (D,ob) (List.mem_append_right _ (List.mem_cons_self ..));have I0:Inv X pins σ H s:=⟨I.ok,I.os,I.bare,I.base,I.loc,I.cell,I.free,I.cQ,fun p hp=>I.pin p ((List.mem_append.mp hp).elim (fun z=>List.mem_append_left _ z) fun z=>List.mem_append_right _ (List.mem_cons_of_mem _ z)),I.aS,I.len⟩;have ne:∀ b u,H b=some u->b≠D:=fun b u e=>ak e g2;refine I0.step (g':=s.gens) (d':=s.drawn) (ch:=[D]) (fun b hb=>?_) (fun b o' _ _ hc e _=>k b o' (fun z=>hc (by rw[z];exact List.mem_singleton.mpr rfl)) e) (fun b o' _ _ hc e _=>⟨o'.slots,k b o' (fun z=>hc (by rw[z];exact List.mem_singleton.mpr rfl)) e⟩) (fun b o' hc e n=>by rw[ae (fun z=>hc (by rw[z];exact List.mem_singleton.mpr rfl))];exact n)
  (fun b o' hc e=>⟨o',k b o' (fun z=>hc (by rw[z];exact List.mem_singleton.mpr rfl)) e⟩) (fun b xs e=>by rw[ae (ne b _ e)];exact e) (fun b o' u e=>by rw[ae (ne b _ e)];exact e) (fun b ps e=>⟨#[],by rw[ae (ne b _ e),e,Array.append_empty]⟩) (fun m hm=>?_) (fun b u e=>?_) I.bare
 ·rw[List.mem_singleton.mp hb];refine⟨.inr hs0,g3,fun x c e z=>?_,hnp⟩;obtain⟨v,o',ho',hd⟩:=I.cell x c e;rw[z,g1] at ho';cases ho';exact g5 v hd
 ·obtain⟨o',es,ep,ho',r⟩:=hm;exact⟨o',es,ep,k _ _ (Ne.symm g3) ho',r⟩
 ·by_cases z:b=D
  ·subst z;rw[aj] at e;cases e;exact new
  ·rw[ae z] at e;refine (I.aS b u e).gZ (fun c v hc q=>k c v ?_ q) (fun c q=>by rw[ae (ne c _ q)];exact q) (fun c xs q=>by rw[ae (ne c _ q)];exact q) fun c _ _ q=>by rw[ae (ne c _ q)];exact q
   rcases hc with rfl | hc
   ·exact z
   ·exact ne c _ hc
theorem qx{A:Around}{D e1:Nat}{st:SortSt}{kS:Addr}{xs:List V}{us:List Value}{kz:List Int}{P:PySem.Fin->Shared->Prop}
  (I:Inv X ((D,seqObj "list" #[] e1)::pins) σ (upd H kS (.lst (kz.map V.int))) s) (hkS:H kS=none) (hD:H D=none) (hkD:kS≠D) (hs0:X.s₀.heap.objs.size<=D) (hnp:∀ p∈X.pn++pins,p.1≠D)
  (hv:Vals xs us) (hlen:kz.length=us.length) (h64:us.length < 64) (ho:((arrOf st).map (·.2)).toList=d6 kz us) (hfl:failedOf st=none)
  (h:∀ s',Inv X pins σ (upd (upd H kS (.lst [])) D (.lst (d6 kz xs))) s'->P (.done (.ret .none)) s') :
  wpAny (model X.prog X.w) A (ksk_tail D false e1 (.ref kS) st) P E s:=by
 obtain⟨_,its,n,vr,ek⟩:=I.aS kS _ aj;have hz:its.toArray.size<=sizeLine:=by
  rw[List.size_toArray,<- vr.length,List.length_map,hlen,sizeLine_eq];lia
 have pD:=I.pin _ (List.mem_append_right _ (List.mem_cons_self ..));have hout:((arrOf st).map (·.2)).size=us.length:=by
  rw[<- Array.length_toList,ho,pI hlen]
 have s1:=Heap.SameBut.update s.heap kS (Obj.mapSeq fun _=>(#[]:Array Value));obtain⟨c1,hc1⟩:∃ c,(s.heap.update kS (Obj.mapSeq fun _=>(#[]:Array Value))).get? kS=some (seqObj "list" #[] c):=⟨_,get?_update_seq ek fun _=>#[]⟩;have J1:Inv X ((D,seqObj "list" #[] e1)::pins) σ (upd H kS (.lst [])) { s with heap:=s.heap.update kS (Obj.mapSeq fun _=>(#[]:Array Value)) }:=by
  have J:=I.write (x:=kS) (e:=kS) (o:=.lst []) (t':=s.toks) (h':=s.heap.update kS (Obj.mapSeq fun _=>(#[]:Array Value))) (by rw[aj];trivial) (.inl rfl) (fun b u hb q=>(s1.2 b hb).trans q) ⟨_,hc1⟩ ⟨Nat.zero_le _,[],c1,.nil,hc1⟩
  rw[pW] at J;exact J
 have pD1:=J1.pin _ (List.mem_append_right _ (List.mem_cons_self ..));have s2:=Heap.SameBut.update (s.heap.update kS (Obj.mapSeq fun _=>(#[]:Array Value))) D (Obj.mapSeq fun _=>(arrOf st).map (·.2));obtain⟨c2,hc2⟩:∃ c,((s.heap.update kS (Obj.mapSeq fun _=>(#[]:Array Value))).update D (Obj.mapSeq fun _=>(arrOf st).map (·.2))).get? D=some (seqObj "list" ((arrOf st).map (·.2)) c):=⟨_,get?_update_seq pD1.1 fun _=>(arrOf st).map (·.2)⟩;have vB:Vals (d6 kz xs) (d6 kz us):=fU (gQ (fW hv));unfold ksk_tail;dsimp only;refine wpAny_bind (listUpdate_at ek rfl ?_ hz (Nat.zero_le _));refine wpAny_bind (wpAny_letGo ?_);refine wpAny_bind (seqEpoch_at pD1.1 rfl ?_);refine wpAny_bind (listUpdate_at pD1.1 rfl ?_ (Nat.zero_le _) (by show ((arrOf st).map (·.2)).size<=_;rw[hout,sizeLine_eq];lia))
 rw[hfl];simp only[bne_self_eq_false,Bool.false_eq_true,if_false];refine wpAny_pure (h _ (J1.take hs0 hnp (fun b u hb q=>(s2.2 b hb).trans q) ⟨?_,d6 kz us,c2,vB,?_⟩))
 ·rw[vB.length,pI hlen,sizeLine_eq];lia
 ·rw[<- ho,Array.toArray_toList];exact hc2
theorem AN{A:Around}{D e1:Nat}{kS:Addr}{xs:List V}{us:List Value}{kz:List Int}{keys:Array Value}{P:PySem.Fin->Shared->Prop}
  (I:Inv X ((D,seqObj "list" #[] e1)::pins) σ (upd H kS (.lst (kz.map V.int))) s) (hkS:H kS=none) (hD:H D=none) (hkD:kS≠D) (hs0:X.s₀.heap.objs.size<=D) (hnp:∀ p∈X.pn++pins,p.1≠D)
  (hv:Vals xs us) (hlen:kz.length=us.length) (h64:us.length < 64) (hk:IntsAre keys.toList kz)
  (h:∀ s',Inv X pins σ (upd (upd H kS (.lst [])) D (.lst (d6 kz xs))) s'->P (.done (.ret .none)) s') :
  wpAny (model X.prog X.w) A (ksk_end D false us.toArray e1 (.ref kS) keys) P E s:=by
 have hsz:keys.size=us.length:=by
  have z:=hk.length;rw[Array.length_toList] at z;exact z.trans hlen
 have hzs:(keys.zip us.toArray).size=us.length:=by
  rw[Array.size_zip,hsz,List.size_toArray,Nat.min_self]
 unfold ksk_end;dsimp only;rw[if_neg Bool.false_ne_true,if_neg Bool.false_ne_true];by_cases h2:us.toArray.size < 2
 ·rw[if_pos h2,if_pos h2];refine wpAny_bind (wpAny_pure ?_);rw[StateT.run_pure];refine wpAny_bind (wpAny_pure ?_);dsimp only;refine qx I hkS hD hkD hs0 hnp hv hlen h64 ?_ rfl h;refine uT (out:=keys.zip us.toArray) hk (fun i j hij hj=>?_) fun _=>rfl;rw[hzs] at hj;rw[List.size_toArray] at h2;obtain rfl:i=j:=by lia
  exact Int.le_refl _
 ·rw[if_neg h2,if_neg h2];rw[List.size_toArray] at h2;rw[ksk_kind hk (by lia)]
  refine wpAny_bind (wpAny_pure ?_);refine wpAny_bind (wpAny_mono (SS.yq (a₀:=keys.zip us.toArray) (st:=SortSt.mk' oneType' (keys.zip us.toArray) #[] 7 none)
   (Q:=fun _ st'=>failedOf st'=none/\((arrOf st').map (·.2)).toList=d6 kz us)
   (ksk_intKeys hk) ⟨Array.Perm.refl _,rfl,rfl,rfl⟩ (fun _=>rfl) (by lia) (by lia) fun st' a1 a2 a3 a4=>⟨a2,uT hk (by rw[a1.size_eq];exact a3) a4⟩) ?_ fun _ _ e=>e)
  rintro⟨⟨⟩,st'⟩ s' ⟨rfl,hf,ho⟩;dsimp only;exact qx I hkS hD hkD hs0 hnp hv hlen h64 ho hf h
theorem ic:∀ {us:List Value} {ns:List Int},Vals (ns.map V.int) us->IntsAre us ns
 | _,[],.nil=>.nil
 | _,n::ns,.cons ⟨t,e⟩ r=>by subst e;exact .cons n t (ic r)
theorem xJ{A:Around}{D e1:Nat}{kS:Addr}{xs:List V}{us:List Value}{kz:List Int}{f:Value}{P:PySem.Fin->Shared->Prop}
  (I:Inv X ((D,seqObj "list" #[] e1)::pins) σ (upd H kS (.lst [])) s) (hkS:H kS=none) (hD:H D=none) (hkD:kS≠D) (hs0:X.s₀.heap.objs.size<=D) (hnp:∀ p∈X.pn++pins,p.1≠D)
  (hv:Vals xs us) (hlen:kz.length=us.length) (h64:us.length < 64)
  (turn:∀ (i:Nat) (u:Value) (k:Int),us[i]?=some u->kz[i]?=some k->∀ pins' H' s',cW H H'->Inv X pins' σ H' s'->wpAny (model X.prog X.w) A (call f [u]) (fun r s2=>(∃ t,r=.int k t)/\Inv X pins' σ H' s2) (fun _ _=>False) s')
  (h:∀ s',Inv X pins σ (upd (upd H kS (.lst [])) D (.lst (d6 kz xs))) s'->P (.done (.ret .none)) s') :
  wpAny (model X.prog X.w) A (ksk_rest D f false us.toArray e1 (.ref kS)) P E s:=by
 unfold ksk_rest;refine wpAny_bind (wpAny_rule ?_)
 first
  | rw[List.forIn_toArray]
  | (rw[<- Array.forIn_toList];simp only[List.toList_toArray])
 refine wpAny_bind (ksk_fold (fun i s'=>Inv X ((D,seqObj "list" #[] e1)::pins) σ (upd H kS (.lst ((kz.take i).map V.int))) s') us 0 s I ?one ?all)
 case one =>
  intro j u s' hu J;rw[Nat.zero_add] at J ⊢;have hj:j < us.length:=(List.getElem?_eq_some_iff.mp hu).1;obtain⟨k,hkj⟩:∃ k,kz[j]?=some k:=⟨_,List.getElem?_eq_getElem (by lia)⟩
  refine wpAny_bind (wpAny_attempt (wpAny_mono (turn j u k hu hkj _ _ s' (.more .refl hkS) J) (fun r s2 hr=>?_) fun _ _ z=>z.elim));obtain⟨⟨t,rfl⟩,J2⟩:=hr;dsimp only;obtain⟨_,its,n,vr,ek⟩:=J2.aS kS _ aj;have lenI:its.length<=us.length:=by
   rw[<- vr.length,List.length_map,List.length_take];lia
  have s1:=Heap.SameBut.update s2.heap kS (Obj.mapSeq (·.push (.int k t)));obtain⟨c1,hc1⟩:∃ c,(s2.heap.update kS (Obj.mapSeq (·.push (.int k t)))).get? kS=some (seqObj "list" (its.toArray.push (.int k t)) c):=⟨_,get?_update_seq ek (·.push (.int k t))⟩;have et:kz.take (j+1)=kz.take j++[k]:=by
   rw[List.take_add_one,hkj];rfl
  have vr2:Vals ((kz.take (j+1)).map V.int) (its++[.int k t]):=by
   rw[et,List.map_append];exact vr.append (.cons ⟨t,rfl⟩ .nil)
  refine wpAny_bind (listUpdate_at ek rfl ?_ (by rw[List.size_toArray,sizeLine_eq];lia) (by show (its.toArray.push (.int k t)).size<=_;rw[Array.size_push,List.size_toArray,sizeLine_eq];lia))
  refine wpAny_pure ⟨rfl,?_⟩;have J3:=J2.write (x:=kS) (e:=kS) (o:=.lst ((kz.take (j+1)).map V.int)) (t':=s2.toks) (h':=s2.heap.update kS (Obj.mapSeq (·.push (.int k t)))) (by rw[aj];trivial) (.inl rfl) (fun b u hb q=>(s1.2 b hb).trans q) ⟨_,hc1⟩
   ⟨by rw[List.length_map,List.length_take,sizeLine_eq];lia,its++[.int k t],c1,vr2,by rw[hc1,List.push_toArray]⟩
  rw[pW] at J3;exact J3
 case all =>
  intro s' J;have ez:kz.take (0+us.length)=kz:=List.take_of_length_le (by lia)
  have J':Inv X ((D,seqObj "list" #[] e1)::pins) σ (upd H kS (.lst (kz.map V.int))) s':=by
   rw[<- ez];rw[ez];simpa only[ez] using J
  obtain⟨_,its,n,vr,ek⟩:=J'.aS kS _ aj;refine wpAny_bind (listItems_at ek rfl ?_);exact AN J' hkS hD hkD hs0 hnp hv hlen h64 (by rw[List.toList_toArray];exact ic vr) h
theorem xo{A:Around}{D:Addr}{n0:Nat}{h0:Heap}{xs:List V}{us:List Value}{kz:List Int}{f:Value}{P:PySem.Fin->Shared->Prop}
  (I:Inv X pins σ H s) (k0:∀ b o,s.heap.get? b=some o->h0.get? b=some o) (hDs:s.heap.objs.size<=D) (ho:h0.get? D=some (seqObj "list" us.toArray n0)) (hv:Vals xs us) (hlen:kz.length=us.length) (h64:us.length < 64)
  (turn:∀ (i:Nat) (u:Value) (k:Int),us[i]?=some u->kz[i]?=some k->∀ pins' H' s',cW H H'->Inv X pins' σ H' s'->wpAny (model X.prog X.w) A (call f [u]) (fun r s2=>(∃ t,r=.int k t)/\Inv X pins' σ H' s2) (fun _ _=>False) s')
  (h:∀ H' s',cW H H'->H' D=none->Inv X pins σ (upd H' D (.lst (d6 kz xs))) s'->P (.done (.ret .none)) s') :
  wpAny (model X.prog X.w) A (ksk_tree D f false) P E { s with heap:=h0 }:=by
 have hsz0:D < h0.objs.size:=Heap.lt_size ho;have s1:=Heap.SameBut.update h0 D (Obj.mapSeq fun _=>(#[]:Array Value));obtain⟨e1,ho1⟩:∃ e,(h0.update D (Obj.mapSeq fun _=>(#[]:Array Value))).get? D=some (seqObj "list" #[] e):=⟨_,get?_update_seq ho fun _=>#[]⟩;have hkz:((h0.update D (Obj.mapSeq fun _=>(#[]:Array Value))).push (seqObj "tuple" us.toArray 0)).objs.size=h0.objs.size+1:=by
  rw[size_push',Heap.size_update]
 have nD:∀ b o,s.heap.get? b=some o->b≠D:=fun b o e=>Nat.ne_of_lt (Nat.lt_of_lt_of_le (Heap.lt_size e) hDs);have keep:∀ b o,s.heap.get? b=some o->(((h0.update D (Obj.mapSeq fun _=>(#[]:Array Value))).push (seqObj "tuple" us.toArray 0)).push (seqObj "list" #[] 0)).get? b=some o:=fun b o e =>
  Heap.get?_push_of_some _ (Heap.get?_push_of_some _ ((s1.2 b (nD b o e)).trans (k0 b o e)))
 have hle:s.heap.objs.size<=h0.objs.size+1:=Nat.le_trans hDs (Nat.le_succ_of_le (Nat.le_of_lt hsz0));have hkD:h0.objs.size+1≠D:=Nat.ne_of_gt (Nat.lt_succ_of_lt hsz0);have hkS:H (h0.objs.size+1)=none:=I.aS.fresh hle;have hD:H D=none:=I.aS.fresh hDs;have hnp:∀ p∈X.pn++pins,p.1≠D:=fun p hp=>nD _ _ (I.pin p hp).1;have J0:Inv X pins σ (upd H (h0.objs.size+1) (.lst [])) { s with heap:=((h0.update D (Obj.mapSeq fun _=>(#[]:Array Value))).push (seqObj "tuple" us.toArray 0)).push (seqObj "list" #[] 0) }:=
  I.laid (t':=s.toks) keep hle ⟨Nat.zero_le _,[],0,.nil,by rw[<- hkz];exact Heap.get?_push_size _ rfl⟩
 have J:Inv X ((D,seqObj "list" #[] e1)::pins) σ (upd H (h0.objs.size+1) (.lst [])) { s with heap:=((h0.update D (Obj.mapSeq fun _=>(#[]:Array Value))).push (seqObj "tuple" us.toArray 0)).push (seqObj "list" #[] 0) }:=by
  refine J0.kx fun p hp=>?_;rcases List.mem_cons.mp hp with rfl | hp
  ·exact⟨Heap.get?_push_of_some _ (Heap.get?_push_of_some _ ho1),by rw[ae (Ne.symm hkD)];exact hD,fun z=>absurd I.lt (by rw[<- z];exact Nat.not_lt.mpr hDs),I.DX hDs,fun v z=>by cases z⟩
  ·exact J0.pin p (List.mem_append_right _ hp)
 unfold ksk_tree;refine wpAny_bind (listItems_at ho rfl ?_);refine wpAny_bind (listUpdate_at ho rfl ?_ (by rw[List.size_toArray,sizeLine_eq];lia) (Nat.zero_le _))
 refine wpAny_bind (seqEpoch_at ho1 rfl ?_);refine wpAny_bind (wpAny_newTuple ?_ (by show us.length<=_;rw[sizeLine_eq];lia))
 refine wpAny_bind (wpAny_newList ?_ (Nat.zero_le _));refine wpAny_holding ?_;show wpAny _ _ (ksk_rest D f false us.toArray e1 (.ref ((h0.update D (Obj.mapSeq fun _=>(#[]:Array Value))).push (seqObj "tuple" us.toArray 0)).objs.size)) _ _ _;rw[hkz];exact xJ J hkS hD hkD (Nat.le_trans I.sz hDs) hnp hv hlen h64 turn fun s' K=>h _ s' (.more .refl hkS) (by rw[ae (Ne.symm hkD)];exact hD) K
end
def uz(q:Str)(params:Arguments)(body:Expr)(scope:Scope)(cl:List (Str×Addr)):TE:=fun _ H Q=>∀ f c' pm ctv H1,cW H H1->gu H1 f q params body scope cl c' pm ctv->Q (.ref f) H1
theorem t9{X:Cx}{x:Str}{c P:Addr}(hx:x∈cF)(ht:PySem.W.tabIn X.K x=some (c,P))(hcode:X.env.code=.ref c)(hq:X.env.qual=x++".<locals>."){params:Arguments}{body:Expr}{scope:Scope}{pos:Pos}{cl:List (Str×Addr)}
  (hdef:defaultsOf params X.env=([],[])) (hcl:closureFor scope X.env=pure cl):PE X (.Lambda params body scope pos) (uz ((x++".<locals>.")++"<lambda>") params body scope cl):=fun pins s σ H Q I h =>
 wK I hx ht hcode hq hdef hcl fun f c' pm ctv H1 s1 g J l=>⟨.ref f,H1,J,rfl,h f c' pm ctv H1 g l⟩
section
variable {X:Cx} {pins:List (Addr×Obj)} {σ:St} {H:Hp} {s:Shared} {E:Value->Shared->Prop}
def pT(X:Cx)(A:Around)(s:Shared)(l:Addr)(xs:List V):Prop:=∀ (Q:List Value->Shared->Prop) (E:Value->Shared->Prop),(∀ h0 tk us,(∀ b o,s.heap.get? b=some o->h0.get? b=some o)->s.heap.objs.size<=h0.objs.size->Vals xs us->Q us { s with heap:=h0,toks:=tk })->wpAny (model X.prog X.w) A (collect (.ref l)) Q E s
theorem rQ{A:Around}{l f:Addr}{xs:List V}{kz:List Int}{Q:VK}(I:Inv X pins σ H s)(hcol:pT X A.in1 s l xs)(hlen:kz.length=xs.length)(h64:xs.length < 64)
  (turn:∀ (i:Nat) (v:V) (u:Value) (k:Int),xs[i]?=some v->RelV v u->kz[i]?=some k->∀ pins' H' s',cW H H'->Inv X pins' σ H' s'->wpAny (model X.prog X.w) A.in1.in1 (call (.ref f) [u]) (fun r s2=>(∃ t,r=.int k t)/\Inv X pins' σ H' s2) (fun _ _=>False) s')
  (h:∀ H' D,cW H H'->H' D=none->Q (.ref D) (upd H' D (.lst (d6 kz xs)))) :
  wpAny (model X.prog X.w) A (call (.builtin "sorted") [.ref l] [(Str.ofString "key",.ref f)]) (EP X pins σ Q) E s:=by
 refine call_function_entry_kw kind_sorted plain_sorted entry_sorted (ksk_s1 _ _) ?_;unfold Builtin.«sorted»;refine wpAny_bind (m:=checkCount "sorted" 1 1 _) (wpAny_pure (wpAny_bind (hcol _ _ fun h0 tk us k0 hz hv=>?_)));have ul:us.length=xs.length:=hv.length.symm;refine wpAny_bind (wpAny_newList ?_ (by rw[ul,sizeLine_eq];lia))
 have hoL:(h0.push (seqObj "list" us.toArray 0)).get? h0.objs.size=some (seqObj "list" us.toArray 0):=Heap.get?_push_size _ rfl;refine wpAny_bind (wpAny_holding (wpAny_call_entry_kw slot_list_sort ⟨_,hoL,rfl⟩ entry_list_sort ?srt (ksk_l1 _ _)))
 case srt =>
  show wpAny _ A.in1.in1 (Builtin.«list.sort» ⟨[.ref h0.objs.size],[(Str.ofString "key",.ref f)]⟩) _ _ _;rw[ksk_t1];refine xo (s:={ s with toks:=tk }) (h0:=h0.push (seqObj "list" us.toArray 0)) (I.tok tk) (fun b o e=>Heap.get?_push_of_some _ (k0 b o e)) hz hoL hv (by rw[ul];exact hlen) (by rw[ul];exact h64)
   (fun i u k hu hk pins' H' s' g J=>?_) fun H' s' g n J=>⟨_,rfl,?_⟩
  ·have hi:i < xs.length:=by rw[<- ul];exact (List.getElem?_eq_some_iff.mp hu).1
   obtain⟨u',hu',rv⟩:=hv.get (List.getElem?_eq_getElem hi);rw[hu] at hu';cases hu';exact turn i _ u k (List.getElem?_eq_getElem hi) rv hk pins' H' s' g J
  ·exact wpAny_pure ⟨_,rfl,.ref h0.objs.size,_,J,rfl,h H' _ g n⟩
theorem ou{A:Around}{l:Addr}{xs:List V}(I:Inv X pins σ H s)(hl:bB X.K H l xs)(h64:xs.length < 64):pT X A s l xs:=fun Q E h=>by
 obtain⟨its,rv,pl,hz⟩:=I.list hl;refine collect_list pl.isList (h _ s.toks its (fun b o e=>?_) ?_ rv) (by rw[<- rv.length];exact hz)
 ·rw[Heap.get?_update_ne _ _ _ _ (Nat.ne_of_lt (Heap.lt_size e))];exact Heap.get?_push_of_some _ e
 ·rw[Heap.size_update,size_push'];exact Nat.le_succ _
def mR(src:Hp->Addr->List V->Prop)(pre:V->Int->Hp->St->Prop)(fr:St->St)(t:TA):TE:=fun σ H Q=>t σ H fun vs H1=>∃ l xs kz,vs=[.ref l]/\src H1 l xs/\kz.length=xs.length/\xs.length < 64 /\
 (∀ (i:Nat) (v:V) (k:Int),xs[i]?=some v->kz[i]?=some k->∀ H',cW H1 H'->pre v k H' (fr σ))/\∀ H2 D,cW H1 H2->H2 D=none->Q (.ref D) (upd H2 D (.lst (d6 kz xs)))
theorem m8{e:Expr}{t:TA}{p pos kpos lpos:Pos}{x q:Str}{N:List Str}{params:Arguments}{body:Expr}{scope:Scope}{cl:List (Str×Addr)}{k:Nat}{src:Hp->Addr->List V->Prop}{pre:V->Int->Hp->St->Prop}{fr:St->St}
  (hg:Gl X "sorted") (hm:X.mg "sorted"=none) (ha:PA X [e] t) (h1:cx e=true) (hr:bo (k+3) X.A) (hL:PE X (.Lambda params body scope lpos) (uz q params body scope cl))
  (hsrc:∀ pins σ H s H1 l xs A,Inv X pins σ H s->src H1 l xs->cW H1 H->A.handled=none->xs.length < 64->pT X A s l xs)
  (hk:scope.kind=.function) (hco:scope.isCoroutine=false) (hgen:scope.isGenerator=false) (hcell:∀ y∈scope.names,y.2≠.cell) (hloc:scope.names.lookup x=some .local)
  (hbind:∀ c' pm ctv u,bindArgs (PySem.W.kla_fn "<lambda>" q params body scope cl pm (.ref c') ctv) ⟨[u],[]⟩=pure [(x,u)])
  (hlen:∀ σ:St,(fr σ).length=N.length) (hcl:∀ y c,cl.lookup y=some c->X.env.cells.lookup y=some c) (hhas:∀ y,(scope.names.lookup y=some .cell\/scope.names.lookup y=some .free)->∃ c,cl.lookup y=some c)
  (hf:∀ pins σ H s,Inv X pins σ H s->∀ (i:Nat) (y:Str) (v:V),N[i]?=some y->(fr σ)[i]?=some (some v)->scope.names.lookup y=some .free/\∃ c u,cl.lookup y=some c/\s.heap.IsCell c (some u)/\RelV v u)
  (hbody:∀ A f c' s' H' σf v i,pre v i H' σf->∃ t,PE (oW X A (x::N) q scope f (.ref c') cl s' H') body t/\t (some v::σf) H' (fun w H2=>w=.int i/\H2=H')) :
  PE X (.Call (.Name "sorted" p) [e] [⟨some "key",.Lambda params body scope lpos,kpos⟩] pos) (mR src pre fr t):=by
 intro pins s σ H Q I h;refine wpAny_Call_Name_kw (eN I hg hm (u:=.builtin "sorted") (by decide +kernel) ?_ (by decide) (by decide))
 have hkw:PK X [⟨some "key",.Lambda params body scope lpos,kpos⟩] (mf (uz q params body scope cl) yn):=yJ hL Cd;refine callWith_kw ?_ (by rw[cf h1];rfl) (by rw[cf h1];rfl) rfl rfl
 refine bJ (ha pos pins s σ H _ I h) fun us s1 ⟨vs,H1,I1,r1,q1⟩=>?_;obtain⟨l,xs,kz,rfl,hs,hle,h64,hpre,qq⟩:=q1;obtain⟨u,rfl,ru⟩:=vals1 r1;cases ru;refine bJ (hkw pos pins s1 σ H1 (fun zs H2=>∃ f c' pm ctv,zs=[.ref f]/\cW H1 H2/\gu H2 f ((q)) params body scope cl c' pm ctv) I1 fun f c' pm ctv H2 g lm=>⟨f,c',pm,ctv,rfl,g,lm⟩) fun ws s2 ⟨zs,H2,I2,rz,f,c',pm,ctv,e1,g,lm⟩=>?_;subst e1;obtain⟨wv,rfl,rw1⟩:=vals1 rz;cases rw1;have hr1:bo (k+2) X.A.in1:=hr.in1;refine rQ I2 (hsrc _ _ _ _ _ _ _ _ I2 hs g hr1.hd h64) hle h64 (fun i v u j hv rv hj pins' H' s' g' J=>?_) fun H' D g' n=>qq H' D (g.trans g') n;obtain⟨ho,hcd⟩:=(lm.up fun b o u e=>g'.same b _ e).get J;obtain⟨tb,hb,hq⟩:=hbody X.A.in1.in1 f c' s' H' (fr σ) v j (hpre i v j hv hj H' (g.trans g'));refine wpAny_mono (wG J hr1.in1 J.ok.frames hk hco hgen hcell rv hloc ho hcd (hbind c' pm ctv) (hlen σ) hcl hhas (hf _ _ _ _ J) hb hq) (fun r s4 hr4=>?_) fun _ _ z=>z;obtain⟨w,H4,J4,rw4,e4,e5⟩:=hr4;subst e4 e5;exact⟨rw4,J4⟩
end
theorem gL{α:Type}{x:Str}{a:α}{l:List (Str×α)}:List.lookup x ((x,a)::l)=some a:=by rw[List.lookup_cons,beq_self_eq_true]
theorem eY{α:Type}{x y:Str}{a:α}{l:List (Str×α)}(h:y≠x):List.lookup y ((x,a)::l)=List.lookup y l:=by rw[List.lookup_cons,beq_eq_false_iff_ne.mpr h]
noncomputable abbrev lY (n:Nat):List V:=(List.range n).map fun k=>V.int ((k:Nat):Int)
section
variable {X:Cx} {pins:List (Addr×Obj)} {σ:St} {H:Hp} {s:Shared}
theorem lQ{A:Around}{r:Addr}{n:Nat}(hh:A.handled=none)(I:Inv X pins σ H s)(hr:H r=some (.dk 0 n))(h64:n < 64):pT X A s r (lY n):=fun Q E h=>by
 obtain⟨t,u,v,e⟩:=I.aS r _ hr;have hn2:Builtin.Range.rangeSize 0 (n:Int) 1=n:=by rw[rangeSize_one];split<;>lia
 have hsm:Builtin.Range.small 0 (n:Int) 1=true:=small_one (by lia) (by lia) (by lia) (by lia)
 have oS:(s.heap.push { cls:=.type "list",data:=.seq ([]:List Value).toArray }).get? s.heap.objs.size=some { cls:=.type "list",data:=.seq #[] 0 }:=Heap.get?_push_size _ rfl;unfold collect;refine wpAny_bind (wpAny_runValue (codeAny_builtin PySem.F.entry_proto_collect ?_));rw[Around.under_plainId PySem.F.plain_proto_collect _];refine wpAny_bind (m:=newList []) (wpAny_newObj_type (wpAny_pure ⟨plainId_quiet PySem.F.plain_list_iadd _,codeAny_builtin PySem.F.entry_list_iadd ?_⟩));rw[Around.under_plainId PySem.F.plain_list_iadd _];show wpAny _ A.in1 (Builtin.List.listExtendWith _ _ _) _ _ _;refine wpAny_extend_range (R:=fun r s'=>match r with | .ok (.ret v)=>wpAny (model X.prog X.w) A (match v with | .ref a=>do (match (<- load a).data with | .seq xs _=>pure xs.toList | _=>unsupported "internal:collect") | _=>unsupported "internal:collect") Q E s' | .ok _=>_ | .error e=>E e s') (s:={ s with heap:=s.heap.push { cls:=.type "list",data:=.seq ([]:List Value).toArray } }) hh (Heap.get?_push_of_some _ e) hsm hn2 (by lia) s.heap.objs.size (.ref s.heap.objs.size) 0 oS fun h' tk acc c' hk hS hI=>?_
 refine wpAny_bind (m:=load s.heap.objs.size) (wpAny_load hS (wpAny_pure (h h' tk acc.toList (fun b o e=>hk b o (Nat.ne_of_lt (Heap.lt_size e)) (Heap.get?_push_of_some _ e)) (Nat.le_of_lt (Heap.lt_size hS)) ?_)));have hv:=Y.dh (lo:=0) n acc.toList 0 (by simpa using hI.1) fun j v e=>by
  obtain⟨t,e2⟩:=hI.2 j v (by simpa using e)
  exact⟨t,by rw[e2];simp⟩
 show Vals ((List.range n).map fun k=>V.int ((k:Nat):Int)) acc.toList;rw[List.range_eq_range']
 simpa using hv
end
def uq(K:PySem.W.Frag):List V->Hp->VK->Prop:=fun vs H1 Q=>∃ l xs kz,vs=[.ref l]/\bB K H1 l xs/\kz.length=xs.length/\xs.length < 64 /\
 (∀ (i:Nat) (v:V) (k:Int),xs[i]?=some v->kz[i]?=some k->∀ H',cW H1 H'->∃ p ys,v=.ref p/\b6 K H' p (.int k::ys))/\∀ H2 D,cW H1 H2->H2 D=none->Q (.ref D) (upd H2 D (.lst (d6 kz xs)))
theorem t4{X:Cx}{e:Expr}{t:TA}{p pos kpos lpos p1 p2 p3:Pos}{cj:Nat}{x q:Str}{params:Arguments}{scope:Scope}{k:Nat}(hg:Gl X "sorted")(hm:X.mg "sorted"=none)(ha:PA X [e] t)(h1:cx e=true)(hr:bo (k+3) X.A)
  (hL:PE X (.Lambda params (.Subscript (.Name x p1) (.Constant (.int 0) cj p2) p3) scope lpos) (uz q params (.Subscript (.Name x p1) (.Constant (.int 0) cj p2) p3) scope []))
  (hsc:scope={ kind:=.function,names:=[(x,.local)],isGenerator:=false,isCoroutine:=false,more:=[] }) (hx1:(x ==("__debug__":Str))=false) (hx2:(x ==("__classdict__":Str))=false)
  (hbind:∀ c' pm ctv u,bindArgs (PySem.W.kla_fn "<lambda>" q params (.Subscript (.Name x p1) (.Constant (.int 0) cj p2) p3) scope [] pm (.ref c') ctv) ⟨[u],[]⟩=pure [(x,u)]) :
  PE X (.Call (.Name "sorted" p) [e] [⟨some "key",.Lambda params (.Subscript (.Name x p1) (.Constant (.int 0) cj p2) p3) scope lpos,kpos⟩] pos) (zr (uq X.K) t):=by
 subst hsc;have lk:∀ y,List.lookup y [(x,NameKind.local)]=if y=x then some .local else none:=fun y=>by
  by_cases z:y=x
  ·rw[if_pos z,z,gL]
  ·rw[if_neg z,eY z];rfl
 show PE X _ (mR (fun H l xs=>bB X.K H l xs) (fun v k H' _=>∃ p ys,v=.ref p/\b6 X.K H' p (.int k::ys)) (fun _=>[]) t);refine m8 (N:=[]) hg hm ha h1 hr hL (fun pins σ H s H1 l xs A I hs g _ h64=>ou I (g.same.seq hs) h64) rfl rfl rfl (fun y hy=>by rw[List.mem_singleton.mp hy];nofun) (by rw[lk,if_pos rfl]) hbind (fun _=>rfl) (fun y c z=>by cases z) (fun y z=>?_) (fun _ _ _ _ _ i y v z=>by cases z) fun A f c' s' H' σf v i hp=>?_
 ·rw[lk] at z
  split at z
  ·rcases z with z | z<;>cases z
  ·rcases z with z | z<;>cases z
 ·obtain⟨a,ys,rfl,hq⟩:=hp;refine⟨_,uu m_ (pv 0 rfl (.inl (by show List.lookup x [(x,NameKind.local)]=_;rw[lk,if_pos rfl])) hx1 hx2) i6 (Z.Gf rfl),?_⟩
  exact⟨_,rfl,a,_,0,.int i,rfl,rfl,hq,bT (j:=0) rfl,rfl,rfl⟩
def Hf(j:Nat)(σ:St):St:=[(σ[j]?).getD none]
def vH(K:PySem.W.Frag)(j:Nat)(t:TA):TE:=mR (fun H l xs=>∃ n:Nat,H l=some (.dk 0 n)/\xs=lY n) (fun v k H' σf=>∃ i q ls,v=.int i/\σf=[some (.ref q)]/\b6 K H' q ls/\bV ls i=some (.int k)) (Hf j) t
theorem vM{X:Cx}{e:Expr}{t:TA}{p pos kpos lpos p1 p2 p3:Pos}{x y q:Str}{c:Addr}{j:Nat}{params:Arguments}{scope:Scope}{k:Nat}(hg:Gl X "sorted")(hm:X.mg "sorted"=none)(ha:PA X [e] t)(h1:cx e=true)(hr:bo (k+3) X.A)
  (hL:PE X (.Lambda params (.Subscript (.Name y p1) (.Name x p2) p3) scope lpos) (uz q params (.Subscript (.Name y p1) (.Name x p2) p3) scope [(y,c)]))
  (hsc:scope={ kind:=.function,names:=[(x,.local),(y,.free)],isGenerator:=false,isCoroutine:=false,more:=[] }) (hxy:y≠x) (hx1:(x ==("__debug__":Str))=false) (hx2:(x ==("__classdict__":Str))=false) (hy1:(y ==("__debug__":Str))=false) (hy2:(y ==("__classdict__":Str))=false)
  (hj:X.N[j]?=some y) (hyc:X.env.scope.names.lookup y=some .cell) (hyl:X.env.cells.lookup y=some c)
  (hbind:∀ c' pm ctv u,bindArgs (PySem.W.kla_fn "<lambda>" q params (.Subscript (.Name y p1) (.Name x p2) p3) scope [(y,c)] pm (.ref c') ctv) ⟨[u],[]⟩=pure [(x,u)]) :
  PE X (.Call (.Name "sorted" p) [e] [⟨some "key",.Lambda params (.Subscript (.Name y p1) (.Name x p2) p3) scope lpos,kpos⟩] pos) (vH X.K j t):=by
 subst hsc;have lx:List.lookup x [(x,NameKind.local),(y,NameKind.free)]=some .local:=gL;have ly:List.lookup y [(x,NameKind.local),(y,NameKind.free)]=some .free:=by rw[eY hxy,gL]
 have lz:∀ z,z≠x->z≠y->List.lookup z [(x,NameKind.local),(y,NameKind.free)]=none:=fun z h1 h2=>by rw[eY h1,eY h2];rfl
 have lc:List.lookup y [(y,c)]=some c:=gL;have lcz:∀ z d,List.lookup z [(y,c)]=some d->z=y/\d=c:=fun z d e=>by
  by_cases h:z=y
  ·rw[h,lc] at e;cases e;exact⟨h,rfl⟩
  ·rw[eY h] at e;cases e
 refine m8 (N:=[y]) hg hm ha h1 hr hL (fun pins σ H s H1 l xs A I hs g hh h64=>?_) rfl rfl rfl (fun z hz=>?_) lx hbind (fun _=>rfl) (fun z d e=>?_) (fun z hz=>?_) (fun pins σ H s I i z v e1 e2=>?_) fun A f c' s' H' σf v i hp=>?_
 ·obtain⟨n,hs,rfl⟩:=hs;rw[List.length_map,List.length_range] at h64;exact lQ hh I (g.same _ _ hs) h64
 ·rcases List.mem_cons.mp hz with rfl | hz
  ·nofun
  ·rw[List.mem_singleton.mp hz];nofun
 ·obtain⟨rfl,rfl⟩:=lcz z d e;exact hyl
 ·by_cases z1:z=x
  ·have hz':List.lookup z [(x,NameKind.local),(y,NameKind.free)]=some .cell\/List.lookup z [(x,NameKind.local),(y,NameKind.free)]=some .free:=hz;rw[z1,lx] at hz';rcases hz' with h | h<;>cases h
  ·by_cases z2:z=y
   ·rw[z2];exact⟨c,lc⟩
   ·have hz':List.lookup z [(x,NameKind.local),(y,NameKind.free)]=some .cell\/List.lookup z [(x,NameKind.local),(y,NameKind.free)]=some .free:=hz;rw[lz z z1 z2] at hz';rcases hz' with h | h<;>cases h
 ·cases i with
  | succ i=>cases e1
  | zero =>
   have e1':some y=some z:=e1;cases e1';have e2':some ((σ[j]?).getD none)=some (some v):=e2;have e3:σ[j]?=some (some v):=by
    cases hσ:σ[j]? with
    | none=>rw[hσ] at e2';cases e2'
    | some o=>rw[hσ] at e2';exact e2'
   obtain⟨m,_,hl⟩:=I.loc;obtain⟨u,rv,lk⟩:=hl j y v hj e3 (.inr (.inl hyc));refine⟨ly,c,u,lc,?_,rv⟩;rcases lk with ⟨z,_⟩ | ⟨_,d,z1,z2⟩
   ·have z':X.env.scope.names.lookup y=some .local:=z;rw[hyc] at z';cases z'
   ·rw[hyl] at z1;cases z1;exact z2
 ·obtain⟨ix,a,ls,rfl,rfl,hq,ha'⟩:=hp;refine⟨_,uu m_ (pv 1 rfl (.inr (.inr ly)) hy1 hy2) (pv 0 rfl (.inl lx) hx1 hx2) (Z.Gf rfl),?_⟩;exact⟨_,rfl,_,rfl,a,ls,ix,.int i,rfl,rfl,hq,ha',rfl,rfl⟩
theorem gb{K:PySem.W.Frag}{H:Hp}{B:aJ}:∀ {vs:List V} {ts:List T},af K H B vs ts->Paired (Rep K H B) vs ts
 | _,_,.nil=>.nil
 | _,_,.cons h r=>.cons h (gb r)
theorem gc{K:PySem.W.Frag}{H:Hp}{B:aJ}:∀ {vs:List V} {ts:List T},Paired (Rep K H B) vs ts->af K H B vs ts
 | _,_,.nil=>.nil
 | _,_,.cons h r=>.cons h (gc r)
theorem af.d6{K:PySem.W.Frag}{H:Hp}{B:aJ}{ks:List Int}{vs:List V}{ts:List T}(r:af K H B vs ts):af K H B (L2.d6 ks vs) (L2.d6 ks ts):=gc (gQ (gb r))
theorem kY{α β:Type}{g:α->β}{ks:List Int}{l:List α}:d6 ks (l.map g)=(d6 ks l).map g:=by
 have p:∀ l:List α,Paired (fun a b=>b=g a) l (l.map g):=fun l=>by
  induction l with
  | nil=>exact .nil
  | cons a l ih=>exact .cons rfl ih
 have q:∀ {l:List α} {m:List β},Paired (fun a b=>b=g a) l m->m=l.map g:=fun {l m} h=>by
  induction h with
  | nil=>rfl
  | cons r _ ih=>rw[r,ih];rfl
 exact q (gQ (p l))
def vf:T->Option Int
 | .tup (.int k::_)=>some k
 | _=>none
namespace Y
def kK:T->Mu->(R->Mu->Prop)->Prop:=fun t μ Q=>match t with
 | .lst ts=>∃ kz:List Int,ts.map vf=kz.map some/\ts.length < 64/\Q (.fr (.lst (d6 kz ts))) μ
 | _=>False
theorem Ab{ts:List T}{kz:List Int}(h:ts.map vf=kz.map some){i:Nat}{k:Int}(e:kz[i]?=some k):∃ us,ts[i]?=some (.tup (.int k::us)):=by
 have q:=congrArg (fun l=>l[i]?) h;simp only[List.getElem?_map,e,Option.map_some] at q
 cases ht:ts[i]? with
 | none=>rw[ht] at q;cases q
 | some t =>
  rw[ht] at q;have q':vf t=some k:=Option.some.inj q;unfold vf at q'
  split at q'
  ·cases q';exact⟨_,rfl⟩
  ·cases q'
theorem uS{K:PySem.W.Frag}:RC K (uq K) (n8 kK):=dS fun F ad B σ H μ Q Qt x t hK l v1 q k=>by
 subst hK;unfold kK at q
 split at q
 ·obtain⟨kz,hk,h64,q⟩:=q
  cases v1 with
  | lst ha ra =>
   have le:=congrArg List.length hk;rw[List.length_map,List.length_map] at le;refine⟨_,_,kz,rfl,bB.of ha,by rw[ra.length,le],by rw[ra.length];exact h64,fun i v j e1 e2 H' g=>?_,fun H2 D g n=>k _ _ _ (Vr.dJ (l.same g.same) (ra.fr (Fr.same g.same)).d6 n) (fun b o e z=>⟨bC.new n b o (g.same b o e),fun y=>?_⟩) q⟩
   ·obtain⟨us,hu⟩:=Ab hk e2;obtain⟨v',e3,rp⟩:=ra.get hu;rw[e1] at e3;cases e3
    cases rp with
    | tup nb hp rr =>
     cases rr with
     | cons r0 rr =>
      cases r0;exact⟨_,_,rfl,b6.of (g.same _ _ hp)⟩
   ·rcases y with y | y
    ·subst y;rw[g.same b o e] at n;cases n
    ·exact z y
 ·exact q.elim
theorem sortI{X:Cx}{e:Expr}{us:UA}{p pos kpos lpos p1 p2 p3:Pos}{cj:Nat}{x y:Str}{c Pt:Addr}{params:Arguments}{scope:Scope}{k:Nat}(K:PySem.W.Frag)(hK:X.K=K)(hx:y∈cF)(ht:PySem.W.tabIn K y=some (c,Pt))(hcode:X.env.code=.ref c)(hq:X.env.qual=y++".<locals>.")(hdef:defaultsOf params X.env=([],[]))(hcl:closureFor scope X.env=pure [])
  (hg:Gl X "sorted") (hm:X.mg "sorted"=none) (ha:YA X [e] us) (hr:bo (k+3) X.A)
  (hsc:scope={ kind:=.function,names:=[(x,.local)],isGenerator:=false,isCoroutine:=false,more:=[] }) (hx1:(x ==("__debug__":Str))=false) (hx2:(x ==("__classdict__":Str))=false)
  (hbind:∀ c' pm ctv u,bindArgs (PySem.W.kla_fn "<lambda>" ((y++".<locals>.")++"<lambda>") params (.Subscript (.Name x p1) (.Constant (.int 0) cj p2) p3) scope [] pm (.ref c') ctv) ⟨[u],[]⟩=pure [(x,u)]) (h1:cx e=true:=by rfl) :
  YE X (.Call (.Name "sorted" p) [e] [⟨some "key",.Lambda params (.Subscript (.Name x p1) (.Constant (.int 0) cj p2) p3) scope lpos,kpos⟩] pos) (zV (n8 kK) us):=by
 subst hK;obtain⟨t,q,rr⟩:=ha;exact⟨_,⟨t4 hg hm q.h h1 hr (t9 hx ht hcode hq hdef hcl) hsc hx1 hx2 hbind⟩,u5 uS rr⟩
def ig(j:Nat)(us:UA):UE:=fun μ Q=>us μ fun rs μ1=>match rs,μ1[j]? with
 | [.tr (.dk lo hi)],some (.tr (.tup ts))=>∃ ns:List Int,ts=ns.map T.int/\lo=0/\hi=ns.length/\ns.length < 64/\Q (.fr (.lst ((d6 ns (List.range ns.length)).map fun k=>T.int ((k:Nat):Int)))) μ1
 | _,_=>False
theorem t8{K:PySem.W.Frag}{j:Nat}{t:TA}{us:UA}(ha:RA K t us):RE K (vH K j t) (ig j us):=fun F ad B σ H μ Q Qt hK l q k =>
 ha F ad B σ H μ _ _ hK l q fun vs H' rs μ' l1 ps f k1 q1=>by
  split at q1
  ·rename_i lo hi ts hμ;obtain⟨ns,rfl,rfl,rfl,h64,q⟩:=q1
   cases ps with
   | cons p0 pr =>
    cases pr;have p0':=p0
    cases p0' with
    | dk nb hp =>
     obtain⟨w,hw,rw1⟩:=l1.slot j _ hμ
     cases rw1 with
     | tup nq hq rr =>
      have ev:=bI rr;subst ev;have le:(lY ns.length).length=ns.length:=by rw[List.length_map,List.length_range]
      refine⟨_,lY ns.length,ns,rfl,⟨ns.length,hp,rfl⟩,le.symm,by rw[le];exact h64,fun i v i2 e1 e2 H2 g=>?_,fun H2 D g n=>?_⟩
      ·have hi:i < ns.length:=(List.getElem?_eq_some_iff.mp e2).1;have e3:(lY ns.length)[i]?=some (.int (i:Int)):=by simp[hi]
       rw[e3] at e1;cases e1;refine⟨_,_,_,rfl,?_,by rw[<- hK];exact b6.of (g.same _ _ hq),?_⟩
       ·show [(σ[j]?).getD none]=_;rw[hw];rfl
       ·exact bT (by rw[List.getElem?_map,e2];rfl)
      ·refine k _ _ _ _ (Vr.dJ (l1.same g.same) (?_:af F.K _ B _ ((d6 ns (List.range ns.length)).map fun k=>T.int ((k:Nat):Int))) n) (f.trans fun b o e z=>⟨bC.new n b o (g.same b o e),fun y=>?_⟩) k1 q
       ·rw[kY];exact (d6 ns (List.range ns.length)).rec .nil fun a l ih=>.cons (.int _) ih
       ·rcases y with y | y
        ·subst y;rw[g.same b o e] at n;cases n
        ·exact z y
  ·exact q1.elim
theorem D0{X:Cx}{e:Expr}{us:UA}{p pos kpos lpos p1 p2 p3:Pos}{x y z:Str}{c Pt d:Addr}{j:Nat}{params:Arguments}{scope:Scope}{k:Nat}(K:PySem.W.Frag)(hK:X.K=K)(hx:z∈cF)(ht:PySem.W.tabIn K z=some (c,Pt))(hcode:X.env.code=.ref c)(hq:X.env.qual=z++".<locals>.")(hdef:defaultsOf params X.env=([],[]))(hcl:closureFor scope X.env=pure [(y,d)])
  (hg:Gl X "sorted") (hm:X.mg "sorted"=none) (ha:YA X [e] us) (hr:bo (k+3) X.A)
  (hsc:scope={ kind:=.function,names:=[(x,.local),(y,.free)],isGenerator:=false,isCoroutine:=false,more:=[] }) (hxy:y≠x) (hx1:(x ==("__debug__":Str))=false) (hx2:(x ==("__classdict__":Str))=false) (hy1:(y ==("__debug__":Str))=false) (hy2:(y ==("__classdict__":Str))=false)
  (hj:X.N[j]?=some y) (hyc:X.env.scope.names.lookup y=some .cell) (hyl:X.env.cells.lookup y=some d)
  (hbind:∀ c' pm ctv u,bindArgs (PySem.W.kla_fn "<lambda>" ((z++".<locals>.")++"<lambda>") params (.Subscript (.Name y p1) (.Name x p2) p3) scope [(y,d)] pm (.ref c') ctv) ⟨[u],[]⟩=pure [(x,u)]) (h1:cx e=true:=by rfl) :
  YE X (.Call (.Name "sorted" p) [e] [⟨some "key",.Lambda params (.Subscript (.Name y p1) (.Name x p2) p3) scope lpos,kpos⟩] pos) (ig j us):=by
 subst hK;obtain⟨t,q,rr⟩:=ha;exact⟨_,⟨vM hg hm q.h h1 hr (t9 hx ht hcode hq hdef hcl) hsc hxy hx1 hx2 hy1 hy2 hj hyc hyl hbind⟩,t8 rr⟩
end Y
structure jG (K:PySem.W.Frag) (mg:Str->Option Value) (x:Str):Prop where
 ex:∃ c P,PySem.W.tabIn K x=some (c,P)/\∀ f cdv,wN K mg x f cdv->cdv=.ref c
theorem fm{K:PySem.W.Frag}{x:Str}{f c P:Addr}{oc oc':Value}{od od':Option Addr}{sl sl':Array (Option Value)}{fd:FuncData}{vs:Array Value}(a:PySem.W.nsIn K mainGlobals x=some (some (.ref f)))(l:K.lookup f=some ⟨oc,od,.func fd,sl⟩)(hc:fd.code=.ref c)
  (lc:K.lookup c=some ⟨oc',od',.fields vs,sl'⟩) (hv:vs[11]?=some (.ref P)):PySem.W.tabIn K x=some (c,P):=by
 unfold PySem.W.tabIn;rw[a];dsimp only;rw[l];dsimp only;rw[hc];dsimp only;rw[lc];dsimp only;rw[hv]
theorem oo{K:PySem.W.Frag}{x:Str}(a:PySem.W.nsIn K mainGlobals x=some none):PySem.W.tabIn K x=none:=by
 unfold PySem.W.tabIn;rw[a]
theorem jG.mk'{K:PySem.W.Frag}{h:Heap}{mg:Str->Option Value}{x:Str}{c P:Addr}(X:K.In h)(G:h.Ns mainGlobals mg)(ht:PySem.W.tabIn K x=some (c,P)):jG K mg x:=
 ⟨c,P,ht,fun f cdv ⟨m,o,fd,lk,hd,e⟩=>by rw[<- e];exact PySem.W.law_code X G ht m (X _ _ lk) hd⟩
theorem eZ.of{q:Program}{K:PySem.W.Frag}{o1 o2 o3:Option (Addr×Addr)}(nt:PySem.W.noTabs K=true)(t1:PySem.W.tabIn K "by_worth"=o1)(t2:PySem.W.tabIn K "by_weight"=o2)(t3:PySem.W.tabIn K "code_of"=o3)(nd:((o1.toList++(o2.toList++o3.toList)).map (·.2)).Nodup)
  (f1:o1=none\/((recsOf q).find? (fun e=>e.name ==("by_worth":Str))).isSome=true) (f2:o2=none\/((recsOf q).find? (fun e=>e.name ==("by_weight":Str))).isSome=true) (f3:o3=none\/((recsOf q).find? (fun e=>e.name ==("code_of":Str))).isSome=true):eZ q K:=by
 refine⟨nt,?_,fun x hx=>?_⟩
 ·have e:(b8 K).map (·.2.1)=(o1.toList++(o2.toList++o3.toList)).map (·.2):=by
   unfold b8 cF
   cases o1<;>cases o2<;>cases o3<;>simp[List.filterMap,t1,t2,t3]
  rw[e];exact nd
 ·unfold cF at hx;rcases List.mem_cons.mp hx with rfl | hx
  ·rw[t1];exact f1
  ·rcases List.mem_cons.mp hx with rfl | hx
   ·rw[t2];exact f2
   ·rw[List.mem_singleton.mp hx,t3];exact f3
theorem j8{prog:Program}{w:World}:∀ {ns:List Int} {us:List Value},Vals (ns.map V.int) us->(∀ i∈ns,i.natAbs < 2 ^ 32)->∃ ts:List Str,ReprAll prog w us ts/\ts.length=ns.length/\∀ t∈ts,t.length<=33
 | [],_,.nil,_=>⟨[],.nil,rfl,fun _ z=>nomatch z⟩
 | n::ns,_,.cons ⟨t,e⟩ r,h=>by
  subst e;obtain⟨ts,h1,h2,h3⟩:=j8 (prog:=prog) (w:=w) r fun i hi=>h i (List.mem_cons_of_mem _ hi);have hn:=h n (List.mem_cons_self ..);have hlog:n.natAbs.log2 < 32:=by
   by_cases z:n.natAbs=0
   ·rw[z];decide
   ·exact (Nat.log2_lt z).mpr hn
  refine⟨Str.ofString (toString n)::ts,.cons (ReprIs.int t (Nat.lt_trans hlog (by decide))) h1,by rw[List.length_cons,List.length_cons,h2],fun x hx=>?_⟩
  rcases List.mem_cons.mp hx with rfl | hx
  ·rw[PySem.ofString_length];exact int_text_length_le (by decide) hlog
  ·exact h3 x hx
theorem za:∀ {ts:List Str},(∀ t∈ts,t.length<=33)->(ts.map (·.length)).sum<=33*ts.length
 | [],_=>Nat.le_refl _
 | t::ts,h=>by
  have h1:=h t (List.mem_cons_self ..);have h2:=za fun x hx=>h x (List.mem_cons_of_mem _ hx);rw[List.map_cons,List.sum_cons,List.length_cons];lia
namespace Y
section
variable {X:Cx} {e:Expr} {vs:List Expr} {ue:UE} {u:UJ} {pos p:Pos}
def ER(ue:UE)(u:UJ):UJ:=fun μ Q=>ue μ fun r μ'=>match r with
 | .tr (.tup ts)=>∃ ns:List Int,ts=ns.map T.int/\ns.length<=50/\(∀ i∈ns,i.natAbs < 2 ^ 32)/\u μ' Q
 | _=>False
theorem GF{m:Nat}(hr:bo m X.A)(he:YE X e ue)(h:YJ X vs u)(hev:evalEach (.FormattedValue e 114 none p::vs) X.env=eval (.FormattedValue e 114 none p) X.env::evalEach vs X.env:=by rfl):YJ X (.FormattedValue e 114 none p::vs) (ER ue u):=by
 obtain⟨t,qe,r⟩:=he;refine⟨fun F ad B σ H μ Qt pins s acc k R hF l q I ha hk hR=>?_⟩;rw[hev];refine wpAny_FormattedValue_repr ?_;refine bJ (qe.h pins s σ H (fun v H1=>∃ r1 μ1,Vr F ad B σ H1 μ1 v r1/\Fr B H (Bv B v r1) H1/\Kp μ μ1/\(match r1 with
  | .tr (.tup ts)=>∃ ns:List Int,ts=ns.map T.int/\ns.length<=50/\(∀ i∈ns,i.natAbs < 2 ^ 32)/\u μ1 Qt
  | _=>False)) I (r F ad B σ H μ _ _ hF l q fun v H1 r1 μ1 w f k1 q1=>⟨r1,μ1,w,f,k1,q1⟩)) fun v s1 ⟨v',H1,I1,rv,r1,μ1,w,f,k1,q1⟩=>?_
 split at q1
 ·obtain⟨ns,rfl,hn,hi,q1⟩:=q1;obtain⟨l1,rp⟩:=w;have rp':Rep F.K H1 B v' (.tup (ns.map T.int)):=rp
  cases rp' with
  | tup nb hp rr =>
   cases rv;have ev:=bI rr;obtain⟨its,vv,pl,hz⟩:=I1.tuple (b6.of (K:=X.K) hp);rw[ev] at vv;obtain⟨ts,g1,g2,g3⟩:=j8 (prog:=X.prog) (w:=X.w) vv hi;have hlen:(tupleText ts).length<=1800:=by
    have a1:=tupleText_len_le ts;have a2:=za g3;lia
   obtain⟨o,ho,hc,n,hd⟩:=pl;refine wpAny_pyReprObj_tuple ⟨o,ho,hc⟩ hr.gd (fun c z=>nomatch z) hr.Bt ho hd (by simpa using g1) (fun tu tk=>?_) (d5 (by lia))
   have fin:∀ (s3:Shared) (t3:Tok),Inv X pins σ H1 s3->∃ y t,(Value.str (tupleText ts) t3)=.str y t/\(acc++y).length<=sizeLine/\Joins (model X.prog X.w) X.A X.xe (evalEach vs X.env) (acc++y) R s3:=fun s3 t3 J=>by
    rw[List.length_cons] at hk;refine⟨_,_,rfl,by rw[dI];exact d5 (by lia),?_⟩
    exact h.run F ad B σ H1 μ1 Qt pins s3 (acc++tupleText ts) (k+1) R hF l1 q1 J (by rw[dI];lia) (by lia) fun H' μ' s' out l' f' k'=>hR H' μ' s' out l' (f.trans f') (k1.trans k')
   exact wpAny_formatField_str (fin _ _ (I1.tok _)) (fin _ _ (I1.tok _)) (d5 (by lia))
 ·exact q1.elim
end
def pZ:V->List V->Hp->VK->Prop:=fun x vs H Q=>∃ z y,x=.str z/\vs=[.str y]/\z.length<=sizeLine/\Q (.str (Txt.rstripChars z y)) H
theorem rZ{X:Cx}:oR X "str.rstrip" pZ:=by
 intro pins s σ H x xs v us Q I rx rs h;obtain⟨z,y,rfl,rfl,hz,q⟩:=h;obtain⟨t,rfl⟩:=rx;obtain⟨u,rfl,k,rfl⟩:=vals1 rs;exact SC.rstripChars (fun t' k=>⟨.str _,H,I.tok _,⟨_,rfl⟩,q⟩) hz
def kE:wY:=fun z rs μ Q=>match rs with
 | [.tr (.str y)]=>z.length<=1000/\Q (.tr (.str (Txt.rstripChars z y))) μ
 | _=>False
theorem rR{K:PySem.W.Frag}:C7 K pZ kE:=by
 intro F ad B σ H μ Q Qt z xs rs hF l ps q k;unfold kE at q
 split at q
 ·cases ps with
  | cons h ps =>
   cases ps
   cases aW h
   exact⟨z,_,rfl,rfl,d5 (Nat.le_trans q.1 (by decide)),k _ H _ μ (Vr.flat l (.str _)) Fr.refl (Kp.refl μ) q.2⟩
 ·exact q.elim
def vz:V->List V->Hp->VK->Prop:=fun x vs H Q=>∃ z i y,x=.str z/\vs=[.int i,.str y]/\0<=i/\i < 1000/\y.length=1/\Q (.str (Txt.ljustF z i (y.cps.getD 0 0))) H
theorem wg{X:Cx}:oR X "str.ljust" vz:=by
 intro pins s σ H x xs v us Q I rx rs h;obtain⟨z,i,y,rfl,rfl,h0,h1,hy,q⟩:=h;obtain⟨t,rfl⟩:=rx;obtain⟨u1,u2,rfl,⟨t1,rfl⟩,⟨t2,rfl⟩⟩:=vals2 rs;exact ljust_fill (padOk_of (by lia) (by lia)) hy fun t' k=>⟨.str _,H,I.tok _,⟨_,rfl⟩,q⟩
def nc:wY:=fun z rs μ Q=>match rs with
 | [.tr (.int i),.tr (.str y)]=>0<=i/\i < 1000/\y.length=1/\Q (.tr (.str (Txt.ljustF z i (y.cps.getD 0 0)))) μ
 | _=>False
theorem tV{K:PySem.W.Frag}:C7 K vz nc:=by
 intro F ad B σ H μ Q Qt z xs rs hF l ps q k;unfold nc at q
 split at q
 ·cases ps with
  | cons h ps =>
   cases ps with
   | cons h2 ps =>
    cases ps
    cases aW h
    cases aW h2
    exact⟨z,_,_,rfl,rfl,q.1,q.2.1,q.2.2.1,k _ H _ μ (Vr.flat l (.str _)) Fr.refl (Kp.refl μ) q.2.2.2⟩
 ·exact q.elim
end Y
theorem ah.calm{P:Program}{w:World}{K:PySem.W.Frag}{mg:Str->Option Value}{base:Heap}{k:Nat}{x:Str}{ps:List Str}{md:List Bool}{tsx:vx}{tsp:fL}(F:ah P w K mg base (nS P w) k x ps (u_ K md tsx))(h:∀ args Q,tsp args Q->tsx args Q fun _=>False):ah P w K mg base cw k x ps (spT K md tsp):=by
 obtain⟨f,fd,m,kp,b,G⟩:=F.ex;have to:∀ vs H Q E,spT K md tsp vs H Q E->u_ K md tsx vs H Q (fun _ _ _=>False):=fun vs H Q E ⟨B,args,Qt,ag,bh,nd,ht,fin⟩=>⟨fun _=>False,⟨B,args,Qt,ag,bh,nd,h _ _ ht,fin⟩,fun x cls d e H' z=>z.elim⟩;refine⟨f,fd,m,kp,b,⟨fun vs H Q E q=>G.len vs H Q _ (to _ _ _ _ q),fun A outer s H args us vs Q E hr e0 hb r q=>codeAny_mono (G.run A outer s H args us vs Q _ hr e0 hb r (to _ _ _ _ q)) fun r s' hq=>?_⟩⟩
 cases r with
 | error e =>
  obtain⟨_,_,_,_,_,_,_,_,_,_,_,_,_,_,_,_,z⟩:=hq;exact z.elim
 | ok fl=>cases fl<;>exact hq
theorem lJ(x y:Str):(Txt.rstripChars x y).cps.toList.reverse=x.cps.toList.reverse.dropWhile y.cps.contains:=by
 have key:∀ (p:Nat->Bool) (l:List Nat),(l.take (l.length - (l.reverse.takeWhile p).length)).reverse=l.reverse.dropWhile p:=fun p l=>by
  have h:(l.reverse.takeWhile p).length<=l.length:=by simpa using (List.takeWhile_sublist p (l:=l.reverse)).length_le
  rw[List.reverse_take,<- oJ];congr 1;lia
 have hl:x.length=x.cps.toList.length:=by rw[Array.length_toList];rfl
 rw[<- key];unfold Txt.rstripChars Txt.stripBy;split
 ·rename_i h;unfold stripSame at h;rw[Bool.and_eq_true] at h;have h2:x.length - (x.cps.toList.reverse.takeWhile y.cps.contains).length=x.length:=by simpa[stripLo,stripHi] using h.2
  rw[<- hl,h2,hl,List.take_length]
 ·have e:∀ (a:Array Nat) (j:Nat),(a.extract 0 j).toList=a.toList.take j:=fun a j=>by simp
  have e2:=e x.cps (x.length - (x.cps.toList.reverse.takeWhile y.cps.contains).length);rw[hl] at e2;exact congrArg List.reverse e2
namespace A
theorem ig(j:Nat)(us:UA)(μ:Mu)(Q:R->Mu->Prop):Y.ig j us μ Q=us μ fun rs μ1=>match rs,μ1[j]? with
 | [.tr (.dk lo hi)],some (.tr (.tup ts))=>∃ ns:List Int,ts=ns.map T.int/\lo=0/\hi=ns.length/\ns.length < 64/\Q (.fr (.lst ((d6 ns (List.range ns.length)).map fun k=>T.int ((k:Nat):Int)))) μ1
 | _,_=>False:=rfl
theorem xY(ts:List T)(μ:Mu)(Q:R->Mu->Prop):Y.kK (.lst ts) μ Q=(∃ kz:List Int,ts.map vf=kz.map some/\ts.length < 64/\Q (.fr (.lst (d6 kz ts))) μ):=rfl
theorem ER(ue:UE)(u:UJ)(μ:Mu)(Q:Mu->Prop):Y.ER ue u μ Q=ue μ fun r μ'=>match r with
 | .tr (.tup ts)=>∃ ns:List Int,ts=ns.map T.int/\ns.length<=50/\(∀ i∈ns,i.natAbs < 2 ^ 32)/\u μ' Q
 | _=>False:=rfl
theorem sG(z y:Str)(μ:Mu)(Q:R->Mu->Prop):Y.kE z [.tr (.str y)] μ Q=(z.length<=1000/\Q (.tr (.str (Txt.rstripChars z y))) μ):=rfl
theorem yp(z:Str)(i:Int)(y:Str)(μ:Mu)(Q:R->Mu->Prop):Y.nc z [.tr (.int i),.tr (.str y)] μ Q=(0<=i/\i < 1000/\y.length=1/\Q (.tr (.str (Txt.ljustF z i (y.cps.getD 0 0)))) μ):=rfl
end A
namespace Y
def zO:R2:=fun x y H Q=>∃ (c:Nat) (k:Int),x=.str ⟨#[c]⟩/\y=.int k/\0<=k/\k<=1000/\Q (.str ⟨(List.replicate k.toNat c).toArray⟩) H
theorem y3{X:Cx}:cO X (binaryOp .Mult) zO:=by
 intro pins s σ H x y v u Q I rx ry h;obtain⟨c,k,rfl,rfl,h0,h1,q⟩:=h;obtain⟨t,rfl⟩:=rx;obtain⟨t2,rfl⟩:=ry;have e:Txt.mul ⟨#[c]⟩ k=⟨(List.replicate k.toNat c).toArray⟩:=by
  have:=mul_one_list c k
  cases hz:Txt.mul ⟨#[c]⟩ k with
  | mk a=>rw[hz] at this;rw[<- this,Array.toArray_toList]
 have ok:MulOk ⟨#[c]⟩ k:=by
  refine⟨by simp only[Bool.or_eq_false_iff,decide_eq_false_iff_not];lia,fun z _=>?_,fun z _=>?_⟩
  ·have hl:((⟨#[c]⟩:Str).length:Int)=1:=rfl;rw[hl];have:1<=(2 ^ 63 - 1) / k:=by
    rw[Int.le_ediv_iff_mul_le (by lia)];lia
   lia
  ·have hl:(⟨#[c]⟩:Str).length=1:=rfl;rw[hl,Nat.one_mul];exact decide_eq_false (Nat.not_lt.mpr (Nat.le_trans (show k.toNat<=1000 by lia) (by decide)))
 exact SB.mul ok fun t' j=>⟨.str _,H,I.tok _,⟨t',by rw[e]⟩,q⟩
def uV:U2:=fun r1 r2 μ Q=>match cont μ r1,cont μ r2 with
 | some (.str z),some (.int k)=>∃ c:Nat,z=⟨#[c]⟩/\0<=k/\k<=1000/\Q (.tr (.str ⟨(List.replicate k.toNat c).toArray⟩)) μ
 | _,_=>False
theorem yE{K:PySem.W.Frag}:iR K zO uV:=by
 intro F ad B σ H μ Q Qt x y r1 r2 hK l h1 h2 q k;unfold uV at q
 split at q
 ·rename_i z j e1 e2;obtain⟨c,rfl,g0,g1,q⟩:=q;have v1:=Hv.vw l h1 e1;have v2:=Hv.vw l h2 e2;cases v1;cases v2;exact⟨c,j,rfl,rfl,g0,g1,k _ H _ μ (Vr.flat l (.str _)) Fr.refl (Kp.refl μ) q⟩
 ·exact q.elim
end Y
namespace A
theorem Bp(z:Str)(k:Int)(μ:Mu)(Q:R->Mu->Prop):Y.uV (.tr (.str z)) (.tr (.int k)) μ Q=(∃ c:Nat,z=⟨#[c]⟩/\0<=k/\k<=1000/\Q (.tr (.str ⟨(List.replicate k.toNat c).toArray⟩)) μ):=rfl
end A
namespace Y
section
variable {X:Cx} {e:Expr} {ue:UE} {pos p:Pos} {x:Str} {k:Nat} {ps:List Str} {tsp:fL} {E:XK}
end
end Y
namespace A
end A
theorem lE:∀ {ns:List Int} {us:List Value} (r:Vals (ns.map V.int) us) (k:Int),us.countP (fun v=>match v with | .int j _=>j == k | _=>false)=ns.count k
 | [],_,.nil,k=>rfl
 | n::ns,_,.cons r t,k=>by
  obtain⟨u,rfl⟩:=r;rw[List.countP_cons,lE t k,List.count_cons]
theorem mI:∀ {ns:List Int} {us:List Value} (r:Vals (ns.map V.int) us),∀ y∈us,∃ j t,y=.int j t
 | [],_,.nil,y,h=>by cases h
 | n::ns,_,.cons r t,y,h=>by
  obtain⟨u,rfl⟩:=r;rcases List.mem_cons.mp h with e | e
  ·exact⟨_,_,e⟩
  ·exact mI t y e
namespace Y
def CF:V->List V->Hp->VK->Prop:=fun x vs H Q=>∃ (a:Addr) (ns:List Int) (k:Int),x=.ref a/\H a=some (.lst (ns.map V.int))/\vs=[.int k]/\Q (.int (ns.count k:Nat)) H
theorem An{X:Cx}:E_ X "list.count" CF:=by
 intro pins s σ H x xs v us Q I rx rs h;obtain⟨a,ns,k,rfl,hH,rfl,q⟩:=h;cases rx;obtain⟨u,rfl,t,rfl⟩:=vals1 rs;obtain⟨z,its,n,r,hl,e⟩:=I.mM hH;refine call_meets PySem.F.slot_list_count ⟨_,e,rfl⟩ PySem.F.entry_list_count (PySem.F.args_list_count_2 _ _) (SeqAt.list_countAt a its.toArray n none _ (.int k t) (fun v=>match v with | .int j _=>j == k | _=>false)) ⟨e,fun y hy=>?_,⟨.int _,H,I.tok _,⟨_,rfl⟩,?_⟩⟩
 ·obtain⟨j,u,rfl⟩:=mI r y (by simpa using hy)
  exact SeqAt.EqAt.int_int _ _ _ _
 ·show Q (.int (((its.toArray).toList.countP _:Nat):Int)) H;rw[lE r k];exact q
def uZ:UM:=fun j rs μ Q=>match rs with
 | [.tr (.int k)]=>(match (μ[j]?).bind Sl.box with
  | some (.lst ts)=>∃ ns:List Int,ts=ns.map T.int/\Q (.tr (.int (ns.count k:Nat))) μ
  | _=>False)
 | _=>False
theorem AL{K:PySem.W.Frag}:RM K CF uZ:=by
 intro F ad B σ H μ Q Qt j s c xs rs hF l e b ps q k;unfold uZ at q
 split at q
 ·rename_i z
  cases ps with
  | cons h ps =>
   cases ps;rw[e] at q
   cases aW h
   have q':(match s.box with | some (.lst ts)=>∃ ns:List Int,ts=ns.map T.int/\Qt (.tr (.int (ns.count z:Nat))) μ | _=>False):=q
   rw[b] at q';rcases ((l.slot j s e).boxed b).2.2.1.is with ⟨ts,vs,rfl,hl,rv⟩ | ⟨_,_,_,rfl,_⟩
   case inr=>exact q'.elim
   simp only at q';obtain⟨ns,rfl,q2⟩:=q';rw[Y.bI rv] at hl;exact⟨_,ns,z,rfl,hl,rfl,k _ H _ μ (Vr.flat l (.int _)) Fr.refl (Kp.refl μ) q2⟩
 ·exact q.elim
def DB:V->List V->Hp->VK->Prop:=fun x vs H Q=>∃ l b xs ys,x=.ref l/\vs=[.ref b]/\b≠l/\H l=some (.lst xs)/\H b=some (.lst ys)/\xs.length+ys.length<=sizeLine/\Q .aI (upd H l (.lst (xs++ys)))
theorem Ak{X:Cx}:E_ X "list.extend" DB:=by
 intro pins s σ H x vs v us Q I rx rv h;obtain⟨l,b,xs,ys,rfl,rfl,hne,hH,hb,hz,q⟩:=h;cases rx;obtain⟨u,rfl,ru⟩:=vals1 rv;cases ru;obtain⟨z,its,n,r,hl,e⟩:=I.mM hH;obtain⟨z2,its2,n2,r2,hl2,e2⟩:=I.mM hb;have hsz:its.toArray.size+its2.toArray.size<=sizeLine:=by rw[List.size_toArray,List.size_toArray];lia
 refine call_meets F.slot_list_extend ⟨_,e,rfl⟩ F.entry_list_extend (F.args_list_extend_2 _ _) (AutoSeq1.list_extend_list_list_0 l its.toArray n b its2.toArray n2 (extend_door hsz) (by lia) (by lia)) ⟨e,e2,?_⟩
 refine⟨.aI,_,I.Bu (its':=its++its2) hH e ?_ (r.append r2) (by rw[List.length_append];exact hz),rfl,q⟩
 apply Array.toList_inj.mp;simp
def tZ:UM:=fun j rs μ Q=>match rs with
 | [.tr (.lst us)]=>(match (μ[j]?).bind Sl.box with
  | some (.lst ts)=>ts.length+us.length<=sizeLine/\Q (.tr .aI) (cN μ j (.lst (ts++us)))
  | _=>False)
 | _=>False
theorem zW{K:PySem.W.Frag}:RM K DB tZ:=by
 intro F ad B σ H μ Q Qt j s c xs rs hF l e b ps q k;unfold tZ at q
 split at q
 ·rename_i us
  cases ps with
  | cons h1 ps =>
   cases ps;have rt:=aW h1;rw[e] at q;have q':(match s.box with | some (.lst ts)=>ts.length+us.length<=sizeLine/\Qt (.tr .aI) (cN μ j (.lst (ts++us))) | _=>False):=q
   rw[b] at q';rcases ((l.slot j s e).boxed b).2.2.1.is with ⟨ts,vs,rfl,hl,rv⟩ | ⟨_,_,_,rfl,_⟩
   case inr=>exact q'.elim
   obtain⟨hz,q2⟩:=(show ts.length+us.length<=sizeLine/\_ from q');have hB:=((l.slot j s e).boxed b).2.1
   cases rt with
   | lst nb hb r2 =>
    rename_i a2 vs2;refine⟨_,a2,vs,vs2,rfl,rfl,fun z=>nb (z ▸ hB),hl,hb,by rw[rv.length,r2.length];exact hz,?_⟩
    have l3:=l.put e b (rv.append r2);unfold cN at q2;rw[e] at q2;exact k _ _ (.tr .aI) _ (Vr.flat l3 .aI) (Fr.set hB) (Kp.set e b (Sl.gI b)) q2
 ·exact q.elim
end Y
def xj{α:Type}:Bool->List α->List α
 | _,[]=>[]
 | true,x::r=>x::xj false r
 | false,_::r=>xj true r
def iS{α:Type}(l:List α):List α:=xj true l
theorem wW{α:Type}(ys:List α):∀ b,(xj b ys).length<=ys.length:=by
 induction ys with
 | nil=>exact fun b=>by cases b<;>exact Nat.le_refl _
 | cons y r ih =>
  intro b
  cases b with
  | true=>exact Nat.succ_le_succ (ih false)
  | false=>exact Nat.le_succ_of_le (ih true)
theorem xC{α:Type}(ys:List α):(iS ys).length<=ys.length:=wW ys true
theorem Vals.iS{xs:List V}{us:List Value}(h:Vals xs us):Vals (iS xs) (iS us):=by
 have k:∀ b,Vals (xj b xs) (xj b us):=by
  induction h with
  | nil=>exact fun b=>by cases b<;>exact .nil
  | cons h _ ih =>
   intro b
   cases b with
   | true=>exact .cons h (ih false)
   | false=>exact ih true
 exact k true
theorem af.iS{K:PySem.W.Frag}{H:Hp}{B:aJ}{xs:List V}{us:List T}(h:af K H B xs us):af K H B (iS xs) (iS us):=by
 have k:∀ b,af K H B (xj b xs) (xj b us):=by
  induction xs generalizing us with
  | nil=>cases h;exact fun b=>by cases b<;>exact .nil
  | cons x xs ih =>
   cases h with
   | cons h r =>
    intro b
    cases b with
    | true=>exact .cons h (ih r false)
    | false=>exact ih r true
 exact k true
theorem wA{α:Type}(xs:List α)(n m:Nat)(h:(xs.length - m+1) / 2=n):((List.range n).map fun k=>m+2*k).filterMap (fun i=>xs[i]?)=iS (xs.drop m):=by
 induction n generalizing m with
 | zero=>rw[List.drop_of_length_le (by lia)];rfl
 | succ n ih =>
  have hm:m < xs.length:=by lia
  have h2:(xs.length - (m+2)+1) / 2=n:=by lia
  rw[List.range_succ_eq_map,List.map_cons,List.filterMap_cons];show (match xs[m]? with | none=>_ | some b=>_)=_
  rw[List.getElem?_eq_getElem hm];have e2:iS (xs.drop m)=xs[m]::iS (xs.drop (m+2)):=by
   rw[List.drop_eq_getElem_cons hm];show xs[m]::xj false (xs.drop (m+1))=_;congr 1;rw[<- List.drop_drop (i:=1) (j:=m+1)];generalize xs.drop (m+1)=z
   cases z<;>rfl
  rw[e2,<- ih (m+2) h2,List.map_map];show xs[m]::_=xs[m]::_;congr 2;exact List.map_congr_left fun k _=>by show m+2*(k+1)=m+2+2*k;rw[Nat.mul_succ,Nat.add_comm (2*k),Nat.add_assoc]
theorem vq(items:Array Value)(m:Nat):slicePick items (some (m:Int)) none (some 2)=(iS (items.toList.drop m)).toArray:=by
 unfold slicePick;have hb:sliceBounds (some (m:Int)) none (some 2) items.size=(((min m items.size:Nat):Int),(items.size:Int),2):=by
  unfold sliceBounds;simp only[Option.getD_some];rw[if_neg (show ¬ (m:Int) < 0 by lia)]
  simp only[show (2:Int) > 0 by decide,if_true]
  congr 1;lia
 rw[hb];show ((sliceRange ((min m items.size:Nat):Int) (items.size:Int) 2).filterMap (items[·]?)).toArray=_;congr 1;have el:items.toList.length=items.size:=Array.length_toList;unfold sliceRange;simp only[show (2:Int) > 0 by decide,if_true]
 have ec:(if ((min m items.size:Nat):Int) < (items.size:Int) then ((items.size:Int) - ((min m items.size:Nat):Int)+2 - 1) / 2 else 0).toNat=(items.size - m+1) / 2:=by
  split<;>lia
 rw[ec,<- wA items.toList _ m (by rw[el])]
 have ei:(fun i:Nat=>items[i]?)=fun i=>items.toList[i]?:=funext fun i=>(Array.getElem?_toList).symm;rw[ei];congr 1;refine List.map_congr_left fun k hk=>?_;have hk':=List.mem_range.mp hk;lia
section
variable {X:Cx} {e:Expr} {te:TE}
def FU(K:PySem.W.Frag)(m:Nat)(te:TE):TE:=fun σ H Q=>te σ H fun x H1=>∃ a xs,x=V.ref a/\bB K H1 a xs/\∀ p,H1 p=none->Q (.ref p) (upd H1 p (.lst (iS (xs.drop m))))
theorem BJ{i:Int}{m j j2:Nat}{pos p1 p2 p3:Pos}(hi:i=(m:Int))(he:PE X e te):PE X (.Subscript e (.Slice (some (.Constant (.int i) j p1)) none (some (.Constant (.int 2) j2 p3)) p2) pos) (FU X.K m te):=by
 subst hi;intro pins s σ H Q I h;refine Subscript_ (bJ (he pins s σ H _ I h) fun v s1 ⟨x,H1,I1,r1,q1⟩=>?_);refine wpAny_Slice (bJ (kP i6 pins s1 σ H1 (fun o H2=>o=some (m:Int)/\H2=H1) I1 ⟨_,rfl,rfl,rfl⟩) fun vl s2 ⟨l,H2,I2,pl,el,eh⟩=>?_);subst el eh;refine bJ (pF pins s2 σ H2 (fun o H3=>o=none/\H3=H2) I2 ⟨rfl,rfl⟩) fun vu s3 ⟨u,H3,I3,pu,eu,eh⟩=>?_;subst eu eh;refine bJ (kP i6 pins s3 σ H3 (fun o H4=>o=some 2/\H4=H3) I3 ⟨_,rfl,rfl,rfl⟩) fun vk s4 ⟨k,H4,I4,pk,ek,eh⟩=>?_;subst ek eh;obtain⟨a,xs,rfl,hx,q⟩:=q1;cases r1;have I5:Inv X pins σ H4 { s4 with heap:=s4.heap.push { cls:=.type "slice",data:=.fields #[vl,vu,vk] } }:=I4.kept (t':=s4.toks) fun b ob q=>Heap.get?_push_of_some _ q
 obtain⟨its,r,ht,hz⟩:=I5.list hx;have hlen:=r.length;have hg:wpAny (model X.prog X.w) X.A (getItem (.ref a) (.ref s4.heap.objs.size)) (EP X pins σ Q) X.xe { s4 with heap:=s4.heap.push { cls:=.type "slice",data:=.fields #[vl,vu,vk] } }:=by
  refine wpAny_getItem_list_slice ht.isList (Heap.IsSliceOf.new ..) pl pu pk (by simp) ?_ (by rw[List.size_toArray]<;>lia)
  rw[vq];refine⟨.ref _,_,I5.laid (t':=s4.toks) (o:=.lst (iS (xs.drop m))) (fun b ob q=>Heap.get?_push_of_some _ q) (Nat.le_refl _) ?_,rfl,q _ (I5.aS.fresh (Nat.le_refl _))⟩;refine⟨by have:=xC (xs.drop m);rw[List.length_drop] at this;lia,iS (its.drop m),0,Vals.iS (r.drop m),?_⟩
  exact Heap.get?_push_size _ rfl
 show wpAny (model X.prog X.w) X.A (subscriptTail e (.Slice (some (.Constant (.int (m:Int)) j p1)) none (some (.Constant (.int 2) j2 p3)) p2) (.ref a) (.ref s4.heap.objs.size)) (EP X pins σ Q) X.xe { s4 with heap:=s4.heap.push { cls:=.type "slice",data:=.fields #[vl,vu,vk] } }
 exact tail_any (ops:=[.ref a,.ref s4.heap.objs.size]) ht.isList.typeIs slot_list_getitem.lookup hg (by with_unfolding_all rfl)
end
namespace Y
def x6(m:Nat)(o:Option T):Option (Prop×R):=match o with
 | some (.lst xs)=>some (True,.fr (.lst (iS (xs.drop m))))
 | _=>none
def xv(m:Nat)(ue:UE):UE:=fun μ Q=>ue μ fun r μ'=>stp (x6 m (cont μ' r.d)) fun r=>Q r μ'
theorem dQ{X:Cx}{e:Expr}{ue:UE}(K:PySem.W.Frag)(hK:X.K=K)(m:Nat){i:Int}(hi:i=(m:Int)){j j2:Nat}{pos p1 p2 p3:Pos}(he:YE X e ue):YE X (.Subscript e (.Slice (some (.Constant (.int i) j p1)) none (some (.Constant (.int 2) j2 p3)) p2) pos) (xv m ue):=by
 obtain⟨t,q,r⟩:=he;subst hK;refine⟨_,⟨BJ hi q.h⟩,fun F ad B σ H μ Q Qt hF l q k=>r F ad B σ H μ _ _ hF l q fun v H1 r1 μ1 v1 f1 k1 q1=>?_⟩;have w:=fun t (e:cont μ1 r1.d=some t)=>v1.hv.vw v1.rl e;revert q1 w;unfold x6
 cases cont μ1 r1.d with
 | none=>exact fun q1 _=>q1.elim
 | some t =>
  intro q1 w;have w:=w t rfl;rw[hF] at w
  cases w with
  | lst ha ra=>exact⟨_,_,rfl,bB.of ha,fun p hp=>k _ _ _ μ1 (Vr.dJ v1.rl (by rw[hF];exact af.iS (ra.drop m)) hp) (f1.d.trans (Fr.more hp)) k1 q1.2⟩
  | _=>exact q1.elim
end Y
namespace A
theorem uZ(j:Nat)(k:Int)(μ:Mu)(Q:R->Mu->Prop):Y.uZ j [.tr (.int k)] μ Q=(match (μ[j]?).bind Sl.box with
  | some (.lst ts)=>∃ ns:List Int,ts=ns.map T.int/\Q (.tr (.int (ns.count k:Nat))) μ
  | _=>False):=rfl
theorem tZ(j:Nat)(us:List T)(μ:Mu)(Q:R->Mu->Prop):Y.tZ j [.tr (.lst us)] μ Q=(match (μ[j]?).bind Sl.box with
  | some (.lst ts)=>ts.length+us.length<=sizeLine/\Q (.tr .aI) (cN μ j (.lst (ts++us)))
  | _=>False):=rfl
theorem xv(m:Nat)(ue:UE)(μ:Mu)(Q:R->Mu->Prop):Y.xv m ue μ Q=ue μ fun r μ'=>stp (Y.x6 m (cont μ' r.d)) fun r=>Q r μ':=rfl
theorem CO(m:Nat)(xs:List T):Y.x6 m (some (.lst xs))=some (True,.fr (.lst (iS (xs.drop m)))):=rfl
end A
namespace Y
section
variable {prog:Program} {w:World} {A:Around} {E:Value->Shared->Prop} {s:Shared}
end
def sO(K:PySem.W.Frag):List V->Hp->VK->Prop:=fun xs H Q=>vy K xs H Q\/∃ p ns,xs=[.ref p]/\bB K H p (ns.map V.int)/\ns.length < 64/\∀ ns':List Int,ns'.Perm ns->ns'.Pairwise (·<=·)->∀ l,H l=none->Q (.ref l) (upd H l (.lst (ns'.map V.int)))
theorem mX{X:Cx}(K:PySem.W.Frag)(hK:X.K=K):aL X (.builtin "sorted") (sO K):=by
 refine (jE K hK).or ?_;subst hK;intro pins s σ H xs us Q I r h;obtain⟨p,ns,rfl,hq,h64,q⟩:=h;obtain⟨u,rfl,ru⟩:=vals1 r;cases ru;obtain⟨its,rv,pl,hz⟩:=I.list hq;have hi:=intsAre_of rv;refine sorted_ints pl.isList hi (by rw[dO hi];exact h64) fun out ns' a1 a2 a3=>?_
 obtain⟨e,he⟩:=sortedAll_at s.heap its out;refine⟨.ref (s.heap.objs.size+1),_,I.laid (t':=s.toks) (fun b ob q=>sortedAll_old q) (Nat.le_succ _) (show b7 X.prog X.w _ _ _ (.lst (ns'.map V.int)) from⟨?_,out.toList,e,dD a1,by simpa using he⟩),rfl,q ns' a2 a3 _ (I.aS.fresh (Nat.le_succ _))⟩
 rw[List.length_map,a2.length_eq];exact Nat.le_trans (Nat.le_of_lt h64) (by decide)
def uF:T->Mu->(R->Mu->Prop)->Prop:=fun t μ Q=>match t with
 | .tup xs=>∃ ns:List Int,xs=ns.map T.int/\ns.length < 64/\∀ ns':List Int,ns'.Perm ns->ns'.Pairwise (·<=·)->Q (.fr (.lst (ns'.map T.int))) μ
 | .lst xs=>∃ ns:List Int,xs=ns.map T.int/\ns.length < 64/\∀ ns':List Int,ns'.Perm ns->ns'.Pairwise (·<=·)->Q (.fr (.lst (ns'.map T.int))) μ
 | _=>False
theorem wH{K:PySem.W.Frag}:RC K (sO K) (n8 uF):=dS fun F ad B σ H μ Q Qt x t hK l v1 q k=>by
 subst hK
 cases v1 with
 | tup ha ra =>
  obtain⟨ns,rfl,h64,q⟩:=q;exact .inl ⟨_,ns,rfl,by rw[<- Y.bI ra];exact b6.of ha,h64,fun ns' a2 a3 p hp=>k _ _ _ (Vr.dJ l (cA _) hp) (Fr.more hp) (q ns' a2 a3)⟩
 | lst ha ra =>
  obtain⟨ns,rfl,h64,q⟩:=q;exact .inr ⟨_,ns,rfl,by rw[<- Y.bI ra];exact bB.of ha,h64,fun ns' a2 a3 p hp=>k _ _ _ (Vr.dJ l (cA _) hp) (Fr.more hp) (q ns' a2 a3)⟩
 | _=>exact q.elim
end Y
namespace A
end A
section
variable {prog:Program} {w:World} {A:Around} {E:Value->Shared->Prop} {s:Shared}
end
section
variable {X:Cx} {a b:Expr} {rest:List Expr} {pos:Pos} {ta tb:TE}
end
namespace Y
end Y
namespace A
end A
namespace Y
def C_:V->List V->Hp->VK->Prop:=fun x vs H Q=>∃ a:Int,x=.int a/\vs=[]/\Q (.int (Builtin.Int.intBits a:Nat)) H
theorem xb{X:Cx}:oR X "int.bit_length" C_:=by
 intro pins s σ H x xs v us Q I rx rs h;obtain⟨a,rfl,rfl,q⟩:=h;obtain⟨t,rfl⟩:=rx;cases rs;exact call_int_bit_length ⟨.int _,H,I.tok _,⟨_,rfl⟩,q⟩
def oG(uo:UE):UE:=fun μ Q=>uo μ fun r μ1=>match r with
 | .tr (.int a)=>Q (.tr (.int (Builtin.Int.intBits a:Nat))) μ1
 | _=>False
theorem bits{X:Cx}{o:Expr}{uo:UE}{apos pos:Pos}(ho:YE X o uo)(hbase:attributeBase o "bit_length" X.env (eval o X.env)=eval o X.env:=by rfl)(hline:(apos.endLine == pos.line)=true:=by rfl):YE X (.Call (.Attribute o "bit_length" apos) [] [] pos) (oG uo):=by
 obtain⟨t,q,rr⟩:=ho;refine⟨_,⟨A2 PySem.F.plainAttrs_int PySem.F.slot_int_bit_length PySem.F.type_int_bit_length xb q.h hbase hline⟩,fun F ad B σ H μ Q Qt hF l q k=>rr F ad B σ H μ _ _ hF l q fun v H1 r1 μ1 v1 f1 k1 q1=>?_⟩
 split at q1
 ·have rp:=v1.2;cases rp;exact⟨rfl,_,rfl,rfl,k _ H1 _ μ1 (Vr.flat v1.rl (.int _)) f1.d k1 q1⟩
 ·exact q1.elim
end Y
namespace A
theorem oG(uo:UE)(μ:Mu)(Q:R->Mu->Prop):Y.oG uo μ Q=uo μ fun r μ1=>match r with
 | .tr (.int a)=>Q (.tr (.int (Builtin.Int.intBits a:Nat))) μ1
 | _=>False:=rfl
end A
theorem aY{u w:US}{E:Ed}{μ:Mu}(h:∀ N:Mu->Prop,(∀ μ',w E μ'->N μ')->u { E with nx:=N } μ):Y.BC u w E μ:=h _ fun _ z=>z
theorem kX{u w:jq}{E:Ed}{Xt:Xw}{μ:Mu}(h:∀ N:Mu->Prop,(∀ μ',w E Xt μ'->N μ')->u { E with nx:=N } Xt μ):Y.Bd u w E Xt μ:=h _ fun _ z=>z
namespace Y
end Y
namespace A
end A
section
variable {prog:Program} {w:World} {A:Around} {E:Value->Shared->Prop} {s:Shared}
end
namespace Y
end Y
namespace A
end A
section
variable {K:PySem.W.Frag} {g:TG} {tb:TS} {D:Ends} {σ:St} {H:Hp} {te:TE} {Q:VK}
end
namespace Y
end Y
namespace A
end A
namespace Y
end Y
namespace A
end A
end L2
namespace L2
open PySem PySem.Spec PyProof PyProof.Rows PySem.W
namespace SP
section
variable (k:Nat->Int)
def R(i j:Nat):Prop:=k i < k j\/(k i=k j/\i < j)
variable {k}
theorem R.le{a b:Nat}(h:R k a b):k a<=k b:=by unfold R at h;lia
end
structure PI (n m:Nat) (p:Array Nat) (a:List Nat):Prop where
 eq:p.toList=a++List.range' m (n - m)
 perm:a.Perm (List.range m)
 le:m<=n
section
variable {n m:Nat} {p:Array Nat} {a:List Nat}
theorem PI.len(h:PI n m p a):a.length=m:=by rw[h.perm.length_eq,List.length_range]
theorem PI.lt(h:PI n m p a){x:Nat}(hx:x∈a):x < m:=List.mem_range.mp (h.perm.mem_iff.mp hx)
theorem PI.size(h:PI n m p a):p.size=n:=by
 have:=h.len;have:=h.le;rw[<- Array.length_toList,h.eq,List.length_append,List.length_range',h.len];lia
theorem PI.at(h:PI n m p a){i:Nat}{x:Nat}(hi:a[i]?=some x):p.getD i 0=x:=by
 have:p[i]?=some x:=by
  rw[<- Array.getElem?_toList,h.eq,List.getElem?_append_left (List.getElem?_eq_some_iff.mp hi).1];exact hi
 rw[Array.getD_eq_getD_getElem?,this];rfl
theorem PI.nx(h:PI n m p a)(hm:m < n):p.getD m 0=m:=by
 have:p[m]?=some m:=by
  rw[<- Array.getElem?_toList,h.eq,List.getElem?_append_right (by rw[h.len];exact Nat.le_refl m),h.len,Nat.sub_self,List.getElem?_range' (by lia)];simp
 rw[Array.getD_eq_getD_getElem?,this];rfl
theorem PI.step(h:PI n m p a)(hm:m < n):PI n (m+1) p (a++[m]):=by
 refine⟨?_,?_,hm⟩
 ·rw[h.eq,List.append_assoc,show n - m=(n - (m+1))+1 by lia,List.range'_succ];rfl
 ·rw[List.range_succ];exact h.perm.append_right [m]
theorem PI.last(h:PI n m p a){b:List Nat}{y:Nat}(e:a=b++[y]):p.getD (m - 1) 0=y:=by
 refine h.at ?_;have:=h.len;rw[e,List.length_append] at this;simp only[List.length_cons,List.length_nil] at this;rw[e,List.getElem?_append_right (by lia),show m - 1 - b.length=0 by lia];rfl
end
theorem i8{α:Type}{xs:Array α}{k l:Nat}{y:α}(hy:xs[k]?=some y)(hl:l<=k):(bubble xs k (k - l)).toList=xs.toList.take l++y::(xs.toList.drop l).take (k - l)++xs.toList.drop (k+1):=by
 have hk:k < xs.size:=(Array.getElem?_eq_some_iff.mp hy).1;have hL:xs.toList.length=xs.size:=by simp
 apply List.ext_getElem?;intro i;rw[Array.getElem?_toList,getElem?_bubble hk _ (by lia),show k - (k - l)=l by lia]
 rw[List.append_assoc,List.getElem?_append];have ht:(xs.toList.take l).length=l:=by rw[List.length_take];lia
 rw[ht];by_cases h1:i < l
 ·rw[if_pos h1,if_neg (by lia),if_neg (by lia),List.getElem?_take,if_pos h1,Array.getElem?_toList]
 ·rw[if_neg h1];by_cases h2:i=l
  ·subst h2;rw[if_pos rfl,Nat.sub_self,hy];rfl
  ·rw[if_neg h2,show i - l=(i - l - 1)+1 by lia,List.cons_append,List.getElem?_cons_succ,List.getElem?_append]
   have hm:((xs.toList.drop l).take (k - l)).length=k - l:=by rw[List.length_take,List.length_drop];lia
   rw[hm];by_cases h3:i - l - 1 < k - l
   ·rw[if_pos h3,if_pos (by lia),List.getElem?_take,if_pos h3,List.getElem?_drop,Array.getElem?_toList]
    congr 1;lia
   ·rw[if_neg h3,if_neg (by lia),List.getElem?_drop,Array.getElem?_toList]
    congr 1;lia
theorem dM{α:Type}{xs:Array α}{i j:Nat}(hi:i<=j)(hj:j<=xs.size):(mirror xs i j ((j - i) / 2)).toList=xs.toList.take i++((xs.toList.drop i).take (j - i)).reverse++xs.toList.drop j:=by
 have hL:xs.toList.length=xs.size:=by simp
 apply List.ext_getElem?;intro k;rw[Array.getElem?_toList,getElem?_mirror_all hj,List.append_assoc,List.getElem?_append];have ht:(xs.toList.take i).length=i:=by rw[List.length_take];lia
 have hm:((xs.toList.drop i).take (j - i)).length=j - i:=by rw[List.length_take,List.length_drop];lia
 rw[ht];by_cases h1:k < i
 ·rw[if_pos h1,if_neg (by lia),List.getElem?_take,if_pos h1,Array.getElem?_toList]
 ·rw[if_neg h1,List.getElem?_append,List.length_reverse,hm];by_cases h2:k < j
  ·rw[if_pos (by lia),if_pos (by lia),List.getElem?_reverse (by lia),hm,List.getElem?_take,if_pos (by lia),List.getElem?_drop,Array.getElem?_toList]
   congr 1;lia
  ·rw[if_neg (by lia),if_neg (by lia),List.getElem?_drop,Array.getElem?_toList]
   congr 1;lia
theorem PI.rev{n m:Nat}{p:Array Nat}{b c:List Nat}(h:PI n m p (b++c)):PI n m (kas_rev p b.length m) (b++c.reverse):=by
 have hl:b.length+c.length=m:=by rw[<- h.len,List.length_append]
 refine⟨?_,((List.reverse_perm c).append_left b).trans h.perm,h.le⟩;unfold kas_rev;rw[dM (by lia) (by rw[h.size];exact h.le),h.eq,List.append_assoc b c,List.take_left,List.drop_left,show m - b.length=c.length by lia,List.take_left,<- List.append_assoc b c,List.drop_left' (by rw[List.length_append];exact hl)]
theorem ka{a:List Nat}{m:Nat}(h:a.length=m)(hm:1<=m):∃ b y,a=b++[y]:=by
 rcases List.eq_nil_or_concat a with rfl | ⟨b,y,rfl⟩
 ·cases h;exact absurd hm (by decide)
 ·exact⟨b,y,by simp⟩
section
variable {k:Nat->Int} {n:Nat} {cmp:Nat->Nat->(Bool->Shared->Prop)->Shared->Prop} {I:Shared->Prop}
def ml(k:Nat->Int)(n:Nat)(cmp:Nat->Nat->(Bool->Shared->Prop)->Shared->Prop)(I:Shared->Prop):Prop:=∀ i j C s,i < n->j < n->I s->(∀ s',I s'->C (decide (k i < k j)) s')->cmp i j C s
theorem nG(hc:ml k n cmp I){p:Array Nat}{G:Nat->Shared->Prop}:∀ (f m:Nat) (a:List Nat) (s:Shared),PI n m p a->1<=m->f=n - m->a.Pairwise (R k)->I s ->
  (∀ m' a' s',PI n m' p a'->m<=m'->a'.Pairwise (R k)->I s'->(∀ b y,a'=b++[y]->m' < n->k m' < k y)->G m' s')->(kas_asc p f m).kasWp cmp G s
 | 0,m,a,s,h,h1,hf,hp,hI,g=>g m a s h (Nat.le_refl m) hp hI fun _ _ _ hl=>by have:=h.le;lia
 | f+1,m,a,s,h,h1,hf,hp,hI,g=>by
  have hm:m < n:=by lia
  obtain⟨b,y,e⟩:=ka h.len h1;show cmp (p.getD m 0) (p.getD (m - 1) 0) _ s;rw[h.nx hm,h.last e];have hy:y < m:=h.lt (by rw[e];simp)
  refine hc m y _ s hm (by lia) hI fun s' hI'=>?_
  by_cases c:k m < k y
  ·rw[decide_eq_true c];exact g m a s' h (Nat.le_refl m) hp hI' fun b' y' e' _=>by
    rw[e] at e';have:[y]=[y']:=(List.append_inj' e' rfl).2
    cases this;exact c
  ·rw[decide_eq_false c];refine nG hc f (m+1) (a++[m]) s' (h.step hm) (by lia) (by lia) ?_ hI' fun m' a' s2 h' hm' hp' hI2 gl=>g m' a' s2 h' (by lia) hp' hI2 gl
   refine List.pairwise_append.mpr ⟨hp,by simp,fun x hx z hz=>?_⟩
   rw[List.mem_singleton.mp hz];have hxm:=h.lt hx;have:k x<=k y:=by
    rw[e] at hx hp;rcases List.mem_append.mp hx with hx | hx
    ·exact ((List.pairwise_append.mp hp).2.2 x hx y (by simp)).le
    ·rw[List.mem_singleton.mp hx];exact Int.le_refl _
   unfold R;lia
structure DI (k:Nat->Int) (b c:List Nat):Prop where
 AV:b.Pairwise fun x y=>R k y x
 less:∀ y∈b,∀ x∈c,k x < k y
 one:∀ x∈c,∀ y∈c,k x=k y
 up:c.Pairwise (· < ·)
theorem DI.rise{b c:List Nat}(h:DI k b c):(b++c.reverse).reverse.Pairwise (R k):=by
 rw[List.reverse_append,List.reverse_reverse];refine List.pairwise_append.mpr ⟨?_,List.pairwise_reverse.mpr h.AV,fun x hx y hy=>.inl (h.less y (List.mem_reverse.mp hy) x hx)⟩;exact List.Pairwise.imp_of_mem (fun {x y} hx hy hl=>.inr ⟨h.one x hx y hy,hl⟩) h.up
theorem DI.next{b c:List Nat}{x:Nat}(h:DI k b c)(hc:c≠[])(hx:∀ y∈c,k x < k y):DI k (b++c.reverse) [x]:=by
 refine⟨List.pairwise_append.mpr ⟨h.AV,List.pairwise_reverse.mpr (List.Pairwise.imp_of_mem (fun {x y} hx hy hl=>.inr ⟨h.one x hx y hy,hl⟩) h.up),fun y hy z hz=>.inl (h.less y hy z (List.mem_reverse.mp hz))⟩,fun y hy z hz=>?_,fun y hy z hz=>?_,by simp⟩
 ·rw[List.mem_singleton.mp hz];rcases List.mem_append.mp hy with hy | hy
  ·obtain⟨w,hw⟩:=List.exists_mem_of_ne_nil c hc;exact Int.lt_trans (hx w hw) (h.less y hy w hw)
  ·exact hx y (List.mem_reverse.mp hy)
 ·rw[List.mem_singleton.mp hy,List.mem_singleton.mp hz]
theorem DI.more{b c:List Nat}{x:Nat}(h:DI k b c)(he:∀ y∈c,k x=k y)(hc:c≠[])(hl:∀ y∈c,y < x):DI k b (c++[x]):=by
 refine⟨h.AV,fun y hy z hz=>?_,fun y hy z hz=>?_,List.pairwise_append.mpr ⟨h.up,by simp,fun y hy z hz=>by rw[List.mem_singleton.mp hz];exact hl y hy⟩⟩
 ·rcases List.mem_append.mp hz with hz | hz
  ·exact h.less y hy z hz
  ·rw[List.mem_singleton.mp hz];obtain⟨w,hw⟩:=List.exists_mem_of_ne_nil c hc;rw[he w hw];exact h.less y hy w hw
 ·rcases List.mem_append.mp hy with hy | hy<;>rcases List.mem_append.mp hz with hz | hz
  ·exact h.one y hy z hz
  ·rw[List.mem_singleton.mp hz];exact (he y hy).symm
  ·rw[List.mem_singleton.mp hy];exact he z hz
  ·rw[List.mem_singleton.mp hy,List.mem_singleton.mp hz]
theorem gG(hc:ml k n cmp I){G:Array Nat×Nat×Nat->Shared->Prop}:∀ (f:Nat) (p:Array Nat) (m q:Nat) (b c:List Nat) (s:Shared),PI n m p (b++c)->c.length=q+1->DI k b c->f=n - m->I s ->
  (∀ p' m' q' b' c' s',PI n m' p' (b'++c')->c'.length=q'+1->DI k b' c'->I s'->G (p',m',q') s')->(kas_desc f p m q).kasWp cmp G s
 | 0,p,m,q,b,c,s,h,hl,hd,hf,hI,g=>g p m q b c s h hl hd hI
 | f+1,p,m,q,b,c,s,h,hl,hd,hf,hI,g=>by
  have hm:m < n:=by lia
  obtain⟨c0,y,e⟩:=ka hl (by lia)
  have hbl:b.length+(q+1)=m:=by rw[<- hl,<- List.length_append,h.len]
  have ne:c≠[]:=by rw[e];simp
  have hy:y∈c:=by rw[e];simp
  have hya:y < m:=h.lt (List.mem_append_right _ hy);have e1:p.getD m 0=m:=h.nx hm;have e2:p.getD (m - 1) 0=y:=h.last (b:=b++c0) (by rw[e,List.append_assoc])
  show cmp (p.getD m 0) (p.getD (m - 1) 0) _ s;rw[e1,e2];refine hc m y _ s hm (by lia) hI fun s' hI'=>?_
  by_cases c1:k m < k y
  ·rw[decide_eq_true c1];have hx:∀ z∈c,k m < k z:=fun z hz=>by rw[hd.one z hz y hy];exact c1
   show KasT.kasWp cmp (if q > 0 then _ else _) G s'
   by_cases hq:q > 0
   ·rw[if_pos hq,show m - (q+1)=b.length by lia]
    exact gG hc f _ (m+1) 0 (b++c.reverse) [m] s' (h.rev.step hm) rfl (hd.next ne hx) (by lia) hI' g
   ·rw[if_neg hq];have e3:c.reverse=c:=by
     have:c.length=1:=by lia
     obtain⟨z,rfl⟩:=List.length_eq_one_iff.mp this;rfl
    exact gG hc f p (m+1) 0 (b++c.reverse) [m] s' (by rw[e3];exact h.step hm) rfl (hd.next ne hx) (by lia) hI' g
  ·rw[decide_eq_false c1];show cmp y m _ s';refine hc y m _ s' (by lia) hm hI' fun s2 hI2=>?_
   by_cases c2:k y < k m
   ·rw[decide_eq_true c2];exact g p m q b c s2 h hl hd hI2
   ·rw[decide_eq_false c2];refine gG hc f p (m+1) (q+1) b (c++[m]) s2 (by rw[<- List.append_assoc];exact h.step hm) (by rw[List.length_append,hl];rfl) (hd.more (fun z hz=>?_) ne fun z hz=>h.lt (List.mem_append_right _ hz)) (by lia) hI2 g
    rw[hd.one z hz y hy];lia
theorem qw(hc:ml k n cmp I){G:Nat×Array Nat->Shared->Prop}{m:Nat}{p:Array Nat}{a:List Nat}{s:Shared}(h:PI n m p a)(h1:1<=m)(hr:a.reverse.Pairwise (R k))(hI:I s)
  (g:∀ m' p' a' s',PI n m' p' a'->1<=m'->a'.Pairwise (R k)->I s'->G (m',p') s'):(kas_tail3 m n p).kasWp cmp G s:=by
 unfold kas_tail3;rw[KasT.kasWp_bind];have hv:=PI.rev (b:=[]) (c:=a) h;exact nG hc (n - m) m a.reverse s hv h1 rfl hr hI fun m' a' s' h' hm' hp' hI' _=>g m' _ a' s' h' (by lia) hp' hI'
theorem pY(hc:ml k n cmp I){G:Nat×Array Nat->Shared->Prop}{m:Nat}{p:Array Nat}{a:List Nat}{s:Shared}(h:PI n m p a)(hm:m < n)(hd:DI k a [m])(hI:I s)
  (g:∀ m' p' a' s',PI n m' p' a'->1<=m'->a'.Pairwise (R k)->I s'->G (m',p') s'):(kas_descPart m n p).kasWp cmp G s:=by
 unfold kas_descPart;rw[KasT.kasWp_bind];refine gG hc (n - (m+1)) p (m+1) 0 a [m] s (h.step hm) rfl hd rfl hI fun p' m' q' b' c' s' h' hl' hd' hI'=>?_;have hbl:b'.length+(q'+1)=m':=by rw[<- hl',<- List.length_append,h'.len]
 show KasT.kasWp cmp (if q' > 0 then _ else _) G s'
 by_cases hq:q' > 0
 ·rw[if_pos hq];show (kas_tail3 m' n (kas_rev p' (m' - (q'+1)) m')).kasWp cmp G s';rw[show m' - (q'+1)=b'.length by lia]
  exact qw hc h'.rev (by lia) hd'.rise hI' g
 ·rw[if_neg hq];have e3:c'.reverse=c':=by
   have:c'.length=1:=by lia
   obtain⟨z,rfl⟩:=List.length_eq_one_iff.mp this;rfl
  exact qw hc h' (by lia) (by rw[<- e3];exact hd'.rise) hI' g
theorem tJ(hc:ml k n cmp I){G:Nat×Array Nat->Shared->Prop}{s:Shared}(hn:1<=n)(hI:I s)
  (g:∀ m' p' a' s',PI n m' p' a'->1<=m'->a'.Pairwise (R k)->I s'->G (m',p') s'):(kas_count n (List.toArray (List.range n))).kasWp cmp G s:=by
 unfold kas_count;rw[KasT.kasWp_bind];have h0:PI n 1 (List.toArray (List.range n)) [0]:=by
  refine⟨?_,List.Perm.refl _,hn⟩;show List.range n=[0]++List.range' 1 (n - 1);rw[List.range_eq_range',show n=(n - 1)+1 by lia,List.range'_succ];rfl
 refine nG hc (n - 1) 1 [0] s h0 (Nat.le_refl 1) rfl (by simp) hI fun m a s' h hm hp hI' gl=>?_
 show KasT.kasWp cmp (if (m == n)=true then _ else _) G s'
 by_cases e:m=n
 ·subst e;rw[if_pos (beq_self_eq_true m)];exact g m _ a s' h hm hp hI'
 ·rw[if_neg (by simpa using e)]
  have hmn:m < n:=by have:=h.le;lia
  obtain⟨b,y,ea⟩:=ka h.len hm;have ky:=gl b y ea hmn;have hya:y < m:=h.lt (by rw[ea];simp)
  by_cases h2:m > 1
  ·rw[if_pos h2];obtain⟨x,r,ex⟩:∃ x r,a=x::r:=by
    cases a with
    | nil=>have:=h.len;rw[List.length_nil] at this;lia
    | cons x r=>exact⟨x,r,rfl⟩
   have hxa:x < m:=h.lt (by rw[ex];simp)
   show cmp ((List.toArray (List.range n)).getD 0 0) ((List.toArray (List.range n)).getD (m - 1) 0) _ s';rw[h.at (i:=0) (x:=x) (by rw[ex];rfl),h.last ea]
   refine hc x y _ s' (by lia) (by lia) hI' fun s2 hI2=>?_
   by_cases c:k x < k y
   ·rw[decide_eq_true c];exact g m _ a s2 h hm hp hI2
   ·rw[decide_eq_false c];have hv:=PI.rev (b:=[]) (c:=a) h;refine pY hc hv hmn ⟨List.pairwise_reverse.mpr hp,fun z hz w hw=>?_,fun z hz w hw=>by rw[List.mem_singleton.mp hz,List.mem_singleton.mp hw],by simp⟩ hI2 g
    rw[List.mem_singleton.mp hw];have hz':=List.mem_reverse.mp hz;have hxz:k x<=k z:=by
     rw[ex] at hz' hp;rcases List.mem_cons.mp hz' with rfl | hz'
     ·exact Int.le_refl _
     ·exact ((List.pairwise_cons.mp hp).1 z hz').le
    lia
  ·rw[if_neg h2];have hm1:m=1:=by lia
   have hb:b=[]:=by
    have:=h.len;rw[ea,List.length_append,hm1] at this;simp only[List.length_cons,List.length_nil] at this;exact List.length_eq_zero_iff.mp (by lia)
   subst hb;refine pY hc h hmn ⟨by rw[ea];simp,fun z hz w hw=>?_,fun z hz w hw=>by rw[List.mem_singleton.mp hz,List.mem_singleton.mp hw],by simp⟩ hI' g
   rw[List.mem_singleton.mp hw];rw[ea] at hz;rw[List.mem_singleton.mp hz];exact ky
theorem i9(hc:ml k n cmp I){G:Nat->Shared->Prop}{t:Nat}{p:Array Nat}{a:List Nat}(h:PI n t p a)(ht:t < n)(hp:a.Pairwise (R k)):∀ (f l r:Nat) (s:Shared),l<=r->r<=t->r - l<=f->(∀ i x,i < l->a[i]?=some x->k x<=k t)->(∀ i x,r<=i->a[i]?=some x->k t < k x)->I s ->
  (∀ l' s',l'<=t->(∀ i x,i < l'->a[i]?=some x->k x<=k t)->(∀ i x,l'<=i->a[i]?=some x->k t < k x)->I s'->G l' s')->(kas_place p t f l r).kasWp cmp G s
 | 0,l,r,s,h1,h2,h3,hlo,hhi,hI,g=>g l s (by lia) hlo (fun i x hi e=>hhi i x (by lia) e) hI
 | f+1,l,r,s,h1,h2,h3,hlo,hhi,hI,g=>by
  show KasT.kasWp cmp (if l >= r then _ else _) G s
  by_cases hlr:l >= r
  ·rw[if_pos hlr];exact g l s (by lia) hlo (fun i x hi e=>hhi i x (by lia) e) hI
  ·rw[if_neg hlr];have hmid:(l+r) / 2 < a.length:=by rw[h.len];lia
   have em:a[(l+r) / 2]?=some a[(l+r) / 2]:=List.getElem?_eq_getElem hmid;have hma:a[(l+r) / 2] < t:=h.lt (List.getElem_mem hmid);have mono:∀ i j x y,i<=j->a[i]?=some x->a[j]?=some y->k x<=k y:=fun i j x y hij ex ey=>by
    rcases Nat.lt_or_ge i j with c | c
    ·obtain⟨hi,rfl⟩:=List.getElem?_eq_some_iff.mp ex;obtain⟨hj,rfl⟩:=List.getElem?_eq_some_iff.mp ey;exact (List.pairwise_iff_getElem.mp hp i j hi hj c).le
    ·have:i=j:=Nat.le_antisymm hij c;subst this;rw[ex] at ey;cases ey;exact Int.le_refl _
   show cmp (p.getD t 0) (p.getD ((l+r) / 2) 0) _ s;rw[h.nx ht,h.at em];refine hc t _ _ s ht (by lia) hI fun s' hI'=>?_
   by_cases c:k t < k a[(l+r) / 2]
   ·rw[decide_eq_true c];exact i9 hc h ht hp f l ((l+r) / 2) s' (by lia) (by lia) (by lia) hlo (fun i x hi e=>Int.lt_of_lt_of_le c (mono _ i _ x hi em e)) hI' g
   ·rw[decide_eq_false c];exact i9 hc h ht hp f ((l+r) / 2+1) r s' (by lia) h2 (by lia) (fun i x hi e=>Int.le_trans (mono i _ x _ (by lia) e em) (by lia)) hhi hI' g
theorem vZ(hc:ml k n cmp I){G:Array Nat->Shared->Prop}:∀ (f:Nat) (p:Array Nat) (t:Nat) (a:List Nat) (s:Shared),PI n t p a->a.Pairwise (R k)->f=n - t->I s ->
  (∀ p' a' s',PI n n p' a'->a'.Pairwise (R k)->I s'->G p' s')->(kas_bin f p t).kasWp cmp G s
 | 0,p,t,a,s,h,hp,hf,hI,g=>by
  have:t=n:=by have:=h.le;lia
  subst this;exact g p a s h hp hI
 | f+1,p,t,a,s,h,hp,hf,hI,g=>by
  have ht:t < n:=by lia
  show KasT.kasWp cmp ((kas_place p t t 0 t).bind _) G s;rw[KasT.kasWp_bind];refine i9 hc h ht hp t 0 t s (Nat.zero_le _) (Nat.le_refl _) (by lia) (fun i x hi _=>absurd hi (Nat.not_lt_zero i)) (fun i x hi e=>?_) hI fun l s' hl hlo hhi hI'=>?_
  ·have:=(List.getElem?_eq_some_iff.mp e).1;rw[h.len] at this;lia
  ·have et:p[t]?=some t:=by
    rw[<- Array.getElem?_toList,h.eq,List.getElem?_append_right (by rw[h.len];exact Nat.le_refl t),h.len,Nat.sub_self,List.getElem?_range' (by lia)];simp
   have hla:l<=a.length:=by rw[h.len];exact hl
   have e1:(bubble p t (t - l)).toList=(a.take l++t::a.drop l)++List.range' (t+1) (n - (t+1)):=by
    rw[i8 et hl,h.eq,List.take_append_of_le_length hla,List.drop_append_of_le_length hla,show n - t=(n - (t+1))+1 by lia,List.range'_succ]
    have e2:(a.drop l).length=t - l:=by rw[List.length_drop,h.len]
    have e3:∀ r:List Nat,(a++t::r).drop (t+1)=r:=fun r=>by
     rw[show a++t::r=(a++[t])++r by simp]
     exact List.drop_left' (by rw[List.length_append,h.len];rfl)
    rw[List.take_left' e2,e3]
   have hP:PI n (t+1) (bubble p t (t - l)) (a.take l++t::a.drop l):=by
    refine⟨e1,?_,ht⟩;have:(a.take l++t::a.drop l).Perm (a++[t]):=by
     have h1:(a.take l++t::a.drop l).Perm (t::(a.take l++a.drop l)):=List.perm_middle;rw[List.take_append_drop] at h1;exact h1.trans (List.perm_append_singleton t a).symm
    rw[List.range_succ];exact this.trans (h.perm.append_right [t])
   refine vZ hc f _ (t+1) _ s' hP ?_ (by lia) hI' g
   have hp1:=(List.take_append_drop l a) ▸ hp;obtain⟨q1,q2,q3⟩:=List.pairwise_append.mp hp1;refine List.pairwise_append.mpr ⟨q1,List.pairwise_cons.mpr ⟨fun x hx=>?_,q2⟩,fun x hx y hy=>?_⟩
   ·obtain⟨i,hi⟩:=List.mem_iff_getElem?.mp hx;rw[List.getElem?_drop] at hi;exact .inl (hhi (l+i) x (by lia) hi)
   ·rcases List.mem_cons.mp hy with rfl | hy
    ·obtain⟨i,hi⟩:=List.mem_iff_getElem?.mp hx;rw[List.getElem?_take] at hi
     split at hi
     ·rename_i hil;have:=hlo i x hil hi;have hxt:=h.lt (List.mem_of_mem_take hx);unfold R;lia
     ·cases hi
    ·exact q3 x hx y hy
theorem xE(hc:ml k n cmp I){G:Array Nat->Shared->Prop}{s:Shared}(hn:1<=n)(hI:I s)(g:∀ p s',p.toList.Perm (List.range n)->p.toList.Pairwise (R k)->I s'->G p s'):(kas_sort n).kasWp cmp G s:=by
 unfold kas_sort;rw[KasT.kasWp_bind];have fin:∀ p a s',PI n n p a->a.Pairwise (R k)->I s'->G p s':=fun p a s' h hp hI'=>by
  have e:p.toList=a:=by rw[h.eq,Nat.sub_self,List.range'_zero,List.append_nil]
  refine g p s' ?_ ?_ hI'<;>rw[e]
  ·exact h.perm
  ·exact hp
 refine tJ hc hn hI fun m p a s' h h1 hp hI'=>?_;show KasT.kasWp cmp (if m < n then _ else _) G s'
 by_cases hm:m < n
 ·rw[if_pos hm];show (kas_bin (n - max m 1) p (max m 1)).kasWp cmp G s';rw[show max m 1=m by lia]
  exact vZ hc (n - m) p m a s' h hp rfl hI' fin
 ·rw[if_neg hm];have:m=n:=by have:=h.le;lia
  subst this;exact fin p a s' h hp hI'
end
end SP
section
variable {prog:Program} {w:World} {A:Around} {E:Value->Shared->Prop} {s:Shared}
structure Cn (prog:Program) (w:World) (s:Shared) (vs:List Value) (κ:SortKind) (kz:Nat->Int) (h:Heap):Prop where
 kind:∀ (A:Around) (E:Value->Shared->Prop) (Q:SortKind->Shared->Prop),2<=vs.length->Q κ { s with heap:=h }->wpAny (model prog w) A (keyKind' vs.toArray) Q E { s with heap:=h }
 lt:∀ (A:Around) (C:Bool->Shared->Prop) (i j:Nat),i < vs.length->j < vs.length->C (decide (kz i < kz j)) { s with heap:=h }->kas_ask prog w A κ vs i j C { s with heap:=h }
theorem vT{a:Addr}{vs:List Value}{n:Nat}{κ:SortKind}{kz:Nat->Int}{P:Fin->Shared->Prop}(ho:s.heap.get? a=some (seqObj "list" vs.toArray n))(h64:vs.length < 64)
  (hq:∀ h',(∀ b o,b≠a->s.heap.get? b=some o->h'.get? b=some o)->Cn prog w s vs κ kz h')
  (h:∀ p:Array Nat,p.toList.Perm (List.range vs.length)->p.toList.Pairwise (SP.R kz)->P (.done (.ret .none)) { s with heap:=sortedHeap s.heap a vs (List.toArray (p.toList.map fun i=>vs.getD i Value.none)) }) :
  wpAny (model prog w) A (Builtin.«list.sort» ⟨[.ref a],[]⟩) P E s:=by
 rw[list_sort_plain];have ha:a < s.heap.objs.size:=Heap.lt_size ho;refine wpAny_bind (listItems_at ho rfl (wpAny_bind (listUpdate_at ho rfl ?_)));obtain⟨e1,ho1⟩:∃ e1,(s.heap.update a (Obj.mapSeq fun _=>#[])).get? a=some (seqObj "list" #[] e1):=⟨_,get?_update_seq ho (fun _=>#[])⟩;refine wpAny_bind (seqEpoch_at ho1 rfl (wpAny_bind (wpAny_newTuple (wpAny_bind (wpAny_newList (wpAny_holding ?_))))));have up:∀ b o,b≠a->s.heap.get? b=some o->(((s.heap.update a (Obj.mapSeq fun _=>#[])).push (seqObj "tuple" vs.toArray 0)).push (seqObj "list" #[] 0)).get? b=some o:=fun b o hb e =>
  Heap.get?_push_of_some _ (Heap.get?_push_of_some _ ((Heap.get?_update_other _ _ (Ne.symm hb)).trans e))
 have ho6:(((s.heap.update a (Obj.mapSeq fun _=>#[])).push (seqObj "tuple" vs.toArray 0)).push (seqObj "list" #[] 0)).get? a=some (seqObj "list" #[] e1):=Heap.get?_push_of_some _ (Heap.get?_push_of_some _ ho1);show wpAny (model prog w) A _ P E { s with heap:=((s.heap.update a (Obj.mapSeq fun _=>#[])).push (seqObj "tuple" vs.toArray 0)).push (seqObj "list" #[] 0) }
 dsimp only;have hs:=hq _ up;have hsz:vs.toArray.size=vs.length:=by simp
 by_cases h2:vs.toArray.size < 2
 ·rw[if_pos h2,if_pos h2];refine wpAny_bind (wpAny_pure ?_);rw[StateT.run_pure];refine wpAny_bind (wpAny_pure ?_);dsimp only;refine wpAny_bind (seqEpoch_at ho6 rfl (wpAny_bind (listUpdate_at ho6 rfl ?_ (hsz2:=by rw[Array.size_map];show (pairsOf vs).size<=_;rw[pairsOf_size,sizeLine_eq];lia))))
  simp only[bne_self_eq_false,Bool.false_eq_true,if_false];refine wpAny_pure ?_;have hid:=h (List.toArray (List.range vs.length)) (List.Perm.refl _) (by
   rcases vs with _ | ⟨x,_ | ⟨y,r⟩⟩
   ·exact .nil
   ·simp
   ·exfalso;rw[hsz] at h2;simp only[List.length_cons] at h2;lia)
  have e:(arrOf (SortSt.mk' general' (vs.toArray.zip vs.toArray) #[] 7 none)).map (·.2)=List.toArray ((List.toArray (List.range vs.length)).toList.map fun i=>vs.getD i Value.none):=by
   show (vs.toArray.zip vs.toArray).map (·.2)=_;apply Array.toList_inj.mp;rw[Array.toList_map,Array.toList_zip];show (vs.zip vs).map (·.2)=(List.range vs.length).map fun i=>vs.getD i Value.none;rw[List.map_snd_zip (Nat.le_refl _)];refine List.ext_getElem? fun i=>?_;rw[List.getElem?_map];rcases Nat.lt_or_ge i vs.length with c | c
   ·rw[List.getElem?_range c,List.getElem?_eq_getElem c];simp[c]
   ·rw[List.getElem?_eq_none_iff.mpr c,List.getElem?_eq_none_iff.mpr (by rw[List.length_range];exact c)];rfl
  rw[e];exact hid
 ·rw[if_neg h2,if_neg h2];have h2':2<=vs.length:=by rw[hsz] at h2;lia
  refine wpAny_bind (hs.kind _ _ _ h2' ?_);refine wpAny_bind (wpAny_mono (kat_run (ks:=vs) (vs:=vs) (Q:=fun st' s'=>s'={ s with heap:=((s.heap.update a (Obj.mapSeq fun _=>#[])).push (seqObj "tuple" vs.toArray 0)).push (seqObj "list" #[] 0) }/\∃ p:Array Nat,arrOf st'=p.map (kas_item (vs.toArray.zip vs.toArray))/\failedOf st'=none/\p.toList.Perm (List.range vs.length)/\p.toList.Pairwise (SP.R kz))
   (G:=fun p s'=>s'={ s with heap:=((s.heap.update a (Obj.mapSeq fun _=>#[])).push (seqObj "tuple" vs.toArray 0)).push (seqObj "list" #[] 0) }/\p.toList.Perm (List.range vs.length)/\p.toList.Pairwise (SP.R kz))
   rfl h2' h64 (fun p st' s' a1 a2 a3 a4=>⟨a4.1,p,a2,a3,a4.2⟩) ?_) ?_ fun _ _ e=>e)
  ·refine SP.xE (k:=kz) (I:=fun s'=>s'={ s with heap:=((s.heap.update a (Obj.mapSeq fun _=>#[])).push (seqObj "tuple" vs.toArray 0)).push (seqObj "list" #[] 0) }) (fun i j C s' hi hj hI hC=>?_) (by lia) rfl fun p s' hp hr hI=>⟨hI,hp,hr⟩
   subst hI;exact hs.lt _ _ i j hi hj (hC _ rfl)
  rintro⟨⟨⟩,st'⟩ s' ⟨rfl,p,har,hf,hp,hr⟩;dsimp only;have esn:=kat_snds (ks:=vs) (vs:=vs) rfl har;have hl:(p.toList.map fun i=>vs.getD i Value.none).length=vs.length:=by rw[List.length_map,hp.length_eq,List.length_range]
  refine wpAny_bind (seqEpoch_at ho6 rfl ?_);refine wpAny_bind (listUpdate_at ho6 rfl ?_ (hsz2:=by show ((arrOf st').map (·.2)).size<=_;rw[esn,List.size_toArray,hl,sizeLine_eq];lia))
  rw[hf];simp only[bne_self_eq_false,Bool.false_eq_true,if_false];rw[esn];exact wpAny_pure (h p hp hr)
theorem nu{l:Addr}{vs:List Value}{κ:SortKind}{kz:Nat->Int}{Q:Value->Shared->Prop}(hl:s.heap.IsList l vs.toArray)(h64:vs.length < 64)(hq:∀ h',(∀ b o,s.heap.get? b=some o->h'.get? b=some o)->Cn prog w s vs κ kz h')
  (h:∀ p:Array Nat,p.toList.Perm (List.range vs.length)->p.toList.Pairwise (SP.R kz)->Q (.ref (s.heap.objs.size+1)) { s with heap:=sortedAll s.heap vs (List.toArray (p.toList.map fun i=>vs.getD i Value.none)) }) :
  wpAny (model prog w) A (call (.builtin "sorted") [.ref l]) Q E s:=by
 refine Calls.call_function_entry kind_sorted plain_sorted entry_sorted (args_sorted1 _) ?_;unfold Builtin.«sorted»;refine wpAny_bind (m:=checkCount "sorted" 1 1 _) (wpAny_pure (wpAny_bind (collect_list hl (wpAny_bind (wpAny_newList ?_)))));have hsz:((s.heap.push (seqObj "list" #[] 0)).update s.heap.objs.size (Obj.mapSeq (·++vs.toArray))).objs.size=s.heap.objs.size+1:=by rw[Heap.size_update,size_push']
 have hoL:(((s.heap.push (seqObj "list" #[] 0)).update s.heap.objs.size (Obj.mapSeq (·++vs.toArray))).push (seqObj "list" vs.toArray 0)).get? (s.heap.objs.size+1)=some (seqObj "list" vs.toArray 0):=by rw[<- hsz];exact Heap.get?_push_size _ rfl
 have keep:∀ b o,s.heap.get? b=some o->(((s.heap.push (seqObj "list" #[] 0)).update s.heap.objs.size (Obj.mapSeq (·++vs.toArray))).push (seqObj "list" vs.toArray 0)).get? b=some o:=fun b o q=>by
  have hlt:b < s.heap.objs.size:=Heap.lt_size q;rw[Heap.get?_push_ne _ _ _ (by rw[hsz];exact Nat.ne_of_lt (Nat.lt_succ_of_lt hlt)),Heap.get?_update_ne _ _ _ _ (Nat.ne_of_lt hlt),Heap.get?_push_ne _ _ _ (Nat.ne_of_lt hlt)]
  exact q
 show wpAny _ _ _ _ _ { s with heap:=((s.heap.push (seqObj "list" #[] 0)).update s.heap.objs.size (Obj.mapSeq (·++vs.toArray))).push (seqObj "list" vs.toArray 0) }
 rw[hsz];refine wpAny_bind (wpAny_holding (wpAny_call_entry slot_list_sort ⟨_,hoL,rfl⟩ entry_list_sort (vT (kz:=kz) (κ:=κ) (s:={ s with heap:=((s.heap.push (seqObj "list" #[] 0)).update s.heap.objs.size (Obj.mapSeq (·++vs.toArray))).push (seqObj "list" vs.toArray 0) }) hoL h64 (fun h' hk=>?_) fun p a1 a2=>⟨_,rfl,?_⟩) (args_list_sort _)))
 ·have:=hq h' fun b o e=>hk b o (Nat.ne_of_lt (Nat.lt_succ_of_lt (Heap.lt_size e))) (keep b o e);exact⟨this.kind,this.lt⟩
 ·exact wpAny_pure ⟨_,rfl,h p a1 a2⟩
end
def lexLt(x y:Int×Int):Bool:=decide (x.1 < y.1\/(x.1=y.1/\x.2 < y.2))
theorem j3{x y:Int×Int}:lexLt x y=true ↔ (x.1 < y.1\/(x.1=y.1/\x.2 < y.2)):=decide_eq_true_iff
def rank(l:List (Int×Int))(x:Int×Int):Nat:=l.countP fun y=>lexLt y x
def rk(l:List (Int×Int))(i:Nat):Int:=(rank l (l.getD i (0,0)):Nat)
theorem oA{l:List (Int×Int)}{p q:Int×Int->Bool}(h:∀ z,p z=true->q z=true){x:Int×Int}:x∈l->p x=false->q x=true->l.countP p < l.countP q:=by
 induction l with
 | nil=>intro hx;cases hx
 | cons y l ih =>
  intro hx h1 h2;have hle:l.countP p<=l.countP q:=List.countP_mono_left fun z _=>h z;rw[List.countP_cons,List.countP_cons];rcases List.mem_cons.mp hx with rfl | hx
  ·rw[if_neg (by rw[h1];exact Bool.false_ne_true),if_pos h2];lia
  ·have:=ih hx h1 h2
   cases hp:p y with
   | true=>rw[if_pos rfl,if_pos (h y hp)];lia
   | false=>rw[if_neg Bool.false_ne_true];split<;>lia
theorem pM{l:List (Int×Int)}{x y:Int×Int}(hx:x∈l)(hy:y∈l):decide (rank l x < rank l y)=lexLt x y:=by
 have irr:∀ z,lexLt z z=false:=fun z=>decide_eq_false (by lia)
 cases h:lexLt x y with
 | true =>
  refine decide_eq_true (oA (fun z hz=>?_) hx (irr x) h);rw[j3] at h hz ⊢;lia
 | false =>
  refine decide_eq_false (Nat.not_lt.mpr (List.countP_mono_left fun z _ hz=>?_));have h':¬ (x.1 < y.1\/(x.1=y.1/\x.2 < y.2)):=of_decide_eq_false h;rw[j3] at hz ⊢;lia
def uk(h:Heap)(v:Value)(pr:Int×Int):Prop:=∃ (a:Addr) (o:Obj) (n:Nat) (t u:Tok),v=.ref a/\h.get? a=some o/\o.cls=.type "tuple"/\o.data=.seq #[.int pr.1 t,.int pr.2 u] n
theorem lW{h:Heap}:∀ {vs:List Value} {bw:List (Int×Int)},Paired (uk h) vs bw->∃ fs,KatTups h vs fs/\fs.length=vs.length/\∀ v∈fs,∃ i t,v=Value.int i t
 | _,_,.nil=>⟨[],trivial,rfl,fun _ h=>by cases h⟩
 | _,_,.cons r t=>by
  obtain⟨a,o,n,t1,u,rfl,ho,hc,hd⟩:=r;obtain⟨fs,h1,h2,h3⟩:=lW t;refine⟨_::fs,⟨⟨a,o,_,n,rfl,ho,hc,hd,rfl⟩,h1⟩,by simp[h2],fun v hv=>?_⟩
  rcases List.mem_cons.mp hv with rfl | hv
  ·exact⟨_,_,rfl⟩
  ·exact h3 v hv
theorem u7{h:Heap}{vs:List Value}{bw:List (Int×Int)}(hp:Paired (uk h) vs bw){i:Nat}(hi:i < vs.length):uk h (vs.getD i .none) (bw.getD i (0,0))/\bw.getD i (0,0)∈bw:=by
 induction hp generalizing i with
 | nil=>cases hi
 | cons r t ih =>
  cases i with
  | zero=>exact⟨r,List.mem_cons_self ..⟩
  | succ i =>
   obtain⟨h1,h2⟩:=ih (i:=i) (by simpa using hi)
   exact⟨h1,List.mem_cons_of_mem _ h2⟩
theorem rS{prog:Program}{w:World}{s:Shared}{vs:List Value}{bw:List (Int×Int)}{h:Heap}(hp:Paired (uk h) vs bw):Cn prog w s vs (tuples' true) (rk bw) h where
 kind:=fun A E Q h2 q=>by
  obtain⟨fs,h1,h3,h4⟩:=lW hp;exact kat_kind (s:={ s with heap:=h }) (T:=.type "int") h1 (by lia) (fun v hv=>by obtain⟨i,t,rfl⟩:=h4 v hv;exact Looks.of_pure rfl) rfl q
 lt:=fun A C i j hi hj q=>by
  obtain⟨⟨a,o,n,t,u,ea,ho,hc,hd⟩,mi⟩:=u7 hp hi;obtain⟨⟨a',o',n',t',u',ea',ho',hc',hd'⟩,mj⟩:=u7 hp hj;have e:=pM mi mj;have e':decide (rk bw i < rk bw j)=lexLt (bw.getD i (0,0)) (bw.getD j (0,0)):=by
   rw[<- e,decide_eq_decide];unfold rk;lia
  rw[e'] at q;clear e e' mi mj;unfold kas_ask;rw[ea,ea'];generalize bw.getD i (0,0)=x at *;generalize bw.getD j (0,0)=y at *;refine kat_lt (s:={ s with heap:=h }) ho hd ho' hd' ?_
  show KatLex prog w A true _ C [(.int x.1 t,.int y.1 t'),(.int x.2 u,.int y.2 u')] 0 _;refine kat_cons (wpAny_eqBool_int ?_)
  cases c1:(x.1 == y.1) with
  | false =>
   refine kat_no ?_;have h1:x.1≠y.1:=beq_eq_false_iff_ne.mp c1;have e1:lexLt x y=decide (x.1 < y.1):=by unfold lexLt;rw[decide_eq_decide];lia
   rw[e1] at q;exact oneLt_int q
  | true =>
   refine kat_yes (kat_cons (wpAny_eqBool_int ?_));have h1:x.1=y.1:=eq_of_beq c1;have e1:lexLt x y=decide (x.2 < y.2):=by unfold lexLt;rw[decide_eq_decide];lia
   rw[e1] at q
   cases c2:(x.2 == y.2) with
   | false =>
    refine kat_no ?_;show wpAny (model prog w) A (oneLt' false (.int x.2 u) (.int y.2 u')) C _ _;exact kat_one _ _ (lt_int q)
   | true =>
    have h2:x.2=y.2:=eq_of_beq c2;refine kat_yes (kat_nil ?_);rw[decide_eq_false (by lia)] at q
    exact q
def Ew(l:List (Int×Int)):Prop:=l.Pairwise fun x y=>lexLt y x=false
theorem Dg{bw:List (Int×Int)}{ix:List Nat}(hp:ix.Perm (List.range bw.length))(hr:ix.Pairwise (SP.R (rk bw))):(ix.map fun i=>bw.getD i (0,0)).Perm bw/\Ew (ix.map fun i=>bw.getD i (0,0)):=by
 have e:(List.range bw.length).map (fun i=>bw.getD i (0,0))=bw:=by
  refine List.ext_getElem? fun i=>?_;rw[List.getElem?_map];rcases Nat.lt_or_ge i bw.length with c | c
  ·rw[List.getElem?_range c,List.getElem?_eq_getElem c];simp[c]
  ·rw[List.getElem?_eq_none_iff.mpr c,List.getElem?_eq_none_iff.mpr (by rw[List.length_range];exact c)];rfl
 refine⟨?_,List.pairwise_map.mpr (hr.imp_of_mem fun {i j} hi hj h=>?_)⟩
 ·have:=hp.map fun i=>bw.getD i (0,0);rw[e] at this;exact this
 ·have mem:∀ i∈ix,bw.getD i (0,0)∈bw:=fun i hi=>by
   have hl:=List.mem_range.mp (hp.mem_iff.mp hi);rw[List.getD_eq_getElem?_getD,List.getElem?_eq_getElem hl];exact List.getElem_mem hl
  rw[<- pM (mem j hj) (mem i hi)];have:=h.le;unfold rk at this;exact decide_eq_false (by lia)
namespace Y
def mP(p:Int×Int):T:=.tup [.int p.1,.int p.2]
def G9(H:Hp)(v:V)(p:Int×Int):Prop:=∃ q,v=.ref q/\H q=some (.tup [.int p.1,.int p.2])
def wb(K:PySem.W.Frag):List V->Hp->VK->Prop:=fun xs H Q=>∃ p vs bw,xs=[.ref p]/\bB K H p vs/\Paired (G9 H) vs bw/\bw.length < 64/\∀ ix:List Nat,ix.Perm (List.range bw.length)->Ew (ix.map fun i=>bw.getD i (0,0))->∀ l,H l=none->Q (.ref l) (upd H l (.lst (ix.map fun i=>vs.getD i .aI)))
theorem tX{X:Cx}{pins:List (Addr×Obj)}{σ:St}{H:Hp}{s:Shared}(I:Inv X pins σ H s):∀ {vs:List V} {its:List Value} {bw:List (Int×Int)},Vals vs its->Paired (G9 H) vs bw->Paired (uk s.heap) its bw
 | _,_,_,.nil,.nil=>.nil
 | _,_,_,.cons r t,.cons r' t'=>by
  refine .cons ?_ (tX I t t');obtain⟨q,rfl,hq⟩:=r';have e:_=Value.ref q:=r;subst e;obtain⟨_,ts,tv,o,e1,c,n,d,_⟩:=(show b7 X.prog X.w H s.heap q (.tup _) from I.aS q _ hq);obtain⟨u,w',rfl,⟨t1,rfl⟩,⟨t2,rfl⟩⟩:=vals2 tv;exact⟨q,o,n,t1,t2,rfl,e1,c,d⟩
theorem pJ{vs:List V}{its:List Value}(h:Vals vs its):∀ ix:List Nat,(∀ i∈ix,i < vs.length)->Vals (ix.map fun i=>vs.getD i .aI) (ix.map fun i=>its.getD i Value.none)
 | [],_=>.nil
 | i::ix,hi=>by
  refine .cons ?_ (pJ h ix fun j hj=>hi j (List.mem_cons_of_mem _ hj));have hl:=hi i (List.mem_cons_self ..);obtain⟨u,e,r⟩:=Vals.get h (List.getElem?_eq_getElem hl);show RelV (vs.getD i .aI) (its.getD i Value.none);rw[List.getD_eq_getElem?_getD,List.getD_eq_getElem?_getD,List.getElem?_eq_getElem hl,e];exact r
theorem mZ{X:Cx}(K:PySem.W.Frag)(hK:X.K=K):aL X (.builtin "sorted") (wb K):=by
 subst hK;intro pins s σ H xs us Q I r h;obtain⟨p,vs,bw,rfl,hq,hp,h64,q⟩:=h;obtain⟨u,rfl,ru⟩:=vals1 r;cases ru;obtain⟨its,rv,pl,hz⟩:=I.list hq;have hpa:=tX I rv hp;have l1:its.length=bw.length:=Paired.length hpa;have l2:vs.length=bw.length:=Paired.length hp;refine nu (κ:=tuples' true) (kz:=rk bw) pl.isList (by lia) (fun h' hk=>rS (Paired.kf hpa fun a b ⟨x,o,n,t,u,e,ho,r⟩=>⟨x,o,n,t,u,e,hk _ _ ho,r⟩)) fun px a1 a2=>?_
 rw[l1] at a1;obtain⟨e,he⟩:=sortedAll_at s.heap its (List.toArray (px.toList.map fun i=>its.getD i Value.none));refine⟨.ref (s.heap.objs.size+1),_,I.laid (t':=s.toks) (fun b ob q=>sortedAll_old q) (Nat.le_succ _) (show b7 X.prog X.w _ _ _ (.lst (px.toList.map fun i=>vs.getD i .aI)) from⟨?_,_,e,pJ rv px.toList (fun i hi=>by rw[l2];exact List.mem_range.mp (a1.mem_iff.mp hi)),by simpa using he⟩),rfl,q px.toList a1 (Dg a1 a2).2 _ (I.aS.fresh (Nat.le_succ _))⟩
 rw[List.length_map,a1.length_eq,List.length_range];exact Nat.le_trans (Nat.le_of_lt h64) (by decide)
def jU:T->Mu->(R->Mu->Prop)->Prop:=fun t μ Q=>match t with
 | .lst xs=>∃ bw:List (Int×Int),xs=bw.map mP/\bw.length < 64/\∀ out:List (Int×Int),out.Perm bw->Ew out->Q (.fr (.lst (out.map mP))) μ
 | _=>False
theorem lD{K:PySem.W.Frag}{H:Hp}{B:aJ}:∀ {bw:List (Int×Int)} {vs:List V},af K H B vs (bw.map mP)->Paired (G9 H) vs bw
 | [],_,r=>by cases r;exact .nil
 | p::bw,_,r=>by
  cases r with
  | cons h r =>
   refine .cons ?_ (lD r)
   cases h with
   | tup n h r' =>
    cases r' with
    | cons h1 r' =>
     cases h1
     cases r' with
     | cons h2 r' =>
      cases h2;cases r';exact⟨_,rfl,h⟩
theorem qo{K:PySem.W.Frag}{H:Hp}{B:aJ}{vs:List V}{bw:List (Int×Int)}(h:af K H B vs (bw.map mP)):∀ ix:List Nat,(∀ i∈ix,i < bw.length)->af K H B (ix.map fun i=>vs.getD i .aI) ((ix.map fun i=>bw.getD i (0,0)).map mP)
 | [],_=>.nil
 | i::ix,hi=>by
  refine .cons ?_ (qo h ix fun j hj=>hi j (List.mem_cons_of_mem _ hj));have hl:=hi i (List.mem_cons_self ..);obtain⟨v,e,r⟩:=af.get h (i:=i) (t:=mP bw[i]) (by rw[List.getElem?_map,List.getElem?_eq_getElem hl];rfl)
  show Rep K H B (vs.getD i .aI) (mP (bw.getD i (0,0)));rw[List.getD_eq_getElem?_getD,List.getD_eq_getElem?_getD,List.getElem?_eq_getElem hl,e];exact r
theorem sQ{K:PySem.W.Frag}:RC K (wb K) (n8 jU):=dS fun F ad B σ H μ Q Qt x t hK l v1 q k=>by
 subst hK
 cases v1 with
 | lst ha ra =>
  obtain⟨bw,rfl,h64,q⟩:=q;refine⟨_,_,bw,rfl,bB.of ha,lD ra,h64,fun ix a1 a2 p hp=>?_⟩;have e:=(List.range bw.length).map (fun i=>bw.getD i (0,0));have hpm:(ix.map fun i=>bw.getD i (0,0)).Perm bw:=by
   have h1:=a1.map fun i=>bw.getD i (0,0);have h2:(List.range bw.length).map (fun i=>bw.getD i (0,0))=bw:=by
    refine List.ext_getElem? fun i=>?_;rw[List.getElem?_map];rcases Nat.lt_or_ge i bw.length with c | c
    ·rw[List.getElem?_range c,List.getElem?_eq_getElem c];simp[c]
    ·rw[List.getElem?_eq_none_iff.mpr c,List.getElem?_eq_none_iff.mpr (by rw[List.length_range];exact c)];rfl
   rw[h2] at h1;exact h1
  exact k _ _ _ (Vr.dJ l (qo ra ix fun i hi=>List.mem_range.mp (a1.mem_iff.mp hi)) hp) (Fr.more hp) (q _ hpm a2)
 | _=>exact q.elim
end Y
namespace A
theorem jU(xs:List T)(μ:Mu)(Q:R->Mu->Prop):Y.jU (.lst xs) μ Q=(∃ bw:List (Int×Int),xs=bw.map Y.mP/\bw.length < 64/\∀ out:List (Int×Int),out.Perm bw->Ew out->Q (.fr (.lst (out.map Y.mP))) μ):=rfl
end A
end L2
namespace L2
open PySem PySem.Spec PyProof PyProof.Rows
namespace Y
def EE:R2:=fun x y H Q=>∃ i j,x=.str i/\y=.str j/\Q (.bl (decide (i.cps.toList < j.cps.toList))) H
theorem Be{X:Cx}:cO X (compareOp .Lt) EE:=rn
def vm:T->T->Mu->(R->Mu->Prop)->Prop:=fun t u μ Q=>match t,u with
 | .str i,.str j=>Q (.tr (.bl (decide (i.cps.toList < j.cps.toList)))) μ
 | _,_=>False
theorem BH{K:PySem.W.Frag}:iR K EE (pR vm):=dA fun F ad B σ H μ Q Qt x y t u hK l v1 v2 q k=>by
 unfold vm at q
 split at q
 ·cases v1;cases v2
  exact⟨_,_,rfl,rfl,k _ H _ (Vr.flat l (.bl _)) Fr.refl q⟩
 ·exact q.elim
def yU:R2:=fun x y H Q=>∃ a b,x=.bl a/\y=.bl b/\Q (.bl (!(a == b))) H
theorem yf{X:Cx}:cO X (compareOp .IsNot) yU:=by
 intro pins s σ H x y v u Q I rx ry h;obtain⟨a,b,rfl,rfl,q⟩:=h;have e1:v=.bool a:=rx;have e2:u=.bool b:=ry;subst e1 e2;refine wpAny_isNot_plain (by cases a<;>cases b<;>rfl) (aB I q ?_)
 cases a<;>cases b<;>rfl
def mx:T->T->Mu->(R->Mu->Prop)->Prop:=fun t u μ Q=>match t,u with
 | .bl a,.bl b=>Q (.tr (.bl (!(a == b)))) μ
 | _,_=>False
theorem xy{K:PySem.W.Frag}:iR K yU (pR mx):=dA fun F ad B σ H μ Q Qt x y t u hK l v1 v2 q k=>by
 unfold mx at q
 split at q
 ·cases v1;cases v2
  exact⟨_,_,rfl,rfl,k _ H _ (Vr.flat l (.bl _)) Fr.refl q⟩
 ·exact q.elim
end Y
namespace A
theorem vm(i j:Str)(μ:Mu)(Q:R->Mu->Prop):Y.vm (.str i) (.str j) μ Q=Q (.tr (.bl (decide (i.cps.toList < j.cps.toList)))) μ:=rfl
theorem mx(a b:Bool)(μ:Mu)(Q:R->Mu->Prop):Y.mx (.bl a) (.bl b) μ Q=Q (.tr (.bl (!(a == b)))) μ:=rfl
end A
end L2
namespace G
open PySem L2 PySem.Spec PyProof.Rows
def top(i:Nat):Stmt:=PySem.Challenge.pw_shortrows_k20_whole_codes.main.body.getD i (.Pass ⟨0,0,0,0⟩)
noncomputable abbrev bZ:Stmt:=top 5
theorem bQ:ax ["lengths","free","depth","left","length"] ["lengths"] (aa bZ):=⟨rfl,rfl,rfl,by decide +kernel,rfl,by decide +kernel,by decide +kernel⟩
noncomputable abbrev bG:Stmt:=top 6
theorem ny:ax ["counts","lengths"] ["counts","lengths"] (aa bG):=⟨rfl,rfl,rfl,by decide +kernel,rfl,by decide +kernel,by decide +kernel⟩
noncomputable abbrev au:Stmt:=top 7
theorem cy:ax ["counts","bound","things","chosen"] ["counts","bound"] (aa au):=⟨rfl,rfl,rfl,by decide +kernel,rfl,by decide +kernel,by decide +kernel⟩
noncomputable abbrev az:Stmt:=top 8
theorem aM:ax ["counts","bound","coins","shelf","depth","chosen","item"] ["counts","bound"] (aa az):=⟨rfl,rfl,rfl,by decide +kernel,rfl,by decide +kernel,by decide +kernel⟩
noncomputable abbrev b9:Stmt:=top 9
theorem mL:ax ["shelf"] ["shelf"] (aa b9):=⟨rfl,rfl,rfl,by decide +kernel,rfl,by decide +kernel,by decide +kernel⟩
noncomputable abbrev bp:Stmt:=top 10
theorem lZ:ax ["shelf"] ["shelf"] (aa bp):=⟨rfl,rfl,rfl,by decide +kernel,rfl,by decide +kernel,by decide +kernel⟩
noncomputable abbrev bH:Stmt:=top 12
theorem cU:ax ["lengths","words","ahead","thing"] ["lengths"] (aa bH):=⟨rfl,rfl,rfl,by decide +kernel,rfl,by decide +kernel,by decide +kernel⟩
noncomputable abbrev aN:Stmt:=top 13
theorem iO:ax ["ahead","length"] ["ahead","length"] (aa aN):=⟨rfl,rfl,rfl,by decide +kernel,rfl,by decide +kernel,by decide +kernel⟩
noncomputable abbrev bE:Stmt:=top 14
theorem gU:ax ["code","ordered"] ["code"] (aa bE):=⟨rfl,rfl,rfl,by decide +kernel,rfl,by decide +kernel,by decide +kernel⟩
noncomputable abbrev av:Stmt:=top 15
theorem eS:ax ["code","things"] ["code","things"] (aa av):=⟨rfl,rfl,rfl,by decide +kernel,rfl,by decide +kernel,by decide +kernel⟩
noncomputable abbrev aO:Stmt:=top 16
theorem bL:ax ["code","bits","things","place","thing"] ["code","bits"] (aa aO):=⟨rfl,rfl,rfl,by decide +kernel,rfl,by decide +kernel,by decide +kernel⟩
noncomputable abbrev bA:Stmt:=top 17
theorem dR:ax ["code","bits","place","thing","word"] ["code","bits","place"] (aa bA):=⟨rfl,rfl,rfl,by decide +kernel,rfl,by decide +kernel,by decide +kernel⟩
noncomputable abbrev bj:Stmt:=top 19
theorem fo:ax ["cell","number"] ["cell"] (aa bj):=⟨rfl,rfl,rfl,by decide +kernel,rfl,by decide +kernel,by decide +kernel⟩
noncomputable abbrev bf:Stmt:=top 20
theorem cM:ax ["seed","most","found","number"] ["seed","most"] (aa bf):=⟨rfl,rfl,rfl,by decide +kernel,rfl,by decide +kernel,by decide +kernel⟩
noncomputable abbrev aT:Stmt:=top 21
theorem jb:ax ["script","many"] ["script","many"] (aa aT):=⟨rfl,rfl,rfl,by decide +kernel,rfl,by decide +kernel,by decide +kernel⟩
noncomputable abbrev aD:Stmt:=top 24
theorem aF:ax ["seed","many","way","found","k","number","start"] ["seed","many"] (aa aD):=⟨rfl,rfl,rfl,by decide +kernel,rfl,by decide +kernel,by decide +kernel⟩
noncomputable abbrev aE:Stmt:=top 28
theorem aV:ax ["seed","many","words","k","at","left","found"] ["seed","many"] (aa aE):=⟨rfl,rfl,rfl,by decide +kernel,rfl,by decide +kernel,by decide +kernel⟩
noncomputable abbrev ar:Stmt:=top 31
theorem ay:ax ["seed","counts","bound","many","lengths","code","order","words","things","thing","left","bits","other"] ["seed","counts","bound"] (aa ar):=⟨rfl,rfl,rfl,by decide +kernel,rfl,by decide +kernel,by decide +kernel⟩
noncomputable abbrev dG:Stmt:=top 32
theorem iy:ax ["script","cell","seed","many","counts"] ["script"] (aa dG):=⟨rfl,rfl,rfl,by decide +kernel,rfl,by decide +kernel,by decide +kernel⟩
structure Txt (K:PySem.W.Frag) (mg:Str->Option Value):Prop where
 EF:mg "any"=none
 FW:mg "bool"=none
 fZ:mg "enumerate"=none
 D9:mg "int"=none
 xP:mg "isinstance"=none
 bR:mg "len"=none
 Ce:mg "list"=none
 oP:mg "max"=none
 Dz:mg "min"=none
 bY:mg "range"=none
 dX:mg "sorted"=none
 zE:mg "sum"=none
 bU:mg "tuple"=none
 vC:mg "zip"=none
 xs:∃ C_NoCode:Addr,mg "NoCode"=some (.ref C_NoCode)/\oi K C_NoCode
 kj:jG K mg "by_worth"
 lM:jG K mg "code_of"
section
variable {P:Program} {w:World} {K:PySem.W.Frag} {mg:Str->Option Value} {base:Heap}
local macro_rules | `(tactic| walk_at "lc") => `(tactic| first | exact Or.inl rfl | exact Or.inr rfl)
local macro_rules | `(tactic| wp_walk using $ts,*) => do
  let ids := ("L2.A.jU L2.A.vm L2.A.mx L2.A.oG L2.A.uZ L2.A.tZ L2.A.xv L2.A.CO L2.A.Bp L2.A.ig L2.A.xY L2.A.ER L2.A.sG L2.A.yp L2.A3.zZ L2.A3.AQ L2.A3.Di L2.A3.xr L2.A3.kC L2.A3.iU L2.A3.GY L2.A3.mw L2.A3.GD L2.A3.yV L2.A3.gT L2.A3.lX L2.A3.FJ L2.A3.FP L2.A3.FG L2.A3.Ey L2.A3.E3 L2.A3.add_l L2.A3.Gp L2.A3.Fu L2.A3.D3 L2.A3.Eo L2.A3.Dh L2.A3.CG L2.A3.Fz L2.A3.FY L2.A3.Ft L2.A3.G0 L2.A.EJ L2.A.yo L2.A.Dp L2.A.uC L2.A.zw L2.A.mE L2.A.yN L2.A.vJ L2.A.Dl L2.A.pG L2.A.xt L2.A.xZ L2.A.qr L2.A.uK L2.A.yk L2.A.xF L2.A.zV L2.A.gH L2.A.p8 L2.A.pR L2.A.CP L2.A.Fv L2.A.Ar L2.A.AD L2.A.DY L2.A.Gz L2.A.qO L2.A.DO L2.A.n8 L2.A.fD L2.A.l_ L2.A.yd L2.A.AI L2.A.CJ L2.A.GB L2.A.xG L2.A.EA L2.A.Ff L2.A.eX L2.A.dH L2.A.DZ L2.A.Df L2.A.D4 L2.A.Fn L2.A.EY L2.A.rC L2.A.EX L2.A.EO L2.A.kJ L2.A.m9 L2.A.iH L2.A.kU L2.A.Hh L2.A.Hn L2.A.sE L2.A.Eu L2.A.E6 L2.A.Er L2.A.D6 L2.A.Fm L2.A.EN L2.A.gS L2.A.xS L2.A.qm L2.A.xD L2.A.Fi L2.A.EZ L2.A.Fe L2.A.iZ L2.A.we L2.A.f_ L2.A.EW L2.A.fc L2.A.En L2.A.Hi L2.A.He vb L2.A.FN L2.A.F_ L2.A.FO L2.A.DW L2.A.DP L2.A.Dd L2.A.EG L2.A.Gb L2.A.FA L2.A.Fy L2.A.G3 L2.A.G1 L2.A.G2 Sl.box Sl.put cN L2.putAll wa fu fT L2.Y.trees L2.Y.yB L2.Y.su L2.Y.Fo L2.Y.Fd List.tail_cons Nat.zero_le startM wR bN Option.bind_some Option.map_some List.map_cons List.map_nil List.length_cons List.length_nil List.replicate List.cons_append List.nil_append List.getElem?_cons_zero List.getElem?_cons_succ List.set_cons_zero List.set_cons_succ List.nodup_nil List.nodup_cons List.not_mem_nil List.mem_cons not_false_eq_true false_implies implies_true forall_eq or_false true_and and_self true_or GI FR G5 FV Nat.reduceAdd Nat.reduceSub Nat.reduceLeDiff Bool.false_eq_true Bool.not_false decide_eq_true_eq Bool.not_eq_true' decide_eq_false_iff_not Int.reduceToNat Int.reducePow reduceCtorEq".splitOn " ").toArray.map fun n => Lean.mkIdent n.toName
  `(tactic| simp only [↓reduceIte, $[↓$ts:term],*, $[$ids:ident],*, $[$ts:term],*])
local macro_rules | `(tactic| walk_at "rt") => `(tactic| wp_walk using and_self)
namespace Kr
def ks(L:Nat):List Nat->Nat
 | []=>0
 | l::r=>2 ^ (L - l)+ks L r
theorem bF(L:Nat):∀ a b,ks L (a++b)=ks L a+ks L b
 | [],b=>by simp[ks]
 | x::a,b=>by simp[ks,bF L a b];lia
theorem kl{L:Nat}{a b:List Nat}(h:a.Perm b):ks L a=ks L b:=by
 induction h with
 | nil=>rfl
 | cons x _ ih=>simp[ks,ih]
 | swap x y l=>simp[ks];lia
 | trans _ _ h1 h2=>exact h1.trans h2
theorem rO{L d l:Nat}(h:d < l)(hl:l<=L):2 ^ (L - d)=2*2 ^ (L - (d+1)):=by
 have:L - d=(L - (d+1))+1:=by lia
 rw[this,Nat.pow_succ];lia
def fit:List Nat->Nat->Nat->Nat->Prop:=fun r free depth L=>ks L r<=free*2 ^ (L - depth)
theorem lI{L d:Nat}:∀ {r:List Nat},(∀ x∈r,d<=x)->ks L r<=r.length*2 ^ (L - d)
 | [],_=>by simp[ks]
 | x::r,h=>by
  have ih:=lI (L:=L) (d:=d) (r:=r) fun y hy=>h y (List.mem_cons_of_mem _ hy);have hx:=h x List.mem_cons_self;have:=Nat.pow_le_pow_right (n:=2) (by decide) (Nat.sub_le_sub_left hx L)
  simp only[ks,List.length_cons,Nat.succ_mul];lia
theorem Aw{L:Nat}{x:Nat}{r:List Nat}:0 < ks L (x::r):=by
 have:=Nat.pow_pos (n:=L - x) (show 0 < 2 by decide)
 simp only[ks];lia
theorem oq{r:List Nat}{free depth L:Nat}(h:∀ x∈r,depth<=x)(hf:r.length<=free):fit r free depth L:=
 Nat.le_trans (lI h) (Nat.mul_le_mul_right _ hf)
theorem mT{r:List Nat}{free depth L l:Nat}(h:depth < l)(hl:l<=L):fit r free depth L ↔ fit r (free*2) (depth+1) L:=by
 unfold fit;rw[rO h hl,Nat.mul_assoc]
theorem uy{r:List Nat}{free l L:Nat}(hf:0 < free):fit (l::r) free l L ↔ fit r (free - 1) l L:=by
 unfold fit;simp only[ks];obtain⟨f,rfl⟩:∃ f,free=f+1:=⟨free - 1,by lia⟩
 rw[Nat.add_sub_cancel,Nat.succ_mul];lia
theorem sR{x:Nat}{r:List Nat}{depth L:Nat}:¬ fit (x::r) 0 depth L:=by
 unfold fit;have:=Aw (L:=L) (x:=x) (r:=r);lia
end Kr
namespace Pm
noncomputable abbrev It:=Int×List Nat
def wt(X:List It):Int:=(X.map fun x=>x.1).sum
def th(X:List It):List Nat:=X.flatMap fun x=>x.2
theorem cZ(x:It)(X:List It):wt (x::X)=x.1+wt X:=by simp[wt]
theorem vd:wt []=0:=rfl
theorem vL(X Y:List It):wt (X++Y)=wt X+wt Y:=by simp[wt]
theorem rm{a b:List Int}(h:a.Perm b):a.sum=b.sum:=by
 induction h with
 | nil=>rfl
 | cons x _ ih=>rw[List.sum_cons,List.sum_cons,ih]
 | swap x y l=>simp only[List.sum_cons];lia
 | trans _ _ h1 h2=>exact h1.trans h2
theorem ye{X Y:List It}(h:X.Perm Y):wt X=wt Y:=rm (h.map _)
theorem bg(x:It)(X:List It):th (x::X)=x.2++th X:=List.flatMap_cons ..
theorem fA(X Y:List It):th (X++Y)=th X++th Y:=List.flatMap_append ..
theorem gM{X Y:List It}(h:X.Perm Y):(th X).Perm (th Y):=by
 induction h with
 | nil=>exact .refl _
 | cons x _ ih=>rw[bg,bg];exact ih.append_left _
 | swap x y l =>
  rw[bg,bg,bg,bg,<- List.append_assoc,<- List.append_assoc];exact List.perm_append_comm.append_right _
 | trans _ _ h1 h2=>exact h1.trans h2
theorem pick{α:Type}{a:α}{X:List α}(h:a∈X):∃ X',X.Perm (a::X'):=by
 obtain⟨s,t,rfl⟩:=List.append_of_mem h;exact⟨s++t,List.perm_middle⟩
theorem split{α:Type}:∀ (A B X Y:List α),(A++B).Perm (X++Y)->∃ X1 X2 Y1 Y2,X.Perm (X1++X2)/\A.Perm (X1++Y1)/\B.Perm (X2++Y2)
 | [],B,X,Y,h=>⟨[],X,[],Y,.refl _,.refl _,h⟩
 | a::A,B,X,Y,h=>by
  rw[List.cons_append] at h;rcases List.mem_append.mp (h.mem_iff.mp List.mem_cons_self) with m | m
  ·obtain⟨X',hX⟩:=pick m;have h2:(a::(A++B)).Perm (a::(X'++Y)):=h.trans (hX.append_right Y);obtain⟨X1,X2,Y1,Y2,p1,p2,p3⟩:=split A B X' Y h2.cons_inv;exact⟨a::X1,X2,Y1,Y2,hX.trans (p1.cons a),p2.cons a,p3⟩
  ·obtain⟨Y',hY⟩:=pick m;have h2:(a::(A++B)).Perm (a::(X++Y')):=(h.trans (hY.append_left X)).trans List.perm_middle;obtain⟨X1,X2,Y1,Y2,p1,p2,p3⟩:=split A B X Y' h2.cons_inv;exact⟨X1,X2,a::Y1,Y2,p1,(p2.cons a).trans List.perm_middle.symm,p3⟩
def Up(A:List It):Prop:=A.Pairwise fun x y=>x.1<=y.1
theorem zj{X:List It}(h:∀ x∈X,0<=x.1):0<=wt X:=by
 induction X with
 | nil=>exact Int.le_refl 0
 | cons x X ih =>
  rw[cZ];have:=h x List.mem_cons_self;have:=ih fun y hy=>h y (List.mem_cons_of_mem _ hy);lia
theorem dU:∀ (A X Y:List It) (k:Nat),Up A->(∀ x∈A,0<=x.1)->A.Perm (X++Y)->k<=X.length->wt (A.take k)<=wt X
 | [],X,Y,k,_,_,h,hk=>by
  have e:X++Y=[]:=h.symm.eq_nil;have:X=[]:=(List.append_eq_nil_iff.mp e).1;subst this;simp[wt]
 | a::A,X,Y,0,_,hn,h,_=>by
  rw[List.take_zero,vd];exact zj fun x hx=>hn x (h.mem_iff.mpr (List.mem_append.mpr (.inl hx)))
 | a::A,X,Y,k+1,hu,hn,h,hk=>by
  have hu2:=List.pairwise_cons.mp hu;have hn2:∀ x∈A,0<=x.1:=fun x hx=>hn x (List.mem_cons_of_mem _ hx);rw[List.take_succ_cons,cZ];rcases List.mem_append.mp (h.mem_iff.mp List.mem_cons_self) with m | m
  ·obtain⟨X',hX⟩:=pick m;have h2:(a::A).Perm (a::(X'++Y)):=h.trans (hX.append_right Y);have hl:=hX.length_eq;rw[List.length_cons] at hl;have:=dU A X' Y k hu2.2 hn2 h2.cons_inv (by lia)
   rw[ye hX,cZ];lia
  ·obtain⟨Y',hY⟩:=pick m
   cases X with
   | nil=>simp at hk
   | cons x X' =>
    have h2:(a::A).Perm (a::(x::X'++Y')):=(h.trans (hY.append_left _)).trans List.perm_middle;have h3:=h2.cons_inv;have hx:x∈A:=h3.mem_iff.mpr (by simp)
    have:=hu2.1 x hx;have h4:A.Perm (X'++(x::Y')):=h3.trans (by rw[List.cons_append];exact List.perm_middle.symm)
    have:=dU A X' (x::Y') k hu2.2 hn2 h4 (by rw[List.length_cons] at hk;lia)
    rw[cZ];lia
def pk:List It->List It
 | a::b::r=>(a.1+b.1,a.2++b.2)::pk r
 | _=>[]
theorem n9:∀ (A X Y:List It),(pk A).Perm (X++Y)->∃ X' Y',A.Perm (X'++Y')/\X'.length=2*X.length/\(th X').Perm (th X)
 | [],X,Y,h=>by
  have:X=[]:=(List.append_eq_nil_iff.mp h.symm.eq_nil).1;subst this;exact⟨[],[],.refl _,rfl,.refl _⟩
 | [a],X,Y,h=>by
  have:X=[]:=(List.append_eq_nil_iff.mp h.symm.eq_nil).1;subst this;exact⟨[],[a],.refl _,rfl,.refl _⟩
 | a::b::r,X,Y,h=>by
  unfold pk at h;rcases List.mem_append.mp (h.mem_iff.mp List.mem_cons_self) with m | m
  ·obtain⟨X',hX⟩:=pick m;obtain⟨X2,Y2,p1,p2,p3⟩:=n9 r X' Y (h.trans (hX.append_right Y)).cons_inv;refine⟨a::b::X2,Y2,(p1.cons b).cons a,?_,?_⟩
   ·rw[hX.length_eq];simp only[List.length_cons];lia
   ·refine List.Perm.trans ?_ (gM hX).symm;rw[bg,bg,bg,<- List.append_assoc];exact p3.append_left _
  ·obtain⟨Y',hY⟩:=pick m;obtain⟨X2,Y2,p1,p2,p3⟩:=n9 r X Y' ((h.trans (hY.append_left X)).trans List.perm_middle).cons_inv;exact⟨X2,a::b::Y2,(((p1.cons b).cons a).trans ((List.perm_middle (l₁:=X2) (l₂:=Y2) (a:=b)).symm.cons a)).trans List.perm_middle.symm,p2,p3⟩
theorem kR:∀ A:List It,(pk A).length=A.length / 2
 | []=>rfl
 | [_]=>by simp[pk]
 | a::b::r=>by
  unfold pk;rw[List.length_cons,kR r];simp only[List.length_cons];lia
theorem qE:∀ (A:List It) (p:Nat),(∀ x∈A,0<=x.1)->wt ((pk A).take p)<=wt (A.take (2*p))
 | [],p,_=>by simp[pk]
 | [a],p,h=>by
  have:=zj (X:=[a].take (2*p)) fun x hx=>h x (List.mem_of_mem_take hx)
  simpa[pk,vd] using this
 | a::b::r,0,_=>by simp
 | a::b::r,p+1,h=>by
  have:=qE r p fun x hx=>h x (by simp[hx])
  unfold pk;rw[show 2*(p+1)=2*p+1+1 by lia,List.take_succ_cons,List.take_succ_cons,List.take_succ_cons,cZ,cZ,cZ]
  show a.1+b.1+_<=_;lia
theorem zy:∀ {A:List It},(∀ x∈A,0<=x.1)->∀ x∈pk A,0<=x.1
 | [],_,x,h=>by cases h
 | [_],_,x,h=>by cases h
 | a::b::r,hn,x,h=>by
  unfold pk at h;rcases List.mem_cons.mp h with e | e
  ·have:=hn a (by simp)
   have:=hn b (by simp)
   rw[e];show 0<=a.1+b.1;lia
  ·exact zy (A:=r) (fun y hy=>hn y (by simp[hy])) x e
def sN(f:Nat->Nat):Nat->Nat
 | 0=>0
 | n+1=>sN f n+f n
def sI(f:Nat->Int):Nat->Int
 | 0=>0
 | n+1=>sI f n+f n
theorem fC(f g:Nat->Nat):∀ n,sN (fun i=>f i+g i) n=sN f n+sN g n
 | 0=>rfl
 | n+1=>by simp only[sN,fC f g n];lia
theorem ki(k:Nat)(f:Nat->Nat):∀ n,sN (fun i=>k*f i) n=k*sN f n
 | 0=>rfl
 | n+1=>by simp only[sN,ki k f n];rw[Nat.mul_add]
theorem vD{f g:Nat->Nat}:∀ {n},(∀ i,i < n->f i<=g i)->sN f n<=sN g n
 | 0,_=>Nat.le_refl _
 | n+1,h=>by
  have:=vD (n:=n) fun i hi=>h i (by lia)
  have:=h n (by lia)
  simp only[sN];lia
theorem cI{f g:Nat->Nat}:∀ {n},(∀ i,i < n->f i=g i)->sN f n=sN g n
 | 0,_=>rfl
 | n+1,h=>by simp only[sN];rw[cI (n:=n) fun i hi=>h i (by lia),h n (by lia)]
theorem nR(f g:Nat->Int):∀ n,sI (fun i=>f i+g i) n=sI f n+sI g n
 | 0=>rfl
 | n+1=>by simp only[sI,nR f g n];lia
theorem dv{f g:Nat->Int}:∀ {n},(∀ i,i < n->f i=g i)->sI f n=sI g n
 | 0,_=>rfl
 | n+1,h=>by simp only[sI];rw[dv (n:=n) fun i hi=>h i (by lia),h n (by lia)]
theorem kh:∀ n,sN (fun _=>0) n=0
 | 0=>rfl
 | n+1=>by simp only[sN,kh n]
theorem ke:∀ n,sI (fun _=>0) n=0
 | 0=>rfl
 | n+1=>by simp only[sI,ke n];rfl
theorem ko(x:Nat):∀ n,sN (fun i=>if x=i then 1 else 0) n=if x < n then 1 else 0
 | 0=>rfl
 | n+1=>by
  simp only[sN,ko x n];by_cases h:x < n
  ·rw[if_pos h,if_neg (by lia),if_pos (by lia)]
  ·by_cases h2:x=n
   ·rw[if_neg h,if_pos h2,if_pos (by lia)]
   ·rw[if_neg h,if_neg h2,if_neg (by lia)]
theorem sH(c:Nat->Int)(x:Nat):∀ n,sI (fun i=>if x=i then c i else 0) n=if x < n then c x else 0
 | 0=>rfl
 | n+1=>by
  simp only[sI,sH c x n];by_cases h:x < n
  ·rw[if_pos h,if_neg (by lia),if_pos (by lia)];lia
  ·by_cases h2:x=n
   ·subst h2;rw[if_neg h,if_pos rfl,if_pos (by lia)];lia
   ·rw[if_neg h,if_neg h2,if_neg (by lia)];rfl
theorem fV(i x:Nat)(l:List Nat):(x::l).count i=l.count i+if x=i then 1 else 0:=by
 rw[List.count_cons];by_cases h:x=i<;>simp[h]
theorem ma{n:Nat}:∀ {l:List Nat},(∀ x∈l,x < n)->sN (fun i=>l.count i) n=l.length
 | [],_=>by simp[kh]
 | x::l,h=>by
  have e:=ma (n:=n) (l:=l) fun y hy=>h y (List.mem_cons_of_mem _ hy);rw[cI (g:=fun i=>l.count i+if x=i then 1 else 0) fun i _=>fV i x l,fC,e,ko,if_pos (h x List.mem_cons_self),List.length_cons]
theorem lO{n:Nat}{c:Nat->Int}:∀ {l:List Nat},(∀ x∈l,x < n)->(l.map c).sum=sI (fun i=>c i*(l.count i:Int)) n
 | [],_=>by simp[ke]
 | x::l,h=>by
  have e:=lO (n:=n) (c:=c) (l:=l) fun y hy=>h y (List.mem_cons_of_mem _ hy);rw[dv (g:=fun i=>c i*(l.count i:Int)+if x=i then c i else 0) fun i _=>?_,nR,<- e,sH,if_pos (h x List.mem_cons_self),List.map_cons,List.sum_cons]
  ·lia
  ·rw[fV];by_cases z:x=i
   ·rw[if_pos z,if_pos z,Int.natCast_add,Int.mul_add];simp
   ·rw[if_neg z,if_neg z];simp
section
variable (c:Nat->Int) (n:Nat)
def coins:List It:=(List.range n).map fun i=>(c i,[i])
def C0(l:List It):List It:=d6 (l.map fun x=>x.1) l
def shelf:Nat->List It
 | 0=>[]
 | d+1=>C0 (coins c n++pk (shelf d))
end
theorem dn(l:List It):(C0 l).Perm l:=iN (by rw[List.length_map])
theorem kH:∀ (l:List It) (p:Int×It),p∈(l.map fun x=>x.1).zip l->p.1=p.2.1
 | [],p,h=>by cases h
 | x::l,p,h=>by
  rw[List.map_cons,List.zip_cons_cons] at h;rcases List.mem_cons.mp h with e | e
  ·rw[e]
  ·exact kH l p e
theorem Af(l:List It):Up (C0 l):=by
 unfold C0 d6 Up;rw[List.pairwise_map];refine (gY ((l.map fun x=>x.1).zip l)).imp_of_mem fun {a b} ha hb h=>?_;rw[<- kH l a ((bW _).mem_iff.mp ha),<- kH l b ((bW _).mem_iff.mp hb)];exact h
variable {c:Nat->Int} {n:Nat}
theorem vh:∀ d,Up (shelf c n d)
 | 0=>List.Pairwise.nil
 | d+1=>Af _
theorem i3(hc:∀ i,i < n->0<=c i):∀ d,∀ x∈shelf c n d,0<=x.1
 | 0,x,h=>by cases h
 | d+1,x,h=>by
  rcases List.mem_append.mp ((dn _).mem_iff.mp h) with m | m
  ·obtain⟨i,hi,rfl⟩:=List.mem_map.mp m;exact hc i (List.mem_range.mp hi)
  ·exact zy (i3 hc d) x m
def Wd(c:Nat->Int)(n:Nat)(x:It):Prop:=x.1=(x.2.map c).sum/\∀ i∈x.2,i < n
theorem zg:∀ {A:List It},(∀ x∈A,Wd c n x)->∀ x∈pk A,Wd c n x
 | [],_,x,h=>by cases h
 | [_],_,x,h=>by cases h
 | a::b::r,hn,x,h=>by
  unfold pk at h;rcases List.mem_cons.mp h with e | e
  ·have h1:=hn a (by simp)
   have h2:=hn b (by simp)
   rw[e];refine⟨?_,fun i hi=>?_⟩
   ·show a.1+b.1=_;rw[h1.1,h2.1,List.map_append,List.sum_append]
   ·rcases List.mem_append.mp hi with z | z
    ·exact h1.2 i z
    ·exact h2.2 i z
  ·exact zg (A:=r) (fun y hy=>hn y (by simp[hy])) x e
theorem lH:∀ d,∀ x∈shelf c n d,Wd c n x
 | 0,x,h=>by cases h
 | d+1,x,h=>by
  rcases List.mem_append.mp ((dn _).mem_iff.mp h) with m | m
  ·obtain⟨i,hi,rfl⟩:=List.mem_map.mp m;exact⟨by simp,fun j hj=>by rw[List.mem_singleton.mp hj];exact List.mem_range.mp hi⟩
  ·exact zg (lH d) x m
theorem zA:∀ {X:List It},(∀ x∈X,Wd c n x)->wt X=((th X).map c).sum/\∀ i∈th X,i < n
 | [],_=>⟨rfl,fun i h=>by cases h⟩
 | x::X,h=>by
  obtain⟨h1,h2⟩:=zA (X:=X) fun y hy=>h y (List.mem_cons_of_mem _ hy);have h3:=h x List.mem_cons_self;rw[cZ,bg,List.map_append,List.sum_append,h1,h3.1];exact⟨rfl,fun i hi=>(List.mem_append.mp hi).elim (h3.2 i) (h2 i)⟩
theorem lq:th (coins c n)=List.range n:=by
 unfold th coins;rw[List.flatMap_map];generalize List.range n=l
 induction l with
 | nil=>rfl
 | cons x l ih=>rw[List.flatMap_cons,ih];rfl
theorem uQ{C Y:List It}(h:(coins c n).Perm (C++Y)):(∀ i,(th C).count i<=1)/\(th C).length=C.length/\∀ i∈th C,i < n:=by
 have h1:(List.range n).Perm (th C++th Y):=by rw[<- fA,<- lq (c:=c)];exact gM h
 have hm:∀ x∈C,∃ i,x.2=[i]:=fun x hx=>by
  obtain⟨i,_,e⟩:=List.mem_map.mp (h.mem_iff.mpr (List.mem_append.mpr (.inl hx)));exact⟨i,by rw[<- e]⟩
 refine⟨fun i=>?_,?_,fun i hi=>List.mem_range.mp (h1.mem_iff.mpr (List.mem_append.mpr (.inl hi)))⟩
 ·have h2:=h1.count_eq i;rw[List.count_append] at h2;have h3:(List.range n).count i<=1:=List.nodup_iff_count.mp List.nodup_range i;lia
 ·clear h h1
  induction C with
  | nil=>rfl
  | cons x C ih =>
   obtain⟨i,e⟩:=hm x List.mem_cons_self;rw[bg,e,List.length_append,List.length_cons,List.length_cons,ih fun y hy=>hm y (List.mem_cons_of_mem _ hy)]
   simp;lia
theorem pL(a b D:Nat):(a+b)*2 ^ (D+1)=2*(2 ^ D*a)+2*b*2 ^ D:=by
 rw[Nat.pow_succ];generalize 2 ^ D=x;have h1:a*(x*2)=2*(x*a):=by rw[Nat.mul_comm a,Nat.mul_comm x 2,Nat.mul_assoc]
 have h2:b*(x*2)=2*b*x:=by rw[Nat.mul_comm x 2,<- Nat.mul_assoc,Nat.mul_comm b 2]
 rw[Nat.add_mul,h1,h2]
theorem two_split{D a:Nat}(h:a<=D):2 ^ (D+1 - a)=2*2 ^ (D - a):=by
 rw[show D+1 - a=(D - a)+1 by lia,Nat.pow_succ];lia
theorem worth:∀ (D:Nat) (X Y:List It),(shelf c n D).Perm (X++Y)->(∀ i,(th X).count i<=D)/\X.length*2 ^ D<=2*sN (fun i=>2 ^ D - 2 ^ (D - (th X).count i)) n
 | 0,X,Y,h=>by
  have:X=[]:=(List.append_eq_nil_iff.mp h.symm.eq_nil).1;subst this;exact⟨fun i=>Nat.le_refl 0,by simp⟩
 | D+1,X,Y,h=>by
  obtain⟨C,P,Y1,Y2,p1,p2,p3⟩:=split _ _ X Y ((dn _).symm.trans h);obtain⟨X',Y',q1,q2,q3⟩:=n9 _ _ _ p3;obtain⟨i1,i2⟩:=worth D X' Y' q1;obtain⟨c1,c2,c3⟩:=uQ p2;have e:∀ i,(th X).count i=(th C).count i+(th X').count i:=fun i=>by
   rw[(gM p1).count_eq,fA,List.count_append,q3.count_eq]
  have hl:X.length=C.length+P.length:=by rw[p1.length_eq,List.length_append]
  refine⟨fun i=>by rw[e];have:=c1 i;have:=i1 i;lia,?_⟩
  have key:sN (fun i=>2 ^ D*(th C).count i+(2 ^ D - 2 ^ (D - (th X').count i))) n<=sN (fun i=>2 ^ (D+1) - 2 ^ (D+1 - (th X).count i)) n:=vD fun i _=>by
   have a1:=c1 i;have a2:=i1 i;have a3:2 ^ (D - (th X').count i)<=2 ^ D:=Nat.pow_le_pow_right (by decide) (Nat.sub_le _ _)
   have a4:2 ^ (D+1)=2*2 ^ D:=by rw[Nat.pow_succ];lia
   rw[e i];rcases Nat.eq_zero_or_pos ((th C).count i) with z | z
   ·rw[z,Nat.zero_add,two_split a2,a4];lia
   ·rw[show (th C).count i=1 by lia,show D+1 - (1+(th X').count i)=D - (th X').count i by lia,a4];lia
  rw[fC,ki,ma c3,c2] at key;rw[q2] at i2;rw[hl,pL];lia
theorem least(hc:∀ i,i < n->0<=c i):∀ (D:Nat) (l:Nat->Nat),(∀ i,i < n->l i<=D)->∀ k,k*2 ^ D<=2*sN (fun i=>2 ^ D - 2 ^ (D - l i)) n->k<=(shelf c n D).length/\wt ((shelf c n D).take k)<=sI (fun i=>c i*(l i:Int)) n
 | 0,l,hl,k,hk=>by
  have e:sN (fun i=>2 ^ 0 - 2 ^ (0 - l i)) n=0:=by
   rw[cI (g:=fun _=>0) fun i hi=>?_,kh];rw[show l i=0 by have:=hl i hi;lia]
  rw[e] at hk;have hk0:k=0:=by simpa using hk
  subst hk0;refine⟨Nat.zero_le _,?_⟩;rw[dv (g:=fun _=>0) fun i hi=>?_,ke]
  ·exact Int.le_refl 0
  ·rw[show l i=0 by have:=hl i hi;lia];simp
 | D+1,l,hl,k,hk=>by
  have cz:∀ m,m<=n->∃ C Y:List It,(coins c m).Perm (C++Y)/\wt C=sI (fun i=>if 1<=l i then c i else 0) m/\C.length=sN (fun i=>if 1<=l i then 1 else 0) m:=fun m=>by
   induction m with
   | zero=>exact fun _=>⟨[],[],.refl _,rfl,rfl⟩
   | succ m ih =>
    intro hm;obtain⟨C,Y,h1,h2,h3⟩:=ih (by lia)
    have e:coins c (m+1)=coins c m++[(c m,[m])]:=by unfold coins;rw[List.range_succ,List.map_append];rfl
    by_cases z:1<=l m
    ·refine⟨C++[(c m,[m])],Y,?_,?_,?_⟩
     ·rw[e];refine (h1.append_right _).trans ?_;rw[List.append_assoc,List.append_assoc];exact List.perm_append_comm.append_left C
     ·rw[vL,h2];simp only[sI,if_pos z];simp[wt]
     ·rw[List.length_append,h3];simp only[sN,if_pos z];rfl
    ·refine⟨C,Y++[(c m,[m])],?_,?_,?_⟩
     ·rw[e,<- List.append_assoc];exact h1.append_right _
     ·rw[h2];simp only[sI,if_neg z];lia
     ·rw[h3];simp only[sN,if_neg z];lia
  obtain⟨C,Y,h1,h2,h3⟩:=cz n (Nat.le_refl _);have eV:2*sN (fun i=>2 ^ (D+1) - 2 ^ (D+1 - l i)) n=2*(2 ^ D*C.length)+2*sN (fun i=>2 ^ D - 2 ^ (D - (l i - 1))) n:=by
   rw[h3,<- ki (2 ^ D),<- Nat.mul_add,<- fC];congr 1;refine cI fun i hi=>?_;have a4:2 ^ (D+1)=2*2 ^ D:=by rw[Nat.pow_succ];lia
   by_cases z:1<=l i
   ·have a3:2 ^ (D - (l i - 1))<=2 ^ D:=Nat.pow_le_pow_right (by decide) (Nat.sub_le _ _)
    rw[if_pos z,show D+1 - l i=D - (l i - 1) by lia,a4];lia
   ·rw[if_neg z,show l i=0 by lia,Nat.sub_zero,Nat.zero_sub,Nat.sub_zero];simp
  rw[eV] at hk;have hk2:2*(k - C.length)*2 ^ D<=2*sN (fun i=>2 ^ D - 2 ^ (D - (l i - 1))) n:=by
   rcases Nat.le_total k C.length with z | z
   ·rw[Nat.sub_eq_zero_of_le z];simp
   ·obtain⟨j,rfl⟩:=Nat.le.dest z;rw[Nat.add_sub_cancel_left];rw[pL] at hk;lia
  obtain⟨g1,g2⟩:=least hc D (fun i=>l i - 1) (fun i hi=>by have:=hl i hi;lia) _ hk2
  have nn:=i3 hc D;have hp:=qE (shelf c n D) (k - C.length) nn;have hpl:((pk (shelf c n D)).take (k - C.length)).length=k - C.length:=by
   rw[List.length_take,kR];lia
  have hX:(shelf c n (D+1)).Perm ((C++(pk (shelf c n D)).take (k - C.length))++(Y++(pk (shelf c n D)).drop (k - C.length))):=by
   refine (dn _).trans ((h1.append_right _).trans ?_);rw[List.append_assoc,List.append_assoc];refine List.Perm.append_left C ?_;have:pk (shelf c n D)=(pk (shelf c n D)).take (k - C.length)++(pk (shelf c n D)).drop (k - C.length):=(List.take_append_drop _ _).symm;refine List.Perm.trans (l₂:=Y++((pk (shelf c n D)).take (k - C.length)++(pk (shelf c n D)).drop (k - C.length))) (by rw[<- this]) ?_
   rw[<- List.append_assoc,<- List.append_assoc];exact List.perm_append_comm.append_right _
  have hlen:k<=(C++(pk (shelf c n D)).take (k - C.length)).length:=by rw[List.length_append,hpl];lia
  have hmin:=dU _ _ _ k (vh (D+1)) (i3 hc (D+1)) hX hlen;refine⟨by rw[hX.length_eq,List.length_append];lia,?_⟩
  rw[vL,h2] at hmin;have e:sI (fun i=>c i*(l i:Int)) n=sI (fun i=>if 1<=l i then c i else 0) n+sI (fun i=>c i*((l i - 1:Nat):Int)) n:=by
   rw[<- nR];refine dv fun i hi=>?_;by_cases z:1<=l i
   ·rw[if_pos z];obtain⟨j,hj⟩:=Nat.le.dest z;rw[<- hj,Nat.add_sub_cancel_left,Int.natCast_add,Int.mul_add];simp
   ·rw[if_neg z,show l i=0 by lia];simp
  rw[e];lia
theorem ij{D:Nat}{l:Nat->Nat}(hl:∀ i,i < n->l i<=D):sN (fun i=>2 ^ D - 2 ^ (D - l i)) n+sN (fun i=>2 ^ (D - l i)) n=n*2 ^ D:=by
 rw[<- fC,cI (g:=fun _=>2 ^ D) fun i _=>?_]
 ·clear hl
  induction n with
  | zero=>simp[sN]
  | succ n ih=>simp only[sN,ih];rw[Nat.succ_mul]
 ·exact Nat.sub_add_cancel (Nat.pow_le_pow_right (by decide) (Nat.sub_le _ _))
def dC(c:Nat->Int)(n D i:Nat):Nat:=(th ((shelf c n D).take (2*n - 2))).count i
theorem xq(hc:∀ i,i < n->0<=c i){D:Nat}(hn:2<=n)(hD:n<=2 ^ D):
  (∀ i,dC c n D i<=D)/\(∀ i,i < n->1<=dC c n D i)/\sN (fun i=>2 ^ (D - dC c n D i)) n<=2 ^ D/\wt ((shelf c n D).take (2*n - 2))=sI (fun i=>c i*(dC c n D i:Int)) n:=by
 have hp:(shelf c n D).Perm ((shelf c n D).take (2*n - 2)++(shelf c n D).drop (2*n - 2)):=by rw[List.take_append_drop]
 obtain⟨w1,w2⟩:=worth D _ _ hp;have hk:(2*n - 2)*2 ^ D<=2*sN (fun _=>2 ^ D - 2 ^ (D - D)) n:=by
  have this:sN (fun _=>2 ^ D - 2 ^ (D - D)) n+sN (fun _=>2 ^ (D - D)) n=n*2 ^ D:=ij (n:=n) (D:=D) (l:=fun _=>D) fun _ _=>Nat.le_refl _;have e:∀ m,sN (fun _=>2 ^ (D - D)) m=m:=fun m=>by
   rw[cI (g:=fun _=>1) fun i _=>by simp]
   induction m with
   | zero=>rfl
   | succ n ih=>simp only[sN,ih]
  rw[e] at this;clear e;have h2:(2*n - 2)*2 ^ D=2*(n*2 ^ D) - 2*2 ^ D:=by rw[Nat.sub_mul,Nat.mul_assoc]
  rw[h2];lia
 have hlen:=(least hc D (fun _=>D) (fun _ _=>Nat.le_refl _) _ hk).1;have e1:((shelf c n D).take (2*n - 2)).length=2*n - 2:=by rw[List.length_take];lia
 rw[e1] at w2;have w3:=ij (n:=n) (D:=D) (l:=dC c n D) fun i _=>w1 i;have w2':(2*n - 2)*2 ^ D<=2*sN (fun i=>2 ^ D - 2 ^ (D - dC c n D i)) n:=w2;have h2:(2*n - 2)*2 ^ D=2*(n*2 ^ D) - 2*2 ^ D:=by rw[Nat.sub_mul,Nat.mul_assoc]
 have hks:sN (fun i=>2 ^ (D - dC c n D i)) n<=2 ^ D:=by
  have:n*2 ^ D >= 1*2 ^ D:=Nat.mul_le_mul_right _ (by lia)
  lia
 refine⟨w1,fun i hi=>?_,hks,?_⟩
 ·rcases Nat.eq_zero_or_pos (dC c n D i) with z | z
  ·exfalso
   have hpos:∀ j,1<=2 ^ (D - dC c n D j):=fun j=>Nat.pow_pos (by decide)
   obtain⟨j,hj,hji⟩:∃ j,j < n/\j≠i:=if h:i=0 then ⟨1,by lia,by lia⟩ else ⟨0,by lia,by lia⟩
   have:sN (fun k=>(if i=k then 2 ^ D else 0)+if j=k then 1 else 0) n<=sN (fun i=>2 ^ (D - dC c n D i)) n:=vD fun k hk=>by
    by_cases a:i=k
    ·subst a;rw[if_pos rfl,if_neg hji,z];simp
    ·rw[if_neg a];have:=hpos k;by_cases b:j=k
     ·rw[if_pos b];lia
     ·rw[if_neg b];lia
   rw[fC,ko,if_pos hj] at this;have e:sN (fun k=>if i=k then 2 ^ D else 0) n=2 ^ D:=by
    rw[cI (g:=fun k=>2 ^ D*if i=k then 1 else 0) fun k _=>by by_cases a:i=k<;>simp[a],ki,ko,if_pos hi,Nat.mul_one]
   rw[e] at this;lia
  ·exact z
 ·have hw:=zA (X:=(shelf c n D).take (2*n - 2)) fun x hx=>lH (c:=c) (n:=n) D x (List.mem_of_mem_take hx);rw[hw.1,lO hw.2];rfl
theorem nJ(hc:∀ i,i < n->0<=c i){D:Nat}(hn:1<=n){l:Nat->Nat}(hl:∀ i,i < n->l i<=D)(hk:sN (fun i=>2 ^ (D - l i)) n<=2 ^ D):wt ((shelf c n D).take (2*n - 2))<=sI (fun i=>c i*(l i:Int)) n:=by
 refine (least hc D l hl (2*n - 2) ?_).2;have:=ij hl;have h2:(2*n - 2)*2 ^ D=2*(n*2 ^ D) - 2*2 ^ D:=by rw[Nat.sub_mul,Nat.mul_assoc]
 rw[h2];lia
end Pm
def dw(s:T):Prop:=∃ n f c m:Int,s=.lst [.int n,.int f,.int c,.int m]
theorem dw.flat{s:T}(h:dw s):fe s=true:=by obtain⟨n,f,c,m,rfl⟩:=h;rfl
def mH:fL:=fun args Q=>∃ (s:T) (k:Int),args=[s,.int k]/\dw s/\0 < k/\k < 2 ^ 30/\∀ (v:Int) (s':T),dw s'->0<=v->v < k->Q (.tr (.int v)) [s']
theorem yL(T:Txt K mg)(F:HasFn K mg "_law_draw" bf ["seed","most"]):ah P w K mg base cw 1 "_law_draw" ["seed","most"] (spT K [true,false] mH):=by
 refine F.pg cM [true,false] rfl (by decide) (fun args Qt hl h f cdv A outer s H E hr=>?_)
 have hu:=b_ hr;obtain⟨sd,k,rfl,⟨n,fl,c,m,rfl⟩,k0,k1,q⟩:=h;refine⟨_,(Y.ai (Y.asg (Y.op (Y.aG K rfl) Y.aH (Y.ix (Y.cJ K rfl) Y.aR (Y.vS 0) Y.int) Y.int) (Y.sF (Y.vS 0) Y.int))
   (Y.ai (Y.jc (Y.tw (Y.rE (Y.cq (Y.dN K rfl (Nat.lt_of_succ_lt hu)) Y.gf (Y.ix (Y.cJ K rfl) Y.aR (Y.vS 0) Y.int) Y.int) (Y.jH (Y.cq yX Y.dE (Y.ix (Y.cJ K rfl) Y.aR (Y.vS 0) Y.int) Y.int)))) (Y.ai (Y.set (i:=2) cM.nd rfl (by walk_at "lc") (Y.op eM Y.bt (Y.ix (Y.cJ K rfl) Y.aR (Y.vS 0) Y.int) (Y.vS 1)))
   (Y.ai (Y.asg (Y.op Y.hG Y.bt (Y.ix (Y.cJ K rfl) Y.aR (Y.vS 0) Y.int) (Y.vS 1)) (Y.sF (Y.vS 0) Y.int))
   (Y.aX (Y.ret (Y.vS 2))))) Y.df)
   (Y.ai (Y.set (i:=3) cM.nd rfl (by walk_at "lc") (Y.op eM Y.bt (Y.op (Y.cD K rfl) Y.cE (Y.op (Y.aG K rfl) Y.aH (Y.op (Y.aG K rfl) Y.aH (Y.ix (Y.cJ K rfl) Y.aR (Y.vS 0) Y.int) (Y.op (Y.cD K rfl) Y.cE Y.int (Y.ix (Y.cJ K rfl) Y.aR (Y.vS 0) Y.int))) Y.int) Y.int) Y.int))
   (Y.ai (Y.set (i:=3) cM.nd rfl (by walk_at "lc") (Y.op eM Y.bt (Y.op (Y.cD K rfl) Y.cE (Y.op eM Y.bt (Y.op (Y.cD K rfl) Y.cE (Y.vS 3) (Y.vS 3)) Y.int) Y.int) Y.int))
   (Y.aX (Y.ret (Y.op eM Y.bt (Y.op Y.hG Y.bt (Y.vS 3) Y.int) (Y.vS 1)))))))),?_⟩
 have fin:∀ v n c:Int,Qt (.tr (.int (v % k))) [.lst [.int n,.int fl,.int c,.int m]]:=fun v n c=>q _ _ ⟨_,_,_,_,rfl⟩ (Int.emod_nonneg _ (by lia)) (Int.emod_lt_of_pos _ k0)
 have x0:k_ 4 0=some 0:=by decide
 have x2:k_ 4 2=some 2:=by decide
 refine aY fun N hN=>?_;wp_walk using x2;refine hN _ ?_;clear hN N;refine aY fun N hN=>?_;wp_walk using x0;by_cases h1:fl=1
 ·by_cases h2:0 < n
  ·wp_walk using if_pos h1,if_pos h2;refine aY fun M hM=>?_;walk_at "rt";refine⟨k0,?_⟩;refine hM _ ?_;clear hM M;refine aY fun M hM=>?_;wp_walk using x0;refine⟨⟨k0,by lia⟩,?_⟩
   refine hM _ ?_;clear hM M;walk_at "rt";exact fin _ _ _
  ·wp_walk using if_pos h1,if_neg h2;refine hN _ ?_;clear hN N;have m1:∀ a:Int,0<=a % 2147483647/\a % 2147483647 < 2147483647:=fun a=>⟨by lia,by lia⟩
   refine aY fun N hN=>?_;walk_at "rt";refine⟨.inl (by decide),.inr (by decide),by decide,?_⟩
   refine hN _ ?_;clear hN N;refine aY fun N hN=>?_;walk_at "rt";refine⟨.inl ⟨by have:=m1 ((m+7127*(c+1)+17)*48271);lia,by have:=m1 ((m+7127*(c+1)+17)*48271);lia⟩,by decide,.inr (by decide),by decide,?_⟩
   refine hN _ ?_;clear hN N;walk_at "rt";exact⟨⟨by decide,by decide⟩,k0,fin _ _ _⟩
 ·wp_walk using if_neg h1;refine hN _ ?_;clear hN N;have m1:∀ a:Int,0<=a % 2147483647/\a % 2147483647 < 2147483647:=fun a=>⟨by lia,by lia⟩
  refine aY fun N hN=>?_;walk_at "rt";refine⟨.inl (by decide),.inr (by decide),by decide,?_⟩
  refine hN _ ?_;clear hN N;refine aY fun N hN=>?_;walk_at "rt";refine⟨.inl ⟨by have:=m1 ((m+7127*(c+1)+17)*48271);lia,by have:=m1 ((m+7127*(c+1)+17)*48271);lia⟩,by decide,.inr (by decide),by decide,?_⟩
  refine hN _ ?_;clear hN N;walk_at "rt";exact⟨⟨by decide,by decide⟩,k0,fin _ _ _⟩
def nI:List Int->List L2.T:=List.map L2.T.int
theorem bK(xs:List Int):(nI xs).length=xs.length:=List.length_map ..
theorem kO(xs ys:List Int):nI (xs++ys)=nI xs++nI ys:=List.map_append
theorem Ec{xs:List Int}{i:Int}{v:Int}(h:bV xs i=some v):bV (nI xs) i=some (.int v):=by
 unfold bV at h ⊢;unfold nI;rw[List.length_map]
 cases e:k_ xs.length i with
 | none=>rw[e] at h;cases h
 | some j=>rw[e] at h;have h':xs[j]?=some v:=h;show (List.map L2.T.int xs)[j]?=_;rw[List.getElem?_map,h'];rfl
theorem qy(xs:List Int)(a b:Option Int):Y.bu (nI xs) a b=nI (Y.bu xs a b):=by
 unfold Y.bu nI;rw[List.length_map,List.map_take,List.map_drop]
def n_(ls:List Int):Prop:=0 < ls.length/\ls.length<=20/\∀ x∈ls,1<=x/\x<=40
def KS(ls:List Int):Nat:=Kr.ks 40 (ls.map Int.toNat)
def nK(ls:List Int):Bool:=decide (KS ls<=2 ^ 40)
def zK:fL:=fun args Q=>∃ c:Int,args=[.int c]/\∀ s,dw s->Q (.fr s) []
theorem xI(T:Txt K mg)(F:HasFn K mg "_law_seed" bj ["cell"]):ah P w K mg base cw 1 "_law_seed" ["cell"] (spT K [false] zK):=by
 refine F.pg fo [false] rfl (by decide) (fun args Qt hl h f cdv A outer s H E hr=>?_)
 have hu:=b_ hr;obtain⟨c,rfl,q⟩:=h;refine⟨_,(Y.ai (Y.set (i:=1) fo.nd rfl (by walk_at "lc") (Y.cb (ee rfl) Y.kI rfl T.oP (by decide +kernel) (Y.cons (Y.vS 0) (Y.cons (Y.op dZ Y.c_ Y.int (Y.vS 0)) Y.nil))))
   (Y.aX (Y.ret (Y.lst (Y.cons (Y.vS 1) (Y.cons (Y.ct qT Y.Bw rfl T.D9 (by decide +kernel) (Y.cons (Y.cmp wo Y.dE (Y.vS 1) (Y.op dB Y.bt Y.int Y.int)) Y.nil)) (Y.cons Y.int (Y.cons (Y.op eM Y.bt (Y.vS 0) Y.int) Y.nil)))))))),?_⟩
 refine aY fun N hN=>?_;walk_at "rt";refine hN _ ?_;clear hN N;walk_at "rt";exact⟨⟨by decide,by decide,by decide⟩,by decide,by decide,q _ ⟨_,_,_,_,rfl⟩⟩
def vK:fL:=fun args Q=>∃ (ns:List Int) (m:Nat),args=[.d7 (nI ns),.int (m:Int)]/\m<=20/\∀ ms,Q (.fr (.lst (nI ms))) []
theorem vW(T:Txt K mg)(F:HasFn K mg "_law_cells" aT ["script","many"]):ah P w K mg base cw 1 "_law_cells" ["script","many"] (spT K [false,false] vK):=by
 refine F.pg jb [false,false] rfl (by decide) (fun args Qt hl h f cdv A outer s H E hr=>?_)
 have hu:=b_ hr;obtain⟨ns,m,rfl,hm,q⟩:=h;refine⟨_,(Y.aX (Y.ret (Y.op (Y.aG K rfl) Y.aH (Y.cV K rfl (Y.vS 0) Y.qY (Y.sf (Y.vS 1))) (Y.lst (Y.cons (Y.cb (Y.aq K rfl) Y.aK rfl T.bR (by decide +kernel) (Y.cons (Y.vS 0) Y.nil)) Y.nil))))),?_⟩
 have e0:∀ n:Int,nI (Y.bu ns none (some (m:Int)))++[L2.T.int n]=nI (Y.bu ns none (some (m:Int))++[n]):=fun n=>by rw[kO];rfl
 have e1:(Y.bu ns none (some (m:Int))).length<=20:=by
  unfold Y.bu;rw[HT.cH,HT.d8,List.length_take];lia
 wp_walk using qy,bK,e0;refine⟨by decide,?_,q _⟩
 exact Nat.le_trans (show _<=100 by lia) (by decide)
def pK:fL:=fun args Q=>∃ (c:L2.T) (ls:List Int),args=[c]/\(c=.tup (nI ls)\/c=.lst (nI ls))/\n_ ls/\Q (.tr (.bl (nK ls))) []
theorem BW(T:Txt K mg)(F:HasFn K mg "can_be" bZ ["lengths"]):ah P w K mg base cw 1 "can_be" ["lengths"] (spT K [false] pK):=by
 refine F.pg bQ [false] rfl (by decide) (fun args Qt hl h f cdv A outer s H E hr=>?_)
 have hu:=b_ hr;obtain⟨c,ls,rfl,hc,hL,q⟩:=h;have hlen:lA c=Ou.ok (.tr (.int (ls.length:Int))):=by rcases hc with rfl | rfl<;>(rw[<- bK ls];rfl)
 have hsrt:∀ (μ:Mu) (Q:R->Mu->Prop),Y.uF c μ Q=(∃ ns:List Int,nI ls=ns.map L2.T.int/\ns.length < 64/\∀ ns':List Int,ns'.Perm ns->ns'.Pairwise (·<=·)->Q (.fr (.lst (ns'.map L2.T.int))) μ):=fun μ Q=>by rcases hc with rfl | rfl<;>rfl
 refine⟨_,(Y.ai (Y.set (i:=1) bQ.nd rfl (by walk_at "lc") Y.int)
   (Y.ai (Y.set (i:=2) bQ.nd rfl (by walk_at "lc") Y.int)
   (Y.ai (Y.set (i:=3) bQ.nd rfl (by walk_at "lc") (Y.cb (Y.aq K rfl) Y.aK rfl T.bR (by decide +kernel) (Y.cons (Y.vS 0) Y.nil)))
   (Y.ai (Y.iG PassesOwn.never rfl (Y.anyS K rfl (Y.cb (Y.mX K rfl) Y.wH rfl T.dX (by decide +kernel) (Y.cons (Y.vS 0) Y.nil))) (Y.aQ (i:=4) bQ.nd rfl (by walk_at "lc")) (Y.ai (Y.jc (Y.cq (Y.dN K rfl (Nat.lt_of_succ_lt hu)) Y.gf (Y.vS 1) Y.int) (Y.aX (Y.ret Y.bl)) Y.df)
   (Y.ai (Y.jS PassesOwn.never (Y.tw (Y.rE (Y.cq iM Y.dE (Y.vS 2) (Y.vS 4)) (Y.jH (Y.cq iM Y.dE (Y.vS 1) (Y.vS 3))))) (Y.ai (Y.set (i:=1) bQ.nd rfl (by walk_at "lc") (Y.op (Y.cD K rfl) Y.cE (Y.vS 1) Y.int))
   (Y.aX (Y.set (i:=2) bQ.nd rfl (by walk_at "lc") (Y.op (Y.aG K rfl) Y.aH (Y.vS 2) Y.int)))))
   (Y.ai (Y.jc (Y.cq wo Y.dE (Y.vS 1) (Y.vS 3)) (Y.aX (Y.ret Y.bl)) Y.df)
   (Y.ai (Y.set (i:=1) bQ.nd rfl (by walk_at "lc") (Y.op dZ Y.c_ (Y.vS 1) Y.int))
   (Y.aX (Y.set (i:=3) bQ.nd rfl (by walk_at "lc") (Y.op dZ Y.c_ (Y.vS 3) Y.int))))))))
   (Y.aX (Y.ret Y.bl)))))),?_⟩
 refine aY fun N hN=>?_;walk_at "rt";refine hN _ ?_;clear hN N;refine aY fun N hN=>?_;walk_at "rt";refine hN _ ?_;clear hN N;refine aY fun N hN=>?_;wp_walk using hlen;refine hN _ ?_;clear hN N;refine aY fun N hN=>?_;wp_walk using hsrt;refine⟨ls,rfl,by have:=hL.2.1;lia,fun rs hp hs=>?_⟩
 refine cY (fun rest μ=>∃ (r:List Int) (f d n:Int) (s4:Option L2.T),rest=nI r/\r.Pairwise (·<=·)/\(∀ x∈r,1<=x/\x<=40/\d<=x)/\0<=f/\0<=d/\n=r.length/\(nK ls=true ↔ Kr.fit (r.map Int.toNat) f.toNat d.toNat 40)/\μ=[.tr c,.tr (.int f),.tr (.int d),.tr (.int n),sl s4])
  ⟨rs,1,0,_,none,rfl,hs,fun x hx=>by have:=hL.2.2 x (hp.mem_iff.mp hx);lia,by decide,by decide,by rw[hp.length_eq],?_,rfl⟩ ?_ ?_
 ·unfold nK KS Kr.fit;rw[decide_eq_true_eq,Kr.kl (hp.map Int.toNat),show (1:Int).toNat*2 ^ (40 - (0:Int).toNat)=2 ^ 40 from rfl]
 ·rintro μ ⟨r,f,d,n,s4,e,_,_,_,_,_,hi,rfl⟩
  cases r with
  | cons=>cases e
  | nil =>
   show N _;refine hN _ ?_;clear hN N;walk_at "rt";have:nK ls=true:=hi.mpr (Nat.zero_le _);rw[this] at q;exact q
 ·rintro t ts μ M ⟨r,f,d,n,s4,e,hs,hx,f0,d0,hn,hi,rfl⟩ k
  cases r with
  | nil=>cases e
  | cons l r =>
   cases e;obtain⟨hl1,hl2,hl3⟩:=hx l (by simp)
   have hle:∀ x∈r,l<=x:=(List.pairwise_cons.mp hs).1;walk_at "rt";refine aY fun M' hM=>?_;by_cases hf:f=0
   ·wp_walk using if_pos hf;have:nK ls=false:=by
     cases c:nK ls with
     | false=>rfl
     | true=>have:=hi.mp c;rw[hf] at this;exact absurd this Kr.sR
    rw[this] at q;exact q
   ·wp_walk using if_neg hf;refine hM _ ?_;clear hM M';refine aY fun M' hM=>?_;have after:∀ f d:Int,0 < f->0<=d->d<=l->(d=l\/n<=f)->(nK ls=true ↔ Kr.fit ((l::r).map Int.toNat) f.toNat d.toNat 40)->M' [.tr c,.tr (.int f),.tr (.int d),.tr (.int n),.tr (.int l)]:=fun f d f0 d0 dl hc hi=>by
     refine hM _ ?_;clear hM M';refine aY fun M' hM=>?_;by_cases h3:n<=f
     ·wp_walk using if_pos h3;have:nK ls=true:=hi.mpr (Kr.oq (fun x hx=>by
       obtain⟨y,hy,rfl⟩:=List.mem_map.mp hx;rcases List.mem_cons.mp hy with rfl | hy
       ·lia
       ·have:=hle y hy;lia) (by rw[List.length_map];lia))
      rw[this] at q;exact q
     ·wp_walk using if_neg h3;refine hM _ ?_;clear hM M';refine aY fun M' hM=>?_;walk_at "rt";refine hM _ ?_;clear hM M';walk_at "rt";have hd:d=l:=hc.resolve_right h3;subst hd;refine k _ ⟨r,f - 1,d,n - 1,some _,rfl,(List.pairwise_cons.mp hs).2,fun x hx'=>⟨(hx x (by simp[hx'])).1,(hx x (by simp[hx'])).2.1,hle x hx'⟩,by lia,d0,by rw[hn,List.length_cons];lia,?_,rfl⟩
      rw[hi,List.map_cons,Kr.uy (by lia),show (f - 1).toNat=f.toNat - 1 by lia]
    refine⟨fun m μ=>∃ f d:Int,0 < f/\0<=d/\d<=l/\m=(l - d).toNat/\(nK ls=true ↔ Kr.fit ((l::r).map Int.toNat) f.toNat d.toNat 40)/\μ=[.tr c,.tr (.int f),.tr (.int d),.tr (.int n),.tr (.int l)],⟨_,f,d,by lia,d0,hl3,rfl,hi,rfl⟩,?_⟩
    rintro m μ ⟨f,d,f0,d0,dl,rfl,hi,rfl⟩;by_cases c1:d < l
    ·by_cases c2:f < n
     ·wp_walk using if_pos c1,if_pos c2;refine aY fun M2 h2=>?_;walk_at "rt";refine⟨.inr (by decide),?_⟩
      refine h2 _ ?_;clear h2 M2;walk_at "rt";refine⟨_,?_,f*2,d+1,by lia,by lia,by lia,rfl,?_,rfl⟩
      ·lia
      ·rw[hi,Kr.mT (l:=l.toNat) (by lia) (by lia),show (f*2).toNat=f.toNat*2 by lia,show (d+1).toNat=d.toNat+1 by lia]
       exact Iff.rfl
     ·wp_walk using if_pos c1,if_neg c2;exact after f d f0 d0 dl (.inr (by lia)) hi
    ·wp_walk using if_neg c1;exact after f d f0 d0 dl (.inl (by lia)) hi
def nN(l:List Nat):List L2.T:=l.map fun i:Nat=>L2.T.int (i:Int)
theorem cL(l:List Nat):(nN l).length=l.length:=List.length_map ..
theorem fN(a b:List Nat):nN (a++b)=nN a++nN b:=List.map_append
def yi(x:Pm.It):L2.T:=.tup [.int x.1,.lst (nN x.2)]
def iT(X:List Pm.It):List L2.T:=X.map yi
theorem ik(X:List Pm.It):(iT X).length=X.length:=List.length_map ..
theorem oz(X Y:List Pm.It):iT (X++Y)=iT X++iT Y:=List.map_append
theorem kY{α β:Type}(f:α->β)(ks:List Int)(l:List α):d6 ks (l.map f)=(d6 ks l).map f:=by
 have e:∀ m:List α,Paired (fun (b:β) (a:α)=>b=f a) (m.map f) m:=fun m=>by
  induction m with
  | nil=>exact .nil
  | cons x m ih=>exact .cons rfl ih
 have h:=gQ (ks:=ks) (e l);generalize d6 ks (l.map f)=u at h;generalize d6 ks l=v at h
 induction h with
 | nil=>rfl
 | cons a b ih=>rw[a,ih];rfl
def wO:vx:=fun args Q _=>∃ X:List Pm.It,args=[.lst (iT X)]/\X.length < 64/\Q (.fr (.lst (iT (Pm.C0 X)))) []
theorem wx(T:Txt K mg)(F:HasFn K mg "by_worth" b9 ["shelf"]):ah P w K mg base (nS P w) 4 "by_worth" ["shelf"] (u_ K [false] wO):=by
 obtain⟨c,Pt,htab,hcc⟩:=T.kj.ex;refine F.Cf mL [false] rfl rfl (by decide) (fun args Qt Et hl h f cdv A outer s H E hr hcd=>?_)
 have:=hcc _ _ hcd;subst this;have hu:=b_ hr;obtain⟨X,rfl,hX,q⟩:=h;refine⟨_,(Y.h_ (Y.sC (Y.ret (Y.sortI (k:=0) K rfl (by decide) htab rfl rfl rfl rfl rfl T.dX (Y.cons (Y.vS 0) Y.nil) (hr.mono (by decide)) rfl rfl rfl (fun _ _ _ _=>rfl))))),?_⟩
 walk_at "rt";refine⟨X.map fun x=>x.1,?_,by rw[ik];exact hX,?_⟩
 ·unfold iT;rw[List.map_map,List.map_map];rfl
 ·unfold iT;rw[kY];exact q
def bw:List Pm.It->List (Pm.It×Pm.It)
 | a::b::r=>(a,b)::bw r
 | _=>[]
theorem qC:∀ X:List Pm.It,kT (iS (iT X)) (iS ((iT X).drop 1))=(bw X).map fun p=>L2.T.tup [yi p.1,yi p.2]
 | []=>rfl
 | [a]=>rfl
 | [a,b]=>rfl
 | a::b::c::r=>by
  have ih:=qC (c::r);show L2.T.tup [yi a,yi b]::kT (iS (iT (c::r))) (iS ((iT (c::r)).drop 1))=_;rw[ih];rfl
theorem u6:∀ X:List Pm.It,Pm.pk X=(bw X).map fun p=>(p.1.1+p.2.1,p.1.2++p.2.2)
 | []=>by simp[bw,Pm.pk]
 | [a]=>by simp[bw,Pm.pk]
 | a::b::r=>by rw[Pm.pk,bw,List.map_cons,u6 r]
theorem sM:∀ {X:List Pm.It} {p:Pm.It×Pm.It},p∈bw X->p.1.2.length+p.2.2.length<=(Pm.th X).length
 | [],p,h=>by cases h
 | [a],p,h=>by cases h
 | a::b::r,p,h=>by
  rw[Pm.bg,Pm.bg,List.length_append,List.length_append];rcases List.mem_cons.mp h with e | e
  ·rw[e];show a.2.length+b.2.length<=_;lia
  ·have:=sM e;lia
theorem oE:∀ X:List Pm.It,(bw X).length<=X.length
 | []=>Nat.le_refl _
 | [_]=>Nat.zero_le _
 | a::b::r=>by
  have:=oE r;unfold bw;simp only[List.length_cons];lia
def tG:fL:=fun args Q=>∃ X:List Pm.It,args=[.lst (iT X)]/\X.length<=64/\(Pm.th X).length<=1000/\Q (.fr (.lst (iT (Pm.pk X)))) []
theorem uM(T:Txt K mg)(F:HasFn K mg "packs_of" bp ["shelf"]):ah P w K mg base cw 1 "packs_of" ["shelf"] (spT K [false] tG):=by
 refine F.pg lZ [false] rfl (by decide) (fun args Qt hl h f cdv A outer s H E hr=>?_)
 have hu:=b_ hr;obtain⟨X,rfl,hX,ht,q⟩:=h;refine⟨_,(Y.aX (Y.ret (Y.pf K rfl (osc:=aa bp) (ON:=["shelf"]) (own:=["one","other"]) (N:=["one","other","shelf"]) ⟨rfl,by decide +kernel,rfl,by decide +kernel,by decide +kernel,by decide +kernel,by decide +kernel,by decide +kernel⟩ rfl rfl rfl rfl (Y.zip K rfl rfl T.vC (Y.cons (Y.dQ K rfl 0 rfl (Y.vS 0)) (Y.cons (Y.dQ K rfl 1 rfl (Y.vS 0)) Y.nil))) (fun _ _ _ _=>(Z.oa (n:=2) K rfl rfl (Z.cu (Z.aQ (i:=0) (show List.Nodup (["one","other","shelf"]:List Str) by decide +kernel) rfl (by walk_at "lc")) (Z.cu (Z.aQ (i:=1) (show List.Nodup (["one","other","shelf"]:List Str) by decide +kernel) rfl (by walk_at "lc")) Z.fX)))) (fun _ _ _ _=>Y.la) (fun _ _ _ _=>(Y.tup (Y.cons (Y.op (Y.aG K rfl) Y.aH (Y.ix (Y.cJ K rfl) Y.aR (Y.vS 0) Y.int) (Y.ix (Y.cJ K rfl) Y.aR (Y.vS 1) Y.int)) (Y.cons (Y.op (Y.aG K rfl) Y.aH (Y.ix (Y.cJ K rfl) Y.aR (Y.vS 0) Y.int) (Y.ix (Y.cJ K rfl) Y.aR (Y.vS 1) Y.int)) Y.nil))))))),?_⟩
 walk_at "rt";rw[List.drop_zero,qC];refine ba (fun rest acc μ=>∃ (done todo:List (Pm.It×Pm.It)),done++todo=bw X/\(rest=todo.map fun p=>L2.T.tup [yi p.1,yi p.2])/\acc=iT (done.map fun p=>(p.1.1+p.2.1,p.1.2++p.2.2))/\μ=[.tr (.lst (iT X))]) ⟨[],bw X,rfl,rfl,rfl,rfl⟩ ?_ ?_
 ·rintro acc μ ⟨done,todo,e1,e2,rfl,rfl⟩;have e3:todo=[]:=by simpa using e2.symm
  subst e3;rw[List.append_nil] at e1;refine⟨trivial,?_⟩;rw[u6,<- e1] at q;exact q
 ·rintro t r acc μ M ⟨done,todo,e1,e2,rfl,rfl⟩ k
  cases todo with
  | nil=>cases e2
  | cons p todo =>
   obtain⟨rfl,rfl⟩:=List.cons.inj e2;have hm:p∈bw X:=by rw[<- e1];simp
   have h1:=sM hm;have h2:=oE X;rw[<- e1,List.length_append] at h2;refine⟨trivial,by rw[ik,List.length_map];exact Nat.lt_of_le_of_lt (show _<=64 by lia) (by decide),?_⟩
   obtain⟨⟨w1,t1⟩,w2,t2⟩:=p;unfold yi;have a0:∀ (v:Int) (l:List Nat),bV [L2.T.int v,.lst (nN l)] 0=some (.int v):=fun v l=>rfl;have a1:∀ (v:Int) (l:List Nat),bV [L2.T.int v,.lst (nN l)] 1=some (.lst (nN l)):=fun v l=>rfl;wp_walk using a0,a1;refine⟨by rw[cL,cL];exact Nat.le_trans (show _<=1000 by have:t1.length+t2.length<=_:=h1;lia) (by decide),by decide,k _ _ ⟨done++[((w1,t1),(w2,t2))],todo,by rw[<- e1];simp,rfl,?_,rfl⟩⟩
   rw[List.map_append,oz,<- fN];rfl
theorem zB:∀ A:List Pm.It,(Pm.th (Pm.pk A)).length<=(Pm.th A).length
 | []=>by simp[Pm.pk]
 | [a]=>by simp[Pm.pk,Pm.th]
 | a::b::r=>by
  have:=zB r;rw[Pm.pk,Pm.bg,Pm.bg,Pm.bg];simp only[List.length_append];lia
theorem jB(c:Nat->Int){n:Nat}(hn:1<=n):∀ d,(Pm.shelf c n d).length<=2*n - 1
 | 0=>Nat.zero_le _
 | d+1=>by
  have:=jB c hn d;rw[Pm.shelf,(Pm.dn _).length_eq,List.length_append,Pm.kR];unfold Pm.coins;rw[List.length_map,List.length_range];lia
theorem gR(c:Nat->Int)(n:Nat):∀ d,(Pm.th (Pm.shelf c n d)).length<=n*d
 | 0=>Nat.le_refl _
 | d+1=>by
  have h1:=gR c n d;have h2:=zB (Pm.shelf c n d);rw[Pm.shelf,(Pm.gM (Pm.dn _)).length_eq,Pm.fA,List.length_append,Pm.lq,List.length_range,Nat.mul_succ];lia
def d4(cs:List Int)(i:Nat):Int:=cs.getD i 0
theorem yI(cs:List Int):pairs (nI cs)=(List.range' 0 cs.length).map fun i:Nat=>L2.T.tup [.int (i:Int),.int (d4 cs i)]:=by
 unfold pairs;rw[bK,<- List.range_eq_range'];refine List.map_congr_left fun i hi=>?_;have h:=List.mem_range.mp hi;unfold nI d4;rw[List.getElem?_map,List.getElem?_eq_getElem h,List.getD_eq_getElem?_getD,List.getElem?_eq_getElem h];rfl
theorem n6(c:Nat->Int)(i:Nat):Pm.coins c (i+1)=Pm.coins c i++[(c i,[i])]:=by
 unfold Pm.coins;rw[List.range_succ,List.map_append];rfl
def oY:vx:=fun args Q _=>∃ (cs:List Int) (b:Nat),args=[.tup (nI cs),.int (b:Int)]/\2<=cs.length/\cs.length<=20/\1<=b/\b<=40/\Q (.fr (.lst (nN (Pm.th ((Pm.shelf (d4 cs) cs.length b).take (2*cs.length - 2)))))) []
theorem sv(T:Txt K mg)(F:HasFn K mg "chosen_things" az ["counts","bound"])(hby_worth:ah P w K mg base (nS P w) 4 "by_worth" ["shelf"] (u_ K [false] wO))(hpacks_of:ah P w K mg base cw 1 "packs_of" ["shelf"] (spT K [false] tG)):
  ah P w K mg base (nS P w) 5 "chosen_things" ["counts","bound"] (u_ K [false,false] oY):=by
 refine F.G_ aM [false,false] rfl rfl (by decide) (fun args Qt Et hl h f cdv A outer s H E hr=>?_)
 have hu:=b_ hr;obtain⟨cs,b,rfl,hn2,hn,hb1,hb,q⟩:=h;refine⟨_,(Y.cB (Y.sC (Y.BQ (j:=2) K rfl aM.nd rfl (by walk_at "lc") (osc:=aa az) (ON:=["counts","bound","coins","shelf","depth","chosen","item"]) (own:=["thing","count"]) (N:=["thing","count","counts","bound","coins","shelf","depth","chosen","item"]) ⟨rfl,by decide +kernel,rfl,by decide +kernel,by decide +kernel,by decide +kernel,by decide +kernel,by decide +kernel⟩ rfl rfl rfl rfl (Y.enum K rfl rfl T.fZ (Y.cons (Y.vS 0) Y.nil)) (fun _ _ _ _=>(Z.oa (n:=2) K rfl rfl (Z.cu (Z.aQ (i:=0) (show List.Nodup (["thing","count","counts","bound","coins","shelf","depth","chosen","item"]:List Str) by decide +kernel) rfl (by walk_at "lc")) (Z.cu (Z.aQ (i:=1) (show List.Nodup (["thing","count","counts","bound","coins","shelf","depth","chosen","item"]:List Str) by decide +kernel) rfl (by walk_at "lc")) Z.fX)))) (fun _ _ _ _=>Y.la) (fun _ _ _ _=>(Y.tup (Y.cons (Y.vS 1) (Y.cons (Y.lst (Y.cons (Y.vS 0) Y.nil)) Y.nil))))))
   (Y.cB (Y.zd (i:=3) aM.nd rfl (by walk_at "lc") (Y.G4 K rfl hby_worth (hr.mono (by decide)) rfl rfl (Y.cons (Y.vS 2) Y.nil)))
   (Y.cB (Y.DV PassesOwn.leaving rfl (Y.B6 rfl T.bY (Y.cons Y.int (Y.cons (Y.vS 1) Y.nil))) (Y.aQ (i:=4) aM.nd rfl (by walk_at "lc")) (Y.h_ (Y.zd (i:=3) aM.nd rfl (by walk_at "lc") (Y.G4 K rfl hby_worth (hr.mono (by decide)) rfl rfl (Y.cons (Y.op (Y.aG K rfl) Y.aH (Y.vS 2) (Y.fn K rfl hpacks_of (hr.mono (by decide)) rfl aU (Y.cons (Y.vS 3) Y.nil))) Y.nil)))))
   (Y.cB (Y.sC (Y.set (i:=5) aM.nd rfl (by walk_at "lc") (Y.lst Y.nil)))
   (Y.cB (Y.sC (Y.iG PassesOwn.leaving rfl (Y.anyS K rfl (Y.cV K rfl (Y.vS 3) Y.qY (Y.sf (Y.op dZ Y.c_ (Y.op (Y.cD K rfl) Y.cE Y.int (Y.cb (Y.aq K rfl) Y.aK rfl T.bR (by decide +kernel) (Y.cons (Y.vS 0) Y.nil))) Y.int)))) (Y.aQ (i:=6) aM.nd rfl (by walk_at "lc")) (Y.aX (Y.expr (Y.bm K rfl PySem.F.slot_list_extend PySem.F.type_list_extend Y.Ak Y.zW (Y.vS 5) (Y.cons (Y.ix (Y.cJ K rfl) Y.aR (Y.vS 6) Y.int) Y.nil))))))
   (Y.h_ (Y.sC (Y.ret (Y.vS 5))))))))),?_⟩
 refine kX fun N hN=>?_;walk_at "rt";rw[yI];refine ba (fun rest acc μ=>∃ i:Nat,i<=cs.length/\(rest=(List.range' i (cs.length - i)).map fun i:Nat=>L2.T.tup [.int (i:Int),.int (d4 cs i)])/\acc=iT (Pm.coins (d4 cs) i)/\μ=[.tr (.tup (nI cs)),.tr (.int (b:Int)),.un,.un,.un,.un,.un]) ⟨0,Nat.zero_le _,rfl,rfl,rfl⟩ ?_ ?_
 ·rintro acc μ ⟨i,hi,e,rfl,rfl⟩;have hi2:i=cs.length:=by
   have:=congrArg List.length e;rw[List.length_map,List.length_range',List.length_nil] at this;lia
  subst hi2;refine⟨trivial,?_⟩;walk_at "rt";refine hN _ ?_;clear hN N;have e1:Pm.C0 (Pm.coins (d4 cs) cs.length)=Pm.shelf (d4 cs) cs.length 1:=by
   rw[Pm.shelf,Pm.shelf,Pm.pk,List.append_nil];simp
  refine kX fun N hN=>?_;walk_at "rt";have hcl:(Pm.coins (d4 cs) cs.length).length=cs.length:=by unfold Pm.coins;rw[List.length_map,List.length_range]
  refine⟨Pm.coins (d4 cs) cs.length,rfl,by lia,?_⟩
  walk_at "rt";refine hN _ ?_;clear hN N;rw[e1];clear e1;refine kX fun N hN=>?_;walk_at "rt";refine⟨by lia,?_⟩
  have eb:((b:Int) - 1).toNat=b - 1:=by lia
  rw[eb,List.range_eq_range'];refine tD (fun rest μ=>∃ (d:Nat) (o:Option L2.T),d<=b - 1/\(rest=(List.range' d (b - 1 - d)).map fun k:Nat=>L2.T.int (1+(k:Int)))/\μ=[.tr (.tup (nI cs)),.tr (.int (b:Int)),.tr (.lst (iT (Pm.coins (d4 cs) cs.length))),.tr (.lst (iT (Pm.shelf (d4 cs) cs.length (d+1)))),sl o,.un,.un]) ⟨0,none,Nat.zero_le _,rfl,rfl⟩ ?_ ?_
  ·rintro μ ⟨d,o,hd,e,rfl⟩;have hd2:d+1=b:=by
    have:=congrArg List.length e;rw[List.length_map,List.length_range',List.length_nil] at this;lia
   rw[hd2];show N _;refine hN _ ?_;clear hN N;refine kX fun N hN=>?_;walk_at "rt";refine hN _ ?_;clear hN N;refine kX fun N hN=>?_;wp_walk using bK;have ec:((2*(cs.length:Int) - 2))=((2*cs.length - 2:Nat):Int):=by lia
   have h2:=gR (d4 cs) cs.length b;have h3:cs.length*b<=20*40:=Nat.mul_le_mul hn hb;have et:Y.bu (iT (Pm.shelf (d4 cs) cs.length b)) none (some (2*(cs.length:Int) - 2))=iT ((Pm.shelf (d4 cs) cs.length b).take (2*cs.length - 2)):=by
    rw[ec];unfold Y.bu iT;rw[HT.cH,HT.d8,Nat.sub_zero,List.drop_zero,List.length_map,<- List.map_take];congr 1;rw[List.take_eq_take_iff];lia
   rw[et];have ht:(Pm.th ((Pm.shelf (d4 cs) cs.length b).take (2*cs.length - 2))).length<=800:=by
    have e2:Pm.th (Pm.shelf (d4 cs) cs.length b)=Pm.th ((Pm.shelf (d4 cs) cs.length b).take (2*cs.length - 2))++Pm.th ((Pm.shelf (d4 cs) cs.length b).drop (2*cs.length - 2)):=by rw[<- Pm.fA,List.take_append_drop]
    rw[e2,List.length_append] at h2;lia
   refine⟨.inl (by decide),?_⟩
   generalize (Pm.shelf (d4 cs) cs.length b).take (2*cs.length - 2)=Z at ht q ⊢;refine cY (fun rest μ=>∃ (done todo:List Pm.It) (o2:Option L2.T),done++todo=Z/\rest=iT todo/\μ=[.tr (.tup (nI cs)),.tr (.int (b:Int)),.tr (.lst (iT (Pm.coins (d4 cs) cs.length))),.tr (.lst (iT (Pm.shelf (d4 cs) cs.length b))),sl o,.bx (.lst (nN (Pm.th done))),sl o2]) ⟨[],Z,none,rfl,rfl,rfl⟩ ?_ ?_
   ·rintro μ ⟨done,todo,o2,e1,e2,rfl⟩;have e3:todo=[]:=by
     cases todo with
     | nil=>rfl
     | cons=>cases e2
    subst e3;rw[List.append_nil] at e1;subst e1;show N _;refine hN _ ?_;clear hN N;walk_at "rt";exact q
   ·rintro t r μ M ⟨done,todo,o2,e1,e2,rfl⟩ k
    cases todo with
    | nil=>cases e2
    | cons x todo =>
     obtain⟨rfl,rfl⟩:=List.cons.inj e2;have a1:∀ (v:Int) (l:List Nat),bV [L2.T.int v,.lst (nN l)] 1=some (.lst (nN l)):=fun v l=>rfl;have hz:(Pm.th done).length+x.2.length<=800:=by
      rw[<- e1,Pm.fA,Pm.bg] at ht;simp only[List.length_append] at ht;lia
     unfold yi;wp_walk using a1;refine⟨by rw[cL,cL];exact Nat.le_trans hz (by decide),?_⟩
     refine k _ ⟨done++[x],todo,some (.tup [.int x.1,.lst (nN x.2)]),by rw[<- e1];simp,rfl,?_⟩
     rw[Pm.fA,fN];simp only[Pm.th,List.flatMap_cons,List.flatMap_nil,List.append_nil];rfl
  ·rintro t r μ M ⟨d,o,hd,e,rfl⟩ k;have hd2:d < b - 1:=by
    have:=congrArg List.length e;rw[List.length_map,List.length_range',List.length_cons] at this;lia
   rw[show b - 1 - d=(b - 1 - (d+1))+1 by lia,List.range'_succ,List.map_cons] at e
   obtain⟨rfl,rfl⟩:=List.cons.inj e;clear e;have h1:=jB (d4 cs) (n:=cs.length) (by lia) (d+1)
   have h2:=gR (d4 cs) cs.length (d+1);have h3:cs.length*(d+1)<=20*40:=Nat.mul_le_mul hn (by lia)
   walk_at "rt";refine⟨Pm.shelf (d4 cs) cs.length (d+1),rfl,by lia,by lia,?_⟩
   walk_at "rt";have h4:=Pm.kR (Pm.shelf (d4 cs) cs.length (d+1));refine⟨by rw[ik,ik];exact Nat.le_trans (show _<=100 by lia) (by decide),?_⟩
   rw[<- oz];refine⟨_,rfl,by rw[List.length_append];lia,?_⟩
   walk_at "rt";exact k _ ⟨d+1,some _,hd2,rfl,rfl⟩
 ·rintro t r acc μ M ⟨i,hi,e,rfl,rfl⟩ k;have hi2:i < cs.length:=by
   have:=congrArg List.length e;rw[List.length_map,List.length_range',List.length_cons] at this;lia
  rw[show cs.length - i=(cs.length - (i+1))+1 by lia,List.range'_succ,List.map_cons] at e
  obtain⟨rfl,rfl⟩:=List.cons.inj e;clear e;have hl:(iT (Pm.coins (d4 cs) i)).length=i:=by unfold Pm.coins;rw[ik,List.length_map,List.length_range]
  refine⟨trivial,by rw[hl];exact Nat.lt_of_le_of_lt (show i<=20 by lia) (by decide),?_⟩
  walk_at "rt";refine⟨by decide,by decide,k _ _ ⟨i+1,hi2,rfl,?_,rfl⟩⟩
  rw[n6,oz];rfl
def cC(cs:List Int)(b:Nat):List Nat:=if cs.length=1 then [1] else (List.range cs.length).map (Pm.dC (d4 cs) cs.length (min b (cs.length - 1)))
def rN(n:Nat)(b:Int):Bool:=decide (1<=b/\n<=2 ^ b.toNat)
def wy(C:Addr):vx:=fun args Q Et=>∃ (cs:List Int) (b:Int),args=[.tup (nI cs),.int b]/\1<=cs.length/\cs.length<=20/\-40<=b/\b<=40/\((rN cs.length b=true/\Q (.tr (.tup (nN (cC cs b.toNat)))) [])\/(rN cs.length b=false/\Et (.exc (.ref C) none)))
theorem vG(L l:Nat):∀ n,Kr.ks L (List.replicate n l)=n*2 ^ (L - l)
 | 0=>by simp[Kr.ks]
 | n+1=>by rw[List.replicate_succ,Kr.ks,vG L l n,Nat.succ_mul];lia
theorem B5{n:Nat}{b:Nat}(hb:b<=40):nK (List.replicate n (b:Int))=decide (n<=2 ^ b):=by
 unfold nK KS;rw[List.map_replicate,Int.toNat_natCast,vG];refine decide_eq_decide.mpr ?_;have e:2 ^ 40=2 ^ b*2 ^ (40 - b):=by rw[<- Nat.pow_add,Nat.add_sub_cancel' hb]
 rw[e];exact⟨fun h=>Nat.le_of_mul_le_mul_right h (Nat.pow_pos (by decide)),fun h=>Nat.mul_le_mul_right _ h⟩
theorem Cg(l:List Nat)(i:Nat):(l.map fun k:Nat=>(k:Int)).count (i:Int)=l.count i:=by
 induction l with
 | nil=>rfl
 | cons x l ih =>
  rw[List.map_cons,List.count_cons,List.count_cons,ih];congr 1;by_cases h:x=i
  ·subst h;simp
  ·have:¬ (x:Int)=(i:Int):=by lia
   simp[h,this]
theorem va(T:Txt K mg)(F:HasFn K mg "least_lengths" au ["counts","bound"])(hcan_be:ah P w K mg base cw 1 "can_be" ["lengths"] (spT K [false] pK))(hchosen_things:ah P w K mg base (nS P w) 5 "chosen_things" ["counts","bound"] (u_ K [false,false] oY))
  {C_NoCode:Addr} (hC_NoCode:mg "NoCode"=some (.ref C_NoCode)) (kC_NoCode:oi K C_NoCode) :
  ah P w K mg base (nS P w) 6 "least_lengths" ["counts","bound"] (u_ K [false,false] (wy C_NoCode)):=by
 refine F.G_ cy [false,false] rfl rfl (by decide) (fun args Qt Et hl h f cdv A outer s H E hr=>?_)
 have hu:=b_ hr;obtain⟨cs,b,rfl,hn1,hn,hb0,hb,q⟩:=h;refine⟨_,(Y.cB (Y.sC (Y.set (i:=2) cy.nd rfl (by walk_at "lc") (Y.cb (Y.aq K rfl) Y.aK rfl T.bR (by decide +kernel) (Y.cons (Y.vS 0) Y.nil))))
   (Y.cB (Y.CT (Y.tw (Y.BE (Y.cq iM Y.dE (Y.vS 1) Y.int) (Y.rM (Y.nH (Y.lu K rfl (Y.fn K rfl hcan_be (hr.mono (by decide)) rfl aU (Y.cons (Y.fi (osc:=aa au) (ON:=["counts","bound","things","chosen"]) (own:=["count"]) (N:=["count","counts","bound","things","chosen"]) ⟨rfl,by decide +kernel,rfl,by decide +kernel,by decide +kernel,by decide +kernel,by decide +kernel,by decide +kernel⟩ rfl rfl rfl rfl (Y.anyS K rfl (Y.vS 0)) (fun _ _ _ _=>(Z.aQ (i:=0) (show List.Nodup (["count","counts","bound","things","chosen"]:List Str) by decide +kernel) rfl (by walk_at "lc"))) (fun _ _ _ _=>Y.la) (fun _ _ _ _=>(Y.vS 2))) Y.nil))))))) (Y.h_ (Y.sJ rfl hC_NoCode kC_NoCode rfl rfl (Y.cons (Y.Es (Y.ym (Y.De (Y.vS 1) (Y.ym (Y.De (Y.vS 2) (Y.ym Y.DE)))))) Y.nil))) Y.zD)
   (Y.cB (Y.sC (Y.jc (Y.cq (Y.dN K rfl (Nat.lt_of_succ_lt hu)) Y.gf (Y.vS 2) Y.int) (Y.aX (Y.ret (Y.tup (Y.cons Y.int Y.nil)))) Y.df))
   (Y.cB (Y.FT (i:=3) cy.nd rfl (by walk_at "lc") (Y.G4 K rfl hchosen_things (hr.mono (by decide)) rfl rfl (Y.cons (Y.vS 0) (Y.cons (Y.cb (qH rfl) Y.B8 rfl T.Dz (by decide +kernel) (Y.cons (Y.vS 1) (Y.cons (Y.op dZ Y.c_ (Y.vS 2) Y.int) Y.nil))) Y.nil))))
   (Y.h_ (Y.sC (Y.ret (Y.ct (Y.aZ K rfl) Y.bD rfl T.bU (by decide +kernel) (Y.cons (Y.fi (osc:=aa au) (ON:=["counts","bound","things","chosen"]) (own:=["thing"]) (N:=["thing","counts","bound","things","chosen"]) ⟨rfl,by decide +kernel,rfl,by decide +kernel,by decide +kernel,by decide +kernel,by decide +kernel,by decide +kernel⟩ rfl rfl rfl rfl (Y.ip rfl T.bY (Y.cons (Y.vS 2) Y.nil)) (fun _ _ _ _=>(Z.aQ (i:=0) (show List.Nodup (["thing","counts","bound","things","chosen"]:List Str) by decide +kernel) rfl (by walk_at "lc"))) (fun _ _ _ _=>Y.la) (fun _ _ _ _=>(Y.bm K rfl PySem.F.slot_list_count PySem.F.type_list_count Y.An Y.AL (Y.vS 4) (Y.cons (Y.vS 0) Y.nil)))) Y.nil))))))))),?_⟩
 refine kX fun N hN=>?_;wp_walk using bK;refine hN _ ?_;clear hN N;refine kX fun N hN=>?_;have no:rN cs.length b=false->Et (.exc (.ref C_NoCode) none):=fun h=>by
  rcases q with ⟨z,_⟩ | ⟨_,z⟩
  ·rw[h] at z;cases z
  ·exact z
 by_cases b1:b < 1
 ·wp_walk using if_pos b1;refine⟨Nat.lt_of_le_of_lt (show b.natAbs<=40 by lia) (by decide),Nat.lt_of_le_of_lt (show (cs.length:Int).natAbs<=40 by lia) (by decide),fun _ _=>no ?_⟩
  unfold rN;exact decide_eq_false fun h=>by lia
 ·obtain⟨b,rfl⟩:∃ k:Nat,b=k:=⟨b.toNat,by lia⟩
  wp_walk using if_neg b1;refine ba (fun rest acc μ=>rest.length+acc.length=cs.length/\acc=nI (List.replicate acc.length (b:Int))/\μ=[.tr (.tup (nI cs)),.tr (.int (b:Int)),.tr (.int (cs.length:Int)),.un]) ⟨by rw[bK];rfl,rfl,rfl⟩ ?_ ?_
  ·rintro acc μ ⟨e1,e2,rfl⟩;have e3:acc=nI (List.replicate cs.length (b:Int)):=by rw[<- show acc.length=cs.length by simpa using e1];exact e2
   clear e1 e2;subst e3;refine⟨trivial,?_⟩;walk_at "rt";refine⟨_,_,rfl,.inr rfl,⟨by rw[List.length_replicate];lia,by rw[List.length_replicate];exact hn,fun x hx=>by have:=List.eq_of_mem_replicate hx;lia⟩,?_⟩
   rw[B5 (by lia)]
   have em:rN cs.length (b:Int)=decide (cs.length<=2 ^ b):=by
    unfold rN;rw[Int.toNat_natCast];exact decide_eq_decide.mpr ⟨fun h=>h.2,fun h=>⟨by lia,h⟩⟩
   rw[em] at q no
   cases hm:decide (cs.length<=2 ^ b) with
   | false =>
    walk_at "rt";exact⟨Nat.lt_of_le_of_lt (show (b:Int).natAbs<=40 by lia) (by decide),Nat.lt_of_le_of_lt (show (cs.length:Int).natAbs<=40 by lia) (by decide),fun _ _=>no hm⟩
   | true =>
    have q':Qt (.tr (.tup (nN (cC cs b)))) []:=by
     rcases q with ⟨_,z⟩ | ⟨z,_⟩
     ·exact z
     ·rw[hm] at z;cases z
    clear q no;have hm2:cs.length<=2 ^ b:=of_decide_eq_true hm;walk_at "rt";refine hN _ ?_;clear hN N;refine kX fun N hN=>?_;by_cases h1:cs.length=1
    ·wp_walk using if_pos (show (cs.length:Int)=1 by lia)
     refine⟨by decide,?_⟩
     unfold cC at q';rw[if_pos h1] at q';exact q'
    ·wp_walk using if_neg (show ¬ (cs.length:Int)=1 by lia)
     refine hN _ ?_;clear hN N;refine kX fun N hN=>?_;have eb:(if (cs.length:Int) - 1 < (b:Int) then (cs.length:Int) - 1 else (b:Int))=((min b (cs.length - 1):Nat):Int):=by split<;>lia
     wp_walk using eb;refine⟨cs,min b (cs.length - 1),rfl,by lia,hn,by lia,by lia,?_⟩
     walk_at "rt";refine hN _ ?_;clear hN N;walk_at "rt";refine⟨by lia,by lia,?_⟩
     rw[Int.toNat_natCast,List.range_eq_range'];unfold cC at q';rw[if_neg h1] at q';refine ba (fun rest acc μ=>∃ i:Nat,i<=cs.length/\(rest=(List.range' i (cs.length - i)).map fun k:Nat=>L2.T.int (0+(k:Int)))/\acc=nN ((List.range i).map (Pm.dC (d4 cs) cs.length (min b (cs.length - 1))))/\μ=[.tr (.tup (nI cs)),.tr (.int (b:Int)),.tr (.int (cs.length:Int)),.bx (.lst (nN (Pm.th ((Pm.shelf (d4 cs) cs.length (min b (cs.length - 1))).take (2*cs.length - 2)))))]) ⟨0,Nat.zero_le _,rfl,rfl,rfl⟩ ?_ ?_
     ·rintro acc μ ⟨i,hi,e,rfl,rfl⟩;have hi2:i=cs.length:=by
       have:=congrArg List.length e;rw[List.length_map,List.length_range',List.length_nil] at this;lia
      subst hi2;refine⟨trivial,?_⟩;walk_at "rt";exact q'
     ·rintro t r acc μ M ⟨i,hi,e,rfl,rfl⟩ k;have hi2:i < cs.length:=by
       have:=congrArg List.length e;rw[List.length_map,List.length_range',List.length_cons] at this;lia
      rw[show cs.length - i=(cs.length - (i+1))+1 by lia,List.range'_succ,List.map_cons] at e
      obtain⟨rfl,rfl⟩:=List.cons.inj e;clear e;refine⟨trivial,by rw[cL,List.length_map,List.length_range];exact Nat.lt_of_le_of_lt (show i<=20 by lia) (by decide),?_⟩
      walk_at "rt";refine⟨(Pm.th ((Pm.shelf (d4 cs) cs.length (min b (cs.length - 1))).take (2*cs.length - 2))).map fun k:Nat=>(k:Int),by unfold nN;rw[List.map_map];rfl,?_⟩
      rw[Int.zero_add,Cg];refine k _ _ ⟨i+1,hi2,rfl,?_,rfl⟩;rw[List.range_succ,List.map_append,fN];rfl
  ·rintro t r acc μ M ⟨e1,e2,rfl⟩ k;walk_at "rt";rw[List.length_cons] at e1;refine⟨trivial,Nat.lt_of_le_of_lt (show acc.length<=20 by lia) (by decide),k _ _ ⟨by rw[List.length_append];simp;lia,?_,rfl⟩⟩
   rw[List.length_append,List.length_singleton,List.replicate_succ',kO,<- e2];rfl
namespace Pm
theorem mK(f:Nat->Nat):∀ n,sN f (n+1)=f 0+sN (fun i=>f (i+1)) n
 | 0=>by simp[sN]
 | n+1=>by rw[sN,mK f n,sN];lia
theorem lh(f:Nat->Int):∀ n,sI f (n+1)=f 0+sI (fun i=>f (i+1)) n
 | 0=>by simp[sI]
 | n+1=>by rw[sI,lh f n,sI];lia
theorem tE(L:Nat):∀ l:List Nat,Kr.ks L l=sN (fun i=>2 ^ (L - l.getD i 0)) l.length
 | []=>rfl
 | x::l=>by rw[Kr.ks,tE L l,List.length_cons,mK];rfl
theorem lB{L D:Nat}(h:D<=L):∀ {l:List Nat},(∀ x∈l,x<=D)->Kr.ks L l=Kr.ks D l*2 ^ (L - D)
 | [],_=>by simp[Kr.ks]
 | x::l,hx=>by
  have:=hx x List.mem_cons_self;rw[Kr.ks,Kr.ks,lB h fun y hy=>hx y (List.mem_cons_of_mem _ hy),Nat.add_mul,<- Nat.pow_add];congr 2;lia
theorem lI{L D:Nat}(h:D<=L){l:List Nat}(hx:∀ x∈l,x<=D):Kr.ks L l<=2 ^ L ↔ Kr.ks D l<=2 ^ D:=by
 rw[lB h hx,show 2 ^ L=2 ^ D*2 ^ (L - D) by rw[<- Nat.pow_add,Nat.add_sub_cancel' h]]
 exact⟨fun h=>Nat.le_of_mul_le_mul_right h (Nat.pow_pos (by decide)),fun h=>Nat.mul_le_mul_right _ h⟩
theorem vO{L m:Nat}(hm:m<=L):∀ {l:List Nat},(∀ x∈l,x<=m)->2 ^ (L - m) ∣ Kr.ks L l
 | [],_=>⟨0,rfl⟩
 | x::l,h=>by
  have:=h x List.mem_cons_self;exact Nat.dvd_add (Nat.pow_dvd_pow 2 (by lia)) (vO hm fun y hy=>h y (List.mem_cons_of_mem _ hy))
theorem dy{L:Nat}:∀ (m:Nat) (l:List Nat),l.length=m->m<=L->Kr.ks L l < 2 ^ L->Kr.ks L l+2 ^ (L - m)<=2 ^ L
 | 0,l,hl,_,_=>by
  rw[List.length_eq_zero_iff.mp hl];simp[Kr.ks]
 | m+1,l,hl,hm,hk=>by
  have e2:2 ^ (L - m)=2*2 ^ (L - (m+1)):=by rw[show L - m=(L - (m+1))+1 by lia,Nat.pow_succ];lia
  by_cases h:∃ a∈l,m+1<=a
  ·obtain⟨a,ha,hma⟩:=h;obtain⟨s,t,rfl⟩:=List.append_of_mem ha;have e:Kr.ks L (s++a::t)=2 ^ (L - a)+Kr.ks L (s++t):=by rw[Kr.bF,Kr.ks,Kr.bF];lia
   have hl2:(s++t).length=m:=by
    rw[List.length_append,List.length_cons] at hl;rw[List.length_append];lia
   have hk2:Kr.ks L (s++t) < 2 ^ L:=by
    rw[e] at hk;exact Nat.lt_of_le_of_lt (Nat.le_add_left _ _) hk
   have:=dy m (s++t) hl2 (by lia) hk2
   have:2 ^ (L - a)<=2 ^ (L - (m+1)):=Nat.pow_le_pow_right (by decide) (by lia)
   lia
  ·have hx:∀ x∈l,x<=m:=fun x hx=>by
    rcases Nat.lt_or_ge m x with z | z
    ·exact absurd ⟨x,hx,z⟩ h
    ·exact z
   obtain⟨k,ek⟩:=vO (show m<=L by lia) hx
   have eL:2 ^ L=2 ^ (L - m)*2 ^ m:=by rw[<- Nat.pow_add];congr 1;lia
   rw[ek] at hk ⊢;have hkm:k < 2 ^ m:=by
    rw[eL] at hk;exact Nat.lt_of_mul_lt_mul_left hk
   have:2 ^ (L - m)*(k+1)<=2 ^ (L - m)*2 ^ m:=Nat.mul_le_mul_left _ hkm;rw[<- eL,Nat.mul_succ] at this;lia
theorem lV{L d:Nat}:∀ l:List Nat,Kr.ks L (l.map fun x=>min x d)=Kr.ks L (l.filter fun x=>decide (x<=d))+(l.filter fun x=>!decide (x<=d)).length*2 ^ (L - d)
 | []=>by simp[Kr.ks]
 | x::l=>by
  rw[List.map_cons,Kr.ks,lV l,List.filter_cons,List.filter_cons];by_cases h:x<=d
  ·rw[Nat.min_eq_left h];simp only[h,decide_true,if_true,Bool.not_true,Bool.false_eq_true,if_false,Kr.ks];lia
  ·rw[Nat.min_eq_right (by lia)]
   simp only[h,decide_false,if_false,Bool.not_false,if_true,Bool.false_eq_true,List.length_cons,Nat.succ_mul];lia
theorem lS{L d:Nat}:∀ l:List Nat,Kr.ks L l=Kr.ks L (l.filter fun x=>decide (x<=d))+Kr.ks L (l.filter fun x=>!decide (x<=d))/\l.length=(l.filter fun x=>decide (x<=d)).length+(l.filter fun x=>!decide (x<=d)).length
 | []=>by simp[Kr.ks]
 | x::l=>by
  obtain⟨h1,h2⟩:=lS (L:=L) (d:=d) l;rw[Kr.ks,h1,List.length_cons,h2,List.filter_cons,List.filter_cons];by_cases h:x<=d
  ·simp only[h,decide_true,if_true,Bool.not_true,Bool.false_eq_true,if_false,Kr.ks,List.length_cons];lia
  ·simp only[h,decide_false,if_false,Bool.not_false,if_true,Bool.false_eq_true,List.length_cons,Kr.ks];lia
theorem two_le_pow:∀ k:Nat,1<=k->2*k<=2 ^ k
 | 0,h=>by lia
 | 1,_=>by decide
 | k+2,_=>by
  have:=two_le_pow (k+1) (by lia)
  rw[Nat.pow_succ];lia
theorem clamp{L:Nat}{l:List Nat}(hn:1<=l.length)(hL:l.length<=L)(hk:Kr.ks L l<=2 ^ L):Kr.ks L (l.map fun x=>min x (l.length - 1))<=2 ^ L:=by
 obtain⟨s1,s2⟩:=lS (L:=L) (d:=l.length - 1) l;rw[lV];generalize hd:l.length - 1=d at s1 s2 ⊢;generalize l.filter (fun x=>decide (x<=d))=lo at s1 s2 ⊢;generalize ho:l.filter (fun x=>!decide (x<=d))=ov at s1 s2 ⊢
 cases ov with
 | nil=>simp only[List.length_nil,Nat.zero_mul,Kr.ks] at s1 ⊢;lia
 | cons y ov =>
  have hpos:0 < 2 ^ (L - y):=Nat.pow_pos (by decide)
  rw[Kr.ks] at s1;have h:=dy (L:=L) lo.length lo rfl (by lia) (by lia)
  have h2:=two_le_pow (y::ov).length (by simp)
  have e1:2 ^ (L - d)=2 ^ (L - l.length)*2:=by rw[show L - d=(L - l.length)+1 by lia,Nat.pow_succ]
  have e2:2 ^ (L - lo.length)=2 ^ (L - l.length)*2 ^ (y::ov).length:=by rw[<- Nat.pow_add];congr 1;lia
  have e3:(y::ov).length*2 ^ (L - d)=2 ^ (L - l.length)*(2*(y::ov).length):=by rw[e1,Nat.mul_comm,Nat.mul_assoc]
  have e4:=Nat.mul_le_mul_left (2 ^ (L - l.length)) h2;rw[e3];rw[e2] at h;lia
end Pm
def dot:List Int->List Int->Int
 | c::cs,l::ls=>c*l+dot cs ls
 | _,_=>0
def nZ(l:List Nat):List Int:=l.map fun k:Nat=>(k:Int)
theorem zz(l:List Nat):nN l=nI (nZ l):=by unfold nN nZ nI;rw[List.map_map];rfl
theorem kL:∀ (cs:List Int) (l:List Nat),l.length=cs.length->dot cs (nZ l)=Pm.sI (fun i=>d4 cs i*((l.getD i 0:Nat):Int)) cs.length
 | [],[],_=>rfl
 | c::cs,x::l,h=>by
  rw[List.length_cons,Pm.lh];show c*(x:Int)+dot cs (nZ l)=_;rw[kL cs l (by simpa using h)]
  rfl
theorem uf:∀ {cs:List Int} {l:List Nat} {d:Nat},(∀ c∈cs,0<=c)->dot cs (nZ (l.map fun x=>min x d))<=dot cs (nZ l)
 | [],_,_,_=>by unfold dot;exact Int.le_refl _
 | c::cs,[],_,_=>by show (0:Int)<=0;lia
 | c::cs,x::l,d,h=>by
  have ih:=uf (l:=l) (d:=d) fun y hy=>h y (List.mem_cons_of_mem _ hy);have hc:=h c List.mem_cons_self;show c*((min x d:Nat):Int)+dot cs (nZ (l.map fun x=>min x d))<=c*(x:Int)+dot cs (nZ l);have:=Int.mul_le_mul_of_nonneg_left (show ((min x d:Nat):Int)<=(x:Int) by lia) hc
  lia
theorem zx:∀ n:Nat,1<=n->n<=2 ^ (n - 1)
 | 0,h=>by lia
 | 1,_=>by decide
 | n+2,_=>by
  have:=zx (n+1) (by lia)
  rw[show n+2 - 1=(n+1 - 1)+1 by lia,Nat.pow_succ];lia
theorem FL{cs:List Int}(h:∀ c∈cs,0<=c)(i:Nat)(hi:i < cs.length):0<=d4 cs i:=by
 unfold d4;rw[List.getD_eq_getElem?_getD,List.getElem?_eq_getElem hi];exact h _ (List.getElem_mem hi)
theorem iB(f:Nat->Nat){n i:Nat}(h:i < n):((List.range n).map f).getD i 0=f i:=by
 rw[List.getD_eq_getElem?_getD,List.getElem?_map,List.getElem?_range h];rfl
structure EM (cs:List Int) (b:Nat) (ls:List Nat):Prop where
 len:ls.length=cs.length
 dk:∀ x∈ls,1<=x/\x<=b
 ks:Kr.ks 40 ls<=2 ^ 40
 low:∀ l:List Nat,l.length=cs.length->(∀ x∈l,1<=x/\x<=b)->Kr.ks 40 l<=2 ^ 40->dot cs (nZ ls)<=dot cs (nZ l)
theorem q_{cs:List Int}{b:Nat}(hc:∀ c∈cs,0<=c)(hn:1<=cs.length)(hn2:cs.length<=20)(hb:1<=b)(hb2:b<=40)(hm:cs.length<=2 ^ b):EM cs b (cC cs b):=by
 unfold cC;by_cases h1:cs.length=1
 ·rw[if_pos h1];refine⟨h1.symm,fun x hx=>?_,by decide,fun l hl hx hk=>?_⟩
  ·rw[List.mem_singleton.mp hx];lia
  ·rw[h1] at hl;obtain⟨x,rfl⟩:=List.length_eq_one_iff.mp hl;obtain⟨c,rfl⟩:=List.length_eq_one_iff.mp h1;have h0:=hc c (by simp)
   have hx1:=(hx x (by simp)).1
   show c*((1:Nat):Int)+0<=c*(x:Int)+0;have:=Int.mul_le_mul_of_nonneg_left (show ((1:Nat):Int)<=(x:Int) by lia) h0
   lia
 ·rw[if_neg h1];have hn3:2<=cs.length:=by lia
  have hcc:=FL hc;generalize hD:min b (cs.length - 1)=D;have hD1:cs.length<=2 ^ D:=by
   rcases Nat.le_total b (cs.length - 1) with z | z
   ·rw[<- hD,Nat.min_eq_left z];exact hm
   ·rw[<- hD,Nat.min_eq_right z];exact zx _ hn
  obtain⟨w1,w2,w3,w4⟩:=Pm.xq hcc hn3 hD1;have hlen:((List.range cs.length).map (Pm.dC (d4 cs) cs.length D)).length=cs.length:=by rw[List.length_map,List.length_range]
  have hrng:∀ x∈(List.range cs.length).map (Pm.dC (d4 cs) cs.length D),1<=x/\x<=D:=fun x hx=>by
   obtain⟨i,hi,rfl⟩:=List.mem_map.mp hx;exact⟨w2 i (List.mem_range.mp hi),w1 i⟩
  have hdot:dot cs (nZ ((List.range cs.length).map (Pm.dC (d4 cs) cs.length D)))=Pm.wt ((Pm.shelf (d4 cs) cs.length D).take (2*cs.length - 2)):=by
   rw[kL _ _ hlen,w4];exact Pm.dv fun i hi=>by rw[iB _ hi]
  refine⟨hlen,fun x hx=>by have:=hrng x hx;lia,?_,fun l hl hx hk=>?_⟩
  ·rw[Pm.lI (D:=D) (by lia) fun x hx=>(hrng x hx).2,Pm.tE,hlen]
   rw[Pm.cI (g:=fun i=>2 ^ (D - Pm.dC (d4 cs) cs.length D i)) fun i hi=>by rw[iB _ hi]]
   exact w3
  ·rw[hdot];have key:∀ l:List Nat,l.length=cs.length->(∀ x∈l,x<=D)->Kr.ks 40 l<=2 ^ 40->Pm.wt ((Pm.shelf (d4 cs) cs.length D).take (2*cs.length - 2))<=dot cs (nZ l):=fun l hl hx hk=>by
    rw[kL _ _ hl];refine Pm.nJ hcc hn (l:=fun i=>l.getD i 0) (fun i hi=>?_) ?_
    ·rw[List.getD_eq_getElem?_getD,List.getElem?_eq_getElem (by lia)]
     exact hx _ (List.getElem_mem _)
    ·rw[Pm.lI (D:=D) (by lia) hx,Pm.tE,hl] at hk
     exact hk
   refine Int.le_trans (key (l.map fun x=>min x (cs.length - 1)) (by rw[List.length_map];exact hl) (fun x hx'=>?_) ?_) (uf hc)
   ·obtain⟨y,hy,rfl⟩:=List.mem_map.mp hx';have:=(hx y hy).2;lia
   ·have:=Pm.clamp (L:=40) (l:=l) (by lia) (by lia) hk
    rw[hl] at this;exact this
theorem vP(xs:List Int)(n:Nat):Y.bu (nI xs) none (some (n:Int))=nI (xs.take n):=by
 unfold Y.bu;rw[HT.cH,HT.d8,Nat.sub_zero,List.drop_zero];unfold nI;rw[List.length_map,<- List.map_take];congr 1;rw[List.take_eq_take_iff];lia
theorem sY(xs:List Int)(n:Nat):Y.bu (nI xs) (some (n:Int)) none=nI (xs.drop n):=by
 unfold Y.bu;rw[HT.cH,HT.d8];unfold nI;rw[List.length_map,<- List.map_drop];rcases Nat.lt_or_ge n xs.length with z | z
 ·rw[Nat.min_eq_left (by lia)]
  rw[List.take_of_length_le (by simp)]
 ·rw[Nat.min_eq_right z,Nat.sub_self,List.take_zero,List.drop_eq_nil_of_le z];rfl
theorem xh{v:Int}(h0:0<=v)(h1:v < 6):∃ d:Int,(0 < d/\d < 4611686018427387904)/\bV [L2.T.int 1,.int 1000,.int 1000000,.int 1000000000,.int 100000000000,.int 1000000000000] v=some (.int d):=by
 have:v=0\/v=1\/v=2\/v=3\/v=4\/v=5:=by lia
 rcases this with rfl | rfl | rfl | rfl | rfl | rfl
 ·exact⟨1,⟨by decide,by decide⟩,rfl⟩
 ·exact⟨1000,⟨by decide,by decide⟩,rfl⟩
 ·exact⟨1000000,⟨by decide,by decide⟩,rfl⟩
 ·exact⟨1000000000,⟨by decide,by decide⟩,rfl⟩
 ·exact⟨100000000000,⟨by decide,by decide⟩,rfl⟩
 ·exact⟨1000000000000,⟨by decide,by decide⟩,rfl⟩
theorem lT(v:Int):∀ n:Nat,(List.replicate n [L2.T.int v]).flatten=nI (List.replicate n v)
 | 0=>rfl
 | n+1=>by rw[List.replicate_succ,List.flatten_cons,lT v n,List.replicate_succ];rfl
theorem u9:∀ {l:List Int},(∀ x∈l,0<=x)->0<=l.sum
 | [],_=>Int.le_refl _
 | x::l,h=>by
  rw[List.sum_cons];exact Int.add_nonneg (h x List.mem_cons_self) (u9 fun y hy=>h y (List.mem_cons_of_mem _ hy))
theorem A7{fs:List Int}(h:∀ x∈fs,0<=x):0<=(Y.bu (0::1::fs) (some (-2)) none).sum:=u9 fun x hx=>by
 have hx:x∈(0::1::fs:List Int):=by
  unfold Y.bu at hx;exact List.mem_of_mem_drop (List.mem_of_mem_take hx)
 rcases List.mem_cons.mp hx with e | hx
 ·lia
 ·rcases List.mem_cons.mp hx with e | hx
  ·lia
  ·exact h x hx
theorem Cq{n d:Int}(h:0<=n)(hd:0 < d):0<=n / d:=Int.ediv_nonneg h (Int.le_of_lt hd)
def qA:fL:=fun args Q=>∃ (s:L2.T) (n:Nat),args=[s,.int (n:Int)]/\dw s/\0 < n/\n<=20/\∀ (cs:List Int) (s':L2.T),dw s'->cs.length=n->(∀ x∈cs,0<=x)->Q (.tr (.tup (nI cs))) [s']
theorem rG(T:Txt K mg)(F:HasFn K mg "_law_counts" aD ["seed","many"])(h_law_draw:ah P w K mg base cw 1 "_law_draw" ["seed","most"] (spT K [true,false] mH)):ah P w K mg base cw 2 "_law_counts" ["seed","many"] (spT K [true,false] qA):=by
 refine F.pg aF [true,false] rfl (by decide) (fun args Qt hl h f cdv A outer s H E hr=>?_)
 have hu:=b_ hr;obtain⟨sd,n,rfl,hs,n0,n1,q⟩:=h;refine⟨_,(Y.ai (Y.set (i:=2) aF.nd rfl (by walk_at "lc") (Y.fn K rfl h_law_draw (hr.mono (by decide)) rfl aU (Y.cons (Y.vS 0) (Y.cons Y.int Y.nil))))
   (Y.ai (Y.jc (Y.cq (Y.dN K rfl (Nat.lt_of_succ_lt hu)) Y.gf (Y.vS 2) Y.int) (Y.aX (Y.ret (Y.ct (Y.aZ K rfl) Y.bD rfl T.bU (by decide +kernel) (Y.cons (Y.op (Y.cD K rfl) Y.cE (Y.lst (Y.cons (Y.fn K rfl h_law_draw (hr.mono (by decide)) rfl aU (Y.cons (Y.vS 0) (Y.cons Y.int Y.nil))) Y.nil)) (Y.vS 1)) Y.nil)))) Y.df)
   (Y.ai (Y.jc (Y.cq (Y.dN K rfl (Nat.lt_of_succ_lt hu)) Y.gf (Y.vS 2) Y.int) (Y.aX (Y.ret (Y.ct (Y.aZ K rfl) Y.bD rfl T.bU (by decide +kernel) (Y.cons (Y.fi (osc:=aa aD) (ON:=["seed","many","way","found","k","number","start"]) (own:=["k"]) (N:=["k","seed","many","way","found",".k","number","start"]) ⟨rfl,by decide +kernel,rfl,by decide +kernel,by decide +kernel,by decide +kernel,by decide +kernel,by decide +kernel⟩ rfl rfl rfl rfl (Y.ip rfl T.bY (Y.cons (Y.vS 1) Y.nil)) (fun _ _ _ _=>(Z.aQ (i:=0) (show List.Nodup (["k","seed","many","way","found",".k","number","start"]:List Str) by decide +kernel) rfl (by walk_at "lc"))) (fun _ _ _ _=>Y.la) (fun _ _ _ _=>(Y.fn K rfl h_law_draw (hr.mono (by decide)) rfl aU (Y.cons (Y.vS 1) (Y.cons Y.int Y.nil))))) Y.nil)))) Y.df)
   (Y.ai (Y.set (i:=3) aF.nd rfl (by walk_at "lc") (Y.lst Y.nil))
   (Y.ai (Y.iG PassesOwn.never rfl (Y.ip rfl T.bY (Y.cons (Y.vS 1) Y.nil)) (Y.aQ (i:=4) aF.nd rfl (by walk_at "lc")) (Y.ai (Y.set (i:=5) aF.nd rfl (by walk_at "lc") (Y.op (Y.aG K rfl) Y.aH (Y.op (Y.cD K rfl) Y.cE (Y.fn K rfl h_law_draw (hr.mono (by decide)) rfl aU (Y.cons (Y.vS 0) (Y.cons (Y.op dB Y.bt Y.int Y.int) Y.nil))) (Y.op dB Y.bt Y.int Y.int)) (Y.fn K rfl h_law_draw (hr.mono (by decide)) rfl aU (Y.cons (Y.vS 0) (Y.cons (Y.op dB Y.bt Y.int Y.int) Y.nil)))))
   (Y.ai (Y.jc (Y.cq (Y.dN K rfl (Nat.lt_of_succ_lt hu)) Y.gf (Y.vS 2) Y.int) (Y.aX (Y.set (i:=5) aF.nd rfl (by walk_at "lc") (Y.op BA Y.bt Y.int (Y.vS 4)))) Y.df)
   (Y.ai (Y.jc (Y.cq (Y.dN K rfl (Nat.lt_of_succ_lt hu)) Y.gf (Y.vS 2) Y.int) (Y.aX (Y.set (i:=5) aF.nd rfl (by walk_at "lc") (Y.op (Y.aG K rfl) Y.aH (Y.cb (Y.jw K rfl rfl) Y.uX rfl T.zE (by decide +kernel) (Y.cons (Y.cV K rfl (Y.op (Y.aG K rfl) Y.aH (Y.lst (Y.oI rfl rfl)) (Y.vS 3)) (Y.sf (Y.neg Y.int)) Y.qY) Y.nil)) (Y.fn K rfl h_law_draw (hr.mono (by decide)) rfl aU (Y.cons (Y.vS 0) (Y.cons Y.int Y.nil)))))) Y.df)
   (Y.ai (Y.jc (Y.cq (Y.dN K rfl (Nat.lt_of_succ_lt hu)) Y.gf (Y.vS 2) Y.int) (Y.aX (Y.set (i:=5) aF.nd rfl (by walk_at "lc") (Y.op Y.hG Y.bt (Y.vS 5) (Y.ix (Y.cJ K rfl) Y.aR (Y.lst (Y.cons Y.int (Y.cons (Y.op dB Y.bt Y.int Y.int) (Y.cons (Y.op dB Y.bt Y.int Y.int) (Y.cons (Y.op dB Y.bt Y.int Y.int) (Y.cons (Y.op dB Y.bt Y.int Y.int) (Y.cons (Y.op dB Y.bt Y.int Y.int) Y.nil))))))) (Y.fn K rfl h_law_draw (hr.mono (by decide)) rfl aU (Y.cons (Y.vS 0) (Y.cons Y.int Y.nil))))))) Y.df)
   (Y.aX (Y.expr (Y.bm K rfl PySem.F.slot_list_append PySem.F.type_list_append fM Y.j6 (Y.vS 3) (Y.cons (Y.vS 5) Y.nil)))))))))
   (Y.ai (Y.set (i:=6) aF.nd rfl (by walk_at "lc") (Y.fn K rfl h_law_draw (hr.mono (by decide)) rfl aU (Y.cons (Y.vS 0) (Y.cons (Y.vS 1) Y.nil))))
   (Y.aX (Y.ret (Y.ct (Y.aZ K rfl) Y.bD rfl T.bU (by decide +kernel) (Y.cons (Y.op (Y.aG K rfl) Y.aH (Y.cV K rfl (Y.vS 3) (Y.sf (Y.vS 6)) Y.qY) (Y.cV K rfl (Y.vS 3) Y.qY (Y.sf (Y.vS 6)))) Y.nil)))))))))),?_⟩
 refine aY fun N hN=>?_;walk_at "rt";refine⟨sd,6,rfl,hs,by decide,by decide,fun way s1 hs1 w0 w1=>?_⟩
 walk_at "rt";refine hN _ ?_;clear hN N;refine aY fun N hN=>?_;by_cases a0:way=0
 ·wp_walk using if_pos a0;refine⟨s1,3,rfl,hs1,by decide,by decide,fun v s2 hs2 v0 _=>?_⟩
  wp_walk using Int.toNat_natCast,lT;exact⟨by decide,by lia,by lia,Nat.le_trans (show _<=60 by lia) (by decide),q _ _ hs2 (List.length_replicate ..) (fun x hx=>by rw[List.eq_of_mem_replicate hx];exact v0)⟩
 ·wp_walk using if_neg a0;refine hN _ ?_;clear hN N;refine aY fun N hN=>?_;by_cases a1:way=1
  ·wp_walk using if_pos a1;refine⟨by lia,by lia,?_⟩
   refine ba (fun rest acc μ=>∃ (i:Nat) (ss:List Int) (s4:L2.T),rest.length=n - i/\i<=n/\acc=nI ss/\ss.length=i/\(∀ x∈ss,0<=x)/\dw s4/\μ=[.pb s4,.tr (.int (n:Int)),.tr (.int way),.un,.un,.un,.un]) ⟨0,[],s1,by simp,Nat.zero_le _,rfl,rfl,(fun x hx=>by cases hx),hs1,rfl⟩ ?_ ?_
   ·rintro acc μ ⟨i,ss,s4,e,hi,rfl,hsl,hss,hs4,rfl⟩;have hin:i=n:=by simp at e;lia
    refine⟨trivial,?_⟩;walk_at "rt";exact q _ _ hs4 (by lia) hss
   ·rintro t r acc μ M ⟨i,ss,s4,e,hi,rfl,hsl,hss,hs4,rfl⟩ k;have hi2:i < n:=by simp at e;lia
    refine⟨trivial,by rw[bK,hsl];exact Nat.lt_of_le_of_lt (show i<=60 by lia) (by decide),?_⟩
    walk_at "rt";refine⟨s4,7,rfl,hs4,by decide,by decide,fun v s5 hs5 v0 _=>?_⟩
    walk_at "rt";exact k _ _ ⟨i+1,ss++[v],s5,by simp at e ⊢;lia,hi2,by simp[nI],by simp[hsl],(fun x hx=>(List.mem_append.mp hx).elim (hss x) fun h=>by rw[List.mem_singleton.mp h];exact v0),hs5,rfl⟩
  ·wp_walk using if_neg a1;refine hN _ ?_;clear hN N;refine aY fun N hN=>?_;walk_at "rt";refine hN _ ?_;clear hN N;refine aY fun N hN=>?_;walk_at "rt";refine⟨by lia,by lia,?_⟩
   refine cY (fun rest μ=>∃ (i:Nat) (fs:List Int) (s5:L2.T) (o4 o5:Option L2.T),rest.length=n - i/\(∀ t∈rest,∃ k:Int,t=.int k/\0<=k/\k<=20)/\i<=n/\fs.length=i/\(∀ x∈fs,0<=x)/\dw s5/\μ=[.pb s5,.tr (.int (n:Int)),.tr (.int way),.bx (.lst (nI fs)),sl o4,sl o5,.un])
    ⟨0,[],s1,none,none,by simp,fun t ht=>?_,Nat.zero_le _,rfl,(fun x hx=>by cases hx),hs1,rfl⟩ ?_ ?_
   ·obtain⟨a,ha,rfl⟩:=List.mem_map.mp ht;have:=List.mem_range.mp ha;exact⟨_,rfl,by lia,by lia⟩
   ·rintro μ ⟨i,fs,s5,o4,o5,e,_,hi,hfl,hff,hs5,rfl⟩;have hin:i=n:=by simp at e;lia
    show N _;refine hN _ ?_;clear hN N;refine aY fun N hN=>?_;walk_at "rt";refine⟨s5,(n:Int),rfl,hs5,by lia,by lia,fun v s6 hs6 v0 v1=>?_⟩
    obtain⟨x,rfl⟩:∃ x:Nat,v=x:=⟨v.toNat,by lia⟩
    walk_at "rt";refine hN _ ?_;clear hN N;wp_walk using vP,sY,bK;refine⟨Nat.le_trans (show _<=60 by rw[List.length_drop,List.length_take];lia) (by decide),?_⟩
    rw[<- kO];exact q _ _ hs6 (by rw[List.length_append,List.length_drop,List.length_take];lia) (fun x hx=>(List.mem_append.mp hx).elim (fun h=>hff x (List.mem_of_mem_drop h)) fun h=>hff x (List.mem_of_mem_take h))
   ·rintro t ts μ M ⟨i,fs,s5,o4,o5,e,ht,hi,hfl,hff,hs5,rfl⟩ k;obtain⟨kk,rfl,k0,k1⟩:=ht t (by simp)
    have hi2:i < n:=by simp at e;lia
    have hz:(nI fs).length < sizeLine:=by rw[bK];exact Nat.lt_of_le_of_lt (show fs.length<=60 by lia) (by decide)
    walk_at "rt";refine aY fun M1 h1=>?_;have r1:∀ (num:Int) (s':L2.T),0<=num->dw s'->M1 [.pb s',.tr (.int (n:Int)),.tr (.int way),.bx (.lst (nI fs)),.tr (.int kk),.tr (.int num),.un]:=fun num s' num0 hs'=>by
     refine h1 _ ?_;clear h1 M1;refine aY fun M2 h2=>?_;have r2:∀ (num:Int) (s':L2.T),0<=num->dw s'->M2 [.pb s',.tr (.int (n:Int)),.tr (.int way),.bx (.lst (nI fs)),.tr (.int kk),.tr (.int num),.un]:=fun num s' num0 hs'=>by
      refine h2 _ ?_;clear h2 M2;refine aY fun M3 h3=>?_;have r3:∀ (num:Int) (s':L2.T),0<=num->dw s'->M3 [.pb s',.tr (.int (n:Int)),.tr (.int way),.bx (.lst (nI fs)),.tr (.int kk),.tr (.int num),.un]:=fun num s' num0 hs'=>by
       refine h3 _ ?_;clear h3 M3;refine aY fun M4 h4=>?_;have r4:∀ (num:Int) (s':L2.T),0<=num->dw s'->M4 [.pb s',.tr (.int (n:Int)),.tr (.int way),.bx (.lst (nI fs)),.tr (.int kk),.tr (.int num),.un]:=fun num s' num0 hs'=>by
        refine h4 _ ?_;clear h4 M4;walk_at "rt";exact⟨hz,k _ ⟨i+1,fs++[num],s',some (.int kk),some (.int num),by simp at e ⊢;lia,fun t h=>ht t (by simp[h]),hi2,by simp[hfl],(fun x hx=>(List.mem_append.mp hx).elim (hff x) fun h=>by rw[List.mem_singleton.mp h];exact num0),hs',by simp[nI,sl]⟩⟩
       by_cases a:way=4
       ·wp_walk using if_pos a;refine⟨⟨by decide,by decide,by decide⟩,⟨by decide,by decide,by decide⟩,⟨by decide,by decide,by decide⟩,⟨by decide,by decide,by decide⟩,⟨by decide,by decide,by decide⟩,by decide,s',6,rfl,hs',by decide,by decide,fun v s6 hs6 v0 v1=>?_⟩
        obtain⟨d,hd,ed⟩:=xh v0 v1;wp_walk using ed;exact⟨hd,r4 _ _ (Cq num0 hd.1) hs6⟩
       ·wp_walk using if_neg a;exact r4 _ _ num0 hs'
      by_cases a:way=3
      ·wp_walk using if_pos a;refine⟨by decide,Nat.le_trans (show _<=60 by rw[bK];lia) (by decide),Y.bu (0::1::fs) (some (-2)) none,qy (0::1::fs) _ _,s',2,rfl,hs',by decide,by decide,fun v s6 hs6 v0 _=>?_⟩
       walk_at "rt";exact r3 _ _ (Int.add_nonneg (A7 hff) v0) hs6
      ·wp_walk using if_neg a;exact r3 _ _ num0 hs'
     by_cases a:way=2
     ·wp_walk using if_pos a;exact⟨⟨k0,by lia,by decide⟩,r2 _ _ (by rw[Int.one_mul];exact Int.le_of_lt (Int.pow_pos (by decide))) hs'⟩
     ·wp_walk using if_neg a;exact r2 _ _ num0 hs'
    walk_at "rt";refine⟨⟨by decide,by decide,by decide⟩,s5,1000000,rfl,hs5,by decide,by decide,fun v s6 hs6 v0 v1=>?_⟩
    walk_at "rt";refine⟨⟨by decide,by decide,by decide⟩,.inr ⟨by decide,by decide⟩,⟨by decide,by decide,by decide⟩,s6,1000000,rfl,hs6,by decide,by decide,fun v2 s7 hs7 w0 _=>?_⟩
    walk_at "rt";exact r1 _ _ (by lia) hs7
def zf:fL:=fun args Q=>∃ (c:L2.T) (cs ls:List Int),args=[c,.tup (nI ls)]/\lb c=some (nI cs)/\cs.length<=20/\(∀ x∈ls,1<=x/\x<=40)/\Q (.tr (.int (dot cs ls))) []
theorem small{x:Int}(h:1<=x/\x<=40):-(2 ^ 64) < x/\x < 2 ^ 64:=⟨by lia,by lia⟩
theorem xX(T:Txt K mg)(F:HasFn K mg "cost_of" bG ["counts","lengths"]):ah P w K mg base cw 1 "cost_of" ["counts","lengths"] (spT K [false,false] zf):=by
 refine F.pg ny [false,false] rfl (by decide) (fun args Qt hl h f cdv A outer s H E hr=>?_)
 have hu:=b_ hr;obtain⟨c,cs,ls,rfl,hsq,hcl,hx,q⟩:=h;refine⟨_,(Y.aX (Y.ret (Y.cb (Y.jw K rfl rfl) Y.uX rfl T.zE (by decide +kernel) (Y.cons (Y.pf K rfl (osc:=aa bG) (ON:=["counts","lengths"]) (own:=["count","length"]) (N:=["count","length","counts","lengths"]) ⟨rfl,by decide +kernel,rfl,by decide +kernel,by decide +kernel,by decide +kernel,by decide +kernel,by decide +kernel⟩ rfl rfl rfl rfl (Y.zip K rfl rfl T.vC (Y.cons (Y.vS 0) (Y.cons (Y.vS 1) Y.nil))) (fun _ _ _ _=>(Z.oa (n:=2) K rfl rfl (Z.cu (Z.aQ (i:=0) (show List.Nodup (["count","length","counts","lengths"]:List Str) by decide +kernel) rfl (by walk_at "lc")) (Z.cu (Z.aQ (i:=1) (show List.Nodup (["count","length","counts","lengths"]:List Str) by decide +kernel) rfl (by walk_at "lc")) Z.fX)))) (fun _ _ _ _=>Y.la) (fun _ _ _ _=>(Y.op (Y.cD K rfl) Y.cE (Y.vS 0) (Y.vS 1)))) Y.nil)))),?_⟩
 wp_walk using hsq;refine ba (fun rest acc μ=>∃ (cs' ls' vs:List Int),rest=kT (nI cs') (nI ls')/\cs'.length+vs.length<=20/\acc=nI vs/\(∀ x∈ls',1<=x/\x<=40)/\vs.sum+dot cs' ls'=dot cs ls/\μ=[.tr c,.tr (.tup (nI ls))]) ⟨cs,ls,[],rfl,by simpa using hcl,rfl,hx,by simp,rfl⟩ ?_ ?_
 ·rintro acc μ ⟨cs',ls',vs,e,_,rfl,_,ev,rfl⟩;have e0:dot cs' ls'=0:=by
   cases cs' with
   | nil=>rfl
   | cons=>cases ls' with
    | nil=>rfl
    | cons=>cases e
  refine⟨trivial,?_⟩;walk_at "rt";rw[e0,Int.add_zero] at ev;exact⟨vs,rfl,by rw[ev];exact q⟩
 ·rintro t ts acc μ M ⟨cs',ls',vs,e,hlen,rfl,hx',ev,rfl⟩ k
  cases cs' with
  | nil=>cases e
  | cons c cs'=>cases ls' with
   | nil=>cases e
   | cons l ls' =>
    cases e;rw[List.length_cons] at hlen;refine⟨trivial,by rw[bK];exact Nat.lt_of_le_of_lt (show vs.length<=20 by lia) (by decide),?_⟩
    walk_at "rt";refine⟨.inr (small (hx' l (by simp))),k _ _ ⟨cs',ls',vs++[c*l],rfl,by rw[List.length_append,List.length_singleton];lia,by rw[kO];rfl,fun x h=>hx' x (by simp[h]),?_,rfl⟩⟩
    rw[<- ev,List.sum_append];simp only[dot,List.sum_cons,List.sum_nil];lia
namespace Cw
def inc:List Nat->List Nat
 | []=>[]
 | c::r=>if r.all (· == 49) then (if c=48 then 49::r.map (fun _=>48) else 48::r.map (fun _=>48)) else c::inc r
def pad(n:Nat)(w:List Nat):List Nat:=w++List.replicate (n - w.length) 48
def i_(w:List Nat)(n:Nat):List Nat:=pad n (inc w)
def je(w:List Nat)(n:Nat):List Nat:=pad n ((w.reverse.dropWhile (· == 49)).reverse.dropLast++[49])
theorem EK:∀ w:List Nat,w.all (· == 49)=true->inc w=w.map fun _=>48
 | [],_=>rfl
 | c::r,h=>by
  rw[List.all_cons,Bool.and_eq_true] at h;have hc:c=49:=beq_iff_eq.mp h.1;unfold inc;rw[if_pos h.2,if_neg (by rw[hc];decide),List.map_cons]
theorem kb:∀ {l:List Nat},l.all (· == 49)=true->l=List.replicate l.length 49
 | [],_=>rfl
 | c::r,h=>by
  rw[List.all_cons,Bool.and_eq_true] at h;have hc:c=49:=beq_iff_eq.mp h.1;rw[List.length_cons,List.replicate_succ,<- kb h.2,hc]
theorem xi(k:Nat):(List.replicate k 49).all (· == 49)=true:=by
 rw[List.all_eq_true];intro x hx;rw[(List.mem_replicate.mp hx).2];rfl
theorem parts:∀ {w:List Nat},(∀ c∈w,c=48\/c=49)->w.all (· == 49)=false->∃ p k,w=p++48::List.replicate k 49
 | [],_,h=>by cases h
 | c::r,hb,h=>by
  by_cases z:r.all (· == 49)=true
  ·rw[List.all_cons,z,Bool.and_true] at h;have hc:c=48:=(hb c List.mem_cons_self).resolve_right fun e=>by rw[e] at h;cases h
   exact⟨[],r.length,by rw[hc,List.nil_append,<- kb z]⟩
  ·obtain⟨p,k,e⟩:=parts (w:=r) (fun x hx=>hb x (List.mem_cons_of_mem _ hx)) (by simpa using z)
   exact⟨c::p,k,by rw[e];rfl⟩
theorem e8(k:Nat):∀ p:List Nat,inc (p++48::List.replicate k 49)=p++49::List.replicate k 48
 | []=>by
  rw[List.nil_append,List.nil_append];unfold inc;rw[if_pos (xi k),if_pos rfl,List.map_replicate]
 | c::p=>by
  rw[List.cons_append];unfold inc;have z:¬ (p++48::List.replicate k 49).all (· == 49)=true:=by
   rw[List.all_append,List.all_cons];simp
  rw[if_neg z,e8 k p];rfl
theorem nF(k:Nat)(p:List Nat):((p++48::List.replicate k 49).reverse.dropWhile (· == 49)).reverse=p++[48]:=by
 rw[List.reverse_append,List.reverse_cons,List.reverse_replicate];have e:∀ (k:Nat) (t:List Nat),(List.replicate k 49++[48]++t).dropWhile (· == 49)=[48]++t:=fun k t=>by
  induction k with
  | zero=>rfl
  | succ k ih=>rw[List.replicate_succ,List.cons_append,List.cons_append,List.dropWhile_cons,if_pos (by decide)];exact ih
 rw[e,List.reverse_append,List.reverse_reverse];rfl
theorem rA{w:List Nat}{n:Nat}(hb:∀ c∈w,c=48\/c=49)(h:w.all (· == 49)=false)(hn:w.length<=n):je w n=i_ w n:=by
 obtain⟨p,k,rfl⟩:=parts hb h;unfold je i_ pad;rw[nF,e8,List.dropLast_append_of_ne_nil (by simp)]
 rw[List.length_append,List.length_cons,List.length_replicate] at hn;simp only[List.dropLast_singleton,List.append_nil,List.length_append,List.length_cons,List.length_replicate,List.length_nil,List.append_assoc,List.cons_append,List.nil_append];congr 2;rw[List.replicate_append_replicate];congr 1
 omega
def val:List Nat->Nat
 | []=>0
 | c::r=>(c - 48)*2 ^ r.length+val r
theorem gO:∀ a b:List Nat,val (a++b)=val a*2 ^ b.length+val b
 | [],b=>by simp[val]
 | c::a,b=>by
  rw[List.cons_append,val,val,gO a b,List.length_append,Nat.pow_add,Nat.add_mul,Nat.mul_assoc,Nat.add_assoc]
theorem e7:∀ k,val (List.replicate k 48)=0
 | 0=>rfl
 | k+1=>by rw[List.replicate_succ,val,e7 k];simp
theorem g_:∀ k,val (List.replicate k 49)+1=2 ^ k
 | 0=>rfl
 | k+1=>by
  have:=g_ k;rw[List.replicate_succ,val,List.length_replicate,Nat.pow_succ]
  omega
theorem kr:∀ w:List Nat,(inc w).length=w.length
 | []=>rfl
 | c::r=>by
  unfold inc;split
  ·split<;>simp
  ·rw[List.length_cons,List.length_cons,kr r]
theorem lj:∀ {w:List Nat},(∀ c∈w,c=48\/c=49)->∀ c∈inc w,c=48\/c=49
 | [],_,_,h=>by cases h
 | d::r,hb,c,h=>by
  unfold inc at h
  split at h
  ·split at h
   ·rcases List.mem_cons.mp h with h | h
    ·exact .inr h
    ·obtain⟨_,_,e⟩:=List.mem_map.mp h;exact .inl e.symm
   ·rcases List.mem_cons.mp h with h | h
    ·exact .inl h
    ·obtain⟨_,_,e⟩:=List.mem_map.mp h;exact .inl e.symm
  ·rcases List.mem_cons.mp h with h | h
   ·rw[h];exact hb d List.mem_cons_self
   ·exact lj (fun x hx=>hb x (List.mem_cons_of_mem _ hx)) c h
theorem ib{w:List Nat}{n:Nat}(h:w.length<=n):(i_ w n).length=n:=by
 unfold i_ pad;rw[List.length_append,List.length_replicate,kr];omega
theorem rH{w:List Nat}{n:Nat}(hb:∀ c∈w,c=48\/c=49):∀ c∈i_ w n,c=48\/c=49:=fun c h=>by
 rcases List.mem_append.mp h with h | h
 ·exact lj hb c h
 ·exact .inl (List.mem_replicate.mp h).2
theorem uj{w:List Nat}{n:Nat}(hb:∀ c∈w,c=48\/c=49)(h:w.all (· == 49)=false):val (i_ w n)=(val w+1)*2 ^ (n - w.length):=by
 unfold i_ pad;rw[gO,e7,List.length_replicate,kr,Nat.add_zero];congr 1;obtain⟨p,k,rfl⟩:=parts hb h;have:=g_ k;rw[e8,gO,gO,val,val,e7,List.length_cons,List.length_cons,List.length_replicate,List.length_replicate]
 omega
theorem vE{w:List Nat}(h:w.all (· == 49)=true):val w+1=2 ^ w.length:=by
 rw[kb h,List.length_replicate];exact g_ _
structure iA (done:List Nat) (w:List Nat):Prop where
 bits:∀ c∈w,c=48\/c=49
 len:w.length<=40
 sum:(val w+1)*2 ^ (40 - w.length)=Kr.ks 40 done
theorem iA.zero{done rest w:List Nat}{l:Nat}(h:iA done w)(hk:Kr.ks 40 done+2 ^ (40 - l)<=2 ^ 40):w.all (· == 49)=false:=by
 cases z:w.all (· == 49) with
 | false=>rfl
 | true =>
  have e:=h.sum;rw[vE z,<- Nat.pow_add,Nat.add_sub_cancel' h.len] at e;have:0 < 2 ^ (40 - l):=Nat.pow_pos (by decide)
  omega
theorem iA.next{done w:List Nat}{l:Nat}(h:iA done w)(hl:w.length<=l)(hl2:l<=40)(hk:Kr.ks 40 done+2 ^ (40 - l)<=2 ^ 40):iA (done++[l]) (i_ w l):=by
 have z:=h.zero (rest:=[]) hk;refine⟨rH h.bits,by rw[ib hl];exact hl2,?_⟩
 rw[uj h.bits z,ib hl,Nat.add_mul,Nat.mul_assoc,<- Nat.pow_add,Kr.bF,<- h.sum];have e:l - w.length+(40 - l)=40 - w.length:=by omega
 rw[e];simp[Kr.ks]
theorem iA.first{l:Nat}(hl:l<=40):iA [l] (List.replicate l 48):=⟨fun c h=>.inl (List.mem_replicate.mp h).2,by rw[List.length_replicate];exact hl,by rw[e7,List.length_replicate];simp[Kr.ks]⟩
def along(nx:List Nat->Nat->List Nat)(ln:Nat->Nat):List Nat->Option (List Nat)×List (List Nat)->Option (List Nat)×List (List Nat)
 | [],s=>s
 | t::r,(a,ws) =>
  let w:=match a with | none=>List.replicate (ln t) 48 | some v=>nx v (ln t)
  along nx ln r (some w,ws.set t w)
theorem ft{nx:List Nat->Nat->List Nat}{ln:Nat->Nat}:∀ (a b:List Nat) (s:Option (List Nat)×List (List Nat)),along nx ln (a++b) s=along nx ln b (along nx ln a s)
 | [],_,_=>rfl
 | t::r,b,(a,ws)=>ft r b _
theorem fG{nx:List Nat->Nat->List Nat}{ln:Nat->Nat}:∀ (o:List Nat) (s:Option (List Nat)×List (List Nat)),(along nx ln o s).2.length=s.2.length
 | [],_=>rfl
 | t::r,(a,ws)=>(fG r _).trans List.length_set
section
variable {α:Type}
end
end Cw
def wd(w:List Nat):Str:=⟨w.toArray⟩
theorem AX(w:List Nat):(wd w).length=w.length:=List.size_toArray ..
theorem ED{x:Str}{w:List Nat}(h:x.cps.toList=w):x=wd w:=by
 cases x with | mk a=>subst h;unfold wd;rw[Array.toArray_toList]
def GP:fL:=fun args Q=>∃ n:Nat,n<=40/\((args=[.aI,.int (n:Int)]/\Q (.tr (.str (wd (List.replicate n 48)))) [])\/∃ w,args=[.str (wd w),.int (n:Int)]/\w.length<=40/\Q (.tr (.str (wd (Cw.je w n)))) [])
theorem rf(T:Txt K mg)(F:HasFn K mg "word_behind" aN ["ahead","length"]):ah P w K mg base cw 1 "word_behind" ["ahead","length"] (spT K [false,false] GP):=by
 refine F.pg iO [false,false] rfl (by decide) (fun args Qt hl h f cdv A outer s H E hr=>?_)
 have hu:=b_ hr;obtain⟨n,hn,h⟩:=h;refine⟨_,(Y.ai (Y.jc (Y.cq ur Y.uv (Y.vS 0) Y.aI) (Y.aX (Y.ret (Y.op Y.y3 Y.yE Y.str (Y.vS 1)))) Y.df)
   (Y.aX (Y.ret (Y.sm K rfl PySem.F.slot_str_ljust PySem.F.type_str_ljust Y.wg Y.tV (Y.op (Y.aG K rfl) Y.aH (Y.cV K rfl (Y.sm K rfl PySem.F.slot_str_rstrip PySem.F.type_str_rstrip Y.rZ Y.rR (Y.vS 0) (Y.cons Y.str Y.nil)) Y.qY (Y.sf (Y.neg Y.int))) Y.str) (Y.cons (Y.vS 1) (Y.cons Y.str Y.nil)))))),?_⟩
 rcases h with ⟨rfl,q⟩ | ⟨v,rfl,hv,q⟩
 ·refine dF fun N hN=>?_;walk_at "rt";refine⟨48,by decide,by omega,by omega,?_⟩
  rw[Int.toNat_natCast];exact q
 ·refine dF fun N hN=>?_;walk_at "rt";rw[hN];clear hN N;walk_at "rt";have e0:(Str.ofString "1").cps.contains=fun c:Nat=>c == 49:=by
   funext c
   show (#[49]:Array Nat).contains c=_;rw[Array.contains_eq_any_beq];simp
  have e1:=lJ (wd v) (Str.ofString "1");rw[e0] at e1;have e2:(Txt.rstripChars (wd v) (Str.ofString "1")).cps.toList=(v.reverse.dropWhile (· == 49)).reverse:=by
   rw[<- List.reverse_reverse (Txt.rstripChars (wd v) (Str.ofString "1")).cps.toList,e1];rfl
  generalize Txt.rstripChars (wd v) (Str.ofString "1")=r at e2;have hr2:r.length<=40:=by
   have:r.length=r.cps.toList.length:=by rw[Array.length_toList];rfl
   rw[this,e2,List.length_reverse];exact Nat.le_trans (List.dropWhile_sublist _).length_le (by rw[List.length_reverse];exact hv)
  have e3:(Y.eH r none (some (-1))).cps.toList=r.cps.toList.dropLast:=by
   show (Y.bu r.cps.toList none (some (-1))).toArray.toList=_;rw[List.toList_toArray];unfold Y.bu;rw[HT.cH,List.drop_zero,Nat.sub_zero,List.dropLast_eq_take];congr 1;show (if (-1:Int) < 0 then ((-1:Int)+(r.cps.toList.length:Int)).toNat else min (-1:Int).toNat r.cps.toList.length)=_
   rw[if_pos (by decide)]
   omega
  have hl3:(Y.eH r none (some (-1))).length<=40:=by
   have:(Y.eH r none (some (-1))).length=(Y.eH r none (some (-1))).cps.toList.length:=by rw[Array.length_toList];rfl
   rw[this,e3,List.length_dropLast,Array.length_toList];exact Nat.le_trans (Nat.sub_le _ _) hr2
  refine⟨by rw[AX];omega,Nat.le_trans hr2 (by decide),Nat.le_trans (show _<=41 from Nat.add_le_add_right hl3 1) (by decide),by omega,by omega,rfl,?_⟩
  have e4:Txt.ljustF (Y.eH r none (some (-1))++Str.ofString "1") (n:Int) ((Str.ofString "0").cps.getD 0 0)=wd (Cw.je v n):=by
   refine ED ?_;rw[PyProof.Rows.ljustF_list,Int.toNat_natCast];have e5:(Y.eH r none (some (-1))++Str.ofString "1").cps.toList=(v.reverse.dropWhile (· == 49)).reverse.dropLast++[49]:=by
    show ((Y.eH r none (some (-1))).cps++#[49]).toList=_;rw[Array.toList_append,e3,e2]
   have e6:(Y.eH r none (some (-1))++Str.ofString "1").length=((v.reverse.dropWhile (· == 49)).reverse.dropLast++[49]).length:=by
    rw[<- e5,Array.length_toList];rfl
   rw[e5,e6];rfl
  rw[e4];exact q
def di(ls:List Int)(t:Nat):Nat:=(ls.getD t 0).toNat
def dc(ls:List Int):List Nat:=d6 ls (List.range ls.length)
def wordsOf(nx:List Nat->Nat->List Nat)(ls:List Int):List (List Nat):=(Cw.along nx (di ls) (dc ls) (none,List.replicate ls.length [])).2
def wT(ws:List (List Nat)):List L2.T:=ws.map fun w=>.str (wd w)
theorem tI(ws:List (List Nat)):(wT ws).length=ws.length:=List.length_map ..
def zp(C:Addr):vx:=fun args Q Et=>∃ ls:List Int,args=[.tup (nI ls)]/\n_ ls/\((nK ls=true/\Q (.tr (.tup (wT (wordsOf Cw.je ls)))) [])\/(nK ls=false/\Et (.exc (.ref C) none)))
def Gv:Option (List Nat)->L2.T
 | none=>.aI
 | some w=>.str (wd w)
def fI(ls:List Int)(done:List Nat):Option (List Nat)×List (List Nat):=Cw.along Cw.je (di ls) done (none,List.replicate ls.length [])
theorem wX{v:List Nat}{n:Nat}(hv:v.length<=40)(hn:n<=40):(Cw.je v n).length<=40:=by
 have h1:((v.reverse.dropWhile (· == 49)).reverse.dropLast).length<=39:=by
  rw[List.length_dropLast,List.length_reverse];have:=(List.dropWhile_sublist (· == 49) (l:=v.reverse)).length_le;rw[List.length_reverse] at this
  omega
 unfold Cw.je Cw.pad;rw[List.length_append,List.length_replicate,List.length_append,List.length_singleton]
 omega
theorem pV{ls:List Int}{t:Nat}(h:t∈dc ls):t < ls.length:=List.mem_range.mp ((iN (by rw[List.length_range])).mem_iff.mp h)
theorem tm(ls:List Int)(done:List Nat):(fI ls done).2.length=ls.length:=by
 unfold fI;rw[Cw.fG,List.length_replicate]
theorem xO(T:Txt K mg)(F:HasFn K mg "code_of" bH ["lengths"])(hcan_be:ah P w K mg base cw 1 "can_be" ["lengths"] (spT K [false] pK))(hword_behind:ah P w K mg base cw 1 "word_behind" ["ahead","length"] (spT K [false,false] GP)){C_NoCode:Addr}(hC_NoCode:mg "NoCode"=some (.ref C_NoCode))(kC_NoCode:oi K C_NoCode):
  ah P w K mg base (nS P w) 4 "code_of" ["lengths"] (u_ K [false] (zp C_NoCode)):=by
 obtain⟨c,Pt,htab,hcc⟩:=T.lM.ex;refine F.Cf cU [false] rfl rfl (by decide) (fun args Qt Et hl h f cdv A outer s H E hr hcd=>?_)
 have:=hcc _ _ hcd;subst this;have hu:=b_ hr;obtain⟨ls,rfl,hL,h⟩:=h;refine⟨_,(Y.cB (Y.CT (Y.nH (Y.lu K rfl (Y.fn K rfl hcan_be (hr.mono (by decide)) rfl aU (Y.cons (Y.vS 0) Y.nil)))) (Y.h_ (Y.sJ rfl hC_NoCode kC_NoCode rfl rfl (Y.cons (Y.Es (Y.ym (Y.GF hr (Y.vS 0) Y.DE))) Y.nil))) Y.zD)
   (Y.cB (Y.sC (Y.tN (j:=1) cU.nd rfl (by walk_at "lc") (osc:=aa bH) (ON:=["lengths","words","ahead","thing"]) (own:=["length"]) (N:=["length","lengths","words","ahead","thing"]) ⟨rfl,by decide +kernel,rfl,by decide +kernel,by decide +kernel,by decide +kernel,by decide +kernel,by decide +kernel⟩ rfl rfl rfl rfl (Y.anyS K rfl (Y.vS 0)) (fun _ _ _ _=>(Z.aQ (i:=0) (show List.Nodup (["length","lengths","words","ahead","thing"]:List Str) by decide +kernel) rfl (by walk_at "lc"))) (fun _ _ _ _=>Y.la) (fun _ _ _ _=>Y.str)))
   (Y.cB (Y.sC (Y.set (i:=2) cU.nd rfl (by walk_at "lc") Y.aI))
   (Y.cB (Y.sC (Y.iG PassesOwn.leaving rfl (Y.anyS K rfl (Y.D0 (k:=0) (j:=0) K rfl (by decide) htab rfl rfl rfl rfl rfl T.dX (Y.cons (Y.ct Y.lP Y.vp rfl T.bY (by decide +kernel) (Y.cons (Y.cb (Y.aq K rfl) Y.aK rfl T.bR (by decide +kernel) (Y.cons (Y.vS 0) Y.nil)) Y.nil)) Y.nil) (hr.mono (by decide)) rfl (by decide) rfl rfl rfl rfl rfl rfl rfl (fun _ _ _ _=>rfl))) (Y.aQ (i:=3) cU.nd rfl (by walk_at "lc")) (Y.ai (Y.asg (Y.fn K rfl hword_behind (hr.mono (by decide)) rfl aU (Y.cons (Y.vS 2) (Y.cons (Y.ix (Y.cJ K rfl) Y.aR (Y.vS 0) (Y.vS 3)) Y.nil))) (Y.sF (Y.vS 1) (Y.vS 3)))
   (Y.aX (Y.set (i:=2) cU.nd rfl (by walk_at "lc") (Y.ix (Y.cJ K rfl) Y.aR (Y.vS 1) (Y.vS 3)))))))
   (Y.h_ (Y.sC (Y.ret (Y.ct (Y.aZ K rfl) Y.bD rfl T.bU (by decide +kernel) (Y.cons (Y.vS 1) Y.nil))))))))),?_⟩
 refine yw fun N hN=>?_;walk_at "rt";refine⟨_,ls,rfl,.inl rfl,hL,?_⟩;rcases h with ⟨ho,q⟩ | ⟨ho,q⟩
 ·wp_walk using ho;rw[hN];clear hN N;refine yw fun N hN=>?_;walk_at "rt";refine ba (fun rest acc μ=>rest.length+acc.length=ls.length/\acc=wT (List.replicate acc.length [])/\μ=[.tr (.tup (nI ls)),.un,.un,.un]) ⟨by rw[bK];rfl,rfl,rfl⟩ ?_ ?_
  ·rintro acc μ ⟨e1,e2,rfl⟩;have e3:acc=wT (List.replicate ls.length []):=by rw[<- show acc.length=ls.length by simpa using e1];exact e2
   clear e1 e2;subst e3;walk_at "rt";refine⟨trivial,?_⟩;rw[hN];clear hN N;refine yw fun N hN=>?_;walk_at "rt";rw[hN];clear hN N;refine yw fun N hN=>?_;wp_walk using bK;refine⟨ls,rfl,rfl,by have:=hL.2.1;omega,?_⟩
   refine cY (fun rest μ=>∃ (done todo:List Nat) (o:Option L2.T),done++todo=dc ls/\(rest=todo.map fun k=>L2.T.int ((k:Nat):Int))/\(∀ v,(fI ls done).1=some v->v.length<=40)/\μ=[.tr (.tup (nI ls)),.bx (.lst (wT (fI ls done).2)),.tr (Gv (fI ls done).1),sl o]) ⟨[],dc ls,none,rfl,rfl,(fun v z=>by cases z),rfl⟩ ?_ ?_
   ·rintro μ ⟨done,todo,o,e1,e2,_,rfl⟩;have e3:todo=[]:=by simpa using e2.symm
    subst e3;rw[List.append_nil] at e1;subst e1;show N _;rw[hN];clear hN N;walk_at "rt";exact q
   ·rintro t r μ M ⟨done,todo,o,e1,e2,hw,rfl⟩ k
    cases todo with
    | nil=>cases e2
    | cons th todo =>
     obtain⟨rfl,rfl⟩:=List.cons.inj e2;have hth:th < ls.length:=pV (by rw[<- e1];simp)
     have ex:bV (nI ls) (th:Int)=some (.int ls[th]):=Ec (bT (List.getElem?_eq_getElem hth));have xk:k_ (wT (fI ls done).2).length (th:Int)=some th:=by
      unfold k_;rw[tI,tm,if_pos (by omega),if_pos (by omega)];simp
     have hlt:=hL.2.2 _ (List.getElem_mem hth);have en:((di ls th:Nat):Int)=ls[th]:=by
      unfold di;rw[List.getD_eq_getElem?_getD,List.getElem?_eq_getElem hth];simp
      omega
     have hn20:di ls th<=40:=by omega
     have eD:fI ls (done++[th])=Cw.along Cw.je (di ls) [th] (fI ls done):=Cw.ft _ _ _;have fin:∀ y:List Nat,y.length<=40->fI ls (done++[th])=(some y,(fI ls done).2.set th y)->M [.tr (.tup (nI ls)),.bx (.lst ((wT (fI ls done).2).set th (.str (wd y)))),.tr (.str (wd y)),.tr (.int (th:Int))]:=fun y hy e=>by
      refine k _ ⟨done++[th],todo,some (.int (th:Int)),by rw[<- e1];simp,rfl,fun v z=>by rw[e] at z;cases z;exact hy,?_⟩
      rw[e];unfold wT;rw[List.map_set];rfl
     have setI:∀ y:List Nat,bV ((wT (fI ls done).2).set th (.str (wd y))) (th:Int)=some (.str (wd y)):=fun y=>bT (List.getElem?_set_self (by rw[tI,tm];exact hth))
     cases hs:fI ls done with
     | mk a ws =>
      rw[hs] at fin eD xk setI hw;dsimp only at fin xk setI
      cases a with
      | none =>
       walk_at "rt";refine dF fun N2 h2=>?_;wp_walk using ex,xk,Gv;refine⟨di ls th,hn20,.inl ⟨by rw[en],?_⟩⟩
       walk_at "rt";rw[h2];clear h2 N2;wp_walk using xk,setI;exact fin _ (by rw[List.length_replicate];exact hn20) eD
      | some v =>
       walk_at "rt";refine dF fun N2 h2=>?_;wp_walk using ex,xk,Gv;refine⟨di ls th,hn20,.inr ⟨v,by rw[en],hw v rfl,?_⟩⟩
       walk_at "rt";rw[h2];clear h2 N2;wp_walk using xk,setI;exact fin _ (wX (hw v rfl) hn20) eD
  ·rintro t r acc μ M ⟨e1,e2,rfl⟩ k;walk_at "rt";rw[List.length_cons] at e1;refine⟨trivial,Nat.lt_of_le_of_lt (show acc.length<=40 by have:=hL.2.1;omega) (by decide),k _ _ ⟨by rw[List.length_append];simp;omega,?_,rfl⟩⟩
   rw[List.length_append,List.length_singleton,List.replicate_succ',wT,List.map_append,<- wT,<- e2];rfl
 ·wp_walk using ho;exact⟨ls,rfl,by have:=hL.2.1;omega,fun i hi=>by have:=hL.2.2 i hi;omega,fun _ _=>q⟩
namespace Cw
def Dv(a b:List Nat):Prop:=∃ u,u++[48] <+: a/\u++[49] <+: b
theorem lU{u v:List Nat}{c d:Nat}{b:List Nat}(h1:u++[c] <+: b)(h2:v++[d] <+: b)(hl:u.length < v.length):u++[c] <+: v:=by
 have h3:v <+: b:=(List.prefix_append v [d]).trans h2;exact List.prefix_of_prefix_length_le h1 h3 (by rw[List.length_append];exact hl)
theorem Dv.trans{a b c:List Nat}(h:Dv a b)(g:Dv b c):Dv a c:=by
 obtain⟨u,h1,h2⟩:=h;obtain⟨v,g1,g2⟩:=g;rcases Nat.lt_trichotomy u.length v.length with e | e | e
 ·exact⟨u,h1,(lU h2 g1 e).trans ((List.prefix_append v [49]).trans g2)⟩
 ·have p1:(u++[49]).length=(v++[48]).length:=by rw[List.length_append,List.length_append,e];rfl
  have p2:u++[49]=v++[48]:=(List.prefix_of_prefix_length_le h2 g1 (by lia)).eq_of_length p1
  have p3:[49]=[48]:=(List.append_inj' p2 rfl).2;exact absurd p3 (by decide)
 ·exact⟨v,(lU g1 h2 e).trans ((List.prefix_append u [48]).trans h1),g2⟩
theorem Dv.not{a b:List Nat}(h:Dv a b):¬ a <+: b/\¬ b <+: a:=by
 obtain⟨u,h1,h2⟩:=h;have key:∀ c,u++[48] <+: c->u++[49] <+: c->False:=fun c p q=>by
  have e:u++[48]=u++[49]:=(List.prefix_of_prefix_length_le p q (by simp)).eq_of_length (by simp)
  exact absurd (List.append_cancel_left e) (by decide)
 exact⟨fun p=>key b (h1.trans p) h2,fun p=>key a h1 (h2.trans p)⟩
theorem Dv.lt{a b:List Nat}(h:Dv a b):a < b:=by
 obtain⟨u,⟨x,rfl⟩,⟨y,rfl⟩⟩:=h
 induction u with
 | nil=>exact List.Lex.rel (by decide)
 | cons c u ih=>exact List.Lex.cons ih
theorem yx{w:List Nat}{n:Nat}(hb:∀ c∈w,c=48\/c=49)(h:w.all (· == 49)=false):Dv w (i_ w n):=by
 obtain⟨p,k,rfl⟩:=parts hb h;unfold i_ pad;rw[e8];exact⟨p,⟨List.replicate k 49,by simp⟩,⟨List.replicate k 48++List.replicate (n - (p++49::List.replicate k 48).length) 48,by simp⟩⟩
def Bb(ln:Nat->Nat)(a:Option (List Nat))(t:Nat):List Nat:=match a with
 | none=>List.replicate (ln t) 48
 | some v=>je v (ln t)
def iL(ln:Nat->Nat):Option (List Nat)->List Nat->List (List Nat)
 | _,[]=>[]
 | a,t::r=>Bb ln a t::iL ln (some (Bb ln a t)) r
theorem uG{ln:Nat->Nat}:∀ (order done:List Nat) (a:Option (List Nat)),(order.Pairwise fun i j=>ln i<=ln j)->(∀ t∈order,ln t<=40)->(∀ v,a=some v->iA done v/\∀ t∈order,v.length<=ln t)->(a=none->done=[])->Kr.ks 40 (done++order.map ln)<=2 ^ 40 ->
  (∀ v,a=some v->∀ x∈iL ln a order,Dv v x)/\(iL ln a order).Pairwise Dv/\∀ (i t:Nat),order[i]?=some t->∃ w,(iL ln a order)[i]?=some w/\w.length=ln t
 | [],_,_,_,_,_,_,_=>⟨fun _ _ x hx=>(by cases hx),List.Pairwise.nil,fun i t e=>(by cases e)⟩
 | t::r,done,a,hp,h40,ha,hn,hk=>by
  obtain⟨p1,p2⟩:=List.pairwise_cons.mp hp;have ht:=h40 t List.mem_cons_self;have hk':Kr.ks 40 ((done++[ln t])++r.map ln)<=2 ^ 40:=by rw[List.append_assoc];exact hk
  have fin:∀ w:List Nat,w=Bb ln a t->iA (done++[ln t]) w->w.length=ln t->(∀ v,a=some v->Dv v w) ->
    (∀ v,a=some v->∀ x∈iL ln a (t::r),Dv v x)/\(iL ln a (t::r)).Pairwise Dv/\∀ (i s:Nat),(t::r)[i]?=some s->∃ w,(iL ln a (t::r))[i]?=some w/\w.length=ln s:=fun w ew hH hl hd=>by
   obtain⟨q1,q2,q3⟩:=uG r (done++[ln t]) (some w) p2 (fun x hx=>h40 x (List.mem_cons_of_mem _ hx)) (fun v e=>by cases e;exact⟨hH,fun x hx=>by rw[hl];exact p1 x hx⟩) (fun e=>by cases e) hk'
   have es:iL ln a (t::r)=w::iL ln (some w) r:=by rw[ew];rfl
   rw[es];refine⟨fun v e x hx=>?_,List.pairwise_cons.mpr ⟨fun x hx=>q1 w rfl x hx,q2⟩,fun i s e=>?_⟩
   ·rcases List.mem_cons.mp hx with rfl | hx
    ·exact hd v e
    ·exact (hd v e).trans (q1 w rfl x hx)
   ·cases i with
    | zero=>cases e;exact⟨w,rfl,hl⟩
    | succ i=>exact q3 i s (by simpa using e)
  cases a with
  | none =>
   have:=hn rfl;subst this;exact fin _ rfl (iA.first ht) (show (List.replicate (ln t) 48).length=ln t by rw[List.length_replicate]) (fun v e=>by cases e)
  | some v =>
   obtain⟨hv,hl⟩:=ha v rfl;have hvl:=hl t List.mem_cons_self;have hk2:Kr.ks 40 done+2 ^ (40 - ln t)<=2 ^ 40:=by
    rw[Kr.bF,Kr.bF] at hk';simp[Kr.ks] at hk'
    omega
   have z:=hv.zero (rest:=[]) hk2;have e:=rA hv.bits z hvl;refine fin _ rfl ?_ ?_ ?_
   ·show iA _ (je v (ln t));rw[e];exact hv.next hvl ht hk2
   ·show (je v (ln t)).length=_;rw[e];exact ib hvl
   ·intro u eu;cases eu;show Dv v (je v (ln t));rw[e];exact yx hv.bits z
theorem lR{ln:Nat->Nat}:∀ (order:List Nat) (a:Option (List Nat)) (ws:List (List Nat)),order.Nodup->(∀ t∈order,t < ws.length)->(∀ (i t:Nat),order[i]?=some t->(along je ln order (a,ws)).2[t]?=(iL ln a order)[i]?)/\∀ t,t∉order->(along je ln order (a,ws)).2[t]?=ws[t]?
 | [],_,_,_,_=>⟨fun i t e=>(by cases e),fun _ _=>rfl⟩
 | t::r,a,ws,hn,hl=>by
  obtain⟨n1,n2⟩:=List.nodup_cons.mp hn;have ht:=hl t List.mem_cons_self;have ea:along je ln (t::r) (a,ws)=along je ln r (some (Bb ln a t),ws.set t (Bb ln a t)):=by cases a<;>rfl
  rw[ea];obtain⟨q1,q2⟩:=lR r (some (Bb ln a t)) (ws.set t (Bb ln a t)) n2 (fun x hx=>by rw[List.length_set];exact hl x (List.mem_cons_of_mem _ hx))
  refine⟨fun i s e=>?_,fun s hs=>?_⟩
  ·cases i with
   | zero =>
    cases e;exact (q2 t n1).trans (by rw[List.getElem?_set_self ht];rfl)
   | succ i=>exact q1 i s (by simpa using e)
  ·have h1:s≠t:=fun z=>hs (by rw[z];exact List.mem_cons_self)
   have h2:s∉r:=fun z=>hs (List.mem_cons_of_mem _ z);exact (q2 s h2).trans (by rw[List.getElem?_set_ne (Ne.symm h1)])
def Lx(p q:Int×Nat):Prop:=p.1 < q.1\/(p.1=q.1/\p.2 < q.2)
theorem v7{p:Int×Nat}:∀ {l:List (Int×Nat)},l.Pairwise Lx->(∀ q∈l,p.2 < q.2)->(eW p l).Pairwise Lx
 | [],_,_=>List.pairwise_singleton _ _
 | q::r,h,hp=>by
  obtain⟨h1,h2⟩:=List.pairwise_cons.mp h;have hq:=hp q List.mem_cons_self;unfold eW;split
  ·rename_i c;refine List.pairwise_cons.mpr ⟨fun z hz=>?_,h⟩;have hz2:=hp z hz;have:q.1<=z.1:=by
    rcases List.mem_cons.mp hz with rfl | hz
    ·exact Int.le_refl _
    ·have:=h1 z hz;unfold Lx at this;omega
   unfold Lx;omega
  ·rename_i c;refine List.pairwise_cons.mpr ⟨fun z hz=>?_,v7 h2 fun z hz=>hp z (List.mem_cons_of_mem _ hz)⟩;rcases List.mem_cons.mp ((eC p r).mem_iff.mp hz) with rfl | hz
   ·unfold Lx;omega
   ·exact h1 z hz
theorem pj:∀ {l:List (Int×Nat)},(l.Pairwise fun p q=>p.2 < q.2)->(dq l).Pairwise Lx
 | [],_=>.nil
 | p::r,h=>by
  obtain⟨h1,h2⟩:=List.pairwise_cons.mp h;exact v7 (pj h2) fun q hq=>h1 q ((bW r).mem_iff.mp hq)
end Cw
structure Canon (ls:List Int) (W:List (List Nat)):Prop where
 len:W.length=ls.length
 dC:∀ t,t < ls.length->(W.getD t []).length=di ls t
 part:∀ s t,s < ls.length->t < ls.length->(ls.getD s 0 < ls.getD t 0\/(ls.getD s 0=ls.getD t 0/\s < t))->Cw.Dv (W.getD s []) (W.getD t [])
theorem jx(ls:List Int):ls.zip (List.range ls.length)=(List.range ls.length).map fun t=>(ls.getD t 0,t):=by
 apply List.ext_getElem
 ·simp
 ·intro i h1 h2;simp at h1;simp[h1]
theorem canon{ls:List Int}(hL:n_ ls)(hk:KS ls<=2 ^ 40):Canon ls (wordsOf Cw.je ls):=by
 have hS:(Cw.Lx · ·)=(Cw.Lx · ·):=rfl;have hlx:(dq (ls.zip (List.range ls.length))).Pairwise Cw.Lx:=by
  refine Cw.pj ?_;rw[jx];exact List.pairwise_map.mpr List.pairwise_lt_range
 have hmem:∀ p∈dq (ls.zip (List.range ls.length)),p.1=ls.getD p.2 0/\p.2 < ls.length:=fun p hp=>by
  have:=(bW _).mem_iff.mp hp;rw[jx] at this;obtain⟨t,ht,rfl⟩:=List.mem_map.mp this;exact⟨rfl,List.mem_range.mp ht⟩
 have hord:(dc ls).Pairwise fun s t=>ls.getD s 0 < ls.getD t 0\/(ls.getD s 0=ls.getD t 0/\s < t):=by
  unfold dc d6;refine List.pairwise_map.mpr (hlx.imp_of_mem fun {p q} hp hq h=>?_);rw[<- (hmem p hp).1,<- (hmem q hq).1];exact h
 have hperm:(dc ls).Perm (List.range ls.length):=iN (by rw[List.length_range])
 have hnd:(dc ls).Nodup:=hperm.nodup_iff.mpr List.nodup_range;have hb:∀ t,t < ls.length->1<=ls.getD t 0/\ls.getD t 0<=40:=fun t ht=>by
  rw[List.getD_eq_getElem?_getD,List.getElem?_eq_getElem ht];exact hL.2.2 _ (List.getElem_mem ht)
 have hmm:∀ t∈dc ls,t < ls.length:=fun t ht=>pV ht;have hks:Kr.ks 40 ([]++(dc ls).map (di ls))<=2 ^ 40:=by
  rw[List.nil_append,Kr.kl (hperm.map (di ls))];have e:(List.range ls.length).map (di ls)=ls.map Int.toNat:=by
   apply List.ext_getElem
   ·simp
   ·intro i h1 h2;simp at h1;simp[di,h1]
  rw[e];exact hk
 obtain⟨_,q2,q3⟩:=Cw.uG (ln:=di ls) (dc ls) [] none (hord.imp_of_mem fun {s t} hs ht h=>by
  have:=hb s (hmm s hs);have:=hb t (hmm t ht);unfold di;omega) (fun t ht=>by have:=hb t (hmm t ht);unfold di;omega) (fun v e=>by cases e) (fun _=>rfl) hks
 obtain⟨a1,_⟩:=Cw.lR (ln:=di ls) (dc ls) none (List.replicate ls.length []) hnd (fun t ht=>by rw[List.length_replicate];exact hmm t ht)
 have hat:∀ t,t < ls.length->∃ i w,(dc ls)[i]?=some t/\(Cw.iL (di ls) none (dc ls))[i]?=some w/\w.length=di ls t/\(wordsOf Cw.je ls).getD t []=w:=fun t ht=>by
  obtain⟨i,hi⟩:=List.mem_iff_getElem?.mp (hperm.mem_iff.mpr (List.mem_range.mpr ht));obtain⟨w,hw,hl⟩:=q3 i t hi;refine⟨i,w,hi,hw,hl,?_⟩;unfold wordsOf;rw[List.getD_eq_getElem?_getD,a1 i t hi,hw];rfl
 refine⟨?_,fun t ht=>?_,fun s t hs ht h=>?_⟩
 ·unfold wordsOf;rw[Cw.fG,List.length_replicate]
 ·obtain⟨i,w,_,_,hl,e⟩:=hat t ht;rw[e];exact hl
 ·obtain⟨i,w,h1,h2,_,e⟩:=hat s hs;obtain⟨j,v,g1,g2,_,e'⟩:=hat t ht;rw[e,e'];obtain⟨hi,rfl⟩:=List.getElem?_eq_some_iff.mp h2;obtain⟨hj,rfl⟩:=List.getElem?_eq_some_iff.mp g2;obtain⟨hi',ei⟩:=List.getElem?_eq_some_iff.mp h1;obtain⟨hj',ej⟩:=List.getElem?_eq_some_iff.mp g1;have hij:i < j:=by
   rcases Nat.lt_trichotomy i j with c | c | c
   ·exact c
   ·subst c;have est:s=t:=ei.symm.trans ej;subst est
    exfalso;omega
   ·have:=List.pairwise_iff_getElem.mp hord j i hj' hi' c;rw[ei,ej] at this
    exfalso;omega
  exact List.pairwise_iff_getElem.mp q2 i j hi hj hij
namespace Px
open PySem.Spec
def le(a b:List Nat):Prop:=ltCps b a=false
theorem between:∀ {p x s:List Nat},le p x->le x (p++s)->p <+: x
 | [],_,_,_,_=>List.nil_prefix
 | c::p,[],s,h,_=>by simp[le,ltCps] at h
 | c::p,d::x,s,h1,h2=>by
  simp only[le,ltCps,List.cons_append,Bool.or_eq_false_iff,Bool.and_eq_false_iff,decide_eq_false_iff_not,beq_eq_false_iff_ne] at h1 h2;have e:c=d:=by omega
  subst e;have a:=h1.2.resolve_left (by simp)
  have b:=h2.2.resolve_left (by simp)
  exact List.cons_prefix_cons.mpr ⟨rfl,between a b⟩
theorem back:∀ {p s:List Nat},le (p++s) p->s=[]
 | [],[],_=>rfl
 | [],_::_,h=>by simp[le,ltCps] at h
 | c::p,s,h=>by
  simp only[le,ltCps,List.cons_append,Bool.or_eq_false_iff,Bool.and_eq_false_iff,decide_eq_false_iff_not,beq_eq_false_iff_ne] at h;exact back (h.2.resolve_left (by simp))
def bX(l:List (List Nat)):Prop:=l.Pairwise fun a b=>¬ a <+: b/\¬ b <+: a
theorem bX.perm{l l':List (List Nat)}(h:l.Perm l'):bX l ↔ bX l':=h.pairwise_iff fun h=>⟨h.2,h.1⟩
theorem GW:∀ {l:List (List Nat)},l.Pairwise le->(bX l ↔ ∀ p∈l.zip l.tail,¬ p.1 <+: p.2)
 | [],_=>by simp[bX]
 | [a],_=>by simp[bX]
 | a::b::r,h=>by
  have ih:=GW (l:=b::r) (List.pairwise_cons.mp h).2;have hab:le a b:=(List.pairwise_cons.mp h).1 b (by simp)
  show bX (a::b::r) ↔ ∀ p∈(a,b)::(b::r).zip r,¬ p.1 <+: p.2;constructor
  ·intro f p hp;obtain⟨f1,f2⟩:=List.pairwise_cons.mp f;rcases List.mem_cons.mp hp with rfl | hp
   ·exact (f1 b (by simp)).1
   ·exact ih.mp f2 p hp
  ·intro f;have f0:¬ a <+: b:=f (a,b) (by simp)
   refine List.pairwise_cons.mpr ⟨fun y hy=>?_,ih.mpr fun p hp=>f p (List.mem_cons_of_mem _ hp)⟩;have hby:y=b\/le b y:=by
    rcases List.mem_cons.mp hy with rfl | hy
    ·exact .inl rfl
    ·exact .inr ((List.pairwise_cons.mp (List.pairwise_cons.mp h).2).1 y hy)
   have n1:¬ a <+: y:=by
    rcases hby with rfl | hby
    ·exact f0
    ·rintro⟨s,rfl⟩;exact f0 (between hab hby)
   refine⟨n1,?_⟩;rintro⟨s,e⟩;have hay:le a y:=(List.pairwise_cons.mp h).1 y hy;subst e;have:=back hay;subst this;exact n1 (by rw[List.append_nil];exact List.prefix_rfl)
end Px
def sT:List Str->List L2.T:=List.map L2.T.str
theorem bS(xs:List Str):(sT xs).length=xs.length:=List.length_map ..
theorem iQ(xs ys:List Str):sT (xs++ys)=sT xs++sT ys:=List.map_append
def cp(z:Str):List Nat:=z.cps.toList
theorem cR(z:Str):(cp z).length=z.length:=Array.length_toList
theorem Px.le_trans:∀ {a b c:List Nat},Px.le a b->Px.le b c->Px.le a c
 | [],_,[],_,_=>by simp[Px.le,PySem.Spec.ltCps]
 | [],_,_::_,_,_=>by simp[Px.le,PySem.Spec.ltCps]
 | _::_,[],_,h,_=>by simp[Px.le,PySem.Spec.ltCps] at h
 | _::_,_::_,[],_,h=>by simp[Px.le,PySem.Spec.ltCps] at h
 | x::a,y::b,z::c,h1,h2=>by
  simp only[Px.le,PySem.Spec.ltCps,Bool.or_eq_false_iff,Bool.and_eq_false_iff,decide_eq_false_iff_not,beq_eq_false_iff_ne] at h1 h2 ⊢;refine⟨by omega,?_⟩
  by_cases e:z=x
  ·have e1:y=x:=by omega
   subst e1;subst e;exact .inr (Px.le_trans (h1.2.resolve_left (by simp)) (h2.2.resolve_left (by simp)))
  ·exact .inl e
theorem jM:∀ {l:List Str} {p:Str},risingS p l=true->((p::l).map cp).Pairwise Px.le
 | [],p,_=>by simp
 | x::r,p,h=>by
  unfold risingS at h;rw[Bool.and_eq_true,Bool.not_eq_true'] at h;have ih:=jM h.2;have hpx:Px.le (cp p) (cp x):=h.1;rw[List.map_cons];refine List.pairwise_cons.mpr ⟨fun y hy=>?_,ih⟩;rw[List.map_cons] at hy ih;rcases List.mem_cons.mp hy with rfl | hy
  ·exact hpx
  ·exact Px.le_trans hpx ((List.pairwise_cons.mp ih).1 y hy)
theorem rJ{l:List Str}(h:sortedS l=true):(l.map cp).Pairwise Px.le:=by
 cases l with
 | nil=>exact .nil
 | cons x r=>exact jM h
theorem pre_take{a b:List Nat}:a <+: b ↔ b.take a.length=a:=⟨fun h=>(List.prefix_iff_eq_take.mp h).symm,fun h=>List.prefix_iff_eq_take.mpr h.symm⟩
theorem qW(z y:Str):Txt.startswith z y=decide (cp y <+: cp z):=by
 unfold Txt.startswith;have e:Builtin.Str.subAt z y 0=decide ((cp z).take y.length=cp y):=by
  unfold Builtin.Str.subAt cp;rw[Nat.zero_add,Bool.eq_iff_iff,beq_iff_eq,decide_eq_true_eq,<- Array.toList_inj,Array.toList_extract,List.extract_eq_take_drop,List.drop_zero,Nat.sub_zero]
 rw[e,Bool.eq_iff_iff,Bool.and_eq_true,decide_eq_true_eq,decide_eq_true_eq,decide_eq_true_eq,pre_take,cR];refine⟨fun h=>h.2,fun h=>⟨?_,h⟩⟩;have:=congrArg List.length h;rw[List.length_take,cR,cR] at this
 omega
theorem C4(z:Str){n:Int}(h:0<=n):Y.eH z none (some n)=⟨((cp z).take n.toNat).toArray⟩:=by
 unfold Y.eH Y.bu;obtain⟨k,rfl⟩:∃ k:Nat,n=(k:Int):=⟨n.toNat,by omega⟩
 rw[HT.cH,HT.d8,List.drop_zero,Nat.sub_zero,Int.toNat_natCast,<- List.take_eq_take_min];rfl
theorem d_(a b:Str):(a++b).length=a.length+b.length:=Array.size_append
instance (l:List (List Nat)):Decidable (Px.bX l):=by unfold Px.bX;infer_instance
def iq(ws:List Str):Bool:=decide (Px.bX (ws.map cp))
def cK:List Str->List Str->Bool
 | a::as,b::bs=>Txt.startswith b a || cK as bs
 | _,_=>false
theorem fQ:∀ {as bs:List Str},cK as bs=true ↔ ∃ p∈(as.map cp).zip (bs.map cp),p.1 <+: p.2
 | [],_=>by simp[cK]
 | _::_,[]=>by simp[cK]
 | a::as,b::bs=>by
  unfold cK;rw[Bool.or_eq_true,fQ,qW,decide_eq_true_eq];simp
theorem BB{ws l:List Str}(hp:l.Perm ws)(hs:sortedS l=true):(!cK l l.tail)=iq ws:=by
 unfold iq;rw[Bool.eq_iff_iff,decide_eq_true_eq,<- Px.bX.perm (hp.map cp),Px.GW (rJ hs),Bool.not_eq_true'];constructor
 ·intro h p hp hpre;have:cK l l.tail=true:=fQ.mpr ⟨p,by rw[List.map_tail];exact hp,hpre⟩
  rw[h] at this;cases this
 ·intro h
  cases c:cK l l.tail with
  | false=>rfl
  | true =>
   obtain⟨p,hp,hpre⟩:=fQ.mp c;rw[List.map_tail] at hp;exact absurd hpre (h p hp)
theorem pA{ws:List Str}:iq ws=true ↔ ∀ (i j:Nat) (hi:i < ws.length) (hj:j < ws.length),i≠j->¬ cp ws[i] <+: cp ws[j]:=by
 unfold iq;rw[decide_eq_true_eq];unfold Px.bX;rw[List.pairwise_iff_getElem];constructor
 ·intro h i j hi hj hne;rcases Nat.lt_or_gt_of_ne hne with c | c
  ·have:=(h i j (by simpa using hi) (by simpa using hj) c).1
   simpa using this
  ·have:=(h j i (by simpa using hj) (by simpa using hi) c).2
   simpa using this
 ·intro h i j hi hj c;have hi':i < ws.length:=by simpa using hi
  have hj':j < ws.length:=by simpa using hj
  simp only[List.getElem_map];exact⟨h i j hi' hj' (by omega),h j i hj' hi' (by omega)⟩
theorem fJ(xs:List Str){n:Int}(h:0<=n):Y.bu (sT xs) none (some n)=sT (xs.take n.toNat):=by
 obtain⟨k,rfl⟩:∃ k:Nat,n=(k:Int):=⟨n.toNat,by omega⟩
 unfold Y.bu sT;rw[HT.cH,HT.d8,List.drop_zero,Nat.sub_zero,Int.toNat_natCast,<- List.take_eq_take_min,List.map_take]
theorem jN(xs:List Str){n:Int}(h:0<=n):Y.bu (sT xs) (some n) none=sT (xs.drop n.toNat):=by
 obtain⟨k,rfl⟩:∃ k:Nat,n=(k:Int):=⟨n.toNat,by omega⟩
 unfold Y.bu sT;rw[HT.cH,HT.d8,Int.toNat_natCast,List.length_map,List.map_drop,List.take_of_length_le (by rw[List.length_drop,List.length_map];omega)]
 rcases Nat.le_total k xs.length with c | c
 ·rw[Nat.min_eq_left c]
 ·rw[Nat.min_eq_right c,List.drop_of_length_le (by simp),List.drop_of_length_le (by simpa using c)]
def Wd(n:Nat)(ws:List Str):Prop:=ws.length<=n/\∀ z∈ws,z.length<=30
def zR:fL:=fun args Q=>∃ (ws:List Str),args=[.tup (sT ws)]/\Wd 40 ws/\Q (.tr (.bl (iq ws))) []
theorem CK(T:Txt K mg)(F:HasFn K mg "is_code" bE ["code"]):ah P w K mg base cw 1 "is_code" ["code"] (spT K [false] zR):=by
 refine F.pg gU [false] rfl (by decide) (fun args Qt hl h f cdv A outer s H E hr=>?_)
 have hu:=b_ hr;obtain⟨ws,rfl,hw,q⟩:=h;refine⟨_,(Y.ai (Y.Gq (i:=1) gU.nd rfl (by walk_at "lc") (Y.cb (Y.o6 K rfl) Y.vi rfl T.dX (by decide +kernel) (Y.cons (Y.vS 0) Y.nil)))
   (Y.aX (Y.ret (Y.not (Y.cb (Y.qG K rfl rfl) Y.A6 rfl T.EF (by decide +kernel) (Y.cons (Y.pf K rfl (osc:=aa bE) (ON:=["code","ordered"]) (own:=["word","other"]) (N:=["word","other","code","ordered"]) ⟨rfl,by decide +kernel,rfl,by decide +kernel,by decide +kernel,by decide +kernel,by decide +kernel,by decide +kernel⟩ rfl rfl rfl rfl (Y.zip K rfl rfl T.vC (Y.cons (Y.vS 1) (Y.cons (Y.cV K rfl (Y.vS 1) (Y.sf Y.int) Y.qY) Y.nil))) (fun _ _ _ _=>(Z.oa (n:=2) K rfl rfl (Z.cu (Z.aQ (i:=0) (show List.Nodup (["word","other","code","ordered"]:List Str) by decide +kernel) rfl (by walk_at "lc")) (Z.cu (Z.aQ (i:=1) (show List.Nodup (["word","other","code","ordered"]:List Str) by decide +kernel) rfl (by walk_at "lc")) Z.fX)))) (fun _ _ _ _=>Y.la) (fun _ _ _ _=>(Y.sm K rfl PySem.F.slot_str_startswith PySem.F.type_str_startswith Y.rL Y.rD (Y.vS 1) (Y.cons (Y.vS 0) Y.nil)))) Y.nil)))))),?_⟩
 refine dF fun N hN=>?_;walk_at "rt";refine .inr ⟨ws,rfl,by have:=hw.1;omega,fun rs hp hs=>?_⟩
 rw[hN];clear hN N;have e1:Y.bu (List.map L2.T.str rs) (some 1) none=sT rs.tail:=by
  have:=jN rs (show (0:Int)<=1 by decide)
  rw[show (1:Int).toNat=1 from rfl,List.drop_one] at this;exact this
 have hlen:rs.length<=40:=by rw[hp.length_eq];exact hw.1
 wp_walk using e1;refine ba (fun rest acc μ=>∃ (a b:List Str) (bs:List Bool),rest=kT (sT a) (sT b)/\acc=bs.map L2.T.bl/\bs.length+a.length<=40/\(bs.any id || cK a b)=cK rs rs.tail/\μ=[.tr (.tup (sT ws)),.tr (.lst (sT rs))])
  ⟨rs,rs.tail,[],rfl,rfl,by simpa using hlen,by simp,rfl⟩ ?_ ?_
 ·rintro acc μ ⟨a,b,bs,e,rfl,_,hb,rfl⟩;refine⟨trivial,?_⟩;walk_at "rt";have e0:cK a b=false:=by
   cases a with
   | nil=>rfl
   | cons=>cases b with
    | nil=>rfl
    | cons=>cases e
  rw[e0,Bool.or_false] at hb;refine⟨bs,rfl,?_⟩;rw[hb,BB hp hs];exact q
 ·rintro t ts acc μ M ⟨a,b,bs,e,rfl,hn,hb,rfl⟩ k
  cases a with
  | nil=>cases e
  | cons x a=>cases b with
   | nil=>cases e
   | cons y b =>
    cases e;refine⟨trivial,Nat.lt_of_le_of_lt (show _<=40 by rw[List.length_map];simp at hn;omega) (by decide),?_⟩
    walk_at "rt";refine k _ _ ⟨a,b,bs++[Txt.startswith y x],rfl,by simp,by simp at hn ⊢;omega,?_,rfl⟩
    rw[<- hb];simp[cK,Bool.or_assoc]
def bX(ws:List Str):Prop:=Px.bX (ws.map cp)/\∀ z∈ws,0 < z.length
def KW(ws:List Str):Prop:=Kr.ks 40 (ws.map Str.length)<=2 ^ 40
theorem x9{a b:List Str}(h:a.Perm b)(f:KW b):KW a:=by unfold KW at *;rw[Kr.kl (h.map Str.length)];exact f
theorem oD{a:List Str}(n:Nat)(f:KW a):KW (a.take n):=by
 unfold KW at *;have e:Kr.ks 40 (a.map Str.length)=Kr.ks 40 ((a.take n).map Str.length)+Kr.ks 40 ((a.drop n).map Str.length):=by
  rw[<- Kr.bF,<- List.map_append,List.take_append_drop]
 lia
theorem tP{a b:List Str}{z x y:Str}(hx:x.length=z.length+1)(hy:y.length=z.length+1)(hz:z.length<=18)(f:KW (a++z::b)):KW (a++[x,y]++b):=by
 unfold KW at *;rw[List.map_append,List.map_append,Kr.bF,Kr.bF];rw[List.map_append,Kr.bF] at f;simp only[List.map_cons,List.map_nil,Kr.ks,hx,hy] at f ⊢;have e:2 ^ (40 - z.length)=2 ^ (40 - (z.length+1))*2:=by
  rw[<- Nat.pow_succ];congr 1;lia
 lia
def Words(ws:List Str):Prop:=0 < ws.length/\ws.length<=20/\(∀ z∈ws,z.length<=18)/\bX ws/\KW ws
theorem rd{a b:List Str}(h:a.Perm b)(f:bX b):bX a:=⟨(Px.bX.perm (h.map cp)).mpr f.1,fun z hz=>f.2 z (h.mem_iff.mp hz)⟩
theorem rq{a:List Str}(n:Nat)(f:bX a):bX (a.take n):=⟨by rw[List.map_take];exact List.Pairwise.sublist (List.take_sublist _ _) f.1,fun z hz=>f.2 z (List.mem_of_mem_take hz)⟩
theorem mQ{l:List Str}{i:Nat}(h:i < l.length):(l[i]::l.eraseIdx i).Perm l:=by
 rw[List.eraseIdx_eq_take_drop_succ];refine List.perm_middle.symm.trans ?_;rw[<- List.drop_eq_getElem_cons h,List.take_append_drop]
def Rx(a b:List Nat):Prop:=¬ a <+: b/\¬ b <+: a
theorem Rx.ext{x z:List Nat}(h:Rx x z)(c:Nat):Rx x (z++[c]):=by
 refine⟨fun p=>?_,fun p=>h.2 ((List.prefix_append z [c]).trans p)⟩;rcases Nat.lt_or_ge z.length x.length with q | q
 ·exact h.2 (List.prefix_of_prefix_length_le (List.prefix_append z [c]) p (by omega))
 ·exact h.1 (List.prefix_of_prefix_length_le p (List.prefix_append z [c]) (by omega))
theorem Rx.symm{x z:List Nat}(h:Rx x z):Rx z x:=⟨h.2,h.1⟩
theorem Rx.two(z:List Nat){c d:Nat}(h:c≠d):Rx (z++[c]) (z++[d]):=by
 constructor
 ·intro p;have:=p.eq_of_length (by simp)
  simp at this;exact h this
 ·intro p;have:=p.eq_of_length (by simp)
  simp at this;exact h this.symm
theorem lK{a b:List (List Nat)}{z:List Nat}{c d:Nat}(h:c≠d)(f:Px.bX (a++z::b)):Px.bX (a++[z++[c],z++[d]]++b):=by
 unfold Px.bX at f ⊢;obtain⟨fa,fb,fab⟩:=List.pairwise_append.mp f;obtain⟨fz,fb⟩:=List.pairwise_cons.mp fb;rw[List.append_assoc];refine List.pairwise_append.mpr ⟨fa,?_,fun x hx y hy=>?_⟩
 ·refine List.pairwise_cons.mpr ⟨fun y hy=>?_,List.pairwise_cons.mpr ⟨fun y hy=>?_,fb⟩⟩
  ·rcases List.mem_cons.mp hy with rfl | hy
   ·exact Rx.two z h
   ·exact (Rx.ext (Rx.symm (fz y hy)) c).symm
  ·exact (Rx.ext (Rx.symm (fz y hy)) d).symm
 ·rcases List.mem_cons.mp hy with rfl | hy
  ·exact Rx.ext (fab x hx z (by simp)) c
  ·rcases List.mem_cons.mp hy with rfl | hy
   ·exact Rx.ext (fab x hx z (by simp)) d
   ·exact fab x hx y (List.mem_cons_of_mem _ hy)
theorem nM{ws:List Str}{v:Nat}(hv:v < ws.length)(f:bX ws):bX (ws.take v++[ws[v]++"0",ws[v]++"1"]++ws.drop (v+1)):=by
 refine⟨?_,?_⟩
 ·have e:ws=ws.take v++ws[v]::ws.drop (v+1):=by rw[<- List.drop_eq_getElem_cons hv,List.take_append_drop]
  have f1:=f.1;rw[e,List.map_append,List.map_cons] at f1;have:=lK (c:=48) (d:=49) (by decide) f1
  rw[List.map_append,List.map_append];have c0:∀ z:Str,cp (z++"0")=cp z++[48]:=fun z=>by show (z.cps++#[48]).toList=_;simp[cp]
  have c1:∀ z:Str,cp (z++"1")=cp z++[49]:=fun z=>by show (z.cps++#[49]).toList=_;simp[cp]
  rw[List.map_cons,List.map_cons,List.map_nil,c0,c1];exact this
 ·intro y hy;rcases List.mem_append.mp hy with h | h
  ·rcases List.mem_append.mp h with h | h
   ·exact f.2 y (List.mem_of_mem_take h)
   ·rcases List.mem_cons.mp h with rfl | h
    ·rw[d_];have:(("0":Str)).length=1:=rfl;omega
    ·rw[List.mem_singleton.mp h,d_];have:(("1":Str)).length=1:=rfl;omega
  ·exact f.2 y (List.mem_of_mem_drop h)
theorem zT{xs:List Str}{i:Int}(h0:0<=i)(h1:i < xs.length):bV (sT xs) i=some (.str (xs[i.toNat]'(by omega))):=by
 have hi:i.toNat < xs.length:=by omega
 unfold bV k_ sT;rw[List.length_map,if_pos (by omega),if_pos (by omega)]
 show (List.map L2.T.str xs)[i.toNat]?=_;rw[List.getElem?_map,List.getElem?_eq_getElem hi];rfl
theorem Ci{z:Str}(h:z.length<=100):z.length<=sizeLine:=Nat.le_trans h (by decide)
def pP:fL:=fun args Q=>∃ (s:L2.T) (m:Int),args=[s,.int m]/\dw s/\0<=m/\m < 1000/\∀ ws s',dw s'->Words ws->Q (.tr (.tup (sT ws))) [s']
theorem qJ(T:Txt K mg)(F:HasFn K mg "_law_prefix" aE ["seed","many"])(h_law_draw:ah P w K mg base cw 1 "_law_draw" ["seed","most"] (spT K [true,false] mH)):ah P w K mg base cw 2 "_law_prefix" ["seed","many"] (spT K [true,false] pP):=by
 refine F.pg aV [true,false] rfl (by decide) (fun args Qt hl h f cdv A outer s H E hr=>?_)
 have hu:=b_ hr;obtain⟨sd,m,rfl,hs,m0,m1,q⟩:=h;refine⟨_,(Y.ai (Y.set (i:=2) aV.nd rfl (by walk_at "lc") (Y.lst (Y.oI rfl rfl)))
   (Y.ai (Y.iG PassesOwn.never rfl (Y.ip rfl T.bY (Y.cons (Y.vS 1) Y.nil)) (Y.aQ (i:=3) aV.nd rfl (by walk_at "lc")) (Y.ai (Y.set (i:=4) aV.nd rfl (by walk_at "lc") (Y.fn K rfl h_law_draw (hr.mono (by decide)) rfl aU (Y.cons (Y.vS 0) (Y.cons (Y.cb (Y.aq K rfl) Y.aK rfl T.bR (by decide +kernel) (Y.cons (Y.vS 2) Y.nil)) Y.nil))))
   (Y.aX (Y.jc (Y.tw (Y.rE (Y.cq iM Y.dE (Y.cb (Y.aq K rfl) Y.aK rfl T.bR (by decide +kernel) (Y.cons (Y.ix (Y.cJ K rfl) Y.aR (Y.vS 2) (Y.vS 4)) Y.nil)) Y.int) (Y.jH (Y.cq iM Y.dE (Y.cb (Y.aq K rfl) Y.aK rfl T.bR (by decide +kernel) (Y.cons (Y.vS 2) Y.nil)) Y.int)))) (Y.aX (Y.set (i:=2) aV.nd rfl (by walk_at "lc") (Y.op (Y.aG K rfl) Y.aH (Y.op (Y.aG K rfl) Y.aH (Y.cV K rfl (Y.vS 2) Y.qY (Y.sf (Y.vS 4))) (Y.lst (Y.cons (Y.op (Y.aG K rfl) Y.aH (Y.ix (Y.cJ K rfl) Y.aR (Y.vS 2) (Y.vS 4)) Y.str) (Y.cons (Y.op (Y.aG K rfl) Y.aH (Y.ix (Y.cJ K rfl) Y.aR (Y.vS 2) (Y.vS 4)) Y.str) Y.nil)))) (Y.cV K rfl (Y.vS 2) (Y.sf (Y.op (Y.aG K rfl) Y.aH (Y.vS 4) Y.int)) Y.qY)))) Y.df))))
   (Y.ai (Y.set (i:=5) aV.nd rfl (by walk_at "lc") (Y.ct (Y.o8 K rfl rfl) Y.ya rfl T.Ce (by decide +kernel) (Y.cons (Y.vS 2) Y.nil)))
   (Y.ai (Y.tN (j:=6) aV.nd rfl (by walk_at "lc") (osc:=aa aE) (ON:=["seed","many","words","k","at","left","found"]) (own:=["k"]) (N:=["k","seed","many","words",".k","at","left","found"]) ⟨rfl,by decide +kernel,rfl,by decide +kernel,by decide +kernel,by decide +kernel,by decide +kernel,by decide +kernel⟩ rfl rfl rfl rfl (Y.ip rfl T.bY (Y.cons (Y.cb (Y.aq K rfl) Y.aK rfl T.bR (by decide +kernel) (Y.cons (Y.vS 2) Y.nil)) Y.nil)) (fun _ _ _ _=>(Z.aQ (i:=0) (show List.Nodup (["k","seed","many","words",".k","at","left","found"]:List Str) by decide +kernel) rfl (by walk_at "lc"))) (fun _ _ _ _=>Y.la) (fun _ _ _ _=>(Y.bm K rfl PySem.F.slot_list_pop PySem.F.type_list_pop m4 Y.lF (Y.vS 6) (Y.cons (Y.fn K rfl h_law_draw (hr.mono (by decide)) rfl aU (Y.cons (Y.vS 1) (Y.cons (Y.cb (Y.aq K rfl) Y.aK rfl T.bR (by decide +kernel) (Y.cons (Y.vS 6) Y.nil)) Y.nil))) Y.nil))))
   (Y.aX (Y.ret (Y.ct (Y.aZ K rfl) Y.bD rfl T.bU (by decide +kernel) (Y.cons (Y.cV K rfl (Y.vS 6) Y.qY (Y.sf (Y.cb (ee rfl) Y.kI rfl T.oP (by decide +kernel) (Y.cons Y.int (Y.cons (Y.op dZ Y.c_ (Y.cb (Y.aq K rfl) Y.aK rfl T.bR (by decide +kernel) (Y.cons (Y.vS 6) Y.nil)) (Y.fn K rfl h_law_draw (hr.mono (by decide)) rfl aU (Y.cons (Y.vS 0) (Y.cons Y.int Y.nil)))) Y.nil))))) Y.nil)))))))),?_⟩
 refine dF fun N hN=>?_;walk_at "rt";refine⟨by decide,?_⟩
 rw[hN];clear hN N;refine dF fun N hN=>?_;walk_at "rt";refine⟨by omega,by omega,?_⟩
 refine cY (fun rest μ=>∃ (ws:List Str) (sd:L2.T) (s3 s4:Option L2.T) (l:List Nat),(2<=ws.length/\ws.length<=20/\(∀ z∈ws,z.length<=18)/\bX ws/\KW ws)/\dw sd/\(rest=l.map fun k=>L2.T.int (0+(k:Nat)))/\μ=[.pb sd,.tr (.int m),.bx (.lst (sT ws)),sl s3,sl s4,.un,.un])
  ⟨["0","1"],sd,none,none,_,⟨by decide,by decide,by decide,⟨by unfold Px.bX;simp[cp];decide,by decide⟩,by unfold KW;decide +kernel⟩,hs,rfl,rfl⟩ ?_ ?_
 ·rintro μ ⟨ws,sd,s3,s4,l,hw,hs,_,rfl⟩;show N _;rw[hN];clear hN N;refine dF fun N hN=>?_;walk_at "rt";rw[hN];clear hN N;refine dF fun N hN=>?_;wp_walk using bS;refine⟨by omega,by omega,?_⟩
  refine ba (fun rest acc μ=>∃ (fs ls:List Str) (sd:L2.T) (l:List Nat),acc=sT fs/\(rest=l.map fun k=>L2.T.int (0+(k:Nat)))/\l.length=ls.length/\fs.length+ls.length=ws.length/\(∀ z∈fs,z.length<=18)/\(∀ z∈ls,z.length<=18)/\(fs++ls).Perm ws/\dw sd/\μ=[.pb sd,.tr (.int m),.bx (.lst (sT ws)),sl s3,sl s4,.bx (.lst (sT ls)),.un])
   ⟨[],ws,sd,_,rfl,rfl,by simp,by simp,by simp,hw.2.2.1,.refl _,hs,rfl⟩ ?_ ?_
  ·rintro acc μ ⟨fs,ls,sd,l,rfl,e,hll,hn,hf,_,hpm,hs,rfl⟩;refine⟨trivial,?_⟩;walk_at "rt";rw[hN];clear hN N;wp_walk using bS;refine⟨sd,3,rfl,hs,by decide,by decide,fun v sd' hs' v0 v1=>?_⟩
   have hn2:fs.length=ws.length:=by
    cases l with
    | cons=>cases e
    | nil=>simp at hll;omega
   have hls0:ls=[]:=List.eq_nil_of_length_eq_zero (by omega)
   rw[hls0,List.append_nil] at hpm;have p0:(0:Int)<=(if (fs.length:Int) - v > 1 then (fs.length:Int) - v else 1):=by split<;>omega
   have p1:(1:Int)<=(if (fs.length:Int) - v > 1 then (fs.length:Int) - v else 1):=by split<;>omega
   wp_walk using bS,fJ fs p0;refine q _ _ hs' ⟨?_,?_,fun z hz=>hf z (List.mem_of_mem_take hz),rq _ (rd hpm hw.2.2.2.1),oD _ (x9 hpm hw.2.2.2.2)⟩
   ·rw[List.length_take];omega
   ·rw[List.length_take];omega
  ·rintro t ts acc μ M ⟨fs,ls,sd,l,rfl,e,hll,hn,hf,hls,hpm,hs,rfl⟩ k
   cases l with
   | nil=>cases e
   | cons i l =>
    cases e;refine⟨trivial,Nat.lt_of_le_of_lt (show _<=20 by rw[bS];omega) (by decide),?_⟩
    wp_walk using bS;refine⟨sd,ls.length,rfl,hs,by simp at hll;omega,by omega,fun v sd' hs' v0 v1=>?_⟩
    have hv:v.toNat < ls.length:=by omega
    have hsx:seqIndex? v ls.length=some v.toNat:=by
     unfold seqIndex?;simp only[if_neg (show ¬ v < 0 by omega)]
     rw[if_pos (by simp;omega)]
    wp_walk using bS,hsx;refine⟨by omega,by omega,v.toNat,L2.T.str ls[v.toNat],rfl,by unfold sT;rw[List.getElem?_map,List.getElem?_eq_getElem hv];rfl,?_⟩
    refine k _ _ ⟨fs++[ls[v.toNat]],ls.eraseIdx v.toNat,sd',l,by rw[iQ];rfl,rfl,?_,?_,?_,fun z hz=>hls z (List.mem_of_mem_eraseIdx hz),?_,hs',?_⟩
    ·rw[List.length_eraseIdx_of_lt hv];simp at hll;omega
    ·rw[List.length_eraseIdx_of_lt hv,List.length_append,List.length_singleton];omega
    ·intro z hz;rcases List.mem_append.mp hz with h | h
     ·exact hf z h
     ·rw[List.mem_singleton.mp h];exact hls _ (List.getElem_mem hv)
    ·rw[List.append_assoc];exact ((List.Perm.append_left fs (mQ hv)).trans hpm)
    ·unfold sT;simp only[List.eraseIdx_eq_take_drop_succ,List.map_append,List.map_take,List.map_drop]
 ·rintro t ts μ M ⟨ws,sd,s3,s4,l,hw,hs,e,rfl⟩ k
  cases l with
  | nil=>cases e
  | cons i l =>
   cases e;walk_at "rt";refine dF fun M' hM=>?_;wp_walk using bS;refine⟨sd,ws.length,rfl,hs,by omega,by omega,fun v sd' hs' v0 v1=>?_⟩
   walk_at "rt";rw[hM];clear hM M';have hvn:v.toNat < ws.length:=by omega
   have ez:=zT v0 v1;have hz:ws[v.toNat]∈ws:=List.getElem_mem hvn;have efr:=nM hvn hw.2.2.2.1;have ekw:KW (ws.take v.toNat++ws[v.toNat]::ws.drop (v.toNat+1)):=by rw[<- List.drop_eq_getElem_cons hvn,List.take_append_drop];exact hw.2.2.2.2
   generalize ws[v.toNat]=z at ez hz efr ekw;by_cases c1:(z.length:Int) < 18
   ·by_cases c2:(ws.length:Int) < 20
    ·wp_walk using ez,bS,if_pos c1,if_pos c2,fJ ws v0,jN ws (show 0<=v+1 by omega)
     have h18:=hw.2.2.1 z hz;have l0:(Str.ofString "0").length=1:=rfl;have l1:(Str.ofString "1").length=1:=rfl;have b1:∀ n:Nat,n<=100->n<=sizeLine:=fun n h=>Nat.le_trans h (by decide)
     refine⟨Ci (by omega),b1 _ (by omega),b1 _ (by omega),by decide,b1 _ ?_,b1 _ ?_,k _ ⟨ws.take v.toNat++[z++"0",z++"1"]++ws.drop (v+1).toNat,sd',some _,some _,l,⟨?_,?_,?_,?_,?_⟩,hs',rfl,by rw[iQ,iQ];rfl⟩⟩
     ·rw[List.length_take];omega
     ·rw[List.length_append,bS,List.length_take,List.length_drop];simp;omega
     ·simp;omega
     ·simp;omega
     ·intro y hy;rcases List.mem_append.mp hy with h | h
      ·rcases List.mem_append.mp h with h | h
       ·exact hw.2.2.1 y (List.mem_of_mem_take h)
       ·rcases List.mem_cons.mp h with rfl | h
        ·rw[d_];have:(("0":Str)).length=1:=rfl;omega
        ·rw[List.mem_singleton.mp h,d_];have:(("1":Str)).length=1:=rfl;omega
      ·exact hw.2.2.1 y (List.mem_of_mem_drop h)
     ·rw[show (v+1).toNat=v.toNat+1 by omega];exact efr
     ·rw[show (v+1).toNat=v.toNat+1 by omega];exact tP (by rw[d_];rfl) (by rw[d_];rfl) h18 ekw
    ·wp_walk using ez,bS,if_pos c1,if_neg c2;exact⟨Ci (by have:=hw.2.2.1 z hz;omega),k _ ⟨ws,sd',some _,some _,l,hw,hs',rfl,rfl⟩⟩
   ·wp_walk using ez,bS,if_neg c1;exact⟨Ci (by have:=hw.2.2.1 z hz;omega),k _ ⟨ws,sd',some _,some _,l,hw,hs',rfl,rfl⟩⟩
def jo(ws:List Str)(t:Nat):Str:=ws.getD t ""
def J(ws:List Str)(ts:List Nat):Str:=Str.join "" (ts.map (jo ws))
def W(ws:List Str)(ts:List Nat):List Nat:=(ts.map fun t=>cp (jo ws t)).flatten
theorem uN(a b:Str):cp (a++b)=cp a++cp b:=Array.toList_append
theorem oH:∀ l:List Str,cp (Str.join "" l)=(l.map cp).flatten
 | []=>rfl
 | [x]=>by simp[Str.join]
 | x::y::r=>by
  show cp (x++""++Str.join "" (y::r))=_;rw[uN,uN,oH (y::r)];simp[cp];rfl
theorem CH(ws:List Str)(ts:List Nat):cp (J ws ts)=W ws ts:=by
 unfold J W;rw[oH,List.map_map];rfl
theorem sP(ws:List Str)(ts:List Nat):(J ws ts).length=(W ws ts).length:=by rw[<- cR,CH]
theorem i5{ws:List Str}{t:Nat}(h:t < ws.length):jo ws t=ws[t]:=by unfold jo;rw[List.getD_eq_getElem?_getD,List.getElem?_eq_getElem h];rfl
theorem gK{ws:List Str}{t:Nat}(h:t < ws.length):jo ws t∈ws:=by rw[i5 h];exact List.getElem_mem h
theorem Bh{ws:List Str}{m:Nat}(hm:∀ z∈ws,z.length<=m):∀ {ts:List Nat},(∀ t∈ts,t < ws.length)->(W ws ts).length<=ts.length*m
 | [],_=>by simp[W]
 | t::ts,h=>by
  have ih:=Bh hm (ts:=ts) (fun x hx=>h x (by simp[hx]))
  have h1:(cp (jo ws t)).length<=m:=by rw[cR];exact hm _ (gK (h t (by simp)))
  unfold W at ih ⊢;rw[List.map_cons,List.flatten_cons,List.length_append,List.length_cons,Nat.succ_mul]
  omega
theorem vn(ws:List Str)(a b:List Nat):W ws (a++b)=W ws a++W ws b:=by unfold W;rw[List.map_append,List.flatten_append]
theorem jm(z y:Str)(p:Nat)(hy:0 < y.length):Y.dY z y (p:Int)=decide (cp y <+: (cp z).drop p):=by
 unfold Y.dY;have e0:fromIndex z.length (p:Int)=p:=by unfold fromIndex;rw[if_neg (by omega)];omega
 rw[e0];have e:Builtin.Str.subAt z y p=decide (((cp z).drop p).take y.length=cp y):=by
  unfold Builtin.Str.subAt cp;rw[Bool.eq_iff_iff,beq_iff_eq,decide_eq_true_eq,<- Array.toList_inj,Array.toList_extract,List.extract_eq_take_drop,Nat.add_sub_cancel_left]
 rw[e,Bool.eq_iff_iff,Bool.and_eq_true,decide_eq_true_eq,decide_eq_true_eq,decide_eq_true_eq,pre_take,cR];refine⟨fun h=>h.2,fun h=>⟨?_,h⟩⟩;have:=congrArg List.length h;rw[List.length_take,List.length_drop,cR,cR] at this
 omega
def tH:fL:=fun args Q=>∃ (ws:List Str) (z:Str) (p t:Nat),args=[.tup (sT ws),.str z,.int (p:Nat)]/\bX ws/\t < ws.length/\ws.length<=100/\cp (jo ws t) <+: (cp z).drop p/\Q (.tr (.int (t:Nat))) []
theorem only{ws:List Str}{i t:Nat}{r:List Nat}(f:bX ws)(hi:i < ws.length)(ht:t < ws.length)(h1:cp ws[i] <+: r)(h2:cp ws[t] <+: r):i=t:=by
 rcases Nat.decEq i t with c | c
 ·have hf:iq ws=true:=decide_eq_true f.1;rcases List.prefix_or_prefix_of_prefix h1 h2 with h | h
  ·exact absurd h (pA.mp hf i t hi ht c)
  ·exact absurd h (pA.mp hf t i ht hi (Ne.symm c))
 ·exact c
theorem v9(T:Txt K mg)(F:HasFn K mg "thing_at" bA ["code","bits","place"]):ah P w K mg base cw 1 "thing_at" ["code","bits","place"] (spT K [false,false,false] tH):=by
 refine F.pg dR [false,false,false] rfl (by decide) (fun args Qt hl h f cdv A outer s H E hr=>?_)
 have hu:=b_ hr;obtain⟨ws,z,p,t,rfl,hf,ht,hlen,hp,q⟩:=h;rw[i5 ht] at hp;refine⟨_,(Y.ai (Y.iG PassesOwn.never rfl (Y.enum K rfl rfl T.fZ (Y.cons (Y.vS 0) Y.nil)) (Y.Dc (n:=2) K rfl rfl (Y.cu (Y.aQ (i:=3) dR.nd rfl (by walk_at "lc")) (Y.cu (Y.aQ (i:=4) dR.nd rfl (by walk_at "lc")) Y.fX))) (Y.aX (Y.jc (Y.tw (Y.rE (Y.cq (Y.u3 K rfl (Nat.lt_of_succ_lt hu)) Y.BU (Y.vS 4) Y.str) (Y.jH (Y.lu K rfl (Y.sm K rfl PySem.F.slot_str_startswith PySem.F.type_str_startswith Y.oC Y.nL (Y.vS 1) (Y.cons (Y.vS 4) (Y.cons (Y.vS 2) Y.nil))))))) (Y.aX (Y.ret (Y.vS 3))) Y.df)))
   (Y.aX (Y.ret Y.aI))),?_⟩
 refine dF fun N hN=>?_;walk_at "rt";refine cY (fun rest μ=>∃ (n:Nat) (s3 s4:Option L2.T),n<=t/\rest=(List.range' n (ws.length - n)).map (fun i=>L2.T.tup [.int (i:Nat),((sT ws)[i]?).getD .aI])/\μ=[.tr (.tup (sT ws)),.tr (.str z),.tr (.int (p:Nat)),sl s3,sl s4])
  ⟨0,none,none,Nat.zero_le _,by unfold pairs;rw[bS,Nat.sub_zero,List.range_eq_range'],rfl⟩ ?_ ?_
 ·rintro μ ⟨n,s3,s4,hn,e,rfl⟩;have:=congrArg List.length e;simp at this
  omega
 ·rintro t' ts μ M ⟨n,s3,s4,hn,e,rfl⟩ k;have hn':n < ws.length:=by omega
  rw[show ws.length - n=(ws.length - (n+1))+1 by omega,List.range'_succ,List.map_cons] at e
  have eg:((sT ws)[n]?).getD .aI=.str ws[n]:=by unfold sT;rw[List.getElem?_map,List.getElem?_eq_getElem hn'];rfl
  rw[eg] at e;cases e;have hpos:0 < ws[n].length:=hf.2 _ (List.getElem_mem hn');have hne:¬ ws[n]=Str.ofString "":=fun e=>by rw[e] at hpos;exact absurd hpos (by decide)
  by_cases c:cp ws[n] <+: (cp z).drop p
  ·have:n=t:=only hf hn' ht c hp;subst this;wp_walk using if_pos hne,jm z ws[n] p hpos,decide_eq_true c;exact q
  ·wp_walk using if_pos hne,jm z ws[n] p hpos,decide_eq_false c;refine k _ ⟨n+1,some _,some _,?_,rfl,rfl⟩;rcases Nat.lt_or_eq_of_le hn with h | h
   ·exact h
   ·subst h;exact absurd hp c
def GO:fL:=fun args Q=>∃ (ws:List Str) (ts:List Nat),args=[.tup (sT ws),.tup (nN ts)]/\(∀ t∈ts,t < ws.length)/\ws.length<=100/\(∀ z∈ws,z.length<=100)/\ts.length<=1000/\Q (.tr (.str (J ws ts))) []
theorem zX{ws:List Str}(hm:∀ z∈ws,z.length<=100){ts:List Nat}(h:∀ t∈ts,t < ws.length)(h2:ts.length<=1000):((ts.map (jo ws)).map (·.length)).sum+(ts.map (jo ws)).length*(("":Str)).length<=16777216:=by
 have h0:(("":Str)).length=0:=rfl;rw[h0,Nat.mul_zero,Nat.add_zero];have:∀ ts:List Nat,(∀ t∈ts,t < ws.length)->((ts.map (jo ws)).map (·.length)).sum<=ts.length*100:=fun ts=>by
  induction ts with
  | nil=>intro _;simp
  | cons t ts ih =>
   intro h;have:=ih (fun x hx=>h x (by simp[hx]))
   have:=hm _ (gK (h t (by simp)))
   simp only[List.map_cons,List.sum_cons,List.length_cons]
   omega
 have:=this ts h
 omega
theorem zm{ws:List Str}{t:Nat}(h:t < ws.length):bV (sT ws) ((t:Nat):Int)=some (.str (jo ws t)):=by
 rw[zT (by omega) (by omega),i5 h]
 congr 2
theorem ng(T:Txt K mg)(F:HasFn K mg "things_written" av ["code","things"]):ah P w K mg base cw 1 "things_written" ["code","things"] (spT K [false,false] GO):=by
 refine F.pg eS [false,false] rfl (by decide) (fun args Qt hl h f cdv A outer s H E hr=>?_)
 have hu:=b_ hr;obtain⟨ws,ts,rfl,ht,hlen,hm,h1000,q⟩:=h;refine⟨_,(Y.aX (Y.ret (Y.sm K rfl PySem.F.slot_str_join PySem.F.type_str_join (Y.tU K rfl) Y.x3 Y.str (Y.cons (Y.fi (osc:=aa av) (ON:=["code","things"]) (own:=["thing"]) (N:=["thing","code","things"]) ⟨rfl,by decide +kernel,rfl,by decide +kernel,by decide +kernel,by decide +kernel,by decide +kernel,by decide +kernel⟩ rfl rfl rfl rfl (Y.anyS K rfl (Y.vS 1)) (fun _ _ _ _=>(Z.aQ (i:=0) (show List.Nodup (["thing","code","things"]:List Str) by decide +kernel) rfl (by walk_at "lc"))) (fun _ _ _ _=>Y.la) (fun _ _ _ _=>(Y.ix (Y.cJ K rfl) Y.aR (Y.vS 1) (Y.vS 0)))) Y.nil)))),?_⟩
 walk_at "rt";refine ba (fun rest acc μ=>∃ a b:List Nat,ts=a++b/\rest=nN b/\acc=sT (a.map (jo ws))/\μ=[.tr (.tup (sT ws)),.tr (.tup (nN ts))]) ⟨[],ts,rfl,rfl,rfl,rfl⟩ ?_ ?_
 ·rintro acc μ ⟨a,b,e,e2,rfl,rfl⟩
  cases b with
  | cons=>cases e2
  | nil =>
   rw[List.append_nil] at e;subst e;refine⟨trivial,?_⟩;walk_at "rt";exact⟨ts.map (jo ws),rfl,zX hm ht h1000,q⟩
 ·rintro t r acc μ M ⟨a,b,e,e2,rfl,rfl⟩ k
  cases b with
  | nil=>cases e2
  | cons t b =>
   cases e2;have htl:t < ws.length:=ht t (by rw[e];simp)
   refine⟨trivial,Nat.lt_of_le_of_lt (show _<=1000 by rw[bS,List.length_map];have:=congrArg List.length e;simp at this;omega) (by decide),?_⟩
   wp_walk using zm htl;exact k _ _ ⟨a++[t],b,by rw[e];simp,rfl,by rw[List.map_append,iQ];rfl,rfl⟩
def zC:fL:=fun args Q=>∃ (ws:List Str) (z:Str) (ts:List Nat),args=[.tup (sT ws),.str z]/\bX ws/\(∀ t∈ts,t < ws.length)/\ws.length<=100/\ts.length<=1000/\z.length<=100000/\(∀ x∈ws,x.length<=100)/\cp z=W ws ts/\Q (.tr (.tup (nN ts))) []
theorem xa(T:Txt K mg)(F:HasFn K mg "things_read" aO ["code","bits"])(hthing_at:ah P w K mg base cw 1 "thing_at" ["code","bits","place"] (spT K [false,false,false] tH)):ah P w K mg base cw 2 "things_read" ["code","bits"] (spT K [false,false] zC):=by
 refine F.pg bL [false,false] rfl (by decide) (fun args Qt hl h f cdv A outer s H E hr=>?_)
 have hu:=b_ hr;obtain⟨ws,z,ts,rfl,hf,ht,hlen,h1000,hz,h100,hW,q⟩:=h;have bz:z.length<=sizeLine:=Nat.le_trans hz (by decide)
 refine⟨_,(Y.ai (Y.set (i:=2) bL.nd rfl (by walk_at "lc") (Y.lst Y.nil))
   (Y.ai (Y.set (i:=3) bL.nd rfl (by walk_at "lc") Y.int)
   (Y.ai (Y.jS PassesOwn.never (Y.cq iM Y.dE (Y.vS 3) (Y.cb (Y.aq K rfl) Y.aK rfl T.bR (by decide +kernel) (Y.cons (Y.vS 1) Y.nil))) (Y.ai (Y.set (i:=4) bL.nd rfl (by walk_at "lc") (Y.fn K rfl hthing_at (hr.mono (by decide)) rfl aU (Y.cons (Y.vS 0) (Y.cons (Y.vS 1) (Y.cons (Y.vS 3) Y.nil)))))
   (Y.ai (Y.jc (Y.cq ur Y.uv (Y.vS 4) Y.aI) (Y.aX Y.yF) Y.df)
   (Y.ai (Y.expr (Y.bm K rfl PySem.F.slot_list_append PySem.F.type_list_append fM Y.j6 (Y.vS 2) (Y.cons (Y.vS 4) Y.nil)))
   (Y.aX (Y.set (i:=3) bL.nd rfl (by walk_at "lc") (Y.op (Y.aG K rfl) Y.aH (Y.vS 3) (Y.cb (Y.aq K rfl) Y.aK rfl T.bR (by decide +kernel) (Y.cons (Y.ix (Y.cJ K rfl) Y.aR (Y.vS 0) (Y.vS 4)) Y.nil)))))))))
   (Y.aX (Y.ret (Y.ct (Y.aZ K rfl) Y.bD rfl T.bU (by decide +kernel) (Y.cons (Y.vS 2) Y.nil))))))),?_⟩
 refine dF fun N hN=>?_;walk_at "rt";rw[hN];clear hN N;refine dF fun N hN=>?_;walk_at "rt";rw[hN];clear hN N;refine dF fun N hN=>?_;refine⟨fun m μ=>∃ (a b:List Nat) (p:Nat) (s4:Option L2.T),ts=a++b/\p=(W ws a).length/\m=b.length/\μ=[.tr (.tup (sT ws)),.tr (.str z),.bx (.lst (nN a)),.tr (.int (p:Nat)),sl s4],⟨_,[],ts,0,none,rfl,rfl,rfl,rfl⟩,?_⟩;rintro m μ ⟨a,b,p,s4,e,rfl,rfl,rfl⟩;have hzl:z.length=(W ws a).length+(W ws b).length:=by rw[<- cR,hW,e,vn,List.length_append]
 cases b with
 | nil =>
  have c:¬ (((W ws a).length:Nat):Int) < (z.length:Int):=by
   rw[hzl];simp[W]
  wp_walk using if_neg c;refine⟨bz,?_⟩;rw[hN];clear hN N;walk_at "rt";rw[List.append_nil] at e;rw[<- e];exact q
 | cons t b =>
  have htl:t < ws.length:=ht t (by rw[e];simp)
  have hpos:0 < (cp (jo ws t)).length:=by rw[cR];exact hf.2 _ (gK htl)
  have hWt:W ws (t::b)=cp (jo ws t)++W ws b:=by unfold W;rw[List.map_cons,List.flatten_cons]
  have c:(((W ws a).length:Nat):Int) < (z.length:Int):=by
   rw[hzl,hWt,List.length_append];omega
  have hdrop:(cp z).drop (W ws a).length=cp (jo ws t)++W ws b:=by
   rw[hW,e,vn,hWt,List.drop_left]
  wp_walk using if_pos c;refine⟨bz,?_⟩;refine dF fun M hM=>?_;walk_at "rt";refine⟨ws,z,(W ws a).length,t,rfl,hf,htl,hlen,by rw[hdrop];exact List.prefix_append _ _,?_⟩
  walk_at "rt";rw[hM];clear hM M;refine dF fun M hM=>?_;walk_at "rt";rw[hM];clear hM M;refine dF fun M hM=>?_;walk_at "rt";refine⟨Nat.lt_of_le_of_lt (show _<=1000 by rw[cL];have:=congrArg List.length e;simp at this;omega) (by decide),?_⟩
  rw[hM];clear hM M;wp_walk using zm htl;refine⟨Nat.le_trans (h100 _ (gK htl)) (by decide),b.length,by simp,a++[t],b,(W ws (a++[t])).length,some (.int (t:Nat)),by rw[e];simp,rfl,rfl,?_⟩
  rw[fN,vn,List.length_append];have:(W ws [t]).length=(jo ws t).length:=by unfold W;simp[cR]
  rw[this];rfl
theorem yM(n:Nat)(i:Int):pw n (.int i) (.int i) true:=by
 have h:=pw.flat (n:=n) (t:=.int i) (u:=.int i) rfl rfl;rw[show Y.CA (.int i) (.int i)=true from beq_self_eq_true i] at h;exact h
theorem oV{xs:List Int}{μ:Mu}{Q:R->Mu->Prop}(q:Q (.tr (.bl false)) μ):Y.jK (nI xs) (nI xs) true μ Q:=by
 refine⟨fun _=>true,fun j x y e1 e2=>?_,?_⟩
 ·rw[e1] at e2;cases e2;obtain⟨i,_,rfl⟩:=List.mem_map.mp (List.mem_of_getElem? e1);exact yM 4 i
 ·rw[fO rfl fun _ _=>rfl];exact q
theorem wZ{xs:List Nat}{μ:Mu}{Q:R->Mu->Prop}(q:Q (.tr (.bl false)) μ):Y.jK (nN xs) (nN xs) true μ Q:=by rw[zz];exact oV q
theorem eB(w:List Nat):(wd w).length=w.length:=by show w.toArray.size=_;simp
theorem D7(W:List (List Nat)):wT W=sT (W.map wd):=by unfold wT sT;rw[List.map_map];rfl
theorem getD_at{α:Type}{l:List α}{d:α}{i:Nat}(h:i < l.length):l.getD i d=l[i]:=by rw[List.getD_eq_getElem?_getD,List.getElem?_eq_getElem h];rfl
theorem nz{ls:List Int}{W:List (List Nat)}(hL:n_ ls)(hC:Canon ls W):W.map (fun w=>(w.length:Int))=ls:=by
 apply List.ext_getElem
 ·rw[List.length_map,hC.len]
 ·intro i h1 h2;rw[List.length_map] at h1;have:=hC.dC i h2;rw[getD_at h1] at this;have h3:=hL.2.2 ls[i] (List.getElem_mem h2);rw[List.getElem_map,this];unfold di;rw[getD_at h2];omega
theorem nh{ls:List Int}{W:List (List Nat)}(hL:n_ ls)(hC:Canon ls W):bX (W.map wd):=by
 refine⟨?_,fun z hz=>?_⟩
 ·have e:(W.map wd).map cp=W:=by rw[List.map_map];exact List.map_id'' (fun w=>rfl) W
  rw[e];refine List.pairwise_iff_getElem.mpr fun i j hi hj hij=>?_;have hi':i < ls.length:=by rw[<- hC.len];exact hi
  have hj':j < ls.length:=by rw[<- hC.len];exact hj
  rcases Int.lt_or_le (ls.getD j 0) (ls.getD i 0) with c | c
  ·have:=(hC.part j i hj' hi' (.inl c)).not;rw[getD_at hi,getD_at hj] at this;exact⟨this.2,this.1⟩
  ·have:=(hC.part i j hi' hj' (by omega)).not
   rw[getD_at hi,getD_at hj] at this;exact this
 ·obtain⟨w,hw,rfl⟩:=List.mem_map.mp hz;obtain⟨i,hi,rfl⟩:=List.mem_iff_getElem.mp hw;have h2:i < ls.length:=by rw[<- hC.len];exact hi
  have:=hC.dC i h2;rw[getD_at hi] at this;have h3:=hL.2.2 ls[i] (List.getElem_mem h2);rw[eB,this];unfold di;rw[getD_at h2];omega
theorem BI{ls:List Int}{W:List (List Nat)}{out:List (Int×Int)}(hC:Canon ls W)(hp:out.Perm ((List.range ls.length).map fun t=>(ls.getD t 0,((t:Nat):Int))))(hup:Ew out):(∀ p∈out,∃ t:Nat,t < ls.length/\p=(ls.getD t 0,((t:Nat):Int)))/\(out.map fun p=>W.getD p.2.toNat []).Pairwise Cw.Dv:=by
 have hm:∀ p∈out,∃ t:Nat,t < ls.length/\p=(ls.getD t 0,((t:Nat):Int)):=fun p h=>by
  obtain⟨t,ht,rfl⟩:=List.mem_map.mp (hp.mem_iff.mp h);exact⟨t,List.mem_range.mp ht,rfl⟩
 have hnd:out.Nodup:=hp.nodup_iff.mpr (List.pairwise_map.mpr (List.Pairwise.imp (fun {a b} h e=>absurd (Prod.mk.inj e).2 (by omega)) List.pairwise_lt_range))
 refine⟨hm,List.pairwise_map.mpr ((hup.and hnd).imp_of_mem fun {p q} h1 h2 h=>?_)⟩;obtain⟨s,hs,rfl⟩:=hm p h1;obtain⟨t,ht,rfl⟩:=hm q h2;have h3:¬ (ls.getD t 0 < ls.getD s 0\/(ls.getD t 0=ls.getD s 0/\((t:Nat):Int) < ((s:Nat):Int))):=of_decide_eq_false h.1;have h4:s≠t:=fun e=>h.2 (by rw[e])
 show Cw.Dv (W.getD ((s:Nat):Int).toNat []) (W.getD ((t:Nat):Int).toNat []);rw[Int.toNat_natCast,Int.toNat_natCast];exact hC.part s t hs ht (by omega)
def wU(cs:List Int)(m:Nat):List Nat:=(List.range m).flatMap fun t=>List.replicate (cs.getD t 0).toNat t
theorem iz(cs:List Int)(m:Nat):wU cs (m+1)=wU cs m++List.replicate (cs.getD m 0).toNat m:=by
 unfold wU;rw[List.range_succ,List.flatMap_append];simp
theorem kD{cs:List Int}(hc:∀ c∈cs,0<=c/\c<=16):∀ m,m<=cs.length->(wU cs m).length<=16*m
 | 0,_=>Nat.le_refl 0
 | m+1,h=>by
  have:=kD hc m (by omega)
  have h2:=hc (cs.getD m 0) (by rw[getD_at (show m < cs.length by omega)];exact List.getElem_mem _)
  rw[iz,List.length_append,List.length_replicate]
  omega
theorem Bf{cs:List Int}{m t:Nat}(h:t∈wU cs m):t < m:=by
 obtain⟨s,hs,ht⟩:=List.mem_flatMap.mp h;rw[(List.mem_replicate.mp ht).2];exact List.mem_range.mp hs
theorem Az(k t:Nat):(List.replicate k [L2.T.int ((t:Nat):Int)]).flatten=nN (List.replicate k t):=by
 induction k with
 | zero=>rfl
 | succ k ih=>rw[List.replicate_succ,List.flatten_cons,ih,List.replicate_succ];rfl
theorem lg{l:List Nat}{i:Nat}(h:i < l.length):(l[i]::l.eraseIdx i).Perm l:=by
 rw[List.eraseIdx_eq_take_drop_succ];refine List.perm_middle.symm.trans ?_;rw[<- List.drop_eq_getElem_cons h,List.take_append_drop]
theorem qf(g:Nat->Nat)(t:Nat):∀ k:Nat,((List.replicate k t).map g).sum=k*g t
 | 0=>by simp
 | k+1=>by rw[List.replicate_succ,List.map_cons,List.sum_cons,qf g t k,Nat.succ_mul,Nat.add_comm]
theorem p7{cs:List Int}(hc:∀ c∈cs,0<=c/\c<=16)(g:Nat->Nat):∀ m,m<=cs.length->((((wU cs m).map g).sum:Nat):Int)=Pm.sI (fun i=>d4 cs i*((g i:Nat):Int)) m
 | 0,_=>rfl
 | m+1,h=>by
  have h2:=hc (cs.getD m 0) (by rw[getD_at (show m < cs.length by omega)];exact List.getElem_mem _)
  rw[iz,List.map_append,List.sum_append,qf,Int.natCast_add,p7 hc g m (by omega),Int.natCast_mul,Int.toNat_of_nonneg h2.1]
  rfl
theorem CQ(ws:List Str)(ts:List Nat):(J ws ts).length=(ts.map fun t=>(jo ws t).length).sum:=by
 rw[sP];unfold W;rw[List.length_flatten,List.map_map];congr 1
theorem vj{cs:List Int}{ws:List Str}{l ts:List Nat}(hc:∀ c∈cs,0<=c/\c<=16)(hp:ts.Perm (wU cs cs.length))(hl:l.length=cs.length)(hw:∀ t,t < cs.length->(jo ws t).length=l.getD t 0):(((J ws ts).length:Nat):Int)=dot cs (nZ l):=by
 rw[CQ,(hp.map fun t=>(jo ws t).length).sum_nat,kL cs l hl,p7 hc _ _ (Nat.le_refl _)];exact Pm.dv fun i hi=>by rw[hw i hi]
def pU:fL:=fun args Q=>∃ (cs:List Int) (b:Int),args=[.tup (nI cs),.int b]/\1<=cs.length/\cs.length<=20/\1<=b/\b<=40/\cs.length<=2 ^ b.toNat/\Q (.tr (.tup (nN (cC cs b.toNat)))) []
theorem AY{C:Addr}(args:List L2.T)(Q:R->List L2.T->Prop)(h:pU args Q):wy C args Q fun _=>False:=by
 obtain⟨cs,b,rfl,h1,h2,h3,h4,h5,q⟩:=h;exact⟨cs,b,rfl,h1,h2,by omega,h4,.inl ⟨decide_eq_true ⟨h3,h5⟩,q⟩⟩
def wc:fL:=fun args Q=>∃ ls:List Int,args=[.tup (nI ls)]/\n_ ls/\nK ls=true/\Q (.tr (.tup (wT (wordsOf Cw.je ls)))) []
theorem codeN{C:Addr}(args:List L2.T)(Q:R->List L2.T->Prop)(h:wc args Q):zp C args Q fun _=>False:=by
 obtain⟨ls,rfl,h1,h2,q⟩:=h;exact⟨ls,rfl,h1,.inl ⟨h2,q⟩⟩
def uI:fL:=fun args Q=>∃ (s:L2.T) (cs:List Int) (b:Int),args=[s,.tup (nI cs),.int b]/\dw s/\1<=cs.length/\cs.length<=12/\(∀ c∈cs,0<=c/\c<=16)/\1<=b/\b<=20/\cs.length<=2 ^ b.toNat/\∀ s',dw s'->Q (.tr (.bl true)) [s']
theorem sW(T:Txt K mg)(F:HasFn K mg "_law_right" ar ["seed","counts","bound"])(hleast_lengths:ah P w K mg base cw 6 "least_lengths" ["counts","bound"] (spT K [false,false] pU))(hcode_of:ah P w K mg base cw 4 "code_of" ["lengths"] (spT K [false] wc))(hcan_be:ah P w K mg base cw 1 "can_be" ["lengths"] (spT K [false] pK))(his_code:ah P w K mg base cw 1 "is_code" ["code"] (spT K [false] zR))
  (h_law_draw:ah P w K mg base cw 1 "_law_draw" ["seed","most"] (spT K [true,false] mH)) (hthings_written:ah P w K mg base cw 1 "things_written" ["code","things"] (spT K [false,false] GO)) (hthings_read:ah P w K mg base cw 2 "things_read" ["code","bits"] (spT K [false,false] zC)) (hcost_of:ah P w K mg base cw 1 "cost_of" ["counts","lengths"] (spT K [false,false] zf)) (h_law_prefix:ah P w K mg base cw 2 "_law_prefix" ["seed","many"] (spT K [true,false] pP)):ah P w K mg base cw 7 "_law_right" ["seed","counts","bound"] (spT K [true,false,false] uI):=by
 refine F.pg ay [true,false,false] rfl (by decide) (fun args Qt hl h f cdv A outer s H E hr=>?_)
 have hu:=b_ hr;obtain⟨sd,cs,b,rfl,hs,hn1,hn12,hc,hb1,hb2,hnb,q⟩:=h;refine⟨_,(Y.ai (Y.set (i:=3) ay.nd rfl (by walk_at "lc") (Y.cb (Y.aq K rfl) Y.aK rfl T.bR (by decide +kernel) (Y.cons (Y.vS 1) Y.nil)))
   (Y.ai (Y.set (i:=4) ay.nd rfl (by walk_at "lc") (Y.fn K rfl hleast_lengths (hr.mono (by decide)) rfl aU (Y.cons (Y.vS 1) (Y.cons (Y.vS 2) Y.nil))))
   (Y.ai (Y.set (i:=5) ay.nd rfl (by walk_at "lc") (Y.fn K rfl hcode_of (hr.mono (by decide)) rfl aU (Y.cons (Y.vS 4) Y.nil)))
   (Y.ai (Y.jc (Y.tw (Y.BE (Y.cq (Y.kq K rfl (kW hr)) Y.jW (Y.ct (Y.aZ K rfl) Y.bD rfl T.bU (by decide +kernel) (Y.cons (Y.fi (osc:=aa ar) (ON:=["seed","counts","bound","many","lengths","code","order","words","things","thing","left","bits","other"]) (own:=["word"]) (N:=["word","seed","counts","bound","many","lengths","code","order","words","things","thing","left","bits","other"]) ⟨rfl,by decide +kernel,rfl,by decide +kernel,by decide +kernel,by decide +kernel,by decide +kernel,by decide +kernel⟩ rfl rfl rfl rfl (Y.anyS K rfl (Y.vS 5)) (fun _ _ _ _=>(Z.aQ (i:=0) (show List.Nodup (["word","seed","counts","bound","many","lengths","code","order","words","things","thing","left","bits","other"]:List Str) by decide +kernel) rfl (by walk_at "lc"))) (fun _ _ _ _=>Y.la) (fun _ _ _ _=>(Y.cb (Y.aq K rfl) Y.aK rfl T.bR (by decide +kernel) (Y.cons (Y.vS 0) Y.nil)))) Y.nil)) (Y.vS 4)) (Y.BE (Y.nH (Y.lu K rfl (Y.fn K rfl hcan_be (hr.mono (by decide)) rfl aU (Y.cons (Y.vS 4) Y.nil)))) (Y.rM (Y.cq Y.yf Y.xy (Y.fn K rfl his_code (hr.mono (by decide)) rfl aU (Y.cons (Y.vS 5) Y.nil)) Y.bl))))) (Y.aX (Y.ret Y.bl)) Y.df)
   (Y.ai (Y.set (i:=6) ay.nd rfl (by walk_at "lc") (Y.cb (Y.mZ K rfl) Y.sQ rfl T.dX (by decide +kernel) (Y.cons (Y.fi (osc:=aa ar) (ON:=["seed","counts","bound","many","lengths","code","order","words","things","thing","left","bits","other"]) (own:=["thing"]) (N:=["thing","seed","counts","bound","many","lengths","code","order","words","things",".thing","left","bits","other"]) ⟨rfl,by decide +kernel,rfl,by decide +kernel,by decide +kernel,by decide +kernel,by decide +kernel,by decide +kernel⟩ rfl rfl rfl rfl (Y.ip rfl T.bY (Y.cons (Y.vS 3) Y.nil)) (fun _ _ _ _=>(Z.aQ (i:=0) (show List.Nodup (["thing","seed","counts","bound","many","lengths","code","order","words","things",".thing","left","bits","other"]:List Str) by decide +kernel) rfl (by walk_at "lc"))) (fun _ _ _ _=>Y.la) (fun _ _ _ _=>(Y.tup (Y.cons (Y.ix (Y.cJ K rfl) Y.aR (Y.vS 5) (Y.vS 0)) (Y.cons (Y.vS 0) Y.nil))))) Y.nil)))
   (Y.ai (Y.asg (Y.pf K rfl (osc:=aa ar) (ON:=["seed","counts","bound","many","lengths","code","order","words","things","thing","left","bits","other"]) (own:=["length","thing"]) (N:=["length","thing","seed","counts","bound","many","lengths","code","order","words","things",".thing","left","bits","other"]) ⟨rfl,by decide +kernel,rfl,by decide +kernel,by decide +kernel,by decide +kernel,by decide +kernel,by decide +kernel⟩ rfl rfl rfl rfl (Y.anyS K rfl (Y.vS 6)) (fun _ _ _ _=>(Z.oa (n:=2) K rfl rfl (Z.cu (Z.aQ (i:=0) (show List.Nodup (["length","thing","seed","counts","bound","many","lengths","code","order","words","things",".thing","left","bits","other"]:List Str) by decide +kernel) rfl (by walk_at "lc")) (Z.cu (Z.aQ (i:=1) (show List.Nodup (["length","thing","seed","counts","bound","many","lengths","code","order","words","things",".thing","left","bits","other"]:List Str) by decide +kernel) rfl (by walk_at "lc")) Z.fX)))) (fun _ _ _ _=>Y.la) (fun _ _ _ _=>(Y.ix (Y.cJ K rfl) Y.aR (Y.vS 7) (Y.vS 1)))) (Y.aQ (i:=7) ay.nd rfl (by walk_at "lc")))
   (Y.ai (Y.jc (Y.cq (Y.kq K rfl (kW hr)) Y.jW (Y.fi (osc:=aa ar) (ON:=["seed","counts","bound","many","lengths","code","order","words","things","thing","left","bits","other"]) (own:=["k"]) (N:=["k","seed","counts","bound","many","lengths","code","order","words","things","thing","left","bits","other"]) ⟨rfl,by decide +kernel,rfl,by decide +kernel,by decide +kernel,by decide +kernel,by decide +kernel,by decide +kernel⟩ rfl rfl rfl rfl (Y.ip rfl T.bY (Y.cons (Y.op dZ Y.c_ (Y.vS 3) Y.int) Y.nil)) (fun _ _ _ _=>(Z.aQ (i:=0) (show List.Nodup (["k","seed","counts","bound","many","lengths","code","order","words","things","thing","left","bits","other"]:List Str) by decide +kernel) rfl (by walk_at "lc"))) (fun _ _ _ _=>(Y.GH (Y.nH (Y.cq Y.Be Y.BH (Y.ix (Y.cJ K rfl) Y.aR (Y.vS 8) (Y.vS 0)) (Y.ix (Y.cJ K rfl) Y.aR (Y.vS 8) (Y.op (Y.aG K rfl) Y.aH (Y.vS 0) Y.int)))))) (fun _ _ _ _=>(Y.vS 0))) (Y.lst Y.nil)) (Y.aX (Y.ret Y.bl)) Y.df)
   (Y.ai (Y.set (i:=8) ay.nd rfl (by walk_at "lc") (Y.lst Y.nil))
   (Y.ai (Y.iG PassesOwn.never rfl (Y.ip rfl T.bY (Y.cons (Y.vS 3) Y.nil)) (Y.aQ (i:=9) ay.nd rfl (by walk_at "lc")) (Y.aX (Y.set (i:=8) ay.nd rfl (by walk_at "lc") (Y.op (Y.aG K rfl) Y.aH (Y.vS 8) (Y.op (Y.cD K rfl) Y.cE (Y.lst (Y.cons (Y.vS 9) Y.nil)) (Y.ix (Y.cJ K rfl) Y.aR (Y.vS 1) (Y.vS 9)))))))
   (Y.ai (Y.tN (j:=10) ay.nd rfl (by walk_at "lc") (osc:=aa ar) (ON:=["seed","counts","bound","many","lengths","code","order","words","things","thing","left","bits","other"]) (own:=["k"]) (N:=["k","seed","counts","bound","many","lengths","code","order","words","things","thing","left","bits","other"]) ⟨rfl,by decide +kernel,rfl,by decide +kernel,by decide +kernel,by decide +kernel,by decide +kernel,by decide +kernel⟩ rfl rfl rfl rfl (Y.ip rfl T.bY (Y.cons (Y.cb (Y.aq K rfl) Y.aK rfl T.bR (by decide +kernel) (Y.cons (Y.vS 8) Y.nil)) Y.nil)) (fun _ _ _ _=>(Z.aQ (i:=0) (show List.Nodup (["k","seed","counts","bound","many","lengths","code","order","words","things","thing","left","bits","other"]:List Str) by decide +kernel) rfl (by walk_at "lc"))) (fun _ _ _ _=>Y.la) (fun _ _ _ _=>(Y.bm K rfl PySem.F.slot_list_pop PySem.F.type_list_pop m4 Y.lF (Y.vS 9) (Y.cons (Y.fn K rfl h_law_draw (hr.mono (by decide)) rfl aU (Y.cons (Y.vS 1) (Y.cons (Y.cb (Y.aq K rfl) Y.aK rfl T.bR (by decide +kernel) (Y.cons (Y.vS 9) Y.nil)) Y.nil))) Y.nil))))
   (Y.ai (Y.set (i:=11) ay.nd rfl (by walk_at "lc") (Y.fn K rfl hthings_written (hr.mono (by decide)) rfl aU (Y.cons (Y.vS 5) (Y.cons (Y.ct (Y.aZ K rfl) Y.bD rfl T.bU (by decide +kernel) (Y.cons (Y.vS 10) Y.nil)) Y.nil))))
   (Y.ai (Y.jc (Y.tw (Y.BE (Y.cq (Y.kq K rfl (kW hr)) Y.jW (Y.cb (Y.aq K rfl) Y.aK rfl T.bR (by decide +kernel) (Y.cons (Y.vS 11) Y.nil)) (Y.fn K rfl hcost_of (hr.mono (by decide)) rfl aU (Y.cons (Y.vS 1) (Y.cons (Y.vS 4) Y.nil)))) (Y.rM (Y.cq (Y.kq K rfl (kW hr)) Y.jW (Y.fn K rfl hthings_read (hr.mono (by decide)) rfl aU (Y.cons (Y.vS 5) (Y.cons (Y.vS 11) Y.nil))) (Y.ct (Y.aZ K rfl) Y.bD rfl T.bU (by decide +kernel) (Y.cons (Y.vS 10) Y.nil)))))) (Y.aX (Y.ret Y.bl)) Y.df)
   (Y.ai (Y.set (i:=12) ay.nd rfl (by walk_at "lc") (Y.fn K rfl h_law_prefix (hr.mono (by decide)) rfl aU (Y.cons (Y.vS 0) (Y.cons (Y.vS 3) Y.nil))))
   (Y.ai (Y.jc (Y.tw (Y.BE (Y.cq iM Y.dE (Y.cb (Y.aq K rfl) Y.aK rfl T.bR (by decide +kernel) (Y.cons (Y.vS 12) Y.nil)) (Y.vS 3)) (Y.rM (Y.cq yX Y.dE (Y.cb (Y.se K rfl rfl) Y.xH rfl T.oP (by decide +kernel) (Y.cons (Y.fi (osc:=aa ar) (ON:=["seed","counts","bound","many","lengths","code","order","words","things","thing","left","bits","other"]) (own:=["word"]) (N:=["word","seed","counts","bound","many","lengths","code","order","words","things","thing","left","bits","other"]) ⟨rfl,by decide +kernel,rfl,by decide +kernel,by decide +kernel,by decide +kernel,by decide +kernel,by decide +kernel⟩ rfl rfl rfl rfl (Y.anyS K rfl (Y.cV K rfl (Y.vS 12) Y.qY (Y.sf (Y.vS 3)))) (fun _ _ _ _=>(Z.aQ (i:=0) (show List.Nodup (["word","seed","counts","bound","many","lengths","code","order","words","things","thing","left","bits","other"]:List Str) by decide +kernel) rfl (by walk_at "lc"))) (fun _ _ _ _=>Y.la) (fun _ _ _ _=>(Y.cb (Y.aq K rfl) Y.aK rfl T.bR (by decide +kernel) (Y.cons (Y.vS 0) Y.nil)))) Y.nil)) (Y.vS 2))))) (Y.aX (Y.ret Y.bl)) Y.df)
   (Y.aX (Y.ret (Y.cmp wo Y.dE (Y.cb (Y.aq K rfl) Y.aK rfl T.bR (by decide +kernel) (Y.cons (Y.fn K rfl hthings_written (hr.mono (by decide)) rfl aU (Y.cons (Y.vS 12) (Y.cons (Y.ct (Y.aZ K rfl) Y.bD rfl T.bU (by decide +kernel) (Y.cons (Y.vS 10) Y.nil)) Y.nil))) Y.nil)) (Y.cb (Y.aq K rfl) Y.aK rfl T.bR (by decide +kernel) (Y.cons (Y.vS 11) Y.nil))))))))))))))))))),?_⟩
 have hL:=q_ (fun c h=>(hc c h).1) hn1 (by omega) (show 1<=b.toNat by omega) (by omega) hnb
 refine aY fun N hN=>?_;wp_walk using bK;refine hN _ ?_;clear hN N;refine aY fun N hN=>?_;walk_at "rt";refine⟨cs,b,rfl,hn1,by omega,hb1,by omega,hnb,?_⟩
 rw[zz];walk_at "rt";refine hN _ ?_;clear hN N;have hzl:(nZ (cC cs b.toNat)).length=cs.length:=by unfold nZ;rw[List.length_map,hL.len]
 have hz:∀ x∈nZ (cC cs b.toNat),1<=x/\x<=20:=fun x hx=>by
  obtain⟨y,hy,rfl⟩:=List.mem_map.mp hx;have:=hL.dk y hy
  omega
 have hLn:n_ (nZ (cC cs b.toNat)):=⟨by omega,by omega,fun x hx=>by have:=hz x hx;omega⟩
 have hKS:KS (nZ (cC cs b.toNat))<=2 ^ 40:=by
  unfold KS nZ;rw[List.map_map,show (Int.toNat ∘ fun k:Nat=>(k:Int))=id from funext fun k=>Int.toNat_natCast k,List.map_id];exact hL.ks
 have hC:=canon hLn hKS;have hlow:∀ l:List Nat,l.length=cs.length->(∀ x∈l,1<=x/\x<=b.toNat)->Kr.ks 40 l<=2 ^ 40->dot cs (nZ (cC cs b.toNat))<=dot cs (nZ l):=hL.low;clear hL;generalize nZ (cC cs b.toNat)=ls at *;refine aY fun N hN=>?_;walk_at "rt";refine⟨ls,rfl,hLn,decide_eq_true hKS,?_⟩;walk_at "rt";refine hN _ ?_;clear hN N;generalize wordsOf Cw.je ls=W at *;have hF:=nh hLn hC;have hcl:=nz hLn hC;have hWl:W.length<=12:=by rw[hC.len];omega
 have hW20:∀ w∈W,w.length<=20:=fun w hw=>by
  have:(w.length:Int)∈ls:=by rw[<- hcl];exact List.mem_map_of_mem hw
  have:=hz _ this
  omega
 rw[D7];refine aY fun N hN=>?_;walk_at "rt";refine ba (fun rest acc μ=>∃ done todo:List (List Nat),done++todo=W/\rest=sT (todo.map wd)/\acc=nI (done.map fun w=>(w.length:Int))/\μ=[.pb sd,.tr (.tup (nI cs)),.tr (.int b),.tr (.int (cs.length:Int)),.tr (.tup (nI ls)),.tr (.tup (sT (W.map wd))),.un,.un,.un,.un,.un,.un,.un]) ⟨[],W,rfl,rfl,rfl,rfl⟩ ?_ ?_
 ·rintro acc μ ⟨done,todo,e1,e2,rfl,rfl⟩;have e3:todo=[]:=by
   cases todo with
   | nil=>rfl
   | cons=>cases e2
  subst e3;obtain rfl:W=done:=by rw[List.append_nil] at e1;exact e1.symm
  refine⟨trivial,?_⟩;rw[hcl];walk_at "rt";refine oV ?_;walk_at "rt";refine⟨_,ls,rfl,.inl rfl,hLn,?_⟩;have aS:nK ls=true:=decide_eq_true hKS;wp_walk using aS;refine⟨W.map wd,rfl,⟨by rw[List.length_map];omega,fun z hz=>by obtain⟨w,hw,rfl⟩:=List.mem_map.mp hz;rw[eB];have:=hW20 w hw;omega⟩,?_⟩
  have hfb:iq (W.map wd)=true:=decide_eq_true hF.1;wp_walk using hfb;rw[if_neg (by simp)]
  refine hN _ ?_;clear hN N;clear hfb aS;refine aY fun N hN=>?_;walk_at "rt";refine⟨by omega,by omega,?_⟩
  refine ba (fun rest acc μ=>∃ m:Nat,m<=ls.length/\(rest=(List.range' m (ls.length - m)).map fun k=>L2.T.int (0+(k:Nat)))/\acc=((List.range m).map fun t=>(ls.getD t 0,((t:Nat):Int))).map Y.mP/\μ=[.pb sd,.tr (.tup (nI cs)),.tr (.int b),.tr (.int (cs.length:Int)),.tr (.tup (nI ls)),.tr (.tup (sT (W.map wd))),.un,.un,.un,.un,.un,.un,.un]) ⟨0,Nat.zero_le _,by rw[Int.toNat_natCast,hzl,List.range_eq_range'];rfl,rfl,rfl⟩ ?_ ?_
  ·rintro acc μ ⟨m,hm,e2,rfl,rfl⟩;have em:m=ls.length:=by
    rcases Nat.lt_or_ge m ls.length with c | c
    ·rw[show ls.length - m=(ls.length - (m+1))+1 by omega,List.range'_succ] at e2;cases e2
    ·omega
   subst em;refine⟨trivial,?_⟩;walk_at "rt";refine⟨_,rfl,by rw[List.length_map,List.length_range];omega,fun out hp hup=>?_⟩
   walk_at "rt";refine hN _ ?_;clear hN N;obtain⟨hom,hdv⟩:=BI hC hp hup;have hol:out.length=cs.length:=by rw[hp.length_eq,List.length_map,List.length_range];exact hzl
   clear hp hup e2 e1 hm;refine aY fun N hN=>?_;walk_at "rt";refine ba (fun rest acc μ=>∃ done todo:List (Int×Int),done++todo=out/\rest=todo.map Y.mP/\acc=sT ((done.map fun p=>W.getD p.2.toNat []).map wd)/\μ=[.pb sd,.tr (.tup (nI cs)),.tr (.int b),.tr (.int (cs.length:Int)),.tr (.tup (nI ls)),.tr (.tup (sT (W.map wd))),.bx (.lst (out.map Y.mP)),.un,.un,.un,.un,.un,.un]) ⟨[],out,rfl,rfl,rfl,rfl⟩ ?_ ?_
   ·rintro acc μ ⟨done,todo,e1,e2,rfl,rfl⟩;have e3:todo=[]:=by
     cases todo with
     | nil=>rfl
     | cons=>cases e2
    subst e3;obtain rfl:out=done:=by rw[List.append_nil] at e1;exact e1.symm
    refine⟨rfl,?_⟩;walk_at "rt";refine hN _ ?_;clear hN N;have how:(out.map fun p=>W.getD p.2.toNat []).length=cs.length:=by rw[List.length_map];exact hol
    generalize (out.map fun p=>W.getD p.2.toNat [])=ow at hdv how;refine aY fun N hN=>?_;walk_at "rt";refine⟨by omega,by omega,?_⟩
    refine ba (fun rest acc μ=>∃ m:Nat,(rest=(List.range' m (cs.length - 1 - m)).map fun k=>L2.T.int (0+(k:Nat)))/\acc=[]/\μ=[.pb sd,.tr (.tup (nI cs)),.tr (.int b),.tr (.int (cs.length:Int)),.tr (.tup (nI ls)),.tr (.tup (sT (W.map wd))),.bx (.lst (out.map Y.mP)),.bx (.lst (sT (ow.map wd))),.un,.un,.un,.un,.un]) ⟨0,by rw[List.range_eq_range',show ((cs.length:Int) - 1).toNat=cs.length - 1 by omega];rfl,rfl,rfl⟩ ?_ ?_
    ·rintro acc μ ⟨m,_,rfl,rfl⟩;refine⟨trivial,?_⟩;walk_at "rt";refine⟨fun _=>true,fun j x y e=>by simp at e,?_⟩
     rw[show (if true=true then !gw ([]:List L2.T).length ([]:List L2.T).length (fun _=>true) else gw ([]:List L2.T).length ([]:List L2.T).length fun _=>true)=false from rfl]
     walk_at "rt";refine hN _ ?_;clear hN N;clear hdv how;generalize (out.map Y.mP)=od;generalize (sT (ow.map wd))=owd;refine aY fun N hN=>?_;walk_at "rt";refine hN _ ?_;clear hN N;refine aY fun N hN=>?_;walk_at "rt";refine⟨by omega,by omega,?_⟩
     rw[Int.toNat_natCast];refine cY (fun rest μ=>∃ (m:Nat) (o9:Option L2.T),m<=cs.length/\(rest=(List.range' m (cs.length - m)).map fun k=>L2.T.int (0+(k:Nat)))/\μ=[.pb sd,.tr (.tup (nI cs)),.tr (.int b),.tr (.int (cs.length:Int)),.tr (.tup (nI ls)),.tr (.tup (sT (W.map wd))),.bx (.lst od),.bx (.lst owd),.bx (.lst (nN (wU cs m))),sl o9,.un,.un,.un]) ⟨0,none,Nat.zero_le _,by rw[List.range_eq_range'];rfl,rfl⟩ ?_ ?_
     ·rintro μ ⟨m,o9,hm,e2,rfl⟩;have em:m=cs.length:=by
       rcases Nat.lt_or_ge m cs.length with c | c
       ·rw[show cs.length - m=(cs.length - (m+1))+1 by omega,List.range'_succ] at e2;cases e2
       ·omega
      subst em;show N _;refine hN _ ?_;clear hN N;have htl:=kD hc cs.length (Nat.le_refl _);refine aY fun N hN=>?_;wp_walk using cL;refine⟨by omega,by omega,?_⟩
      rw[Int.toNat_natCast];refine ba (fun rest acc μ=>∃ (fs js:List Nat) (s1:L2.T) (l:List Nat),acc=nN fs/\(rest=l.map fun k=>L2.T.int (0+(k:Nat)))/\l.length=js.length/\(fs++js).Perm (wU cs cs.length)/\dw s1/\μ=[.pb s1,.tr (.tup (nI cs)),.tr (.int b),.tr (.int (cs.length:Int)),.tr (.tup (nI ls)),.tr (.tup (sT (W.map wd))),.bx (.lst od),.bx (.lst owd),.bx (.lst (nN js)),sl o9,.un,.un,.un]) ⟨[],wU cs cs.length,sd,_,rfl,rfl,by simp,.refl _,hs,rfl⟩ ?_ ?_
      ·rintro acc μ ⟨fs,js,s1,l,rfl,e3,hll,hpm,hs1,rfl⟩;have hj0:js=[]:=by
        cases l with
        | cons=>cases e3
        | nil=>exact List.eq_nil_of_length_eq_zero hll.symm
       subst hj0;rw[List.append_nil] at hpm;have hfl:fs.length<=192:=by rw[hpm.length_eq];omega
       have hft:∀ t∈fs,t < cs.length:=fun t ht=>Bf (hpm.mem_iff.mp ht);refine⟨trivial,?_⟩;walk_at "rt";refine hN _ ?_;clear hN N;refine aY fun N hN=>?_;walk_at "rt";have h100:∀ z∈W.map wd,z.length<=100:=fun z hz=>by obtain⟨w,hw,rfl⟩:=List.mem_map.mp hz;rw[eB];have:=hW20 w hw;omega
       have hWc:(W.map wd).length=cs.length:=by rw[List.length_map,hC.len,hzl]
       refine⟨W.map wd,fs,rfl,fun t ht=>by rw[hWc];exact hft t ht,by omega,h100,by omega,?_⟩
       walk_at "rt";refine hN _ ?_;clear hN N;have hls:ls=nZ (W.map List.length):=by rw[<- hcl];unfold nZ;rw[List.map_map];rfl
       have hJ:(((J (W.map wd) fs).length:Nat):Int)=dot cs ls:=by
        rw[hls];refine vj hc hpm (by rw[List.length_map,hC.len,hzl]) fun t ht=>?_
        have h1:t < (W.map wd).length:=by rw[hWc];exact ht
        have h2:t < W.length:=by rw[List.length_map] at h1;exact h1
        rw[i5 h1,List.getElem_map,eB,getD_at (by rw[List.length_map];exact h2),List.getElem_map]
       have hJl:(J (W.map wd) fs).length<=19200:=by
        rw[sP];have:=Bh (m:=100) h100 (ts:=fs) (fun t ht=>by rw[hWc];exact hft t ht)
        omega
       refine aY fun N hN=>?_;walk_at "rt";refine⟨Nat.le_trans hJl (by decide),_,cs,ls,rfl,rfl,by omega,fun x hx=>by have:=hz x hx;omega,?_⟩
       walk_at "rt";rw[if_neg (by rw[hJ];simp)]
       refine⟨W.map wd,_,fs,rfl,hF,fun t ht=>by rw[hWc];exact hft t ht,by omega,by omega,by omega,h100,CH _ _,?_⟩
       walk_at "rt";refine wZ ?_;walk_at "rt";refine hN _ ?_;clear hN N;refine aY fun N hN=>?_;walk_at "rt";refine⟨s1,(cs.length:Int),rfl,hs1,by omega,by omega,fun ws s2 hs2 hw=>?_⟩
       walk_at "rt";refine hN _ ?_;clear hN N;refine aY fun N hN=>?_;by_cases c1:(ws.length:Int) < (cs.length:Int)
       ·wp_walk using bS,if_pos c1;exact q s2 hs2
       ·wp_walk using bS,if_neg c1,fJ ws (show (0:Int)<=(cs.length:Int) by omega),Int.toNat_natCast
        have h18:∀ z∈ws.take cs.length,z.length<=18:=fun z hz=>hw.2.2.1 z (List.mem_of_mem_take hz);have htk:(ws.take cs.length).length=cs.length:=by rw[List.length_take];omega
        refine ba (fun rest acc μ=>∃ done todo:List Str,done++todo=ws.take cs.length/\rest=sT todo/\acc=nI (done.map fun z=>((z.length:Nat):Int))/\μ=[.pb s2,.tr (.tup (nI cs)),.tr (.int b),.tr (.int (cs.length:Int)),.tr (.tup (nI ls)),.tr (.tup (sT (W.map wd))),.bx (.lst od),.bx (.lst owd),.bx (.lst (nN [])),sl o9,.bx (.lst (nN fs)),.tr (.str (J (W.map wd) fs)),.tr (.tup (sT ws))]) ⟨[],ws.take cs.length,rfl,rfl,rfl,rfl⟩ ?_ ?_
        ·rintro acc μ ⟨done,todo,e1,e2,rfl,rfl⟩;have e3:todo=[]:=by
          cases todo with
          | nil=>rfl
          | cons=>cases e2
         subst e3;rw[List.append_nil] at e1;refine⟨trivial,?_⟩;walk_at "rt";refine⟨_,rfl,by rw[List.length_map,e1,htk];omega,fun M hM hmax=>?_⟩
         by_cases c2:M > b
         ·wp_walk using if_pos c2;exact q s2 hs2
         ·wp_walk using if_neg c2;refine hN _ ?_;clear hN N;walk_at "rt";have h100':∀ z∈ws,z.length<=100:=fun z hz=>by have:=hw.2.2.1 z hz;omega
          refine⟨ws,fs,rfl,fun t ht=>by have:=hft t ht;omega,by have:=hw.2.1;omega,h100',by omega,?_⟩
          have hJl':(J ws fs).length<=19200:=by
           rw[sP];have:=Bh (m:=100) h100' (ts:=fs) (fun t ht=>by have:=hft t ht;omega)
           omega
          have hJo:(((J ws fs).length:Nat):Int)=dot cs (nZ ((ws.take cs.length).map Str.length)):=by
           refine vj hc hpm (by rw[List.length_map,htk]) fun t ht=>?_
           have h1:t < ws.length:=by omega
           rw[i5 h1,getD_at (by rw[List.length_map,htk];exact ht),List.getElem_map,List.getElem_take]
          have hle:dot cs ls<=dot cs (nZ ((ws.take cs.length).map Str.length)):=by
           refine hlow _ (by rw[List.length_map,htk]) (fun x hx=>?_) (oD _ hw.2.2.2.2)
           obtain⟨z,hz,rfl⟩:=List.mem_map.mp hx;have hp0:=hw.2.2.2.1.2 z (List.mem_of_mem_take hz);have hzM:=hmax ((z.length:Nat):Int) (by rw[e1];exact List.mem_map_of_mem hz)
           omega
          have hfin:(((J (W.map wd) fs).length:Nat):Int)<=(((J ws fs).length:Nat):Int):=by rw[hJ,hJo];exact hle
          wp_walk using decide_eq_true hfin;exact⟨Nat.le_trans hJl' (by decide),Nat.le_trans hJl (by decide),q s2 hs2⟩
        ·rintro t r acc μ M ⟨done,todo,e1,e2,rfl,rfl⟩ k
         cases todo with
         | nil=>cases e2
         | cons z todo =>
          cases e2;have hz2:=h18 z (by rw[<- e1];simp)
          refine⟨trivial,Nat.lt_of_le_of_lt (show _<=12 by rw[bK,List.length_map];have:=congrArg List.length e1;rw[List.length_append,htk] at this;omega) (by decide),?_⟩
          walk_at "rt";exact⟨Nat.le_trans hz2 (by decide),k _ _ ⟨done++[z],todo,by rw[List.append_assoc];exact e1,rfl,by rw[List.map_append];unfold nI;rw[List.map_append];rfl,rfl⟩⟩
      ·rintro t r acc μ M ⟨fs,js,s1,l,rfl,e3,hll,hpm,hs1,rfl⟩ k
       cases l with
       | nil=>cases e3
       | cons i l =>
        cases e3;have hjl:fs.length+js.length<=192:=by rw[<- List.length_append,hpm.length_eq];omega
        rw[List.length_cons] at hll;refine⟨trivial,Nat.lt_of_le_of_lt (show _<=192 by rw[cL];omega) (by decide),?_⟩
        wp_walk using cL;refine⟨s1,(js.length:Int),rfl,hs1,by omega,by omega,fun v s2 hs2 v0 v1=>?_⟩
        have hv:v.toNat < js.length:=by omega
        have hsx:seqIndex? v js.length=some v.toNat:=by
         unfold seqIndex?;simp only[if_neg (show ¬ v < 0 by omega)]
         rw[if_pos (by simp;omega)]
        wp_walk using cL,hsx;refine⟨by omega,by omega,v.toNat,L2.T.int ((js[v.toNat]:Nat):Int),rfl,by unfold nN;rw[List.getElem?_map,List.getElem?_eq_getElem hv];rfl,?_⟩
        refine k _ _ ⟨fs++[js[v.toNat]],js.eraseIdx v.toNat,s2,l,by rw[fN];rfl,rfl,by rw[List.length_eraseIdx_of_lt hv];omega,?_,hs2,?_⟩
        ·rw[List.append_assoc];exact ((List.Perm.append_left fs (lg hv)).trans hpm)
        ·unfold nN;simp only[List.eraseIdx_eq_take_drop_succ,List.map_append,List.map_take,List.map_drop]
     ·rintro t r μ M ⟨m,o9,hm,e2,rfl⟩ k;have hm':m < cs.length:=by
       rcases Nat.lt_or_ge m cs.length with c | c
       ·exact c
       ·rw[show cs.length - m=0 by omega] at e2;cases e2
      rw[show cs.length - m=(cs.length - (m+1))+1 by omega,List.range'_succ,List.map_cons] at e2
      cases e2;have h2:=hc (cs.getD m 0) (by rw[getD_at hm'];exact List.getElem_mem _)
      have h3:=kD hc m (by omega)
      have e0:(0+((m:Nat):Int))=((m:Nat):Int):=Int.zero_add _;have ea:bV (nI cs) ((m:Nat):Int)=some (.int (cs.getD m 0)):=bT (by unfold nI;rw[List.getElem?_map,List.getElem?_eq_getElem hm',getD_at hm'];rfl)
      wp_walk using e0,ea,Az;refine⟨by decide,by omega,by omega,Nat.le_trans (show 1*(cs.getD m 0).toNat<=16 by omega) (by decide),Nat.le_trans (show _<=400 by rw[cL,cL,List.length_replicate];omega) (by decide),?_⟩
      exact k _ ⟨m+1,some _,hm',rfl,by rw[iz,fN];rfl⟩
    ·rintro t r acc μ M ⟨m,e2,rfl,rfl⟩ k;have hm:m < cs.length - 1:=by
      rcases Nat.lt_or_ge m (cs.length - 1) with c | c
      ·exact c
      ·rw[show cs.length - 1 - m=0 by omega] at e2;cases e2
     rw[show cs.length - 1 - m=(cs.length - 1 - (m+1))+1 by omega,List.range'_succ,List.map_cons] at e2
     cases e2;refine⟨trivial,by decide,?_⟩
     have h0:m < ow.length:=by omega
     have h1:m+1 < ow.length:=by omega
     have ea:∀ i:Nat,∀ h:i < ow.length,bV (sT (ow.map wd)) ((i:Nat):Int)=some (.str (wd ow[i])):=fun i h=>bT (by unfold sT;rw[List.map_map,List.getElem?_map,List.getElem?_eq_getElem h];rfl)
     have hlt:(wd ow[m]).cps.toList < (wd ow[m+1]).cps.toList:=(List.pairwise_iff_getElem.mp hdv m (m+1) h0 h1 (by omega)).lt
     have e0:(0+((m:Nat):Int))=((m:Nat):Int):=Int.zero_add _;have e1:((m:Nat):Int)+1=((m+1:Nat):Int):=rfl;wp_walk using e0,ea m h0,e1,ea (m+1) h1,decide_eq_true hlt;exact k _ _ ⟨m+1,rfl,rfl,rfl⟩
   ·rintro t r acc μ M ⟨done,todo,e1,e2,rfl,rfl⟩ k
    cases todo with
    | nil=>cases e2
    | cons p todo =>
     cases e2;obtain⟨t,ht,rfl⟩:=hom p (by rw[<- e1];simp)
     have ht':t < W.length:=by rw[hC.len];exact ht
     refine⟨rfl,Nat.lt_of_le_of_lt (show _<=12 by rw[bS,List.length_map,List.length_map];have:=congrArg List.length e1;rw[List.length_append] at this;omega) (by decide),?_⟩
     have ea:bV (sT (W.map wd)) ((t:Nat):Int)=some (.str (wd (W.getD t []))):=bT (by unfold sT;rw[List.map_map,List.getElem?_map,List.getElem?_eq_getElem ht',getD_at ht'];rfl)
     rw[show Y.mP (ls.getD t 0,((t:Nat):Int))=L2.T.tup [.int (ls.getD t 0),.int ((t:Nat):Int)] from rfl];wp_walk using ea;refine k _ _ ⟨done++[(ls.getD t 0,((t:Nat):Int))],todo,by rw[List.append_assoc];exact e1,rfl,?_,rfl⟩
     rw[List.map_append,List.map_append,iQ];rfl
  ·rintro t r acc μ M ⟨m,hm,e2,rfl,rfl⟩ k;have hm':m < ls.length:=by
    rcases Nat.lt_or_ge m ls.length with c | c
    ·exact c
    ·rw[show ls.length - m=0 by omega] at e2;cases e2
   rw[show ls.length - m=(ls.length - (m+1))+1 by omega,List.range'_succ,List.map_cons] at e2
   cases e2;refine⟨trivial,Nat.lt_of_le_of_lt (show _<=12 by rw[List.length_map,List.length_map,List.length_range];omega) (by decide),?_⟩
   have ea:bV (nI ls) (0+((m:Nat):Int))=some (.int (ls.getD m 0)):=by
    rw[Int.zero_add];exact bT (by unfold nI;rw[List.getElem?_map,List.getElem?_eq_getElem hm',getD_at hm'];rfl)
   wp_walk using ea;refine⟨by decide,k _ _ ⟨m+1,hm',rfl,?_,rfl⟩⟩
   rw[List.range_succ,List.map_append,List.map_append,Int.zero_add];rfl
 ·rintro t r acc μ M ⟨done,todo,e1,e2,rfl,rfl⟩ k
  cases todo with
  | nil=>cases e2
  | cons w todo =>
   cases e2;have hw:w∈W:=by rw[<- e1];simp
   refine⟨trivial,Nat.lt_of_le_of_lt (show _<=12 by rw[bK,List.length_map];have:=congrArg List.length e1;rw[List.length_append] at this;omega) (by decide),?_⟩
   walk_at "rt";refine⟨Nat.le_trans (show (wd w).length<=20 by rw[eB];exact hW20 w hw) (by decide),?_⟩
   exact k _ _ ⟨done++[w],todo,by rw[List.append_assoc];exact e1,rfl,by rw[eB,List.map_append];unfold nI;rw[List.map_append];rfl,rfl⟩
theorem wu:∀ n:Nat,n < 13->n<=2 ^ (max 1 (Builtin.Int.intBits ((n:Int) - 1)))/\1<=max 1 (Builtin.Int.intBits ((n:Int) - 1))/\max 1 (Builtin.Int.intBits ((n:Int) - 1))<=10:=by decide +kernel
theorem BL{f:Addr}{fd:FuncData}(T:Txt K mg)(F:wV K "law" "law" dG f fd)(h_law_cells:ah P w K mg base cw 1 "_law_cells" ["script","many"] (spT K [false,false] vK))(h_law_seed:ah P w K mg base cw 1 "_law_seed" ["cell"] (spT K [false] zK))(h_law_draw:ah P w K mg base cw 1 "_law_draw" ["seed","most"] (spT K [true,false] mH))
  (h_law_counts:ah P w K mg base cw 2 "_law_counts" ["seed","many"] (spT K [true,false] qA)) (h_law_right:ah P w K mg base cw 7 "_law_right" ["seed","counts","bound"] (spT K [true,false,false] uI)) :
  dg P w K mg base cw 8 f fd ["script"] (ju K):=by
 refine Cb (xT F iy [false] rfl (by decide) (fun args Qt hl h cdv A outer s H E hr=>?_))
 have hu:=b_ hr;obtain⟨ns,rfl,hn,q⟩:=h;refine⟨_,(Y.ai (Y.iG PassesOwn.never rfl (Y.anyS K rfl (Y.fn K rfl h_law_cells (hr.mono (by decide)) rfl aU (Y.cons (Y.vS 0) (Y.cons Y.int Y.nil)))) (Y.aQ (i:=1) iy.nd rfl (by walk_at "lc")) (Y.ai (Y.set (i:=2) iy.nd rfl (by walk_at "lc") (Y.fn K rfl h_law_seed (hr.mono (by decide)) rfl aU (Y.cons (Y.vS 1) Y.nil)))
   (Y.ai (Y.set (i:=3) iy.nd rfl (by walk_at "lc") (Y.op (Y.aG K rfl) Y.aH Y.int (Y.fn K rfl h_law_draw (hr.mono (by decide)) rfl aU (Y.cons (Y.vS 2) (Y.cons Y.int Y.nil)))))
   (Y.ai (Y.set (i:=4) iy.nd rfl (by walk_at "lc") (Y.ct (Y.aZ K rfl) Y.bD rfl T.bU (by decide +kernel) (Y.cons (Y.fi (osc:=aa dG) (ON:=["script","cell","seed","many","counts"]) (own:=["count"]) (N:=["count","script","cell","seed","many","counts"]) ⟨rfl,by decide +kernel,rfl,by decide +kernel,by decide +kernel,by decide +kernel,by decide +kernel,by decide +kernel⟩ rfl rfl rfl rfl (Y.anyS K rfl (Y.fn K rfl h_law_counts (hr.mono (by decide)) rfl aU (Y.cons (Y.vS 2) (Y.cons (Y.vS 3) Y.nil)))) (fun _ _ _ _=>(Z.aQ (i:=0) (show List.Nodup (["count","script","cell","seed","many","counts"]:List Str) by decide +kernel) rfl (by walk_at "lc"))) (fun _ _ _ _=>Y.la) (fun _ _ _ _=>(Y.op eM Y.bt (Y.vS 0) Y.int))) Y.nil)))
   (Y.aX (Y.jc (Y.nH (Y.lu K rfl (Y.fn K rfl h_law_right (hr.mono (by decide)) rfl aU (Y.cons (Y.vS 2) (Y.cons (Y.vS 4) (Y.cons (Y.op (Y.aG K rfl) Y.aH (Y.cb (ee rfl) Y.kI rfl T.oP (by decide +kernel) (Y.cons Y.int (Y.cons (Y.bits (Y.op dZ Y.c_ (Y.vS 3) Y.int)) Y.nil))) (Y.fn K rfl h_law_draw (hr.mono (by decide)) rfl aU (Y.cons (Y.vS 2) (Y.cons Y.int Y.nil)))) Y.nil)))))) (Y.aX (Y.ret Y.bl)) Y.df))))))
   (Y.aX (Y.ret Y.bl))),?_⟩
 refine aY fun N hN=>?_;show Y.we _ _ _ _ (startM [false] [.d7 (nI ns)] _);walk_at "rt";refine⟨ns,5,rfl,by decide,fun ms=>?_⟩
 walk_at "rt";refine cY (fun rest μ=>∃ (ms:List Int) (s1 s3 s4:Option L2.T) (sd:Sl),rest=nI ms/\(sd=.un\/∃ c,sd=.bx c)/\μ=[.tr (.d7 (nI ns)),sl s1,sd,sl s3,sl s4]) ⟨ms,none,none,none,.un,rfl,.inl rfl,rfl⟩ ?_ ?_
 ·rintro μ ⟨ms,s1,s3,s4,sd,_,_,rfl⟩;show N _;refine hN _ ?_;clear hN N;walk_at "rt";exact q
 ·rintro t ts μ M ⟨ms,s1,s3,s4,sd,e,hsd,rfl⟩ k
  cases ms with
  | nil=>cases e
  | cons m ms =>
   cases e;clear hN q;have nsd:nb (some sd)=True:=by rcases hsd with rfl | ⟨c,rfl⟩<;>rfl
   walk_at "rt";refine aY fun M' hM=>?_;wp_walk using nsd;refine⟨m,rfl,fun sd1 hs1=>?_⟩;wp_walk using nsd;refine hM _ ?_;clear hM M';refine aY fun M' hM=>?_;walk_at "rt";refine⟨sd1,12,rfl,hs1,by decide,by decide,fun v sd2 hs2 v0 v1=>?_⟩
   obtain⟨n,hn,n1,n12⟩:∃ n:Nat,1+v=(n:Int)/\1<=n/\n<=12:=⟨(1+v).toNat,by omega,by omega,by omega⟩
   wp_walk using hn;refine hM _ ?_;clear hM M';clear hn v0 v1;refine aY fun M' hM=>?_;walk_at "rt";refine⟨sd2,n,rfl,hs2,by omega,by omega,fun cs sd3 hs3 hcl hc0=>?_⟩
   walk_at "rt";refine ba (fun rest acc μ=>∃ done todo:List Int,done++todo=cs/\rest=nI todo/\acc=nI (done.map fun c=>c % 17)/\μ=[.tr (.d7 (nI ns)),.tr (.int m),.bx sd3,.tr (.int (n:Int)),sl s4]) ⟨[],cs,rfl,rfl,rfl,rfl⟩ ?_ ?_
   ·rintro acc μ ⟨done,todo,e1,e2,rfl,rfl⟩;have e3:todo=[]:=by
     cases todo with
     | nil=>rfl
     | cons=>cases e2
    subst e3;rw[List.append_nil] at e1;refine⟨trivial,?_⟩;walk_at "rt";refine hM _ ?_;clear hM M';have hdl:(done.map fun c=>c % 17).length=n:=by rw[List.length_map,e1];exact hcl
    have hdc:∀ c∈done.map (fun c=>c % 17),0<=c/\c<=16:=fun c h=>by
     obtain⟨x,_,rfl⟩:=List.mem_map.mp h
     omega
    generalize (done.map fun c=>c % 17)=ds at hdl hdc;have hb:=wu n (by omega)
    have emx:(if ((Builtin.Int.intBits ((n:Int) - 1):Nat):Int) > 1 then ((Builtin.Int.intBits ((n:Int) - 1):Nat):Int) else 1)=((max 1 (Builtin.Int.intBits ((n:Int) - 1)):Nat):Int):=by split<;>omega
    wp_walk using emx;generalize max 1 (Builtin.Int.intBits ((n:Int) - 1))=mb at hb;refine⟨sd3,6,rfl,hs3,by decide,by decide,fun d sd4 hs4 d0 d1=>?_⟩
    walk_at "rt";refine⟨sd4,ds,(mb:Int)+d,rfl,hs4,by omega,by omega,hdc,by omega,by omega,?_,fun sd5 hs5=>?_⟩
    ·rw[hdl];exact Nat.le_trans hb.1 (Nat.pow_le_pow_right (by decide) (by omega))
    ·walk_at "rt";exact k _ ⟨ms,some _,some _,some _,_,rfl,.inr ⟨_,rfl⟩,rfl⟩
   ·rintro t r acc μ M2 ⟨done,todo,e1,e2,rfl,rfl⟩ k2
    cases todo with
    | nil=>cases e2
    | cons c todo =>
     cases e2;refine⟨trivial,Nat.lt_of_le_of_lt (show _<=12 by rw[bK,List.length_map];have:=congrArg List.length e1;rw[List.length_append] at this;omega) (by decide),?_⟩
     walk_at "rt";exact⟨by decide,k2 _ _ ⟨done++[c],todo,by rw[List.append_assoc];exact e1,rfl,by rw[List.map_append];unfold nI;rw[List.map_append];rfl,rfl⟩⟩
theorem Bo{f:Addr}{fd:FuncData}(T:Txt K mg)(f_can:HasFn K mg "can_be" bZ ["lengths"])(f_cost:HasFn K mg "cost_of" bG ["counts","lengths"])(f_least:HasFn K mg "least_lengths" au ["counts","bound"])(f_chosen:HasFn K mg "chosen_things" az ["counts","bound"])(f_worth:HasFn K mg "by_worth" b9 ["shelf"])(f_packs:HasFn K mg "packs_of" bp ["shelf"])
  (f_code:HasFn K mg "code_of" bH ["lengths"]) (f_behind:HasFn K mg "word_behind" aN ["ahead","length"]) (f_is:HasFn K mg "is_code" bE ["code"]) (f_wr:HasFn K mg "things_written" av ["code","things"]) (f_rd:HasFn K mg "things_read" aO ["code","bits"]) (f_th:HasFn K mg "thing_at" bA ["code","bits","place"])
  (f_seed:HasFn K mg "_law_seed" bj ["cell"]) (f_draw:HasFn K mg "_law_draw" bf ["seed","most"]) (f_cells:HasFn K mg "_law_cells" aT ["script","many"]) (f_counts:HasFn K mg "_law_counts" aD ["seed","many"]) (f_prefix:HasFn K mg "_law_prefix" aE ["seed","many"]) (f_right:HasFn K mg "_law_right" ar ["seed","counts","bound"]) (F:wV K "law" "law" dG f fd):dg P w K mg base cw 8 f fd ["script"] (ju K):=by
 obtain⟨C_NoCode,hC_NoCode,kC_NoCode⟩:=T.xs;have dr:=yL (P:=P) (w:=w) (base:=base) T f_draw;have cb:=BW (P:=P) (w:=w) (base:=base) T f_can;have le:=va (P:=P) (w:=w) (base:=base) T f_least cb (sv T f_chosen (wx T f_worth) (uM T f_packs)) hC_NoCode kC_NoCode;have co:=xO (P:=P) (w:=w) (base:=base) T f_code cb (rf T f_behind) hC_NoCode kC_NoCode;exact BL T F (vW T f_cells) (xI T f_seed) dr (rG T f_counts dr) (sW T f_right (le.calm AY) (co.calm codeN) cb (CK T f_is) dr (ng T f_wr) (xa T f_rd (v9 T f_th)) (xX T f_cost) (qJ T f_prefix dr))
theorem all_mk{l:PySem.W.OpenLaw}{w:World}{K:PySem.W.Frag}{h:Heap}{mg:Str->Option Value}{fa:Addr}(X:K.In h)(G:h.Ns mainGlobals mg)(hfa:mg "law"=some (.ref fa))
  {f0 f1 f2 f3 f4 f5 f6 f7 f8 f9 f10 f11 f12 f13 f14 f15 f16 f17 f18:Addr} {od0 an0 od1 an1 od2 an2 od3 an3 od4 an4 od5 an5 od6 an6 od7 an7 od8 an8 od9 an9 od10 an10 od11 an11 od12 an12 od13 an13 od14 an14 od15 an15 od16 an16 od17 an17 od18 an18:Option Addr} {sl0 sl1 sl2 sl3 sl4 sl5 sl6 sl7 sl8 sl9 sl10 sl11 sl12 sl13 sl14 sl15 sl16 sl17 sl18:Array (Option Value)} {oc0 kV0 dc0 pm0 cd0 ct0 oc1 kV1 dc1 pm1 cd1 ct1 oc2 kV2 dc2 pm2 cd2 ct2 oc3 kV3 dc3 pm3 cd3 ct3 oc4 kV4 dc4 pm4 cd4 ct4 oc5 kV5 dc5 pm5 cd5 ct5 oc6 kV6 dc6 pm6 cd6 ct6 oc7 kV7 dc7 pm7 cd7 ct7 oc8 kV8 dc8 pm8 cd8 ct8 oc9 kV9 dc9 pm9 cd9 ct9 oc10 kV10 dc10 pm10 cd10 ct10 oc11 kV11 dc11 pm11 cd11 ct11 oc12 kV12 dc12 pm12 cd12 ct12 oc13 kV13 dc13 pm13 cd13 ct13 oc14 kV14 dc14 pm14 cd14 ct14 oc15 kV15 dc15 pm15 cd15 ct15 oc16 kV16 dc16 pm16 cd16 ct16 oc17 kV17 dc17 pm17 cd17 ct17 oc18 kV18 dc18 pm18 cd18 ct18:Value}
  {xd_NoCode:Addr}
  {lc_by_worth lp_by_worth:Addr} {lO_by_worth:Value} {lD_by_worth:Option Addr} {lv_by_worth:Array Value} {lS_by_worth:Array (Option Value)}
  {lc_code_of lp_code_of:Addr} {lO_code_of:Value} {lD_code_of:Option Addr} {lv_code_of:Array Value} {lS_code_of:Array (Option Value)}
  (a0:PySem.W.nsIn K mainGlobals "can_be"=some (some (.ref f0))) (l0:K.lookup f0=some ⟨oc0,od0,.func (PySem.W.fnOf "can_be" "can_be" (aC bZ) (ao bZ) (aa bZ) .none kV0 dc0 pm0 an0 cd0 ct0),sl0⟩) (c0:PySem.W.codeIn K cd0 "can_be"=true) (k0:PySem.W.keepIn K (.ref f0)=true)
  (a1:PySem.W.nsIn K mainGlobals "cost_of"=some (some (.ref f1))) (l1:K.lookup f1=some ⟨oc1,od1,.func (PySem.W.fnOf "cost_of" "cost_of" (aC bG) (ao bG) (aa bG) .none kV1 dc1 pm1 an1 cd1 ct1),sl1⟩) (c1:PySem.W.codeIn K cd1 "cost_of"=true) (k1:PySem.W.keepIn K (.ref f1)=true)
  (a2:PySem.W.nsIn K mainGlobals "least_lengths"=some (some (.ref f2))) (l2:K.lookup f2=some ⟨oc2,od2,.func (PySem.W.fnOf "least_lengths" "least_lengths" (aC au) (ao au) (aa au) .none kV2 dc2 pm2 an2 cd2 ct2),sl2⟩) (c2:PySem.W.codeIn K cd2 "least_lengths"=true) (k2:PySem.W.keepIn K (.ref f2)=true)
  (a3:PySem.W.nsIn K mainGlobals "chosen_things"=some (some (.ref f3))) (l3:K.lookup f3=some ⟨oc3,od3,.func (PySem.W.fnOf "chosen_things" "chosen_things" (aC az) (ao az) (aa az) .none kV3 dc3 pm3 an3 cd3 ct3),sl3⟩) (c3:PySem.W.codeIn K cd3 "chosen_things"=true) (k3:PySem.W.keepIn K (.ref f3)=true)
  (a4:PySem.W.nsIn K mainGlobals "by_worth"=some (some (.ref f4))) (l4:K.lookup f4=some ⟨oc4,od4,.func (PySem.W.fnOf "by_worth" "by_worth" (aC b9) (ao b9) (aa b9) .none kV4 dc4 pm4 an4 cd4 ct4),sl4⟩) (c4:PySem.W.codeIn K cd4 "by_worth"=true) (k4:PySem.W.keepIn K (.ref f4)=true)
  (a5:PySem.W.nsIn K mainGlobals "packs_of"=some (some (.ref f5))) (l5:K.lookup f5=some ⟨oc5,od5,.func (PySem.W.fnOf "packs_of" "packs_of" (aC bp) (ao bp) (aa bp) .none kV5 dc5 pm5 an5 cd5 ct5),sl5⟩) (c5:PySem.W.codeIn K cd5 "packs_of"=true) (k5:PySem.W.keepIn K (.ref f5)=true)
  (a6:PySem.W.nsIn K mainGlobals "code_of"=some (some (.ref f6))) (l6:K.lookup f6=some ⟨oc6,od6,.func (PySem.W.fnOf "code_of" "code_of" (aC bH) (ao bH) (aa bH) .none kV6 dc6 pm6 an6 cd6 ct6),sl6⟩) (c6:PySem.W.codeIn K cd6 "code_of"=true) (k6:PySem.W.keepIn K (.ref f6)=true)
  (a7:PySem.W.nsIn K mainGlobals "word_behind"=some (some (.ref f7))) (l7:K.lookup f7=some ⟨oc7,od7,.func (PySem.W.fnOf "word_behind" "word_behind" (aC aN) (ao aN) (aa aN) .none kV7 dc7 pm7 an7 cd7 ct7),sl7⟩) (c7:PySem.W.codeIn K cd7 "word_behind"=true) (k7:PySem.W.keepIn K (.ref f7)=true)
  (a8:PySem.W.nsIn K mainGlobals "is_code"=some (some (.ref f8))) (l8:K.lookup f8=some ⟨oc8,od8,.func (PySem.W.fnOf "is_code" "is_code" (aC bE) (ao bE) (aa bE) .none kV8 dc8 pm8 an8 cd8 ct8),sl8⟩) (c8:PySem.W.codeIn K cd8 "is_code"=true) (k8:PySem.W.keepIn K (.ref f8)=true)
  (a9:PySem.W.nsIn K mainGlobals "things_written"=some (some (.ref f9))) (l9:K.lookup f9=some ⟨oc9,od9,.func (PySem.W.fnOf "things_written" "things_written" (aC av) (ao av) (aa av) .none kV9 dc9 pm9 an9 cd9 ct9),sl9⟩) (c9:PySem.W.codeIn K cd9 "things_written"=true) (k9:PySem.W.keepIn K (.ref f9)=true)
  (a10:PySem.W.nsIn K mainGlobals "things_read"=some (some (.ref f10))) (l10:K.lookup f10=some ⟨oc10,od10,.func (PySem.W.fnOf "things_read" "things_read" (aC aO) (ao aO) (aa aO) .none kV10 dc10 pm10 an10 cd10 ct10),sl10⟩) (c10:PySem.W.codeIn K cd10 "things_read"=true) (k10:PySem.W.keepIn K (.ref f10)=true)
  (a11:PySem.W.nsIn K mainGlobals "thing_at"=some (some (.ref f11))) (l11:K.lookup f11=some ⟨oc11,od11,.func (PySem.W.fnOf "thing_at" "thing_at" (aC bA) (ao bA) (aa bA) .none kV11 dc11 pm11 an11 cd11 ct11),sl11⟩) (c11:PySem.W.codeIn K cd11 "thing_at"=true) (k11:PySem.W.keepIn K (.ref f11)=true)
  (a12:PySem.W.nsIn K mainGlobals "_law_seed"=some (some (.ref f12))) (l12:K.lookup f12=some ⟨oc12,od12,.func (PySem.W.fnOf "_law_seed" "_law_seed" (aC bj) (ao bj) (aa bj) .none kV12 dc12 pm12 an12 cd12 ct12),sl12⟩) (c12:PySem.W.codeIn K cd12 "_law_seed"=true) (k12:PySem.W.keepIn K (.ref f12)=true)
  (a13:PySem.W.nsIn K mainGlobals "_law_draw"=some (some (.ref f13))) (l13:K.lookup f13=some ⟨oc13,od13,.func (PySem.W.fnOf "_law_draw" "_law_draw" (aC bf) (ao bf) (aa bf) .none kV13 dc13 pm13 an13 cd13 ct13),sl13⟩) (c13:PySem.W.codeIn K cd13 "_law_draw"=true) (k13:PySem.W.keepIn K (.ref f13)=true)
  (a14:PySem.W.nsIn K mainGlobals "_law_cells"=some (some (.ref f14))) (l14:K.lookup f14=some ⟨oc14,od14,.func (PySem.W.fnOf "_law_cells" "_law_cells" (aC aT) (ao aT) (aa aT) .none kV14 dc14 pm14 an14 cd14 ct14),sl14⟩) (c14:PySem.W.codeIn K cd14 "_law_cells"=true) (k14:PySem.W.keepIn K (.ref f14)=true)
  (a15:PySem.W.nsIn K mainGlobals "_law_counts"=some (some (.ref f15))) (l15:K.lookup f15=some ⟨oc15,od15,.func (PySem.W.fnOf "_law_counts" "_law_counts" (aC aD) (ao aD) (aa aD) .none kV15 dc15 pm15 an15 cd15 ct15),sl15⟩) (c15:PySem.W.codeIn K cd15 "_law_counts"=true) (k15:PySem.W.keepIn K (.ref f15)=true)
  (a16:PySem.W.nsIn K mainGlobals "_law_prefix"=some (some (.ref f16))) (l16:K.lookup f16=some ⟨oc16,od16,.func (PySem.W.fnOf "_law_prefix" "_law_prefix" (aC aE) (ao aE) (aa aE) .none kV16 dc16 pm16 an16 cd16 ct16),sl16⟩) (c16:PySem.W.codeIn K cd16 "_law_prefix"=true) (k16:PySem.W.keepIn K (.ref f16)=true)
  (a17:PySem.W.nsIn K mainGlobals "_law_right"=some (some (.ref f17))) (l17:K.lookup f17=some ⟨oc17,od17,.func (PySem.W.fnOf "_law_right" "_law_right" (aC ar) (ao ar) (aa ar) .none kV17 dc17 pm17 an17 cd17 ct17),sl17⟩) (c17:PySem.W.codeIn K cd17 "_law_right"=true) (k17:PySem.W.keepIn K (.ref f17)=true)
  (a18:PySem.W.nsIn K mainGlobals "law"=some (some (.ref f18))) (l18:K.lookup f18=some ⟨oc18,od18,.func (PySem.W.fnOf "law" "law" (aC dG) (ao dG) (aa dG) .none kV18 dc18 pm18 an18 cd18 ct18),sl18⟩) (c18:PySem.W.codeIn K cd18 "law"=true) (k18:PySem.W.keepIn K (.ref f18)=true)
  (z0:PySem.W.nsIn K mainGlobals "any"=some none)
  (z1:PySem.W.nsIn K mainGlobals "bool"=some none)
  (z2:PySem.W.nsIn K mainGlobals "enumerate"=some none)
  (z3:PySem.W.nsIn K mainGlobals "int"=some none)
  (z4:PySem.W.nsIn K mainGlobals "isinstance"=some none)
  (z5:PySem.W.nsIn K mainGlobals "len"=some none)
  (z6:PySem.W.nsIn K mainGlobals "list"=some none)
  (z7:PySem.W.nsIn K mainGlobals "max"=some none)
  (z8:PySem.W.nsIn K mainGlobals "min"=some none)
  (z9:PySem.W.nsIn K mainGlobals "range"=some none)
  (z10:PySem.W.nsIn K mainGlobals "sorted"=some none)
  (z11:PySem.W.nsIn K mainGlobals "sum"=some none)
  (z12:PySem.W.nsIn K mainGlobals "tuple"=some none)
  (z13:PySem.W.nsIn K mainGlobals "zip"=some none)
  (xf0:PySem.W.nsIn K mainGlobals "NoCode"=some (some (.ref xd_NoCode)))
  (xf1:PySem.W.excIn K xd_NoCode [.type "ValueError",.type "Exception",.type "BaseException",.type "object"] "ValueError.__new__"=true)
  (le_by_worth:cd4=.ref lc_by_worth) (lk_by_worth:K.lookup lc_by_worth=some ⟨lO_by_worth,lD_by_worth,.fields lv_by_worth,lS_by_worth⟩) (lw_by_worth:lv_by_worth[11]?=some (.ref lp_by_worth))
  (le_code_of:cd6=.ref lc_code_of) (lk_code_of:K.lookup lc_code_of=some ⟨lO_code_of,lD_code_of,.fields lv_code_of,lS_code_of⟩) (lw_code_of:lv_code_of[11]?=some (.ref lp_code_of))
  : ∃ fd:FuncData,(∀ (s:Shared) (v:Value),BindsTo s fd ⟨[v],[]⟩ [("script",v)])/\∀ base:Heap,K.In base->base.Ns mainGlobals mg->dg l.prog w K mg base cw 30 fa fd ["script"] (ju K):=by
 have e:=hfa.symm.trans (PySem.W.mg_of X G a18);cases e;have T:Txt K mg:=⟨PySem.W.mg_none_of X G z0,PySem.W.mg_none_of X G z1,PySem.W.mg_none_of X G z2,PySem.W.mg_none_of X G z3,PySem.W.mg_none_of X G z4,PySem.W.mg_none_of X G z5,PySem.W.mg_none_of X G z6,PySem.W.mg_none_of X G z7,PySem.W.mg_none_of X G z8,PySem.W.mg_none_of X G z9,PySem.W.mg_none_of X G z10,PySem.W.mg_none_of X G z11,PySem.W.mg_none_of X G z12,PySem.W.mg_none_of X G z13,⟨_,PySem.W.mg_of X G xf0,⟨xf1⟩⟩,jG.mk' X G (fm a4 l4 le_by_worth lk_by_worth lw_by_worth),jG.mk' X G (fm a6 l6 le_code_of lk_code_of lw_code_of)⟩;have F0:HasFn K mg "can_be" bZ ["lengths"]:=⟨f0,_,aw (st:=bZ) l0 c0 k0,(aw (st:=bZ) l0 c0 k0).binds (ps:=["lengths"]) (fun _ _ _ _ _ _ us hl=>by obtain⟨_,rfl⟩:=Y.jZ hl;rfl),PySem.W.mg_of X G a0⟩
 have F1:HasFn K mg "cost_of" bG ["counts","lengths"]:=⟨f1,_,aw (st:=bG) l1 c1 k1,(aw (st:=bG) l1 c1 k1).binds (ps:=["counts","lengths"]) (fun _ _ _ _ _ _ us hl=>by obtain⟨_,_,rfl⟩:=Y.fR hl;rfl),PySem.W.mg_of X G a1⟩
 have F2:HasFn K mg "least_lengths" au ["counts","bound"]:=⟨f2,_,aw (st:=au) l2 c2 k2,(aw (st:=au) l2 c2 k2).binds (ps:=["counts","bound"]) (fun _ _ _ _ _ _ us hl=>by obtain⟨_,_,rfl⟩:=Y.fR hl;rfl),PySem.W.mg_of X G a2⟩
 have F3:HasFn K mg "chosen_things" az ["counts","bound"]:=⟨f3,_,aw (st:=az) l3 c3 k3,(aw (st:=az) l3 c3 k3).binds (ps:=["counts","bound"]) (fun _ _ _ _ _ _ us hl=>by obtain⟨_,_,rfl⟩:=Y.fR hl;rfl),PySem.W.mg_of X G a3⟩
 have F4:HasFn K mg "by_worth" b9 ["shelf"]:=⟨f4,_,aw (st:=b9) l4 c4 k4,(aw (st:=b9) l4 c4 k4).binds (ps:=["shelf"]) (fun _ _ _ _ _ _ us hl=>by obtain⟨_,rfl⟩:=Y.jZ hl;rfl),PySem.W.mg_of X G a4⟩
 have F5:HasFn K mg "packs_of" bp ["shelf"]:=⟨f5,_,aw (st:=bp) l5 c5 k5,(aw (st:=bp) l5 c5 k5).binds (ps:=["shelf"]) (fun _ _ _ _ _ _ us hl=>by obtain⟨_,rfl⟩:=Y.jZ hl;rfl),PySem.W.mg_of X G a5⟩
 have F6:HasFn K mg "code_of" bH ["lengths"]:=⟨f6,_,aw (st:=bH) l6 c6 k6,(aw (st:=bH) l6 c6 k6).binds (ps:=["lengths"]) (fun _ _ _ _ _ _ us hl=>by obtain⟨_,rfl⟩:=Y.jZ hl;rfl),PySem.W.mg_of X G a6⟩
 have F7:HasFn K mg "word_behind" aN ["ahead","length"]:=⟨f7,_,aw (st:=aN) l7 c7 k7,(aw (st:=aN) l7 c7 k7).binds (ps:=["ahead","length"]) (fun _ _ _ _ _ _ us hl=>by obtain⟨_,_,rfl⟩:=Y.fR hl;rfl),PySem.W.mg_of X G a7⟩
 have F8:HasFn K mg "is_code" bE ["code"]:=⟨f8,_,aw (st:=bE) l8 c8 k8,(aw (st:=bE) l8 c8 k8).binds (ps:=["code"]) (fun _ _ _ _ _ _ us hl=>by obtain⟨_,rfl⟩:=Y.jZ hl;rfl),PySem.W.mg_of X G a8⟩
 have F9:HasFn K mg "things_written" av ["code","things"]:=⟨f9,_,aw (st:=av) l9 c9 k9,(aw (st:=av) l9 c9 k9).binds (ps:=["code","things"]) (fun _ _ _ _ _ _ us hl=>by obtain⟨_,_,rfl⟩:=Y.fR hl;rfl),PySem.W.mg_of X G a9⟩
 have F10:HasFn K mg "things_read" aO ["code","bits"]:=⟨f10,_,aw (st:=aO) l10 c10 k10,(aw (st:=aO) l10 c10 k10).binds (ps:=["code","bits"]) (fun _ _ _ _ _ _ us hl=>by obtain⟨_,_,rfl⟩:=Y.fR hl;rfl),PySem.W.mg_of X G a10⟩
 have F11:HasFn K mg "thing_at" bA ["code","bits","place"]:=⟨f11,_,aw (st:=bA) l11 c11 k11,(aw (st:=bA) l11 c11 k11).binds (ps:=["code","bits","place"]) (fun _ _ _ _ _ _ us hl=>by obtain⟨_,_,_,rfl⟩:=Y.Du hl;rfl),PySem.W.mg_of X G a11⟩
 have F12:HasFn K mg "_law_seed" bj ["cell"]:=⟨f12,_,aw (st:=bj) l12 c12 k12,(aw (st:=bj) l12 c12 k12).binds (ps:=["cell"]) (fun _ _ _ _ _ _ us hl=>by obtain⟨_,rfl⟩:=Y.jZ hl;rfl),PySem.W.mg_of X G a12⟩
 have F13:HasFn K mg "_law_draw" bf ["seed","most"]:=⟨f13,_,aw (st:=bf) l13 c13 k13,(aw (st:=bf) l13 c13 k13).binds (ps:=["seed","most"]) (fun _ _ _ _ _ _ us hl=>by obtain⟨_,_,rfl⟩:=Y.fR hl;rfl),PySem.W.mg_of X G a13⟩
 have F14:HasFn K mg "_law_cells" aT ["script","many"]:=⟨f14,_,aw (st:=aT) l14 c14 k14,(aw (st:=aT) l14 c14 k14).binds (ps:=["script","many"]) (fun _ _ _ _ _ _ us hl=>by obtain⟨_,_,rfl⟩:=Y.fR hl;rfl),PySem.W.mg_of X G a14⟩
 have F15:HasFn K mg "_law_counts" aD ["seed","many"]:=⟨f15,_,aw (st:=aD) l15 c15 k15,(aw (st:=aD) l15 c15 k15).binds (ps:=["seed","many"]) (fun _ _ _ _ _ _ us hl=>by obtain⟨_,_,rfl⟩:=Y.fR hl;rfl),PySem.W.mg_of X G a15⟩
 have F16:HasFn K mg "_law_prefix" aE ["seed","many"]:=⟨f16,_,aw (st:=aE) l16 c16 k16,(aw (st:=aE) l16 c16 k16).binds (ps:=["seed","many"]) (fun _ _ _ _ _ _ us hl=>by obtain⟨_,_,rfl⟩:=Y.fR hl;rfl),PySem.W.mg_of X G a16⟩
 have F17:HasFn K mg "_law_right" ar ["seed","counts","bound"]:=⟨f17,_,aw (st:=ar) l17 c17 k17,(aw (st:=ar) l17 c17 k17).binds (ps:=["seed","counts","bound"]) (fun _ _ _ _ _ _ us hl=>by obtain⟨_,_,_,rfl⟩:=Y.Du hl;rfl),PySem.W.mg_of X G a17⟩
 exact⟨PySem.W.fnOf "law" "law" (aC dG) (ao dG) (aa dG) .none kV18 dc18 pm18 an18 cd18 ct18,fun s v=>.of_eq rfl,fun base _ _=>(Bo T F0 F1 F2 F3 F4 F5 F6 F7 F8 F9 F10 F11 F12 F13 F14 F15 F16 F17 (aw (st:=dG) l18 c18 k18)).mono (by decide)⟩
theorem walk{l:PySem.W.OpenLaw}{q:Program}{loose:List Str}{XP:(Str->Option Value)->Heap->Prop}{YP:World->Heap->Prop}{d:DefRec}{K:Params->PySem.W.Frag}(hn:l.most=some 63)(hdf:d.params.defaults=[])
  (hY:∀ (w:World) (h:Heap),YP w h->(K w.params).In h)
  (F:∀ (w:World) (mg:Str->Option Value) (fa:Addr) (h:Heap),(K w.params).In h->h.Ns mainGlobals mg->mg d.name=some (.ref fa)->∃ fd:FuncData,(∀ (s:Shared) (u:Value),BindsTo s fd ⟨[u],[]⟩ [("script",u)])/\∀ base:Heap,(K w.params).In base->base.Ns mainGlobals mg->dg l.prog w (K w.params) mg base cw 30 fa fd ["script"] (ju (K w.params))) (hL:∀ (w:World) (h:Heap),(K w.params).In h->eZ q (K w.params)) :
  PySem.W.WalkO q loose XP YP l.row.toRowW d [] (fun f vs=>PySem.call f vs):=
 L2.y1 (n:=63) (k:=30) (x:="script") (CX:=fun _=>cw) (sp:=fun w=>ju (K w.params)) hn (by decide) hdf ⟨rfl,by decide,by decide,rfl⟩ hY F (fun _ _ a ns hl _ hS=>⟨a,ns,rfl,hS,hl,fun _=>rfl⟩) (fun _ _ _ _ _ z=>z) hL
theorem Ac{q:Program}{K:PySem.W.Frag}{h:Heap}(_:K.In h){la_by_worth lc_by_worth lp_by_worth:Addr}{lo_by_worth lO_by_worth:Value}{ld_by_worth lD_by_worth:Option Addr}{lfd_by_worth:FuncData}{lv_by_worth:Array Value}{ls_by_worth lS_by_worth:Array (Option Value)}{la_code_of lc_code_of lp_code_of:Addr}{lo_code_of lO_code_of:Value}{ld_code_of lD_code_of:Option Addr}{lfd_code_of:FuncData}{lv_code_of:Array Value}{ls_code_of lS_code_of:Array (Option Value)}(nt:PySem.W.noTabs K=true)
  (ma_by_worth:PySem.W.nsIn K mainGlobals "by_worth"=some (some (.ref la_by_worth))) (ml_by_worth:K.lookup la_by_worth=some ⟨lo_by_worth,ld_by_worth,.func lfd_by_worth,ls_by_worth⟩) (mc_by_worth:lfd_by_worth.code=.ref lc_by_worth) (mk_by_worth:K.lookup lc_by_worth=some ⟨lO_by_worth,lD_by_worth,.fields lv_by_worth,lS_by_worth⟩) (mw_by_worth:lv_by_worth[11]?=some (.ref lp_by_worth)) (mr_by_worth:((recsOf q).find? (fun e=>e.name ==("by_worth":Str))).isSome=true)
  (ma_by_weight:PySem.W.nsIn K mainGlobals "by_weight"=some none)
  (ma_code_of:PySem.W.nsIn K mainGlobals "code_of"=some (some (.ref la_code_of))) (ml_code_of:K.lookup la_code_of=some ⟨lo_code_of,ld_code_of,.func lfd_code_of,ls_code_of⟩) (mc_code_of:lfd_code_of.code=.ref lc_code_of) (mk_code_of:K.lookup lc_code_of=some ⟨lO_code_of,lD_code_of,.fields lv_code_of,lS_code_of⟩) (mw_code_of:lv_code_of[11]?=some (.ref lp_code_of)) (mr_code_of:((recsOf q).find? (fun e=>e.name ==("code_of":Str))).isSome=true)
  (mn:[lp_by_worth,lp_code_of].Nodup)
  : eZ q K:=eZ.of nt (fm ma_by_worth ml_by_worth mc_by_worth mk_by_worth mw_by_worth) (oo ma_by_weight) (fm ma_code_of ml_code_of mc_code_of mk_code_of mw_code_of) (by first | exact mn | simp) (.inr mr_by_worth) (.inl rfl) (.inr mr_code_of)
end
end G
open PySem PySem.W PyProof.Rows
set_option maxRecDepth 100000 in
set_option maxHeartbeats 0 in
theorem PySem.Challenge.cw_shortrows_k20_whole_codes_holds : PySem.Challenge.rw_shortrows_k20_whole_codes.Holds := by
 w_on;o_law;k_head;(case hw=>w_witness2)
 k_fill
 refine G.walk (l:=PySem.Challenge.rw_shortrows_k20_whole_codes) rfl rfl (fun w h Y=>by first | exact PySem.W.kIn_of Y | exact PySem.W.km_in_of Y) ?F ?L
 case F =>
  intro w mg fa h KX GN hmg
  refine' G.all_mk KX GN hmg ?a0 ?l0 ?c0 ?k0 ?a1 ?l1 ?c1 ?k1 ?a2 ?l2 ?c2 ?k2 ?a3 ?l3 ?c3 ?k3 ?a4 ?l4 ?c4 ?k4 ?a5 ?l5 ?c5 ?k5 ?a6 ?l6 ?c6 ?k6 ?a7 ?l7 ?c7 ?k7 ?a8 ?l8 ?c8 ?k8 ?a9 ?l9 ?c9 ?k9 ?a10 ?l10 ?c10 ?k10 ?a11 ?l11 ?c11 ?k11 ?a12 ?l12 ?c12 ?k12 ?a13 ?l13 ?c13 ?k13 ?a14 ?l14 ?c14 ?k14 ?a15 ?l15 ?c15 ?k15 ?a16 ?l16 ?c16 ?k16 ?a17 ?l17 ?c17 ?k17 ?a18 ?l18 ?c18 ?k18 ?z0 ?z1 ?z2 ?z3 ?z4 ?z5 ?z6 ?z7 ?z8 ?z9 ?z10 ?z11 ?z12 ?z13 ?xf0 ?xf1 ?le_by_worth ?lk_by_worth ?lw_by_worth ?le_code_of ?lk_code_of ?lw_code_of
  (case a0=>k_is)
  (case l0=>k_is)
  (case c0=>k_is)
  (case k0=>k_is)
  (case a1=>k_is)
  (case l1=>k_is)
  (case c1=>k_is)
  (case k1=>k_is)
  (case a2=>k_is)
  (case l2=>k_is)
  (case c2=>k_is)
  (case k2=>k_is)
  (case a3=>k_is)
  (case l3=>k_is)
  (case c3=>k_is)
  (case k3=>k_is)
  (case a4=>k_is)
  (case l4=>k_is)
  (case c4=>k_is)
  (case k4=>k_is)
  (case a5=>k_is)
  (case l5=>k_is)
  (case c5=>k_is)
  (case k5=>k_is)
  (case a6=>k_is)
  (case l6=>k_is)
  (case c6=>k_is)
  (case k6=>k_is)
  (case a7=>k_is)
  (case l7=>k_is)
  (case c7=>k_is)
  (case k7=>k_is)
  (case a8=>k_is)
  (case l8=>k_is)
  (case c8=>k_is)
  (case k8=>k_is)
  (case a9=>k_is)
  (case l9=>k_is)
  (case c9=>k_is)
  (case k9=>k_is)
  (case a10=>k_is)
  (case l10=>k_is)
  (case c10=>k_is)
  (case k10=>k_is)
  (case a11=>k_is)
  (case l11=>k_is)
  (case c11=>k_is)
  (case k11=>k_is)
  (case a12=>k_is)
  (case l12=>k_is)
  (case c12=>k_is)
  (case k12=>k_is)
  (case a13=>k_is)
  (case l13=>k_is)
  (case c13=>k_is)
  (case k13=>k_is)
  (case a14=>k_is)
  (case l14=>k_is)
  (case c14=>k_is)
  (case k14=>k_is)
  (case a15=>k_is)
  (case l15=>k_is)
  (case c15=>k_is)
  (case k15=>k_is)
  (case a16=>k_is)
  (case l16=>k_is)
  (case c16=>k_is)
  (case k16=>k_is)
  (case a17=>k_is)
  (case l17=>k_is)
  (case c17=>k_is)
  (case k17=>k_is)
  (case a18=>k_is)
  (case l18=>k_is)
  (case c18=>k_is)
  (case k18=>k_is)
  (case z0=>k_is)
  (case z1=>k_is)
  (case z2=>k_is)
  (case z3=>k_is)
  (case z4=>k_is)
  (case z5=>k_is)
  (case z6=>k_is)
  (case z7=>k_is)
  (case z8=>k_is)
  (case z9=>k_is)
  (case z10=>k_is)
  (case z11=>k_is)
  (case z12=>k_is)
  (case z13=>k_is)
  (case xf0=>k_is)
  (case xf1=>k_exc)
  (case le_by_worth=>exact rfl)
  (case lk_by_worth=>k_is)
  (case lw_by_worth=>exact rfl)
  (case le_code_of=>exact rfl)
  (case lk_code_of=>k_is)
  (case lw_code_of=>exact rfl)
 case L =>
  intro w h KX
  refine' G.Ac KX (by kernel_rfl) ?ma_by_worth ?ml_by_worth ?mc_by_worth ?mk_by_worth ?mw_by_worth ?mr_by_worth ?ma_by_weight ?ma_code_of ?ml_code_of ?mc_code_of ?mk_code_of ?mw_code_of ?mr_code_of ?mn
  (case ma_by_worth=>k_is)
  (case ml_by_worth=>k_is)
  (case mc_by_worth=>exact rfl)
  (case mk_by_worth=>k_is)
  (case mw_by_worth=>exact rfl)
  (case mr_by_worth=>exact rfl)
  (case ma_by_weight=>k_is)
  (case ma_code_of=>k_is)
  (case ml_code_of=>k_is)
  (case mc_code_of=>exact rfl)
  (case mk_code_of=>k_is)
  (case mw_code_of=>exact rfl)
  (case mr_code_of=>exact rfl)
  (case mn=>decide)
end
