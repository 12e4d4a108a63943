import PyProof.Rows.All
import Wide.All
import OpenK.AllK
import Wide.FinOn
import Lean
import PyProof.EqAt
import PyProof.EqKinds
import PyProof.TupleCall
import KE.KSortKey
import KE.KLam
import PySem.Challenge.RW_shortrows_k02_no_program
def PySem.W.Fast.tw5585234901058927596:=0
def PySem.W.Fast.tw6716860116425242524:=0
def PySem.W.Fast.tw2888933950406612536:=0
def PySem.W.Fast.tw18206891587418080736:=0
def PySem.W.Fast.tw14690946151270294983:=0
def PySem.W.Fast.tw6769175366343419225:=0
def PySem.W.Fast.tw15950114815712634058:=0
def PySem.W.Fast.tw5247760288216170396:=0
def PySem.W.Fast.tw5456212409365151414:=0
def PySem.W.Fast.tw11689788740894216421:=0
def PySem.W.Fast.tw11440561942652777087:=0
def PySem.W.Fast.tw1221884715399922838:=0
def PySem.W.Fast.tw8227045325999644920:=0
def PySem.W.Fast.tw14304202793708383840:=0
def PySem.W.Fast.tw8780751886286826393:=0
def PySem.W.Fast.tw4194504950662781514:=0
def PySem.W.Fast.tw17492041439848002386:=0
def PySem.W.Fast.tw5972489347387312518:=0
def PySem.W.Fast.tw5741079441067719819:=0
def PySem.W.Fast.tw13657174995110079400:=0
def PySem.W.Fast.tw14453317055568469089:=0
def PySem.W.Fast.tw1251526020961539383:=0
def PySem.W.Fast.tw17916666791243281453:=0
def PySem.W.Fast.tw6458052908694049796:=0
def PySem.W.Fast.tw13850630050986614511:=0
def PySem.W.Fast.tw17277261571596885432:=0
def PySem.W.Fast.tw9416324104120608067:=0
def PySem.W.Fast.tw15933135156162195299:=0
def PySem.W.Fast.tw14738745757858724172:=0
def PySem.W.Fast.tw11509203919572155334:=0
def PySem.W.Fast.tw4796591528813098576:=0
def PySem.W.Fast.tw7202918048295086185:=0
def PySem.W.Fast.tw8665018327273626955:=0
def PySem.W.Fast.tw17621180416997257882:=0
def PySem.W.Fast.tw15331424634844974615:=0
def PySem.W.Fast.tw18224393461184236033:=0
def PySem.W.Fast.tw7725832887327195563:=0
def PySem.W.Fast.tw11891550844050155971:=0
def PySem.W.Fast.tw10545085532177690713:=0
def PySem.W.Fast.tw3166212923640792694:=0
def PySem.W.Fast.tw13234572128878771095:=0
def PySem.W.Fast.tw5128443244274998073:=0
def PySem.W.Fast.tw6803047433516597100:=0
def PySem.W.Fast.tw8346535480743101051:=0
def PySem.W.Fast.tw14405241992343801471:=0
def PySem.W.Fast.tw9074775189978638214:=0
def PySem.W.Fast.tw8491064941309405996:=0
def PySem.W.Fast.tw4766867025089105528:=0
def PySem.W.Fast.tw18183133074667415705:=0
def PySem.W.Fast.tw3304120261801288050:=0
def PySem.W.Fast.tw15190772732219479789:=0
def PySem.W.Fast.tw8788560389759614:=0
def PySem.W.Fast.tw2566816043123545577:=0
def PySem.W.Fast.tw7958576432272060825:=0
def PySem.W.Fast.tw11681575146349195651:=0
def PySem.W.Fast.tw15802469574196458677:=0
def PySem.W.Fast.tw15637557901723684587:=0
def PySem.W.Fast.tw8374936061482616965:=0
def PySem.W.Fast.tw7672734101290618648:=0
def PySem.W.Fast.tw12527997612541941312:=0
def PySem.W.Fast.tw9210660134262384482:=0
def PySem.W.Fast.tw6221333225306646713:=0
def PySem.W.Fast.tw3792321115683731998:=0
def PySem.W.Fast.tw5703555514887858280:=0
def PySem.W.Fast.tw445531129417147868:=0
def PySem.W.Fast.tw5503736264502667357:=0
def PySem.W.Fast.tw6189918864986982187:=0
def PySem.W.Fast.tw6797547970220816742:=0
def PySem.W.Fast.tw17904676547634296653:=0
def PySem.W.Fast.tw9761544834710219297:=0
def PySem.W.Fast.tw3349676108217990962:=0
def PySem.W.Fast.tw1028903603359964720:=0
def PySem.W.Fast.tw13515904047163430412:=0
def PySem.W.Fast.tw938415530460801895:=0
def PySem.W.Fast.tw2741077850699855171:=0
def PySem.W.Fast.tw6168766105529639707:=0
def PySem.W.Fast.tw18158511084545054764:=0
def PySem.W.Fast.tw11205136717860892682:=0
def PySem.W.Fast.tw8453849871207777641:=0
def PySem.W.Fast.tw7310664967019678974:=0
def PySem.W.Fast.tw10479614510364852211:=0
def PySem.W.Fast.tw3619860598751176195:=0
def PySem.W.Fast.tw12983806746374359014:=0
def PySem.W.Fast.tw17558375205014712101:=0
def PySem.W.Fast.tw14627841313971197084:=0
def PySem.W.Fast.tw12575172750412127679:=0
def PySem.W.Fast.tw3457606990647394267:=0
def PySem.W.Fast.tw14542834467515862136:=0
def PySem.W.Fast.tw1315367208111242904:=0
def PySem.W.Fast.tw6268093366851052796:=0
def PySem.W.Fast.tw5495889200305100297:=0
def PySem.W.Fast.tw11641790592979979737:=0
def PySem.W.Fast.tw3652227587383017121:=0
def PySem.W.Fast.tw3348585928609618798:=0
def PySem.W.Fast.tw2719475099770030799:=0
def PySem.W.Fast.tw3689854780226897169:=0
def PySem.W.Fast.tw11670732782486602043:=0
def PySem.W.Fast.tw9037526289408590840:=0
def PySem.W.Fast.tw18409975767288491906:=0
def PySem.W.Fast.tw11922334544677707205:=0
def PySem.W.Fast.tw9980986808628858347:=0
def PySem.W.Fast.tw7124083320797398379:=0
def PySem.W.Fast.tw11823784634559073643:=0
def PySem.W.Fast.tw3660582754393269240:=0
def PySem.W.Fast.tw9561591972804564759:=0
def PySem.W.Fast.tw10886804691036192931:=0
def PySem.W.Fast.tw4010399980850246830:=0
def PySem.W.Fast.tw11663291598202418399:=0
def PySem.W.Fast.tw10416323623282721822:=0
def PySem.W.Fast.tw11594438129515301644:=0
def PySem.W.Fast.tw13363430876544749391:=0
def PySem.W.Fast.tw14083284496816461381:=0
def PySem.W.Fast.tw14715773702755516870:=0
def PySem.W.Fast.tw6312725482144159910:=0
def PySem.W.Fast.tw14910308373767420545:=0
def PySem.W.Fast.tw8115079265457495657:=0
def PySem.W.Fast.tw13718532467092577592:=0
def PySem.W.Fast.tw7763881223635130840:=0
def PySem.W.Fast.tw8063623050757472944:=0
def PySem.W.Fast.tw5526145520977379959:=0
def PySem.W.Fast.tw2655152594760355634:=0
def PySem.W.Fast.tw2669391603035607469:=0
def PySem.W.Fast.tw794390023514820916:=0
def PySem.W.Fast.tw9327343629127532913:=0
def PySem.W.Fast.tw17594653934360800445:=0
def PySem.W.Fast.tw17046541086408056103:=0
def PySem.W.Fast.tw5518358870722741642:=0
def PySem.W.Fast.tw14705336101288661872:=0
def PySem.W.Fast.tw8868815181313915550:=0
def PySem.W.Fast.tw11461660720507608303:=0
def PySem.W.Fast.tw7446178392543559112:=0
def PySem.W.Fast.tw14533866752652133417:=0
def PySem.W.Fast.tw3585387480129167459:=0
def PySem.W.Fast.tw15076919437951017097:=0
def PySem.W.Fast.tw4261842274823408851:=0
def PySem.W.Fast.tw293771426535064326:=0
def PySem.W.Fast.tw1645706025125319699:=0
def PySem.W.Fast.tw9823402818449577388:=0
def PySem.W.Fast.tw4314708329431722955:=0
def PySem.W.Fast.tw1566724262621925993:=0
def PySem.W.Fast.tw8798354976514289019:=0
def PySem.W.Fast.tw3219230309339845662:=0
def PySem.W.Fast.tw10652329918265616800:=0
def PySem.W.Fast.tw12875443196113613789:=0
def PySem.W.Fast.tw18426982201734607274:=0
def PySem.W.Fast.tw15703028380978977070:=0
def PySem.W.Fast.tw17990563677369057205:=0
def PySem.W.Fast.tw482223044541964477:=0
def PySem.W.Fast.tw2623863806346552632:=0
def PySem.W.Fast.tw17621219925347563006:=0
def PySem.W.Fast.tw7035031889681647018:=0
def PySem.W.Fast.tw16999682664336727232:=0
def PySem.W.Fast.tw15791340909974220466:=0
def PySem.W.Fast.tw5276408662526612440:=0
def PySem.W.Fast.tw6958623646289055790:=0
def PySem.W.Fast.tw4031563546360790467:=0
def PySem.W.Fast.tw1352835456738963535:=0
def PySem.W.Fast.tw14279321789947655693:=0
def PySem.W.Fast.tw16959660357728439421:=0
def PySem.W.Fast.tw4030465740118316994:=0
def PySem.W.Fast.tw6062735498453410391:=0
def PySem.W.Fast.tw7477496097454063281:=0
def PySem.W.Fast.tw18429949688826605757:=0
def PySem.W.Fast.tw5016567007500487540:=0
def PySem.W.Fast.tw9461811121216376091:=0
def PySem.W.Fast.tw16016632712090629690:=0
def PySem.W.Fast.tw7529530816693897061:=0
def PySem.W.Fast.tw14170751772387074422:=0
def PySem.W.Fast.tw11914773970390785836:=0
def PySem.W.Fast.tw5567081766461097156:=0
def PySem.W.Fast.tw18377677107517901827:=0
def PySem.W.Fast.tw8902240481836271201:=0
def PySem.W.Fast.tw6851134368412640954:=0
def PySem.W.Fast.tw3999082067488880875:=0
def PySem.W.Fast.tw2796782258476792983:=0
def PySem.W.Fast.tw10351226699312559721:=0
def PySem.W.Fast.tw1051475575488987901:=0
def PySem.W.Fast.tw10854673165854459288:=0
def PySem.W.Fast.tw7120697150948870808:=0
def PySem.W.Fast.tw3761038978026723518:=0
def PySem.W.Fast.tw9177801925987921202:=0
def PySem.W.Fast.tw11691475669448969242:=0
def PySem.W.Fast.tw17967284333995868449:=0
def PySem.W.Fast.tw3084484533662668182:=0
def PySem.W.Fast.tw12515570369927725714:=0
def PySem.W.Fast.tw3947663241257384886:=0
def PySem.W.Fast.tw13560977562882838384:=0
def PySem.W.Fast.tw6114354726757110645:=0
def PySem.W.Fast.tw18387914196925911783:=0
def PySem.W.Fast.tw14068515054571380621:=0
def PySem.W.Fast.tw11808746422826804925:=0
def PySem.W.Fast.tw9329207670508067501:=0
def PySem.W.Fast.tw10475685537243257856:=0
def PySem.W.Fast.tw3922430863026162962:=0
def PySem.W.Fast.tw9163212305473448296:=0
def PySem.W.Fast.tw833890174234498349:=0
def PySem.W.Fast.tw1332145465288977298:=0
def PySem.W.Fast.tw13548804979822790188:=0
def PySem.W.Fast.tw17740000869172149678:=0
def PySem.W.Fast.tw12564186712249970282:=0
def PySem.W.Fast.tw1156209206434749257:=0
def PySem.W.Fast.tw9962692091839399860:=0
def PySem.W.Fast.tw12132305829199635961:=0
def PySem.W.Fast.tw16850553888044104972:=0
def PySem.W.Fast.tw10379181210819404616:=0
def PySem.W.Fast.tw15491694146737289798:=0
def PySem.W.Fast.tw900241111051103074:=0
def PySem.W.Fast.tw2351734093127174901:=0
def PySem.W.Fast.tw4175211681645520256:=0
def PySem.W.Fast.tw11517602673531427888:=0
def PySem.W.Fast.tw7645455692612777835:=0
def PySem.W.Fast.tw3406537638512931391:=0
def PySem.W.Fast.tw2106475895491971702:=0
def PySem.W.Fast.tw16889965326717651709:=0
def PySem.W.Fast.tw9141758682518163686:=0
def PySem.W.Fast.tw12848979622579480971:=0
def PySem.W.Fast.tw15524172568483327760:=0
def PySem.W.Fast.tw2940561536681784300:=0
def PySem.W.Fast.tw732624226506440247:=0
def PySem.W.Fast.tw6964165527081733859:=0
def PySem.W.Fast.tw12498044883033075956:=0
def PySem.W.Fast.tw5363726303755809969:=0
def PySem.W.Fast.tw3073799306832188934:=0
def PySem.W.Fast.tw5885101304470788276:=0
def PySem.W.Fast.tw958202635954556751:=0
def PySem.W.Fast.tw17441053918960973624:=0
def PySem.W.Fast.tw5288167175337972550:=0
def PySem.W.Fast.tw14854674764967439175:=0
def PySem.W.Fast.tw5264434677952295141:=0
def PySem.W.Fast.tw1467234192185856992:=0
def PySem.W.Fast.tw5467529466311396122:=0
def PySem.W.Fast.tw9680399202039514118:=0
def PySem.W.Fast.tw6347613216587325656:=0
def PySem.W.Fast.tw5579613641758315110:=0
def PySem.W.Fast.tw941393532041315573:=0
def PySem.W.Fast.tw13119784270736098439:=0
def PySem.W.Fast.tw2689115906151233663:=0
def PySem.W.Fast.tw9376098080336038629:=0
def PySem.W.Fast.tw10366205943661652661:=0
def PySem.W.Fast.tw6136475984338803904:=0
def PySem.W.Fast.tw14192210790848253864:=0
def PySem.W.Fast.tw14914548538994933393:=0
def PySem.W.Fast.tw16180024084180645462:=0
def PySem.W.Fast.tw11810816706439513744:=0
def PySem.W.Fast.tw17822296192789801687:=0
def PySem.W.Fast.tw13009071312154222430:=0
def PySem.W.Fast.tw8583400822422764835:=0
def PySem.W.Fast.tw768426278599792135:=0
def PySem.W.Fast.tw6573214427492100017:=0
def PySem.W.Fast.tw16401489248886753209:=0
def PySem.W.Fast.tw9758396539618394141:=0
def PySem.W.Fast.tw15142517200042179519:=0
def PySem.W.Fast.tw15425996957670542585:=0
set_option Elab.async false
set_option linter.all false
set_option maxRecDepth 100000
set_option maxHeartbeats 4000000
set_option genSizeOfSpec false
noncomputable section
namespace L2
theorem aRfl (h:True = True:=by rfl):True:=trivial
theorem aDec (h:True:=by decide):True:=trivial
theorem aLoc (h:True:=by first | exact .inl rfl | exact .inr rfl | assumption):True:=trivial
end L2
namespace L2
open PySem PySem.Spec PyProof.Rows
noncomputable abbrev Key:=Sum Int Str
def keyIs:Key -> Value -> Bool
 | .inl k,v => Value.isInt k v
 | .inr x,v => Value.isStrOf x v
def keyH (w:World):Key -> Int
 | .inl k => hashInt k
 | .inr x => hashStr w x
theorem keyIs_shape:∀ {k:Key} {v:Value},keyIs k v = true -> (∃ i t,k = Sum.inl i /\ v = Value.int i t) \/ (∃ x t,k = Sum.inr x /\ v = Value.str x t)
 | .inl i,v,h => by
  obtain ⟨t,e⟩:=Value.isInt_shape (k:=i) (v:=v) h;exact .inl ⟨i,t,rfl,e⟩
 | .inr x,v,h => by
  obtain ⟨t,e⟩:=Value.isStrOf_shape (x:=x) (v:=v) h;exact .inr ⟨x,t,rfl,e⟩
theorem keyIs_int (i:Int) (t:Tok):keyIs (.inl i) (.int i t) = true:=by simp [keyIs,Value.isInt]
theorem keyIs_str (x:Str) (t:Tok):keyIs (.inr x) (.str x t) = true:=by simp [keyIs,Value.isStrOf]
theorem key_ll (a b:Int):decide ((Sum.inl a:Key) = Sum.inl b) = (a == b):=by
 by_cases e:a = b
 ·subst e;simp
 ·have h:¬ (Sum.inl a:Key) = Sum.inl b:=fun q => e (Sum.inl.inj q);rw [decide_eq_false h];exact (beq_eq_false_iff_ne.mpr e).symm
theorem key_rr (a b:Str):decide ((Sum.inr a:Key) = Sum.inr b) = decide (a = b):=by
 by_cases e:a = b
 ·subst e;simp
 ·have h:¬ (Sum.inr a:Key) = Sum.inr b:=fun q => e (Sum.inr.inj q);rw [decide_eq_false h,decide_eq_false e]
theorem key_lr (a:Int) (b:Str):decide ((Sum.inl a:Key) = Sum.inr b) = false:=decide_eq_false (fun q => nomatch q)
theorem key_rl (a:Str) (b:Int):decide ((Sum.inr a:Key) = Sum.inl b) = false:=decide_eq_false (fun q => nomatch q)
def mixKind (prog:Program) (w:World):PySem.KeyKind prog w Key where
 is:=keyIs
 hash:=keyH w
 inj:=fun v a b ha hb => by
  rcases keyIs_shape ha with ⟨i,t,rfl,rfl⟩ | ⟨x,t,rfl,rfl⟩
  ·rcases keyIs_shape hb with ⟨j,u,rfl,e⟩ | ⟨y,u,rfl,e⟩
   ·injection e with e1 _;rw [e1]
   ·exact nomatch e
  ·rcases keyIs_shape hb with ⟨j,u,rfl,e⟩ | ⟨y,u,rfl,e⟩
   ·exact nomatch e
   ·injection e with e1 _;rw [e1]
 byValue:=fun k v h => by
  rcases keyIs_shape h with ⟨i,t,rfl,rfl⟩ | ⟨x,t,rfl,rfl⟩ <;> rfl
 pyHash:=fun hv h => by
  rcases keyIs_shape hv with ⟨i,t,rfl,rfl⟩ | ⟨x,t,rfl,rfl⟩
  ·exact wpAny_pyHash_int h
  ·exact wpAny_pyHash_str h
 eqBool:=fun hu hv h => by
  rcases keyIs_shape hu with ⟨i,t,rfl,rfl⟩ | ⟨x,t,rfl,rfl⟩
  ·rcases keyIs_shape hv with ⟨j,u,rfl,rfl⟩ | ⟨y,u,rfl,rfl⟩
   ·rw [key_ll] at h;exact wpAny_eqBool_int h
   ·rw [key_lr] at h;exact SeqAt.EqAt.int_str i t y u _ _ _ _ h
  ·rcases keyIs_shape hv with ⟨j,u,rfl,rfl⟩ | ⟨y,u,rfl,rfl⟩
   ·rw [key_rl] at h;exact SeqAt.EqAt.str_int x t j u _ _ _ _ h
   ·rw [key_rr] at h;exact wpAny_eqBool_str h
 «strs»:=fun k x t v h => by
  rcases keyIs_shape h with ⟨i,u,rfl,e⟩ | ⟨y,u,rfl,e⟩
  ·exact nomatch e
  ·injection e with e1 _
   subst e1
   cases v <;> rfl
theorem mixKind_int (prog:Program) (w:World) (i:Int) (t:Tok):(mixKind prog w).is (.inl i) (.int i t) = true:=keyIs_int i t
theorem mixKind_str (prog:Program) (w:World) (x:Str) (t:Tok):(mixKind prog w).is (.inr x) (.str x t) = true:=keyIs_str x t
inductive V where
 | non | bl (b:Bool) | int (i:Int) | str (x:Str) | byt (b:Array UInt8) | flt (b:UInt64) | ref (a:Addr) | ty (n:String)
 deriving DecidableEq
def RelV:V -> Value -> Prop
 | .non,u => u = Value.none
 | .bl b,u => u = Value.bool b
 | .int i,u => ∃ t,u = Value.int i t
 | .str x,u => ∃ t,u = Value.str x t
 | .byt b,u => ∃ t,u = Value.bytes b t
 | .flt b,u => ∃ t,u = Value.float b t
 | .ref a,u => u = Value.ref a
 | .ty n,u => u = Value.type n
noncomputable abbrev Vals:List V -> List Value -> Prop:=Paired RelV
theorem Vals.length {xs:List V} {us:List Value} (r:Vals xs us):xs.length = us.length:=Paired.length r
theorem Vals.get:∀ {xs:List V} {us:List Value} {i:Nat} {x:V},Vals xs us -> xs[i]? = some x -> ∃ u,us[i]? = some u /\ RelV x u
 | _,_,_,_,.nil,e => by simp at e
 | _,_,0,_,.cons r _,e => by simp at e;subst e;exact ⟨_,rfl,r⟩
 | _,_,i + 1,x,.cons _ t,e => by
  obtain ⟨u,h1,h2⟩:=Vals.get (i:=i) (x:=x) t (by simpa using e)
  exact ⟨u,by simpa using h1,h2⟩
theorem Vals.set {x:V} {u:Value} (r:RelV x u):∀ {xs:List V} {us:List Value} (i:Nat),Vals xs us -> Vals (xs.set i x) (us.set i u)
 | _,_,_,.nil => .nil
 | _,_,0,.cons _ t => .cons r t
 | _,_,i + 1,.cons q t => .cons q (Vals.set r i t)
theorem Vals.append:∀ {xs ys:List V} {us ws:List Value},Vals xs us -> Vals ys ws -> Vals (xs ++ ys) (us ++ ws)
 | _,_,_,_,.nil,s => s
 | _,_,_,_,.cons r t,s => .cons r (Vals.append t s)
theorem Vals.take:∀ {xs:List V} {us:List Value} (n:Nat),Vals xs us -> Vals (xs.take n) (us.take n)
 | _,_,0,_ => .nil
 | _,_,_ + 1,.nil => .nil
 | _,_,n + 1,.cons r t => .cons r (Vals.take n t)
theorem Vals.drop:∀ {xs:List V} {us:List Value} (n:Nat),Vals xs us -> Vals (xs.drop n) (us.drop n)
 | _,_,0,r => r
 | _,_,_ + 1,.nil => .nil
 | _,_,n + 1,.cons _ t => Vals.drop n t
def RelO:Option V -> Option Value -> Prop
 | some v,some u => RelV v u
 | none,none => True
 | _,_ => False
def KV {κ:Type}:List (κ × V) -> List (κ × Value) -> Prop:=Paired fun (p:κ × V) (q:κ × Value) => p.1 = q.1 /\ RelV p.2 q.2
def kV:Key -> V
 | .inl i => .int i
 | .inr x => .str x
inductive HO where
 | lst (xs:List V)
 | tup (xs:List V)
 | dK (kvs:List (Key × V)) | dT (kvs:List (List Key × V))
 | set (S:Int -> Bool) (n:Nat)
 | ins (C dx:Addr) (fs:List (Str × V))
 | own (x:Addr)
 | xd (fs:List (Str × V))
 | met (f x:Addr)
 | rng (lo hi:Int)
 | frz (o:Obj) (u:HO)
 | tbl (ps:Array Value)
 | ext (φ:Heap -> Prop)
noncomputable abbrev Hp:=Addr -> Option HO
def upd (H:Hp) (a:Addr) (o:HO):Hp:=fun b => if b = a then some o else H b
theorem upd_same {H:Hp} {a:Addr} {o:HO}:upd H a o a = some o:=by unfold upd;rw [if_pos rfl]
theorem upd_ne {H:Hp} {a b:Addr} {o:HO} (h:b ≠ a):upd H a o b = H b:=by unfold upd;rw [if_neg h]
theorem upd_upd {H:Hp} {a:Addr} {o u:HO}:upd (upd H a o) a u = upd H a u:=by
 funext b;unfold upd;split <;> rfl
theorem ne_of {H:Hp} {a b:Addr} {o u:HO} (h:H a = some o) (h':H b = some u) (d:o ≠ u):a ≠ b:=by
 intro e;subst e;rw [h] at h';exact d (Option.some.inj h')
theorem ne_of_none {H:Hp} {a b:Addr} {o:HO} (h:H a = some o) (h':H b = none):a ≠ b:=by
 intro e;subst e;rw [h] at h';cases h'
def tagQ:List Value -> Str
 | .str q _ :: _ => q
 | _ => Str.ofString ""
def tagOf (ps:Array Value):Str:=tagQ ps.toList
def IsLam (H:Hp) (q:Str) (cv:Value):Prop:=∃ (c:Addr) (oc:Obj) (vs:Array Value) (t:Tok),cv = .ref c /\ H c = some (.frz oc (.own c)) /\ oc.data = .fields vs /\ vs[1]? = some (.str q t)
def IsTupD (h:Heap) (a:Addr) (items:Array Value):Prop:=∃ o:Obj,h.get? a = some o /\ o.cls = .type "tuple" /\ ∃ n,o.data = .seq items n /\ o.dict = none
theorem IsTupD.to {h:Heap} {a:Addr} {items:Array Value} (x:IsTupD h a items):IsTup h a items:=let ⟨o,e,c,n,d,_⟩:=x;⟨o,e,c,n,d⟩
theorem IsTupD.new (h:Heap) (items:Array Value):IsTupD (h.push { cls:=.type "tuple",data:=.seq items }) h.objs.size items:=⟨_,Heap.get?_push_size h rfl,rfl,_,rfl,rfl⟩
theorem IsTupD.lt {h:Heap} {a:Addr} {items:Array Value} (x:IsTupD h a items):a < h.objs.size:=x.to.lt
section
variable (P:Program) (w:World)
def ObjOk (H:Hp) (h:Heap) (a:Addr):HO -> Prop
 | .lst xs => xs.length <= sizeLine /\ ∃ (its:List Value) (n:Nat),Vals xs its /\ h.get? a = some { cls:=.type "list",data:=.seq its.toArray n }
 | .tup xs => xs.length <= sizeLine /\ ∃ its:List Value,Vals xs its /\ IsTupD h a its.toArray
 | .dK kvs => kvs.length <= sizeLine /\ (a == sysModules) = false /\ ∃ vs,KV kvs vs /\ h.DictOf (mixKind P w) a vs
 | .dT kvs => kvs.length <= sizeLine /\ (a == sysModules) = false /\ ∃ xs:List (List Key × Addr × Value),
   Paired (fun (p:List Key × V) (q:List Key × Addr × Value) => p.1 = q.1 /\ H q.2.1 = some (.tup (p.1.map kV)) /\ RelV p.2 q.2.2) kvs xs /\
   ∃ o es ep,h.get? a = some o /\ o.ExactDict /\ o.data = .dict es ep /\ es.toList = xs.map (entryOfKey (tupleKind (mixKind P w))) /\ (xs.map (·.1)).Nodup
 | .set S n => h.SetOf (intKind P w) a S n
 | .ins C dx fs => H dx = some (.own a) /\ fs.length <= 1000 /\ dx ≠ a /\ h.get? a = some (PySem.W.instObj C dx) /\
   ∃ mA,h.Ns1 dx mA /\ (∀ f,RelO (fs.lookup f) (mA f)) /\ PySem.Within mA (fs.map (·.1))
 | .own _ => ∃ o,h.get? a = some o
 | .xd fs => ∃ mA,h.Ns1 a mA /\ ∀ f,RelO (fs.lookup f) (mA f)
 | .rng lo hi => ∃ t u v,h.get? a = some { cls:=.type "range",data:=.fields #[.int lo t,.int hi u,.int 1 v] }
 | .frz o u => h.get? a = some o /\ ObjOk H h a u
 | .tbl ps => ∃ qs:Array Value,h.get? a = some { cls:=.none,data:=.fields qs } /\ TriplesOk qs.toList /\ ∀ pos cv,codeAmong pos qs.toList = some cv -> IsLam H (tagOf ps) cv
 | .met f x => h.get? a = some (PySem.W.methodObj (.ref f) (.ref x))
 | .ext φ => φ h /\ (∃ o,h.get? a = some o) /\ ∀ h1 h2:Heap,φ h1 -> (∀ o,h1.get? a = some o -> h2.get? a = some o) -> φ h2
def HOk (H:Hp) (h:Heap):Prop:=∀ a o,H a = some o -> ObjOk P w H h a o
end
section
variable {P:Program} {w:World} {H H':Hp} {h h':Heap} {a:Addr} {o:HO}
theorem ObjOk.lt (x:ObjOk P w H h a o):a < h.objs.size:=by
 cases o with
 | lst xs => obtain ⟨_,_,_,_,e⟩:=x;exact Heap.lt_size e
 | tup xs => obtain ⟨_,_,_,p⟩:=x;exact p.lt
 | dK kvs => obtain ⟨_,_,_,_,o,_,_,e,_⟩:=x;exact Heap.lt_size e
 | dT kvs => obtain ⟨_,_,_,_,o,_,_,e,_⟩:=x;exact Heap.lt_size e
 | set S n => obtain ⟨o,_,_,_,e,_⟩:=x;exact Heap.lt_size e
 | ins C dx fs => obtain ⟨_,_,_,e,_⟩:=x;exact Heap.lt_size e
 | own y => obtain ⟨_,e⟩:=x;exact Heap.lt_size e
 | xd fs => obtain ⟨_,⟨_,_,_,e,_⟩,_⟩:=x;exact Heap.lt_size e
 | rng lo hi => obtain ⟨_,_,_,e⟩:=x;exact Heap.lt_size e
 | frz ob u => obtain ⟨e,_⟩:=x;exact Heap.lt_size e
 | tbl ps => obtain ⟨_,e,_⟩:=x;exact Heap.lt_size e
 | met f y => exact Heap.lt_size (show h.get? a = some _ from x)
 | ext φ => obtain ⟨_,⟨_,e⟩,_⟩:=x;exact Heap.lt_size e
theorem Paired.mapP {α β:Type} {F G:α -> β -> Prop}:∀ {l₁:List α} {l₂:List β},Paired F l₁ l₂ -> (∀ a b,F a b -> G a b) -> Paired G l₁ l₂
 | _,_,.nil,_ => .nil
 | _,_,.cons r t,f => .cons (f _ _ r) (Paired.mapP t f)
theorem ObjOk.stay (x:ObjOk P w H h a o) (k:∀ b u,(b = a \/ H b = some (.own a)) -> h.get? b = some u -> h'.get? b = some u)
  (ho:∀ b,H b = some (.own a) -> H' b = some (.own a)) (ht:∀ b xs,H b = some (.tup xs) -> H' b = some (.tup xs)) (hz:∀ b o u,H b = some (.frz o u) -> H' b = some (.frz o u)):ObjOk P w H' h' a o:=by
 induction o with
 | lst xs => obtain ⟨z,its,n,r,e⟩:=x;exact ⟨z,its,n,r,k _ _ (.inl rfl) e⟩
 | tup xs => obtain ⟨z,its,r,ob,e,c⟩:=x;exact ⟨z,its,r,ob,k _ _ (.inl rfl) e,c⟩
 | dK kvs => obtain ⟨z,y,vs,r,ob,es,ep,e,c⟩:=x;exact ⟨z,y,vs,r,ob,es,ep,k _ _ (.inl rfl) e,c⟩
 | dT kvs =>
  obtain ⟨z,y,xs,r,ob,es,ep,e,c⟩:=x;exact ⟨z,y,xs,Paired.mapP r fun p q z => ⟨z.1,ht _ _ z.2.1,z.2.2⟩,ob,es,ep,k _ _ (.inl rfl) e,c⟩
 | set S n => obtain ⟨ob,es,ep,t,e,c⟩:=x;exact ⟨ob,es,ep,t,k _ _ (.inl rfl) e,c⟩
 | ins C dx fs =>
  obtain ⟨d,z,ne,e,mA,⟨od,es,ep,e2,c⟩,r⟩:=x;exact ⟨ho _ d,z,ne,k _ _ (.inl rfl) e,mA,⟨od,es,ep,k _ _ (.inr d) e2,c⟩,r⟩
 | own y => obtain ⟨ob,e⟩:=x;exact ⟨ob,k _ _ (.inl rfl) e⟩
 | xd fs => obtain ⟨mA,⟨od,es,ep,e,c⟩,r⟩:=x;exact ⟨mA,⟨od,es,ep,k _ _ (.inl rfl) e,c⟩,r⟩
 | rng lo hi => obtain ⟨t,u,v,e⟩:=x;exact ⟨t,u,v,k _ _ (.inl rfl) e⟩
 | frz ob u ih => obtain ⟨e,q⟩:=x;exact ⟨k _ _ (.inl rfl) e,ih q⟩
 | tbl ps =>
  obtain ⟨qs,e,t,f⟩:=x;exact ⟨qs,k a _ (.inl rfl) e,t,fun pos cv q => let ⟨c,oc,vs,t',e1,e2,e3⟩:=f pos cv q;⟨c,oc,vs,t',e1,hz _ _ _ e2,e3⟩⟩
 | met f y =>
  have e:h.get? a = some (PySem.W.methodObj (.ref f) (.ref y)):=x;show h'.get? a = some (PySem.W.methodObj (.ref f) (.ref y));exact k a _ (.inl rfl) e
 | ext φ => obtain ⟨p,⟨o,e⟩,st⟩:=x;exact ⟨st _ _ p fun o q => k _ _ (.inl rfl) q,⟨o,k _ _ (.inl rfl) e⟩,st⟩
theorem HOk.lt (x:HOk P w H h) (e:H a = some o):a < h.objs.size:=(x a o e).lt
theorem HOk.fresh (x:HOk P w H h) (e:h.objs.size <= a):H a = none:=by
 cases q:H a with
 | none => rfl
 | some u => exact absurd (Nat.lt_of_lt_of_le (x.lt q) e) (Nat.lt_irrefl _)
theorem HOk.kept (x:HOk P w H h) (k:∀ b u,h.get? b = some u -> h'.get? b = some u):HOk P w H h':=fun a o e =>
 (x a o e).stay (fun b u _ q => k b u q) (fun _ q => q) (fun _ _ q => q) fun _ _ _ q => q
theorem HOk.laid (x:HOk P w H h) (k:∀ b u,h.get? b = some u -> h'.get? b = some u) (hp:h.objs.size <= a) (new:ObjOk P w (upd H a o) h' a o):HOk P w (upd H a o) h':=fun b u e => by
 have hn:=x.fresh hp;by_cases hb:b = a
 ·subst hb;rw [upd_same] at e;cases e;exact new
 ·rw [upd_ne hb] at e;exact (x b u e).stay (fun c v _ q => k c v q) (fun c q => by rw [upd_ne (ne_of_none q hn)];exact q) (fun c xs q => by rw [upd_ne (ne_of_none q hn)];exact q) fun c _ _ q => by rw [upd_ne (ne_of_none q hn)];exact q
end
def Rd (H:Hp) (a:Addr) (u:HO):Prop:=H a = some u \/ ∃ o,H a = some (.frz o u)
theorem Rd.ok {P:Program} {w:World} {H:Hp} {h:Heap} {a:Addr} {u:HO} (r:Rd H a u) (x:HOk P w H h):ObjOk P w H h a u:=by
 rcases r with r | ⟨o,r⟩
 ·exact x a u r
 ·obtain ⟨_,q⟩:=x a _ r;exact q
def Mut:Option HO -> Prop
 | some (.lst _) => True
 | some (.dK _) => True
 | some (.dT _) => True
 | some (.set _ _) => True
 | some (.ins _ _ _) => True
 | some (.ext _) => True
 | _ => False
section
variable {P:Program} {w:World} {H:Hp} {h h':Heap} {x e:Addr} {o':HO}
theorem HOk.write (ok:HOk P w H h) (mu:Mut (H x)) (he:e = x \/ H e = some (.own x)) (k:∀ b u,b ≠ e -> h.get? b = some u -> h'.get? b = some u) (heo:∃ u,h'.get? e = some u)
  (new:ObjOk P w (upd H x o') h' x o'):HOk P w (upd H x o') h':=fun b u q => by
 have nown:∀ c y,H c = some (.own y) -> c ≠ x:=fun c y r z => by subst z;rw [r] at mu;exact mu
 have ntup:∀ c xs,H c = some (.tup xs) -> c ≠ x:=fun c xs r z => by subst z;rw [r] at mu;exact mu
 have nfrz:∀ c o1 u1,H c = some (.frz o1 u1) -> c ≠ x:=fun c _ _ r z => by subst z;rw [r] at mu;exact mu
 by_cases hb:b = x
 ·subst hb;rw [upd_same] at q;cases q;exact new
 ·rw [upd_ne hb] at q;by_cases hbe:b = e
  ·have q':H b = some (.own x):=by
    rcases he with z | z
    ·exact absurd (hbe.trans z) hb
    ·rw [hbe];exact z
   rw [q] at q';cases q';obtain ⟨v,hv⟩:=heo;exact ⟨v,by rw [hbe];exact hv⟩
  ·refine (ok b u q).stay (fun c v hc r => k c v ?_ r) (fun c r => by rw [upd_ne (nown c b r)];exact r) (fun c xs r => by rw [upd_ne (ntup c xs r)];exact r) fun c _ _ r => by rw [upd_ne (nfrz c _ _ r)];exact r
   rcases hc with rfl | hc
   ·exact hbe
   ·rintro rfl;rcases he with z | z
    ·exact nown c b hc z
    ·rw [hc] at z;cases z;exact hb rfl
end
structure Un (fs ex:List Addr) (H H':Hp) (h h':Heap):Prop where
 keep:∀ b o,h.get? b = some o -> H b = none -> b ∉ fs -> b ∉ ex -> h'.get? b = some o
 slot:∀ b o,h.get? b = some o -> H b = none -> b ∈ fs -> b ∉ ex -> ∃ sl,h'.get? b = some { o with slots:=sl }
 free:∀ b o,h.get? b = some o -> H b = none -> b ∉ ex -> H' b = none
 there:∀ b o,h.get? b = some o -> b ∉ ex -> ∃ o',h'.get? b = some o'
 tups:∀ b xs,H b = some (.tup xs) -> H' b = some (.tup xs)
 frzs:∀ b o u,H b = some (.frz o u) -> H' b = some (.frz o u)
 tbls:∀ b ps,H b = some (.tbl ps) -> ∃ more,H' b = some (.tbl (ps ++ more))
section
variable {fs fs' ex ex':List Addr} {H H1 H2:Hp} {h h1 h2 h':Heap} {a x e:Addr} {o:HO}
theorem Un.any (u:Un fs ex H H1 h h1) {b:Addr} {ob:Obj} (q:h.get? b = some ob) (n:H b = none) (hx:b ∉ ex):∃ sl,h1.get? b = some { ob with slots:=sl }:=by
 by_cases hb:b ∈ fs
 ·exact u.slot b ob q n hb hx
 ·exact ⟨ob.slots,u.keep b ob q n hb hx⟩
theorem Un.kept (k:∀ b u,h.get? b = some u -> h'.get? b = some u):Un fs ex H H h h' :=
 ⟨fun b ob q _ _ _ => k b ob q,fun b ob q _ _ _ => ⟨ob.slots,k b ob q⟩,fun _ _ _ n _ => n,fun b ob q _ => ⟨ob,k b ob q⟩,fun _ _ q => q,fun _ _ _ q => q,fun _ ps q => ⟨#[],by rw [q];simp⟩⟩
theorem Un.refl:Un fs ex H H h h:=Un.kept fun _ _ q => q
theorem Un.laid (k:∀ b u,h.get? b = some u -> h'.get? b = some u) (hp:h.objs.size <= a) (hn:H a = none):Un fs ex H (upd H a o) h h' where
 keep:=fun b u q _ _ _ => k b u q
 slot:=fun b u q _ _ _ => ⟨u.slots,k b u q⟩
 free:=fun b u q n _ => by rw [upd_ne (Nat.ne_of_lt (Nat.lt_of_lt_of_le (Heap.lt_size q) hp))];exact n
 there:=fun b u q _ => ⟨u,k b u q⟩
 tups:=fun b xs q => by rw [upd_ne (ne_of_none q hn)];exact q
 frzs:=fun b u xs q => by rw [upd_ne (ne_of_none q hn)];exact q
 tbls:=fun b ps q => ⟨#[],by rw [upd_ne (ne_of_none q hn),q];simp⟩
theorem Un.write (mu:Mut (H x)) (he:e = x \/ H e = some (.own x)) (k:∀ b u,b ≠ e -> h.get? b = some u -> h'.get? b = some u) (heo:∃ u,h'.get? e = some u):Un fs ex H (upd H x o) h h':=by
 have hx:∀ b,H b = none -> b ≠ x:=fun b n z => by subst z;rw [n] at mu;exact mu
 have hb:∀ b,H b = none -> b ≠ e:=fun b n z => by
  subst z;rcases he with r | r
  ·exact hx b n r
  ·rw [n] at r;cases r
 have hm:∀ b u,H b = some u -> ¬ Mut (some u) -> b ≠ x:=fun b u q nm z => by subst z;rw [q] at mu;exact nm mu
 refine ⟨fun b u q n _ _ => k b u (hb b n) q,fun b u q n _ _ => ⟨u.slots,k b u (hb b n) q⟩,fun b u q n _ => by rw [upd_ne (hx b n)];exact n,fun b u q _ => ?_,
  fun b xs q => by rw [upd_ne (hm b _ q fun z => z)];exact q,fun b u xs q => by rw [upd_ne (hm b _ q fun z => z)];exact q,fun b ps q => ⟨#[],by rw [upd_ne (hm b _ q fun z => z),q];simp⟩⟩
 by_cases hbe:b = e
 ·subst hbe;exact heo
 ·exact ⟨u,k b u hbe q⟩
end
def trk (h:Heap) (H:Hp):List Addr:=(List.range h.objs.size).filter fun a => (H a).isSome
def hidT (h:Heap) (H:Hp):Heap:=PySem.W.hideAll h (trk h H)
theorem hidT_size (h:Heap) (H:Hp):(hidT h H).objs.size = h.objs.size:=PySem.W.hideAll_size _ _
theorem hidT_get {h:Heap} {H:Hp} {b:Addr} {o:Obj} (e:h.get? b = some o) (n:H b = none):(hidT h H).get? b = some o :=
 PySem.W.hideAll_get _ e fun hm => by
  have q:(H b).isSome = true:=(List.mem_filter.mp hm).2;rw [n] at q;simp at q
theorem of_hidT {h:Heap} {H:Hp} {b:Addr} {o:Obj} (e:(hidT h H).get? b = some o):h.get? b = some o /\ H b = none:=by
 have e':h.get? b = some o:=PySem.W.of_hideAll (trk h H) e;refine ⟨e',?_⟩
 cases q:H b with
 | none => rfl
 | some x =>
  have hm:b ∈ trk h H:=List.mem_filter.mpr ⟨List.mem_range.mpr (Heap.lt_size e'),by simp [q]⟩
  have z:(hidT h H).get? b = none:=PySem.W.hideAll_none (trk h H) hm;rw [z] at e;cases e
def allNews (g h:Heap) (L:Addr):List (Addr × Obj):=(List.range h.objs.size).filterMap fun a => if a = L \/ (g.get? a).isSome = true then none else (h.get? a).map fun o => (a,o)
def rest (g h:Heap) (L d:Addr):List (Addr × Obj):=(allNews g h L).filter fun p => decide (p.1 ≠ d)
def lamNames:List Str:=["by_worth","by_weight","code_of"]
def lamTabs (K:PySem.W.Frag):List (Addr × Addr × Str):=lamNames.filterMap fun x => (PySem.W.tabIn K x).map fun p => (p.1,p.2,(x ++ ".<locals>.") ++ "<lambda>")
def TabsOk (K:PySem.W.Frag) (H:Hp):Prop:=∀ t ∈ lamTabs K,∃ more,H t.2.1 = some (.tbl (#[.str t.2.2 0] ++ more))
theorem TabsOk.un {K:PySem.W.Frag} {fs ex:List Addr} {H H1:Hp} {h h1:Heap} (x:TabsOk K H) (u:Un fs ex H H1 h h1):TabsOk K H1:=fun t ht => by
 obtain ⟨m,e⟩:=x t ht;obtain ⟨m2,e2⟩:=u.tbls _ _ e;exact ⟨m ++ m2,by rw [e2,Array.append_assoc]⟩
def BmAt (mg:Str -> Option Value) (h:Heap):Prop:=∃ bm ob,mg "__builtins__" = some (.ref bm) /\ bm ≠ builtinsNs /\ h.get? bm = some ob /\ ob.cls = .type "module" /\ ob.dict = some builtinsNs /\ ob.data = .plain
structure Mod (K:PySem.W.Frag) (mg:Str -> Option Value) (base:Heap):Prop where
 kin:K.In base
 glob:base.Ns mainGlobals mg
 blt:∃ mb,base.Ns builtinsNs mb /\ ∀ x:Str,x ≠ "__name__" -> mb x = bootBuiltins x
 nolimit:base.NoLimit
 codes:∀ t ∈ lamTabs K,PySem.W.CodeHd base t.1 t.2.1
 bm:BmAt mg base
structure Cx where
 prog:Program
 w:World
 K:PySem.W.Frag
 mg:Str -> Option Value
 base:Heap
 A:Around
 N:List Str
 s₀:Shared
 H₀:Hp
 env:Env
 outer:List Env
 stack:List Env
 ex:List Addr
 fn:Str -> Bool
 calm:Bool
 pn:List (Addr × Obj)
 xe:Value -> Shared -> Prop
def frs (l:List Env):List Addr:=l.filterMap (·.frame)
noncomputable abbrev Cx.fs (X:Cx):List Addr:=frs X.outer
def Vis (sc:Scope) (x:Str):Prop:=sc.names.lookup x = some .local \/ sc.names.lookup x = some .cell \/ sc.names.lookup x = some .free
def Loc (sc:Scope) (x:Str):Prop:=sc.names.lookup x = some .local \/ sc.names.lookup x = some .cell
def Look (env:Env) (h:Heap) (m:Str -> Option Value) (x:Str) (u:Value):Prop :=
 (env.kindOf x = some .local /\ m x = some u) \/ ((env.kindOf x = some .cell \/ env.kindOf x = some .free) /\ ∃ c,env.cells.lookup x = some c /\ h.IsCell c (some u))
structure Cx.Ok (X:Cx):Prop where
 mod:Mod X.K X.mg X.base
 kind:X.env.scope.kind = .function
 glob:X.env.globals = mainGlobals
 blt:X.env.builtins = builtinsNs
 above:X.s₀.heap.objs.size <= X.env.locals
 inj:∀ x y c,X.env.cells.lookup x = some c -> X.env.cells.lookup y = some c -> x = y
 has:∀ x,(X.env.kindOf x = some .cell \/ X.env.kindOf x = some .free) -> ∃ c,X.env.cells.lookup x = some c
 cab:∀ x c,X.fn x = true -> X.env.cells.lookup x = some c -> X.s₀.heap.objs.size <= c
 hd:X.calm = true -> X.A.handled = none
 frames:X.A.frames = some X.stack
 stk:X.stack = X.outer \/ (X.stack = X.env :: X.outer /\ X.env.frame = some X.env.locals)
 exf:∀ b ∈ X.ex,b ≠ X.env.locals /\ ∀ x c,X.env.cells.lookup x = some c -> c ≠ b
 bs:∀ b o,X.base.get? b = some o -> X.s₀.heap.get? b = some o /\ X.H₀ b = none
 bsz:X.base.objs.size <= X.s₀.heap.objs.size
 noex:∀ b o,X.base.get? b = some o -> b ∉ X.ex
 exfs:∀ b ∈ X.ex,b ∉ X.fs
 funs:X.s₀.heap.FunFrames X.base X.outer
 frf:∀ b ∈ X.fs,X.H₀ b = none
 tabs:TabsOk X.K X.H₀
structure Inv (X:Cx) (pins:List (Addr × Obj)) (σ:List (Option V)) (H:Hp) (s:Shared):Prop where
 ok:X.Ok
 os:s.os = X.s₀.os
 bare:AllBare s.gens
 base:Un X.fs X.ex X.H₀ H X.s₀.heap s.heap
 loc:∃ m,s.heap.Ns X.env.locals m /\ ∀ (i:Nat) (x:Str) (v:V),X.N[i]? = some x -> σ[i]? = some (some v) -> Vis X.env.scope x -> ∃ u,RelV v u /\ Look X.env s.heap m x u
 cell:∀ x c,X.env.cells.lookup x = some c -> ∃ v,s.heap.IsCell c v
 free:H X.env.locals = none
 freeC:∀ x c,X.env.cells.lookup x = some c -> H c = none
 pin:∀ p ∈ X.pn ++ pins,s.heap.get? p.1 = some p.2 /\ H p.1 = none /\ p.1 ≠ X.env.locals /\ p.1 ∉ X.fs /\ ∀ v,p.2.data ≠ .cell v
 hok:HOk X.prog X.w H s.heap
 len:σ.length = X.N.length
section
variable {X:Cx} {pins:List (Addr × Obj)} {σ:List (Option V)} {H H':Hp} {s:Shared} {h':Heap}
theorem Cx.Ok.nofr (ok:X.Ok) {b:Addr} {o:Obj} (e:X.base.get? b = some o):b ∉ X.fs:=fun hb => by
 have:=(ok.funs.mem hb).1;rw [e] at this;cases this
theorem Inv.bs (I:Inv X pins σ H s):∀ b o,X.base.get? b = some o -> s.heap.get? b = some o /\ H b = none:=fun b o e =>
 ⟨I.base.keep b o (I.ok.bs b o e).1 (I.ok.bs b o e).2 (I.ok.nofr e) (I.ok.noex b o e),I.base.free b o (I.ok.bs b o e).1 (I.ok.bs b o e).2 (I.ok.noex b o e)⟩
theorem Inv.bk (I:Inv X pins σ H s):∀ b o,X.base.get? b = some o -> s.heap.get? b = some o:=fun b o e => (I.bs b o e).1
theorem Inv.mod (I:Inv X pins σ H s):Mod X.K X.mg X.base:=I.ok.mod
theorem Inv.kIn (I:Inv X pins σ H s):X.K.In s.heap:=I.ok.mod.kin.keeps I.bk
theorem Inv.lt (I:Inv X pins σ H s):X.env.locals < s.heap.objs.size:=let ⟨_,hn,_⟩:=I.loc;hn.lt
theorem Inv.sz (I:Inv X pins σ H s):X.s₀.heap.objs.size <= s.heap.objs.size:=Nat.le_trans I.ok.above (Nat.le_of_lt I.lt)
theorem Inv.nofs (I:Inv X pins σ H s) {a:Addr} (h:s.heap.objs.size <= a):a ∉ X.fs:=fun hb => by
 obtain ⟨_,o,ho,_⟩:=I.ok.funs.mem hb;exact absurd (Nat.lt_of_lt_of_le (Heap.lt_size ho) (Nat.le_trans I.sz h)) (Nat.lt_irrefl _)
theorem Inv.cne (I:Inv X pins σ H s):∀ x c,X.env.cells.lookup x = some c -> c ≠ X.env.locals:=fun x c e z => by
 obtain ⟨v,o,ho,hd⟩:=I.cell x c e;obtain ⟨m,⟨o',es,ep,ho',hd',_⟩,_⟩:=I.loc;rw [z,ho'] at ho;cases ho;rw [hd'] at hd;cases hd
theorem Inv.funs (I:Inv X pins σ H s):s.heap.FunFrames X.base X.outer:=by
 have all:∀ (l:List Env),(∀ b ∈ frs l,b ∈ X.fs) -> X.s₀.heap.FunFrames X.base l -> s.heap.FunFrames X.base l:=by
  intro l
  induction l with
  | nil => intro _ _;trivial
  | cons env r ih =>
   intro hs hl;obtain ⟨hk,⟨L,o,hf,hn,ho,hd⟩,hr⟩:=hl;have hL:L ∈ X.fs:=hs L (by unfold frs;rw [List.filterMap_cons,hf];exact List.mem_cons_self)
   obtain ⟨sl,e⟩:=I.base.slot L o ho (I.ok.frf L hL) hL fun z => I.ok.exfs L z hL;exact ⟨hk,⟨L,_,hf,hn,e,hd⟩,ih (fun b hb => hs b (by unfold frs;rw [List.filterMap_cons,hf];exact List.mem_cons_of_mem _ hb)) hr⟩
 exact all X.outer (fun _ hb => hb) I.ok.funs
theorem Inv.stack (I:Inv X pins σ H s):s.heap.FunFrames X.base X.stack:=by
 rcases I.ok.stk with e | ⟨e,hf⟩
 ·rw [e];exact I.funs
 ·rw [e];obtain ⟨m,hn,_⟩:=I.loc;refine .cons (by rw [I.ok.kind];decide) hf hn ?_ I.funs
  exact Heap.get?_none_of_le (Nat.le_trans I.ok.bsz I.ok.above)
theorem Inv.stkSub (I:Inv X pins σ H s):∀ b ∈ frs X.stack,b ∈ X.env.locals :: X.fs:=fun b hb => by
 rcases I.ok.stk with e | ⟨e,hf⟩
 ·rw [e] at hb;exact List.mem_cons_of_mem _ hb
 ·rw [e] at hb;unfold frs at hb;rw [List.filterMap_cons,hf] at hb;exact hb
theorem Inv.stkFree (I:Inv X pins σ H s):∀ b ∈ frs X.stack,H b = none:=fun b hb => by
 rcases List.mem_cons.mp (I.stkSub b hb) with e | hb
 ·rw [e];exact I.free
 ·obtain ⟨_,o,ho,_⟩:=I.ok.funs.mem hb;exact I.base.free b o ho (I.ok.frf b hb) fun z => I.ok.exfs b z hb
theorem Inv.step {g':Array GenState} {t':Nat} {d':Drawn} {ch:List Addr} (I:Inv X pins σ H s)
  (hch:∀ b ∈ ch,(b ∈ X.ex \/ X.s₀.heap.objs.size <= b) /\ b ≠ X.env.locals /\ (∀ x c,X.env.cells.lookup x = some c -> c ≠ b) /\ ∀ p ∈ X.pn ++ pins,p.1 ≠ b)
  (keep:∀ b o,b ≠ X.env.locals -> b ∉ X.fs -> b ∉ ch -> s.heap.get? b = some o -> H b = none -> h'.get? b = some o)
  (slot:∀ b o,b ≠ X.env.locals -> b ∈ X.fs -> b ∉ ch -> s.heap.get? b = some o -> H b = none -> ∃ sl,h'.get? b = some { o with slots:=sl }) (free:∀ b o,b ∉ ch -> s.heap.get? b = some o -> H b = none -> H' b = none)
  (there:∀ b o,b ∉ ch -> s.heap.get? b = some o -> ∃ o',h'.get? b = some o')
  (tups:∀ b xs,H b = some (.tup xs) -> H' b = some (.tup xs)) (frzs:∀ b o u,H b = some (.frz o u) -> H' b = some (.frz o u)) (tbls:∀ b ps,H b = some (.tbl ps) -> ∃ more,H' b = some (.tbl (ps ++ more)))
  (ns:∀ m,s.heap.Ns X.env.locals m -> h'.Ns X.env.locals m) (hok:HOk X.prog X.w H' h') (hg:AllBare g') :
  Inv X pins σ H' { s with heap:=h',gens:=g',drawn:=d',toks:=t' }:=by
 have neL:∀ b o,X.s₀.heap.get? b = some o -> b ≠ X.env.locals:=fun b o e => Nat.ne_of_lt (Nat.lt_of_lt_of_le (Heap.lt_size e) I.ok.above);have neC:∀ b o,X.s₀.heap.get? b = some o -> b ∉ X.ex -> b ∉ ch:=fun b o e hx hb => by
  rcases (hch b hb).1 with z | z
  ·exact hx z
  ·exact absurd (Nat.lt_of_lt_of_le (Heap.lt_size e) z) (Nat.lt_irrefl _)
 have cellK:∀ x c,X.env.cells.lookup x = some c -> ∀ v,s.heap.IsCell c v -> h'.IsCell c v:=fun x c e v ⟨o,ho,hd⟩ => by
  have nch:c ∉ ch:=fun z => (hch c z).2.2.1 x c e rfl;by_cases hc:c ∈ X.fs
  ·obtain ⟨sl,q⟩:=slot c o (I.cne x c e) hc nch ho (I.freeC x c e);exact ⟨_,q,hd⟩
  ·exact ⟨o,keep c o (I.cne x c e) hc nch ho (I.freeC x c e),hd⟩
 refine ⟨I.ok,I.os,hg,⟨fun b o e n hb hx => ?_,fun b o e n hb hx => ?_,fun b o e n hx => ?_,fun b o e hx => ?_,fun b xs e => tups b xs (I.base.tups b xs e),fun b o xs e => frzs b o xs (I.base.frzs b o xs e),fun b ps e => ?_⟩,?_,fun x c e => ?_,?_,fun x c e => ?_,fun p hp => ?_,hok,I.len⟩
 ·exact keep b o (neL b o e) hb (neC b o e hx) (I.base.keep b o e n hb hx) (I.base.free b o e n hx)
 ·obtain ⟨sl,e1⟩:=I.base.slot b o e n hb hx;obtain ⟨sl',e2⟩:=slot b _ (neL b o e) hb (neC b o e hx) e1 (I.base.free b o e n hx);exact ⟨sl',e2⟩
 ·obtain ⟨o',e1⟩:=I.base.there b o e hx;exact free b o' (neC b o e hx) e1 (I.base.free b o e n hx)
 ·obtain ⟨o',e1⟩:=I.base.there b o e hx;exact there b o' (neC b o e hx) e1
 ·obtain ⟨m1,e1⟩:=I.base.tbls b ps e;obtain ⟨m2,e2⟩:=tbls b _ e1;exact ⟨m1 ++ m2,by rw [e2,Array.append_assoc]⟩
 ·obtain ⟨m,hn,hl⟩:=I.loc;refine ⟨m,ns m hn,fun i x v e1 e2 e3 => ?_⟩;obtain ⟨u,r,l⟩:=hl i x v e1 e2 e3;refine ⟨u,r,?_⟩;rcases l with l | ⟨k,c,e,z⟩
  ·exact .inl l
  ·exact .inr ⟨k,c,e,cellK x c e _ z⟩
 ·obtain ⟨v,z⟩:=I.cell x c e;exact ⟨v,cellK x c e v z⟩
 ·obtain ⟨m,⟨o,_,_,ho,_⟩,_⟩:=I.loc;exact free _ o (fun z => (hch _ z).2.1 rfl) ho I.free
 ·obtain ⟨v,o,ho,hd⟩:=I.cell x c e;exact free c o (fun z => (hch c z).2.2.1 x c e rfl) ho (I.freeC x c e)
 ·obtain ⟨e,n,ne,nf,d⟩:=I.pin p hp;have nch:p.1 ∉ ch:=fun z => (hch p.1 z).2.2.2 p hp rfl;exact ⟨keep p.1 p.2 ne nf nch e n,free p.1 p.2 nch e n,ne,nf,d⟩
theorem Inv.un {t':Nat} (I:Inv X pins σ H s) (u:Un X.fs [] H H' s.heap h') (hok:HOk X.prog X.w H' h'):Inv X pins σ H' { s with heap:=h',toks:=t' }:=by
 obtain ⟨m,⟨o,es,ep,ho,r⟩,_⟩:=id I.loc;obtain ⟨sl,hL⟩:=u.any ho I.free (by simp)
 exact I.step (g':=s.gens) (d':=s.drawn) (ch:=[]) (fun _ z => nomatch z) (fun b o _ hb _ e n => u.keep b o e n hb (by simp)) (fun b o _ hb _ e n => u.slot b o e n hb (by simp)) (fun b o _ e n => u.free b o e n (by simp)) (fun b o _ e => u.there b o e (by simp)) u.tups u.frzs u.tbls (fun m' hm => by
  obtain ⟨o',es',ep',ho',r'⟩:=hm;rw [ho] at ho';cases ho';exact ⟨_,es',ep',hL,r'⟩) hok I.bare
theorem Inv.call {g':Array GenState} {t':Nat} {d':Drawn} {ch:List Addr} (I:Inv X pins σ H s) (u:Un (frs X.stack) ch H H' s.heap h') (hok:HOk X.prog X.w H' h') (hg:AllBare g')
  (hch:∀ b ∈ ch,(b ∈ X.ex \/ X.s₀.heap.objs.size <= b) /\ b ≠ X.env.locals /\ (∀ x c,X.env.cells.lookup x = some c -> c ≠ b) /\ ∀ p ∈ X.pn ++ pins,p.1 ≠ b) :
  Inv X pins σ H' { s with heap:=h',gens:=g',drawn:=d',toks:=t' }:=by
 obtain ⟨m,⟨o,es,ep,ho,r⟩,_⟩:=id I.loc;obtain ⟨sl,hL⟩:=u.any ho I.free fun z => (hch _ z).2.1 rfl;exact I.step (ch:=ch) hch (fun b o hL hb hc e n => u.keep b o e n (fun z => (List.mem_cons.mp (I.stkSub b z)).elim hL hb) hc) (fun b o _ _ hc e n => u.any e n hc) (fun b o hc e n => u.free b o e n hc) (fun b o hc e => u.there b o e hc) u.tups u.frzs u.tbls (fun m' hm => by
  obtain ⟨o',es',ep',ho',r'⟩:=hm;rw [ho] at ho';cases ho';exact ⟨_,es',ep',hL,r'⟩) hok hg
theorem Inv.turned {t':Nat} {it:Addr} (I:Inv X pins σ H s) (k:∀ b o,b ≠ it -> s.heap.get? b = some o -> h'.get? b = some o) (hn:H it = none) (hL:it ≠ X.env.locals)
  (h1:it ∈ X.ex \/ X.s₀.heap.objs.size <= it) (h2:∀ x c,X.env.cells.lookup x = some c -> c ≠ it) (h3:∀ p ∈ X.pn ++ pins,p.1 ≠ it):Inv X pins σ H { s with heap:=h',toks:=t' }:=by
 have nit:∀ b u,H b = some u -> b ≠ it:=fun b u e z => by rw [z,hn] at e;cases e
 refine I.step (g':=s.gens) (d':=s.drawn) (ch:=[it]) (fun b hb => ?_) (fun b o _ _ hc e _ => k b o (fun z => hc (by simp [z])) e) (fun b o _ _ hc e _ => ⟨o.slots,k b o (fun z => hc (by simp [z])) e⟩) (fun _ _ _ _ n => n)
  (fun b o hc e => ⟨o,k b o (fun z => hc (by simp [z])) e⟩) (fun _ _ e => e) (fun _ _ _ e => e) (fun b ps e => ⟨#[],by rw [e];simp⟩) (fun m hm => ?_) (fun b u e => ?_) I.bare
 ·have e:b = it:=by simpa using hb
  subst e;exact ⟨h1,hL,h2,h3⟩
 ·obtain ⟨o,es,ep,ho,r⟩:=hm;exact ⟨o,es,ep,k _ o (Ne.symm hL) ho,r⟩
 ·refine (I.hok b u e).stay (fun c v hc q => k c v ?_ q) (fun _ q => q) (fun _ _ q => q) fun _ _ _ q => q;rcases hc with z | z
  ·rw [z];exact nit b u e
  ·exact nit c _ z
theorem Inv.tok (I:Inv X pins σ H s) (t:Nat):Inv X pins σ H { s with toks:=t }:=I.un (h':=s.heap) (t':=t) Un.refl I.hok
theorem Inv.kept {t':Nat} (I:Inv X pins σ H s) (k:∀ b u,s.heap.get? b = some u -> h'.get? b = some u):Inv X pins σ H { s with heap:=h',toks:=t' }:=I.un (Un.kept k) (I.hok.kept k)
theorem Inv.laid {a:Addr} {o:HO} {t':Nat} (I:Inv X pins σ H s) (k:∀ b u,s.heap.get? b = some u -> h'.get? b = some u) (hp:s.heap.objs.size <= a) (new:ObjOk X.prog X.w (upd H a o) h' a o) :
  Inv X pins σ (upd H a o) { s with heap:=h',toks:=t' }:=I.un (Un.laid k hp (I.hok.fresh hp)) (I.hok.laid k hp new)
theorem Inv.write {x e:Addr} {o:HO} {t':Nat} (I:Inv X pins σ H s) (mu:Mut (H x)) (he:e = x \/ H e = some (.own x)) (k:∀ b u,b ≠ e -> s.heap.get? b = some u -> h'.get? b = some u) (heo:∃ u,h'.get? e = some u)
  (new:ObjOk X.prog X.w (upd H x o) h' x o):Inv X pins σ (upd H x o) { s with heap:=h',toks:=t' }:=I.un (Un.write mu he k heo) (I.hok.write mu he k heo new)
theorem Inv.pins_of {pins':List (Addr × Obj)} (I:Inv X pins σ H s) (h:∀ p ∈ pins',s.heap.get? p.1 = some p.2 /\ H p.1 = none /\ p.1 ≠ X.env.locals /\ p.1 ∉ X.fs /\ ∀ v,p.2.data ≠ .cell v):Inv X pins' σ H s :=
 ⟨I.ok,I.os,I.bare,I.base,I.loc,I.cell,I.free,I.freeC,fun p hp => (List.mem_append.mp hp).elim (fun z => I.pin p (List.mem_append_left _ z)) (h p),I.hok,I.len⟩
theorem nodup_ix {N:List Str} (hN:N.Nodup) {i j:Nat} {x:Str} (a:N[i]? = some x) (b:N[j]? = some x):i = j:=by
 obtain ⟨h1,e1⟩:=List.getElem?_eq_some_iff.mp a;obtain ⟨h2,e2⟩:=List.getElem?_eq_some_iff.mp b;exact (List.getElem_inj hN).mp (e1.trans e2.symm)
theorem store_ok2 {M:Model} {A:Around} {E:Value -> Shared -> Prop} {i:Nat} {x:Str} {v:V} {u:Value} {Q:Unit -> Shared -> Prop} (I:Inv X pins σ H s) (hN:X.N.Nodup) (hi:X.N[i]? = some x) (hx:Loc X.env.scope x) (r:RelV v u)
  (h:∀ s',Inv X pins (σ.set i (some v)) H s' -> (∃ a,Heap.SameBut a s.heap s'.heap /\ (a = X.env.locals \/ X.env.cells.lookup x = some a)) -> Q () s') (hf:autoParam (X.fn x = true \/ X.env.scope.names.lookup x = some .local) L2.aLoc._auto_1):wpAny M A (storeName X.env x u) Q E s:=by
 obtain ⟨m,hn,hl⟩:=id I.loc;have hcls:(X.env.scope.kind == .class || (X.env.scope.kind == .module && X.env.locals != X.env.globals)) = false:=by rw [I.ok.kind];rfl
 have hiσ:i < σ.length:=by rw [I.len];exact (List.getElem?_eq_some_iff.mp hi).1
 have cne:=I.cne;have tracked:∀ {a:Addr} {h':Heap},(∃ o,s.heap.get? a = some o /\ H a = none) -> Heap.SameBut a s.heap h' -> HOk X.prog X.w H h':=fun {a h'} ha hs b ob e => by
  obtain ⟨_,_,hfree⟩:=ha;refine (I.hok b ob e).stay (fun c w' hc q => (hs.2 c ?_).trans q) (fun _ q => q) (fun _ _ q => q) fun _ _ _ q => q;rintro rfl;rcases hc with rfl | hc
  ·rw [hfree] at e;cases e
  ·rw [hfree] at hc;cases hc
 rcases hx with hk | hk
 ·refine wpAny_storeName_local hk hn (fun h' hn' hs => ?_) hcls;obtain ⟨oL,_,_,hoL,_⟩:=id hn;refine h _ ⟨I.ok,I.os,I.bare,⟨fun b o e n hb hx => ?_,fun b o e n hb hx => ?_,I.base.free,fun b o e hx => ?_,I.base.tups,I.base.frzs,I.base.tbls⟩,⟨_,hn',fun j y v' e1 e2 e3 => ?_⟩,fun y c e => ?_,I.free,I.freeC,fun p hp => ?_,tracked ⟨oL,hoL,I.free⟩ hs,by simpa using I.len⟩ ⟨_,hs,.inl rfl⟩
  ·exact (hs.2 b (Nat.ne_of_lt (Nat.lt_of_lt_of_le (Heap.lt_size e) I.ok.above))).trans (I.base.keep b o e n hb hx)
  ·obtain ⟨sl,e1⟩:=I.base.slot b o e n hb hx;exact ⟨sl,(hs.2 b (Nat.ne_of_lt (Nat.lt_of_lt_of_le (Heap.lt_size e) I.ok.above))).trans e1⟩
  ·obtain ⟨o',e1⟩:=I.base.there b o e hx;exact ⟨o',(hs.2 b (Nat.ne_of_lt (Nat.lt_of_lt_of_le (Heap.lt_size e) I.ok.above))).trans e1⟩
  ·by_cases hj:j = i
   ·subst hj;rw [hi] at e1;cases e1;rw [List.getElem?_set_self hiσ] at e2;cases e2;exact ⟨u,r,.inl ⟨hk,by simp⟩⟩
   ·rw [List.getElem?_set_ne (Ne.symm hj)] at e2;obtain ⟨u',r',q⟩:=hl j y v' e1 e2 e3;refine ⟨u',r',?_⟩;rcases q with ⟨k,e⟩ | ⟨k,c,e,z⟩
    ·refine .inl ⟨k,?_⟩;have:y ≠ x:=fun e => hj (nodup_ix hN e1 (e ▸ hi));simp [this,e]
    ·exact .inr ⟨k,c,e,z.sameBut hs (cne y c e)⟩
  ·obtain ⟨w',z⟩:=I.cell y c e;exact ⟨w',z.sameBut hs (cne y c e)⟩
  ·obtain ⟨e,n,ne,nf,d⟩:=I.pin p hp;exact ⟨(hs.2 p.1 ne).trans e,n,ne,nf,d⟩
 ·have hfn:X.fn x = true:=by
   rcases hf with z | z
   ·exact z
   ·rw [z] at hk;cases hk
  obtain ⟨c,hc⟩:=I.ok.has x (.inl hk);obtain ⟨w',z⟩:=I.cell x c hc;refine wpAny_storeName_cell I.ok.kind hk hc z (fun h' hc' hs => ?_);obtain ⟨oc,hoc,hocd⟩:=id z;refine h { s with heap:=h' } ⟨I.ok,I.os,I.bare,⟨fun b o e n hb hx => ?_,fun b o e n hb hx => ?_,I.base.free,fun b o e hx => ?_,I.base.tups,I.base.frzs,I.base.tbls⟩,⟨m,hn.sameBut hs (Ne.symm (cne x c hc)),fun j y v' e1 e2 e3 => ?_⟩,fun y c' e => ?_,I.free,I.freeC,fun p hp => ?_,tracked ⟨oc,hoc,I.freeC x c hc⟩ hs,by simpa using I.len⟩ ⟨c,hs,.inr hc⟩
  ·exact (hs.2 b (Nat.ne_of_lt (Nat.lt_of_lt_of_le (Heap.lt_size e) (I.ok.cab x c hfn hc)))).trans (I.base.keep b o e n hb hx)
  ·obtain ⟨sl,e1⟩:=I.base.slot b o e n hb hx;exact ⟨sl,(hs.2 b (Nat.ne_of_lt (Nat.lt_of_lt_of_le (Heap.lt_size e) (I.ok.cab x c hfn hc)))).trans e1⟩
  ·obtain ⟨o',e1⟩:=I.base.there b o e hx;exact ⟨o',(hs.2 b (Nat.ne_of_lt (Nat.lt_of_lt_of_le (Heap.lt_size e) (I.ok.cab x c hfn hc)))).trans e1⟩
  ·by_cases hj:j = i
   ·subst hj;rw [hi] at e1;cases e1;rw [List.getElem?_set_self hiσ] at e2;cases e2;exact ⟨u,r,.inr ⟨.inl hk,c,hc,hc'⟩⟩
   ·rw [List.getElem?_set_ne (Ne.symm hj)] at e2;obtain ⟨u',r',q⟩:=hl j y v' e1 e2 e3;refine ⟨u',r',?_⟩;rcases q with q | ⟨k,c',e,z'⟩
    ·exact .inl q
    ·refine .inr ⟨k,c',e,z'.sameBut hs ?_⟩;rintro rfl;exact hj (nodup_ix hN e1 (I.ok.inj _ _ _ e hc ▸ hi))
  ·by_cases hcc:c' = c
   ·subst hcc;exact ⟨_,hc'⟩
   ·obtain ⟨w2,z2⟩:=I.cell y c' e;exact ⟨w2,z2.sameBut hs hcc⟩
  ·obtain ⟨e,n,ne,nf,d⟩:=I.pin p hp;refine ⟨(hs.2 p.1 ?_).trans e,n,ne,nf,d⟩;intro q;rw [q,hoc] at e;have q':oc = p.2:=Option.some.inj e;exact d w' (by rw [<- q'];exact hocd)
theorem store_ok {M:Model} {A:Around} {E:Value -> Shared -> Prop} {i:Nat} {x:Str} {v:V} {u:Value} {Q:Unit -> Shared -> Prop} (I:Inv X pins σ H s) (hN:X.N.Nodup) (hi:X.N[i]? = some x) (hx:Loc X.env.scope x) (r:RelV v u)
  (h:∀ s',Inv X pins (σ.set i (some v)) H s' -> Q () s') (hf:autoParam (X.fn x = true \/ X.env.scope.names.lookup x = some .local) L2.aLoc._auto_1):wpAny M A (storeName X.env x u) Q E s :=
 store_ok2 I hN hi hx r (fun s' I' _ => h s' I') hf
theorem Inv.call' {s':Shared} {ch:List Addr} (I:Inv X pins σ H s) (ho:s'.os = s.os) (u:Un (frs X.stack) ch H H' s.heap s'.heap) (hok:HOk X.prog X.w H' s'.heap) (hg:AllBare s'.gens)
  (hch:∀ b ∈ ch,(b ∈ X.ex \/ X.s₀.heap.objs.size <= b) /\ b ≠ X.env.locals /\ (∀ x c,X.env.cells.lookup x = some c -> c ≠ b) /\ ∀ p ∈ X.pn ++ pins,p.1 ≠ b):Inv X pins σ H' s':=by
 obtain ⟨h',g',d',t',o'⟩:=s';have e:o' = s.os:=ho;subst e;exact I.call (g':=g') (t':=t') (d':=d') u hok hg hch
end
noncomputable abbrev XK:=Value -> Option Addr -> Hp -> Prop
noncomputable abbrev St:=List (Option V)
noncomputable abbrev VK:=V -> Hp -> Prop
noncomputable abbrev TE:=St -> Hp -> VK -> Prop
noncomputable abbrev TT:=St -> Hp -> (Bool -> Hp -> Prop) -> Prop
noncomputable abbrev TA:=St -> Hp -> (List V -> Hp -> Prop) -> Prop
structure Ends where
 nx:St -> Hp -> Prop
 rt:VK
 bk:St -> Hp -> Prop:=fun _ _ => False
 ct:St -> Hp -> Prop:=fun _ _ => False
noncomputable abbrev TS:=Ends -> St -> Hp -> Prop
def EP (X:Cx) (pins:List (Addr × Obj)) (σ:St) (Q:VK) (u:Value) (s':Shared):Prop:=∃ v H',Inv X pins σ H' s' /\ RelV v u /\ Q v H'
def TP (X:Cx) (pins:List (Addr × Obj)) (σ:St) (Q:Bool -> Hp -> Prop) (b:Bool) (s':Shared):Prop:=∃ H',Inv X pins σ H' s' /\ Q b H'
def AP (X:Cx) (pins:List (Addr × Obj)) (σ:St) (Q:List V -> Hp -> Prop) (us:List Value) (s':Shared):Prop:=∃ vs H',Inv X pins σ H' s' /\ Vals vs us /\ Q vs H'
def SP (X:Cx) (pins:List (Addr × Obj)) (D:Ends) (f:Flow) (s':Shared):Prop :=
 match f with
 | .next => ∃ σ' H',Inv X pins σ' H' s' /\ D.nx σ' H'
 | .brk => ∃ σ' H',Inv X pins σ' H' s' /\ D.bk σ' H'
 | .cont => ∃ σ' H',Inv X pins σ' H' s' /\ D.ct σ' H'
 | .ret u => ∃ v σ' H',Inv X pins σ' H' s' /\ RelV v u /\ D.rt v H'
def PE (X:Cx) (e:Expr) (t:TE):Prop :=
 ∀ (pins:List (Addr × Obj)) (s:Shared) (σ:St) (H:Hp) (Q:VK),Inv X pins σ H s -> t σ H Q -> wpAny (model X.prog X.w) X.A (eval e X.env) (EP X pins σ Q) X.xe s
def PT (X:Cx) (e:Expr) (t:TT):Prop :=
 ∀ (pins:List (Addr × Obj)) (s:Shared) (σ:St) (H:Hp) (Q:Bool -> Hp -> Prop),Inv X pins σ H s -> t σ H Q -> wpAny (model X.prog X.w) X.A (isTrue e X.env (eval e X.env)) (TP X pins σ Q) X.xe s
def PW (X:Cx) (e:Expr) (t:TT):Prop :=
 ∀ (whole:Sem Value) (pins:List (Addr × Obj)) (s:Shared) (σ:St) (H:Hp) (Q:Bool -> Hp -> Prop),Inv X pins σ H s -> t σ H Q -> wpAny (model X.prog X.w) X.A (isTrue e X.env whole) (TP X pins σ Q) X.xe s
theorem PW.pt {X:Cx} {e:Expr} {t:TT} (h:PW X e t):PT X e t:=h _
def PA (X:Cx) (es:List Expr) (t:TA):Prop :=
 ∀ (pos:Pos) (pins:List (Addr × Obj)) (s:Shared) (σ:St) (H:Hp) (Q:List V -> Hp -> Prop),Inv X pins σ H s -> t σ H Q -> wpAny (model X.prog X.w) X.A (spliced (backTo pos (starEach es X.env))) (AP X pins σ Q) X.xe s
def PS (X:Cx) (st:Stmt) (t:TS):Prop :=
 ∀ (pins:List (Addr × Obj)) (s:Shared) (σ:St) (H:Hp) (D:Ends),Inv X pins σ H s -> t D σ H -> wpAny (model X.prog X.w) X.A (exec st X.env) (SP X pins D) X.xe s
def PSs (X:Cx) (st:List Stmt) (t:TS):Prop :=
 ∀ (pins:List (Addr × Obj)) (s:Shared) (σ:St) (H:Hp) (D:Ends),Inv X pins σ H s -> t D σ H -> wpAny (model X.prog X.w) X.A (execs st X.env) (SP X pins D) X.xe s
theorem thn {α:Type} {t:Sem α} {Q Q':α -> Shared -> Prop} {M:Model} {A:Around} {E:Value -> Shared -> Prop} {s:Shared} (h:wpAny M A t Q E s) (hQ:∀ a s,Q a s -> Q' a s):wpAny M A t Q' E s:=wpAny_mono h hQ fun _ _ x => x
section
variable {X:Cx}
def tVar (i:Nat):TE:=fun σ H Q => ∃ v,σ[i]? = some (some v) /\ Q v H
def tC (v:V):TE:=fun _ H Q => Q v H
theorem pe_var {i:Nat} {x:Str} {pos:Pos} (hN:X.N[i]? = some x) (hv:Vis X.env.scope x) (hd:autoParam ((x == ("__debug__":Str)) = false) L2.aDec._auto_1) (hcd:autoParam ((x == ("__classdict__":Str)) = false) L2.aDec._auto_1):PE X (.Name x pos) (tVar i):=by
 intro pins s σ H Q I h;obtain ⟨v,e,h⟩:=h;obtain ⟨m,hn,hl⟩:=I.loc;obtain ⟨u,r,l⟩:=hl i x v hN e hv;have fin:EP X pins σ Q u s:=⟨v,H,I,r,h⟩;rcases l with ⟨hk,hm⟩ | ⟨hk,c,hc,hcell⟩
 ·exact wpAny_Name (wpAny_loadName_local I.ok.kind hk hn hm fin) hd
 ·rcases hk with hk | hk
  ·exact wpAny_Name (wpAny_loadName_cell I.ok.kind hk hc hcell fin) hd
  ·exact wpAny_Name (wpAny_loadName_free I.ok.kind hk hc hcell fin hcd) hd
theorem pe_int {i j pos}:PE X (.Constant (.int i) j pos) (tC (.int i)):=fun _ _ _ H _ I h => wpAny_Constant_int ⟨.int i,H,I.tok _,⟨_,rfl⟩,h⟩
theorem pe_bl {b j pos}:PE X (.Constant (.bool b) j pos) (tC (.bl b)):=fun _ _ _ H _ I h => Constant_bool ⟨.bl b,H,I,rfl,h⟩
theorem pe_non {j pos}:PE X (.Constant .none j pos) (tC .non):=fun _ _ _ H _ I h => Constant_none ⟨.non,H,I,rfl,h⟩
theorem pe_str {x j pos}:PE X (.Constant (.str x) j pos) (tC (.str x)):=fun _ _ _ H _ I h => Calls.Constant_str ⟨.str x,H,I.tok _,⟨_,rfl⟩,h⟩
def Gl (X:Cx) (x:Str):Prop:=X.env.kindOf x = some .globalImplicit
theorem ld_glob {E:Value -> Shared -> Prop} {pins:List (Addr × Obj)} {s:Shared} {σ:St} {H:Hp} {x:Str} {u:Value} {pos:Pos} {Q:Value -> Shared -> Prop} (I:Inv X pins σ H s) (hg:Gl X x) (hm:X.mg x = some u) (h:Q u s)
  (hd:autoParam ((x == ("__debug__":Str)) = false) L2.aDec._auto_1):wpAny (model X.prog X.w) X.A (eval (.Name x pos) X.env) Q E s :=
 Calls.Name_function_global I.ok.kind hg (Calls.loadGlobal_global (by rw [I.ok.glob];exact I.mod.glob.keeps I.bk) hm h) hd
theorem ld_blt {E:Value -> Shared -> Prop} {pins:List (Addr × Obj)} {s:Shared} {σ:St} {H:Hp} {x:Str} {u:Value} {pos:Pos} {Q:Value -> Shared -> Prop} (I:Inv X pins σ H s) (hg:Gl X x) (hm:X.mg x = none) (hv:bootBuiltins x = some u) (h:Q u s)
  (hn:autoParam (x ≠ "__name__") L2.aDec._auto_1) (hd:autoParam ((x == ("__debug__":Str)) = false) L2.aDec._auto_1):wpAny (model X.prog X.w) X.A (eval (.Name x pos) X.env) Q E s:=by
 obtain ⟨mb,h1,h2⟩:=I.mod.blt;exact Calls.Name_function_global I.ok.kind hg (Calls.loadGlobal_builtin (by rw [I.ok.glob];exact I.mod.glob.keeps I.bk) hm (by rw [I.ok.blt];exact h1.keeps I.bk) ((h2 x hn).trans hv) h) hd
theorem pe_glob {x:Str} {v:V} {u:Value} {pos:Pos} (hg:Gl X x) (hm:X.mg x = some u) (r:RelV v u) (hd:autoParam ((x == ("__debug__":Str)) = false) L2.aDec._auto_1):PE X (.Name x pos) (tC v) :=
 fun _ _ _ H _ I h => ld_glob I hg hm ⟨v,H,I,r,h⟩ hd
theorem pe_bltn {x:Str} {v:V} {u:Value} {pos:Pos} (hg:Gl X x) (hm:X.mg x = none) (hv:bootBuiltins x = some u) (r:RelV v u) (hn:autoParam (x ≠ "__name__") L2.aDec._auto_1) (hd:autoParam ((x == ("__debug__":Str)) = false) L2.aDec._auto_1):PE X (.Name x pos) (tC v) :=
 fun _ _ _ H _ I h => ld_blt I hg hm hv ⟨v,H,I,r,h⟩ hn hd
def t2I (ta tb:TE) (k:Int -> Int -> Hp -> Prop):St -> Hp -> Prop:=fun σ H => ta σ H fun x H1 => tb σ H1 fun y H2 => ∃ i j,x = .int i /\ y = .int j /\ k i j H2
variable {a b:Expr} {ta tb:TE} {pos:Pos}
def tCmp (p:Int -> Int -> Bool) (ta tb:TE):TE:=fun σ H Q => t2I ta tb (fun i j H2 => Q (.bl (p i j)) H2) σ H
noncomputable abbrev tEqI:TE -> TE -> TE:=tCmp fun i j => decide (i = j)
noncomputable abbrev tNeI:TE -> TE -> TE:=tCmp fun i j => !decide (i = j)
def tIsN (ta:TE):TE:=fun σ H Q => ta σ H fun x H1 => Q (.bl (decide (x = .non))) H1
variable {tA tB':TT} {rest:List Expr}
def tAnd (t u:TT):TT:=fun σ H Q => t σ H fun c H1 => if c = true then u σ H1 Q else Q false H1
def tOr (t u:TT):TT:=fun σ H Q => t σ H fun c H1 => if c = true then Q true H1 else u σ H1 Q
def tNot (t:TT):TT:=fun σ H Q => t σ H fun c H1 => Q (!c) H1
theorem pw_and1 (ha:PT X a tA):PW X (.BoolOp .And [a] pos) tA:=by
 intro wh pins s σ H Q I h;refine isTrue_and (thn (ha pins s σ H Q I h) fun c s1 e => ?_)
 cases c with
 | true => exact isTrue_and_nil e
 | false => exact e
theorem pw_or1 (ha:PT X a tA):PW X (.BoolOp .Or [a] pos) tA:=by
 intro wh pins s σ H Q I h;refine isTrue_or (thn (ha pins s σ H Q I h) fun c s1 e => ?_)
 cases c with
 | false => exact isTrue_or_nil e
 | true => exact e
theorem pw_and (ha:PT X a tA) (hb:PW X (.BoolOp .And (b :: rest) pos) tB'):PW X (.BoolOp .And (a :: b :: rest) pos) (tAnd tA tB'):=by
 intro wh pins s σ H Q I h;refine isTrue_and (thn (ha pins s σ H _ I h) fun c s1 ⟨H1,I1,q1⟩ => ?_)
 cases c with
 | true => exact hb wh pins s1 σ H1 Q I1 q1
 | false => exact ⟨H1,I1,q1⟩
theorem pw_or (ha:PT X a tA) (hb:PW X (.BoolOp .Or (b :: rest) pos) tB'):PW X (.BoolOp .Or (a :: b :: rest) pos) (tOr tA tB'):=by
 intro wh pins s σ H Q I h;refine isTrue_or (thn (ha pins s σ H _ I h) fun c s1 ⟨H1,I1,q1⟩ => ?_)
 cases c with
 | true => exact ⟨H1,I1,q1⟩
 | false => exact hb wh pins s1 σ H1 Q I1 q1
theorem pt_not (ha:PT X a tA):PT X (.UnaryOp .Not a pos) (tNot tA):=by
 intro pins s σ H Q I h;exact isTrue_not (ha pins s σ H (fun c H1 => Q (!c) H1) I h)
def tAndV (ta tb:TE):TE:=fun σ H Q => ta σ H fun x H1 => ∃ c,x = .bl c /\ if c = true then tb σ H1 Q else Q (.bl false) H1
def tOrV (ta tb:TE):TE:=fun σ H Q => ta σ H fun x H1 => ∃ c,x = .bl c /\ if c = true then Q (.bl true) H1 else tb σ H1 Q
def tNotV (ta:TE):TE:=fun σ H Q => ta σ H fun x H1 => ∃ c,x = .bl c /\ Q (.bl (!c)) H1
theorem pe_one {op} {t:TE} (h:PE X a t):PE X (.BoolOp op [a] pos) t:=fun pins s σ H Q I hw => BoolOp_one (h pins s σ H Q I hw)
theorem pe_and (ha:PE X a ta) (hb:PE X (.BoolOp .And (b :: rest) pos) tb):PE X (.BoolOp .And (a :: b :: rest) pos) (tAndV ta tb):=by
 intro pins s σ H Q I h;refine BoolOp_and (thn (ha pins s σ H _ I h) fun v s1 ⟨x,H1,I1,r1,q1⟩ => ?_);obtain ⟨c,rfl,q1⟩:=q1;cases r1;refine wpAny_truthy_bool ?_
 cases c with
 | true => exact hb pins s1 σ H1 Q I1 q1
 | false => exact ⟨.bl false,H1,I1,rfl,q1⟩
theorem pe_or (ha:PE X a ta) (hb:PE X (.BoolOp .Or (b :: rest) pos) tb):PE X (.BoolOp .Or (a :: b :: rest) pos) (tOrV ta tb):=by
 intro pins s σ H Q I h;refine BoolOp_or (thn (ha pins s σ H _ I h) fun v s1 ⟨x,H1,I1,r1,q1⟩ => ?_);obtain ⟨c,rfl,q1⟩:=q1;cases r1;refine wpAny_truthy_bool ?_
 cases c with
 | false => exact hb pins s1 σ H1 Q I1 q1
 | true => exact ⟨.bl true,H1,I1,rfl,q1⟩
theorem pe_not (ha:PE X a ta):PE X (.UnaryOp .Not a pos) (tNotV ta):=by
 intro pins s σ H Q I h;refine UnaryOp_ (thn (ha pins s σ H _ I h) fun v s1 ⟨x,H1,I1,r1,q1⟩ => ?_);obtain ⟨c,rfl,q1⟩:=q1;cases r1;exact not_of (wpAny_truthy_bool ⟨.bl (!c),H1,I1,rfl,q1⟩)
def tIf (t:TT) (ta tb:TE):TE:=fun σ H Q => t σ H fun c H1 => if c = true then ta σ H1 Q else tb σ H1 Q
theorem pe_ifExp {c:Expr} (hc:PT X c tA) (ha:PE X a ta) (hb:PE X b tb):PE X (.IfExp c a b pos) (tIf tA ta tb):=by
 intro pins s σ H Q I h;refine wpAny_IfExp (thn (hc pins s σ H _ I h) fun d s1 ⟨H1,I1,q1⟩ => ?_)
 cases d with
 | true => exact ha pins s1 σ H1 Q I1 q1
 | false => exact hb pins s1 σ H1 Q I1 q1
end
def SqL (K:PySem.W.Frag) (H:Hp) (a:Addr) (xs:List V):Prop :=
 Rd H a (.lst xs) \/
  ∃ (o:Obj) (its:Array Value) (n:Nat),K.lookup a = some o /\ o.cls = .type "list" /\ o.dict = none /\ o.data = .seq its n /\ its.size <= sizeLine /\ Vals xs its.toList
def SqT (K:PySem.W.Frag) (H:Hp) (a:Addr) (xs:List V):Prop :=
 Rd H a (.tup xs) \/
  ∃ (o:Obj) (its:Array Value) (n:Nat),K.lookup a = some o /\ o.cls = .type "tuple" /\ o.data = .seq its n /\ its.size <= sizeLine /\ Vals xs its.toList
def absV:Value -> Option V
 | .none => some .non
 | .bool b => some (.bl b)
 | .int i _ => some (.int i)
 | .str x _ => some (.str x)
 | .bytes b _ => some (.byt b)
 | .float b _ => some (.flt b)
 | .ref a => some (.ref a)
 | .type n => some (.ty n)
 | _ => none
theorem RelV.abs {x:V} {u:Value} (r:RelV x u):absV u = some x:=by
 cases x with
 | non => cases r;rfl
 | bl _ => cases r;rfl
 | int _ => obtain ⟨t,rfl⟩:=r;rfl
 | str _ => obtain ⟨t,rfl⟩:=r;rfl
 | byt _ => obtain ⟨t,rfl⟩:=r;rfl
 | flt _ => obtain ⟨t,rfl⟩:=r;rfl
 | ref _ => cases r;rfl
 | ty _ => cases r;rfl
theorem RelV.inj {x y:V} {u:Value} (r:RelV x u) (q:RelV y u):x = y:=Option.some.inj (r.abs.symm.trans q.abs)
theorem Vals.inj:∀ {xs ys:List V} {us:List Value},Vals xs us -> Vals ys us -> xs = ys
 | _,_,_,.nil,.nil => rfl
 | _,_,_,.cons r t,.cons r' t' => by rw [r.inj r',Vals.inj t t']
section
variable {X:Cx} {pins:List (Addr × Obj)} {σ:St} {H:Hp} {s:Shared} {a:Addr} {xs ys:List V}
theorem SqL.of {K:PySem.W.Frag} (h:H a = some (.lst xs)):SqL K H a xs:=.inl (.inl h)
theorem SqT.of {K:PySem.W.Frag} (h:H a = some (.tup xs)):SqT K H a xs:=.inl (.inl h)
theorem Inv.list (I:Inv X pins σ H s) (h:SqL X.K H a xs):∃ its:List Value,Vals xs its /\ PlainL s.heap a its.toArray /\ xs.length <= sizeLine:=by
 rcases h with h | ⟨o,its,n,hk,hc,hd,hs,hz,r⟩
 ·obtain ⟨z,its,n,r,e⟩:=h.ok I.hok;exact ⟨its,r,⟨_,n,e,rfl,rfl,rfl⟩,z⟩
 ·refine ⟨its.toList,r,⟨o,n,I.kIn a o hk,hc,hd,by simpa using hs⟩,?_⟩
  have e:=r.length;simp only [Array.length_toList] at e;lia
theorem Inv.tuple (I:Inv X pins σ H s) (h:SqT X.K H a xs):∃ its:List Value,Vals xs its /\ IsTup s.heap a its.toArray /\ xs.length <= sizeLine:=by
 rcases h with h | ⟨o,its,n,hk,hc,hs,hz,r⟩
 ·obtain ⟨z,its,r,p⟩:=h.ok I.hok;exact ⟨its,r,p.to,z⟩
 ·refine ⟨its.toList,r,⟨o,I.kIn a o hk,hc,n,by simpa using hs⟩,?_⟩
  have e:=r.length;simp only [Array.length_toList] at e;lia
theorem Inv.list_inj (I:Inv X pins σ H s) (h:SqL X.K H a xs) (h':SqL X.K H a ys):xs = ys:=by
 obtain ⟨its,r,⟨o,n,e,_,_,d⟩,_⟩:=I.list h;obtain ⟨its',r',⟨o',n',e',_,_,d'⟩,_⟩:=I.list h';rw [e] at e';cases e';rw [d] at d'
 injection d' with d1 _
 have:its = its':=by simpa using congrArg Array.toList d1
 subst this;exact r.inj r'
theorem Inv.tuple_inj (I:Inv X pins σ H s) (h:SqT X.K H a xs) (h':SqT X.K H a ys):xs = ys:=by
 obtain ⟨its,r,⟨o,e,_,n,d⟩,_⟩:=I.tuple h;obtain ⟨its',r',⟨o',e',_,n',d'⟩,_⟩:=I.tuple h';rw [e] at e';cases e';rw [d] at d'
 injection d' with d1 _
 have:its = its':=by simpa using congrArg Array.toList d1
 subst this;exact r.inj r'
end
noncomputable abbrev Cx.wish (X:Cx) (E:Value -> Shared -> Prop):Cx:={ X with xe:=E }
noncomputable abbrev Cx.nox (X:Cx):Cx:=X.wish fun _ _ => False
theorem Cx.Ok.wish {X:Cx} (ok:X.Ok) (E:Value -> Shared -> Prop):(X.wish E).Ok :=
 ⟨ok.mod,ok.kind,ok.glob,ok.blt,ok.above,ok.inj,ok.has,ok.cab,ok.hd,ok.frames,ok.stk,ok.exf,ok.bs,ok.bsz,ok.noex,ok.exfs,ok.funs,ok.frf,ok.tabs⟩
theorem Cx.Ok.unwish {X:Cx} {E:Value -> Shared -> Prop} (ok:(X.wish E).Ok):X.Ok :=
 ⟨ok.mod,ok.kind,ok.glob,ok.blt,ok.above,ok.inj,ok.has,ok.cab,ok.hd,ok.frames,ok.stk,ok.exf,ok.bs,ok.bsz,ok.noex,ok.exfs,ok.funs,ok.frf,ok.tabs⟩
section
variable {X:Cx} {pins:List (Addr × Obj)} {σ:St} {H:Hp} {s:Shared} {E:Value -> Shared -> Prop}
theorem Inv.wish (I:Inv X pins σ H s) (E:Value -> Shared -> Prop):Inv (X.wish E) pins σ H s:=⟨I.ok.wish E,I.os,I.bare,I.base,I.loc,I.cell,I.free,I.freeC,I.pin,I.hok,I.len⟩
theorem Inv.unwish (I:Inv (X.wish E) pins σ H s):Inv X pins σ H s:=⟨I.ok.unwish,I.os,I.bare,I.base,I.loc,I.cell,I.free,I.freeC,I.pin,I.hok,I.len⟩
theorem SP.unwish {D:Ends} {f:Flow} {s':Shared} (h:SP (X.wish E) pins D f s'):SP X pins D f s':=by
 cases f with
 | next => obtain ⟨σ',H',I,q⟩:=h;exact ⟨σ',H',I.unwish,q⟩
 | brk => obtain ⟨σ',H',I,q⟩:=h;exact ⟨σ',H',I.unwish,q⟩
 | cont => obtain ⟨σ',H',I,q⟩:=h;exact ⟨σ',H',I.unwish,q⟩
 | ret u => obtain ⟨v,σ',H',I,r,q⟩:=h;exact ⟨v,σ',H',I.unwish,r,q⟩
theorem PSs.nox {st:List Stmt} {t:TS} (h:PSs X.nox st t):PSs X st t:=fun pins s σ H D I hw =>
 wpAny_mono (h pins s σ H D (I.wish _) hw) (fun _ _ q => q.unwish) fun _ _ z => False.elim z
end
section
variable {X:Cx} {st:Stmt} {rest:List Stmt} {t u:TS} {e:Expr} {te:TE} {pos:Pos}
def tNext:TS:=fun D σ H => D.nx σ H
def tSeq (t u:TS):TS:=fun D σ H => t { D with nx:=u D } σ H
theorem pss_nil:PSs X [] tNext:=fun _ _ σ H _ I h => wpAny_execs_nil ⟨σ,H,I,h⟩
theorem pss_cons (h1:PS X st t) (h2:PSs X rest u):PSs X (st :: rest) (tSeq t u):=by
 intro pins s σ H D I h;refine wpAny_execs_cons (thn (h1 pins s σ H { D with nx:=u D } I h) fun f s1 q => ?_)
 cases f with
 | next =>
  obtain ⟨σ',H',I',q⟩:=q;exact h2 pins s1 σ' H' D I' q
 | ret v => exact q
 | brk => exact q
 | cont => exact q
theorem pss_one (h1:PS X st t):PSs X [st] t:=by
 intro pins s σ H D I h;refine wpAny_execs_cons (thn (h1 pins s σ H D I h) fun f s1 q => ?_)
 cases f with
 | next => exact wpAny_execs_nil q
 | ret v => exact q
 | brk => exact q
 | cont => exact q
theorem Inv.quiet {pins:List (Addr × Obj)} {σ:St} {H:Hp} {s:Shared} (I:Inv X pins σ H s):interactive X.env = false:=by simp [interactive,I.ok.kind]
def tDrop (te:TE):TS:=fun D σ H => te σ H fun _ H1 => D.nx σ H1
theorem ps_expr (he:PE X e te) (hs:autoParam (swapsWith e none pos.line X.env = pure false) L2.aRfl._auto_1):PS X (.Expr e pos) (tDrop te):=by
 intro pins s σ H D I h;exact wpAny_Expr_any (thn (he pins s σ H _ I h) fun v s1 ⟨x,H1,I1,r1,q1⟩ => ⟨σ,H1,I1,q1⟩) I.quiet hs
def tRet (te:TE):TS:=fun D σ H => te σ H D.rt
theorem ps_ret (he:PE X e te):PS X (.Return (some e) pos) (tRet te):=by
 intro pins s σ H D I h;exact wpAny_Return_some (thn (he pins s σ H _ I h) fun v s1 ⟨x,H1,I1,r1,q1⟩ => ⟨x,σ,H1,I1,r1,q1⟩)
def tIfS (c:TT) (t u:TS):TS:=fun D σ H => c σ H fun b H1 => if b = true then t D σ H1 else u D σ H1
theorem ps_if {c:Expr} {a b:List Stmt} {tc:TT} (hc:PT X c tc) (ha:PSs X a t) (hb:PSs X b u):PS X (.If c a b pos) (tIfS tc t u):=by
 intro pins s σ H D I h;refine wpAny_If (thn (hc pins s σ H _ I h) fun d s1 ⟨H1,I1,q1⟩ => ?_)
 cases d with
 | true => exact ha pins s1 σ H1 D I1 q1
 | false => exact hb pins s1 σ H1 D I1 q1
end
noncomputable abbrev TG:=V -> St -> Hp -> (St -> Hp -> Prop) -> Prop
noncomputable abbrev TGs:=List V -> St -> Hp -> (St -> Hp -> Prop) -> Prop
def PG (X:Cx) (target:Expr) (t:TG):Prop :=
 ∀ (pins:List (Addr × Obj)) (s:Shared) (σ:St) (H:Hp) (v:V) (u:Value) (Q:St -> Hp -> Prop),Inv X pins σ H s -> RelV v u -> t v σ H Q ->
  wpAny (model X.prog X.w) X.A (assign target X.env u) (fun _ s' => ∃ σ' H',Inv X pins σ' H' s' /\ Q σ' H') X.xe s
def PGs (X:Cx) (ts:List Expr) (t:TGs):Prop :=
 ∀ (pins:List (Addr × Obj)) (s:Shared) (σ:St) (H:Hp) (vs:List V) (us:List Value) (Q:St -> Hp -> Prop),Inv X pins σ H s -> Vals vs us -> t vs σ H Q ->
  wpAny (model X.prog X.w) X.A (assignInOrder ((assignEach ts X.env).map (·.2)) us) (fun _ s' => ∃ σ' H',Inv X pins σ' H' s' /\ Q σ' H') X.xe s
noncomputable abbrev TSet:=V -> V -> V -> Hp -> (Hp -> Prop) -> Prop
def PSet (X:Cx) (t:TSet):Prop :=
 ∀ (pins:List (Addr × Obj)) (s:Shared) (σ:St) (H:Hp) (o i v:V) (ov iv u:Value) (Q:Hp -> Prop),Inv X pins σ H s -> RelV o ov -> RelV i iv -> RelV v u -> t o i v H Q ->
  wpAny (model X.prog X.w) X.A (setItem ov iv u) (fun _ s' => ∃ H',Inv X pins σ H' s' /\ Q H') X.xe s
section
variable {X:Cx} {pos:Pos}
def gName (i:Nat):TG:=fun v σ H Q => Q (σ.set i (some v)) H
theorem pg_name {i:Nat} {x:Str} (hN:X.N.Nodup) (hi:X.N[i]? = some x) (hx:Loc X.env.scope x) (hf:autoParam (X.fn x = true \/ X.env.scope.names.lookup x = some .local) L2.aLoc._auto_1):PG X (.Name x pos) (gName i):=by
 intro pins s σ H v u Q I r h;exact wpAny_assign_Name (store_ok I hN hi hx r (fun s' I' => ⟨_,H,I',h⟩) hf)
def gNil:TGs:=fun vs σ H Q => vs = [] /\ Q σ H
def gCons (t:TG) (u:TGs):TGs:=fun vs σ H Q => ∃ v r,vs = v :: r /\ t v σ H fun σ' H' => u r σ' H' Q
theorem pgs_nil:PGs X [] gNil:=by
 intro pins s σ H vs us Q I r h;obtain ⟨e,h⟩:=h;subst e;cases r;exact assignInOrder_nil ⟨σ,H,I,h⟩
theorem pgs_cons {e:Expr} {es:List Expr} {t:TG} {u:TGs} (h1:PG X e t) (h2:PGs X es u)
  (hs:autoParam ((assignEach (e :: es) X.env).map (·.2) = assign e X.env :: (assignEach es X.env).map (·.2)) L2.aRfl._auto_1):PGs X (e :: es) (gCons t u):=by
 intro pins s σ H vs us Q I r h;obtain ⟨v,vr,e1,h⟩:=h;subst e1
 cases r with
 | cons r rr =>
  rw [hs];refine assignInOrder_cons (thn (h1 pins s σ H _ _ _ I r h) fun _ s1 ⟨σ1,H1,I1,q1⟩ => ?_);exact h2 pins s1 σ1 H1 _ _ Q I1 rr q1
def gTup (K:PySem.W.Frag) (n:Nat) (t:TGs):TG:=fun v σ H Q => ∃ a xs,v = .ref a /\ SqT K H a xs /\ xs.length = n /\ t xs σ H Q
theorem pg_tup {es:List Expr} {k:Nat} {t:TGs} {n:Nat} (hc:X.calm = true) (h:PGs X es t)
  (hn:autoParam ((assignEach es X.env).length = n) L2.aRfl._auto_1) (hst:autoParam ((assignEach es X.env).findIdx? (·.1) = none) L2.aRfl._auto_1):PG X (.Tuple es k pos) (gTup X.K n t):=by
 intro pins s σ H v u Q I r hw;obtain ⟨a,xs,e1,hq,hl,hw⟩:=hw;subst e1;cases r;obtain ⟨its,rv,ht,hz⟩:=I.tuple hq;refine assign_Tuple_tuple (I.ok.hd hc) ht (by simp [hn,<- hl,rv.length]) hst fun h' hx => ?_
 have I1:Inv X pins σ H { s with heap:=h' }:=I.kept (t':=s.toks) fun b o e => hx b o (Nat.ne_of_lt (Heap.lt_size e)) e
 exact h pins _ σ H xs _ Q I1 (by simpa using rv) hw
def gSub (to ti:TE) (t:TSet):TG:=fun v σ H Q => to σ H fun o H1 => ti σ H1 fun i H2 => t o i v H2 fun H3 => Q σ H3
theorem pg_sub {o i:Expr} {to ti:TE} {t:TSet} (ho:PE X o to) (hi:PE X i ti) (hs:PSet X t)
  (ha:∀ v,assign (.Subscript o i pos) X.env v = (do
   let ov <- holding [v] (eval o X.env)
   let iv <- holding [v,ov] (eval i X.env)
   standAt pos
   holding [v,ov,iv] (setItem ov iv v)
   release [v,ov,iv] []):=by intro _;rfl):PG X (.Subscript o i pos) (gSub to ti t):=by
 intro pins s σ H v u Q I r h;rw [ha];refine wpAny_bind (wpAny_holding (thn (ho pins s σ H _ I h) fun ov s1 ⟨x,H1,I1,r1,q1⟩ => ?_));refine wpAny_bind (wpAny_holding (thn (hi pins s1 σ H1 _ I1 q1) fun iv s2 ⟨y,H2,I2,r2,q2⟩ => ?_));refine wpAny_bind (wpAny_standAt (wpAny_bind (wpAny_holding (thn (hs pins s2 σ H2 x y v ov iv u _ I2 r1 r2 r q2) fun _ s3 ⟨H3,I3,q3⟩ => ?_))));exact wpAny_release ⟨σ,H3,I3,q3⟩
def tAsg (te:TE) (g:TG):TS:=fun D σ H => te σ H fun x H1 => g x σ H1 D.nx
theorem ps_asg {tg e:Expr} {te:TE} {g:TG} (he:PE X e te) (hg:PG X tg g) (hs:autoParam (swapsWithSole [tg] e pos.line X.env = pure false) L2.aRfl._auto_1) (hw:autoParam (swappedStores [tg] e X.env = pure none) L2.aRfl._auto_1)
  (h1:autoParam ((assignEach [tg] X.env).map (·.2) = [assign tg X.env]) L2.aRfl._auto_1):PS X (.Assign [tg] e pos) (tAsg te g):=by
 intro pins s σ H D I h;refine wpAny_Assign_stores (thn (he pins s σ H _ I h) fun v s1 ⟨x,H1,I1,r1,q1⟩ => ?_) hs hw;rw [h1];exact thn (hg pins s1 σ H1 x v _ I1 r1 q1) fun _ s2 q => q
theorem ps_set {i:Nat} {x:Str} {e:Expr} {te:TE} {pos':Pos} (hN:X.N.Nodup) (hi:X.N[i]? = some x) (hx:Loc X.env.scope x) (he:PE X e te) (hs:autoParam (swapsWith e (some (.Name x pos')) pos.line X.env = pure false) L2.aRfl._auto_1) (hf:autoParam (X.fn x = true \/ X.env.scope.names.lookup x = some .local) L2.aLoc._auto_1) :
  PS X (.Assign [.Name x pos'] e pos) (tAsg te (gName i)):=by
 intro pins s σ H D I h;refine wpAny_Assign_Name (thn (he pins s σ H _ I h) fun v s1 ⟨y,H1,I1,r1,q1⟩ => ?_) hs;exact store_ok I1 hN hi hx r1 (fun s2 I2 => ⟨_,H1,I2,q1⟩) hf
end
section
variable {X:Cx} {pos:Pos}
end
structure It where
 go:Nat -> Hp -> Prop
 yld:Nat -> Hp -> V -> Hp -> Prop
 stop:Nat -> Hp -> Prop
def FpOk (X:Cx) (pins:List (Addr × Obj)) (H:Hp) (b:Addr):Prop :=
 H b = none /\ b ≠ X.env.locals /\ b ∉ X.fs /\ (b ∈ X.ex \/ X.s₀.heap.objs.size <= b) /\ (∀ x c,X.env.cells.lookup x = some c -> c ≠ b) /\ ∀ p ∈ X.pn ++ pins,p.1 ≠ b
theorem Inv.fpOk {X:Cx} {pins:List (Addr × Obj)} {σ:St} {H H':Hp} {s:Shared} {b:Addr} (I:Inv X pins σ H s) (hb:s.heap.objs.size <= b) (hn:H' b = none):FpOk X pins H' b:=by
 refine ⟨hn,Nat.ne_of_gt (Nat.lt_of_lt_of_le I.lt hb),I.nofs hb,.inr (Nat.le_trans I.sz hb),fun x c e z => ?_,fun p hp z => ?_⟩
 ·obtain ⟨v,q⟩:=I.cell x c e;exact absurd (Nat.lt_of_lt_of_le q.lt (by rw [z];exact hb)) (Nat.lt_irrefl _)
 ·exact absurd (Nat.lt_of_lt_of_le (Heap.lt_size (I.pin p hp).1) (by rw [z];exact hb)) (Nat.lt_irrefl _)
structure Turn (P:Program) (w:World) (K:PySem.W.Frag) (tg:Expr) (J:It) (fp:List Addr) (it:Addr) (tn:Nat -> Heap -> Prop):Prop where
 mem:it ∈ fp
 obj:∀ i h,tn i h -> ∀ b ∈ fp,∃ o,h.get? b = some o /\ ∀ v,o.data ≠ .cell v
 keep:∀ i h h',tn i h -> (∀ b ∈ fp,∀ o,h.get? b = some o -> h'.get? b = some o) -> tn i h'
 item:∀ (X:Cx),X.prog = P -> X.w = w -> X.K = K -> X.calm = true -> ∀ (i:Nat) (pins:List (Addr × Obj)) (s:Shared) (σ:St) (H:Hp) (E:Value -> Shared -> Prop),Inv X pins σ H s -> (∀ b ∈ fp,FpOk X pins H b) -> tn i s.heap -> J.go i H ->
  wpAny (model P w) X.A (pyNext (.ref it)) (fun r s1 => ∃ u,r = some u /\
   wpAny (model P w) X.A (letOwnedTupleGo tg (.ref it) u) (fun _ s2 => ∃ x H',Inv X pins σ H' s2 /\ RelV x u /\ J.yld i H x H' /\ tn (i + 1) s2.heap /\ ∀ b ∈ fp,H' b = none) E s1) E s
 done:∀ (X:Cx),X.prog = P -> X.w = w -> X.K = K -> X.calm = true -> ∀ (i:Nat) (pins:List (Addr × Obj)) (s:Shared) (σ:St) (H:Hp) (E:Value -> Shared -> Prop),Inv X pins σ H s -> (∀ b ∈ fp,FpOk X pins H b) -> tn i s.heap -> J.stop i H ->
  wpAny (model P w) X.A (pyNext (.ref it)) (fun r s1 => r = none /\ Inv X pins σ H s1) E s
 self:∀ (A:Around) (i:Nat) (s:Shared) (Q:Value -> Shared -> Prop) (E:Value -> Shared -> Prop),tn i s.heap -> Q (.ref it) s -> wpAny (model P w) A (pyIter (.ref it)) Q E s
noncomputable abbrev TI:=St -> Hp -> (It -> Hp -> Prop) -> Prop
def PIE (X:Cx) (pins:List (Addr × Obj)) (σ:St) (tg:Expr) (R:It -> Hp -> Prop) (itv:Value) (s2:Shared):Prop :=
 ∃ (it:Addr) (fp:List Addr) (tn:Nat -> Heap -> Prop) (J:It) (H':Hp),itv = .ref it /\ Inv X pins σ H' s2 /\ Turn X.prog X.w X.K tg J fp it tn /\ tn 0 s2.heap /\ (∀ b ∈ fp,FpOk X pins H' b) /\ R J H'
def PI (X:Cx) (tg iter:Expr) (wi:TI):Prop :=
 ∀ (pins:List (Addr × Obj)) (s:Shared) (σ:St) (H:Hp) (R:It -> Hp -> Prop),Inv X pins σ H s -> wi σ H R ->
  wpAny (model X.prog X.w) X.A (eval iter X.env) (fun v s1 => wpAny (model X.prog X.w) X.A (pyIter v) (PIE X pins σ tg R) X.xe s1) X.xe s
theorem go_of {M:Model} {A:Around} {E:Value -> Shared -> Prop} {s:Shared} {tg:Expr} {it:Addr} {u:Value} {o:Obj} {n:String} {vs:Array Value} {Q:Unit -> Shared -> Prop} (ho:s.heap.get? it = some o) (hc:o.cls = .type n) (hd:o.data = .fields vs)
    (hn:["enumerate","zip","dict_itemiterator","dict_reverseitemiterator","odict_iterator","itertools.zip_longest","itertools.pairwise"].contains n = false) (hQ:Q () s):wpAny M A (letOwnedTupleGo tg (.ref it) u) Q E s:=by
  unfold letOwnedTupleGo
  cases tg <;> first
    | exact wpAny_pure hQ
    | (cases u <;> first
        | exact wpAny_pure hQ
        | (refine wpAny_bind (wpAny_load ho ?_)
           rw [hc,hd];show wpAny M A (if (["enumerate","zip","dict_itemiterator","dict_reverseitemiterator","odict_iterator","itertools.zip_longest","itertools.pairwise"].contains n && vs[0]? == some (rawInt _)) = true then _ else _) Q E s
           rw [if_neg (by intro h;rw [hn,Bool.false_and] at h;cases h)]
           exact wpAny_pure hQ))
def Itl (K:PySem.W.Frag) (a:Addr):It :=
 ⟨fun i H => ∃ xs x,SqL K H a xs /\ xs[i]? = some x,fun i H x H' => H' = H /\ ∀ xs,SqL K H a xs -> xs[i]? = some x,fun i H => ∃ xs,SqL K H a xs /\ xs.length <= i⟩
def Itt (K:PySem.W.Frag) (a:Addr):It :=
 ⟨fun i H => ∃ xs x,SqT K H a xs /\ xs[i]? = some x,fun i H x H' => H' = H /\ ∀ xs,SqT K H a xs -> xs[i]? = some x,fun i H => ∃ xs,SqT K H a xs /\ xs.length <= i⟩
def Itr (lo:Int) (n:Nat):It:=⟨fun i _ => i < n,fun i H x H' => H' = H /\ x = .int (lo + i),fun i _ => n <= i⟩
theorem turn_list {P:Program} {w:World} {K:PySem.W.Frag} {tg:Expr} (a it:Addr):Turn P w K tg (Itl K a) [it] it (fun i h => h.IsListIter it a i) where
 mem:=by simp
 obj:=fun i h st b hb => by
  have e:b = it:=by simpa using hb
  subst e;obtain ⟨o,e,c,d⟩:=st;exact ⟨o,e,fun v z => by rw [d] at z;cases z⟩
 keep:=fun i h h' st k => st.at fun o e => k it (by simp) o e
 item:=by
  intro X hP hw hK hc i pins s σ H E I hf st hg;subst hP hw hK;obtain ⟨xs,x,hq,hx⟩:=hg;obtain ⟨its,rv,p,hz⟩:=I.list hq;obtain ⟨u,hu,ru⟩:=rv.get hx;obtain ⟨f0,f1,f2,f3,f4,f5⟩:=hf it (by simp)
  refine wpAny_pyNext_list_item st p.isList (x:=u) (by simpa using hu) fun h' st' sb => ?_
  have I1:Inv X pins σ H { s with heap:=h' }:=I.turned (t':=s.toks) (fun b o hb e => (sb.2 b hb).trans e) f0 f1 f3 f4 f5
  obtain ⟨o,e,c,d⟩:=id st';exact ⟨u,rfl,go_of (s:={ s with heap:=h' }) e c d (by decide) ⟨x,H,I1,ru,⟨rfl,fun ys hy => by rw [I.list_inj hy hq];exact hx⟩,st',fun b hb => (hf b hb).1⟩⟩
 done:=by
  intro X hP hw hK hc i pins s σ H E I hf st hg;subst hP hw hK;obtain ⟨xs,hq,hx⟩:=hg;obtain ⟨its,rv,p,hz⟩:=I.list hq;obtain ⟨f0,f1,f2,f3,f4,f5⟩:=hf it (by simp)
  have hl:=rv.length;exact wpAny_pyNext_list_end (I.ok.hd hc) st p.isList (by simp;lia) fun h' eb => ⟨rfl,I.turned (t':=s.toks) (fun b o hb e => eb b o hb e) f0 f1 f3 f4 f5⟩
 self:=fun _ _ _ _ _ st h => wpAny_pyIter_listiter st h
theorem turn_tuple {P:Program} {w:World} {K:PySem.W.Frag} {tg:Expr} (a it:Addr):Turn P w K tg (Itt K a) [it] it (fun i h => h.IsTupleIter it a i) where
 mem:=by simp
 obj:=fun i h st b hb => by
  have e:b = it:=by simpa using hb
  subst e;obtain ⟨o,e,c,d⟩:=st;exact ⟨o,e,fun v z => by rw [d] at z;cases z⟩
 keep:=fun i h h' st k => st.at fun o e => k it (by simp) o e
 item:=by
  intro X hP hw hK hc i pins s σ H E I hf st hg;subst hP hw hK;obtain ⟨xs,x,hq,hx⟩:=hg;obtain ⟨its,rv,p,hz⟩:=I.tuple hq;obtain ⟨u,hu,ru⟩:=rv.get hx;obtain ⟨f0,f1,f2,f3,f4,f5⟩:=hf it (by simp)
  refine wpAny_pyNext_tuple_item st (show s.heap.IsTuple a its.toArray from p) (x:=u) (by simpa using hu) fun h' st' sb => ?_
  have I1:Inv X pins σ H { s with heap:=h' }:=I.turned (t':=s.toks) (fun b o hb e => (sb.2 b hb).trans e) f0 f1 f3 f4 f5
  obtain ⟨o,e,c,d⟩:=id st';exact ⟨u,rfl,go_of (s:={ s with heap:=h' }) e c d (by decide) ⟨x,H,I1,ru,⟨rfl,fun ys hy => by rw [I.tuple_inj hy hq];exact hx⟩,st',fun b hb => (hf b hb).1⟩⟩
 done:=by
  intro X hP hw hK hc i pins s σ H E I hf st hg;subst hP hw hK;obtain ⟨xs,hq,hx⟩:=hg;obtain ⟨its,rv,p,hz⟩:=I.tuple hq;obtain ⟨f0,f1,f2,f3,f4,f5⟩:=hf it (by simp)
  have hl:=rv.length;exact wpAny_pyNext_tuple_end (I.ok.hd hc) st (show s.heap.IsTuple a its.toArray from p) (by simp;lia) fun h' eb => ⟨rfl,I.turned (t':=s.toks) (fun b o hb e => eb b o hb e) f0 f1 f3 f4 f5⟩
 self:=fun _ _ _ _ _ st h => wpAny_pyIter_tupleiter st h
theorem turn_range {P:Program} {w:World} {K:PySem.W.Frag} {tg:Expr} (it:Addr) (lo:Int) (n:Nat):Turn P w K tg (Itr lo n) [it] it (fun i h => IsRangeIter h it (lo + (i:Nat) * 1) ((n:Int) - (i:Nat)) 1) where
 mem:=by simp
 obj:=fun i h st b hb => by
  have e:b = it:=by simpa using hb
  subst e;exact ⟨_,st,fun v z => by
   have z':Data.fields _ = Data.cell v:=z
   cases z'⟩
 keep:=fun i h h' st k => k it (by simp) _ st
 item:=by
  intro X hP hw hK hc i pins s σ H E I hf st hg;subst hP hw hK;obtain ⟨f0,f1,f2,f3,f4,f5⟩:=hf it (by simp)
  have W:=Walks.range (prog:=X.prog) (w:=X.w) (I.ok.hd hc) it lo 1 n;refine W.item i s _ _ hg st fun v h' tk hv st' kk => ?_;obtain ⟨t,rfl⟩:=hv;have I1:Inv X pins σ H { s with heap:=h',toks:=tk }:=I.turned (fun b o hb e => kk b o (by simpa using hb) e) f0 f1 f3 f4 f5
  refine ⟨_,rfl,go_of (s:={ s with heap:=h',toks:=tk }) (n:="range_iterator") st' rfl rfl (by decide) ⟨.int (lo + i),H,I1,⟨t,?_⟩,⟨rfl,rfl⟩,st',fun b hb => (hf b hb).1⟩⟩
  rw [Int.mul_one]
 done:=by
  intro X hP hw hK hc i pins s σ H E I hf st hg;subst hP hw hK;obtain ⟨f0,f1,f2,f3,f4,f5⟩:=hf it (by simp)
  exact wpAny_pyNext_range_end (I.ok.hd hc) st (by have:n <= i:=hg;lia) fun h' eb => ⟨rfl,I.turned (t':=s.toks) (fun b o hb e => eb b o hb e) f0 f1 f3 f4 f5⟩
 self:=fun _ _ _ _ _ st h => wpAny_pyIter_rangeiter st h
section
variable {X:Cx} {tg:Expr}
theorem range_it {pins:List (Addr × Obj)} {σ:St} {H:Hp} {s:Shared} {R:It -> Hp -> Prop} {E:Value -> Shared -> Prop} {lo hi:Int} {t u v:Tok} {tk:Nat} (I:Inv X pins σ H s) (h1:-(2 ^ 62) <= lo) (h2:lo < 2 ^ 62) (h3:-(2 ^ 62) <= hi) (h4:hi < 2 ^ 62)
  (q:R (Itr lo (hi - lo).toNat) H):wpAny (model X.prog X.w) X.A (pyIter (.ref s.heap.objs.size)) (PIE X pins σ tg R) E { s with heap:=s.heap.push { cls:=.type "range",data:=.fields #[.int lo t,.int hi u,.int 1 v] },toks:=tk }:=by
 refine wpAny_pyIter_range (IsRange.new ..) (small_one h1 h2 h3 h4) ?_;have I1:Inv X pins σ H { s with heap:=s.heap.push { cls:=.type "range",data:=.fields #[.int lo t,.int hi u,.int 1 v] },toks:=tk }:=I.kept fun b o e => Heap.get?_push_of_some _ e
 refine ⟨(s.heap.push { cls:=.type "range",data:=.fields #[.int lo t,.int hi u,.int 1 v] }).objs.size,[(s.heap.push { cls:=.type "range",data:=.fields #[.int lo t,.int hi u,.int 1 v] }).objs.size],_,_,H,rfl,
  I1.kept (t':=tk) fun b o e => Heap.get?_push_of_some _ e,turn_range _ lo (hi - lo).toNat,?_,fun b hb => ?_,q⟩
 ·have e1:lo + ((0:Nat):Int) * 1 = lo:=by simp
  have e2:(((hi - lo).toNat:Nat):Int) - ((0:Nat):Int) = Builtin.Range.rangeSize lo hi 1:=by rw [rangeSize_one];split <;> lia
  show IsRangeIter _ _ (lo + ((0:Nat):Int) * 1) ((((hi - lo).toNat:Nat):Int) - ((0:Nat):Int)) 1;rw [e1,e2];exact Heap.get?_push_size _ rfl
 ·have e:b = (s.heap.push { cls:=.type "range",data:=.fields #[.int lo t,.int hi u,.int 1 v] }).objs.size:=by simpa using hb
  subst e;exact I1.fpOk (Nat.le_refl _) (I1.hok.fresh (Nat.le_refl _))
def iRng1 (ta:TA):TI:=fun σ H R => ta σ H fun vs H1 => ∃ j:Int,vs = [.int j] /\ -(2 ^ 62) <= j /\ j < 2 ^ 62 /\ R (Itr 0 j.toNat) H1
theorem pi_range1 {a:Expr} {ta:TA} {p pos:Pos} (hg:Gl X "range") (hm:X.mg "range" = none) (ha:PA X [a] ta) (hs:autoParam (starEach [a] X.env = [(false,eval a X.env)]) L2.aRfl._auto_1):PI X tg (.Call (.Name "range" p) [a] [] pos) (iRng1 ta):=by
 intro pins s σ H R I h;refine Call_ (ld_blt I hg hm boot_range (PyProof.Rows.callWith_type1 (thn (ha pos pins s σ H _ I h) fun us s1 ⟨vs,H1,I1,r1,q1⟩ => ?_) hs rfl));obtain ⟨j,e,q1,q2,q⟩:=q1;subst e
 cases r1 with
 | cons r rr =>
  cases rr;obtain ⟨t,rfl⟩:=r;exact call_range_1 (range_it I1 (by lia) (by lia) q1 q2 (by simpa using q))
def tFor (wi:TI) (g:TG) (tb:TS):TS:=fun D σ H => wi σ H fun J H1 => ∃ W:Nat -> Nat -> St -> Hp -> Prop,(∃ m,W 0 m σ H1) /\ ∀ i m σ H,W i m σ H ->
 (J.stop i H /\ D.nx σ H) \/ (J.go i H /\ ∃ N:St -> Hp -> Prop,(∀ σ' H',N σ' H' -> ∃ m',m' < m /\ W (i + 1) m' σ' H') /\ ∀ x H',J.yld i H x H' -> g x σ H' fun σ2 H2 => tb { D with nx:=N,ct:=N,bk:=D.nx } σ2 H2)
def pinsAt (fp:List Addr) (h:Heap):List (Addr × Obj):=fp.filterMap fun b => (h.get? b).map fun o => (b,o)
theorem mem_pinsAt {fp:List Addr} {h:Heap} {b:Addr} {o:Obj} (hb:b ∈ fp) (e:h.get? b = some o):(b,o) ∈ pinsAt fp h:=List.mem_filterMap.mpr ⟨b,hb,by rw [e];rfl⟩
theorem of_pinsAt {fp:List Addr} {h:Heap} {p:Addr × Obj} (hp:p ∈ pinsAt fp h):p.1 ∈ fp /\ h.get? p.1 = some p.2:=by
 obtain ⟨b,hb,e⟩:=List.mem_filterMap.mp hp
 cases q:h.get? b with
 | none => rw [q] at e;cases e
 | some o =>
  rw [q] at e;have e':(b,o) = p:=Option.some.inj e;subst e';exact ⟨hb,q⟩
theorem Inv.pinned {pins:List (Addr × Obj)} {σ:St} {H:Hp} {s:Shared} {fp:List Addr} (I:Inv X pins σ H s) (hf:∀ b ∈ fp,FpOk X pins H b) (ho:∀ b ∈ fp,∃ o,s.heap.get? b = some o /\ ∀ v,o.data ≠ .cell v):Inv X (pins ++ pinsAt fp s.heap) σ H s :=
 I.pins_of fun p hp => (List.mem_append.mp hp).elim (fun z => I.pin p (List.mem_append_right _ z)) fun z => by
  obtain ⟨hb,e⟩:=of_pinsAt z;obtain ⟨f0,f1,f2,_⟩:=hf p.1 hb;obtain ⟨o,e',d⟩:=ho p.1 hb;rw [e] at e';cases e';exact ⟨e,f0,f1,f2,d⟩
theorem Inv.unpinned {pins pl:List (Addr × Obj)} {σ:St} {H:Hp} {s:Shared} (I:Inv X (pins ++ pl) σ H s):Inv X pins σ H s:=I.pins_of fun p hp => I.pin p (List.mem_append_right _ (List.mem_append_left _ hp))
theorem ps_for {iter:Expr} {body:List Stmt} {wi:TI} {g:TG} {tb:TS} {pos:Pos} (hp:PassesOwn (model X.prog X.w) X.A X.env X.xe) (hc:X.calm = true) (hi:PI X tg iter wi) (hg:PG X tg g) (hb:PSs X body tb)
  (hs:∀ x,foldedSetIterable iter X.env x = pure x:=by intro _;rfl):PS X (.For tg iter body [] pos) (tFor wi g tb):=by
 intro pins s σ H D I h;refine wpAny_For (thn (hi pins s σ H _ I h) fun v s1 h1 => thn h1 fun itv s2 h2 => ?_) hs;obtain ⟨it,fp,tn,J,H2,e,I2,T,st2,f2,W,⟨m0,w0⟩,turn⟩:=h2;subst e;have stat:∀ {H':Hp},(∀ b ∈ fp,H' b = none) -> ∀ b ∈ fp,FpOk X pins H' b:=fun hn b hb => ⟨hn b hb,(f2 b hb).2⟩;refine codeAny_forLoop_any (fun n s' => ∃ i σ' H',Inv X pins σ' H' s' /\ tn i s'.heap /\ (∀ b ∈ fp,H' b = none) /\ W i n σ' H') ?_ m0 ⟨0,σ,H2,I2,st2,fun b hb => (f2 b hb).1,w0⟩;rintro n s3 ⟨i,σ3,H3,I3,st3,fr3,w3⟩;rcases turn i n σ3 H3 w3 with ⟨stop,qn⟩ | ⟨go,N,hN,step⟩
 ·refine wpAny_passesOwn hp (thn (T.done X rfl rfl rfl hc i pins s3 σ3 H3 X.xe I3 (stat fr3) st3 stop) fun r s4 ⟨hr,I4⟩ => ?_);subst hr;exact wpAny_execs_nil ⟨σ3,H3,I4,qn⟩
 ·refine wpAny_passesOwn hp (thn (T.item X rfl rfl rfl hc i pins s3 σ3 H3 X.xe I3 (stat fr3) st3 go) fun r s4 ⟨u,hr,h4⟩ => ?_);subst hr;refine wpAny_passesOwn hp (thn h4 fun _ s5 ⟨x,H5,I5,r5,y5,st5,fr5⟩ => ?_);have I5':=I5.pinned (stat fr5) (T.obj _ _ st5);refine wpAny_passesOwn hp (thn (hg _ s5 σ3 H5 x u _ I5' r5 (step x H5 y5)) fun _ s6 ⟨σ6,H6,I6,q6⟩ => ?_);refine wpAny_passesOwn hp (thn (hb _ s6 σ6 H6 _ I6 q6) fun f s7 q7 => ?_);have again:∀ {σ7:St} {H7:Hp},Inv X (pins ++ pinsAt fp s5.heap) σ7 H7 s7 -> N σ7 H7 -> ∃ m,m < n /\ ∃ i σ' H',Inv X pins σ' H' s7 /\ tn i s7.heap /\ (∀ b ∈ fp,H' b = none) /\ W i m σ' H':=fun {σ7 H7} I7 n7 => by
   obtain ⟨m',hm,w7⟩:=hN σ7 H7 n7;refine ⟨m',hm,i + 1,σ7,H7,I7.unpinned,T.keep _ _ _ st5 fun b hb o e => (I7.pin (b,o) (List.mem_append_right _ (List.mem_append_right _ (mem_pinsAt hb e)))).1,fun b hb => ?_,w7⟩;obtain ⟨o,e,d⟩:=T.obj _ _ st5 b hb;exact (I7.pin (b,o) (List.mem_append_right _ (List.mem_append_right _ (mem_pinsAt hb e)))).2.1
  cases f with
  | next => obtain ⟨σ7,H7,I7,n7⟩:=q7;exact again I7 n7
  | cont => obtain ⟨σ7,H7,I7,n7⟩:=q7;exact again I7 n7
  | brk => obtain ⟨σ7,H7,I7,q7⟩:=q7;exact ⟨σ7,H7,I7.unpinned,q7⟩
  | ret v => obtain ⟨x7,σ7,H7,I7,r7,q7⟩:=q7;exact ⟨x7,σ7,H7,I7.unpinned,r7,q7⟩
end
noncomputable abbrev R2:=V -> V -> Hp -> VK -> Prop
def OpR (X:Cx) (f:Value -> Value -> Sem Value) (r:R2):Prop :=
 ∀ (pins:List (Addr × Obj)) (s:Shared) (σ:St) (H:Hp) (x y:V) (v u:Value) (Q:VK),Inv X pins σ H s -> RelV x v -> RelV y u -> r x y H Q ->
  wpAny (model X.prog X.w) X.A (f v u) (EP X pins σ Q) X.xe s
def CallR (X:Cx) (f:Value) (r:List V -> Hp -> VK -> Prop):Prop :=
 ∀ (pins:List (Addr × Obj)) (s:Shared) (σ:St) (H:Hp) (xs:List V) (us:List Value) (Q:VK),Inv X pins σ H s -> Vals xs us -> r xs H Q ->
  wpAny (model X.prog X.w) X.A (call f us) (EP X pins σ Q) X.xe s
def TruR (X:Cx) (r:V -> Hp -> (Bool -> Hp -> Prop) -> Prop):Prop :=
 ∀ (pins:List (Addr × Obj)) (s:Shared) (σ:St) (H:Hp) (x:V) (v:Value) (Q:Bool -> Hp -> Prop),Inv X pins σ H s -> RelV x v -> r x H Q ->
  wpAny (model X.prog X.w) X.A (truthy v) (TP X pins σ Q) X.xe s
def tOp (r:R2) (ta tb:TE):TE:=fun σ H Q => ta σ H fun x H1 => tb σ H1 fun y H2 => r x y H2 Q
def rI (C:Int -> Int -> Prop) (g:Int -> Int -> V):R2:=fun x y H Q => ∃ i j,x = .int i /\ y = .int j /\ C i j /\ Q (g i j) H
def rI0 (g:Int -> Int -> V):R2:=fun x y H Q => ∃ i j,x = .int i /\ y = .int j /\ Q (g i j) H
section
variable {X:Cx} {a b c:Expr} {ta tb tc:TE} {pos:Pos}
theorem binT (ha:PE X a ta) (hb:PE X b tb) {pins:List (Addr × Obj)} {s:Shared} {σ:St} {H:Hp} {R:V -> V -> Hp -> Prop} (I:Inv X pins σ H s)
  (h:ta σ H fun x H1 => tb σ H1 fun y H2 => R x y H2) {Q:Value -> Shared -> Prop} {f:Value -> Value -> Sem Value}
  (hf:∀ v u s2 x y H2,Inv X pins σ H2 s2 -> RelV x v -> RelV y u -> R x y H2 -> wpAny (model X.prog X.w) X.A (f v u) Q X.xe s2) :
  wpAny (model X.prog X.w) X.A (eval a X.env) (fun v s₁ => wpAny (model X.prog X.w) X.A (eval b X.env) (fun u s₂ => wpAny (model X.prog X.w) X.A (f v u) Q X.xe s₂) X.xe s₁) X.xe s:=by
 refine thn (ha pins s σ H _ I h) fun v s1 ⟨x,H1,I1,r1,q1⟩ => ?_;refine thn (hb pins s1 σ H1 _ I1 q1) fun u s2 ⟨y,H2,I2,r2,q2⟩ => ?_;exact hf v u s2 x y H2 I2 r1 r2 q2
theorem pe_op {op:Operator} {r:R2} (ho:OpR X (binaryOp op) r) (ha:PE X a ta) (hb:PE X b tb):PE X (.BinOp a op b pos) (tOp r ta tb):=by
 intro pins s σ H Q I h;exact wpAny_BinOp (binT ha hb I h fun v u s2 x y H2 I2 rx ry q => ho pins s2 σ H2 x y v u Q I2 rx ry q)
theorem opI {f:Value -> Value -> Sem Value} {C:Int -> Int -> Prop} {g:Int -> Int -> Int}
  (rule:∀ (i j:Int) (t u:Tok) (s:Shared) (Q:Value -> Shared -> Prop) (E:Value -> Shared -> Prop),C i j -> Q (.int (g i j) s.toks) { s with toks:=s.toks + 1 } -> wpAny (model X.prog X.w) X.A (f (.int i t) (.int j u)) Q E s) :
  OpR X f (rI C fun i j => .int (g i j)):=by
 intro pins s σ H x y v u Q I rx ry h;obtain ⟨i,j,rfl,rfl,hc,q⟩:=h;obtain ⟨t,rfl⟩:=rx;obtain ⟨t',rfl⟩:=ry;exact rule i j t t' s _ _ hc ⟨.int (g i j),H,I.tok _,⟨_,rfl⟩,q⟩
theorem opI0 {f:Value -> Value -> Sem Value} {g:Int -> Int -> Int}
  (rule:∀ (i j:Int) (t u:Tok) (s:Shared) (Q:Value -> Shared -> Prop) (E:Value -> Shared -> Prop),Q (.int (g i j) s.toks) { s with toks:=s.toks + 1 } -> wpAny (model X.prog X.w) X.A (f (.int i t) (.int j u)) Q E s) :
  OpR X f (rI0 fun i j => .int (g i j)):=by
 intro pins s σ H x y v u Q I rx ry h;obtain ⟨i,j,rfl,rfl,q⟩:=h;obtain ⟨t,rfl⟩:=rx;obtain ⟨t',rfl⟩:=ry;exact rule i j t t' s _ _ ⟨.int (g i j),H,I.tok _,⟨_,rfl⟩,q⟩
theorem opB0 {f:Value -> Value -> Sem Value} {g:Int -> Int -> Bool}
  (rule:∀ (i j:Int) (t u:Tok) (s:Shared) (Q:Value -> Shared -> Prop) (E:Value -> Shared -> Prop),Q (.bool (g i j)) s -> wpAny (model X.prog X.w) X.A (f (.int i t) (.int j u)) Q E s) :
  OpR X f (rI0 fun i j => .bl (g i j)):=by
 intro pins s σ H x y v u Q I rx ry h;obtain ⟨i,j,rfl,rfl,q⟩:=h;obtain ⟨t,rfl⟩:=rx;obtain ⟨t',rfl⟩:=ry;exact rule i j t t' s _ _ ⟨.bl (g i j),H,I,rfl,q⟩
def CPow (i j:Int):Prop:=0 <= j /\ j <= 1000000 /\ i.natAbs < 2 ^ 64
def CMul (i j:Int):Prop:=(-(2 ^ 64) < i /\ i < 2 ^ 64) \/ (-(2 ^ 64) < j /\ j < 2 ^ 64)
theorem CMul.ok {i j:Int} (h:CMul i j):IntMulOk i j:=by
 rcases h with ⟨h1,h2⟩ | ⟨h1,h2⟩
 ·exact .of_left (intBits_le_64 h1 h2)
 ·exact .of_right (intBits_le_64 h1 h2)
theorem op_add:OpR X (binaryOp .Add) (rI0 fun i j => .int (i + j)):=opI0 fun _ _ _ _ _ _ _ q => add_int q
theorem op_sub:OpR X (binaryOp .Sub) (rI0 fun i j => .int (i - j)):=opI0 fun _ _ _ _ _ _ _ q => sub_int q
theorem op_mul:OpR X (binaryOp .Mult) (rI CMul fun i j => .int (i * j)):=opI fun _ _ _ _ _ _ _ hc q => mul_int q hc.ok
theorem op_mod:OpR X (binaryOp .Mod) (rI (fun _ j => 0 < j) fun i j => .int (i % j)):=opI fun i j _ _ _ _ _ hc q => by
 have h1:(0:Int) < j:=hc;exact mod_int' (by lia) (by rw [Int.fmod_eq_emod_of_nonneg i (by lia)];exact q)
theorem op_pow:OpR X (binaryOp .Pow) (rI CPow fun i j => .int (i ^ j.toNat)):=opI fun _ _ _ _ _ _ _ hc q => pow_int_small hc.1 hc.2.1 hc.2.2 q
end
def scal:V -> V -> Bool
 | .non,.non => true | .non,.int _ => true | .int _,.non => true | .non,.bl _ => true | .bl _,.non => true | .non,.str _ => true | .str _,.non => true
 | .int _,.int _ => true | .bl _,.bl _ => true | .str _,.str _ => true | .byt _,.byt _ => true
 | .int _,.str _ => true | .str _,.int _ => true | .bl _,.str _ => true | .str _,.bl _ => true
 | _,_ => false
def rEq:R2:=fun x y H Q => scal x y = true /\ Q (.bl (decide (x = y))) H
def rNe:R2:=fun x y H Q => scal x y = true /\ Q (.bl (!decide (x = y))) H
theorem dec_int {i j:Int}:decide (V.int i = V.int j) = (i == j):=by
 rw [Bool.eq_iff_iff];simp
theorem dec_bl {i j:Bool}:decide (V.bl i = V.bl j) = (i == j):=by
 rw [Bool.eq_iff_iff];simp
theorem dec_str {i j:Str}:decide (V.str i = V.str j) = (i == j):=by
 rw [Bool.eq_iff_iff];simp
theorem dec_byt {i j:Array UInt8}:decide (V.byt i = V.byt j) = (i.toList == j.toList):=by
 rw [Bool.eq_iff_iff];cases i;cases j;simp
section
variable {X:Cx} {a b c:Expr} {ta tb tc:TE} {pos:Pos}
theorem fin_bl {pins:List (Addr × Obj)} {σ:St} {H:Hp} {s:Shared} {Q:VK} {k k':Bool} (I:Inv X pins σ H s) (q:Q (.bl k) H) (e:k = k'):EP X pins σ Q (.bool k') s:=by
 subst e;exact ⟨.bl k,H,I,rfl,q⟩
theorem op_eq:OpR X (compareOp .Eq) rEq:=by
 intro pins s σ H x y v u Q I rx ry h;obtain ⟨hs,q⟩:=h
 cases x with
 | non =>
  cases rx
  cases y with
  | non => cases ry;exact PySem.EqNone.eq_none_none (fin_bl I q (by simp))
  | bl j => cases ry;exact PySem.EqNone.eq_none_bool (fin_bl I q (by simp))
  | int j => obtain ⟨t',rfl⟩:=ry;exact PySem.EqNone.eq_none_int (fin_bl I q (by simp))
  | str j => obtain ⟨t',rfl⟩:=ry;exact PySem.EqNone.eq_none_str (fin_bl I q (by simp))
  | _ => exact absurd (show false = true from hs) Bool.false_ne_true
 | bl i =>
  cases rx
  cases y with
  | non => cases ry;exact PySem.EqNone.eq_bool_none (fin_bl I q (by simp))
  | bl j => cases ry;exact eq_bool (fin_bl I q dec_bl)
  | str j => obtain ⟨t',rfl⟩:=ry;exact PySem.EqMixed.eq_bool_str (fin_bl I q (by simp))
  | _ => exact absurd (show false = true from hs) Bool.false_ne_true
 | int i =>
  obtain ⟨t,rfl⟩:=rx
  cases y with
  | non => cases ry;exact PySem.EqNone.eq_int_none (fin_bl I q (by simp))
  | int j => obtain ⟨t',rfl⟩:=ry;exact eq_int (fin_bl I q dec_int)
  | str j => obtain ⟨t',rfl⟩:=ry;exact PySem.EqMixed.eq_int_str (fin_bl I q (by simp))
  | _ => exact absurd (show false = true from hs) Bool.false_ne_true
 | str i =>
  obtain ⟨t,rfl⟩:=rx
  cases y with
  | non => cases ry;exact PySem.EqNone.eq_str_none (fin_bl I q (by simp))
  | bl j => cases ry;exact PySem.EqMixed.eq_str_bool (fin_bl I q (by simp))
  | int j => obtain ⟨t',rfl⟩:=ry;exact PySem.EqMixed.eq_str_int (fin_bl I q (by simp))
  | str j => obtain ⟨t',rfl⟩:=ry;exact eq_str (fin_bl I q dec_str)
  | _ => exact absurd (show false = true from hs) Bool.false_ne_true
 | byt i =>
  obtain ⟨t,rfl⟩:=rx
  cases y with
  | byt j => obtain ⟨t',rfl⟩:=ry;exact PySem.W.eq_bytes (fin_bl I q dec_byt)
  | _ => exact absurd (show false = true from hs) Bool.false_ne_true
 | _ => cases y <;> exact absurd (show false = true from hs) Bool.false_ne_true
theorem op_ne:OpR X (compareOp .NotEq) rNe:=by
 intro pins s σ H x y v u Q I rx ry h;obtain ⟨hs,q⟩:=h
 cases x with
 | non =>
  cases rx
  cases y with
  | non => cases ry;exact PySem.EqNone.ne_none_none (fin_bl I q (by simp))
  | bl j => cases ry;exact PySem.EqNone.ne_none_bool (fin_bl I q (by simp))
  | int j => obtain ⟨t',rfl⟩:=ry;exact PySem.EqNone.ne_none_int (fin_bl I q (by simp))
  | str j => obtain ⟨t',rfl⟩:=ry;exact PySem.EqNone.ne_none_str (fin_bl I q (by simp))
  | _ => exact absurd (show false = true from hs) Bool.false_ne_true
 | bl i =>
  cases rx
  cases y with
  | non => cases ry;exact PySem.EqNone.ne_bool_none (fin_bl I q (by simp))
  | bl j => cases ry;exact ne_bool (fin_bl I q (congrArg not dec_bl))
  | str j => obtain ⟨t',rfl⟩:=ry;exact PySem.EqMixed.ne_bool_str (fin_bl I q (by simp))
  | _ => exact absurd (show false = true from hs) Bool.false_ne_true
 | int i =>
  obtain ⟨t,rfl⟩:=rx
  cases y with
  | non => cases ry;exact PySem.EqNone.ne_int_none (fin_bl I q (by simp))
  | int j => obtain ⟨t',rfl⟩:=ry;exact ne_int (fin_bl I q (congrArg not dec_int))
  | str j => obtain ⟨t',rfl⟩:=ry;exact PySem.EqMixed.ne_int_str (fin_bl I q (by simp))
  | _ => exact absurd (show false = true from hs) Bool.false_ne_true
 | str i =>
  obtain ⟨t,rfl⟩:=rx
  cases y with
  | non => cases ry;exact PySem.EqNone.ne_str_none (fin_bl I q (by simp))
  | bl j => cases ry;exact PySem.EqMixed.ne_str_bool (fin_bl I q (by simp))
  | int j => obtain ⟨t',rfl⟩:=ry;exact PySem.EqMixed.ne_str_int (fin_bl I q (by simp))
  | str j => obtain ⟨t',rfl⟩:=ry;exact ne_str (fin_bl I q (congrArg not dec_str))
  | _ => exact absurd (show false = true from hs) Bool.false_ne_true
 | byt i =>
  obtain ⟨t,rfl⟩:=rx
  cases y with
  | byt j => obtain ⟨t',rfl⟩:=ry;exact PySem.W.ne_bytes (fin_bl I q (congrArg not dec_byt))
  | _ => exact absurd (show false = true from hs) Bool.false_ne_true
 | _ => cases y <;> exact absurd (show false = true from hs) Bool.false_ne_true
theorem op_lt:OpR X (compareOp .Lt) (rI0 fun i j => .bl (decide (i < j))):=opB0 fun _ _ _ _ _ _ _ q => lt_int q
theorem op_le:OpR X (compareOp .LtE) (rI0 fun i j => .bl (decide (i <= j))):=opB0 fun _ _ _ _ _ _ _ q => le_int q
theorem op_gt:OpR X (compareOp .Gt) (rI0 fun i j => .bl (decide (j < i))):=opB0 fun _ _ _ _ _ _ _ q => gt_int q
theorem op_in_str:OpR X (compareOp .In) (fun x y H Q => ∃ i j,x = .str i /\ y = .str j /\ Q (.bl (!(Builtin.Str.occurrences j i 0 j.length 1).isEmpty)) H):=by
 intro pins s σ H x y v u Q I rx ry h;obtain ⟨i,j,rfl,rfl,q⟩:=h;obtain ⟨t,rfl⟩:=rx;obtain ⟨t',rfl⟩:=ry;exact in_str (fin_bl I q rfl)
theorem op_isN:OpR X (compareOp .Is) (fun x y H Q => y = .non /\ Q (.bl (decide (x = .non))) H):=by
 intro pins s σ H x y v u Q I rx ry h;obtain ⟨rfl,q⟩:=h;cases ry;refine is_none_gen (fin_bl I q ?_)
 cases x <;> first
  | (cases rx;rfl)
  | (obtain ⟨t,rfl⟩:=rx;rfl)
theorem OpR.or {f:Value -> Value -> Sem Value} {r r':R2} (h:OpR X f r) (h':OpR X f r'):OpR X f (fun x y H Q => r x y H Q \/ r' x y H Q):=by
 intro pins s σ H x y v u Q I rx ry q;rcases q with q | q
 ·exact h pins s σ H x y v u Q I rx ry q
 ·exact h' pins s σ H x y v u Q I rx ry q
theorem pe_cmpR {op:CmpOp} {r:R2} (ho:OpR X (compareOp op) r) (ha:PE X a ta) (hb:PE X b tb) (hm:behindInMarks op b = false):PE X (.Compare a [op] [b] pos) (tOp r ta tb):=by
 intro pins s σ H Q I h;exact wpAny_Compare1 (binT ha hb I h fun v u s2 x y H2 I2 rx ry q => ho pins s2 σ H2 x y v u Q I2 rx ry q) hm
def tTest (t:TE):TT:=fun σ H Q => t σ H fun x H' => ∃ k,x = .bl k /\ Q k H'
theorem pt_cmpR {op:CmpOp} {r:R2} (ho:OpR X (compareOp op) r) (ha:PE X a ta) (hb:PE X b tb) (hm:behindInMarks op b = false):PT X (.Compare a [op] [b] pos) (tTest (tOp r ta tb)):=by
 intro pins s σ H Q I h;refine wpAny_isTrue_Compare1 (thn (ha pins s σ H _ I h) fun v s1 ⟨x,H1,I1,r1,q1⟩ => thn (hb pins s1 σ H1 _ I1 q1) fun u s2 ⟨y,H2,I2,r2,q2⟩ =>
  thn (ho pins s2 σ H2 x y v u _ I2 r1 r2 q2) fun c s3 ⟨z,H3,I3,r3,k,e,q3⟩ => ?_) hm
 subst e;cases r3;exact wpAny_truthy_bool ⟨H3,I3,q3⟩
def TruV (K:PySem.W.Frag) (x:V) (H:Hp) (k:Bool):Prop :=
 match x with
 | .non => k = false
 | .bl b => k = b
 | .int i => k = (i != 0)
 | .str y => y.length <= sizeLine /\ k = ((y.length:Int) != 0)
 | .byt y => y.size <= sizeLine /\ k = ((y.size:Int) != 0)
 | .ref p => (∃ xs,SqL K H p xs /\ k = !xs.isEmpty) \/ (∃ xs,SqT K H p xs /\ k = !xs.isEmpty) \/ ∃ kvs,H p = some (.dK kvs) /\ k = !kvs.isEmpty
 | _ => False
theorem isEmpty_kv {κ:Type} {kvs:List (κ × V)} {vs:List (κ × Value)} (r:KV kvs vs):(!vs.isEmpty) = !kvs.isEmpty:=by
 cases r <;> rfl
theorem isEmpty_of {xs:List V} {its:List Value} (r:Vals xs its):(!its.toArray.isEmpty) = !xs.isEmpty:=by
 cases r <;> simp
theorem line63:(sizeLine:Nat) < 2 ^ 63:=by rw [sizeLine_eq];decide
theorem tru_ok:TruR X (fun x H Q => ∃ k,TruV X.K x H k /\ Q k H):=by
 intro pins s σ H x v Q I rx h;obtain ⟨k,e,q⟩:=h;have hl:=line63;have hs:sizeLine = 16777216:=sizeLine_eq
 cases x with
 | non =>
  cases rx;have e':k = false:=e;subst e';exact truthy_none ⟨H,I,q⟩
 | bl b =>
  cases rx;have e':k = b:=e;subst e';exact wpAny_truthy_bool ⟨H,I,q⟩
 | int i =>
  obtain ⟨t,rfl⟩:=rx;have e':k = (i != 0):=e;subst e';exact PySem.P.truthy_int ⟨H,I,q⟩
 | str y =>
  obtain ⟨t,rfl⟩:=rx;obtain ⟨hy,e'⟩:y.length <= sizeLine /\ k = ((y.length:Int) != 0):=e;subst e';exact PySem.P.truthy_str (by lia) ⟨H,I.tok _,q⟩
 | byt y =>
  obtain ⟨t,rfl⟩:=rx;obtain ⟨hy,e'⟩:y.size <= sizeLine /\ k = ((y.size:Int) != 0):=e;subst e';exact PySem.W.truthy_bytes (by lia) ⟨H,I.tok _,q⟩
 | ref p =>
  cases rx;have e':(∃ xs,SqL X.K H p xs /\ k = !xs.isEmpty) \/ (∃ xs,SqT X.K H p xs /\ k = !xs.isEmpty) \/ ∃ kvs,H p = some (.dK kvs) /\ k = !kvs.isEmpty:=e;rcases e' with ⟨xs,hx,e'⟩ | ⟨xs,hx,e'⟩ | ⟨kvs,hx,e'⟩
  ·subst e';obtain ⟨its,r,pl,hz⟩:=I.list hx;have hlen:=r.length;exact wpAny_truthy_list pl.isList (by simp only [List.size_toArray];lia) ⟨H,I.tok _,by rw [isEmpty_of r];exact q⟩
  ·subst e';obtain ⟨its,r,pl,hz⟩:=I.tuple hx;have hlen:=r.length;exact truthy_tuple pl (by simp only [List.size_toArray];lia) ⟨H,I.tok _,by rw [isEmpty_of r];exact q⟩
  ·subst e';obtain ⟨hz,hS,vs,r,m⟩:kvs.length <= sizeLine /\ (p == sysModules) = false /\ ∃ vs,KV kvs vs /\ s.heap.DictOf (mixKind X.prog X.w) p vs:=I.hok p _ hx;have hlen:kvs.length = vs.length:=Paired.length r;exact wpAny_truthy_dict hS m (by lia) ⟨H,I.tok _,by rw [isEmpty_kv r];exact q⟩
 | _ => exact (show False from e).elim
theorem pt_truth (ha:PE X a ta) (he:∀ whole,isTrue a X.env whole = (do let v <- whole;standAt a.pos;holding [v] (truthy v))) :
  PT X a (fun σ H Q => ta σ H fun x H' => ∃ k,TruV X.K x H' k /\ Q k H'):=by
 intro pins s σ H Q I h;exact isTrue_plain (thn (ha pins s σ H _ I h) fun v s1 ⟨x,H1,I1,r1,q1⟩ => tru_ok pins s1 σ H1 x v Q I1 r1 q1) (he _)
theorem op_add_str:OpR X (binaryOp .Add) (fun x y H Q => ∃ i j,x = .str i /\ y = .str j /\ i.length + j.length <= sizeLine /\ Q (.str (i ++ j)) H):=by
 intro pins s σ H x y v u Q I rx ry h;obtain ⟨i,j,rfl,rfl,hz,q⟩:=h;obtain ⟨t,rfl⟩:=rx;obtain ⟨t',rfl⟩:=ry;exact add_str (fun t' tk => ⟨.str (i ++ j),H,I.tok _,⟨_,rfl⟩,q⟩) hz
theorem vals1 {x:V} {us:List Value} (r:Vals [x] us):∃ u,us = [u] /\ RelV x u:=by
 cases r with
 | cons r1 r2 => cases r2;exact ⟨_,rfl,r1⟩
theorem vals2 {x y:V} {us:List Value} (r:Vals [x,y] us):∃ u w',us = [u,w'] /\ RelV x u /\ RelV y w':=by
 cases r with
 | cons r1 r2 =>
  cases r2 with
  | cons r3 r4 => cases r4;exact ⟨_,_,rfl,r1,r3⟩
theorem call_min2 (hc:X.calm = true):CallR X (.builtin "min") (fun xs H Q => ∃ i j,xs = [.int i,.int j] /\ Q (.int (if j < i then j else i)) H):=by
 intro pins s σ H xs us Q I r h;obtain ⟨i,j,rfl,q⟩:=h;obtain ⟨u,w',rfl,⟨t,rfl⟩,⟨t',rfl⟩⟩:=vals2 r;refine min_two_ints (I.ok.hd hc) fun h' tk k => ⟨_,H,I.kept k,?_,q⟩;by_cases hj:j < i
 ·rw [if_pos hj,if_pos hj];exact ⟨_,rfl⟩
 ·rw [if_neg hj,if_neg hj];exact ⟨_,rfl⟩
theorem call_int1:CallR X (.type "int") (fun xs H Q => (∃ i,xs = [.int i] /\ Q (.int i) H) \/ ∃ k,xs = [.bl k] /\ Q (.int (if k then 1 else 0)) H):=by
 intro pins s σ H xs us Q I r h;rcases h with ⟨i,rfl,q⟩ | ⟨k,rfl,q⟩
 ·obtain ⟨u,rfl,t,rfl⟩:=vals1 r;exact call_int_int ⟨.int i,H,I,⟨_,rfl⟩,q⟩
 ·obtain ⟨u,rfl,r1⟩:=vals1 r;cases r1;exact call_int_bool ⟨.int (if k then 1 else 0),H,I.tok _,⟨_,rfl⟩,q⟩
theorem call_str_int:CallR X (.type "str") (fun xs H Q => ∃ i,xs = [.int i] /\ i.natAbs.log2 < 1920 /\ Q (.str (toString i)) H):=by
 intro pins s σ H xs us Q I r h;obtain ⟨i,rfl,hz,q⟩:=h;obtain ⟨u,rfl,t,rfl⟩:=vals1 r;exact PySem.P.str_of_int hz ⟨.str _,H,I.tok _,⟨_,rfl⟩,q⟩
end
structure ObjM (h:Heap) (x dx C:Addr) (mA:Str -> Option Value):Prop where
 obj:h.get? x = some (PySem.W.instObj C dx)
 ns:h.Ns1 dx mA
 ne:dx ≠ x
theorem lookIn_ns {h:Heap} {dx:Addr} {mA:Str -> Option Value} (n:h.Ns1 dx mA):∃ od,h.get? dx = some od /\ ∀ name,PySem.W.lookIn name od = some (mA name):=by
 obtain ⟨o,es,ep,ho,hd,hk,_,hm⟩:=n;refine ⟨o,ho,fun name => ?_⟩;have e:=hm name;unfold nsFind findBy at e;rw [<- Array.find?_toList] at e;unfold PySem.W.lookIn;rw [hd];dsimp only;split
 ·rename_i y q;rw [q] at e;exact congrArg some e
 ·rename_i q;rw [q] at e;have a:es.toList.any (·.refKey) = false:=by
   rw [List.any_eq_false];intro y hy;obtain ⟨z,t,hkey⟩:=hk y (Array.mem_toList_iff.mp hy);simp [DictEntry.refKey,hkey]
  have a':¬ es.toList.any (·.refKey) = true:=by rw [a];exact Bool.false_ne_true
  rw [if_neg a'];exact congrArg some e
theorem ObjM.look {h:Heap} {x dx C:Addr} {mA:Str -> Option Value} (I:ObjM h x dx C mA):∃ od,PySem.W.InstAt h x (PySem.W.instObj C dx) C (some od) /\ ∀ name,PySem.W.lookIn name od = some (mA name) :=
 let ⟨od,ho,hl⟩:=lookIn_ns I.ns
 ⟨od,⟨I.obj,rfl,rfl,ho⟩,hl⟩
section
variable {prog:Program} {w:World} {A:Around} {E:Value -> Shared -> Prop} {s:Shared} {K:PySem.W.Frag} {x dx C f:Addr} {mA:Str -> Option Value} {name:Str} {v:Value}
end
theorem RelO.some_of {v:V} {o:Option Value} (r:RelO (some v) o):∃ u,o = some u /\ RelV v u:=by
 cases o with
 | none => exact (show False from r).elim
 | some u => exact ⟨u,rfl,r⟩
section
variable {P:Program} {w:World} {H H':Hp} {h h':Heap} {a C dx:Addr} {fs fs':List (Str × V)}
theorem ins_get (hok:HOk P w H h) (e:H a = some (.ins C dx fs)):∃ mA,ObjM h a dx C mA /\ (∀ f,RelO (fs.lookup f) (mA f)) /\ PySem.Within mA (fs.map (·.1)) /\ fs.length <= 1000 /\ H dx = some (.own a):=by
 obtain ⟨d,z,ne,ob,mA,n,r,q⟩:=(show ObjOk P w H h a (.ins C dx fs) from hok a _ e);exact ⟨mA,⟨ob,n,ne⟩,r,q,z,d⟩
end
structure Cls (K:PySem.W.Frag) (C:Addr):Prop where
 pg:PySem.W.plainGet K C Str.empty = true
 hd:PySem.W.hasDictIn K C = true
 po:PySem.W.plainOver K C = true
 sa:PySem.W.findIn K (.ref C) "__setattr__" = some (some (.builtin "object.__setattr__"))
theorem Cls.get {K:PySem.W.Frag} {C:Addr} (c:Cls K C) (f:Str):PySem.W.plainGet K C f = true:=c.pg
section
variable {X:Cx} {pins:List (Addr × Obj)} {σ:St} {H:Hp} {s:Shared} {a C dx:Addr} {fs:List (Str × V)} {f:Str} {v:V} {A:Around} {E:Value -> Shared -> Prop}
theorem attr_of {prog:Program} {w:World} {env:Env} {e:Expr} {f:Str} {pos:Pos} {s:Shared} {Q:Value -> Shared -> Prop} (hb:attributeBase e f env (eval e env) = eval e env)
  (h:wpAny (model prog w) A (eval e env) (fun o s₁ => wpAny (model prog w) A (getAttr o f true) Q E s₁) E s):wpAny (model prog w) A (eval (.Attribute e f pos) env) Q E s :=
 Attribute_any_ h (by rw [arm_eval_Attribute,hb])
end
def InOp (X:Cx) (op:Operator) (rd:V -> V -> Hp -> VK -> Prop):Prop :=
 ∀ (pins:List (Addr × Obj)) (s:Shared) (σ:St) (H:Hp) (x y:V) (u v:Value) (Q:VK),Inv X pins σ H s -> RelV x u -> RelV y v -> rd x y H Q -> wpAny (model X.prog X.w) X.A (inplaceOp op u v) (EP X pins σ Q) X.xe s
section
variable {X:Cx} {o e value:Expr} {f:Str} {pos pos' tpos:Pos} {ta tv:TE}
def rSub:V -> V -> Hp -> VK -> Prop:=fun x y H Q => ∃ i j,x = .int i /\ y = .int j /\ Q (.int (i - j)) H
theorem in_sub:InOp X .Sub rSub:=by
 rintro pins s σ H x y u v Q I rx ry ⟨i,j,rfl,rfl,q⟩;obtain ⟨t,rfl⟩:=(show ∃ t,u = Value.int i t from rx);obtain ⟨t',rfl⟩:=(show ∃ t',v = Value.int j t' from ry);exact PyProof.Rows.isub_int ⟨.int (i - j),H,I.tok _,⟨_,rfl⟩,q⟩
end
section
variable {X:Cx} {pins:List (Addr × Obj)} {σ:St} {H:Hp} {s:Shared} {A:Around} {E:Value -> Shared -> Prop} {Q:Value -> Shared -> Prop} {c:Value} {b:Bool}
inductive TyOf (K:PySem.W.Frag) (H:Hp):V -> Value -> Prop where
 | non:TyOf K H .non (.type "NoneType")
 | bl (x:Bool):TyOf K H (.bl x) (.type "bool")
 | int (i:Int):TyOf K H (.int i) (.type "int")
 | str (x:Str):TyOf K H (.str x) (.type "str")
 | flt (x:UInt64):TyOf K H (.flt x) (.type "float")
 | lst {a:Addr} {xs:List V} (e:H a = some (.lst xs)):TyOf K H (.ref a) (.type "list")
 | frz {a:Addr} {o:Obj} {xs:List V} (e:H a = some (.frz o (.lst xs))):TyOf K H (.ref a) (.type "list")
 | tup {a:Addr} {xs:List V} (e:H a = some (.tup xs)):TyOf K H (.ref a) (.type "tuple")
 | dK {a:Addr} {kvs:List (Key × V)} (e:H a = some (.dK kvs)):TyOf K H (.ref a) (.type "dict")
 | dT {a:Addr} {kvs:List (List Key × V)} (e:H a = some (.dT kvs)):TyOf K H (.ref a) (.type "dict")
 | ins {a C dx:Addr} {fs:List (Str × V)} (e:H a = some (.ins C dx fs)) (cl:Cls K C) (ha:PySem.W.findIn K (.ref C) "__class__" = some (some (.builtin "object.__class__")))
   (hn:PySem.W.specialIn K (.builtin "object.__class__") "__get__" = some (some (.builtin "getset_descriptor.__get__"))) (htk:PySem.W.takesIn K (.builtin "object.__class__") = some true)
   (hm:PySem.W.mroIn K C (.type "object") = some true):TyOf K H (.ref a) (.ref C)
theorem isinst_ok {x:V} {u t:Value} (I:Inv X pins σ H s) (rx:RelV x u) (ty:TyOf X.K H x t) (e:PySem.W.kitOne X.K t c = some b) (h:∀ tk,Q (.bool b) { s with toks:=tk }) :
  wpAny (model X.prog X.w) A (call (.builtin "isinstance") [u,c]) Q E s:=by
 cases ty with
 | non => cases (show u = Value.none from rx);exact PySem.W.kia_one PySem.W.kitx_none I.kIn True.intro e (fun z => nomatch z) h
 | bl y => cases (show u = Value.bool y from rx);exact PySem.W.kia_one PySem.W.kitx_bool I.kIn True.intro e (fun z => nomatch z) h
 | int i => obtain ⟨t,q⟩:=(show ∃ t,u = Value.int i t from rx);cases q;exact PySem.W.kia_one PySem.W.kitx_int I.kIn True.intro e (fun z => nomatch z) h
 | str y => obtain ⟨t,q⟩:=(show ∃ t,u = Value.str y t from rx);cases q;exact PySem.W.kia_one PySem.W.kitx_str I.kIn True.intro e (fun z => nomatch z) h
 | flt y => obtain ⟨t,q⟩:=(show ∃ t,u = Value.float y t from rx);cases q;exact PySem.W.kia_one PySem.W.kitx_float I.kIn True.intro e (fun z => nomatch z) h
 | @lst a xs ea =>
  cases (show u = Value.ref a from rx)
  obtain ⟨_,_,n,_,h1⟩:=(show ObjOk X.prog X.w H s.heap a (.lst xs) from I.hok a _ ea);exact PySem.W.kia_one PySem.W.kitx_list I.kIn ⟨_,h1,rfl⟩ e (fun z => nomatch z) h
 | @frz a ob xs ea =>
  cases (show u = Value.ref a from rx)
  obtain ⟨_,_,_,n,_,h1⟩:=(show ObjOk X.prog X.w H s.heap a (.frz ob (.lst xs)) from I.hok a _ ea);exact PySem.W.kia_one PySem.W.kitx_list I.kIn ⟨_,h1,rfl⟩ e (fun z => nomatch z) h
 | @tup a xs ea =>
  cases (show u = Value.ref a from rx)
  obtain ⟨_,_,_,p⟩:=(show ObjOk X.prog X.w H s.heap a (.tup xs) from I.hok a _ ea);obtain ⟨o,h1,h2,_⟩:=p;exact PySem.W.kia_one PySem.W.kitx_tuple I.kIn ⟨o,h1,h2⟩ e (fun z => nomatch z) h
 | @dK a kvs ea =>
  cases (show u = Value.ref a from rx)
  obtain ⟨_,_,vs,_,p⟩:=(show ObjOk X.prog X.w H s.heap a (.dK kvs) from I.hok a _ ea);obtain ⟨o,es,ep,h1,h2,_⟩:=p;exact PySem.W.kia_one PySem.W.kitx_dict I.kIn ⟨o,h1,h2.1⟩ e (fun z => nomatch z) h
 | @dT a kvs ea =>
  cases (show u = Value.ref a from rx)
  obtain ⟨_,_,xs,_,o,es,ep,h1,h2,_⟩:=(show ObjOk X.prog X.w H s.heap a (.dT kvs) from I.hok a _ ea);exact PySem.W.kia_one PySem.W.kitx_dict I.kIn ⟨o,h1,h2.1⟩ e (fun z => nomatch z) h
 | @ins a C dx fs ea cl ha hn htk hm =>
  cases (show u = Value.ref a from rx)
  obtain ⟨mA,O,_⟩:=ins_get I.hok ea;obtain ⟨od,J,_⟩:=O.look;exact PySem.W.kia_one (PySem.W.kitx_own (cl.get _) cl.hd ha hn htk hm) I.kIn J e (fun z => nomatch z) h
end
structure Room (k:Nat) (A:Around):Prop where
 hd:A.handled = none
 dp:A.depth + 3 * k + 5 < recursionLimit
 un:A.units + 16 * k + 200 < cLine
 gd:A.guards = some []
theorem Room.mono {j k:Nat} {A:Around} (r:Room k A) (h:j <= k):Room j A:=⟨r.hd,by have:=r.dp;lia,by have:=r.un;lia,r.gd⟩
theorem Room.deeper {k:Nat} {A:Around} (r:Room (k + 1) A) (env:Env):Room k (A.deeper env) :=
 ⟨r.hd,by have:=r.dp;show A.depth + 1 + 3 * k + 5 < _;lia,by have:=r.un;show A.units + 3 + 16 * k + 200 < _;lia,r.gd⟩
theorem make_depth {A:Around} {C:Addr} {us:List Value} {kw:List (Str × Value)}:(A.under (.builtin "type.__call__" ⟨.ref C :: us,kw⟩)).depth = A.depth + 1:=by
 first | rfl | simp [Around.under,Code.weight,Code.isCreation,Code.isGuard,Code.isCaller,Code.frames,Code.isFrame,guardIds]
theorem make_units {A:Around} {C:Addr} {us:List Value} {kw:List (Str × Value)}:(A.under (.builtin "type.__call__" ⟨.ref C :: us,kw⟩)).units = A.units + 1:=by
 first | rfl | simp [Around.under,Code.cUnits,Code.frames,Code.isFrame]
theorem Room.make {k:Nat} {A:Around} (r:Room (k + 1) A) (C:Addr) (us:List Value) (kw:List (Str × Value)):Room k (A.under (.builtin "type.__call__" ⟨.ref C :: us,kw⟩)) :=
 ⟨r.hd,by have:=r.dp;rw [make_depth];lia,by have:=r.un;rw [make_units];lia,by have h:=r.gd;first | exact h | (simp [Around.under,Code.guards,Code.isGuard,guardIds];exact h)⟩
theorem Room.depth {k:Nat} {A:Around} (r:Room k A):A.depth < recursionLimit:=by have:=r.dp;lia
theorem Room.units {k:Nat} {A:Around} (r:Room k A):A.units + 64 < cLine:=by have:=r.un;lia
def tNil:TA:=fun _ H Q => Q [] H
def tCons (ta:TE) (tr:TA):TA:=fun σ H Q => ta σ H fun x H1 => tr σ H1 fun xs H2 => Q (x :: xs) H2
section
variable {X:Cx} {e:Expr} {es:List Expr} {te:TE} {t:TA} {pos:Pos}
theorem pa_nil:PA X [] tNil:=fun _ _ _ _ H Q I h => Calls.spliced_nil ⟨[],H,I,.nil,h⟩
theorem pa_cons (ha:PE X e te) (hr:PA X es t) (hs:autoParam (starEach (e :: es) X.env = (false,eval e X.env) :: starEach es X.env) L2.aRfl._auto_1):PA X (e :: es) (tCons te t):=by
 intro pos pins s σ H Q I h;rw [hs];show wpAny _ _ (spliced ((false,eval e X.env) :: backTo pos (starEach es X.env))) _ _ s;refine Calls.spliced_cons (thn (ha pins s σ H _ I h) fun u s1 ⟨x,H1,I1,r1,q1⟩ => ?_);exact thn (hr pos pins s1 σ H1 _ I1 q1) fun us s2 ⟨xs,H2,I2,r2,q2⟩ => ⟨x :: xs,H2,I2,.cons r1 r2,q2⟩
def tTup (t:TA):TE:=fun σ H Q => t σ H fun xs H1 => xs.length <= sizeLine /\ ∀ p,H1 p = none -> Q (.ref p) (upd H1 p (.tup xs))
def tLst (t:TA):TE:=fun σ H Q => t σ H fun xs H1 => xs.length <= sizeLine /\ ∀ p,H1 p = none -> Q (.ref p) (upd H1 p (.lst xs))
theorem pe_tup {x1} (h:PA X es t):PE X (.Tuple es x1 pos) (tTup t):=by
 intro pins s σ H Q I hq;refine wpAny_Tuple_spliced (thn (h pos pins s σ H _ I hq) fun us s1 ⟨xs,H1,I1,r,z,q⟩ => ⟨by rw [<- r.length];exact z,?_⟩)
 have hf:H1 s1.heap.objs.size = none:=I1.hok.fresh (Nat.le_refl _);refine ⟨.ref s1.heap.objs.size,upd H1 s1.heap.objs.size (.tup xs),I1.laid (t':=s1.toks) (fun b u e => Heap.get?_push_of_some _ e) (Nat.le_refl _) ?_,rfl,q _ hf⟩;exact ⟨z,us,r,⟨_,Heap.get?_push_size _ rfl,rfl,_,rfl,rfl⟩⟩
theorem pe_lst (h:PA X es t):PE X (.List es pos) (tLst t):=by
 intro pins s σ H Q I hq;refine wpAny_List_spliced (thn (h pos pins s σ H _ I hq) fun us s1 ⟨xs,H1,I1,r,z,q⟩ => ⟨by rw [<- r.length];exact z,?_⟩)
 have hf:H1 s1.heap.objs.size = none:=I1.hok.fresh (Nat.le_refl _);refine ⟨.ref s1.heap.objs.size,upd H1 s1.heap.objs.size (.lst xs),I1.laid (t':=s1.toks) (fun b u e => Heap.get?_push_of_some _ e) (Nat.le_refl _) ?_,rfl,q _ hf⟩;exact ⟨z,us,0,r,Heap.get?_push_size _ rfl⟩
end
noncomputable abbrev Sp:=List V -> Hp -> VK -> XK -> Prop
noncomputable abbrev CXT:=List Env -> Hp -> Shared -> XK -> Value -> Shared -> Prop
structure Env0 (P:Program) (w:World) (K:PySem.W.Frag) (mg:Str -> Option Value) (base:Heap) (A:Around) (outer:List Env) (s:Shared) (H:Hp):Prop where
 frames:A.frames = some outer
 mod:Mod K mg base
 bs:∀ b o,base.get? b = some o -> s.heap.get? b = some o /\ H b = none
 bsz:base.objs.size <= s.heap.objs.size
 funs:s.heap.FunFrames base outer
 frf:∀ b ∈ frs outer,H b = none
 hok:HOk P w H s.heap
 bare:AllBare s.gens
 tabs:TabsOk K H
def CE (outer:List Env) (P:Program) (w:World) (H:Hp) (s:Shared) (Q:VK) (u:Value) (s':Shared):Prop :=
 ∃ v H',s'.os = s.os /\ AllBare s'.gens /\ Un (frs outer) [] H H' s.heap s'.heap /\ HOk P w H' s'.heap /\ RelV v u /\ Q v H'
def CR (CX:CXT) (outer:List Env) (P:Program) (w:World) (H:Hp) (s:Shared) (Q:VK) (E:XK) (r:Result) (s':Shared):Prop :=
 match r with
 | .ok (.ret u) => CE outer P w H s Q u s'
 | .ok _ => False
 | .error e => CX outer H s E e s'
structure FnOk (P:Program) (w:World) (K:PySem.W.Frag) (mg:Str -> Option Value) (base:Heap) (CX:CXT) (k:Nat) (f:Addr) (fd:FuncData) (ps:List Str) (sp:Sp):Prop where
 len:∀ vs H Q E,sp vs H Q E -> vs.length = ps.length
 run:∀ (A:Around) (outer:List Env) (s:Shared) (H:Hp) (args:Args) (us:List Value) (vs:List V) (Q:VK) (E:XK),Room k A -> Env0 P w K mg base A outer s H -> BindsTo s fd args (ps.zip us) -> Vals vs us -> sp vs H Q E ->
  codeAny (model P w) A (.call (.ref f) args) (CR CX outer P w H s Q E) s
theorem FnOk.mono {P:Program} {w:World} {K:PySem.W.Frag} {mg:Str -> Option Value} {base:Heap} {CX:CXT} {j k:Nat} {f:Addr} {fd:FuncData} {ps:List Str} {sp:Sp} (F:FnOk P w K mg base CX j f fd ps sp) (h:j <= k) :
  FnOk P w K mg base CX k f fd ps sp:=⟨F.len,fun A outer s H args us vs Q E hr => F.run A outer s H args us vs Q E (hr.mono h)⟩
theorem FnOk.imp {P:Program} {w:World} {K:PySem.W.Frag} {mg:Str -> Option Value} {base:Heap} {CX:CXT} {k:Nat} {f:Addr} {fd:FuncData} {ps:List Str} {sp sp':Sp} (F:FnOk P w K mg base CX k f fd ps sp)
  (h:∀ vs H Q E,sp' vs H Q E -> sp vs H Q E):FnOk P w K mg base CX k f fd ps sp' :=
 ⟨fun vs H Q E q => F.len vs H Q E (h _ _ _ _ q),fun A outer s H args us vs Q E hr he hb hv hs => F.run A outer s H args us vs Q E hr he hb hv (h _ _ _ _ hs)⟩
theorem Env0.make {P:Program} {w:World} {K:PySem.W.Frag} {mg:Str -> Option Value} {base:Heap} {A:Around} {outer:List Env} {s:Shared} {H:Hp} (e:Env0 P w K mg base A outer s H) (C:Addr) (us:List Value) (kw:List (Str × Value)) :
  Env0 P w K mg base (A.under (.builtin "type.__call__" ⟨.ref C :: us,kw⟩)) outer s H:=⟨by first | exact e.frames | (simpa [Around.under,Code.envs,Code.isFrame,pushEnvs] using e.frames),e.mod,e.bs,e.bsz,e.funs,e.frf,e.hok,e.bare,e.tabs⟩
section
variable {X:Cx} {pins:List (Addr × Obj)} {σ:St} {H:Hp} {s s':Shared}
theorem Inv.env0 (I:Inv X pins σ H s):Env0 X.prog X.w X.K X.mg X.base X.A X.stack s H :=
 ⟨I.ok.frames,I.ok.mod,I.bs,Nat.le_trans I.ok.bsz I.sz,I.stack,I.stkFree,I.hok,I.bare,I.ok.tabs.un I.base⟩
theorem Inv.after {Q:VK} {u:Value} (I:Inv X pins σ H s) (h:CE X.stack X.prog X.w H s Q u s'):EP X pins σ Q u s':=by
 obtain ⟨v,H',os,bare,un,hok,r,q⟩:=h;obtain ⟨hh,g,d,t,os'⟩:=s';obtain rfl:os' = s.os:=os;exact ⟨v,H',I.call (h':=hh) (g':=g) (d':=d) (t':=t) (ch:=[]) un hok bare (fun b z => absurd z (by simp)),r,q⟩
end
def tCall (sp:Sp) (dvs:List V) (E:XK) (t:TA):TE:=fun σ H Q => t σ H fun vs H1 => sp (vs ++ dvs) H1 Q E
def Binds (K:PySem.W.Frag) (fd:FuncData) (ps:List Str) (ds:List Value):Prop :=
 ∀ (s:Shared) (us:List Value),K.In s.heap -> (us ++ ds).length = ps.length -> BindsTo s fd ⟨us,[]⟩ (ps.zip (us ++ ds))
theorem Binds.all {K:PySem.W.Frag} {fd:FuncData} {ps:List Str} (h:∀ us:List Value,us.length = ps.length -> bindArgs fd ⟨us,[]⟩ = pure (ps.zip us)):Binds K fd ps []:=fun s us _ hl => by
 rw [List.append_nil] at hl ⊢;exact .of_eq (h us hl)
def Passes (CX:CXT) (X:Cx) (E:XK):Prop:=∀ (pins:List (Addr × Obj)) (σ:St) (H:Hp) (s:Shared) (e:Value) (s':Shared),Inv X pins σ H s -> CX X.stack H s E e s' -> X.xe e s'
section
variable {X:Cx} {CX:CXT} {k:Nat} {f C:Addr} {fd:FuncData} {ps:List Str} {sp:Sp} {dvs:List V} {ds:List Value} {E:XK} {x m:Str} {p pos apos:Pos} {e o:Expr} {es:List Expr} {ta:TE} {t:TA}
theorem run_fn {pins:List (Addr × Obj)} {σ:St} {H:Hp} {s:Shared} {Q:VK} {us:List Value} {vs:List V} (F:FnOk X.prog X.w X.K X.mg X.base CX k f fd ps sp) (hr:Room k X.A) (hb:Binds X.K fd ps ds) (hd:Vals dvs ds) (hx:Passes CX X E)
  (I:Inv X pins σ H s) (r:Vals vs us) (h:sp (vs ++ dvs) H Q E):wpAny (model X.prog X.w) X.A (call (.ref f) us) (EP X pins σ Q) X.xe s:=by
 have r2:Vals (vs ++ dvs) (us ++ ds):=r.append hd;have hl:(us ++ ds).length = ps.length:=by rw [<- r2.length];exact F.len _ _ _ _ h
 refine wpAny_call (codeAny_mono (F.run X.A X.stack s H ⟨us,[]⟩ (us ++ ds) (vs ++ dvs) Q E hr I.env0 (hb s us I.kIn hl) r2 h) fun r s' hq => ?_)
 cases r with
 | error e => exact hx pins σ H s e s' I hq
 | ok fl =>
  cases fl with
  | ret u => exact I.after hq
  | next => exact False.elim hq
  | brk => exact False.elim hq
  | cont => exact False.elim hq
theorem pe_call (F:FnOk X.prog X.w X.K X.mg X.base CX k f fd ps sp) (hr:Room k X.A) (hg:Gl X x) (hm:X.mg x = some (.ref f)) (hk:PySem.W.keepIn X.K (.ref f) = true) (hb:Binds X.K fd ps ds) (hd:Vals dvs ds) (hx:Passes CX X E)
  (ha:PA X (e :: es) t) (hdb:autoParam ((x == ("__debug__":Str)) = false) L2.aDec._auto_1) (he:autoParam (starEach (e :: es) X.env = (false,eval e X.env) :: starEach es X.env) L2.aRfl._auto_1) (hpl:autoParam ((backTo pos (starEach es X.env)).any (·.1) = false) L2.aRfl._auto_1) :
  PE X (.Call (.Name x p) (e :: es) [] pos) (tCall sp dvs E t):=by
 intro pins s σ H Q I h;refine wpAny_Call_Name_kw (ld_glob I hg hm ?_ hdb);refine PySem.W.callWith_K (h₀:=X.base) I.ok.mod.kin hk (thn (ha pos pins s σ H _ I h) fun us s1 ⟨vs,H1,I1,r,q⟩ => ⟨I1.kIn,?_⟩) he hpl;exact run_fn F hr hb hd hx I1 r q
end
section
variable {X:Cx} {CX:CXT} {k:Nat} {f C:Addr} {fd:FuncData} {ps ks:List Str} {sp:Sp} {E:XK} {x m:Str} {p pos apos kpos:Pos} {e o:Expr} {es:List Expr} {kws:List Keyword} {te ta:TE} {t tk:TA} {nm:Option Str}
variable {g:List Value -> List Value -> List Value} {gV:List V -> List V -> List V}
end
structure FnScope (N P:List Str) (sc:Scope):Prop where
 kind:sc.kind = .function
 co:sc.isCoroutine = false
 gen:sc.isGenerator = false
 nd:N.Nodup
 pre:N.take P.length = P
 par:∀ x ∈ P,sc.names.lookup x = some .local \/ sc.names.lookup x = some .cell
 nofree:∀ y ∈ sc.names,y.2 ≠ .free
theorem bindL_out {kindOf:Str -> Option NameKind} {x:Str}:∀ {binds:List (Str × Value)} {m:Str -> Option Value},(∀ v,(x,v) ∉ binds) -> bindL kindOf binds m x = m x
 | [],_,_ => rfl
 | (n,v) :: r,m,h => by
  unfold bindL;rw [bindL_out fun w hw => h w (List.mem_cons_of_mem _ hw)];split
  ·have:x ≠ n:=by rintro rfl;exact h v List.mem_cons_self
   simp [this]
  ·rfl
theorem bindC_out {kindOf:Str -> Option NameKind} {x:Str}:∀ {binds:List (Str × Value)} {m:Str -> Option Value},(∀ v,(x,v) ∉ binds) -> bindC kindOf binds m x = m x
 | [],_,_ => rfl
 | (n,v) :: r,m,h => by
  unfold bindC;rw [bindC_out fun w hw => h w (List.mem_cons_of_mem _ hw)];split
  ·rfl
  ·have:x ≠ n:=by rintro rfl;exact h v List.mem_cons_self
   simp [this]
theorem bindL_get {kindOf:Str -> Option NameKind} {x:Str} {v:Value}:∀ {P:List Str} {vs:List Value} {i:Nat} {m:Str -> Option Value},P.Nodup -> P[i]? = some x -> vs[i]? = some v -> kindOf x = some .local ->
  bindL kindOf (P.zip vs) m x = some v
 | [],_,_,_,_,h,_,_ => by simp at h
 | _ :: _,[],_,_,_,_,h,_ => by simp at h
 | p :: P,w :: vs,0,m,nd,h1,h2,hk => by
  simp at h1 h2;subst h1;subst h2;show bindL kindOf ((p,w) :: P.zip vs) m p = _;unfold bindL;rw [bindL_out fun v hv => (List.nodup_cons.mp nd).1 (List.of_mem_zip hv).1,if_pos hk];simp
 | p :: P,w :: vs,i + 1,m,nd,h1,h2,hk => by
  show bindL kindOf ((p,w) :: P.zip vs) m x = _;unfold bindL;exact bindL_get (i:=i) (List.nodup_cons.mp nd).2 (by simpa using h1) (by simpa using h2) hk
theorem bindC_get {kindOf:Str -> Option NameKind} {x:Str} {v:Value}:∀ {P:List Str} {vs:List Value} {i:Nat} {m:Str -> Option Value},P.Nodup -> P[i]? = some x -> vs[i]? = some v -> kindOf x ≠ some .local ->
  bindC kindOf (P.zip vs) m x = some v
 | [],_,_,_,_,h,_,_ => by simp at h
 | _ :: _,[],_,_,_,_,h,_ => by simp at h
 | p :: P,w :: vs,0,m,nd,h1,h2,hk => by
  simp at h1 h2;subst h1;subst h2;show bindC kindOf ((p,w) :: P.zip vs) m p = _;unfold bindC;rw [bindC_out fun v hv => (List.nodup_cons.mp nd).1 (List.of_mem_zip hv).1,if_neg hk];simp
 | p :: P,w :: vs,i + 1,m,nd,h1,h2,hk => by
  show bindC kindOf ((p,w) :: P.zip vs) m x = _;unfold bindC;exact bindC_get (i:=i) (List.nodup_cons.mp nd).2 (by simpa using h1) (by simpa using h2) hk
def start (N:List Str) (vs:List V):St:=vs.map some ++ List.replicate (N.length - vs.length) none
def cxOf (CX:CXT) (P:Program) (w:World) (K:PySem.W.Frag) (mg:Str -> Option Value) (base:Heap) (N:List Str) (qual:Str) (scope:Scope) (f:Addr) (cd:Value) (A:Around) (outer:List Env) (s:Shared) (H:Hp) (E:XK):Cx where
 prog:=P
 w:=w
 K:=K
 mg:=mg
 base:=base
 A:=A.deeper (envOfC qual scope s.heap.objs.size f cd)
 N:=N
 s₀:=s
 H₀:=H
 env:=envOfC qual scope s.heap.objs.size f cd
 outer:=outer
 stack:=envOfC qual scope s.heap.objs.size f cd :: outer
 ex:=[]
 calm:=true
 fn:=fun _ => true
 pn:=[]
 xe:=fun e s' => wpAny (model P w) (A.deeper (envOfC qual scope s.heap.objs.size f cd)) (leaving (envOfC qual scope s.heap.objs.size f cd) e) (fun _ s'' => CX outer H s E e s'') (fun e' s'' => CX outer H s E e' s'') s'
theorem cell_has {sc:Scope} {n:Nat} {x:Str} (h:sc.names.lookup x = some .cell):∃ c,(cellsFrom n sc.names []).lookup x = some c:=by
 have q:=PySem.W.cellsFrom_some sc.names n [] (.inl h);exact Option.isSome_iff_exists.mp q
theorem inv_start {CX:CXT} {P:Program} {w:World} {K:PySem.W.Frag} {mg:Str -> Option Value} {base:Heap} {N ps:List Str} {qual:Str} {scope:Scope} {f:Addr} {cd:Value} {A:Around} {outer:List Env} {s s1:Shared} {H:Hp} {E:XK} {us:List Value} {vs:List V}
  (S:FnScope N ps scope) (hd:A.handled = none) (e0:Env0 P w K mg base A outer s H) (hl:vs.length = ps.length) (r:Vals vs us)
  (x:InCallC s s.heap.objs.size (bindL (envOfC qual scope s.heap.objs.size f cd).kindOf (ps.zip us) fun _ => none) (cellsFrom (s.heap.objs.size + 1) scope.names []) (bindC (envOfC qual scope s.heap.objs.size f cd).kindOf (ps.zip us) fun _ => none) s1) :
  Inv (cxOf CX P w K mg base N qual scope f cd A outer s H E) [] (start N vs) H s1:=by
 have hpl:ps.length <= N.length:=by have:=congrArg List.length S.pre;rw [List.length_take] at this;lia
 obtain ⟨h1,tk,rfl,hk⟩:=x.done;have noA:∀ b:Addr,b ∉ (cxOf CX P w K mg base N qual scope f cd A outer s H E).ex:=fun b z => absurd (show b ∈ ([]:List Addr) from z) (by simp)
 refine ⟨⟨e0.mod,S.kind,rfl,rfl,Nat.le_refl _,fun y z c h1 h2 => ?_,fun y hy => ?_,fun y c _ h => ?_,fun _ => hd,Around.frames_deeper e0.frames,.inr ⟨rfl,rfl⟩,fun b z => absurd z (noA b),e0.bs,e0.bsz,fun b _ _ => noA b,fun b z => absurd z (noA b),e0.funs,e0.frf,e0.tabs⟩,
  rfl,e0.bare,Un.kept hk,⟨_,x.toInCall.ns,fun i y v h1 h2 h3 => ?_⟩,fun y c h => ⟨_,x.cell y c h⟩,e0.hok.fresh (Nat.le_refl _),fun y c h => ?_,fun p hp => absurd (show p ∈ ([]:List (Addr × Obj)) from hp) (by simp),e0.hok.kept hk,?_⟩
 ·exact name_of_addr x.apart (PySem.mem_of_lookup h1) (PySem.mem_of_lookup h2)
 ·have hy:scope.names.lookup y = some .cell \/ scope.names.lookup y = some .free:=hy;rcases hy with hy | hy
  ·exact cell_has hy
  ·exact absurd rfl (S.nofree _ (PySem.mem_of_lookup hy))
 ·exact Nat.le_of_lt (x.above y c (PySem.mem_of_lookup h))
 ·have hi:i < vs.length:=by
   unfold start at h2;by_cases hi:i < vs.length
   ·exact hi
   ·rw [List.getElem?_append_right (by simpa using hi)] at h2
    rw [List.getElem?_replicate] at h2
    split at h2 <;> cases h2
  have ha:vs[i]? = some v:=by
   unfold start at h2;rw [List.getElem?_append_left (by simpa using hi),List.getElem?_map] at h2
   cases e:vs[i]? with
   | none => rw [e] at h2;cases h2
   | some a => rw [e] at h2;cases h2;rfl
  obtain ⟨u,hu,rv⟩:=r.get ha;have hp:ps[i]? = some y:=by
   rw [<- S.pre,List.getElem?_take_of_lt (by lia)];exact h1
  have ndP:ps.Nodup:=by rw [<- S.pre];exact S.nd.sublist (List.take_sublist _ _)
  refine ⟨u,rv,?_⟩;rcases S.par y (List.mem_of_getElem? hp) with k | k
  ·exact .inl ⟨k,bindL_get ndP hp hu k⟩
  ·obtain ⟨c,e⟩:=cell_has (n:=s.heap.objs.size + 1) k;refine .inr ⟨.inl k,c,e,?_⟩;have q:=x.cell y c e;rw [bindC_get ndP hp hu (by show scope.names.lookup y ≠ _;rw [k];decide)] at q
   exact q
 ·exact e0.hok.fresh (Nat.le_of_lt (x.above y c (PySem.mem_of_lookup h)))
 ·unfold start;show _ = N.length;rw [List.length_append,List.length_map,List.length_replicate];lia
theorem fn_of {CX:CXT} {P:Program} {w:World} {K:PySem.W.Frag} {mg:Str -> Option Value} {base:Heap} {k:Nat} {f:Addr} {name qual:Str} {params:Arguments} {body:List Stmt} {scope:Scope} {dV kV doc pm cdv ct oc:Value} {an od:Option Addr}
  {osl:Array (Option Value)} {N ps:List Str} {sp:Sp} (lk:K.lookup f = some ⟨oc,od,.func (PySem.W.fnOf name qual params body scope dV kV doc pm an cdv ct),osl⟩) (hcd:PySem.W.codeIn K cdv qual = true) (S:FnScope N ps scope)
  (len:∀ vs H Q E,sp vs H Q E -> vs.length = ps.length)
  (hbody:∀ (A:Around) (outer:List Env) (s:Shared) (H:Hp) (vs:List V) (Q:VK) (E:XK),Room k (A.deeper (envOfC qual scope s.heap.objs.size f cdv)) -> sp vs H Q E ->
   ∃ t,PSs (cxOf CX P w K mg base N qual scope f cdv A outer s H E) body t /\ t { nx:=fun _ H' => Q .non H',rt:=Q } (start N vs) H) :
  FnOk P w K mg base CX (k + 1) f (PySem.W.fnOf name qual params body scope dV kV doc pm an cdv ct) ps sp:=by
 refine ⟨len,fun A outer s H args us vs Q E hr e0 hb r hsp => ?_⟩;have hl:=len _ _ _ _ hsp;have KX:K.In s.heap:=e0.mod.kin.keeps fun b o e => (e0.bs b o e).1;have lim:s.heap.NoLimit:=e0.mod.nolimit.keeps fun b o e => (e0.bs b o e).1;have hkind:∀ y ∈ ps.zip us,scope.names.lookup y.1 = some .local \/ (scope.names.lookup y.1 = some .cell /\ ((cellsFrom (s.heap.objs.size + 1) scope.names []).lookup y.1).isSome = true):=fun ⟨n,v⟩ hy => by
  rcases S.par n (List.of_mem_zip hy).1 with q | q
  ·exact .inl q
  ·exact .inr ⟨q,PySem.W.cellsFrom_some _ _ _ (.inl q)⟩
 refine codeAny_call_function hr.depth (KX _ _ lk) rfl S.co S.gen rfl (PySem.W.codeRec_of KX hcd) (hb _ _ _ _ ?_);refine wpAny_newFunctionEnv_cells S.kind hkind fun env he s1 x => ?_;subst he;refine ⟨lim.keeps x.toInCall.keep,codeAny_func ?_⟩;obtain ⟨t,ht,hq⟩:=hbody A outer s H vs Q E (hr.deeper _) hsp;have I:Inv (cxOf CX P w K mg base N qual scope f cdv A outer s H E) [] (start N vs) H s1:=inv_start S hr.hd e0 hl r x;refine wpAny_mono (ht [] s1 (start N vs) H _ I hq) (fun fl s' hs => ?_) fun e s' hs => hs;have fin:∀ {σ':St} {H':Hp} {v:V} {u:Value},Inv (cxOf CX P w K mg base N qual scope f cdv A outer s H E) [] σ' H' s' -> RelV v u -> Q v H' -> CE outer P w H s Q u s' :=
  fun {σ' H' v u} J rv q => ⟨v,H',J.os,J.bare,J.base,J.hok,rv,q⟩
 cases fl with
 | ret u =>
  obtain ⟨v,σ',H',J,rv,q⟩:=hs;exact fin J rv q
 | next =>
  obtain ⟨σ',H',J,q⟩:=hs;exact fin (v:=V.non) (u:=Value.none) J rfl q
 | brk =>
  obtain ⟨_,_,_,q⟩:=hs;exact False.elim q
 | cont =>
  obtain ⟨_,_,_,q⟩:=hs;exact False.elim q
section
variable {X:Cx} {x:Str} {p pos:Pos} {e:Expr} {es:List Expr} {t:TA} {id T:String} {r:List V -> Hp -> VK -> Prop}
def tCB (r:List V -> Hp -> VK -> Prop) (t:TA):TE:=fun σ H Q => t σ H fun vs H1 => r vs H1 Q
theorem pe_callB (hc:CallR X (.builtin id) r) (hg:Gl X x) (hm:X.mg x = none) (hv:bootBuiltins x = some (.builtin id)) (ha:PA X (e :: es) t) (hn:autoParam (x ≠ "__name__") L2.aDec._auto_1) (hdb:autoParam ((x == ("__debug__":Str)) = false) L2.aDec._auto_1)
  (he:autoParam (starEach (e :: es) X.env = (false,eval e X.env) :: starEach es X.env) L2.aRfl._auto_1) (hpl:autoParam ((backTo pos (starEach es X.env)).any (·.1) = false) L2.aRfl._auto_1):PE X (.Call (.Name x p) (e :: es) [] pos) (tCB r t):=by
 intro pins s σ H Q I h;refine wpAny_Call_Name_kw (ld_blt I hg hm hv ?_ hn hdb);exact PyProof.Rows.callWith_builtin1 (thn (ha pos pins s σ H _ I h) fun us s1 ⟨vs,H1,I1,r1,q1⟩ => hc pins s1 σ H1 vs us Q I1 r1 q1) he hpl
theorem pe_callTy (hc:CallR X (.type T) r) (hg:Gl X x) (hm:X.mg x = none) (hv:bootBuiltins x = some (.type T)) (ha:PA X (e :: es) t) (hn:autoParam (x ≠ "__name__") L2.aDec._auto_1) (hdb:autoParam ((x == ("__debug__":Str)) = false) L2.aDec._auto_1)
  (he:autoParam (starEach (e :: es) X.env = (false,eval e X.env) :: starEach es X.env) L2.aRfl._auto_1) (hpl:autoParam ((backTo pos (starEach es X.env)).any (·.1) = false) L2.aRfl._auto_1):PE X (.Call (.Name x p) (e :: es) [] pos) (tCB r t):=by
 intro pins s σ H Q I h;refine wpAny_Call_Name_kw (ld_blt I hg hm hv ?_ hn hdb);exact PyProof.Rows.callWith_type1 (thn (ha pos pins s σ H _ I h) fun us s1 ⟨vs,H1,I1,r1,q1⟩ => hc pins s1 σ H1 vs us Q I1 r1 q1) he hpl
end
end L2
namespace HT
open PySem PyProof.Rows
section
open PySem.SeqAt
open PySem.AutoSeq1 (wpAny_loadPart')
open PySem.MeetsSeq PySem.MeetsSeq2 PySem.MeetsSeq3
end
section
variable {prog:Program} {w:World} {A:Around} {E:Value -> Shared -> Prop} {s:Shared}
theorem cat_tup {t b:Addr} {vs ws:List Value} {Q:Value -> Shared -> Prop} (ht:IsTup s.heap t vs.toArray) (hb:IsTup s.heap b ws.toArray) (hv:vs ≠ [])
  (h1:ws = [] -> Q (.ref t) s) (h2:ws ≠ [] -> Q (.ref s.heap.objs.size) { s with heap:=s.heap.push { cls:=.type "tuple",data:=.seq (vs ++ ws).toArray } })
  (hsz:vs.length + ws.length <= sizeLine):wpAny (model prog w) A (binaryOp .Add (.ref t) (.ref b)) Q E s:=by
 obtain ⟨⟨cls,dd,data,sl⟩,ho,hc,n,hd⟩:=id ht;obtain ⟨⟨cls2,dd2,data2,sl2⟩,ho2,hc2,n2,hd2⟩:=id hb;simp only at hc hd hc2 hd2;subst hc hd hc2 hd2;have e:vs.toArray ++ ws.toArray = (vs ++ ws).toArray:=by simp
 by_cases hw:ws = []
 ·exact concat_meets ⟨_,ho,rfl⟩ ⟨_,ho2,rfl⟩ noFill_tuple_add seq_tuple_add PySem.F.slot_tuple_add PySem.F.entry_tuple_add (PySem.F.args_tuple_add_2 _ _)
   (tuple_addW1 t b vs.toArray ws.toArray n n2 dd dd2 sl sl2 (by simpa using hv) (by simp [hw])) ⟨ho,ho2,h1 hw⟩
 ·refine concat_meets ⟨_,ho,rfl⟩ ⟨_,ho2,rfl⟩ noFill_tuple_add seq_tuple_add PySem.F.slot_tuple_add PySem.F.entry_tuple_add (PySem.F.args_tuple_add_2 _ _)
   (tuple_addW2 t b vs.toArray ws.toArray n n2 dd dd2 sl sl2 (by simpa using hv) (by simpa using hw) (by rw [List.size_toArray,List.size_toArray];exact hsz)) ⟨ho,ho2,?_⟩
  rw [e];exact h2 hw
def sIx (n d:Nat):Option Int -> Nat
 | none => d
 | some v => if v < 0 then (v + (n:Int)).toNat else min v.toNat n
theorem sIx_none (n d:Nat):sIx n d none = d:=rfl
theorem sIx_nat (n d k:Nat):sIx n d (some (k:Int)) = min k n:=by
 show (if (k:Int) < 0 then ((k:Int) + (n:Int)).toNat else min (k:Int).toNat n) = min k n
 rw [if_neg (by lia),Int.toNat_natCast]
theorem sIx_le (n d:Nat) (hd:d <= n) (o:Option Int):sIx n d o <= n:=by
 cases o with
 | none => exact hd
 | some v =>
  show (if v < 0 then (v + (n:Int)).toNat else min v.toNat n) <= n
  by_cases hv:v < 0
  ·rw [if_pos hv];lia
  ·rw [if_neg hv];exact Nat.min_le_right _ _
theorem clip_eq (v:Int) (n d:Nat):(if v < 0 then max (v + (n:Int)) 0 else min v (n:Int)) = ((sIx n d (some v):Nat):Int):=by
 show (if v < 0 then max (v + (n:Int)) 0 else min v (n:Int)) = (((if v < 0 then (v + (n:Int)).toNat else min v.toNat n):Nat):Int)
 by_cases hv:v < 0
 ·simp only [if_pos hv];lia
 ·simp only [if_neg hv];lia
theorem adjust_gen (lo hi:Option Int) (n:Nat):Builtin.Slice.sliceAdjust lo hi 1 (n:Int) = (((sIx n 0 lo:Nat):Int),((sIx n n hi:Nat):Int)):=by
 have h1:¬ ((1:Int) < 0):=by lia
 unfold Builtin.Slice.sliceAdjust;simp only [h1,if_false];refine Prod.ext ?_ ?_
 ·cases lo with
  | none => rfl
  | some v => exact clip_eq v n 0
 ·cases hi with
  | none => rfl
  | some v => exact clip_eq v n n
theorem places_gen (i j:Nat):Builtin.Slice.slicePlaces (i:Int) (j:Int) 1 = j - i:=by
 unfold Builtin.Slice.slicePlaces;have h1:(1:Int) > 0:=by lia
 simp only [h1,if_true,Int.ediv_one]
 split <;> lia
theorem slicePart_ {v:Value} {o:Option Int} {Q:Option Int -> Shared -> Prop} (p:IsPart v o) (h:Q o s):wpAny (model prog w) A (Builtin.Slice.slicePartIndex v) Q E s:=by
 cases p with
 | none => exact slicePart_none h
 | int i t => exact slicePart_int h
theorem sliceApplied_gen {sl:Addr} {vl vu:Value} {lo hi:Option Int} {n:Nat} {Q:Int × Int × Nat -> Shared -> Prop} (hs:s.heap.IsSliceOf sl vl vu .none) (pl:IsPart vl lo) (pu:IsPart vu hi)
  (h:Q (((sIx n 0 lo:Nat):Int),1,sIx n n hi - sIx n 0 lo) s):wpAny (model prog w) A (Builtin.Slice.sliceApplied (.ref sl) (pure (n:Int))) Q E s:=by
 obtain ⟨os,hos,hcs,hds⟩:=id hs;unfold Builtin.Slice.sliceApplied Builtin.Slice.sliceFields;refine wpAny_bind (wpAny_bind (wpAny_field hos hds (x:=vl) rfl (wpAny_bind (wpAny_field hos hds (x:=vu) rfl (wpAny_bind (wpAny_field hos hds (x:=.none) rfl (wpAny_pure ?_)))))));refine wpAny_bind (slicePart_none ?_);show wpAny _ _ (if ((1:Int) == 0) = true then _ else _) _ _ s
 rw [if_neg (by decide)]
 refine wpAny_bind (slicePart_ pl (wpAny_bind (slicePart_ pu (wpAny_bind (wpAny_pure ?_)))));show wpAny _ _ (match Builtin.Slice.sliceAdjust lo hi 1 (n:Int) with | (lo,hi) => pure (lo,(1:Int),Builtin.Slice.slicePlaces lo hi 1)) _ _ s
 rw [adjust_gen lo hi n];show wpAny _ _ (pure (((sIx n 0 lo:Nat):Int),(1:Int),Builtin.Slice.slicePlaces ((sIx n 0 lo:Nat):Int) ((sIx n n hi:Nat):Int) 1)) _ _ s;rw [places_gen];exact wpAny_pure h
theorem pick_gen (xs:Array Value) (i k:Nat):((List.range k).filterMap fun (m:Nat) => xs[((i:Int) + (m:Int) * 1).toNat]?).toArray = ((xs.toList.drop i).take k).toArray:=by
 have e:(fun (m:Nat) => xs[((i:Int) + (m:Int) * 1).toNat]?) = fun m => xs[i + m]?:=by
  funext m
  have:((i:Int) + (m:Int) * 1).toNat = i + m:=by lia
  rw [this]
 rw [e];have:=pick_run xs i k;rw [List.filterMap_map] at this;have e2:((fun x => xs[x]?) ∘ fun x => i + x) = fun m => xs[i + m]?:=rfl;rw [e2] at this;rw [this]
theorem getItem_tuple_cut {t sl:Addr} {items:Array Value} {vl vu:Value} {lo hi:Option Int} {Q:Value -> Shared -> Prop} (ht:IsTup s.heap t items) (hs:s.heap.IsSliceOf sl vl vu .none) (pl:IsPart vl lo) (pu:IsPart vu hi)
  (hw:¬ (sIx items.size 0 lo = 0 /\ sIx items.size items.size hi = items.size))
  (h:Q (.ref s.heap.objs.size) { s with heap:=s.heap.push { cls:=.type "tuple",data:=.seq ((items.toList.drop (sIx items.size 0 lo)).take (sIx items.size items.size hi - sIx items.size 0 lo)).toArray } })
  (hsz:items.size <= sizeLine):wpAny (model prog w) A (getItem (.ref t) (.ref sl)) Q E s:=by
 have htake:sizeOk (.seq ((items.toList.drop (sIx items.size 0 lo)).take (sIx items.size items.size hi - sIx items.size 0 lo)).toArray):=by
  show ((items.toList.drop (sIx items.size 0 lo)).take (sIx items.size items.size hi - sIx items.size 0 lo)).toArray.size <= sizeLine;rw [List.size_toArray,List.length_take,List.length_drop,Array.length_toList];exact Nat.le_trans (Nat.min_le_right _ _) (Nat.le_trans (Nat.sub_le _ _) hsz)
 have hj:sIx items.size items.size hi <= items.size:=sIx_le _ _ (Nat.le_refl _) hi;obtain ⟨os,hos,hcs,hds⟩:=id hs;have hTs:s.TypeIs (.ref sl) "slice":=⟨os,hos,hcs⟩;unfold getItem
 try with_reducible refine wpAny_holding ?_
 first | refine wpAny_bind (wpAny_pure ?_) | skip
 refine wpAny_bind (wpAny_sequenceKey ht.typeIs (by decide) ?_)
 refine wpAny_bind (wpAny_callSpecial?_slot (name:=Str.ofString "__getitem__") ht.typeIs PyProof.Rows.slot_tuple_getitem
  (wpAny_call_entry PyProof.Rows.slot_tuple_getitem ht.typeIs entry_tuple_getitem ?_ (args_tuple_getitem _ _)))
 show wpAny _ _ (Builtin.Tuple.tupleItemsOf (.ref t) >>= _) _ _ s;refine wpAny_bind (tupleItemsOf_ ht ?_);refine wpAny_bind (wpAny_typeOf hTs ?_);rw [if_pos (by decide)]
 refine wpAny_bind (sliceApplied_gen hs pl pu ?_);have hno:¬ ((((sIx items.size 0 lo:Nat):Int) == 0 && (1:Int) == 1 && (sIx items.size items.size hi - sIx items.size 0 lo) == items.size) = true):=by
  intro q;rw [Bool.and_eq_true,Bool.and_eq_true] at q;have q1:((sIx items.size 0 lo:Nat):Int) = 0:=eq_of_beq q.1.1;have q2:sIx items.size items.size hi - sIx items.size 0 lo = items.size:=eq_of_beq q.2;exact hw ⟨by lia,by lia⟩
 show wpAny _ _ (if (((sIx items.size 0 lo:Nat):Int) == 0 && (1:Int) == 1 && (sIx items.size items.size hi - sIx items.size 0 lo) == items.size) = true then _ else _) _ _ s
 rw [if_neg hno,pick_gen]
 first
  | exact wpAny_bind (m:=Builtin.Tuple.tupleExact _) (wpAny_newObj_type (wpAny_pure ⟨_,rfl,wpAny_pure h⟩) htake)
  | exact wpAny_bind (m:=Builtin.Tuple.tupleExact _) (wpAny_newObj_type (wpAny_bind (wpAny_pure (wpAny_pure ⟨_,rfl,wpAny_pure h⟩))) htake)
  | exact wpAny_bind (wpAny_bind (m:=Builtin.Tuple.tupleExact _) (wpAny_newObj_type (wpAny_pure (wpAny_pure ⟨_,rfl,wpAny_pure h⟩)) htake))
  | exact wpAny_bind (wpAny_bind (m:=Builtin.Tuple.tupleExact _) (wpAny_newObj_type (wpAny_pure ⟨_,rfl,wpAny_pure h⟩) htake))
end
end HT
namespace L2
open PySem PySem.Spec PyProof.Rows
noncomputable abbrev TO:=St -> Hp -> (Option Int -> Hp -> Prop) -> Prop
def PO (X:Cx) (e:Option Expr) (t:TO):Prop :=
 ∀ (pins:List (Addr × Obj)) (s:Shared) (σ:St) (H:Hp) (Q:Option Int -> Hp -> Prop),Inv X pins σ H s -> t σ H Q ->
  wpAny (model X.prog X.w) X.A (evalPart e X.env) (fun u s' => ∃ o H',Inv X pins σ H' s' /\ IsPart u o /\ Q o H') X.xe s
def tNoPart:TO:=fun _ H Q => Q none H
def tPart (t:TE):TO:=fun σ H Q => t σ H fun x H1 => ∃ i,x = .int i /\ Q (some i) H1
theorem intsAre_of {ns:List Int}:∀ {us:List Value},Vals (ns.map V.int) us -> IntsAre us ns:=by
 induction ns with
 | nil => intro us r;rw [List.map_nil] at r;cases r;exact .nil
 | cons n ns ih =>
  intro us r;rw [List.map_cons] at r
  cases r with
  | cons r1 r2 =>
   obtain ⟨t,e⟩:=r1;subst e;exact .cons n t (ih r2)
section
variable {X:Cx} {e:Expr} {te:TE} {lo hi:Option Expr} {tl th:TO} {pos p2:Pos}
theorem po_none:PO X none tNoPart:=by
 intro pins s σ H Q I h;rw [evalPart_none];exact wpAny_pure ⟨none,H,I,.none,h⟩
theorem po_some (h:PE X e te):PO X (some e) (tPart te):=by
 intro pins s σ H Q I hw;rw [evalPart_some];refine thn (h pins s σ H _ I hw) fun u s1 ⟨x,H1,I1,r1,q1⟩ => ?_;obtain ⟨i,rfl,q⟩:=q1;obtain ⟨t,rfl⟩:=r1;exact ⟨some i,H1,I1,.int i t,q⟩
def SlR (X:Cx) (r:V -> Option Int -> Option Int -> Hp -> VK -> Prop):Prop :=
 ∀ (pins:List (Addr × Obj)) (s:Shared) (σ:St) (H:Hp) (x:V) (v vl vu:Value) (lo hi:Option Int) (sl:Addr) (Q:VK),Inv X pins σ H s -> RelV x v -> s.heap.IsSliceOf sl vl vu .none -> IsPart vl lo -> IsPart vu hi -> r x lo hi H Q ->
  ∃ T id,typeLookup (.type T) "__getitem__" = pure (some (.builtin id)) /\ s.TypeIs v T /\ wpAny (model X.prog X.w) X.A (getItem v (.ref sl)) (EP X pins σ Q) X.xe s
theorem SlR.or {r r':V -> Option Int -> Option Int -> Hp -> VK -> Prop} (h:SlR X r) (h':SlR X r'):SlR X (fun x lo hi H Q => r x lo hi H Q \/ r' x lo hi H Q):=by
 intro pins s σ H x v vl vu lo hi sl Q I rx hs pl pu q;rcases q with q | q
 ·exact h pins s σ H x v vl vu lo hi sl Q I rx hs pl pu q
 ·exact h' pins s σ H x v vl vu lo hi sl Q I rx hs pl pu q
def tSl (r:V -> Option Int -> Option Int -> Hp -> VK -> Prop) (te:TE) (tl th:TO):TE:=fun σ H Q => te σ H fun x H1 => tl σ H1 fun l H2 => th σ H2 fun u H3 => r x l u H3 Q
theorem pe_slice {r:V -> Option Int -> Option Int -> Hp -> VK -> Prop} (hr:SlR X r) (he:PE X e te) (hl:PO X lo tl) (hu:PO X hi th):PE X (.Subscript e (.Slice lo hi none p2) pos) (tSl r te tl th):=by
 intro pins s σ H Q I h;refine Subscript_ (thn (he pins s σ H _ I h) fun v s1 ⟨x,H1,I1,r1,q1⟩ => ?_);refine wpAny_Slice (thn (hl pins s1 σ H1 _ I1 q1) fun vl s2 ⟨l,H2,I2,pl,q2⟩ => thn (hu pins s2 σ H2 _ I2 q2) fun vu s3 ⟨u,H3,I3,pu,q3⟩ => ?_);rw [evalPart_none];refine wpAny_pure ?_;have I4:Inv X pins σ H3 { s3 with heap:=s3.heap.push { cls:=.type "slice",data:=.fields #[vl,vu,.none] } }:=I3.kept (t':=s3.toks) fun b ob q => Heap.get?_push_of_some _ q
 obtain ⟨T,id,hT,ht,hg⟩:=hr pins { s3 with heap:=s3.heap.push { cls:=.type "slice",data:=.fields #[vl,vu,.none] } } σ H3 x v vl vu l u s3.heap.objs.size Q I4 r1 (Heap.IsSliceOf.new ..) pl pu q3
 show wpAny (model X.prog X.w) X.A (subscriptTail e (.Slice lo hi none p2) v (.ref s3.heap.objs.size)) (EP X pins σ Q) X.xe { s3 with heap:=s3.heap.push { cls:=.type "slice",data:=.fields #[vl,vu,.none] } }
 exact tail_any (ops:=[.ref s3.heap.objs.size,v]) ht hT hg (by with_unfolding_all rfl)
def cutV (xs:List V) (lo hi:Option Int):List V:=(xs.drop (HT.sIx xs.length 0 lo)).take (HT.sIx xs.length xs.length hi - HT.sIx xs.length 0 lo)
theorem cutV_length (xs:List V) (lo hi:Option Int):(cutV xs lo hi).length <= xs.length:=by
 unfold cutV;rw [List.length_take,List.length_drop];exact Nat.le_trans (Nat.min_le_right _ _) (Nat.sub_le _ _)
def rSlT (K:PySem.W.Frag):V -> Option Int -> Option Int -> Hp -> VK -> Prop:=fun x lo hi H Q => ∃ a xs,x = .ref a /\ SqT K H a xs /\
 ¬ (HT.sIx xs.length 0 lo = 0 /\ HT.sIx xs.length xs.length hi = xs.length) /\ ∀ p,H p = none -> Q (.ref p) (upd H p (.tup (cutV xs lo hi)))
theorem sl_tup:SlR X (rSlT X.K):=by
 intro pins s σ H x v vl vu lo hi sl Q I rx hs pl pu h;obtain ⟨a,xs,rfl,hx,hw,q⟩:=h;cases rx;obtain ⟨its,r,ht,hz⟩:=I.tuple hx;have hlen:its.toArray.size = xs.length:=by rw [List.size_toArray];exact r.length.symm
 refine ⟨"tuple",_,PyProof.Rows.slot_tuple_getitem.lookup,ht.typeIs,?_⟩;refine HT.getItem_tuple_cut ht hs pl pu (by rw [hlen];exact hw) ?_ (by rw [hlen];exact hz)
 rw [hlen];refine ⟨.ref s.heap.objs.size,_,I.laid (t':=s.toks) (o:=.tup (cutV xs lo hi)) (fun b ob q => Heap.get?_push_of_some _ q) (Nat.le_refl _) ?_,rfl,q _ (I.hok.fresh (Nat.le_refl _))⟩;exact ⟨Nat.le_trans (cutV_length xs lo hi) hz,_,(r.drop (HT.sIx xs.length 0 lo)).take (HT.sIx xs.length xs.length hi - HT.sIx xs.length 0 lo),IsTupD.new _ _⟩
def rCatT (K:PySem.W.Frag):R2:=fun x y H Q => ∃ a b xs ys,x = .ref a /\ y = .ref b /\ SqT K H a xs /\ SqT K H b ys /\ xs ≠ [] /\ xs.length + ys.length <= sizeLine /\
 (ys = [] -> Q (.ref a) H) /\ (ys ≠ [] -> ∀ p,H p = none -> Q (.ref p) (upd H p (.tup (xs ++ ys))))
theorem Vals.nil_iff {xs:List V} {us:List Value} (r:Vals xs us):us = [] ↔ xs = []:=by
 cases r with
 | nil => simp
 | cons _ _ => simp
theorem op_catT:OpR X (binaryOp .Add) (rCatT X.K):=by
 intro pins s σ H x y v u Q I rx ry h;obtain ⟨a,b,xs,ys,rfl,rfl,ha,hb,hx,hz,q1,q2⟩:=h;cases rx;cases ry;obtain ⟨its,r1,p1,_⟩:=I.tuple ha;obtain ⟨its2,r2,p2,_⟩:=I.tuple hb;refine HT.cat_tup p1 p2 (fun z => hx (r1.nil_iff.mp z)) (fun z => ⟨.ref a,H,I,rfl,q1 (r2.nil_iff.mp z)⟩) (fun z => ?_) (by rw [<- r1.length,<- r2.length];exact hz)
 refine ⟨.ref s.heap.objs.size,_,I.laid (t':=s.toks) (o:=.tup (xs ++ ys)) (fun b ob q => Heap.get?_push_of_some _ q) (Nat.le_refl _) ?_,rfl,q2 (fun w => z (r2.nil_iff.mpr w)) _ (I.hok.fresh (Nat.le_refl _))⟩;exact ⟨by rw [List.length_append];exact hz,_,r1.append r2,IsTupD.new _ _⟩
end
def ixN (n:Nat) (i:Int):Option Nat:=if 0 <= i then (if i < n then some i.toNat else none) else if -(n:Int) <= i then some (i + n).toNat else none
def atI {α:Type} (xs:List α) (i:Int):Option α:=(ixN xs.length i).bind fun j => xs[j]?
theorem ixN_seq {n:Nat} {i:Int} {j:Nat} (h:ixN n i = some j):seqIndex? i n = some j /\ j < n /\ -(n:Int) <= i /\ i < n:=by
 unfold ixN at h;by_cases h0:0 <= i
 ·rw [if_pos h0] at h;by_cases h1:i < n
  ·rw [if_pos h1] at h;have e:i.toNat = j:=Option.some.inj h;exact ⟨by rw [seqIndex_of h0 h1,e],by lia,by lia,h1⟩
  ·rw [if_neg h1] at h;cases h
 ·rw [if_neg h0] at h;by_cases h1:-(n:Int) <= i
  ·rw [if_pos h1] at h;have e:(i + n).toNat = j:=Option.some.inj h;exact ⟨by rw [seqIndex_neg (by lia) h1,e],by lia,h1,by lia⟩
  ·rw [if_neg h1] at h;cases h
theorem atI_get {α:Type} {xs:List α} {i:Int} {v:α} (h:atI xs i = some v):∃ j,seqIndex? i xs.length = some j /\ xs[j]? = some v /\ j < xs.length /\ -(xs.length:Int) <= i /\ i < xs.length:=by
 unfold atI at h
 cases e:ixN xs.length i with
 | none => rw [e] at h;cases h
 | some j =>
  rw [e] at h;obtain ⟨h1,h2,h3,h4⟩:=ixN_seq e;exact ⟨j,h1,h,h2,h3,h4⟩
theorem atI_nat {α:Type} {xs:List α} {j:Nat} {v:α} (h:xs[j]? = some v):atI xs (j:Int) = some v:=by
 have hj:j < xs.length:=(List.getElem?_eq_some_iff.mp h).1;have e:ixN xs.length (j:Int) = some j:=by
  unfold ixN;rw [if_pos (by lia),if_pos (by lia)];simp
 unfold atI;rw [e];exact h
def PlainIx (b:Expr):Prop:=∀ o i,subscripted b false o i = operate [o,i] (getItem o i)
def IxR (X:Cx) (r:R2):Prop :=
 ∀ (value slice:Expr) (pins:List (Addr × Obj)) (s:Shared) (σ:St) (H:Hp) (x y:V) (v u:Value) (Q:VK),Inv X pins σ H s -> RelV x v -> RelV y u -> r x y H Q ->
  subscripted slice false v u = operate [v,u] (getItem v u) -> wpAny (model X.prog X.w) X.A (subscriptTail value slice v u) (EP X pins σ Q) X.xe s
def MtR (X:Cx) (id:String) (r:V -> List V -> Hp -> VK -> Prop):Prop :=
 ∀ (pins:List (Addr × Obj)) (s:Shared) (σ:St) (H:Hp) (x:V) (xs:List V) (v:Value) (us:List Value) (Q:VK),Inv X pins σ H s -> RelV x v -> Vals xs us -> r x xs H Q ->
  wpAny (model X.prog X.w) X.A (call (.builtin id) (v :: us)) (EP X pins σ Q) X.xe s
section
variable {X:Cx} {a b:Expr} {ta tb:TE} {pos:Pos}
theorem IxR.or {r r':R2} (h:IxR X r) (h':IxR X r'):IxR X (fun x y H Q => r x y H Q \/ r' x y H Q):=by
 intro value slice pins s σ H x y v u Q I rx ry q hs;rcases q with q | q
 ·exact h value slice pins s σ H x y v u Q I rx ry q hs
 ·exact h' value slice pins s σ H x y v u Q I rx ry q hs
theorem pe_ix {r:R2} (hr:IxR X r) (ha:PE X a ta) (hb:PE X b tb) (hs:PlainIx b):PE X (.Subscript a b pos) (tOp r ta tb):=by
 intro pins s σ H Q I h;exact Subscript_ (binT ha hb I h fun v u s2 x y H2 I2 rx ry q => hr a b pins s2 σ H2 x y v u Q I2 rx ry q (hs _ _))
def rIxL (K:PySem.W.Frag):R2:=fun x y H Q => ∃ p xs i v,x = .ref p /\ y = .int i /\ SqL K H p xs /\ atI xs i = some v /\ Q v H
def rIxT (K:PySem.W.Frag):R2:=fun x y H Q => ∃ p xs i v,x = .ref p /\ y = .int i /\ SqT K H p xs /\ atI xs i = some v /\ Q v H
def rIxS:R2:=fun x y H Q => ∃ z i c,x = .str z /\ y = .int i /\ z.length <= sizeLine /\ atI z.cps.toList i = some c /\ Q (.str ⟨#[c]⟩) H
theorem ix_list:IxR X (rIxL X.K):=by
 intro value slice pins s σ H x y v u Q I rx ry h hs;obtain ⟨p,xs,i,z,rfl,rfl,hq,he,q⟩:=h;cases rx;obtain ⟨t,rfl⟩:=ry;obtain ⟨its,r,pl,hz⟩:=I.list hq;obtain ⟨j,h1,h2,h3,h4,h5⟩:=atI_get he;obtain ⟨w,ew,rw'⟩:=r.get h2;have hl:=r.length;have hn:=line63;have fin:EP X pins σ Q w s:=⟨z,H,I,rw',q⟩;by_cases h0:0 <= i
 ·have hj:i.toNat = j:=by
   rw [seqIndex_of h0 h5] at h1;exact Option.some.inj h1
  exact item_listR pl.isList h0 (by lia) (by rw [hj];simpa using ew) fin hs
 ·have hj:(i + (its.toArray.size:Int)).toNat = j:=by
   rw [seqIndex_neg (by lia) h4] at h1
   rw [List.size_toArray,<- hl];exact Option.some.inj h1
  exact subscriptTail_builtinR (x:=w) pl.isList.typeIs slot_list_getitem.lookup
   (wpAny_getItem_list_neg (Q:=fun r s' => r = w /\ EP X pins σ Q r s') pl.isList (by lia) (by rw [List.size_toArray] <;> lia) (by lia) (by rw [hj];simpa using ew) ⟨rfl,fin⟩) hs
theorem ix_tup:IxR X (rIxT X.K):=by
 intro value slice pins s σ H x y v u Q I rx ry h hs;obtain ⟨p,xs,i,z,rfl,rfl,hq,he,q⟩:=h;cases rx;obtain ⟨t,rfl⟩:=ry;obtain ⟨its,r,pl,hz⟩:=I.tuple hq;obtain ⟨j,h1,h2,h3,h4,h5⟩:=atI_get he;obtain ⟨w,ew,rw'⟩:=r.get h2;have hl:=r.length;have hn:=line63;have fin:EP X pins σ Q w s:=⟨z,H,I,rw',q⟩;exact subscriptTail_builtinR (x:=w) pl.typeIs slot_tuple_getitem.lookup
  (getItem_tuple (j:=j) (Q:=fun r s' => r = w /\ EP X pins σ Q r s') pl (by lia) (by lia) (by rw [List.size_toArray,<- hl];exact h1) (by simpa using ew) ⟨rfl,fin⟩) hs
theorem ix_str:IxR X rIxS:=by
 intro value slice pins s σ H x y v u Q I rx ry h hs;obtain ⟨z,i,c,rfl,rfl,hz,he,q⟩:=h;obtain ⟨t,rfl⟩:=rx;obtain ⟨t',rfl⟩:=ry;obtain ⟨j,h1,h2,h3,h4,h5⟩:=atI_get he;have hl:z.cps.toList.length = z.length:=by simp [Str.length]
 rw [hl] at h1 h4 h5;have hn:=line63;exact tail_any (typeIs_str s z t) slot_str_getitem.lookup (getItem_str (c:=c) (by
  have e1:decide (i < -(2 ^ 63:Int)) = false:=decide_eq_false (by lia)
  have e2:decide (i >= 2 ^ 63) = false:=decide_eq_false (by lia)
  rw [e1,e2,Bool.or_false]) (by rw [h1];simpa using h2) ⟨.str ⟨#[c]⟩,H,I.tok _,⟨_,rfl⟩,q⟩) hs
def rIx (K:PySem.W.Frag):R2:=fun x y H Q => rIxL K x y H Q \/ rIxT K x y H Q \/ rIxS x y H Q
theorem ix_seq:IxR X (rIx X.K):=ix_list.or (ix_tup.or ix_str)
theorem mapSeq_set (its:List Value) (n j:Nat) (u:Value):Obj.mapSeq (·.setIfInBounds j u) { cls:=.type "list",data:=.seq its.toArray n } = { cls:=.type "list",data:=.seq (its.set j u).toArray n }:=by
 simp [Obj.mapSeq]
theorem Inv.lst {pins:List (Addr × Obj)} {σ:St} {H:Hp} {s:Shared} {p:Addr} {xs:List V} (I:Inv X pins σ H s) (h:H p = some (.lst xs)) :
  ∃ (its:List Value) (n:Nat),Vals xs its /\ s.heap.get? p = some { cls:=.type "list",data:=.seq its.toArray n } /\ xs.length <= sizeLine:=by
 obtain ⟨z,its,n,r,e⟩:=I.hok p _ h;exact ⟨its,n,r,e,z⟩
theorem Inv.lstUpd {pins:List (Addr × Obj)} {σ:St} {H:Hp} {s:Shared} {p:Addr} {xs ys:List V} {its its':List Value} {n n':Nat} {f:Obj -> Obj} (I:Inv X pins σ H s) (h:H p = some (.lst xs))
  (ho:s.heap.get? p = some { cls:=.type "list",data:=.seq its.toArray n }) (hf:f { cls:=.type "list",data:=.seq its.toArray n } = { cls:=.type "list",data:=.seq its'.toArray n' }) (r:Vals ys its') (hz:ys.length <= sizeLine) (t:Nat) :
  Inv X pins σ (upd H p (.lst ys)) { s with heap:=s.heap.update p f,toks:=t }:=by
 have e:(s.heap.update p f).get? p = some { cls:=.type "list",data:=.seq its'.toArray n' }:=by
  rw [Heap.get?_update_self f ho (by rw [hf] <;> rfl),hf]
 refine I.write (x:=p) (e:=p) (by rw [h];trivial) (.inl rfl) (fun b u hb q => (Heap.get?_update_other _ _ (Ne.symm hb)).trans q) ⟨_,e⟩ ?_
 exact ⟨hz,its',n',r,e⟩
def rSetL:V -> V -> V -> Hp -> (Hp -> Prop) -> Prop:=fun o i v H Q => ∃ p xs k j,o = .ref p /\ i = .int k /\ H p = some (.lst xs) /\ ixN xs.length k = some j /\ Q (upd H p (.lst (xs.set j v)))
theorem set_list:PSet X rSetL:=by
 intro pins s σ H o i v ov iv u Q I ro ri rv h;obtain ⟨p,xs,k,j,rfl,rfl,hp,hj,q⟩:=h;cases ro;obtain ⟨t,rfl⟩:=ri;obtain ⟨its,n,r,ho,hz⟩:=I.lst hp;obtain ⟨h1,h2,h3,h4⟩:=ixN_seq hj;have hl:=r.length;have hn:=line63;have I':Inv X pins σ (upd H p (.lst (xs.set j v))) { s with heap:=s.heap.update p (Obj.mapSeq (·.setIfInBounds j u)) } :=
  I.lstUpd hp ho (mapSeq_set its n j u) (r.set rv j) (by rw [List.length_set];exact hz) s.toks
 by_cases h0:0 <= k
 ·have hk:k.toNat = j:=by
   rw [seqIndex_of h0 h4] at h1;exact Option.some.inj h1
  exact PySem.W.ki_setAt ho h0 (by lia) (by rw [List.size_toArray,<- hl];exact h4) (by rw [hk];exact ⟨_,I',q⟩)
 ·have hk:(k + (its.toArray.size:Int)).toNat = j:=by
   rw [seqIndex_neg (by lia) h3] at h1
   rw [List.size_toArray,<- hl];exact Option.some.inj h1
  exact PySem.W.ki_setBack ho (by lia) (by rw [List.size_toArray,<- hl];exact h3) (by lia) (by rw [hk];exact ⟨_,I',q⟩)
theorem slice_bounds (lo hi:Option Int) (n:Nat):(sliceBounds lo hi none n).1 = ((HT.sIx n 0 lo:Nat):Int) /\ (sliceBounds lo hi none n).2.1 = ((HT.sIx n n hi:Nat):Int) /\ (sliceBounds lo hi none n).2.2 = 1:=by
 refine ⟨?_,?_,rfl⟩
 ·cases lo with
  | none => simp [sliceBounds,HT.sIx]
  | some i =>
   simp only [sliceBounds,HT.sIx,Option.getD_none,show (1:Int) > 0 by decide,if_true]
   by_cases h:i < 0
   ·simp only [h,if_true] <;> lia
   ·simp only [h,if_false] <;> lia
 ·cases hi with
  | none => simp [sliceBounds,HT.sIx]
  | some i =>
   simp only [sliceBounds,HT.sIx,Option.getD_none,show (1:Int) > 0 by decide,if_true]
   by_cases h:i < 0
   ·simp only [h,if_true] <;> lia
   ·simp only [h,if_false] <;> lia
theorem slicePick_cut (its:List Value) (lo hi:Option Int):slicePick its.toArray lo hi none = ((its.drop (HT.sIx its.length 0 lo)).take (HT.sIx its.length its.length hi - HT.sIx its.length 0 lo)).toArray:=by
 obtain ⟨h1,h2,h3⟩:=slice_bounds lo hi its.toArray.size;unfold slicePick;rw [h1,h2,h3];simp only [sliceRange_one,pick_run,List.size_toArray] <;> rfl
def rSlL (K:PySem.W.Frag):V -> Option Int -> Option Int -> Hp -> VK -> Prop:=fun x lo hi H Q => ∃ a xs,x = .ref a /\ SqL K H a xs /\ ∀ p,H p = none -> Q (.ref p) (upd H p (.lst (cutV xs lo hi)))
theorem sl_list:SlR X (rSlL X.K):=by
 intro pins s σ H x v vl vu lo hi sl Q I rx hs pl pu h;obtain ⟨a,xs,rfl,hx,q⟩:=h;cases rx;obtain ⟨its,r,ht,hz⟩:=I.list hx;have hlen:=r.length;refine ⟨"list",_,slot_list_getitem.lookup,ht.isList.typeIs,?_⟩;refine wpAny_getItem_list_slice ht.isList hs pl pu .none (by simp) ?_ (by rw [List.size_toArray] <;> lia)
 rw [slicePick_cut,<- hlen];refine ⟨.ref s.heap.objs.size,_,I.laid (t':=s.toks) (o:=.lst (cutV xs lo hi)) (fun b ob q => Heap.get?_push_of_some _ q) (Nat.le_refl _) ?_,rfl,q _ (I.hok.fresh (Nat.le_refl _))⟩;exact ⟨Nat.le_trans (cutV_length xs lo hi) hz,_,0,(r.drop (HT.sIx xs.length 0 lo)).take (HT.sIx xs.length xs.length hi - HT.sIx xs.length 0 lo),Heap.get?_push_size _ rfl⟩
def flatV:V -> Bool
 | .non => true
 | .bl _ => true
 | .int _ => true
 | .str _ => true
 | _ => false
def eqV:V -> V -> Bool
 | .non,.non => true
 | .bl a,.bl b => a == b
 | .bl a,.int b => (if a then 1 else 0) == b
 | .int a,.bl b => a == (if b then 1 else 0)
 | .int a,.int b => a == b
 | .str a,.str b => a == b
 | _,_ => false
theorem eqAt_V {A:Around} {s:Shared} {y x:V} {u v:Value} (ry:RelV y u) (rx:RelV x v) (fy:flatV y = true) (fx:flatV x = true):SeqAt.EqAt A s u v (eqV y x):=by
 cases y with
 | non =>
  cases ry
  cases x with
  | non => cases rx;exact SeqAt.EqAt.same _
  | bl b => cases rx;exact SeqAt.EqAt.none_bool b
  | int b => obtain ⟨t,rfl⟩:=rx;exact SeqAt.EqAt.none_int b t
  | str b => obtain ⟨t,rfl⟩:=rx;exact SeqAt.EqAt.none_str b t
  | _ => exact absurd (show false = true from fx) Bool.false_ne_true
 | bl a =>
  cases ry
  cases x with
  | non => cases rx;exact SeqAt.EqAt.bool_none a
  | bl b => cases rx;exact SeqAt.EqAt.bool_bool a b
  | int b => obtain ⟨t,rfl⟩:=rx;exact SeqAt.EqAt.bool_int a b t
  | str b => obtain ⟨t,rfl⟩:=rx;exact SeqAt.EqAt.bool_str a b t
  | _ => exact absurd (show false = true from fx) Bool.false_ne_true
 | int a =>
  obtain ⟨t',rfl⟩:=ry
  cases x with
  | non => cases rx;exact SeqAt.EqAt.int_none a t'
  | bl b => cases rx;exact SeqAt.EqAt.int_bool a t' b
  | int b => obtain ⟨t,rfl⟩:=rx;exact SeqAt.EqAt.int_int a t' b t
  | str b => obtain ⟨t,rfl⟩:=rx;exact SeqAt.EqAt.int_str a t' b t
  | _ => exact absurd (show false = true from fx) Bool.false_ne_true
 | str a =>
  obtain ⟨t',rfl⟩:=ry
  cases x with
  | non => cases rx;exact SeqAt.EqAt.str_none a t'
  | bl b => cases rx;exact SeqAt.EqAt.str_bool a t' b
  | int b => obtain ⟨t,rfl⟩:=rx;exact SeqAt.EqAt.str_int a t' b t
  | str b => obtain ⟨t,rfl⟩:=rx;exact SeqAt.EqAt.str_str a t' b t
  | _ => exact absurd (show false = true from fx) Bool.false_ne_true
 | _ => exact absurd (show false = true from fy) Bool.false_ne_true
def eqU (x:V) (u:Value):Bool:=match u with
 | .none => eqV .non x
 | .bool b => eqV (.bl b) x
 | .int i _ => eqV (.int i) x
 | .str z _ => eqV (.str z) x
 | _ => false
theorem eqU_of {x y:V} {u:Value} (r:RelV y u) (f:flatV y = true):eqU x u = eqV y x:=by
 cases y with
 | non => cases r;rfl
 | bl b => cases r;rfl
 | int i => obtain ⟨t,rfl⟩:=r;rfl
 | str z => obtain ⟨t,rfl⟩:=r;rfl
 | _ => exact absurd (show false = true from f) Bool.false_ne_true
theorem any_eqU {x:V}:∀ {xs:List V} {us:List Value},Vals xs us -> xs.all flatV = true -> us.any (eqU x) = xs.any fun y => eqV y x
 | _,_,.nil,_ => rfl
 | y :: xs,u :: us,.cons r t,f => by
  rw [List.all_cons,Bool.and_eq_true] at f;rw [List.any_cons,List.any_cons,eqU_of r f.1,any_eqU t f.2]
theorem mem_eqAt {A:Around} {s:Shared} {x:V} {v:Value} (rx:RelV x v) (fx:flatV x = true):∀ {xs:List V} {us:List Value},Vals xs us -> xs.all flatV = true -> ∀ u ∈ us,SeqAt.EqAt A s u v (eqU x u)
 | _,_,.nil,_ => fun u hu => by cases hu
 | y :: xs,u :: us,.cons r t,f => fun u' hu => by
  rw [List.all_cons,Bool.and_eq_true] at f;rcases List.mem_cons.mp hu with rfl | hu
  ·rw [eqU_of r f.1];exact eqAt_V r rx f.1 fx
  ·exact mem_eqAt rx fx t f.2 u' hu
def inV (x:V) (xs:List V):Bool:=xs.any fun y => eqV y x
def rIn (K:PySem.W.Frag) (neg:Bool):R2:=fun x y H Q => ∃ p xs,y = .ref p /\ (SqL K H p xs \/ SqT K H p xs) /\ flatV x = true /\ xs.all flatV = true /\ Q (.bl (if neg then !inV x xs else inV x xs)) H
theorem op_in_seq:OpR X (compareOp .In) (rIn X.K false):=by
 intro pins s σ H x y v u Q I rx ry h;obtain ⟨p,xs,rfl,hq,fx,fs,q⟩:=h;cases ry;rcases hq with hq | hq
 ·obtain ⟨its,r,pl,hz⟩:=I.list hq;refine SeqAt.in_listAt (eqU x) pl.isList (fun w hw => mem_eqAt rx fx r fs w (by simpa using hw)) ⟨.bl _,H,I,rfl,?_⟩
  rw [show its.toArray.any (eqU x) = its.any (eqU x) by simp,any_eqU r fs]
  exact q
 ·obtain ⟨its,r,pl,hz⟩:=I.tuple hq;refine SeqAt.in_tupleAt (eqU x) pl (fun w hw => mem_eqAt rx fx r fs w (by simpa using hw)) ⟨.bl _,H,I,rfl,?_⟩
  rw [show its.toArray.any (eqU x) = its.any (eqU x) by simp,any_eqU r fs]
  exact q
theorem op_notIn_seq:OpR X (compareOp .NotIn) (rIn X.K true):=by
 intro pins s σ H x y v u Q I rx ry h;obtain ⟨p,xs,rfl,hq,fx,fs,q⟩:=h;cases ry;rcases hq with hq | hq
 ·obtain ⟨its,r,pl,hz⟩:=I.list hq;refine SeqAt.notIn_listAt (eqU x) pl.isList (fun w hw => mem_eqAt rx fx r fs w (by simpa using hw)) ⟨.bl _,H,I,rfl,?_⟩
  rw [show its.toArray.any (eqU x) = its.any (eqU x) by simp,any_eqU r fs]
  exact q
 ·obtain ⟨its,r,pl,hz⟩:=I.tuple hq;refine SeqAt.notIn_tupleAt (eqU x) pl (fun w hw => mem_eqAt rx fx r fs w (by simpa using hw)) ⟨.bl _,H,I,rfl,?_⟩
  rw [show its.toArray.any (eqU x) = its.any (eqU x) by simp,any_eqU r fs]
  exact q
theorem op_notIn_str:OpR X (compareOp .NotIn) (fun x y H Q => ∃ i j,x = .str i /\ y = .str j /\ Q (.bl (!(!(Builtin.Str.occurrences j i 0 j.length 1).isEmpty))) H):=by
 intro pins s σ H x y v u Q I rx ry h;obtain ⟨i,j,rfl,rfl,q⟩:=h;obtain ⟨t,rfl⟩:=rx;obtain ⟨t',rfl⟩:=ry;exact notIn_str ⟨.bl _,H,I,rfl,q⟩
theorem call_len_seq:CallR X (.builtin "len") (fun xs H Q => ∃ p ys,xs = [.ref p] /\ (SqL X.K H p ys \/ SqT X.K H p ys) /\ Q (.int ys.length) H):=by
 intro pins s σ H xs us Q I r h;obtain ⟨p,ys,rfl,hq,q⟩:=h;obtain ⟨u,rfl,rx⟩:=vals1 r;cases rx;have hn:=line63;rcases hq with hq | hq
 ·obtain ⟨its,r',pl,hz⟩:=I.list hq;have hlen:=r'.length;exact Calls.call_len_list pl.isList (by simp only [List.size_toArray] <;> lia) ⟨.int ys.length,H,I.tok _,⟨s.toks + 1,by rw [List.size_toArray,hlen]⟩,q⟩
 ·obtain ⟨its,r',pl,hz⟩:=I.tuple hq;have hlen:=r'.length;exact len_tuple pl (by simp only [List.size_toArray] <;> lia) ⟨.int ys.length,H,I.tok _,⟨s.toks + 1,by rw [List.size_toArray,hlen]⟩,q⟩
theorem call_len_str:CallR X (.builtin "len") (fun xs H Q => ∃ z,xs = [.str z] /\ z.length <= sizeLine /\ Q (.int z.length) H):=by
 intro pins s σ H xs us Q I r h;obtain ⟨z,rfl,hz,q⟩:=h;obtain ⟨u,rfl,t,rfl⟩:=vals1 r;have hn:=line63;exact len_str (by lia) ⟨.int z.length,H,I.tok _,⟨_,rfl⟩,q⟩
theorem CallR.or {f:Value} {r r':List V -> Hp -> VK -> Prop} (h:CallR X f r) (h':CallR X f r'):CallR X f (fun xs H Q => r xs H Q \/ r' xs H Q):=by
 intro pins s σ H xs us Q I rs q;rcases q with q | q
 ·exact h pins s σ H xs us Q I rs q
 ·exact h' pins s σ H xs us Q I rs q
theorem call_tuple_of:CallR X (.type "tuple") (fun xs H Q => ∃ p ys,xs = [.ref p] /\ ((SqL X.K H p ys /\ ∀ l,H l = none -> Q (.ref l) (upd H l (.tup ys))) \/ (SqT X.K H p ys /\ Q (.ref p) H))):=by
 intro pins s σ H xs us Q I r h;obtain ⟨p,ys,rfl,h⟩:=h;obtain ⟨u,rfl,rx⟩:=vals1 r;cases rx;rcases h with ⟨hq,q⟩ | ⟨hq,q⟩
 ·obtain ⟨its,r',pl,hz⟩:=I.list hq;have hlen:=r'.length;refine call_tuple_list pl.isList (fun h' kp => ?_) (by simp only [List.size_toArray] <;> lia)
  have I1:Inv X pins σ H { s with heap:=h' }:=I.kept (t':=s.toks) kp
  have I2:Inv X pins σ (upd H h'.objs.size (.tup ys)) { s with heap:=h'.push { cls:=.type "tuple",data:=.seq its.toArray } } :=
   I1.laid (t':=s.toks) (fun b o e => Heap.get?_push_of_some _ e) (Nat.le_refl _) (show ObjOk X.prog X.w _ _ _ (.tup ys) from ⟨hz,its,r',IsTupD.new _ _⟩)
  exact ⟨.ref h'.objs.size,_,I2,rfl,q _ (I1.hok.fresh (Nat.le_refl _))⟩
 ·obtain ⟨its,r',pl,hz⟩:=I.tuple hq;exact call_tuple_same pl ⟨.ref p,H,I,rfl,q⟩
def tyV (K:PySem.W.Frag) (T:String) (x:V) (H:Hp):Prop:=match x with
 | .str _ => T = "str"
 | .int _ => T = "int"
 | .ref p => (T = "list" /\ ∃ xs,SqL K H p xs) \/ (T = "tuple" /\ ∃ o,K.lookup p = some o /\ o.cls = .type "tuple" /\ o.dict = none) \/
   (T = "dict" /\ ((∃ kvs,H p = some (.dK kvs)) \/ ∃ kvs,H p = some (.dT kvs))) \/ (T = "set" /\ ∃ S n,H p = some (.set S n))
 | _ => False
theorem tyV_is {pins:List (Addr × Obj)} {σ:St} {H:Hp} {s:Shared} {T:String} {x:V} {v:Value} (I:Inv X pins σ H s) (r:RelV x v) (ty:tyV X.K T x H) :
  s.TypeIs v T /\ ∀ a,v = .ref a -> ∃ ob,s.heap.get? a = some ob /\ ob.dict = none:=by
 cases x with
 | str z =>
  obtain ⟨t,rfl⟩:=r
  cases (show T = "str" from ty)
  exact ⟨typeIs_str s z t,fun _ e => nomatch e⟩
 | int i =>
  obtain ⟨t,rfl⟩:=r
  cases (show T = "int" from ty)
  exact ⟨typeIs_int s i t,fun _ e => nomatch e⟩
 | ref p =>
  cases r;rcases ty with ⟨rfl,xs,hq⟩ | ⟨rfl,o,hk,hc,hd⟩ | ⟨rfl,hk⟩ | ⟨rfl,S,n,hk⟩
  ·obtain ⟨its,_,pl,_⟩:=I.list hq;refine ⟨pl.isList.typeIs,fun a e => ?_⟩;cases e;obtain ⟨o,n,e,c,hd,_⟩:=pl;exact ⟨o,e,hd⟩
  ·refine ⟨⟨o,I.kIn p o hk,hc⟩,fun a e => ?_⟩;cases e;exact ⟨o,I.kIn _ o hk,hd⟩
  ·have z:∃ o,s.heap.get? p = some o /\ o.ExactDict:=by
    rcases hk with ⟨kvs,hk⟩ | ⟨kvs,hk⟩
    ·obtain ⟨_,_,_,_,o,_,_,e,ex,_⟩:=I.hok p _ hk;exact ⟨o,e,ex⟩
    ·obtain ⟨_,_,_,_,o,_,_,e,ex,_⟩:=I.hok p _ hk;exact ⟨o,e,ex⟩
   obtain ⟨o,e,ex⟩:=z;refine ⟨⟨o,e,ex.1⟩,fun a e2 => ?_⟩;cases e2;exact ⟨o,e,ex.2.1⟩
  ·obtain ⟨o,_,_,_,e,ex,_⟩:=I.hok p _ hk;refine ⟨⟨o,e,ex.1⟩,fun a e2 => ?_⟩;cases e2;exact ⟨o,e,ex.2.1⟩
 | _ => exact False.elim ty
def tBM (K:PySem.W.Frag) (T:String) (r:V -> List V -> Hp -> VK -> Prop) (to:TE) (t:TA):TE:=fun σ H Q => to σ H fun x H1 => tyV K T x H1 /\ t σ H1 fun xs H2 => r x xs H2 Q
variable {o e:Expr} {es:List Expr} {to:TE} {t:TA} {name:Str} {apos cpos:Pos} {T id:String} {r:V -> List V -> Hp -> VK -> Prop}
theorem pe_bm (pa:PlainAttrs T) (slot:Slot T name id) (hty:typeOf (.builtin id) = pure (.type "method_descriptor")) (hm:MtR X id r) (ho:PE X o to) (ha:PA X (e :: es) t)
  (hbase:autoParam (attributeBase o name X.env (eval o X.env) = eval o X.env) L2.aRfl._auto_1)
  (hfew:autoParam (((backTo cpos (starEach (e :: es) X.env)).all (fun x => !x.1) && (backToKw cpos (keywordEach [] X.env)).all (fun x => x.1.isSome)
   && decide ((e :: es).length + ([]:List Keyword).length + (if ([]:List Keyword).isEmpty then 0 else 1) < 30)) = true) L2.aRfl._auto_1)
  (hline:autoParam ((apos.endLine == cpos.line) = true) L2.aRfl._auto_1) (hs:autoParam (starEach (e :: es) X.env = (false,eval e X.env) :: starEach es X.env) L2.aRfl._auto_1) (hplain:autoParam ((backTo cpos (starEach es X.env)).any (·.1) = false) L2.aRfl._auto_1) :
  PE X (.Call (.Attribute o name apos) (e :: es) [] cpos) (tBM X.K T r to t):=by
 intro pins s σ H Q I h;refine wpAny_Call_method_late hbase hfew hline rfl (thn (ho pins s σ H _ I h) fun v s1 ⟨x,H1,I1,r1,ty,q1⟩ => ?_);obtain ⟨h1,h2⟩:=tyV_is I1 r1 ty;refine ⟨T,id,pa,slot,hty,h1,h2,?_⟩;have hA:=ha cpos pins s1 σ H1 _ I1 q1;rw [hs] at hA ⊢;refine Calls.callWith_builtin (by show (false || (backTo cpos (starEach es X.env)).any (·.1)) = false;rw [hplain] <;> rfl) (Calls.evalArgs_plain ?_)
 exact thn hA fun us s2 ⟨vs,H2,I2,r2,q2⟩ => hm pins s2 σ H2 x vs v us Q I2 r1 r2 q2
/- xs.append(e),list.index on a module's tuple .. are MtR facts of 06m -/
end
def MtM (X:Cx) (id:String) (r:V -> List V -> Hp -> VK -> Prop):Prop :=
 ∀ (pins:List (Addr × Obj)) (s:Shared) (σ:St) (H:Hp) (x:V) (xs:List V) (v:Value) (us:List Value) (Q:VK),Inv X pins σ H s -> RelV x v -> Vals xs us -> r x xs H Q ->
  wpAny (model X.prog X.w) X.A (call (.builtin id) (v :: us)) (EP X pins σ Q) X.xe s
theorem Vals.one:∀ {x:V} {us:List Value},Vals [x] us -> ∃ u,us = [u] /\ RelV x u
 | _,_,.cons r .nil => ⟨_,rfl,r⟩
theorem Vals.eraseIdx:∀ {xs:List V} {us:List Value} (i:Nat),Vals xs us -> Vals (xs.eraseIdx i) (us.eraseIdx i)
 | _,_,_,.nil => .nil
 | _,_,0,.cons _ t => t
 | _,_,i + 1,.cons r t => .cons r (Vals.eraseIdx i t)
theorem Vals.rep {xs:List V} {us:List Value} (h:Vals xs us):∀ k:Nat,Vals (List.replicate k xs).flatten (List.replicate k us).flatten
 | 0 => .nil
 | k + 1 => by
  rw [List.replicate_succ,List.replicate_succ,List.flatten_cons,List.flatten_cons];exact Vals.append h (Vals.rep h k)
theorem len_erase {α:Type}:∀ (l:List α) (i:Nat),(l.eraseIdx i).length <= l.length
 | [],_ => Nat.le_refl _
 | _ :: _,0 => Nat.le_succ _
 | _ :: r,i + 1 => Nat.succ_le_succ (len_erase r i)
theorem foldl_rep (its:List Value):∀ (k:Nat) (acc:List Value),
  List.foldl (fun x1 x2 => x1 ++ x2) acc.toArray (List.replicate k its.toArray) = (acc ++ (List.replicate k its).flatten).toArray
 | 0,acc => by simp
 | k + 1,acc => by
  have e:acc.toArray ++ its.toArray = (acc ++ its).toArray:=by simp
  have e2:(acc ++ its) ++ (List.replicate k its).flatten = acc ++ (List.replicate (k + 1) its).flatten:=by
   rw [List.replicate_succ,List.flatten_cons,List.append_assoc]
  rw [<- e2,<- foldl_rep its k (acc ++ its),<- e,List.replicate_succ,List.foldl_cons]
section
variable {X:Cx} {pins:List (Addr × Obj)} {σ:St} {H:Hp} {s:Shared} {l b:Addr} {xs ys zs:List V}
theorem Inv.lset {its its':List Value} {n:Nat} {f:Array Value -> Array Value} {t':Nat} (I:Inv X pins σ H s) (hH:H l = some (.lst xs))
  (e:s.heap.get? l = some { cls:=.type "list",data:=.seq its.toArray n }) (hf:f its.toArray = its'.toArray) (hv:Vals ys its') (hz:ys.length <= sizeLine) :
  Inv X pins σ (upd H l (.lst ys)) { s with heap:=s.heap.update l (Obj.mapSeq f),toks:=t' }:=by
 have q:=PySem.IsL.update e f;rw [hf] at q;refine I.write (x:=l) (e:=l) (by rw [hH];exact trivial) (.inl rfl) (fun b' u hb hu => (Heap.get?_update_other s.heap (Obj.mapSeq f) (Ne.symm hb)).trans hu) ⟨_,q⟩ ?_
 exact ⟨hz,its',_,hv,q⟩
theorem Inv.lnew {its:List Value} {t':Nat} (I:Inv X pins σ H s) (hv:Vals ys its) (hz:ys.length <= sizeLine) :
  Inv X pins σ (upd H s.heap.objs.size (.lst ys)) { s with heap:=s.heap.push { cls:=.type "list",data:=.seq its.toArray },toks:=t' } :=
 I.laid (fun _ _ q => Heap.get?_push_of_some _ q) (Nat.le_refl _) ⟨hz,its,0,hv,Heap.get?_push_size _ rfl⟩
theorem Inv.fresh (I:Inv X pins σ H s):H s.heap.objs.size = none:=I.hok.fresh (Nat.le_refl _)
theorem Inv.lstM (I:Inv X pins σ H s) (hH:H l = some (.lst xs)):xs.length <= sizeLine /\ ∃ (its:List Value) (n:Nat),Vals xs its /\ xs.length = its.length /\ s.heap.get? l = some { cls:=.type "list",data:=.seq its.toArray n }:=by
 obtain ⟨z,its,n,r,e⟩:=I.hok l _ hH;exact ⟨z,its,n,r,r.length,e⟩
theorem notLongL {n:Nat} (h:n <= sizeLine):Builtin.List.listTooLong n = false:=by
 unfold Builtin.List.listTooLong;exact decide_eq_false (by lia)
end
section
variable {X:Cx}
def rAppend:V -> List V -> Hp -> VK -> Prop:=fun x vs H Q => ∃ l xs y,x = .ref l /\ vs = [y] /\ H l = some (.lst xs) /\ xs.length < sizeLine /\ Q .non (upd H l (.lst (xs ++ [y])))
theorem mt_append:MtM X "list.append" rAppend:=by
 intro pins s σ H x vs v us Q I rx rv h;obtain ⟨l,xs,y,rfl,rfl,hH,hz,q⟩:=h;cases rx;obtain ⟨u,rfl,ru⟩:=rv.one;obtain ⟨z,its,n,r,hl,e⟩:=I.lstM hH;refine call_meets F.slot_list_append ⟨_,e,rfl⟩ F.entry_list_append (F.args_list_append_2 _ _) (PySem.list_append l its.toArray n u (by rw [List.size_toArray];lia)) ⟨e,?_⟩
 refine ⟨.non,_,I.lset (its':=its ++ [u]) hH e (by simp) (r.append (.cons ru .nil)) ?_,rfl,q⟩
 rw [List.length_append,List.length_singleton];lia
def rPopAt:V -> List V -> Hp -> VK -> Prop:=fun x vs H Q => ∃ l xs i k y,x = .ref l /\ vs = [.int i] /\ H l = some (.lst xs) /\ -(2 ^ 63) <= i /\ i < 2 ^ 63 /\ seqIndex? i xs.length = some k /\ xs[k]? = some y /\ Q y (upd H l (.lst (xs.eraseIdx k)))
theorem mt_popAt:MtM X "list.pop" rPopAt:=by
 intro pins s σ H x vs v us Q I rx rv h;obtain ⟨l,xs,i,k,y,rfl,rfl,hH,h1,h2,hk,hy,q⟩:=h;cases rx;obtain ⟨u,rfl,ru⟩:=rv.one;obtain ⟨t,rfl⟩:=ru;obtain ⟨z,its,n,r,hl,e⟩:=I.lstM hH;obtain ⟨w,hw,rw'⟩:=r.get hy;refine call_meets F.slot_list_pop ⟨_,e,rfl⟩ F.entry_list_pop (F.args_list_pop_2 _ _)
  (MeetsSeq.list_pop_at l its.toArray n i t k w (fitsIndex_both h1 h2) (by rw [List.size_toArray,<- hl];exact hk) (by rw [<- Array.getElem?_toList];exact hw) (by rw [List.size_toArray];lia)) ⟨e,?_⟩
 refine ⟨y,_,I.lset (its':=its.eraseIdx k) hH e ?_ (r.eraseIdx k) ?_,rw',q⟩
 ·show its.toArray.eraseIdxIfInBounds k = (its.eraseIdx k).toArray;rw [List.eraseIdxIfInBounds_toArray]
 ·have:=len_erase xs k;lia
def rCat:R2:=fun x y H Q => ∃ l b xs zs,x = .ref l /\ y = .ref b /\ H l = some (.lst xs) /\ H b = some (.lst zs) /\ xs.length + zs.length <= sizeLine /\ ∀ p,H p = none -> Q (.ref p) (upd H p (.lst (xs ++ zs)))
theorem op_cat:OpR X (binaryOp .Add) rCat:=by
 intro pins s σ H x y v u Q I rx ry h;obtain ⟨l,b,xs,zs,rfl,rfl,hH,hB,hz,q⟩:=h;cases rx;cases ry;obtain ⟨z,its,n,r,hl,e⟩:=I.lstM hH;obtain ⟨z2,its2,n2,r2,hl2,e2⟩:=I.lstM hB;refine PySem.P.add_list e e2 ?_ (by rw [List.size_toArray,List.size_toArray];lia)
 have ea:its.toArray ++ its2.toArray = (its ++ its2).toArray:=by simp
 rw [ea];exact ⟨.ref _,_,I.lnew (t':=s.toks) (r.append r2) (by rw [List.length_append];lia),rfl,q _ I.fresh⟩
def rRep:R2:=fun x y H Q => ∃ l k xs,x = .ref l /\ y = .int k /\ H l = some (.lst xs) /\ -(2 ^ 63) <= k /\ k < 2 ^ 63 /\ xs.length * k.toNat <= sizeLine /\
 ∀ p,H p = none -> Q (.ref p) (upd H p (.lst (List.replicate k.toNat xs).flatten))
theorem len_rep {α:Type} (xs:List α) (k:Nat):(List.replicate k xs).flatten.length = k * xs.length:=by
 induction k with
 | zero => simp
 | succ k ih => rw [List.replicate_succ,List.flatten_cons,List.length_append,ih,Nat.succ_mul,Nat.add_comm]
theorem op_rep:OpR X (binaryOp .Mult) rRep:=by
 intro pins s σ H x y v u Q I rx ry h;obtain ⟨l,k,xs,rfl,rfl,hH,h1,h2,hz,q⟩:=h;cases rx;obtain ⟨t,rfl⟩:=ry;obtain ⟨z,its,n,r,hl,e⟩:=I.lstM hH;have hlen:its.toArray.size * k.toNat <= sizeLine:=by rw [List.size_toArray,<- hl];exact hz
 have hcap:¬ its.toArray.size * k.toNat > (2 ^ 63 - 1) / 8:=by
  have:(sizeLine:Nat) <= (2 ^ 63 - 1) / 8:=by decide
  lia
 have hfit:¬ (!Builtin.List.listFitsIndex k) = true:=by
  rw [fitsIndex_both h1 h2];exact Bool.false_ne_true
 have hlong:¬ Builtin.List.listTooLong (its.toArray.size * k.toNat) = true:=by
  rw [notLongL hlen];exact Bool.false_ne_true
 have hnew:List.foldl (fun x1 x2 => x1 ++ x2) #[] (List.replicate (if its.toArray.isEmpty = true then 0 else k.toNat) its.toArray) = (List.replicate k.toNat its).flatten.toArray:=by
  have f0:∀ m:Nat,List.foldl (fun x1 x2 => x1 ++ x2) #[] (List.replicate m its.toArray) = (List.replicate m its).flatten.toArray:=fun m => by
   have:=foldl_rep its m [];rw [List.nil_append] at this;exact this
  rw [f0]
  cases its with
  | nil => simp
  | cons a r' => rw [if_neg (by simp)]
 refine wpAny_binaryOp_repeat_ref (T:="list") (U:="int") (by decide) ⟨_,e,rfl⟩ (fun s' => typeIs_int s' k t) noFill_list_mul F.fills_int_mul F.slot_int_rmul repeat_list F.slot_int_index.lookup
  (call_meets F.slot_int_rmul (typeIs_int s k t) F.entry_int_rmul (F.args_int_rmul_2 _ _) (int___rmul___int_list k t l its.toArray n)
   ⟨e,rfl,⟨_,e,rfl⟩,call_meets F.slot_list_mul ⟨_,e,rfl⟩ F.entry_list_mul (F.args_list_mul_2 _ _) (AutoListH.list___mul___list_int_3 l its.toArray n k t hfit hcap hlong) ⟨e,?_⟩⟩)
 rw [hnew];exact ⟨.ref _,_,I.lnew (t':=s.toks) (r.rep k.toNat) (by rw [len_rep,Nat.mul_comm];exact hz),rfl,q _ I.fresh⟩
end
section
variable {prog:Program} {w:World} {A:Around} {E:Value -> Shared -> Prop} {s:Shared}
end
section
variable {X:Cx}
end
section
variable {κ:Type} [DecidableEq κ]
def valV (kvs:List (κ × V)) (k:κ):Option V:=(kvs.find? fun kv => decide (kv.1 = k)).map (·.2)
def putK (kvs:List (κ × V)) (k:κ) (v:V):List (κ × V) :=
 if (kvs.any fun kv => decide (kv.1 = k)) = true then kvs.map (fun kv => if kv.1 = k then (kv.1,v) else kv) else kvs ++ [(k,v)]
theorem valV_pos {p:κ × V} {r:List (κ × V)} {k:κ} (e:p.1 = k):valV (p :: r) k = some p.2:=by simp [valV,List.find?_cons,e]
theorem valV_neg {p:κ × V} {r:List (κ × V)} {k:κ} (e:¬ p.1 = k):valV (p :: r) k = valV r k:=by simp [valV,List.find?_cons,e]
theorem valV_any (k:κ):∀ kvs:List (κ × V),(kvs.any fun kv => decide (kv.1 = k)) = (valV kvs k).isSome
 | [] => rfl
 | p :: r => by
  rw [List.any_cons];by_cases e:p.1 = k
  ·simp only [valV_pos e,decide_eq_true e,Bool.true_or,Option.isSome_some]
  ·rw [valV_neg e,decide_eq_false e,Bool.false_or];exact valV_any k r
theorem length_putK (kvs:List (κ × V)) (k:κ) (v:V):(putK kvs k v).length <= kvs.length + 1:=by
 unfold putK;split
 ·rw [List.length_map];lia
 ·rw [List.length_append,List.length_cons,List.length_nil];lia
theorem putK_new {kvs:List (κ × V)} {k:κ} (v:V) (h:valV kvs k = none):putK kvs k v = kvs ++ [(k,v)]:=by
 unfold putK;rw [valV_any,h];exact if_neg (by decide)
theorem RelO.isSome_eq {o:Option V} {u:Option Value} (r:RelO o u):o.isSome = u.isSome:=by
 cases o with
 | none => cases u with
  | none => rfl
  | some _ => exact (show False from r).elim
 | some _ => cases u with
  | none => exact (show False from r).elim
  | some _ => rfl
theorem KV.val {kvs:List (κ × V)} {vs:List (κ × Value)} (r:KV kvs vs) (k:κ):RelO (valV kvs k) (valueAt vs k):=by
 unfold KV at r
 induction r with
 | nil => exact True.intro
 | @cons p q ps qs h t ih =>
  obtain ⟨h1,h2⟩:=h;by_cases e:p.1 = k
  ·have e':q.1 = k:=h1.symm.trans e;have b:valueAt (q :: qs) k = some q.2:=by simp [valueAt,List.find?_cons,e']
   rw [valV_pos e,b];exact h2
  ·have e':¬ q.1 = k:=fun z => e (h1.trans z);have b:valueAt (q :: qs) k = valueAt qs k:=by simp [valueAt,List.find?_cons,e']
   rw [valV_neg e,b];exact ih
theorem KV.any {kvs:List (κ × V)} {vs:List (κ × Value)} (r:KV kvs vs) (k:κ):(kvs.any fun kv => decide (kv.1 = k)) = vs.any fun kv => decide (kv.1 = k):=by
 unfold KV at r
 induction r with
 | nil => rfl
 | cons h t ih => rw [List.any_cons,List.any_cons,ih,h.1]
theorem KV.repl {kvs:List (κ × V)} {vs:List (κ × Value)} (r:KV kvs vs) (k:κ) {y:V} {u:Value} (ry:RelV y u) :
  KV (kvs.map fun kv => if kv.1 = k then (kv.1,y) else kv) (vs.map fun kv => if kv.1 = k then (kv.1,u) else kv):=by
 unfold KV at r ⊢
 induction r with
 | nil => exact .nil
 | @cons p q ps qs h t ih =>
  rw [List.map_cons,List.map_cons];refine .cons ?_ ih;obtain ⟨h1,h2⟩:=h;by_cases e:p.1 = k
  ·rw [if_pos e,if_pos (h1.symm.trans e)];exact ⟨h1,ry⟩
  ·rw [if_neg e,if_neg (fun z => e (h1.trans z))];exact ⟨h1,h2⟩
theorem KV.put {kvs:List (κ × V)} {vs:List (κ × Value)} (r:KV kvs vs) (k:κ) {y:V} {u:Value} (ry:RelV y u):KV (putK kvs k y) (stored vs k u):=by
 unfold putK stored;rw [r.any k];by_cases e:(vs.any fun kv => decide (kv.1 = k)) = true
 ·rw [if_pos e,if_pos e];exact r.repl k ry
 ·rw [if_neg e,if_neg e];exact Paired.snoc r ⟨rfl,ry⟩
theorem KV.length {kvs:List (κ × V)} {vs:List (κ × Value)} (r:KV kvs vs):kvs.length = vs.length:=Paired.length r
end
theorem kV_is {P:Program} {w:World} {k:Key} {u:Value} (r:RelV (kV k) u):(mixKind P w).is k u = true:=by
 cases k with
 | inl i => obtain ⟨t,e⟩:=(show ∃ t,u = Value.int i t from r);subst e;exact mixKind_int P w i t
 | inr x => obtain ⟨t,e⟩:=(show ∃ t,u = Value.str x t from r);subst e;exact mixKind_str P w x t
theorem items_are {P:Program} {w:World}:∀ {ks:List Key} {us:List Value},Vals (ks.map kV) us -> ItemsAre (mixKind P w) ks us
 | [],_,r => by rw [List.map_nil] at r;cases r;exact .nil
 | k :: ks,_,r => by
  rw [List.map_cons] at r
  cases r with
  | cons h t => exact .cons (kV_is h) (items_are t)
noncomputable abbrev KT (H:Hp):List (List Key × V) -> List (List Key × Addr × Value) -> Prop:=Paired fun p q => p.1 = q.1 /\ H q.2.1 = some (.tup (p.1.map kV)) /\ RelV p.2 q.2.2
theorem KT.val {H:Hp} {kvs:List (List Key × V)} {xs:List (List Key × Addr × Value)} (r:KT H kvs xs) (k:List Key):RelO (valV kvs k) ((atKey xs k).map (·.2)):=by
 induction r with
 | nil => exact True.intro
 | @cons p q ps qs h t ih =>
  obtain ⟨h1,_,h2⟩:=h;by_cases e:p.1 = k
  ·have e':q.1 = k:=h1.symm.trans e;have b:atKey (q :: qs) k = some q.2:=by simp [atKey,List.find?_cons,e']
   rw [valV_pos e,b];exact h2
  ·have e':¬ q.1 = k:=fun z => e (h1.trans z);have b:atKey (q :: qs) k = atKey qs k:=by simp [atKey,List.find?_cons,e']
   rw [valV_neg e,b];exact ih
theorem KT.repl {H:Hp} {kvs:List (List Key × V)} {xs:List (List Key × Addr × Value)} (r:KT H kvs xs) (k:List Key) {y:V} {u:Value} (ry:RelV y u) :
  KT H (kvs.map fun kv => if kv.1 = k then (kv.1,y) else kv) (xs.map (putAt k u)):=by
 induction r with
 | nil => exact .nil
 | @cons p q ps qs h t ih =>
  rw [List.map_cons,List.map_cons];refine .cons ?_ ih;obtain ⟨h1,h2,h3⟩:=h;unfold putAt;by_cases e:p.1 = k
  ·rw [if_pos e,if_pos (h1.symm.trans e)];exact ⟨h1,h2,ry⟩
  ·rw [if_neg e,if_neg (fun z => e (h1.trans z))];exact ⟨h1,h2,h3⟩
theorem KT.put {H:Hp} {kvs:List (List Key × V)} {xs:List (List Key × Addr × Value)} (r:KT H kvs xs) (k:List Key) {b:Addr} {y:V} {u:Value} (hb:H b = some (.tup (k.map kV))) (ry:RelV y u) :
  KT H (putK kvs k y) (storedH xs k b u):=by
 have e:(kvs.any fun kv => decide (kv.1 = k)) = (atKey xs k).isSome:=by
  rw [valV_any,(r.val k).isSome_eq,Option.isSome_map]
 unfold putK storedH;rw [e];by_cases q:(atKey xs k).isSome = true
 ·rw [if_pos q,if_pos q];exact r.repl k ry
 ·rw [if_neg q,if_neg q];exact Paired.snoc r ⟨rfl,hb,ry⟩
theorem KT.keeps {H H':Hp} {kvs:List (List Key × V)} {xs:List (List Key × Addr × Value)} (r:KT H kvs xs) (ht:∀ b ys,H b = some (.tup ys) -> H' b = some (.tup ys)):KT H' kvs xs :=
 Paired.mapP r fun _ _ z => ⟨z.1,ht _ _ z.2.1,z.2.2⟩
section
variable {P:Program} {w:World} {H:Hp} {h:Heap} {a:Addr}
theorem rd_of {u:HO} (ok:HOk P w H h) (e:Rd H a u):ObjOk P w H h a u:=e.ok ok
theorem dk_rd {kvs:List (Key × V)} (ok:HOk P w H h) (e:Rd H a (.dK kvs)):kvs.length <= sizeLine /\ (a == sysModules) = false /\ ∃ vs,KV kvs vs /\ h.DictOf (mixKind P w) a vs :=
 show ObjOk P w H h a (.dK kvs) from rd_of ok e
theorem dk_of {kvs:List (Key × V)} (ok:HOk P w H h) (e:H a = some (.dK kvs)):kvs.length <= sizeLine /\ (a == sysModules) = false /\ ∃ vs,KV kvs vs /\ h.DictOf (mixKind P w) a vs:=dk_rd ok (.inl e)
theorem key_of {ks:List Key} (ok:HOk P w H h) (e:H a = some (.tup (ks.map kV))):(tupleKind (mixKind P w)).is h ks a:=by
 obtain ⟨_,its,r,o,h1,h2,n,h3,_⟩:=(show ObjOk P w H h a (.tup (ks.map kV)) from ok a _ e);exact ⟨o,its.toArray,n,h1,h2,h3,by simpa using items_are r⟩
theorem dt_rd {kvs:List (List Key × V)} (ok:HOk P w H h) (e:Rd H a (.dT kvs)):kvs.length <= sizeLine /\ (a == sysModules) = false /\
  ∃ xs,KT H kvs xs /\ h.DictOfH (tupleKind (mixKind P w)) a xs:=by
 obtain ⟨z,y,xs,r,o,es,ep,h1,h2,h3,h4,h5⟩:=(show ObjOk P w H h a (.dT kvs) from rd_of ok e);refine ⟨z,y,xs,r,o,es,ep,h1,h2,h3,h4,fun x hx => ?_,h5⟩;have all:∀ {l:List (List Key × V)} {m:List (List Key × Addr × Value)},KT H l m -> ∀ x ∈ m,(tupleKind (mixKind P w)).is h x.1 x.2.1:=by
  intro l m q
  induction q with
  | nil => intro x hx;exact nomatch hx
  | @cons p q ps qs hq t ih =>
   intro x hx;rcases List.mem_cons.mp hx with e | hx
   ·subst e;exact key_of ok (by rw [<- hq.1];exact hq.2.1)
   ·exact ih x hx
 exact all r x hx
theorem dt_of {kvs:List (List Key × V)} (ok:HOk P w H h) (e:H a = some (.dT kvs)):kvs.length <= sizeLine /\ (a == sysModules) = false /\
  ∃ xs,KT H kvs xs /\ h.DictOfH (tupleKind (mixKind P w)) a xs:=dt_rd ok (.inl e)
end
def DGet (H:Hp) (a:Addr) (y:V) (r:Option V):Prop :=
 (∃ kvs k,Rd H a (.dK kvs) /\ y = kV k /\ r = valV kvs k) \/ ∃ kvs k b,Rd H a (.dT kvs) /\ y = .ref b /\ H b = some (.tup (k.map kV)) /\ r = valV kvs k
def DPut (H:Hp) (a:Addr) (y v:V) (H':Hp):Prop :=
 (∃ kvs k,H a = some (.dK kvs) /\ y = kV k /\ kvs.length < sizeLine /\ H' = upd H a (.dK (putK kvs k v))) \/
 ∃ kvs k b,H a = some (.dT kvs) /\ y = .ref b /\ H b = some (.tup (k.map kV)) /\ kvs.length < sizeLine /\ H' = upd H a (.dT (putK kvs k v))
section
variable {X:Cx} {pins:List (Addr × Obj)} {σ:St} {H:Hp} {s:Shared} {a:Addr} {y v:V} {u r:Value} {o:Option V} {A:Around} {E:Value -> Shared -> Prop}
theorem Inv.big (I:Inv X pins σ H s):sysModules < s.heap.objs.size:=by
 have h:mainGlobals < s.heap.objs.size:=(I.mod.glob.keeps I.bk).lt;exact Nat.lt_trans (by decide) h
theorem d_getItem {Q:Value -> Shared -> Prop} (hu:A.units + 1 < cLine) (I:Inv X pins σ H s) (g:DGet H a y (some v)) (ry:RelV y u) (h:∀ w' s',Inv X pins σ H s' -> RelV v w' -> Q w' s') :
  wpAny (model X.prog X.w) A (getItem (.ref a) u) Q E s:=by
 rcases g with ⟨kvs,k,e,ey,l⟩ | ⟨kvs,k,b,e,ey,eb,l⟩
 ·subst ey;obtain ⟨z,hd,vs,rel,dd⟩:=dk_rd I.hok e;obtain ⟨w',hw,rw'⟩:=RelO.some_of (v:=v) (o:=valueAt vs k) (by rw [l];exact rel.val k)
  exact wpAny_getItem_of (kV_is ry) dd.mapOf hw (h w' _ (I.tok _) rw')
 ·subst ey
  cases (show u = Value.ref b from ry)
  obtain ⟨z,hd,xs,rel,dd⟩:=dt_rd I.hok e;obtain ⟨w',hw,rw'⟩:=RelO.some_of (v:=v) (o:=(atKey xs k).map (·.2)) (by rw [l];exact rel.val k)
  obtain ⟨p,hp,hp2⟩:=Option.map_eq_some_iff.mp hw;refine wpAny_getItem_heap (tupleKind_room_in1 hu) (key_of I.hok eb) dd hp ?_;rw [hp2];exact h w' _ (I.tok _) rw'
theorem d_notIn {Q:Value -> Shared -> Prop} (hu:A.units + 1 < cLine) (I:Inv X pins σ H s) (g:DGet H a y o) (ry:RelV y u) (h:∀ s',Inv X pins σ H s' -> Q (.bool (!o.isSome)) s') :
  wpAny (model X.prog X.w) A (compareOp .NotIn u (.ref a)) Q E s:=by
 rcases g with ⟨kvs,k,e,ey,l⟩ | ⟨kvs,k,b,e,ey,eb,l⟩
 ·subst ey;obtain ⟨z,hd,vs,rel,dd⟩:=dk_rd I.hok e;refine wpAny_notIn_of (kV_is ry) hd dd.mapOf ?_;rw [<- (rel.val k).isSome_eq,<- l];exact h _ (I.tok _)
 ·subst ey
  cases (show u = Value.ref b from ry)
  obtain ⟨z,hd,xs,rel,dd⟩:=dt_rd I.hok e;refine wpAny_notIn_heap (tupleKind_room_in1 hu) (key_of I.hok eb) hd dd ?_;have q:=(rel.val k).isSome_eq;rw [Option.isSome_map] at q;rw [<- q,<- l];exact h _ (I.tok _)
theorem d_write {h':Heap} {t':Nat} {ob:HO} (I:Inv X pins σ H s) (mu:Mut (H a)) (hs:Heap.SameBut a s.heap h') (he:∃ q,h'.get? a = some q) (new:ObjOk X.prog X.w (upd H a ob) h' a ob) :
  Inv X pins σ (upd H a ob) { s with heap:=h',toks:=t' } :=
 I.write (x:=a) (e:=a) mu (.inl rfl) (fun b q hb z => (hs.2 b hb).trans z) he new
theorem dk_new {P:Program} {w:World} {H':Hp} {h':Heap} {kvs:List (Key × V)} {vs:List (Key × Value)} (z:kvs.length <= sizeLine) (hd:(a == sysModules) = false) (rel:KV kvs vs) (dd:h'.DictOf (mixKind P w) a vs) :
  ObjOk P w H' h' a (.dK kvs):=⟨z,hd,vs,rel,dd⟩
theorem d_setItem {H':Hp} {Q:Unit -> Shared -> Prop} (hu:A.units + 1 < cLine) (I:Inv X pins σ H s) (g:DPut H a y v H') (ry:RelV y u) (rv:RelV v r) (h:∀ s',Inv X pins σ H' s' -> Q () s') :
  wpAny (model X.prog X.w) A (setItem (.ref a) u r) Q E s:=by
 rcases g with ⟨kvs,k,e,ey,l,eH⟩ | ⟨kvs,k,b,e,ey,eb,l,eH⟩
 ·subst ey eH;obtain ⟨z,hd,vs,rel,dd⟩:=dk_of I.hok e;have hz:vs.length <= sizeLine:=by rw [<- rel.length];exact z
  have hl:(putK kvs k v).length <= sizeLine:=by have:=length_putK kvs k v;lia
  refine wpAny_setItem_pairs (hsz:=hz) (kV_is ry) dd fun h' dd' hs => h _ ?_;have he:∃ q,h'.get? a = some q:=let ⟨q,_,_,hq,_⟩:=dd';⟨q,hq⟩
  exact d_write I (by rw [e];exact True.intro) hs he (dk_new hl hd (rel.put k rv) dd')
 ·subst ey eH
  cases (show u = Value.ref b from ry)
  obtain ⟨z,hd,xs,rel,dd⟩:=dt_of I.hok e;have hz:xs.length <= sizeLine:=by rw [<- Paired.length rel];exact z
  have hl:(putK kvs k v).length <= sizeLine:=by have:=length_putK kvs k v;lia
  refine wpAny_setItem_heap (hsz:=hz) (tupleKind_room_in1 hu) (key_of I.hok eb) dd fun h' dd' hs => h _ ?_;obtain ⟨q,es,ep,hq,h2,h3,h4,_,h5⟩:=dd';refine d_write I (by rw [e];exact True.intro) hs ⟨q,hq⟩ ⟨hl,hd,_,(rel.put k eb rv).keeps fun c ys ec => ?_,q,es,ep,hq,h2,h3,h4,h5⟩
  rw [upd_ne (ne_of ec e (fun z => nomatch z))];exact ec
end
section
variable {X:Cx} {pins:List (Addr × Obj)} {σ:St} {H:Hp} {s:Shared} {a:Addr} {kvs:List (Key × V)} {k:Key} {u:Value} {A:Around} {E:Value -> Shared -> Prop}
end
def NoSl (i:Expr):Prop:=∀ ov iv,subscripted i false ov iv = operate [ov,iv] (getItem ov iv)
theorem subD_of {prog:Program} {w:World} {A:Around} {E:Value -> Shared -> Prop} {s:Shared} {env:Env} {value slice:Expr} {pos:Pos} {T id:String} {Q:Value -> Shared -> Prop}
  (hl:typeLookup (.type T) "__getitem__" = pure (some (.builtin id))) (hs:NoSl slice)
  (h:wpAny (model prog w) A (eval value env) (fun o s₁ => wpAny (model prog w) A (eval slice env) (fun i s₂ => s₂.TypeIs o T /\ wpAny (model prog w) A (getItem o i) Q E s₂) E s₁) E s) :
  wpAny (model prog w) A (eval (.Subscript value slice pos) env) Q E s:=by
 refine Subscript_ (wpAny_mono h (fun o s₁ h₁ => wpAny_mono h₁ (fun i s₂ h₂ => ?_) fun _ _ x => x) fun _ _ x => x);obtain ⟨hT,h₂⟩:=h₂;unfold subscriptTail;refine wpAny_bind ?_;rw [getitemInPython_of_ne hT.not_modules];refine wpAny_bind (wpAny_specialOf hT hl ?_);have fin:wpAny (model prog w) A (subscripted slice false o i) (fun r s₃ => wpAny (model prog w) A (letTemporaryGo value o r >>= fun _ => pure r) Q E s₃) E s₂:=by
  rw [hs o i];exact wpAny_operating (wpAny_mono h₂ (fun r s₃ h₃ => wpAny_bind (wpAny_letTemporaryGo (wpAny_pure h₃))) fun _ _ x => x)
 first
  | exact wpAny_pure (wpAny_bind fin)
  | exact wpAny_bind (wpAny_pure (wpAny_bind fin))
  | exact wpAny_bind fin
theorem dict_typeIs {X:Cx} {pins:List (Addr × Obj)} {σ:St} {H:Hp} {s:Shared} {a:Addr} {y:V} {o:Option V} (I:Inv X pins σ H s) (g:DGet H a y o):s.TypeIs (.ref a) "dict":=by
 rcases g with ⟨kvs,k,e,_,_⟩ | ⟨kvs,k,b,e,_,_,_⟩
 ·obtain ⟨_,_,vs,_,dd⟩:=dk_rd I.hok e;exact dd.typeIs
 ·obtain ⟨_,_,xs,_,dd⟩:=dt_rd I.hok e;exact dd.typeIs
def tDGet (td ty:TE):TE:=fun σ H Q => td σ H fun x H1 => ty σ H1 fun y H2 => ∃ a v,x = .ref a /\ DGet H2 a y (some v) /\ Q v H2
def sDPut (td ty tv:TE):TS:=fun D σ H => tv σ H fun v H1 => td σ H1 fun x H2 => ty σ H2 fun y H3 => ∃ a H4,x = .ref a /\ DPut H3 a y v H4 /\ D.nx σ H4
section
variable {X:Cx} {o i e value:Expr} {pos pos' tpos:Pos} {td ty tv:TE}
theorem pe_dget (hu:X.A.units + 1 < cLine) (ho:PE X o td) (hi:PE X i ty) (hs:NoSl i):PE X (.Subscript o i pos) (tDGet td ty):=by
 intro pins s σ H Q I h;refine subD_of PySem.F.slot_dict_getitem.lookup hs (thn (ho pins s σ H _ I h) fun u s1 ⟨x,H1,I1,rx,q1⟩ => thn (hi pins s1 σ H1 _ I1 q1) fun iv s2 ⟨y,H2,I2,ry,a,v,ex,g,q2⟩ => ?_);subst ex;obtain rfl:u = Value.ref a:=rx;exact ⟨dict_typeIs I2 g,d_getItem hu I2 g ry fun w' s3 I3 rw' => ⟨v,H2,I3,rw',q2⟩⟩
theorem ps_dput (hu:X.A.units + 1 < cLine) (ho:PE X o td) (hi:PE X i ty) (hv:PE X value tv) (hs:swapsWith value (some (.Subscript o i pos')) pos.line X.env = pure false) :
  PS X (.Assign [.Subscript o i pos'] value pos) (sDPut td ty tv):=by
 intro pins s σ H D I h;refine wpAny_Assign_Subscript (thn (hv pins s σ H _ I h) fun r s1 ⟨v,H1,I1,rv,q1⟩ => thn (ho pins s1 σ H1 _ I1 q1) fun u s2 ⟨x,H2,I2,rx,q2⟩ => thn (hi pins s2 σ H2 _ I2 q2) fun iv s3 ⟨y,H3,I3,ry,a,H4,ex,g,q3⟩ => ?_) hs;subst ex;obtain rfl:u = Value.ref a:=rx;exact d_setItem hu I3 g ry rv fun s4 I4 => ⟨σ,H4,I4,q3⟩
end
theorem dk_empty {P:Program} {w:World} {H:Hp} (h:Heap) (hb:sysModules < h.objs.size):ObjOk P w H (h.push { cls:=.type "dict",data:=.dict #[] }) h.objs.size (.dK []) :=
 ⟨Nat.zero_le _,beq_eq_false_iff_ne.mpr (Ne.symm (Nat.ne_of_lt hb)),[],.nil,Heap.DictOf.new h⟩
section
variable {X:Cx} {pos:Pos}
end
def tPairs:List (TE × TE) -> St -> Hp -> (List (V × V) -> Hp -> Prop) -> Prop
 | [],_,H,Q => Q [] H
 | (tk,tv) :: r,σ,H,Q => tk σ H fun x H1 => tv σ H1 fun y H2 => tPairs r σ H2 fun ps H3 => Q ((x,y) :: ps) H3
noncomputable abbrev VV:List (V × V) -> List (Value × Value) -> Prop:=Paired fun p q => RelV p.1 q.1 /\ RelV p.2 q.2
def PPs (X:Cx) (pos:Pos) (keys:List (Option Expr)) (values:List Expr) (trs:List (TE × TE)):Prop :=
 ∀ (pins:List (Addr × Obj)) (s:Shared) (σ:St) (H:Hp) (Q:List (V × V) -> Hp -> Prop),Inv X pins σ H s -> tPairs trs σ H Q ->
  wpAny (model X.prog X.w) X.A (evalPairs (pairTrees keys values X.env pos)) (fun vs s' => ∃ ps H',Inv X pins σ H' s' /\ VV ps vs /\ Q ps H') X.xe s
theorem pps_nil {X:Cx} {pos:Pos}:PPs X pos [] [] []:=fun pins s σ H Q I h => pairTrees_nil_walk ⟨[],H,I,.nil,h⟩
theorem pps_cons {X:Cx} {pos:Pos} {k v:Expr} {ks:List (Option Expr)} {vs:List Expr} {tk tv:TE} {trs:List (TE × TE)} (hk:PE X k tk) (hv:PE X v tv) (hr:PPs X pos ks vs trs) :
  PPs X pos (some k :: ks) (v :: vs) ((tk,tv) :: trs):=fun pins s σ H Q I h =>
 pairTrees_cons_walk (thn (hk pins s σ H _ I h) fun u s1 ⟨x,H1,I1,rx,q1⟩ => thn (hv pins s1 σ H1 _ I1 q1) fun w2 s2 ⟨y,H2,I2,ry,q2⟩ =>
  thn (hr pins s2 σ H2 _ I2 q2) fun ws s3 ⟨ps,H3,I3,rel,q3⟩ => ⟨(x,y) :: ps,H3,I3,.cons ⟨rx,ry⟩ rel,q3⟩)
def mergeK (kvs more:List (Key × V)):List (Key × V):=more.foldl (fun acc kv => putK acc kv.1 kv.2) kvs
theorem KV.merge:∀ {more:List (Key × V)} {rs:List (Key × Value)} {kvs:List (Key × V)} {vs:List (Key × Value)},KV more rs -> KV kvs vs -> KV (mergeK kvs more) (merged vs rs):=by
 intro more rs kvs vs r;unfold KV at r
 induction r generalizing kvs vs with
 | nil => intro q;exact q
 | @cons p q ps qs h t ih =>
  intro r0;have e:KV (putK kvs p.1 p.2) (stored vs q.1 q.2):=by
   have:=r0.put p.1 h.2;rw [<- h.1];exact this
  exact ih e
theorem length_mergeK:∀ (more kvs:List (Key × V)),(mergeK kvs more).length <= kvs.length + more.length
 | [],kvs => by show kvs.length <= kvs.length + 0;lia
 | p :: r,kvs => by
  have h1:=length_mergeK r (putK kvs p.1 p.2);have h2:=length_putK kvs p.1 p.2;show (mergeK (putK kvs p.1 p.2) r).length <= _;rw [List.length_cons];lia
theorem carries_of {P:Program} {w:World}:∀ {kvs:List (Key × V)} {ws:List (Value × Value)},VV (kvs.map fun kv => (kV kv.1,kv.2)) ws -> ∃ rs,Carries (mixKind P w) ws rs /\ KV kvs rs
 | [],_,r => by rw [List.map_nil] at r;cases r;exact ⟨[],True.intro,.nil⟩
 | p :: kvs,_,r => by
  rw [List.map_cons] at r
  cases r with
  | @cons a b as bs h t =>
   obtain ⟨rs,c,q⟩:=carries_of (P:=P) (w:=w) t;obtain ⟨b1,b2⟩:=b;exact ⟨(p.1,b2) :: rs,⟨kV_is h.1,rfl,c⟩,.cons ⟨rfl,h.2⟩ q⟩
def tDisp (trs:List (TE × TE)):TE:=fun σ H Q => ∀ p,H p = none -> tPairs trs σ (upd H p (.dK [])) fun ps H2 => H2 p = some (.dK []) /\ ∃ kvs:List (Key × V),ps = kvs.map (fun kv => (kV kv.1,kv.2)) /\ kvs.length <= 15 /\ Q (.ref p) (upd H2 p (.dK (mergeK [] kvs)))
theorem pe_disp {X:Cx} {pos:Pos} {keys:List (Option Expr)} {values:List Expr} {trs:List (TE × TE)} (h:PPs X pos keys values trs) (hall:keys.all (·.isSome) = true) (hl:keys.length = values.length) (h0:keys ≠ [])
  (h15:keys.length <= 15):PE X (.Dict keys values pos) (tDisp trs):=by
 intro pins s σ H Q I q;have hn:=I.hok.fresh (Nat.le_refl s.heap.objs.size);have I1:=I.laid (a:=s.heap.objs.size) (o:=.dK []) (h':=s.heap.push { cls:=.type "dict",data:=.dict #[] }) (t':=s.toks) (fun _ _ q => Heap.get?_push_of_some _ q) (Nat.le_refl _) (dk_empty s.heap I.big);refine wpAny_Dict_walk (knd:=mixKind X.prog X.w) hall hl h0 h15 (thn (h pins _ σ _ _ I1 (q _ hn)) fun ws s2 ⟨ps,H2,I2,rel,e,kvs,ep,lk,q2⟩ => ?_);subst ep;obtain ⟨rs,c,rk⟩:=carries_of (P:=X.prog) (w:=X.w) rel;obtain ⟨z,hd,vs0,r0,dd⟩:=dk_of I2.hok e;cases r0;refine ⟨rs,c,dd,fun h' dd' hs => ⟨.ref s.heap.objs.size,_,?_,rfl,q2⟩⟩;have hz:(mergeK [] kvs).length <= sizeLine:=by
  have h1:=length_mergeK kvs [];rw [List.length_nil] at h1;rw [sizeLine_eq];lia
 have he:∃ q,h'.get? s.heap.objs.size = some q:=let ⟨q,_,_,hq,_⟩:=dd';⟨q,hq⟩
 exact d_write I2 (by rw [e];exact True.intro) hs he (dk_new hz hd (rk.merge .nil) dd')
structure M1 (X:Cx) (o:Expr) (m:Str) (apos:Pos) (e:Expr) (cpos:Pos):Prop where
 base:attributeBase o m X.env (eval o X.env) = eval o X.env
 few:((backTo cpos (starEach [e] X.env)).all (fun x => !x.1) && (backToKw cpos (keywordEach [] X.env)).all (fun x => x.1.isSome)
  && decide (([e]:List Expr).length + ([]:List Keyword).length + (if ([]:List Keyword).isEmpty then 0 else 1) < 30)) = true
 line:(apos.endLine == cpos.line) = true
 trees:backTo cpos (starEach [e] X.env) = [(false,eval e X.env)]
section
variable {X:Cx} {pins:List (Addr × Obj)} {σ:St} {H:Hp} {s:Shared} {a:Addr} {y d:V} {u r:Value} {o:Option V} {A:Around} {E:Value -> Shared -> Prop}
end
section
variable {X:Cx} {o e f:Expr} {apos cpos:Pos} {td ty tx:TE}
end
section
variable {X:Cx} {pins:List (Addr × Obj)} {σ:St} {H:Hp} {s:Shared} {a:Addr} {kvs:List (Key × V)} {A:Around} {E:Value -> Shared -> Prop}
end
section
variable {X:Cx} {pins:List (Addr × Obj)} {σ:St} {H:Hp} {s:Shared} {a:Addr} {y:V} {u:Value} {A:Around} {E:Value -> Shared -> Prop}
end
end L2
namespace Att
open PySem PySem.W PySem.Calls PyProof.Rows
theorem ints_of_wellAll {P:Params} {h:Heap}:∀ (ns:List Int) (vs:List Value),WellAll P h vs (ns.map WData.int) -> IntsAre vs ns:=by
 intro ns
 induction ns with
 | nil =>
  intro vs w;rw [List.map_nil] at w;cases w;exact .nil
 | cons n ns ih =>
  intro vs w;rw [List.map_cons] at w
  cases w with
  | cons a b =>
   cases a;exact .cons _ _ (ih _ b)
theorem script_of {l:OpenLaw} {n:Nat} (hn:l.most = some n) {P:Params} {h:Heap} {args:List WData} {vals:List Value}
  (hpre:l.row.toRowW.claim.pre args = true) (hwl:WellAll P h vals args) :
  ∃ a vs ns,vals = [Value.ref a] /\ args = [WData.list (ns.map WData.int)] /\ h.get? a = some { cls:=.type "list",data:=.seq vs.toArray } /\ IntsAre vs ns /\ ns.length <= n:=by
 have hsh:WShape.hasAll [] args [.list .int] = true:=(pre_splitW hpre).1;have hc:l.pre.holds [] { args:=args } = true:=(pre_splitW hpre).2;obtain ⟨d,r,rfl,h1,h2⟩:=hasAllW_cons hsh;obtain rfl:=hasAllW_nil h2;obtain ⟨xs,rfl,h3⟩:=hasW_list h1;obtain ⟨ns,rfl⟩:=items_int h3;have hlen:ns.length <= n:=by
  unfold OpenLaw.pre at hc;have h4:(WTm.not (.lt (.lit (.int (n:Int))) (.len (.arg 0)))).holds [] { args:=[.list (ns.map .int)] } = true:=by
   have h4:=(holds_andW hc).1;rw [hn] at h4;exact h4
  have h5:=condW_of h4 (w_not (w_lt w_lit (w_len_list (w_arg rfl))));rw [List.length_map] at h5;refine Nat.le_of_not_lt fun q => ?_;have q':(n:Int) < ((ns.length:Nat):Int):=by lia
  first
   | (rw [decide_eq_true q'] at h5;exact absurd h5 (by decide))
   | (simp at h5;lia)
 cases hwl with
 | cons w1 w2 =>
  cases w2
  cases w1 with
  | list ho hall => exact ⟨_,_,ns,rfl,rfl,ho,ints_of_wellAll ns _ hall,hlen⟩
theorem post_true (l:OpenLaw) (args:List WData):l.row.toRowW.claim.post args (.bool true) args = true :=
 postW_of (r:=l.row.toRowW) (X:=(true == true))
  (show WShape.has [] (.bool true) .bool = true by first | rfl | decide | simp [WShape.has,WShape.arms,WShape.armsAll])
  (show (WTm.eq .res (.lit (.bool true))).value [] { args:=args,res:=some (.bool true),after:=args } = some (.bool (true == true)) from w_eq_bool (w_res rfl) w_lit) rfl
theorem attach_call {l:OpenLaw} {n:Nat} {q:Program} {loose:List Str} {XP:(Str -> Option Value) -> Heap -> Prop} {YP:World -> Heap -> Prop} {d:DefRec}
  (hn:l.most = some n) (hdf:d.params.defaults = [])
  (call:∀ (w:World) (s₀ s₁:Shared) (mg mb:Str -> Option Value) (fa:Addr) (o:Obj) (pm cd doc:Value) (a:Addr) (vs:List Value) (ns:List Int),
   Ground q loose [] XP w s₀ mg mb s₁.heap -> YP w s₁.heap ->
   s₁.heap.get? fa = some o -> o.data = .func (docDef d.name d.params d.body d.scope pm cd doc) -> s₁.heap.CodeRec cd d.name -> mg d.name = some (.ref fa) ->
   s₁.heap.get? a = some { cls:=.type "list",data:=.seq vs.toArray } -> IntsAre vs ns -> ns.length <= n -> s₁.gens = #[] ->
   codeAny (model l.prog w) callerA (.call (.ref fa) ⟨[.ref a],[]⟩) (fun r s' => r = .ok (.ret (.bool true)) /\ OldK s₁.heap s'.heap /\ s'.os = s₁.os /\ AllBare s'.gens) s₁) :
  WalkO q loose XP YP l.row.toRowW d [] (fun f vs => PySem.call f vs):=by
 intro w s₀ s₁ mg mb G Y fa o pm cd doc dV kV ho hd hcd hD hmg hg args vals as hpre hlay hrd hwl hlo;obtain rfl:dV = .none:=Dflts.none hD hdf;obtain rfl:kV = .none:=Dflts.noKw hD;obtain ⟨a,vs,ns,rfl,rfl,hobj,hints,hlen⟩:=script_of hn hpre hwl;refine enter_call (codeAny_mono (call w s₀ s₁ mg mb fa o pm cd doc a vs ns G Y ho (fd_plain hd) hcd hmg hobj hints hlen hg) fun r s' hq => ?_);obtain ⟨rfl,h2,h3,h4⟩:=hq;exact ⟨.inl ⟨.bool true,.bool true,[],rfl,fun _ => rfl,.bool true,post_true l _,fun _ => ⟨List.Pairwise.nil,fun _ hm => (nomatch hm)⟩⟩,h2,h3,h4⟩
section
variable {prog:Program} {w:World} {A:Around} {E:Value -> Shared -> Prop} {s:Shared} {K:Frag}
end
end Att
namespace L2
open PySem PySem.Spec PyProof.Rows
theorem vals_ints:∀ {vs:List Value} {ns:List Int},IntsAre vs ns -> Vals (ns.map V.int) vs
 | _,_,.nil => .nil
 | _,_,.cons n t h => .cons ⟨t,rfl⟩ (vals_ints h)
structure LamOk (q:Program) (K:PySem.W.Frag):Prop where
 nt:PySem.W.noTabs K = true
 nd:((lamTabs K).map (·.2.1)).Nodup
 fd:∀ x ∈ lamNames,PySem.W.tabIn K x = none \/ ((recsOf q).find? (fun e => e.name == x)).isSome = true
theorem LamOk.at {q:Program} {K:PySem.W.Frag} {loose:List Str} {mean:ExcName -> Option Value} {mg mb:Str -> Option Value} {h:Heap} (L:LamOk q K) (T:Top q loose mean mg mb h) (X:K.In h):∀ t ∈ lamTabs K,PySem.W.CodeHd h t.1 t.2.1 /\ h.get? t.2.1 = some (PySem.W.tabObj #[]):=fun t ht => by
 unfold lamTabs at ht;obtain ⟨x,hx,e⟩:=List.mem_filterMap.mp ht;obtain ⟨p,e1,e2⟩:=Option.map_eq_some_iff.mp e;obtain ⟨c,Pt⟩:=p;subst e2;rcases L.fd x hx with z | z
 ·rw [z] at e1;cases e1
 ·obtain ⟨d,hd⟩:=Option.isSome_iff_exists.mp z;exact PySem.W.tab_of T X hd e1
def tbOf:List (Addr × Addr × Str) -> Addr -> Option HO
 | [],_ => none
 | t :: r,b => if b = t.2.1 then some (.tbl #[.str t.2.2 0]) else tbOf r b
theorem tbOf_some {b:Addr} {o:HO}:∀ {l:List (Addr × Addr × Str)},tbOf l b = some o -> ∃ t ∈ l,b = t.2.1 /\ o = .tbl #[.str t.2.2 0]
 | t :: r,e => by
  unfold tbOf at e;by_cases z:b = t.2.1
  ·rw [if_pos z] at e;cases e;exact ⟨t,.head _,z,rfl⟩
  ·rw [if_neg z] at e;obtain ⟨u,hu,q⟩:=tbOf_some e;exact ⟨u,.tail _ hu,q⟩
theorem tbOf_mem {t:Addr × Addr × Str}:∀ {l:List (Addr × Addr × Str)},(l.map (·.2.1)).Nodup -> t ∈ l -> tbOf l t.2.1 = some (.tbl #[.str t.2.2 0])
 | u :: r,nd,m => by
  obtain ⟨n1,n2⟩:=List.nodup_cons.mp nd;unfold tbOf;rcases List.mem_cons.mp m with rfl | m
  ·rw [if_pos rfl]
  ·rw [if_neg fun z => n1 (List.mem_map.mpr ⟨t,m,z⟩)];exact tbOf_mem n2 m
theorem law_call {P q:Program} {w:World} {K:PySem.W.Frag} {mg mb:Str -> Option Value} {CX:CXT} {k:Nat} {fa a:Addr} {fd:FuncData} {x:Str} {sp:Sp} {s₁:Shared} {vs:List Value} {ns:List Int}
  (KX:K.In s₁.heap) (hns:s₁.heap.Ns mainGlobals mg) (hb:s₁.heap.Ns builtinsNs mb) (hbb:∀ x:Str,x ≠ "__name__" -> mb x = bootBuiltins x) (hlim:s₁.heap.NoLimit) (hbm:BmAt mg s₁.heap)
  (hT:∀ t ∈ lamTabs K,PySem.W.CodeHd s₁.heap t.1 t.2.1 /\ s₁.heap.get? t.2.1 = some (PySem.W.tabObj #[])) (L:LamOk q K) (hg:s₁.gens = #[])
  (ha:s₁.heap.get? a = some { cls:=.type "list",data:=.seq vs.toArray }) (hi:IntsAre vs ns) (hl:ns.length <= sizeLine) (hr:Room k callerA)
  (F:∀ base:Heap,K.In base -> base.Ns mainGlobals mg -> FnOk P w K mg base CX k fa fd [x] sp) (hbind:∀ (s:Shared) (u:Value),BindsTo s fd ⟨[u],[]⟩ [(x,u)])
  (hsp:∀ H:Hp,True -> SqL K H a (ns.map V.int) -> sp [.ref a] H (fun v _ => v = .bl true) fun _ _ _ => False)
  (hCX:∀ H e s',CX [] H s₁ (fun _ _ _ => False) e s' -> False) :
  codeAny (model P w) callerA (.call (.ref fa) ⟨[.ref a],[]⟩) (fun r s' => r = .ok (.ret (.bool true)) /\ OldK s₁.heap s'.heap /\ s'.os = s₁.os /\ AllBare s'.gens) s₁:=by
 have rv:=vals_ints hi;have lenV:=hi.length;have naT:∀ t ∈ lamTabs K,t.2.1 ≠ a:=fun t ht z => by
  have e:=(hT t ht).2;rw [z,ha] at e;cases e
 let oS:Obj:={ cls:=.type "list",data:=.seq vs.toArray }
 have core:∀ S:Option HO,(S = none \/ S = some (.frz oS (.lst (ns.map V.int)))) -> (S ≠ none -> K.lookup a = none) -> SqL K (fun b => if b = a then S else tbOf (lamTabs K) b) a (ns.map V.int) ->
   codeAny (model P w) callerA (.call (.ref fa) ⟨[.ref a],[]⟩) (fun r s' => r = .ok (.ret (.bool true)) /\ OldK s₁.heap s'.heap /\ s'.os = s₁.os /\ AllBare s'.gens) s₁:=by
  intro S hS hK hSq;generalize hH:(fun b => if b = a then S else tbOf (lamTabs K) b) = H at hSq
  have hA:H a = S:=by rw [<- hH];exact if_pos rfl
  have hB:∀ b,b ≠ a -> H b = tbOf (lamTabs K) b:=fun b z => by rw [<- hH];exact if_neg z
  have free:∀ {b:Addr} {o:Obj},s₁.heap.get? b = some o -> o ≠ PySem.W.tabObj #[] -> (b = a -> S = none) -> H b = none:=fun {b o} e hn hz => by
   by_cases z:b = a
   ·rw [z,hA];exact hz z
   ·rw [hB b z]
    cases q:tbOf (lamTabs K) b with
    | none => rfl
    | some u =>
     obtain ⟨t,ht,e1,_⟩:=tbOf_some q;have e2:=(hT t ht).2;rw [<- e1,e] at e2;exact absurd (Option.some.inj e2) hn
  have nsK:∀ {b:Addr} {m:Str -> Option Value},s₁.heap.Ns b m -> (hidT s₁.heap H).Ns b m:=fun {b m} ⟨o,es,ep,e,d,r⟩ => ⟨o,es,ep,hidT_get e (free e (fun z => by rw [z] at d;cases d) fun z => by rw [z,ha] at e;cases e;cases d),d,r⟩
  have hKb:K.In (hidT s₁.heap H):=fun b o e => hidT_get (KX b o e) (free (KX b o e) (fun z => by
    have h2:=List.all_eq_true.mp L.nt (b,o) (PySem.W.mem_of_lookupK e);subst z;exact absurd (show false = true from h2) Bool.false_ne_true) fun z => by
    cases q:S with
    | none => rfl
    | some u => rw [z,hK (by rw [q];simp)] at e;cases e)
  have hcd:∀ t ∈ lamTabs K,PySem.W.CodeHd (hidT s₁.heap H) t.1 t.2.1:=fun t ht => by
   obtain ⟨o,us,fl,tf,fg,tg,inF,tx,tt,e1,e2,r⟩:=(hT t ht).1;exact ⟨o,us,fl,tf,fg,tg,inF,tx,tt,hidT_get e1 (free e1 (fun z => by rw [z] at e2;cases e2) fun z => by rw [z,ha] at e1;cases e1;exact absurd (Value.type.inj e2) (by decide)),e2,r⟩
  have hbm':BmAt mg (hidT s₁.heap H):=by
   obtain ⟨bm,ob,b1,b2,b3,b4,b5⟩:=hbm;exact ⟨bm,ob,b1,b2,hidT_get b3 (free b3 (fun z => by rw [z] at b4;cases b4) fun z => by rw [z,ha] at b3;cases b3;exact absurd (Value.type.inj b4) (by decide)),b4,b5⟩
  have hok:HOk P w H s₁.heap:=fun b u e => by
   by_cases z:b = a
   ·rw [z,hA] at e;rcases hS with h0 | h0
    ·rw [h0] at e;cases e
    ·rw [h0] at e;cases e;subst z;exact ⟨ha,by rw [List.length_map];exact hl,vs,_,rv,ha⟩
   ·rw [hB b z] at e;obtain ⟨t,ht,e1,e2⟩:=tbOf_some e;subst e2;exact ⟨#[],by rw [e1];exact (hT t ht).2,trivial,fun pos cv c => by cases (show (none:Option Value) = some cv from c)⟩
  have hM:Mod K mg (hidT s₁.heap H):=⟨hKb,nsK hns,⟨mb,nsK hb,hbb⟩,let ⟨mc,h1,h2⟩:=hlim;⟨mc,nsK h1,h2⟩,hcd,hbm'⟩
  have e0:Env0 P w K mg (hidT s₁.heap H) callerA [] s₁ H:=⟨rfl,hM,fun b o e => of_hidT e,Nat.le_of_eq (hidT_size _ _),trivial,fun b hb => absurd (show b ∈ ([]:List Addr) from hb) (by simp),hok,.of_eq hg,fun t ht => ⟨#[],by
   rw [hB _ (naT t ht),tbOf_mem L.nd ht,Array.append_empty]⟩⟩
  refine codeAny_mono ((F _ hKb (nsK hns)).run callerA [] s₁ H ⟨[.ref a],[]⟩ [.ref a] [.ref a] _ _ hr e0 (hbind s₁ (.ref a)) (.cons rfl .nil) (hsp H trivial hSq)) fun r s' h => ?_
  cases r with
  | error e => exact (hCX H e s' h).elim
  | ok fl =>
   cases fl with
   | next => exact False.elim h
   | brk => exact False.elim h
   | cont => exact False.elim h
   | ret u =>
    obtain ⟨v,H',os,bare,un,hok',r',qv⟩:=h;have q':v = .bl true:=qv;subst q';obtain rfl:u = Value.bool true:=r';have each:∀ b o,s₁.heap.get? b = some o -> s'.heap.get? b = some o \/ ∃ c,PySem.W.CodeHd s₁.heap c b /\ o = PySem.W.tabObj #[] /\ ∃ ps,s'.heap.get? b = some (PySem.W.tabObj ps):=fun b o e => by
     cases qb:H b with
     | none => exact .inl (un.keep b o e qb (by intro z;exact absurd (show b ∈ ([]:List Addr) from z) (by simp)) (by simp))
     | some u =>
      by_cases z:b = a
      ·rw [z,hA] at qb;rcases hS with h0 | h0
       ·rw [h0] at qb;cases qb
       ·have z2:=un.frzs a oS _ (by rw [hA,h0])
        obtain ⟨e2,_⟩:=hok' a _ z2;rw [z,ha] at e;cases e;exact .inl (by rw [z];exact e2)
      ·have qt:=qb;rw [hB b z] at qt;obtain ⟨t,ht,e1,e2⟩:=tbOf_some qt;obtain ⟨h1,h2⟩:=hT t ht;rw [<- e1] at h1 h2;rw [e] at h2;cases h2;subst e2;obtain ⟨more,e3⟩:=un.tbls b _ qb;obtain ⟨qs,e4,_⟩:=hok' b _ e3;exact .inr ⟨_,h1,rfl,qs,e4⟩
    refine ⟨rfl,⟨fun b o e => ?_,fun b o e => ?_⟩,os,bare⟩
    ·rcases each b o e with z | ⟨c,hc,z,ps,hp⟩
     ·exact .inl z
     ·subst z;exact .inr (.inl ⟨(hc.tab e).isCodeTable,rfl,#[],ps,rfl,by rw [Array.empty_append];exact hp⟩)
    ·rcases each b o e with z | ⟨c,hc,z,ps,hp⟩
     ·exact ⟨o,z⟩
     ·exact ⟨_,hp⟩
 cases hk:K.lookup a with
 | some o =>
  have e:=KX a o hk;rw [ha] at e;cases e;exact core none (.inl rfl) (fun z => absurd rfl z) (.inr ⟨_,vs.toArray,_,hk,rfl,rfl,rfl,by rw [List.size_toArray,lenV];exact hl,by simpa using rv⟩)
 | none => exact core (some (.frz oS (.lst (ns.map V.int)))) (.inr rfl) (fun _ => hk) (.inl (.inr ⟨oS,if_pos rfl⟩))
theorem walk_of {l:PySem.W.OpenLaw} {n k:Nat} {q:Program} {loose:List Str} {XP:(Str -> Option Value) -> Heap -> Prop} {YP:World -> Heap -> Prop} {d:DefRec} {K:Params -> PySem.W.Frag} {CX:World -> CXT} {sp:World -> Sp} {x:Str}
  (hn:l.most = some n) (hn2:n <= sizeLine) (hdf:d.params.defaults = []) (hr:Room k callerA)
  (hY:∀ (w:World) (h:Heap),YP w h -> (K w.params).In h)
  (F:∀ (w:World) (mg:Str -> Option Value) (fa:Addr) (h:Heap),(K w.params).In h -> h.Ns mainGlobals mg -> mg d.name = some (.ref fa) ->
   ∃ fd:FuncData,(∀ (s:Shared) (u:Value),BindsTo s fd ⟨[u],[]⟩ [(x,u)]) /\
    ∀ base:Heap,(K w.params).In base -> base.Ns mainGlobals mg -> FnOk l.prog w (K w.params) mg base (CX w) k fa fd [x] (sp w))
  (hsp:∀ (w:World) (H:Hp) (a:Addr) (ns:List Int),ns.length <= n -> True -> SqL (K w.params) H a (ns.map V.int) -> sp w [.ref a] H (fun v _ => v = .bl true) fun _ _ _ => False)
  (hCX:∀ (w:World) (H:Hp) (s:Shared) (e:Value) (s':Shared),CX w [] H s (fun _ _ _ => False) e s' -> False) (hL:∀ (w:World) (h:Heap),(K w.params).In h -> LamOk q (K w.params)) :
  PySem.W.WalkO q loose XP YP l.row.toRowW d [] (fun f vs => PySem.call f vs):=by
 refine Att.attach_call hn hdf fun w s₀ s₁ mg mb fa o pm cd doc a vs ns G Y ho hd hcd hmg hobj hints hlen hg => ?_;have KX:=hY w _ Y;obtain ⟨fd,hb,hF⟩:=F w mg fa _ KX G.T.g hmg;have L:=hL w _ KX;exact law_call KX G.T.g G.T.b G.T.builtins G.T.nolimit G.T.bmain (L.at G.T KX) L hg hobj hints (Nat.le_trans hlen hn2) hr hF hb (fun H hO hS => hsp w H a ns hlen hO hS) fun H e s' => hCX w H s₁ e s'
def inClass (s:Stmt) (j:Nat):Stmt:=match s with
 | .ClassDef _ _ _ body _ _ _ _ _ _ _ => body.getD j (.Pass ⟨0,0,0,0⟩)
 | _ => .Pass ⟨0,0,0,0⟩
def defArgs (s:Stmt):Arguments:=match s with
 | .FunctionDef _ a _ _ _ _ _ _ _ _ => a
 | _ => { posonlyargs:=[],args:=[],vararg:=none,kwonlyargs:=[],kw_defaults:=[],kwarg:=none,defaults:=[] }
def defBody (s:Stmt):List Stmt:=match s with
 | .FunctionDef _ _ b _ _ _ _ _ _ _ => b
 | _ => []
def defScope (s:Stmt):Scope:=match s with
 | .FunctionDef _ _ _ _ _ _ sc _ _ _ => sc
 | _ => { kind:=.function,names:=[],isGenerator:=false,isCoroutine:=false }
noncomputable abbrev CX0:CXT:=fun _ _ _ _ _ _ => False
noncomputable abbrev E0:XK:=fun _ _ _ => False
theorem pass0 {X:Cx}:Passes CX0 X E0:=fun _ _ _ _ _ _ _ h => h.elim
structure Fun (K:PySem.W.Frag) (x qual:Str) (st:Stmt) (f:Addr) (fd:FuncData):Prop where
 ex:∃ (oc:Value) (od:Option Addr) (kV doc pm:Value) (an:Option Addr) (cdv ct:Value) (osl:Array (Option Value)),
  fd = PySem.W.fnOf x qual (defArgs st) (defBody st) (defScope st) .none kV doc pm an cdv ct /\ K.lookup f = some ⟨oc,od,.func fd,osl⟩ /\ PySem.W.codeIn K cdv qual = true
 kp:PySem.W.keepIn K (.ref f) = true
section
variable {P:Program} {w:World} {K:PySem.W.Frag} {mg:Str -> Option Value} {base:Heap}
theorem Fun.ok {x qual:Str} {st:Stmt} {f:Addr} {fd:FuncData} {N ps:List Str} {k:Nat} {sp:Sp} (F:Fun K x qual st f fd) (S:FnScope N ps (defScope st)) (len:∀ vs H Q E,sp vs H Q E -> vs.length = ps.length)
  (hbody:∀ (cdv:Value) (A:Around) (outer:List Env) (s:Shared) (H:Hp) (vs:List V) (Q:VK) (E:XK),Room k (A.deeper (envOfC qual (defScope st) s.heap.objs.size f cdv)) -> sp vs H Q E ->
   ∃ t,PSs (cxOf CX0 P w K mg base N qual (defScope st) f cdv A outer s H E).nox (defBody st) t /\ t { nx:=fun _ H' => Q .non H',rt:=Q } (start N vs) H):FnOk P w K mg base CX0 (k + 1) f fd ps sp:=by
 obtain ⟨oc,od,kV,doc,pm,an,cdv,ct,osl,rfl,lk,hcd⟩:=F.ex;refine fn_of lk hcd S len fun A outer s H vs Q E hr hsp => ?_;obtain ⟨t,h,q⟩:=hbody cdv A outer s H vs Q E hr hsp;exact ⟨t,h.nox,q⟩
theorem Fun.binds {x qual:Str} {st:Stmt} {f:Addr} {fd:FuncData} {ps:List Str} (F:Fun K x qual st f fd)
  (h:∀ (kV doc pm:Value) (an:Option Addr) (cdv ct:Value) (us:List Value),us.length = ps.length -> bindArgs (PySem.W.fnOf x qual (defArgs st) (defBody st) (defScope st) .none kV doc pm an cdv ct) ⟨us,[]⟩ = pure (ps.zip us)):Binds K fd ps []:=by
 obtain ⟨oc,od,kV,doc,pm,an,cdv,ct,osl,rfl,lk,hcd⟩:=F.ex;exact .all (h kV doc pm an cdv ct)
theorem fun_mk {x qual:Str} {st:Stmt} {f:Addr} {oc:Value} {od an:Option Addr} {osl:Array (Option Value)} {kV doc pm cdv ct:Value} (l:K.lookup f = some ⟨oc,od,.func (PySem.W.fnOf x qual (defArgs st) (defBody st) (defScope st) .none kV doc pm an cdv ct),osl⟩)
  (c:PySem.W.codeIn K cdv qual = true) (k:PySem.W.keepIn K (.ref f) = true):Fun K x qual st f (PySem.W.fnOf x qual (defArgs st) (defBody st) (defScope st) .none kV doc pm an cdv ct):=⟨⟨oc,od,kV,doc,pm,an,cdv,ct,osl,rfl,l,c⟩,k⟩
end
theorem hu_of {A:Around} {k:Nat} (hr:Room k A):A.units + 1 < cLine:=Nat.lt_of_le_of_lt (Nat.add_le_add_left (by decide:1 <= 64) _) hr.units
section
variable {X:Cx}
theorem pv (i:Nat) {x:Str} {pos:Pos} (hN:autoParam (X.N[i]? = some x) L2.aRfl._auto_1) (hv:Vis X.env.scope x:=by first | exact Or.inl rfl | exact Or.inr (Or.inl rfl) | exact Or.inr (Or.inr rfl)) (hd:autoParam ((x == ("__debug__":Str)) = false) L2.aDec._auto_1)
  (hcd:autoParam ((x == ("__classdict__":Str)) = false) L2.aDec._auto_1):PE X (.Name x pos) (tVar i):=pe_var hN hv hd hcd
end
def Same (H H':Hp):Prop:=∀ b o,H b = some o -> H' b = some o
theorem Same.refl (H:Hp):Same H H:=fun _ _ h => h
section
variable {κ:Type} [DecidableEq κ]
theorem valV_in {kvs:List (κ × V)} {k:κ} {v:V} (h:valV kvs k = some v):k ∈ kvs.map (·.1):=by
 have q:(kvs.any fun kv => decide (kv.1 = k)) = true:=by
  rw [valV_any,h]
  all_goals rfl
 obtain ⟨p,hp,e⟩:=List.any_eq_true.mp q;exact List.mem_map.mpr ⟨p,hp,of_decide_eq_true e⟩
end
def closL (cells:List (Str × Addr)):List (Str × NameKind) -> List (Str × Addr) -> List (Str × Addr)
 | [],acc => acc
 | (n,k) :: r,acc => if k = .free then closL cells r ((n,(cells.lookup n).getD 0) :: acc) else closL cells r acc
theorem closureFor_eq {scope:Scope} {env:Env} (h:∀ x ∈ scope.names,x.2 = .free -> ∃ c,env.cells.lookup x.1 = some c):closureFor scope env = pure (closL env.cells scope.names []):=by
 have all:∀ (l:List (Str × NameKind)) (acc:List (Str × Addr)),(∀ x ∈ l,x.2 = .free -> ∃ c,env.cells.lookup x.1 = some c) ->
   (forIn l acc fun (x:Str × NameKind) (cs:List (Str × Addr)) => (match x with | (name,kind) => if (kind == NameKind.free) = true then (do let c <- cellOf env name;pure (ForInStep.yield ((name,c) :: cs))) else pure (ForInStep.yield cs):Sem (ForInStep (List (Str × Addr))))) = (pure (closL env.cells l acc):Sem (List (Str × Addr))):=by
  intro l
  induction l with
  | nil => intro acc _;rfl
  | cons x r ih =>
   intro acc hl;obtain ⟨n,k⟩:=x;rw [List.forIn_cons];by_cases hk:k = .free
   ·subst hk;obtain ⟨c,hc⟩:=hl (n,.free) List.mem_cons_self rfl;have e:cellOf env n = pure c:=by unfold cellOf;rw [hc]
    simp only [beq_self_eq_true,if_true,e,closL,pure_bind];rw [ih _ fun y hy => hl y (List.mem_cons_of_mem _ hy),hc];rfl
   ·have hb:(k == NameKind.free) = false:=by simpa using hk
    simp only [hb,Bool.false_eq_true,if_false,closL,hk,pure_bind];exact ih _ fun y hy => hl y (List.mem_cons_of_mem _ hy)
 unfold closureFor;simp only [bind_pure];exact all scope.names [] h
theorem closL_sub {cells:List (Str × Addr)}:∀ {l:List (Str × NameKind)} {acc:List (Str × Addr)},(∀ x ∈ l,x.2 = .free -> ∃ c,cells.lookup x.1 = some c) -> (∀ x c,acc.lookup x = some c -> cells.lookup x = some c) ->
  ∀ x c,(closL cells l acc).lookup x = some c -> cells.lookup x = some c
 | [],_,_,h,x,c,e => h x c e
 | (n,k) :: r,acc,hl,h,x,c,e => by
  unfold closL at e;have hr:∀ y ∈ r,y.2 = .free -> ∃ c,cells.lookup y.1 = some c:=fun y hy => hl y (List.mem_cons_of_mem _ hy)
  split at e
  ·rename_i hk;refine closL_sub hr (fun y d q => ?_) x c e;rw [List.lookup_cons] at q
   split at q
   ·rename_i hy;obtain ⟨c',hc'⟩:=hl (n,k) List.mem_cons_self hk;have hy':y = n:=by simpa using hy
    subst hy';simp only [] at hc';rw [hc'] at q ⊢;exact q
   ·exact h y d q
  ·exact closL_sub hr h x c e
theorem closL_acc {cells:List (Str × Addr)} {x:Str}:∀ {l:List (Str × NameKind)} {acc:List (Str × Addr)},(∃ c,acc.lookup x = some c) -> ∃ c,(closL cells l acc).lookup x = some c
 | [],_,h => h
 | (n,k) :: r,acc,h => by
  unfold closL;split
  ·refine closL_acc ?_;rw [List.lookup_cons];split
   ·exact ⟨_,rfl⟩
   ·exact h
  ·exact closL_acc h
theorem closL_has {cells:List (Str × Addr)} {x:Str}:∀ {l:List (Str × NameKind)} {acc:List (Str × Addr)},(x,NameKind.free) ∈ l -> ∃ c,(closL cells l acc).lookup x = some c
 | [],_,h => by simp at h
 | (n,k) :: r,acc,h => by
  unfold closL;rcases List.mem_cons.mp h with e | h
  ·cases e;rw [if_pos rfl];exact closL_acc ⟨(cells.lookup x).getD 0,by rw [List.lookup_cons];simp⟩
  ·split
   ·exact closL_has h
   ·exact closL_has h
def cxComp (X:Cx) (scope:Scope) (N:List Str) (C:Addr) (s:Shared) (H:Hp) (fp:List Addr):Cx where
 prog:=X.prog
 w:=X.w
 K:=X.K
 mg:=X.mg
 base:=X.base
 A:=X.A
 N:=N
 s₀:=s
 H₀:=H
 env:=compEnvC scope (closL X.env.cells scope.names []) C X.env
 outer:=X.stack
 stack:=X.stack
 ex:=fp
 calm:=X.calm
 fn:=fun _ => false
 pn:=[]
 xe:=fun _ _ => False
structure CompScope (osc:Scope) (ON:List Str) (scope:Scope) (own N:List Str):Prop where
 kind:scope.kind = .function
 nd:N.Nodup
 len:N.length = own.length + ON.length
 nocell:∀ y ∈ scope.names,y.2 ≠ .cell
 loc:∀ y ∈ scope.names,y.2 = .local -> scope.names.lookup y.1 = some .local
 free:∀ y ∈ scope.names,y.2 = .free -> osc.names.lookup y.1 = some .cell \/ osc.names.lookup y.1 = some .free
 out:∀ p ∈ ON.zip (N.drop own.length),p.1 = p.2 \/ scope.names.lookup p.2 = none
 own:∀ x ∈ N.drop own.length,scope.names.lookup x ≠ some .local
theorem relabel_lookup {scope:Scope} {env:Env} (x:Str) (hn:∀ y ∈ scope.names,y.2 ≠ .cell):((relabel scope env).names.lookup x = some .local -> scope.names.lookup x = some .local) /\
  ((relabel scope env).names.lookup x = some .cell \/ (relabel scope env).names.lookup x = some .free -> scope.names.lookup x = some .free):=by
 unfold relabel;simp only;revert hn;generalize scope.names = l;intro hn
 induction l with
 | nil => simp
 | cons y r ih =>
  obtain ⟨n,k⟩:=y;have ih:=ih fun y hy => hn y (List.mem_cons_of_mem _ hy);have hk:k ≠ .cell:=hn (n,k) List.mem_cons_self;rw [List.map_cons];simp only;by_cases hc:(k == NameKind.free && env.scope.kind == ScopeKind.function && env.kindOf n == some NameKind.cell) = true
  ·rw [if_pos hc,List.lookup_cons,List.lookup_cons];have hf:k = .free:=by
    simp only [Bool.and_eq_true] at hc
    simpa using hc.1.1
   split
   ·subst hf;simp
   ·exact ih
  ·rw [if_neg hc,List.lookup_cons,List.lookup_cons];split
   ·constructor
    ·exact fun h => h
    ·rintro (h | h)
     ·exact absurd (Option.some.inj h) hk
     ·exact h
   ·exact ih
def PTs (X:Cx) (ifs:List Expr) (t:TT):Prop :=
 ∀ (pins:List (Addr × Obj)) (s:Shared) (σ:St) (H:Hp) (Q:Bool -> Hp -> Prop),Inv X pins σ H s -> t σ H Q ->
  wpAny (model X.prog X.w) X.A (forIn ifs true fun c r => if r = true then do let ok <- isTrue c X.env (eval c X.env);pure (ForInStep.yield ok) else pure (ForInStep.yield r)) (TP X pins σ Q) X.xe s
def tTrue:TT:=fun _ H Q => Q true H
theorem pts_nil {X:Cx}:PTs X [] tTrue:=fun _ _ _ H _ I h => wpAny_tests_nil ⟨H,I,h⟩
theorem pts_one {X:Cx} {c:Expr} {t:TT} (h:PT X c t):PTs X [c] t:=fun pins s σ H Q I hw => wpAny_tests_one (h pins s σ H Q I hw)
theorem compLoop_any {prog:Program} {w:World} {A:Around} {R:Result -> Shared -> Prop} {s:Shared} {elt target iter:Expr} {ifs:List Expr} {scope:Scope} {pos:Pos} {it acc:Value} {env:Env} (I:Nat -> Shared -> Prop)
  (turn:∀ n s,I n s -> wpAny (model prog w) A (pyNext it) (fun r s₁ => match r with
   | none => R (.ok .next) s₁
   | some v => wpAny (model prog w) A (letOwnedTupleGo target it v) (fun _ s₁' => wpAny (model prog w) A (assign target env v) (fun _ s₂ =>
     wpAny (model prog w) A (forIn ifs true fun c r => if r = true then do let ok <- isTrue c env (eval c env);pure (ForInStep.yield ok) else pure (ForInStep.yield r)) (fun ok s₃ =>
      if ok = true then wpAny (model prog w) A (eval elt env) (fun x s₄ =>
       wpAny (model prog w) A (call (.builtin "list.append") [acc,x]) (fun _ s₅ => ∃ m,m < n /\ I m s₅) (fun _ _ => False) s₄) (fun _ _ => False) s₃
      else ∃ m,m < n /\ I m s₃) (fun _ _ => False) s₂) (fun _ _ => False) s₁') (fun _ _ => False) s₁) (fun _ _ => False) s)
  (n:Nat) (h:I n s):codeAny (model prog w) A (.compLoop (.ListComp elt [⟨target,iter,ifs,0⟩] scope pos) 0 it acc env) R s:=by
 refine codeAny_loop rfl I (fun n s hI => ?_) n h;show wpAny _ A ((compTurn (.ListComp elt [⟨target,iter,ifs,0⟩] scope pos) 0 it acc env).onRaise (fun x => do noteFrame x env;theTreesLotGoes x)) _ _ s
 refine wpAny_noted ?_;rw [compTurn_list];refine wpAny_bind (wpAny_standAt (wpAny_bind (wpAny_mono (turn n s hI) (fun r s₁ h₁ => ?_) fun _ _ h' => h'.elim)))
 cases r with
 | none => exact wpAny_pure h₁
 | some v =>
  refine wpAny_bind (wpAny_mono h₁ (fun _ s₁' h₁' => ?_) fun _ _ h' => h'.elim);refine wpAny_bind (wpAny_mono h₁' (fun _ s₂ h₂ => wpAny_bind (wpAny_mono h₂ (fun ok s₃ h₃ => ?_) fun _ _ h' => h'.elim)) fun _ _ h' => h'.elim)
  cases ok with
  | false => exact wpAny_pure ⟨rfl,h₃⟩
  | true =>
   exact wpAny_bind (wpAny_bind (wpAny_mono h₃ (fun x s₄ h₄ => wpAny_bind (wpAny_mono h₄ (fun _ s₅ h₅ => wpAny_pure (wpAny_pure ⟨rfl,h₅⟩)) fun _ _ h' => h'.elim)) fun _ _ h' => h'.elim))
def tComp (wi:TI) (k:Nat) (g:TG) (tc:TT) (te:TE):TE:=fun σ H Q => wi σ H fun J H1 => ∀ D,H1 D = none ->
 ∃ W:Nat -> Nat -> List V -> St -> Hp -> Prop,(∃ m,W 0 m [] (List.replicate k none ++ σ) (upd H1 D (.lst []))) /\ ∀ i m ys σ' H',W i m ys σ' H' -> H' D = some (.lst ys) /\
  ((J.stop i H' /\ Q (.ref D) H') \/ (J.go i H' /\ ys.length < sizeLine /\ ∀ x H2,J.yld i H' x H2 -> g x σ' H2 fun σ3 H3 => tc σ3 H3 fun b H4 =>
   if b = true then te σ3 H4 fun v H5 => H5 D = some (.lst ys) /\ ∃ m',m' < m /\ W (i + 1) m' (ys ++ [v]) σ3 (upd H5 D (.lst (ys ++ [v])))
   else ∃ m',m' < m /\ W (i + 1) m' ys σ3 H4))
theorem comp_core {X:Cx} {osc scope:Scope} {ON own N:List Str} {tg iter elt:Expr} {ifs:List Expr} {pos:Pos} {wi:TI} {g:TG} {tc:TT} {te:TE} (S:CompScope osc ON scope own N) (hosc:X.env.scope = osc) (hON:X.N = ON) (hc:X.calm = true) (hi:PI X tg iter wi)
  (hg:∀ C s H fp,PG (cxComp X scope N C s H fp) tg g) (ht:∀ C s H fp,PTs (cxComp X scope N C s H fp) ifs tc) (he:∀ C s H fp,PE (cxComp X scope N C s H fp) elt te)
  {pins:List (Addr × Obj)} {σ:St} {H:Hp} {s:Shared} {Q:VK} (I:Inv X pins σ H s) (h:tComp wi own.length g tc te σ H Q) {RR:Value -> Addr -> Result -> Shared -> Prop}
  (fin:∀ (D C:Addr) (H':Hp) (s':Shared) (m:Str -> Option Value),Inv X pins σ H' s' -> Q (.ref D) H' -> H' C = none -> X.s₀.heap.objs.size <= C -> C ≠ X.env.locals -> (∀ x c,X.env.cells.lookup x = some c -> c ≠ C) -> (∀ p ∈ X.pn ++ pins,p.1 ≠ C) ->
   s'.heap.Ns C m -> RR (.ref D) C (.ok .next) s') :
  wpAny (model X.prog X.w) X.A (eval iter X.env) (fun x s₁ => wpAny (model X.prog X.w) X.A (pyIter x) (fun it s₂ => wpAny (model X.prog X.w) X.A (newList []) (fun acc s₃ =>
   wpAny (model X.prog X.w) X.A (newFunctionEnv scope X.env.globals (closL X.env.cells scope.names []) [] X.env.qual none .none (some X.env)) (fun cenv s₄ =>
    codeAny (model X.prog X.w) X.A (.compStart (.ListComp elt [⟨tg,iter,ifs,0⟩] scope pos) 0 it acc { cenv with scope:=relabel scope X.env }) (RR acc cenv.locals) s₄) X.xe s₃) X.xe s₂) X.xe s₁) X.xe s:=by
 refine thn (hi pins s σ H _ I h) fun v s1 h1 => thn h1 fun itv s2 h2 => ?_;obtain ⟨it,fp,tn,J,H2,e,I2,T,st2,f2,q⟩:=h2;subst e;refine wpAny_newObj_type (wpAny_newFunctionEnv S.nocell (by intro y hy;simp at hy) (fun h₁ hns₁ hsb₁ => ?_) S.kind)
 dsimp only at hns₁ hsb₁ ⊢;have I3:Inv X pins σ (upd H2 s2.heap.objs.size (.lst [])) { s2 with heap:=s2.heap.push { cls:=.type "list",data:=.seq ([]:List Value).toArray },toks:=s2.toks }:=I2.lnew (t':=s2.toks) .nil (Nat.zero_le _)
 have hD2:H2 s2.heap.objs.size = none:=I2.fresh;obtain ⟨W,⟨m0,w0⟩,turn⟩:=q _ hD2;generalize hs3:({ s2 with heap:=s2.heap.push { cls:=.type "list",data:=.seq ([]:List Value).toArray },toks:=s2.toks }:Shared) = s3 at I3
 have eh3:s3.heap = s2.heap.push { cls:=.type "list",data:=.seq ([]:List Value).toArray }:=by rw [<- hs3]
 generalize hD:s2.heap.objs.size = D at I3 turn w0 hD2 ⊢;generalize hH3:upd H2 D (.lst []) = H3 at I3 w0;rw [<- eh3] at hns₁ hsb₁ ⊢;have hC3:H3 s3.heap.objs.size = none:=I3.fresh;have hsz3:s3.heap.objs.size = D + 1:=by rw [eh3,Heap.size_push,hD]
 have fp2:∀ b ∈ fp,b < s2.heap.objs.size:=fun b hb => by
  obtain ⟨o,e,_⟩:=T.obj _ _ st2 b hb;exact Heap.lt_size e
 have f3:∀ b ∈ fp,FpOk X pins H3 b:=fun b hb => by
  obtain ⟨g0,g1⟩:=f2 b hb;refine ⟨?_,g1⟩;rw [<- hH3,upd_ne (by rw [<- hD];exact Nat.ne_of_lt (fp2 b hb))]
  exact g0
 have neC:∀ b o,s3.heap.get? b = some o -> b ≠ s3.heap.objs.size:=fun b o e => Nat.ne_of_lt (Heap.lt_size e);have old:∀ b o,s3.heap.get? b = some o -> h₁.get? b = some o:=fun b o e => hsb₁.extBut b o (neC b o e) (Heap.get?_push_of_some _ e);have hk:=S.kind;have hfr:∀ y ∈ scope.names,y.2 = .free -> ∃ c,X.env.cells.lookup y.1 = some c:=fun y hy hf => I3.ok.has _ (by subst hosc;exact S.free y hy hf)
 have sub:=closL_sub (acc:=[]) hfr (by intro x c e;simp at e)
 have JB:∀ tk,Inv (cxComp X scope N s3.heap.objs.size s3 H3 fp) [] (List.replicate own.length none ++ σ) H3 { s3 with heap:=h₁,toks:=tk }:=fun tk => by
  refine ⟨⟨I3.ok.mod,S.kind,I3.ok.glob,I3.ok.blt,Nat.le_refl _,fun x y c e1 e2 => I3.ok.inj x y c (sub x c e1) (sub y c e2),fun x hx => ?_,fun x c hf _ => (by cases hf),I3.ok.hd,I3.ok.frames,.inl rfl,fun b hb => ?_,I3.bs,Nat.le_trans I3.ok.bsz I3.sz,fun b o e hb => ?_,fun b hb hf => ?_,I3.stack,I3.stkFree,I3.ok.tabs.un I3.base⟩,
   rfl,I3.bare,Un.kept old,⟨_,hns₁,fun i x v e1 e2 e3 => ?_⟩,fun x c e => ?_,hC3,fun x c e => I3.freeC x c (sub x c e),fun p hp => absurd (show p ∈ ([]:List (Addr × Obj)) from hp) (by simp),I3.hok.kept old,?_⟩
  ·have q:=(relabel_lookup (env:=X.env) x S.nocell).2 hx;exact closL_has (PySem.mem_of_lookup q)
  ·have hb:b ∈ fp:=hb;obtain ⟨_,g1,g2,g3,g4,g5⟩:=f3 b hb;refine ⟨?_,fun x c e => g4 x c (sub x c e)⟩;have:=fp2 b hb;show b ≠ s3.heap.objs.size;rw [hsz3,<- hD];exact Nat.ne_of_lt (Nat.lt_succ_of_lt this)
  ·have hb:b ∈ fp:=hb;obtain ⟨_,g1,g2,g3,g4,g5⟩:=f3 b hb;rcases g3 with g3 | g3
   ·exact I3.ok.noex b o e g3
   ·exact absurd (Nat.lt_of_lt_of_le (Heap.lt_size e) (Nat.le_trans I3.ok.bsz g3)) (Nat.lt_irrefl _)
  ·have hb:b ∈ fp:=hb;obtain ⟨_,g1,g2,g3,g4,g5⟩:=f3 b hb;rcases List.mem_cons.mp (I3.stkSub b hf) with z | z
   ·exact g1 z
   ·exact g2 z
  ·have hi:own.length <= i:=by
    rcases Nat.lt_or_ge i own.length with hlt | hge
    ·rw [List.getElem?_append_left (by simpa using hlt),List.getElem?_replicate] at e2
     split at e2 <;> cases e2
    ·exact hge
   rw [List.getElem?_append_right (by simpa using hi),List.length_replicate] at e2
   have e1:N[own.length + (i - own.length)]? = some x:=by rw [Nat.add_sub_cancel' hi];exact e1
   have e1d:(N.drop own.length)[i - own.length]? = some x:=by rw [List.getElem?_drop];exact e1
   have nl:scope.names.lookup x ≠ some .local:=S.own x (List.mem_of_getElem? e1d);have vis:scope.names.lookup x = some .free:=by
    rcases e3 with z | z
    ·exact absurd ((relabel_lookup (env:=X.env) x S.nocell).1 z) nl
    ·exact (relabel_lookup (env:=X.env) x S.nocell).2 z
   have hlen:=I3.len;have hlt:i - own.length < X.N.length:=by
    rw [<- hlen];exact (List.getElem?_eq_some_iff.mp e2).1
   have hxN:X.N[i - own.length]? = some x:=by
    rw [List.getElem?_eq_getElem hlt];have mz:(X.N[i - own.length],x) ∈ ON.zip (N.drop own.length):=by
     rw [<- hON];refine List.mem_of_getElem? (i:=i - own.length) ?_;rw [List.getElem?_zip_eq_some];exact ⟨List.getElem?_eq_getElem hlt,e1d⟩
    rcases S.out _ mz with z | z
    ·exact congrArg some z
    ·exact absurd z (by rw [vis];simp)
   have hko:X.env.scope.names.lookup x = some .cell \/ X.env.scope.names.lookup x = some .free:=by subst hosc;exact S.free _ (PySem.mem_of_lookup vis) rfl
   obtain ⟨m,hn,hl⟩:=I3.loc;have hv:Vis X.env.scope x:=by
    rcases hko with z | z
    ·exact .inr (.inl z)
    ·exact .inr (.inr z)
   obtain ⟨u,ru,lk⟩:=hl _ x v hxN e2 hv;refine ⟨u,ru,.inr ⟨?_,?_⟩⟩
   ·rcases e3 with z | z
    ·exact absurd ((relabel_lookup (env:=X.env) x S.nocell).1 z) nl
    ·exact z
   ·rcases lk with ⟨k,_⟩ | ⟨_,c,ec,hcell⟩
    ·exfalso
     have k':X.env.scope.names.lookup x = some .local:=k;rcases hko with z | z
     ·rw [k'] at z;cases z
     ·rw [k'] at z;cases z
    ·obtain ⟨c',ec'⟩:=closL_has (cells:=X.env.cells) (acc:=[]) (PySem.mem_of_lookup vis);have:=sub x c' ec';rw [ec] at this;cases this;obtain ⟨o,ho,hd⟩:=hcell;exact ⟨c,ec',o,old c o ho,hd⟩
  ·obtain ⟨v,o,ho,hd⟩:=I3.cell x c (sub x c e);exact ⟨v,o,old c o ho,hd⟩
  ·show (List.replicate own.length none ++ σ).length = N.length;rw [S.len,List.length_append,List.length_replicate,I3.len,hON]
 have stat:∀ {H':Hp},(∀ b ∈ fp,H' b = none) -> ∀ b ∈ fp,FpOk (cxComp X scope N s3.heap.objs.size s3 H3 fp) [] H' b:=fun {H'} hn b hb => by
  obtain ⟨_,g1,g2,g3,g4,g5⟩:=f3 b hb;refine ⟨hn b hb,?_,fun hf => ?_,.inl hb,fun x c e => g4 x c (sub x c e),fun p hp => absurd (show p ∈ ([]:List (Addr × Obj)) from hp) (by simp)⟩
  ·have:=fp2 b hb;show b ≠ s3.heap.objs.size;rw [hsz3,<- hD];exact Nat.ne_of_lt (Nat.lt_succ_of_lt this)
  ·rcases List.mem_cons.mp (I3.stkSub b hf) with z | z
   ·exact g1 z
   ·exact g2 z
 have st4:tn 0 h₁:=T.keep _ _ _ st2 fun b hb o e => old b o (by rw [eh3];exact Heap.get?_push_of_some _ e)
 have loop:∀ s4:Shared,s4 = { s3 with heap:=h₁,toks:=s2.toks + ([]:List (Str × Value)).length } ->
   codeAny (model X.prog X.w) X.A (.compLoop (.ListComp elt [⟨tg,iter,ifs,0⟩] scope pos) 0 (.ref it) (.ref D) (cxComp X scope N s3.heap.objs.size s3 H3 fp).env) (RR (.ref D) s3.heap.objs.size) s4:=by
  rintro s4 rfl;refine compLoop_any (fun n s' => ∃ i ys σ' H',Inv (cxComp X scope N s3.heap.objs.size s3 H3 fp) [] σ' H' s' /\ tn i s'.heap /\ (∀ b ∈ fp,H' b = none) /\ W i n ys σ' H') ?_ m0 ⟨0,[],_,H3,JB _,st4,fun b hb => (f3 b hb).1,w0⟩;rintro n s5 ⟨i,ys,σ5,H5,I5,st5,fr5,w5⟩;obtain ⟨hD5,ways⟩:=turn i n ys σ5 H5 w5;rcases ways with ⟨stop,qn⟩ | ⟨go,hys,step⟩
  ·refine thn (T.done (cxComp X scope N s3.heap.objs.size s3 H3 fp) rfl rfl rfl hc i [] s5 σ5 H5 _ I5 (stat fr5) st5 stop) fun r s6 ⟨hr,I6⟩ => ?_;subst hr;obtain ⟨m,hn,_⟩:=I6.loc;refine fin D _ H5 s6 m ?_ qn I6.free (Nat.le_trans I3.sz (Nat.le_refl _)) ?_ (fun x c e z => ?_) (fun p hp z => ?_) hn
   ·refine I3.call' (ch:=fp) I6.os I6.base I6.hok I6.bare fun b hb => ?_;obtain ⟨_,g1,g2,g3,g4,g5⟩:=f3 b hb;exact ⟨g3,g1,g4,g5⟩
   ·exact Nat.ne_of_gt I3.lt
   ·obtain ⟨v,o,ho,_⟩:=I3.cell x c e;exact absurd (Heap.lt_size ho) (by rw [z];exact Nat.lt_irrefl _)
   ·exact absurd (Heap.lt_size (I3.pin p hp).1) (by rw [z];exact Nat.lt_irrefl _)
  ·refine thn (T.item (cxComp X scope N s3.heap.objs.size s3 H3 fp) rfl rfl rfl hc i [] s5 σ5 H5 _ I5 (stat fr5) st5 go) fun r s6 ⟨u,hr,h6⟩ => ?_;subst hr;refine thn h6 fun _ s7 ⟨x,H7,I7,r7,y7,st7,fr7⟩ => ?_;have I7':=I7.pinned (stat fr7) (T.obj _ _ st7);have back:∀ {σ8:St} {H8:Hp} {s8:Shared},Inv (cxComp X scope N s3.heap.objs.size s3 H3 fp) ([] ++ pinsAt fp s7.heap) σ8 H8 s8 -> tn (i + 1) s8.heap /\ ∀ b ∈ fp,H8 b = none:=fun {σ8 H8 s8} I8 => by
    refine ⟨T.keep _ _ _ st7 fun b hb o e => (I8.pin (b,o) (List.mem_append_right _ (List.mem_append_right _ (mem_pinsAt hb e)))).1,fun b hb => ?_⟩;obtain ⟨o,e,d⟩:=T.obj _ _ st7 b hb;exact (I8.pin (b,o) (List.mem_append_right _ (List.mem_append_right _ (mem_pinsAt hb e)))).2.1
   refine thn (hg _ _ _ _ _ s7 σ5 H7 x u _ I7' r7 (step x H7 y7)) fun _ s8 ⟨σ8,H8,I8,q8⟩ => ?_;refine thn (ht _ _ _ _ _ s8 σ8 H8 _ I8 q8) fun ok s9 ⟨H9,I9,q9⟩ => ?_
   cases ok with
   | false =>
    rw [if_neg (by simp)] at q9 ⊢
    obtain ⟨m',hm,w9⟩:=q9;exact ⟨m',hm,i + 1,ys,σ8,H9,I9.unpinned,(back I9).1,(back I9).2,w9⟩
   | true =>
    rw [if_pos rfl] at q9 ⊢;refine thn (he _ _ _ _ _ s9 σ8 H9 _ I9 q9) fun y s10 ⟨v10,H10,I10,r10,hD10,m',hm,w10⟩ => ?_;refine thn (mt_append _ s10 σ8 H10 (.ref D) [v10] (.ref D) [y] (fun r H11 => r = .non /\ H11 = upd H10 D (.lst (ys ++ [v10]))) I10 rfl (.cons r10 .nil) ⟨D,ys,v10,rfl,rfl,hD10,hys,rfl,rfl⟩) fun _ s11 ⟨_,H11,I11,_,_,e11⟩ => ?_;subst e11;exact ⟨m',hm,i + 1,_,σ8,_,I11.unpinned,(back I11).1,(back I11).2,w10⟩
 have start:=codeAny_compStart_list (R:=RR (.ref D) s3.heap.objs.size) (loop _ rfl) (T.self X.A 0 _ _ _ st4 (loop _ rfl));subst hs3;exact start
theorem pe_comp {X:Cx} {osc scope:Scope} {ON own N:List Str} {tg iter elt:Expr} {ifs:List Expr} {pos:Pos} {wi:TI} {g:TG} {tc:TT} {te:TE} (S:CompScope osc ON scope own N) (hosc:X.env.scope = osc) (hON:X.N = ON) (hc:X.calm = true) (hi:PI X tg iter wi)
  (hg:∀ C s H fp,PG (cxComp X scope N C s H fp) tg g) (ht:∀ C s H fp,PTs (cxComp X scope N C s H fp) ifs tc) (he:∀ C s H fp,PE (cxComp X scope N C s H fp) elt te)
  (hs:∀ x,foldedSetIterable iter X.env x = pure x:=by intro _;rfl) :
  PE X (.ListComp elt [⟨tg,iter,ifs,0⟩] scope pos) (tComp wi own.length g tc te):=by
 intro pins s σ H Q I h;have hfr:∀ y ∈ scope.names,y.2 = .free -> ∃ c,X.env.cells.lookup y.1 = some c:=fun y hy hf => I.ok.has _ (by subst hosc;exact S.free y hy hf)
 rw [eval_ListComp];refine wpAny_comprehension_free (use:=none) rfl hs (closureFor_eq hfr) S.kind S.loc ?_;refine comp_core S hosc hON hc hi hg ht he I h (RR:=fun acc C => compPost (model X.prog X.w) X.A X.xe none (EP X pins σ Q) acc C) ?_;intro D C H' s' m I' q h1 h2 h3 h4 h5 hn;exact ⟨m,hn,fun h'' hs'' => ⟨.ref D,H',I'.turned (t':=s'.toks) (fun b o hb e => (hs''.2 b hb).trans e) h1 h3 (.inr h2) h4 h5,rfl,q⟩⟩
theorem ps_setComp {X:Cx} {osc scope:Scope} {ON own N:List Str} {tg iter elt:Expr} {ifs:List Expr} {pos spos py:Pos} {wi:TI} {g:TG} {tc:TT} {te:TE} {j:Nat} {y:Str} (hN:X.N.Nodup) (hj:X.N[j]? = some y) (hx:Loc X.env.scope y) (S:CompScope osc ON scope own N) (hosc:X.env.scope = osc) (hON:X.N = ON) (hc:X.calm = true) (hi:PI X tg iter wi)
  (hg:∀ C s H fp,PG (cxComp X scope N C s H fp) tg g) (ht:∀ C s H fp,PTs (cxComp X scope N C s H fp) ifs tc) (he:∀ C s H fp,PE (cxComp X scope N C s H fp) elt te)
  (hsw:autoParam (swapsWith (.ListComp elt [⟨tg,iter,ifs,0⟩] scope pos) (some (.Name y py)) spos.line X.env = pure true) L2.aRfl._auto_1)
  (hf:autoParam (X.fn y = true \/ X.env.scope.names.lookup y = some .local) L2.aLoc._auto_1)
  (hs:∀ x,foldedSetIterable iter X.env x = pure x:=by intro _;rfl) :
  PS X (.Assign [.Name y py] (.ListComp elt [⟨tg,iter,ifs,0⟩] scope pos) spos) (tAsg (tComp wi own.length g tc te) (gName j)):=by
 intro pins s σ H Dn I h;have hfr:∀ y ∈ scope.names,y.2 = .free -> ∃ c,X.env.cells.lookup y.1 = some c:=fun y hy hf => I.ok.has _ (by subst hosc;exact S.free y hy hf)
 rw [exec_Assign_Name_used _ _ _ _ hsw];refine wpAny_bind (wpAny_standAt (wpAny_bind ?_));show wpAny _ X.A (do let _ <- comprehension (.ListComp elt [⟨tg,iter,ifs,0⟩] scope pos) scope X.env _ (newList []) false (eval iter X.env) (some (assign (.Name y py) X.env))) _ _ s
 refine wpAny_bind (wpAny_mono (wpAny_comprehension_free (use:=some (assign (.Name y py) X.env)) (Q:=fun _ s' => SP X pins Dn .next s') rfl hs (closureFor_eq hfr) S.kind S.loc ?_) (fun _ s' hq => wpAny_pure (wpAny_pure hq)) fun _ _ e => e);refine comp_core S hosc hON hc hi hg ht he I h (RR:=fun acc C => compPost (model X.prog X.w) X.A X.xe (some (assign (.Name y py) X.env)) (fun _ s' => SP X pins Dn .next s') acc C) ?_;intro D C H' s' m I' q h1 h2 h3 h4 h5 hn;show wpAny _ X.A (assign (.Name y py) X.env (.ref D)) _ _ _;refine wpAny_assign_Name (store_ok2 I' hN hj hx (v:=.ref D) rfl (fun s'' I'' hsb => ?_) hf);obtain ⟨a,sb,ha⟩:=hsb;have nC:C ≠ a:=by
  rcases ha with ha | ha
  ·rw [ha];exact h3
  ·exact (h4 y a ha).symm
 exact ⟨m,hn.sameBut sb nC,fun h'' hs'' => ⟨_,H',I''.turned (t':=s''.toks) (fun b o hb e => (hs''.2 b hb).trans e) h1 h3 (.inr h2) h4 h5,q⟩⟩
def nst (e:Expr):Bool:=match e with
 | .Starred .. => false
 | _ => true
theorem star1 {e:Expr} {es:List Expr} {env:Env} (h:nst e = true):starEach (e :: es) env = (false,eval e env) :: starEach es env:=by
 cases e <;> first | rfl | cases h
theorem plain_any {env:Env} {pos:Pos}:∀ {es:List Expr},es.all nst = true -> (backTo pos (starEach es env)).any (·.1) = false
 | [],_ => rfl
 | e :: es,h => by
  rw [List.all_cons,Bool.and_eq_true] at h;rw [star1 h.1];show (false || (backTo pos (starEach es env)).any (·.1)) = false;rw [plain_any h.2];rfl
theorem plain_all {env:Env} {pos:Pos}:∀ {es:List Expr},es.all nst = true -> (backTo pos (starEach es env)).all (fun x => !x.1) = true
 | [],_ => rfl
 | e :: es,h => by
  rw [List.all_cons,Bool.and_eq_true] at h;rw [star1 h.1];show (true && (backTo pos (starEach es env)).all (fun x => !x.1)) = true;rw [plain_all h.2];rfl
theorem few_ok {env:Env} {cpos:Pos} {e:Expr} {es:List Expr} (h:(e :: es).all nst = true) (hl:(e :: es).length < 30) :
  ((backTo cpos (starEach (e :: es) env)).all (fun x => !x.1) && (backToKw cpos (keywordEach [] env)).all (fun x => x.1.isSome) && decide ((e :: es).length + ([]:List Keyword).length + (if ([]:List Keyword).isEmpty then 0 else 1) < 30)) = true:=by
 rw [plain_all h];have e2:(backToKw cpos (keywordEach [] env)).all (fun x => x.1.isSome) = true:=rfl;rw [e2];have e3:(e :: es).length + ([]:List Keyword).length + (if ([]:List Keyword).isEmpty then 0 else 1) < 30:=hl
 rw [decide_eq_true e3];rfl
section
variable {X:Cx} {e:Expr} {es:List Expr} {te:TE} {t:TA}
theorem pa_c (ha:PE X e te) (hr:PA X es t) (h:autoParam (nst e = true) L2.aRfl._auto_1):PA X (e :: es) (tCons te t):=pa_cons ha hr (star1 h)
theorem pe_cb {id:String} {x:Str} {p pos:Pos} {r:List V -> Hp -> VK -> Prop} (hc:CallR X (.builtin id) r) (hg:Gl X x) (hm:X.mg x = none) (hv:bootBuiltins x = some (.builtin id)) (ha:PA X (e :: es) t) (h1:autoParam (nst e = true) L2.aRfl._auto_1) (h2:autoParam (es.all nst = true) L2.aRfl._auto_1) (hn:autoParam (x ≠ "__name__") L2.aDec._auto_1) (hdb:autoParam ((x == ("__debug__":Str)) = false) L2.aDec._auto_1) :
  PE X (.Call (.Name x p) (e :: es) [] pos) (tCB r t):=pe_callB hc hg hm hv ha hn hdb (star1 h1) (plain_any h2)
theorem pe_ct {T:String} {x:Str} {p pos:Pos} {r:List V -> Hp -> VK -> Prop} (hc:CallR X (.type T) r) (hg:Gl X x) (hm:X.mg x = none) (hv:bootBuiltins x = some (.type T)) (ha:PA X (e :: es) t) (h1:autoParam (nst e = true) L2.aRfl._auto_1) (h2:autoParam (es.all nst = true) L2.aRfl._auto_1) (hn:autoParam (x ≠ "__name__") L2.aDec._auto_1) (hdb:autoParam ((x == ("__debug__":Str)) = false) L2.aDec._auto_1) :
  PE X (.Call (.Name x p) (e :: es) [] pos) (tCB r t):=pe_callTy hc hg hm hv ha hn hdb (star1 h1) (plain_any h2)
theorem pe_bmQ {o:Expr} {to:TE} {name:Str} {apos cpos:Pos} {T id:String} {r:V -> List V -> Hp -> VK -> Prop} (pa:PlainAttrs T) (slot:Slot T name id) (hty:typeOf (.builtin id) = pure (.type "method_descriptor")) (hm:MtR X id r) (ho:PE X o to) (ha:PA X (e :: es) t)
  (hbase:attributeBase o name X.env (eval o X.env) = eval o X.env) (hline:(apos.endLine == cpos.line) = true) (h:(e :: es).all nst = true) (hl:(e :: es).length < 30):PE X (.Call (.Attribute o name apos) (e :: es) [] cpos) (tBM X.K T r to t):=by
 have h':=h;rw [List.all_cons,Bool.and_eq_true] at h';exact pe_bm pa slot hty hm ho ha hbase (few_ok h hl) hline (star1 h'.1) (plain_any h'.2)
theorem pi_range1Q {tg a:Expr} {ta:TA} {p pos:Pos} (hg:Gl X "range") (hm:X.mg "range" = none) (ha:PA X [a] ta) (h:autoParam (nst a = true) L2.aRfl._auto_1):PI X tg (.Call (.Name "range" p) [a] [] pos) (iRng1 ta):=pi_range1 hg hm ha (star1 h)
end
structure HasFn (K:PySem.W.Frag) (mg:Str -> Option Value) (x:Str) (st:Stmt) (ps:List Str):Prop where
 ex:∃ (f:Addr) (fd:FuncData),Fun K x x st f fd /\ Binds K fd ps [] /\ mg x = some (.ref f)
structure CallOk (P:Program) (w:World) (K:PySem.W.Frag) (mg:Str -> Option Value) (base:Heap) (CX:CXT) (k:Nat) (x:Str) (ps:List Str) (sp:Sp):Prop where
 ex:∃ (f:Addr) (fd:FuncData),mg x = some (.ref f) /\ PySem.W.keepIn K (.ref f) = true /\ Binds K fd ps [] /\ FnOk P w K mg base CX k f fd ps sp
section
variable {P:Program} {w:World} {K:PySem.W.Frag} {mg:Str -> Option Value} {base:Heap}
theorem HasFn.ok {x:Str} {st:Stmt} {N ps:List Str} {k:Nat} {sp:Sp} (F:HasFn K mg x st ps) (S:FnScope N ps (defScope st)) (len:∀ vs H Q E,sp vs H Q E -> vs.length = ps.length)
  (hbody:∀ (f:Addr) (cdv:Value) (A:Around) (outer:List Env) (s:Shared) (H:Hp) (vs:List V) (Q:VK) (E:XK),Room k (A.deeper (envOfC x (defScope st) s.heap.objs.size f cdv)) -> sp vs H Q E ->
   ∃ t,PSs (cxOf CX0 P w K mg base N x (defScope st) f cdv A outer s H E).nox (defBody st) t /\ t { nx:=fun _ H' => Q .non H',rt:=Q } (start N vs) H):CallOk P w K mg base CX0 (k + 1) x ps sp:=by
 obtain ⟨f,fd,F1,b,m⟩:=F.ex;exact ⟨f,fd,m,F1.kp,b,F1.ok S len fun cdv A outer s H vs Q E hr h => hbody f cdv A outer s H vs Q E hr h⟩
end
section
variable {X:Cx} {CX:CXT} {k:Nat} {ps:List Str} {sp:Sp} {E:XK} {x:Str} {p pos:Pos} {e:Expr} {es:List Expr} {t:TA}
theorem pe_fn (F:CallOk X.prog X.w X.K X.mg X.base CX k x ps sp) (hr:Room k X.A) (hg:Gl X x) (hx:Passes CX X E) (ha:PA X (e :: es) t) (h1:autoParam (nst e = true) L2.aRfl._auto_1) (h2:autoParam (es.all nst = true) L2.aRfl._auto_1) (hdb:autoParam ((x == ("__debug__":Str)) = false) L2.aDec._auto_1) :
  PE X (.Call (.Name x p) (e :: es) [] pos) (tCall sp [] E t):=by
 obtain ⟨f,fd,m,kp,b,G⟩:=F.ex;exact pe_call G hr hg m kp b .nil hx ha hdb (star1 h1) (plain_any h2)
end
def conV:Expr -> Option V
 | .Constant (.int i) _ _ => some (.int i)
 | .Constant (.str x) _ _ => some (.str x)
 | .Constant (.bool b) _ _ => some (.bl b)
 | .Constant .none _ _ => some .non
 | _ => none
def consV:List Expr -> Option (List V)
 | [] => some []
 | e :: es => match conV e,consV es with
  | some v,some vs => some (v :: vs)
  | _,_ => none
def tK (vs:List V):TA:=fun _ H Q => Q vs H
theorem pe_cst {X:Cx} {e:Expr} {v:V} (h:conV e = some v):PE X e (tC v) /\ ∀ es,starEach (e :: es) X.env = (false,eval e X.env) :: starEach es X.env:=by
 unfold conV at h
 split at h
 ·cases h;exact ⟨pe_int,fun _ => rfl⟩
 ·cases h;exact ⟨pe_str,fun _ => rfl⟩
 ·cases h;exact ⟨pe_bl,fun _ => rfl⟩
 ·cases h;exact ⟨pe_non,fun _ => rfl⟩
 ·cases h
theorem pa_consts {X:Cx}:∀ {es:List Expr} {vs:List V},consV es = some vs -> PA X es (tK vs)
 | [],vs,h => by cases h;exact pa_nil
 | e :: es,vs,h => by
  unfold consV at h
  split at h
  ·rename_i v ws e1 e2;cases h;have p:=pe_cst (X:=X) e1;exact pa_cons (te:=tC v) (t:=tK ws) p.1 (pa_consts e2) (p.2 es)
  ·cases h
def sq (H:Hp) (p:Addr):Option (Bool × List V):=match H p with
 | some (.lst xs) => some (true,xs)
 | some (.tup xs) => some (false,xs)
 | some (.frz _ (.lst xs)) => some (true,xs)
 | some (.frz _ (.tup xs)) => some (false,xs)
 | _ => none
section
variable {X:Cx}
def uAdd (K:PySem.W.Frag):R2:=fun x y H Q => match x,y with
 | .int i,.int j => Q (.int (i + j)) H
 | .str i,.str j => i.length + j.length <= sizeLine /\ Q (.str (i ++ j)) H
 | .ref a,.ref b => match H a,H b with
  | some (.lst xs),some (.lst ys) => xs.length + ys.length <= sizeLine /\ ∀ p,H p = none -> Q (.ref p) (upd H p (.lst (xs ++ ys)))
  | some (.tup xs),some (.tup ys) => xs ≠ [] /\ ys ≠ [] /\ xs.length + ys.length <= sizeLine /\ ∀ p,H p = none -> Q (.ref p) (upd H p (.tup (xs ++ ys)))
  | _,_ => False
 | _,_ => False
def uMul:R2:=fun x y H Q => match x,y with
 | .int i,.int j => CMul i j /\ Q (.int (i * j)) H
 | .ref a,.int j => rRep (.ref a) (.int j) H Q
 | _,_ => False
theorem uop_mul:OpR X (binaryOp .Mult) uMul:=by
 intro pins s σ H x y v u Q I rx ry h
 cases x with
 | int i => cases y with
  | int j => exact op_mul pins s σ H _ _ v u Q I rx ry ⟨i,j,rfl,rfl,h.1,h.2⟩
  | _ => exact (show False from h).elim
 | ref a => cases y with
  | int j => exact op_rep pins s σ H _ _ v u Q I rx ry h
  | _ => exact (show False from h).elim
 | _ => exact (show False from h).elim
def uIx (K:PySem.W.Frag):R2:=fun x y H Q => match x,y with
 | .str z,.int i => z.length <= sizeLine /\ (match atI z.cps.toList i with | some c => Q (.str ⟨#[c]⟩) H | none => False)
 | .ref p,.int i => match sq H p with
  | some (_,xs) => (match atI xs i with | some v => Q v H | none => False)
  | none => ∃ xs v,SqT K H p xs /\ atI xs i = some v /\ Q v H
 | _,_ => False
def uSl (K:PySem.W.Frag):V -> Option Int -> Option Int -> Hp -> VK -> Prop:=fun x lo hi H Q => match x with
 | .ref p => match sq H p with
  | some (true,xs) => ∀ q,H q = none -> Q (.ref q) (upd H q (.lst (cutV xs lo hi)))
  | some (false,xs) => rSlT K (.ref p) lo hi H Q
  | none => rSlT K (.ref p) lo hi H Q
 | _ => False
def uSet:V -> V -> V -> Hp -> (Hp -> Prop) -> Prop:=fun o i v H Q => match o,i with
 | .ref p,.int k => match H p with
  | some (.lst xs) => (match ixN xs.length k with | some j => Q (upd H p (.lst (xs.set j v))) | none => False)
  | _ => False
 | _,_ => False
theorem uset:PSet X uSet:=by
 intro pins s σ H o i v ov iv u Q I ro ri rv h
 cases o with
 | ref p => cases i with
  | int k =>
   unfold uSet at h;simp only at h
   split at h
   ·rename_i xs e
    split at h
    ·rename_i j e';exact set_list pins s σ H _ _ v ov iv u Q I ro ri rv ⟨p,xs,k,j,rfl,rfl,e,e',h⟩
    ·exact h.elim
   ·exact h.elim
  | _ => exact (show False from h).elim
 | _ => exact (show False from h).elim
def uMin:List V -> Hp -> VK -> Prop:=fun xs H Q => match xs with
 | [.int i,.int j] => Q (.int (if j < i then j else i)) H
 | _ => False
theorem ucall_min (hc:X.calm = true):CallR X (.builtin "min") uMin:=by
 intro pins s σ H xs us Q I r h;rcases xs with _ | ⟨x,_ | ⟨y,_ | ⟨z,xs⟩⟩⟩
 ·exact (show False from h).elim
 ·cases x <;> exact (show False from h).elim
 ·cases x with
  | int i => cases y with
   | int j => exact call_min2 hc pins s σ H _ us Q I r ⟨i,j,rfl,h⟩
   | _ => exact (show False from h).elim
  | _ => exact (show False from h).elim
 ·cases x with
  | int i => cases y <;> exact (show False from h).elim
  | _ => exact (show False from h).elim
def uTuple (K:PySem.W.Frag):List V -> Hp -> VK -> Prop:=fun xs H Q => match xs with
 | [.ref p] => match sq H p with
  | some (true,ys) => ∀ l,H l = none -> Q (.ref l) (upd H l (.tup ys))
  | some (false,_) => Q (.ref p) H
  | none => ∃ ys,SqT K H p ys /\ Q (.ref p) H
 | _ => False
def uInt:List V -> Hp -> VK -> Prop:=fun xs H Q => match xs with
 | [.int i] => Q (.int i) H
 | [.bl k] => Q (.int (if k = true then 1 else 0)) H
 | _ => False
theorem ucall_int:CallR X (.type "int") uInt:=by
 intro pins s σ H xs us Q I r h;rcases xs with _ | ⟨x,_ | ⟨y,ys⟩⟩
 ·exact (show False from h).elim
 ·cases x with
  | int i => exact call_int1 pins s σ H _ us Q I r (.inl ⟨i,rfl,h⟩)
  | bl k => exact call_int1 pins s σ H _ us Q I r (.inr ⟨k,rfl,h⟩)
  | _ => exact (show False from h).elim
 ·cases x <;> exact (show False from h).elim
def uStr:List V -> Hp -> VK -> Prop:=fun xs H Q => match xs with
 | [.int i] => i.natAbs.log2 < 1920 /\ Q (.str (toString i)) H
 | [.str z] => Q (.str z) H
 | _ => False
theorem ucall_str:CallR X (.type "str") uStr:=by
 intro pins s σ H xs us Q I r h
 match xs,h with
 | [.int i],h => exact call_str_int pins s σ H _ us Q I r ⟨i,rfl,h.1,h.2⟩
 | [.str z],h =>
  obtain ⟨u,rfl,t,rfl⟩:=vals1 r;exact PySem.P.str_of_str ⟨.str z,H,I,⟨_,rfl⟩,h⟩
theorem ucall_sum (hc:X.calm = true):CallR X (.builtin "sum") (fun xs H Q => ∃ (p:Addr) (ns:List Int),xs = [.ref p] /\ SqL X.K H p (ns.map V.int) /\ Q (.int ns.sum) H):=by
 intro pins s σ H xs us Q I r h;obtain ⟨p,ns,rfl,hq,q⟩:=h;obtain ⟨u,rfl,ru⟩:=vals1 r;cases ru;obtain ⟨its,rv,pl,hz⟩:=I.list hq;have hi:=intsAre_of rv;obtain ⟨xs,hx⟩:=hi.allInts.items;have hl':s.heap.IsList p (intItems xs):=by rw [<- hx];exact pl.isList
 refine sum_intListG (I.ok.hd hc) hl' fun h' tk t' hk => ?_;have e1:ns = xs.toList.map (·.1):=by rw [<- nums_intItems,<- hx];exact hi.numsOf.symm
 have e2:preSum (numAt xs) xs.size = ns.sum:=by rw [preSum_eq,List.take_of_length_le (by simp),e1]
 rw [e2];exact ⟨.int ns.sum,H,I.kept hk,⟨_,rfl⟩,q⟩
def tyU (H:Hp):V -> Option String
 | .non => some "NoneType"
 | .bl _ => some "bool"
 | .int _ => some "int"
 | .str _ => some "str"
 | .ref a => match H a with
  | some (.lst _) => some "list"
  | some (.tup _) => some "tuple"
  | some (.dK _) => some "dict"
  | _ => none
 | _ => none
theorem tyU_of {K:PySem.W.Frag} {H:Hp} {x:V} {t:String} (h:tyU H x = some t):TyOf K H x (.type t):=by
 unfold tyU at h
 split at h
 ·cases h;exact .non
 ·cases h;exact .bl _
 ·cases h;exact .int _
 ·cases h;exact .str _
 ·split at h
  ·rename_i e;cases h;exact .lst e
  ·rename_i e;cases h;exact .tup e
  ·rename_i e;cases h;exact .dK e
  ·cases h
 ·cases h
def isiU (t c:String):Bool:=decide (t = c) || (t == "bool" && c == "int")
theorem kit_pair {K:PySem.W.Frag} {t c:String} (ht:t ∈ ["NoneType","bool","int","str","list","tuple","dict"]) (hc:c ∈ ["bool","int","str","list","tuple","dict"]):PySem.W.kitOne K (.type t) (.type c) = some (isiU t c):=by
 simp only [List.mem_cons,List.not_mem_nil,or_false] at ht hc;rcases ht with rfl | rfl | rfl | rfl | rfl | rfl | rfl <;> rcases hc with rfl | rfl | rfl | rfl | rfl | rfl <;> rfl
theorem tyU_in {H:Hp} {x:V} {t:String} (h:tyU H x = some t):t ∈ ["NoneType","bool","int","str","list","tuple","dict"]:=by
 unfold tyU at h
 split at h
 ·cases h;decide
 ·cases h;decide
 ·cases h;decide
 ·cases h;decide
 ·split at h
  ·cases h;decide
  ·cases h;decide
  ·cases h;decide
  ·cases h
 ·cases h
def uIsi (K:PySem.W.Frag):List V -> Hp -> VK -> Prop:=fun xs H Q => match xs with
 | [x,.ty T] => T ∈ ["bool","int","str","list","tuple","dict"] /\ match tyU H x with
  | some t => Q (.bl (isiU t T)) H
  | none => ∃ t b,TyOf K H x t /\ PySem.W.kitOne K t (.type T) = some b /\ Q (.bl b) H
 | _ => False
theorem ucall_isi:CallR X (.builtin "isinstance") (uIsi X.K):=by
 intro pins s σ H xs us Q I r h;rcases xs with _ | ⟨x,_ | ⟨y,_ | ⟨z,xs⟩⟩⟩
 ·exact (show False from h).elim
 ·exact (show False from h).elim
 rotate_left
 ·cases y <;> exact (show False from h).elim
 cases y with
 | ty T =>
  obtain ⟨u,w',rfl,r1,r2⟩:=vals2 r;cases r2;obtain ⟨hT,h⟩:=h
  split at h
  ·rename_i t e;exact isinst_ok I r1 (tyU_of e) (kit_pair (tyU_in e) hT) fun tk => ⟨.bl _,H,I.tok _,rfl,h⟩
  ·obtain ⟨t,b,ty,k,q⟩:=h;exact isinst_ok I r1 ty k fun tk => ⟨.bl b,H,I.tok _,rfl,q⟩
 | _ => exact (show False from h).elim
theorem pe_tyv {x:Str} {T:String} {pos:Pos} (hg:Gl X x) (hm:X.mg x = none) (hv:bootBuiltins x = some (.type T)) (hn:autoParam (x ≠ "__name__") L2.aDec._auto_1) (hd:autoParam ((x == ("__debug__":Str)) = false) L2.aDec._auto_1):PE X (.Name x pos) (tC (.ty T)):=pe_bltn hg hm hv rfl hn hd
def rJoin (K:PySem.W.Frag):V -> List V -> Hp -> VK -> Prop:=fun x vs H Q => ∃ z l ys,x = .str z /\ vs = [.ref l] /\ SqL K H l (ys.map V.str) /\ (ys.map (·.length)).sum + ys.length * z.length <= 16777216 /\ Q (.str (Str.join z ys)) H
theorem strsAre_of:∀ {ys:List Str} {us:List Value},Vals (ys.map V.str) us -> StrsAre us ys
 | [],_,.nil => .nil
 | y :: ys,_,.cons r t => by
  obtain ⟨k,rfl⟩:=r;exact .cons y k (strsAre_of t)
theorem mt_join:MtR X "str.join" (rJoin X.K):=by
 intro pins s σ H x xs v us Q I rx rs h;obtain ⟨z,l,ys,rfl,rfl,hq,hz,q⟩:=h;obtain ⟨t,rfl⟩:=rx;obtain ⟨u,rfl,ru⟩:=vals1 rs;cases ru;obtain ⟨its,rv,pl,_⟩:=I.list hq;refine join_list pl.isList (by simpa using strsAre_of rv) hz fun t' k => ?_
 have e:Txt.join z ys = Str.join z ys:=StrLaws.glued_eq_join z ys;rw [e];exact ⟨.str _,H,I.tok _,⟨_,rfl⟩,q⟩
end
section
variable {X:Cx} {o e:Expr} {es:List Expr} {to:TE} {t:TA} {apos cpos:Pos}
end
section
variable {X:Cx} {e:Expr} {te:TE}
end
open AutoSeq1 (wpAny_loadPart')
section
variable {prog:Program} {w:World} {A:Around} {E:Value -> Shared -> Prop} {s:Shared}
theorem nextOf_tup_item {it l:Addr} {i:Nat} {items:Array Value} {x:Value} {Q:Value -> Shared -> Prop} (hit:s.heap.IsTupleIter it l i) (hl:s.heap.IsTuple l items) (hx:items[i]? = some x)
  (hQ:∀ h',h'.IsTupleIter it l (i + 1) -> Heap.SameBut it s.heap h' -> Q x { s with heap:=h' }):wpAny (model prog w) A (Builtin.SmallTypes.nextOf (.ref it)) Q E s:=by
 obtain ⟨o,ho,hc,hd⟩:=id hit;obtain ⟨ol,hol,_,nl,hdl⟩:=hl;unfold Builtin.SmallTypes.nextOf;refine wpAny_bind (wpAny_callSpecial?_slot (name:=Str.ofString "__next__") hit.typeIs F.slot_tuple_iterator_next (wpAny_call_entry F.slot_tuple_iterator_next hit.typeIs F.entry_tuple_iterator_next ?_ (F.args_tuple_iterator_next_1 _)));show wpAny _ _ (field (.ref it) 0 >>= _) _ _ s;refine wpAny_bind (wpAny_field ho hd (x:=.ref l) rfl ?_);show wpAny _ _ (if (Value.ref l == Value.none) = true then _ else _) _ _ s
 rw [if_neg (show ¬ ((Value.ref l == Value.none) = true) from Bool.false_ne_true)];show wpAny _ _ (field (.ref it) 1 >>= _) _ _ s;refine wpAny_bind (wpAny_field ho hd (x:=.int i 0) rfl ?_);show wpAny _ _ (seqItems? (.ref l) >>= _) _ _ s;refine wpAny_bind (wpAny_seqItems hol hdl ?_);simp only [Int.toNat_natCast,hx];refine wpAny_bind (wpAny_setField ho hd (by simp) (wpAny_pure ⟨x,rfl,wpAny_pure (hQ _ ?_ (Heap.SameBut.update ..))⟩))
 exact ⟨_,Heap.get?_update_self _ ho (Obj.isFreed_of_fields (Obj.data_mapFields hd _)),(Obj.cls_mapFields ..).trans hc,by rw [Obj.data_mapFields hd];simp [rawInt]⟩
theorem nextOf_tup_end {it l:Addr} {i:Nat} {items:Array Value} {Q:Value -> Shared -> Prop} (hh:A.handled = none) (hit:s.heap.IsTupleIter it l i) (hl:s.heap.IsTuple l items) (hx:items[i]? = none)
  (hE:∀ h' e,Heap.ExtBut it s.heap h' -> (∃ o,h'.get? e = some o /\ o.cls = .type "StopIteration") -> E (.ref e) { s with heap:=h' }):wpAny (model prog w) A (Builtin.SmallTypes.nextOf (.ref it)) Q E s:=by
 obtain ⟨o,ho,hc,hd⟩:=id hit;obtain ⟨ol,hol,_,nl,hdl⟩:=hl;unfold Builtin.SmallTypes.nextOf;refine wpAny_bind (wpAny_callSpecial?_slot (name:=Str.ofString "__next__") hit.typeIs F.slot_tuple_iterator_next (wpAny_call_entry F.slot_tuple_iterator_next hit.typeIs F.entry_tuple_iterator_next ?_ (F.args_tuple_iterator_next_1 _)));show wpAny _ _ (field (.ref it) 0 >>= _) _ _ s;refine wpAny_bind (wpAny_field ho hd (x:=.ref l) rfl ?_);show wpAny _ _ (if (Value.ref l == Value.none) = true then _ else _) _ _ s
 rw [if_neg (show ¬ ((Value.ref l == Value.none) = true) from Bool.false_ne_true)];show wpAny _ _ (field (.ref it) 1 >>= _) _ _ s;refine wpAny_bind (wpAny_field ho hd (x:=.int i 0) rfl ?_);show wpAny _ _ (seqItems? (.ref l) >>= _) _ _ s;refine wpAny_bind (wpAny_seqItems hol hdl ?_);simp only [Int.toNat_natCast,hx];refine wpAny_bind (wpAny_rule (wpAny_bind (wpAny_setField ho hd (by simp) ?_)))
 show wpAny _ _ (newExc (.type "StopIteration") [] >>= _) _ _ _;refine wpAny_bind ?_;simp only [newExc,newTuple];refine wpAny_bind (wpAny_newObj_type ?_ (by size_fits))
 refine wpAny_bind (m:=firstArgMember _ _) (wpAny_of_eq (a:=Value.none) (by first | rfl | (simp only [firstArgMember];rfl)) ?_)
 refine wpAny_newObj_type ?_ (by size_fits)
 simp only [raiseNew];refine wpAny_bind (wpAny_handled ?_)
 first | rw [show A.in1.handled = none from hh] | rw [hh]
 refine wpAny_bind (wpAny_pure (wpAny_throw ?_));exact hE _ _ (((Heap.SameBut.update ..).extBut.push _).push _) ⟨_,Heap.get?_push_size _ rfl,rfl⟩
theorem draws_tup (hh:A.handled = none) (it l:Addr) (hne:l ≠ it) (items:Array Value) :
  Draws prog w A it [it,l] items.size (fun i v => items[i]? = some v) (fun i h => h.IsTupleIter it l i /\ h.IsTuple l items) where
 live:=fun _ _ st => let ⟨o,ho,_⟩:=st.1;⟨o,ho⟩
 frame:=fun _ _ _ st hk => ⟨let ⟨o,e,r⟩:=st.1;⟨o,hk it (by simp) o e,r⟩,let ⟨o,e,r⟩:=st.2;⟨o,hk l (by simp) o e,r⟩⟩
 item:=fun i s Q E hi st hQ => by
  refine nextOf_tup_item st.1 st.2 (x:=items[i]) (by simp [hi]) fun h' hit' hs' => ?_
  exact hQ _ h' s.toks (by simp [hi]) ⟨hit',st.2.extBut hs'.extBut hne⟩ hs'
 done:=fun s Q E st hE => nextOf_tup_end hh st.1 st.2 (by simp) hE
end
section
variable {X:Cx} {pins:List (Addr × Obj)} {σ:St} {H:Hp} {s:Shared} {h':Heap}
theorem Inv.turns {fp:List Addr} {t':Nat} (I:Inv X pins σ H s) (hf:∀ b ∈ fp,FpOk X pins H b) (k:∀ b o,b ∉ fp -> s.heap.get? b = some o -> h'.get? b = some o):Inv X pins σ H { s with heap:=h',toks:=t' }:=by
 have nf:∀ b u,H b = some u -> b ∉ fp:=fun b u e z => by rw [(hf b z).1] at e;cases e
 refine I.step (g':=s.gens) (d':=s.drawn) (ch:=fp) (fun b hb => ?_) (fun b o _ _ hc e _ => k b o hc e) (fun b o _ _ hc e _ => ⟨o.slots,k b o hc e⟩) (fun _ _ _ _ n => n)
  (fun b o hc e => ⟨o,k b o hc e⟩) (fun _ _ e => e) (fun _ _ _ e => e) (fun b ps e => ⟨#[],by rw [e];simp⟩) (fun m hm => ?_) (fun b u e => ?_) I.bare
 ·obtain ⟨_,g1,g2,g3,g4,g5⟩:=hf b hb;exact ⟨g3,g1,g4,g5⟩
 ·obtain ⟨o,es,ep,ho,r⟩:=hm;exact ⟨o,es,ep,k _ o (fun z => (hf _ z).2.1 rfl) ho,r⟩
 ·refine (I.hok b u e).stay (fun c v hc q => k c v ?_ q) (fun _ q => q) (fun _ _ q => q) fun _ _ _ q => q;rcases hc with z | z
  ·rw [z];exact nf b u e
  ·exact nf c _ z
theorem Inv.turnNew {fp:List Addr} {p:Addr} {o:HO} {t':Nat} (I:Inv X pins σ H s) (hf:∀ b ∈ fp,FpOk X pins H b) (hp:s.heap.objs.size <= p) (k:∀ b o,b ∉ fp -> s.heap.get? b = some o -> h'.get? b = some o)
  (new:ObjOk X.prog X.w (upd H p o) h' p o):Inv X pins σ (upd H p o) { s with heap:=h',toks:=t' }:=by
 have nf:∀ b u,H b = some u -> b ∉ fp:=fun b u e z => by rw [(hf b z).1] at e;cases e
 have fr:H p = none:=I.hok.fresh hp;have np:∀ b u,H b = some u -> b ≠ p:=fun b u e => ne_of_none e fr;have ne:∀ b o,s.heap.get? b = some o -> b ≠ p:=fun b o e z => by rw [z] at e;exact absurd (Nat.lt_of_lt_of_le (Heap.lt_size e) hp) (Nat.lt_irrefl _)
 refine I.step (g':=s.gens) (d':=s.drawn) (ch:=fp) (fun b hb => ?_) (fun b o _ _ hc e _ => k b o hc e) (fun b o _ _ hc e _ => ⟨o.slots,k b o hc e⟩) (fun b o _ e n => by rw [upd_ne (ne b o e)];exact n)
  (fun b o hc e => ⟨o,k b o hc e⟩) (fun b xs e => by rw [upd_ne (np b _ e)];exact e) (fun b o u e => by rw [upd_ne (np b _ e)];exact e) (fun b ps e => ⟨#[],by rw [upd_ne (np b _ e),e];simp⟩) (fun m hm => ?_) (fun b u e => ?_) I.bare
 ·obtain ⟨_,g1,g2,g3,g4,g5⟩:=hf b hb;exact ⟨g3,g1,g4,g5⟩
 ·obtain ⟨o,es,ep,ho,r⟩:=hm;exact ⟨o,es,ep,k _ o (fun z => (hf _ z).2.1 rfl) ho,r⟩
 ·by_cases hb:b = p
  ·subst hb;rw [upd_same] at e;cases e;exact new
  ·rw [upd_ne hb] at e;refine (I.hok b u e).stay (fun c v hc q => k c v ?_ q) (fun c q => by rw [upd_ne (np c _ q)];exact q) (fun c xs q => by rw [upd_ne (np c _ q)];exact q) fun c _ _ q => by rw [upd_ne (np c _ q)];exact q
   rcases hc with z | z
   ·rw [z];exact nf b u e
   ·exact nf c _ z
end
def getL (K:PySem.W.Frag) (a:Addr):Nat -> Hp -> V -> Prop:=fun i H x => ∃ xs,SqL K H a xs /\ xs[i]? = some x
def endL (K:PySem.W.Frag) (a:Addr):Nat -> Hp -> Prop:=fun i H => ∃ xs,SqL K H a xs /\ xs.length = i
end L2
namespace L2
open PySem PySem.Spec PyProof.Rows
section
variable {X:Cx} {es:List Expr} {tk:Nat} {tp:Pos}
end
section
variable {K:PySem.W.Frag} {g:TG} {tb:TS} {D:Ends} {σ:St} {H:Hp} {te:TE} {Q:VK}
end
namespace Ap
theorem truB (K:PySem.W.Frag) (b:Bool) (H:Hp) (k:Bool):TruV K (.bl b) H k = (k = b):=rfl
theorem truI (K:PySem.W.Frag) (i:Int) (H:Hp) (k:Bool):TruV K (.int i) H k = (k = (i != 0)):=rfl
end Ap
theorem at_0 {α:Type} (x:α) (r:List α):atI (x :: r) 0 = some x:=atI_nat (j:=0) rfl
theorem at_1 {α:Type} (a x:α) (r:List α):atI (a :: x :: r) 1 = some x:=atI_nat (j:=1) rfl
theorem at_2 {α:Type} (a b x:α) (r:List α):atI (a :: b :: x :: r) 2 = some x:=atI_nat (j:=2) rfl
theorem at_3 {α:Type} (a b c x:α) (r:List α):atI (a :: b :: c :: x :: r) 3 = some x:=atI_nat (j:=3) rfl
theorem at_4 {α:Type} (a b c d x:α) (r:List α):atI (a :: b :: c :: d :: x :: r) 4 = some x:=atI_nat (j:=4) rfl
namespace Ap
theorem setRef (p:Addr) (k:Int) (v:V) (H:Hp) (Q:Hp -> Prop):uSet (.ref p) (.int k) v H Q = (match H p with
  | some (.lst xs) => (match ixN xs.length k with | some j => Q (upd H p (.lst (xs.set j v))) | none => False)
  | _ => False):=rfl
end Ap
structure QE (X:Cx) (e:Expr) (t:TE):Prop where h:PE X e t
structure QT (X:Cx) (e:Expr) (t:TT):Prop where h:PT X e t
structure QW (X:Cx) (e:Expr) (t:TT):Prop where h:PW X e t
structure QA (X:Cx) (es:List Expr) (t:TA):Prop where h:PA X es t
structure QS (X:Cx) (st:Stmt) (t:TS):Prop where h:PS X st t
structure QB (X:Cx) (sts:List Stmt) (t:TS):Prop where h:PSs X sts t
structure QI (X:Cx) (tg it:Expr) (t:TI):Prop where h:PI X tg it t
structure QG (X:Cx) (e:Expr) (t:TG):Prop where h:PG X e t
structure QGs (X:Cx) (es:List Expr) (t:TGs):Prop where h:PGs X es t
structure QO (X:Cx) (e:Option Expr) (t:TO):Prop where h:PO X e t
structure QTs (X:Cx) (es:List Expr) (t:TT):Prop where h:PTs X es t
namespace Z
def sim (b:Expr):Bool:=match b with
 | .Name .. | .Constant .. | .Call .. | .BinOp .. | .Subscript .. | .Attribute .. | .UnaryOp .. | .Compare .. | .IfExp .. => true
 | _ => false
theorem pix {b:Expr} (h:sim b = true):PlainIx b:=by
 cases b <;> first | (intro _ _;rfl) | cases h
def tru (b:Expr):Bool:=match b with
 | .Name .. | .Call .. | .Subscript .. | .Attribute .. => true
 | _ => false
theorem ptr {b:Expr} {env:Env} (h:tru b = true):∀ whole,isTrue b env whole = (do let v <- whole;standAt b.pos;holding [v] (truthy v)):=by
 cases b <;> first | (intro _;rfl) | cases h
def noc (b:Expr):Bool:=match b with
 | .ListComp .. | .SetComp .. | .DictComp .. => false
 | _ => true
theorem swp {b:Expr} {tg:Option Expr} {l:Nat} {env:Env} (h:noc b = true):swapsWith b tg l env = pure false:=by
 cases b <;> first | rfl | cases h
section
variable {X:Cx}
theorem k_isi (K:PySem.W.Frag) (hK:X.K = K):CallR X (.builtin "isinstance") (uIsi K):=by subst hK;exact ucall_isi
end
section
variable {X:Cx} {a b c e o:Expr} {es:List Expr} {ta tb tc te to:TE} {t:TA} {pos p p2:Pos} {tA tB':TT} {rest:List Expr} {x:Str}
theorem int {i:Int} {j:Nat}:QE X (.Constant (.int i) j pos) (tC (.int i)):=⟨pe_int⟩
theorem bl {i:Bool} {j:Nat}:QE X (.Constant (.bool i) j pos) (tC (.bl i)):=⟨pe_bl⟩
theorem non {j:Nat}:QE X (.Constant .none j pos) (tC .non):=⟨pe_non⟩
theorem str {i:Str} {j:Nat}:QE X (.Constant (.str i) j pos) (tC (.str i)):=⟨pe_str⟩
theorem v (i:Nat) (hN:autoParam (X.N[i]? = some x) L2.aRfl._auto_1) (hv:Vis X.env.scope x:=by first | exact Or.inl rfl | exact Or.inr (Or.inl rfl) | exact Or.inr (Or.inr rfl)) (hd:autoParam ((x == ("__debug__":Str)) = false) L2.aDec._auto_1)
  (hcd:autoParam ((x == ("__classdict__":Str)) = false) L2.aDec._auto_1):QE X (.Name x pos) (tVar i):=⟨pv i hN hv hd hcd⟩
theorem glob {w:V} {u:Value} (hg:Gl X x) (hm:X.mg x = some u) (r:RelV w u) (hd:autoParam ((x == ("__debug__":Str)) = false) L2.aDec._auto_1):QE X (.Name x pos) (tC w):=⟨pe_glob hg hm r hd⟩
theorem op {o:Operator} {r:R2} (ho:OpR X (binaryOp o) r) (ha:QE X a ta) (hb:QE X b tb):QE X (.BinOp a o b pos) (tOp r ta tb):=⟨pe_op ho ha.h hb.h⟩
theorem cmp {o:CmpOp} {r:R2} (ho:OpR X (compareOp o) r) (ha:QE X a ta) (hb:QE X b tb) (hm:autoParam (behindInMarks o b = false) L2.aRfl._auto_1):QE X (.Compare a [o] [b] pos) (tOp r ta tb):=⟨pe_cmpR ho ha.h hb.h hm⟩
theorem and (ha:QE X a ta) (hb:QE X (.BoolOp .And (b :: rest) pos) tb):QE X (.BoolOp .And (a :: b :: rest) pos) (tAndV ta tb):=⟨pe_and ha.h hb.h⟩
theorem or (ha:QE X a ta) (hb:QE X (.BoolOp .Or (b :: rest) pos) tb):QE X (.BoolOp .Or (a :: b :: rest) pos) (tOrV ta tb):=⟨pe_or ha.h hb.h⟩
theorem one {o:BoolOp} (ha:QE X a ta):QE X (.BoolOp o [a] pos) ta:=⟨pe_one ha.h⟩
theorem not (ha:QE X a ta):QE X (.UnaryOp .Not a pos) (tNotV ta):=⟨pe_not ha.h⟩
theorem ifE (hc:QT X c tA) (ha:QE X a ta) (hb:QE X b tb):QE X (.IfExp c a b pos) (tIf tA ta tb):=⟨pe_ifExp hc.h ha.h hb.h⟩
theorem slice {r:V -> Option Int -> Option Int -> Hp -> VK -> Prop} {lo hi:Option Expr} {tl th:TO} (hr:SlR X r) (he:QE X e te) (hl:QO X lo tl) (hu:QO X hi th):QE X (.Subscript e (.Slice lo hi none p2) pos) (tSl r te tl th):=⟨pe_slice hr he.h hl.h hu.h⟩
theorem po0:QO X none tNoPart:=⟨po_none⟩
theorem po1 (he:QE X e te):QO X (some e) (tPart te):=⟨po_some he.h⟩
theorem ix {r:R2} (hr:IxR X r) (ha:QE X a ta) (hb:QE X b tb) (hs:autoParam (sim b = true) L2.aRfl._auto_1):QE X (.Subscript a b pos) (tOp r ta tb):=⟨pe_ix hr ha.h hb.h (pix hs)⟩
theorem tup {k:Nat} (h:QA X es t):QE X (.Tuple es k pos) (tTup t):=⟨pe_tup h.h⟩
theorem lst (h:QA X es t):QE X (.List es pos) (tLst t):=⟨pe_lst h.h⟩
theorem nil:QA X [] tNil:=⟨pa_nil⟩
theorem cons (ha:QE X e te) (hr:QA X es t) (h:autoParam (nst e = true) L2.aRfl._auto_1):QA X (e :: es) (tCons te t):=⟨pa_c ha.h hr.h h⟩
theorem consts {vs:List V} (h:consV es = some vs):QA X es (tK vs):=⟨pa_consts h⟩
theorem cb {id:String} {r:List V -> Hp -> VK -> Prop} (hc:CallR X (.builtin id) r) (hg:Gl X x) (hm:X.mg x = none) (hv:bootBuiltins x = some (.builtin id)) (ha:QA X (e :: es) t) (h1:autoParam (nst e = true) L2.aRfl._auto_1) (h2:autoParam (es.all nst = true) L2.aRfl._auto_1) (hn:autoParam (x ≠ "__name__") L2.aDec._auto_1) (hdb:autoParam ((x == ("__debug__":Str)) = false) L2.aDec._auto_1) :
  QE X (.Call (.Name x p) (e :: es) [] pos) (tCB r t):=⟨pe_cb hc hg hm hv ha.h h1 h2 hn hdb⟩
theorem ct {T:String} {r:List V -> Hp -> VK -> Prop} (hc:CallR X (.type T) r) (hg:Gl X x) (hm:X.mg x = none) (hv:bootBuiltins x = some (.type T)) (ha:QA X (e :: es) t) (h1:autoParam (nst e = true) L2.aRfl._auto_1) (h2:autoParam (es.all nst = true) L2.aRfl._auto_1) (hn:autoParam (x ≠ "__name__") L2.aDec._auto_1) (hdb:autoParam ((x == ("__debug__":Str)) = false) L2.aDec._auto_1) :
  QE X (.Call (.Name x p) (e :: es) [] pos) (tCB r t):=⟨pe_ct hc hg hm hv ha.h h1 h2 hn hdb⟩
theorem tyv {T:String} (hg:Gl X x) (hm:X.mg x = none) (hv:bootBuiltins x = some (.type T)) (hn:autoParam (x ≠ "__name__") L2.aDec._auto_1) (hd:autoParam ((x == ("__debug__":Str)) = false) L2.aDec._auto_1):QE X (.Name x pos) (tC (.ty T)):=⟨pe_tyv hg hm hv hn hd⟩
theorem fn {CX:CXT} {k:Nat} {ps:List Str} {sp:Sp} {E:XK} (F:CallOk X.prog X.w X.K X.mg X.base CX k x ps sp) (hr:Room k X.A) (hg:Gl X x) (hx:Passes CX X E) (ha:QA X (e :: es) t) (h1:autoParam (nst e = true) L2.aRfl._auto_1) (h2:autoParam (es.all nst = true) L2.aRfl._auto_1) (hdb:autoParam ((x == ("__debug__":Str)) = false) L2.aDec._auto_1) :
  QE X (.Call (.Name x p) (e :: es) [] pos) (tCall sp [] E t):=⟨pe_fn F hr hg hx ha.h h1 h2 hdb⟩
theorem bm (K:PySem.W.Frag) (hK:X.K = K) {name:Str} {apos:Pos} {T id:String} {r:V -> List V -> Hp -> VK -> Prop} (pa:PlainAttrs T) (slot:Slot T name id) (hty:typeOf (.builtin id) = pure (.type "method_descriptor")) (hm:MtR X id r) (ho:QE X o to) (ha:QA X (e :: es) t)
  (hbase:autoParam (attributeBase o name X.env (eval o X.env) = eval o X.env) L2.aRfl._auto_1) (hline:autoParam ((apos.endLine == pos.line) = true) L2.aRfl._auto_1) (h:autoParam ((e :: es).all nst = true) L2.aRfl._auto_1) (hl:autoParam ((e :: es).length < 30) L2.aDec._auto_1):QE X (.Call (.Attribute o name apos) (e :: es) [] pos) (tBM K T r to t):=by
 subst hK;exact ⟨pe_bmQ pa slot hty hm ho.h ha.h hbase hline h hl⟩
theorem comp {osc scope:Scope} {ON own N:List Str} {tg iter elt:Expr} {ifs:List Expr} {wi:TI} {g:TG} {tc:TT} (S:CompScope osc ON scope own N) (hosc:X.env.scope = osc) (hON:X.N = ON) (hc:X.calm = true) (hi:QI X tg iter wi)
  (hg:∀ C s H fp,QG (cxComp X scope N C s H fp) tg g) (ht:∀ C s H fp,QTs (cxComp X scope N C s H fp) ifs tc) (he:∀ C s H fp,QE (cxComp X scope N C s H fp) elt te) (hs:∀ x,foldedSetIterable iter X.env x = pure x:=by intro _;rfl) :
  QE X (.ListComp elt [⟨tg,iter,ifs,0⟩] scope pos) (tComp wi own.length g tc te):=⟨pe_comp S hosc hON hc hi.h (fun C s H fp => (hg C s H fp).h) (fun C s H fp => (ht C s H fp).h) (fun C s H fp => (he C s H fp).h) hs⟩
theorem tcmp {o:CmpOp} {r:R2} (ho:OpR X (compareOp o) r) (ha:QE X a ta) (hb:QE X b tb) (hm:autoParam (behindInMarks o b = false) L2.aRfl._auto_1):QT X (.Compare a [o] [b] pos) (tTest (tOp r ta tb)):=⟨pt_cmpR ho ha.h hb.h hm⟩
theorem tw (h:QW X e tA):QT X e tA:=⟨h.h.pt⟩
theorem tnot (ha:QT X a tA):QT X (.UnaryOp .Not a pos) (tNot tA):=⟨pt_not ha.h⟩
def tTru (K:PySem.W.Frag) (ta:TE):TT:=fun σ H Q => ta σ H fun x H' => ∃ k,TruV K x H' k /\ Q k H'
theorem ttru (K:PySem.W.Frag) (hK:X.K = K) (ha:QE X a ta) (he:autoParam (tru a = true) L2.aRfl._auto_1):QT X a (tTru K ta):=by subst hK;exact ⟨pt_truth ha.h (ptr he)⟩
theorem wand1 (ha:QT X a tA):QW X (.BoolOp .And [a] pos) tA:=⟨pw_and1 ha.h⟩
theorem wor1 (ha:QT X a tA):QW X (.BoolOp .Or [a] pos) tA:=⟨pw_or1 ha.h⟩
theorem wand (ha:QT X a tA) (hb:QW X (.BoolOp .And (b :: rest) pos) tB'):QW X (.BoolOp .And (a :: b :: rest) pos) (tAnd tA tB'):=⟨pw_and ha.h hb.h⟩
theorem wor (ha:QT X a tA) (hb:QW X (.BoolOp .Or (b :: rest) pos) tB'):QW X (.BoolOp .Or (a :: b :: rest) pos) (tOr tA tB'):=⟨pw_or ha.h hb.h⟩
theorem gname {i:Nat} (hN:X.N.Nodup) (hi:X.N[i]? = some x) (hx:Loc X.env.scope x) (hf:autoParam (X.fn x = true \/ X.env.scope.names.lookup x = some .local) L2.aLoc._auto_1):QG X (.Name x pos) (gName i):=⟨pg_name hN hi hx hf⟩
theorem gtup (K:PySem.W.Frag) (hK:X.K = K) {k n:Nat} {tg:TGs} (hc:X.calm = true) (h:QGs X es tg) (hn:autoParam ((assignEach es X.env).length = n) L2.aRfl._auto_1) (hst:autoParam ((assignEach es X.env).findIdx? (·.1) = none) L2.aRfl._auto_1):QG X (.Tuple es k pos) (gTup K n tg):=by subst hK;exact ⟨pg_tup hc h.h hn hst⟩
theorem gsnil:QGs X [] gNil:=⟨pgs_nil⟩
theorem gscons {g:TG} {u:TGs} (h1:QG X e g) (h2:QGs X es u) (hs:autoParam ((assignEach (e :: es) X.env).map (·.2) = assign e X.env :: (assignEach es X.env).map (·.2)) L2.aRfl._auto_1):QGs X (e :: es) (gCons g u):=⟨pgs_cons h1.h h2.h hs⟩
theorem gsub {i:Expr} {ti:TE} (ho:QE X o to) (hi:QE X i ti)
  (ha:∀ v,assign (.Subscript o i pos) X.env v = (do
   let ov <- holding [v] (eval o X.env)
   let iv <- holding [v,ov] (eval i X.env)
   standAt pos
   holding [v,ov,iv] (setItem ov iv v)
   release [v,ov,iv] []):=by intro _;rfl):QG X (.Subscript o i pos) (gSub to ti uSet):=⟨pg_sub ho.h hi.h uset ha⟩
theorem rng1 {tg:Expr} {ta:TA} (hg:Gl X "range") (hm:X.mg "range" = none) (ha:QA X [a] ta) (h:autoParam (nst a = true) L2.aRfl._auto_1):QI X tg (.Call (.Name "range" p) [a] [] pos) (iRng1 ta):=⟨pi_range1Q hg hm ha.h h⟩
theorem ts0:QTs X [] tTrue:=⟨pts_nil⟩
theorem ts1 (h:QT X c tA):QTs X [c] tA:=⟨pts_one h.h⟩
end
section
variable {X:Cx} {e o tg:Expr} {te to:TE} {st:Stmt} {sts xs ys:List Stmt} {t u:TS} {pos pos':Pos} {x:Str}
theorem bnil:QB X [] tNext:=⟨pss_nil⟩
theorem bone (h:QS X st t):QB X [st] t:=⟨pss_one h.h⟩
theorem bcons (h:QS X st t) (h2:QB X sts u):QB X (st :: sts) (tSeq t u):=⟨pss_cons h.h h2.h⟩
theorem set {i:Nat} (hN:X.N.Nodup) (hi:X.N[i]? = some x) (hx:Loc X.env.scope x) (he:QE X e te) (hs:autoParam (noc e = true) L2.aRfl._auto_1) (hf:autoParam (X.fn x = true \/ X.env.scope.names.lookup x = some .local) L2.aLoc._auto_1) :
  QS X (.Assign [.Name x pos'] e pos) (tAsg te (gName i)):=⟨ps_set hN hi hx he.h (swp hs) hf⟩
theorem setC {osc scope:Scope} {ON own N:List Str} {tg iter elt:Expr} {ifs:List Expr} {p2:Pos} {wi:TI} {g:TG} {tc:TT} {j:Nat} (hN:X.N.Nodup) (hj:X.N[j]? = some x) (hx:Loc X.env.scope x) (S:CompScope osc ON scope own N) (hosc:X.env.scope = osc) (hON:X.N = ON) (hc:X.calm = true) (hi:QI X tg iter wi)
  (hg:∀ C s H fp,QG (cxComp X scope N C s H fp) tg g) (ht:∀ C s H fp,QTs (cxComp X scope N C s H fp) ifs tc) (he:∀ C s H fp,QE (cxComp X scope N C s H fp) elt te)
  (hsw:autoParam (swapsWith (.ListComp elt [⟨tg,iter,ifs,0⟩] scope p2) (some (.Name x pos')) pos.line X.env = pure true) L2.aRfl._auto_1)
  (hf:autoParam (X.fn x = true \/ X.env.scope.names.lookup x = some .local) L2.aLoc._auto_1) (hs:∀ x,foldedSetIterable iter X.env x = pure x:=by intro _;rfl) :
  QS X (.Assign [.Name x pos'] (.ListComp elt [⟨tg,iter,ifs,0⟩] scope p2) pos) (tAsg (tComp wi own.length g tc te) (gName j)):=⟨ps_setComp hN hj hx S hosc hON hc hi.h (fun C s H fp => (hg C s H fp).h) (fun C s H fp => (ht C s H fp).h) (fun C s H fp => (he C s H fp).h) hsw hf hs⟩
theorem asg {g:TG} (he:QE X e te) (hg:QG X tg g) (hs:autoParam (swapsWithSole [tg] e pos.line X.env = pure false) L2.aRfl._auto_1) (hw:autoParam (swappedStores [tg] e X.env = pure none) L2.aRfl._auto_1)
  (h1:autoParam ((assignEach [tg] X.env).map (·.2) = [assign tg X.env]) L2.aRfl._auto_1):QS X (.Assign [tg] e pos) (tAsg te g):=⟨ps_asg he.h hg.h hs hw h1⟩
theorem ret (he:QE X e te):QS X (.Return (some e) pos) (tRet te):=⟨ps_ret he.h⟩
theorem expr (he:QE X e te) (hs:autoParam (noc e = true) L2.aRfl._auto_1):QS X (.Expr e pos) (tDrop te):=⟨ps_expr he.h (swp hs)⟩
theorem ifS {c:Expr} {tc:TT} (hc:QT X c tc) (ha:QB X xs t) (hb:QB X ys u):QS X (.If c xs ys pos) (tIfS tc t u):=⟨ps_if hc.h ha.h hb.h⟩
theorem forS {iter:Expr} {wi:TI} {g:TG} (hp:PassesOwn (model X.prog X.w) X.A X.env X.xe) (hc:X.calm = true) (hi:QI X tg iter wi) (hg:QG X tg g) (hb:QB X xs t) (hs:∀ x,foldedSetIterable iter X.env x = pure x:=by intro _;rfl):QS X (.For tg iter xs [] pos) (tFor wi g t):=⟨ps_for hp hc hi.h hg.h hb.h hs⟩
end
end Z
namespace Ap
end Ap
theorem HasFn.okQ {P:Program} {w:World} {K:PySem.W.Frag} {mg:Str -> Option Value} {base:Heap} {x:Str} {st:Stmt} {N ps:List Str} {k:Nat} {sp:Sp} (F:HasFn K mg x st ps) (S:FnScope N ps (defScope st)) (len:∀ vs H Q E,sp vs H Q E -> vs.length = ps.length)
  (hbody:∀ (f:Addr) (cdv:Value) (A:Around) (outer:List Env) (s:Shared) (H:Hp) (vs:List V) (Q:VK) (E:XK),Room k (A.deeper (envOfC x (defScope st) s.heap.objs.size f cdv)) -> sp vs H Q E ->
   ∃ t,QB (cxOf CX0 P w K mg base N x (defScope st) f cdv A outer s H E).nox (defBody st) t /\ t { nx:=fun _ H' => Q .non H',rt:=Q } (start N vs) H):CallOk P w K mg base CX0 (k + 1) x ps sp :=
 F.ok S len fun f cdv A outer s H vs Q E hr h => let ⟨t,q,r⟩:=hbody f cdv A outer s H vs Q E hr h;⟨t,q.h,r⟩
theorem fun_okQ {P:Program} {w:World} {K:PySem.W.Frag} {mg:Str -> Option Value} {base:Heap} {x:Str} {st:Stmt} {N ps:List Str} {k:Nat} {sp:Sp} {f:Addr} {fd:FuncData} (F:Fun K x x st f fd) (S:FnScope N ps (defScope st)) (len:∀ vs H Q E,sp vs H Q E -> vs.length = ps.length)
  (hbody:∀ (cdv:Value) (A:Around) (outer:List Env) (s:Shared) (H:Hp) (vs:List V) (Q:VK) (E:XK),Room k (A.deeper (envOfC x (defScope st) s.heap.objs.size f cdv)) -> sp vs H Q E ->
   ∃ t,QB (cxOf CX0 P w K mg base N x (defScope st) f cdv A outer s H E).nox (defBody st) t /\ t { nx:=fun _ H' => Q .non H',rt:=Q } (start N vs) H):FnOk P w K mg base CX0 (k + 1) f fd ps sp :=
 F.ok S len fun cdv A outer s H vs Q E hr h => let ⟨t,q,r⟩:=hbody cdv A outer s H vs Q E hr h;⟨t,q.h,r⟩
def isX (e:Addr) (cls:Value) (d:Option Addr) (h:Heap):Prop:=∃ o vs,h.get? e = some o /\ o.cls = cls /\ o.dict = d /\ o.data = .fields vs
inductive T where
 | non | bl (b:Bool) | int (i:Int) | str (x:Str) | tup (ts:List T) | lst (ts:List T) | rol (ts:List T) | rng (lo hi:Int) | ktp (ts:List T) | dic (ks:List Key) (ts:List T) | exc (c:Value) (f:Option (Str × Int))
noncomputable abbrev AP':=Addr -> Prop
def KTp (K:PySem.W.Frag) (a:Addr) (xs:List V):Prop:=∃ (o:Obj) (its:Array Value) (n:Nat),K.lookup a = some o /\ o.cls = .type "tuple" /\ o.data = .seq its n /\ its.size <= sizeLine /\ Vals xs its.toList
def KLs (K:PySem.W.Frag) (a:Addr) (xs:List V):Prop:=∃ (o:Obj) (its:Array Value) (n:Nat),K.lookup a = some o /\ o.cls = .type "list" /\ o.dict = none /\ o.data = .seq its n /\ its.size <= sizeLine /\ Vals xs its.toList
def LB (K:PySem.W.Frag) (H:Hp) (B:AP') (a:Addr) (xs:List V):Prop:=(¬ B a /\ Rd H a (.lst xs)) \/ KLs K a xs
mutual
inductive Rep (K:PySem.W.Frag) (H:Hp) (B:AP'):V -> T -> Prop
 | non:Rep K H B .non .non
 | bl (b:Bool):Rep K H B (.bl b) (.bl b)
 | int (i:Int):Rep K H B (.int i) (.int i)
 | str (x:Str):Rep K H B (.str x) (.str x)
 | tup {a:Addr} {vs:List V} {ts:List T} (n:¬ B a) (h:H a = some (.tup vs)) (r:Reps K H B vs ts):Rep K H B (.ref a) (.tup ts)
 | ktp {a:Addr} {vs:List V} {ts:List T} (h:KTp K a vs) (r:Reps K H B vs ts):Rep K H B (.ref a) (.ktp ts)
 | lst {a:Addr} {vs:List V} {ts:List T} (n:¬ B a) (h:H a = some (.lst vs)) (r:Reps K H B vs ts):Rep K H B (.ref a) (.lst ts)
 | rol {a:Addr} {vs:List V} {ts:List T} (h:LB K H B a vs) (r:Reps K H B vs ts):Rep K H B (.ref a) (.rol ts)
 | rng {a:Addr} {lo hi:Int} (n:¬ B a) (h:H a = some (.rng lo hi)):Rep K H B (.ref a) (.rng lo hi)
 | dic {a:Addr} {ks:List Key} {vs:List V} {ts:List T} (n:¬ B a) (h:Rd H a (.dK (ks.zip vs))) (l:ks.length = vs.length) (r:Reps K H B vs ts):Rep K H B (.ref a) (.dic ks ts)
 | exc {a:Addr} {c:Value} (n:¬ B a) (h:H a = some (.ext (isX a c none))):Rep K H B (.ref a) (.exc c none)
 | exa {a d:Addr} {c:Value} {x:Str} {i:Int} (n:¬ B a) (h:H a = some (.ext (isX a c (some d)))) (m:¬ B d) (g:H d = some (.xd [(x,.int i)])):Rep K H B (.ref a) (.exc c (some (x,i)))
inductive Reps (K:PySem.W.Frag) (H:Hp) (B:AP'):List V -> List T -> Prop
 | nil:Reps K H B [] []
 | cons {v:V} {t:T} {vs:List V} {ts:List T} (h:Rep K H B v t) (r:Reps K H B vs ts):Reps K H B (v :: vs) (t :: ts)
end
def Fr (B:AP') (H:Hp) (B':AP') (H':Hp):Prop:=∀ b o,H b = some o -> ¬ B b -> H' b = some o /\ ¬ B' b
theorem Fr.refl {B:AP'} {H:Hp}:Fr B H B H:=fun _ _ h n => ⟨h,n⟩
theorem Fr.trans {B B1 B2:AP'} {H H1 H2:Hp} (a:Fr B H B1 H1) (b:Fr B1 H1 B2 H2):Fr B H B2 H2:=fun c o h n => let ⟨h1,n1⟩:=a c o h n;b c o h1 n1
theorem Fr.same {B:AP'} {H H':Hp} (s:Same H H'):Fr B H B H':=fun b o h n => ⟨s b o h,n⟩
theorem Fr.less {B B':AP'} {H:Hp} (s:∀ b,B' b -> B b):Fr B H B' H:=fun b o h n => ⟨h,fun z => n (s b z)⟩
theorem Fr.set {B:AP'} {H:Hp} {a:Addr} {o:HO} (h:B a):Fr B H B (upd H a o):=fun b u e n => ⟨by rw [upd_ne (by rintro rfl;exact n h)];exact e,n⟩
theorem Same.new {H:Hp} {p:Addr} {o:HO} (h:H p = none):Same H (upd H p o):=fun b u e => by rw [upd_ne (ne_of_none e h)];exact e
theorem Fr.more {B:AP'} {H:Hp} {p:Addr} {o:HO} (h:H p = none):Fr B H (fun b => b = p \/ B b) (upd H p o):=fun b u e n => ⟨Same.new h b u e,fun z => z.elim (ne_of_none e h) n⟩
theorem Rd.fr {B B':AP'} {H H':Hp} {a:Addr} {u:HO} (f:Fr B H B' H') (n:¬ B a) (h:Rd H a u):¬ B' a /\ Rd H' a u:=by
 rcases h with h | ⟨o,h⟩
 ·exact ⟨(f a _ h n).2,.inl (f a _ h n).1⟩
 ·exact ⟨(f a _ h n).2,.inr ⟨o,(f a _ h n).1⟩⟩
section
variable {K:PySem.W.Frag} {H H':Hp} {B B':AP'}
theorem LB.fr {a:Addr} {xs:List V} (f:Fr B H B' H') (h:LB K H B a xs):LB K H' B' a xs:=h.elim (fun z => .inl (z.2.fr f z.1)) .inr
theorem LB.sq {a:Addr} {xs:List V} (h:LB K H B a xs):SqL K H a xs:=h.elim (fun z => .inl z.2) .inr
mutual
theorem Rep.fr (f:Fr B H B' H'):∀ {v:V} {t:T},Rep K H B v t -> Rep K H' B' v t
 | _,_,.non => .non
 | _,_,.bl b => .bl b
 | _,_,.int i => .int i
 | _,_,.str x => .str x
 | _,_,.tup n h r => .tup (f _ _ h n).2 (f _ _ h n).1 (Reps.fr f r)
 | _,_,.ktp h r => .ktp h (Reps.fr f r)
 | _,_,.lst n h r => .lst (f _ _ h n).2 (f _ _ h n).1 (Reps.fr f r)
 | _,_,.rol h r => .rol (h.fr f) (Reps.fr f r)
 | _,_,.rng n h => .rng (f _ _ h n).2 (f _ _ h n).1
 | _,_,.dic n h l r => .dic (Rd.fr f n h).1 (Rd.fr f n h).2 l (Reps.fr f r)
 | _,_,.exc n h => .exc (f _ _ h n).2 (f _ _ h n).1
 | _,_,.exa n h m g => .exa (f _ _ h n).2 (f _ _ h n).1 (f _ _ g m).2 (f _ _ g m).1
theorem Reps.fr (f:Fr B H B' H'):∀ {vs:List V} {ts:List T},Reps K H B vs ts -> Reps K H' B' vs ts
 | _,_,.nil => .nil
 | _,_,.cons h r => .cons (Rep.fr f h) (Reps.fr f r)
end
theorem Reps.length:∀ {vs:List V} {ts:List T},Reps K H B vs ts -> vs.length = ts.length
 | _,_,.nil => rfl
 | _,_,.cons _ r => congrArg (· + 1) (Reps.length r)
theorem Reps.get:∀ {vs:List V} {ts:List T} {i:Nat} {t:T},Reps K H B vs ts -> ts[i]? = some t -> ∃ v,vs[i]? = some v /\ Rep K H B v t
 | _,_,_,_,.nil,e => by simp at e
 | _,_,0,_,.cons h _,e => by simp at e;subst e;exact ⟨_,rfl,h⟩
 | _,_,i + 1,_,.cons _ r,e => by
  obtain ⟨v,e1,h⟩:=Reps.get r (by simpa using e)
  exact ⟨v,by simpa using e1,h⟩
theorem Reps.append:∀ {vs ws:List V} {ts us:List T},Reps K H B vs ts -> Reps K H B ws us -> Reps K H B (vs ++ ws) (ts ++ us)
 | _,_,_,_,.nil,s => s
 | _,_,_,_,.cons h r,s => .cons h (Reps.append r s)
theorem Reps.take:∀ {vs:List V} {ts:List T} (n:Nat),Reps K H B vs ts -> Reps K H B (vs.take n) (ts.take n)
 | _,_,0,_ => .nil
 | _,_,_ + 1,.nil => .nil
 | _,_,n + 1,.cons h r => .cons h (Reps.take n r)
theorem Reps.drop:∀ {vs:List V} {ts:List T} (n:Nat),Reps K H B vs ts -> Reps K H B (vs.drop n) (ts.drop n)
 | _,_,0,r => r
 | _,_,_ + 1,.nil => .nil
 | _,_,n + 1,.cons _ r => Reps.drop n r
theorem Reps.set:∀ {vs:List V} {ts:List T} {v:V} {t:T} (i:Nat),Rep K H B v t -> Reps K H B vs ts -> Reps K H B (vs.set i v) (ts.set i t)
 | _,_,_,_,_,_,.nil => .nil
 | _,_,_,_,0,h,.cons _ r => .cons h r
 | _,_,_,_,i + 1,h,.cons q r => .cons q (Reps.set i h r)
theorem Reps.rep {vs:List V} {ts:List T} (r:Reps K H B vs ts):∀ n:Nat,Reps K H B (List.replicate n vs).flatten (List.replicate n ts).flatten
 | 0 => .nil
 | n + 1 => by rw [List.replicate_succ,List.replicate_succ,List.flatten_cons,List.flatten_cons];exact r.append (Reps.rep r n)
theorem Reps.erase:∀ {vs:List V} {ts:List T} (i:Nat),Reps K H B vs ts -> Reps K H B (vs.eraseIdx i) (ts.eraseIdx i)
 | _,_,_,.nil => .nil
 | _,_,0,.cons _ r => r
 | _,_,i + 1,.cons h r => .cons h (Reps.erase i r)
theorem Reps.atI {vs:List V} {ts:List T} {i:Int} {t:T} (r:Reps K H B vs ts) (e:L2.atI ts i = some t):∃ v,L2.atI vs i = some v /\ Rep K H B v t:=by
 unfold L2.atI at e ⊢;rw [r.length]
 cases q:ixN ts.length i with
 | none => rw [q] at e;cases e
 | some j => rw [q] at e;exact r.get e
end
def flatT:T -> Bool
 | .non | .bl _ | .int _ | .str _ => true
 | _ => false
theorem Rep.flat {K:PySem.W.Frag} {H H':Hp} {B B':AP'} {v:V} {t:T} (h:Rep K H B v t) (f:flatT t = true):Rep K H' B' v t:=by
 cases h with
 | non => exact .non
 | bl b => exact .bl b
 | int i => exact .int i
 | str x => exact .str x
 | tup => cases f
 | ktp => cases f
 | lst => cases f
 | rol => cases f
 | rng => cases f
 | dic => cases f
 | exc => cases f
 | exa => cases f
theorem Reps.flat {K:PySem.W.Frag} {H H':Hp} {B B':AP'}:∀ {vs:List V} {ts:List T},Reps K H B vs ts -> ts.all flatT = true -> Reps K H' B' vs ts
 | _,_,.nil,_ => .nil
 | _,_,.cons h r,f => by
  rw [List.all_cons,Bool.and_eq_true] at f;exact .cons (h.flat f.1) (Reps.flat r f.2)
def Bx (K:PySem.W.Frag) (H:Hp) (B:AP') (a:Addr) (c:T):Prop:=match c with
 | .lst ts => ∃ vs,H a = some (.lst vs) /\ Reps K H B vs ts
 | .dic ks ts => ∃ vs,H a = some (.dK (ks.zip vs)) /\ ks.length = vs.length /\ Reps K H B vs ts
 | _ => False
theorem Bx.trk {K:PySem.W.Frag} {H:Hp} {B:AP'} {a:Addr} {c:T} (h:Bx K H B a c):∃ o,H a = some o:=by
 unfold Bx at h
 split at h
 ·obtain ⟨vs,e,_⟩:=h;exact ⟨_,e⟩
 ·obtain ⟨vs,e,_⟩:=h;exact ⟨_,e⟩
 ·exact h.elim
theorem Bx.of {K:PySem.W.Frag} {H H':Hp} {B B':AP'} {a:Addr} {c:T} (h:Bx K H B a c) (e:H' a = H a) (f:Fr B H B' H'):Bx K H' B' a c:=by
 unfold Bx at h ⊢
 split at h
 ·obtain ⟨vs,q,r⟩:=h;exact ⟨vs,e.trans q,r.fr f⟩
 ·obtain ⟨vs,q,l,r⟩:=h;exact ⟨vs,e.trans q,l,r.fr f⟩
 ·exact h.elim
theorem Bx.is {K:PySem.W.Frag} {H:Hp} {B:AP'} {a:Addr} {c:T} (h:Bx K H B a c):(∃ ts vs,c = .lst ts /\ H a = some (.lst vs) /\ Reps K H B vs ts) \/ ∃ ks ts vs,c = .dic ks ts /\ H a = some (.dK (ks.zip vs)) /\ ks.length = vs.length /\ Reps K H B vs ts:=by
 unfold Bx at h
 split at h
 ·obtain ⟨vs,q,r⟩:=h;exact .inl ⟨_,vs,rfl,q,r⟩
 ·obtain ⟨vs,q,l,r⟩:=h;exact .inr ⟨_,_,vs,rfl,q,l,r⟩
 ·exact h.elim
theorem Bx.rep {K:PySem.W.Frag} {H:Hp} {B:AP'} {a:Addr} {c:T} (h:Bx K H B a c) (n:¬ B a):Rep K H B (.ref a) c:=by
 rcases h.is with ⟨ts,vs,rfl,e,r⟩ | ⟨ks,ts,vs,rfl,e,l,r⟩
 ·exact .lst n e r
 ·exact .dic n (.inl e) l r
inductive Sl where
 | un | tr (t:T) | bx (c:T) | pb (c:T)
noncomputable abbrev Mu:=List Sl
inductive R where
 | tr (t:T) | br (i:Nat) | fr (c:T)
structure Fx where
 K:PySem.W.Frag
 H0:Hp
 P:Nat -> Option Addr
 Bc:AP'
 bh:∀ b,Bc b -> ∃ o,H0 b = some o
 G:Addr -> Option (List V)
def SlOk (F:Fx) (ad:Nat -> Addr) (B:AP') (H:Hp) (i:Nat) (s:Sl) (x:Option (Option V)):Prop:=match s with
 | .un => True
 | .tr t => ∃ v,x = some (some v) /\ Rep F.K H B v t
 | .bx c => x = some (some (.ref (ad i))) /\ B (ad i) /\ F.H0 (ad i) = none /\ F.P i = none /\ Bx F.K H B (ad i) c
 | .pb c => x = some (some (.ref (ad i))) /\ B (ad i) /\ F.P i = some (ad i) /\ Bx F.K H B (ad i) c
def Sl.box:Sl -> Option T
 | .bx c => some c
 | .pb c => some c
 | _ => none
structure Rl (F:Fx) (ad:Nat -> Addr) (B:AP') (σ:St) (H:Hp) (μ:Mu):Prop where
 len:μ.length = σ.length
 slot:∀ i s,μ[i]? = some s -> SlOk F ad B H i s σ[i]?
 inj:∀ i j s u c d,μ[i]? = some s -> μ[j]? = some u -> s.box = some c -> u.box = some d -> ad i = ad j -> i = j
 par:∀ i a,F.P i = some a -> (∃ c,μ[i]? = some (.pb c)) /\ ad i = a
 bc:∀ b,F.Bc b -> B b
 trk:∀ b,B b -> ∃ o,H b = some o
 old:∀ b o,F.H0 b = some o -> (∀ i,F.P i ≠ some b) -> H b = some o
 gh:∀ a vs,F.G a = some vs -> H a = some (.lst vs) /\ B a /\ ∀ (i:Nat) (s:Sl) (c:T),μ[i]? = some s -> s.box = some c -> ad i ≠ a
theorem SlOk.boxed {F:Fx} {ad:Nat -> Addr} {B:AP'} {H:Hp} {i:Nat} {s:Sl} {x:Option (Option V)} {c:T} (h:SlOk F ad B H i s x) (e:s.box = some c):x = some (some (.ref (ad i))) /\ B (ad i) /\ Bx F.K H B (ad i) c /\ (F.P i = some (ad i) \/ F.H0 (ad i) = none):=by
 unfold SlOk at h
 split at h
 ·cases e
 ·cases e
 ·cases e;exact ⟨h.1,h.2.1,h.2.2.2.2,.inr h.2.2.1⟩
 ·cases e;exact ⟨h.1,h.2.1,h.2.2.2,.inl h.2.2.1⟩
def Hv (F:Fx) (ad:Nat -> Addr) (B:AP') (H:Hp) (μ:Mu) (v:V) (r:R):Prop:=match r with
 | .tr t => Rep F.K H B v t
 | .br i => v = .ref (ad i) /\ ∃ s c,μ[i]? = some s /\ s.box = some c
 | .fr _ => False
def more (B:AP') (a:Addr):AP':=fun b => b = a \/ B b
def Vr (F:Fx) (ad:Nat -> Addr) (B:AP') (σ:St) (H:Hp) (μ:Mu) (v:V) (r:R):Prop:=match r with
 | .fr c => Rl F ad B σ H μ /\ ∃ a,v = .ref a /\ ¬ B a /\ F.H0 a = none /\ Rl F ad (more B a) σ H μ /\ Bx F.K H (more B a) a c
 | r => Rl F ad B σ H μ /\ Hv F ad B H μ v r
def R.d:R -> R
 | .fr c => .tr c
 | r => r
section
variable {F:Fx} {ad:Nat -> Addr} {B B':AP'} {σ:St} {H H':Hp} {μ:Mu} {v:V} {r:R}
theorem Rl.new0 (h:Rl F ad B σ H μ) {p:Addr} (e:H p = none):F.H0 p = none:=by
 cases q:F.H0 p with
 | none => rfl
 | some o =>
  by_cases z:∃ i,F.P i = some p
  ·obtain ⟨i,z⟩:=z;obtain ⟨⟨c,hc⟩,ha⟩:=h.par i p z;have:=(h.slot i _ hc).boxed (c:=c) rfl;obtain ⟨o',e'⟩:=h.trk _ this.2.1;rw [ha,e] at e';cases e'
  ·have:=h.old p o q fun i zi => z ⟨i,zi⟩;rw [e] at this;cases this
theorem Rl.notB (h:Rl F ad B σ H μ) {p:Addr} (e:H p = none):¬ B p:=fun z => by
 obtain ⟨o,q⟩:=h.trk p z;rw [e] at q;cases q
theorem Rl.fr (h:Rl F ad B σ H μ) (s:Same H H') (hB:∀ b,B b -> B' b) (hT:∀ b,B' b -> ∃ o,H' b = some o) (f:Fr B H B' H'):Rl F ad B' σ H' μ:=by
 refine ⟨h.len,fun i s' e => ?_,h.inj,h.par,fun b z => hB b (h.bc b z),hT,fun b o e n => s b o (h.old b o e n),fun a vs e => let ⟨g1,g2,g3⟩:=h.gh a vs e;⟨s a _ g1,hB a g2,g3⟩⟩
 have k:=h.slot i s' e;unfold SlOk at k ⊢
 split at k
 ·trivial
 ·obtain ⟨v,e1,r⟩:=k;exact ⟨v,e1,r.fr f⟩
 ·obtain ⟨e1,b,z,p,x⟩:=k;obtain ⟨o,q⟩:=x.trk;exact ⟨e1,hB _ b,z,p,x.of ((s _ _ q).trans q.symm) f⟩
 ·obtain ⟨e1,b,p,x⟩:=k;obtain ⟨o,q⟩:=x.trk;exact ⟨e1,hB _ b,p,x.of ((s _ _ q).trans q.symm) f⟩
theorem Rl.same (h:Rl F ad B σ H μ) (s:Same H H'):Rl F ad B σ H' μ:=h.fr s (fun _ z => z) (fun b z => let ⟨o,e⟩:=h.trk b z;⟨o,s b o e⟩) (Fr.same s)
theorem Rl.new (h:Rl F ad B σ H μ) {p:Addr} {o:HO} (e:H p = none):Rl F ad (more B p) σ (upd H p o) μ :=
 h.fr (Same.new e) (fun _ z => .inr z) (fun b z => z.elim (fun q => by subst q;exact ⟨o,upd_same⟩) fun q => let ⟨u,w⟩:=h.trk b q;⟨u,Same.new e b u w⟩) (Fr.more e)
theorem Rl.less (h:Rl F ad B σ H μ) (s:∀ b,B' b -> B b) (hb:∀ b,F.Bc b -> B' b) (own:∀ i s' c,μ[i]? = some s' -> s'.box = some c -> B' (ad i)) (hg:∀ a vs,F.G a = some vs -> B' a):Rl F ad B' σ H μ:=by
 refine ⟨h.len,fun i s' e => ?_,h.inj,h.par,hb,fun b z => h.trk b (s b z),h.old,fun a vs e => let ⟨g1,g2,g3⟩:=h.gh a vs e;⟨g1,hg a vs e,g3⟩⟩
 have k:=h.slot i s' e;unfold SlOk at k ⊢
 split at k
 ·trivial
 ·obtain ⟨v,e1,r⟩:=k;exact ⟨v,e1,r.fr (Fr.less s)⟩
 ·obtain ⟨e1,b,z,p,x⟩:=k;exact ⟨e1,own i _ _ e rfl,z,p,x.of rfl (Fr.less s)⟩
 ·obtain ⟨e1,b,p,x⟩:=k;exact ⟨e1,own i _ _ e rfl,p,x.of rfl (Fr.less s)⟩
theorem Vr.rl (h:Vr F ad B σ H μ v r):Rl F ad B σ H μ:=by
 cases r with
 | tr t => exact h.1
 | br i => exact h.1
 | fr c => exact h.1
theorem Vr.hv (h:Vr F ad B σ H μ v r):Hv F ad B H μ v r.d:=by
 cases r with
 | tr t => exact h.2
 | br i => exact h.2
 | fr c =>
  obtain ⟨_,a,rfl,n,_,_,x⟩:=h;exact (x.of rfl (Fr.less fun _ z => .inr z)).rep n
def Kp (μ μ':Mu):Prop:=∀ i:Nat,((μ[i]?).bind Sl.box).isSome = ((μ'[i]?).bind Sl.box).isSome
theorem Kp.refl (μ:Mu):Kp μ μ:=fun i => rfl
theorem Kp.trans {μ μ1 μ2:Mu} (a:Kp μ μ1) (b:Kp μ1 μ2):Kp μ μ2:=fun i => (a i).trans (b i)
theorem Kp.symm {μ μ1:Mu} (a:Kp μ μ1):Kp μ1 μ:=fun i => (a i).symm
theorem Kp.fwd {μ μ':Mu} (k:Kp μ μ'):∀ (i:Nat) (s:Sl) (c:T),μ[i]? = some s -> s.box = some c -> ∃ (s':Sl) (c':T),μ'[i]? = some s' /\ s'.box = some c':=fun i s c e b => by
 have h:=k i;rw [e] at h;have h1:(s.box).isSome = ((μ'[i]?).bind Sl.box).isSome:=h;rw [b] at h1
 cases q:μ'[i]? with
 | none => rw [q] at h1;cases h1
 | some s' =>
  rw [q] at h1;have h2:true = (s'.box).isSome:=h1
  cases q2:s'.box with
  | none => rw [q2] at h2;cases h2
  | some c' => exact ⟨s',c',rfl,q2⟩
theorem Kp.set {μ:Mu} {i:Nat} {s s':Sl} {c d:T} (e:μ[i]? = some s) (b:s.box = some c) (b':s'.box = some d):Kp μ (μ.set i s'):=fun j => by
 have hi:i < μ.length:=(List.getElem?_eq_some_iff.mp e).1;by_cases z:i = j
 ·subst z;rw [List.getElem?_set_self hi,e];show (s.box).isSome = (s'.box).isSome;rw [b,b'];rfl
 ·rw [List.getElem?_set_ne z]
theorem Hv.fr {ad:Nat -> Addr} {μ':Mu} (h:Hv F ad B H μ v r) (f:Fr B H B' H') (k:Kp μ μ'):Hv F ad B' H' μ' v r:=by
 cases r with
 | tr t => exact Rep.fr f h
 | br i => obtain ⟨e,s,c,h1,h2⟩:=h;exact ⟨e,k.fwd i s c h1 h2⟩
 | fr c => exact h.elim
def cont (μ:Mu):R -> Option T
 | .tr t => some t
 | .br i => (μ[i]?).bind Sl.box
 | .fr c => some c
inductive Vw (K:PySem.W.Frag) (H:Hp) (B:AP'):V -> T -> Prop
 | non:Vw K H B .non .non
 | bl (b:Bool):Vw K H B (.bl b) (.bl b)
 | int (i:Int):Vw K H B (.int i) (.int i)
 | str (x:Str):Vw K H B (.str x) (.str x)
 | tup {a:Addr} {vs:List V} {ts:List T} (h:H a = some (.tup vs)) (r:Reps K H B vs ts):Vw K H B (.ref a) (.tup ts)
 | ktp {a:Addr} {vs:List V} {ts:List T} (h:KTp K a vs) (r:Reps K H B vs ts):Vw K H B (.ref a) (.ktp ts)
 | lst {a:Addr} {vs:List V} {ts:List T} (h:H a = some (.lst vs)) (r:Reps K H B vs ts):Vw K H B (.ref a) (.lst ts)
 | rol {a:Addr} {vs:List V} {ts:List T} (h:SqL K H a vs) (r:Reps K H B vs ts):Vw K H B (.ref a) (.rol ts)
 | rng {a:Addr} {lo hi:Int} (h:H a = some (.rng lo hi)):Vw K H B (.ref a) (.rng lo hi)
 | dic {a:Addr} {ks:List Key} {vs:List V} {ts:List T} (h:Rd H a (.dK (ks.zip vs))) (l:ks.length = vs.length) (r:Reps K H B vs ts):Vw K H B (.ref a) (.dic ks ts)
 | exc {a:Addr} {c:Value} (h:H a = some (.ext (isX a c none))):Vw K H B (.ref a) (.exc c none)
 | exa {a d:Addr} {c:Value} {x:Str} {i:Int} (h:H a = some (.ext (isX a c (some d)))) (g:H d = some (.xd [(x,.int i)])):Vw K H B (.ref a) (.exc c (some (x,i)))
theorem Rep.vw {K:PySem.W.Frag} {t:T} (h:Rep K H B v t):Vw K H B v t:=by
 cases h with
 | non => exact .non
 | bl b => exact .bl b
 | int i => exact .int i
 | str x => exact .str x
 | tup n h r => exact .tup h r
 | ktp h r => exact .ktp h r
 | lst n h r => exact .lst h r
 | rol h r => exact .rol h.sq r
 | rng n h => exact .rng h
 | dic n h l r => exact .dic h l r
 | exc n h => exact .exc h
 | exa n h m g => exact .exa h g
theorem Hv.vw {t:T} (l:Rl F ad B σ H μ) (h:Hv F ad B H μ v r) (e:cont μ r = some t):Vw F.K H B v t:=by
 cases r with
 | tr u => cases e;exact Rep.vw h
 | br i =>
  obtain ⟨rfl,s,c,h1,h2⟩:=h;have e2:(μ[i]?).bind Sl.box = some t:=e;rw [h1] at e2;have e':s.box = some t:=e2;rcases ((l.slot i s h1).boxed e').2.2.1.is with ⟨ts,vs,rfl,q,rr⟩ | ⟨ks,ts,vs,rfl,q,ll,rr⟩
  ·exact .lst q rr
  ·exact .dic (.inl q) ll rr
 | fr c => exact h.elim
def Sl.put:Sl -> T -> Sl
 | .bx _,c => .bx c
 | .pb _,c => .pb c
 | s,_ => s
theorem Sl.put_box {s:Sl} {c d:T} (e:s.box = some c):(s.put d).box = some d:=by
 cases s <;> first | rfl | cases e
theorem Rl.put {i:Nat} {s:Sl} {c:T} {vs:List V} {ts:List T} (l:Rl F ad B σ H μ) (e:μ[i]? = some s) (hb:s.box = some c) (r:Reps F.K H B vs ts):Rl F ad B σ (upd H (ad i) (.lst vs)) (μ.set i (s.put (.lst ts))):=by
 have k0:=(l.slot i s e).boxed hb;have hi:i < μ.length:=(List.getElem?_eq_some_iff.mp e).1;have f:Fr B H B (upd H (ad i) (.lst vs)):=Fr.set k0.2.1;have get:∀ j,(μ.set i (s.put (.lst ts)))[j]? = if j = i then some (s.put (.lst ts)) else μ[j]?:=fun j => by
  rw [List.getElem?_set];by_cases z:i = j
  ·subst z;simp [hi]
  ·rw [if_neg z,if_neg (fun q => z q.symm)]
 refine ⟨by rw [List.length_set];exact l.len,fun j s' e' => ?_,fun j k s1 s2 c1 c2 e1 e2 b1 b2 q => ?_,fun j a p => ?_,l.bc,fun b z => ?_,fun b o e' n => ?_,fun a ws ga => ?_⟩
 ·rw [get] at e';by_cases z:j = i
  ·subst z;rw [if_pos rfl] at e';cases e';have k:=l.slot j s e
   cases s with
   | un => cases hb
   | tr t => cases hb
   | bx d => exact ⟨k.1,k.2.1,k.2.2.1,k.2.2.2.1,vs,upd_same,r.fr f⟩
   | pb d => exact ⟨k.1,k.2.1,k.2.2.1,vs,upd_same,r.fr f⟩
  ·rw [if_neg z] at e';have k:=l.slot j s' e';have ne:∀ d,s'.box = some d -> ad j ≠ ad i:=fun d hd q => z (l.inj j i s' s d c e' e hd hb q);unfold SlOk at k ⊢
   split at k
   ·trivial
   ·obtain ⟨v,e1,r1⟩:=k;exact ⟨v,e1,r1.fr f⟩
   ·obtain ⟨e1,b,z0,p,x⟩:=k;exact ⟨e1,b,z0,p,x.of (upd_ne (ne _ rfl)) f⟩
   ·obtain ⟨e1,b,p,x⟩:=k;exact ⟨e1,b,p,x.of (upd_ne (ne _ rfl)) f⟩
 ·rw [get] at e1 e2;have h1:∃ u d,μ[j]? = some u /\ u.box = some d:=by
   by_cases z:j = i
   ·subst z;exact ⟨s,c,e,hb⟩
   ·rw [if_neg z] at e1;exact ⟨_,_,e1,b1⟩
  have h2:∃ u d,μ[k]? = some u /\ u.box = some d:=by
   by_cases z:k = i
   ·subst z;exact ⟨s,c,e,hb⟩
   ·rw [if_neg z] at e2;exact ⟨_,_,e2,b2⟩
  obtain ⟨u1,d1,g1,g2⟩:=h1;obtain ⟨u2,d2,g3,g4⟩:=h2;exact l.inj j k u1 u2 d1 d2 g1 g3 g2 g4 q
 ·obtain ⟨⟨d,hd⟩,ha⟩:=l.par j a p;refine ⟨?_,ha⟩;rw [get];by_cases z:j = i
  ·subst z;rw [e] at hd;cases hd;rw [if_pos rfl];exact ⟨_,rfl⟩
  ·rw [if_neg z];exact ⟨d,hd⟩
 ·by_cases z':b = ad i
  ·subst z';exact ⟨_,upd_same⟩
  ·rw [upd_ne z'];exact l.trk b z
 ·have ne:b ≠ ad i:=by
   rintro rfl;rcases k0.2.2.2 with z | z
   ·exact n i z
   ·rw [z] at e';cases e'
  rw [upd_ne ne];exact l.old b o e' n
 ·obtain ⟨g1,g2,g3⟩:=l.gh a ws ga;refine ⟨by rw [upd_ne (fun z => g3 i s c e hb z.symm)];exact g1,g2,fun j s' d e' b' => ?_⟩
  rw [get] at e';by_cases z:j = i
  ·subst z;exact g3 j s c e hb
  ·rw [if_neg z] at e';exact g3 j s' d e' b'
theorem Rl.setT {i:Nat} {t:T} (l:Rl F ad B σ H μ) (hp:∀ c,μ[i]? ≠ some (.pb c)) (h:Rep F.K H B v t):Rl F ad B (σ.set i (some v)) H (μ.set i (.tr t)):=by
 have get:∀ j,i < μ.length -> (μ.set i (.tr t))[j]? = if j = i then some (.tr t) else μ[j]?:=fun j hi => by
  rw [List.getElem?_set];by_cases z:i = j
  ·subst z;simp [hi]
  ·rw [if_neg z,if_neg (fun q => z q.symm)]
 by_cases hi:i < μ.length
 ·refine ⟨by rw [List.length_set,List.length_set];exact l.len,fun j s' e' => ?_,fun j k s1 s2 c1 c2 e1 e2 b1 b2 q => ?_,fun j a p => ?_,l.bc,l.trk,l.old,fun a ws ga => ?_⟩
  ·rw [get j hi] at e';by_cases z:j = i
   ·subst z;rw [if_pos rfl] at e';cases e';exact ⟨v,by rw [List.getElem?_set_self (by rw [<- l.len];exact hi)],h⟩
   ·rw [if_neg z] at e';rw [List.getElem?_set_ne (Ne.symm z)];exact l.slot j s' e'
  ·rw [get j hi] at e1;rw [get k hi] at e2;by_cases z:j = i
   ·rw [if_pos z] at e1;cases e1;cases b1
   ·by_cases z2:k = i
    ·rw [if_pos z2] at e2;cases e2;cases b2
    ·rw [if_neg z] at e1;rw [if_neg z2] at e2;exact l.inj j k _ _ _ _ e1 e2 b1 b2 q
  ·obtain ⟨⟨d,hd⟩,ha⟩:=l.par j a p;refine ⟨⟨d,?_⟩,ha⟩;rw [get j hi];by_cases z:j = i
   ·subst z;exact absurd hd (hp d)
   ·rw [if_neg z];exact hd
  ·obtain ⟨g1,g2,g3⟩:=l.gh a ws ga;refine ⟨g1,g2,fun j s' d e' b' => ?_⟩;rw [get j hi] at e';by_cases z:j = i
   ·rw [if_pos z] at e';cases e';cases b'
   ·rw [if_neg z] at e';exact g3 j s' d e' b'
 ·have hs:σ.length <= i:=by rw [<- l.len];lia
  rw [List.set_eq_of_length_le (show μ.length <= i by lia),List.set_eq_of_length_le hs]
  exact l
theorem Rl.setB {i:Nat} {c:T} {a:Addr} (l:Rl F ad (more B a) σ H μ) (hp:∀ c,μ[i]? ≠ some (.pb c)) (h0:F.H0 a = none) (n:¬ B a) (own:∀ j s c,μ[j]? = some s -> s.box = some c -> B (ad j)) (gB:∀ b vs,F.G b = some vs -> B b) (x:Bx F.K H (more B a) a c) :
  Rl F (fun j => if j = i then a else ad j) (more B a) (σ.set i (some (.ref a))) H (μ.set i (.bx c)):=by
 have get:∀ j,i < μ.length -> (μ.set i (.bx c))[j]? = if j = i then some (.bx c) else μ[j]?:=fun j hi => by
  rw [List.getElem?_set];by_cases z:i = j
  ·subst z;simp [hi]
  ·rw [if_neg z,if_neg (fun q => z q.symm)]
 have pi:F.P i = none:=by
  cases q:F.P i with
  | none => rfl
  | some b =>
   obtain ⟨⟨d,hd⟩,_⟩:=l.par i b q;exact absurd hd (hp d)
 by_cases hi:i < μ.length
 ·refine ⟨by rw [List.length_set,List.length_set];exact l.len,fun j s' e' => ?_,fun j k s1 s2 c1 c2 e1 e2 b1 b2 q => ?_,fun j a' p => ?_,l.bc,l.trk,l.old,fun b ws ga => ?_⟩
  ·rw [get j hi] at e';by_cases z:j = i
   ·subst z;rw [if_pos rfl] at e';cases e';show _ /\ _;simp only [if_pos];exact ⟨by rw [List.getElem?_set_self (by rw [<- l.len];exact hi)],.inl rfl,h0,pi,x⟩
   ·rw [if_neg z] at e';rw [List.getElem?_set_ne (Ne.symm z)];have k:=l.slot j s' e';unfold SlOk at k ⊢;simp only [if_neg z];exact k
  ·rw [get j hi] at e1;rw [get k hi] at e2;by_cases z:j = i
   ·by_cases z2:k = i
    ·rw [z,z2]
    ·rw [if_pos z,if_neg z2] at q;rw [if_neg z2] at e2;exact absurd (own k _ _ e2 b2) (by rw [<- q];exact n)
   ·by_cases z2:k = i
    ·rw [if_pos z2,if_neg z] at q;rw [if_neg z] at e1;exact absurd (own j _ _ e1 b1) (by rw [q];exact n)
    ·rw [if_neg z] at e1;rw [if_neg z2] at e2;rw [if_neg z,if_neg z2] at q;exact l.inj j k _ _ _ _ e1 e2 b1 b2 q
  ·obtain ⟨⟨d,hd⟩,ha⟩:=l.par j a' p;have z:j ≠ i:=by rintro rfl;exact hp d hd
   rw [get j hi,if_neg z];exact ⟨⟨d,hd⟩,by simp only [if_neg z];exact ha⟩
  ·obtain ⟨g1,g2,g3⟩:=l.gh b ws ga;refine ⟨g1,g2,fun j s' d e' b' => ?_⟩;rw [get j hi] at e';by_cases z:j = i
   ·simp only [if_pos z];rintro rfl;exact n (gB _ ws ga)
   ·rw [if_neg z] at e';simp only [if_neg z];exact g3 j s' d e' b'
 ·have hs:σ.length <= i:=by rw [<- l.len];lia
  rw [List.set_eq_of_length_le (show μ.length <= i by lia),List.set_eq_of_length_le hs]
  have ne:∀ j s,μ[j]? = some s -> j ≠ i:=fun j s e q => by
   have:=(List.getElem?_eq_some_iff.mp e).1;lia
  refine ⟨l.len,fun j s' e' => ?_,fun j k s1 s2 c1 c2 e1 e2 b1 b2 q => ?_,fun j a' p => ?_,l.bc,l.trk,l.old,fun b ws ga => ?_⟩
  ·have k:=l.slot j s' e';unfold SlOk at k ⊢;simp only [if_neg (ne j s' e')];exact k
  ·simp only [if_neg (ne j _ e1),if_neg (ne k _ e2)] at q;exact l.inj j k _ _ _ _ e1 e2 b1 b2 q
  ·obtain ⟨⟨d,hd⟩,ha⟩:=l.par j a' p;exact ⟨⟨d,hd⟩,by simp only [if_neg (ne j _ hd)];exact ha⟩
  ·obtain ⟨g1,g2,g3⟩:=l.gh b ws ga;refine ⟨g1,g2,fun j s' d e' b' => ?_⟩;simp only [if_neg (ne j _ e')];exact g3 j s' d e' b'
theorem Rl.gB (l:Rl F ad B σ H μ):∀ b vs,F.G b = some vs -> B b:=fun b vs e => (l.gh b vs e).2.1
theorem Rl.own (l:Rl F ad B σ H μ):∀ j s c,μ[j]? = some s -> s.box = some c -> B (ad j):=fun j s c e b => ((l.slot j s e).boxed b).2.1
theorem Rl.freeze {i:Nat} {c:T} (l:Rl F ad B σ H μ) (e:μ[i]? = some (.bx c)) (hc:¬ F.Bc (ad i)):Rl F ad (fun b => B b /\ b ≠ ad i) σ H (μ.set i (.tr c)) /\ Rep F.K H (fun b => B b /\ b ≠ ad i) (.ref (ad i)) c:=by
 have k0:=l.slot i _ e;have hi:i < μ.length:=(List.getElem?_eq_some_iff.mp e).1;have rp:Rep F.K H (fun b => B b /\ b ≠ ad i) (.ref (ad i)) c:=((k0.2.2.2.2).of rfl (Fr.less fun _ z => z.1)).rep (fun z => z.2 rfl);have get:∀ j,(μ.set i (.tr c))[j]? = if j = i then some (.tr c) else μ[j]?:=fun j => by
  rw [List.getElem?_set];by_cases z:i = j
  ·subst z;simp [hi]
  ·rw [if_neg z,if_neg (fun q => z q.symm)]
 have pi:F.P i = none:=k0.2.2.2.1;refine ⟨⟨by rw [List.length_set];exact l.len,fun j s' e' => ?_,fun j k s1 s2 c1 c2 e1 e2 b1 b2 q => ?_,fun j a p => ?_,fun b z => ⟨l.bc b z,by rintro rfl;exact hc z⟩,fun b z => l.trk b z.1,l.old,fun a ws ga => ?_⟩,rp⟩
 ·rw [get] at e';by_cases z:j = i
  ·subst z;rw [if_pos rfl] at e';cases e';exact ⟨_,k0.1,rp⟩
  ·rw [if_neg z] at e';have k:=l.slot j s' e';have ne:∀ d,s'.box = some d -> ad j ≠ ad i:=fun d hd q => z (l.inj j i s' _ d c e' e hd rfl q);unfold SlOk at k ⊢
   split at k
   ·trivial
   ·obtain ⟨v,e1,r1⟩:=k;exact ⟨v,e1,r1.fr (Fr.less fun _ z => z.1)⟩
   ·obtain ⟨e1,b,z0,p,x⟩:=k;exact ⟨e1,⟨b,ne _ rfl⟩,z0,p,x.of rfl (Fr.less fun _ z => z.1)⟩
   ·obtain ⟨e1,b,p,x⟩:=k;exact ⟨e1,⟨b,ne _ rfl⟩,p,x.of rfl (Fr.less fun _ z => z.1)⟩
 ·rw [get] at e1 e2;by_cases z:j = i
  ·rw [if_pos z] at e1;cases e1;cases b1
  ·by_cases z2:k = i
   ·rw [if_pos z2] at e2;cases e2;cases b2
   ·rw [if_neg z] at e1;rw [if_neg z2] at e2;exact l.inj j k _ _ _ _ e1 e2 b1 b2 q
 ·obtain ⟨⟨d,hd⟩,ha⟩:=l.par j a p;refine ⟨⟨d,?_⟩,ha⟩;rw [get];by_cases z:j = i
  ·subst z;rw [pi] at p;cases p
  ·rw [if_neg z];exact hd
 ·obtain ⟨g1,g2,g3⟩:=l.gh a ws ga;refine ⟨g1,⟨g2,(g3 i _ c e rfl).symm⟩,fun j s' d e' b' => ?_⟩;rw [get] at e';by_cases z:j = i
  ·rw [if_pos z] at e';cases e';cases b'
  ·rw [if_neg z] at e';exact g3 j s' d e' b'
end
noncomputable abbrev UE:=Mu -> (R -> Mu -> Prop) -> Prop
noncomputable abbrev UT:=Mu -> (Bool -> Mu -> Prop) -> Prop
noncomputable abbrev UA:=Mu -> (List R -> Mu -> Prop) -> Prop
noncomputable abbrev UO:=Mu -> (Option Int -> Mu -> Prop) -> Prop
noncomputable abbrev U2:=R -> R -> Mu -> (R -> Mu -> Prop) -> Prop
noncomputable abbrev UC:=List R -> Mu -> (R -> Mu -> Prop) -> Prop
structure Ed where
 nx:Mu -> Prop
 rt:R -> Mu -> Prop
 bk:Mu -> Prop:=fun _ => False
 ct:Mu -> Prop:=fun _ => False
noncomputable abbrev US:=Ed -> Mu -> Prop
def Bv (B:AP') (v:V):R -> AP'
 | .fr _ => (match v with | .ref a => more B a | _ => B)
 | _ => B
theorem Fr.d {B:AP'} {H H':Hp} {v:V} {r:R} (f:Fr B H (Bv B v r) H'):Fr B H B H':=fun b o h n => ⟨(f b o h n).1,n⟩
def RE (K:PySem.W.Frag) (te:TE) (ue:UE):Prop:=∀ (F:Fx) (ad:Nat -> Addr) (B:AP') (σ:St) (H:Hp) (μ:Mu) (Q:VK) (Qt:R -> Mu -> Prop),F.K = K -> Rl F ad B σ H μ -> ue μ Qt ->
 (∀ v H' r μ',Vr F ad B σ H' μ' v r -> Fr B H (Bv B v r) H' -> Kp μ μ' -> Qt r μ' -> Q v H') -> te σ H Q
def RT (K:PySem.W.Frag) (tt:TT) (ut:UT):Prop:=∀ (F:Fx) (ad:Nat -> Addr) (B:AP') (σ:St) (H:Hp) (μ:Mu) (Q:Bool -> Hp -> Prop) (Qt:Bool -> Mu -> Prop),F.K = K -> Rl F ad B σ H μ -> ut μ Qt ->
 (∀ b H' μ',Rl F ad B σ H' μ' -> Fr B H B H' -> Kp μ μ' -> Qt b μ' -> Q b H') -> tt σ H Q
def RA (K:PySem.W.Frag) (ta:TA) (ua:UA):Prop:=∀ (F:Fx) (ad:Nat -> Addr) (B:AP') (σ:St) (H:Hp) (μ:Mu) (Q:List V -> Hp -> Prop) (Qt:List R -> Mu -> Prop),F.K = K -> Rl F ad B σ H μ -> ua μ Qt ->
 (∀ vs H' rs μ',Rl F ad B σ H' μ' -> Paired (Hv F ad B H' μ') vs rs -> Fr B H B H' -> Kp μ μ' -> Qt rs μ' -> Q vs H') -> ta σ H Q
def RO (K:PySem.W.Frag) (tt:TO) (ut:UO):Prop:=∀ (F:Fx) (ad:Nat -> Addr) (B:AP') (σ:St) (H:Hp) (μ:Mu) (Q:Option Int -> Hp -> Prop) (Qt:Option Int -> Mu -> Prop),F.K = K -> Rl F ad B σ H μ -> ut μ Qt ->
 (∀ b H' μ',Rl F ad B σ H' μ' -> Fr B H B H' -> Kp μ μ' -> Qt b μ' -> Q b H') -> tt σ H Q
def ROp (K:PySem.W.Frag) (r:R2) (u:U2):Prop:=∀ (F:Fx) (ad:Nat -> Addr) (B:AP') (σ:St) (H:Hp) (μ:Mu) (Q:VK) (Qt:R -> Mu -> Prop) (x y:V) (r1 r2:R),F.K = K -> Rl F ad B σ H μ -> Hv F ad B H μ x r1 -> Hv F ad B H μ y r2 -> u r1 r2 μ Qt ->
 (∀ v H' r μ',Vr F ad B σ H' μ' v r -> Fr B H (Bv B v r) H' -> Kp μ μ' -> Qt r μ' -> Q v H') -> r x y H Q
def RC (K:PySem.W.Frag) (r:List V -> Hp -> VK -> Prop) (u:UC):Prop:=∀ (F:Fx) (ad:Nat -> Addr) (B:AP') (σ:St) (H:Hp) (μ:Mu) (Q:VK) (Qt:R -> Mu -> Prop) (xs:List V) (rs:List R),F.K = K -> Rl F ad B σ H μ -> Paired (Hv F ad B H μ) xs rs -> u rs μ Qt ->
 (∀ v H' r μ',Vr F ad B σ H' μ' v r -> Fr B H (Bv B v r) H' -> Kp μ μ' -> Qt r μ' -> Q v H') -> r xs H Q
section
variable {F:Fx} {ad:Nat -> Addr} {B:AP'} {σ:St} {H:Hp} {μ:Mu} {Q:VK} {Qt:R -> Mu -> Prop}
theorem Vr.flat {v:V} {t:T} (l:Rl F ad B σ H μ) (r:Rep F.K H B v t):Vr F ad B σ H μ v (.tr t):=⟨l,r⟩
theorem Vr.newL {p:Addr} {vs:List V} {ts:List T} (l:Rl F ad B σ H μ) (r:Reps F.K H B vs ts) (e:H p = none):Vr F ad B σ (upd H p (.lst vs)) μ (.ref p) (.fr (.lst ts)) :=
 ⟨l.same (Same.new e),p,rfl,l.notB e,l.new0 e,l.new e,vs,upd_same,r.fr (Fr.more e)⟩
theorem Vr.newT {p:Addr} {vs:List V} {ts:List T} (l:Rl F ad B σ H μ) (r:Reps F.K H B vs ts) (e:H p = none):Vr F ad B σ (upd H p (.tup vs)) μ (.ref p) (.tr (.tup ts)) :=
 ⟨l.same (Same.new e),.tup (l.notB e) upd_same (r.fr (Fr.same (Same.new e)))⟩
end
structure YE (X:Cx) (e:Expr) (u:UE):Prop where
 ex:∃ t,QE X e t /\ RE X.K t u
structure YT (X:Cx) (e:Expr) (u:UT):Prop where
 ex:∃ t,QT X e t /\ RT X.K t u
structure YW (X:Cx) (e:Expr) (u:UT):Prop where
 ex:∃ t,QW X e t /\ RT X.K t u
structure YA (X:Cx) (es:List Expr) (u:UA):Prop where
 ex:∃ t,QA X es t /\ RA X.K t u
structure YO (X:Cx) (e:Option Expr) (u:UO):Prop where
 ex:∃ t,QO X e t /\ RO X.K t u
structure YTs (X:Cx) (es:List Expr) (u:UT):Prop where
 ex:∃ t,QTs X es t /\ RT X.K t u
namespace Y
def uC (t:T):UE:=fun μ Q => Q (.tr t) μ
def uVar (i:Nat):UE:=fun μ Q => match μ[i]? with
 | some (.tr t) => Q (.tr t) μ
 | some (.bx _) => Q (.br i) μ
 | some (.pb _) => Q (.br i) μ
 | _ => False
def uOp (u:U2) (ua ub:UE):UE:=fun μ Q => ua μ fun r1 μ1 => ub μ1 fun r2 μ2 => u r1.d r2.d μ2 Q
section
variable {X:Cx} {a b c e o:Expr} {es rest:List Expr} {ua ub uc ue uo:UE} {uA uB:UT} {us:UA} {pos p p2:Pos} {x:Str}
theorem re_c {K:PySem.W.Frag} {v:V} {t:T} (h:∀ H B,Rep K H B v t):RE K (tC v) (uC t):=fun F ad B σ H μ Q Qt hK l q k => k v H (.tr t) μ ⟨l,show Rep F.K H B v t from hK ▸ h H B⟩ Fr.refl (Kp.refl μ) q
theorem int {i:Int} {j:Nat}:YE X (.Constant (.int i) j pos) (uC (.int i)):=⟨_,Z.int,re_c fun _ _ => .int i⟩
theorem bl {i:Bool} {j:Nat}:YE X (.Constant (.bool i) j pos) (uC (.bl i)):=⟨_,Z.bl,re_c fun _ _ => .bl i⟩
theorem non {j:Nat}:YE X (.Constant .none j pos) (uC .non):=⟨_,Z.non,re_c fun _ _ => .non⟩
theorem str {i:Str} {j:Nat}:YE X (.Constant (.str i) j pos) (uC (.str i)):=⟨_,Z.str,re_c fun _ _ => .str i⟩
theorem v (i:Nat) (hN:autoParam (X.N[i]? = some x) L2.aRfl._auto_1) (hv:Vis X.env.scope x:=by first | exact Or.inl rfl | exact Or.inr (Or.inl rfl) | exact Or.inr (Or.inr rfl)) (hd:autoParam ((x == ("__debug__":Str)) = false) L2.aDec._auto_1)
  (hcd:autoParam ((x == ("__classdict__":Str)) = false) L2.aDec._auto_1):YE X (.Name x pos) (uVar i):=by
 refine ⟨_,Z.v i hN hv hd hcd,fun F ad B σ H μ Q Qt hK l q k => ?_⟩;unfold uVar at q
 split at q
 ·rename_i t e;obtain ⟨v,e1,r⟩:=l.slot i _ e;exact ⟨v,e1,k v H (.tr t) μ ⟨l,r⟩ Fr.refl (Kp.refl μ) q⟩
 ·rename_i t e;have r:=l.slot i _ e;exact ⟨_,r.1,k _ H (.br i) μ ⟨l,rfl,_,_,e,rfl⟩ Fr.refl (Kp.refl μ) q⟩
 ·rename_i t e;have r:=l.slot i _ e;exact ⟨_,r.1,k _ H (.br i) μ ⟨l,rfl,_,_,e,rfl⟩ Fr.refl (Kp.refl μ) q⟩
 ·exact q.elim
theorem glob {w:V} {u:Value} {t:T} (hg:Gl X x) (hm:X.mg x = some u) (r:RelV w u) (h:∀ H B,Rep X.K H B w t) (hd:autoParam ((x == ("__debug__":Str)) = false) L2.aDec._auto_1):YE X (.Name x pos) (uC t):=⟨_,Z.glob hg hm r hd,re_c h⟩
theorem re_op {K:PySem.W.Frag} {r:R2} {u:U2} {ta tb:TE} (h:ROp K r u) (ha:RE K ta ua) (hb:RE K tb ub):RE K (tOp r ta tb) (uOp u ua ub):=fun F ad B σ H μ Q Qt hK l q k =>
 ha F ad B σ H μ _ _ hK l q fun x H1 r1 μ1 v1 f1 k1 q1 => hb F ad B σ H1 μ1 _ _ hK v1.rl q1 fun y H2 r2 μ2 v2 f2 k2 q2 =>
  h F ad B σ H2 μ2 _ _ x y r1.d r2.d hK v2.rl (v1.hv.fr f2.d k2) v2.hv q2 fun v H' r μ' v3 f3 k3 q3 => k v H' r μ' v3 ((f1.d.trans f2.d).trans f3) ((k1.trans k2).trans k3) q3
theorem op {o:Operator} {r:R2} {u:U2} (ho:OpR X (binaryOp o) r) (h:ROp X.K r u) (ha:YE X a ua) (hb:YE X b ub):YE X (.BinOp a o b pos) (uOp u ua ub):=by
 obtain ⟨ta,qa,ra⟩:=ha;obtain ⟨tb,qb,rb⟩:=hb;exact ⟨_,Z.op ho qa qb,re_op h ra rb⟩
theorem cmp {o:CmpOp} {r:R2} {u:U2} (ho:OpR X (compareOp o) r) (h:ROp X.K r u) (ha:YE X a ua) (hb:YE X b ub) (hm:autoParam (behindInMarks o b = false) L2.aRfl._auto_1):YE X (.Compare a [o] [b] pos) (uOp u ua ub):=by
 obtain ⟨ta,qa,ra⟩:=ha;obtain ⟨tb,qb,rb⟩:=hb;exact ⟨_,Z.cmp ho qa qb hm,re_op h ra rb⟩
theorem ix {r:R2} {u:U2} (hr:IxR X r) (h:ROp X.K r u) (ha:YE X a ua) (hb:YE X b ub) (hs:autoParam (Z.sim b = true) L2.aRfl._auto_1):YE X (.Subscript a b pos) (uOp u ua ub):=by
 obtain ⟨ta,qa,ra⟩:=ha;obtain ⟨tb,qb,rb⟩:=hb;exact ⟨_,Z.ix hr qa qb hs,re_op h ra rb⟩
def uTest (ue:UE):UT:=fun μ Q => ue μ fun r μ' => match r with
 | .tr (.bl b) => Q b μ'
 | _ => False
theorem rt_test {K:PySem.W.Frag} {t:TE} (h:RE K t ue):RT K (tTest t) (uTest ue):=fun F ad B σ H μ Q Qt hK l q k =>
 h F ad B σ H μ _ _ hK l q fun v H' r μ' v1 f k1 q1 => by
  split at q1
  ·rename_i b;have rp:=v1.2;cases rp;exact ⟨b,rfl,k b H' μ' v1.rl f.d k1 q1⟩
  ·exact q1.elim
theorem tcmp {o:CmpOp} {r:R2} {u:U2} (ho:OpR X (compareOp o) r) (h:ROp X.K r u) (ha:YE X a ua) (hb:YE X b ub) (hm:autoParam (behindInMarks o b = false) L2.aRfl._auto_1):YT X (.Compare a [o] [b] pos) (uTest (uOp u ua ub)):=by
 obtain ⟨ta,qa,ra⟩:=ha;obtain ⟨tb,qb,rb⟩:=hb;exact ⟨_,Z.tcmp ho qa qb hm,rt_test (re_op h ra rb)⟩
def uNot (ut:UT):UT:=fun μ Q => ut μ fun b μ' => Q (!b) μ'
theorem tnot (ha:YT X a uA):YT X (.UnaryOp .Not a pos) (uNot uA):=by
 obtain ⟨ta,qa,ra⟩:=ha;exact ⟨_,Z.tnot qa,fun F ad B σ H μ Q Qt hK l q k => ra F ad B σ H μ _ _ hK l q fun b H' μ' l' f k1 q1 => k _ H' μ' l' f k1 q1⟩
theorem tw (h:YW X e uA):YT X e uA:=by
 obtain ⟨t,q,r⟩:=h;exact ⟨t,Z.tw q,r⟩
theorem wand1 (ha:YT X a uA):YW X (.BoolOp .And [a] pos) uA:=by obtain ⟨t,q,r⟩:=ha;exact ⟨t,Z.wand1 q,r⟩
theorem wor1 (ha:YT X a uA):YW X (.BoolOp .Or [a] pos) uA:=by obtain ⟨t,q,r⟩:=ha;exact ⟨t,Z.wor1 q,r⟩
def uAnd (u w:UT):UT:=fun μ Q => u μ fun b μ' => if b = true then w μ' Q else Q false μ'
def uOr (u w:UT):UT:=fun μ Q => u μ fun b μ' => if b = true then Q true μ' else w μ' Q
theorem rt_and {K:PySem.W.Frag} {t u:TT} (ha:RT K t uA) (hb:RT K u uB):RT K (tAnd t u) (uAnd uA uB):=fun F ad B σ H μ Q Qt hK l q k => ha F ad B σ H μ _ _ hK l q fun b H' μ' l' f k1 q1 => by
 cases b with
 | true => rw [if_pos rfl] at q1 ⊢;exact hb F ad B σ H' μ' _ _ hK l' q1 fun b2 H2 μ2 l2 f2 k2 q2 => k b2 H2 μ2 l2 (f.trans f2) (k1.trans k2) q2
 | false => rw [if_neg Bool.false_ne_true] at q1 ⊢;exact k _ H' μ' l' f k1 q1
theorem rt_or {K:PySem.W.Frag} {t u:TT} (ha:RT K t uA) (hb:RT K u uB):RT K (tOr t u) (uOr uA uB):=fun F ad B σ H μ Q Qt hK l q k => ha F ad B σ H μ _ _ hK l q fun b H' μ' l' f k1 q1 => by
 cases b with
 | false => rw [if_neg Bool.false_ne_true] at q1 ⊢;exact hb F ad B σ H' μ' _ _ hK l' q1 fun b2 H2 μ2 l2 f2 k2 q2 => k b2 H2 μ2 l2 (f.trans f2) (k1.trans k2) q2
 | true => rw [if_pos rfl] at q1 ⊢;exact k _ H' μ' l' f k1 q1
theorem wand (ha:YT X a uA) (hb:YW X (.BoolOp .And (b :: rest) pos) uB):YW X (.BoolOp .And (a :: b :: rest) pos) (uAnd uA uB):=by
 obtain ⟨t,q,r⟩:=ha;obtain ⟨t',q',r'⟩:=hb;exact ⟨_,Z.wand q q',rt_and r r'⟩
theorem wor (ha:YT X a uA) (hb:YW X (.BoolOp .Or (b :: rest) pos) uB):YW X (.BoolOp .Or (a :: b :: rest) pos) (uOr uA uB):=by
 obtain ⟨t,q,r⟩:=ha;obtain ⟨t',q',r'⟩:=hb;exact ⟨_,Z.wor q q',rt_or r r'⟩
def uTru (ue:UE):UT:=fun μ Q => ue μ fun r μ' => match r with
 | .tr (.bl b) => Q b μ'
 | .tr (.int i) => Q (i != 0) μ'
 | _ => False
theorem ttru (K:PySem.W.Frag) (hK:X.K = K) (ha:YE X a ua) (he:autoParam (Z.tru a = true) L2.aRfl._auto_1):YT X a (uTru ua):=by
 obtain ⟨t,q,r⟩:=ha;refine ⟨_,Z.ttru K hK q he,fun F ad B σ H μ Q Qt hK l q k => r F ad B σ H μ _ _ hK l q fun v H' r1 μ' v1 f k1 q1 => ?_⟩
 split at q1
 ·have rp:=v1.2;cases rp;exact ⟨_,(Ap.truB ..).symm ▸ rfl,k _ H' μ' v1.rl f.d k1 q1⟩
 ·have rp:=v1.2;cases rp;exact ⟨_,(Ap.truI ..).symm ▸ rfl,k _ H' μ' v1.rl f.d k1 q1⟩
 ·exact q1.elim
def uNotV (ue:UE):UE:=fun μ Q => ue μ fun r μ' => match r with
 | .tr (.bl b) => Q (.tr (.bl (!b))) μ'
 | _ => False
theorem not (ha:YE X a ua):YE X (.UnaryOp .Not a pos) (uNotV ua):=by
 obtain ⟨t,q,r⟩:=ha;refine ⟨_,Z.not q,fun F ad B σ H μ Q Qt hK l q k => r F ad B σ H μ _ _ hK l q fun v H' r1 μ' v1 f k1 q1 => ?_⟩
 split at q1
 ·have rp:=v1.2;cases rp;exact ⟨_,rfl,k _ H' _ μ' (Vr.flat v1.rl (.bl _)) f.d k1 q1⟩
 ·exact q1.elim
def uAndV (ua ub:UE):UE:=fun μ Q => ua μ fun r μ' => match r with
 | .tr (.bl true) => ub μ' Q
 | .tr (.bl false) => Q (.tr (.bl false)) μ'
 | _ => False
def uOrV (ua ub:UE):UE:=fun μ Q => ua μ fun r μ' => match r with
 | .tr (.bl false) => ub μ' Q
 | .tr (.bl true) => Q (.tr (.bl true)) μ'
 | _ => False
theorem and (ha:YE X a ua) (hb:YE X (.BoolOp .And (b :: rest) pos) ub):YE X (.BoolOp .And (a :: b :: rest) pos) (uAndV ua ub):=by
 obtain ⟨t,q,r⟩:=ha;obtain ⟨t',q',r'⟩:=hb;refine ⟨_,Z.and q q',fun F ad B σ H μ Q Qt hK l q k => r F ad B σ H μ _ _ hK l q fun v H' r1 μ' v1 f k1 q1 => ?_⟩
 split at q1
 ·have rp:=v1.2;cases rp;refine ⟨_,rfl,?_⟩;rw [if_pos rfl];exact r' F ad B σ H' μ' _ _ hK v1.rl q1 fun v2 H2 r2 μ2 v3 f2 k2 q2 => k v2 H2 r2 μ2 v3 (f.d.trans f2) (k1.trans k2) q2
 ·have rp:=v1.2;cases rp;refine ⟨_,rfl,?_⟩;rw [if_neg Bool.false_ne_true];exact k _ H' _ μ' (Vr.flat v1.rl (.bl _)) f.d k1 q1
 ·exact q1.elim
theorem or (ha:YE X a ua) (hb:YE X (.BoolOp .Or (b :: rest) pos) ub):YE X (.BoolOp .Or (a :: b :: rest) pos) (uOrV ua ub):=by
 obtain ⟨t,q,r⟩:=ha;obtain ⟨t',q',r'⟩:=hb;refine ⟨_,Z.or q q',fun F ad B σ H μ Q Qt hK l q k => r F ad B σ H μ _ _ hK l q fun v H' r1 μ' v1 f k1 q1 => ?_⟩
 split at q1
 ·have rp:=v1.2;cases rp;refine ⟨_,rfl,?_⟩;rw [if_neg Bool.false_ne_true];exact r' F ad B σ H' μ' _ _ hK v1.rl q1 fun v2 H2 r2 μ2 v3 f2 k2 q2 => k v2 H2 r2 μ2 v3 (f.d.trans f2) (k1.trans k2) q2
 ·have rp:=v1.2;cases rp;refine ⟨_,rfl,?_⟩;rw [if_pos rfl];exact k _ H' _ μ' (Vr.flat v1.rl (.bl _)) f.d k1 q1
 ·exact q1.elim
theorem one {o:BoolOp} (ha:YE X a ua):YE X (.BoolOp o [a] pos) ua:=by obtain ⟨t,q,r⟩:=ha;exact ⟨t,Z.one q,r⟩
def uIf (uc:UT) (ua ub:UE):UE:=fun μ Q => uc μ fun b μ' => if b = true then ua μ' Q else ub μ' Q
theorem ifE (hc:YT X c uA) (ha:YE X a ua) (hb:YE X b ub):YE X (.IfExp c a b pos) (uIf uA ua ub):=by
 obtain ⟨tc,qc,rc⟩:=hc;obtain ⟨t,q,r⟩:=ha;obtain ⟨t',q',r'⟩:=hb;refine ⟨_,Z.ifE qc q q',fun F ad B σ H μ Q Qt hK l q k => rc F ad B σ H μ _ _ hK l q fun b H' μ' l1 f k1 q1 => ?_⟩
 cases b with
 | true => rw [if_pos rfl] at q1 ⊢;exact r F ad B σ H' μ' _ _ hK l1 q1 fun v2 H2 r2 μ2 v3 f2 k2 q2 => k v2 H2 r2 μ2 v3 (f.trans f2) (k1.trans k2) q2
 | false => rw [if_neg Bool.false_ne_true] at q1 ⊢;exact r' F ad B σ H' μ' _ _ hK l1 q1 fun v2 H2 r2 μ2 v3 f2 k2 q2 => k v2 H2 r2 μ2 v3 (f.trans f2) (k1.trans k2) q2
def uNeg (ue:UE):UE:=fun μ Q => ue μ fun r μ' => match r with
 | .tr (.int i) => Q (.tr (.int (-i))) μ'
 | _ => False
def uNil:UA:=fun μ Q => Q [] μ
def uCons (ue:UE) (us:UA):UA:=fun μ Q => ue μ fun r μ1 => us μ1 fun rs μ2 => Q (r.d :: rs) μ2
def uK (ts:List T):UA:=fun μ Q => Q (ts.map R.tr) μ
theorem nil:YA X [] uNil:=⟨_,Z.nil,fun F ad B σ H μ Q Qt hK l q k => k [] H [] μ l .nil Fr.refl (Kp.refl μ) q⟩
theorem cons (ha:YE X e ue) (hr:YA X es us) (h:autoParam (nst e = true) L2.aRfl._auto_1):YA X (e :: es) (uCons ue us):=by
 obtain ⟨t,q,r⟩:=ha;obtain ⟨t',q',r'⟩:=hr;exact ⟨_,Z.cons q q' h,fun F ad B σ H μ Q Qt hK l q k => r F ad B σ H μ _ _ hK l q fun v H' r1 μ' v1 f k1 q1 => r' F ad B σ H' μ' _ _ hK v1.rl q1 fun vs H2 rs μ2 l2 ps f2 k2 q2 =>
  k (v :: vs) H2 (r1.d :: rs) μ2 l2 (.cons (v1.hv.fr f2 k2) ps) (f.d.trans f2) (k1.trans k2) q2⟩
def conT:V -> Option T
 | .non => some .non
 | .bl b => some (.bl b)
 | .int i => some (.int i)
 | .str x => some (.str x)
 | _ => none
theorem conT_rep {K:PySem.W.Frag} {H:Hp} {B:AP'} {v:V} {t:T} (h:conT v = some t):Rep K H B v t:=by
 unfold conT at h
 split at h
 ·cases h;exact .non
 ·cases h;exact .bl _
 ·cases h;exact .int _
 ·cases h;exact .str _
 ·cases h
theorem consts {vs:List V} {ts:List T} (h:consV es = some vs) (h2:vs.map conT = ts.map some):YA X es (uK ts):=by
 refine ⟨_,Z.consts h,fun F ad B σ H μ Q Qt hK l q k => k vs H _ μ l ?_ Fr.refl (Kp.refl μ) q⟩;clear h q k
 induction vs generalizing ts with
 | nil => cases ts with
  | nil => exact .nil
  | cons t ts => cases h2
 | cons v vs ih => cases ts with
  | nil => cases h2
  | cons t ts =>
   rw [List.map_cons,List.map_cons] at h2
   injection h2 with e1 e2
   exact .cons (conT_rep e1) (ih e2)
def trees:List R -> Option (List T)
 | [] => some []
 | .tr t :: rs => (trees rs).map (t :: ·)
 | _ => none
theorem reps_of {F:Fx} {ad:Nat -> Addr} {B:AP'} {H:Hp} {μ:Mu}:∀ {vs:List V} {rs:List R} {ts:List T},Paired (Hv F ad B H μ) vs rs -> trees rs = some ts -> Reps F.K H B vs ts
 | _,_,_,.nil,e => by cases e;exact .nil
 | _,r :: rs,ts,.cons h p,e => by
  cases r with
  | tr t =>
   unfold trees at e
   cases q:trees rs with
   | none => rw [q] at e;cases e
   | some us => rw [q] at e;cases e;exact .cons h (reps_of p q)
  | br i => cases e
  | fr c => cases e
def uTup (us:UA):UE:=fun μ Q => us μ fun rs μ' => match trees rs with
 | some ts => ts.length <= sizeLine /\ Q (.tr (.tup ts)) μ'
 | none => False
def uLst (us:UA):UE:=fun μ Q => us μ fun rs μ' => match trees rs with
 | some ts => ts.length <= sizeLine /\ Q (.fr (.lst ts)) μ'
 | none => False
theorem tup {k:Nat} (h:YA X es us):YE X (.Tuple es k pos) (uTup us):=by
 obtain ⟨t,q,r⟩:=h;refine ⟨_,Z.tup q,fun F ad B σ H μ Q Qt hK l q k => r F ad B σ H μ _ _ hK l q fun vs H' rs μ' l1 ps f k1 q1 => ?_⟩
 split at q1
 ·rename_i ts e;have rp:=reps_of ps e;exact ⟨by rw [rp.length];exact q1.1,fun p hp => k _ _ _ μ' (Vr.newT l1 rp hp) (f.trans (Fr.same (Same.new hp))) k1 q1.2⟩
 ·exact q1.elim
theorem lst (h:YA X es us):YE X (.List es pos) (uLst us):=by
 obtain ⟨t,q,r⟩:=h;refine ⟨_,Z.lst q,fun F ad B σ H μ Q Qt hK l q k => r F ad B σ H μ _ _ hK l q fun vs H' rs μ' l1 ps f k1 q1 => ?_⟩
 split at q1
 ·rename_i ts e;have rp:=reps_of ps e;exact ⟨by rw [rp.length];exact q1.1,fun p hp => k _ _ _ μ' (Vr.newL l1 rp hp) (f.trans (Fr.more hp)) k1 q1.2⟩
 ·exact q1.elim
def uCB (u:UC) (us:UA):UE:=fun μ Q => us μ fun rs μ' => u rs μ' Q
theorem re_cb {K:PySem.W.Frag} {r:List V -> Hp -> VK -> Prop} {u:UC} {t:TA} (h:RC K r u) (ha:RA K t us):RE K (tCB r t) (uCB u us):=fun F ad B σ H μ Q Qt hK l q k =>
 ha F ad B σ H μ _ _ hK l q fun vs H' rs μ' l1 ps f k1 q1 => h F ad B σ H' μ' _ _ vs rs hK l1 ps q1 fun v H2 r2 μ2 v2 f2 k2 q2 => k v H2 r2 μ2 v2 (f.trans f2) (k1.trans k2) q2
theorem cb {id:String} {r:List V -> Hp -> VK -> Prop} {u:UC} (hc:CallR X (.builtin id) r) (h:RC X.K r u) (hg:Gl X x) (hm:X.mg x = none) (hv:bootBuiltins x = some (.builtin id)) (ha:YA X (e :: es) us) (h1:autoParam (nst e = true) L2.aRfl._auto_1) (h2:autoParam (es.all nst = true) L2.aRfl._auto_1) (hn:autoParam (x ≠ "__name__") L2.aDec._auto_1) (hdb:autoParam ((x == ("__debug__":Str)) = false) L2.aDec._auto_1) :
  YE X (.Call (.Name x p) (e :: es) [] pos) (uCB u us):=by
 obtain ⟨t,q,rr⟩:=ha;exact ⟨_,Z.cb hc hg hm hv q h1 h2 hn hdb,re_cb h rr⟩
theorem ct {T:String} {r:List V -> Hp -> VK -> Prop} {u:UC} (hc:CallR X (.type T) r) (h:RC X.K r u) (hg:Gl X x) (hm:X.mg x = none) (hv:bootBuiltins x = some (.type T)) (ha:YA X (e :: es) us) (h1:autoParam (nst e = true) L2.aRfl._auto_1) (h2:autoParam (es.all nst = true) L2.aRfl._auto_1) (hn:autoParam (x ≠ "__name__") L2.aDec._auto_1) (hdb:autoParam ((x == ("__debug__":Str)) = false) L2.aDec._auto_1) :
  YE X (.Call (.Name x p) (e :: es) [] pos) (uCB u us):=by
 obtain ⟨t,q,rr⟩:=ha;exact ⟨_,Z.ct hc hg hm hv q h1 h2 hn hdb,re_cb h rr⟩
def uNoPart:UO:=fun μ Q => Q none μ
def uPart (ue:UE):UO:=fun μ Q => ue μ fun r μ' => match r with
 | .tr (.int i) => Q (some i) μ'
 | _ => False
theorem po0:YO X none uNoPart:=⟨_,Z.po0,fun F ad B σ H μ Q Qt hK l q k => k none H μ l Fr.refl (Kp.refl μ) q⟩
theorem po1 (he:YE X e ue):YO X (some e) (uPart ue):=by
 obtain ⟨t,q,r⟩:=he;refine ⟨_,Z.po1 q,fun F ad B σ H μ Q Qt hK l q k => r F ad B σ H μ _ _ hK l q fun v H' r1 μ' v1 f k1 q1 => ?_⟩
 split at q1
 ·have rp:=v1.2;cases rp;exact ⟨_,rfl,k _ H' μ' v1.rl f.d k1 q1⟩
 ·exact q1.elim
end
end Y
namespace Y
def byT (f:T -> T -> Mu -> (R -> Mu -> Prop) -> Prop):U2:=fun r1 r2 μ Q => match cont μ r1,cont μ r2 with
 | some t,some u => f t u μ Q
 | _,_ => False
theorem byT_of {K:PySem.W.Frag} {r:R2} {f:T -> T -> Mu -> (R -> Mu -> Prop) -> Prop}
  (h:∀ (F:Fx) (ad:Nat -> Addr) (B:AP') (σ:St) (H:Hp) (μ:Mu) (Q:VK) (Qt:R -> Mu -> Prop) (x y:V) (t u:T),F.K = K -> Rl F ad B σ H μ -> Vw F.K H B x t -> Vw F.K H B y u -> f t u μ Qt ->
   (∀ v H' r,Vr F ad B σ H' μ v r -> Fr B H (Bv B v r) H' -> Qt r μ -> Q v H') -> r x y H Q):ROp K r (byT f):=by
 intro F ad B σ H μ Q Qt x y r1 r2 hK l h1 h2 q k;unfold byT at q
 split at q
 ·rename_i t u e1 e2;exact h F ad B σ H μ Q Qt x y t u hK l (h1.vw l e1) (h2.vw l e2) q fun v H' r v1 s q1 => k v H' r μ v1 s (Kp.refl μ) q1
 ·exact q.elim
def tInt (C:Int -> Int -> Prop) (g:Int -> Int -> Int):T -> T -> Mu -> (R -> Mu -> Prop) -> Prop:=fun t u μ Q => match t,u with
 | .int i,.int j => C i j /\ Q (.tr (.int (g i j))) μ
 | _,_ => False
theorem ro_int {K:PySem.W.Frag} {C:Int -> Int -> Prop} {g:Int -> Int -> Int}:ROp K (rI C fun i j => .int (g i j)) (byT (tInt C g)):=byT_of fun F ad B σ H μ Q Qt x y t u hK l v1 v2 q k => by
 unfold tInt at q
 split at q
 ·cases v1;cases v2
  exact ⟨_,_,rfl,rfl,q.1,k _ H _ (Vr.flat l (.int _)) Fr.refl q.2⟩
 ·exact q.elim
theorem ro_int0 {K:PySem.W.Frag} {g:Int -> Int -> Int}:ROp K (rI0 fun i j => .int (g i j)) (byT (tInt (fun _ _ => True) g)):=byT_of fun F ad B σ H μ Q Qt x y t u hK l v1 v2 q k => by
 unfold tInt at q
 split at q
 ·cases v1;cases v2
  exact ⟨_,_,rfl,rfl,k _ H _ (Vr.flat l (.int _)) Fr.refl q.2⟩
 ·exact q.elim
def tBl (g:Int -> Int -> Bool):T -> T -> Mu -> (R -> Mu -> Prop) -> Prop:=fun t u μ Q => match t,u with
 | .int i,.int j => Q (.tr (.bl (g i j))) μ
 | _,_ => False
theorem ro_bl {K:PySem.W.Frag} {g:Int -> Int -> Bool}:ROp K (rI0 fun i j => .bl (g i j)) (byT (tBl g)):=byT_of fun F ad B σ H μ Q Qt x y t u hK l v1 v2 q k => by
 unfold tBl at q
 split at q
 ·cases v1;cases v2
  exact ⟨_,_,rfl,rfl,k _ H _ (Vr.flat l (.bl _)) Fr.refl q⟩
 ·exact q.elim
def rCatG (K:PySem.W.Frag):R2:=fun x y H Q => ∃ a b xs ys,x = .ref a /\ y = .ref b /\ SqT K H a xs /\ SqT K H b ys /\ xs.length + ys.length <= sizeLine /\
 (xs = [] -> Q (.ref b) H) /\ (xs ≠ [] -> ys = [] -> Q (.ref a) H) /\ (xs ≠ [] -> ys ≠ [] -> ∀ p,H p = none -> Q (.ref p) (upd H p (.tup (xs ++ ys))))
theorem cat_tup0 {prog:Program} {w:World} {A:Around} {E:Value -> Shared -> Prop} {s:Shared} {t b:Addr} {ws:List Value} {Q:Value -> Shared -> Prop} (ht:IsTup s.heap t ([]:List Value).toArray) (hb:IsTup s.heap b ws.toArray) (h0:Q (.ref b) s):wpAny (model prog w) A (binaryOp .Add (.ref t) (.ref b)) Q E s:=by
 obtain ⟨⟨cls,dd,data,sl⟩,ho,hc,n,hd⟩:=id ht;obtain ⟨⟨cls2,dd2,data2,sl2⟩,ho2,hc2,n2,hd2⟩:=id hb;simp only at hc hd hc2 hd2;subst hc hd hc2 hd2;exact concat_meets ⟨_,ho,rfl⟩ ⟨_,ho2,rfl⟩ noFill_tuple_add seq_tuple_add PySem.F.slot_tuple_add PySem.F.entry_tuple_add (PySem.F.args_tuple_add_2 _ _)
   (tuple_addW0 t b _ ws.toArray n n2 dd dd2 sl sl2 (by simp)) ⟨ho,ho2,h0⟩
theorem op_catG {X:Cx}:OpR X (binaryOp .Add) (rCatG X.K):=by
 intro pins s σ H x y v u Q I rx ry h;obtain ⟨a,b,xs,ys,rfl,rfl,ha,hb,hz,q0,q1,q2⟩:=h;by_cases hx:xs = []
 ·subst hx
  cases rx;cases ry
  obtain ⟨its,r1,p1,_⟩:=I.tuple ha;obtain ⟨its2,r2,p2,_⟩:=I.tuple hb;cases r1;exact cat_tup0 p1 p2 ⟨.ref b,H,I,rfl,q0 rfl⟩
 ·exact op_catT pins s σ H _ _ v u Q I rx ry ⟨a,b,xs,ys,rfl,rfl,ha,hb,hx,hz,q1 hx,q2 hx⟩
def rAddG (K:PySem.W.Frag):R2:=fun x y H Q => (∃ i j,x = .int i /\ y = .int j /\ Q (.int (i + j)) H) \/ (∃ i j,x = .str i /\ y = .str j /\ i.length + j.length <= sizeLine /\ Q (.str (i ++ j)) H) \/ rCat x y H Q \/ rCatG K x y H Q
theorem op_addG {X:Cx} (K:PySem.W.Frag) (hK:X.K = K):OpR X (binaryOp .Add) (rAddG K):=by subst hK;exact op_add.or (op_add_str.or (op_cat.or op_catG))
def rep_of {F:Fx} {ad:Nat -> Addr} {B:AP'} {H:Hp} {μ:Mu} {v:V} {t:T} (h:Hv F ad B H μ v (.tr t)):Rep F.K H B v t:=h
def uAdd:U2:=fun r1 r2 μ Q => match cont μ r1,cont μ r2 with
 | some (.int i),some (.int j) => Q (.tr (.int (i + j))) μ
 | some (.str i),some (.str j) => i.length + j.length <= sizeLine /\ Q (.tr (.str (i ++ j))) μ
 | some (.lst xs),some (.lst ys) => xs.length + ys.length <= sizeLine /\ Q (.fr (.lst (xs ++ ys))) μ
 | some (.tup xs),some (.tup ys) => xs.length + ys.length <= sizeLine /\ Q (.tr (.tup (xs ++ ys))) μ
 | _,_ => False
theorem Hv.tupR {F:Fx} {ad:Nat -> Addr} {B:AP'} {σ:St} {H:Hp} {μ:Mu} {v:V} {r:R} {xs:List T} (l:Rl F ad B σ H μ) (h:Hv F ad B H μ v r) (e:cont μ r = some (.tup xs)):Rep F.K H B v (.tup xs):=by
 cases r with
 | tr t => cases e;exact h
 | br i =>
  obtain ⟨rfl,s,c,h1,h2⟩:=h;have e2:(μ[i]?).bind Sl.box = some (.tup xs):=e;rw [h1] at e2;have e':s.box = some (.tup xs):=e2;rcases ((l.slot i s h1).boxed e').2.2.1.is with ⟨ts,vs,z,_⟩ | ⟨ks,ts,vs,z,_⟩ <;> cases z
 | fr c => exact h.elim
theorem ro_add {K:PySem.W.Frag}:ROp K (rAddG K) uAdd:=by
 intro F ad B σ H μ Q Qt x y r1 r2 hK l h1 h2 q k;subst hK;unfold uAdd at q
 split at q
 ·rename_i i j e1 e2;have a:=h1.vw l e1;have b:=h2.vw l e2
  cases a;cases b
  exact .inl ⟨_,_,rfl,rfl,k _ H _ μ (Vr.flat l (.int _)) Fr.refl (Kp.refl μ) q⟩
 ·rename_i i j e1 e2;have a:=h1.vw l e1;have b:=h2.vw l e2
  cases a;cases b
  exact .inr (.inl ⟨_,_,rfl,rfl,q.1,k _ H _ μ (Vr.flat l (.str _)) Fr.refl (Kp.refl μ) q.2⟩)
 ·rename_i xs ys e1 e2;have a:=h1.vw l e1;have b:=h2.vw l e2
  cases a with
  | lst ha ra => cases b with
   | lst hb rb => exact .inr (.inr (.inl ⟨_,_,_,_,rfl,rfl,ha,hb,by rw [ra.length,rb.length];exact q.1,fun p hp => k _ _ _ μ (Vr.newL l (ra.append rb) hp) (Fr.more hp) (Kp.refl μ) q.2⟩))
 ·rename_i xs ys e1 e2;have a:=Hv.tupR l h1 e1;have b:=Hv.tupR l h2 e2;have a':=a;have b':=b
  cases a with
  | tup na ha ra => cases b with
   | tup nb hb rb =>
    refine .inr (.inr (.inr ⟨_,_,_,_,rfl,rfl,SqT.of ha,SqT.of hb,by rw [ra.length,rb.length];exact q.1,fun z => ?_,fun z1 z2 => ?_,fun z1 z2 p hp => k _ _ _ μ (Vr.newT l (ra.append rb) hp) (Fr.same (Same.new hp)) (Kp.refl μ) q.2⟩))
    ·subst z;cases ra;exact k _ H _ μ (Vr.flat l b') Fr.refl (Kp.refl μ) q.2
    ·subst z2;cases rb;have q2:=q.2;rw [List.append_nil] at q2;exact k _ H _ μ (Vr.flat l a') Fr.refl (Kp.refl μ) q2
 ·exact q.elim
def uMulG:U2:=fun r1 r2 μ Q => match cont μ r1,cont μ r2 with
 | some (.int i),some (.int j) => CMul i j /\ Q (.tr (.int (i * j))) μ
 | some (.lst xs),some (.int k) => -(2 ^ 63) <= k /\ k < 2 ^ 63 /\ xs.length * k.toNat <= sizeLine /\ Q (.fr (.lst (List.replicate k.toNat xs).flatten)) μ
 | _,_ => False
theorem ro_mul {K:PySem.W.Frag}:ROp K uMul uMulG:=by
 intro F ad B σ H μ Q Qt x y r1 r2 hK l h1 h2 q k;unfold uMulG at q
 split at q
 ·rename_i i j e1 e2;have a:=h1.vw l e1;have b:=h2.vw l e2
  cases a;cases b
  exact ⟨q.1,k _ H _ μ (Vr.flat l (.int _)) Fr.refl (Kp.refl μ) q.2⟩
 ·rename_i xs j e1 e2;have a:=h1.vw l e1;have b:=h2.vw l e2;cases b
  cases a with
  | lst ha ra => exact ⟨_,_,_,rfl,rfl,ha,q.1,q.2.1,by rw [ra.length];exact q.2.2.1,fun p hp => k _ _ _ μ (Vr.newL l (ra.rep _) hp) (Fr.more hp) (Kp.refl μ) q.2.2.2⟩
 ·exact q.elim
def uIxT:U2:=fun r1 r2 μ Q => match cont μ r1,cont μ r2 with
 | some (.lst xs),some (.int i) => (match atI xs i with | some t => Q (.tr t) μ | none => False)
 | some (.tup xs),some (.int i) => (match atI xs i with | some t => Q (.tr t) μ | none => False)
 | some (.ktp xs),some (.int i) => (match atI xs i with | some t => Q (.tr t) μ | none => False)
 | some (.str z),some (.int i) => z.length <= sizeLine /\ (match atI z.cps.toList i with | some c => Q (.tr (.str ⟨#[c]⟩)) μ | none => False)
 | _,_ => False
theorem ix_G {X:Cx} (K:PySem.W.Frag) (hK:X.K = K):IxR X (rIx K):=by subst hK;exact ix_seq
theorem ro_ix {K:PySem.W.Frag}:ROp K (rIx K) uIxT:=by
 intro F ad B σ H μ Q Qt x y r1 r2 hK l h1 h2 q k;subst hK;unfold uIxT at q
 split at q
 ·rename_i xs j e1 e2;have a:=h1.vw l e1;have b:=h2.vw l e2;cases b
  split at q
  ·rename_i t e3
   cases a with
   | lst ha ra =>
    obtain ⟨v,e4,rv⟩:=ra.atI e3;exact .inl ⟨_,_,_,v,rfl,rfl,SqL.of ha,e4,k _ H _ μ (Vr.flat l rv) Fr.refl (Kp.refl μ) q⟩
  ·exact q.elim
 ·rename_i xs j e1 e2;have a:=h1.vw l e1;have b:=h2.vw l e2;cases b
  split at q
  ·rename_i t e3
   cases a with
   | tup ha ra =>
    obtain ⟨v,e4,rv⟩:=ra.atI e3;exact .inr (.inl ⟨_,_,_,v,rfl,rfl,SqT.of ha,e4,k _ H _ μ (Vr.flat l rv) Fr.refl (Kp.refl μ) q⟩)
  ·exact q.elim
 ·rename_i xs j e1 e2;have a:=h1.vw l e1;have b:=h2.vw l e2;cases b
  split at q
  ·rename_i t e3
   cases a with
   | ktp ha ra =>
    obtain ⟨v,e4,rv⟩:=ra.atI e3;exact .inr (.inl ⟨_,_,_,v,rfl,rfl,.inr ha,e4,k _ H _ μ (Vr.flat l rv) Fr.refl (Kp.refl μ) q⟩)
  ·exact q.elim
 ·rename_i xs j e1 e2;have a:=h1.vw l e1;have b:=h2.vw l e2;cases b;cases a;obtain ⟨q0,q⟩:=q
  split at q
  ·rename_i t e3;exact .inr (.inr ⟨_,_,_,rfl,rfl,q0,e3,k _ H _ μ (Vr.flat l (.str _)) Fr.refl (Kp.refl μ) q⟩)
  ·exact q.elim
 ·exact q.elim
def tIsN (neg:Bool):T -> T -> Mu -> (R -> Mu -> Prop) -> Prop:=fun t u μ Q => match u with
 | .non => Q (.tr (.bl (match t with | .non => !neg | _ => neg))) μ
 | _ => False
theorem ro_isN {K:PySem.W.Frag}:ROp K (fun x y H Q => y = .non /\ Q (.bl (decide (x = .non))) H) (byT (tIsN false)):=byT_of fun F ad B σ H μ Q Qt x y t u hK l v1 v2 q k => by
 unfold tIsN at q
 split at q
 ·cases v2;refine ⟨rfl,?_⟩
  cases v1 <;> exact k _ H _ (Vr.flat l (.bl _)) Fr.refl q
 ·exact q.elim
def eqF:T -> T -> Bool
 | .non,.non => true
 | .bl a,.bl b => a == b
 | .bl a,.int b => (if a then 1 else 0) == b
 | .int a,.bl b => a == (if b then 1 else 0)
 | .int a,.int b => a == b
 | .str a,.str b => a == b
 | _,_ => false
def eqFs (xs ys:List T):Bool:=xs.length == ys.length && (List.range (min xs.length ys.length)).all fun j => match xs[j]?,ys[j]? with
 | some x,some y => eqF x y
 | _,_ => true
theorem eqF_V {K:PySem.W.Frag} {H:Hp} {B:AP'} {x y:V} {t u:T} (h1:Rep K H B x t) (h2:Rep K H B y u) (f1:flatT t = true) (f2:flatT u = true):flatV x = true /\ flatV y = true /\ eqV x y = eqF t u:=by
 cases h1 <;> first | (cases f1;done) | (cases h2 <;> first | (cases f2;done) | exact ⟨rfl,rfl,rfl⟩)
def rEqL (K:PySem.W.Frag) (neg:Bool):R2:=fun x y H Q => ∃ a b xs ys,x = .ref a /\ y = .ref b /\ ((SqL K H a xs /\ SqL K H b ys) \/ (SqT K H a xs /\ SqT K H b ys)) /\ xs.all flatV = true /\ ys.all flatV = true /\
 ∀ c,c = (xs.length == ys.length && (List.range (min xs.length ys.length)).all fun j => match xs[j]?,ys[j]? with | some x,some y => eqV x y | _,_ => true) -> Q (.bl (if neg then !c else c)) H
theorem op_eqL {X:Cx} (hu:X.A.units < cLine):OpR X (compareOp .Eq) (rEqL X.K false):=by
 intro pins s σ H x y v u Q I rx ry h;obtain ⟨a,b,xs,ys,rfl,rfl,hq,fx,fy,q⟩:=h
 cases rx;cases ry
 have item:∀ (its its2:List Value),Vals xs its -> Vals ys its2 -> ∀ j (h1:j < its.toArray.size) (h2:j < its2.toArray.size),SeqAt.EqAt X.A.in1 s its.toArray[j] its2.toArray[j] (match xs[j]?,ys[j]? with | some x,some y => eqV x y | _,_ => true):=fun its its2 r1 r2 j h1 h2 => by
  have l1:=r1.length;have l2:=r2.length;rw [List.size_toArray] at h1 h2;obtain ⟨u1,e1,g1⟩:=r1.get (i:=j) (x:=xs[j]) (List.getElem?_eq_getElem (by lia))
  obtain ⟨u2,e2,g2⟩:=r2.get (i:=j) (x:=ys[j]) (List.getElem?_eq_getElem (by lia))
  rw [List.getElem?_eq_getElem (show j < xs.length by lia),List.getElem?_eq_getElem (show j < ys.length by lia)]
  have z1:its.toArray[j] = u1:=by
   rw [List.getElem?_eq_getElem h1] at e1;simpa using e1
  have z2:its2.toArray[j] = u2:=by
   rw [List.getElem?_eq_getElem h2] at e2;simpa using e2
  rw [z1,z2];exact eqAt_V g1 g2 (List.all_eq_true.mp fx _ (List.getElem_mem _)) (List.all_eq_true.mp fy _ (List.getElem_mem _))
 rcases hq with ⟨ha,hb⟩ | ⟨ha,hb⟩
 ·obtain ⟨its,r1,p1,_⟩:=I.list ha;obtain ⟨its2,r2,p2,_⟩:=I.list hb;have l1:=r1.length;have l2:=r2.length;by_cases e:xs.length = ys.length
  ·refine SeqAt.eq_listAt p1.isList p2.isList (by rw [List.size_toArray,List.size_toArray];lia) hu (item its its2 r1 r2) ⟨.bl _,H,I,rfl,q _ ?_⟩
   rw [List.size_toArray,<- l1,<- e,Nat.min_self,beq_self_eq_true,Bool.true_and]
  ·refine SeqAt.eq_list_lengthsAt p1.isList p2.isList (by rw [List.size_toArray,List.size_toArray,bne_iff_ne];lia) hu ⟨.bl _,H,I,rfl,q _ ?_⟩
   rw [beq_eq_false_iff_ne.mpr e,Bool.false_and]
 ·obtain ⟨its,r1,p1,_⟩:=I.tuple ha;obtain ⟨its2,r2,p2,_⟩:=I.tuple hb;have l1:=r1.length;have l2:=r2.length;refine SeqAt.eq_tupleAt p1 p2 hu (item its its2 r1 r2) ⟨.bl _,H,I,rfl,q _ ?_⟩;rw [List.size_toArray,List.size_toArray,<- l1,<- l2,Bool.and_comm];rfl
theorem reps_flat {K:PySem.W.Frag} {H:Hp} {B:AP'}:∀ {xs:List V} {ts:List T},Reps K H B xs ts -> ts.all flatT = true -> xs.all flatV = true
 | _,_,.nil,_ => rfl
 | _,_,.cons h r,f => by
  rw [List.all_cons,Bool.and_eq_true] at f ⊢;refine ⟨?_,reps_flat r f.2⟩;have f1:=f.1
  cases h <;> first | rfl | cases f1
theorem eqFs_V {K:PySem.W.Frag} {H:Hp} {B:AP'} {xs ys:List V} {ts us:List T} (h1:Reps K H B xs ts) (h2:Reps K H B ys us) (f1:ts.all flatT = true) (f2:us.all flatT = true) :
  eqFs ts us = (xs.length == ys.length && (List.range (min xs.length ys.length)).all fun j => match xs[j]?,ys[j]? with | some x,some y => eqV x y | _,_ => true):=by
 unfold eqFs;have l1:=h1.length;have l2:=h2.length;rw [l1,l2];congr 1;refine List.all_congr rfl ?_ |>.symm;intro j
 cases a1:ts[j]? with
 | none =>
  have:xs[j]? = none:=List.getElem?_eq_none_iff.mpr (by have:=List.getElem?_eq_none_iff.mp a1;lia)
  rw [this]
 | some t =>
  obtain ⟨v1,e1,r1⟩:=h1.get a1;rw [e1]
  cases a2:us[j]? with
  | none =>
   have:ys[j]? = none:=List.getElem?_eq_none_iff.mpr (by have:=List.getElem?_eq_none_iff.mp a2;lia)
   rw [this]
  | some u =>
   obtain ⟨v2,e2,r2⟩:=h2.get a2;rw [e2];exact (eqF_V r1 r2 (List.all_eq_true.mp f1 _ (List.mem_of_getElem? a1)) (List.all_eq_true.mp f2 _ (List.mem_of_getElem? a2))).2.2
def rEqG (K:PySem.W.Frag):R2:=fun x y H Q => rEq x y H Q \/ rEqL K false x y H Q
theorem op_eqG {X:Cx} (K:PySem.W.Frag) (hK:X.K = K) (hu:X.A.units < cLine):OpR X (compareOp .Eq) (rEqG K):=by subst hK;exact op_eq.or (op_eqL hu)
def tEq (neg:Bool):T -> T -> Mu -> (R -> Mu -> Prop) -> Prop:=fun t u μ Q => match t,u with
 | .int i,.int j => Q (.tr (.bl (if neg then !decide (i = j) else decide (i = j)))) μ
 | .str i,.str j => Q (.tr (.bl (if neg then !decide (i = j) else decide (i = j)))) μ
 | .bl i,.bl j => Q (.tr (.bl (if neg then !decide (i = j) else decide (i = j)))) μ
 | .lst xs,.lst ys => neg = false /\ xs.all flatT = true /\ ys.all flatT = true /\ Q (.tr (.bl (eqFs xs ys))) μ
 | .tup xs,.tup ys => neg = false /\ xs.all flatT = true /\ ys.all flatT = true /\ Q (.tr (.bl (eqFs xs ys))) μ
 | _,_ => False
theorem dV {α:Type} [DecidableEq α] {f:α -> V} (hf:∀ a b,f a = f b -> a = b) (a b:α):decide (f a = f b) = decide (a = b):=by
 rw [decide_eq_decide];exact ⟨hf a b,fun h => by rw [h]⟩
theorem ro_eq {K:PySem.W.Frag}:ROp K (rEqG K) (byT (tEq false)):=byT_of fun F ad B σ H μ Q Qt x y t u hK l v1 v2 q k => by
 subst hK;unfold tEq at q
 split at q
 ·cases v1;cases v2
  refine .inl ⟨rfl,?_⟩;rw [dV (f:=V.int) (fun a b h => by injection h)]
  exact k _ H _ (Vr.flat l (.bl _)) Fr.refl q
 ·cases v1;cases v2
  refine .inl ⟨rfl,?_⟩;rw [dV (f:=V.str) (fun a b h => by injection h)]
  exact k _ H _ (Vr.flat l (.bl _)) Fr.refl q
 ·cases v1;cases v2
  refine .inl ⟨rfl,?_⟩;rw [dV (f:=V.bl) (fun a b h => by injection h)]
  exact k _ H _ (Vr.flat l (.bl _)) Fr.refl q
 ·cases v1 with
  | lst ha ra => cases v2 with
   | lst hb rb => exact .inr ⟨_,_,_,_,rfl,rfl,.inl ⟨SqL.of ha,SqL.of hb⟩,reps_flat ra q.2.1,reps_flat rb q.2.2.1,fun c hc => by
     rw [<- eqFs_V ra rb q.2.1 q.2.2.1] at hc;subst hc;exact k _ H _ (Vr.flat l (.bl _)) Fr.refl q.2.2.2⟩
 ·cases v1 with
  | tup ha ra => cases v2 with
   | tup hb rb => exact .inr ⟨_,_,_,_,rfl,rfl,.inr ⟨SqT.of ha,SqT.of hb⟩,reps_flat ra q.2.1,reps_flat rb q.2.2.1,fun c hc => by
     rw [<- eqFs_V ra rb q.2.1 q.2.2.1] at hc;subst hc;exact k _ H _ (Vr.flat l (.bl _)) Fr.refl q.2.2.2⟩
 ·exact q.elim
def by1 (f:T -> Mu -> (R -> Mu -> Prop) -> Prop):UC:=fun rs μ Q => match rs with
 | [r] => (match cont μ r with | some t => f t μ Q | none => False)
 | _ => False
theorem by1_of {K:PySem.W.Frag} {r:List V -> Hp -> VK -> Prop} {f:T -> Mu -> (R -> Mu -> Prop) -> Prop}
  (h:∀ (F:Fx) (ad:Nat -> Addr) (B:AP') (σ:St) (H:Hp) (μ:Mu) (Q:VK) (Qt:R -> Mu -> Prop) (x:V) (t:T),F.K = K -> Rl F ad B σ H μ -> Vw F.K H B x t -> f t μ Qt ->
   (∀ v H' r,Vr F ad B σ H' μ v r -> Fr B H (Bv B v r) H' -> Qt r μ -> Q v H') -> r [x] H Q):RC K r (by1 f):=by
 intro F ad B σ H μ Q Qt xs rs hK l p q k;unfold by1 at q
 split at q
 ·split at q
  ·rename_i r0 _ t e
   cases p with
   | cons h1 p => cases p;exact h F ad B σ H μ Q Qt _ t hK l (h1.vw l e) q fun v H' r v1 s q1 => k v H' r μ v1 s (Kp.refl μ) q1
  ·exact q.elim
 ·exact q.elim
def tLen:T -> Mu -> (R -> Mu -> Prop) -> Prop:=fun t μ Q => match t with
 | .lst xs => Q (.tr (.int xs.length)) μ
 | .tup xs => Q (.tr (.int xs.length)) μ
 | .rol xs => Q (.tr (.int xs.length)) μ
 | .ktp xs => Q (.tr (.int xs.length)) μ
 | .str z => z.length <= sizeLine /\ Q (.tr (.int z.length)) μ
 | _ => False
def rLenG (K:PySem.W.Frag):List V -> Hp -> VK -> Prop:=fun xs H Q => (∃ p ys,xs = [.ref p] /\ (SqL K H p ys \/ SqT K H p ys) /\ Q (.int ys.length) H) \/ (∃ z,xs = [.str z] /\ z.length <= sizeLine /\ Q (.int z.length) H)
theorem call_lenG {X:Cx} (K:PySem.W.Frag) (hK:X.K = K):CallR X (.builtin "len") (rLenG K):=by subst hK;exact call_len_seq.or call_len_str
theorem rc_len {K:PySem.W.Frag}:RC K (rLenG K) (by1 tLen):=by1_of fun F ad B σ H μ Q Qt x t hK l v1 q k => by
 subst hK;unfold tLen at q
 split at q
 ·cases v1 with
  | lst ha ra => exact .inl ⟨_,_,rfl,.inl (SqL.of ha),by rw [ra.length];exact k _ H _ (Vr.flat l (.int _)) Fr.refl q⟩
 ·cases v1 with
  | tup ha ra => exact .inl ⟨_,_,rfl,.inr (SqT.of ha),by rw [ra.length];exact k _ H _ (Vr.flat l (.int _)) Fr.refl q⟩
 ·cases v1 with
  | rol ha ra => exact .inl ⟨_,_,rfl,.inl ha,by rw [ra.length];exact k _ H _ (Vr.flat l (.int _)) Fr.refl q⟩
 ·cases v1 with
  | ktp ha ra => exact .inl ⟨_,_,rfl,.inr (.inr ha),by rw [ra.length];exact k _ H _ (Vr.flat l (.int _)) Fr.refl q⟩
 ·cases v1;exact .inr ⟨_,rfl,q.1,k _ H _ (Vr.flat l (.int _)) Fr.refl q.2⟩
 ·exact q.elim
def uTuple:UC:=fun rs μ Q => match rs with
 | [r] => (match cont μ r with
  | some (.lst xs) => Q (.tr (.tup xs)) μ
  | some (.tup xs) => Q (.tr (.tup xs)) μ
  | _ => False)
 | _ => False
def rTupG (K:PySem.W.Frag):List V -> Hp -> VK -> Prop:=fun xs H Q => ∃ p ys,xs = [.ref p] /\ ((SqL K H p ys /\ ∀ l,H l = none -> Q (.ref l) (upd H l (.tup ys))) \/ (SqT K H p ys /\ Q (.ref p) H))
theorem call_tupG {X:Cx} (K:PySem.W.Frag) (hK:X.K = K):CallR X (.type "tuple") (rTupG K):=by subst hK;exact call_tuple_of
theorem rc_tuple {K:PySem.W.Frag}:RC K (rTupG K) uTuple:=by
 intro F ad B σ H μ Q Qt xs rs hK l p q k;subst hK;unfold uTuple at q
 split at q
 ·cases p with
  | cons h1 p =>
   cases p
   split at q
   ·rename_i e;have v1:=h1.vw l e
    cases v1 with
    | lst ha ra => exact ⟨_,_,rfl,.inl ⟨SqL.of ha,fun p hp => k _ _ _ μ (Vr.newT l ra hp) (Fr.same (Same.new hp)) (Kp.refl μ) q⟩⟩
   ·rename_i e;have rp:=Hv.tupR l h1 e;have rp':=rp
    cases rp with
    | tup na ha ra => exact ⟨_,_,rfl,.inr ⟨SqT.of ha,k _ H _ μ (Vr.flat l rp') Fr.refl (Kp.refl μ) q⟩⟩
   ·exact q.elim
 ·exact q.elim
def uII (g:Int -> Int -> Int):UC:=fun rs μ Q => match rs with
 | [.tr (.int i),.tr (.int j)] => Q (.tr (.int (g i j))) μ
 | _ => False
theorem rc_ii {K:PySem.W.Frag} {r:List V -> Hp -> VK -> Prop} {g:Int -> Int -> Int} (h:∀ i j H Q,Q (.int (g i j)) H -> r [.int i,.int j] H Q):RC K r (uII g):=by
 intro F ad B σ H μ Q Qt xs rs hK l p q k;unfold uII at q
 split at q
 ·cases p with
  | cons h1 p => cases p with
   | cons h2 p => cases p;cases rep_of h1;cases rep_of h2;exact h _ _ _ _ (k _ H _ μ (Vr.flat l (.int _)) Fr.refl (Kp.refl μ) q)
 ·exact q.elim
theorem rc_min {K:PySem.W.Frag}:RC K uMin (uII fun i j => if j < i then j else i):=rc_ii fun i j H Q q => q
def uIntG:UC:=fun rs μ Q => match rs with
 | [.tr (.int i)] => Q (.tr (.int i)) μ
 | [.tr (.bl k)] => Q (.tr (.int (if k = true then 1 else 0))) μ
 | _ => False
theorem rc_int {K:PySem.W.Frag}:RC K uInt uIntG:=by
 intro F ad B σ H μ Q Qt xs rs hK l p q k;unfold uIntG at q
 split at q
 ·cases p with
  | cons h1 p => cases p;cases rep_of h1;exact k _ H _ μ (Vr.flat l (.int _)) Fr.refl (Kp.refl μ) q
 ·cases p with
  | cons h1 p => cases p;cases rep_of h1;exact k _ H _ μ (Vr.flat l (.int _)) Fr.refl (Kp.refl μ) q
 ·exact q.elim
end Y
namespace Y
def isiT:T -> String -> Option Bool
 | .non,c => some (isiU "NoneType" c)
 | .bl _,c => some (isiU "bool" c)
 | .int _,c => some (isiU "int" c)
 | .str _,c => some (isiU "str" c)
 | .lst _,c => some (isiU "list" c)
 | .tup _,c => some (isiU "tuple" c)
 | _,_ => none
def uIsi (ue:UE) (c:String):UE:=fun μ Q => ue μ fun r μ' => match cont μ' r with
 | some t => (match isiT t c with | some b => Q (.tr (.bl b)) μ' | none => False)
 | none => False
theorem Vw.ty {K:PySem.W.Frag} {H:Hp} {B:AP'} {v:V} {t:T} {c:String} {b:Bool} (h:Vw K H B v t) (e:isiT t c = some b):∃ s,tyU H v = some s /\ isiU s c = b:=by
 cases h with
 | non => cases e;exact ⟨_,rfl,rfl⟩
 | bl => cases e;exact ⟨_,rfl,rfl⟩
 | int => cases e;exact ⟨_,rfl,rfl⟩
 | str => cases e;exact ⟨_,rfl,rfl⟩
 | tup h r => cases e;exact ⟨_,by unfold tyU;simp only [h],rfl⟩
 | lst h r => cases e;exact ⟨_,by unfold tyU;simp only [h],rfl⟩
 | rol => cases e
 | rng => cases e
 | dic => cases e
 | exc => cases e
 | exa => cases e
 | ktp => cases e
theorem Vr.vw {F:Fx} {ad:Nat -> Addr} {B:AP'} {σ:St} {H:Hp} {μ:Mu} {v:V} {r:R} {t:T} (h:Vr F ad B σ H μ v r) (e:cont μ r = some t):Vw F.K H B v t:=by
 have e':cont μ r.d = some t:=by cases r <;> exact e
 exact h.hv.vw h.rl e'
section
variable {X:Cx} {a b c e o:Expr} {es rest:List Expr} {ua ub uc ue uo:UE} {uA uB:UT} {us:UA} {pos p p2 p3:Pos} {x:Str}
theorem isi {C:String} (K:PySem.W.Frag) (hK:X.K = K) (hg:Gl X "isinstance") (hm:X.mg "isinstance" = none) (ha:YE X a ua) (hgc:Gl X x) (hmc:X.mg x = none) (hvc:bootBuiltins x = some (.type C)) (hc:autoParam (C ∈ ["bool","int","str","list","tuple","dict"]) L2.aDec._auto_1) (h1:autoParam (nst a = true) L2.aRfl._auto_1)
  (hnx:autoParam (x ≠ "__name__") L2.aDec._auto_1) (hdx:autoParam ((x == ("__debug__":Str)) = false) L2.aDec._auto_1):YE X (.Call (.Name "isinstance" p) [a,.Name x p3] [] pos) (uIsi ua C):=by
 obtain ⟨t,q,r⟩:=ha;refine ⟨_,Z.cb (Z.k_isi K hK) hg hm PyProof.Rows.boot_isinstance (Z.cons q (Z.cons (Z.tyv hgc hmc hvc hnx hdx) Z.nil) h1) h1,fun F ad B σ H μ Q Qt hK l q k => r F ad B σ H μ _ _ hK l q fun v H' r1 μ' v1 f k1 q1 => ?_⟩;show L2.uIsi K [v,.ty C] H' Q;refine ⟨hc,?_⟩
 split at q1
 ·rename_i t e
  split at q1
  ·rename_i b e2;obtain ⟨s,e3,e4⟩:=Vw.ty (Vr.vw v1 e) e2;rw [e3];subst e4;exact k _ H' (.tr (.bl _)) μ' (Vr.flat v1.rl (.bl _)) f.d k1 q1
  ·exact q1.elim
 ·exact q1.elim
def cutG {α:Type} (xs:List α) (lo hi:Option Int):List α:=(xs.drop (HT.sIx xs.length 0 lo)).take (HT.sIx xs.length xs.length hi - HT.sIx xs.length 0 lo)
theorem Reps.cut {K:PySem.W.Frag} {H:Hp} {B:AP'} {vs:List V} {ts:List T} (r:Reps K H B vs ts) (lo hi:Option Int):Reps K H B (cutV vs lo hi) (cutG ts lo hi):=by
 unfold cutV cutG;rw [r.length];exact (r.drop _).take _
def rSlW (K:PySem.W.Frag):V -> Option Int -> Option Int -> Hp -> VK -> Prop:=fun x lo hi H Q => ∃ a xs,x = .ref a /\ SqT K H a xs /\ HT.sIx xs.length 0 lo = 0 /\ HT.sIx xs.length xs.length hi = xs.length /\ Q (.ref a) H
theorem getItem_tuple_all {prog:Program} {w:World} {A:Around} {E:Value -> Shared -> Prop} {s:Shared} {t sl:Addr} {items:Array Value} {vl vu:Value} {lo hi:Option Int} {Q:Value -> Shared -> Prop} (ht:IsTup s.heap t items) (hs:s.heap.IsSliceOf sl vl vu .none) (pl:IsPart vl lo) (pu:IsPart vu hi)
  (h1:HT.sIx items.size 0 lo = 0) (h2:HT.sIx items.size items.size hi = items.size) (h:Q (.ref t) s):wpAny (model prog w) A (getItem (.ref t) (.ref sl)) Q E s:=by
 obtain ⟨os,hos,hcs,hds⟩:=id hs;have hTs:s.TypeIs (.ref sl) "slice":=⟨os,hos,hcs⟩;unfold getItem
 try with_reducible refine wpAny_holding ?_
 first | refine wpAny_bind (wpAny_pure ?_) | skip
 refine wpAny_bind (wpAny_sequenceKey ht.typeIs (by decide) ?_)
 refine wpAny_bind (wpAny_callSpecial?_slot (name:=Str.ofString "__getitem__") ht.typeIs PyProof.Rows.slot_tuple_getitem
  (wpAny_call_entry PyProof.Rows.slot_tuple_getitem ht.typeIs entry_tuple_getitem ?_ (args_tuple_getitem _ _)))
 show wpAny _ _ (Builtin.Tuple.tupleItemsOf (.ref t) >>= _) _ _ s;refine wpAny_bind (tupleItemsOf_ ht ?_);refine wpAny_bind (wpAny_typeOf hTs ?_);rw [if_pos (by decide)]
 refine wpAny_bind (HT.sliceApplied_gen hs pl pu ?_);show wpAny _ _ (if (((HT.sIx items.size 0 lo:Nat):Int) == 0 && (1:Int) == 1 && (HT.sIx items.size items.size hi - HT.sIx items.size 0 lo) == items.size) = true then _ else _) _ _ s
 rw [if_pos (by rw [h1,h2];simp)]
 unfold Builtin.Tuple.tupleIsExact;refine wpAny_bind ?_;refine wpAny_bind (wpAny_typeOf ht.typeIs (wpAny_pure ?_));rw [if_pos (by decide)]
 exact wpAny_bind (wpAny_rule (wpAny_pure ⟨_,rfl,wpAny_pure h⟩))
theorem sl_all {X:Cx}:SlR X (rSlW X.K):=by
 intro pins s σ H x v vl vu lo hi sl Q I rx hs pl pu h;obtain ⟨a,xs,rfl,hx,h1,h2,q⟩:=h;cases rx;obtain ⟨its,r,ht,hz⟩:=I.tuple hx;have hlen:its.toArray.size = xs.length:=by rw [List.size_toArray];exact r.length.symm
 exact ⟨"tuple",_,PyProof.Rows.slot_tuple_getitem.lookup,ht.typeIs,getItem_tuple_all ht hs pl pu (by rw [hlen];exact h1) (by rw [hlen];exact h2) ⟨.ref a,H,I,rfl,q⟩⟩
def rSlG (K:PySem.W.Frag):V -> Option Int -> Option Int -> Hp -> VK -> Prop:=fun x lo hi H Q => rSlL K x lo hi H Q \/ rSlT K x lo hi H Q \/ rSlW K x lo hi H Q
theorem sl_G (K:PySem.W.Frag) (hK:X.K = K):SlR X (rSlG K):=by subst hK;exact sl_list.or (sl_tup.or sl_all)
def uSl (ue:UE) (ul uh:UO):UE:=fun μ Q => ue μ fun r μ1 => ul μ1 fun lo μ2 => uh μ2 fun hi μ3 => match cont μ3 r.d with
 | some (.lst xs) => Q (.fr (.lst (cutG xs lo hi))) μ3
 | some (.rol xs) => Q (.fr (.lst (cutG xs lo hi))) μ3
 | some (.tup xs) => Q (.tr (.tup (cutG xs lo hi))) μ3
 | _ => False
end
end Y
structure EdOk (F:Fx) (B:AP') (H:Hp) (D:Ends) (E:Ed):Prop where
 nx:∀ ad' B' σ' H' μ',Rl F ad' B' σ' H' μ' -> Fr B H B' H' -> E.nx μ' -> D.nx σ' H'
 rt:∀ ad' B' σ' H' μ' v r,Vr F ad' B' σ' H' μ' v r -> E.rt r μ' -> D.rt v H'
 bk:∀ ad' B' σ' H' μ',Rl F ad' B' σ' H' μ' -> Fr B H B' H' -> E.bk μ' -> D.bk σ' H'
 ct:∀ ad' B' σ' H' μ',Rl F ad' B' σ' H' μ' -> Fr B H B' H' -> E.ct μ' -> D.ct σ' H'
theorem EdOk.step {F:Fx} {B B1:AP'} {H H1:Hp} {D:Ends} {E:Ed} (h:EdOk F B H D E) (f:Fr B H B1 H1):EdOk F B1 H1 D E :=
 ⟨fun ad' B' σ' H' μ' l g q => h.nx ad' B' σ' H' μ' l (f.trans g) q,h.rt,fun ad' B' σ' H' μ' l g q => h.bk ad' B' σ' H' μ' l (f.trans g) q,fun ad' B' σ' H' μ' l g q => h.ct ad' B' σ' H' μ' l (f.trans g) q⟩
def RS (K:PySem.W.Frag) (ts:TS) (us:US):Prop:=∀ (F:Fx) (D:Ends) (E:Ed) (ad:Nat -> Addr) (B:AP') (σ:St) (H:Hp) (μ:Mu),F.K = K -> Rl F ad B σ H μ -> us E μ -> EdOk F B H D E -> ts D σ H
noncomputable abbrev UG:=R -> Mu -> (Mu -> Prop) -> Prop
noncomputable abbrev UGs:=List T -> Mu -> (Mu -> Prop) -> Prop
def RG (K:PySem.W.Frag) (g:TG) (ug:UG):Prop:=∀ (F:Fx) (ad:Nat -> Addr) (B:AP') (σ:St) (H:Hp) (μ:Mu) (v:V) (r:R) (B0:AP') (H0:Hp) (Q:St -> Hp -> Prop) (Qt:Mu -> Prop),F.K = K -> Vr F ad B σ H μ v r -> Fr B0 H0 (Bv B v r) H -> ug r μ Qt ->
 (∀ ad' B' σ' H' μ',Rl F ad' B' σ' H' μ' -> Fr B0 H0 B' H' -> Qt μ' -> Q σ' H') -> g v σ H Q
def RGs (K:PySem.W.Frag) (g:TGs) (ug:UGs):Prop:=∀ (F:Fx) (ad:Nat -> Addr) (B:AP') (σ:St) (H:Hp) (μ:Mu) (vs:List V) (ts:List T) (B0:AP') (H0:Hp) (Q:St -> Hp -> Prop) (Qt:Mu -> Prop),F.K = K -> Rl F ad B σ H μ -> Reps F.K H B vs ts -> Fr B0 H0 B H -> ug ts μ Qt ->
 (∀ ad' B' σ' H' μ',Rl F ad' B' σ' H' μ' -> Fr B0 H0 B' H' -> Qt μ' -> Q σ' H') -> g vs σ H Q
structure YG (X:Cx) (e:Expr) (u:UG):Prop where
 ex:∃ t,QG X e t /\ RG X.K t u
structure YGs (X:Cx) (es:List Expr) (u:UGs):Prop where
 ex:∃ t,QGs X es t /\ RGs X.K t u
structure YS (X:Cx) (st:Stmt) (u:US):Prop where
 ex:∃ t,QS X st t /\ RS X.K t u
structure YB (X:Cx) (sts:List Stmt) (u:US):Prop where
 ex:∃ t,QB X sts t /\ RS X.K t u
namespace Y
def noP (μ:Mu) (i:Nat):Prop:=match μ[i]? with
 | some (.pb _) => False
 | _ => True
theorem noP_ne {μ:Mu} {i:Nat} (h:noP μ i):∀ c,μ[i]? ≠ some (.pb c):=fun c e => by unfold noP at h;rw [e] at h;exact h
def gN (i:Nat):UG:=fun r μ Q => match r with
 | .tr t => noP μ i /\ Q (μ.set i (.tr t))
 | .fr c => noP μ i /\ Q (μ.set i (.bx c))
 | .br _ => False
section
variable {X:Cx} {a b c e o tg:Expr} {es rest:List Expr} {ua ub uc ue uo:UE} {uA uB:UT} {us:UA} {pos pos' p p2 p3:Pos} {x:Str} {st:Stmt} {sts xs ys:List Stmt} {u w:US}
theorem rg_name {K:PySem.W.Frag} {i:Nat}:RG K (gName i) (gN i):=fun F ad B σ H μ v r B0 H0 Q Qt hK h f q k => by
 cases r with
 | tr t => exact k ad B _ H _ (h.1.setT (noP_ne q.1) h.2) f q.2
 | br i => exact q.elim
 | fr c =>
  obtain ⟨l,a,rfl,n,h0,l2,x⟩:=h;exact k _ _ _ H _ (l2.setB (noP_ne q.1) h0 n l.own l.gB x) f q.2
theorem gname {i:Nat} (hN:X.N.Nodup) (hi:X.N[i]? = some x) (hx:Loc X.env.scope x) (hf:autoParam (X.fn x = true \/ X.env.scope.names.lookup x = some .local) L2.aLoc._auto_1):YG X (.Name x pos) (gN i):=⟨_,Z.gname hN hi hx hf,rg_name⟩
def gsN:UGs:=fun ts μ Q => match ts with
 | [] => Q μ
 | _ => False
def gsC (g:UG) (gs:UGs):UGs:=fun ts μ Q => match ts with
 | [] => False
 | t :: ts => g (.tr t) μ fun μ' => gs ts μ' Q
theorem gsnil:YGs X [] gsN:=⟨_,Z.gsnil,fun F ad B σ H μ vs ts B0 H0 Q Qt hK l r f q k => by
 cases r with
 | nil => exact ⟨rfl,k ad B σ H μ l f q⟩
 | cons => exact q.elim⟩
theorem gscons {g:UG} {gs:UGs} (h1:YG X e g) (h2:YGs X es gs) (hs:autoParam ((assignEach (e :: es) X.env).map (·.2) = assign e X.env :: (assignEach es X.env).map (·.2)) L2.aRfl._auto_1):YGs X (e :: es) (gsC g gs):=by
 obtain ⟨t,q,r⟩:=h1;obtain ⟨t',q',r'⟩:=h2;refine ⟨_,Z.gscons q q' hs,fun F ad B σ H μ vs ts B0 H0 Q Qt hK l rs f q k => ?_⟩
 cases rs with
 | nil => exact q.elim
 | cons h hr => exact ⟨_,_,rfl,r F ad B σ H μ _ (.tr _) B H _ _ hK ⟨l,h⟩ Fr.refl q fun ad' B' σ' H' μ' l' f' q' => r' F ad' B' σ' H' μ' _ _ B0 H0 _ _ hK l' (hr.fr f') (f.trans f') q' k⟩
def gT (n:Nat) (gs:UGs):UG:=fun r μ Q => match cont μ r.d with
 | some (.tup ts) => ts.length = n /\ gs ts μ Q
 | some (.lst ts) => ts.length = n /\ gs ts μ Q
 | _ => False
def gTupG (K:PySem.W.Frag) (n:Nat) (t:TGs):TG:=fun v σ H Q => ∃ a xs,v = .ref a /\ (SqT K H a xs \/ SqL K H a xs) /\ xs.length = n /\ t xs σ H Q
theorem draw_list {prog:Program} {w:World} {A:Around} {E:Value -> Shared -> Prop} {it t:Addr} {items:Array Value} (hne:t ≠ it):∀ (n i:Nat) (s:Shared) (Q:List Value -> Shared -> Prop),s.heap.IsListIter it t i -> s.heap.IsList t items -> i + n <= items.size ->
  (∀ h',h'.IsListIter it t (i + n) -> Heap.SameBut it s.heap h' -> Q ((items.toList.drop i).take n) { s with heap:=h' }) -> wpAny (model prog w) A (draw (.ref it) n) Q E s
 | 0,i,s,Q,hit,_,_,hQ => by
  show wpAny _ _ (pure []) Q E s;exact wpAny_pure (by simpa using hQ s.heap hit (Heap.SameBut.refl ..))
 | n + 1,i,s,Q,hit,ht,hle,hQ => by
  have hlt:i < items.size:=by lia
  show wpAny _ _ (pyNext (.ref it) >>= _) Q E s;refine wpAny_bind (wpAny_pyNext_list_item hit ht (x:=items[i]) (by simp [hlt]) fun h₁ hit₁ hs₁ => ?_)
  refine wpAny_bind (wpAny_holding (draw_list hne n (i + 1) _ _ hit₁ (ht.extBut hs₁.extBut hne) (by lia) fun h₂ hit₂ hs₂ => wpAny_pure ?_))
  have hd:items.toList.drop i = items[i] :: items.toList.drop (i + 1):=by simp [List.drop_eq_getElem_cons,hlt]
  have:=hQ h₂ (by rw [show i + (n + 1) = i + 1 + n by lia];exact hit₂) (hs₁.trans hs₂)
  rw [hd,List.take_succ_cons] at this;exact this
theorem unpackItems_list {prog:Program} {w:World} {A:Around} {E:Value -> Shared -> Prop} {s:Shared} {t:Addr} {items:Array Value} {Q:List Value -> Shared -> Prop} (hh:A.handled = none) (ht:s.heap.IsList t items)
  (hQ:∀ h',Heap.ExtBut s.heap.objs.size s.heap h' -> Q items.toList { s with heap:=h' }):wpAny (model prog w) A (unpackItems (.ref t) items.size none) Q E s:=by
 have hlt:t ≠ s.heap.objs.size:=by obtain ⟨o,ho,_⟩:=ht;exact Nat.ne_of_lt (Heap.lt_size ho)
 unfold unpackItems;refine wpAny_bind ?_
 ·unfold notIterableAtAll;refine wpAny_bind (wpAny_specialOf ht.typeIs F.slot_list_iter.lookup ?_);refine wpAny_pure ?_;simp only [Bool.false_eq_true,if_false];refine wpAny_bind (wpAny_holding (wpAny_pyIter_list ht ?_));refine wpAny_bind (wpAny_holding (draw_list hlt items.size 0 _ _ ⟨_,Heap.get?_push_size _ rfl,rfl,rfl⟩ (ht.push _) (by lia) fun h₁ hit₁ hs₁ => ?_))
  have hall:List.take items.size (List.drop 0 items.toList) = items.toList:=by
   rw [List.drop_zero];exact List.take_of_length_le (by simp)
  rw [hall];rw [if_neg (by simp)]
  have ht₁:h₁.IsList t items:=(ht.push _).extBut hs₁.extBut hlt;refine wpAny_bind (wpAny_holding (wpAny_pyNext_list_end hh hit₁ ht₁ (by simp) fun h₂ he₂ => ?_))
  simp only [Option.isSome_none,Bool.false_eq_true,if_false];refine wpAny_pure (hQ h₂ fun b o hb e => he₂ b o hb (hs₁.extBut b o hb (Heap.get?_push_of_some _ e)))
theorem pg_tupG {es:List Expr} {k:Nat} {t:TGs} {n:Nat} (hc:X.calm = true) (h:PGs X es t)
  (hn:autoParam ((assignEach es X.env).length = n) L2.aRfl._auto_1) (hst:autoParam ((assignEach es X.env).findIdx? (·.1) = none) L2.aRfl._auto_1):PG X (.Tuple es k pos) (gTupG X.K n t):=by
 intro pins s σ H v u Q I r hw;obtain ⟨a,xs,e1,hq,hl,hw⟩:=hw;rcases hq with hq | hq
 ·exact pg_tup hc h hn hst pins s σ H v u Q I r ⟨a,xs,e1,hq,hl,hw⟩
 ·subst e1;cases r;obtain ⟨its,rv,ht,hz⟩:=I.list hq;rw [assign_Tuple];refine wpAny_bind (wpAny_standAt ?_);unfold unpack;have hsz:(assignEach es X.env).length = its.toArray.size:=by rw [hn,<- hl,rv.length];simp
  rw [hsz,hst];refine wpAny_bind (wpAny_holding (unpackItems_list (I.ok.hd hc) ht.isList fun h' hx => ?_));have I1:Inv X pins σ H { s with heap:=h' }:=I.kept (t':=s.toks) fun b o e => hx b o (Nat.ne_of_lt (Heap.lt_size e)) e
  exact h pins _ σ H xs _ Q I1 (by simpa using rv) hw
theorem gtup (K:PySem.W.Frag) (hK:X.K = K) {k n:Nat} {gs:UGs} (hc:X.calm = true) (h:YGs X es gs) (hn:autoParam ((assignEach es X.env).length = n) L2.aRfl._auto_1) (hst:autoParam ((assignEach es X.env).findIdx? (·.1) = none) L2.aRfl._auto_1):YG X (.Tuple es k pos) (gT n gs):=by
 obtain ⟨t,q,r⟩:=h;subst hK;refine ⟨_,⟨pg_tupG hc q.h hn hst⟩,fun F ad B σ H μ v rr B0 H0 Q Qt hF h f q k => ?_⟩;have l:=h.rl;have f':Fr B0 H0 B H:=fun b o h n => ⟨(f b o h n).1,fun z => (f b o h n).2 (by cases rr <;> first | exact z | (cases v <;> first | exact z | exact .inr z))⟩
 unfold gT at q
 split at q
 ·rename_i ts e;have w:=h.hv.vw l e;rw [hF] at w
  cases w with
  | tup ha ra => exact ⟨_,_,rfl,.inl (SqT.of ha),by rw [ra.length];exact q.1,r F ad B σ H μ _ ts B0 H0 Q Qt hF l (by rw [hF];exact ra) f' q.2 k⟩
 ·rename_i ts e;have w:=h.hv.vw l e;rw [hF] at w
  cases w with
  | lst ha ra => exact ⟨_,_,rfl,.inr (SqL.of ha),by rw [ra.length];exact q.1,r F ad B σ H μ _ ts B0 H0 Q Qt hF l (by rw [hF];exact ra) f' q.2 k⟩
 ·exact q.elim
theorem bnil:YB X [] (fun E μ => E.nx μ):=⟨_,Z.bnil,fun F D E ad B σ H μ hK l q h => h.nx ad B σ H μ l Fr.refl q⟩
theorem bone (h:YS X st u):YB X [st] u:=by obtain ⟨t,q,r⟩:=h;exact ⟨t,Z.bone q,r⟩
def uSeq (u w:US):US:=fun E μ => u { E with nx:=w E } μ
theorem bcons (h:YS X st u) (h2:YB X sts w):YB X (st :: sts) (uSeq u w):=by
 obtain ⟨t,q,r⟩:=h;obtain ⟨t',q',r'⟩:=h2;exact ⟨_,Z.bcons q q',fun F D E ad B σ H μ hK l q h => r F { D with nx:=t' D } { E with nx:=w E } ad B σ H μ hK l q
  ⟨fun ad1 B1 σ1 H1 μ1 l1 f1 q1 => r' F D E ad1 B1 σ1 H1 μ1 hK l1 q1 (h.step f1),h.rt,h.bk,h.ct⟩⟩
def uAsg (ue:UE) (g:UG):US:=fun E μ => ue μ fun r μ' => g r μ' E.nx
theorem rs_asg {K:PySem.W.Frag} {te:TE} {tg:TG} {g:UG} (he:RE K te ue) (hg:RG K tg g):RS K (tAsg te tg) (uAsg ue g):=fun F D E ad B σ H μ hK l q h =>
 he F ad B σ H μ _ _ hK l q fun v H' r μ' v1 f k1 q1 => hg F ad B σ H' μ' v r B H _ _ hK v1 f q1 fun ad' B' σ' H2 μ2 l2 f2 q2 => h.nx ad' B' σ' H2 μ2 l2 f2 q2
theorem set {i:Nat} (hN:X.N.Nodup) (hi:X.N[i]? = some x) (hx:Loc X.env.scope x) (he:YE X e ue) (hs:autoParam (Z.noc e = true) L2.aRfl._auto_1) (hf:autoParam (X.fn x = true \/ X.env.scope.names.lookup x = some .local) L2.aLoc._auto_1) :
  YS X (.Assign [.Name x pos'] e pos) (uAsg ue (gN i)):=by
 obtain ⟨t,q,r⟩:=he;exact ⟨_,Z.set hN hi hx q hs hf,rs_asg r rg_name⟩
theorem asg {g:UG} (he:YE X e ue) (hg:YG X tg g) (hs:autoParam (swapsWithSole [tg] e pos.line X.env = pure false) L2.aRfl._auto_1) (hw:autoParam (swappedStores [tg] e X.env = pure none) L2.aRfl._auto_1)
  (h1:autoParam ((assignEach [tg] X.env).map (·.2) = [assign tg X.env]) L2.aRfl._auto_1):YS X (.Assign [tg] e pos) (uAsg ue g):=by
 obtain ⟨t,q,r⟩:=he;obtain ⟨t',q',r'⟩:=hg;exact ⟨_,Z.asg q q' hs hw h1,rs_asg r r'⟩
def uRet (ue:UE):US:=fun E μ => ue μ E.rt
theorem ret (he:YE X e ue):YS X (.Return (some e) pos) (uRet ue):=by
 obtain ⟨t,q,r⟩:=he;exact ⟨_,Z.ret q,fun F D E ad B σ H μ hK l q h => r F ad B σ H μ _ _ hK l q fun v H' r1 μ' v1 f k1 q1 => h.rt ad B σ H' μ' v r1 v1 q1⟩
def uDrop (ue:UE):US:=fun E μ => ue μ fun _ μ' => E.nx μ'
theorem expr (he:YE X e ue) (hs:autoParam (Z.noc e = true) L2.aRfl._auto_1):YS X (.Expr e pos) (uDrop ue):=by
 obtain ⟨t,q,r⟩:=he;exact ⟨_,Z.expr q hs,fun F D E ad B σ H μ hK l q h => r F ad B σ H μ _ _ hK l q fun v H' r1 μ' v1 f k1 q1 => h.nx ad B σ H' μ' v1.rl f.d q1⟩
def uIfS (c:UT) (u w:US):US:=fun E μ => c μ fun b μ' => if b = true then u E μ' else w E μ'
theorem ifS (hc:YT X c uA) (ha:YB X xs u) (hb:YB X ys w):YS X (.If c xs ys pos) (uIfS uA u w):=by
 obtain ⟨tc,qc,rc⟩:=hc;obtain ⟨t,q,r⟩:=ha;obtain ⟨t',q',r'⟩:=hb;refine ⟨_,Z.ifS qc q q',fun F D E ad B σ H μ hK l q h => rc F ad B σ H μ _ _ hK l q fun b H' μ' l1 f k1 q1 => ?_⟩
 cases b with
 | true => rw [if_pos rfl] at q1 ⊢;exact r F D E ad B σ H' μ' hK l1 q1 (h.step f)
 | false => rw [if_neg Bool.false_ne_true] at q1 ⊢;exact r' F D E ad B σ H' μ' hK l1 q1 (h.step f)
end
end Y
structure ItOk (K:PySem.W.Frag) (J:It) (Src:Hp -> AP' -> Prop) (items:List T):Prop where
 step:∀ H B i t,(∀ b,B b -> ∃ o,H b = some o) -> Src H B -> items[i]? = some t -> J.go i H /\ ∀ x H2,J.yld i H x H2 -> Same H H2 /\ Rep K H2 B x t
 stop:∀ H B,Src H B -> J.stop items.length H
theorem ItOk.imp {K:PySem.W.Frag} {J:It} {Src Src':Hp -> AP' -> Prop} {items:List T} (h:ItOk K J Src items) (f:∀ H B,Src' H B -> Src H B):ItOk K J Src' items:=⟨fun H B i t hb s e => h.step H B i t hb (f H B s) e,fun H B s => h.stop H B (f H B s)⟩
def SrcOk (F:Fx) (ad:Nat -> Addr) (Src:Hp -> AP' -> Prop):Option (Nat × List T) -> Prop
 | none => ∀ B1 H1 B2 H2,Fr B1 H1 B2 H2 -> Src H1 B1 -> Src H2 B2
 | some (j,ls) => (∀ B' σ' H' μ',Rl F ad B' σ' H' μ' -> cont μ' (.br j) = some (.lst ls) -> Src H' B') /\ ∀ B' H',Rep F.K H' B' (.ref (ad j)) (.lst ls) -> Src H' B'
noncomputable abbrev UI:=Mu -> (List T -> Option (Nat × List T) -> Mu -> Prop) -> Prop
def RI (K:PySem.W.Frag) (wi:TI) (ui:UI):Prop:=∀ (F:Fx) (ad:Nat -> Addr) (B:AP') (σ:St) (H:Hp) (μ:Mu) (R:It -> Hp -> Prop) (Rt:List T -> Option (Nat × List T) -> Mu -> Prop),F.K = K -> Rl F ad B σ H μ -> ui μ Rt ->
 (∀ J H' μ' items gd Src,Rl F ad B σ H' μ' -> Fr B H B H' -> Kp μ μ' -> ItOk K J Src items -> Src H' B -> SrcOk F ad Src gd -> (∀ j ls,gd = some (j,ls) -> cont μ' (.br j) = some (.lst ls)) -> Rt items gd μ' -> R J H') -> wi σ H R
structure YI (X:Cx) (tg it:Expr) (u:UI):Prop where
 ex:∃ t,QI X tg it t /\ RI X.K t u
theorem itl_ok {K:PySem.W.Frag} {a:Addr} {ts:List T}:ItOk K (Itl K a) (fun H B => ∃ vs,SqL K H a vs /\ Reps K H B vs ts) ts :=
 ⟨fun H B i t hb ⟨vs,h,r⟩ e => by
  obtain ⟨v,e1,rv⟩:=r.get e;refine ⟨⟨vs,v,h,e1⟩,fun x H2 y => ?_⟩;obtain ⟨rfl,y⟩:=y;have:=y vs h;rw [e1] at this;cases this;exact ⟨Same.refl _,rv⟩,fun H B ⟨vs,h,r⟩ => ⟨vs,h,by rw [r.length];exact Nat.le_refl _⟩⟩
theorem itt_ok {K:PySem.W.Frag} {a:Addr} {ts:List T}:ItOk K (Itt K a) (fun H B => ∃ vs,SqT K H a vs /\ Reps K H B vs ts) ts :=
 ⟨fun H B i t hb ⟨vs,h,r⟩ e => by
  obtain ⟨v,e1,rv⟩:=r.get e;refine ⟨⟨vs,v,h,e1⟩,fun x H2 y => ?_⟩;obtain ⟨rfl,y⟩:=y;have:=y vs h;rw [e1] at this;cases this;exact ⟨Same.refl _,rv⟩,fun H B ⟨vs,h,r⟩ => ⟨vs,h,by rw [r.length];exact Nat.le_refl _⟩⟩
def pairs (ts:List T):List T:=(List.range ts.length).map fun i => .tup [.int (i:Nat),(ts[i]?).getD .non]
theorem itr_ok {K:PySem.W.Frag} {lo:Int} {n:Nat}:ItOk K (Itr lo n) (fun _ _ => True) ((List.range n).map fun k => T.int (lo + (k:Nat))) :=
 ⟨fun H B i t hb _ e => by
  rw [List.getElem?_map] at e;have hi:i < n:=by
   rcases Nat.lt_or_ge i n with z | z
   ·exact z
   ·rw [List.getElem?_eq_none_iff.mpr (by simpa using z)] at e;cases e
  rw [List.getElem?_range hi] at e;refine ⟨hi,fun x H2 y => ?_⟩;obtain ⟨rfl,rfl⟩:=y;cases e;exact ⟨Same.refl _,.int _⟩,fun H B _ => by simp [Itr]⟩
def iSeq (K:PySem.W.Frag) (tl:TE):TI:=fun σ H R => tl σ H fun x H1 => ∃ a,x = V.ref a /\ (((∃ xs,SqL K H1 a xs) /\ R (Itl K a) H1) \/ ((∃ xs,SqT K H1 a xs) /\ R (Itt K a) H1))
theorem pi_seq {X:Cx} {tg l:Expr} {tl:TE} (hl:PE X l tl):PI X tg l (iSeq X.K tl):=by
 intro pins s σ H R I h;refine thn (hl pins s σ H _ I h) fun v s1 ⟨x,H1,I1,r1,q1⟩ => ?_;obtain ⟨a,rfl,q⟩:=q1;cases r1;rcases q with ⟨⟨xs,hq⟩,q⟩ | ⟨⟨xs,hq⟩,q⟩
 ·obtain ⟨its,rv,p,hz⟩:=I1.list hq;refine wpAny_pyIter_list p.isList ?_;refine ⟨s1.heap.objs.size,[s1.heap.objs.size],_,_,H1,rfl,I1.kept (t':=s1.toks) fun b o e => Heap.get?_push_of_some _ e,turn_list a _,⟨_,Heap.get?_push_size _ rfl,rfl,rfl⟩,fun b hb => ?_,q⟩;have e:b = s1.heap.objs.size:=by simpa using hb
  subst e;exact I1.fpOk (Nat.le_refl _) (I1.hok.fresh (Nat.le_refl _))
 ·obtain ⟨its,rv,p,hz⟩:=I1.tuple hq;refine wpAny_pyIter_tuple (show s1.heap.IsTuple a its.toArray from p) ?_;refine ⟨s1.heap.objs.size,[s1.heap.objs.size],_,_,H1,rfl,I1.kept (t':=s1.toks) fun b o e => Heap.get?_push_of_some _ e,turn_tuple a _,⟨_,Heap.get?_push_size _ rfl,rfl,rfl⟩,fun b hb => ?_,q⟩;have e:b = s1.heap.objs.size:=by simpa using hb
  subst e;exact I1.fpOk (Nat.le_refl _) (I1.hok.fresh (Nat.le_refl _))
namespace Y
section
variable {X:Cx} {a b c e o tg it:Expr} {es rest:List Expr} {ua ub uc ue uo:UE} {uA uB:UT} {us:UA} {pos pos' p p2 p3:Pos} {x:Str} {st:Stmt} {sts xs ys:List Stmt} {u w:US}
def uIt (ue:UE):UI:=fun μ Rt => ue μ fun r μ' => match r with
 | .br j => (match cont μ' (.br j) with | some (.lst ts) => Rt ts (some (j,ts)) μ' | _ => False)
 | .tr (.lst ts) => Rt ts none μ'
 | .fr (.lst ts) => Rt ts none μ'
 | .tr (.tup ts) => Rt ts none μ'
 | .tr (.rol ts) => Rt ts none μ'
 | .tr (.ktp ts) => Rt ts none μ'
 | _ => False
theorem any (K:PySem.W.Frag) (hK:X.K = K) (he:YE X e ue):YI X tg e (uIt ue):=by
 obtain ⟨t,q,r⟩:=he;subst hK;refine ⟨_,⟨pi_seq q.h⟩,fun F ad B σ H μ R Rt hF l q k => r F ad B σ H μ _ _ hF l q fun v H' r1 μ' v1 f k1 q1 => ?_⟩;have hv:=v1.hv;have l1:=v1.rl;have go:∀ (ts:List T) (a:Addr) (t:T),v = .ref a -> Rep F.K H' B (.ref a) t -> (t = .lst ts \/ t = .rol ts) -> Rt ts none μ' -> ∃ a,v = V.ref a /\ (((∃ xs,SqL X.K H' a xs) /\ R (Itl X.K a) H') \/ ((∃ xs,SqT X.K H' a xs) /\ R (Itt X.K a) H')):=fun ts a t ev rp et q => by
  have sr:∀ H B,Rep F.K H B (.ref a) t -> ∃ vs,SqL X.K H a vs /\ Reps X.K H B vs ts:=fun H B h => by
   rw [hF] at h;rcases et with rfl | rfl
   ·cases h with | lst n h r => exact ⟨_,SqL.of h,r⟩
   ·cases h with | rol h r => exact ⟨_,h.sq,r⟩
  obtain ⟨vs,h1,_⟩:=sr _ _ rp;exact ⟨a,ev,.inl ⟨⟨vs,h1⟩,k _ H' μ' ts none (fun H B => Rep F.K H B (.ref a) t) l1 f.d k1 (itl_ok.imp sr) rp (fun B1 H1 B2 H2 f h => h.fr f) (fun j ls z => by cases z) q⟩⟩
 have goT:∀ (ts:List T) (a:Addr) (t:T),v = .ref a -> Rep F.K H' B (.ref a) t -> (t = .tup ts \/ t = .ktp ts) -> Rt ts none μ' -> ∃ a,v = V.ref a /\ (((∃ xs,SqL X.K H' a xs) /\ R (Itl X.K a) H') \/ ((∃ xs,SqT X.K H' a xs) /\ R (Itt X.K a) H')):=fun ts a t ev rp et q => by
  have sr:∀ H B,Rep F.K H B (.ref a) t -> ∃ vs,SqT X.K H a vs /\ Reps X.K H B vs ts:=fun H B h => by
   rw [hF] at h;rcases et with rfl | rfl
   ·cases h with | tup n h r => exact ⟨_,SqT.of h,r⟩
   ·cases h with | ktp h r => exact ⟨_,.inr h,r⟩
  obtain ⟨vs,h1,_⟩:=sr _ _ rp;exact ⟨a,ev,.inr ⟨⟨vs,h1⟩,k _ H' μ' ts none (fun H B => Rep F.K H B (.ref a) t) l1 f.d k1 (itt_ok.imp sr) rp (fun B1 H1 B2 H2 f h => h.fr f) (fun j ls z => by cases z) q⟩⟩
 split at q1
 ·rename_i j
  split at q1
  ·rename_i ts e;obtain ⟨ev,s,c,e1,e2⟩:=hv;have src:∀ B' σ' H' μ',Rl F ad B' σ' H' μ' -> cont μ' (.br j) = some (.lst ts) -> ∃ vs,SqL X.K H' (ad j) vs /\ Reps X.K H' B' vs ts:=fun B' σ' H' μ' l e => by
    have e3:(μ'[j]?).bind Sl.box = some (.lst ts):=e
    cases q:μ'[j]? with
    | none => rw [q] at e3;cases e3
    | some s' =>
     rw [q] at e3;have bx:=((l.slot j s' q).boxed (c:=.lst ts) e3).2.2.1;rw [hF] at bx;obtain ⟨vs,h1,h2⟩:=bx;exact ⟨vs,SqL.of h1,h2⟩
   obtain ⟨vs,h1,h2⟩:=src _ _ _ _ l1 e;refine ⟨ad j,ev,.inl ⟨⟨vs,h1⟩,k _ H' μ' ts (some (j,ts)) _ l1 f.d k1 itl_ok ⟨vs,h1,h2⟩ ⟨src,fun B' H' h => ?_⟩ (fun j' ls z => by cases z;exact e) q1⟩⟩
   rw [hF] at h
   cases h with | lst n h r => exact ⟨_,SqL.of h,r⟩
  ·exact q1.elim
 ·have rp:Rep F.K H' B v _:=hv
  cases rp with | lst n h r => exact go _ _ _ rfl (.lst n h r) (.inl rfl) q1
 ·have rp:Rep F.K H' B v _:=hv
  cases rp with | lst n h r => exact go _ _ _ rfl (.lst n h r) (.inl rfl) q1
 ·have rp:Rep F.K H' B v _:=hv
  cases rp with | tup n h r => exact goT _ _ _ rfl (.tup n h r) (.inl rfl) q1
 ·have rp:Rep F.K H' B v _:=hv
  cases rp with | rol h r => exact go _ _ _ rfl (.rol h r) (.inr rfl) q1
 ·have rp:Rep F.K H' B v _:=hv
  cases rp with | ktp h r => exact goT _ _ _ rfl (.ktp h r) (.inr rfl) q1
 ·exact q1.elim
def iR1 (us:UA):UI:=fun μ Rt => us μ fun rs μ' => match rs with
 | [.tr (.int j)] => -(2 ^ 62) <= j /\ j < 2 ^ 62 /\ Rt ((List.range j.toNat).map fun k => T.int (0 + (k:Nat))) none μ'
 | _ => False
theorem rng1 (hg:Gl X "range") (hm:X.mg "range" = none) (ha:YA X [a] us) (h:autoParam (nst a = true) L2.aRfl._auto_1):YI X tg (.Call (.Name "range" p) [a] [] pos) (iR1 us):=by
 obtain ⟨t,q,r⟩:=ha;refine ⟨_,Z.rng1 hg hm q h,fun F ad B σ H μ R Rt hF l q k => r F ad B σ H μ _ _ hF l q fun vs H' rs μ' l1 ps f k1 q1 => ?_⟩
 split at q1
 ·cases ps with
  | cons h1 ps => cases ps;cases rep_of h1;exact ⟨_,rfl,q1.1,q1.2.1,k _ H' μ' _ none _ l1 f k1 itr_ok trivial (fun _ _ _ _ _ _ => trivial) (fun j ls z => by cases z) q1.2.2⟩
 ·exact q1.elim
def uForG (g:UG) (body:US) (E:Ed):List T -> Mu -> Prop
 | [],μ => E.nx μ
 | t :: ts,μ => g (.tr t) μ fun μ1 => body { E with nx:=uForG g body E ts,ct:=uForG g body E ts,bk:=E.nx } μ1
def uFor (ui:UI) (g:UG) (body:US):US:=fun E μ => ui μ fun items gd μ' => match gd with
 | none => uForG g body E items μ'
 | some (j,_) => (match μ'[j]? with
  | some (.bx c) => uForG g body E items (μ'.set j (.tr c))
  | _ => False)
theorem for_core {K:PySem.W.Frag} {g:TG} {ug:UG} {tb:TS} {body:US} {F:Fx} {D:Ends} {E:Ed} {J:It} {Src:Hp -> AP' -> Prop} {items:List T} {B0:AP'} {H0:Hp} (hF:F.K = K) (hg:RG K g ug) (hb:RS K tb body) (it:ItOk K J Src items)
  (pe:∀ B1 H1 B2 H2,Fr B1 H1 B2 H2 -> Src H1 B1 -> Src H2 B2) (hE:EdOk F B0 H0 D E) {ad:Nat -> Addr} {B:AP'} {σ:St} {H:Hp} {μ:Mu} (l:Rl F ad B σ H μ) (f:Fr B0 H0 B H) (sr:Src H B) (q:uForG ug body E items μ) :
  ∃ W:Nat -> Nat -> St -> Hp -> Prop,(∃ m,W 0 m σ H) /\ ∀ i m σ H,W i m σ H ->
   (J.stop i H /\ D.nx σ H) \/ (J.go i H /\ ∃ N:St -> Hp -> Prop,(∀ σ' H',N σ' H' -> ∃ m',m' < m /\ W (i + 1) m' σ' H') /\ ∀ x H',J.yld i H x H' -> g x σ H' fun σ2 H2 => tb { D with nx:=N,ct:=N,bk:=D.nx } σ2 H2):=by
 refine ⟨fun i m σ H => m = items.length - i /\ i <= items.length /\ ∃ ad B μ,Rl F ad B σ H μ /\ Fr B0 H0 B H /\ Src H B /\ uForG ug body E (items.drop i) μ,⟨items.length,by simp,Nat.zero_le _,ad,B,μ,l,f,sr,q⟩,?_⟩
 rintro i m σ H ⟨rfl,hi,ad,B,μ,l,f,sr,q⟩;by_cases hlt:i < items.length
 ·have ei:items[i]? = some items[i]:=List.getElem?_eq_getElem hlt;rw [List.drop_eq_getElem_cons hlt] at q;obtain ⟨go,yl⟩:=it.step H B i _ l.trk sr ei;refine .inr ⟨go,fun σ' H' => ∃ ad' B' μ',Rl F ad' B' σ' H' μ' /\ Fr B0 H0 B' H' /\ Src H' B' /\ uForG ug body E (items.drop (i + 1)) μ',fun σ' H' h => ⟨items.length - (i + 1),by lia,rfl,hlt,h⟩,fun x H2 y => ?_⟩
  obtain ⟨sm,rp⟩:=yl x H2 y;refine hg F ad B σ H2 μ x (.tr _) B H2 _ _ hF ⟨l.same sm,by show Rep F.K H2 B x _;rw [hF];exact rp⟩ Fr.refl q fun ad3 B3 σ3 H3 μ3 l3 f3 q3 => ?_
  have f03:Fr B0 H0 B3 H3:=(f.trans (Fr.same sm)).trans f3;have s3:Src H3 B3:=pe _ _ _ _ ((Fr.same sm).trans f3) sr;exact hb F _ _ ad3 B3 σ3 H3 μ3 hF l3 q3 ⟨fun ad' B' σ' H' μ' l' f' q' => ⟨ad',B',μ',l',f03.trans f',pe _ _ _ _ f' s3,q'⟩,hE.rt,fun ad' B' σ' H' μ' l' f' q' => hE.nx ad' B' σ' H' μ' l' (f03.trans f') q',fun ad' B' σ' H' μ' l' f' q' => ⟨ad',B',μ',l',f03.trans f',pe _ _ _ _ f' s3,q'⟩⟩
 ·have e:i = items.length:=by lia
  subst e;rw [List.drop_length] at q;exact .inl ⟨it.stop H B sr,hE.nx ad B σ H μ l f q⟩
theorem forS {ui:UI} {g:UG} (hp:PassesOwn (model X.prog X.w) X.A X.env X.xe) (hc:X.calm = true) (hi:YI X tg it ui) (hg:YG X tg g) (hb:YB X xs u) (hs:∀ x,foldedSetIterable it X.env x = pure x:=by intro _;rfl):YS X (.For tg it xs [] pos) (uFor ui g u):=by
 obtain ⟨ti,qi,ri⟩:=hi;obtain ⟨tg',qg,rg⟩:=hg;obtain ⟨t,q,r⟩:=hb;refine ⟨_,Z.forS hp hc qi qg q hs,fun F D E ad B σ H μ hF l q h => ri F ad B σ H μ _ _ hF l q fun J H' μ' items gd Src l1 f1 k1 it sr so gok q1 => ?_⟩
 split at q1
 ·exact for_core hF rg r it so h l1 f1 sr q1
 ·rename_i j ls
  split at q1
  ·rename_i c ej;have bx:=l1.slot j _ ej;have hc:¬ F.Bc (ad j):=fun z => by
    obtain ⟨o,e⟩:=F.bh _ z;rw [bx.2.2.1] at e;cases e
   obtain ⟨l2,rp⟩:=l1.freeze ej hc;have ec:c = .lst ls:=by
    have:=gok j ls rfl;have e2:(μ'[j]?).bind Sl.box = some (.lst ls):=this;rw [ej] at e2;exact Option.some.inj e2
   subst ec;exact for_core (Src:=fun H B => Rep F.K H B (.ref (ad j)) (.lst ls)) hF rg r (it.imp fun H B h => so.2 B H h) (fun B1 H1 B2 H2 f h => h.fr f) h l2 (f1.trans (Fr.less fun b z => z.1)) rp q1
  ·exact q1.elim
end
end Y
def teOf (K:PySem.W.Frag) (u:UE):TE:=fun σ H Q => ∃ (F:Fx) (ad:Nat -> Addr) (B:AP') (μ:Mu) (Qt:R -> Mu -> Prop),F.K = K /\ Rl F ad B σ H μ /\ u μ Qt /\ ∀ v H' r μ',Vr F ad B σ H' μ' v r -> Fr B H (Bv B v r) H' -> Kp μ μ' -> Qt r μ' -> Q v H'
def ttOf (K:PySem.W.Frag) (u:UT):TT:=fun σ H Q => ∃ (F:Fx) (ad:Nat -> Addr) (B:AP') (μ:Mu) (Qt:Bool -> Mu -> Prop),F.K = K /\ Rl F ad B σ H μ /\ u μ Qt /\ ∀ b H' μ',Rl F ad B σ H' μ' -> Fr B H B H' -> Kp μ μ' -> Qt b μ' -> Q b H'
theorem YE.can {X:Cx} {e:Expr} {u:UE} (h:YE X e u):QE X e (teOf X.K u):=⟨fun pins s σ H Q I hh => by
 obtain ⟨F,ad,B,μ,Qt,hF,l,q,k⟩:=hh;obtain ⟨t,qe,r⟩:=h;exact qe.h pins s σ H Q I (r F ad B σ H μ Q Qt hF l q k)⟩
theorem YTs.can {X:Cx} {e:List Expr} {u:UT} (h:YTs X e u):QTs X e (ttOf X.K u):=⟨fun pins s σ H Q I hh => by
 obtain ⟨F,ad,B,μ,Qt,hF,l,q,k⟩:=hh;obtain ⟨t,qe,r⟩:=h;exact qe.h pins s σ H Q I (r F ad B σ H μ Q Qt hF l q k)⟩
theorem re_of {K:PySem.W.Frag} {u:UE}:RE K (teOf K u) u:=fun F ad B σ H μ Q Qt hF l q k => ⟨F,ad,B,μ,Qt,hF,l,q,k⟩
theorem rt_of {K:PySem.W.Frag} {u:UT}:RT K (ttOf K u) u:=fun F ad B σ H μ Q Qt hF l q k => ⟨F,ad,B,μ,Qt,hF,l,q,k⟩
def Fx.sh (F:Fx):Fx:={ F with P:=fun i => match i with | 0 => none | i + 1 => F.P i }
def adS (ad:Nat -> Addr):Nat -> Addr:=fun i => match i with | 0 => 0 | i + 1 => ad i
theorem Rl.push {F:Fx} {ad:Nat -> Addr} {B:AP'} {σ:St} {H:Hp} {μ:Mu} {x:V} {t:T} (l:Rl F ad B σ H μ) (h:Rep F.K H B x t):Rl F.sh (adS ad) B (some x :: σ) H (.tr t :: μ):=by
 refine ⟨congrArg (· + 1) l.len,fun i s e => ?_,fun i j s u c d e1 e2 b1 b2 q => ?_,fun i a p => ?_,l.bc,l.trk,fun b o e n => l.old b o e fun i z => n (i + 1) z,fun a ws ga => ?_⟩
 ·cases i with
  | zero =>
   have e':Sl.tr t = s:=by simpa using e
   subst e';exact ⟨x,rfl,h⟩
  | succ i => exact l.slot i s (by simpa using e)
 ·cases i with
  | zero =>
   have e':Sl.tr t = s:=by simpa using e1
   subst e';cases b1
  | succ i => cases j with
   | zero =>
    have e':Sl.tr t = u:=by simpa using e2
    subst e';cases b2
   | succ j => exact congrArg (· + 1) (l.inj i j s u c d (by simpa using e1) (by simpa using e2) b1 b2 q)
 ·cases i with
  | zero => cases p
  | succ i => obtain ⟨⟨c,e⟩,z⟩:=l.par i a p;exact ⟨⟨c,by simpa using e⟩,z⟩
 ·obtain ⟨g1,g2,g3⟩:=l.gh a ws ga;refine ⟨g1,g2,fun i s c e b => ?_⟩
  cases i with
  | zero =>
   have e':Sl.tr t = s:=by simpa using e
   subst e';cases b
  | succ i => exact g3 i s c (by simpa using e) b
theorem Rl.popS {F:Fx} {ad:Nat -> Addr} {B:AP'} {σ:St} {H:Hp} {μ:Mu} {y:Option V} (l:Rl F.sh (adS ad) B (y :: σ) H μ):Rl F ad B σ H μ.tail:=by
 have get:∀ i,μ.tail[i]? = μ[i + 1]?:=fun i => by cases μ <;> simp
 refine ⟨?_,fun i s e => ?_,fun i j s u c d e1 e2 b1 b2 q => ?_,fun i a p => ?_,l.bc,l.trk,fun b o e n => l.old b o e fun i z => ?_,fun a ws ga => let ⟨g1,g2,g3⟩:=l.gh a ws ga;⟨g1,g2,fun i s c e b => g3 (i + 1) s c (by rw [<- get];exact e) b⟩⟩
 ·have:=l.len;rw [List.length_tail,this];rfl
 ·rw [get] at e;exact l.slot (i + 1) s e
 ·rw [get] at e1 e2;exact Nat.succ.inj (l.inj (i + 1) (j + 1) s u c d e1 e2 b1 b2 q)
 ·obtain ⟨⟨c,e⟩,z⟩:=l.par (i + 1) a p;exact ⟨⟨c,by rw [get];exact e⟩,z⟩
 ·cases i with
  | zero => cases z
  | succ i => exact n i z
theorem Kp.tail {μ μ':Mu} {s:Sl} (k:Kp (s :: μ) μ'):Kp μ μ'.tail:=fun i => by
 have:=k (i + 1);rw [List.getElem?_cons_succ] at this;rw [this]
 cases μ' <;> simp
def Fx.g (F:Fx) (D:Addr) (ys:List V):Fx:={ F with G:=fun b => if b = D then some ys else F.G b }
section
variable {F:Fx} {ad:Nat -> Addr} {B:AP'} {σ:St} {H:Hp} {μ:Mu} {D:Addr} {ys zs:List V}
theorem Rl.addG (l:Rl F ad B σ H μ) (h:H D = some (.lst ys)) (hb:B D) (n:∀ (i:Nat) (s:Sl) (c:T),μ[i]? = some s -> s.box = some c -> ad i ≠ D):Rl (F.g D ys) ad B σ H μ:=by
 refine ⟨l.len,l.slot,l.inj,l.par,l.bc,l.trk,l.old,fun a vs e => ?_⟩;have e':(if a = D then some ys else F.G a) = some vs:=e
 by_cases z:a = D
 ·rw [if_pos z] at e';cases e';subst z;exact ⟨h,hb,n⟩
 ·rw [if_neg z] at e';exact l.gh a vs e'
theorem Rl.atG (l:Rl (F.g D ys) ad B σ H μ):H D = some (.lst ys) /\ B D /\ ∀ (i:Nat) (s:Sl) (c:T),μ[i]? = some s -> s.box = some c -> ad i ≠ D:=l.gh D ys (show (if D = D then some ys else F.G D) = some ys from if_pos rfl)
theorem Rl.dropG (l:Rl (F.g D ys) ad B σ H μ) (hg:F.G D = none):Rl F ad B σ H μ:=by
 refine ⟨l.len,l.slot,l.inj,l.par,l.bc,l.trk,l.old,fun a vs e => l.gh a vs ?_⟩;show (if a = D then some ys else F.G a) = some vs
 rw [if_neg (by rintro rfl;rw [hg] at e;cases e)]
 exact e
theorem Rl.setG (l:Rl (F.g D ys) ad B σ H μ) (h0:F.H0 D = none):Rl (F.g D zs) ad B σ (upd H D (.lst zs)) μ:=by
 obtain ⟨g1,g2,g3⟩:=l.atG;have f:Fr B H B (upd H D (.lst zs)):=Fr.set g2;refine ⟨l.len,fun i s e => ?_,l.inj,l.par,l.bc,fun b z => ?_,fun b o e n => ?_,fun a vs e => ?_⟩
 ·have k:=l.slot i s e;unfold SlOk at k ⊢
  split at k
  ·trivial
  ·obtain ⟨v,e1,r1⟩:=k;exact ⟨v,e1,r1.fr f⟩
  ·obtain ⟨e1,b,z0,p,x⟩:=k;exact ⟨e1,b,z0,p,x.of (upd_ne (g3 i _ _ e rfl)) f⟩
  ·obtain ⟨e1,b,p,x⟩:=k;exact ⟨e1,b,p,x.of (upd_ne (g3 i _ _ e rfl)) f⟩
 ·by_cases z':b = D
  ·subst z';exact ⟨_,upd_same⟩
  ·rw [upd_ne z'];exact l.trk b z
 ·rw [upd_ne (by rintro rfl;have e':F.H0 _ = some o:=e;rw [h0] at e';cases e')]
  exact l.old b o e n
 ·have e':(if a = D then some zs else F.G a) = some vs:=e
  by_cases z:a = D
  ·rw [if_pos z] at e';cases e';subst z;exact ⟨upd_same,g2,g3⟩
  ·rw [if_neg z] at e';obtain ⟨a1,a2,a3⟩:=l.gh a vs (show (if a = D then some ys else F.G a) = some vs by rw [if_neg z];exact e')
   exact ⟨by rw [upd_ne z];exact a1,a2,a3⟩
end
namespace Y
def gOk:Option (Nat × List T) -> Mu -> Prop
 | none,_ => True
 | some (j,ls),μ => cont μ (.br j) = some (.lst ls)
def uCmp (gd:Option (Nat × List T)) (own:T -> Mu -> Option Mu) (dr:Mu -> Mu) (ut:UT) (ue:UE) (Q:R -> Mu -> Prop):List T -> List T -> Mu -> Prop
 | [],acc,μ => gOk gd μ /\ Q (.fr (.lst acc)) μ
 | t :: r,acc,μ => gOk gd μ /\ acc.length < sizeLine /\ (match own t μ with
  | none => False
  | some μ1 => ut μ1 fun b μ2 => if b = true then ue μ2 fun rr μ3 => (match rr.d with
    | .tr t' => uCmp gd own dr ut ue Q r (acc ++ [t']) (dr μ3)
    | _ => False) else uCmp gd own dr ut ue Q r acc (dr μ2))
def own1 (t:T) (μ:Mu):Option Mu:=some (.tr t :: μ)
def own2 (t:T) (μ:Mu):Option Mu:=match t with
 | .tup [a,b] => some (.tr a :: .tr b :: μ)
 | _ => none
def dr1 (μ:Mu):Mu:=μ.tail
def dr2 (μ:Mu):Mu:=μ.tail.tail
def uComp (own:T -> Mu -> Option Mu) (dr:Mu -> Mu) (ui:UI) (ut:UT) (ue:UE):UE:=fun μ Q => ui μ fun items gd μ' => uCmp gd own dr ut ue Q items [] μ'
structure OwnOk (K:PySem.W.Frag) (k:Nat) (g:TG) (own:T -> Mu -> Option Mu) (dr:Mu -> Mu) (shF:Fx -> Fx) (shA:(Nat -> Addr) -> Nat -> Addr):Prop where
 fK:∀ F,(shF F).K = F.K
 step:∀ (F:Fx) (ad:Nat -> Addr) (B:AP') (σ:St) (H:Hp) (μ μ1:Mu) (x:V) (t:T) (σ':St) (Q:St -> Hp -> Prop),F.K = K -> Rl F ad B σ H μ -> Rep F.K H B x t -> own t μ = some μ1 -> σ'.length = k -> (∀ σ1,σ1.length = k -> Rl (shF F) (shA ad) B (σ1 ++ σ) H μ1 -> Q (σ1 ++ σ) H) -> g x (σ' ++ σ) H Q
 back:∀ (F:Fx) (ad:Nat -> Addr) (B:AP') (σ σ1:St) (H:Hp) (μ:Mu),σ1.length = k -> Rl (shF F) (shA ad) B (σ1 ++ σ) H μ -> Rl F ad B σ H (dr μ)
 kp:∀ (μ μ1 μ2:Mu) (t:T),own t μ = some μ1 -> Kp μ1 μ2 -> Kp μ (dr μ2)
theorem len1 {α:Type _} {l:List α} (h:l.length = 1):∃ y,l = [y]:=by
 rcases l with _ | ⟨a,_ | ⟨b,t⟩⟩
 ·cases h
 ·exact ⟨a,rfl⟩
 ·cases h
theorem len2 {α:Type _} {l:List α} (h:l.length = 2):∃ y z,l = [y,z]:=by
 rcases l with _ | ⟨a,t⟩
 ·cases h
 ·obtain ⟨b,rfl⟩:=len1 (Nat.succ.inj h);exact ⟨a,b,rfl⟩
theorem len3 {α:Type _} {l:List α} (h:l.length = 3):∃ x y z,l = [x,y,z]:=by
 rcases l with _ | ⟨a,t⟩
 ·cases h
 ·obtain ⟨b,c,rfl⟩:=len2 (Nat.succ.inj h);exact ⟨a,b,c,rfl⟩
theorem own1_ok {K:PySem.W.Frag}:OwnOk K 1 (gName 0) own1 dr1 Fx.sh adS where
 fK:=fun F => rfl
 step:=fun F ad B σ H μ μ1 x t σ' Q hF l r e hk h => by
  cases e;obtain ⟨y,rfl⟩:∃ y,σ' = [y]:=by
   exact len1 hk
  exact h [some x] rfl (l.push r)
 back:=fun F ad B σ σ1 H μ hk l => by
  obtain ⟨y,rfl⟩:∃ y,σ1 = [y]:=by
   exact len1 hk
  exact l.popS
 kp:=fun μ μ1 μ2 t e k => by cases e;exact k.tail
theorem own2_ok {K:PySem.W.Frag}:OwnOk K 2 (gTup K 2 (gCons (gName 0) (gCons (gName 1) gNil))) own2 dr2 (fun F => F.sh.sh) (fun ad => adS (adS ad)) where
 fK:=fun F => rfl
 step:=fun F ad B σ H μ μ1 x t σ' Q hF l r e hk h => by
  unfold own2 at e
  split at e
  ·rename_i a b;cases e;obtain ⟨y,z,rfl⟩:∃ y z,σ' = [y,z]:=by
    exact len2 hk
   cases r with
   | tup n hh rr =>
    cases rr with
    | cons r1 rr => cases rr with
     | cons r2 rr =>
      cases rr;exact ⟨_,_,rfl,SqT.of hh,rfl,_,_,rfl,_,_,rfl,rfl,h [some _,some _] rfl ((l.push r2).push (F:=F.sh) r1)⟩
  ·cases e
 back:=fun F ad B σ σ1 H μ hk l => by
  obtain ⟨y,z,rfl⟩:∃ y z,σ1 = [y,z]:=by
   exact len2 hk
  exact (Rl.popS (F:=F.sh) l).popS
 kp:=fun μ μ1 μ2 t e k => by
  unfold own2 at e
  split at e
  ·cases e;exact k.tail.tail
  ·cases e
theorem re_comp {K:PySem.W.Frag} {k:Nat} {g:TG} {own:T -> Mu -> Option Mu} {dr:Mu -> Mu} {shF:Fx -> Fx} {shA:(Nat -> Addr) -> Nat -> Addr} {wi:TI} {ui:UI} {tc:TT} {ut:UT} {te:TE} {ue:UE} (O:OwnOk K k g own dr shF shA) (hi:RI K wi ui) (ht:RT K tc ut) (he:RE K te ue):RE K (tComp wi k g tc te) (uComp own dr ui ut ue):=by
 intro F ad B σ H μ Q Qt hF l q kk;refine hi F ad B σ H μ _ _ hF l q fun J H1 μ1 items gd Src l1 f1 k1 it sr so gk q1 => ?_;intro D hD;have hnB:=l1.notB hD;have h0D:=l1.new0 hD;have hGD:F.G D = none:=by
  cases q:F.G D with
  | none => rfl
  | some vs => have:=(l1.gh D vs q).1;rw [hD] at this;cases this
 have nbx:∀ (μ':Mu),Kp μ μ' -> ∀ (i:Nat) (s:Sl) (c:T),μ'[i]? = some s -> s.box = some c -> B (ad i):=fun μ' k i s c e b => by
  obtain ⟨s',c',e',b'⟩:=k.symm.fwd i s c e b;exact l.own i s' c' e' b'
 refine ⟨fun i m ys σ' H' => m = items.length - i /\ i <= items.length /\ ∃ σ1 μ' acc,σ' = σ1 ++ σ /\ σ1.length = k /\ Rl (F.g D ys) ad (more B D) σ H' μ' /\ Reps F.K H' (more B D) ys acc /\ Fr B H (more B D) H' /\ Kp μ μ' /\ (gd = none -> Src H' (more B D)) /\ uCmp gd own dr ut ue Qt (items.drop i) acc μ',
  ⟨items.length,by simp,Nat.zero_le _,_,μ1,[],rfl,List.length_replicate,(l1.new hD).addG upd_same (.inl rfl) (fun i s c e b z => hnB (z ▸ nbx μ1 k1 i s c e b)),.nil,f1.trans (Fr.more hD),k1,fun z => ?_,q1⟩,?_⟩
 ·subst z;exact so _ _ _ _ (Fr.more hD) sr
 rintro i m ys σ' H' ⟨rfl,hi',σ1,μ',acc,rfl,hk,l2,ra,f2,k2,s2,q2⟩;have hD2:=l2.atG.1;refine ⟨hD2,?_⟩;have src:gOk gd μ' -> Src H' (more B D):=fun hg => by
  cases gd with
  | none => exact s2 rfl
  | some jl => obtain ⟨j,ls⟩:=jl;exact so.1 _ _ _ _ (l2.dropG hGD) hg
 by_cases hlt:i < items.length
 ·have ei:items[i]? = some items[i]:=List.getElem?_eq_getElem hlt;rw [List.drop_eq_getElem_cons hlt] at q2;obtain ⟨hg,hz,q2⟩:=q2;have sr2:=src hg;obtain ⟨go,yl⟩:=it.step H' (more B D) i _ l2.trk sr2 ei;refine .inr ⟨go,by rw [ra.length];exact hz,fun x H3 y => ?_⟩
  obtain ⟨sm,rp⟩:=yl x H3 y
  split at q2
  ·exact q2.elim
  ·rename_i μ3 eo;have f3:Fr (more B D) H' (more B D) H3:=Fr.same sm;have hF2:(F.g D ys).K = K:=hF;refine O.step (F.g D ys) ad (more B D) σ H3 μ' μ3 x _ σ1 _ hF2 (l2.same sm) (by rw [hF2];exact rp) eo hk fun σ4 hk4 l4 => ?_
   refine ht (shF (F.g D ys)) (shA ad) (more B D) _ H3 μ3 _ _ ((O.fK _).trans hF2) l4 q2 fun b H5 μ5 l5 f5 k5 q5 => ?_
   cases b with
   | true =>
    rw [if_pos rfl] at q5 ⊢;refine he (shF (F.g D ys)) (shA ad) (more B D) _ H5 μ5 _ _ ((O.fK _).trans hF2) l5 q5 fun v H6 r6 μ6 v6 f6 k6 q6 => ?_;have l6:=O.back (F.g D ys) ad (more B D) σ σ4 H6 μ6 hk4 v6.rl;refine ⟨l6.atG.1,?_⟩;have hv:=v6.hv
    split at q6
    ·rename_i t' e6;rw [e6] at hv;have rv:Rep F.K H6 (more B D) v t':=by have:=hv;unfold Hv at this;rw [O.fK] at this;exact this
     have fa:=(f3.trans f5).trans f6.d;have fs:Fr (more B D) H6 (more B D) (upd H6 D (.lst (ys ++ [v]))):=Fr.set (.inl rfl);refine ⟨items.length - (i + 1),by lia,rfl,hlt,σ4,dr μ6,acc ++ [t'],rfl,hk4,l6.setG h0D,((ra.fr fa).append (.cons rv .nil)).fr fs,(f2.trans fa).trans fs,k2.trans (O.kp μ' μ3 μ6 _ eo (k5.trans k6)),fun z => ?_,q6⟩
     subst z;exact so _ _ _ _ (fa.trans fs) (s2 rfl)
    ·exact q6.elim
   | false =>
    rw [if_neg Bool.false_ne_true] at q5 ⊢;have l6:=O.back (F.g D ys) ad (more B D) σ σ4 H5 μ5 hk4 l5;have fa:=f3.trans f5;refine ⟨items.length - (i + 1),by lia,rfl,hlt,σ4,dr μ5,acc,rfl,hk4,l6,ra.fr fa,f2.trans fa,k2.trans (O.kp μ' μ3 μ5 _ eo k5),fun z => ?_,q5⟩
    subst z;exact so _ _ _ _ fa (s2 rfl)
 ·have e:i = items.length:=by lia
  subst e;rw [List.drop_length] at q2;obtain ⟨hg,q2⟩:=q2;have l3:=l2.dropG hGD;refine .inl ⟨it.stop H' (more B D) (src hg),kk (.ref D) H' (.fr (.lst acc)) μ' ⟨l3.less (fun b z => .inr z) l.bc (nbx μ' k2) (fun a vs ga => ?_),D,rfl,hnB,h0D,l3,ys,hD2,ra⟩ f2 k2 q2⟩;exact l.gB a vs ga
section
variable {X:Cx} {elt tg iter:Expr} {ifs:List Expr} {ue:UE} {ut:UT} {ui:UI} {pos pos' p2:Pos} {x:Str} {osc scope:Scope} {ON own N:List Str}
theorem comp1 (S:CompScope osc ON scope own N) (hosc:X.env.scope = osc) (hON:X.N = ON) (hc:X.calm = true) (ho:own.length = 1) (hi:YI X tg iter ui)
  (hg:∀ C s H fp,QG (cxComp X scope N C s H fp) tg (gName 0)) (ht:∀ C s H fp,YTs (cxComp X scope N C s H fp) ifs ut) (he:∀ C s H fp,YE (cxComp X scope N C s H fp) elt ue) (hs:∀ x,foldedSetIterable iter X.env x = pure x:=by intro _;rfl) :
  YE X (.ListComp elt [⟨tg,iter,ifs,0⟩] scope pos) (uComp own1 dr1 ui ut ue):=by
 obtain ⟨t,q,r⟩:=hi;have h:=Z.comp (pos:=pos) (tc:=ttOf X.K ut) (te:=teOf X.K ue) S hosc hON hc q hg (fun C s H fp => (ht C s H fp).can) (fun C s H fp => (he C s H fp).can) hs;rw [ho] at h;exact ⟨_,h,re_comp own1_ok r rt_of re_of⟩
theorem setC1 {j:Nat} (hN:X.N.Nodup) (hj:X.N[j]? = some x) (hx:Loc X.env.scope x) (S:CompScope osc ON scope own N) (hosc:X.env.scope = osc) (hON:X.N = ON) (hc:X.calm = true) (ho:own.length = 1) (hi:YI X tg iter ui)
  (hg:∀ C s H fp,QG (cxComp X scope N C s H fp) tg (gName 0)) (ht:∀ C s H fp,YTs (cxComp X scope N C s H fp) ifs ut) (he:∀ C s H fp,YE (cxComp X scope N C s H fp) elt ue)
  (hsw:autoParam (swapsWith (.ListComp elt [⟨tg,iter,ifs,0⟩] scope p2) (some (.Name x pos')) pos.line X.env = pure true) L2.aRfl._auto_1)
  (hf:autoParam (X.fn x = true \/ X.env.scope.names.lookup x = some .local) L2.aLoc._auto_1) (hs:∀ x,foldedSetIterable iter X.env x = pure x:=by intro _;rfl) :
  YS X (.Assign [.Name x pos'] (.ListComp elt [⟨tg,iter,ifs,0⟩] scope p2) pos) (uAsg (uComp own1 dr1 ui ut ue) (gN j)):=by
 obtain ⟨t,q,r⟩:=hi;have h:=Z.setC (tc:=ttOf X.K ut) (te:=teOf X.K ue) hN hj hx S hosc hON hc q hg (fun C s H fp => (ht C s H fp).can) (fun C s H fp => (he C s H fp).can) hsw hf hs;rw [ho] at h;exact ⟨_,h,rs_asg (re_comp own1_ok r rt_of re_of) rg_name⟩
theorem ts0:YTs X [] (fun μ Q => Q true μ):=⟨_,Z.ts0,fun F ad B σ H μ Q Qt hK l q k => k true H μ l Fr.refl (Kp.refl μ) q⟩
theorem ts1 {c:Expr} (h:YT X c ut):YTs X [c] ut:=by obtain ⟨t,q,r⟩:=h;exact ⟨t,Z.ts1 q,r⟩
end
end Y
def putS (μ:Mu) (j:Nat) (c:T):Mu:=match μ[j]? with
 | some s => μ.set j (s.put c)
 | none => μ
namespace Y
section
variable {X:Cx} {a b c e o tg it i:Expr} {es rest:List Expr} {ua ub uc ue uo ui:UE} {uA uB:UT} {us:UA} {pos pos' p p2 p3 apos:Pos} {x:Str} {st:Stmt} {sts xs ys:List Stmt} {u w:US}
def gS (uo ui:UE):UG:=fun r μ Q => match r.d with
 | .tr t => uo μ fun ro μ1 => ui μ1 fun ri μ2 => (match ro,ri with
  | .br j,.tr (.int k) => (match (μ2[j]?).bind Sl.box with
   | some (.lst ts) => (match ixN ts.length k with
    | some n => Q (putS μ2 j (.lst (ts.set n t)))
    | none => False)
   | _ => False)
  | _,_ => False)
 | _ => False
theorem gsub (ho:YE X o uo) (hi:YE X i ui)
  (ha:∀ v,assign (.Subscript o i pos) X.env v = (do
   let ov <- holding [v] (eval o X.env)
   let iv <- holding [v,ov] (eval i X.env)
   standAt pos
   holding [v,ov,iv] (setItem ov iv v)
   release [v,ov,iv] []):=by intro _;rfl):YG X (.Subscript o i pos) (gS uo ui):=by
 obtain ⟨t,q,r⟩:=ho;obtain ⟨t',q',r'⟩:=hi;refine ⟨_,Z.gsub q q' ha,fun F ad B σ H μ v rr B0 H0 Q Qt hF h f q k => ?_⟩;unfold gS at q;have f0:Fr B0 H0 B H:=fun b o h n => ⟨(f b o h n).1,fun z => (f b o h n).2 (by cases rr <;> first | exact z | (cases v <;> first | exact z | exact .inr z))⟩
 have hv:=h.hv
 split at q
 ·rename_i t0 e0;rw [e0] at hv;refine r F ad B σ H μ _ _ hF h.rl q fun ov H1 r1 μ1 v1 f1 k1 q1 => r' F ad B σ H1 μ1 _ _ hF v1.rl q1 fun iv H2 r2 μ2 v2 f2 k2 q2 => ?_
  split at q2
  ·rename_i j kk;have rp:=v2.2;cases rp;obtain ⟨rfl,_⟩:=(v1.hv.fr f2.d k2)
   split at q2
   ·rename_i ts e
    split at q2
    ·rename_i n en
     cases ej:μ2[j]? with
     | none => rw [ej] at e;cases e
     | some s =>
      rw [ej] at e;have e':s.box = some (.lst ts):=e;have l2:=v2.rl;obtain ⟨vs,hl,rs⟩:=((l2.slot j s ej).boxed e').2.2.1;have rv:Rep F.K H2 B v t0:=(show Rep F.K H B v t0 from hv).fr (f1.d.trans f2.d);have l3:=l2.put ej e' (rs.set n rv);show uSet (.ref (ad j)) (.int kk) v H2 _;rw [Ap.setRef,hl];simp only;rw [rs.length,en];simp only;unfold putS at q2;rw [ej] at q2;exact k ad B σ _ _ l3 ((f0.trans (f1.d.trans f2.d)).trans (Fr.set ((l2.slot j s ej).boxed e').2.1)) q2
    ·exact q2.elim
   ·exact q2.elim
  ·exact q2.elim
 ·exact q.elim
noncomputable abbrev UM:=Nat -> List R -> Mu -> (R -> Mu -> Prop) -> Prop
def isL:Option T -> Prop -> Prop
 | some (.lst _),p => p
 | _,_ => False
def uMe (um:UM) (uo:UE) (us:UA):UE:=fun μ Q => uo μ fun ro μ1 => match ro with
 | .br j => isL ((μ1[j]?).bind Sl.box) (us μ1 fun rs μ2 => um j rs μ2 Q)
 | _ => False
def RM (K:PySem.W.Frag) (r:V -> List V -> Hp -> VK -> Prop) (um:UM):Prop:=∀ (F:Fx) (ad:Nat -> Addr) (B:AP') (σ:St) (H:Hp) (μ:Mu) (Q:VK) (Qt:R -> Mu -> Prop) (j:Nat) (s:Sl) (c:T) (xs:List V) (rs:List R),F.K = K -> Rl F ad B σ H μ -> μ[j]? = some s -> s.box = some c -> Paired (Hv F ad B H μ) xs rs -> um j rs μ Qt ->
 (∀ v H' r μ',Vr F ad B σ H' μ' v r -> Fr B H (Bv B v r) H' -> Kp μ μ' -> Qt r μ' -> Q v H') -> r (.ref (ad j)) xs H Q
theorem bm (K:PySem.W.Frag) (hK:X.K = K) {name:Str} {id:String} {r:V -> List V -> Hp -> VK -> Prop} {um:UM} (slot:Slot "list" name id) (hty:typeOf (.builtin id) = pure (.type "method_descriptor")) (hm:MtR X id r) (hr:RM X.K r um) (ho:YE X o uo) (ha:YA X (e :: es) us)
  (hbase:autoParam (attributeBase o name X.env (eval o X.env) = eval o X.env) L2.aRfl._auto_1) (hline:autoParam ((apos.endLine == pos.line) = true) L2.aRfl._auto_1) (h:autoParam ((e :: es).all nst = true) L2.aRfl._auto_1) (hl:autoParam ((e :: es).length < 30) L2.aDec._auto_1):YE X (.Call (.Attribute o name apos) (e :: es) [] pos) (uMe um uo us):=by
 obtain ⟨t,q,rr⟩:=ho;obtain ⟨t',q',r'⟩:=ha;refine ⟨_,Z.bm K hK PySem.F.plainAttrs_list slot hty hm q q' hbase hline h hl,fun F ad B σ H μ Q Qt hF l q k => rr F ad B σ H μ _ _ hF l q fun v H1 r1 μ1 v1 f1 k1 q1 => ?_⟩
 split at q1
 ·rename_i j;obtain ⟨l1,rfl,s,c,e1,e2⟩:=v1;rw [e1] at q1;have q1':isL s.box _:=q1;rw [e2] at q1';rcases ((l1.slot j s e1).boxed e2).2.2.1.is with ⟨ts,vs,rfl,hl,_⟩ | ⟨_,_,_,rfl,_⟩
  case inr => exact q1'.elim
  have q1:=(show us μ1 _ from q1');refine ⟨.inl ⟨rfl,vs,SqL.of hl⟩,?_⟩;refine r' F ad B σ H1 μ1 _ _ hF l1 q1 fun xs H2 rs μ2 l2 ps f2 k2 q2 => ?_;obtain ⟨s',c',e3,e4⟩:=k2.fwd j s _ e1 e2;exact hr F ad B σ H2 μ2 _ _ j s' c' xs rs hF l2 e3 e4 ps q2 fun v H3 r3 μ3 v3 f3 k3 q3 => k v H3 r3 μ3 v3 ((f1.d.trans f2).trans f3) ((k1.trans k2).trans k3) q3
 ·exact q1.elim
def uAppend:UM:=fun j rs μ Q => match rs with
 | [.tr t] => (match (μ[j]?).bind Sl.box with
  | some (.lst ts) => ts.length < sizeLine /\ Q (.tr .non) (putS μ j (.lst (ts ++ [t])))
  | _ => False)
 | _ => False
theorem rm_append {K:PySem.W.Frag}:RM K rAppend uAppend:=by
 intro F ad B σ H μ Q Qt j s c xs rs hF l e b ps q k;unfold uAppend at q
 split at q
 ·cases ps with
  | cons h ps =>
   cases ps;rw [e] at q;have q':(match s.box with | some (.lst ts) => ts.length < sizeLine /\ Qt (.tr .non) (putS μ j (.lst (ts ++ [_]))) | _ => False):=q
   rw [b] at q';rcases ((l.slot j s e).boxed b).2.2.1.is with ⟨ts,vs,rfl,hl,rv⟩ | ⟨_,_,_,rfl,_⟩
   case inr => exact q'.elim
   simp only at q';refine ⟨_,_,_,rfl,rfl,hl,by rw [rv.length];exact q'.1,?_⟩
   have l3:=l.put e b (rv.append (.cons (rep_of h) .nil));have q2:=q'.2;unfold putS at q2;rw [e] at q2;exact k _ _ (.tr .non) _ (Vr.flat l3 .non) (Fr.set ((l.slot j s e).boxed b).2.1) (Kp.set e b (Sl.put_box b)) q2
 ·exact q.elim
end
end Y
def bxA:List Bool -> List V -> List Addr
 | true :: md,.ref a :: vs => a :: bxA md vs
 | _ :: md,_ :: vs => bxA md vs
 | _,_ => []
def AgOk (K:PySem.W.Frag) (H:Hp) (B:AP'):List Bool -> List V -> List T -> Prop
 | [],[],[] => True
 | false :: md,v :: vs,t :: ts => Rep K H B v t /\ AgOk K H B md vs ts
 | true :: md,v :: vs,t :: ts => (∃ a,v = .ref a /\ B a /\ Bx K H B a t) /\ AgOk K H B md vs ts
 | _,_,_ => False
noncomputable abbrev TSp:=List T -> (R -> List T -> Prop) -> Prop
def ResOk (K:PySem.W.Frag) (H H':Hp) (B:AP') (as:List Addr) (v:V) (outs:List T):R -> Prop
 | .tr t => Rep K H' B v t /\ Paired (Bx K H' B) as outs
 | .fr c => ∃ a,v = .ref a /\ H a = none /\ ¬ B a /\ Bx K H' (more B a) a c /\ Paired (Bx K H' (more B a)) as outs
 | .br _ => False
def spT (K:PySem.W.Frag) (md:List Bool) (tsp:TSp):Sp:=fun vs H Q _ => ∃ (B:AP') (args:List T) (Qt:R -> List T -> Prop),AgOk K H B md vs args /\ (∀ b,B b -> ∃ o,H b = some o) /\ (bxA md vs).Nodup /\ tsp args Qt /\
 ∀ v H' r outs,Qt r outs -> (∀ b o,H b = some o -> b ∉ bxA md vs -> H' b = some o) -> ResOk K H H' B (bxA md vs) v outs r -> Q v H'
theorem AgOk.len {K:PySem.W.Frag} {H:Hp} {B:AP'}:∀ {md:List Bool} {vs:List V} {ts:List T},AgOk K H B md vs ts -> vs.length = md.length /\ ts.length = md.length
 | [],[],[],_ => ⟨rfl,rfl⟩
 | false :: md,v :: vs,t :: ts,h => ⟨congrArg (· + 1) (AgOk.len h.2).1,congrArg (· + 1) (AgOk.len h.2).2⟩
 | true :: md,v :: vs,t :: ts,h => ⟨congrArg (· + 1) (AgOk.len h.2).1,congrArg (· + 1) (AgOk.len h.2).2⟩
theorem AgOk.get {K:PySem.W.Frag} {H:Hp} {B:AP'}:∀ {md:List Bool} {vs:List V} {ts:List T} {i:Nat} {b:Bool},AgOk K H B md vs ts -> md[i]? = some b -> ∃ v t,vs[i]? = some v /\ ts[i]? = some t /\ (if b = true then ∃ a,v = .ref a /\ B a /\ Bx K H B a t else Rep K H B v t)
 | [],[],[],i,b,_,e => by simp at e
 | c :: md,[],_,_,_,h,_ => by cases c <;> exact h.elim
 | c :: md,v :: vs,[],_,_,h,_ => by cases c <;> exact h.elim
 | c :: md,v :: vs,t :: ts,0,b,h,e => by
  have e':c = b:=by simpa using e
  subst e'
  cases c with
  | false => exact ⟨v,t,rfl,rfl,by rw [if_neg Bool.false_ne_true];exact h.1⟩
  | true => exact ⟨v,t,rfl,rfl,by rw [if_pos rfl];exact h.1⟩
 | c :: md,v :: vs,t :: ts,i + 1,b,h,e => by
  have h2:AgOk K H B md vs ts:=by cases c <;> exact h.2
  obtain ⟨v',t',e1,e2,q⟩:=AgOk.get h2 (show md[i]? = some b by simpa using e)
  exact ⟨v',t',by simpa using e1,by simpa using e2,q⟩
theorem mem_bxA:∀ {md:List Bool} {vs:List V} {i:Nat} {a:Addr},md[i]? = some true -> vs[i]? = some (.ref a) -> a ∈ bxA md vs
 | [],_,_,_,e,_ => by simp at e
 | c :: md,[],_,_,_,e => by simp at e
 | c :: md,v :: vs,0,a,e1,e2 => by
  have e1':c = true:=by simpa using e1
  have e2':v = .ref a:=by simpa using e2
  subst e1' e2';exact List.mem_cons_self
 | c :: md,v :: vs,i + 1,a,e1,e2 => by
  have:=mem_bxA (md:=md) (vs:=vs) (i:=i) (a:=a) (by simpa using e1) (by simpa using e2)
  cases c with
  | false => exact this
  | true => cases v <;> first | exact List.mem_cons_of_mem _ this | exact this
theorem bxA_inj:∀ {md:List Bool} {vs:List V} {i j:Nat} {a:Addr},(bxA md vs).Nodup -> md[i]? = some true -> md[j]? = some true -> vs[i]? = some (.ref a) -> vs[j]? = some (.ref a) -> i = j
 | [],_,_,_,_,_,e,_,_,_ => by simp at e
 | c :: md,[],_,_,_,_,_,_,e,_ => by simp at e
 | c :: md,v :: vs,i,j,a,nd,e1,e2,e3,e4 => by
  have tl:(bxA md vs).Nodup:=by
   cases c with
   | false => exact nd
   | true => cases v <;> first | exact (List.nodup_cons.mp nd).2 | exact nd
  cases i with
  | zero =>
   have e1':c = true:=by simpa using e1
   have e3':v = .ref a:=by simpa using e3
   subst e1' e3'
   cases j with
   | zero => rfl
   | succ j => exact absurd (mem_bxA (md:=md) (vs:=vs) (i:=j) (a:=a) (by simpa using e2) (by simpa using e4)) (List.nodup_cons.mp nd).1
  | succ i => cases j with
   | zero =>
    have e1':c = true:=by simpa using e2
    have e3':v = .ref a:=by simpa using e4
    subst e1' e3';exact absurd (mem_bxA (md:=md) (vs:=vs) (i:=i) (a:=a) (by simpa using e1) (by simpa using e3)) (List.nodup_cons.mp nd).1
   | succ j => exact congrArg (· + 1) (bxA_inj tl (by simpa using e1) (by simpa using e2) (by simpa using e3) (by simpa using e4))
def outsAt:List Bool -> Nat -> Mu -> List T
 | [],_,_ => []
 | true :: md,i,μ => (match μ[i]? with
  | some (.pb c) => c :: outsAt md (i + 1) μ
  | _ => outsAt md (i + 1) μ)
 | false :: md,i,μ => outsAt md (i + 1) μ
theorem outs_of {P:Addr -> T -> Prop} {μ:Mu}:∀ {md:List Bool} {vs:List V} {i:Nat},vs.length = md.length -> (∀ n,md[n]? = some true -> ∃ a c,vs[n]? = some (.ref a) /\ μ[i + n]? = some (.pb c) /\ P a c) -> Paired P (bxA md vs) (outsAt md i μ)
 := by
  intro md
  induction md with
  | nil =>
    intro vs i hl h
    cases vs with
    | nil => exact .nil
    | cons v vs => cases hl
  | cons b md ih =>
    intro vs i hl h
    cases vs with
    | nil => cases hl
    | cons v vs =>
      have rest:=ih (vs:=vs) (i:=i + 1) (Nat.succ.inj hl) fun n e => by
        obtain ⟨a,c,e1,e2,p⟩:=h (n + 1) e;exact ⟨a,c,e1,by rw [Nat.add_assoc,Nat.add_comm 1 n];exact e2,p⟩
      cases b with
      | false => exact rest
      | true =>
        obtain ⟨a,c,e1,e2,p⟩:=h 0 rfl;have e1':v = .ref a:=Option.some.inj e1;subst e1';rw [Nat.add_zero] at e2;show Paired P (a :: bxA md vs) (match μ[i]? with | some (.pb c) => c :: outsAt md (i + 1) μ | _ => outsAt md (i + 1) μ)
        rw [e2];exact .cons p rest
def startM:List Bool -> List T -> Nat -> Mu
 | b :: md,t :: ts,n => (if b = true then .pb t else .tr t) :: startM md ts (n - 1)
 | _,_,n => List.replicate n .un
def edOf (md:List Bool) (Qt:R -> List T -> Prop):Ed where
 nx:=fun μ => Qt (.tr .non) (outsAt md 0 μ)
 rt:=fun r μ => match r with
  | .tr t => Qt (.tr t) (outsAt md 0 μ)
  | .fr c => Qt (.fr c) (outsAt md 0 μ)
  | .br i => (match μ[i]? with
   | some (.bx c) => Qt (.fr c) (outsAt md 0 μ)
   | _ => False)
theorem startM_len:∀ {md:List Bool} {ts:List T} {n:Nat},ts.length = md.length -> md.length <= n -> (startM md ts n).length = n
 | [],[],n,_,_ => List.length_replicate
 | b :: md,t :: ts,n,h,hn => by
  cases n with
  | zero => simp at hn
  | succ n => exact congrArg (· + 1) (startM_len (by simpa using h) (by simpa using hn))
theorem startM_get:∀ {md:List Bool} {ts:List T} {n i:Nat} {s:Sl},(startM md ts n)[i]? = some s -> s = .un \/ ∃ b t,md[i]? = some b /\ ts[i]? = some t /\ s = (if b = true then .pb t else .tr t)
 | [],ts,n,i,s,e => by
  have e':(List.replicate n Sl.un)[i]? = some s:=by cases ts <;> exact e
  rw [List.getElem?_replicate] at e'
  split at e'
  ·exact .inl (Option.some.inj e').symm
  ·cases e'
 | b :: md,[],n,i,s,e => by
  have e':(List.replicate n Sl.un)[i]? = some s:=e;rw [List.getElem?_replicate] at e'
  split at e'
  ·exact .inl (Option.some.inj e').symm
  ·cases e'
 | b :: md,t :: ts,n,0,s,e => .inr ⟨b,t,rfl,rfl,by have e':some (if b = true then Sl.pb t else .tr t) = some s:=e;exact (Option.some.inj e').symm⟩
 | b :: md,t :: ts,n,i + 1,s,e => by
  rcases startM_get (md:=md) (ts:=ts) (n:=n - 1) (i:=i) (s:=s) (by simpa [startM] using e) with h | ⟨b',t',h1,h2,h3⟩
  ·exact .inl h
  ·exact .inr ⟨b',t',by simpa using h1,by simpa using h2,h3⟩
theorem startM_of:∀ {md:List Bool} {ts:List T} {n i:Nat} {b:Bool} {t:T},md[i]? = some b -> ts[i]? = some t -> (startM md ts n)[i]? = some (if b = true then .pb t else .tr t)
 | [],_,_,_,_,_,e,_ => by simp at e
 | b :: md,[],_,_,_,_,_,e => by simp at e
 | b :: md,t :: ts,n,0,b',t',e1,e2 => by
  have e1':b = b':=by simpa using e1
  have e2':t = t':=by simpa using e2
  subst e1' e2';rfl
 | b :: md,t :: ts,n,i + 1,b',t',e1,e2 => by
  have:=startM_of (md:=md) (ts:=ts) (n:=n - 1) (i:=i) (b:=b') (t:=t') (by simpa using e1) (by simpa using e2)
  simpa [startM] using this
def adOf (vs:List V) (i:Nat):Addr:=match vs[i]? with
 | some (.ref a) => a
 | _ => 0
def pOf (md:List Bool) (vs:List V) (i:Nat):Option Addr:=match md[i]?,vs[i]? with
 | some true,some (.ref a) => some a
 | _,_ => none
theorem pOf_is {md:List Bool} {vs:List V} {i:Nat} {a:Addr} (h:pOf md vs i = some a):md[i]? = some true /\ vs[i]? = some (.ref a):=by
 unfold pOf at h
 split at h
 ·rename_i e1 e2;cases h;exact ⟨e1,e2⟩
 ·cases h
theorem pOf_of {md:List Bool} {vs:List V} {i:Nat} {a:Addr} (h1:md[i]? = some true) (h2:vs[i]? = some (.ref a)):pOf md vs i = some a:=by
 unfold pOf;rw [h1,h2]
def fxOf (K:PySem.W.Frag) (H:Hp) (md:List Bool) (vs:List V) (B:AP') (bh:∀ b,B b -> ∃ o,H b = some o):Fx:=⟨K,H,pOf md vs,B,bh,fun _ => none⟩
theorem rl_start {K:PySem.W.Frag} {H:Hp} {B:AP'} {md:List Bool} {vs:List V} {args:List T} {N:List Str} (ag:AgOk K H B md vs args) (bh:∀ b,B b -> ∃ o,H b = some o) (nd:(bxA md vs).Nodup) (hN:md.length <= N.length) :
  Rl (fxOf K H md vs B bh) (adOf vs) B (start N vs) H (startM md args N.length):=by
 obtain ⟨l1,l2⟩:=ag.len;have sget:∀ i v,vs[i]? = some v -> (start N vs)[i]? = some (some v):=fun i v e => by
  have hi:=(List.getElem?_eq_some_iff.mp e).1;unfold start;rw [List.getElem?_append_left (by simpa using hi),List.getElem?_map,e];rfl
 refine ⟨?_,fun i s e => ?_,fun i j s u c d e1 e2 b1 b2 q => ?_,fun i a p => ?_,fun b z => z,bh,fun b o e n => e,fun a ws ga => by cases ga⟩
 ·rw [startM_len l2 hN];unfold start;rw [List.length_append,List.length_map,List.length_replicate];lia
 ·rcases startM_get e with rfl | ⟨b,t,h1,h2,rfl⟩
  ·trivial
  ·obtain ⟨v,t',e1,e2,q⟩:=ag.get h1;rw [h2] at e2;cases e2
   cases b with
   | false =>
    rw [if_neg Bool.false_ne_true] at q;rw [if_neg Bool.false_ne_true];exact ⟨v,sget i v e1,q⟩
   | true =>
    rw [if_pos rfl] at q;rw [if_pos rfl];obtain ⟨a,rfl,hb,x⟩:=q;have ea:adOf vs i = a:=by unfold adOf;rw [e1]
    show _ /\ _ /\ _ /\ _;rw [ea];exact ⟨sget i _ e1,hb,pOf_of h1 e1,x⟩
 ·have one:∀ {i:Nat} {s:Sl} {c:T},(startM md args N.length)[i]? = some s -> s.box = some c -> md[i]? = some true /\ ∃ a,vs[i]? = some (.ref a) /\ adOf vs i = a:=fun {i s c} e b => by
   rcases startM_get e with rfl | ⟨b',t,h1,h2,rfl⟩
   ·cases b
   ·cases b' with
    | false => rw [if_neg Bool.false_ne_true] at b;cases b
    | true =>
     obtain ⟨v,t',e1,e2,q⟩:=ag.get h1;rw [if_pos rfl] at q;obtain ⟨a,rfl,_⟩:=q;exact ⟨h1,a,e1,by unfold adOf;rw [e1]⟩
  obtain ⟨m1,a1,v1,z1⟩:=one e1 b1;obtain ⟨m2,a2,v2,z2⟩:=one e2 b2;rw [z1,z2] at q;subst q;exact bxA_inj nd m1 m2 v1 v2
 ·obtain ⟨h1,h2⟩:=pOf_is p;obtain ⟨v,t',e1,e2,q⟩:=ag.get h1;refine ⟨⟨t',?_⟩,by unfold adOf;rw [h2]⟩
  have:=startM_of (n:=N.length) h1 e2;rw [if_pos rfl] at this;exact this
theorem HasFn.okT {P:Program} {w:World} {K:PySem.W.Frag} {mg:Str -> Option Value} {base:Heap} {x:Str} {st:Stmt} {N ps:List Str} {k:Nat} {tsp:TSp} (F:HasFn K mg x st ps) (S:FnScope N ps (defScope st)) (md:List Bool) (hm:md.length = ps.length) (hN:md.length <= N.length)
  (hbody:∀ (args:List T) (Qt:R -> List T -> Prop),args.length = ps.length -> tsp args Qt -> ∀ (f:Addr) (cdv:Value) (A:Around) (outer:List Env) (s:Shared) (H:Hp) (E:XK),Room k (A.deeper (envOfC x (defScope st) s.heap.objs.size f cdv)) ->
   ∃ us,YB (cxOf CX0 P w K mg base N x (defScope st) f cdv A outer s H E).nox (defBody st) us /\ us (edOf md Qt) (startM md args N.length)):CallOk P w K mg base CX0 (k + 1) x ps (spT K md tsp):=by
 refine F.okQ S (fun vs H Q E h => ?_) (fun f cdv A outer s H vs Q E hr h => ?_)
 ·obtain ⟨B,args,Qt,ag,_⟩:=h;rw [ag.len.1,hm]
 ·obtain ⟨B,args,Qt,ag,bh,nd,ht,fin⟩:=h;obtain ⟨us,⟨t,q,r⟩,hu⟩:=hbody args Qt (by rw [ag.len.2,hm]) ht f cdv A outer s H E hr
  refine ⟨t,q,?_⟩;have l0:=rl_start (N:=N) ag bh nd hN;have outs:∀ ad' B' σ' H' μ' (B2:AP'),Rl (fxOf K H md vs B bh) ad' B' σ' H' μ' -> (∀ b,B2 b -> B' b) -> Paired (Bx K H' B2) (bxA md vs) (outsAt md 0 μ'):=fun ad' B' σ' H' μ' B2 l hB => by
   refine outs_of (ag.len.1) fun n e => ?_;obtain ⟨v,t',e1,e2,q⟩:=ag.get e;rw [if_pos rfl] at q;obtain ⟨a,rfl,_⟩:=q;obtain ⟨⟨c,hc⟩,ha⟩:=l.par n a (pOf_of e e1);have sl:=l.slot n _ hc;refine ⟨a,c,e1,by rw [Nat.zero_add];exact hc,?_⟩
   rw [<- ha];exact (sl.2.2.2).of rfl (Fr.less hB)
  have keep:∀ ad' B' σ' H' μ',Rl (fxOf K H md vs B bh) ad' B' σ' H' μ' -> ∀ b o,H b = some o -> b ∉ bxA md vs -> H' b = some o:=fun ad' B' σ' H' μ' l b o e n => l.old b o e fun i z => n (mem_bxA (pOf_is z).1 (pOf_is z).2);refine r (fxOf K H md vs B bh) _ _ (adOf vs) B (start N vs) H _ rfl l0 hu ⟨fun ad' B' σ' H' μ' l _ q => ?_,fun ad' B' σ' H' μ' v rr h q => ?_,fun _ _ _ _ _ _ _ z => z.elim,fun _ _ _ _ _ _ _ z => z.elim⟩
  ·exact fin .non H' (.tr .non) _ q (keep _ _ _ _ _ l) ⟨.non,outs _ _ _ _ _ _ l l.bc⟩
  ·cases rr with
   | tr t => exact fin v H' (.tr t) _ q (keep _ _ _ _ _ h.1) ⟨(show Rep K H' B' v t from h.2).fr (Fr.less h.1.bc),outs _ _ _ _ _ _ h.1 h.1.bc⟩
   | fr c =>
    obtain ⟨l,a,rfl,n,h0,l2,x⟩:=h;have sub:∀ b,more B a b -> more B' a b:=fun b z => z.imp id (l.bc b);exact fin _ H' (.fr c) _ q (keep _ _ _ _ _ l) ⟨a,rfl,h0,fun z => n (l.bc a z),x.of rfl (Fr.less sub),outs _ _ _ _ _ _ l2 sub⟩
   | br i =>
    have q':(match μ'[i]? with | some (.bx c) => Qt (.fr c) (outsAt md 0 μ') | _ => False):=q
    obtain ⟨l,rfl,s',c',e1,e2⟩:=h
    split at q'
    ·rename_i c ec;have sl:=l.slot i _ ec;have sub:∀ b,more B (ad' i) b -> B' b:=fun b z => z.elim (fun z => by rw [z];exact sl.2.1) (l.bc b)
     refine fin _ H' (.fr c) _ q' (keep _ _ _ _ _ l) ⟨ad' i,rfl,sl.2.2.1,fun z => ?_,(sl.2.2.2.2).of rfl (Fr.less sub),outs _ _ _ _ _ _ l sub⟩;obtain ⟨o,e⟩:=bh _ z;have:H (ad' i) = none:=sl.2.2.1;rw [this] at e;cases e
    ·exact q'.elim
def agT (μ:Mu):List Bool -> List R -> Option (List T)
 | [],[] => some []
 | false :: md,r :: rs => (match cont μ r,agT μ md rs with
  | some t,some ts => some (t :: ts)
  | _,_ => none)
 | true :: md,.br j :: rs => (match cont μ (.br j),agT μ md rs with
  | some t,some ts => some (t :: ts)
  | _,_ => none)
 | _,_ => none
def bxS:List Bool -> List R -> List Nat
 | true :: md,.br j :: rs => j :: bxS md rs
 | _ :: md,_ :: rs => bxS md rs
 | _,_ => []
def roS:List Bool -> List R -> List Nat
 | false :: md,.br j :: rs => j :: roS md rs
 | _ :: md,_ :: rs => roS md rs
 | _,_ => []
def flatC:T -> Bool
 | .lst ts => ts.all flatT
 | .dic _ ts => ts.all flatT
 | t => flatT t
def flatR:R -> Bool
 | .tr t => flatT t
 | .fr c => flatC c
 | .br _ => false
def putAll:List Nat -> List T -> Mu -> Mu
 | j :: js,c :: cs,μ => putAll js cs (putS μ j c)
 | _,_,μ => μ
theorem putS_ne {μ:Mu} {i j:Nat} {c:T} (h:i ≠ j):(putS μ j c)[i]? = μ[i]?:=by
 unfold putS;split
 ·rw [List.getElem?_set_ne (Ne.symm h)]
 ·rfl
theorem putS_eq {μ:Mu} {j:Nat} {c:T} {s:Sl} (e:μ[j]? = some s):(putS μ j c)[j]? = some (s.put c):=by
 unfold putS;rw [e];exact List.getElem?_set_self (List.getElem?_eq_some_iff.mp e).1
theorem putS_len {μ:Mu} {j:Nat} {c:T}:(putS μ j c).length = μ.length:=by
 unfold putS;split
 ·exact List.length_set
 ·rfl
theorem putAll_len:∀ {js:List Nat} {cs:List T} {μ:Mu},(putAll js cs μ).length = μ.length
 | [],_,_ => rfl
 | _ :: _,[],_ => rfl
 | j :: js,c :: cs,μ => (putAll_len (js:=js)).trans putS_len
theorem putAll_ne:∀ {js:List Nat} {cs:List T} {μ:Mu} {i:Nat},i ∉ js -> (putAll js cs μ)[i]? = μ[i]?
 | [],_,_,_,_ => rfl
 | _ :: _,[],_,_,_ => rfl
 | j :: js,c :: cs,μ,i,h => (putAll_ne (js:=js) (fun z => h (List.mem_cons_of_mem _ z))).trans (putS_ne fun z => h (z ▸ List.mem_cons_self))
theorem putAll_mem {P:Addr -> T -> Prop} {ad:Nat -> Addr}:∀ {js:List Nat} {cs:List T} {μ:Mu} {i:Nat} {s:Sl},js.Nodup -> Paired P (js.map ad) cs -> i ∈ js -> μ[i]? = some s -> ∃ c,(putAll js cs μ)[i]? = some (s.put c) /\ P (ad i) c
 | [],_,_,_,_,_,_,h,_ => by cases h
 | j :: js,c :: cs,μ,i,s,nd,.cons p ps,h,e => by
  rw [List.nodup_cons] at nd;by_cases z:i = j
  ·subst z;refine ⟨c,?_,p⟩;show (putAll js cs (putS μ i c))[i]? = _;rw [putAll_ne nd.1];exact putS_eq e
  ·rcases List.mem_cons.mp h with z' | z'
   ·exact absurd z' z
   ·exact putAll_mem (js:=js) nd.2 ps z' (by rw [putS_ne z];exact e)
theorem Rl.call {F:Fx} {ad:Nat -> Addr} {B B2:AP'} {σ:St} {H H':Hp} {μ:Mu} {js:List Nat} {outs:List T} (l:Rl F ad B σ H μ) (hb:∀ j ∈ js,∃ (s:Sl) (c:T),μ[j]? = some s /\ s.box = some c) (nd:js.Nodup)
  (keep:∀ b o,H b = some o -> b ∉ js.map ad -> H' b = some o) (sB:∀ b,B b -> B2 b) (nB:∀ b o,H b = some o -> ¬ B b -> ¬ B2 b) (tB:∀ b,B2 b -> ¬ B b -> ∃ o,H' b = some o) (ps:Paired (Bx F.K H' B2) (js.map ad) outs) :
  Rl F ad B2 σ H' (putAll js outs μ) /\ Kp μ (putAll js outs μ) /\ Fr B H B2 H':=by
 have inB:∀ b ∈ js.map ad,B b:=fun b hb' => by
  obtain ⟨j,hj,rfl⟩:=List.mem_map.mp hb';obtain ⟨s,c,e,q⟩:=hb j hj;exact l.own j s c e q
 have f:Fr B H B2 H':=fun b o e n => ⟨keep b o e fun z => n (inB b z),nB b o e n⟩;have cases':∀ i s,(putAll js outs μ)[i]? = some s -> (i ∉ js /\ μ[i]? = some s) \/ (i ∈ js /\ ∃ s0 c0 c,μ[i]? = some s0 /\ s0.box = some c0 /\ s = s0.put c /\ Bx F.K H' B2 (ad i) c):=fun i s e => by
  by_cases z:i ∈ js
  ·obtain ⟨s0,c0,e0,q0⟩:=hb i z;obtain ⟨c,e1,p⟩:=putAll_mem nd ps z e0;rw [e1] at e;exact .inr ⟨z,s0,c0,c,e0,q0,(Option.some.inj e).symm,p⟩
  ·rw [putAll_ne z] at e;exact .inl ⟨z,e⟩
 have boxOld:∀ (i:Nat) (s:Sl) (c:T),(putAll js outs μ)[i]? = some s -> s.box = some c -> ∃ (s0:Sl) (c0:T),μ[i]? = some s0 /\ s0.box = some c0:=fun i s c e b => by
  rcases cases' i s e with ⟨_,e'⟩ | ⟨_,s0,c0,_,e0,q0,_⟩
  ·exact ⟨s,c,e',b⟩
  ·exact ⟨s0,c0,e0,q0⟩
 have ne:∀ (i:Nat) (s:Sl) (c:T),i ∉ js -> μ[i]? = some s -> s.box = some c -> ad i ∉ js.map ad:=fun i s c z e b hm => by
  obtain ⟨j,hj,q⟩:=List.mem_map.mp hm;obtain ⟨s0,c0,e0,q0⟩:=hb j hj;exact z (l.inj i j s s0 c c0 e e0 b q0 q.symm ▸ hj)
 refine ⟨⟨by rw [putAll_len];exact l.len,fun i s e => ?_,fun i j s u c d e1 e2 b1 b2 q => ?_,fun i a p => ?_,fun b z => sB b (l.bc b z),fun b z => ?_,fun b o e n => ?_,fun a ws ga => ?_⟩,fun i => ?_,f⟩
 ·rcases cases' i s e with ⟨z,e'⟩ | ⟨z,s0,c0,c,e0,q0,rfl,x⟩
  ·have k:=l.slot i s e';unfold SlOk at k ⊢
   split at k
   ·trivial
   ·obtain ⟨v,e1,r1⟩:=k;exact ⟨v,e1,r1.fr f⟩
   ·obtain ⟨e1,b,z0,p,x⟩:=k;obtain ⟨o,eo⟩:=x.trk;exact ⟨e1,sB _ b,z0,p,x.of ((keep _ o eo (ne i _ _ z e' rfl)).trans eo.symm) f⟩
   ·obtain ⟨e1,b,p,x⟩:=k;obtain ⟨o,eo⟩:=x.trk;exact ⟨e1,sB _ b,p,x.of ((keep _ o eo (ne i _ _ z e' rfl)).trans eo.symm) f⟩
  ·have k:=l.slot i s0 e0
   cases s0 with
   | un => cases q0
   | tr t => cases q0
   | bx d => exact ⟨k.1,sB _ k.2.1,k.2.2.1,k.2.2.2.1,x⟩
   | pb d => exact ⟨k.1,sB _ k.2.1,k.2.2.1,x⟩
 ·obtain ⟨s1,c1,g1,g2⟩:=boxOld i s c e1 b1;obtain ⟨s2,c2,g3,g4⟩:=boxOld j u d e2 b2;exact l.inj i j s1 s2 c1 c2 g1 g3 g2 g4 q
 ·obtain ⟨⟨c,e⟩,ha⟩:=l.par i a p;refine ⟨?_,ha⟩;by_cases z:i ∈ js
  ·obtain ⟨c',e1,_⟩:=putAll_mem nd ps z e;exact ⟨c',e1⟩
  ·exact ⟨c,by rw [putAll_ne z];exact e⟩
 ·by_cases zb:B b
  ·obtain ⟨o,e⟩:=l.trk b zb;by_cases z2:b ∈ js.map ad
   ·obtain ⟨j,hj,rfl⟩:=List.mem_map.mp z2;obtain ⟨s0,c0,e0,q0⟩:=hb j hj;obtain ⟨c,_,x⟩:=putAll_mem nd ps hj e0;exact x.trk
   ·exact ⟨o,keep b o e z2⟩
  ·exact tB b z zb
 ·have e2:=l.old b o e n;refine keep b o e2 fun hm => ?_;obtain ⟨j,hj,rfl⟩:=List.mem_map.mp hm;obtain ⟨s0,c0,e0,q0⟩:=hb j hj;rcases ((l.slot j s0 e0).boxed q0).2.2.2 with z | z
  ·exact n j z
  ·rw [z] at e;cases e
 ·obtain ⟨g1,g2,g3⟩:=l.gh a ws ga;refine ⟨keep a _ g1 fun hm => ?_,sB a g2,fun i s c e b => ?_⟩
  ·obtain ⟨j,hj,q⟩:=List.mem_map.mp hm;obtain ⟨s0,c0,e0,q0⟩:=hb j hj;exact g3 j s0 c0 e0 q0 q
  ·obtain ⟨s0,c0,e0,q0⟩:=boxOld i s c e b;exact g3 i s0 c0 e0 q0
 ·by_cases z:i ∈ js
  ·obtain ⟨s0,c0,e0,q0⟩:=hb i z;obtain ⟨c,e1,_⟩:=putAll_mem nd ps z e0;rw [e0,e1];show (s0.box).isSome = ((s0.put c).box).isSome;rw [q0,Sl.put_box q0];rfl
  ·rw [putAll_ne z]
theorem ag_of {F:Fx} {ad:Nat -> Addr} {B:AP'} {σ:St} {H:Hp} {μ:Mu} (l:Rl F ad B σ H μ) (ro:List Nat):∀ {md:List Bool} {xs:List V} {rs:List R} {args:List T},Paired (Hv F ad B H μ) xs rs -> agT μ md rs = some args -> (∀ j ∈ roS md rs,j ∈ ro) -> (∀ j ∈ bxS md rs,j ∉ ro) ->
  (∀ j ∈ ro,∃ (s:Sl) (c:T),μ[j]? = some s /\ s.box = some c) ->
  AgOk F.K H (fun b => B b /\ ∀ j ∈ ro,b ≠ ad j) md xs args /\ bxA md xs = (bxS md rs).map ad /\ ∀ j ∈ bxS md rs,∃ (s:Sl) (c:T),μ[j]? = some s /\ s.box = some c:=by
 intro md
 induction md with
 | nil =>
  intro xs rs args p e _ _ _
  cases p with
  | nil => cases e;exact ⟨trivial,rfl,fun j h => by cases h⟩
  | cons h p => cases e
 | cons bb md ih =>
  intro xs rs args pp e h1 h2 h3
  cases pp with
  | nil => cases bb <;> cases e
  | cons h p =>
   rename_i x r xs2 rs
   cases bb with
   | false =>
    unfold agT at e
    split at e
    ·rename_i t ts e1 e2;cases e;have sub:∀ j ∈ roS md rs,j ∈ ro:=fun j hj => h1 j (by cases r <;> first | exact hj | exact List.mem_cons_of_mem _ hj)
     obtain ⟨g1,g2,g3⟩:=ih p e2 sub h2 h3;refine ⟨⟨?_,g1⟩,?_,g3⟩
     ·cases r with
      | tr t' =>
       have e1':t' = t:=Option.some.inj e1;subst e1';exact (show Rep F.K H B x t' from h).fr (Fr.less fun _ z => z.1)
      | br j =>
       obtain ⟨rfl,s,c,q1,q2⟩:=h;have e1':(μ[j]?).bind Sl.box = some t:=e1;rw [q1] at e1';have bx:=((l.slot j s q1).boxed (c:=t) e1').2.2.1;exact (bx.of rfl (Fr.less fun _ z => z.1)).rep fun z => z.2 j (h1 j List.mem_cons_self) rfl
      | fr c => exact h.elim
     ·show bxA (false :: md) (_ :: _) = _;rw [show bxS (false :: md) (r :: rs) = bxS md rs by cases r <;> rfl]
      exact g2
    ·cases e
   | true =>
    cases r with
    | tr t => cases e
    | fr c => cases e
    | br j =>
     unfold agT at e
     split at e
     ·rename_i t ts e1 e2;cases e;obtain ⟨g1,g2,g3⟩:=ih p e2 h1 (fun i hi => h2 i (List.mem_cons_of_mem _ hi)) h3;obtain ⟨rfl,s,c,q1,q2⟩:=h;have e1':(μ[j]?).bind Sl.box = some t:=e1;rw [q1] at e1';have bx:=(l.slot j s q1).boxed (c:=t) e1';refine ⟨⟨⟨ad j,rfl,⟨bx.2.1,fun i hi z => ?_⟩,bx.2.2.1.of rfl (Fr.less fun _ z => z.1)⟩,g1⟩,congrArg (ad j :: ·) g2,fun i hi => ?_⟩
      ·obtain ⟨s',c',q3,q4⟩:=h3 i hi;have:=l.inj j i s s' t c' q1 q3 e1' q4 z;subst this;exact h2 j List.mem_cons_self hi
      ·rcases List.mem_cons.mp hi with z | z
       ·subst z;exact ⟨s,t,q1,e1'⟩
       ·exact g3 i z
     ·cases e
theorem ro_box {F:Fx} {ad:Nat -> Addr} {B:AP'} {H:Hp} {μ:Mu}:∀ {md:List Bool} {xs:List V} {rs:List R},Paired (Hv F ad B H μ) xs rs -> ∀ j ∈ roS md rs,∃ (s:Sl) (c:T),μ[j]? = some s /\ s.box = some c
 | [],_,_,_,j,h => by cases h
 | b :: md,_,_,.nil,j,h => by cases b <;> cases h
 | b :: md,_,r :: rs,.cons h p,j,hj => by
  cases b with
  | true => exact ro_box (md:=md) p j (by cases r <;> exact hj)
  | false =>
   cases r with
   | tr t => exact ro_box (md:=md) p j hj
   | fr c => exact h.elim
   | br i =>
    rcases List.mem_cons.mp hj with z | z
    ·subst z;exact h.2
    ·exact ro_box (md:=md) p j z
theorem Bx.flat {K:PySem.W.Frag} {H:Hp} {B B':AP'} {a:Addr} {c:T} (h:Bx K H B a c) (f:flatC c = true):Bx K H B' a c:=by
 rcases h.is with ⟨ts,vs,rfl,e,r⟩ | ⟨ks,ts,vs,rfl,e,l,r⟩
 ·exact ⟨vs,e,r.flat f⟩
 ·exact ⟨vs,e,l,r.flat f⟩
theorem Paired.flatB {K:PySem.W.Frag} {H:Hp} {B B':AP'}:∀ {as:List Addr} {outs:List T},Paired (Bx K H B) as outs -> outs.all flatC = true -> Paired (Bx K H B') as outs
 | _,_,.nil,_ => .nil
 | _,_,.cons h p,f => by
  rw [List.all_cons,Bool.and_eq_true] at f;exact .cons (h.flat f.1) (Paired.flatB p f.2)
namespace Y
def uFn (md:List Bool) (tsp:TSp) (us:UA):UE:=fun μ Q => us μ fun rs μ1 => match agT μ1 md rs with
 | some args => (bxS md rs).Nodup /\ (∀ j ∈ bxS md rs,j ∉ roS md rs) /\ tsp args fun r outs => (roS md rs = [] \/ (flatR r = true /\ outs.all flatC = true)) /\ Q r (putAll (bxS md rs) outs μ1)
 | none => False
theorem re_fn {K:PySem.W.Frag} {md:List Bool} {tsp:TSp} {E:XK} {t:TA} {us:UA} (ha:RA K t us):RE K (tCall (spT K md tsp) [] E t) (uFn md tsp us):=by
 intro F ad B σ H μ Q Qt hF l q k;refine ha F ad B σ H μ _ _ hF l q fun vs H1 rs μ1 l1 ps f1 k1 q1 => ?_
 split at q1
 ·rename_i args ea;obtain ⟨nd,dj,q1⟩:=q1;have hro:=ro_box (md:=md) ps;obtain ⟨ag,eb,hb⟩:=ag_of l1 (roS md rs) ps ea (fun j h => h) dj hro;rw [hF] at ag;show spT K md tsp (vs ++ []) H1 Q E;rw [List.append_nil];have inj:∀ {js:List Nat},js.Nodup -> (∀ j ∈ js,∃ (s:Sl) (c:T),μ1[j]? = some s /\ s.box = some c) -> (js.map ad).Nodup:=fun {js} => by
   induction js with
   | nil => exact fun _ _ => List.nodup_nil
   | cons j js ih =>
    intro nd hb;rw [List.nodup_cons] at nd;rw [List.map_cons,List.nodup_cons];refine ⟨fun hm => ?_,ih nd.2 fun i hi => hb i (List.mem_cons_of_mem _ hi)⟩;obtain ⟨i,hi,z⟩:=List.mem_map.mp hm;obtain ⟨s1,c1,e1,b1⟩:=hb j List.mem_cons_self;obtain ⟨s2,c2,e2,b2⟩:=hb i (List.mem_cons_of_mem _ hi);exact nd.1 (l1.inj i j s2 s1 c2 c1 e2 e1 b2 b1 z ▸ hi)
  refine ⟨_,args,_,ag,fun b z => l1.trk b z.1,by rw [eb];exact inj nd hb,q1,fun v H2 r outs hq keep res => ?_⟩
  rw [eb] at keep res;obtain ⟨hfl,hq⟩:=hq;have nro:∀ {b:Addr},roS md rs = [] -> B b -> B b /\ ∀ j ∈ roS md rs,b ≠ ad j:=fun {b} z h => ⟨h,fun j hj => by rw [z] at hj;cases hj⟩
  cases r with
  | br i => exact res.elim
  | tr t =>
   obtain ⟨rv,po⟩:=res;have rv':Rep F.K H2 B v t:=by
    rw [hF];rcases hfl with z | z
    ·exact rv.fr (Fr.less fun b h => nro z h)
    ·exact rv.flat z.1
   have po':Paired (Bx F.K H2 B) ((bxS md rs).map ad) outs:=by
    rw [hF];rcases hfl with z | z
    ·exact Paired.mapP po fun a c h => h.of rfl (Fr.less fun b h => nro z h)
    ·exact Paired.flatB po z.2
   obtain ⟨l2,k2,f2⟩:=l1.call hb nd keep (fun _ z => z) (fun _ _ _ z => z) (fun b z n => absurd z n) po';exact k v H2 (.tr t) _ ⟨l2,rv'⟩ (f1.trans f2) (k1.trans k2) hq
  | fr c =>
   obtain ⟨a,rfl,ha0,nBa,x,po⟩:=res;have nBa':¬ B a:=l1.notB ha0;have sub:roS md rs = [] -> ∀ b,more B a b -> more (fun b => B b /\ ∀ j ∈ roS md rs,b ≠ ad j) a b:=fun z b h => h.imp id fun h => nro z h;have x':Bx F.K H2 (more B a) a c:=by
    rw [hF];rcases hfl with z | z
    ·exact x.of rfl (Fr.less (sub z))
    ·exact x.flat z.1
   have po':Paired (Bx F.K H2 (more B a)) ((bxS md rs).map ad) outs:=by
    rw [hF];rcases hfl with z | z
    ·exact Paired.mapP po fun a' c h => h.of rfl (Fr.less (sub z))
    ·exact Paired.flatB po z.2
   have po2:Paired (Bx F.K H2 B) ((bxS md rs).map ad) outs:=Paired.mapP po' fun a' c h => h.of rfl (Fr.less fun _ z => .inr z);obtain ⟨l2,k2,f2⟩:=l1.call hb nd keep (fun _ z => z) (fun _ _ _ z => z) (fun b z n => absurd z n) po2;obtain ⟨l3,_,f3⟩:=l1.call (B2:=more B a) hb nd keep (fun _ z => .inr z) (fun b o e n z => z.elim (fun z => by rw [z,ha0] at e;cases e) n) (fun b z n => z.elim (fun z => by rw [z];exact x'.trk) fun z => absurd z n) po'
   exact k _ H2 (.fr c) _ ⟨l2,a,rfl,nBa',l1.new0 ha0,l3,x'⟩ (f1.trans f3) (k1.trans k2) hq
 ·exact q1.elim
section
variable {X:Cx} {e:Expr} {es:List Expr} {us:UA} {pos p:Pos} {x:Str} {k:Nat} {ps:List Str} {md:List Bool} {tsp:TSp} {E:XK}
theorem fn (K:PySem.W.Frag) (hK:X.K = K) (F:CallOk X.prog X.w X.K X.mg X.base CX0 k x ps (spT K md tsp)) (hr:Room k X.A) (hg:Gl X x) (hx:Passes CX0 X E) (ha:YA X (e :: es) us) (h1:autoParam (nst e = true) L2.aRfl._auto_1) (h2:autoParam (es.all nst = true) L2.aRfl._auto_1) (hdb:autoParam ((x == ("__debug__":Str)) = false) L2.aDec._auto_1) :
  YE X (.Call (.Name x p) (e :: es) [] pos) (uFn md tsp us):=by
 obtain ⟨t,q,r⟩:=ha;subst hK;exact ⟨_,Z.fn F hr hg hx q h1 h2 hdb,re_fn r⟩
end
end Y
def tspLaw:TSp:=fun args Q => ∃ ns:List Int,args = [.rol (ns.map T.int)] /\ ns.length <= 63 /\ Q (.tr (.bl true)) []
section
variable {prog:Program} {w:World} {A:Around} {E:Value -> Shared -> Prop} {s:Shared}
structure ZA (z TI TO i1 i2 l1 l2:Addr):Prop where
 a1:TI ≠ z
 a2:TO ≠ z
 a3:i1 ≠ z
 a4:i2 ≠ z
 a5:TO ≠ i1
 a6:TO ≠ i2
 a7:i1 ≠ i2
 a8:l1 ≠ z /\ l1 ≠ TO /\ l1 ≠ i1 /\ l1 ≠ i2
 a9:l2 ≠ z /\ l2 ≠ TO /\ l2 ≠ i1 /\ l2 ≠ i2
 b1:TI ≠ TO /\ TI ≠ i1 /\ TI ≠ i2
theorem ZA.f1 {z TI TO i1 i2 l1 l2:Addr} (D:ZA z TI TO i1 i2 l1 l2) {e:Addr} (he:e = z \/ e = TO \/ e = i2):∀ b ∈ [i1,l1],b ≠ e:=fun b hb => by
 rcases List.mem_cons.mp hb with rfl | hb
 ·rcases he with rfl | rfl | rfl
  ·exact D.a3
  ·exact D.a5.symm
  ·exact D.a7
 ·have hb:b = l1:=by simpa using hb
  subst hb;rcases he with rfl | rfl | rfl
  ·exact D.a8.1
  ·exact D.a8.2.1
  ·exact D.a8.2.2.2
theorem ZA.f2 {z TI TO i1 i2 l1 l2:Addr} (D:ZA z TI TO i1 i2 l1 l2) {e:Addr} (he:e = z \/ e = TO \/ e = i1):∀ b ∈ [i2,l2],b ≠ e:=fun b hb => by
 rcases List.mem_cons.mp hb with rfl | hb
 ·rcases he with rfl | rfl | rfl
  ·exact D.a4
  ·exact D.a6.symm
  ·exact D.a7.symm
 ·have hb:b = l2:=by simpa using hb
  subst hb;rcases he with rfl | rfl | rfl
  ·exact D.a9.1
  ·exact D.a9.2.1
  ·exact D.a9.2.2.1
theorem St_of {it l:Addr} {n:Nat} {P:Nat -> Value -> Prop} {S:Nat -> Heap -> Prop} {A':Around} (D:Draws prog w A' it [it,l] n P S) {i:Nat} {h h':Heap} {e:Addr} (st:S i h) (hs:Heap.ExtBut e h h') (ne:∀ b ∈ [it,l],b ≠ e):S i h':=D.frame i h h' st fun b hb o q => hs b o (ne b hb) q
theorem zipG_item {z TI TO i1 i2 l1 l2:Addr} {k n1 n2:Nat} {P1 P2:Nat -> Value -> Prop} {S1 S2:Nat -> Heap -> Prop} {a b:Value} {Q:Value -> Shared -> Prop} (D:ZA z TI TO i1 i2 l1 l2) (D1:Draws prog w A i1 [i1,l1] n1 P1 S1) (D2:Draws prog w A i2 [i2,l2] n2 P2 S2)
  (hz:IsZip s.heap z TI TO .none) (hTI:IsPair s.heap TI (.ref i1) (.ref i2)) (hTO:IsPair s.heap TO a b) (st1:S1 k s.heap) (st2:S2 k s.heap) (hk1:k < n1) (hk2:k < n2)
  (hQ:∀ x y h' tk,P1 k x -> P2 k y -> IsZip h' z TI TO (rawInt s.heap.objs.size) -> IsPair h' TO x y -> S1 (k + 1) h' -> S2 (k + 1) h' -> IsPair h' s.heap.objs.size x y ->
   (∀ c o,c ≠ z -> c ≠ TO -> c ≠ i1 -> c ≠ i2 -> s.heap.get? c = some o -> h'.get? c = some o) -> Q (.ref s.heap.objs.size) { s with heap:=h',toks:=tk }) :
  wpAny (model prog w) A (Builtin.«zip.__next__» ⟨[.ref z],[]⟩) (fun fin s' => ∃ v,fin = .done (.ret v) /\ Q v s') E s:=by
 have zrec:=hz;show wpAny _ _ (field (.ref z) 2 >>= _) _ _ _;refine wpAny_bind (wpAny_field zrec rfl (x:=.bool false) rfl ?_);show wpAny _ _ (field (.ref z) 3 >>= _) _ _ _;refine wpAny_bind (wpAny_field zrec rfl (x:=.ref TI) rfl ?_);have tirec:=hTI;refine wpAny_bind (wpAny_seqItems tirec rfl ?_);show wpAny _ _ (Builtin.SmallTypes.ownedTupleIsFree (.ref z) >>= _) _ _ _;refine wpAny_bind ?_;unfold Builtin.SmallTypes.ownedTupleIsFree;refine wpAny_bind (wpAny_field zrec rfl (x:=.none) rfl (wpAny_pure ?_));simp only [if_true];refine wpAny_bind (wpAny_rule ?_);refine wpAny_bind (wpAny_field zrec rfl (x:=.ref TO) rfl ?_);refine wpAny_bind (wpAny_setField_rec zrec (by simp) fun g1 zr1 sb1 => ?_)
 replace zr1:IsZip g1 z TI TO .ellipsis:=zr1
 refine wpAny_bind ?_;simp only [List.zipIdx_cons,List.zipIdx_nil,List.forIn_cons,List.forIn_nil];refine wpAny_bind (wpAny_bind (wpAny_onRaise ?_));show wpAny _ _ (Builtin.SmallTypes.nextOf (.ref i1) >>= _) _ _ _;refine wpAny_bind (D1.item k _ _ _ hk1 (St_of D1 st1 sb1.extBut (D.f1 (.inl rfl))) fun x g2 tk2 px st1b sb2 => wpAny_pure ?_);have to2:IsPair g2 TO a b:=sb2.extBut _ _ D.a5 (sb1.extBut _ _ D.a2 hTO);refine wpAny_bind (wpAny_seqItems to2 rfl ?_);refine wpAny_bind (wpAny_updateSeq_pair to2 fun g3 to3 sb3 => ?_)
 replace to3:IsPair g3 TO x b:=to3
 refine wpAny_bind (wpAny_letGo (wpAny_pure ?_));refine wpAny_bind (wpAny_bind (wpAny_onRaise ?_));show wpAny _ _ (Builtin.SmallTypes.nextOf (.ref i2) >>= _) _ _ _;have st2c:S2 k g3:=St_of D2 (St_of D2 (St_of D2 st2 sb1.extBut (D.f2 (.inl rfl))) sb2.extBut (D.f2 (.inr (.inr rfl)))) sb3.extBut (D.f2 (.inr (.inl rfl)));refine wpAny_bind (D2.item k _ _ _ hk2 st2c fun y g4 tk4 py st2d sb4 => wpAny_pure ?_);have to4:IsPair g4 TO x b:=sb4.extBut _ _ D.a6 to3;refine wpAny_bind (wpAny_seqItems to4 rfl ?_);refine wpAny_bind (wpAny_updateSeq_pair to4 fun g5 to5 sb5 => ?_)
 replace to5:IsPair g5 TO x y:=to5
 refine wpAny_bind (wpAny_letGo (wpAny_pure (wpAny_pure ?_)));refine wpAny_bind (wpAny_seqItems to5 rfl ?_);refine wpAny_bind (wpAny_newTuple ?_);have size5:g5.objs.size = s.heap.objs.size:=by rw [sb5.1,sb4.1,sb3.1,sb2.1,sb1.1]
 have zr5:IsZip g5 z TI TO .ellipsis:=sb5.extBut _ _ D.a2.symm (sb4.extBut _ _ D.a4.symm (sb3.extBut _ _ D.a2.symm (sb2.extBut _ _ D.a3.symm zr1)));have keep5:∀ c o,c ≠ z -> c ≠ TO -> c ≠ i1 -> c ≠ i2 -> s.heap.get? c = some o -> g5.get? c = some o:=fun c o e1 e2 e3 e4 q =>
  sb5.extBut _ _ e2 (sb4.extBut _ _ e4 (sb3.extBut _ _ e2 (sb2.extBut _ _ e3 (sb1.extBut _ _ e1 q))))
 have s1e:S1 (k + 1) g5:=St_of D1 (St_of D1 (St_of D1 st1b sb3.extBut (D.f1 (.inr (.inl rfl)))) sb4.extBut (D.f1 (.inr (.inr rfl)))) sb5.extBut (D.f1 (.inr (.inl rfl)));have s2e:S2 (k + 1) g5:=St_of D2 st2d sb5.extBut (D.f2 (.inr (.inl rfl)));have zlt:z < g5.objs.size:=Heap.lt_size zr5;show wpAny _ _ (Builtin.SmallTypes.ownedTupleHandOut (.ref z) (.ref g5.objs.size) >>= _) _ _ _;refine wpAny_bind ?_;unfold Builtin.SmallTypes.ownedTupleHandOut;have zr6:IsZip (g5.push { cls:=.type "tuple",data:=.seq #[x,y] }) z TI TO .ellipsis:=Heap.get?_push_of_some _ zr5;refine wpAny_bind (wpAny_setField_rec zr6 (by simp) fun g7 zr7 sb7 => ?_)
 replace zr7:IsZip g7 z TI TO (rawInt g5.objs.size):=zr7
 refine wpAny_setField_rec zr7 (by simp) fun g8 zr8 sb8 => ?_
 replace zr8:IsZip g8 z TI TO (rawInt g5.objs.size):=zr8
 have up:∀ c o,c ≠ z -> g5.get? c = some o -> g8.get? c = some o:=fun c o e1 q => sb8.extBut _ _ e1 (sb7.extBut _ _ e1 (Heap.get?_push_of_some _ q));have pr8:IsPair g8 g5.objs.size x y:=sb8.extBut _ _ (Nat.ne_of_gt zlt) (sb7.extBut _ _ (Nat.ne_of_gt zlt) (Heap.get?_push_size _ rfl));rw [size5] at zr8 pr8;refine wpAny_pure ⟨_,rfl,?_⟩;show Q (.ref g5.objs.size) _;rw [size5];exact hQ x y g8 _ px py zr8 (up _ _ D.a2 to5) (D1.frame _ _ _ s1e fun b hb o q => up b o (D.f1 (.inl rfl) b hb) q) (D2.frame _ _ _ s2e fun b hb o q => up b o (D.f2 (.inl rfl) b hb) q) pr8 fun c o e1 e2 e3 e4 q => up c o e1 (keep5 c o e1 e2 e3 e4 q)
theorem zipG_end {z TI TO i1 i2 l1 l2:Addr} {k n1 n2:Nat} {P1 P2:Nat -> Value -> Prop} {S1 S2:Nat -> Heap -> Prop} {a b:Value} {Q:Fin -> Shared -> Prop} (D:ZA z TI TO i1 i2 l1 l2) (D1:Draws prog w A i1 [i1,l1] n1 P1 S1) (D2:Draws prog w A i2 [i2,l2] n2 P2 S2)
  (hz:IsZip s.heap z TI TO .none) (hTI:IsPair s.heap TI (.ref i1) (.ref i2)) (hTO:IsPair s.heap TO a b) (st1:S1 k s.heap) (st2:S2 k s.heap) (hk:k = n1 \/ (k < n1 /\ k = n2))
  (hE:∀ h' e tk,(∀ c o,c ≠ z -> c ≠ TO -> c ≠ i1 -> c ≠ i2 -> s.heap.get? c = some o -> h'.get? c = some o) -> (∃ o,h'.get? e = some o /\ o.cls = .type "StopIteration") -> E (.ref e) { s with heap:=h',toks:=tk }) :
  wpAny (model prog w) A (Builtin.«zip.__next__» ⟨[.ref z],[]⟩) Q E s:=by
 have zrec:=hz;show wpAny _ _ (field (.ref z) 2 >>= _) _ _ _;refine wpAny_bind (wpAny_field zrec rfl (x:=.bool false) rfl ?_);show wpAny _ _ (field (.ref z) 3 >>= _) _ _ _;refine wpAny_bind (wpAny_field zrec rfl (x:=.ref TI) rfl ?_);have tirec:=hTI;refine wpAny_bind (wpAny_seqItems tirec rfl ?_);show wpAny _ _ (Builtin.SmallTypes.ownedTupleIsFree (.ref z) >>= _) _ _ _;refine wpAny_bind ?_;unfold Builtin.SmallTypes.ownedTupleIsFree;refine wpAny_bind (wpAny_field zrec rfl (x:=.none) rfl (wpAny_pure ?_));simp only [if_true];refine wpAny_bind (wpAny_rule ?_);refine wpAny_bind (wpAny_field zrec rfl (x:=.ref TO) rfl ?_);refine wpAny_bind (wpAny_setField_rec zrec (by simp) fun g1 zr1 sb1 => ?_)
 replace zr1:IsZip g1 z TI TO .ellipsis:=zr1
 refine wpAny_bind ?_;simp only [List.zipIdx_cons,List.zipIdx_nil,List.forIn_cons,List.forIn_nil];refine wpAny_bind (wpAny_bind (wpAny_onRaise ?_));show wpAny _ _ (Builtin.SmallTypes.nextOf (.ref i1) >>= _) _ _ _;rcases hk with hk | ⟨hk1,hk2⟩
 ·subst hk;refine wpAny_bind (D1.done _ _ _ (St_of D1 st1 sb1.extBut (D.f1 (.inl rfl))) fun g2 e sb2 he => ?_);obtain ⟨oe,hoe,hce⟩:=he;have zr2:IsZip g2 z TI TO .ellipsis:=sb2 _ _ D.a3.symm zr1;have nez:e ≠ z:=fun q => by subst q;rw [zr2] at hoe;cases hoe;simp at hce
  refine wpAny_setField_rec zr2 (by simp) fun g3 _ sb3 => hE g3 e _ (fun c o e1 _ e3 _ q => sb3.extBut _ _ e1 (sb2 _ _ e3 (sb1.extBut _ _ e1 q))) ⟨oe,sb3.extBut _ _ nez hoe,hce⟩
 ·subst hk2;refine wpAny_bind (D1.item k _ _ _ hk1 (St_of D1 st1 sb1.extBut (D.f1 (.inl rfl))) fun x g2 tk2 px st1b sb2 => wpAny_pure ?_);have to2:IsPair g2 TO a b:=sb2.extBut _ _ D.a5 (sb1.extBut _ _ D.a2 hTO);refine wpAny_bind (wpAny_seqItems to2 rfl ?_);refine wpAny_bind (wpAny_updateSeq_pair to2 fun g3 to3 sb3 => ?_);refine wpAny_bind (wpAny_letGo (wpAny_pure ?_));refine wpAny_bind (wpAny_bind (wpAny_onRaise ?_));show wpAny _ _ (Builtin.SmallTypes.nextOf (.ref i2) >>= _) _ _ _;have st2c:S2 k g3:=St_of D2 (St_of D2 (St_of D2 st2 sb1.extBut (D.f2 (.inl rfl))) sb2.extBut (D.f2 (.inr (.inr rfl)))) sb3.extBut (D.f2 (.inr (.inl rfl)));refine wpAny_bind (D2.done _ _ _ st2c fun g4 e sb4 he => ?_);obtain ⟨oe,hoe,hce⟩:=he;have zr4:IsZip g4 z TI TO .ellipsis:=sb4 _ _ D.a4.symm (sb3.extBut _ _ D.a2.symm (sb2.extBut _ _ D.a3.symm zr1));have nez:e ≠ z:=fun q => by subst q;rw [zr4] at hoe;cases hoe;simp at hce
  refine wpAny_setField_rec zr4 (by simp) fun g5 _ sb5 => hE g5 e _ (fun c o e1 e2 e3 e4 q => sb5.extBut _ _ e1 (sb4 _ _ e4 (sb3.extBut _ _ e2 (sb2.extBut _ _ e3 (sb1.extBut _ _ e1 q))))) ⟨oe,sb5.extBut _ _ nez hoe,hce⟩
end
def SqK (K:PySem.W.Frag) (k:Bool) (H:Hp) (a:Addr) (xs:List V):Prop:=if k = true then SqL K H a xs else SqT K H a xs
def IsItK (k:Bool) (h:Heap) (it a:Addr) (i:Nat):Prop:=if k = true then h.IsListIter it a i else h.IsTupleIter it a i
def IsSqK (k:Bool) (h:Heap) (a:Addr) (items:Array Value):Prop:=if k = true then h.IsList a items else h.IsTuple a items
theorem draws_K {prog:Program} {w:World} {A:Around} (k:Bool) (hh:A.handled = none) (it l:Addr) (hne:l ≠ it) (items:Array Value):Draws prog w A it [it,l] items.size (fun i v => items[i]? = some v) (fun i h => IsItK k h it l i /\ IsSqK k h l items):=by
 cases k with
 | true => exact Draws.list hh it l hne items
 | false => exact draws_tup hh it l hne items
theorem Inv.seqK {X:Cx} {pins:List (Addr × Obj)} {σ:St} {H:Hp} {s:Shared} {k:Bool} {a:Addr} {xs:List V} (I:Inv X pins σ H s) (h:SqK X.K k H a xs):∃ its:List Value,Vals xs its /\ IsSqK k s.heap a its.toArray:=by
 cases k with
 | true => obtain ⟨its,r,p,_⟩:=I.list h;exact ⟨its,r,p.isList⟩
 | false => obtain ⟨its,r,p,_⟩:=I.tuple h;exact ⟨its,r,p⟩
theorem Inv.seqK_inj {X:Cx} {pins:List (Addr × Obj)} {σ:St} {H:Hp} {s:Shared} {k:Bool} {a:Addr} {xs ys:List V} (I:Inv X pins σ H s) (h:SqK X.K k H a xs) (h':SqK X.K k H a ys):xs = ys:=by
 cases k with
 | true => exact I.list_inj h h'
 | false => exact I.tuple_inj h h'
def ItzK (K:PySem.W.Frag) (k1 k2:Bool) (a b:Addr):It :=
  ⟨fun i H => ∃ xs ys x y,SqK K k1 H a xs /\ SqK K k2 H b ys /\ xs[i]? = some x /\ ys[i]? = some y,
   fun i H v H' => ∃ p x y,(∀ xs,SqK K k1 H a xs -> xs[i]? = some x) /\ (∀ ys,SqK K k2 H b ys -> ys[i]? = some y) /\ H p = none /\ v = .ref p /\ H' = upd H p (.tup [x,y]),
   fun i H => ∃ xs ys,SqK K k1 H a xs /\ SqK K k2 H b ys /\ i = min xs.length ys.length⟩
theorem IsSqK.ty {k:Bool} {h:Heap} {a:Addr} {items:Array Value} (x:IsSqK k h a items):∃ o,h.get? a = some o /\ (o.cls = .type "list" \/ o.cls = .type "tuple") /\ ∃ n,o.data = .seq items n:=by
 cases k with
 | true => obtain ⟨o,e,c,n,d⟩:=(show h.IsList a items from x);exact ⟨o,e,.inl c,n,d⟩
 | false => obtain ⟨o,e,c,n,d⟩:=(show h.IsTuple a items from x);exact ⟨o,e,.inr c,n,d⟩
theorem IsItK.ty {k:Bool} {h:Heap} {it a:Addr} {i:Nat} (x:IsItK k h it a i):∃ o,h.get? it = some o /\ (o.cls = .type "list_iterator" \/ o.cls = .type "tuple_iterator") /\ o.data = .fields #[.ref a,.int i 0]:=by
 cases k with
 | true => obtain ⟨o,e,c,d⟩:=(show h.IsListIter it a i from x);exact ⟨o,e,.inl c,d⟩
 | false => obtain ⟨o,e,c,d⟩:=(show h.IsTupleIter it a i from x);exact ⟨o,e,.inr c,d⟩
def itC (k:Bool):String:=if k = true then "list_iterator" else "tuple_iterator"
noncomputable abbrev zg1 (h:Heap) (k1:Bool) (a:Addr):Heap:=h.push { cls:=.type (itC k1),data:=.fields #[.ref a,.int 0 0] }
noncomputable abbrev zg2 (h:Heap) (k1 k2:Bool) (a b:Addr):Heap:=(zg1 h k1 a).push { cls:=.type (itC k2),data:=.fields #[.ref b,.int 0 0] }
noncomputable abbrev zg3 (h:Heap) (k1 k2:Bool) (a b:Addr):Heap:=(zg2 h k1 k2 a b).push { cls:=.type "tuple",data:=.seq #[.ref h.objs.size,.ref (zg1 h k1 a).objs.size] }
noncomputable abbrev zg4 (h:Heap) (k1 k2:Bool) (a b:Addr):Heap:=(zg3 h k1 k2 a b).push { cls:=.type "tuple",data:=.seq #[.none,.none] }
noncomputable abbrev zg5 (h:Heap) (k1 k2:Bool) (a b:Addr):Heap:=(zg4 h k1 k2 a b).push { cls:=.type "zip",data:=.fields #[.none,.bool false,.bool false,.ref (zg2 h k1 k2 a b).objs.size,.ref (zg3 h k1 k2 a b).objs.size] }
theorem tup_push {h:Heap} {a:Addr} {items:Array Value} (x:h.IsTuple a items) (o:Obj):(h.push o).IsTuple a items:=by
 obtain ⟨ob,e,r⟩:=x;exact ⟨ob,Heap.get?_push_of_some _ e,r⟩
theorem meets_zipK (k1 k2:Bool) (a b:Addr) (xs ys:Array Value) :
  Meets (Builtin.«zip.__new__» ⟨[.type "zip",.ref a,.ref b],[]⟩) (fun _ R s => IsSqK k1 s.heap a xs /\ IsSqK k2 s.heap b ys /\
   R (.ok (.ret (.ref (zg4 s.heap k1 k2 a b).objs.size))) { s with heap:=zg5 s.heap k1 k2 a b }) :=
 .of_wp fun prog w A R s h => by
  obtain ⟨hp,g,d,tk,os⟩:=s;obtain ⟨q1,q2,h⟩:=h;have hsub:=sub_zip
  cases k1 with
  | true =>
   have w1:Heap.IsList (Shared.heap ⟨hp,g,d,tk,os⟩) a xs:=q1
   cases k2 with
   | true =>
    have w2:Heap.IsList (Shared.heap ⟨hp.push { cls:=.type "list_iterator",data:=.fields #[.ref a,.int 0 0] },g,d,tk,os⟩) b ys:=Heap.IsList.push q2 _;wp_walk using wpAny_pyIter_list w1,wpAny_pyIter_list w2;exact ⟨_,rfl,h⟩
   | false =>
    have w2:Heap.IsTuple (Shared.heap ⟨hp.push { cls:=.type "list_iterator",data:=.fields #[.ref a,.int 0 0] },g,d,tk,os⟩) b ys:=tup_push q2 _;wp_walk using wpAny_pyIter_list w1,wpAny_pyIter_tuple w2;exact ⟨_,rfl,h⟩
  | false =>
   have w1:Heap.IsTuple (Shared.heap ⟨hp,g,d,tk,os⟩) a xs:=q1
   cases k2 with
   | true =>
    have w2:Heap.IsList (Shared.heap ⟨hp.push { cls:=.type "tuple_iterator",data:=.fields #[.ref a,.int 0 0] },g,d,tk,os⟩) b ys:=Heap.IsList.push q2 _;wp_walk using wpAny_pyIter_tuple w1,wpAny_pyIter_list w2;exact ⟨_,rfl,h⟩
   | false =>
    have w2:Heap.IsTuple (Shared.heap ⟨hp.push { cls:=.type "tuple_iterator",data:=.fields #[.ref a,.int 0 0] },g,d,tk,os⟩) b ys:=tup_push q2 _;wp_walk using wpAny_pyIter_tuple w1,wpAny_pyIter_tuple w2;exact ⟨_,rfl,h⟩
theorem isIt0 {k:Bool} {h:Heap} {it a:Addr} (e:h.get? it = some { cls:=.type (itC k),data:=.fields #[.ref a,.int 0 0] }):IsItK k h it a 0:=by
 cases k with
 | true => exact ⟨_,e,rfl,rfl⟩
 | false => exact ⟨_,e,rfl,rfl⟩
section
variable {prog:Program} {w:World} {A:Around} {E:Value -> Shared -> Prop} {s:Shared}
theorem call_zipK {k1 k2:Bool} {a b:Addr} {xs ys:Array Value} {Q:Value -> Shared -> Prop} (h1:IsSqK k1 s.heap a xs) (h2:IsSqK k2 s.heap b ys)
  (h:∀ h',IsZip h' (s.heap.objs.size + 4) (s.heap.objs.size + 2) (s.heap.objs.size + 3) .none -> IsPair h' (s.heap.objs.size + 2) (.ref s.heap.objs.size) (.ref (s.heap.objs.size + 1)) -> IsPair h' (s.heap.objs.size + 3) .none .none ->
   IsItK k1 h' s.heap.objs.size a 0 -> IsItK k2 h' (s.heap.objs.size + 1) b 0 -> (∀ c o,s.heap.get? c = some o -> h'.get? c = some o) -> Q (.ref (s.heap.objs.size + 4)) { s with heap:=h' }) :
  wpAny (model prog w) A (call (.type "zip") [.ref a,.ref b]) Q E s:=by
 refine callType_new F.called_zip (by decide) (F.typeCall_zip_2 _ _) (F.newCall_zip_2 _ _) (fun obj => F.args_object_init_3 obj _ _) F.entry_zip_new (meets_zipK k1 k2 a b xs ys) ⟨h1,h2,?_⟩
 have e1:(zg1 s.heap k1 a).objs.size = s.heap.objs.size + 1:=Heap.size_push ..;have e2:(zg2 s.heap k1 k2 a b).objs.size = s.heap.objs.size + 2:=by rw [Heap.size_push,e1]
 have e3:(zg3 s.heap k1 k2 a b).objs.size = s.heap.objs.size + 3:=by rw [Heap.size_push,e2]
 have e4:(zg4 s.heap k1 k2 a b).objs.size = s.heap.objs.size + 4:=by rw [Heap.size_push,e3]
 have p5:(zg5 s.heap k1 k2 a b).get? (zg4 s.heap k1 k2 a b).objs.size = some _:=Heap.get?_push_size _ rfl;have p4:(zg5 s.heap k1 k2 a b).get? (zg3 s.heap k1 k2 a b).objs.size = some _:=Heap.get?_push_of_some _ (Heap.get?_push_size _ rfl);have p3:(zg5 s.heap k1 k2 a b).get? (zg2 s.heap k1 k2 a b).objs.size = some _:=Heap.get?_push_of_some _ (Heap.get?_push_of_some _ (Heap.get?_push_size _ rfl));have p2:(zg5 s.heap k1 k2 a b).get? (zg1 s.heap k1 a).objs.size = some _:=Heap.get?_push_of_some _ (Heap.get?_push_of_some _ (Heap.get?_push_of_some _ (Heap.get?_push_size _ rfl)));have p1:(zg5 s.heap k1 k2 a b).get? s.heap.objs.size = some _:=Heap.get?_push_of_some _ (Heap.get?_push_of_some _ (Heap.get?_push_of_some _ (Heap.get?_push_of_some _ (Heap.get?_push_size _ rfl))));show _ /\ _;rw [e2,e3,e4] at p5;rw [e1,e2] at p3;rw [e3] at p4;rw [e1] at p2;rw [e4];exact ⟨⟨_,p5,rfl⟩,h _ p5 p3 p4 (isIt0 p1) (isIt0 p2) fun c o x => Heap.get?_push_of_some _ (Heap.get?_push_of_some _ (Heap.get?_push_of_some _ (Heap.get?_push_of_some _ (Heap.get?_push_of_some _ x))))⟩
end
theorem turn_zipK {P:Program} {w:World} {K:PySem.W.Frag} {es:List Expr} {tk:Nat} {tp:Pos} (k1 k2:Bool) (a b z TI TO i1 i2:Addr) (D:ZA z TI TO i1 i2 a b) :
  Turn P w K (.Tuple es tk tp) (ItzK K k1 k2 a b) [z,TI,TO,i1,i2] z (fun i h => IsZip h z TI TO .none /\ IsPair h TI (.ref i1) (.ref i2) /\ (∃ x y,IsPair h TO x y) /\ IsItK k1 h i1 a i /\ IsItK k2 h i2 b i) where
 mem:=by simp
 obj:=fun i h st c hc => by
  obtain ⟨s1,s2,⟨x,y,s3⟩,s4,s5⟩:=st;simp only [List.mem_cons,List.not_mem_nil,or_false] at hc;rcases hc with rfl | rfl | rfl | rfl | rfl
  ·exact ⟨_,s1,fun v q => by cases q⟩
  ·exact ⟨_,s2,fun v q => by cases q⟩
  ·exact ⟨_,s3,fun v q => by cases q⟩
  ·obtain ⟨o,e,_,d⟩:=s4.ty;exact ⟨o,e,fun v q => by rw [d] at q;cases q⟩
  ·obtain ⟨o,e,_,d⟩:=s5.ty;exact ⟨o,e,fun v q => by rw [d] at q;cases q⟩
 keep:=fun i h h' st k => by
  obtain ⟨s1,s2,⟨x,y,s3⟩,s4,s5⟩:=st;refine ⟨k z (by simp) _ s1,k TI (by simp) _ s2,⟨x,y,k TO (by simp) _ s3⟩,?_,?_⟩
  ·cases k1 with
   | true => obtain ⟨o,e,r⟩:=(show h.IsListIter i1 a i from s4);exact ⟨o,k i1 (by simp) o e,r⟩
   | false => obtain ⟨o,e,r⟩:=(show h.IsTupleIter i1 a i from s4);exact ⟨o,k i1 (by simp) o e,r⟩
  ·cases k2 with
   | true => obtain ⟨o,e,r⟩:=(show h.IsListIter i2 b i from s5);exact ⟨o,k i2 (by simp) o e,r⟩
   | false => obtain ⟨o,e,r⟩:=(show h.IsTupleIter i2 b i from s5);exact ⟨o,k i2 (by simp) o e,r⟩
 item:=by
  intro X hP hw hK hc i pins s σ H E I hf st hg;subst hP hw hK;obtain ⟨xs,ys,x,y,q1,q2,ex,ey⟩:=hg;obtain ⟨s1,s2,⟨x0,y0,s3⟩,s4,s5⟩:=st;obtain ⟨its1,rv1,p1⟩:=I.seqK q1;obtain ⟨its2,rv2,p2⟩:=I.seqK q2;obtain ⟨u1,hu1,ru1⟩:=rv1.get ex;obtain ⟨u2,hu2,ru2⟩:=rv2.get ey;have lt1:i < its1.toArray.size:=by have:=(List.getElem?_eq_some_iff.mp hu1).1;simpa using this
  have lt2:i < its2.toArray.size:=by have:=(List.getElem?_eq_some_iff.mp hu2).1;simpa using this
  have hT:s.TypeIs (.ref z) "zip":=⟨_,s1,rfl⟩;have D1:=draws_K (prog:=X.prog) (w:=X.w) (A:=X.A.in1) k1 (I.ok.hd hc) i1 a D.a8.2.2.1 its1.toArray;have D2:=draws_K (prog:=X.prog) (w:=X.w) (A:=X.A.in1) k2 (I.ok.hd hc) i2 b D.a9.2.2.2 its2.toArray;unfold pyNext;refine wpAny_bind (wpAny_attempt (wpAny_callSpecial?_slot (name:=Str.ofString "__next__") hT PySem.F.slot_zip_next (wpAny_call_entry PySem.F.slot_zip_next hT PySem.F.entry_zip_next
   (zipG_item D D1 D2 s1 s2 s3 ⟨s4,p1⟩ ⟨s5,p2⟩ lt1 lt2 fun v1 v2 h' tk' px py z1 t1 w1 w2 pr kp => wpAny_pure ?_) (PySem.F.args_zip_next_1 _))))
  have fr:H s.heap.objs.size = none:=I.hok.fresh (Nat.le_refl _);have ev1:v1 = u1:=by rw [List.getElem?_toArray,hu1] at px;exact (Option.some.inj px).symm
  have ev2:v2 = u2:=by rw [List.getElem?_toArray,hu2] at py;exact (Option.some.inj py).symm
  subst ev1 ev2;have lt:∀ {c o},s.heap.get? c = some o -> s.heap.objs.size ≠ c:=fun e => Nat.ne_of_gt (Heap.lt_size e);refine ⟨.ref s.heap.objs.size,rfl,wpAny_letOwnedTupleGo_zip z1 fun h2 z2 sb2 => ?_⟩;have pr2:IsPair h2 s.heap.objs.size v1 v2:=sb2.extBut _ _ (lt s1) pr;have I2:Inv X pins σ (upd H s.heap.objs.size (.tup [x,y])) { s with heap:=h2,toks:=tk' }:=by
   refine I.turnNew (fp:=[z,TI,TO,i1,i2]) hf (Nat.le_refl _) (fun c o hcm ec => ?_) ⟨by show 2 <= sizeLine;decide,[v1,v2],.cons ru1 (.cons ru2 .nil),⟨_,pr2,rfl,_,rfl,rfl⟩⟩
   simp only [List.mem_cons,List.not_mem_nil,or_false,not_or] at hcm;exact sb2.extBut _ _ hcm.1 (kp c o hcm.1 hcm.2.2.1 hcm.2.2.2.1 hcm.2.2.2.2 ec)
  refine ⟨.ref s.heap.objs.size,_,I2,rfl,⟨s.heap.objs.size,x,y,fun zs hz => by rw [I.seqK_inj hz q1];exact ex,fun zs hz => by rw [I.seqK_inj hz q2];exact ey,fr,rfl,rfl⟩,⟨z2,?_,⟨v1,v2,?_⟩,?_,?_⟩,fun c hcm => ?_⟩
  ·exact sb2.extBut _ _ D.a1 (kp _ _ D.a1 D.b1.1 D.b1.2.1 D.b1.2.2 s2)
  ·exact sb2.extBut _ _ D.a2 t1
  ·have:=D1.frame (i + 1) h' h2 w1 fun c hcm o q => sb2.extBut _ _ (D.f1 (.inl rfl) c hcm) q;exact this.1
  ·have:=D2.frame (i + 1) h' h2 w2 fun c hcm o q => sb2.extBut _ _ (D.f2 (.inl rfl) c hcm) q;exact this.1
  ·have hn:=(hf c hcm).1;rw [upd_ne]
   ·exact hn
   ·simp only [List.mem_cons,List.not_mem_nil,or_false] at hcm;rcases hcm with rfl | rfl | rfl | rfl | rfl
    ·exact (lt s1).symm
    ·exact (lt s2).symm
    ·exact (lt s3).symm
    ·obtain ⟨o,e,_⟩:=s4.ty;exact (lt e).symm
    ·obtain ⟨o,e,_⟩:=s5.ty;exact (lt e).symm
 done:=by
  intro X hP hw hK hc i pins s σ H E I hf st hg;subst hP hw hK;obtain ⟨xs,ys,q1,q2,hi⟩:=hg;obtain ⟨s1,s2,⟨x0,y0,s3⟩,s4,s5⟩:=st;obtain ⟨its1,rv1,p1⟩:=I.seqK q1;obtain ⟨its2,rv2,p2⟩:=I.seqK q2;have n1:its1.toArray.size = xs.length:=by rw [List.size_toArray];exact rv1.length.symm
  have n2:its2.toArray.size = ys.length:=by rw [List.size_toArray];exact rv2.length.symm
  have hT:s.TypeIs (.ref z) "zip":=⟨_,s1,rfl⟩;have D1:=draws_K (prog:=X.prog) (w:=X.w) (A:=X.A.in1) k1 (I.ok.hd hc) i1 a D.a8.2.2.1 its1.toArray;have D2:=draws_K (prog:=X.prog) (w:=X.w) (A:=X.A.in1) k2 (I.ok.hd hc) i2 b D.a9.2.2.2 its2.toArray;unfold pyNext;refine wpAny_bind (wpAny_attempt (wpAny_callSpecial?_slot (name:=Str.ofString "__next__") hT PySem.F.slot_zip_next (wpAny_call_entry PySem.F.slot_zip_next hT PySem.F.entry_zip_next
   (zipG_end D D1 D2 s1 s2 s3 ⟨s4,p1⟩ ⟨s5,p2⟩ (by rw [n1,n2];lia) fun h' e tk' kp he => ?_) (PySem.F.args_zip_next_1 _))))
  obtain ⟨o,ho,hcl⟩:=he;refine wpAny_bind (wpAny_isInstance (T:="StopIteration") (b:=true) ⟨o,ho,hcl⟩ isSubtype_stop (wpAny_pure ⟨rfl,?_⟩));refine I.turns (t':=tk') hf fun c o hcm ec => ?_;simp only [List.mem_cons,List.not_mem_nil,or_false,not_or] at hcm;exact kp c o hcm.1 hcm.2.2.1 hcm.2.2.2.1 hcm.2.2.2.2 ec
 self:=fun A i s Q E st h => wpAny_pyIter_zip st.1 h
section
variable {X:Cx} {es:List Expr} {tk:Nat} {tp:Pos}
def iZipK (K:PySem.W.Frag) (ta:TA):TI:=fun σ H R => ta σ H fun vs H1 => ∃ a b k1 k2,vs = [.ref a,.ref b] /\ (∃ xs,SqK K k1 H1 a xs) /\ (∃ ys,SqK K k2 H1 b ys) /\ R (ItzK K k1 k2 a b) H1
theorem pi_zipK {e1 e2:Expr} {ta:TA} {p pos:Pos} (hg:Gl X "zip") (hm:X.mg "zip" = none) (ha:PA X [e1,e2] ta) (h1:autoParam (nst e1 = true) L2.aRfl._auto_1) (h2:autoParam (nst e2 = true) L2.aRfl._auto_1) (hv:bootBuiltins "zip" = some (.type "zip"):=by decide +kernel) :
  PI X (.Tuple es tk tp) (.Call (.Name "zip" p) [e1,e2] [] pos) (iZipK X.K ta):=by
 intro pins s σ H R I h;refine Call_ (ld_blt I hg hm hv (PyProof.Rows.callWith_type1 (thn (ha pos pins s σ H _ I h) fun us s1 ⟨vs,H1,I1,r1,q1⟩ => ?_) (by rw [star1 h1,star1 h2]) (by rw [star1 h2];rfl)))
 obtain ⟨a,b,k1,k2,e,⟨xs,hx⟩,⟨ys,hy⟩,q⟩:=q1;subst e;obtain ⟨u,w',rfl,ru,rw'⟩:=vals2 r1
 cases ru;cases rw'
 obtain ⟨its1,rv1,p1⟩:=I1.seqK hx;obtain ⟨its2,rv2,p2⟩:=I1.seqK hy;obtain ⟨o1,eo1,_⟩:=p1.ty;obtain ⟨o2,eo2,_⟩:=p2.ty;have l1:a < s1.heap.objs.size:=Heap.lt_size eo1;have l2:b < s1.heap.objs.size:=Heap.lt_size eo2;refine call_zipK p1 p2 fun h' z1 z2 z3 z4 z5 kp => wpAny_pyIter_zip z1 ?_;have I2:Inv X pins σ H1 { s1 with heap:=h' }:=I1.kept (t':=s1.toks) kp
 have ne:∀ (m n c:Nat),m ≠ n -> c + m ≠ c + n:=fun m n c h => by lia
 have nl:∀ (x c m:Nat),x < c -> x ≠ c + m:=fun x c m h => by lia
 have D:ZA (s1.heap.objs.size + 4) (s1.heap.objs.size + 2) (s1.heap.objs.size + 3) s1.heap.objs.size (s1.heap.objs.size + 1) a b :=
  ⟨ne 2 4 _ (by decide),ne 3 4 _ (by decide),ne 0 4 _ (by decide),ne 1 4 _ (by decide),ne 3 0 _ (by decide),ne 3 1 _ (by decide),ne 0 1 _ (by decide),⟨nl _ _ 4 l1,nl _ _ 3 l1,nl _ _ 0 l1,nl _ _ 1 l1⟩,⟨nl _ _ 4 l2,nl _ _ 3 l2,nl _ _ 0 l2,nl _ _ 1 l2⟩,ne 2 3 _ (by decide),ne 2 0 _ (by decide),ne 2 1 _ (by decide)⟩
 refine ⟨s1.heap.objs.size + 4,[s1.heap.objs.size + 4,s1.heap.objs.size + 2,s1.heap.objs.size + 3,s1.heap.objs.size,s1.heap.objs.size + 1],_,_,H1,rfl,I2,turn_zipK k1 k2 a b _ _ _ _ _ D,⟨z1,z2,⟨_,_,z3⟩,z4,z5⟩,fun c hc => ?_,q⟩;have hc':s1.heap.objs.size <= c:=by
  simp only [List.mem_cons,List.not_mem_nil,or_false] at hc;rcases hc with rfl | rfl | rfl | rfl | rfl
  ·exact Nat.le_add_right _ _
  ·exact Nat.le_add_right _ _
  ·exact Nat.le_add_right _ _
  ·exact Nat.le_refl _
  ·exact Nat.le_add_right _ _
 exact I1.fpOk hc' (I1.hok.fresh hc')
end
def zipT (ts us:List T):List T:=List.zipWith (fun t u => .tup [t,u]) ts us
def sqOf:T -> Option (List T)
 | .lst ts => some ts
 | .tup ts => some ts
 | .rol ts => some ts
 | .ktp ts => some ts
 | _ => none
def kdOf:T -> Bool
 | .lst _ => true
 | .rol _ => true
 | _ => false
theorem Vw.sq {K:PySem.W.Frag} {H:Hp} {B:AP'} {v:V} {t:T} {ts:List T} (h:Vw K H B v t) (e:sqOf t = some ts):∃ a vs,v = .ref a /\ SqK K (kdOf t) H a vs /\ Reps K H B vs ts:=by
 cases h with
 | non => cases e
 | bl => cases e
 | int => cases e
 | str => cases e
 | rng => cases e
 | dic => cases e
 | exc => cases e
 | exa => cases e
 | tup h r => cases e;exact ⟨_,_,rfl,SqT.of h,r⟩
 | ktp h r => cases e;exact ⟨_,_,rfl,.inr h,r⟩
 | lst h r => cases e;exact ⟨_,_,rfl,SqL.of h,r⟩
 | rol h r => cases e;exact ⟨_,_,rfl,h,r⟩
theorem itz_ok {K:PySem.W.Frag} {k1 k2:Bool} {a b:Addr} {ts us:List T}:ItOk K (ItzK K k1 k2 a b) (fun H B => (∃ vs,SqK K k1 H a vs /\ Reps K H B vs ts) /\ ∃ ws,SqK K k2 H b ws /\ Reps K H B ws us) (zipT ts us):=by
 refine ⟨fun H B i t hb ⟨⟨vs,h1,r1⟩,ws,h2,r2⟩ e => ?_,fun H B ⟨⟨vs,h1,r1⟩,ws,h2,r2⟩ => ⟨vs,ws,h1,h2,by rw [r1.length,r2.length];simp [zipT]⟩⟩
 unfold zipT at e;rw [List.getElem?_zipWith] at e
 cases e1:ts[i]? with
 | none => rw [e1] at e;cases e
 | some t1 => cases e2:us[i]? with
  | none => rw [e1,e2] at e;cases e
  | some t2 =>
   rw [e1,e2] at e;have e':T.tup [t1,t2] = t:=Option.some.inj e;subst e';obtain ⟨v1,g1,rv1⟩:=r1.get e1;obtain ⟨v2,g2,rv2⟩:=r2.get e2;refine ⟨⟨vs,ws,v1,v2,h1,h2,g1,g2⟩,fun x H2 y => ?_⟩;obtain ⟨p,x',y',hx,hy,hp,rfl,rfl⟩:=y;have z1:=hx vs h1;have z2:=hy ws h2;rw [g1] at z1;rw [g2] at z2
   cases z1;cases z2
   have fs:Fr B H B (upd H p (.tup [v1,v2])):=Fr.same (Same.new hp);refine ⟨Same.new hp,.tup (fun z => ?_) upd_same (.cons (rv1.fr fs) (.cons (rv2.fr fs) .nil))⟩;obtain ⟨o,q⟩:=hb p z;rw [hp] at q;cases q
namespace Y
section
variable {X:Cx} {e1 e2:Expr} {es:List Expr} {us:UA} {pos p tp:Pos} {k:Nat}
def iZ (us:UA):UI:=fun μ Rt => us μ fun rs μ' => match rs with
 | [.tr t1,.tr t2] => (match sqOf t1,sqOf t2 with
  | some ts,some vs => Rt (zipT ts vs) none μ'
  | _,_ => False)
 | _ => False
theorem zip (K:PySem.W.Frag) (hK:X.K = K) (hg:Gl X "zip") (hm:X.mg "zip" = none) (ha:YA X [e1,e2] us) (h1:autoParam (nst e1 = true) L2.aRfl._auto_1) (h2:autoParam (nst e2 = true) L2.aRfl._auto_1):YI X (.Tuple es k tp) (.Call (.Name "zip" p) [e1,e2] [] pos) (iZ us):=by
 obtain ⟨t,q,r⟩:=ha;subst hK;refine ⟨_,⟨pi_zipK hg hm q.h h1 h2⟩,fun F ad B σ H μ R Rt hF l q k => r F ad B σ H μ _ _ hF l q fun vs H' rs μ' l1 ps f k1 q1 => ?_⟩
 split at q1
 ·rename_i t1 t2
  cases ps with
  | cons h1 ps => cases ps with
   | cons h2 ps =>
    cases ps;have r1:=rep_of h1;have r2:=rep_of h2
    split at q1
    ·rename_i ts us e1 e2;obtain ⟨a,vs,rfl,s1,_⟩:=Vw.sq r1.vw e1;obtain ⟨b,ws,rfl,s2,_⟩:=Vw.sq r2.vw e2;rw [hF] at s1 s2;refine ⟨a,b,kdOf t1,kdOf t2,rfl,⟨vs,s1⟩,⟨ws,s2⟩,k _ H' μ' _ none (fun H B => Rep F.K H B (.ref a) t1 /\ Rep F.K H B (.ref b) t2) l1 f k1 (itz_ok.imp fun H B h => ?_) ⟨r1,r2⟩ (fun B1 H1 B2 H2 f h => ⟨h.1.fr f,h.2.fr f⟩) (fun j ls z => by cases z) q1⟩
     obtain ⟨g1,g2⟩:=h;obtain ⟨a',vs',ea,sa,ra⟩:=Vw.sq g1.vw e1;obtain ⟨b',ws',eb,sb,rb⟩:=Vw.sq g2.vw e2
     cases ea;cases eb
     rw [hF] at sa sb ra rb;exact ⟨⟨vs',sa,ra⟩,ws',sb,rb⟩
    ·exact q1.elim
 ·exact q1.elim
end
end Y
theorem fun_okT {P:Program} {w:World} {K:PySem.W.Frag} {mg:Str -> Option Value} {base:Heap} {x:Str} {st:Stmt} {N ps:List Str} {k:Nat} {tsp:TSp} {fa:Addr} {fd:FuncData} (F:Fun K x x st fa fd) (S:FnScope N ps (defScope st)) (md:List Bool) (hm:md.length = ps.length) (hN:md.length <= N.length)
  (hbody:∀ (args:List T) (Qt:R -> List T -> Prop),args.length = ps.length -> tsp args Qt -> ∀ (cdv:Value) (A:Around) (outer:List Env) (s:Shared) (H:Hp) (E:XK),Room k (A.deeper (envOfC x (defScope st) s.heap.objs.size fa cdv)) ->
   ∃ us,YB (cxOf CX0 P w K mg base N x (defScope st) fa cdv A outer s H E).nox (defBody st) us /\ us (edOf md Qt) (startM md args N.length)):FnOk P w K mg base CX0 (k + 1) fa fd ps (spT K md tsp):=by
 refine fun_okQ F S (fun vs H Q E h => ?_) (fun cdv A outer s H vs Q E hr h => ?_)
 ·obtain ⟨B,args,Qt,ag,_⟩:=h;rw [ag.len.1,hm]
 ·obtain ⟨B,args,Qt,ag,bh,nd,ht,fin⟩:=h;obtain ⟨us,⟨t,q,r⟩,hu⟩:=hbody args Qt (by rw [ag.len.2,hm]) ht cdv A outer s H E hr
  refine ⟨t,q,?_⟩;have l0:=rl_start (N:=N) ag bh nd hN;have outs:∀ ad' B' σ' H' μ' (B2:AP'),Rl (fxOf K H md vs B bh) ad' B' σ' H' μ' -> (∀ b,B2 b -> B' b) -> Paired (Bx K H' B2) (bxA md vs) (outsAt md 0 μ'):=fun ad' B' σ' H' μ' B2 l hB => by
   refine outs_of (ag.len.1) fun n e => ?_;obtain ⟨v,t',e1,e2,q⟩:=ag.get e;rw [if_pos rfl] at q;obtain ⟨a,rfl,_⟩:=q;obtain ⟨⟨c,hc⟩,ha⟩:=l.par n a (pOf_of e e1);have sl:=l.slot n _ hc;refine ⟨a,c,e1,by rw [Nat.zero_add];exact hc,?_⟩
   rw [<- ha];exact (sl.2.2.2).of rfl (Fr.less hB)
  have keep:∀ ad' B' σ' H' μ',Rl (fxOf K H md vs B bh) ad' B' σ' H' μ' -> ∀ b o,H b = some o -> b ∉ bxA md vs -> H' b = some o:=fun ad' B' σ' H' μ' l b o e n => l.old b o e fun i z => n (mem_bxA (pOf_is z).1 (pOf_is z).2);refine r (fxOf K H md vs B bh) _ _ (adOf vs) B (start N vs) H _ rfl l0 hu ⟨fun ad' B' σ' H' μ' l _ q => ?_,fun ad' B' σ' H' μ' v rr h q => ?_,fun _ _ _ _ _ _ _ z => z.elim,fun _ _ _ _ _ _ _ z => z.elim⟩
  ·exact fin .non H' (.tr .non) _ q (keep _ _ _ _ _ l) ⟨.non,outs _ _ _ _ _ _ l l.bc⟩
  ·cases rr with
   | tr t => exact fin v H' (.tr t) _ q (keep _ _ _ _ _ h.1) ⟨(show Rep K H' B' v t from h.2).fr (Fr.less h.1.bc),outs _ _ _ _ _ _ h.1 h.1.bc⟩
   | fr c =>
    obtain ⟨l,a,rfl,n,h0,l2,x⟩:=h;have sub:∀ b,more B a b -> more B' a b:=fun b z => z.imp id (l.bc b);exact fin _ H' (.fr c) _ q (keep _ _ _ _ _ l) ⟨a,rfl,h0,fun z => n (l.bc a z),x.of rfl (Fr.less sub),outs _ _ _ _ _ _ l2 sub⟩
   | br i =>
    have q':(match μ'[i]? with | some (.bx c) => Qt (.fr c) (outsAt md 0 μ') | _ => False):=q
    obtain ⟨l,rfl,s',c',e1,e2⟩:=h
    split at q'
    ·rename_i c ec;have sl:=l.slot i _ ec;have sub:∀ b,more B (ad' i) b -> B' b:=fun b z => z.elim (fun z => by rw [z];exact sl.2.1) (l.bc b)
     refine fin _ H' (.fr c) _ q' (keep _ _ _ _ _ l) ⟨ad' i,rfl,sl.2.2.1,fun z => ?_,(sl.2.2.2.2).of rfl (Fr.less sub),outs _ _ _ _ _ _ l sub⟩;obtain ⟨o,e⟩:=bh _ z;have:H (ad' i) = none:=sl.2.2.1;rw [this] at e;cases e
    ·exact q'.elim
namespace Y
section
variable {X:Cx} {es:List Expr} {pos:Pos} {x:Str}
theorem globX {t:T} (hg:Gl X x) (h:∃ w u,X.mg x = some u /\ RelV w u /\ ∀ H B,Rep X.K H B w t) (hd:autoParam ((x == ("__debug__":Str)) = false) L2.aDec._auto_1):YE X (.Name x pos) (uC t):=by
 obtain ⟨w,u,hm,r,h⟩:=h;exact glob hg hm r h hd
def conTs:List V -> Option (List T)
 | [] => some []
 | v :: vs => match conT v,conTs vs with
  | some t,some ts => some (t :: ts)
  | _,_ => none
theorem conTs_map:∀ {vs:List V} {ts:List T},conTs vs = some ts -> vs.map conT = ts.map some
 | [],ts,h => by cases h;rfl
 | v :: vs,ts,h => by
  unfold conTs at h
  split at h
  ·rename_i t us e1 e2;cases h;rw [List.map_cons,List.map_cons,e1,conTs_map e2]
  ·cases h
theorem consts2 {vs:List V} {ts:List T} (h:consV es = some vs) (h2:conTs vs = some ts):YA X es (uK ts):=consts h (conTs_map h2)
end
end Y
theorem seqT {u w:US} {E:Ed} {μ:Mu} (h:∀ N,N = w E -> u { E with nx:=N } μ):Y.uSeq u w E μ:=h _ rfl
def stp (o:Option (Prop × R)) (Q:R -> Prop):Prop:=match o with
 | some (C,r) => C /\ Q r
 | none => False
theorem stp_some (C:Prop) (r:R) (Q:R -> Prop):stp (some (C,r)) Q = (C /\ Q r):=rfl
def sti (o:Option (List T × Option (Nat × List T))) (Q:List T -> Option (Nat × List T) -> Prop):Prop:=match o with
 | some (ts,g) => Q ts g
 | none => False
theorem sti_some (ts:List T) (g:Option (Nat × List T)) (Q:List T -> Option (Nat × List T) -> Prop):sti (some (ts,g)) Q = Q ts g:=rfl
def nb:Option Sl -> Prop
 | some (.pb _) => False
 | _ => True
def sl:Option T -> Sl
 | none => .un
 | some t => .tr t
def fVar (o:Option Sl) (i:Nat):Option (Prop × R):=match o with
 | some (.tr t) => some (True,.tr t)
 | some (.bx _) => some (True,.br i)
 | some (.pb _) => some (True,.br i)
 | _ => none
def fTru:R -> Option Bool
 | .tr (.bl b) => some b
 | .tr (.int i) => some (i != 0)
 | _ => none
def fAdd (a b:Option T):Option (Prop × R):=match a,b with
 | some (.int i),some (.int j) => some (True,.tr (.int (i + j)))
 | some (.str i),some (.str j) => some (i.length + j.length <= sizeLine,.tr (.str (i ++ j)))
 | some (.lst xs),some (.lst ys) => some (xs.length + ys.length <= sizeLine,.fr (.lst (xs ++ ys)))
 | some (.tup xs),some (.tup ys) => some (xs.length + ys.length <= sizeLine,.tr (.tup (xs ++ ys)))
 | _,_ => none
def oT (o:Option T):Option (Prop × R):=match o with
 | some t => some (True,.tr t)
 | none => none
theorem oT_some (t:T):oT (some t) = some (True,.tr t):=rfl
def fIx (a b:Option T):Option (Prop × R):=match a,b with
 | some (.lst xs),some (.int i) => oT (atI xs i)
 | some (.tup xs),some (.int i) => oT (atI xs i)
 | some (.ktp xs),some (.int i) => oT (atI xs i)
 | some (.str z),some (.int i) => (match atI z.cps.toList i with | some c => some (z.length <= sizeLine,.tr (.str ⟨#[c]⟩)) | none => none)
 | _,_ => none
def fLen (a:T):Option (Prop × R):=match a with
 | .lst xs => some (True,.tr (.int xs.length))
 | .tup xs => some (True,.tr (.int xs.length))
 | .rol xs => some (True,.tr (.int xs.length))
 | .ktp xs => some (True,.tr (.int xs.length))
 | .str z => some (z.length <= sizeLine,.tr (.int z.length))
 | _ => none
def fTuple (a:Option T):Option (Prop × R):=match a with
 | some (.lst xs) => some (True,.tr (.tup xs))
 | some (.tup xs) => some (True,.tr (.tup xs))
 | _ => none
def fList (a:T):Option (Prop × R):=match a with
 | .lst xs => some (True,.fr (.lst xs))
 | .tup xs => some (True,.fr (.lst xs))
 | .rol xs => some (True,.fr (.lst xs))
 | .rng lo hi => some ((hi - lo).toNat <= 65536 /\ -(2 ^ 62) <= lo /\ lo < 2 ^ 62 /\ -(2 ^ 62) <= hi /\ hi < 2 ^ 62,.fr (.lst ((List.range (hi - lo).toNat).map fun k => T.int (lo + (k:Nat)))))
 | _ => none
def fSl (a:Option T) (lo hi:Option Int):Option (Prop × R):=match a with
 | some (.lst xs) => some (True,.fr (.lst (Y.cutG xs lo hi)))
 | some (.rol xs) => some (True,.fr (.lst (Y.cutG xs lo hi)))
 | some (.tup xs) => some (True,.tr (.tup (Y.cutG xs lo hi)))
 | _ => none
def fSeq (a:Option T):Option (List T):=match a with
 | some (.tup ts) => some ts
 | some (.lst ts) => some ts
 | _ => none
def fIt (r:R) (μ:Mu):Option (List T × Option (Nat × List T)):=match r with
 | .br j => (match cont μ (.br j) with | some (.lst ts) => some (ts,some (j,ts)) | _ => none)
 | .tr (.lst ts) => some (ts,none)
 | .fr (.lst ts) => some (ts,none)
 | .tr (.tup ts) => some (ts,none)
 | .tr (.rol ts) => some (ts,none)
 | .tr (.ktp ts) => some (ts,none)
 | _ => none
namespace A
open Y
theorem uC (t:T) (μ:Mu) (Q:R -> Mu -> Prop):Y.uC t μ Q = Q (.tr t) μ:=rfl
theorem uVar (i:Nat) (μ:Mu) (Q:R -> Mu -> Prop):Y.uVar i μ Q = stp (fVar μ[i]? i) fun r => Q r μ:=by
 unfold Y.uVar fVar
 cases μ[i]? with
 | none => rfl
 | some s => cases s <;> exact propext ⟨fun h => by first | exact h | exact ⟨trivial,h⟩,fun h => by first | exact h | exact h.2⟩
theorem uOp (u:U2) (ua ub:UE) (μ:Mu) (Q:R -> Mu -> Prop):Y.uOp u ua ub μ Q = ua μ fun r1 μ1 => ub μ1 fun r2 μ2 => u r1.d r2.d μ2 Q:=rfl
theorem uTest (ue:UE) (μ:Mu) (Q:Bool -> Mu -> Prop):Y.uTest ue μ Q = ue μ fun r μ' => match r with | .tr (.bl b) => Q b μ' | _ => False:=rfl
theorem uNot (ut:UT) (μ:Mu) (Q:Bool -> Mu -> Prop):Y.uNot ut μ Q = ut μ fun b μ' => Q (!b) μ':=rfl
theorem uAnd (u w:UT) (μ:Mu) (Q:Bool -> Mu -> Prop):Y.uAnd u w μ Q = u μ fun b μ' => if b = true then w μ' Q else Q false μ':=rfl
theorem uOr (u w:UT) (μ:Mu) (Q:Bool -> Mu -> Prop):Y.uOr u w μ Q = u μ fun b μ' => if b = true then Q true μ' else w μ' Q:=rfl
theorem uTru (ue:UE) (μ:Mu) (Q:Bool -> Mu -> Prop):Y.uTru ue μ Q = ue μ fun r μ' => match fTru r with | some b => Q b μ' | none => False:=by
 unfold Y.uTru fTru;congr 1
 funext r μ'
 cases r with
 | tr t => cases t <;> rfl
 | br i => rfl
 | fr c => rfl
theorem uNotV (ue:UE) (μ:Mu) (Q:R -> Mu -> Prop):Y.uNotV ue μ Q = ue μ fun r μ' => match r with | .tr (.bl b) => Q (.tr (.bl (!b))) μ' | _ => False:=rfl
theorem uAndV (ua ub:UE) (μ:Mu) (Q:R -> Mu -> Prop):Y.uAndV ua ub μ Q = ua μ fun r μ' => match r with | .tr (.bl true) => ub μ' Q | .tr (.bl false) => Q (.tr (.bl false)) μ' | _ => False:=rfl
theorem uOrV (ua ub:UE) (μ:Mu) (Q:R -> Mu -> Prop):Y.uOrV ua ub μ Q = ua μ fun r μ' => match r with | .tr (.bl false) => ub μ' Q | .tr (.bl true) => Q (.tr (.bl true)) μ' | _ => False:=rfl
theorem uIf (uc:UT) (ua ub:UE) (μ:Mu) (Q:R -> Mu -> Prop):Y.uIf uc ua ub μ Q = uc μ fun b μ' => if b = true then ua μ' Q else ub μ' Q:=rfl
theorem uNeg (ue:UE) (μ:Mu) (Q:R -> Mu -> Prop):Y.uNeg ue μ Q = ue μ fun r μ' => match r with | .tr (.int i) => Q (.tr (.int (-i))) μ' | _ => False:=rfl
theorem uNil (μ:Mu) (Q:List R -> Mu -> Prop):Y.uNil μ Q = Q [] μ:=rfl
theorem uCons (ue:UE) (us:UA) (μ:Mu) (Q:List R -> Mu -> Prop):Y.uCons ue us μ Q = ue μ fun r μ1 => us μ1 fun rs μ2 => Q (r.d :: rs) μ2:=rfl
theorem uK (ts:List T) (μ:Mu) (Q:List R -> Mu -> Prop):Y.uK ts μ Q = Q (ts.map R.tr) μ:=rfl
theorem uTup (us:UA) (μ:Mu) (Q:R -> Mu -> Prop):Y.uTup us μ Q = us μ fun rs μ' => match trees rs with | some ts => ts.length <= sizeLine /\ Q (.tr (.tup ts)) μ' | none => False:=rfl
theorem uLst (us:UA) (μ:Mu) (Q:R -> Mu -> Prop):Y.uLst us μ Q = us μ fun rs μ' => match trees rs with | some ts => ts.length <= sizeLine /\ Q (.fr (.lst ts)) μ' | none => False:=rfl
theorem uCB (u:UC) (us:UA) (μ:Mu) (Q:R -> Mu -> Prop):Y.uCB u us μ Q = us μ fun rs μ' => u rs μ' Q:=rfl
theorem uNoPart (μ:Mu) (Q:Option Int -> Mu -> Prop):Y.uNoPart μ Q = Q none μ:=rfl
theorem uPart (ue:UE) (μ:Mu) (Q:Option Int -> Mu -> Prop):Y.uPart ue μ Q = ue μ fun r μ' => match r with | .tr (.int i) => Q (some i) μ' | _ => False:=rfl
theorem byT (f:T -> T -> Mu -> (R -> Mu -> Prop) -> Prop) (r1 r2:R) (μ:Mu) (Q:R -> Mu -> Prop):Y.byT f r1 r2 μ Q = (match cont μ r1,cont μ r2 with | some t,some u => f t u μ Q | _,_ => False):=rfl
theorem tIntI (C:Int -> Int -> Prop) (g:Int -> Int -> Int) (i j:Int) (μ:Mu) (Q:R -> Mu -> Prop):tInt C g (.int i) (.int j) μ Q = (C i j /\ Q (.tr (.int (g i j))) μ):=rfl
theorem tBlI (g:Int -> Int -> Bool) (i j:Int) (μ:Mu) (Q:R -> Mu -> Prop):tBl g (.int i) (.int j) μ Q = Q (.tr (.bl (g i j))) μ:=rfl
theorem uAdd (r1 r2:R) (μ:Mu) (Q:R -> Mu -> Prop):Y.uAdd r1 r2 μ Q = stp (fAdd (cont μ r1) (cont μ r2)) fun r => Q r μ:=by
 unfold Y.uAdd fAdd
 cases cont μ r1 with
 | none => rfl
 | some t => cases cont μ r2 with
  | none => cases t <;> rfl
  | some u => cases t <;> cases u <;> first | rfl | exact propext ⟨fun h => ⟨trivial,h⟩,fun h => h.2⟩
theorem mulII (i j:Int) (μ:Mu) (Q:R -> Mu -> Prop):Y.uMulG (.tr (.int i)) (.tr (.int j)) μ Q = (CMul i j /\ Q (.tr (.int (i * j))) μ):=rfl
theorem mulLI (xs:List T) (k:Int) (μ:Mu) (Q:R -> Mu -> Prop):Y.uMulG (.tr (.lst xs)) (.tr (.int k)) μ Q = (-(2 ^ 63) <= k /\ k < 2 ^ 63 /\ xs.length * k.toNat <= sizeLine /\ Q (.fr (.lst (List.replicate k.toNat xs).flatten)) μ):=rfl
theorem uIxT (r1 r2:R) (μ:Mu) (Q:R -> Mu -> Prop):Y.uIxT r1 r2 μ Q = stp (fIx (cont μ r1) (cont μ r2)) fun r => Q r μ:=by
 unfold Y.uIxT fIx;have e:∀ (xs:List T) (i:Int),(match atI xs i with | some t => Q (.tr t) μ | none => False) = stp (oT (atI xs i)) fun r => Q r μ:=fun xs i => by
  cases atI xs i with
  | none => rfl
  | some t => exact propext ⟨fun h => ⟨trivial,h⟩,fun h => h.2⟩
 cases cont μ r1 with
 | none => rfl
 | some t => cases cont μ r2 with
  | none => cases t <;> rfl
  | some u =>
   cases t <;> cases u <;> first | rfl | exact e _ _ | skip
   rename_i z i;show (z.length <= sizeLine /\ (match atI z.cps.toList i with | some c => Q (.tr (.str ⟨#[c]⟩)) μ | none => False)) = stp (match atI z.cps.toList i with | some c => some (z.length <= sizeLine,.tr (.str ⟨#[c]⟩)) | none => none) fun r => Q r μ
   cases atI z.cps.toList i with
   | none => exact propext ⟨fun h => h.2,fun h => h.elim⟩
   | some c => rfl
theorem tIsN (neg:Bool) (t:T) (μ:Mu) (Q:R -> Mu -> Prop):Y.tIsN neg t .non μ Q = Q (.tr (.bl (match t with | .non => !neg | _ => neg))) μ:=rfl
theorem tEqI (neg:Bool) (i j:Int) (μ:Mu) (Q:R -> Mu -> Prop):Y.tEq neg (.int i) (.int j) μ Q = Q (.tr (.bl (if neg then !decide (i = j) else decide (i = j)))) μ:=rfl
theorem tEqS (neg:Bool) (i j:Str) (μ:Mu) (Q:R -> Mu -> Prop):Y.tEq neg (.str i) (.str j) μ Q = Q (.tr (.bl (if neg then !decide (i = j) else decide (i = j)))) μ:=rfl
theorem tEqB (neg:Bool) (i j:Bool) (μ:Mu) (Q:R -> Mu -> Prop):Y.tEq neg (.bl i) (.bl j) μ Q = Q (.tr (.bl (if neg then !decide (i = j) else decide (i = j)))) μ:=rfl
theorem tEqL (neg:Bool) (xs ys:List T) (μ:Mu) (Q:R -> Mu -> Prop):Y.tEq neg (.lst xs) (.lst ys) μ Q = (neg = false /\ xs.all flatT = true /\ ys.all flatT = true /\ Q (.tr (.bl (eqFs xs ys))) μ):=rfl
theorem tEqT (neg:Bool) (xs ys:List T) (μ:Mu) (Q:R -> Mu -> Prop):Y.tEq neg (.tup xs) (.tup ys) μ Q = (neg = false /\ xs.all flatT = true /\ ys.all flatT = true /\ Q (.tr (.bl (eqFs xs ys))) μ):=rfl
theorem by1 (f:T -> Mu -> (R -> Mu -> Prop) -> Prop) (r:R) (μ:Mu) (Q:R -> Mu -> Prop):Y.by1 f [r] μ Q = (match cont μ r with | some t => f t μ Q | none => False):=rfl
theorem tLen (t:T) (μ:Mu) (Q:R -> Mu -> Prop):Y.tLen t μ Q = stp (fLen t) fun r => Q r μ:=by
 cases t <;> first | rfl | exact propext ⟨fun h => ⟨trivial,h⟩,fun h => h.2⟩
theorem uTuple (r:R) (μ:Mu) (Q:R -> Mu -> Prop):Y.uTuple [r] μ Q = stp (fTuple (cont μ r)) fun r => Q r μ:=by
 show (match cont μ r with | some (.lst xs) => Q (.tr (.tup xs)) μ | some (.tup xs) => Q (.tr (.tup xs)) μ | _ => False) = _
 unfold fTuple
 cases cont μ r with
 | none => rfl
 | some t => cases t <;> first | rfl | exact propext ⟨fun h => ⟨trivial,h⟩,fun h => h.2⟩
theorem uII (g:Int -> Int -> Int) (i j:Int) (μ:Mu) (Q:R -> Mu -> Prop):Y.uII g [.tr (.int i),.tr (.int j)] μ Q = Q (.tr (.int (g i j))) μ:=rfl
theorem uIntI (i:Int) (μ:Mu) (Q:R -> Mu -> Prop):Y.uIntG [.tr (.int i)] μ Q = Q (.tr (.int i)) μ:=rfl
theorem uIntB (k:Bool) (μ:Mu) (Q:R -> Mu -> Prop):Y.uIntG [.tr (.bl k)] μ Q = Q (.tr (.int (if k = true then 1 else 0))) μ:=rfl
theorem uIsi (ue:UE) (c:String) (μ:Mu) (Q:R -> Mu -> Prop):Y.uIsi ue c μ Q = ue μ fun r μ' => match cont μ' r with | some t => (match isiT t c with | some b => Q (.tr (.bl b)) μ' | none => False) | none => False:=rfl
theorem uAsg (ue:UE) (g:UG) (E:Ed) (μ:Mu):Y.uAsg ue g E μ = ue μ fun r μ' => g r μ' E.nx:=rfl
theorem gNt (i:Nat) (t:T) (μ:Mu) (Q:Mu -> Prop):Y.gN i (.tr t) μ Q = (noP μ i /\ Q (μ.set i (.tr t))):=rfl
theorem gNf (i:Nat) (t:T) (μ:Mu) (Q:Mu -> Prop):Y.gN i (.fr t) μ Q = (noP μ i /\ Q (μ.set i (.bx t))):=rfl
theorem noP (μ:Mu) (i:Nat):Y.noP μ i = nb μ[i]?:=rfl
theorem nb_tr (t:T):nb (some (.tr t)) = True:=rfl
theorem nb_bx (t:T):nb (some (.bx t)) = True:=rfl
theorem nb_un:nb (some .un) = True:=rfl
theorem nb_sl (o:Option T):nb (some (sl o)) = True:=by cases o <;> rfl
theorem gT (n:Nat) (gs:UGs) (r:R) (μ:Mu) (Q:Mu -> Prop):Y.gT n gs r μ Q = (match fSeq (cont μ r.d) with | some ts => ts.length = n /\ gs ts μ Q | none => False):=by
 unfold Y.gT fSeq
 cases cont μ r.d with
 | none => rfl
 | some t => cases t <;> rfl
theorem gsC (g:UG) (gs:UGs) (t:T) (ts:List T) (μ:Mu) (Q:Mu -> Prop):Y.gsC g gs (t :: ts) μ Q = g (.tr t) μ fun μ' => gs ts μ' Q:=rfl
theorem gsN (μ:Mu) (Q:Mu -> Prop):Y.gsN [] μ Q = Q μ:=rfl
theorem gS (uo ui:UE) (t:T) (μ:Mu) (Q:Mu -> Prop):Y.gS uo ui (.tr t) μ Q = uo μ fun ro μ1 => ui μ1 fun ri μ2 => (match ro,ri with
  | .br j,.tr (.int k) => (match (μ2[j]?).bind Sl.box with
   | some (.lst ts) => (match ixN ts.length k with
    | some n => Q (putS μ2 j (.lst (ts.set n t)))
    | none => False)
   | _ => False)
  | _,_ => False):=rfl
theorem uRet (ue:UE) (E:Ed) (μ:Mu):Y.uRet ue E μ = ue μ E.rt:=rfl
theorem uDrop (ue:UE) (E:Ed) (μ:Mu):Y.uDrop ue E μ = ue μ fun _ μ' => E.nx μ':=rfl
theorem uIfS (c:UT) (u w:US) (E:Ed) (μ:Mu):Y.uIfS c u w E μ = c μ fun b μ' => if b = true then u E μ' else w E μ':=rfl
theorem uIt (ue:UE) (μ:Mu) (Rt:List T -> Option (Nat × List T) -> Mu -> Prop):Y.uIt ue μ Rt = ue μ fun r μ' => sti (fIt r μ') fun ts g => Rt ts g μ':=by
 unfold Y.uIt fIt;congr 1
 funext r μ'
 cases r with
 | tr t => cases t <;> rfl
 | br j =>
  show (match cont μ' (.br j) with | some (.lst ts) => Rt ts (some (j,ts)) μ' | _ => False) = sti (match cont μ' (.br j) with | some (.lst ts) => some (ts,some (j,ts)) | _ => none) fun ts g => Rt ts g μ'
  cases cont μ' (.br j) with
  | none => rfl
  | some t => cases t <;> rfl
 | fr c => cases c <;> rfl
theorem iR1 (us:UA) (μ:Mu) (Rt:List T -> Option (Nat × List T) -> Mu -> Prop):Y.iR1 us μ Rt = us μ fun rs μ' => match rs with
 | [.tr (.int j)] => -(2 ^ 62) <= j /\ j < 2 ^ 62 /\ Rt ((List.range j.toNat).map fun k => T.int (0 + (k:Nat))) none μ'
 | _ => False:=rfl
theorem iZ (us:UA) (μ:Mu) (Rt:List T -> Option (Nat × List T) -> Mu -> Prop):Y.iZ us μ Rt = us μ fun rs μ' => match rs with
 | [.tr t1,.tr t2] => (match sqOf t1,sqOf t2 with | some ts,some vs => Rt (zipT ts vs) none μ' | _,_ => False)
 | _ => False:=rfl
theorem uFor (ui:UI) (g:UG) (body:US) (E:Ed) (μ:Mu):Y.uFor ui g body E μ = ui μ fun items gd μ' => match gd with
 | none => uForG g body E items μ'
 | some (j,_) => (match μ'[j]? with
  | some (.bx c) => uForG g body E items (μ'.set j (.tr c))
  | _ => False):=rfl
theorem uComp (own:T -> Mu -> Option Mu) (dr:Mu -> Mu) (ui:UI) (ut:UT) (ue:UE) (μ:Mu) (Q:R -> Mu -> Prop):Y.uComp own dr ui ut ue μ Q = ui μ fun items gd μ' => uCmp gd own dr ut ue Q items [] μ':=rfl
theorem uMe (um:UM) (uo:UE) (us:UA) (μ:Mu) (Q:R -> Mu -> Prop):Y.uMe um uo us μ Q = uo μ fun ro μ1 => match ro with | .br j => Y.isL ((μ1[j]?).bind Sl.box) (us μ1 fun rs μ2 => um j rs μ2 Q) | _ => False:=rfl
theorem isL_l (ts:List T) (p:Prop):Y.isL (some (.lst ts)) p = p:=rfl
theorem uAppend (j:Nat) (t:T) (μ:Mu) (Q:R -> Mu -> Prop):Y.uAppend j [.tr t] μ Q = (match (μ[j]?).bind Sl.box with | some (.lst ts) => ts.length < sizeLine /\ Q (.tr .non) (putS μ j (.lst (ts ++ [t]))) | _ => False):=rfl
theorem uFn (md:List Bool) (tsp:TSp) (us:UA) (μ:Mu) (Q:R -> Mu -> Prop):Y.uFn md tsp us μ Q = us μ fun rs μ1 => match agT μ1 md rs with
 | some args => (bxS md rs).Nodup /\ (∀ j ∈ bxS md rs,j ∉ roS md rs) /\ tsp args fun r outs => (roS md rs = [] \/ (flatR r = true /\ outs.all flatC = true)) /\ Q r (putAll (bxS md rs) outs μ1)
 | none => False:=rfl
theorem sqL (ts:List T):sqOf (.lst ts) = some ts:=rfl
theorem sqT (ts:List T):sqOf (.tup ts) = some ts:=rfl
def itB:Option T -> Nat -> Option (List T × Option (Nat × List T))
 | some (.lst ts),j => some (ts,some (j,ts))
 | _,_ => none
theorem v_tr (t:T) (i:Nat):fVar (some (.tr t)) i = some (True,.tr t):=rfl
theorem v_bx (t:T) (i:Nat):fVar (some (.bx t)) i = some (True,.br i):=rfl
theorem v_pb (t:T) (i:Nat):fVar (some (.pb t)) i = some (True,.br i):=rfl
theorem add_i (i j:Int):fAdd (some (.int i)) (some (.int j)) = some (True,.tr (.int (i + j))):=rfl
theorem add_s (i j:Str):fAdd (some (.str i)) (some (.str j)) = some (i.length + j.length <= sizeLine,.tr (.str (i ++ j))):=rfl
theorem add_l (xs ys:List T):fAdd (some (.lst xs)) (some (.lst ys)) = some (xs.length + ys.length <= sizeLine,.fr (.lst (xs ++ ys))):=rfl
theorem add_t (xs ys:List T):fAdd (some (.tup xs)) (some (.tup ys)) = some (xs.length + ys.length <= sizeLine,.tr (.tup (xs ++ ys))):=rfl
theorem ix_l (xs:List T) (i:Int):fIx (some (.lst xs)) (some (.int i)) = oT (atI xs i):=rfl
theorem ix_t (xs:List T) (i:Int):fIx (some (.tup xs)) (some (.int i)) = oT (atI xs i):=rfl
theorem ix_k (xs:List T) (i:Int):fIx (some (.ktp xs)) (some (.int i)) = oT (atI xs i):=rfl
theorem ix_s (z:Str) (i:Int):fIx (some (.str z)) (some (.int i)) = (match atI z.cps.toList i with | some c => some (z.length <= sizeLine,.tr (.str ⟨#[c]⟩)) | none => none):=rfl
theorem len_l (xs:List T):fLen (.lst xs) = some (True,.tr (.int xs.length)):=rfl
theorem len_t (xs:List T):fLen (.tup xs) = some (True,.tr (.int xs.length)):=rfl
theorem len_r (xs:List T):fLen (.rol xs) = some (True,.tr (.int xs.length)):=rfl
theorem len_k (xs:List T):fLen (.ktp xs) = some (True,.tr (.int xs.length)):=rfl
theorem len_s (z:Str):fLen (.str z) = some (z.length <= sizeLine,.tr (.int z.length)):=rfl
theorem tp_l (xs:List T):fTuple (some (.lst xs)) = some (True,.tr (.tup xs)):=rfl
theorem tp_t (xs:List T):fTuple (some (.tup xs)) = some (True,.tr (.tup xs)):=rfl
theorem ls_l (xs:List T):fList (.lst xs) = some (True,.fr (.lst xs)):=rfl
theorem ls_t (xs:List T):fList (.tup xs) = some (True,.fr (.lst xs)):=rfl
theorem ls_r (xs:List T):fList (.rol xs) = some (True,.fr (.lst xs)):=rfl
theorem ls_g (lo hi:Int):fList (.rng lo hi) = some ((hi - lo).toNat <= 65536 /\ -(2 ^ 62) <= lo /\ lo < 2 ^ 62 /\ -(2 ^ 62) <= hi /\ hi < 2 ^ 62,.fr (.lst ((List.range (hi - lo).toNat).map fun k => T.int (lo + (k:Nat))))):=rfl
theorem sl_l (xs:List T) (lo hi:Option Int):fSl (some (.lst xs)) lo hi = some (True,.fr (.lst (Y.cutG xs lo hi))):=rfl
theorem sl_r (xs:List T) (lo hi:Option Int):fSl (some (.rol xs)) lo hi = some (True,.fr (.lst (Y.cutG xs lo hi))):=rfl
theorem sl_t (xs:List T) (lo hi:Option Int):fSl (some (.tup xs)) lo hi = some (True,.tr (.tup (Y.cutG xs lo hi))):=rfl
theorem sq_t (xs:List T):fSeq (some (.tup xs)) = some xs:=rfl
theorem sq_l (xs:List T):fSeq (some (.lst xs)) = some xs:=rfl
theorem it_tl (ts:List T) (μ:Mu):fIt (.tr (.lst ts)) μ = some (ts,none):=rfl
theorem it_fl (ts:List T) (μ:Mu):fIt (.fr (.lst ts)) μ = some (ts,none):=rfl
theorem it_tt (ts:List T) (μ:Mu):fIt (.tr (.tup ts)) μ = some (ts,none):=rfl
theorem it_tr (ts:List T) (μ:Mu):fIt (.tr (.rol ts)) μ = some (ts,none):=rfl
theorem it_tk (ts:List T) (μ:Mu):fIt (.tr (.ktp ts)) μ = some (ts,none):=rfl
theorem it_br (j:Nat) (μ:Mu):fIt (.br j) μ = itB (cont μ (.br j)) j:=by
 show (match cont μ (.br j) with | some (.lst ts) => some (ts,some (j,ts)) | _ => none) = _
 unfold itB
 cases cont μ (.br j) with
 | none => rfl
 | some t => cases t <;> rfl
theorem itB_l (ts:List T) (j:Nat):itB (some (.lst ts)) j = some (ts,some (j,ts)):=rfl
theorem c_tr (μ:Mu) (t:T):cont μ (.tr t) = some t:=rfl
theorem c_fr (μ:Mu) (t:T):cont μ (.fr t) = some t:=rfl
theorem c_br (μ:Mu) (i:Nat):cont μ (.br i) = (μ[i]?).bind Sl.box:=rfl
theorem d_tr (t:T):R.d (.tr t) = .tr t:=rfl
theorem d_fr (t:T):R.d (.fr t) = .tr t:=rfl
theorem d_br (i:Nat):R.d (.br i) = .br i:=rfl
theorem tr_b (b:Bool):fTru (.tr (.bl b)) = some b:=rfl
theorem tr_i (i:Int):fTru (.tr (.int i)) = some (i != 0):=rfl
end A
theorem for_ind {g:UG} {body:US} {E:Ed} (I:List T -> Mu -> Prop) {items:List T} {μ:Mu} (h0:I items μ) (hn:∀ μ,I [] μ -> E.nx μ)
  (hs:∀ t ts μ (N:Mu -> Prop),I (t :: ts) μ -> (∀ μ',I ts μ' -> N μ') -> g (.tr t) μ fun μ1 => body { E with nx:=N,ct:=N,bk:=E.nx } μ1):Y.uForG g body E items μ:=by
 induction items generalizing μ with
 | nil => exact hn μ h0
 | cons t ts ih => exact hs t ts μ _ h0 fun μ' h => ih h
theorem cmp_ind {gd:Option (Nat × List T)} {own:T -> Mu -> Option Mu} {dr:Mu -> Mu} {ut:UT} {ue:UE} {Q:R -> Mu -> Prop} (I:List T -> List T -> Mu -> Prop) {items acc:List T} {μ:Mu} (h0:I items acc μ) (hn:∀ acc μ,I [] acc μ -> Y.gOk gd μ /\ Q (.fr (.lst acc)) μ)
  (hs:∀ t r acc μ (N:List T -> Mu -> Prop),I (t :: r) acc μ -> (∀ acc' μ',I r acc' μ' -> N acc' μ') -> Y.gOk gd μ /\ acc.length < sizeLine /\ (match own t μ with
   | none => False
   | some μ1 => ut μ1 fun b μ2 => if b = true then ue μ2 fun rr μ3 => (match rr.d with
     | .tr t' => N (acc ++ [t']) (dr μ3)
     | _ => False) else N acc (dr μ2))):Y.uCmp gd own dr ut ue Q items acc μ:=by
 induction items generalizing μ acc with
 | nil => exact hn acc μ h0
 | cons t ts ih => exact hs t ts acc μ (fun a m => Y.uCmp gd own dr ut ue Q ts a m) h0 fun a' μ' h => ih h
def spLaw (K:PySem.W.Frag):Sp:=fun vs H Q _ => ∃ (a:Addr) (ns:List Int),vs = [.ref a] /\ SqL K H a (ns.map V.int) /\ ns.length <= 63 /\ ∀ H',Q (.bl true) H'
theorem reps_ints {K:PySem.W.Frag} {H:Hp} {B:AP'}:∀ ns:List Int,Reps K H B (ns.map V.int) (ns.map T.int)
 | [] => .nil
 | n :: ns => .cons (.int n) (reps_ints ns)
theorem law_of {P:Program} {w:World} {K:PySem.W.Frag} {mg:Str -> Option Value} {base:Heap} {k:Nat} {fa:Addr} {fd:FuncData} {ps:List Str} (h:FnOk P w K mg base CX0 k fa fd ps (spT K [false] tspLaw)):FnOk P w K mg base CX0 k fa fd ps (spLaw K):=by
 refine h.imp fun vs H Q E ⟨a,ns,e,hs,hl,q⟩ => ?_;subst e;refine ⟨fun _ => False,[.rol (ns.map T.int)],fun r outs => r = .tr (.bl true),⟨.rol ?_ (reps_ints ns),trivial⟩,fun b z => z.elim,List.nodup_nil,⟨ns,rfl,hl,rfl⟩,fun v H' r outs hr _ res => ?_⟩
 ·rcases hs with hs | hs
  ·exact .inl ⟨fun z => z,hs⟩
  ·exact .inr hs
 ·subst hr;have rv:=res.1;cases rv;exact q H'
end L2
namespace L2
open PySem PySem.Spec PyProof.Rows
namespace Y
theorem op_neL {X:Cx} (hu:X.A.units < cLine):OpR X (compareOp .NotEq) (rEqL X.K true):=by
 intro pins s σ H x y v u Q I rx ry h;obtain ⟨a,b,xs,ys,rfl,rfl,hq,fx,fy,q⟩:=h
 cases rx;cases ry
 have item:∀ (its its2:List Value),Vals xs its -> Vals ys its2 -> ∀ j (h1:j < its.toArray.size) (h2:j < its2.toArray.size),SeqAt.EqAt X.A.in1 s its.toArray[j] its2.toArray[j] (match xs[j]?,ys[j]? with | some x,some y => eqV x y | _,_ => true):=fun its its2 r1 r2 j h1 h2 => by
  have l1:=r1.length;have l2:=r2.length;rw [List.size_toArray] at h1 h2;obtain ⟨u1,e1,g1⟩:=r1.get (i:=j) (x:=xs[j]) (List.getElem?_eq_getElem (by lia))
  obtain ⟨u2,e2,g2⟩:=r2.get (i:=j) (x:=ys[j]) (List.getElem?_eq_getElem (by lia))
  rw [List.getElem?_eq_getElem (show j < xs.length by lia),List.getElem?_eq_getElem (show j < ys.length by lia)]
  have z1:its.toArray[j] = u1:=by
   rw [List.getElem?_eq_getElem h1] at e1;simpa using e1
  have z2:its2.toArray[j] = u2:=by
   rw [List.getElem?_eq_getElem h2] at e2;simpa using e2
  rw [z1,z2];exact eqAt_V g1 g2 (List.all_eq_true.mp fx _ (List.getElem_mem _)) (List.all_eq_true.mp fy _ (List.getElem_mem _))
 rcases hq with ⟨ha,hb⟩ | ⟨ha,hb⟩
 ·obtain ⟨its,r1,p1,_⟩:=I.list ha;obtain ⟨its2,r2,p2,_⟩:=I.list hb;have l1:=r1.length;have l2:=r2.length;by_cases e:xs.length = ys.length
  ·refine SeqAt.RcNeAt.lists p1.isList p2.isList (by rw [List.size_toArray,List.size_toArray];lia) hu (item its its2 r1 r2) X.prog X.w X.xe _ ⟨.bl _,H,I,rfl,q _ ?_⟩
   rw [List.size_toArray,<- l1,<- e,Nat.min_self,beq_self_eq_true,Bool.true_and]
   try rfl
  ·refine SeqAt.RcNeAt.lists_lengths p1.isList p2.isList (by rw [List.size_toArray,List.size_toArray,bne_iff_ne];lia) hu X.prog X.w X.xe _ ⟨.bl true,H,I,rfl,?_⟩
   exact q false (by rw [beq_eq_false_iff_ne.mpr e,Bool.false_and])
 ·obtain ⟨its,r1,p1,_⟩:=I.tuple ha;obtain ⟨its2,r2,p2,_⟩:=I.tuple hb;have l1:=r1.length;have l2:=r2.length;refine SeqAt.RcNeAt.tuples p1 p2 hu (item its its2 r1 r2) X.prog X.w X.xe _ ⟨.bl _,H,I,rfl,q _ ?_⟩;rw [List.size_toArray,List.size_toArray,<- l1,<- l2,Bool.and_comm]
  try rfl
def rNeG (K:PySem.W.Frag):R2:=fun x y H Q => rNe x y H Q \/ rEqL K true x y H Q
theorem op_neG {X:Cx} (K:PySem.W.Frag) (hK:X.K = K) (hu:X.A.units < cLine):OpR X (compareOp .NotEq) (rNeG K):=by subst hK;exact op_ne.or (op_neL hu)
def tNe:T -> T -> Mu -> (R -> Mu -> Prop) -> Prop:=fun t u μ Q => match t,u with
 | .int i,.int j => Q (.tr (.bl (!decide (i = j)))) μ
 | .str i,.str j => Q (.tr (.bl (!decide (i = j)))) μ
 | .bl i,.bl j => Q (.tr (.bl (!decide (i = j)))) μ
 | .lst xs,.lst ys => xs.all flatT = true /\ ys.all flatT = true /\ Q (.tr (.bl (!eqFs xs ys))) μ
 | .tup xs,.tup ys => xs.all flatT = true /\ ys.all flatT = true /\ Q (.tr (.bl (!eqFs xs ys))) μ
 | _,_ => False
theorem ro_neG {K:PySem.W.Frag}:ROp K (rNeG K) (byT tNe):=byT_of fun F ad B σ H μ Q Qt x y t u hK l v1 v2 q k => by
 subst hK;unfold tNe at q
 split at q
 ·cases v1;cases v2
  refine .inl ⟨rfl,?_⟩;rw [dV (f:=V.int) (fun a b h => by injection h)]
  exact k _ H _ (Vr.flat l (.bl _)) Fr.refl q
 ·cases v1;cases v2
  refine .inl ⟨rfl,?_⟩;rw [dV (f:=V.str) (fun a b h => by injection h)]
  exact k _ H _ (Vr.flat l (.bl _)) Fr.refl q
 ·cases v1;cases v2
  refine .inl ⟨rfl,?_⟩;rw [dV (f:=V.bl) (fun a b h => by injection h)]
  exact k _ H _ (Vr.flat l (.bl _)) Fr.refl q
 ·cases v1 with
  | lst ha ra => cases v2 with
   | lst hb rb => exact .inr ⟨_,_,_,_,rfl,rfl,.inl ⟨SqL.of ha,SqL.of hb⟩,reps_flat ra q.1,reps_flat rb q.2.1,fun c hc => by
     rw [<- eqFs_V ra rb q.1 q.2.1] at hc;subst hc;exact k _ H _ (Vr.flat l (.bl _)) Fr.refl q.2.2⟩
 ·cases v1 with
  | tup ha ra => cases v2 with
   | tup hb rb => exact .inr ⟨_,_,_,_,rfl,rfl,.inr ⟨SqT.of ha,SqT.of hb⟩,reps_flat ra q.1,reps_flat rb q.2.1,fun c hc => by
     rw [<- eqFs_V ra rb q.1 q.2.1] at hc;subst hc;exact k _ H _ (Vr.flat l (.bl _)) Fr.refl q.2.2⟩
 ·exact q.elim
theorem noFill_tup_mul:fillsNumberSlot (.type "tuple") "mul" = pure false :=
 PySem.fillsNumberSlot_seq (id:="tuple.__mul__") (r:=some (.builtin "tuple.__rmul__")) PySem.F.slot_tuple_mul.lookup (by decide +kernel) PySem.F.slot_tuple_rmul.lookup (by decide +kernel)
theorem repeat_tup:seqRepeat? (.type "tuple") = pure (some (.builtin "tuple.__mul__")):=by
 unfold seqRepeat?;rw [PySem.seqSlot_of (T:="tuple") (name:="__mul__") (id:="tuple.__mul__") PySem.F.slot_tuple_mul.lookup (by decide +kernel),PySem.seqSlot_of (T:="tuple") (name:="__rmul__") (id:="tuple.__rmul__") PySem.F.slot_tuple_rmul.lookup (by decide +kernel)];rfl
theorem rmul_tup (a:Int) (t:Tok) (l:Addr) (ob:Obj) (items:Array Value) (n:Nat) (hc:ob.cls = .type "tuple") (hd:ob.data = .seq items n) :
  Meets (Builtin.«int.__rmul__» ⟨[.int a t,.ref l],[]⟩) (fun _ R s => s.heap.get? l = some ob /\ R (.ok (.ret Value.notImplemented)) s) :=
 .of_wp fun prog w A R s h => by
  obtain ⟨hp,g,d,tk,os⟩:=s;obtain ⟨hl,h⟩:=h;obtain ⟨c,dd,da,sl⟩:=ob;simp only at hc hd;subst hc hd
  wp_walk
  exact ⟨_,rfl,h⟩
theorem mul_tup (l:Addr) (items:Array Value) (ob:Obj) (n:Nat) (k:Int) (t:Tok) (hc:ob.cls = .type "tuple") (hd:ob.data = .seq items n) (hne:items.isEmpty = false) (h1:1 < k) (h2:k <= 1000) (hsz:items.size <= 1000) :
  Meets (Builtin.«tuple.__mul__» ⟨[.ref l,.int k t],[]⟩) (fun _ R s => s.heap.get? l = some ob /\ R (.ok (.ret (.ref s.heap.objs.size))) { s with heap:=s.heap.push { cls:=.type "tuple",data:=.seq ((List.replicate k.toNat items).foldl (· ++ ·) #[]) } }) :=
 .of_wp fun prog w A R s h => by
  obtain ⟨hp,g,d,tk,os⟩:=s;obtain ⟨hl,h⟩:=h;obtain ⟨c,dd,da,sl⟩:=ob;simp only at hc hd;subst hc hd;have e1:(decide (k < -(2 ^ 63)) || decide (k >= 2 ^ 63)) = false:=by rw [decide_eq_false (by lia),decide_eq_false (by lia)];rfl
  have e2:(items.isEmpty || k == 1) = false:=by rw [hne,beq_eq_false_iff_ne.mpr (by lia)];rfl
  have e3:(decide (k <= 0) || items.isEmpty) = false:=by rw [hne,decide_eq_false (by lia)];rfl
  wp_walk using AutoSeq1.wpAny_loadPart' hl;rw [if_neg (by rw [e1];exact Bool.false_ne_true)]
  have ht:IsTup (Shared.heap ⟨hp,g,d,tk,os⟩) l items:=⟨_,hl,rfl,n,rfl⟩;show wpAny _ _ (Builtin.Tuple.tupleItemsOf (.ref l) >>= _) _ _ _;refine wpAny_bind (tupleItemsOf_ ht ?_);rw [if_neg (by rw [e2];exact Bool.false_ne_true)]
  show wpAny _ _ (if (decide (k <= 0) || items.isEmpty) = true then _ else _) _ _ _
  rw [if_neg (by rw [e3];exact Bool.false_ne_true)]
  have hm:(items.size:Int) * k <= 1000 * 1000:=Int.mul_le_mul (by lia) h2 (by lia) (by lia)
  show wpAny _ _ (if (items.size:Int) * k > (2 ^ 63 - 1) / 8 then _ else _) _ _ _
  rw [if_neg (by lia)]
  show wpAny _ _ (if Builtin.Tuple.tupleTooMany ((items.size:Int) * k) = true then _ else _) _ _ _
  have e4:Builtin.Tuple.tupleTooMany ((items.size:Int) * k) = false:=decide_eq_false (by
   have:((sizeLine:Nat):Int) >= 1000000:=by decide
   lia)
  rw [if_neg (by rw [e4];exact Bool.false_ne_true)]
  have hl2:((List.replicate k.toNat items).foldl (· ++ ·) #[]).size <= sizeLine:=by
   have fs:∀ (m:Nat) (acc:Array Value),((List.replicate m items).foldl (· ++ ·) acc).size = acc.size + m * items.size:=fun m => by
    induction m with
    | zero => intro acc;simp
    | succ m ih => intro acc;rw [List.replicate_succ,List.foldl_cons,ih,Array.size_append,Nat.succ_mul];lia
   rw [fs];have h3:k.toNat * items.size <= 1000 * 1000:=Nat.mul_le_mul (by lia) hsz
   have h4:(1000000:Nat) <= sizeLine:=by decide
   simp;lia
  exact wpAny_bind (m:=Builtin.Tuple.tupleExact _) (wpAny_newObj_type (wpAny_pure ⟨_,rfl,h⟩) hl2)
theorem foldl_arr (its:List Value):∀ (m:Nat) (acc:List Value),(List.replicate m its.toArray).foldl (· ++ ·) acc.toArray = (acc ++ (List.replicate m its).flatten).toArray:=fun m acc => foldl_rep its m acc
def rRepT (K:PySem.W.Frag):R2:=fun x y H Q => ∃ a k xs,x = .ref a /\ y = .int k /\ SqT K H a xs /\ xs ≠ [] /\ xs.length <= 1000 /\ 1 < k /\ k <= 1000 /\ ∀ p,H p = none -> Q (.ref p) (upd H p (.tup (List.replicate k.toNat xs).flatten))
theorem op_repT {X:Cx}:OpR X (binaryOp .Mult) (rRepT X.K):=by
 intro pins s σ H x y v u Q I rx ry h;obtain ⟨a,k,xs,rfl,rfl,hx,hne,hsz,h1,h2,q⟩:=h;cases rx;obtain ⟨t,rfl⟩:=ry;obtain ⟨its,r,p,hz⟩:=I.tuple hx;obtain ⟨ob,ho,hc,n,hd⟩:=id p;have hlen:=r.length;have hemp:its.toArray.isEmpty = false:=by
  cases its with
  | nil => cases r;exact absurd rfl hne
  | cons a b => rfl
 refine wpAny_binaryOp_repeat_ref (T:="tuple") (U:="int") (by decide) ⟨_,ho,hc⟩ (fun s' => typeIs_int s' k t) noFill_tup_mul PySem.F.fills_int_mul PySem.F.slot_int_rmul repeat_tup PySem.F.slot_int_index.lookup
  (call_meets PySem.F.slot_int_rmul (typeIs_int s k t) PySem.F.entry_int_rmul (PySem.F.args_int_rmul_2 _ _) (rmul_tup k t a ob its.toArray n hc hd)
   ⟨ho,rfl,⟨_,ho,hc⟩,call_meets PySem.F.slot_tuple_mul ⟨_,ho,hc⟩ PySem.F.entry_tuple_mul (PySem.F.args_tuple_mul_2 _ _) (mul_tup a its.toArray ob n k t hc hd hemp h1 h2 (by rw [List.size_toArray];lia)) ⟨ho,?_⟩⟩)
 have e0:=foldl_arr its k.toNat [];rw [List.nil_append] at e0;have e0':(List.replicate k.toNat its.toArray).foldl (· ++ ·) #[] = (List.replicate k.toNat its).flatten.toArray:=e0;rw [e0'];refine ⟨.ref s.heap.objs.size,_,I.laid (t':=s.toks) (o:=.tup (List.replicate k.toNat xs).flatten) (fun b ob q => Heap.get?_push_of_some _ q) (Nat.le_refl _) ?_,rfl,q _ (I.hok.fresh (Nat.le_refl _))⟩;refine ⟨?_,_,r.rep k.toNat,IsTupD.new _ _⟩;rw [len_rep];have h3:k.toNat * xs.length <= 1000 * 1000:=Nat.mul_le_mul (by lia) hsz
 exact Nat.le_trans h3 (by decide)
def rMulG (K:PySem.W.Frag):R2:=fun x y H Q => uMul x y H Q \/ rRepT K x y H Q
theorem op_mulG {X:Cx} (K:PySem.W.Frag) (hK:X.K = K):OpR X (binaryOp .Mult) (rMulG K):=by subst hK;exact uop_mul.or op_repT
def uMulT:U2:=fun r1 r2 μ Q => match cont μ r1,cont μ r2 with
 | some (.int i),some (.int j) => CMul i j /\ Q (.tr (.int (i * j))) μ
 | some (.lst xs),some (.int k) => -(2 ^ 63) <= k /\ k < 2 ^ 63 /\ xs.length * k.toNat <= sizeLine /\ Q (.fr (.lst (List.replicate k.toNat xs).flatten)) μ
 | some (.tup xs),some (.int k) => (xs ≠ [] /\ xs.length <= 1000 /\ 1 < k /\ k <= 1000) /\ Q (.tr (.tup (List.replicate k.toNat xs).flatten)) μ
 | _,_ => False
theorem ro_mulT {K:PySem.W.Frag}:ROp K (rMulG K) uMulT:=by
 intro F ad B σ H μ Q Qt x y r1 r2 hK l h1 h2 q k;unfold uMulT at q
 split at q
 ·rename_i i j e1 e2;exact .inl (ro_mul F ad B σ H μ Q Qt x y r1 r2 hK l h1 h2 (by unfold uMulG;rw [e1,e2];exact q) k)
 ·rename_i xs j e1 e2;exact .inl (ro_mul F ad B σ H μ Q Qt x y r1 r2 hK l h1 h2 (by unfold uMulG;rw [e1,e2];exact q) k)
 ·rename_i xs j e1 e2;have a:=h1.vw l e1;have b:=h2.vw l e2;subst hK;cases b
  cases a with
  | tup ha ra =>
   refine .inr ⟨_,_,_,rfl,rfl,SqT.of ha,?_,by rw [ra.length];exact q.1.2.1,q.1.2.2.1,q.1.2.2.2,fun p hp => k _ _ _ μ (Vr.newT l (ra.rep _) hp) (Fr.same (Same.new hp)) (Kp.refl μ) q.2⟩
   rintro rfl;cases ra;exact q.1.1 rfl
 ·exact q.elim
end Y
namespace A
theorem mulTII (i j:Int) (μ:Mu) (Q:R -> Mu -> Prop):Y.uMulT (.tr (.int i)) (.tr (.int j)) μ Q = (CMul i j /\ Q (.tr (.int (i * j))) μ):=rfl
theorem mulTLI (xs:List T) (k:Int) (μ:Mu) (Q:R -> Mu -> Prop):Y.uMulT (.tr (.lst xs)) (.tr (.int k)) μ Q = (-(2 ^ 63) <= k /\ k < 2 ^ 63 /\ xs.length * k.toNat <= sizeLine /\ Q (.fr (.lst (List.replicate k.toNat xs).flatten)) μ):=rfl
theorem mulTTI (xs:List T) (k:Int) (μ:Mu) (Q:R -> Mu -> Prop):Y.uMulT (.tr (.tup xs)) (.tr (.int k)) μ Q = ((xs ≠ [] /\ xs.length <= 1000 /\ 1 < k /\ k <= 1000) /\ Q (.tr (.tup (List.replicate k.toNat xs).flatten)) μ):=rfl
theorem tNeI (i j:Int) (μ:Mu) (Q:R -> Mu -> Prop):Y.tNe (.int i) (.int j) μ Q = Q (.tr (.bl (!decide (i = j)))) μ:=rfl
theorem tNeS (i j:Str) (μ:Mu) (Q:R -> Mu -> Prop):Y.tNe (.str i) (.str j) μ Q = Q (.tr (.bl (!decide (i = j)))) μ:=rfl
theorem tNeB (i j:Bool) (μ:Mu) (Q:R -> Mu -> Prop):Y.tNe (.bl i) (.bl j) μ Q = Q (.tr (.bl (!decide (i = j)))) μ:=rfl
theorem tNeL (xs ys:List T) (μ:Mu) (Q:R -> Mu -> Prop):Y.tNe (.lst xs) (.lst ys) μ Q = (xs.all flatT = true /\ ys.all flatT = true /\ Q (.tr (.bl (!Y.eqFs xs ys))) μ):=rfl
theorem tNeT (xs ys:List T) (μ:Mu) (Q:R -> Mu -> Prop):Y.tNe (.tup xs) (.tup ys) μ Q = (xs.all flatT = true /\ ys.all flatT = true /\ Q (.tr (.bl (!Y.eqFs xs ys))) μ):=rfl
end A
section
variable {prog:Program} {w:World} {A:Around} {E:Value -> Shared -> Prop} {s:Shared}
end
section
variable {X:Cx} {e:Expr} {te:TE}
end
def fRev (o:Option T):Option (Prop × R):=match o with
 | some (.lst xs) => some (True,.fr (.lst xs.reverse))
 | some (.tup xs) => some (True,.tr (.tup xs.reverse))
 | _ => none
namespace Y
end Y
namespace A
theorem rev_l (xs:List T):fRev (some (.lst xs)) = some (True,.fr (.lst xs.reverse)):=rfl
theorem rev_t (xs:List T):fRev (some (.tup xs)) = some (True,.tr (.tup xs.reverse)):=rfl
end A
end L2
namespace L2
open PySem PySem.Spec PyProof PyProof.Rows
namespace Y
section
variable {prog:Program} {w:World} {A:Around} {E:Value -> Shared -> Prop} {s:Shared}
end
theorem ints_reps {K:PySem.W.Frag} {H:Hp} {B:AP'}:∀ {ns:List Int} {vs:List V},Reps K H B vs (ns.map T.int) -> vs = ns.map V.int
 | [],_,.nil => rfl
 | n :: ns,_,.cons h r => by cases h;rw [ints_reps r];rfl
def rSum (K:PySem.W.Frag):List V -> Hp -> VK -> Prop:=fun xs H Q => ∃ (p:Addr) (ns:List Int),xs = [.ref p] /\ SqL K H p (ns.map V.int) /\ Q (.int ns.sum) H
theorem call_sumG {X:Cx} (K:PySem.W.Frag) (hK:X.K = K) (hc:X.calm = true):CallR X (.builtin "sum") (rSum K):=by subst hK;exact ucall_sum hc
def tSum:T -> Mu -> (R -> Mu -> Prop) -> Prop:=fun t μ Q => match t with
 | .lst xs => ∃ ns:List Int,xs = ns.map T.int /\ Q (.tr (.int ns.sum)) μ
 | _ => False
theorem rc_sum {K:PySem.W.Frag}:RC K (rSum K) (by1 tSum):=by1_of fun F ad B σ H μ Q Qt x t hK l v1 q k => by
 subst hK;unfold tSum at q
 split at q
 ·obtain ⟨ns,rfl,q⟩:=q
  cases v1 with
  | lst ha ra => exact ⟨_,ns,rfl,by rw [<- ints_reps ra];exact SqL.of ha,k _ _ _ (Vr.flat l (.int _)) Fr.refl q⟩
 ·exact q.elim
def CDivG (i j:Int):Prop:=0 < j /\ j < 4611686018427387904
theorem op_fdivG {X:Cx}:OpR X (binaryOp .FloorDiv) (rI CDivG fun i j => .int (i / j)):=opI fun i j _ _ _ _ _ hc q => by
 have h1:(0:Int) < j:=hc.1;have h2:j < 4611686018427387904:=hc.2;exact floordiv_int (by lia) (by rw [Int.fdiv_eq_ediv_of_nonneg i (by lia)];exact q) (.inl (PyProof.noPylong_of_log2 (Nat.lt_trans ((Nat.log2_lt (k:=62) (by lia)).mpr (by lia)) (by decide))))
end Y
namespace A
theorem tSumL (xs:List T) (μ:Mu) (Q:R -> Mu -> Prop):Y.tSum (.lst xs) μ Q = (∃ ns:List Int,xs = ns.map T.int /\ Q (.tr (.int ns.sum)) μ):=rfl
end A
namespace Y
section
variable {prog:Program} {w:World} {A:Around} {E:Value -> Shared -> Prop} {s:Shared}
end
theorem reps_strs {K:PySem.W.Frag} {H:Hp} {B:AP'}:∀ ns:List Str,Reps K H B (ns.map V.str) (ns.map T.str)
 | [] => .nil
 | n :: ns => .cons (.str _) (reps_strs ns)
theorem strs_reps {K:PySem.W.Frag} {H:Hp} {B:AP'}:∀ {ns:List Str} {vs:List V},Reps K H B vs (ns.map T.str) -> vs = ns.map V.str
 | [],_,.nil => rfl
 | n :: ns,_,.cons h r => by cases h;rw [strs_reps r];rfl
theorem bools_reps {K:PySem.W.Frag} {H:Hp} {B:AP'}:∀ {bs:List Bool} {vs:List V},Reps K H B vs (bs.map T.bl) -> vs = bs.map V.bl
 | [],_,.nil => rfl
 | n :: ns,_,.cons h r => by cases h;rw [bools_reps r];rfl
noncomputable abbrev UMs:=Str -> List R -> Mu -> (R -> Mu -> Prop) -> Prop
def uSm (um:UMs) (uo:UE) (us:UA):UE:=fun μ Q => uo μ fun ro μ1 => match ro with
 | .tr (.str z) => us μ1 fun rs μ2 => um z rs μ2 Q
 | _ => False
def RMs (K:PySem.W.Frag) (r:V -> List V -> Hp -> VK -> Prop) (um:UMs):Prop:=∀ (F:Fx) (ad:Nat -> Addr) (B:AP') (σ:St) (H:Hp) (μ:Mu) (Q:VK) (Qt:R -> Mu -> Prop) (z:Str) (xs:List V) (rs:List R),F.K = K -> Rl F ad B σ H μ -> Paired (Hv F ad B H μ) xs rs -> um z rs μ Qt ->
 (∀ v H' r μ',Vr F ad B σ H' μ' v r -> Fr B H (Bv B v r) H' -> Kp μ μ' -> Qt r μ' -> Q v H') -> r (.str z) xs H Q
theorem sm {X:Cx} {o e:Expr} {es:List Expr} {uo:UE} {us:UA} {apos pos:Pos} (K:PySem.W.Frag) (hK:X.K = K) {name:Str} {id:String} {r:V -> List V -> Hp -> VK -> Prop} {um:UMs} (slot:Slot "str" name id) (hty:typeOf (.builtin id) = pure (.type "method_descriptor")) (hm:MtR X id r) (hr:RMs X.K r um) (ho:YE X o uo) (ha:YA X (e :: es) us)
  (hbase:autoParam (attributeBase o name X.env (eval o X.env) = eval o X.env) L2.aRfl._auto_1) (hline:autoParam ((apos.endLine == pos.line) = true) L2.aRfl._auto_1) (h:autoParam ((e :: es).all nst = true) L2.aRfl._auto_1) (hl:autoParam ((e :: es).length < 30) L2.aDec._auto_1):YE X (.Call (.Attribute o name apos) (e :: es) [] pos) (uSm um uo us):=by
 obtain ⟨t,q,rr⟩:=ho;obtain ⟨t',q',r'⟩:=ha;refine ⟨_,Z.bm K hK PySem.F.plainAttrs_str slot hty hm q q' hbase hline h hl,fun F ad B σ H μ Q Qt hF l q k => rr F ad B σ H μ _ _ hF l q fun v H1 r1 μ1 v1 f1 k1 q1 => ?_⟩
 split at q1
 ·rename_i z;obtain ⟨l1,rp⟩:=v1;cases rp;refine ⟨rfl,?_⟩;refine r' F ad B σ H1 μ1 _ _ hF l1 q1 fun xs H2 rs μ2 l2 ps f2 k2 q2 => ?_;exact hr F ad B σ H2 μ2 _ _ z xs rs hF l2 ps q2 fun v H3 r3 μ3 v3 f3 k3 q3 => k v H3 r3 μ3 v3 ((f1.d.trans f2).trans f3) ((k1.trans k2).trans k3) q3
 ·exact q1.elim
def rStarts:V -> List V -> Hp -> VK -> Prop:=fun x vs H Q => ∃ z y,x = .str z /\ vs = [.str y] /\ Q (.bl (Txt.startswith z y)) H
theorem mt_starts {X:Cx}:MtR X "str.startswith" rStarts:=by
 intro pins s σ H x xs v us Q I rx rs h;obtain ⟨z,y,rfl,rfl,q⟩:=h;obtain ⟨t,rfl⟩:=rx;obtain ⟨u,rfl,k,rfl⟩:=vals1 rs;exact SC.startswith ⟨.bl _,H,I,rfl,q⟩
def uStarts:UMs:=fun z rs μ Q => match rs with
 | [.tr (.str y)] => Q (.tr (.bl (Txt.startswith z y))) μ
 | _ => False
theorem rm_starts {K:PySem.W.Frag}:RMs K rStarts uStarts:=by
 intro F ad B σ H μ Q Qt z xs rs hF l ps q k;unfold uStarts at q
 split at q
 ·cases ps with
  | cons h ps =>
   cases ps
   cases rep_of h
   exact ⟨z,_,rfl,rfl,k _ H _ μ (Vr.flat l (.bl _)) Fr.refl (Kp.refl μ) q⟩
 ·exact q.elim
end Y
namespace A
end A
namespace Y
theorem picks' (l:List Nat):∀ (n a:Nat),((List.range n).map (fun k => a + k)).filterMap (l[·]?) = (l.drop a).take n
 | 0,_ => by simp
 | n + 1,a => by
  rw [List.range_succ,List.map_append,List.filterMap_append,picks' l n a,List.take_add_one,List.getElem?_drop]
  cases h:l[a + n]? <;> simp [h]
theorem slice_ix (lo hi:Option Int) (n:Nat):Builtin.Str.strSliceIndices lo hi 1 n = (List.range (HT.sIx n n hi - HT.sIx n 0 lo)).map (fun k => HT.sIx n 0 lo + k):=by
 have ea:∀ (v:Int),max 0 (min (if v < 0 then v + (n:Int) else v) (n:Int)) = (((if v < 0 then (v + (n:Int)).toNat else min v.toNat n):Nat):Int):=by
  intro v;split <;> lia
 have e:Builtin.Str.strSliceIndices lo hi 1 n = sliceRange (HT.sIx n 0 lo) (HT.sIx n n hi) 1:=by
  cases lo with
  | none => cases hi with
   | none => rfl
   | some j => show sliceRange 0 (max 0 (min (if j < 0 then j + (n:Int) else j) (n:Int))) 1 = _;rw [ea];rfl
  | some i => cases hi with
   | none => show sliceRange (max 0 (min (if i < 0 then i + (n:Int) else i) (n:Int))) n 1 = _;rw [ea];rfl
   | some j => show sliceRange (max 0 (min (if i < 0 then i + (n:Int) else i) (n:Int))) (max 0 (min (if j < 0 then j + (n:Int) else j) (n:Int))) 1 = _;rw [ea,ea];rfl
 rw [e];generalize HT.sIx n 0 lo = a;generalize HT.sIx n n hi = b;unfold sliceRange;simp only [show ((1:Int) > 0) = True from by simp,if_true,Int.one_mul]
 have c:(if (a:Int) < (b:Int) then ((b:Int) - a + 1 - 1) / 1 else 0).toNat = b - a:=by split <;> lia
 rw [c];refine List.map_congr_left fun k _ => ?_;lia
theorem slice_cut0 (z:Str) (lo hi:Option Int):Txt.slice z lo hi = ⟨((z.cps.toList.drop (HT.sIx z.cps.toList.length 0 lo)).take (HT.sIx z.cps.toList.length z.cps.toList.length hi - HT.sIx z.cps.toList.length 0 lo)).toArray⟩:=by
 have hl:z.cps.toList.length = z.length:=Array.length_toList;rw [hl];have hp:(Builtin.Str.strSliceIndices lo hi 1 z.length).filterMap (z.cps[·]?) = (z.cps.toList.drop (HT.sIx z.length 0 lo)).take (HT.sIx z.length z.length hi - HT.sIx z.length 0 lo):=by
  rw [slice_ix];have:=picks' z.cps.toList (HT.sIx z.length z.length hi - HT.sIx z.length 0 lo) (HT.sIx z.length 0 lo)
  simpa using this
 unfold Txt.slice;split
 ·rename_i h;rw [slice_ix] at h;simp at h;have h2:=HT.sIx_le z.length z.length (Nat.le_refl _) hi;have h3:=HT.sIx_le z.length 0 (Nat.zero_le _) lo;have a0:HT.sIx z.length 0 lo = 0:=by lia
  have b0:HT.sIx z.length z.length hi = z.length:=by lia
  rw [a0,b0,List.drop_zero,Nat.sub_zero,<- hl,List.take_length]
 ·rw [hp]
def cutS (z:Str) (lo hi:Option Int):Str:=⟨(cutG z.cps.toList lo hi).toArray⟩
theorem slice_cut (z:Str) (lo hi:Option Int):Txt.slice z lo hi = cutS z lo hi:=slice_cut0 z lo hi
def rSlS:V -> Option Int -> Option Int -> Hp -> VK -> Prop:=fun x lo hi H Q => ∃ z,x = .str z /\ z.length <= sizeLine /\ Q (.str (cutS z lo hi)) H
theorem sl_str {X:Cx}:SlR X rSlS:=by
 intro pins s σ H x v vl vu lo hi sl Q I rx hs pl pu h;obtain ⟨z,rfl,hz,q⟩:=h;rw [<- slice_cut] at q;obtain ⟨t,rfl⟩:=rx;refine ⟨"str",_,PySem.F.slot_str_getitem.lookup,typeIs_str _ _ _,?_⟩
 cases pl <;> cases pu
 ·exact wpAny_getItem_str_slice (l:=none) (u:=none) (st:=none) hs rfl (post_val_or_str ⟨Nat.le_trans (Txt.slice_le z _ _) hz,fun t' k => ⟨.str _,H,I.tok _,⟨_,rfl⟩,q⟩⟩)
 ·exact wpAny_getItem_str_slice (l:=none) (u:=some (_,_)) (st:=none) hs rfl (post_val_or_str ⟨Nat.le_trans (Txt.slice_le z _ _) hz,fun t' k => ⟨.str _,H,I.tok _,⟨_,rfl⟩,q⟩⟩)
 ·exact wpAny_getItem_str_slice (l:=some (_,_)) (u:=none) (st:=none) hs rfl (post_val_or_str ⟨Nat.le_trans (Txt.slice_le z _ _) hz,fun t' k => ⟨.str _,H,I.tok _,⟨_,rfl⟩,q⟩⟩)
 ·exact wpAny_getItem_str_slice (l:=some (_,_)) (u:=some (_,_)) (st:=none) hs rfl (post_val_or_str ⟨Nat.le_trans (Txt.slice_le z _ _) hz,fun t' k => ⟨.str _,H,I.tok _,⟨_,rfl⟩,q⟩⟩)
def rSlX (K:PySem.W.Frag):V -> Option Int -> Option Int -> Hp -> VK -> Prop:=fun x lo hi H Q => rSlG K x lo hi H Q \/ rSlS x lo hi H Q
theorem sl_X {X:Cx} (K:PySem.W.Frag) (hK:X.K = K):SlR X (rSlX K):=(sl_G K hK).or sl_str
def fSlX (a:Option T) (lo hi:Option Int):Option (Prop × R):=match a with
 | some (.lst xs) => some (True,.fr (.lst (cutG xs lo hi)))
 | some (.rol xs) => some (True,.fr (.lst (cutG xs lo hi)))
 | some (.tup xs) => some (True,.tr (.tup (cutG xs lo hi)))
 | some (.str z) => some (z.length <= sizeLine,.tr (.str (cutS z lo hi)))
 | _ => none
def uSlX (ue:UE) (ul uh:UO):UE:=fun μ Q => ue μ fun r μ1 => ul μ1 fun lo μ2 => uh μ2 fun hi μ3 => stp (fSlX (cont μ3 r.d) lo hi) fun r => Q r μ3
theorem sliceX {X:Cx} {e:Expr} {ue:UE} {p2 pos:Pos} {lo hi:Option Expr} {ul uh:UO} (K:PySem.W.Frag) (hK:X.K = K) (he:YE X e ue) (hl:YO X lo ul) (hu:YO X hi uh):YE X (.Subscript e (.Slice lo hi none p2) pos) (uSlX ue ul uh):=by
 obtain ⟨t,q,r⟩:=he;obtain ⟨tl,ql,rl⟩:=hl;obtain ⟨th,qh,rh⟩:=hu;refine ⟨_,Z.slice (sl_X K hK) q ql qh,fun F ad B σ H μ Q Qt hF l q k => r F ad B σ H μ _ _ hF l q fun v H1 r1 μ1 v1 f1 k1 q1 => rl F ad B σ H1 μ1 _ _ hF v1.rl q1 fun i H2 μ2 l2 f2 k2 q2 => rh F ad B σ H2 μ2 _ _ hF l2 q2 fun j H3 μ3 l3 f3 k3 q3 => ?_⟩;have hF':F.K = K:=hF.trans hK;clear hF;subst hF';have hv:=v1.hv.fr (f2.trans f3) (k2.trans k3);have ff:=(f1.d.trans f2).trans f3;have kk:=(k1.trans k2).trans k3;generalize eo:cont μ3 r1.d = o at q3;unfold fSlX stp at q3
 cases o with
 | none => exact q3.elim
 | some o => cases o with
  | lst xs =>
   have w:=hv.vw l3 eo
   cases w with
   | lst ha ra => exact .inl (.inl ⟨_,_,rfl,SqL.of ha,fun p hp => k _ _ _ μ3 (Vr.newL l3 (Reps.cut ra i j) hp) (ff.trans (Fr.more hp)) kk q3.2⟩)
  | rol xs =>
   have w:=hv.vw l3 eo
   cases w with
   | rol ha ra => exact .inl (.inl ⟨_,_,rfl,ha,fun p hp => k _ _ _ μ3 (Vr.newL l3 (Reps.cut ra i j) hp) (ff.trans (Fr.more hp)) kk q3.2⟩)
  | tup xs =>
   have w:=Hv.tupR l3 hv eo;have w':=w
   cases w with
   | tup na ha ra =>
    by_cases z:HT.sIx xs.length 0 i = 0 /\ HT.sIx xs.length xs.length j = xs.length
    ·have e0:cutG xs i j = xs:=by unfold cutG;rw [z.1,z.2,Nat.sub_zero,List.drop_zero,List.take_length]
     have q4:=q3.2;rw [e0] at q4;exact .inl (.inr (.inr ⟨_,_,rfl,SqT.of ha,by rw [ra.length];exact z.1,by rw [ra.length];exact z.2,k _ H3 _ μ3 (Vr.flat l3 w') ff kk q4⟩))
    ·exact .inl (.inr (.inl ⟨_,_,rfl,SqT.of ha,by rw [ra.length];exact z,fun p hp => k _ _ _ μ3 (Vr.newT l3 (Reps.cut ra i j) hp) (ff.trans (Fr.same (Same.new hp))) kk q3.2⟩))
  | str z =>
   have w:=hv.vw l3 eo;cases w;exact .inr ⟨z,rfl,q3.1,k _ H3 _ μ3 (Vr.flat l3 (.str _)) ff kk q3.2⟩
  | non => exact q3.elim
  | bl b => exact q3.elim
  | int n => exact q3.elim
  | rng a b => exact q3.elim
  | dic a b => exact q3.elim
  | exc a b => exact q3.elim
  | ktp xs => exact q3.elim
def uPopAt:UM:=fun j rs μ Q => match rs with
 | [.tr (.int i)] => (match (μ[j]?).bind Sl.box with
  | some (.lst ts) => -(2 ^ 63) <= i /\ i < 2 ^ 63 /\ ∃ k t,seqIndex? i ts.length = some k /\ ts[k]? = some t /\ Q (.tr t) (putS μ j (.lst (ts.eraseIdx k)))
  | _ => False)
 | _ => False
theorem rm_popAt {K:PySem.W.Frag}:RM K rPopAt uPopAt:=by
 intro F ad B σ H μ Q Qt j s c xs rs hF l e b ps q k;unfold uPopAt at q
 split at q
 ·rename_i i
  cases ps with
  | cons h ps =>
   cases ps;rw [e] at q
   cases rep_of h
   have q':(match s.box with | some (.lst ts) => -(2 ^ 63) <= i /\ i < 2 ^ 63 /\ ∃ k t,seqIndex? i ts.length = some k /\ ts[k]? = some t /\ Qt (.tr t) (putS μ j (.lst (ts.eraseIdx k))) | _ => False):=q
   rw [b] at q';rcases ((l.slot j s e).boxed b).2.2.1.is with ⟨ts,vs,rfl,hl,rv⟩ | ⟨_,_,_,rfl,_⟩
   case inr => exact q'.elim
   simp only at q';obtain ⟨h1,h2,n,t,hk,ht,q2⟩:=q';obtain ⟨y,hy,ry⟩:=rv.get ht;have fs:Fr B H B (upd H (ad j) (.lst (vs.eraseIdx n))):=Fr.set ((l.slot j s e).boxed b).2.1;refine ⟨_,_,i,n,y,rfl,rfl,hl,h1,h2,by rw [rv.length];exact hk,hy,?_⟩
   have l3:=l.put e b (rv.erase n);unfold putS at q2;rw [e] at q2;exact k _ _ (.tr t) _ (Vr.flat l3 (ry.fr fs)) fs (Kp.set e b (Sl.put_box b)) q2
 ·exact q.elim
def uJoin:UMs:=fun z rs μ Q => match rs with
 | [r] => (match cont μ r with
  | some (.lst xs) => ∃ ys:List Str,xs = ys.map T.str /\ (ys.map (·.length)).sum + ys.length * z.length <= 16777216 /\ Q (.tr (.str (Str.join z ys))) μ
  | _ => False)
 | _ => False
theorem mt_joinG {X:Cx} (K:PySem.W.Frag) (hK:X.K = K):MtR X "str.join" (rJoin K):=by subst hK;exact mt_join
theorem rm_join {K:PySem.W.Frag}:RMs K (rJoin K) uJoin:=by
 intro F ad B σ H μ Q Qt z xs rs hF l ps q k;subst hF;unfold uJoin at q
 split at q
 ·rename_i r
  cases ps with
  | cons h ps =>
   cases ps
   split at q
   ·rename_i ts e;obtain ⟨ys,rfl,hz,q⟩:=q;have w:=h.vw l e
    cases w with
    | lst ha ra => exact ⟨z,_,ys,rfl,rfl,by rw [<- strs_reps ra];exact SqL.of ha,hz,k _ H _ μ (Vr.flat l (.str _)) Fr.refl (Kp.refl μ) q⟩
   ·exact q.elim
 ·exact q.elim
def gNF (i:Nat):UG:=fun r μ Q => match r with
 | .tr t => noP μ i /\ Q (μ.set i (.tr t))
 | .fr t => noP μ i /\ Q (μ.set i (.tr t))
 | .br _ => False
theorem rg_nameF {K:PySem.W.Frag} {i:Nat}:RG K (gName i) (gNF i):=fun F ad B σ H μ v r B0 H0 Q Qt hK h f q k => by
 cases r with
 | tr t => exact k ad B _ H _ (h.1.setT (noP_ne q.1) h.2) f q.2
 | br i => exact q.elim
 | fr c =>
  refine k ad B _ H _ (h.rl.setT (noP_ne q.1) h.hv) (f.trans (Fr.less fun b z => ?_)) q.2;obtain ⟨_,a,rfl,_⟩:=h;exact Or.inr z
section
variable {X:Cx} {e elt tg iter:Expr} {ifs:List Expr} {ue:UE} {ut:UT} {ui:UI} {pos pos' p2:Pos} {x:Str} {osc scope:Scope} {ON own N:List Str}
theorem setF {i:Nat} (hN:X.N.Nodup) (hi:X.N[i]? = some x) (hx:Loc X.env.scope x) (he:YE X e ue) (hs:autoParam (Z.noc e = true) L2.aRfl._auto_1) (hf:autoParam (X.fn x = true \/ X.env.scope.names.lookup x = some .local) L2.aLoc._auto_1) :
  YS X (.Assign [.Name x pos'] e pos) (uAsg ue (gNF i)):=by
 obtain ⟨t,q,r⟩:=he;exact ⟨_,Z.set hN hi hx q hs hf,rs_asg r rg_nameF⟩
theorem setC2 {j:Nat} (K:PySem.W.Frag) (hK:X.K = K) (hN:X.N.Nodup) (hj:X.N[j]? = some x) (hx:Loc X.env.scope x) (S:CompScope osc ON scope own N) (hosc:X.env.scope = osc) (hON:X.N = ON) (hc:X.calm = true) (ho:own.length = 2) (hi:YI X tg iter ui)
  (hg:∀ C s H fp,QG (cxComp X scope N C s H fp) tg (gTup K 2 (gCons (gName 0) (gCons (gName 1) gNil)))) (ht:∀ C s H fp,YTs (cxComp X scope N C s H fp) ifs ut) (he:∀ C s H fp,YE (cxComp X scope N C s H fp) elt ue)
  (hsw:autoParam (swapsWith (.ListComp elt [⟨tg,iter,ifs,0⟩] scope p2) (some (.Name x pos')) pos.line X.env = pure true) L2.aRfl._auto_1)
  (hf:autoParam (X.fn x = true \/ X.env.scope.names.lookup x = some .local) L2.aLoc._auto_1) (hs:∀ x,foldedSetIterable iter X.env x = pure x:=by intro _;rfl) :
  YS X (.Assign [.Name x pos'] (.ListComp elt [⟨tg,iter,ifs,0⟩] scope p2) pos) (uAsg (uComp own2 dr2 ui ut ue) (gN j)):=by
 obtain ⟨t,q,r⟩:=hi;subst hK;have h:=Z.setC (tc:=ttOf X.K ut) (te:=teOf X.K ue) hN hj hx S hosc hON hc q hg (fun C s H fp => (ht C s H fp).can) (fun C s H fp => (he C s H fp).can) hsw hf hs;rw [ho] at h;exact ⟨_,h,rs_asg (re_comp own2_ok r rt_of re_of) rg_name⟩
end
end Y
namespace A
theorem uSm (um:Y.UMs) (uo:UE) (us:UA) (μ:Mu) (Q:R -> Mu -> Prop):Y.uSm um uo us μ Q = uo μ fun ro μ1 => match ro with | .tr (.str z) => us μ1 fun rs μ2 => um z rs μ2 Q | _ => False:=rfl
theorem uStarts (z y:Str) (μ:Mu) (Q:R -> Mu -> Prop):Y.uStarts z [.tr (.str y)] μ Q = Q (.tr (.bl (Txt.startswith z y))) μ:=rfl
theorem uJoin (z:Str) (r:R) (μ:Mu) (Q:R -> Mu -> Prop):Y.uJoin z [r] μ Q = (match cont μ r with
  | some (.lst xs) => ∃ ys:List Str,xs = ys.map T.str /\ (ys.map (·.length)).sum + ys.length * z.length <= 16777216 /\ Q (.tr (.str (Str.join z ys))) μ
  | _ => False):=rfl
theorem uPopAt (j:Nat) (i:Int) (μ:Mu) (Q:R -> Mu -> Prop):Y.uPopAt j [.tr (.int i)] μ Q = (match (μ[j]?).bind Sl.box with
  | some (.lst ts) => -(2 ^ 63) <= i /\ i < 2 ^ 63 /\ ∃ k t,seqIndex? i ts.length = some k /\ ts[k]? = some t /\ Q (.tr t) (putS μ j (.lst (ts.eraseIdx k)))
  | _ => False):=rfl
theorem uSlX (ue:UE) (ul uh:UO) (μ:Mu) (Q:R -> Mu -> Prop):Y.uSlX ue ul uh μ Q = ue μ fun r μ1 => ul μ1 fun lo μ2 => uh μ2 fun hi μ3 => stp (Y.fSlX (cont μ3 r.d) lo hi) fun r => Q r μ3:=rfl
theorem slx_l (xs:List T) (lo hi:Option Int):Y.fSlX (some (.lst xs)) lo hi = some (True,.fr (.lst (Y.cutG xs lo hi))):=rfl
theorem slx_r (xs:List T) (lo hi:Option Int):Y.fSlX (some (.rol xs)) lo hi = some (True,.fr (.lst (Y.cutG xs lo hi))):=rfl
theorem slx_t (xs:List T) (lo hi:Option Int):Y.fSlX (some (.tup xs)) lo hi = some (True,.tr (.tup (Y.cutG xs lo hi))):=rfl
theorem slx_s (z:Str) (lo hi:Option Int):Y.fSlX (some (.str z)) lo hi = some (z.length <= sizeLine,.tr (.str (Y.cutS z lo hi))):=rfl
theorem gNFt (i:Nat) (t:T) (μ:Mu) (Q:Mu -> Prop):Y.gNF i (.tr t) μ Q = (Y.noP μ i /\ Q (μ.set i (.tr t))):=rfl
theorem gNFf (i:Nat) (t:T) (μ:Mu) (Q:Mu -> Prop):Y.gNF i (.fr t) μ Q = (Y.noP μ i /\ Q (μ.set i (.tr t))):=rfl
end A
namespace Y
end Y
namespace A
end A
def Fl (h:Heap) (e:Addr) (cls:Value) (d:Option Addr):Option Addr -> Prop
 | none => ∃ oe vs,h.get? e = some oe /\ oe.cls = cls /\ oe.dict = d /\ oe.data = .fields vs /\ vs[1]? = some Value.none
 | some T => ∃ oe vs oT ts,h.get? e = some oe /\ oe.cls = cls /\ oe.dict = d /\ oe.data = .fields vs /\ vs[1]? = some (.ref T) /\ T ≠ e /\ h.get? T = some oT /\ oT.data = .fields ts /\ ts[3]? = some Value.none
theorem Fl.is {h:Heap} {e:Addr} {cls:Value} {d To:Option Addr} (f:Fl h e cls d To):isX e cls d h:=by
 cases To with
 | none => obtain ⟨oe,vs,h1,h2,h3,h4,_⟩:=f;exact ⟨oe,vs,h1,h2,h3,h4⟩
 | some T => obtain ⟨oe,vs,_,_,h1,h2,h3,h4,_⟩:=f;exact ⟨oe,vs,h1,h2,h3,h4⟩
theorem isX.ok {P:Program} {w:World} {H:Hp} {h:Heap} {e:Addr} {cls:Value} {d:Option Addr} (x:isX e cls d h):ObjOk P w H h e (.ext (isX e cls d)) :=
 ⟨x,let ⟨o,_,h1,_⟩:=x;⟨o,h1⟩,fun h1 h2 ⟨o,vs,a,b,c,d⟩ k => ⟨o,vs,k o a,b,c,d⟩⟩
theorem isX.one {h:Heap} {e:Addr} {cls cls':Value} {d d':Option Addr} (x:isX e cls d h) (y:isX e cls' d' h):cls = cls' /\ d = d':=by
 obtain ⟨o,_,h1,h2,h3,_⟩:=x;obtain ⟨o',_,g1,g2,g3,_⟩:=y;rw [h1] at g1;cases g1;exact ⟨h2.symm.trans g2,h3.symm.trans g3⟩
structure Mv (h h':Heap) (e:Addr) (To:Option Addr) (fs:List Addr) (T':Addr):Prop where
 keep:∀ b o,b ≠ e -> (∀ T,To = some T -> b ≠ T) -> b ∉ fs -> h.get? b = some o -> h'.get? b = some o
 slot:∀ b o,b ∈ fs -> h.get? b = some o -> ∃ sl,h'.get? b = some { o with slots:=sl }
 new:(h.get? T' = none \/ To = some T') /\ T' ∉ fs
section
variable {h:Heap} {e:Addr} {cls:Value} {d:Option Addr} {base:Heap} {l:List Env}
theorem Fl.noFrT {T:Addr} (f:Fl h e cls d (some T)) (hl:h.FunFrames base l):T ∉ frs l:=fun m => by
 obtain ⟨_,o,ho,hd⟩:=hl.mem m;obtain ⟨_,_,oT,ts,_,_,_,_,_,_,hT,hdT,_⟩:=f;rw [hT] at ho;cases ho;exact hd ts hdT
theorem map_flds {o:Obj} {vs:Array Value} (q:o.data = .fields vs) (g:Array Value -> Array Value):o.mapFields g = { o with data:=.fields (g vs) }:=by
 obtain ⟨c,dd,dt,sl⟩:=o;cases q;rfl
end
section
variable {M:Model} {A:Around} {E:Value -> Shared -> Prop} {s:Shared} {env:Env} {outer:List Env} {L e:Addr} {cls:Value} {d:Option Addr} {base:Heap}
theorem fld_set {a:Addr} {o:Obj} {vs:Array Value} {i:Nat} {x:Value} {Q:Unit -> Shared -> Prop} (ho:s.heap.get? a = some o) (hd:o.data = .fields vs) (hi:i < vs.size)
  (hq:∀ h':Heap,(∀ b,b ≠ a -> h'.get? b = s.heap.get? b) -> h'.get? a = some { o with data:=.fields (vs.setIfInBounds i x) } -> Q () { s with heap:=h' }):wpAny M A (setField (.ref a) i x) Q E s:=by
 have hm:=map_flds hd (·.setIfInBounds i x);refine wpAny_setField ho hd hi (hq _ (fun b n => Heap.get?_update_other _ _ (Ne.symm n)) ?_);have:=Heap.get?_update_self (Obj.mapFields (·.setIfInBounds i x)) ho (Obj.isFreed_of_fields (Obj.data_mapFields hd _));rw [hm] at this;exact this
theorem fl_again' {T:Addr} {fl:Value} {oe oT:Obj} {vs ts:Array Value} {Q:Unit -> Shared -> Prop} (he:s.heap.get? e = some oe) (hd:oe.data = .fields vs) (h1:vs[1]? = some (.ref T)) (hne:T ≠ e) (hT:s.heap.get? T = some oT) (hdT:oT.data = .fields ts) (h3:ts[3]? = some fl)
  (hq:∀ h':Heap,(∀ b,b ≠ T -> h'.get? b = s.heap.get? b) -> h'.get? T = some { oT with data:=.fields (ts.setIfInBounds 3 .none) } -> Q () { s with heap:=h' }):wpAny M A (setFlight (.ref e) none) Q E s:=by
 unfold setFlight;refine wpAny_bind (wpAny_field he hd h1 ?_);rw [if_pos (by simp)]
 exact fld_set hT hdT (Array.getElem?_eq_some_iff.mp h3).1 hq
theorem entry_x {oe:Obj} {vs:Array Value} {head:Value} {hn:Bool} {Q:Unit -> Shared -> Prop} (hfr:A.frames = some (env :: outer)) (hf:env.frame = some L) (hl:s.heap.FunFrames base (env :: outer)) (he:s.heap.get? e = some oe) (hd:oe.data = .fields vs) (hsz:1 < vs.size)
  (hq:∀ (h':Heap) (T':Addr) (oT:Obj) (ts:Array Value),(∀ b o,b ≠ e -> b ∉ frs (env :: outer) -> s.heap.get? b = some o -> h'.get? b = some o) -> (∀ b o,b ∈ frs (env :: outer) -> s.heap.get? b = some o -> ∃ sl,h'.get? b = some { o with slots:=sl }) ->
   s.heap.get? T' = none -> h'.get? e = some { oe with data:=.fields (vs.setIfInBounds 1 (.ref T')) } -> h'.get? T' = some oT -> oT.data = .fields ts -> ts[3]? = some (rawInt L) -> T' ≠ e -> T' ∉ frs (env :: outer) -> Q () { s with heap:=h' }) :
  wpAny M A (frameOf env >>= fun a => entryPlaceOf L hn >>= fun pl => EntryCells.newEntry head a .none (rawInt L) .none pl >>= fun b => setField (.ref e) 1 b) Q E s:=by
 have nfe:e ∉ frs (env :: outer):=fun m => by
  obtain ⟨_,o,ho,hnf⟩:=hl.mem m;rw [he] at ho;cases ho;exact hnf vs hd
 refine wpAny_bind (wpAny_frameOf_fun hfr hl hf fun h1 hs => ?_);obtain ⟨hs1,hs2,hs3⟩:=hs;refine wpAny_bind (wpAny_entryPlaceOf fun pl hpl => ?_);unfold EntryCells.newEntry newFields;refine wpAny_bind (wpAny_newObj_type ?_ (hpl.sizeOk5 _ _ _ _ _));have e1:h1.get? e = some oe:=(hs2 e nfe).trans he;have hsize:∀ b o,h1.get? b = some o -> b ≠ h1.objs.size:=fun b o q => Nat.ne_of_lt (Heap.lt_size q);refine fld_set (Heap.get?_push_of_some _ e1) hd hsz fun h2 k1 k2 => ?_;have nfT:h1.objs.size ∉ frs (env :: outer):=fun m => by
  obtain ⟨_,o,ho,_⟩:=hl.mem m;obtain ⟨sl,q⟩:=hs3 _ o ho;exact hsize _ _ q rfl
 refine hq h2 h1.objs.size _ _ (fun b o n1 n2 q => ?_) (fun b o m q => ?_) ?_ k2 ((k1 _ (Ne.symm (hsize _ _ e1))).trans (Heap.get?_push_size h1 rfl)) rfl ?_ (Ne.symm (hsize _ _ e1)) nfT
 ·rw [k1 b n1];exact Heap.get?_push_of_some _ ((hs2 b n2).trans q)
 ·obtain ⟨sl,q1⟩:=hs3 b o q;exact ⟨sl,(k1 b fun z => nfe (by rw [<- z];exact m)).trans (Heap.get?_push_of_some _ q1)⟩
 ·cases q:s.heap.get? h1.objs.size with
  | none => rfl
  | some o =>
   obtain ⟨sl,q1⟩:=hs3 _ o q;exact absurd rfl (hsize _ _ q1)
 ·rcases hpl with rfl | ⟨_,_,_,_,_,_,_,rfl⟩ <;> simp
theorem fl_lands {To:Option Addr} {Q:Unit -> Shared -> Prop} (hfr:A.frames = some (env :: outer)) (hf:env.frame = some L) (hl:s.heap.FunFrames base (env :: outer)) (f:Fl s.heap e cls d To)
  (hq:∀ h' T',Mv s.heap h' e To (frs (env :: outer)) T' -> Fl h' e cls d (some T') -> Q () { s with heap:=h' }):wpAny M A (noteFrame (.ref e) env) (fun _ s2 => wpAny M A (setFlight (.ref e) none) Q E s2) E s:=by
 unfold noteFrame;simp only [hf]
 cases To with
 | none =>
  obtain ⟨oe,vs,g1,g2,g3,g4,g5⟩:=id f;have hsz:=(Array.getElem?_eq_some_iff.mp g5).1;refine wpAny_bind (wpAny_field g1 g4 g5 ?_);rw [if_neg (by decide)]
  refine entry_x hfr hf hl g1 g4 hsz fun h1 T' oT ts k1 k2 k3 k4 k5 k6 k7 k8 k9 => ?_;refine fl_again' (s:={ s with heap:=h1 }) k4 rfl (by simp [hsz]) k8 k5 k6 k7 fun h2 j1 j2 => ?_
  have nT:∀ b o,s.heap.get? b = some o -> b ≠ T':=fun b o q z => by rw [z,k3] at q;cases q
  refine hq h2 T' ⟨fun b o n1 _ n3 q => ?_,fun b o m q => ?_,.inl k3,k9⟩ ⟨_,_,_,_,(j1 e (Ne.symm k8)).trans k4,g2,g3,rfl,by simp [hsz],k8,j2,rfl,?_⟩
  ·exact (j1 b (nT b o q)).trans (k1 b o n1 n3 q)
  ·obtain ⟨sl,q1⟩:=k2 b o m q;exact ⟨sl,(j1 b (nT b o q)).trans q1⟩
  ·have:=(Array.getElem?_eq_some_iff.mp k7).1;simp [this]
 | some T =>
  obtain ⟨oe,vs,oT,ts,g1,g2,g3,g4,g5,g6,g7,g8,g9⟩:=id f;have hsz:=(Array.getElem?_eq_some_iff.mp g5).1;have nfT:=f.noFrT hl;refine wpAny_bind (wpAny_field g1 g4 g5 ?_);rw [if_pos (by simp)]
  refine wpAny_bind (wpAny_field g7 g8 g9 ?_);rw [if_neg (by simp [rawInt])]
  refine wpAny_bind (fld_set g7 g8 (Array.getElem?_eq_some_iff.mp g9).1 fun h0 i1 i2 => ?_);have hl0:h0.FunFrames base (env :: outer):=hl.of_keeps fun b o q hn => ⟨o,(i1 b fun z => by rw [z,g7] at q;cases q;exact hn ts g8).trans q,rfl⟩
  refine entry_x (s:={ s with heap:=h0 }) hfr hf hl0 ((i1 e (Ne.symm g6)).trans g1) g4 hsz fun h1 T' oT' ts' k1 k2 k3 k4 k5 k6 k7 k8 k9 => ?_
  refine fl_again' (s:={ s with heap:=h1 }) k4 rfl (by simp [hsz]) k8 k5 k6 k7 fun h2 j1 j2 => ?_
  have nTT:T' ≠ T:=fun z => by
   have k3':h0.get? T' = none:=k3;rw [z,i2] at k3';cases k3'
  have nT:∀ b o,s.heap.get? b = some o -> b ≠ T':=fun b o q z => by
   have k3':h0.get? T' = none:=k3;rw [<- z] at k3';by_cases z2:b = T
   ·exact nTT (z.symm.trans z2)
   ·rw [i1 b z2,q] at k3';cases k3'
  refine hq h2 T' ⟨fun b o n1 n2 n3 q => ?_,fun b o m q => ?_,.inl ?_,k9⟩ ⟨_,_,_,_,(j1 e (Ne.symm k8)).trans k4,g2,g3,rfl,by simp [hsz],k8,j2,rfl,?_⟩
  ·exact (j1 b (nT b o q)).trans (k1 b o n1 n3 ((i1 b (n2 T rfl)).trans q))
  ·have nbT:b ≠ T:=fun z => nfT (by rw [<- z];exact m)
   obtain ⟨sl,q1⟩:=k2 b o m ((i1 b nbT).trans q);exact ⟨sl,(j1 b (nT b o q)).trans q1⟩
  ·exact (i1 T' nTT).symm.trans k3
  ·have:=(Array.getElem?_eq_some_iff.mp k7).1;simp [this]
theorem fl_leaves {To:Option Addr} {Q:Unit -> Shared -> Prop} (hfr:A.frames = some (env :: outer)) (hf:env.frame = some L) (hl:s.heap.FunFrames base (env :: outer)) (f:Fl s.heap e cls d To)
  (hq:∀ h' T',Mv s.heap h' e To (frs (env :: outer)) T' -> Fl h' e cls d (some T') -> Q () { s with heap:=h' }):wpAny M A (leaving env (.ref e)) Q E s:=by
 unfold leaving;exact wpAny_bind (fl_lands hfr hf hl f hq)
theorem fl_again {T:Addr} {l:List Env} {Q:Unit -> Shared -> Prop} (hl:s.heap.FunFrames base l) (f:Fl s.heap e cls d (some T))
  (hq:∀ h' T',Mv s.heap h' e (some T) (frs l) T' -> Fl h' e cls d (some T') -> Q () { s with heap:=h' }):wpAny M A (setFlight (.ref e) none) Q E s:=by
 have nfT:=f.noFrT hl;obtain ⟨oe,vs,oT,ts,g1,g2,g3,g4,g5,g6,g7,g8,g9⟩:=id f;refine fl_again' g1 g4 g5 g6 g7 g8 g9 fun h2 j1 j2 => ?_;refine hq h2 T ⟨fun b o n1 n2 n3 q => (j1 b (n2 T rfl)).trans q,fun b o m q => ⟨o.slots,(j1 b fun z => nfT (by rw [<- z];exact m)).trans q⟩,.inr rfl,nfT⟩ ⟨_,_,_,_,(j1 e (Ne.symm g6)).trans g1,g2,g3,g4,g5,g6,j2,rfl,?_⟩
 have:=(Array.getElem?_eq_some_iff.mp g9).1;simp [this]
end
theorem HOk.laidN {P:Program} {w:World} {H:Hp} {h h':Heap} {a:Addr} {o:HO} (x:HOk P w H h) (k:∀ b u,h.get? b = some u -> h'.get? b = some u) (hn:H a = none) (new:ObjOk P w (upd H a o) h' a o):HOk P w (upd H a o) h':=fun b u e => by
 by_cases z:b = a
 ·subst z;rw [upd_same] at e;cases e;exact new
 ·rw [upd_ne z] at e;exact (x b u e).stay (fun c v _ q => k c v q) (fun c q => by rw [upd_ne (ne_of_none q hn)];exact q) (fun c xs q => by rw [upd_ne (ne_of_none q hn)];exact q) fun c _ _ q => by rw [upd_ne (ne_of_none q hn)];exact q
theorem Un.laidN {fs ex:List Addr} {H:Hp} {h h':Heap} {a:Addr} {o:HO} (k:∀ b u,h.get? b = some u -> h'.get? b = some u) (h0:h.get? a = none) (hn:H a = none):Un fs ex H (upd H a o) h h' where
 keep:=fun b u q _ _ _ => k b u q
 slot:=fun b u q _ _ _ => ⟨u.slots,k b u q⟩
 free:=fun b u q n _ => by rw [upd_ne (fun z => by rw [z,h0] at q;cases q)];exact n
 there:=fun b u q _ => ⟨u,k b u q⟩
 tups:=fun b xs q => by rw [upd_ne (ne_of_none q hn)];exact q
 frzs:=fun b u xs q => by rw [upd_ne (ne_of_none q hn)];exact q
 tbls:=fun b ps q => ⟨#[],by rw [upd_ne (ne_of_none q hn),q];simp⟩
theorem HOk.none_of {P:Program} {w:World} {H:Hp} {h:Heap} {a:Addr} (x:HOk P w H h) (e:h.get? a = none):H a = none:=by
 cases q:H a with
 | none => rfl
 | some u =>
  have:=x a u q;obtain ⟨o,ho⟩:∃ o,h.get? a = some o:=by
   clear q
   induction u with
   | lst xs => obtain ⟨_,_,_,_,z⟩:=this;exact ⟨_,z⟩
   | tup xs => obtain ⟨_,_,_,o,z,_⟩:=this;exact ⟨_,z⟩
   | dK kvs => obtain ⟨_,_,_,_,o,_,_,z,_⟩:=this;exact ⟨_,z⟩
   | dT kvs => obtain ⟨_,_,_,_,o,_,_,z,_⟩:=this;exact ⟨_,z⟩
   | set S n => obtain ⟨o,_,_,_,z,_⟩:=this;exact ⟨_,z⟩
   | ins C dx fs => obtain ⟨_,_,_,z,_⟩:=this;exact ⟨_,z⟩
   | own x => exact this
   | xd fs => obtain ⟨_,⟨o,_,_,z,_⟩,_⟩:=this;exact ⟨_,z⟩
   | met f x => exact ⟨_,this⟩
   | rng lo hi => obtain ⟨_,_,_,z⟩:=this;exact ⟨_,z⟩
   | frz o u ih => exact ⟨_,this.1⟩
   | tbl ps => obtain ⟨_,z,_⟩:=this;exact ⟨_,z⟩
   | ext φ => exact this.2.1
  rw [e] at ho;cases ho
theorem HOk.moved {P:Program} {w:World} {H:Hp} {h h':Heap} {e T':Addr} {cls:Value} {d To:Option Addr} {fs:List Addr} (x:HOk P w H h) (mv:Mv h h' e To fs T') (f':isX e cls d h') (he:H e = some (.ext (isX e cls d))) (hT:∀ T,To = some T -> H T = none) (hf:∀ b ∈ fs,H b = none):HOk P w H h':=fun b u q => by
 by_cases z:b = e
 ·subst z;rw [he] at q;cases q;exact f'.ok
 ·refine (x b u q).stay (fun c v hc r => ?_) (fun _ q => q) (fun _ _ q => q) fun _ _ _ q => q;have tr:∃ o,H c = some o:=by
   rcases hc with rfl | hc
   ·exact ⟨u,q⟩
   ·exact ⟨_,hc⟩
  obtain ⟨o,tr⟩:=tr;refine mv.keep c v (fun z2 => ?_) (fun T hT' z2 => ?_) (fun m => ?_) r
  ·rcases hc with rfl | hc
   ·exact z z2
   ·rw [z2,he] at hc;cases hc
  ·rw [z2,hT T hT'] at tr;cases tr
  ·rw [hf c m] at tr;cases tr
section
variable {X:Cx} {pins:List (Addr × Obj)} {σ:St} {H H':Hp} {s:Shared} {h':Heap}
theorem Inv.stepN {ch:List Addr} (I:Inv X pins σ H s)
  (hch:∀ b ∈ ch,X.s₀.heap.get? b = none /\ b ≠ X.env.locals /\ (∀ x c,X.env.cells.lookup x = some c -> c ≠ b) /\ ∀ p ∈ X.pn ++ pins,p.1 ≠ b)
  (keep:∀ b o,b ≠ X.env.locals -> b ∉ X.fs -> b ∉ ch -> s.heap.get? b = some o -> H b = none -> h'.get? b = some o)
  (slot:∀ b o,b ≠ X.env.locals -> b ∈ X.fs -> b ∉ ch -> s.heap.get? b = some o -> H b = none -> ∃ sl,h'.get? b = some { o with slots:=sl })
  (there:∀ b o,b ∉ ch -> s.heap.get? b = some o -> ∃ o',h'.get? b = some o')
  (ns:∀ m,s.heap.Ns X.env.locals m -> h'.Ns X.env.locals m) (hok:HOk X.prog X.w H h') :
  Inv X pins σ H { s with heap:=h' }:=by
 have neL:∀ b o,X.s₀.heap.get? b = some o -> b ≠ X.env.locals:=fun b o e => Nat.ne_of_lt (Nat.lt_of_lt_of_le (Heap.lt_size e) I.ok.above);have neC:∀ b o,X.s₀.heap.get? b = some o -> b ∉ ch:=fun b o e hb => by rw [(hch b hb).1] at e;cases e
 have cellK:∀ x c,X.env.cells.lookup x = some c -> ∀ v,s.heap.IsCell c v -> h'.IsCell c v:=fun x c e v ⟨o,ho,hd⟩ => by
  have nch:c ∉ ch:=fun z => (hch c z).2.2.1 x c e rfl;by_cases hc:c ∈ X.fs
  ·obtain ⟨sl,q⟩:=slot c o (I.cne x c e) hc nch ho (I.freeC x c e);exact ⟨_,q,hd⟩
  ·exact ⟨o,keep c o (I.cne x c e) hc nch ho (I.freeC x c e),hd⟩
 refine ⟨I.ok,I.os,I.bare,⟨fun b o e n hb hx => ?_,fun b o e n hb hx => ?_,I.base.free,fun b o e hx => ?_,I.base.tups,I.base.frzs,I.base.tbls⟩,?_,fun x c e => ?_,I.free,I.freeC,fun p hp => ?_,hok,I.len⟩
 ·exact keep b o (neL b o e) hb (neC b o e) (I.base.keep b o e n hb hx) (I.base.free b o e n hx)
 ·obtain ⟨sl,e1⟩:=I.base.slot b o e n hb hx;obtain ⟨sl',e2⟩:=slot b _ (neL b o e) hb (neC b o e) e1 (I.base.free b o e n hx);exact ⟨sl',e2⟩
 ·obtain ⟨o',e1⟩:=I.base.there b o e hx;exact there b o' (neC b o e) e1
 ·obtain ⟨m,hn,hl⟩:=I.loc;refine ⟨m,ns m hn,fun i x v e1 e2 e3 => ?_⟩;obtain ⟨u,r,l⟩:=hl i x v e1 e2 e3;refine ⟨u,r,?_⟩;rcases l with l | ⟨k,c,e,z⟩
  ·exact .inl l
  ·exact .inr ⟨k,c,e,cellK x c e _ z⟩
 ·obtain ⟨v,z⟩:=I.cell x c e;exact ⟨v,cellK x c e v z⟩
 ·obtain ⟨e,n,ne,nf,d⟩:=I.pin p hp;have nch:p.1 ∉ ch:=fun z => (hch p.1 z).2.2.2 p hp rfl;exact ⟨keep p.1 p.2 ne nf nch e n,n,ne,nf,d⟩
structure Nw (X:Cx) (pins:List (Addr × Obj)) (H:Hp) (e:Addr) (cls:Value) (d To:Option Addr):Prop where
 tr:H e = some (.ext (isX e cls d))
 e0:X.s₀.heap.get? e = none
 d0:∀ a,d = some a -> X.s₀.heap.get? a = none
 t0:∀ T,To = some T -> H T = none /\ X.s₀.heap.get? T = none /\ ∀ p ∈ X.pn ++ pins,p.1 ≠ T
theorem Inv.moved {e T':Addr} {cls:Value} {d To:Option Addr} (I:Inv X pins σ H s) (hex:X.ex = []) (f:Fl s.heap e cls d To) (nw:Nw X pins H e cls d To) (mv:Mv s.heap h' e To (frs X.stack) T') (f':Fl h' e cls d (some T')) :
  Inv X pins σ H { s with heap:=h' } /\ Nw X pins H e cls d (some T'):=by
 have hfr:=I.stkFree;have teT:∀ T o,To = some T -> s.heap.get? T = some o -> T ∉ frs X.stack:=fun T o hT _ => by subst hT;exact f.noFrT I.stack
 have hne:∀ b o,s.heap.get? b = some o -> H b = none -> b ≠ e:=fun b o _ n z => by rw [z,nw.tr] at n;cases n
 refine ⟨I.stepN (ch:=To.toList) (fun b hb => ?_) (fun b o hL hb hc q n => ?_) (fun b o _ hb hc q n => ?_) (fun b o hc q => ?_) (fun m hm => ?_) (I.hok.moved mv f'.is nw.tr (fun T hT => (nw.t0 T hT).1) hfr),nw.tr,nw.e0,nw.d0,fun T hT => ?_⟩
 ·cases To with
  | none => cases hb
  | some T =>
   have:b = T:=by simpa using hb
   subst this;obtain ⟨h1,h2,h3⟩:=nw.t0 b rfl;obtain ⟨_,_,oT,ts,_,_,_,_,_,_,hT,hdT,_⟩:=f;refine ⟨h2,fun z => ?_,fun x c hc z => ?_,h3⟩
   ·obtain ⟨m,⟨o,es,ep,ho,hd,_⟩,_⟩:=I.loc;rw [<- z,hT] at ho;cases ho;rw [hdT] at hd;cases hd
   ·obtain ⟨v,o,ho,hd⟩:=I.cell x c hc;rw [z,hT] at ho;cases ho;rw [hdT] at hd;cases hd
 ·refine mv.keep b o (hne b o q n) (fun T hT z => hc (by rw [hT,z];simp)) (fun m => ?_) q
  exact (List.mem_cons.mp (I.stkSub b m)).elim hL hb
 ·by_cases m:b ∈ frs X.stack
  ·exact mv.slot b o m q
  ·exact ⟨o.slots,mv.keep b o (hne b o q n) (fun T hT z => hc (by rw [hT,z];simp)) m q⟩
 ·by_cases z:b = e
  ·obtain ⟨o',_,q',_⟩:=f'.is;exact ⟨o',by rw [z];exact q'⟩
  ·by_cases m:b ∈ frs X.stack
   ·obtain ⟨sl,q2⟩:=mv.slot b o m q;exact ⟨_,q2⟩
   ·exact ⟨o,mv.keep b o z (fun T hT z => hc (by rw [hT,z];simp)) m q⟩
 ·obtain ⟨o,es,ep,ho,r⟩:=hm;have n:=I.free;by_cases mm:X.env.locals ∈ frs X.stack
  ·obtain ⟨sl,q2⟩:=mv.slot _ o mm ho;exact ⟨_,es,ep,q2,r⟩
  ·refine ⟨o,es,ep,mv.keep _ o (hne _ o ho n) (fun T hT z => ?_) mm ho,r⟩;subst hT;obtain ⟨_,_,oT,ts,_,_,_,_,_,_,hT,hdT,_⟩:=f;rw [z,hT] at ho;cases ho;obtain ⟨hd,_⟩:=r;rw [hdT] at hd;cases hd
 ·cases hT;rcases mv.new.1 with q | q
  ·refine ⟨I.hok.none_of q,?_,fun p hp z => ?_⟩
   ·cases q2:X.s₀.heap.get? T' with
    | none => rfl
    | some o =>
     obtain ⟨o',q3⟩:=I.base.there T' o q2 (by rw [hex];simp)
     rw [q] at q3;cases q3
   ·rw [<- z,(I.pin p hp).1] at q;cases q
  ·exact nw.t0 T' q
def DxOf (X:Cx) (cls:Value) (d:Option Addr) (e:Addr) (σ:St) (H:Hp):Prop:=∀ (pins:List (Addr × Obj)) (s:Shared) (To:Option Addr),Inv X pins σ H s -> Fl s.heap e cls d To -> Nw X pins H e cls d To -> X.xe (.ref e) s
def CXW (P:Program) (w:World):CXT:=fun outer H s E x s' => ∃ (e T:Addr) (cls:Value) (d:Option Addr) (H':Hp),x = .ref e /\ s'.os = s.os /\ AllBare s'.gens /\ Un (frs outer) [] H H' s.heap s'.heap /\ HOk P w H' s'.heap /\ Fl s'.heap e cls d (some T) /\ s.heap.get? e = none /\ (∀ a,d = some a -> s.heap.get? a = none) /\ s.heap.get? T = none /\ H' e = some (.ext (isX e cls d)) /\ H' T = none /\ E cls (some e) H'
end
theorem dx_leave {P:Program} {w:World} {K:PySem.W.Frag} {mg:Str -> Option Value} {base:Heap} {N:List Str} {qual:Str} {scope:Scope} {f:Addr} {cd:Value} {A:Around} {outer:List Env} {s0:Shared} {H0:Hp} {E:XK} {cls:Value} {d:Option Addr} {e:Addr} {σ:St} {H:Hp} (hE:E cls (some e) H) :
  DxOf (cxOf (CXW P w) P w K mg base N qual scope f cd A outer s0 H0 E) cls d e σ H:=by
 intro pins s To I fl nw;refine fl_leaves (base:=base) I.ok.frames rfl I.stack fl fun h' T' mv f' => ?_;obtain ⟨I2,nw2⟩:=I.moved rfl fl nw mv f';exact ⟨e,T',cls,d,H,rfl,I.os,I.bare,I2.base,I2.hok,f',nw.e0,nw.d0,(nw2.t0 T' rfl).2.1,nw.tr,(nw2.t0 T' rfl).1,hE⟩
section
variable {X:Cx}
def XkOf (X:Cx) (σ:St) (H:Hp):XK:=fun cls de H' => ∃ (e:Addr) (d:Option Addr),de = some e /\ H' e = some (.ext (isX e cls d)) /\ (H e = none -> (∀ a,d = some a -> H a = none) -> DxOf X cls d e σ H')
def tCallX (X:Cx) (sp:Sp) (t:TA):TE:=fun σ H Q => t σ H fun vs H1 => sp vs H1 Q (XkOf X σ H1)
theorem pe_fnX {k:Nat} {ps:List Str} {sp:Sp} {x:Str} {p pos:Pos} {e:Expr} {es:List Expr} {t:TA} (F:CallOk X.prog X.w X.K X.mg X.base (CXW X.prog X.w) k x ps sp) (hr:Room k X.A) (hg:Gl X x) (hex:X.ex = []) (ha:PA X (e :: es) t) (h1:autoParam (nst e = true) L2.aRfl._auto_1) (h2:autoParam (es.all nst = true) L2.aRfl._auto_1) (hdb:autoParam ((x == ("__debug__":Str)) = false) L2.aDec._auto_1) :
  PE X (.Call (.Name x p) (e :: es) [] pos) (tCallX X sp t):=by
 intro pins s σ H Q I h;obtain ⟨f,fd,hm,hk,hb,G⟩:=F.ex;refine wpAny_Call_Name_kw (ld_glob I hg hm ?_ hdb);refine PySem.W.callWith_K (h₀:=X.base) I.ok.mod.kin hk (thn (ha pos pins s σ H _ I h) fun us s1 ⟨vs,H1,I1,r,q⟩ => ⟨I1.kIn,?_⟩) (star1 h1) (plain_any h2);have hl:us.length = ps.length:=by rw [<- r.length];exact G.len _ _ _ _ q
 have hb2:=hb s1 us I1.kIn (by rw [List.append_nil];exact hl)
 rw [List.append_nil] at hb2;refine wpAny_call (codeAny_mono (G.run X.A X.stack s1 H1 ⟨us,[]⟩ us vs Q (XkOf X σ H1) hr I1.env0 hb2 r q) fun r s' hq => ?_)
 cases r with
 | error e =>
  obtain ⟨ea,T,cls,d,H',rfl,ho,hbare,un,hok,fl,n1,n3,n2,tr,nT,ea',d',hea,tr',hd⟩:=hq;cases hea;obtain ⟨_,rfl⟩:=fl.is.one (show isX ea cls d' s'.heap from (hok _ _ tr').1);have I2:=I1.call' (ch:=[]) ho un hok hbare (fun b z => absurd z (by simp))
  have n0:∀ b,s1.heap.get? b = none -> X.s₀.heap.get? b = none:=fun b z => by
   cases q2:X.s₀.heap.get? b with
   | none => rfl
   | some o =>
    obtain ⟨o',q3⟩:=I1.base.there b o q2 (by rw [hex];simp)
    rw [z] at q3;cases q3
  exact hd (I1.hok.none_of n1) (fun a z => I1.hok.none_of (n3 a z)) pins s' (some T) I2 fl ⟨tr,n0 _ n1,fun a z => n0 _ (n3 a z),fun T' hT => by
   cases hT;exact ⟨nT,n0 _ n2,fun p hp z => by rw [<- z,(I1.pin p hp).1] at n2;cases n2⟩⟩
 | ok fl =>
  cases fl with
  | ret u => exact I1.after hq
  | next => exact False.elim hq
  | brk => exact False.elim hq
  | cont => exact False.elim hq
structure XCls (K:PySem.W.Frag) (C:Addr):Prop where
 q:PySem.W.excIn K C [.type "ValueError",.type "Exception",.type "BaseException",.type "object"] "ValueError.__new__" = true
theorem XCls.obj {K:PySem.W.Frag} {C:Addr} (c:XCls K C):∃ bm N nm qn bs hd sn sub ab col dd k0 k1 k2 k3 k5,K.lookup C = some (excClassObj nm qn C N bs bm hd sn sub ab col dd k0 k1 k2 k3 k5 "ValueError.__new__") /\
  (∀ h:Heap,K.In h -> OwnTail h [.type "ValueError",.type "Exception",.type "BaseException",.type "object"] bm) /\ (∃ oN,K.lookup N = some oN) /\ ∀ h:Heap,K.In h -> ∃ mN,h.Ns N mN /\ mN "__init__" = none:=by
 have q:=c.q;unfold PySem.W.excIn at q
 split at q
 ·rename_i dd cd sl ho
  split at q
  ·rename_i C2 bm k0 k1 k2 k3 nw k5 hm hs;simp only [beq_iff_eq,Bool.not_eq_true',Bool.and_eq_true] at q;obtain ⟨⟨⟨⟨⟨z1,z2⟩,z3⟩,z4⟩,z5⟩,z6⟩:=q;subst z1;subst z2;obtain ⟨nm,bs,mr,ns,qn,hd,sn,sub,ab,col,dl⟩:=cd;dsimp only at hm z3 z5 z6 ho;subst hm;subst z3;obtain ⟨l⟩:=sl;have hs':l = [k0,k1,k2,k3,some (.builtin "ValueError.__new__"),k5]:=hs;subst hs';refine ⟨bm,ns,nm,qn,bs,hd,sn,sub,ab,col,dd,k0,k1,k2,k3,k5,ho,fun h kin => PySem.W.tail_of_in kin z4,?_,fun h kin => ⟨_,.of_isNs (PySem.W.isNs_of_in kin z5),PySem.W.nsMap_none_of_in kin z5 z6⟩⟩;unfold PySem.W.nsOkIn at z5
   split at z5
   ·rename_i hN;exact ⟨_,hN⟩
   ·cases z5
  ·cases q
 ·cases q
end
def XH (H:Hp) (e:Addr) (x:T) (cls:Value) (d:Option Addr):Prop:=H e = some (.ext (isX e cls d)) /\ match x with
 | .exc c none => c = cls /\ d = none
 | .exc c (some (n,i)) => c = cls /\ ∃ a,d = some a /\ H a = some (.xd [(n,.int i)])
 | _ => False
noncomputable abbrev Xw:=T -> Mu -> Prop
noncomputable abbrev DxT:=Value -> Option Addr -> Addr -> St -> Hp -> Prop
noncomputable abbrev UX:=Mu -> (R -> Mu -> Prop) -> Xw -> Prop
noncomputable abbrev UXS:=Ed -> Xw -> Mu -> Prop
def XdOk (F:Fx) (B:AP') (H:Hp) (Dx:DxT) (Xt:Xw):Prop:=∀ (ad:Nat -> Addr) (B':AP') (σ':St) (H':Hp) (μ':Mu) (x:T) (cls:Value) (d:Option Addr) (e:Addr),Rl F ad B' σ' H' μ' -> Fr B H B' H' -> XH H' e x cls d -> ¬ B' e -> (∀ a,d = some a -> ¬ B' a) -> Xt x μ' -> Dx cls d e σ' H'
theorem XdOk.step {F:Fx} {B B1:AP'} {H H1:Hp} {Dx:DxT} {Xt:Xw} (h:XdOk F B H Dx Xt) (f:Fr B H B1 H1):XdOk F B1 H1 Dx Xt:=fun ad B' σ' H' μ' x cls d e l f' tr n1 n2 q => h ad B' σ' H' μ' x cls d e l (f.trans f') tr n1 n2 q
def RX (K:PySem.W.Frag) (Dx:DxT) (te:TE) (ux:UX):Prop:=∀ (F:Fx) (ad:Nat -> Addr) (B:AP') (σ:St) (H:Hp) (μ:Mu) (Q:VK) (Qt:R -> Mu -> Prop) (Xt:Xw),F.K = K -> Rl F ad B σ H μ -> ux μ Qt Xt ->
 (∀ v H' r μ',Vr F ad B σ H' μ' v r -> Fr B H (Bv B v r) H' -> Kp μ μ' -> Qt r μ' -> Q v H') -> XdOk F B H Dx Xt -> te σ H Q
def RXS (K:PySem.W.Frag) (Dx:DxT) (ts:TS) (us:UXS):Prop:=∀ (F:Fx) (D:Ends) (E:Ed) (Xt:Xw) (ad:Nat -> Addr) (B:AP') (σ:St) (H:Hp) (μ:Mu),F.K = K -> Rl F ad B σ H μ -> us E Xt μ -> EdOk F B H D E -> XdOk F B H Dx Xt -> ts D σ H
structure YX (X:Cx) (e:Expr) (u:UX):Prop where
 ex:∃ t,QE X e t /\ RX X.K (DxOf X) t u
structure YXS (X:Cx) (st:Stmt) (u:UXS):Prop where
 ex:∃ t,QS X st t /\ RXS X.K (DxOf X) t u
structure YXB (X:Cx) (sts:List Stmt) (u:UXS):Prop where
 ex:∃ t,QB X sts t /\ RXS X.K (DxOf X) t u
namespace Y
section
variable {X:Cx} {a b c e o tg:Expr} {es rest:List Expr} {ua ub uc ue uo:UE} {uA uB:UT} {us:UA} {pos pos' p p2 p3:Pos} {x:Str} {st:Stmt} {sts xs ys:List Stmt} {u w:US} {ux:UX} {uxs wxs:UXS}
theorem xst (h:YS X st u):YXS X st (fun E _ μ => u E μ):=by
 obtain ⟨t,q,r⟩:=h;exact ⟨t,q,fun F D E Xt ad B σ H μ hF l q h _ => r F D E ad B σ H μ hF l q h⟩
theorem noX (h:YXB X sts uxs):YB X sts (fun E μ => uxs E (fun _ _ => False) μ):=by
 obtain ⟨t,q,r⟩:=h;exact ⟨t,q,fun F D E ad B σ H μ hF l q h => r F D E _ ad B σ H μ hF l q h fun _ _ _ _ _ _ _ _ _ _ _ _ _ _ z => z.elim⟩
def xSeq (u w:UXS):UXS:=fun E Xt μ => u { E with nx:=w E Xt } Xt μ
theorem xbone (h:YXS X st uxs):YXB X [st] uxs:=by obtain ⟨t,q,r⟩:=h;exact ⟨t,Z.bone q,r⟩
theorem xbnil:YXB X [] (fun E _ μ => E.nx μ):=⟨_,Z.bnil,fun F D E Xt ad B σ H μ hK l q h _ => h.nx ad B σ H μ l Fr.refl q⟩
theorem xbcons (h:YXS X st uxs) (h2:YXB X sts wxs):YXB X (st :: sts) (xSeq uxs wxs):=by
 obtain ⟨t,q,r⟩:=h;obtain ⟨t',q',r'⟩:=h2;exact ⟨_,Z.bcons q q',fun F D E Xt ad B σ H μ hK l q h hX => r F { D with nx:=t' D } { E with nx:=wxs E Xt } Xt ad B σ H μ hK l q
  ⟨fun ad1 B1 σ1 H1 μ1 l1 f1 q1 => r' F D E Xt ad1 B1 σ1 H1 μ1 hK l1 q1 (h.step f1) (hX.step f1),h.rt,h.bk,h.ct⟩ hX⟩
def xAsg (ux:UX) (g:UG):UXS:=fun E Xt μ => ux μ (fun r μ' => g r μ' E.nx) Xt
theorem rxs_asg {K:PySem.W.Frag} {Dx:DxT} {te:TE} {tg:TG} {g:UG} (he:RX K Dx te ux) (hg:RG K tg g):RXS K Dx (tAsg te tg) (xAsg ux g):=fun F D E Xt ad B σ H μ hK l q h hX =>
 he F ad B σ H μ _ _ Xt hK l q (fun v H' r μ' v1 f k1 q1 => hg F ad B σ H' μ' v r B H _ _ hK v1 f q1 fun ad' B' σ' H2 μ2 l2 f2 q2 => h.nx ad' B' σ' H2 μ2 l2 f2 q2) hX
theorem xset {i:Nat} (hN:X.N.Nodup) (hi:X.N[i]? = some x) (hx:Loc X.env.scope x) (he:YX X e ux) (hs:autoParam (Z.noc e = true) L2.aRfl._auto_1) (hf:autoParam (X.fn x = true \/ X.env.scope.names.lookup x = some .local) L2.aLoc._auto_1) :
  YXS X (.Assign [.Name x pos'] e pos) (xAsg ux (gN i)):=by
 obtain ⟨t,q,r⟩:=he;exact ⟨_,Z.set hN hi hx q hs hf,rxs_asg r rg_name⟩
def xIf (c:UT) (u w:UXS):UXS:=fun E Xt μ => c μ fun b μ' => if b = true then u E Xt μ' else w E Xt μ'
theorem xifS (hc:YT X c uA) (ha:YXB X xs uxs) (hb:YXB X ys wxs):YXS X (.If c xs ys pos) (xIf uA uxs wxs):=by
 obtain ⟨t,q,r⟩:=hc;obtain ⟨t1,q1,r1⟩:=ha;obtain ⟨t2,q2,r2⟩:=hb;refine ⟨_,Z.ifS q q1 q2,fun F D E Xt ad B σ H μ hK l q h hX => r F ad B σ H μ _ _ hK l q fun b H' μ' l' f k1 qq => ?_⟩
 cases b with
 | true => exact r1 F D E Xt ad B σ H' μ' hK l' (by simpa using qq) (h.step f) (hX.step f)
 | false => exact r2 F D E Xt ad B σ H' μ' hK l' (by simpa using qq) (h.step f) (hX.step f)
end
end Y
noncomputable abbrev TSx:=List T -> (R -> List T -> Prop) -> (T -> Prop) -> Prop
def spX (K:PySem.W.Frag) (md:List Bool) (tsp:TSx):Sp:=fun vs H Q E => ∃ Et:T -> Prop,spT K md (fun args Qt => tsp args Qt Et) vs H Q E /\ ∀ x cls d e H',Et x -> (∀ b o,H b = some o -> b ∉ bxA md vs -> H' b = some o) -> XH H' e x cls d -> E cls (some e) H'
theorem bxA_none:∀ {md:List Bool} {vs:List V},md.all (fun b => !b) = true -> bxA md vs = []
 | [],_,_ => rfl
 | true :: _,_,h => by simp at h
 | false :: md,[],_ => rfl
 | false :: md,v :: vs,h => bxA_none (md:=md) (vs:=vs) (by simpa using h)
namespace Y
theorem fn_core {K:PySem.W.Frag} {md:List Bool} {tsp:TSp} {E:XK} {F:Fx} {ad:Nat -> Addr} {B:AP'} {σ:St} {H1:Hp} {μ1:Mu} {Q:VK} {Qt:R -> Mu -> Prop} {vs:List V} {rs:List R} {args:List T} (hF:F.K = K) (l1:Rl F ad B σ H1 μ1) (ps:Paired (Hv F ad B H1 μ1) vs rs) (ea:agT μ1 md rs = some args)
  (nd:(bxS md rs).Nodup) (dj:∀ j ∈ bxS md rs,j ∉ roS md rs) (q1:tsp args fun r outs => (roS md rs = [] \/ (flatR r = true /\ outs.all flatC = true)) /\ Qt r (putAll (bxS md rs) outs μ1))
  (k:∀ v H' r μ',Vr F ad B σ H' μ' v r -> Fr B H1 (Bv B v r) H' -> Kp μ1 μ' -> Qt r μ' -> Q v H'):spT K md tsp vs H1 Q E:=by
 have hro:=ro_box (md:=md) ps;obtain ⟨ag,eb,hb⟩:=ag_of l1 (roS md rs) ps ea (fun j h => h) dj hro;rw [hF] at ag;have inj:∀ {js:List Nat},js.Nodup -> (∀ j ∈ js,∃ (s:Sl) (c:T),μ1[j]? = some s /\ s.box = some c) -> (js.map ad).Nodup:=fun {js} => by
  induction js with
  | nil => exact fun _ _ => List.nodup_nil
  | cons j js ih =>
   intro nd hb;rw [List.nodup_cons] at nd;rw [List.map_cons,List.nodup_cons];refine ⟨fun hm => ?_,ih nd.2 fun i hi => hb i (List.mem_cons_of_mem _ hi)⟩;obtain ⟨i,hi,z⟩:=List.mem_map.mp hm;obtain ⟨s1,c1,e1,b1⟩:=hb j List.mem_cons_self;obtain ⟨s2,c2,e2,b2⟩:=hb i (List.mem_cons_of_mem _ hi);exact nd.1 (l1.inj i j s2 s1 c2 c1 e2 e1 b2 b1 z ▸ hi)
 refine ⟨_,args,_,ag,fun b z => l1.trk b z.1,by rw [eb];exact inj nd hb,q1,fun v H2 r outs hq keep res => ?_⟩
 rw [eb] at keep res;obtain ⟨hfl,hq⟩:=hq;have nro:∀ {b:Addr},roS md rs = [] -> B b -> B b /\ ∀ j ∈ roS md rs,b ≠ ad j:=fun {b} z h => ⟨h,fun j hj => by rw [z] at hj;cases hj⟩
 cases r with
 | br i => exact res.elim
 | tr t =>
  obtain ⟨rv,po⟩:=res;have rv':Rep F.K H2 B v t:=by
   rw [hF];rcases hfl with z | z
   ·exact rv.fr (Fr.less fun b h => nro z h)
   ·exact rv.flat z.1
  have po':Paired (Bx F.K H2 B) ((bxS md rs).map ad) outs:=by
   rw [hF];rcases hfl with z | z
   ·exact Paired.mapP po fun a c h => h.of rfl (Fr.less fun b h => nro z h)
   ·exact Paired.flatB po z.2
  obtain ⟨l2,k2,f2⟩:=l1.call hb nd keep (fun _ z => z) (fun _ _ _ z => z) (fun b z n => absurd z n) po';exact k v H2 (.tr t) _ ⟨l2,rv'⟩ f2 k2 hq
 | fr c =>
  obtain ⟨a,rfl,ha0,nBa,x,po⟩:=res;have nBa':¬ B a:=l1.notB ha0;have sub:roS md rs = [] -> ∀ b,more B a b -> more (fun b => B b /\ ∀ j ∈ roS md rs,b ≠ ad j) a b:=fun z b h => h.imp id fun h => nro z h;have x':Bx F.K H2 (more B a) a c:=by
   rw [hF];rcases hfl with z | z
   ·exact x.of rfl (Fr.less (sub z))
   ·exact x.flat z.1
  have po':Paired (Bx F.K H2 (more B a)) ((bxS md rs).map ad) outs:=by
   rw [hF];rcases hfl with z | z
   ·exact Paired.mapP po fun a' c h => h.of rfl (Fr.less (sub z))
   ·exact Paired.flatB po z.2
  have po2:Paired (Bx F.K H2 B) ((bxS md rs).map ad) outs:=Paired.mapP po' fun a' c h => h.of rfl (Fr.less fun _ z => .inr z);obtain ⟨l2,k2,f2⟩:=l1.call hb nd keep (fun _ z => z) (fun _ _ _ z => z) (fun b z n => absurd z n) po2;obtain ⟨l3,_,f3⟩:=l1.call (B2:=more B a) hb nd keep (fun _ z => .inr z) (fun b o e n z => z.elim (fun z => by rw [z,ha0] at e;cases e) n) (fun b z n => z.elim (fun z => by rw [z];exact x'.trk) fun z => absurd z n) po'
  exact k _ H2 (.fr c) _ ⟨l2,a,rfl,nBa',l1.new0 ha0,l3,x'⟩ f3 k2 hq
def xFn (md:List Bool) (tsp:TSx) (us:UA):UX:=fun μ Q Xt => us μ fun rs μ1 => match agT μ1 md rs with
 | some args => (bxS md rs).Nodup /\ (∀ j ∈ bxS md rs,j ∉ roS md rs) /\ tsp args (fun r outs => (roS md rs = [] \/ (flatR r = true /\ outs.all flatC = true)) /\ Q r (putAll (bxS md rs) outs μ1)) (fun x => Xt x μ1)
 | none => False
theorem xfn {X:Cx} {e:Expr} {es:List Expr} {us:UA} {pos p:Pos} {x:Str} {k:Nat} {ps:List Str} {md:List Bool} {tsp:TSx} (K:PySem.W.Frag) (hK:X.K = K) (F:CallOk X.prog X.w X.K X.mg X.base (CXW X.prog X.w) k x ps (spX K md tsp)) (hr:Room k X.A) (hg:Gl X x) (hex:X.ex = []) (ha:YA X (e :: es) us) (h1:autoParam (nst e = true) L2.aRfl._auto_1) (h2:autoParam (es.all nst = true) L2.aRfl._auto_1) (hdb:autoParam ((x == ("__debug__":Str)) = false) L2.aDec._auto_1) (hmd:autoParam (md.all (fun b => !b) = true) L2.aRfl._auto_1) :
  YX X (.Call (.Name x p) (e :: es) [] pos) (xFn md tsp us):=by
 obtain ⟨t,q,r⟩:=ha;subst hK;refine ⟨_,⟨pe_fnX F hr hg hex q.h h1 h2 hdb⟩,fun F ad B σ H μ Q Qt Xt hF l q k hX => ?_⟩;refine r F ad B σ H μ _ _ hF l q fun vs H1 rs μ1 l1 ps f1 k1 q1 => ?_
 split at q1
 ·rename_i args ea;obtain ⟨nd,dj,q1⟩:=q1;refine ⟨fun x => Xt x μ1,fn_core (tsp:=fun args Qt => tsp args Qt fun x => Xt x μ1) hF l1 ps ea nd dj q1 fun v H' r μ' w f k2 q2 => k v H' r μ' w (f1.trans f) (k1.trans k2) q2,fun x cls d e H' he keep tr => ⟨e,d,rfl,tr.1,fun ne nd => ?_⟩⟩;have sm:Same H1 H':=fun b o z => keep b o z (by rw [bxA_none hmd];simp)
  exact hX ad B σ H' μ1 x cls d e (l1.same sm) (f1.trans (Fr.same sm)) tr (l1.notB ne) (fun a z => l1.notB (nd a z)) he
 ·exact q1.elim
end Y
def CodeOf (K:PySem.W.Frag) (mg:Str -> Option Value) (x:Str) (f:Addr) (cdv:Value):Prop:=mg x = some (.ref f) /\ ∃ (o:Obj) (fd:FuncData),K.lookup f = some o /\ o.data = .func fd /\ fd.code = cdv
theorem HasFn.okXc {P:Program} {w:World} {K:PySem.W.Frag} {mg:Str -> Option Value} {base:Heap} {x:Str} {st:Stmt} {N ps:List Str} {k:Nat} {tsp:TSx} (F:HasFn K mg x st ps) (S:FnScope N ps (defScope st)) (md:List Bool) (hmd:md.all (fun b => !b) = true) (hm:md.length = ps.length) (hN:md.length <= N.length)
  (hbody:∀ (args:List T) (Qt:R -> List T -> Prop) (Et:T -> Prop),args.length = ps.length -> tsp args Qt Et -> ∀ (f:Addr) (cdv:Value) (A:Around) (outer:List Env) (s:Shared) (H:Hp) (E:XK),Room k (A.deeper (envOfC x (defScope st) s.heap.objs.size f cdv)) -> CodeOf K mg x f cdv ->
   ∃ us,YXB (cxOf (CXW P w) P w K mg base N x (defScope st) f cdv A outer s H E) (defBody st) us /\ us (edOf md Qt) (fun x _ => Et x) (startM md args N.length)):CallOk P w K mg base (CXW P w) (k + 1) x ps (spX K md tsp):=by
 obtain ⟨f,fd,F1,bnd,m⟩:=F.ex;obtain ⟨oc,od,kV,doc,pm,an,cdv,ct,osl,rfl,lk,hcd⟩:=F1.ex;refine ⟨f,_,m,F1.kp,bnd,fn_of (CX:=CXW P w) lk hcd S (fun vs H Q E h => ?_) (fun A outer s H vs Q E hr h => ?_)⟩
 ·obtain ⟨Et,⟨B,args,Qt,ag,_⟩,_⟩:=h;rw [ag.len.1,hm]
 ·obtain ⟨Et,⟨B,args,Qt,ag,bh,nd,ht,fin⟩,hE⟩:=h;obtain ⟨us,⟨t,q,r⟩,hu⟩:=hbody args Qt Et (by rw [ag.len.2,hm]) ht f cdv A outer s H E hr ⟨m,_,_,lk,rfl,rfl⟩
  refine ⟨t,q.h,?_⟩;have l0:=rl_start (N:=N) ag bh nd hN;have outs:∀ ad' B' σ' H' μ' (B2:AP'),Rl (fxOf K H md vs B bh) ad' B' σ' H' μ' -> (∀ b,B2 b -> B' b) -> Paired (Bx K H' B2) (bxA md vs) (outsAt md 0 μ'):=fun ad' B' σ' H' μ' B2 l hB => by
   refine outs_of (ag.len.1) fun n e => ?_;obtain ⟨v,t',e1,e2,q⟩:=ag.get e;rw [if_pos rfl] at q;obtain ⟨a,rfl,_⟩:=q;obtain ⟨⟨c,hc⟩,ha⟩:=l.par n a (pOf_of e e1);have sl:=l.slot n _ hc;refine ⟨a,c,e1,by rw [Nat.zero_add];exact hc,?_⟩
   rw [<- ha];exact (sl.2.2.2).of rfl (Fr.less hB)
  have keep:∀ ad' B' σ' H' μ',Rl (fxOf K H md vs B bh) ad' B' σ' H' μ' -> ∀ b o,H b = some o -> b ∉ bxA md vs -> H' b = some o:=fun ad' B' σ' H' μ' l b o e n => l.old b o e fun i z => n (mem_bxA (pOf_is z).1 (pOf_is z).2);refine r (fxOf K H md vs B bh) _ _ (fun x _ => Et x) (adOf vs) B (start N vs) H _ rfl l0 hu ⟨fun ad' B' σ' H' μ' l _ q => ?_,fun ad' B' σ' H' μ' v rr h q => ?_,fun _ _ _ _ _ _ _ z => z.elim,fun _ _ _ _ _ _ _ z => z.elim⟩ (fun ad' B' σ' H' μ' x cls d e l _ tr _ _ z => dx_leave (hE x cls d e H' z (keep _ _ _ _ _ l) tr))
  ·exact fin .non H' (.tr .non) _ q (keep _ _ _ _ _ l) ⟨.non,outs _ _ _ _ _ _ l l.bc⟩
  ·cases rr with
   | tr t => exact fin v H' (.tr t) _ q (keep _ _ _ _ _ h.1) ⟨(show Rep K H' B' v t from h.2).fr (Fr.less h.1.bc),outs _ _ _ _ _ _ h.1 h.1.bc⟩
   | fr c =>
    obtain ⟨l,a,rfl,n,h0,l2,x⟩:=h;have sub:∀ b,more B a b -> more B' a b:=fun b z => z.imp id (l.bc b);exact fin _ H' (.fr c) _ q (keep _ _ _ _ _ l) ⟨a,rfl,h0,fun z => n (l.bc a z),x.of rfl (Fr.less sub),outs _ _ _ _ _ _ l2 sub⟩
   | br i =>
    have q':(match μ'[i]? with | some (.bx c) => Qt (.fr c) (outsAt md 0 μ') | _ => False):=q
    obtain ⟨l,rfl,s',c',e1,e2⟩:=h
    split at q'
    ·rename_i c ec;have sl:=l.slot i _ ec;have sub:∀ b,more B (ad' i) b -> B' b:=fun b z => z.elim (fun z => by rw [z];exact sl.2.1) (l.bc b)
     refine fin _ H' (.fr c) _ q' (keep _ _ _ _ _ l) ⟨ad' i,rfl,sl.2.2.1,fun z => ?_,(sl.2.2.2.2).of rfl (Fr.less sub),outs _ _ _ _ _ _ l sub⟩;obtain ⟨o,e⟩:=bh _ z;have:H (ad' i) = none:=sl.2.2.1;rw [this] at e;cases e
    ·exact q'.elim
theorem HasFn.okX {P:Program} {w:World} {K:PySem.W.Frag} {mg:Str -> Option Value} {base:Heap} {x:Str} {st:Stmt} {N ps:List Str} {k:Nat} {tsp:TSx} (F:HasFn K mg x st ps) (S:FnScope N ps (defScope st)) (md:List Bool) (hmd:md.all (fun b => !b) = true) (hm:md.length = ps.length) (hN:md.length <= N.length)
  (hbody:∀ (args:List T) (Qt:R -> List T -> Prop) (Et:T -> Prop),args.length = ps.length -> tsp args Qt Et -> ∀ (f:Addr) (cdv:Value) (A:Around) (outer:List Env) (s:Shared) (H:Hp) (E:XK),Room k (A.deeper (envOfC x (defScope st) s.heap.objs.size f cdv)) ->
   ∃ us,YXB (cxOf (CXW P w) P w K mg base N x (defScope st) f cdv A outer s H E) (defBody st) us /\ us (edOf md Qt) (fun x _ => Et x) (startM md args N.length)):CallOk P w K mg base (CXW P w) (k + 1) x ps (spX K md tsp) :=
 F.okXc S md hmd hm hN fun args Qt Et hl h f cdv A outer s H E hr _ => hbody args Qt Et hl h f cdv A outer s H E hr
noncomputable abbrev tryX (X:Cx) (pins:List (Addr × Obj)) (E:Value -> Shared -> Prop):Cx:={ X with xe:=E,pn:=X.pn ++ pins }
noncomputable abbrev hdX (X:Cx) (e:Addr):Cx:={ X with A:=X.A.mark (some (.ref e)),calm:=false,xe:=fun _ _ => False }
section
variable {X:Cx} {pins pins':List (Addr × Obj)} {σ:St} {H:Hp} {s:Shared} {E:Value -> Shared -> Prop} {e:Addr}
theorem Inv.toTry (I:Inv X pins σ H s):Inv (tryX X pins E) [] σ H s :=
 ⟨⟨I.ok.mod,I.ok.kind,I.ok.glob,I.ok.blt,I.ok.above,I.ok.inj,I.ok.has,I.ok.cab,I.ok.hd,I.ok.frames,I.ok.stk,I.ok.exf,I.ok.bs,I.ok.bsz,I.ok.noex,I.ok.exfs,I.ok.funs,I.ok.frf,I.ok.tabs⟩,
  I.os,I.bare,I.base,I.loc,I.cell,I.free,I.freeC,fun p hp => I.pin p (by simpa using hp),I.hok,I.len⟩
theorem Inv.ofTry (I:Inv (tryX X pins E) pins' σ H s):Inv X pins σ H s :=
 ⟨⟨I.ok.mod,I.ok.kind,I.ok.glob,I.ok.blt,I.ok.above,I.ok.inj,I.ok.has,I.ok.cab,I.ok.hd,I.ok.frames,I.ok.stk,I.ok.exf,I.ok.bs,I.ok.bsz,I.ok.noex,I.ok.exfs,I.ok.funs,I.ok.frf,I.ok.tabs⟩,
  I.os,I.bare,I.base,I.loc,I.cell,I.free,I.freeC,fun p hp => I.pin p (List.mem_append_left _ hp),I.hok,I.len⟩
theorem Inv.toHd (I:Inv X pins σ H s):Inv (hdX X e) pins σ H s :=
 ⟨⟨I.ok.mod,I.ok.kind,I.ok.glob,I.ok.blt,I.ok.above,I.ok.inj,I.ok.has,I.ok.cab,(fun z => nomatch z),I.ok.frames,I.ok.stk,I.ok.exf,I.ok.bs,I.ok.bsz,I.ok.noex,I.ok.exfs,I.ok.funs,I.ok.frf,I.ok.tabs⟩,
  I.os,I.bare,I.base,I.loc,I.cell,I.free,I.freeC,I.pin,I.hok,I.len⟩
theorem SP.ofTry {D:Ends} {f:Flow} (h:SP (tryX X pins E) pins' D f s):SP X pins D f s:=by
 cases f with
 | next => obtain ⟨σ',H',I,q⟩:=h;exact ⟨σ',H',I.ofTry,q⟩
 | brk => obtain ⟨σ',H',I,q⟩:=h;exact ⟨σ',H',I.ofTry,q⟩
 | cont => obtain ⟨σ',H',I,q⟩:=h;exact ⟨σ',H',I.ofTry,q⟩
 | ret u => obtain ⟨v,σ',H',I,r,q⟩:=h;exact ⟨v,σ',H',I.ofTry,r,q⟩
theorem SP.ofHd {D:Ends} {f:Flow} (hd:X.A.handled = none) (hc:X.calm = true) (h:SP (hdX X e) pins D f s):SP X pins D f s:=by
 have go:∀ {σ':St} {H':Hp} {s':Shared},Inv (hdX X e) pins σ' H' s' -> Inv X pins σ' H' s':=fun I =>
  ⟨⟨I.ok.mod,I.ok.kind,I.ok.glob,I.ok.blt,I.ok.above,I.ok.inj,I.ok.has,I.ok.cab,fun _ => hd,I.ok.frames,I.ok.stk,I.ok.exf,I.ok.bs,I.ok.bsz,I.ok.noex,I.ok.exfs,I.ok.funs,I.ok.frf,I.ok.tabs⟩,
   I.os,I.bare,I.base,I.loc,I.cell,I.free,I.freeC,I.pin,I.hok,I.len⟩
 cases f with
 | next => obtain ⟨σ',H',I,q⟩:=h;exact ⟨σ',H',go I,q⟩
 | brk => obtain ⟨σ',H',I,q⟩:=h;exact ⟨σ',H',go I,q⟩
 | cont => obtain ⟨σ',H',I,q⟩:=h;exact ⟨σ',H',go I,q⟩
 | ret u => obtain ⟨v,σ',H',I,r,q⟩:=h;exact ⟨v,σ',H',go I,r,q⟩
end
namespace Y
end Y
noncomputable abbrev UJ:=Mu -> (Mu -> Prop) -> Prop
structure YJ (X:Cx) (vs:List Expr) (u:UJ):Prop where
 run:∀ (F:Fx) (ad:Nat -> Addr) (B:AP') (σ:St) (H:Hp) (μ:Mu) (Qt:Mu -> Prop) (pins:List (Addr × Obj)) (s:Shared) (acc:Str) (k:Nat) (R:Str -> Shared -> Prop),F.K = X.K -> Rl F ad B σ H μ -> u μ Qt -> Inv X pins σ H s -> acc.length <= 2000 * k -> k + vs.length <= 20 ->
  (∀ H' μ' s' (out:Str),Rl F ad B σ H' μ' -> Fr B H B H' -> Kp μ μ' -> Qt μ' -> Inv X pins σ H' s' -> out.length <= 40000 -> R out s') -> Joins (model X.prog X.w) X.A X.xe (evalEach vs X.env) acc R s
theorem app_len' (a b:Str):(a ++ b).length = a.length + b.length:=Array.size_append
theorem le_line {n:Nat} (h:n <= 40000):n <= sizeLine:=Nat.le_trans h (by decide)
namespace Y
section
variable {X:Cx} {e:Expr} {vs:List Expr} {ue:UE} {u:UJ} {pos p:Pos}
theorem jnil:YJ X [] (fun μ Q => Q μ):=⟨fun F ad B σ H μ Qt pins s acc k R hF l q I ha hk h => h H μ s acc l Fr.refl (Kp.refl μ) q I (by simp at hk;lia)⟩
theorem jcon {c:Str} {j:Nat} (h:YJ X vs u) (hc:autoParam (c.length <= 2000) L2.aDec._auto_1) (he:autoParam (evalEach (.Constant (.str c) j p :: vs) X.env = eval (.Constant (.str c) j p) X.env :: evalEach vs X.env) L2.aRfl._auto_1):YJ X (.Constant (.str c) j p :: vs) u:=by
 refine ⟨fun F ad B σ H μ Qt pins s acc k R hF l q I ha hk hR => ?_⟩;rw [he];refine thn ((Z.str (X:=X) (i:=c) (j:=j) (pos:=p)).h pins s σ H (fun v H1 => v = .str c /\ H1 = H) I ⟨rfl,rfl⟩) fun v s1 ⟨v',H1,I1,r1,e1,e2⟩ => ?_;subst e1;subst e2;obtain ⟨t,rfl⟩:=r1;have hl:(acc ++ c).length <= 2000 * (k + 1):=by rw [app_len'];lia
 rw [List.length_cons] at hk;exact ⟨c,t,rfl,le_line (by lia),h.run F ad B σ H1 μ Qt pins s1 (acc ++ c) (k + 1) R hF l q I1 hl (by lia) hR⟩
def uJi (ue:UE) (u:UJ):UJ:=fun μ Q => ue μ fun r μ' => match r with
 | .tr (.int i) => i.natAbs < 2 ^ 1900 /\ u μ' Q
 | _ => False
theorem jint (he:YE X e ue) (h:YJ X vs u) (hev:autoParam (evalEach (.FormattedValue e (-1) none p :: vs) X.env = eval (.FormattedValue e (-1) none p) X.env :: evalEach vs X.env) L2.aRfl._auto_1):YJ X (.FormattedValue e (-1) none p :: vs) (uJi ue u):=by
 obtain ⟨t,qe,r⟩:=he;refine ⟨fun F ad B σ H μ Qt pins s acc k R hF l q I ha hk hR => ?_⟩;rw [hev];refine wpAny_FormattedValue_plain ?_;refine thn (qe.h pins s σ H (fun v H1 => ∃ r1 μ1,Vr F ad B σ H1 μ1 v r1 /\ Fr B H (Bv B v r1) H1 /\ Kp μ μ1 /\ (match r1 with
  | .tr (.int i) => i.natAbs < 2 ^ 1900 /\ u μ1 Qt
  | _ => False)) I (r F ad B σ H μ _ _ hF l q fun v H1 r1 μ1 w f k1 q1 => ⟨r1,μ1,w,f,k1,q1⟩)) fun v s1 ⟨v',H1,I1,rv,r1,μ1,w,f,k1,q1⟩ => ?_
 split at q1
 ·rename_i i;obtain ⟨l1,rp⟩:=w;cases rp;obtain ⟨t',rfl⟩:=rv;obtain ⟨hi,q1⟩:=q1;have hlog:i.natAbs.log2 < 1920:=by
   by_cases z:i.natAbs = 0
   ·rw [z];decide
   ·exact (Nat.log2_lt z).mpr (Nat.lt_of_lt_of_le hi (Nat.pow_le_pow_right (by decide) (by decide)))
  have hlen:(Str.ofString (toString i)).length <= 1921:=by
   have:=int_text_length_le (k:=1920) (by decide) hlog
   rw [PySem.ofString_length];exact this
  refine wpAny_formatField_int hlog ⟨_,_,rfl,?_,?_⟩
  ·rw [app_len'];exact le_line (by rw [List.length_cons] at hk;lia)
  ·rw [List.length_cons] at hk;exact h.run F ad B σ H1 μ1 Qt pins _ (acc ++ Str.ofString (toString i)) (k + 1) R hF l1 q1 (I1.tok _) (by rw [app_len'];lia) (by lia) fun H' μ' s' out l' f' k' => hR H' μ' s' out l' (f.trans f') (k1.trans k')
 ·exact q1.elim
def uJs (u:UJ):UE:=fun μ Q => u μ fun μ' => ∀ z:Str,z.length <= 40000 -> Q (.tr (.str z)) μ'
theorem fstr {v1 v2:Expr} {rest:List Expr} (h:YJ X (v1 :: v2 :: rest) u) (hn:autoParam ((v1 :: v2 :: rest).length <= 20) L2.aDec._auto_1):YE X (.JoinedStr (v1 :: v2 :: rest) pos) (uJs u):=by
 refine ⟨fun σ H Q => ∀ pins s,Inv X pins σ H s -> wpAny (model X.prog X.w) X.A (eval (.JoinedStr (v1 :: v2 :: rest) pos) X.env) (EP X pins σ Q) X.xe s,⟨fun pins s σ H Q I h => h pins s I⟩,?_⟩;intro F ad B σ H μ Q Qt hF l q k pins s I;refine wpAny_JoinedStr (h.run F ad B σ H μ _ pins s Str.empty 0 _ hF l q I (by decide) (by rw [Nat.zero_add];exact hn) fun H' μ' s' out l' f' k' q' I' ho => ⟨le_line ho,?_⟩)
 exact ⟨.str out,H',I'.tok _,⟨_,rfl⟩,k _ H' (.tr (.str out)) μ' ⟨l',.str out⟩ f' k' (q' out ho)⟩
end
end Y
namespace A
theorem uJi (ue:UE) (u:UJ) (μ:Mu) (Q:Mu -> Prop):Y.uJi ue u μ Q = ue μ fun r μ' => match r with
 | .tr (.int i) => i.natAbs < 2 ^ 1900 /\ u μ' Q
 | _ => False:=rfl
theorem uJs (u:UJ) (μ:Mu) (Q:R -> Mu -> Prop):Y.uJs u μ Q = u μ fun μ' => ∀ z:Str,z.length <= 40000 -> Q (.tr (.str z)) μ':=rfl
theorem xAsg (ux:UX) (g:UG) (E:Ed) (Xt:Xw) (μ:Mu):Y.xAsg ux g E Xt μ = ux μ (fun r μ' => g r μ' E.nx) Xt:=rfl
theorem xIf (c:UT) (u w:UXS) (E:Ed) (Xt:Xw) (μ:Mu):Y.xIf c u w E Xt μ = c μ fun b μ' => if b = true then u E Xt μ' else w E Xt μ':=rfl
theorem xFn (md:List Bool) (tsp:TSx) (us:UA) (μ:Mu) (Q:R -> Mu -> Prop) (Xt:Xw):Y.xFn md tsp us μ Q Xt = us μ fun rs μ1 => match agT μ1 md rs with
 | some args => (bxS md rs).Nodup /\ (∀ j ∈ bxS md rs,j ∉ roS md rs) /\ tsp args (fun r outs => (roS md rs = [] \/ (flatR r = true /\ outs.all flatC = true)) /\ Q r (putAll (bxS md rs) outs μ1)) (fun cls => Xt cls μ1)
 | none => False:=rfl
end A
theorem seqX {u w:UXS} {E:Ed} {Xt:Xw} {μ:Mu} (h:∀ N,N = w E Xt -> u { E with nx:=N } Xt μ):Y.xSeq u w E Xt μ:=h _ rfl
namespace Y
def inF (t:T) (xs:List T):Bool:=xs.any fun y => eqF y t
theorem inF_V {K:PySem.W.Frag} {H:Hp} {B:AP'} {x:V} {t:T} (h:Rep K H B x t) (f:flatT t = true):∀ {ys:List V} {us:List T},Reps K H B ys us -> us.all flatT = true -> flatV x = true /\ ys.all flatV = true /\ inV x ys = inF t us
 | _,_,.nil,_ => by
  refine ⟨?_,rfl,rfl⟩
  cases h <;> first | rfl | cases f
 | _,_,.cons h2 r,f2 => by
  rw [List.all_cons,Bool.and_eq_true] at f2;obtain ⟨a1,a2,a3⟩:=inF_V h f r f2.2;obtain ⟨b1,b2,b3⟩:=eqF_V h2 h f2.1 f;refine ⟨a1,by rw [List.all_cons,b1,a2];rfl,?_⟩
  unfold inV inF at a3 ⊢;rw [List.any_cons,List.any_cons,b3,a3]
def rInG (K:PySem.W.Frag) (neg:Bool):R2:=fun x y H Q => rIn K neg x y H Q \/ ∃ i j,x = .str i /\ y = .str j /\ Q (.bl (if neg then !(!(Builtin.Str.occurrences j i 0 j.length 1).isEmpty) else !(Builtin.Str.occurrences j i 0 j.length 1).isEmpty)) H
theorem op_inG {X:Cx} (K:PySem.W.Frag) (hK:X.K = K):OpR X (compareOp .In) (rInG K false):=by subst hK;exact op_in_seq.or op_in_str
theorem op_ninG {X:Cx} (K:PySem.W.Frag) (hK:X.K = K):OpR X (compareOp .NotIn) (rInG K true):=by subst hK;exact op_notIn_seq.or op_notIn_str
def occ (i j:Str):Bool:=!(Builtin.Str.occurrences j i 0 j.length 1).isEmpty
def tIn (neg:Bool):T -> T -> Mu -> (R -> Mu -> Prop) -> Prop:=fun t u μ Q => match u with
 | .tup xs => flatT t = true /\ xs.all flatT = true /\ Q (.tr (.bl (if neg then !inF t xs else inF t xs))) μ
 | .lst xs => flatT t = true /\ xs.all flatT = true /\ Q (.tr (.bl (if neg then !inF t xs else inF t xs))) μ
 | .ktp xs => flatT t = true /\ xs.all flatT = true /\ Q (.tr (.bl (if neg then !inF t xs else inF t xs))) μ
 | .str j => (match t with | .str i => Q (.tr (.bl (if neg then !occ i j else occ i j))) μ | _ => False)
 | _ => False
theorem Vw.flatR {K:PySem.W.Frag} {H:Hp} {B:AP'} {v:V} {t:T} (h:Vw K H B v t) (f:flatT t = true):Rep K H B v t:=by
 cases h with
 | non => exact .non
 | bl b => exact .bl b
 | int i => exact .int i
 | str x => exact .str x
 | tup => cases f
 | ktp => cases f
 | lst => cases f
 | rol => cases f
 | rng => cases f
 | dic => cases f
 | exc => cases f
 | exa => cases f
theorem ro_in {K:PySem.W.Frag} {neg:Bool}:ROp K (rInG K neg) (byT (tIn neg)):=byT_of fun F ad B σ H μ Q Qt x y t u hK l v1 v2 q k => by
 subst hK;unfold tIn at q
 split at q
 ·obtain ⟨f1,f2,q⟩:=q
  cases v2 with
  | tup ha ra =>
   obtain ⟨a1,a2,a3⟩:=inF_V (Vw.flatR v1 f1) f1 ra f2;exact .inl ⟨_,_,rfl,.inr (SqT.of ha),a1,a2,by rw [a3];exact k _ H _ (Vr.flat l (.bl _)) Fr.refl q⟩
 ·obtain ⟨f1,f2,q⟩:=q
  cases v2 with
  | lst ha ra =>
   obtain ⟨a1,a2,a3⟩:=inF_V (Vw.flatR v1 f1) f1 ra f2;exact .inl ⟨_,_,rfl,.inl (SqL.of ha),a1,a2,by rw [a3];exact k _ H _ (Vr.flat l (.bl _)) Fr.refl q⟩
 ·obtain ⟨f1,f2,q⟩:=q
  cases v2 with
  | ktp ha ra =>
   obtain ⟨a1,a2,a3⟩:=inF_V (Vw.flatR v1 f1) f1 ra f2;exact .inl ⟨_,_,rfl,.inr (.inr ha),a1,a2,by rw [a3];exact k _ H _ (Vr.flat l (.bl _)) Fr.refl q⟩
 ·split at q
  ·cases v1;cases v2
   exact .inr ⟨_,_,rfl,rfl,k _ H _ (Vr.flat l (.bl _)) Fr.refl q⟩
  ·exact q.elim
 ·exact q.elim
end Y
namespace A
theorem tInT (neg:Bool) (t:T) (xs:List T) (μ:Mu) (Q:R -> Mu -> Prop):Y.tIn neg t (.tup xs) μ Q = (flatT t = true /\ xs.all flatT = true /\ Q (.tr (.bl (if neg then !Y.inF t xs else Y.inF t xs))) μ):=rfl
theorem tInL (neg:Bool) (t:T) (xs:List T) (μ:Mu) (Q:R -> Mu -> Prop):Y.tIn neg t (.lst xs) μ Q = (flatT t = true /\ xs.all flatT = true /\ Q (.tr (.bl (if neg then !Y.inF t xs else Y.inF t xs))) μ):=rfl
theorem tInK (neg:Bool) (t:T) (xs:List T) (μ:Mu) (Q:R -> Mu -> Prop):Y.tIn neg t (.ktp xs) μ Q = (flatT t = true /\ xs.all flatT = true /\ Q (.tr (.bl (if neg then !Y.inF t xs else Y.inF t xs))) μ):=rfl
theorem tInS (neg:Bool) (i j:Str) (μ:Mu) (Q:R -> Mu -> Prop):Y.tIn neg (.str i) (.str j) μ Q = Q (.tr (.bl (if neg then !Y.occ i j else Y.occ i j))) μ:=rfl
end A
def allE (n m:Nat) (e:Nat -> Bool):Bool:=(List.range (min n m)).all e && n == m
inductive EqD:Nat -> T -> T -> Bool -> Prop
 | flat {n:Nat} {t u:T} (f1:flatT t = true) (f2:flatT u = true):EqD n t u (Y.eqF t u)
 | tup {n:Nat} {xs ys:List T} (e:Nat -> Bool) (h:∀ (j:Nat) (x y:T),xs[j]? = some x -> ys[j]? = some y -> EqD n x y (e j)):EqD (n + 1) (.tup xs) (.tup ys) (allE xs.length ys.length e)
 | lst {n:Nat} {xs ys:List T} (e:Nat -> Bool) (h:∀ (j:Nat) (x y:T),xs[j]? = some x -> ys[j]? = some y -> EqD n x y (e j)):EqD (n + 1) (.lst xs) (.lst ys) (allE xs.length ys.length e)
theorem eqF_self {t u:T} {v:V} {K:PySem.W.Frag} {H:Hp} {B:AP'} (h1:Rep K H B v t) (h2:Rep K H B v u) (f1:flatT t = true) (f2:flatT u = true):Y.eqF t u = true:=by
 cases h1 <;> first | (cases f1;done) | (cases h2 <;> first | (cases f2;done) | simp [Y.eqF])
theorem allE_true {n m:Nat} {e:Nat -> Bool} (h:n = m) (h2:∀ j,j < n -> e j = true):allE n m e = true:=by
 subst h;unfold allE;rw [Nat.min_self,beq_self_eq_true,Bool.and_true,List.all_eq_true];intro j hj;exact h2 j (by simpa using hj)
theorem EqD.same {n:Nat} {t u:T} {b:Bool} (d:EqD n t u b):∀ {K:PySem.W.Frag} {H:Hp} {B:AP'} {v:V},Rep K H B v t -> Rep K H B v u -> b = true:=by
 induction d with
 | flat f1 f2 => exact fun h1 h2 => eqF_self h1 h2 f1 f2
 | tup e h ih =>
  rename_i nn xs ys;intro K H B v h1 h2
  cases h1 with
  | tup n1 a1 r1 => cases h2 with
   | tup n2 a2 r2 =>
    rw [a1] at a2;cases a2;refine allE_true (r1.length.symm.trans r2.length) fun j hj => ?_;have hx:=List.getElem?_eq_getElem hj;have hj2:j < ys.length:=by rw [<- r2.length,r1.length];exact hj
    have hy:=List.getElem?_eq_getElem hj2;obtain ⟨v1,g1,p1⟩:=r1.get hx;obtain ⟨v2,g2,p2⟩:=r2.get hy;rw [g1] at g2;cases g2;exact ih j _ _ hx hy p1 p2
 | lst e h ih =>
  rename_i nn xs ys;intro K H B v h1 h2
  cases h1 with
  | lst n1 a1 r1 => cases h2 with
   | lst n2 a2 r2 =>
    rw [a1] at a2;cases a2;refine allE_true (r1.length.symm.trans r2.length) fun j hj => ?_;have hx:=List.getElem?_eq_getElem hj;have hj2:j < ys.length:=by rw [<- r2.length,r1.length];exact hj
    have hy:=List.getElem?_eq_getElem hj2;obtain ⟨v1,g1,p1⟩:=r1.get hx;obtain ⟨v2,g2,p2⟩:=r2.get hy;rw [g1] at g2;cases g2;exact ih j _ _ hx hy p1 p2
section
variable {X:Cx} {pins:List (Addr × Obj)} {σ:St} {H:Hp} {s:Shared} {B:AP'}
theorem items_eq {A:Around} {n:Nat} {xs ys:List T} {vs ws:List V} {its its2:List Value} {e:Nat -> Bool} (r1:Reps X.K H B vs xs) (r2:Reps X.K H B ws ys) (g1:Vals vs its) (g2:Vals ws its2)
  (ih:∀ (j:Nat) (x y:T),xs[j]? = some x -> ys[j]? = some y -> ∀ (v w:V) (a b:Value),Rep X.K H B v x -> Rep X.K H B w y -> RelV v a -> RelV w b -> SeqAt.EqAt A s a b (e j)) :
  ∀ j (h1:j < its.toArray.size) (h2:j < its2.toArray.size),SeqAt.EqAt A s its.toArray[j] its2.toArray[j] (e j):=by
 intro j h1 h2;have l1:=g1.length;have l2:=g2.length;have l3:=r1.length;have l4:=r2.length;rw [List.size_toArray] at h1 h2;have hx:=List.getElem?_eq_getElem (show j < xs.length by lia)
 have hy:=List.getElem?_eq_getElem (show j < ys.length by lia)
 obtain ⟨v1,q1,p1⟩:=r1.get hx;obtain ⟨v2,q2,p2⟩:=r2.get hy;obtain ⟨u1,e1,f1⟩:=g1.get q1;obtain ⟨u2,e2,f2⟩:=g2.get q2;have z1:its.toArray[j] = u1:=by
  rw [List.getElem?_eq_getElem h1] at e1;simpa using e1
 have z2:its2.toArray[j] = u2:=by
  rw [List.getElem?_eq_getElem h2] at e2;simpa using e2
 rw [z1,z2];exact ih j _ _ hx hy v1 v2 u1 u2 p1 p2 f1 f2
theorem size_all {vs ws:List V} {xs ys:List T} {its its2:List Value} (e:Nat -> Bool) (r1:Reps X.K H B vs xs) (r2:Reps X.K H B ws ys) (g1:Vals vs its) (g2:Vals ws its2):((List.range (min its.toArray.size its2.toArray.size)).all e && its.toArray.size == its2.toArray.size) = allE xs.length ys.length e:=by
 have l1:=g1.length;have l2:=g2.length;have l3:=r1.length;have l4:=r2.length;unfold allE;rw [List.size_toArray,List.size_toArray,<- l1,<- l2,l3,l4]
theorem eqAt_D {n:Nat} {t u:T} {b:Bool} (d:EqD n t u b):∀ (I:Inv X pins σ H s) {A:Around} (hu:A.units + n < cLine) (v w:V) (a c:Value),Rep X.K H B v t -> Rep X.K H B w u -> RelV v a -> RelV w c -> SeqAt.EqAt A s a c b:=by
 induction d with
 | flat f1 f2 =>
  intro I A hu v w a c h1 h2 r1 r2;obtain ⟨z1,z2,z3⟩:=Y.eqF_V h1 h2 f1 f2;rw [<- z3];exact eqAt_V r1 r2 z1 z2
 | tup e h ih =>
  intro I A hu v w a c h1 h2 r1 r2;rename_i n xs ys;have h1':=h1;have h2':=h2
  cases h1 with
  | tup n1 a1 q1 => cases h2 with
   | tup n2 a2 q2 =>
    rename_i p1 vs p2 ws
    cases r1;cases r2
    by_cases z:p1 = p2
    ·subst z;rw [(EqD.tup (n:=n) e h).same h1' h2'];exact SeqAt.EqAt.same _
    ·obtain ⟨its,g1,pl1,_⟩:=I.tuple (SqT.of a1);obtain ⟨its2,g2,pl2,_⟩:=I.tuple (SqT.of a2);rw [<- size_all (X:=X) e q1 q2 g1 g2];exact SeqAt.EqAt.of_refs z (SeqAt.RcAt.tuples pl1 pl2 (by lia) (items_eq (n:=n) q1 q2 g1 g2 fun j x y hx hy v w a c => ih j x y hx hy I (A:=A.in1) (by show A.units + 1 + n < cLine;lia) v w a c))
 | lst e h ih =>
  intro I A hu v w a c h1 h2 r1 r2;rename_i n xs ys;have h1':=h1;have h2':=h2
  cases h1 with
  | lst n1 a1 q1 => cases h2 with
   | lst n2 a2 q2 =>
    rename_i p1 vs p2 ws
    cases r1;cases r2
    by_cases z:p1 = p2
    ·subst z;rw [(EqD.lst (n:=n) e h).same h1' h2'];exact SeqAt.EqAt.same _
    ·obtain ⟨its,g1,pl1,_⟩:=I.list (SqL.of a1);obtain ⟨its2,g2,pl2,_⟩:=I.list (SqL.of a2);have sz:=size_all (X:=X) e q1 q2 g1 g2;rw [<- sz];by_cases hs:its.toArray.size = its2.toArray.size
     ·rw [hs,Nat.min_self,beq_self_eq_true,Bool.and_true,<- hs];exact SeqAt.EqAt.of_refs z (SeqAt.RcAt.lists pl1.isList pl2.isList hs (by lia) (items_eq (n:=n) q1 q2 g1 g2 fun j x y hx hy v w a c => ih j x y hx hy I (A:=A.in1) (by show A.units + 1 + n < cLine;lia) v w a c))
     ·rw [beq_eq_false_iff_ne.mpr hs,Bool.and_false];exact SeqAt.EqAt.of_refs z (SeqAt.RcAt.lists_lengths pl1.isList pl2.isList (bne_iff_ne.mpr hs) (by lia))
end
namespace Y
def rEqD (K:PySem.W.Frag) (n:Nat) (neg:Bool):R2:=fun x y H Q => ∃ (B:AP') (a b:Addr) (vs ws:List V) (xs ys:List T) (e:Nat -> Bool),x = .ref a /\ y = .ref b /\ ((SqT K H a vs /\ SqT K H b ws) \/ (SqL K H a vs /\ SqL K H b ws)) /\ Reps K H B vs xs /\ Reps K H B ws ys /\
 (∀ (j:Nat) (x y:T),xs[j]? = some x -> ys[j]? = some y -> EqD n x y (e j)) /\ Q (.bl (if neg then !allE xs.length ys.length e else allE xs.length ys.length e)) H
theorem op_eqD0 {X:Cx} {n:Nat} (hu:X.A.units + n + 1 < cLine):OpR X (compareOp .Eq) (rEqD X.K n false):=by
 intro pins s σ H x y v u Q I rx ry h;obtain ⟨B,a,b,vs,ws,xs,ys,e,rfl,rfl,hq,r1,r2,ih,q⟩:=h
 cases rx;cases ry
 have it:∀ (j:Nat) (x y:T),xs[j]? = some x -> ys[j]? = some y -> ∀ (v w:V) (a b:Value),Rep X.K H B v x -> Rep X.K H B w y -> RelV v a -> RelV w b -> SeqAt.EqAt X.A.in1 s a b (e j):=fun j x y hx hy v w a c => eqAt_D (ih j x y hx hy) I (A:=X.A.in1) (by show X.A.units + 1 + n < cLine;lia) v w a c
 rcases hq with ⟨ha,hb⟩ | ⟨ha,hb⟩
 ·obtain ⟨its,g1,p1,_⟩:=I.tuple ha;obtain ⟨its2,g2,p2,_⟩:=I.tuple hb;refine SeqAt.eq_tupleAt p1 p2 (by lia) (items_eq (n:=n) r1 r2 g1 g2 it) ⟨.bl _,H,I,rfl,?_⟩
  rw [size_all (X:=X) e r1 r2 g1 g2];exact q
 ·obtain ⟨its,g1,p1,_⟩:=I.list ha;obtain ⟨its2,g2,p2,_⟩:=I.list hb;have sz:=size_all (X:=X) e r1 r2 g1 g2;by_cases hs:its.toArray.size = its2.toArray.size
  ·rw [hs,Nat.min_self,beq_self_eq_true,Bool.and_true,<- hs] at sz;refine SeqAt.eq_listAt p1.isList p2.isList hs (by lia) (items_eq (n:=n) r1 r2 g1 g2 it) ⟨.bl _,H,I,rfl,?_⟩
   rw [sz];exact q
  ·rw [beq_eq_false_iff_ne.mpr hs,Bool.and_false] at sz;refine SeqAt.eq_list_lengthsAt p1.isList p2.isList (bne_iff_ne.mpr hs) (by lia) ⟨.bl _,H,I,rfl,?_⟩
   rw [sz];exact q
end Y
namespace Y
end Y
theorem hu4_of {A:Around} {k:Nat} (hr:Room k A):A.units + 4 + 1 < cLine:=Nat.lt_of_le_of_lt (Nat.add_le_add_left (by decide:4 + 1 <= 64) _) hr.units
namespace Y
def rEqX (K:PySem.W.Frag):R2:=fun x y H Q => rEqG K x y H Q \/ rEqD K 4 false x y H Q
theorem op_eqX {X:Cx} (K:PySem.W.Frag) (hK:X.K = K) (hu:X.A.units + 4 + 1 < cLine):OpR X (compareOp .Eq) (rEqX K):=by subst hK;exact (op_eqG X.K rfl (by lia)).or (op_eqD0 hu)
def deepE (xs ys:List T) (neg:Bool) (μ:Mu) (Q:R -> Mu -> Prop):Prop:=∃ e:Nat -> Bool,(∀ (j:Nat) (x y:T),xs[j]? = some x -> ys[j]? = some y -> EqD 4 x y (e j)) /\ Q (.tr (.bl (if neg then !allE xs.length ys.length e else allE xs.length ys.length e))) μ
def tEqX:T -> T -> Mu -> (R -> Mu -> Prop) -> Prop:=fun t u μ Q => match t,u with
 | .tup xs,.tup ys => deepE xs ys false μ Q
 | .lst xs,.lst ys => deepE xs ys false μ Q
 | t,u => tEq false t u μ Q
theorem ro_eqX {K:PySem.W.Frag}:ROp K (rEqX K) (byT tEqX):=byT_of fun F ad B σ H μ Q Qt x y t u hK l v1 v2 q k => by
 unfold tEqX at q
 split at q
 ·obtain ⟨e,h,q⟩:=q;subst hK
  cases v1 with
  | tup ha ra => cases v2 with
   | tup hb rb => exact .inr ⟨B,_,_,_,_,_,_,e,rfl,rfl,.inl ⟨SqT.of ha,SqT.of hb⟩,ra,rb,h,k _ H _ (Vr.flat l (.bl _)) Fr.refl q⟩
 ·obtain ⟨e,h,q⟩:=q;subst hK
  cases v1 with
  | lst ha ra => cases v2 with
   | lst hb rb => exact .inr ⟨B,_,_,_,_,_,_,e,rfl,rfl,.inr ⟨SqL.of ha,SqL.of hb⟩,ra,rb,h,k _ H _ (Vr.flat l (.bl _)) Fr.refl q⟩
 ·subst hK;unfold tEq at q
  split at q
  ·cases v1;cases v2
   refine .inl (.inl ⟨rfl,?_⟩);rw [dV (f:=V.int) (fun a b h => by injection h)]
   exact k _ H _ (Vr.flat l (.bl _)) Fr.refl q
  ·cases v1;cases v2
   refine .inl (.inl ⟨rfl,?_⟩);rw [dV (f:=V.str) (fun a b h => by injection h)]
   exact k _ H _ (Vr.flat l (.bl _)) Fr.refl q
  ·cases v1;cases v2
   refine .inl (.inl ⟨rfl,?_⟩);rw [dV (f:=V.bl) (fun a b h => by injection h)]
   exact k _ H _ (Vr.flat l (.bl _)) Fr.refl q
  ·exfalso;simp_all
  ·exfalso;simp_all
  ·exact q.elim
end Y
namespace A
theorem tEqXT (xs ys:List T) (μ:Mu) (Q:R -> Mu -> Prop):Y.tEqX (.tup xs) (.tup ys) μ Q = Y.deepE xs ys false μ Q:=rfl
theorem tEqXL (xs ys:List T) (μ:Mu) (Q:R -> Mu -> Prop):Y.tEqX (.lst xs) (.lst ys) μ Q = Y.deepE xs ys false μ Q:=rfl
theorem tEqXI (i j:Int) (μ:Mu) (Q:R -> Mu -> Prop):Y.tEqX (.int i) (.int j) μ Q = Q (.tr (.bl (decide (i = j)))) μ:=rfl
theorem tEqXS (i j:Str) (μ:Mu) (Q:R -> Mu -> Prop):Y.tEqX (.str i) (.str j) μ Q = Q (.tr (.bl (decide (i = j)))) μ:=rfl
theorem tEqXB (i j:Bool) (μ:Mu) (Q:R -> Mu -> Prop):Y.tEqX (.bl i) (.bl j) μ Q = Q (.tr (.bl (decide (i = j)))) μ:=rfl
end A
namespace Y
end Y
namespace A
end A
structure XKin (K:PySem.W.Frag) (C:Addr):Prop where
 ga:PySem.W.findIn K (.ref C) "__getattribute__" = some (some (.builtin "BaseException.__getattribute__"))
 gt:PySem.W.findIn K (.ref C) "__getattr__" = some none
 ck:PySem.W.findIn K (.ref C) "__class__" = some (some (.builtin "object.__class__"))
 sp:PySem.W.specialIn K (.builtin "object.__class__") "__get__" = some (some (.builtin "getset_descriptor.__get__"))
 tk:PySem.W.takesIn K (.builtin "object.__class__") = some true
 mo:PySem.W.mroIn K C (.type "object") = some true
 mb:PySem.W.mroIn K C (.type "BaseException") = some true
section
variable {prog:Program} {w:World} {A:Around} {E:Value -> Shared -> Prop} {s:Shared} {K:PySem.W.Frag} {x C:Addr} {ox:Obj}
end
theorem cls_of_mro {K:PySem.W.Frag} {C:Addr} {v:Value} {b:Bool} (e:PySem.W.mroIn K C v = some b):∃ c d cd sl,K.lookup C = some ⟨c,d,.cls cd,sl⟩:=by
 unfold PySem.W.mroIn PySem.W.clsIn at e
 split at e
 ·rename_i c d cd sl q;exact ⟨c,d,cd,sl,q⟩
 ·cases e
theorem vals_refs:∀ {ds:List Addr} {us:List Value},Vals (ds.map V.ref) us -> us = ds.map Value.ref
 | [],_,.nil => rfl
 | d :: ds,u :: us,.cons h r => by
  have h':u = Value.ref d:=h;rw [h',vals_refs r];rfl
section
variable {X:Cx}
end
namespace Y
section
variable {X:Cx} {a:Expr} {es:List Expr} {ua:UE} {pos p p3:Pos} {x:Str}
end
end Y
section
variable {X:Cx} {pins:List (Addr × Obj)} {σ:St} {H:Hp} {s:Shared}
theorem name_goes {M:Model} {A:Around} {E:Value -> Shared -> Prop} {i:Nat} {x:Str} {pos:Pos} {Q:Unit -> Shared -> Prop} (I:Inv X pins σ H s) (hN:X.N.Nodup) (hi:X.N[i]? = some x) (hk:X.env.kindOf x = some .local)
  (hq:∀ s',Inv X pins (σ.set i none) H s' -> Q () s'):wpAny M A (do bindName X.env x .none;unbindBehindTheSuite X.env x pos) Q E s:=by
 obtain ⟨m,hn,hl⟩:=id I.loc;have hcls:(X.env.scope.kind == .class || (X.env.scope.kind == .module && X.env.locals != X.env.globals)) = false:=by rw [I.ok.kind];rfl
 have cne:=I.cne;refine wpAny_nameGoes_keeps hk hn hcls fun h' v hn' hs => hq _ ?_;have keep:∀ b o,b ≠ X.env.locals -> s.heap.get? b = some o -> h'.get? b = some o:=fun b o n q => (hs.2 b n).trans q;have neL:∀ b o,X.s₀.heap.get? b = some o -> b ≠ X.env.locals:=fun b o e => Nat.ne_of_lt (Nat.lt_of_lt_of_le (Heap.lt_size e) I.ok.above);refine ⟨I.ok,I.os,I.bare,⟨fun b o e n hb hx => keep b o (neL b o e) (I.base.keep b o e n hb hx),fun b o e n hb hx => ?_,I.base.free,fun b o e hx => ?_,I.base.tups,I.base.frzs,I.base.tbls⟩,⟨_,hn',fun j y v' e1 e2 e3 => ?_⟩,fun y c e => ?_,I.free,I.freeC,fun p hp => ?_,fun b ob e => ?_,by simpa using I.len⟩
 ·obtain ⟨sl,e1⟩:=I.base.slot b o e n hb hx;exact ⟨sl,keep b _ (neL b o e) e1⟩
 ·obtain ⟨o',e1⟩:=I.base.there b o e hx;exact ⟨o',keep b _ (neL b o e) e1⟩
 ·by_cases hj:j = i
  ·subst hj;have:j < σ.length:=by rw [I.len];exact (List.getElem?_eq_some_iff.mp hi).1
   rw [List.getElem?_set_self this] at e2;cases e2
  ·rw [List.getElem?_set_ne (Ne.symm hj)] at e2;obtain ⟨u',r',q⟩:=hl j y v' e1 e2 e3;refine ⟨u',r',?_⟩;rcases q with ⟨k,e⟩ | ⟨k,c,e,z⟩
   ·refine .inl ⟨k,?_⟩;have:y ≠ x:=fun e => hj (nodup_ix hN e1 (e ▸ hi));simp [this,e]
   ·exact .inr ⟨k,c,e,z.sameBut hs (cne y c e)⟩
 ·obtain ⟨w',z⟩:=I.cell y c e;exact ⟨w',z.sameBut hs (cne y c e)⟩
 ·obtain ⟨e,n,ne,nf,d⟩:=I.pin p hp;exact ⟨keep _ _ ne e,n,ne,nf,d⟩
 ·refine (I.hok b ob e).stay (fun c w' hc q => keep c w' ?_ q) (fun _ q => q) (fun _ _ q => q) fun _ _ _ q => q;rintro rfl;rcases hc with rfl | hc
  ·rw [I.free] at e;cases e
  ·rw [I.free] at hc;cases hc
end
theorem Rl.unset {F:Fx} {ad:Nat -> Addr} {B:AP'} {σ:St} {H:Hp} {μ:Mu} {i:Nat} (l:Rl F ad B σ H μ) (hp:∀ c,μ[i]? ≠ some (.pb c)):Rl F ad B (σ.set i none) H (μ.set i .un):=by
 have get:∀ (j:Nat) (s':Sl),(μ.set i .un)[j]? = some s' -> (j = i /\ s' = .un) \/ (j ≠ i /\ μ[j]? = some s'):=fun j s' e => by
  by_cases z:i = j
  ·subst z;rw [List.getElem?_set] at e;by_cases hi:i < μ.length
   ·simp [hi] at e;exact .inl ⟨rfl,e.symm⟩
   ·simp [hi] at e
  ·rw [List.getElem?_set_ne z] at e;exact .inr ⟨fun q => z q.symm,e⟩
 have back:∀ (j:Nat) (c:T),μ[j]? = some (.pb c) -> (μ.set i .un)[j]? = some (.pb c):=fun j c e => by
  rw [List.getElem?_set_ne (fun z => hp c (by rw [z];exact e))];exact e
 refine ⟨by rw [List.length_set,List.length_set];exact l.len,fun j s' e => ?_,fun j k s1 s2 c1 c2 e1 e2 b1 b2 q => ?_,fun j a p => ?_,l.bc,l.trk,l.old,fun a ws ga => ?_⟩
 ·rcases get j s' e with ⟨_,rfl⟩ | ⟨z,e⟩
  ·trivial
  ·rw [List.getElem?_set_ne (Ne.symm z)];exact l.slot j s' e
 ·rcases get j s1 e1 with ⟨_,rfl⟩ | ⟨_,e1⟩
  ·cases b1
  ·rcases get k s2 e2 with ⟨_,rfl⟩ | ⟨_,e2⟩
   ·cases b2
   ·exact l.inj j k _ _ _ _ e1 e2 b1 b2 q
 ·obtain ⟨⟨d,hd⟩,ha⟩:=l.par j a p;exact ⟨⟨d,back j d hd⟩,ha⟩
 ·obtain ⟨g1,g2,g3⟩:=l.gh a ws ga;refine ⟨g1,g2,fun j s' d e b' => ?_⟩;rcases get j s' e with ⟨_,rfl⟩ | ⟨_,e⟩
  ·cases b'
  ·exact g3 j s' d e b'
namespace Y
end Y
namespace A
end A
section
variable {prog:Program} {w:World} {A:Around} {E:Value -> Shared -> Prop} {s:Shared} {K:PySem.W.Frag} {x C:Addr} {ox:Obj} {od:Option Obj}
theorem exc_entry2 {tk:Tok} {Q:Fin -> Shared -> Prop} (KX:XKin K C) (X:K.In s.heap) (I:PySem.W.InstAt s.heap x ox C od) (h:Q (.done (.ret (.ref C))) s):wpAny (model prog w) A (Builtin.«object.__getattribute__» ⟨[.ref x,.str "__class__" tk],[]⟩) Q E s:=by
 obtain ⟨cd,hcd⟩:∃ cd,PySem.W.clsIn K C = some cd:=by
  have:=KX.mo;unfold PySem.W.mroIn at this
  cases q:PySem.W.clsIn K C with
  | none => rw [q] at this;cases this
  | some cd => exact ⟨cd,rfl⟩
 have hf:PySem.W.findObj K C od "__class__" = some (.bind (.builtin "getset_descriptor.__get__") (.builtin "object.__class__")):=by
  unfold PySem.W.findObj;rw [hcd,Option.bind_some,KX.ck,Option.bind_some];simp [KX.sp,KX.tk]
 have L0:=I.type (M:=model prog w);have L1:=PySem.W.looks_find (M:=model prog w) X I hf;obtain ⟨hh,g,d,t,os⟩:=s;unfold Builtin.«object.__getattribute__»
 repeat (any_goals (first | assumption | with_reducible refine wpAny_bind (L0.at ?_) | with_reducible refine wpAny_bind (L1.at ?_) | wp_step))
 exact PySem.W.class_get X I KX.mo (wpAny_pure h)
theorem exc_own {tk:Tok} {name:Str} {v:Value} {Q:Fin -> Shared -> Prop} (X:K.In s.heap) (I:PySem.W.InstAt s.heap x ox C od) (hf:PySem.W.findObj K C od name = some (.value v)) (h:Q (.done (.ret v)) s):wpAny (model prog w) A (Builtin.«object.__getattribute__» ⟨[.ref x,.str name tk],[]⟩) Q E s:=by
 have L0:=I.type (M:=model prog w);have L1:=PySem.W.looks_find (M:=model prog w) X I hf;obtain ⟨hh,g,d,t,os⟩:=s;unfold Builtin.«object.__getattribute__»
 repeat (any_goals (first | assumption | with_reducible refine wpAny_bind (L0.at ?_) | with_reducible refine wpAny_bind (L1.at ?_) | wp_step))
theorem exc_ga {name:Str} {v:Value} {fill expr:Bool} {Q:Value -> Shared -> Prop} (KX:XKin K C) (X:K.In s.heap) (I:PySem.W.InstAt s.heap x ox C od) (hh:PySem.W.handedIn v = true)
  (ent:∀ (A':Around) (Q':Fin -> Shared -> Prop) (E':Value -> Shared -> Prop) (t':Nat),Q' (.done (.ret v)) { s with toks:=t' } -> wpAny (model prog w) A' (Builtin.«object.__getattribute__» ⟨[.ref x,.str name s.toks],[]⟩) Q' E' { s with toks:=t' })
  (h:Q v { s with toks:=s.toks + 1 }):wpAny (model prog w) A (getAttrBy (.ref x) (.str name s.toks) fill expr) Q E { s with toks:=s.toks + 1 }:=by
 have L0:=I.type (M:=model prog w);have L1:=PySem.W.looks_findIn (M:=model prog w) X KX.ga;have L2:=PySem.W.looks_findIn (M:=model prog w) X KX.gt;have LB:PySem.W.Looks (model prog w) s.heap (isInstance (.ref x) (.type "BaseException")) true:=L0.andThen (PySem.W.looks_mroIn (M:=model prog w) X KX.mb);have fb:=PySem.F.attr_ValueError.ga.bind (.ref x);have n1:(onTheHeap (Value.ref C) && Value.builtin "BaseException.__getattribute__" == Value.builtin "object.__getattribute__") = false:=by
  rw [show (Value.builtin "BaseException.__getattribute__" == Value.builtin "object.__getattribute__") = false from by decide +kernel];rfl
 obtain ⟨hp,g,d,t,os⟩:=s;unfold getAttrBy;refine wpAny_holding (wpAny_bind (L0.at (wpAny_bind (L1.at ?_))));dsimp only;rw [if_neg (by rw [n1];decide)]
 unfold getAttrByItsOwn hookBefore;rw [if_pos (show onTheHeap (Value.ref C) = true from rfl)];refine wpAny_bind (L2.at (wpAny_bind (wpAny_attempt (wpAny_holding ?_))));unfold callGetattribute boundAndCalled;rw [show (expr && onTheHeap (Value.builtin "BaseException.__getattribute__")) = false from Bool.and_false _,if_neg (by decide),fb]
 refine wpAny_bind (wpAny_pure (wpAny_call ?_));refine codeAny_call_builtin PySem.F.attr_ValueError.ga.plain PySem.F.entry_bexc_ga ?_;have hk:builtinKind "BaseException.__getattribute__" = some .slot:=by decide +kernel
 have hsp:splitId "BaseException.__getattribute__" = some ("BaseException","__getattribute__"):=by decide +kernel
 have ha:=PySem.F.args_bexc_ga (.ref x) (.str name t);simp only [checkBuiltinCall,hk,hsp];show wpAny _ _ (isInstance (.ref x) (.type "BaseException") >>= _) _ _ _;refine wpAny_bind (LB.at ?_);rw [if_neg (by decide)]
 unfold argsOk at ha;have fin:∀ (A':Around),wpAny (model prog w) A (handedOut v) Q E ⟨hp,g,d,t + 1,os⟩:=fun _ => by rw [PySem.W.handedOut_of hh];exact wpAny_pure h
 cases q:Manifest.signature? "BaseException.__getattribute__" with
 | none =>
  refine wpAny_pure (ent _ _ _ _ ?_);exact fin A
 | some sg =>
  rw [q] at ha;have ha':Bind.checkArgs "BaseException.__getattribute__" sg ⟨[.ref x,.str name t],[]⟩ = pure ():=ha;show wpAny _ _ (Bind.checkArgs "BaseException.__getattribute__" sg ⟨[.ref x,.str name t],[]⟩) _ _ _;rw [ha'];refine wpAny_pure (ent _ _ _ _ ?_);exact fin A
theorem exc_get {name:Str} {v:Value} {expr:Bool} {Q:Value -> Shared -> Prop} (KX:XKin K C) (X:K.In s.heap) (I:PySem.W.InstAt s.heap x ox C od) (hf:PySem.W.findObj K C od name = some (.value v)) (hh:PySem.W.handedIn v = true)
  (h:Q v { s with toks:=s.toks + 1 }):wpAny (model prog w) A (getAttr (.ref x) name expr) Q E s:=by
 unfold getAttr;refine wpAny_bind (wpAny_mkText ?_);exact exc_ga KX X I hh (fun A' Q' E' t' z => exc_own (s:={ s with toks:=t' }) X I hf z) h
theorem exc_class2 {Q:Option Value -> Shared -> Prop} (KX:XKin K C) (X:K.In s.heap) (I:PySem.W.InstAt s.heap x ox C od) (h:Q (some (.ref C)) { s with toks:=s.toks + 1 }):wpAny (model prog w) A (getAttr? (.ref x) "__class__") Q E s:=by
 unfold getAttr? getAttrBy?;refine wpAny_bind (wpAny_mkText (wpAny_bind (wpAny_attempt ?_)));exact exc_ga KX X I rfl (fun A' Q' E' t' z => exc_entry2 (s:={ s with toks:=t' }) KX X I z) (wpAny_pure h)
theorem exc_set {vs:Array Value} {name:Str} {v:Value} {cd:ClassData} {S:Addr} {Q:Unit -> Shared -> Prop} (KX:XKin K C) (X:K.In s.heap) (hx:s.heap.get? x = some ox) (hcl:ox.cls = .ref C) (hdn:ox.dict = none) (hfd:ox.data = .fields vs)
  (hc:PySem.W.clsIn K C = some cd) (hmr:cd.mro = [.ref C,.ref S,.type "ValueError",.type "Exception",.type "BaseException",.type "object"]) (hhd:cd.hasDict = true)
  (hs:PySem.W.findIn K (.ref C) "__setattr__" = some (some (.builtin "object.__setattr__"))) (ha:PySem.W.findIn K (.ref C) name = some none)
  (h:∀ (h':Heap) (tk':Nat),h'.get? x = some { ox with dict:=some s.heap.objs.size } -> h'.Ns1 s.heap.objs.size (fun y => if y = name then some v else none) -> (∀ b o,b ≠ x -> s.heap.get? b = some o -> h'.get? b = some o) -> Q () { s with heap:=h',toks:=tk' }) :
  wpAny (model prog w) A (setAttr (.ref x) name v) Q E s:=by
 have I:PySem.W.InstAt s.heap x ox C none:=⟨hx,hcl,by unfold PySem.W.notCls;rw [hfd],by rw [hdn];trivial⟩
 refine PySem.W.set_plain X I hs ?_;have SF:=PySem.F.store_ValueError;obtain ⟨hp,g,d,t,os⟩:=s;have L0:=I.type (M:=model prog w);have sub:PySem.W.Looks (model prog w) hp (isInstance (.ref x) (.type "object")) true:=L0.andThen (PySem.W.looks_mroIn (M:=model prog w) X KX.mo);refine codeAny_call_builtin SF.slot.plain SF.entry (@PySem.W.check_slot (model prog w) _ _ ⟨hp,g,d,t + 1,os⟩ "object.__setattr__" "object" "__setattr__" (.ref x) [.str name t,v] [] _ SF.kind SF.split sub (SF.args (.ref x) (.str name t) v) ?_);have hm:PySem.W.Looks (model prog w) hp (mroOf (.ref C)) cd.mro:=(PySem.W.looks_clsIn X hc).andThen .now;have hpass:=SF.passes (.ref x);rw [PySem.W.osa_eq,refuse_eq];refine wpAny_bind (wpAny_bind (L0.at (wpAny_bind (hm.at ?_))));rw [hmr,refuseLoop_ref,refuseLoop_ref,hpass];refine wpAny_pure (wpAny_bind (L0.at (wpAny_bind ((PySem.W.looks_findIn (M:=model prog w) X ha).at (wpAny_bind ((show PySem.W.Looks (model prog w) hp (Builtin.ObjectAttr.storeTaker? none) none from .now).at ?_))))));obtain ⟨oc,odt,oda,osl⟩:=ox;obtain rfl:oc = .ref C:=hcl;obtain rfl:odt = none:=hdn;obtain rfl:oda = .fields vs:=hfd;have hx':hp.get? x = some ⟨.ref C,none,.fields vs,osl⟩:=hx;have hxs:x ≠ hp.objs.size:=Nat.ne_of_lt (Heap.lt_size hx');refine wpAny_bind (wpAny_pure (wpAny_bind (wpAny_bind (wpAny_loadPart hx' (wpAny_bind (PySem.W.Looks.here (s:=⟨hp,g,d,t + 1,os⟩) (PySem.W.looks_clsIn X hc) ?_))))));rw [hhd];have hx₁:(hp.push { cls:=.type "dict",data:=.dict #[] }).get? x = some ⟨.ref C,none,.fields vs,osl⟩:=Heap.get?_push_of_some _ hx';refine wpAny_bind (wpAny_alloc' ?_);refine wpAny_bind (wpAny_update' hx₁ ?_);refine wpAny_pure ?_;have hgd:((hp.push { cls:=.type "dict",data:=.dict #[] }).update x fun o => { cls:=o.cls,dict:=some hp.objs.size,data:=o.data,slots:=o.slots }).get? hp.objs.size
   = some { cls:=.type "dict",data:=.dict #[] } :=
  (Heap.get?_update_ne _ _ _ _ hxs.symm).trans (Heap.get?_push_at rfl rfl)
 have hnd:((hp.push { cls:=.type "dict",data:=.dict #[] }).update x fun o => { cls:=o.cls,dict:=some hp.objs.size,data:=o.data,slots:=o.slots }).Ns hp.objs.size (fun _ => none) :=
  ⟨_,#[],_,hgd,rfl,fun e he => absurd he (by simp),fun _ => rfl⟩
 show wpAny _ _ (Builtin.ObjectAttr.storeInDict hp.objs.size (.str name t) name v) _ _ _;unfold Builtin.ObjectAttr.storeInDict Builtin.ObjectAttr.newKeyGuard;refine wpAny_bind (wpAny_pure (wpAny_bind (wpAny_nsSet1 (Heap.Ns1.of_empty hnd) fun h' hn' hs => ?_)));obtain ⟨oD,esD,epD,hoD,hdD,hcD⟩:=hn'.count (PySem.Within.cons name v PySem.Within.nil);refine wpAny_bind (wpAny_lookBehind hoD (by rw [hdD];exact pastItsLine_dict (Nat.le_trans hcD (by rw [List.length_cons,List.length_nil,sizeLine_eq];lia))) ?_)
 refine wpAny_pure (h h' _ ?_ hn' fun b o hb q => ?_)
 ·exact (hs.2 x hxs).trans (Heap.get?_update_self _ hx₁ rfl)
 ·exact (hs.2 b (Nat.ne_of_lt (Heap.lt_size q))).trans ((Heap.get?_update_ne _ _ _ _ hb).trans (Heap.get?_push_of_some _ q))
end
noncomputable abbrev bmVE:List Value:=[.type "ValueError",.type "Exception",.type "BaseException",.type "object"]
structure XIni (K:PySem.W.Frag) (C S f:Addr) (name:Str):Prop where
 lk:∃ nm qn N bs sn sub ab col dd k0 k1 k2 k3 k5,K.lookup C = some (excClassObj nm qn C N bs (.ref S :: bmVE) true sn sub ab col dd k0 k1 k2 k3 k5 "ValueError.__new__")
 sb:XCls K S
 kin:XKin K C
 hi:PySem.W.findIn K (.ref C) "__init__" = some (some (.ref f))
 hf:PySem.W.typeIn K (.ref f) = some (.type "function")
 hs:PySem.W.findIn K (.ref C) "__setattr__" = some (some (.builtin "object.__setattr__"))
 ha:PySem.W.findIn K (.ref C) name = some none
 kp:PySem.W.keepIn K (.ref C) = true
 si:PySem.W.findCls K (.ref S) (.type "type") "__init__" = some (.val (.builtin "ValueError.__init__"))
 sr:PySem.W.readsIn K S (.type "type") = true
 sg:PySem.W.specialIn K (.ref S) "__getattribute__" = some (some (.builtin "type.__getattribute__"))
section
variable {prog:Program} {w:World} {A:Around} {E:Value -> Shared -> Prop} {s:Shared} {K:PySem.W.Frag} {C S f:Addr} {name:Str}
theorem XIni.tail (x:XIni K C S f name) {h:Heap} (X:K.In h):OwnTail h bmVE (.ref S :: bmVE):=by
 obtain ⟨bm,N,nm,qn,bs,hd,sn,sub,ab,col,dd,k0,k1,k2,k3,k5,lk,tl,_,hns⟩:=x.sb.obj;obtain ⟨mN,hN,hni⟩:=hns h X;exact .own (X _ _ lk) hN hni .base
theorem base_init {e:Addr} {oe:Obj} {vs:Array Value} {rest:List Value} {Q:Value -> Shared -> Prop} (x:XIni K C S f name) (X:K.In s.heap) (he:s.heap.get? e = some oe) (hcls:oe.cls = .ref C) (hfd:oe.data = .fields vs) {a0:Addr} (h0:vs[0]? = some (.ref a0)) (hrest:rest.length <= sizeLine)
  (hq:∀ (h':Heap) (a1:Addr),h'.get? e = some { oe with data:=.fields (vs.setIfInBounds 0 (.ref a1)) } -> (∀ b o,b ≠ e -> s.heap.get? b = some o -> h'.get? b = some o) -> Q .none { s with heap:=h' }) :
  wpAny (model prog w) A (call (.builtin "ValueError.__init__") (.ref e :: rest)) Q E s:=by
 obtain ⟨nm,qn,N,bs,sn,sub,ab,col,dd,k0,k1,k2,k3,k5,lk⟩:=x.lk;have F:=PySem.F.excBase_ValueError;have T:=x.tail X;have hC:=X _ _ lk;obtain ⟨hp,g,d,t,os⟩:=s;refine wpAny_call (codeAny_call_builtin F.init.plain F.initEntry (wpAny_check_init_subU F T hC he hcls ?_));obtain ⟨oc,odt,oda,osl⟩:=oe;obtain rfl:oda = .fields vs:=hfd
 wp_walk
 rw [h0]
 wp_walk
 have hsz:=(Array.getElem?_eq_some_iff.mp h0).1;have he1:(hp.push { cls:=.type "tuple",data:=.seq rest.toArray }).get? e = some ⟨oc,odt,.fields vs,osl⟩:=Heap.get?_push_of_some _ he;rw [if_pos hsz];refine wpAny_update' he1 ?_
 wp_walk
 refine hq _ hp.objs.size ?_ fun b o hb q => ?_
 ·exact Heap.get?_update_self _ he1 rfl
 ·exact (Heap.get?_update_ne _ _ _ _ hb).trans (Heap.get?_push_of_some _ q)
theorem init_type_call {rest:List Value} {Q:Fin -> Shared -> Prop} (x:XIni K C S f name) (X:K.In s.heap) (hrest:rest.length <= sizeLine)
  (hq:∀ h' e,Heap.MadeExcOf s.heap h' e (.ref C) rest -> wpAny (model prog w) A (call (.ref f) (.ref e :: rest)) (fun r s' => r = .none /\ Q (.done (.ret (.ref e))) s') E { s with heap:=h' }) :
  wpAny (model prog w) A (Builtin.«type.__call__» ⟨.ref C :: rest,[]⟩) Q E s:=by
 obtain ⟨nm,qn,N,bs,sn,sub,ab,col,dd,k0,k1,k2,k3,k5,lk⟩:=x.lk;have F:=PySem.F.excBase_ValueError;have T:=x.tail X;have hC:=X _ _ lk;obtain ⟨h,g,d,t,os⟩:=s
 repeat (first | with_reducible refine wpAny_loadPart_at hC ?_ | with_reducible refine wpAny_madeBy_exc hC ?_ | wp_step)
 refine codeAny_call_builtin_code (Code.quiet_builtin _ F.quiet) (wpAny_check_new_subU F F.hasB T hC ?_);refine codeAny_exc_new_subU F F.hasB F T hC ?_ hrest;show wpAny _ _ _ _ _ _;have kp:∀ b o,h.get? b = some o -> ((h.push { cls:=.type "tuple",data:=.seq rest.toArray }).push { cls:=.ref C,data:=.fields #[.ref h.objs.size,.none,.none,.none,.bool false,.none] }).get? b = some o:=fun b o e => Heap.get?_push_of_some _ (Heap.get?_push_of_some _ e);have X₁:=PySem.W.Frag.In.keeps X kp;have hC₁:=X₁ _ _ lk;have hget:((h.push { cls:=.type "tuple",data:=.seq rest.toArray }).push
   { cls:=.ref C,data:=.fields #[.ref h.objs.size,.none,.none,.none,.bool false,.none] }).get? (h.objs.size + 1) = some
   { cls:=.ref C,data:=.fields #[.ref h.objs.size,.none,.none,.none,.bool false,.none] }:=by heap_get
 have hcC:(Value.ref C :: .ref S :: bmVE).contains (.ref C) = true:=by simp
 unfold isInstance
 repeat (first | with_reducible refine wpAny_loadPart_at hget ?_ | (with_reducible refine wpAny_isSubtype_exc hC₁ ?_;rw [hcC]) | wp_step)
 show wpAny _ _ (typeLookup (.ref C) _) _ _ _;refine (PySem.W.looks_findIn (M:=model prog w) X₁ x.hi).at ?_;refine wpAny_holding (wpAny_bind ((PySem.W.bind_fn (M:=model prog w) X₁ (.ref (h.objs.size + 1)) x.hf).at ?_));refine wpAny_bind (wpAny_mono (hq _ (h.objs.size + 1) ⟨kp,Heap.get?_none_of_le (Nat.le_succ _),h.objs.size,hget,Heap.get?_none_of_le (Nat.le_refl _),?_⟩) (fun r s' hr => ?_) fun _ _ x => x)
 ·exact Heap.get?_push_of_some _ (Heap.get?_push_at rfl rfl)
 ·obtain ⟨rfl,hQ⟩:=hr
  wp_walk
  exact hQ
theorem init_call {rest:List Value} {Q:Value -> Shared -> Prop} (x:XIni K C S f name) (X:K.In s.heap) (hrest:rest.length <= sizeLine)
  (hq:∀ h' e,Heap.MadeExcOf s.heap h' e (.ref C) rest -> wpAny (model prog w) (A.under (.builtin "type.__call__" ⟨.ref C :: rest,[]⟩)) (call (.ref f) (.ref e :: rest)) (fun r s' => r = .none /\ Q (.ref e) s') E { s with heap:=h' }) :
  wpAny (model prog w) A (call (.ref C) rest) Q E s:=by
 obtain ⟨nm,qn,N,bs,sn,sub,ab,col,dd,k0,k1,k2,k3,k5,lk⟩:=x.lk;have hC:=X _ _ lk;obtain ⟨h,g,d,t,os⟩:=s;have f1:=tc_lookup;have f2:=tc_bind (.ref C);have hT:(⟨h,g,d,t,os⟩:Shared).TypeIs (.ref C) "type":=⟨_,hC,rfl⟩;refine wpAny_call (codeAny_of_tree ?_);show wpAny _ _ (callAny (.ref C) _) _ _ _
 repeat (any_goals (first | assumption | with_reducible refine wpAny_loadPart_at hC ?_ | wp_step))
 refine ⟨rfl,?_⟩;refine codeAny_call_builtin_at (Code.quiet_builtin _ (by decide +kernel)) entry_typeCall (wpAny_check_type_call_sub hC (init_type_call x X hrest fun h' e hm => ?_))
 exact hq h' e hm
end
def isN (e:Addr) (cls:Value) (d:Option Addr) (h:Heap):Prop:=∃ (oe:Obj) (vs:Array Value) (a0:Addr),h.get? e = some oe /\ oe.cls = cls /\ oe.dict = d /\ oe.data = .fields vs /\ vs[0]? = some (.ref a0) /\ vs[1]? = some Value.none
theorem isN.ok {P:Program} {w:World} {H:Hp} {h:Heap} {e:Addr} {cls:Value} {d:Option Addr} (x:isN e cls d h):ObjOk P w H h e (.ext (isN e cls d)) :=
 ⟨x,let ⟨o,_,_,h1,_⟩:=x;⟨o,h1⟩,fun h1 h2 ⟨o,vs,a0,a,r⟩ k => ⟨o,vs,a0,k o a,r⟩⟩
theorem isN.fl {h:Heap} {e:Addr} {cls:Value} {d:Option Addr} (x:isN e cls d h):Fl h e cls d none:=by
 obtain ⟨oe,vs,a0,h1,h2,h3,h4,_,h5⟩:=x;exact ⟨oe,vs,h1,h2,h3,h4,h5⟩
section
variable {fs ex:List Addr} {H:Hp} {h h':Heap} {e d:Addr} {φ ψ:Heap -> Prop}
theorem Un.exc1 (he:H e = some (.ext φ)) (k:∀ b u,b ≠ e -> h.get? b = some u -> h'.get? b = some u) (te:∃ o,h'.get? e = some o):Un fs ex H (upd H e (.ext ψ)) h h' where
 keep:=fun b u q n _ _ => k b u (fun z => by rw [z,he] at n;cases n) q
 slot:=fun b u q n _ _ => ⟨u.slots,k b u (fun z => by rw [z,he] at n;cases n) q⟩
 free:=fun b u q n _ => by rw [upd_ne (fun z => by rw [z,he] at n;cases n)];exact n
 there:=fun b u q _ => by
  by_cases z:b = e
  ·subst z;exact te
  ·exact ⟨u,k b u z q⟩
 tups:=fun b xs q => by rw [upd_ne (fun z => by rw [z,he] at q;cases q)];exact q
 frzs:=fun b u xs q => by rw [upd_ne (fun z => by rw [z,he] at q;cases q)];exact q
 tbls:=fun b ps q => ⟨#[],by rw [upd_ne (fun z => by rw [z,he] at q;cases q),q];simp⟩
theorem Un.exc2 {o:HO} (he:H e = some (.ext φ)) (k:∀ b u,b ≠ e -> h.get? b = some u -> h'.get? b = some u) (te:∃ o,h'.get? e = some o) (hd:h.get? d = none) (hn:H d = none):Un fs ex H (upd (upd H e (.ext ψ)) d o) h h' where
 keep:=fun b u q n _ _ => k b u (fun z => by rw [z,he] at n;cases n) q
 slot:=fun b u q n _ _ => ⟨u.slots,k b u (fun z => by rw [z,he] at n;cases n) q⟩
 free:=fun b u q n _ => by rw [upd_ne (fun z => by rw [z,hd] at q;cases q),upd_ne (fun z => by rw [z,he] at n;cases n)];exact n
 there:=fun b u q _ => by
  by_cases z:b = e
  ·subst z;exact te
  ·exact ⟨u,k b u z q⟩
 tups:=fun b xs q => by rw [upd_ne (fun z => by rw [z,hn] at q;cases q),upd_ne (fun z => by rw [z,he] at q;cases q)];exact q
 frzs:=fun b u xs q => by rw [upd_ne (fun z => by rw [z,hn] at q;cases q),upd_ne (fun z => by rw [z,he] at q;cases q)];exact q
 tbls:=fun b ps q => ⟨#[],by rw [upd_ne (fun z => by rw [z,hn] at q;cases q),upd_ne (fun z => by rw [z,he] at q;cases q),q];simp⟩
theorem HOk.exc1 {P:Program} {w:World} (x:HOk P w H h) (he:H e = some (.ext φ)) (k:∀ b u,b ≠ e -> h.get? b = some u -> h'.get? b = some u) (new:ObjOk P w (upd H e (.ext ψ)) h' e (.ext ψ)):HOk P w (upd H e (.ext ψ)) h':=fun b u q => by
 by_cases z:b = e
 ·subst z;rw [upd_same] at q;cases q;exact new
 ·rw [upd_ne z] at q;refine (x b u q).stay (fun c v hc r => k c v (fun z2 => ?_) r) (fun c q2 => by rw [upd_ne (fun z2 => by rw [z2,he] at q2;cases q2)];exact q2) (fun c xs q2 => by rw [upd_ne (fun z2 => by rw [z2,he] at q2;cases q2)];exact q2) fun c _ _ q2 => by rw [upd_ne (fun z2 => by rw [z2,he] at q2;cases q2)];exact q2
  rcases hc with rfl | hc
  ·exact z z2
  ·rw [z2,he] at hc;cases hc
theorem HOk.exc2 {P:Program} {w:World} {o:HO} (x:HOk P w H h) (he:H e = some (.ext φ)) (k:∀ b u,b ≠ e -> h.get? b = some u -> h'.get? b = some u) (hn:H d = none) (new:ObjOk P w (upd (upd H e (.ext ψ)) d o) h' e (.ext ψ)) (newD:ObjOk P w (upd (upd H e (.ext ψ)) d o) h' d o):HOk P w (upd (upd H e (.ext ψ)) d o) h':=fun b u q => by
 by_cases z0:b = d
 ·subst z0;rw [upd_same] at q;cases q;exact newD
 ·rw [upd_ne z0] at q;by_cases z:b = e
  ·subst z;rw [upd_same] at q;cases q;exact new
  ·rw [upd_ne z] at q;refine (x b u q).stay (fun c v hc r => k c v (fun z2 => ?_) r) (fun c q2 => by rw [upd_ne (fun z2 => by rw [z2,hn] at q2;cases q2),upd_ne (fun z2 => by rw [z2,he] at q2;cases q2)];exact q2) (fun c xs q2 => by rw [upd_ne (fun z2 => by rw [z2,hn] at q2;cases q2),upd_ne (fun z2 => by rw [z2,he] at q2;cases q2)];exact q2) fun c _ _ q2 => by rw [upd_ne (fun z2 => by rw [z2,hn] at q2;cases q2),upd_ne (fun z2 => by rw [z2,he] at q2;cases q2)];exact q2
   rcases hc with rfl | hc
   ·exact z z2
   ·rw [z2,he] at hc;cases hc
theorem upd_self {o:HO} (he:H e = some o):upd H e o = H:=by
 funext b
 by_cases z:b = e
 ·subst z;rw [upd_same,he]
 ·rw [upd_ne z]
end
def spI (C:Addr) (name:Str):Sp:=fun vs H Q _ => ∃ (e:Addr) (i:Int),vs = [.ref e,.int i] /\ i.natAbs < 2 ^ 1900 /\ H e = some (.ext (isN e (.ref C) none)) /\ ∀ (H':Hp) (d:Addr),(∀ b o,H b = some o -> b ≠ e -> H' b = some o) -> H' e = some (.ext (isN e (.ref C) (some d))) -> H' d = some (.xd [(name,.int i)]) -> H d = none -> Q .non H'
def tIni (C:Addr):TE:=fun σ H Q => ∃ (e:Addr) (i:Int),σ = [some (.ref e),some (.int i)] /\ i.natAbs < 2 ^ 1900 /\ H e = some (.ext (isN e (.ref C) none)) /\ ∀ H':Hp,Same H H' -> Q .non H'
section
variable {X:Cx} {C S f:Addr} {name:Str}
theorem pe_ini {xS:Str} {vs:List Expr} {uj:UE} {p ap p1 p2 pos:Pos} {pl:Sem Bool} (x:XIni X.K C S f name) (hg:Gl X xS) (hm:X.mg xS = some (.ref S)) (hself:QE X (.Name "self" p1) (tVar 0)) (hj:YE X (.JoinedStr vs p2) uj)
  (huj:∀ (i:Int) (Q:R -> Mu -> Prop),i.natAbs < 2 ^ 1900 -> (∀ z:Str,z.length <= 40000 -> Q (.tr (.str z)) [.un,.tr (.int i)]) -> uj [.un,.tr (.int i)] Q)
  (ht:eval (.Call (.Attribute (.Name xS p) "__init__" ap) [.Name "self" p1,.JoinedStr vs p2] [] pos) X.env = (do
   let ov <- eval (.Name xS p) X.env
   standAt ap.atName
   let (f,first) <- holding [ov] (getMethod ov "__init__" pl)
   callWith pos f first (backTo pos (starEach [.Name "self" p1,.JoinedStr vs p2] X.env)) (backToKw pos (keywordEach [] X.env))))
  (hst:autoParam (starEach [.Name "self" p1,.JoinedStr vs p2] X.env = (false,eval (.Name "self" p1) X.env) :: starEach [.JoinedStr vs p2] X.env) L2.aRfl._auto_1) (hpl:autoParam ((backTo pos (starEach [.JoinedStr vs p2] X.env)).any (·.1) = false) L2.aRfl._auto_1) (hdb:autoParam ((xS == ("__debug__":Str)) = false) L2.aDec._auto_1)
  (hst2:autoParam (starEach [.JoinedStr vs p2] X.env = (false,eval (.JoinedStr vs p2) X.env) :: starEach [] X.env) L2.aRfl._auto_1) :
  PE X (.Call (.Attribute (.Name xS p) "__init__" ap) [.Name "self" p1,.JoinedStr vs p2] [] pos) (tIni C):=by
 intro pins s σ H Q I h;obtain ⟨e,i,rfl,hi,he,q⟩:=h;refine PySem.W.methodCall_KW (pl:=pl) (ld_glob I hg hm ?_ hdb) ht;refine PySem.W.method_cls I.kIn x.sg (PySem.W.cls_value I.kIn x.sr x.si rfl ?_);obtain ⟨tj,qj,rj⟩:=hj;have I1:=I.tok (s.toks + 1);have l:Rl ⟨X.K,H,fun _ => none,fun _ => False,fun _ z => z.elim,fun _ => none⟩ (fun _ => 0) (fun _ => False) [some (.ref e),some (.int i)] H [.un,.tr (.int i)]:=by
  refine ⟨rfl,fun j s' e' => ?_,fun j k s1 s2 c1 c2 e1 e2 b1 b2 q => ?_,fun j a z => (by cases z),fun b z => z,fun b z => False.elim z,fun b o z _ => z,fun a ws z => (by cases z)⟩
  ·match j,e' with
   | 0,e' => cases e';trivial
   | 1,e' => cases e';exact ⟨.int i,rfl,.int i⟩
  ·match j,e1 with
   | 0,e1 => cases e1;cases b1
   | 1,e1 => cases e1;cases b1
 have hA:=pa_cons (t:=tCons tj tNil) hself.h (pa_cons qj.h pa_nil hst2) hst pos pins _ _ H (fun vs H1 => ∃ z:Str,vs = [.ref e,.str z] /\ Same H H1) I1 ⟨.ref e,rfl,?_⟩
 ·rw [hst] at hA ⊢;refine Calls.callWith_builtin (by show (false || (backTo pos (starEach [.JoinedStr vs p2] X.env)).any (·.1)) = false;rw [hpl] <;> rfl) (Calls.evalArgs_plain ?_)
  refine thn hA fun us s2 ⟨ws,H2,I2,r,z,ez,eH⟩ => ?_;subst ez;obtain ⟨u1,u2,rfl,r1,r2⟩:=vals2 r;obtain rfl:u1 = Value.ref e:=r1;have hz:=eH _ _ he;obtain ⟨oe,ws,a0,g1,g2,g3,g4,g5,g6⟩:=(show isN e (.ref C) none s2.heap from (I2.hok _ _ hz).1);refine base_init x I2.kIn g1 g2 g4 g5 (by simp [sizeLine_eq]) fun h' u k1 k2 => ?_
  have hsz:=(Array.getElem?_eq_some_iff.mp g5).1;have hN':isN e (.ref C) none h':=⟨_,_,u,k1,g2,g3,rfl,by simp [hsz],by rw [Array.getElem?_setIfInBounds_ne (by decide)];exact g6⟩
  have I3:Inv X pins _ (upd H2 e (.ext (isN e (.ref C) none))) { s2 with heap:=h' }:=I2.un (t':=s2.toks) (Un.exc1 hz k2 ⟨_,k1⟩) (I2.hok.exc1 hz k2 hN'.ok)
  rw [upd_self hz] at I3;exact ⟨.non,H2,I3,rfl,q H2 eH⟩
 ·refine rj _ _ _ _ H _ _ (fun r _ => ∃ z:Str,r = .tr (.str z)) rfl l (huj i _ hi fun z _ => ⟨z,rfl⟩) fun v H' r μ' vr _ _ ⟨z,ez⟩ => ?_;subst ez;obtain ⟨l',rp⟩:=vr;cases rp;exact ⟨z,rfl,fun b o q => l'.old b o q fun i => by simp⟩
def sIni (C:Addr) (name:Str):TS:=fun D σ H => ∃ (e:Addr) (i:Int),σ = [some (.ref e),some (.int i)] /\ H e = some (.ext (isN e (.ref C) none)) /\ ∀ (H':Hp) (d:Addr),(∀ b o,H b = some o -> b ≠ e -> H' b = some o) -> H' e = some (.ext (isN e (.ref C) (some d))) -> H' d = some (.xd [(name,.int i)]) -> H d = none -> D.nx σ H'
theorem ps_ini {o value:Expr} {pos pos':Pos} (x:XIni X.K C S f name) (ho:QE X o (tVar 0)) (hv:QE X value (tVar 1)) (hs:autoParam (swapsWith value (some (.Attribute o name pos')) pos.line X.env = pure false) L2.aRfl._auto_1):PS X (.Assign [.Attribute o name pos'] value pos) (sIni C name):=by
 intro pins s σ H D I h;obtain ⟨e,i,rfl,he,q⟩:=h;refine plainObj_wpAny_Assign_Attribute (thn (hv.h pins s _ H (fun y H1 => y = .int i /\ H1 = H) I ⟨.int i,rfl,rfl,rfl⟩) fun u s1 ⟨y,H1,I1,ry,ey,eH⟩ => thn (ho.h pins s1 _ H1 (fun y H2 => y = .ref e /\ H2 = H1) I1 ⟨.ref e,rfl,rfl,rfl⟩) fun ov s2 ⟨z,H2,I2,rz,ez,eH2⟩ => ?_) hs;subst ey eH ez eH2;obtain rfl:ov = Value.ref e:=rz;obtain ⟨oe,ws,a0,g1,g2,g3,g4,g5,g6⟩:=(show isN e (.ref C) none s2.heap from (I2.hok _ _ he).1);obtain ⟨nm,qn,N,bs,sn,sub,ab,col,dd,k0,k1,k2,k3,k5,lk⟩:=x.lk;obtain ⟨cd,hc,hmr,hhd⟩:∃ cd,PySem.W.clsIn X.K C = some cd /\ cd.mro = [.ref C,.ref S,.type "ValueError",.type "Exception",.type "BaseException",.type "object"] /\ cd.hasDict = true:=by
  unfold PySem.W.clsIn;rw [lk];exact ⟨_,rfl,rfl,rfl⟩
 refine exc_set (S:=S) x.kin I2.kIn g1 g2 g3 g4 hc hmr hhd x.hs x.ha fun h' tk' j1 j2 j3 => ?_;have hd:s2.heap.get? s2.heap.objs.size = none:=Heap.get?_none_of_le (Nat.le_refl _);have hn:=I2.hok.none_of hd;have ne:e ≠ s2.heap.objs.size:=Nat.ne_of_lt (Heap.lt_size g1);have hN':isN e (.ref C) (some s2.heap.objs.size) h':=⟨_,_,a0,j1,g2,rfl,g4,g5,g6⟩;have I3:Inv X pins _ (upd (upd H2 e (.ext (isN e (.ref C) (some s2.heap.objs.size)))) s2.heap.objs.size (.xd [(name,.int i)])) { s2 with heap:=h',toks:=tk' } :=
  I2.un (t':=tk') (Un.exc2 he j3 ⟨_,j1⟩ hd hn) (I2.hok.exc2 he j3 hn hN'.ok ⟨_,j2,fun y => ?_⟩)
 ·refine ⟨_,_,I3,q _ s2.heap.objs.size (fun b o z n => ?_) ?_ upd_same hn⟩
  ·rw [upd_ne (fun z2 => by rw [z2,hn] at z;cases z),upd_ne n];exact z
  ·rw [upd_ne ne,upd_same]
 ·show RelO (match y == name with | true => some (V.int i) | false => List.lookup y []) (if y = name then some u else none)
  by_cases z:y = name
  ·subst z;rw [beq_self_eq_true,if_pos rfl];exact ry
  ·rw [beq_eq_false_iff_ne.mpr z,if_neg z];exact True.intro
end
section
variable {X:Cx} {pins:List (Addr × Obj)} {σ:St} {H:Hp} {s:Shared} {C S f:Addr} {name:Str}
theorem new_run {k:Nat} {fd:FuncData} {ps:List Str} {i:Int} {u:Value} {Q:Value -> Shared -> Prop} (x:XIni X.K C S f name) (F:FnOk X.prog X.w X.K X.mg X.base (CXW X.prog X.w) k f fd ps (spI C name)) (hb:Binds X.K fd ps []) (hr:Room (k + 1) X.A) (hex:X.ex = []) (I:Inv X pins σ H s) (ru:RelV (.int i) u) (hi:i.natAbs < 2 ^ 1900)
  (h:∀ (e d:Addr) (H':Hp) (s':Shared),H e = none -> H d = none -> Same H H' -> H' e = some (.ext (isX e (.ref C) (some d))) -> H' d = some (.xd [(name,.int i)]) -> Inv X pins σ H' s' -> Fl s'.heap e (.ref C) (some d) none -> Nw X pins H' e (.ref C) (some d) none -> Q (.ref e) s') :
  wpAny (model X.prog X.w) X.A (call (.ref C) [u]) Q X.xe s:=by
 refine init_call x I.kIn (by simp [sizeLine_eq]) fun h' e hm => ?_
 have hne:=I.hok.none_of hm.new;obtain ⟨tt,g1,g2,g3⟩:=hm.there;have nN:isN e (.ref C) none h':=⟨_,_,tt,g1,rfl,rfl,rfl,rfl,rfl⟩;have I2:Inv X pins σ (upd H e (.ext (isN e (.ref C) none))) { s with heap:=h' }:=I.un (t':=s.toks) (Un.laidN hm.keeps hm.new hne) (I.hok.laidN hm.keeps hne nN.ok)
 have r2:Vals [V.ref e,.int i] [Value.ref e,u]:=.cons rfl (.cons ru .nil);have hsp:spI C name [V.ref e,.int i] (upd H e (.ext (isN e (.ref C) none))) (fun v H' => v = .non /\ ∃ d,(∀ b o,H b = some o -> b ≠ e -> H' b = some o) /\ H' e = some (.ext (isN e (.ref C) (some d))) /\ H' d = some (.xd [(name,.int i)]) /\ (upd H e (.ext (isN e (.ref C) none))) d = none) (fun _ _ _ => False) :=
  ⟨e,i,rfl,hi,upd_same,fun H' d a b c dd => ⟨rfl,d,fun b' o q n => a b' o (by rw [upd_ne n];exact q) n,b,c,dd⟩⟩
 have hl:([Value.ref e,u] ++ []).length = ps.length:=by rw [List.append_nil,<- r2.length];exact F.len _ _ _ _ hsp
 have hb2:=hb { s with heap:=h' } [Value.ref e,u] I2.kIn hl
 rw [List.append_nil] at hb2;refine wpAny_call (codeAny_mono (F.run _ X.stack _ _ ⟨[Value.ref e,u],[]⟩ [Value.ref e,u] [V.ref e,.int i] _ _ (hr.make C [u] []) (I2.env0.make C [u] []) hb2 r2 hsp) fun r s' hq' => ?_)
 cases r with
 | error y =>
  obtain ⟨_,_,_,_,_,_,_,_,_,_,_,_,_,_,_,_,z⟩:=hq';exact z.elim
 | ok fl =>
  cases fl with
  | ret u' =>
   obtain ⟨v,H',os,bare,un,hok,rv,ev,d,a1,a2,a3,a4⟩:=hq';subst ev;obtain rfl:u' = Value.none:=rv;obtain ⟨hh,g',d',t',os'⟩:=s';obtain rfl:os' = s.os:=os;have I3:Inv X pins σ H' ⟨hh,g',d',t',s.os⟩:=Inv.call (s:={ s with heap:=h' }) (h':=hh) (g':=g') (d':=d') (t':=t') (ch:=[]) I2 un hok bare (fun b z => absurd z (by simp))
   have hde:d ≠ e:=fun z => by rw [z,upd_same] at a4;cases a4
   have hHd:H d = none:=by rw [upd_ne hde] at a4;exact a4
   have hd0:h'.get? d = none:=by
    cases q:h'.get? d with
    | none => rfl
    | some o =>
     have:=un.free d o q a4 (by simp)
     rw [a3] at this;cases this
   have hN':isN e (.ref C) (some d) hh:=(hok _ _ a2).1;have I4:Inv X pins σ (upd H' e (.ext (isX e (.ref C) (some d)))) ⟨hh,g',d',t',s.os⟩:=I3.un (s:=⟨hh,g',d',t',s.os⟩) (t':=t') (Un.exc1 a2 (fun b u _ q => q) (let ⟨o,_,_,q,_⟩:=hN';⟨o,q⟩)) (hok.exc1 a2 (fun b u _ q => q) hN'.fl.is.ok)
   have n0:∀ b,h'.get? b = none -> X.s₀.heap.get? b = none:=fun b z => by
    cases q2:X.s₀.heap.get? b with
    | none => rfl
    | some o =>
     obtain ⟨o',q3⟩:=I2.base.there b o q2 (by rw [hex];simp)
     have q3':h'.get? b = some o':=q3;rw [z] at q3';cases q3'
   have e0:X.s₀.heap.get? e = none:=by
    cases q2:X.s₀.heap.get? e with
    | none => rfl
    | some o =>
     obtain ⟨o',q3⟩:=I.base.there e o q2 (by rw [hex];simp)
     rw [hm.new] at q3;cases q3
   refine ⟨rfl,h e d _ _ hne hHd (fun b o q => ?_) upd_same (by rw [upd_ne hde];exact a3) I4 hN'.fl ⟨upd_same,e0,fun a z => by cases z;exact n0 d hd0,fun T z => by cases z⟩⟩
   have nbe:b ≠ e:=fun z => by rw [z,hne] at q;cases q
   rw [upd_ne nbe];exact a1 b o q nbe
  | next => exact False.elim hq'
  | brk => exact False.elim hq'
  | cont => exact False.elim hq'
end
section
variable {X:Cx} {C S f:Addr} {name:Str}
theorem raise_val {pins:List (Addr × Obj)} {σ:St} {H:Hp} {s:Shared} {D:Ends} {e:Expr} {pos:Pos} (hc:X.calm = true) (I:Inv X pins σ H s) (x:XIni X.K C S f name)
  (h:wpAny (model X.prog X.w) X.A (eval e X.env) (fun v s₁ => ∃ (ea:Addr) (oe:Obj),v = .ref ea /\ X.K.In s₁.heap /\ s₁.heap.get? ea = some oe /\ oe.cls = .ref C /\ (∃ vs,oe.data = .fields vs /\ vs[1]? = some Value.none) /\ X.xe (.ref ea) s₁) X.xe s) :
  wpAny (model X.prog X.w) X.A (exec (.Raise (some e) none pos) X.env) (SP X pins D) X.xe s:=by
 have hh:=I.ok.hd hc;obtain ⟨nm,qn,N,bs,sn,sub,ab,col,dd,k0,k1,k2,k3,k5,lk⟩:=x.lk;rw [arm_exec_Raise];refine wpAny_bind (wpAny_standAt ?_);unfold raiseStmt;refine wpAny_bind (wpAny_bind (wpAny_mono h (fun v s₃ h₃ => wpAny_bind (wpAny_standAt (wpAny_pure ?_))) fun _ _ x => x));obtain ⟨ea,⟨oc,od,oda,osl⟩,rfl,kin,he,hcl,⟨vs,hdt,hv1⟩,hE⟩:=h₃;obtain rfl:oc = .ref C:=hcl;obtain rfl:oda = .fields vs:=hdt;have hC:=kin _ _ lk;have hcB:(Value.ref C :: .ref S :: bmVE).contains (.type "BaseException") = true:=by rw [List.contains_cons,(x.tail kin).hasType PySem.F.excBase_ValueError.hasBase,Bool.or_true]
 obtain ⟨hp,g,d,tk,os⟩:=s₃
 repeat (first | with_reducible refine wpAny_loadPart_at he ?_ | with_reducible refine wpAny_loadPart_at hC ?_ | (with_reducible refine wpAny_isSubtype_exc hC ?_;rw [hcB]) | wp_step)
 rw [hv1]
 repeat wp_step
 exact wpAny_raiseNew_none hh hE
end
namespace Y
section
variable {X:Cx} {C S f:Addr} {name x:Str} {e:Expr} {ue:UE} {p pos cpos:Pos}
def uNew (C:Addr) (name:Str) (ue:UE):UE:=fun μ Q => ue μ fun r μ' => match r with
 | .tr (.int i) => i.natAbs < 2 ^ 1900 /\ Q (.tr (.exc (.ref C) (some (name,i)))) μ'
 | _ => False
theorem new_core {k:Nat} {fd:FuncData} {ps:List Str} (hx:XIni X.K C S f name) (Fn:FnOk X.prog X.w X.K X.mg X.base (CXW X.prog X.w) k f fd ps (spI C name)) (hb:Binds X.K fd ps []) (hr:Room (k + 1) X.A) (hex:X.ex = []) (hg:Gl X x) (hm:X.mg x = some (.ref C)) {te:TE} (qe:QE X e te) (r:RE X.K te ue) (h1:nst e = true) (hdb:(x == ("__debug__":Str)) = false)
  {pins:List (Addr × Obj)} {s:Shared} {Fx0:Fx} {ad:Nat -> Addr} {B:AP'} {σ:St} {H:Hp} {μ:Mu} {Qt:R -> Mu -> Prop} {Q:Value -> Shared -> Prop} (hF:Fx0.K = X.K) (l:Rl Fx0 ad B σ H μ) (q:uNew C name ue μ Qt) (I:Inv X pins σ H s)
  (h:∀ (ea d:Addr) (H':Hp) (s':Shared) (i:Int) (μ':Mu),Rl Fx0 ad B σ H' μ' -> Fr B H B H' -> Kp μ μ' -> ¬ B ea -> ¬ B d -> H' ea = some (.ext (isX ea (.ref C) (some d))) -> H' d = some (.xd [(name,.int i)]) -> Inv X pins σ H' s' -> Fl s'.heap ea (.ref C) (some d) none -> Nw X pins H' ea (.ref C) (some d) none -> Qt (.tr (.exc (.ref C) (some (name,i)))) μ' -> Q (.ref ea) s') :
  wpAny (model X.prog X.w) X.A (eval (.Call (.Name x p) [e] [] cpos) X.env) Q X.xe s:=by
 refine wpAny_Call_Name_kw (ld_glob I hg hm ?_ hdb);refine PySem.W.callWith_K (h₀:=X.base) I.ok.mod.kin hx.kp (thn ((Z.cons qe Z.nil h1).h cpos pins s σ H (fun vs H1 => ∃ v r1 μ1,vs = [v] /\ Vr Fx0 ad B σ H1 μ1 v r1 /\ Fr B H (Bv B v r1) H1 /\ Kp μ μ1 /\ (match r1 with
  | .tr (.int i) => i.natAbs < 2 ^ 1900 /\ Qt (.tr (.exc (.ref C) (some (name,i)))) μ1
  | _ => False)) I (r Fx0 ad B σ H μ _ _ hF l q fun v H1 r1 μ1 w f k1 q1 => ⟨v,r1,μ1,rfl,w,f,k1,q1⟩)) fun us s1 ⟨vs,H1,I1,rv,v,r1,μ1,ev,w,f,k1,q1⟩ => ⟨I1.kIn,?_⟩) (star1 h1) (plain_any rfl)
 subst ev
 split at q1
 ·rename_i i;obtain ⟨l1,rp⟩:=w;cases rp;obtain ⟨u,rfl,ru⟩:=vals1 rv;refine new_run hx Fn hb hr hex I1 ru q1.1 fun ea d H' s' n1 n2 sm tr td I2 fl nw => ?_;exact h ea d H' s' i μ1 (l1.same sm) (f.d.trans (Fr.same sm)) k1 (l1.notB n1) (l1.notB n2) tr td I2 fl nw q1.2
 ·exact q1.elim
theorem newE {k:Nat} {fd:FuncData} {ps:List Str} (hx:XIni X.K C S f name) (Fn:FnOk X.prog X.w X.K X.mg X.base (CXW X.prog X.w) k f fd ps (spI C name)) (hb:Binds X.K fd ps []) (hr:Room (k + 1) X.A) (hex:X.ex = []) (hg:Gl X x) (hm:X.mg x = some (.ref C)) (he:YE X e ue) (h1:autoParam (nst e = true) L2.aRfl._auto_1) (hdb:autoParam ((x == ("__debug__":Str)) = false) L2.aDec._auto_1) :
  YE X (.Call (.Name x p) [e] [] pos) (uNew C name ue):=by
 obtain ⟨t,qe,r⟩:=he;refine ⟨fun σ H Q => ∀ pins s,Inv X pins σ H s -> wpAny (model X.prog X.w) X.A (eval (.Call (.Name x p) [e] [] pos) X.env) (EP X pins σ Q) X.xe s,⟨fun pins s σ H Q I h => h pins s I⟩,?_⟩;intro F ad B σ H μ Q Qt hF l q k pins s I;refine new_core hx Fn hb hr hex hg hm qe r h1 hdb hF l q I fun ea d H' s' i μ' l' f' k' n1 n2 tr td I2 fl nw q' => ?_;exact ⟨.ref ea,H',I2,rfl,k _ H' (.tr (.exc (.ref C) (some (name,i)))) μ' ⟨l',.exa n1 tr n2 td⟩ f' k' q'⟩
def xRaiseI (C:Addr) (name:Str) (ue:UE):UXS:=fun _ Xt μ => uNew C name ue μ fun r μ' => match r with
 | .tr t => Xt t μ'
 | _ => False
theorem xraiseI {k:Nat} {fd:FuncData} {ps:List Str} (hx:XIni X.K C S f name) (Fn:FnOk X.prog X.w X.K X.mg X.base (CXW X.prog X.w) k f fd ps (spI C name)) (hb:Binds X.K fd ps []) (hr:Room (k + 1) X.A) (hc:X.calm = true) (hex:X.ex = []) (hg:Gl X x) (hm:X.mg x = some (.ref C)) (he:YE X e ue) (h1:autoParam (nst e = true) L2.aRfl._auto_1) (hdb:autoParam ((x == ("__debug__":Str)) = false) L2.aDec._auto_1) :
  YXS X (.Raise (some (.Call (.Name x p) [e] [] cpos)) none pos) (xRaiseI C name ue):=by
 obtain ⟨t,qe,r⟩:=he;refine ⟨fun D σ H => ∀ pins s,Inv X pins σ H s -> wpAny (model X.prog X.w) X.A (exec (.Raise (some (.Call (.Name x p) [e] [] cpos)) none pos) X.env) (SP X pins D) X.xe s,⟨fun pins s σ H D I h => h pins s I⟩,?_⟩;intro F D E Xt ad B σ H μ hF l q h hX pins s I;refine raise_val hc I hx (new_core hx Fn hb hr hex hg hm qe r h1 hdb hF l q I fun ea d H' s' i μ' l' f' k' n1 n2 tr td I2 fl nw q' => ?_);obtain ⟨oe,vs,g1,g2,_,g4,g5⟩:=id fl;refine ⟨ea,oe,rfl,I2.kIn,g1,g2,⟨vs,g4,g5⟩,?_⟩;exact hX ad B σ H' μ' (.exc (.ref C) (some (name,i))) (.ref C) (some d) ea l' f' ⟨tr,rfl,d,rfl,td⟩ n1 (fun a z => by cases z;exact n2) q' pins s' none I2 fl nw
end
end Y
structure XAny (K:PySem.W.Frag) (C:Addr):Prop where
 lk:∃ nm qn N bs bm hd sn sub ab col dd k0 k1 k2 k3 k5 nw,K.lookup C = some (excClassObj nm qn C N bs bm hd sn sub ab col dd k0 k1 k2 k3 k5 nw)
theorem XIni.toAny {K:PySem.W.Frag} {C S f:Addr} {name:Str} (x:XIni K C S f name):XAny K C:=by
 obtain ⟨nm,qn,N,bs,sn,sub,ab,col,dd,k0,k1,k2,k3,k5,lk⟩:=x.lk;exact ⟨nm,qn,N,bs,_,true,sn,sub,ab,col,dd,k0,k1,k2,k3,k5,_,lk⟩
structure XHd (K:PySem.W.Frag) (C:Addr):Prop where
 lk:∃ nm qn N bs bm hd sn sub ab col dd k0 k1 k2 k3 k5 nw,K.lookup C = some (excClassObj nm qn C N bs bm hd sn sub ab col dd k0 k1 k2 k3 k5 nw) /\ ∀ h:Heap,K.In h -> bm.contains (.type "BaseException") = true
theorem XCls.toHd {K:PySem.W.Frag} {C:Addr} (x:XCls K C):XHd K C:=by
 obtain ⟨bm,N,nm,qn,bs,hd,sn,sub,ab,col,dd,k0,k1,k2,k3,k5,lk,tl,_⟩:=x.obj;exact ⟨nm,qn,N,bs,bm,hd,sn,sub,ab,col,dd,k0,k1,k2,k3,k5,_,lk,fun h kin => (tl _ kin).hasType PySem.F.excBase_ValueError.hasBase⟩
theorem exc_meetsY {M:Model} {A:Around} {E:Value -> Shared -> Prop} {h:Heap} {g:Array GenState} {d:Drawn} {t:Nat} {os:OsState} {K:PySem.W.Frag} {e C D:Addr} {d0:Option Addr} {Q:Bool -> Shared -> Prop} (kin:K.In h) (hC:XAny K C) (hD:XHd K D) (he:isX e (.ref C) d0 h) (hs:PySem.W.mroIn K C (.ref D) = some true)
  (hq:Q true ⟨h,g,d,t,os⟩):wpAny M A (excMatches (.ref e) (.ref D)) Q E ⟨h,g,d,t,os⟩:=by
 obtain ⟨nm,qn,N,bs,bm,hd,sn,sub,ab,col,dd,k0,k1,k2,k3,k5,nw,lk⟩:=hC.lk;obtain ⟨nm',qn',N',bs',bm',hd',sn',sub',ab',col',dd',k0',k1',k2',k3',k5',nw',lk',tl'⟩:=hD.lk;have gC:=kin _ _ lk;have gD:=kin _ _ lk';obtain ⟨oe,vs,h1,h2,_,_⟩:=he;have c1:(Value.ref D :: bm').contains (.type "BaseException") = true:=by rw [List.contains_cons,tl' _ kin,Bool.or_true]
 have c2:(Value.ref C :: bm).contains (.ref D) = true:=by
  unfold PySem.W.mroIn PySem.W.clsIn at hs;rw [lk] at hs;simp only [excClassObj,Option.bind_some] at hs
  split at hs
  ·cases hs
  ·exact Option.some.inj hs
 have f:=tc_notTuple;unfold excMatches
 repeat (first | (with_reducible refine wpAny_loadPart_at h1 ?_;rw [h2]) | with_reducible refine wpAny_loadPart_at gD ?_ | (with_reducible refine wpAny_isSubtype_exc gD ?_;rw [c1]) | (with_reducible refine wpAny_isSubtype_exc gC ?_;rw [c2]) | wp_step)
 exact hq
def isXd (a:Addr) (c:Value) (od:Option Addr) (h:Heap):Prop:=isX a c od h /\ ∀ d,od = some d -> ∃ o,h.get? d = some o
theorem isXd.inst {h:Heap} {x C:Addr} {d:Option Addr} (p:isXd x (.ref C) d h):∃ ox od,PySem.W.InstAt h x ox C od:=by
 obtain ⟨⟨o,vs,h1,h2,h3,h4⟩,hd⟩:=p
 cases d with
 | none => exact ⟨o,none,h1,h2,by unfold PySem.W.notCls;rw [h4],by rw [h3];trivial⟩
 | some d =>
  obtain ⟨od,q⟩:=hd d rfl;exact ⟨o,some od,h1,h2,by unfold PySem.W.notCls;rw [h4],by rw [h3];exact q⟩
theorem kitx_excY {K:PySem.W.Frag} {x C:Addr} {d:Option Addr} (KX:XKin K C):PySem.W.KitX K (.ref x) (.ref C) (isXd x (.ref C) d) where
 ty:=fun M h _ p => by
  obtain ⟨o,od,I⟩:=p.inst;exact I.type
 it:=fun M h X _ => by
  obtain ⟨c,d,cd,sl,q⟩:=cls_of_mro KX.mo;intro A' Q' E' s' k z;unfold isType loadHead;exact wpAny_bind (wpAny_loadPart (k _ _ (X _ _ q)) (wpAny_pure z))
 ne:=fun h tp dd its n sl X htp => by
  obtain ⟨c,d,cd,sl',q⟩:=cls_of_mro KX.mo;refine Bool.eq_false_iff.mpr fun z => ?_;have e:C = tp:=Value.ref.inj (beq_iff_eq.mp z);subst e;have:=(X _ _ q).symm.trans htp;cases this
 ca:=fun X p k => by
  obtain ⟨o,od,I⟩:=p.inst;exact exc_class2 KX X I k
def TyY (K:PySem.W.Frag) (H:Hp) (x:V) (t:Value):Prop:=(x = .non /\ t = .type "NoneType") \/ ∃ (a C:Addr) (od:Option Addr),x = .ref a /\ t = .ref C /\ H a = some (.ext (isX a (.ref C) od)) /\ (∀ d,od = some d -> ∃ fs,H d = some (.xd fs)) /\ XKin K C
def rIsiY1 (K:PySem.W.Frag) (y:V) (c:Value):List V -> Hp -> VK -> Prop:=fun xs H Q => ∃ x t b,xs = [x,y] /\ TyY K H x t /\ PySem.W.kitOne K t c = some b /\ Q (.bl b) H
def rIsiYN (K:PySem.W.Frag) (ds:List Addr):List V -> Hp -> VK -> Prop:=fun xs H Q => ∃ x t b p,xs = [x,.ref p] /\ H p = some (.tup (ds.map V.ref)) /\ TyY K H x t /\ PySem.W.kitAny K t (ds.map Value.ref) = some b /\ Q (.bl b) H
section
variable {X:Cx}
theorem isXd_of {P:Program} {w:World} {H:Hp} {h:Heap} {a:Addr} {c:Value} {od:Option Addr} (k:HOk P w H h) (ha:H a = some (.ext (isX a c od))) (hd:∀ d,od = some d -> ∃ fs,H d = some (.xd fs)):isXd a c od h:=by
 refine ⟨(k _ _ ha).1,fun d z => ?_⟩;obtain ⟨fs,q⟩:=hd d z;obtain ⟨mA,⟨o,es,ep,z2,_⟩,_⟩:=(show ObjOk P w H h d (.xd fs) from k _ _ q);exact ⟨o,z2⟩
theorem call_isiY1 {y:V} {c:Value} (hy:∀ u,RelV y u -> u = c):CallR X (.builtin "isinstance") (rIsiY1 X.K y c):=by
 rintro pins s σ H xs us Q I r ⟨x,t,b,rfl,ty,e,q⟩;obtain ⟨u,w',rfl,r1,r2⟩:=vals2 r
 cases hy _ r2
 rcases ty with ⟨rfl,rfl⟩ | ⟨a,C,od,rfl,rfl,ha,hd,KX⟩
 ·cases (show u = Value.none from r1)
  exact PySem.W.kia_one PySem.W.kitx_none I.kIn True.intro e (fun z => nomatch z) fun tk => ⟨.bl b,H,I.tok _,rfl,q⟩
 ·cases (show u = Value.ref a from r1)
  exact PySem.W.kia_one (kitx_excY KX) I.kIn (isXd_of I.hok ha hd) e (fun z => nomatch z) fun tk => ⟨.bl b,H,I.tok _,rfl,q⟩
theorem call_isiYN {ds:List Addr}:CallR X (.builtin "isinstance") (rIsiYN X.K ds):=by
 rintro pins s σ H xs us Q I r ⟨x,t,b,p,rfl,hp,ty,e,q⟩;obtain ⟨u,w',rfl,r1,r2⟩:=vals2 r
 cases (show w' = Value.ref p from r2)
 obtain ⟨_,its,hv,⟨⟨oc,od,oda,osl⟩,h1,h2,n,h3,_⟩⟩:=(show ObjOk X.prog X.w H s.heap p (.tup (ds.map V.ref)) from I.hok _ _ hp);cases h2;cases h3
 cases vals_refs hv
 rcases ty with ⟨rfl,rfl⟩ | ⟨a,C,od,rfl,rfl,ha,hd,KX⟩
 ·cases (show u = Value.none from r1)
  exact PySem.W.kia_tup PySem.W.kitx_none I.kIn True.intro h1 e (fun z => nomatch z) fun tk => ⟨.bl b,H,I.tok _,rfl,q⟩
 ·cases (show u = Value.ref a from r1)
  exact PySem.W.kia_tup (kitx_excY KX) I.kIn (isXd_of I.hok ha hd) h1 e (fun z => nomatch z) fun tk => ⟨.bl b,H,I.tok _,rfl,q⟩
end
namespace Y
def ansY (K:PySem.W.Frag) (ans:Value -> Option Bool) (t:T) (Q:Bool -> Prop):Prop:=match t with
 | .non => (match ans (.type "NoneType") with | some b => Q b | none => False)
 | .exc c _ => (∃ C,c = .ref C /\ XKin K C) /\ (match ans c with | some b => Q b | none => False)
 | _ => False
def uIsiY (K:PySem.W.Frag) (ans:Value -> Option Bool) (ue:UE):UE:=fun μ Q => ue μ fun r μ' => match r with
 | .tr t => ansY K ans t fun b => Q (.tr (.bl b)) μ'
 | _ => False
theorem ansY_ty {K:PySem.W.Frag} {ans:Value -> Option Bool} {H:Hp} {B:AP'} {v:V} {t:T} {Q:Bool -> Prop} (h:Rep K H B v t) (q:ansY K ans t Q):∃ c b,TyY K H v c /\ ans c = some b /\ Q b:=by
 unfold ansY at q
 split at q
 ·cases h
  split at q
  ·rename_i b e;exact ⟨_,b,.inl ⟨rfl,rfl⟩,e,q⟩
  ·exact q.elim
 ·obtain ⟨⟨C,rfl,KX⟩,q⟩:=q
  split at q
  ·rename_i b e
   cases h with
   | exc n h => exact ⟨_,b,.inr ⟨_,C,none,rfl,rfl,h,fun d z => (by cases z),KX⟩,e,q⟩
   | exa n h m g => exact ⟨_,b,.inr ⟨_,C,_,rfl,rfl,h,fun d z => (by cases z;exact ⟨_,g⟩),KX⟩,e,q⟩
  ·exact q.elim
 ·exact q.elim
section
variable {X:Cx} {a:Expr} {es:List Expr} {ua:UE} {pos p p3:Pos} {x:Str}
theorem isiY1 {y:V} {c:Value} {tc:Expr} (K:PySem.W.Frag) (hK:X.K = K) (hg:Gl X "isinstance") (hm:X.mg "isinstance" = none) (ha:YE X a ua) (hc:QE X tc (tC y)) (hy:∀ u,RelV y u -> u = c) (h1:autoParam (nst a = true) L2.aRfl._auto_1) (h2:autoParam (nst tc = true) L2.aRfl._auto_1) :
  YE X (.Call (.Name "isinstance" p) [a,tc] [] pos) (uIsiY K (fun t => PySem.W.kitOne K t c) ua):=by
 obtain ⟨t,q,r⟩:=ha;subst hK;refine ⟨_,Z.cb (call_isiY1 hy) hg hm PyProof.Rows.boot_isinstance (Z.cons q (Z.cons hc Z.nil h2) h1) h1 (by simp [h2]),fun F ad B σ H μ Q Qt hF l q k => r F ad B σ H μ _ _ hF l q fun v H' r1 μ' v1 f k1 q1 => ?_⟩
 cases r1 with
 | tr t =>
  have hr:Rep X.K H' B v t:=by rw [<- hF];exact v1.2
  obtain ⟨c',b,ty,e,q2⟩:=ansY_ty hr q1;exact ⟨v,c',b,rfl,ty,e,k _ H' (.tr (.bl b)) μ' (Vr.flat v1.rl (.bl _)) f.d k1 q2⟩
 | fr c => exact q1.elim
 | br j => exact q1.elim
theorem isiYN {ds:List Addr} {n:Nat} {t:TA} (K:PySem.W.Frag) (hK:X.K = K) (hg:Gl X "isinstance") (hm:X.mg "isinstance" = none) (ha:YE X a ua) (hq:QA X es t) (ht:∀ σ H Q,Q (ds.map V.ref) H -> t σ H Q) (hd:ds.length <= 100) (h1:autoParam (nst a = true) L2.aRfl._auto_1) :
  YE X (.Call (.Name "isinstance" p) [a,.Tuple es n p3] [] pos) (uIsiY K (fun t => PySem.W.kitAny K t (ds.map Value.ref)) ua):=by
 obtain ⟨t',q,r⟩:=ha;subst hK;refine ⟨_,Z.cb (call_isiYN (ds:=ds)) hg hm PyProof.Rows.boot_isinstance (Z.cons q (Z.cons (Z.tup hq) Z.nil) h1) h1 rfl,fun F ad B σ H μ Q Qt hF l q k => r F ad B σ H μ _ _ hF l q fun v H' r1 μ' v1 f k1 q1 => ?_⟩;refine ht _ _ _ ⟨by rw [List.length_map];exact Nat.le_trans hd (by decide),fun pp hp => ?_⟩
 cases r1 with
 | tr t =>
  have hr:Rep X.K H' B v t:=by rw [<- hF];exact v1.2
  obtain ⟨c',b,ty,e,q2⟩:=ansY_ty hr q1;have sm:Same H' (upd H' pp (.tup (ds.map V.ref))):=Same.new hp;have ty':TyY X.K (upd H' pp (.tup (ds.map V.ref))) v c':=by
   rcases ty with z | ⟨a,C,od,z1,z2,z3,z4,z5⟩
   ·exact .inl z
   ·exact .inr ⟨a,C,od,z1,z2,sm _ _ z3,fun d hd => (let ⟨fs,q⟩:=z4 d hd;⟨fs,sm _ _ q⟩),z5⟩
  exact ⟨v,c',b,pp,rfl,upd_same,ty',e,k _ _ (.tr (.bl b)) μ' (Vr.flat (v1.rl.same sm) (.bl _)) (f.d.trans (Fr.same sm)) k1 q2⟩
 | fr c => exact q1.elim
 | br j => exact q1.elim
def uAtt (K:PySem.W.Frag) (name:Str) (ue:UE):UE:=fun μ Q => ue μ fun r μ' => match r with
 | .tr (.exc c (some (n,i))) => n = name /\ (∃ C,c = .ref C /\ XKin K C /\ PySem.W.hasDictIn K C = true /\ PySem.W.findIn K (.ref C) name = some none) /\ Q (.tr (.int i)) μ'
 | _ => False
theorem att {name:Str} (K:PySem.W.Frag) (hK:X.K = K) (ha:YE X a ua) (hb:autoParam (attributeBase a name X.env (eval a X.env) = eval a X.env) L2.aRfl._auto_1):YE X (.Attribute a name pos) (uAtt K name ua):=by
 obtain ⟨t,qe,r⟩:=ha;subst hK;refine ⟨fun σ H Q => ∀ pins s,Inv X pins σ H s -> wpAny (model X.prog X.w) X.A (eval (.Attribute a name pos) X.env) (EP X pins σ Q) X.xe s,⟨fun pins s σ H Q I h => h pins s I⟩,?_⟩;intro F ad B σ H μ Q Qt hF l q k pins s I;refine attr_of hb (thn (qe.h pins s σ H (fun v H1 => ∃ r1 μ1,Vr F ad B σ H1 μ1 v r1 /\ Fr B H (Bv B v r1) H1 /\ Kp μ μ1 /\ (match r1 with
  | .tr (.exc c (some (n,i))) => n = name /\ (∃ C,c = .ref C /\ XKin X.K C /\ PySem.W.hasDictIn X.K C = true /\ PySem.W.findIn X.K (.ref C) name = some none) /\ Qt (.tr (.int i)) μ1
  | _ => False)) I (r F ad B σ H μ _ _ hF l q fun v H1 r1 μ1 w f k1 q1 => ⟨r1,μ1,w,f,k1,q1⟩)) fun u s1 ⟨v,H1,I1,rv,r1,μ1,w,f,k1,q1⟩ => ?_)
 split at q1
 ·rename_i c n i;obtain ⟨rfl,⟨C,rfl,KX,hh,hn⟩,q1⟩:=q1;obtain ⟨l1,rp⟩:=w
  cases rp with
  | exa n1 h1 m1 g1 =>
   rename_i ea d;obtain rfl:u = Value.ref ea:=rv;obtain ⟨oe,vs,h2,h3,h4,h5⟩:=(show isX ea (.ref C) (some d) s1.heap from (I1.hok _ _ h1).1);obtain ⟨mA,ns,rel⟩:=(show ObjOk X.prog X.w H1 s1.heap d (.xd [(n,.int i)]) from I1.hok _ _ g1);obtain ⟨od,hod,lk⟩:=lookIn_ns ns;have In:PySem.W.InstAt s1.heap ea oe C (some od):=⟨h2,h3,by unfold PySem.W.notCls;rw [h5],by rw [h4];exact hod⟩
   have rl:=rel n;rw [show List.lookup n [(n,V.int i)] = some (V.int i) by simp] at rl
   cases hm:mA n with
   | none => rw [hm] at rl;exact rl.elim
   | some u' =>
    rw [hm] at rl;obtain ⟨tk,rfl⟩:=(show RelV (.int i) u' from rl);refine exc_get KX I1.kIn In (PySem.W.findObj_own hh hn rfl (by rw [lk,hm])) rfl ?_
    exact ⟨.int i,H1,I1.tok _,⟨tk,rfl⟩,k _ H1 (.tr (.int i)) μ1 ⟨l1,.int i⟩ f k1 q1⟩
 ·exact q1.elim
end
def xTryY (K:PySem.W.Frag) (ub:UXS) (D:Addr) (i:Nat) (uh:US):UXS:=fun E _ μ => ub E (fun x μ' => (∃ C f,x = .exc (.ref C) f /\ XAny K C /\ PySem.W.mroIn K C (.ref D) = some true) /\ noP μ' i /\ uh { nx:=fun μ2 => noP μ2 i /\ E.nx (μ2.set i .un),rt:=fun _ _ => False } (μ'.set i (.tr x))) μ
theorem xtryY {X:Cx} {body suite:List Stmt} {b0:Stmt} {x nm:Str} {DA:Addr} {i:Nat} {np hpos pos:Pos} {ub:UXS} {uh:US} (K:PySem.W.Frag) (hK:X.K = K) (hg:Gl X x) (hm:X.mg x = some (.ref DA)) (hkD:XHd X.K DA) (hc:X.calm = true) (hex:X.ex = []) (hst:X.stack = X.env :: X.outer) (hfm:X.env.frame = some X.env.locals)
  (hN:X.N.Nodup) (hi:X.N[i]? = some nm) (hx:X.env.scope.names.lookup nm = some .local)
  (hb:∀ pins E,YXB (tryX X pins E) body ub) (hh:∀ e,YB (hdX X e) (b0 :: suite) uh) (hdb:autoParam ((x == ("__debug__":Str)) = false) L2.aDec._auto_1) :
  YXS X (.Try body [.ExceptHandler (some (.Name x np)) (some nm) (b0 :: suite) hpos] [] [] pos) (xTryY K ub DA i uh):=by
 subst hK;have hkl:X.env.kindOf nm = some .local:=hx;refine ⟨fun D σ H => ∀ pins s,Inv X pins σ H s -> wpAny (model X.prog X.w) X.A (exec (.Try body [.ExceptHandler (some (.Name x np)) (some nm) (b0 :: suite) hpos] [] [] pos) X.env) (SP X pins D) X.xe s,⟨fun pins s σ H D I h => h pins s I⟩,?_⟩;intro F D E Xt ad B σ H μ hF l q hE hX pins s I;have hh0:X.A.handled = none:=I.ok.hd hc;refine wpAny_Try_except ?_;obtain ⟨t,qb,rb⟩:=hb pins (fun y s1 => wpAny (model X.prog X.w) X.A (noteFrame y X.env) (fun _ s2 => wpAny (model X.prog X.w) X.A (setFlight y none) (fun _ s3 => wpAny (model X.prog X.w) X.A (handleBy y X.env [.ExceptHandler (some (.Name x np)) (some nm) (b0 :: suite) hpos]) (SP X pins D) X.xe s3) X.xe s2) X.xe s1);refine wpAny_mono (qb.h [] s σ H D I.toTry (rb F D E _ ad B σ H μ hF l q hE ?_)) (fun f s1 h1 => ?_) (fun y s1 h1 => h1)
 ·rintro ad' B' σ' H' μ' x0 cls d e l' f' ⟨tr,hx0⟩ nB nD ⟨⟨C,ff,rfl,hkC,hsub⟩,hp,hu⟩;obtain rfl:Value.ref C = cls:=by
   cases ff with
   | none => exact hx0.1
   | some y => obtain ⟨n,i⟩:=y;exact hx0.1
  intro pins' s' To I' fl nw;have hex':(tryX X pins (fun y s1 => wpAny (model X.prog X.w) X.A (noteFrame y X.env) (fun _ s2 => wpAny (model X.prog X.w) X.A (setFlight y none) (fun _ s3 => wpAny (model X.prog X.w) X.A (handleBy y X.env [.ExceptHandler (some (.Name x np)) (some nm) (b0 :: suite) hpos]) (SP X pins D) X.xe s3) X.xe s2) X.xe s1)).ex = []:=hex;have hfr:X.A.frames = some (X.env :: X.outer):=by rw [<- hst];exact I.ok.frames
  have hstk:=I'.stack;have hstk2:s'.heap.FunFrames X.base (X.env :: X.outer):=by rw [<- hst];exact hstk
  refine fl_lands hfr hfm hstk2 fl fun h2 T2 mv f2 => ?_;rw [<- hst] at mv;obtain ⟨I2,nw2⟩:=I'.moved hex' fl nw mv f2;have J2:Inv (hdX X e) pins σ' H' { s' with heap:=h2 }:=I2.ofTry.toHd
  refine wpAny_handleBy_cons (codeAny_handlers_test (ld_glob J2 hg hm ?_ hdb)) (by intro z;cases z)
  refine exc_meetsY J2.kIn hkC hkD f2.is hsub (codeAny_handlers_suite_as ?_);refine fl_again (base:=X.base) (l:=X.stack) (s:={ s' with heap:=h2 }) I2.stack f2 fun h3 T3 mv3 f3 => ?_
  obtain ⟨I3,nw3⟩:=I2.moved (h':=h3) hex' f2 nw2 mv3 f3;obtain ⟨th,qh,rh⟩:=hh e;have J3:Inv (hdX X e) pins σ' H' { s' with heap:=h3 }:=I3.ofTry.toHd
  refine store_ok (X:=hdX X e) (v:=.ref e) J3 hN hi (.inl hx) rfl (fun s4 I4 => ?_) (.inr hx);have rp:Rep F.K H' B' (.ref e) (.exc (.ref C) ff):=by
   cases ff with
   | none =>
    obtain ⟨_,rfl⟩:=(show Value.ref C = .ref C /\ d = none from hx0);exact .exc nB tr
   | some y =>
    obtain ⟨n,i⟩:=y;obtain ⟨_,a,rfl,ha⟩:=(show Value.ref C = .ref C /\ ∃ a,d = some a /\ H' a = some (.xd [(n,.int i)]) from hx0);exact .exa nB tr (nD a rfl) ha
  have l4:Rl F ad' B' (σ'.set i (some (.ref e))) H' (μ'.set i (.tr (.exc (.ref C) ff))):=l'.setT (noP_ne hp) rp;refine wpAny_mono (qh.h pins _ _ H' { nx:=fun σ1 H1 => D.nx (σ1.set i none) H1,rt:=fun _ _ => False } I4 (rh F _ { nx:=fun μ2 => noP μ2 i /\ E.nx (μ2.set i .un),rt:=fun _ _ => False } ad' B' _ H' _ hF l4 hu ⟨fun ad1 B1 σ1 H1 μ1 l1 f1 q1 => ?_,fun _ _ _ _ _ _ _ _ z => z.elim,fun _ _ _ _ _ _ _ z => z.elim,fun _ _ _ _ _ _ _ z => z.elim⟩)) (fun f s5 h5 => ?_) (fun _ _ z => z.elim)
  ·exact hE.nx ad1 B1 _ H1 _ (l1.unset (noP_ne q1.1)) (f'.trans f1) q1.2
  ·have h6:=SP.ofHd hh0 hc h5
   cases f with
   | next =>
    obtain ⟨σ1,H1,I6,q6⟩:=h6;exact name_goes I6 hN hi hkl fun s7 I7 => ⟨_,H1,I7,q6⟩
   | brk => obtain ⟨_,_,_,z⟩:=h6;exact z.elim
   | cont => obtain ⟨_,_,_,z⟩:=h6;exact z.elim
   | ret u => obtain ⟨_,_,_,_,_,z⟩:=h6;exact z.elim
 ·have h2:=SP.ofTry h1
  cases f with
  | next => exact wpAny_pure h2
  | brk => exact h2
  | cont => exact h2
  | ret u => exact h2
end Y
namespace A
theorem uNew (C:Addr) (name:Str) (ue:UE) (μ:Mu) (Q:R -> Mu -> Prop):Y.uNew C name ue μ Q = ue μ fun r μ' => match r with
 | .tr (.int i) => i.natAbs < 2 ^ 1900 /\ Q (.tr (.exc (.ref C) (some (name,i)))) μ'
 | _ => False:=rfl
theorem xRaiseI (C:Addr) (name:Str) (ue:UE) (E:Ed) (Xt:Xw) (μ:Mu):Y.xRaiseI C name ue E Xt μ = Y.uNew C name ue μ fun r μ' => match r with
 | .tr t => Xt t μ'
 | _ => False:=rfl
theorem uIsiY (K:PySem.W.Frag) (ans:Value -> Option Bool) (ue:UE) (μ:Mu) (Q:R -> Mu -> Prop):Y.uIsiY K ans ue μ Q = ue μ fun r μ' => match r with
 | .tr t => Y.ansY K ans t fun b => Q (.tr (.bl b)) μ'
 | _ => False:=rfl
theorem ansYN (K:PySem.W.Frag) (ans:Value -> Option Bool) (Q:Bool -> Prop):Y.ansY K ans .non Q = (match ans (.type "NoneType") with | some b => Q b | none => False):=rfl
theorem ansYE (K:PySem.W.Frag) (ans:Value -> Option Bool) (c:Value) (f:Option (Str × Int)) (Q:Bool -> Prop):Y.ansY K ans (.exc c f) Q = ((∃ C,c = .ref C /\ XKin K C) /\ (match ans c with | some b => Q b | none => False)):=rfl
theorem uAtt (K:PySem.W.Frag) (name:Str) (ue:UE) (μ:Mu) (Q:R -> Mu -> Prop):Y.uAtt K name ue μ Q = ue μ fun r μ' => match r with
 | .tr (.exc c (some (n,i))) => n = name /\ (∃ C,c = .ref C /\ XKin K C /\ PySem.W.hasDictIn K C = true /\ PySem.W.findIn K (.ref C) name = some none) /\ Q (.tr (.int i)) μ'
 | _ => False:=rfl
theorem xTryY (K:PySem.W.Frag) (ub:UXS) (D:Addr) (i:Nat) (uh:US) (E:Ed) (Xt:Xw) (μ:Mu):Y.xTryY K ub D i uh E Xt μ = ub E (fun x μ' => (∃ C f,x = .exc (.ref C) f /\ XAny K C /\ PySem.W.mroIn K C (.ref D) = some true) /\ Y.noP μ' i /\ uh { nx:=fun μ2 => Y.noP μ2 i /\ E.nx (μ2.set i .un),rt:=fun _ _ => False } (μ'.set i (.tr x))) μ:=rfl
end A
namespace Y
end Y
namespace A
end A
open Builtin Builtin.Str
theorem vals_numbered:∀ {l:List (Str × Tok)},Vals ((l.map (·.1)).map V.str) (strValues l)
 | [] => .nil
 | (x,t) :: l => .cons ⟨t,rfl⟩ (vals_numbered (l:=l))
def rSplit:V -> List V -> Hp -> VK -> Prop:=fun x vs H Q => ∃ z y,x = .str z /\ vs = [.str y] /\ (y.length == 0) = false /\ z.length <= sizeLine /\ (Txt.split z y).length <= sizeLine /\ ∀ p,H p = none -> Q (.ref p) (upd H p (.lst ((Txt.split z y).map V.str)))
theorem mt_split {X:Cx}:MtR X "str.split" rSplit:=by
 intro pins s σ H x xs v us Q I rx rs h;obtain ⟨z,y,rfl,rfl,hy,hz,hn,q⟩:=h;obtain ⟨t,rfl⟩:=rx;obtain ⟨u,rfl,k,rfl⟩:=vals1 rs;have fin:∀ (l:List (Str × Tok)) (tk:Nat),l.map (·.1) = Txt.split z y -> ∃ v' H',Inv X pins σ H' { s with heap:=s.heap.push { cls:=.type "list",data:=.seq (strValues l).toArray },toks:=tk } /\ RelV v' (.ref s.heap.objs.size) /\ Q v' H':=fun l tk e => by
  refine ⟨.ref s.heap.objs.size,_,I.laid (t':=tk) (fun b ob q => Heap.get?_push_of_some _ q) (Nat.le_refl _) (show ObjOk X.prog X.w _ _ _ (.lst ((Txt.split z y).map V.str)) from ⟨by rw [List.length_map];exact hn,strValues l,0,by rw [<- e];exact vals_numbered,Heap.get?_push_size _ rfl⟩),rfl,q _ (I.hok.fresh (Nat.le_refl _))⟩
 cases h1:(decide (z.length < y.length) || decide (strKind z < strKind y))
 ·cases hf:(occurrences z y 0 z.length (z.length + 1)).isEmpty
  ·have es:Txt.split z y = partsBetween z (occurrences z y 0 z.length (z.length + 1)) y.length:=(if_neg (ne_true_of_eq_false h1)).trans (if_neg (ne_true_of_eq_false hf));refine call_meets F.slot_str_split (typeIs_str _ _ _) F.entry_str_split (F.args_str_split_2 _ _) (meets_str_split_sep z y t k h1 hy hf hz (by rw [<- es];exact hn)) ?_
   show wants _ _ _ { s with toks:=_,heap:=s.heap.push { cls:=.type "list",data:=.seq (strsFrom s.toks (partsBetween z (occurrences z y 0 z.length (z.length + 1)) y.length)).toArray } }
   rw [strsFrom_eq];exact fin (numbered s.toks _) _ ((numbered_texts _ _).trans es.symm)
  ·exact call_meets F.slot_str_split (typeIs_str _ _ _) F.entry_str_split (F.args_str_split_2 _ _) (meets_str_split_not_found z y t k h1 hy hf) (fin [(z,t)] s.toks ((if_neg (ne_true_of_eq_false h1)).trans (if_pos hf)).symm)
 ·exact call_meets F.slot_str_split (typeIs_str _ _ _) F.entry_str_split (F.args_str_split_2 _ _) (meets_str_split_cannot_occur z y t k h1) (fin [(z,t)] s.toks (if_pos h1).symm)
namespace Y
def uSplit:UMs:=fun z rs μ Q => match rs with
 | [.tr (.str y)] => (y.length == 0) = false /\ z.length <= sizeLine /\ (Txt.split z y).length <= sizeLine /\ Q (.fr (.lst ((Txt.split z y).map T.str))) μ
 | _ => False
theorem rm_split {K:PySem.W.Frag}:RMs K rSplit uSplit:=by
 intro F ad B σ H μ Q Qt z xs rs hF l ps q k;unfold uSplit at q
 split at q
 ·cases ps with
  | cons h ps =>
   cases ps
   cases rep_of h
   exact ⟨z,_,rfl,rfl,q.1,q.2.1,q.2.2.1,fun p hp => k _ _ _ μ (Vr.newL l (reps_strs _) hp) (Fr.more hp) (Kp.refl μ) q.2.2.2⟩
 ·exact q.elim
def uStrT:UC:=fun rs μ Q => match rs with
 | [.tr (.int i)] => i.natAbs.log2 < 1920 /\ Q (.tr (.str (toString i))) μ
 | [.tr (.str z)] => Q (.tr (.str z)) μ
 | _ => False
theorem rc_str {K:PySem.W.Frag}:RC K uStr uStrT:=by
 intro F ad B σ H μ Q Qt xs rs hK l p q k;unfold uStrT at q
 split at q
 ·cases p with
  | cons h1 p => cases p;cases rep_of h1;exact ⟨q.1,k _ H _ μ (Vr.flat l (.str _)) Fr.refl (Kp.refl μ) q.2⟩
 ·cases p with
  | cons h1 p => cases p;cases rep_of h1;exact k _ H _ μ (Vr.flat l (.str _)) Fr.refl (Kp.refl μ) q
 ·exact q.elim
def rIntX:List V -> Hp -> VK -> Prop:=fun xs H Q => uInt xs H Q \/ ∃ (z:Str) (n:Int),xs = [.str z] /\ PySem.intText? z = some n /\ z.length <= 640 /\ Q (.int n) H
theorem call_intX {X:Cx}:CallR X (.type "int") rIntX:=by
 refine ucall_int.or ?_;intro pins s σ H xs us Q I r h;obtain ⟨z,n,rfl,h0,h1,q⟩:=h;obtain ⟨u,rfl,t,rfl⟩:=vals1 r;exact PySem.W.KIN.call_text h0 h1 ⟨.int n,H,I.tok _,⟨_,rfl⟩,q⟩
def uIntX:UC:=fun rs μ Q => match rs with
 | [.tr (.int i)] => Q (.tr (.int i)) μ
 | [.tr (.bl k)] => Q (.tr (.int (if k = true then 1 else 0))) μ
 | [.tr (.str z)] => ∃ n:Int,PySem.intText? z = some n /\ z.length <= 640 /\ Q (.tr (.int n)) μ
 | _ => False
theorem rc_intX {K:PySem.W.Frag}:RC K rIntX uIntX:=by
 intro F ad B σ H μ Q Qt xs rs hK l p q k;unfold uIntX at q
 split at q
 ·cases p with
  | cons h1 p => cases p;cases rep_of h1;exact .inl (k _ H _ μ (Vr.flat l (.int _)) Fr.refl (Kp.refl μ) q)
 ·cases p with
  | cons h1 p => cases p;cases rep_of h1;exact .inl (k _ H _ μ (Vr.flat l (.int _)) Fr.refl (Kp.refl μ) q)
 ·cases p with
  | cons h1 p =>
   cases p
   cases rep_of h1
   obtain ⟨n,h0,h1,q⟩:=q;exact .inr ⟨_,n,rfl,h0,h1,k _ H _ μ (Vr.flat l (.int _)) Fr.refl (Kp.refl μ) q⟩
 ·exact q.elim
theorem all_at:∀ (bs:List Bool),(List.range bs.length).all (fun i => (bs[i]?).getD false) = bs.all id
 | [] => rfl
 | b :: bs => by
  rw [List.length_cons,List.range_succ_eq_map,List.all_cons,List.all_map,List.all_cons,<- all_at bs];rfl
def rAll (K:PySem.W.Frag):List V -> Hp -> VK -> Prop:=fun xs H Q => ∃ (p:Addr) (bs:List Bool),xs = [.ref p] /\ SqL K H p (bs.map V.bl) /\ Q (.bl (bs.all id)) H
theorem call_allG {X:Cx} (K:PySem.W.Frag) (hK:X.K = K) (hc:X.calm = true):CallR X (.builtin "all") (rAll K):=by
 subst hK;intro pins s σ H xs us Q I r h;obtain ⟨p,bs,rfl,hq,q⟩:=h;obtain ⟨u,rfl,ru⟩:=vals1 r;cases ru;obtain ⟨its,rv,pl,hz⟩:=I.list hq;have ht:s.heap.IsList p its.toArray:=pl.isList;have hlt:p < s.heap.objs.size:=by obtain ⟨o,ho,_⟩:=id ht;exact Heap.lt_size ho
 have hlen:its.length = bs.length:=by have:=rv.length;rw [List.length_map] at this;lia
 refine call_all_walk (wpAny_pyIter_list ht ?_);refine ⟨_,[_,p],[_],_,_,_,fun i => (bs[i]?).getD false,rfl,Walks.list (A:=X.A.in1) (I.ok.hd hc) _ p (Nat.ne_of_lt hlt) its.toArray,⟨⟨_,Heap.get?_push_size _ rfl,rfl,rfl⟩,ht.push _⟩,fun i v s' Q' E' hP hQ => ?_,fun h' tk hk => ?_⟩
 ·have hP':its[i]? = some v:=by rw [<- List.getElem?_toArray];exact hP
  have hi:i < bs.length:=by have:=(List.getElem?_eq_some_iff.mp hP').1;lia
  obtain ⟨v',e',rr⟩:=rv.get (i:=i) (x:=V.bl bs[i]) (by rw [List.getElem?_map,List.getElem?_eq_getElem hi];rfl)
  have e2:its[i]? = some v':=e';rw [hP'] at e2;cases e2;cases rr;simp only [List.getElem?_eq_getElem hi,Option.getD_some] at hQ;exact wpAny_truthy_bool hQ
 ·have e:((List.range its.toArray.size).all fun i => (bs[i]?).getD false) = bs.all id:=by
   rw [List.size_toArray,hlen];exact all_at bs
  rw [e];refine ⟨.bl (bs.all id),H,I.kept fun b o e => hk b o (fun hm => ?_) (Heap.get?_push_of_some _ e),rfl,q⟩;rcases List.mem_cons.mp hm with rfl | hm
  ·exact absurd (Heap.lt_size e) (Nat.lt_irrefl _)
  ·cases hm
def tAll:T -> Mu -> (R -> Mu -> Prop) -> Prop:=fun t μ Q => match t with
 | .lst xs => ∃ bs:List Bool,xs = bs.map T.bl /\ Q (.tr (.bl (bs.all id))) μ
 | _ => False
theorem rc_all {K:PySem.W.Frag}:RC K (rAll K) (by1 tAll):=by1_of fun F ad B σ H μ Q Qt x t hK l v1 q k => by
 subst hK;unfold tAll at q
 split at q
 ·obtain ⟨bs,rfl,q⟩:=q
  cases v1 with
  | lst ha ra => exact ⟨_,bs,rfl,by rw [<- bools_reps ra];exact SqL.of ha,k _ _ _ (Vr.flat l (.bl _)) Fr.refl q⟩
 ·exact q.elim
end Y
def Its (z:Str):It:=⟨fun i _ => i < z.cps.size,fun i H x H' => H' = H /\ ∃ c,z.cps[i]? = some c /\ x = .str ⟨#[c]⟩,fun i _ => z.cps.size <= i⟩
theorem turn_strA {P:Program} {w:World} {K:PySem.W.Frag} {tg:Expr} (z:Str) (t:Tok) (it:Addr):Turn P w K tg (Its z) [it] it (fun i h => h.IsStrIter it "str_ascii_iterator" z t i) where
 mem:=by simp
 obj:=fun i h st b hb => by
  have e:b = it:=by simpa using hb
  subst e;obtain ⟨o,e,c,d⟩:=st;exact ⟨o,e,fun v z => by rw [d] at z;cases z⟩
 keep:=fun i h h' st k => let ⟨o,e,r⟩:=st;⟨o,k it (by simp) o e,r⟩
 item:=by
  intro X hP hw hK hc i pins s σ H E I hf st hg;subst hP hw hK;obtain ⟨f0,f1,f2,f3,f4,f5⟩:=hf it (by simp)
  have hi:i < z.cps.size:=hg;refine wpAny_pyNext_ascii_item st (c:=z.cps[i]) (by simp [hi]) fun h' st' sb => ?_
  have I1:Inv X pins σ H { s with heap:=h',toks:=s.toks + 1 }:=I.turned (t':=s.toks + 1) (fun b o hb e => (sb.2 b hb).trans e) f0 f1 f3 f4 f5
  obtain ⟨o,e,c,d⟩:=id st';exact ⟨_,rfl,go_of (s:={ s with heap:=h',toks:=s.toks + 1 }) e c d (by decide) ⟨.str ⟨#[z.cps[i]]⟩,H,I1,⟨_,rfl⟩,⟨rfl,_,by simp [hi],rfl⟩,st',fun b hb => (hf b hb).1⟩⟩
 done:=by
  intro X hP hw hK hc i pins s σ H E I hf st hg;subst hP hw hK;obtain ⟨f0,f1,f2,f3,f4,f5⟩:=hf it (by simp)
  have hi:z.cps.size <= i:=hg;exact wpAny_pyNext_ascii_end (I.ok.hd hc) st (by simpa using hi) fun h' eb => ⟨rfl,I.turned (t':=s.toks) (fun b o hb e => eb b o hb e) f0 f1 f3 f4 f5⟩
 self:=fun _ _ _ _ _ st h => wpAny_pyIter_striter_ascii st h
theorem turn_strW {P:Program} {w:World} {K:PySem.W.Frag} {tg:Expr} (z:Str) (t:Tok) (it:Addr):Turn P w K tg (Its z) [it] it (fun i h => h.IsStrIter it "str_iterator" z t i) where
 mem:=by simp
 obj:=fun i h st b hb => by
  have e:b = it:=by simpa using hb
  subst e;obtain ⟨o,e,c,d⟩:=st;exact ⟨o,e,fun v z => by rw [d] at z;cases z⟩
 keep:=fun i h h' st k => let ⟨o,e,r⟩:=st;⟨o,k it (by simp) o e,r⟩
 item:=by
  intro X hP hw hK hc i pins s σ H E I hf st hg;subst hP hw hK;obtain ⟨f0,f1,f2,f3,f4,f5⟩:=hf it (by simp)
  have hi:i < z.cps.size:=hg;refine wpAny_pyNext_wide_item st (c:=z.cps[i]) (by simp [hi]) fun h' st' sb => ?_
  have I1:Inv X pins σ H { s with heap:=h',toks:=s.toks + 1 }:=I.turned (t':=s.toks + 1) (fun b o hb e => (sb.2 b hb).trans e) f0 f1 f3 f4 f5
  obtain ⟨o,e,c,d⟩:=id st';exact ⟨_,rfl,go_of (s:={ s with heap:=h',toks:=s.toks + 1 }) e c d (by decide) ⟨.str ⟨#[z.cps[i]]⟩,H,I1,⟨_,rfl⟩,⟨rfl,_,by simp [hi],rfl⟩,st',fun b hb => (hf b hb).1⟩⟩
 done:=by
  intro X hP hw hK hc i pins s σ H E I hf st hg;subst hP hw hK;obtain ⟨f0,f1,f2,f3,f4,f5⟩:=hf it (by simp)
  have hi:z.cps.size <= i:=hg;exact wpAny_pyNext_wide_end (I.ok.hd hc) st (by simpa using hi) fun h' eb => ⟨rfl,I.turned (t':=s.toks) (fun b o hb e => eb b o hb e) f0 f1 f3 f4 f5⟩
 self:=fun _ _ _ _ _ st h => wpAny_pyIter_striter_wide st h
def iStr (tl:TE):TI:=fun σ H R => tl σ H fun x H1 => ∃ z,x = V.str z /\ R (Its z) H1
theorem pi_str {X:Cx} {tg l:Expr} {tl:TE} (hl:PE X l tl):PI X tg l (iStr tl):=by
 intro pins s σ H R I h;refine thn (hl pins s σ H _ I h) fun v s1 ⟨x,H1,I1,r1,q1⟩ => ?_;obtain ⟨z,rfl,q⟩:=q1;obtain ⟨t,rfl⟩:=r1;have fr:∀ b ∈ [s1.heap.objs.size],FpOk X pins H1 b:=fun b hb => by
  have e:b = s1.heap.objs.size:=by simpa using hb
  subst e;exact I1.fpOk (Nat.le_refl _) (I1.hok.fresh (Nat.le_refl _))
 cases ha:z.cps.all (· < 128)
 ·refine wpAny_pyIter_wide ha ?_;exact ⟨s1.heap.objs.size,[s1.heap.objs.size],_,_,H1,rfl,I1.kept (t':=s1.toks) fun b o e => Heap.get?_push_of_some _ e,turn_strW z t _,⟨_,Heap.get?_push_size _ rfl,rfl,rfl⟩,fr,q⟩
 ·refine wpAny_pyIter_ascii ha ?_;exact ⟨s1.heap.objs.size,[s1.heap.objs.size],_,_,H1,rfl,I1.kept (t':=s1.toks) fun b o e => Heap.get?_push_of_some _ e,turn_strA z t _,⟨_,Heap.get?_push_size _ rfl,rfl,rfl⟩,fr,q⟩
def signsT (z:Str):List T:=z.cps.toList.map fun c => T.str ⟨#[c]⟩
theorem its_ok {K:PySem.W.Frag} {z:Str}:ItOk K (Its z) (fun _ _ => True) (signsT z) :=
 ⟨fun H B i t hb _ e => by
  unfold signsT at e;rw [List.getElem?_map] at e;have hi:i < z.cps.size:=by
   rcases Nat.lt_or_ge i z.cps.size with q | q
   ·exact q
   ·rw [List.getElem?_eq_none_iff.mpr (by simpa using q)] at e;cases e
  refine ⟨hi,fun x H2 y => ?_⟩;obtain ⟨rfl,c,hc,rfl⟩:=y;rw [Array.getElem?_toList,hc] at e;cases e;exact ⟨Same.refl _,.str _⟩,fun H B _ => by simp [Its,signsT]⟩
namespace Y
def uItS (ue:UE):UI:=fun μ Rt => ue μ fun r μ' => match r with
 | .tr (.str z) => Rt (signsT z) none μ'
 | _ => False
theorem itS {X:Cx} {tg e:Expr} {ue:UE} (he:YE X e ue):YI X tg e (uItS ue):=by
 obtain ⟨t,q,r⟩:=he;refine ⟨_,⟨pi_str q.h⟩,fun F ad B σ H μ R Rt hF l q k => r F ad B σ H μ _ _ hF l q fun v H' r1 μ' v1 f k1 q1 => ?_⟩
 split at q1
 ·rename_i z;obtain ⟨l1,rp⟩:=v1;cases rp;exact ⟨z,rfl,k _ H' μ' _ none _ l1 f k1 its_ok trivial (fun _ _ _ _ _ _ => trivial) (fun j ls z => by cases z) q1⟩
 ·exact q1.elim
end Y
namespace A
theorem tAllL (xs:List T) (μ:Mu) (Q:R -> Mu -> Prop):Y.tAll (.lst xs) μ Q = (∃ bs:List Bool,xs = bs.map T.bl /\ Q (.tr (.bl (bs.all id))) μ):=rfl
theorem strTI (i:Int) (μ:Mu) (Q:R -> Mu -> Prop):Y.uStrT [.tr (.int i)] μ Q = (i.natAbs.log2 < 1920 /\ Q (.tr (.str (toString i))) μ):=rfl
theorem strTS (z:Str) (μ:Mu) (Q:R -> Mu -> Prop):Y.uStrT [.tr (.str z)] μ Q = Q (.tr (.str z)) μ:=rfl
theorem intXI (i:Int) (μ:Mu) (Q:R -> Mu -> Prop):Y.uIntX [.tr (.int i)] μ Q = Q (.tr (.int i)) μ:=rfl
theorem intXB (b:Bool) (μ:Mu) (Q:R -> Mu -> Prop):Y.uIntX [.tr (.bl b)] μ Q = Q (.tr (.int (if b = true then 1 else 0))) μ:=rfl
theorem intXS (z:Str) (μ:Mu) (Q:R -> Mu -> Prop):Y.uIntX [.tr (.str z)] μ Q = (∃ n:Int,PySem.intText? z = some n /\ z.length <= 640 /\ Q (.tr (.int n)) μ):=rfl
theorem splitS (z y:Str) (μ:Mu) (Q:R -> Mu -> Prop):Y.uSplit z [.tr (.str y)] μ Q = ((y.length == 0) = false /\ z.length <= sizeLine /\ (Txt.split z y).length <= sizeLine /\ Q (.fr (.lst ((Txt.split z y).map T.str))) μ):=rfl
theorem uItS (ue:UE) (μ:Mu) (Rt:List T -> Option (Nat × List T) -> Mu -> Prop):Y.uItS ue μ Rt = ue μ fun r μ' => match r with
 | .tr (.str z) => Rt (signsT z) none μ'
 | _ => False:=rfl
end A
end L2
namespace L2
open PySem PySem.Spec PyProof PyProof.Rows
def IteL (K:PySem.W.Frag) (a:Addr):It :=
 ⟨fun i H => ∃ x,getL K a i H x,fun i H x H' => ∃ p y,(∀ xs,SqL K H a xs -> xs[i]? = some y) /\ H p = none /\ x = .ref p /\ H' = upd H p (.tup [.int i,y]),endL K a⟩
theorem turn_enumL {P:Program} {w:World} {K:PySem.W.Frag} {es:List Expr} {tk:Nat} {tp:Pos} (a it e:Addr) (hne:e ≠ it):Turn P w K (.Tuple es tk tp) (IteL K a) [e,it] e (fun i h => (∃ old,IsEnum h e it i old) /\ h.IsListIter it a i) where
 mem:=by simp
 obj:=fun i h st b hb => by
  obtain ⟨⟨old,he⟩,o,eo,c,d⟩:=st;rcases List.mem_cons.mp hb with z | z
  ·subst z;exact ⟨_,he,fun v z => by cases z⟩
  ·have z:b = it:=by simpa using z
   subst z;exact ⟨o,eo,fun v z => by rw [d] at z;cases z⟩
 keep:=fun i h h' st k => by
  obtain ⟨⟨old,he⟩,o,eo,r⟩:=st;exact ⟨⟨old,k e (by simp) _ he⟩,o,k it (by simp) o eo,r⟩
 item:=by
  intro X hP hw hK hc i pins s σ H E I hf st hg;subst hP hw hK;obtain ⟨x,xs,hq,hx⟩:=hg;obtain ⟨⟨old,he⟩,hit⟩:=st;obtain ⟨its,rv,p,hz⟩:=I.list hq;obtain ⟨u,hu,ru⟩:=rv.get hx;obtain ⟨g0,g1,g2,g3,g4,g5⟩:=hf e (by simp)
  obtain ⟨f0,f1,f2,f3,f4,f5⟩:=hf it (by simp)
  have ht:s.heap.IsList a its.toArray:=p.isList;have ha:a ≠ it:=by
   rintro rfl;obtain ⟨o,e1,c1,_⟩:=hit;obtain ⟨o',e2,c2,_⟩:=ht;rw [e1] at e2;cases e2;rw [c1] at c2;exact absurd (Value.type.inj c2) (by decide)
  have hea:e ≠ a:=by
   rintro rfl;obtain ⟨o',e2,c2,_⟩:=ht;have e1:s.heap.get? e = some _:=he;rw [e1] at e2;cases e2;exact absurd (Value.type.inj c2) (by decide)
  have hi:i < its.toArray.size:=by
   have:=(List.getElem?_eq_some_iff.mp hu).1
   simpa using this
  refine wpAny_pyNext_enum_itemD (Draws.list (A:=X.A.in1) (I.ok.hd hc) it a ha its.toArray) he ⟨hit,ht⟩ hi hne (by simp [hne,hea]) fun x' h' tk' hP ho hs' hT hsz hk => ?_
  have ex:x' = u:=by
   have hP':its.toArray[i]? = some x':=hP;rw [List.getElem?_toArray,hu] at hP';exact (Option.some.inj hP').symm
  subst ex;refine ⟨.ref s.heap.objs.size,rfl,wpAny_letOwnedTupleGo_enum ho fun h2 he2 hs2 => ?_⟩;have fr:H s.heap.objs.size = none:=I.hok.fresh (Nat.le_refl _);have hle:e ≠ s.heap.objs.size:=Nat.ne_of_lt (Heap.lt_size he);have hT2:h2.get? s.heap.objs.size = some { cls:=.type "tuple",data:=.seq #[.int i tk',x'] }:=(hs2.2 _ (Ne.symm hle)).trans hT;have I2:Inv X pins σ (upd H s.heap.objs.size (.tup [.int i,x])) { s with heap:=h2,toks:=tk' + 1 }:=by
   refine I.turnNew (fp:=[e,it]) hf (Nat.le_refl _) (fun b o hb eb => ?_) ⟨by show 2 <= sizeLine;decide,[.int i tk',x'],.cons ⟨_,rfl⟩ (.cons ru .nil),⟨_,hT2,rfl,_,rfl,rfl⟩⟩
   have n1:b ≠ e:=fun z => hb (by simp [z])
   have n2:b ≠ it:=fun z => hb (by simp [z])
   exact (hs2.2 b n1).trans (hk b o n1 n2 eb)
  refine ⟨.ref s.heap.objs.size,_,I2,rfl,⟨s.heap.objs.size,x,fun ys hy => by rw [I.list_inj hy hq];exact hx,fr,rfl,rfl⟩,⟨⟨x',?_⟩,?_⟩,fun b hb => ?_⟩
  ·have e:(((i + 1:Nat)):Int) = (i:Int) + 1:=by lia
   rw [e];exact he2
  ·obtain ⟨o,e1,r⟩:=hs'.1;exact ⟨o,(hs2.2 it (Ne.symm hne)).trans e1,r⟩
  ·have n:b ≠ s.heap.objs.size:=by
    rcases List.mem_cons.mp hb with z | z
    ·subst z;exact hle
    ·have z:b = it:=by simpa using z
     subst z;obtain ⟨o,e1,_⟩:=hit;exact Nat.ne_of_lt (Heap.lt_size e1)
   rw [upd_ne n];exact (hf b hb).1
 done:=by
  intro X hP hw hK hc i pins s σ H E I hf st hg;subst hP hw hK;obtain ⟨xs,hq,hx⟩:=hg;obtain ⟨⟨old,he⟩,hit⟩:=st;obtain ⟨its,rv,p,hz⟩:=I.list hq;have ht:s.heap.IsList a its.toArray:=p.isList;have ha:a ≠ it:=by
   rintro rfl;obtain ⟨o,e1,c1,_⟩:=hit;obtain ⟨o',e2,c2,_⟩:=ht;rw [e1] at e2;cases e2;rw [c1] at c2;exact absurd (Value.type.inj c2) (by decide)
  have hl:=rv.length;have hsz:its.toArray.size = i:=by simp;lia
  refine wpAny_pyNext_enum_endD (Draws.list (A:=X.A.in1) (I.ok.hd hc) it a ha its.toArray) he (by rw [hsz];exact ⟨hit,ht⟩) fun h' eb => ⟨rfl,?_⟩
  exact I.turns (t':=s.toks) hf fun b o hb e1 => eb b o (fun z => hb (by simp [z])) e1
 self:=fun A i s Q E st h => by
  obtain ⟨⟨old,he⟩,_⟩:=st;exact wpAny_pyIter_enum he h
section
variable {X:Cx} {es:List Expr} {tk:Nat} {tp:Pos}
def iEnumL (K:PySem.W.Frag) (ta:TA):TI:=fun σ H R => ta σ H fun vs H1 => ∃ a,vs = [.ref a] /\ (∃ xs,SqL K H1 a xs) /\ R (IteL K a) H1
theorem pi_enumL {e:Expr} {ta:TA} {p pos:Pos} (hg:Gl X "enumerate") (hm:X.mg "enumerate" = none) (ha:PA X [e] ta) (h1:autoParam (nst e = true) L2.aRfl._auto_1) (hv:bootBuiltins "enumerate" = some (.type "enumerate"):=by decide +kernel) :
  PI X (.Tuple es tk tp) (.Call (.Name "enumerate" p) [e] [] pos) (iEnumL X.K ta):=by
 intro pins s σ H R I h;refine Call_ (ld_blt I hg hm hv (PyProof.Rows.callWith_type1 (thn (ha pos pins s σ H _ I h) fun us s1 ⟨vs,H1,I1,r1,q1⟩ => ?_) (star1 h1) rfl));obtain ⟨a,e,⟨xs,hq⟩,q⟩:=q1;subst e;obtain ⟨u,rfl,ru⟩:=vals1 r1;cases ru;obtain ⟨its,rv,pt,hz⟩:=I1.list hq;refine call_enumerate_list pt.isList fun h' he hit hsz hk => ?_;refine wpAny_pyIter_enum he ?_;have I2:Inv X pins σ H1 { s1 with heap:=h' }:=I1.kept (t':=s1.toks) hk
 refine ⟨s1.heap.objs.size + 1,[s1.heap.objs.size + 1,s1.heap.objs.size],_,_,H1,rfl,I2,turn_enumL a s1.heap.objs.size (s1.heap.objs.size + 1) (Nat.ne_of_gt (Nat.lt_succ_self _)),⟨⟨_,he⟩,hit⟩,fun b hb => ?_,q⟩;have hb':s1.heap.objs.size <= b:=by
  rcases List.mem_cons.mp hb with z | z
  ·rw [z];exact Nat.le_succ _
  ·have z:b = s1.heap.objs.size:=by simpa using z
   rw [z];exact Nat.le_refl _
 exact I1.fpOk hb' (I1.hok.fresh hb')
end
theorem iteL_ok {K:PySem.W.Frag} {a:Addr} {ts:List T}:ItOk K (IteL K a) (fun H B => ∃ vs,SqL K H a vs /\ Reps K H B vs ts) (pairs ts):=by
 refine ⟨fun H B i t hb ⟨vs,h,r⟩ e => ?_,fun H B ⟨vs,h,r⟩ => ⟨vs,h,by rw [r.length];simp [pairs]⟩⟩
 unfold pairs at e;rw [List.getElem?_map] at e;have hi:i < ts.length:=by
  rcases Nat.lt_or_ge i ts.length with z | z
  ·exact z
  ·rw [List.getElem?_eq_none_iff.mpr (by simpa using z)] at e;cases e
 rw [List.getElem?_range hi] at e;have e':T.tup [.int (i:Nat),(ts[i]?).getD .non] = t:=Option.some.inj e;have et:ts[i]? = some ts[i]:=List.getElem?_eq_getElem hi;obtain ⟨v,e1,rv⟩:=r.get et;refine ⟨⟨v,vs,h,e1⟩,fun x H2 y => ?_⟩;obtain ⟨p,y,hy,hp,rfl,rfl⟩:=y;have:=hy vs h;rw [e1] at this;cases this;subst e';rw [et];refine ⟨Same.new hp,.tup (fun z => ?_) upd_same (.cons (.int _) (.cons (rv.fr (Fr.same (Same.new hp))) .nil))⟩;obtain ⟨o,q⟩:=hb p z;rw [hp] at q;cases q
namespace Y
def iEnL (us:UA):UI:=fun μ Rt => us μ fun rs μ' => match rs with
 | [.tr (.lst ts)] => Rt (pairs ts) none μ'
 | _ => False
theorem enumL {X:Cx} {e:Expr} {es:List Expr} {us:UA} {p pos:Pos} (K:PySem.W.Frag) (hK:X.K = K) {k:Nat} {tp:Pos} (hg:Gl X "enumerate") (hm:X.mg "enumerate" = none) (ha:YA X [e] us) (h1:autoParam (nst e = true) L2.aRfl._auto_1):YI X (.Tuple es k tp) (.Call (.Name "enumerate" p) [e] [] pos) (iEnL us):=by
 obtain ⟨t,q,r⟩:=ha;subst hK;refine ⟨_,⟨pi_enumL hg hm q.h h1⟩,fun F ad B σ H μ R Rt hF l q k => r F ad B σ H μ _ _ hF l q fun vs H' rs μ' l1 ps f k1 q1 => ?_⟩
 split at q1
 ·rename_i ts
  cases ps with
  | cons h1 ps =>
   cases ps;have rp:=rep_of h1
   cases rp with
   | @lst a vs _ n h rr =>
    have sr:∀ H B,Rep F.K H B (.ref a) (.lst ts) -> ∃ vs,SqL X.K H a vs /\ Reps X.K H B vs ts:=fun H B h => by
     rw [hF] at h
     cases h with | lst n h r => exact ⟨_,SqL.of h,r⟩
    exact ⟨a,rfl,⟨vs,SqL.of h⟩,k (IteL X.K a) H' μ' (pairs ts) none (fun H B => Rep F.K H B (.ref a) (.lst ts)) l1 f k1 (iteL_ok.imp sr) (.lst n h rr) (fun B1 H1 B2 H2 f h => h.fr f) (fun j ls z => by cases z) q1⟩
 ·exact q1.elim
end Y
namespace A
theorem iEnL (us:UA) (μ:Mu) (Rt:List T -> Option (Nat × List T) -> Mu -> Prop):Y.iEnL us μ Rt = us μ fun rs μ' => match rs with
 | [.tr (.lst ts)] => Rt (pairs ts) none μ'
 | _ => False:=rfl
end A
def KRow (K:PySem.W.Frag) (ws:List Str) (v:Value):Prop:=∃ p,v = .ref p /\ KTp K p (ws.map V.str)
structure KDic (K:PySem.W.Frag) (a:Addr) (D:List (Str × List Str)):Prop where
 low:(a == sysModules) = false
 ex:∃ o es ep,K.lookup a = some o /\ o.ExactDict /\ o.data = .dict es ep /\ KTD.Rows (KRow K) es.toList D
section
variable {prog:Program} {w:World} {A:Around} {E:Value -> Shared -> Prop} {s:Shared} {K:PySem.W.Frag} {a:Addr} {D:List (Str × List Str)} {k:Str} {tk:Tok}
theorem KDic.typeIs (T:KDic K a D) (X:K.In s.heap):s.TypeIs (.ref a) "dict":=let ⟨o,_,_,ho,hc,_⟩:=T.ex;⟨o,X _ _ ho,hc.1⟩
theorem kdic_get {Q:Option Value -> Shared -> Prop} (T:KDic K a D) (X:K.In s.heap) (h1:∀ d v,KTD.datumAt k D = some d -> KRow K d v -> Q (some v) { s with toks:=s.toks + 1 }) (h2:KTD.datumAt k D = none -> Q none { s with toks:=s.toks + 1 }) :
  wpAny (model prog w) A (dictGet a (.str k tk)) Q E s:=by
 obtain ⟨o,es,ep,ho,hc,hd,hr⟩:=T.ex;have ho:=X _ _ ho;unfold dictGet
 try with_reducible refine wpAny_holding ?_
 refine wpAny_bind (wpAny_pyHash_str (wpAny_bind (KTD.kt_dictFind_strs (s:={ s with toks:=s.toks + 1 }) ho hd (by obtain ⟨l⟩:=es;simpa using hr.exact) ?_)))
 have hq:Q (findBy (fun k v => v.isStr k) es k) { s with toks:=s.toks + 1 }:=by
  have hf:findBy (fun k v => v.isStr k) es k = (es.toList.find? fun e => e.key.isStr k).map (·.val):=by
   obtain ⟨l⟩:=es;simp [findBy]
  rw [hf]
  cases hat:KTD.datumAt k D with
  | some d => obtain ⟨v,hv,hfl⟩:=hr.find_some hat;rw [hv];exact h1 d v hat hfl
  | none => rw [hr.find_none hat];exact h2 hat
 rw [findBy_of_findIdx?] at hq
 cases hi:es.findIdx? fun e => e.key.isStr k with
 | none => rw [hi] at hq;exact wpAny_pure hq
 | some i => rw [hi] at hq;exact wpAny_bind (wpAny_dictEntries (s:={ s with toks:=s.toks + 1 }) ho hd (wpAny_pure hq))
theorem meets_kget:MeetsIn prog w (Builtin.«dict.get» ⟨[.ref a,.str k tk],[]⟩) (fun _ R s => (KDic K a D /\ K.In s.heap) /\ (∀ d v,KTD.datumAt k D = some d -> KRow K d v -> R (.ok (.ret v)) { s with toks:=s.toks + 1 }) /\ (KTD.datumAt k D = none -> R (.ok (.ret .none)) { s with toks:=s.toks + 1 })) :=
 .of_wp fun A R s ⟨T,h1,h2⟩ => by
  show wpAny _ _ (dictGet a (.str k tk) >>= _) _ _ s;refine wpAny_bind (kdic_get T.1 T.2 (fun d v ha hv => wpAny_pure ⟨v,rfl,h1 d v ha hv⟩) fun hn => ?_);show wpAny _ _ (Builtin.Dict.missed a (.str k tk) >>= _) _ _ _;exact wpAny_bind (wpAny_missed_other T.1.low (wpAny_pure ⟨.none,rfl,h2 hn⟩))
end
def tKget (K:PySem.W.Frag) (D:List (Str × List Str)) (te:TE):TE:=fun σ H Q => te σ H fun y H1 => ∃ k,y = .str k /\ (∀ ws p,KTD.datumAt k D = some ws -> KTp K p (ws.map V.str) -> Q (.ref p) H1) /\ (KTD.datumAt k D = none -> Q .non H1)
theorem pe_kget {X:Cx} {o e:Expr} {te:TE} {apos cpos:Pos} {d:Addr} {D:List (Str × List Str)} (ho:PE X o (tC (.ref d))) (hD:KDic X.K d D) (he:PE X e te) (m:M1 X o "get" apos e cpos):PE X (.Call (.Attribute o "get" apos) [e] [] cpos) (tKget X.K D te):=by
 intro pins s σ H Q I h;refine wpAny_Call_method m.base m.few m.line PySem.F.plainAttrs_dict PySem.F.slot_dict_get PySem.F.type_dict_get (thn (ho pins s σ H (fun v H' => v = .ref d /\ H' = H) I ⟨rfl,rfl⟩) fun u s1 ⟨x,H1,I1,rx,ex,eh⟩ => ?_);subst ex eh;obtain rfl:u = Value.ref d:=rx;refine ⟨hD.typeIs I1.kIn,fun b q => ?_,?_⟩
 ·cases q;obtain ⟨ob,_,_,h1,h2,_⟩:=hD.ex;exact ⟨ob,I1.kIn _ _ h1,h2.2.1⟩
 rw [m.trees];refine Calls.callWith_builtin rfl (Calls.evalArgs_plain (Calls.spliced_cons (thn (he pins s1 σ H1 _ I1 h) fun iv s2 ⟨y,H2,I2,ry,k,ek,q1,q2⟩ => Calls.spliced_nil ?_)));subst ek;obtain ⟨t,rfl⟩:=ry;refine call_meetsIn PySem.F.slot_dict_get (hD.typeIs I2.kIn) PySem.F.entry_dict_get (PySem.F.args_dict_get_2 _ _) (meets_kget (D:=D)) ⟨⟨hD,I2.kIn⟩,fun ws v e r => ?_,fun e => ?_⟩
 ·obtain ⟨p,rfl,r⟩:=r;exact ⟨.ref p,H2,I2.tok _,rfl,q1 ws p e r⟩
 ·exact ⟨.non,H2,I2.tok _,rfl,q2 e⟩
namespace Y
def uKget (D:List (Str × List Str)) (ue:UE):UE:=fun μ Q => ue μ fun r μ' => match r with
 | .tr (.str k) => (match KTD.datumAt k D with
  | some ws => Q (.tr (.ktp (ws.map T.str))) μ'
  | none => Q (.tr .non) μ')
 | _ => False
theorem kget {X:Cx} {e:Expr} {ue:UE} {x:Str} {apos pos p:Pos} {D:List (Str × List Str)} (K:PySem.W.Frag) (hK:X.K = K) (hg:Gl X x) (hd:∃ d,X.mg x = some (.ref d) /\ KDic K d D) (he:YE X e ue) (h1:autoParam (nst e = true) L2.aRfl._auto_1)
  (hbase:autoParam (attributeBase (.Name x p) "get" X.env (eval (.Name x p) X.env) = eval (.Name x p) X.env) L2.aRfl._auto_1) (hline:autoParam ((apos.endLine == pos.line) = true) L2.aRfl._auto_1) (hs:autoParam (starEach [e] X.env = (false,eval e X.env) :: starEach [] X.env) L2.aRfl._auto_1) (hdb:autoParam ((x == ("__debug__":Str)) = false) L2.aDec._auto_1) :
  YE X (.Call (.Attribute (.Name x p) "get" apos) [e] [] pos) (uKget D ue):=by
 obtain ⟨t,q,r⟩:=he;obtain ⟨d,hm,hd⟩:=hd;subst hK;refine ⟨_,⟨pe_kget (pe_glob hg hm rfl hdb) hd q.h ⟨hbase,by rw [hs];rfl,hline,by rw [hs];rfl⟩⟩,fun F ad B σ H μ Q Qt hF l q k => r F ad B σ H μ _ _ hF l q fun v H' r1 μ' v1 f k1 q1 => ?_⟩
 split at q1
 ·rename_i z;obtain ⟨l1,rp⟩:=v1;cases rp;refine ⟨z,rfl,fun ws p e kt => ?_,fun e => ?_⟩
  ·rw [e] at q1;exact k _ H' (.tr (.ktp (ws.map T.str))) μ' ⟨l1,.ktp (by rw [hF];exact kt) (reps_strs ws)⟩ f.d k1 q1
  ·rw [e] at q1;exact k _ H' (.tr .non) μ' (Vr.flat l1 .non) f.d k1 q1
 ·exact q1.elim
end Y
namespace A
theorem uKget (D:List (Str × List Str)) (ue:UE) (μ:Mu) (Q:R -> Mu -> Prop):Y.uKget D ue μ Q = ue μ fun r μ' => match r with
 | .tr (.str k) => (match KTD.datumAt k D with
  | some ws => Q (.tr (.ktp (ws.map T.str))) μ'
  | none => Q (.tr .non) μ')
 | _ => False:=rfl
end A
namespace Y
def uMe0 (um:UM) (uo:UE):UE:=fun μ Q => uo μ fun ro μ1 => match ro with
 | .br j => isL ((μ1[j]?).bind Sl.box) (um j [] μ1 Q)
 | _ => False
section
variable {prog:Program} {w:World} {A:Around} {E:Value -> Shared -> Prop} {s:Shared}
end
end Y
namespace A
theorem uMe0 (um:Y.UM) (uo:UE) (μ:Mu) (Q:R -> Mu -> Prop):Y.uMe0 um uo μ Q = uo μ fun ro μ1 => match ro with
 | .br j => Y.isL ((μ1[j]?).bind Sl.box) (um j [] μ1 Q)
 | _ => False:=rfl
end A
namespace Y
def xForG (g:UG) (body:UXS) (E:Ed) (Xt:Xw):List T -> Mu -> Prop
 | [],μ => E.nx μ
 | t :: ts,μ => g (.tr t) μ fun μ1 => body { E with nx:=xForG g body E Xt ts,ct:=xForG g body E Xt ts,bk:=E.nx } Xt μ1
def xFor (ui:UI) (g:UG) (body:UXS):UXS:=fun E Xt μ => ui μ fun items gd μ' => gd = none /\ xForG g body E Xt items μ'
theorem xfor_core {K:PySem.W.Frag} {Dx:DxT} {g:TG} {ug:UG} {tb:TS} {body:UXS} {F:Fx} {D:Ends} {E:Ed} {Xt:Xw} {J:It} {Src:Hp -> AP' -> Prop} {items:List T} {B0:AP'} {H0:Hp} (hF:F.K = K) (hg:RG K g ug) (hb:RXS K Dx tb body) (it:ItOk K J Src items)
  (pe:∀ B1 H1 B2 H2,Fr B1 H1 B2 H2 -> Src H1 B1 -> Src H2 B2) (hE:EdOk F B0 H0 D E) (hX:XdOk F B0 H0 Dx Xt) {ad:Nat -> Addr} {B:AP'} {σ:St} {H:Hp} {μ:Mu} (l:Rl F ad B σ H μ) (f:Fr B0 H0 B H) (sr:Src H B) (q:xForG ug body E Xt items μ) :
  ∃ W:Nat -> Nat -> St -> Hp -> Prop,(∃ m,W 0 m σ H) /\ ∀ i m σ H,W i m σ H ->
   (J.stop i H /\ D.nx σ H) \/ (J.go i H /\ ∃ N:St -> Hp -> Prop,(∀ σ' H',N σ' H' -> ∃ m',m' < m /\ W (i + 1) m' σ' H') /\ ∀ x H',J.yld i H x H' -> g x σ H' fun σ2 H2 => tb { D with nx:=N,ct:=N,bk:=D.nx } σ2 H2):=by
 refine ⟨fun i m σ H => m = items.length - i /\ i <= items.length /\ ∃ ad B μ,Rl F ad B σ H μ /\ Fr B0 H0 B H /\ Src H B /\ xForG ug body E Xt (items.drop i) μ,⟨items.length,by simp,Nat.zero_le _,ad,B,μ,l,f,sr,q⟩,?_⟩
 rintro i m σ H ⟨rfl,hi,ad,B,μ,l,f,sr,q⟩;by_cases hlt:i < items.length
 ·have ei:items[i]? = some items[i]:=List.getElem?_eq_getElem hlt;rw [List.drop_eq_getElem_cons hlt] at q;obtain ⟨go,yl⟩:=it.step H B i _ l.trk sr ei;refine .inr ⟨go,fun σ' H' => ∃ ad' B' μ',Rl F ad' B' σ' H' μ' /\ Fr B0 H0 B' H' /\ Src H' B' /\ xForG ug body E Xt (items.drop (i + 1)) μ',fun σ' H' h => ⟨items.length - (i + 1),by lia,rfl,hlt,h⟩,fun x H2 y => ?_⟩
  obtain ⟨sm,rp⟩:=yl x H2 y;refine hg F ad B σ H2 μ x (.tr _) B H2 _ _ hF ⟨l.same sm,by show Rep F.K H2 B x _;rw [hF];exact rp⟩ Fr.refl q fun ad3 B3 σ3 H3 μ3 l3 f3 q3 => ?_
  have f03:Fr B0 H0 B3 H3:=(f.trans (Fr.same sm)).trans f3;have s3:Src H3 B3:=pe _ _ _ _ ((Fr.same sm).trans f3) sr;exact hb F _ _ Xt ad3 B3 σ3 H3 μ3 hF l3 q3 ⟨fun ad' B' σ' H' μ' l' f' q' => ⟨ad',B',μ',l',f03.trans f',pe _ _ _ _ f' s3,q'⟩,hE.rt,fun ad' B' σ' H' μ' l' f' q' => hE.nx ad' B' σ' H' μ' l' (f03.trans f') q',fun ad' B' σ' H' μ' l' f' q' => ⟨ad',B',μ',l',f03.trans f',pe _ _ _ _ f' s3,q'⟩⟩ (hX.step f03)
 ·have e:i = items.length:=by lia
  subst e;rw [List.drop_length] at q;exact .inl ⟨it.stop H B sr,hE.nx ad B σ H μ l f q⟩
theorem xforS {X:Cx} {tg it:Expr} {xs:List Stmt} {pos:Pos} {ui:UI} {g:UG} {u:UXS} (hp:PassesOwn (model X.prog X.w) X.A X.env X.xe) (hc:X.calm = true) (hi:YI X tg it ui) (hg:YG X tg g) (hb:YXB X xs u) (hs:∀ x,foldedSetIterable it X.env x = pure x:=by intro _;rfl):YXS X (.For tg it xs [] pos) (xFor ui g u):=by
 obtain ⟨ti,qi,ri⟩:=hi;obtain ⟨tg',qg,rg⟩:=hg;obtain ⟨t,q,r⟩:=hb;refine ⟨_,Z.forS hp hc qi qg q hs,fun F D E Xt ad B σ H μ hF l q h hX => ri F ad B σ H μ _ _ hF l q fun J H' μ' items gd Src l1 f1 k1 it sr so gok q1 => ?_⟩;obtain ⟨rfl,q1⟩:=q1;exact xfor_core hF rg r it so h hX l1 f1 sr q1
end Y
theorem xfor_ind {g:UG} {body:UXS} {E:Ed} {Xt:Xw} (I:List T -> Mu -> Prop) {items:List T} {μ:Mu} (h0:I items μ) (hn:∀ μ,I [] μ -> E.nx μ)
  (hs:∀ t ts μ (N:Mu -> Prop),I (t :: ts) μ -> (∀ μ',I ts μ' -> N μ') -> g (.tr t) μ fun μ1 => body { E with nx:=N,ct:=N,bk:=E.nx } Xt μ1):Y.xForG g body E Xt items μ:=by
 induction items generalizing μ with
 | nil => exact hn μ h0
 | cons t ts ih => exact hs t ts μ _ h0 fun μ' h => ih h
theorem xfor_any {ui:UI} {g:UG} {body:UXS} {E:Ed} {Xt:Xw} {μ:Mu} (h:∀ b,b = body -> Y.xFor ui g b E Xt μ):Y.xFor ui g body E Xt μ:=h body rfl
namespace A
theorem xFor (ui:UI) (g:UG) (body:UXS) (E:Ed) (Xt:Xw) (μ:Mu):Y.xFor ui g body E Xt μ = ui μ fun items gd μ' => gd = none /\ Y.xForG g body E Xt items μ':=rfl
end A
def lookT {α:Type} (k:Key):List Key -> List α -> Option α
 | x :: ks,t :: ts => if x = k then some t else lookT k ks ts
 | _,_ => none
def hasK (k:Key) (ks:List Key):Bool:=ks.any fun x => decide (x = k)
def putKs (k:Key) (ks:List Key):List Key:=if hasK k ks = true then ks else ks ++ [k]
def repV {α:Type} (k:Key) (v:α):List Key -> List α -> List α
 | x :: ks,t :: ts => (if x = k then v else t) :: repV k v ks ts
 | _,ts => ts
def putVs {α:Type} (k:Key) (v:α) (ks:List Key) (vs:List α):List α:=if hasK k ks = true then repV k v ks vs else vs ++ [v]
theorem repV_len {α:Type} (k:Key) (v:α):∀ (ks:List Key) (vs:List α),(repV k v ks vs).length = vs.length
 | [],vs => by unfold repV;rfl
 | _ :: _,[] => rfl
 | x :: ks,t :: ts => by show (_ :: repV k v ks ts).length = _;rw [List.length_cons,repV_len k v ks ts];rfl
theorem putVs_len {α:Type} (k:Key) (v:α) (ks:List Key) (vs:List α) (h:ks.length = vs.length):(putKs k ks).length = (putVs k v ks vs).length:=by
 unfold putKs putVs;split
 ·rw [repV_len];exact h
 ·rw [List.length_append,List.length_append,h];rfl
theorem any_zip (k:Key):∀ (ks:List Key) (vs:List V),ks.length = vs.length -> ((ks.zip vs).any fun kv => decide (kv.1 = k)) = hasK k ks
 | [],[],_ => rfl
 | [],_ :: _,h => by cases h
 | _ :: _,[],h => by cases h
 | x :: ks,v :: vs,h => by
  unfold hasK;rw [List.zip_cons_cons,List.any_cons,List.any_cons,any_zip k ks vs (Nat.succ.inj h)];rfl
theorem map_zip (k:Key) (y:V):∀ (ks:List Key) (vs:List V),((ks.zip vs).map fun kv => if kv.1 = k then (kv.1,y) else kv) = ks.zip (repV k y ks vs)
 | [],vs => by simp
 | _ :: _,[] => rfl
 | x :: ks,v :: vs => by
  rw [List.zip_cons_cons,List.map_cons,map_zip k y ks vs];show _ = (x,if x = k then y else v) :: ks.zip (repV k y ks vs)
  split <;> rfl
theorem put_zip (k:Key) (y:V) (ks:List Key) (vs:List V) (h:ks.length = vs.length):putK (ks.zip vs) k y = (putKs k ks).zip (putVs k y ks vs):=by
 unfold putK putKs putVs;rw [any_zip k ks vs h];split
 ·exact map_zip k y ks vs
 ·rw [List.zip_append h];rfl
theorem Reps.rep1 {K:PySem.W.Frag} {H:Hp} {B:AP'} {k:Key} {v:V} {t:T} (h:Rep K H B v t):∀ {ks:List Key} {vs:List V} {ts:List T},Reps K H B vs ts -> Reps K H B (repV k v ks vs) (repV k t ks ts)
 | [],_,_,r => by unfold repV;exact r
 | _ :: _,_,_,.nil => .nil
 | x :: ks,_,_,.cons q r => by
  refine .cons ?_ (Reps.rep1 h r);split
  ·exact h
  ·exact q
theorem Reps.put {K:PySem.W.Frag} {H:Hp} {B:AP'} {k:Key} {v:V} {t:T} {ks:List Key} {vs:List V} {ts:List T} (h:Rep K H B v t) (r:Reps K H B vs ts):Reps K H B (putVs k v ks vs) (putVs k t ks ts):=by
 unfold putVs;split
 ·exact Reps.rep1 h r
 ·exact r.append (.cons h .nil)
theorem Reps.look {K:PySem.W.Frag} {H:Hp} {B:AP'} {k:Key}:∀ {ks:List Key} {vs:List V} {ts:List T},Reps K H B vs ts -> (∀ t,lookT k ks ts = some t -> ∃ v,valV (ks.zip vs) k = some v /\ Rep K H B v t) /\ (ks.length = vs.length -> lookT k ks ts = none -> valV (ks.zip vs) k = none)
 | [],_,_,r => ⟨fun t e => (by unfold lookT at e;cases e),fun _ _ => by simp [valV]⟩
 | _ :: _,_,_,.nil => ⟨fun t e => (by cases e),fun l _ => (by cases l)⟩
 | x :: ks,_,_,.cons (v:=v) (t:=t0) (vs:=vs) (ts:=ts) q r => by
  obtain ⟨h1,h2⟩:=Reps.look (k:=k) (ks:=ks) r;by_cases e:x = k
  ·refine ⟨fun t z => ?_,fun _ z => ?_⟩
   ·have z':(if x = k then some t0 else lookT k ks ts) = some t:=z
    rw [if_pos e] at z';cases z';exact ⟨v,by rw [List.zip_cons_cons];exact valV_pos e,q⟩
   ·have z':(if x = k then some t0 else lookT k ks ts) = none:=z
    rw [if_pos e] at z';cases z'
  ·refine ⟨fun t z => ?_,fun l z => ?_⟩
   ·have z':(if x = k then some t0 else lookT k ks ts) = some t:=z
    rw [if_neg e] at z';obtain ⟨w,hw,rw'⟩:=h1 t z';exact ⟨w,by rw [List.zip_cons_cons,valV_neg e];exact hw,rw'⟩
   ·have z':(if x = k then some t0 else lookT k ks ts) = none:=z
    rw [if_neg e] at z';rw [List.zip_cons_cons,valV_neg e];exact h2 (Nat.succ.inj l) z'
theorem Rl.putC {F:Fx} {ad:Nat -> Addr} {B:AP'} {σ:St} {H:Hp} {μ:Mu} {i:Nat} {s:Sl} {c c':T} {o:HO} (l:Rl F ad B σ H μ) (e:μ[i]? = some s) (hb:s.box = some c) (new:Bx F.K (upd H (ad i) o) B (ad i) c'):Rl F ad B σ (upd H (ad i) o) (μ.set i (s.put c')):=by
 have k0:=(l.slot i s e).boxed hb;have hi:i < μ.length:=(List.getElem?_eq_some_iff.mp e).1;have f:Fr B H B (upd H (ad i) o):=Fr.set k0.2.1;have get:∀ j,(μ.set i (s.put c'))[j]? = if j = i then some (s.put c') else μ[j]?:=fun j => by
  rw [List.getElem?_set];by_cases z:i = j
  ·subst z;simp [hi]
  ·rw [if_neg z,if_neg (fun q => z q.symm)]
 refine ⟨by rw [List.length_set];exact l.len,fun j s' e' => ?_,fun j k s1 s2 c1 c2 e1 e2 b1 b2 q => ?_,fun j a p => ?_,l.bc,fun b z => ?_,fun b o e' n => ?_,fun a ws ga => ?_⟩
 ·rw [get] at e';by_cases z:j = i
  ·subst z;rw [if_pos rfl] at e';cases e';have k:=l.slot j s e
   cases s with
   | un => cases hb
   | tr t => cases hb
   | bx d => exact ⟨k.1,k.2.1,k.2.2.1,k.2.2.2.1,new⟩
   | pb d => exact ⟨k.1,k.2.1,k.2.2.1,new⟩
  ·rw [if_neg z] at e';have k:=l.slot j s' e';have ne:∀ d,s'.box = some d -> ad j ≠ ad i:=fun d hd q => z (l.inj j i s' s d c e' e hd hb q);unfold SlOk at k ⊢
   split at k
   ·trivial
   ·obtain ⟨v,e1,r1⟩:=k;exact ⟨v,e1,r1.fr f⟩
   ·obtain ⟨e1,b,z0,p,x⟩:=k;exact ⟨e1,b,z0,p,x.of (upd_ne (ne _ rfl)) f⟩
   ·obtain ⟨e1,b,p,x⟩:=k;exact ⟨e1,b,p,x.of (upd_ne (ne _ rfl)) f⟩
 ·rw [get] at e1 e2;have h1:∃ u d,μ[j]? = some u /\ u.box = some d:=by
   by_cases z:j = i
   ·subst z;exact ⟨s,c,e,hb⟩
   ·rw [if_neg z] at e1;exact ⟨_,_,e1,b1⟩
  have h2:∃ u d,μ[k]? = some u /\ u.box = some d:=by
   by_cases z:k = i
   ·subst z;exact ⟨s,c,e,hb⟩
   ·rw [if_neg z] at e2;exact ⟨_,_,e2,b2⟩
  obtain ⟨u1,d1,g1,g2⟩:=h1;obtain ⟨u2,d2,g3,g4⟩:=h2;exact l.inj j k u1 u2 d1 d2 g1 g3 g2 g4 q
 ·obtain ⟨⟨d,hd⟩,ha⟩:=l.par j a p;refine ⟨?_,ha⟩;rw [get];by_cases z:j = i
  ·subst z;rw [e] at hd;cases hd;rw [if_pos rfl];exact ⟨_,rfl⟩
  ·rw [if_neg z];exact ⟨d,hd⟩
 ·by_cases z':b = ad i
  ·subst z';exact ⟨_,upd_same⟩
  ·rw [upd_ne z'];exact l.trk b z
 ·have ne:b ≠ ad i:=by
   rintro rfl;rcases k0.2.2.2 with z | z
   ·exact n i z
   ·rw [z] at e';cases e'
  rw [upd_ne ne];exact l.old b o e' n
 ·obtain ⟨g1,g2,g3⟩:=l.gh a ws ga;refine ⟨by rw [upd_ne (fun z => g3 i s c e hb z.symm)];exact g1,g2,fun j s' d e' b' => ?_⟩
  rw [get] at e';by_cases z:j = i
  ·subst z;exact g3 j s c e hb
  ·rw [if_neg z] at e';exact g3 j s' d e' b'
namespace Y
def uIxD (uo ui:UE):UE:=fun μ Q => uo μ fun r1 μ1 => ui μ1 fun r2 μ2 => match cont μ2 r1.d,r2 with
 | some (.dic ks ts),.tr (.str k) => (match lookT (.inr k) ks ts with
  | some t => Q (.tr t) μ2
  | none => False)
 | _,_ => False
theorem ixD {X:Cx} {o i:Expr} {uo ui:UE} {pos:Pos} (hu:X.A.units + 1 < cLine) (ho:YE X o uo) (hi:YE X i ui) (hs:NoSl i:=by trivial):YE X (.Subscript o i pos) (uIxD uo ui):=by
 obtain ⟨t,q,rr⟩:=ho;obtain ⟨t',q',r'⟩:=hi;refine ⟨_,⟨pe_dget hu q.h q'.h hs⟩,fun F ad B σ H μ Q Qt hF l q k => rr F ad B σ H μ _ _ hF l q fun v H1 r1 μ1 v1 f1 k1 q1 => r' F ad B σ H1 μ1 _ _ hF v1.rl q1 fun v2 H2 r2 μ2 w2 f2 k2 q2 => ?_⟩
 split at q2
 ·rename_i ks ts z e1
  split at q2
  ·rename_i t0 e2;have l2:=w2.rl;have hv:=(v1.hv.fr f2.d k2).vw l2 e1;have rp:Rep F.K H2 B v2 (.str z):=w2.hv;cases rp
   cases hv with
   | dic h ll r =>
    obtain ⟨v,hv,rv⟩:=(Reps.look (k:=.inr z) (ks:=ks) r).1 t0 e2;exact ⟨_,v,rfl,.inl ⟨_,.inr z,h,rfl,hv.symm⟩,k _ H2 (.tr t0) μ2 ⟨l2,rv⟩ (f1.d.trans f2.d) (k1.trans k2) q2⟩
  ·exact q2.elim
 ·exact q2.elim
def rInD' (neg:Bool):R2:=fun x y H Q => ∃ a o,y = .ref a /\ DGet H a x o /\ Q (.bl (if neg then !o.isSome else o.isSome)) H
theorem op_ninDc {X:Cx} (hu:X.A.units + 1 < cLine):OpR X (compareOp .NotIn) (rInD' true):=by
 intro pins s σ H x y v u Q I rx ry h;obtain ⟨a,o,rfl,g,q⟩:=h;obtain rfl:u = Value.ref a:=ry;exact d_notIn hu I g rx fun s' I' => ⟨.bl (!o.isSome),H,I',rfl,q⟩
def tInDc (neg:Bool):T -> T -> Mu -> (R -> Mu -> Prop) -> Prop:=fun t u μ Q => match t,u with
 | .str k,.dic ks ts => Q (.tr (.bl (if neg then !(lookT (.inr k) ks ts).isSome else (lookT (.inr k) ks ts).isSome))) μ
 | _,_ => False
theorem ro_inDc {K:PySem.W.Frag} {neg:Bool}:ROp K (rInD' neg) (byT (tInDc neg)):=byT_of fun F ad B σ H μ Q Qt x y t u hK l v1 v2 q k => by
 unfold tInDc at q
 split at q
 ·rename_i z ks ts;cases v1
  cases v2 with
  | dic h ll r =>
   obtain ⟨h1,h2⟩:=Reps.look (k:=.inr z) (ks:=ks) r;refine ⟨_,_,rfl,.inl ⟨_,.inr z,h,rfl,rfl⟩,?_⟩
   cases hl:lookT (.inr z) ks ts with
   | none =>
    rw [h2 ll hl];rw [hl] at q;exact k _ H _ (Vr.flat l (.bl _)) Fr.refl q
   | some t0 =>
    obtain ⟨v,hv,_⟩:=h1 t0 hl;rw [hv];rw [hl] at q;exact k _ H _ (Vr.flat l (.bl _)) Fr.refl q
 ·exact q.elim
def uDPut (uo ui uv:UE):US:=fun E μ => uv μ fun rv μ1 => uo μ1 fun ro μ2 => ui μ2 fun ri μ3 => match rv,ro,ri with
 | .tr t,.br j,.tr (.str k) => (match (μ3[j]?).bind Sl.box with
  | some (.dic ks ts) => ks.length < sizeLine /\ E.nx (putS μ3 j (.dic (putKs (.inr k) ks) (putVs (.inr k) t ks ts)))
  | _ => False)
 | _,_,_ => False
theorem dput {X:Cx} {o i value:Expr} {uo ui uv:UE} {pos pos':Pos} (hu:X.A.units + 1 < cLine) (hv:YE X value uv) (ho:YE X o uo) (hi:YE X i ui) (hs:autoParam (swapsWith value (some (.Subscript o i pos')) pos.line X.env = pure false) L2.aRfl._auto_1):YS X (.Assign [.Subscript o i pos'] value pos) (uDPut uo ui uv):=by
 obtain ⟨t,q,rr⟩:=ho;obtain ⟨t',q',r'⟩:=hi;obtain ⟨tv,qv,rv⟩:=hv;refine ⟨_,⟨ps_dput hu q.h q'.h qv.h hs⟩,fun F D E ad B σ H μ hF l q h => rv F ad B σ H μ _ _ hF l q fun v0 H1 r0 μ1 v1 f1 k1 q1 => rr F ad B σ H1 μ1 _ _ hF v1.rl q1 fun v2 H2 r2 μ2 w2 f2 k2 q2 => r' F ad B σ H2 μ2 _ _ hF w2.rl q2 fun v3 H3 r3 μ3 w3 f3 k3 q3 => ?_⟩
 split at q3
 ·rename_i t0 j z;have l3:=w3.rl;have rz:Rep F.K H3 B v3 (.str z):=w3.hv;cases rz;have rt:Rep F.K H3 B v0 t0:=(v1.hv.fr (f2.d.trans f3.d) (k2.trans k3));obtain ⟨rfl,s,c,e1,e2⟩:=(w2.hv.fr f3.d k3:Hv F ad B H3 μ3 v2 (.br j));rw [e1] at q3;have q3':(match s.box with | some (.dic ks ts) => ks.length < sizeLine /\ E.nx (putS μ3 j (.dic (putKs (.inr z) ks) (putVs (.inr z) t0 ks ts))) | _ => False):=q3
  rw [e2] at q3';rcases ((l3.slot j s e1).boxed e2).2.2.1.is with ⟨_,_,rfl,_⟩ | ⟨ks,ts,vs,rfl,hq,ll,rv⟩
  case inl => exact q3'.elim
  obtain ⟨hz,q4⟩:=(show ks.length < sizeLine /\ _ from q3');refine ⟨ad j,_,rfl,.inl ⟨_,.inr z,hq,rfl,by rw [List.length_zip,<- ll,Nat.min_self];exact hz,rfl⟩,?_⟩
  have fs:Fr B H3 B (upd H3 (ad j) (.dK (putK (ks.zip vs) (.inr z) v0))):=Fr.set ((l3.slot j s e1).boxed e2).2.1;have l4:=l3.putC (c':=.dic (putKs (.inr z) ks) (putVs (.inr z) t0 ks ts)) (o:=.dK (putK (ks.zip vs) (.inr z) v0)) e1 e2 ⟨putVs (.inr z) v0 ks vs,by rw [upd_same,put_zip _ _ _ _ ll],putVs_len _ _ _ _ ll,(Reps.put rt rv).fr fs⟩
  unfold putS at q4;rw [e1] at q4;exact h.nx ad B σ _ _ l4 (((f1.d.trans f2.d).trans f3.d).trans fs) q4
 ·exact q3.elim
structure YPs (X:Cx) (pos:Pos) (keys:List (Option Expr)) (values:List Expr) (kvs:List (Str × Str)):Prop where
 ex:∃ trs,PPs X pos keys values trs /\ ∀ σ H Q,Q (kvs.map fun p => (V.str p.1,V.str p.2)) H -> tPairs trs σ H Q
theorem pnil {X:Cx} {pos:Pos}:YPs X pos [] [] []:=⟨[],pps_nil,fun σ H Q q => q⟩
theorem pcons {X:Cx} {pos p1 p2:Pos} {j1 j2:Nat} {k v:Str} {ks:List (Option Expr)} {vs:List Expr} {kvs:List (Str × Str)} (h:YPs X pos ks vs kvs):YPs X pos (some (.Constant (.str k) j1 p1) :: ks) (.Constant (.str v) j2 p2 :: vs) ((k,v) :: kvs):=by
 obtain ⟨trs,h1,h2⟩:=h.ex;exact ⟨_,pps_cons pe_str pe_str h1,fun σ H Q q => h2 σ H _ q⟩
def uDisp (kvs:List (Str × Str)):UE:=fun μ Q => Q (.fr (.dic (kvs.map fun p => .inr p.1) (kvs.map fun p => .str p.2))) μ
theorem merge_new:∀ (more kvs:List (Key × V)),((kvs ++ more).map (·.1)).Nodup -> mergeK kvs more = kvs ++ more
 | [],kvs,_ => by rw [List.append_nil];rfl
 | p :: r,kvs,h => by
  have hn:valV kvs p.1 = none:=by
   cases hv:valV kvs p.1 with
   | none => rfl
   | some v =>
    have hm:=valV_in hv;rw [List.map_append,List.map_cons] at h;have:=List.nodup_append.mp h;exact absurd rfl (this.2.2 _ hm _ List.mem_cons_self)
  show mergeK (putK kvs p.1 p.2) r = _;rw [putK_new p.2 hn,merge_new r _ (by rw [List.append_assoc];exact h),List.append_assoc]
  rfl
theorem disp {X:Cx} {pos:Pos} {keys:List (Option Expr)} {values:List Expr} {kvs:List (Str × Str)} (h:YPs X pos keys values kvs) (hall:autoParam (keys.all (·.isSome) = true) L2.aRfl._auto_1) (hl:autoParam (keys.length = values.length) L2.aRfl._auto_1) (h0:keys ≠ []:=by simp) (h15:autoParam (keys.length <= 15) L2.aDec._auto_1) (hk:autoParam (kvs.length <= 15) L2.aDec._auto_1) (hn:(kvs.map (·.1)).Nodup:=by decide +kernel):YE X (.Dict keys values pos) (uDisp kvs):=by
 obtain ⟨trs,h1,h2⟩:=h.ex;refine ⟨_,⟨pe_disp h1 hall hl h0 h15⟩,fun F ad B σ H μ Q Qt hF l q k p hp => h2 σ _ _ ⟨upd_same,kvs.map (fun p => (Sum.inr p.1,V.str p.2)),by rw [List.map_map];rfl,by rw [List.length_map];exact hk,?_⟩⟩
 have hm:mergeK [] (kvs.map fun p => ((Sum.inr p.1:Key),V.str p.2)) = (kvs.map fun p => (.inr p.1:Key)).zip (kvs.map fun p => V.str p.2):=by
  rw [merge_new _ [] ?_,List.nil_append]
  ·induction kvs with
   | nil => rfl
   | cons p r ih => rw [List.map_cons,List.map_cons,List.map_cons,List.zip_cons_cons,<- List.zip_map']
  ·rw [List.nil_append,List.map_map];have e:(kvs.map ((·.1) ∘ fun p:Str × Str => ((Sum.inr p.1:Key),V.str p.2))) = (kvs.map (·.1)).map Sum.inr:=by rw [List.map_map];rfl
   rw [e];exact List.Pairwise.map _ (fun a b h z => h (Sum.inr.inj z)) hn
 rw [upd_upd,hm];have rs:∀ (H':Hp) (B':AP'),Reps F.K H' B' (kvs.map fun p => V.str p.2) (kvs.map fun p => T.str p.2):=fun H' B' => by
  have:=reps_strs (K:=F.K) (H:=H') (B:=B') (kvs.map (·.2));rw [List.map_map,List.map_map] at this;exact this
 exact k _ _ (.fr (.dic (kvs.map fun p:Str × Str => (Sum.inr p.1:Key)) (kvs.map fun p:Str × Str => T.str p.2))) μ ⟨l.same (Same.new hp),p,rfl,l.notB hp,l.new0 hp,l.new hp,_,upd_same,by rw [List.length_map,List.length_map],rs _ _⟩ (Fr.more hp) (Kp.refl μ) q
end Y
namespace A
theorem uIxD (uo ui:UE) (μ:Mu) (Q:R -> Mu -> Prop):Y.uIxD uo ui μ Q = uo μ fun r1 μ1 => ui μ1 fun r2 μ2 => match cont μ2 r1.d,r2 with
 | some (.dic ks ts),.tr (.str k) => (match lookT (.inr k) ks ts with
  | some t => Q (.tr t) μ2
  | none => False)
 | _,_ => False:=rfl
theorem tInDc (neg:Bool) (k:Str) (ks:List Key) (ts:List T) (μ:Mu) (Q:R -> Mu -> Prop):Y.tInDc neg (.str k) (.dic ks ts) μ Q = Q (.tr (.bl (if neg then !(lookT (.inr k) ks ts).isSome else (lookT (.inr k) ks ts).isSome))) μ:=rfl
theorem uDPut (uo ui uv:UE) (E:Ed) (μ:Mu):Y.uDPut uo ui uv E μ = uv μ fun rv μ1 => uo μ1 fun ro μ2 => ui μ2 fun ri μ3 => match rv,ro,ri with
 | .tr t,.br j,.tr (.str k) => (match (μ3[j]?).bind Sl.box with
  | some (.dic ks ts) => ks.length < sizeLine /\ E.nx (putS μ3 j (.dic (putKs (.inr k) ks) (putVs (.inr k) t ks ts)))
  | _ => False)
 | _,_,_ => False:=rfl
theorem uDisp (kvs:List (Str × Str)) (μ:Mu) (Q:R -> Mu -> Prop):Y.uDisp kvs μ Q = Q (.fr (.dic (kvs.map fun p => .inr p.1) (kvs.map fun p => .str p.2))) μ:=rfl
end A
theorem draws_txt {prog:Program} {w:World} {A:Around} (hh:A.handled = none) (it l:Addr) (x:Str) (t:Tok):Draws prog w A it [it,l] x.cps.size (fun i v => ∃ c u,x.cps[i]? = some c /\ v = .str ⟨#[c]⟩ u) (fun i h => h.IsStrIter it "str_ascii_iterator" x t i) where
 live:=(Draws.strAscii (prog:=prog) (w:=w) hh it x t).live
 frame:=fun i h h' st k => (Draws.strAscii (prog:=prog) (w:=w) hh it x t).frame i h h' st fun b hb o e => k b (List.mem_cons.mpr (.inl (List.mem_singleton.mp hb))) o e
 item:=(Draws.strAscii hh it x t).item
 done:=(Draws.strAscii hh it x t).done
def ItzS (K:PySem.W.Frag) (a:Addr) (z:Str):It :=
 ⟨fun i H => ∃ xs x c,SqL K H a xs /\ xs[i]? = some x /\ z.cps[i]? = some c,fun i H x H' => ∃ p y c,(∀ xs,SqL K H a xs -> xs[i]? = some y) /\ z.cps[i]? = some c /\ H p = none /\ x = .ref p /\ H' = upd H p (.tup [y,.str ⟨#[c]⟩]),fun i H => ∃ xs,SqL K H a xs /\ i = min xs.length z.cps.size⟩
noncomputable abbrev zs1 (h:Heap) (a:Addr):Heap:=h.push { cls:=.type "list_iterator",data:=.fields #[.ref a,.int 0 0] }
noncomputable abbrev zs2 (h:Heap) (a:Addr) (x:Str) (t:Tok):Heap:=(zs1 h a).push { cls:=.type "str_ascii_iterator",data:=.fields #[.str x t,.int 0 0] }
noncomputable abbrev zs3 (h:Heap) (a:Addr) (x:Str) (t:Tok):Heap:=(zs2 h a x t).push { cls:=.type "tuple",data:=.seq #[.ref h.objs.size,.ref (zs1 h a).objs.size] }
noncomputable abbrev zs4 (h:Heap) (a:Addr) (x:Str) (t:Tok):Heap:=(zs3 h a x t).push { cls:=.type "tuple",data:=.seq #[.none,.none] }
noncomputable abbrev zs5 (h:Heap) (a:Addr) (x:Str) (t:Tok):Heap:=(zs4 h a x t).push { cls:=.type "zip",data:=.fields #[.none,.bool false,.bool false,.ref (zs2 h a x t).objs.size,.ref (zs3 h a x t).objs.size] }
theorem meets_zipS (a:Addr) (xs:Array Value) (x:Str) (t:Tok) (hx:x.cps.all (· < 128) = true) :
  Meets (Builtin.«zip.__new__» ⟨[.type "zip",.ref a,.str x t],[]⟩) (fun _ R s => s.heap.IsList a xs /\ R (.ok (.ret (.ref (zs4 s.heap a x t).objs.size))) { s with heap:=zs5 s.heap a x t }) :=
 .of_wp fun prog w A R s h => by
  obtain ⟨hp,g,d,tk,os⟩:=s;obtain ⟨q1,h⟩:=h;have hsub:=sub_zip;have w1:Heap.IsList (Shared.heap ⟨hp,g,d,tk,os⟩) a xs:=q1;wp_walk using wpAny_pyIter_list w1,wpAny_pyIter_ascii hx;exact ⟨_,rfl,h⟩
section
variable {prog:Program} {w:World} {A:Around} {E:Value -> Shared -> Prop} {s:Shared}
theorem call_zipS {a:Addr} {xs:Array Value} {x:Str} {t:Tok} {Q:Value -> Shared -> Prop} (hx:x.cps.all (· < 128) = true) (h1:s.heap.IsList a xs)
  (h:∀ h',IsZip h' (s.heap.objs.size + 4) (s.heap.objs.size + 2) (s.heap.objs.size + 3) .none -> IsPair h' (s.heap.objs.size + 2) (.ref s.heap.objs.size) (.ref (s.heap.objs.size + 1)) -> IsPair h' (s.heap.objs.size + 3) .none .none ->
   h'.IsListIter s.heap.objs.size a 0 -> h'.IsStrIter (s.heap.objs.size + 1) "str_ascii_iterator" x t 0 -> (∀ c o,s.heap.get? c = some o -> h'.get? c = some o) -> Q (.ref (s.heap.objs.size + 4)) { s with heap:=h' }) :
  wpAny (model prog w) A (call (.type "zip") [.ref a,.str x t]) Q E s:=by
 refine callType_new F.called_zip (by decide) (F.typeCall_zip_2 _ _) (F.newCall_zip_2 _ _) (fun obj => F.args_object_init_3 obj _ _) F.entry_zip_new (meets_zipS a xs x t hx) ⟨h1,?_⟩
 have e1:(zs1 s.heap a).objs.size = s.heap.objs.size + 1:=Heap.size_push ..;have e2:(zs2 s.heap a x t).objs.size = s.heap.objs.size + 2:=by rw [Heap.size_push,e1]
 have e3:(zs3 s.heap a x t).objs.size = s.heap.objs.size + 3:=by rw [Heap.size_push,e2]
 have e4:(zs4 s.heap a x t).objs.size = s.heap.objs.size + 4:=by rw [Heap.size_push,e3]
 have p5:(zs5 s.heap a x t).get? (zs4 s.heap a x t).objs.size = some _:=Heap.get?_push_size _ rfl;have p4:(zs5 s.heap a x t).get? (zs3 s.heap a x t).objs.size = some _:=Heap.get?_push_of_some _ (Heap.get?_push_size _ rfl);have p3:(zs5 s.heap a x t).get? (zs2 s.heap a x t).objs.size = some _:=Heap.get?_push_of_some _ (Heap.get?_push_of_some _ (Heap.get?_push_size _ rfl));have p2:(zs5 s.heap a x t).get? (zs1 s.heap a).objs.size = some _:=Heap.get?_push_of_some _ (Heap.get?_push_of_some _ (Heap.get?_push_of_some _ (Heap.get?_push_size _ rfl)));have p1:(zs5 s.heap a x t).get? s.heap.objs.size = some _:=Heap.get?_push_of_some _ (Heap.get?_push_of_some _ (Heap.get?_push_of_some _ (Heap.get?_push_of_some _ (Heap.get?_push_size _ rfl))));show _ /\ _;rw [e2,e3,e4] at p5;rw [e1,e2] at p3;rw [e3] at p4;rw [e1] at p2;rw [e4];exact ⟨⟨_,p5,rfl⟩,h _ p5 p3 p4 ⟨_,p1,rfl,rfl⟩ ⟨_,p2,rfl,rfl⟩ fun c o x => Heap.get?_push_of_some _ (Heap.get?_push_of_some _ (Heap.get?_push_of_some _ (Heap.get?_push_of_some _ (Heap.get?_push_of_some _ x))))⟩
end
theorem turn_zipS {P:Program} {w:World} {K:PySem.W.Frag} {es:List Expr} {tk:Nat} {tp:Pos} (a:Addr) (xt:Str) (tt:Tok) (z TI TO i1 i2:Addr) (D:ZA z TI TO i1 i2 a a) :
  Turn P w K (.Tuple es tk tp) (ItzS K a xt) [z,TI,TO,i1,i2] z (fun i h => IsZip h z TI TO .none /\ IsPair h TI (.ref i1) (.ref i2) /\ (∃ x y,IsPair h TO x y) /\ h.IsListIter i1 a i /\ h.IsStrIter i2 "str_ascii_iterator" xt tt i) where
 mem:=by simp
 obj:=fun i h st c hc => by
  obtain ⟨s1,s2,⟨x,y,s3⟩,s4,s5⟩:=st;simp only [List.mem_cons,List.not_mem_nil,or_false] at hc;rcases hc with rfl | rfl | rfl | rfl | rfl
  ·exact ⟨_,s1,fun v q => by cases q⟩
  ·exact ⟨_,s2,fun v q => by cases q⟩
  ·exact ⟨_,s3,fun v q => by cases q⟩
  ·obtain ⟨o,e,_,d⟩:=s4;exact ⟨o,e,fun v q => by rw [d] at q;cases q⟩
  ·obtain ⟨o,e,_,d⟩:=s5;exact ⟨o,e,fun v q => by rw [d] at q;cases q⟩
 keep:=fun i h h' st k => by
  obtain ⟨s1,s2,⟨x,y,s3⟩,⟨o4,e4,r4⟩,⟨o5,e5,r5⟩⟩:=st;exact ⟨k z (by simp) _ s1,k TI (by simp) _ s2,⟨x,y,k TO (by simp) _ s3⟩,⟨o4,k i1 (by simp) o4 e4,r4⟩,⟨o5,k i2 (by simp) o5 e5,r5⟩⟩
 item:=by
  intro X hP hw hK hc i pins s σ H E I hf st hg;subst hP hw hK;obtain ⟨xs,x,c,q1,ex,ec⟩:=hg;obtain ⟨s1,s2,⟨x0,y0,s3⟩,s4,s5⟩:=st;obtain ⟨its1,rv1,p1,_⟩:=I.list q1;obtain ⟨u1,hu1,ru1⟩:=rv1.get ex;have lt1:i < its1.toArray.size:=by have:=(List.getElem?_eq_some_iff.mp hu1).1;simpa using this
  have lt2:i < xt.cps.size:=(Array.getElem?_eq_some_iff.mp ec).1;have hT:s.TypeIs (.ref z) "zip":=⟨_,s1,rfl⟩;have D1:=Draws.list (prog:=X.prog) (w:=X.w) (A:=X.A.in1) (I.ok.hd hc) i1 a D.a8.2.2.1 its1.toArray;have D2:=draws_txt (prog:=X.prog) (w:=X.w) (A:=X.A.in1) (I.ok.hd hc) i2 a xt tt;unfold pyNext;refine wpAny_bind (wpAny_attempt (wpAny_callSpecial?_slot (name:=Str.ofString "__next__") hT PySem.F.slot_zip_next (wpAny_call_entry PySem.F.slot_zip_next hT PySem.F.entry_zip_next
   (zipG_item D D1 D2 s1 s2 s3 ⟨s4,p1.isList⟩ s5 lt1 lt2 fun v1 v2 h' tk' px py z1 t1 w1 w2 pr kp => wpAny_pure ?_) (PySem.F.args_zip_next_1 _))))
  have fr:H s.heap.objs.size = none:=I.hok.fresh (Nat.le_refl _);have ev1:v1 = u1:=by rw [List.getElem?_toArray,hu1] at px;exact (Option.some.inj px).symm
  obtain ⟨c2,tc,hc2,rfl⟩:=py;have ecc:c2 = c:=by rw [ec] at hc2;exact (Option.some.inj hc2).symm
  subst ev1 ecc;have lt:∀ {c o},s.heap.get? c = some o -> s.heap.objs.size ≠ c:=fun e => Nat.ne_of_gt (Heap.lt_size e);refine ⟨.ref s.heap.objs.size,rfl,wpAny_letOwnedTupleGo_zip z1 fun h2 z2 sb2 => ?_⟩;have pr2:IsPair h2 s.heap.objs.size v1 (.str ⟨#[c2]⟩ tc):=sb2.extBut _ _ (lt s1) pr;have I2:Inv X pins σ (upd H s.heap.objs.size (.tup [x,.str ⟨#[c2]⟩])) { s with heap:=h2,toks:=tk' }:=by
   refine I.turnNew (fp:=[z,TI,TO,i1,i2]) hf (Nat.le_refl _) (fun c o hcm ec => ?_) ⟨by show 2 <= sizeLine;decide,[v1,.str ⟨#[c2]⟩ tc],.cons ru1 (.cons ⟨_,rfl⟩ .nil),⟨_,pr2,rfl,_,rfl,rfl⟩⟩
   simp only [List.mem_cons,List.not_mem_nil,or_false,not_or] at hcm;exact sb2.extBut _ _ hcm.1 (kp c o hcm.1 hcm.2.2.1 hcm.2.2.2.1 hcm.2.2.2.2 ec)
  refine ⟨.ref s.heap.objs.size,_,I2,rfl,⟨s.heap.objs.size,x,c2,fun zs hz => by rw [I.list_inj hz q1];exact ex,ec,fr,rfl,rfl⟩,⟨z2,?_,⟨v1,.str ⟨#[c2]⟩ tc,?_⟩,?_,?_⟩,fun c hcm => ?_⟩
  ·exact sb2.extBut _ _ D.a1 (kp _ _ D.a1 D.b1.1 D.b1.2.1 D.b1.2.2 s2)
  ·exact sb2.extBut _ _ D.a2 t1
  ·have:=D1.frame (i + 1) h' h2 w1 fun c hcm o q => sb2.extBut _ _ (D.f1 (.inl rfl) c hcm) q;exact this.1
  ·exact D2.frame (i + 1) h' h2 w2 fun c hcm o q => sb2.extBut _ _ (D.f2 (.inl rfl) c hcm) q
  ·have hn:=(hf c hcm).1;rw [upd_ne]
   ·exact hn
   ·simp only [List.mem_cons,List.not_mem_nil,or_false] at hcm;rcases hcm with rfl | rfl | rfl | rfl | rfl
    ·exact (lt s1).symm
    ·exact (lt s2).symm
    ·exact (lt s3).symm
    ·obtain ⟨o,e,_⟩:=s4;exact (lt e).symm
    ·obtain ⟨o,e,_⟩:=s5;exact (lt e).symm
 done:=by
  intro X hP hw hK hc i pins s σ H E I hf st hg;subst hP hw hK;obtain ⟨xs,q1,hi⟩:=hg;obtain ⟨s1,s2,⟨x0,y0,s3⟩,s4,s5⟩:=st;obtain ⟨its1,rv1,p1,_⟩:=I.list q1;have n1:its1.toArray.size = xs.length:=by rw [List.size_toArray];exact rv1.length.symm
  have hT:s.TypeIs (.ref z) "zip":=⟨_,s1,rfl⟩;have D1:=Draws.list (prog:=X.prog) (w:=X.w) (A:=X.A.in1) (I.ok.hd hc) i1 a D.a8.2.2.1 its1.toArray;have D2:=draws_txt (prog:=X.prog) (w:=X.w) (A:=X.A.in1) (I.ok.hd hc) i2 a xt tt;unfold pyNext;refine wpAny_bind (wpAny_attempt (wpAny_callSpecial?_slot (name:=Str.ofString "__next__") hT PySem.F.slot_zip_next (wpAny_call_entry PySem.F.slot_zip_next hT PySem.F.entry_zip_next
   (zipG_end D D1 D2 s1 s2 s3 ⟨s4,p1.isList⟩ s5 (by rw [n1];lia) fun h' e tk' kp he => ?_) (PySem.F.args_zip_next_1 _))))
  obtain ⟨o,ho,hcl⟩:=he;refine wpAny_bind (wpAny_isInstance (T:="StopIteration") (b:=true) ⟨o,ho,hcl⟩ isSubtype_stop (wpAny_pure ⟨rfl,?_⟩));refine I.turns (t':=tk') hf fun c o hcm ec => ?_;simp only [List.mem_cons,List.not_mem_nil,or_false,not_or] at hcm;exact kp c o hcm.1 hcm.2.2.1 hcm.2.2.2.1 hcm.2.2.2.2 ec
 self:=fun A i s Q E st h => wpAny_pyIter_zip st.1 h
section
variable {X:Cx} {es:List Expr} {tk:Nat} {tp:Pos}
def iZipS (K:PySem.W.Frag) (ta:TA):TI:=fun σ H R => ta σ H fun vs H1 => ∃ a z,vs = [.ref a,.str z] /\ z.cps.all (· < 128) = true /\ (∃ xs,SqL K H1 a xs) /\ R (ItzS K a z) H1
theorem pi_zipS {e1 e2:Expr} {ta:TA} {p pos:Pos} (hg:Gl X "zip") (hm:X.mg "zip" = none) (ha:PA X [e1,e2] ta) (h1:autoParam (nst e1 = true) L2.aRfl._auto_1) (h2:autoParam (nst e2 = true) L2.aRfl._auto_1) (hv:bootBuiltins "zip" = some (.type "zip"):=by decide +kernel) :
  PI X (.Tuple es tk tp) (.Call (.Name "zip" p) [e1,e2] [] pos) (iZipS X.K ta):=by
 intro pins s σ H R I h;refine Call_ (ld_blt I hg hm hv (PyProof.Rows.callWith_type1 (thn (ha pos pins s σ H _ I h) fun us s1 ⟨vs,H1,I1,r1,q1⟩ => ?_) (by rw [star1 h1,star1 h2]) (by rw [star1 h2];rfl)))
 obtain ⟨a,zt,e,hz,⟨xs,hx⟩,q⟩:=q1;subst e;obtain ⟨u,w',rfl,ru,rw'⟩:=vals2 r1;cases ru;obtain ⟨tt,rfl⟩:=rw';obtain ⟨its1,rv1,p1,_⟩:=I1.list hx;have l1:a < s1.heap.objs.size:=by obtain ⟨o,ho,_⟩:=p1.isList;exact Heap.lt_size ho
 refine call_zipS hz p1.isList fun h' z1 z2 z3 z4 z5 kp => wpAny_pyIter_zip z1 ?_;have I2:Inv X pins σ H1 { s1 with heap:=h' }:=I1.kept (t':=s1.toks) kp
 have ne:∀ (m n c:Nat),m ≠ n -> c + m ≠ c + n:=fun m n c h => by lia
 have nl:∀ (x c m:Nat),x < c -> x ≠ c + m:=fun x c m h => by lia
 have nn:∀ (c m:Nat),m ≠ 0 -> c + m ≠ c:=fun c m h => by lia
 have D:ZA (s1.heap.objs.size + 4) (s1.heap.objs.size + 2) (s1.heap.objs.size + 3) s1.heap.objs.size (s1.heap.objs.size + 1) a a :=
  ⟨ne 2 4 _ (by decide),ne 3 4 _ (by decide),ne 0 4 _ (by decide),ne 1 4 _ (by decide),ne 3 0 _ (by decide),ne 3 1 _ (by decide),ne 0 1 _ (by decide),⟨nl _ _ 4 l1,nl _ _ 3 l1,nl _ _ 0 l1,nl _ _ 1 l1⟩,⟨nl _ _ 4 l1,nl _ _ 3 l1,nl _ _ 0 l1,nl _ _ 1 l1⟩,ne 2 3 _ (by decide),ne 2 0 _ (by decide),ne 2 1 _ (by decide)⟩
 refine ⟨s1.heap.objs.size + 4,[s1.heap.objs.size + 4,s1.heap.objs.size + 2,s1.heap.objs.size + 3,s1.heap.objs.size,s1.heap.objs.size + 1],_,_,H1,rfl,I2,turn_zipS a zt tt _ _ _ _ _ D,⟨z1,z2,⟨_,_,z3⟩,z4,z5⟩,fun c hc => ?_,q⟩;have hc':s1.heap.objs.size <= c:=by
  simp only [List.mem_cons,List.not_mem_nil,or_false] at hc;rcases hc with rfl | rfl | rfl | rfl | rfl
  ·exact Nat.le_add_right _ _
  ·exact Nat.le_add_right _ _
  ·exact Nat.le_add_right _ _
  ·exact Nat.le_refl _
  ·exact Nat.le_add_right _ _
 exact I1.fpOk hc' (I1.hok.fresh hc')
end
theorem itzS_ok {K:PySem.W.Frag} {a:Addr} {z:Str} {ts:List T}:ItOk K (ItzS K a z) (fun H B => ∃ vs,SqL K H a vs /\ Reps K H B vs ts) (zipT ts (signsT z)):=by
 refine ⟨fun H B i t hb ⟨vs,h1,r1⟩ e => ?_,fun H B ⟨vs,h1,r1⟩ => ⟨vs,h1,by unfold zipT signsT;rw [List.length_zipWith,List.length_map,r1.length];simp⟩⟩
 unfold zipT at e;rw [List.getElem?_zipWith] at e
 cases e1:ts[i]? with
 | none => rw [e1] at e;cases e
 | some t1 => cases e2:(signsT z)[i]? with
  | none => rw [e1,e2] at e;cases e
  | some t2 =>
   rw [e1,e2] at e;have e':T.tup [t1,t2] = t:=Option.some.inj e;subst e';unfold signsT at e2;rw [List.getElem?_map,Array.getElem?_toList] at e2
   cases e3:z.cps[i]? with
   | none => rw [e3] at e2;cases e2
   | some c =>
    rw [e3] at e2;have e2':T.str ⟨#[c]⟩ = t2:=Option.some.inj e2;subst e2';obtain ⟨v1,g1,rv1⟩:=r1.get e1;refine ⟨⟨vs,v1,c,h1,g1,e3⟩,fun x H2 y => ?_⟩;obtain ⟨p,x',c',hx,hc',hp,rfl,rfl⟩:=y;have z1:=hx vs h1;rw [g1] at z1;cases z1;rw [e3] at hc';cases hc';have fs:Fr B H B (upd H p (.tup [v1,.str ⟨#[c]⟩])):=Fr.same (Same.new hp);refine ⟨Same.new hp,.tup (fun z => ?_) upd_same (.cons (rv1.fr fs) (.cons (.str _) .nil))⟩;obtain ⟨o,q⟩:=hb p z;rw [hp] at q;cases q
namespace Y
def iZS (us:UA):UI:=fun μ Rt => us μ fun rs μ' => match rs with
 | [.tr (.lst ts),.tr (.str z)] => z.cps.all (· < 128) = true /\ Rt (zipT ts (signsT z)) none μ'
 | _ => False
theorem zipS {X:Cx} {e1 e2:Expr} {es:List Expr} {us:UA} {pos p tp:Pos} {k:Nat} (K:PySem.W.Frag) (hK:X.K = K) (hg:Gl X "zip") (hm:X.mg "zip" = none) (ha:YA X [e1,e2] us) (h1:autoParam (nst e1 = true) L2.aRfl._auto_1) (h2:autoParam (nst e2 = true) L2.aRfl._auto_1):YI X (.Tuple es k tp) (.Call (.Name "zip" p) [e1,e2] [] pos) (iZS us):=by
 obtain ⟨t,q,r⟩:=ha;subst hK;refine ⟨_,⟨pi_zipS hg hm q.h h1 h2⟩,fun F ad B σ H μ R Rt hF l q k => r F ad B σ H μ _ _ hF l q fun vs H' rs μ' l1 ps f k1 q1 => ?_⟩
 split at q1
 ·rename_i ts z
  cases ps with
  | cons h1 ps => cases ps with
   | cons h2 ps =>
    cases ps;have r1:=rep_of h1
    cases rep_of h2
    cases r1 with
    | @lst a vs _ n h rr =>
     have sr:∀ H B,Rep F.K H B (.ref a) (.lst ts) -> ∃ vs,SqL X.K H a vs /\ Reps X.K H B vs ts:=fun H B h => by
      rw [hF] at h
      cases h with | lst n h r => exact ⟨_,SqL.of h,r⟩
     exact ⟨a,z,rfl,q1.1,⟨vs,SqL.of h⟩,k _ H' μ' _ none (fun H B => Rep F.K H B (.ref a) (.lst ts)) l1 f k1 (itzS_ok.imp sr) (.lst n h rr) (fun B1 H1 B2 H2 f h => h.fr f) (fun j ls z => by cases z) q1.2⟩
 ·exact q1.elim
def rListS:List V -> Hp -> VK -> Prop:=fun xs H Q => ∃ z,xs = [.str z] /\ z.cps.size <= sizeLine /\ ∀ l,H l = none -> Q (.ref l) (upd H l (.lst (z.cps.toList.map fun c => V.str ⟨#[c]⟩)))
theorem vals_signs:∀ {cs:List Nat} {acc:List Value},acc.length = cs.length -> (∀ (j:Nat) (v:Value),acc[j]? = some v -> ∃ c u,cs[j]? = some c /\ v = Value.str ⟨#[c]⟩ u) -> Vals (cs.map fun c => V.str ⟨#[c]⟩) acc
 | [],[],_,_ => .nil
 | [],_ :: _,h,_ => by cases h
 | _ :: _,[],h,_ => by cases h
 | c :: cs,a :: acc,h,g => by
  refine .cons ?_ (vals_signs (Nat.succ.inj h) fun j v e => ?_)
  ·obtain ⟨c',u,e1,e2⟩:=g 0 a rfl;have:c = c':=by simpa using e1
   subst this;exact ⟨u,e2⟩
  ·obtain ⟨c',u,e1,e2⟩:=g (j + 1) v (by simpa using e)
   exact ⟨c',u,by simpa using e1,e2⟩
theorem call_listS {X:Cx} (hc:X.calm = true):CallR X (.type "list") rListS:=by
 intro pins s σ H xs us Q I r h;obtain ⟨z,rfl,hz,q⟩:=h;obtain ⟨u,rfl,t,rfl⟩:=vals1 r;refine PySem.call_list_str (I.ok.hd hc) z t (fun h' tk acc c' hk hS hI => ?_) hz;have hv:Vals (z.cps.toList.map fun c => V.str ⟨#[c]⟩) acc.toList:=vals_signs (by rw [Array.length_toList,Array.length_toList];exact hI.1) fun j v e => by
  obtain ⟨c,u,e1,e2⟩:=hI.2 j v (by rw [Array.getElem?_toList] at e;exact e)
  exact ⟨c,u,by rw [Array.getElem?_toList];exact e1,e2⟩
 refine ⟨.ref s.heap.objs.size,_,I.laid (t':=tk) hk (Nat.le_refl _) (show ObjOk X.prog X.w _ h' _ (.lst _) from ⟨?_,acc.toList,c',hv,by simpa using hS⟩),rfl,q _ (I.hok.fresh (Nat.le_refl _))⟩
 rw [List.length_map,Array.length_toList];exact hz
def uListS:UC:=fun rs μ Q => match rs with
 | [.tr (.str z)] => z.cps.size <= sizeLine /\ Q (.fr (.lst (signsT z))) μ
 | _ => False
theorem rc_listS {K:PySem.W.Frag}:RC K rListS uListS:=by
 intro F ad B σ H μ Q Qt xs rs hK l p q k;unfold uListS at q
 split at q
 ·cases p with
  | cons h1 p =>
   cases p
   cases rep_of h1
   have rs:∀ cs:List Nat,Reps F.K H B (cs.map fun c => V.str ⟨#[c]⟩) (cs.map fun c => T.str ⟨#[c]⟩):=fun cs => by
    induction cs with
    | nil => exact .nil
    | cons c cs ih => exact .cons (.str _) ih
   exact ⟨_,rfl,q.1,fun p hp => k _ _ _ μ (Vr.newL l (rs _) hp) (Fr.more hp) (Kp.refl μ) q.2⟩
 ·exact q.elim
def rFind:V -> List V -> Hp -> VK -> Prop:=fun x vs H Q => ∃ z y,x = .str z /\ vs = [.str y] /\ Q (.int (Txt.find z y)) H
theorem mt_find {X:Cx}:MtR X "str.find" rFind:=by
 intro pins s σ H x xs v us Q I rx rs h;obtain ⟨z,y,rfl,rfl,q⟩:=h;obtain ⟨t,rfl⟩:=rx;obtain ⟨u,rfl,k,rfl⟩:=vals1 rs;exact SC.find ⟨.int _,H,I.tok _,⟨_,rfl⟩,q⟩
def uFind:UMs:=fun z rs μ Q => match rs with
 | [.tr (.str y)] => Q (.tr (.int (Txt.find z y))) μ
 | _ => False
theorem rm_find {K:PySem.W.Frag}:RMs K rFind uFind:=by
 intro F ad B σ H μ Q Qt z xs rs hF l ps q k;unfold uFind at q
 split at q
 ·cases ps with
  | cons h ps =>
   cases ps
   cases rep_of h
   exact ⟨z,_,rfl,rfl,k _ H _ μ (Vr.flat l (.int _)) Fr.refl (Kp.refl μ) q⟩
 ·exact q.elim
end Y
def insL {α:Type} (xs:List α) (i:Nat) (y:α):List α:=xs.take i ++ y :: xs.drop i
def rInsert:V -> List V -> Hp -> VK -> Prop:=fun x vs H Q => ∃ l xs i y,x = .ref l /\ vs = [.int i,y] /\ H l = some (.lst xs) /\ 0 <= i /\ i < 2 ^ 63 /\ xs.length < sizeLine /\ Q .non (upd H l (.lst (insL xs (min i.toNat xs.length) y)))
theorem mt_insert {X:Cx}:MtM X "list.insert" rInsert:=by
 intro pins s σ H x vs v us Q I rx rv h;obtain ⟨l,xs,i,y,rfl,rfl,hH,h0,h1,hz,q⟩:=h;cases rx;obtain ⟨u,w',rfl,⟨t,rfl⟩,rw'⟩:=vals2 rv;obtain ⟨z,its,n,r,hl,e⟩:=I.lstM hH;have hfit:¬ (!Builtin.List.listFitsIndex i) = true:=by
  have:=fitsIndex_both (k:=i) (by lia) h1
  rw [this];exact Bool.false_ne_true
 refine call_meets F.slot_list_insert ⟨_,e,rfl⟩ F.entry_list_insert (F.args_list_insert_3 _ _ _) (AutoSeq1.list_insert_list_int_val_1 l its.toArray n i t w' hfit (by rw [List.size_toArray];lia)) ⟨e,?_⟩
 have el:its.length = xs.length:=hl.symm;refine ⟨.non,_,I.lset (its':=insL its (min i.toNat its.length) w') hH e ?_ ?_ ?_,rfl,q⟩
 ·show (have k:=if i < 0 then _ else min i.toNat its.toArray.size;(its.toArray.extract 0 k).push w' ++ its.toArray.extract k) = _
  rw [if_neg (by lia)]
  apply Array.toList_inj.mp;unfold insL;simp [List.extract_eq_take_drop,List.take_of_length_le]
 ·rw [el];unfold insL;exact (r.take _).append (.cons rw' (r.drop _))
 ·unfold insL;rw [List.length_append,List.length_cons,List.length_take,List.length_drop];lia
namespace Y
def uInsert:UM:=fun j rs μ Q => match rs with
 | [.tr (.int i),.tr t] => (match (μ[j]?).bind Sl.box with
  | some (.lst ts) => 0 <= i /\ i < 2 ^ 63 /\ ts.length < sizeLine /\ Q (.tr .non) (putS μ j (.lst (insL ts (min i.toNat ts.length) t)))
  | _ => False)
 | _ => False
theorem rm_insert {K:PySem.W.Frag}:RM K rInsert uInsert:=by
 intro F ad B σ H μ Q Qt j s c xs rs hF l e b ps q k;unfold uInsert at q
 split at q
 ·rename_i i t
  cases ps with
  | cons h1 ps => cases ps with
   | cons h2 ps =>
    cases ps
    cases rep_of h1
    have rt:=rep_of h2;rw [e] at q;have q':(match s.box with | some (.lst ts) => 0 <= i /\ i < 2 ^ 63 /\ ts.length < sizeLine /\ Qt (.tr .non) (putS μ j (.lst (insL ts (min i.toNat ts.length) t))) | _ => False):=q
    rw [b] at q';rcases ((l.slot j s e).boxed b).2.2.1.is with ⟨ts,vs,rfl,hl,rv⟩ | ⟨_,_,_,rfl,_⟩
    case inr => exact q'.elim
    obtain ⟨h0,h1,hz,q2⟩:=(show 0 <= i /\ i < 2 ^ 63 /\ ts.length < sizeLine /\ _ from q');refine ⟨_,vs,i,_,rfl,rfl,hl,h0,h1,by rw [rv.length];exact hz,?_⟩
    have l3:=l.put e b (show Reps F.K H B (insL vs (min i.toNat vs.length) _) (insL ts (min i.toNat ts.length) t) from by rw [rv.length];exact (rv.take _).append (.cons rt (rv.drop _)))
    unfold putS at q2;rw [e] at q2;exact k _ _ (.tr .non) _ (Vr.flat l3 .non) (Fr.set ((l.slot j s e).boxed b).2.1) (Kp.set e b (Sl.put_box b)) q2
 ·exact q.elim
end Y
namespace A
theorem iZS (us:UA) (μ:Mu) (Rt:List T -> Option (Nat × List T) -> Mu -> Prop):Y.iZS us μ Rt = us μ fun rs μ' => match rs with
 | [.tr (.lst ts),.tr (.str z)] => z.cps.all (· < 128) = true /\ Rt (zipT ts (signsT z)) none μ'
 | _ => False:=rfl
theorem listS (z:Str) (μ:Mu) (Q:R -> Mu -> Prop):Y.uListS [.tr (.str z)] μ Q = (z.cps.size <= sizeLine /\ Q (.fr (.lst (signsT z))) μ):=rfl
theorem uFind (z y:Str) (μ:Mu) (Q:R -> Mu -> Prop):Y.uFind z [.tr (.str y)] μ Q = Q (.tr (.int (Txt.find z y))) μ:=rfl
theorem uInsert (j:Nat) (i:Int) (t:T) (μ:Mu) (Q:R -> Mu -> Prop):Y.uInsert j [.tr (.int i),.tr t] μ Q = (match (μ[j]?).bind Sl.box with
  | some (.lst ts) => 0 <= i /\ i < 2 ^ 63 /\ ts.length < sizeLine /\ Q (.tr .non) (putS μ j (.lst (insL ts (min i.toNat ts.length) t)))
  | _ => False):=rfl
end A
open Builtin Builtin.Str
section
variable {prog:Program} {w:World} {A:Around} {E:Value -> Shared -> Prop} {s:Shared} {x y:Str} {t u:Tok}
theorem add_strT {Q:Value -> Shared -> Prop} (h:∀ t' tk,s.toks <= tk -> Q (.str (x ++ y) t') { s with toks:=tk }) (hsz:x.length + y.length <= sizeLine):wpAny (model prog w) A (binaryOp .Add (.str x t) (.str y u)) Q E s:=by
 refine binaryOp_concat (typeIs_str s x t) (typeIs_str s y u) Rows.noFill_str_add Rows.seq_str_add ?_;refine wpAny_call_entry slot_str_add (typeIs_str s x t) entry_str_add ?_ (args_str_add _ _);show wpAny _ _ (do
  if (true && x.length == 0) = true then (do rule "str.__add__.left-empty";ret (.str y u)) else
  if (true && y.length == 0) = true then (do rule "str.__add__.right-empty";ret (.str x t)) else
  retStr (x ++ y)) _ _ s
 cases hx:x.length == 0
 ·cases hy:y.length == 0
  ·exact wpAny_bind (wpAny_mkStr (wpAny_pure ⟨_,rfl,h _ _ (Nat.le_succ _)⟩) (by rw [strLen_append];exact hsz))
  ·have e:x ++ y = x:=by
    have h0:y.cps = #[]:=Array.eq_empty_of_size_eq_zero (by simpa [Str.length] using hy)
    show Str.append x y = x
    cases x;simp [Str.append,h0]
   refine wpAny_bind (wpAny_rule (wpAny_pure ⟨_,rfl,?_⟩));have:=h t s.toks (Nat.le_refl _);rw [e] at this;exact this
 ·have e:x ++ y = y:=by
   have h0:x.cps = #[]:=Array.eq_empty_of_size_eq_zero (by simpa [Str.length] using hx)
   show Str.append x y = y
   cases y;simp [Str.append,h0]
  refine wpAny_bind (wpAny_rule (wpAny_pure ⟨_,rfl,?_⟩));have:=h u s.toks (Nat.le_refl _);rw [e] at this;exact this
theorem meets_replace1 (x y z:Str) (t u v k:Tok) (h0:(u == 0 || v == 0) = false) (huv:(u == v) = false) (hyz:(y == z) = false) (hl:x.length + z.length <= 1000000) :
  Meets (Builtin.«str.replace» ⟨[.str x t,.str y u,.str z v,.int 1 k],[]⟩) (fun _ R s => ∀ (x':Str) (t':Tok) (tk:Nat),x'.length <= x.length + z.length -> R (.ok (.ret (.str x' t'))) { s with toks:=tk }) :=
 .of_wp fun prog w A R s h => by
  have key:Builtin.«str.replace» ⟨[.str x t,.str y u,.str z v,.int 1 k],[]⟩ = (if ((occurrences x y 0 x.length 1).isEmpty || (y.length == 0 && z.length == 0)) = true then (do rule "str.replace.nothing";ret (.str x t)) else
     (do let same <- isSame (.str y u) (.str z v);if same = true then (do rule "str.replace.old-is-new";ret (.str x t)) else if tooLong (x.length + (occurrences x y 0 x.length 1).length * z.length) = true then unsupported "str.replace:memory" else retStr (glued z (partsBetween x (occurrences x y 0 x.length 1) y.length)))):=rfl
  rw [key];have hoc:=StrLaws.occ_length_le x y 0 x.length 1
  cases hc:((occurrences x y 0 x.length 1).isEmpty || (y.length == 0 && z.length == 0))
  ·have ht:tooLong (x.length + (occurrences x y 0 x.length 1).length * z.length) = false:=by
    have hm:(occurrences x y 0 x.length 1).length * z.length <= 1 * z.length:=Nat.mul_le_mul_right _ hoc;have hs:(1000000:Nat) <= sizeLine:=by decide
    unfold tooLong;rw [decide_eq_false_iff_not];lia
   rw [isSame_str_other y z u v h0 huv hyz,ht];rw [Bool.or_eq_false_iff] at hc
   cases ho:occurrences x y 0 x.length 1 with
   | nil => rw [ho] at hc;cases hc.1
   | cons i r =>
    rw [ho] at hoc;have hr:r = []:=by
     cases r with
     | nil => rfl
     | cons a b => simp at hoc
    subst hr;have hlen:(glued z (partsBetween x [i] y.length)).length <= x.length + z.length:=by
     show ((strSub x 0 i).cps ++ z.cps ++ (strSub x (i + y.length) x.length).cps).size <= _;rw [Array.size_append,Array.size_append];show (x.cps.extract 0 i).size + z.length + (x.cps.extract (i + y.length) x.length).size <= x.length + z.length;rw [Array.size_extract,Array.size_extract];show min i x.length - 0 + z.length + (min x.length x.length - (i + y.length)) <= _;lia
    simp only [Bool.false_eq_true,if_false,pure_bind];exact wpAny_bind (wpAny_mkStr (wpAny_pure ⟨_,rfl,h _ _ _ hlen⟩) (Nat.le_trans hlen (Nat.le_trans hl (by decide))))
  ·simp only [if_true];exact wpAny_bind (wpAny_rule (wpAny_pure ⟨_,rfl,h _ _ s.toks (Nat.le_add_right _ _)⟩))
end
section
variable {X:Cx}
theorem var_T {i:Nat} {x:Str} {pos:Pos} {pins:List (Addr × Obj)} {s:Shared} {σ:St} {H:Hp} {v:V} {Q:Value -> Shared -> Prop} (hN:X.N[i]? = some x) (hv:Vis X.env.scope x) (I:Inv X pins σ H s) (e:σ[i]? = some (some v)) (h:∀ u,RelV v u -> Q u s) (hd:autoParam ((x == ("__debug__":Str)) = false) L2.aDec._auto_1) (hcd:autoParam ((x == ("__classdict__":Str)) = false) L2.aDec._auto_1):wpAny (model X.prog X.w) X.A (eval (.Name x pos) X.env) Q X.xe s:=by
 obtain ⟨m,hn,hl⟩:=I.loc;obtain ⟨u,r,l⟩:=hl i x v hN e hv;have fin:Q u s:=h u r;rcases l with ⟨hk,hm⟩ | ⟨hk,c,hc,hcell⟩
 ·exact wpAny_Name (wpAny_loadName_local I.ok.kind hk hn hm fin) hd
 ·rcases hk with hk | hk
  ·exact wpAny_Name (wpAny_loadName_cell I.ok.kind hk hc hcell fin) hd
  ·exact wpAny_Name (wpAny_loadName_free I.ok.kind hk hc hcell fin hcd) hd
def tAddRep (i:Nat) (c z:Str) (t:TA):TA:=fun σ H Q => ∃ w,σ[i]? = some (some (.str w)) /\ c.length + w.length <= sizeLine /\ w.length + z.length <= 1000000 /\ ∀ w':Str,w'.length <= w.length + z.length -> t σ H fun vs H1 => Q (.str (c ++ w) :: .str w' :: vs) H1
theorem pa_addRep {i:Nat} {x c y z:Str} {es:List Expr} {t:TA} {j1 j2 j3 j4:Nat} {p1 p2 p3 p4 p5 p6 p7 ap cp:Pos} (hN:X.N[i]? = some x) (hv:Vis X.env.scope x) (hyz:(y == z) = false) (hr:PA X es t)
  (hbase:attributeBase (.Name x p4) "replace" X.env (eval (.Name x p4) X.env) = eval (.Name x p4) X.env) (hline:(ap.endLine == cp.line) = true)
  (hd:autoParam ((x == ("__debug__":Str)) = false) L2.aDec._auto_1) (hcd:autoParam ((x == ("__classdict__":Str)) = false) L2.aDec._auto_1) :
  PA X (.BinOp (.Constant (.str c) j1 p1) .Add (.Name x p2) p3 :: .Call (.Attribute (.Name x p4) "replace" ap) [.Constant (.str y) j2 p5,.Constant (.str z) j3 p6,.Constant (.int 1) j4 p7] [] cp :: es) (tAddRep i c z t):=by
 intro pos pins s σ H Q I h;obtain ⟨wt,e,h1,h2,q⟩:=h;show wpAny _ _ (spliced ((false,eval (.BinOp (.Constant (.str c) j1 p1) .Add (.Name x p2) p3) X.env) :: (false,eval (.Call (.Attribute (.Name x p4) "replace" ap) [.Constant (.str y) j2 p5,.Constant (.str z) j3 p6,.Constant (.int 1) j4 p7] [] cp) X.env) :: backTo pos (starEach es X.env))) _ _ s;refine Calls.spliced_cons (wpAny_BinOp (Calls.Constant_str (var_T hN hv (I.tok _) e (fun u ru => ?_) hd hcd)));obtain ⟨tu,rfl⟩:=ru;refine add_strT (fun t' tk htk => ?_) h1;have I1:Inv X pins σ H { s with toks:=tk }:=I.tok tk
 have htk':0 < tk:=Nat.lt_of_lt_of_le (Nat.succ_pos _) htk;refine Calls.spliced_cons ?_;show wpAny _ _ _ _ _ { s with toks:=tk }
 refine wpAny_Call_method_late hbase rfl hline rfl (var_T hN hv I1 e (fun u ru => ?_) hd hcd);obtain ⟨tu2,rfl⟩:=ru;refine ⟨"str","str.replace",PySem.F.plainAttrs_str,PySem.F.slot_str_replace,PySem.F.type_str_replace,typeIs_str _ _ _,fun a z => (by cases z),?_⟩
 refine Calls.callWith_builtin rfl (Calls.evalArgs_plain (Calls.spliced_cons (Calls.Constant_str (k:=j2) (pos:=p5) (Calls.spliced_cons (Calls.Constant_str (k:=j3) (pos:=p6) (Calls.spliced_cons (wpAny_Constant_int (k:=j4) (pos:=p7) (Calls.spliced_nil ?_))))))));refine call_meets PySem.F.slot_str_replace (typeIs_str _ _ _) PySem.F.entry_str_replace (PySem.F.args_str_replace_4 _ _ _ _) (meets_replace1 wt y z tu2 _ _ _ ?_ ?_ hyz h2) ?_
 ·show ((tk:Nat) == 0 || (tk + 1:Nat) == 0) = false;simp;lia
 ·show ((tk:Nat) == (tk + 1:Nat)) = false;simp
 ·intro x' t'' tk' hx';exact thn (hr pos pins _ σ H _ (I.tok tk') (q x' hx')) fun us s2 ⟨vs,H2,I2,r2,q2⟩ => ⟨.str (c ++ wt) :: .str x' :: vs,H2,I2,.cons ⟨_,rfl⟩ (.cons ⟨_,rfl⟩ r2),q2⟩
end
namespace Y
def uAddRep (i:Nat) (c z:Str) (us:UA):UA:=fun μ Q => match μ[i]? with
 | some (.tr (.str w)) => c.length + w.length <= sizeLine /\ w.length + z.length <= 1000000 /\ ∀ w':Str,w'.length <= w.length + z.length -> us μ fun rs μ' => Q (.tr (.str (c ++ w)) :: .tr (.str w') :: rs) μ'
 | _ => False
theorem addRep {X:Cx} {i:Nat} {x c y z:Str} {es:List Expr} {us:UA} {j1 j2 j3 j4:Nat} {p1 p2 p3 p4 p5 p6 p7 ap cp:Pos} (hN:X.N[i]? = some x) (hv:Vis X.env.scope x) (hr:YA X es us) (hyz:(y == z) = false:=by decide +kernel)
  (hbase:autoParam (attributeBase (.Name x p4) "replace" X.env (eval (.Name x p4) X.env) = eval (.Name x p4) X.env) L2.aRfl._auto_1) (hline:autoParam ((ap.endLine == cp.line) = true) L2.aRfl._auto_1)
  (hd:autoParam ((x == ("__debug__":Str)) = false) L2.aDec._auto_1) (hcd:autoParam ((x == ("__classdict__":Str)) = false) L2.aDec._auto_1) :
  YA X (.BinOp (.Constant (.str c) j1 p1) .Add (.Name x p2) p3 :: .Call (.Attribute (.Name x p4) "replace" ap) [.Constant (.str y) j2 p5,.Constant (.str z) j3 p6,.Constant (.int 1) j4 p7] [] cp :: es) (uAddRep i c z us):=by
 obtain ⟨t,q,r⟩:=hr;refine ⟨_,⟨pa_addRep hN hv hyz q.h hbase hline hd hcd⟩,fun F ad B σ H μ Q Qt hF l q k => ?_⟩;unfold uAddRep at q
 split at q
 ·rename_i w e;obtain ⟨v,e1,rp⟩:=l.slot i _ e;cases rp;refine ⟨w,e1,q.1,q.2.1,fun w' hw => r F ad B σ H μ _ _ hF l (q.2.2 w' hw) fun vs H1 rs μ1 l1 ps f1 k1 q1 => ?_⟩;exact k _ H1 _ μ1 l1 (.cons (show Hv F ad B H1 μ1 (.str (c ++ w)) (.tr (.str (c ++ w))) from .str _) (.cons (show Hv F ad B H1 μ1 (.str w') (.tr (.str w')) from .str _) ps)) f1 k1 q1
 ·exact q.elim
end Y
namespace A
theorem uAddRep (i:Nat) (c z:Str) (us:UA) (μ:Mu) (Q:List R -> Mu -> Prop):Y.uAddRep i c z us μ Q = (match μ[i]? with
 | some (.tr (.str w)) => c.length + w.length <= sizeLine /\ w.length + z.length <= 1000000 /\ ∀ w':Str,w'.length <= w.length + z.length -> us μ fun rs μ' => Q (.tr (.str (c ++ w)) :: .tr (.str w') :: rs) μ'
 | _ => False):=rfl
end A
end L2
namespace L2
open PySem PySem.Spec PyProof PyProof.Rows
inductive Ou where
 | no
 | ok (r:R)
 | ck (c:Prop) (r:R)
def stq (o:Ou) (Q:R -> Prop):Prop:=match o with
 | .no => False
 | .ok r => Q r
 | .ck c r => c /\ Q r
def gVar (o:Option Sl) (i:Nat):Ou:=match o with
 | some (.tr t) => .ok (.tr t)
 | some (.bx _) => .ok (.br i)
 | some (.pb _) => .ok (.br i)
 | _ => .no
def gAdd (a b:Option T):Ou:=match a,b with
 | some (.int i),some (.int j) => .ok (.tr (.int (i + j)))
 | some (.str i),some (.str j) => .ck (i.length + j.length <= sizeLine) (.tr (.str (i ++ j)))
 | some (.lst xs),some (.lst ys) => .ck (xs.length + ys.length <= sizeLine) (.fr (.lst (xs ++ ys)))
 | some (.tup xs),some (.tup ys) => .ck (xs.length + ys.length <= sizeLine) (.tr (.tup (xs ++ ys)))
 | _,_ => .no
def oQ (o:Option T):Ou:=match o with
 | some t => .ok (.tr t)
 | none => .no
def gIx (a b:Option T):Ou:=match a,b with
 | some (.lst xs),some (.int i) => oQ (atI xs i)
 | some (.tup xs),some (.int i) => oQ (atI xs i)
 | some (.ktp xs),some (.int i) => oQ (atI xs i)
 | some (.str z),some (.int i) => (match atI z.cps.toList i with | some c => .ck (z.length <= sizeLine) (.tr (.str ⟨#[c]⟩)) | none => .no)
 | _,_ => .no
def gLen (a:T):Ou:=match a with
 | .lst xs => .ok (.tr (.int xs.length))
 | .tup xs => .ok (.tr (.int xs.length))
 | .rol xs => .ok (.tr (.int xs.length))
 | .ktp xs => .ok (.tr (.int xs.length))
 | .str z => .ck (z.length <= sizeLine) (.tr (.int z.length))
 | _ => .no
def gSl (a:Option T) (lo hi:Option Int):Ou:=match a with
 | some (.lst xs) => .ok (.fr (.lst (Y.cutG xs lo hi)))
 | some (.rol xs) => .ok (.fr (.lst (Y.cutG xs lo hi)))
 | some (.tup xs) => .ok (.tr (.tup (Y.cutG xs lo hi)))
 | some (.str z) => .ck (z.length <= sizeLine) (.tr (.str (Y.cutS z lo hi)))
 | _ => .no
theorem tr_and (p:Prop):(True /\ p) = p:=propext ⟨fun h => h.2,fun h => ⟨trivial,h⟩⟩
theorem sVar (o:Option Sl) (i:Nat) (Q:R -> Prop):stp (fVar o i) Q = stq (gVar o i) Q:=by
 cases o with
 | none => rfl
 | some s => cases s <;> first | rfl | exact tr_and _
theorem sAdd (a b:Option T) (Q:R -> Prop):stp (fAdd a b) Q = stq (gAdd a b) Q:=by
 cases a with
 | none => rfl
 | some a => cases b with
  | none => cases a <;> rfl
  | some b => cases a <;> cases b <;> first | rfl | exact tr_and _
theorem sIx (a b:Option T) (Q:R -> Prop):stp (fIx a b) Q = stq (gIx a b) Q:=by
 cases a with
 | none => rfl
 | some a => cases b with
  | none => cases a <;> rfl
  | some b =>
   cases a <;> cases b <;> first
    | rfl
    | (rename_i xs i;show stp (oT (atI xs i)) Q = stq (oQ (atI xs i)) Q;cases atI xs i with | none => rfl | some t => exact tr_and _)
    | (rename_i z i;show stp (match atI z.cps.toList i with | some c => some (z.length <= sizeLine,.tr (.str ⟨#[c]⟩)) | none => none) Q = stq (match atI z.cps.toList i with | some c => .ck (z.length <= sizeLine) (.tr (.str ⟨#[c]⟩)) | none => .no) Q;cases atI z.cps.toList i <;> rfl)
theorem sLen (a:T) (Q:R -> Prop):stp (fLen a) Q = stq (gLen a) Q:=by cases a <;> first | rfl | exact tr_and _
theorem sSl (a:Option T) (lo hi:Option Int) (Q:R -> Prop):stp (Y.fSlX a lo hi) Q = stq (gSl a lo hi) Q:=by
 cases a with
 | none => rfl
 | some a => cases a <;> first | rfl | exact tr_and _
namespace Y
def uVarS (i:Nat):UE:=fun μ Q => stq (gVar μ[i]? i) fun r => Q r μ
def uAddS:U2:=fun r1 r2 μ Q => stq (gAdd (cont μ r1) (cont μ r2)) fun r => Q r μ
def uIxS:U2:=fun r1 r2 μ Q => stq (gIx (cont μ r1) (cont μ r2)) fun r => Q r μ
def tLenS (t:T) (μ:Mu) (Q:R -> Mu -> Prop):Prop:=stq (gLen t) fun r => Q r μ
def uSlS (ue:UE) (ul uh:UO):UE:=fun μ Q => ue μ fun r μ1 => ul μ1 fun lo μ2 => uh μ2 fun hi μ3 => stq (gSl (cont μ3 r.d) lo hi) fun r => Q r μ3
def uItS' (ue:UE):UI:=fun μ Rt => ue μ fun r μ' => sti (fIt r μ') fun ts g => Rt ts g μ'
def gTS (n:Nat) (gs:UGs):UG:=fun r μ Q => match fSeq (cont μ r.d) with | some ts => ts.length = n /\ gs ts μ Q | none => False
def uTruS (ue:UE):UT:=fun μ Q => ue μ fun r μ' => match fTru r with | some b => Q b μ' | none => False
theorem eVar (i:Nat):uVar i = uVarS i:=funext fun μ => funext fun Q => (A.uVar i μ Q).trans (sVar _ _ _)
theorem eAdd:uAdd = uAddS:=funext fun r1 => funext fun r2 => funext fun μ => funext fun Q => (A.uAdd r1 r2 μ Q).trans (sAdd _ _ _)
theorem eIx:uIxT = uIxS:=funext fun r1 => funext fun r2 => funext fun μ => funext fun Q => (A.uIxT r1 r2 μ Q).trans (sIx _ _ _)
theorem eLen:tLen = tLenS:=funext fun t => funext fun μ => funext fun Q => (A.tLen t μ Q).trans (sLen _ _)
theorem eSl (ue:UE) (ul uh:UO):uSlX ue ul uh = uSlS ue ul uh:=funext fun μ => funext fun Q => by
 unfold uSlX uSlS;congr 1;funext r μ1;congr 1;funext lo μ2;congr 1;funext hi μ3;exact sSl _ _ _ _
theorem eIt (ue:UE):uIt ue = uItS' ue:=funext fun μ => funext fun Rt => A.uIt ue μ Rt
theorem eT (n:Nat) (gs:UGs):gT n gs = gTS n gs:=funext fun r => funext fun μ => funext fun Q => A.gT n gs r μ Q
theorem eTru (ue:UE):uTru ue = uTruS ue:=funext fun μ => funext fun Q => A.uTru ue μ Q
theorem vS {X:Cx} {x:Str} {pos:Pos} (i:Nat) (hN:autoParam (X.N[i]? = some x) L2.aRfl._auto_1) (hv:Vis X.env.scope x:=by first | exact Or.inl rfl | exact Or.inr (Or.inl rfl) | exact Or.inr (Or.inr rfl)) (hd:autoParam ((x == ("__debug__":Str)) = false) L2.aDec._auto_1)
  (hcd:autoParam ((x == ("__classdict__":Str)) = false) L2.aDec._auto_1):YE X (.Name x pos) (uVarS i):=eVar i ▸ v i hN hv hd hcd
theorem ro_addS {K:PySem.W.Frag}:ROp K (rAddG K) uAddS:=eAdd ▸ ro_add
theorem ro_ixS {K:PySem.W.Frag}:ROp K (rIx K) uIxS:=eIx ▸ ro_ix
theorem rc_lenS {K:PySem.W.Frag}:RC K (rLenG K) (by1 tLenS):=eLen ▸ rc_len
theorem sliceS {X:Cx} {e:Expr} {ue:UE} {p2 pos:Pos} {lo hi:Option Expr} {ul uh:UO} (K:PySem.W.Frag) (hK:X.K = K) (he:YE X e ue) (hl:YO X lo ul) (hu:YO X hi uh):YE X (.Subscript e (.Slice lo hi none p2) pos) (uSlS ue ul uh):=eSl ue ul uh ▸ sliceX K hK he hl hu
theorem anyS {X:Cx} {tg e:Expr} {ue:UE} (K:PySem.W.Frag) (hK:X.K = K) (he:YE X e ue):YI X tg e (uItS' ue):=eIt ue ▸ any K hK he
theorem gtupS {X:Cx} {es:List Expr} {pos:Pos} (K:PySem.W.Frag) (hK:X.K = K) {k n:Nat} {gs:UGs} (hc:X.calm = true) (h:YGs X es gs) (hn:autoParam ((assignEach es X.env).length = n) L2.aRfl._auto_1) (hst:autoParam ((assignEach es X.env).findIdx? (·.1) = none) L2.aRfl._auto_1):YG X (.Tuple es k pos) (gTS n gs):=eT n gs ▸ gtup K hK hc h hn hst
theorem ttruS {X:Cx} {a:Expr} {ua:UE} (K:PySem.W.Frag) (hK:X.K = K) (ha:YE X a ua) (he:autoParam (Z.tru a = true) L2.aRfl._auto_1):YT X a (uTruS ua):=eTru ua ▸ ttru K hK ha he
end Y
namespace A3
theorem stq_no (Q:R -> Prop):stq .no Q = False:=rfl
theorem stq_ok (r:R) (Q:R -> Prop):stq (.ok r) Q = Q r:=rfl
theorem stq_ck (c:Prop) (r:R) (Q:R -> Prop):stq (.ck c r) Q = (c /\ Q r):=rfl
theorem sti_s (ts:List T) (g:Option (Nat × List T)) (Q:List T -> Option (Nat × List T) -> Prop):sti (some (ts,g)) Q = Q ts g:=rfl
theorem oQ_some (t:T):oQ (some t) = .ok (.tr t):=rfl
theorem uVar (i:Nat) (μ:Mu) (Q:R -> Mu -> Prop):Y.uVarS i μ Q = stq (gVar μ[i]? i) fun r => Q r μ:=rfl
theorem uAdd (r1 r2:R) (μ:Mu) (Q:R -> Mu -> Prop):Y.uAddS r1 r2 μ Q = stq (gAdd (cont μ r1) (cont μ r2)) fun r => Q r μ:=rfl
theorem uIx (r1 r2:R) (μ:Mu) (Q:R -> Mu -> Prop):Y.uIxS r1 r2 μ Q = stq (gIx (cont μ r1) (cont μ r2)) fun r => Q r μ:=rfl
theorem tLen (t:T) (μ:Mu) (Q:R -> Mu -> Prop):Y.tLenS t μ Q = stq (gLen t) fun r => Q r μ:=rfl
theorem uSl (ue:UE) (ul uh:UO) (μ:Mu) (Q:R -> Mu -> Prop):Y.uSlS ue ul uh μ Q = ue μ fun r μ1 => ul μ1 fun lo μ2 => uh μ2 fun hi μ3 => stq (gSl (cont μ3 r.d) lo hi) fun r => Q r μ3:=rfl
theorem uIt (ue:UE) (μ:Mu) (Rt:List T -> Option (Nat × List T) -> Mu -> Prop):Y.uItS' ue μ Rt = ue μ fun r μ' => sti (fIt r μ') fun ts g => Rt ts g μ':=rfl
theorem gT (n:Nat) (gs:UGs) (r:R) (μ:Mu) (Q:Mu -> Prop):Y.gTS n gs r μ Q = (match fSeq (cont μ r.d) with | some ts => ts.length = n /\ gs ts μ Q | none => False):=rfl
theorem uTru (ue:UE) (μ:Mu) (Q:Bool -> Mu -> Prop):Y.uTruS ue μ Q = ue μ fun r μ' => match fTru r with | some b => Q b μ' | none => False:=rfl
theorem v_tr (t:T) (i:Nat):gVar (some (.tr t)) i = .ok (.tr t):=rfl
theorem v_bx (t:T) (i:Nat):gVar (some (.bx t)) i = .ok (.br i):=rfl
theorem v_pb (t:T) (i:Nat):gVar (some (.pb t)) i = .ok (.br i):=rfl
theorem add_i (i j:Int):gAdd (some (.int i)) (some (.int j)) = .ok (.tr (.int (i + j))):=rfl
theorem add_s (i j:Str):gAdd (some (.str i)) (some (.str j)) = .ck (i.length + j.length <= sizeLine) (.tr (.str (i ++ j))):=rfl
theorem add_l (xs ys:List T):gAdd (some (.lst xs)) (some (.lst ys)) = .ck (xs.length + ys.length <= sizeLine) (.fr (.lst (xs ++ ys))):=rfl
theorem add_t (xs ys:List T):gAdd (some (.tup xs)) (some (.tup ys)) = .ck (xs.length + ys.length <= sizeLine) (.tr (.tup (xs ++ ys))):=rfl
theorem ix_l (xs:List T) (i:Int):gIx (some (.lst xs)) (some (.int i)) = oQ (atI xs i):=rfl
theorem ix_t (xs:List T) (i:Int):gIx (some (.tup xs)) (some (.int i)) = oQ (atI xs i):=rfl
theorem ix_k (xs:List T) (i:Int):gIx (some (.ktp xs)) (some (.int i)) = oQ (atI xs i):=rfl
theorem ix_s (z:Str) (i:Int):gIx (some (.str z)) (some (.int i)) = (match atI z.cps.toList i with | some c => .ck (z.length <= sizeLine) (.tr (.str ⟨#[c]⟩)) | none => .no):=rfl
theorem len_l (xs:List T):gLen (.lst xs) = .ok (.tr (.int xs.length)):=rfl
theorem len_t (xs:List T):gLen (.tup xs) = .ok (.tr (.int xs.length)):=rfl
theorem len_r (xs:List T):gLen (.rol xs) = .ok (.tr (.int xs.length)):=rfl
theorem len_k (xs:List T):gLen (.ktp xs) = .ok (.tr (.int xs.length)):=rfl
theorem len_s (z:Str):gLen (.str z) = .ck (z.length <= sizeLine) (.tr (.int z.length)):=rfl
theorem sl_l (xs:List T) (lo hi:Option Int):gSl (some (.lst xs)) lo hi = .ok (.fr (.lst (Y.cutG xs lo hi))):=rfl
theorem sl_r (xs:List T) (lo hi:Option Int):gSl (some (.rol xs)) lo hi = .ok (.fr (.lst (Y.cutG xs lo hi))):=rfl
theorem sl_t (xs:List T) (lo hi:Option Int):gSl (some (.tup xs)) lo hi = .ok (.tr (.tup (Y.cutG xs lo hi))):=rfl
theorem sl_s (z:Str) (lo hi:Option Int):gSl (some (.str z)) lo hi = .ck (z.length <= sizeLine) (.tr (.str (Y.cutS z lo hi))):=rfl
end A3
open Builtin Builtin.Str
section
variable {prog:Program} {w:World} {A:Around} {E:Value -> Shared -> Prop} {h:Heap} {g:Array GenState} {d:Drawn} {t:Nat} {os:OsState} {a:Addr} {items:Array Value} {cn:Nat}
end
section
variable {prog:Program} {w:World} {K:Type} [DecidableEq K] {knd:KeyKind prog w K} {A:Around} {R:Result -> Shared -> Prop}
end
end L2
namespace L2
open PySem PySem.Spec PyProof PyProof.Rows
namespace Y
end Y
namespace A
end A
namespace Z
section
variable {X:Cx} {CX:CXT} {k:Nat} {f C:Addr} {fd:FuncData} {ps:List Str} {sp:Sp} {E:XK} {x m nm:Str} {p pos pos' apos:Pos} {e o i value:Expr} {es:List Expr} {ta tv td ty:TE} {t:TA}
end
end Z
namespace Ap
end Ap
section
variable {prog:Program} {w:World} {A:Around} {E:Value -> Shared -> Prop} {s:Shared} {K:PySem.W.Frag} {a:Addr} {D:List (Str × List Str)} {k:Str} {tk:Tok}
end
namespace Y
end Y
namespace A
end A
namespace Y
end Y
namespace A
end A
namespace Y
end Y
namespace A
end A
namespace SS
def ky (p:Keyed):Int:=numOf p.1
def ff (a:Int) (xs:List Keyed):List Keyed:=xs.filter fun p => decide (ky p = a)
def St (xs ys:List Keyed):Prop:=∀ a,ff a xs = ff a ys
end SS
namespace SS
section
variable {prog:Program} {w:World} {A:Around} {E:Value -> Shared -> Prop} {s:Shared} {a₀:Array Keyed}
end
end SS
namespace SS
section
variable {prog:Program} {w:World} {A:Around} {E:Value -> Shared -> Prop} {s:Shared} {a₀:Array Keyed}
end
end SS
section
variable {X:Cx} {pins:List (Addr × Obj)} {σ:St} {H:Hp} {s:Shared}
end
section
variable {X:Cx} {pins:List (Addr × Obj)} {σ:St} {H:Hp} {s:Shared} {E:Value -> Shared -> Prop}
end
section
variable {α β:Type}
end
section
variable {X:Cx} {pins:List (Addr × Obj)} {σ:St} {H:Hp} {s:Shared} {E:Value -> Shared -> Prop}
end
section
variable {X:Cx} {pins:List (Addr × Obj)} {σ:St} {H:Hp} {s:Shared} {E:Value -> Shared -> Prop}
end
section
variable {X:Cx} {pins:List (Addr × Obj)} {σ:St} {H:Hp} {s:Shared}
end
namespace Y
end Y
theorem tabIn_none {K:PySem.W.Frag} {x:Str} (a:PySem.W.nsIn K mainGlobals x = some none):PySem.W.tabIn K x = none:=by
 unfold PySem.W.tabIn;rw [a]
theorem LamOk.of {q:Program} {K:PySem.W.Frag} {o1 o2 o3:Option (Addr × Addr)} (nt:PySem.W.noTabs K = true) (t1:PySem.W.tabIn K "by_worth" = o1) (t2:PySem.W.tabIn K "by_weight" = o2) (t3:PySem.W.tabIn K "code_of" = o3) (nd:((o1.toList ++ (o2.toList ++ o3.toList)).map (·.2)).Nodup)
  (f1:o1 = none \/ ((recsOf q).find? (fun e => e.name == ("by_worth":Str))).isSome = true) (f2:o2 = none \/ ((recsOf q).find? (fun e => e.name == ("by_weight":Str))).isSome = true) (f3:o3 = none \/ ((recsOf q).find? (fun e => e.name == ("code_of":Str))).isSome = true):LamOk q K:=by
 refine ⟨nt,?_,fun x hx => ?_⟩
 ·have e:(lamTabs K).map (·.2.1) = (o1.toList ++ (o2.toList ++ o3.toList)).map (·.2):=by
   unfold lamTabs lamNames
   cases o1 <;> cases o2 <;> cases o3 <;> simp [List.filterMap,t1,t2,t3]
  rw [e];exact nd
 ·unfold lamNames at hx;rcases List.mem_cons.mp hx with rfl | hx
  ·rw [t1];exact f1
  ·rcases List.mem_cons.mp hx with rfl | hx
   ·rw [t2];exact f2
   ·rw [List.mem_singleton.mp hx,t3];exact f3
namespace Y
section
variable {X:Cx} {e:Expr} {vs:List Expr} {ue:UE} {u:UJ} {pos p:Pos}
end
end Y
namespace A
end A
namespace Y
end Y
namespace A
end A
namespace Y
section
variable {X:Cx} {e:Expr} {ue:UE} {pos p:Pos} {x:Str} {k:Nat} {ps:List Str} {tsp:TSp} {E:XK}
end
end Y
namespace A
end A
namespace Y
end Y
section
variable {X:Cx} {e:Expr} {te:TE}
end
namespace Y
end Y
namespace A
end A
namespace Y
section
variable {prog:Program} {w:World} {A:Around} {E:Value -> Shared -> Prop} {s:Shared}
end
end Y
namespace A
end A
section
variable {prog:Program} {w:World} {A:Around} {E:Value -> Shared -> Prop} {s:Shared}
end
section
variable {X:Cx} {a b:Expr} {rest:List Expr} {pos:Pos} {ta tb:TE}
end
namespace Y
end Y
namespace A
end A
namespace Y
end Y
namespace A
end A
namespace Y
def uEqE:U2:=fun r1 r2 μ Q => match cont μ r1,cont μ r2 with
 | some (.lst xs),some (.lst []) => Q (.tr (.bl xs.isEmpty)) μ
 | _,_ => False
end Y
namespace A
theorem uEqE (r1 r2:R) (μ:Mu) (Q:R -> Mu -> Prop):Y.uEqE r1 r2 μ Q = (match cont μ r1,cont μ r2 with
 | some (.lst xs),some (.lst []) => Q (.tr (.bl xs.isEmpty)) μ
 | _,_ => False):=rfl
end A
end L2
namespace G
open PySem L2 PySem.Spec PyProof.Rows
def top (i:Nat):Stmt:=PySem.Challenge.pw_shortrows_k02_no_program.main.body.getD i (.Pass ⟨0,0,0,0⟩)
noncomputable abbrev s_NoProgram___init__:Stmt:=inClass (top 6) 0
theorem sc_NoProgram___init__:FnScope ["self","row"] ["self","row"] (defScope s_NoProgram___init__):=⟨rfl,rfl,rfl,by decide +kernel,rfl,by decide +kernel,by decide +kernel⟩
noncomputable abbrev s_read_program:Stmt:=top 13
theorem sc_read_program:FnScope ["text","lines","rows","number","line","row"] ["text"] (defScope s_read_program):=⟨rfl,rfl,rfl,by decide +kernel,rfl,by decide +kernel,by decide +kernel⟩
noncomputable abbrev s_read_row:Stmt:=top 14
theorem sc_read_row:FnScope ["line","greatest_goal","parts","shape","values"] ["line","greatest_goal"] (defScope s_read_row):=⟨rfl,rfl,rfl,by decide +kernel,rfl,by decide +kernel,by decide +kernel⟩
noncomputable abbrev s_read_part:Stmt:=top 15
theorem sc_read_part:FnScope ["kind","part","greatest_goal"] ["kind","part","greatest_goal"] (defScope s_read_part):=⟨rfl,rfl,rfl,by decide +kernel,rfl,by decide +kernel,by decide +kernel⟩
noncomputable abbrev s_read_number:Stmt:=top 16
theorem sc_read_number:FnScope ["text","greatest","number"] ["text","greatest"] (defScope s_read_number):=⟨rfl,rfl,rfl,by decide +kernel,rfl,by decide +kernel,by decide +kernel⟩
noncomputable abbrev s_is_number:Stmt:=top 17
theorem sc_is_number:FnScope ["text"] ["text"] (defScope s_is_number):=⟨rfl,rfl,rfl,by decide +kernel,rfl,by decide +kernel,by decide +kernel⟩
noncomputable abbrev s__law_mix:Stmt:=top 19
theorem sc__law_mix:FnScope ["cell","k","number"] ["cell","k"] (defScope s__law_mix):=⟨rfl,rfl,rfl,by decide +kernel,rfl,by decide +kernel,by decide +kernel⟩
noncomputable abbrev s__law_deck:Stmt:=top 20
theorem sc__law_deck:FnScope ["script"] ["script"] (defScope s__law_deck):=⟨rfl,rfl,rfl,by decide +kernel,rfl,by decide +kernel,by decide +kernel⟩
noncomputable abbrev s__law_next:Stmt:=top 21
theorem sc__law_next:FnScope ["deck","many","cell","found"] ["deck","many"] (defScope s__law_next):=⟨rfl,rfl,rfl,by decide +kernel,rfl,by decide +kernel,by decide +kernel⟩
noncomputable abbrev s__law_number:Stmt:=top 22
theorem sc__law_number:FnScope ["deck"] ["deck"] (defScope s__law_number):=⟨rfl,rfl,rfl,by decide +kernel,rfl,by decide +kernel,by decide +kernel⟩
noncomputable abbrev s__law_row:Stmt:=top 23
theorem sc__law_row:FnScope ["deck","size","word","box","goal"] ["deck","size"] (defScope s__law_row):=⟨rfl,rfl,rfl,by decide +kernel,rfl,by decide +kernel,by decide +kernel⟩
noncomputable abbrev s__law_program:Stmt:=top 24
theorem sc__law_program:FnScope ["deck","most","size"] ["deck","most"] (defScope s__law_program):=⟨rfl,rfl,rfl,by decide +kernel,rfl,by decide +kernel,by decide +kernel⟩
noncomputable abbrev s__law_line:Stmt:=top 25
theorem sc__law_line:FnScope ["row"] ["row"] (defScope s__law_line):=⟨rfl,rfl,rfl,by decide +kernel,rfl,by decide +kernel,by decide +kernel⟩
noncomputable abbrev s__law_text:Stmt:=top 26
theorem sc__law_text:FnScope ["program"] ["program"] (defScope s__law_text):=⟨rfl,rfl,rfl,by decide +kernel,rfl,by decide +kernel,by decide +kernel⟩
noncomputable abbrev s__law_figures:Stmt:=top 27
theorem sc__law_figures:FnScope ["word","number","sign"] ["word"] (defScope s__law_figures):=⟨rfl,rfl,rfl,by decide +kernel,rfl,by decide +kernel,by decide +kernel⟩
noncomputable abbrev s__law_reading:Stmt:=top 28
theorem sc__law_reading:FnScope ["line","lines","words","kinds","row","word","kind","part"] ["line","lines"] (defScope s__law_reading):=⟨rfl,rfl,rfl,by decide +kernel,rfl,by decide +kernel,by decide +kernel⟩
noncomputable abbrev s__law_due:Stmt:=top 29
theorem sc__law_due:FnScope ["text","lines","rows","place","line","row"] ["text"] (defScope s__law_due):=⟨rfl,rfl,rfl,by decide +kernel,rfl,by decide +kernel,by decide +kernel⟩
noncomputable abbrev s__law_spoilt_line:Stmt:=top 30
theorem sc__law_spoilt_line:FnScope ["deck","line","lines","words","at","there","some","way","text","cut","signs"] ["deck","line","lines"] (defScope s__law_spoilt_line):=⟨rfl,rfl,rfl,by decide +kernel,rfl,by decide +kernel,by decide +kernel⟩
noncomputable abbrev s__law_spoilt:Stmt:=top 31
theorem sc__law_spoilt:FnScope ["deck","program","lines","k","at","way"] ["deck","program"] (defScope s__law_spoilt):=⟨rfl,rfl,rfl,by decide +kernel,rfl,by decide +kernel,by decide +kernel⟩
noncomputable abbrev s__law_right:Stmt:=top 32
theorem sc__law_right:FnScope ["text","due","found","caught","e"] ["text"] (defScope s__law_right):=⟨rfl,rfl,rfl,by decide +kernel,rfl,by decide +kernel,by decide +kernel⟩
noncomputable abbrev s_law:Stmt:=top 33
theorem sc_law:FnScope ["script","deck","turn","program","k","text","odd","fixed"] ["script"] (defScope s_law):=⟨rfl,rfl,rfl,by decide +kernel,rfl,by decide +kernel,by decide +kernel⟩
structure Txt (K:PySem.W.Frag) (mg:Str -> Option Value):Prop where
 b_ValueError:mg "ValueError" = none
 b_all:mg "all" = none
 b_bool:mg "bool" = none
 b_enumerate:mg "enumerate" = none
 b_int:mg "int" = none
 b_isinstance:mg "isinstance" = none
 b_len:mg "len" = none
 b_list:mg "list" = none
 b_min:mg "min" = none
 b_range:mg "range" = none
 b_str:mg "str" = none
 b_sum:mg "sum" = none
 b_tuple:mg "tuple" = none
 b_zip:mg "zip" = none
 c_BOXES:∃ w u,mg "BOXES" = some u /\ RelV w u /\ ∀ H B,Rep K H B w (.ktp [.str "a",.str "b",.str "c",.str "d",.str "e",.str "f",.str "g",.str "h"])
 c_FIGURES:∃ w u,mg "FIGURES" = some u /\ RelV w u /\ ∀ H B,Rep K H B w (.str "0123456789")
 c_WHOLE:∃ w u,mg "WHOLE" = some u /\ RelV w u /\ ∀ H B,Rep K H B w (.int 65536)
 d_SHAPES:∃ d,mg "SHAPES" = some (.ref d) /\ KDic K d [("put",["box","number"]),("add",["box","box"]),("sub",["box","box"]),("copy",["box","box"]),("tell",["box"]),("hear",["box"]),("jump",["goal"]),("zero",["box","goal"]),("halt",[])]
 xs:∃ C_ShortError C_NoProgram C_NoAsk C_NoBits C_NoCode C_NoReach C_NoRow:Addr,mg "ShortError" = some (.ref C_ShortError) /\ mg "NoProgram" = some (.ref C_NoProgram) /\ mg "NoAsk" = some (.ref C_NoAsk) /\ mg "NoBits" = some (.ref C_NoBits) /\ mg "NoCode" = some (.ref C_NoCode) /\ mg "NoReach" = some (.ref C_NoReach) /\ mg "NoRow" = some (.ref C_NoRow) /\ XCls K C_ShortError /\ XKin K C_NoProgram /\ PySem.W.mroIn K C_NoProgram (.ref C_ShortError) = some true /\ PySem.W.kitOne K (.ref C_NoProgram) (.ref C_NoProgram) = some true /\ PySem.W.kitOne K (.ref C_NoProgram) (.type "ValueError") = some true /\ PySem.W.kitOne K (.ref C_NoProgram) (.ref C_ShortError) = some true /\ PySem.W.kitAny K (.ref C_NoProgram) [(.ref C_NoAsk),(.ref C_NoBits),(.ref C_NoCode),(.ref C_NoReach),(.ref C_NoRow)] = some false /\ ∃ (f:Addr) (fd:FuncData),XIni K C_NoProgram C_ShortError f "row" /\ Fun K "__init__" "NoProgram.__init__" s_NoProgram___init__ f fd /\ Binds K fd ["self","row"] [] /\ PySem.W.hasDictIn K C_NoProgram = true
section
variable {P:Program} {w:World} {K:PySem.W.Frag} {mg:Str -> Option Value} {base:Heap}
local macro_rules | `(tactic| walk_at "lc") => `(tactic| first | exact Or.inl rfl | exact Or.inr rfl)
local macro_rules | `(tactic| wp_walk using $ts,*) => do
  let ids := ("L2.A.uEqE L2.A3.stq_no L2.A3.stq_ok L2.A3.stq_ck L2.A3.sti_s L2.A3.oQ_some L2.A3.uVar L2.A3.uAdd L2.A3.uIx L2.A3.tLen L2.A3.uSl L2.A3.uIt L2.A3.gT L2.A3.uTru L2.A3.v_tr L2.A3.v_bx L2.A3.v_pb L2.A3.add_i L2.A3.add_s L2.A3.add_l L2.A3.add_t L2.A3.ix_l L2.A3.ix_t L2.A3.ix_k L2.A3.ix_s L2.A3.len_l L2.A3.len_t L2.A3.len_r L2.A3.len_k L2.A3.len_s L2.A3.sl_l L2.A3.sl_r L2.A3.sl_t L2.A3.sl_s L2.A.uIxD L2.A.tInDc L2.A.uDPut L2.A.uDisp L2.A.iZS L2.A.listS L2.A.uFind L2.A.uInsert L2.A.uAddRep L2.A.isL_l L2.A.xFor L2.A.uMe0 L2.A.tAllL L2.A.strTI L2.A.strTS L2.A.intXI L2.A.intXB L2.A.intXS L2.A.splitS L2.A.uItS L2.A.iEnL L2.A.uKget L2.A.uNew L2.A.xRaiseI L2.A.uIsiY L2.A.ansYN L2.A.ansYE L2.A.uAtt L2.A.xTryY L2.A.uC L2.A.uVar L2.A.uOp L2.A.uTest L2.A.uNot L2.A.uAnd L2.A.uOr L2.A.uTru L2.A.uNotV L2.A.uAndV L2.A.uOrV L2.A.uIf L2.A.uNil L2.A.uCons L2.A.uK L2.A.uTup L2.A.uLst L2.A.uCB L2.A.uNoPart L2.A.uPart L2.A.byT L2.A.tIntI L2.A.tBlI L2.A.uAdd L2.A.mulII L2.A.mulLI L2.A.mulTII L2.A.mulTLI L2.A.mulTTI L2.A.tSumL L2.A.tNeI L2.A.tNeS L2.A.tNeB L2.A.tNeL L2.A.tNeT L2.A.rev_l L2.A.rev_t L2.A.uIxT L2.A.tIsN L2.A.tEqI L2.A.tEqS L2.A.tEqB L2.A.tEqL L2.A.tEqT L2.A.by1 L2.A.tLen L2.A.uTuple L2.A.uII L2.A.uIntI L2.A.uIntB L2.A.uIsi L2.A.uSlX L2.A.slx_l L2.A.slx_r L2.A.slx_t L2.A.slx_s L2.A.gNFt L2.A.gNFf L2.A.uSm L2.A.uStarts L2.A.tEqXT L2.A.tEqXL L2.A.tEqXI L2.A.tEqXS L2.A.tEqXB L2.A.tInT L2.A.tInL L2.A.tInK L2.A.tInS L2.A.uJi L2.A.uJs L2.A.xAsg L2.A.xIf L2.A.xFn L2.A.uJoin L2.A.uPopAt L2.A.uAsg L2.A.gNt L2.A.gNf L2.A.noP L2.A.nb_tr L2.A.nb_bx L2.A.nb_un L2.A.nb_sl L2.A.gT L2.A.gsC L2.A.gsN L2.A.gS L2.A.uRet L2.A.uDrop L2.A.uIfS L2.A.uIt L2.A.iR1 L2.A.iZ L2.A.uFor L2.A.uComp L2.A.uMe L2.A.uAppend L2.A.uFn L2.A.sqL L2.A.sqT stp_some sti_some oT_some L2.A.v_tr L2.A.v_bx L2.A.v_pb L2.A.add_i L2.A.add_s L2.A.add_l L2.A.add_t L2.A.ix_l L2.A.ix_t L2.A.ix_k L2.A.ix_s L2.A.len_l L2.A.len_t L2.A.len_r L2.A.len_k L2.A.len_s L2.A.tp_l L2.A.tp_t L2.A.ls_l L2.A.ls_t L2.A.ls_r L2.A.ls_g L2.A.sl_l L2.A.sl_r L2.A.sl_t L2.A.sq_t L2.A.sq_l L2.A.it_tl L2.A.it_fl L2.A.it_tt L2.A.it_tr L2.A.it_tk L2.A.it_br L2.A.itB_l L2.A.c_tr L2.A.c_fr L2.A.c_br L2.A.d_tr L2.A.d_fr L2.A.d_br L2.A.tr_b L2.A.tr_i Sl.box Sl.put putS L2.putAll agT bxS roS L2.Y.trees L2.Y.isiT L2.Y.own1 L2.Y.own2 L2.Y.dr1 L2.Y.dr2 List.tail_cons Nat.zero_le startM edOf outsAt Option.bind_some Option.bind_none Option.map_some Option.map_none List.map_cons List.map_nil List.length_cons List.length_nil List.length_map List.replicate List.cons_append List.nil_append List.append_nil List.getElem?_cons_zero List.getElem?_cons_succ List.set_cons_zero List.set_cons_succ List.nodup_nil List.nodup_cons List.not_mem_nil List.mem_cons not_false_eq_true false_implies implies_true forall_eq or_false and_true true_and and_self true_or at_0 at_1 at_2 at_3 at_4 Nat.reduceAdd Nat.reduceSub Nat.reduceLeDiff Nat.reduceLT Bool.false_eq_true Bool.not_true Bool.not_false if_false if_true decide_eq_true_eq Bool.not_eq_true' decide_eq_false_iff_not Int.reduceToNat Int.reducePow reduceCtorEq exists_eq_left exists_eq_left'".splitOn " ").toArray.map fun n => Lean.mkIdent n.toName
  `(tactic| simp only [↓reduceIte, $[↓$ts:term],*, $[$ids:ident],*, $[$ts:term],*])
local macro_rules | `(tactic| walk_at "rt") => `(tactic| wp_walk using and_self)
def sT:List Str -> List L2.T:=List.map L2.T.str
theorem sT_len (xs:List Str):(sT xs).length = xs.length:=List.length_map ..
theorem sT_app (xs ys:List Str):sT (xs ++ ys) = sT xs ++ sT ys:=List.map_append
def cp (z:Str):List Nat:=z.cps.toList
theorem cp_len (z:Str):(cp z).length = z.length:=Array.length_toList
theorem cp_inj {a b:Str} (h:cp a = cp b):a = b:=by
 cases a with | mk a => cases b with | mk b => exact congrArg _ (Array.toList_inj.mp h)
theorem cp_mk (l:List Nat):cp ⟨l.toArray⟩ = l:=List.toList_toArray
def jn (c:Nat):List (List Nat) -> List Nat
 | [] => []
 | [a] => a
 | a :: b :: r => a ++ c :: jn c (b :: r)
theorem cp_join (c:Nat):∀ xs:List Str,cp (Str.join ⟨#[c]⟩ xs) = jn c (xs.map cp)
 | [] => rfl
 | [a] => rfl
 | a :: b :: r => by
  show cp (a ++ ⟨#[c]⟩ ++ Str.join ⟨#[c]⟩ (b :: r)) = cp a ++ c :: jn c ((b :: r).map cp);rw [<- cp_join c (b :: r)];show ((a.cps ++ #[c]) ++ (Str.join ⟨#[c]⟩ (b :: r)).cps).toList = _;simp [cp]
def figs:List Nat:=[48,49,50,51,52,53,54,55,56,57]
theorem figs_is:(Str.ofString "0123456789").cps.toList = figs:=by decide +kernel
theorem occ_fig (c:Nat):Y.occ ⟨#[c]⟩ "0123456789" = decide (48 <= c /\ c <= 57):=by
 unfold Y.occ;rw [StrLaws.found_one];refine decide_eq_decide.mpr ?_;rw [show ("0123456789":Str).cps.toList = figs from figs_is];unfold figs;simp only [List.mem_cons,List.not_mem_nil,or_false]
 omega
def digB (z:Str):Bool:=(cp z).all fun c => decide (48 <= c /\ c <= 57)
def numB (z:Str):Bool:=!decide (z = "") && digB z && (decide (z = "0") || !Txt.startswith z "0")
theorem digB_all {z:Str}:digB z = true ↔ NumText.AllDigits (cp z):=by
 unfold digB NumText.AllDigits;rw [List.all_eq_true];exact ⟨fun h c hc => by simpa using h c hc,fun h c hc => by simpa using h c hc⟩
def valN (z:Str):Nat:=NumText.digitsVal (cp z)
theorem str_ne {z:Str} (h:z ≠ ""):cp z ≠ []:=fun e => h (cp_inj (by rw [e];rfl))
theorem num_val {z:Str} (h:numB z = true) (hl:z.length <= 4300):PySem.intText? z = some ((valN z:Nat):Int):=by
 unfold numB at h;simp only [Bool.and_eq_true,Bool.not_eq_true',decide_eq_false_iff_not] at h;exact PySem.intText_digits (digB_all.mp h.1.2) (str_ne h.1.1) hl
def rdNum (z:Str) (g:Nat):Option Nat:=if numB z = true /\ z.length <= (Str.ofString (toString (g:Int))).length then (if valN z <= g then some (valN z) else none) else none
def oI:Option Nat -> L2.T
 | some n => .int (n:Nat)
 | none => .non
def tIsNum:TSp:=fun args Q => ∃ z:Str,args = [.str z] /\ z.length <= 100000 /\ Q (.tr (.bl (numB z))) []
theorem cp_signs (z:Str):signsT z = (cp z).map fun c => L2.T.str ⟨#[c]⟩:=rfl
theorem szLine:200000 <= sizeLine:=by decide
theorem ok_isnum (T:Txt K mg) (F:HasFn K mg "is_number" s_is_number ["text"]):CallOk P w K mg base CX0 1 "is_number" ["text"] (spT K [false] tIsNum):=by
 refine F.okT sc_is_number [false] rfl (by decide) (fun args Qt hl h f cdv A outer s H E hr => ?_)
 have hu:=hu_of hr;obtain ⟨z,rfl,hz,q⟩:=h;refine ⟨_,(Y.bcons (Y.ifS (Y.tw (Y.wor (Y.tcmp (Y.op_eqG K rfl (Nat.lt_of_succ_lt hu)) Y.ro_eq (Y.vS 0) Y.str) (Y.wor1 (Y.tnot (Y.ttruS K rfl (Y.cb (Y.call_allG K rfl rfl) Y.rc_all rfl T.b_all (by decide +kernel) (Y.cons (Y.comp1 (osc:=defScope s_is_number) (ON:=["text"]) (own:=["sign"]) (N:=["sign","text"]) ⟨rfl,by decide +kernel,rfl,by decide +kernel,by decide +kernel,by decide +kernel,by decide +kernel,by decide +kernel⟩ rfl rfl rfl rfl (Y.itS (Y.vS 0)) (fun _ _ _ _ => (Z.gname (i:=0) (show List.Nodup (["sign","text"]:List Str) by decide +kernel) rfl (by walk_at "lc"))) (fun _ _ _ _ => Y.ts0) (fun _ _ _ _ => (Y.cmp (Y.op_inG K rfl) Y.ro_in (Y.vS 0) (Y.globX rfl T.c_FIGURES)))) Y.nil))))))) (Y.bone (Y.ret Y.bl)) Y.bnil)
   (Y.bone (Y.ret (Y.or (Y.cmp (Y.op_eqG K rfl (Nat.lt_of_succ_lt hu)) Y.ro_eq (Y.vS 0) Y.str) (Y.one (Y.not (Y.sm K rfl PySem.F.slot_str_startswith PySem.F.type_str_startswith Y.mt_starts Y.rm_starts (Y.vS 0) (Y.cons Y.str Y.nil)))))))),?_⟩
 have q2:∀ b,numB z = b -> Qt (.tr (.bl b)) []:=fun b e => by rw [<- e];exact q
 refine seqT fun N hN => ?_;by_cases h0:z = ""
 ·wp_walk using if_pos h0;exact q2 _ (by unfold numB;rw [decide_eq_true h0];rfl)
 ·wp_walk using if_neg h0;refine cmp_ind (fun rest acc μ => ∃ a b:List Nat,cp z = a ++ b /\ (rest = b.map fun c => L2.T.str ⟨#[c]⟩) /\ acc = (a.map fun c => decide (48 <= c /\ c <= 57)).map L2.T.bl /\ μ = [.tr (.str z)]) ⟨[],cp z,rfl,cp_signs z,rfl,rfl⟩ ?_ ?_
  ·rintro acc μ ⟨a,b,e,e2,rfl,rfl⟩;have hb:b = []:=by simpa using e2.symm
   subst hb;rw [List.append_nil] at e;refine ⟨trivial,?_⟩;walk_at "rt";refine ⟨_,rfl,?_⟩;have hd:((a.map fun c => decide (48 <= c /\ c <= 57)).all id) = digB z:=by
    unfold digB;rw [e,List.all_map];rfl
   rw [hd]
   cases hdz:digB z with
   | false =>
    walk_at "rt";exact q2 _ (by unfold numB;rw [hdz];simp)
   | true =>
    walk_at "rt";rw [hN];clear hN N;have hn:numB z = (decide (z = "0") || !Txt.startswith z "0"):=by unfold numB;rw [hdz,decide_eq_false h0];simp
    by_cases h1:z = "0"
    ·wp_walk using decide_eq_true h1,if_pos h1;exact q2 _ (by rw [hn,decide_eq_true h1];rfl)
    ·wp_walk using decide_eq_false h1,if_neg h1;exact q2 _ (by rw [hn,decide_eq_false h1];rfl)
  ·rintro t r acc μ M ⟨a,b,e,e2,rfl,rfl⟩ k
   cases b with
   | nil => cases e2
   | cons c b =>
    have e2':t = L2.T.str ⟨#[c]⟩ /\ r = b.map fun c => L2.T.str ⟨#[c]⟩:=by simpa using e2
    obtain ⟨rfl,rfl⟩:=e2';refine ⟨trivial,?_,?_⟩
    ·have:=congrArg List.length e;rw [cp_len] at this;simp at this ⊢;exact Nat.lt_of_lt_of_le (by omega) szLine
    ·wp_walk using occ_fig;refine k _ _ ⟨a ++ [c],b,by rw [e];simp,rfl,by simp,rfl⟩
def tRdNum:TSp:=fun args Q => ∃ (z:Str) (g:Nat),args = [.str z,.int (g:Nat)] /\ z.length <= 100000 /\ g <= 100000 /\ Q (.tr (oI (rdNum z g))) []
theorem log_small {g:Nat} (h:g <= 100000):((g:Nat):Int).natAbs.log2 < 1920:=by
 rw [Int.natAbs_natCast];rcases Nat.eq_zero_or_pos g with rfl | h0
 ·decide
 ·exact (Nat.log2_lt (by omega)).mpr (Nat.lt_of_le_of_lt h (Nat.lt_of_lt_of_le (by decide:100000 < 2 ^ 17) (Nat.pow_le_pow_right (by decide) (by decide))))
theorem len_small {g:Nat} (h:g <= 100000):(Str.ofString (toString ((g:Nat):Int))).length <= 10:=by
 have:=PySem.W.KT.len_num (n:=(g:Int)) (by omega) (by omega)
 exact this
theorem ok_rdnum (T:Txt K mg) (F:HasFn K mg "read_number" s_read_number ["text","greatest"]) (his_number:CallOk P w K mg base CX0 1 "is_number" ["text"] (spT K [false] tIsNum)):CallOk P w K mg base CX0 2 "read_number" ["text","greatest"] (spT K [false,false] tRdNum):=by
 refine F.okT sc_read_number [false,false] rfl (by decide) (fun args Qt hl h f cdv A outer s H E hr => ?_)
 have hu:=hu_of hr;obtain ⟨z,g,rfl,hz,hg,q⟩:=h;refine ⟨_,(Y.bcons (Y.ifS (Y.tw (Y.wor (Y.tnot (Y.ttruS K rfl (Y.fn K rfl his_number (hr.mono (by decide)) rfl pass0 (Y.cons (Y.vS 0) Y.nil)))) (Y.wor1 (Y.tcmp op_gt Y.ro_bl (Y.cb (Y.call_lenG K rfl) Y.rc_lenS rfl T.b_len (by decide +kernel) (Y.cons (Y.vS 0) Y.nil)) (Y.cb (Y.call_lenG K rfl) Y.rc_lenS rfl T.b_len (by decide +kernel) (Y.cons (Y.ct ucall_str Y.rc_str rfl T.b_str (by decide +kernel) (Y.cons (Y.vS 1) Y.nil)) Y.nil)))))) (Y.bone (Y.ret Y.non)) Y.bnil)
   (Y.bcons (Y.set (i:=2) sc_read_number.nd rfl (by walk_at "lc") (Y.ct Y.call_intX Y.rc_intX rfl T.b_int (by decide +kernel) (Y.cons (Y.vS 0) Y.nil)))
   (Y.bone (Y.ret (Y.ifE (Y.tcmp op_le Y.ro_bl (Y.vS 2) (Y.vS 1)) (Y.vS 2) Y.non))))),?_⟩
 have hl:=len_small hg;refine seqT fun N hN => ?_;walk_at "rt";refine ⟨z,rfl,hz,?_⟩
 cases hn:numB z with
 | false =>
  walk_at "rt";have:rdNum z g = none:=by unfold rdNum;rw [if_neg (by rw [hn];simp)]
  rw [this] at q;exact q
 | true =>
  wp_walk using (show ¬ (false = true) from Bool.false_ne_true);refine ⟨Nat.le_trans hz (Nat.le_trans (by decide) szLine),log_small hg,Nat.le_trans hl (by decide),?_⟩
  by_cases h1:((Str.ofString (toString ((g:Nat):Int))).length:Int) < (z.length:Int)
  ·wp_walk using if_pos h1;have:rdNum z g = none:=by unfold rdNum;rw [if_neg (by omega)]
   rw [this] at q;exact q
  ·wp_walk using if_neg h1;have e:rdNum z g = if valN z <= g then some (valN z) else none:=by unfold rdNum;rw [if_pos ⟨hn,by omega⟩]
   rw [e] at q;rw [hN];clear hN N;refine seqT fun N hN => ?_;walk_at "rt";refine ⟨_,num_val hn (by omega),by omega,?_⟩
   rw [hN];clear hN N;by_cases h2:valN z <= g
   ·wp_walk using if_pos (show ((valN z:Nat):Int) <= (g:Int) by omega)
    rw [if_pos h2] at q;exact q
   ·wp_walk using if_neg (show ¬ ((valN z:Nat):Int) <= (g:Int) by omega)
    rw [if_neg h2] at q;exact q
def boxB (z:Str):Bool:=Y.inF (.str z) [.str "a",.str "b",.str "c",.str "d",.str "e",.str "f",.str "g",.str "h"]
def rdPart (k z:Str) (g:Nat):L2.T:=if k = "box" then (if boxB z = true then .str z else .non) else oI (rdNum z (if k = "number" then 65535 else g))
def tRdPart:TSp:=fun args Q => ∃ (k z:Str) (g:Nat),args = [.str k,.str z,.int (g:Nat)] /\ z.length <= 100000 /\ g <= 100000 /\ Q (.tr (rdPart k z g)) []
theorem ok_rdpart (T:Txt K mg) (F:HasFn K mg "read_part" s_read_part ["kind","part","greatest_goal"]) (hread_number:CallOk P w K mg base CX0 2 "read_number" ["text","greatest"] (spT K [false,false] tRdNum)):CallOk P w K mg base CX0 3 "read_part" ["kind","part","greatest_goal"] (spT K [false,false,false] tRdPart):=by
 refine F.okT sc_read_part [false,false,false] rfl (by decide) (fun args Qt hl h f cdv A outer s H E hr => ?_)
 have hu:=hu_of hr;obtain ⟨k,z,g,rfl,hz,hg,q⟩:=h;refine ⟨_,(Y.bcons (Y.ifS (Y.tcmp (Y.op_eqG K rfl (Nat.lt_of_succ_lt hu)) Y.ro_eq (Y.vS 0) Y.str) (Y.bone (Y.ret (Y.ifE (Y.tcmp (Y.op_inG K rfl) Y.ro_in (Y.vS 1) (Y.globX rfl T.c_BOXES)) (Y.vS 1) Y.non))) Y.bnil)
   (Y.bone (Y.ret (Y.fn K rfl hread_number (hr.mono (by decide)) rfl pass0 (Y.cons (Y.vS 1) (Y.cons (Y.ifE (Y.tcmp (Y.op_eqG K rfl (Nat.lt_of_succ_lt hu)) Y.ro_eq (Y.vS 0) Y.str) (Y.op op_sub Y.ro_int0 (Y.globX rfl T.c_WHOLE) Y.int) (Y.vS 2)) Y.nil)))))),?_⟩
 refine seqT fun N hN => ?_;unfold rdPart at q;by_cases h0:k = "box"
 ·rw [if_pos h0] at q;wp_walk using if_pos h0;refine ⟨rfl,rfl,?_⟩;show (if boxB z = true then _ else _)
  split
  ·rename_i hb;rw [if_pos hb] at q;walk_at "rt";exact q
  ·rename_i hb;rw [if_neg hb] at q;walk_at "rt";exact q
 ·rw [if_neg h0] at q;wp_walk using if_neg h0;rw [hN];clear hN N;by_cases h1:k = "number"
  ·rw [if_pos h1] at q;wp_walk using if_pos h1;exact ⟨z,65535,rfl,hz,by decide,q⟩
  ·rw [if_neg h1] at q;wp_walk using if_neg h1;exact ⟨z,g,rfl,hz,hg,q⟩
def shapes:List (Str × List Str):=[("put",["box","number"]),("add",["box","box"]),("sub",["box","box"]),("copy",["box","box"]),("tell",["box"]),("hear",["box"]),("jump",["goal"]),("zero",["box","goal"]),("halt",[])]
def vals (g:Nat):List Str -> List Str -> List L2.T:=List.zipWith fun k z => rdPart k z g
def nonB:L2.T -> Bool
 | .non => true
 | _ => false
def rdWords (g:Nat) (ws:List Str):L2.T:=match ws with
 | [] => .non
 | w :: ps => (match KTD.datumAt w shapes with
  | none => .non
  | some ks => if ps.length = ks.length then (if (vals g ks ps).any nonB = true then .non else .tup (.str w :: vals g ks ps)) else .non)
def rdRow (z:Str) (g:Nat):L2.T:=rdWords g (Txt.split z " ")
theorem rdPart_flat (k z:Str) (g:Nat):flatT (rdPart k z g) = true:=by
 unfold rdPart;split
 ·split <;> rfl
 ·cases rdNum z (if k = "number" then 65535 else g) <;> rfl
theorem vals_flat (g:Nat):∀ (ks ps:List Str),(vals g ks ps).all flatT = true
 | [],_ => rfl
 | _ :: _,[] => rfl
 | k :: ks,p :: ps => by
  show (rdPart k p g :: vals g ks ps).all flatT = true;rw [List.all_cons,rdPart_flat,vals_flat g ks ps];rfl
theorem inF_non:∀ {xs:List L2.T},xs.all flatT = true -> Y.inF .non xs = xs.any nonB
 | [],_ => rfl
 | x :: xs,h => by
  rw [List.all_cons,Bool.and_eq_true] at h;unfold Y.inF;rw [List.any_cons,List.any_cons];have ih:=inF_non h.2;unfold Y.inF at ih;rw [ih]
  cases x <;> first | rfl | cases h.1
theorem shapes_len {w:Str} {ks:List Str} (h:KTD.datumAt w shapes = some ks):ks.length <= 2:=by
 unfold shapes at h;simp only [KTD.datumAt] at h
 repeat' split at h
 all_goals first | (cases h;decide) | cases h
theorem rdW_none {g:Nat} {w:Str} {ps:List Str} (h:KTD.datumAt w shapes = none):rdWords g (w :: ps) = .non:=by unfold rdWords;simp only [h]
theorem rdW_some {g:Nat} {w:Str} {ps ks:List Str} (h:KTD.datumAt w shapes = some ks):rdWords g (w :: ps) = if ps.length = ks.length then (if (vals g ks ps).any nonB = true then .non else .tup (.str w :: vals g ks ps)) else .non:=by unfold rdWords;simp only [h]
def tRdRow:TSp:=fun args Q => ∃ (z:Str) (g:Nat),args = [.str z,.int (g:Nat)] /\ z.length <= 90000 /\ g <= 100000 /\ Q (.tr (rdRow z g)) []
theorem ok_rdrow (T:Txt K mg) (F:HasFn K mg "read_row" s_read_row ["line","greatest_goal"]) (hread_part:CallOk P w K mg base CX0 3 "read_part" ["kind","part","greatest_goal"] (spT K [false,false,false] tRdPart)):CallOk P w K mg base CX0 4 "read_row" ["line","greatest_goal"] (spT K [false,false] tRdRow):=by
 refine F.okT sc_read_row [false,false] rfl (by decide) (fun args Qt hl h f cdv A outer s H E hr => ?_)
 have hu:=hu_of hr;obtain ⟨z,g,rfl,hz,hg,q⟩:=h;refine ⟨_,(Y.bcons (Y.set (i:=2) sc_read_row.nd rfl (by walk_at "lc") (Y.sm K rfl PySem.F.slot_str_split PySem.F.type_str_split mt_split Y.rm_split (Y.vS 0) (Y.cons Y.str Y.nil)))
   (Y.bcons (Y.set (i:=3) sc_read_row.nd rfl (by walk_at "lc") (Y.kget K rfl rfl T.d_SHAPES (Y.ix (Y.ix_G K rfl) Y.ro_ixS (Y.vS 2) Y.int)))
   (Y.bcons (Y.ifS (Y.tw (Y.wor (Y.tcmp op_isN Y.ro_isN (Y.vS 3) Y.non) (Y.wor1 (Y.tcmp (Y.op_neG K rfl (Nat.lt_of_succ_lt hu)) Y.ro_neG (Y.cb (Y.call_lenG K rfl) Y.rc_lenS rfl T.b_len (by decide +kernel) (Y.cons (Y.vS 2) Y.nil)) (Y.op (Y.op_addG K rfl) Y.ro_addS Y.int (Y.cb (Y.call_lenG K rfl) Y.rc_lenS rfl T.b_len (by decide +kernel) (Y.cons (Y.vS 3) Y.nil))))))) (Y.bone (Y.ret Y.non)) Y.bnil)
   (Y.bcons (Y.setC2 (j:=4) K rfl sc_read_row.nd rfl (by walk_at "lc") (osc:=defScope s_read_row) (ON:=["line","greatest_goal","parts","shape","values"]) (own:=["kind","part"]) (N:=["kind","part","line","greatest_goal","parts","shape","values"]) ⟨rfl,by decide +kernel,rfl,by decide +kernel,by decide +kernel,by decide +kernel,by decide +kernel,by decide +kernel⟩ rfl rfl rfl rfl (Y.zip K rfl rfl T.b_zip (Y.cons (Y.vS 3) (Y.cons (Y.sliceS K rfl (Y.vS 2) (Y.po1 Y.int) Y.po0) Y.nil))) (fun _ _ _ _ => (Z.gtup (n:=2) K rfl rfl (Z.gscons (Z.gname (i:=0) (show List.Nodup (["kind","part","line","greatest_goal","parts","shape","values"]:List Str) by decide +kernel) rfl (by walk_at "lc")) (Z.gscons (Z.gname (i:=1) (show List.Nodup (["kind","part","line","greatest_goal","parts","shape","values"]:List Str) by decide +kernel) rfl (by walk_at "lc")) Z.gsnil)))) (fun _ _ _ _ => Y.ts0) (fun _ _ _ _ => (Y.fn K rfl hread_part (hr.mono (by decide)) rfl pass0 (Y.cons (Y.vS 0) (Y.cons (Y.vS 1) (Y.cons (Y.vS 3) Y.nil))))))
   (Y.bcons (Y.ifS (Y.tcmp (Y.op_inG K rfl) Y.ro_in Y.non (Y.vS 4)) (Y.bone (Y.ret Y.non)) Y.bnil)
   (Y.bone (Y.ret (Y.ct (Y.call_tupG K rfl) Y.rc_tuple rfl T.b_tuple (by decide +kernel) (Y.cons (Y.op (Y.op_addG K rfl) Y.ro_addS (Y.sliceS K rfl (Y.vS 2) Y.po0 (Y.po1 Y.int)) (Y.vS 4)) Y.nil))))))))),?_⟩
 refine seqT fun N hN => ?_;walk_at "rt";have hsl:=PyProof.Rows.split_le z " ";refine ⟨by decide,Nat.le_trans hz (by decide),Nat.le_trans hsl (Nat.le_trans (by omega) szLine),?_⟩
 have hpl:∀ p ∈ Txt.split z " ",p.length <= 90000:=fun p hp => Nat.le_trans (PyProof.Rows.part_short hp) hz;have hne:=PyProof.Rows.split_pos z " ";unfold rdRow at q;generalize Txt.split z " " = ws at *
 cases ws with
 | nil => exact absurd hne (by decide)
 | cons w ps =>
  rw [hN];clear hN N;refine seqT fun N hN => ?_;have a0:∀ xs:List L2.T,atI (.str w :: xs) 0 = some (.str w):=fun xs => by unfold atI ixN;simp
  wp_walk using a0;show (match KTD.datumAt w shapes with | some ws => N [.tr (.str z),.tr (.int (g:Nat)),.bx (.lst (.str w :: sT ps)),.tr (.ktp (sT ws)),.un] | none => N [.tr (.str z),.tr (.int (g:Nat)),.bx (.lst (.str w :: sT ps)),.tr .non,.un])
  have hpl2:∀ p ∈ ps,p.length <= 90000:=fun p hp => hpl p (List.mem_cons_of_mem _ hp)
  cases hd:KTD.datumAt w shapes with
  | none =>
   rw [rdW_none hd] at q;show N _;rw [hN];clear hN N;refine seqT fun N hN => ?_;walk_at "rt";exact q
  | some ks =>
   have q':=q;rw [rdW_some hd] at q';clear q;have hk2:=shapes_len hd;show N _;rw [hN];clear hN N;refine seqT fun N hN => ?_;have e2:(((sT ks:List L2.T)).length:Int) = (ks.length:Int):=by rw [sT_len]
   by_cases hl:ps.length = ks.length
   ·rw [if_pos hl] at q';wp_walk using e2;rw [if_neg (by rw [sT_len];omega),hN];clear hN N
    refine seqT fun N hN => ?_;have e3:Y.cutG (.str w :: sT ps:List L2.T) (some 1) none = sT ps:=by
     show Y.cutG (sT (w :: ps)) (some 1) none = sT ps;unfold Y.cutG;rw [HT.sIx_none,show (some (1:Int)) = some ((1:Nat):Int) from rfl,HT.sIx_nat];simp only [sT,List.map_cons,List.length_cons,List.length_map];rw [Nat.min_eq_left (by omega)]
     exact List.take_of_length_le (by simp)
    wp_walk using e3,(show sqOf (.ktp (sT ks)) = some (sT ks) from rfl);refine cmp_ind (fun rest acc μ => ∃ (ks1 ps1 ks2 ps2:List Str),ks = ks1 ++ ks2 /\ ps = ps1 ++ ps2 /\ ks1.length = ps1.length /\ ks2.length = ps2.length /\ rest = zipT (sT ks2) (sT ps2) /\ acc = vals g ks1 ps1 /\ μ = [.tr (.str z),.tr (.int (g:Nat)),.bx (.lst (.str w :: sT ps)),.tr (.ktp (sT ks)),.un]) ⟨[],[],ks,ps,rfl,rfl,rfl,hl.symm,rfl,rfl,rfl⟩ ?_ ?_
    ·rintro acc μ ⟨ks1,ps1,ks2,ps2,ek,ep,l1,l2,er,rfl,rfl⟩;have h2:ks2 = [] /\ ps2 = []:=by
      cases ks2 with
      | nil => exact ⟨rfl,by cases ps2 with | nil => rfl | cons => cases l2⟩
      | cons k ks2 => cases ps2 with
       | nil => cases l2
       | cons p ps2 => cases er
     obtain ⟨rfl,rfl⟩:=h2;rw [List.append_nil] at ek ep;subst ek ep;refine ⟨trivial,?_⟩;walk_at "rt";rw [hN];clear hN N;refine seqT fun N hN => ?_;have fl:=vals_flat g ks ps;wp_walk using inF_non fl;refine ⟨rfl,fl,?_⟩;have vl:(vals g ks ps).length <= 2:=by unfold vals;rw [List.length_zipWith];omega
     split
     ·rename_i hn;rw [if_pos hn] at q';exact q'
     ·rename_i hn;rw [if_neg hn] at q';rw [hN];clear hN N;have e4:Y.cutG (.str w :: sT ps:List L2.T) none (some 1) = [.str w]:=by
       unfold Y.cutG;rw [HT.sIx_none,show (some (1:Int)) = some ((1:Nat):Int) from rfl,HT.sIx_nat];simp only [List.length_cons,List.drop_zero];rw [Nat.min_eq_left (by omega)]
       rfl
      wp_walk using e4;refine ⟨?_,q'⟩;exact Nat.le_trans (show 1 + (vals g ks ps).length <= 200000 by omega) szLine
    ·rintro t r acc μ M ⟨ks1,ps1,ks2,ps2,ek,ep,l1,l2,er,rfl,rfl⟩ k
     cases ks2 with
     | nil => cases ps2 with
      | nil => cases er
      | cons => cases l2
     | cons k2 ks2 => cases ps2 with
      | nil => cases l2
      | cons p2 ps2 =>
       have er':t = .tup [.str k2,.str p2] /\ r = zipT (sT ks2) (sT ps2):=by
        have:t :: r = .tup [.str k2,.str p2] :: zipT (sT ks2) (sT ps2):=er;exact ⟨(List.cons.inj this).1,(List.cons.inj this).2⟩
       obtain ⟨rfl,rfl⟩:=er';have vl:(vals g ks1 ps1).length <= 2:=by
        unfold vals;rw [List.length_zipWith];have:=congrArg List.length ek;simp at this
        omega
       refine ⟨trivial,Nat.lt_of_lt_of_le (show (vals g ks1 ps1).length < 200000 by omega) szLine,?_⟩
       walk_at "rt";refine ⟨k2,p2,g,rfl,Nat.le_trans (hpl2 p2 (by rw [ep];simp)) (by decide),hg,?_⟩
       show M _ _;refine k _ _ ⟨ks1 ++ [k2],ps1 ++ [p2],ks2,ps2,by rw [ek];simp,by rw [ep];simp,by simp [l1],Nat.succ.inj l2,rfl,?_,rfl⟩
       unfold vals;rw [List.zipWith_append l1];rfl
   ·rw [if_neg hl] at q';wp_walk using e2;rw [if_pos (by rw [sT_len];omega)]
    exact q'
theorem rdRow_is (z:Str) (g:Nat):rdRow z g = .non \/ ∃ xs,rdRow z g = .tup xs:=by
 unfold rdRow rdWords;split
 ·exact .inl rfl
 ·split
  ·exact .inl rfl
  ·split
   ·split
    ·exact .inl rfl
    ·exact .inr ⟨_,rfl⟩
   ·exact .inl rfl
def lns (z:Str):List Str:=Txt.split z "\n"
theorem pairs_at {xs:List Str} (i:Nat) (h:i < xs.length):(pairs (sT xs)).drop i = .tup [.int (i:Nat),.str xs[i]] :: (pairs (sT xs)).drop (i + 1):=by
 have hl:i < (pairs (sT xs)).length:=by unfold pairs;simp [sT_len,h]
 rw [List.drop_eq_getElem_cons hl];congr 1;unfold pairs;simp [sT,List.getElem?_eq_getElem h]
theorem pairs_end {xs:List Str} (i:Nat) (h:xs.length <= i):(pairs (sT xs)).drop i = []:=List.drop_of_length_le (by unfold pairs;simp [sT_len,h])
def nI:List Int -> List L2.T:=List.map L2.T.int
theorem nI_len (xs:List Int):(nI xs).length = xs.length:=List.length_map ..
def Deck (n:Nat) (d:L2.T):Prop:=∃ (cells:List Int) (i r c t:Int),d = .lst [.lst (nI cells),.int i,.int r,.int c,.int t] /\ 0 <= i /\ i <= cells.length /\ cells.length <= 63 /\ 0 <= r /\ 0 <= c /\ c <= n
theorem Deck.mono {n m:Nat} {d:L2.T} (h:Deck n d) (hm:n <= m):Deck m d:=by
 obtain ⟨cells,i,r,c,t,h1,h2,h3,h4,h5,h6,h7⟩:=h;exact ⟨cells,i,r,c,t,h1,h2,h3,h4,h5,h6,by omega⟩
theorem at_nI {xs:List Int} {i:Int} (h0:0 <= i) (h1:i < xs.length):∃ z ∈ xs,atI (nI xs) i = some (.int z):=by
 have hi:i.toNat < xs.length:=by omega
 refine ⟨xs[i.toNat],List.getElem_mem hi,?_⟩;unfold atI ixN nI;rw [List.length_map,if_pos (by omega),if_pos (by omega)]
 show (List.map L2.T.int xs)[i.toNat]? = _;rw [List.getElem?_map,List.getElem?_eq_getElem hi];rfl
def tMix:TSp:=fun args Q => ∃ c k:Int,args = [.int c,.int k] /\ 0 <= k /\ k < 2 ^ 60 /\ ∀ v:Int,Q (.tr (.int v)) []
theorem ok_mix (T:Txt K mg) (F:HasFn K mg "_law_mix" s__law_mix ["cell","k"]):CallOk P w K mg base CX0 1 "_law_mix" ["cell","k"] (spT K [false,false] tMix):=by
 refine F.okT sc__law_mix [false,false] rfl (by decide) (fun args Qt hl h f cdv A outer s H E hr => ?_)
 have hu:=hu_of hr;obtain ⟨c,k,rfl,h0,h1,q⟩:=h;refine ⟨_,(Y.bcons (Y.set (i:=2) sc__law_mix.nd rfl (by walk_at "lc") (Y.op (Y.op_addG K rfl) Y.ro_addS (Y.op op_mod Y.ro_int (Y.vS 0) Y.int) (Y.op (Y.op_mulG K rfl) Y.ro_mulT (Y.op (Y.op_mulG K rfl) Y.ro_mulT Y.int (Y.vS 1)) (Y.vS 1))))
   (Y.bcons (Y.set (i:=2) sc__law_mix.nd rfl (by walk_at "lc") (Y.op op_mod Y.ro_int (Y.op (Y.op_addG K rfl) Y.ro_addS (Y.vS 2) (Y.op (Y.op_mulG K rfl) Y.ro_mulT Y.int (Y.vS 1))) Y.int))
   (Y.bcons (Y.set (i:=2) sc__law_mix.nd rfl (by walk_at "lc") (Y.op op_mod Y.ro_int (Y.op (Y.op_mulG K rfl) Y.ro_mulT (Y.vS 2) (Y.vS 2)) Y.int))
   (Y.bone (Y.ret (Y.op Y.op_fdivG Y.ro_int (Y.op op_mod Y.ro_int (Y.op (Y.op_mulG K rfl) Y.ro_mulT (Y.vS 2) (Y.op (Y.op_addG K rfl) Y.ro_addS (Y.vS 2) Y.int)) Y.int) Y.int)))))),?_⟩
 have m1:∀ a:Int,0 <= a % 2147483629 /\ a % 2147483629 < 2147483629:=fun a => ⟨by omega,by omega⟩
 have m2:∀ a:Int,0 <= a % 2147483587 /\ a % 2147483587 < 2147483587:=fun a => ⟨by omega,by omega⟩
 refine seqT fun N hN => ?_;walk_at "rt";refine ⟨by decide,.inl (by decide),.inr ⟨by omega,by omega⟩,?_⟩
 rw [hN];clear hN N;refine seqT fun N hN => ?_;walk_at "rt";refine ⟨.inl (by decide),by decide,?_⟩
 generalize hx:(c % 2147483629 + 1000003 * k * k + 7919 * k) % 2147483629 = x;have hx2:=m1 (c % 2147483629 + 1000003 * k * k + 7919 * k);rw [hx] at hx2;rw [hN];clear hN N;refine seqT fun N hN => ?_;walk_at "rt";refine ⟨.inl ⟨by omega,by omega⟩,by decide,?_⟩
 generalize hy:x * x % 2147483587 = y;have hy2:=m2 (x * x);rw [hy] at hy2;rw [hN];clear hN N;walk_at "rt";exact ⟨.inl ⟨by omega,by omega⟩,by decide,⟨by decide,by decide⟩,q _⟩
def tDeck:TSp:=fun args Q => ∃ ns:List Int,args = [.rol (nI ns)] /\ ns.length <= 63 /\ ∀ d,Deck 0 d -> Q (.fr d) []
theorem ok_deck (T:Txt K mg) (F:HasFn K mg "_law_deck" s__law_deck ["script"]):CallOk P w K mg base CX0 1 "_law_deck" ["script"] (spT K [false] tDeck):=by
 refine F.okT sc__law_deck [false] rfl (by decide) (fun args Qt hl h f cdv A outer s H E hr => ?_)
 have hu:=hu_of hr;obtain ⟨ns,rfl,hn,q⟩:=h;refine ⟨_,(Y.bone (Y.ret (Y.lst (Y.cons (Y.sliceS K rfl (Y.vS 0) Y.po0 (Y.po1 Y.int)) (Y.cons Y.int (Y.cons Y.int (Y.cons Y.int (Y.cons (Y.cb (Y.call_sumG K rfl rfl) Y.rc_sum rfl T.b_sum (by decide +kernel) (Y.cons (Y.sliceS K rfl (Y.vS 0) Y.po0 (Y.po1 Y.int)) Y.nil)) Y.nil)))))))),?_⟩
 have ec:Y.cutG (nI ns) none (some 63) = nI ns:=by
  unfold Y.cutG;rw [HT.sIx_none,show (some (63:Int)) = some ((63:Nat):Int) from rfl,HT.sIx_nat,nI_len,List.drop_zero];exact List.take_of_length_le (by rw [nI_len];omega)
 wp_walk using ec;refine ⟨ns,rfl,by decide,q _ ⟨ns,0,0,0,_,rfl,by decide,by omega,hn,by decide,by decide,by decide⟩⟩
def tNext:TSp:=fun args Q => ∃ (d:L2.T) (m:Int) (n:Nat),args = [d,.int m] /\ Deck n d /\ n < 2 ^ 50 /\ 0 < m /\ m < 2 ^ 29 /\ ∀ (v:Int) (d':L2.T),0 <= v -> v < m -> Deck (n + 1) d' -> Q (.tr (.int v)) [d']
theorem ok_next (T:Txt K mg) (F:HasFn K mg "_law_next" s__law_next ["deck","many"]) (h_law_mix:CallOk P w K mg base CX0 1 "_law_mix" ["cell","k"] (spT K [false,false] tMix)):CallOk P w K mg base CX0 2 "_law_next" ["deck","many"] (spT K [true,false] tNext):=by
 refine F.okT sc__law_next [true,false] rfl (by decide) (fun args Qt hl h f cdv A outer s H E hr => ?_)
 have hu:=hu_of hr;obtain ⟨d,m,n,rfl,⟨cells,i,r,ct,t,rfl,h1,h2,h3,h4,h5,h6⟩,hn,hm0,hm1,q⟩:=h;refine ⟨_,(Y.bcons (Y.ifS (Y.tw (Y.wand (Y.tcmp (Y.op_eqG K rfl (Nat.lt_of_succ_lt hu)) Y.ro_eq (Y.ix (Y.ix_G K rfl) Y.ro_ixS (Y.vS 0) Y.int) Y.int) (Y.wand1 (Y.tcmp op_lt Y.ro_bl (Y.ix (Y.ix_G K rfl) Y.ro_ixS (Y.vS 0) Y.int) (Y.cb (Y.call_lenG K rfl) Y.rc_lenS rfl T.b_len (by decide +kernel) (Y.cons (Y.ix (Y.ix_G K rfl) Y.ro_ixS (Y.vS 0) Y.int) Y.nil)))))) (Y.bcons (Y.set (i:=2) sc__law_next.nd rfl (by walk_at "lc") (Y.ix (Y.ix_G K rfl) Y.ro_ixS (Y.ix (Y.ix_G K rfl) Y.ro_ixS (Y.vS 0) Y.int) (Y.ix (Y.ix_G K rfl) Y.ro_ixS (Y.vS 0) Y.int)))
   (Y.bcons (Y.asg (Y.op (Y.op_addG K rfl) Y.ro_addS (Y.ix (Y.ix_G K rfl) Y.ro_ixS (Y.vS 0) Y.int) Y.int) (Y.gsub (Y.vS 0) Y.int))
   (Y.bcons (Y.ifS (Y.tcmp op_lt Y.ro_bl (Y.vS 2) (Y.op op_pow Y.ro_int Y.int Y.int)) (Y.bone (Y.ret (Y.op op_mod Y.ro_int (Y.fn K rfl h_law_mix (hr.mono (by decide)) rfl pass0 (Y.cons (Y.vS 2) (Y.cons (Y.ix (Y.ix_G K rfl) Y.ro_ixS (Y.vS 0) Y.int) Y.nil))) (Y.vS 1)))) Y.bnil)
   (Y.bone (Y.asg (Y.vS 2) (Y.gsub (Y.vS 0) Y.int)))))) Y.bnil)
   (Y.bcons (Y.ifS (Y.tcmp op_gt Y.ro_bl (Y.ix (Y.ix_G K rfl) Y.ro_ixS (Y.vS 0) Y.int) Y.int) (Y.bcons (Y.set (i:=3) sc__law_next.nd rfl (by walk_at "lc") (Y.op op_mod Y.ro_int (Y.ix (Y.ix_G K rfl) Y.ro_ixS (Y.vS 0) Y.int) (Y.vS 1)))
   (Y.bcons (Y.asg (Y.op Y.op_fdivG Y.ro_int (Y.ix (Y.ix_G K rfl) Y.ro_ixS (Y.vS 0) Y.int) (Y.vS 1)) (Y.gsub (Y.vS 0) Y.int))
   (Y.bone (Y.ret (Y.vS 3))))) Y.bnil)
   (Y.bcons (Y.asg (Y.op (Y.op_addG K rfl) Y.ro_addS (Y.ix (Y.ix_G K rfl) Y.ro_ixS (Y.vS 0) Y.int) Y.int) (Y.gsub (Y.vS 0) Y.int))
   (Y.bone (Y.ret (Y.op op_mod Y.ro_int (Y.fn K rfl h_law_mix (hr.mono (by decide)) rfl pass0 (Y.cons (Y.ix (Y.ix_G K rfl) Y.ro_ixS (Y.vS 0) Y.int) (Y.cons (Y.op (Y.op_addG K rfl) Y.ro_addS (Y.ix (Y.ix_G K rfl) Y.ro_ixS (Y.vS 0) Y.int) Y.int) Y.nil))) (Y.vS 1))))))),?_⟩
 have x0:ixN 5 0 = some 0:=by decide
 have x1:ixN 5 1 = some 1:=by decide
 have x2:ixN 5 2 = some 2:=by decide
 have x3:ixN 5 3 = some 3:=by decide
 have x4:ixN 5 4 = some 4:=by decide
 have a0:∀ a b c d e:L2.T,atI [a,b,c,d,e] 0 = some a:=fun _ _ _ _ _ => rfl;have a1:∀ a b c d e:L2.T,atI [a,b,c,d,e] 1 = some b:=fun _ _ _ _ _ => rfl;have a2:∀ a b c d e:L2.T,atI [a,b,c,d,e] 2 = some c:=fun _ _ _ _ _ => rfl;have a3:∀ a b c d e:L2.T,atI [a,b,c,d,e] 3 = some d:=fun _ _ _ _ _ => rfl;have a4:∀ a b c d e:L2.T,atI [a,b,c,d,e] 4 = some e:=fun _ _ _ _ _ => rfl;have fin:∀ (a:Int) (i' r' c':Int),0 <= i' -> i' <= cells.length -> 0 <= r' -> 0 <= c' -> c' <= (n + 1:Nat) -> Qt (.tr (.int (a % m))) [.lst [.lst (nI cells),.int i',.int r',.int c',.int t]]:=fun a i' r' c' g1 g2 g3 g4 g5 =>
  q _ _ (Int.emod_nonneg _ (by omega)) (Int.emod_lt_of_pos _ hm0) ⟨cells,i',r',c',t,rfl,g1,g2,h3,g3,g4,g5⟩
 refine seqT fun N hN => ?_;have tail:∀ (i' r':Int) (s2:Option L2.T),0 <= i' -> i' <= cells.length -> 0 <= r' -> N [.pb (.lst [.lst (nI cells),.int i',.int r',.int ct,.int t]),.tr (.int m),sl s2,.un]:=fun i' r' s2 g1 g2 g3 => by
  rw [hN];clear hN N;refine seqT fun N hN => ?_;by_cases hz:0 < r'
  ·wp_walk using a0,a1,a2,a3,a4,x0,x1,x2,x3,x4,if_pos hz;refine seqT fun M hM => ?_;wp_walk using a0,a1,a2,a3,a4,x0,x1,x2,x3,x4;refine ⟨hm0,?_⟩;rw [hM];clear hM M;refine seqT fun M hM => ?_;wp_walk using a0,a1,a2,a3,a4,x0,x1,x2,x3,x4;refine ⟨⟨hm0,by omega⟩,?_⟩
   rw [hM];clear hM M;walk_at "rt";exact fin _ _ _ _ g1 g2 (Int.ediv_nonneg g3 (by omega)) h5 (by omega)
  ·wp_walk using a0,a1,a2,a3,a4,x0,x1,x2,x3,x4,if_neg hz;rw [hN];clear hN N;refine seqT fun N hN => ?_;wp_walk using a0,a1,a2,a3,a4,x0,x1,x2,x3,x4;rw [hN];clear hN N;wp_walk using a0,a1,a2,a3,a4,x0,x1,x2,x3,x4;refine ⟨t,ct + 1 + 63,rfl,by omega,by omega,fun v => ?_⟩
   walk_at "rt";exact ⟨hm0,fin _ _ _ _ g1 g2 g3 (by omega) (by omega)⟩
 by_cases hr0:r = 0
 ·by_cases hi:i < cells.length
  ·obtain ⟨cell,hcm,ha⟩:=at_nI h1 hi;wp_walk using a0,a1,a2,a3,a4,x0,x1,x2,x3,x4,nI_len,if_pos hr0,if_pos hi;refine seqT fun M hM => ?_;wp_walk using a0,a1,a2,a3,a4,x0,x1,x2,x3,x4,ha;rw [hM];clear hM M;refine seqT fun M hM => ?_;wp_walk using a0,a1,a2,a3,a4,x0,x1,x2,x3,x4;rw [hM];clear hM M;refine seqT fun M hM => ?_;have pow:CPow 10 18:=by unfold CPow;decide
   by_cases hb:cell < 1000000000000000000
   ·wp_walk using a0,a1,a2,a3,a4,x0,x1,x2,x3,x4,if_pos hb;refine ⟨pow,?_⟩;refine ⟨cell,i + 1,rfl,by omega,by omega,fun v => ?_⟩
    walk_at "rt";exact ⟨hm0,fin _ _ _ _ (by omega) (by omega) h4 h5 (by omega)⟩
   ·wp_walk using a0,a1,a2,a3,a4,x0,x1,x2,x3,x4,if_neg hb;refine ⟨pow,?_⟩;rw [hM];clear hM M;wp_walk using a0,a1,a2,a3,a4,x0,x1,x2,x3,x4;exact tail (i + 1) cell (some _) (by omega) (by omega) (by omega)
  ·wp_walk using a0,a1,a2,a3,a4,x0,x1,x2,x3,x4,nI_len,if_pos hr0,if_neg hi;exact tail i r none h1 h2 h4
 ·wp_walk using a0,a1,a2,a3,a4,x0,x1,x2,x3,x4,nI_len,if_neg hr0;exact tail i r none h1 h2 h4
def tNumber:TSp:=fun args Q => ∃ (d:L2.T) (n:Nat),args = [d] /\ Deck n d /\ n < 2 ^ 49 /\ ∀ (v:Int) (d':L2.T),0 <= v -> v < 65536 -> Deck (n + 3) d' -> Q (.tr (.int v)) [d']
theorem at_any {xs:List L2.T} {i:Int} (h0:0 <= i) (h1:i < xs.length):∃ z ∈ xs,atI xs i = some z:=by
 have hi:i.toNat < xs.length:=by omega
 refine ⟨xs[i.toNat],List.getElem_mem hi,?_⟩;unfold atI ixN;rw [if_pos (by omega),if_pos (by omega)]
 exact List.getElem?_eq_getElem hi
theorem ok_number (T:Txt K mg) (F:HasFn K mg "_law_number" s__law_number ["deck"]) (h_law_next:CallOk P w K mg base CX0 2 "_law_next" ["deck","many"] (spT K [true,false] tNext)):CallOk P w K mg base CX0 3 "_law_number" ["deck"] (spT K [true] tNumber):=by
 refine F.okT sc__law_number [true] rfl (by decide) (fun args Qt hl h f cdv A outer s H E hr => ?_)
 have hu:=hu_of hr;obtain ⟨d,n,rfl,D,hn,q⟩:=h;refine ⟨_,(Y.bone (Y.ret (Y.ix (Y.ix_G K rfl) Y.ro_ixS (Y.lst (Y.cons Y.int (Y.cons Y.int (Y.cons Y.int (Y.cons Y.int (Y.cons Y.int (Y.cons (Y.fn K rfl h_law_next (hr.mono (by decide)) rfl pass0 (Y.cons (Y.vS 0) (Y.cons Y.int Y.nil))) (Y.cons (Y.fn K rfl h_law_next (hr.mono (by decide)) rfl pass0 (Y.cons (Y.vS 0) (Y.cons Y.int Y.nil))) (Y.cons Y.int Y.nil))))))))) (Y.fn K rfl h_law_next (hr.mono (by decide)) rfl pass0 (Y.cons (Y.vS 0) (Y.cons Y.int Y.nil)))))),?_⟩
 walk_at "rt";refine ⟨d,12,n,rfl,D,by omega,by decide,by decide,fun a d1 a0 a1 D1 => ?_⟩
 walk_at "rt";refine ⟨d1,65536,n + 1,rfl,D1,by omega,by decide,by decide,fun b d2 b0 b1 D2 => ?_⟩
 walk_at "rt";refine ⟨by decide,d2,8,n + 2,rfl,D2,by omega,by decide,by decide,fun c d3 c0 c1 D3 => ?_⟩
 obtain ⟨v,hv,ha⟩:=at_any (xs:=[.int 0,.int 1,.int 2,.int 65535,.int 32768,.int a,.int b,.int 65534]) c0 c1;wp_walk using ha;have fin:∀ z:Int,0 <= z -> z < 65536 -> Qt (.tr (.int z)) [d3]:=fun z z0 z1 => q z d3 z0 z1 D3;simp only [List.mem_cons,List.not_mem_nil,or_false] at hv;rcases hv with rfl | rfl | rfl | rfl | rfl | rfl | rfl | rfl <;> exact fin _ (by omega) (by omega)
theorem lt8 {b:Nat} (h:b < 8):b = 0 \/ b = 1 \/ b = 2 \/ b = 3 \/ b = 4 \/ b = 5 \/ b = 6 \/ b = 7:=by omega
inductive Row where
 | put (b n:Nat) | two (w:Fin 3) (a b:Nat) | one (w:Fin 2) (b:Nat) | jump (g:Nat) | zero (b g:Nat) | halt
 deriving DecidableEq
def boxS (i:Nat):Str:=⟨#[97 + i]⟩
def w2:Fin 3 -> Str
 | 0 => "add"
 | 1 => "sub"
 | 2 => "copy"
def w1:Fin 2 -> Str
 | 0 => "tell"
 | 1 => "hear"
inductive Prt where
 | s (z:Str) | n (k:Nat)
def Prt.t:Prt -> L2.T
 | .s z => .str z
 | .n k => .int (k:Nat)
def Row.ps:Row -> List Prt
 | .put b n => [.s "put",.s (boxS b),.n n]
 | .two w a b => [.s (w2 w),.s (boxS a),.s (boxS b)]
 | .one w b => [.s (w1 w),.s (boxS b)]
 | .jump g => [.s "jump",.n g]
 | .zero b g => [.s "zero",.s (boxS b),.n g]
 | .halt => [.s "halt"]
def Row.t (r:Row):L2.T:=.tup (r.ps.map Prt.t)
def Row.Ok (size:Nat):Row -> Prop
 | .put b n => b < 8 /\ n < 65536
 | .two _ a b => a < 8 /\ b < 8
 | .one _ b => b < 8
 | .jump g => g <= size
 | .zero b g => b < 8 /\ g <= size
 | .halt => True
theorem Row.Ok.mono {a b:Nat} {r:Row} (h:r.Ok a) (hm:a <= b):r.Ok b:=by
 cases r <;> simp only [Row.Ok] at h ⊢ <;> omega
theorem box_at {k:Int} (h0:0 <= k) (h1:k < 8):atI (Str.ofString "abcdefgh").cps.toList k = some (97 + k.toNat):=by
 have e:(Str.ofString "abcdefgh").cps.toList = [97,98,99,100,101,102,103,104]:=by decide +kernel
 rw [e];obtain ⟨n,rfl⟩:∃ n:Nat,k = n:=⟨k.toNat,by omega⟩
 unfold atI ixN;have hn:n < 8:=by omega
 rw [if_pos (by omega),if_pos (by simp;omega)]
 show [97,98,99,100,101,102,103,104][((n:Nat):Int).toNat]? = some (97 + ((n:Nat):Int).toNat);rw [Int.toNat_natCast];rcases lt8 hn with rfl | rfl | rfl | rfl | rfl | rfl | rfl | rfl <;> rfl
def tRow:TSp:=fun args Q => ∃ (d:L2.T) (size n:Nat),args = [d,.int (size:Nat)] /\ Deck n d /\ n < 2 ^ 48 /\ size < 2 ^ 28 /\ ∀ (r:Row) (d':L2.T),r.Ok size -> Deck (n + 10) d' -> Q (.tr r.t) [d']
theorem ok_row (T:Txt K mg) (F:HasFn K mg "_law_row" s__law_row ["deck","size"]) (h_law_next:CallOk P w K mg base CX0 2 "_law_next" ["deck","many"] (spT K [true,false] tNext)) (h_law_number:CallOk P w K mg base CX0 3 "_law_number" ["deck"] (spT K [true] tNumber)):CallOk P w K mg base CX0 4 "_law_row" ["deck","size"] (spT K [true,false] tRow):=by
 refine F.okT sc__law_row [true,false] rfl (by decide) (fun args Qt hl h f cdv A outer s H E hr => ?_)
 have hu:=hu_of hr;obtain ⟨d,size,n,rfl,D,hn,hs,q⟩:=h;refine ⟨_,(Y.bcons (Y.set (i:=2) sc__law_row.nd rfl (by walk_at "lc") (Y.ix (Y.ix_G K rfl) Y.ro_ixS (Y.lst (Y.consts2 rfl rfl)) (Y.fn K rfl h_law_next (hr.mono (by decide)) rfl pass0 (Y.cons (Y.vS 0) (Y.cons Y.int Y.nil)))))
   (Y.bcons (Y.set (i:=3) sc__law_row.nd rfl (by walk_at "lc") (Y.ix (Y.ix_G K rfl) Y.ro_ixS Y.str (Y.fn K rfl h_law_next (hr.mono (by decide)) rfl pass0 (Y.cons (Y.vS 0) (Y.cons (Y.ix (Y.ix_G K rfl) Y.ro_ixS (Y.lst (Y.consts2 rfl rfl)) (Y.fn K rfl h_law_next (hr.mono (by decide)) rfl pass0 (Y.cons (Y.vS 0) (Y.cons Y.int Y.nil)))) Y.nil)))))
   (Y.bcons (Y.ifS (Y.tcmp (Y.op_eqG K rfl (Nat.lt_of_succ_lt hu)) Y.ro_eq (Y.vS 2) Y.str) (Y.bone (Y.ret (Y.tup (Y.cons (Y.vS 2) (Y.cons (Y.vS 3) (Y.cons (Y.fn K rfl h_law_number (hr.mono (by decide)) rfl pass0 (Y.cons (Y.vS 0) Y.nil)) Y.nil)))))) Y.bnil)
   (Y.bcons (Y.ifS (Y.tcmp (Y.op_inG K rfl) Y.ro_in (Y.vS 2) (Y.tup (Y.consts2 rfl rfl))) (Y.bone (Y.ret (Y.tup (Y.cons (Y.vS 2) (Y.cons (Y.vS 3) (Y.cons (Y.ix (Y.ix_G K rfl) Y.ro_ixS Y.str (Y.fn K rfl h_law_next (hr.mono (by decide)) rfl pass0 (Y.cons (Y.vS 0) (Y.cons (Y.ix (Y.ix_G K rfl) Y.ro_ixS (Y.lst (Y.consts2 rfl rfl)) (Y.fn K rfl h_law_next (hr.mono (by decide)) rfl pass0 (Y.cons (Y.vS 0) (Y.cons Y.int Y.nil)))) Y.nil)))) Y.nil)))))) Y.bnil)
   (Y.bcons (Y.ifS (Y.tcmp (Y.op_inG K rfl) Y.ro_in (Y.vS 2) (Y.tup (Y.consts2 rfl rfl))) (Y.bone (Y.ret (Y.tup (Y.cons (Y.vS 2) (Y.cons (Y.vS 3) Y.nil))))) Y.bnil)
   (Y.bcons (Y.ifS (Y.tcmp (Y.op_eqG K rfl (Nat.lt_of_succ_lt hu)) Y.ro_eq (Y.vS 2) Y.str) (Y.bone (Y.ret (Y.tup (Y.cons (Y.vS 2) Y.nil)))) Y.bnil)
   (Y.bcons (Y.set (i:=4) sc__law_row.nd rfl (by walk_at "lc") (Y.fn K rfl h_law_next (hr.mono (by decide)) rfl pass0 (Y.cons (Y.vS 0) (Y.cons (Y.op (Y.op_addG K rfl) Y.ro_addS (Y.vS 1) Y.int) Y.nil))))
   (Y.bone (Y.ret (Y.ix (Y.ix_G K rfl) Y.ro_ixS (Y.lst (Y.cons (Y.tup (Y.cons (Y.vS 2) (Y.cons (Y.vS 3) (Y.cons (Y.vS 4) Y.nil)))) (Y.cons (Y.tup (Y.cons (Y.vS 2) (Y.cons (Y.vS 4) Y.nil))) Y.nil))) (Y.ct ucall_int Y.rc_int rfl T.b_int (by decide +kernel) (Y.cons (Y.cmp (Y.op_eqG K rfl (Nat.lt_of_succ_lt hu)) Y.ro_eq (Y.vS 2) Y.str) Y.nil)))))))))))),?_⟩
 refine seqT fun N hN => ?_;walk_at "rt";refine ⟨by decide,d,17,n,rfl,D,by omega,by decide,by decide,fun c d1 c0 c1 D1 => ?_⟩
 obtain ⟨v,hv,ha⟩:=at_any (xs:=[.str "put",.str "put",.str "put",.str "add",.str "add",.str "sub",.str "sub",.str "copy",.str "tell",.str "tell",.str "tell",.str "hear",.str "hear",.str "jump",.str "zero",.str "zero",.str "halt"]) c0 c1;wp_walk using ha;clear ha c0 c1;rw [hN];clear hN N;have a8:∀ y:Int,0 <= y -> y < 2 -> ∃ x:Int,0 < x /\ x <= 8 /\ atI [L2.T.int 8,.int 2] y = some (.int x):=fun y h0 h1 => by
  obtain ⟨z,hz,e⟩:=at_any (xs:=[.int 8,.int 2]) h0 h1;simp only [List.mem_cons,List.not_mem_nil,or_false] at hz;rcases hz with rfl | rfl
  ·exact ⟨8,by decide,by decide,e⟩
  ·exact ⟨2,by decide,by decide,e⟩
 refine seqT fun N hN => ?_;walk_at "rt";refine ⟨by decide,d1,2,n + 1,rfl,D1,by omega,by decide,by decide,fun y d2 y0 y1 D2 => ?_⟩
 obtain ⟨x,x0,x1,hx⟩:=a8 y y0 y1;wp_walk using hx;refine ⟨d2,x,n + 2,rfl,D2,by omega,x0,by omega,fun b d3 b0 b1 D3 => ?_⟩
 have hb:=box_at b0 (show b < 8 by omega)
 wp_walk using hb;refine ⟨by decide +kernel,?_⟩
 rw [hN];clear hN N;obtain ⟨bn,rfl⟩:∃ bn:Nat,b = bn:=⟨b.toNat,by omega⟩
 have hb8:bn < 8:=by omega
 rw [Int.toNat_natCast];show Y.uSeq _ _ _ [.pb d3,.tr (.int (size:Nat)),.tr v,.tr (.str (boxS bn)),.un];have hv6:v = .str "put" \/ (∃ w,v = .str (w2 w)) \/ (∃ w,v = .str (w1 w)) \/ v = .str "halt" \/ v = .str "jump" \/ v = .str "zero":=by
  simp only [List.mem_cons,List.not_mem_nil,or_false] at hv;rcases hv with h | h | h | h | h | h | h | h | h | h | h | h | h | h | h | h | h <;> subst h <;> first | exact .inl rfl | exact .inr (.inl ⟨0,rfl⟩) | exact .inr (.inl ⟨1,rfl⟩) | exact .inr (.inl ⟨2,rfl⟩) | exact .inr (.inr (.inl ⟨0,rfl⟩)) | exact .inr (.inr (.inl ⟨1,rfl⟩)) | simp
 clear hv;refine seqT fun N hN => ?_;rcases hv6 with rfl | ⟨u,rfl⟩ | ⟨u,rfl⟩ | hv
 ·wp_walk using (show (Str.ofString "put" = Str.ofString "put") = True from eq_true rfl),if_true;refine ⟨d3,n + 3,rfl,D3,by omega,fun k d4 k0 k1 D4 => ?_⟩
  obtain ⟨kn,rfl⟩:∃ kn:Nat,k = kn:=⟨k.toNat,by omega⟩
  walk_at "rt";exact ⟨by decide,q (.put bn kn) d4 ⟨hb8,by omega⟩ (D4.mono (by omega))⟩
 ·have n1:∀ u,w2 u ≠ "put":=by decide +kernel
  have i1:∀ u,Y.inF (.str (w2 u)) [.str "add",.str "sub",.str "copy"] = true:=by decide +kernel
  wp_walk using if_neg (n1 u);rw [hN];clear hN N;refine seqT fun N hN => ?_;wp_walk using i1 u;refine ⟨by decide,rfl,rfl,by decide,d3,2,n + 3,rfl,D3,by omega,by decide,by decide,fun y d4 y0 y1 D4 => ?_⟩
  obtain ⟨x,x0,x1,hx⟩:=a8 y y0 y1;wp_walk using hx;refine ⟨d4,x,n + 4,rfl,D4,by omega,x0,by omega,fun c d5 c0 c1 D5 => ?_⟩
  have hc:=box_at c0 (show c < 8 by omega)
  wp_walk using hc;exact ⟨by decide +kernel,by decide,q (.two u bn c.toNat) d5 ⟨hb8,by omega⟩ (D5.mono (by omega))⟩
 ·have n1:∀ u,w1 u ≠ "put":=by decide +kernel
  have i1:∀ u,Y.inF (.str (w1 u)) [.str "add",.str "sub",.str "copy"] = false:=by decide +kernel
  have i2:∀ u,Y.inF (.str (w1 u)) [.str "tell",.str "hear"] = true:=by decide +kernel
  wp_walk using if_neg (n1 u);rw [hN];clear hN N;refine seqT fun N hN => ?_;wp_walk using i1 u;refine ⟨by decide,rfl,rfl,?_⟩
  rw [hN];clear hN N;refine seqT fun N hN => ?_;wp_walk using i2 u;exact ⟨by decide,rfl,rfl,by decide,q (.one u bn) d3 hb8 (D3.mono (by omega))⟩
 ·have n1:∀ z ∈ ([("halt"),("jump"),("zero")]:List Str),z ≠ "put" /\ Y.inF (.str z) [.str "add",.str "sub",.str "copy"] = false /\ Y.inF (.str z) [.str "tell",.str "hear"] = false:=by decide +kernel
  obtain ⟨z,hz,rfl⟩:∃ z ∈ ([("halt"),("jump"),("zero")]:List Str),v = .str z:=by rcases hv with rfl | rfl | rfl <;> exact ⟨_,by simp,rfl⟩
  obtain ⟨e1,e2,e3⟩:=n1 z hz;wp_walk using if_neg e1;rw [hN];clear hN N;refine seqT fun N hN => ?_;wp_walk using e2;refine ⟨by decide,rfl,rfl,?_⟩
  rw [hN];clear hN N;refine seqT fun N hN => ?_;wp_walk using e3;refine ⟨by decide,rfl,rfl,?_⟩
  rw [hN];clear hN N;refine seqT fun N hN => ?_;rcases hv with hv | hv
  ·cases hv;wp_walk using if_pos (rfl:Str.ofString "halt" = Str.ofString "halt");exact ⟨by decide,q .halt d3 trivial (D3.mono (by omega))⟩
  ·have nh:z ≠ "halt":=by rcases hv with hv | hv <;> cases hv <;> decide +kernel
   wp_walk using if_neg nh;rw [hN];clear hN N;refine seqT fun N hN => ?_;walk_at "rt";refine ⟨d3,(size:Int) + 1,n + 3,rfl,D3,by omega,by omega,by omega,fun g d4 g0 g1 D4 => ?_⟩
   obtain ⟨gn,rfl⟩:∃ gn:Nat,g = gn:=⟨g.toNat,by omega⟩
   walk_at "rt";rw [hN];clear hN N;rcases hv with hv | hv
   ·cases hv;walk_at "rt";exact ⟨by decide,by decide,by decide,q (.jump gn) d4 (show gn <= size by omega) (D4.mono (by omega))⟩
   ·cases hv;wp_walk using if_neg (show ¬ Str.ofString "zero" = Str.ofString "jump" by decide +kernel)
    exact ⟨by decide,by decide,by decide,q (.zero bn gn) d4 ⟨hb8,by omega⟩ (D4.mono (by omega))⟩
def pT (rs:List Row):List L2.T:=rs.map Row.t
theorem pT_len (rs:List Row):(pT rs).length = rs.length:=List.length_map ..
def tProg:TSp:=fun args Q => ∃ (d:L2.T) (most n:Nat),args = [d,.int (most:Nat)] /\ Deck n d /\ n < 2 ^ 40 /\ 1 <= most /\ most <= 60 /\ ∀ (rs:List Row) (d':L2.T),1 <= rs.length -> rs.length <= most -> (∀ r ∈ rs,r.Ok rs.length) -> Deck (n + 1000) d' -> Q (.tr (.tup (pT rs))) [d']
theorem ok_program (T:Txt K mg) (F:HasFn K mg "_law_program" s__law_program ["deck","most"]) (h_law_next:CallOk P w K mg base CX0 2 "_law_next" ["deck","many"] (spT K [true,false] tNext)) (h_law_row:CallOk P w K mg base CX0 4 "_law_row" ["deck","size"] (spT K [true,false] tRow)):CallOk P w K mg base CX0 5 "_law_program" ["deck","most"] (spT K [true,false] tProg):=by
 refine F.okT sc__law_program [true,false] rfl (by decide) (fun args Qt hl h f cdv A outer s H E hr => ?_)
 have hu:=hu_of hr;obtain ⟨d,most,n,rfl,D,hn,m1,m60,q⟩:=h;refine ⟨_,(Y.bcons (Y.set (i:=2) sc__law_program.nd rfl (by walk_at "lc") (Y.op (Y.op_addG K rfl) Y.ro_addS Y.int (Y.ix (Y.ix_G K rfl) Y.ro_ixS (Y.lst (Y.cons (Y.fn K rfl h_law_next (hr.mono (by decide)) rfl pass0 (Y.cons (Y.vS 0) (Y.cons (Y.vS 1) Y.nil))) (Y.cons (Y.fn K rfl h_law_next (hr.mono (by decide)) rfl pass0 (Y.cons (Y.vS 0) (Y.cons Y.int Y.nil))) (Y.cons (Y.fn K rfl h_law_next (hr.mono (by decide)) rfl pass0 (Y.cons (Y.vS 0) (Y.cons Y.int Y.nil))) (Y.cons (Y.op op_sub Y.ro_int0 (Y.vS 1) Y.int) Y.nil))))) (Y.fn K rfl h_law_next (hr.mono (by decide)) rfl pass0 (Y.cons (Y.vS 0) (Y.cons Y.int Y.nil))))))
   (Y.bcons (Y.set (i:=2) sc__law_program.nd rfl (by walk_at "lc") (Y.cb (ucall_min rfl) Y.rc_min rfl T.b_min (by decide +kernel) (Y.cons (Y.vS 2) (Y.cons (Y.vS 1) Y.nil))))
   (Y.bone (Y.ret (Y.ct (Y.call_tupG K rfl) Y.rc_tuple rfl T.b_tuple (by decide +kernel) (Y.cons (Y.comp1 (osc:=defScope s__law_program) (ON:=["deck","most","size"]) (own:=["k"]) (N:=["k","deck","most","size"]) ⟨rfl,by decide +kernel,rfl,by decide +kernel,by decide +kernel,by decide +kernel,by decide +kernel,by decide +kernel⟩ rfl rfl rfl rfl (Y.rng1 rfl T.b_range (Y.cons (Y.vS 2) Y.nil)) (fun _ _ _ _ => (Z.gname (i:=0) (show List.Nodup (["k","deck","most","size"]:List Str) by decide +kernel) rfl (by walk_at "lc"))) (fun _ _ _ _ => Y.ts0) (fun _ _ _ _ => (Y.fn K rfl h_law_row (hr.mono (by decide)) rfl pass0 (Y.cons (Y.vS 1) (Y.cons (Y.vS 3) Y.nil))))) Y.nil)))))),?_⟩
 refine seqT fun N hN => ?_;walk_at "rt";refine ⟨d,most,n,rfl,D,by omega,by omega,by omega,fun a d1 a0 a1 D1 => ?_⟩
 walk_at "rt";refine ⟨d1,6,n + 1,rfl,D1,by omega,by decide,by decide,fun b d2 b0 b1 D2 => ?_⟩
 walk_at "rt";refine ⟨d2,12,n + 2,rfl,D2,by omega,by decide,by decide,fun c d3 c0 c1 D3 => ?_⟩
 walk_at "rt";refine ⟨by decide,d3,4,n + 3,rfl,D3,by omega,by decide,by decide,fun y d4 y0 y1 D4 => ?_⟩
 obtain ⟨v,hv,ha⟩:=at_any (xs:=[.int a,.int b,.int c,.int ((most:Int) - 1)]) y0 y1;obtain ⟨z,z0,rfl⟩:∃ z:Int,0 <= z /\ v = .int z:=by
  simp only [List.mem_cons,List.not_mem_nil,or_false] at hv;rcases hv with rfl | rfl | rfl | rfl
  ·exact ⟨_,a0,rfl⟩
  ·exact ⟨_,b0,rfl⟩
  ·exact ⟨_,c0,rfl⟩
  ·exact ⟨_,by omega,rfl⟩
 wp_walk using ha;rw [hN];clear hN N;refine seqT fun N hN => ?_;walk_at "rt";obtain ⟨sz,hsz,s1,s2⟩:∃ sz:Nat,(if (most:Int) < 1 + z then (most:Int) else 1 + z) = sz /\ 1 <= sz /\ sz <= most:=by
  split
  ·exact ⟨most,rfl,m1,Nat.le_refl _⟩
  ·exact ⟨(1 + z).toNat,by omega,by omega,by omega⟩
 rw [hsz,hN];clear hN N;walk_at "rt";refine ⟨by omega,by omega,?_⟩
 refine cmp_ind (fun rest acc μ => ∃ (rs:List Row) (l:List Nat) (d':L2.T),acc = pT rs /\ (rest = l.map fun k => L2.T.int (0 + (k:Nat))) /\ rs.length + l.length = sz /\ (∀ r ∈ rs,r.Ok sz) /\ Deck (n + 4 + 10 * rs.length) d' /\ μ = [.pb d',.tr (.int (most:Nat)),.tr (.int (sz:Nat))]) ⟨[],List.range sz,d4,rfl,by rw [Int.toNat_natCast],by simp,by simp,D4,rfl⟩ ?_ ?_
 ·rintro acc μ ⟨rs,l,d',rfl,e,hl,hok,D',rfl⟩;have:l = []:=by simpa using e.symm
  subst this;have hl':rs.length = sz:=by simpa using hl
  refine ⟨trivial,?_⟩;walk_at "rt";exact q rs d' (by omega) (by omega) (by rw [hl'];exact hok) (D'.mono (by omega))
 ·rintro t r acc μ M ⟨rs,l,d',rfl,e,hl,hok,D',rfl⟩ k
  cases l with
  | nil => cases e
  | cons x l =>
   have e':t = .int (0 + (x:Nat)) /\ r = l.map fun k => L2.T.int (0 + (k:Nat)):=by simpa using e
   obtain ⟨rfl,rfl⟩:=e';have hl':rs.length + (l.length + 1) = sz:=hl;refine ⟨trivial,by rw [pT_len];exact Nat.lt_of_lt_of_le (show rs.length < 200000 by omega) szLine,?_⟩
   walk_at "rt";refine ⟨d',sz,n + 4 + 10 * rs.length,rfl,D',by omega,by omega,fun r d5 rok D5 => ?_⟩
   walk_at "rt";refine k _ _ ⟨rs ++ [r],l,d5,by unfold pT;simp,rfl,by simp;omega,fun x hx => ?_,D5.mono (by simp;omega),rfl⟩
   rcases List.mem_append.mp hx with h | h
   ·exact hok x h
   ·rw [List.mem_singleton.mp h];exact rok
def numS (n:Nat):Str:=Str.ofString (toString ((n:Nat):Int))
def Prt.x:Prt -> Str
 | .s z => z
 | .n k => numS k
def Row.line (r:Row):Str:=Str.join " " (r.ps.map Prt.x)
theorem cp_num (n:Nat):cp (numS n) = (Nat.toDigits 10 n).map Char.toNat:=PySem.W.KIN.signs_num n
theorem dg_len_mono:∀ (g n:Nat),n <= g -> (Nat.toDigits 10 n).length <= (Nat.toDigits 10 g).length:=by
 intro g
 induction g using Nat.strongRecOn with
 | _ g ih =>
  intro n hn;by_cases h:g < 10
  ·rw [Nat.toDigits_of_lt_base h,Nat.toDigits_of_lt_base (show n < 10 by omega)];exact Nat.le_refl _
  ·rw [Nat.toDigits_of_base_le (b:=10) (by decide) (by omega:10 <= g),List.length_append]
   by_cases h2:n < 10
   ·rw [Nat.toDigits_of_lt_base h2];simp
   ·rw [Nat.toDigits_of_base_le (b:=10) (by decide) (by omega:10 <= n),List.length_append]
    have:=ih (g / 10) (by omega) (n / 10) (by omega)
    simp only [List.length_cons,List.length_nil]
    omega
theorem starts0 (z:Str):Txt.startswith z "0" = true ↔ ∃ r,cp z = 48 :: r:=by
 have e:Txt.startswith z "0" = decide ([48] <+: cp z):=by
  unfold Txt.startswith;have e0:cp ("0":Str) = [48]:=by decide +kernel
  have e:Builtin.Str.subAt z "0" 0 = decide ((cp z).take 1 = [48]):=by
   unfold Builtin.Str.subAt;rw [Bool.eq_iff_iff,beq_iff_eq,decide_eq_true_eq,<- Array.toList_inj,Array.toList_extract,List.extract_eq_take_drop,List.drop_zero,<- e0];rfl
  rw [e,Bool.eq_iff_iff,Bool.and_eq_true,decide_eq_true_eq,decide_eq_true_eq,decide_eq_true_eq,List.prefix_iff_eq_take];refine ⟨fun h => h.2.symm,fun h => ⟨?_,h.symm⟩⟩;have:=congrArg List.length h;rw [List.length_take,cp_len] at this;have:("0":Str).length = 1:=by decide +kernel
  simp at *
  omega
 rw [e,decide_eq_true_eq];exact ⟨fun ⟨r,h⟩ => ⟨r,h.symm⟩,fun ⟨r,h⟩ => ⟨r,h.symm⟩⟩
theorem blank:(" ":Str) = ⟨#[32]⟩:=by decide +kernel
theorem lineEnd:("\n":Str) = ⟨#[10]⟩:=by decide +kernel
theorem jn_len (c:Nat):∀ ls:List (List Nat),(jn c ls).length <= (ls.map List.length).sum + ls.length
 | [] => Nat.le_refl _
 | [a] => by simp [jn]
 | a :: b :: r => by
  have ih:=jn_len c (b :: r);show (a ++ c :: jn c (b :: r)).length <= _;rw [List.length_append,List.length_cons,List.map_cons,List.sum_cons,List.length_cons]
  omega
theorem join_len (c:Nat) (xs:List Str):(Str.join ⟨#[c]⟩ xs).length <= (xs.map (·.length)).sum + xs.length:=by
 rw [<- cp_len,cp_join];have:=jn_len c (xs.map cp);have e:(xs.map cp).map List.length = xs.map (·.length):=by rw [List.map_map];exact List.map_congr_left fun z _ => cp_len z
 rw [e,List.length_map] at this;exact this
theorem w2_len:∀ u,(w2 u).length <= 4:=by decide +kernel
theorem w1_len:∀ u,(w1 u).length <= 4:=by decide +kernel
theorem num_len {n:Nat} (h:n <= 100000):(numS n).length <= 10:=len_small h
theorem parts_len {r:Row} (h:r.Ok 100000):((r.ps.map Prt.x).map (·.length)).sum <= 20 /\ r.ps.length <= 3:=by
 have b1:∀ b,(boxS b).length = 1:=fun b => rfl;have l1:(Str.ofString "put").length = 3 /\ (Str.ofString "jump").length = 4 /\ (Str.ofString "zero").length = 4 /\ (Str.ofString "halt").length = 4:=by decide +kernel
 cases r <;> simp only [Row.ps,List.map_cons,List.map_nil,Prt.x,List.sum_cons,List.sum_nil,b1,List.length_cons,List.length_nil,Row.Ok] at h ⊢
 case put b n => have:=num_len (show n <= 100000 by omega);omega
 case two u a b => have:=w2_len u;omega
 case one u b => have:=w1_len u;omega
 case jump g => have:=num_len h;omega
 case zero b g => have:=num_len h.2;omega
 case halt => omega
theorem line_len {r:Row} (h:r.Ok 100000):r.line.length <= 40:=by
 unfold Row.line;rw [blank];have:=join_len 32 (r.ps.map Prt.x);obtain ⟨h1,h2⟩:=parts_len h;rw [List.length_map] at this
 omega
def ptext (rs:List Row):Str:=Str.join "\n" (rs.map Row.line)
theorem lines_sum {rs:List Row} (h:∀ r ∈ rs,r.Ok 100000):((rs.map Row.line).map (·.length)).sum <= 40 * rs.length:=by
 induction rs with
 | nil => exact Nat.le_refl _
 | cons r rs ih =>
  have h1:=line_len (h r List.mem_cons_self);have h2:=ih fun x hx => h x (List.mem_cons_of_mem _ hx);rw [List.map_cons,List.map_cons,List.sum_cons,List.length_cons]
  omega
theorem ptext_len {rs:List Row} (h:∀ r ∈ rs,r.Ok 100000):(ptext rs).length <= 41 * rs.length:=by
 unfold ptext;rw [lineEnd];have h1:=join_len 10 (rs.map Row.line);have h2:=lines_sum h;rw [List.length_map] at h1
 omega
def tLine:TSp:=fun args Q => ∃ r:Row,args = [r.t] /\ r.Ok 100000 /\ Q (.tr (.str r.line)) []
theorem ok_line (T:Txt K mg) (F:HasFn K mg "_law_line" s__law_line ["row"]):CallOk P w K mg base CX0 1 "_law_line" ["row"] (spT K [false] tLine):=by
 refine F.okT sc__law_line [false] rfl (by decide) (fun args Qt hl h f cdv A outer s H E hr => ?_)
 have hu:=hu_of hr;obtain ⟨r,rfl,hok,q⟩:=h;refine ⟨_,(Y.bone (Y.ret (Y.sm K rfl PySem.F.slot_str_join PySem.F.type_str_join (Y.mt_joinG K rfl) Y.rm_join Y.str (Y.cons (Y.comp1 (osc:=defScope s__law_line) (ON:=["row"]) (own:=["part"]) (N:=["part","row"]) ⟨rfl,by decide +kernel,rfl,by decide +kernel,by decide +kernel,by decide +kernel,by decide +kernel,by decide +kernel⟩ rfl rfl rfl rfl (Y.anyS K rfl (Y.vS 0)) (fun _ _ _ _ => (Z.gname (i:=0) (show List.Nodup (["part","row"]:List Str) by decide +kernel) rfl (by walk_at "lc"))) (fun _ _ _ _ => Y.ts0) (fun _ _ _ _ => (Y.ct ucall_str Y.rc_str rfl T.b_str (by decide +kernel) (Y.cons (Y.vS 0) Y.nil)))) Y.nil)))),?_⟩
 have hb:∀ k,Prt.n k ∈ r.ps -> k <= 100000:=fun k hk => by
  cases r <;> simp only [Row.ps,Row.Ok,List.mem_cons,List.not_mem_nil,or_false,Prt.n.injEq,reduceCtorEq,false_or] at hk hok <;> omega
 obtain ⟨p1,p2⟩:=parts_len hok;unfold Row.t;walk_at "rt";refine cmp_ind (fun rest acc μ => ∃ a b:List Prt,r.ps = a ++ b /\ rest = b.map Prt.t /\ acc = sT (a.map Prt.x) /\ μ = [.tr r.t]) ⟨[],r.ps,rfl,rfl,rfl,rfl⟩ ?_ ?_
 ·rintro acc μ ⟨a,b,e,e2,rfl,rfl⟩;have:b = []:=by simpa using e2.symm
  subst this;rw [List.append_nil] at e;subst e;refine ⟨trivial,?_⟩;walk_at "rt";refine ⟨r.ps.map Prt.x,rfl,?_,q⟩;have:(Str.ofString " ").length = 1:=by decide +kernel
  rw [this,List.length_map]
  omega
 ·rintro t rr acc μ M ⟨a,b,e,e2,rfl,rfl⟩ k
  cases b with
  | nil => cases e2
  | cons x b =>
   have e2':t = x.t /\ rr = b.map Prt.t:=by simpa using e2
   obtain ⟨rfl,rfl⟩:=e2';have hl:=congrArg List.length e;simp at hl;refine ⟨trivial,by rw [sT_len,List.length_map];exact Nat.lt_of_lt_of_le (show a.length < 200000 by omega) szLine,?_⟩
   have go:M (sT (a.map Prt.x) ++ [.str x.x]) [.tr r.t]:=k _ _ ⟨a ++ [x],b,by rw [e];simp,rfl,by simp [sT],rfl⟩
   cases x with
   | s z =>
    walk_at "rt";exact go
   | n m =>
    walk_at "rt";exact ⟨log_small (hb m (by rw [e];simp)),go⟩
def tText:TSp:=fun args Q => ∃ rs:List Row,(args = [.tup (pT rs)] \/ args = [.lst (pT rs)]) /\ rs.length <= 200 /\ (∀ r ∈ rs,r.Ok 100000) /\ Q (.tr (.str (ptext rs))) []
theorem ok_text (T:Txt K mg) (F:HasFn K mg "_law_text" s__law_text ["program"]) (h_law_line:CallOk P w K mg base CX0 1 "_law_line" ["row"] (spT K [false] tLine)):CallOk P w K mg base CX0 2 "_law_text" ["program"] (spT K [false] tText):=by
 refine F.okT sc__law_text [false] rfl (by decide) (fun args Qt hl h f cdv A outer s H E hr => ?_)
 have hu:=hu_of hr;obtain ⟨rs,ha,hn,hok,q⟩:=h;refine ⟨_,(Y.bone (Y.ret (Y.sm K rfl PySem.F.slot_str_join PySem.F.type_str_join (Y.mt_joinG K rfl) Y.rm_join Y.str (Y.cons (Y.comp1 (osc:=defScope s__law_text) (ON:=["program"]) (own:=["row"]) (N:=["row","program"]) ⟨rfl,by decide +kernel,rfl,by decide +kernel,by decide +kernel,by decide +kernel,by decide +kernel,by decide +kernel⟩ rfl rfl rfl rfl (Y.anyS K rfl (Y.vS 0)) (fun _ _ _ _ => (Z.gname (i:=0) (show List.Nodup (["row","program"]:List Str) by decide +kernel) rfl (by walk_at "lc"))) (fun _ _ _ _ => Y.ts0) (fun _ _ _ _ => (Y.fn K rfl h_law_line (hr.mono (by decide)) rfl pass0 (Y.cons (Y.vS 0) Y.nil)))) Y.nil)))),?_⟩
 have key:∀ (d:Sl) (Q':R -> Mu -> Prop),(∀ acc,acc = sT (rs.map Row.line) -> Q' (.fr (.lst acc)) [d]) -> Y.uCmp none Y.own1 Y.dr1 (fun μ Q => Q true μ) (Y.uFn [false] tLine (Y.uCons (Y.uVarS 0) Y.uNil)) Q' (pT rs) [] [d]:=fun d Q' hq => by
  refine cmp_ind (fun rest acc μ => ∃ a b:List Row,rs = a ++ b /\ rest = pT b /\ acc = sT (a.map Row.line) /\ μ = [d]) ⟨[],rs,rfl,rfl,rfl,rfl⟩ ?_ ?_
  ·rintro acc μ ⟨a,b,e,e2,rfl,rfl⟩;have:b = []:=by simpa [pT] using e2.symm
   subst this;rw [List.append_nil] at e;subst e;exact ⟨trivial,hq _ rfl⟩
  ·rintro t rr acc μ M ⟨a,b,e,e2,rfl,rfl⟩ k
   cases b with
   | nil => cases e2
   | cons x b =>
    have e2':t = x.t /\ rr = pT b:=by simpa [pT] using e2
    obtain ⟨rfl,rfl⟩:=e2';have hl:=congrArg List.length e;simp at hl;refine ⟨trivial,by rw [sT_len,List.length_map];exact Nat.lt_of_lt_of_le (show a.length < 200000 by omega) szLine,?_⟩
    walk_at "rt";refine ⟨x,rfl,hok x (by rw [e];simp),?_⟩
    walk_at "rt";exact k _ _ ⟨a ++ [x],b,by rw [e];simp,rfl,by simp [sT],rfl⟩
 have fin:∀ acc,acc = sT (rs.map Row.line) -> ∃ ys:List Str,acc = ys.map L2.T.str /\ (ys.map (·.length)).sum + ys.length * (Str.ofString "\n").length <= 16777216 /\ Qt (.tr (.str (Str.join "\n" ys))) []:=fun acc e => by
  subst e;refine ⟨rs.map Row.line,rfl,?_,q⟩;have h1:(Str.ofString "\n").length = 1:=by decide +kernel
  have h2:=lines_sum hok;rw [h1,List.length_map]
  omega
 rcases ha with rfl | rfl
 ·walk_at "rt";exact key _ _ fun acc e => by walk_at "rt";exact fin acc e
 ·walk_at "rt";exact key _ _ fun acc e => by walk_at "rt";exact fin acc e
theorem ok_ini {C S f:Addr} {fd:FuncData} (x:XIni K C S f "row") (F:Fun K "__init__" "NoProgram.__init__" s_NoProgram___init__ f fd) (hS:mg "ShortError" = some (.ref S)):FnOk P w K mg base (CXW P w) 1 f fd ["self","row"] (spI C "row"):=by
 obtain ⟨oc,od,kV,doc,pm,an,cdv,ct,osl,rfl,lk,hcd⟩:=F.ex;refine fn_of (CX:=CXW P w) lk hcd sc_NoProgram___init__ (fun vs H Q E h => ?_) (fun A outer s H vs Q E hr h => ?_)
 ·obtain ⟨e,i,rfl,_⟩:=h;rfl
 ·obtain ⟨e,i,rfl,hi,he,q⟩:=h;have key:∃ t,QB (cxOf (CXW P w) P w K mg base ["self","row"] "NoProgram.__init__" (defScope s_NoProgram___init__) f cdv A outer s H E) (defBody s_NoProgram___init__) t /\ t { nx:=fun _ H' => Q .non H',rt:=Q } (start ["self","row"] [.ref e,.int i]) H:=by
   refine ⟨_,Z.bcons (Z.expr ⟨pe_ini (pl:=?pl) x ?g hS (Z.v 0) (Y.fstr (Y.jcon (Y.jint (Y.v 1) (Y.jcon Y.jnil)))) ?j ?e⟩) (Z.bone ⟨ps_ini x (Z.v 0) (Z.v 1)⟩),?_⟩
   case g => rfl
   case e => rfl
   case j =>
    intro i Q hi h;walk_at "rt";exact ⟨hi,h⟩
   refine ⟨e,i,rfl,hi,he,fun H' sm => ⟨e,i,rfl,sm _ _ he,fun H2 d a1 a2 a3 a4 => q H2 d (fun b o z n => a1 b o (sm _ _ z) n) a2 a3 ?_⟩⟩
   cases z:H d with
   | none => rfl
   | some o => rw [sm _ _ z] at a4;cases a4
  obtain ⟨t,hb,ht⟩:=key;exact ⟨t,hb.h,ht⟩
def lnAt (z:Str) (i:Nat):L2.T:=rdRow ((lns z)[i]?.getD "") (lns z).length
def tReadX (mg:Str -> Option Value):TSx:=fun args Q Et => ∃ z:Str,args = [.str z] /\ z.length <= 80000 /\ ((∀ i,i < (lns z).length -> lnAt z i ≠ .non) -> Q (.tr (.tup ((lns z).map fun l => rdRow l (lns z).length))) []) /\ ∀ p,p < (lns z).length -> lnAt z p = .non -> (∀ i,i < p -> lnAt z i ≠ .non) -> ∀ C,mg "NoProgram" = some (.ref C) -> Et (.exc (.ref C) (some ("row",((p:Nat):Int))))
theorem lnAt_is {z:Str} {i:Nat} (h:i < (lns z).length):lnAt z i = rdRow (lns z)[i] (lns z).length:=by unfold lnAt;rw [List.getElem?_eq_getElem h];rfl
theorem ok_readX (T:Txt K mg) (F:HasFn K mg "read_program" s_read_program ["text"]) (hread_row:CallOk P w K mg base CX0 4 "read_row" ["line","greatest_goal"] (spT K [false,false] tRdRow)):CallOk P w K mg base (CXW P w) 5 "read_program" ["text"] (spX K [false] (tReadX mg)):=by
 obtain ⟨C_ShortError,C_NoProgram,C_NoAsk,C_NoBits,C_NoCode,C_NoReach,C_NoRow,hC_ShortError,hC_NoProgram,hC_NoAsk,hC_NoBits,hC_NoCode,hC_NoReach,hC_NoRow,kC_ShortError,xC_NoProgram,p0,p1,p2,p3,p4,fI,fdI,xI_NoProgram,FI,bI_NoProgram,hd⟩:=T.xs;have nI_NoProgram:=ok_ini (P:=P) (w:=w) (mg:=mg) (base:=base) xI_NoProgram FI hC_ShortError;refine F.okX sc_read_program [false] rfl rfl (by decide) (fun args Qt Et hl h f cdv A outer s H E hr => ?_)
 have hu:=hu_of hr;obtain ⟨z,rfl,hz,q,qx⟩:=h;refine ⟨_,(Y.xbcons (Y.xst (Y.setF (i:=1) sc_read_program.nd rfl (by walk_at "lc") (Y.sm K rfl PySem.F.slot_str_split PySem.F.type_str_split mt_split Y.rm_split (Y.vS 0) (Y.cons Y.str Y.nil))))
   (Y.xbcons (Y.xst (Y.set (i:=2) sc_read_program.nd rfl (by walk_at "lc") (Y.lst Y.nil)))
   (Y.xbcons (Y.xforS PassesOwn.leaving rfl (Y.enumL K rfl rfl T.b_enumerate (Y.cons (Y.vS 1) Y.nil)) (Y.gtupS (n:=2) K rfl rfl (Y.gscons (Y.gname (i:=3) sc_read_program.nd rfl (by walk_at "lc")) (Y.gscons (Y.gname (i:=4) sc_read_program.nd rfl (by walk_at "lc")) Y.gsnil))) (Y.xbcons (Y.xst (Y.set (i:=5) sc_read_program.nd rfl (by walk_at "lc") (Y.fn K rfl hread_row (hr.mono (by decide)) rfl pass0 (Y.cons (Y.vS 4) (Y.cons (Y.cb (Y.call_lenG K rfl) Y.rc_lenS rfl T.b_len (by decide +kernel) (Y.cons (Y.vS 1) Y.nil)) Y.nil)))))
   (Y.xbcons (Y.xifS (Y.tcmp op_isN Y.ro_isN (Y.vS 5) Y.non) (Y.xbone (Y.xraiseI xI_NoProgram nI_NoProgram bI_NoProgram (hr.mono (by decide)) rfl rfl rfl hC_NoProgram (Y.vS 3))) Y.xbnil)
   (Y.xbone (Y.xst (Y.expr (Y.bm K rfl PySem.F.slot_list_append PySem.F.type_list_append mt_append Y.rm_append (Y.vS 2) (Y.cons (Y.vS 5) Y.nil))))))))
   (Y.xbone (Y.xst (Y.ret (Y.ct (Y.call_tupG K rfl) Y.rc_tuple rfl T.b_tuple (by decide +kernel) (Y.cons (Y.vS 2) Y.nil)))))))),?_⟩
 refine seqX fun N hN => ?_;walk_at "rt";have hsl:(lns z).length <= z.length + 2:=PyProof.Rows.split_le z "\n";refine ⟨by decide,Nat.le_trans hz (by decide),Nat.le_trans hsl (Nat.le_trans (by omega) szLine),?_⟩
 have hpl:∀ p ∈ lns z,p.length <= 80000:=fun p hp => Nat.le_trans (PyProof.Rows.part_short hp) hz;rw [hN];clear hN N;refine seqX fun N hN => ?_;walk_at "rt";rw [hN];clear hN N;refine seqX fun N hN => ?_;show Y.xFor _ _ _ _ _ [.tr (.str z),.tr (.lst (sT (lns z))),.bx (.lst []),.un,.un,.un];refine xfor_any fun body hbd => ?_;walk_at "rt";refine xfor_ind (fun rest μ => ∃ (i:Nat) (s3 s4 s5:Option L2.T),i <= (lns z).length /\ (∀ j,j < i -> lnAt z j ≠ .non) /\ rest = (pairs (sT (lns z))).drop i /\ μ = [.tr (.str z),.tr (.lst (sT (lns z))),.bx (.lst (((lns z).take i).map fun l => rdRow l (lns z).length)),sl s3,sl s4,sl s5]) ⟨0,none,none,none,Nat.zero_le _,fun j hj => absurd hj (Nat.not_lt_zero _),rfl,rfl⟩ ?_ ?_
 ·rintro μ ⟨i,s3,s4,s5,hi,hb,e,rfl⟩;have:i = (lns z).length:=by
   rcases Nat.lt_or_ge i (lns z).length with c | c
   ·rw [pairs_at i c] at e;cases e
   ·omega
  subst this;show N _;rw [hN];clear hN N;walk_at "rt";rw [List.take_of_length_le (Nat.le_refl _)];exact q hb
 ·rintro t ts μ M ⟨i,s3,s4,s5,hi,hb,e,rfl⟩ k;rcases Nat.lt_or_ge i (lns z).length with c | c
  ·rw [pairs_at i c] at e;obtain ⟨rfl,rfl⟩:=List.cons.inj e;walk_at "rt";rw [hbd];have hm:(lns z)[i] ∈ lns z:=List.getElem_mem c;refine seqX fun M' hM => ?_;wp_walk using sT_len;refine ⟨(lns z)[i],(lns z).length,rfl,Nat.le_trans (hpl _ hm) (by decide),by omega,?_⟩
   rcases rdRow_is (lns z)[i] (lns z).length with ex | ⟨xs,ex⟩
   ·rw [ex];walk_at "rt";rw [hM];clear hM M';refine seqX fun M' hM => ?_;walk_at "rt";refine ⟨Nat.lt_of_le_of_lt (show ((i:Nat):Int).natAbs <= 100000 by rw [Int.natAbs_natCast];omega) (Nat.lt_of_lt_of_le (by decide:100000 < 2 ^ 17) (Nat.pow_le_pow_right (by decide) (by decide))),qx i c (by rw [lnAt_is c];exact ex) hb C_NoProgram hC_NoProgram⟩
   ·rw [ex];walk_at "rt";rw [hM];clear hM M';refine seqX fun M' hM => ?_;walk_at "rt";rw [hM];clear hM M';wp_walk using List.length_map,List.length_take;refine ⟨Nat.lt_of_lt_of_le (show min i (lns z).length < 200000 by omega) szLine,?_⟩
    have e3:((lns z).take i).map (fun l => rdRow l (lns z).length) ++ [.tup xs] = ((lns z).take (i + 1)).map fun l => rdRow l (lns z).length:=by
     rw [List.take_succ_eq_append_getElem c,List.map_append,List.map_cons,List.map_nil,ex]
    rw [e3];refine k _ ⟨i + 1,some _,some _,some _,c,fun j hj => ?_,rfl,rfl⟩;rcases Nat.lt_or_ge j i with c2 | c2
    ·exact hb j c2
    ·have:j = i:=by omega
     subst this;rw [lnAt_is c,ex];intro z;cases z
  ·rw [pairs_end i c] at e;cases e
def figO (z:Str):Option Nat:=if numB z = true then some (valN z) else none
def tFig:TSp:=fun args Q => ∃ z:Str,args = [.str z] /\ z.length <= 100000 /\ Q (.tr (oI (figO z))) []
theorem find_fig {c:Nat} (h0:48 <= c) (h1:c <= 57):Txt.find "0123456789" ⟨#[c]⟩ = ((c - 48:Nat):Int):=by
 have key:∀ i:Fin 10,Txt.find "0123456789" ⟨#[48 + i.val]⟩ = ((i.val:Nat):Int):=by decide +kernel
 have:=key ⟨c - 48,by omega⟩
 simp only at this;rw [show 48 + (c - 48) = c by omega] at this
 exact this
theorem fig_none {z:Str} (h:numB z = false):figO z = none:=by unfold figO;rw [h];rfl
theorem fig_some {z:Str} (h:numB z = true):figO z = some (valN z):=by unfold figO;rw [h];rfl
theorem one_sign (c d:Nat):(Str.mk #[c] = Str.mk #[d]) ↔ c = d:=by simp
theorem ok_fig (T:Txt K mg) (F:HasFn K mg "_law_figures" s__law_figures ["word"]):CallOk P w K mg base CX0 1 "_law_figures" ["word"] (spT K [false] tFig):=by
 refine F.okT sc__law_figures [false] rfl (by decide) (fun args Qt hl h f cdv A outer s H E hr => ?_)
 have hu:=hu_of hr;obtain ⟨z,rfl,hz,q⟩:=h;refine ⟨_,(Y.bcons (Y.set (i:=1) sc__law_figures.nd rfl (by walk_at "lc") Y.int)
   (Y.bcons (Y.forS PassesOwn.never rfl (Y.itS (Y.vS 0)) (Y.gname (i:=2) sc__law_figures.nd rfl (by walk_at "lc")) (Y.bcons (Y.ifS (Y.tcmp (Y.op_ninG K rfl) Y.ro_in (Y.vS 2) Y.str) (Y.bone (Y.ret Y.non)) Y.bnil)
   (Y.bone (Y.set (i:=1) sc__law_figures.nd rfl (by walk_at "lc") (Y.op (Y.op_addG K rfl) Y.ro_addS (Y.op (Y.op_mulG K rfl) Y.ro_mulT Y.int (Y.vS 1)) (Y.sm K rfl PySem.F.slot_str_find PySem.F.type_str_find Y.mt_find Y.rm_find Y.str (Y.cons (Y.vS 2) Y.nil)))))))
   (Y.bcons (Y.ifS (Y.tw (Y.wor (Y.tcmp (Y.op_eqG K rfl (Nat.lt_of_succ_lt hu)) Y.ro_eq (Y.vS 0) Y.str) (Y.wor1 (Y.tw (Y.wand (Y.tcmp op_gt Y.ro_bl (Y.cb (Y.call_lenG K rfl) Y.rc_lenS rfl T.b_len (by decide +kernel) (Y.cons (Y.vS 0) Y.nil)) Y.int) (Y.wand1 (Y.tcmp (Y.op_eqG K rfl (Nat.lt_of_succ_lt hu)) Y.ro_eq (Y.ix (Y.ix_G K rfl) Y.ro_ixS (Y.vS 0) Y.int) Y.str))))))) (Y.bone (Y.ret Y.non)) Y.bnil)
   (Y.bone (Y.ret (Y.vS 1)))))),?_⟩
 refine seqT fun N hN => ?_;walk_at "rt";rw [hN];clear hN N;refine seqT fun N hN => ?_;walk_at "rt";refine for_ind (fun rest μ => ∃ (a b:List Nat) (s2:Option L2.T),cp z = a ++ b /\ (rest = b.map fun c => L2.T.str ⟨#[c]⟩) /\ NumText.AllDigits a /\ μ = [.tr (.str z),.tr (.int (NumText.digitsVal a:Nat)),sl s2]) ⟨[],cp z,none,rfl,cp_signs z,(fun c (hc:c ∈ []) => nomatch hc),rfl⟩ ?_ ?_
 ·rintro μ ⟨a,b,s2,e,e2,hd,rfl⟩;have hb:b = []:=by simpa using e2.symm
  subst hb;rw [List.append_nil] at e;subst e;show N _;rw [hN];clear hN N;have hdg:digB z = true:=digB_all.mpr hd;refine seqT fun N hN => ?_;by_cases h0:z = ""
  ·wp_walk using if_pos h0;rw [fig_none (by unfold numB;rw [decide_eq_true h0];rfl)] at q
   exact q
  ·wp_walk using if_neg h0;by_cases h1:(1:Int) < (z.length:Int)
   ·wp_walk using if_pos h1;have hzl:z.length <= sizeLine:=Nat.le_trans hz (Nat.le_trans (by decide) szLine)
    obtain ⟨c,r,ec⟩:∃ c r,cp z = c :: r:=by
     cases ez:cp z with
     | nil => exact absurd ez (str_ne h0)
     | cons c r => exact ⟨c,r,rfl⟩
    have ea:atI z.cps.toList 0 = some c:=by
     show atI (cp z) 0 = some c;rw [ec];unfold atI ixN;simp
    refine ⟨hzl,?_⟩;rw [ea];refine ⟨hzl,?_⟩;have hz1:z ≠ "0":=fun e => by
     rw [e] at h1;exact absurd h1 (by decide)
    have hn:numB z = !Txt.startswith z "0":=by unfold numB;rw [hdg,decide_eq_false h0,decide_eq_false hz1];simp
    have hs0:=starts0 z;by_cases h2:c = 48
    ·have e0:(⟨#[c]⟩:Str) = "0":=by rw [h2];decide +kernel
     wp_walk using decide_eq_true e0;rw [fig_none (by rw [hn,hs0.mpr ⟨r,by rw [ec,h2]⟩];rfl)] at q
     exact q
    ·have e0:¬ (⟨#[c]⟩:Str) = "0":=fun e => h2 (by rw [show (("0":Str)) = ⟨#[48]⟩ by decide +kernel] at e;exact (one_sign c 48).mp e)
     wp_walk using decide_eq_false e0;have h3:Txt.startswith z "0" = false:=by
      cases hh:Txt.startswith z "0" with
      | false => rfl
      | true => obtain ⟨r',e'⟩:=hs0.mp hh;rw [ec] at e';exact absurd (List.cons.inj e').1 h2
     rw [hN];clear hN N;walk_at "rt";rw [fig_some (by rw [hn,h3];rfl)] at q
     exact q
   ·wp_walk using if_neg h1;refine ⟨Nat.le_trans hz (Nat.le_trans (by decide) szLine),?_⟩
    rw [hN];clear hN N;walk_at "rt";obtain ⟨c,ec⟩:∃ c,cp z = [c]:=by
     have hl:=cp_len z
     cases ez:cp z with
     | nil => exact absurd ez (str_ne h0)
     | cons c r =>
      cases r with
      | nil => exact ⟨c,rfl⟩
      | cons d r => rw [ez] at hl;simp at hl;omega
    have hn:numB z = true:=by
     unfold numB;rw [hdg,decide_eq_false h0];by_cases h2:c = 48
     ·rw [decide_eq_true (cp_inj (by rw [ec,h2];rfl))];rfl
     ·have h3:Txt.startswith z "0" = false:=by
       cases hh:Txt.startswith z "0" with
       | false => rfl
       | true => obtain ⟨r',e'⟩:=(starts0 z).mp hh;rw [ec] at e';exact absurd (List.cons.inj e').1 h2
      rw [h3];simp
    rw [fig_some hn] at q;exact q
 ·rintro t r μ M ⟨a,b,s2,e,e2,hd,rfl⟩ k
  cases b with
  | nil => cases e2
  | cons c b =>
   have e2':t = L2.T.str ⟨#[c]⟩ /\ r = b.map fun c => L2.T.str ⟨#[c]⟩:=by simpa using e2
   obtain ⟨rfl,rfl⟩:=e2';walk_at "rt";refine seqT fun M' hM => ?_;by_cases hc:48 <= c /\ c <= 57
   ·wp_walk using occ_fig,decide_eq_true hc;rw [hM];clear hM M';wp_walk using find_fig hc.1 hc.2;refine ⟨Or.inl (by decide),?_⟩
    have hv:(10:Int) * ((NumText.digitsVal a:Nat):Int) + ((c - 48:Nat):Int) = ((NumText.digitsVal (a ++ [c]):Nat):Int):=by
     rw [NumText.digitsVal_snoc];omega
    rw [hv];exact k _ ⟨a ++ [c],b,some _,by rw [e];simp,rfl,fun d hd' => by
     rcases List.mem_append.mp hd' with h | h
     ·exact hd d h
     ·rw [List.mem_singleton.mp h];exact hc,rfl⟩
   ·wp_walk using occ_fig,decide_eq_false hc;have hn:numB z = false:=by
     have:digB z = false:=by
      cases hdz:digB z with
      | false => rfl
      | true => exact absurd (digB_all.mp hdz c (by rw [e];simp)) hc
     unfold numB;rw [this];simp
    rw [fig_none hn] at q;exact q
def sg (k:Str):Nat:=if k = "box" then 98 else if k = "number" then 110 else 103
def sigOf (ks:List Str):Str:=⟨(ks.map sg).toArray⟩
theorem sig_signs (ks:List Str):signsT (sigOf ks) = ks.map fun k => L2.T.str ⟨#[sg k]⟩:=by
 rw [cp_signs];unfold sigOf;rw [cp_mk,List.map_map];rfl
theorem sig_len (ks:List Str):(sigOf ks).length = ks.length:=by rw [<- cp_len];unfold sigOf;rw [cp_mk,List.length_map]
theorem sg_small (k:Str):sg k < 128:=by unfold sg;split;decide;split <;> decide
theorem sig_small (ks:List Str):(sigOf ks).cps.all (· < 128) = true:=by
 rw [Array.all_eq_true'];intro c hc;have:c ∈ cp (sigOf ks):=by unfold cp;exact Array.mem_toList_iff.mpr hc
 unfold sigOf at this;rw [cp_mk] at this;obtain ⟨k,_,rfl⟩:=List.mem_map.mp this
 simpa using sg_small k
theorem look_dat (f:List Str -> L2.T) (w:Str):∀ l:List (Str × List Str),lookT (.inr w:Key) (l.map fun p => .inr p.1) (l.map fun p => f p.2) = (KTD.datumAt w l).map f
 | [] => rfl
 | (k,ks) :: l => by
  have ih:=look_dat f w l;simp only [List.map_cons,lookT,KTD.datumAt];by_cases h:k = w
  ·rw [if_pos (by rw [h]),if_pos (by simp [h])];rfl
  ·rw [if_neg (fun e => h (Sum.inr.inj e)),if_neg (by simpa using fun e:w = k => h e.symm),ih]
def KK:List Key:=shapes.map fun p => .inr p.1
def VV:List L2.T:=shapes.map fun p => .str (sigOf p.2)
theorem look_sh (w:Str):lookT (.inr w:Key) KK VV = (KTD.datumAt w shapes).map fun ks => .str (sigOf ks):=look_dat (fun ks => .str (sigOf ks)) w shapes
theorem num_short {z:Str} {g:Nat} (h:numB z = true) (hv:valN z <= g):z.length <= (numS g).length:=by
 have h':=h;unfold numB at h;simp only [Bool.and_eq_true,Bool.not_eq_true',decide_eq_false_iff_not,Bool.or_eq_true,decide_eq_true_eq] at h;obtain ⟨⟨h0,hd⟩,hs⟩:=h;have hne:=str_ne h0;obtain ⟨c,r,ec⟩:∃ c r,cp z = c :: r:=by
  cases ez:cp z with
  | nil => exact absurd ez hne
  | cons c r => exact ⟨c,r,rfl⟩
 have key:Nat.toDigits 10 (valN z) = (cp z).map Char.ofNat:=by
  refine NumText.toDigits_digitsVal r.length (cp z) (by rw [ec];rfl) (digB_all.mp hd) ?_
  rcases hs with e | e
  ·left
   have:(cp z).length = 1:=by rw [e];decide +kernel
   rw [ec] at this;simpa using this
  ·right
   refine ⟨c,r,ec,?_⟩;have h1:=digB_all.mp hd c (by rw [ec];simp)
   have h2:c ≠ 48:=fun e2 => by
    have:=(starts0 z).mpr ⟨r,by rw [ec,e2]⟩
    rw [this] at e;cases e
   have:48 <= c /\ c <= 57:=h1
   omega
 have l1:=dg_len_mono g (valN z) hv;have l2:(cp (numS g)).length = (Nat.toDigits 10 g).length:=by rw [cp_num,List.length_map]
 rw [key,List.length_map,cp_len] at l1;rw [cp_len] at l2
 omega
theorem rdNum_fig (z:Str) (g:Nat):rdNum z g = match figO z with
  | none => none
  | some v => if v <= g then some v else none:=by
 unfold figO
 cases h:numB z with
 | false => unfold rdNum;rw [if_neg (by rw [h];simp)];rfl
 | true =>
  show _ = if valN z <= g then some (valN z) else none
  by_cases hv:valN z <= g
  ·unfold rdNum;rw [if_pos ⟨h,num_short h hv⟩]
  ·unfold rdNum;rw [if_neg hv];split
   ·rfl
   ·rfl
theorem box_signs (z:Str):Y.inF (.str z) (signsT "abcdefgh") = boxB z:=rfl
def tReading:TSp:=fun args Q => ∃ (z:Str) (g:Nat),args = [.str z,.int (g:Nat)] /\ z.length <= 90000 /\ g <= 100000 /\ Q (.tr (rdRow z g)) []
theorem ok_reading (T:Txt K mg) (F:HasFn K mg "_law_reading" s__law_reading ["line","lines"]) (h_law_figures:CallOk P w K mg base CX0 1 "_law_figures" ["word"] (spT K [false] tFig)):CallOk P w K mg base CX0 2 "_law_reading" ["line","lines"] (spT K [false,false] tReading):=by
 refine F.okT sc__law_reading [false,false] rfl (by decide) (fun args Qt hl h f cdv A outer s H E hr => ?_)
 have hu:=hu_of hr;obtain ⟨z,g,rfl,hz,hg,q⟩:=h;refine ⟨_,(Y.bcons (Y.set (i:=2) sc__law_reading.nd rfl (by walk_at "lc") (Y.sm K rfl PySem.F.slot_str_split PySem.F.type_str_split mt_split Y.rm_split (Y.vS 0) (Y.cons Y.str Y.nil)))
   (Y.bcons (Y.set (i:=3) sc__law_reading.nd rfl (by walk_at "lc") (Y.disp (Y.pcons (Y.pcons (Y.pcons (Y.pcons (Y.pcons (Y.pcons (Y.pcons Y.pnil)))))))))
   (Y.bcons (Y.dput hu Y.str (Y.vS 3) Y.str)
   (Y.bcons (Y.dput hu Y.str (Y.vS 3) Y.str)
   (Y.bcons (Y.ifS (Y.tw (Y.wor (Y.tcmp (Y.op_ninDc hu) Y.ro_inDc (Y.ix (Y.ix_G K rfl) Y.ro_ixS (Y.vS 2) Y.int) (Y.vS 3)) (Y.wor1 (Y.tcmp (Y.op_neG K rfl (Nat.lt_of_succ_lt hu)) Y.ro_neG (Y.cb (Y.call_lenG K rfl) Y.rc_lenS rfl T.b_len (by decide +kernel) (Y.cons (Y.vS 2) Y.nil)) (Y.op (Y.op_addG K rfl) Y.ro_addS Y.int (Y.cb (Y.call_lenG K rfl) Y.rc_lenS rfl T.b_len (by decide +kernel) (Y.cons (Y.ixD (hs:=fun _ _ => rfl) hu (Y.vS 3) (Y.ix (Y.ix_G K rfl) Y.ro_ixS (Y.vS 2) Y.int)) Y.nil))))))) (Y.bone (Y.ret Y.non)) Y.bnil)
   (Y.bcons (Y.set (i:=4) sc__law_reading.nd rfl (by walk_at "lc") (Y.sliceS K rfl (Y.vS 2) Y.po0 (Y.po1 Y.int)))
   (Y.bcons (Y.forS PassesOwn.never rfl (Y.zipS K rfl rfl T.b_zip (Y.cons (Y.sliceS K rfl (Y.vS 2) (Y.po1 Y.int) Y.po0) (Y.cons (Y.ixD (hs:=fun _ _ => rfl) hu (Y.vS 3) (Y.ix (Y.ix_G K rfl) Y.ro_ixS (Y.vS 2) Y.int)) Y.nil))) (Y.gtupS (n:=2) K rfl rfl (Y.gscons (Y.gname (i:=5) sc__law_reading.nd rfl (by walk_at "lc")) (Y.gscons (Y.gname (i:=6) sc__law_reading.nd rfl (by walk_at "lc")) Y.gsnil))) (Y.bcons (Y.set (i:=7) sc__law_reading.nd rfl (by walk_at "lc") (Y.vS 5))
   (Y.bcons (Y.ifS (Y.tcmp (Y.op_neG K rfl (Nat.lt_of_succ_lt hu)) Y.ro_neG (Y.vS 6) Y.str) (Y.bone (Y.set (i:=7) sc__law_reading.nd rfl (by walk_at "lc") (Y.fn K rfl h_law_figures (hr.mono (by decide)) rfl pass0 (Y.cons (Y.vS 5) Y.nil)))) Y.bnil)
   (Y.bcons (Y.ifS (Y.tw (Y.wor (Y.tcmp op_isN Y.ro_isN (Y.vS 7) Y.non) (Y.wor1 (Y.tw (Y.wand (Y.tcmp (Y.op_eqG K rfl (Nat.lt_of_succ_lt hu)) Y.ro_eq (Y.vS 6) Y.str) (Y.wand1 (Y.tcmp (Y.op_ninG K rfl) Y.ro_in (Y.vS 7) (Y.ct (Y.call_listS rfl) Y.rc_listS rfl T.b_list (by decide +kernel) (Y.cons Y.str Y.nil))))))))) (Y.bone (Y.ret Y.non)) Y.bnil)
   (Y.bcons (Y.ifS (Y.tw (Y.wor (Y.tw (Y.wand (Y.tcmp (Y.op_eqG K rfl (Nat.lt_of_succ_lt hu)) Y.ro_eq (Y.vS 6) Y.str) (Y.wand1 (Y.tcmp op_gt Y.ro_bl (Y.vS 7) Y.int)))) (Y.wor1 (Y.tw (Y.wand (Y.tcmp (Y.op_eqG K rfl (Nat.lt_of_succ_lt hu)) Y.ro_eq (Y.vS 6) Y.str) (Y.wand1 (Y.tcmp op_gt Y.ro_bl (Y.vS 7) (Y.vS 1)))))))) (Y.bone (Y.ret Y.non)) Y.bnil)
   (Y.bone (Y.expr (Y.bm K rfl PySem.F.slot_list_append PySem.F.type_list_append mt_append Y.rm_append (Y.vS 4) (Y.cons (Y.vS 7) Y.nil)))))))))
   (Y.bone (Y.ret (Y.ct (Y.call_tupG K rfl) Y.rc_tuple rfl T.b_tuple (by decide +kernel) (Y.cons (Y.vS 4) Y.nil))))))))))),?_⟩
 refine seqT fun N hN => ?_;walk_at "rt";have hsl:=PyProof.Rows.split_le z " ";refine ⟨by decide,Nat.le_trans hz (by decide),Nat.le_trans hsl (Nat.le_trans (by omega) szLine),?_⟩
 have hpl:∀ p ∈ Txt.split z " ",p.length <= 90000:=fun p hp => Nat.le_trans (PyProof.Rows.part_short hp) hz;have hne:=PyProof.Rows.split_pos z " ";unfold rdRow at q;generalize Txt.split z " " = ws at *
 cases ws with
 | nil => exact absurd hne (by decide)
 | cons w ps =>
  rw [hN];clear hN N;refine seqT fun N hN => ?_;walk_at "rt";rw [hN];clear hN N;refine seqT fun N hN => ?_;walk_at "rt";refine ⟨by decide,?_⟩
  rw [hN];clear hN N;refine seqT fun N hN => ?_;walk_at "rt";have eK:putKs (Sum.inr (Str.ofString "halt")) (putKs (Sum.inr (Str.ofString "zero")) [Sum.inr (Str.ofString "put"),Sum.inr (Str.ofString "add"),Sum.inr (Str.ofString "sub"),Sum.inr (Str.ofString "copy"),Sum.inr (Str.ofString "tell"),Sum.inr (Str.ofString "hear"),Sum.inr (Str.ofString "jump")]) = KK:=by decide +kernel
  have eL:(putKs (Sum.inr (Str.ofString "zero")) [Sum.inr (Str.ofString "put"),Sum.inr (Str.ofString "add"),Sum.inr (Str.ofString "sub"),Sum.inr (Str.ofString "copy"),Sum.inr (Str.ofString "tell"),Sum.inr (Str.ofString "hear"),Sum.inr (Str.ofString "jump")]) = KK.take 8:=by decide +kernel
  have eV:putVs (Sum.inr (Str.ofString "halt")) (L2.T.str (Str.ofString "")) (KK.take 8) (putVs (Sum.inr (Str.ofString "zero")) (L2.T.str (Str.ofString "bg")) [Sum.inr (Str.ofString "put"),Sum.inr (Str.ofString "add"),Sum.inr (Str.ofString "sub"),Sum.inr (Str.ofString "copy"),Sum.inr (Str.ofString "tell"),Sum.inr (Str.ofString "hear"),Sum.inr (Str.ofString "jump")] [L2.T.str (Str.ofString "bn"),L2.T.str (Str.ofString "bb"),L2.T.str (Str.ofString "bb"),L2.T.str (Str.ofString "bb"),L2.T.str (Str.ofString "b"),L2.T.str (Str.ofString "b"),L2.T.str (Str.ofString "g")]) = VV:=rfl;rw [eK,eL,eV];refine ⟨by decide,?_⟩
  rw [hN];clear hN N;refine seqT fun N hN => ?_;have a0:∀ xs:List L2.T,atI (.str w :: xs) 0 = some (.str w):=fun xs => by unfold atI ixN;simp
  wp_walk using a0,look_sh;have hpl2:∀ p ∈ ps,p.length <= 90000:=fun p hp => hpl p (List.mem_cons_of_mem _ hp)
  cases hd:KTD.datumAt w shapes with
  | none =>
   rw [rdW_none hd] at q;wp_walk using Option.isSome_none;exact q
  | some ks =>
   have q':=q;rw [rdW_some hd] at q';clear q;have hk2:=shapes_len hd;wp_walk using Option.isSome_some,sig_len;refine ⟨Nat.le_trans (show ks.length <= 200000 by omega) szLine,?_⟩
   by_cases hl:ps.length = ks.length
   ·rw [if_pos hl] at q';rw [if_neg (by omega),hN];clear hN N
    refine seqT fun N hN => ?_;have e4:Y.cutG (.str w :: sT ps:List L2.T) none (some 1) = [.str w]:=by
     unfold Y.cutG;rw [HT.sIx_none,show (some (1:Int)) = some ((1:Nat):Int) from rfl,HT.sIx_nat];simp only [List.length_cons,List.drop_zero];rw [Nat.min_eq_left (by omega)]
     rfl
    have e3:Y.cutG (.str w :: sT ps:List L2.T) (some 1) none = sT ps:=by
     show Y.cutG (sT (w :: ps)) (some 1) none = sT ps;unfold Y.cutG;rw [HT.sIx_none,show (some (1:Int)) = some ((1:Nat):Int) from rfl,HT.sIx_nat];simp only [sT,List.map_cons,List.length_cons,List.length_map];rw [Nat.min_eq_left (by omega)]
     exact List.take_of_length_le (by simp)
    rw [show List.map L2.T.str ps = sT ps from rfl];wp_walk using e4;rw [hN];clear hN N;refine seqT fun N hN => ?_;wp_walk using e3,a0,look_sh,hd;refine ⟨sig_small ks,?_⟩;rw [sig_signs];refine for_ind (fun rest μ => ∃ (ks1 ps1 ks2 ps2:List Str) (s5 s6 s7:Option L2.T),ks = ks1 ++ ks2 /\ ps = ps1 ++ ps2 /\ ks1.length = ps1.length /\ ks2.length = ps2.length /\ rest = zipT (sT ps2) (ks2.map fun k => L2.T.str ⟨#[sg k]⟩) /\ (vals g ks1 ps1).any nonB = false /\ μ = [.tr (.str z),.tr (.int (g:Nat)),.bx (.lst (.str w :: sT ps)),.bx (.dic KK VV),.bx (.lst (.str w :: vals g ks1 ps1)),sl s5,sl s6,sl s7]) ⟨[],[],ks,ps,none,none,none,rfl,rfl,rfl,hl.symm,rfl,rfl,rfl⟩ ?_ ?_
    ·rintro μ ⟨ks1,ps1,ks2,ps2,s5,s6,s7,ek,ep,l1,l2,er,hn,rfl⟩;have h2:ks2 = [] /\ ps2 = []:=by
      cases ks2 with
      | nil => exact ⟨rfl,by cases ps2 with | nil => rfl | cons => cases l2⟩
      | cons k ks2 => cases ps2 with
       | nil => cases l2
       | cons p ps2 => cases er
     obtain ⟨rfl,rfl⟩:=h2;rw [List.append_nil] at ek ep;subst ek ep;show N _;rw [hN];clear hN N;walk_at "rt";rw [if_neg (by rw [hn];decide)] at q'
     exact q'
    ·rintro t r μ M ⟨ks1,ps1,ks2,ps2,s5,s6,s7,ek,ep,l1,l2,er,hn,rfl⟩ k
     cases ks2 with
     | nil => cases ps2 with
      | nil => cases er
      | cons => cases l2
     | cons k2 ks2 => cases ps2 with
      | nil => cases l2
      | cons p2 ps2 =>
       have er':t = .tup [.str p2,.str ⟨#[sg k2]⟩] /\ r = zipT (sT ps2) (ks2.map fun k => L2.T.str ⟨#[sg k]⟩):=by
        have:t :: r = .tup [.str p2,.str ⟨#[sg k2]⟩] :: zipT (sT ps2) (ks2.map fun k => L2.T.str ⟨#[sg k]⟩):=er;exact ⟨(List.cons.inj this).1,(List.cons.inj this).2⟩
       obtain ⟨rfl,rfl⟩:=er';have vl:(vals g ks1 ps1).length <= 2:=by
        unfold vals;rw [List.length_zipWith];have:=congrArg List.length ek;simp at this
        omega
       have ev:vals g (ks1 ++ [k2]) (ps1 ++ [p2]) = vals g ks1 ps1 ++ [rdPart k2 p2 g]:=by
        unfold vals;rw [List.zipWith_append l1];rfl
       have eall:vals g ks ps = vals g ks1 ps1 ++ rdPart k2 p2 g :: vals g ks2 ps2:=by
        rw [ek,ep];unfold vals;rw [List.zipWith_append l1];rfl
       have bad:rdPart k2 p2 g = .non -> Qt (.tr .non) []:=fun e => by
        rw [if_pos (by rw [eall,e];simp [nonB])] at q'
        exact q'
       have good:∀ (s5 s6 s7:Option L2.T),nonB (rdPart k2 p2 g) = false -> M [.tr (.str z),.tr (.int (g:Nat)),.bx (.lst (.str w :: sT ps)),.bx (.dic KK VV),.bx (.lst (.str w :: (vals g ks1 ps1 ++ [rdPart k2 p2 g]))),sl s5,sl s6,sl s7]:=fun s5 s6 s7 e => by
        rw [<- ev];exact k _ ⟨ks1 ++ [k2],ps1 ++ [p2],ks2,ps2,s5,s6,s7,by rw [ek];simp,by rw [ep];simp,by simp [l1],Nat.succ.inj l2,rfl,by rw [ev,List.any_append,hn];simp [e],rfl⟩
       have app:∀ xs:List L2.T,xs.length <= 2 -> (L2.T.str w :: xs).length < sizeLine:=fun xs h => Nat.lt_of_lt_of_le (show xs.length + 1 < 200000 by omega) szLine
       walk_at "rt";refine seqT fun M' hM => ?_;walk_at "rt";rw [hM];clear hM M';refine seqT fun M' hM => ?_;have hp2:p2.length <= 100000:=Nat.le_trans (hpl2 p2 (by rw [ep];simp)) (by decide)
       have sb:(Str.ofString "b") = ⟨#[98]⟩:=by decide +kernel
       have sn:(Str.ofString "n") = ⟨#[110]⟩:=by decide +kernel
       have sgg:(Str.ofString "g") = ⟨#[103]⟩:=by decide +kernel
       by_cases hb:k2 = "box"
       ·have es:sg k2 = 98:=by unfold sg;rw [if_pos hb]
        have er:rdPart k2 p2 g = if boxB p2 = true then .str p2 else .non:=by unfold rdPart;rw [if_pos hb]
        wp_walk using sb,sn,sgg,es;rw [if_neg (by simp),hM];clear hM M'
        refine seqT fun M' hM => ?_;have bn:¬ (⟨#[98]⟩:Str) = ⟨#[110]⟩:=by decide
        have bg:¬ (⟨#[98]⟩:Str) = ⟨#[103]⟩:=by decide
        wp_walk using sb,sn,sgg,box_signs;refine ⟨by decide,rfl,by decide +kernel,?_⟩
        cases hx:boxB p2 with
        | false =>
         rw [if_pos rfl];exact bad (by rw [er,hx];rfl)
        | true =>
         rw [hx,if_pos rfl] at er;rw [if_neg (by decide),hM];clear hM M'
         refine seqT fun M' hM => ?_;wp_walk using sb,sn,sgg,bn,bg;rw [hM];clear hM M';walk_at "rt";refine ⟨app _ vl,?_⟩;have:=good (some (.str p2)) (some (.str ⟨#[98]⟩)) (some (.str p2)) (by rw [er];rfl)
         rw [er] at this;exact this
       ·have nb:¬ (⟨#[110]⟩:Str) = ⟨#[98]⟩:=by decide
        have gb:¬ (⟨#[103]⟩:Str) = ⟨#[98]⟩:=by decide
        have gn:¬ (⟨#[103]⟩:Str) = ⟨#[110]⟩:=by decide
        have ng:¬ (⟨#[110]⟩:Str) = ⟨#[103]⟩:=by decide
        by_cases hn2:k2 = "number"
        ·have es:sg k2 = 110:=by unfold sg;rw [if_neg hb,if_pos hn2]
         have er:rdPart k2 p2 g = oI (rdNum p2 65535):=by unfold rdPart;rw [if_neg hb,if_pos hn2]
         rw [rdNum_fig] at er;wp_walk using sb,sn,sgg,es,nb;refine ⟨p2,rfl,hp2,?_⟩
         cases hf:figO p2 with
         | none =>
          rw [hf] at er;unfold oI;walk_at "rt";rw [hM];clear hM M';refine seqT fun M' hM => ?_;wp_walk using sb,sn,sgg,box_signs;exact bad er
         | some v =>
          rw [hf] at er;unfold oI;walk_at "rt";rw [hM];clear hM M';refine seqT fun M' hM => ?_;wp_walk using sb,sn,sgg,nb;rw [hM];clear hM M';refine seqT fun M' hM => ?_;by_cases hv:v <= 65535
          ·wp_walk using sb,sn,sgg,nb,ng,if_neg (show ¬ (65535:Int) < ((v:Nat):Int) by omega)
           rw [hM];clear hM M';walk_at "rt";refine ⟨app _ vl,?_⟩;simp only [if_pos hv,oI] at er;have:=good (some (.str p2)) (some (.str ⟨#[110]⟩)) (some (.int v)) (by rw [er];rfl)
           rw [er] at this;exact this
          ·wp_walk using sb,sn,sgg,nb,ng,if_pos (show (65535:Int) < ((v:Nat):Int) by omega)
           simp only [if_neg hv,oI] at er;exact bad er
        ·have es:sg k2 = 103:=by unfold sg;rw [if_neg hb,if_neg hn2]
         have er:rdPart k2 p2 g = oI (rdNum p2 g):=by unfold rdPart;rw [if_neg hb,if_neg hn2]
         rw [rdNum_fig] at er;wp_walk using sb,sn,sgg,es,gb;refine ⟨p2,rfl,hp2,?_⟩
         cases hf:figO p2 with
         | none =>
          rw [hf] at er;unfold oI;walk_at "rt";rw [hM];clear hM M';refine seqT fun M' hM => ?_;wp_walk using sb,sn,sgg,box_signs;exact bad er
         | some v =>
          rw [hf] at er;unfold oI;walk_at "rt";rw [hM];clear hM M';refine seqT fun M' hM => ?_;wp_walk using sb,sn,sgg,gb;rw [hM];clear hM M';refine seqT fun M' hM => ?_;by_cases hv:v <= g
          ·wp_walk using sb,sn,sgg,gb,gn,if_neg (show ¬ ((g:Nat):Int) < ((v:Nat):Int) by omega)
           rw [hM];clear hM M';walk_at "rt";refine ⟨app _ vl,?_⟩;simp only [if_pos hv,oI] at er;have:=good (some (.str p2)) (some (.str ⟨#[103]⟩)) (some (.int v)) (by rw [er];rfl)
           rw [er] at this;exact this
          ·wp_walk using sb,sn,sgg,gb,gn,if_pos (show ((g:Nat):Int) < ((v:Nat):Int) by omega)
           simp only [if_neg hv,oI] at er;exact bad er
   ·rw [if_neg hl] at q';rw [if_pos (by omega)]
    exact q'
def tDue:TSp:=fun args Q => ∃ z:Str,args = [.str z] /\ z.length <= 80000 /\ ((∀ i,i < (lns z).length -> lnAt z i ≠ .non) -> Q (.tr (.tup ((lns z).map fun l => rdRow l (lns z).length))) []) /\ ∀ p,p < (lns z).length -> lnAt z p = .non -> (∀ i,i < p -> lnAt z i ≠ .non) -> Q (.tr (.int (p:Nat))) []
theorem ok_due (T:Txt K mg) (F:HasFn K mg "_law_due" s__law_due ["text"]) (h_law_reading:CallOk P w K mg base CX0 2 "_law_reading" ["line","lines"] (spT K [false,false] tReading)):CallOk P w K mg base CX0 3 "_law_due" ["text"] (spT K [false] tDue):=by
 refine F.okT sc__law_due [false] rfl (by decide) (fun args Qt hl h f cdv A outer s H E hr => ?_)
 have hu:=hu_of hr;obtain ⟨z,rfl,hz,q,qx⟩:=h;refine ⟨_,(Y.bcons (Y.setF (i:=1) sc__law_due.nd rfl (by walk_at "lc") (Y.sm K rfl PySem.F.slot_str_split PySem.F.type_str_split mt_split Y.rm_split (Y.vS 0) (Y.cons Y.str Y.nil)))
   (Y.bcons (Y.set (i:=2) sc__law_due.nd rfl (by walk_at "lc") (Y.lst Y.nil))
   (Y.bcons (Y.forS PassesOwn.never rfl (Y.enumL K rfl rfl T.b_enumerate (Y.cons (Y.vS 1) Y.nil)) (Y.gtupS (n:=2) K rfl rfl (Y.gscons (Y.gname (i:=3) sc__law_due.nd rfl (by walk_at "lc")) (Y.gscons (Y.gname (i:=4) sc__law_due.nd rfl (by walk_at "lc")) Y.gsnil))) (Y.bcons (Y.set (i:=5) sc__law_due.nd rfl (by walk_at "lc") (Y.fn K rfl h_law_reading (hr.mono (by decide)) rfl pass0 (Y.cons (Y.vS 4) (Y.cons (Y.cb (Y.call_lenG K rfl) Y.rc_lenS rfl T.b_len (by decide +kernel) (Y.cons (Y.vS 1) Y.nil)) Y.nil))))
   (Y.bcons (Y.ifS (Y.tcmp op_isN Y.ro_isN (Y.vS 5) Y.non) (Y.bone (Y.ret (Y.vS 3))) Y.bnil)
   (Y.bone (Y.expr (Y.bm K rfl PySem.F.slot_list_append PySem.F.type_list_append mt_append Y.rm_append (Y.vS 2) (Y.cons (Y.vS 5) Y.nil)))))))
   (Y.bone (Y.ret (Y.ct (Y.call_tupG K rfl) Y.rc_tuple rfl T.b_tuple (by decide +kernel) (Y.cons (Y.vS 2) Y.nil))))))),?_⟩
 refine seqT fun N hN => ?_;walk_at "rt";have hsl:(lns z).length <= z.length + 2:=PyProof.Rows.split_le z "\n";refine ⟨by decide,Nat.le_trans hz (by decide),Nat.le_trans hsl (Nat.le_trans (by omega) szLine),?_⟩
 have hpl:∀ p ∈ lns z,p.length <= 80000:=fun p hp => Nat.le_trans (PyProof.Rows.part_short hp) hz;rw [hN];clear hN N;refine seqT fun N hN => ?_;walk_at "rt";rw [hN];clear hN N;refine seqT fun N hN => ?_;show Y.uFor _ _ _ _ [.tr (.str z),.tr (.lst (sT (lns z))),.bx (.lst []),.un,.un,.un];walk_at "rt";refine for_ind (fun rest μ => ∃ (i:Nat) (s3 s4 s5:Option L2.T),i <= (lns z).length /\ (∀ j,j < i -> lnAt z j ≠ .non) /\ rest = (pairs (sT (lns z))).drop i /\ μ = [.tr (.str z),.tr (.lst (sT (lns z))),.bx (.lst (((lns z).take i).map fun l => rdRow l (lns z).length)),sl s3,sl s4,sl s5]) ⟨0,none,none,none,Nat.zero_le _,fun j hj => absurd hj (Nat.not_lt_zero _),rfl,rfl⟩ ?_ ?_
 ·rintro μ ⟨i,s3,s4,s5,hi,hb,e,rfl⟩;have:i = (lns z).length:=by
   rcases Nat.lt_or_ge i (lns z).length with c | c
   ·rw [pairs_at i c] at e;cases e
   ·omega
  subst this;show N _;rw [hN];clear hN N;walk_at "rt";rw [List.take_of_length_le (Nat.le_refl _)];exact q hb
 ·rintro t ts μ M ⟨i,s3,s4,s5,hi,hb,e,rfl⟩ k;rcases Nat.lt_or_ge i (lns z).length with c | c
  ·rw [pairs_at i c] at e;obtain ⟨rfl,rfl⟩:=List.cons.inj e;walk_at "rt";have hm:(lns z)[i] ∈ lns z:=List.getElem_mem c;refine seqT fun M' hM => ?_;wp_walk using sT_len;refine ⟨(lns z)[i],(lns z).length,rfl,Nat.le_trans (hpl _ hm) (by decide),by omega,?_⟩
   rcases rdRow_is (lns z)[i] (lns z).length with ex | ⟨xs,ex⟩
   ·rw [ex];walk_at "rt";rw [hM];clear hM M';refine seqT fun M' hM => ?_;walk_at "rt";exact qx i c (by rw [lnAt_is c];exact ex) hb
   ·rw [ex];walk_at "rt";rw [hM];clear hM M';refine seqT fun M' hM => ?_;walk_at "rt";rw [hM];clear hM M';wp_walk using List.length_map,List.length_take;refine ⟨Nat.lt_of_lt_of_le (show min i (lns z).length < 200000 by omega) szLine,?_⟩
    have e3:((lns z).take i).map (fun l => rdRow l (lns z).length) ++ [.tup xs] = ((lns z).take (i + 1)).map fun l => rdRow l (lns z).length:=by
     rw [List.take_succ_eq_append_getElem c,List.map_append,List.map_cons,List.map_nil,ex]
    rw [e3];refine k _ ⟨i + 1,some _,some _,some _,c,fun j hj => ?_,rfl,rfl⟩;rcases Nat.lt_or_ge j i with c2 | c2
    ·exact hb j c2
    ·have:j = i:=by omega
     subst this;rw [lnAt_is c,ex];intro z;cases z
  ·rw [pairs_end i c] at e;cases e
theorem eqF_refl {t:L2.T} (h:flatT t = true):Y.eqF t t = true:=by
 cases t <;> first | (cases h;done) | simp [Y.eqF]
theorem row_D {xs:List L2.T} (h:xs.all flatT = true):EqD 4 (.tup xs) (.tup xs) true:=by
 have:=EqD.tup (n:=3) (xs:=xs) (ys:=xs) (fun _ => true) fun j x y hx hy => by
  rw [hx] at hy;cases hy;have f:=List.all_eq_true.mp h x (List.mem_of_getElem? hx);have:=EqD.flat (n:=3) f f;rw [eqF_refl f] at this;exact this
 rw [allE_true rfl fun _ _ => rfl] at this;exact this
theorem rdRow_flat (z:Str) (g:Nat):rdRow z g = .non \/ ∃ xs,rdRow z g = .tup xs /\ xs.all flatT = true:=by
 unfold rdRow rdWords;split
 ·exact .inl rfl
 ·split
  ·exact .inl rfl
  ·split
   ·split
    ·exact .inl rfl
    ·exact .inr ⟨_,rfl,by rw [List.all_cons,vals_flat];rfl⟩
   ·exact .inl rfl
theorem rows_D {z:Str} (h:∀ i,i < (lns z).length -> lnAt z i ≠ .non):∀ (j:Nat) (x y:L2.T),((lns z).map fun l => rdRow l (lns z).length)[j]? = some x -> ((lns z).map fun l => rdRow l (lns z).length)[j]? = some y -> EqD 4 x y true:=by
 intro j x y hx hy;rw [hx] at hy;cases hy;rw [List.getElem?_map] at hx;rcases Nat.lt_or_ge j (lns z).length with c | c
 ·rw [List.getElem?_eq_getElem c] at hx;cases hx;have:=h j c;rw [lnAt_is c] at this;obtain ⟨xs,e,f⟩:=(rdRow_flat _ _).resolve_left this;show EqD 4 (rdRow (lns z)[j] (lns z).length) (rdRow (lns z)[j] (lns z).length) true;rw [e];exact row_D f
 ·rw [List.getElem?_eq_none_iff.mpr c] at hx;cases hx
theorem first_bad {p:Nat -> Prop}:∀ n,(∀ i,i < n -> p i) \/ ∃ k,k < n /\ ¬ p k /\ ∀ i,i < k -> p i
 | 0 => .inl fun i h => absurd h (Nat.not_lt_zero _)
 | n + 1 => by
  rcases first_bad (p:=p) n with h | ⟨k,hk,hn,hb⟩
  ·by_cases hp:p n
   ·exact .inl fun i hi => by
     rcases Nat.lt_or_ge i n with c | c
     ·exact h i c
     ·rw [show i = n by omega];exact hp
   ·exact .inr ⟨n,Nat.lt_succ_self _,hp,h⟩
  ·exact .inr ⟨k,Nat.lt_succ_of_lt hk,hn,hb⟩
def tRight:TSp:=fun args Q => ∃ z:Str,args = [.str z] /\ z.length <= 80000 /\ Q (.tr (.bl true)) []
theorem ok_right (T:Txt K mg) (F:HasFn K mg "_law_right" s__law_right ["text"]) (hread_program:CallOk P w K mg base (CXW P w) 5 "read_program" ["text"] (spX K [false] (tReadX mg))) (h_law_due:CallOk P w K mg base CX0 3 "_law_due" ["text"] (spT K [false] tDue)):CallOk P w K mg base CX0 6 "_law_right" ["text"] (spT K [false] tRight):=by
 obtain ⟨C_ShortError,C_NoProgram,C_NoAsk,C_NoBits,C_NoCode,C_NoReach,C_NoRow,hC_ShortError,hC_NoProgram,hC_NoAsk,hC_NoBits,hC_NoCode,hC_NoReach,hC_NoRow,kC_ShortError,xC_NoProgram,p0,p1,p2,p3,p4,fI,fdI,xI_NoProgram,FI,bI_NoProgram,hd⟩:=T.xs;refine F.okT sc__law_right [false] rfl (by decide) (fun args Qt hl h f cdv A outer s H E hr => ?_)
 have hu:=hu_of hr;obtain ⟨z,rfl,hz,q⟩:=h;refine ⟨_,(Y.noX (Y.xbcons (Y.xst (Y.set (i:=1) sc__law_right.nd rfl (by walk_at "lc") (Y.fn K rfl h_law_due (hr.mono (by decide)) rfl pass0 (Y.cons (Y.vS 0) Y.nil))))
   (Y.xbcons (Y.xst (Y.set (i:=2) sc__law_right.nd rfl (by walk_at "lc") Y.non))
   (Y.xbcons (Y.xst (Y.set (i:=3) sc__law_right.nd rfl (by walk_at "lc") Y.non))
   (Y.xbcons (Y.xtryY (i:=4) K rfl rfl hC_ShortError kC_ShortError.toHd rfl rfl rfl rfl sc__law_right.nd rfl rfl (fun _ _ => (Y.xbone (Y.xset (i:=2) sc__law_right.nd rfl (by walk_at "lc") (Y.xfn K rfl hread_program (hr.mono (by decide)) rfl rfl (Y.cons (Y.vS 0) Y.nil))))) (fun _ => (Y.bone (Y.set (i:=3) sc__law_right.nd rfl (by walk_at "lc") (Y.vS 4)))))
   (Y.xbcons (Y.xst (Y.ifS (Y.ttruS K rfl (Y.isi (C:="tuple") K rfl rfl T.b_isinstance (Y.vS 1) rfl T.b_tuple (by decide +kernel))) (Y.bone (Y.ret (Y.and (Y.cmp op_isN Y.ro_isN (Y.vS 3) Y.non) (Y.one (Y.cmp (Y.op_eqX K rfl (hu4_of hr)) Y.ro_eqX (Y.vS 2) (Y.vS 1)))))) Y.bnil))
   (Y.xbcons (Y.xst (Y.ifS (Y.tw (Y.wor (Y.ttruS K rfl (Y.isiYN (ds:=[C_NoAsk,C_NoBits,C_NoCode,C_NoReach,C_NoRow]) K rfl rfl T.b_isinstance (Y.vS 3) (Z.cons (Z.glob (w:=.ref C_NoAsk) rfl hC_NoAsk rfl) (Z.cons (Z.glob (w:=.ref C_NoBits) rfl hC_NoBits rfl) (Z.cons (Z.glob (w:=.ref C_NoCode) rfl hC_NoCode rfl) (Z.cons (Z.glob (w:=.ref C_NoReach) rfl hC_NoReach rfl) (Z.cons (Z.glob (w:=.ref C_NoRow) rfl hC_NoRow rfl) Z.nil))))) (fun _ _ _ h => h) (Nat.le_of_ble_eq_true rfl))) (Y.wor1 (Y.tnot (Y.ttruS K rfl (Y.isiY1 (y:=.ref C_NoProgram) (c:=.ref C_NoProgram) K rfl rfl T.b_isinstance (Y.vS 3) (Z.glob rfl hC_NoProgram rfl) (fun _ h => h))))))) (Y.bone (Y.ret Y.bl)) Y.bnil))
   (Y.xbcons (Y.xst (Y.ifS (Y.tw (Y.wor (Y.tnot (Y.ttruS K rfl (Y.isiY1 (y:=.ty "ValueError") (c:=.type "ValueError") K rfl rfl T.b_isinstance (Y.vS 3) (Z.tyv rfl T.b_ValueError (by decide +kernel)) (fun _ h => h)))) (Y.wor1 (Y.ttruS K rfl (Y.isi (C:="bool") K rfl rfl T.b_isinstance (Y.att K rfl (Y.vS 3)) rfl T.b_bool (by decide +kernel)))))) (Y.bone (Y.ret Y.bl)) Y.bnil))
   (Y.xbone (Y.xst (Y.ret (Y.and (Y.isi (C:="int") K rfl rfl T.b_isinstance (Y.att K rfl (Y.vS 3)) rfl T.b_int (by decide +kernel)) (Y.one (Y.cmp (Y.op_eqX K rfl (hu4_of hr)) Y.ro_eqX (Y.att K rfl (Y.vS 3)) (Y.vS 1))))))))))))))),?_⟩
 refine seqX fun N hN => ?_;walk_at "rt";rcases first_bad (p:=fun i => lnAt z i ≠ .non) (lns z).length with hall | ⟨p,hp,hbad,hb⟩
 ·refine ⟨z,rfl,hz,fun _ => ?_,fun p hp e _ => absurd e (hall p hp)⟩;walk_at "rt";rw [hN];clear hN N;refine seqX fun N hN => ?_;walk_at "rt";rw [hN];clear hN N;refine seqX fun N hN => ?_;walk_at "rt";rw [hN];clear hN N;refine seqX fun N hN => ?_;walk_at "rt";refine ⟨z,rfl,hz,fun _ => ?_,fun p hp e _ => absurd e (hall p hp)⟩;walk_at "rt";rw [hN];clear hN N;refine seqX fun N hN => ?_;wp_walk using (show isiU "tuple" "tuple" = true by decide)
  refine ⟨fun _ => true,rows_D hall,?_⟩;rw [allE_true rfl fun _ _ => rfl];exact q
 ·have hbad':lnAt z p = .non:=Classical.not_not.mp hbad;have ne:¬ ∀ i,i < (lns z).length -> lnAt z i ≠ .non:=fun h => h p hp hbad';have same:∀ p',p' < (lns z).length -> lnAt z p' = .non -> (∀ i,i < p' -> lnAt z i ≠ .non) -> p' = p:=fun p' h1 h2 h3 => by
   rcases Nat.lt_trichotomy p' p with c | c | c
   ·exact absurd h2 (hb p' c)
   ·exact c
   ·exact absurd hbad' (h3 p c)
  refine ⟨z,rfl,hz,fun h => absurd h ne,fun p' h1 h2 h3 => ?_⟩;obtain rfl:=same p' h1 h2 h3;walk_at "rt";rw [hN];clear hN N;refine seqX fun N hN => ?_;walk_at "rt";rw [hN];clear hN N;refine seqX fun N hN => ?_;walk_at "rt";rw [hN];clear hN N;refine seqX fun N hN => ?_;walk_at "rt";refine ⟨z,rfl,hz,fun h => absurd h ne,fun p2 h1' h2' h3' C hc => ?_⟩;obtain rfl:=(same p2 h1' h2' h3').symm;rw [hC_NoProgram] at hc;cases hc;refine ⟨⟨_,_,rfl,xI_NoProgram.toAny,p0⟩,?_⟩;walk_at "rt";rw [hN];clear hN N;refine seqX fun N hN => ?_;wp_walk using (show isiU "int" "tuple" = false by decide)
  rw [hN];clear hN N;refine seqX fun N hN => ?_;wp_walk using p1,p4;refine ⟨⟨_,rfl,xC_NoProgram⟩,⟨_,rfl,xC_NoProgram⟩,?_⟩;rw [hN];clear hN N;refine seqX fun N hN => ?_;wp_walk using p2;refine ⟨⟨_,rfl,xC_NoProgram⟩,⟨_,rfl,xC_NoProgram,hd,xI_NoProgram.ha⟩,?_⟩;rw [if_neg (by decide),hN];clear hN N
  wp_walk using (show isiU "int" "int" = true by decide)
  exact ⟨⟨_,rfl,xC_NoProgram,hd,xI_NoProgram.ha⟩,⟨_,rfl,xC_NoProgram,hd,xI_NoProgram.ha⟩,by rw [decide_true];exact q⟩
def wt (ws:List Str):Nat:=(ws.map (·.length)).sum + ws.length
theorem wt_cons (x:Str) (ws:List Str):wt (x :: ws) = x.length + 1 + wt ws:=by unfold wt;simp only [List.map_cons,List.sum_cons,List.length_cons];omega
theorem wt_app (xs ys:List Str):wt (xs ++ ys) = wt xs + wt ys:=by unfold wt;simp only [List.map_append,List.sum_append,List.length_append];omega
theorem wt_mem {y:Str} {ws:List Str} (h:y ∈ ws):y.length + 1 <= wt ws:=by
 induction ws with
 | nil => cases h
 | cons x ws ih =>
  rw [wt_cons];rcases List.mem_cons.mp h with e | h
  ·rw [e];omega
  ·have:=ih h;omega
theorem wt_set (y:Str):∀ (ws:List Str) (i:Nat),wt (ws.set i y) <= wt ws + y.length + 1
 | [],i => by simp [wt]
 | x :: ws,0 => by rw [List.set_cons_zero,wt_cons,wt_cons];omega
 | x :: ws,i + 1 => by have:=wt_set y ws i;rw [List.set_cons_succ,wt_cons,wt_cons];omega
theorem wt_erase:∀ (ws:List Str) (i:Nat),wt (ws.eraseIdx i) <= wt ws
 | [],i => by simp [wt]
 | x :: ws,0 => by rw [List.eraseIdx_cons_zero,wt_cons];omega
 | x :: ws,i + 1 => by have:=wt_erase ws i;rw [List.eraseIdx_cons_succ,wt_cons,wt_cons];omega
theorem wt_ins (y:Str) (ws:List Str) (i:Nat):wt (insL ws i y) = wt ws + y.length + 1:=by
 unfold insL;rw [wt_app,wt_cons];have:wt (ws.take i) + wt (ws.drop i) = wt ws:=by rw [<- wt_app,List.take_append_drop]
 omega
theorem wt_jn (c:Nat):∀ ls:List (List Nat),ls ≠ [] -> (jn c ls).length + 1 = (ls.map List.length).sum + ls.length
 | [],h => absurd rfl h
 | [a],_ => by simp [jn]
 | a :: b :: r,_ => by
  have ih:=wt_jn c (b :: r) (by simp)
  show (a ++ c :: jn c (b :: r)).length + 1 = _;rw [List.length_append,List.length_cons,List.map_cons,List.sum_cons,List.length_cons]
  omega
theorem wt_split (z:Str) (c:Nat):wt (Txt.split z ⟨#[c]⟩) = z.length + 1:=by
 have e:=congrArg cp (StrLaws.join_split z ⟨#[c]⟩);rw [cp_join] at e;have n:Txt.split z ⟨#[c]⟩ ≠ []:=fun e0 => by
  have:=PyProof.Rows.split_pos z ⟨#[c]⟩;rw [e0] at this;exact absurd this (by decide)
 have h:=wt_jn c ((Txt.split z ⟨#[c]⟩).map cp) (by simpa using n)
 rw [e,cp_len,List.length_map,List.map_map] at h;unfold wt;have e2:(Txt.split z ⟨#[c]⟩).map (List.length ∘ cp) = (Txt.split z ⟨#[c]⟩).map (·.length):=List.map_congr_left fun x _ => cp_len x;rw [e2] at h;exact h.symm
theorem wt_len (ws:List Str):ws.length <= wt ws:=by unfold wt;omega
theorem wt_join (c:Nat) (ws:List Str):(Str.join ⟨#[c]⟩ ws).length <= wt ws:=join_len c ws
theorem sT_ins (ws:List Str) (i:Nat) (y:Str):insL (sT ws) i (.str y) = sT (insL ws i y):=by unfold insL sT;simp
theorem sT_set (ws:List Str) (i:Nat) (y:Str):(sT ws).set i (.str y) = sT (ws.set i y):=by unfold sT;rw [List.map_set]
theorem sT_erase (ws:List Str) (i:Nat):(sT ws).eraseIdx i = sT (ws.eraseIdx i):=by
 unfold sT
 induction ws generalizing i with
 | nil => rfl
 | cons x ws ih => cases i with
  | zero => rfl
  | succ i => simp only [List.map_cons,List.eraseIdx_cons_succ,ih]
theorem at_sT {ws:List Str} {v:Int} (h0:0 <= v) (h1:v < ws.length):∃ y ∈ ws,atI (sT ws) v = some (.str y):=by
 obtain ⟨t,ht,e⟩:=at_any (xs:=sT ws) h0 (by rw [sT_len];exact h1)
 obtain ⟨y,hy,rfl⟩:=List.mem_map.mp ht;exact ⟨y,hy,e⟩
theorem ixN_in {n:Nat} {v:Int} (h0:0 <= v) (h1:v < n):ixN n v = some v.toNat:=by
 unfold ixN;rw [if_pos h0,if_pos h1]
theorem sqI_in {n:Nat} {v:Int} (h0:0 <= v) (h1:v < n):seqIndex? v n = some v.toNat:=by
 unfold seqIndex?
 simp;omega
theorem cutS_len (z:Str) (a b:Option Int):(Y.cutS z a b).length <= z.length:=by
 rw [<- cp_len];show (Y.cutG (cp z) a b).toArray.toList.length <= _;rw [List.toList_toArray];unfold Y.cutG;rw [List.length_take,List.length_drop,cp_len]
 omega
def tSpl:TSp:=fun args Q => ∃ (d:L2.T) (l:Str) (g n:Nat),args = [d,.str l,.int (g:Nat)] /\ Deck n d /\ n < 2 ^ 40 /\ l.length <= 2000 /\ g <= 1000 /\ ∀ (z:Str) (d':L2.T),z.length <= 3 * l.length + 28 -> Deck (n + 10) d' -> Q (.tr (.str z)) [d']
def someS (g:Nat):List Str:=["put","add","tell","jump","zero","halt","Put","puts","a","h","i","A","ab","","0","00","07","65535","65536","-1","+1","1.0","1_0","x",numS g,numS (g + 1),"99999999999999999999"]
theorem some_len {g:Nat} (h:g <= 1000):∀ y ∈ someS g,y.length <= 20:=by
 intro y hy;have h1:(numS g).length <= 10:=num_len (by omega)
 have h2:(numS (g + 1)).length <= 10:=num_len (by omega)
 unfold someS at hy;simp only [List.mem_cons,List.not_mem_nil,or_false] at hy;rcases hy with rfl | rfl | rfl | rfl | rfl | rfl | rfl | rfl | rfl | rfl | rfl | rfl | rfl | rfl | rfl | rfl | rfl | rfl | rfl | rfl | rfl | rfl | rfl | rfl | rfl | rfl | rfl
 all_goals first | decide | omega
theorem at_sign {z:Str} {v:Int} (h0:0 <= v) (h1:v < (z.length:Int)):∃ c,atI z.cps.toList v = some c:=by
 have hl:(z.cps.toList.length:Int) = (z.length:Int):=by rw [Array.length_toList];rfl
 unfold atI;rw [ixN_in h0 (by rw [hl];exact h1)]
 exact ⟨_,List.getElem?_eq_getElem (by omega)⟩
theorem ok_spl (T:Txt K mg) (F:HasFn K mg "_law_spoilt_line" s__law_spoilt_line ["deck","line","lines"]) (h_law_next:CallOk P w K mg base CX0 2 "_law_next" ["deck","many"] (spT K [true,false] tNext)):CallOk P w K mg base CX0 3 "_law_spoilt_line" ["deck","line","lines"] (spT K [true,false,false] tSpl):=by
 refine F.okT sc__law_spoilt_line [true,false,false] rfl (by decide) (fun args Qt hl h f cdv A outer s H E hr => ?_)
 have hu:=hu_of hr;obtain ⟨d,l,g,n,rfl,hd,hn,hll,hg,q⟩:=h;refine ⟨_,(Y.bcons (Y.set (i:=3) sc__law_spoilt_line.nd rfl (by walk_at "lc") (Y.sm K rfl PySem.F.slot_str_split PySem.F.type_str_split mt_split Y.rm_split (Y.vS 1) (Y.cons Y.str Y.nil)))
   (Y.bcons (Y.set (i:=4) sc__law_spoilt_line.nd rfl (by walk_at "lc") (Y.fn K rfl h_law_next (hr.mono (by decide)) rfl pass0 (Y.cons (Y.vS 0) (Y.cons (Y.cb (Y.call_lenG K rfl) Y.rc_lenS rfl T.b_len (by decide +kernel) (Y.cons (Y.vS 3) Y.nil)) Y.nil))))
   (Y.bcons (Y.set (i:=5) sc__law_spoilt_line.nd rfl (by walk_at "lc") (Y.fn K rfl h_law_next (hr.mono (by decide)) rfl pass0 (Y.cons (Y.vS 0) (Y.cons (Y.cb (Y.call_lenG K rfl) Y.rc_lenS rfl T.b_len (by decide +kernel) (Y.cons (Y.vS 3) Y.nil)) Y.nil))))
   (Y.bcons (Y.set (i:=6) sc__law_spoilt_line.nd rfl (by walk_at "lc") (Y.lst (Y.consts2 rfl rfl)))
   (Y.bcons (Y.set (i:=6) sc__law_spoilt_line.nd rfl (by walk_at "lc") (Y.op (Y.op_addG K rfl) Y.ro_addS (Y.vS 6) (Y.lst (Y.cons Y.str (Y.cons Y.str (Y.cons Y.str (Y.cons Y.str (Y.cons Y.str (Y.cons Y.str (Y.cons Y.str (Y.cons (Y.ct ucall_str Y.rc_str rfl T.b_str (by decide +kernel) (Y.cons (Y.vS 2) Y.nil)) (Y.cons (Y.ct ucall_str Y.rc_str rfl T.b_str (by decide +kernel) (Y.cons (Y.op (Y.op_addG K rfl) Y.ro_addS (Y.vS 2) Y.int) Y.nil)) (Y.cons Y.str Y.nil)))))))))))))
   (Y.bcons (Y.set (i:=7) sc__law_spoilt_line.nd rfl (by walk_at "lc") (Y.fn K rfl h_law_next (hr.mono (by decide)) rfl pass0 (Y.cons (Y.vS 0) (Y.cons Y.int Y.nil))))
   (Y.bcons (Y.ifS (Y.tcmp (Y.op_eqG K rfl (Nat.lt_of_succ_lt hu)) Y.ro_eq (Y.vS 7) Y.int) (Y.bone (Y.expr (Y.bm K rfl PySem.F.slot_list_pop PySem.F.type_list_pop mt_popAt Y.rm_popAt (Y.vS 3) (Y.cons (Y.vS 4) Y.nil)))) (Y.bone (Y.ifS (Y.tcmp (Y.op_eqG K rfl (Nat.lt_of_succ_lt hu)) Y.ro_eq (Y.vS 7) Y.int) (Y.bone (Y.expr (Y.bm K rfl PySem.F.slot_list_insert PySem.F.type_list_insert mt_insert Y.rm_insert (Y.vS 3) (Y.cons (Y.vS 5) (Y.cons (Y.ix (Y.ix_G K rfl) Y.ro_ixS (Y.vS 3) (Y.vS 4)) Y.nil))))) (Y.bone (Y.ifS (Y.tcmp (Y.op_eqG K rfl (Nat.lt_of_succ_lt hu)) Y.ro_eq (Y.vS 7) Y.int) (Y.bone (Y.asg (Y.tup (Y.cons (Y.ix (Y.ix_G K rfl) Y.ro_ixS (Y.vS 3) (Y.vS 5)) (Y.cons (Y.ix (Y.ix_G K rfl) Y.ro_ixS (Y.vS 3) (Y.vS 4)) Y.nil))) (Y.gtupS (n:=2) K rfl rfl (Y.gscons (Y.gsub (Y.vS 3) (Y.vS 4)) (Y.gscons (Y.gsub (Y.vS 3) (Y.vS 5)) Y.gsnil))))) (Y.bone (Y.ifS (Y.tcmp (Y.op_eqG K rfl (Nat.lt_of_succ_lt hu)) Y.ro_eq (Y.vS 7) Y.int) (Y.bone (Y.asg (Y.ix (Y.ix_G K rfl) Y.ro_ixS (Y.vS 6) (Y.fn K rfl h_law_next (hr.mono (by decide)) rfl pass0 (Y.cons (Y.vS 0) (Y.cons (Y.cb (Y.call_lenG K rfl) Y.rc_lenS rfl T.b_len (by decide +kernel) (Y.cons (Y.vS 6) Y.nil)) Y.nil)))) (Y.gsub (Y.vS 3) (Y.vS 4)))) (Y.bone (Y.ifS (Y.tcmp (Y.op_eqG K rfl (Nat.lt_of_succ_lt hu)) Y.ro_eq (Y.vS 7) Y.int) (Y.bone (Y.expr (Y.bm K rfl PySem.F.slot_list_insert PySem.F.type_list_insert mt_insert Y.rm_insert (Y.vS 3) (Y.cons (Y.vS 4) (Y.cons (Y.ix (Y.ix_G K rfl) Y.ro_ixS (Y.vS 6) (Y.fn K rfl h_law_next (hr.mono (by decide)) rfl pass0 (Y.cons (Y.vS 0) (Y.cons (Y.cb (Y.call_lenG K rfl) Y.rc_lenS rfl T.b_len (by decide +kernel) (Y.cons (Y.vS 6) Y.nil)) Y.nil)))) Y.nil))))) Y.bnil)))))))))
   (Y.bcons (Y.set (i:=8) sc__law_spoilt_line.nd rfl (by walk_at "lc") (Y.sm K rfl PySem.F.slot_str_join PySem.F.type_str_join (Y.mt_joinG K rfl) Y.rm_join Y.str (Y.cons (Y.vS 3) Y.nil)))
   (Y.bcons (Y.set (i:=9) sc__law_spoilt_line.nd rfl (by walk_at "lc") (Y.fn K rfl h_law_next (hr.mono (by decide)) rfl pass0 (Y.cons (Y.vS 0) (Y.cons (Y.op (Y.op_addG K rfl) Y.ro_addS (Y.cb (Y.call_lenG K rfl) Y.rc_lenS rfl T.b_len (by decide +kernel) (Y.cons (Y.vS 8) Y.nil)) Y.int) Y.nil))))
   (Y.bcons (Y.set (i:=10) sc__law_spoilt_line.nd rfl (by walk_at "lc") Y.str)
   (Y.bcons (Y.ifS (Y.tcmp (Y.op_eqG K rfl (Nat.lt_of_succ_lt hu)) Y.ro_eq (Y.vS 7) Y.int) (Y.bone (Y.ret (Y.op (Y.op_addG K rfl) Y.ro_addS (Y.op (Y.op_addG K rfl) Y.ro_addS (Y.sliceS K rfl (Y.vS 8) Y.po0 (Y.po1 (Y.vS 9))) (Y.ix (Y.ix_G K rfl) Y.ro_ixS (Y.vS 10) (Y.fn K rfl h_law_next (hr.mono (by decide)) rfl pass0 (Y.cons (Y.vS 0) (Y.cons Y.int Y.nil))))) (Y.sliceS K rfl (Y.vS 8) (Y.po1 (Y.vS 9)) Y.po0)))) Y.bnil)
   (Y.bcons (Y.ifS (Y.tcmp (Y.op_eqG K rfl (Nat.lt_of_succ_lt hu)) Y.ro_eq (Y.vS 7) Y.int) (Y.bone (Y.ret (Y.op (Y.op_addG K rfl) Y.ro_addS (Y.sliceS K rfl (Y.vS 8) Y.po0 (Y.po1 (Y.vS 9))) (Y.sliceS K rfl (Y.vS 8) (Y.po1 (Y.op (Y.op_addG K rfl) Y.ro_addS (Y.vS 9) Y.int)) Y.po0)))) Y.bnil)
   (Y.bone (Y.ret (Y.vS 8))))))))))))))),?_⟩
 refine seqT fun N hN => ?_;walk_at "rt";have hsl:=PyProof.Rows.split_le l " ";refine ⟨by decide,Nat.le_trans hll (by decide),Nat.le_trans hsl (Nat.le_trans (by omega) szLine),?_⟩
 have hwt:wt (Txt.split l " ") = l.length + 1:=by rw [blank];exact wt_split l 32
 have hne:=PyProof.Rows.split_pos l " ";generalize Txt.split l " " = ws at *;rw [hN];clear hN N;refine seqT fun N hN => ?_;rw [show List.map L2.T.str ws = sT ws from rfl];wp_walk using sT_len;refine ⟨d,ws.length,n,rfl,hd,by omega,by omega,by omega,fun at' d hat0 hat1 hd => ?_⟩
 walk_at "rt";rw [hN];clear hN N;refine seqT fun N hN => ?_;wp_walk using sT_len;refine ⟨d,ws.length,n + 1,rfl,hd,by omega,by omega,by omega,fun th d hth0 hth1 hd => ?_⟩
 walk_at "rt";rw [hN];clear hN N;refine seqT fun N hN => ?_;walk_at "rt";rw [hN];clear hN N;refine ⟨by decide,?_⟩
 refine seqT fun N hN => ?_;walk_at "rt";refine ⟨log_small (show g <= 100000 by omega),log_small (show g + 1 <= 100000 by omega),by decide,by decide,?_⟩
 show N [.pb d,.tr (.str l),.tr (.int (g:Nat)),.bx (.lst (sT ws)),.tr (.int at'),.tr (.int th),.bx (.lst (sT (someS g))),.un,.un,.un,.un];have hso:=some_len hg;have hs27:(someS g).length = 27:=rfl;generalize someS g = so at *;rw [hN];clear hN N;refine seqT fun N hN => ?_;walk_at "rt";refine ⟨d,7,n + 2,rfl,hd,by omega,by decide,by decide,fun v d hv0 hv1 hd => ?_⟩
 walk_at "rt";rw [hN];clear hN N;refine seqT fun N hN => ?_;have fin:∀ (ws':List Str) (d':L2.T),wt ws' <= 3 * l.length + 26 -> (v = 5 \/ v = 6 -> wt ws' <= l.length + 1) -> Deck (n + 5) d' -> N [.pb d',.tr (.str l),.tr (.int (g:Nat)),.bx (.lst (sT ws')),.tr (.int at'),.tr (.int th),.bx (.lst (sT so)),.tr (.int v),.un,.un,.un]:=by
  intro ws' d' hw1 hw2 hd';rw [hN];clear hN N;refine seqT fun N hN => ?_;walk_at "rt";have h1:(Str.ofString " ").length = 1:=by decide +kernel
  have hj:(Str.join " " ws').length <= wt ws':=by rw [blank];exact wt_join 32 ws'
  refine ⟨ws',rfl,?_,?_⟩
  ·rw [h1];show _ + ws'.length * 1 <= _;have:wt ws' = (ws'.map (·.length)).sum + ws'.length:=rfl
   omega
  generalize Str.join " " ws' = tx at *;rw [hN];clear hN N;refine seqT fun N hN => ?_;have htx:tx.length <= sizeLine:=Nat.le_trans (show tx.length <= 200000 by omega) szLine
  walk_at "rt";refine ⟨htx,d',tx.length + 1,n + 5,rfl,hd',by omega,by omega,by omega,fun ct d' hc0 hc1 hd' => ?_⟩
  walk_at "rt";rw [hN];clear hN N;refine seqT fun N hN => ?_;walk_at "rt";rw [hN];clear hN N;refine seqT fun N hN => ?_;by_cases h5:v = 5
  ·subst h5;have hw3:=hw2 (.inl rfl);wp_walk using htx;refine ⟨d',9,n + 6,rfl,hd',by omega,by decide,by decide,fun sv d' hs0 hs1 hd' => ?_⟩
   obtain ⟨c,ec⟩:=at_sign (z:=" a0-9hZ\n.") hs0 (by rw [show (Str.ofString " a0-9hZ\n.").length = 9 by decide +kernel];exact hs1)
   wp_walk using htx,ec;have k1:=cutS_len tx none (some ct);have k2:=cutS_len tx (some ct) none;have k3:(⟨#[c]⟩:Str).length = 1:=rfl;refine ⟨by decide,?_,?_,?_⟩
   ·exact Nat.le_trans (show _ <= 200000 by rw [k3];omega) szLine
   ·exact Nat.le_trans (show _ <= 200000 by rw [strLen_append,k3];omega) szLine
   ·exact q _ d' (by rw [strLen_append,strLen_append,k3];omega) (hd'.mono (by omega))
  ·wp_walk using if_neg h5;rw [hN];clear hN N;refine seqT fun N hN => ?_;by_cases h6:v = 6
   ·subst h6;have hw3:=hw2 (.inr rfl);wp_walk using htx;have k1:=cutS_len tx none (some ct);have k2:=cutS_len tx (some (ct + 1)) none;refine ⟨Nat.le_trans (show _ <= 200000 by omega) szLine,?_⟩
    exact q _ d' (by rw [strLen_append];omega) (hd'.mono (by omega))
   ·wp_walk using if_neg h6;rw [hN];clear hN N;walk_at "rt";exact q tx d' (by omega) (hd'.mono (by omega))
 clear hN;have c0:v = 0 \/ v = 1 \/ v = 2 \/ v = 3 \/ v = 4 \/ v = 5 \/ v = 6:=by omega
 obtain ⟨y1,hy1,ey1⟩:=at_sT (ws:=ws) hat0 hat1;obtain ⟨y2,hy2,ey2⟩:=at_sT (ws:=ws) hth0 hth1;have ixa:=ixN_in hat0 hat1;have ixt:=ixN_in hth0 hth1;have w1:=wt_mem hy1;have w2:=wt_mem hy2;have wl:=wt_len ws;rcases c0 with rfl | rfl | rfl | rfl | rfl | rfl | rfl
 ·wp_walk using sT_len,sT_erase,sqI_in hat0 hat1;have h1:at'.toNat < ws.length:=by omega
  have:=wt_erase ws at'.toNat;refine ⟨by omega,by omega,_,.str ws[at'.toNat],rfl,by unfold sT;rw [List.getElem?_map,List.getElem?_eq_getElem h1];rfl,fin _ d (by omega) (fun h => by omega) (hd.mono (by omega))⟩
 ·wp_walk using sT_len,sT_ins,ey1;refine ⟨hth0,by omega,Nat.lt_of_lt_of_le (show ws.length < 200000 by omega) szLine,fin _ d ?_ (fun h => by omega) (hd.mono (by omega))⟩
  rw [wt_ins];omega
 ·wp_walk using sT_len,sT_set,ey1,ey2,ixa,ixt,List.length_set,(show ¬ (2:Int) = 0 by decide),(show ¬ (2:Int) = 1 by decide)
  refine ⟨by decide,?_⟩
  have a1:=wt_set y2 ws at'.toNat;have a2:=wt_set y1 (ws.set at'.toNat y2) th.toNat;exact fin _ d (by omega) (fun h => by omega) (hd.mono (by omega))
 ·wp_walk using sT_len,sT_set,ixa,hs27;refine ⟨d,27,n + 3,rfl,hd,by omega,by decide,by decide,fun k d hk0 hk1 hd => ?_⟩
  obtain ⟨y,hy,ey⟩:=at_sT (ws:=so) hk0 (by rw [hs27];exact hk1)
  have:=hso y hy;wp_walk using sT_len,sT_set,ixa,ey;have a1:=wt_set y ws at'.toNat;exact fin _ d (by omega) (fun h => by omega) (hd.mono (by omega))
 ·wp_walk using sT_len,sT_ins,hs27;refine ⟨d,27,n + 3,rfl,hd,by omega,by decide,by decide,fun k d hk0 hk1 hd => ?_⟩
  obtain ⟨y,hy,ey⟩:=at_sT (ws:=so) hk0 (by rw [hs27];exact hk1)
  have:=hso y hy;wp_walk using sT_len,sT_ins,ey;refine ⟨hat0,by omega,Nat.lt_of_lt_of_le (show ws.length < 200000 by omega) szLine,fin _ d ?_ (fun h => by omega) (hd.mono (by omega))⟩
  rw [wt_ins];omega
 ·wp_walk using sT_len;exact fin ws d (by omega) (fun _ => by omega) (hd.mono (by omega))
 ·wp_walk using sT_len;exact fin ws d (by omega) (fun _ => by omega) (hd.mono (by omega))
def Bd:Nat -> Nat
 | 0 => 40
 | i + 1 => 3 * Bd i + 28
theorem Bd_le:∀ i,i <= 3 -> Bd i <= 1444
 | 0,_ => by decide
 | 1,_ => by decide
 | 2,_ => by decide
 | 3,_ => by decide
 | n + 4,h => absurd h (by omega)
theorem Bd_up (i:Nat):Bd i <= Bd (i + 1) /\ 28 <= Bd (i + 1):=by
 show Bd i <= 3 * Bd i + 28 /\ 28 <= 3 * Bd i + 28
 omega
theorem sum_le {m:Nat}:∀ {l:List Str},(∀ z ∈ l,z.length <= m) -> (l.map (·.length)).sum <= l.length * m
 | [],_ => by simp
 | x :: l,h => by
  have:=sum_le (l:=l) fun z hz => h z (by simp [hz])
  have:=h x (by simp)
  simp only [List.map_cons,List.sum_cons,List.length_cons,Nat.succ_mul]
  omega
theorem mem_ins {y x:Str} {ws:List Str} {i:Nat} (h:x ∈ insL ws i y):x = y \/ x ∈ ws:=by
 unfold insL at h;rcases List.mem_append.mp h with h | h
 ·exact .inr (List.mem_of_mem_take h)
 ·rcases List.mem_cons.mp h with h | h
  ·exact .inl h
  ·exact .inr (List.mem_of_mem_drop h)
theorem ins_len {y:Str} {ws:List Str} {i:Nat}:(insL ws i y).length = ws.length + 1:=by
 unfold insL;rw [List.length_append,List.length_cons,List.length_take,List.length_drop]
 omega
def tSpo:TSp:=fun args Q => ∃ (d:L2.T) (rs:List Row) (n:Nat),args = [d,.tup (pT rs)] /\ Deck n d /\ n < 2 ^ 39 /\ 1 <= rs.length /\ rs.length <= 40 /\ (∀ r ∈ rs,r.Ok 100000) /\ ∀ (z:Str) (d':L2.T),z.length <= 70000 -> Deck (n + 100) d' -> Q (.tr (.str z)) [d']
theorem ok_spo (T:Txt K mg) (F:HasFn K mg "_law_spoilt" s__law_spoilt ["deck","program"]) (h_law_next:CallOk P w K mg base CX0 2 "_law_next" ["deck","many"] (spT K [true,false] tNext)) (h_law_line:CallOk P w K mg base CX0 1 "_law_line" ["row"] (spT K [false] tLine)) (h_law_spoilt_line:CallOk P w K mg base CX0 3 "_law_spoilt_line" ["deck","line","lines"] (spT K [true,false,false] tSpl)):CallOk P w K mg base CX0 4 "_law_spoilt" ["deck","program"] (spT K [true,false] tSpo):=by
 refine F.okT sc__law_spoilt [true,false] rfl (by decide) (fun args Qt hl h f cdv A outer s H E hr => ?_)
 have hu:=hu_of hr;obtain ⟨d,rs,n,rfl,hd,hn,hr1,hr2,hok,q⟩:=h;refine ⟨_,(Y.bcons (Y.setC1 (j:=2) sc__law_spoilt.nd rfl (by walk_at "lc") (osc:=defScope s__law_spoilt) (ON:=["deck","program","lines","k","at","way"]) (own:=["row"]) (N:=["row","deck","program","lines","k","at","way"]) ⟨rfl,by decide +kernel,rfl,by decide +kernel,by decide +kernel,by decide +kernel,by decide +kernel,by decide +kernel⟩ rfl rfl rfl rfl (Y.anyS K rfl (Y.vS 1)) (fun _ _ _ _ => (Z.gname (i:=0) (show List.Nodup (["row","deck","program","lines","k","at","way"]:List Str) by decide +kernel) rfl (by walk_at "lc"))) (fun _ _ _ _ => Y.ts0) (fun _ _ _ _ => (Y.fn K rfl h_law_line (hr.mono (by decide)) rfl pass0 (Y.cons (Y.vS 0) Y.nil))))
   (Y.bcons (Y.forS PassesOwn.never rfl (Y.rng1 rfl T.b_range (Y.cons (Y.op (Y.op_addG K rfl) Y.ro_addS Y.int (Y.fn K rfl h_law_next (hr.mono (by decide)) rfl pass0 (Y.cons (Y.vS 0) (Y.cons Y.int Y.nil)))) Y.nil)) (Y.gname (i:=3) sc__law_spoilt.nd rfl (by walk_at "lc")) (Y.bcons (Y.set (i:=4) sc__law_spoilt.nd rfl (by walk_at "lc") (Y.fn K rfl h_law_next (hr.mono (by decide)) rfl pass0 (Y.cons (Y.vS 0) (Y.cons (Y.cb (Y.call_lenG K rfl) Y.rc_lenS rfl T.b_len (by decide +kernel) (Y.cons (Y.vS 2) Y.nil)) Y.nil))))
   (Y.bcons (Y.set (i:=5) sc__law_spoilt.nd rfl (by walk_at "lc") (Y.fn K rfl h_law_next (hr.mono (by decide)) rfl pass0 (Y.cons (Y.vS 0) (Y.cons Y.int Y.nil))))
   (Y.bone (Y.ifS (Y.tw (Y.wand (Y.tcmp (Y.op_eqG K rfl (Nat.lt_of_succ_lt hu)) Y.ro_eq (Y.vS 5) Y.int) (Y.wand1 (Y.tcmp op_gt Y.ro_bl (Y.cb (Y.call_lenG K rfl) Y.rc_lenS rfl T.b_len (by decide +kernel) (Y.cons (Y.vS 2) Y.nil)) Y.int)))) (Y.bone (Y.expr (Y.bm K rfl PySem.F.slot_list_pop PySem.F.type_list_pop mt_popAt Y.rm_popAt (Y.vS 2) (Y.cons (Y.vS 4) Y.nil)))) (Y.bone (Y.ifS (Y.tcmp (Y.op_eqG K rfl (Nat.lt_of_succ_lt hu)) Y.ro_eq (Y.vS 5) Y.int) (Y.bone (Y.expr (Y.bm K rfl PySem.F.slot_list_insert PySem.F.type_list_insert mt_insert Y.rm_insert (Y.vS 2) (Y.cons (Y.vS 4) (Y.cons (Y.ix (Y.ix_G K rfl) Y.ro_ixS (Y.vS 2) (Y.vS 4)) Y.nil))))) (Y.bone (Y.ifS (Y.tcmp (Y.op_eqG K rfl (Nat.lt_of_succ_lt hu)) Y.ro_eq (Y.vS 5) Y.int) (Y.bone (Y.asg (Y.ix (Y.ix_G K rfl) Y.ro_ixS (Y.lst (Y.consts2 rfl rfl)) (Y.fn K rfl h_law_next (hr.mono (by decide)) rfl pass0 (Y.cons (Y.vS 0) (Y.cons Y.int Y.nil)))) (Y.gsub (Y.vS 2) (Y.vS 4)))) (Y.bone (Y.ifS (Y.tcmp (Y.op_eqG K rfl (Nat.lt_of_succ_lt hu)) Y.ro_eq (Y.vS 5) Y.int) (Y.bone (Y.expr (Y.bm K rfl PySem.F.slot_list_append PySem.F.type_list_append mt_append Y.rm_append (Y.vS 2) (Y.cons (Y.ix (Y.ix_G K rfl) Y.ro_ixS (Y.lst (Y.consts2 rfl rfl)) (Y.fn K rfl h_law_next (hr.mono (by decide)) rfl pass0 (Y.cons (Y.vS 0) (Y.cons Y.int Y.nil)))) Y.nil)))) (Y.bone (Y.ifS (Y.tcmp (Y.op_eqG K rfl (Nat.lt_of_succ_lt hu)) Y.ro_eq (Y.vS 5) Y.int) (Y.bone (Y.asg (Y.op (Y.op_addG K rfl) Y.ro_addS Y.str (Y.ct ucall_str Y.rc_str rfl T.b_str (by decide +kernel) (Y.cons (Y.op (Y.op_addG K rfl) Y.ro_addS (Y.cb (Y.call_lenG K rfl) Y.rc_lenS rfl T.b_len (by decide +kernel) (Y.cons (Y.vS 2) Y.nil)) Y.int) Y.nil))) (Y.gsub (Y.vS 2) (Y.vS 4)))) (Y.bone (Y.asg (Y.fn K rfl h_law_spoilt_line (hr.mono (by decide)) rfl pass0 (Y.cons (Y.vS 0) (Y.cons (Y.ix (Y.ix_G K rfl) Y.ro_ixS (Y.vS 2) (Y.vS 4)) (Y.cons (Y.cb (Y.call_lenG K rfl) Y.rc_lenS rfl T.b_len (by decide +kernel) (Y.cons (Y.vS 2) Y.nil)) Y.nil)))) (Y.gsub (Y.vS 2) (Y.vS 4)))))))))))))))))
   (Y.bone (Y.ret (Y.sm K rfl PySem.F.slot_str_join PySem.F.type_str_join (Y.mt_joinG K rfl) Y.rm_join Y.str (Y.cons (Y.vS 2) Y.nil)))))),?_⟩
 refine seqT fun N hN => ?_;walk_at "rt";refine cmp_ind (fun rest acc μ => ∃ a b:List Row,rs = a ++ b /\ rest = pT b /\ acc = sT (a.map Row.line) /\ μ = [.pb d,.tr (.tup (pT rs)),.un,.un,.un,.un]) ⟨[],rs,rfl,rfl,rfl,rfl⟩ ?_ ?_
 rotate_left
 ·rintro t rr acc μ M ⟨a,b,e,e2,rfl,rfl⟩ k
  cases b with
  | nil => cases e2
  | cons x b =>
   have e2':t = x.t /\ rr = pT b:=by simpa [pT] using e2
   obtain ⟨rfl,rfl⟩:=e2';have hl:=congrArg List.length e;simp at hl;refine ⟨trivial,by rw [sT_len,List.length_map];exact Nat.lt_of_lt_of_le (show a.length < 200000 by omega) szLine,?_⟩
   walk_at "rt";refine ⟨x,rfl,hok x (by rw [e];simp),?_⟩
   walk_at "rt";exact k _ _ ⟨a ++ [x],b,by rw [e];simp,rfl,by simp [sT],rfl⟩
 rintro acc μ ⟨a,b,e,e2,rfl,rfl⟩;have:b = []:=by simpa [pT] using e2.symm
 subst this;rw [List.append_nil] at e;subst e;refine ⟨trivial,?_⟩;walk_at "rt";rw [hN];clear hN N;refine seqT fun N hN => ?_;walk_at "rt";refine ⟨d,3,n,rfl,hd,by omega,by decide,by decide,fun v d hv0 hv1 hd => ?_⟩
 walk_at "rt";refine ⟨by omega,by omega,?_⟩
 refine for_ind (fun rest μ => ∃ (i:Nat) (ls:List Str) (d:L2.T) (s3 s4 s5:Option L2.T),rest.length + i <= 3 /\ 1 <= ls.length /\ ls.length <= 40 + i /\ (∀ l ∈ ls,l.length <= Bd i) /\ Deck (n + 1 + 20 * i) d /\ μ = [.pb d,.tr (.tup (pT rs)),.bx (.lst (sT ls)),sl s3,sl s4,sl s5]) ⟨0,rs.map Row.line,d,none,none,none,?_,?_,?_,?_,hd,rfl⟩ ?_ ?_
 ·rw [List.length_map,List.length_range];omega
 ·rw [List.length_map];exact hr1
 ·rw [List.length_map];exact hr2
 ·intro l hl;obtain ⟨r,hr,rfl⟩:=List.mem_map.mp hl;exact line_len (hok r hr)
 ·rintro μ ⟨i,ls,d,s3,s4,s5,hi,h1,h2,hb,hd,rfl⟩;show N _;rw [hN];clear hN N;walk_at "rt";have bi:=Bd_le i (by simp at hi;omega)
  have hs:=sum_le fun z hz => Nat.le_trans (hb z hz) bi;have hm:ls.length * 1444 <= 43 * 1444:=Nat.mul_le_mul_right _ (by simp at hi;omega)
  have hj:(Str.join "\n" ls).length <= (ls.map (·.length)).sum + ls.length:=by rw [lineEnd];exact join_len 10 ls
  have e1:(Str.ofString "\n").length = 1:=by decide +kernel
  simp at hi;refine ⟨ls,rfl,by rw [e1];omega,q _ d (by omega) (hd.mono (by omega))⟩
 ·rintro t ts μ M ⟨i,ls,d,s3,s4,s5,hi,h1,h2,hb,hd,rfl⟩ k;rw [List.length_cons] at hi;have bi:=Bd_le i (by omega)
  have bu:=Bd_up i;have fin:∀ (ls':List Str) (d':L2.T) (s3 s4 s5:Option L2.T),1 <= ls'.length -> ls'.length <= ls.length + 1 -> (∀ l ∈ ls',l.length <= 28 \/ l ∈ ls \/ l.length <= 3 * Bd i + 28) -> Deck (n + 1 + 20 * i + 20) d' -> M [.pb d',.tr (.tup (pT rs)),.bx (.lst (sT ls')),sl s3,sl s4,sl s5]:=fun ls' d' s3 s4 s5 g1 g2 g3 g4 =>
   k _ ⟨i + 1,ls',d',s3,s4,s5,by omega,g1,by omega,fun l hl => by
    have e:Bd (i + 1) = 3 * Bd i + 28:=rfl;rcases g3 l hl with h | h | h
    ·omega
    ·have:=hb l h;omega
    ·omega,g4.mono (by omega),rfl⟩
  walk_at "rt";refine seqT fun M' hM => ?_;wp_walk using sT_len;refine ⟨d,ls.length,_,rfl,hd,by omega,by omega,by omega,fun at' d hat0 hat1 hd => ?_⟩
  walk_at "rt";rw [hM];clear hM M';refine seqT fun M' hM => ?_;walk_at "rt";refine ⟨d,9,_,rfl,hd,by omega,by decide,by decide,fun v d hv0 hv1 hd => ?_⟩
  walk_at "rt";rw [hM];clear hM M';obtain ⟨y1,hy1,ey1⟩:=at_sT (ws:=ls) hat0 hat1;have ixa:=ixN_in hat0 hat1;by_cases v0:v = 0 /\ 1 < ls.length
  ·obtain ⟨rfl,hl1⟩:=v0;wp_walk using sT_len,sT_erase,sqI_in hat0 hat1,if_pos (show (1:Int) < (ls.length:Int) by omega)
   have h1:at'.toNat < ls.length:=by omega
   have hel:=List.length_eraseIdx_of_lt h1;exact ⟨by omega,by omega,_,.str ls[at'.toNat],rfl,by unfold sT;rw [List.getElem?_map,List.getElem?_eq_getElem h1];rfl,fin (ls.eraseIdx at'.toNat) d (some t) (some _) (some _) (by omega) (by omega) (fun l hl => .inr (.inl (List.mem_of_mem_eraseIdx hl))) (hd.mono (by omega))⟩
  ·by_cases c1:v = 1
   ·subst c1;wp_walk using sT_len,sT_ins,ey1,(show ¬ (1:Int) = 0 by decide)
    refine ⟨hat0,by omega,Nat.lt_of_lt_of_le (show ls.length < 200000 by omega) szLine,fin _ d (some t) (some _) (some _) ?_ ?_ (fun l hl => ?_) (hd.mono (by omega))⟩
    ·rw [ins_len];omega
    ·rw [ins_len];omega
    ·rcases mem_ins hl with rfl | h
     ·exact .inr (.inl hy1)
     ·exact .inr (.inl h)
   ·by_cases c2:v = 2
    ·subst c2;wp_walk using sT_len,sT_set,ixa,(show ¬ (2:Int) = 0 by decide),(show ¬ (2:Int) = 1 by decide)
     refine ⟨by decide,d,6,_,rfl,hd,by omega,by decide,by decide,fun k d hk0 hk1 hd => ?_⟩
     obtain ⟨y,hy,ey⟩:=at_sT (ws:=[""," ","halt "," halt","jump","zero a"]) hk0 hk1;have hyl:y.length <= 28:=(show ∀ y ∈ ([""," ","halt "," halt","jump","zero a"]:List Str),y.length <= 28 by decide +kernel) y hy
     change atI [L2.T.str (Str.ofString ""),L2.T.str (Str.ofString " "),L2.T.str (Str.ofString "halt "),L2.T.str (Str.ofString " halt"),L2.T.str (Str.ofString "jump"),L2.T.str (Str.ofString "zero a")] k = _ at ey
     wp_walk using sT_len,sT_set,ixa,ey;refine fin _ d (some t) (some _) (some _) ?_ ?_ (fun l hl => ?_) (hd.mono (by omega))
     ·rw [List.length_set];exact h1
     ·rw [List.length_set];omega
     ·rcases List.mem_or_eq_of_mem_set hl with h | rfl
      ·exact .inr (.inl h)
      ·exact .inl hyl
    ·by_cases c3:v = 3
     ·subst c3;wp_walk using sT_len,sT_set,ixa,(show ¬ (3:Int) = 0 by decide),(show ¬ (3:Int) = 1 by decide),(show ¬ (3:Int) = 2 by decide)
      refine ⟨by decide,d,3,_,rfl,hd,by omega,by decide,by decide,fun k d hk0 hk1 hd => ?_⟩
      obtain ⟨y,hy,ey⟩:=at_sT (ws:=["","halt"," "]) hk0 hk1;have hyl:y.length <= 28:=(show ∀ y ∈ (["","halt"," "]:List Str),y.length <= 28 by decide +kernel) y hy
      change atI [L2.T.str (Str.ofString ""),L2.T.str (Str.ofString "halt"),L2.T.str (Str.ofString " ")] k = _ at ey
      wp_walk using sT_len,ey;refine ⟨Nat.lt_of_lt_of_le (show ls.length < 200000 by omega) szLine,?_⟩
      rw [show sT ls ++ [L2.T.str y] = sT (ls ++ [y]) by rw [sT_app];rfl]
      refine fin _ d (some t) (some _) (some _) ?_ ?_ (fun l hl => ?_) (hd.mono (by omega))
      ·rw [List.length_append,List.length_singleton];omega
      ·rw [List.length_append,List.length_singleton];omega
      ·rcases List.mem_append.mp hl with h | h
       ·exact .inr (.inl h)
       ·rw [List.mem_singleton.mp h];exact .inl hyl
     ·by_cases c4:v = 4
      ·subst c4;wp_walk using sT_len,sT_set,ixa,(show ¬ (4:Int) = 0 by decide),(show ¬ (4:Int) = 1 by decide),(show ¬ (4:Int) = 2 by decide),(show ¬ (4:Int) = 3 by decide)
       have hl4:(Str.ofString (toString ((ls.length:Int) + 1))).length <= 10:=num_len (n:=ls.length + 1) (by omega)
       have hl5:(Str.ofString "jump ").length = 5:=by decide +kernel
       refine ⟨log_small (show ls.length + 1 <= 100000 by omega),Nat.le_trans (show _ <= 200000 by omega) szLine,fin _ d (some t) (some _) (some _) ?_ ?_ (fun l hl => ?_) (hd.mono (by omega))⟩
       ·rw [List.length_set];exact h1
       ·rw [List.length_set];omega
       ·rcases List.mem_or_eq_of_mem_set hl with h | rfl
        ·exact .inr (.inl h)
        ·exact .inl (by rw [strLen_append];omega)
      ·have go:tSpl [d,.str y1,.int (ls.length:Nat)] fun r outs => match r,outs with
         | .tr (.str z),[d'] => M [.pb d',.tr (.tup (pT rs)),.bx (.lst (sT (ls.set at'.toNat z))),.tr t,.tr (.int at'),.tr (.int v)]
         | _,_ => False:=by
        have hy:=hb y1 hy1;refine ⟨d,y1,ls.length,_,rfl,hd,by omega,by omega,by omega,fun z d' hz hd' => ?_⟩
        refine fin _ d' (some t) (some _) (some _) ?_ ?_ (fun l hl => ?_) (hd'.mono (by omega))
        ·rw [List.length_set];exact h1
        ·rw [List.length_set];omega
        ·rcases List.mem_or_eq_of_mem_set hl with h | rfl
         ·exact .inr (.inl h)
         ·exact .inr (.inr (by omega))
       have up:∀ {Q1 Q2:R -> List L2.T -> Prop},(∀ z d',Q1 (.tr (.str z)) [d'] -> Q2 (.tr (.str z)) [d']) -> tSpl [d,.str y1,.int (ls.length:Nat)] Q1 -> tSpl [d,.str y1,.int (ls.length:Nat)] Q2:=by
        rintro Q1 Q2 h ⟨d0,l0,g0,n0,e0,a1,a2,a3,a4,a5⟩;exact ⟨d0,l0,g0,n0,e0,a1,a2,a3,a4,fun z d' b1 b2 => h z d' (a5 z d' b1 b2)⟩
       by_cases c0:v = 0
       ·have hl1:ls.length = 1:=by
         have:¬ 1 < ls.length:=fun h => v0 ⟨c0,h⟩
         omega
        subst c0;wp_walk using sT_len,sT_set,ey1,ixa,if_neg (show ¬ (1:Int) < (ls.length:Int) by omega),(show ¬ (0:Int) = 1 by decide),(show ¬ (0:Int) = 2 by decide),(show ¬ (0:Int) = 3 by decide),(show ¬ (0:Int) = 4 by decide)
        refine up (fun z d' h => ?_) go;wp_walk using sT_len,sT_set,ixa;exact h
       ·wp_walk using sT_len,sT_set,ey1,ixa,if_neg c0,if_neg c1,if_neg c2,if_neg c3,if_neg c4;refine up (fun z d' h => ?_) go;wp_walk using sT_len,sT_set,ixa;exact h
def fixS:List Str:=["","\n","halt\n","jump 1","jump 2","jump 2\n","jump 3\nhalt\nhalt","halt\njump 3","put a 65536"]
theorem ok_law {f:Addr} {fd:FuncData} (T:Txt K mg) (F:Fun K "law" "law" s_law f fd) (h_law_deck:CallOk P w K mg base CX0 1 "_law_deck" ["script"] (spT K [false] tDeck)) (h_law_program:CallOk P w K mg base CX0 5 "_law_program" ["deck","most"] (spT K [true,false] tProg)) (h_law_text:CallOk P w K mg base CX0 2 "_law_text" ["program"] (spT K [false] tText)) (h_law_spoilt:CallOk P w K mg base CX0 4 "_law_spoilt" ["deck","program"] (spT K [true,false] tSpo)) (h_law_right:CallOk P w K mg base CX0 6 "_law_right" ["text"] (spT K [false] tRight)) :
  FnOk P w K mg base CX0 7 f fd ["script"] (spLaw K):=by
 obtain ⟨C_ShortError,C_NoProgram,C_NoAsk,C_NoBits,C_NoCode,C_NoReach,C_NoRow,hC_ShortError,hC_NoProgram,hC_NoAsk,hC_NoBits,hC_NoCode,hC_NoReach,hC_NoRow,kC_ShortError,xC_NoProgram,p0,p1,p2,p3,p4,fI,fdI,xI_NoProgram,FI,bI_NoProgram,hd⟩:=T.xs;have nI_NoProgram:=ok_ini (P:=P) (w:=w) (mg:=mg) (base:=base) xI_NoProgram FI hC_ShortError;refine law_of (fun_okT F sc_law [false] rfl (by decide) (fun args Qt hl h cdv A outer s H E hr => ?_))
 have hu:=hu_of hr;obtain ⟨ns,rfl,hn,q⟩:=h;refine ⟨_,(Y.bcons (Y.set (i:=1) sc_law.nd rfl (by walk_at "lc") (Y.fn K rfl h_law_deck (hr.mono (by decide)) rfl pass0 (Y.cons (Y.vS 0) Y.nil)))
   (Y.bcons (Y.forS PassesOwn.never rfl (Y.rng1 rfl T.b_range (Y.cons Y.int Y.nil)) (Y.gname (i:=2) sc_law.nd rfl (by walk_at "lc")) (Y.bcons (Y.set (i:=3) sc_law.nd rfl (by walk_at "lc") (Y.fn K rfl h_law_program (hr.mono (by decide)) rfl pass0 (Y.cons (Y.vS 1) (Y.cons (Y.ix (Y.ix_G K rfl) Y.ro_ixS (Y.lst (Y.consts2 rfl rfl)) (Y.vS 2)) Y.nil))))
   (Y.bcons (Y.forS PassesOwn.never rfl (Y.rng1 rfl T.b_range (Y.cons Y.int Y.nil)) (Y.gname (i:=4) sc_law.nd rfl (by walk_at "lc")) (Y.bcons (Y.set (i:=5) sc_law.nd rfl (by walk_at "lc") (Y.fn K rfl h_law_spoilt (hr.mono (by decide)) rfl pass0 (Y.cons (Y.vS 1) (Y.cons (Y.vS 3) Y.nil))))
   (Y.bone (Y.ifS (Y.tw (Y.wor (Y.tnot (Y.ttruS K rfl (Y.fn K rfl h_law_right (hr.mono (by decide)) rfl pass0 (Y.cons (Y.vS 5) Y.nil)))) (Y.wor1 (Y.tnot (Y.ttruS K rfl (Y.fn K rfl h_law_right (hr.mono (by decide)) rfl pass0 (Y.cons (Y.vS 5) Y.nil))))))) (Y.bone (Y.ret Y.bl)) Y.bnil))))
   (Y.bcons (Y.set (i:=5) sc_law.nd rfl (by walk_at "lc") (Y.fn K rfl h_law_text (hr.mono (by decide)) rfl pass0 (Y.cons (Y.vS 3) Y.nil)))
   (Y.bone (Y.forS PassesOwn.never rfl (Y.anyS K rfl (Y.lst (Y.cons (Y.op (Y.op_addG K rfl) Y.ro_addS Y.str (Y.vS 5)) (Y.cons (Y.op (Y.op_addG K rfl) Y.ro_addS (Y.vS 5) Y.str) (Y.cons (Y.op (Y.op_addG K rfl) Y.ro_addS (Y.vS 5) Y.str) (Y.addRep (i:=5) rfl (by first | exact Or.inl rfl | exact Or.inr (Or.inl rfl) | exact Or.inr (Or.inr rfl)) (Y.cons (Y.vS 5) Y.nil))))))) (Y.gname (i:=6) sc_law.nd rfl (by walk_at "lc")) (Y.bone (Y.ifS (Y.tnot (Y.ttruS K rfl (Y.fn K rfl h_law_right (hr.mono (by decide)) rfl pass0 (Y.cons (Y.vS 6) Y.nil)))) (Y.bone (Y.ret Y.bl)) Y.bnil))))))))
   (Y.bcons (Y.set (i:=7) sc_law.nd rfl (by walk_at "lc") (Y.lst (Y.consts2 rfl rfl)))
   (Y.bcons (Y.ifS (Y.tcmp (Y.op_neG K rfl (Nat.lt_of_succ_lt hu)) Y.ro_neG (Y.comp1 (osc:=defScope s_law) (ON:=["script","deck","turn","program","k","text","odd","fixed"]) (own:=["text"]) (N:=["text","script","deck","turn","program","k",".text","odd","fixed"]) ⟨rfl,by decide +kernel,rfl,by decide +kernel,by decide +kernel,by decide +kernel,by decide +kernel,by decide +kernel⟩ rfl rfl rfl rfl (Y.anyS K rfl (Y.vS 7)) (fun _ _ _ _ => (Z.gname (i:=0) (show List.Nodup (["text","script","deck","turn","program","k",".text","odd","fixed"]:List Str) by decide +kernel) rfl (by walk_at "lc"))) (fun _ _ _ _ => (Y.ts1 (Y.tnot (Y.ttruS K rfl (Y.fn K rfl h_law_right (hr.mono (by decide)) rfl pass0 (Y.cons (Y.vS 0) Y.nil)))))) (fun _ _ _ _ => (Y.vS 0))) (Y.lst Y.nil)) (Y.bone (Y.ret Y.bl)) Y.bnil)
   (Y.bone (Y.ret (Y.and (Y.cmp (Y.op_eqG K rfl (Nat.lt_of_succ_lt hu)) Y.ro_eq (Y.att K rfl (Y.newE xI_NoProgram nI_NoProgram bI_NoProgram (hr.mono (by decide)) rfl rfl hC_NoProgram Y.int)) Y.int) (Y.one (Y.isiY1 (y:=.ref C_ShortError) (c:=.ref C_ShortError) K rfl rfl T.b_isinstance (Y.newE xI_NoProgram nI_NoProgram bI_NoProgram (hr.mono (by decide)) rfl rfl hC_NoProgram Y.int) (Z.glob rfl hC_ShortError rfl) (fun _ h => h)))))))))),?_⟩
 refine seqT fun N hN => ?_;show Y.uAsg _ _ _ (startM [false] [.rol (nI ns)] _);walk_at "rt";refine ⟨ns,rfl,hn,fun d D => ?_⟩;walk_at "rt";rw [hN];clear hN N;refine seqT fun N hN => ?_;walk_at "rt";refine ⟨by decide,by decide,?_⟩
 refine for_ind (fun rest μ => ∃ (i:Nat) (l:List Nat) (d:L2.T) (s2 s3 s4 s5 s6:Option L2.T),(rest = l.map fun k => L2.T.int (0 + (k:Nat))) /\ l.length + i = 4 /\ (∀ k ∈ l,k < 4) /\ Deck (2000 * i) d /\ μ = [.tr (.rol (nI ns)),.bx d,sl s2,sl s3,sl s4,sl s5,sl s6,.un]) ⟨0,List.range 4,d,none,none,none,none,none,rfl,rfl,by simp,D,rfl⟩ ?_ ?_
 ·rintro μ ⟨i,l,d,s2,s3,s4,s5,s6,e,hl,hk,D,rfl⟩;show N _;rw [hN];clear hN N;refine seqT fun N hN => ?_;walk_at "rt";refine ⟨by decide,?_⟩
  rw [hN];clear hN N;refine seqT fun N hN => ?_;show Y.uIfS _ _ _ _ [.tr (.rol (nI ns)),.bx d,sl s2,sl s3,sl s4,sl s5,sl s6,.bx (.lst (sT fixS))];have hfx:∀ z ∈ fixS,z.length <= 80000:=by decide +kernel
  generalize fixS = fx at *;walk_at "rt";refine cmp_ind (fun rest acc μ => ∃ l:List Str,rest = sT l /\ (∀ z ∈ l,z.length <= 80000) /\ acc = [] /\ μ = [.tr (.rol (nI ns)),.bx d,sl s2,sl s3,sl s4,sl s5,sl s6,.bx (.lst (sT fx))]) ⟨fx,rfl,hfx,rfl,rfl⟩ ?_ ?_
  ·rintro acc μ ⟨l,e,hz,rfl,rfl⟩;refine ⟨rfl,?_⟩;walk_at "rt";refine ⟨rfl,rfl,?_⟩;rw [if_neg (by decide),hN];clear hN N
   wp_walk using p3;have b3:Int.natAbs 3 < 2 ^ 1900:=Nat.lt_of_lt_of_le (by decide:3 < 2 ^ 2) (Nat.pow_le_pow_right (by decide) (by decide))
   refine ⟨b3,⟨_,rfl,xC_NoProgram,hd,xI_NoProgram.ha⟩,?_⟩;rw [decide_true];exact ⟨b3,⟨_,rfl,xC_NoProgram⟩,q⟩
  ·rintro t r acc μ M ⟨l,e,hz,rfl,rfl⟩ k
   cases l with
   | nil => cases e
   | cons z l =>
    have e':t = .str z /\ r = sT l:=by simpa [sT] using e
    obtain ⟨rfl,rfl⟩:=e';refine ⟨rfl,by decide,?_⟩
    walk_at "rt";refine ⟨z,rfl,hz z List.mem_cons_self,?_⟩;walk_at "rt";exact k _ _ ⟨l,rfl,fun y hy => hz y (List.mem_cons_of_mem _ hy),rfl,rfl⟩
 ·rintro t ts μ M ⟨i,l,d,s2,s3,s4,s5,s6,e,hl,hk,D,rfl⟩ k
  cases l with
  | nil => cases e
  | cons x l =>
   have e':t = .int (0 + (x:Nat)) /\ ts = l.map fun k => L2.T.int (0 + (k:Nat)):=by simpa using e
   obtain ⟨rfl,rfl⟩:=e';have hx:=hk x List.mem_cons_self;have hl3:l.length + 1 + i = 4:=hl;obtain ⟨m,hm,ha⟩:∃ m:Nat,(1 <= m /\ m <= 40) /\ atI [L2.T.int 40,.int 9,.int 3,.int 9] (0 + (x:Nat)) = some (.int (m:Nat)):=by
    match x,hx with
    | 0,_ => exact ⟨40,by decide,rfl⟩
    | 1,_ => exact ⟨9,by decide,rfl⟩
    | 2,_ => exact ⟨3,by decide,rfl⟩
    | 3,_ => exact ⟨9,by decide,rfl⟩
   walk_at "rt";refine seqT fun M' hM => ?_;wp_walk using ha;refine ⟨by decide,d,m,2000 * i,rfl,D,by omega,hm.1,by omega,fun rs d r1 r2 r3 D => ?_⟩
   walk_at "rt";have ok5:∀ r ∈ rs,r.Ok 100000:=fun r hr => (r3 r hr).mono (by omega)
   have tl:=ptext_len ok5;rw [hM];clear hM M';refine seqT fun M' hM => ?_;walk_at "rt";refine ⟨by decide,by decide,?_⟩
   refine for_ind (fun rest μ => ∃ (j:Nat) (d:L2.T) (s4 s5 s6:Option L2.T),rest.length + j = 3 /\ Deck (2000 * i + 1000 + 100 * j) d /\ μ = [.tr (.rol (nI ns)),.bx d,.tr (.int (0 + (x:Nat))),.tr (.tup (pT rs)),sl s4,sl s5,sl s6,.un]) ⟨0,d,s4,s5,s6,rfl,D,rfl⟩ ?_ ?_
   ·rintro μ ⟨j,d,s4,s5,s6,hj,D,rfl⟩;have hj3:j = 3:=by simpa using hj
    subst hj3;show M' _;rw [hM];clear hM M';refine seqT fun M' hM => ?_;walk_at "rt";refine ⟨rs,.inl rfl,by omega,ok5,?_⟩
    generalize ptext rs = tx at *;walk_at "rt";rw [hM];clear hM M';walk_at "rt";have e1:(Str.ofString " ").length = 1 /\ (Str.ofString "\n").length = 1 /\ (Str.ofString "  ").length = 2:=by decide +kernel
    obtain ⟨e1,e2,e3⟩:=e1;have big:∀ a:Nat,a <= 200000 -> a <= sizeLine:=fun a h => Nat.le_trans h szLine;refine ⟨big _ (by omega),big _ (by omega),big _ (by omega),big _ (by omega),by omega,fun w' hw => ⟨by decide,?_⟩⟩
    refine for_ind (fun rest μ => ∃ (l:List Str) (s6:Option L2.T),rest = sT l /\ (∀ z ∈ l,z.length <= 80000) /\ μ = [.tr (.rol (nI ns)),.bx d,.tr (.int (0 + (x:Nat))),.tr (.tup (pT rs)),sl s4,.tr (.str tx),sl s6,.un]) ⟨[Str.ofString " " ++ tx,tx ++ Str.ofString " ",tx ++ Str.ofString "\n",Str.ofString "\n" ++ tx,w',tx],s6,rfl,?_,rfl⟩ ?_ ?_
    ·intro z hz;simp only [List.mem_cons,List.not_mem_nil,or_false] at hz;rcases hz with rfl | rfl | rfl | rfl | rfl | rfl
     all_goals first | (rw [strLen_append];omega) | omega
    ·rintro μ ⟨l,s6,_,_,rfl⟩;exact k _ ⟨i + 1,_,d,some _,some _,s4,some _,s6,rfl,by omega,fun y hy => hk y (List.mem_cons_of_mem _ hy),D.mono (by omega),rfl⟩
    ·rintro t ts μ M2 ⟨l,s6,e,hz,rfl⟩ k2
     cases l with
     | nil => cases e
     | cons z l =>
      have e':t = .str z /\ ts = sT l:=by simpa [sT] using e
      obtain ⟨rfl,rfl⟩:=e';walk_at "rt";refine ⟨z,rfl,hz z List.mem_cons_self,?_⟩;walk_at "rt";exact k2 _ ⟨l,some _,rfl,fun y hy => hz y (List.mem_cons_of_mem _ hy),rfl⟩
   ·rintro t ts μ M2 ⟨j,d,s4,s5,s6,hj,D,rfl⟩ k2;rw [List.length_cons] at hj;walk_at "rt";refine seqT fun M' hM => ?_;walk_at "rt";refine ⟨d,rs,_,rfl,D,by omega,r1,by omega,ok5,fun z d hz D => ?_⟩
    walk_at "rt";rw [hM];clear hM M';walk_at "rt";refine ⟨z,rfl,by omega,?_⟩
    walk_at "rt";refine ⟨z,rfl,by omega,?_⟩
    walk_at "rt";exact k2 _ ⟨j + 1,d,some _,some _,s6,by omega,D.mono (by omega),rfl⟩
theorem all_ok {f:Addr} {fd:FuncData} (T:Txt K mg) (f_read_program:HasFn K mg "read_program" s_read_program ["text"]) (f_read_row:HasFn K mg "read_row" s_read_row ["line","greatest_goal"]) (f_read_part:HasFn K mg "read_part" s_read_part ["kind","part","greatest_goal"]) (f_read_number:HasFn K mg "read_number" s_read_number ["text","greatest"]) (f_is_number:HasFn K mg "is_number" s_is_number ["text"]) (f__law_mix:HasFn K mg "_law_mix" s__law_mix ["cell","k"]) (f__law_deck:HasFn K mg "_law_deck" s__law_deck ["script"]) (f__law_next:HasFn K mg "_law_next" s__law_next ["deck","many"]) (f__law_number:HasFn K mg "_law_number" s__law_number ["deck"]) (f__law_row:HasFn K mg "_law_row" s__law_row ["deck","size"]) (f__law_program:HasFn K mg "_law_program" s__law_program ["deck","most"]) (f__law_line:HasFn K mg "_law_line" s__law_line ["row"]) (f__law_text:HasFn K mg "_law_text" s__law_text ["program"]) (f__law_figures:HasFn K mg "_law_figures" s__law_figures ["word"]) (f__law_reading:HasFn K mg "_law_reading" s__law_reading ["line","lines"]) (f__law_due:HasFn K mg "_law_due" s__law_due ["text"]) (f__law_spoilt_line:HasFn K mg "_law_spoilt_line" s__law_spoilt_line ["deck","line","lines"]) (f__law_spoilt:HasFn K mg "_law_spoilt" s__law_spoilt ["deck","program"]) (f__law_right:HasFn K mg "_law_right" s__law_right ["text"]) (F:Fun K "law" "law" s_law f fd) :
  FnOk P w K mg base CX0 7 f fd ["script"] (spLaw K):=by
 have nx:=ok_next (P:=P) (w:=w) (base:=base) T f__law_next (ok_mix T f__law_mix);have ln:=ok_line (P:=P) (w:=w) (base:=base) T f__law_line;exact ok_law T F (ok_deck T f__law_deck) (ok_program T f__law_program nx (ok_row T f__law_row nx (ok_number T f__law_number nx))) (ok_text T f__law_text ln) (ok_spo T f__law_spoilt nx ln (ok_spl T f__law_spoilt_line nx)) (ok_right T f__law_right (ok_readX T f_read_program (ok_rdrow T f_read_row (ok_rdpart T f_read_part (ok_rdnum T f_read_number (ok_isnum T f_is_number))))) (ok_due T f__law_due (ok_reading T f__law_reading (ok_fig T f__law_figures))))
theorem all_mk {l:PySem.W.OpenLaw} {w:World} {K:PySem.W.Frag} {h:Heap} {mg:Str -> Option Value} {fa:Addr} (X:K.In h) (G:h.Ns mainGlobals mg) (hfa:mg "law" = some (.ref fa))
  {f0 f1 f2 f3 f4 f5 f6 f7 f8 f9 f10 f11 f12 f13 f14 f15 f16 f17 f18 f19:Addr} {od0 an0 od1 an1 od2 an2 od3 an3 od4 an4 od5 an5 od6 an6 od7 an7 od8 an8 od9 an9 od10 an10 od11 an11 od12 an12 od13 an13 od14 an14 od15 an15 od16 an16 od17 an17 od18 an18 od19 an19:Option Addr} {sl0 sl1 sl2 sl3 sl4 sl5 sl6 sl7 sl8 sl9 sl10 sl11 sl12 sl13 sl14 sl15 sl16 sl17 sl18 sl19:Array (Option Value)} {oc0 kV0 dc0 pm0 cd0 ct0 oc1 kV1 dc1 pm1 cd1 ct1 oc2 kV2 dc2 pm2 cd2 ct2 oc3 kV3 dc3 pm3 cd3 ct3 oc4 kV4 dc4 pm4 cd4 ct4 oc5 kV5 dc5 pm5 cd5 ct5 oc6 kV6 dc6 pm6 cd6 ct6 oc7 kV7 dc7 pm7 cd7 ct7 oc8 kV8 dc8 pm8 cd8 ct8 oc9 kV9 dc9 pm9 cd9 ct9 oc10 kV10 dc10 pm10 cd10 ct10 oc11 kV11 dc11 pm11 cd11 ct11 oc12 kV12 dc12 pm12 cd12 ct12 oc13 kV13 dc13 pm13 cd13 ct13 oc14 kV14 dc14 pm14 cd14 ct14 oc15 kV15 dc15 pm15 cd15 ct15 oc16 kV16 dc16 pm16 cd16 ct16 oc17 kV17 dc17 pm17 cd17 ct17 oc18 kV18 dc18 pm18 cd18 ct18 oc19 kV19 dc19 pm19 cd19 ct19:Value}
  {q0:Addr} {qd0:Option Addr} {qn0:Nat} {qs0:Array (Option Value)} {w0_0 w0_1 w0_2 w0_3 w0_4 w0_5 w0_6 w0_7:Tok}
  {w1_0:Tok}
  {w2_0:Tok}
  {dd0:Addr} {dh0_ep:Nat} {dh0_0 dh0_1 dh0_2 dh0_3 dh0_4 dh0_5 dh0_6 dh0_7 dh0_8:Int} {dp0_0 dp0_1 dp0_2 dp0_3 dp0_4 dp0_5 dp0_6 dp0_7 dp0_8:Addr} {do0_0 do0_1 do0_2 do0_3 do0_4 do0_5 do0_6 do0_7 do0_8:Option Addr} {dn0_0 dn0_1 dn0_2 dn0_3 dn0_4 dn0_5 dn0_6 dn0_7 dn0_8:Nat} {ds0_0 ds0_1 ds0_2 ds0_3 ds0_4 ds0_5 ds0_6 ds0_7 ds0_8:Array (Option Value)} {dt0_0 dt0_1 dt0_2 dt0_3 dt0_4 dt0_5 dt0_6 dt0_7 dt0_8 dw0_0_0 dw0_0_1 dw0_1_0 dw0_1_1 dw0_2_0 dw0_2_1 dw0_3_0 dw0_3_1 dw0_4_0 dw0_5_0 dw0_6_0 dw0_7_0 dw0_7_1:Tok}
  {xd_ShortError xd_NoProgram xd_NoAsk xd_NoBits xd_NoCode xd_NoReach xd_NoRow:Addr}
  {in_f in_N:Addr} {in_nm in_qn:Str} {in_bs in_sub:List Value} {in_sn:List Str} {in_ab:Bool} {in_col:Option Bool} {in_dd in_od in_an:Option Addr} {in_k0 in_k1 in_k2 in_k3 in_k5:Option Value} {in_oc in_kV in_dc in_pm in_cd in_ct:Value} {in_sl:Array (Option Value)}
  (a0:PySem.W.nsIn K mainGlobals "read_program" = some (some (.ref f0))) (l0:K.lookup f0 = some ⟨oc0,od0,.func (PySem.W.fnOf "read_program" "read_program" (defArgs s_read_program) (defBody s_read_program) (defScope s_read_program) .none kV0 dc0 pm0 an0 cd0 ct0),sl0⟩) (c0:PySem.W.codeIn K cd0 "read_program" = true) (k0:PySem.W.keepIn K (.ref f0) = true)
  (a1:PySem.W.nsIn K mainGlobals "read_row" = some (some (.ref f1))) (l1:K.lookup f1 = some ⟨oc1,od1,.func (PySem.W.fnOf "read_row" "read_row" (defArgs s_read_row) (defBody s_read_row) (defScope s_read_row) .none kV1 dc1 pm1 an1 cd1 ct1),sl1⟩) (c1:PySem.W.codeIn K cd1 "read_row" = true) (k1:PySem.W.keepIn K (.ref f1) = true)
  (a2:PySem.W.nsIn K mainGlobals "read_part" = some (some (.ref f2))) (l2:K.lookup f2 = some ⟨oc2,od2,.func (PySem.W.fnOf "read_part" "read_part" (defArgs s_read_part) (defBody s_read_part) (defScope s_read_part) .none kV2 dc2 pm2 an2 cd2 ct2),sl2⟩) (c2:PySem.W.codeIn K cd2 "read_part" = true) (k2:PySem.W.keepIn K (.ref f2) = true)
  (a3:PySem.W.nsIn K mainGlobals "read_number" = some (some (.ref f3))) (l3:K.lookup f3 = some ⟨oc3,od3,.func (PySem.W.fnOf "read_number" "read_number" (defArgs s_read_number) (defBody s_read_number) (defScope s_read_number) .none kV3 dc3 pm3 an3 cd3 ct3),sl3⟩) (c3:PySem.W.codeIn K cd3 "read_number" = true) (k3:PySem.W.keepIn K (.ref f3) = true)
  (a4:PySem.W.nsIn K mainGlobals "is_number" = some (some (.ref f4))) (l4:K.lookup f4 = some ⟨oc4,od4,.func (PySem.W.fnOf "is_number" "is_number" (defArgs s_is_number) (defBody s_is_number) (defScope s_is_number) .none kV4 dc4 pm4 an4 cd4 ct4),sl4⟩) (c4:PySem.W.codeIn K cd4 "is_number" = true) (k4:PySem.W.keepIn K (.ref f4) = true)
  (a5:PySem.W.nsIn K mainGlobals "_law_mix" = some (some (.ref f5))) (l5:K.lookup f5 = some ⟨oc5,od5,.func (PySem.W.fnOf "_law_mix" "_law_mix" (defArgs s__law_mix) (defBody s__law_mix) (defScope s__law_mix) .none kV5 dc5 pm5 an5 cd5 ct5),sl5⟩) (c5:PySem.W.codeIn K cd5 "_law_mix" = true) (k5:PySem.W.keepIn K (.ref f5) = true)
  (a6:PySem.W.nsIn K mainGlobals "_law_deck" = some (some (.ref f6))) (l6:K.lookup f6 = some ⟨oc6,od6,.func (PySem.W.fnOf "_law_deck" "_law_deck" (defArgs s__law_deck) (defBody s__law_deck) (defScope s__law_deck) .none kV6 dc6 pm6 an6 cd6 ct6),sl6⟩) (c6:PySem.W.codeIn K cd6 "_law_deck" = true) (k6:PySem.W.keepIn K (.ref f6) = true)
  (a7:PySem.W.nsIn K mainGlobals "_law_next" = some (some (.ref f7))) (l7:K.lookup f7 = some ⟨oc7,od7,.func (PySem.W.fnOf "_law_next" "_law_next" (defArgs s__law_next) (defBody s__law_next) (defScope s__law_next) .none kV7 dc7 pm7 an7 cd7 ct7),sl7⟩) (c7:PySem.W.codeIn K cd7 "_law_next" = true) (k7:PySem.W.keepIn K (.ref f7) = true)
  (a8:PySem.W.nsIn K mainGlobals "_law_number" = some (some (.ref f8))) (l8:K.lookup f8 = some ⟨oc8,od8,.func (PySem.W.fnOf "_law_number" "_law_number" (defArgs s__law_number) (defBody s__law_number) (defScope s__law_number) .none kV8 dc8 pm8 an8 cd8 ct8),sl8⟩) (c8:PySem.W.codeIn K cd8 "_law_number" = true) (k8:PySem.W.keepIn K (.ref f8) = true)
  (a9:PySem.W.nsIn K mainGlobals "_law_row" = some (some (.ref f9))) (l9:K.lookup f9 = some ⟨oc9,od9,.func (PySem.W.fnOf "_law_row" "_law_row" (defArgs s__law_row) (defBody s__law_row) (defScope s__law_row) .none kV9 dc9 pm9 an9 cd9 ct9),sl9⟩) (c9:PySem.W.codeIn K cd9 "_law_row" = true) (k9:PySem.W.keepIn K (.ref f9) = true)
  (a10:PySem.W.nsIn K mainGlobals "_law_program" = some (some (.ref f10))) (l10:K.lookup f10 = some ⟨oc10,od10,.func (PySem.W.fnOf "_law_program" "_law_program" (defArgs s__law_program) (defBody s__law_program) (defScope s__law_program) .none kV10 dc10 pm10 an10 cd10 ct10),sl10⟩) (c10:PySem.W.codeIn K cd10 "_law_program" = true) (k10:PySem.W.keepIn K (.ref f10) = true)
  (a11:PySem.W.nsIn K mainGlobals "_law_line" = some (some (.ref f11))) (l11:K.lookup f11 = some ⟨oc11,od11,.func (PySem.W.fnOf "_law_line" "_law_line" (defArgs s__law_line) (defBody s__law_line) (defScope s__law_line) .none kV11 dc11 pm11 an11 cd11 ct11),sl11⟩) (c11:PySem.W.codeIn K cd11 "_law_line" = true) (k11:PySem.W.keepIn K (.ref f11) = true)
  (a12:PySem.W.nsIn K mainGlobals "_law_text" = some (some (.ref f12))) (l12:K.lookup f12 = some ⟨oc12,od12,.func (PySem.W.fnOf "_law_text" "_law_text" (defArgs s__law_text) (defBody s__law_text) (defScope s__law_text) .none kV12 dc12 pm12 an12 cd12 ct12),sl12⟩) (c12:PySem.W.codeIn K cd12 "_law_text" = true) (k12:PySem.W.keepIn K (.ref f12) = true)
  (a13:PySem.W.nsIn K mainGlobals "_law_figures" = some (some (.ref f13))) (l13:K.lookup f13 = some ⟨oc13,od13,.func (PySem.W.fnOf "_law_figures" "_law_figures" (defArgs s__law_figures) (defBody s__law_figures) (defScope s__law_figures) .none kV13 dc13 pm13 an13 cd13 ct13),sl13⟩) (c13:PySem.W.codeIn K cd13 "_law_figures" = true) (k13:PySem.W.keepIn K (.ref f13) = true)
  (a14:PySem.W.nsIn K mainGlobals "_law_reading" = some (some (.ref f14))) (l14:K.lookup f14 = some ⟨oc14,od14,.func (PySem.W.fnOf "_law_reading" "_law_reading" (defArgs s__law_reading) (defBody s__law_reading) (defScope s__law_reading) .none kV14 dc14 pm14 an14 cd14 ct14),sl14⟩) (c14:PySem.W.codeIn K cd14 "_law_reading" = true) (k14:PySem.W.keepIn K (.ref f14) = true)
  (a15:PySem.W.nsIn K mainGlobals "_law_due" = some (some (.ref f15))) (l15:K.lookup f15 = some ⟨oc15,od15,.func (PySem.W.fnOf "_law_due" "_law_due" (defArgs s__law_due) (defBody s__law_due) (defScope s__law_due) .none kV15 dc15 pm15 an15 cd15 ct15),sl15⟩) (c15:PySem.W.codeIn K cd15 "_law_due" = true) (k15:PySem.W.keepIn K (.ref f15) = true)
  (a16:PySem.W.nsIn K mainGlobals "_law_spoilt_line" = some (some (.ref f16))) (l16:K.lookup f16 = some ⟨oc16,od16,.func (PySem.W.fnOf "_law_spoilt_line" "_law_spoilt_line" (defArgs s__law_spoilt_line) (defBody s__law_spoilt_line) (defScope s__law_spoilt_line) .none kV16 dc16 pm16 an16 cd16 ct16),sl16⟩) (c16:PySem.W.codeIn K cd16 "_law_spoilt_line" = true) (k16:PySem.W.keepIn K (.ref f16) = true)
  (a17:PySem.W.nsIn K mainGlobals "_law_spoilt" = some (some (.ref f17))) (l17:K.lookup f17 = some ⟨oc17,od17,.func (PySem.W.fnOf "_law_spoilt" "_law_spoilt" (defArgs s__law_spoilt) (defBody s__law_spoilt) (defScope s__law_spoilt) .none kV17 dc17 pm17 an17 cd17 ct17),sl17⟩) (c17:PySem.W.codeIn K cd17 "_law_spoilt" = true) (k17:PySem.W.keepIn K (.ref f17) = true)
  (a18:PySem.W.nsIn K mainGlobals "_law_right" = some (some (.ref f18))) (l18:K.lookup f18 = some ⟨oc18,od18,.func (PySem.W.fnOf "_law_right" "_law_right" (defArgs s__law_right) (defBody s__law_right) (defScope s__law_right) .none kV18 dc18 pm18 an18 cd18 ct18),sl18⟩) (c18:PySem.W.codeIn K cd18 "_law_right" = true) (k18:PySem.W.keepIn K (.ref f18) = true)
  (a19:PySem.W.nsIn K mainGlobals "law" = some (some (.ref f19))) (l19:K.lookup f19 = some ⟨oc19,od19,.func (PySem.W.fnOf "law" "law" (defArgs s_law) (defBody s_law) (defScope s_law) .none kV19 dc19 pm19 an19 cd19 ct19),sl19⟩) (c19:PySem.W.codeIn K cd19 "law" = true) (k19:PySem.W.keepIn K (.ref f19) = true)
  (z0:PySem.W.nsIn K mainGlobals "ValueError" = some none)
  (z1:PySem.W.nsIn K mainGlobals "all" = some none)
  (z2:PySem.W.nsIn K mainGlobals "bool" = some none)
  (z3:PySem.W.nsIn K mainGlobals "enumerate" = some none)
  (z4:PySem.W.nsIn K mainGlobals "int" = some none)
  (z5:PySem.W.nsIn K mainGlobals "isinstance" = some none)
  (z6:PySem.W.nsIn K mainGlobals "len" = some none)
  (z7:PySem.W.nsIn K mainGlobals "list" = some none)
  (z8:PySem.W.nsIn K mainGlobals "min" = some none)
  (z9:PySem.W.nsIn K mainGlobals "range" = some none)
  (z10:PySem.W.nsIn K mainGlobals "str" = some none)
  (z11:PySem.W.nsIn K mainGlobals "sum" = some none)
  (z12:PySem.W.nsIn K mainGlobals "tuple" = some none)
  (z13:PySem.W.nsIn K mainGlobals "zip" = some none)
  (g0:PySem.W.nsIn K mainGlobals "BOXES" = some (some (.ref q0))) (m0:K.lookup q0 = some ⟨.type "tuple",qd0,.seq #[.str "a" w0_0,.str "b" w0_1,.str "c" w0_2,.str "d" w0_3,.str "e" w0_4,.str "f" w0_5,.str "g" w0_6,.str "h" w0_7] qn0,qs0⟩)
  (g1:PySem.W.nsIn K mainGlobals "FIGURES" = some (some (.str "0123456789" w1_0)))
  (g2:PySem.W.nsIn K mainGlobals "WHOLE" = some (some (.int 65536 w2_0)))
  (dg0:PySem.W.nsIn K mainGlobals "SHAPES" = some (some (.ref dd0))) (dz0:(dd0 == sysModules) = false) (dl0:K.lookup dd0 = some ⟨.type "dict",none,.dict #[⟨dh0_0,.str "put" dt0_0,.ref dp0_0⟩,⟨dh0_1,.str "add" dt0_1,.ref dp0_1⟩,⟨dh0_2,.str "sub" dt0_2,.ref dp0_2⟩,⟨dh0_3,.str "copy" dt0_3,.ref dp0_3⟩,⟨dh0_4,.str "tell" dt0_4,.ref dp0_4⟩,⟨dh0_5,.str "hear" dt0_5,.ref dp0_5⟩,⟨dh0_6,.str "jump" dt0_6,.ref dp0_6⟩,⟨dh0_7,.str "zero" dt0_7,.ref dp0_7⟩,⟨dh0_8,.str "halt" dt0_8,.ref dp0_8⟩] dh0_ep,#[]⟩)
  (dm0_0:K.lookup dp0_0 = some ⟨.type "tuple",do0_0,.seq #[.str "box" dw0_0_0,.str "number" dw0_0_1] dn0_0,ds0_0⟩)
  (dm0_1:K.lookup dp0_1 = some ⟨.type "tuple",do0_1,.seq #[.str "box" dw0_1_0,.str "box" dw0_1_1] dn0_1,ds0_1⟩)
  (dm0_2:K.lookup dp0_2 = some ⟨.type "tuple",do0_2,.seq #[.str "box" dw0_2_0,.str "box" dw0_2_1] dn0_2,ds0_2⟩)
  (dm0_3:K.lookup dp0_3 = some ⟨.type "tuple",do0_3,.seq #[.str "box" dw0_3_0,.str "box" dw0_3_1] dn0_3,ds0_3⟩)
  (dm0_4:K.lookup dp0_4 = some ⟨.type "tuple",do0_4,.seq #[.str "box" dw0_4_0] dn0_4,ds0_4⟩)
  (dm0_5:K.lookup dp0_5 = some ⟨.type "tuple",do0_5,.seq #[.str "box" dw0_5_0] dn0_5,ds0_5⟩)
  (dm0_6:K.lookup dp0_6 = some ⟨.type "tuple",do0_6,.seq #[.str "goal" dw0_6_0] dn0_6,ds0_6⟩)
  (dm0_7:K.lookup dp0_7 = some ⟨.type "tuple",do0_7,.seq #[.str "box" dw0_7_0,.str "goal" dw0_7_1] dn0_7,ds0_7⟩)
  (dm0_8:K.lookup dp0_8 = some ⟨.type "tuple",do0_8,.seq #[] dn0_8,ds0_8⟩)
  (xf0:PySem.W.nsIn K mainGlobals "ShortError" = some (some (.ref xd_ShortError)))
  (xf1:PySem.W.nsIn K mainGlobals "NoProgram" = some (some (.ref xd_NoProgram)))
  (xf2:PySem.W.nsIn K mainGlobals "NoAsk" = some (some (.ref xd_NoAsk)))
  (xf3:PySem.W.nsIn K mainGlobals "NoBits" = some (some (.ref xd_NoBits)))
  (xf4:PySem.W.nsIn K mainGlobals "NoCode" = some (some (.ref xd_NoCode)))
  (xf5:PySem.W.nsIn K mainGlobals "NoReach" = some (some (.ref xd_NoReach)))
  (xf6:PySem.W.nsIn K mainGlobals "NoRow" = some (some (.ref xd_NoRow)))
  (xf7:PySem.W.excIn K xd_ShortError [.type "ValueError",.type "Exception",.type "BaseException",.type "object"] "ValueError.__new__" = true)
  (xf8:PySem.W.findIn K (.ref xd_NoProgram) "__getattribute__" = some (some (.builtin "BaseException.__getattribute__")))
  (xf9:PySem.W.findIn K (.ref xd_NoProgram) "__getattr__" = some none)
  (xf10:PySem.W.findIn K (.ref xd_NoProgram) "__class__" = some (some (.builtin "object.__class__")))
  (xf11:PySem.W.specialIn K (.builtin "object.__class__") "__get__" = some (some (.builtin "getset_descriptor.__get__")))
  (xf12:PySem.W.takesIn K (.builtin "object.__class__") = some true)
  (xf13:PySem.W.mroIn K xd_NoProgram (.type "object") = some true)
  (xf14:PySem.W.mroIn K xd_NoProgram (.type "BaseException") = some true)
  (xf15:PySem.W.mroIn K xd_NoProgram (.ref xd_ShortError) = some true)
  (xf16:PySem.W.kitOne K (.ref xd_NoProgram) (.ref xd_NoProgram) = some true)
  (xf17:PySem.W.kitOne K (.ref xd_NoProgram) (.type "ValueError") = some true)
  (xf18:PySem.W.kitOne K (.ref xd_NoProgram) (.ref xd_ShortError) = some true)
  (xf19:PySem.W.kitAny K (.ref xd_NoProgram) [(.ref xd_NoAsk),(.ref xd_NoBits),(.ref xd_NoCode),(.ref xd_NoReach),(.ref xd_NoRow)] = some false)
  (xf20:K.lookup xd_NoProgram = some (excClassObj in_nm in_qn xd_NoProgram in_N in_bs (.ref xd_ShortError :: bmVE) true in_sn in_sub in_ab in_col in_dd in_k0 in_k1 in_k2 in_k3 in_k5 "ValueError.__new__"))
  (xf21:PySem.W.findIn K (.ref xd_NoProgram) "__init__" = some (some (.ref in_f)))
  (xf22:PySem.W.typeIn K (.ref in_f) = some (.type "function"))
  (xf23:PySem.W.findIn K (.ref xd_NoProgram) "__setattr__" = some (some (.builtin "object.__setattr__")))
  (xf24:PySem.W.findIn K (.ref xd_NoProgram) "row" = some none)
  (xf25:PySem.W.keepIn K (.ref xd_NoProgram) = true)
  (xf26:PySem.W.findCls K (.ref xd_ShortError) (.type "type") "__init__" = some (.val (.builtin "ValueError.__init__")))
  (xf27:PySem.W.readsIn K xd_ShortError (.type "type") = true)
  (xf28:PySem.W.specialIn K (.ref xd_ShortError) "__getattribute__" = some (some (.builtin "type.__getattribute__")))
  (xf29:K.lookup in_f = some ⟨in_oc,in_od,.func (PySem.W.fnOf "__init__" "NoProgram.__init__" (defArgs s_NoProgram___init__) (defBody s_NoProgram___init__) (defScope s_NoProgram___init__) .none in_kV in_dc in_pm in_an in_cd in_ct),in_sl⟩)
  (xf30:PySem.W.codeIn K in_cd "NoProgram.__init__" = true)
  (xf31:PySem.W.keepIn K (.ref in_f) = true)
  (xf32:PySem.W.hasDictIn K xd_NoProgram = true)
  : ∃ fd:FuncData,(∀ (s:Shared) (v:Value),BindsTo s fd ⟨[v],[]⟩ [("script",v)]) /\ ∀ base:Heap,K.In base -> base.Ns mainGlobals mg -> FnOk l.prog w K mg base CX0 30 fa fd ["script"] (spLaw K):=by
 have e:=hfa.symm.trans (PySem.W.mg_of X G a19);cases e;have T:Txt K mg:=⟨PySem.W.mg_none_of X G z0,PySem.W.mg_none_of X G z1,PySem.W.mg_none_of X G z2,PySem.W.mg_none_of X G z3,PySem.W.mg_none_of X G z4,PySem.W.mg_none_of X G z5,PySem.W.mg_none_of X G z6,PySem.W.mg_none_of X G z7,PySem.W.mg_none_of X G z8,PySem.W.mg_none_of X G z9,PySem.W.mg_none_of X G z10,PySem.W.mg_none_of X G z11,PySem.W.mg_none_of X G z12,PySem.W.mg_none_of X G z13,⟨.ref q0,_,PySem.W.mg_of X G g0,rfl,fun H B => .ktp (vs:=[.str "a",.str "b",.str "c",.str "d",.str "e",.str "f",.str "g",.str "h"]) ⟨_,_,_,m0,rfl,rfl,(by show 8 <= sizeLine;decide),(.cons ⟨w0_0,rfl⟩ (.cons ⟨w0_1,rfl⟩ (.cons ⟨w0_2,rfl⟩ (.cons ⟨w0_3,rfl⟩ (.cons ⟨w0_4,rfl⟩ (.cons ⟨w0_5,rfl⟩ (.cons ⟨w0_6,rfl⟩ (.cons ⟨w0_7,rfl⟩ .nil))))))))⟩ (.cons (.str _) (.cons (.str _) (.cons (.str _) (.cons (.str _) (.cons (.str _) (.cons (.str _) (.cons (.str _) (.cons (.str _) .nil))))))))⟩,⟨.str "0123456789",_,PySem.W.mg_of X G g1,⟨_,rfl⟩,fun H B => .str _⟩,⟨.int 65536,_,PySem.W.mg_of X G g2,⟨_,rfl⟩,fun H B => .int _⟩,⟨dd0,PySem.W.mg_of X G dg0,dz0,_,_,_,dl0,⟨rfl,rfl,rfl⟩,rfl,(.cons rfl ⟨dp0_0,rfl,⟨_,_,_,dm0_0,rfl,rfl,(by show 2 <= sizeLine;decide),(.cons ⟨dw0_0_0,rfl⟩ (.cons ⟨dw0_0_1,rfl⟩ .nil))⟩⟩ (.cons rfl ⟨dp0_1,rfl,⟨_,_,_,dm0_1,rfl,rfl,(by show 2 <= sizeLine;decide),(.cons ⟨dw0_1_0,rfl⟩ (.cons ⟨dw0_1_1,rfl⟩ .nil))⟩⟩ (.cons rfl ⟨dp0_2,rfl,⟨_,_,_,dm0_2,rfl,rfl,(by show 2 <= sizeLine;decide),(.cons ⟨dw0_2_0,rfl⟩ (.cons ⟨dw0_2_1,rfl⟩ .nil))⟩⟩ (.cons rfl ⟨dp0_3,rfl,⟨_,_,_,dm0_3,rfl,rfl,(by show 2 <= sizeLine;decide),(.cons ⟨dw0_3_0,rfl⟩ (.cons ⟨dw0_3_1,rfl⟩ .nil))⟩⟩ (.cons rfl ⟨dp0_4,rfl,⟨_,_,_,dm0_4,rfl,rfl,(by show 1 <= sizeLine;decide),(.cons ⟨dw0_4_0,rfl⟩ .nil)⟩⟩ (.cons rfl ⟨dp0_5,rfl,⟨_,_,_,dm0_5,rfl,rfl,(by show 1 <= sizeLine;decide),(.cons ⟨dw0_5_0,rfl⟩ .nil)⟩⟩ (.cons rfl ⟨dp0_6,rfl,⟨_,_,_,dm0_6,rfl,rfl,(by show 1 <= sizeLine;decide),(.cons ⟨dw0_6_0,rfl⟩ .nil)⟩⟩ (.cons rfl ⟨dp0_7,rfl,⟨_,_,_,dm0_7,rfl,rfl,(by show 2 <= sizeLine;decide),(.cons ⟨dw0_7_0,rfl⟩ (.cons ⟨dw0_7_1,rfl⟩ .nil))⟩⟩ (.cons rfl ⟨dp0_8,rfl,⟨_,_,_,dm0_8,rfl,rfl,(by show 0 <= sizeLine;decide),.nil⟩⟩ .nil)))))))))⟩,⟨_,_,_,_,_,_,_,PySem.W.mg_of X G xf0,PySem.W.mg_of X G xf1,PySem.W.mg_of X G xf2,PySem.W.mg_of X G xf3,PySem.W.mg_of X G xf4,PySem.W.mg_of X G xf5,PySem.W.mg_of X G xf6,⟨xf7⟩,⟨xf8,xf9,xf10,xf11,xf12,xf13,xf14⟩,xf15,xf16,xf17,xf18,xf19,⟨_,_,⟨⟨_,_,_,_,_,_,_,_,_,_,_,_,_,_,xf20⟩,⟨xf7⟩,⟨xf8,xf9,xf10,xf11,xf12,xf13,xf14⟩,xf21,xf22,xf23,xf24,xf25,xf26,xf27,xf28⟩,fun_mk (st:=s_NoProgram___init__) xf29 xf30 xf31,(fun_mk (st:=s_NoProgram___init__) xf29 xf30 xf31).binds (ps:=["self","row"]) (fun _ _ _ _ _ _ us hl => by obtain ⟨_,_,rfl⟩:=Y.len2 hl;rfl),xf32⟩⟩⟩
 have F0:HasFn K mg "read_program" s_read_program ["text"]:=⟨f0,_,fun_mk (st:=s_read_program) l0 c0 k0,(fun_mk (st:=s_read_program) l0 c0 k0).binds (ps:=["text"]) (fun _ _ _ _ _ _ us hl => by obtain ⟨_,rfl⟩:=Y.len1 hl;rfl),PySem.W.mg_of X G a0⟩
 have F1:HasFn K mg "read_row" s_read_row ["line","greatest_goal"]:=⟨f1,_,fun_mk (st:=s_read_row) l1 c1 k1,(fun_mk (st:=s_read_row) l1 c1 k1).binds (ps:=["line","greatest_goal"]) (fun _ _ _ _ _ _ us hl => by obtain ⟨_,_,rfl⟩:=Y.len2 hl;rfl),PySem.W.mg_of X G a1⟩
 have F2:HasFn K mg "read_part" s_read_part ["kind","part","greatest_goal"]:=⟨f2,_,fun_mk (st:=s_read_part) l2 c2 k2,(fun_mk (st:=s_read_part) l2 c2 k2).binds (ps:=["kind","part","greatest_goal"]) (fun _ _ _ _ _ _ us hl => by obtain ⟨_,_,_,rfl⟩:=Y.len3 hl;rfl),PySem.W.mg_of X G a2⟩
 have F3:HasFn K mg "read_number" s_read_number ["text","greatest"]:=⟨f3,_,fun_mk (st:=s_read_number) l3 c3 k3,(fun_mk (st:=s_read_number) l3 c3 k3).binds (ps:=["text","greatest"]) (fun _ _ _ _ _ _ us hl => by obtain ⟨_,_,rfl⟩:=Y.len2 hl;rfl),PySem.W.mg_of X G a3⟩
 have F4:HasFn K mg "is_number" s_is_number ["text"]:=⟨f4,_,fun_mk (st:=s_is_number) l4 c4 k4,(fun_mk (st:=s_is_number) l4 c4 k4).binds (ps:=["text"]) (fun _ _ _ _ _ _ us hl => by obtain ⟨_,rfl⟩:=Y.len1 hl;rfl),PySem.W.mg_of X G a4⟩
 have F5:HasFn K mg "_law_mix" s__law_mix ["cell","k"]:=⟨f5,_,fun_mk (st:=s__law_mix) l5 c5 k5,(fun_mk (st:=s__law_mix) l5 c5 k5).binds (ps:=["cell","k"]) (fun _ _ _ _ _ _ us hl => by obtain ⟨_,_,rfl⟩:=Y.len2 hl;rfl),PySem.W.mg_of X G a5⟩
 have F6:HasFn K mg "_law_deck" s__law_deck ["script"]:=⟨f6,_,fun_mk (st:=s__law_deck) l6 c6 k6,(fun_mk (st:=s__law_deck) l6 c6 k6).binds (ps:=["script"]) (fun _ _ _ _ _ _ us hl => by obtain ⟨_,rfl⟩:=Y.len1 hl;rfl),PySem.W.mg_of X G a6⟩
 have F7:HasFn K mg "_law_next" s__law_next ["deck","many"]:=⟨f7,_,fun_mk (st:=s__law_next) l7 c7 k7,(fun_mk (st:=s__law_next) l7 c7 k7).binds (ps:=["deck","many"]) (fun _ _ _ _ _ _ us hl => by obtain ⟨_,_,rfl⟩:=Y.len2 hl;rfl),PySem.W.mg_of X G a7⟩
 have F8:HasFn K mg "_law_number" s__law_number ["deck"]:=⟨f8,_,fun_mk (st:=s__law_number) l8 c8 k8,(fun_mk (st:=s__law_number) l8 c8 k8).binds (ps:=["deck"]) (fun _ _ _ _ _ _ us hl => by obtain ⟨_,rfl⟩:=Y.len1 hl;rfl),PySem.W.mg_of X G a8⟩
 have F9:HasFn K mg "_law_row" s__law_row ["deck","size"]:=⟨f9,_,fun_mk (st:=s__law_row) l9 c9 k9,(fun_mk (st:=s__law_row) l9 c9 k9).binds (ps:=["deck","size"]) (fun _ _ _ _ _ _ us hl => by obtain ⟨_,_,rfl⟩:=Y.len2 hl;rfl),PySem.W.mg_of X G a9⟩
 have F10:HasFn K mg "_law_program" s__law_program ["deck","most"]:=⟨f10,_,fun_mk (st:=s__law_program) l10 c10 k10,(fun_mk (st:=s__law_program) l10 c10 k10).binds (ps:=["deck","most"]) (fun _ _ _ _ _ _ us hl => by obtain ⟨_,_,rfl⟩:=Y.len2 hl;rfl),PySem.W.mg_of X G a10⟩
 have F11:HasFn K mg "_law_line" s__law_line ["row"]:=⟨f11,_,fun_mk (st:=s__law_line) l11 c11 k11,(fun_mk (st:=s__law_line) l11 c11 k11).binds (ps:=["row"]) (fun _ _ _ _ _ _ us hl => by obtain ⟨_,rfl⟩:=Y.len1 hl;rfl),PySem.W.mg_of X G a11⟩
 have F12:HasFn K mg "_law_text" s__law_text ["program"]:=⟨f12,_,fun_mk (st:=s__law_text) l12 c12 k12,(fun_mk (st:=s__law_text) l12 c12 k12).binds (ps:=["program"]) (fun _ _ _ _ _ _ us hl => by obtain ⟨_,rfl⟩:=Y.len1 hl;rfl),PySem.W.mg_of X G a12⟩
 have F13:HasFn K mg "_law_figures" s__law_figures ["word"]:=⟨f13,_,fun_mk (st:=s__law_figures) l13 c13 k13,(fun_mk (st:=s__law_figures) l13 c13 k13).binds (ps:=["word"]) (fun _ _ _ _ _ _ us hl => by obtain ⟨_,rfl⟩:=Y.len1 hl;rfl),PySem.W.mg_of X G a13⟩
 have F14:HasFn K mg "_law_reading" s__law_reading ["line","lines"]:=⟨f14,_,fun_mk (st:=s__law_reading) l14 c14 k14,(fun_mk (st:=s__law_reading) l14 c14 k14).binds (ps:=["line","lines"]) (fun _ _ _ _ _ _ us hl => by obtain ⟨_,_,rfl⟩:=Y.len2 hl;rfl),PySem.W.mg_of X G a14⟩
 have F15:HasFn K mg "_law_due" s__law_due ["text"]:=⟨f15,_,fun_mk (st:=s__law_due) l15 c15 k15,(fun_mk (st:=s__law_due) l15 c15 k15).binds (ps:=["text"]) (fun _ _ _ _ _ _ us hl => by obtain ⟨_,rfl⟩:=Y.len1 hl;rfl),PySem.W.mg_of X G a15⟩
 have F16:HasFn K mg "_law_spoilt_line" s__law_spoilt_line ["deck","line","lines"]:=⟨f16,_,fun_mk (st:=s__law_spoilt_line) l16 c16 k16,(fun_mk (st:=s__law_spoilt_line) l16 c16 k16).binds (ps:=["deck","line","lines"]) (fun _ _ _ _ _ _ us hl => by obtain ⟨_,_,_,rfl⟩:=Y.len3 hl;rfl),PySem.W.mg_of X G a16⟩
 have F17:HasFn K mg "_law_spoilt" s__law_spoilt ["deck","program"]:=⟨f17,_,fun_mk (st:=s__law_spoilt) l17 c17 k17,(fun_mk (st:=s__law_spoilt) l17 c17 k17).binds (ps:=["deck","program"]) (fun _ _ _ _ _ _ us hl => by obtain ⟨_,_,rfl⟩:=Y.len2 hl;rfl),PySem.W.mg_of X G a17⟩
 have F18:HasFn K mg "_law_right" s__law_right ["text"]:=⟨f18,_,fun_mk (st:=s__law_right) l18 c18 k18,(fun_mk (st:=s__law_right) l18 c18 k18).binds (ps:=["text"]) (fun _ _ _ _ _ _ us hl => by obtain ⟨_,rfl⟩:=Y.len1 hl;rfl),PySem.W.mg_of X G a18⟩
 exact ⟨PySem.W.fnOf "law" "law" (defArgs s_law) (defBody s_law) (defScope s_law) .none kV19 dc19 pm19 an19 cd19 ct19,fun s v => .of_eq rfl,fun base _ _ => (all_ok T F0 F1 F2 F3 F4 F5 F6 F7 F8 F9 F10 F11 F12 F13 F14 F15 F16 F17 F18 (fun_mk (st:=s_law) l19 c19 k19)).mono (by decide)⟩
theorem walk {l:PySem.W.OpenLaw} {q:Program} {loose:List Str} {XP:(Str -> Option Value) -> Heap -> Prop} {YP:World -> Heap -> Prop} {d:DefRec} {K:Params -> PySem.W.Frag} (hn:l.most = some 63) (hdf:d.params.defaults = [])
  (hY:∀ (w:World) (h:Heap),YP w h -> (K w.params).In h)
  (F:∀ (w:World) (mg:Str -> Option Value) (fa:Addr) (h:Heap),(K w.params).In h -> h.Ns mainGlobals mg -> mg d.name = some (.ref fa) -> ∃ fd:FuncData,(∀ (s:Shared) (u:Value),BindsTo s fd ⟨[u],[]⟩ [("script",u)]) /\ ∀ base:Heap,(K w.params).In base -> base.Ns mainGlobals mg -> FnOk l.prog w (K w.params) mg base CX0 30 fa fd ["script"] (spLaw (K w.params))) (hL:∀ (w:World) (h:Heap),(K w.params).In h -> LamOk q (K w.params)) :
  PySem.W.WalkO q loose XP YP l.row.toRowW d [] (fun f vs => PySem.call f vs) :=
 L2.walk_of (n:=63) (k:=30) (x:="script") (CX:=fun _ => CX0) (sp:=fun w => spLaw (K w.params)) hn (by decide) hdf ⟨rfl,by decide,by decide,rfl⟩ hY F (fun _ _ a ns hl _ hS => ⟨a,ns,rfl,hS,hl,fun _ => rfl⟩) (fun _ _ _ _ _ z => z) hL
theorem lam_mk {q:Program} {K:PySem.W.Frag} {h:Heap} (_:K.In h)  (nt:PySem.W.noTabs K = true)
  (ma_by_worth:PySem.W.nsIn K mainGlobals "by_worth" = some none)
  (ma_by_weight:PySem.W.nsIn K mainGlobals "by_weight" = some none)
  (ma_code_of:PySem.W.nsIn K mainGlobals "code_of" = some none)
  : LamOk q K:=LamOk.of nt (tabIn_none ma_by_worth) (tabIn_none ma_by_weight) (tabIn_none ma_code_of) (by first | exact mn | simp) (.inl rfl) (.inl rfl) (.inl rfl)
end
end G
open PySem PySem.W PyProof.Rows
set_option maxRecDepth 100000 in
set_option maxHeartbeats 0 in
theorem PySem.Challenge.cw_shortrows_k02_no_program_holds : PySem.Challenge.rw_shortrows_k02_no_program.Holds := by
 w_on;o_law;k_head;(case hw => w_witness2)
 k_fill
 refine G.walk (l:=PySem.Challenge.rw_shortrows_k02_no_program) rfl rfl (fun w h Y => by first | exact PySem.W.kIn_of Y | exact PySem.W.km_in_of Y) ?F ?L
 case F =>
  intro w mg fa h KX GN hmg
  refine' G.all_mk KX GN hmg ?a0 ?l0 ?c0 ?k0 ?a1 ?l1 ?c1 ?k1 ?a2 ?l2 ?c2 ?k2 ?a3 ?l3 ?c3 ?k3 ?a4 ?l4 ?c4 ?k4 ?a5 ?l5 ?c5 ?k5 ?a6 ?l6 ?c6 ?k6 ?a7 ?l7 ?c7 ?k7 ?a8 ?l8 ?c8 ?k8 ?a9 ?l9 ?c9 ?k9 ?a10 ?l10 ?c10 ?k10 ?a11 ?l11 ?c11 ?k11 ?a12 ?l12 ?c12 ?k12 ?a13 ?l13 ?c13 ?k13 ?a14 ?l14 ?c14 ?k14 ?a15 ?l15 ?c15 ?k15 ?a16 ?l16 ?c16 ?k16 ?a17 ?l17 ?c17 ?k17 ?a18 ?l18 ?c18 ?k18 ?a19 ?l19 ?c19 ?k19 ?z0 ?z1 ?z2 ?z3 ?z4 ?z5 ?z6 ?z7 ?z8 ?z9 ?z10 ?z11 ?z12 ?z13 ?gq0 ?mq0 ?gq1 ?gq2 ?dg0 ?dz0 ?dl0 ?dm0_0 ?dm0_1 ?dm0_2 ?dm0_3 ?dm0_4 ?dm0_5 ?dm0_6 ?dm0_7 ?dm0_8 ?xf0 ?xf1 ?xf2 ?xf3 ?xf4 ?xf5 ?xf6 ?xf7 ?xf8 ?xf9 ?xf10 ?xf11 ?xf12 ?xf13 ?xf14 ?xf15 ?xf16 ?xf17 ?xf18 ?xf19 ?xf20 ?xf21 ?xf22 ?xf23 ?xf24 ?xf25 ?xf26 ?xf27 ?xf28 ?xf29 ?xf30 ?xf31 ?xf32
  (case a0 => k_is)
  (case l0 => k_is)
  (case c0 => k_is)
  (case k0 => k_is)
  (case a1 => k_is)
  (case l1 => k_is)
  (case c1 => k_is)
  (case k1 => k_is)
  (case a2 => k_is)
  (case l2 => k_is)
  (case c2 => k_is)
  (case k2 => k_is)
  (case a3 => k_is)
  (case l3 => k_is)
  (case c3 => k_is)
  (case k3 => k_is)
  (case a4 => k_is)
  (case l4 => k_is)
  (case c4 => k_is)
  (case k4 => k_is)
  (case a5 => k_is)
  (case l5 => k_is)
  (case c5 => k_is)
  (case k5 => k_is)
  (case a6 => k_is)
  (case l6 => k_is)
  (case c6 => k_is)
  (case k6 => k_is)
  (case a7 => k_is)
  (case l7 => k_is)
  (case c7 => k_is)
  (case k7 => k_is)
  (case a8 => k_is)
  (case l8 => k_is)
  (case c8 => k_is)
  (case k8 => k_is)
  (case a9 => k_is)
  (case l9 => k_is)
  (case c9 => k_is)
  (case k9 => k_is)
  (case a10 => k_is)
  (case l10 => k_is)
  (case c10 => k_is)
  (case k10 => k_is)
  (case a11 => k_is)
  (case l11 => k_is)
  (case c11 => k_is)
  (case k11 => k_is)
  (case a12 => k_is)
  (case l12 => k_is)
  (case c12 => k_is)
  (case k12 => k_is)
  (case a13 => k_is)
  (case l13 => k_is)
  (case c13 => k_is)
  (case k13 => k_is)
  (case a14 => k_is)
  (case l14 => k_is)
  (case c14 => k_is)
  (case k14 => k_is)
  (case a15 => k_is)
  (case l15 => k_is)
  (case c15 => k_is)
  (case k15 => k_is)
  (case a16 => k_is)
  (case l16 => k_is)
  (case c16 => k_is)
  (case k16 => k_is)
  (case a17 => k_is)
  (case l17 => k_is)
  (case c17 => k_is)
  (case k17 => k_is)
  (case a18 => k_is)
  (case l18 => k_is)
  (case c18 => k_is)
  (case k18 => k_is)
  (case a19 => k_is)
  (case l19 => k_is)
  (case c19 => k_is)
  (case k19 => k_is)
  (case z0 => k_is)
  (case z1 => k_is)
  (case z2 => k_is)
  (case z3 => k_is)
  (case z4 => k_is)
  (case z5 => k_is)
  (case z6 => k_is)
  (case z7 => k_is)
  (case z8 => k_is)
  (case z9 => k_is)
  (case z10 => k_is)
  (case z11 => k_is)
  (case z12 => k_is)
  (case z13 => k_is)
  (case gq0 => k_is)
  (case mq0 => k_is)
  (case gq1 => k_is)
  (case gq2 => k_is)
  (case dg0 => k_is)
  (case dl0 => k_is)
  (case dm0_0 => k_is)
  (case dm0_1 => k_is)
  (case dm0_2 => k_is)
  (case dm0_3 => k_is)
  (case dm0_4 => k_is)
  (case dm0_5 => k_is)
  (case dm0_6 => k_is)
  (case dm0_7 => k_is)
  (case dm0_8 => k_is)
  (case dz0 => rfl)
  (case xf0 => k_is)
  (case xf1 => k_is)
  (case xf2 => k_is)
  (case xf3 => k_is)
  (case xf4 => k_is)
  (case xf5 => k_is)
  (case xf6 => k_is)
  (case xf7 => k_exc)
  (case xf8 => k_is)
  (case xf9 => k_is)
  (case xf10 => k_is)
  (case xf11 => k_is)
  (case xf12 => k_is)
  (case xf13 => k_is)
  (case xf14 => k_is)
  (case xf15 => k_is)
  (case xf16 => kit_is)
  (case xf17 => kit_is)
  (case xf18 => kit_is)
  (case xf19 => kit_is)
  (case xf20 => k_is)
  (case xf21 => k_is)
  (case xf22 => k_is)
  (case xf23 => k_is)
  (case xf24 => k_is)
  (case xf25 => k_is)
  (case xf26 => k_is)
  (case xf27 => k_is)
  (case xf28 => k_is)
  (case xf29 => k_is)
  (case xf30 => k_is)
  (case xf31 => k_is)
  (case xf32 => k_is)
 case L =>
  intro w h KX
  refine' G.lam_mk KX (by kernel_rfl) ?ma_by_worth ?ma_by_weight ?ma_code_of
  (case ma_by_worth => k_is)
  (case ma_by_weight => k_is)
  (case ma_code_of => k_is)
end
