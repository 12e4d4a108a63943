import PyProof.Rows.All
import Wide.All
import OpenK.AllK
import Wide.FinOn
import Lean
import PyProof.EqAt
import PyProof.EqKinds
import PyProof.TupleCall
import KE.KSortKey
import KE.KLam
import PySem.Challenge.RW_shortrows_k42_desk_rows
local macro_rules|`(∅)=>`(by decide +kernel)
local macro_rules|`(⋯)=>`(by decide)
namespace PySem.W.Fast
def tw2825178210033007537:=0
def tw11785628334574871619:=0
def tw14009321669810737187:=0
def tw18436390142409838817:=0
def tw15030845712147846388:=0
def tw2462374707680926480:=0
def tw9885498784070191474:=0
def tw5368663047655398994:=0
def tw14841292890214803365:=0
def tw17553600614590821656:=0
def tw5268703689597709419:=0
def tw15583893791512746370:=0
def tw6190891451582532160:=0
def tw1407060608499362288:=0
def tw8275756710985880138:=0
def tw13947227593760622697:=0
def tw18035543735844673077:=0
def tw11017567805428420821:=0
def tw5063679747086894592:=0
def tw2518927837331673600:=0
def tw3401329177233695015:=0
def tw7388192707849650179:=0
def tw6559561132283401071:=0
def tw14145076280237085699:=0
def tw7858797897695832962:=0
def tw7570848683956858777:=0
def tw189047090726140587:=0
def tw5016649260396860424:=0
def tw2337163954585344521:=0
def tw8578214008899246385:=0
def tw18215920011823512903:=0
def tw5444947611891880309:=0
def tw7613389731497014652:=0
def tw17811873087609109204:=0
def tw13316730677618383390:=0
def tw4186446815345011395:=0
def tw4421592604693376104:=0
def tw5858596183006738681:=0
def tw15438729074171212076:=0
def tw9609103250274324762:=0
def tw8389112750612885735:=0
def tw3492861822704219310:=0
def tw10415454018840696360:=0
def tw2951782161567410879:=0
def tw3994194716038581943:=0
def tw4068392655688742657:=0
def tw15806499581909089830:=0
def tw18008495869389569490:=0
def tw7753404270027135869:=0
def tw5984094280831204915:=0
def tw13639013303557107612:=0
def tw3103905160607598859:=0
def tw10417453610588474852:=0
def tw1053717827459866614:=0
def tw10118681657908547586:=0
def tw12331494986653546148:=0
def tw912677911513742020:=0
def tw13163857418215245281:=0
def tw292801782576261639:=0
def tw5992180358796667665:=0
def tw15128608201065310964:=0
def tw10077005681405286569:=0
def tw8285996848196953390:=0
def tw10663235076282993941:=0
def tw2479767524043750623:=0
def tw3146437304998486176:=0
def tw5132794136315491692:=0
def tw4141340334065301158:=0
def tw15618761624512577352:=0
def tw11303641757246238382:=0
def tw2273639877494450206:=0
def tw14739345398846302091:=0
def tw4186262136182886552:=0
def tw6276835361597734918:=0
def tw7587099107114257881:=0
def tw2600292424605278103:=0
def tw12951704900761106754:=0
def tw7754433225579066615:=0
def tw10294266460524637636:=0
def tw4466745798742108002:=0
def tw12037488226563240502:=0
def tw18102561077755919849:=0
def tw10032036399725147924:=0
def tw11338287366405070910:=0
def tw17160554510979900868:=0
def tw1004799152281229738:=0
def tw3159585553237099481:=0
def tw6611337688343838766:=0
def tw14436475479102224153:=0
def tw477601442377147802:=0
def tw15730342190080365107:=0
def tw16389822958400103156:=0
def tw2347332267240408206:=0
def tw15167885982415626515:=0
def tw11886163620589463577:=0
def tw2492581667739920062:=0
def tw16653086998795433066:=0
def tw7268685509761569248:=0
def tw8209395606640781677:=0
def tw4256998629923013218:=0
def tw7724908461914912195:=0
def tw10809676705843700996:=0
def tw3457790877254040283:=0
def tw16140480902966148354:=0
def tw15727468088491115393:=0
def tw8408114085651823393:=0
def tw6174525160689245990:=0
def tw7114514903173693821:=0
def tw17909520898880449926:=0
def tw13261768684521936482:=0
def tw993100492715231971:=0
def tw5268011881980556403:=0
def tw18331669463401042416:=0
def tw34645826032046793:=0
def tw9040806600674204658:=0
def tw11931325695577818925:=0
def tw12569327249841357608:=0
def tw3958948359946813403:=0
def tw512147562213060921:=0
def tw2627543467222499356:=0
def tw13019517570055462893:=0
def tw2236331416547668411:=0
def tw14821015248301474899:=0
def tw11039307375254786286:=0
def tw9402637614529602460:=0
def tw17907834241805496720:=0
def tw9377548794865166114:=0
def tw3274942152951427548:=0
def tw5088525921419554766:=0
def tw3279900750391538545:=0
def tw17585430524763211409:=0
def tw12316537858672864465:=0
def tw7259592180326995105:=0
def tw9553206219320261798:=0
def tw3013691649196885579:=0
def tw8418441774527677930:=0
def tw6424186717286239249:=0
def tw13685068663865570222:=0
def tw10952303643623696397:=0
def tw18053921575006184924:=0
def tw13630194819640065507:=0
def tw7213905842976402442:=0
def tw10573758961388816936:=0
def tw2454322340454485778:=0
def tw3439154642402869288:=0
def tw1925369474181068440:=0
def tw2092969785385166397:=0
def tw2007339382079726894:=0
def tw14104578088105521904:=0
def tw9254164531418181674:=0
def tw1859266105924740793:=0
def tw10920627950150789479:=0
def tw260140665227562028:=0
def tw1884805053686357606:=0
def tw13768661569249980771:=0
def tw8783806602424546477:=0
def tw5724797077069520559:=0
def tw16540334053426495140:=0
def tw14678912705442332747:=0
def tw7220344252100612380:=0
def tw16398585685784796389:=0
def tw17650184390376116258:=0
def tw9947413433206743477:=0
def tw7637494724870883504:=0
def tw15263958355268496767:=0
def tw7551775397883823322:=0
def tw10087776914162898944:=0
def tw9026678427808422767:=0
def tw3878834959467626525:=0
def tw9594584080931734589:=0
def tw17368657306313023651:=0
def tw15332205350466978189:=0
def tw5864613056981808339:=0
def tw10671088510919012179:=0
def tw10107310672727758481:=0
def tw18124816232495218917:=0
def tw15531250736720599956:=0
def tw8574910183736996870:=0
def tw9440484498153874802:=0
def tw15783591521115431878:=0
def tw5287503920855282994:=0
def tw11947086177802650829:=0
def tw313956081520516237:=0
def tw16818553504854192528:=0
def tw14215705821529550218:=0
def tw18047484404891242895:=0
def tw15583695436196139905:=0
def tw1851694961736444977:=0
def tw15611267552473718183:=0
def tw7341250101312176202:=0
def tw3890037736303188111:=0
def tw7134729981523124338:=0
def tw15628145699987035849:=0
def tw16319019274502729537:=0
def tw15627248491736589106:=0
def tw9166092751913166049:=0
def tw5683214748858019168:=0
def tw544095736370097876:=0
def tw1775807425446150536:=0
def tw16457008687389225624:=0
def tw7633473452276149981:=0
def tw9276208985445728414:=0
def tw3156041191192722813:=0
def tw15078176037442040775:=0
def tw11844110243032925884:=0
def tw16214934524026776469:=0
def tw13732550685884774959:=0
def tw5030211987894737814:=0
def tw9909732321543398743:=0
def tw5452789451228289835:=0
def tw8512576335954538767:=0
def tw17360102787134451786:=0
def tw3652890446959226381:=0
def tw5977369997978704020:=0
def tw14158004783068573979:=0
def tw6455628425940247718:=0
def tw14479292347431406094:=0
def tw7219833553264359729:=0
def tw2266203616942759052:=0
def tw16041494443539791149:=0
def tw14200587955217572322:=0
def tw13672856011633189730:=0
def tw4306919083890468593:=0
def tw18047137122660412338:=0
def tw17935058780769399176:=0
def tw3496396347831132069:=0
def tw16370394766060303560:=0
def tw2787860521625769602:=0
def tw15284035494529939870:=0
def tw10419602680101978359:=0
def tw3092360667267618764:=0
def tw8484164375768024860:=0
def tw6526191612575252231:=0
def tw1308499842447902289:=0
def tw4609181439880787941:=0
def tw17022983908538900949:=0
def tw13295924787601912285:=0
def tw4323046790562594769:=0
def tw9420961718880907457:=0
def tw6871911280797762312:=0
def tw7166524427530151821:=0
def tw15216084022582978306:=0
def tw12711569597768387773:=0
def tw5493382714425727852:=0
def tw7691188079913725128:=0
def tw14621608624235249571:=0
def tw15074334495871223200:=0
def tw4858882798542229715:=0
def tw14552931282168842293:=0
def tw1837003616817675307:=0
def tw8530487574770358133:=0
def tw16059477625512317306:=0
def tw18237443372429125606:=0
def tw13945805158501983769:=0
def tw16699087082954610302:=0
def tw16253828647016675702:=0
def tw17076279793865018361:=0
def tw4412369307833663256:=0
def tw17629104159425510710:=0
def tw6871506554132045932:=0
def tw14255812623970036901:=0
def tw13951252736185417345:=0
def tw12609671678284102348:=0
def tw466580285676956374:=0
def tw13139124492900419917:=0
def tw6816091171569237117:=0
def tw913173858248711750:=0
def tw10881064659949294195:=0
def tw2957492388605828459:=0
def tw1102211730456239496:=0
def tw10584127353092274550:=0
def tw18354012235114265874:=0
def tw17813907026928847299:=0
def tw3703286646709363405:=0
def tw4368144296516269485:=0
def tw2141074351708452486:=0
def tw6472450697506048303:=0
def tw2529406872104781348:=0
def tw7948502107140490260:=0
def tw17321704360974962276:=0
def tw16424958882174487248:=0
def tw16604255903127057196:=0
def tw4724179679876458085:=0
def tw16078297157291018205:=0
def tw16505046029259808173:=0
def tw10723686836456017647:=0
def tw12067406944876711997:=0
def tw11695928048308106396:=0
def tw2029768654185057346:=0
def tw1124290716028608233:=0
def tw3031697580448243382:=0
def tw13658285323199453123:=0
def tw468728882527864913:=0
def tw8622735039779537706:=0
def tw4027827845304914201:=0
def tw9543576735639564128:=0
def tw7176719876941161403:=0
def tw5042245021727398339:=0
def tw4939181005783876148:=0
def tw3483366929125577332:=0
def tw5007950050565275914:=0
def tw2046562369199499695:=0
def tw4340962573759154467:=0
def tw18368106733567910113:=0
def tw11757169473512408426:=0
def tw3749896409771874100:=0
def tw10374793249650295153:=0
def tw5965638743996149660:=0
def tw13628575010371701067:=0
def tw9882014469436746859:=0
def tw1564008521686158730:=0
def tw17490929838506263364:=0
def tw11581434855705330554:=0
def tw17047072801362226797:=0
def tw15003989724834909389:=0
def tw6285641098150778017:=0
def tw13611705098014048142:=0
def tw16466845148646032427:=0
def tw16940380472354933575:=0
def tw8327525936430369100:=0
def tw18433533193312489559:=0
def tw9754577844265287317:=0
def tw15431464549753699316:=0
def tw1127385580455716562:=0
def tw4326235285291250455:=0
def tw12477353077981293417:=0
def tw13142924366755066164:=0
def tw12681687482954624514:=0
def tw12365523905702716676:=0
def tw14020459851038934430:=0
def tw13262794758324017370:=0
def tw12940924381901226672:=0
def tw10006169328365606661:=0
def tw16824718555505766463:=0
def tw11529530178905738699:=0
def tw7360505926118380568:=0
def tw17265213552794610876:=0
def tw6315233747747971951:=0
def tw2759215385849900084:=0
def tw7228104650185741506:=0
end PySem.W.Fast
set_option Elab.async false
set_option linter.all false
set_option maxRecDepth 100000
set_option maxHeartbeats 4000000
noncomputable section
set_option compiler.extract_closed false
def ℜz0(_:True:=by rfl):True:=⟨⟩
def ℜ0:Lean.Syntax:=ℜz0._auto_1
def ℜz1(_:True:=by decide):True:=⟨⟩
def ℜ1:Lean.Syntax:=ℜz1._auto_1
def ℜz2(_:True:=by first|exact .inl rfl|exact .inr rfl|assumption):True:=⟨⟩
def ℜ2:Lean.Syntax:=ℜz2._auto_1
def ℜz3(_:True:=by intro _;rfl):True:=⟨⟩
def ℜ3:Lean.Syntax:=ℜz3._auto_1
def ℜz4(_:True:=by first|exact Or.inl rfl|exact Or.inr (Or.inl rfl)|exact Or.inr (Or.inr rfl)):True:=⟨⟩
def ℜ4:Lean.Syntax:=ℜz4._auto_1
def ℜz5(_:True:=by with_unfolding_all rfl):True:=⟨⟩
def ℜ5:Lean.Syntax:=ℜz5._auto_1
def ℜz6(_:True:=by decide +kernel):True:=⟨⟩
def ℜ6:Lean.Syntax:=ℜz6._auto_1
namespace L2
open PySem PySem.Spec PyProof.Rows
variable{us:List Value}{u:Value}{C a b:Addr}{o:Option Value}{base h:Heap}{items:Array Value}{w:World}{K:W.Frag}{g':Array GenState}{ch fp:List Addr}{c e tg:Expr}{N:List Str}{i j k:Nat}{M:Model}{E Q:Value->Shared->Prop}{s s':Shared}{pos:Pos}{f:Value->Value->Sem Value}{es:List Expr}{g:Int->Int->Int}{body:List Stmt}{op':CmpOp}{mA mg:Str->Option Value}{pl:Sem Bool}{fd:FuncData}{outer:List Env}{kindOf:Str->Option NameKind}{scope:Scope}
def Ms:=@List.length_map
def Mt:=@List.getElem?_eq_getElem
def Mv:=@PySem.wpAny_bind
def Mw:=@List.getElem?_eq_some_iff
def Mx:=@List.length_append
def My:=@PySem.Heap.get?_push_of_some
def Mz:=@Nat.le_trans
def M0:=@List.mem_cons
def M4:=@if_neg
def M7:=@List.getElem?_map
def M8:=@Nat.le_refl
def M9:=@List.getD_eq_getElem?_getD
def MB:=@List.length_take
def MC:=@List.size_toArray
def MD:=@if_pos
def ME:=@PySem.wpAny_pure
def MF:=@List.mem_cons_of_mem
def MG:=@Nat.zero_le
def MH:=@List.mem_singleton
def MI:=@List.map_append
def MJ:=@List.length_cons
def MK:=@List.mem_cons_self
def ML:=@Bool.false_ne_true
def MM:=@PySem.Heap.get?_push_size
def MN:=@PySem.Heap.lt_size
def MO:=@List.length_replicate
def MP:=@List.not_mem_nil
def MQ:=@List.getElem_mem
def MR:=@List.getElem?_append_right
def MT:=@Option.map_eq_some_iff
def MU:=@List.getElem?_append_left
def MV:=@Ne.symm
def MW:=@decide_eq_false
def MX:=@List.append_assoc
def MY:=@Int.toNat_natCast
def MZ:=@List.mem_append_right
def M_:=@Nat.ne_of_lt
def Na:=@List.take_length
def Nb:=@List.map_cons
def Nc:=@List.mem_map
def Nd:=@PySem.PassesOwn.never
def Nf:=@Nat.lt_of_lt_of_le
def Ng:=@List.take_of_length_le
def Nh:=@beq_eq_false_iff_ne
def Ni:=@List.take_succ
def Nj:=@Array.getElem?_toList
def Nk:=@List.length_drop
def Nl:=@or_false
def Nm:=@List.append_nil
def Nn:=@List.pairwise_cons
def Np:=@Array.length_toList
def Nq:=@decide_eq_true
def Nr:=@List.length_range
def Nt:=@Nat.lt_or_ge
def Nu:=@List.getElem?_drop
def Nv:=@List.getElem?_eq_none_iff
def Nw:=@congrArg
def Nx:=@List.getElem?_take_of_lt
def Ny:=@List.lookup_cons
def Nz:=@List.replicate_succ
def N0:=@List.length_nil
def N1:=@List.mem_of_getElem?
def N2:=@List.mem_append
def N3:=@Nat.lt_of_le_of_lt
def N4:=@List.getElem?_toArray
def N5:=@PySem.wpAny_callSpecial?_slot
def N6:=@PySem.wpAny_holding
def N7:=@List.mem_append_left
def N8:=@PySem.wpAny_mono
def N9:=@List.nodup_cons
def NA:=@PySem.W.mg_none_of
def NB:=@Bool.and_eq_true
def NC:=@PySem.wpAny_call_entry
def ND:=@List.drop_eq_getElem_cons
def NF:=@List.sum_cons
def NG:=@PySem.Heap.size_push
def NH:=@List.drop_zero
def NI:=@List.map_map
def NJ:=@PyProof.Rows.callWith_type1
def NK:=@List.getElem?_set_ne
def NL:=@List.cons_append
def NM:=@List.pairwise_append
def NN:=@Nat.sub_self
def NO:=@List.getElem?_set_self
def NP:=@PySem.W.mg_of
def NQ:=@PySem.wpAny_truthy_bool
def NR:=@of_decide_eq_true
def NS:=@PySem.Heap.SameBut.update
def NU:=@List.all_eq_true
def NV:=@List.mem_replicate
def NW:=@PySem.sizeLine_eq
def NX:=@Nat.le_succ
def NY:=@List.all_cons
def NZ:=@List.length_eq_zero_iff
def N_:=@PySem.wpAny_newObj_type
def Oa:=@List.length_set
def Ob:=@List.nil_append
def Oc:=@Nat.ne_of_gt
def Od:=@Nat.lt_irrefl
def Oe:=@Array.getElem?_eq_some_iff
def Of:=@beq_self_eq_true
def Og:=@decide_eq_decide
def Oh:=@List.drop_length
def Oi:=@PySem.wpAny_Call_Name_kw
def Oj:=@Bool.false_eq_true
def Ol:=@PyProof.Rows.slot_tuple_getitem
def Om:=@PySem.call_meets
def Oo:=@Nat.min_eq_left
def Oq:=@Nat.lt_of_succ_lt
def Ot:=@PySem.wpAny_typeNameOfWhole_keyiter
def Ou:=@Array.toList_append
def Ov:=@List.mem_range
def Ow:=@List.range'_succ
def Ox:=@List.ext_getElem
def Oy:=@Nat.le_of_lt
def Oz:=@List.map_nil
def O0:=@List.getElem?_take
def O1:=@PySem.wpAny_passesOwn
def O2:=@List.find?_cons
def O3:=@if_false
def O4:=@PySem.F.slot_tuple_iterator_next
def O5:=@List.ext_getElem?
def O6:=@List.pairwise_map
def O7:=@decide_eq_true_eq
def O8:=@List.mem_or_eq_of_mem_set
def O9:=@PySem.W.kia_one
def OA:=@Nat.lt_succ_self
def OB:=@Nat.sub_zero
def OC:=@Nat.zero_add
def OD:=@PySem.F.slot_list_getattribute
def OE:=@PySem.wpAny_typeNameOf_keyiter
def OF:=@List.getElem?_range
def OG:=@List.length_reverse
def OH:=@List.mem_map_of_mem
def OI:=@List.prefix_of_prefix_length_le
def OJ:=@List.eraseIdx_eq_take_drop_succ
def OK:=@PySem.wpAny_getItem_str_slice
def OL:=@Nat.toDigits_of_lt_base
def OM:=@List.any_cons
def OO:=@Bool.eq_iff_iff
def OP:=@PySem.wpAny_pyIter_tuple
def OQ:=@PySem.codeAny_builtin
def OR:=@not_or
def OS:=@List.map_replicate
def OT:=@PySem.wpAny_field
def OU:=@List.flatten_cons
def OV:=@Nat.lt_succ_of_lt
def OW:=@PySem.wpAny_pyIter_list
def OX:=@Nat.lt_trichotomy
def OY:=@PySem.Heap.get?_update_self
def OZ:=@if_true
def O_:=@PySem.wpAny_seqItems
def Pa:=@Nat.min_self
def Pb:=@List.take_append_drop
def Pc:=@List.map_set
def Pd:=@PyProof.Rows.boot_isinstance
def Pe:=@PySem.Around.under_plainId
def Pg:=@List.getElem?_append
def Ph:=@Array.toArray_toList
def Pj:=@PySem.wpAny_newList
def Pl:=@List.toList_toArray
def Pm:=@List.forIn_cons
def Pn:=@PyProof.Rows.get?_update_seq
def Po:=@Nat.not_lt_zero
def Pp:=@PySem.W.KasT.kasWp_bind
def Pq:=@List.pairwise_iff_getElem
def Pr:=@List.mem_filterMap
def Pu:=@PySem.Obj.data_mapFields
def Pw:=@PySem.wpAny_setField_rec
def Px:=@Bool.false_and
def Py:=@beq_iff_eq
def Pz:=@List.getElem?_cons_succ
def P0:=@Nat.toDigits_of_base_le
def P1:=@PySem.wpAny_pyIter_enum
def P2:=@PySem.wpAny_dictEntries
def P4:=@List.flatMap_cons
def P5:=@PySem.Heap.get?_update_other
def P6:=@PySem.Calls.callWith_builtin
def P7:=@List.pairwise_lt_range
def P8:=@List.getElem_cons_zero
def P9:=@List.sum_replicate_nat
def PB:=@PyProof.Rows.listUpdate_at
def PC:=@PySem.wpAny_attempt
def PD:=@List.map_take
def PF:=@Array.toList_inj
def PH:=@List.take_succ_eq_append_getElem
def PJ:=@List.mem_reverse
def PL:=@List.flatten_replicate_singleton
def PM:=@List.length_singleton
def PN:=@List.pairwise_reverse
def PQ:=@List.mem_iff_getElem?
def PR:=@PySem.wpAny_isOneOf_keyiter
def PU:=@PySem.wpAny_execs_nil
def PV:=@PySem.typeIs_str
def PX:=@Nat.lt_trans
def PY:=@PySem.wpAny_loadPart'
def PZ:=@PySem.wpAny_typeOf
def P_:=@PyProof.Rows.listItems_at
def Qa:=@List.range_succ
def Qb:=@PySem.post_val_or_str
def Qc:=@List.reverse_reverse
def Qd:=@List.mem_of_mem_take
def Qe:=@Nat.pow_le_pow_right
def Qf:=@List.length_dropLast
def Qg:=@List.filterMap_cons
def Qh:=@List.dropWhile_cons
def Qi:=@ne_true_of_eq_false
def Qj:=@List.reverse_append
def Qk:=@List.length_zipWith
def Ql:=@PySem.F.args_tuple_iterator_next_1
def Qm:=@PySem.wpAny_setField
def Qn:=@PySem.wpAny_fieldsOf
def Qo:=@Array.append_empty
def Qp:=@PySem.F.entry_tuple_iterator_next
def Qq:=@PySem.F.args_str_split_2
def Qr:=@Array.getD_eq_getD_getElem?
def Qs:=@decide_eq_true_iff
def Qu:=@List.prefix_append
def Qv:=@Int.emod_lt_of_pos
def Qw:=@PySem.Calls.Name_function_global
def Qx:=@PySem.wpAny_standAt
def Qy:=@PySem.wpAny_letOwnedTupleGo_enum
def Qz:=@Bool.true_and
def Q0:=@Array.getElem?_eq_none_iff
def Q2:=@List.map_drop
def Q3:=@Array.size_append
def Q4:=@PySem.F.entry_str_split
def Q5:=@bne_self_eq_false
def Q6:=@PySem.typeIs_int
def Q7:=@PySem.wpAny_binaryOp_repeat_ref
def Q8:=@PySem.wpAny_rule
def Q9:=@PySem.Calls.call_function_entry
def QC:=@List.extract_eq_take_drop
def QD:=@List.exists_mem_of_ne_nil
def QF:=@Nat.not_lt
def QH:=@Array.getElem?_eq_getElem
def QJ:=@PySem.wpAny_eqBool_int
def QK:=@PySem.wpAny_eqBool_str
def QL:=@Option.isSome_iff_exists
def QM:=@Nat.succ_mul
def QN:=@PySem.wpAny_comprehension_free
def QP:=@PySem.Heap.size_update
def QQ:=@PySem.F.slot_str_split
def QR:=@List.Pairwise.imp_of_mem
def QU:=@List.map_snd_zip
def QV:=@List.Perm.eq_of_pairwise
def QX:=@Nat.add_zero
def QY:=@Nat.le_total
def QZ:=@Nat.min_eq_right
def Q_:=@Int.zero_add
def Ra:=@List.getElem?_replicate
def Rb:=@PySem.wpAny_pyNext_enum_itemD
def Rc:=@PySem.SeqAt.eq_list_lengthsAt
def Rf:=@List.pairwise_singleton
def Rg:=@decide_eq_false_iff_not
def Rh:=@List.append_cancel_left
def Ri:=@List.of_mem_zip
def Rk:=@List.length_zip
def Rl:=@PySem.wpAny_dictEpoch
def Rm:=@Int.emod_nonneg
def Rn:=@PySem.wpAny_pyNext_list_item
def Rp:=@PySem.wpAny_pyNext_enum_endD
def Rq:=@Int.le_refl
def Rr:=@List.length_eq_one_iff
def Rt:=@Array.getElem?_eq_none
def Ru:=@PyProof.Rows.split_pos
def Rv:=@List.dropWhile_sublist
def Rx:=@PySem.fitsIndex_both
def R3:=@List.take_left
def R4:=@List.eq_nil_or_concat
def R5:=@PySem.wpAny_newTuple
def R6:=@List.countP_mono_left
def R7:=@List.set_append_right
def R8:=@List.singleton_append
def R9:=@List.dropLast_eq_take
def RA:=@List.getElem?_zipWith
def RB:=@List.getElem?_eq_none
def RC:=@Nat.le_of_ble_eq_true
def RD:=@PySem.W.plainGet_of
def RE:=@PySem.W.callWith_K0
def RG:=@PySem.plainId_quiet
def RH:=@Nat.mul_assoc
def RI:=@Nat.add_assoc
def RJ:=@Nat.le_of_eq
def RK:=@PySem.codeAny_mono
def RL:=@PySem.W.callWith_K
def RM:=@PySem.seqIndex_neg
def RN:=@PySem.callType_new
def RS:=@Int.pow_succ
def RT:=@Nat.mul_zero
abbrev Key:=Sum Int Str
def jk:Key->Value->Bool
 |.inl k,v=>Value.isInt k v
 |.inr x,v=>Value.isStrOf x v
def LI(w:World):Key->Int
 |.inl k=>hashInt k
 |.inr x=>hashStr w x
theorem bF:∀{k:Key} {v:Value},jk k v=true->(∃i t,k=Sum.inl i/\v=Value.int i t)\/(∃x t,k=Sum.inr x/\v=Value.str x t)
 |.inl i,v,h=>by
  obtain⟨t,e⟩:=Value.isInt_shape (k:=i) (v:=v) h;exact .inl ⟨i,t,rfl,e⟩
 |.inr x,v,h=>by
  obtain⟨t,e⟩:=Value.isStrOf_shape (x:=x) (v:=v) h;exact .inr ⟨x,t,rfl,e⟩
def xA(i:Int)(t:Tok):jk (.inl i) (.int i t)=true:=by simp[jk,Value.isInt]
def yd(x:Str)(t:Tok):jk (.inr x) (.str x t)=true:=by simp[jk,Value.isStrOf]
def Ho(a b:Int):decide ((Sum.inl a:Key)=Sum.inl b)=(a == b):=by
 by_cases e:a=b
 ·subst e;simp
 ·have h:¬ (Sum.inl a:Key)=Sum.inl b:=λq=>e (Sum.inl.inj q);rw[MW h];exact (Nh.mpr e).symm
def Io(a b:Str):decide ((Sum.inr a:Key)=Sum.inr b)=decide (a=b):=by
 by_cases e:a=b
 ·subst e;simp
 ·have h:¬ (Sum.inr a:Key)=Sum.inr b:=λq=>e (Sum.inr.inj q);rw[MW h,MW e]
def G0(a:Int)(b:Str):decide ((Sum.inl a:Key)=Sum.inr b)=false:=MW (λq=>nomatch q)
def Gz(a:Str)(b:Int):decide ((Sum.inr a:Key)=Sum.inl b)=false:=MW (λq=>nomatch q)
def cA(prog:Program)(w:World):PySem.KeyKind prog w Key where
 is:=jk
 hash:=LI w
 inj:=λv a b ha hb=>by
  rcases bF ha with ⟨i,t,rfl,rfl⟩|⟨x,t,rfl,rfl⟩
  ·rcases bF hb with ⟨j,u,rfl,e⟩|⟨y,u,rfl,e⟩
   ·injection e with e1 _;rw[e1]
   ·exact nomatch e
  ·rcases bF hb with ⟨j,u,rfl,e⟩|⟨y,u,rfl,e⟩
   ·exact nomatch e
   ·injection e with e1 _;rw[e1]
 byValue:=λk v h=>by
  rcases bF h with ⟨i,t,rfl,rfl⟩|⟨x,t,rfl,rfl⟩<;>rfl
 pyHash:=λhv h=>by
  rcases bF hv with ⟨i,t,rfl,rfl⟩|⟨x,t,rfl,rfl⟩
  ·exact wpAny_pyHash_int h
  ·exact wpAny_pyHash_str h
 eqBool:=λhu hv h=>by
  rcases bF hu with ⟨i,t,rfl,rfl⟩|⟨x,t,rfl,rfl⟩
  ·rcases bF hv with ⟨j,u,rfl,rfl⟩|⟨y,u,rfl,rfl⟩
   ·rw[Ho] at h;exact QJ h
   ·rw[G0] at h;exact SeqAt.EqAt.int_str i t y u _ _ _ _ h
  ·rcases bF hv with ⟨j,u,rfl,rfl⟩|⟨y,u,rfl,rfl⟩
   ·rw[Gz] at h;exact SeqAt.EqAt.str_int x t j u _ _ _ _ h
   ·rw[Io] at h;exact QK h
 «strs»:=λk x t v h=>by
  rcases bF h with ⟨i,u,rfl,e⟩|⟨y,u,rfl,e⟩
  ·exact nomatch e
  ·injection e with e1 _
   subst e1
   cases v<;>rfl
def tF(prog:Program)(w:World)(i:Int)(t:Tok):(cA prog w).is (.inl i) (.int i t)=true:=xA i t
def sY(prog:Program)(w:World)(x:Str)(t:Tok):(cA prog w).is (.inr x) (.str x t)=true:=yd x t
inductive V where
 |aN|bl (b:Bool)|int (i:Int)|str (x:Str)|tH (b:Array UInt8)|Jc (b:UInt64)|ref (a:Addr)|ty (n:String)
 deriving DecidableEq
variable{xs:List V}
def RelV:V->Value->Prop
 |.aN,u=>u=Value.none
 |.bl b,u=>u=Value.bool b
 |.int i,u=>∃t,u=Value.int i t
 |.str x,u=>∃t,u=Value.str x t
 |.tH b,u=>∃t,u=Value.bytes b t
 |.Jc b,u=>∃t,u=Value.float b t
 |.ref a,u=>u=Value.ref a
 |.ty n,u=>u=Value.type n
abbrev Vals:List V->List Value->Prop:=Paired RelV
def Vals.length(r:Vals xs us):xs.length=us.length:=Paired.length r
theorem Vals.get:∀{xs:List V} {us:List Value} {i:Nat} {x:V},Vals xs us->xs[i]?=some x->∃u,us[i]?=some u/\RelV x u
 |_,_,_,_,.nil,e=>by simp at e
 |_,_,0,_,.cons r _,e=>by simp at e;subst e;exact⟨_,rfl,r⟩
 |_,_,i+1,x,.cons _ t,e=>by
  obtain⟨u,h1,h2⟩:=Vals.get (i:=i) (x:=x) t (by simpa using e)
  exact⟨u,by simpa using h1,h2⟩
theorem Vals.set{x:V}(r:RelV x u):∀{xs:List V} {us:List Value} (i:Nat),Vals xs us->Vals (xs.set i x) (us.set i u)
 |_,_,_,.nil=>.nil
 |_,_,0,.cons _ t=>.cons r t
 |_,_,i+1,.cons q t=>.cons q (Vals.set r i t)
theorem Vals.append:∀{xs ys:List V} {us ws:List Value},Vals xs us->Vals ys ws->Vals (xs++ys) (us++ws)
 |_,_,_,_,.nil,s=>s
 |_,_,_,_,.cons r t,s=>.cons r (Vals.append t s)
theorem Vals.take:∀{xs:List V} {us:List Value} (n:Nat),Vals xs us->Vals (xs.take n) (us.take n)
 |_,_,0,_=>.nil
 |_,_,_+1,.nil=>.nil
 |_,_,n+1,.cons r t=>.cons r (Vals.take n t)
theorem Vals.drop:∀{xs:List V} {us:List Value} (n:Nat),Vals xs us->Vals (xs.drop n) (us.drop n)
 |_,_,0,r=>r
 |_,_,_+1,.nil=>.nil
 |_,_,n+1,.cons _ t=>Vals.drop n t
def jy:Option V->Option Value->Prop
 |some v,some u=>RelV v u
 |none,none=>True
 |_,_=>False
def KV{κ:Type}:List (κ×V)->List (κ×Value)->Prop:=Paired λ(p:κ×V) (q:κ×Value)=>p.1=q.1/\RelV p.2 q.2
def kV:Key->V
 |.inl i=>.int i
 |.inr x=>.str x
inductive HO where
 |lst (xs:List V)
 |tup (xs:List V)
 |dK (kvs:List (Key×V))|dT (kvs:List (List Key×V))
 |set (S:Int->Bool) (n:Nat)
 |ins (C dx:Addr) (fs:List (Str×V))
 |own (x:Addr)
 |xd (fs:List (Str×V))
 |met (f x:Addr)
 |rR (lo hi:Int)
 |jU (o:Obj) (u:HO)
 |Cu (ps:Array Value)
 |ext (φ:Heap->Prop)
abbrev Hp:=Addr->Option HO
variable{H:Hp}
def upd(H:Hp)(a:Addr)(o:HO):Hp:=λb=>if b=a then some o else H b
def aa{o:HO}:upd H a o a=some o:=by unfold upd;rw[MD rfl]
def af{o:HO}(h:b≠a):upd H a o b=H b:=by unfold upd;rw[M4 h]
def pz{o u:HO}:upd (upd H a o) a u=upd H a u:=by
 funext b;unfold upd;split<;>rfl
def ae{o:HO}(h:H a=some o)(h':H b=none):a≠b:=by
 intro e;subst e;rw[h] at h';cases h'
def Lh:List Value->Str
 |.str q _::_=>q
 |_=>Str.ofString ""
def AD(ps:Array Value):Str:=Lh ps.toList
def FZ(H:Hp)(q:Str)(cv:Value):Prop:=∃(c:Addr) (oc:Obj) (vs:Array Value) (t:Tok),cv=.ref c/\H c=some (.jU oc (.own c))/\oc.data=.fields vs/\vs[1]?=some (.str q t)
def eK(h:Heap)(a:Addr)(items:Array Value):Prop:=∃o:Obj,h.get? a=some o/\o.cls=.type "tuple"/\∃n,o.data=.seq items n/\o.dict=none
def eK.to(x:eK h a items):IsTup h a items:=let ⟨o,e,c,n,d,_⟩:=x;⟨o,e,c,n,d⟩
def eK.new(h:Heap)(items:Array Value):eK (h.push {cls:=.type "tuple",data:=.seq items}) h.objs.size items:=⟨_,MM h rfl,rfl,_,rfl,rfl⟩
def eK.lt(x:eK h a items):a<h.objs.size:=x.to.lt
section
variable (P:Program) (w:World)
def ba(H:Hp)(h:Heap)(a:Addr):HO->Prop
 |.lst xs=>xs.length<=sizeLine/\∃(its:List Value) (n:Nat),Vals xs its/\h.get? a=some {cls:=.type "list",data:=.seq its.toArray n}
 |.tup xs=>xs.length<=sizeLine/\∃its:List Value,Vals xs its/\eK h a its.toArray
 |.dK kvs=>kvs.length<=sizeLine/\(a == sysModules)=false/\∃vs,KV kvs vs/\h.DictOf (cA P w) a vs
 |.dT kvs=>kvs.length<=sizeLine/\(a == sysModules)=false/\∃xs:List (List Key×Addr×Value),
   Paired (λ(p:List Key×V) (q:List Key×Addr×Value)=>p.1=q.1/\H q.2.1=some (.tup (p.1.map kV))/\RelV p.2 q.2.2) kvs xs /\
   ∃o es ep,h.get? a=some o/\o.ExactDict/\o.data=.dict es ep/\es.toList=xs.map (entryOfKey (tupleKind (cA P w)))/\(xs.map (·.1)).Nodup
 |.set S n=>h.SetOf (intKind P w) a S n
 |.ins C dx fs=>H dx=some (.own a)/\fs.length<=1000/\dx≠a/\h.get? a=some (W.instObj C dx) /\
   ∃mA,h.Ns1 dx mA/\(∀f,jy (fs.lookup f) (mA f))/\PySem.Within mA (fs.map (·.1))
 |.own _=>∃o,h.get? a=some o
 |.xd fs=>∃mA,h.Ns1 a mA/\∀f,jy (fs.lookup f) (mA f)
 |.rR lo hi=>∃t u v,h.get? a=some {cls:=.type "range",data:=.fields #[.int lo t,.int hi u,.int 1 v]}
 |.jU o u=>h.get? a=some o/\ba H h a u
 |.Cu ps=>∃qs:Array Value,h.get? a=some {cls:=.none,data:=.fields qs}/\TriplesOk qs.toList/\∀pos cv,codeAmong pos qs.toList=some cv->FZ H (AD ps) cv
 |.met f x=>h.get? a=some (W.methodObj (.ref f) (.ref x))
 |.ext φ=>φ h/\(∃o,h.get? a=some o)/\∀h1 h2:Heap,φ h1->(∀o,h1.get? a=some o->h2.get? a=some o)->φ h2
def j9(H:Hp)(h:Heap):Prop:=∀a o,H a=some o->ba P w H h a o
end
section
variable {P:Program} {w:World} {H H':Hp} {h h':Heap} {a:Addr} {o:HO}
def ba.lt(x:ba P w H h a o):a<h.objs.size:=by
 cases o with
 |lst xs=>obtain⟨_,_,_,_,e⟩:=x;exact MN e
 |tup xs=>obtain⟨_,_,_,p⟩:=x;exact p.lt
 |dK kvs=>obtain⟨_,_,_,_,o,_,_,e,_⟩:=x;exact MN e
 |dT kvs=>obtain⟨_,_,_,_,o,_,_,e,_⟩:=x;exact MN e
 |set S n=>obtain⟨o,_,_,_,e,_⟩:=x;exact MN e
 |ins C dx fs=>obtain⟨_,_,_,e,_⟩:=x;exact MN e
 |own y=>obtain⟨_,e⟩:=x;exact MN e
 |xd fs=>obtain⟨_,⟨_,_,_,e,_⟩,_⟩:=x;exact MN e
 |rR lo hi=>obtain⟨_,_,_,e⟩:=x;exact MN e
 |jU ob u=>obtain⟨e,_⟩:=x;exact MN e
 |Cu ps=>obtain⟨_,e,_⟩:=x;exact MN e
 |met f y=>exact MN (show h.get? a=some _ from x)
 |ext φ=>obtain⟨_,⟨_,e⟩,_⟩:=x;exact MN e
theorem Paired.Fq{α β:Type}{F G:α->β->Prop}:∀{l₁:List α} {l₂:List β},Paired F l₁ l₂->(∀a b,F a b->G a b)->Paired G l₁ l₂
 |_,_,.nil,_=>.nil
 |_,_,.cons r t,f=>.cons (f _ _ r) (Paired.Fq t f)
def ba.pP(x:ba P w H h a o)(k:∀b u,(b=a\/H b=some (.own a))->h.get? b=some u->h'.get? b=some u)
  (ho:∀b,H b=some (.own a)->H' b=some (.own a)) (ht:∀b xs,H b=some (.tup xs)->H' b=some (.tup xs)) (hz:∀b o u,H b=some (.jU o u)->H' b=some (.jU o u)):ba P w H' h' a o:=by
 induction o with
 |lst xs=>obtain⟨z,its,n,r,e⟩:=x;exact⟨z,its,n,r,k _ _ (.inl rfl) e⟩
 |tup xs=>obtain⟨z,its,r,ob,e,c⟩:=x;exact⟨z,its,r,ob,k _ _ (.inl rfl) e,c⟩
 |dK kvs=>obtain⟨z,y,vs,r,ob,es,ep,e,c⟩:=x;exact⟨z,y,vs,r,ob,es,ep,k _ _ (.inl rfl) e,c⟩
 |dT kvs =>
  obtain⟨z,y,xs,r,ob,es,ep,e,c⟩:=x;exact⟨z,y,xs,Paired.Fq r λp q z=>⟨z.1,ht _ _ z.2.1,z.2.2⟩,ob,es,ep,k _ _ (.inl rfl) e,c⟩
 |set S n=>obtain⟨ob,es,ep,t,e,c⟩:=x;exact⟨ob,es,ep,t,k _ _ (.inl rfl) e,c⟩
 |ins C dx fs =>
  obtain⟨d,z,ne,e,mA,⟨od,es,ep,e2,c⟩,r⟩:=x;exact⟨ho _ d,z,ne,k _ _ (.inl rfl) e,mA,⟨od,es,ep,k _ _ (.inr d) e2,c⟩,r⟩
 |own y=>obtain⟨ob,e⟩:=x;exact⟨ob,k _ _ (.inl rfl) e⟩
 |xd fs=>obtain⟨mA,⟨od,es,ep,e,c⟩,r⟩:=x;exact⟨mA,⟨od,es,ep,k _ _ (.inl rfl) e,c⟩,r⟩
 |rR lo hi=>obtain⟨t,u,v,e⟩:=x;exact⟨t,u,v,k _ _ (.inl rfl) e⟩
 |jU ob u ih=>obtain⟨e,q⟩:=x;exact⟨k _ _ (.inl rfl) e,ih q⟩
 |Cu ps =>
  obtain⟨qs,e,t,f⟩:=x;exact⟨qs,k a _ (.inl rfl) e,t,λpos cv q=>let ⟨c,oc,vs,t',e1,e2,e3⟩:=f pos cv q;⟨c,oc,vs,t',e1,hz _ _ _ e2,e3⟩⟩
 |met f y =>
  have e:h.get? a=some (W.methodObj (.ref f) (.ref y)):=x;show h'.get? a=some (W.methodObj (.ref f) (.ref y));exact k a _ (.inl rfl) e
 |ext φ=>obtain⟨p,⟨o,e⟩,st⟩:=x;exact⟨st _ _ p λo q=>k _ _ (.inl rfl) q,⟨o,k _ _ (.inl rfl) e⟩,st⟩
def j9.lt(x:j9 P w H h)(e:H a=some o):a<h.objs.size:=(x a o e).lt
def j9.fresh(x:j9 P w H h)(e:h.objs.size<=a):H a=none:=by
 cases q:H a with
 |none=>rfl
 |some u=>exact absurd (Nf (x.lt q) e) (Od _)
def j9.kept(x:j9 P w H h)(k:∀b u,h.get? b=some u->h'.get? b=some u):j9 P w H h':=λa o e =>
 (x a o e).pP (λb u _ q=>k b u q) (λ_ q=>q) (λ_ _ q=>q) λ_ _ _ q=>q
def j9.laid(x:j9 P w H h)(k:∀b u,h.get? b=some u->h'.get? b=some u)(hp:h.objs.size<=a)(new:ba P w (upd H a o) h' a o):j9 P w (upd H a o) h':=λb u e=>by
 have hn:=x.fresh hp;by_cases hb:b=a
 ·subst hb;rw[aa] at e;cases e;exact new
 ·rw[af hb] at e;exact (x b u e).pP (λc v _ q=>k c v q) (λc q=>by rw[af (ae q hn)];exact q) (λc xs q=>by rw[af (ae q hn)];exact q) λc _ _ q=>by rw[af (ae q hn)];exact q
end
def Rd(H:Hp)(a:Addr)(u:HO):Prop:=H a=some u\/∃o,H a=some (.jU o u)
def Rd.ok{P:Program}{u:HO}(r:Rd H a u)(x:j9 P w H h):ba P w H h a u:=by
 rcases r with r|⟨o,r⟩
 ·exact x a u r
 ·obtain⟨_,q⟩:=x a _ r;exact q
def KZ:Option HO->Prop
 |some (.lst _)=>True
 |some (.dK _)=>True
 |some (.dT _)=>True
 |some (.set _ _)=>True
 |some (.ins _ _ _)=>True
 |some (.ext _)=>True
 |_=>False
section
variable {P:Program} {w:World} {H:Hp} {h h':Heap} {x e:Addr} {o':HO}
def j9.write(ok:j9 P w H h)(mu:KZ (H x))(he:e=x\/H e=some (.own x))(k:∀b u,b≠e->h.get? b=some u->h'.get? b=some u)(heo:∃u,h'.get? e=some u)
  (new:ba P w (upd H x o') h' x o'):j9 P w (upd H x o') h':=λb u q=>by
 have nown:∀c y,H c=some (.own y)->c≠x:=λc y r z=>by subst z;rw[r] at mu;exact mu
 have ntup:∀c xs,H c=some (.tup xs)->c≠x:=λc xs r z=>by subst z;rw[r] at mu;exact mu
 have nfrz:∀c o1 u1,H c=some (.jU o1 u1)->c≠x:=λc _ _ r z=>by subst z;rw[r] at mu;exact mu
 by_cases hb:b=x
 ·subst hb;rw[aa] at q;cases q;exact new
 ·rw[af hb] at q;by_cases hbe:b=e
  ·have q':H b=some (.own x):=by
    rcases he with z|z
    ·exact absurd (hbe.trans z) hb
    ·rw[hbe];exact z
   rw[q] at q';cases q';obtain⟨v,hv⟩:=heo;exact⟨v,by rw[hbe];exact hv⟩
  ·refine (ok b u q).pP (λc v hc r=>k c v ?_ r) (λc r=>by rw[af (nown c b r)];exact r) (λc xs r=>by rw[af (ntup c xs r)];exact r) λc _ _ r=>by rw[af (nfrz c _ _ r)];exact r
   rcases hc with rfl|hc
   ·exact hbe
   ·rintro rfl;rcases he with z|z
    ·exact nown c b hc z
    ·rw[hc] at z;cases z;exact hb rfl
end
structure Un (fs ex:List Addr) (H H':Hp) (h h':Heap):Prop where
 keep:∀b o,h.get? b=some o->H b=none->b∉fs->b∉ex->h'.get? b=some o
 slot:∀b o,h.get? b=some o->H b=none->b∈fs->b∉ex->∃sl,h'.get? b=some {o with slots:=sl}
 free:∀b o,h.get? b=some o->H b=none->b∉ex->H' b=none
 there:∀b o,h.get? b=some o->b∉ex->∃o',h'.get? b=some o'
 rh:∀b xs,H b=some (.tup xs)->H' b=some (.tup xs)
 pN:∀b o u,H b=some (.jU o u)->H' b=some (.jU o u)
 nS:∀b ps,H b=some (.Cu ps)->∃more,H' b=some (.Cu (ps++more))
section
variable {fs fs' ex ex':List Addr} {H H1 H2:Hp} {h h1 h2 h':Heap} {a x e:Addr} {o:HO}
def Un.any(u:Un fs ex H H1 h h1){ob:Obj}(q:h.get? b=some ob)(n:H b=none)(hx:b∉ex):∃sl,h1.get? b=some {ob with slots:=sl}:=by
 by_cases hb:b∈fs
 ·exact u.slot b ob q n hb hx
 ·exact⟨ob.slots,u.keep b ob q n hb hx⟩
def Un.kept(k:∀b u,h.get? b=some u->h'.get? b=some u):Un fs ex H H h h':=
 ⟨λb ob q _ _ _=>k b ob q,λb ob q _ _ _=>⟨ob.slots,k b ob q⟩,λ_ _ _ n _=>n,λb ob q _=>⟨ob,k b ob q⟩,λ_ _ q=>q,λ_ _ _ q=>q,λ_ ps q=>⟨#[],by rw[q];simp⟩⟩
def Un.refl:Un fs ex H H h h:=Un.kept λ_ _ q=>q
def Un.laid(k:∀b u,h.get? b=some u->h'.get? b=some u)(hp:h.objs.size<=a)(hn:H a=none):Un fs ex H (upd H a o) h h' where
 keep:=λb u q _ _ _=>k b u q
 slot:=λb u q _ _ _=>⟨u.slots,k b u q⟩
 free:=λb u q n _=>by rw[af (M_ (Nf (MN q) hp))];exact n
 there:=λb u q _=>⟨u,k b u q⟩
 rh:=λb xs q=>by rw[af (ae q hn)];exact q
 pN:=λb u xs q=>by rw[af (ae q hn)];exact q
 nS:=λb ps q=>⟨#[],by rw[af (ae q hn),q];simp⟩
def Un.write(mu:KZ (H x))(he:e=x\/H e=some (.own x))(k:∀b u,b≠e->h.get? b=some u->h'.get? b=some u)(heo:∃u,h'.get? e=some u):Un fs ex H (upd H x o) h h':=by
 have hx:∀b,H b=none->b≠x:=λb n z=>by subst z;rw[n] at mu;exact mu
 have hb:∀b,H b=none->b≠e:=λb n z=>by
  subst z;rcases he with r|r
  ·exact hx b n r
  ·rw[n] at r;cases r
 have hm:∀b u,H b=some u->¬ KZ (some u)->b≠x:=λb u q nm z=>by subst z;rw[q] at mu;exact nm mu
 refine⟨λb u q n _ _=>k b u (hb b n) q,λb u q n _ _=>⟨u.slots,k b u (hb b n) q⟩,λb u q n _=>by rw[af (hx b n)];exact n,λb u q _=>?_,
  λb xs q=>by rw[af (hm b _ q λz=>z)];exact q,λb u xs q=>by rw[af (hm b _ q λz=>z)];exact q,λb ps q=>⟨#[],by rw[af (hm b _ q λz=>z),q];simp⟩⟩
 by_cases hbe:b=e
 ·subst hbe;exact heo
 ·exact⟨u,k b u hbe q⟩
end
def KP(h:Heap)(H:Hp):List Addr:=(List.range h.objs.size).filter λa=>(H a).isSome
def nR(h:Heap)(H:Hp):Heap:=W.hideAll h (KP h H)
def xQ(h:Heap)(H:Hp):(nR h H).objs.size=h.objs.size:=W.hideAll_size _ _
def js{o:Obj}(e:h.get? b=some o)(n:H b=none):(nR h H).get? b=some o:=
 W.hideAll_get _ e λhm=>by
  have q:(H b).isSome=true:=(List.mem_filter.mp hm).2;rw[n] at q;simp at q
def Di{o:Obj}(e:(nR h H).get? b=some o):h.get? b=some o/\H b=none:=by
 have e':h.get? b=some o:=W.of_hideAll (KP h H) e;refine⟨e',?_⟩
 cases q:H b with
 |none=>rfl
 |some x =>
  have hm:b∈KP h H:=List.mem_filter.mpr ⟨Ov.mpr (MN e'),by simp[q]⟩
  have z:(nR h H).get? b=none:=W.hideAll_none (KP h H) hm;rw[z] at e;cases e
def Fh(g h:Heap)(L:Addr):List (Addr×Obj):=(List.range h.objs.size).filterMap λa=>if a=L\/(g.get? a).isSome=true then none else (h.get? a).map λo=>(a,o)
def rest(g h:Heap)(L d:Addr):List (Addr×Obj):=(Fh g h L).filter λp=>decide (p.1≠d)
def dZ:List Str:=["by_worth","by_weight","code_of"]
def bU(K:W.Frag):List (Addr×Addr×Str):=dZ.filterMap λx=>(W.tabIn K x).map λp=>(p.1,p.2,(x++".<locals>.")++"<lambda>")
def TabsOk(K:W.Frag)(H:Hp):Prop:=∀t∈bU K,∃more,H t.2.1=some (.Cu (#[.str t.2.2 0]++more))
def TabsOk.un{fs ex:List Addr}{H1:Hp}{h1:Heap}(x:TabsOk K H)(u:Un fs ex H H1 h h1):TabsOk K H1:=λt ht=>by
 obtain⟨m,e⟩:=x t ht;obtain⟨m2,e2⟩:=u.nS _ _ e;exact⟨m++m2,by rw[e2,Array.append_assoc]⟩
def Ik(mg:Str->Option Value)(h:Heap):Prop:=∃bm ob,mg "__builtins__"=some (.ref bm)/\bm≠builtinsNs/\h.get? bm=some ob/\ob.cls=.type "module"/\ob.dict=some builtinsNs/\ob.data=.plain
structure Mod (K:W.Frag) (mg:Str->Option Value) (base:Heap):Prop where
 K8:K.In base
 glob:base.Ns mainGlobals mg
 blt:∃mb,base.Ns builtinsNs mb/\∀x:Str,x≠"__name__"->mb x=bootBuiltins x
 nolimit:base.NoLimit
 codes:∀t∈bU K,W.CodeHd base t.1 t.2.1
 bm:Ik mg base
structure Cx where
 prog:Program
 w:World
 K:W.Frag
 mg:Str->Option Value
 base:Heap
 A:Around
 N:List Str
 s₀:Shared
 H₀:Hp
 env:Env
 outer:List Env
 stack:List Env
 ex:List Addr
 fn:Str->Bool
 calm:Bool
 pn:List (Addr×Obj)
 xe:Value->Shared->Prop
variable{X:Cx}
def Cc(l:List Env):List Addr:=l.filterMap (·.frame)
abbrev Cx.fs(X:Cx):List Addr:=Cc X.outer
def J9(sc:Scope)(x:Str):Prop:=sc.names.lookup x=some .local\/sc.names.lookup x=some .cell\/sc.names.lookup x=some .free
def Loc(sc:Scope)(x:Str):Prop:=sc.names.lookup x=some .local\/sc.names.lookup x=some .cell
def Look(env:Env)(h:Heap)(m:Str->Option Value)(x:Str)(u:Value):Prop:=
 (env.kindOf x=some .local/\m x=some u)\/((env.kindOf x=some .cell\/env.kindOf x=some .free)/\∃c,env.cells.lookup x=some c/\h.IsCell c (some u))
structure Cx.Ok (X:Cx):Prop where
 mod:Mod X.K X.mg X.base
 kind:X.env.scope.kind=.function
 glob:X.env.globals=mainGlobals
 blt:X.env.builtins=builtinsNs
 above:X.s₀.heap.objs.size<=X.env.locals
 inj:∀x y c,X.env.cells.lookup x=some c->X.env.cells.lookup y=some c->x=y
 has:∀x,(X.env.kindOf x=some .cell\/X.env.kindOf x=some .free)->∃c,X.env.cells.lookup x=some c
 JN:∀x c,X.fn x=true->X.env.cells.lookup x=some c->X.s₀.heap.objs.size<=c
 hd:X.calm=true->X.A.handled=none
 frames:X.A.frames=some X.stack
 K_:X.stack=X.outer\/(X.stack=X.env::X.outer/\X.env.frame=some X.env.locals)
 LW:∀b∈X.ex,b≠X.env.locals/\∀x c,X.env.cells.lookup x=some c->c≠b
 bs:∀b o,X.base.get? b=some o->X.s₀.heap.get? b=some o/\X.H₀ b=none
 CG:X.base.objs.size<=X.s₀.heap.objs.size
 Bb:∀b o,X.base.get? b=some o->b∉X.ex
 DV:∀b∈X.ex,b∉X.fs
 kW:X.s₀.heap.FunFrames X.base X.outer
 HN:∀b∈X.fs,X.H₀ b=none
 tabs:TabsOk X.K X.H₀
structure Inv (X:Cx) (pins:List (Addr×Obj)) (σ:List (Option V)) (H:Hp) (s:Shared):Prop where
 ok:X.Ok
 os:s.os=X.s₀.os
 bare:AllBare s.gens
 base:Un X.fs X.ex X.H₀ H X.s₀.heap s.heap
 loc:∃m,s.heap.Ns X.env.locals m/\∀(i:Nat) (x:Str) (v:V),X.N[i]?=some x->σ[i]?=some (some v)->J9 X.env.scope x->∃u,RelV v u/\Look X.env s.heap m x u
 cell:∀x c,X.env.cells.lookup x=some c->∃v,s.heap.IsCell c v
 free:H X.env.locals=none
 gQ:∀x c,X.env.cells.lookup x=some c->H c=none
 pin:∀p∈X.pn++pins,s.heap.get? p.1=some p.2/\H p.1=none/\p.1≠X.env.locals/\p.1∉X.fs/\∀v,p.2.data≠.cell v
 aH:j9 X.prog X.w H s.heap
 len:σ.length=X.N.length
section
variable {X:Cx} {pins:List (Addr×Obj)} {σ:List (Option V)} {H H':Hp} {s:Shared} {h':Heap}
def Cx.Ok.Lr(ok:X.Ok){o:Obj}(e:X.base.get? b=some o):b∉X.fs:=λhb=>by
 have:=(ok.kW.mem hb).1;rw[e] at this;cases this
def Inv.bs(I:Inv X pins σ H s):∀b o,X.base.get? b=some o->s.heap.get? b=some o/\H b=none:=λb o e =>
 ⟨I.base.keep b o (I.ok.bs b o e).1 (I.ok.bs b o e).2 (I.ok.Lr e) (I.ok.Bb b o e),I.base.free b o (I.ok.bs b o e).1 (I.ok.bs b o e).2 (I.ok.Bb b o e)⟩
def Inv.bk(I:Inv X pins σ H s):∀b o,X.base.get? b=some o->s.heap.get? b=some o:=λb o e=>(I.bs b o e).1
def Inv.mod(I:Inv X pins σ H s):Mod X.K X.mg X.base:=I.ok.mod
def Inv.iz(I:Inv X pins σ H s):X.K.In s.heap:=I.ok.mod.K8.keeps I.bk
def Inv.nolimit(I:Inv X pins σ H s):s.heap.NoLimit:=I.ok.mod.nolimit.keeps I.bk
def Inv.lt(I:Inv X pins σ H s):X.env.locals<s.heap.objs.size:=let ⟨_,hn,_⟩:=I.loc;hn.lt
def Inv.sz(I:Inv X pins σ H s):X.s₀.heap.objs.size<=s.heap.objs.size:=Mz I.ok.above (Oy I.lt)
def Inv.JY(I:Inv X pins σ H s)(h:s.heap.objs.size<=a):a∉X.fs:=λhb=>by
 obtain⟨_,o,ho,_⟩:=I.ok.kW.mem hb;exact absurd (Nf (MN ho) (Mz I.sz h)) (Od _)
def Inv.Iv(I:Inv X pins σ H s):∀x c,X.env.cells.lookup x=some c->c≠X.env.locals:=λx c e z=>by
 obtain⟨v,o,ho,hd⟩:=I.cell x c e;obtain⟨m,⟨o',es,ep,ho',hd',_⟩,_⟩:=I.loc;rw[z,ho'] at ho;cases ho;rw[hd'] at hd;cases hd
def Inv.kW(I:Inv X pins σ H s):s.heap.FunFrames X.base X.outer:=by
 have all:∀(l:List Env),(∀b∈Cc l,b∈X.fs)->X.s₀.heap.FunFrames X.base l->s.heap.FunFrames X.base l:=by
  intro l
  induction l with
  |nil=>intro _ _;trivial
  |cons env r ih =>
   intro hs hl;obtain⟨hk,⟨L,o,hf,hn,ho,hd⟩,hr⟩:=hl;have hL:L∈X.fs:=hs L (by unfold Cc;rw[Qg,hf];exact MK)
   obtain⟨sl,e⟩:=I.base.slot L o ho (I.ok.HN L hL) hL λz=>I.ok.DV L z hL;exact⟨hk,⟨L,_,hf,hn,e,hd⟩,ih (λb hb=>hs b (by unfold Cc;rw[Qg,hf];exact MF _ hb)) hr⟩
 exact all X.outer (λ_ hb=>hb) I.ok.kW
def Inv.stack(I:Inv X pins σ H s):s.heap.FunFrames X.base X.stack:=by
 rcases I.ok.K_ with e|⟨e,hf⟩
 ·rw[e];exact I.kW
 ·rw[e];obtain⟨m,hn,_⟩:=I.loc;refine .cons (by rw[I.ok.kind];decide) hf hn ?_ I.kW
  exact Heap.get?_none_of_le (Mz I.ok.CG I.ok.above)
def Inv.qg(I:Inv X pins σ H s):∀b∈Cc X.stack,b∈X.env.locals::X.fs:=λb hb=>by
 rcases I.ok.K_ with e|⟨e,hf⟩
 ·rw[e] at hb;exact MF _ hb
 ·rw[e] at hb;unfold Cc at hb;rw[Qg,hf] at hb;exact hb
def Inv.pX(I:Inv X pins σ H s):∀b∈Cc X.stack,H b=none:=λb hb=>by
 rcases M0.mp (I.qg b hb) with e|hb
 ·rw[e];exact I.free
 ·obtain⟨_,o,ho,_⟩:=I.ok.kW.mem hb;exact I.base.free b o ho (I.ok.HN b hb) λz=>I.ok.DV b z hb
def Inv.step{t':Nat}{d':Drawn}(I:Inv X pins σ H s)
  (hch:∀b∈ch,(b∈X.ex\/X.s₀.heap.objs.size<=b)/\b≠X.env.locals/\(∀x c,X.env.cells.lookup x=some c->c≠b)/\∀p∈X.pn++pins,p.1≠b)
  (keep:∀b o,b≠X.env.locals->b∉X.fs->b∉ch->s.heap.get? b=some o->H b=none->h'.get? b=some o)
  (slot:∀b o,b≠X.env.locals->b∈X.fs->b∉ch->s.heap.get? b=some o->H b=none->∃sl,h'.get? b=some {o with slots:=sl}) (free:∀b o,b∉ch->s.heap.get? b=some o->H b=none->H' b=none)
  (there:∀b o,b∉ch->s.heap.get? b=some o->∃o',h'.get? b=some o')
  (rh:∀b xs,H b=some (.tup xs)->H' b=some (.tup xs)) (pN:∀b o u,H b=some (.jU o u)->H' b=some (.jU o u)) (nS:∀b ps,H b=some (.Cu ps)->∃more,H' b=some (.Cu (ps++more)))
  (ns:∀m,s.heap.Ns X.env.locals m->h'.Ns X.env.locals m) (aH:j9 X.prog X.w H' h') (hg:AllBare g') :
  Inv X pins σ H' {s with heap:=h',gens:=g',drawn:=d',toks:=t'}:=by
 have neL:∀b o,X.s₀.heap.get? b=some o->b≠X.env.locals:=λb o e=>M_ (Nf (MN e) I.ok.above);have neC:∀b o,X.s₀.heap.get? b=some o->b∉X.ex->b∉ch:=λb o e hx hb=>by
  rcases (hch b hb).1 with z|z
  ·exact hx z
  ·exact absurd (Nf (MN e) z) (Od _)
 have cellK:∀x c,X.env.cells.lookup x=some c->∀v,s.heap.IsCell c v->h'.IsCell c v:=λx c e v ⟨o,ho,hd⟩=>by
  have nch:c∉ch:=λz=>(hch c z).2.2.1 x c e rfl;by_cases hc:c∈X.fs
  ·obtain⟨sl,q⟩:=slot c o (I.Iv x c e) hc nch ho (I.gQ x c e);exact⟨_,q,hd⟩
  ·exact⟨o,keep c o (I.Iv x c e) hc nch ho (I.gQ x c e),hd⟩
 refine⟨I.ok,I.os,hg,⟨λb o e n hb hx=>?_,λb o e n hb hx=>?_,λb o e n hx=>?_,λb o e hx=>?_,λb xs e=>rh b xs (I.base.rh b xs e),λb o xs e=>pN b o xs (I.base.pN b o xs e),λb ps e=>?_⟩,?_,λx c e=>?_,?_,λx c e=>?_,λp hp=>?_,aH,I.len⟩
 ·exact keep b o (neL b o e) hb (neC b o e hx) (I.base.keep b o e n hb hx) (I.base.free b o e n hx)
 ·obtain⟨sl,e1⟩:=I.base.slot b o e n hb hx;obtain⟨sl',e2⟩:=slot b _ (neL b o e) hb (neC b o e hx) e1 (I.base.free b o e n hx);exact⟨sl',e2⟩
 ·obtain⟨o',e1⟩:=I.base.there b o e hx;exact free b o' (neC b o e hx) e1 (I.base.free b o e n hx)
 ·obtain⟨o',e1⟩:=I.base.there b o e hx;exact there b o' (neC b o e hx) e1
 ·obtain⟨m1,e1⟩:=I.base.nS b ps e;obtain⟨m2,e2⟩:=nS b _ e1;exact⟨m1++m2,by rw[e2,Array.append_assoc]⟩
 ·obtain⟨m,hn,hl⟩:=I.loc;refine⟨m,ns m hn,λi x v e1 e2 e3=>?_⟩;obtain⟨u,r,l⟩:=hl i x v e1 e2 e3;refine⟨u,r,?_⟩;rcases l with l|⟨k,c,e,z⟩
  ·exact .inl l
  ·exact .inr ⟨k,c,e,cellK x c e _ z⟩
 ·obtain⟨v,z⟩:=I.cell x c e;exact⟨v,cellK x c e v z⟩
 ·obtain⟨m,⟨o,_,_,ho,_⟩,_⟩:=I.loc;exact free _ o (λz=>(hch _ z).2.1 rfl) ho I.free
 ·obtain⟨v,o,ho,hd⟩:=I.cell x c e;exact free c o (λz=>(hch c z).2.2.1 x c e rfl) ho (I.gQ x c e)
 ·obtain⟨e,n,ne,nf,d⟩:=I.pin p hp;have nch:p.1∉ch:=λz=>(hch p.1 z).2.2.2 p hp rfl;exact⟨keep p.1 p.2 ne nf nch e n,free p.1 p.2 nch e n,ne,nf,d⟩
def Inv.un{t':Nat}(I:Inv X pins σ H s)(u:Un X.fs [] H H' s.heap h')(aH:j9 X.prog X.w H' h'):Inv X pins σ H' {s with heap:=h',toks:=t'}:=by
 obtain⟨m,⟨o,es,ep,ho,r⟩,_⟩:=id I.loc;obtain⟨sl,hL⟩:=u.any ho I.free (by simp)
 exact I.step (g':=s.gens) (d':=s.drawn) (ch:=[]) (λ_ z=>nomatch z) (λb o _ hb _ e n=>u.keep b o e n hb (by simp)) (λb o _ hb _ e n=>u.slot b o e n hb (by simp)) (λb o _ e n=>u.free b o e n (by simp)) (λb o _ e=>u.there b o e (by simp)) u.rh u.pN u.nS (λm' hm=>by
  obtain⟨o',es',ep',ho',r'⟩:=hm;rw[ho] at ho';cases ho';exact⟨_,es',ep',hL,r'⟩) aH I.bare
def Inv.call{t':Nat}{d':Drawn}{ch:List Addr}(I:Inv X pins σ H s)(u:Un (Cc X.stack) ch H H' s.heap h')(aH:j9 X.prog X.w H' h')(hg:AllBare g')
  (hch:∀b∈ch,(b∈X.ex\/X.s₀.heap.objs.size<=b)/\b≠X.env.locals/\(∀x c,X.env.cells.lookup x=some c->c≠b)/\∀p∈X.pn++pins,p.1≠b) :
  Inv X pins σ H' {s with heap:=h',gens:=g',drawn:=d',toks:=t'}:=by
 obtain⟨m,⟨o,es,ep,ho,r⟩,_⟩:=id I.loc;obtain⟨sl,hL⟩:=u.any ho I.free λz=>(hch _ z).2.1 rfl;exact I.step (ch:=ch) hch (λb o hL hb hc e n=>u.keep b o e n (λz=>(M0.mp (I.qg b z)).elim hL hb) hc) (λb o _ _ hc e n=>u.any e n hc) (λb o hc e n=>u.free b o e n hc) (λb o hc e=>u.there b o e hc) u.rh u.pN u.nS (λm' hm=>by
  obtain⟨o',es',ep',ho',r'⟩:=hm;rw[ho] at ho';cases ho';exact⟨_,es',ep',hL,r'⟩) aH hg
def Inv.turned{t':Nat}{it:Addr}(I:Inv X pins σ H s)(k:∀b o,b≠it->s.heap.get? b=some o->h'.get? b=some o)(hn:H it=none)(hL:it≠X.env.locals)
  (h1:it∈X.ex\/X.s₀.heap.objs.size<=it) (h2:∀x c,X.env.cells.lookup x=some c->c≠it) (h3:∀p∈X.pn++pins,p.1≠it):Inv X pins σ H {s with heap:=h',toks:=t'}:=by
 have nit:∀b u,H b=some u->b≠it:=λb u e z=>by rw[z,hn] at e;cases e
 refine I.step (g':=s.gens) (d':=s.drawn) (ch:=[it]) (λb hb=>?_) (λb o _ _ hc e _=>k b o (λz=>hc (by simp[z])) e) (λb o _ _ hc e _=>⟨o.slots,k b o (λz=>hc (by simp[z])) e⟩) (λ_ _ _ _ n=>n)
  (λb o hc e=>⟨o,k b o (λz=>hc (by simp[z])) e⟩) (λ_ _ e=>e) (λ_ _ _ e=>e) (λb ps e=>⟨#[],by rw[e];simp⟩) (λm hm=>?_) (λb u e=>?_) I.bare
 ·have e:b=it:=by simpa using hb
  subst e;exact⟨h1,hL,h2,h3⟩
 ·obtain⟨o,es,ep,ho,r⟩:=hm;exact⟨o,es,ep,k _ o (MV hL) ho,r⟩
 ·refine (I.aH b u e).pP (λc v hc q=>k c v ?_ q) (λ_ q=>q) (λ_ _ q=>q) λ_ _ _ q=>q;rcases hc with z|z
  ·rw[z];exact nit b u e
  ·exact nit c _ z
def Inv.tok(I:Inv X pins σ H s)(t:Nat):Inv X pins σ H {s with toks:=t}:=I.un (h':=s.heap) (t':=t) Un.refl I.aH
def Inv.kept{t':Nat}(I:Inv X pins σ H s)(k:∀b u,s.heap.get? b=some u->h'.get? b=some u):Inv X pins σ H {s with heap:=h',toks:=t'}:=I.un (Un.kept k) (I.aH.kept k)
def Inv.laid{o:HO}{t':Nat}(I:Inv X pins σ H s)(k:∀b u,s.heap.get? b=some u->h'.get? b=some u)(hp:s.heap.objs.size<=a)(new:ba X.prog X.w (upd H a o) h' a o):
  Inv X pins σ (upd H a o) {s with heap:=h',toks:=t'}:=I.un (Un.laid k hp (I.aH.fresh hp)) (I.aH.laid k hp new)
def Inv.write{x e:Addr}{o:HO}{t':Nat}(I:Inv X pins σ H s)(mu:KZ (H x))(he:e=x\/H e=some (.own x))(k:∀b u,b≠e->s.heap.get? b=some u->h'.get? b=some u)(heo:∃u,h'.get? e=some u)
  (new:ba X.prog X.w (upd H x o) h' x o):Inv X pins σ (upd H x o) {s with heap:=h',toks:=t'}:=I.un (Un.write mu he k heo) (I.aH.write mu he k heo new)
def Inv.pM{pins':List (Addr×Obj)}(I:Inv X pins σ H s)(h:∀p∈pins',s.heap.get? p.1=some p.2/\H p.1=none/\p.1≠X.env.locals/\p.1∉X.fs/\∀v,p.2.data≠.cell v):Inv X pins' σ H s:=
 ⟨I.ok,I.os,I.bare,I.base,I.loc,I.cell,I.free,I.gQ,λp hp=>(N2.mp hp).elim (λz=>I.pin p (N7 _ z)) (h p),I.aH,I.len⟩
def rd(hN:N.Nodup){x:Str}(a:N[i]?=some x)(b:N[j]?=some x):i=j:=by
 obtain⟨h1,e1⟩:=Mw.mp a;obtain⟨h2,e2⟩:=Mw.mp b;exact (List.getElem_inj hN).mp (e1.trans e2.symm)
def oK{A:Around}{x:Str}{v:V}{Q:Unit->Shared->Prop}(I:Inv X pins σ H s)(hN:X.N.Nodup)(hi:X.N[i]?=some x)(hx:Loc X.env.scope x)(r:RelV v u)
  (h:∀s',Inv X pins (σ.set i (some v)) H s'->(∃a,Heap.SameBut a s.heap s'.heap/\(a=X.env.locals\/X.env.cells.lookup x=some a))->Q () s') (hf:autoParam (X.fn x=true\/X.env.scope.names.lookup x=some .local) ℜ2):wpAny M A (storeName X.env x u) Q E s:=by
 obtain⟨m,hn,hl⟩:=id I.loc;have hcls:(X.env.scope.kind == .class || (X.env.scope.kind == .module && X.env.locals != X.env.globals))=false:=by rw[I.ok.kind];rfl
 have hiσ:i<σ.length:=by rw[I.len];exact (Mw.mp hi).1
 have Iv:=I.Iv;have tracked:∀{a:Addr} {h':Heap},(∃o,s.heap.get? a=some o/\H a=none)->Heap.SameBut a s.heap h'->j9 X.prog X.w H h':=λ{a h'} ha hs b ob e=>by
  obtain⟨_,_,hfree⟩:=ha;refine (I.aH b ob e).pP (λc w' hc q=>(hs.2 c ?_).trans q) (λ_ q=>q) (λ_ _ q=>q) λ_ _ _ q=>q;rintro rfl;rcases hc with rfl|hc
  ·rw[hfree] at e;cases e
  ·rw[hfree] at hc;cases hc
 rcases hx with hk|hk
 ·refine wpAny_storeName_local hk hn (λh' hn' hs=>?_) hcls;obtain⟨oL,_,_,hoL,_⟩:=id hn;refine h _ ⟨I.ok,I.os,I.bare,⟨λb o e n hb hx=>?_,λb o e n hb hx=>?_,I.base.free,λb o e hx=>?_,I.base.rh,I.base.pN,I.base.nS⟩,⟨_,hn',λj y v' e1 e2 e3=>?_⟩,λy c e=>?_,I.free,I.gQ,λp hp=>?_,tracked ⟨oL,hoL,I.free⟩ hs,by simpa using I.len⟩ ⟨_,hs,.inl rfl⟩
  ·exact (hs.2 b (M_ (Nf (MN e) I.ok.above))).trans (I.base.keep b o e n hb hx)
  ·obtain⟨sl,e1⟩:=I.base.slot b o e n hb hx;exact⟨sl,(hs.2 b (M_ (Nf (MN e) I.ok.above))).trans e1⟩
  ·obtain⟨o',e1⟩:=I.base.there b o e hx;exact⟨o',(hs.2 b (M_ (Nf (MN e) I.ok.above))).trans e1⟩
  ·by_cases hj:j=i
   ·subst hj;rw[hi] at e1;cases e1;rw[NO hiσ] at e2;cases e2;exact⟨u,r,.inl ⟨hk,by simp⟩⟩
   ·rw[NK (MV hj)] at e2;obtain⟨u',r',q⟩:=hl j y v' e1 e2 e3;refine⟨u',r',?_⟩;rcases q with ⟨k,e⟩|⟨k,c,e,z⟩
    ·refine .inl ⟨k,?_⟩;have:y≠x:=λe=>hj (rd hN e1 (e ▸ hi));simp[this,e]
    ·exact .inr ⟨k,c,e,z.sameBut hs (Iv y c e)⟩
  ·obtain⟨w',z⟩:=I.cell y c e;exact⟨w',z.sameBut hs (Iv y c e)⟩
  ·obtain⟨e,n,ne,nf,d⟩:=I.pin p hp;exact⟨(hs.2 p.1 ne).trans e,n,ne,nf,d⟩
 ·have hfn:X.fn x=true:=by
   rcases hf with z|z
   ·exact z
   ·rw[z] at hk;cases hk
  obtain⟨c,hc⟩:=I.ok.has x (.inl hk);obtain⟨w',z⟩:=I.cell x c hc;refine wpAny_storeName_cell I.ok.kind hk hc z (λh' hc' hs=>?_);obtain⟨oc,hoc,hocd⟩:=id z;refine h {s with heap:=h'} ⟨I.ok,I.os,I.bare,⟨λb o e n hb hx=>?_,λb o e n hb hx=>?_,I.base.free,λb o e hx=>?_,I.base.rh,I.base.pN,I.base.nS⟩,⟨m,hn.sameBut hs (MV (Iv x c hc)),λj y v' e1 e2 e3=>?_⟩,λy c' e=>?_,I.free,I.gQ,λp hp=>?_,tracked ⟨oc,hoc,I.gQ x c hc⟩ hs,by simpa using I.len⟩ ⟨c,hs,.inr hc⟩
  ·exact (hs.2 b (M_ (Nf (MN e) (I.ok.JN x c hfn hc)))).trans (I.base.keep b o e n hb hx)
  ·obtain⟨sl,e1⟩:=I.base.slot b o e n hb hx;exact⟨sl,(hs.2 b (M_ (Nf (MN e) (I.ok.JN x c hfn hc)))).trans e1⟩
  ·obtain⟨o',e1⟩:=I.base.there b o e hx;exact⟨o',(hs.2 b (M_ (Nf (MN e) (I.ok.JN x c hfn hc)))).trans e1⟩
  ·by_cases hj:j=i
   ·subst hj;rw[hi] at e1;cases e1;rw[NO hiσ] at e2;cases e2;exact⟨u,r,.inr ⟨.inl hk,c,hc,hc'⟩⟩
   ·rw[NK (MV hj)] at e2;obtain⟨u',r',q⟩:=hl j y v' e1 e2 e3;refine⟨u',r',?_⟩;rcases q with q|⟨k,c',e,z'⟩
    ·exact .inl q
    ·refine .inr ⟨k,c',e,z'.sameBut hs ?_⟩;rintro rfl;exact hj (rd hN e1 (I.ok.inj _ _ _ e hc ▸ hi))
  ·by_cases hcc:c'=c
   ·subst hcc;exact⟨_,hc'⟩
   ·obtain⟨w2,z2⟩:=I.cell y c' e;exact⟨w2,z2.sameBut hs hcc⟩
  ·obtain⟨e,n,ne,nf,d⟩:=I.pin p hp;refine⟨(hs.2 p.1 ?_).trans e,n,ne,nf,d⟩;intro q;rw[q,hoc] at e;have q':oc=p.2:=Option.some.inj e;exact d w' (by rw[<- q'];exact hocd)
def qX{A:Around}{x:Str}{v:V}{Q:Unit->Shared->Prop}(I:Inv X pins σ H s)(hN:X.N.Nodup)(hi:X.N[i]?=some x)(hx:Loc X.env.scope x)(r:RelV v u)
  (h:∀s',Inv X pins (σ.set i (some v)) H s'->Q () s') (hf:autoParam (X.fn x=true\/X.env.scope.names.lookup x=some .local) ℜ2):wpAny M A (storeName X.env x u) Q E s:=
 oK I hN hi hx r (λs' I' _=>h s' I') hf
def Inv.Kb(I:Inv X pins σ H s)(ho:s'.os=s.os)(u:Un (Cc X.stack) ch H H' s.heap s'.heap)(aH:j9 X.prog X.w H' s'.heap)(hg:AllBare s'.gens)
  (hch:∀b∈ch,(b∈X.ex\/X.s₀.heap.objs.size<=b)/\b≠X.env.locals/\(∀x c,X.env.cells.lookup x=some c->c≠b)/\∀p∈X.pn++pins,p.1≠b):Inv X pins σ H' s':=by
 obtain⟨h',g',d',t',o'⟩:=s';have e:o'=s.os:=ho;subst e;exact I.call (g':=g') (t':=t') (d':=d') u aH hg hch
end
abbrev XK:=Value->Option Addr->Hp->Prop
abbrev St:=List (Option V)
variable{σ:St}
abbrev VK:=V->Hp->Prop
abbrev TE:=St->Hp->VK->Prop
abbrev TT:=St->Hp->(Bool->Hp->Prop)->Prop
abbrev TA:=St->Hp->(List V->Hp->Prop)->Prop
structure Ends where
 nx:St->Hp->Prop
 rt:VK
 bk:St->Hp->Prop:=λ_ _=>False
 ct:St->Hp->Prop:=λ_ _=>False
variable{D:Ends}
abbrev TS:=Ends->St->Hp->Prop
variable{tb:TS}
def EP(X:Cx)(pins:List (Addr×Obj))(σ:St)(Q:VK)(u:Value)(s':Shared):Prop:=∃v H',Inv X pins σ H' s'/\RelV v u/\Q v H'
def TP(X:Cx)(pins:List (Addr×Obj))(σ:St)(Q:Bool->Hp->Prop)(b:Bool)(s':Shared):Prop:=∃H',Inv X pins σ H' s'/\Q b H'
def AP(X:Cx)(pins:List (Addr×Obj))(σ:St)(Q:List V->Hp->Prop)(us:List Value)(s':Shared):Prop:=∃vs H',Inv X pins σ H' s'/\Vals vs us/\Q vs H'
def SP(X:Cx)(pins:List (Addr×Obj))(D:Ends)(f:Flow)(s':Shared):Prop:=
 match f with
 |.next=>∃σ' H',Inv X pins σ' H' s'/\D.nx σ' H'
 |.brk=>∃σ' H',Inv X pins σ' H' s'/\D.bk σ' H'
 |.cont=>∃σ' H',Inv X pins σ' H' s'/\D.ct σ' H'
 |.ret u=>∃v σ' H',Inv X pins σ' H' s'/\RelV v u/\D.rt v H'
def PE(X:Cx)(e:Expr)(t:TE):Prop:=
 ∀(pins:List (Addr×Obj)) (s:Shared) (σ:St) (H:Hp) (Q:VK),Inv X pins σ H s->t σ H Q->wpAny (model X.prog X.w) X.A (eval e X.env) (EP X pins σ Q) X.xe s
def PT(X:Cx)(e:Expr)(t:TT):Prop:=
 ∀(pins:List (Addr×Obj)) (s:Shared) (σ:St) (H:Hp) (Q:Bool->Hp->Prop),Inv X pins σ H s->t σ H Q->wpAny (model X.prog X.w) X.A (isTrue e X.env (eval e X.env)) (TP X pins σ Q) X.xe s
def PW(X:Cx)(e:Expr)(t:TT):Prop:=
 ∀(whole:Sem Value) (pins:List (Addr×Obj)) (s:Shared) (σ:St) (H:Hp) (Q:Bool->Hp->Prop),Inv X pins σ H s->t σ H Q->wpAny (model X.prog X.w) X.A (isTrue e X.env whole) (TP X pins σ Q) X.xe s
def PW.pt{t:TT}(h:PW X e t):PT X e t:=h _
def PA(X:Cx)(es:List Expr)(t:TA):Prop:=
 ∀(pos:Pos) (pins:List (Addr×Obj)) (s:Shared) (σ:St) (H:Hp) (Q:List V->Hp->Prop),Inv X pins σ H s->t σ H Q->wpAny (model X.prog X.w) X.A (spliced (backTo pos (starEach es X.env))) (AP X pins σ Q) X.xe s
def PS(X:Cx)(st:Stmt)(t:TS):Prop:=
 ∀(pins:List (Addr×Obj)) (s:Shared) (σ:St) (H:Hp) (D:Ends),Inv X pins σ H s->t D σ H->wpAny (model X.prog X.w) X.A (exec st X.env) (SP X pins D) X.xe s
def vd(X:Cx)(st:List Stmt)(t:TS):Prop:=
 ∀(pins:List (Addr×Obj)) (s:Shared) (σ:St) (H:Hp) (D:Ends),Inv X pins σ H s->t D σ H->wpAny (model X.prog X.w) X.A (execs st X.env) (SP X pins D) X.xe s
def bJ{α:Type}{t:Sem α}{Q Q':α->Shared->Prop}{A:Around}(h:wpAny M A t Q E s)(hQ:∀a s,Q a s->Q' a s):wpAny M A t Q' E s:=N8 h hQ λ_ _ x=>x
section
variable {X:Cx}
def t9(i:Nat):TE:=λσ H Q=>∃v,σ[i]?=some (some v)/\Q v H
def tC(v:V):TE:=λ_ H Q=>Q v H
def HF{x:Str}(hN:X.N[i]?=some x)(hv:J9 X.env.scope x)(hd:autoParam ((x ==("__debug__":Str))=false) ℜ1)(kB:autoParam ((x ==("__classdict__":Str))=false) ℜ1):PE X (.Name x pos) (t9 i):=by
 intro pins s σ H Q I h;obtain⟨v,e,h⟩:=h;obtain⟨m,hn,hl⟩:=I.loc;obtain⟨u,r,l⟩:=hl i x v hN e hv;have fin:EP X pins σ Q u s:=⟨v,H,I,r,h⟩;rcases l with ⟨hk,hm⟩|⟨hk,c,hc,hcell⟩
 ·exact wpAny_Name (wpAny_loadName_local I.ok.kind hk hn hm fin) hd
 ·rcases hk with hk|hk
  ·exact wpAny_Name (wpAny_loadName_cell I.ok.kind hk hc hcell fin) hd
  ·exact wpAny_Name (wpAny_loadName_free I.ok.kind hk hc hcell fin kB) hd
def zu{i j pos}:PE X (.Constant (.int i) j pos) (tC (.int i)):=λ_ _ _ H _ I h=>wpAny_Constant_int ⟨.int i,H,I.tok _,⟨_,rfl⟩,h⟩
def FV{b j pos}:PE X (.Constant (.bool b) j pos) (tC (.bl b)):=λ_ _ _ H _ I h=>Constant_bool ⟨.bl b,H,I,rfl,h⟩
def zM{j pos}:PE X (.Constant .none j pos) (tC .aN):=λ_ _ _ H _ I h=>Constant_none ⟨.aN,H,I,rfl,h⟩
def zB{x j pos}:PE X (.Constant (.str x) j pos) (tC (.str x)):=λ_ _ _ H _ I h=>Calls.Constant_str ⟨.str x,H,I.tok _,⟨_,rfl⟩,h⟩
def Gl(X:Cx)(x:Str):Prop:=X.env.kindOf x=some .globalImplicit
def j3{pins:List (Addr×Obj)}{x:Str}(I:Inv X pins σ H s)(hg:Gl X x)(hm:X.mg x=some u)(h:Q u s)
  (hd:autoParam ((x ==("__debug__":Str))=false) ℜ1):wpAny (model X.prog X.w) X.A (eval (.Name x pos) X.env) Q E s:=
 Qw I.ok.kind hg (Calls.loadGlobal_global (by rw[I.ok.glob];exact I.mod.glob.keeps I.bk) hm h) hd
def fY{pins:List (Addr×Obj)}{x:Str}(I:Inv X pins σ H s)(hg:Gl X x)(hm:X.mg x=none)(hv:bootBuiltins x=some u)(h:Q u s)
  (hn:autoParam (x≠"__name__") ℜ1) (hd:autoParam ((x ==("__debug__":Str))=false) ℜ1):wpAny (model X.prog X.w) X.A (eval (.Name x pos) X.env) Q E s:=by
 obtain⟨mb,h1,h2⟩:=I.mod.blt;exact Qw I.ok.kind hg (Calls.loadGlobal_builtin (by rw[I.ok.glob];exact I.mod.glob.keeps I.bk) hm (by rw[I.ok.blt];exact h1.keeps I.bk) ((h2 x hn).trans hv) h) hd
def pK{x:Str}{v:V}(hg:Gl X x)(hm:X.mg x=some u)(r:RelV v u)(hd:autoParam ((x ==("__debug__":Str))=false) ℜ1):PE X (.Name x pos) (tC v):=
 λ_ _ _ H _ I h=>j3 I hg hm ⟨v,H,I,r,h⟩ hd
def EW{x:Str}{v:V}(hg:Gl X x)(hm:X.mg x=none)(hv:bootBuiltins x=some u)(r:RelV v u)(hn:autoParam (x≠"__name__") ℜ1)(hd:autoParam ((x ==("__debug__":Str))=false) ℜ1):PE X (.Name x pos) (tC v):=
 λ_ _ _ H _ I h=>fY I hg hm hv ⟨v,H,I,r,h⟩ hn hd
variable {a b:Expr} {ta tb:TE} {pos:Pos}
variable {tA tB':TT} {rest:List Expr}
def AA(t u:TT):TT:=λσ H Q=>t σ H λc H1=>if c=true then u σ H1 Q else Q false H1
def Kl(t u:TT):TT:=λσ H Q=>t σ H λc H1=>if c=true then Q true H1 else u σ H1 Q
def Ab(t:TT):TT:=λσ H Q=>t σ H λc H1=>Q (!c) H1
def Ew(ha:PT X a tA):PW X (.BoolOp .And [a] pos) tA:=by
 intro wh pins s σ H Q I h;refine isTrue_and (bJ (ha pins s σ H Q I h) λc s1 e=>?_)
 cases c with
 |true=>exact isTrue_and_nil e
 |false=>exact e
def GX(ha:PT X a tA):PW X (.BoolOp .Or [a] pos) tA:=by
 intro wh pins s σ H Q I h;refine isTrue_or (bJ (ha pins s σ H Q I h) λc s1 e=>?_)
 cases c with
 |false=>exact isTrue_or_nil e
 |true=>exact e
def Ip(ha:PT X a tA)(hb:PW X (.BoolOp .And (b::rest) pos) tB'):PW X (.BoolOp .And (a::b::rest) pos) (AA tA tB'):=by
 intro wh pins s σ H Q I h;refine isTrue_and (bJ (ha pins s σ H _ I h) λc s1 hq7=>?_);obtain⟨H1,I1,q1⟩:=hq7
 cases c with
 |true=>exact hb wh pins s1 σ H1 Q I1 q1
 |false=>exact⟨H1,I1,q1⟩
def Jx(ha:PT X a tA)(hb:PW X (.BoolOp .Or (b::rest) pos) tB'):PW X (.BoolOp .Or (a::b::rest) pos) (Kl tA tB'):=by
 intro wh pins s σ H Q I h;refine isTrue_or (bJ (ha pins s σ H _ I h) λc s1 hq8=>?_);obtain⟨H1,I1,q1⟩:=hq8
 cases c with
 |true=>exact⟨H1,I1,q1⟩
 |false=>exact hb wh pins s1 σ H1 Q I1 q1
def GG(ha:PT X a tA):PT X (.UnaryOp .Not a pos) (Ab tA):=by
 intro pins s σ H Q I h;exact isTrue_not (ha pins s σ H (λc H1=>Q (!c) H1) I h)
def rG(ta tb:TE):TE:=λσ H Q=>ta σ H λx H1=>∃c,x=.bl c/\if c=true then tb σ H1 Q else Q (.bl false) H1
def Cf(ta tb:TE):TE:=λσ H Q=>ta σ H λx H1=>∃c,x=.bl c/\if c=true then Q (.bl true) H1 else tb σ H1 Q
def sE(ta:TE):TE:=λσ H Q=>ta σ H λx H1=>∃c,x=.bl c/\Q (.bl (!c)) H1
def HB{op}{t:TE}(h:PE X a t):PE X (.BoolOp op [a] pos) t:=λpins s σ H Q I hw=>BoolOp_one (h pins s σ H Q I hw)
def IY(ha:PE X a ta)(hb:PE X (.BoolOp .And (b::rest) pos) tb):PE X (.BoolOp .And (a::b::rest) pos) (rG ta tb):=by
 intro pins s σ H Q I h;refine BoolOp_and (bJ (ha pins s σ H _ I h) λv s1 hq9=>?_);obtain⟨x,H1,I1,r1,q1⟩:=hq9;obtain⟨c,rfl,q1⟩:=q1;cases r1;refine NQ ?_
 cases c with
 |true=>exact hb pins s1 σ H1 Q I1 q1
 |false=>exact⟨.bl false,H1,I1,rfl,q1⟩
def Kq(ha:PE X a ta)(hb:PE X (.BoolOp .Or (b::rest) pos) tb):PE X (.BoolOp .Or (a::b::rest) pos) (Cf ta tb):=by
 intro pins s σ H Q I h;refine BoolOp_or (bJ (ha pins s σ H _ I h) λv s1 hq10=>?_);obtain⟨x,H1,I1,r1,q1⟩:=hq10;obtain⟨c,rfl,q1⟩:=q1;cases r1;refine NQ ?_
 cases c with
 |false=>exact hb pins s1 σ H1 Q I1 q1
 |true=>exact⟨.bl true,H1,I1,rfl,q1⟩
def Ii(ha:PE X a ta):PE X (.UnaryOp .Not a pos) (sE ta):=by
 intro pins s σ H Q I h;refine UnaryOp_ (bJ (ha pins s σ H _ I h) λv s1 hq11=>?_);obtain⟨x,H1,I1,r1,q1⟩:=hq11;obtain⟨c,rfl,q1⟩:=q1;cases r1;exact not_of (NQ ⟨.bl (!c),H1,I1,rfl,q1⟩)
def KO(t:TT)(ta tb:TE):TE:=λσ H Q=>t σ H λc H1=>if c=true then ta σ H1 Q else tb σ H1 Q
def Af(hc:PT X c tA)(ha:PE X a ta)(hb:PE X b tb):PE X (.IfExp c a b pos) (KO tA ta tb):=by
 intro pins s σ H Q I h;refine wpAny_IfExp (bJ (hc pins s σ H _ I h) λd s1 hq12=>?_);obtain⟨H1,I1,q1⟩:=hq12
 cases d with
 |true=>exact ha pins s1 σ H1 Q I1 q1
 |false=>exact hb pins s1 σ H1 Q I1 q1
end
def aT(K:W.Frag)(H:Hp)(a:Addr)(xs:List V):Prop:=
 Rd H a (.lst xs) \/
  ∃(o:Obj) (its:Array Value) (n:Nat),K.lookup a=some o/\o.cls=.type "list"/\o.dict=none/\o.data=.seq its n/\its.size<=sizeLine/\Vals xs its.toList
def aW(K:W.Frag)(H:Hp)(a:Addr)(xs:List V):Prop:=
 Rd H a (.tup xs) \/
  ∃(o:Obj) (its:Array Value) (n:Nat),K.lookup a=some o/\o.cls=.type "tuple"/\o.data=.seq its n/\its.size<=sizeLine/\Vals xs its.toList
def LM:Value->Option V
 |.none=>some .aN
 |.bool b=>some (.bl b)
 |.int i _=>some (.int i)
 |.str x _=>some (.str x)
 |.bytes b _=>some (.tH b)
 |.float b _=>some (.Jc b)
 |.ref a=>some (.ref a)
 |.type n=>some (.ty n)
 |_=>none
def RelV.abs{x:V}(r:RelV x u):LM u=some x:=by
 cases x with
 |aN=>cases r;rfl
 |bl _=>cases r;rfl
 |int _=>obtain⟨t,rfl⟩:=r;rfl
 |str _=>obtain⟨t,rfl⟩:=r;rfl
 |tH _=>obtain⟨t,rfl⟩:=r;rfl
 |Jc _=>obtain⟨t,rfl⟩:=r;rfl
 |ref _=>cases r;rfl
 |ty _=>cases r;rfl
def RelV.inj{x y:V}(r:RelV x u)(q:RelV y u):x=y:=Option.some.inj (r.abs.symm.trans q.abs)
theorem Vals.inj:∀{xs ys:List V} {us:List Value},Vals xs us->Vals ys us->xs=ys
 |_,_,_,.nil,.nil=>rfl
 |_,_,_,.cons r t,.cons r' t'=>by rw[r.inj r',Vals.inj t t']
section
variable {X:Cx} {pins:List (Addr×Obj)} {σ:St} {H:Hp} {s:Shared} {a:Addr} {xs ys:List V}
def aT.of(h:H a=some (.lst xs)):aT K H a xs:=.inl (.inl h)
def aW.of(h:H a=some (.tup xs)):aW K H a xs:=.inl (.inl h)
def Inv.list(I:Inv X pins σ H s)(h:aT X.K H a xs):∃its:List Value,Vals xs its/\PlainL s.heap a its.toArray/\xs.length<=sizeLine:=by
 rcases h with h|⟨o,its,n,hk,hc,hd,hs,hz,r⟩
 ·obtain⟨z,its,n,r,e⟩:=h.ok I.aH;exact⟨its,r,⟨_,n,e,rfl,rfl,rfl⟩,z⟩
 ·refine⟨its.toList,r,⟨o,n,I.iz a o hk,hc,hd,by simpa using hs⟩,?_⟩
  have e:=r.length;simp only[Np] at e;lia
def Inv.tuple(I:Inv X pins σ H s)(h:aW X.K H a xs):∃its:List Value,Vals xs its/\IsTup s.heap a its.toArray/\xs.length<=sizeLine:=by
 rcases h with h|⟨o,its,n,hk,hc,hs,hz,r⟩
 ·obtain⟨z,its,r,p⟩:=h.ok I.aH;exact⟨its,r,p.to,z⟩
 ·refine⟨its.toList,r,⟨o,I.iz a o hk,hc,n,by simpa using hs⟩,?_⟩
  have e:=r.length;simp only[Np] at e;lia
def Inv.mr(I:Inv X pins σ H s)(h:aT X.K H a xs)(h':aT X.K H a ys):xs=ys:=by
 obtain⟨its,r,⟨o,n,e,_,_,d⟩,_⟩:=I.list h;obtain⟨its',r',⟨o',n',e',_,_,d'⟩,_⟩:=I.list h';rw[e] at e';cases e';rw[d] at d'
 injection d' with d1 _
 have:its=its':=by simpa using Nw Array.toList d1
 subst this;exact r.inj r'
def Inv.jD(I:Inv X pins σ H s)(h:aW X.K H a xs)(h':aW X.K H a ys):xs=ys:=by
 obtain⟨its,r,⟨o,e,_,n,d⟩,_⟩:=I.tuple h;obtain⟨its',r',⟨o',e',_,n',d'⟩,_⟩:=I.tuple h';rw[e] at e';cases e';rw[d] at d'
 injection d' with d1 _
 have:its=its':=by simpa using Nw Array.toList d1
 subst this;exact r.inj r'
end
abbrev Cx.nO(X:Cx)(E:Value->Shared->Prop):Cx:={X with xe:=E}
abbrev Cx.CI(X:Cx):Cx:=X.nO λ_ _=>False
def Cx.Ok.nO(ok:X.Ok)(E:Value->Shared->Prop):(X.nO E).Ok:=
 ⟨ok.mod,ok.kind,ok.glob,ok.blt,ok.above,ok.inj,ok.has,ok.JN,ok.hd,ok.frames,ok.K_,ok.LW,ok.bs,ok.CG,ok.Bb,ok.DV,ok.kW,ok.HN,ok.tabs⟩
def Cx.Ok.ic(ok:(X.nO E).Ok):X.Ok:=
 ⟨ok.mod,ok.kind,ok.glob,ok.blt,ok.above,ok.inj,ok.has,ok.JN,ok.hd,ok.frames,ok.K_,ok.LW,ok.bs,ok.CG,ok.Bb,ok.DV,ok.kW,ok.HN,ok.tabs⟩
section
variable {X:Cx} {pins:List (Addr×Obj)} {σ:St} {H:Hp} {s:Shared} {E:Value->Shared->Prop}
def Inv.nO(I:Inv X pins σ H s)(E:Value->Shared->Prop):Inv (X.nO E) pins σ H s:=⟨I.ok.nO E,I.os,I.bare,I.base,I.loc,I.cell,I.free,I.gQ,I.pin,I.aH,I.len⟩
def Inv.ic(I:Inv (X.nO E) pins σ H s):Inv X pins σ H s:=⟨I.ok.ic,I.os,I.bare,I.base,I.loc,I.cell,I.free,I.gQ,I.pin,I.aH,I.len⟩
def SP.ic{f:Flow}(h:SP (X.nO E) pins D f s'):SP X pins D f s':=by
 cases f with
 |next=>obtain⟨σ',H',I,q⟩:=h;exact⟨σ',H',I.ic,q⟩
 |brk=>obtain⟨σ',H',I,q⟩:=h;exact⟨σ',H',I.ic,q⟩
 |cont=>obtain⟨σ',H',I,q⟩:=h;exact⟨σ',H',I.ic,q⟩
 |ret u=>obtain⟨v,σ',H',I,r,q⟩:=h;exact⟨v,σ',H',I.ic,r,q⟩
def vd.CI{st:List Stmt}{t:TS}(h:vd X.CI st t):vd X st t:=λpins s σ H D I hw =>
 N8 (h pins s σ H D (I.nO _) hw) (λ_ _ q=>q.ic) λ_ _ z=>False.elim z
end
section
variable {X:Cx} {st:Stmt} {rest:List Stmt} {t u:TS} {e:Expr} {te:TE} {pos:Pos}
def rV:TS:=λD σ H=>D.nx σ H
def xY(t u:TS):TS:=λD σ H=>t {D with nx:=u D} σ H
def DA:vd X [] rV:=λ_ _ σ H _ I h=>PU ⟨σ,H,I,h⟩
def AN(h1:PS X st t)(h2:vd X rest u):vd X (st::rest) (xY t u):=by
 intro pins s σ H D I h;refine wpAny_execs_cons (bJ (h1 pins s σ H {D with nx:=u D} I h) λf s1 q=>?_)
 cases f with
 |next =>
  obtain⟨σ',H',I',q⟩:=q;exact h2 pins s1 σ' H' D I' q
 |ret v=>exact q
 |brk=>exact q
 |cont=>exact q
def ET(h1:PS X st t):vd X [st] t:=by
 intro pins s σ H D I h;refine wpAny_execs_cons (bJ (h1 pins s σ H D I h) λf s1 q=>?_)
 cases f with
 |next=>exact PU q
 |ret v=>exact q
 |brk=>exact q
 |cont=>exact q
def Inv.quiet{pins:List (Addr×Obj)}(I:Inv X pins σ H s):interactive X.env=false:=by simp[interactive,I.ok.kind]
def qT(te:TE):TS:=λD σ H=>te σ H λ_ H1=>D.nx σ H1
def Dg(he:PE X e te)(hs:autoParam (swapsWith e none pos.line X.env=pure false) ℜ0):PS X (.Expr e pos) (qT te):=by
 intro pins s σ H D I h;exact wpAny_Expr_any (bJ (he pins s σ H _ I h) λv s1 ⟨x,H1,I1,r1,q1⟩=>⟨σ,H1,I1,q1⟩) I.quiet hs
def Ct(te:TE):TS:=λD σ H=>te σ H D.rt
def GW(he:PE X e te):PS X (.Return (some e) pos) (Ct te):=by
 intro pins s σ H D I h;exact wpAny_Return_some (bJ (he pins s σ H _ I h) λv s1 ⟨x,H1,I1,r1,q1⟩=>⟨x,σ,H1,I1,r1,q1⟩)
def qo(c:TT)(t u:TS):TS:=λD σ H=>c σ H λb H1=>if b=true then t D σ H1 else u D σ H1
def Kd{a b:List Stmt}{tc:TT}(hc:PT X c tc)(ha:vd X a t)(hb:vd X b u):PS X (.If c a b pos) (qo tc t u):=by
 intro pins s σ H D I h;refine wpAny_If (bJ (hc pins s σ H _ I h) λd s1 hq13=>?_);obtain⟨H1,I1,q1⟩:=hq13
 cases d with
 |true=>exact ha pins s1 σ H1 D I1 q1
 |false=>exact hb pins s1 σ H1 D I1 q1
end
abbrev TG:=V->St->Hp->(St->Hp->Prop)->Prop
abbrev yS:=List V->St->Hp->(St->Hp->Prop)->Prop
def PG(X:Cx)(target:Expr)(t:TG):Prop:=
 ∀(pins:List (Addr×Obj)) (s:Shared) (σ:St) (H:Hp) (v:V) (u:Value) (Q:St->Hp->Prop),Inv X pins σ H s->RelV v u->t v σ H Q ->
  wpAny (model X.prog X.w) X.A (assign target X.env u) (λ_ s'=>∃σ' H',Inv X pins σ' H' s'/\Q σ' H') X.xe s
def JD(X:Cx)(ts:List Expr)(t:yS):Prop:=
 ∀(pins:List (Addr×Obj)) (s:Shared) (σ:St) (H:Hp) (vs:List V) (us:List Value) (Q:St->Hp->Prop),Inv X pins σ H s->Vals vs us->t vs σ H Q ->
  wpAny (model X.prog X.w) X.A (assignInOrder ((assignEach ts X.env).map (·.2)) us) (λ_ s'=>∃σ' H',Inv X pins σ' H' s'/\Q σ' H') X.xe s
abbrev EC:=V->V->V->Hp->(Hp->Prop)->Prop
def Il(X:Cx)(t:EC):Prop:=
 ∀(pins:List (Addr×Obj)) (s:Shared) (σ:St) (H:Hp) (o i v:V) (ov iv u:Value) (Q:Hp->Prop),Inv X pins σ H s->RelV o ov->RelV i iv->RelV v u->t o i v H Q ->
  wpAny (model X.prog X.w) X.A (setItem ov iv u) (λ_ s'=>∃H',Inv X pins σ H' s'/\Q H') X.xe s
section
variable {X:Cx} {pos:Pos}
def aL(i:Nat):TG:=λv σ H Q=>Q (σ.set i (some v)) H
def EM{x:Str}(hN:X.N.Nodup)(hi:X.N[i]?=some x)(hx:Loc X.env.scope x)(hf:autoParam (X.fn x=true\/X.env.scope.names.lookup x=some .local) ℜ2):PG X (.Name x pos) (aL i):=by
 intro pins s σ H v u Q I r h;exact wpAny_assign_Name (qX I hN hi hx r (λs' I'=>⟨_,H,I',h⟩) hf)
def nY:yS:=λvs σ H Q=>vs=[]/\Q σ H
def e8(t:TG)(u:yS):yS:=λvs σ H Q=>∃v r,vs=v::r/\t v σ H λσ' H'=>u r σ' H' Q
def Fg:JD X [] nY:=by
 intro pins s σ H vs us Q I r h;obtain⟨e,h⟩:=h;subst e;cases r;exact assignInOrder_nil ⟨σ,H,I,h⟩
def Cy{t:TG}{u:yS}(h1:PG X e t)(h2:JD X es u)
  (hs:autoParam ((assignEach (e::es) X.env).map (·.2)=assign e X.env::(assignEach es X.env).map (·.2)) ℜ0):JD X (e::es) (e8 t u):=by
 intro pins s σ H vs us Q I r h;obtain⟨v,vr,e1,h⟩:=h;subst e1
 cases r with
 |cons r rr =>
  rw[hs];refine assignInOrder_cons (bJ (h1 pins s σ H _ _ _ I r h) λ_ s1 hq14=>?_);obtain⟨σ1,H1,I1,q1⟩:=hq14;exact h2 pins s1 σ1 H1 _ _ Q I1 rr q1
def nW(K:W.Frag)(n:Nat)(t:yS):TG:=λv σ H Q=>∃a xs,v=.ref a/\aW K H a xs/\xs.length=n/\t xs σ H Q
def GA{t:yS}{n:Nat}(hc:X.calm=true)(h:JD X es t)
  (hn:autoParam ((assignEach es X.env).length=n) ℜ0) (hst:autoParam ((assignEach es X.env).findIdx? (·.1)=none) ℜ0):PG X (.Tuple es k pos) (nW X.K n t):=by
 intro pins s σ H v u Q I r hw;obtain⟨a,xs,e1,hq,hl,hw⟩:=hw;subst e1;cases r;obtain⟨its,rv,ht,hz⟩:=I.tuple hq;refine assign_Tuple_tuple (I.ok.hd hc) ht (by simp[hn,<- hl,rv.length]) hst λh' hx=>?_
 have I1:Inv X pins σ H {s with heap:=h'}:=I.kept (t':=s.toks) λb o e=>hx b o (M_ (MN e)) e
 exact h pins _ σ H xs _ Q I1 (by simpa using rv) hw
def BV(to ti:TE)(t:EC):TG:=λv σ H Q=>to σ H λo H1=>ti σ H1 λi H2=>t o i v H2 λH3=>Q σ H3
def IT{o i:Expr}{to ti:TE}{t:EC}(ho:PE X o to)(hi:PE X i ti)(hs:Il X t)
  (ha:autoParam (∀v,assign (.Subscript o i pos) X.env v=(do
   let ov <- holding [v] (eval o X.env)
   let iv <- holding [v,ov] (eval i X.env)
   standAt pos
   holding [v,ov,iv] (setItem ov iv v)
   release [v,ov,iv] [])) ℜ3):PG X (.Subscript o i pos) (BV to ti t):=by
 intro pins s σ H v u Q I r h;rw[ha];refine Mv (N6 (bJ (ho pins s σ H _ I h) λov s1 hq15=>?_));obtain⟨x,H1,I1,r1,q1⟩:=hq15;refine Mv (N6 (bJ (hi pins s1 σ H1 _ I1 q1) λiv s2 hq16=>?_));obtain⟨y,H2,I2,r2,q2⟩:=hq16;refine Mv (Qx (Mv (N6 (bJ (hs pins s2 σ H2 x y v ov iv u _ I2 r1 r2 r q2) λ_ s3 hq17=>?_))));obtain⟨H3,I3,q3⟩:=hq17;exact wpAny_release ⟨σ,H3,I3,q3⟩
def mG(te:TE)(g:TG):TS:=λD σ H=>te σ H λx H1=>g x σ H1 D.nx
def Ie{te:TE}{g:TG}(he:PE X e te)(hg:PG X tg g)(hs:autoParam (swapsWithSole [tg] e pos.line X.env=pure false) ℜ0)(hw:autoParam (swappedStores [tg] e X.env=pure none) ℜ0)
  (h1:autoParam ((assignEach [tg] X.env).map (·.2)=[assign tg X.env]) ℜ0):PS X (.Assign [tg] e pos) (mG te g):=by
 intro pins s σ H D I h;refine wpAny_Assign_stores (bJ (he pins s σ H _ I h) λv s1 hq18=>?_) hs hw;obtain⟨x,H1,I1,r1,q1⟩:=hq18;rw[h1];exact bJ (hg pins s1 σ H1 x v _ I1 r1 q1) λ_ s2 q=>q
def Gm{x:Str}{te:TE}{pos':Pos}(hN:X.N.Nodup)(hi:X.N[i]?=some x)(hx:Loc X.env.scope x)(he:PE X e te)(hs:autoParam (swapsWith e (some (.Name x pos')) pos.line X.env=pure false) ℜ0)(hf:autoParam (X.fn x=true\/X.env.scope.names.lookup x=some .local) ℜ2):
  PS X (.Assign [.Name x pos'] e pos) (mG te (aL i)):=by
 intro pins s σ H D I h;refine wpAny_Assign_Name (bJ (he pins s σ H _ I h) λv s1 hq19=>?_) hs;obtain⟨y,H1,I1,r1,q1⟩:=hq19;exact qX I1 hN hi hx r1 (λs2 I2=>⟨_,H1,I2,q1⟩) hf
end
section
variable {X:Cx} {pos:Pos}
def C0(c:TT)(tb:TS):TS:=λD σ H=>∃W:Nat->St->Hp->Prop,(∃m,W m σ H)/\∀m σ H,W m σ H ->
 c σ H λb H1=>if b=true then ∃N:St->Hp->Prop,(∀σ' H',N σ' H'->∃m',m'<m/\W m' σ' H')/\tb {D with nx:=N,ct:=N,bk:=D.nx} σ H1 else D.nx σ H1
def zZ{tc:TT}(hp:PassesOwn (model X.prog X.w) X.A X.env X.xe)(hc:PT X c tc)(hb:vd X body tb):PS X (.While c body [] pos) (C0 tc tb):=by
 intro pins s σ H D I h;obtain⟨W,⟨m0,w0⟩,turn⟩:=h;refine wpAny_While (codeAny_whileLoop (λn s'=>∃σ' H',Inv X pins σ' H' s'/\W n σ' H') ?_ m0 ⟨σ,H,I,w0⟩);rintro n s1 ⟨σ1,H1,I1,w1⟩;refine O1 hp (bJ (hc pins s1 σ1 H1 _ I1 (turn n σ1 H1 w1)) λb s2 hq28=>?_);obtain⟨H2,I2,q2⟩:=hq28
 cases b with
 |true =>
  obtain⟨N,hN,q2⟩:=q2;rw[MD rfl];refine O1 hp (bJ (hb pins s2 σ1 H2 _ I2 q2) λf s3 q3=>?_)
  cases f with
  |next =>
   obtain⟨σ3,H3,I3,n3⟩:=q3;obtain⟨m',hm,w3⟩:=hN σ3 H3 n3;exact⟨m',hm,σ3,H3,I3,w3⟩
  |cont =>
   obtain⟨σ3,H3,I3,n3⟩:=q3;obtain⟨m',hm,w3⟩:=hN σ3 H3 n3;exact⟨m',hm,σ3,H3,I3,w3⟩
  |brk=>exact q3
  |ret v=>exact q3
 |false =>
  rw[M4 ML];exact PU ⟨σ1,H2,I2,q2⟩
end
structure It where
 go:Nat->Hp->Prop
 Gf:Nat->Hp->V->Hp->Prop
 stop:Nat->Hp->Prop
def lZ(X:Cx)(pins:List (Addr×Obj))(H:Hp)(b:Addr):Prop:=
 H b=none/\b≠X.env.locals/\b∉X.fs/\(b∈X.ex\/X.s₀.heap.objs.size<=b)/\(∀x c,X.env.cells.lookup x=some c->c≠b)/\∀p∈X.pn++pins,p.1≠b
def Inv.qO{pins:List (Addr×Obj)}{H':Hp}(I:Inv X pins σ H s)(hb:s.heap.objs.size<=b)(hn:H' b=none):lZ X pins H' b:=by
 refine⟨hn,Oc (Nf I.lt hb),I.JY hb,.inr (Mz I.sz hb),λx c e z=>?_,λp hp z=>?_⟩
 ·obtain⟨v,q⟩:=I.cell x c e;exact absurd (Nf q.lt (by rw[z];exact hb)) (Od _)
 ·exact absurd (Nf (MN (I.pin p hp).1) (by rw[z];exact hb)) (Od _)
structure Turn (P:Program) (w:World) (K:W.Frag) (tg:Expr) (J:It) (fp:List Addr) (it:Addr) (tn:Nat->Heap->Prop):Prop where
 mem:it∈fp
 obj:∀i h,tn i h->∀b∈fp,∃o,h.get? b=some o/\∀v,o.data≠.cell v
 keep:∀i h h',tn i h->(∀b∈fp,∀o,h.get? b=some o->h'.get? b=some o)->tn i h'
 item:∀(X:Cx),X.prog=P->X.w=w->X.K=K->X.calm=true->∀(i:Nat) (pins:List (Addr×Obj)) (s:Shared) (σ:St) (H:Hp) (E:Value->Shared->Prop),Inv X pins σ H s->(∀b∈fp,lZ X pins H b)->tn i s.heap->J.go i H ->
  wpAny (model P w) X.A (pyNext (.ref it)) (λr s1=>∃u,r=some u /\
   wpAny (model P w) X.A (letOwnedTupleGo tg (.ref it) u) (λ_ s2=>∃x H',Inv X pins σ H' s2/\RelV x u/\J.Gf i H x H'/\tn (i+1) s2.heap/\∀b∈fp,H' b=none) E s1) E s
 done:∀(X:Cx),X.prog=P->X.w=w->X.K=K->X.calm=true->∀(i:Nat) (pins:List (Addr×Obj)) (s:Shared) (σ:St) (H:Hp) (E:Value->Shared->Prop),Inv X pins σ H s->(∀b∈fp,lZ X pins H b)->tn i s.heap->J.stop i H ->
  wpAny (model P w) X.A (pyNext (.ref it)) (λr s1=>r=none/\Inv X pins σ H s1) E s
 self:∀(A:Around) (i:Nat) (s:Shared) (Q:Value->Shared->Prop) (E:Value->Shared->Prop),tn i s.heap->Q (.ref it) s->wpAny (model P w) A (pyIter (.ref it)) Q E s
abbrev TI:=St->Hp->(It->Hp->Prop)->Prop
def L4(X:Cx)(pins:List (Addr×Obj))(σ:St)(tg:Expr)(R:It->Hp->Prop)(itv:Value)(s2:Shared):Prop:=
 ∃(it:Addr) (fp:List Addr) (tn:Nat->Heap->Prop) (J:It) (H':Hp),itv=.ref it/\Inv X pins σ H' s2/\Turn X.prog X.w X.K tg J fp it tn/\tn 0 s2.heap/\(∀b∈fp,lZ X pins H' b)/\R J H'
def PI(X:Cx)(tg iter:Expr)(wi:TI):Prop:=
 ∀(pins:List (Addr×Obj)) (s:Shared) (σ:St) (H:Hp) (R:It->Hp->Prop),Inv X pins σ H s->wi σ H R ->
  wpAny (model X.prog X.w) X.A (eval iter X.env) (λv s1=>wpAny (model X.prog X.w) X.A (pyIter v) (L4 X pins σ tg R) X.xe s1) X.xe s
def sQ{A:Around}{it:Addr}{o:Obj}{n:String}{vs:Array Value}{Q:Unit->Shared->Prop}(ho:s.heap.get? it=some o)(hc:o.cls=.type n)(hd:o.data=.fields vs)
    (hn:["enumerate","zip","dict_itemiterator","dict_reverseitemiterator","odict_iterator","itertools.zip_longest","itertools.pairwise"].contains n=false) (hQ:Q () s):wpAny M A (letOwnedTupleGo tg (.ref it) u) Q E s:=by
  unfold letOwnedTupleGo
  cases tg<;>first
    |exact ME hQ
    | (cases u<;>first
        |exact ME hQ
        | (refine Mv (wpAny_load ho ?_)
           rw[hc,hd];show wpAny M A (if (["enumerate","zip","dict_itemiterator","dict_reverseitemiterator","odict_iterator","itertools.zip_longest","itertools.pairwise"].contains n && vs[0]? == some (rawInt _))=true then _ else _) Q E s
           rw[M4 (by intro h;rw[hn,Px] at h;cases h)]
           exact ME hQ))
def tQ(K:W.Frag)(a:Addr):It:=
 ⟨λi H=>∃xs x,aT K H a xs/\xs[i]?=some x,λi H x H'=>H'=H/\∀xs,aT K H a xs->xs[i]?=some x,λi H=>∃xs,aT K H a xs/\xs.length<=i⟩
def uQ(K:W.Frag)(a:Addr):It:=
 ⟨λi H=>∃xs x,aW K H a xs/\xs[i]?=some x,λi H x H'=>H'=H/\∀xs,aW K H a xs->xs[i]?=some x,λi H=>∃xs,aW K H a xs/\xs.length<=i⟩
def FF(lo:Int)(n:Nat):It:=⟨λi _=>i<n,λi H x H'=>H'=H/\x=.int (lo+i),λi _=>n<=i⟩
def oX{P:Program}(a it:Addr):Turn P w K tg (tQ K a) [it] it (λi h=>h.IsListIter it a i) where
 mem:=by simp
 obj:=λi h st b hb=>by
  have e:b=it:=by simpa using hb
  subst e;obtain⟨o,e,c,d⟩:=st;exact⟨o,e,λv z=>by rw[d] at z;cases z⟩
 keep:=λi h h' st k=>st.at λo e=>k it (by simp) o e
 item:=by
  intro X hP hw hK hc i pins s σ H E I hf st hg;subst hP hw hK;obtain⟨xs,x,hq,hx⟩:=hg;obtain⟨its,rv,p,hz⟩:=I.list hq;obtain⟨u,hu,ru⟩:=rv.get hx;obtain⟨f0,f1,f2,f3,f4,f5⟩:=hf it (by simp)
  refine Rn st p.isList (x:=u) (by simpa using hu) λh' st' sb=>?_
  have I1:Inv X pins σ H {s with heap:=h'}:=I.turned (t':=s.toks) (λb o hb e=>(sb.2 b hb).trans e) f0 f1 f3 f4 f5
  obtain⟨o,e,c,d⟩:=id st';exact⟨u,rfl,sQ (s:={s with heap:=h'}) e c d ⋯ ⟨x,H,I1,ru,⟨rfl,λys hy=>by rw[I.mr hy hq];exact hx⟩,st',λb hb=>(hf b hb).1⟩⟩
 done:=by
  intro X hP hw hK hc i pins s σ H E I hf st hg;subst hP hw hK;obtain⟨xs,hq,hx⟩:=hg;obtain⟨its,rv,p,hz⟩:=I.list hq;obtain⟨f0,f1,f2,f3,f4,f5⟩:=hf it (by simp)
  have hl:=rv.length;exact wpAny_pyNext_list_end (I.ok.hd hc) st p.isList (by simp;lia) λh' eb=>⟨rfl,I.turned (t':=s.toks) (λb o hb e=>eb b o hb e) f0 f1 f3 f4 f5⟩
 self:=λ_ _ _ _ _ st h=>wpAny_pyIter_listiter st h
def lO{P:Program}(a it:Addr):Turn P w K tg (uQ K a) [it] it (λi h=>h.IsTupleIter it a i) where
 mem:=by simp
 obj:=λi h st b hb=>by
  have e:b=it:=by simpa using hb
  subst e;obtain⟨o,e,c,d⟩:=st;exact⟨o,e,λv z=>by rw[d] at z;cases z⟩
 keep:=λi h h' st k=>st.at λo e=>k it (by simp) o e
 item:=by
  intro X hP hw hK hc i pins s σ H E I hf st hg;subst hP hw hK;obtain⟨xs,x,hq,hx⟩:=hg;obtain⟨its,rv,p,hz⟩:=I.tuple hq;obtain⟨u,hu,ru⟩:=rv.get hx;obtain⟨f0,f1,f2,f3,f4,f5⟩:=hf it (by simp)
  refine wpAny_pyNext_tuple_item st (show s.heap.IsTuple a its.toArray from p) (x:=u) (by simpa using hu) λh' st' sb=>?_
  have I1:Inv X pins σ H {s with heap:=h'}:=I.turned (t':=s.toks) (λb o hb e=>(sb.2 b hb).trans e) f0 f1 f3 f4 f5
  obtain⟨o,e,c,d⟩:=id st';exact⟨u,rfl,sQ (s:={s with heap:=h'}) e c d ⋯ ⟨x,H,I1,ru,⟨rfl,λys hy=>by rw[I.jD hy hq];exact hx⟩,st',λb hb=>(hf b hb).1⟩⟩
 done:=by
  intro X hP hw hK hc i pins s σ H E I hf st hg;subst hP hw hK;obtain⟨xs,hq,hx⟩:=hg;obtain⟨its,rv,p,hz⟩:=I.tuple hq;obtain⟨f0,f1,f2,f3,f4,f5⟩:=hf it (by simp)
  have hl:=rv.length;exact wpAny_pyNext_tuple_end (I.ok.hd hc) st (show s.heap.IsTuple a its.toArray from p) (by simp;lia) λh' eb=>⟨rfl,I.turned (t':=s.toks) (λb o hb e=>eb b o hb e) f0 f1 f3 f4 f5⟩
 self:=λ_ _ _ _ _ st h=>wpAny_pyIter_tupleiter st h
def vq{P:Program}{w:World}{K:PySem.W.Frag}(it:Addr)(lo:Int)(n:Nat):Turn P w K tg (FF lo n) [it] it (λi h=>IsRangeIter h it (lo+(i:Nat)*1) ((n:Int)-(i:Nat)) 1) where
 mem:=by simp
 obj:=λi h st b hb=>by
  have e:b=it:=by simpa using hb
  subst e;exact⟨_,st,λv z=>by
   have z':Data.fields _=Data.cell v:=z
   cases z'⟩
 keep:=λi h h' st k=>k it (by simp) _ st
 item:=by
  intro X hP hw hK hc i pins s σ H E I hf st hg;subst hP hw hK;obtain⟨f0,f1,f2,f3,f4,f5⟩:=hf it (by simp)
  have W:=Walks.range (prog:=X.prog) (w:=X.w) (I.ok.hd hc) it lo 1 n;refine W.item i s _ _ hg st λv h' tk hv st' kk=>?_;obtain⟨t,rfl⟩:=hv;have I1:Inv X pins σ H {s with heap:=h',toks:=tk}:=I.turned (λb o hb e=>kk b o (by simpa using hb) e) f0 f1 f3 f4 f5
  refine⟨_,rfl,sQ (s:={s with heap:=h',toks:=tk}) (n:="range_iterator") st' rfl rfl ⋯ ⟨.int (lo+i),H,I1,⟨t,?_⟩,⟨rfl,rfl⟩,st',λb hb=>(hf b hb).1⟩⟩
  rw[Int.mul_one]
 done:=by
  intro X hP hw hK hc i pins s σ H E I hf st hg;subst hP hw hK;obtain⟨f0,f1,f2,f3,f4,f5⟩:=hf it (by simp)
  exact wpAny_pyNext_range_end (I.ok.hd hc) st (by have:n<=i:=hg;lia) λh' eb=>⟨rfl,I.turned (t':=s.toks) (λb o hb e=>eb b o hb e) f0 f1 f3 f4 f5⟩
 self:=λ_ _ _ _ _ st h=>wpAny_pyIter_rangeiter st h
section
variable {X:Cx} {tg:Expr}
def B9{pins:List (Addr×Obj)}{R:It->Hp->Prop}{lo hi:Int}{t u v:Tok}{tk:Nat}(I:Inv X pins σ H s)(h1:-(2^62)<=lo)(h2:lo<2^62)(h3:-(2^62)<=hi)(h4:hi<2^62)
  (q:R (FF lo (hi-lo).toNat) H):wpAny (model X.prog X.w) X.A (pyIter (.ref s.heap.objs.size)) (L4 X pins σ tg R) E {s with heap:=s.heap.push {cls:=.type "range",data:=.fields #[.int lo t,.int hi u,.int 1 v]},toks:=tk}:=by
 refine wpAny_pyIter_range (IsRange.new ..) (small_one h1 h2 h3 h4) ?_;have I1:Inv X pins σ H {s with heap:=s.heap.push {cls:=.type "range",data:=.fields #[.int lo t,.int hi u,.int 1 v]},toks:=tk}:=I.kept λb o e=>My _ e
 refine⟨(s.heap.push {cls:=.type "range",data:=.fields #[.int lo t,.int hi u,.int 1 v]}).objs.size,[(s.heap.push {cls:=.type "range",data:=.fields #[.int lo t,.int hi u,.int 1 v]}).objs.size],_,_,H,rfl,
  I1.kept (t':=tk) λb o e=>My _ e,vq _ lo (hi-lo).toNat,?_,λb hb=>?_,q⟩
 ·have e1:lo+((0:Nat):Int)*1=lo:=by simp
  have e2:(((hi-lo).toNat:Nat):Int)-((0:Nat):Int)=Builtin.Range.rangeSize lo hi 1:=by rw[rangeSize_one];split<;>lia
  show IsRangeIter _ _ (lo+((0:Nat):Int)*1) ((((hi-lo).toNat:Nat):Int)-((0:Nat):Int)) 1;rw[e1,e2];exact MM _ rfl
 ·have e:b=(s.heap.push {cls:=.type "range",data:=.fields #[.int lo t,.int hi u,.int 1 v]}).objs.size:=by simpa using hb
  subst e;exact I1.qO (M8 _) (I1.aH.fresh (M8 _))
def oh(ta:TA):TI:=λσ H R=>ta σ H λvs H1=>∃j:Int,vs=[.int j]/\-(2^62)<=j/\j<2^62/\R (FF 0 j.toNat) H1
def yE{a:Expr}{ta:TA}{p:Pos}(hg:Gl X "range")(hm:X.mg "range"=none)(ha:PA X [a] ta)(hs:autoParam (starEach [a] X.env=[(false,eval a X.env)]) ℜ0):PI X tg (.Call (.Name "range" p) [a] [] pos) (oh ta):=by
 intro pins s σ H R I h;refine Call_ (fY I hg hm boot_range (NJ (bJ (ha pos pins s σ H _ I h) λus s1 hq31=>?_) hs rfl));obtain⟨vs,H1,I1,r1,q1⟩:=hq31;obtain⟨j,e,q1,q2,q⟩:=q1;subst e
 cases r1 with
 |cons r rr =>
  cases rr;obtain⟨t,rfl⟩:=r;exact call_range_1 (B9 I1 (by lia) (by lia) q1 q2 (by simpa using q))
def Ir(wi:TI)(g:TG)(tb:TS):TS:=λD σ H=>wi σ H λJ H1=>∃W:Nat->Nat->St->Hp->Prop,(∃m,W 0 m σ H1)/\∀i m σ H,W i m σ H ->
 (J.stop i H/\D.nx σ H)\/(J.go i H/\∃N:St->Hp->Prop,(∀σ' H',N σ' H'->∃m',m'<m/\W (i+1) m' σ' H')/\∀x H',J.Gf i H x H'->g x σ H' λσ2 H2=>tb {D with nx:=N,ct:=N,bk:=D.nx} σ2 H2)
def jV(fp:List Addr)(h:Heap):List (Addr×Obj):=fp.filterMap λb=>(h.get? b).map λo=>(b,o)
def eN{o:Obj}(hb:b∈fp)(e:h.get? b=some o):(b,o)∈jV fp h:=Pr.mpr ⟨b,hb,by rw[e];rfl⟩
def yk{p:Addr×Obj}(hp:p∈jV fp h):p.1∈fp/\h.get? p.1=some p.2:=by
 obtain⟨b,hb,e⟩:=Pr.mp hp
 cases q:h.get? b with
 |none=>rw[q] at e;cases e
 |some o =>
  rw[q] at e;have e':(b,o)=p:=Option.some.inj e;subst e';exact⟨hb,q⟩
def Inv.pinned{pins:List (Addr×Obj)}(I:Inv X pins σ H s)(hf:∀b∈fp,lZ X pins H b)(ho:∀b∈fp,∃o,s.heap.get? b=some o/\∀v,o.data≠.cell v):Inv X (pins++jV fp s.heap) σ H s:=
 I.pM λp hp=>(N2.mp hp).elim (λz=>I.pin p (MZ _ z)) λz=>by
  obtain⟨hb,e⟩:=yk z;obtain⟨f0,f1,f2,_⟩:=hf p.1 hb;obtain⟨o,e',d⟩:=ho p.1 hb;rw[e] at e';cases e';exact⟨e,f0,f1,f2,d⟩
def Inv.ip{pins pl:List (Addr×Obj)}(I:Inv X (pins++pl) σ H s):Inv X pins σ H s:=I.pM λp hp=>I.pin p (MZ _ (N7 _ hp))
def IZ{iter:Expr}{wi:TI}{g:TG}(hp:PassesOwn (model X.prog X.w) X.A X.env X.xe)(hc:X.calm=true)(hi:PI X tg iter wi)(hg:PG X tg g)(hb:vd X body tb)
  (hs:autoParam (∀x,foldedSetIterable iter X.env x=pure x) ℜ3):PS X (.For tg iter body [] pos) (Ir wi g tb):=by
 intro pins s σ H D I h;refine wpAny_For (bJ (hi pins s σ H _ I h) λv s1 h1=>bJ h1 λitv s2 h2=>?_) hs;obtain⟨it,fp,tn,J,H2,e,I2,T,st2,f2,W,⟨m0,w0⟩,turn⟩:=h2;subst e;have stat:∀{H':Hp},(∀b∈fp,H' b=none)->∀b∈fp,lZ X pins H' b:=λhn b hb=>⟨hn b hb,(f2 b hb).2⟩;refine codeAny_forLoop_any (λn s'=>∃i σ' H',Inv X pins σ' H' s'/\tn i s'.heap/\(∀b∈fp,H' b=none)/\W i n σ' H') ?_ m0 ⟨0,σ,H2,I2,st2,λb hb=>(f2 b hb).1,w0⟩;rintro n s3 ⟨i,σ3,H3,I3,st3,fr3,w3⟩;rcases turn i n σ3 H3 w3 with ⟨stop,qn⟩|⟨go,N,hN,step⟩
 ·refine O1 hp (bJ (T.done X rfl rfl rfl hc i pins s3 σ3 H3 X.xe I3 (stat fr3) st3 stop) λr s4 hq33=>?_);obtain⟨hr,I4⟩:=hq33;subst hr;exact PU ⟨σ3,H3,I4,qn⟩
 ·refine O1 hp (bJ (T.item X rfl rfl rfl hc i pins s3 σ3 H3 X.xe I3 (stat fr3) st3 go) λr s4 hq34=>?_);obtain⟨u,hr,h4⟩:=hq34;subst hr;refine O1 hp (bJ h4 λ_ s5 hq35=>?_);obtain⟨x,H5,I5,r5,y5,st5,fr5⟩:=hq35;have I5':=I5.pinned (stat fr5) (T.obj _ _ st5);refine O1 hp (bJ (hg _ s5 σ3 H5 x u _ I5' r5 (step x H5 y5)) λ_ s6 hq36=>?_);obtain⟨σ6,H6,I6,q6⟩:=hq36;refine O1 hp (bJ (hb _ s6 σ6 H6 _ I6 q6) λf s7 q7=>?_);have again:∀{σ7:St} {H7:Hp},Inv X (pins++jV fp s5.heap) σ7 H7 s7->N σ7 H7->∃m,m<n/\∃i σ' H',Inv X pins σ' H' s7/\tn i s7.heap/\(∀b∈fp,H' b=none)/\W i m σ' H':=λ{σ7 H7} I7 n7=>by
   obtain⟨m',hm,w7⟩:=hN σ7 H7 n7;refine⟨m',hm,i+1,σ7,H7,I7.ip,T.keep _ _ _ st5 λb hb o e=>(I7.pin (b,o) (MZ _ (MZ _ (eN hb e)))).1,λb hb=>?_,w7⟩;obtain⟨o,e,d⟩:=T.obj _ _ st5 b hb;exact (I7.pin (b,o) (MZ _ (MZ _ (eN hb e)))).2.1
  cases f with
  |next=>obtain⟨σ7,H7,I7,n7⟩:=q7;exact again I7 n7
  |cont=>obtain⟨σ7,H7,I7,n7⟩:=q7;exact again I7 n7
  |brk=>obtain⟨σ7,H7,I7,q7⟩:=q7;exact⟨σ7,H7,I7.ip,q7⟩
  |ret v=>obtain⟨x7,σ7,H7,I7,r7,q7⟩:=q7;exact⟨x7,σ7,H7,I7.ip,r7,q7⟩
end
def Bw{K:PySem.W.Frag}{g:TG}(Pv:Nat->St->Hp->Prop)(h0:Pv 0 σ H)(hl:∀i σ H,i<=xs.length->Pv i σ H->aT K H a xs)
  (hs:∀i x σ H,xs[i]?=some x->Pv i σ H->g x σ H λσ2 H2=>tb {D with nx:=Pv (i+1),ct:=Pv (i+1),bk:=D.nx} σ2 H2) (hd:∀σ H,Pv xs.length σ H->D.nx σ H) :
  ∃W:Nat->Nat->St->Hp->Prop,(∃m,W 0 m σ H)/\∀i m σ H,W i m σ H ->
   ((tQ K a).stop i H/\D.nx σ H)\/((tQ K a).go i H/\∃N:St->Hp->Prop,(∀σ' H',N σ' H'->∃m',m'<m/\W (i+1) m' σ' H')/\∀x H',(tQ K a).Gf i H x H'->g x σ H' λσ2 H2=>tb {D with nx:=N,ct:=N,bk:=D.nx} σ2 H2):=by
 refine⟨λi m σ H=>m=xs.length-i/\i<=xs.length/\Pv i σ H,⟨xs.length,by simp,MG _,h0⟩,?_⟩
 rintro i m σ H ⟨rfl,hi,p⟩;have q:=hl i σ H hi p;by_cases hlt:i<xs.length
 ·refine .inr ⟨⟨xs,xs[i],q,by simp[hlt]⟩,Pv (i+1),λσ' H' p'=>⟨xs.length-(i+1),by lia,rfl,hlt,p'⟩,λx H' y=>?_⟩
  obtain⟨e,y⟩:=y;subst e;exact hs i x σ _ (y xs q) p
 ·have e:i=xs.length:=by lia
  subst e;exact .inl ⟨⟨xs,q,M8 _⟩,hd σ H p⟩
def Fc{K:PySem.W.Frag}{g:TG}(Pv:Nat->St->Hp->Prop)(h0:Pv 0 σ H)(hl:∀i σ H,i<=xs.length->Pv i σ H->aW K H a xs)
  (hs:∀i x σ H,xs[i]?=some x->Pv i σ H->g x σ H λσ2 H2=>tb {D with nx:=Pv (i+1),ct:=Pv (i+1),bk:=D.nx} σ2 H2) (hd:∀σ H,Pv xs.length σ H->D.nx σ H) :
  ∃W:Nat->Nat->St->Hp->Prop,(∃m,W 0 m σ H)/\∀i m σ H,W i m σ H ->
   ((uQ K a).stop i H/\D.nx σ H)\/((uQ K a).go i H/\∃N:St->Hp->Prop,(∀σ' H',N σ' H'->∃m',m'<m/\W (i+1) m' σ' H')/\∀x H',(uQ K a).Gf i H x H'->g x σ H' λσ2 H2=>tb {D with nx:=N,ct:=N,bk:=D.nx} σ2 H2):=by
 refine⟨λi m σ H=>m=xs.length-i/\i<=xs.length/\Pv i σ H,⟨xs.length,by simp,MG _,h0⟩,?_⟩
 rintro i m σ H ⟨rfl,hi,p⟩;have q:=hl i σ H hi p;by_cases hlt:i<xs.length
 ·refine .inr ⟨⟨xs,xs[i],q,by simp[hlt]⟩,Pv (i+1),λσ' H' p'=>⟨xs.length-(i+1),by lia,rfl,hlt,p'⟩,λx H' y=>?_⟩
  obtain⟨e,y⟩:=y;subst e;exact hs i x σ _ (y xs q) p
 ·have e:i=xs.length:=by lia
  subst e;exact .inl ⟨⟨xs,q,M8 _⟩,hd σ H p⟩
def xJ{lo:Int}{n:Nat}{g:TG}(Pv:Nat->St->Hp->Prop)(h0:Pv 0 σ H)
  (hs:∀i σ H,i<n->Pv i σ H->g (.int (lo+i)) σ H λσ2 H2=>tb {D with nx:=Pv (i+1),ct:=Pv (i+1),bk:=D.nx} σ2 H2) (hd:∀σ H,Pv n σ H->D.nx σ H) :
  ∃W:Nat->Nat->St->Hp->Prop,(∃m,W 0 m σ H)/\∀i m σ H,W i m σ H ->
   ((FF lo n).stop i H/\D.nx σ H)\/((FF lo n).go i H/\∃N:St->Hp->Prop,(∀σ' H',N σ' H'->∃m',m'<m/\W (i+1) m' σ' H')/\∀x H',(FF lo n).Gf i H x H'->g x σ H' λσ2 H2=>tb {D with nx:=N,ct:=N,bk:=D.nx} σ2 H2):=by
 refine⟨λi m σ H=>m=n-i/\i<=n/\Pv i σ H,⟨n,by simp,MG _,h0⟩,?_⟩
 rintro i m σ H ⟨rfl,hi,p⟩;by_cases hlt:i<n
 ·refine .inr ⟨hlt,Pv (i+1),λσ' H' p'=>⟨n-(i+1),by lia,rfl,hlt,p'⟩,λx H' y=>?_⟩
  obtain⟨e,y⟩:=y;subst e y;exact hs i σ _ hlt p
 ·have e:i=n:=by lia
  subst e;exact .inl ⟨M8 _,hd σ H p⟩
abbrev R2:=V->V->Hp->VK->Prop
variable{r r':R2}
def cY(X:Cx)(f:Value->Value->Sem Value)(r:R2):Prop:=
 ∀(pins:List (Addr×Obj)) (s:Shared) (σ:St) (H:Hp) (x y:V) (v u:Value) (Q:VK),Inv X pins σ H s->RelV x v->RelV y u->r x y H Q ->
  wpAny (model X.prog X.w) X.A (f v u) (EP X pins σ Q) X.xe s
def KY(X:Cx)(f:Value->Sem Value)(r:V->Hp->VK->Prop):Prop:=
 ∀(pins:List (Addr×Obj)) (s:Shared) (σ:St) (H:Hp) (x:V) (v:Value) (Q:VK),Inv X pins σ H s->RelV x v->r x H Q ->
  wpAny (model X.prog X.w) X.A (f v) (EP X pins σ Q) X.xe s
def aX(X:Cx)(f:Value)(r:List V->Hp->VK->Prop):Prop:=
 ∀(pins:List (Addr×Obj)) (s:Shared) (σ:St) (H:Hp) (xs:List V) (us:List Value) (Q:VK),Inv X pins σ H s->Vals xs us->r xs H Q ->
  wpAny (model X.prog X.w) X.A (call f us) (EP X pins σ Q) X.xe s
def L5(X:Cx)(r:V->Hp->(Bool->Hp->Prop)->Prop):Prop:=
 ∀(pins:List (Addr×Obj)) (s:Shared) (σ:St) (H:Hp) (x:V) (v:Value) (Q:Bool->Hp->Prop),Inv X pins σ H s->RelV x v->r x H Q ->
  wpAny (model X.prog X.w) X.A (truthy v) (TP X pins σ Q) X.xe s
def Bq(r:R2)(ta tb:TE):TE:=λσ H Q=>ta σ H λx H1=>tb σ H1 λy H2=>r x y H2 Q
def JW(r:V->Hp->VK->Prop)(ta:TE):TE:=λσ H Q=>ta σ H λx H1=>r x H1 Q
def rI(C:Int->Int->Prop)(g:Int->Int->V):R2:=λx y H Q=>∃i j,x=.int i/\y=.int j/\C i j/\Q (g i j) H
def Ba(g:Int->Int->V):R2:=λx y H Q=>∃i j,x=.int i/\y=.int j/\Q (g i j) H
def rU(g:Int->V):V->Hp->VK->Prop:=λx H Q=>∃i,x=.int i/\Q (g i) H
section
variable {X:Cx} {a b c:Expr} {ta tb tc:TE} {pos:Pos}
def Ja(ha:PE X a ta)(hb:PE X b tb){pins:List (Addr×Obj)}{R:V->V->Hp->Prop}(I:Inv X pins σ H s)
  (h:ta σ H λx H1=>tb σ H1 λy H2=>R x y H2)  
  (hf:∀v u s2 x y H2,Inv X pins σ H2 s2->RelV x v->RelV y u->R x y H2->wpAny (model X.prog X.w) X.A (f v u) Q X.xe s2) :
  wpAny (model X.prog X.w) X.A (eval a X.env) (λv s₁=>wpAny (model X.prog X.w) X.A (eval b X.env) (λu s₂=>wpAny (model X.prog X.w) X.A (f v u) Q X.xe s₂) X.xe s₁) X.xe s:=by
 refine bJ (ha pins s σ H _ I h) λv s1 hq37=>?_;obtain⟨x,H1,I1,r1,q1⟩:=hq37;refine bJ (hb pins s1 σ H1 _ I1 q1) λu s2 hq38=>?_;obtain⟨y,H2,I2,r2,q2⟩:=hq38;exact hf v u s2 x y H2 I2 r1 r2 q2
def Kh{op:Operator}(ho:cY X (binaryOp op) r)(ha:PE X a ta)(hb:PE X b tb):PE X (.BinOp a op b pos) (Bq r ta tb):=by
 intro pins s σ H Q I h;exact wpAny_BinOp (Ja ha hb I h λv u s2 x y H2 I2 rx ry q=>ho pins s2 σ H2 x y v u Q I2 rx ry q)
def JI{op:UnaryOp}{r:V->Hp->VK->Prop}(ho:KY X (unaryOp op) r)(ha:PE X a ta):PE X (.UnaryOp op a pos) (JW r ta):=by
 intro pins s σ H Q I h;exact UnaryOp_ (bJ (ha pins s σ H _ I h) λv s1 ⟨x,H1,I1,r1,q1⟩=>ho pins s1 σ H1 x v Q I1 r1 q1)
def JO{C:Int->Int->Prop}
  (rule:∀(i j:Int) (t u:Tok) (s:Shared) (Q:Value->Shared->Prop) (E:Value->Shared->Prop),C i j->Q (.int (g i j) s.toks) {s with toks:=s.toks+1}->wpAny (model X.prog X.w) X.A (f (.int i t) (.int j u)) Q E s) :
  cY X f (rI C λi j=>.int (g i j)):=by
 intro pins s σ H x y v u Q I rx ry h;obtain⟨i,j,rfl,rfl,hc,q⟩:=h;obtain⟨t,rfl⟩:=rx;obtain⟨t',rfl⟩:=ry;exact rule i j t t' s _ _ hc ⟨.int (g i j),H,I.tok _,⟨_,rfl⟩,q⟩
def JJ
  (rule:∀(i j:Int) (t u:Tok) (s:Shared) (Q:Value->Shared->Prop) (E:Value->Shared->Prop),Q (.int (g i j) s.toks) {s with toks:=s.toks+1}->wpAny (model X.prog X.w) X.A (f (.int i t) (.int j u)) Q E s) :
  cY X f (Ba λi j=>.int (g i j)):=by
 intro pins s σ H x y v u Q I rx ry h;obtain⟨i,j,rfl,rfl,q⟩:=h;obtain⟨t,rfl⟩:=rx;obtain⟨t',rfl⟩:=ry;exact rule i j t t' s _ _ ⟨.int (g i j),H,I.tok _,⟨_,rfl⟩,q⟩
def DO{g:Int->Int->Bool}
  (rule:∀(i j:Int) (t u:Tok) (s:Shared) (Q:Value->Shared->Prop) (E:Value->Shared->Prop),Q (.bool (g i j)) s->wpAny (model X.prog X.w) X.A (f (.int i t) (.int j u)) Q E s) :
  cY X f (Ba λi j=>.bl (g i j)):=by
 intro pins s σ H x y v u Q I rx ry h;obtain⟨i,j,rfl,rfl,q⟩:=h;obtain⟨t,rfl⟩:=rx;obtain⟨t',rfl⟩:=ry;exact rule i j t t' s _ _ ⟨.bl (g i j),H,I,rfl,q⟩
def Ly(i j:Int):Prop:=0<j/\j<1073741824
def Kc(i j:Int):Prop:=0<=j/\j<=1000000/\i.natAbs<2^64
def Br(i j:Int):Prop:=(-(2^64)<i/\i<2^64)\/(-(2^64)<j/\j<2^64)
def Br.ok{i j:Int}(h:Br i j):IntMulOk i j:=by
 rcases h with ⟨h1,h2⟩|⟨h1,h2⟩
 ·exact .of_left (intBits_le_64 h1 h2)
 ·exact .of_right (intBits_le_64 h1 h2)
def AO:cY X (binaryOp .Add) (Ba λi j=>.int (i+j)):=JJ λ_ _ _ _ _ _ _ q=>add_int q
def d7:cY X (binaryOp .Sub) (Ba λi j=>.int (i-j)):=JJ λ_ _ _ _ _ _ _ q=>sub_int q
def IH:cY X (binaryOp .Mult) (rI Br λi j=>.int (i*j)):=JO λ_ _ _ _ _ _ _ hc q=>mul_int q hc.ok
def lu:cY X (binaryOp .FloorDiv) (rI Ly λi j=>.int (i / j)):=JO λi j _ _ _ _ _ hc q=>by
 have h1:(0:Int)<j:=hc.1;have h2:j<1073741824:=hc.2;exact floordiv_int (by lia) (by rw[Int.fdiv_eq_ediv_of_nonneg i (by lia)];exact q) (.inl (PyProof.noPylong_small (by lia)))
def eF:cY X (binaryOp .Mod) (rI (λ_ j=>0<j) λi j=>.int (i % j)):=JO λi j _ _ _ _ _ hc q=>by
 have h1:(0:Int)<j:=hc;exact mod_int' (by lia) (by rw[Int.fmod_eq_emod_of_nonneg i (by lia)];exact q)
def Ia:cY X (binaryOp .Pow) (rI Kc λi j=>.int (i^j.toNat)):=JO λ_ _ _ _ _ _ _ hc q=>pow_int_small hc.1 hc.2.1 hc.2.2 q
def HR:cY X (binaryOp .LShift) (rI Kc λi j=>.int (i*2^j.toNat)):=JO λ_ _ _ _ _ _ _ hc q=>lshift_int_small hc.1 hc.2.1 hc.2.2 q
def Mb{f:Value->Sem Value}{g:Int->Int}
  (rule:∀(i:Int) (t:Tok) (s:Shared) (Q:Value->Shared->Prop) (E:Value->Shared->Prop),Q (.int (g i) s.toks) {s with toks:=s.toks+1}->wpAny (model X.prog X.w) X.A (f (.int i t)) Q E s) :
  KY X f (rU λi=>.int (g i)):=by
 intro pins s σ H x v Q I rx h;obtain⟨i,rfl,q⟩:=h;obtain⟨t,rfl⟩:=rx;exact rule i t s _ _ ⟨.int (g i),H,I.tok _,⟨_,rfl⟩,q⟩
def cB:KY X (unaryOp .USub) (rU λi=>.int (-i)):=Mb λ_ _ _ _ _ q=>neg_int q
end
def KJ:V->V->Bool
 |.aN,.aN=>true|.aN,.int _=>true|.int _,.aN=>true|.aN,.bl _=>true|.bl _,.aN=>true|.aN,.str _=>true|.str _,.aN=>true
 |.int _,.int _=>true|.bl _,.bl _=>true|.str _,.str _=>true|.tH _,.tH _=>true
 |.int _,.str _=>true|.str _,.int _=>true|.bl _,.str _=>true|.str _,.bl _=>true
 |_,_=>false
def HI:R2:=λx y H Q=>KJ x y=true/\Q (.bl (decide (x=y))) H
def Gy:R2:=λx y H Q=>KJ x y=true/\Q (.bl (!decide (x=y))) H
def wM{i j:Int}:decide (V.int i=V.int j)=(i == j):=by
 rw[OO];simp
def Al{i j:Bool}:decide (V.bl i=V.bl j)=(i == j):=by
 rw[OO];simp
def w4{i j:Str}:decide (V.str i=V.str j)=(i == j):=by
 rw[OO];simp
def wK{i j:Array UInt8}:decide (V.tH i=V.tH j)=(i.toList == j.toList):=by
 rw[OO];cases i;cases j;simp
section
variable {X:Cx} {a b c:Expr} {ta tb tc:TE} {pos:Pos}
def aS{pins:List (Addr×Obj)}{Q:VK}{k k':Bool}(I:Inv X pins σ H s)(q:Q (.bl k) H)(e:k=k'):EP X pins σ Q (.bool k') s:=by
 subst e;exact⟨.bl k,H,I,rfl,q⟩
def Gh:cY X (compareOp .Eq) HI:=by
 intro pins s σ H x y v u Q I rx ry h;obtain⟨hs,q⟩:=h
 cases x with
 |aN =>
  cases rx
  cases y with
  |aN=>cases ry;exact PySem.EqNone.eq_none_none (aS I q (by simp))
  |bl j=>cases ry;exact PySem.EqNone.eq_none_bool (aS I q (by simp))
  |int j=>obtain⟨t',rfl⟩:=ry;exact PySem.EqNone.eq_none_int (aS I q (by simp))
  |str j=>obtain⟨t',rfl⟩:=ry;exact PySem.EqNone.eq_none_str (aS I q (by simp))
  |_=>exact absurd (show false=true from hs) ML
 |bl i =>
  cases rx
  cases y with
  |aN=>cases ry;exact PySem.EqNone.eq_bool_none (aS I q (by simp))
  |bl j=>cases ry;exact eq_bool (aS I q Al)
  |str j=>obtain⟨t',rfl⟩:=ry;exact PySem.EqMixed.eq_bool_str (aS I q (by simp))
  |_=>exact absurd (show false=true from hs) ML
 |int i =>
  obtain⟨t,rfl⟩:=rx
  cases y with
  |aN=>cases ry;exact PySem.EqNone.eq_int_none (aS I q (by simp))
  |int j=>obtain⟨t',rfl⟩:=ry;exact eq_int (aS I q wM)
  |str j=>obtain⟨t',rfl⟩:=ry;exact PySem.EqMixed.eq_int_str (aS I q (by simp))
  |_=>exact absurd (show false=true from hs) ML
 |str i =>
  obtain⟨t,rfl⟩:=rx
  cases y with
  |aN=>cases ry;exact PySem.EqNone.eq_str_none (aS I q (by simp))
  |bl j=>cases ry;exact PySem.EqMixed.eq_str_bool (aS I q (by simp))
  |int j=>obtain⟨t',rfl⟩:=ry;exact PySem.EqMixed.eq_str_int (aS I q (by simp))
  |str j=>obtain⟨t',rfl⟩:=ry;exact eq_str (aS I q w4)
  |_=>exact absurd (show false=true from hs) ML
 |tH i =>
  obtain⟨t,rfl⟩:=rx
  cases y with
  |tH j=>obtain⟨t',rfl⟩:=ry;exact W.eq_bytes (aS I q wK)
  |_=>exact absurd (show false=true from hs) ML
 |_=>cases y<;>exact absurd (show false=true from hs) ML
def FQ:cY X (compareOp .NotEq) Gy:=by
 intro pins s σ H x y v u Q I rx ry h;obtain⟨hs,q⟩:=h
 cases x with
 |aN =>
  cases rx
  cases y with
  |aN=>cases ry;exact PySem.EqNone.ne_none_none (aS I q (by simp))
  |bl j=>cases ry;exact PySem.EqNone.ne_none_bool (aS I q (by simp))
  |int j=>obtain⟨t',rfl⟩:=ry;exact PySem.EqNone.ne_none_int (aS I q (by simp))
  |str j=>obtain⟨t',rfl⟩:=ry;exact PySem.EqNone.ne_none_str (aS I q (by simp))
  |_=>exact absurd (show false=true from hs) ML
 |bl i =>
  cases rx
  cases y with
  |aN=>cases ry;exact PySem.EqNone.ne_bool_none (aS I q (by simp))
  |bl j=>cases ry;exact ne_bool (aS I q (Nw not Al))
  |str j=>obtain⟨t',rfl⟩:=ry;exact PySem.EqMixed.ne_bool_str (aS I q (by simp))
  |_=>exact absurd (show false=true from hs) ML
 |int i =>
  obtain⟨t,rfl⟩:=rx
  cases y with
  |aN=>cases ry;exact PySem.EqNone.ne_int_none (aS I q (by simp))
  |int j=>obtain⟨t',rfl⟩:=ry;exact ne_int (aS I q (Nw not wM))
  |str j=>obtain⟨t',rfl⟩:=ry;exact PySem.EqMixed.ne_int_str (aS I q (by simp))
  |_=>exact absurd (show false=true from hs) ML
 |str i =>
  obtain⟨t,rfl⟩:=rx
  cases y with
  |aN=>cases ry;exact PySem.EqNone.ne_str_none (aS I q (by simp))
  |bl j=>cases ry;exact PySem.EqMixed.ne_str_bool (aS I q (by simp))
  |int j=>obtain⟨t',rfl⟩:=ry;exact PySem.EqMixed.ne_str_int (aS I q (by simp))
  |str j=>obtain⟨t',rfl⟩:=ry;exact ne_str (aS I q (Nw not w4))
  |_=>exact absurd (show false=true from hs) ML
 |tH i =>
  obtain⟨t,rfl⟩:=rx
  cases y with
  |tH j=>obtain⟨t',rfl⟩:=ry;exact W.ne_bytes (aS I q (Nw not wK))
  |_=>exact absurd (show false=true from hs) ML
 |_=>cases y<;>exact absurd (show false=true from hs) ML
def e_:cY X (compareOp .Lt) (Ba λi j=>.bl (decide (i<j))):=DO λ_ _ _ _ _ _ _ q=>lt_int q
def C8:cY X (compareOp .LtE) (Ba λi j=>.bl (decide (i<=j))):=DO λ_ _ _ _ _ _ _ q=>le_int q
def rT:cY X (compareOp .Gt) (Ba λi j=>.bl (decide (j<i))):=DO λ_ _ _ _ _ _ _ q=>gt_int q
def vP:cY X (compareOp .GtE) (Ba λi j=>.bl (decide (j<=i))):=DO λ_ _ _ _ _ _ _ q=>ge_int q
def xF:cY X (compareOp .In) (λx y H Q=>∃i j,x=.str i/\y=.str j/\Q (.bl (!(Builtin.Str.occurrences j i 0 j.length 1).isEmpty)) H):=by
 intro pins s σ H x y v u Q I rx ry h;obtain⟨i,j,rfl,rfl,q⟩:=h;obtain⟨t,rfl⟩:=rx;obtain⟨t',rfl⟩:=ry;exact in_str (aS I q rfl)
def g_:cY X (compareOp .Is) (λx y H Q=>y=.aN/\Q (.bl (decide (x=.aN))) H):=by
 intro pins s σ H x y v u Q I rx ry h;obtain⟨rfl,q⟩:=h;cases ry;refine is_none_gen (aS I q ?_)
 cases x<;>first
  | (cases rx;rfl)
  | (obtain⟨t,rfl⟩:=rx;rfl)
def f_:cY X (compareOp .IsNot) (λx y H Q=>y=.aN/\Q (.bl (!decide (x=.aN))) H):=by
 intro pins s σ H x y v u Q I rx ry h;obtain⟨rfl,q⟩:=h;cases ry;refine isnot_none_gen (aS I q ?_)
 cases x<;>first
  | (cases rx;rfl)
  | (obtain⟨t,rfl⟩:=rx;rfl)
def cY.or(h:cY X f r)(h':cY X f r'):cY X f (λx y H Q=>r x y H Q\/r' x y H Q):=by
 intro pins s σ H x y v u Q I rx ry q;rcases q with q|q
 ·exact h pins s σ H x y v u Q I rx ry q
 ·exact h' pins s σ H x y v u Q I rx ry q
def E9{op:CmpOp}(ho:cY X (compareOp op) r)(ha:PE X a ta)(hb:PE X b tb)(hm:behindInMarks op b=false):PE X (.Compare a [op] [b] pos) (Bq r ta tb):=by
 intro pins s σ H Q I h;exact wpAny_Compare1 (Ja ha hb I h λv u s2 x y H2 I2 rx ry q=>ho pins s2 σ H2 x y v u Q I2 rx ry q) hm
def mF(t:TE):TT:=λσ H Q=>t σ H λx H'=>∃k,x=.bl k/\Q k H'
def E6{op:CmpOp}(ho:cY X (compareOp op) r)(ha:PE X a ta)(hb:PE X b tb)(hm:behindInMarks op b=false):PT X (.Compare a [op] [b] pos) (mF (Bq r ta tb)):=by
 intro pins s σ H Q I h;refine wpAny_isTrue_Compare1 (bJ (ha pins s σ H _ I h) λv s1 ⟨x,H1,I1,r1,q1⟩=>bJ (hb pins s1 σ H1 _ I1 q1) λu s2 ⟨y,H2,I2,r2,q2⟩=>
  bJ (ho pins s2 σ H2 x y v u _ I2 r1 r2 q2) λc s3 ⟨z,H3,I3,r3,k,e,q3⟩=>?_) hm
 subst e;cases r3;exact NQ ⟨H3,I3,q3⟩
def iT(r r':R2)(ta tb tc:TE):TE:=λσ H Q=>ta σ H λx H1=>tb σ H1 λy H2=>r x y H2 λz H3=>∃k,z=.bl k /\
 (if k=true then tc σ H3 λw' H4=>r' y w' H4 Q else Q (.bl false) H3)
def Bp{op:CmpOp}(ho:cY X (compareOp op) r)(ho':cY X (compareOp op') r')(ha:PE X a ta)(hb:PE X b tb)(hc:PE X c tc)
  (hm:autoParam (lastMarks [op,op'] [b,c]=false) ℜ5):PE X (.Compare a [op,op'] [b,c] pos) (iT r r' ta tb tc):=by
 intro pins s σ H Q I h;refine Compare_chain (bJ (ha pins s σ H _ I h) λv s1 ⟨x,H1,I1,r1,q1⟩=>chain_link (bJ (hb pins s1 σ H1 _ I1 q1) λu s2 ⟨y,H2,I2,r2,q2⟩=>
  bJ (ho pins s2 σ H2 x y v u _ I2 r1 r2 q2) λd s3 ⟨z,H3,I3,r3,k,e,q3⟩=>?_)) hm
 subst e;cases r3;refine NQ ?_
 cases k with
 |false=>exact ite_ff ⟨.bl false,H3,I3,rfl,q3⟩
 |true=>exact ite_tt (chain_last (bJ (hc pins s3 σ H3 _ I3 q3) λw' s4 ⟨z',H4,I4,r4,q4⟩=>ho' pins s4 σ H4 y z' u w' Q I4 r2 r4 q4))
def BJ{op:CmpOp}(ho:cY X (compareOp op) r)(ho':cY X (compareOp op') r')(ha:PE X a ta)(hb:PE X b tb)(hc:PE X c tc)
  (hm:autoParam (lastMarks [op,op'] [b,c]=false) ℜ5):PT X (.Compare a [op,op'] [b,c] pos) (mF (iT r r' ta tb tc)):=by
 intro pins s σ H Q I h;refine isTrue_chain (bJ (ha pins s σ H _ I h) λv s1 ⟨x,H1,I1,r1,q1⟩=>test_link (bJ (hb pins s1 σ H1 _ I1 q1) λu s2 ⟨y,H2,I2,r2,q2⟩=>
  bJ (ho pins s2 σ H2 x y v u _ I2 r1 r2 q2) λd s3 ⟨z,H3,I3,r3,k,e,q3⟩=>?_)) hm
 subst e;cases r3;refine NQ ?_
 cases k with
 |false =>
  obtain⟨k',e',q'⟩:=q3;cases e';exact ite_ff ⟨H3,I3,q'⟩
 |true =>
  refine ite_tt (test_last (bJ (hc pins s3 σ H3 _ I3 q3) λw' s4 ⟨z',H4,I4,r4,q4⟩=>bJ (ho' pins s4 σ H4 y z' u w' _ I4 r2 r4 q4) λd' s5 hq39=>?_));obtain⟨z2,H5,I5,r5,k2,e2,q5⟩:=hq39;subst e2;cases r5;exact NQ ⟨H5,I5,q5⟩
def xE(K:W.Frag)(x:V)(H:Hp)(k:Bool):Prop:=
 match x with
 |.aN=>k=false
 |.bl b=>k=b
 |.int i=>k=(i != 0)
 |.str y=>y.length<=sizeLine/\k=((y.length:Int) != 0)
 |.tH y=>y.size<=sizeLine/\k=((y.size:Int) != 0)
 |.ref p=>(∃xs,aT K H p xs/\k=!xs.isEmpty)\/(∃xs,aW K H p xs/\k=!xs.isEmpty)\/∃kvs,H p=some (.dK kvs)/\k=!kvs.isEmpty
 |_=>False
def tN{κ:Type}{kvs:List (κ×V)}{vs:List (κ×Value)}(r:KV kvs vs):(!vs.isEmpty)=!kvs.isEmpty:=by
 cases r<;>rfl
def mH{its:List Value}(r:Vals xs its):(!its.toArray.isEmpty)=!xs.isEmpty:=by
 cases r<;>simp
def jB:(sizeLine:Nat)<2^63:=by rw[NW];decide
def GP:L5 X (λx H Q=>∃k,xE X.K x H k/\Q k H):=by
 intro pins s σ H x v Q I rx h;obtain⟨k,e,q⟩:=h;have hl:=jB;have hs:sizeLine=16777216:=NW
 cases x with
 |aN =>
  cases rx;have e':k=false:=e;subst e';exact truthy_none ⟨H,I,q⟩
 |bl b =>
  cases rx;have e':k=b:=e;subst e';exact NQ ⟨H,I,q⟩
 |int i =>
  obtain⟨t,rfl⟩:=rx;have e':k=(i != 0):=e;subst e';exact PySem.P.truthy_int ⟨H,I,q⟩
 |str y =>
  obtain⟨t,rfl⟩:=rx;obtain⟨hy,e'⟩:y.length<=sizeLine/\k=((y.length:Int) != 0):=e;subst e';exact PySem.P.truthy_str (by lia) ⟨H,I.tok _,q⟩
 |tH y =>
  obtain⟨t,rfl⟩:=rx;obtain⟨hy,e'⟩:y.size<=sizeLine/\k=((y.size:Int) != 0):=e;subst e';exact W.truthy_bytes (by lia) ⟨H,I.tok _,q⟩
 |ref p =>
  cases rx;have e':(∃xs,aT X.K H p xs/\k=!xs.isEmpty)\/(∃xs,aW X.K H p xs/\k=!xs.isEmpty)\/∃kvs,H p=some (.dK kvs)/\k=!kvs.isEmpty:=e;rcases e' with ⟨xs,hx,e'⟩|⟨xs,hx,e'⟩|⟨kvs,hx,e'⟩
  ·subst e';obtain⟨its,r,pl,hz⟩:=I.list hx;have hlen:=r.length;exact wpAny_truthy_list pl.isList (by simp only[MC];lia) ⟨H,I.tok _,by rw[mH r];exact q⟩
  ·subst e';obtain⟨its,r,pl,hz⟩:=I.tuple hx;have hlen:=r.length;exact truthy_tuple pl (by simp only[MC];lia) ⟨H,I.tok _,by rw[mH r];exact q⟩
  ·subst e';obtain⟨hz,hS,vs,r,m⟩:kvs.length<=sizeLine/\(p == sysModules)=false/\∃vs,KV kvs vs/\s.heap.DictOf (cA X.prog X.w) p vs:=I.aH p _ hx;have hlen:kvs.length=vs.length:=Paired.length r;exact wpAny_truthy_dict hS m (by lia) ⟨H,I.tok _,by rw[tN r];exact q⟩
 |_=>exact (show False from e).elim
def zC(ha:PE X a ta)(he:∀whole,isTrue a X.env whole=(do let v <- whole;standAt a.pos;holding [v] (truthy v))):
  PT X a (λσ H Q=>ta σ H λx H'=>∃k,xE X.K x H' k/\Q k H'):=by
 intro pins s σ H Q I h;exact isTrue_plain (bJ (ha pins s σ H _ I h) λv s1 ⟨x,H1,I1,r1,q1⟩=>GP pins s1 σ H1 x v Q I1 r1 q1) (he _)
def nu:cY X (binaryOp .Add) (λx y H Q=>∃i j,x=.str i/\y=.str j/\i.length+j.length<=sizeLine/\Q (.str (i++j)) H):=by
 intro pins s σ H x y v u Q I rx ry h;obtain⟨i,j,rfl,rfl,hz,q⟩:=h;obtain⟨t,rfl⟩:=rx;obtain⟨t',rfl⟩:=ry;exact add_str (λt' tk=>⟨.str (i++j),H,I.tok _,⟨_,rfl⟩,q⟩) hz
def vals1{x:V}(r:Vals [x] us):∃u,us=[u]/\RelV x u:=by
 cases r with
 |cons r1 r2=>cases r2;exact⟨_,rfl,r1⟩
def vals2{x y:V}(r:Vals [x,y] us):∃u w',us=[u,w']/\RelV x u/\RelV y w':=by
 cases r with
 |cons r1 r2 =>
  cases r2 with
  |cons r3 r4=>cases r4;exact⟨_,_,rfl,r1,r3⟩
def BA:aX X (.builtin "abs") (λxs H Q=>∃i,xs=[.int i]/\Q (.int (if i<0 then -i else i)) H):=by
 intro pins s σ H xs us Q I r h;obtain⟨i,rfl,q⟩:=h;obtain⟨u,rfl,t,rfl⟩:=vals1 r;exact call_abs_int λu tk=>⟨.int (if i<0 then -i else i),H,I.tok _,⟨_,rfl⟩,q⟩
def ym(hc:X.calm=true):aX X (.builtin "min") (λxs H Q=>∃i j,xs=[.int i,.int j]/\Q (.int (if j<i then j else i)) H):=by
 intro pins s σ H xs us Q I r h;obtain⟨i,j,rfl,q⟩:=h;obtain⟨u,w',rfl,⟨t,rfl⟩,⟨t',rfl⟩⟩:=vals2 r;refine min_two_ints (I.ok.hd hc) λh' tk k=>⟨_,H,I.kept k,?_,q⟩;by_cases hj:j<i
 ·rw[MD hj,MD hj];exact⟨_,rfl⟩
 ·rw[M4 hj,M4 hj];exact⟨_,rfl⟩
def oM:aX X (.type "int") (λxs H Q=>(∃i,xs=[.int i]/\Q (.int i) H)\/∃k,xs=[.bl k]/\Q (.int (if k then 1 else 0)) H):=by
 intro pins s σ H xs us Q I r h;rcases h with ⟨i,rfl,q⟩|⟨k,rfl,q⟩
 ·obtain⟨u,rfl,t,rfl⟩:=vals1 r;exact call_int_int ⟨.int i,H,I,⟨_,rfl⟩,q⟩
 ·obtain⟨u,rfl,r1⟩:=vals1 r;cases r1;exact call_int_bool ⟨.int (if k then 1 else 0),H,I.tok _,⟨_,rfl⟩,q⟩
def p_:aX X (.type "str") (λxs H Q=>∃i,xs=[.int i]/\i.natAbs.log2<1920/\Q (.str (toString i)) H):=by
 intro pins s σ H xs us Q I r h;obtain⟨i,rfl,hz,q⟩:=h;obtain⟨u,rfl,t,rfl⟩:=vals1 r;exact PySem.P.str_of_int hz ⟨.str _,H,I.tok _,⟨_,rfl⟩,q⟩
def K3(K:W.Frag)(x:V)(H:Hp)(n:Nat):Prop:=
 match x with
 |.str y=>y.length<=sizeLine/\n=y.length
 |.tH y=>y.size<=sizeLine/\n=y.size
 |.ref p=>(∃xs,aT K H p xs/\n=xs.length)\/∃xs,aW K H p xs/\n=xs.length
 |_=>False
def jx:aX X (.builtin "len") (λxs H Q=>∃x n,xs=[x]/\K3 X.K x H n/\Q (.int n) H):=by
 intro pins s σ H xs us Q I r h;obtain⟨x,n,rfl,e,q⟩:=h;obtain⟨u,rfl,rx⟩:=vals1 r;have hl:=jB;have hs:sizeLine=16777216:=NW
 cases x with
 |str y =>
  obtain⟨t,rfl⟩:=rx;obtain⟨hy,e'⟩:y.length<=sizeLine/\n=y.length:=e;subst e';exact len_str (by lia) ⟨.int _,H,I.tok _,⟨_,rfl⟩,q⟩
 |tH y =>
  obtain⟨t,rfl⟩:=rx;obtain⟨hy,e'⟩:y.size<=sizeLine/\n=y.size:=e;subst e';exact W.len_bytes (by lia) ⟨.int _,H,I.tok _,⟨_,rfl⟩,q⟩
 |ref p =>
  cases rx;have e':(∃xs,aT X.K H p xs/\n=xs.length)\/∃xs,aW X.K H p xs/\n=xs.length:=e;rcases e' with ⟨xs,hx,e'⟩|⟨xs,hx,e'⟩
  ·subst e';obtain⟨its,r',pl,hz⟩:=I.list hx;have hlen:=r'.length;exact Calls.call_len_list pl.isList (by simp only[MC];lia) ⟨.int xs.length,H,I.tok _,⟨_,by simp only[MC];rw[hlen]⟩,q⟩
  ·subst e';obtain⟨its,r',pl,hz⟩:=I.tuple hx;have hlen:=r'.length;exact len_tuple pl (by simp only[MC];lia) ⟨.int xs.length,H,I.tok _,⟨_,by simp only[MC];rw[hlen]⟩,q⟩
 |_=>exact (show False from e).elim
end
structure uh (h:Heap) (x dx C:Addr) (mA:Str->Option Value):Prop where
 obj:h.get? x=some (W.instObj C dx)
 ns:h.Ns1 dx mA
 ne:dx≠x
def yr{dx:Addr}(n:h.Ns1 dx mA):∃od,h.get? dx=some od/\∀name,W.lookIn name od=some (mA name):=by
 obtain⟨o,es,ep,ho,hd,hk,_,hm⟩:=n;refine⟨o,ho,λname=>?_⟩;have e:=hm name;unfold nsFind findBy at e;rw[<- Array.find?_toList] at e;unfold W.lookIn;rw[hd];dsimp only;split
 ·rename_i y q;rw[q] at e;exact Nw some e
 ·rename_i q;rw[q] at e;have a:es.toList.any (·.refKey)=false:=by
   rw[List.any_eq_false];intro y hy;obtain⟨z,t,hkey⟩:=hk y (Array.mem_toList_iff.mp hy);simp[DictEntry.refKey,hkey]
  have a':¬ es.toList.any (·.refKey)=true:=by rw[a];exact ML
  rw[M4 a'];exact Nw some e
def uh.look{x dx:Addr}(I:uh h x dx C mA):∃od,W.InstAt h x (W.instObj C dx) C (some od)/\∀name,W.lookIn name od=some (mA name):=
 let ⟨od,ho,hl⟩:=yr I.ns
 ⟨od,⟨I.obj,rfl,rfl,ho⟩,hl⟩
section
variable {prog:Program} {w:World} {A:Around} {E:Value->Shared->Prop} {s:Shared} {K:W.Frag} {x dx C f:Addr} {mA:Str->Option Value} {name:Str} {v:Value}
def get_map{expr:Bool}(X:K.In s.heap)(I:uh s.heap x dx C mA)(hg:W.plainGet K C name=true)(hh:W.hasDictIn K C=true)
  (ha:W.findIn K (.ref C) name=some none) (hv:mA name=some v) (hv':W.handedIn v=true) (h:Q v {s with toks:=s.toks+1}) :
  wpAny (model prog w) A (getAttr (.ref x) name expr) Q E s:=by
 obtain⟨od,J,hl⟩:=I.look;exact W.get_value X J (RD hg).1 (W.findObj_own hh ha rfl (by rw[hl,hv])) hv' h
def zX{Q:Value×List Value->Shared->Prop}(X:K.In s.heap)(I:uh s.heap x dx C mA)(hg:W.plainGet K C name=true)
  (hf:W.findIn K (.ref C) name=some (some (.ref f))) (ht:W.isFn K (.ref f)=true) (hv:mA name=none) (h:Q (.ref f,[.ref x]) s) :
  wpAny (model prog w) A (getMethod (.ref x) name pl) Q E s:=by
 obtain⟨od,J,hl⟩:=I.look;exact W.method_fn X J (RD hg).1 (RD hg).2 hf (Py.mp ht) (by show (W.lookIn name od).map (·.isSome)=some false;rw[hl,hv];rfl) h
def CJ{ns:List Str}{Q:Unit->Shared->Prop}(X:K.In s.heap)(I:uh s.heap x dx C mA)
  (hs:W.findIn K (.ref C) "__setattr__"=some (some (.builtin "object.__setattr__"))) (hp:W.plainOver K C=true) (ht:W.takerIn K C name=some none) (hh:W.hasDictIn K C=true)
  (hw:PySem.Within mA ns) (hsz:ns.length<=sizeLine)
  (h:∀h',uh h' x dx C (λy=>if y=name then some v else mA y)->Heap.SameBut dx s.heap h'->Q () {s with heap:=h',toks:=s.toks+2}) :
  wpAny (model prog w) A (setAttr (.ref x) name v) Q E s:=by
 obtain⟨od,J,hl⟩:=I.look;refine W.set_plain X J hs (W.osa_open (s:={s with toks:=s.toks+1}) (r:=none) X J hp ht λb=>?_)
 obtain⟨cd,hc,hd'⟩:=W.any_some hh;have hx:s.heap.get? x=some ⟨.ref C,some dx,.plain,#[]⟩:=I.obj;refine Mv (ME (Mv (Mv (wpAny_loadPart hx (Mv (W.Looks.here (s:={s with toks:=s.toks+1}) (W.looks_clsIn X hc) ?_))))))
 rw[hd'];refine ME (a:=some dx) (Mv (ME (Mv ?_)));refine wpAny_nsSet1 (s:={s with toks:=s.toks+1}) I.ns λh' hn2 hs2=>?_
 obtain⟨oD,esD,epD,hoD,hdD,hcD⟩:=hn2.count (PySem.Within.cons name v hw);refine Mv (wpAny_lookBehind hoD (by rw[hdD];exact pastItsLine_dict (Mz hcD (by rw[MJ];lia))) ?_)
 exact ME (h _ ⟨(hs2.2 _ (MV I.ne)).trans I.obj,hn2,I.ne⟩ hs2)
def Cn{R:Result->Shared->Prop}{vs:List Value}{kw:List (Str×Value)}(X:K.In s.heap)(hm:W.makesIn K C=true)
  (hi:W.findIn K (.ref C) "__init__"=some (some (.ref f))) (hf:W.typeIn K (.ref f)=some (.type "function"))
  (h:codeAny (model prog w) (A.under (.builtin "type.__call__" ⟨.ref C::vs,kw⟩)) (.call (.ref f) ⟨.ref (s.heap.objs.size+1)::vs,kw⟩) (W.InitBack (s.heap.objs.size+1) R)
   {s with heap:=(s.heap.push W.emptyDict).push (W.instObj C s.heap.objs.size)}) :
  codeAny (model prog w) A (.call (.ref C) ⟨vs,kw⟩) R s:=by
 obtain⟨hh,g,d,t,os⟩:=s;exact W.make_core (W.makes_of X hm) (W.looks_findIn X hi) (λself=>W.bind_fn X self hf) (.inl rfl) h
end
def cR(f:Str)(v:V):List (Str×V)->List (Str×V)
 |[]=>[(f,v)]
 | (g,x)::r=>if g=f then (g,v)::r else (g,x)::cR f v r
theorem kJ(f g:Str)(v:V):∀fs:List (Str×V),(cR f v fs).lookup g=if g=f then some v else fs.lookup g
 |[]=>by
  show List.lookup g [(f,v)]=_;by_cases h:g=f
  ·have hb:(g == f)=true:=Py.mpr h;simp only[List.lookup,hb,MD h]
  ·have hb:(g == f)=false:=Nh.mpr h;simp only[List.lookup,hb,M4 h]
 | (k,x)::r=>by
  have ih:=kJ f g v r;rw[show cR f v ((k,x)::r)=(if k=f then (k,v)::r else (k,x)::cR f v r) from rfl]
  by_cases hk:k=f
  ·rw[MD hk];by_cases h:g=k
   ·have hb:(g == k)=true:=Py.mpr h;simp only[List.lookup,hb,MD (h.trans hk)]
   ·have hb:(g == k)=false:=Nh.mpr h;simp only[List.lookup,hb,M4 (λe:g=f=>h (e.trans hk.symm))]
  ·rw[M4 hk];by_cases h:g=k
   ·have hb:(g == k)=true:=Py.mpr h;simp only[List.lookup,hb,M4 (λe:g=f=>hk (h.symm.trans e))]
   ·have hb:(g == k)=false:=Nh.mpr h;simp only[List.lookup,hb];exact ih
theorem jQ(f:Str)(v:V):∀fs:List (Str×V),f∈(cR f v fs).map (·.1)/\∀g,g∈fs.map (·.1)->g∈(cR f v fs).map (·.1)
 |[]=>⟨by simp[cR],λg h=>by simp at h⟩
 | (k,x)::r=>by
  obtain⟨i1,i2⟩:=jQ f v r;rw[show cR f v ((k,x)::r)=(if k=f then (k,v)::r else (k,x)::cR f v r) from rfl]
  by_cases hk:k=f
  ·rw[MD hk];subst hk;exact⟨by simp,λg h=>by simpa using h⟩
  ·rw[M4 hk];refine⟨?_,λg h=>?_⟩
   ·rw[Nb];exact MF _ i1
   ·rw[Nb] at h ⊢;rcases M0.mp h with e|e
    ·exact M0.mpr (.inl e)
    ·exact MF _ (i2 g e)
theorem kE(f:Str)(v:V):∀fs:List (Str×V),(cR f v fs).length<=fs.length+1
 |[]=>by simp[cR]
 | (k,x)::r=>by
  have ih:=kE f v r;rw[show cR f v ((k,x)::r)=(if k=f then (k,v)::r else (k,x)::cR f v r) from rfl]
  by_cases hk:k=f
  ·rw[MD hk,MJ,MJ];lia
  ·rw[M4 hk,MJ,MJ];lia
def jy.some_of{v:V}(r:jy (some v) o):∃u,o=some u/\RelV v u:=by
 cases o with
 |none=>exact (show False from r).elim
 |some u=>exact⟨u,rfl,r⟩
def jy.none_of(r:jy none o):o=none:=by
 cases o with
 |none=>rfl
 |some u=>exact (show False from r).elim
def x9{v:V}(r:RelV v u):W.handedIn u=true:=by
 cases v with
 |aN=>cases (show u=Value.none from r);rfl
 |bl b=>cases (show u=Value.bool b from r);rfl
 |int i=>obtain⟨t,e⟩:=(show ∃t,u=Value.int i t from r);cases e;rfl
 |str x=>obtain⟨t,e⟩:=(show ∃t,u=Value.str x t from r);cases e;rfl
 |tH b=>obtain⟨t,e⟩:=(show ∃t,u=Value.bytes b t from r);cases e;rfl
 |Jc b=>obtain⟨t,e⟩:=(show ∃t,u=Value.float b t from r);cases e;rfl
 |ref a=>cases (show u=Value.ref a from r);rfl
 |ty n=>cases (show u=Value.type n from r);rfl
section
variable {P:Program} {w:World} {H H':Hp} {h h':Heap} {a C dx:Addr} {fs fs':List (Str×V)}
def lq(aH:j9 P w H h)(e:H a=some (.ins C dx fs)):∃mA,uh h a dx C mA/\(∀f,jy (fs.lookup f) (mA f))/\PySem.Within mA (fs.map (·.1))/\fs.length<=1000/\H dx=some (.own a):=by
 obtain⟨d,z,ne,ob,mA,n,r,q⟩:=(show ba P w H h a (.ins C dx fs) from aH a _ e);exact⟨mA,⟨ob,n,ne⟩,r,q,z,d⟩
end
structure gX (K:W.Frag) (C:Addr):Prop where
 pg:W.plainGet K C Str.empty=true
 hd:W.hasDictIn K C=true
 po:W.plainOver K C=true
 sa:W.findIn K (.ref C) "__setattr__"=some (some (.builtin "object.__setattr__"))
def gX.get(c:gX K C)(f:Str):W.plainGet K C f=true:=c.pg
def aP(K:W.Frag)(C:Addr)(f:Str):Prop:=W.findIn K (.ref C) f=some none
def aP.JX{f:Str}(n:aP K C f):W.takerIn K C f=some none:=by
 unfold W.takerIn;rw[show W.findIn K (.ref C) f=some none from n];rfl
structure Meth (K:W.Frag) (C:Addr) (m:Str) (f:Addr):Prop where
 at_:W.findIn K (.ref C) m=some (some (.ref f))
 fn:W.isFn K (.ref f)=true
 kp:W.keepIn K (.ref f)=true
section
variable {X:Cx} {pins:List (Addr×Obj)} {σ:St} {H:Hp} {s:Shared} {a C dx:Addr} {fs:List (Str×V)} {f:Str} {v:V} {A:Around} {E:Value->Shared->Prop}
def vv{b:Bool}(I:Inv X pins σ H s)(e:H a=some (.ins C dx fs))(c:gX X.K C)(n:aP X.K C f)(l:fs.lookup f=some v)
  (h:∀u s',Inv X pins σ H s'->RelV v u->Q u s'):wpAny (model X.prog X.w) A (getAttr (.ref a) f b) Q E s:=by
 obtain⟨mA,O,r,_,_,_⟩:=lq I.aH e;obtain⟨u,hu,ru⟩:=jy.some_of (v:=v) (o:=mA f) (by rw[<- l];exact r f)
 exact get_map I.iz O (c.get f) c.hd n hu (x9 ru) (h u _ (I.tok _) ru)
def lC{m:Str}{g:Addr}{Q:Value×List Value->Shared->Prop}(I:Inv X pins σ H s)(e:H a=some (.ins C dx fs))(c:gX X.K C)(k:Meth X.K C m g)(l:fs.lookup m=none)
  (h:Q (.ref g,[.ref a]) s):wpAny (model X.prog X.w) A (getMethod (.ref a) m pl) Q E s:=by
 obtain⟨mA,O,r,_,_,_⟩:=lq I.aH e;have hn:mA m=none:=jy.none_of (by rw[<- l];exact r m)
 exact zX I.iz O (c.get m) k.at_ k.fn hn h
def uk{y:V}{Q:Unit->Shared->Prop}(I:Inv X pins σ H s)(e:H a=some (.ins C dx fs))(c:gX X.K C)(n:aP X.K C f)(hl:fs.length<1000)(ry:RelV y u)
  (h:∀s',Inv X pins σ (upd H a (.ins C dx (cR f y fs))) s'->Q () s'):wpAny (model X.prog X.w) A (setAttr (.ref a) f u) Q E s:=by
 obtain⟨mA,O,r,wi,_,ho⟩:=lq I.aH e;have hz:(fs.map (·.1)).length<=sizeLine:=by rw[Ms,NW];lia
 refine CJ I.iz O c.sa c.po n.JX c.hd wi hz λh' O' sb=>h _ ?_;have hd:∃o,h'.get? dx=some o:=let ⟨o,_,_,e',_⟩:=O'.ns;⟨o,e'⟩
 refine I.write (x:=a) (e:=dx) (by rw[e];exact True.intro) (.inr ho) (λb q hb z=>(sb.2 b hb).trans z) hd ?_
 refine⟨by rw[af O.ne];exact ho,?_,O.ne,O'.obj,_,O'.ns,λg=>?_,λg hg=>?_⟩
 ·have:=kE f y fs;lia
 ·show jy ((cR f y fs).lookup g) (if g=f then some u else mA g)
  rw[kJ];by_cases q:g=f
  ·rw[MD q,MD q];exact ry
  ·rw[M4 q,M4 q];exact r g
 ·by_cases q:g=f
  ·rw[q];exact (jQ f y fs).1
  ·refine (jQ f y fs).2 g (wi g λz=>hg ?_);show (if g=f then some u else mA g)=none
   rw[M4 q];exact z
def Inv.made(I:Inv X pins σ H s):Inv X pins σ (upd (upd H s.heap.objs.size (.own (s.heap.objs.size+1))) (s.heap.objs.size+1) (.ins C s.heap.objs.size []))
  {s with heap:=(s.heap.push W.emptyDict).push (W.instObj C s.heap.objs.size)}:=by
 have e1:(s.heap.push W.emptyDict).get? s.heap.objs.size=some W.emptyDict:=MM s.heap rfl;have e2:((s.heap.push W.emptyDict).push (W.instObj C s.heap.objs.size)).get? (s.heap.objs.size+1)=some (W.instObj C s.heap.objs.size):=by
  have:=MM (s.heap.push W.emptyDict) (o:=W.instObj C s.heap.objs.size) rfl
  rwa [NG] at this
 have e3:(s.heap.push W.emptyDict).Ns s.heap.objs.size (λ_=>none):=⟨W.emptyDict,#[],_,e1,rfl,(λe he=>absurd he (by simp)),λ_=>rfl⟩
 have I1:=I.laid (a:=s.heap.objs.size) (o:=.own (s.heap.objs.size+1)) (h':=s.heap.push W.emptyDict) (t':=s.toks) (λb u q=>My _ q) (M8 _) ⟨_,e1⟩;refine I1.laid (a:=s.heap.objs.size+1) (o:=.ins C s.heap.objs.size []) (t':=s.toks) (λb u q=>My _ q) (RJ (NG _ _)) ?_;have ne:s.heap.objs.size≠s.heap.objs.size+1:=M_ (OA _);refine⟨by rw[af ne,aa],MG _,ne,e2,λ_=>none,(Heap.Ns1.of_empty e3).at λo q=>My _ q,λ_=>True.intro,λy hy=>absurd rfl hy⟩
def E5{prog:Program}{env:Env}{f:Str}(hb:attributeBase e f env (eval e env)=eval e env)
  (h:wpAny (model prog w) A (eval e env) (λo s₁=>wpAny (model prog w) A (getAttr o f true) Q E s₁) E s):wpAny (model prog w) A (eval (.Attribute e f pos) env) Q E s:=
 Attribute_any_ h (by rw[arm_eval_Attribute,hb])
end
def C7(K:W.Frag)(ta:TE)(f:Str):TE:=λσ H Q=>ta σ H λx H1=>∃a C dx fs v,x=.ref a/\H1 a=some (.ins C dx fs)/\gX K C/\aP K C f/\fs.lookup f=some v/\Q v H1
def AV(K:W.Frag)(ta tv:TE)(f:Str):TS:=λD σ H=>tv σ H λy H1=>ta σ H1 λx H2=>∃a C dx fs,x=.ref a/\H2 a=some (.ins C dx fs)/\gX K C/\aP K C f/\fs.length<1000 /\
 D.nx σ (upd H2 a (.ins C dx (cR f y fs)))
section
variable {X:Cx} {o e value:Expr} {f:Str} {pos pos' tpos:Pos} {ta tv:TE}
def IW(he:PE X e ta)(hb:attributeBase e f X.env (eval e X.env)=eval e X.env):PE X (.Attribute e f pos) (C7 X.K ta f):=by
 intro pins s σ H Q I h;refine E5 hb (bJ (he pins s σ H _ I h) λu s1 hq40=>?_);obtain⟨x,H1,I1,rx,a,C,dx,fs,v,ex,ea,c,n,l,q⟩:=hq40;subst ex;obtain rfl:u=Value.ref a:=rx;exact vv I1 ea c n l λu' s2 I2 ru=>⟨v,H1,I2,ru,q⟩
def Gn(ha:PE X o ta)(hv:PE X value tv)(hs:swapsWith value (some (.Attribute o f pos')) pos.line X.env=pure false):PS X (.Assign [.Attribute o f pos'] value pos) (AV X.K ta tv f):=by
 intro pins s σ H D I h;refine plainObj_wpAny_Assign_Attribute (bJ (hv pins s σ H _ I h) λu s1 ⟨y,H1,I1,ry,q⟩=>bJ (ha pins s1 σ H1 _ I1 q) λov s2 hq42=>?_) hs;obtain⟨x,H2,I2,rx,a,C,dx,fs,ex,ea,c,n,l,q2⟩:=hq42;subst ex;obtain rfl:ov=Value.ref a:=rx;exact uk I2 ea c n l ry λs3 I3=>⟨σ,_,I3,q2⟩
end
section
variable {X:Cx} {pins:List (Addr×Obj)} {σ:St} {H:Hp} {s:Shared} {A:Around} {E:Value->Shared->Prop} {Q:Value->Shared->Prop} {c:Value} {b:Bool}
inductive iZ (K:W.Frag) (H:Hp):V->Value->Prop where
 |aN:iZ K H .aN (.type "NoneType")
 |bl (x:Bool):iZ K H (.bl x) (.type "bool")
 |int (i:Int):iZ K H (.int i) (.type "int")
 |str (x:Str):iZ K H (.str x) (.type "str")
 |Jc (x:UInt64):iZ K H (.Jc x) (.type "float")
 |lst {a:Addr} {xs:List V} (e:H a=some (.lst xs)):iZ K H (.ref a) (.type "list")
 |jU {a:Addr} {o:Obj} {xs:List V} (e:H a=some (.jU o (.lst xs))):iZ K H (.ref a) (.type "list")
 |tup {a:Addr} {xs:List V} (e:H a=some (.tup xs)):iZ K H (.ref a) (.type "tuple")
 |dK {a:Addr} {kvs:List (Key×V)} (e:H a=some (.dK kvs)):iZ K H (.ref a) (.type "dict")
 |dT {a:Addr} {kvs:List (List Key×V)} (e:H a=some (.dT kvs)):iZ K H (.ref a) (.type "dict")
 |ins {a C dx:Addr} {fs:List (Str×V)} (e:H a=some (.ins C dx fs)) (cl:gX K C) (ha:W.findIn K (.ref C) "__class__"=some (some (.builtin "object.__class__")))
   (hn:W.specialIn K (.builtin "object.__class__") "__get__"=some (some (.builtin "getset_descriptor.__get__"))) (htk:W.takesIn K (.builtin "object.__class__")=some true)
   (hm:W.mroIn K C (.type "object")=some true):iZ K H (.ref a) (.ref C)
def oG{x:V}{t:Value}(I:Inv X pins σ H s)(rx:RelV x u)(ty:iZ X.K H x t)(e:W.kitOne X.K t c=some b)(h:∀tk,Q (.bool b) {s with toks:=tk}):
  wpAny (model X.prog X.w) A (call (.builtin "isinstance") [u,c]) Q E s:=by
 cases ty with
 |aN=>cases (show u=Value.none from rx);exact O9 W.kitx_none I.iz True.intro e (λz=>nomatch z) h
 |bl y=>cases (show u=Value.bool y from rx);exact O9 W.kitx_bool I.iz True.intro e (λz=>nomatch z) h
 |int i=>obtain⟨t,q⟩:=(show ∃t,u=Value.int i t from rx);cases q;exact O9 W.kitx_int I.iz True.intro e (λz=>nomatch z) h
 |str y=>obtain⟨t,q⟩:=(show ∃t,u=Value.str y t from rx);cases q;exact O9 W.kitx_str I.iz True.intro e (λz=>nomatch z) h
 |Jc y=>obtain⟨t,q⟩:=(show ∃t,u=Value.float y t from rx);cases q;exact O9 W.kitx_float I.iz True.intro e (λz=>nomatch z) h
 |@lst a xs ea =>
  cases (show u=Value.ref a from rx)
  obtain⟨_,_,n,_,h1⟩:=(show ba X.prog X.w H s.heap a (.lst xs) from I.aH a _ ea);exact O9 W.kitx_list I.iz ⟨_,h1,rfl⟩ e (λz=>nomatch z) h
 |@jU a ob xs ea =>
  cases (show u=Value.ref a from rx)
  obtain⟨_,_,_,n,_,h1⟩:=(show ba X.prog X.w H s.heap a (.jU ob (.lst xs)) from I.aH a _ ea);exact O9 W.kitx_list I.iz ⟨_,h1,rfl⟩ e (λz=>nomatch z) h
 |@tup a xs ea =>
  cases (show u=Value.ref a from rx)
  obtain⟨_,_,_,p⟩:=(show ba X.prog X.w H s.heap a (.tup xs) from I.aH a _ ea);obtain⟨o,h1,h2,_⟩:=p;exact O9 W.kitx_tuple I.iz ⟨o,h1,h2⟩ e (λz=>nomatch z) h
 |@dK a kvs ea =>
  cases (show u=Value.ref a from rx)
  obtain⟨_,_,vs,_,p⟩:=(show ba X.prog X.w H s.heap a (.dK kvs) from I.aH a _ ea);obtain⟨o,es,ep,h1,h2,_⟩:=p;exact O9 W.kitx_dict I.iz ⟨o,h1,h2.1⟩ e (λz=>nomatch z) h
 |@dT a kvs ea =>
  cases (show u=Value.ref a from rx)
  obtain⟨_,_,xs,_,o,es,ep,h1,h2,_⟩:=(show ba X.prog X.w H s.heap a (.dT kvs) from I.aH a _ ea);exact O9 W.kitx_dict I.iz ⟨o,h1,h2.1⟩ e (λz=>nomatch z) h
 |@ins a C dx fs ea cl ha hn htk hm =>
  cases (show u=Value.ref a from rx)
  obtain⟨mA,O,_⟩:=lq I.aH ea;obtain⟨od,J,_⟩:=O.look;exact O9 (W.kitx_own (cl.get _) cl.hd ha hn htk hm) I.iz J e (λz=>nomatch z) h
end
structure bw (k:Nat) (A:Around):Prop where
 hd:A.handled=none
 dp:A.depth+3*k+5<recursionLimit
 un:A.units+16*k+200<cLine
 gd:A.guards=some []
def bw.mono{A:Around}(r:bw k A)(h:j<=k):bw j A:=⟨r.hd,by have:=r.dp;lia,by have:=r.un;lia,r.gd⟩
def bw.deeper{A:Around}(r:bw (k+1) A)(env:Env):bw k (A.deeper env):=
 ⟨r.hd,by have:=r.dp;show A.depth+1+3*k+5<_;lia,by have:=r.un;show A.units+3+16*k+200<_;lia,r.gd⟩
def bw.in1{A:Around}(r:bw (k+1) A):bw k A.in1:=
 ⟨r.hd,by have:=r.dp;show A.depth+3*k+5<_;lia,by have:=r.un;show A.units+1+16*k+200<_;lia,r.gd⟩
def uL{A:Around}{kw:List (Str×Value)}:(A.under (.builtin "type.__call__" ⟨.ref C::us,kw⟩)).depth=A.depth+1:=by
 first|rfl|simp[Around.under,Code.weight,Code.isCreation,Code.isGuard,Code.isCaller,Code.frames,Code.isFrame,guardIds]
def uf{A:Around}{kw:List (Str×Value)}:(A.under (.builtin "type.__call__" ⟨.ref C::us,kw⟩)).units=A.units+1:=by
 first|rfl|simp[Around.under,Code.cUnits,Code.frames,Code.isFrame]
def bw.make{A:Around}(r:bw (k+1) A)(C:Addr)(us:List Value)(kw:List (Str×Value)):bw k (A.under (.builtin "type.__call__" ⟨.ref C::us,kw⟩)):=
 ⟨r.hd,by have:=r.dp;rw[uL];lia,by have:=r.un;rw[uf];lia,by have h:=r.gd;first|exact h | (simp[Around.under,Code.guards,Code.isGuard,guardIds];exact h)⟩
def bw.depth{A:Around}(r:bw k A):A.depth<recursionLimit:=by have:=r.dp;lia
def bw.units{A:Around}(r:bw k A):A.units+64<cLine:=by have:=r.un;lia
def iA:TA:=λ_ H Q=>Q [] H
def iK(ta:TE)(tr:TA):TA:=λσ H Q=>ta σ H λx H1=>tr σ H1 λxs H2=>Q (x::xs) H2
section
variable {X:Cx} {e:Expr} {es:List Expr} {te:TE} {t:TA} {pos:Pos}
def BB:PA X [] iA:=λ_ _ _ _ H Q I h=>Calls.spliced_nil ⟨[],H,I,.nil,h⟩
def wc(ha:PE X e te)(hr:PA X es t)(hs:autoParam (starEach (e::es) X.env=(false,eval e X.env)::starEach es X.env) ℜ0):PA X (e::es) (iK te t):=by
 intro pos pins s σ H Q I h;rw[hs];show wpAny _ _ (spliced ((false,eval e X.env)::backTo pos (starEach es X.env))) _ _ s;refine Calls.spliced_cons (bJ (ha pins s σ H _ I h) λu s1 hq46=>?_);obtain⟨x,H1,I1,r1,q1⟩:=hq46;exact bJ (hr pos pins s1 σ H1 _ I1 q1) λus s2 ⟨xs,H2,I2,r2,q2⟩=>⟨x::xs,H2,I2,.cons r1 r2,q2⟩
def BS(t:TA):TE:=λσ H Q=>t σ H λxs H1=>xs.length<=sizeLine/\∀p,H1 p=none->Q (.ref p) (upd H1 p (.tup xs))
def CF(t:TA):TE:=λσ H Q=>t σ H λxs H1=>xs.length<=sizeLine/\∀p,H1 p=none->Q (.ref p) (upd H1 p (.lst xs))
def Iq{x1}(h:PA X es t):PE X (.Tuple es x1 pos) (BS t):=by
 intro pins s σ H Q I hq;refine wpAny_Tuple_spliced (bJ (h pos pins s σ H _ I hq) λus s1 ⟨xs,H1,I1,r,z,q⟩=>⟨by rw[<- r.length];exact z,?_⟩)
 have hf:H1 s1.heap.objs.size=none:=I1.aH.fresh (M8 _);refine⟨.ref s1.heap.objs.size,upd H1 s1.heap.objs.size (.tup xs),I1.laid (t':=s1.toks) (λb u e=>My _ e) (M8 _) ?_,rfl,q _ hf⟩;exact⟨z,us,r,⟨_,MM _ rfl,rfl,_,rfl,rfl⟩⟩
def HJ(h:PA X es t):PE X (.List es pos) (CF t):=by
 intro pins s σ H Q I hq;refine wpAny_List_spliced (bJ (h pos pins s σ H _ I hq) λus s1 ⟨xs,H1,I1,r,z,q⟩=>⟨by rw[<- r.length];exact z,?_⟩)
 have hf:H1 s1.heap.objs.size=none:=I1.aH.fresh (M8 _);refine⟨.ref s1.heap.objs.size,upd H1 s1.heap.objs.size (.lst xs),I1.laid (t':=s1.toks) (λb u e=>My _ e) (M8 _) ?_,rfl,q _ hf⟩;exact⟨z,us,0,r,MM _ rfl⟩
end
abbrev Sp:=List V->Hp->VK->XK->Prop
abbrev qe:=List Env->Hp->Shared->XK->Value->Shared->Prop
variable{CX:qe}
structure uS (P:Program) (w:World) (K:W.Frag) (mg:Str->Option Value) (base:Heap) (A:Around) (outer:List Env) (s:Shared) (H:Hp):Prop where
 frames:A.frames=some outer
 mod:Mod K mg base
 bs:∀b o,base.get? b=some o->s.heap.get? b=some o/\H b=none
 CG:base.objs.size<=s.heap.objs.size
 kW:s.heap.FunFrames base outer
 HN:∀b∈Cc outer,H b=none
 aH:j9 P w H s.heap
 bare:AllBare s.gens
 tabs:TabsOk K H
def CE(outer:List Env)(P:Program)(w:World)(H:Hp)(s:Shared)(Q:VK)(u:Value)(s':Shared):Prop:=
 ∃v H',s'.os=s.os/\AllBare s'.gens/\Un (Cc outer) [] H H' s.heap s'.heap/\j9 P w H' s'.heap/\RelV v u/\Q v H'
def CR(CX:qe)(outer:List Env)(P:Program)(w:World)(H:Hp)(s:Shared)(Q:VK)(E:XK)(r:Result)(s':Shared):Prop:=
 match r with
 |.ok (.ret u)=>CE outer P w H s Q u s'
 |.ok _=>False
 |.error e=>CX outer H s E e s'
structure aZ (P:Program) (w:World) (K:W.Frag) (mg:Str->Option Value) (base:Heap) (CX:qe) (k:Nat) (f:Addr) (fd:FuncData) (ps:List Str) (sp:Sp):Prop where
 len:∀vs H Q E,sp vs H Q E->vs.length=ps.length
 run:∀(A:Around) (outer:List Env) (s:Shared) (H:Hp) (args:Args) (us:List Value) (vs:List V) (Q:VK) (E:XK),bw k A->uS P w K mg base A outer s H->BindsTo s fd args (ps.zip us)->Vals vs us->sp vs H Q E ->
  codeAny (model P w) A (.call (.ref f) args) (CR CX outer P w H s Q E) s
def aZ.mono{P:Program}{f:Addr}{ps:List Str}{sp:Sp}(F:aZ P w K mg base CX j f fd ps sp)(h:j<=k):
  aZ P w K mg base CX k f fd ps sp:=⟨F.len,λA outer s H args us vs Q E hr=>F.run A outer s H args us vs Q E (hr.mono h)⟩
def uS.make{P:Program}{A:Around}(e:uS P w K mg base A outer s H)(C:Addr)(us:List Value)(kw:List (Str×Value)):
  uS P w K mg base (A.under (.builtin "type.__call__" ⟨.ref C::us,kw⟩)) outer s H:=⟨by first|exact e.frames | (simpa[Around.under,Code.envs,Code.isFrame,pushEnvs] using e.frames),e.mod,e.bs,e.CG,e.kW,e.HN,e.aH,e.bare,e.tabs⟩
section
variable {X:Cx} {pins:List (Addr×Obj)} {σ:St} {H:Hp} {s s':Shared}
def Inv.Kx(I:Inv X pins σ H s):uS X.prog X.w X.K X.mg X.base X.A X.stack s H:=
 ⟨I.ok.frames,I.ok.mod,I.bs,Mz I.ok.CG I.sz,I.stack,I.pX,I.aH,I.bare,I.ok.tabs.un I.base⟩
def Inv.after{Q:VK}(I:Inv X pins σ H s)(h:CE X.stack X.prog X.w H s Q u s'):EP X pins σ Q u s':=by
 obtain⟨v,H',os,bare,un,aH,r,q⟩:=h;obtain⟨hh,g,d,t,os'⟩:=s';obtain rfl:os'=s.os:=os;exact⟨v,H',I.call (h':=hh) (g':=g) (d':=d) (t':=t) (ch:=[]) un aH bare (λb z=>absurd z (by simp)),r,q⟩
end
def iE(sp:Sp)(dvs:List V)(E:XK)(t:TA):TE:=λσ H Q=>t σ H λvs H1=>sp (vs++dvs) H1 Q E
def nB(C:Addr)(m:Str)(sp:Sp)(dvs:List V)(E:XK)(ta:TE)(t:TA):TE:=λσ H Q=>ta σ H λx H1=>∃a dx fs,x=.ref a/\H1 a=some (.ins C dx fs)/\fs.lookup m=none /\
 t σ H1 λvs H2=>sp (x::(vs++dvs)) H2 Q E
def n8(C:Addr)(sp:Sp)(dvs:List V)(E:XK)(t:TA):TE:=λσ H Q=>t σ H λvs H1=>∀x dx,H1 x=none->H1 dx=none->dx≠x ->
 sp (.ref x::(vs++dvs)) (upd (upd H1 dx (.own x)) x (.ins C dx [])) (λv H2=>v=.aN/\Q (.ref x) H2) E
def Binds(K:W.Frag)(fd:FuncData)(ps:List Str)(ds:List Value):Prop:=
 ∀(s:Shared) (us:List Value),K.In s.heap->(us++ds).length=ps.length->BindsTo s fd ⟨us,[]⟩ (ps.zip (us++ds))
def Binds.all{ps:List Str}(h:∀us:List Value,us.length=ps.length->bindArgs fd ⟨us,[]⟩=pure (ps.zip us)):Binds K fd ps []:=λs us _ hl=>by
 rw[Nm] at hl ⊢;exact .of_eq (h us hl)
def Passes(CX:qe)(X:Cx)(E:XK):Prop:=∀(pins:List (Addr×Obj)) (σ:St) (H:Hp) (s:Shared) (e:Value) (s':Shared),Inv X pins σ H s->CX X.stack H s E e s'->X.xe e s'
section
variable {X:Cx} {CX:qe} {k:Nat} {f C:Addr} {fd:FuncData} {ps:List Str} {sp:Sp} {dvs:List V} {ds:List Value} {E:XK} {x m:Str} {p pos apos:Pos} {e o:Expr} {es:List Expr} {ta:TE} {t:TA}
def p5{pins:List (Addr×Obj)}{Q:VK}{vs:List V}(F:aZ X.prog X.w X.K X.mg X.base CX k f fd ps sp)(hr:bw k X.A)(hb:Binds X.K fd ps ds)(hd:Vals dvs ds)(hx:Passes CX X E)
  (I:Inv X pins σ H s) (r:Vals vs us) (h:sp (vs++dvs) H Q E):wpAny (model X.prog X.w) X.A (call (.ref f) us) (EP X pins σ Q) X.xe s:=by
 have r2:Vals (vs++dvs) (us++ds):=r.append hd;have hl:(us++ds).length=ps.length:=by rw[<- r2.length];exact F.len _ _ _ _ h
 refine wpAny_call (RK (F.run X.A X.stack s H ⟨us,[]⟩ (us++ds) (vs++dvs) Q E hr I.Kx (hb s us I.iz hl) r2 h) λr s' hq=>?_)
 cases r with
 |error e=>exact hx pins σ H s e s' I hq
 |ok fl =>
  cases fl with
  |ret u=>exact I.after hq
  |next=>exact False.elim hq
  |brk=>exact False.elim hq
  |cont=>exact False.elim hq
def Dq(F:aZ X.prog X.w X.K X.mg X.base CX k f fd ps sp)(hr:bw k X.A)(hg:Gl X x)(hm:X.mg x=some (.ref f))(hk:W.keepIn X.K (.ref f)=true)(hb:Binds X.K fd ps ds)(hd:Vals dvs ds)(hx:Passes CX X E)
  (ha:PA X (e::es) t) (hdb:autoParam ((x ==("__debug__":Str))=false) ℜ1) (he:autoParam (starEach (e::es) X.env=(false,eval e X.env)::starEach es X.env) ℜ0) (hpl:autoParam ((backTo pos (starEach es X.env)).any (·.1)=false) ℜ0) :
  PE X (.Call (.Name x p) (e::es) [] pos) (iE sp dvs E t):=by
 intro pins s σ H Q I h;refine Oi (j3 I hg hm ?_ hdb);refine RL (h₀:=X.base) I.ok.mod.K8 hk (bJ (ha pos pins s σ H _ I h) λus s1 ⟨vs,H1,I1,r,q⟩=>⟨I1.iz,?_⟩) he hpl;exact p5 F hr hb hd hx I1 r q
def zf(F:aZ X.prog X.w X.K X.mg X.base CX k f fd ps sp)(hr:bw k X.A)(hg:Gl X x)(hm:X.mg x=some (.ref f))(hk:W.keepIn X.K (.ref f)=true)(hb:Binds X.K fd ps ds)(hd:Vals dvs ds)(hx:Passes CX X E)
  (hdb:autoParam ((x ==("__debug__":Str))=false) ℜ1):PE X (.Call (.Name x p) [] [] pos) (iE sp dvs E iA):=by
 intro pins s σ H Q I h;refine Oi (j3 I hg hm ?_ hdb);exact RE I.iz hk (p5 (us:=[]) F hr hb hd hx I .nil h)
def DM{pl:Sem Bool}(he:PE X o ta)(c:gX X.K C)(hm:Meth X.K C m f)(F:aZ X.prog X.w X.K X.mg X.base CX k f fd ps sp)(hr:bw k X.A)(hb:Binds X.K fd ps ds)(hd:Vals dvs ds)(hx:Passes CX X E)(ha:PA X (e::es) t)
  (hst:autoParam (starEach (e::es) X.env=(false,eval e X.env)::starEach es X.env) ℜ0) (hpl:autoParam ((backTo pos (starEach es X.env)).any (·.1)=false) ℜ0)
  (ht:autoParam (eval (.Call (.Attribute o m apos) (e::es) [] pos) X.env=(do
   let ov <- eval o X.env
   standAt apos.atName
   let (f,first) <- holding [ov] (getMethod ov m pl)
   callWith pos f first (backTo pos (starEach (e::es) X.env)) (backToKw pos (keywordEach [] X.env)))) ℜ0) :
  PE X (.Call (.Attribute o m apos) (e::es) [] pos) (nB C m sp dvs E ta t):=by
 intro pins s σ H Q I h;refine W.methodCall_KW (pl:=pl) (bJ (he pins s σ H _ I h) λu s1 hq47=>?_) ht;obtain⟨x,H1,I1,rx,a,dx,fs,ex,ea,l,q⟩:=hq47;subst ex;obtain rfl:u=Value.ref a:=rx;refine lC I1 ea c hm l ?_;refine RL (first:=[.ref a]) (h₀:=X.base) I.ok.mod.K8 hm.kp (bJ (ha pos pins s1 σ H1 _ I1 q) λus s2 ⟨vs,H2,I2,r,q2⟩=>⟨I2.iz,?_⟩) hst hpl
 exact p5 (us:=.ref a::us) (vs:=.ref a::vs) F hr hb hd hx I2 (.cons rfl r) q2
def A0{pl:Sem Bool}(he:PE X o ta)(c:gX X.K C)(hm:Meth X.K C m f)(F:aZ X.prog X.w X.K X.mg X.base CX k f fd ps sp)(hr:bw k X.A)(hb:Binds X.K fd ps ds)(hd:Vals dvs ds)(hx:Passes CX X E)
  (ht:autoParam (eval (.Call (.Attribute o m apos) [] [] pos) X.env=(do
   let ov <- eval o X.env
   standAt apos.atName
   let (f,first) <- holding [ov] (getMethod ov m pl)
   callWith pos f first (backTo pos (starEach [] X.env)) (backToKw pos (keywordEach [] X.env)))) ℜ0) :
  PE X (.Call (.Attribute o m apos) [] [] pos) (nB C m sp dvs E ta iA):=by
 intro pins s σ H Q I h;refine W.methodCall_KW (pl:=pl) (bJ (he pins s σ H _ I h) λu s1 hq48=>?_) ht;obtain⟨x,H1,I1,rx,a,dx,fs,ex,ea,l,q⟩:=hq48;subst ex;obtain rfl:u=Value.ref a:=rx;refine lC I1 ea c hm l ?_;exact RE (first:=[.ref a]) I1.iz hm.kp (p5 (us:=[.ref a]) (vs:=[.ref a]) F hr hb hd hx I1 (.cons rfl .nil) q)
structure Mk (K:W.Frag) (C f:Addr):Prop where
 makes:W.makesIn K C=true
 init:W.findIn K (.ref C) "__init__"=some (some (.ref f))
 fn:W.isFn K (.ref f)=true
 kp:W.keepIn K (.ref C)=true
def qU{pins:List (Addr×Obj)}{Q:VK}{vs:List V}(M:Mk X.K C f)(F:aZ X.prog X.w X.K X.mg X.base CX k f fd ps sp)(hr:bw (k+1) X.A)(hb:Binds X.K fd ps ds)(hd:Vals dvs ds)
  (hx:Passes CX X E) (I:Inv X pins σ H s) (r:Vals vs us)
  (h:∀x dx,H x=none->H dx=none->dx≠x->sp (.ref x::(vs++dvs)) (upd (upd H dx (.own x)) x (.ins C dx [])) (λv H2=>v=.aN/\Q (.ref x) H2) E) :
  wpAny (model X.prog X.w) X.A (call (.ref C) us) (EP X pins σ Q) X.xe s:=by
 have hq:=h (s.heap.objs.size+1) s.heap.objs.size (I.aH.fresh (NX _)) (I.aH.fresh (M8 _)) (M_ (OA _));have I2:=Inv.made (C:=C) I;have r2:Vals (V.ref (s.heap.objs.size+1)::(vs++dvs)) (Value.ref (s.heap.objs.size+1)::(us++ds)):=.cons rfl (r.append hd);have hl:(Value.ref (s.heap.objs.size+1)::us++ds).length=ps.length:=by
  have e:=r2.length;rw[F.len _ _ _ _ hq] at e;exact e.symm
 refine wpAny_call (Cn (f:=f) I.iz M.makes M.init (Py.mp M.fn) (RK (F.run _ X.stack _ _ ⟨Value.ref (s.heap.objs.size+1)::us,[]⟩ (Value.ref (s.heap.objs.size+1)::(us++ds)) _ _ E (hr.make C us [])
  (I2.Kx.make C us []) (hb _ (Value.ref (s.heap.objs.size+1)::us) I2.iz hl) r2 hq) λr s' hq'=>?_))
 cases r with
 |error e=>exact hx pins σ _ _ e s' I2 hq'
 |ok fl =>
  cases fl with
  |ret u =>
   obtain⟨v,H',I3,rv,ev,q3⟩:=I2.after hq';subst ev;exact⟨rv,⟨V.ref (s.heap.objs.size+1),H',I3,rfl,q3⟩⟩
  |next=>exact False.elim hq'
  |brk=>exact False.elim hq'
  |cont=>exact False.elim hq'
def DK(M:Mk X.K C f)(F:aZ X.prog X.w X.K X.mg X.base CX k f fd ps sp)(hr:bw (k+1) X.A)(hg:Gl X x)(hm:X.mg x=some (.ref C))(hb:Binds X.K fd ps ds)(hd:Vals dvs ds)(hx:Passes CX X E)
  (ha:PA X (e::es) t) (hdb:autoParam ((x ==("__debug__":Str))=false) ℜ1) (he:autoParam (starEach (e::es) X.env=(false,eval e X.env)::starEach es X.env) ℜ0) (hpl:autoParam ((backTo pos (starEach es X.env)).any (·.1)=false) ℜ0) :
  PE X (.Call (.Name x p) (e::es) [] pos) (n8 C sp dvs E t):=by
 intro pins s σ H Q I h;refine Oi (j3 I hg hm ?_ hdb);refine RL (h₀:=X.base) I.ok.mod.K8 M.kp (bJ (ha pos pins s σ H _ I h) λus s1 ⟨vs,H1,I1,r,q⟩=>⟨I1.iz,?_⟩) he hpl;exact qU M F hr hb hd hx I1 r q
def Ca(M:Mk X.K C f)(F:aZ X.prog X.w X.K X.mg X.base CX k f fd ps sp)(hr:bw (k+1) X.A)(hg:Gl X x)(hm:X.mg x=some (.ref C))(hb:Binds X.K fd ps ds)(hd:Vals dvs ds)(hx:Passes CX X E)
  (hdb:autoParam ((x ==("__debug__":Str))=false) ℜ1):PE X (.Call (.Name x p) [] [] pos) (n8 C sp dvs E iA):=by
 intro pins s σ H Q I h;refine Oi (j3 I hg hm ?_ hdb);exact RE I.iz M.kp (qU (us:=[]) M F hr hb hd hx I .nil h)
end
def PK(X:Cx)(kws:List Keyword)(t:TA):Prop:=
 ∀(pos:Pos) (pins:List (Addr×Obj)) (s:Shared) (σ:St) (H:Hp) (Q:List V->Hp->Prop),Inv X pins σ H s->t σ H Q->wpAny (model X.prog X.w) X.A (evalAll ((backToKw pos (keywordEach kws X.env)).map (·.2))) (AP X pins σ Q) X.xe s
section
variable {X:Cx} {CX:qe} {k:Nat} {f C:Addr} {fd:FuncData} {ps ks:List Str} {sp:Sp} {E:XK} {x m:Str} {p pos apos kpos:Pos} {e o:Expr} {es:List Expr} {kws:List Keyword} {te ta:TE} {t tk:TA} {nm:Option Str}
def IG:PK X [] iA:=λ_ _ _ _ H Q I h=>wpAny_evalAll_nil ⟨[],H,I,.nil,h⟩
def Et(ha:PE X e te)(hr:PK X kws t):PK X (⟨nm,e,kpos⟩::kws) (iK te t):=by
 intro pos pins s σ H Q I h;show wpAny _ _ (evalAll ((do let v <- eval e X.env;standAt pos;pure v)::(backToKw pos (keywordEach kws X.env)).map (·.2))) _ _ s
 refine wpAny_evalAll_cons (Mv (bJ (ha pins s σ H _ I h) λu s1 ⟨x,H1,I1,r1,q1⟩=>Mv (Qx (ME ?_))));exact bJ (hr pos pins s1 σ H1 _ I1 q1) λus s2 ⟨xs,H2,I2,r2,q2⟩=>⟨x::xs,H2,I2,.cons r1 r2,q2⟩
variable {g:List Value->List Value->List Value} {gV:List V->List V->List V}
end
structure av (N P:List Str) (sc:Scope):Prop where
 kind:sc.kind=.function
 co:sc.isCoroutine=false
 gen:sc.isGenerator=false
 nd:N.Nodup
 pre:N.take P.length=P
 par:∀x∈P,sc.names.lookup x=some .local\/sc.names.lookup x=some .cell
 Jg:∀y∈sc.names,y.2≠.free
theorem oR{x:Str}:∀{binds:List (Str×Value)} {m:Str->Option Value},(∀v,(x,v)∉binds)->bindL kindOf binds m x=m x
 |[],_,_=>rfl
 | (n,v)::r,m,h=>by
  unfold bindL;rw[oR λw hw=>h w (MF _ hw)];split
  ·have:x≠n:=by rintro rfl;exact h v MK
   simp[this]
  ·rfl
theorem oE{x:Str}:∀{binds:List (Str×Value)} {m:Str->Option Value},(∀v,(x,v)∉binds)->bindC kindOf binds m x=m x
 |[],_,_=>rfl
 | (n,v)::r,m,h=>by
  unfold bindC;rw[oE λw hw=>h w (MF _ hw)];split
  ·rfl
  ·have:x≠n:=by rintro rfl;exact h v MK
   simp[this]
theorem pq{x:Str}{v:Value}:∀{P:List Str} {vs:List Value} {i:Nat} {m:Str->Option Value},P.Nodup->P[i]?=some x->vs[i]?=some v->kindOf x=some .local ->
  bindL kindOf (P.zip vs) m x=some v
 |[],_,_,_,_,h,_,_=>by simp at h
 |_::_,[],_,_,_,_,h,_=>by simp at h
 |p::P,w::vs,0,m,nd,h1,h2,hk=>by
  simp at h1 h2;subst h1;subst h2;show bindL kindOf ((p,w)::P.zip vs) m p=_;unfold bindL;rw[oR λv hv=>(N9.mp nd).1 (Ri hv).1,MD hk];simp
 |p::P,w::vs,i+1,m,nd,h1,h2,hk=>by
  show bindL kindOf ((p,w)::P.zip vs) m x=_;unfold bindL;exact pq (i:=i) (N9.mp nd).2 (by simpa using h1) (by simpa using h2) hk
theorem pj{x:Str}{v:Value}:∀{P:List Str} {vs:List Value} {i:Nat} {m:Str->Option Value},P.Nodup->P[i]?=some x->vs[i]?=some v->kindOf x≠some .local ->
  bindC kindOf (P.zip vs) m x=some v
 |[],_,_,_,_,h,_,_=>by simp at h
 |_::_,[],_,_,_,_,h,_=>by simp at h
 |p::P,w::vs,0,m,nd,h1,h2,hk=>by
  simp at h1 h2;subst h1;subst h2;show bindC kindOf ((p,w)::P.zip vs) m p=_;unfold bindC;rw[oE λv hv=>(N9.mp nd).1 (Ri hv).1,M4 hk];simp
 |p::P,w::vs,i+1,m,nd,h1,h2,hk=>by
  show bindC kindOf ((p,w)::P.zip vs) m x=_;unfold bindC;exact pj (i:=i) (N9.mp nd).2 (by simpa using h1) (by simpa using h2) hk
def start(N:List Str)(vs:List V):St:=vs.map some++List.replicate (N.length-vs.length) none
def kM(CX:qe)(P:Program)(w:World)(K:W.Frag)(mg:Str->Option Value)(base:Heap)(N:List Str)(qual:Str)(scope:Scope)(f:Addr)(cd:Value)(A:Around)(outer:List Env)(s:Shared)(H:Hp)(E:XK):Cx where
 prog:=P
 w:=w
 K:=K
 mg:=mg
 base:=base
 A:=A.deeper (envOfC qual scope s.heap.objs.size f cd)
 N:=N
 s₀:=s
 H₀:=H
 env:=envOfC qual scope s.heap.objs.size f cd
 outer:=outer
 stack:=envOfC qual scope s.heap.objs.size f cd::outer
 ex:=[]
 calm:=true
 fn:=λ_=>true
 pn:=[]
 xe:=λe s'=>wpAny (model P w) (A.deeper (envOfC qual scope s.heap.objs.size f cd)) (leaving (envOfC qual scope s.heap.objs.size f cd) e) (λ_ s''=>CX outer H s E e s'') (λe' s''=>CX outer H s E e' s'') s'
def rE{sc:Scope}{n:Nat}{x:Str}(h:sc.names.lookup x=some .cell):∃c,(cellsFrom n sc.names []).lookup x=some c:=by
 have q:=W.cellsFrom_some sc.names n [] (.inl h);exact QL.mp q
def yu{P:Program}{ps:List Str}{qual:Str}{f:Addr}{cd:Value}{A:Around}{s1:Shared}{E:XK}{vs:List V}
  (S:av N ps scope) (hd:A.handled=none) (e0:uS P w K mg base A outer s H) (hl:vs.length=ps.length) (r:Vals vs us)
  (x:InCallC s s.heap.objs.size (bindL (envOfC qual scope s.heap.objs.size f cd).kindOf (ps.zip us) λ_=>none) (cellsFrom (s.heap.objs.size+1) scope.names []) (bindC (envOfC qual scope s.heap.objs.size f cd).kindOf (ps.zip us) λ_=>none) s1) :
  Inv (kM CX P w K mg base N qual scope f cd A outer s H E) [] (start N vs) H s1:=by
 have hpl:ps.length<=N.length:=by have:=Nw List.length S.pre;rw[MB] at this;lia
 obtain⟨h1,tk,rfl,hk⟩:=x.done;have noA:∀b:Addr,b∉(kM CX P w K mg base N qual scope f cd A outer s H E).ex:=λb z=>absurd (show b∈([]:List Addr) from z) (by simp)
 refine⟨⟨e0.mod,S.kind,rfl,rfl,M8 _,λy z c h1 h2=>?_,λy hy=>?_,λy c _ h=>?_,λ_=>hd,Around.frames_deeper e0.frames,.inr ⟨rfl,rfl⟩,λb z=>absurd z (noA b),e0.bs,e0.CG,λb _ _=>noA b,λb z=>absurd z (noA b),e0.kW,e0.HN,e0.tabs⟩,
  rfl,e0.bare,Un.kept hk,⟨_,x.toInCall.ns,λi y v h1 h2 h3=>?_⟩,λy c h=>⟨_,x.cell y c h⟩,e0.aH.fresh (M8 _),λy c h=>?_,λp hp=>absurd (show p∈([]:List (Addr×Obj)) from hp) (by simp),e0.aH.kept hk,?_⟩
 ·exact name_of_addr x.apart (PySem.mem_of_lookup h1) (PySem.mem_of_lookup h2)
 ·have hy:scope.names.lookup y=some .cell\/scope.names.lookup y=some .free:=hy;rcases hy with hy|hy
  ·exact rE hy
  ·exact absurd rfl (S.Jg _ (PySem.mem_of_lookup hy))
 ·exact Oy (x.above y c (PySem.mem_of_lookup h))
 ·have hi:i<vs.length:=by
   unfold start at h2;by_cases hi:i<vs.length
   ·exact hi
   ·rw[MR (by simpa using hi)] at h2
    rw[Ra] at h2
    split at h2<;>cases h2
  have ha:vs[i]?=some v:=by
   unfold start at h2;rw[MU (by simpa using hi),M7] at h2
   cases e:vs[i]? with
   |none=>rw[e] at h2;cases h2
   |some a=>rw[e] at h2;cases h2;rfl
  obtain⟨u,hu,rv⟩:=r.get ha;have hp:ps[i]?=some y:=by
   rw[<- S.pre,Nx (by lia)];exact h1
  have ndP:ps.Nodup:=by rw[<- S.pre];exact S.nd.sublist (List.take_sublist _ _)
  refine⟨u,rv,?_⟩;rcases S.par y (N1 hp) with k|k
  ·exact .inl ⟨k,pq ndP hp hu k⟩
  ·obtain⟨c,e⟩:=rE (n:=s.heap.objs.size+1) k;refine .inr ⟨.inl k,c,e,?_⟩;have q:=x.cell y c e;rw[pj ndP hp hu (by show scope.names.lookup y≠_;rw[k];decide)] at q
   exact q
 ·exact e0.aH.fresh (Oy (x.above y c (PySem.mem_of_lookup h)))
 ·unfold start;show _=N.length;rw[Mx,Ms,MO];lia
def FN{P:Program}{f:Addr}{name qual:Str}{params:Arguments}{dV kV doc pm cdv ct oc:Value}{an od:Option Addr}
  {osl:Array (Option Value)} {ps:List Str} {sp:Sp} (lk:K.lookup f=some ⟨oc,od,.func (W.fnOf name qual params body scope dV kV doc pm an cdv ct),osl⟩) (kB:W.codeIn K cdv qual=true) (S:av N ps scope)
  (len:∀vs H Q E,sp vs H Q E->vs.length=ps.length)
  (hbody:∀(A:Around) (outer:List Env) (s:Shared) (H:Hp) (vs:List V) (Q:VK) (E:XK),bw k (A.deeper (envOfC qual scope s.heap.objs.size f cdv))->sp vs H Q E ->
   ∃t,vd (kM CX P w K mg base N qual scope f cdv A outer s H E) body t/\t {nx:=λ_ H'=>Q .aN H',rt:=Q} (start N vs) H) :
  aZ P w K mg base CX (k+1) f (W.fnOf name qual params body scope dV kV doc pm an cdv ct) ps sp:=by
 refine⟨len,λA outer s H args us vs Q E hr e0 hb r vS=>?_⟩;have hl:=len _ _ _ _ vS;have KX:K.In s.heap:=e0.mod.K8.keeps λb o e=>(e0.bs b o e).1;have lim:s.heap.NoLimit:=e0.mod.nolimit.keeps λb o e=>(e0.bs b o e).1;have hkind:∀y∈ps.zip us,scope.names.lookup y.1=some .local\/(scope.names.lookup y.1=some .cell/\((cellsFrom (s.heap.objs.size+1) scope.names []).lookup y.1).isSome=true):=λ⟨n,v⟩ hy=>by
  rcases S.par n (Ri hy).1 with q|q
  ·exact .inl q
  ·exact .inr ⟨q,W.cellsFrom_some _ _ _ (.inl q)⟩
 refine codeAny_call_function hr.depth (KX _ _ lk) rfl S.co S.gen rfl (W.codeRec_of KX kB) (hb _ _ _ _ ?_);refine wpAny_newFunctionEnv_cells S.kind hkind λenv he s1 x=>?_;subst he;refine⟨lim.keeps x.toInCall.keep,codeAny_func ?_⟩;obtain⟨t,ht,hq⟩:=hbody A outer s H vs Q E (hr.deeper _) vS;have I:Inv (kM CX P w K mg base N qual scope f cdv A outer s H E) [] (start N vs) H s1:=yu S hr.hd e0 hl r x;refine N8 (ht [] s1 (start N vs) H _ I hq) (λfl s' hs=>?_) λe s' hs=>hs;have fin:∀{σ':St} {H':Hp} {v:V} {u:Value},Inv (kM CX P w K mg base N qual scope f cdv A outer s H E) [] σ' H' s'->RelV v u->Q v H'->CE outer P w H s Q u s':=
  λ{σ' H' v u} J rv q=>⟨v,H',J.os,J.bare,J.base,J.aH,rv,q⟩
 cases fl with
 |ret u =>
  obtain⟨v,σ',H',J,rv,q⟩:=hs;exact fin J rv q
 |next =>
  obtain⟨σ',H',J,q⟩:=hs;exact fin (v:=V.aN) (u:=Value.none) J rfl q
 |brk =>
  obtain⟨_,_,_,q⟩:=hs;exact False.elim q
 |cont =>
  obtain⟨_,_,_,q⟩:=hs;exact False.elim q
section
variable {X:Cx} {x:Str} {p pos:Pos} {e:Expr} {es:List Expr} {t:TA} {id T:String} {r:List V->Hp->VK->Prop}
def yT(r:List V->Hp->VK->Prop)(t:TA):TE:=λσ H Q=>t σ H λvs H1=>r vs H1 Q
def Ce(hc:aX X (.builtin id) r)(hg:Gl X x)(hm:X.mg x=none)(hv:bootBuiltins x=some (.builtin id))(ha:PA X (e::es) t)(hn:autoParam (x≠"__name__") ℜ1)(hdb:autoParam ((x ==("__debug__":Str))=false) ℜ1)
  (he:autoParam (starEach (e::es) X.env=(false,eval e X.env)::starEach es X.env) ℜ0) (hpl:autoParam ((backTo pos (starEach es X.env)).any (·.1)=false) ℜ0):PE X (.Call (.Name x p) (e::es) [] pos) (yT r t):=by
 intro pins s σ H Q I h;refine Oi (fY I hg hm hv ?_ hn hdb);exact PyProof.Rows.callWith_builtin1 (bJ (ha pos pins s σ H _ I h) λus s1 ⟨vs,H1,I1,r1,q1⟩=>hc pins s1 σ H1 vs us Q I1 r1 q1) he hpl
def y9(hc:aX X (.type T) r)(hg:Gl X x)(hm:X.mg x=none)(hv:bootBuiltins x=some (.type T))(ha:PA X (e::es) t)(hn:autoParam (x≠"__name__") ℜ1)(hdb:autoParam ((x ==("__debug__":Str))=false) ℜ1)
  (he:autoParam (starEach (e::es) X.env=(false,eval e X.env)::starEach es X.env) ℜ0) (hpl:autoParam ((backTo pos (starEach es X.env)).any (·.1)=false) ℜ0):PE X (.Call (.Name x p) (e::es) [] pos) (yT r t):=by
 intro pins s σ H Q I h;refine Oi (fY I hg hm hv ?_ hn hdb);exact NJ (bJ (ha pos pins s σ H _ I h) λus s1 ⟨vs,H1,I1,r1,q1⟩=>hc pins s1 σ H1 vs us Q I1 r1 q1) he hpl
end
end L2
namespace HT
open PySem PyProof.Rows
section
variable {prog:Program} {w:World} {A:Around} {E:Value->Shared->Prop} {s:Shared}
def Ds{t b:Addr}{vs ws:List Value}{Q:Value->Shared->Prop}(ht:IsTup s.heap t vs.toArray)(hb:IsTup s.heap b ws.toArray)(hv:vs≠[])
  (h1:ws=[]->Q (.ref t) s) (h2:ws≠[]->Q (.ref s.heap.objs.size) {s with heap:=s.heap.push {cls:=.type "tuple",data:=.seq (vs++ws).toArray}})
  (hsz:vs.length+ws.length<=sizeLine):wpAny (model prog w) A (binaryOp .Add (.ref t) (.ref b)) Q E s:=by
 obtain⟨⟨cls,dd,data,sl⟩,ho,hc,n,hd⟩:=id ht;obtain⟨⟨cls2,dd2,data2,sl2⟩,ho2,hc2,n2,hd2⟩:=id hb;simp only at hc hd hc2 hd2;subst hc hd hc2 hd2;have e:vs.toArray++ws.toArray=(vs++ws).toArray:=by simp
 by_cases hw:ws=[]
 ·exact concat_meets ⟨_,ho,rfl⟩ ⟨_,ho2,rfl⟩ noFill_tuple_add seq_tuple_add PySem.F.slot_tuple_add PySem.F.entry_tuple_add (PySem.F.args_tuple_add_2 _ _)
   (tuple_addW1 t b vs.toArray ws.toArray n n2 dd dd2 sl sl2 (by simpa using hv) (by simp[hw])) ⟨ho,ho2,h1 hw⟩
 ·refine concat_meets ⟨_,ho,rfl⟩ ⟨_,ho2,rfl⟩ noFill_tuple_add seq_tuple_add PySem.F.slot_tuple_add PySem.F.entry_tuple_add (PySem.F.args_tuple_add_2 _ _)
   (tuple_addW2 t b vs.toArray ws.toArray n n2 dd dd2 sl sl2 (by simpa using hv) (by simpa using hw) (by rw[List.size_toArray,List.size_toArray];exact hsz)) ⟨ho,ho2,?_⟩
  rw[e];exact h2 hw
def bH(n d:Nat):Option Int->Nat
 |none=>d
 |some v=>if v<0 then (v+(n:Int)).toNat else min v.toNat n
def bW(n d:Nat):bH n d none=d:=rfl
def dn(n d k:Nat):bH n d (some (k:Int))=min k n:=by
 show (if (k:Int)<0 then ((k:Int)+(n:Int)).toNat else min (k:Int).toNat n)=min k n
 rw[if_neg (by lia),Int.toNat_natCast]
def uI(n d:Nat)(hd:d<=n)(o:Option Int):bH n d o<=n:=by
 cases o with
 |none=>exact hd
 |some v =>
  show (if v<0 then (v+(n:Int)).toNat else min v.toNat n)<=n
  by_cases hv:v<0
  ·rw[if_pos hv];lia
  ·rw[if_neg hv];exact Nat.min_le_right _ _
def xr(v:Int)(n d:Nat):(if v<0 then max (v+(n:Int)) 0 else min v (n:Int))=((bH n d (some v):Nat):Int):=by
 show (if v<0 then max (v+(n:Int)) 0 else min v (n:Int))=(((if v<0 then (v+(n:Int)).toNat else min v.toNat n):Nat):Int)
 by_cases hv:v<0
 ·simp only[if_pos hv];lia
 ·simp only[if_neg hv];lia
def uT(lo hi:Option Int)(n:Nat):Builtin.Slice.sliceAdjust lo hi 1 (n:Int)=(((bH n 0 lo:Nat):Int),((bH n n hi:Nat):Int)):=by
 have h1:¬ ((1:Int)<0):=by lia
 unfold Builtin.Slice.sliceAdjust;simp only[h1,if_false];refine Prod.ext ?_ ?_
 ·cases lo with
  |none=>rfl
  |some v=>exact xr v n 0
 ·cases hi with
  |none=>rfl
  |some v=>exact xr v n n
def tS(i j:Nat):Builtin.Slice.slicePlaces (i:Int) (j:Int) 1=j-i:=by
 unfold Builtin.Slice.slicePlaces;have h1:(1:Int) > 0:=by lia
 simp only[h1,if_true,Int.ediv_one]
 split<;>lia
def mm{v:Value}{o:Option Int}{Q:Option Int->Shared->Prop}(p:IsPart v o)(h:Q o s):wpAny (model prog w) A (Builtin.Slice.slicePartIndex v) Q E s:=by
 cases p with
 |none=>exact slicePart_none h
 |int i t=>exact slicePart_int h
def fV{sl:Addr}{vl vu:Value}{lo hi:Option Int}{n:Nat}{Q:Int×Int×Nat->Shared->Prop}(hs:s.heap.IsSliceOf sl vl vu .none)(pl:IsPart vl lo)(pu:IsPart vu hi)
  (h:Q (((bH n 0 lo:Nat):Int),1,bH n n hi-bH n 0 lo) s):wpAny (model prog w) A (Builtin.Slice.sliceApplied (.ref sl) (pure (n:Int))) Q E s:=by
 obtain⟨os,hos,hcs,hds⟩:=id hs;unfold Builtin.Slice.sliceApplied Builtin.Slice.sliceFields;refine wpAny_bind (wpAny_bind (wpAny_field hos hds (x:=vl) rfl (wpAny_bind (wpAny_field hos hds (x:=vu) rfl (wpAny_bind (wpAny_field hos hds (x:=.none) rfl (wpAny_pure ?_)))))));refine wpAny_bind (slicePart_none ?_);show wpAny _ _ (if ((1:Int) == 0)=true then _ else _) _ _ s
 rw[if_neg ⋯]
 refine wpAny_bind (mm pl (wpAny_bind (mm pu (wpAny_bind (wpAny_pure ?_)))));show wpAny _ _ (match Builtin.Slice.sliceAdjust lo hi 1 (n:Int) with | (lo,hi)=>pure (lo,(1:Int),Builtin.Slice.slicePlaces lo hi 1)) _ _ s
 rw[uT lo hi n];show wpAny _ _ (pure (((bH n 0 lo:Nat):Int),(1:Int),Builtin.Slice.slicePlaces ((bH n 0 lo:Nat):Int) ((bH n n hi:Nat):Int) 1)) _ _ s;rw[tS];exact wpAny_pure h
def C4(xs:Array Value)(i k:Nat):((List.range k).filterMap λ(m:Nat)=>xs[((i:Int)+(m:Int)*1).toNat]?).toArray=((xs.toList.drop i).take k).toArray:=by
 have e:(λ(m:Nat)=>xs[((i:Int)+(m:Int)*1).toNat]?)=λm=>xs[i+m]?:=by
  funext m
  have:((i:Int)+(m:Int)*1).toNat=i+m:=by lia
  rw[this]
 rw[e];have:=pick_run xs i k;rw[List.filterMap_map] at this;have e2:((λx=>xs[x]?) ∘ λx=>i+x)=λm=>xs[i+m]?:=rfl;rw[e2] at this;rw[this]
def jf{t sl:Addr}{items:Array Value}{vl vu:Value}{lo hi:Option Int}{Q:Value->Shared->Prop}(ht:IsTup s.heap t items)(hs:s.heap.IsSliceOf sl vl vu .none)(pl:IsPart vl lo)(pu:IsPart vu hi)
  (hw:¬ (bH items.size 0 lo=0/\bH items.size items.size hi=items.size))
  (h:Q (.ref s.heap.objs.size) {s with heap:=s.heap.push {cls:=.type "tuple",data:=.seq ((items.toList.drop (bH items.size 0 lo)).take (bH items.size items.size hi-bH items.size 0 lo)).toArray}})
  (hsz:items.size<=sizeLine):wpAny (model prog w) A (getItem (.ref t) (.ref sl)) Q E s:=by
 have htake:sizeOk (.seq ((items.toList.drop (bH items.size 0 lo)).take (bH items.size items.size hi-bH items.size 0 lo)).toArray):=by
  show ((items.toList.drop (bH items.size 0 lo)).take (bH items.size items.size hi-bH items.size 0 lo)).toArray.size<=sizeLine;rw[List.size_toArray,List.length_take,List.length_drop,Array.length_toList];exact Nat.le_trans (Nat.min_le_right _ _) (Nat.le_trans (Nat.sub_le _ _) hsz)
 have hj:bH items.size items.size hi<=items.size:=uI _ _ (Nat.le_refl _) hi;obtain⟨os,hos,hcs,hds⟩:=id hs;have hTs:s.TypeIs (.ref sl) "slice":=⟨os,hos,hcs⟩;unfold getItem
 try with_reducible refine wpAny_holding ?_
 first|refine wpAny_bind (wpAny_pure ?_)|skip
 refine wpAny_bind (wpAny_sequenceKey ht.typeIs ⋯ ?_)
 refine wpAny_bind (wpAny_callSpecial?_slot (name:=Str.ofString "__getitem__") ht.typeIs PyProof.Rows.slot_tuple_getitem
  (wpAny_call_entry PyProof.Rows.slot_tuple_getitem ht.typeIs entry_tuple_getitem ?_ (args_tuple_getitem _ _)))
 show wpAny _ _ (Builtin.Tuple.tupleItemsOf (.ref t) >>= _) _ _ s;refine wpAny_bind (tupleItemsOf_ ht ?_);refine wpAny_bind (wpAny_typeOf hTs ?_);rw[if_pos ⋯]
 refine wpAny_bind (fV hs pl pu ?_);have hno:¬ ((((bH items.size 0 lo:Nat):Int) == 0 && (1:Int) == 1 && (bH items.size items.size hi-bH items.size 0 lo) == items.size)=true):=by
  intro q;rw[Bool.and_eq_true,Bool.and_eq_true] at q;have q1:((bH items.size 0 lo:Nat):Int)=0:=eq_of_beq q.1.1;have q2:bH items.size items.size hi-bH items.size 0 lo=items.size:=eq_of_beq q.2;exact hw ⟨by lia,by lia⟩
 show wpAny _ _ (if (((bH items.size 0 lo:Nat):Int) == 0 && (1:Int) == 1 && (bH items.size items.size hi-bH items.size 0 lo) == items.size)=true then _ else _) _ _ s
 rw[if_neg hno,C4]
 first
  |exact wpAny_bind (m:=Builtin.Tuple.tupleExact _) (wpAny_newObj_type (wpAny_pure ⟨_,rfl,wpAny_pure h⟩) htake)
  |exact wpAny_bind (m:=Builtin.Tuple.tupleExact _) (wpAny_newObj_type (wpAny_bind (wpAny_pure (wpAny_pure ⟨_,rfl,wpAny_pure h⟩))) htake)
  |exact wpAny_bind (wpAny_bind (m:=Builtin.Tuple.tupleExact _) (wpAny_newObj_type (wpAny_pure (wpAny_pure ⟨_,rfl,wpAny_pure h⟩)) htake))
  |exact wpAny_bind (wpAny_bind (m:=Builtin.Tuple.tupleExact _) (wpAny_newObj_type (wpAny_pure ⟨_,rfl,wpAny_pure h⟩) htake))
end
end HT
namespace L2
open PySem PySem.Spec PyProof.Rows
variable{r:V->Option Int->Option Int->Hp->VK->Prop}{xs:List V}{its its' us:List Value}{α:Type}{σ:St}{H:Hp}{s:Shared}{y:V}{u:Value}{w:World}{Q:Value->Shared->Prop}
abbrev TO:=St->Hp->(Option Int->Hp->Prop)->Prop
def PO(X:Cx)(e:Option Expr)(t:TO):Prop:=
 ∀(pins:List (Addr×Obj)) (s:Shared) (σ:St) (H:Hp) (Q:Option Int->Hp->Prop),Inv X pins σ H s->t σ H Q ->
  wpAny (model X.prog X.w) X.A (evalPart e X.env) (λu s'=>∃o H',Inv X pins σ H' s'/\IsPart u o/\Q o H') X.xe s
def jm:TO:=λ_ H Q=>Q none H
def sI(t:TE):TO:=λσ H Q=>t σ H λx H1=>∃i,x=.int i/\Q (some i) H1
def intsAre_of{ns:List Int}:∀{us:List Value},Vals (ns.map V.int) us->IntsAre us ns:=by
 induction ns with
 |nil=>intro us r;rw[Oz] at r;cases r;exact .nil
 |cons n ns ih =>
  intro us r;rw[Nb] at r
  cases r with
  |cons r1 r2 =>
   obtain⟨t,e⟩:=r1;subst e;exact .cons n t (ih r2)
section
variable {X:Cx} {e:Expr} {te:TE} {lo hi:Option Expr} {tl th:TO} {pos p2:Pos}
def Ek:PO X none jm:=by
 intro pins s σ H Q I h;rw[evalPart_none];exact ME ⟨none,H,I,.none,h⟩
def Ey(h:PE X e te):PO X (some e) (sI te):=by
 intro pins s σ H Q I hw;rw[evalPart_some];refine bJ (h pins s σ H _ I hw) λu s1 hq50=>?_;obtain⟨x,H1,I1,r1,q1⟩:=hq50;obtain⟨i,rfl,q⟩:=q1;obtain⟨t,rfl⟩:=r1;exact⟨some i,H1,I1,.int i t,q⟩
def vT(X:Cx)(r:V->Option Int->Option Int->Hp->VK->Prop):Prop:=
 ∀(pins:List (Addr×Obj)) (s:Shared) (σ:St) (H:Hp) (x:V) (v vl vu:Value) (lo hi:Option Int) (sl:Addr) (Q:VK),Inv X pins σ H s->RelV x v->s.heap.IsSliceOf sl vl vu .none->IsPart vl lo->IsPart vu hi->r x lo hi H Q ->
  ∃T id,typeLookup (.type T) "__getitem__"=pure (some (.builtin id))/\s.TypeIs v T/\wpAny (model X.prog X.w) X.A (getItem v (.ref sl)) (EP X pins σ Q) X.xe s
def vT.or{r':V->Option Int->Option Int->Hp->VK->Prop}(h:vT X r)(h':vT X r'):vT X (λx lo hi H Q=>r x lo hi H Q\/r' x lo hi H Q):=by
 intro pins s σ H x v vl vu lo hi sl Q I rx hs pl pu q;rcases q with q|q
 ·exact h pins s σ H x v vl vu lo hi sl Q I rx hs pl pu q
 ·exact h' pins s σ H x v vl vu lo hi sl Q I rx hs pl pu q
def Km(r:V->Option Int->Option Int->Hp->VK->Prop)(te:TE)(tl th:TO):TE:=λσ H Q=>te σ H λx H1=>tl σ H1 λl H2=>th σ H2 λu H3=>r x l u H3 Q
def BC(hr:vT X r)(he:PE X e te)(hl:PO X lo tl)(hu:PO X hi th):PE X (.Subscript e (.Slice lo hi none p2) pos) (Km r te tl th):=by
 intro pins s σ H Q I h;refine Subscript_ (bJ (he pins s σ H _ I h) λv s1 hq51=>?_);obtain⟨x,H1,I1,r1,q1⟩:=hq51;refine wpAny_Slice (bJ (hl pins s1 σ H1 _ I1 q1) λvl s2 ⟨l,H2,I2,pl,q2⟩=>bJ (hu pins s2 σ H2 _ I2 q2) λvu s3 hq52=>?_);obtain⟨u,H3,I3,pu,q3⟩:=hq52;rw[evalPart_none];refine ME ?_;have I4:Inv X pins σ H3 {s3 with heap:=s3.heap.push {cls:=.type "slice",data:=.fields #[vl,vu,.none]}}:=I3.kept (t':=s3.toks) λb ob q=>My _ q
 obtain⟨T,id,hT,ht,hg⟩:=hr pins {s3 with heap:=s3.heap.push {cls:=.type "slice",data:=.fields #[vl,vu,.none]}} σ H3 x v vl vu l u s3.heap.objs.size Q I4 r1 (Heap.IsSliceOf.new ..) pl pu q3
 show wpAny (model X.prog X.w) X.A (subscriptTail e (.Slice lo hi none p2) v (.ref s3.heap.objs.size)) (EP X pins σ Q) X.xe {s3 with heap:=s3.heap.push {cls:=.type "slice",data:=.fields #[vl,vu,.none]}}
 exact tail_any (ops:=[.ref s3.heap.objs.size,v]) ht hT hg (by with_unfolding_all rfl)
def cC(xs:List V)(lo hi:Option Int):List V:=(xs.drop (HT.bH xs.length 0 lo)).take (HT.bH xs.length xs.length hi-HT.bH xs.length 0 lo)
def kf(xs:List V)(lo hi:Option Int):(cC xs lo hi).length<=xs.length:=by
 unfold cC;rw[MB,Nk];exact Mz (Nat.min_le_right _ _) (Nat.sub_le _ _)
def vh(K:W.Frag):V->Option Int->Option Int->Hp->VK->Prop:=λx lo hi H Q=>∃a xs,x=.ref a/\aW K H a xs /\
 ¬ (HT.bH xs.length 0 lo=0/\HT.bH xs.length xs.length hi=xs.length)/\∀p,H p=none->Q (.ref p) (upd H p (.tup (cC xs lo hi)))
def vc:vT X (vh X.K):=by
 intro pins s σ H x v vl vu lo hi sl Q I rx hs pl pu h;obtain⟨a,xs,rfl,hx,hw,q⟩:=h;cases rx;obtain⟨its,r,ht,hz⟩:=I.tuple hx;have hlen:its.toArray.size=xs.length:=by rw[MC];exact r.length.symm
 refine⟨"tuple",_,Ol.lookup,ht.typeIs,?_⟩;refine HT.jf ht hs pl pu (by rw[hlen];exact hw) ?_ (by rw[hlen];exact hz)
 rw[hlen];refine⟨.ref s.heap.objs.size,_,I.laid (t':=s.toks) (o:=.tup (cC xs lo hi)) (λb ob q=>My _ q) (M8 _) ?_,rfl,q _ (I.aH.fresh (M8 _))⟩;exact⟨Mz (kf xs lo hi) hz,_,(r.drop (HT.bH xs.length 0 lo)).take (HT.bH xs.length xs.length hi-HT.bH xs.length 0 lo),eK.new _ _⟩
def Ka(K:W.Frag):R2:=λx y H Q=>∃a b xs ys,x=.ref a/\y=.ref b/\aW K H a xs/\aW K H b ys/\xs≠[]/\xs.length+ys.length<=sizeLine /\
 (ys=[]->Q (.ref a) H)/\(ys≠[]->∀p,H p=none->Q (.ref p) (upd H p (.tup (xs++ys))))
def Vals.pO(r:Vals xs us):us=[] ↔ xs=[]:=by
 cases r with
 |nil=>simp
 |cons _ _=>simp
def vE:cY X (binaryOp .Add) (Ka X.K):=by
 intro pins s σ H x y v u Q I rx ry h;obtain⟨a,b,xs,ys,rfl,rfl,ha,hb,hx,hz,q1,q2⟩:=h;cases rx;cases ry;obtain⟨its,r1,p1,_⟩:=I.tuple ha;obtain⟨its2,r2,p2,_⟩:=I.tuple hb;refine HT.Ds p1 p2 (λz=>hx (r1.pO.mp z)) (λz=>⟨.ref a,H,I,rfl,q1 (r2.pO.mp z)⟩) (λz=>?_) (by rw[<- r1.length,<- r2.length];exact hz)
 refine⟨.ref s.heap.objs.size,_,I.laid (t':=s.toks) (o:=.tup (xs++ys)) (λb ob q=>My _ q) (M8 _) ?_,rfl,q2 (λw=>z (r2.pO.mpr w)) _ (I.aH.fresh (M8 _))⟩;exact⟨by rw[Mx];exact hz,_,r1.append r2,eK.new _ _⟩
end
def jE(n:Nat)(i:Int):Option Nat:=if 0<=i then (if i<n then some i.toNat else none) else if -(n:Int)<=i then some (i+n).toNat else none
def bQ(xs:List α)(i:Int):Option α:=(jE xs.length i).bind λj=>xs[j]?
def wD{n:Nat}{i:Int}{j:Nat}(h:jE n i=some j):seqIndex? i n=some j/\j<n/\-(n:Int)<=i/\i<n:=by
 unfold jE at h;by_cases h0:0<=i
 ·rw[MD h0] at h;by_cases h1:i<n
  ·rw[MD h1] at h;have e:i.toNat=j:=Option.some.inj h;exact⟨by rw[seqIndex_of h0 h1,e],by lia,by lia,h1⟩
  ·rw[M4 h1] at h;cases h
 ·rw[M4 h0] at h;by_cases h1:-(n:Int)<=i
  ·rw[MD h1] at h;have e:(i+n).toNat=j:=Option.some.inj h;exact⟨by rw[RM (by lia) h1,e],by lia,h1,by lia⟩
  ·rw[M4 h1] at h;cases h
def pV{xs:List α}{i:Int}{v:α}(h:bQ xs i=some v):∃j,seqIndex? i xs.length=some j/\xs[j]?=some v/\j<xs.length/\-(xs.length:Int)<=i/\i<xs.length:=by
 unfold bQ at h
 cases e:jE xs.length i with
 |none=>rw[e] at h;cases h
 |some j =>
  rw[e] at h;obtain⟨h1,h2,h3,h4⟩:=wD e;exact⟨j,h1,h,h2,h3,h4⟩
def aV{xs:List α}{j:Nat}{v:α}(h:xs[j]?=some v):bQ xs (j:Int)=some v:=by
 have hj:j<xs.length:=(Mw.mp h).1;have e:jE xs.length (j:Int)=some j:=by
  unfold jE;rw[MD (by lia),MD (by lia)];simp
 unfold bQ;rw[e];exact h
def vR(b:Expr):Prop:=∀o i,subscripted b false o i=operate [o,i] (getItem o i)
def yc(X:Cx)(r:R2):Prop:=
 ∀(value slice:Expr) (pins:List (Addr×Obj)) (s:Shared) (σ:St) (H:Hp) (x y:V) (v u:Value) (Q:VK),Inv X pins σ H s->RelV x v->RelV y u->r x y H Q ->
  subscripted slice false v u=operate [v,u] (getItem v u)->wpAny (model X.prog X.w) X.A (subscriptTail value slice v u) (EP X pins σ Q) X.xe s
def uU(X:Cx)(id:String)(r:V->List V->Hp->VK->Prop):Prop:=
 ∀(pins:List (Addr×Obj)) (s:Shared) (σ:St) (H:Hp) (x:V) (xs:List V) (v:Value) (us:List Value) (Q:VK),Inv X pins σ H s->RelV x v->Vals xs us->r x xs H Q ->
  wpAny (model X.prog X.w) X.A (call (.builtin id) (v::us)) (EP X pins σ Q) X.xe s
section
variable {X:Cx} {a b:Expr} {ta tb:TE} {pos:Pos}
def yc.or{r r':R2}(h:yc X r)(h':yc X r'):yc X (λx y H Q=>r x y H Q\/r' x y H Q):=by
 intro value slice pins s σ H x y v u Q I rx ry q hs;rcases q with q|q
 ·exact h value slice pins s σ H x y v u Q I rx ry q hs
 ·exact h' value slice pins s σ H x y v u Q I rx ry q hs
def FG{r:R2}(hr:yc X r)(ha:PE X a ta)(hb:PE X b tb)(hs:vR b):PE X (.Subscript a b pos) (Bq r ta tb):=by
 intro pins s σ H Q I h;exact Subscript_ (Ja ha hb I h λv u s2 x y H2 I2 rx ry q=>hr a b pins s2 σ H2 x y v u Q I2 rx ry q (hs _ _))
def Ke(K:W.Frag):R2:=λx y H Q=>∃p xs i v,x=.ref p/\y=.int i/\aT K H p xs/\bQ xs i=some v/\Q v H
def IB(K:W.Frag):R2:=λx y H Q=>∃p xs i v,x=.ref p/\y=.int i/\aW K H p xs/\bQ xs i=some v/\Q v H
def K7:R2:=λx y H Q=>∃z i c,x=.str z/\y=.int i/\z.length<=sizeLine/\bQ z.cps.toList i=some c/\Q (.str ⟨#[c]⟩) H
def C_:yc X (Ke X.K):=by
 intro value slice pins s σ H x y v u Q I rx ry h hs;obtain⟨p,xs,i,z,rfl,rfl,hq,he,q⟩:=h;cases rx;obtain⟨t,rfl⟩:=ry;obtain⟨its,r,pl,hz⟩:=I.list hq;obtain⟨j,h1,h2,h3,h4,h5⟩:=pV he;obtain⟨w,ew,rw'⟩:=r.get h2;have hl:=r.length;have hn:=jB;have fin:EP X pins σ Q w s:=⟨z,H,I,rw',q⟩;by_cases h0:0<=i
 ·have hj:i.toNat=j:=by
   rw[seqIndex_of h0 h5] at h1;exact Option.some.inj h1
  exact item_listR pl.isList h0 (by lia) (by rw[hj];simpa using ew) fin hs
 ·have hj:(i+(its.toArray.size:Int)).toNat=j:=by
   rw[RM (by lia) h4] at h1
   rw[MC,<- hl];exact Option.some.inj h1
  exact subscriptTail_builtinR (x:=w) pl.isList.typeIs slot_list_getitem.lookup
   (wpAny_getItem_list_neg (Q:=λr s'=>r=w/\EP X pins σ Q r s') pl.isList (by lia) (by rw[MC]<;>lia) (by lia) (by rw[hj];simpa using ew) ⟨rfl,fin⟩) hs
def tU:yc X (IB X.K):=by
 intro value slice pins s σ H x y v u Q I rx ry h hs;obtain⟨p,xs,i,z,rfl,rfl,hq,he,q⟩:=h;cases rx;obtain⟨t,rfl⟩:=ry;obtain⟨its,r,pl,hz⟩:=I.tuple hq;obtain⟨j,h1,h2,h3,h4,h5⟩:=pV he;obtain⟨w,ew,rw'⟩:=r.get h2;have hl:=r.length;have hn:=jB;have fin:EP X pins σ Q w s:=⟨z,H,I,rw',q⟩;exact subscriptTail_builtinR (x:=w) pl.typeIs slot_tuple_getitem.lookup
  (getItem_tuple (j:=j) (Q:=λr s'=>r=w/\EP X pins σ Q r s') pl (by lia) (by lia) (by rw[MC,<- hl];exact h1) (by simpa using ew) ⟨rfl,fin⟩) hs
def HS:yc X K7:=by
 intro value slice pins s σ H x y v u Q I rx ry h hs;obtain⟨z,i,c,rfl,rfl,hz,he,q⟩:=h;obtain⟨t,rfl⟩:=rx;obtain⟨t',rfl⟩:=ry;obtain⟨j,h1,h2,h3,h4,h5⟩:=pV he;have hl:z.cps.toList.length=z.length:=by simp[Str.length]
 rw[hl] at h1 h4 h5;have hn:=jB;exact tail_any (PV s z t) slot_str_getitem.lookup (getItem_str (c:=c) (by
  have e1:decide (i < -(2^63:Int))=false:=MW (by lia)
  have e2:decide (i >= 2^63)=false:=MW (by lia)
  rw[e1,e2,Bool.or_false]) (by rw[h1];simpa using h2) ⟨.str ⟨#[c]⟩,H,I.tok _,⟨_,rfl⟩,q⟩) hs
def Mo(K:W.Frag):R2:=λx y H Q=>Ke K x y H Q\/IB K x y H Q\/K7 x y H Q
def Hn:yc X (Mo X.K):=C_.or (tU.or HS)
def uP(its:List Value)(n j:Nat)(u:Value):Obj.mapSeq (·.setIfInBounds j u) {cls:=.type "list",data:=.seq its.toArray n}={cls:=.type "list",data:=.seq (its.set j u).toArray n}:=by
 simp[Obj.mapSeq]
def Inv.lst{pins:List (Addr×Obj)}{p:Addr}(I:Inv X pins σ H s)(h:H p=some (.lst xs)):
  ∃(its:List Value) (n:Nat),Vals xs its/\s.heap.get? p=some {cls:=.type "list",data:=.seq its.toArray n}/\xs.length<=sizeLine:=by
 obtain⟨z,its,n,r,e⟩:=I.aH p _ h;exact⟨its,n,r,e,z⟩
def Inv.Jd{pins:List (Addr×Obj)}{p:Addr}{ys:List V}{n n':Nat}{f:Obj->Obj}(I:Inv X pins σ H s)(h:H p=some (.lst xs))
  (ho:s.heap.get? p=some {cls:=.type "list",data:=.seq its.toArray n}) (hf:f {cls:=.type "list",data:=.seq its.toArray n}={cls:=.type "list",data:=.seq its'.toArray n'}) (r:Vals ys its') (hz:ys.length<=sizeLine) (t:Nat) :
  Inv X pins σ (upd H p (.lst ys)) {s with heap:=s.heap.update p f,toks:=t}:=by
 have e:(s.heap.update p f).get? p=some {cls:=.type "list",data:=.seq its'.toArray n'}:=by
  rw[OY f ho (by rw[hf]<;>rfl),hf]
 refine I.write (x:=p) (e:=p) (by rw[h];trivial) (.inl rfl) (λb u hb q=>(P5 _ _ (MV hb)).trans q) ⟨_,e⟩ ?_
 exact⟨hz,its',n',r,e⟩
def Jz:V->V->V->Hp->(Hp->Prop)->Prop:=λo i v H Q=>∃p xs k j,o=.ref p/\i=.int k/\H p=some (.lst xs)/\jE xs.length k=some j/\Q (upd H p (.lst (xs.set j v)))
def set_list:Il X Jz:=by
 intro pins s σ H o i v ov iv u Q I ro ri rv h;obtain⟨p,xs,k,j,rfl,rfl,hp,hj,q⟩:=h;cases ro;obtain⟨t,rfl⟩:=ri;obtain⟨its,n,r,ho,hz⟩:=I.lst hp;obtain⟨h1,h2,h3,h4⟩:=wD hj;have hl:=r.length;have hn:=jB;have I':Inv X pins σ (upd H p (.lst (xs.set j v))) {s with heap:=s.heap.update p (Obj.mapSeq (·.setIfInBounds j u))}:=
  I.Jd hp ho (uP its n j u) (r.set rv j) (by rw[Oa];exact hz) s.toks
 by_cases h0:0<=k
 ·have hk:k.toNat=j:=by
   rw[seqIndex_of h0 h4] at h1;exact Option.some.inj h1
  exact W.ki_setAt ho h0 (by lia) (by rw[MC,<- hl];exact h4) (by rw[hk];exact⟨_,I',q⟩)
 ·have hk:(k+(its.toArray.size:Int)).toNat=j:=by
   rw[RM (by lia) h3] at h1
   rw[MC,<- hl];exact Option.some.inj h1
  exact W.ki_setBack ho (by lia) (by rw[MC,<- hl];exact h3) (by lia) (by rw[hk];exact⟨_,I',q⟩)
def pU(lo hi:Option Int)(n:Nat):(sliceBounds lo hi none n).1=((HT.bH n 0 lo:Nat):Int)/\(sliceBounds lo hi none n).2.1=((HT.bH n n hi:Nat):Int)/\(sliceBounds lo hi none n).2.2=1:=by
 refine⟨?_,?_,rfl⟩
 ·cases lo with
  |none=>simp[sliceBounds,HT.bH]
  |some i =>
   simp only[sliceBounds,HT.bH,Option.getD_none,show (1:Int) > 0 by decide,OZ]
   by_cases h:i<0
   ·simp only[h,OZ]<;>lia
   ·simp only[h,O3]<;>lia
 ·cases hi with
  |none=>simp[sliceBounds,HT.bH]
  |some i =>
   simp only[sliceBounds,HT.bH,Option.getD_none,show (1:Int) > 0 by decide,OZ]
   by_cases h:i<0
   ·simp only[h,OZ]<;>lia
   ·simp only[h,O3]<;>lia
def n_(its:List Value)(lo hi:Option Int):slicePick its.toArray lo hi none=((its.drop (HT.bH its.length 0 lo)).take (HT.bH its.length its.length hi-HT.bH its.length 0 lo)).toArray:=by
 obtain⟨h1,h2,h3⟩:=pU lo hi its.toArray.size;unfold slicePick;rw[h1,h2,h3];simp only[sliceRange_one,pick_run,MC]<;>rfl
def IQ(K:W.Frag):V->Option Int->Option Int->Hp->VK->Prop:=λx lo hi H Q=>∃a xs,x=.ref a/\aT K H a xs/\∀p,H p=none->Q (.ref p) (upd H p (.lst (cC xs lo hi)))
def qA:vT X (IQ X.K):=by
 intro pins s σ H x v vl vu lo hi sl Q I rx hs pl pu h;obtain⟨a,xs,rfl,hx,q⟩:=h;cases rx;obtain⟨its,r,ht,hz⟩:=I.list hx;have hlen:=r.length;refine⟨"list",_,slot_list_getitem.lookup,ht.isList.typeIs,?_⟩;refine wpAny_getItem_list_slice ht.isList hs pl pu .none (by simp) ?_ (by rw[MC]<;>lia)
 rw[n_,<- hlen];refine⟨.ref s.heap.objs.size,_,I.laid (t':=s.toks) (o:=.lst (cC xs lo hi)) (λb ob q=>My _ q) (M8 _) ?_,rfl,q _ (I.aH.fresh (M8 _))⟩;exact⟨Mz (kf xs lo hi) hz,_,0,(r.drop (HT.bH xs.length 0 lo)).take (HT.bH xs.length xs.length hi-HT.bH xs.length 0 lo),MM _ rfl⟩
def cw:V->Bool
 |.aN=>true
 |.bl _=>true
 |.int _=>true
 |.str _=>true
 |_=>false
def yW:V->V->Bool
 |.aN,.aN=>true
 |.bl a,.bl b=>a == b
 |.bl a,.int b=>(if a then 1 else 0) == b
 |.int a,.bl b=>a ==(if b then 1 else 0)
 |.int a,.int b=>a == b
 |.str a,.str b=>a == b
 |_,_=>false
def um{A:Around}{x:V}{v:Value}(ry:RelV y u)(rx:RelV x v)(fy:cw y=true)(fx:cw x=true):SeqAt.EqAt A s u v (yW y x):=by
 cases y with
 |aN =>
  cases ry
  cases x with
  |aN=>cases rx;exact SeqAt.EqAt.same _
  |bl b=>cases rx;exact SeqAt.EqAt.none_bool b
  |int b=>obtain⟨t,rfl⟩:=rx;exact SeqAt.EqAt.none_int b t
  |str b=>obtain⟨t,rfl⟩:=rx;exact SeqAt.EqAt.none_str b t
  |_=>exact absurd (show false=true from fx) ML
 |bl a =>
  cases ry
  cases x with
  |aN=>cases rx;exact SeqAt.EqAt.bool_none a
  |bl b=>cases rx;exact SeqAt.EqAt.bool_bool a b
  |int b=>obtain⟨t,rfl⟩:=rx;exact SeqAt.EqAt.bool_int a b t
  |str b=>obtain⟨t,rfl⟩:=rx;exact SeqAt.EqAt.bool_str a b t
  |_=>exact absurd (show false=true from fx) ML
 |int a =>
  obtain⟨t',rfl⟩:=ry
  cases x with
  |aN=>cases rx;exact SeqAt.EqAt.int_none a t'
  |bl b=>cases rx;exact SeqAt.EqAt.int_bool a t' b
  |int b=>obtain⟨t,rfl⟩:=rx;exact SeqAt.EqAt.int_int a t' b t
  |str b=>obtain⟨t,rfl⟩:=rx;exact SeqAt.EqAt.int_str a t' b t
  |_=>exact absurd (show false=true from fx) ML
 |str a =>
  obtain⟨t',rfl⟩:=ry
  cases x with
  |aN=>cases rx;exact SeqAt.EqAt.str_none a t'
  |bl b=>cases rx;exact SeqAt.EqAt.str_bool a t' b
  |int b=>obtain⟨t,rfl⟩:=rx;exact SeqAt.EqAt.str_int a t' b t
  |str b=>obtain⟨t,rfl⟩:=rx;exact SeqAt.EqAt.str_str a t' b t
  |_=>exact absurd (show false=true from fx) ML
 |_=>exact absurd (show false=true from fy) ML
def EL(x:V)(u:Value):Bool:=match u with
 |.none=>yW .aN x
 |.bool b=>yW (.bl b) x
 |.int i _=>yW (.int i) x
 |.str z _=>yW (.str z) x
 |_=>false
def zH{x:V}(r:RelV y u)(f:cw y=true):EL x u=yW y x:=by
 cases y with
 |aN=>cases r;rfl
 |bl b=>cases r;rfl
 |int i=>obtain⟨t,rfl⟩:=r;rfl
 |str z=>obtain⟨t,rfl⟩:=r;rfl
 |_=>exact absurd (show false=true from f) ML
theorem qi{x:V}:∀{xs:List V} {us:List Value},Vals xs us->xs.all cw=true->us.any (EL x)=xs.any λy=>yW y x
 |_,_,.nil,_=>rfl
 |y::xs,u::us,.cons r t,f=>by
  rw[NY,NB] at f;rw[OM,OM,zH r f.1,qi t f.2]
theorem mW{A:Around}{x:V}{v:Value}(rx:RelV x v)(fx:cw x=true):∀{xs:List V} {us:List Value},Vals xs us->xs.all cw=true->∀u∈us,SeqAt.EqAt A s u v (EL x u)
 |_,_,.nil,_=>λu hu=>by cases hu
 |y::xs,u::us,.cons r t,f=>λu' hu=>by
  rw[NY,NB] at f;rcases M0.mp hu with rfl|hu
  ·rw[zH r f.1];exact um r rx f.1 fx
  ·exact mW rx fx t f.2 u' hu
def jA(x:V)(xs:List V):Bool:=xs.any λy=>yW y x
def L6(K:W.Frag)(neg:Bool):R2:=λx y H Q=>∃p xs,y=.ref p/\(aT K H p xs\/aW K H p xs)/\cw x=true/\xs.all cw=true/\Q (.bl (if neg then !jA x xs else jA x xs)) H
def pe:cY X (compareOp .In) (L6 X.K false):=by
 intro pins s σ H x y v u Q I rx ry h;obtain⟨p,xs,rfl,hq,fx,fs,q⟩:=h;cases ry;rcases hq with hq|hq
 ·obtain⟨its,r,pl,hz⟩:=I.list hq;refine SeqAt.in_listAt (EL x) pl.isList (λw hw=>mW rx fx r fs w (by simpa using hw)) ⟨.bl _,H,I,rfl,?_⟩
  rw[show its.toArray.any (EL x)=its.any (EL x) by simp,qi r fs]
  exact q
 ·obtain⟨its,r,pl,hz⟩:=I.tuple hq;refine SeqAt.in_tupleAt (EL x) pl (λw hw=>mW rx fx r fs w (by simpa using hw)) ⟨.bl _,H,I,rfl,?_⟩
  rw[show its.toArray.any (EL x)=its.any (EL x) by simp,qi r fs]
  exact q
def aX.or{f:Value}{r r':List V->Hp->VK->Prop}(h:aX X f r)(h':aX X f r'):aX X f (λxs H Q=>r xs H Q\/r' xs H Q):=by
 intro pins s σ H xs us Q I rs q;rcases q with q|q
 ·exact h pins s σ H xs us Q I rs q
 ·exact h' pins s σ H xs us Q I rs q
def pS:aX X (.type "list") (λxs H Q=>∃p ys,xs=[.ref p]/\(aT X.K H p ys\/aW X.K H p ys)/\∀l,H l=none->Q (.ref l) (upd H l (.lst ys))):=by
 intro pins s σ H xs us Q I r h;obtain⟨p,ys,rfl,hq,q⟩:=h;obtain⟨u,rfl,rx⟩:=vals1 r;cases rx;have fin:∀(its:List Value),Vals ys its->ys.length<=sizeLine->∀(h':Heap) (c':Nat),(∀b o',s.heap.get? b=some o'->h'.get? b=some o') ->
   h'.get? s.heap.objs.size=some {cls:=.type "list",dict:=none,data:=.seq its.toArray c',slots:=#[]}->EP X pins σ Q (.ref s.heap.objs.size) {s with heap:=h'}:=λits r' hz h' c' kp e =>
  ⟨.ref s.heap.objs.size,_,I.laid (t':=s.toks) kp (M8 _) (show ba X.prog X.w _ h' _ (.lst ys) from⟨hz,its,c',r',e⟩),rfl,q _ (I.aH.fresh (M8 _))⟩
 rcases hq with hq|hq
 ·obtain⟨its,r',pl,hz⟩:=I.list hq;have hlen:=r'.length;obtain⟨o,ho,hc,n,hd⟩:=pl.isList;exact call_list_seq p (.inl rfl) ho hc hd (λh' c' kp e=>fin its r' hz h' c' kp e) (by simp only[MC]<;>lia)
 ·obtain⟨its,r',pl,hz⟩:=I.tuple hq;have hlen:=r'.length;obtain⟨o,ho,hc,n,hd⟩:=pl;exact call_list_seq p (.inr rfl) ho hc hd (λh' c' kp e=>fin its r' hz h' c' kp e) (by simp only[MC]<;>lia)
def fE:aX X (.type "tuple") (λxs H Q=>∃p ys,xs=[.ref p]/\((aT X.K H p ys/\∀l,H l=none->Q (.ref l) (upd H l (.tup ys)))\/(aW X.K H p ys/\Q (.ref p) H))):=by
 intro pins s σ H xs us Q I r h;obtain⟨p,ys,rfl,h⟩:=h;obtain⟨u,rfl,rx⟩:=vals1 r;cases rx;rcases h with ⟨hq,q⟩|⟨hq,q⟩
 ·obtain⟨its,r',pl,hz⟩:=I.list hq;have hlen:=r'.length;refine call_tuple_list pl.isList (λh' kp=>?_) (by simp only[MC]<;>lia)
  have I1:Inv X pins σ H {s with heap:=h'}:=I.kept (t':=s.toks) kp
  have I2:Inv X pins σ (upd H h'.objs.size (.tup ys)) {s with heap:=h'.push {cls:=.type "tuple",data:=.seq its.toArray}}:=
   I1.laid (t':=s.toks) (λb o e=>My _ e) (M8 _) (show ba X.prog X.w _ _ _ (.tup ys) from⟨hz,its,r',eK.new _ _⟩)
  exact⟨.ref h'.objs.size,_,I2,rfl,q _ (I1.aH.fresh (M8 _))⟩
 ·obtain⟨its,r',pl,hz⟩:=I.tuple hq;exact call_tuple_same pl ⟨.ref p,H,I,rfl,q⟩
def Jp(K:W.Frag)(T:String)(x:V)(H:Hp):Prop:=match x with
 |.str _=>T="str"
 |.int _=>T="int"
 |.ref p=>(T="list"/\∃xs,aT K H p xs)\/(T="tuple"/\∃o,K.lookup p=some o/\o.cls=.type "tuple"/\o.dict=none) \/
   (T="dict"/\((∃kvs,H p=some (.dK kvs))\/∃kvs,H p=some (.dT kvs)))\/(T="set"/\∃S n,H p=some (.set S n))
 |_=>False
def B8{pins:List (Addr×Obj)}{T:String}{x:V}{v:Value}(I:Inv X pins σ H s)(r:RelV x v)(ty:Jp X.K T x H):
  s.TypeIs v T/\∀a,v=.ref a->∃ob,s.heap.get? a=some ob/\ob.dict=none:=by
 cases x with
 |str z =>
  obtain⟨t,rfl⟩:=r
  cases (show T="str" from ty)
  exact⟨PV s z t,λ_ e=>nomatch e⟩
 |int i =>
  obtain⟨t,rfl⟩:=r
  cases (show T="int" from ty)
  exact⟨Q6 s i t,λ_ e=>nomatch e⟩
 |ref p =>
  cases r;rcases ty with ⟨rfl,xs,hq⟩|⟨rfl,o,hk,hc,hd⟩|⟨rfl,hk⟩|⟨rfl,S,n,hk⟩
  ·obtain⟨its,_,pl,_⟩:=I.list hq;refine⟨pl.isList.typeIs,λa e=>?_⟩;cases e;obtain⟨o,n,e,c,hd,_⟩:=pl;exact⟨o,e,hd⟩
  ·refine⟨⟨o,I.iz p o hk,hc⟩,λa e=>?_⟩;cases e;exact⟨o,I.iz _ o hk,hd⟩
  ·have z:∃o,s.heap.get? p=some o/\o.ExactDict:=by
    rcases hk with ⟨kvs,hk⟩|⟨kvs,hk⟩
    ·obtain⟨_,_,_,_,o,_,_,e,ex,_⟩:=I.aH p _ hk;exact⟨o,e,ex⟩
    ·obtain⟨_,_,_,_,o,_,_,e,ex,_⟩:=I.aH p _ hk;exact⟨o,e,ex⟩
   obtain⟨o,e,ex⟩:=z;refine⟨⟨o,e,ex.1⟩,λa e2=>?_⟩;cases e2;exact⟨o,e,ex.2.1⟩
  ·obtain⟨o,_,_,_,e,ex,_⟩:=I.aH p _ hk;refine⟨⟨o,e,ex.1⟩,λa e2=>?_⟩;cases e2;exact⟨o,e,ex.2.1⟩
 |_=>exact False.elim ty
def Bu(K:W.Frag)(T:String)(r:V->List V->Hp->VK->Prop)(to:TE):TE:=λσ H Q=>to σ H λx H1=>Jp K T x H1/\r x [] H1 Q
def Hc(K:W.Frag)(T:String)(r:V->List V->Hp->VK->Prop)(to:TE)(t:TA):TE:=λσ H Q=>to σ H λx H1=>Jp K T x H1/\t σ H1 λxs H2=>r x xs H2 Q
variable {o e:Expr} {es:List Expr} {to:TE} {t:TA} {name:Str} {apos cpos:Pos} {T id:String} {r:V->List V->Hp->VK->Prop}
def IX(pa:PlainAttrs T)(slot:Slot T name id)(hty:typeOf (.builtin id)=pure (.type "method_descriptor"))(hm:uU X id r)(ho:PE X o to)
  (hbase:autoParam (attributeBase o name X.env (eval o X.env)=eval o X.env) ℜ0) (hline:autoParam ((apos.endLine == cpos.line)=true) ℜ0):PE X (.Call (.Attribute o name apos) [] [] cpos) (Bu X.K T r to):=by
 intro pins s σ H Q I h;refine wpAny_Call_method0_late hbase hline (bJ (ho pins s σ H _ I h) λv s1 hq53=>?_);obtain⟨x,H1,I1,r1,ty,q1⟩:=hq53;obtain⟨h1,h2⟩:=B8 I1 r1 ty;exact⟨T,id,pa,slot,hty,h1,h2,P6 rfl (PySem.evalArgs_none (hm pins s1 σ H1 x [] v [] Q I1 r1 .nil q1))⟩
def K2(pa:PlainAttrs T)(slot:Slot T name id)(hty:typeOf (.builtin id)=pure (.type "method_descriptor"))(hm:uU X id r)(ho:PE X o to)(ha:PA X (e::es) t)
  (hbase:autoParam (attributeBase o name X.env (eval o X.env)=eval o X.env) ℜ0)
  (hfew:autoParam (((backTo cpos (starEach (e::es) X.env)).all (λx=>!x.1) && (backToKw cpos (keywordEach [] X.env)).all (λx=>x.1.isSome)
   && decide ((e::es).length+([]:List Keyword).length+(if ([]:List Keyword).isEmpty then 0 else 1)<30))=true) ℜ0)
  (hline:autoParam ((apos.endLine == cpos.line)=true) ℜ0) (hs:autoParam (starEach (e::es) X.env=(false,eval e X.env)::starEach es X.env) ℜ0) (hplain:autoParam ((backTo cpos (starEach es X.env)).any (·.1)=false) ℜ0) :
  PE X (.Call (.Attribute o name apos) (e::es) [] cpos) (Hc X.K T r to t):=by
 intro pins s σ H Q I h;refine wpAny_Call_method_late hbase hfew hline rfl (bJ (ho pins s σ H _ I h) λv s1 hq54=>?_);obtain⟨x,H1,I1,r1,ty,q1⟩:=hq54;obtain⟨h1,h2⟩:=B8 I1 r1 ty;refine⟨T,id,pa,slot,hty,h1,h2,?_⟩;have hA:=ha cpos pins s1 σ H1 _ I1 q1;rw[hs] at hA ⊢;refine P6 (by show (false || (backTo cpos (starEach es X.env)).any (·.1))=false;rw[hplain]<;>rfl) (Calls.evalArgs_plain ?_)
 exact bJ hA λus s2 ⟨vs,H2,I2,r2,q2⟩=>hm pins s2 σ H2 x vs v us Q I2 r1 r2 q2
/- xs.append(e),list.index on a module's tuple .. are uU facts of 06m -/
end
def KQ(X:Cx)(id:String)(r:V->List V->Hp->VK->Prop):Prop:=
 ∀(pins:List (Addr×Obj)) (s:Shared) (σ:St) (H:Hp) (x:V) (xs:List V) (v:Value) (us:List Value) (Q:VK),Inv X pins σ H s->RelV x v->Vals xs us->r x xs H Q ->
  wpAny (model X.prog X.w) X.A (call (.builtin id) (v::us)) (EP X pins σ Q) X.xe s
theorem Vals.one:∀{x:V} {us:List Value},Vals [x] us->∃u,us=[u]/\RelV x u
 |_,_,.cons r .nil=>⟨_,rfl,r⟩
theorem Vals.eraseIdx:∀{xs:List V} {us:List Value} (i:Nat),Vals xs us->Vals (xs.eraseIdx i) (us.eraseIdx i)
 |_,_,_,.nil=>.nil
 |_,_,0,.cons _ t=>t
 |_,_,i+1,.cons r t=>.cons r (Vals.eraseIdx i t)
theorem Vals.rep(h:Vals xs us):∀k:Nat,Vals (List.replicate k xs).flatten (List.replicate k us).flatten
 |0=>.nil
 |k+1=>by
  rw[Nz,Nz,OU,OU];exact Vals.append h (Vals.rep h k)
theorem ph:∀(l:List α) (i:Nat),(l.eraseIdx i).length<=l.length
 |[],_=>M8 _
 |_::_,0=>NX _
 |_::r,i+1=>Nat.succ_le_succ (ph r i)
theorem foldl_rep(its:List Value):∀(k:Nat) (acc:List Value),
  List.foldl (λx1 x2=>x1++x2) acc.toArray (List.replicate k its.toArray)=(acc++(List.replicate k its).flatten).toArray
 |0,acc=>by simp
 |k+1,acc=>by
  have e:acc.toArray++its.toArray=(acc++its).toArray:=by simp
  have e2:(acc++its)++(List.replicate k its).flatten=acc++(List.replicate (k+1) its).flatten:=by
   rw[Nz,OU,MX]
  rw[<- e2,<- foldl_rep its k (acc++its),<- e,Nz,List.foldl_cons]
section
variable {X:Cx} {pins:List (Addr×Obj)} {σ:St} {H:Hp} {s:Shared} {l b:Addr} {xs ys zs:List V}
def Inv.HA{n:Nat}{f:Array Value->Array Value}{t':Nat}(I:Inv X pins σ H s)(hH:H l=some (.lst xs))
  (e:s.heap.get? l=some {cls:=.type "list",data:=.seq its.toArray n}) (hf:f its.toArray=its'.toArray) (hv:Vals ys its') (hz:ys.length<=sizeLine) :
  Inv X pins σ (upd H l (.lst ys)) {s with heap:=s.heap.update l (Obj.mapSeq f),toks:=t'}:=by
 have q:=PySem.IsL.update e f;rw[hf] at q;refine I.write (x:=l) (e:=l) (by rw[hH];exact trivial) (.inl rfl) (λb' u hb hu=>(P5 s.heap (Obj.mapSeq f) (MV hb)).trans hu) ⟨_,q⟩ ?_
 exact⟨hz,its',_,hv,q⟩
def Inv.GC{t':Nat}(I:Inv X pins σ H s)(hv:Vals ys its)(hz:ys.length<=sizeLine):
  Inv X pins σ (upd H s.heap.objs.size (.lst ys)) {s with heap:=s.heap.push {cls:=.type "list",data:=.seq its.toArray},toks:=t'}:=
 I.laid (λ_ _ q=>My _ q) (M8 _) ⟨hz,its,0,hv,MM _ rfl⟩
def Inv.fresh(I:Inv X pins σ H s):H s.heap.objs.size=none:=I.aH.fresh (M8 _)
def Inv.tR(I:Inv X pins σ H s)(hH:H l=some (.lst xs)):xs.length<=sizeLine/\∃(its:List Value) (n:Nat),Vals xs its/\xs.length=its.length/\s.heap.get? l=some {cls:=.type "list",data:=.seq its.toArray n}:=by
 obtain⟨z,its,n,r,e⟩:=I.aH l _ hH;exact⟨z,its,n,r,r.length,e⟩
def Aq{n:Nat}(h:n<=sizeLine):Builtin.List.listTooLong n=false:=by
 unfold Builtin.List.listTooLong;exact MW (by lia)
end
section
variable {X:Cx}
def wU:V->List V->Hp->VK->Prop:=λx vs H Q=>∃l xs y,x=.ref l/\vs=[y]/\H l=some (.lst xs)/\xs.length<sizeLine/\Q .aN (upd H l (.lst (xs++[y])))
def oy:KQ X "list.append" wU:=by
 intro pins s σ H x vs v us Q I rx rv h;obtain⟨l,xs,y,rfl,rfl,hH,hz,q⟩:=h;cases rx;obtain⟨u,rfl,ru⟩:=rv.one;obtain⟨z,its,n,r,hl,e⟩:=I.tR hH;refine Om F.slot_list_append ⟨_,e,rfl⟩ F.entry_list_append (F.args_list_append_2 _ _) (PySem.list_append l its.toArray n u (by rw[MC];lia)) ⟨e,?_⟩
 refine⟨.aN,_,I.HA (its':=its++[u]) hH e (by simp) (r.append (.cons ru .nil)) ?_,rfl,q⟩
 rw[Mx,PM];lia
def G_:V->List V->Hp->VK->Prop:=λx vs H Q=>∃l xs i k y,x=.ref l/\vs=[.int i]/\H l=some (.lst xs)/\-(2^63)<=i/\i<2^63/\seqIndex? i xs.length=some k/\xs[k]?=some y/\Q y (upd H l (.lst (xs.eraseIdx k)))
def Bi:KQ X "list.pop" G_:=by
 intro pins s σ H x vs v us Q I rx rv h;obtain⟨l,xs,i,k,y,rfl,rfl,hH,h1,h2,hk,hy,q⟩:=h;cases rx;obtain⟨u,rfl,ru⟩:=rv.one;obtain⟨t,rfl⟩:=ru;obtain⟨z,its,n,r,hl,e⟩:=I.tR hH;obtain⟨w,hw,rw'⟩:=r.get hy;refine Om F.slot_list_pop ⟨_,e,rfl⟩ F.entry_list_pop (F.args_list_pop_2 _ _)
  (MeetsSeq.list_pop_at l its.toArray n i t k w (Rx h1 h2) (by rw[MC,<- hl];exact hk) (by rw[<- Nj];exact hw) (by rw[MC];lia)) ⟨e,?_⟩
 refine⟨y,_,I.HA (its':=its.eraseIdx k) hH e ?_ (r.eraseIdx k) ?_,rw',q⟩
 ·show its.toArray.eraseIdxIfInBounds k=(its.eraseIdx k).toArray;rw[List.eraseIdxIfInBounds_toArray]
 ·have:=ph xs k;lia
def KG:R2:=λx y H Q=>∃l b xs zs,x=.ref l/\y=.ref b/\H l=some (.lst xs)/\H b=some (.lst zs)/\xs.length+zs.length<=sizeLine/\∀p,H p=none->Q (.ref p) (upd H p (.lst (xs++zs)))
def C9:cY X (binaryOp .Add) KG:=by
 intro pins s σ H x y v u Q I rx ry h;obtain⟨l,b,xs,zs,rfl,rfl,hH,hB,hz,q⟩:=h;cases rx;cases ry;obtain⟨z,its,n,r,hl,e⟩:=I.tR hH;obtain⟨z2,its2,n2,r2,hl2,e2⟩:=I.tR hB;refine PySem.P.add_list e e2 ?_ (by rw[MC,MC];lia)
 have ea:its.toArray++its2.toArray=(its++its2).toArray:=by simp
 rw[ea];exact⟨.ref _,_,I.GC (t':=s.toks) (r.append r2) (by rw[Mx];lia),rfl,q _ I.fresh⟩
def JS:R2:=λx y H Q=>∃l k xs,x=.ref l/\y=.int k/\H l=some (.lst xs)/\-(2^63)<=k/\k<2^63/\xs.length*k.toNat<=sizeLine /\
 ∀p,H p=none->Q (.ref p) (upd H p (.lst (List.replicate k.toNat xs).flatten))
def len_rep(xs:List α)(k:Nat):(List.replicate k xs).flatten.length=k*xs.length:=by
 induction k with
 |zero=>simp
 |succ k ih=>rw[Nz,OU,Mx,ih,QM,Nat.add_comm]
def HH:cY X (binaryOp .Mult) JS:=by
 intro pins s σ H x y v u Q I rx ry h;obtain⟨l,k,xs,rfl,rfl,hH,h1,h2,hz,q⟩:=h;cases rx;obtain⟨t,rfl⟩:=ry;obtain⟨z,its,n,r,hl,e⟩:=I.tR hH;have hlen:its.toArray.size*k.toNat<=sizeLine:=by rw[MC,<- hl];exact hz
 have hcap:¬ its.toArray.size*k.toNat >(2^63-1) / 8:=by
  have:(sizeLine:Nat)<=(2^63-1) / 8:=by decide
  lia
 have hfit:¬ (!Builtin.List.listFitsIndex k)=true:=by
  rw[Rx h1 h2];exact ML
 have hlong:¬ Builtin.List.listTooLong (its.toArray.size*k.toNat)=true:=by
  rw[Aq hlen];exact ML
 have hnew:List.foldl (λx1 x2=>x1++x2) #[] (List.replicate (if its.toArray.isEmpty=true then 0 else k.toNat) its.toArray)=(List.replicate k.toNat its).flatten.toArray:=by
  have f0:∀m:Nat,List.foldl (λx1 x2=>x1++x2) #[] (List.replicate m its.toArray)=(List.replicate m its).flatten.toArray:=λm=>by
   have:=foldl_rep its m [];rw[Ob] at this;exact this
  rw[f0]
  cases its with
  |nil=>simp
  |cons a r'=>rw[M4 (by simp)]
 refine Q7 (T:="list") (U:="int") ⋯ ⟨_,e,rfl⟩ (λs'=>Q6 s' k t) noFill_list_mul F.fills_int_mul F.slot_int_rmul repeat_list F.slot_int_index.lookup
  (Om F.slot_int_rmul (Q6 s k t) F.entry_int_rmul (F.args_int_rmul_2 _ _) (int___rmul___int_list k t l its.toArray n)
   ⟨e,rfl,⟨_,e,rfl⟩,Om F.slot_list_mul ⟨_,e,rfl⟩ F.entry_list_mul (F.args_list_mul_2 _ _) (AutoListH.list___mul___list_int_3 l its.toArray n k t hfit hcap hlong) ⟨e,?_⟩⟩)
 rw[hnew];exact⟨.ref _,_,I.GC (t':=s.toks) (r.rep k.toNat) (by rw[len_rep,Nat.mul_comm];exact hz),rfl,q _ I.fresh⟩
end
section
variable {κ:Type} [DecidableEq κ]
def iR(kvs:List (κ×V))(k:κ):Option V:=(kvs.find? λkv=>decide (kv.1=k)).map (·.2)
def putK(kvs:List (κ×V))(k:κ)(v:V):List (κ×V):=
 if (kvs.any λkv=>decide (kv.1=k))=true then kvs.map (λkv=>if kv.1=k then (kv.1,v) else kv) else kvs++[(k,v)]
def mX{p:κ×V}{r:List (κ×V)}{k:κ}(e:p.1=k):iR (p::r) k=some p.2:=by simp[iR,O2,e]
def mQ{p:κ×V}{r:List (κ×V)}{k:κ}(e:¬ p.1=k):iR (p::r) k=iR r k:=by simp[iR,O2,e]
theorem ng(k:κ):∀kvs:List (κ×V),(kvs.any λkv=>decide (kv.1=k))=(iR kvs k).isSome
 |[]=>rfl
 |p::r=>by
  rw[OM];by_cases e:p.1=k
  ·simp only[mX e,Nq e,Bool.true_or,Option.isSome_some]
  ·rw[mQ e,MW e,Bool.false_or];exact ng k r
def rg(kvs:List (κ×V))(k:κ)(v:V):(putK kvs k v).length<=kvs.length+1:=by
 unfold putK;split
 ·rw[Ms];lia
 ·rw[Mx,MJ,N0];lia
def C3{kvs:List (κ×V)}{k:κ}(v:V)(h:iR kvs k=none):putK kvs k v=kvs++[(k,v)]:=by
 unfold putK;rw[ng,h];exact M4 ⋯
def KV.val{kvs:List (κ×V)}{vs:List (κ×Value)}(r:KV kvs vs)(k:κ):jy (iR kvs k) (valueAt vs k):=by
 unfold KV at r
 induction r with
 |nil=>exact True.intro
 |@cons p q ps qs h t ih =>
  obtain⟨h1,h2⟩:=h;by_cases e:p.1=k
  ·have e':q.1=k:=h1.symm.trans e;have b:valueAt (q::qs) k=some q.2:=by simp[valueAt,O2,e']
   rw[mX e,b];exact h2
  ·have e':¬ q.1=k:=λz=>e (h1.trans z);have b:valueAt (q::qs) k=valueAt qs k:=by simp[valueAt,O2,e']
   rw[mQ e,b];exact ih
def KV.any{kvs:List (κ×V)}{vs:List (κ×Value)}(r:KV kvs vs)(k:κ):(kvs.any λkv=>decide (kv.1=k))=vs.any λkv=>decide (kv.1=k):=by
 unfold KV at r
 induction r with
 |nil=>rfl
 |cons h t ih=>rw[OM,OM,ih,h.1]
def KV.Lj{kvs:List (κ×V)}{vs:List (κ×Value)}(r:KV kvs vs)(k:κ)(ry:RelV y u):
  KV (kvs.map λkv=>if kv.1=k then (kv.1,y) else kv) (vs.map λkv=>if kv.1=k then (kv.1,u) else kv):=by
 unfold KV at r ⊢
 induction r with
 |nil=>exact .nil
 |@cons p q ps qs h t ih =>
  rw[Nb,Nb];refine .cons ?_ ih;obtain⟨h1,h2⟩:=h;by_cases e:p.1=k
  ·rw[MD e,MD (h1.symm.trans e)];exact⟨h1,ry⟩
  ·rw[M4 e,M4 (λz=>e (h1.trans z))];exact⟨h1,h2⟩
def KV.put{kvs:List (κ×V)}{vs:List (κ×Value)}(r:KV kvs vs)(k:κ)(ry:RelV y u):KV (putK kvs k y) (stored vs k u):=by
 unfold putK stored;rw[r.any k];by_cases e:(vs.any λkv=>decide (kv.1=k))=true
 ·rw[MD e,MD e];exact r.Lj k ry
 ·rw[M4 e,M4 e];exact Paired.snoc r ⟨rfl,ry⟩
end
def BH{P:Program}{k:Key}(r:RelV (kV k) u):(cA P w).is k u=true:=by
 cases k with
 |inl i=>obtain⟨t,e⟩:=(show ∃t,u=Value.int i t from r);subst e;exact tF P w i t
 |inr x=>obtain⟨t,e⟩:=(show ∃t,u=Value.str x t from r);subst e;exact sY P w x t
theorem oa{P:Program}:∀{ks:List Key} {us:List Value},Vals (ks.map kV) us->ItemsAre (cA P w) ks us
 |[],_,r=>by rw[Oz] at r;cases r;exact .nil
 |k::ks,_,r=>by
  rw[Nb] at r
  cases r with
  |cons h t=>exact .cons (BH h) (oa t)
abbrev KT(H:Hp):List (List Key×V)->List (List Key×Addr×Value)->Prop:=Paired λp q=>p.1=q.1/\H q.2.1=some (.tup (p.1.map kV))/\RelV p.2 q.2.2
def KT.val{kvs:List (List Key×V)}{xs:List (List Key×Addr×Value)}(r:KT H kvs xs)(k:List Key):jy (iR kvs k) ((atKey xs k).map (·.2)):=by
 induction r with
 |nil=>exact True.intro
 |@cons p q ps qs h t ih =>
  obtain⟨h1,_,h2⟩:=h;by_cases e:p.1=k
  ·have e':q.1=k:=h1.symm.trans e;have b:atKey (q::qs) k=some q.2:=by simp[atKey,O2,e']
   rw[mX e,b];exact h2
  ·have e':¬ q.1=k:=λz=>e (h1.trans z);have b:atKey (q::qs) k=atKey qs k:=by simp[atKey,O2,e']
   rw[mQ e,b];exact ih
section
variable {P:Program} {w:World} {H:Hp} {h:Heap} {a:Addr}
def FK{u:HO}(ok:j9 P w H h)(e:Rd H a u):ba P w H h a u:=e.ok ok
def FL{kvs:List (Key×V)}(ok:j9 P w H h)(e:Rd H a (.dK kvs)):kvs.length<=sizeLine/\(a == sysModules)=false/\∃vs,KV kvs vs/\h.DictOf (cA P w) a vs:=
 show ba P w H h a (.dK kvs) from FK ok e
def zo{ks:List Key}(ok:j9 P w H h)(e:H a=some (.tup (ks.map kV))):(tupleKind (cA P w)).is h ks a:=by
 obtain⟨_,its,r,o,h1,h2,n,h3,_⟩:=(show ba P w H h a (.tup (ks.map kV)) from ok a _ e);exact⟨o,its.toArray,n,h1,h2,h3,by simpa using oa r⟩
def FE{kvs:List (List Key×V)}(ok:j9 P w H h)(e:Rd H a (.dT kvs)):kvs.length<=sizeLine/\(a == sysModules)=false /\
  ∃xs,KT H kvs xs/\h.DictOfH (tupleKind (cA P w)) a xs:=by
 obtain⟨z,y,xs,r,o,es,ep,h1,h2,h3,h4,h5⟩:=(show ba P w H h a (.dT kvs) from FK ok e);refine⟨z,y,xs,r,o,es,ep,h1,h2,h3,h4,λx hx=>?_,h5⟩;have all:∀{l:List (List Key×V)} {m:List (List Key×Addr×Value)},KT H l m->∀x∈m,(tupleKind (cA P w)).is h x.1 x.2.1:=by
  intro l m q
  induction q with
  |nil=>intro x hx;exact nomatch hx
  |@cons p q ps qs hq t ih =>
   intro x hx;rcases M0.mp hx with e|hx
   ·subst e;exact zo ok (by rw[<- hq.1];exact hq.2.1)
   ·exact ih x hx
 exact all r x hx
end
def Ez(H:Hp)(a:Addr)(y:V)(r:Option V):Prop:=
 (∃kvs k,Rd H a (.dK kvs)/\y=kV k/\r=iR kvs k)\/∃kvs k b,Rd H a (.dT kvs)/\y=.ref b/\H b=some (.tup (k.map kV))/\r=iR kvs k
def JP(H:Hp)(a:Addr)(y v:V)(H':Hp):Prop:=
 (∃kvs k,H a=some (.dK kvs)/\y=kV k/\kvs.length<sizeLine/\H'=upd H a (.dK (putK kvs k v))) \/
 ∃kvs k b,H a=some (.dT kvs)/\y=.ref b/\H b=some (.tup (k.map kV))/\kvs.length<sizeLine/\H'=upd H a (.dT (putK kvs k v))
section
variable {X:Cx} {pins:List (Addr×Obj)} {σ:St} {H:Hp} {s:Shared} {a:Addr} {y v:V} {u r:Value} {o:Option V} {A:Around} {E:Value->Shared->Prop}
def Inv.big(I:Inv X pins σ H s):sysModules<s.heap.objs.size:=by
 have h:mainGlobals<s.heap.objs.size:=(I.mod.glob.keeps I.bk).lt;exact PX ⋯ h
def y8(hu:A.units+1<cLine)(I:Inv X pins σ H s)(g:Ez H a y (some v))(ry:RelV y u)(h:∀w' s',Inv X pins σ H s'->RelV v w'->Q w' s'):
  wpAny (model X.prog X.w) A (getItem (.ref a) u) Q E s:=by
 rcases g with ⟨kvs,k,e,ey,l⟩|⟨kvs,k,b,e,ey,eb,l⟩
 ·subst ey;obtain⟨z,hd,vs,rel,dd⟩:=FL I.aH e;obtain⟨w',hw,rw'⟩:=jy.some_of (v:=v) (o:=valueAt vs k) (by rw[l];exact rel.val k)
  exact wpAny_getItem_of (BH ry) dd.mapOf hw (h w' _ (I.tok _) rw')
 ·subst ey
  cases (show u=Value.ref b from ry)
  obtain⟨z,hd,xs,rel,dd⟩:=FE I.aH e;obtain⟨w',hw,rw'⟩:=jy.some_of (v:=v) (o:=(atKey xs k).map (·.2)) (by rw[l];exact rel.val k)
  obtain⟨p,hp,hp2⟩:=MT.mp hw;refine wpAny_getItem_heap (tupleKind_room_in1 hu) (zo I.aH eb) dd hp ?_;rw[hp2];exact h w' _ (I.tok _) rw'
def HX{P:Program}{H':Hp}{h':Heap}{kvs:List (Key×V)}{vs:List (Key×Value)}(z:kvs.length<=sizeLine)(hd:(a == sysModules)=false)(rel:KV kvs vs)(dd:h'.DictOf (cA P w) a vs):
  ba P w H' h' a (.dK kvs):=⟨z,hd,vs,rel,dd⟩
end
def zw(i:Expr):Prop:=∀ov iv,subscripted i false ov iv=operate [ov,iv] (getItem ov iv)
def wX{prog:Program}{A:Around}{E:Value->Shared->Prop}{env:Env}{value slice:Expr}{pos:Pos}{T id:String}
  (hl:typeLookup (.type T) "__getitem__"=pure (some (.builtin id))) (hs:zw slice)
  (h:wpAny (model prog w) A (eval value env) (λo s₁=>wpAny (model prog w) A (eval slice env) (λi s₂=>s₂.TypeIs o T/\wpAny (model prog w) A (getItem o i) Q E s₂) E s₁) E s) :
  wpAny (model prog w) A (eval (.Subscript value slice pos) env) Q E s:=by
 refine Subscript_ (N8 h (λo s₁ h₁=>N8 h₁ (λi s₂ h₂=>?_) λ_ _ x=>x) λ_ _ x=>x);obtain⟨hT,h₂⟩:=h₂;unfold subscriptTail;refine Mv ?_;rw[getitemInPython_of_ne hT.not_modules];refine Mv (wpAny_specialOf hT hl ?_);have fin:wpAny (model prog w) A (subscripted slice false o i) (λr s₃=>wpAny (model prog w) A (letTemporaryGo value o r >>= λ_=>pure r) Q E s₃) E s₂:=by
  rw[hs o i];exact wpAny_operating (N8 h₂ (λr s₃ h₃=>Mv (wpAny_letTemporaryGo (ME h₃))) λ_ _ x=>x)
 first
  |exact ME (Mv fin)
  |exact Mv (ME (Mv fin))
  |exact Mv fin
def rO{X:Cx}{pins:List (Addr×Obj)}{a:Addr}{o:Option V}(I:Inv X pins σ H s)(g:Ez H a y o):s.TypeIs (.ref a) "dict":=by
 rcases g with ⟨kvs,k,e,_,_⟩|⟨kvs,k,b,e,_,_,_⟩
 ·obtain⟨_,_,vs,_,dd⟩:=FL I.aH e;exact dd.typeIs
 ·obtain⟨_,_,xs,_,dd⟩:=FE I.aH e;exact dd.typeIs
def r8(td ty:TE):TE:=λσ H Q=>td σ H λx H1=>ty σ H1 λy H2=>∃a v,x=.ref a/\Ez H2 a y (some v)/\Q v H2
def B0(td ty tv:TE):TS:=λD σ H=>tv σ H λv H1=>td σ H1 λx H2=>ty σ H2 λy H3=>∃a H4,x=.ref a/\JP H3 a y v H4/\D.nx σ H4
section
variable {X:Cx} {o i e value:Expr} {pos pos' tpos:Pos} {td ty tv:TE}
def DJ(hu:X.A.units+1<cLine)(ho:PE X o td)(hi:PE X i ty)(hs:zw i):PE X (.Subscript o i pos) (r8 td ty):=by
 intro pins s σ H Q I h;refine wX PySem.F.slot_dict_getitem.lookup hs (bJ (ho pins s σ H _ I h) λu s1 ⟨x,H1,I1,rx,q1⟩=>bJ (hi pins s1 σ H1 _ I1 q1) λiv s2 hq55=>?_);obtain⟨y,H2,I2,ry,a,v,ex,g,q2⟩:=hq55;subst ex;obtain rfl:u=Value.ref a:=rx;exact⟨rO I2 g,y8 hu I2 g ry λw' s3 I3 rw'=>⟨v,H2,I3,rw',q2⟩⟩
end
def h_(kvs more:List (Key×V)):List (Key×V):=more.foldl (λacc kv=>putK acc kv.1 kv.2) kvs
def KV.merge:∀{more:List (Key×V)} {rs:List (Key×Value)} {kvs:List (Key×V)} {vs:List (Key×Value)},KV more rs->KV kvs vs->KV (h_ kvs more) (merged vs rs):=by
 intro more rs kvs vs r;unfold KV at r
 induction r generalizing kvs vs with
 |nil=>intro q;exact q
 |@cons p q ps qs h t ih =>
  intro r0;have e:KV (putK kvs p.1 p.2) (stored vs q.1 q.2):=by
   have:=r0.put p.1 h.2;rw[<- h.1];exact this
  exact ih e
theorem iM:∀(more kvs:List (Key×V)),(h_ kvs more).length<=kvs.length+more.length
 |[],kvs=>by show kvs.length<=kvs.length+0;lia
 |p::r,kvs=>by
  have h1:=iM r (putK kvs p.1 p.2);have h2:=rg kvs p.1 p.2;show (h_ (putK kvs p.1 p.2) r).length<=_;rw[MJ];lia
structure M1 (X:Cx) (o:Expr) (m:Str) (apos:Pos) (e:Expr) (cpos:Pos):Prop where
 base:attributeBase o m X.env (eval o X.env)=eval o X.env
 Mh:((backTo cpos (starEach [e] X.env)).all (λx=>!x.1) && (backToKw cpos (keywordEach [] X.env)).all (λx=>x.1.isSome)
  && decide (([e]:List Expr).length+([]:List Keyword).length+(if ([]:List Keyword).isEmpty then 0 else 1)<30))=true
 line:(apos.endLine == cpos.line)=true
 trees:backTo cpos (starEach [e] X.env)=[(false,eval e X.env)]
end L2
namespace Att
open PySem PySem.W PySem.Calls PyProof.Rows
variable{l:OpenLaw}
def kN{P:Params}{h:Heap}:∀(ns:List Int) (vs:List Value),WellAll P h vs (ns.map WData.int)->IntsAre vs ns:=by
 intro ns
 induction ns with
 |nil =>
  intro vs w;rw[List.map_nil] at w;cases w;exact .nil
 |cons n ns ih =>
  intro vs w;rw[List.map_cons] at w
  cases w with
  |cons a b =>
   cases a;exact .cons _ _ (ih _ b)
def xU{n:Nat}(hn:l.most=some n){P:Params}{h:Heap}{args:List WData}{vals:List Value}
  (hpre:l.row.toRowW.claim.pre args=true) (hwl:WellAll P h vals args) :
  ∃a vs ns,vals=[Value.ref a]/\args=[WData.list (ns.map WData.int)]/\h.get? a=some {cls:=.type "list",data:=.seq vs.toArray}/\IntsAre vs ns/\ns.length<=n:=by
 have hsh:WShape.hasAll [] args [.list .int]=true:=(pre_splitW hpre).1;have hc:l.pre.holds [] {args:=args}=true:=(pre_splitW hpre).2;obtain⟨d,r,rfl,h1,h2⟩:=hasAllW_cons hsh;obtain rfl:=hasAllW_nil h2;obtain⟨xs,rfl,h3⟩:=hasW_list h1;obtain⟨ns,rfl⟩:=items_int h3;have hlen:ns.length<=n:=by
  unfold OpenLaw.pre at hc;have h4:(WTm.not (.lt (.lit (.int (n:Int))) (.len (.arg 0)))).holds [] {args:=[.list (ns.map .int)]}=true:=by
   have h4:=(holds_andW hc).1;rw[hn] at h4;exact h4
  have h5:=condW_of h4 (w_not (w_lt w_lit (w_len_list (w_arg rfl))));rw[List.length_map] at h5;refine Nat.le_of_not_lt λq=>?_;have q':(n:Int)<((ns.length:Nat):Int):=by lia
  first
   | (rw[decide_eq_true q'] at h5;exact absurd h5 ⋯)
   | (simp at h5;lia)
 cases hwl with
 |cons w1 w2 =>
  cases w2
  cases w1 with
  |list ho hall=>exact⟨_,_,ns,rfl,rfl,ho,kN ns _ hall,hlen⟩
def yF(l:OpenLaw)(args:List WData):l.row.toRowW.claim.post args (.bool true) args=true:=
 postW_of (r:=l.row.toRowW) (X:=(true == true))
  (show WShape.has [] (.bool true) .bool=true by first|rfl|decide|simp[WShape.has,WShape.arms,WShape.armsAll])
  (show (WTm.eq .res (.lit (.bool true))).value [] {args:=args,res:=some (.bool true),after:=args}=some (.bool (true == true)) from w_eq_bool (w_res rfl) w_lit) rfl
def sA{n:Nat}{q:Program}{loose:List Str}{XP:(Str->Option Value)->Heap->Prop}{YP:World->Heap->Prop}{d:DefRec}
  (hn:l.most=some n) (hdf:d.params.defaults=[])
  (call:∀(w:World) (s₀ s₁:Shared) (mg mb:Str->Option Value) (fa:Addr) (o:Obj) (pm cd doc:Value) (a:Addr) (vs:List Value) (ns:List Int),
   Ground q loose [] XP w s₀ mg mb s₁.heap->YP w s₁.heap ->
   s₁.heap.get? fa=some o->o.data=.func (docDef d.name d.params d.body d.scope pm cd doc)->s₁.heap.CodeRec cd d.name->mg d.name=some (.ref fa) ->
   s₁.heap.get? a=some {cls:=.type "list",data:=.seq vs.toArray}->IntsAre vs ns->ns.length<=n->s₁.gens=#[] ->
   codeAny (model l.prog w) callerA (.call (.ref fa) ⟨[.ref a],[]⟩) (λr s'=>r=.ok (.ret (.bool true))/\OldK s₁.heap s'.heap/\s'.os=s₁.os/\AllBare s'.gens) s₁) :
  WalkO q loose XP YP l.row.toRowW d [] (λf vs=>PySem.call f vs):=by
 intro w s₀ s₁ mg mb G Y fa o pm cd doc dV kV ho hd kB hD hmg hg args vals as hpre hlay hrd hwl hlo;obtain rfl:dV=.none:=Dflts.none hD hdf;obtain rfl:kV=.none:=Dflts.noKw hD;obtain⟨a,vs,ns,rfl,rfl,hobj,hints,hlen⟩:=xU hn hpre hwl;refine enter_call (codeAny_mono (call w s₀ s₁ mg mb fa o pm cd doc a vs ns G Y ho (fd_plain hd) kB hmg hobj hints hlen hg) λr s' hq=>?_);obtain⟨rfl,h2,h3,h4⟩:=hq;exact⟨.inl ⟨.bool true,.bool true,[],rfl,λ_=>rfl,.bool true,yF l _,λ_=>⟨List.Pairwise.nil,λ_ hm=>(nomatch hm)⟩⟩,h2,h3,h4⟩
end Att
namespace L2
open PySem PySem.Spec PyProof.Rows
variable{K:W.Frag}{N ON loose own:List Str}{mb mg:Str->Option Value}{h:Heap}{b c e elt iter tg:Expr}{o:HO}{w:World}{CX:qe}{i j k:Nat}{a f it l p:Addr}{fd:FuncData}{sp:Sp}{ns:List Int}{X:Cx}{qual:Str}{st:Stmt}{pos:Pos}{osc scope:Scope}{env:Env}{t:String}{α:Type}{s:Shared}{E Q:Value->Shared->Prop}{es ifs:List Expr}{g:TG}{tc:TT}{te tl:TE}{σ:St}{H H':Hp}{RR:Value->Addr->Result->Shared->Prop}{r:List V->Hp->VK->Prop}{xs:List V}{items:Array Value}{ex fp:List Addr}
theorem oi:∀{vs:List Value} {ns:List Int},IntsAre vs ns->Vals (ns.map V.int) vs
 |_,_,.nil=>.nil
 |_,_,.cons n t h=>.cons ⟨t,rfl⟩ (oi h)
structure jz (q:Program) (K:W.Frag):Prop where
 nt:W.noTabs K=true
 nd:((bU K).map (·.2.1)).Nodup
 fd:∀x∈dZ,W.tabIn K x=none\/((recsOf q).find? (λe=>e.name == x)).isSome=true
def jz.at{q:Program}{mean:ExcName->Option Value}(L:jz q K)(T:Top q loose mean mg mb h)(X:K.In h):∀t∈bU K,W.CodeHd h t.1 t.2.1/\h.get? t.2.1=some (W.tabObj #[]):=λt ht=>by
 unfold bU at ht;obtain⟨x,hx,e⟩:=Pr.mp ht;obtain⟨p,e1,e2⟩:=MT.mp e;obtain⟨c,Pt⟩:=p;subst e2;rcases L.fd x hx with z|z
 ·rw[z] at e1;cases e1
 ·obtain⟨d,hd⟩:=QL.mp z;exact W.tab_of T X hd e1
def qB:List (Addr×Addr×Str)->Addr->Option HO
 |[],_=>none
 |t::r,b=>if b=t.2.1 then some (.Cu #[.str t.2.2 0]) else qB r b
theorem i7{b:Addr}:∀{l:List (Addr×Addr×Str)},qB l b=some o->∃t∈l,b=t.2.1/\o=.Cu #[.str t.2.2 0]
 |t::r,e=>by
  unfold qB at e;by_cases z:b=t.2.1
  ·rw[MD z] at e;cases e;exact⟨t,.head _,z,rfl⟩
  ·rw[M4 z] at e;obtain⟨u,hu,q⟩:=i7 e;exact⟨u,.tail _ hu,q⟩
theorem sv{t:Addr×Addr×Str}:∀{l:List (Addr×Addr×Str)},(l.map (·.2.1)).Nodup->t∈l->qB l t.2.1=some (.Cu #[.str t.2.2 0])
 |u::r,nd,m=>by
  obtain⟨n1,n2⟩:=N9.mp nd;unfold qB;rcases M0.mp m with rfl|m
  ·rw[MD rfl]
  ·rw[M4 λz=>n1 (Nc.mpr ⟨t,m,z⟩)];exact sv n2 m
def Av{P q:Program}{fa:Addr}{x:Str}{s₁:Shared}{vs:List Value}
  (KX:K.In s₁.heap) (hns:s₁.heap.Ns mainGlobals mg) (hb:s₁.heap.Ns builtinsNs mb) (hbb:∀x:Str,x≠"__name__"->mb x=bootBuiltins x) (hlim:s₁.heap.NoLimit) (hbm:Ik mg s₁.heap)
  (hT:∀t∈bU K,W.CodeHd s₁.heap t.1 t.2.1/\s₁.heap.get? t.2.1=some (W.tabObj #[])) (L:jz q K) (hg:s₁.gens=#[])
  (ha:s₁.heap.get? a=some {cls:=.type "list",data:=.seq vs.toArray}) (hi:IntsAre vs ns) (hl:ns.length<=sizeLine) (hr:bw k callerA)
  (F:∀base:Heap,K.In base->base.Ns mainGlobals mg->aZ P w K mg base CX k fa fd [x] sp) (hbind:∀(s:Shared) (u:Value),BindsTo s fd ⟨[u],[]⟩ [(x,u)])
  (vS:∀H:Hp,True->aT K H a (ns.map V.int)->sp [.ref a] H (λv _=>v=.bl true) λ_ _ _=>False)
  (hCX:∀H e s',CX [] H s₁ (λ_ _ _=>False) e s'->False) :
  codeAny (model P w) callerA (.call (.ref fa) ⟨[.ref a],[]⟩) (λr s'=>r=.ok (.ret (.bool true))/\OldK s₁.heap s'.heap/\s'.os=s₁.os/\AllBare s'.gens) s₁:=by
 have rv:=oi hi;have lenV:=hi.length;have naT:∀t∈bU K,t.2.1≠a:=λt ht z=>by
  have e:=(hT t ht).2;rw[z,ha] at e;cases e
 let oS:Obj:={cls:=.type "list",data:=.seq vs.toArray}
 have core:∀S:Option HO,(S=none\/S=some (.jU oS (.lst (ns.map V.int))))->(S≠none->K.lookup a=none)->aT K (λb=>if b=a then S else qB (bU K) b) a (ns.map V.int) ->
   codeAny (model P w) callerA (.call (.ref fa) ⟨[.ref a],[]⟩) (λr s'=>r=.ok (.ret (.bool true))/\OldK s₁.heap s'.heap/\s'.os=s₁.os/\AllBare s'.gens) s₁:=by
  intro S hS hK hSq;generalize hH:(λb=>if b=a then S else qB (bU K) b)=H at hSq
  have hA:H a=S:=by rw[<- hH];exact MD rfl
  have hB:∀b,b≠a->H b=qB (bU K) b:=λb z=>by rw[<- hH];exact M4 z
  have free:∀{b:Addr} {o:Obj},s₁.heap.get? b=some o->o≠W.tabObj #[]->(b=a->S=none)->H b=none:=λ{b o} e hn hz=>by
   by_cases z:b=a
   ·rw[z,hA];exact hz z
   ·rw[hB b z]
    cases q:qB (bU K) b with
    |none=>rfl
    |some u =>
     obtain⟨t,ht,e1,_⟩:=i7 q;have e2:=(hT t ht).2;rw[<- e1,e] at e2;exact absurd (Option.some.inj e2) hn
  have nsK:∀{b:Addr} {m:Str->Option Value},s₁.heap.Ns b m->(nR s₁.heap H).Ns b m:=λ{b m} ⟨o,es,ep,e,d,r⟩=>⟨o,es,ep,js e (free e (λz=>by rw[z] at d;cases d) λz=>by rw[z,ha] at e;cases e;cases d),d,r⟩
  have hKb:K.In (nR s₁.heap H):=λb o e=>js (KX b o e) (free (KX b o e) (λz=>by
    have h2:=NU.mp L.nt (b,o) (W.mem_of_lookupK e);subst z;exact absurd (show false=true from h2) ML) λz=>by
    cases q:S with
    |none=>rfl
    |some u=>rw[z,hK (by rw[q];simp)] at e;cases e)
  have kB:∀t∈bU K,W.CodeHd (nR s₁.heap H) t.1 t.2.1:=λt ht=>by
   obtain⟨o,us,fl,tf,fg,tg,inF,tx,tt,e1,e2,r⟩:=(hT t ht).1;exact⟨o,us,fl,tf,fg,tg,inF,tx,tt,js e1 (free e1 (λz=>by rw[z] at e2;cases e2) λz=>by rw[z,ha] at e1;cases e1;exact absurd (Value.type.inj e2) ⋯),e2,r⟩
  have hbm':Ik mg (nR s₁.heap H):=by
   obtain⟨bm,ob,b1,b2,b3,b4,b5⟩:=hbm;exact⟨bm,ob,b1,b2,js b3 (free b3 (λz=>by rw[z] at b4;cases b4) λz=>by rw[z,ha] at b3;cases b3;exact absurd (Value.type.inj b4) ⋯),b4,b5⟩
  have aH:j9 P w H s₁.heap:=λb u e=>by
   by_cases z:b=a
   ·rw[z,hA] at e;rcases hS with h0|h0
    ·rw[h0] at e;cases e
    ·rw[h0] at e;cases e;subst z;exact⟨ha,by rw[Ms];exact hl,vs,_,rv,ha⟩
   ·rw[hB b z] at e;obtain⟨t,ht,e1,e2⟩:=i7 e;subst e2;exact⟨#[],by rw[e1];exact (hT t ht).2,trivial,λpos cv c=>by cases (show (none:Option Value)=some cv from c)⟩
  have hM:Mod K mg (nR s₁.heap H):=⟨hKb,nsK hns,⟨mb,nsK hb,hbb⟩,let ⟨mc,h1,h2⟩:=hlim;⟨mc,nsK h1,h2⟩,kB,hbm'⟩
  have e0:uS P w K mg (nR s₁.heap H) callerA [] s₁ H:=⟨rfl,hM,λb o e=>Di e,RJ (xQ _ _),trivial,λb hb=>absurd (show b∈([]:List Addr) from hb) (by simp),aH,.of_eq hg,λt ht=>⟨#[],by
   rw[hB _ (naT t ht),sv L.nd ht,Qo]⟩⟩
  refine RK ((F _ hKb (nsK hns)).run callerA [] s₁ H ⟨[.ref a],[]⟩ [.ref a] [.ref a] _ _ hr e0 (hbind s₁ (.ref a)) (.cons rfl .nil) (vS H trivial hSq)) λr s' h=>?_
  cases r with
  |error e=>exact (hCX H e s' h).elim
  |ok fl =>
   cases fl with
   |next=>exact False.elim h
   |brk=>exact False.elim h
   |cont=>exact False.elim h
   |ret u =>
    obtain⟨v,H',os,bare,un,hok',r',qv⟩:=h;have q':v=.bl true:=qv;subst q';obtain rfl:u=Value.bool true:=r';have each:∀b o,s₁.heap.get? b=some o->s'.heap.get? b=some o\/∃c,W.CodeHd s₁.heap c b/\o=W.tabObj #[]/\∃ps,s'.heap.get? b=some (W.tabObj ps):=λb o e=>by
     cases qb:H b with
     |none=>exact .inl (un.keep b o e qb (by intro z;exact absurd (show b∈([]:List Addr) from z) (by simp)) (by simp))
     |some u =>
      by_cases z:b=a
      ·rw[z,hA] at qb;rcases hS with h0|h0
       ·rw[h0] at qb;cases qb
       ·have z2:=un.pN a oS _ (by rw[hA,h0])
        obtain⟨e2,_⟩:=hok' a _ z2;rw[z,ha] at e;cases e;exact .inl (by rw[z];exact e2)
      ·have qt:=qb;rw[hB b z] at qt;obtain⟨t,ht,e1,e2⟩:=i7 qt;obtain⟨h1,h2⟩:=hT t ht;rw[<- e1] at h1 h2;rw[e] at h2;cases h2;subst e2;obtain⟨more,e3⟩:=un.nS b _ qb;obtain⟨qs,e4,_⟩:=hok' b _ e3;exact .inr ⟨_,h1,rfl,qs,e4⟩
    refine⟨rfl,⟨λb o e=>?_,λb o e=>?_⟩,os,bare⟩
    ·rcases each b o e with z|⟨c,hc,z,ps,hp⟩
     ·exact .inl z
     ·subst z;exact .inr (.inl ⟨(hc.tab e).isCodeTable,rfl,#[],ps,rfl,by rw[Array.empty_append];exact hp⟩)
    ·rcases each b o e with z|⟨c,hc,z,ps,hp⟩
     ·exact⟨o,z⟩
     ·exact⟨_,hp⟩
 cases hk:K.lookup a with
 |some o =>
  have e:=KX a o hk;rw[ha] at e;cases e;exact core none (.inl rfl) (λz=>absurd rfl z) (.inr ⟨_,vs.toArray,_,hk,rfl,rfl,rfl,by rw[MC,lenV];exact hl,by simpa using rv⟩)
 |none=>exact core (some (.jU oS (.lst (ns.map V.int)))) (.inr rfl) (λ_=>hk) (.inl (.inr ⟨oS,MD rfl⟩))
def Ee{l:W.OpenLaw}{n:Nat}{q:Program}{XP:(Str->Option Value)->Heap->Prop}{YP:World->Heap->Prop}{d:DefRec}{K:Params->W.Frag}{CX:World->qe}{sp:World->Sp}{x:Str}
  (hn:l.most=some n) (hn2:n<=sizeLine) (hdf:d.params.defaults=[]) (hr:bw k callerA)
  (hY:∀(w:World) (h:Heap),YP w h->(K w.params).In h)
  (F:∀(w:World) (mg:Str->Option Value) (fa:Addr) (h:Heap),(K w.params).In h->h.Ns mainGlobals mg->mg d.name=some (.ref fa) ->
   ∃fd:FuncData,(∀(s:Shared) (u:Value),BindsTo s fd ⟨[u],[]⟩ [(x,u)]) /\
    ∀base:Heap,(K w.params).In base->base.Ns mainGlobals mg->aZ l.prog w (K w.params) mg base (CX w) k fa fd [x] (sp w))
  (vS:∀(w:World) (H:Hp) (a:Addr) (ns:List Int),ns.length<=n->True->aT (K w.params) H a (ns.map V.int)->sp w [.ref a] H (λv _=>v=.bl true) λ_ _ _=>False)
  (hCX:∀(w:World) (H:Hp) (s:Shared) (e:Value) (s':Shared),CX w [] H s (λ_ _ _=>False) e s'->False) (hL:∀(w:World) (h:Heap),(K w.params).In h->jz q (K w.params)) :
  W.WalkO q loose XP YP l.row.toRowW d [] (λf vs=>PySem.call f vs):=by
 refine Att.sA hn hdf λw s₀ s₁ mg mb fa o pm cd doc a vs ns G Y ho hd kB hmg hobj hints hlen hg=>?_;have KX:=hY w _ Y;obtain⟨fd,hb,hF⟩:=F w mg fa _ KX G.T.g hmg;have L:=hL w _ KX;exact Av KX G.T.g G.T.b G.T.builtins G.T.nolimit G.T.bmain (L.at G.T KX) L hg hobj hints (Mz hlen hn2) hr hF hb (λH hO hS=>vS w H a ns hlen hO hS) λH e s'=>hCX w H s₁ e s'
def inClass(s:Stmt)(j:Nat):Stmt:=match s with
 |.ClassDef _ _ _ body _ _ _ _ _ _ _=>body.getD j (.Pass ⟨0,0,0,0⟩)
 |_=>.Pass ⟨0,0,0,0⟩
def cH(s:Stmt):Arguments:=match s with
 |.FunctionDef _ a _ _ _ _ _ _ _ _=>a
 |_=>{posonlyargs:=[],args:=[],vararg:=none,kwonlyargs:=[],kw_defaults:=[],kwarg:=none,defaults:=[]}
def bC(s:Stmt):List Stmt:=match s with
 |.FunctionDef _ _ b _ _ _ _ _ _ _=>b
 |_=>[]
def ab(s:Stmt):Scope:=match s with
 |.FunctionDef _ _ _ _ _ _ sc _ _ _=>sc
 |_=>{kind:=.function,names:=[],isGenerator:=false,isCoroutine:=false}
abbrev aF:qe:=λ_ _ _ _ _ _=>False
abbrev E0:XK:=λ_ _ _=>False
def cg:Passes aF X E0:=λ_ _ _ _ _ _ _ h=>h.elim
structure kj (K:W.Frag) (x qual:Str) (st:Stmt) (f:Addr) (fd:FuncData):Prop where
 ex:∃(oc:Value) (od:Option Addr) (kV doc pm:Value) (an:Option Addr) (cdv ct:Value) (osl:Array (Option Value)),
  fd=W.fnOf x qual (cH st) (bC st) (ab st) .none kV doc pm an cdv ct/\K.lookup f=some ⟨oc,od,.func fd,osl⟩/\W.codeIn K cdv qual=true
 kp:W.keepIn K (.ref f)=true
section
variable {P:Program} {w:World} {K:W.Frag} {mg:Str->Option Value} {base:Heap}
def kj.ok{x:Str}{ps:List Str}(F:kj K x qual st f fd)(S:av N ps (ab st))(len:∀vs H Q E,sp vs H Q E->vs.length=ps.length)
  (hbody:∀(cdv:Value) (A:Around) (outer:List Env) (s:Shared) (H:Hp) (vs:List V) (Q:VK) (E:XK),bw k (A.deeper (envOfC qual (ab st) s.heap.objs.size f cdv))->sp vs H Q E ->
   ∃t,vd (kM aF P w K mg base N qual (ab st) f cdv A outer s H E).CI (bC st) t/\t {nx:=λ_ H'=>Q .aN H',rt:=Q} (start N vs) H):aZ P w K mg base aF (k+1) f fd ps sp:=by
 obtain⟨oc,od,kV,doc,pm,an,cdv,ct,osl,rfl,lk,kB⟩:=F.ex;refine FN lk kB S len λA outer s H vs Q E hr vS=>?_;obtain⟨t,h,q⟩:=hbody cdv A outer s H vs Q E hr vS;exact⟨t,h.CI,q⟩
def kj.binds{x:Str}{ps:List Str}(F:kj K x qual st f fd)
  (h:∀(kV doc pm:Value) (an:Option Addr) (cdv ct:Value) (us:List Value),us.length=ps.length->bindArgs (W.fnOf x qual (cH st) (bC st) (ab st) .none kV doc pm an cdv ct) ⟨us,[]⟩=pure (ps.zip us)):Binds K fd ps []:=by
 obtain⟨oc,od,kV,doc,pm,an,cdv,ct,osl,rfl,lk,kB⟩:=F.ex;exact .all (h kV doc pm an cdv ct)
def mJ{x:Str}{oc:Value}{od an:Option Addr}{osl:Array (Option Value)}{kV doc pm cdv ct:Value}(l:K.lookup f=some ⟨oc,od,.func (W.fnOf x qual (cH st) (bC st) (ab st) .none kV doc pm an cdv ct),osl⟩)
  (c:W.codeIn K cdv qual=true) (k:W.keepIn K (.ref f)=true):kj K x qual st f (W.fnOf x qual (cH st) (bC st) (ab st) .none kV doc pm an cdv ct):=⟨⟨oc,od,kV,doc,pm,an,cdv,ct,osl,rfl,l,c⟩,k⟩
end
def a9{A:Around}(hr:bw k A):A.units+1<cLine:=N3 (Nat.add_le_add_left (by decide:1<=64) _) hr.units
section
variable {X:Cx}
def pv(i:Nat){x:Str}(hN:autoParam (X.N[i]?=some x) ℜ0)(hv:autoParam (J9 X.env.scope x) ℜ4)(hd:autoParam ((x ==("__debug__":Str))=false) ℜ1)
  (kB:autoParam ((x ==("__classdict__":Str))=false) ℜ1):PE X (.Name x pos) (t9 i):=HF hN hv hd kB
end
def Fn(H H':Hp):Prop:=∀b o,H b=some o->H' b=some o
def Fn.refl(H:Hp):Fn H H:=λ_ _ h=>h
section
variable {κ:Type} [DecidableEq κ]
def EG{kvs:List (κ×V)}{k:κ}{v:V}(h:iR kvs k=some v):k∈kvs.map (·.1):=by
 have q:(kvs.any λkv=>decide (kv.1=k))=true:=by
  rw[ng,h]
  all_goals rfl
 obtain⟨p,hp,e⟩:=List.any_eq_true.mp q;exact Nc.mpr ⟨p,hp,NR e⟩
end
def eJ(cells:List (Str×Addr)):List (Str×NameKind)->List (Str×Addr)->List (Str×Addr)
 |[],acc=>acc
 | (n,k)::r,acc=>if k=.free then eJ cells r ((n,(cells.lookup n).getD 0)::acc) else eJ cells r acc
def iL(h:∀x∈scope.names,x.2=.free->∃c,env.cells.lookup x.1=some c):closureFor scope env=pure (eJ env.cells scope.names []):=by
 have all:∀(l:List (Str×NameKind)) (acc:List (Str×Addr)),(∀x∈l,x.2=.free->∃c,env.cells.lookup x.1=some c) ->
   (forIn l acc λ(x:Str×NameKind) (cs:List (Str×Addr))=>(match x with | (name,kind)=>if (kind == NameKind.free)=true then (do let c <- cellOf env name;pure (ForInStep.yield ((name,c)::cs))) else pure (ForInStep.yield cs):Sem (ForInStep (List (Str×Addr)))))=(pure (eJ env.cells l acc):Sem (List (Str×Addr))):=by
  intro l
  induction l with
  |nil=>intro acc _;rfl
  |cons x r ih =>
   intro acc hl;obtain⟨n,k⟩:=x;rw[Pm];by_cases hk:k=.free
   ·subst hk;obtain⟨c,hc⟩:=hl (n,.free) MK rfl;have e:cellOf env n=pure c:=by unfold cellOf;rw[hc]
    simp only[Of,OZ,e,eJ,pure_bind];rw[ih _ λy hy=>hl y (MF _ hy),hc];rfl
   ·have hb:(k == NameKind.free)=false:=by simpa using hk
    simp only[hb,Oj,O3,eJ,hk,pure_bind];exact ih _ λy hy=>hl y (MF _ hy)
 unfold closureFor;simp only[bind_pure];exact all scope.names [] h
theorem jZ{cells:List (Str×Addr)}:∀{l:List (Str×NameKind)} {acc:List (Str×Addr)},(∀x∈l,x.2=.free->∃c,cells.lookup x.1=some c)->(∀x c,acc.lookup x=some c->cells.lookup x=some c) ->
  ∀x c,(eJ cells l acc).lookup x=some c->cells.lookup x=some c
 |[],_,_,h,x,c,e=>h x c e
 | (n,k)::r,acc,hl,h,x,c,e=>by
  unfold eJ at e;have hr:∀y∈r,y.2=.free->∃c,cells.lookup y.1=some c:=λy hy=>hl y (MF _ hy)
  split at e
  ·rename_i hk;refine jZ hr (λy d q=>?_) x c e;rw[Ny] at q
   split at q
   ·rename_i hy;obtain⟨c',hc'⟩:=hl (n,k) MK hk;have hy':y=n:=by simpa using hy
    subst hy';simp only[] at hc';rw[hc'] at q ⊢;exact q
   ·exact h y d q
  ·exact jZ hr h x c e
theorem jT{cells:List (Str×Addr)}{x:Str}:∀{l:List (Str×NameKind)} {acc:List (Str×Addr)},(∃c,acc.lookup x=some c)->∃c,(eJ cells l acc).lookup x=some c
 |[],_,h=>h
 | (n,k)::r,acc,h=>by
  unfold eJ;split
  ·refine jT ?_;rw[Ny];split
   ·exact⟨_,rfl⟩
   ·exact h
  ·exact jT h
theorem i8{cells:List (Str×Addr)}{x:Str}:∀{l:List (Str×NameKind)} {acc:List (Str×Addr)},(x,NameKind.free)∈l->∃c,(eJ cells l acc).lookup x=some c
 |[],_,h=>by simp at h
 | (n,k)::r,acc,h=>by
  unfold eJ;rcases M0.mp h with e|h
  ·cases e;rw[MD rfl];exact jT ⟨(cells.lookup x).getD 0,by rw[Ny];simp⟩
  ·split
   ·exact i8 h
   ·exact i8 h
def aO(X:Cx)(scope:Scope)(N:List Str)(C:Addr)(s:Shared)(H:Hp)(fp:List Addr):Cx where
 prog:=X.prog
 w:=X.w
 K:=X.K
 mg:=X.mg
 base:=X.base
 A:=X.A
 N:=N
 s₀:=s
 H₀:=H
 env:=compEnvC scope (eJ X.env.cells scope.names []) C X.env
 outer:=X.stack
 stack:=X.stack
 ex:=fp
 calm:=X.calm
 fn:=λ_=>false
 pn:=[]
 xe:=λ_ _=>False
structure az (osc:Scope) (ON:List Str) (scope:Scope) (own N:List Str):Prop where
 kind:scope.kind=.function
 nd:N.Nodup
 len:N.length=own.length+ON.length
 n5:∀y∈scope.names,y.2≠.cell
 loc:∀y∈scope.names,y.2=.local->scope.names.lookup y.1=some .local
 free:∀y∈scope.names,y.2=.free->osc.names.lookup y.1=some .cell\/osc.names.lookup y.1=some .free
 out:∀p∈ON.zip (N.drop own.length),p.1=p.2\/scope.names.lookup p.2=none
 own:∀x∈N.drop own.length,scope.names.lookup x≠some .local
def dw(x:Str)(hn:∀y∈scope.names,y.2≠.cell):((relabel scope env).names.lookup x=some .local->scope.names.lookup x=some .local) /\
  ((relabel scope env).names.lookup x=some .cell\/(relabel scope env).names.lookup x=some .free->scope.names.lookup x=some .free):=by
 unfold relabel;simp only;revert hn;generalize scope.names=l;intro hn
 induction l with
 |nil=>simp
 |cons y r ih =>
  obtain⟨n,k⟩:=y;have ih:=ih λy hy=>hn y (MF _ hy);have hk:k≠.cell:=hn (n,k) MK;rw[Nb];simp only;by_cases hc:(k == NameKind.free && env.scope.kind == ScopeKind.function && env.kindOf n == some NameKind.cell)=true
  ·rw[MD hc,Ny,Ny];have hf:k=.free:=by
    simp only[NB] at hc
    simpa using hc.1.1
   split
   ·subst hf;simp
   ·exact ih
  ·rw[M4 hc,Ny,Ny];split
   ·constructor
    ·exactλh=>h
    ·rintro (h|h)
     ·exact absurd (Option.some.inj h) hk
     ·exact h
   ·exact ih
def GU(X:Cx)(ifs:List Expr)(t:TT):Prop:=
 ∀(pins:List (Addr×Obj)) (s:Shared) (σ:St) (H:Hp) (Q:Bool->Hp->Prop),Inv X pins σ H s->t σ H Q ->
  wpAny (model X.prog X.w) X.A (forIn ifs true λc r=>if r=true then do let ok <- isTrue c X.env (eval c X.env);pure (ForInStep.yield ok) else pure (ForInStep.yield r)) (TP X pins σ Q) X.xe s
def dP:TT:=λ_ H Q=>Q true H
def DH:GU X [] dP:=λ_ _ _ H _ I h=>wpAny_tests_nil ⟨H,I,h⟩
def EZ{t:TT}(h:PT X c t):GU X [c] t:=λpins s σ H Q I hw=>wpAny_tests_one (h pins s σ H Q I hw)
def yH{M:Model}{A:Around}{m:Sem α}{Q' Q:α->Shared->Prop}(h:wpAny M A m Q' (λ_ _=>False) s)(k:∀x s',Q' x s'->Q x s'):wpAny M A m Q E s:=N8 h k λ_ _ z=>z.elim
def nQ{prog:Program}{A:Around}{R:Result->Shared->Prop}{target:Expr}{it acc:Value}{XE:Value->Shared->Prop}(I:Nat->Shared->Prop)(hx:∀x s',XE x s'->notedBy (model prog w) A env (λv s''=>R (.error v) s'') x s')
  (turn:∀n s,I n s->wpAny (model prog w) A (pyNext it) (λr s₁=>match r with
   |none=>R (.ok .next) s₁
   |some v=>wpAny (model prog w) A (letOwnedTupleGo target it v) (λ_ s₁'=>wpAny (model prog w) A (assign target env v) (λ_ s₂ =>
     wpAny (model prog w) A (forIn ifs true λc r=>if r=true then do let ok <- isTrue c env (eval c env);pure (ForInStep.yield ok) else pure (ForInStep.yield r)) (λok s₃ =>
      if ok=true then wpAny (model prog w) A (eval elt env) (λx s₄ =>
       wpAny (model prog w) A (call (.builtin "list.append") [acc,x]) (λ_ s₅=>∃m,m<n/\I m s₅) XE s₄) XE s₃
      else ∃m,m<n/\I m s₃) XE s₂) XE s₁') XE s₁) XE s)
  (n:Nat) (h:I n s):codeAny (model prog w) A (.compLoop (.ListComp elt [⟨target,iter,ifs,0⟩] scope pos) 0 it acc env) R s:=by
 refine codeAny_loop rfl I (λn s hI=>?_) n h;show wpAny _ A ((compTurn (.ListComp elt [⟨target,iter,ifs,0⟩] scope pos) 0 it acc env).onRaise (λx=>do noteFrame x env;theTreesLotGoes x)) _ _ s
 refine wpAny_noted ?_;rw[compTurn_list];refine Mv (Qx (Mv (N8 (turn n s hI) (λr s₁ h₁=>?_) hx)))
 cases r with
 |none=>exact ME h₁
 |some v =>
  refine Mv (N8 h₁ (λ_ s₁' h₁'=>?_) hx);refine Mv (N8 h₁' (λ_ s₂ h₂=>Mv (N8 h₂ (λok s₃ h₃=>?_) hx)) hx)
  cases ok with
  |false=>exact ME ⟨rfl,h₃⟩
  |true =>
   exact Mv (Mv (N8 h₃ (λx s₄ h₄=>Mv (N8 h₄ (λ_ s₅ h₅=>ME (ME ⟨rfl,h₅⟩)) hx)) hx))
def jo(wi:TI)(k:Nat)(g:TG)(tc:TT)(te:TE):TE:=λσ H Q=>wi σ H λJ H1=>∀D,H1 D=none ->
 ∃W:Nat->Nat->List V->St->Hp->Prop,(∃m,W 0 m [] (List.replicate k none++σ) (upd H1 D (.lst [])))/\∀i m ys σ' H',W i m ys σ' H'->H' D=some (.lst ys) /\
  ((J.stop i H'/\Q (.ref D) H')\/(J.go i H'/\ys.length<sizeLine/\∀x H2,J.Gf i H' x H2->g x σ' H2 λσ3 H3=>tc σ3 H3 λb H4 =>
   if b=true then te σ3 H4 λv H5=>H5 D=some (.lst ys)/\∃m',m'<m/\W (i+1) m' (ys++[v]) σ3 (upd H5 D (.lst (ys++[v])))
   else ∃m',m'<m/\W (i+1) m' ys σ3 H4))
def uG{wi:TI}(S:az osc ON scope own N)(hosc:X.env.scope=osc)(hON:X.N=ON)(hc:X.calm=true)(hi:PI X tg iter wi)
  (hg:∀C s H fp,PG (aO X scope N C s H fp) tg g) (ht:∀C s H fp,GU (aO X scope N C s H fp) ifs tc) (XE:Addr->Shared->Hp->List Addr->Value->Shared->Prop)
  (he:∀C s H fp pins s' σ' H' Q',(∀b∈fp,∃o,(b,o)∈pins)->Inv (aO X scope N C s H fp) pins σ' H' s'->te σ' H' Q'->wpAny (model X.prog X.w) X.A (eval elt (aO X scope N C s H fp).env) (EP (aO X scope N C s H fp) pins σ' Q') (XE C s H fp) s')
  {pins:List (Addr×Obj)}    {Q:VK} (I:Inv X pins σ H s) (h:jo wi own.length g tc te σ H Q) 
  (fin:∀(D C:Addr) (H':Hp) (s':Shared) (m:Str->Option Value),Inv X pins σ H' s'->Q (.ref D) H'->H' C=none->X.s₀.heap.objs.size<=C->C≠X.env.locals->(∀x c,X.env.cells.lookup x=some c->c≠C)->(∀p∈X.pn++pins,p.1≠C) ->
   s'.heap.Ns C m->RR (.ref D) C (.ok .next) s')
  (hx:∀(D C:Addr) (s3:Shared) (H3:Hp) (fp:List Addr),C=s3.heap.objs.size->Inv X pins σ H3 s3->(∀{pins':List (Addr×Obj)} {σ':St} {H':Hp} {s':Shared},Inv (aO X scope N C s3 H3 fp) pins' σ' H' s'->Inv X pins σ H' s') ->
   X.s₀.heap.objs.size<=C->C≠X.env.locals->(∀x c,X.env.cells.lookup x=some c->c≠C)->(∀p∈X.pn++pins,p.1≠C)->∀x s',XE C s3 H3 fp x s'->notedBy (model X.prog X.w) X.A (aO X scope N C s3 H3 fp).env (λv s''=>RR (.ref D) C (.error v) s'') x s') :
  wpAny (model X.prog X.w) X.A (eval iter X.env) (λx s₁=>wpAny (model X.prog X.w) X.A (pyIter x) (λit s₂=>wpAny (model X.prog X.w) X.A (newList []) (λacc s₃ =>
   wpAny (model X.prog X.w) X.A (newFunctionEnv scope X.env.globals (eJ X.env.cells scope.names []) [] X.env.qual none .none (some X.env)) (λcenv s₄ =>
    codeAny (model X.prog X.w) X.A (.compStart (.ListComp elt [⟨tg,iter,ifs,0⟩] scope pos) 0 it acc {cenv with scope:=relabel scope X.env}) (RR acc cenv.locals) s₄) X.xe s₃) X.xe s₂) X.xe s₁) X.xe s:=by
 refine bJ (hi pins s σ H _ I h) λv s1 h1=>bJ h1 λitv s2 h2=>?_;obtain⟨it,fp,tn,J,H2,e,I2,T,st2,f2,q⟩:=h2;subst e;refine N_ (wpAny_newFunctionEnv S.n5 (by intro y hy;simp at hy) (λh₁ hns₁ hsb₁=>?_) S.kind)
 dsimp only at hns₁ hsb₁ ⊢;have I3:Inv X pins σ (upd H2 s2.heap.objs.size (.lst [])) {s2 with heap:=s2.heap.push {cls:=.type "list",data:=.seq ([]:List Value).toArray},toks:=s2.toks}:=I2.GC (t':=s2.toks) .nil (Nat.zero_le _)
 have hD2:H2 s2.heap.objs.size=none:=I2.fresh;obtain⟨W,⟨m0,w0⟩,turn⟩:=q _ hD2;generalize hs3:({s2 with heap:=s2.heap.push {cls:=.type "list",data:=.seq ([]:List Value).toArray},toks:=s2.toks}:Shared)=s3 at I3
 have eh3:s3.heap=s2.heap.push {cls:=.type "list",data:=.seq ([]:List Value).toArray}:=by rw[<- hs3]
 generalize hD:s2.heap.objs.size=D at I3 turn w0 hD2 ⊢;generalize hH3:upd H2 D (.lst [])=H3 at I3 w0;rw[<- eh3] at hns₁ hsb₁ ⊢;have hC3:H3 s3.heap.objs.size=none:=I3.fresh;have hsz3:s3.heap.objs.size=D+1:=by rw[eh3,NG,hD]
 have fp2:∀b∈fp,b<s2.heap.objs.size:=λb hb=>by
  obtain⟨o,e,_⟩:=T.obj _ _ st2 b hb;exact MN e
 have f3:∀b∈fp,lZ X pins H3 b:=λb hb=>by
  obtain⟨g0,g1⟩:=f2 b hb;refine⟨?_,g1⟩;rw[<- hH3,af (by rw[<- hD];exact M_ (fp2 b hb))]
  exact g0
 have neC:∀b o,s3.heap.get? b=some o->b≠s3.heap.objs.size:=λb o e=>M_ (MN e);have old:∀b o,s3.heap.get? b=some o->h₁.get? b=some o:=λb o e=>hsb₁.extBut b o (neC b o e) (My _ e);have hk:=S.kind;have hfr:∀y∈scope.names,y.2=.free->∃c,X.env.cells.lookup y.1=some c:=λy hy hf=>I3.ok.has _ (by subst hosc;exact S.free y hy hf)
 have sub:=jZ (acc:=[]) hfr (by intro x c e;simp at e)
 have JB:∀tk,Inv (aO X scope N s3.heap.objs.size s3 H3 fp) [] (List.replicate own.length none++σ) H3 {s3 with heap:=h₁,toks:=tk}:=λtk=>by
  refine⟨⟨I3.ok.mod,S.kind,I3.ok.glob,I3.ok.blt,M8 _,λx y c e1 e2=>I3.ok.inj x y c (sub x c e1) (sub y c e2),λx hx=>?_,λx c hf _=>(by cases hf),I3.ok.hd,I3.ok.frames,.inl rfl,λb hb=>?_,I3.bs,Mz I3.ok.CG I3.sz,λb o e hb=>?_,λb hb hf=>?_,I3.stack,I3.pX,I3.ok.tabs.un I3.base⟩,
   rfl,I3.bare,Un.kept old,⟨_,hns₁,λi x v e1 e2 e3=>?_⟩,λx c e=>?_,hC3,λx c e=>I3.gQ x c (sub x c e),λp hp=>absurd (show p∈([]:List (Addr×Obj)) from hp) (by simp),I3.aH.kept old,?_⟩
  ·have q:=(dw (env:=X.env) x S.n5).2 hx;exact i8 (PySem.mem_of_lookup q)
  ·have hb:b∈fp:=hb;obtain⟨_,g1,g2,g3,g4,g5⟩:=f3 b hb;refine⟨?_,λx c e=>g4 x c (sub x c e)⟩;have:=fp2 b hb;show b≠s3.heap.objs.size;rw[hsz3,<- hD];exact M_ (OV this)
  ·have hb:b∈fp:=hb;obtain⟨_,g1,g2,g3,g4,g5⟩:=f3 b hb;rcases g3 with g3|g3
   ·exact I3.ok.Bb b o e g3
   ·exact absurd (Nf (MN e) (Mz I3.ok.CG g3)) (Od _)
  ·have hb:b∈fp:=hb;obtain⟨_,g1,g2,g3,g4,g5⟩:=f3 b hb;rcases M0.mp (I3.qg b hf) with z|z
   ·exact g1 z
   ·exact g2 z
  ·have hi:own.length<=i:=by
    rcases Nt i own.length with hlt|hge
    ·rw[MU (by simpa using hlt),Ra] at e2
     split at e2<;>cases e2
    ·exact hge
   rw[MR (by simpa using hi),MO] at e2
   have e1:N[own.length+(i-own.length)]?=some x:=by rw[Nat.add_sub_cancel' hi];exact e1
   have e1d:(N.drop own.length)[i-own.length]?=some x:=by rw[Nu];exact e1
   have nl:scope.names.lookup x≠some .local:=S.own x (N1 e1d);have vis:scope.names.lookup x=some .free:=by
    rcases e3 with z|z
    ·exact absurd ((dw (env:=X.env) x S.n5).1 z) nl
    ·exact (dw (env:=X.env) x S.n5).2 z
   have hlen:=I3.len;have hlt:i-own.length<X.N.length:=by
    rw[<- hlen];exact (Mw.mp e2).1
   have hxN:X.N[i-own.length]?=some x:=by
    rw[Mt hlt];have mz:(X.N[i-own.length],x)∈ON.zip (N.drop own.length):=by
     rw[<- hON];refine N1 (i:=i-own.length) ?_;rw[List.getElem?_zip_eq_some];exact⟨Mt hlt,e1d⟩
    rcases S.out _ mz with z|z
    ·exact Nw some z
    ·exact absurd z (by rw[vis];simp)
   have hko:X.env.scope.names.lookup x=some .cell\/X.env.scope.names.lookup x=some .free:=by subst hosc;exact S.free _ (PySem.mem_of_lookup vis) rfl
   obtain⟨m,hn,hl⟩:=I3.loc;have hv:J9 X.env.scope x:=by
    rcases hko with z|z
    ·exact .inr (.inl z)
    ·exact .inr (.inr z)
   obtain⟨u,ru,lk⟩:=hl _ x v hxN e2 hv;refine⟨u,ru,.inr ⟨?_,?_⟩⟩
   ·rcases e3 with z|z
    ·exact absurd ((dw (env:=X.env) x S.n5).1 z) nl
    ·exact z
   ·rcases lk with ⟨k,_⟩|⟨_,c,ec,hcell⟩
    ·exfalso
     have k':X.env.scope.names.lookup x=some .local:=k;rcases hko with z|z
     ·rw[k'] at z;cases z
     ·rw[k'] at z;cases z
    ·obtain⟨c',ec'⟩:=i8 (cells:=X.env.cells) (acc:=[]) (PySem.mem_of_lookup vis);have:=sub x c' ec';rw[ec] at this;cases this;obtain⟨o,ho,hd⟩:=hcell;exact⟨c,ec',o,old c o ho,hd⟩
  ·obtain⟨v,o,ho,hd⟩:=I3.cell x c (sub x c e);exact⟨v,o,old c o ho,hd⟩
  ·show (List.replicate own.length none++σ).length=N.length;rw[S.len,Mx,MO,I3.len,hON]
 have stat:∀{H':Hp},(∀b∈fp,H' b=none)->∀b∈fp,lZ (aO X scope N s3.heap.objs.size s3 H3 fp) [] H' b:=λ{H'} hn b hb=>by
  obtain⟨_,g1,g2,g3,g4,g5⟩:=f3 b hb;refine⟨hn b hb,?_,λhf=>?_,.inl hb,λx c e=>g4 x c (sub x c e),λp hp=>absurd (show p∈([]:List (Addr×Obj)) from hp) (by simp)⟩
  ·have:=fp2 b hb;show b≠s3.heap.objs.size;rw[hsz3,<- hD];exact M_ (OV this)
  ·rcases M0.mp (I3.qg b hf) with z|z
   ·exact g1 z
   ·exact g2 z
 have st4:tn 0 h₁:=T.keep _ _ _ st2 λb hb o e=>old b o (by rw[eh3];exact My _ e)
 have o3:∀x c,X.env.cells.lookup x=some c->c≠s3.heap.objs.size:=λx c e z=>by
  obtain⟨v,o,ho,_⟩:=I3.cell x c e;exact absurd (MN ho) (by rw[z];exact Od _)
 have o4:∀p∈X.pn++pins,p.1≠s3.heap.objs.size:=λp hp z=>absurd (MN (I3.pin p hp).1) (by rw[z];exact Od _)
 have outI:∀{pins':List (Addr×Obj)} {σ':St} {H':Hp} {s':Shared},Inv (aO X scope N s3.heap.objs.size s3 H3 fp) pins' σ' H' s'->Inv X pins σ H' s':=λI6=>by
  refine I3.Kb (ch:=fp) I6.os I6.base I6.aH I6.bare λb hb=>?_;obtain⟨_,g1,g2,g3,g4,g5⟩:=f3 b hb;exact⟨g3,g1,g4,g5⟩
 have loop:∀s4:Shared,s4={s3 with heap:=h₁,toks:=s2.toks+([]:List (Str×Value)).length} ->
   codeAny (model X.prog X.w) X.A (.compLoop (.ListComp elt [⟨tg,iter,ifs,0⟩] scope pos) 0 (.ref it) (.ref D) (aO X scope N s3.heap.objs.size s3 H3 fp).env) (RR (.ref D) s3.heap.objs.size) s4:=by
  rintro s4 rfl;refine nQ (XE:=XE s3.heap.objs.size s3 H3 fp) (λn s'=>∃i ys σ' H',Inv (aO X scope N s3.heap.objs.size s3 H3 fp) [] σ' H' s'/\tn i s'.heap/\(∀b∈fp,H' b=none)/\W i n ys σ' H') (hx D _ s3 H3 fp rfl I3 outI I3.sz (Oc I3.lt) o3 o4) ?_ m0 ⟨0,[],_,H3,JB _,st4,λb hb=>(f3 b hb).1,w0⟩;rintro n s5 ⟨i,ys,σ5,H5,I5,st5,fr5,w5⟩;obtain⟨hD5,ways⟩:=turn i n ys σ5 H5 w5;rcases ways with ⟨stop,qn⟩|⟨go,hys,step⟩
  ·refine yH (T.done (aO X scope N s3.heap.objs.size s3 H3 fp) rfl rfl rfl hc i [] s5 σ5 H5 _ I5 (stat fr5) st5 stop) λr s6 hq1=>?_;obtain⟨hr,I6⟩:=hq1;subst hr;obtain⟨m,hn,_⟩:=I6.loc;exact fin D _ H5 s6 m (outI I6) qn I6.free I3.sz (Oc I3.lt) o3 o4 hn
  ·refine yH (T.item (aO X scope N s3.heap.objs.size s3 H3 fp) rfl rfl rfl hc i [] s5 σ5 H5 _ I5 (stat fr5) st5 go) λr s6 hq2=>?_;obtain⟨u,hr,h6⟩:=hq2;subst hr;refine yH h6 λ_ s7 hq3=>?_;obtain⟨x,H7,I7,r7,y7,st7,fr7⟩:=hq3;have I7':=I7.pinned (stat fr7) (T.obj _ _ st7);have back:∀{σ8:St} {H8:Hp} {s8:Shared},Inv (aO X scope N s3.heap.objs.size s3 H3 fp) ([]++jV fp s7.heap) σ8 H8 s8->tn (i+1) s8.heap/\∀b∈fp,H8 b=none:=λ{σ8 H8 s8} I8=>by
    refine⟨T.keep _ _ _ st7 λb hb o e=>(I8.pin (b,o) (MZ _ (MZ _ (eN hb e)))).1,λb hb=>?_⟩;obtain⟨o,e,d⟩:=T.obj _ _ st7 b hb;exact (I8.pin (b,o) (MZ _ (MZ _ (eN hb e)))).2.1
   have hcov:∀b∈fp,∃o,(b,o)∈([]:List (Addr×Obj))++jV fp s7.heap:=λb hb=>by
    obtain⟨o,e,_⟩:=T.obj _ _ st7 b hb;exact⟨o,MZ _ (eN hb e)⟩
   refine yH (hg _ _ _ _ _ s7 σ5 H7 x u _ I7' r7 (step x H7 y7)) λ_ s8 hq4=>?_;obtain⟨σ8,H8,I8,q8⟩:=hq4;refine yH (ht _ _ _ _ _ s8 σ8 H8 _ I8 q8) λok s9 hq5=>?_;obtain⟨H9,I9,q9⟩:=hq5
   cases ok with
   |false =>
    rw[M4 (by simp)] at q9 ⊢
    obtain⟨m',hm,w9⟩:=q9;exact⟨m',hm,i+1,ys,σ8,H9,I9.ip,(back I9).1,(back I9).2,w9⟩
   |true =>
    rw[MD rfl] at q9 ⊢;refine bJ (he _ _ _ _ _ s9 σ8 H9 _ hcov I9 q9) λy s10 hq6=>?_;obtain⟨v10,H10,I10,r10,hD10,m',hm,w10⟩:=hq6;refine yH (oy _ s10 σ8 H10 (.ref D) [v10] (.ref D) [y] (λr H11=>r=.aN/\H11=upd H10 D (.lst (ys++[v10]))) I10 rfl (.cons r10 .nil) ⟨D,ys,v10,rfl,rfl,hD10,hys,rfl,rfl⟩) λ_ s11 hq7=>?_;obtain⟨_,H11,I11,_,_,e11⟩:=hq7;subst e11;exact⟨m',hm,i+1,_,σ8,_,I11.ip,(back I11).1,(back I11).2,w10⟩
 have start:=codeAny_compStart_list (R:=RR (.ref D) s3.heap.objs.size) (loop _ rfl) (T.self X.A 0 _ _ _ st4 (loop _ rfl));subst hs3;exact start
def oW{wi:TI}(S:az osc ON scope own N)(hosc:X.env.scope=osc)(hON:X.N=ON)(hc:X.calm=true)(hi:PI X tg iter wi)
  (hg:∀C s H fp,PG (aO X scope N C s H fp) tg g) (ht:∀C s H fp,GU (aO X scope N C s H fp) ifs tc) (he:∀C s H fp,PE (aO X scope N C s H fp) elt te)
  {pins:List (Addr×Obj)}    {Q:VK} (I:Inv X pins σ H s) (h:jo wi own.length g tc te σ H Q) 
  (fin:∀(D C:Addr) (H':Hp) (s':Shared) (m:Str->Option Value),Inv X pins σ H' s'->Q (.ref D) H'->H' C=none->X.s₀.heap.objs.size<=C->C≠X.env.locals->(∀x c,X.env.cells.lookup x=some c->c≠C)->(∀p∈X.pn++pins,p.1≠C) ->
   s'.heap.Ns C m->RR (.ref D) C (.ok .next) s') :
  wpAny (model X.prog X.w) X.A (eval iter X.env) (λx s₁=>wpAny (model X.prog X.w) X.A (pyIter x) (λit s₂=>wpAny (model X.prog X.w) X.A (newList []) (λacc s₃ =>
   wpAny (model X.prog X.w) X.A (newFunctionEnv scope X.env.globals (eJ X.env.cells scope.names []) [] X.env.qual none .none (some X.env)) (λcenv s₄ =>
    codeAny (model X.prog X.w) X.A (.compStart (.ListComp elt [⟨tg,iter,ifs,0⟩] scope pos) 0 it acc {cenv with scope:=relabel scope X.env}) (RR acc cenv.locals) s₄) X.xe s₃) X.xe s₂) X.xe s₁) X.xe s:=
 uG S hosc hON hc hi hg ht (λ_ _ _ _ _ _=>False) (λC s H fp pins s' σ' H' Q' _ I h=>he C s H fp pins s' σ' H' Q' I h) I h fin λ_ _ _ _ _ _ _ _ _ _ _ _ _ _ z=>z.elim
def Er{wi:TI}(S:az osc ON scope own N)(hosc:X.env.scope=osc)(hON:X.N=ON)(hc:X.calm=true)(hi:PI X tg iter wi)
  (hg:∀C s H fp,PG (aO X scope N C s H fp) tg g) (ht:∀C s H fp,GU (aO X scope N C s H fp) ifs tc) (he:∀C s H fp,PE (aO X scope N C s H fp) elt te)
  (hs:autoParam (∀x,foldedSetIterable iter X.env x=pure x) ℜ3) :
  PE X (.ListComp elt [⟨tg,iter,ifs,0⟩] scope pos) (jo wi own.length g tc te):=by
 intro pins s σ H Q I h;have hfr:∀y∈scope.names,y.2=.free->∃c,X.env.cells.lookup y.1=some c:=λy hy hf=>I.ok.has _ (by subst hosc;exact S.free y hy hf)
 rw[eval_ListComp];refine QN (use:=none) rfl hs (iL hfr) S.kind S.loc ?_;refine oW S hosc hON hc hi hg ht he I h (RR:=λacc C=>compPost (model X.prog X.w) X.A X.xe none (EP X pins σ Q) acc C) ?_;intro D C H' s' m I' q h1 h2 h3 h4 h5 hn;exact⟨m,hn,λh'' hs''=>⟨.ref D,H',I'.turned (t':=s'.toks) (λb o hb e=>(hs''.2 b hb).trans e) h1 h3 (.inr h2) h4 h5,rfl,q⟩⟩
def ve{spos py:Pos}{wi:TI}{y:Str}(hN:X.N.Nodup)(hj:X.N[j]?=some y)(hx:Loc X.env.scope y)(S:az osc ON scope own N)(hosc:X.env.scope=osc)(hON:X.N=ON)(hc:X.calm=true)(hi:PI X tg iter wi)
  (hg:∀C s H fp,PG (aO X scope N C s H fp) tg g) (ht:∀C s H fp,GU (aO X scope N C s H fp) ifs tc) (he:∀C s H fp,PE (aO X scope N C s H fp) elt te)
  (hsw:autoParam (swapsWith (.ListComp elt [⟨tg,iter,ifs,0⟩] scope pos) (some (.Name y py)) spos.line X.env=pure true) ℜ0)
  (hf:autoParam (X.fn y=true\/X.env.scope.names.lookup y=some .local) ℜ2)
  (hs:autoParam (∀x,foldedSetIterable iter X.env x=pure x) ℜ3) :
  PS X (.Assign [.Name y py] (.ListComp elt [⟨tg,iter,ifs,0⟩] scope pos) spos) (mG (jo wi own.length g tc te) (aL j)):=by
 intro pins s σ H Dn I h;have hfr:∀y∈scope.names,y.2=.free->∃c,X.env.cells.lookup y.1=some c:=λy hy hf=>I.ok.has _ (by subst hosc;exact S.free y hy hf)
 rw[exec_Assign_Name_used _ _ _ _ hsw];refine Mv (Qx (Mv ?_));show wpAny _ X.A (do let _ <- comprehension (.ListComp elt [⟨tg,iter,ifs,0⟩] scope pos) scope X.env _ (newList []) false (eval iter X.env) (some (assign (.Name y py) X.env))) _ _ s
 refine Mv (N8 (QN (use:=some (assign (.Name y py) X.env)) (Q:=λ_ s'=>SP X pins Dn .next s') rfl hs (iL hfr) S.kind S.loc ?_) (λ_ s' hq=>ME (ME hq)) λ_ _ e=>e);refine oW S hosc hON hc hi hg ht he I h (RR:=λacc C=>compPost (model X.prog X.w) X.A X.xe (some (assign (.Name y py) X.env)) (λ_ s'=>SP X pins Dn .next s') acc C) ?_;intro D C H' s' m I' q h1 h2 h3 h4 h5 hn;show wpAny _ X.A (assign (.Name y py) X.env (.ref D)) _ _ _;refine wpAny_assign_Name (oK I' hN hj hx (v:=.ref D) rfl (λs'' I'' hsb=>?_) hf);obtain⟨a,sb,ha⟩:=hsb;have nC:C≠a:=by
  rcases ha with ha|ha
  ·rw[ha];exact h3
  ·exact (h4 y a ha).symm
 exact⟨m,hn.sameBut sb nC,λh'' hs''=>⟨_,H',I''.turned (t':=s''.toks) (λb o hb e=>(hs''.2 b hb).trans e) h1 h3 (.inr h2) h4 h5,q⟩⟩
def fF(e:Expr):Bool:=match e with
 |.Starred ..=>false
 |_=>true
def cW(h:fF e=true):starEach (e::es) env=(false,eval e env)::starEach es env:=by
 cases e<;>first|rfl|cases h
theorem plain_any:∀{es:List Expr},es.all fF=true->(backTo pos (starEach es env)).any (·.1)=false
 |[],_=>rfl
 |e::es,h=>by
  rw[NY,NB] at h;rw[cW h.1];show (false || (backTo pos (starEach es env)).any (·.1))=false;rw[plain_any h.2];rfl
theorem plain_all:∀{es:List Expr},es.all fF=true->(backTo pos (starEach es env)).all (λx=>!x.1)=true
 |[],_=>rfl
 |e::es,h=>by
  rw[NY,NB] at h;rw[cW h.1];show (true && (backTo pos (starEach es env)).all (λx=>!x.1))=true;rw[plain_all h.2];rfl
def Ij{cpos:Pos}(h:(e::es).all fF=true)(hl:(e::es).length<30):
  ((backTo cpos (starEach (e::es) env)).all (λx=>!x.1) && (backToKw cpos (keywordEach [] env)).all (λx=>x.1.isSome) && decide ((e::es).length+([]:List Keyword).length+(if ([]:List Keyword).isEmpty then 0 else 1)<30))=true:=by
 rw[plain_all h];have e2:(backToKw cpos (keywordEach [] env)).all (λx=>x.1.isSome)=true:=rfl;rw[e2];have e3:(e::es).length+([]:List Keyword).length+(if ([]:List Keyword).isEmpty then 0 else 1)<30:=hl
 rw[Nq e3];rfl
section
variable {X:Cx} {e:Expr} {es:List Expr} {te:TE} {t:TA}
def Le(ha:PE X e te)(hr:PA X es t)(h:autoParam (fF e=true) ℜ0):PA X (e::es) (iK te t):=wc ha hr (cW h)
def Kp{id:String}{x:Str}{p:Pos}(hc:aX X (.builtin id) r)(hg:Gl X x)(hm:X.mg x=none)(hv:bootBuiltins x=some (.builtin id))(ha:PA X (e::es) t)(h1:autoParam (fF e=true) ℜ0)(h2:autoParam (es.all fF=true) ℜ0)(hn:autoParam (x≠"__name__") ℜ1)(hdb:autoParam ((x ==("__debug__":Str))=false) ℜ1):
  PE X (.Call (.Name x p) (e::es) [] pos) (yT r t):=Ce hc hg hm hv ha hn hdb (cW h1) (plain_any h2)
def JU{T:String}{x:Str}{p:Pos}(hc:aX X (.type T) r)(hg:Gl X x)(hm:X.mg x=none)(hv:bootBuiltins x=some (.type T))(ha:PA X (e::es) t)(h1:autoParam (fF e=true) ℜ0)(h2:autoParam (es.all fF=true) ℜ0)(hn:autoParam (x≠"__name__") ℜ1)(hdb:autoParam ((x ==("__debug__":Str))=false) ℜ1):
  PE X (.Call (.Name x p) (e::es) [] pos) (yT r t):=y9 hc hg hm hv ha hn hdb (cW h1) (plain_any h2)
def Gr{o:Expr}{to:TE}{name:Str}{apos cpos:Pos}{T id:String}{r:V->List V->Hp->VK->Prop}(pa:PlainAttrs T)(slot:Slot T name id)(hty:typeOf (.builtin id)=pure (.type "method_descriptor"))(hm:uU X id r)(ho:PE X o to)(ha:PA X (e::es) t)
  (hbase:attributeBase o name X.env (eval o X.env)=eval o X.env) (hline:(apos.endLine == cpos.line)=true) (h:(e::es).all fF=true) (hl:(e::es).length<30):PE X (.Call (.Attribute o name apos) (e::es) [] cpos) (Hc X.K T r to t):=by
 have h':=h;rw[NY,NB] at h';exact K2 pa slot hty hm ho ha hbase (Ij h hl) hline (cW h'.1) (plain_any h'.2)
def vj{a:Expr}{ta:TA}{p:Pos}(hg:Gl X "range")(hm:X.mg "range"=none)(ha:PA X [a] ta)(h:autoParam (fF a=true) ℜ0):PI X tg (.Call (.Name "range" p) [a] [] pos) (oh ta):=yE hg hm ha (cW h)
end
structure HasFn (K:W.Frag) (mg:Str->Option Value) (x:Str) (st:Stmt) (ps:List Str):Prop where
 ex:∃(f:Addr) (fd:FuncData),kj K x x st f fd/\Binds K fd ps []/\mg x=some (.ref f)
structure ao (P:Program) (w:World) (K:W.Frag) (mg:Str->Option Value) (base:Heap) (CX:qe) (k:Nat) (x:Str) (ps:List Str) (sp:Sp):Prop where
 ex:∃(f:Addr) (fd:FuncData),mg x=some (.ref f)/\W.keepIn K (.ref f)=true/\Binds K fd ps []/\aZ P w K mg base CX k f fd ps sp
section
variable {P:Program} {w:World} {K:W.Frag} {mg:Str->Option Value} {base:Heap}
def HasFn.ok{x:Str}{ps:List Str}(F:HasFn K mg x st ps)(S:av N ps (ab st))(len:∀vs H Q E,sp vs H Q E->vs.length=ps.length)
  (hbody:∀(f:Addr) (cdv:Value) (A:Around) (outer:List Env) (s:Shared) (H:Hp) (vs:List V) (Q:VK) (E:XK),bw k (A.deeper (envOfC x (ab st) s.heap.objs.size f cdv))->sp vs H Q E ->
   ∃t,vd (kM aF P w K mg base N x (ab st) f cdv A outer s H E).CI (bC st) t/\t {nx:=λ_ H'=>Q .aN H',rt:=Q} (start N vs) H):ao P w K mg base aF (k+1) x ps sp:=by
 obtain⟨f,fd,F1,b,m⟩:=F.ex;exact⟨f,fd,m,F1.kp,b,F1.ok S len λcdv A outer s H vs Q E hr h=>hbody f cdv A outer s H vs Q E hr h⟩
end
section
variable {X:Cx} {CX:qe} {k:Nat} {ps:List Str} {sp:Sp} {E:XK} {x:Str} {p pos:Pos} {e:Expr} {es:List Expr} {t:TA}
def JE(F:ao X.prog X.w X.K X.mg X.base CX k x ps sp)(hr:bw k X.A)(hg:Gl X x)(hx:Passes CX X E)(ha:PA X (e::es) t)(h1:autoParam (fF e=true) ℜ0)(h2:autoParam (es.all fF=true) ℜ0)(hdb:autoParam ((x ==("__debug__":Str))=false) ℜ1):
  PE X (.Call (.Name x p) (e::es) [] pos) (iE sp [] E t):=by
 obtain⟨f,fd,m,kp,b,G⟩:=F.ex;exact Dq G hr hg m kp b .nil hx ha hdb (cW h1) (plain_any h2)
def Gx(F:ao X.prog X.w X.K X.mg X.base CX k x ps sp)(hr:bw k X.A)(hg:Gl X x)(hx:Passes CX X E)(hdb:autoParam ((x ==("__debug__":Str))=false) ℜ1):
  PE X (.Call (.Name x p) [] [] pos) (iE sp [] E iA):=by
 obtain⟨f,fd,m,kp,b,G⟩:=F.ex;exact zf G hr hg m kp b .nil hx hdb
end
def Hr:Expr->Option V
 |.Constant (.int i) _ _=>some (.int i)
 |.Constant (.str x) _ _=>some (.str x)
 |.Constant (.bool b) _ _=>some (.bl b)
 |.Constant .none _ _=>some .aN
 |_=>none
def wj:List Expr->Option (List V)
 |[]=>some []
 |e::es=>match Hr e,wj es with
  |some v,some vs=>some (v::vs)
  |_,_=>none
def tK(vs:List V):TA:=λ_ H Q=>Q vs H
def Je{v:V}(h:Hr e=some v):PE X e (tC v)/\∀es,starEach (e::es) X.env=(false,eval e X.env)::starEach es X.env:=by
 unfold Hr at h
 split at h
 ·cases h;exact⟨zu,λ_=>rfl⟩
 ·cases h;exact⟨zB,λ_=>rfl⟩
 ·cases h;exact⟨FV,λ_=>rfl⟩
 ·cases h;exact⟨zM,λ_=>rfl⟩
 ·cases h
theorem oj{X:Cx}:∀{es:List Expr} {vs:List V},wj es=some vs->PA X es (tK vs)
 |[],vs,h=>by cases h;exact BB
 |e::es,vs,h=>by
  unfold wj at h
  split at h
  ·rename_i v ws e1 e2;cases h;have p:=Je (X:=X) e1;exact wc (te:=tC v) (t:=tK ws) p.1 (oj e2) (p.2 es)
  ·cases h
def sq(H:Hp)(p:Addr):Option (Bool×List V):=match H p with
 |some (.lst xs)=>some (true,xs)
 |some (.tup xs)=>some (false,xs)
 |some (.jU _ (.lst xs))=>some (true,xs)
 |some (.jU _ (.tup xs))=>some (false,xs)
 |_=>none
def iy(h:sq H p=some (true,xs)):aT K H p xs:=by
 unfold sq at h
 split at h
 ·rename_i e;cases h;exact .inl (.inl e)
 ·cases h
 ·rename_i e;cases h;exact .inl (.inr ⟨_,e⟩)
 ·cases h
 ·cases h
def hX(h:sq H p=some (false,xs)):aW K H p xs:=by
 unfold sq at h
 split at h
 ·cases h
 ·rename_i e;cases h;exact .inl (.inl e)
 ·cases h
 ·rename_i e;cases h;exact .inl (.inr ⟨_,e⟩)
 ·cases h
def tX{b:Bool}(h:sq H p=some (b,xs)):aT K H p xs\/aW K H p xs:=by
 cases b with
 |true=>exact .inl (iy h)
 |false=>exact .inr (hX h)
def au(h:H p=some (.lst xs)):sq H p=some (true,xs):=by unfold sq;rw[h]
def a8(h:H p=some (.tup xs)):sq H p=some (false,xs):=by unfold sq;rw[h]
section
variable {X:Cx}
def yb(K:W.Frag):R2:=λx y H Q=>match x,y with
 |.int i,.int j=>Q (.int (i+j)) H
 |.str i,.str j=>i.length+j.length<=sizeLine/\Q (.str (i++j)) H
 |.ref a,.ref b=>match H a,H b with
  |some (.lst xs),some (.lst ys)=>xs.length+ys.length<=sizeLine/\∀p,H p=none->Q (.ref p) (upd H p (.lst (xs++ys)))
  |some (.tup xs),some (.tup ys)=>xs≠[]/\ys≠[]/\xs.length+ys.length<=sizeLine/\∀p,H p=none->Q (.ref p) (upd H p (.tup (xs++ys)))
  |_,_=>False
 |_,_=>False
def EI:cY X (binaryOp .Add) (yb X.K):=by
 intro pins s σ H x y v u Q I rx ry h
 cases x with
 |int i=>cases y with
  |int j=>exact AO pins s σ H _ _ v u Q I rx ry ⟨i,j,rfl,rfl,h⟩
  |_=>exact (show False from h).elim
 |str i=>cases y with
  |str j=>exact nu pins s σ H _ _ v u Q I rx ry ⟨i,j,rfl,rfl,h.1,h.2⟩
  |_=>exact (show False from h).elim
 |ref a=>cases y with
  |ref b =>
   unfold yb at h;simp only at h
   split at h
   ·rename_i xs ys e1 e2;exact C9 pins s σ H _ _ v u Q I rx ry ⟨a,b,xs,ys,rfl,rfl,e1,e2,h.1,h.2⟩
   ·rename_i xs ys e1 e2;obtain⟨h1,h2,h3,h4⟩:=h;exact vE pins s σ H _ _ v u Q I rx ry ⟨a,b,xs,ys,rfl,rfl,aW.of e1,aW.of e2,h1,h3,λz=>absurd z h2,λ_=>h4⟩
   ·exact h.elim
  |_=>exact (show False from h).elim
 |_=>exact (show False from h).elim
def HD:R2:=λx y H Q=>match x,y with
 |.int i,.int j=>Br i j/\Q (.int (i*j)) H
 |.ref a,.int j=>JS (.ref a) (.int j) H Q
 |_,_=>False
def cN:cY X (binaryOp .Mult) HD:=by
 intro pins s σ H x y v u Q I rx ry h
 cases x with
 |int i=>cases y with
  |int j=>exact IH pins s σ H _ _ v u Q I rx ry ⟨i,j,rfl,rfl,h.1,h.2⟩
  |_=>exact (show False from h).elim
 |ref a=>cases y with
  |int j=>exact HH pins s σ H _ _ v u Q I rx ry h
  |_=>exact (show False from h).elim
 |_=>exact (show False from h).elim
def aY:cY X (compareOp .Eq) HI:=Gh
def AL:cY X (compareOp .NotEq) Gy:=FQ
def JL(K:W.Frag)(neg:Bool):R2:=λx y H Q=>match y with
 |.str j=>∃i,x=.str i/\Q (.bl (if neg then !(!(Builtin.Str.occurrences j i 0 j.length 1).isEmpty) else !(Builtin.Str.occurrences j i 0 j.length 1).isEmpty)) H
 |.ref p=>match sq H p with
  |some (_,xs)=>cw x=true/\xs.all cw=true/\Q (.bl (if neg then !jA x xs else jA x xs)) H
  |none=>∃xs,aW K H p xs/\cw x=true/\xs.all cw=true/\Q (.bl (if neg then !jA x xs else jA x xs)) H
 |_=>False
def I_{neg:Bool}{x:V}{Q:VK}(h:JL K neg x (.ref p) H Q):L6 K neg x (.ref p) H Q:=by
 unfold JL at h;simp only at h
 split at h
 ·rename_i xs e;exact⟨p,_,rfl,tX e,h.1,h.2.1,h.2.2⟩
 ·obtain⟨xs,hq,h⟩:=h;exact⟨p,xs,rfl,.inr hq,h.1,h.2.1,h.2.2⟩
def HQ(hu:k<cLine):cY X (compareOp .In) (JL X.K false):=by
 intro pins s σ H x y v u Q I rx ry h
 match y,h with
 |.str j,h =>
  obtain⟨i,rfl,h'⟩:=h;exact xF pins s σ H _ _ v u Q I rx ry ⟨i,j,rfl,rfl,h'⟩
 |.ref p,h=>exact pe pins s σ H _ _ v u Q I rx ry (I_ h)
def Fj(K:W.Frag):R2:=λx y H Q=>match x,y with
 |.str z,.int i=>z.length<=sizeLine/\(match bQ z.cps.toList i with|some c=>Q (.str ⟨#[c]⟩) H|none=>False)
 |.ref p,.int i=>match sq H p with
  |some (_,xs)=>(match bQ xs i with|some v=>Q v H|none=>False)
  |none=>∃xs v,aW K H p xs/\bQ xs i=some v/\Q v H
 |_,_=>False
def Mm(hu:k<cLine):yc X (Fj X.K):=by
 intro value slice pins s σ H x y v u Q I rx ry h hs;refine Hn value slice pins s σ H x y v u Q I rx ry ?_ hs
 cases x with
 |str z=>cases y with
  |int i =>
   obtain⟨hz,h⟩:=h
   split at h
   ·rename_i c e;exact .inr (.inr ⟨z,i,c,rfl,rfl,hz,e,h⟩)
   ·exact h.elim
  |_=>exact (show False from h).elim
 |ref p=>cases y with
  |int i =>
   unfold Fj at h;simp only at h
   split at h
   ·rename_i b xs e
    split at h
    ·rename_i w' e'
     cases b with
     |true=>exact .inl ⟨p,xs,i,w',rfl,rfl,iy e,e',h⟩
     |false=>exact .inr (.inl ⟨p,xs,i,w',rfl,rfl,hX e,e',h⟩)
    ·exact h.elim
   ·obtain⟨xs,w',hq,e',h⟩:=h;exact .inr (.inl ⟨p,xs,i,w',rfl,rfl,hq,e',h⟩)
  |_=>exact (show False from h).elim
 |_=>exact (show False from h).elim
def KU(K:W.Frag):V->Option Int->Option Int->Hp->VK->Prop:=λx lo hi H Q=>match x with
 |.ref p=>match sq H p with
  |some (true,xs)=>∀q,H q=none->Q (.ref q) (upd H q (.lst (cC xs lo hi)))
  |some (false,xs)=>vh K (.ref p) lo hi H Q
  |none=>vh K (.ref p) lo hi H Q
 |_=>False
def Ei:vT X (KU X.K):=by
 intro pins s σ H x v vl vu lo hi sl Q I rx hs pl pu h
 match x,h with
 |.ref p,h =>
  unfold KU at h;simp only at h
  split at h
  ·rename_i xs e;exact qA pins s σ H _ v vl vu lo hi sl Q I rx hs pl pu ⟨p,xs,rfl,iy e,h⟩
  ·exact vc pins s σ H _ v vl vu lo hi sl Q I rx hs pl pu h
  ·exact vc pins s σ H _ v vl vu lo hi sl Q I rx hs pl pu h
def zA:V->V->V->Hp->(Hp->Prop)->Prop:=λo i v H Q=>match o,i with
 |.ref p,.int k=>match H p with
  |some (.lst xs)=>(match jE xs.length k with|some j=>Q (upd H p (.lst (xs.set j v)))|none=>False)
  |_=>False
 |_,_=>False
def uset:Il X zA:=by
 intro pins s σ H o i v ov iv u Q I ro ri rv h
 cases o with
 |ref p=>cases i with
  |int k =>
   unfold zA at h;simp only at h
   split at h
   ·rename_i xs e
    split at h
    ·rename_i j e';exact set_list pins s σ H _ _ v ov iv u Q I ro ri rv ⟨p,xs,k,j,rfl,rfl,e,e',h⟩
    ·exact h.elim
   ·exact h.elim
  |_=>exact (show False from h).elim
 |_=>exact (show False from h).elim
def BF(K:W.Frag):List V->Hp->VK->Prop:=λxs H Q=>match xs with
 |[.str y]=>y.length<=sizeLine/\Q (.int y.length) H
 |[.ref p]=>match sq H p with
  |some (_,ys)=>Q (.int ys.length) H
  |none=>∃ys,aW K H p ys/\Q (.int ys.length) H
 |_=>False
def xD:aX X (.builtin "len") (BF X.K):=by
 intro pins s σ H xs us Q I r h;rcases xs with _|⟨x,_|⟨y,xs⟩⟩
 ·exact (show False from h).elim
 rotate_left
 ·cases x<;>exact (show False from h).elim
 cases x with
 |str y=>exact jx pins s σ H _ us Q I r ⟨.str y,_,rfl,⟨h.1,rfl⟩,h.2⟩
 |ref p =>
  unfold BF at h;simp only at h
  split at h
  ·rename_i b ys e;refine jx pins s σ H _ us Q I r ⟨.ref p,ys.length,rfl,?_,h⟩
   cases b with
   |true=>exact .inl ⟨ys,iy e,rfl⟩
   |false=>exact .inr ⟨ys,hX e,rfl⟩
  ·obtain⟨ys,hq,h⟩:=h;exact jx pins s σ H _ us Q I r ⟨.ref p,ys.length,rfl,.inr ⟨ys,hq,rfl⟩,h⟩
 |_=>exact (show False from h).elim
def K4:List V->Hp->VK->Prop:=λxs H Q=>match xs with
 |[.int i,.int j]=>Q (.int (if j<i then j else i)) H
 |_=>False
def ow(hc:X.calm=true):aX X (.builtin "min") K4:=by
 intro pins s σ H xs us Q I r h;rcases xs with _|⟨x,_|⟨y,_|⟨z,xs⟩⟩⟩
 ·exact (show False from h).elim
 ·cases x<;>exact (show False from h).elim
 ·cases x with
  |int i=>cases y with
   |int j=>exact ym hc pins s σ H _ us Q I r ⟨i,j,rfl,h⟩
   |_=>exact (show False from h).elim
  |_=>exact (show False from h).elim
 ·cases x with
  |int i=>cases y<;>exact (show False from h).elim
  |_=>exact (show False from h).elim
def pH(K:W.Frag):List V->Hp->VK->Prop:=λxs H Q=>match xs with
 |[.ref p]=>match sq H p with
  |some (true,ys)=>∀l,H l=none->Q (.ref l) (upd H l (.tup ys))
  |some (false,_)=>Q (.ref p) H
  |none=>∃ys,aW K H p ys/\Q (.ref p) H
 |_=>False
def qR:aX X (.type "tuple") (pH X.K):=by
 intro pins s σ H xs us Q I r h;rcases xs with _|⟨x,_|⟨y,xs⟩⟩
 ·exact (show False from h).elim
 rotate_left
 ·cases x<;>exact (show False from h).elim
 cases x with
 |ref p =>
  unfold pH at h;simp only at h
  split at h
  ·rename_i ys e;exact fE pins s σ H _ us Q I r ⟨p,ys,rfl,.inl ⟨iy e,h⟩⟩
  ·rename_i ys e;exact fE pins s σ H _ us Q I r ⟨p,ys,rfl,.inr ⟨hX e,h⟩⟩
  ·obtain⟨ys,hq,h⟩:=h;exact fE pins s σ H _ us Q I r ⟨p,ys,rfl,.inr ⟨hq,h⟩⟩
 |_=>exact (show False from h).elim
def HE:List V->Hp->VK->Prop:=λxs H Q=>match xs with
 |[.int i]=>Q (.int i) H
 |[.bl k]=>Q (.int (if k=true then 1 else 0)) H
 |_=>False
def i6:aX X (.type "int") HE:=by
 intro pins s σ H xs us Q I r h;rcases xs with _|⟨x,_|⟨y,ys⟩⟩
 ·exact (show False from h).elim
 ·cases x with
  |int i=>exact oM pins s σ H _ us Q I r (.inl ⟨i,rfl,h⟩)
  |bl k=>exact oM pins s σ H _ us Q I r (.inr ⟨k,rfl,h⟩)
  |_=>exact (show False from h).elim
 ·cases x<;>exact (show False from h).elim
def xC:List V->Hp->VK->Prop:=λxs H Q=>match xs with
 |[.int i]=>i.natAbs.log2<1920/\Q (.str (toString i)) H
 |[.str z]=>Q (.str z) H
 |_=>False
def cz:aX X (.type "str") xC:=by
 intro pins s σ H xs us Q I r h
 match xs,h with
 |[.int i],h=>exact p_ pins s σ H _ us Q I r ⟨i,rfl,h.1,h.2⟩
 |[.str z],h =>
  obtain⟨u,rfl,t,rfl⟩:=vals1 r;exact PySem.P.str_of_str ⟨.str z,H,I,⟨_,rfl⟩,h⟩
def yh(hc:X.calm=true):aX X (.builtin "sum") (λxs H Q=>∃(p:Addr) (ns:List Int),xs=[.ref p]/\aT X.K H p (ns.map V.int)/\Q (.int ns.sum) H):=by
 intro pins s σ H xs us Q I r h;obtain⟨p,ns,rfl,hq,q⟩:=h;obtain⟨u,rfl,ru⟩:=vals1 r;cases ru;obtain⟨its,rv,pl,hz⟩:=I.list hq;have hi:=intsAre_of rv;obtain⟨xs,hx⟩:=hi.allInts.items;have hl':s.heap.IsList p (intItems xs):=by rw[<- hx];exact pl.isList
 refine sum_intListG (I.ok.hd hc) hl' λh' tk t' hk=>?_;have e1:ns=xs.toList.map (·.1):=by rw[<- nums_intItems,<- hx];exact hi.numsOf.symm
 have e2:preSum (numAt xs) xs.size=ns.sum:=by rw[preSum_eq,Ng (by simp),e1]
 rw[e2];exact⟨.int ns.sum,H,I.kept hk,⟨_,rfl⟩,q⟩
def HC(H:Hp):V->Option String
 |.aN=>some "NoneType"
 |.bl _=>some "bool"
 |.int _=>some "int"
 |.str _=>some "str"
 |.ref a=>match H a with
  |some (.lst _)=>some "list"
  |some (.tup _)=>some "tuple"
  |some (.dK _)=>some "dict"
  |_=>none
 |_=>none
def IJ{x:V}(h:HC H x=some t):iZ K H x (.type t):=by
 unfold HC at h
 split at h
 ·cases h;exact .aN
 ·cases h;exact .bl _
 ·cases h;exact .int _
 ·cases h;exact .str _
 ·split at h
  ·rename_i e;cases h;exact .lst e
  ·rename_i e;cases h;exact .tup e
  ·rename_i e;cases h;exact .dK e
  ·cases h
 ·cases h
def vf(t c:String):Bool:=decide (t=c) || (t == "bool" && c == "int")
def zR{c:String}(ht:t∈["NoneType","bool","int","str","list","tuple","dict"])(hc:c∈["bool","int","str","list","tuple","dict"]):W.kitOne K (.type t) (.type c)=some (vf t c):=by
 simp only[M0,MP,Nl] at ht hc;rcases ht with rfl|rfl|rfl|rfl|rfl|rfl|rfl<;>rcases hc with rfl|rfl|rfl|rfl|rfl|rfl<;>rfl
def HL{x:V}(h:HC H x=some t):t∈["NoneType","bool","int","str","list","tuple","dict"]:=by
 unfold HC at h
 split at h
 ·cases h;decide
 ·cases h;decide
 ·cases h;decide
 ·cases h;decide
 ·split at h
  ·cases h;decide
  ·cases h;decide
  ·cases h;decide
  ·cases h
 ·cases h
def Hw(K:W.Frag):List V->Hp->VK->Prop:=λxs H Q=>match xs with
 |[x,.ty T]=>T∈["bool","int","str","list","tuple","dict"]/\match HC H x with
  |some t=>Q (.bl (vf t T)) H
  |none=>∃t b,iZ K H x t/\W.kitOne K t (.type T)=some b/\Q (.bl b) H
 |_=>False
def xO:aX X (.builtin "isinstance") (Hw X.K):=by
 intro pins s σ H xs us Q I r h;rcases xs with _|⟨x,_|⟨y,_|⟨z,xs⟩⟩⟩
 ·exact (show False from h).elim
 ·exact (show False from h).elim
 rotate_left
 ·cases y<;>exact (show False from h).elim
 cases y with
 |ty T =>
  obtain⟨u,w',rfl,r1,r2⟩:=vals2 r;cases r2;obtain⟨hT,h⟩:=h
  split at h
  ·rename_i t e;exact oG I r1 (IJ e) (zR (HL e) hT) λtk=>⟨.bl _,H,I.tok _,rfl,h⟩
  ·obtain⟨t,b,ty,k,q⟩:=h;exact oG I r1 ty k λtk=>⟨.bl b,H,I.tok _,rfl,q⟩
 |_=>exact (show False from h).elim
def Hb{x:Str}{T:String}(hg:Gl X x)(hm:X.mg x=none)(hv:bootBuiltins x=some (.type T))(hn:autoParam (x≠"__name__") ℜ1)(hd:autoParam ((x ==("__debug__":Str))=false) ℜ1):PE X (.Name x pos) (tC (.ty T)):=EW hg hm hv rfl hn hd
def rJoin(K:W.Frag):V->List V->Hp->VK->Prop:=λx vs H Q=>∃z l ys,x=.str z/\vs=[.ref l]/\aT K H l (ys.map V.str)/\(ys.map (·.length)).sum+ys.length*z.length<=16777216/\Q (.str (Str.join z ys)) H
theorem lT:∀{ys:List Str} {us:List Value},Vals (ys.map V.str) us->StrsAre us ys
 |[],_,.nil=>.nil
 |y::ys,_,.cons r t=>by
  obtain⟨k,rfl⟩:=r;exact .cons y k (lT t)
def ES:uU X "str.join" (rJoin X.K):=by
 intro pins s σ H x xs v us Q I rx rs h;obtain⟨z,l,ys,rfl,rfl,hq,hz,q⟩:=h;obtain⟨t,rfl⟩:=rx;obtain⟨u,rfl,ru⟩:=vals1 rs;cases ru;obtain⟨its,rv,pl,_⟩:=I.list hq;refine join_list pl.isList (by simpa using lT rv) hz λt' k=>?_
 have e:Txt.join z ys=Str.join z ys:=StrLaws.glued_eq_join z ys;rw[e];exact⟨.str _,H,I.tok _,⟨_,rfl⟩,q⟩
end
section
variable {X:Cx} {e:Expr} {te:TE}
theorem wx(p:Nat->Bool):∀(l:List Nat),l.drop (l.takeWhile p).length=l.dropWhile p
 |[]=>rfl
 |x::l=>by
  by_cases h:p x
  ·simp[List.takeWhile_cons,Qh,h,wx p l]
  ·simp[List.takeWhile_cons,Qh,h]
end
open AutoSeq1 (wpAny_loadPart')
section
variable {prog:Program} {w:World} {A:Around} {E:Value->Shared->Prop} {s:Shared}
def kK{x:Value}(hit:s.heap.IsTupleIter it l i)(hl:s.heap.IsTuple l items)(hx:items[i]?=some x)
  (hQ:∀h',h'.IsTupleIter it l (i+1)->Heap.SameBut it s.heap h'->Q x {s with heap:=h'}):wpAny (model prog w) A (Builtin.SmallTypes.nextOf (.ref it)) Q E s:=by
 obtain⟨o,ho,hc,hd⟩:=id hit;obtain⟨ol,hol,_,nl,hdl⟩:=hl;unfold Builtin.SmallTypes.nextOf;refine Mv (N5 (name:=Str.ofString "__next__") hit.typeIs O4 (NC O4 hit.typeIs Qp ?_ (Ql _)));show wpAny _ _ (field (.ref it) 0 >>= _) _ _ s;refine Mv (OT ho hd (x:=.ref l) rfl ?_);show wpAny _ _ (if (Value.ref l == Value.none)=true then _ else _) _ _ s
 rw[M4 (show ¬ ((Value.ref l == Value.none)=true) from ML)];show wpAny _ _ (field (.ref it) 1 >>= _) _ _ s;refine Mv (OT ho hd (x:=.int i 0) rfl ?_);show wpAny _ _ (seqItems? (.ref l) >>= _) _ _ s;refine Mv (O_ hol hdl ?_);simp only[MY,hx];refine Mv (Qm ho hd (by simp) (ME ⟨x,rfl,ME (hQ _ ?_ (NS ..))⟩))
 exact⟨_,OY _ ho (Obj.isFreed_of_fields (Pu hd _)),(Obj.cls_mapFields ..).trans hc,by rw[Pu hd];simp[rawInt]⟩
def ma(hh:A.handled=none)(hit:s.heap.IsTupleIter it l i)(hl:s.heap.IsTuple l items)(hx:items[i]?=none)
  (hE:∀h' e,Heap.ExtBut it s.heap h'->(∃o,h'.get? e=some o/\o.cls=.type "StopIteration")->E (.ref e) {s with heap:=h'}):wpAny (model prog w) A (Builtin.SmallTypes.nextOf (.ref it)) Q E s:=by
 obtain⟨o,ho,hc,hd⟩:=id hit;obtain⟨ol,hol,_,nl,hdl⟩:=hl;unfold Builtin.SmallTypes.nextOf;refine Mv (N5 (name:=Str.ofString "__next__") hit.typeIs O4 (NC O4 hit.typeIs Qp ?_ (Ql _)));show wpAny _ _ (field (.ref it) 0 >>= _) _ _ s;refine Mv (OT ho hd (x:=.ref l) rfl ?_);show wpAny _ _ (if (Value.ref l == Value.none)=true then _ else _) _ _ s
 rw[M4 (show ¬ ((Value.ref l == Value.none)=true) from ML)];show wpAny _ _ (field (.ref it) 1 >>= _) _ _ s;refine Mv (OT ho hd (x:=.int i 0) rfl ?_);show wpAny _ _ (seqItems? (.ref l) >>= _) _ _ s;refine Mv (O_ hol hdl ?_);simp only[MY,hx];refine Mv (Q8 (Mv (Qm ho hd (by simp) ?_)))
 show wpAny _ _ (newExc (.type "StopIteration") [] >>= _) _ _ _;refine Mv ?_;simp only[newExc,newTuple];refine Mv (N_ ?_ (by size_fits))
 refine Mv (m:=firstArgMember _ _) (wpAny_of_eq (a:=Value.none) (by first|rfl | (simp only[firstArgMember];rfl)) ?_)
 refine N_ ?_ (by size_fits)
 simp only[raiseNew];refine Mv (wpAny_handled ?_)
 first|rw[show A.in1.handled=none from hh]|rw[hh]
 refine Mv (ME (wpAny_throw ?_));exact hE _ _ (((NS ..).extBut.push _).push _) ⟨_,MM _ rfl,rfl⟩
def jG(hh:A.handled=none)(it l:Addr)(hne:l≠it)(items:Array Value):
  Draws prog w A it [it,l] items.size (λi v=>items[i]?=some v) (λi h=>h.IsTupleIter it l i/\h.IsTuple l items) where
 live:=λ_ _ st=>let ⟨o,ho,_⟩:=st.1;⟨o,ho⟩
 frame:=λ_ _ _ st hk=>⟨let ⟨o,e,r⟩:=st.1;⟨o,hk it (by simp) o e,r⟩,let ⟨o,e,r⟩:=st.2;⟨o,hk l (by simp) o e,r⟩⟩
 item:=λi s Q E hi st hQ=>by
  refine kK st.1 st.2 (x:=items[i]) (by simp[hi]) λh' hit' hs'=>?_
  exact hQ _ h' s.toks (by simp[hi]) ⟨hit',st.2.extBut hs'.extBut hne⟩ hs'
 done:=λs Q E st hE=>ma hh st.1 st.2 (by simp) hE
def lV(l:Addr)(items:Array Value)(n:Nat)(dct:Option Addr)(sl:Array (Option Value)):
  Meets (Builtin.«enumerate.__new__» ⟨[.type "enumerate",.ref l],[]⟩) (λ_ R s=>s.heap.get? l=some {cls:=.type "tuple",dict:=dct,data:=.seq items n,slots:=sl} /\
   R (.ok (.ret (.ref (s.heap.push {cls:=.type "tuple_iterator",data:=.fields #[.ref l,.int 0 0]}).objs.size)))
    {s with heap:=(s.heap.push {cls:=.type "tuple_iterator",data:=.fields #[.ref l,.int 0 0]}).push {cls:=.type "enumerate",data:=.fields #[.none,.bool false,.ref s.heap.objs.size,rawInt 0,.none,.none]}}):=
 .of_wp λprog w A R s h=>by
  obtain⟨hp,g,d,tk,os⟩:=s;obtain⟨hl,h⟩:=h;have hsub:=sub_enumerate;have hL:Heap.IsTuple (Shared.heap ⟨hp,g,d,tk,os⟩) l items:=⟨_,hl,rfl,n,rfl⟩;wp_walk using PY hl;refine wpAny_stack_any λst=>ME ?_;split
  ·rename_i c _ _ _ _ _
   cases (c == Value.type "enumerate")<;>(wp_walk using PY hl,OP hL;exact⟨_,rfl,h⟩)
  ·wp_walk using PY hl,OP hL;exact⟨_,rfl,h⟩
def nT(hL:s.heap.IsTuple l items)
  (h:∀h',IsEnum h' (s.heap.objs.size+1) s.heap.objs.size 0 .none->h'.IsTupleIter s.heap.objs.size l 0->h'.objs.size=s.heap.objs.size+2 ->
   (∀b o,s.heap.get? b=some o->h'.get? b=some o)->Q (.ref (s.heap.objs.size+1)) {s with heap:=h'}) :
  wpAny (model prog w) A (call (.type "enumerate") [.ref l]) Q E s:=by
 obtain⟨⟨c,dct,dt,sl⟩,hl,hc,n,hd⟩:=hL
 replace hc:c=.type "tuple":=hc
 replace hd:dt=.seq items n:=hd
 subst hc hd;refine RN F.called_enumerate ⋯ (F.typeCall_enumerate_1 _) (F.newCall_enumerate_1 _) (λobj=>F.args_object_init_2 obj _) F.entry_enumerate_new (lV l items n dct sl) ⟨hl,?_⟩
 have hz:(s.heap.push {cls:=.type "tuple_iterator",data:=.fields #[.ref l,.int 0 0]}).objs.size=s.heap.objs.size+1:=NG ..;show _/\_;rw[hz];have he:IsEnum ((s.heap.push {cls:=.type "tuple_iterator",data:=.fields #[.ref l,.int 0 0]}).push {cls:=.type "enumerate",data:=.fields #[.none,.bool false,.ref s.heap.objs.size,rawInt 0,.none,.none]}) (s.heap.objs.size+1) s.heap.objs.size 0 .none:=by
  have:=MM (s.heap.push {cls:=.type "tuple_iterator",data:=.fields #[.ref l,.int 0 0]}) (o:={cls:=.type "enumerate",data:=.fields #[.none,.bool false,.ref s.heap.objs.size,rawInt 0,.none,.none]}) rfl;rw[hz] at this;exact this
 refine⟨⟨_,he,rfl⟩,h _ he ⟨_,My _ (MM _ rfl),rfl,rfl⟩ (by rw[NG,hz]) λb o x=>My _ (My _ x)⟩
end
section
variable {X:Cx} {pins:List (Addr×Obj)} {σ:St} {H:Hp} {s:Shared} {h':Heap}
def Inv.turns{t':Nat}(I:Inv X pins σ H s)(hf:∀b∈fp,lZ X pins H b)(k:∀b o,b∉fp->s.heap.get? b=some o->h'.get? b=some o):Inv X pins σ H {s with heap:=h',toks:=t'}:=by
 have nf:∀b u,H b=some u->b∉fp:=λb u e z=>by rw[(hf b z).1] at e;cases e
 refine I.step (g':=s.gens) (d':=s.drawn) (ch:=fp) (λb hb=>?_) (λb o _ _ hc e _=>k b o hc e) (λb o _ _ hc e _=>⟨o.slots,k b o hc e⟩) (λ_ _ _ _ n=>n)
  (λb o hc e=>⟨o,k b o hc e⟩) (λ_ _ e=>e) (λ_ _ _ e=>e) (λb ps e=>⟨#[],by rw[e];simp⟩) (λm hm=>?_) (λb u e=>?_) I.bare
 ·obtain⟨_,g1,g2,g3,g4,g5⟩:=hf b hb;exact⟨g3,g1,g4,g5⟩
 ·obtain⟨o,es,ep,ho,r⟩:=hm;exact⟨o,es,ep,k _ o (λz=>(hf _ z).2.1 rfl) ho,r⟩
 ·refine (I.aH b u e).pP (λc v hc q=>k c v ?_ q) (λ_ q=>q) (λ_ _ q=>q) λ_ _ _ q=>q;rcases hc with z|z
  ·rw[z];exact nf b u e
  ·exact nf c _ z
def Inv.qh{t':Nat}(I:Inv X pins σ H s)(hf:∀b∈fp,lZ X pins H b)(hp:s.heap.objs.size<=p)(k:∀b o,b∉fp->s.heap.get? b=some o->h'.get? b=some o)
  (new:ba X.prog X.w (upd H p o) h' p o):Inv X pins σ (upd H p o) {s with heap:=h',toks:=t'}:=by
 have nf:∀b u,H b=some u->b∉fp:=λb u e z=>by rw[(hf b z).1] at e;cases e
 have fr:H p=none:=I.aH.fresh hp;have np:∀b u,H b=some u->b≠p:=λb u e=>ae e fr;have ne:∀b o,s.heap.get? b=some o->b≠p:=λb o e z=>by rw[z] at e;exact absurd (Nf (MN e) hp) (Od _)
 refine I.step (g':=s.gens) (d':=s.drawn) (ch:=fp) (λb hb=>?_) (λb o _ _ hc e _=>k b o hc e) (λb o _ _ hc e _=>⟨o.slots,k b o hc e⟩) (λb o _ e n=>by rw[af (ne b o e)];exact n)
  (λb o hc e=>⟨o,k b o hc e⟩) (λb xs e=>by rw[af (np b _ e)];exact e) (λb o u e=>by rw[af (np b _ e)];exact e) (λb ps e=>⟨#[],by rw[af (np b _ e),e];simp⟩) (λm hm=>?_) (λb u e=>?_) I.bare
 ·obtain⟨_,g1,g2,g3,g4,g5⟩:=hf b hb;exact⟨g3,g1,g4,g5⟩
 ·obtain⟨o,es,ep,ho,r⟩:=hm;exact⟨o,es,ep,k _ o (λz=>(hf _ z).2.1 rfl) ho,r⟩
 ·by_cases hb:b=p
  ·subst hb;rw[aa] at e;cases e;exact new
  ·rw[af hb] at e;refine (I.aH b u e).pP (λc v hc q=>k c v ?_ q) (λc q=>by rw[af (np c _ q)];exact q) (λc xs q=>by rw[af (np c _ q)];exact q) λc _ _ q=>by rw[af (np c _ q)];exact q
   rcases hc with z|z
   ·rw[z];exact nf b u e
   ·exact nf c _ z
end
def getL(K:W.Frag)(a:Addr):Nat->Hp->V->Prop:=λi H x=>∃xs,aT K H a xs/\xs[i]?=some x
def LD(K:W.Frag)(a:Addr):Nat->Hp->V->Prop:=λi H x=>∃xs,aW K H a xs/\xs[i]?=some x
def LK(K:W.Frag)(a:Addr):Nat->Hp->Prop:=λi H=>∃xs,aT K H a xs/\xs.length=i
def L3(K:W.Frag)(a:Addr):Nat->Hp->Prop:=λi H=>∃xs,aW K H a xs/\xs.length=i
def Bl(K:W.Frag)(a:Addr):It:=
 ⟨λi H=>∃x,LD K a i H x,λi H x H'=>∃p y,(∀xs,aW K H a xs->xs[i]?=some y)/\H p=none/\x=.ref p/\H'=upd H p (.tup [.int i,y]),L3 K a⟩
def uH{P:Program}{tk:Nat}{tp:Pos}(a it e:Addr)(hne:e≠it):Turn P w K (.Tuple es tk tp) (Bl K a) [e,it] e (λi h=>(∃old,IsEnum h e it i old)/\h.IsTupleIter it a i) where
 mem:=by simp
 obj:=λi h st b hb=>by
  obtain⟨⟨old,he⟩,o,eo,c,d⟩:=st;rcases M0.mp hb with z|z
  ·subst z;exact⟨_,he,λv z=>by cases z⟩
  ·have z:b=it:=by simpa using z
   subst z;exact⟨o,eo,λv z=>by rw[d] at z;cases z⟩
 keep:=λi h h' st k=>by
  obtain⟨⟨old,he⟩,o,eo,r⟩:=st;exact⟨⟨old,k e (by simp) _ he⟩,o,k it (by simp) o eo,r⟩
 item:=by
  intro X hP hw hK hc i pins s σ H E I hf st hg;subst hP hw hK;obtain⟨x,xs,hq,hx⟩:=hg;obtain⟨⟨old,he⟩,hit⟩:=st;obtain⟨its,rv,p,hz⟩:=I.tuple hq;obtain⟨u,hu,ru⟩:=rv.get hx;obtain⟨g0,g1,g2,g3,g4,g5⟩:=hf e (by simp)
  obtain⟨f0,f1,f2,f3,f4,f5⟩:=hf it (by simp)
  have ht:s.heap.IsTuple a its.toArray:=p;have ha:a≠it:=by
   rintro rfl;obtain⟨o,e1,c1,_⟩:=hit;obtain⟨o',e2,c2,_⟩:=ht;rw[e1] at e2;cases e2;rw[c1] at c2;exact absurd (Value.type.inj c2) ⋯
  have hea:e≠a:=by
   rintro rfl;obtain⟨o',e2,c2,_⟩:=ht;have e1:s.heap.get? e=some _:=he;rw[e1] at e2;cases e2;exact absurd (Value.type.inj c2) ⋯
  have hi:i<its.toArray.size:=by
   have:=(Mw.mp hu).1
   simpa using this
  refine Rb (jG (A:=X.A.in1) (I.ok.hd hc) it a ha its.toArray) he ⟨hit,ht⟩ hi hne (by simp[hne,hea]) λx' h' tk' hP ho hs' hT hsz hk=>?_
  have ex:x'=u:=by
   have hP':its.toArray[i]?=some x':=hP;rw[N4,hu] at hP';exact (Option.some.inj hP').symm
  subst ex;refine⟨.ref s.heap.objs.size,rfl,Qy ho λh2 he2 hs2=>?_⟩;have fr:H s.heap.objs.size=none:=I.aH.fresh (M8 _);have hle:e≠s.heap.objs.size:=M_ (MN he);have hT2:h2.get? s.heap.objs.size=some {cls:=.type "tuple",data:=.seq #[.int i tk',x']}:=(hs2.2 _ (MV hle)).trans hT;have I2:Inv X pins σ (upd H s.heap.objs.size (.tup [.int i,x])) {s with heap:=h2,toks:=tk'+1}:=by
   refine I.qh (fp:=[e,it]) hf (M8 _) (λb o hb eb=>?_) ⟨by show 2<=sizeLine;decide,[.int i tk',x'],.cons ⟨_,rfl⟩ (.cons ru .nil),⟨_,hT2,rfl,_,rfl,rfl⟩⟩
   have n1:b≠e:=λz=>hb (by simp[z])
   have n2:b≠it:=λz=>hb (by simp[z])
   exact (hs2.2 b n1).trans (hk b o n1 n2 eb)
  refine⟨.ref s.heap.objs.size,_,I2,rfl,⟨s.heap.objs.size,x,λys hy=>by rw[I.jD hy hq];exact hx,fr,rfl,rfl⟩,⟨⟨x',?_⟩,?_⟩,λb hb=>?_⟩
  ·have e:(((i+1:Nat)):Int)=(i:Int)+1:=by lia
   rw[e];exact he2
  ·obtain⟨o,e1,r⟩:=hs'.1;exact⟨o,(hs2.2 it (MV hne)).trans e1,r⟩
  ·have n:b≠s.heap.objs.size:=by
    rcases M0.mp hb with z|z
    ·subst z;exact hle
    ·have z:b=it:=by simpa using z
     subst z;obtain⟨o,e1,_⟩:=hit;exact M_ (MN e1)
   rw[af n];exact (hf b hb).1
 done:=by
  intro X hP hw hK hc i pins s σ H E I hf st hg;subst hP hw hK;obtain⟨xs,hq,hx⟩:=hg;obtain⟨⟨old,he⟩,hit⟩:=st;obtain⟨its,rv,p,hz⟩:=I.tuple hq;have ht:s.heap.IsTuple a its.toArray:=p;have ha:a≠it:=by
   rintro rfl;obtain⟨o,e1,c1,_⟩:=hit;obtain⟨o',e2,c2,_⟩:=ht;rw[e1] at e2;cases e2;rw[c1] at c2;exact absurd (Value.type.inj c2) ⋯
  have hl:=rv.length;have hsz:its.toArray.size=i:=by simp;lia
  refine Rp (jG (A:=X.A.in1) (I.ok.hd hc) it a ha its.toArray) he (by rw[hsz];exact⟨hit,ht⟩) λh' eb=>⟨rfl,?_⟩
  exact I.turns (t':=s.toks) hf λb o hb e1=>eb b o (λz=>hb (by simp[z])) e1
 self:=λA i s Q E st h=>by
  obtain⟨⟨old,he⟩,_⟩:=st;exact P1 he h
section
variable {X:Cx} {es:List Expr} {tk:Nat} {tp:Pos}
def rf(K:W.Frag)(ta:TA):TI:=λσ H R=>ta σ H λvs H1=>∃a,vs=[.ref a]/\(∃xs,aW K H1 a xs)/\R (Bl K a) H1
def Fd{ta:TA}{p:Pos}(hg:Gl X "enumerate")(hm:X.mg "enumerate"=none)(ha:PA X [e] ta)(h1:autoParam (fF e=true) ℜ0)(hv:autoParam (bootBuiltins "enumerate"=some (.type "enumerate")) ℜ6):
  PI X (.Tuple es tk tp) (.Call (.Name "enumerate" p) [e] [] pos) (rf X.K ta):=by
 intro pins s σ H R I h;refine Call_ (fY I hg hm hv (NJ (bJ (ha pos pins s σ H _ I h) λus s1 hq1=>?_) (cW h1) rfl));obtain⟨vs,H1,I1,r1,q1⟩:=hq1;obtain⟨a,e,⟨xs,hq⟩,q⟩:=q1;subst e;obtain⟨u,rfl,ru⟩:=vals1 r1;cases ru;obtain⟨its,rv,pt,hz⟩:=I1.tuple hq;refine nT (show s1.heap.IsTuple a its.toArray from pt) λh' he hit hsz hk=>?_;refine P1 he ?_;have I2:Inv X pins σ H1 {s1 with heap:=h'}:=I1.kept (t':=s1.toks) hk
 refine⟨s1.heap.objs.size+1,[s1.heap.objs.size+1,s1.heap.objs.size],_,_,H1,rfl,I2,uH a s1.heap.objs.size (s1.heap.objs.size+1) (Oc (OA _)),⟨⟨_,he⟩,hit⟩,λb hb=>?_,q⟩;have hb':s1.heap.objs.size<=b:=by
  rcases M0.mp hb with z|z
  ·rw[z];exact NX _
  ·have z:b=s1.heap.objs.size:=by simpa using z
   rw[z];exact M8 _
 exact I1.qO hb' (I1.aH.fresh hb')
def Bt(K:W.Frag)(tl:TE):TI:=λσ H R=>tl σ H λx H1=>match x with
 |.ref a=>match sq H1 a with
  |some (true,_)=>R (tQ K a) H1
  |some (false,_)=>R (uQ K a) H1
  |none=>(∃xs,aW K H1 a xs)/\R (uQ K a) H1
 |_=>False
def IF{l:Expr}(hl:PE X l tl):PI X tg l (Bt X.K tl):=by
 intro pins s σ H R I h;refine bJ (hl pins s σ H _ I h) λv s1 hq2=>?_;obtain⟨x,H1,I1,r1,q1⟩:=hq2;obtain⟨a,rfl,q⟩:∃a,x=V.ref a/\(((∃xs,aT X.K H1 a xs)/\R (tQ X.K a) H1)\/((∃xs,aW X.K H1 a xs)/\R (uQ X.K a) H1)):=by
  match x,q1 with
  |.ref a,q1 =>
   simp only at q1
   split at q1
   ·rename_i xs e;exact⟨a,rfl,.inl ⟨⟨xs,iy e⟩,q1⟩⟩
   ·rename_i xs e;exact⟨a,rfl,.inr ⟨⟨xs,hX e⟩,q1⟩⟩
   ·exact⟨a,rfl,.inr q1⟩
 cases r1;rcases q with ⟨⟨xs,hq⟩,q⟩|⟨⟨xs,hq⟩,q⟩
 ·obtain⟨its,rv,p,hz⟩:=I1.list hq;refine OW p.isList ?_;refine⟨s1.heap.objs.size,[s1.heap.objs.size],_,_,H1,rfl,I1.kept (t':=s1.toks) λb o e=>My _ e,oX a _,⟨_,MM _ rfl,rfl,rfl⟩,λb hb=>?_,q⟩;have e:b=s1.heap.objs.size:=by simpa using hb
  subst e;exact I1.qO (M8 _) (I1.aH.fresh (M8 _))
 ·obtain⟨its,rv,p,hz⟩:=I1.tuple hq;refine OP (show s1.heap.IsTuple a its.toArray from p) ?_;refine⟨s1.heap.objs.size,[s1.heap.objs.size],_,_,H1,rfl,I1.kept (t':=s1.toks) λb o e=>My _ e,lO a _,⟨_,MM _ rfl,rfl,rfl⟩,λb hb=>?_,q⟩;have e:b=s1.heap.objs.size:=by simpa using hb
  subst e;exact I1.qO (M8 _) (I1.aH.fresh (M8 _))
end
def sX(J:It)(g:TG)(tb:TS)(D:Ends)(σ:St)(H:Hp):Prop:=∃W:Nat->Nat->St->Hp->Prop,(∃m,W 0 m σ H)/\∀i m σ H,W i m σ H ->
 (J.stop i H/\D.nx σ H)\/(J.go i H/\∃N:St->Hp->Prop,(∀σ' H',N σ' H'->∃m',m'<m/\W (i+1) m' σ' H')/\∀x H',J.Gf i H x H'->g x σ H' λσ2 H2=>tb {D with nx:=N,ct:=N,bk:=D.nx} σ2 H2)
def El(wi:TI)(g:TG)(tb:TS)(D:Ends)(σ:St)(H:Hp):Ir wi g tb D σ H=wi σ H λJ H1=>sX J g tb D σ H1:=rfl
def ib(J:It)(k:Nat)(g:TG)(tc:TT)(te:TE)(Q:VK)(σ:St)(H1:Hp):Prop:=∀D,H1 D=none ->
 ∃W:Nat->Nat->List V->St->Hp->Prop,(∃m,W 0 m [] (List.replicate k none++σ) (upd H1 D (.lst [])))/\∀i m ys σ' H',W i m ys σ' H'->H' D=some (.lst ys) /\
  ((J.stop i H'/\Q (.ref D) H')\/(J.go i H'/\ys.length<sizeLine/\∀x H2,J.Gf i H' x H2->g x σ' H2 λσ3 H3=>tc σ3 H3 λb H4 =>
   if b=true then te σ3 H4 λv H5=>H5 D=some (.lst ys)/\∃m',m'<m/\W (i+1) m' (ys++[v]) σ3 (upd H5 D (.lst (ys++[v])))
   else ∃m',m'<m/\W (i+1) m' ys σ3 H4))
def A_(wi:TI)(k:Nat)(g:TG)(tc:TT)(te:TE)(σ:St)(H:Hp)(Q:VK):jo wi k g tc te σ H Q=wi σ H λJ H1=>ib J k g tc te Q σ H1:=rfl
section
variable {K:W.Frag} {g:TG} {tb:TS} {D:Ends} {σ:St} {H:Hp} {te:TE} {Q:VK}
def jR(Pv:Nat->St->Hp->Prop)(h0:Pv 0 σ H)(hl:∀i σ H,i<=xs.length->Pv i σ H->aT K H a xs)
  (hs:∀i x σ H,xs[i]?=some x->Pv i σ H->g x σ H λσ2 H2=>tb {D with nx:=Pv (i+1),ct:=Pv (i+1),bk:=D.nx} σ2 H2) (hd:∀σ H,Pv xs.length σ H->D.nx σ H):sX (tQ K a) g tb D σ H:=Bw Pv h0 hl hs hd
def BK(Pv:Nat->St->Hp->Prop)(h0:Pv 0 σ H)(hl:∀i σ H,i<=xs.length->Pv i σ H->aW K H a xs)
  (hs:∀i x σ H,xs[i]?=some x->Pv i σ H->g x σ H λσ2 H2=>tb {D with nx:=Pv (i+1),ct:=Pv (i+1),bk:=D.nx} σ2 H2) (hd:∀σ H,Pv xs.length σ H->D.nx σ H):sX (uQ K a) g tb D σ H:=Fc Pv h0 hl hs hd
def bB{lo:Int}{n:Nat}(Pv:Nat->St->Hp->Prop)(h0:Pv 0 σ H)
  (hs:∀i σ H,i<n->Pv i σ H->g (.int (lo+i)) σ H λσ2 H2=>tb {D with nx:=Pv (i+1),ct:=Pv (i+1),bk:=D.nx} σ2 H2) (hd:∀σ H,Pv n σ H->D.nx σ H):sX (FF lo n) g tb D σ H:=xJ Pv h0 hs hd
def Iy(Pv:Nat->St->Hp->Prop)(h0:Pv 0 σ H)(hl:∀i σ H,i<=xs.length->Pv i σ H->aW K H a xs)
  (hs:∀i x σ H p,xs[i]?=some x->Pv i σ H->H p=none->g (.ref p) σ (upd H p (.tup [.int i,x])) λσ2 H2=>tb {D with nx:=Pv (i+1),ct:=Pv (i+1),bk:=D.nx} σ2 H2) (hd:∀σ H,Pv xs.length σ H->D.nx σ H) :
  sX (Bl K a) g tb D σ H:=by
 refine⟨λi m σ H=>m=xs.length-i/\i<=xs.length/\Pv i σ H,⟨xs.length,by simp,MG _,h0⟩,?_⟩
 rintro i m σ H ⟨rfl,hi,p⟩;have q:=hl i σ H hi p;by_cases hlt:i<xs.length
 ·refine .inr ⟨⟨xs[i],xs,q,by simp[hlt]⟩,Pv (i+1),λσ' H' p'=>⟨xs.length-(i+1),by lia,rfl,hlt,p'⟩,λx H' y=>?_⟩
  obtain⟨b,y,hy,fr,rfl,rfl⟩:=y;exact hs i y σ H b (hy xs q) p fr
 ·have e:i=xs.length:=by lia
  subst e;exact .inl ⟨⟨xs,q,rfl⟩,hd σ H p⟩
def aU(hn:xs.length<=sizeLine)(Pv:Addr->Nat->List V->Hp->Prop)(h0:∀D,H D=none->Pv D 0 [] (upd H D (.lst [])))(hD:∀D i ys H',Pv D i ys H'->H' D=some (.lst ys)/\ys.length=i)
  (hl:∀D i ys H',Pv D i ys H'->aW K H' a xs)
  (hs:∀D i ys H' x (R:VK),xs[i]?=some x->Pv D i ys H'->(∀v H5,H5 D=some (.lst ys)->Pv D (i+1) (ys++[v]) (upd H5 D (.lst (ys++[v])))->R v H5)->te (some x::σ) H' R) (hd:∀D ys H',Pv D xs.length ys H'->Q (.ref D) H') :
  ib (uQ K a) 1 (aL 0) dP te Q σ H:=by
 intro D hD0;refine⟨λi m ys σ' H'=>m=xs.length-i/\i<=xs.length/\Pv D i ys H'/\∃o,σ'=o::σ,⟨xs.length,by simp,MG _,h0 D hD0,none,rfl⟩,?_⟩
 rintro i m ys σ' H' ⟨rfl,hi,p,o,rfl⟩;obtain⟨hDi,hly⟩:=hD _ _ _ _ p;have q:=hl _ _ _ _ p;refine⟨hDi,?_⟩;by_cases hlt:i<xs.length
 ·refine .inr ⟨⟨xs,xs[i],q,by simp[hlt]⟩,by lia,λx H2 y=>?_⟩
  obtain⟨rfl,y⟩:=y;unfold aL dP;dsimp only;rw[if_pos rfl];exact hs D i ys H2 x _ (y xs q) p λv H5 q1 q2=>⟨q1,xs.length-(i+1),by lia,rfl,hlt,q2,_,rfl⟩
 ·have e:i=xs.length:=by lia
  subst e;exact .inl ⟨⟨xs,q,M8 _⟩,hd D ys H' p⟩
end
namespace Ap
def t9(i:Nat)(σ:St)(H:Hp)(Q:VK):L2.t9 i σ H Q=∃v,σ[i]?=some (some v)/\Q v H:=rfl
def tC(v:V)(σ:St)(H:Hp)(Q:VK):L2.tC v σ H Q=Q v H:=rfl
def Bq(r:R2)(ta tb:TE)(σ:St)(H:Hp)(Q:VK):L2.Bq r ta tb σ H Q=ta σ H λx H1=>tb σ H1 λy H2=>r x y H2 Q:=rfl
def JW(r:V->Hp->VK->Prop)(ta:TE)(σ:St)(H:Hp)(Q:VK):L2.JW r ta σ H Q=ta σ H λx H1=>r x H1 Q:=rfl
def mF(t:TE)(σ:St)(H:Hp)(Q:Bool->Hp->Prop):L2.mF t σ H Q=t σ H λx H'=>∃k,x=.bl k/\Q k H':=rfl
def KO(t:TT)(ta tb:TE)(σ:St)(H:Hp)(Q:VK):L2.KO t ta tb σ H Q=t σ H λc H1=>if c=true then ta σ H1 Q else tb σ H1 Q:=rfl
def AA(t u:TT)(σ:St)(H:Hp)(Q:Bool->Hp->Prop):L2.AA t u σ H Q=t σ H λc H1=>if c=true then u σ H1 Q else Q false H1:=rfl
def Kl(t u:TT)(σ:St)(H:Hp)(Q:Bool->Hp->Prop):L2.Kl t u σ H Q=t σ H λc H1=>if c=true then Q true H1 else u σ H1 Q:=rfl
def Ab(t:TT)(σ:St)(H:Hp)(Q:Bool->Hp->Prop):L2.Ab t σ H Q=t σ H λc H1=>Q (!c) H1:=rfl
def rG(ta tb:TE)(σ:St)(H:Hp)(Q:VK):L2.rG ta tb σ H Q=ta σ H λx H1=>∃c,x=.bl c/\if c=true then tb σ H1 Q else Q (.bl false) H1:=rfl
def Cf(ta tb:TE)(σ:St)(H:Hp)(Q:VK):L2.Cf ta tb σ H Q=ta σ H λx H1=>∃c,x=.bl c/\if c=true then Q (.bl true) H1 else tb σ H1 Q:=rfl
def iT(r r':R2)(ta tb tc:TE)(σ:St)(H:Hp)(Q:VK):L2.iT r r' ta tb tc σ H Q=ta σ H λx H1=>tb σ H1 λy H2=>r x y H2 λz H3=>∃k,z=.bl k/\(if k=true then tc σ H3 λw' H4=>r' y w' H4 Q else Q (.bl false) H3):=rfl
def tK(vs:List V)(σ:St)(H:Hp)(Q:List V->Hp->Prop):L2.tK vs σ H Q=Q vs H:=rfl
def iA(σ:St)(H:Hp)(Q:List V->Hp->Prop):L2.iA σ H Q=Q [] H:=rfl
def iK(ta:TE)(tr:TA)(σ:St)(H:Hp)(Q:List V->Hp->Prop):L2.iK ta tr σ H Q=ta σ H λx H1=>tr σ H1 λxs H2=>Q (x::xs) H2:=rfl
def BS(t:TA)(σ:St)(H:Hp)(Q:VK):L2.BS t σ H Q=t σ H λxs H1=>xs.length<=sizeLine/\∀p,H1 p=none->Q (.ref p) (upd H1 p (.tup xs)):=rfl
def CF(t:TA)(σ:St)(H:Hp)(Q:VK):L2.CF t σ H Q=t σ H λxs H1=>xs.length<=sizeLine/\∀p,H1 p=none->Q (.ref p) (upd H1 p (.lst xs)):=rfl
def iE(sp:Sp)(dvs:List V)(E:XK)(t:TA)(σ:St)(H:Hp)(Q:VK):L2.iE sp dvs E t σ H Q=t σ H λvs H1=>sp (vs++dvs) H1 Q E:=rfl
def yT(r:List V->Hp->VK->Prop)(t:TA)(σ:St)(H:Hp)(Q:VK):L2.yT r t σ H Q=t σ H λvs H1=>r vs H1 Q:=rfl
def Hc(K:W.Frag)(T:String)(r:V->List V->Hp->VK->Prop)(to:TE)(t:TA)(σ:St)(H:Hp)(Q:VK):L2.Hc K T r to t σ H Q=to σ H λx H1=>Jp K T x H1/\t σ H1 λxs H2=>r x xs H2 Q:=rfl
def Bu(K:W.Frag)(T:String)(r:V->List V->Hp->VK->Prop)(to:TE)(σ:St)(H:Hp)(Q:VK):L2.Bu K T r to σ H Q=to σ H λx H1=>Jp K T x H1/\r x [] H1 Q:=rfl
def Km(r:V->Option Int->Option Int->Hp->VK->Prop)(te:TE)(tl th:TO)(σ:St)(H:Hp)(Q:VK):L2.Km r te tl th σ H Q=te σ H λx H1=>tl σ H1 λl H2=>th σ H2 λu H3=>r x l u H3 Q:=rfl
def jm(σ:St)(H:Hp)(Q:Option Int->Hp->Prop):L2.jm σ H Q=Q none H:=rfl
def sI(t:TE)(σ:St)(H:Hp)(Q:Option Int->Hp->Prop):L2.sI t σ H Q=t σ H λx H1=>∃i,x=.int i/\Q (some i) H1:=rfl
def xY(t u:TS)(D:Ends)(σ:St)(H:Hp):L2.xY t u D σ H=t {D with nx:=u D} σ H:=rfl
def mG(te:TE)(g:TG)(D:Ends)(σ:St)(H:Hp):L2.mG te g D σ H=te σ H λx H1=>g x σ H1 D.nx:=rfl
def aL(i:Nat)(v:V)(σ:St)(H:Hp)(Q:St->Hp->Prop):L2.aL i v σ H Q=Q (σ.set i (some v)) H:=rfl
def BV(to ti:TE)(t:EC)(v:V)(σ:St)(H:Hp)(Q:St->Hp->Prop):L2.BV to ti t v σ H Q=to σ H λo H1=>ti σ H1 λi H2=>t o i v H2 λH3=>Q σ H3:=rfl
def nW(K:W.Frag)(n:Nat)(t:yS)(v:V)(σ:St)(H:Hp)(Q:St->Hp->Prop):L2.nW K n t v σ H Q=∃a xs,v=.ref a/\aW K H a xs/\xs.length=n/\t xs σ H Q:=rfl
def e8(t:TG)(u:yS)(v:V)(vs:List V)(σ:St)(H:Hp)(Q:St->Hp->Prop):L2.e8 t u (v::vs) σ H Q=t v σ H λσ' H'=>u vs σ' H' Q:=by
 refine propext ⟨λhq1=>?_,λh=>⟨v,vs,rfl,h⟩⟩;obtain⟨a,b,e,h⟩:=hq1
 cases e;exact h
def nY(σ:St)(H:Hp)(Q:St->Hp->Prop):L2.nY [] σ H Q=Q σ H:=propext ⟨λh=>h.2,λh=>⟨rfl,h⟩⟩
def Ct(te:TE)(D:Ends)(σ:St)(H:Hp):L2.Ct te D σ H=te σ H D.rt:=rfl
def qT(te:TE)(D:Ends)(σ:St)(H:Hp):L2.qT te D σ H=te σ H λ_ H1=>D.nx σ H1:=rfl
def qo(c:TT)(t u:TS)(D:Ends)(σ:St)(H:Hp):L2.qo c t u D σ H=c σ H λb H1=>if b=true then t D σ H1 else u D σ H1:=rfl
def rV(D:Ends)(σ:St)(H:Hp):L2.rV D σ H=D.nx σ H:=rfl
def oh(ta:TA)(σ:St)(H:Hp)(R:It->Hp->Prop):L2.oh ta σ H R=ta σ H λvs H1=>∃j:Int,vs=[.int j]/\-(2^62)<=j/\j<2^62/\R (FF 0 j.toNat) H1:=rfl
theorem Bt(K:W.Frag)(tl:TE)(σ:St)(H:Hp)(R:It->Hp->Prop):L2.Bt K tl σ H R=tl σ H λx H1=>match x with
 |.ref a=>match sq H1 a with
  |some (true,_)=>R (tQ K a) H1
  |some (false,_)=>R (uQ K a) H1
  |none=>(∃xs,aW K H1 a xs)/\R (uQ K a) H1
 |_=>False:=rfl
def rf(K:W.Frag)(ta:TA)(σ:St)(H:Hp)(R:It->Hp->Prop):L2.rf K ta σ H R=ta σ H λvs H1=>∃a,vs=[.ref a]/\(∃xs,aW K H1 a xs)/\R (Bl K a) H1:=rfl
def rI(C:Int->Int->Prop)(g:Int->Int->V)(i j:Int)(H:Hp)(Q:VK):L2.rI C g (.int i) (.int j) H Q=(C i j/\Q (g i j) H):=by
 refine propext ⟨λhq2=>?_,λh=>⟨i,j,rfl,rfl,h⟩⟩;obtain⟨a,b,e1,e2,h⟩:=hq2
 cases e1;cases e2;exact h
def Ba(g:Int->Int->V)(i j:Int)(H:Hp)(Q:VK):L2.Ba g (.int i) (.int j) H Q=Q (g i j) H:=by
 refine propext ⟨λhq3=>?_,λh=>⟨i,j,rfl,rfl,h⟩⟩;obtain⟨a,b,e1,e2,h⟩:=hq3
 cases e1;cases e2;exact h
def rU(g:Int->V)(i:Int)(H:Hp)(Q:VK):L2.rU g (.int i) H Q=Q (g i) H:=by
 refine propext ⟨λhq4=>?_,λh=>⟨i,rfl,h⟩⟩;obtain⟨a,e1,h⟩:=hq4
 cases e1;exact h
def J8(K:W.Frag)(i j:Int)(H:Hp)(Q:VK):yb K (.int i) (.int j) H Q=Q (.int (i+j)) H:=rfl
def Jw(K:W.Frag)(i j:Str)(H:Hp)(Q:VK):yb K (.str i) (.str j) H Q=(i.length+j.length<=sizeLine/\Q (.str (i++j)) H):=rfl
def KC(i j:Int)(H:Hp)(Q:VK):HD (.int i) (.int j) H Q=(Br i j/\Q (.int (i*j)) H):=rfl
def LG(i j:Int)(H:Hp)(Q:VK):HI (.int i) (.int j) H Q=Q (.bl (decide (i=j))) H:=by
 have e:decide (V.int i=V.int j)=decide (i=j):=by rw[Og];constructor<;>intro h<;>(try cases h)<;>(try rw[h])<;>rfl
 unfold HI;rw[e];exact propext ⟨λh=>h.2,λh=>⟨rfl,h⟩⟩
def D9(i j:Str)(H:Hp)(Q:VK):HI (.str i) (.str j) H Q=Q (.bl (decide (i=j))) H:=by
 have e:decide (V.str i=V.str j)=decide (i=j):=by rw[Og];constructor<;>intro h<;>(try cases h)<;>(try rw[h])<;>rfl
 unfold HI;rw[e];exact propext ⟨λh=>h.2,λh=>⟨rfl,h⟩⟩
def Ki(i j:Int)(H:Hp)(Q:VK):Gy (.int i) (.int j) H Q=Q (.bl (!decide (i=j))) H:=by
 have e:decide (V.int i=V.int j)=decide (i=j):=by rw[Og];constructor<;>intro h<;>(try cases h)<;>(try rw[h])<;>rfl
 unfold Gy;rw[e];exact propext ⟨λh=>h.2,λh=>⟨rfl,h⟩⟩
def Ls(i j:Str)(H:Hp)(Q:VK):Gy (.str i) (.str j) H Q=Q (.bl (!decide (i=j))) H:=by
 have e:decide (V.str i=V.str j)=decide (i=j):=by rw[Og];constructor<;>intro h<;>(try cases h)<;>(try rw[h])<;>rfl
 unfold Gy;rw[e];exact propext ⟨λh=>h.2,λh=>⟨rfl,h⟩⟩
def Lb(K:W.Frag)(b:Bool)(H:Hp)(k:Bool):xE K (.bl b) H k=(k=b):=rfl
def Mc(CX:qe)(P:Program)(w:World)(K:W.Frag)(mg:Str->Option Value)(base:Heap)(N:List Str)(qual:Str)(scope:Scope)(f:Addr)(cd:Value)(A:Around)(outer:List Env)(s:Shared)(H:Hp)(E:XK):(kM CX P w K mg base N qual scope f cd A outer s H E).K=K:=rfl
end Ap
def KB(ex:List Addr)(H H':Hp):Prop:=∀b o,H b=some o->b∉ex->H' b=some o
def KB.refl(ex:List Addr)(H:Hp):KB ex H H:=λ_ _ e _=>e
def KB.trans{H1 H2:Hp}(a:KB ex H H1)(b:KB ex H1 H2):KB ex H H2:=λc o e n=>b c o (a c o e n) n
def KB.mono{ex':List Addr}(h:KB ex H H')(s:∀b∈ex,b∈ex'):KB ex' H H':=λb o e n=>h b o e λz=>n (s b z)
def KB.all(h:KB [] H H'):KB ex H H':=h.mono (by simp)
def KB.new(h:H p=none):KB ex H (upd H p o):=λb u e _=>by rw[af (ae e h)];exact e
def KB.set(h:p∈ex):KB ex H (upd H p o):=λb u e n=>by rw[af (λ(z:b=p)=>n (by rw[z];exact h))];exact e
def KB.free(h:KB ex H H'){b:Addr}(n:b∉ex)(e:H' b=none):H b=none:=by
 cases q:H b with
 |none=>rfl
 |some o=>rw[h b o q n] at e;cases e
def KB.GK(h:KB ex H H')(n:a∉ex)(q:aT K H a xs):aT K H' a xs:=by
 rcases q with (q|⟨o,q⟩)|q
 ·exact .inl (.inl (h _ _ q n))
 ·exact .inl (.inr ⟨o,h _ _ q n⟩)
 ·exact .inr q
def uK(x:α)(r:List α):bQ (x::r) 0=some x:=aV (j:=0) rfl
def Hk(a x:α)(r:List α):bQ (a::x::r) 1=some x:=aV (j:=1) rfl
def L7(a b x:α)(r:List α):bQ (a::b::x::r) 2=some x:=aV (j:=2) rfl
def L8(a b c x:α)(r:List α):bQ (a::b::c::x::r) 3=some x:=aV (j:=3) rfl
def vo{n:Nat}{i:Int}(h0:0<=i)(h:i<n):jE n i=some i.toNat:=by unfold jE;rw[MD h0,MD h]
namespace Ap
def Ge(K:W.Frag)(p:Addr)(i:Int)(H:Hp)(Q:VK):Fj K (.ref p) (.int i) H Q=(match sq H p with
  |some (_,xs)=>(match bQ xs i with|some v=>Q v H|none=>False)
  |none=>∃xs v,aW K H p xs/\bQ xs i=some v/\Q v H):=rfl
def Kv(K:W.Frag)(z:Str)(i:Int)(H:Hp)(Q:VK):Fj K (.str z) (.int i) H Q=(z.length<=sizeLine/\(match bQ z.cps.toList i with|some c=>Q (.str ⟨#[c]⟩) H|none=>False)):=rfl
def setRef(p:Addr)(k:Int)(v:V)(H:Hp)(Q:Hp->Prop):zA (.ref p) (.int k) v H Q=(match H p with
  |some (.lst xs)=>(match jE xs.length k with|some j=>Q (upd H p (.lst (xs.set j v)))|none=>False)
  |_=>False):=rfl
def HM(K:W.Frag)(p:Addr)(H:Hp)(Q:VK):BF K [.ref p] H Q=(match sq H p with
  |some (_,ys)=>Q (.int ys.length) H
  |none=>∃ys,aW K H p ys/\Q (.int ys.length) H):=rfl
def GV(K:W.Frag)(y:Str)(H:Hp)(Q:VK):BF K [.str y] H Q=(y.length<=sizeLine/\Q (.int y.length) H):=rfl
def J_(i j:Int)(H:Hp)(Q:VK):K4 [.int i,.int j] H Q=Q (.int (if j<i then j else i)) H:=rfl
def Lc(k:Bool)(H:Hp)(Q:VK):HE [.bl k] H Q=Q (.int (if k=true then 1 else 0)) H:=rfl
def L0(i:Int)(H:Hp)(Q:VK):xC [.int i] H Q=(i.natAbs.log2<1920/\Q (.str (toString i)) H):=rfl
def Lo(z:Str)(H:Hp)(Q:VK):xC [.str z] H Q=Q (.str z) H:=rfl
def uv(K:W.Frag)(p:Addr)(H:Hp)(Q:VK):pH K [.ref p] H Q=(match sq H p with
  |some (true,ys)=>∀l,H l=none->Q (.ref l) (upd H l (.tup ys))
  |some (false,_)=>Q (.ref p) H
  |none=>∃ys,aW K H p ys/\Q (.ref p) H):=rfl
def Ky(K:W.Frag)(p:Addr)(lo hi:Option Int)(H:Hp)(Q:VK):KU K (.ref p) lo hi H Q=(match sq H p with
  |some (true,xs)=>∀q,H q=none->Q (.ref q) (upd H q (.lst (cC xs lo hi)))
  |some (false,xs)=>vh K (.ref p) lo hi H Q
  |none=>vh K (.ref p) lo hi H Q):=rfl
def J7(K:W.Frag)(neg:Bool)(x:V)(p:Addr)(H:Hp)(Q:VK):JL K neg x (.ref p) H Q=(match sq H p with
  |some (_,xs)=>cw x=true/\xs.all cw=true/\Q (.bl (if neg then !jA x xs else jA x xs)) H
  |none=>∃xs,aW K H p xs/\cw x=true/\xs.all cw=true/\Q (.bl (if neg then !jA x xs else jA x xs)) H):=rfl
def Lp(K:W.Frag)(x:V)(T:String)(H:Hp)(Q:VK):Hw K [x,.ty T] H Q=(T∈["bool","int","str","list","tuple","dict"]/\match HC H x with
  |some t=>Q (.bl (vf t T)) H
  |none=>∃t b,iZ K H x t/\W.kitOne K t (.type T)=some b/\Q (.bl b) H):=rfl
def addRef(K:W.Frag)(a b:Addr)(H:Hp)(Q:VK):yb K (.ref a) (.ref b) H Q=(match H a,H b with
  |some (.lst xs),some (.lst ys)=>xs.length+ys.length<=sizeLine/\∀p,H p=none->Q (.ref p) (upd H p (.lst (xs++ys)))
  |some (.tup xs),some (.tup ys)=>xs≠[]/\ys≠[]/\xs.length+ys.length<=sizeLine/\∀p,H p=none->Q (.ref p) (upd H p (.tup (xs++ys)))
  |_,_=>False):=rfl
def HW(H:Hp)(p:Addr)(xs:List V):sq (upd H p (.lst xs)) p=some (true,xs):=au aa
def Ec(H:Hp)(p:Addr)(xs:List V):sq (upd H p (.tup xs)) p=some (false,xs):=a8 aa
end Ap
def ax{t u:TS}{D:Ends}(h:∀N,N=u D->t {D with nx:=N} σ H):xY t u D σ H:=h _ rfl
structure QE (X:Cx) (e:Expr) (t:TE):Prop where h:PE X e t
structure QT (X:Cx) (e:Expr) (t:TT):Prop where h:PT X e t
structure QW (X:Cx) (e:Expr) (t:TT):Prop where h:PW X e t
structure QA (X:Cx) (es:List Expr) (t:TA):Prop where h:PA X es t
structure QS (X:Cx) (st:Stmt) (t:TS):Prop where h:PS X st t
structure QB (X:Cx) (sts:List Stmt) (t:TS):Prop where h:vd X sts t
structure QI (X:Cx) (tg it:Expr) (t:TI):Prop where h:PI X tg it t
structure QG (X:Cx) (e:Expr) (t:TG):Prop where h:PG X e t
structure La (X:Cx) (es:List Expr) (t:yS):Prop where h:JD X es t
structure QO (X:Cx) (e:Option Expr) (t:TO):Prop where h:PO X e t
structure Js (X:Cx) (es:List Expr) (t:TT):Prop where h:GU X es t
namespace Z
def sim(b:Expr):Bool:=match b with
 |.Name .. |.Constant .. |.Call .. |.BinOp .. |.Subscript .. |.Attribute .. |.UnaryOp .. |.Compare .. |.IfExp ..=>true
 |_=>false
def LZ(h:sim b=true):vR b:=by
 cases b<;>first | (intro _ _;rfl)|cases h
def LR(b:Expr):Bool:=match b with
 |.Name .. |.Call .. |.Subscript .. |.Attribute ..=>true
 |_=>false
def ptr(h:LR b=true):∀whole,isTrue b env whole=(do let v <- whole;standAt b.pos;holding [v] (truthy v)):=by
 cases b<;>first | (intro _;rfl)|cases h
def KW(b:Expr):Bool:=match b with
 |.ListComp .. |.SetComp .. |.DictComp ..=>false
 |_=>true
def LN{tg:Option Expr}{l:Nat}(h:KW b=true):swapsWith b tg l env=pure false:=by
 cases b<;>first|rfl|cases h
section
variable {X:Cx}
def aI(K:W.Frag)(hK:X.K=K):cY X (binaryOp .Add) (yb K):=by subst hK;exact EI
def yB(K:W.Frag)(hK:X.K=K)(hu:k<cLine):cY X (compareOp .In) (JL K false):=by subst hK;exact HQ hu
def aD(K:W.Frag)(hK:X.K=K)(hu:k<cLine):yc X (Fj K):=by subst hK;exact Mm hu
def pL(K:W.Frag)(hK:X.K=K):vT X (KU K):=by subst hK;exact Ei
def FI(K:W.Frag)(hK:X.K=K):vT X (IQ K):=by subst hK;exact qA
def bL(K:W.Frag)(hK:X.K=K):aX X (.builtin "len") (BF K):=by subst hK;exact xD
def v9(K:W.Frag)(hK:X.K=K):aX X (.builtin "len") (λxs H Q=>∃x n,xs=[x]/\K3 K x H n/\Q (.int n) H):=by subst hK;exact jx
def zQ(K:W.Frag)(hK:X.K=K):aX X (.builtin "isinstance") (Hw K):=by subst hK;exact xO
def c7(K:W.Frag)(hK:X.K=K):aX X (.type "tuple") (pH K):=by subst hK;exact qR
def JF(K:W.Frag)(hK:X.K=K)(hc:X.calm=true):aX X (.builtin "sum") (λxs H Q=>∃(p:Addr) (ns:List Int),xs=[.ref p]/\aT K H p (ns.map V.int)/\Q (.int ns.sum) H):=by subst hK;exact yh hc
def iO(K:W.Frag)(hK:X.K=K):uU X "str.join" (rJoin K):=by subst hK;exact ES
end
section
variable {X:Cx} {a b c e o:Expr} {es:List Expr} {ta tb tc te to:TE} {t:TA} {pos p p2:Pos} {tA tB':TT} {rest:List Expr} {x:Str}
def int{i:Int}:QE X (.Constant (.int i) j pos) (tC (.int i)):=⟨zu⟩
def bl{i:Bool}:QE X (.Constant (.bool i) j pos) (tC (.bl i)):=⟨FV⟩
def aN:QE X (.Constant .none j pos) (tC .aN):=⟨zM⟩
def str{i:Str}:QE X (.Constant (.str i) j pos) (tC (.str i)):=⟨zB⟩
def v(i:Nat)(hN:autoParam (X.N[i]?=some x) ℜ0)(hv:autoParam (J9 X.env.scope x) ℜ4)(hd:autoParam ((x ==("__debug__":Str))=false) ℜ1)
  (kB:autoParam ((x ==("__classdict__":Str))=false) ℜ1):QE X (.Name x pos) (t9 i):=⟨pv i hN hv hd kB⟩
def glob{w:V}{u:Value}(hg:Gl X x)(hm:X.mg x=some u)(r:RelV w u)(hd:autoParam ((x ==("__debug__":Str))=false) ℜ1):QE X (.Name x pos) (tC w):=⟨pK hg hm r hd⟩
def op{o:Operator}{r:R2}(ho:cY X (binaryOp o) r)(ha:QE X a ta)(hb:QE X b tb):QE X (.BinOp a o b pos) (Bq r ta tb):=⟨Kh ho ha.h hb.h⟩
def un{o:UnaryOp}{r:V->Hp->VK->Prop}(ho:KY X (unaryOp o) r)(ha:QE X a ta):QE X (.UnaryOp o a pos) (JW r ta):=⟨JI ho ha.h⟩
def cmp{o:CmpOp}{r:R2}(ho:cY X (compareOp o) r)(ha:QE X a ta)(hb:QE X b tb)(hm:autoParam (behindInMarks o b=false) ℜ0):QE X (.Compare a [o] [b] pos) (Bq r ta tb):=⟨E9 ho ha.h hb.h hm⟩
def chain{o o':CmpOp}{r r':R2}(ho:cY X (compareOp o) r)(ho':cY X (compareOp o') r')(ha:QE X a ta)(hb:QE X b tb)(hc:QE X c tc)(hm:autoParam (lastMarks [o,o'] [b,c]=false) ℜ5):QE X (.Compare a [o,o'] [b,c] pos) (iT r r' ta tb tc):=⟨Bp ho ho' ha.h hb.h hc.h hm⟩
def and(ha:QE X a ta)(hb:QE X (.BoolOp .And (b::rest) pos) tb):QE X (.BoolOp .And (a::b::rest) pos) (rG ta tb):=⟨IY ha.h hb.h⟩
def or(ha:QE X a ta)(hb:QE X (.BoolOp .Or (b::rest) pos) tb):QE X (.BoolOp .Or (a::b::rest) pos) (Cf ta tb):=⟨Kq ha.h hb.h⟩
def one{o:BoolOp}(ha:QE X a ta):QE X (.BoolOp o [a] pos) ta:=⟨HB ha.h⟩
def not(ha:QE X a ta):QE X (.UnaryOp .Not a pos) (sE ta):=⟨Ii ha.h⟩
def Ag(hc:QT X c tA)(ha:QE X a ta)(hb:QE X b tb):QE X (.IfExp c a b pos) (KO tA ta tb):=⟨Af hc.h ha.h hb.h⟩
def slice{r:V->Option Int->Option Int->Hp->VK->Prop}{lo hi:Option Expr}{tl th:TO}(hr:vT X r)(he:QE X e te)(hl:QO X lo tl)(hu:QO X hi th):QE X (.Subscript e (.Slice lo hi none p2) pos) (Km r te tl th):=⟨BC hr he.h hl.h hu.h⟩
def nI:QO X none jm:=⟨Ek⟩
def nG(he:QE X e te):QO X (some e) (sI te):=⟨Ey he.h⟩
def ix{r:R2}(hr:yc X r)(ha:QE X a ta)(hb:QE X b tb)(hs:autoParam (sim b=true) ℜ0):QE X (.Subscript a b pos) (Bq r ta tb):=⟨FG hr ha.h hb.h (LZ hs)⟩
def tup(h:QA X es t):QE X (.Tuple es k pos) (BS t):=⟨Iq h.h⟩
def lst(h:QA X es t):QE X (.List es pos) (CF t):=⟨HJ h.h⟩
def nil:QA X [] iA:=⟨BB⟩
def cons(ha:QE X e te)(hr:QA X es t)(h:autoParam (fF e=true) ℜ0):QA X (e::es) (iK te t):=⟨Le ha.h hr.h h⟩
def consts{vs:List V}(h:wj es=some vs):QA X es (tK vs):=⟨oj h⟩
def cb{id:String}(hc:aX X (.builtin id) r)(hg:Gl X x)(hm:X.mg x=none)(hv:bootBuiltins x=some (.builtin id))(ha:QA X (e::es) t)(h1:autoParam (fF e=true) ℜ0)(h2:autoParam (es.all fF=true) ℜ0)(hn:autoParam (x≠"__name__") ℜ1)(hdb:autoParam ((x ==("__debug__":Str))=false) ℜ1):
  QE X (.Call (.Name x p) (e::es) [] pos) (yT r t):=⟨Kp hc hg hm hv ha.h h1 h2 hn hdb⟩
def ct{T:String}(hc:aX X (.type T) r)(hg:Gl X x)(hm:X.mg x=none)(hv:bootBuiltins x=some (.type T))(ha:QA X (e::es) t)(h1:autoParam (fF e=true) ℜ0)(h2:autoParam (es.all fF=true) ℜ0)(hn:autoParam (x≠"__name__") ℜ1)(hdb:autoParam ((x ==("__debug__":Str))=false) ℜ1):
  QE X (.Call (.Name x p) (e::es) [] pos) (yT r t):=⟨JU hc hg hm hv ha.h h1 h2 hn hdb⟩
def Lg{T:String}(hg:Gl X x)(hm:X.mg x=none)(hv:bootBuiltins x=some (.type T))(hn:autoParam (x≠"__name__") ℜ1)(hd:autoParam ((x ==("__debug__":Str))=false) ℜ1):QE X (.Name x pos) (tC (.ty T)):=⟨Hb hg hm hv hn hd⟩
def fn{ps:List Str}{E:XK}(F:ao X.prog X.w X.K X.mg X.base CX k x ps sp)(hr:bw k X.A)(hg:Gl X x)(hx:Passes CX X E)(ha:QA X (e::es) t)(h1:autoParam (fF e=true) ℜ0)(h2:autoParam (es.all fF=true) ℜ0)(hdb:autoParam ((x ==("__debug__":Str))=false) ℜ1):
  QE X (.Call (.Name x p) (e::es) [] pos) (iE sp [] E t):=⟨JE F hr hg hx ha.h h1 h2 hdb⟩
def Md{ps:List Str}{E:XK}(F:ao X.prog X.w X.K X.mg X.base CX k x ps sp)(hr:bw k X.A)(hg:Gl X x)(hx:Passes CX X E)(hdb:autoParam ((x ==("__debug__":Str))=false) ℜ1):
  QE X (.Call (.Name x p) [] [] pos) (iE sp [] E iA):=⟨Gx F hr hg hx hdb⟩
def bm(K:W.Frag)(hK:X.K=K){name:Str}{apos:Pos}{T id:String}{r:V->List V->Hp->VK->Prop}(pa:PlainAttrs T)(slot:Slot T name id)(hty:typeOf (.builtin id)=pure (.type "method_descriptor"))(hm:uU X id r)(ho:QE X o to)(ha:QA X (e::es) t)
  (hbase:autoParam (attributeBase o name X.env (eval o X.env)=eval o X.env) ℜ0) (hline:autoParam ((apos.endLine == pos.line)=true) ℜ0) (h:autoParam ((e::es).all fF=true) ℜ0) (hl:autoParam ((e::es).length<30) ℜ1):QE X (.Call (.Attribute o name apos) (e::es) [] pos) (Hc K T r to t):=by
 subst hK;exact⟨Gr pa slot hty hm ho.h ha.h hbase hline h hl⟩
def comp{wi:TI}{tc:TT}(S:az osc ON scope own N)(hosc:X.env.scope=osc)(hON:X.N=ON)(hc:X.calm=true)(hi:QI X tg iter wi)
  (hg:∀C s H fp,QG (aO X scope N C s H fp) tg g) (ht:∀C s H fp,Js (aO X scope N C s H fp) ifs tc) (he:∀C s H fp,QE (aO X scope N C s H fp) elt te) (hs:autoParam (∀x,foldedSetIterable iter X.env x=pure x) ℜ3) :
  QE X (.ListComp elt [⟨tg,iter,ifs,0⟩] scope pos) (jo wi own.length g tc te):=⟨Er S hosc hON hc hi.h (λC s H fp=>(hg C s H fp).h) (λC s H fp=>(ht C s H fp).h) (λC s H fp=>(he C s H fp).h) hs⟩
def aK{o:CmpOp}{r:R2}(ho:cY X (compareOp o) r)(ha:QE X a ta)(hb:QE X b tb)(hm:autoParam (behindInMarks o b=false) ℜ0):QT X (.Compare a [o] [b] pos) (mF (Bq r ta tb)):=⟨E6 ho ha.h hb.h hm⟩
def IA{o o':CmpOp}{r r':R2}(ho:cY X (compareOp o) r)(ho':cY X (compareOp o') r')(ha:QE X a ta)(hb:QE X b tb)(hc:QE X c tc)(hm:autoParam (lastMarks [o,o'] [b,c]=false) ℜ5):QT X (.Compare a [o,o'] [b,c] pos) (mF (iT r r' ta tb tc)):=⟨BJ ho ho' ha.h hb.h hc.h hm⟩
def tw(h:QW X e tA):QT X e tA:=⟨h.h.pt⟩
def j7(ha:QT X a tA):QT X (.UnaryOp .Not a pos) (Ab tA):=⟨GG ha.h⟩
def Df(K:W.Frag)(ta:TE):TT:=λσ H Q=>ta σ H λx H'=>∃k,xE K x H' k/\Q k H'
def j6(K:W.Frag)(hK:X.K=K)(ha:QE X a ta)(he:autoParam (LR a=true) ℜ0):QT X a (Df K ta):=by subst hK;exact⟨zC ha.h (ptr he)⟩
def ko(ha:QT X a tA):QW X (.BoolOp .And [a] pos) tA:=⟨Ew ha.h⟩
def sj(ha:QT X a tA):QW X (.BoolOp .Or [a] pos) tA:=⟨GX ha.h⟩
def rj(ha:QT X a tA)(hb:QW X (.BoolOp .And (b::rest) pos) tB'):QW X (.BoolOp .And (a::b::rest) pos) (AA tA tB'):=⟨Ip ha.h hb.h⟩
def Gd(ha:QT X a tA)(hb:QW X (.BoolOp .Or (b::rest) pos) tB'):QW X (.BoolOp .Or (a::b::rest) pos) (Kl tA tB'):=⟨Jx ha.h hb.h⟩
def aA(hN:X.N.Nodup)(hi:X.N[i]?=some x)(hx:Loc X.env.scope x)(hf:autoParam (X.fn x=true\/X.env.scope.names.lookup x=some .local) ℜ2):QG X (.Name x pos) (aL i):=⟨EM hN hi hx hf⟩
def kP(K:W.Frag)(hK:X.K=K){n:Nat}{tg:yS}(hc:X.calm=true)(h:La X es tg)(hn:autoParam ((assignEach es X.env).length=n) ℜ0)(hst:autoParam ((assignEach es X.env).findIdx? (·.1)=none) ℜ0):QG X (.Tuple es k pos) (nW K n tg):=by subst hK;exact⟨GA hc h.h hn hst⟩
def gR:La X [] nY:=⟨Fg⟩
def bq{u:yS}(h1:QG X e g)(h2:La X es u)(hs:autoParam ((assignEach (e::es) X.env).map (·.2)=assign e X.env::(assignEach es X.env).map (·.2)) ℜ0):La X (e::es) (e8 g u):=⟨Cy h1.h h2.h hs⟩
def nK{i:Expr}{ti:TE}(ho:QE X o to)(hi:QE X i ti)
  (ha:autoParam (∀v,assign (.Subscript o i pos) X.env v=(do
   let ov <- holding [v] (eval o X.env)
   let iv <- holding [v,ov] (eval i X.env)
   standAt pos
   holding [v,ov,iv] (setItem ov iv v)
   release [v,ov,iv] [])) ℜ3):QG X (.Subscript o i pos) (BV to ti zA):=⟨IT ho.h hi.h uset ha⟩
def my{ta:TA}(hg:Gl X "range")(hm:X.mg "range"=none)(ha:QA X [a] ta)(h:autoParam (fF a=true) ℜ0):QI X tg (.Call (.Name "range" p) [a] [] pos) (oh ta):=⟨vj hg hm ha.h h⟩
def enum(K:W.Frag)(hK:X.K=K){tp:Pos}{ta:TA}(hg:Gl X "enumerate")(hm:X.mg "enumerate"=none)(ha:QA X [e] ta)(h1:autoParam (fF e=true) ℜ0):QI X (.Tuple es k tp) (.Call (.Name "enumerate" p) [e] [] pos) (rf K ta):=by subst hK;exact⟨Fd hg hm ha.h h1⟩
def any(K:W.Frag)(hK:X.K=K){l:Expr}(hl:QE X l tl):QI X tg l (Bt K tl):=by subst hK;exact⟨IF hl.h⟩
def je:Js X [] dP:=⟨DH⟩
def LV(h:QT X c tA):Js X [c] tA:=⟨EZ h.h⟩
end
section
variable {X:Cx} {e o tg:Expr} {te to:TE} {st:Stmt} {sts xs ys:List Stmt} {t u:TS} {pos pos':Pos} {x:Str}
def bp:QB X [] rV:=⟨DA⟩
def ay(h:QS X st t):QB X [st] t:=⟨ET h.h⟩
def aq(h:QS X st t)(h2:QB X sts u):QB X (st::sts) (xY t u):=⟨AN h.h h2.h⟩
def set(hN:X.N.Nodup)(hi:X.N[i]?=some x)(hx:Loc X.env.scope x)(he:QE X e te)(hs:autoParam (KW e=true) ℜ0)(hf:autoParam (X.fn x=true\/X.env.scope.names.lookup x=some .local) ℜ2):
  QS X (.Assign [.Name x pos'] e pos) (mG te (aL i)):=⟨Gm hN hi hx he.h (LN hs) hf⟩
def setC{p2:Pos}{wi:TI}(hN:X.N.Nodup)(hj:X.N[j]?=some x)(hx:Loc X.env.scope x)(S:az osc ON scope own N)(hosc:X.env.scope=osc)(hON:X.N=ON)(hc:X.calm=true)(hi:QI X tg iter wi)
  (hg:∀C s H fp,QG (aO X scope N C s H fp) tg g) (ht:∀C s H fp,Js (aO X scope N C s H fp) ifs tc) (he:∀C s H fp,QE (aO X scope N C s H fp) elt te)
  (hsw:autoParam (swapsWith (.ListComp elt [⟨tg,iter,ifs,0⟩] scope p2) (some (.Name x pos')) pos.line X.env=pure true) ℜ0)
  (hf:autoParam (X.fn x=true\/X.env.scope.names.lookup x=some .local) ℜ2) (hs:autoParam (∀x,foldedSetIterable iter X.env x=pure x) ℜ3) :
  QS X (.Assign [.Name x pos'] (.ListComp elt [⟨tg,iter,ifs,0⟩] scope p2) pos) (mG (jo wi own.length g tc te) (aL j)):=⟨ve hN hj hx S hosc hON hc hi.h (λC s H fp=>(hg C s H fp).h) (λC s H fp=>(ht C s H fp).h) (λC s H fp=>(he C s H fp).h) hsw hf hs⟩
def asg(he:QE X e te)(hg:QG X tg g)(hs:autoParam (swapsWithSole [tg] e pos.line X.env=pure false) ℜ0)(hw:autoParam (swappedStores [tg] e X.env=pure none) ℜ0)
  (h1:autoParam ((assignEach [tg] X.env).map (·.2)=[assign tg X.env]) ℜ0):QS X (.Assign [tg] e pos) (mG te g):=⟨Ie he.h hg.h hs hw h1⟩
def ret(he:QE X e te):QS X (.Return (some e) pos) (Ct te):=⟨GW he.h⟩
def expr(he:QE X e te)(hs:autoParam (KW e=true) ℜ0):QS X (.Expr e pos) (qT te):=⟨Dg he.h (LN hs)⟩
def dz(hc:QT X c tc)(ha:QB X xs t)(hb:QB X ys u):QS X (.If c xs ys pos) (qo tc t u):=⟨Kd hc.h ha.h hb.h⟩
def fQ{wi:TI}(hp:PassesOwn (model X.prog X.w) X.A X.env X.xe)(hc:X.calm=true)(hi:QI X tg iter wi)(hg:QG X tg g)(hb:QB X xs t)(hs:autoParam (∀x,foldedSetIterable iter X.env x=pure x) ℜ3):QS X (.For tg iter xs [] pos) (Ir wi g t):=⟨IZ hp hc hi.h hg.h hb.h hs⟩
def uO(hp:PassesOwn (model X.prog X.w) X.A X.env X.xe)(hc:QT X c tc)(hb:QB X xs t):QS X (.While c xs [] pos) (C0 tc t):=⟨zZ hp hc.h hb.h⟩
end
end Z
namespace Ap
def Df(K:W.Frag)(ta:TE)(σ:St)(H:Hp)(Q:Bool->Hp->Prop):L2.Z.Df K ta σ H Q=ta σ H λx H'=>∃k,xE K x H' k/\Q k H':=rfl
def sE(ta:TE)(σ:St)(H:Hp)(Q:VK):L2.sE ta σ H Q=ta σ H λx H1=>∃c,x=.bl c/\Q (.bl (!c)) H1:=rfl
end Ap
def HasFn.dH{P:Program}{base:Heap}{x:Str}{ps:List Str}(F:HasFn K mg x st ps)(S:av N ps (ab st))(len:∀vs H Q E,sp vs H Q E->vs.length=ps.length)
  (hbody:∀(f:Addr) (cdv:Value) (A:Around) (outer:List Env) (s:Shared) (H:Hp) (vs:List V) (Q:VK) (E:XK),bw k (A.deeper (envOfC x (ab st) s.heap.objs.size f cdv))->sp vs H Q E ->
   ∃t,QB (kM aF P w K mg base N x (ab st) f cdv A outer s H E).CI (bC st) t/\t {nx:=λ_ H'=>Q .aN H',rt:=Q} (start N vs) H):ao P w K mg base aF (k+1) x ps sp:=
 F.ok S len λf cdv A outer s H vs Q E hr h=>let ⟨t,q,r⟩:=hbody f cdv A outer s H vs Q E hr h;⟨t,q.h,r⟩
inductive T where
 |il (n:Nat)|aN|bl (b:Bool)|int (i:Int)|str (x:Str)|tup (ts:List T)|lst (ts:List T)|Mq (ts:List T)|rR (lo hi:Int)|Mp (ts:List T)|Mr (ks:List Key) (ts:List T)|exc (c:Value) (f:Option (Str×Int))|adr (a:Addr)|ins (a c:Addr) (ks:List Str) (ts:List T)
abbrev vX:=Addr->Prop
def JM(K:W.Frag)(a:Addr)(xs:List V):Prop:=∃(o:Obj) (its:Array Value) (n:Nat),K.lookup a=some o/\o.cls=.type "tuple"/\o.data=.seq its n/\its.size<=sizeLine/\Vals xs its.toList
def Paired.Bm{β:Type}{P:α->β->Prop}{ys:List β}(h:Paired P [] ys):ys=[]:=by cases h;rfl
def Paired.iI{β:Type}{P:α->β->Prop}{x:α}{xs:List α}{ys:List β}(h:Paired P (x::xs) ys):∃y zs,ys=y::zs/\P x y/\Paired P xs zs:=by cases h with|cons h r=>exact⟨_,_,rfl,h,r⟩
inductive Sl where
 |un|tr (t:T)|bx (c:T)|pb (c:T)
abbrev Mu:=List Sl
inductive R where
 |tr (t:T)|br (i:Nat)|fr (c:T)
structure Fx where
 K:W.Frag
 H0:Hp
 P:Nat->Option Addr
 Bc:vX
 bh:∀b,Bc b->∃o,H0 b=some o
 G:Addr->Option HO
def more(B:vX)(a:Addr):vX:=λb=>b=a\/B b
abbrev UE:=Mu->(R->Mu->Prop)->Prop
abbrev UT:=Mu->(Bool->Mu->Prop)->Prop
abbrev UA:=Mu->(List R->Mu->Prop)->Prop
structure Ed where
 nx:Mu->Prop
 rt:R->Mu->Prop
 bk:Mu->Prop:=λ_=>False
 ct:Mu->Prop:=λ_=>False
abbrev US:=Ed->Mu->Prop
namespace Y
def FP(K:W.Frag):R2:=λx y H Q=>∃a b xs ys,x=.ref a/\y=.ref b/\aW K H a xs/\aW K H b ys/\xs.length+ys.length<=sizeLine /\
 (xs=[]->Q (.ref b) H)/\(xs≠[]->ys=[]->Q (.ref a) H)/\(xs≠[]->ys≠[]->∀p,H p=none->Q (.ref p) (upd H p (.tup (xs++ys))))
def Ax{prog:Program}{A:Around}{t b:Addr}{ws:List Value}(ht:IsTup s.heap t ([]:List Value).toArray)(hb:IsTup s.heap b ws.toArray)(h0:Q (.ref b) s):wpAny (model prog w) A (binaryOp .Add (.ref t) (.ref b)) Q E s:=by
 obtain⟨⟨cls,dd,data,sl⟩,ho,hc,n,hd⟩:=id ht;obtain⟨⟨cls2,dd2,data2,sl2⟩,ho2,hc2,n2,hd2⟩:=id hb;simp only at hc hd hc2 hd2;subst hc hd hc2 hd2;exact concat_meets ⟨_,ho,rfl⟩ ⟨_,ho2,rfl⟩ noFill_tuple_add seq_tuple_add PySem.F.slot_tuple_add PySem.F.entry_tuple_add (PySem.F.args_tuple_add_2 _ _)
   (tuple_addW0 t b _ ws.toArray n n2 dd dd2 sl sl2 (by simp)) ⟨ho,ho2,h0⟩
def Dz:cY X (binaryOp .Add) (FP X.K):=by
 intro pins s σ H x y v u Q I rx ry h;obtain⟨a,b,xs,ys,rfl,rfl,ha,hb,hz,q0,q1,q2⟩:=h;by_cases hx:xs=[]
 ·subst hx
  cases rx;cases ry
  obtain⟨its,r1,p1,_⟩:=I.tuple ha;obtain⟨its2,r2,p2,_⟩:=I.tuple hb;obtain rfl:=Paired.Bm r1;exact Ax p1 p2 ⟨.ref b,H,I,rfl,q0 rfl⟩
 ·exact vE pins s σ H _ _ v u Q I rx ry ⟨a,b,xs,ys,rfl,rfl,ha,hb,hx,hz,q1 hx,q2 hx⟩
def Aa(K:W.Frag):R2:=λx y H Q=>(∃i j,x=.int i/\y=.int j/\Q (.int (i+j)) H)\/(∃i j,x=.str i/\y=.str j/\i.length+j.length<=sizeLine/\Q (.str (i++j)) H)\/KG x y H Q\/FP K x y H Q
def fm(K:W.Frag)(hK:X.K=K):cY X (binaryOp .Add) (Aa K):=by subst hK;exact AO.or (nu.or (C9.or Dz))
def DY(K:W.Frag)(neg:Bool):R2:=λx y H Q=>∃a b xs ys,x=.ref a/\y=.ref b/\((aT K H a xs/\aT K H b ys)\/(aW K H a xs/\aW K H b ys))/\xs.all cw=true/\ys.all cw=true /\
 ∀c,c=(xs.length == ys.length && (List.range (min xs.length ys.length)).all λj=>match xs[j]?,ys[j]? with|some x,some y=>yW x y|_,_=>true)->Q (.bl (if neg then !c else c)) H
def Hs(hu:X.A.units<cLine):cY X (compareOp .Eq) (DY X.K false):=by
 intro pins s σ H x y v u Q I rx ry h;obtain⟨a,b,xs,ys,rfl,rfl,hq,fx,fy,q⟩:=h
 cases rx;cases ry
 have item:∀(its its2:List Value),Vals xs its->Vals ys its2->∀j (h1:j<its.toArray.size) (h2:j<its2.toArray.size),SeqAt.EqAt X.A.in1 s its.toArray[j] its2.toArray[j] (match xs[j]?,ys[j]? with|some x,some y=>yW x y|_,_=>true):=λits its2 r1 r2 j h1 h2=>by
  have l1:=r1.length;have l2:=r2.length;rw[MC] at h1 h2;obtain⟨u1,e1,g1⟩:=r1.get (i:=j) (x:=xs[j]) (Mt (by lia))
  obtain⟨u2,e2,g2⟩:=r2.get (i:=j) (x:=ys[j]) (Mt (by lia))
  rw[Mt (show j<xs.length by lia),Mt (show j<ys.length by lia)]
  have z1:its.toArray[j]=u1:=by
   rw[Mt h1] at e1;simpa using e1
  have z2:its2.toArray[j]=u2:=by
   rw[Mt h2] at e2;simpa using e2
  rw[z1,z2];exact um g1 g2 (NU.mp fx _ (MQ _)) (NU.mp fy _ (MQ _))
 rcases hq with ⟨ha,hb⟩|⟨ha,hb⟩
 ·obtain⟨its,r1,p1,_⟩:=I.list ha;obtain⟨its2,r2,p2,_⟩:=I.list hb;have l1:=r1.length;have l2:=r2.length;by_cases e:xs.length=ys.length
  ·refine SeqAt.eq_listAt p1.isList p2.isList (by rw[MC,MC];lia) hu (item its its2 r1 r2) ⟨.bl _,H,I,rfl,q _ ?_⟩
   rw[MC,<- l1,<- e,Pa,Of,Qz]
  ·refine Rc p1.isList p2.isList (by rw[MC,MC,bne_iff_ne];lia) hu ⟨.bl _,H,I,rfl,q _ ?_⟩
   rw[Nh.mpr e,Px]
 ·obtain⟨its,r1,p1,_⟩:=I.tuple ha;obtain⟨its2,r2,p2,_⟩:=I.tuple hb;have l1:=r1.length;have l2:=r2.length;refine SeqAt.eq_tupleAt p1 p2 hu (item its its2 r1 r2) ⟨.bl _,H,I,rfl,q _ ?_⟩;rw[MC,MC,<- l1,<- l2,Bool.and_comm];rfl
def Lf(K:W.Frag):R2:=λx y H Q=>HI x y H Q\/DY K false x y H Q
def Gq(K:W.Frag)(hK:X.K=K)(hu:X.A.units<cLine):cY X (compareOp .Eq) (Lf K):=by subst hK;exact Gh.or (Hs hu)
theorem iH{lo:Int}:∀(n:Nat) (acc:List Value) (k:Nat),acc.length=n->(∀j v,acc[j]?=some v->∃t,v=Value.int (lo+((k+j:Nat):Int)) t)->Vals ((List.range' k n).map λk=>V.int (lo+(k:Nat))) acc
 |0,acc,k,h,_=>by cases acc with|nil=>exact .nil|cons a b=>cases h
 |n+1,[],k,h,_=>by cases h
 |n+1,a::acc,k,h,g=>by
  rw[Ow,Nb];refine .cons ?_ (iH n acc (k+1) (by simpa using h) λj v e=>?_)
  ·obtain⟨t,e⟩:=g 0 a rfl;exact⟨t,by simpa using e⟩
  ·obtain⟨t,e2⟩:=g (j+1) v (by simpa using e)
   exact⟨t,by rw[e2];congr 2;lia⟩
def Dy:List V->Hp->VK->Prop:=λxs H Q=>(∃j,xs=[.int j]/\∀p,H p=none->Q (.ref p) (upd H p (.rR 0 j)))\/(∃i j,xs=[.int i,.int j]/\∀p,H p=none->Q (.ref p) (upd H p (.rR i j)))
def rA:aX X (.type "range") Dy:=by
 intro pins s σ H xs us Q I r h;rcases h with ⟨j,rfl,q⟩|⟨i,j,rfl,q⟩
 ·obtain⟨u,rfl,t,rfl⟩:=vals1 r;refine call_range_1 ?_;exact⟨.ref s.heap.objs.size,_,I.laid (o:=.rR 0 j) (λb ob q=>My _ q) (M8 _) (show ba X.prog X.w _ _ _ (.rR 0 j) from⟨_,_,_,MM _ rfl⟩),rfl,q _ (I.aH.fresh (M8 _))⟩
 ·obtain⟨u,w',rfl,⟨t,rfl⟩,⟨t',rfl⟩⟩:=vals2 r;refine call_range_2 ?_;exact⟨.ref s.heap.objs.size,_,I.laid (o:=.rR i j) (λb ob q=>My _ q) (M8 _) (show ba X.prog X.w _ _ _ (.rR i j) from⟨_,_,_,MM _ rfl⟩),rfl,q _ (I.aH.fresh (M8 _))⟩
section
variable {X:Cx} {a b c e o:Expr} {es rest:List Expr} {ua ub uc ue uo:UE} {uA uB:UT} {us:UA} {pos p p2 p3:Pos} {x:Str}
def sR(xs:List α)(lo hi:Option Int):List α:=(xs.drop (HT.bH xs.length 0 lo)).take (HT.bH xs.length xs.length hi-HT.bH xs.length 0 lo)
def KA(K:W.Frag):V->Option Int->Option Int->Hp->VK->Prop:=λx lo hi H Q=>∃a xs,x=.ref a/\aW K H a xs/\HT.bH xs.length 0 lo=0/\HT.bH xs.length xs.length hi=xs.length/\Q (.ref a) H
def j2{prog:Program}{A:Around}{t sl:Addr}{vl vu:Value}{lo hi:Option Int}(ht:IsTup s.heap t items)(hs:s.heap.IsSliceOf sl vl vu .none)(pl:IsPart vl lo)(pu:IsPart vu hi)
  (h1:HT.bH items.size 0 lo=0) (h2:HT.bH items.size items.size hi=items.size) (h:Q (.ref t) s):wpAny (model prog w) A (getItem (.ref t) (.ref sl)) Q E s:=by
 obtain⟨os,hos,hcs,hds⟩:=id hs;have hTs:s.TypeIs (.ref sl) "slice":=⟨os,hos,hcs⟩;unfold getItem
 try with_reducible refine N6 ?_
 first|refine Mv (ME ?_)|skip
 refine Mv (wpAny_sequenceKey ht.typeIs ⋯ ?_)
 refine Mv (N5 (name:=Str.ofString "__getitem__") ht.typeIs Ol
  (NC Ol ht.typeIs entry_tuple_getitem ?_ (args_tuple_getitem _ _)))
 show wpAny _ _ (Builtin.Tuple.tupleItemsOf (.ref t) >>= _) _ _ s;refine Mv (tupleItemsOf_ ht ?_);refine Mv (PZ hTs ?_);rw[MD ⋯]
 refine Mv (HT.fV hs pl pu ?_);show wpAny _ _ (if (((HT.bH items.size 0 lo:Nat):Int) == 0 && (1:Int) == 1 && (HT.bH items.size items.size hi-HT.bH items.size 0 lo) == items.size)=true then _ else _) _ _ s
 rw[MD (by rw[h1,h2];simp)]
 unfold Builtin.Tuple.tupleIsExact;refine Mv ?_;refine Mv (PZ ht.typeIs (ME ?_));rw[MD ⋯]
 exact Mv (Q8 (ME ⟨_,rfl,ME h⟩))
def Gj:vT X (KA X.K):=by
 intro pins s σ H x v vl vu lo hi sl Q I rx hs pl pu h;obtain⟨a,xs,rfl,hx,h1,h2,q⟩:=h;cases rx;obtain⟨its,r,ht,hz⟩:=I.tuple hx;have hlen:its.toArray.size=xs.length:=by rw[MC];exact r.length.symm
 exact⟨"tuple",_,Ol.lookup,ht.typeIs,j2 ht hs pl pu (by rw[hlen];exact h1) (by rw[hlen];exact h2) ⟨.ref a,H,I,rfl,q⟩⟩
def xZ(K:W.Frag):V->Option Int->Option Int->Hp->VK->Prop:=λx lo hi H Q=>IQ K x lo hi H Q\/vh K x lo hi H Q\/KA K x lo hi H Q
def vm(K:W.Frag)(hK:X.K=K):vT X (xZ K):=by subst hK;exact qA.or (vc.or Gj)
end
end Y
abbrev UI:=Mu->(List T->Option (Nat×List T)->Mu->Prop)->Prop
def Az(K:W.Frag)(tl:TE):TI:=λσ H R=>tl σ H λx H1=>∃a,x=V.ref a/\(((∃xs,aT K H1 a xs)/\R (tQ K a) H1)\/((∃xs,aW K H1 a xs)/\R (uQ K a) H1))
def Gk{l:Expr}(hl:PE X l tl):PI X tg l (Az X.K tl):=by
 intro pins s σ H R I h;refine bJ (hl pins s σ H _ I h) λv s1 hq2=>?_;obtain⟨x,H1,I1,r1,q1⟩:=hq2;obtain⟨a,rfl,q⟩:=q1;cases r1;rcases q with ⟨⟨xs,hq⟩,q⟩|⟨⟨xs,hq⟩,q⟩
 ·obtain⟨its,rv,p,hz⟩:=I1.list hq;refine OW p.isList ?_;refine⟨s1.heap.objs.size,[s1.heap.objs.size],_,_,H1,rfl,I1.kept (t':=s1.toks) λb o e=>My _ e,oX a _,⟨_,MM _ rfl,rfl,rfl⟩,λb hb=>?_,q⟩;have e:b=s1.heap.objs.size:=by simpa using hb
  subst e;exact I1.qO (M8 _) (I1.aH.fresh (M8 _))
 ·obtain⟨its,rv,p,hz⟩:=I1.tuple hq;refine OP (show s1.heap.IsTuple a its.toArray from p) ?_;refine⟨s1.heap.objs.size,[s1.heap.objs.size],_,_,H1,rfl,I1.kept (t':=s1.toks) λb o e=>My _ e,lO a _,⟨_,MM _ rfl,rfl,rfl⟩,λb hb=>?_,q⟩;have e:b=s1.heap.objs.size:=by simpa using hb
  subst e;exact I1.qO (M8 _) (I1.aH.fresh (M8 _))
namespace Y
def GS{α:Type _}{l:List α}(h:l.length=1):∃y,l=[y]:=by
 rcases l with _|⟨a,_|⟨b,t⟩⟩
 ·cases h
 ·exact⟨a,rfl⟩
 ·cases h
def Kk{α:Type _}{l:List α}(h:l.length=2):∃y z,l=[y,z]:=by
 rcases l with _|⟨a,t⟩
 ·cases h
 ·obtain⟨b,rfl⟩:=GS (Nat.succ.inj h);exact⟨a,b,rfl⟩
def yN{α:Type _}{l:List α}(h:l.length=3):∃x y z,l=[x,y,z]:=by
 rcases l with _|⟨a,t⟩
 ·cases h
 ·obtain⟨b,c,rfl⟩:=Kk (Nat.succ.inj h);exact⟨a,b,c,rfl⟩
def Ln{α:Type _}{l:List α}(h:l.length=4):∃w x y z,l=[w,x,y,z]:=by
 rcases l with _|⟨a,t⟩
 ·cases h
 ·obtain⟨b,c,d,rfl⟩:=yN (Nat.succ.inj h);exact⟨a,b,c,d,rfl⟩
end Y
abbrev LU:=List T->(R->List T->Prop)->Prop
def CZ(K:W.Frag)(f:Addr)(cdv:Value):Prop:=∃(o:Obj) (fd:FuncData),K.lookup f=some o/\o.data=.func fd/\fd.code=cdv
def jw(K:W.Frag)(k:Bool)(H:Hp)(a:Addr)(xs:List V):Prop:=if k=true then aT K H a xs else aW K H a xs
def nE(k:Bool)(h:Heap)(it a:Addr)(i:Nat):Prop:=if k=true then h.IsListIter it a i else h.IsTupleIter it a i
def cq(k:Bool)(h:Heap)(a:Addr)(items:Array Value):Prop:=if k=true then h.IsList a items else h.IsTuple a items
def xx{prog:Program}{A:Around}(k:Bool)(hh:A.handled=none)(it l:Addr)(hne:l≠it)(items:Array Value):Draws prog w A it [it,l] items.size (λi v=>items[i]?=some v) (λi h=>nE k h it l i/\cq k h l items):=by
 cases k with
 |true=>exact Draws.list hh it l hne items
 |false=>exact jG hh it l hne items
def Inv.rX{pins:List (Addr×Obj)}{k:Bool}(I:Inv X pins σ H s)(h:jw X.K k H a xs):∃its:List Value,Vals xs its/\cq k s.heap a its.toArray:=by
 cases k with
 |true=>obtain⟨its,r,p,_⟩:=I.list h;exact⟨its,r,p.isList⟩
 |false=>obtain⟨its,r,p,_⟩:=I.tuple h;exact⟨its,r,p⟩
def Inv.AR{pins:List (Addr×Obj)}{k:Bool}{ys:List V}(I:Inv X pins σ H s)(h:jw X.K k H a xs)(h':jw X.K k H a ys):xs=ys:=by
 cases k with
 |true=>exact I.mr h h'
 |false=>exact I.jD h h'
def cq.ty{k:Bool}(x:cq k h a items):∃o,h.get? a=some o/\(o.cls=.type "list"\/o.cls=.type "tuple")/\∃n,o.data=.seq items n:=by
 cases k with
 |true=>obtain⟨o,e,c,n,d⟩:=(show h.IsList a items from x);exact⟨o,e,.inl c,n,d⟩
 |false=>obtain⟨o,e,c,n,d⟩:=(show h.IsTuple a items from x);exact⟨o,e,.inr c,n,d⟩
def nE.ty{k:Bool}(x:nE k h it a i):∃o,h.get? it=some o/\(o.cls=.type "list_iterator"\/o.cls=.type "tuple_iterator")/\o.data=.fields #[.ref a,.int i 0]:=by
 cases k with
 |true=>obtain⟨o,e,c,d⟩:=(show h.IsListIter it a i from x);exact⟨o,e,.inl c,d⟩
 |false=>obtain⟨o,e,c,d⟩:=(show h.IsTupleIter it a i from x);exact⟨o,e,.inr c,d⟩
def xT(k:Bool):String:=if k=true then "list_iterator" else "tuple_iterator"
def CB(x:h.IsTuple a items)(o:Obj):(h.push o).IsTuple a items:=by
 obtain⟨ob,e,r⟩:=x;exact⟨ob,My _ e,r⟩
def Kg{k:Bool}(e:h.get? it=some {cls:=.type (xT k),data:=.fields #[.ref a,.int 0 0]}):nE k h it a 0:=by
 cases k with
 |true=>exact⟨_,e,rfl,rfl⟩
 |false=>exact⟨_,e,rfl,rfl⟩
def rL(K:W.Frag):Sp:=λvs H Q _=>∃(a:Addr) (ns:List Int),vs=[.ref a]/\aT K H a (ns.map V.int)/\ns.length<=63/\∀H',Q (.bl true) H'
namespace Y
def HZ(hu:X.A.units<cLine):cY X (compareOp .NotEq) (DY X.K true):=by
 intro pins s σ H x y v u Q I rx ry h;obtain⟨a,b,xs,ys,rfl,rfl,hq,fx,fy,q⟩:=h
 cases rx;cases ry
 have item:∀(its its2:List Value),Vals xs its->Vals ys its2->∀j (h1:j<its.toArray.size) (h2:j<its2.toArray.size),SeqAt.EqAt X.A.in1 s its.toArray[j] its2.toArray[j] (match xs[j]?,ys[j]? with|some x,some y=>yW x y|_,_=>true):=λits its2 r1 r2 j h1 h2=>by
  have l1:=r1.length;have l2:=r2.length;rw[MC] at h1 h2;obtain⟨u1,e1,g1⟩:=r1.get (i:=j) (x:=xs[j]) (Mt (by lia))
  obtain⟨u2,e2,g2⟩:=r2.get (i:=j) (x:=ys[j]) (Mt (by lia))
  rw[Mt (show j<xs.length by lia),Mt (show j<ys.length by lia)]
  have z1:its.toArray[j]=u1:=by
   rw[Mt h1] at e1;simpa using e1
  have z2:its2.toArray[j]=u2:=by
   rw[Mt h2] at e2;simpa using e2
  rw[z1,z2];exact um g1 g2 (NU.mp fx _ (MQ _)) (NU.mp fy _ (MQ _))
 rcases hq with ⟨ha,hb⟩|⟨ha,hb⟩
 ·obtain⟨its,r1,p1,_⟩:=I.list ha;obtain⟨its2,r2,p2,_⟩:=I.list hb;have l1:=r1.length;have l2:=r2.length;by_cases e:xs.length=ys.length
  ·refine SeqAt.RcNeAt.lists p1.isList p2.isList (by rw[MC,MC];lia) hu (item its its2 r1 r2) X.prog X.w X.xe _ ⟨.bl _,H,I,rfl,q _ ?_⟩
   rw[MC,<- l1,<- e,Pa,Of,Qz]
   try rfl
  ·refine SeqAt.RcNeAt.lists_lengths p1.isList p2.isList (by rw[MC,MC,bne_iff_ne];lia) hu X.prog X.w X.xe _ ⟨.bl true,H,I,rfl,?_⟩
   exact q false (by rw[Nh.mpr e,Px])
 ·obtain⟨its,r1,p1,_⟩:=I.tuple ha;obtain⟨its2,r2,p2,_⟩:=I.tuple hb;have l1:=r1.length;have l2:=r2.length;refine SeqAt.RcNeAt.tuples p1 p2 hu (item its its2 r1 r2) X.prog X.w X.xe _ ⟨.bl _,H,I,rfl,q _ ?_⟩;rw[MC,MC,<- l1,<- l2,Bool.and_comm]
  try rfl
def Lm(K:W.Frag):R2:=λx y H Q=>Gy x y H Q\/DY K true x y H Q
def Hy(K:W.Frag)(hK:X.K=K)(hu:X.A.units<cLine):cY X (compareOp .NotEq) (Lm K):=by subst hK;exact FQ.or (HZ hu)
def lX:fillsNumberSlot (.type "tuple") "mul"=pure false:=
 PySem.fillsNumberSlot_seq (id:="tuple.__mul__") (r:=some (.builtin "tuple.__rmul__")) PySem.F.slot_tuple_mul.lookup ∅ PySem.F.slot_tuple_rmul.lookup ∅
def uY:seqRepeat? (.type "tuple")=pure (some (.builtin "tuple.__mul__")):=by
 unfold seqRepeat?;rw[PySem.seqSlot_of (T:="tuple") (name:="__mul__") (id:="tuple.__mul__") PySem.F.slot_tuple_mul.lookup ∅,PySem.seqSlot_of (T:="tuple") (name:="__rmul__") (id:="tuple.__rmul__") PySem.F.slot_tuple_rmul.lookup ∅];rfl
def C2(a:Int)(t:Tok)(l:Addr)(ob:Obj)(items:Array Value)(n:Nat)(hc:ob.cls=.type "tuple")(hd:ob.data=.seq items n):
  Meets (Builtin.«int.__rmul__» ⟨[.int a t,.ref l],[]⟩) (λ_ R s=>s.heap.get? l=some ob/\R (.ok (.ret Value.notImplemented)) s):=
 .of_wp λprog w A R s h=>by
  obtain⟨hp,g,d,tk,os⟩:=s;obtain⟨hl,h⟩:=h;obtain⟨c,dd,da,sl⟩:=ob;simp only at hc hd;subst hc hd
  wp_walk
  exact⟨_,rfl,h⟩
def Es(l:Addr)(items:Array Value)(ob:Obj)(n:Nat)(k:Int)(t:Tok)(hc:ob.cls=.type "tuple")(hd:ob.data=.seq items n)(hne:items.isEmpty=false)(h1:1<k)(h2:k<=1000)(hsz:items.size<=1000):
  Meets (Builtin.«tuple.__mul__» ⟨[.ref l,.int k t],[]⟩) (λ_ R s=>s.heap.get? l=some ob/\R (.ok (.ret (.ref s.heap.objs.size))) {s with heap:=s.heap.push {cls:=.type "tuple",data:=.seq ((List.replicate k.toNat items).foldl (·++·) #[])}}):=
 .of_wp λprog w A R s h=>by
  obtain⟨hp,g,d,tk,os⟩:=s;obtain⟨hl,h⟩:=h;obtain⟨c,dd,da,sl⟩:=ob;simp only at hc hd;subst hc hd;have e1:(decide (k < -(2^63)) || decide (k >= 2^63))=false:=by rw[MW (by lia),MW (by lia)];rfl
  have e2:(items.isEmpty || k == 1)=false:=by rw[hne,Nh.mpr (by lia)];rfl
  have e3:(decide (k<=0) || items.isEmpty)=false:=by rw[hne,MW (by lia)];rfl
  wp_walk using AutoSeq1.wpAny_loadPart' hl;rw[M4 (by rw[e1];exact ML)]
  have ht:IsTup (Shared.heap ⟨hp,g,d,tk,os⟩) l items:=⟨_,hl,rfl,n,rfl⟩;show wpAny _ _ (Builtin.Tuple.tupleItemsOf (.ref l) >>= _) _ _ _;refine Mv (tupleItemsOf_ ht ?_);rw[M4 (by rw[e2];exact ML)]
  show wpAny _ _ (if (decide (k<=0) || items.isEmpty)=true then _ else _) _ _ _
  rw[M4 (by rw[e3];exact ML)]
  have hm:(items.size:Int)*k<=1000*1000:=Int.mul_le_mul (by lia) h2 (by lia) (by lia)
  show wpAny _ _ (if (items.size:Int)*k >(2^63-1) / 8 then _ else _) _ _ _
  rw[M4 (by lia)]
  show wpAny _ _ (if Builtin.Tuple.tupleTooMany ((items.size:Int)*k)=true then _ else _) _ _ _
  have e4:Builtin.Tuple.tupleTooMany ((items.size:Int)*k)=false:=MW (by
   have:((sizeLine:Nat):Int) >= 1000000:=by decide
   lia)
  rw[M4 (by rw[e4];exact ML)]
  have hl2:((List.replicate k.toNat items).foldl (·++·) #[]).size<=sizeLine:=by
   have fs:∀(m:Nat) (acc:Array Value),((List.replicate m items).foldl (·++·) acc).size=acc.size+m*items.size:=λm=>by
    induction m with
    |zero=>intro acc;simp
    |succ m ih=>intro acc;rw[Nz,List.foldl_cons,ih,Q3,QM];lia
   rw[fs];have h3:k.toNat*items.size<=1000*1000:=Nat.mul_le_mul (by lia) hsz
   have h4:(1000000:Nat)<=sizeLine:=by decide
   simp;lia
  exact Mv (m:=Builtin.Tuple.tupleExact _) (N_ (ME ⟨_,rfl,h⟩) hl2)
def yO(its:List Value):∀(m:Nat) (acc:List Value),(List.replicate m its.toArray).foldl (·++·) acc.toArray=(acc++(List.replicate m its).flatten).toArray:=λm acc=>foldl_rep its m acc
def FC(K:W.Frag):R2:=λx y H Q=>∃a k xs,x=.ref a/\y=.int k/\aW K H a xs/\xs≠[]/\xs.length<=1000/\1<k/\k<=1000/\∀p,H p=none->Q (.ref p) (upd H p (.tup (List.replicate k.toNat xs).flatten))
def Eg:cY X (binaryOp .Mult) (FC X.K):=by
 intro pins s σ H x y v u Q I rx ry h;obtain⟨a,k,xs,rfl,rfl,hx,hne,hsz,h1,h2,q⟩:=h;cases rx;obtain⟨t,rfl⟩:=ry;obtain⟨its,r,p,hz⟩:=I.tuple hx;obtain⟨ob,ho,hc,n,hd⟩:=id p;have hlen:=r.length;have hemp:its.toArray.isEmpty=false:=by
  cases its with
  |nil=>cases r;exact absurd rfl hne
  |cons a b=>rfl
 refine Q7 (T:="tuple") (U:="int") ⋯ ⟨_,ho,hc⟩ (λs'=>Q6 s' k t) lX PySem.F.fills_int_mul PySem.F.slot_int_rmul uY PySem.F.slot_int_index.lookup
  (Om PySem.F.slot_int_rmul (Q6 s k t) PySem.F.entry_int_rmul (PySem.F.args_int_rmul_2 _ _) (C2 k t a ob its.toArray n hc hd)
   ⟨ho,rfl,⟨_,ho,hc⟩,Om PySem.F.slot_tuple_mul ⟨_,ho,hc⟩ PySem.F.entry_tuple_mul (PySem.F.args_tuple_mul_2 _ _) (Es a its.toArray ob n k t hc hd hemp h1 h2 (by rw[MC];lia)) ⟨ho,?_⟩⟩)
 have e0:=yO its k.toNat [];rw[Ob] at e0;have e0':(List.replicate k.toNat its.toArray).foldl (·++·) #[]=(List.replicate k.toNat its).flatten.toArray:=e0;rw[e0'];refine⟨.ref s.heap.objs.size,_,I.laid (t':=s.toks) (o:=.tup (List.replicate k.toNat xs).flatten) (λb ob q=>My _ q) (M8 _) ?_,rfl,q _ (I.aH.fresh (M8 _))⟩;refine⟨?_,_,r.rep k.toNat,eK.new _ _⟩;rw[len_rep];have h3:k.toNat*xs.length<=1000*1000:=Nat.mul_le_mul (by lia) hsz
 exact Mz h3 ⋯
def Ko(K:W.Frag):R2:=λx y H Q=>HD x y H Q\/FC K x y H Q
def lh(K:W.Frag)(hK:X.K=K):cY X (binaryOp .Mult) (Ko K):=by subst hK;exact cN.or Eg
end Y
open PySem PySem.Spec PyProof PyProof.Rows
namespace Y
theorem gI:∀{us:List Value} {ns:List Int},IntsAre us ns->Vals (ns.map V.int) us
 |_,_,.nil=>.nil
 |_,_,.cons n t h=>.cons ⟨t,rfl⟩ (gI h)
theorem mC:∀{us:List Value} {ns:List Int},IntsAre us ns->us.length=ns.length
 |_,_,.nil=>rfl
 |_,_,.cons n t h=>by simp[mC h]
section
variable {prog:Program} {w:World} {A:Around} {E:Value->Shared->Prop} {s:Shared}
def r6{vs:List Value}{Q:List Value->Shared->Prop}(hl:IsTup s.heap l vs.toArray)(hsz:vs.length<=sizeLine)
  (h:Q vs {s with heap:=(s.heap.push (seqObj "list" #[] 0)).update s.heap.objs.size (Obj.mapSeq (·++vs.toArray))}):wpAny (model prog w) A (collect (.ref l)) Q E s:=by
 obtain⟨o,ho,hc,n,hd⟩:=id hl;unfold collect;refine Mv (wpAny_runValue (OQ entry_proto_collect' ?_));show wpAny _ _ (do again (.builtin "list.__iadd__" ⟨[<- newList [],.ref l],[]⟩)) _ _ s
 refine Mv (Pj (ME ⟨Code.quiet_builtin _ ∅,OQ entry_list_iadd' ?_⟩))
 show wpAny _ _ (Builtin.List.listExtendWith (.ref s.heap.objs.size) (.ref l) (.ref s.heap.objs.size)) _ _ {s with heap:=s.heap.push (seqObj "list" #[] 0)}
 unfold Builtin.List.listExtendWith;have ho':(s.heap.push (seqObj "list" #[] 0)).get? l=some o:=My _ ho;refine Mv (PZ (T:="tuple") ⟨o,ho',hc⟩ ?_);have ht:(Value.type "tuple" == Value.type "tuple")=true:=by rfl
 rw[MD (by rw[ht];simp)]
 refine Mv (P_ ho' hd ?_);refine Mv (P_ (xs:=#[]) (n:=0) (MM _ rfl) rfl ?_);rw[M4 (by simp)]
 refine Mv (PB (xs:=#[]) (n:=0) (MM _ rfl) rfl ?_ (MG _) (by show (#[]++vs.toArray).size<=sizeLine+1;simp only[Q3,MC,N0];lia))
 refine ME ?_;show wpAny (model prog w) A (load s.heap.objs.size >>= _) Q E {s with heap:=(s.heap.push (seqObj "list" #[] 0)).update s.heap.objs.size (Obj.mapSeq (·++vs.toArray))}
 refine Mv (wpAny_load (Pn (MM _ rfl) _) ?_);show wpAny _ _ (pure ((#[]:Array Value)++vs.toArray).toList) Q E _;rw[show ((#[]:Array Value)++vs.toArray).toList=vs by simp]
 exact ME h
def ur{vs:List Value}(hl:IsTup s.heap l vs.toArray)(hI:IntsAre vs ns)(h64:vs.length<64)
  (h:∀(out:Array Value) (ns':List Int),IntsAre out.toList ns'->ns'.Perm ns->ns'.Pairwise (·<=·)->Q (.ref (s.heap.objs.size+1)) {s with heap:=sortedAll s.heap vs out}) :
  wpAny (model prog w) A (call (.builtin "sorted") [.ref l]) Q E s:=by
 have hz:vs.length<=sizeLine:=Mz (Oy h64) ⋯
 refine Q9 kind_sorted plain_sorted entry_sorted (args_sorted1 _) ?_;unfold Builtin.«sorted»;refine Mv (m:=checkCount "sorted" 1 1 _) (ME ?_);refine Mv (r6 hl hz ?_);refine Mv (Pj ?_ hz);have hs:((s.heap.push (seqObj "list" #[] 0)).update s.heap.objs.size (Obj.mapSeq (·++vs.toArray))).objs.size=s.heap.objs.size+1:=by rw[QP,size_push']
 have ho:(((s.heap.push (seqObj "list" #[] 0)).update s.heap.objs.size (Obj.mapSeq (·++vs.toArray))).push (seqObj "list" vs.toArray 0)).get? (s.heap.objs.size+1)=some (seqObj "list" vs.toArray 0):=by
  rw[<- hs];exact MM _ rfl
 show wpAny _ _ _ _ _ {s with heap:=((s.heap.push (seqObj "list" #[] 0)).update s.heap.objs.size (Obj.mapSeq (·++vs.toArray))).push (seqObj "list" vs.toArray 0)}
 rw[hs];refine Mv (N6 (NC slot_list_sort ⟨_,ho,rfl⟩ entry_list_sort (list_sort_tree ho hI h64 λout ns' a1 a2 a3=>⟨_,rfl,?_⟩) (args_list_sort _)));exact ME ⟨_,rfl,h out ns' a1 a2 a3⟩
end
def FX(K:W.Frag):List V->Hp->VK->Prop:=λxs H Q=>∃p ns,xs=[.ref p]/\aW K H p (ns.map V.int)/\ns.length<64/\∀ns':List Int,ns'.Perm ns->ns'.Pairwise (·<=·)->∀l,H l=none->Q (.ref l) (upd H l (.lst (ns'.map V.int)))
def yG(K:W.Frag)(hK:X.K=K):aX X (.builtin "sorted") (FX K):=by
 subst hK;intro pins s σ H xs us Q I r h;obtain⟨p,ns,rfl,hq,h64,q⟩:=h;obtain⟨u,rfl,ru⟩:=vals1 r;cases ru;obtain⟨its,rv,pl,hz⟩:=I.tuple hq;have hi:=intsAre_of rv;refine ur pl hi (by rw[mC hi];exact h64) λout ns' a1 a2 a3=>?_
 obtain⟨e,he⟩:=sortedAll_at s.heap its out;refine⟨.ref (s.heap.objs.size+1),_,I.laid (t':=s.toks) (λb ob q=>sortedAll_old q) (NX _) (show ba X.prog X.w _ _ _ (.lst (ns'.map V.int)) from⟨?_,out.toList,e,gI a1,by simpa using he⟩),rfl,q ns' a2 a3 _ (I.aH.fresh (NX _))⟩
 rw[Ms,a2.length_eq];exact Mz (Oy h64) ⋯
def DZ:V->List V->Hp->VK->Prop:=λx vs H Q=>∃z y,x=.str z/\vs=[.str y]/\Q (.bl (Txt.startswith z y)) H
def yD:uU X "str.startswith" DZ:=by
 intro pins s σ H x xs v us Q I rx rs h;obtain⟨z,y,rfl,rfl,q⟩:=h;obtain⟨t,rfl⟩:=rx;obtain⟨u,rfl,k,rfl⟩:=vals1 rs;exact SC.startswith ⟨.bl _,H,I,rfl,q⟩
theorem BX(l:List Nat):∀(n a:Nat),((List.range n).map (λk=>a+k)).filterMap (l[·]?)=(l.drop a).take n
 |0,_=>by simp
 |n+1,a=>by
  rw[Qa,MI,List.filterMap_append,BX l n a,List.take_add_one,Nu]
  cases h:l[a+n]?<;>simp[h]
def rQ(lo hi:Option Int)(n:Nat):Builtin.Str.strSliceIndices lo hi 1 n=(List.range (HT.bH n n hi-HT.bH n 0 lo)).map (λk=>HT.bH n 0 lo+k):=by
 have ea:∀(v:Int),max 0 (min (if v<0 then v+(n:Int) else v) (n:Int))=(((if v<0 then (v+(n:Int)).toNat else min v.toNat n):Nat):Int):=by
  intro v;split<;>lia
 have e:Builtin.Str.strSliceIndices lo hi 1 n=sliceRange (HT.bH n 0 lo) (HT.bH n n hi) 1:=by
  cases lo with
  |none=>cases hi with
   |none=>rfl
   |some j=>show sliceRange 0 (max 0 (min (if j<0 then j+(n:Int) else j) (n:Int))) 1=_;rw[ea];rfl
  |some i=>cases hi with
   |none=>show sliceRange (max 0 (min (if i<0 then i+(n:Int) else i) (n:Int))) n 1=_;rw[ea];rfl
   |some j=>show sliceRange (max 0 (min (if i<0 then i+(n:Int) else i) (n:Int))) (max 0 (min (if j<0 then j+(n:Int) else j) (n:Int))) 1=_;rw[ea,ea];rfl
 rw[e];generalize HT.bH n 0 lo=a;generalize HT.bH n n hi=b;unfold sliceRange;simp only[show ((1:Int) > 0)=True from by simp,OZ,Int.one_mul]
 have c:(if (a:Int)<(b:Int) then ((b:Int)-a+1-1) / 1 else 0).toNat=b-a:=by split<;>lia
 rw[c];refine List.map_congr_left λk _=>?_;lia
def vb(z:Str)(lo hi:Option Int):Txt.slice z lo hi=⟨((z.cps.toList.drop (HT.bH z.cps.toList.length 0 lo)).take (HT.bH z.cps.toList.length z.cps.toList.length hi-HT.bH z.cps.toList.length 0 lo)).toArray⟩:=by
 have hl:z.cps.toList.length=z.length:=Np;rw[hl];have hp:(Builtin.Str.strSliceIndices lo hi 1 z.length).filterMap (z.cps[·]?)=(z.cps.toList.drop (HT.bH z.length 0 lo)).take (HT.bH z.length z.length hi-HT.bH z.length 0 lo):=by
  rw[rQ];have:=BX z.cps.toList (HT.bH z.length z.length hi-HT.bH z.length 0 lo) (HT.bH z.length 0 lo)
  simpa using this
 unfold Txt.slice;split
 ·rename_i h;rw[rQ] at h;simp at h;have h2:=HT.uI z.length z.length (M8 _) hi;have h3:=HT.uI z.length 0 (MG _) lo;have a0:HT.bH z.length 0 lo=0:=by lia
  have b0:HT.bH z.length z.length hi=z.length:=by lia
  rw[a0,b0,NH,OB,<- hl,Na]
 ·rw[hp]
def jH(z:Str)(lo hi:Option Int):Str:=⟨(sR z.cps.toList lo hi).toArray⟩
def xG(z:Str)(lo hi:Option Int):Txt.slice z lo hi=jH z lo hi:=vb z lo hi
def Lu:V->Option Int->Option Int->Hp->VK->Prop:=λx lo hi H Q=>∃z,x=.str z/\z.length<=sizeLine/\Q (.str (jH z lo hi)) H
def pE:vT X Lu:=by
 intro pins s σ H x v vl vu lo hi sl Q I rx hs pl pu h;obtain⟨z,rfl,hz,q⟩:=h;rw[<- xG] at q;obtain⟨t,rfl⟩:=rx;refine⟨"str",_,PySem.F.slot_str_getitem.lookup,PV _ _ _,?_⟩
 cases pl<;>cases pu
 ·exact OK (l:=none) (u:=none) (st:=none) hs rfl (Qb ⟨Mz (Txt.slice_le z _ _) hz,λt' k=>⟨.str _,H,I.tok _,⟨_,rfl⟩,q⟩⟩)
 ·exact OK (l:=none) (u:=some (_,_)) (st:=none) hs rfl (Qb ⟨Mz (Txt.slice_le z _ _) hz,λt' k=>⟨.str _,H,I.tok _,⟨_,rfl⟩,q⟩⟩)
 ·exact OK (l:=some (_,_)) (u:=none) (st:=none) hs rfl (Qb ⟨Mz (Txt.slice_le z _ _) hz,λt' k=>⟨.str _,H,I.tok _,⟨_,rfl⟩,q⟩⟩)
 ·exact OK (l:=some (_,_)) (u:=some (_,_)) (st:=none) hs rfl (Qb ⟨Mz (Txt.slice_le z _ _) hz,λt' k=>⟨.str _,H,I.tok _,⟨_,rfl⟩,q⟩⟩)
end Y
abbrev Xw:=T->Mu->Prop
abbrev UX:=Mu->(R->Mu->Prop)->Xw->Prop
abbrev Mg:=Ed->Xw->Mu->Prop
def Im(K:W.Frag)(mg:Str->Option Value)(x:Str)(f:Addr)(cdv:Value):Prop:=mg x=some (.ref f)/\∃(o:Obj) (fd:FuncData),K.lookup f=some o/\o.data=.func fd/\fd.code=cdv
abbrev UJ:=Mu->(Mu->Prop)->Prop
namespace Y
def Lw(i j:Str):Bool:=!(Builtin.Str.occurrences j i 0 j.length 1).isEmpty
end Y
def nA{k:Str}{t t':Tok}{prog:Program}{w:World}{A:Around}{E:Value->Shared->Prop}{Q:Option Fin×Unit->Shared->Prop}(hit:items[j]?=some (.str k t'))(hno:∀m,m<j->∃y ty,items[m]?=some (.str y ty)/\y≠k):∀(m i c:Nat) (s:Shared),i+m=j->m<c->Q (some (.done (.ret (.int (j:Nat) s.toks))),()) {s with toks:=s.toks+1} ->
  wpAny (model prog w) A (forIn (List.range' i c) ((none,()):Option Fin×Unit) λi __s=>match items[i]? with
      |some y=>do
       let __do_lift <- eqBool y (Value.str k t)
       if __do_lift=true then do
         let __do_lift <- retInt (i:Nat)
         pure (ForInStep.done (some __do_lift,()))
        else pure (ForInStep.yield (none,()))
      |x=>pure (ForInStep.yield (none,()))) Q E s:=by
 intro m
 induction m with
 |zero =>
  intro i c s e hc h
  cases c with
  |zero=>exact absurd hc (Po _)
  |succ c =>
   obtain rfl:i=j:=e;rw[Ow,Pm];simp only[hit];refine Mv (Mv (QK ?_));rw[Nq rfl]
   wp_walk
   exact h
 |succ m ih =>
  intro i c s e hc h
  cases c with
  |zero=>exact absurd hc (Po _)
  |succ c =>
   obtain⟨y,ty,hy,ne⟩:=hno i (by lia)
   rw[Ow,Pm];simp only[hy];refine Mv (Mv (QK ?_));rw[MW ne];exact ME (ih (i+1) c s (by lia) (by lia) h)
def yC{n:Nat}{dd:Option Addr}{sl:Array (Option Value)}{k:Str}{t t':Tok}(hit:items[j]?=some (.str k t'))(hno:∀m,m<j->∃y ty,items[m]?=some (.str y ty)/\y≠k):
  Meets (Builtin.«tuple.index» ⟨[.ref p,.str k t],[]⟩) (λA R s=>s.heap.get? p=some {cls:=.type "tuple",dict:=dd,data:=.seq items n,slots:=sl}/\R (.ok (.ret (.int (j:Nat) s.toks))) {s with toks:=s.toks+1}):=by
 intro prog w A R s h;obtain⟨hp,g,d,tk,os⟩:=s;obtain⟨ho,h⟩:=h;unfold Builtin.«tuple.index»;simp only[Std.Legacy.Range.forIn_eq_forIn_range'];wp_walk using PY ho;have hj:j<items.size:=by
  rcases Nt j items.size with z|z
  ·exact z
  ·rw[Q0.mpr z] at hit;cases hit
 refine nA hit hno j 0 _ _ (OC _) ?_ ?_
 ·simp[Std.Legacy.Range.size];exact hj
 ·exact ME h
def LL(K:W.Frag):V->List V->Hp->VK->Prop:=λx vs H Q=>∃(a:Addr) (ws:List Str) (k:Str) (j:Nat),x=.ref a/\aW K H a (ws.map V.str)/\vs=[.str k]/\ws[j]?=some k/\(∀m,m<j->ws[m]?≠some k)/\Q (.int (j:Nat)) H
def jj:∀{ws:List Str} {its:List Value},Vals (ws.map V.str) its->∀(m:Nat) (y:Str),ws[m]?=some y->∃t,its[m]?=some (.str y t):=λr m y e=>by
 obtain⟨u,h1,h2⟩:=r.get (i:=m) (x:=V.str y) (by rw[M7,e];rfl)
 obtain⟨t,rfl⟩:=(show RelV (.str y) u from h2);exact⟨t,h1⟩
def Ih:uU X "tuple.index" (LL X.K):=by
 intro pins s σ H x xs v us Q I rx rs h;obtain⟨a,ws,k,j,rfl,hq,rfl,hj,hno,q⟩:=h;obtain rfl:v=Value.ref a:=rx;obtain⟨u,rfl,t,rfl⟩:=vals1 rs;obtain⟨its,r,pl,hz⟩:=I.tuple hq;obtain⟨⟨oc,od,oda,osl⟩,ho,hc,n,hd⟩:=id pl;obtain rfl:oc=.type "tuple":=hc;obtain rfl:oda=.seq its.toArray n:=hd;obtain⟨t',hit⟩:=jj r j k hj;refine Om PySem.F.slot_tuple_index ⟨_,ho,rfl⟩ PySem.F.entry_tuple_index (PySem.F.args_tuple_index_2 _ _) (yC (j:=j) (t':=t') (by rw[N4];exact hit) λm hm=>?_) ⟨ho,⟨.int (j:Nat),H,I.tok _,⟨_,rfl⟩,q⟩⟩
 have hl:m<ws.length:=PX hm (Mw.mp hj).1;have e:=Mt hl;obtain⟨ty,hy⟩:=jj r m _ e;exact⟨_,ty,by rw[N4];exact hy,λz=>hno m hm (by rw[e,z])⟩
open Builtin Builtin.Str
theorem iF:∀{l:List (Str×Tok)},Vals ((l.map (·.1)).map V.str) (strValues l)
 |[]=>.nil
 | (x,t)::l=>.cons ⟨t,rfl⟩ (iF (l:=l))
def Gu:V->List V->Hp->VK->Prop:=λx vs H Q=>∃z y,x=.str z/\vs=[.str y]/\(y.length == 0)=false/\z.length<=sizeLine/\(Txt.split z y).length<=sizeLine/\∀p,H p=none->Q (.ref p) (upd H p (.lst ((Txt.split z y).map V.str)))
def so:uU X "str.split" Gu:=by
 intro pins s σ H x xs v us Q I rx rs h;obtain⟨z,y,rfl,rfl,hy,hz,hn,q⟩:=h;obtain⟨t,rfl⟩:=rx;obtain⟨u,rfl,k,rfl⟩:=vals1 rs;have fin:∀(l:List (Str×Tok)) (tk:Nat),l.map (·.1)=Txt.split z y->∃v' H',Inv X pins σ H' {s with heap:=s.heap.push {cls:=.type "list",data:=.seq (strValues l).toArray},toks:=tk}/\RelV v' (.ref s.heap.objs.size)/\Q v' H':=λl tk e=>by
  refine⟨.ref s.heap.objs.size,_,I.laid (t':=tk) (λb ob q=>My _ q) (M8 _) (show ba X.prog X.w _ _ _ (.lst ((Txt.split z y).map V.str)) from⟨by rw[Ms];exact hn,strValues l,0,by rw[<- e];exact iF,MM _ rfl⟩),rfl,q _ (I.aH.fresh (M8 _))⟩
 cases h1:(decide (z.length<y.length) || decide (strKind z<strKind y))
 ·cases hf:(occurrences z y 0 z.length (z.length+1)).isEmpty
  ·have es:Txt.split z y=partsBetween z (occurrences z y 0 z.length (z.length+1)) y.length:=(M4 (Qi h1)).trans (M4 (Qi hf));refine Om QQ (PV _ _ _) Q4 (Qq _ _) (meets_str_split_sep z y t k h1 hy hf hz (by rw[<- es];exact hn)) ?_
   show wants _ _ _ {s with toks:=_,heap:=s.heap.push {cls:=.type "list",data:=.seq (strsFrom s.toks (partsBetween z (occurrences z y 0 z.length (z.length+1)) y.length)).toArray}}
   rw[strsFrom_eq];exact fin (numbered s.toks _) _ ((numbered_texts _ _).trans es.symm)
  ·exact Om QQ (PV _ _ _) Q4 (Qq _ _) (meets_str_split_not_found z y t k h1 hy hf) (fin [(z,t)] s.toks ((M4 (Qi h1)).trans (MD hf)).symm)
 ·exact Om QQ (PV _ _ _) Q4 (Qq _ _) (meets_str_split_cannot_occur z y t k h1) (fin [(z,t)] s.toks (MD h1).symm)
namespace Y
def K0:List V->Hp->VK->Prop:=λxs H Q=>HE xs H Q\/∃(z:Str) (n:Int),xs=[.str z]/\PySem.intText? z=some n/\z.length<=640/\Q (.int n) H
def o_:aX X (.type "int") K0:=by
 refine i6.or ?_;intro pins s σ H xs us Q I r h;obtain⟨z,n,rfl,h0,h1,q⟩:=h;obtain⟨u,rfl,t,rfl⟩:=vals1 r;exact W.KIN.call_text h0 h1 ⟨.int n,H,I.tok _,⟨_,rfl⟩,q⟩
theorem Bo:∀(bs:List Bool),(List.range bs.length).all (λi=>(bs[i]?).getD false)=bs.all id
 |[]=>rfl
 |b::bs=>by
  rw[MJ,List.range_succ_eq_map,NY,List.all_map,NY,<- Bo bs];rfl
def KD(K:W.Frag):List V->Hp->VK->Prop:=λxs H Q=>∃(p:Addr) (bs:List Bool),xs=[.ref p]/\aT K H p (bs.map V.bl)/\Q (.bl (bs.all id)) H
def yK(K:W.Frag)(hK:X.K=K)(hc:X.calm=true):aX X (.builtin "all") (KD K):=by
 subst hK;intro pins s σ H xs us Q I r h;obtain⟨p,bs,rfl,hq,q⟩:=h;obtain⟨u,rfl,ru⟩:=vals1 r;cases ru;obtain⟨its,rv,pl,hz⟩:=I.list hq;have ht:s.heap.IsList p its.toArray:=pl.isList;have hlt:p<s.heap.objs.size:=by obtain⟨o,ho,_⟩:=id ht;exact MN ho
 have hlen:its.length=bs.length:=by have:=rv.length;rw[Ms] at this;lia
 refine call_all_walk (OW ht ?_);refine⟨_,[_,p],[_],_,_,_,λi=>(bs[i]?).getD false,rfl,Walks.list (A:=X.A.in1) (I.ok.hd hc) _ p (M_ hlt) its.toArray,⟨⟨_,MM _ rfl,rfl,rfl⟩,ht.push _⟩,λi v s' Q' E' hP hQ=>?_,λh' tk hk=>?_⟩
 ·have hP':its[i]?=some v:=by rw[<- N4];exact hP
  have hi:i<bs.length:=by have:=(Mw.mp hP').1;lia
  obtain⟨v',e',rr⟩:=rv.get (i:=i) (x:=V.bl bs[i]) (by rw[M7,Mt hi];rfl)
  have e2:its[i]?=some v':=e';rw[hP'] at e2;cases e2;cases rr;simp only[Mt hi,Option.getD_some] at hQ;exact NQ hQ
 ·have e:((List.range its.toArray.size).all λi=>(bs[i]?).getD false)=bs.all id:=by
   rw[MC,hlen];exact Bo bs
  rw[e];refine⟨.bl (bs.all id),H,I.kept λb o e=>hk b o (λhm=>?_) (My _ e),rfl,q⟩;rcases M0.mp hm with rfl|hm
  ·exact absurd (MN e) (Od _)
  ·cases hm
end Y
def JV(z:Str):It:=⟨λi _=>i<z.cps.size,λi H x H'=>H'=H/\∃c,z.cps[i]?=some c/\x=.str ⟨#[c]⟩,λi _=>z.cps.size<=i⟩
def y0{P:Program}(z:Str)(t:Tok)(it:Addr):Turn P w K tg (JV z) [it] it (λi h=>h.IsStrIter it "str_ascii_iterator" z t i) where
 mem:=by simp
 obj:=λi h st b hb=>by
  have e:b=it:=by simpa using hb
  subst e;obtain⟨o,e,c,d⟩:=st;exact⟨o,e,λv z=>by rw[d] at z;cases z⟩
 keep:=λi h h' st k=>let ⟨o,e,r⟩:=st;⟨o,k it (by simp) o e,r⟩
 item:=by
  intro X hP hw hK hc i pins s σ H E I hf st hg;subst hP hw hK;obtain⟨f0,f1,f2,f3,f4,f5⟩:=hf it (by simp)
  have hi:i<z.cps.size:=hg;refine wpAny_pyNext_ascii_item st (c:=z.cps[i]) (by simp[hi]) λh' st' sb=>?_
  have I1:Inv X pins σ H {s with heap:=h',toks:=s.toks+1}:=I.turned (t':=s.toks+1) (λb o hb e=>(sb.2 b hb).trans e) f0 f1 f3 f4 f5
  obtain⟨o,e,c,d⟩:=id st';exact⟨_,rfl,sQ (s:={s with heap:=h',toks:=s.toks+1}) e c d ⋯ ⟨.str ⟨#[z.cps[i]]⟩,H,I1,⟨_,rfl⟩,⟨rfl,_,by simp[hi],rfl⟩,st',λb hb=>(hf b hb).1⟩⟩
 done:=by
  intro X hP hw hK hc i pins s σ H E I hf st hg;subst hP hw hK;obtain⟨f0,f1,f2,f3,f4,f5⟩:=hf it (by simp)
  have hi:z.cps.size<=i:=hg;exact wpAny_pyNext_ascii_end (I.ok.hd hc) st (by simpa using hi) λh' eb=>⟨rfl,I.turned (t':=s.toks) (λb o hb e=>eb b o hb e) f0 f1 f3 f4 f5⟩
 self:=λ_ _ _ _ _ st h=>wpAny_pyIter_striter_ascii st h
def yi{P:Program}(z:Str)(t:Tok)(it:Addr):Turn P w K tg (JV z) [it] it (λi h=>h.IsStrIter it "str_iterator" z t i) where
 mem:=by simp
 obj:=λi h st b hb=>by
  have e:b=it:=by simpa using hb
  subst e;obtain⟨o,e,c,d⟩:=st;exact⟨o,e,λv z=>by rw[d] at z;cases z⟩
 keep:=λi h h' st k=>let ⟨o,e,r⟩:=st;⟨o,k it (by simp) o e,r⟩
 item:=by
  intro X hP hw hK hc i pins s σ H E I hf st hg;subst hP hw hK;obtain⟨f0,f1,f2,f3,f4,f5⟩:=hf it (by simp)
  have hi:i<z.cps.size:=hg;refine wpAny_pyNext_wide_item st (c:=z.cps[i]) (by simp[hi]) λh' st' sb=>?_
  have I1:Inv X pins σ H {s with heap:=h',toks:=s.toks+1}:=I.turned (t':=s.toks+1) (λb o hb e=>(sb.2 b hb).trans e) f0 f1 f3 f4 f5
  obtain⟨o,e,c,d⟩:=id st';exact⟨_,rfl,sQ (s:={s with heap:=h',toks:=s.toks+1}) e c d ⋯ ⟨.str ⟨#[z.cps[i]]⟩,H,I1,⟨_,rfl⟩,⟨rfl,_,by simp[hi],rfl⟩,st',λb hb=>(hf b hb).1⟩⟩
 done:=by
  intro X hP hw hK hc i pins s σ H E I hf st hg;subst hP hw hK;obtain⟨f0,f1,f2,f3,f4,f5⟩:=hf it (by simp)
  have hi:z.cps.size<=i:=hg;exact wpAny_pyNext_wide_end (I.ok.hd hc) st (by simpa using hi) λh' eb=>⟨rfl,I.turned (t':=s.toks) (λb o hb e=>eb b o hb e) f0 f1 f3 f4 f5⟩
 self:=λ_ _ _ _ _ st h=>wpAny_pyIter_striter_wide st h
def Ci(tl:TE):TI:=λσ H R=>tl σ H λx H1=>∃z,x=V.str z/\R (JV z) H1
def GD{l:Expr}(hl:PE X l tl):PI X tg l (Ci tl):=by
 intro pins s σ H R I h;refine bJ (hl pins s σ H _ I h) λv s1 hq1=>?_;obtain⟨x,H1,I1,r1,q1⟩:=hq1;obtain⟨z,rfl,q⟩:=q1;obtain⟨t,rfl⟩:=r1;have fr:∀b∈[s1.heap.objs.size],lZ X pins H1 b:=λb hb=>by
  have e:b=s1.heap.objs.size:=by simpa using hb
  subst e;exact I1.qO (M8 _) (I1.aH.fresh (M8 _))
 cases ha:z.cps.all (· < 128)
 ·refine wpAny_pyIter_wide ha ?_;exact⟨s1.heap.objs.size,[s1.heap.objs.size],_,_,H1,rfl,I1.kept (t':=s1.toks) λb o e=>My _ e,yi z t _,⟨_,MM _ rfl,rfl,rfl⟩,fr,q⟩
 ·refine wpAny_pyIter_ascii ha ?_;exact⟨s1.heap.objs.size,[s1.heap.objs.size],_,_,H1,rfl,I1.kept (t':=s1.toks) λb o e=>My _ e,y0 z t _,⟨_,MM _ rfl,rfl,rfl⟩,fr,q⟩
open PySem PySem.Spec PyProof PyProof.Rows
def DN(K:W.Frag)(a:Addr):It:=
 ⟨λi H=>∃x,getL K a i H x,λi H x H'=>∃p y,(∀xs,aT K H a xs->xs[i]?=some y)/\H p=none/\x=.ref p/\H'=upd H p (.tup [.int i,y]),LK K a⟩
def vy{P:Program}{w:World}{K:W.Frag}{es:List Expr}{tk:Nat}{tp:Pos}(a it e:Addr)(hne:e≠it):Turn P w K (.Tuple es tk tp) (DN K a) [e,it] e (λi h=>(∃old,IsEnum h e it i old)/\h.IsListIter it a i) where
 mem:=by simp
 obj:=λi h st b hb=>by
  obtain⟨⟨old,he⟩,o,eo,c,d⟩:=st;rcases M0.mp hb with z|z
  ·subst z;exact⟨_,he,λv z=>by cases z⟩
  ·have z:b=it:=by simpa using z
   subst z;exact⟨o,eo,λv z=>by rw[d] at z;cases z⟩
 keep:=λi h h' st k=>by
  obtain⟨⟨old,he⟩,o,eo,r⟩:=st;exact⟨⟨old,k e (by simp) _ he⟩,o,k it (by simp) o eo,r⟩
 item:=by
  intro X hP hw hK hc i pins s σ H E I hf st hg;subst hP hw hK;obtain⟨x,xs,hq,hx⟩:=hg;obtain⟨⟨old,he⟩,hit⟩:=st;obtain⟨its,rv,p,hz⟩:=I.list hq;obtain⟨u,hu,ru⟩:=rv.get hx;obtain⟨g0,g1,g2,g3,g4,g5⟩:=hf e (by simp)
  obtain⟨f0,f1,f2,f3,f4,f5⟩:=hf it (by simp)
  have ht:s.heap.IsList a its.toArray:=p.isList;have ha:a≠it:=by
   rintro rfl;obtain⟨o,e1,c1,_⟩:=hit;obtain⟨o',e2,c2,_⟩:=ht;rw[e1] at e2;cases e2;rw[c1] at c2;exact absurd (Value.type.inj c2) ⋯
  have hea:e≠a:=by
   rintro rfl;obtain⟨o',e2,c2,_⟩:=ht;have e1:s.heap.get? e=some _:=he;rw[e1] at e2;cases e2;exact absurd (Value.type.inj c2) ⋯
  have hi:i<its.toArray.size:=by
   have:=(Mw.mp hu).1
   simpa using this
  refine Rb (Draws.list (A:=X.A.in1) (I.ok.hd hc) it a ha its.toArray) he ⟨hit,ht⟩ hi hne (by simp[hne,hea]) λx' h' tk' hP ho hs' hT hsz hk=>?_
  have ex:x'=u:=by
   have hP':its.toArray[i]?=some x':=hP;rw[N4,hu] at hP';exact (Option.some.inj hP').symm
  subst ex;refine⟨.ref s.heap.objs.size,rfl,Qy ho λh2 he2 hs2=>?_⟩;have fr:H s.heap.objs.size=none:=I.aH.fresh (M8 _);have hle:e≠s.heap.objs.size:=M_ (MN he);have hT2:h2.get? s.heap.objs.size=some {cls:=.type "tuple",data:=.seq #[.int i tk',x']}:=(hs2.2 _ (MV hle)).trans hT;have I2:Inv X pins σ (upd H s.heap.objs.size (.tup [.int i,x])) {s with heap:=h2,toks:=tk'+1}:=by
   refine I.qh (fp:=[e,it]) hf (M8 _) (λb o hb eb=>?_) ⟨by show 2<=sizeLine;decide,[.int i tk',x'],.cons ⟨_,rfl⟩ (.cons ru .nil),⟨_,hT2,rfl,_,rfl,rfl⟩⟩
   have n1:b≠e:=λz=>hb (by simp[z])
   have n2:b≠it:=λz=>hb (by simp[z])
   exact (hs2.2 b n1).trans (hk b o n1 n2 eb)
  refine⟨.ref s.heap.objs.size,_,I2,rfl,⟨s.heap.objs.size,x,λys hy=>by rw[I.mr hy hq];exact hx,fr,rfl,rfl⟩,⟨⟨x',?_⟩,?_⟩,λb hb=>?_⟩
  ·have e:(((i+1:Nat)):Int)=(i:Int)+1:=by lia
   rw[e];exact he2
  ·obtain⟨o,e1,r⟩:=hs'.1;exact⟨o,(hs2.2 it (MV hne)).trans e1,r⟩
  ·have n:b≠s.heap.objs.size:=by
    rcases M0.mp hb with z|z
    ·subst z;exact hle
    ·have z:b=it:=by simpa using z
     subst z;obtain⟨o,e1,_⟩:=hit;exact M_ (MN e1)
   rw[af n];exact (hf b hb).1
 done:=by
  intro X hP hw hK hc i pins s σ H E I hf st hg;subst hP hw hK;obtain⟨xs,hq,hx⟩:=hg;obtain⟨⟨old,he⟩,hit⟩:=st;obtain⟨its,rv,p,hz⟩:=I.list hq;have ht:s.heap.IsList a its.toArray:=p.isList;have ha:a≠it:=by
   rintro rfl;obtain⟨o,e1,c1,_⟩:=hit;obtain⟨o',e2,c2,_⟩:=ht;rw[e1] at e2;cases e2;rw[c1] at c2;exact absurd (Value.type.inj c2) ⋯
  have hl:=rv.length;have hsz:its.toArray.size=i:=by simp;lia
  refine Rp (Draws.list (A:=X.A.in1) (I.ok.hd hc) it a ha its.toArray) he (by rw[hsz];exact⟨hit,ht⟩) λh' eb=>⟨rfl,?_⟩
  exact I.turns (t':=s.toks) hf λb o hb e1=>eb b o (λz=>hb (by simp[z])) e1
 self:=λA i s Q E st h=>by
  obtain⟨⟨old,he⟩,_⟩:=st;exact P1 he h
section
variable {X:Cx} {es:List Expr} {tk:Nat} {tp:Pos}
def lM(K:W.Frag)(ta:TA):TI:=λσ H R=>ta σ H λvs H1=>∃a,vs=[.ref a]/\(∃xs,aT K H1 a xs)/\R (DN K a) H1
def Bf{e:Expr}{ta:TA}{p pos:Pos}(hg:Gl X "enumerate")(hm:X.mg "enumerate"=none)(ha:PA X [e] ta)(h1:autoParam (fF e=true) ℜ0)(hv:autoParam (bootBuiltins "enumerate"=some (.type "enumerate")) ℜ6):
  PI X (.Tuple es tk tp) (.Call (.Name "enumerate" p) [e] [] pos) (lM X.K ta):=by
 intro pins s σ H R I h;refine Call_ (fY I hg hm hv (NJ (bJ (ha pos pins s σ H _ I h) λus s1 hq1=>?_) (cW h1) rfl));obtain⟨vs,H1,I1,r1,q1⟩:=hq1;obtain⟨a,e,⟨xs,hq⟩,q⟩:=q1;subst e;obtain⟨u,rfl,ru⟩:=vals1 r1;cases ru;obtain⟨its,rv,pt,hz⟩:=I1.list hq;refine call_enumerate_list pt.isList λh' he hit hsz hk=>?_;refine P1 he ?_;have I2:Inv X pins σ H1 {s1 with heap:=h'}:=I1.kept (t':=s1.toks) hk
 refine⟨s1.heap.objs.size+1,[s1.heap.objs.size+1,s1.heap.objs.size],_,_,H1,rfl,I2,vy a s1.heap.objs.size (s1.heap.objs.size+1) (Oc (OA _)),⟨⟨_,he⟩,hit⟩,λb hb=>?_,q⟩;have hb':s1.heap.objs.size<=b:=by
  rcases M0.mp hb with z|z
  ·rw[z];exact NX _
  ·have z:b=s1.heap.objs.size:=by simpa using z
   rw[z];exact M8 _
 exact I1.qO hb' (I1.aH.fresh hb')
end
def yj(K:W.Frag)(ws:List Str)(v:Value):Prop:=∃p,v=.ref p/\JM K p (ws.map V.str)
structure jv (K:W.Frag) (a:Addr) (D:List (Str×List Str)):Prop where
 low:(a == sysModules)=false
 ex:∃o es ep,K.lookup a=some o/\o.ExactDict/\o.data=.dict es ep/\KTD.Rows (yj K) es.toList D
section
variable {prog:Program} {w:World} {A:Around} {E:Value->Shared->Prop} {s:Shared} {K:W.Frag} {a:Addr} {D:List (Str×List Str)} {k:Str} {tk:Tok}
def jv.typeIs(T:jv K a D)(X:K.In s.heap):s.TypeIs (.ref a) "dict":=let ⟨o,_,_,ho,hc,_⟩:=T.ex;⟨o,X _ _ ho,hc.1⟩
def qY{Q:Option Value->Shared->Prop}(T:jv K a D)(X:K.In s.heap)(h1:∀d v,KTD.datumAt k D=some d->yj K d v->Q (some v) {s with toks:=s.toks+1})(h2:KTD.datumAt k D=none->Q none {s with toks:=s.toks+1}):
  wpAny (model prog w) A (dictGet a (.str k tk)) Q E s:=by
 obtain⟨o,es,ep,ho,hc,hd,hr⟩:=T.ex;have ho:=X _ _ ho;unfold dictGet
 try with_reducible refine N6 ?_
 refine Mv (wpAny_pyHash_str (Mv (KTD.kt_dictFind_strs (s:={s with toks:=s.toks+1}) ho hd (by obtain⟨l⟩:=es;simpa using hr.exact) ?_)))
 have hq:Q (findBy (λk v=>v.isStr k) es k) {s with toks:=s.toks+1}:=by
  have hf:findBy (λk v=>v.isStr k) es k=(es.toList.find? λe=>e.key.isStr k).map (·.val):=by
   obtain⟨l⟩:=es;simp[findBy]
  rw[hf]
  cases hat:KTD.datumAt k D with
  |some d=>obtain⟨v,hv,hfl⟩:=hr.find_some hat;rw[hv];exact h1 d v hat hfl
  |none=>rw[hr.find_none hat];exact h2 hat
 rw[findBy_of_findIdx?] at hq
 cases hi:es.findIdx? λe=>e.key.isStr k with
 |none=>rw[hi] at hq;exact ME hq
 |some i=>rw[hi] at hq;exact Mv (P2 (s:={s with toks:=s.toks+1}) ho hd (ME hq))
def vw:MeetsIn prog w (Builtin.«dict.get» ⟨[.ref a,.str k tk],[]⟩) (λ_ R s=>(jv K a D/\K.In s.heap)/\(∀d v,KTD.datumAt k D=some d->yj K d v->R (.ok (.ret v)) {s with toks:=s.toks+1})/\(KTD.datumAt k D=none->R (.ok (.ret .none)) {s with toks:=s.toks+1})):=
 .of_wp λA R s ⟨T,h1,h2⟩=>by
  show wpAny _ _ (dictGet a (.str k tk) >>= _) _ _ s;refine Mv (qY T.1 T.2 (λd v ha hv=>ME ⟨v,rfl,h1 d v ha hv⟩) λhn=>?_);show wpAny _ _ (Builtin.Dict.missed a (.str k tk) >>= _) _ _ _;exact Mv (wpAny_missed_other T.1.low (ME ⟨.none,rfl,h2 hn⟩))
end
def BU(K:W.Frag)(D:List (Str×List Str))(te:TE):TE:=λσ H Q=>te σ H λy H1=>∃k,y=.str k/\(∀ws p,KTD.datumAt k D=some ws->JM K p (ws.map V.str)->Q (.ref p) H1)/\(KTD.datumAt k D=none->Q .aN H1)
def De{X:Cx}{o e:Expr}{te:TE}{apos cpos:Pos}{d:Addr}{D:List (Str×List Str)}(ho:PE X o (tC (.ref d)))(hD:jv X.K d D)(he:PE X e te)(m:M1 X o "get" apos e cpos):PE X (.Call (.Attribute o "get" apos) [e] [] cpos) (BU X.K D te):=by
 intro pins s σ H Q I h;refine wpAny_Call_method m.base m.Mh m.line PySem.F.plainAttrs_dict PySem.F.slot_dict_get PySem.F.type_dict_get (bJ (ho pins s σ H (λv H'=>v=.ref d/\H'=H) I ⟨rfl,rfl⟩) λu s1 hq1=>?_);obtain⟨x,H1,I1,rx,ex,eh⟩:=hq1;subst ex eh;obtain rfl:u=Value.ref d:=rx;refine⟨hD.typeIs I1.iz,λb q=>?_,?_⟩
 ·cases q;obtain⟨ob,_,_,h1,h2,_⟩:=hD.ex;exact⟨ob,I1.iz _ _ h1,h2.2.1⟩
 rw[m.trees];refine P6 rfl (Calls.evalArgs_plain (Calls.spliced_cons (bJ (he pins s1 σ H1 _ I1 h) λiv s2 ⟨y,H2,I2,ry,k,ek,q1,q2⟩=>Calls.spliced_nil ?_)));subst ek;obtain⟨t,rfl⟩:=ry;refine call_meetsIn PySem.F.slot_dict_get (hD.typeIs I2.iz) PySem.F.entry_dict_get (PySem.F.args_dict_get_2 _ _) (vw (D:=D)) ⟨⟨hD,I2.iz⟩,λws v e r=>?_,λe=>?_⟩
 ·obtain⟨p,rfl,r⟩:=r;exact⟨.ref p,H2,I2.tok _,rfl,q1 ws p e r⟩
 ·exact⟨.aN,H2,I2.tok _,rfl,q2 e⟩
namespace Y
theorem oQ:∀(more kvs:List (Key×V)),((kvs++more).map (·.1)).Nodup->h_ kvs more=kvs++more
 |[],kvs,_=>by rw[Nm];rfl
 |p::r,kvs,h=>by
  have hn:iR kvs p.1=none:=by
   cases hv:iR kvs p.1 with
   |none=>rfl
   |some v =>
    have hm:=EG hv;rw[MI,Nb] at h;have:=List.nodup_append.mp h;exact absurd rfl (this.2.2 _ hm _ MK)
  show h_ (putK kvs p.1 p.2) r=_;rw[C3 p.2 hn,oQ r _ (by rw[MX];exact h),MX]
  rfl
end Y
def v5{α:Type}(xs:List α)(i:Nat)(y:α):List α:=xs.take i++y::xs.drop i
def DE:V->List V->Hp->VK->Prop:=λx vs H Q=>∃l xs i y,x=.ref l/\vs=[.int i,y]/\H l=some (.lst xs)/\0<=i/\i<2^63/\xs.length<sizeLine/\Q .aN (upd H l (.lst (v5 xs (min i.toNat xs.length) y)))
def yA{X:Cx}:KQ X "list.insert" DE:=by
 intro pins s σ H x vs v us Q I rx rv h;obtain⟨l,xs,i,y,rfl,rfl,hH,h0,h1,hz,q⟩:=h;cases rx;obtain⟨u,w',rfl,⟨t,rfl⟩,rw'⟩:=vals2 rv;obtain⟨z,its,n,r,hl,e⟩:=I.tR hH;have hfit:¬ (!Builtin.List.listFitsIndex i)=true:=by
  have:=Rx (k:=i) (by lia) h1
  rw[this];exact ML
 refine Om F.slot_list_insert ⟨_,e,rfl⟩ F.entry_list_insert (F.args_list_insert_3 _ _ _) (AutoSeq1.list_insert_list_int_val_1 l its.toArray n i t w' hfit (by rw[MC];lia)) ⟨e,?_⟩
 have el:its.length=xs.length:=hl.symm;refine⟨.aN,_,I.HA (its':=v5 its (min i.toNat its.length) w') hH e ?_ ?_ ?_,rfl,q⟩
 ·show (have k:=if i<0 then _ else min i.toNat its.toArray.size;(its.toArray.extract 0 k).push w'++its.toArray.extract k)=_
  rw[M4 (by lia)]
  apply PF.mp;unfold v5;simp[QC,Ng]
 ·rw[el];unfold v5;exact (r.take _).append (.cons rw' (r.drop _))
 ·unfold v5;rw[Mx,MJ,MB,Nk];lia
open Builtin Builtin.Str
open PySem PySem.Spec PyProof PyProof.Rows
open Builtin Builtin.Str
section
variable {prog:Program} {w:World} {A:Around} {E:Value->Shared->Prop} {h:Heap} {g:Array GenState} {d:Drawn} {t:Nat} {os:OsState} {a:Addr} {items:Array Value} {cn:Nat}
def Dc:typeLookup (.type "list") "keys"=pure none:=am_miss_of_fast (by kernel_rfl)
def vn:typeLookup (.type "list") "__getattr__"=pure none:=by rw[typeLookup_type,builtinLookup_eq_fast];kernel_rfl
def zF{name:Str}{tk:Tok}{Q:Fin->Shared->Prop}(hx:h.get? a=some {cls:=.type "list",dict:=none,data:=.seq items cn,slots:=#[]})(hmiss:typeLookup (.type "list") name=pure none)(hnc:(["__module__","__name__","__qualname__","__doc__","__annotations__"]:List Str).contains name=false)(hh:A.handled=none)
  (hq:∀h' tk' e,Heap.NewAttrErr h h' e (.ref a) name->E (.ref e) ⟨h',g,d,tk',os⟩) (hsz:name.length+100<=sizeLine:=by size_fits) :
  wpAny (model prog w) A (Builtin.«object.__getattribute__» ⟨[.ref a,.str name tk],[]⟩) Q E ⟨h,g,d,t,os⟩:=by
 have hT:(⟨h,g,d,t,os⟩:Shared).TypeIs (.ref a) "list":=⟨_,hx,rfl⟩;unfold Builtin.«object.__getattribute__»
 repeat (any_goals (first|assumption|wp_step))
 rw[M4 (by rw[hnc];decide)]
 repeat (any_goals (first|assumption|wp_step))
 exact wpAny_raiseAttrError hh hq (attrMsg_fits ∅ hsz)
def Dh{name:Str}{tk:Tok}{R:Result->Shared->Prop}(hx:h.get? a=some {cls:=.type "list",dict:=none,data:=.seq items cn,slots:=#[]})(hmiss:typeLookup (.type "list") name=pure none)(hnc:(["__module__","__name__","__qualname__","__doc__","__annotations__"]:List Str).contains name=false)(hh:A.handled=none)
  (hq:∀h' tk' e,Heap.NewAttrErr h h' e (.ref a) name->R (.error (.ref e)) ⟨h',g,d,tk',os⟩) (hsz:name.length+100<=sizeLine:=by size_fits) :
  codeAny (model prog w) A (.call (.builtin "list.__getattribute__") ⟨[.ref a,.str name tk],[]⟩) R ⟨h,g,d,t,os⟩:=
 codeAny_call_builtin OD.plain F.entry_list_ga (OD.check _ _ _ _ _ _ _ _ (show (⟨h,g,d,t,os⟩:Shared).TypeIs (.ref a) "list" from⟨_,hx,rfl⟩) (F.args_list_getattribute_2 _ _) (zF hx hmiss hnc hh hq hsz))
def JZ{name:Str}{tk:Tok}{Q:Value->Shared->Prop}(hx:h.get? a=some {cls:=.type "list",dict:=none,data:=.seq items cn,slots:=#[]})(hmiss:typeLookup (.type "list") name=pure none)(hnc:(["__module__","__name__","__qualname__","__doc__","__annotations__"]:List Str).contains name=false)(hh:A.handled=none)
  (hq:∀h' tk' e,Heap.NewAttrErr h h' e (.ref a) name->E (.ref e) ⟨h',g,d,tk',os⟩) (hsz:name.length+100<=sizeLine:=by size_fits) :
  wpAny (model prog w) A (getAttrBy (.ref a) (.str name tk) false) Q E ⟨h,g,d,t,os⟩:=by
 have hT:(⟨h,g,d,t,os⟩:Shared).TypeIs (.ref a) "list":=⟨_,hx,rfl⟩;have f1:=sub_AttributeError;have f2:=OD.lookup;have f3:=OD.bind (.ref a);have f5:=vn
 repeat (any_goals (first|assumption|wp_step))
 refine Dh hx hmiss hnc hh (λh' tk' e x=>?_) hsz;obtain⟨t',u',he⟩:=x.there;show wpAny _ _ (getattributeRaised _ _ _ _ _ _ _) _ _ _;unfold getattributeRaised
 repeat (any_goals (first|assumption|wp_step))
 exact hq _ _ _ x
def DR{name:Str}{Q:Option Value->Shared->Prop}(hx:h.get? a=some {cls:=.type "list",dict:=none,data:=.seq items cn,slots:=#[]})(hmiss:typeLookup (.type "list") name=pure none)(hnc:(["__module__","__name__","__qualname__","__doc__","__annotations__"]:List Str).contains name=false)(hh:A.handled=none)
  (hq:∀h' tk',(∀b o,h.get? b=some o->h'.get? b=some o)->Q none ⟨h',g,d,tk',os⟩) (hsz:name.length+100<=sizeLine:=by size_fits) :
  wpAny (model prog w) A (getAttr? (.ref a) name) Q E ⟨h,g,d,t,os⟩:=by
 have f1:=sub_AttributeError;unfold getAttr? getAttrBy?;refine Mv (wpAny_mkText (Mv (PC (JZ hx hmiss hnc hh (λh' tk' e x=>?_) hsz))));obtain⟨t',u',he⟩:=x.there;have k:=x.keeps
 repeat (any_goals (first|assumption|wp_step))
 exact hq _ _ x.keeps
end
section
variable {prog:Program} {w:World} {K:Type} [DecidableEq K] {knd:KeyKind prog w K} {A:Around} {R:Result->Shared->Prop}
def jt:plainId "dict.update.loop"=true:=by decide +kernel
def iN:entryFor table "dict.update.loop"=some Builtin.«dict.update.loop»:=entryFor_of_fast (by kernel_rfl)
def v8(kvs:List (K×Value))(k:K)(v:Value):(stored kvs k v).length<=kvs.length+1:=by
 unfold stored;split
 ·rw[Ms];lia
 ·rw[Mx];simp
theorem lP:∀(more kvs:List (K×Value)),(merged kvs more).length<=kvs.length+more.length
 |[],kvs=>by unfold merged;simp
 |p::more,kvs=>by
  have h1:=lP more (stored kvs p.1 p.2);have h2:=v8 kvs p.1 p.2;have e:merged kvs (p::more)=merged (stored kvs p.1 p.2) more:=rfl;rw[e,MJ];lia
def Eb{it l dd:Addr}{items:Array Value}{more:List (K×Value)}(hh:A.handled=none)(hn:more.length=items.size)(h1:dd≠it)(h2:dd≠l)(h3:it≠l)(ps:Nat->Addr)(hps:∀i,i<items.size->items[i]?=some (.ref (ps i))/\ps i≠it/\ps i≠dd)(hsz:more.length<=20000):
  ∀(k i:Nat) (s:Shared),items.size-i=k->i<=items.size->s.heap.IsListIter it l i->s.heap.IsList l items->s.heap.DictOf knd dd (merged [] (more.take i)) ->
  (∀j,j<items.size->∃key v,s.heap.IsTuple (ps j) #[key,v]/\∃kk,more[j]?=some (kk,v)/\knd.is kk key=true) ->
  (∀h' tk,h'.DictOf knd dd (merged [] more)->(∀b o,b≠it->b≠dd->s.heap.get? b=some o->h'.get? b=some o)->R (.ok (.ret .none)) {s with heap:=h',toks:=tk}) ->
  codeAny (model prog w) A (.builtin "dict.update.loop" ⟨[.ref dd,.ref it,rawInt i,.none],[]⟩) R s:=by
 intro k
 induction k with
 |zero =>
  intro i s hk hi hit hl hd hp hR;have hin:i=items.size:=by lia
  subst hin;refine OQ iN ?_;rw[Pe jt _];show wpAny _ A.in1 (pyNext (.ref it) >>= _) _ _ s;refine Mv (wpAny_pyNext_list_end hh hit hl (by simp) λh' he=>?_)
  refine Mv (ME (ME ?_));refine hR h' s.toks ?_ λb o b1 b2 e=>he b o b1 e;rw[Ng (by lia)] at hd
  exact hd.extBut he h1
 |succ k ih =>
  intro i s hk hi hit hl hd hp hR;have hlt:i<items.size:=by lia
  refine OQ iN ?_;rw[Pe jt _];show wpAny _ A.in1 (pyNext (.ref it) >>= _) _ _ s;obtain⟨e1,e2,e3⟩:=hps i hlt;refine Mv (Rn hit hl e1 λh' hit' hs'=>?_);obtain⟨key,v,ht,kk,em,hkk⟩:=hp i hlt;have ht':h'.IsTuple (ps i) #[key,v]:=by obtain⟨o,ho,r⟩:=ht;exact⟨o,(hs'.2 _ e2).trans ho,r⟩
  have hd':h'.DictOf knd dd (merged [] (more.take i)):=by obtain⟨o,es,ep,ho,r⟩:=hd;exact⟨o,es,ep,(hs'.2 _ h1).trans ho,r⟩
  refine Mv (N6 (Mv (wpAny_tryCatch ?_)));unfold Dict.pairItems;refine Mv (PZ ht'.typeIs ?_);rw[MD ⋯]
  obtain⟨o,ho,hoc,nn,hod⟩:=id ht';refine Mv (O_ ho hod (ME ?_));show wpAny _ A.in1 (holding [key,v] (dictSet dd key v)) _ _ _;refine N6 (wpAny_dictSet_pairs hkk hd' (λh2' hd2 hs2=>?_) ?_)
  rotate_left
  ·exact Mz (lP _ _) (Mz (by rw[N0,OC,MB];exact Mz (Nat.min_le_right _ _) hsz) ⋯)
  have et:merged [] (more.take (i+1))=stored (merged [] (more.take i)) kk v:=by
   have hlt':i<more.length:=by lia
   have:more[i]=(kk,v):=by rw[Mt hlt'] at em;exact Option.some.inj em
   rw[PH hlt',this];unfold merged;rw[List.foldl_append];rfl
  refine ME ⟨RG jt _,?_⟩;have:=ih (i+1) {s with heap:=h2',toks:=s.toks+1} (by lia) hlt (by obtain⟨o,ho,r⟩:=hit';exact⟨o,(hs2.2 _ (MV h1)).trans ho,r⟩) (by obtain⟨o,ho,r⟩:=hl;exact⟨o,(hs2.2 _ (MV h2)).trans ((hs'.2 _ (MV h3)).trans ho),r⟩) (by rw[et];exact hd2) (λj hj=>by
   obtain⟨key,v,⟨o,ho,r⟩,rr⟩:=hp j hj;obtain⟨f1,f2,f3⟩:=hps j hj;exact⟨key,v,⟨o,(hs2.2 _ f3).trans ((hs'.2 _ f2).trans ho),r⟩,rr⟩) (λh3' tk hd3 hk3=>hR h3' tk hd3 λb o b1 b2 e=>hk3 b o b1 b2 ((hs2.2 _ b2).trans ((hs'.2 _ b1).trans e)))
  exact this
def ud{E:Value->Shared->Prop}{s:Shared}{l:Addr}{items:Array Value}{cn:Nat}{more:List (K×Value)}{Q:Value->Shared->Prop}(hl:s.heap.get? l=some {cls:=.type "list",dict:=none,data:=.seq items cn,slots:=#[]})(hh:A.handled=none)(hn:more.length=items.size)(hsz:more.length<=20000)
  (ps:Nat->Addr) (hps:∀i,i<items.size->items[i]?=some (.ref (ps i))) (hp:∀j,j<items.size->∃key v,s.heap.IsTuple (ps j) #[key,v]/\∃kk,more[j]?=some (kk,v)/\knd.is kk key=true)
  (h:∀h' tk,h'.DictOf knd s.heap.objs.size (merged [] more)->(∀b o,s.heap.get? b=some o->h'.get? b=some o)->Q (.ref s.heap.objs.size) {s with heap:=h',toks:=tk}) :
  wpAny (model prog w) A (call (.type "dict") [.ref l]) Q E s:=by
 refine callType_codes (Q₁:=λobj s₁=>obj=.ref s.heap.objs.size/\s₁={s with heap:=s.heap.push {cls:=.type "dict",data:=.dict #[]}}) F.kt_called_dict (F.kt_typeCall_dict_1 _) F.entry_dict_init (kt_code_dict_new _ ⟨rfl,rfl⟩) ?_
 rintro obj s₁ ⟨rfl,rfl⟩;have hnew:(s.heap.push {cls:=.type "dict",data:=.dict #[]}).DictOf knd s.heap.objs.size []:=Heap.DictOf.new s.heap;refine⟨hnew.typeIs,F.args_dict_init_2 _ _,?_⟩;unfold Builtin.«dict.__init__»;refine Mv ?_;unfold Builtin.Dict.selfAndRest;refine Mv (wpAny_notOrdered_dict hnew.typeIs ?_);show wpAny _ _ (pure (s.heap.objs.size,[Value.ref l])) _ _ _;refine ME ?_;show wpAny _ _ (Builtin.Dict.updateFrom "dict.__init__" s.heap.objs.size (.ref l) [] .none) _ _ _;unfold Builtin.Dict.updateFrom;have hl1:(s.heap.push {cls:=.type "dict",data:=.dict #[]}).get? l=some {cls:=.type "list",dict:=none,data:=.seq items cn,slots:=#[]}:=My _ hl;have hT:({s with heap:=s.heap.push {cls:=.type "dict",data:=.dict #[]}}:Shared).TypeIs (.ref l) "list":=⟨_,hl1,rfl⟩
 refine Mv (PZ hT ?_);rw[MD ⋯]
 refine Mv ?_;refine DR hl1 Dc ∅ hh (λh1 tk1 k1=>?_)
 rw[MD (show (none:Option Value).isNone=true from rfl)];have hl2:h1.IsList l items:=⟨_,k1 _ _ hl1,rfl,cn,rfl⟩;have up:∀b o,s.heap.get? b=some o->h1.get? b=some o:=λb o e=>k1 b o (My _ e);obtain⟨od,es,ep,hod,hor⟩:=hnew;have hdl:s.heap.objs.size<h1.objs.size:=MN (k1 _ _ hod);have hll:l<s.heap.objs.size:=MN hl;have hpl:∀j,j<items.size->ps j<s.heap.objs.size:=λj hj=>by obtain⟨key,v,⟨o,ho,_⟩,_⟩:=hp j hj;exact MN ho
 refine Mv (Q8 (Mv (OW hl2 (ME ⟨RG jt _,?_⟩))));refine Eb (knd:=knd) (it:=h1.objs.size) (l:=l) (items:=items) (more:=more) (A:=A.in1) hh hn (M_ hdl) (Oc hll) (Oc (PX hll hdl)) ps (λi hi=>⟨hps i hi,M_ (PX (hpl i hi) hdl),M_ (hpl i hi)⟩) hsz _ 0 _ rfl (MG _) ⟨_,MM _ rfl,rfl,rfl⟩ ?_ ⟨od,es,ep,My _ (k1 _ _ hod),hor⟩ (λj hj=>?_) (λh' tk hd hk=>⟨rfl,h h' tk hd λb o e=>hk b o ?_ ?_ (My _ (up b o e))⟩)
 ·obtain⟨o,ho,r⟩:=hl2;exact⟨o,My _ ho,r⟩
 ·obtain⟨key,v,⟨o,ho,r⟩,rr⟩:=hp j hj;exact⟨key,v,⟨o,My _ (up _ _ ho),r⟩,rr⟩
 ·exact M_ (PX (MN e) hdl)
 ·exact M_ (MN e)
end
theorem oP{α β:Type}{F:α->β->Prop}:∀{l₁:List α} {l₂:List β},l₁.length=l₂.length->(∀(j:Nat) a b,l₁[j]?=some a->l₂[j]?=some b->F a b)->Paired F l₁ l₂
 |[],[],_,_=>.nil
 |[],_::_,h,_=>by cases h
 |_::_,[],h,_=>by cases h
 |a::l₁,b::l₂,h,f=>.cons (f 0 a b rfl rfl) (oP (Nat.succ.inj h) λj x y hx hy=>f (j+1) x y (by simpa using hx) (by simpa using hy))
def EE(K:W.Frag)(H:Hp)(vs:List V)(kvs:List (Key×V)):Prop:=vs.length=kvs.length/\∀(j:Nat) (k:Key) (x:V),kvs[j]?=some (k,x)->∃p,vs[j]?=some (.ref p)/\H p=some (.tup [kV k,x])
def IL(K:W.Frag):List V->Hp->VK->Prop:=λxs H Q=>∃l vs kvs,xs=[.ref l]/\H l=some (.lst vs)/\EE K H vs kvs/\kvs.length<=20000/\∀p,H p=none->Q (.ref p) (upd H p (.dK (h_ [] kvs)))
def sU{X:Cx}(K:W.Frag)(hc:X.calm=true):aX X (.type "dict") (IL K):=by
 intro pins s σ H xs us Q I r h;obtain⟨l,vs,kvs,rfl,hl,hp,hk,q⟩:=h;obtain⟨u,rfl,e0⟩:=vals1 r;have e1:u=.ref l:=e0;subst e1;obtain⟨hlen,its,n,hv,hget⟩:=(show ba X.prog X.w H s.heap l (.lst vs) from I.aH l _ hl);have hsz:its.toArray.size=kvs.length:=by rw[<- hp.1,MC,<- Paired.length hv]
 have key:∀j,j<kvs.length->∃p k x,kvs[j]?=some (k,x)/\its[j]?=some (.ref p)/\∃ku xu,s.heap.IsTuple p #[ku,xu]/\jk k ku=true/\RelV x xu:=λj hj=>by
  obtain⟨p,e1,e2⟩:=hp.2 j kvs[j].1 kvs[j].2 (Mt hj);obtain⟨u,e3,e4⟩:=Vals.get hv e1;have e5:u=.ref p:=e4;subst e5;obtain⟨_,ts,tv,hT⟩:=(show ba X.prog X.w H s.heap p (.tup [kV kvs[j].1,kvs[j].2]) from I.aH p _ e2);obtain⟨ku,xu,rfl,r1,r2⟩:=vals2 tv;exact⟨p,_,_,Mt hj,e3,ku,xu,hT.to,BH (P:=X.prog) (w:=X.w) r1,r2⟩
 obtain⟨f,hf⟩:=Classical.axiomOfChoice (r:=λ(j:Nat) (y:Addr×Value×Value)=>∀hj:j<kvs.length,s.heap.IsTuple y.1 #[y.2.1,y.2.2]/\jk kvs[j].1 y.2.1=true/\RelV kvs[j].2 y.2.2/\its[j]?=some (.ref y.1)) (λj=>by
  by_cases hj:j<kvs.length
  ·obtain⟨p,k,x,e1,e2,ku,xu,hT,h1,h2⟩:=key j hj;rw[Mt hj] at e1;have e1':kvs[j]=(k,x):=Option.some.inj e1;exact⟨(p,ku,xu),λ_=>⟨hT,by rw[e1'];exact h1,by rw[e1'];exact h2,e2⟩⟩
  ·exact⟨(0,.none,.none),λh=>absurd h hj⟩)
 let mv:List (Key×Value):=(List.range kvs.length).map λj=>((kvs[j]?.getD (.inl 0,.aN)).1,(f j).2.2)
 have hmv:mv.length=kvs.length:=by simp[mv]
 have hmj:∀j (hj:j<kvs.length),mv[j]?=some (kvs[j].1,(f j).2.2):=λj hj=>by
  simp only[mv,M7,OF hj,Option.map_some,Mt hj,Option.getD_some]
 have at':∀j (hj:j<kvs.length),∃ku xu,s.heap.IsTuple (f j).1 #[ku,xu]/\jk kvs[j].1 ku=true/\RelV kvs[j].2 xu/\its[j]?=some (.ref (f j).1)/\mv[j]?=some (kvs[j].1,xu):=λj hj=>by
  obtain⟨h1,h2,h3,h4⟩:=hf j hj;exact⟨_,_,h1,h2,h3,h4,hmj j hj⟩
 have hKV:KV kvs mv:=by
  refine oP (by rw[hmv]) λj a b ha hb=>?_
  have hj:j<kvs.length:=by
   rcases Nt j kvs.length with c|c
   ·exact c
   ·rw[Nv.mpr c] at ha;cases ha
  obtain⟨ku,xu,_,_,h2,_,h3⟩:=at' j hj;rw[Mt hj] at ha;cases ha;rw[h3] at hb;cases hb;exact⟨rfl,h2⟩
 refine ud (knd:=cA X.prog X.w) hget (I.ok.hd hc) (by rw[hmv,hsz]) (by rw[hmv];exact hk) (λj=>(f j).1) (λi hi=>?_) (λj hj=>?_) (λh' tk hd hkp=>?_)
 ·rw[hsz] at hi;obtain⟨_,_,_,_,_,e,_⟩:=at' i hi;rw[N4];exact e
 ·rw[hsz] at hj;obtain⟨ku,xu,hT,h1,_,_,h3⟩:=at' j hj;exact⟨ku,xu,hT,_,h3,h1⟩
 ·have hz:(h_ [] kvs).length<=sizeLine:=by
   have h1:=iM kvs [];rw[N0] at h1;exact Mz (show _<=20000 by lia) ⋯
  exact⟨.ref s.heap.objs.size,_,I.laid (t':=tk) hkp (M8 _) (HX hz (Nh.mpr (MV (M_ I.big))) (hKV.merge .nil) hd),rfl,q _ (I.aH.fresh (M8 _))⟩
open PySem PySem.Spec PyProof PyProof.Rows
namespace Z
section
variable {X:Cx} {CX:qe} {k:Nat} {f C:Addr} {fd:FuncData} {ps:List Str} {sp:Sp} {E:XK} {x m nm:Str} {p pos pos' apos:Pos} {e o i value:Expr} {es:List Expr} {ta tv td ty:TE} {t:TA}
def fld(K:W.Frag)(hK:X.K=K)(he:QE X e ta)(hb:autoParam (attributeBase e nm X.env (eval e X.env)=eval e X.env) ℜ0):QE X (.Attribute e nm pos) (C7 K ta nm):=by subst hK;exact⟨IW he.h hb⟩
def qu(K:W.Frag)(hK:X.K=K)(ha:QE X o ta)(hv:QE X value tv)(hs:autoParam (swapsWith value (some (.Attribute o nm pos')) pos.line X.env=pure false) ℜ0):QS X (.Assign [.Attribute o nm pos'] value pos) (AV K ta tv nm):=by subst hK;exact⟨Gn ha.h hv.h hs⟩
def nM(K:W.Frag)(hK:X.K=K){pl:Sem Bool}(he:QE X o ta)(c:gX K C)(hm:Meth K C m f)(F:aZ X.prog X.w K X.mg X.base CX k f fd ps sp)(hr:bw k X.A)(hb:Binds K fd ps [])(hx:Passes CX X E)(ha:QA X (e::es) t)
  (hst:autoParam (starEach (e::es) X.env=(false,eval e X.env)::starEach es X.env) ℜ0) (hpl:autoParam ((backTo pos (starEach es X.env)).any (·.1)=false) ℜ0)
  (ht:autoParam (eval (.Call (.Attribute o m apos) (e::es) [] pos) X.env=(do
   let ov <- eval o X.env
   standAt apos.atName
   let (f,first) <- holding [ov] (getMethod ov m pl)
   callWith pos f first (backTo pos (starEach (e::es) X.env)) (backToKw pos (keywordEach [] X.env)))) ℜ0) :
  QE X (.Call (.Attribute o m apos) (e::es) [] pos) (nB C m sp [] E ta t):=by subst hK;exact⟨DM (pl:=pl) he.h c hm F hr hb .nil hx ha.h hst hpl ht⟩
def mZ(K:W.Frag)(hK:X.K=K){pl:Sem Bool}(he:QE X o ta)(c:gX K C)(hm:Meth K C m f)(F:aZ X.prog X.w K X.mg X.base CX k f fd ps sp)(hr:bw k X.A)(hb:Binds K fd ps [])(hx:Passes CX X E)
  (ht:autoParam (eval (.Call (.Attribute o m apos) [] [] pos) X.env=(do
   let ov <- eval o X.env
   standAt apos.atName
   let (f,first) <- holding [ov] (getMethod ov m pl)
   callWith pos f first (backTo pos (starEach [] X.env)) (backToKw pos (keywordEach [] X.env)))) ℜ0) :
  QE X (.Call (.Attribute o m apos) [] [] pos) (nB C m sp [] E ta iA):=by subst hK;exact⟨A0 (pl:=pl) he.h c hm F hr hb .nil hx ht⟩
def make(K:W.Frag)(hK:X.K=K)(M:Mk K C f)(F:aZ X.prog X.w K X.mg X.base CX k f fd ps sp)(hr:bw (k+1) X.A)(hg:Gl X x)(hm:X.mg x=some (.ref C))(hb:Binds K fd ps [])(hx:Passes CX X E)
  (ha:QA X (e::es) t) (hdb:autoParam ((x ==("__debug__":Str))=false) ℜ1) (he:autoParam (starEach (e::es) X.env=(false,eval e X.env)::starEach es X.env) ℜ0) (hpl:autoParam ((backTo pos (starEach es X.env)).any (·.1)=false) ℜ0) :
  QE X (.Call (.Name x p) (e::es) [] pos) (n8 C sp [] E t):=by subst hK;exact⟨DK M F hr hg hm hb .nil hx ha.h hdb he hpl⟩
def LH(hu:X.A.units+1<cLine)(ho:QE X o td)(hi:QE X i ty)(hs:zw i:=by exactλ_ _=>rfl):QE X (.Subscript o i pos) (r8 td ty):=⟨DJ hu ho.h hi.h hs⟩
end
end Z
namespace Ap
def C7(K:W.Frag)(ta:TE)(f:Str)(σ:St)(H:Hp)(Q:VK):L2.C7 K ta f σ H Q=ta σ H λx H1=>∃a C dx fs v,x=.ref a/\H1 a=some (.ins C dx fs)/\gX K C/\aP K C f/\fs.lookup f=some v/\Q v H1:=rfl
def AV(K:W.Frag)(ta tv:TE)(f:Str)(D:Ends)(σ:St)(H:Hp):L2.AV K ta tv f D σ H=tv σ H λy H1=>ta σ H1 λx H2=>∃a C dx fs,x=.ref a/\H2 a=some (.ins C dx fs)/\gX K C/\aP K C f/\fs.length<1000/\D.nx σ (upd H2 a (.ins C dx (cR f y fs))):=rfl
def nB(C:Addr)(m:Str)(sp:Sp)(dvs:List V)(E:XK)(ta:TE)(t:TA)(σ:St)(H:Hp)(Q:VK):L2.nB C m sp dvs E ta t σ H Q=ta σ H λx H1=>∃a dx fs,x=.ref a/\H1 a=some (.ins C dx fs)/\fs.lookup m=none/\t σ H1 λvs H2=>sp (x::(vs++dvs)) H2 Q E:=rfl
def n8(C:Addr)(sp:Sp)(dvs:List V)(E:XK)(t:TA)(σ:St)(H:Hp)(Q:VK):L2.n8 C sp dvs E t σ H Q=t σ H λvs H1=>∀x dx,H1 x=none->H1 dx=none->dx≠x->sp (.ref x::(vs++dvs)) (upd (upd H1 dx (.own x)) x (.ins C dx [])) (λv H2=>v=.aN/\Q (.ref x) H2) E:=rfl
def r8(td ty:TE)(σ:St)(H:Hp)(Q:VK):L2.r8 td ty σ H Q=td σ H λx H1=>ty σ H1 λy H2=>∃a v,x=.ref a/\Ez H2 a y (some v)/\Q v H2:=rfl
def B0(td ty tv:TE)(D:Ends)(σ:St)(H:Hp):L2.B0 td ty tv D σ H=tv σ H λv H1=>td σ H1 λx H2=>ty σ H2 λy H3=>∃a H4,x=.ref a/\JP H3 a y v H4/\D.nx σ H4:=rfl
end Ap
section
variable {prog:Program} {w:World} {A:Around} {E:Value->Shared->Prop} {s:Shared} {K:W.Frag} {a:Addr} {D:List (Str×List Str)} {k:Str} {tk:Tok}
def yl{ws:List Str}{Q:Value->Shared->Prop}(T:jv K a D)(X:K.In s.heap)(hk:KTD.datumAt k D=some ws)(h:∀v,yj K ws v->Q v {s with toks:=s.toks+1}):wpAny (model prog w) A (getItem (.ref a) (.str k tk)) Q E s:=by
 have hT:=T.typeIs X;unfold getItem
 try with_reducible refine N6 ?_
 refine Mv (wpAny_sequenceKey hT ⋯ ?_)
 refine Mv (N5 (name:=Str.ofString "__getitem__") hT PySem.F.slot_dict_getitem
  (NC PySem.F.slot_dict_getitem hT PySem.F.entry_dict_getitem ?_ (args_dict_getitem _ _)))
 show wpAny _ _ (dictGet a (.str k tk) >>= _) _ _ s;refine Mv (qY T X (λd v e r=>?_) λe=>?_)
 ·rw[hk] at e;cases e;exact ME ⟨v,rfl,ME (h v r)⟩
 ·rw[hk] at e;cases e
end
variable{Q:Value->Shared->Prop}{X:Cx}{body e:Expr}{pos:Pos}{c' d f kS:Addr}{a b c:List Nat}{D e1 ep i k:Nat}{α:Type}{p:Array Nat}{s:Shared}{t:TA}{N:List Str}{σf:List (Option V)}{scope:Scope}{params:Arguments}{ctv pm:Value}{H H1:Hp}{q:Str}{h h':Heap}{P:PySem.Fin->Shared->Prop}{us:List Value}{kz:List Int}{xs:List V}{K:W.Frag}{es:Array DictEntry}{w:World}
def BI(K:W.Frag)(D:List (Str×List Str))(te:TE):TE:=λσ H Q=>te σ H λy H1=>∃k ws,y=.str k/\KTD.datumAt k D=some ws/\∀p,JM K p (ws.map V.str)->Q (.ref p) H1
def GJ{o:Expr}{te:TE}{D:List (Str×List Str)}(ho:PE X o (tC (.ref d)))(hD:jv X.K d D)(he:PE X e te)(hs:zw e):PE X (.Subscript o e pos) (BI X.K D te):=by
 intro pins s σ H Q I h;refine wX PySem.F.slot_dict_getitem.lookup hs (bJ (ho pins s σ H (λv H'=>v=.ref d/\H'=H) I ⟨rfl,rfl⟩) λu s1 hq1=>?_);obtain⟨x,H1,I1,rx,ex,eh⟩:=hq1;subst ex eh;obtain rfl:u=Value.ref d:=rx;refine bJ (he pins s1 σ H1 _ I1 h) λiv s2 hq2=>?_;obtain⟨y,H2,I2,ry,k,ws,ek,e1,q⟩:=hq2;subst ek;obtain⟨t,rfl⟩:=ry;refine⟨hD.typeIs I2.iz,yl hD I2.iz e1 λv r=>?_⟩;obtain⟨p,rfl,r⟩:=r;exact⟨.ref p,H2,I2.tok _,rfl,q p r⟩
def Z.seq{tg l:Expr}{tl:TE}(K:W.Frag)(hK:X.K=K)(hl:QE X l tl):QI X tg l (Az K tl):=by subst hK;exact⟨Gk hl.h⟩
def Ap.Az(K:W.Frag)(tl:TE)(σ:St)(H:Hp)(R:It->Hp->Prop):L2.Az K tl σ H R=tl σ H λx H1=>∃a,x=V.ref a/\(((∃xs,aT K H1 a xs)/\R (tQ K a) H1)\/((∃xs,aW K H1 a xs)/\R (uQ K a) H1)):=rfl
namespace Y
def Gi:V->List V->Hp->VK->Prop:=λx vs H Q=>∃(z y:Str) (i:Nat) (rest:List Nat),x=.str z/\vs=[.str y]/\Builtin.Str.occurrences z y 0 z.length 1=i::rest/\Q (.int (i:Nat)) H
def C1:uU X "str.index" Gi:=by
 intro pins s σ H x xs v us Q I rx rs h;obtain⟨z,y,i,rest,rfl,rfl,ho,q⟩:=h;obtain⟨t,rfl⟩:=rx;obtain⟨u,rfl,k,rfl⟩:=vals1 rs;exact SC.index ho ⟨.int _,H,I.tok _,⟨_,rfl⟩,q⟩
def JG:V->List V->Hp->VK->Prop:=λx vs H Q=>∃(a:Addr) (ws:List Str) (k:Str) (j:Nat),x=.ref a/\H a=some (.lst (ws.map V.str))/\vs=[.str k]/\ws[j]?=some k/\(∀m,m<j->ws[m]?≠some k)/\Q (.int (j:Nat)) H
def wk:KQ X "list.index" JG:=by
 intro pins s σ H x xs v us Q I rx rs h;obtain⟨a,ws,k,j,rfl,hH,rfl,hj,hno,q⟩:=h;cases rx;obtain⟨u,rfl,t,rfl⟩:=vals1 rs;obtain⟨z,its,n,r,hl,e⟩:=I.tR hH;obtain⟨t',hit⟩:=jj r j k hj;have hjl:j<ws.length:=(Mw.mp hj).1;rw[Ms] at z hl;have hji:j<its.toArray.size:=by rw[MC];lia
 have sz:(sizeLine:Int)<2^63-1:=by decide
 have hje:its.toArray[j]=.str k t':=by
  have:its.toArray[j]?=some (.str k t'):=by rw[N4];exact hit
  exact (Oe.mp this).2
 have hall:∀(m:Nat) (hm:m<its.toArray.size),∃y ty,its.toArray[m]=.str y ty/\ws[m]?=some y:=λm hm=>by
  have hm':m<ws.length:=by rw[MC] at hm;lia
  have e1:=Mt hm';obtain⟨ty,hy⟩:=jj r m _ e1;have:its.toArray[m]?=some (.str ws[m] ty):=by rw[N4];exact hy
  exact⟨_,ty,(Oe.mp this).2,e1⟩
 refine Om PySem.F.slot_list_index ⟨_,e,rfl⟩ PySem.F.entry_list_index (PySem.F.args_list_index_2 _ _) (SeqAt.list_indexAt a its.toArray n none _ (.str k t) (λy=>match y with|.str y _=>y == k|_=>false) j hji (by lia) (by rw[hje];exact Of k) λm hm hmj=>?_) ⟨e,λy hy=>?_,⟨.int (j:Nat),H,I.tok _,⟨_,rfl⟩,q⟩⟩
 ·obtain⟨y,ty,ey,ew⟩:=hall m hm;rw[ey];exact Nh.mpr λz=>hno m hmj (by rw[ew,z])
 ·obtain⟨m,hm,rfl⟩:=Array.mem_iff_getElem.mp hy;obtain⟨y,ty,ey,ew⟩:=hall m hm;rw[ey];exact SeqAt.EqAt.str_str _ _ _ _
end Y
open PySem PySem.Spec PyProof PyProof.Rows PySem.W
namespace SP
section
variable (k:Nat->Int)
def R(i j:Nat):Prop:=k i<k j\/(k i=k j/\i<j)
variable {k}
def R.le{a b:Nat}(h:R k a b):k a<=k b:=by unfold R at h;lia
end
structure PI (n m:Nat) (p:Array Nat) (a:List Nat):Prop where
 eq:p.toList=a++List.range' m (n-m)
 perm:a.Perm (List.range m)
 le:m<=n
section
variable {n m:Nat} {p:Array Nat} {a:List Nat}
def PI.len(h:PI n m p a):a.length=m:=by rw[h.perm.length_eq,Nr]
def PI.lt(h:PI n m p a){x:Nat}(hx:x∈a):x<m:=Ov.mp (h.perm.mem_iff.mp hx)
def PI.size(h:PI n m p a):p.size=n:=by
 have:=h.len;have:=h.le;rw[<- Np,h.eq,Mx,List.length_range',h.len];lia
def PI.at(h:PI n m p a){x:Nat}(hi:a[i]?=some x):p.getD i 0=x:=by
 have:p[i]?=some x:=by
  rw[<- Nj,h.eq,MU (Mw.mp hi).1];exact hi
 rw[Qr,this];rfl
def PI.nx(h:PI n m p a)(hm:m<n):p.getD m 0=m:=by
 have:p[m]?=some m:=by
  rw[<- Nj,h.eq,MR (by rw[h.len];exact M8 m),h.len,NN,List.getElem?_range' (by lia)];simp
 rw[Qr,this];rfl
def PI.step(h:PI n m p a)(hm:m<n):PI n (m+1) p (a++[m]):=by
 refine⟨?_,?_,hm⟩
 ·rw[h.eq,MX,show n-m=(n-(m+1))+1 by lia,Ow];rfl
 ·rw[Qa];exact h.perm.append_right [m]
def PI.last(h:PI n m p a){y:Nat}(e:a=b++[y]):p.getD (m-1) 0=y:=by
 refine h.at ?_;have:=h.len;rw[e,Mx] at this;simp only[MJ,N0] at this;rw[e,MR (by lia),show m-1-b.length=0 by lia];rfl
end
def BY{xs:Array α}{l:Nat}{y:α}(hy:xs[k]?=some y)(hl:l<=k):(bubble xs k (k-l)).toList=xs.toList.take l++y::(xs.toList.drop l).take (k-l)++xs.toList.drop (k+1):=by
 have hk:k<xs.size:=(Oe.mp hy).1;have hL:xs.toList.length=xs.size:=by simp
 apply O5;intro i;rw[Nj,getElem?_bubble hk _ (by lia),show k-(k-l)=l by lia]
 rw[MX,Pg];have ht:(xs.toList.take l).length=l:=by rw[MB];lia
 rw[ht];by_cases h1:i<l
 ·rw[MD h1,M4 (by lia),M4 (by lia),O0,MD h1,Nj]
 ·rw[M4 h1];by_cases h2:i=l
  ·subst h2;rw[MD rfl,NN,hy];rfl
  ·rw[M4 h2,show i-l=(i-l-1)+1 by lia,NL,Pz,Pg]
   have hm:((xs.toList.drop l).take (k-l)).length=k-l:=by rw[MB,Nk];lia
   rw[hm];by_cases h3:i-l-1<k-l
   ·rw[MD h3,MD (by lia),O0,MD h3,Nu,Nj]
    congr 1;lia
   ·rw[M4 h3,M4 (by lia),Nu,Nj]
    congr 1;lia
def zN{xs:Array α}{j:Nat}(hi:i<=j)(hj:j<=xs.size):(mirror xs i j ((j-i) / 2)).toList=xs.toList.take i++((xs.toList.drop i).take (j-i)).reverse++xs.toList.drop j:=by
 have hL:xs.toList.length=xs.size:=by simp
 apply O5;intro k;rw[Nj,getElem?_mirror_all hj,MX,Pg];have ht:(xs.toList.take i).length=i:=by rw[MB];lia
 have hm:((xs.toList.drop i).take (j-i)).length=j-i:=by rw[MB,Nk];lia
 rw[ht];by_cases h1:k<i
 ·rw[MD h1,M4 (by lia),O0,MD h1,Nj]
 ·rw[M4 h1,Pg,OG,hm];by_cases h2:k<j
  ·rw[MD (by lia),MD (by lia),List.getElem?_reverse (by lia),hm,O0,MD (by lia),Nu,Nj]
   congr 1;lia
  ·rw[M4 (by lia),M4 (by lia),Nu,Nj]
   congr 1;lia
def PI.rev{n m:Nat}(h:PI n m p (b++c)):PI n m (kas_rev p b.length m) (b++c.reverse):=by
 have hl:b.length+c.length=m:=by rw[<- h.len,Mx]
 refine⟨?_,((List.reverse_perm c).append_left b).trans h.perm,h.le⟩;unfold kas_rev;rw[zN (by lia) (by rw[h.size];exact h.le),h.eq,MX b c,R3,List.drop_left,show m-b.length=c.length by lia,R3,<- MX b c,List.drop_left' (by rw[Mx];exact hl)]
def pT{m:Nat}(h:a.length=m)(hm:1<=m):∃b y,a=b++[y]:=by
 rcases R4 a with rfl|⟨b,y,rfl⟩
 ·cases h;exact absurd hm ⋯
 ·exact⟨b,y,by simp⟩
section
variable {k:Nat->Int} {n:Nat} {cmp:Nat->Nat->(Bool->Shared->Prop)->Shared->Prop} {I:Shared->Prop}
def sW(k:Nat->Int)(n:Nat)(cmp:Nat->Nat->(Bool->Shared->Prop)->Shared->Prop)(I:Shared->Prop):Prop:=∀i j C s,i<n->j<n->I s->(∀s',I s'->C (decide (k i<k j)) s')->cmp i j C s
theorem uZ(hc:sW k n cmp I){G:Nat->Shared->Prop}:∀(f m:Nat) (a:List Nat) (s:Shared),PI n m p a->1<=m->f=n-m->a.Pairwise (R k)->I s ->
  (∀m' a' s',PI n m' p a'->m<=m'->a'.Pairwise (R k)->I s'->(∀b y,a'=b++[y]->m'<n->k m'<k y)->G m' s')->(kas_asc p f m).kasWp cmp G s
 |0,m,a,s,h,h1,hf,hp,hI,g=>g m a s h (M8 m) hp hI λ_ _ _ hl=>by have:=h.le;lia
 |f+1,m,a,s,h,h1,hf,hp,hI,g=>by
  have hm:m<n:=by lia
  obtain⟨b,y,e⟩:=pT h.len h1;show cmp (p.getD m 0) (p.getD (m-1) 0) _ s;rw[h.nx hm,h.last e];have hy:y<m:=h.lt (by rw[e];simp)
  refine hc m y _ s hm (by lia) hI λs' hI'=>?_
  by_cases c:k m<k y
  ·rw[Nq c];exact g m a s' h (M8 m) hp hI' λb' y' e' _=>by
    rw[e] at e';have:[y]=[y']:=(List.append_inj' e' rfl).2
    cases this;exact c
  ·rw[MW c];refine uZ hc f (m+1) (a++[m]) s' (h.step hm) (by lia) (by lia) ?_ hI' λm' a' s2 h' hm' hp' hI2 gl=>g m' a' s2 h' (by lia) hp' hI2 gl
   refine NM.mpr ⟨hp,by simp,λx hx z hz=>?_⟩
   rw[MH.mp hz];have hxm:=h.lt hx;have:k x<=k y:=by
    rw[e] at hx hp;rcases N2.mp hx with hx|hx
    ·exact ((NM.mp hp).2.2 x hx y (by simp)).le
    ·rw[MH.mp hx];exact Rq _
   unfold R;lia
structure DI (k:Nat->Int) (b c:List Nat):Prop where
 Gp:b.Pairwise λx y=>R k y x
 less:∀y∈b,∀x∈c,k x<k y
 one:∀x∈c,∀y∈c,k x=k y
 up:c.Pairwise (· < ·)
def DI.rise(h:DI k b c):(b++c.reverse).reverse.Pairwise (R k):=by
 rw[Qj,Qc];refine NM.mpr ⟨?_,PN.mpr h.Gp,λx hx y hy=>.inl (h.less y (PJ.mp hy) x hx)⟩;exact QR (λ{x y} hx hy hl=>.inr ⟨h.one x hx y hy,hl⟩) h.up
def DI.next{x:Nat}(h:DI k b c)(hc:c≠[])(hx:∀y∈c,k x<k y):DI k (b++c.reverse) [x]:=by
 refine⟨NM.mpr ⟨h.Gp,PN.mpr (QR (λ{x y} hx hy hl=>.inr ⟨h.one x hx y hy,hl⟩) h.up),λy hy z hz=>.inl (h.less y hy z (PJ.mp hz))⟩,λy hy z hz=>?_,λy hy z hz=>?_,by simp⟩
 ·rw[MH.mp hz];rcases N2.mp hy with hy|hy
  ·obtain⟨w,hw⟩:=QD c hc;exact Int.lt_trans (hx w hw) (h.less y hy w hw)
  ·exact hx y (PJ.mp hy)
 ·rw[MH.mp hy,MH.mp hz]
def DI.more{x:Nat}(h:DI k b c)(he:∀y∈c,k x=k y)(hc:c≠[])(hl:∀y∈c,y<x):DI k b (c++[x]):=by
 refine⟨h.Gp,λy hy z hz=>?_,λy hy z hz=>?_,NM.mpr ⟨h.up,by simp,λy hy z hz=>by rw[MH.mp hz];exact hl y hy⟩⟩
 ·rcases N2.mp hz with hz|hz
  ·exact h.less y hy z hz
  ·rw[MH.mp hz];obtain⟨w,hw⟩:=QD c hc;rw[he w hw];exact h.less y hy w hw
 ·rcases N2.mp hy with hy|hy<;>rcases N2.mp hz with hz|hz
  ·exact h.one y hy z hz
  ·rw[MH.mp hz];exact (he y hy).symm
  ·rw[MH.mp hy];exact he z hz
  ·rw[MH.mp hy,MH.mp hz]
theorem lA(hc:sW k n cmp I){G:Array Nat×Nat×Nat->Shared->Prop}:∀(f:Nat) (p:Array Nat) (m q:Nat) (b c:List Nat) (s:Shared),PI n m p (b++c)->c.length=q+1->DI k b c->f=n-m->I s ->
  (∀p' m' q' b' c' s',PI n m' p' (b'++c')->c'.length=q'+1->DI k b' c'->I s'->G (p',m',q') s')->(kas_desc f p m q).kasWp cmp G s
 |0,p,m,q,b,c,s,h,hl,hd,hf,hI,g=>g p m q b c s h hl hd hI
 |f+1,p,m,q,b,c,s,h,hl,hd,hf,hI,g=>by
  have hm:m<n:=by lia
  obtain⟨c0,y,e⟩:=pT hl (by lia)
  have hbl:b.length+(q+1)=m:=by rw[<- hl,<- Mx,h.len]
  have ne:c≠[]:=by rw[e];simp
  have hy:y∈c:=by rw[e];simp
  have hya:y<m:=h.lt (MZ _ hy);have e1:p.getD m 0=m:=h.nx hm;have e2:p.getD (m-1) 0=y:=h.last (b:=b++c0) (by rw[e,MX])
  show cmp (p.getD m 0) (p.getD (m-1) 0) _ s;rw[e1,e2];refine hc m y _ s hm (by lia) hI λs' hI'=>?_
  by_cases c1:k m<k y
  ·rw[Nq c1];have hx:∀z∈c,k m<k z:=λz hz=>by rw[hd.one z hz y hy];exact c1
   show KasT.kasWp cmp (if q > 0 then _ else _) G s'
   by_cases hq:q > 0
   ·rw[MD hq,show m-(q+1)=b.length by lia]
    exact lA hc f _ (m+1) 0 (b++c.reverse) [m] s' (h.rev.step hm) rfl (hd.next ne hx) (by lia) hI' g
   ·rw[M4 hq];have e3:c.reverse=c:=by
     have:c.length=1:=by lia
     obtain⟨z,rfl⟩:=Rr.mp this;rfl
    exact lA hc f p (m+1) 0 (b++c.reverse) [m] s' (by rw[e3];exact h.step hm) rfl (hd.next ne hx) (by lia) hI' g
  ·rw[MW c1];show cmp y m _ s';refine hc y m _ s' (by lia) hm hI' λs2 hI2=>?_
   by_cases c2:k y<k m
   ·rw[Nq c2];exact g p m q b c s2 h hl hd hI2
   ·rw[MW c2];refine lA hc f p (m+1) (q+1) b (c++[m]) s2 (by rw[<- MX];exact h.step hm) (by rw[Mx,hl];rfl) (hd.more (λz hz=>?_) ne λz hz=>h.lt (MZ _ hz)) (by lia) hI2 g
    rw[hd.one z hz y hy];lia
def wL(hc:sW k n cmp I){G:Nat×Array Nat->Shared->Prop}{m:Nat}(h:PI n m p a)(h1:1<=m)(hr:a.reverse.Pairwise (R k))(hI:I s)
  (g:∀m' p' a' s',PI n m' p' a'->1<=m'->a'.Pairwise (R k)->I s'->G (m',p') s'):(kas_tail3 m n p).kasWp cmp G s:=by
 unfold kas_tail3;rw[Pp];have hv:=PI.rev (b:=[]) (c:=a) h;exact uZ hc (n-m) m a.reverse s hv h1 rfl hr hI λm' a' s' h' hm' hp' hI' _=>g m' _ a' s' h' (by lia) hp' hI'
def wG(hc:sW k n cmp I){G:Nat×Array Nat->Shared->Prop}{m:Nat}(h:PI n m p a)(hm:m<n)(hd:DI k a [m])(hI:I s)
  (g:∀m' p' a' s',PI n m' p' a'->1<=m'->a'.Pairwise (R k)->I s'->G (m',p') s'):(kas_descPart m n p).kasWp cmp G s:=by
 unfold kas_descPart;rw[Pp];refine lA hc (n-(m+1)) p (m+1) 0 a [m] s (h.step hm) rfl hd rfl hI λp' m' q' b' c' s' h' hl' hd' hI'=>?_;have hbl:b'.length+(q'+1)=m':=by rw[<- hl',<- Mx,h'.len]
 show KasT.kasWp cmp (if q' > 0 then _ else _) G s'
 by_cases hq:q' > 0
 ·rw[MD hq];show (kas_tail3 m' n (kas_rev p' (m'-(q'+1)) m')).kasWp cmp G s';rw[show m'-(q'+1)=b'.length by lia]
  exact wL hc h'.rev (by lia) hd'.rise hI' g
 ·rw[M4 hq];have e3:c'.reverse=c':=by
   have:c'.length=1:=by lia
   obtain⟨z,rfl⟩:=Rr.mp this;rfl
  exact wL hc h' (by lia) (by rw[<- e3];exact hd'.rise) hI' g
def zq(hc:sW k n cmp I){G:Nat×Array Nat->Shared->Prop}(hn:1<=n)(hI:I s)
  (g:∀m' p' a' s',PI n m' p' a'->1<=m'->a'.Pairwise (R k)->I s'->G (m',p') s'):(kas_count n (List.toArray (List.range n))).kasWp cmp G s:=by
 unfold kas_count;rw[Pp];have h0:PI n 1 (List.toArray (List.range n)) [0]:=by
  refine⟨?_,List.Perm.refl _,hn⟩;show List.range n=[0]++List.range' 1 (n-1);rw[List.range_eq_range',show n=(n-1)+1 by lia,Ow];rfl
 refine uZ hc (n-1) 1 [0] s h0 (M8 1) rfl (by simp) hI λm a s' h hm hp hI' gl=>?_
 show KasT.kasWp cmp (if (m == n)=true then _ else _) G s'
 by_cases e:m=n
 ·subst e;rw[MD (Of m)];exact g m _ a s' h hm hp hI'
 ·rw[M4 (by simpa using e)]
  have hmn:m<n:=by have:=h.le;lia
  obtain⟨b,y,ea⟩:=pT h.len hm;have ky:=gl b y ea hmn;have hya:y<m:=h.lt (by rw[ea];simp)
  by_cases h2:m > 1
  ·rw[MD h2];obtain⟨x,r,ex⟩:∃x r,a=x::r:=by
    cases a with
    |nil=>have:=h.len;rw[N0] at this;lia
    |cons x r=>exact⟨x,r,rfl⟩
   have hxa:x<m:=h.lt (by rw[ex];simp)
   show cmp ((List.toArray (List.range n)).getD 0 0) ((List.toArray (List.range n)).getD (m-1) 0) _ s';rw[h.at (i:=0) (x:=x) (by rw[ex];rfl),h.last ea]
   refine hc x y _ s' (by lia) (by lia) hI' λs2 hI2=>?_
   by_cases c:k x<k y
   ·rw[Nq c];exact g m _ a s2 h hm hp hI2
   ·rw[MW c];have hv:=PI.rev (b:=[]) (c:=a) h;refine wG hc hv hmn ⟨PN.mpr hp,λz hz w hw=>?_,λz hz w hw=>by rw[MH.mp hz,MH.mp hw],by simp⟩ hI2 g
    rw[MH.mp hw];have hz':=PJ.mp hz;have hxz:k x<=k z:=by
     rw[ex] at hz' hp;rcases M0.mp hz' with rfl|hz'
     ·exact Rq _
     ·exact ((Nn.mp hp).1 z hz').le
    lia
  ·rw[M4 h2];have hm1:m=1:=by lia
   have hb:b=[]:=by
    have:=h.len;rw[ea,Mx,hm1] at this;simp only[MJ,N0] at this;exact NZ.mp (by lia)
   subst hb;refine wG hc h hmn ⟨by rw[ea];simp,λz hz w hw=>?_,λz hz w hw=>by rw[MH.mp hz,MH.mp hw],by simp⟩ hI' g
   rw[MH.mp hw];rw[ea] at hz;rw[MH.mp hz];exact ky
theorem mV(hc:sW k n cmp I){G:Nat->Shared->Prop}{t:Nat}(h:PI n t p a)(ht:t<n)(hp:a.Pairwise (R k)):∀(f l r:Nat) (s:Shared),l<=r->r<=t->r-l<=f->(∀i x,i<l->a[i]?=some x->k x<=k t)->(∀i x,r<=i->a[i]?=some x->k t<k x)->I s ->
  (∀l' s',l'<=t->(∀i x,i<l'->a[i]?=some x->k x<=k t)->(∀i x,l'<=i->a[i]?=some x->k t<k x)->I s'->G l' s')->(kas_place p t f l r).kasWp cmp G s
 |0,l,r,s,h1,h2,h3,hlo,hhi,hI,g=>g l s (by lia) hlo (λi x hi e=>hhi i x (by lia) e) hI
 |f+1,l,r,s,h1,h2,h3,hlo,hhi,hI,g=>by
  show KasT.kasWp cmp (if l >= r then _ else _) G s
  by_cases hlr:l >= r
  ·rw[MD hlr];exact g l s (by lia) hlo (λi x hi e=>hhi i x (by lia) e) hI
  ·rw[M4 hlr];have hmid:(l+r) / 2<a.length:=by rw[h.len];lia
   have em:a[(l+r) / 2]?=some a[(l+r) / 2]:=Mt hmid;have hma:a[(l+r) / 2]<t:=h.lt (MQ hmid);have mono:∀i j x y,i<=j->a[i]?=some x->a[j]?=some y->k x<=k y:=λi j x y hij ex ey=>by
    rcases Nt i j with c|c
    ·obtain⟨hi,rfl⟩:=Mw.mp ex;obtain⟨hj,rfl⟩:=Mw.mp ey;exact (Pq.mp hp i j hi hj c).le
    ·have:i=j:=Nat.le_antisymm hij c;subst this;rw[ex] at ey;cases ey;exact Rq _
   show cmp (p.getD t 0) (p.getD ((l+r) / 2) 0) _ s;rw[h.nx ht,h.at em];refine hc t _ _ s ht (by lia) hI λs' hI'=>?_
   by_cases c:k t<k a[(l+r) / 2]
   ·rw[Nq c];exact mV hc h ht hp f l ((l+r) / 2) s' (by lia) (by lia) (by lia) hlo (λi x hi e=>Int.lt_of_lt_of_le c (mono _ i _ x hi em e)) hI' g
   ·rw[MW c];exact mV hc h ht hp f ((l+r) / 2+1) r s' (by lia) h2 (by lia) (λi x hi e=>Int.le_trans (mono i _ x _ (by lia) e em) (by lia)) hhi hI' g
theorem AJ(hc:sW k n cmp I){G:Array Nat->Shared->Prop}:∀(f:Nat) (p:Array Nat) (t:Nat) (a:List Nat) (s:Shared),PI n t p a->a.Pairwise (R k)->f=n-t->I s ->
  (∀p' a' s',PI n n p' a'->a'.Pairwise (R k)->I s'->G p' s')->(kas_bin f p t).kasWp cmp G s
 |0,p,t,a,s,h,hp,hf,hI,g=>by
  have:t=n:=by have:=h.le;lia
  subst this;exact g p a s h hp hI
 |f+1,p,t,a,s,h,hp,hf,hI,g=>by
  have ht:t<n:=by lia
  show KasT.kasWp cmp ((kas_place p t t 0 t).bind _) G s;rw[Pp];refine mV hc h ht hp t 0 t s (MG _) (M8 _) (by lia) (λi x hi _=>absurd hi (Po i)) (λi x hi e=>?_) hI λl s' hl hlo hhi hI'=>?_
  ·have:=(Mw.mp e).1;rw[h.len] at this;lia
  ·have et:p[t]?=some t:=by
    rw[<- Nj,h.eq,MR (by rw[h.len];exact M8 t),h.len,NN,List.getElem?_range' (by lia)];simp
   have hla:l<=a.length:=by rw[h.len];exact hl
   have e1:(bubble p t (t-l)).toList=(a.take l++t::a.drop l)++List.range' (t+1) (n-(t+1)):=by
    rw[BY et hl,h.eq,List.take_append_of_le_length hla,List.drop_append_of_le_length hla,show n-t=(n-(t+1))+1 by lia,Ow]
    have e2:(a.drop l).length=t-l:=by rw[Nk,h.len]
    have e3:∀r:List Nat,(a++t::r).drop (t+1)=r:=λr=>by
     rw[show a++t::r=(a++[t])++r by simp]
     exact List.drop_left' (by rw[Mx,h.len];rfl)
    rw[List.take_left' e2,e3]
   have hP:PI n (t+1) (bubble p t (t-l)) (a.take l++t::a.drop l):=by
    refine⟨e1,?_,ht⟩;have:(a.take l++t::a.drop l).Perm (a++[t]):=by
     have h1:(a.take l++t::a.drop l).Perm (t::(a.take l++a.drop l)):=List.perm_middle;rw[Pb] at h1;exact h1.trans (List.perm_append_singleton t a).symm
    rw[Qa];exact this.trans (h.perm.append_right [t])
   refine AJ hc f _ (t+1) _ s' hP ?_ (by lia) hI' g
   have hp1:=(Pb l a) ▸ hp;obtain⟨q1,q2,q3⟩:=NM.mp hp1;refine NM.mpr ⟨q1,Nn.mpr ⟨λx hx=>?_,q2⟩,λx hx y hy=>?_⟩
   ·obtain⟨i,hi⟩:=PQ.mp hx;rw[Nu] at hi;exact .inl (hhi (l+i) x (by lia) hi)
   ·rcases M0.mp hy with rfl|hy
    ·obtain⟨i,hi⟩:=PQ.mp hx;rw[O0] at hi
     split at hi
     ·rename_i hil;have:=hlo i x hil hi;have hxt:=h.lt (Qd hx);unfold R;lia
     ·cases hi
    ·exact q3 x hx y hy
def wW(hc:sW k n cmp I){G:Array Nat->Shared->Prop}(hn:1<=n)(hI:I s)(g:∀p s',p.toList.Perm (List.range n)->p.toList.Pairwise (R k)->I s'->G p s'):(kas_sort n).kasWp cmp G s:=by
 unfold kas_sort;rw[Pp];have fin:∀p a s',PI n n p a->a.Pairwise (R k)->I s'->G p s':=λp a s' h hp hI'=>by
  have e:p.toList=a:=by rw[h.eq,NN,List.range'_zero,Nm]
  refine g p s' ?_ ?_ hI'<;>rw[e]
  ·exact h.perm
  ·exact hp
 refine zq hc hn hI λm p a s' h h1 hp hI'=>?_;show KasT.kasWp cmp (if m<n then _ else _) G s'
 by_cases hm:m<n
 ·rw[MD hm];show (kas_bin (n-max m 1) p (max m 1)).kasWp cmp G s';rw[show max m 1=m by lia]
  exact AJ hc (n-m) p m a s' h hp rfl hI' fin
 ·rw[M4 hm];have:m=n:=by have:=h.le;lia
  subst this;exact fin p a s' h hp hI'
end
end SP
abbrev GB(qual:Str)(scope:Scope)(L f:Addr)(cd:Value)(cl:List (Str×Addr)):Env:=W.envX qual scope L f cd cl
def wC(X:Cx)(A:Around)(N:List Str)(qual:Str)(scope:Scope)(f:Addr)(cd:Value)(cl:List (Str×Addr))(s:Shared)(H:Hp):Cx where
 prog:=X.prog
 w:=X.w
 K:=X.K
 mg:=X.mg
 base:=X.base
 A:=A.deeper (GB qual scope s.heap.objs.size f cd cl)
 N:=N
 s₀:=s
 H₀:=H
 env:=GB qual scope s.heap.objs.size f cd cl
 outer:=X.stack
 stack:=GB qual scope s.heap.objs.size f cd cl::X.stack
 ex:=[]
 calm:=true
 fn:=λ_=>false
 pn:=[]
 xe:=λ_ _=>False
section
variable {X:Cx} {pins:List (Addr×Obj)} {σ:St} {H:Hp} {s:Shared}
def Fb(I:Inv X pins σ H s){A:Around}(hA:A.frames=some X.stack)(hd:A.handled=none){x qual:Str}{v:V}{u:Value}{cd:Value}{cl:List (Str×Addr)}{h₁:Heap}{tk:Nat}
  (hk:scope.kind=.function) (rv:RelV v u) (hloc:scope.names.lookup x=some .local) (hns:h₁.Ns s.heap.objs.size (λy=>[(x,u)].reverse.lookup y)) (old:∀b o,s.heap.get? b=some o->h₁.get? b=some o)
  (hlen:σf.length=N.length) (hcl:∀y c,cl.lookup y=some c->X.env.cells.lookup y=some c) (hhas:∀y,(scope.names.lookup y=some .cell\/scope.names.lookup y=some .free)->∃c,cl.lookup y=some c)
  (hf:∀(i:Nat) (y:Str) (v:V),N[i]?=some y->σf[i]?=some (some v)->scope.names.lookup y=some .free/\∃c u,cl.lookup y=some c/\s.heap.IsCell c (some u)/\RelV v u) :
  Inv (wC X A (x::N) qual scope f cd cl s H) [] (some v::σf) H {s with heap:=h₁,toks:=tk}:=by
 have noA:∀b:Addr,b∉(wC X A (x::N) qual scope f cd cl s H).ex:=λb z=>absurd (show b∈([]:List Addr) from z) (by simp)
 refine⟨⟨I.ok.mod,hk,rfl,rfl,M8 _,λy z c e1 e2=>I.ok.inj y z c (hcl y c e1) (hcl z c e2),hhas,λy c z _=>(by cases z),λ_=>hd,Around.frames_deeper hA,.inr ⟨rfl,rfl⟩,λb z=>absurd z (noA b),I.bs,Mz I.ok.CG I.sz,λb _ _=>noA b,λb z=>absurd z (noA b),I.stack,I.pX,I.ok.tabs.un I.base⟩,
  rfl,I.bare,Un.kept old,⟨_,hns,λi y w e1 e2 e3=>?_⟩,λy c e=>?_,I.aH.fresh (M8 _),λy c e=>I.gQ y c (hcl y c e),λp hp=>absurd (show p∈([]:List (Addr×Obj)) from hp) (by simp),I.aH.kept old,?_⟩
 ·cases i with
  |zero =>
   have e1':some x=some y:=e1;have e2':some (some v)=some (some w):=e2
   cases e1';cases e2'
   exact⟨u,rv,.inl ⟨hloc,by simp⟩⟩
  |succ i =>
   obtain⟨h1,c,u',h2,h3,h4⟩:=hf i y w e1 e2;obtain⟨o,ho,hd'⟩:=h3;exact⟨u',h4,.inr ⟨.inr h1,c,h2,o,old _ _ ho,hd'⟩⟩
 ·obtain⟨v',o,ho,hd'⟩:=I.cell y c (hcl y c e);exact⟨v',o,old _ _ ho,hd'⟩
 ·show (some v::σf).length=(x::N).length;rw[MJ,MJ,hlen]
def AH(I:Inv X pins σ H s){A:Around}(hr:bw (k+1) A)(hA:A.frames=some X.stack){x qual:Str}{v:V}{u:Value}{f:Addr}{cl:List (Str×Addr)}{t:TE}{Q:VK}
  (hk:scope.kind=.function) (hco:scope.isCoroutine=false) (hgen:scope.isGenerator=false) (hcell:∀y∈scope.names,y.2≠.cell) (rv:RelV v u) (hloc:scope.names.lookup x=some .local)
  (ho:s.heap.get? f=some (W.kla_obj "<lambda>" qual params body scope cl pm c' ctv)) (kB:s.heap.CodeRec (.ref c') qual)
  (hbind:∀u,bindArgs (W.kla_fn "<lambda>" qual params body scope cl pm (.ref c') ctv) ⟨[u],[]⟩=pure [(x,u)])
  (hlen:σf.length=N.length) (hcl:∀y c,cl.lookup y=some c->X.env.cells.lookup y=some c) (hhas:∀y,(scope.names.lookup y=some .cell\/scope.names.lookup y=some .free)->∃c,cl.lookup y=some c)
  (hf:∀(i:Nat) (y:Str) (v:V),N[i]?=some y->σf[i]?=some (some v)->scope.names.lookup y=some .free/\∃c u,cl.lookup y=some c/\s.heap.IsCell c (some u)/\RelV v u)
  (hb:PE (wC X A (x::N) qual scope f (.ref c') cl s H) body t) (hq:t (some v::σf) H Q) :
  wpAny (model X.prog X.w) A (call (.ref f) [u]) (EP X pins σ Q) (λ_ _=>False) s:=by
 refine wpAny_call (W.kla_callFunE hr.depth ho rfl hco hgen rfl kB ?_);rw[hbind];refine ME (wpAny_newFunctionEnv hcell (λy hy=>by rw[MH.mp hy];exact hloc) (λh₁ hns hsb=>⟨I.nolimit.fresh _ hsb,?_⟩) hk)
 have old:∀b o,s.heap.get? b=some o->h₁.get? b=some o:=λb o e=>hsb.extBut b o (M_ (MN e)) (My _ e);have J:=Fb (tk:=s.toks+1) (qual:=qual) (f:=f) (cd:=.ref c') I hA hr.hd hk rv hloc hns old hlen hcl hhas hf;refine W.kla_codeExpr (N8 (hb [] _ _ H Q J hq) (λw s' h=>?_) λ_ _ h=>h.elim);obtain⟨v',H',J',r',q'⟩:=h;exact I.after ⟨v',H',J'.os,J'.bare,J'.base,J'.aH,r',q'⟩
end
inductive eQ:Hp->Hp->Prop
 |refl {H:Hp}:eQ H H
 |more {H H1:Hp} {p:Addr} {o:HO}:eQ H H1->H1 p=none->eQ H (upd H1 p o)
def eQ.same(g:eQ H H1):Fn H H1:=by
 induction g with
 |refl=>exact Fn.refl _
 |more g n ih=>exactλb o e=>by rw[af (ae (ih b o e) n)];exact ih b o e
def eQ.trans{H2:Hp}(a:eQ H H1)(b:eQ H1 H2):eQ H H2:=by
 induction b with
 |refl=>exact a
 |more _ n ih=>exact .more ih n
theorem kA{i j:Int}{ti tj:Tok}{c:Value}:∀l:List Value,TriplesOk l->TriplesOk (l++[.int i ti,.int j tj,c])
 |[],_=>trivial
 |.int _ _::.int _ _::_::r,h=>kA r (show TriplesOk r from h)
theorem oN{p:Pos}{i j:Int}{ti tj:Tok}{c cv:Value}:∀l:List Value,TriplesOk l->codeAmong p (l++[.int i ti,.int j tj,c])=some cv->codeAmong p l=some cv\/cv=c
 |[],_,e=>by
  have e':(if (i == p.line && j == p.col)=true then some c else codeAmong p [])=some cv:=e
  by_cases z:(i == p.line && j == p.col)=true
  ·rw[MD z] at e';cases e';exact .inr rfl
  ·rw[M4 z] at e';cases e'
 |.int a ta::.int b tb::d::r,h,e=>by
  have e':(if (a == p.line && b == p.col)=true then some d else codeAmong p (r++[.int i ti,.int j tj,c]))=some cv:=e
  show (if (a == p.line && b == p.col)=true then some d else codeAmong p r)=some cv\/_
  by_cases z:(a == p.line && b == p.col)=true
  ·rw[MD z] at e' ⊢;exact .inl e'
  ·rw[M4 z] at e' ⊢;exact oN r (show TriplesOk r from h) e'
def xt(q:Str)(more:Array Value):AD (#[.str q 0]++more)=q:=by
 unfold AD;rw[Ou];rfl
structure km (H:Hp) (f:Addr) (q:Str) (params:Arguments) (body:Expr) (scope:Scope) (cl:List (Str×Addr)) (c':Addr) (pm ctv:Value):Prop where
 fn:H f=some (.jU (W.kla_obj "<lambda>" q params body scope cl pm c' ctv) (.own f))
 cd:FZ H q (.ref c')
section
variable {X:Cx} {pins:List (Addr×Obj)} {σ:St} {H:Hp} {s:Shared} {E:Value->Shared->Prop}
def km.up{cl:List (Str×Addr)}(x:km H f q params body scope cl c' pm ctv)(g:∀b o u,H b=some (.jU o u)->H1 b=some (.jU o u)):km H1 f q params body scope cl c' pm ctv:=
 ⟨g _ _ _ x.fn,let ⟨c,oc,vs,t,e1,e2,e3⟩:=x.cd;⟨c,oc,vs,t,e1,g _ _ _ e2,e3⟩⟩
def km.get{cl:List (Str×Addr)}(x:km H f q params body scope cl c' pm ctv)(I:Inv X pins σ H s):
  s.heap.get? f=some (W.kla_obj "<lambda>" q params body scope cl pm c' ctv)/\s.heap.CodeRec (.ref c') q:=by
 obtain⟨c,oc,vs,t,e1,e2,e3,e4⟩:=x.cd;exact⟨(I.aH f _ x.fn).1,c,oc,vs,t,e1,(I.aH c _ e2).1,e3,e4⟩
def Inv.Cb{o:Obj}{t':Nat}(I:Inv X pins σ H s)(k:∀b u,s.heap.get? b=some u->h'.get? b=some u)(hp:s.heap.objs.size<=f)(e:h'.get? f=some o):Inv X pins σ (upd H f (.jU o (.own f))) {s with heap:=h',toks:=t'}:=
 I.laid k hp ⟨e,o,e⟩
def BM(I:Inv X pins σ H s){x:Str}{c P:Addr}(hx:x∈dZ)(ht:W.tabIn X.K x=some (c,P))(hcode:X.env.code=.ref c)(hq:X.env.qual=x++".<locals>."){cl:List (Str×Addr)}
  (hdef:defaultsOf params X.env=([],[])) (hcl:closureFor scope X.env=pure cl)
  (h:∀f c' pm ctv H1 s1,eQ H H1->Inv X pins σ H1 s1->km H1 f ((x++".<locals>.")++"<lambda>") params body scope cl c' pm ctv->Q (.ref f) s1) :
  wpAny (model X.prog X.w) X.A (eval (.Lambda params body scope pos) X.env) Q E s:=by
 have hm:(c,P,(x++".<locals>.")++"<lambda>")∈bU X.K:=Pr.mpr ⟨x,hx,by rw[ht];rfl⟩
 obtain⟨more,hP⟩:=(I.ok.tabs.un I.base) _ hm;have C:W.CodeHd s.heap c P:=(I.ok.mod.codes _ hm).keeps I.bk;obtain⟨qs,eP,tr,fa⟩:=I.aH P _ hP;have hns:=I.ok.mod.glob.keeps I.bk;have hgP:mainGlobals≠P:=λz=>by
  obtain⟨o,es,ep,e,_⟩:=I.ok.mod.glob;have:=(I.bs _ _ e).2;rw[z,hP] at this;cases this
 have hb:s.heap.BuiltinsAt X.mg P:=by
  obtain⟨bm,ob,b1,b2,b3,b4,b5⟩:=I.ok.mod.bm;refine⟨bm,ob,b1,b2,λz=>?_,λz=>?_,I.bk _ _ b3,b4,b5⟩
  ·obtain⟨o,es,ep,e,hd,_⟩:=I.ok.mod.glob;rw[z,e] at b3;cases b3;rw[hd] at b5;cases b5.2
  ·have:=(I.bs _ _ b3).2;rw[z,hP] at this;cases this
 refine W.kla_eval hdef ?_;rw[hq]
 cases ca:codeAmong pos qs.toList with
 |some cv =>
  have il:=fa pos cv ca;rw[xt] at il;obtain⟨c',oc,vs,t,rfl,e2,e3⟩:=il;refine W.kla_makeFunctionHit hcl I.ok.glob hns hcode C eP tr ca hb λctv h' tk hk hsz=>?_;have n0:H h'.objs.size=none:=I.aH.fresh hsz;have J:=I.Cb (f:=h'.objs.size) (t':=tk) (h':=h'.push {cls:=.type "function",data:=.func (W.kla_fn "<lambda>" ((x++".<locals>.")++"<lambda>") params body scope cl ((X.mg "__name__").getD .none) (.ref c') ctv)}) (λb u e=>My _ (hk b u e)) hsz (MM _ rfl);exact h _ c' _ ctv _ _ (.more .refl n0) J ⟨aa,c',oc,vs,t,rfl,by rw[af (ae e2 n0)];exact e2,e3⟩
 |none =>
  refine W.kla_makeFunction hcl I.ok.glob hns hcode C eP tr ca hgP hb λc' ctv h' tk hx2 hge hlt hrec htb=>?_;obtain⟨c2,oc,vs,t,e2,hoc,hd,hv⟩:=hrec;cases e2;have nP:P≠c':=λz=>absurd (MN eP) (by rw[z];exact QF.mpr hge)
  have n1:H c'=none:=I.aH.fresh hge;have keep:∀b u,b≠P->s.heap.get? b=some u->h'.get? b=some u:=λb u hb' e=>hx2 b u hb' e;have H1ne:∀b u,H b=some u->upd H c' (.jU oc (.own c')) b=some u:=λb u e=>by rw[af (ae e n1)];exact e
  have hoP:∀y,H P≠some (.own y):=λy z=>by rw[hP] at z;cases z
  have J1:Inv X pins σ (upd H c' (.jU oc (.own c'))) {s with heap:=h',toks:=tk}:=by
   refine I.un ⟨λb o e n _ _=>keep b o (λz=>by rw[z,hP] at n;cases n) e,λb o e n _ _=>⟨o.slots,keep b o (λz=>by rw[z,hP] at n;cases n) e⟩,λb o e n _=>?_,λb o e _=>?_,λb xs e=>H1ne b _ e,λb o u e=>H1ne b _ e,λb ps e=>⟨#[],by rw[H1ne b _ e,Qo]⟩⟩ λb u e=>?_
   ·rw[af (λz=>absurd (MN e) (by rw[z];exact QF.mpr hge))];exact n
   ·by_cases z:b=P
    ·rw[z];exact⟨_,htb⟩
    ·exact⟨o,keep b o z e⟩
   ·by_cases z:b=c'
    ·subst z;rw[aa] at e;cases e;exact⟨hoc,oc,hoc⟩
    ·rw[af z] at e;by_cases z2:b=P
     ·subst z2;rw[hP] at e;cases e;refine⟨_,htb,by rw[Ou];exact kA _ tr,λp cv hc=>?_⟩
      rw[Ou] at hc;rcases oN _ tr hc with q|q
      ·obtain⟨c2,oc2,vs2,t2,g1,g2,g3⟩:=fa p cv q;exact⟨c2,oc2,vs2,t2,g1,H1ne _ _ g2,g3⟩
      ·rw[xt];exact⟨c',oc,vs,t,q,aa,hd,hv⟩
     ·refine (I.aH b u e).pP (λc v hc q=>keep c v ?_ q) (λc q=>H1ne c _ q) (λc xs q=>H1ne c _ q) λc _ _ q=>H1ne c _ q;rcases hc with rfl|hc
      ·exact z2
      ·exactλz3=>hoP b (by rw[<- z3];exact hc)
  have n2:upd H c' (.jU oc (.own c')) h'.objs.size=none:=J1.aH.fresh (M8 _);have J:=J1.Cb (f:=h'.objs.size) (t':=tk) (h':=h'.push (W.kla_obj "<lambda>" ((x++".<locals>.")++"<lambda>") params body scope cl ((X.mg "__name__").getD .none) c' ctv)) (λb u e=>My _ e) (M8 _) (MM _ rfl);exact h _ c' _ ctv _ _ (.more (.more .refl n1) n2) J ⟨aa,c',oc,vs,t,rfl,by rw[af (ae aa n2)];exact aa,hd,hv⟩
end
section
variable {α β:Type}
def ju(p:Int×α):List (Int×α)->List (Int×α)
 |[]=>[p]
 |q::r=>if p.1<=q.1 then p::q::r else q::ju p r
def fh:List (Int×α)->List (Int×α)
 |[]=>[]
 |p::r=>ju p (fh r)
abbrev Jm(l:List (Int×α)):Prop:=l.Pairwise λp q=>p.1<=q.1
def atK(a:Int)(l:List (Int×α)):List (Int×α):=l.filter λp=>decide (p.1=a)
theorem i4(p:Int×α):∀l,(ju p l).Perm (p::l)
 |[]=>.refl _
 |q::r=>by
  unfold ju;split
  ·exact .refl _
  ·exact ((i4 p r).cons q).trans (List.Perm.swap p q r)
theorem eM:∀l:List (Int×α),(fh l).Perm l
 |[]=>.refl _
 |p::r=>(i4 p _).trans ((eM r).cons p)
theorem wB{p:Int×α}:∀{l:List (Int×α)},Jm l->Jm (ju p l)
 |[],_=>Rf _ _
 |q::r,h=>by
  obtain⟨h1,h2⟩:=Nn.mp h;unfold ju;split
  ·rename_i c;exact Nn.mpr ⟨λz hz=>by
    rcases M0.mp hz with rfl|hz
    ·exact c
    ·exact Int.le_trans c (h1 z hz),h⟩
  ·rename_i c;refine Nn.mpr ⟨λz hz=>?_,wB h2⟩;rcases M0.mp ((i4 p r).mem_iff.mp hz) with rfl|hz
   ·lia
   ·exact h1 z hz
theorem rm:∀l:List (Int×α),Jm (fh l)
 |[]=>List.Pairwise.nil
 |_::r=>wB (rm r)
def bo(a:Int)(p:Int×α)(l:List (Int×α)):atK a (p::l)=if p.1=a then p::atK a l else atK a l:=by
 unfold atK;rw[List.filter_cons];by_cases z:p.1=a
 ·rw[MD z,MD (Nq z)]
 ·rw[M4 z,M4 (by simp[z])]
theorem xc{a:Int}{p:Int×α}:∀{l:List (Int×α)},atK a (ju p l)=atK a (p::l)
 |[]=>rfl
 |q::r=>by
  unfold ju;split
  ·rfl
  ·rename_i c;rw[bo,xc,bo,bo,bo];by_cases z:p.1=a
   ·have z2:¬ q.1=a:=by lia
    simp only[z,z2,OZ,O3]
   ·simp only[z,O3]
theorem sh{a:Int}:∀l:List (Int×α),atK a (fh l)=atK a l
 |[]=>rfl
 |p::r=>by
  show atK a (ju p (fh r))=_;rw[xc,bo,bo,sh r]
theorem mD{a:Int}:∀{l:List (Int×α)},(∀p∈l,a<p.1)->atK a l=[]
 |[],_=>rfl
 |p::r,h=>by
  have:=h p (MK ..);rw[bo,M4 (by lia),mD λq hq=>h q (MF _ hq)]
theorem oO:∀{l m:List (Int×α)},Jm l->Jm m->(∀a,atK a l=atK a m)->l=m
 |[],[],_,_,_=>rfl
 |[],q::m,_,_,h=>by
  have:=h q.1;rw[bo,MD rfl] at this;cases this
 |p::l,[],_,_,h=>by
  have:=h p.1;rw[bo,MD rfl] at this;cases this
 |p::l,q::m,hl,hm,h=>by
  obtain⟨l1,l2⟩:=Nn.mp hl;obtain⟨m1,m2⟩:=Nn.mp hm;have e:p.1=q.1:=by
   rcases Int.lt_trichotomy p.1 q.1 with z|z|z
   ·have q1:=h p.1;rw[bo,MD rfl,bo,M4 (by lia),mD (l:=m) λr hr=>by have:=m1 r hr;lia] at q1
    cases q1
   ·exact z
   ·have q1:=h q.1;rw[bo,M4 (by lia),bo,MD rfl,mD (l:=l) λr hr=>by have:=l1 r hr;lia] at q1
    cases q1
  have q1:=h p.1;rw[bo,MD rfl,bo,MD e.symm] at q1;obtain⟨q2,q3⟩:=List.cons.inj q1;subst q2;congr 1;refine oO l2 m2 λa=>?_;have q4:=h a;rw[bo,bo] at q4;by_cases z:p.1=a
  ·rw[MD z,MD z] at q4;exact (List.cons.inj q4).2
  ·rw[M4 z,M4 z] at q4;exact q4
def rJ{l m:List (Int×α)}(hm:Jm m)(h:∀a,atK a m=atK a l):m=fh l:=oO hm (rm l) λa=>by rw[h a,sh]
abbrev Jq(R:α->β->Prop):List (Int×α)->List (Int×β)->Prop:=Paired λp q=>p.1=q.1/\R p.2 q.2
def Bd{R:α->β->Prop}{p:Int×α}{q:Int×β}(h:p.1=q.1/\R p.2 q.2){l:List (Int×α)}{m:List (Int×β)}(k:Jq R l m):Jq R (ju p l) (ju q m):=by
 induction k with
 |nil=>exact .cons h .nil
 |cons r t ih =>
  unfold ju;split
  ·rename_i z;rw[MD (by rw[<- h.1,<- r.1];exact z)]
   exact .cons h (.cons r t)
  ·rename_i z;rw[M4 (by rw[<- h.1,<- r.1];exact z)]
   exact .cons r ih
def xP{R:α->β->Prop}{l:List (Int×α)}{m:List (Int×β)}(k:Jq R l m):Jq R (fh l) (fh m):=by
 induction k with
 |nil=>exact .nil
 |cons r t ih=>exact Bd r ih
def zT{R:α->β->Prop}{ks:List Int}{l:List α}{m:List β}(k:Paired R l m):Jq R (ks.zip l) (ks.zip m):=by
 induction k generalizing ks with
 |nil=>rw[List.zip_nil_right,List.zip_nil_right];exact .nil
 |cons r t ih =>
  cases ks with
  |nil=>exact .nil
  |cons k ks=>exact .cons ⟨rfl,r⟩ ih
def zE{R:α->β->Prop}{l:List (Int×α)}{m:List (Int×β)}(k:Jq R l m):Paired R (l.map (·.2)) (m.map (·.2)):=by
 induction k with
 |nil=>exact .nil
 |cons r t ih=>exact .cons r.2 ih
def kY(ks:List Int)(l:List α):List α:=(fh (ks.zip l)).map (·.2)
def vJ{R:α->β->Prop}{ks:List Int}{l:List α}{m:List β}(h:Paired R l m):Paired R (kY ks l) (kY ks m):=zE (xP (zT h))
def xf{ks:List Int}{l:List α}(h:ks.length=l.length):(kY ks l).length=l.length:=by
 unfold kY;rw[Ms,(eM _).length_eq,Rk,h,Pa]
def mY{ks:List Int}{l:List α}(h:ks.length=l.length):(kY ks l).Perm l:=by
 have h2:((ks.zip l).map (·.2))=l:=QU (by lia)
 have h3:=(eM (ks.zip l)).map (·.2);rw[h2] at h3;exact h3
end
theorem kh:∀{xs:List V} {us:List Value},Vals xs us->Paired RelV xs us
 |_,_,.nil=>.nil
 |_,_,.cons r t=>.cons r (kh t)
theorem kr:∀{xs:List V} {us:List Value},Paired RelV xs us->Vals xs us
 |_,_,.nil=>.nil
 |_,_,.cons r t=>.cons r (kr t)
theorem vO:∀{us:List Value} {ns:List Int},IntsAre us ns->∀{i:Nat},i<ns.length->∃t,us.getD i Value.none=.int (ns.getD i 0) t
 |_,_,.cons n t h,0,_=>⟨t,rfl⟩
 |_,_,.cons n t h,i+1,hi=>vO h (i:=i) (by simpa using hi)
def C6{p:List Nat}(hl:kz.length=us.length)(hp:p.Perm (List.range us.length))(hr:p.Pairwise (SP.R λi=>kz.getD i 0)):p.map (λi=>us.getD i Value.none)=kY kz us:=by
 have ez:(List.range us.length).map (λi=>(kz.getD i 0,us.getD i Value.none))=kz.zip us:=by
  apply Ox
  ·rw[Ms,Nr,Rk,hl,Pa]
  ·intro i h1 h2;rw[Ms,Nr] at h1;rw[List.getElem_map,List.getElem_range,List.getElem_zip];simp[h1,hl]
 have e1:p.map (λi=>(kz.getD i 0,us.getD i Value.none))=fh (kz.zip us):=by
  refine rJ ?_ λa=>?_
  ·exact O6.mpr (hr.imp λh=>h.le)
  ·have fl:∀l:List Nat,atK a (l.map λi=>(kz.getD i 0,us.getD i Value.none))=(l.filter λi=>decide (kz.getD i 0=a)).map λi=>(kz.getD i 0,us.getD i Value.none):=λl=>by
    unfold atK;rw[List.filter_map];rfl
   rw[<- ez,fl,fl];congr 1;refine QV (le:=(· < ·)) (λa b _ _ h g=>absurd h (Nat.lt_asymm g)) ?_ (P7.filter _) (hp.filter _);rw[List.pairwise_filter];refine hr.imp λ{i j} h hi hj=>?_;have hi:=NR hi;have hj:=NR hj;rcases h with h|h
   ·exfalso;have h':kz.getD i 0<kz.getD j 0:=h;lia
   ·exact h.2
 unfold kY;rw[<- e1,NI];rfl
section
variable {X:Cx} {pins:List (Addr×Obj)} {σ:St} {H:Hp} {s:Shared} {E:Value->Shared->Prop}
def Inv.take{D:Addr}{ob:Obj}{o:HO}{t':Nat}(I:Inv X ((D,ob)::pins) σ H s)(hs0:X.s₀.heap.objs.size<=D)(hnp:∀p∈X.pn++pins,p.1≠D)(k:∀b u,b≠D->s.heap.get? b=some u->h'.get? b=some u)(new:ba X.prog X.w (upd H D o) h' D o):
  Inv X pins σ (upd H D o) {s with heap:=h',toks:=t'}:=by
 obtain⟨g1,g2,g3,g4,g5⟩:=I.pin (D,ob) (MZ _ (MK ..));have I0:Inv X pins σ H s:=⟨I.ok,I.os,I.bare,I.base,I.loc,I.cell,I.free,I.gQ,λp hp=>I.pin p ((N2.mp hp).elim (λz=>N7 _ z) λz=>MZ _ (MF _ z)),I.aH,I.len⟩;have ne:∀b u,H b=some u->b≠D:=λb u e=>ae e g2;refine I0.step (g':=s.gens) (d':=s.drawn) (ch:=[D]) (λb hb=>?_) (λb o' _ _ hc e _=>k b o' (λz=>hc (by rw[z];exact MH.mpr rfl)) e) (λb o' _ _ hc e _=>⟨o'.slots,k b o' (λz=>hc (by rw[z];exact MH.mpr rfl)) e⟩) (λb o' hc e n=>by rw[af (λz=>hc (by rw[z];exact MH.mpr rfl))];exact n)
  (λb o' hc e=>⟨o',k b o' (λz=>hc (by rw[z];exact MH.mpr rfl)) e⟩) (λb xs e=>by rw[af (ne b _ e)];exact e) (λb o' u e=>by rw[af (ne b _ e)];exact e) (λb ps e=>⟨#[],by rw[af (ne b _ e),e,Qo]⟩) (λm hm=>?_) (λb u e=>?_) I.bare
 ·rw[MH.mp hb];refine⟨.inr hs0,g3,λx c e z=>?_,hnp⟩;obtain⟨v,o',ho',hd⟩:=I.cell x c e;rw[z,g1] at ho';cases ho';exact g5 v hd
 ·obtain⟨o',es,ep,ho',r⟩:=hm;exact⟨o',es,ep,k _ _ (MV g3) ho',r⟩
 ·by_cases z:b=D
  ·subst z;rw[aa] at e;cases e;exact new
  ·rw[af z] at e;refine (I.aH b u e).pP (λc v hc q=>k c v ?_ q) (λc q=>by rw[af (ne c _ q)];exact q) (λc xs q=>by rw[af (ne c _ q)];exact q) λc _ _ q=>by rw[af (ne c _ q)];exact q
   rcases hc with rfl|hc
   ·exact z
   ·exact ne c _ hc
def wZ{A:Around}{st:SortSt}
  (I:Inv X ((D,seqObj "list" #[] e1)::pins) σ (upd H kS (.lst (kz.map V.int))) s) (hkS:H kS=none) (hD:H D=none) (hkD:kS≠D) (hs0:X.s₀.heap.objs.size<=D) (hnp:∀p∈X.pn++pins,p.1≠D)
  (hv:Vals xs us) (hlen:kz.length=us.length) (h64:us.length<64) (ho:((arrOf st).map (·.2)).toList=kY kz us) (hfl:failedOf st=none)
  (h:∀s',Inv X pins σ (upd (upd H kS (.lst [])) D (.lst (kY kz xs))) s'->P (.done (.ret .none)) s') :
  wpAny (model X.prog X.w) A (ksk_tail D false e1 (.ref kS) st) P E s:=by
 obtain⟨_,its,n,vr,ek⟩:=I.aH kS _ aa;have hz:its.toArray.size<=sizeLine:=by
  rw[MC,<- vr.length,Ms,hlen,NW];lia
 have pD:=I.pin _ (MZ _ (MK ..));have hout:((arrOf st).map (·.2)).size=us.length:=by
  rw[<- Np,ho,xf hlen]
 have s1:=NS s.heap kS (Obj.mapSeq λ_=>(#[]:Array Value));obtain⟨c1,hc1⟩:∃c,(s.heap.update kS (Obj.mapSeq λ_=>(#[]:Array Value))).get? kS=some (seqObj "list" #[] c):=⟨_,Pn ek λ_=>#[]⟩;have J1:Inv X ((D,seqObj "list" #[] e1)::pins) σ (upd H kS (.lst [])) {s with heap:=s.heap.update kS (Obj.mapSeq λ_=>(#[]:Array Value))}:=by
  have J:=I.write (x:=kS) (e:=kS) (o:=.lst []) (t':=s.toks) (h':=s.heap.update kS (Obj.mapSeq λ_=>(#[]:Array Value))) (by rw[aa];trivial) (.inl rfl) (λb u hb q=>(s1.2 b hb).trans q) ⟨_,hc1⟩ ⟨MG _,[],c1,.nil,hc1⟩
  rw[pz] at J;exact J
 have pD1:=J1.pin _ (List.mem_append_right _ (List.mem_cons_self ..));have s2:=Heap.SameBut.update (s.heap.update kS (Obj.mapSeq λ_=>(#[]:Array Value))) D (Obj.mapSeq λ_=>(arrOf st).map (·.2));obtain⟨c2,hc2⟩:∃c,((s.heap.update kS (Obj.mapSeq λ_=>(#[]:Array Value))).update D (Obj.mapSeq λ_=>(arrOf st).map (·.2))).get? D=some (seqObj "list" ((arrOf st).map (·.2)) c):=⟨_,get?_update_seq pD1.1 λ_=>(arrOf st).map (·.2)⟩;have vB:Vals (kY kz xs) (kY kz us):=kr (vJ (kh hv));unfold ksk_tail;dsimp only;refine wpAny_bind (listUpdate_at ek rfl ?_ hz (Nat.zero_le _));refine wpAny_bind (wpAny_letGo ?_);refine wpAny_bind (seqEpoch_at pD1.1 rfl ?_);refine wpAny_bind (listUpdate_at pD1.1 rfl ?_ (Nat.zero_le _) (by show ((arrOf st).map (·.2)).size<=_;rw[hout,sizeLine_eq];lia))
 rw[hfl];simp only[Q5,Oj,O3];refine ME (h _ (J1.take hs0 hnp (λb u hb q=>(s2.2 b hb).trans q) ⟨?_,kY kz us,c2,vB,?_⟩))
 ·rw[vB.length,xf hlen,NW];lia
 ·rw[<- ho,Ph];exact hc2
def Ic{A:Around}{us:List Value}{kz:List Int}{keys:Array Value}
  (I:Inv X ((D,seqObj "list" #[] e1)::pins) σ (upd H kS (.lst (kz.map V.int))) s) (hkS:H kS=none) (hD:H D=none) (hkD:kS≠D) (hs0:X.s₀.heap.objs.size<=D) (hnp:∀p∈X.pn++pins,p.1≠D)
  (hv:Vals xs us) (hlen:kz.length=us.length) (h64:us.length<64) (hk:IntsAre keys.toList kz)
  (h:∀s',Inv X pins σ (upd (upd H kS (.lst [])) D (.lst (kY kz xs))) s'->P (.done (.ret .none)) s') :
  wpAny (model X.prog X.w) A (ksk_end D false us.toArray e1 (.ref kS) keys) P E s:=by
 have hsz:keys.size=us.length:=by
  have z:=hk.length;rw[Np] at z;exact z.trans hlen
 have hzs:(keys.zip us.toArray).size=us.length:=by
  rw[Array.size_zip,hsz,MC,Pa]
 unfold ksk_end;dsimp only;rw[if_neg Bool.false_ne_true,if_neg Bool.false_ne_true];by_cases h2:us.toArray.size<2
 ·rw[if_pos h2,if_pos h2];refine wpAny_bind (wpAny_pure ?_);rw[StateT.run_pure];refine wpAny_bind (wpAny_pure ?_);dsimp only;refine wZ I hkS hD hkD hs0 hnp hv hlen h64 ?_ rfl h;rw[List.size_toArray] at h2;have:=C6 (us:=us) (kz:=kz) (p:=List.range us.length) hlen (List.Perm.refl _) (by
   rcases us with _|⟨x,_|⟨y,r⟩⟩
   ·exact .nil
   ·simp
   ·exfalso;simp only[MJ] at h2;lia)
  rw[<- this];show ((keys.zip us.toArray).map (·.2)).toList=_;rw[Array.toList_map,Array.toList_zip,QU (by simp only[Np,MC];lia)]
  apply Ox
  ·simp
  ·intro i h1 h2;have h1':i<us.length:=h1;simp[h1']
 ·rw[M4 h2,M4 h2];rw[MC] at h2;rw[ksk_kind hk (by lia)]
  refine Mv (ME ?_);have ek:keys=keys.toList.toArray:=(Ph).symm;have hkl:keys.toList.length=us.length:=by rw[Np,hsz]
  have hat:∀i,i<us.length->∃t,keys.toList.getD i Value.none=.int (kz.getD i 0) t:=λi hi=>vO hk (by rw[hlen];exact hi)
  generalize keys.toList=ks at *;subst ek;refine Mv (N8 (W.kat_run (ks:=ks) (vs:=us) (κ:=oneType') (Q:=λst' s'=>s'=s/\failedOf st'=none/\((arrOf st').map (·.2)).toList=kY kz us)
   (G:=λp s'=>s'=s/\p.toList.Perm (List.range us.length)/\p.toList.Pairwise (SP.R λi=>kz.getD i 0)) hkl (by lia) h64 (λp st' s' a1 a2 a3 a4=>⟨a4.1,a3,by rw[W.kat_snds hkl a2];exact C6 hlen a4.2.1 a4.2.2⟩) ?_) ?_ λ_ _ e=>e)
  ·refine SP.wW (k:=λi=>kz.getD i 0) (I:=λs'=>s'=s) (λi j C s' hi hj hI hC=>?_) (by lia) rfl λp s' hp hr hI=>⟨hI,hp,hr⟩
   subst hI;obtain⟨t1,e1⟩:=hat i hi;obtain⟨t2,e2⟩:=hat j hj;unfold W.kas_ask;rw[e1,e2];exact W.kat_lt_int (hC _ rfl)
  rintro⟨⟨⟩,st'⟩ s' ⟨rfl,hf,ho⟩;dsimp only;exact wZ I hkS hD hkD hs0 hnp hv hlen h64 ho hf h
theorem mN:∀{us:List Value} {ns:List Int},Vals (ns.map V.int) us->IntsAre us ns
 |_,[],.nil=>.nil
 |_,n::ns,.cons ⟨t,e⟩ r=>by subst e;exact .cons n t (mN r)
def DU{A:Around}{f:Value}
  (I:Inv X ((D,seqObj "list" #[] e1)::pins) σ (upd H kS (.lst [])) s) (hkS:H kS=none) (hD:H D=none) (hkD:kS≠D) (hs0:X.s₀.heap.objs.size<=D) (hnp:∀p∈X.pn++pins,p.1≠D)
  (hv:Vals xs us) (hlen:kz.length=us.length) (h64:us.length<64)
  (turn:∀(i:Nat) (u:Value) (k:Int),us[i]?=some u->kz[i]?=some k->∀pins' H' s',eQ H H'->Inv X pins' σ H' s'->wpAny (model X.prog X.w) A (call f [u]) (λr s2=>(∃t,r=.int k t)/\Inv X pins' σ H' s2) (λ_ _=>False) s')
  (h:∀s',Inv X pins σ (upd (upd H kS (.lst [])) D (.lst (kY kz xs))) s'->P (.done (.ret .none)) s') :
  wpAny (model X.prog X.w) A (ksk_rest D f false us.toArray e1 (.ref kS)) P E s:=by
 unfold ksk_rest;refine Mv (Q8 ?_)
 first
  |rw[List.forIn_toArray]
  | (rw[<- Array.forIn_toList];simp only[Pl])
 refine Mv (ksk_fold (λi s'=>Inv X ((D,seqObj "list" #[] e1)::pins) σ (upd H kS (.lst ((kz.take i).map V.int))) s') us 0 s I ?one ?all)
 case one =>
  intro j u s' hu J;rw[OC] at J ⊢;have hj:j<us.length:=(Mw.mp hu).1;obtain⟨k,hkj⟩:∃k,kz[j]?=some k:=⟨_,Mt (by lia)⟩
  refine wpAny_bind (wpAny_attempt (wpAny_mono (turn j u k hu hkj _ _ s' (.more .refl hkS) J) (λr s2 hr=>?_) λ_ _ z=>z.elim));obtain⟨⟨t,rfl⟩,J2⟩:=hr;dsimp only;obtain⟨_,its,n,vr,ek⟩:=J2.aH kS _ aa;have lenI:its.length<=us.length:=by
   rw[<- vr.length,Ms,MB];lia
  have s1:=NS s2.heap kS (Obj.mapSeq (·.push (.int k t)));obtain⟨c1,hc1⟩:∃c,(s2.heap.update kS (Obj.mapSeq (·.push (.int k t)))).get? kS=some (seqObj "list" (its.toArray.push (.int k t)) c):=⟨_,Pn ek (·.push (.int k t))⟩;have et:kz.take (j+1)=kz.take j++[k]:=by
   rw[List.take_add_one,hkj];rfl
  have vr2:Vals ((kz.take (j+1)).map V.int) (its++[.int k t]):=by
   rw[et,MI];exact vr.append (.cons ⟨t,rfl⟩ .nil)
  refine Mv (PB ek rfl ?_ (by rw[MC,NW];lia) (by show (its.toArray.push (.int k t)).size<=_;rw[Array.size_push,MC,NW];lia))
  refine ME ⟨rfl,?_⟩;have J3:=J2.write (x:=kS) (e:=kS) (o:=.lst ((kz.take (j+1)).map V.int)) (t':=s2.toks) (h':=s2.heap.update kS (Obj.mapSeq (·.push (.int k t)))) (by rw[aa];trivial) (.inl rfl) (λb u hb q=>(s1.2 b hb).trans q) ⟨_,hc1⟩
   ⟨by rw[Ms,MB,NW];lia,its++[.int k t],c1,vr2,by rw[hc1,List.push_toArray]⟩
  rw[pz] at J3;exact J3
 case all =>
  intro s' J;have ez:kz.take (0+us.length)=kz:=Ng (by lia)
  have J':Inv X ((D,seqObj "list" #[] e1)::pins) σ (upd H kS (.lst (kz.map V.int))) s':=by
   rw[<- ez];rw[ez];simpa only[ez] using J
  obtain⟨_,its,n,vr,ek⟩:=J'.aH kS _ aa;refine Mv (P_ ek rfl ?_);exact Ic J' hkS hD hkD hs0 hnp hv hlen h64 (by rw[Pl];exact mN vr) h
def E8{A:Around}{D:Addr}{n0:Nat}{h0:Heap}{f:Value}
  (I:Inv X pins σ H s) (k0:∀b o,s.heap.get? b=some o->h0.get? b=some o) (hDs:s.heap.objs.size<=D) (ho:h0.get? D=some (seqObj "list" us.toArray n0)) (hv:Vals xs us) (hlen:kz.length=us.length) (h64:us.length<64)
  (turn:∀(i:Nat) (u:Value) (k:Int),us[i]?=some u->kz[i]?=some k->∀pins' H' s',eQ H H'->Inv X pins' σ H' s'->wpAny (model X.prog X.w) A (call f [u]) (λr s2=>(∃t,r=.int k t)/\Inv X pins' σ H' s2) (λ_ _=>False) s')
  (h:∀H' s',eQ H H'->H' D=none->Inv X pins σ (upd H' D (.lst (kY kz xs))) s'->P (.done (.ret .none)) s') :
  wpAny (model X.prog X.w) A (ksk_tree D f false) P E {s with heap:=h0}:=by
 have hsz0:D<h0.objs.size:=MN ho;have s1:=NS h0 D (Obj.mapSeq λ_=>(#[]:Array Value));obtain⟨e1,ho1⟩:∃e,(h0.update D (Obj.mapSeq λ_=>(#[]:Array Value))).get? D=some (seqObj "list" #[] e):=⟨_,Pn ho λ_=>#[]⟩;have hkz:((h0.update D (Obj.mapSeq λ_=>(#[]:Array Value))).push (seqObj "tuple" us.toArray 0)).objs.size=h0.objs.size+1:=by
  rw[size_push',QP]
 have nD:∀b o,s.heap.get? b=some o->b≠D:=λb o e=>M_ (Nf (MN e) hDs);have keep:∀b o,s.heap.get? b=some o->(((h0.update D (Obj.mapSeq λ_=>(#[]:Array Value))).push (seqObj "tuple" us.toArray 0)).push (seqObj "list" #[] 0)).get? b=some o:=λb o e =>
  My _ (My _ ((s1.2 b (nD b o e)).trans (k0 b o e)))
 have hle:s.heap.objs.size<=h0.objs.size+1:=Mz hDs (Nat.le_succ_of_le (Oy hsz0));have hkD:h0.objs.size+1≠D:=Oc (OV hsz0);have hkS:H (h0.objs.size+1)=none:=I.aH.fresh hle;have hD:H D=none:=I.aH.fresh hDs;have hnp:∀p∈X.pn++pins,p.1≠D:=λp hp=>nD _ _ (I.pin p hp).1;have J0:Inv X pins σ (upd H (h0.objs.size+1) (.lst [])) {s with heap:=((h0.update D (Obj.mapSeq λ_=>(#[]:Array Value))).push (seqObj "tuple" us.toArray 0)).push (seqObj "list" #[] 0)}:=
  I.laid (t':=s.toks) keep hle ⟨MG _,[],0,.nil,by rw[<- hkz];exact MM _ rfl⟩
 have J:Inv X ((D,seqObj "list" #[] e1)::pins) σ (upd H (h0.objs.size+1) (.lst [])) {s with heap:=((h0.update D (Obj.mapSeq λ_=>(#[]:Array Value))).push (seqObj "tuple" us.toArray 0)).push (seqObj "list" #[] 0)}:=by
  refine J0.pM λp hp=>?_;rcases M0.mp hp with rfl|hp
  ·exact⟨My _ (My _ ho1),by rw[af (MV hkD)];exact hD,λz=>absurd I.lt (by rw[<- z];exact QF.mpr hDs),I.JY hDs,λv z=>by cases z⟩
  ·exact J0.pin p (MZ _ hp)
 unfold ksk_tree;refine Mv (P_ ho rfl ?_);refine Mv (PB ho rfl ?_ (by rw[MC,NW];lia) (MG _))
 refine Mv (seqEpoch_at ho1 rfl ?_);refine Mv (R5 ?_ (by show us.length<=_;rw[NW];lia))
 refine Mv (Pj ?_ (MG _));refine N6 ?_;show wpAny _ _ (ksk_rest D f false us.toArray e1 (.ref ((h0.update D (Obj.mapSeq λ_=>(#[]:Array Value))).push (seqObj "tuple" us.toArray 0)).objs.size)) _ _ _;rw[hkz];exact DU J hkS hD hkD (Mz I.sz hDs) hnp hv hlen h64 turn λs' K=>h _ s' (.more .refl hkS) (by rw[af (MV hkD)];exact hD) K
end
def Ef(q:Str)(params:Arguments)(body:Expr)(scope:Scope)(cl:List (Str×Addr)):TE:=λ_ H Q=>∀f c' pm ctv H1,eQ H H1->km H1 f q params body scope cl c' pm ctv->Q (.ref f) H1
def IU{x:Str}{c P:Addr}(hx:x∈dZ)(ht:W.tabIn X.K x=some (c,P))(hcode:X.env.code=.ref c)(hq:X.env.qual=x++".<locals>."){cl:List (Str×Addr)}
  (hdef:defaultsOf params X.env=([],[])) (hcl:closureFor scope X.env=pure cl):PE X (.Lambda params body scope pos) (Ef ((x++".<locals>.")++"<lambda>") params body scope cl):=λpins s σ H Q I h =>
 BM I hx ht hcode hq hdef hcl λf c' pm ctv H1 s1 g J l=>⟨.ref f,H1,J,rfl,h f c' pm ctv H1 g l⟩
section
variable {X:Cx} {pins:List (Addr×Obj)} {σ:St} {H:Hp} {s:Shared} {E:Value->Shared->Prop}
def zW(X:Cx)(A:Around)(s:Shared)(l:Addr)(xs:List V):Prop:=∀(Q:List Value->Shared->Prop) (E:Value->Shared->Prop),(∀h0 tk us,(∀b o,s.heap.get? b=some o->h0.get? b=some o)->s.heap.objs.size<=h0.objs.size->Vals xs us->Q us {s with heap:=h0,toks:=tk})->wpAny (model X.prog X.w) A (collect (.ref l)) Q E s
def yJ{A:Around}{l:Addr}{Q:VK}(I:Inv X pins σ H s)(hcol:zW X A.in1 s l xs)(hlen:kz.length=xs.length)(h64:xs.length<64)
  (turn:∀(i:Nat) (v:V) (u:Value) (k:Int),xs[i]?=some v->RelV v u->kz[i]?=some k->∀pins' H' s',eQ H H'->Inv X pins' σ H' s'->wpAny (model X.prog X.w) A.in1.in1 (call (.ref f) [u]) (λr s2=>(∃t,r=.int k t)/\Inv X pins' σ H' s2) (λ_ _=>False) s')
  (h:∀H' D,eQ H H'->H' D=none->Q (.ref D) (upd H' D (.lst (kY kz xs)))) :
  wpAny (model X.prog X.w) A (call (.builtin "sorted") [.ref l] [(Str.ofString "key",.ref f)]) (EP X pins σ Q) E s:=by
 refine call_function_entry_kw kind_sorted plain_sorted entry_sorted (ksk_s1 _ _) ?_;unfold Builtin.«sorted»;refine Mv (m:=checkCount "sorted" 1 1 _) (ME (Mv (hcol _ _ λh0 tk us k0 hz hv=>?_)));have ul:us.length=xs.length:=hv.length.symm;refine Mv (Pj ?_ (by rw[ul,NW];lia))
 have hoL:(h0.push (seqObj "list" us.toArray 0)).get? h0.objs.size=some (seqObj "list" us.toArray 0):=MM _ rfl;refine Mv (N6 (wpAny_call_entry_kw slot_list_sort ⟨_,hoL,rfl⟩ entry_list_sort ?srt (ksk_l1 _ _)))
 case srt =>
  show wpAny _ A.in1.in1 (Builtin.«list.sort» ⟨[.ref h0.objs.size],[(Str.ofString "key",.ref f)]⟩) _ _ _;rw[ksk_t1];refine E8 (s:={s with toks:=tk}) (h0:=h0.push (seqObj "list" us.toArray 0)) (I.tok tk) (λb o e=>My _ (k0 b o e)) hz hoL hv (by rw[ul];exact hlen) (by rw[ul];exact h64)
   (λi u k hu hk pins' H' s' g J=>?_) λH' s' g n J=>⟨_,rfl,?_⟩
  ·have hi:i<xs.length:=by rw[<- ul];exact (Mw.mp hu).1
   obtain⟨u',hu',rv⟩:=hv.get (Mt hi);rw[hu] at hu';cases hu';exact turn i _ u k (Mt hi) rv hk pins' H' s' g J
  ·exact ME ⟨_,rfl,.ref h0.objs.size,_,J,rfl,h H' _ g n⟩
def zg(src:Hp->Addr->List V->Prop)(pre:V->Int->Hp->St->Prop)(fr:St->St)(t:TA):TE:=λσ H Q=>t σ H λvs H1=>∃l xs kz,vs=[.ref l]/\src H1 l xs/\kz.length=xs.length/\xs.length<64 /\
 (∀(i:Nat) (v:V) (k:Int),xs[i]?=some v->kz[i]?=some k->∀H',eQ H1 H'->pre v k H' (fr σ))/\∀H2 D,eQ H1 H2->H2 D=none->Q (.ref D) (upd H2 D (.lst (kY kz xs)))
def Ay{p kpos lpos:Pos}{x:Str}{cl:List (Str×Addr)}{src:Hp->Addr->List V->Prop}{pre:V->Int->Hp->St->Prop}{fr:St->St}
  (hg:Gl X "sorted") (hm:X.mg "sorted"=none) (ha:PA X [e] t) (h1:fF e=true) (hr:bw (k+3) X.A) (hL:PE X (.Lambda params body scope lpos) (Ef q params body scope cl))
  (hsrc:∀pins σ H s H1 l xs A,Inv X pins σ H s->src H1 l xs->eQ H1 H->A.handled=none->xs.length<64->zW X A s l xs)
  (hk:scope.kind=.function) (hco:scope.isCoroutine=false) (hgen:scope.isGenerator=false) (hcell:∀y∈scope.names,y.2≠.cell) (hloc:scope.names.lookup x=some .local)
  (hbind:∀c' pm ctv u,bindArgs (W.kla_fn "<lambda>" q params body scope cl pm (.ref c') ctv) ⟨[u],[]⟩=pure [(x,u)])
  (hlen:∀σ:St,(fr σ).length=N.length) (hcl:∀y c,cl.lookup y=some c->X.env.cells.lookup y=some c) (hhas:∀y,(scope.names.lookup y=some .cell\/scope.names.lookup y=some .free)->∃c,cl.lookup y=some c)
  (hf:∀pins σ H s,Inv X pins σ H s->∀(i:Nat) (y:Str) (v:V),N[i]?=some y->(fr σ)[i]?=some (some v)->scope.names.lookup y=some .free/\∃c u,cl.lookup y=some c/\s.heap.IsCell c (some u)/\RelV v u)
  (hbody:∀A f c' s' H' σf v i,pre v i H' σf->∃t,PE (wC X A (x::N) q scope f (.ref c') cl s' H') body t/\t (some v::σf) H' (λw H2=>w=.int i/\H2=H')) :
  PE X (.Call (.Name "sorted" p) [e] [⟨some "key",.Lambda params body scope lpos,kpos⟩] pos) (zg src pre fr t):=by
 intro pins s σ H Q I h;refine Oi (fY I hg hm (u:=.builtin "sorted") ∅ ?_ ⋯ ⋯)
 have hkw:PK X [⟨some "key",.Lambda params body scope lpos,kpos⟩] (iK (Ef q params body scope cl) iA):=Et hL IG;refine callWith_kw ?_ (by rw[cW h1];rfl) (by rw[cW h1];rfl) rfl rfl
 refine bJ (ha pos pins s σ H _ I h) λus s1 hq1=>?_;obtain⟨vs,H1,I1,r1,q1⟩:=hq1;obtain⟨l,xs,kz,rfl,hs,hle,h64,hpre,qq⟩:=q1;obtain⟨u,rfl,ru⟩:=vals1 r1;cases ru;refine bJ (hkw pos pins s1 σ H1 (λzs H2=>∃f c' pm ctv,zs=[.ref f]/\eQ H1 H2/\km H2 f ((q)) params body scope cl c' pm ctv) I1 λf c' pm ctv H2 g lm=>⟨f,c',pm,ctv,rfl,g,lm⟩) λws s2 hq2=>?_;obtain⟨zs,H2,I2,rz,f,c',pm,ctv,e1,g,lm⟩:=hq2;subst e1;obtain⟨wv,rfl,rw1⟩:=vals1 rz;cases rw1;have hr1:bw (k+2) X.A.in1:=hr.in1;refine yJ I2 (hsrc _ _ _ _ _ _ _ _ I2 hs g hr1.hd h64) hle h64 (λi v u j hv rv hj pins' H' s' g' J=>?_) λH' D g' n=>qq H' D (g.trans g') n;obtain⟨ho,kB⟩:=(lm.up λb o u e=>g'.same b _ e).get J;obtain⟨tb,hb,hq⟩:=hbody X.A.in1.in1 f c' s' H' (fr σ) v j (hpre i v j hv hj H' (g.trans g'));refine N8 (AH J hr1.in1 J.ok.frames hk hco hgen hcell rv hloc ho kB (hbind c' pm ctv) (hlen σ) hcl hhas (hf _ _ _ _ J) hb hq) (λr s4 hr4=>?_) λ_ _ z=>z;obtain⟨w,H4,J4,rw4,e4,e5⟩:=hr4;subst e4 e5;exact⟨rw4,J4⟩
end
def pA{x:Str}{a:α}{l:List (Str×α)}:List.lookup x ((x,a)::l)=some a:=by rw[Ny,Of]
def l5{x y:Str}{a:α}{l:List (Str×α)}(h:y≠x):List.lookup y ((x,a)::l)=List.lookup y l:=by rw[Ny,Nh.mpr h]
abbrev mM(n:Nat):List V:=(List.range n).map λk=>V.int ((k:Nat):Int)
section
variable {X:Cx} {pins:List (Addr×Obj)} {σ:St} {H:Hp} {s:Shared}
def rb{A:Around}{r:Addr}{n:Nat}(hh:A.handled=none)(I:Inv X pins σ H s)(hr:H r=some (.rR 0 n))(h64:n<64):zW X A s r (mM n):=λQ E h=>by
 obtain⟨t,u,v,e⟩:=I.aH r _ hr;have hn2:Builtin.Range.rangeSize 0 (n:Int) 1=n:=by rw[rangeSize_one];split<;>lia
 have hsm:Builtin.Range.small 0 (n:Int) 1=true:=small_one (by lia) (by lia) (by lia) (by lia)
 have oS:(s.heap.push {cls:=.type "list",data:=.seq ([]:List Value).toArray}).get? s.heap.objs.size=some {cls:=.type "list",data:=.seq #[] 0}:=MM _ rfl;unfold collect;refine Mv (wpAny_runValue (OQ PySem.F.entry_proto_collect ?_));rw[Pe PySem.F.plain_proto_collect _];refine Mv (m:=newList []) (N_ (ME ⟨RG PySem.F.plain_list_iadd _,OQ PySem.F.entry_list_iadd ?_⟩));rw[Pe PySem.F.plain_list_iadd _];show wpAny _ A.in1 (Builtin.List.listExtendWith _ _ _) _ _ _;refine wpAny_extend_range (R:=λr s'=>match r with|.ok (.ret v)=>wpAny (model X.prog X.w) A (match v with|.ref a=>do (match (<- load a).data with|.seq xs _=>pure xs.toList|_=>unsupported "internal:collect")|_=>unsupported "internal:collect") Q E s'|.ok _=>_|.error e=>E e s') (s:={s with heap:=s.heap.push {cls:=.type "list",data:=.seq ([]:List Value).toArray}}) hh (My _ e) hsm hn2 (by lia) s.heap.objs.size (.ref s.heap.objs.size) 0 oS λh' tk acc c' hk hS hI=>?_
 refine Mv (m:=load s.heap.objs.size) (wpAny_load hS (ME (h h' tk acc.toList (λb o e=>hk b o (M_ (MN e)) (My _ e)) (Oy (MN hS)) ?_)));have hv:=Y.iH (lo:=0) n acc.toList 0 (by simpa using hI.1) λj v e=>by
  obtain⟨t,e2⟩:=hI.2 j v (by simpa using e)
  exact⟨t,by rw[e2];simp⟩
 show Vals ((List.range n).map λk=>V.int ((k:Nat):Int)) acc.toList;rw[List.range_eq_range']
 simpa using hv
end
def LO(j:Nat)(σ:St):St:=[(σ[j]?).getD none]
def lK(K:W.Frag)(j:Nat)(t:TA):TE:=zg (λH l xs=>∃n:Nat,H l=some (.rR 0 n)/\xs=mM n) (λv k H' σf=>∃i q ls,v=.int i/\σf=[some (.ref q)]/\aW K H' q ls/\bQ ls i=some (.int k)) (LO j) t
def C5{p kpos lpos p1 p2 p3:Pos}{x y:Str}{c:Addr}{j:Nat}(hg:Gl X "sorted")(hm:X.mg "sorted"=none)(ha:PA X [e] t)(h1:fF e=true)(hr:bw (k+3) X.A)
  (hL:PE X (.Lambda params (.Subscript (.Name y p1) (.Name x p2) p3) scope lpos) (Ef q params (.Subscript (.Name y p1) (.Name x p2) p3) scope [(y,c)]))
  (hsc:scope={kind:=.function,names:=[(x,.local),(y,.free)],isGenerator:=false,isCoroutine:=false,more:=[]}) (hxy:y≠x) (hx1:(x ==("__debug__":Str))=false) (hx2:(x ==("__classdict__":Str))=false) (hy1:(y ==("__debug__":Str))=false) (hy2:(y ==("__classdict__":Str))=false)
  (hj:X.N[j]?=some y) (hyc:X.env.scope.names.lookup y=some .cell) (hyl:X.env.cells.lookup y=some c)
  (hbind:∀c' pm ctv u,bindArgs (W.kla_fn "<lambda>" q params (.Subscript (.Name y p1) (.Name x p2) p3) scope [(y,c)] pm (.ref c') ctv) ⟨[u],[]⟩=pure [(x,u)]) :
  PE X (.Call (.Name "sorted" p) [e] [⟨some "key",.Lambda params (.Subscript (.Name y p1) (.Name x p2) p3) scope lpos,kpos⟩] pos) (lK X.K j t):=by
 subst hsc;have lx:List.lookup x [(x,NameKind.local),(y,NameKind.free)]=some .local:=pA;have ly:List.lookup y [(x,NameKind.local),(y,NameKind.free)]=some .free:=by rw[l5 hxy,pA]
 have lz:∀z,z≠x->z≠y->List.lookup z [(x,NameKind.local),(y,NameKind.free)]=none:=λz h1 h2=>by rw[l5 h1,l5 h2];rfl
 have lc:List.lookup y [(y,c)]=some c:=pA;have lcz:∀z d,List.lookup z [(y,c)]=some d->z=y/\d=c:=λz d e=>by
  by_cases h:z=y
  ·rw[h,lc] at e;cases e;exact⟨h,rfl⟩
  ·rw[l5 h] at e;cases e
 refine Ay (N:=[y]) hg hm ha h1 hr hL (λpins σ H s H1 l xs A I hs g hh h64=>?_) rfl rfl rfl (λz hz=>?_) lx hbind (λ_=>rfl) (λz d e=>?_) (λz hz=>?_) (λpins σ H s I i z v e1 e2=>?_) λA f c' s' H' σf v i hp=>?_
 ·obtain⟨n,hs,rfl⟩:=hs;rw[Ms,Nr] at h64;exact rb hh I (g.same _ _ hs) h64
 ·rcases M0.mp hz with rfl|hz
  ·nofun
  ·rw[MH.mp hz];nofun
 ·obtain⟨rfl,rfl⟩:=lcz z d e;exact hyl
 ·by_cases z1:z=x
  ·have hz':List.lookup z [(x,NameKind.local),(y,NameKind.free)]=some .cell\/List.lookup z [(x,NameKind.local),(y,NameKind.free)]=some .free:=hz;rw[z1,lx] at hz';rcases hz' with h|h<;>cases h
  ·by_cases z2:z=y
   ·rw[z2];exact⟨c,lc⟩
   ·have hz':List.lookup z [(x,NameKind.local),(y,NameKind.free)]=some .cell\/List.lookup z [(x,NameKind.local),(y,NameKind.free)]=some .free:=hz;rw[lz z z1 z2] at hz';rcases hz' with h|h<;>cases h
 ·cases i with
  |succ i=>cases e1
  |zero =>
   have e1':some y=some z:=e1;cases e1';have e2':some ((σ[j]?).getD none)=some (some v):=e2;have e3:σ[j]?=some (some v):=by
    cases hσ:σ[j]? with
    |none=>rw[hσ] at e2';cases e2'
    |some o=>rw[hσ] at e2';exact e2'
   obtain⟨m,_,hl⟩:=I.loc;obtain⟨u,rv,lk⟩:=hl j y v hj e3 (.inr (.inl hyc));refine⟨ly,c,u,lc,?_,rv⟩;rcases lk with ⟨z,_⟩|⟨_,d,z1,z2⟩
   ·have z':X.env.scope.names.lookup y=some .local:=z;rw[hyc] at z';cases z'
   ·rw[hyl] at z1;cases z1;exact z2
 ·obtain⟨ix,a,ls,rfl,rfl,hq,ha'⟩:=hp;refine⟨_,FG tU (pv 1 rfl (.inr (.inr ly)) hy1 hy2) (pv 0 rfl (.inl lx) hx1 hx2) (Z.LZ rfl),?_⟩;exact⟨_,rfl,_,rfl,a,ls,ix,.int i,rfl,rfl,hq,ha',rfl,rfl⟩
def DW{β:Type}{g:α->β}{ks:List Int}{l:List α}:kY ks (l.map g)=(kY ks l).map g:=by
 have p:∀l:List α,Paired (λa b=>b=g a) l (l.map g):=λl=>by
  induction l with
  |nil=>exact .nil
  |cons a l ih=>exact .cons rfl ih
 have q:∀{l:List α} {m:List β},Paired (λa b=>b=g a) l m->m=l.map g:=λ{l m} h=>by
  induction h with
  |nil=>rfl
  |cons r _ ih=>rw[r,ih];rfl
 exact q (vJ (p l))
structure oJ (K:W.Frag) (mg:Str->Option Value) (x:Str):Prop where
 ex:∃c P,W.tabIn K x=some (c,P)/\∀f cdv,Im K mg x f cdv->cdv=.ref c
def jg{x:Str}{c P:Addr}{oc oc':Value}{od od':Option Addr}{sl sl':Array (Option Value)}{fd:FuncData}{vs:Array Value}(a:W.nsIn K mainGlobals x=some (some (.ref f)))(l:K.lookup f=some ⟨oc,od,.func fd,sl⟩)(hc:fd.code=.ref c)
  (lc:K.lookup c=some ⟨oc',od',.fields vs,sl'⟩) (hv:vs[11]?=some (.ref P)):W.tabIn K x=some (c,P):=by
 unfold W.tabIn;rw[a];dsimp only;rw[l];dsimp only;rw[hc];dsimp only;rw[lc];dsimp only;rw[hv]
def tP{x:Str}(a:W.nsIn K mainGlobals x=some none):W.tabIn K x=none:=by
 unfold W.tabIn;rw[a]
def oJ.mk'{mg:Str->Option Value}{x:Str}{c P:Addr}(X:K.In h)(G:h.Ns mainGlobals mg)(ht:W.tabIn K x=some (c,P)):oJ K mg x:=
 ⟨c,P,ht,λf cdv ⟨m,o,fd,lk,hd,e⟩=>by rw[<- e];exact W.law_code X G ht m (X _ _ lk) hd⟩
def jz.of{q:Program}{o1 o2 o3:Option (Addr×Addr)}(nt:W.noTabs K=true)(t1:W.tabIn K "by_worth"=o1)(t2:W.tabIn K "by_weight"=o2)(t3:W.tabIn K "code_of"=o3)(nd:((o1.toList++(o2.toList++o3.toList)).map (·.2)).Nodup)
  (f1:o1=none\/((recsOf q).find? (λe=>e.name ==("by_worth":Str))).isSome=true) (f2:o2=none\/((recsOf q).find? (λe=>e.name ==("by_weight":Str))).isSome=true) (f3:o3=none\/((recsOf q).find? (λe=>e.name ==("code_of":Str))).isSome=true):jz q K:=by
 refine⟨nt,?_,λx hx=>?_⟩
 ·have e:(bU K).map (·.2.1)=(o1.toList++(o2.toList++o3.toList)).map (·.2):=by
   unfold bU dZ
   cases o1<;>cases o2<;>cases o3<;>simp[List.filterMap,t1,t2,t3]
  rw[e];exact nd
 ·unfold dZ at hx;rcases M0.mp hx with rfl|hx
  ·rw[t1];exact f1
  ·rcases M0.mp hx with rfl|hx
   ·rw[t2];exact f2
   ·rw[MH.mp hx,t3];exact f3
namespace Y
def Ex:V->List V->Hp->VK->Prop:=λx vs H Q=>∃z y,x=.str z/\vs=[.str y]/\z.length<=sizeLine/\Q (.str (Txt.rstripChars z y)) H
def oq:uU X "str.rstrip" Ex:=by
 intro pins s σ H x xs v us Q I rx rs h;obtain⟨z,y,rfl,rfl,hz,q⟩:=h;obtain⟨t,rfl⟩:=rx;obtain⟨u,rfl,k,rfl⟩:=vals1 rs;exact SC.rstripChars (λt' k=>⟨.str _,H,I.tok _,⟨_,rfl⟩,q⟩) hz
def Hi:V->List V->Hp->VK->Prop:=λx vs H Q=>∃z i y,x=.str z/\vs=[.int i,.str y]/\0<=i/\i<1000/\y.length=1/\Q (.str (Txt.ljustF z i (y.cps.getD 0 0))) H
def rK:uU X "str.ljust" Hi:=by
 intro pins s σ H x xs v us Q I rx rs h;obtain⟨z,i,y,rfl,rfl,h0,h1,hy,q⟩:=h;obtain⟨t,rfl⟩:=rx;obtain⟨u1,u2,rfl,⟨t1,rfl⟩,⟨t2,rfl⟩⟩:=vals2 rs;exact ljust_fill (padOk_of (by lia) (by lia)) hy λt' k=>⟨.str _,H,I.tok _,⟨_,rfl⟩,q⟩
end Y
def sJ(x y:Str):(Txt.rstripChars x y).cps.toList.reverse=x.cps.toList.reverse.dropWhile y.cps.contains:=by
 have key:∀(p:Nat->Bool) (l:List Nat),(l.take (l.length-(l.reverse.takeWhile p).length)).reverse=l.reverse.dropWhile p:=λp l=>by
  have h:(l.reverse.takeWhile p).length<=l.length:=by simpa using (List.takeWhile_sublist p (l:=l.reverse)).length_le
  rw[List.reverse_take,<- wx];congr 1;lia
 have hl:x.length=x.cps.toList.length:=by rw[Np];rfl
 rw[<- key];unfold Txt.rstripChars Txt.stripBy;split
 ·rename_i h;unfold stripSame at h;rw[NB] at h;have h2:x.length-(x.cps.toList.reverse.takeWhile y.cps.contains).length=x.length:=by simpa[stripLo,stripHi] using h.2
  rw[<- hl,h2,hl,Na]
 ·have e:∀(a:Array Nat) (j:Nat),(a.extract 0 j).toList=a.toList.take j:=λa j=>by simp
  have e2:=e x.cps (x.length-(x.cps.toList.reverse.takeWhile y.cps.contains).length);rw[hl] at e2;exact Nw List.reverse e2
namespace Y
def K5:R2:=λx y H Q=>∃(c:Nat) (k:Int),x=.str ⟨#[c]⟩/\y=.int k/\0<=k/\k<=1000/\Q (.str ⟨(List.replicate k.toNat c).toArray⟩) H
def xi:cY X (binaryOp .Mult) K5:=by
 intro pins s σ H x y v u Q I rx ry h;obtain⟨c,k,rfl,rfl,h0,h1,q⟩:=h;obtain⟨t,rfl⟩:=rx;obtain⟨t2,rfl⟩:=ry;have e:Txt.mul ⟨#[c]⟩ k=⟨(List.replicate k.toNat c).toArray⟩:=by
  have:=mul_one_list c k
  cases hz:Txt.mul ⟨#[c]⟩ k with
  |mk a=>rw[hz] at this;rw[<- this,Ph]
 have ok:MulOk ⟨#[c]⟩ k:=by
  refine⟨by simp only[Bool.or_eq_false_iff,Rg];lia,λz _=>?_,λz _=>?_⟩
  ·have hl:((⟨#[c]⟩:Str).length:Int)=1:=rfl;rw[hl];have:1<=(2^63-1) / k:=by
    rw[Int.le_ediv_iff_mul_le (by lia)];lia
   lia
  ·have hl:(⟨#[c]⟩:Str).length=1:=rfl;rw[hl,Nat.one_mul];exact MW (QF.mpr (Mz (show k.toNat<=1000 by lia) ⋯))
 exact SB.mul ok λt' j=>⟨.str _,H,I.tok _,⟨t',by rw[e]⟩,q⟩
def Ar(K:W.Frag):List V->Hp->VK->Prop:=λxs H Q=>FX K xs H Q\/∃p ns,xs=[.ref p]/\aT K H p (ns.map V.int)/\ns.length<64/\∀ns':List Int,ns'.Perm ns->ns'.Pairwise (·<=·)->∀l,H l=none->Q (.ref l) (upd H l (.lst (ns'.map V.int)))
def vi(K:W.Frag)(hK:X.K=K):aX X (.builtin "sorted") (Ar K):=by
 refine (yG K hK).or ?_;subst hK;intro pins s σ H xs us Q I r h;obtain⟨p,ns,rfl,hq,h64,q⟩:=h;obtain⟨u,rfl,ru⟩:=vals1 r;cases ru;obtain⟨its,rv,pl,hz⟩:=I.list hq;have hi:=intsAre_of rv;refine sorted_ints pl.isList hi (by rw[mC hi];exact h64) λout ns' a1 a2 a3=>?_
 obtain⟨e,he⟩:=sortedAll_at s.heap its out;refine⟨.ref (s.heap.objs.size+1),_,I.laid (t':=s.toks) (λb ob q=>sortedAll_old q) (NX _) (show ba X.prog X.w _ _ _ (.lst (ns'.map V.int)) from⟨?_,out.toList,e,gI a1,by simpa using he⟩),rfl,q ns' a2 a3 _ (I.aH.fresh (NX _))⟩
 rw[Ms,a2.length_eq];exact Mz (Oy h64) ⋯
def Jv:V->List V->Hp->VK->Prop:=λx vs H Q=>∃a:Int,x=.int a/\vs=[]/\Q (.int (Builtin.Int.intBits a:Nat)) H
def qy:uU X "int.bit_length" Jv:=by
 intro pins s σ H x xs v us Q I rx rs h;obtain⟨a,rfl,rfl,q⟩:=h;obtain⟨t,rfl⟩:=rx;obtain rfl:=Paired.Bm rs;exact call_int_bit_length ⟨.int _,H,I.tok _,⟨_,rfl⟩,q⟩
def Li(K:W.Frag):R2:=λx y H Q=>∃a b xs,x=.ref a/\y=.ref b/\aT K H a xs/\aT K H b []/\Q (.bl xs.isEmpty) H
def mI(K:W.Frag)(hK:X.K=K)(hu:X.A.units<cLine):cY X (compareOp .Eq) (Li K):=by
 subst hK;intro pins s σ H x y v u Q I rx ry h;obtain⟨a,b,xs,rfl,rfl,ha,hb,q⟩:=h
 cases rx;cases ry
 obtain⟨its,r1,p1,_⟩:=I.list ha;obtain⟨its2,r2,p2,_⟩:=I.list hb;obtain rfl:=Paired.Bm r2
 cases r1 with
 |nil=>exact SeqAt.eq_listAt (e:=λ_=>true) p1.isList p2.isList rfl hu (λj h1=>absurd h1 (Po _)) ⟨.bl true,H,I,rfl,q⟩
 |cons h r=>exact Rc p1.isList p2.isList (by simp) hu ⟨.bl false,H,I,rfl,q⟩
end Y
def jL(h:Heap)(d:Addr)(es:Array DictEntry)(ep:Nat):Prop:=∃o,h.get? d=some o/\o.ExactDict/\o.data=.dict es ep
section
variable {prog:Program} {w:World} {A:Around} {E:Value->Shared->Prop} {s:Shared}
def jL.ty(x:jL s.heap d es ep):s.TypeIs (.ref d) "dict":=let ⟨o,ho,hc,_⟩:=x;⟨o,ho,hc.1⟩
def jL.keep(x:jL h d es ep)(k:∀o,h.get? d=some o->h'.get? d=some o):jL h' d es ep:=let ⟨o,ho,r⟩:=x;⟨o,k _ ho,r⟩
def jL.lt(x:jL h d es ep):d<h.objs.size:=let ⟨_,ho,_⟩:=x;MN ho
def E4(low:(d == sysModules)=false)(x:jL s.heap d es ep)
  (q:Q (.ref s.heap.objs.size) {s with heap:=s.heap.push {cls:=.type "dict_keyiterator",data:=.fields #[.ref d,.int 0 0,.int es.size 0,.int ep 0]}}):wpAny (model prog w) A (pyIter (.ref d)) Q E s:=by
 obtain⟨o,ho,hx,hdat⟩:=id x;refine wpAny_pyIter_slot x.ty PySem.F.slot_dict_iter (NC PySem.F.slot_dict_iter x.ty PySem.F.entry_dict_iter ?_ (PySem.F.args_dict_iter_1 _));unfold Builtin.«dict.__iter__» Builtin.Dict.dictSlotNone;refine Mv (Mv (wpAny_notOrdered_dict x.ty ?_));show wpAny _ _ (pure (Value.ref d)) _ _ s;refine ME ?_;show wpAny _ _ (Builtin.Dict.showsAll d >>= _) _ _ s;unfold Builtin.Dict.showsAll;rw[low,M4 ML];refine Mv (ME (Mv (P2 ho hdat (Mv (Rl ho hdat ?_)))));exact Mv (N_ (ME ⟨_,rfl,"dict_keyiterator",_,⟨_,MM _ rfl,rfl⟩,PySem.F.slot_dict_keyiterator_next.lookup,q⟩))
def Fl{it:Addr}{Q:Option Value->Shared->Prop}(hit:s.heap.IsKeyIter it d i es.size ep)(x:jL s.heap d es ep)(hi:i<es.size)
  (q:∀h',h'.IsKeyIter it d (i+1) es.size ep->Heap.SameBut it s.heap h'->Q (some es[i].key) {s with heap:=h'}):wpAny (model prog w) A (pyNext (.ref it)) Q E s:=by
 obtain⟨o,ho,hc,hd⟩:=id hit;obtain⟨od,hod,hx,hdd⟩:=id x;unfold pyNext;refine Mv (PC (N5 (name:=Str.ofString "__next__") hit.typeIs PySem.F.slot_dict_keyiterator_next (NC PySem.F.slot_dict_keyiterator_next hit.typeIs PySem.F.entry_dict_keyiterator_next ?_ (PySem.F.args_dict_keyiterator_next_1 _))));refine Mv (ME (Mv (Mv ?_)))
 first|refine Mv (Ot hit.typeIs (ME (Mv (Qn ho hd ?_))))|refine Mv (OE hit.typeIs (ME (Mv (Qn ho hd ?_))))
 simp only[show Builtin.Dict_items.ownsTuple "dict_keyiterator"=false by decide,Oj,O3]
 show wpAny _ _ (if (Value.ref d == Value.none)=true then _ else _) _ _ s;rw[M4 (show ¬ ((Value.ref d == Value.none)=true) from ML)]
 refine Mv (ME (Mv (P2 hod hdd ?_)));rw[M4 (by simp)]
 refine Mv (ME (Mv (Rl hod hdd ?_)));rw[M4 (by simp)]
 refine ME ?_;simp only[show ¬ ((i:Int)<0) by lia,O3,MY,QH hi]
 refine Mv ?_
 first|refine Mv (Ot hit.typeIs (ME (Mv (PR hit.typeIs ?_))))|refine Mv (OE hit.typeIs (ME (Mv (PR hit.typeIs ?_))))
 show wpAny _ _ (setField (.ref it) 1 (rawInt ((i:Int)+1)) >>= _) _ _ s;refine Mv (Qm ho hd (by simp) ?_)
 have h2:(s.heap.update it (Obj.mapFields (·.setIfInBounds 1 (rawInt ((i:Int)+1))))).IsKeyIter it d (i+1) es.size ep:=⟨_,OY _ ho (Obj.isFreed_of_fields (Pu hd _)),(Obj.cls_mapFields ..).trans hc,by rw[Pu hd];simp[rawInt]⟩
 refine Mv (N6 (Mv (PR (s:={s with heap:=s.heap.update it (Obj.mapFields (·.setIfInBounds 1 (rawInt ((i:Int)+1))))}) h2.typeIs ?_)))
 show wpAny _ _ (pure es[i].key) _ _ _;exact ME (ME ⟨_,rfl,ME (q _ h2 (NS ..))⟩)
def En{it:Addr}{Q:Option Value->Shared->Prop}(hh:A.handled=none)(hit:s.heap.IsKeyIter it d es.size es.size ep)(x:jL s.heap d es ep)
  (q:∀h',Heap.ExtBut it s.heap h'->Q none {s with heap:=h'}):wpAny (model prog w) A (pyNext (.ref it)) Q E s:=by
 obtain⟨o,ho,hc,hd⟩:=id hit;obtain⟨od,hod,hx,hdd⟩:=id x;unfold pyNext;refine Mv (PC (N5 (name:=Str.ofString "__next__") hit.typeIs PySem.F.slot_dict_keyiterator_next (NC PySem.F.slot_dict_keyiterator_next hit.typeIs PySem.F.entry_dict_keyiterator_next ?_ (PySem.F.args_dict_keyiterator_next_1 _))));refine Mv (ME (Mv (Mv ?_)))
 first|refine Mv (Ot hit.typeIs (ME (Mv (Qn ho hd ?_))))|refine Mv (OE hit.typeIs (ME (Mv (Qn ho hd ?_))))
 simp only[show Builtin.Dict_items.ownsTuple "dict_keyiterator"=false by decide,Oj,O3]
 show wpAny _ _ (if (Value.ref d == Value.none)=true then _ else _) _ _ s;rw[M4 (show ¬ ((Value.ref d == Value.none)=true) from ML)]
 refine Mv (ME (Mv (P2 hod hdd ?_)));rw[M4 (by simp)]
 refine Mv (ME (Mv (Rl hod hdd ?_)));rw[M4 (by simp)]
 refine ME ?_;simp only[show ¬ ((es.size:Int)<0) by lia,O3,MY,Rt (M8 es.size)]
 refine Mv ?_
 first|refine Mv (Ot hit.typeIs (ME ?_))|refine Mv (OE hit.typeIs (ME ?_))
 show wpAny _ _ (setField (.ref it) 0 .none >>= _) _ _ s;refine Mv (Qm ho hd (by simp) ?_)
 show wpAny _ _ (newExc (.type "StopIteration") [] >>= _) _ _ _;refine Mv ?_;simp only[newExc,newTuple];refine Mv (N_ ?_ (by size_fits))
 refine Mv (m:=firstArgMember _ _) (wpAny_of_eq (a:=Value.none) (by first|rfl | (simp only[firstArgMember];rfl)) (N_ ?_ (by size_fits)))
 simp only[raiseNew];refine Mv (wpAny_handled ?_);rw[show A.in1.handled=none from hh];refine Mv (ME (wpAny_throw ?_));refine Mv (wpAny_isInstance (T:="StopIteration") (b:=true) ⟨_,MM _ rfl,rfl⟩ isSubtype_stop ?_);exact ME (q _ (((NS ..).extBut.push _).push _))
end
def B6{prog:Program}{A:Around}(hh:A.handled=none)(I d:Addr)(ne:d≠I)(es:Array DictEntry)(ep:Nat):
  Walks prog w A I [I,d] [I] es.size (λi v=>∃h:i<es.size,v=es[i].key) (λi h=>h.IsKeyIter I d i es.size ep/\jL h d es ep) where
 sub:=λb hb=>by simp at hb;simp[hb]
 frame:=λ_ _ _ st hk=>⟨st.1.at λo e=>hk I (by simp) o e,st.2.keep λo e=>hk d (by simp) o e⟩
 item:=λi s Q E hi st hQ=>Fl st.1 st.2 hi λh' a b=>hQ _ h' s.toks ⟨hi,rfl⟩ ⟨a,st.2.keep λo e=>b.extBut _ _ ne e⟩ λc o hc e=>b.extBut c o (λh=>hc (by simp[h])) e
 done:=λs Q E st hQ=>En hh st.1 st.2 λh' he=>hQ h' s.toks λc o hc e=>he c o (λh=>hc (by simp[h])) e
 self:=λ_ _ _ _ st hQ=>wpAny_pyIter_keyiter st.1 hQ
def GO{prog:Program}(low:(d == sysModules)=false):W.KdlSrc prog w "dict" d d es.size (λi v=>∃h:i<es.size,v=es[i].key) (λh=>jL h d es ep) where
 type:=λ_ x=>x.ty
 there:=λ_ x=>⟨x.lt,x.lt⟩
 keep:=λ_ _ x k=>x.keep λo e=>k d (.inl rfl) o e
 notList:=by decide
 notTuple:=by decide
 hint:=λ_ _ _ _ x q=>W.kdl_hint_dict x.ty q
 iter:=λ_ _ hh x=>⟨_,_,(λ_ _ q=>E4 low x q),B6 hh _ d (M_ x.lt) es ep,⟨⟨_,MM _ rfl,rfl,rfl⟩,x.keep λ_ e=>My _ e⟩⟩
def Cs{es:List DictEntry}{D:List (Str×List Str)}(h:KTD.Rows (yj K) es D):es.length=D.length:=by
 induction h with
 |nil=>rfl
 |cons _ _ _ ih=>simp[ih]
def AF{es:List DictEntry}{D:List (Str×List Str)}(h:KTD.Rows (yj K) es D):Vals (D.map λp=>V.str p.1) (es.map λe=>e.key):=by
 induction h with
 |nil=>exact .nil
 |cons e _ _ ih=>exact .cons ⟨_,e⟩ ih
def Iu(K:W.Frag)(D:List (Str×List Str)):List V->Hp->VK->Prop:=λxs H Q=>∃d,xs=[.ref d]/\jv K d D/\D.length<=sizeLine/\∀l,H l=none->Q (.ref l) (upd H l (.lst (D.map λp=>V.str p.1)))
def vk{D:List (Str×List Str)}(K:W.Frag)(hK:X.K=K)(hc:X.calm=true):aX X (.type "list") (Iu K D):=by
 intro pins s σ H xs us Q I r h;subst hK;obtain⟨d,rfl,hd,hz,q⟩:=h;obtain⟨u,rfl,rx⟩:=vals1 r;cases rx;obtain⟨o,es,ep,ho,hx,hdat,hr⟩:=hd.ex;have at0:jL s.heap d es ep:=⟨o,I.iz _ _ ho,hx,hdat⟩;have hl:es.size=D.length:=by rw[<- Cs hr,Np]
 refine W.kdl_call (GO hd.low) (I.ok.hd hc) at0 (by rw[hl];exact hz) λh' tk acc c' hk hS hI=>?_
 have hv:Vals (D.map λp=>V.str p.1) acc.toList:=by
  have e:acc.toList=es.toList.map λe=>e.key:=by
   refine O5 λj=>?_;rw[Nj,M7,Nj]
   cases z:acc[j]? with
   |none =>
    have:acc.size<=j:=Q0.mp z;rw[Rt (by rw[<- hI.1];exact this)];rfl
   |some v =>
    obtain⟨hj,rfl⟩:=hI.2 j v z;rw[QH hj];rfl
  rw[e];exact AF hr
 refine⟨.ref s.heap.objs.size,_,I.laid (t':=tk) hk (M8 _) (show ba X.prog X.w _ h' _ (.lst _) from⟨?_,acc.toList,c',hv,by simpa using hS⟩),rfl,q _ (I.aH.fresh (M8 _))⟩
 rw[Ms];exact hz
section
variable {K:W.Frag} {g:TG} {tb:TS} {D:Ends} {σ:St} {H:Hp} {te:TE} {Q:VK}
def cP{a:Addr}(hn:xs.length<=sizeLine)(Pv:Addr->Nat->List V->Hp->Prop)(h0:∀D,H D=none->Pv D 0 [] (upd H D (.lst [])))(hD:∀D i ys H',Pv D i ys H'->H' D=some (.lst ys)/\ys.length=i)
  (hl:∀D i ys H',Pv D i ys H'->aT K H' a xs)
  (hs:∀D i ys H' x (R:VK),xs[i]?=some x->Pv D i ys H'->(∀v H5,H5 D=some (.lst ys)->Pv D (i+1) (ys++[v]) (upd H5 D (.lst (ys++[v])))->R v H5)->te (some x::σ) H' R) (hd:∀D ys H',Pv D xs.length ys H'->Q (.ref D) H') :
  ib (tQ K a) 1 (aL 0) dP te Q σ H:=by
 intro D hD0;refine⟨λi m ys σ' H'=>m=xs.length-i/\i<=xs.length/\Pv D i ys H'/\∃o,σ'=o::σ,⟨xs.length,by simp,MG _,h0 D hD0,none,rfl⟩,?_⟩
 rintro i m ys σ' H' ⟨rfl,hi,p,o,rfl⟩;obtain⟨hDi,hly⟩:=hD _ _ _ _ p;have q:=hl _ _ _ _ p;refine⟨hDi,?_⟩;by_cases hlt:i<xs.length
 ·refine .inr ⟨⟨xs,xs[i],q,by simp[hlt]⟩,by lia,λx H2 y=>?_⟩
  obtain⟨rfl,y⟩:=y;unfold aL dP;dsimp only;rw[if_pos rfl];exact hs D i ys H2 x _ (y xs q) p λv H5 q1 q2=>⟨q1,xs.length-(i+1),by lia,rfl,hlt,q2,_,rfl⟩
 ·have e:i=xs.length:=by lia
  subst e;exact .inl ⟨⟨xs,q,M8 _⟩,hd D ys H' p⟩
end
def but(B:vX)(a:Addr):vX:=λb=>B b/\b≠a
def LC(K:W.Frag)(mg:Str->Option Value)(x:Str):Prop:=∃p o,mg x=some (.ref p)/\K.lookup p=some o/\o.dict=none
section
variable {prog:Program} {w:World} {A:Around} {E:Value->Shared->Prop} {s:Shared}
structure Gw (prog:Program) (w:World) (s:Shared) (vs:List Value) (κ:SortKind) (kz:Nat->Int) (h:Heap):Prop where
 kind:∀(A:Around) (E:Value->Shared->Prop) (Q:SortKind->Shared->Prop),2<=vs.length->Q κ {s with heap:=h}->wpAny (model prog w) A (keyKind' vs.toArray) Q E {s with heap:=h}
 lt:∀(A:Around) (C:Bool->Shared->Prop) (i j:Nat),i<vs.length->j<vs.length->C (decide (kz i<kz j)) {s with heap:=h}->kas_ask prog w A κ vs i j C {s with heap:=h}
def AS{a:Addr}{vs:List Value}{n:Nat}{κ:SortKind}{kz:Nat->Int}{P:Fin->Shared->Prop}(ho:s.heap.get? a=some (seqObj "list" vs.toArray n))(h64:vs.length<64)
  (hq:∀h',(∀b o,b≠a->s.heap.get? b=some o->h'.get? b=some o)->Gw prog w s vs κ kz h')
  (h:∀p:Array Nat,p.toList.Perm (List.range vs.length)->p.toList.Pairwise (SP.R kz)->P (.done (.ret .none)) {s with heap:=sortedHeap s.heap a vs (List.toArray (p.toList.map λi=>vs.getD i Value.none))}) :
  wpAny (model prog w) A (Builtin.«list.sort» ⟨[.ref a],[]⟩) P E s:=by
 rw[list_sort_plain];have ha:a<s.heap.objs.size:=MN ho;refine Mv (P_ ho rfl (Mv (PB ho rfl ?_)));obtain⟨e1,ho1⟩:∃e1,(s.heap.update a (Obj.mapSeq λ_=>#[])).get? a=some (seqObj "list" #[] e1):=⟨_,Pn ho (λ_=>#[])⟩;refine Mv (seqEpoch_at ho1 rfl (Mv (R5 (Mv (Pj (N6 ?_))))));have up:∀b o,b≠a->s.heap.get? b=some o->(((s.heap.update a (Obj.mapSeq λ_=>#[])).push (seqObj "tuple" vs.toArray 0)).push (seqObj "list" #[] 0)).get? b=some o:=λb o hb e =>
  My _ (My _ ((P5 _ _ (MV hb)).trans e))
 have ho6:(((s.heap.update a (Obj.mapSeq λ_=>#[])).push (seqObj "tuple" vs.toArray 0)).push (seqObj "list" #[] 0)).get? a=some (seqObj "list" #[] e1):=My _ (My _ ho1);show wpAny (model prog w) A _ P E {s with heap:=((s.heap.update a (Obj.mapSeq λ_=>#[])).push (seqObj "tuple" vs.toArray 0)).push (seqObj "list" #[] 0)}
 dsimp only;have hs:=hq _ up;have hsz:vs.toArray.size=vs.length:=by simp
 by_cases h2:vs.toArray.size<2
 ·rw[if_pos h2,if_pos h2];refine wpAny_bind (wpAny_pure ?_);rw[StateT.run_pure];refine wpAny_bind (wpAny_pure ?_);dsimp only;refine wpAny_bind (seqEpoch_at ho6 rfl (wpAny_bind (listUpdate_at ho6 rfl ?_ (hsz2:=by rw[Array.size_map];show (pairsOf vs).size<=_;rw[pairsOf_size,sizeLine_eq];lia))))
  simp only[Q5,Oj,O3];refine ME ?_;have hid:=h (List.toArray (List.range vs.length)) (List.Perm.refl _) (by
   rcases vs with _|⟨x,_|⟨y,r⟩⟩
   ·exact .nil
   ·simp
   ·exfalso;rw[hsz] at h2;simp only[MJ] at h2;lia)
  have e:(arrOf (SortSt.mk' general' (vs.toArray.zip vs.toArray) #[] 7 none)).map (·.2)=List.toArray ((List.toArray (List.range vs.length)).toList.map λi=>vs.getD i Value.none):=by
   show (vs.toArray.zip vs.toArray).map (·.2)=_;apply PF.mp;rw[Array.toList_map,Array.toList_zip];show (vs.zip vs).map (·.2)=(List.range vs.length).map λi=>vs.getD i Value.none;rw[QU (M8 _)];refine O5 λi=>?_;rw[M7];rcases Nt i vs.length with c|c
   ·rw[OF c,Mt c];simp[c]
   ·rw[Nv.mpr c,Nv.mpr (by rw[Nr];exact c)];rfl
  rw[e];exact hid
 ·rw[M4 h2,M4 h2];have h2':2<=vs.length:=by rw[hsz] at h2;lia
  refine Mv (hs.kind _ _ _ h2' ?_);refine Mv (N8 (kat_run (ks:=vs) (vs:=vs) (Q:=λst' s'=>s'={s with heap:=((s.heap.update a (Obj.mapSeq λ_=>#[])).push (seqObj "tuple" vs.toArray 0)).push (seqObj "list" #[] 0)}/\∃p:Array Nat,arrOf st'=p.map (kas_item (vs.toArray.zip vs.toArray))/\failedOf st'=none/\p.toList.Perm (List.range vs.length)/\p.toList.Pairwise (SP.R kz))
   (G:=λp s'=>s'={s with heap:=((s.heap.update a (Obj.mapSeq λ_=>#[])).push (seqObj "tuple" vs.toArray 0)).push (seqObj "list" #[] 0)}/\p.toList.Perm (List.range vs.length)/\p.toList.Pairwise (SP.R kz))
   rfl h2' h64 (λp st' s' a1 a2 a3 a4=>⟨a4.1,p,a2,a3,a4.2⟩) ?_) ?_ λ_ _ e=>e)
  ·refine SP.wW (k:=kz) (I:=λs'=>s'={s with heap:=((s.heap.update a (Obj.mapSeq λ_=>#[])).push (seqObj "tuple" vs.toArray 0)).push (seqObj "list" #[] 0)}) (λi j C s' hi hj hI hC=>?_) (by lia) rfl λp s' hp hr hI=>⟨hI,hp,hr⟩
   subst hI;exact hs.lt _ _ i j hi hj (hC _ rfl)
  rintro⟨⟨⟩,st'⟩ s' ⟨rfl,p,har,hf,hp,hr⟩;dsimp only;have esn:=kat_snds (ks:=vs) (vs:=vs) rfl har;have hl:(p.toList.map λi=>vs.getD i Value.none).length=vs.length:=by rw[List.length_map,hp.length_eq,List.length_range]
  refine Mv (seqEpoch_at ho6 rfl ?_);refine Mv (PB ho6 rfl ?_ (hsz2:=by show ((arrOf st').map (·.2)).size<=_;rw[esn,MC,hl,NW];lia))
  rw[hf];simp only[Q5,Oj,O3];rw[esn];exact ME (h p hp hr)
def t_{l:Addr}{vs:List Value}{κ:SortKind}{kz:Nat->Int}(hl:s.heap.IsList l vs.toArray)(h64:vs.length<64)(hq:∀h',(∀b o,s.heap.get? b=some o->h'.get? b=some o)->Gw prog w s vs κ kz h')
  (h:∀p:Array Nat,p.toList.Perm (List.range vs.length)->p.toList.Pairwise (SP.R kz)->Q (.ref (s.heap.objs.size+1)) {s with heap:=sortedAll s.heap vs (List.toArray (p.toList.map λi=>vs.getD i Value.none))}) :
  wpAny (model prog w) A (call (.builtin "sorted") [.ref l]) Q E s:=by
 refine Q9 kind_sorted plain_sorted entry_sorted (args_sorted1 _) ?_;unfold Builtin.«sorted»;refine Mv (m:=checkCount "sorted" 1 1 _) (ME (Mv (collect_list hl (Mv (Pj ?_)))));have hsz:((s.heap.push (seqObj "list" #[] 0)).update s.heap.objs.size (Obj.mapSeq (·++vs.toArray))).objs.size=s.heap.objs.size+1:=by rw[QP,size_push']
 have hoL:(((s.heap.push (seqObj "list" #[] 0)).update s.heap.objs.size (Obj.mapSeq (·++vs.toArray))).push (seqObj "list" vs.toArray 0)).get? (s.heap.objs.size+1)=some (seqObj "list" vs.toArray 0):=by rw[<- hsz];exact MM _ rfl
 have keep:∀b o,s.heap.get? b=some o->(((s.heap.push (seqObj "list" #[] 0)).update s.heap.objs.size (Obj.mapSeq (·++vs.toArray))).push (seqObj "list" vs.toArray 0)).get? b=some o:=λb o q=>by
  have hlt:b<s.heap.objs.size:=MN q;rw[Heap.get?_push_ne _ _ _ (by rw[hsz];exact M_ (OV hlt)),Heap.get?_update_ne _ _ _ _ (M_ hlt),Heap.get?_push_ne _ _ _ (M_ hlt)]
  exact q
 show wpAny _ _ _ _ _ {s with heap:=((s.heap.push (seqObj "list" #[] 0)).update s.heap.objs.size (Obj.mapSeq (·++vs.toArray))).push (seqObj "list" vs.toArray 0)}
 rw[hsz];refine Mv (N6 (NC slot_list_sort ⟨_,hoL,rfl⟩ entry_list_sort (AS (kz:=kz) (κ:=κ) (s:={s with heap:=((s.heap.push (seqObj "list" #[] 0)).update s.heap.objs.size (Obj.mapSeq (·++vs.toArray))).push (seqObj "list" vs.toArray 0)}) hoL h64 (λh' hk=>?_) λp a1 a2=>⟨_,rfl,?_⟩) (args_list_sort _)))
 ·have:=hq h' λb o e=>hk b o (M_ (OV (MN e))) (keep b o e);exact⟨this.kind,this.lt⟩
 ·exact ME ⟨_,rfl,h p a1 a2⟩
end
def lexLt(x y:Int×Int):Bool:=decide (x.1<y.1\/(x.1=y.1/\x.2<y.2))
def oo{x y:Int×Int}:lexLt x y=true ↔ (x.1<y.1\/(x.1=y.1/\x.2<y.2)):=Qs
def rank(l:List (Int×Int))(x:Int×Int):Nat:=l.countP λy=>lexLt y x
def rk(l:List (Int×Int))(i:Nat):Int:=(rank l (l.getD i (0,0)):Nat)
def uw{l:List (Int×Int)}{p q:Int×Int->Bool}(h:∀z,p z=true->q z=true){x:Int×Int}:x∈l->p x=false->q x=true->l.countP p<l.countP q:=by
 induction l with
 |nil=>intro hx;cases hx
 |cons y l ih =>
  intro hx h1 h2;have hle:l.countP p<=l.countP q:=R6 λz _=>h z;rw[List.countP_cons,List.countP_cons];rcases M0.mp hx with rfl|hx
  ·rw[M4 (by rw[h1];exact ML),MD h2];lia
  ·have:=ih hx h1 h2
   cases hp:p y with
   |true=>rw[MD rfl,MD (h y hp)];lia
   |false=>rw[M4 ML];split<;>lia
def xb{l:List (Int×Int)}{x y:Int×Int}(hx:x∈l)(hy:y∈l):decide (rank l x<rank l y)=lexLt x y:=by
 have irr:∀z,lexLt z z=false:=λz=>MW (by lia)
 cases h:lexLt x y with
 |true =>
  refine Nq (uw (λz hz=>?_) hx (irr x) h);rw[oo] at h hz ⊢;lia
 |false =>
  refine MW (QF.mpr (R6 λz _ hz=>?_));have h':¬ (x.1<y.1\/(x.1=y.1/\x.2<y.2)):=of_decide_eq_false h;rw[oo] at hz ⊢;lia
def zm(h:Heap)(v:Value)(pr:Int×Int):Prop:=∃(a:Addr) (o:Obj) (n:Nat) (t u:Tok),v=.ref a/\h.get? a=some o/\o.cls=.type "tuple"/\o.data=.seq #[.int pr.1 t,.int pr.2 u] n
theorem sP:∀{vs:List Value} {prs:List (Int×Int)},Paired (zm h) vs prs->∃fs,KatTups h vs fs/\fs.length=vs.length/\∀v∈fs,∃i t,v=Value.int i t
 |_,_,.nil=>⟨[],trivial,rfl,λ_ h=>by cases h⟩
 |_,_,.cons r t=>by
  obtain⟨a,o,n,t1,u,rfl,ho,hc,hd⟩:=r;obtain⟨fs,h1,h2,h3⟩:=sP t;refine⟨_::fs,⟨⟨a,o,_,n,rfl,ho,hc,hd,rfl⟩,h1⟩,by simp[h2],λv hv=>?_⟩
  rcases M0.mp hv with rfl|hv
  ·exact⟨_,_,rfl⟩
  ·exact h3 v hv
def zK{vs:List Value}{prs:List (Int×Int)}(hp:Paired (zm h) vs prs){i:Nat}(hi:i<vs.length):zm h (vs.getD i .none) (prs.getD i (0,0))/\prs.getD i (0,0)∈prs:=by
 induction hp generalizing i with
 |nil=>cases hi
 |cons r t ih =>
  cases i with
  |zero=>exact⟨r,MK ..⟩
  |succ i =>
   obtain⟨h1,h2⟩:=ih (i:=i) (by simpa using hi)
   exact⟨h1,MF _ h2⟩
def xK{prog:Program}{s:Shared}{vs:List Value}{prs:List (Int×Int)}(hp:Paired (zm h) vs prs):Gw prog w s vs (tuples' true) (rk prs) h where
 kind:=λA E Q h2 q=>by
  obtain⟨fs,h1,h3,h4⟩:=sP hp;exact kat_kind (s:={s with heap:=h}) (T:=.type "int") h1 (by lia) (λv hv=>by obtain⟨i,t,rfl⟩:=h4 v hv;exact Looks.of_pure rfl) rfl q
 lt:=λA C i j hi hj q=>by
  obtain⟨⟨a,o,n,t,u,ea,ho,hc,hd⟩,mi⟩:=zK hp hi;obtain⟨⟨a',o',n',t',u',ea',ho',hc',hd'⟩,mj⟩:=zK hp hj;have e:=xb mi mj;have e':decide (rk prs i<rk prs j)=lexLt (prs.getD i (0,0)) (prs.getD j (0,0)):=by
   rw[<- e,Og];unfold rk;lia
  rw[e'] at q;clear e e' mi mj;unfold kas_ask;rw[ea,ea'];generalize prs.getD i (0,0)=x at *;generalize prs.getD j (0,0)=y at *;refine kat_lt (s:={s with heap:=h}) ho hd ho' hd' ?_
  show KatLex prog w A true _ C [(.int x.1 t,.int y.1 t'),(.int x.2 u,.int y.2 u')] 0 _;refine kat_cons (QJ ?_)
  cases c1:(x.1 == y.1) with
  |false =>
   refine kat_no ?_;have h1:x.1≠y.1:=Nh.mp c1;have e1:lexLt x y=decide (x.1<y.1):=by unfold lexLt;rw[Og];lia
   rw[e1] at q;exact oneLt_int q
  |true =>
   refine kat_yes (kat_cons (QJ ?_));have h1:x.1=y.1:=eq_of_beq c1;have e1:lexLt x y=decide (x.2<y.2):=by unfold lexLt;rw[Og];lia
   rw[e1] at q
   cases c2:(x.2 == y.2) with
   |false =>
    refine kat_no ?_;show wpAny (model prog w) A (oneLt' false (.int x.2 u) (.int y.2 u')) C _ _;exact kat_one _ _ (lt_int q)
   |true =>
    have h2:x.2=y.2:=eq_of_beq c2;refine kat_yes (kat_nil ?_);rw[MW (by lia)] at q
    exact q
def KR(l:List (Int×Int)):Prop:=l.Pairwise λx y=>lexLt y x=false
def JA{prs:List (Int×Int)}{ix:List Nat}(hp:ix.Perm (List.range prs.length))(hr:ix.Pairwise (SP.R (rk prs))):(ix.map λi=>prs.getD i (0,0)).Perm prs/\KR (ix.map λi=>prs.getD i (0,0)):=by
 have e:(List.range prs.length).map (λi=>prs.getD i (0,0))=prs:=by
  refine O5 λi=>?_;rw[M7];rcases Nt i prs.length with c|c
  ·rw[OF c,Mt c];simp[c]
  ·rw[Nv.mpr c,Nv.mpr (by rw[Nr];exact c)];rfl
 refine⟨?_,O6.mpr (hr.imp_of_mem λ{i j} hi hj h=>?_)⟩
 ·have:=hp.map λi=>prs.getD i (0,0);rw[e] at this;exact this
 ·have mem:∀i∈ix,prs.getD i (0,0)∈prs:=λi hi=>by
   have hl:=Ov.mp (hp.mem_iff.mp hi);rw[M9,Mt hl];exact MQ hl
  rw[<- xb (mem j hj) (mem i hi)];have:=h.le;unfold rk at this;exact MW (by lia)
namespace Y
def K1(H:Hp)(v:V)(p:Int×Int):Prop:=∃q,v=.ref q/\H q=some (.tup [.int p.1,.int p.2])
def IM(K:W.Frag):List V->Hp->VK->Prop:=λxs H Q=>∃p vs prs,xs=[.ref p]/\aT K H p vs/\Paired (K1 H) vs prs/\prs.length<64/\∀ix:List Nat,ix.Perm (List.range prs.length)->KR (ix.map λi=>prs.getD i (0,0))->∀l,H l=none->Q (.ref l) (upd H l (.lst (ix.map λi=>vs.getD i .aN)))
theorem BO{pins:List (Addr×Obj)}{σ:St}(I:Inv X pins σ H s):∀{vs:List V} {its:List Value} {prs:List (Int×Int)},Vals vs its->Paired (K1 H) vs prs->Paired (zm s.heap) its prs
 |_,_,_,.nil,.nil=>.nil
 |_,_,_,.cons r t,.cons r' t'=>by
  refine .cons ?_ (BO I t t');obtain⟨q,rfl,hq⟩:=r';have e:_=Value.ref q:=r;subst e;obtain⟨_,ts,tv,o,e1,c,n,d,_⟩:=(show ba X.prog X.w H s.heap q (.tup _) from I.aH q _ hq);obtain⟨u,w',rfl,⟨t1,rfl⟩,⟨t2,rfl⟩⟩:=vals2 tv;exact⟨q,o,n,t1,t2,rfl,e1,c,d⟩
theorem v_{vs:List V}{its:List Value}(h:Vals vs its):∀ix:List Nat,(∀i∈ix,i<vs.length)->Vals (ix.map λi=>vs.getD i .aN) (ix.map λi=>its.getD i Value.none)
 |[],_=>.nil
 |i::ix,hi=>by
  refine .cons ?_ (v_ h ix λj hj=>hi j (MF _ hj));have hl:=hi i (MK ..);obtain⟨u,e,r⟩:=Vals.get h (Mt hl);show RelV (vs.getD i .aN) (its.getD i Value.none);rw[M9,M9,Mt hl,e];exact r
def uz(K:W.Frag)(hK:X.K=K):aX X (.builtin "sorted") (IM K):=by
 subst hK;intro pins s σ H xs us Q I r h;obtain⟨p,vs,prs,rfl,hq,hp,h64,q⟩:=h;obtain⟨u,rfl,ru⟩:=vals1 r;cases ru;obtain⟨its,rv,pl,hz⟩:=I.list hq;have hpa:=BO I rv hp;have l1:its.length=prs.length:=Paired.length hpa;have l2:vs.length=prs.length:=Paired.length hp;refine t_ (κ:=tuples' true) (kz:=rk prs) pl.isList (by lia) (λh' hk=>xK (Paired.Fq hpa λa b ⟨x,o,n,t,u,e,ho,r⟩=>⟨x,o,n,t,u,e,hk _ _ ho,r⟩)) λpx a1 a2=>?_
 rw[l1] at a1;obtain⟨e,he⟩:=sortedAll_at s.heap its (List.toArray (px.toList.map λi=>its.getD i Value.none));refine⟨.ref (s.heap.objs.size+1),_,I.laid (t':=s.toks) (λb ob q=>sortedAll_old q) (NX _) (show ba X.prog X.w _ _ _ (.lst (px.toList.map λi=>vs.getD i .aN)) from⟨?_,_,e,v_ rv px.toList (λi hi=>by rw[l2];exact Ov.mp (a1.mem_iff.mp hi)),by simpa using he⟩),rfl,q px.toList a1 (JA a1 a2).2 _ (I.aH.fresh (NX _))⟩
 rw[Ms,a1.length_eq,Nr];exact Mz (Oy h64) ⋯
end Y
namespace Z
variable {X:Cx} {tg e l:Expr} {tl:TE}
def allB{p:Pos}(K:W.Frag)(hK:X.K=K)(hc:X.calm=true)(hg:Gl X "all")(hm:X.mg "all"=none)(ha:QA X [e] t)(h1:autoParam (fF e=true) ℜ0):QE X (.Call (.Name "all" p) [e] [] pos) (yT (Y.KD K) t):=Z.cb (Y.yK K hK hc) hg hm ∅ ha (h1:=h1)
end Z
open Builtin Builtin.Str
open PySem PySem.Spec PyProof PyProof.Rows
open Builtin Builtin.Str
open PySem PySem.Spec PyProof PyProof.Rows
open PySem PySem.Spec PyProof PyProof.Rows PySem.W
open PySem PySem.Calls PySem.NumText PySem.Spec PyProof PyProof.Rows
variable{i k:Nat}{h h':Heap}{xs:Array Value}{β:Type}{s:Shared}{Q:Value->Shared->Prop}{w:World}{es ifs:List Expr}{a:Addr}{σ:St}{H:Hp}{ta:TA}{p pos:Pos}{X:Cx}{sp:Sp}{e iter tg:Expr}{osc scope:Scope}{N ON own:List Str}
abbrev Src:=Bool×Addr×Addr
variable{l:List Src}
abbrev gU(h:Heap)(T:Addr)(xs:List Value):Prop:=h.get? T=some {cls:=.type "tuple",data:=.seq xs.toArray}
structure Zn (z TI TO:Addr) (S:List Src):Prop where
 zt:TI≠z/\TO≠z/\TI≠TO
 it:∀q∈S,q.2.1≠z/\q.2.1≠TI/\q.2.1≠TO
 sr:∀q∈S,q.2.2≠z/\q.2.2≠TO/\∀p∈S,q.2.2≠p.2.1
 nd:(S.map λq=>q.2.1).Nodup
def vW(i:Nat)(h:Heap)(q:Src):Prop:=nE q.1 h q.2.1 q.2.2 i
def Jh(h:Heap)(q:Src)(xs:Array Value):Prop:=cq q.1 h q.2.2 xs
def vW.kp{q:Src}(x:vW i h q)(k:∀o,h.get? q.2.1=some o->h'.get? q.2.1=some o):vW i h' q:=by
 obtain⟨b,it,a⟩:=q
 cases b with
 |true=>obtain⟨o,e,r⟩:=(show h.IsListIter it a i from x);exact⟨o,k o e,r⟩
 |false=>obtain⟨o,e,r⟩:=(show h.IsTupleIter it a i from x);exact⟨o,k o e,r⟩
def Jh.kp{q:Src}(x:Jh h q xs)(k:∀o,h.get? q.2.2=some o->h'.get? q.2.2=some o):Jh h' q xs:=by
 obtain⟨b,it,a⟩:=q
 cases b with
 |true=>obtain⟨o,e,r⟩:=(show h.IsList a xs from x);exact⟨o,k o e,r⟩
 |false=>obtain⟨o,e,r⟩:=(show h.IsTuple a xs from x);exact⟨o,k o e,r⟩
def we(i:Nat)(h:Heap)(q:Src)(u:Value):Prop:=vW i h q/\∃xs,Jh h q xs/\xs[i]?=some u
def we.kp{q:Src}{u:Value}(x:we i h q u)(k:∀c o,c=q.2.1\/c=q.2.2->h.get? c=some o->h'.get? c=some o):we i h' q u:=⟨x.1.kp λo=>k _ o (.inl rfl),let ⟨xs,a,b⟩:=x.2;⟨xs,a.kp λo=>k _ o (.inr rfl),b⟩⟩
section
variable {prog:Program} {w:World} {A:Around} {E:Value->Shared->Prop} {z TI TO:Addr} {S:List Src} {i:Nat}
def Step(prog:Program)(w:World)(A:Around)(E:Value->Shared->Prop)(z TI TO:Addr)(S:List Src)(i:Nat)(f:Value×Nat->β->Sem (ForInStep β))(b:β):Prop:=
 ∀q∈S,∀(j:Nat) (arr:List Value) (u:Value) (s:Shared) (Q:ForInStep β->Shared->Prop),IsZip s.heap z TI TO .ellipsis->gU s.heap TO arr->arr.length<=3->we i s.heap q u ->
  (∀h' tk,gU h' TO (arr.set j u)->vW (i+1) h' q->(∀c o,c≠TO->c≠q.2.1->s.heap.get? c=some o->h'.get? c=some o)->h'.objs.size=s.heap.objs.size->Q (.yield b) {s with heap:=h',toks:=tk})->wpAny (model prog w) A (f (.ref q.2.1,j) b) Q E s
def Fv(D:Zn z TI TO S){f:Value×Nat->β->Sem (ForInStep β)}{b:β}(hf:Step prog w A E z TI TO S i f b){Q:β->Shared->Prop}:
  ∀(a:List Src) (us pre old:List Value) (s:Shared),(∀q∈a++l,q∈S)->((a++l).map λq=>q.2.1).Nodup->IsZip s.heap z TI TO .ellipsis->gU s.heap TO (pre++old)->(pre++old).length<=3->a.length<=old.length->Paired (we i s.heap) a us ->
  (∀h' tk old',IsZip h' z TI TO .ellipsis->gU h' TO (pre++us++old')->a.length+old'.length=old.length->(∀q∈a,vW (i+1) h' q)->(∀c o,c≠TO->(∀q∈a,c≠q.2.1)->s.heap.get? c=some o->h'.get? c=some o)->h'.objs.size=s.heap.objs.size->wpAny (model prog w) A (forIn ((l.map λq=>Value.ref q.2.1).zipIdx (pre++us).length) b f) Q E {s with heap:=h',toks:=tk}) ->
  wpAny (model prog w) A (forIn (((a++l).map λq=>Value.ref q.2.1).zipIdx pre.length) b f) Q E s:=by
 intro a
 induction a with
 |nil =>
  intro us pre old s _ _ hz ht _ _ dr k;obtain rfl:=Paired.Bm dr;have:=k s.heap s.toks old hz (by rw[Nm];exact ht) (OC _) (λq hq=>nomatch hq) (λc o _ _ h=>h) rfl
  rw[Nm] at this;exact this
 |cons q a ih =>
  intro us pre old s hm nd hz ht hn hl dr k;obtain⟨u,us,rfl,du,dr⟩:=Paired.iI dr
  cases old with
  |nil=>exact absurd hl (Nat.not_succ_le_zero _)
  |cons o old =>
   rw[NL,Nb,N9] at nd;have hq:=hm q MK;rw[NL,Nb,List.zipIdx_cons,Pm];refine Mv (hf q hq pre.length _ u s _ hz ht hn du λh1 tk t1 a1 kp sz=>?_);rw[R7 _ _ (M8 _),NN,List.set_cons_zero,<- R8,<- MX] at t1;have di:=D.it q hq;have ne:∀x∈a++l,x.2.1≠q.2.1:=λx hx e=>nd.1 (by rw[<- e];exact OH (f:=λq:Src=>q.2.1) hx)
   have ea:pre++[u]++us=pre++u::us:=by rw[MX];rfl
   show wpAny _ _ (forIn _ b f) _ _ _;rw[show pre.length+1=(pre++[u]).length by rw[Mx];rfl]
   refine ih us (pre++[u]) old {s with heap:=h1,toks:=tk} (λp hp=>hm p (MF _ hp)) nd.2 (kp _ _ D.zt.2.1.symm di.1.symm hz) t1 (by rw[MX,Mx] at *;exact hn) (Nat.le_of_succ_le_succ hl) ?_ λh2 tk2 old' z2 t2 l2 a2 kp2 sz2=>?_
   ·have key:∀{l':List Src} {vs:List Value},(∀x∈l',x∈a)->Paired (we i s.heap) l' vs->Paired (we i h1) l' vs:=λ{l'}=>by
     induction l' with
     |nil=>intro vs _ h;obtain rfl:=Paired.Bm h;exact .nil
     |cons p l' ihl =>
      intro vs hp h;obtain⟨v,vs,rfl,dv,h⟩:=Paired.iI h;have hpa:=N7 l (hp p MK);have hpS:=hm p (MF _ hpa);refine .cons (dv.kp λc o hc e=>?_) (ihl (λx hx=>hp x (MF _ hx)) h);rcases hc with rfl|rfl
      ·exact kp _ _ (D.it p hpS).2.2 (ne p hpa) e
      ·exact kp _ _ (D.sr p hpS).2.1 ((D.sr p hpS).2.2 q hq) e
    exact key (λx h=>h) dr
   ·rw[ea] at t2 ⊢;refine k h2 tk2 old' z2 t2 (by simp only[MJ];lia) (λp hp=>?_) (λc o c1 c2 e=>kp2 c o c1 (λp hp=>c2 p (MF _ hp)) (kp c o c1 (c2 q MK) e)) (sz2.trans sz)
    rcases M0.mp hp with rfl|hp
    ·exact a1.kp λo e=>kp2 _ o di.2.2 (λx hx=>(ne x (N7 l hx)).symm) e
    ·exact a2 p hp
def Lk(prog:Program)(w:World)(A:Around)(E:Value->Shared->Prop)(z TI TO:Addr)(S:List Src)(i:Nat)(f:Value×Nat->β->Sem (ForInStep β))(b:β):Prop:=
 ∀q∈S,∀(j:Nat) (s:Shared) (Q:ForInStep β->Shared->Prop),IsZip s.heap z TI TO .ellipsis->vW i s.heap q->(∃xs:Array Value,Jh s.heap q xs/\xs.size=i) ->
  (∀h' e tk,(∀c o,c≠z->c≠q.2.1->s.heap.get? c=some o->h'.get? c=some o)->(∃o,h'.get? e=some o/\o.cls=.type "StopIteration")->E (.ref e) {s with heap:=h',toks:=tk})->wpAny (model prog w) A (f (.ref q.2.1,j) b) Q E s
def DX(D:Zn z TI TO S){f:Value×Nat->β->Sem (ForInStep β)}{b:β}(hf:Step prog w A E z TI TO S i f b)(he:Lk prog w A E z TI TO S i f b){old:List Value}{Q:β->Shared->Prop}(hz:IsZip s.heap z TI TO .ellipsis)(ht:gU s.heap TO old)(hn:old.length<=3)(hl:old.length=S.length)
  (hh:(∃us,Paired (we i s.heap) S us/\∀h' tk,IsZip h' z TI TO .ellipsis->gU h' TO us->(∀q∈S,vW (i+1) h' q)->(∀c o,c≠TO->(∀q∈S,c≠q.2.1)->s.heap.get? c=some o->h'.get? c=some o)->h'.objs.size=s.heap.objs.size->Q b {s with heap:=h',toks:=tk}) \/
   ∃a q r us,S=a++q::r/\Paired (we i s.heap) a us/\vW i s.heap q/\(∃xs:Array Value,Jh s.heap q xs/\xs.size=i)/\∀h' e tk,(∀c o,c≠z->c≠TO->(∀q∈S,c≠q.2.1)->s.heap.get? c=some o->h'.get? c=some o)->(∃o,h'.get? e=some o/\o.cls=.type "StopIteration")->E (.ref e) {s with heap:=h',toks:=tk}) :
  wpAny (model prog w) A (forIn ((S.map λq=>Value.ref q.2.1).zipIdx) b f) Q E s:=by
 rcases hh with ⟨us,dr,k⟩|⟨a,q,r,us,rfl,dr,hi,hx,k⟩
 ·rw[<- Nm S];refine Fv D hf (l:=[]) S us [] old s (by simp) (by simpa using D.nd) hz ht hn (RJ hl.symm) dr λh' tk old' z2 t2 l2 a2 kp sz=>?_
  obtain rfl:old'=[]:=NZ.mp (by lia)
  rw[Nm] at t2;exact ME (k h' tk z2 t2 a2 kp sz)
 ·refine Fv D hf (l:=q::r) a us [] old s (λq h=>h) D.nd hz ht hn (by rw[show old.length=_ from hl,Mx];lia) dr λh' tk old' z2 t2 _ a2 kp sz=>?_
  have hq:q∈a++q::r:=MZ _ MK;have nq:∀x∈a,q.2.1≠x.2.1:=λx hx e=>by
   have:=D.nd;rw[MI,Nb] at this;exact (List.nodup_append.mp this).2.2 _ (OH (f:=λq:Src=>q.2.1) hx) _ MK e.symm
  obtain⟨xs,x1,x2⟩:=hx;rw[Nb,List.zipIdx_cons,Pm];exact Mv (he q hq _ _ _ z2 (hi.kp λo e=>kp _ o (D.it q hq).2.2 nq e) ⟨xs,x1.kp λo e=>kp _ o (D.sr q hq).2.1 (λx hx=>(D.sr q hq).2.2 x (N7 _ hx)) e,x2⟩ λh2 e tk2 kp2 ho=>k h2 e tk2 (λc o c1 c2 c3 y=>kp2 c o c1 (c3 q hq) (kp c o c2 (λx hx=>c3 x (N7 _ hx)) y)) ho)
def Ks{T:Addr}{xs:List Value}{x:Value}{Q:Unit->Shared->Prop}(hT:gU s.heap T xs)(hn:xs.length<=3)
  (h:∀h',gU h' T (xs.set k x)->Heap.SameBut T s.heap h'->Q () {s with heap:=h'}) :
  wpAny (model prog w) A (updateSeq T (·.setIfInBounds k x)) Q E s:=by
 refine wpAny_updateSeq (hz:=by rw[MC];exact Mz hn ⋯) (_hz':=by rw[Array.size_setIfInBounds,MC];exact Mz hn ⋯) hT rfl (h _ ?_ (NS ..))
 show Heap.get? _ _=_;rw[OY _ hT rfl];simp[Obj.mapSeq]
def i_{α:Type}{P:α->β->Prop}{l:List α}{vs:List β}(h:Paired P l vs):vs.length=l.length:=by
 induction h with
 |nil=>rfl
 |cons _ _ ih=>exact Nw (·+1) ih
def vH{g:Heap}{vs:List Value}(k:∀q∈l,∀c o,c=q.2.1\/c=q.2.2->h.get? c=some o->g.get? c=some o)(r:Paired (we i h) l vs):Paired (we i g) l vs:=by
 induction r with
 |nil=>exact .nil
 |cons d _ ih=>exact .cons (d.kp (k _ MK)) (ih λq hq=>k q (MF _ hq))
def Ju{old:List Value}(D:Zn z TI TO S)(hS:S≠[])(hA:A.handled=none)(hz:IsZip s.heap z TI TO .none)(hTI:gU s.heap TI (S.map λq=>.ref q.2.1))(hTO:gU s.heap TO old)(hl:old.length=S.length)(hn:S.length<=3)
  (hh:(∃us,Paired (we i s.heap) S us/\∀h' tk,IsZip h' z TI TO (rawInt s.heap.objs.size)->gU h' TO us->(∀q∈S,vW (i+1) h' q)->gU h' s.heap.objs.size us->(∀c o,c≠z->c≠TO->(∀q∈S,c≠q.2.1)->s.heap.get? c=some o->h'.get? c=some o)->Q (.ref s.heap.objs.size) {s with heap:=h',toks:=tk}) \/
   ∃a q r us,S=a++q::r/\Paired (we i s.heap) a us/\vW i s.heap q/\(∃xs:Array Value,Jh s.heap q xs/\xs.size=i)/\∀h' e tk,(∀c o,c≠z->c≠TO->(∀q∈S,c≠q.2.1)->s.heap.get? c=some o->h'.get? c=some o)->(∃o,h'.get? e=some o/\o.cls=.type "StopIteration")->E (.ref e) {s with heap:=h',toks:=tk}) :
  wpAny (model prog w) A (Builtin.«zip.__next__» ⟨[.ref z],[]⟩) (λfin s'=>∃v,fin=.done (.ret v)/\Q v s') E s:=by
 obtain⟨q0,S',rfl⟩:=List.exists_cons_of_ne_nil hS;have zrec:=hz;show wpAny _ _ (field (.ref z) 2 >>= _) _ _ _;refine Mv (OT zrec rfl (x:=.bool false) rfl ?_);show wpAny _ _ (field (.ref z) 3 >>= _) _ _ _;refine Mv (OT zrec rfl (x:=.ref TI) rfl ?_);refine Mv (O_ hTI rfl ?_);show wpAny _ _ (Builtin.SmallTypes.ownedTupleIsFree (.ref z) >>= _) _ _ _;refine Mv ?_;unfold Builtin.SmallTypes.ownedTupleIsFree;refine Mv (OT zrec rfl (x:=.none) rfl (ME ?_));simp only[OZ];refine Mv (Q8 ?_);refine Mv (OT zrec rfl (x:=.ref TO) rfl ?_);refine Mv (Pw zrec (by simp) λg1 zr1 sb1=>?_)
 replace zr1:IsZip g1 z TI TO .ellipsis:=zr1
 refine Mv ?_;have old3:∀q∈q0::S',∀c o,c=q.2.1\/c=q.2.2->s.heap.get? c=some o->g1.get? c=some o:=λq hq c o hc e=>by
  rcases hc with rfl|rfl
  ·exact sb1.extBut _ _ (D.it q hq).1 e
  ·exact sb1.extBut _ _ (D.sr q hq).1 e
 refine DX D (i:=i) ?hf ?he (old:=old) zr1 (sb1.extBut _ _ D.zt.2.1 hTO) (by lia) hl (hh.imp (λ⟨us,dr,hQ⟩=>⟨us,vH old3 dr,?k⟩) λ⟨a,q,r,us,eS,dr,hi,hx,hE⟩=>⟨a,q,r,us,eS,vH (λp hp=>old3 p (by rw[eS];exact N7 _ hp)) dr,hi.kp λo=>old3 q (by rw[eS];exact MZ _ MK) _ o (.inl rfl),(let ⟨xs,x1,x2⟩:=hx;⟨xs,x1.kp λo=>old3 q (by rw[eS];exact MZ _ MK) _ o (.inr rfl),x2⟩),λh' e tk kp ho=>hE h' e tk (λc o c1 c2 c3 x=>kp c o c1 c2 c3 (sb1.extBut _ _ c1 x)) ho⟩)
 case hf =>
  intro q hq j arr u s1 Q1 hz1 ht1 hn1 d1 k1;obtain⟨hi,xs,hx,hu⟩:=d1;refine Mv (wpAny_onRaise ?_);show wpAny _ _ (Builtin.SmallTypes.nextOf (.ref q.2.1) >>= _) _ _ _;have lt:i<xs.size:=(Oe.mp hu).1;refine Mv ((xx q.1 hA q.2.1 q.2.2 ((D.sr q hq).2.2 q hq) xs).item i _ _ _ lt ⟨hi,hx⟩ λx g2 tk2 px st2 sb2=>ME ?_);have ex:x=u:=by rw[hu] at px;exact (Option.some.inj px).symm
  subst ex;have to2:gU g2 TO arr:=sb2.extBut _ _ (D.it q hq).2.2.symm ht1;refine Mv (O_ to2 rfl ?_);refine Mv (Ks to2 hn1 λg3 to3 sb3=>?_);refine Mv (wpAny_letGo (ME ?_));exact k1 g3 _ to3 (vW.kp (q:=q) st2.1 λo e=>sb3.extBut _ _ (D.it q hq).2.2 e) (λc o c1 c2 e=>sb3.extBut _ _ c1 (sb2.extBut _ _ c2 e)) (by rw[sb3.1,sb2.1])
 case he =>
  intro p hp j s1 Q1 hz1 hi1 hx1 k1;obtain⟨xs,hx1,hsz⟩:=hx1;refine Mv (wpAny_onRaise ?_);show wpAny _ _ (Builtin.SmallTypes.nextOf (.ref p.2.1) >>= _) _ _ _;subst hsz;refine Mv ((xx p.1 hA p.2.1 p.2.2 ((D.sr p hp).2.2 p hp) xs).done _ _ _ ⟨hi1,hx1⟩ λg2 e sb2 he=>?_);obtain⟨oe,hoe,hce⟩:=he;have zr2:IsZip g2 z TI TO .ellipsis:=sb2 _ _ (D.it p hp).1.symm hz1;have nez:e≠z:=λq=>by subst q;rw[zr2] at hoe;cases hoe;simp at hce
  exact Pw zr2 (by simp) λg3 _ sb3=>k1 g3 e _ (λc o e1 e3 q=>sb3.extBut _ _ e1 (sb2 _ _ e3 q)) ⟨oe,sb3.extBut _ _ nez hoe,hce⟩
 case k =>
  intro g2 tk z2 t2 a2 kp2 sz2;have hu3:us.length<=3:=by rw[i_ dr];exact hn
  replace t2:gU g2 TO us:=t2
  show wpAny _ _ (seqItems? (.ref TO) >>= _) _ _ _;refine Mv (O_ t2 rfl ?_);refine Mv (R5 ?_ (Mz hu3 ⋯))
  have size2:g2.objs.size=s.heap.objs.size:=sz2.trans sb1.1;have zlt:z<g2.objs.size:=MN z2;show wpAny _ _ (Builtin.SmallTypes.ownedTupleHandOut (.ref z) (.ref g2.objs.size) >>= _) _ _ _;refine Mv ?_;unfold Builtin.SmallTypes.ownedTupleHandOut;have zr6:IsZip (g2.push {cls:=.type "tuple",data:=.seq us.toArray}) z TI TO .ellipsis:=My _ z2;refine Mv (Pw zr6 (by simp) λg8 zr8 sb8=>?_)
  replace zr8:IsZip g8 z TI TO (rawInt g2.objs.size):=zr8
  refine Pw zr8 (by simp) λg9 zr9 sb9=>?_
  replace zr9:IsZip g9 z TI TO (rawInt g2.objs.size):=zr9
  have up:∀c o,c≠z->g2.get? c=some o->g9.get? c=some o:=λc o e1 q=>sb9.extBut _ _ e1 (sb8.extBut _ _ e1 (My _ q));have pr8:gU g9 g2.objs.size us:=sb9.extBut _ _ (Oc zlt) (sb8.extBut _ _ (Oc zlt) (MM _ rfl));rw[size2] at zr9 pr8;refine ME ⟨_,rfl,?_⟩;show Q (.ref g2.objs.size) _;rw[size2];exact hQ g9 _ zr9 (up _ _ D.zt.2.1 t2) (λq hq=>(a2 q hq).kp λo e=>up _ o (D.it q hq).1 e) pr8 λc o e1 e2 e3 q=>up c o e1 (kp2 c o e2 e3 (sb1.extBut _ _ e1 q))
end
def E3(K:W.Frag)(S:List Src):It:=
  ⟨λi H=>∃vs,Paired (λ(q:Src) v=>∃xs,jw K q.1 H q.2.2 xs/\xs[i]?=some v) S vs,
   λi H v H'=>∃p vs,Paired (λ(q:Src) x=>∀xs,jw K q.1 H q.2.2 xs->xs[i]?=some x) S vs/\H p=none/\v=.ref p/\H'=upd H p (.tup vs),
   λi H=>∃a q r vs,S=a++q::r/\Paired (λ(q:Src) v=>∃xs,jw K q.1 H q.2.2 xs/\xs[i]?=some v) a vs/\∃xs,jw K q.1 H q.2.2 xs/\xs.length=i⟩
section
variable {X:Cx} {pins:List (Addr×Obj)} {σ:St} {H:Hp} {s:Shared} {i:Nat}
def AB(I:Inv X pins σ H s){vs:List V}(hi:∀q∈l,vW i s.heap q)(h:Paired (λ(q:Src) v=>∃xs,jw X.K q.1 H q.2.2 xs/\xs[i]?=some v) l vs):∃us,Paired (we i s.heap) l us/\Vals vs us/\Paired (λ(q:Src) x=>∀xs,jw X.K q.1 H q.2.2 xs->xs[i]?=some x) l vs:=by
 induction h with
 |nil=>exact⟨[],.nil,.nil,.nil⟩
 |cons d r ih =>
  obtain⟨us,h1,h2,h3⟩:=ih λp hp=>hi p (MF _ hp);obtain⟨xs,hx,ex⟩:=d;obtain⟨its,rv,p1⟩:=I.rX hx;obtain⟨u,hu,ru⟩:=rv.get ex;exact⟨u::us,.cons ⟨hi _ MK,its.toArray,p1,by rw[N4];exact hu⟩ h1,.cons ru h2,.cons (λys hy=>by rw[I.AR hy hx];exact ex) h3⟩
end
def yv{P:Program}{K:W.Frag}{tk:Nat}{tp:Pos}(S:List Src)(z TI TO:Addr)(D:Zn z TI TO S)(hS:S≠[])(hn:S.length<=3):
  Turn P w K (.Tuple es tk tp) (E3 K S) (z::TI::TO::S.map λq=>q.2.1) z (λi h=>IsZip h z TI TO .none/\gU h TI (S.map λq=>.ref q.2.1)/\(∃old,gU h TO old/\old.length=S.length)/\∀q∈S,vW i h q) where
 mem:=MK
 obj:=λi h st c hc=>by
  obtain⟨s1,s2,⟨old,s3,_⟩,s4⟩:=st;rcases M0.mp hc with rfl|hc
  ·exact⟨_,s1,λv q=>by cases q⟩
  rcases M0.mp hc with rfl|hc
  ·exact⟨_,s2,λv q=>by cases q⟩
  rcases M0.mp hc with rfl|hc
  ·exact⟨_,s3,λv q=>by cases q⟩
  obtain⟨q,hq,rfl⟩:=Nc.mp hc;obtain⟨o,e,_,d⟩:=nE.ty (s4 q hq);exact⟨o,e,λv q=>by rw[d] at q;cases q⟩
 keep:=λi h h' st k=>by
  obtain⟨s1,s2,⟨old,s3,s3'⟩,s4⟩:=st;exact⟨k z (by simp) _ s1,k TI (by simp) _ s2,⟨old,k TO (by simp) _ s3,s3'⟩,λq hq=>(s4 q hq).kp (k _ (MF _ (MF _ (MF _ (OH (f:=λq:Src=>q.2.1) hq)))))⟩
 item:=by
  intro X hP hw hK hc i pins s σ H E I hf st hg;subst hP hw hK;obtain⟨vs,hg⟩:=hg;obtain⟨s1,s2,⟨old,s3,s3'⟩,s4⟩:=st;obtain⟨us,h1,h2,h3⟩:=AB I s4 hg;have hT:s.TypeIs (.ref z) "zip":=⟨_,s1,rfl⟩;unfold pyNext;refine Mv (PC (N5 (name:=Str.ofString "__next__") hT PySem.F.slot_zip_next (NC PySem.F.slot_zip_next hT PySem.F.entry_zip_next
   (Ju D hS (I.ok.hd hc) s1 s2 s3 s3' hn (.inl ⟨us,h1,λh' tk' z1 t1 a1 pr kp=>ME ?_⟩)) (PySem.F.args_zip_next_1 _))))
  have fr:H s.heap.objs.size=none:=I.aH.fresh (M8 _);have lt:∀{c o},s.heap.get? c=some o->s.heap.objs.size≠c:=λe=>Oc (MN e);refine⟨.ref s.heap.objs.size,rfl,wpAny_letOwnedTupleGo_zip z1 λh2' z2 sb2=>?_⟩;have pr2:gU h2' s.heap.objs.size us:=sb2.extBut _ _ (lt s1) pr;have hvl:vs.length<=3:=by rw[i_ hg];exact hn
  have I2:Inv X pins σ (upd H s.heap.objs.size (.tup vs)) {s with heap:=h2',toks:=tk'}:=by
   refine I.qh (fp:=z::TI::TO::S.map λq=>q.2.1) hf (M8 _) (λc o hcm ec=>?_) ⟨Mz hvl ⋯,us,h2,⟨_,pr2,rfl,_,rfl,rfl⟩⟩
   simp only[M0,OR] at hcm;exact sb2.extBut _ _ hcm.1 (kp c o hcm.1 hcm.2.2.1 (λq hq e=>hcm.2.2.2 (by rw[e];exact OH (f:=λq:Src=>q.2.1) hq)) ec)
  refine⟨.ref s.heap.objs.size,_,I2,rfl,⟨s.heap.objs.size,vs,h3,fr,rfl,rfl⟩,⟨z2,?_,⟨us,?_,?_⟩,λq hq=>?_⟩,λc hcm=>?_⟩
  ·exact sb2.extBut _ _ D.zt.1 (kp _ _ D.zt.1 D.zt.2.2 (λq hq=>(D.it q hq).2.1.symm) s2)
  ·exact sb2.extBut _ _ D.zt.2.1 t1
  ·exact i_ h1
  ·exact (a1 q hq).kp λo e=>sb2.extBut _ _ (D.it q hq).1 e
  ·have hn:=(hf c hcm).1;rw[af]
   ·exact hn
   ·rcases M0.mp hcm with rfl|hcm
    ·exact (lt s1).symm
    rcases M0.mp hcm with rfl|hcm
    ·exact (lt s2).symm
    rcases M0.mp hcm with rfl|hcm
    ·exact (lt s3).symm
    obtain⟨q,hq,rfl⟩:=Nc.mp hcm;obtain⟨o,e,_⟩:=nE.ty (s4 q hq);exact (lt e).symm
 done:=by
  intro X hP hw hK hc i pins s σ H E I hf st hg;subst hP hw hK;obtain⟨a,q,r,vs,eS,hg,xs,hx,hi⟩:=hg;obtain⟨s1,s2,⟨old,s3,s3'⟩,s4⟩:=st;obtain⟨us,h1,_,_⟩:=AB I (λp hp=>s4 p (by rw[eS];exact N7 _ hp)) hg
  obtain⟨its,rv,p1⟩:=I.rX hx;have hT:s.TypeIs (.ref z) "zip":=⟨_,s1,rfl⟩;unfold pyNext;refine Mv (PC (N5 (name:=Str.ofString "__next__") hT PySem.F.slot_zip_next (NC PySem.F.slot_zip_next hT PySem.F.entry_zip_next
   (Ju D hS (I.ok.hd hc) s1 s2 s3 s3' hn (.inr ⟨a,q,r,us,eS,h1,s4 q (by rw[eS];exact MZ _ MK),⟨its.toArray,p1,by rw[MC,<- rv.length,hi]⟩,λh' e tk' kp he=>?_⟩)) (PySem.F.args_zip_next_1 _))))
  obtain⟨o,ho,hcl⟩:=he;refine Mv (wpAny_isInstance (T:="StopIteration") (b:=true) ⟨o,ho,hcl⟩ isSubtype_stop (ME ⟨rfl,?_⟩));refine I.turns (t':=tk') hf λc o hcm ec=>?_;simp only[M0,OR] at hcm;exact kp c o hcm.1 hcm.2.2.1 (λq hq e=>hcm.2.2.2 (by rw[e];exact OH (f:=λq:Src=>q.2.1) hq)) ec
 self:=λA i s Q E st h=>wpAny_pyIter_zip st.1 h
def cq.push{k:Bool}(x:cq k h a xs)(o:Obj):cq k (h.push o) a xs:=by
 cases k with
 |true=>exact Heap.IsList.push x _
 |false=>exact CB x _
def mU{prog:Program}{A:Around}{E:Value->Shared->Prop}{k:Bool}{l:Addr}{items:Array Value}(hl:cq k s.heap l items)
  (hQ:Q (.ref s.heap.objs.size) {s with heap:=s.heap.push {cls:=.type (xT k),data:=.fields #[.ref l,.int 0 0]}}):wpAny (model prog w) A (pyIter (.ref l)) Q E s:=by
 cases k with
 |true=>exact OW hl hQ
 |false=>exact OP hl hQ
def gP(h:Heap):List (Bool×Addr)->Heap
 |[]=>h
 |p::l=>gP (h.push {cls:=.type (xT p.1),data:=.fields #[.ref p.2,.int 0 0]}) l
def fT(n:Nat):List (Bool×Addr)->List Src
 |[]=>[]
 |p::l=>(p.1,n,p.2)::fT (n+1) l
abbrev Jl(h:Heap)(l:List (Bool×Addr)):Heap:=(gP h l).push {cls:=.type "tuple",data:=.seq ((fT h.objs.size l).map λq=>Value.ref q.2.1).toArray}
abbrev CW(h:Heap)(l:List (Bool×Addr)):Heap:=(Jl h l).push {cls:=.type "tuple",data:=.seq ((fT h.objs.size l).map λ_=>Value.none).toArray}
abbrev AI(h:Heap)(l:List (Bool×Addr)):Heap:=(CW h l).push {cls:=.type "zip",data:=.fields #[.none,.bool false,.bool false,.ref (gP h l).objs.size,.ref (Jl h l).objs.size]}
theorem lY:∀(l:List (Bool×Addr)) (h:Heap),(gP h l).objs.size=h.objs.size+l.length
 |[],_=>rfl
 |p::l,h=>by rw[gP,lY l,NG,MJ];lia
theorem jC:∀(l:List (Bool×Addr)) {h:Heap} {c:Addr} {o:Obj},h.get? c=some o->(gP h l).get? c=some o
 |[],_,_,_,e=>e
 |p::l,_,_,_,e=>jC l (My _ e)
def Dt(l:List (Bool×Addr)):∀{h:Heap} (q:Src),q∈fT h.objs.size l->(gP h l).get? q.2.1=some {cls:=.type (xT q.1),data:=.fields #[.ref q.2.2,.int 0 0]}:=by
 induction l with
 |nil=>intro h q hq;cases hq
 |cons p l ih =>
  intro h q hq;rcases M0.mp hq with rfl|hq
  ·exact jC l (MM _ rfl)
  ·exact ih q (by rw[NG];exact hq)
theorem nv:∀(l:List (Bool×Addr)) (n:Nat),(fT n l).length=l.length
 |[],_=>rfl
 |_::l,n=>Nw (·+1) (nv l (n+1))
def vU(l:List (Bool×Addr)):∀(n:Nat) (q:Src),q∈fT n l->n<=q.2.1/\q.2.1<n+l.length/\(q.1,q.2.2)∈l:=by
 induction l with
 |nil=>intro n q hq;cases hq
 |cons p l ih =>
  intro n q hq;rcases M0.mp hq with rfl|hq
  ·exact⟨M8 _,by rw[MJ];show n<_;lia,MK⟩
  ·obtain⟨h1,h2,h3⟩:=ih (n+1) q hq;exact⟨by lia,by rw[MJ];lia,MF _ h3⟩
theorem wJ:∀(l:List (Bool×Addr)) (n:Nat),((fT n l).map λq=>q.2.1).Nodup
 |[],_=>List.nodup_nil
 |p::l,n=>by
  show (n::(fT (n+1) l).map λq=>q.2.1).Nodup;refine N9.mpr ⟨λh=>?_,wJ l (n+1)⟩;obtain⟨q,hq,e⟩:=Nc.mp h;have:=(vU l (n+1) q hq).1;rw[e] at this;lia
def yL(p q:Bool×Addr)(xs ys:Array Value):Meets (Builtin.«zip.__new__» ⟨[.type "zip",.ref p.2,.ref q.2],[]⟩) (λ_ R s=>cq p.1 s.heap p.2 xs/\cq q.1 s.heap q.2 ys/\R (.ok (.ret (.ref (CW s.heap [p,q]).objs.size))) {s with heap:=AI s.heap [p,q]}):=
 .of_wp λprog w A R s h=>by
  obtain⟨hp,g,d,tk,os⟩:=s;obtain⟨q1,q2,h⟩:=h;have hsub:=sub_zip;have w1:cq p.1 (Shared.heap ⟨hp,g,d,tk,os⟩) p.2 xs:=q1;have w2:cq q.1 (Shared.heap ⟨hp.push {cls:=.type (xT p.1),data:=.fields #[.ref p.2,.int 0 0]},g,d,tk,os⟩) q.2 ys:=cq.push q2 _;wp_walk using mU w1,mU w2;refine⟨_,rfl,?_⟩;have e1:(hp.push {cls:=.type (xT p.1),data:=.fields #[.ref p.2,.int 0 0]}).objs.size=hp.objs.size+1:=NG ..;have h':=h;simp only[AI,CW,Jl,gP,fT,Nb,Oz,<- e1] at h';exact h'
def xR(p q r:Bool×Addr)(xs ys zs:Array Value):Meets (Builtin.«zip.__new__» ⟨[.type "zip",.ref p.2,.ref q.2,.ref r.2],[]⟩) (λ_ R s=>cq p.1 s.heap p.2 xs/\cq q.1 s.heap q.2 ys/\cq r.1 s.heap r.2 zs/\R (.ok (.ret (.ref (CW s.heap [p,q,r]).objs.size))) {s with heap:=AI s.heap [p,q,r]}):=
 .of_wp λprog w A R s h=>by
  obtain⟨hp,g,d,tk,os⟩:=s;obtain⟨q1,q2,q3,h⟩:=h;have hsub:=sub_zip;have w1:cq p.1 (Shared.heap ⟨hp,g,d,tk,os⟩) p.2 xs:=q1;have w2:cq q.1 (Shared.heap ⟨hp.push {cls:=.type (xT p.1),data:=.fields #[.ref p.2,.int 0 0]},g,d,tk,os⟩) q.2 ys:=cq.push q2 _;have w3:cq r.1 (Shared.heap ⟨(hp.push {cls:=.type (xT p.1),data:=.fields #[.ref p.2,.int 0 0]}).push {cls:=.type (xT q.1),data:=.fields #[.ref q.2,.int 0 0]},g,d,tk,os⟩) r.2 zs:=cq.push (cq.push q3 _) _;wp_walk using mU w1,mU w2,mU w3;refine⟨_,rfl,?_⟩;have e1:(hp.push {cls:=.type (xT p.1),data:=.fields #[.ref p.2,.int 0 0]}).objs.size=hp.objs.size+1:=NG ..;have e2:((hp.push {cls:=.type (xT p.1),data:=.fields #[.ref p.2,.int 0 0]}).push {cls:=.type (xT q.1),data:=.fields #[.ref q.2,.int 0 0]}).objs.size=(hp.push {cls:=.type (xT p.1),data:=.fields #[.ref p.2,.int 0 0]}).objs.size+1:=NG ..;have h':=h;simp only[AI,CW,Jl,gP,fT,Nb,Oz,<- e1,<- e2] at h';exact h'
def l_(a b c:Value):checkTypeCall "zip" ⟨[a,b,c],[]⟩=pure ():=by kernel_rfl
def nX(a b c:Value):checkBuiltinCall "zip.__new__" ⟨[.type "zip",a,b,c],[]⟩=pure ():=by kernel_rfl
def sL(a b c d:Value):argsOk "object.__init__" ⟨[a,b,c,d],[]⟩:=by
 unfold argsOk;rw[signature?_of (id:="object.__init__") (n:=['_','_','t','i','n','i','_','_']) (o:=['t','c','e','j','b','o']) (by kernel_rfl) PySem.F.owner_object];kernel_rfl
section
variable {X:Cx} {es:List Expr} {tk:Nat} {tp:Pos}
def wo{pins:List (Addr×Obj)}{R:It->Hp->Prop}(I:Inv X pins σ H s)(l:List (Bool×Addr))(hne:l≠[])(h3:l.length<=3)(hq:∀p∈l,∃xs,jw X.K p.1 H p.2 xs)(q:∀n,R (E3 X.K (fT n l)) H):
  (∃o,(AI s.heap l).get? (CW s.heap l).objs.size=some o/\o.cls=.type "zip")/\wpAny (model X.prog X.w) X.A (pyIter (.ref (CW s.heap l).objs.size)) (L4 X pins σ (.Tuple es tk tp) R) X.xe {s with heap:=AI s.heap l}:=by
 have n1:(gP s.heap l).objs.size=s.heap.objs.size+l.length:=lY l _;have n2:(Jl s.heap l).objs.size=s.heap.objs.size+l.length+1:=by rw[NG,n1]
 have n3:(CW s.heap l).objs.size=s.heap.objs.size+l.length+2:=by rw[NG,n2]
 have p3:(AI s.heap l).get? (CW s.heap l).objs.size=some _:=MM _ rfl;have p2:(AI s.heap l).get? (Jl s.heap l).objs.size=some _:=My _ (MM _ rfl);have p1:(AI s.heap l).get? (gP s.heap l).objs.size=some _:=My _ (My _ (MM _ rfl));have up:∀{c o},(gP s.heap l).get? c=some o->(AI s.heap l).get? c=some o:=λe=>My _ (My _ (My _ e));rw[n1,n2,n3] at p3;rw[n2] at p2;rw[n1] at p1;rw[n3];refine⟨⟨_,p3,rfl⟩,wpAny_pyIter_zip p3 ?_⟩;have I2:Inv X pins σ H {s with heap:=AI s.heap l}:=I.kept (t':=s.toks) λc o e=>up (jC l e)
 have bd:=vU l s.heap.objs.size;have lt:∀p∈l,p.2<s.heap.objs.size:=λp hp=>by
  obtain⟨xs,hx⟩:=hq p hp;obtain⟨its,_,p1⟩:=I.rX hx;obtain⟨o,e,_⟩:=p1.ty;exact MN e
 have D:Zn (s.heap.objs.size+l.length+2) (s.heap.objs.size+l.length) (s.heap.objs.size+l.length+1) (fT s.heap.objs.size l):=by
  have nl:∀(a b:Nat),a<b->a≠b:=λa b h=>M_ h;refine⟨⟨nl _ _ (by lia),nl _ _ (by lia),nl _ _ (by lia)⟩,λq hq'=>?_,λq hq'=>?_,wJ l _⟩
  ·have:=(bd q hq').2.1;exact⟨nl _ _ (by lia),nl _ _ (by lia),nl _ _ (by lia)⟩
  ·have h1:=lt _ (bd q hq').2.2;refine⟨nl _ _ (by show q.2.2<_;have:q.2.2<s.heap.objs.size:=h1;lia),nl _ _ (by have:q.2.2<s.heap.objs.size:=h1;lia),λp hp=>nl _ _ (Nf h1 (bd p hp).1)⟩
 refine⟨_,_,_,_,H,rfl,I2,yv (fT s.heap.objs.size l) _ _ _ D (λe=>?_) (by rw[nv];exact h3),⟨p3,p1,⟨_,p2,Ms ..⟩,λq hq'=>Kg (up (Dt l q hq'))⟩,λc hc=>?_,q _⟩
 ·have:=nv l s.heap.objs.size;rw[e] at this;exact hne (NZ.mp this.symm)
 ·have hc':s.heap.objs.size<=c:=by
   rcases M0.mp hc with rfl|hc
   ·lia
   rcases M0.mp hc with rfl|hc
   ·lia
   rcases M0.mp hc with rfl|hc
   ·lia
   obtain⟨q,hq',rfl⟩:=Nc.mp hc;exact (bd q hq').1
  exact I.qO hc' (I.aH.fresh hc')
def Ae(K:W.Frag)(ta:TA):TI:=λσ H R=>ta σ H λvs H1=>∃p q:Bool×Addr,vs=[.ref p.2,.ref q.2]/\(∃xs,jw K p.1 H1 p.2 xs)/\(∃ys,jw K q.1 H1 q.2 ys)/\∀n,R (E3 K (fT n [p,q])) H1
def Ej{e1 e2:Expr}(hg:Gl X "zip")(hm:X.mg "zip"=none)(ha:PA X [e1,e2] ta)(h1:autoParam (fF e1=true) ℜ0)(h2:autoParam (fF e2=true) ℜ0)(hv:autoParam (bootBuiltins "zip"=some (.type "zip")) ℜ6):
  PI X (.Tuple es tk tp) (.Call (.Name "zip" p) [e1,e2] [] pos) (Ae X.K ta):=by
 intro pins s σ H R I h;refine Call_ (fY I hg hm hv (NJ (bJ (ha pos pins s σ H _ I h) λus s1 hq1=>?_) (by rw[cW h1,cW h2]) (by rw[cW h2];rfl)))
 obtain⟨vs,H1,I1,r1,q1⟩:=hq1;obtain⟨a,b,e,⟨xs,hx⟩,⟨ys,hy⟩,q⟩:=q1;subst e;obtain⟨u,w',rfl,ru,rw'⟩:=vals2 r1
 cases ru;cases rw'
 obtain⟨its1,_,p1⟩:=I1.rX hx;obtain⟨its2,_,p2⟩:=I1.rX hy;refine RN F.called_zip ⋯ (F.typeCall_zip_2 _ _) (F.newCall_zip_2 _ _) (λobj=>F.args_object_init_3 obj _ _) F.entry_zip_new (yL a b _ _) ⟨p1,p2,wo I1 [a,b] (by simp) (NX 2) (λp hp=>?_) q⟩
 simp only[M0,MP,Nl] at hp;rcases hp with rfl|rfl
 ·exact⟨xs,hx⟩
 ·exact⟨ys,hy⟩
def BP(K:W.Frag)(ta:TA):TI:=λσ H R=>ta σ H λvs H1=>∃p q r:Bool×Addr,vs=[.ref p.2,.ref q.2,.ref r.2]/\(∃xs,jw K p.1 H1 p.2 xs)/\(∃ys,jw K q.1 H1 q.2 ys)/\(∃zs,jw K r.1 H1 r.2 zs)/\∀n,R (E3 K (fT n [p,q,r])) H1
def vals3{x y z:V}{us:List Value}(r:Vals [x,y,z] us):∃u w' q,us=[u,w',q]/\RelV x u/\RelV y w'/\RelV z q:=by
 obtain⟨u,us,rfl,h1,r⟩:=Paired.iI r;obtain⟨v,w',rfl,h2,h3⟩:=vals2 r;exact⟨u,v,w',rfl,h1,h2,h3⟩
def EH{e1 e2 e3:Expr}(hg:Gl X "zip")(hm:X.mg "zip"=none)(ha:PA X [e1,e2,e3] ta)(h1:autoParam (fF e1=true) ℜ0)(h2:autoParam (fF e2=true) ℜ0)(h3:autoParam (fF e3=true) ℜ0)(hv:autoParam (bootBuiltins "zip"=some (.type "zip")) ℜ6):
  PI X (.Tuple es tk tp) (.Call (.Name "zip" p) [e1,e2,e3] [] pos) (BP X.K ta):=by
 intro pins s σ H R I h;refine Call_ (fY I hg hm hv (NJ (bJ (ha pos pins s σ H _ I h) λus s1 hq2=>?_) (by rw[cW h1,cW h2,cW h3]) (by rw[cW h2,cW h3];rfl)))
 obtain⟨vs,H1,I1,r1,q1⟩:=hq2;obtain⟨a,b,c,e,⟨xs,hx⟩,⟨ys,hy⟩,⟨zs,hz⟩,q⟩:=q1;subst e;obtain⟨u,w',t',rfl,ru,rw',rt'⟩:=vals3 r1
 cases ru;cases rw';cases rt'
 obtain⟨its1,_,p1⟩:=I1.rX hx;obtain⟨its2,_,p2⟩:=I1.rX hy;obtain⟨its3,_,p3⟩:=I1.rX hz;refine RN F.called_zip ⋯ (l_ _ _ _) (nX _ _ _) (λobj=>sL obj _ _ _) F.entry_zip_new (xR a b c _ _ _) ⟨p1,p2,p3,wo I1 [a,b,c] (by simp) (M8 3) (λp hp=>?_) q⟩
 simp only[M0,MP,Nl] at hp;rcases hp with rfl|rfl|rfl
 ·exact⟨xs,hx⟩
 ·exact⟨ys,hy⟩
 ·exact⟨zs,hz⟩
end
namespace Z
def F_{CX:qe}{f C:Addr}{fd:FuncData}{ps:List Str}{E:XK}{x:Str}(K:W.Frag)(hK:X.K=K)(M:Mk K C f)(F:aZ X.prog X.w K X.mg X.base CX k f fd ps sp)(hr:bw (k+1) X.A)(hg:Gl X x)(hm:X.mg x=some (.ref C))(hb:Binds K fd ps [])(hx:Passes CX X E)(hdb:autoParam ((x ==("__debug__":Str))=false) ℜ1):
  QE X (.Call (.Name x p) [] [] pos) (n8 C sp [] E iA):=by subst hK;exact⟨Ca M F hr hg hm hb .nil hx hdb⟩
def vL{st:Stmt}:QS X st (λ_ _ _=>False):=⟨λ_ _ _ _ _ _ h=>h.elim⟩
def Lv{o:Expr}{to:TE}(K:W.Frag)(hK:X.K=K){name:Str}{apos:Pos}{T id:String}{r:V->List V->Hp->VK->Prop}(pa:PlainAttrs T)(slot:Slot T name id)(hty:typeOf (.builtin id)=pure (.type "method_descriptor"))(hm:uU X id r)(ho:QE X o to)
  (hbase:autoParam (attributeBase o name X.env (eval o X.env)=eval o X.env) ℜ0) (hline:autoParam ((apos.endLine == pos.line)=true) ℜ0):QE X (.Call (.Attribute o name apos) [] [] pos) (Bu K T r to):=by
 subst hK;exact⟨IX pa slot hty hm ho.h hbase hline⟩
def si(K:W.Frag)(hK:X.K=K):yc X (IB K):=by subst hK;exact tU
def LQ{te:TE}{x:Str}{d:Addr}{D:List (Str×List Str)}(K:W.Frag)(hK:X.K=K)(hg:Gl X x)(hm:X.mg x=some (.ref d))(hd:jv K d D)(he:QE X e te)(hs:zw e:=by exactλ_ _=>rfl)(hdb:autoParam ((x ==("__debug__":Str))=false) ℜ1):QE X (.Subscript (.Name x p) e pos) (BI K D te):=by
 subst hK;exact⟨GJ (pK hg hm rfl hdb) hd he.h hs⟩
def Mj{l:Expr}{tl:TE}(hl:QE X l tl):QI X tg l (Ci tl):=⟨GD hl.h⟩
def Fu(K:W.Frag)(hK:X.K=K){tp:Pos}(hg:Gl X "enumerate")(hm:X.mg "enumerate"=none)(ha:QA X [e] ta)(h1:autoParam (fF e=true) ℜ0):QI X (.Tuple es k tp) (.Call (.Name "enumerate" p) [e] [] pos) (lM K ta):=by
 subst hK;exact⟨Bf hg hm ha.h h1⟩
def JC{t:TA}{kpos lpos p1 p2 p3:Pos}{x y z:Str}{c Pt d:Addr}{j:Nat}{params:Arguments}(K:W.Frag)(hK:X.K=K)(hx:z∈dZ)(ht:W.tabIn K z=some (c,Pt))(hcode:X.env.code=.ref c)(hq:X.env.qual=z++".<locals>.")(hdef:defaultsOf params X.env=([],[]))(hcl:closureFor scope X.env=pure [(y,d)])
  (hg:Gl X "sorted") (hm:X.mg "sorted"=none) (ha:QA X [e] t) (hr:bw (k+3) X.A)
  (hsc:scope={kind:=.function,names:=[(x,.local),(y,.free)],isGenerator:=false,isCoroutine:=false,more:=[]}) (hxy:y≠x) (hx1:(x ==("__debug__":Str))=false) (hx2:(x ==("__classdict__":Str))=false) (hy1:(y ==("__debug__":Str))=false) (hy2:(y ==("__classdict__":Str))=false)
  (hj:X.N[j]?=some y) (hyc:X.env.scope.names.lookup y=some .cell) (hyl:X.env.cells.lookup y=some d)
  (hbind:∀c' pm ctv u,bindArgs (W.kla_fn "<lambda>" ((z++".<locals>.")++"<lambda>") params (.Subscript (.Name y p1) (.Name x p2) p3) scope [(y,d)] pm (.ref c') ctv) ⟨[u],[]⟩=pure [(x,u)]) (h1:autoParam (fF e=true) ℜ0) :
  QE X (.Call (.Name "sorted" p) [e] [⟨some "key",.Lambda params (.Subscript (.Name y p1) (.Name x p2) p3) scope lpos,kpos⟩] pos) (lK K j t):=by
 subst hK;exact⟨C5 hg hm ha.h h1 hr (IU hx ht hcode hq hdef hcl) hsc hxy hx1 hx2 hy1 hy2 hj hyc hyl hbind⟩
def Ft(K:W.Frag)(hK:X.K=K):cY X (compareOp .In) (L6 K false):=by subst hK;exact pe
def zj(K:W.Frag)(hK:X.K=K):aX X (.type "list") (λxs H Q=>∃p ys,xs=[.ref p]/\(aT K H p ys\/aW K H p ys)/\∀l,H l=none->Q (.ref l) (upd H l (.lst ys))):=by subst hK;exact pS
end Z
namespace Ap
def BI(K:W.Frag)(D:List (Str×List Str))(te:TE)(σ:St)(H:Hp)(Q:VK):L2.BI K D te σ H Q=te σ H λy H1=>∃k ws,y=.str k/\KTD.datumAt k D=some ws/\∀p,JM K p (ws.map V.str)->Q (.ref p) H1:=rfl
def Ci(tl:TE)(σ:St)(H:Hp)(R:It->Hp->Prop):L2.Ci tl σ H R=tl σ H λx H1=>∃z,x=V.str z/\R (JV z) H1:=rfl
def lM(K:W.Frag)(ta:TA)(σ:St)(H:Hp)(R:It->Hp->Prop):L2.lM K ta σ H R=ta σ H λvs H1=>∃a,vs=[.ref a]/\(∃xs,aT K H1 a xs)/\R (DN K a) H1:=rfl
def lK(K:W.Frag)(j:Nat)(t:TA)(σ:St)(H:Hp)(Q:VK):L2.lK K j t σ H Q=t σ H λvs H1=>∃l xs kz,vs=[.ref l]/\(∃n:Nat,H1 l=some (.rR 0 n)/\xs=mM n)/\kz.length=xs.length/\xs.length<64 /\
 (∀(i:Nat) (v:V) (k:Int),xs[i]?=some v->kz[i]?=some k->∀H',eQ H1 H'->∃i q ls,v=.int i/\LO j σ=[some (.ref q)]/\aW K H' q ls/\bQ ls i=some (.int k))/\∀H2 D,eQ H1 H2->H2 D=none->Q (.ref D) (upd H2 D (.lst (kY kz xs))):=rfl
end Ap
section
variable {K:W.Frag} {g:TG} {tb:TS} {D:Ends} {σ:St} {H:Hp}
def lG{xs:List V}(Pv:Nat->St->Hp->Prop)(h0:Pv 0 σ H)(hl:∀i σ H,i<=xs.length->Pv i σ H->aT K H a xs)
  (hs:∀i x σ H p,xs[i]?=some x->Pv i σ H->H p=none->g (.ref p) σ (upd H p (.tup [.int i,x])) λσ2 H2=>tb {D with nx:=Pv (i+1),ct:=Pv (i+1),bk:=D.nx} σ2 H2) (hd:∀σ H,Pv xs.length σ H->D.nx σ H) :
  sX (DN K a) g tb D σ H:=by
 refine⟨λi m σ H=>m=xs.length-i/\i<=xs.length/\Pv i σ H,⟨xs.length,by simp,MG _,h0⟩,?_⟩
 rintro i m σ H ⟨rfl,hi,p⟩;have hq:=hl i σ H hi p;by_cases c:i<xs.length
 ·refine .inr ⟨⟨xs[i],xs,hq,Mt c⟩,λσ' H'=>Pv (i+1) σ' H',λσ' H' h=>⟨_,by lia,rfl,c,h⟩,?_⟩
  rintro x H' ⟨q,y,e,fr,rfl,rfl⟩;have e1:=e xs hq;exact hs i y σ H q e1 p fr
 ·have e:i=xs.length:=by lia
  subst e;exact .inl ⟨⟨xs,hq,rfl⟩,hd _ _ p⟩
end
section
variable {K:W.Frag} {σ:St} {H:Hp} {tc:TT} {te:TE} {Q:VK}
def KN{x y:V}{c:Addr}{o1 o2:Option V}{R:St->Hp->Prop}(h:R (some x::some y::σ) (upd H c (.tup [x,y]))):nW K 2 (e8 (aL 0) (e8 (aL 1) nY)) (.ref c) (o1::o2::σ) (upd H c (.tup [x,y])) R:=⟨c,[x,y],rfl,aW.of aa,rfl,x,[y],rfl,y,[],rfl,rfl,h⟩
def sO{xs:List V}(hn:xs.length<=sizeLine)(Pv:Addr->Nat->List V->Hp->Prop)(h0:∀D,H D=none->Pv D 0 [] (upd H D (.lst [])))(hD:∀D i ys H',Pv D i ys H'->H' D=some (.lst ys)/\ys.length=i)
  (hl:∀D i ys H',Pv D i ys H'->aW K H' a xs)
  (hs:∀D i ys H' x p (R:VK),xs[i]?=some x->Pv D i ys H'->H' p=none->(∀v H5,H5 D=some (.lst ys)->Pv D (i+1) (ys++[v]) (upd H5 D (.lst (ys++[v])))->R v H5)->te (some (.int i)::some x::σ) (upd H' p (.tup [.int i,x])) R) (hd:∀D ys H',Pv D xs.length ys H'->Q (.ref D) H') :
  ib (Bl K a) 2 (nW K 2 (e8 (aL 0) (e8 (aL 1) nY))) dP te Q σ H:=by
 intro D hD0;refine⟨λi m ys σ' H'=>m=xs.length-i/\i<=xs.length/\Pv D i ys H'/\∃o1 o2,σ'=o1::o2::σ,⟨xs.length,by simp,MG _,h0 D hD0,none,none,rfl⟩,?_⟩
 rintro i m ys σ' H' ⟨rfl,hi,p,o1,o2,rfl⟩;obtain⟨hDi,hly⟩:=hD _ _ _ _ p;have q:=hl _ _ _ _ p;refine⟨hDi,?_⟩;by_cases hlt:i<xs.length
 ·refine .inr ⟨⟨xs[i],xs,q,by simp[hlt]⟩,by lia,λx H2 y=>?_⟩
  obtain⟨c,y,hy,fr,rfl,rfl⟩:=y;refine KN ?_;unfold dP;dsimp only;rw[if_pos rfl];exact hs D i ys H' y c _ (hy xs q) p fr λv H5 q1 q2=>⟨q1,xs.length-(i+1),by lia,rfl,hlt,q2,_,_,rfl⟩
 ·have e:i=xs.length:=by lia
  subst e;exact .inl ⟨⟨xs,q,rfl⟩,hd D ys H' p⟩
end
def nV{t:TS}{D:Ends}(h:∀N,N=D.nx->t {D with nx:=N} σ H):t D σ H:=h _ rfl
def vI{c:TT}{t u:TS}{D:Ends}(h:∀A B,A=t D->B=u D->c σ H λb H1=>if b=true then A σ H1 else B σ H1):qo c t u D σ H:=h _ _ rfl rfl
def HasFn.L1{P:Program}{K:W.Frag}{mg:Str->Option Value}{base:Heap}{x:Str}{st:Stmt}{ps:List Str}(F:HasFn K mg x st ps)(S:av N ps (ab st))(len:∀vs H Q E,sp vs H Q E->vs.length=ps.length)
  (hbody:∀(f:Addr) (cdv:Value) (A:Around) (outer:List Env) (s:Shared) (H:Hp) (vs:List V) (Q:VK) (E:XK),bw k (A.deeper (envOfC x (ab st) s.heap.objs.size f cdv))->mg x=some (.ref f)->CZ K f cdv->sp vs H Q E ->
   ∃t,QB (kM aF P w K mg base N x (ab st) f cdv A outer s H E).CI (bC st) t/\t {nx:=λ_ H'=>Q .aN H',rt:=Q} (start N vs) H):ao P w K mg base aF (k+1) x ps sp:=by
 obtain⟨f,fd,F1,b,m⟩:=F.ex;have F2:=F1;obtain⟨oc,od,kV,doc,pm,an,cdv,ct,osl,rfl,lk,kB⟩:=F2.ex;refine⟨f,_,m,F1.kp,b,FN lk kB S len λA outer s H vs Q E hr vS=>?_⟩;obtain⟨t,h,q⟩:=hbody f cdv A outer s H vs Q E hr m ⟨_,_,lk,rfl,rfl⟩ vS;exact⟨t,h.h.CI,q⟩
def az.of(k:scope.kind=.function)(h:N.Nodup/\N.length=own.length+ON.length/\(∀y∈scope.names,y.2≠.cell)/\(∀y∈scope.names,y.2=.local->scope.names.lookup y.1=some .local)/\(∀y∈scope.names,y.2=.free->osc.names.lookup y.1=some .cell\/osc.names.lookup y.1=some .free)/\(∀p∈ON.zip (N.drop own.length),p.1=p.2\/scope.names.lookup p.2=none)/\∀x∈N.drop own.length,scope.names.lookup x≠some .local):az osc ON scope own N:=by
 obtain⟨h1,h2,h3,h4,h5,h6,h7⟩:=h;exact⟨k,h1,h2,h3,h4,h5,h6,h7⟩
namespace Z
section
variable {X:Cx} {e o:Expr} {es:List Expr} {te to:TE} {t:TA} {pos pos' p:Pos} {x:Str}
def se(hN:X.N.Nodup)(he:QE X e te)(hi:autoParam (X.N[i]?=some x) ℜ0)(hx:Loc X.env.scope x:=by first|exact Or.inl rfl|exact Or.inr rfl)(hs:autoParam (KW e=true) ℜ0)(hf:autoParam (X.fn x=true\/X.env.scope.names.lookup x=some .local) ℜ2):
  QS X (.Assign [.Name x pos'] e pos) (mG te (aL i)):=set hN hi hx he hs hf
def fc{ps:List Str}(F:ao X.prog X.w X.K X.mg X.base aF k x ps sp)(ha:QA X (e::es) t)(hr:bw k X.A:=by exact bw.mono (by assumption) ⋯)(hg:autoParam (Gl X x) ℜ0)(h1:autoParam (fF e=true) ℜ0)(h2:autoParam (es.all fF=true) ℜ0)(hdb:autoParam ((x ==("__debug__":Str))=false) ℜ1):
  QE X (.Call (.Name x p) (e::es) [] pos) (iE sp [] E0 t):=fn F hr hg cg ha h1 h2 hdb
def mT{elt:Expr}{wi:TI}{g:TG}{tc:TT}(S:az osc ON scope own N)(hi:QI X tg iter wi)
  (hg:∀(nd:N.Nodup) C s H fp,QG (aO X scope N C s H fp) tg g) (ht:∀C s H fp,Js (aO X scope N C s H fp) ifs tc) (he:∀C s H fp,QE (aO X scope N C s H fp) elt te) (hosc:autoParam (X.env.scope=osc) ℜ0) (hON:autoParam (X.N=ON) ℜ0) (hc:autoParam (X.calm=true) ℜ0) (hs:autoParam (∀x,foldedSetIterable iter X.env x=pure x) ℜ3) :
  QE X (.ListComp elt [⟨tg,iter,ifs,0⟩] scope pos) (jo wi own.length g tc te):=comp S hosc hON hc hi (hg S.nd) ht he hs
def sec{elt:Expr}{p2:Pos}{wi:TI}{g:TG}{tc:TT}{j:Nat}(hN:X.N.Nodup)(S:az osc ON scope own N)(hi:QI X tg iter wi)
  (hg:∀(nd:N.Nodup) C s H fp,QG (aO X scope N C s H fp) tg g) (ht:∀C s H fp,Js (aO X scope N C s H fp) ifs tc) (he:∀C s H fp,QE (aO X scope N C s H fp) elt te)
  (hj:autoParam (X.N[j]?=some x) ℜ0) (hx:Loc X.env.scope x:=by first|exact Or.inl rfl|exact Or.inr rfl) (hosc:autoParam (X.env.scope=osc) ℜ0) (hON:autoParam (X.N=ON) ℜ0) (hc:autoParam (X.calm=true) ℜ0)
  (hsw:autoParam (swapsWith (.ListComp elt [⟨tg,iter,ifs,0⟩] scope p2) (some (.Name x pos')) pos.line X.env=pure true) ℜ0)
  (hf:autoParam (X.fn x=true\/X.env.scope.names.lookup x=some .local) ℜ2) (hs:autoParam (∀x,foldedSetIterable iter X.env x=pure x) ℜ3) :
  QS X (.Assign [.Name x pos'] (.ListComp elt [⟨tg,iter,ifs,0⟩] scope p2) pos) (mG (jo wi own.length g tc te) (aL j)):=setC hN hj hx S hosc hON hc hi (hg S.nd) ht he hsw hf hs
def app(K:W.Frag){apos:Pos}(ho:QE X o to)(ha:QA X (e::es) t)(hK:autoParam (X.K=K) ℜ0)(hbase:autoParam (attributeBase o "append" X.env (eval o X.env)=eval o X.env) ℜ0)(hline:autoParam ((apos.endLine == pos.line)=true) ℜ0)(h:autoParam ((e::es).all fF=true) ℜ0)(hl:autoParam ((e::es).length<30) ℜ1):QE X (.Call (.Attribute o "append" apos) (e::es) [] pos) (Hc K "list" wU to t):=bm K hK PySem.F.plainAttrs_list PySem.F.slot_list_append PySem.F.type_list_append oy ho ha hbase hline h hl
end
end Z
abbrev TJ:=St->Hp->(Hp->Prop)->Prop
end L2
namespace G
open PySem L2 PySem.Spec PyProof.Rows
variable{K:W.Frag}{mg:Str->Option Value}{st:Stmt}{L c i j k t:Nat}{l sp ss ws:List Nat}{C CD CK a b dl dq dx f f_a hp p rl:Addr}{d_a d_i fd:FuncData}{xs ys:List V}{z:Str}{H H':Hp}{σ:L2.St}{te:TE}{Q Q':VK}{g:Option Nat}{ln:Nat->Nat}{α:Type}{ls:List Int}{h:Heap}{hi lo:Option Int}{gs:List (Option Nat)}{as ex:List Addr}{X:Cx}{es:List Expr}{pos:Pos}{dd dxk rp:Nat->Addr}{E E':XK}{an od:Option Addr}{osl:Array (Option Value)}{cdv doc:Value}
local macro_rules | `(tactic| walk_at "s") => `(tactic| exact ⟨rfl, rfl, rfl, by decide +kernel, rfl, by decide +kernel, by decide +kernel⟩)
def top(i:Nat):Stmt:=PySem.Challenge.pw_shortrows_k42_desk_rows.main.body.getD i (.Pass ⟨0,0,0,0⟩)
abbrev jP:Stmt:=top 11
def uq:av ["row"] ["row"] (ab jP):=by walk_at "s"
abbrev iu:Stmt:=top 12
def pZ:av ["row","goal"] ["row","goal"] (ab iu):=by walk_at "s"
abbrev lU:Stmt:=top 14
def c8:av ["lengths","free","depth","left","length"] ["lengths"] (ab lU):=by walk_at "s"
abbrev gh:Stmt:=top 17
abbrev d8:Stmt:=top 20
def e7:av ["lengths","words","ahead","thing"] ["lengths"] (ab d8):=by walk_at "s"
abbrev fC:Stmt:=top 21
def mE:av ["ahead","length"] ["ahead","length"] (ab fC):=by walk_at "s"
abbrev d_:Stmt:=top 28
def kT:av ["sizes","goals"] ["sizes","goals"] (ab d_):=by walk_at "s"
abbrev cS:Stmt:=top 29
def bt:av ["sizes","goals","widths","paper","row"] ["sizes","goals"] (ab cS):=by walk_at "s"
abbrev fb:Stmt:=top 30
def p7:av ["goals"] ["goals"] (ab fb):=by walk_at "s"
abbrev cQ:Stmt:=top 31
def bN:av ["sizes","goals","widths","starts","row","goal"] ["sizes","goals","widths"] (ab cQ):=by walk_at "s"
abbrev u7:Stmt:=top 32
def xl:av ["starts","goals","widths","row","half"] ["starts","goals","widths","row"] (ab u7):=by walk_at "s"
abbrev f9:Stmt:=top 33
def lW:av ["starts","goals","row"] ["starts","goals","row"] (ab f9):=by walk_at "s"
abbrev gC:Stmt:=top 34
def dA:av ["sizes","widths","starts","size","width"] ["sizes","widths"] (ab gC):=by walk_at "s"
abbrev iY:Stmt:=top 35
def qZ:av ["width"] ["width"] (ab iY):=by walk_at "s"
abbrev eI:Stmt:=top 43
def cI:av ["row","things","kind","part"] ["row"] (ab eI):=by walk_at "s"
abbrev fZ:Stmt:=top 44
def sF:av ["book"] ["book"] (ab fZ):=by walk_at "s"
abbrev cU:Stmt:=top 45
def bj:av ["program","book","codes","firsts","sizes","goals","widths","starts","bits","row","first"] ["program","book"] (ab cU):=by walk_at "s"
abbrev bG:Stmt:=top 46
def d6:av ["row","codes","bits"] ["row","codes"] (ab bG):=by walk_at "s"
abbrev bV:Stmt:=top 47
def fK:av ["number"] ["number"] (ab bV):=by walk_at "s"
abbrev eB:Stmt:=top 48
def kR:av ["width","distance"] ["width","distance"] (ab eB):=by walk_at "s"
abbrev dY:Stmt:=top 49
def bE:av ["number","many","figures","left","turn"] ["number","many"] (ab dY):=by walk_at "s"
abbrev cL:Stmt:=inClass (top 51) 0
def jY:av ["self","book"] ["self","book"] (ab cL):=by walk_at "s"
abbrev dE:Stmt:=inClass (top 51) 1
def dk:av ["self","place","row","many","goal","moved"] ["self","place","row"] (ab dE):=by walk_at "s"
abbrev cG:Stmt:=inClass (top 51) 2
def fH:av ["self","place","many"] ["self","place"] (ab cG):=by walk_at "s"
abbrev cZ:Stmt:=inClass (top 51) 3
def kQ:av ["self"] ["self"] (ab cZ):=by walk_at "s"
abbrev fe:Stmt:=inClass (top 51) 4
def ql:av ["self"] ["self"] (ab fe):=by walk_at "s"
abbrev dD:Stmt:=inClass (top 51) 5
def mB:av ["self"] ["self"] (ab dD):=by walk_at "s"
abbrev dC:Stmt:=top 52
def lJ:av ["rows","first","by"] ["rows","first","by"] (ab dC):=by walk_at "s"
abbrev gw:Stmt:=top 53
def iJ:av ["row","first","by","goal"] ["row","first","by"] (ab gw):=by walk_at "s"
abbrev b9:Stmt:=inClass (top 55) 0
def iB:av ["self","given"] ["self","given"] (ab b9):=by walk_at "s"
abbrev cm:Stmt:=inClass (top 55) 1
def gS:av ["self","row","behind","end","goes"] ["self","row","behind","end"] (ab cm):=by walk_at "s"
abbrev b7:Stmt:=inClass (top 55) 5
def fU:av ["self"] ["self"] (ab b7):=by walk_at "s"
abbrev a_:Stmt:=inClass (top 55) 6
def fW:av ["self"] ["self"] (ab a_):=by walk_at "s"
abbrev gA:Stmt:=top 56
def bR:av ["program","given","most","machine","turns","at","done","how"] ["program","given","most"] (ab gA):=by walk_at "s"
abbrev fk:Stmt:=top 59
def qK:av ["row"] ["row"] (ab fk):=by walk_at "s"
abbrev gr:Stmt:=top 60
def eU:av ["line","greatest_goal","parts","shape","values"] ["line","greatest_goal"] (ab gr):=by walk_at "s"
abbrev ie:Stmt:=top 61
def qa:av ["kind","part","greatest_goal"] ["kind","part","greatest_goal"] (ab ie):=by walk_at "s"
abbrev fG:Stmt:=top 62
def gZ:av ["text","greatest","number"] ["text","greatest"] (ab fG):=by walk_at "s"
abbrev fv:Stmt:=top 63
def qN:av ["text"] ["text"] (ab fv):=by walk_at "s"
abbrev bX:Stmt:=inClass (top 76) 0
def j_:av ["self"] ["self"] (ab bX):=by walk_at "s"
abbrev d9:Stmt:=inClass (top 76) 1
def ki:av ["self","line","parts"] ["self","line"] (ab d9):=by walk_at "s"
abbrev bY:Stmt:=inClass (top 76) 2
def lQ:av ["self","word","parts"] ["self","word","parts"] (ab bY):=by walk_at "s"
abbrev dc:Stmt:=inClass (top 76) 3
def dN:av ["self","parts","place","row"] ["self","parts"] (ab dc):=by walk_at "s"
abbrev cO:Stmt:=inClass (top 76) 4
def jO:av ["self","parts"] ["self","parts"] (ab cO):=by walk_at "s"
abbrev bO:Stmt:=inClass (top 76) 7
def fj:av ["self","parts","run"] ["self","parts"] (ab bO):=by walk_at "s"
abbrev bP:Stmt:=inClass (top 76) 8
def eV:av ["self","parts","most"] ["self","parts"] (ab bP):=by walk_at "s"
abbrev fB:Stmt:=top 77
def mL:av ["text"] ["text"] (ab fB):=by walk_at "s"
abbrev ia:Stmt:=top 78
def kL:av ["text"] ["text"] (ab ia):=by walk_at "s"
abbrev dJ:Stmt:=top 79
def ke:av ["text"] ["text"] (ab dJ):=by walk_at "s"
abbrev cJ:Stmt:=top 81
def jI:av ["numbers"] ["numbers"] (ab cJ):=by walk_at "s"
abbrev fo:Stmt:=top 83
def qD:av ["script"] ["script"] (ab fo):=by walk_at "s"
abbrev iX:Stmt:=top 84
def ig:av ["number","turn","one"] ["number","turn"] (ab iX):=by walk_at "s"
abbrev hZ:Stmt:=top 85
def j5:av ["deck","most","number"] ["deck","most"] (ab hZ):=by walk_at "s"
abbrev gN:Stmt:=top 86
def nJ:av [] [] (ab gN):=by walk_at "s"
abbrev ik:Stmt:=top 87
def c_:av ["number","many","text","k"] ["number","many"] (ab ik):=by walk_at "s"
abbrev fw:Stmt:=top 88
def bg:av ["lengths","found","number","size","length","thing","k"] ["lengths"] (ab fw):=by walk_at "s"
abbrev fA:Stmt:=top 91
def eE:av ["deck","size","top"] ["deck"] (ab fA):=by walk_at "s"
abbrev iP:Stmt:=top 92
def eZ:av ["deck","goals","some","word","box"] ["deck","goals"] (ab iP):=by walk_at "s"
abbrev dU:Stmt:=top 94
def nN:av ["program"] ["program"] (ab dU):=by walk_at "s"
abbrev gz:Stmt:=top 95
def b_:av ["row","codes","text","part","size"] ["row","codes"] (ab gz):=by walk_at "s"
abbrev gE:Stmt:=top 96
def cE:av ["sizes","goals","widths","found","size","goal","width"] ["sizes","goals","widths"] (ab gE):=by walk_at "s"
abbrev fX:Stmt:=top 97
def bI:av ["sizes","goals","widths","turn","spots","k","half","far"] ["sizes","goals","widths"] (ab fX):=by walk_at "s"
abbrev bZ:Stmt:=top 98
def aG:av ["program","book","widths","codes","plain","goals","sizes","spots","bits","k","span","far"] ["program","book","widths"] (ab bZ):=by walk_at "s"
abbrev fu:Stmt:=top 99
def qd:av ["row"] ["row"] (ab fu):=by walk_at "s"
abbrev dB:Stmt:=top 100
def lI:av ["numbers"] ["numbers"] (ab dB):=by walk_at "s"
abbrev cx:Stmt:=top 101
def jq:av ["found"] ["found"] (ab cx):=by walk_at "s"
abbrev gJ:Stmt:=top 102
def f7:av ["desk","line","due","found","good"] ["desk","line","due"] (ab gJ):=by walk_at "s"
abbrev gj:Stmt:=top 103
def nU:av ["row","place","by"] ["row","place","by"] (ab gj):=by walk_at "s"
abbrev ja:Stmt:=top 104
def fq:av ["deck","desk","rows","place","row","k"] ["deck","desk","rows"] (ab ja):=by walk_at "s"
abbrev iw:Stmt:=top 105
def gH:av ["deck","desk","rows","place","k"] ["deck","desk","rows"] (ab iw):=by walk_at "s"
abbrev de:Stmt:=top 106
def bK:av ["deck","desk","rows","book","turn","way","due","bits","spots"] ["deck","desk","rows"] (ab de):=by walk_at "s"
abbrev iD:Stmt:=top 107
def fD:av ["script","deck","desks","rows","held","turn","at","told"] ["script"] (ab iD):=by walk_at "s"
def cX(K:W.Frag)(C:Addr)(x q:Str)(st:Stmt)(ps:List Str):Prop:=∃(f:Addr) (fd:FuncData),Meth K C x f/\kj K x q st f fd/\Binds K fd ps []
def uD(K:W.Frag)(C:Addr)(q:Str)(st:Stmt)(ps:List Str):Prop:=∃(f:Addr) (fd:FuncData),Mk K C f/\kj K "__init__" q st f fd/\Binds K fd ps []
def tJ{P:Program}{w:World}{base:Heap}{x qual:Str}{N ps:List Str}{sp:Sp}(F:kj K x qual st f fd)(S:av N ps (ab st))(len:∀vs H Q E,sp vs H Q E->vs.length=ps.length)
  (hbody:∀(cdv:Value) (A:Around) (outer:List Env) (s:Shared) (H:Hp) (vs:List V) (Q:VK) (E:XK),bw k (A.deeper (envOfC qual (ab st) s.heap.objs.size f cdv))->sp vs H Q E ->
   ∃t,QB (kM aF P w K mg base N qual (ab st) f cdv A outer s H E).CI (bC st) t/\t {nx:=λ_ H'=>Q .aN H',rt:=Q} (start N vs) H):aZ P w K mg base aF (k+1) f fd ps sp:=
 F.ok S len λcdv A outer s H vs Q E hr h=>let ⟨t,q,r⟩:=hbody cdv A outer s H vs Q E hr h;⟨t,q.h,r⟩
structure Txt (K:W.Frag) (mg:Str->Option Value):Prop where
 KI:mg "abs"=none
 J5:mg "all"=none
 He:mg "dict"=none
 hJ:mg "enumerate"=none
 qV:mg "int"=none
 gq:mg "isinstance"=none
 bA:mg "len"=none
 pW:mg "list"=none
 FO:mg "min"=none
 cK:mg "range"=none
 mS:mg "sorted"=none
 iq:mg "str"=none
 JT:mg "sum"=none
 cy:mg "tuple"=none
 rP:mg "zip"=none
 l9:∃a,mg "BOXES"=some (.ref a)/\∀H,aW K H a [.str "a",.str "b",.str "c",.str "d",.str "e",.str "f",.str "g",.str "h"]
 kU:∃a,mg "EQUAL_LENGTHS"=some (.ref a)/\∀H,aW K H a [.int 4,.int 5,.int 3]
 yf:∃u,mg "FIGURES"=some u/\RelV (.str "0123456789") u
 B5:∃a,mg "HALVES"=some (.ref a)/\∀H,aW K H a [.int 8,.int 128,.int 32768]
 wH:∃a,mg "HEADS"=some (.ref a)/\∀H,aW K H a [.str "0",.str "10",.str "11"]
 uu:∃a,mg "HOW_MANY"=some (.ref a)/\∀H,aW K H a [.int 9,.int 17,.int 8]
 Jo:∃u,mg "LONGEST"=some u/\RelV (.int 12) u
 jd:∃u,mg "MOST_CARRIED_OUT"=some u/\RelV (.int 400) u
 rS:∃u,mg "MOST_ROWS"=some u/\RelV (.int 60) u
 uM:∃u,mg "OF_BOXES"=some u/\RelV (.int 2) u
 pC:∃u,mg "OF_CLASSES"=some u/\RelV (.int 1) u
 uF:∃u,mg "OF_WORDS"=some u/\RelV (.int 0) u
 DS:∃u,mg "WHOLE"=some u/\RelV (.int 65536) u
 B4:∃u,mg "WIDEST"=some u/\RelV (.int 2) u
 qW:∃a,mg "WIDTHS"=some (.ref a)/\∀H,aW K H a [.int 4,.int 8,.int 16]
 DF:LC K mg "BOXES"
 m9:∃d,mg "SHAPES"=some (.ref d)/\jv K d [("put",["box","number"]),("add",["box","box"]),("sub",["box","box"]),("copy",["box","box"]),("tell",["box"]),("hear",["box"]),("jump",["goal"]),("zero",["box","goal"]),("halt",[])]
 mc:∃C_Machine:Addr,mg "Machine"=some (.ref C_Machine)/\gX K C_Machine/\aP K C_Machine "given"/\aP K C_Machine "heard"/\aP K C_Machine "told"/\aP K C_Machine "boxes"/\uD K C_Machine "Machine.__init__" b9 ["self","given"]/\cX K C_Machine "place_next" "Machine.place_next" cm ["self","row","behind","end"]/\cX K C_Machine "told_numbers" "Machine.told_numbers" b7 ["self"]/\cX K C_Machine "box_numbers" "Machine.box_numbers" a_ ["self"]
 L_:∃C_Kept:Addr,mg "Kept"=some (.ref C_Kept)/\gX K C_Kept/\aP K C_Kept "book"/\aP K C_Kept "rows"/\uD K C_Kept "Kept.__init__" cL ["self","book"]/\cX K C_Kept "put_in" "Kept.put_in" dE ["self","place","row"]/\cX K C_Kept "take_out" "Kept.take_out" cG ["self","place"]/\cX K C_Kept "program" "Kept.program" cZ ["self"]/\cX K C_Kept "bits" "Kept.bits" fe ["self"]/\cX K C_Kept "places" "Kept.places" dD ["self"]
 Mf:∃C_Desk:Addr,mg "Desk"=some (.ref C_Desk)/\gX K C_Desk/\aP K C_Desk "kept"/\uD K C_Desk "Desk.__init__" bX ["self"]/\cX K C_Desk "ask" "Desk.ask" d9 ["self","line"]/\cX K C_Desk "change" "Desk.change" bY ["self","word","parts"]/\cX K C_Desk "put_row" "Desk.put_row" dc ["self","parts"]/\cX K C_Desk "take_row" "Desk.take_row" cO ["self","parts"]/\cX K C_Desk "run_shown" "Desk.run_shown" bO ["self","parts"]/\cX K C_Desk "asked_run" "Desk.asked_run" bP ["self","parts"]
 Fm:oJ K mg "by_worth"
 q_:oJ K mg "code_of"
section
variable {P:Program} {w:World} {K:W.Frag} {mg:Str->Option Value} {base:Heap}
def cp(z:Str):List Nat:=z.cps.toList
def gu(z:Str):(cp z).length=z.length:=Np
def qz{a b:Str}(h:cp a=cp b):a=b:=by
 cases a with|mk a=>cases b with|mk b=>exact Nw _ (PF.mp h)
def JR(l:List Nat):cp ⟨l.toArray⟩=l:=Pl
def jn(c:Nat):List (List Nat)->List Nat
 |[]=>[]
 |[a]=>a
 |a::b::r=>a++c::jn c (b::r)
theorem lj(c:Nat):∀xs:List Str,cp (Str.join ⟨#[c]⟩ xs)=jn c (xs.map cp)
 |[]=>rfl
 |[a]=>rfl
 |a::b::r=>by
  show cp (a++⟨#[c]⟩++Str.join ⟨#[c]⟩ (b::r))=cp a++c::jn c ((b::r).map cp);rw[<- lj c (b::r)];show ((a.cps++#[c])++(Str.join ⟨#[c]⟩ (b::r)).cps).toList=_;simp[cp]
theorem tw_free:∀{a r:List Nat},c∉a->(r=[]\/∃s,r=c::s)->(a++r).takeWhile (· != c)=a
 |[],r,_,h=>by
  rcases h with rfl|⟨s,rfl⟩
  ·rfl
  ·simp
 |x::a,r,n,h=>by
  have hx:x≠c:=λe=>n (by rw[e];exact MK)
  rw[NL,List.takeWhile_cons_of_pos (by simpa using hx),tw_free (λm=>n (MF _ m)) h]
theorem vD(c:Nat)(a:List Nat):∀r:List (List Nat),∃s,jn c (a::r)=a++s/\((r=[]/\s=[])\/(r≠[]/\s=c::jn c r))
 |[]=>⟨[],by simp[jn],.inl ⟨rfl,rfl⟩⟩
 |b::r=>⟨c::jn c (b::r),rfl,.inr ⟨by simp,rfl⟩⟩
theorem B2:∀{as bs:List (List Nat)},as≠[]->bs≠[]->(∀a∈as,c∉a)->(∀b∈bs,c∉b)->jn c as=jn c bs->as=bs
 |[],_,h,_,_,_,_=>absurd rfl h
 |_::_,[],_,h,_,_,_=>absurd rfl h
 |a::as,b::bs,_,_,h1,h2,e=>by
  obtain⟨s,es,cs⟩:=vD c a as;obtain⟨t,et,ct⟩:=vD c b bs;rw[es,et] at e;have ss:s=[]\/∃u,s=c::u:=cs.imp (·.2) λz=>⟨_,z.2⟩;have st:t=[]\/∃u,t=c::u:=ct.imp (·.2) λz=>⟨_,z.2⟩;have eab:a=b:=by
   have:=Nw (List.takeWhile (· != c)) e
   rwa [tw_free (h1 a MK) ss,tw_free (h2 b MK) st] at this
  subst eab;have est:s=t:=Rh e;rcases cs with ⟨r1,s1⟩|⟨r1,s1⟩<;>rcases ct with ⟨r2,s2⟩|⟨r2,s2⟩
  ·rw[r1,r2]
  ·rw[s1,s2] at est;cases est
  ·rw[s1,s2] at est;cases est
  ·rw[s1,s2] at est;rw[B2 r1 r2 (λx hx=>h1 x (MF _ hx)) (λx hx=>h2 x (MF _ hx)) (List.cons.inj est).2]
def iQ{c:Nat}{xs:List Str}(h:xs≠[])(hf:∀x∈xs,c∉cp x):Txt.split (Str.join ⟨#[c]⟩ xs) ⟨#[c]⟩=xs:=by
 have e:=StrLaws.join_split (Str.join ⟨#[c]⟩ xs) ⟨#[c]⟩;have e2:=Nw cp e;rw[lj,lj] at e2;have n:Txt.split (Str.join ⟨#[c]⟩ xs) ⟨#[c]⟩≠[]:=λz=>by
  have:=Ru (Str.join ⟨#[c]⟩ xs) ⟨#[c]⟩;rw[z] at this;exact absurd this ⋯
 have:=B2 (c:=c) (by simpa using n) (by simpa using h) (λa ha=>by obtain⟨z,hz,rfl⟩:=Nc.mp ha;exact StrLaws.split_free _ c z hz) (λa ha=>by obtain⟨z,hz,rfl⟩:=Nc.mp ha;exact hf z hz) e2
 have inj:Function.Injective cp:=λa b h=>qz h;exact (List.map_inj_right λa b h=>inj h).mp this
def Hq:List Nat:=[48,49,50,51,52,53,54,55,56,57]
def Dw:(Str.ofString "0123456789").cps.toList=Hq:=by decide +kernel
def CL(c:Nat):Y.Lw ⟨#[c]⟩ "0123456789"=decide (48<=c/\c<=57):=by
 unfold Y.Lw;rw[StrLaws.found_one];refine Og.mpr ?_;rw[show ("0123456789":Str).cps.toList=Hq from Dw];unfold Hq;simp only[M0,MP,Nl]
 omega
def u_(z:Str):Bool:=(cp z).all λc=>decide (48<=c/\c<=57)
def jN(z:Str):Bool:=!decide (z="") && u_ z && (decide (z="0") || !Txt.startswith z "0")
def rD:u_ z=true ↔ NumText.AllDigits (cp z):=by
 unfold u_ NumText.AllDigits;rw[NU];exact⟨λh c hc=>by simpa using h c hc,λh c hc=>by simpa using h c hc⟩
def valN(z:Str):Nat:=NumText.digitsVal (cp z)
def Iw(h:z≠""):cp z≠[]:=λe=>h (qz (by rw[e];rfl))
def vF(h:jN z=true)(hl:z.length<=4300):PySem.intText? z=some ((valN z:Nat):Int):=by
 unfold jN at h;simp only[NB,Bool.not_eq_true',Rg] at h;exact PySem.intText_digits (rD.mp h.1.2) (Iw h.1.1) hl
def gY(z:Str)(g:Nat):Option Nat:=if jN z=true/\z.length<=(Str.ofString (toString (g:Int))).length then (if valN z<=g then some (valN z) else none) else none
namespace Kr
def ks(L:Nat):List Nat->Nat
 |[]=>0
 |l::r=>2^(L-l)+ks L r
theorem cV(L:Nat):∀a b,ks L (a++b)=ks L a+ks L b
 |[],b=>by simp[ks]
 |x::a,b=>by simp[ks,cV L a b];lia
def qC{a b:List Nat}(h:a.Perm b):ks L a=ks L b:=by
 induction h with
 |nil=>rfl
 |cons x _ ih=>simp[ks,ih]
 |swap x y l=>simp[ks];lia
 |trans _ _ h1 h2=>exact h1.trans h2
def xX{d l:Nat}(h:d<l)(hl:l<=L):2^(L-d)=2*2^(L-(d+1)):=by
 have:L-d=(L-(d+1))+1:=by lia
 rw[this,Nat.pow_succ];lia
def fit:List Nat->Nat->Nat->Nat->Prop:=λr free depth L=>ks L r<=free*2^(L-depth)
theorem Fy{L d:Nat}:∀{r:List Nat},(∀x∈r,d<=x)->ks L r<=r.length*2^(L-d)
 |[],_=>by simp[ks]
 |x::r,h=>by
  have ih:=Fy (L:=L) (d:=d) (r:=r) λy hy=>h y (MF _ hy);have hx:=h x MK;have:=Qe (n:=2) ⋯ (Nat.sub_le_sub_left hx L)
  simp only[ks,MJ,QM];lia
def IS{x:Nat}{r:List Nat}:0<ks L (x::r):=by
 have:=Nat.pow_pos (n:=L-x) (show 0<2 by decide)
 simp only[ks];lia
def tZ{r:List Nat}{free depth:Nat}(h:∀x∈r,depth<=x)(hf:r.length<=free):fit r free depth L:=
 Mz (Fy h) (Nat.mul_le_mul_right _ hf)
def uj{r:List Nat}{free depth l:Nat}(h:depth<l)(hl:l<=L):fit r free depth L ↔ fit r (free*2) (depth+1) L:=by
 unfold fit;rw[xX h hl,RH]
def zI{r:List Nat}{free l:Nat}(hf:0<free):fit (l::r) free l L ↔ fit r (free-1) l L:=by
 unfold fit;simp only[ks];obtain⟨f,rfl⟩:∃f,free=f+1:=⟨free-1,by lia⟩
 rw[Nat.add_sub_cancel,QM];lia
def As{x:Nat}{r:List Nat}{depth L:Nat}:¬ fit (x::r) 0 depth L:=by
 unfold fit;have:=IS (L:=L) (x:=x) (r:=r);lia
end Kr
def _root_.L2.KB.n(k:KB [] H H'){o:HO}(e:H b=some o):H' b=some o:=k b o e MP
def _root_.L2.bS(h:H a=none)(o:HO):KB [] H (upd H a o)/\upd H a o a=some o:=⟨KB.new h,aa⟩
local macro_rules | `(tactic| walk_at "lc") => `(tactic| first | exact Or.inl rfl | exact Or.inr rfl)
local macro_rules | `(tactic| wp_walk using $ts,*) => do
  let ids := ("Nat.reduceAdd Nat.reduceSub L2.Ap.t9 L2.Ap.tC L2.Ap.Bq L2.Ap.JW L2.Ap.mF L2.Ap.KO L2.Ap.AA L2.Ap.Kl L2.Ap.Ab L2.Ap.rG L2.Ap.Cf L2.Ap.iT L2.Ap.iA L2.Ap.tK L2.Ap.Df L2.Ap.sE L2.Ap.iK L2.Ap.BS L2.Ap.CF L2.Ap.iE L2.Ap.yT L2.Ap.Hc L2.Ap.Bu L2.Ap.Km L2.Ap.jm L2.Ap.sI L2.Ap.xY L2.Ap.mG L2.Ap.aL L2.Ap.BV L2.Ap.nW L2.Ap.e8 L2.Ap.nY L2.Ap.Ct L2.Ap.qT L2.Ap.qo L2.Ap.rV L2.Ap.oh L2.Ap.Bt L2.Ap.rf El A_ L2.Ap.rI L2.Ap.Ba L2.Ap.rU L2.Ap.J8 L2.Ap.Jw L2.Ap.addRef L2.Ap.KC L2.Ap.LG L2.Ap.D9 L2.Ap.Ki L2.Ap.Ls L2.Ap.Lb L2.Ap.Ge L2.Ap.Kv L2.Ap.setRef L2.Ap.HM L2.Ap.GV L2.Ap.J_ L2.Ap.Lc L2.Ap.L0 L2.Ap.Lo L2.Ap.uv L2.Ap.Ky L2.Ap.J7 L2.Ap.Lp L2.Ap.HW L2.Ap.Ec L2.Ap.Mc L2.start uK Hk L7 L8 HC List.map_cons List.map_nil List.length_cons List.length_nil List.replicate List.cons_append List.nil_append List.append_nil List.getElem?_cons_zero List.getElem?_cons_succ List.set_cons_zero List.set_cons_succ Option.some.injEq exists_eq_left exists_eq_left' V.int.injEq V.str.injEq V.bl.injEq V.ref.injEq List.cons.injEq and_true true_and decide_eq_true_eq Bool.not_eq_true' decide_eq_false_iff_not Bool.false_eq_true L2.Ap.Az L2.Ap.AV L2.Ap.nB L2.Ap.n8 L2.Ap.r8 L2.Ap.B0 L2.Ap.C7 L2.Ap.BI L2.Ap.Ci L2.Ap.lM L2.Ap.lK".splitOn " ").toArray.map λn => Lean.mkIdent n.toName
  `(tactic| simp only [↓reduceIte, $[$ids:ident],*, $[$ts:term],*])
local macro_rules | `(tactic| nofun) => `(tactic| wp_walk using and_self)
local macro_rules|`(tactic|right)=>`(tactic|walk_at "lc")
local macro_rules|`(tactic|exists $ts,*)=>`(tactic|wp_walk using $ts,*)
local macro_rules | `(tactic| walk_at "q") => `(tactic| (intro _ _ _ _ h; repeat (first | (rw [h.1]; rfl) | (rw [h]; rfl) | obtain ⟨_, h⟩ := h)))
local macro_rules|`(tactic|symm)=>do
  let n:=Lean.mkIdent `N
  let h:=Lean.mkIdent `hN
  `(tactic|refine ax fun $n $h=>?_)
local macro_rules|`(tactic|left)=>do
  let i:=#[`f,`cdv,`A,`outer,`s,`H,`vs,`Q,`E,`hr,`h].map Lean.mkIdent
  let u:=Lean.mkIdent `hu
  `(tactic|(intro $[$i:ident]*;have $u:ident:=a9 $(Lean.mkIdent `hr)))
local macro_rules|`(tactic|rfl')=>do
  let i:=#[`cdv,`A,`outer,`s,`H,`vs,`Q,`E,`hr,`h].map Lean.mkIdent
  let u:=Lean.mkIdent `hu
  `(tactic|(intro $[$i:ident]*;have $u:ident:=a9 $(Lean.mkIdent `hr)))
local macro_rules|`(tactic|ac_rfl)=>`(tactic|walk_at "q")
def yx{K:W.Frag}(hn:z.cps.size<=sizeLine)(Pv:Addr->Nat->List V->Hp->Prop)(h0:∀D,H D=none->Pv D 0 [] (upd H D (.lst [])))(hD:∀D i ys H',Pv D i ys H'->H' D=some (.lst ys)/\ys.length=i)
  (hs:∀D i ys H' c (R:VK),z.cps[i]?=some c->Pv D i ys H'->(∀v H5,H5 D=some (.lst ys)->Pv D (i+1) (ys++[v]) (upd H5 D (.lst (ys++[v])))->R v H5)->te (some (.str ⟨#[c]⟩)::σ) H' R) (hd:∀D ys H',Pv D z.cps.size ys H'->Q (.ref D) H') :
  ib (JV z) 1 (aL 0) dP te Q σ H:=by
 intro D hD0;refine⟨λi m ys σ' H'=>m=z.cps.size-i/\i<=z.cps.size/\Pv D i ys H'/\∃o,σ'=o::σ,⟨z.cps.size,by simp,MG _,h0 D hD0,none,rfl⟩,?_⟩
 rintro i m ys σ' H' ⟨rfl,hi,p,o,rfl⟩;obtain⟨hDi,hly⟩:=hD _ _ _ _ p;refine⟨hDi,?_⟩;by_cases hlt:i<z.cps.size
 ·refine .inr ⟨hlt,by lia,λx H2 y=>?_⟩
  obtain⟨rfl,c,e,rfl⟩:=y;unfold aL dP;dsimp only;rw[if_pos rfl];exact hs D i ys H2 c _ e p λv H5 q1 q2=>⟨q1,z.cps.size-(i+1),by lia,rfl,hlt,q2,_,rfl⟩
 ·have e:i=z.cps.size:=by lia
  subst e;exact .inl ⟨M8 _,hd D ys H' p⟩
def qJ:Sp:=λvs H Q _=>∃z:Str,vs=[.str z]/\z.length<=100000/\∀H',KB [] H H'->Q (.bl (jN z)) H'
def Au(T:Txt K mg)(F:HasFn K mg "is_number" fv ["text"]):ao P w K mg base aF 1 "is_number" ["text"] qJ:=by
 obtain⟨u_F,af2,af1⟩:=T.yf;refine F.dH qN (by ac_rfl) ?_
 left
 obtain⟨z,rfl,hz,q⟩:=h;refine⟨_,(Z.aq (Z.dz (Z.tw (Z.Gd (Z.aK aY (Z.v 0) Z.str) (Z.sj (Z.j7 (Z.j6 K rfl (Z.allB K rfl rfl rfl T.J5 (Z.cons (Z.mT (osc:=ab fv) (ON:=["text"]) (own:=["sign"]) (N:=["sign","text"]) (az.of rfl ∅) (Z.Mj (Z.v 0)) (λnd _ _ _ _=>(Z.aA (i:=0) nd rfl (by right))) (λ_ _ _ _=>Z.je) (λ_ _ _ _=>(Z.cmp (Z.yB K rfl hu) (Z.v 0) (Z.glob rfl af2 af1)))) Z.nil))))))) (Z.ay (Z.ret Z.bl)) Z.bp)
   (Z.ay (Z.ret (Z.or (Z.cmp aY (Z.v 0) Z.str) (Z.one (Z.not (Z.bm K rfl PySem.F.plainAttrs_str PySem.F.slot_str_startswith PySem.F.type_str_startswith Y.yD (Z.v 0) (Z.cons Z.str Z.nil)))))))),?_⟩
 symm;nofun;have q2:∀b H',jN z=b->KB [] H H'->Q (.bl b) H':=λb H' e k=>by rw[<- e];exact q _ k
 by_cases h0:z=Str.ofString ""
 ·rw[MD h0];exact q2 _ _ (by unfold jN;rw[Nq (show z="" from h0)];rfl) (KB.refl _ _)
 rw[M4 h0];refine yx (K:=K) (Mz (show z.cps.size<=100000 from hz) ⋯) (λD i ys G=>H D=none/\G D=some (.lst ys)/\KB [] H G/\i<=(cp z).length/\ys=(((cp z).take i).map λc=>decide (48<=c/\c<=57)).map V.bl) (λD hD=>⟨hD,aa,KB.new hD,MG _,rfl⟩) (λD i ys G h=>⟨h.2.1,by rw[h.2.2.2.2,Ms,Ms,MB];have:=h.2.2.2.1;lia⟩) ?_ ?_
 ·rintro D i ys G c R hc ⟨g0,g1,gk,hi,rfl⟩ kk;have et:(cp z).take (i+1)=(cp z).take i++[c]:=by rw[Ni,show (cp z)[i]?=some c from by unfold cp;rw[Nj];exact hc];rfl
  have hlt:i<(cp z).length:=by rw[gu];exact (Oe.mp hc).1
  nofun;refine⟨_,rfl,?_⟩;have e:=CL c;unfold Y.Lw at e;rw[M4 ML];refine kk _ _ g1 ⟨g0,aa,λu o e _=>by rw[af (ae e g0)];exact gk.n e,hlt,?_⟩
  rw[et,MI,MI];exact Nw (_++[V.bl ·]) e
 rintro D ys G ⟨_,g1,gk,_,rfl⟩;refine⟨D,_,rfl,aT.of g1,?_⟩;have hd:(((cp z).take z.cps.size).map λc=>decide (48<=c/\c<=57)).all id=u_ z:=by
  unfold u_;rw[Ng (by rw[gu];exact M8 _),List.all_map];rfl
 rw[hd];refine⟨_,rfl,?_⟩
 cases hdz:u_ z with
 |false =>
  rw[MD rfl];exact q2 _ _ (by unfold jN;rw[hdz];simp) gk
 |true =>
  rw[M4 ⋯,hN]
  have hn:jN z=(decide (z="0") || !Txt.startswith z "0"):=by unfold jN;rw[hdz,MW (show ¬ z="" from h0)];simp
  nofun;by_cases h1:z=Str.ofString "0"
  ·rw[MD h1];exact q2 _ _ (by rw[hn,Nq (show z="0" from h1)];rfl) gk
  ·rw[M4 h1];exact⟨rfl,z,"0",rfl,rfl,_,rfl,q2 _ _ (by rw[hn,MW (show ¬ z="0" from h1)];rfl) gk⟩
def oz{g:Nat}(h:g<=100000):(Str.ofString (toString ((g:Nat):Int))).length<=10:=by
 have:=W.KT.len_num (n:=(g:Int)) (by omega) (by omega)
 exact this
def fM{g:Nat}(h:g<=100000):((g:Nat):Int).natAbs.log2<1920:=by
 rw[Int.natAbs_natCast];rcases Nat.eq_zero_or_pos g with rfl|h0
 ·decide
 ·exact (Nat.log2_lt (by omega)).mpr (N3 h (Nf (by decide:100000<2^17) (Qe ⋯ ⋯)))
def LP(o:Option Nat):V:=match o with
 |some n=>.int (n:Nat)
 |none=>.aN
def qM:Sp:=λvs H Q _=>∃(z:Str) (g:Nat),vs=[.str z,.int (g:Nat)]/\z.length<=100000/\g<=100000/\∀H',KB [] H H'->Q (LP (gY z g)) H'
def zh(T:Txt K mg)(F:HasFn K mg "read_number" fG ["text","greatest"])(V5:ao P w K mg base aF 1 "is_number" ["text"] qJ):ao P w K mg base aF 2 "read_number" ["text","greatest"] qM:=by
 refine F.dH gZ (by ac_rfl) ?_
 left
 obtain⟨z,g,rfl,hz,hg,q⟩:=h;refine⟨_,(Z.aq (Z.dz (Z.tw (Z.Gd (Z.j7 (Z.j6 K rfl (Z.fc V5 (Z.cons (Z.v 0) Z.nil)))) (Z.sj (Z.aK rT (Z.cb (Z.bL K rfl) rfl T.bA ∅ (Z.cons (Z.v 0) Z.nil)) (Z.cb (Z.bL K rfl) rfl T.bA ∅ (Z.cons (Z.ct cz rfl T.iq ∅ (Z.cons (Z.v 1) Z.nil)) Z.nil)))))) (Z.ay (Z.ret Z.aN)) Z.bp)
   (Z.aq (Z.se (i:=2) gZ.nd (Z.ct Y.o_ rfl T.qV ∅ (Z.cons (Z.v 0) Z.nil)))
   (Z.ay (Z.ret (Z.Ag (Z.aK C8 (Z.v 2) (Z.v 1)) (Z.v 2) Z.aN))))),?_⟩
 have hl:=oz hg;symm;nofun;refine⟨z,rfl,hz,λH1 k1=>?_⟩;refine⟨_,rfl,?_⟩
 cases hn:jN z with
 |false =>
  rw[MD rfl];have:=q H1 k1;rw[show gY z g=none by unfold gY;rw[M4 (by rw[hn];simp)]] at this
  exact this
 |true =>
  rw[M4 ⋯]
  refine⟨Mz hz ⋯,fM hg,Mz hl ⋯,?_⟩
  by_cases h1:((Str.ofString (toString ((g:Nat):Int))).length:Int)<(z.length:Int)
  ·rw[MD h1];have:=q H1 k1;rw[show gY z g=none by unfold gY;rw[M4 (by lia)]] at this
   exact this
  ·rw[M4 h1,hN];have e:gY z g=if valN z<=g then some (valN z) else none:=by unfold gY;rw[MD ⟨hn,by lia⟩]
   rw[e] at q;symm;nofun;refine .inr ⟨z,_,rfl,vF hn (by lia),by lia,?_⟩
   show N _ _;rw[hN];by_cases h2:valN z<=g
   ·have:=q H1 k1;rw[MD h2] at this;exists MD (show ((valN z:Nat):Int)<=(g:Int) by lia)
    exact this
   ·have:=q H1 k1;rw[M4 h2] at this;exists M4 (show ¬ ((valN z:Nat):Int)<=(g:Int) by lia)
    exact this
def iV(xs:List Int):List V:=xs.map V.int
def cu(xs:List Int):(iV xs).length=xs.length:=Ms ..
def pG(xs ys:List Int):iV (xs++ys)=iV xs++iV ys:=MI
def Fz{xs:List Int}(h:i<xs.length):bQ (iV xs) (i:Int)=some (.int xs[i]):=aV (by unfold iV;rw[M7,Mt h];rfl)
def qG{xs:List Int}{v:V}(h:(iV xs)[i]?=some v):∃hi:i<xs.length,v=.int xs[i]:=by
 unfold iV at h;rw[M7] at h
 cases e:xs[i]? with
 |none=>rw[e] at h;cases h
 |some x=>rw[e] at h;cases h;obtain⟨hi,rfl⟩:=Mw.mp e;exact⟨hi,rfl⟩
def GI(xs:List Int)(i:Nat)(x:Int):(iV xs).set i (.int x)=iV (xs.set i x):=by unfold iV;rw[Pc]
def Jf(h:(i:Int)<(xs.length:Nat)):∃t,t∈xs/\bQ xs (i:Int)=some t:=by
 have hn:i<xs.length:=by lia
 exact⟨xs[i],MQ hn,aV (Mt hn)⟩
def pJ(ls:List Int):Prop:=0<ls.length/\ls.length<=20/\∀x∈ls,1<=x/\x<=20
def KS(ls:List Int):Nat:=Kr.ks 40 (ls.map Int.toNat)
def uJ(ls:List Int):Bool:=decide (KS ls<=2^40)
namespace Cw
def inc:List Nat->List Nat
 |[]=>[]
 |c::r=>if r.all (· == 49) then (if c=48 then 49::r.map (λ_=>48) else 48::r.map (λ_=>48)) else c::inc r
def pad(n:Nat)(w:List Nat):List Nat:=w++List.replicate (n-w.length) 48
def fP(w:List Nat)(n:Nat):List Nat:=pad n (inc w)
def gW(w:List Nat)(n:Nat):List Nat:=pad n ((w.reverse.dropWhile (· == 49)).reverse.dropLast++[49])
theorem p8:∀{l:List Nat},l.all (· == 49)=true->l=List.replicate l.length 49
 |[],_=>rfl
 |c::r,h=>by
  rw[NY,NB] at h;have hc:c=49:=Py.mp h.1;rw[MJ,Nz,<- p8 h.2,hc]
def CO(k:Nat):(List.replicate k 49).all (· == 49)=true:=by
 rw[NU];intro x hx;rw[(NV.mp hx).2];rfl
theorem parts:∀{w:List Nat},(∀c∈w,c=48\/c=49)->w.all (· == 49)=false->∃p k,w=p++48::List.replicate k 49
 |[],_,h=>by cases h
 |c::r,hb,h=>by
  by_cases z:r.all (· == 49)=true
  ·rw[NY,z,Bool.and_true] at h;have hc:c=48:=(hb c MK).resolve_right λe=>by rw[e] at h;cases h
   exact⟨[],r.length,by rw[hc,Ob,<- p8 z]⟩
  ·obtain⟨p,k,e⟩:=parts (w:=r) (λx hx=>hb x (MF _ hx)) (by simpa using z)
   exact⟨c::p,k,by rw[e];rfl⟩
theorem i5(k:Nat):∀p:List Nat,inc (p++48::List.replicate k 49)=p++49::List.replicate k 48
 |[]=>by
  rw[Ob,Ob];unfold inc;rw[MD (CO k),MD rfl,OS]
 |c::p=>by
  rw[NL];unfold inc;have z:¬ (p++48::List.replicate k 49).all (· == 49)=true:=by
   rw[List.all_append,NY];simp
  rw[M4 z,i5 k p];rfl
def uN(k:Nat)(p:List Nat):((p++48::List.replicate k 49).reverse.dropWhile (· == 49)).reverse=p++[48]:=by
 rw[Qj,List.reverse_cons,List.reverse_replicate];have e:∀(k:Nat) (t:List Nat),(List.replicate k 49++[48]++t).dropWhile (· == 49)=[48]++t:=λk t=>by
  induction k with
  |zero=>rfl
  |succ k ih=>rw[Nz,NL,NL,Qh,MD ⋯];exact ih
 rw[e,Qj,Qc];rfl
def oZ{w:List Nat}{n:Nat}(hb:∀c∈w,c=48\/c=49)(h:w.all (· == 49)=false)(hn:w.length<=n):gW w n=fP w n:=by
 obtain⟨p,k,rfl⟩:=parts hb h;unfold gW fP pad;rw[uN,i5,List.dropLast_append_of_ne_nil (by simp)]
 rw[Mx,MJ,MO] at hn;simp only[List.dropLast_singleton,Nm,Mx,MJ,MO,N0,MX,NL,Ob];congr 2;rw[List.replicate_append_replicate];congr 1;lia
def val:List Nat->Nat
 |[]=>0
 |c::r=>(c-48)*2^r.length+val r
theorem j4:∀a b:List Nat,val (a++b)=val a*2^b.length+val b
 |[],b=>by simp[val]
 |c::a,b=>by
  rw[NL,val,val,j4 a b,Mx,Nat.pow_add,Nat.add_mul,RH,RI]
theorem fL:∀k,val (List.replicate k 48)=0
 |0=>rfl
 |k+1=>by rw[Nz,val,fL k];simp
theorem m_:∀k,val (List.replicate k 49)+1=2^k
 |0=>rfl
 |k+1=>by
  have:=m_ k;rw[Nz,val,MO,Nat.pow_succ];lia
theorem qj:∀w:List Nat,(inc w).length=w.length
 |[]=>rfl
 |c::r=>by
  unfold inc;split
  ·split<;>simp
  ·rw[MJ,MJ,qj r]
theorem rq:∀{w:List Nat},(∀c∈w,c=48\/c=49)->∀c∈inc w,c=48\/c=49
 |[],_,_,h=>by cases h
 |d::r,hb,c,h=>by
  unfold inc at h
  split at h
  ·split at h
   ·rcases M0.mp h with h|h
    ·exact .inr h
    ·obtain⟨_,_,e⟩:=Nc.mp h;exact .inl e.symm
   ·rcases M0.mp h with h|h
    ·exact .inl h
    ·obtain⟨_,_,e⟩:=Nc.mp h;exact .inl e.symm
  ·rcases M0.mp h with h|h
   ·rw[h];exact hb d MK
   ·exact rq (λx hx=>hb x (MF _ hx)) c h
def eO{w:List Nat}{n:Nat}(h:w.length<=n):(fP w n).length=n:=by
 unfold fP pad;rw[Mx,MO,qj];lia
def oC{w:List Nat}{n:Nat}(hb:∀c∈w,c=48\/c=49):∀c∈fP w n,c=48\/c=49:=λc h=>by
 rcases N2.mp h with h|h
 ·exact rq hb c h
 ·exact .inl (NV.mp h).2
def sf{w:List Nat}{n:Nat}(hb:∀c∈w,c=48\/c=49)(h:w.all (· == 49)=false):val (fP w n)=(val w+1)*2^(n-w.length):=by
 unfold fP pad;rw[j4,fL,MO,qj,QX];congr 1;obtain⟨p,k,rfl⟩:=parts hb h;have:=m_ k;rw[i5,j4,j4,val,val,fL,MJ,MJ,MO,MO];lia
def BG{w:List Nat}(h:w.all (· == 49)=true):val w+1=2^w.length:=by
 rw[p8 h,MO];exact m_ _
structure jb (done:List Nat) (w:List Nat):Prop where
 bits:∀c∈w,c=48\/c=49
 len:w.length<=40
 sum:(val w+1)*2^(40-w.length)=Kr.ks 40 done
def jb.zero{done rest w:List Nat}{l:Nat}(h:jb done w)(hk:Kr.ks 40 done+2^(40-l)<=2^40):w.all (· == 49)=false:=by
 cases z:w.all (· == 49) with
 |false=>rfl
 |true =>
  have e:=h.sum;rw[BG z,<- Nat.pow_add,Nat.add_sub_cancel' h.len] at e;have:0<2^(40-l):=Nat.pow_pos ⋯
  lia
def jb.next{done w:List Nat}{l:Nat}(h:jb done w)(hl:w.length<=l)(hl2:l<=40)(hk:Kr.ks 40 done+2^(40-l)<=2^40):jb (done++[l]) (fP w l):=by
 have z:=h.zero (rest:=[]) hk;refine⟨oC h.bits,by rw[eO hl];exact hl2,?_⟩
 rw[sf h.bits z,eO hl,Nat.add_mul,RH,<- Nat.pow_add,Kr.cV,<- h.sum];have e:l-w.length+(40-l)=40-w.length:=by lia
 rw[e];simp[Kr.ks]
def jb.first{l:Nat}(hl:l<=40):jb [l] (List.replicate l 48):=⟨λc h=>.inl (NV.mp h).2,by rw[MO];exact hl,by rw[fL,MO];simp[Kr.ks]⟩
def along(nx:List Nat->Nat->List Nat)(ln:Nat->Nat):List Nat->Option (List Nat)×List (List Nat)->Option (List Nat)×List (List Nat)
 |[],s=>s
 |t::r,(a,ws) =>
  let w:=match a with|none=>List.replicate (ln t) 48|some v=>nx v (ln t)
  along nx ln r (some w,ws.set t w)
theorem jc:∀(order done:List Nat) (a:Option (List Nat)) (ws:List (List Nat)),(order.Pairwise λi j=>ln i<=ln j)->(∀t∈order,ln t<=40)->(∀v,a=some v->jb done v/\∀t∈order,v.length<=ln t)->(a=none->done=[])->Kr.ks 40 (done++order.map ln)<=2^40->along gW ln order (a,ws)=along fP ln order (a,ws)
 |[],_,_,_,_,_,_,_,_=>rfl
 |t::r,done,a,ws,hp,h20,ha,hn,hk=>by
  obtain⟨p1,p2⟩:=Nn.mp hp;have ht:=h20 t MK;have hk':Kr.ks 40 ((done++[ln t])++r.map ln)<=2^40:=by rw[MX];exact hk
  cases a with
  |none =>
   have:=hn rfl;subst this;exact jc r [ln t] _ _ p2 (λx hx=>h20 x (MF _ hx)) (λv e=>by cases e;exact⟨jb.first ht,λx hx=>by rw[MO];exact p1 x hx⟩) (λe=>by cases e) hk'
  |some v =>
   obtain⟨hv,hl⟩:=ha v rfl;have hvl:=hl t MK;have hk2:Kr.ks 40 done+2^(40-ln t)<=2^40:=by
    rw[Kr.cV,Kr.cV] at hk';simp[Kr.ks] at hk';lia
   have e:=oZ hv.bits (hv.zero (rest:=[]) hk2) hvl;show along gW ln r (some (gW v (ln t)),ws.set t (gW v (ln t)))=along fP ln r (some (fP v (ln t)),ws.set t (fP v (ln t)));rw[e];exact jc r (done++[ln t]) _ _ p2 (λx hx=>h20 x (MF _ hx)) (λu e=>by cases e;exact⟨hv.next hvl ht hk2,λx hx=>by rw[eO hvl];exact p1 x hx⟩) (λe=>by cases e) hk'
theorem gn{nx:List Nat->Nat->List Nat}:∀(a b:List Nat) (s:Option (List Nat)×List (List Nat)),along nx ln (a++b) s=along nx ln b (along nx ln a s)
 |[],_,_=>rfl
 |t::r,b,(a,ws)=>gn r b _
theorem i3{nx:List Nat->Nat->List Nat}:∀(o:List Nat) (s:Option (List Nat)×List (List Nat)),(along nx ln o s).2.length=s.2.length
 |[],_=>rfl
 |t::r,(a,ws)=>(i3 r _).trans Oa
end Cw
def wd(w:List Nat):Str:=⟨w.toArray⟩
def bu(w:List Nat):(wd w).length=w.length:=MC ..
def FD{x:Str}{w:List Nat}(h:x.cps.toList=w):x=wd w:=by
 cases x with|mk a=>subst h;unfold wd;rw[Ph]
def J6:Sp:=λvs H Q _=>∃n:Nat,n<=40/\((vs=[.aN,.int (n:Int)]/\Q (.str (wd (List.replicate n 48))) H)\/∃w,vs=[.str (wd w),.int (n:Int)]/\w.length<=40/\Q (.str (wd (Cw.gW w n))) H)
def yM(T:Txt K mg)(F:HasFn K mg "word_behind" fC ["ahead","length"]):ao P w K mg base aF 1 "word_behind" ["ahead","length"] J6:=by
 refine F.dH mE (λvs H Q E h=>?_) (λf cdv A outer s H vs Q E hr h=>?_)
 ·obtain⟨n,hn,⟨rfl,_⟩|⟨_,rfl,_⟩⟩:=h<;>rfl
 ·have hu:=a9 hr;obtain⟨n,hn,h⟩:=h;rcases h with ⟨rfl,q⟩|⟨v,rfl,hv,q⟩
  ·refine⟨_,(Z.aq (Z.dz (Z.aK g_ (Z.v 0) Z.aN) (Z.ay (Z.ret (Z.op Y.xi Z.str (Z.v 1)))) Z.bp)
   (Z.ay (Z.ret (Z.bm K rfl PySem.F.plainAttrs_str PySem.F.slot_str_ljust PySem.F.type_str_ljust Y.rK (Z.op (Z.aI K rfl) (Z.slice Y.pE (Z.bm K rfl PySem.F.plainAttrs_str PySem.F.slot_str_rstrip PySem.F.type_str_rstrip Y.oq (Z.v 0) (Z.cons Z.str Z.nil)) Z.nI (Z.nG (Z.un cB Z.int))) Z.str) (Z.cons (Z.v 1) (Z.cons Z.str Z.nil)))))),?_⟩
   symm;nofun;refine⟨48,_,rfl,rfl,by lia,by lia,?_⟩
   rw[MY];exact q
  ·refine⟨_,(Z.aq (Z.dz (Z.aK g_ (Z.v 0) Z.aN) (Z.ay (Z.ret (Z.op Y.xi Z.str (Z.v 1)))) Z.bp)
   (Z.ay (Z.ret (Z.bm K rfl PySem.F.plainAttrs_str PySem.F.slot_str_ljust PySem.F.type_str_ljust Y.rK (Z.op (Z.aI K rfl) (Z.slice Y.pE (Z.bm K rfl PySem.F.plainAttrs_str PySem.F.slot_str_rstrip PySem.F.type_str_rstrip Y.oq (Z.v 0) (Z.cons Z.str Z.nil)) Z.nI (Z.nG (Z.un cB Z.int))) Z.str) (Z.cons (Z.v 1) (Z.cons Z.str Z.nil)))))),?_⟩
   symm;nofun;subst hN;nofun;rw[M4 V.noConfusion];refine⟨rfl,wd v,_,rfl,rfl,by rw[bu];exact Mz hv ⋯,?_⟩
   have e0:(Str.ofString "1").cps.contains=λc:Nat=>c == 49:=by
    funext c
    show (#[49]:Array Nat).contains c=_;rw[Array.contains_eq_any_beq];simp
   have e1:=sJ (wd v) (Str.ofString "1");rw[e0] at e1;have e2:(Txt.rstripChars (wd v) (Str.ofString "1")).cps.toList=(v.reverse.dropWhile (· == 49)).reverse:=by
    rw[<- Qc (Txt.rstripChars (wd v) (Str.ofString "1")).cps.toList,e1];rfl
   generalize Txt.rstripChars (wd v) (Str.ofString "1")=r at e2 ⊢;have hr2:r.length<=40:=by
    have:r.length=r.cps.toList.length:=by rw[Np];rfl
    rw[this,e2,OG];exact Mz (Rv _).length_le (by rw[OG];exact hv)
   have e3:(Y.jH r none (some (-1))).cps.toList=r.cps.toList.dropLast:=by
    show (Y.sR r.cps.toList none (some (-1))).toArray.toList=_;rw[Pl];unfold Y.sR;rw[HT.bW,NH,OB,R9];congr 1;show (if (-1:Int)<0 then ((-1:Int)+(r.cps.toList.length:Int)).toNat else min (-1:Int).toNat r.cps.toList.length)=_
    rw[MD ⋯]
    lia
   have hl3:(Y.jH r none (some (-1))).length<=40:=by
    have:(Y.jH r none (some (-1))).length=(Y.jH r none (some (-1))).cps.toList.length:=by rw[Np];rfl
    rw[this,e3,Qf,Np];exact Mz (Nat.sub_le _ _) hr2
   refine⟨r,rfl,Mz hr2 ⋯,?_⟩
   refine⟨Mz (show _<=41 from Nat.add_le_add_right hl3 1) ⋯,rfl,_,(n:Int),_,rfl,rfl,by lia,by lia,rfl,?_⟩
   have e4:Txt.ljustF (Y.jH r none (some (-1))++Str.ofString "1") (n:Int) ((Str.ofString "0").cps.getD 0 0)=wd (Cw.gW v n):=by
    refine FD ?_;rw[PyProof.Rows.ljustF_list,MY];have e5:(Y.jH r none (some (-1))++Str.ofString "1").cps.toList=(v.reverse.dropWhile (· == 49)).reverse.dropLast++[49]:=by
     show ((Y.jH r none (some (-1))).cps++#[49]).toList=_;rw[Ou,e3,e2]
    have e6:(Y.jH r none (some (-1))++Str.ofString "1").length=((v.reverse.dropWhile (· == 49)).reverse.dropLast++[49]).length:=by
     rw[<- e5,Np];rfl
    rw[e5,e6];rfl
   rw[e4];exact q
structure Pf (ws:List (List Nat)):Prop where
 ne:∀w∈ws,w≠[]
 pre:∀(i j:Nat) (hi:i<ws.length) (hj:j<ws.length),i≠j->¬ ws[i] <+: ws[j]
def wV(ws:List (List Nat)):List V:=ws.map λw=>.str (wd w)
def ER:Option Nat->V
 |none=>.aN
 |some t=>.int (t:Int)
def eL:Nat->List Nat
 |0=>[48]
 |1=>[49,48]
 |_=>[49,49]
def dG:Nat->Nat
 |0=>4
 |1=>8
 |_=>16
def eY(k:Nat):Int:=if k=0 then 8 else if k=1 then 128 else 32768
def qQ(h:k<3):k=0\/k=1\/k=2:=by lia
def DP(u:_root_.Fin 3):u=0\/u=1\/u=2:=by revert u;decide
def Ji{b:Nat}(h:b<8):b=0\/b=1\/b=2\/b=3\/b=4\/b=5\/b=6\/b=7:=by lia
def Ld{l:List α}(h:l.length=8):∃a b c d e f g i,l=[a,b,c,d,e,f,g,i]:=by
 rcases l with _|⟨a,_|⟨b,_|⟨c,_|⟨d,_|⟨e,_|⟨f,_|⟨g,_|⟨i,_|⟨j,l⟩⟩⟩⟩⟩⟩⟩⟩⟩<;>first|exact⟨_,_,_,_,_,_,_,_,rfl⟩ | (exfalso;revert h;simp)
inductive Row where
 |put (b n:Nat)|two (w:Fin 3) (a b:Nat)|one (w:Fin 2) (b:Nat)|jump (g:Nat)|zero (b g:Nat)|halt
 deriving DecidableEq
def bD(i:Nat):Str:=⟨#[97+i]⟩
def w2:Fin 3->Str
 |0=>"add"
 |1=>"sub"
 |2=>"copy"
def w1:Fin 2->Str
 |0=>"tell"
 |1=>"hear"
inductive iG where
 |s (z:Str)|n (k:Nat)
def Row.ps:Row->List iG
 |.put b n=>[.s "put",.s (bD b),.n n]
 |.two w a b=>[.s (w2 w),.s (bD a),.s (bD b)]
 |.one w b=>[.s (w1 w),.s (bD b)]
 |.jump g=>[.s "jump",.n g]
 |.zero b g=>[.s "zero",.s (bD b),.n g]
 |.halt=>[.s "halt"]
def Row.Ok(size:Nat):Row->Prop
 |.put b n=>b<8/\n<65536
 |.two _ a b=>a<8/\b<8
 |.one _ b=>b<8
 |.jump g=>g<=size
 |.zero b g=>b<8/\g<=size
 |.halt=>True
def Row.Ok.mono{a b:Nat}{r:Row}(h:r.Ok a)(hm:a<=b):r.Ok b:=by
 cases r<;>simp only[Row.Ok] at h ⊢<;>lia
def H_{k:Int}(h0:0<=k)(h1:k<8):bQ (Str.ofString "abcdefgh").cps.toList k=some (97+k.toNat):=by
 have e:(Str.ofString "abcdefgh").cps.toList=[97,98,99,100,101,102,103,104]:=by decide +kernel
 rw[e];obtain⟨n,rfl⟩:∃n:Nat,k=n:=⟨k.toNat,by lia⟩
 unfold bQ jE;have hn:n<8:=by lia
 rw[MD (by lia),MD (by simp;lia)]
 show [97,98,99,100,101,102,103,104][((n:Nat):Int).toNat]?=some (97+((n:Nat):Int).toNat);rw[MY];rcases Ji hn with rfl|rfl|rfl|rfl|rfl|rfl|rfl|rfl<;>rfl
def aR(ls:List Int)(t:Nat):Nat:=(ls.getD t 0).toNat
def aC(ls:List Int):List Nat:=kY ls (List.range ls.length)
def wordsOf(nx:List Nat->Nat->List Nat)(ls:List Int):List (List Nat):=(Cw.along nx (aR ls) (aC ls) (none,List.replicate ls.length [])).2
def gB(ls:List Int)(done:List Nat):Option (List Nat)×List (List Nat):=Cw.along Cw.gW (aR ls) done (none,List.replicate ls.length [])
def wq{v:List Nat}{n:Nat}(hv:v.length<=40)(hn:n<=40):(Cw.gW v n).length<=40:=by
 have h1:((v.reverse.dropWhile (· == 49)).reverse.dropLast).length<=39:=by
  rw[Qf,OG];have:=(Rv (· == 49) (l:=v.reverse)).length_le;rw[OG] at this;lia
 unfold Cw.gW Cw.pad;rw[Mx,MO,Mx,PM];lia
def j0(h:t∈aC ls):t<ls.length:=Ov.mp ((mY (by rw[Nr])).mem_iff.mp h)
def HV(ls:List Int)(done:List Nat):(gB ls done).2.length=ls.length:=by
 unfold gB;rw[Cw.i3,MO]
namespace Cw
def Dv(a b:List Nat):Prop:=∃u,u++[48] <+: a/\u++[49] <+: b
def rN{u v:List Nat}{d:Nat}{b:List Nat}(h1:u++[c] <+: b)(h2:v++[d] <+: b)(hl:u.length<v.length):u++[c] <+: v:=by
 have h3:v <+: b:=(Qu v [d]).trans h2;exact OI h1 h3 (by rw[Mx];exact hl)
def Dv.trans{a b c:List Nat}(h:Dv a b)(g:Dv b c):Dv a c:=by
 obtain⟨u,h1,h2⟩:=h;obtain⟨v,g1,g2⟩:=g;rcases OX u.length v.length with e|e|e
 ·exact⟨u,h1,(rN h2 g1 e).trans ((Qu v [49]).trans g2)⟩
 ·have p1:(u++[49]).length=(v++[48]).length:=by rw[Mx,Mx,e];rfl
  have p2:u++[49]=v++[48]:=(OI h2 g1 (by lia)).eq_of_length p1
  have p3:[49]=[48]:=(List.append_inj' p2 rfl).2;exact absurd p3 ⋯
 ·exact⟨v,(rN g1 h2 e).trans ((Qu u [48]).trans h1),g2⟩
def Dv.not{a b:List Nat}(h:Dv a b):¬ a <+: b/\¬ b <+: a:=by
 obtain⟨u,h1,h2⟩:=h;have key:∀c,u++[48] <+: c->u++[49] <+: c->False:=λc p q=>by
  have e:u++[48]=u++[49]:=(OI p q (by simp)).eq_of_length (by simp)
  exact absurd (Rh e) ⋯
 exact⟨λp=>key b (h1.trans p) h2,λp=>key a h1 (h2.trans p)⟩
def EB{w:List Nat}{n:Nat}(hb:∀c∈w,c=48\/c=49)(h:w.all (· == 49)=false):Dv w (fP w n):=by
 obtain⟨p,k,rfl⟩:=parts hb h;unfold fP pad;rw[i5];exact⟨p,⟨List.replicate k 49,by simp⟩,⟨List.replicate k 48++List.replicate (n-(p++49::List.replicate k 48).length) 48,by simp⟩⟩
def nF(ln:Nat->Nat)(a:Option (List Nat))(t:Nat):List Nat:=match a with
 |none=>List.replicate (ln t) 48
 |some v=>gW v (ln t)
def lS(ln:Nat->Nat):Option (List Nat)->List Nat->List (List Nat)
 |_,[]=>[]
 |a,t::r=>nF ln a t::lS ln (some (nF ln a t)) r
theorem zv:∀(order done:List Nat) (a:Option (List Nat)),(order.Pairwise λi j=>ln i<=ln j)->(∀t∈order,ln t<=40)->(∀v,a=some v->jb done v/\∀t∈order,v.length<=ln t)->(a=none->done=[])->Kr.ks 40 (done++order.map ln)<=2^40 ->
  (∀v,a=some v->∀x∈lS ln a order,Dv v x)/\(lS ln a order).Pairwise Dv/\∀(i t:Nat),order[i]?=some t->∃w,(lS ln a order)[i]?=some w/\w.length=ln t
 |[],_,_,_,_,_,_,_=>⟨λ_ _ x hx=>(by cases hx),List.Pairwise.nil,λi t e=>(by cases e)⟩
 |t::r,done,a,hp,h40,ha,hn,hk=>by
  obtain⟨p1,p2⟩:=Nn.mp hp;have ht:=h40 t MK;have hk':Kr.ks 40 ((done++[ln t])++r.map ln)<=2^40:=by rw[MX];exact hk
  have fin:∀w:List Nat,w=nF ln a t->jb (done++[ln t]) w->w.length=ln t->(∀v,a=some v->Dv v w) ->
    (∀v,a=some v->∀x∈lS ln a (t::r),Dv v x)/\(lS ln a (t::r)).Pairwise Dv/\∀(i s:Nat),(t::r)[i]?=some s->∃w,(lS ln a (t::r))[i]?=some w/\w.length=ln s:=λw ew hH hl hd=>by
   obtain⟨q1,q2,q3⟩:=zv r (done++[ln t]) (some w) p2 (λx hx=>h40 x (MF _ hx)) (λv e=>by cases e;exact⟨hH,λx hx=>by rw[hl];exact p1 x hx⟩) (λe=>by cases e) hk'
   have es:lS ln a (t::r)=w::lS ln (some w) r:=by rw[ew];rfl
   rw[es];refine⟨λv e x hx=>?_,Nn.mpr ⟨λx hx=>q1 w rfl x hx,q2⟩,λi s e=>?_⟩
   ·rcases M0.mp hx with rfl|hx
    ·exact hd v e
    ·exact (hd v e).trans (q1 w rfl x hx)
   ·cases i with
    |zero=>cases e;exact⟨w,rfl,hl⟩
    |succ i=>exact q3 i s (by simpa using e)
  cases a with
  |none =>
   have:=hn rfl;subst this;exact fin _ rfl (jb.first ht) (show (List.replicate (ln t) 48).length=ln t by rw[MO]) (λv e=>by cases e)
  |some v =>
   obtain⟨hv,hl⟩:=ha v rfl;have hvl:=hl t MK;have hk2:Kr.ks 40 done+2^(40-ln t)<=2^40:=by
    rw[Kr.cV,Kr.cV] at hk';simp[Kr.ks] at hk'
    omega
   have z:=hv.zero (rest:=[]) hk2;have e:=oZ hv.bits z hvl;refine fin _ rfl ?_ ?_ ?_
   ·show jb _ (gW v (ln t));rw[e];exact hv.next hvl ht hk2
   ·show (gW v (ln t)).length=_;rw[e];exact eO hvl
   ·intro u eu;cases eu;show Dv v (gW v (ln t));rw[e];exact EB hv.bits z
theorem sk:∀(order:List Nat) (a:Option (List Nat)) (ws:List (List Nat)),order.Nodup->(∀t∈order,t<ws.length)->(∀(i t:Nat),order[i]?=some t->(along gW ln order (a,ws)).2[t]?=(lS ln a order)[i]?)/\∀t,t∉order->(along gW ln order (a,ws)).2[t]?=ws[t]?
 |[],_,_,_,_=>⟨λi t e=>(by cases e),λ_ _=>rfl⟩
 |t::r,a,ws,hn,hl=>by
  obtain⟨n1,n2⟩:=N9.mp hn;have ht:=hl t MK;have ea:along gW ln (t::r) (a,ws)=along gW ln r (some (nF ln a t),ws.set t (nF ln a t)):=by cases a<;>rfl
  rw[ea];obtain⟨q1,q2⟩:=sk r (some (nF ln a t)) (ws.set t (nF ln a t)) n2 (λx hx=>by rw[Oa];exact hl x (MF _ hx))
  refine⟨λi s e=>?_,λs hs=>?_⟩
  ·cases i with
   |zero =>
    cases e;exact (q2 t n1).trans (by rw[NO ht];rfl)
   |succ i=>exact q1 i s (by simpa using e)
  ·have h1:s≠t:=λz=>hs (by rw[z];exact MK)
   have h2:s∉r:=λz=>hs (MF _ z);exact (q2 s h2).trans (by rw[NK (MV h1)])
def Lx(p q:Int×Nat):Prop:=p.1<q.1\/(p.1=q.1/\p.2<q.2)
theorem Cv{p:Int×Nat}:∀{l:List (Int×Nat)},l.Pairwise Lx->(∀q∈l,p.2<q.2)->(ju p l).Pairwise Lx
 |[],_,_=>Rf _ _
 |q::r,h,hp=>by
  obtain⟨h1,h2⟩:=Nn.mp h;have hq:=hp q MK;unfold ju;split
  ·rename_i c;refine Nn.mpr ⟨λz hz=>?_,h⟩;have hz2:=hp z hz;have:q.1<=z.1:=by
    rcases M0.mp hz with rfl|hz
    ·exact Rq _
    ·have:=h1 z hz;unfold Lx at this;omega
   unfold Lx;omega
  ·rename_i c;refine Nn.mpr ⟨λz hz=>?_,Cv h2 λz hz=>hp z (MF _ hz)⟩;rcases M0.mp ((i4 p r).mem_iff.mp hz) with rfl|hz
   ·unfold Lx;omega
   ·exact h1 z hz
theorem xv:∀{l:List (Int×Nat)},(l.Pairwise λp q=>p.2<q.2)->(fh l).Pairwise Lx
 |[],_=>.nil
 |p::r,h=>by
  obtain⟨h1,h2⟩:=Nn.mp h;exact Cv (xv h2) λq hq=>h1 q ((eM r).mem_iff.mp hq)
end Cw
structure Canon (ls:List Int) (W:List (List Nat)):Prop where
 len:W.length=ls.length
 Jt:∀t,t<ls.length->(W.getD t []).length=aR ls t
 part:∀s t,s<ls.length->t<ls.length->(ls.getD s 0<ls.getD t 0\/(ls.getD s 0=ls.getD t 0/\s<t))->Cw.Dv (W.getD s []) (W.getD t [])
def oU(ls:List Int):ls.zip (List.range ls.length)=(List.range ls.length).map λt=>(ls.getD t 0,t):=by
 apply Ox
 ·simp
 ·intro i h1 h2;simp at h1;simp[h1]
def canon(hL:pJ ls)(hk:KS ls<=2^40):Canon ls (wordsOf Cw.gW ls):=by
 have hS:(Cw.Lx · ·)=(Cw.Lx · ·):=rfl;have hlx:(fh (ls.zip (List.range ls.length))).Pairwise Cw.Lx:=by
  refine Cw.xv ?_;rw[oU];exact O6.mpr P7
 have hmem:∀p∈fh (ls.zip (List.range ls.length)),p.1=ls.getD p.2 0/\p.2<ls.length:=λp hp=>by
  have:=(eM _).mem_iff.mp hp;rw[oU] at this;obtain⟨t,ht,rfl⟩:=Nc.mp this;exact⟨rfl,Ov.mp ht⟩
 have hord:(aC ls).Pairwise λs t=>ls.getD s 0<ls.getD t 0\/(ls.getD s 0=ls.getD t 0/\s<t):=by
  unfold aC kY;refine O6.mpr (hlx.imp_of_mem λ{p q} hp hq h=>?_);rw[<- (hmem p hp).1,<- (hmem q hq).1];exact h
 have hperm:(aC ls).Perm (List.range ls.length):=mY (by rw[Nr])
 have hnd:(aC ls).Nodup:=hperm.nodup_iff.mpr List.nodup_range;have hb:∀t,t<ls.length->1<=ls.getD t 0/\ls.getD t 0<=40:=λt ht=>by
  rw[M9,Mt ht];have:=hL.2.2 _ (MQ ht);show 1<=ls[t]/\ls[t]<=40;lia
 have hmm:∀t∈aC ls,t<ls.length:=λt ht=>j0 ht;have hks:Kr.ks 40 ([]++(aC ls).map (aR ls))<=2^40:=by
  rw[Ob,Kr.qC (hperm.map (aR ls))];have e:(List.range ls.length).map (aR ls)=ls.map Int.toNat:=by
   apply Ox
   ·simp
   ·intro i h1 h2;simp at h1;simp[aR,h1]
  rw[e];exact hk
 obtain⟨_,q2,q3⟩:=Cw.zv (ln:=aR ls) (aC ls) [] none (hord.imp_of_mem λ{s t} hs ht h=>by
  have:=hb s (hmm s hs);have:=hb t (hmm t ht);unfold aR;omega) (λt ht=>by have:=hb t (hmm t ht);unfold aR;omega) (λv e=>by cases e) (λ_=>rfl) hks
 obtain⟨a1,_⟩:=Cw.sk (ln:=aR ls) (aC ls) none (List.replicate ls.length []) hnd (λt ht=>by rw[MO];exact hmm t ht)
 have hat:∀t,t<ls.length->∃i w,(aC ls)[i]?=some t/\(Cw.lS (aR ls) none (aC ls))[i]?=some w/\w.length=aR ls t/\(wordsOf Cw.gW ls).getD t []=w:=λt ht=>by
  obtain⟨i,hi⟩:=PQ.mp (hperm.mem_iff.mpr (Ov.mpr ht));obtain⟨w,hw,hl⟩:=q3 i t hi;refine⟨i,w,hi,hw,hl,?_⟩;unfold wordsOf;rw[M9,a1 i t hi,hw];rfl
 refine⟨?_,λt ht=>?_,λs t hs ht h=>?_⟩
 ·unfold wordsOf;rw[Cw.i3,MO]
 ·obtain⟨i,w,_,_,hl,e⟩:=hat t ht;rw[e];exact hl
 ·obtain⟨i,w,h1,h2,_,e⟩:=hat s hs;obtain⟨j,v,g1,g2,_,e'⟩:=hat t ht;rw[e,e'];obtain⟨hi,rfl⟩:=Mw.mp h2;obtain⟨hj,rfl⟩:=Mw.mp g2;obtain⟨hi',ei⟩:=Mw.mp h1;obtain⟨hj',ej⟩:=Mw.mp g1;have hij:i<j:=by
   rcases OX i j with c|c|c
   ·exact c
   ·subst c;have est:s=t:=ei.symm.trans ej;subst est
    exfalso;omega
   ·have:=Pq.mp hord j i hj' hi' c;rw[ei,ej] at this
    exfalso;omega
  exact Pq.mp q2 i j hi hj hij
def dg(n:Int):Nat:=48+(n % 2).toNat
def bT:Int->Nat->List Nat->List Nat
 |_,0,acc=>acc
 |n,k+1,acc=>bT (n / 2) k (dg n::acc)
theorem dW:∀(k:Nat) (n:Int) (acc:List Nat),(bT n k acc).length=k+acc.length
 |0,_,_=>by rw[bT,OC]
 |k+1,n,acc=>by rw[bT,dW k,MJ];lia
theorem n9:∀(k:Nat) (n:Int) (acc:List Nat),∃d,bT n (k+1) acc=d::bT n k acc
 |0,n,acc=>⟨dg n,rfl⟩
 |k+1,n,acc=>by
  obtain⟨d,e⟩:=n9 k (n / 2) (dg n::acc);exact⟨d,e⟩
def Kz(n:Int):bQ (Str.ofString "01").cps.toList (n % 2)=some (dg n):=by
 have:n % 2=0\/n % 2=1:=by lia
 unfold dg;rcases this with e|e<;>rw[e]
 ·exact ∅
 ·exact ∅
def Ig(n:Int):Str.ofString (toString (n % 2))=wd [dg n]:=by
 have:n % 2=0\/n % 2=1:=by lia
 unfold dg;rcases this with e|e<;>rw[e]
 ·exact ∅
 ·exact ∅
def dM(a b:List Nat):wd a++wd b=wd (a++b):=by
 apply FD;show (a.toArray++b.toArray).toList=_;simp
def lL:Str.ofString ""=wd []:=by decide +kernel
def dm(n:Nat):Nat:=Builtin.Int.intBits (n:Int)
def jJ(n:Nat):List Nat:=bT (n:Int) (dm n) []
def kZ{n:Nat}(h:n<65536):dm n<17:=by
 unfold dm Builtin.Int.intBits;split
 ·decide
 ·rename_i hz;have h0:n≠0:=λz=>hz (by rw[z];rfl)
  show (n:Int).natAbs.log2+1<17;rw[Int.natAbs_natCast];have:=(Nat.log2_lt (n:=n) (k:=16) h0).mpr (by lia)
  lia
def iC(k:Nat)(d:Int):List Nat:=eL k++bT d (dG k) []
def Row.wi:Row->Nat
 |.put _ _=>0
 |.two u _ _=>1+u
 |.one u _=>4+u
 |.jump _=>6
 |.zero _ _=>7
 |.halt=>8
def Row.zd(r:Row):r.wi<9:=by
 cases r with
 |two u a b=>exact (by decide:∀u:_root_.Fin 3,1+(u:Nat)<9) u
 |one u b=>exact (by decide:∀u:_root_.Fin 2,4+(u:Nat)<9) u
 |put b n=>exact (by decide:0<9)
 |jump g=>exact (by decide:6<9)
 |zero b g=>exact (by decide:7<9)
 |halt=>exact (by decide:8<9)
inductive Pk where
 |box (b:Nat)|num (n:Nat)|goal (g:Nat)
def Pk.kd:Pk->Str
 |.box _=>"box"
 |.num _=>"number"
 |.goal _=>"goal"
def Pk.Ok:Pk->Prop
 |.box b=>b<8
 |.num n=>n<65536
 |.goal _=>True
def Pk.BN:Pk->List (Nat×Nat)
 |.box b=>[(2,b)]
 |.num n=>[(1,dm n)]
 |.goal _=>[]
def Row.wd:Row->Str
 |.put _ _=>"put"
 |.two u _ _=>w2 u
 |.one u _=>w1 u
 |.jump _=>"jump"
 |.zero _ _=>"zero"
 |.halt=>"halt"
def Row.eR:Row->List Pk
 |.put b n=>[.box b,.num n]
 |.two _ a b=>[.box a,.box b]
 |.one _ b=>[.box b]
 |.jump g=>[.goal g]
 |.zero b g=>[.box b,.goal g]
 |.halt=>[]
def Row.uy{r:Row}(h:r.Ok k):∀p∈r.eR,p.Ok:=by
 cases r with
 |put b n=>simp only[Row.eR,M0,MP,Nl];exactλp z=>z.elim (λe=>e ▸ h.1) λe=>e ▸ h.2
 |two u a b=>simp only[Row.eR,M0,MP,Nl];exactλp z=>z.elim (λe=>e ▸ h.1) λe=>e ▸ h.2
 |one u b=>simp only[Row.eR,M0,MP,Nl];rintro p rfl;exact h
 |jump g=>simp only[Row.eR,M0,MP,Nl];rintro p rfl;exact trivial
 |zero b g=>simp only[Row.eR,M0,MP,Nl];exactλp z=>z.elim (λe=>e ▸ h.1) λe=>e ▸ trivial
 |halt=>simp[Row.eR]
def eA(r:Row):List (Nat×Nat):=(0,r.wi)::r.eR.flatMap Pk.BN
def eH:List Str:=["put","add","sub","copy","tell","hear","jump","zero","halt"]
def Jy:∀k,k<9->∀m,m<k->eH[m]?≠eH[k]?:=by decide +kernel
def vG(r:Row):eH[r.wi]?=some r.wd/\∀m,m<r.wi->eH[m]?≠some r.wd:=by
 have h1:eH[r.wi]?=some r.wd:=by
  cases r with
  |two u a b=>exact (by decide +kernel:∀u:_root_.Fin 3,eH[1+(u:Nat)]?=some (w2 u)) u
  |one u b=>exact (by decide +kernel:∀u:_root_.Fin 2,eH[4+(u:Nat)]?=some (w1 u)) u
  |put b n=>rfl
  |jump g=>rfl
  |zero b g=>rfl
  |halt=>rfl
 exact⟨h1,λm hm=>by rw[<- h1];exact Jy _ r.zd m hm⟩
def Lq{b:Nat}(h:b<8):Builtin.Str.occurrences (Str.ofString "abcdefgh") (bD b) 0 (Str.ofString "abcdefgh").length 1=[b]:=by
 rcases Ji h with rfl|rfl|rfl|rfl|rfl|rfl|rfl|rfl<;>decide +kernel
def aQ:List (Str×List Str):=[("put",["box","number"]),("add",["box","box"]),("sub",["box","box"]),("copy",["box","box"]),("tell",["box"]),("hear",["box"]),("jump",["goal"]),("zero",["box","goal"]),("halt",[])]
def yo(r:Row):KTD.datumAt r.wd aQ=some (r.eR.map Pk.kd):=by
 cases r with
 |two u a b=>exact (by decide +kernel:∀u:_root_.Fin 3,KTD.datumAt (w2 u) aQ=some [("box":Str),"box"]) u
 |one u b=>exact (by decide +kernel:∀u:_root_.Fin 2,KTD.datumAt (w1 u) aQ=some [("box":Str)]) u
 |put b n=>exact (by decide +kernel:KTD.datumAt ("put":Str) aQ=some [("box":Str),"number"])
 |jump g=>exact (by decide +kernel:KTD.datumAt ("jump":Str) aQ=some [("goal":Str)])
 |zero b g=>exact (by decide +kernel:KTD.datumAt ("zero":Str) aQ=some [("box":Str),"goal"])
 |halt=>exact (by decide +kernel:KTD.datumAt ("halt":Str) aQ=some ([]:List Str))
def Kf:List Str:=["a","b","c","d","e","f","g","h"]
def GH{b:Nat}(h:b<8):Kf[b]?=some (bD b)/\∀m,m<b->Kf[m]?≠some (bD b):=(by decide +kernel:∀b,b<8->Kf[b]?=some (bD b)/\∀m,m<b->Kf[m]?≠some (bD b)) b h
theorem ml:∀(o:List Nat) (a:Option (List Nat)) (ws:List (List Nat)),(∀t∈o,ln t<=40)->(∀v,a=some v->v.length<=40)->(∀x∈ws,x.length<=40)->∀x∈(Cw.along Cw.gW ln o (a,ws)).2,x.length<=40
 |[],_,_,_,_,h=>h
 |t::o,a,ws,ho,ha,hw=>by
  have ht:=ho t MK;have h2:=λt h=>ho t (MF _ h)
  cases a with
  |none =>
   refine ml o (some (List.replicate (ln t) 48)) _ h2 (λv e=>by cases e;rw[MO];exact ht) λx hx=>?_
   rcases O8 hx with z|z
   ·exact hw x z
   ·rw[z,MO];exact ht
  |some v =>
   have hv:=wq (ha v rfl) ht;refine ml o (some (Cw.gW v (ln t))) _ h2 (λv e=>by cases e;exact hv) λx hx=>?_
   rcases O8 hx with z|z
   ·exact hw x z
   ·rw[z];exact hv
def zS(hL:pJ ls):∀x∈wordsOf Cw.gW ls,x.length<=40:=by
 refine ml _ _ _ (λt ht=>?_) (λv e=>by cases e) λx hx=>by rw[(NV.mp hx).2];decide
 have h:=j0 ht;have:=hL.2.2 _ (MQ h);unfold aR;rw[M9,Mt h];show ls[t].toNat<=40;lia
def jK(ls:List Int):(wordsOf Cw.gW ls).length=ls.length:=(Cw.i3 _ _).trans (MO ..)
structure Cd (cd:List (List (List Nat))):Prop where
 ex:∃a b c,cd=[a,b,c]/\a.length=9/\b.length=17/\c.length=8
 le:∀ws∈cd,∀x∈ws,x.length<=40
def fS(cd:List (List (List Nat)))(p:Nat×Nat):List Nat:=(cd.getD p.1 []).getD p.2 []
def oT:Row->List Nat
 |.put _ n=>(jJ n).tail
 |_=>[]
def b8(cd:List (List (List Nat)))(r:Row):List Nat:=(eA r).flatMap (fS cd)++oT r
def Bk(bk:List (List Int)):Prop:=∃a b c,bk=[a,b,c]/\a.length=9/\b.length=17/\c.length=8/\∀l∈bk,pJ l/\uJ l=true
def d5(bk:List (List Int)):List (List (List Nat)):=bk.map (wordsOf Cw.gW)
def Bk.cd{bk:List (List Int)}(h:Bk bk):Cd (d5 bk):=by
 obtain⟨a,b,c,rfl,h1,h2,h3,h4⟩:=h;refine⟨⟨_,_,_,rfl,by rw[jK,h1],by rw[jK,h2],by rw[jK,h3]⟩,λws hw=>?_⟩
 obtain⟨l,hl,rfl⟩:=Nc.mp hw;exact zS (h4 l hl).1
theorem qI:∀l:List (List Nat),(Str.ofString "").join (l.map wd)=wd l.flatten
 |[]=>rfl
 |[x]=>by simp[Str.join]
 |x::y::r=>by
  show wd x++Str.ofString ""++(Str.ofString "").join ((y::r).map wd)=_;rw[qI (y::r),lL,dM,dM,Nm];rfl
def zr{r:Row}(h:r.Ok k):∀p∈eA r,(p.1=0/\p.2<9)\/(p.1=1/\p.2<17)\/(p.1=2/\p.2<8):=by
 intro p hp;unfold eA at hp;rcases M0.mp hp with rfl|hp
 ·exact .inl ⟨rfl,r.zd⟩
 ·obtain⟨q,hq,hp⟩:=List.mem_flatMap.mp hp;have:=Row.uy h q hq
  cases q with
  |box b=>rw[MH.mp hp];exact .inr (.inr ⟨rfl,this⟩)
  |num n=>rw[MH.mp hp];exact .inr (.inl ⟨rfl,kZ this⟩)
  |goal n=>cases hp
def Cd.at{cd:List (List (List Nat))}(h:Cd cd){p:Nat×Nat}(hp:(p.1=0/\p.2<9)\/(p.1=1/\p.2<17)\/(p.1=2/\p.2<8)):cd[p.1]?=some (cd.getD p.1 [])/\(cd.getD p.1 [])[p.2]?=some (fS cd p)/\(fS cd p).length<=40:=by
 obtain⟨a,b,c,rfl,h1,h2,h3⟩:=h.ex;have key:∀(l:List (List Nat)) (i:Nat),i<l.length->l[i]?=some (l.getD i [])/\l.getD i []∈l:=λl i hi=>by
  rw[M9,Mt hi];exact⟨rfl,MQ hi⟩
 obtain⟨x,y⟩:=p;rcases hp with ⟨rfl,hy⟩|⟨rfl,hy⟩|⟨rfl,hy⟩
 ·have:=key a y (by rw[h1];exact hy)
  exact⟨rfl,this.1,h.le a (by simp) _ this.2⟩
 ·have:=key b y (by rw[h2];exact hy)
  exact⟨rfl,this.1,h.le b (by simp) _ this.2⟩
 ·have:=key c y (by rw[h3];exact hy)
  exact⟨rfl,this.1,h.le c (by simp) _ this.2⟩
def pQ(r:Row):(eA r).length<=3:=by cases r<;>simp[eA,Row.eR,Pk.BN]
def qS{cd:List (List (List Nat))}{r:Row}(hC:Cd cd)(h:r.Ok k):((eA r).flatMap (fS cd)).length<=120/\(oT r).length<=16:=by
 refine⟨?_,?_⟩
 ·have:∀l:List (Nat×Nat),(∀p∈l,(fS cd p).length<=40)->(l.flatMap (fS cd)).length<=40*l.length:=λl=>by
   induction l with
   |nil=>exactλ_=>M8 _
   |cons p l ih =>
    intro h;have h1:=h p MK;have h2:=ih λq hq=>h q (MF _ hq);rw[P4,Mx,MJ];lia
  have h1:=this (eA r) λp hp=>(hC.at (zr h p hp)).2.2;have h2:=pQ r;lia
 ·cases r with
  |put b n =>
   have:=kZ (n:=n) h.2;show (jJ n).tail.length<=16;rw[List.length_tail];unfold jJ;rw[dW];simp only[N0];lia
  |_=>exact MG _
def nZ(l:List Nat):List Int:=l.map λk:Nat=>(k:Int)
def uC(l:List Nat):(nZ l).length=l.length:=Ms ..
structure Pt (l:List Nat):Prop where
 ks:Kr.ks 40 l=2^40
 le:∀x∈l,x+1<=l.length
 one:l=[0]\/∀x∈l,1<=x
def Cp{β:Type}{f:α->β}{o m:List β}(h:o.Perm m):∀l:List α,l.map f=m->∃k:List α,k.map f=o/\k.Perm l:=by
 induction h with
 |nil =>
  intro l e
  cases l with
  |nil=>exact⟨[],rfl,.nil⟩
  |cons=>cases e
 |cons x p ih =>
  intro l e
  cases l with
  |nil=>cases e
  |cons a l =>
   obtain⟨rfl,e2⟩:=List.cons.inj e;obtain⟨k,e3,p3⟩:=ih l e2;exact⟨a::k,by rw[Nb,e3],p3.cons a⟩
 |swap x y l0 =>
  intro l e;rcases l with _|⟨a,_|⟨b,l⟩⟩
  ·cases e
  ·cases e
  ·obtain⟨rfl,e2⟩:=List.cons.inj e;obtain⟨rfl,e3⟩:=List.cons.inj e2;exact⟨b::a::l,by rw[<- e3];rfl,.swap ..⟩
 |trans p q ih1 ih2 =>
  intro l e;obtain⟨k,e1,p1⟩:=ih2 l e;obtain⟨k',e2,p2⟩:=ih1 k e1;exact⟨k',e2,p2.trans p1⟩
def EA{p:List Nat}(hp:p.Perm (List.range ls.length))(hr:p.Pairwise (SP.R λi=>ls.getD i 0)):aC ls=p:=by
 have ez:(List.range ls.length).map (λi=>(ls.getD i 0,i))=ls.zip (List.range ls.length):=by
  apply Ox
  ·rw[Ms,Nr,Rk,Nr,Pa]
  ·intro i h1 h2;rw[Ms,Nr] at h1;rw[List.getElem_map,List.getElem_range,List.getElem_zip];simp[h1]
 have e1:p.map (λi=>(ls.getD i 0,i))=fh (ls.zip (List.range ls.length)):=by
  refine rJ ?_ λa=>?_
  ·exact O6.mpr (hr.imp λh=>h.le)
  ·have fl:∀l:List Nat,atK a (l.map λi=>(ls.getD i 0,i))=(l.filter λi=>decide (ls.getD i 0=a)).map λi=>(ls.getD i 0,i):=λl=>by
    unfold atK;rw[List.filter_map];rfl
   rw[<- ez,fl,fl];congr 1;refine QV (le:=(· < ·)) (λa b _ _ h g=>absurd h (Nat.lt_asymm g)) ?_ (P7.filter _) (hp.filter _);rw[List.pairwise_filter];refine hr.imp λ{i j} h hi hj=>?_;have hi:=NR hi;have hj:=NR hj;rcases h with h|h
   ·exfalso;have h':ls.getD i 0<ls.getD j 0:=h;lia
   ·exact h.2
 unfold aC kY;rw[<- e1,NI];exact List.map_id _
def qP(ls:List Int)(i:Nat):Int×Int:=(ls.getD i 0,(i:Int))
def yI{out:List (Int×Int)}(hp:out.Perm ((List.range ls.length).map (qP ls)))(hu:KR out):out=(aC ls).map (qP ls)/\(aC ls).Pairwise (SP.R λi=>ls.getD i 0):=by
 obtain⟨p,rfl,pp⟩:=Cp hp (List.range ls.length) rfl;have hr:p.Pairwise (SP.R λi=>ls.getD i 0):=by
  have nd:p.Nodup:=pp.nodup_iff.mpr List.nodup_range;unfold KR at hu;rw[O6] at hu;refine (hu.and nd).imp λ{i j} h=>?_;have h1:¬ ((qP ls j).1<(qP ls i).1\/((qP ls j).1=(qP ls i).1/\(qP ls j).2<(qP ls i).2)):=of_decide_eq_false h.1;have h1':¬ (ls.getD j 0<ls.getD i 0\/(ls.getD j 0=ls.getD i 0/\(j:Int)<(i:Int))):=h1;show ls.getD i 0<ls.getD j 0\/(ls.getD i 0=ls.getD j 0/\i<j);have:=h.2;lia
 rw[EA pp hr];exact⟨rfl,hr⟩
def GL(h:(aC ls).Pairwise (SP.R λi=>ls.getD i 0)):(aC ls).Pairwise λi j=>aR ls i<=aR ls j:=h.imp λ{i j} h=>by
 have h':ls.getD i 0<=ls.getD j 0:=h.le;unfold aR;lia
def yn:∀(k:Nat) (w acc:List Nat),w.length=k->(∀c∈w,c=48\/c=49)->bT (Cw.val w:Int) k acc=w++acc:=by
 intro k
 induction k with
 |zero=>intro w acc h _;rw[NZ.mp h];rfl
 |succ k ih =>
  intro w acc h hb;obtain⟨v,c,rfl⟩:∃v c,w=v++[c]:=by
   rcases R4 w with e|⟨v,c,e⟩
   ·rw[e] at h;cases h
   ·exact⟨v,c,by rw[e,List.concat_eq_append]⟩
  have hc:=hb c (by simp)
  have ev:Cw.val (v++[c])=2*Cw.val v+(c-48):=by
   rw[Cw.j4];rcases hc with rfl|rfl
   ·simp[Cw.val];lia
   ·simp[Cw.val];lia
  rw[bT];have e1:((Cw.val (v++[c]):Nat):Int) / 2=(Cw.val v:Int):=by rw[ev];lia
  have e2:dg ((Cw.val (v++[c]):Nat):Int)=c:=by
   unfold dg;rw[ev];rcases hc with rfl|rfl
   ·have:((2*Cw.val v+(48-48):Nat):Int) % 2=0:=by lia
    rw[this];rfl
   ·have:((2*Cw.val v+(49-48):Nat):Int) % 2=1:=by lia
    rw[this];rfl
  rw[e1,e2,ih v (c::acc) (by rw[Mx,PM] at h;lia) (λx hx=>hb x (by simp[hx])),MX]
  rfl
def Bh(ls:List Int):Kr.ks 40 ((aC ls).map (aR ls))=KS ls:=by
 unfold KS;refine Kr.qC ?_;have e:ls.map Int.toNat=(List.range ls.length).map (aR ls):=by
  apply Ox
  ·simp
  ·intro i h1 h2;have hi:i<ls.length:=by simpa using h1
   simp[aR,hi]
 rw[e];exact (mY (by rw[Nr])).map _
structure At (ls:List Int) (done todo:List Nat) (a:Option (List Nat)) (n h:Int):Prop where
 all:done++todo=aC ls
 st:(a=none/\done=[]/\n=-1/\h=0)\/∃w,a=some w/\n=(Cw.val w:Int)/\h=(w.length:Int)/\Cw.jb (done.map (aR ls)) w/\∀t∈todo,w.length<=aR ls t
def nF(a:Option (List Nat))(l:Nat):List Nat:=match a with|none=>List.replicate l 48|some v=>Cw.fP v l
def At.next{ls:List Int}{done todo:List Nat}{a:Option (List Nat)}{n h:Int}{t:Nat}(x:At ls done (t::todo) a n h)(hL:pJ ls)(ho:uJ ls=true)(hu:(aC ls).Pairwise λi j=>aR ls i<=aR ls j):
  ∃d:Nat,(aR ls t:Int)-h=d/\d<=aR ls t/\(n+1)*2^d=(Cw.val (nF a (aR ls t)):Int)/\(nF a (aR ls t)).length=aR ls t/\(∀c∈nF a (aR ls t),c=48\/c=49)/\At ls (done++[t]) todo (some (nF a (aR ls t))) (Cw.val (nF a (aR ls t)):Int) (aR ls t:Int):=by
 have hall:(done++[t])++todo=aC ls:=by rw[MX];exact x.all
 have htl:aR ls t<=40:=by
  have h:=j0 (ls:=ls) (t:=t) (by rw[<- x.all];simp)
  have:=hL.2.2 _ (MQ h);unfold aR;rw[M9,Mt h];show ls[t].toNat<=40;lia
 have hk:Kr.ks 40 ((done++[t]++todo).map (aR ls))<=2^40:=by rw[hall,Bh];exact NR ho
 rw[MI,MI,Kr.cV,Kr.cV] at hk;have hle:∀u∈todo,aR ls t<=aR ls u:=λu hu'=>by
  rw[<- x.all] at hu;exact (Nn.mp (NM.mp hu).2.1).1 u hu'
 rcases x.st with ⟨rfl,rfl,rfl,rfl⟩|⟨w,rfl,rfl,rfl,hH,hw⟩
 ·refine⟨aR ls t,by lia,M8 _,?_,MO ..,λc hc=>.inl (NV.mp hc).2,hall,.inr ⟨_,rfl,rfl,by rw[show nF none (aR ls t)=List.replicate (aR ls t) 48 from rfl,MO],Cw.jb.first htl,λu hu'=>by rw[show nF none (aR ls t)=List.replicate (aR ls t) 48 from rfl,MO];exact hle u hu'⟩⟩
  rw[show nF none (aR ls t)=List.replicate (aR ls t) 48 from rfl,Cw.fL];simp
 ·have hwt:=hw t MK;have hk2:Kr.ks 40 (done.map (aR ls))+2^(40-aR ls t)<=2^40:=by
   simp only[Nb,Oz,Kr.ks] at hk;lia
  have hz:=hH.zero (rest:=[]) hk2;have hN:=hH.next hwt htl hk2;refine⟨aR ls t-w.length,by lia,Nat.sub_le _ _,?_,Cw.eO hwt,Cw.oC hH.bits,hall,.inr ⟨_,rfl,rfl,by rw[show nF (some w) (aR ls t)=Cw.fP w (aR ls t) from rfl,Cw.eO hwt],by rw[MI];exact hN,λu hu'=>by rw[show nF (some w) (aR ls t)=Cw.fP w (aR ls t) from rfl,Cw.eO hwt];exact hle u hu'⟩⟩
  rw[show nF (some w) (aR ls t)=Cw.fP w (aR ls t) from rfl,Cw.sf hH.bits hz];simp
def Dl(n:Nat):(jJ n).length=dm n:=by unfold jJ;rw[dW];rfl
structure LX (cd:List (List (List Nat))):Prop where
 kB:Cd cd
 pf:∀w∈cd,Pf w
structure Mi (cd:List (List (List Nat))):Prop extends LX cd where
 Ml:∀ws∈cd,∀w∈ws,w.length<=20
def dh{cd:List (List (List Nat))}(hC:Cd cd){r:Row}(hr:r.Ok k):(b8 cd r).length<=136:=by
 have:=qS hC hr;unfold b8;rw[Mx];lia
inductive mK where
 |put (b n:Nat)|two (w:Fin 3) (a b:Nat)|one (w:Fin 2) (b:Nat)|jump (g:Int)|zero (b:Nat) (g:Int)|halt
inductive CT where
 |s (z:Str)|n (k:Int)
def mK.ps:mK->List CT
 |.put b n=>[.s "put",.s (bD b),.n (n:Nat)]
 |.two w a b=>[.s (w2 w),.s (bD a),.s (bD b)]
 |.one w b=>[.s (w1 w),.s (bD b)]
 |.jump g=>[.s "jump",.n g]
 |.zero b g=>[.s "zero",.s (bD b),.n g]
 |.halt=>[.s "halt"]
def zy(hL:pJ ls)(ho:uJ ls=true):Pf (wordsOf Cw.gW ls):=by
 have hc:=canon hL (NR ho);have hg:∀(i:Nat) (h:i<(wordsOf Cw.gW ls).length),(wordsOf Cw.gW ls)[i]=(wordsOf Cw.gW ls).getD i []:=λi h=>by
  rw[M9,Mt h];rfl
 refine⟨λw hw e=>?_,λi j hi hj hne hp=>?_⟩
 ·obtain⟨i,hi,rfl⟩:=List.mem_iff_getElem.mp hw;have hi':i<ls.length:=by rw[<- hc.len];exact hi
  have h1:=hc.Jt i hi';rw[<- hg i hi,e,N0] at h1;unfold aR at h1;rw[M9,Mt hi'] at h1;have h2:=hL.2.2 _ (MQ hi');have h1':0=(ls[i]).toNat:=h1;lia
 ·have hi':i<ls.length:=by rw[<- hc.len];exact hi
  have hj':j<ls.length:=by rw[<- hc.len];exact hj
  rw[hg i hi,hg j hj] at hp;have:(ls.getD i 0<ls.getD j 0\/(ls.getD i 0=ls.getD j 0/\i<j))\/(ls.getD j 0<ls.getD i 0\/(ls.getD j 0=ls.getD i 0/\j<i)):=by lia
  rcases this with h|h
  ·exact (hc.part i j hi' hj' h).not.1 hp
  ·exact (hc.part j i hj' hi' h).not.2 hp
def E1{bk:List (List Int)}(h:Bk bk):∀ws∈d5 bk,Pf ws:=λws hw=>by
 obtain⟨l,hl,rfl⟩:=Nc.mp hw;obtain⟨a,b,c,e,_,_,_,h4⟩:=h;exact zy (h4 l hl).1 (h4 l hl).2
def Cr{bk:List (List Int)}(h:Bk bk):Mi (d5 bk):=by
 refine⟨⟨h.cd,E1 h⟩,λws hw w hw2=>?_⟩;obtain⟨l,hl,rfl⟩:=Nc.mp hw;obtain⟨a,b,c,e,_,_,_,h4⟩:=h;have hc:=canon (h4 l hl).1 (NR (h4 l hl).2);obtain⟨i,hi,rfl⟩:=List.mem_iff_getElem.mp hw2;have hi':i<l.length:=by rw[<- hc.len];exact hi
 have h1:=hc.Jt i hi';rw[M9,Mt hi] at h1;unfold aR at h1;rw[M9,Mt hi'] at h1;have h2:=(h4 l hl).1.2.2 _ (MQ hi');have h3:((wordsOf Cw.gW l)[i]).length=(l[i]).toNat:=h1;lia
def iG.v:iG->V
 |.s z=>.str z
 |.n k=>.int (k:Nat)
def Row.vs(r:Row):List V:=r.ps.map iG.v
def Pk.v:Pk->V
 |.box b=>.str (bD b)
 |.num n=>.int (n:Nat)
 |.goal g=>.int (g:Nat)
def Row.Gb(r:Row):r.vs=.str r.wd::r.eR.map Pk.v:=by cases r<;>rfl
def CT.v:CT->V
 |.s z=>.str z
 |.n k=>.int k
def mK.vs(r:mK):List V:=r.ps.map CT.v
def no:vX:=λ_=>False
def qm(h:H a=some (.tup xs))(q1:cC xs lo hi=xs->Q (.ref a) H)(q2:∀p,H p=none->Q (.ref p) (upd H p (.tup (cC xs lo hi)))):Y.xZ K (.ref a) lo hi H Q:=by
 by_cases z:HT.bH xs.length 0 lo=0/\HT.bH xs.length xs.length hi=xs.length
 ·exact .inr (.inr ⟨a,xs,rfl,aW.of h,z.1,z.2,q1 (by unfold cC;rw[z.1,z.2,OB,NH,Na])⟩)
 ·exact .inr (.inl ⟨a,xs,rfl,aW.of h,z,q2⟩)
def tu(xs:List V)(n:Nat):cC xs none (some (n:Int))=xs.take n:=by
 unfold cC;rw[HT.bW,HT.dn,NH,OB];rcases QY n xs.length with c|c
 ·rw[Oo c]
 ·rw[QZ c,Na,Ng c]
def tq(xs:List V)(k:Nat):cC xs (some (k:Int)) none=xs.drop k:=by
 unfold cC;rw[HT.bW,HT.dn];rcases QY k xs.length with h|h
 ·rw[Oo h,Ng (by rw[Nk];exact M8 _)]
 ·rw[QZ h,Oh,List.drop_of_length_le h,List.take_nil]
def a7:Row->Option Nat
 |.jump g=>some g
 |.zero _ g=>some g
 |_=>none
def BZ{w:Nat}(d:Int):(iC w d).length=(eL w).length+dG w:=by
 unfold iC;rw[Mx,dW];rfl
def Row.m(g:Int):Row->mK
 |.put b n=>.put b n
 |.two u a b=>.two u a b
 |.one u b=>.one u b
 |.jump _=>.jump g
 |.zero b _=>.zero b g
 |.halt=>.halt
def Dd:Nat->Nat
 |0=>5
 |1=>10
 |_=>18
def addW:Option Nat->Nat->Nat
 |none,_=>0
 |some _,w=>Dd w
def EX(g:Option Nat)(w:Nat):addW g w<=18:=by
 unfold addW Dd;split
 ·decide
 ·split<;>decide
def dy:Nat->List Nat->List (Option Nat)->List Nat->List Nat
 |a,s::ss,g::gs,w::ws=>a::dy (a+s+addW g w) ss gs ws
 |a,_,_,_=>[a]
def tT(a:Nat)(ss:List Nat)(gs:List (Option Nat))(ws:List Nat):∃l,dy a ss gs ws=a::l:=by
 unfold dy;split
 ·exact⟨_,rfl⟩
 ·exact⟨_,rfl⟩
theorem ff:∀(ss:List Nat) (gs:List (Option Nat)) (ws:List Nat) (a:Nat),gs.length=ss.length->ws.length=ss.length->(dy a ss gs ws).length=ss.length+1
 |[],_,_,_,_,_=>by unfold dy;rfl
 |s::ss,[],_,_,h,_=>by cases h
 |s::ss,_::_,[],_,_,h=>by cases h
 |s::ss,g::gs,w::ws,a,h1,h2=>by
  rw[dy,MJ,ff ss gs ws _ (Nat.succ.inj h1) (Nat.succ.inj h2)];rfl
theorem ug:∀(ss:List Nat) (gs:List (Option Nat)) (ws:List Nat) (a:Nat),(∀s∈ss,s<=150)->∀v∈dy a ss gs ws,a<=v/\v<=a+168*ss.length
 |[],_,_,a,_,v,h=>by
  have:v=a:=by unfold dy at h;simpa using h
  rw[this];simp
 |s::ss,[],_,a,_,v,h=>by
  have:v=a:=by unfold dy at h;simpa using h
  rw[this];simp
 |s::ss,_::_,[],a,_,v,h=>by
  have:v=a:=by unfold dy at h;simpa using h
  rw[this];simp
 |s::ss,g::gs,w::ws,a,hs,v,h=>by
  rw[dy] at h;have h1:=hs s MK;have h2:=EX g w;rw[MJ];rcases M0.mp h with rfl|h
  ·exact⟨M8 _,Nat.le_add_right _ _⟩
  ·have:=ug ss gs ws _ (λx hx=>hs x (MF _ hx)) v h;lia
theorem jW:∀(ss:List Nat) (gs:List (Option Nat)) (ws:List Nat) (a k:Nat) (s:Nat) (g:Option Nat) (w:Nat),ss[k]?=some s->gs[k]?=some g->ws[k]?=some w->(dy a ss gs ws).getD (k+1) 0=(dy a ss gs ws).getD k 0+s+addW g w
 |[],_,_,_,_,_,_,_,h,_,_=>by simp at h
 |s::ss,[],_,_,_,_,_,_,_,h,_=>by simp at h
 |s::ss,_::_,[],_,_,_,_,_,_,_,h=>by simp at h
 |s::ss,g::gs,w::ws,a,0,s',g',w',h1,h2,h3=>by
  simp at h1 h2 h3;subst h1;subst h2;subst h3;rw[dy];obtain⟨l,e⟩:=tT (a+s+addW g w) ss gs ws;rw[e];rfl
 |s::ss,g::gs,w::ws,a,k+1,s',g',w',h1,h2,h3=>by
  rw[dy];have:=jW ss gs ws (a+s+addW g w) k s' g' w' (by simpa using h1) (by simpa using h2) (by simpa using h3)
  simpa using this
def cf(sp:List Nat)(t k:Nat):Int:=(sp.getD t 0:Int)-(sp.getD (k+1) 0:Int)
def kX(w:Nat)(d:Int):Bool:=decide (-eY w<=d) && decide (d<eY w)
def hU(sp:List Nat)(k:Nat):Option Nat->Nat->Nat
 |none,w=>w
 |some t,w=>if kX w (cf sp t k)=true then w else min (w+1) 2
def eX(sp:List Nat):Nat->List (Option Nat)->List Nat->List Nat
 |k,g::gs,w::ws=>hU sp k g w::eX sp (k+1) gs ws
 |_,_,ws=>ws
def fO(ss:List Nat)(gs:List (Option Nat))(ws:List Nat):List Nat:=eX (dy 0 ss gs ws) 0 gs ws
def bz(ss:List Nat)(gs:List (Option Nat))(ws:List Nat):Nat->List Nat
 |0=>ws
 |m+1=>fO ss gs (bz ss gs ws m)
def jF(ss:List Nat)(gs:List (Option Nat))(ws:List Nat):List Nat:=bz ss gs ws (2*ss.length+1)
def su{w:Nat}(h:w<3):w<=hU sp k g w/\hU sp k g w<3:=by
 unfold hU;split
 ·exact⟨M8 _,h⟩
 ·split<;>lia
theorem cF(sp:List Nat):∀(k:Nat) (gs:List (Option Nat)) (ws:List Nat),(eX sp k gs ws).length=ws.length
 |_,[],_=>rfl
 |_,_::_,[]=>rfl
 |k,g::gs,w::ws=>by rw[eX,MJ,MJ,cF sp (k+1) gs ws]
theorem xp(sp:List Nat):∀(k:Nat) (gs:List (Option Nat)) (ws:List Nat),(∀w∈ws,w<3)->∀w∈eX sp k gs ws,w<3
 |_,[],_,h=>h
 |_,_::_,[],h=>h
 |k,g::gs,w::ws,h=>λv hv=>by
  rw[eX] at hv;rcases M0.mp hv with rfl|hv
  ·exact (su (h w MK)).2
  ·exact xp sp (k+1) gs ws (λx hx=>h x (MF _ hx)) v hv
theorem step_at(sp:List Nat):∀(k:Nat) (gs:List (Option Nat)) (ws:List Nat) (i:Nat) (g:Option Nat) (w:Nat),gs[i]?=some g->ws[i]?=some w->(eX sp k gs ws)[i]?=some (hU sp (k+i) g w)
 |_,[],_,_,_,_,h,_=>by simp at h
 |_,_::_,[],_,_,_,_,h=>by simp at h
 |k,g::gs,w::ws,0,g',w',h1,h2=>by
  simp at h1 h2;subst h1;subst h2;rfl
 |k,g::gs,w::ws,i+1,g',w',h1,h2=>by
  rw[eX,Pz,step_at sp (k+1) gs ws i g' w' (by simpa using h1) (by simpa using h2)]
  rw[show k+1+i=k+(i+1) by lia]
theorem sH(sp:List Nat):∀(k:Nat) (gs:List (Option Nat)) (ws:List Nat),(∀w∈ws,w<3)->eX sp k gs ws=ws\/ws.sum<(eX sp k gs ws).sum
 |_,[],_,_=>.inl rfl
 |_,_::_,[],_=>.inl rfl
 |k,g::gs,w::ws,h=>by
  rw[eX,NF,NF];have h1:=(su (sp:=sp) (k:=k) (g:=g) (h w MK)).1;rcases sH sp (k+1) gs ws (λx hx=>h x (MF _ hx)) with e|e
  ·rw[e];by_cases z:hU sp k g w=w
   ·exact .inl (by rw[z])
   ·exact .inr (by lia)
  ·exact .inr (by lia)
theorem fR(ss:List Nat)(gs:List (Option Nat))(ws:List Nat):∀m,(bz ss gs ws m).length=ws.length
 |0=>rfl
 |m+1=>(cF _ _ _ _).trans (fR ss gs ws m)
theorem h9(h:∀w∈ws,w<3):∀m,∀w∈bz ss gs ws m,w<3
 |0=>h
 |m+1=>xp _ _ _ _ (h9 h m)
theorem oI{ss:List Nat}{gs:List (Option Nat)}(h:∀w∈ws,w<3):∀m,fO ss gs (bz ss gs ws m)=bz ss gs ws m\/m<=(bz ss gs ws m).sum
 |0=>.inr (MG _)
 |m+1=>by
  rcases oI (ss:=ss) (gs:=gs) h m with e|e
  ·refine .inl ?_;show fO ss gs (fO ss gs (bz ss gs ws m))=fO ss gs (bz ss gs ws m);rw[e,e]
  ·rcases sH (dy 0 ss gs (bz ss gs ws m)) 0 gs (bz ss gs ws m) (h9 h m) with z|z
   ·refine .inl ?_;show fO ss gs (fO ss gs (bz ss gs ws m))=fO ss gs (bz ss gs ws m);have z':fO ss gs (bz ss gs ws m)=bz ss gs ws m:=z;rw[z',z']
   ·refine .inr ?_;show m+1<=(fO ss gs (bz ss gs ws m)).sum;exact N3 e z
theorem jh:∀{ws:List Nat},(∀w∈ws,w<3)->ws.sum<=2*ws.length
 |[],_=>M8 _
 |w::ws,h=>by
  have h1:=h w MK;have h2:=jh λx hx=>h x (MF _ hx);rw[NF,MJ];lia
def w8(ss:List Nat)(gs:List (Option Nat))(ws:List Nat):(jF ss gs ws).length=ws.length:=fR ss gs ws _
def tO(h:∀w∈ws,w<3):∀w∈jF ss gs ws,w<3:=h9 h _
def Eh{ss:List Nat}{gs:List (Option Nat)}(hl:ws.length=ss.length)(h:∀w∈ws,w<3):fO ss gs (jF ss gs ws)=jF ss gs ws:=by
 rcases oI (ss:=ss) (gs:=gs) h (2*ss.length+1) with e|e
 ·exact e
 ·have:=jh (h9 (ss:=ss) (gs:=gs) h (2*ss.length+1));rw[fR,hl] at this;lia
def wF(hs:∀s∈ss,s<=150)(i:Nat):(dy 0 ss gs ws).getD i 0<=168*ss.length:=by
 rw[M9]
 cases c:(dy 0 ss gs ws)[i]? with
 |none=>exact MG _
 |some v=>have:=ug ss gs ws 0 hs v (N1 c);show v<=_;lia
def qw(ss:List Nat)(gs:List (Option Nat))(ws:List Nat):Prop:=∀(k t w:Nat),gs[k]?=some (some t)->ws[k]?=some w->kX w (cf (dy 0 ss gs ws) t k)=true
def Du{gs:List (Option Nat)}{ws:List Nat}(hs:∀s∈ss,s<=150)(hn:ss.length<=64)(h:∀w∈ws,w<3)(hf:fO ss gs ws=ws):qw ss gs ws:=λk t w h1 h2=>by
 have e:=step_at (dy 0 ss gs ws) 0 gs ws k (some t) w h1 h2;have e':ws[k]?=some (hU (dy 0 ss gs ws) (0+k) (some t) w):=by rw[<- e];exact Nw (·[k]?) hf.symm
 rw[h2,OC] at e';have e2:=Option.some.inj e';unfold hU at e2;by_cases c:kX w (cf (dy 0 ss gs ws) t k)=true
 ·exact c
 ·simp only[M4 c] at e2;have hw:w=2:=by have:=h w (N1 h2);lia
  subst hw;have h3:=wF (gs:=gs) (ws:=ws) hs t;have h4:=wF (gs:=gs) (ws:=ws) hs (k+1);unfold kX cf;rw[Nq (show -eY 2<=_ by show -32768<=_;lia),Nq (show _<eY 2 by show _<32768;lia)]
  rfl
def EN(hs:∀s∈ss,s<=150)(hn:ss.length<=64)(hl:ws.length=ss.length)(h:∀w∈ws,w<3):qw ss gs (jF ss gs ws):=Du hs hn (tO h) (Eh hl h)
def eW(cd:List (List (List Nat)))(rs:List Row):List Nat:=rs.map λr=>(b8 cd r).length
def tV(sp:List Nat)(k w:Nat):Option Nat->List Nat
 |none=>[]
 |some t=>iC w (cf sp t k)
def tM(cd:List (List (List Nat)))(sp:List Nat):Nat->List Row->List Nat->List Nat
 |k,r::rs,w::ws=>b8 cd r++tV sp k w (a7 r)++tM cd sp (k+1) rs ws
 |_,_,_=>[]
theorem ou:∀(k:Nat) (n:Int) (acc:List Nat),bT (n % 2^k) k acc=bT n k acc
 |0,_,_=>rfl
 |k+1,n,acc=>by
  have e1:(n % 2^(k+1)) % 2=n % 2:=Int.emod_emod_of_dvd n ⟨2^k,by rw[RS];lia⟩
  have e2:(n % 2^(k+1)) / 2=(n / 2) % 2^k:=by
   rw[RS,Int.mul_comm];have h:=Int.emod_add_mul_ediv n (2*2^k);have h2:n / (2*2^k)=n / 2 / 2^k:=(Int.ediv_ediv_of_nonneg ⋯).symm
   rw[Int.emod_def,Int.emod_def,h2];rw[show n-2*2^k*(n / 2 / 2^k)=n+2*(-(2^k*(n / 2 / 2^k))) by rw[Int.mul_neg,Int.mul_assoc];lia]
   rw[Int.add_mul_ediv_left _ _ ⋯]
   lia
  show bT ((n % 2^(k+1)) / 2) k (dg (n % 2^(k+1))::acc)=bT (n / 2) k (dg n::acc);rw[e2,ou k (n / 2)];unfold dg;rw[e1]
def vQ(bk:List (List Int))(rs:List Row)(ws:List Nat):List Nat:=
 tM (d5 bk) (dy 0 (eW (d5 bk) rs) (rs.map a7) (jF (eW (d5 bk) rs) (rs.map a7) ws)) 0 rs (jF (eW (d5 bk) rs) (rs.map a7) ws)
def f6{r:Row}{n:Nat}(h:r.Ok n)(e:a7 r=some t):t<=n:=by
 cases r with
 |jump g=>cases e;exact h
 |zero b g=>cases e;exact h.2
 |put=>cases e
 |two=>cases e
 |one=>cases e
 |halt=>cases e
def CU{w:Nat}(h:w<3)(d:Int):(iC w d).length=Dd w:=by
 rw[BZ];rcases qQ h with rfl|rfl|rfl<;>rfl
structure Laid (cd:List (List (List Nat))) (rs:List Row) (ws sp z:List Nat):Prop where
 hR:LX cd
 len:ws.length=rs.length
 le:rs.length<=64
 ok:∀r∈rs,r.Ok rs.length
 lt:∀w∈ws,w<3
 vS:sp=dy 0 (eW cd rs) (rs.map a7) ws
 fit:qw (eW cd rs) (rs.map a7) ws
 hz:z=tM cd sp 0 rs ws
section
variable {cd:List (List (List Nat))} {rs:List Row} {ws sp z:List Nat}
def Laid.sl(L:Laid cd rs ws sp z):sp.length=rs.length+1:=by
 rw[L.vS,ff _ _ _ _ (by unfold eW;rw[Ms,Ms]) (by unfold eW;rw[Ms];exact L.len)]
 unfold eW;rw[Ms]
end
def gM(sp:List Nat)(gs:List (Option Nat))(ws:List Nat)(i:Nat):List Nat:=(eX sp 0 gs ws).take i++ws.drop i
def DT(sp:List Nat)(gs:List (Option Nat))(ws:List Nat)(i:Nat):(gM sp gs ws i).length=ws.length:=by
 unfold gM;rw[Mx,MB,Nk,cF];lia
def EV(sp:List Nat)(gs:List (Option Nat))(ws:List Nat):gM sp gs ws ws.length=eX sp 0 gs ws:=by
 unfold gM;rw[Oh,Nm,Ng (by rw[cF];exact M8 _)]
def Cm{w:Nat}(h:ws[i]?=some w):(gM sp gs ws i)[i]?=some w:=by
 have hi:=(Mw.mp h).1;unfold gM;rw[MR (by rw[MB,cF];lia),MB,cF,Nu]
 rw[show i+(i-min i ws.length)=i by lia]
 exact h
def sS{w:Nat}(hg:gs[i]?=some g)(h:ws[i]?=some w):gM sp gs ws (i+1)=(gM sp gs ws i).set i (hU sp i g w):=by
 have hi:=(Mw.mp h).1;have hs:=step_at sp 0 gs ws i g w hg h;rw[OC] at hs;unfold gM;rw[R7 _ _ (by rw[MB,cF];lia),MB,cF]
 rw[show i-min i ws.length=0 by lia,ND hi,List.set_cons_zero]
 rw[Ni,hs,MX];rfl
def sx{sp:List Nat}{gs:List (Option Nat)}{w:Nat}(hg:gs[i]?=some g)(h:ws[i]?=some w)(e:hU sp i g w=w):gM sp gs ws (i+1)=gM sp gs ws i:=by
 rw[sS hg h,e];have:=Cm (sp:=sp) (gs:=gs) h;obtain⟨hi,e2⟩:=Mw.mp this;rw[<- e2];exact List.set_getElem_self hi
def FY{r:Row}{n:Nat}(h:r.Ok n)(hg:∀t,a7 r=some t->t<=k):r.Ok k:=by
 cases r with
 |jump g=>exact hg g rfl
 |zero b g=>exact⟨h.1,hg g rfl⟩
 |put=>exact h
 |two=>exact h
 |one=>exact h
 |halt=>exact h
def bM(H:Hp)(p dq:Addr)(n:Nat):Prop:=∃(cells:List Int) (i t z:Int),H p=some (.lst [.ref dq,.int i,.int t,.int z])/\H dq=some (.lst (iV cells))/\(∀c∈cells,0<=c)/\0<=i/\i<=cells.length/\cells.length<=63/\0<=t/\t<=n
def bM.mono{n m:Nat}(h:bM H p dq n)(hm:n<=m):bM H p dq m:=by
 obtain⟨cells,i,t,z,h1,h2,h3,h4,h5,h6,h7,h8⟩:=h;exact⟨cells,i,t,z,h1,h2,h3,h4,h5,h6,h7,by lia⟩
def bM.keep{n:Nat}(h:bM H p dq n)(k:KB ex H H')(n1:p∉ex)(n2:dq∉ex):bM H' p dq n:=by
 obtain⟨cells,i,t,z,h1,h2,h3⟩:=h;exact⟨cells,i,t,z,k _ _ h1 n1,k _ _ h2 n2,h3⟩
def bM.kb{n:Nat}(h:bM H p dq n)(k:KB [] H H'):bM H' p dq n:=h.keep k (by simp) (by simp)
def bM.lst{n:Nat}(h:bM H p dq n):∀b∈[p,dq],∃ys,H b=some (.lst ys):=by
 obtain⟨cells,i,t,z,h1,h2,h3⟩:=h;intro b hb;simp only[M0,MP,Nl] at hb;rcases hb with rfl|rfl
 ·exact⟨_,h1⟩
 ·exact⟨_,h2⟩
def bM.new{l:Addr}{n:Nat}(h:bM H p dq n)(hl:H l=none):l∉[p,dq]:=λz=>by
 obtain⟨ys,e⟩:=h.lst l z;rw[hl] at e;cases e
def Ga:Sp:=λvs H Q _=>∃c k:Int,vs=[.int c,.int k]/\0<=k/\k<2^60/\∀v:Int,Q (.int v) H
def Gv(F:HasFn K mg "_law_mix" iX ["number","turn"]):ao P w K mg base aF 1 "_law_mix" ["number","turn"] Ga:=by
 refine F.dH ig (by ac_rfl) ?_
 left
 obtain⟨c,k,rfl,h0,h1,q⟩:=h;refine⟨_,(Z.aq (Z.se (i:=2) ig.nd (Z.op eF (Z.op (Z.aI K rfl) (Z.op (Z.aI K rfl) (Z.op (Z.aI K rfl) (Z.op eF (Z.v 0) Z.int) (Z.op cN (Z.op cN Z.int (Z.v 1)) (Z.v 1))) (Z.op cN Z.int (Z.v 1))) Z.int) Z.int))
   (Z.aq (Z.se (i:=2) ig.nd (Z.op eF (Z.op cN (Z.v 2) (Z.v 2)) Z.int))
   (Z.ay (Z.ret (Z.op lu (Z.op eF (Z.op (Z.aI K rfl) (Z.op cN (Z.v 2) Z.int) (Z.v 1)) Z.int) Z.int))))),?_⟩
 symm;nofun;refine⟨by decide,.inl ⋯,.inr ⟨by lia,by lia⟩,.inl ⋯,by decide,?_⟩
 subst hN;generalize hx:(c % 1999999927+7001*k*k+40009*k+17) % 2147483629=x;have hx1:0<=x/\x<2147483629:=by rw[<- hx];exact⟨Rm _ ⋯,Qv _ ⋯⟩
 symm;nofun;refine⟨.inl ⟨by lia,by lia⟩,by decide,?_⟩
 subst hN;generalize hy:x*x % 2147483587=y;have hy1:0<=y/\y<2147483587:=by rw[<- hy];exact⟨Rm _ ⋯,Qv _ ⋯⟩
 nofun;exact⟨.inr ⋯,by decide,⟨by decide,by decide⟩,q _⟩
def AZ(K:W.Frag):Sp:=λvs H Q _=>∃(a:Addr) (ns:List Int),vs=[.ref a]/\aT K H a (ns.map V.int)/\∀p dq H',bM H' p dq 0->KB [] H H'->H p=none->H dq=none->Q (.ref p) H'
def CQ(T:Txt K mg)(F:HasFn K mg "_law_deck" fo ["script"]):ao P w K mg base aF 1 "_law_deck" ["script"] (AZ K):=by
 refine F.dH qD (by ac_rfl) ?_
 left
 obtain⟨a,ns,rfl,hS,q⟩:=h;refine⟨_,(Z.ay (Z.ret (Z.lst (Z.cons (Z.mT (osc:=ab fo) (ON:=["script"]) (own:=["cell"]) (N:=["cell","script"]) (az.of rfl ∅) (Z.any K rfl (Z.slice (Z.FI K rfl) (Z.v 0) Z.nI (Z.nG Z.int))) (λnd _ _ _ _=>(Z.aA (i:=0) nd rfl (by right))) (λ_ _ _ _=>Z.je) (λ_ _ _ _=>(Z.cb BA rfl T.KI ∅ (Z.cons (Z.v 0) Z.nil)))) (Z.cons Z.int (Z.cons Z.int (Z.cons (Z.op eF (Z.op (Z.aI K rfl) (Z.cb (Z.JF K rfl rfl) rfl T.JT ∅ (Z.cons (Z.slice (Z.FI K rfl) (Z.v 0) Z.nI (Z.nG Z.int)) Z.nil)) (Z.op cN Z.int (Z.cb (Z.v9 K rfl) rfl T.bA ∅ (Z.cons (Z.v 0) Z.nil)))) Z.int) Z.nil))))))),?_⟩
 have ec:cC (ns.map V.int) none (some 63)=iV (ns.take 63):=by
  unfold cC iV;rw[HT.bW,show HT.bH (ns.map V.int).length (ns.map V.int).length (some 63)=min 63 (ns.map V.int).length from HT.dn _ _ 63,Ms,OB,NH,<- PD];congr 1;rw[List.take_eq_take_iff];lia
 have hm:(ns.take 63).length<=63:=by rw[MB];lia
 generalize ns.take 63=ms at ec hm;nofun;refine⟨a,_,rfl,hS,λc hc=>?_⟩;rw[ec];obtain⟨k1,s1⟩:=bS hc (.lst (iV ms));generalize upd H c _=H1 at *;simp only[au s1];refine cP (xs:=iV ms) (Mz (show _<=63 by rw[cu];exact hm) ⋯) (λD i ys H'=>H' D=some (.lst ys)/\KB [] H1 H'/\H1 D=none/\∃bs:List Int,ys=iV bs/\bs.length=i/\∀b∈bs,0<=b) (λD hD=>⟨aa,KB.new hD,hD,[],rfl,rfl,λb hb=>nomatch hb⟩) (λD i ys H' h=>⟨h.1,by obtain⟨_,_,_,bs,rfl,e,_⟩:=h;rw[cu,e]⟩) (λD i ys H' h=>aT.of (h.2.1 _ _ s1 (by simp))) ?_ ?_
 ·rintro D i ys H' x R hx ⟨g1,g2,g3,bs,rfl,g4,g5⟩ k;obtain⟨hi,rfl⟩:=qG hx;nofun;refine k _ _ g1 ⟨aa,λb o e _=>?_,g3,bs++[_],(pG bs [_]).symm,by rw[Mx,g4];rfl,λb hb=>?_⟩
  ·rw[af (ae e g3)];exact g2 b o e (by simp)
  ·rcases N2.mp hb with z|z
   ·exact g5 b z
   ·rw[MH.mp z];split<;>lia
 ·rintro D ys H' ⟨g1,g2,g3,bs,rfl,g4,g5⟩;rw[cu] at g4;refine⟨a,_,rfl,(k1.trans g2).GK (by simp) hS,λd hd=>?_⟩
  rw[ec];obtain⟨k2,s2⟩:=bS hd (.lst (iV ms));generalize upd H' d _=H2 at *;have kk:=(k1.trans g2).trans k2;refine⟨d,ms,rfl,aT.of s2,.ref a,_,rfl,.inl ⟨_,kk.GK (by simp) hS,rfl⟩,.inl ⋯,by decide,by decide,λp hp=>?_⟩
  have gD:=k2.n g1;exact q p D _ ⟨bs,0,0,_,aa,by rw[af (ae gD hp)];exact gD,g5,by decide,by lia,by lia,by decide,by decide⟩ (kk.trans (KB.new hp)) (kk.free (by simp) hp) (k1.free (by simp) g3)
def gO:Sp:=λvs H Q _=>∃(p dq:Addr) (m:Int) (n:Nat),vs=[.ref p,.int m]/\bM H p dq n/\n<2^50/\0<m/\m<2^30/\∀(v:Nat) H',(v:Int)<m->bM H' p dq (n+1)->KB [p,dq] H H'->Q (.int (v:Nat)) H'
def CY(T:Txt K mg)(F:HasFn K mg "_law_draw" hZ ["deck","most"])(ab3:ao P w K mg base aF 1 "_law_mix" ["number","turn"] Ga):ao P w K mg base aF 2 "_law_draw" ["deck","most"] gO:=by
 refine F.dH j5 (by ac_rfl) ?_
 left
 obtain⟨p,c,m,n,rfl,⟨cells,i,t,z,hp,hc,hn0,i0,i1,k63,t0,t1⟩,hn,hm0,hm1,q⟩:=h;have hcp:c≠p:=by
  rintro rfl;rw[hp] at hc
  cases cells<;>cases hc
 have sp:=au hp;have fin:∀(a:Int) (H':Hp),bM H' p c (n+1)->KB [p,c] H H'->Q (.int (a % m)) H':=λa H' D k=>by
  have h0:=Rm a (Int.ne_of_gt hm0);have h1:=Qv a hm0;have:=q (a % m).toNat H' (by lia) D k
  rwa [Int.toNat_of_nonneg h0] at this
 refine⟨_,(Z.aq (Z.asg (Z.op (Z.aI K rfl) (Z.ix (Z.aD K rfl hu) (Z.v 0) Z.int) Z.int) (Z.nK (Z.v 0) Z.int))
   (Z.aq (Z.dz (Z.aK aY (Z.ix (Z.aD K rfl hu) (Z.v 0) Z.int) (Z.cb (Z.bL K rfl) rfl T.bA ∅ (Z.cons (Z.ix (Z.aD K rfl hu) (Z.v 0) Z.int) Z.nil))) (Z.ay (Z.ret (Z.op eF (Z.fc ab3 (Z.cons (Z.ix (Z.aD K rfl hu) (Z.v 0) Z.int) (Z.cons (Z.ix (Z.aD K rfl hu) (Z.v 0) Z.int) Z.nil))) (Z.v 1)))) Z.bp)
   (Z.aq (Z.se (i:=2) j5.nd (Z.ix (Z.aD K rfl hu) (Z.ix (Z.aD K rfl hu) (Z.v 0) Z.int) (Z.ix (Z.aD K rfl hu) (Z.v 0) Z.int)))
   (Z.aq (Z.dz (Z.aK e_ (Z.v 2) (Z.op Ia Z.int Z.int)) (Z.aq (Z.asg (Z.op (Z.aI K rfl) (Z.ix (Z.aD K rfl hu) (Z.v 0) Z.int) Z.int) (Z.nK (Z.v 0) Z.int))
   (Z.ay (Z.ret (Z.op eF (Z.fc ab3 (Z.cons (Z.v 2) (Z.cons (Z.ix (Z.aD K rfl hu) (Z.v 0) Z.int) Z.nil))) (Z.v 1))))) Z.bp)
   (Z.aq (Z.asg (Z.op lu (Z.v 2) (Z.v 1)) (Z.nK (Z.ix (Z.aD K rfl hu) (Z.v 0) Z.int) (Z.ix (Z.aD K rfl hu) (Z.v 0) Z.int)))
   (Z.ay (Z.ret (Z.op eF (Z.v 2) (Z.v 1))))))))),?_⟩
 have x1:jE 4 1=some 1:=by decide
 have x2:jE 4 2=some 2:=by decide
 symm;exists sp,hp,x2;have k1:KB [p,c] H (upd H p (.lst [.ref c,.int i,.int (t+1),.int z])):=KB.set (by simp)
 have p1:upd H p (.lst [.ref c,.int i,.int (t+1),.int z]) p=_:=aa;have c1:upd H p (.lst [.ref c,.int i,.int (t+1),.int z]) c=some (.lst (iV cells)):=by rw[af hcp];exact hc
 generalize upd H p (.lst [.ref c,.int i,.int (t+1),.int z])=H1 at *;have s1:=au p1;have sc:=au c1;subst hN;symm;exists s1,sc,cu;by_cases e1:i=(cells.length:Nat)
 ·exists MD e1,s1;refine⟨_,_,rfl,by lia,by lia,λv=>?_⟩
  nofun;exact⟨hm0,fin v H1 ⟨cells,i,t+1,z,p1,c1,hn0,i0,i1,k63,by lia,by lia⟩ k1⟩
 ·rw[M4 e1,hN];clear hN N;obtain⟨j,rfl⟩:∃j:Nat,i=(j:Int):=⟨i.toNat,by lia⟩
  have hj:j<cells.length:=by lia
  have aj:=Fz hj;have hv0:=hn0 _ (MQ hj);symm;exists s1,sc,aj;generalize cells[j]=v at *;subst hN;symm;nofun;refine⟨⟨by decide,by decide,by decide⟩,?_⟩
  by_cases e2:v<10^(18:Int).toNat
  ·rw[MD e2];exists s1,p1,x1;have k2:KB [p,c] H1 (upd H1 p (.lst [.ref c,.int ((j:Int)+1),.int (t+1),.int z])):=KB.set (by simp)
   have p2:upd H1 p (.lst [.ref c,.int ((j:Int)+1),.int (t+1),.int z]) p=_:=aa;have c2:upd H1 p (.lst [.ref c,.int ((j:Int)+1),.int (t+1),.int z]) c=some (.lst (iV cells)):=by rw[af hcp];exact c1
   generalize upd H1 p (.lst [.ref c,.int ((j:Int)+1),.int (t+1),.int z])=H2 at *;refine⟨_,_,rfl,by lia,by lia,λv=>?_⟩
   nofun;exact⟨hm0,fin v H2 ⟨cells,(j:Int)+1,t+1,z,p2,c2,hn0,by lia,by lia,k63,by lia,by lia⟩ (k1.trans k2)⟩
  ·rw[M4 e2,hN];clear hN N;have xj:jE (iV cells).length (j:Int)=some j:=by rw[vo (by lia) (by rw[cu];lia)];simp
   refine ax λM hM=>?_;exists s1,c1,xj;refine⟨⟨hm0,by lia⟩,?_⟩
   rw[GI];have k2:KB [p,c] H1 (upd H1 c (.lst (iV (cells.set j (v / m))))):=KB.set (by simp)
   have c2:upd H1 c (.lst (iV (cells.set j (v / m)))) c=_:=aa;have p2:upd H1 c (.lst (iV (cells.set j (v / m)))) p=_:=(af hcp.symm).trans p1;generalize upd H1 c (.lst (iV (cells.set j (v / m))))=H2 at *;subst hM;nofun;refine⟨hm0,fin v H2 ⟨cells.set j (v / m),j,t+1,z,p2,c2,λx hx=>?_,by lia,by rw[Oa];lia,by rw[Oa];exact k63,by lia,by lia⟩ (k1.trans k2)⟩
   rcases O8 hx with hx|rfl
   ·exact hn0 x hx
   ·exact Int.ediv_nonneg hv0 (by lia)
def eC(l:List Nat):(iV (nZ l)).length=l.length:=by rw[cu,uC]
def FT(K:W.Frag):Sp:=λvs H Q _=>∃(a:Addr) (ls:List Int),vs=[.ref a]/\(H a=some (.tup (iV ls))\/H a=some (.lst (iV ls)))/\pJ ls/\∀H',KB [] H H'->Q (.bl (uJ ls)) H'
def tX(h:H a=some (.tup xs)\/H a=some (.lst xs)):∃b,sq H a=some (b,xs):=h.elim (λh=>⟨_,a8 h⟩) λh=>⟨_,au h⟩
def Cg(ha:H a=some (.tup (iV ls))\/H a=some (.lst (iV ls)))(hn:ls.length<64)(q:∀ns':List Int,ns'.Perm ls->ns'.Pairwise (·<=·)->∀l,H l=none->Q (.ref l) (upd H l (.lst (ns'.map V.int)))):Y.Ar K [.ref a] H Q:=ha.elim (λh=>.inl ⟨a,ls,rfl,aW.of h,hn,q⟩) λh=>.inr ⟨a,ls,rfl,aT.of h,hn,q⟩
def Hg(T:Txt K mg)(F:HasFn K mg "can_be" lU ["lengths"]):ao P w K mg base aF 1 "can_be" ["lengths"] (FT K):=by
 refine F.dH c8 (by ac_rfl) ?_
 left
 obtain⟨a,ls,rfl,ha,hL,q⟩:=h;refine⟨_,(Z.aq (Z.se (i:=1) c8.nd Z.int)
   (Z.aq (Z.se (i:=2) c8.nd Z.int)
   (Z.aq (Z.se (i:=3) c8.nd (Z.cb (Z.bL K rfl) rfl T.bA ∅ (Z.cons (Z.v 0) Z.nil)))
   (Z.aq (Z.fQ Nd rfl (Z.any K rfl (Z.cb (Y.vi K rfl) rfl T.mS ∅ (Z.cons (Z.v 0) Z.nil))) (Z.aA (i:=4) c8.nd rfl (by right)) (Z.aq (Z.dz (Z.aK aY (Z.v 1) Z.int) (Z.ay (Z.ret Z.bl)) Z.bp)
   (Z.aq (Z.uO Nd (Z.tw (Z.rj (Z.aK e_ (Z.v 2) (Z.v 4)) (Z.ko (Z.aK e_ (Z.v 1) (Z.v 3))))) (Z.aq (Z.se (i:=1) c8.nd (Z.op cN (Z.v 1) Z.int))
   (Z.ay (Z.se (i:=2) c8.nd (Z.op (Z.aI K rfl) (Z.v 2) Z.int)))))
   (Z.aq (Z.dz (Z.aK vP (Z.v 1) (Z.v 3)) (Z.ay (Z.ret Z.bl)) Z.bp)
   (Z.aq (Z.se (i:=1) c8.nd (Z.op d7 (Z.v 1) Z.int))
   (Z.ay (Z.se (i:=3) c8.nd (Z.op d7 (Z.v 3) Z.int))))))))
   (Z.ay (Z.ret Z.bl)))))),?_⟩
 symm;nofun;subst hN;symm;nofun;subst hN;obtain⟨kd,hsq⟩:=tX ha;symm;exists hsq;subst hN;symm;nofun;refine Cg ha (by have:=hL.2.1;lia) λrs hp hs l hl=>?_
 obtain⟨k1,s1⟩:=bS hl (.lst (rs.map V.int));generalize upd H l _=H1 at *;simp only[au s1];refine jR (xs:=iV rs) (λi σ H'=>∃(f d n:Int) (s4:Option V),H1=H'/\(∀x∈rs.drop i,1<=x/\x<=40/\d<=x)/\0<=f/\0<=d/\n=(rs.drop i).length/\(uJ ls=true ↔ Kr.fit ((rs.drop i).map Int.toNat) f.toNat d.toNat 40)/\σ=[some (.ref a),some (.int f),some (.int d),some (.int n),s4]) ⟨1,0,_,none,rfl,λx hx=>by have:=hL.2.2 x (hp.mem_iff.mp hx);lia,by decide,by decide,by rw[NH,hp.length_eq,cu],?_,rfl⟩ ?_ ?_ ?_
 ·unfold uJ KS Kr.fit;rw[O7,NH,Kr.qC (hp.map Int.toNat),show (1:Int).toNat*2^(40-(0:Int).toNat)=2^40 from rfl]
 ·rintro i σ H' _ ⟨f,d,n,s4,rfl,_⟩;exact aT.of s1
 ·rintro i x σ H' hx ⟨f,d,n,s4,rfl,hb,f0,d0,hn,hi,rfl⟩;obtain⟨hir,rfl⟩:=qG hx;have ed:=ND hir;have hs2:(rs.drop i).Pairwise (·<=·):=List.Pairwise.drop hs;rw[ed] at hb hn hi hs2;generalize rs[i]=l at *;generalize rs.drop (i+1)=r at *;obtain⟨hl1,hl2,hl3⟩:=hb l (by simp)
  have hle:∀x∈r,l<=x:=(Nn.mp hs2).1;unfold aL;refine ax λM hM=>?_;by_cases hf:f=0
  ·exists MD hf;have:uJ ls=false:=by
    cases c:uJ ls with
    |false=>rfl
    |true=>have:=hi.mp c;rw[hf] at this;exact absurd this Kr.As
   rw[this] at q;exact q _ k1
  ·exists M4 hf;subst hM;refine ax λM hM=>?_;refine⟨λm σ H'=>H1=H'/\∃f d:Int,0<f/\0<=d/\d<=l/\m=(l-d).toNat/\(uJ ls=true ↔ Kr.fit ((l::r).map Int.toNat) f.toNat d.toNat 40)/\σ=[some (.ref a),some (.int f),some (.int d),some (.int n),some (.int l)],⟨_,rfl,f,d,by lia,d0,hl3,rfl,hi,rfl⟩,?_⟩
   rintro m σ H' ⟨rfl,f,d,f0,d0,dl,rfl,hi,rfl⟩;have after:(d=l\/n<=f)->M [some (.ref a),some (.int f),some (.int d),some (.int n),some (.int l)] H1:=λhc=>by
    subst hM;refine ax λM hM=>?_;by_cases h3:n<=f
    ·exists MD h3;have:uJ ls=true:=hi.mpr (Kr.tZ (λx hx=>by
      obtain⟨y,hy,rfl⟩:=Nc.mp hx;rcases M0.mp hy with rfl|hy
      ·lia
      ·have:=hle y hy;lia) (by rw[Ms];lia))
     rw[this] at q;exact q _ k1
    ·exists M4 h3;subst hM;refine ax λM hM=>?_;nofun;subst hM;refine nV λM hM=>?_;nofun;rw[hM];have hd:d=l:=hc.resolve_right h3;subst hd;refine⟨f-1,d,n-1,some _,rfl,λx hx'=>⟨(hb x (by simp[hx'])).1,(hb x (by simp[hx'])).2.1,hle x hx'⟩,by lia,d0,by rw[hn,MJ];lia,?_,rfl⟩
     rw[hi,Nb,Kr.zI (by lia),show (f-1).toNat=f.toNat-1 by lia]
   by_cases c1:d<l
   ·by_cases c2:f<n
    ·exists MD c1,MD c2;refine⟨λσ' H'=>∃m',m'<(l-d).toNat/\(H1=H'/\∃f d:Int,0<f/\0<=d/\d<=l/\m'=(l-d).toNat/\(uJ ls=true ↔ Kr.fit ((l::r).map Int.toNat) f.toNat d.toNat 40)/\σ'=[some (.ref a),some (.int f),some (.int d),some (.int n),some (.int l)]),λ_ _ h=>h,?_⟩;refine⟨.inr ⋯,?_⟩
     refine⟨_,?_,rfl,f*2,d+1,by lia,by lia,by lia,rfl,?_,rfl⟩
     ·lia
     ·rw[hi,Kr.uj (l:=l.toNat) (by lia) (by lia),show (f*2).toNat=f.toNat*2 by lia,show (d+1).toNat=d.toNat+1 by lia]
    ·exists MD c1,M4 c2;exact after (.inr (by lia))
   ·exists M4 c1;exact after (.inl (by lia))
 ·rintro σ H' ⟨f,d,n,s4,rfl,_,_,_,_,hi,rfl⟩;rw[cu,Oh] at hi;show N _ _;subst hN;nofun;have:uJ ls=true:=hi.mpr (MG _);rw[this] at q;exact q _ k1
def LS:Option (List Nat)->V
 |none=>.aN
 |some w=>.str (wd w)
def qc(ws:List (List Nat)):(wV ws).length=ws.length:=Ms ..
def Aw(K:W.Frag):Sp:=λvs H Q _=>∃(a:Addr) (ls:List Int),vs=[.ref a]/\H a=some (.tup (iV ls))/\pJ ls/\uJ ls=true/\∀b H',KB [] H H'->H' b=some (.tup (wV (wordsOf Cw.gW ls)))->Q (.ref b) H'
def CS(T:Txt K mg)(F:HasFn K mg "code_of" d8 ["lengths"])(ai2:ao P w K mg base aF 1 "can_be" ["lengths"] (FT K))(ab5:ao P w K mg base aF 1 "word_behind" ["ahead","length"] J6):ao P w K mg base aF 4 "code_of" ["lengths"] (Aw K):=by
 obtain⟨c,Pt,htab,hcc⟩:=T.q_.ex;refine F.L1 e7 (by ac_rfl) (λf cdv A outer s H vs Q E hr hm kB h=>?_)
 have:=hcc _ _ ⟨hm,kB⟩;subst this;have hu:=a9 hr;obtain⟨a,ls,rfl,ha,hL,ho,q⟩:=h;refine⟨_,(Z.aq (Z.dz (Z.j7 (Z.j6 K rfl (Z.fc ai2 (Z.cons (Z.v 0) Z.nil)))) (Z.ay Z.vL) Z.bp)
   (Z.aq (Z.sec (j:=1) e7.nd (osc:=ab d8) (ON:=["lengths","words","ahead","thing"]) (own:=["length"]) (N:=["length","lengths","words","ahead","thing"]) (az.of rfl ∅) (Z.any K rfl (Z.v 0)) (λnd _ _ _ _=>(Z.aA (i:=0) nd rfl (by right))) (λ_ _ _ _=>Z.je) (λ_ _ _ _=>Z.str))
   (Z.aq (Z.se (i:=2) e7.nd Z.aN)
   (Z.aq (Z.fQ Nd rfl (Z.any K rfl (Z.JC (k:=0) (j:=0) K rfl ⋯ htab rfl rfl rfl rfl rfl T.mS (Z.cons (Z.ct Y.rA rfl T.cK ∅ (Z.cons (Z.cb (Z.bL K rfl) rfl T.bA ∅ (Z.cons (Z.v 0) Z.nil)) Z.nil)) Z.nil) (hr.mono ⋯) rfl ⋯ rfl rfl rfl rfl rfl rfl rfl (λ_ _ _ _=>rfl))) (Z.aA (i:=3) e7.nd rfl (by right)) (Z.aq (Z.asg (Z.fc ab5 (Z.cons (Z.v 2) (Z.cons (Z.ix (Z.aD K rfl hu) (Z.v 0) (Z.v 3)) Z.nil))) (Z.nK (Z.v 1) (Z.v 3)))
   (Z.ay (Z.se (i:=2) e7.nd (Z.ix (Z.aD K rfl hu) (Z.v 1) (Z.v 3))))))
   (Z.ay (Z.ret (Z.ct (Z.c7 K rfl) rfl T.cy ∅ (Z.cons (Z.v 1) Z.nil)))))))),?_⟩
 symm;nofun;refine⟨a,ls,rfl,.inl ha,hL,λH1 k1=>?_⟩;exists ho,Bool.not_true;rw[M4 (λz=>Bool.noConfusion z),hN];clear hN N;have ha1:=k1.n ha;symm;exists a8 ha1;refine aU (xs:=iV ls) (Mz (show _<=20 by rw[cu];exact hL.2.1) ⋯) (λD i ys H'=>H' D=some (.lst ys)/\ys=wV (List.replicate i [])/\KB [] H1 H'/\H1 D=none) (λD hD=>⟨aa,rfl,KB.new hD,hD⟩) (λD i ys H' h=>⟨h.1,by rw[h.2.1,qc,MO]⟩) (λD i ys H' h=>aW.of (h.2.2.1 _ _ ha1 (by simp))) ?_ ?_
 ·rintro D i ys H' x R hx ⟨g1,rfl,g3,g4⟩ kk;nofun;refine kk _ _ g1 ⟨aa,?_,λb o e _=>?_,g4⟩
  ·rw[List.replicate_succ',wV,wV,MI];rfl
  ·rw[af (ae e g4)];exact g3 b o e (by simp)
 rintro D ys H2 ⟨g1,rfl,g3,g4⟩;rw[cu] at g1;show N _ _;subst hN;symm;nofun;subst hN;have h02:=k1.trans g3;have D0:H D=none:=k1.free (by simp) g4
 have ha2:=h02.n ha;symm;exists a8 ha2;refine .inl ⟨_,rfl,λr hr0=>?_⟩;have k3:KB [] H2 (upd H2 r (.rR 0 ((iV ls).length:Nat))):=KB.new hr0;have s3:upd H2 r (.rR 0 ((iV ls).length:Nat)) r=some (.rR 0 (ls.length:Nat)):=by rw[aa,cu]
 generalize upd H2 r (.rR 0 ((iV ls).length:Nat))=H3 at *;have le:(mM ls.length).length=ls.length:=by rw[Ms,Nr]
 have ha3:=k3.n ha2;refine⟨r,mM ls.length,ls,rfl,⟨ls.length,s3,rfl⟩,le.symm,by rw[le];have:=hL.2.1;lia,λi v k e1 e2 H' g=>?_,λH4 l g hl=>?_⟩
 ·have hi:i<ls.length:=(Mw.mp e2).1;have e3:(mM ls.length)[i]?=some (.int (i:Int)):=by simp[hi]
  rw[e3] at e1;cases e1;exact⟨_,a,iV ls,rfl,rfl,aW.of (g.same _ _ ha3),aV (by unfold iV;rw[M7,e2];rfl)⟩
 have eo:kY ls (mM ls.length)=(aC ls).map λk=>V.int ((k:Nat):Int):=DW ..;rw[eo];have k4:KB [] H3 (upd H4 l (.lst ((aC ls).map λk=>V.int ((k:Nat):Int)))):=λb o e _=>by rw[af (ae (g.same _ _ e) hl)];exact g.same _ _ e
 have s4:upd H4 l (.lst ((aC ls).map λk=>V.int ((k:Nat):Int))) l=_:=aa;have gD4:=k4.n (k3.n g1);have lD:l≠D:=λz=>by
  have:=g.same _ _ (k3.n g1);rw[<- z,hl] at this;cases this
 generalize upd H4 l (.lst ((aC ls).map λk=>V.int ((k:Nat):Int)))=H5 at *;have h05:KB [] H H5:=h02.trans (k3.trans k4);have a5:a≠D:=λz=>by rw[z,D0] at ha;cases ha
 clear k3 k4 g hl hr0 s3 ha3 le eo g1 h02 ha2 g3 g4 ha1 k1;refine jR (xs:=(aC ls).map λk=>V.int ((k:Nat):Int)) (λi σ H'=>∃o:Option V,i<=(aC ls).length/\(∀v,(gB ls ((aC ls).take i)).1=some v->v.length<=40)/\H' D=some (.lst (wV (gB ls ((aC ls).take i)).2))/\H' l=some (.lst ((aC ls).map λk=>V.int ((k:Nat):Int)))/\KB [] H H'/\σ=[some (.ref a),some (.ref D),some (LS (gB ls ((aC ls).take i)).1),o]) ⟨none,MG _,(λv z=>by cases z),gD4,s4,h05,rfl⟩ (λi σ H' _ h=>by obtain⟨o,_,_,_,h,_⟩:=h;exact aT.of h) ?_ ?_
 ·rintro i x σ H' hx ⟨o,hi,hw,gD,gl,h0,rfl⟩;have hio:i<(aC ls).length:=by have:=(Mw.mp hx).1;rw[Ms] at this;exact this
  obtain rfl:x=.int (((aC ls)[i]:Nat):Int):=by
   rw[M7,Mt hio] at hx;exact (Option.some.inj hx).symm
  have hth:(aC ls)[i]<ls.length:=j0 (MQ hio);have eT:(aC ls).take (i+1)=(aC ls).take i++[(aC ls)[i]]:=by rw[Ni,Mt hio];rfl
  rw[eT];generalize (aC ls)[i]=th at *;generalize (aC ls).take i=done at *;have ex:bQ (iV ls) (th:Int)=some (.int ls[th]):=Fz hth;have hlt:=hL.2.2 _ (MQ hth);have en:ls[th]=((aR ls th:Nat):Int):=by
   unfold aR;rw[M9,Mt hth];simp;lia
  have hn20:aR ls th<=40:=by lia
  have eD:gB ls (done++[th])=Cw.along Cw.gW (aR ls) [th] (gB ls done):=Cw.gn _ _ _;have hwl:(gB ls done).2.length=ls.length:=HV ls done;have gt:=a8 (h0.n ha);obtain⟨n,hn⟩:∃n,aR ls th=n:=⟨_,rfl⟩;rw[hn] at en hn20;have fin:∀y:List Nat,y.length<=40->gB ls (done++[th])=(some y,(gB ls done).2.set th y)->∀M,M=(λσ H'=>∃o:Option V,i+1<=(aC ls).length/\(∀v,(gB ls (done++[th])).1=some v->v.length<=40)/\H' D=some (.lst (wV (gB ls (done++[th])).2))/\H' l=some (.lst ((aC ls).map λk=>V.int ((k:Nat):Int)))/\KB [] H H'/\σ=[some (.ref a),some (.ref D),some (LS (gB ls (done++[th])).1),o])->M [some (.ref a),some (.ref D),some (.str (wd y)),some (.int (th:Nat))] (upd H' D (.lst ((wV (gB ls done).2).set th (.str (wd y))))):=λy hy e M hM=>by
   rw[hM,e];refine⟨some _,hio,λv z=>by cases z;exact hy,?_,by rw[af lD];exact gl,λb u e _=>by rw[af (ae e D0)];exact h0.n e,rfl⟩
   rw[aa];unfold wV;rw[Pc]
  have xk:jE (wV (gB ls done).2).length (th:Int)=some th:=by rw[vo (by lia) (by rw[qc,hwl];lia),MY]
  have setI:∀y:List Nat,bQ ((wV (gB ls done).2).set th (.str (wd y))) (th:Int)=some (.str (wd y)):=λy=>aV (NO (by rw[qc,hwl];exact hth))
  unfold aL;refine ax λM hM=>?_;exists gt,ex
  cases hs:(gB ls done).1 with
  |none =>
   refine⟨n,hn20,.inl ⟨by rw[en];rfl,?_⟩⟩
   exists gD,xk;subst hM;dsimp only;refine nV λM hM=>?_;exists setI;refine fin _ (by rw[List.length_replicate];exact hn20) ?_ M hM
   rw[eD];generalize gB ls done=st at *;obtain⟨x,ws⟩:=st;obtain rfl:x=none:=hs;subst hn;rfl
  |some v =>
   refine⟨n,hn20,.inr ⟨v,by rw[en];rfl,hw v hs,?_⟩⟩
   exists gD,xk;subst hM;dsimp only;refine nV λM hM=>?_;exists setI;refine fin _ (wq (hw v hs) hn20) ?_ M hM;rw[eD];generalize gB ls done=st at *;obtain⟨x,ws⟩:=st;obtain rfl:x=some v:=hs;subst hn;rfl
 ·rintro σ H' ⟨o,_,_,gD,_,h0,rfl⟩;rw[Ms,Na] at gD;show N _ _;subst hN;exists au gD;exactλb hb=>q b _ (h0.trans (KB.new hb)) aa
def Eo(H:Hp)(ca:Addr)(cd:List (List (List Nat))):Prop:=∃a0 a1 a2,H ca=some (.lst [.ref a0,.ref a1,.ref a2])/\H a0=some (.tup (wV (cd.getD 0 [])))/\H a1=some (.tup (wV (cd.getD 1 [])))/\H a2=some (.tup (wV (cd.getD 2 [])))
def Eo.keep{ca:Addr}{cd:List (List (List Nat))}(h:Eo H ca cd)(k:KB ex H H')(n:ca∉ex)(hx:∀b∈ex,∀xs,H b≠some (.tup xs)):Eo H' ca cd:=by
 obtain⟨a0,a1,a2,h1,h2,h3,h4⟩:=h;exact⟨a0,a1,a2,k _ _ h1 n,k _ _ h2 λz=>hx _ z _ h2,k _ _ h3 λz=>hx _ z _ h3,k _ _ h4 λz=>hx _ z _ h4⟩
def Eo.kb{ca:Addr}{cd:List (List (List Nat))}(h:Eo H ca cd)(k:KB [] H H'):Eo H' ca cd:=h.keep k (by simp) (by simp)
def lE:=aQ
def NT(ex:List Addr)(H:Hp):Prop:=∀b∈ex,∀xs,H b≠some (.tup xs)
def NT.nil(H:Hp):NT [] H:=λb hb=>nomatch hb
def bM.nt{n:Nat}(h:bM H p dq n):NT [p,dq] H:=λb hb xs e=>by
 obtain⟨ys,e'⟩:=h.lst b hb;rw[e] at e';cases e'
def yV(H:Hp)(b:Addr)(bk:List (List Int)):Prop:=∃as:List Addr,H b=some (.tup (as.map V.ref))/\as.length=bk.length/\∀(i:Nat) (a:Addr),as[i]?=some a->H a=some (.tup (iV (bk.getD i [])))
def yV.keep{bk:List (List Int)}(h:yV H b bk)(k:KB ex H H')(hx:NT ex H):yV H' b bk:=by
 obtain⟨as,h1,h2,h3⟩:=h;exact⟨as,k _ _ h1 λz=>hx _ z _ h1,h2,λi a e=>k _ _ (h3 i a e) λz=>hx _ z _ (h3 i a e)⟩
def yV.kb{bk:List (List Int)}(h:yV H b bk)(k:KB [] H H'):yV H' b bk:=h.keep k (NT.nil _)
def yN{l:List α}(h:l.length=3):∃a b c,l=[a,b,c]:=by
 rcases l with _|⟨a,_|⟨b,_|⟨c,_|⟨d,l⟩⟩⟩⟩<;>first|exact⟨_,_,_,rfl⟩ | (exfalso;revert h;simp)
def vK(K:W.Frag):Sp:=λvs H Q _=>∃(b:Addr) (bk:List (List Int)),vs=[.ref b]/\yV H b bk/\Bk bk/\∀ca H',H ca=none->KB [] H H'->Eo H' ca (d5 bk)->Q (.ref ca) H'
def Ac(T:Txt K mg)(F:HasFn K mg "codes_of" fZ ["book"])(ai1:ao P w K mg base aF 4 "code_of" ["lengths"] (Aw K)):ao P w K mg base aF 6 "codes_of" ["book"] (vK K):=by
 refine F.dH sF (by ac_rfl) ?_
 left
 obtain⟨b,bk,rfl,hb,hB,q⟩:=h;obtain⟨as,hb1,hb2,hb3⟩:=hb;obtain⟨l0,l1,l2,rfl,_,_,_,hl⟩:=hB;refine⟨_,(Z.ay (Z.ret (Z.mT (osc:=ab fZ) (ON:=["book"]) (own:=["lengths"]) (N:=["lengths","book"]) (az.of rfl ∅) (Z.any K rfl (Z.v 0)) (λnd _ _ _ _=>(Z.aA (i:=0) nd rfl (by right))) (λ_ _ _ _=>Z.je) (λ_ _ _ _=>(Z.fc ai1 (Z.cons (Z.v 0) Z.nil)))))),?_⟩
 exists a8 hb1;refine aU (xs:=as.map V.ref) (Mz (show _<=3 by rw[Ms,hb2];exact M8 3) ⋯) (λD i ys H'=>H D=none/\H' D=some (.lst ys)/\KB [] H H'/\∃cs:List Addr,ys=cs.map V.ref/\cs.length=i/\∀(j:Nat) (c:Addr),cs[j]?=some c->H' c=some (.tup (wV (wordsOf Cw.gW (List.getD [l0,l1,l2] j []))))) (λD hD=>⟨hD,aa,KB.new hD,[],rfl,rfl,λj c e=>nomatch e⟩) (λD i ys H' h=>⟨h.2.1,by obtain⟨_,_,_,cs,rfl,e,_⟩:=h;rw[Ms,e]⟩) (λD i ys H' h=>aW.of (h.2.2.1 _ _ hb1 (by simp))) ?_ ?_
 ·rintro D i ys H' x R hx ⟨g0,g1,g2,cs,rfl,g4,g5⟩ kk;obtain⟨a,ea,rfl⟩:∃a,as[i]?=some a/\x=.ref a:=by
   rw[M7] at hx;obtain⟨a,e,rfl⟩:=MT.mp hx;exact⟨a,e,rfl⟩
  have hi:i<3:=by have:=(Mw.mp ea).1;rw[hb2] at this;exact this
  have hm:List.getD [l0,l1,l2] i []∈[l0,l1,l2]:=by
   rcases qQ hi with rfl|rfl|rfl<;>simp
  nofun;refine⟨a,_,rfl,g2.n (hb3 i a ea),(hl _ hm).1,(hl _ hm).2,λc H5 k5 e5=>?_⟩;have gD:=k5.n g1;have cD:c≠D:=λz=>by rw[z,gD] at e5;cases e5
  refine kk _ _ gD ⟨g0,aa,λu o e _=>by rw[af (ae e g0)];exact k5.n (g2.n e),cs++[c],by rw[MI];rfl,by rw[Mx,g4];rfl,λj d e=>?_⟩
  rcases Nt j cs.length with hj|hj
  ·rw[MU hj] at e;have e6:=k5.n (g5 j d e);rw[af (λz=>by rw[z,gD] at e6;cases e6)];exact e6
  ·rw[MR hj] at e;obtain⟨hj2,rfl⟩:=Mw.mp e;have:j=i:=by simp at hj2;lia
   subst this;rw[af (show _≠D by simpa using cD)]
   simpa using e5
 ·rintro D ys H' ⟨g0,g1,g2,cs,rfl,g4,g5⟩;rw[Ms,hb2] at g4;obtain⟨c0,c1,c2,rfl⟩:=yN g4;exact q D H' g0 g2 ⟨c0,c1,c2,g1,g5 0 c0 rfl,g5 1 c1 rfl,g5 2 c2 rfl⟩
def rM:Sp:=λvs H Q _=>∃(p dq:Addr) (n:Nat),vs=[.ref p]/\bM H p dq n/\n<2^40/\∀(v:Nat) H',bM H' p dq (n+2)->KB [p,dq] H H'->v<65536->Q (.int (v:Nat)) H'
def yy(T:Txt K mg)(F:HasFn K mg "_law_number" fA ["deck"])(o0:ao P w K mg base aF 2 "_law_draw" ["deck","most"] gO):ao P w K mg base aF 3 "_law_number" ["deck"] rM:=by
 refine F.dH eE (by ac_rfl) ?_
 left
 obtain⟨p,dq,n,rfl,hd,hn,q⟩:=h;refine⟨_,(Z.aq (Z.se (i:=1) eE.nd (Z.fc o0 (Z.cons (Z.v 0) (Z.cons Z.int Z.nil))))
   (Z.aq (Z.dz (Z.aK aY (Z.v 1) Z.int) (Z.ay (Z.ret Z.int)) Z.bp)
   (Z.aq (Z.se (i:=2) eE.nd (Z.op HR Z.int (Z.op d7 (Z.v 1) Z.int)))
   (Z.ay (Z.ret (Z.op (Z.aI K rfl) (Z.v 2) (Z.fc o0 (Z.cons (Z.v 0) (Z.cons (Z.v 2) Z.nil))))))))),?_⟩
 symm;nofun;refine⟨p,dq,17,n,rfl,hd,by lia,by decide,by decide,λz H1 hz D1 k1=>?_⟩
 subst hN;symm;by_cases a0:(z:Int)=0
 ·exists MD a0;exact q 0 H1 (D1.mono (by lia)) k1 ⋯
 ·exists M4 a0;subst hN;symm;nofun;refine⟨⟨by lia,by lia,by decide⟩,?_⟩
  subst hN;obtain⟨j,ej,hj⟩:∃j:Nat,((z:Int)-1).toNat=j/\j<=15:=⟨_,rfl,by lia⟩
  rw[ej,Int.one_mul];have p1:(0:Int)<2^j:=Int.pow_pos ⋯
  have p2:(2:Int)^j<=2^15:=by
   have:2^j<=2^15:=Qe ⋯ hj
   exact_mod_cast this
  generalize (2:Int)^j=t at p1 p2;nofun;refine⟨p,dq,t,n+1,rfl,D1,by lia,p1,by lia,λv H2 hv D2 k2=>?_⟩
  nofun;obtain⟨k,ek⟩:∃k:Nat,t+(v:Int)=k:=⟨(t+(v:Int)).toNat,by lia⟩
  rw[ek];exact q k H2 D2 (k1.trans k2) (by lia)
def two8(h1:(c:Int)<2):∃m:Int,bQ [V.int 2,.int 8] (c:Int)=some (.int m)/\0<m/\m<=8:=by
 have:c=0\/c=1:=by lia
 rcases this with rfl|rfl
 ·exact⟨2,rfl,by decide,by decide⟩
 ·exact⟨8,rfl,by decide,by decide⟩
def sg{n:Nat}(D:bM H p dq n)(hn:n<2^49)(q:∀b H',b<8->bM H' p dq (n+2)->KB [p,dq] H H'->Q (.str (bD b)) H'):
  0+1+1<=sizeLine/\∀m,H m=none->gO [.ref p,.int 2] (upd H m (.lst [.int 2,.int 8])) (λy H2=>Fj K (.ref m) y H2 λx H1=>gO [.ref p,x] H1 (λy H2=>Fj K (.str (Str.ofString "abcdefgh")) y H2 Q) E0) E0:=by
 refine⟨by decide,λm hm=>⟨p,dq,2,n,rfl,D.kb (KB.new hm),by lia,by decide,by decide,λd H2 hd D2 k2=>?_⟩⟩
 have s2:=au (k2 m _ aa (D.new hm));have kk:KB [p,dq] H H2:=(KB.new hm).trans k2;obtain⟨x,ha,x0,x8⟩:=two8 hd;exists s2,ha;refine⟨p,dq,x,n+1,rfl,D2,by lia,x0,by lia,λy H3 hy D3 k3=>?_⟩
 have hb:=H_ (show 0<=(y:Int) by lia) (show (y:Int)<8 by lia)
 exists hb;exact⟨by decide +kernel,q y H3 (by lia) D3 (kk.trans k3)⟩
def FH(K:W.Frag):Sp:=λvs H Q _=>∃(p dq:Addr) (many n:Nat),vs=[.ref p,.int (many:Nat)]/\bM H p dq n/\n<2^38/\many<1000/\∀(r:Row) (a:Addr) H',r.Ok many->H' a=some (.tup r.vs)->bM H' p dq (n+5)->KB [p,dq] H H'->Q (.ref a) H'
def HK(T:Txt K mg)(F:HasFn K mg "_law_row" iP ["deck","goals"])(o0:ao P w K mg base aF 2 "_law_draw" ["deck","most"] gO)(ab7:ao P w K mg base aF 3 "_law_number" ["deck"] rM):ao P w K mg base aF 4 "_law_row" ["deck","goals"] (FH K):=by
 refine F.dH eZ (by ac_rfl) ?_
 left
 obtain⟨p,dq,many,n,rfl,hd,hn,hmy,q⟩:=h;refine⟨_,(Z.aq (Z.se (i:=2) eZ.nd (Z.lst (Z.consts rfl)))
   (Z.aq (Z.se (i:=3) eZ.nd (Z.ix (Z.aD K rfl hu) (Z.v 2) (Z.fc o0 (Z.cons (Z.v 0) (Z.cons Z.int Z.nil)))))
   (Z.aq (Z.se (i:=4) eZ.nd (Z.ix (Z.aD K rfl hu) Z.str (Z.fc o0 (Z.cons (Z.v 0) (Z.cons (Z.ix (Z.aD K rfl hu) (Z.lst (Z.consts rfl)) (Z.fc o0 (Z.cons (Z.v 0) (Z.cons Z.int Z.nil)))) Z.nil)))))
   (Z.aq (Z.dz (Z.aK aY (Z.v 3) Z.str) (Z.ay (Z.ret (Z.tup (Z.cons (Z.v 3) (Z.cons (Z.v 4) (Z.cons (Z.fc ab7 (Z.cons (Z.v 0) Z.nil)) Z.nil)))))) Z.bp)
   (Z.aq (Z.dz (Z.aK (Z.yB K rfl hu) (Z.v 3) (Z.tup (Z.consts rfl))) (Z.ay (Z.ret (Z.tup (Z.cons (Z.v 3) (Z.cons (Z.v 4) (Z.cons (Z.ix (Z.aD K rfl hu) Z.str (Z.fc o0 (Z.cons (Z.v 0) (Z.cons (Z.ix (Z.aD K rfl hu) (Z.lst (Z.consts rfl)) (Z.fc o0 (Z.cons (Z.v 0) (Z.cons Z.int Z.nil)))) Z.nil)))) Z.nil)))))) Z.bp)
   (Z.aq (Z.dz (Z.aK (Z.yB K rfl hu) (Z.v 3) (Z.tup (Z.consts rfl))) (Z.ay (Z.ret (Z.tup (Z.cons (Z.v 3) (Z.cons (Z.v 4) Z.nil))))) Z.bp)
   (Z.aq (Z.dz (Z.aK aY (Z.v 3) Z.str) (Z.ay (Z.ret (Z.tup (Z.cons (Z.v 3) (Z.cons (Z.fc o0 (Z.cons (Z.v 0) (Z.cons (Z.op (Z.aI K rfl) (Z.v 1) Z.int) Z.nil))) Z.nil))))) Z.bp)
   (Z.aq (Z.dz (Z.aK aY (Z.v 3) Z.str) (Z.ay (Z.ret (Z.tup (Z.cons (Z.v 3) (Z.cons (Z.v 4) (Z.cons (Z.fc o0 (Z.cons (Z.v 0) (Z.cons (Z.op (Z.aI K rfl) (Z.v 1) Z.int) Z.nil))) Z.nil)))))) Z.bp)
   (Z.ay (Z.ret (Z.tup (Z.cons (Z.v 3) Z.nil)))))))))))),?_⟩
 symm;nofun;refine⟨by decide,λl hl=>?_⟩
 have k1:KB [] H (upd H l (.lst [.str (Str.ofString "put"),.str (Str.ofString "put"),.str (Str.ofString "add"),.str (Str.ofString "sub"),.str (Str.ofString "copy"),.str (Str.ofString "tell"),.str (Str.ofString "tell"),.str (Str.ofString "hear"),.str (Str.ofString "jump"),.str (Str.ofString "zero"),.str (Str.ofString "zero"),.str (Str.ofString "halt")])):=KB.new hl;have s1:upd H l (.lst [.str (Str.ofString "put"),.str (Str.ofString "put"),.str (Str.ofString "add"),.str (Str.ofString "sub"),.str (Str.ofString "copy"),.str (Str.ofString "tell"),.str (Str.ofString "tell"),.str (Str.ofString "hear"),.str (Str.ofString "jump"),.str (Str.ofString "zero"),.str (Str.ofString "zero"),.str (Str.ofString "halt")]) l=_:=aa;generalize upd H l _=H1 at *;have D1:=hd.kb k1;have nl:=hd.new hl;subst hN;symm;nofun;refine⟨p,dq,12,n,rfl,D1,by lia,by decide,by decide,λc H2 hc D2 k2=>?_⟩
 have s2:=k2 _ _ s1 nl;obtain⟨v,hv,ha⟩:=Jf (xs:=[V.str (Str.ofString "put"),.str (Str.ofString "put"),.str (Str.ofString "add"),.str (Str.ofString "sub"),.str (Str.ofString "copy"),.str (Str.ofString "tell"),.str (Str.ofString "tell"),.str (Str.ofString "hear"),.str (Str.ofString "jump"),.str (Str.ofString "zero"),.str (Str.ofString "zero"),.str (Str.ofString "halt")]) (i:=c) hc;exists au s2,ha;have kk2:KB [p,dq] H H2:=k1.all.trans k2;clear ha hc k1 k2 s1 s2 nl hl;subst hN;symm;nofun;refine sg D2 (by lia) λbn H3 hb8 D3 k3=>?_
 have kk3:=kk2.trans k3;clear k3 D2 kk2 D1;subst hN;have hv6:v=.str "put"\/(∃w,v=.str (w2 w))\/(∃w,v=.str (w1 w))\/v=.str "jump"\/v=.str "zero"\/v=.str "halt":=by
  simp only[M0,MP,Nl] at hv;rcases hv with h|h|h|h|h|h|h|h|h|h|h|h<;>subst h<;>first|exact .inl rfl|exact .inr (.inl ⟨0,rfl⟩)|exact .inr (.inl ⟨1,rfl⟩)|exact .inr (.inl ⟨2,rfl⟩)|exact .inr (.inr (.inl ⟨0,rfl⟩))|exact .inr (.inr (.inl ⟨1,rfl⟩))|exact .inr (.inr (.inr (.inl rfl)))|exact .inr (.inr (.inr (.inr (.inl rfl))))|exact .inr (.inr (.inr (.inr (.inr rfl))))
 clear hv;have tell:∀(r:Row) (G:Hp) (m:Nat),r.Ok many->bM G p dq m->m<=n+5->KB [p,dq] H G->∀t,G t=none->Q (.ref t) (upd G t (.tup r.vs)):=λr G m ok D hm k t ht=>q r t _ ok aa ((D.kb (KB.new ht)).mono hm) (k.trans (KB.new ht));symm;rcases hv6 with rfl|⟨u,rfl⟩|⟨u,rfl⟩|hv
 ·exists (show (Str.ofString "put"=Str.ofString "put")=True from eq_true rfl),OZ;refine⟨p,dq,n+3,rfl,D3,by lia,λk H4 D4 k4 hk=>⟨by decide,λt ht=>?_⟩⟩
  exact tell (.put bn k) H4 _ ⟨hb8,hk⟩ D4 (by lia) (kk3.trans k4) t ht
 ·have n1:∀u,w2 u≠"put":=by decide +kernel
  have i1:∀u,jA (.str (w2 u)) [.str "add",.str "sub",.str "copy"]=true:=by decide +kernel
  exists M4 (n1 u);subst hN;symm;exists i1 u;refine⟨by decide,λt0 ht0=>⟨rfl,rfl,?_⟩⟩
  refine sg (D3.kb (KB.new ht0)) (by lia) λb2 H4 hb2 D4 k4=>⟨by decide,λt ht=>?_⟩
  exact tell (.two u bn b2) H4 _ ⟨hb8,hb2⟩ D4 (by lia) ((kk3.trans (KB.new ht0)).trans k4) t ht
 ·have n1:∀u,w1 u≠"put":=by decide +kernel
  have i1:∀u,jA (.str (w1 u)) [.str "add",.str "sub",.str "copy"]=false:=by decide +kernel
  have i2:∀u,jA (.str (w1 u)) [.str "tell",.str "hear"]=true:=by decide +kernel
  exists M4 (n1 u);subst hN;symm;exists i1 u;refine⟨by decide,λt0 ht0=>⟨rfl,rfl,?_⟩⟩
  subst hN;symm;exists i2 u;refine⟨by decide,λt1 ht1=>⟨rfl,rfl,by decide,λt ht=>?_⟩⟩
  exact tell (.one u bn) _ _ hb8 ((D3.kb (KB.new ht0)).kb (KB.new ht1)) (by lia) ((kk3.trans (KB.new ht0)).trans (KB.new ht1)) t ht
 ·have n1:∀z∈([("jump"),("zero"),("halt")]:List Str),z≠"put"/\jA (.str z) [.str "add",.str "sub",.str "copy"]=false/\jA (.str z) [.str "tell",.str "hear"]=false:=by decide +kernel
  obtain⟨z,hz,rfl⟩:∃z∈([("jump"),("zero"),("halt")]:List Str),v=.str z:=by rcases hv with rfl|rfl|rfl<;>exact⟨_,by simp,rfl⟩
  obtain⟨e1,e2,e3⟩:=n1 z hz;exists M4 e1;subst hN;symm;exists e2;refine⟨by decide,λt0 ht0=>⟨rfl,rfl,?_⟩⟩
  subst hN;symm;exists e3;refine⟨by decide,λt1 ht1=>⟨rfl,rfl,?_⟩⟩
  have D4:=(D3.kb (KB.new (o:=.tup [.str "add",.str "sub",.str "copy"]) ht0)).kb (KB.new (o:=.tup [.str "tell",.str "hear"]) ht1);have kk4:=(kk3.trans (KB.new (o:=.tup [.str "add",.str "sub",.str "copy"]) ht0)).trans (KB.new (o:=.tup [.str "tell",.str "hear"]) ht1);subst hN;generalize upd (upd H3 t0 _) t1 _=H4 at *;symm;rcases hv with hv|hv
  ·cases hv;exists MD (rfl:Str.ofString "jump"=Str.ofString "jump");refine⟨p,dq,(many:Int)+1,n+3,rfl,D4,by lia,by lia,by lia,λg H5 hg D5 k5=>⟨by decide,λt ht=>?_⟩⟩
   exact tell (.jump g) H5 _ (show g<=many by lia) D5 (by lia) (kk4.trans k5) t ht
  ·have nh:z≠"jump":=by rcases hv with hv|hv<;>cases hv<;>decide +kernel
   exists M4 nh;subst hN;symm;rcases hv with hv|hv
   ·cases hv;exists MD (rfl:Str.ofString "zero"=Str.ofString "zero");refine⟨p,dq,(many:Int)+1,n+3,rfl,D4,by lia,by lia,by lia,λg H5 hg D5 k5=>⟨by decide,λt ht=>?_⟩⟩
    exact tell (.zero bn g) H5 _ ⟨hb8,(show g<=many by lia)⟩ D5 (by lia) (kk4.trans k5) t ht
   ·cases hv;have nz:Str.ofString "halt"≠Str.ofString "zero":=by decide +kernel
    exists M4 nz;subst hN;nofun;exact⟨by decide,λt ht=>tell .halt H4 _ trivial D4 (by lia) kk4 t ht⟩
def PA(H:Hp)(as:List Addr)(rs:List Row):Prop:=as.length=rs.length/\∀(i:Nat) (q:Addr) (r:Row),as[i]?=some q->rs[i]?=some r->H q=some (.tup r.vs)
def PA.snoc{rs:List Row}{q:Addr}{r:Row}(h:PA H as rs)(e:H q=some (.tup r.vs)):PA H (as++[q]) (rs++[r]):=by
 refine⟨by rw[Mx,Mx,h.1];rfl,λi q' r' e1 e2=>?_⟩
 rcases Nt i as.length with hi|hi
 ·rw[MU hi] at e1;rw[MU (by rw[<- h.1];exact hi)] at e2
  exact h.2 i q' r' e1 e2
 ·have h1:=h.1;rw[MR hi] at e1;rw[MR (by lia),<- h1] at e2
  obtain⟨hj,rfl⟩:=Mw.mp e1;obtain⟨hj2,rfl⟩:=Mw.mp e2;have:i-as.length=0:=by simp at hj;lia
  simp only[this,P8];exact e
def PA.keep{rs:List Row}(h:PA H as rs)(k:KB ex H H')(hx:NT ex H):PA H' as rs:=⟨h.1,λi q r e1 e2=>k _ _ (h.2 i q r e1 e2) λz=>hx q z _ (h.2 i q r e1 e2)⟩
def Jb{D:Addr}(h:H D=some (.lst ys)):NT [D] H:=λb hb xs e=>by
 rw[MH.mp hb,h] at e;cases e
def kl(H:Hp)(a:Addr)(rs:List Row):Prop:=∃as:List Addr,H a=some (.tup (as.map V.ref))/\PA H as rs
def kl.keep{rs:List Row}(h:kl H a rs)(k:KB ex H H')(hx:NT ex H):kl H' a rs:=by
 obtain⟨as,h1,h2⟩:=h;exact⟨as,k _ _ h1 λz=>hx a z _ h1,h2.keep k hx⟩
def kl.kb{rs:List Row}(h:kl H a rs)(k:KB [] H H'):kl H' a rs:=h.keep k (NT.nil _)
def aJ:Option Nat->V
 |none=>.aN
 |some t=>.int (t:Nat)
def xh{tk:Nat}{tp:Pos}{e1 e2:Expr}{ta:TA}{p:Pos}(K:W.Frag)(hK:X.K=K)(hg:Gl X "zip")(hm:X.mg "zip"=none)(ha:QA X [e1,e2] ta)(h1:autoParam (fF e1=true) ℜ0)(h2:autoParam (fF e2=true) ℜ0):QI X (.Tuple es tk tp) (.Call (.Name "zip" p) [e1,e2] [] pos) (Ae K ta):=by
 subst hK;exact⟨Ej hg hm ha.h h1 h2⟩
def jr(K:W.Frag)(ta:TA)(σ:L2.St)(H:Hp)(R:It->Hp->Prop):L2.Ae K ta σ H R=ta σ H λvs H1=>∃p q:Bool×Addr,vs=[V.ref p.2,V.ref q.2]/\(∃xs,jw K p.1 H1 p.2 xs)/\(∃ys,jw K q.1 H1 q.2 ys)/\∀n,R (E3 K (fT n [p,q])) H1:=rfl
def oV{g:TG}{tb:TS}{D:Ends}{k1 k2:Bool}{n:Nat}(hxy:xs.length=ys.length)(Pv:Nat->L2.St->Hp->Prop)(h0:Pv 0 σ H)(hl:∀i σ H,Pv i σ H->jw K k1 H a xs/\jw K k2 H b ys)
  (hs:∀i x y σ H p,xs[i]?=some x->ys[i]?=some y->Pv i σ H->H p=none->g (.ref p) σ (upd H p (.tup [x,y])) λσ2 H2=>tb {D with nx:=Pv (i+1),ct:=Pv (i+1),bk:=D.nx} σ2 H2) (hd:∀σ H,Pv xs.length σ H->D.nx σ H):sX (E3 K (fT n [(k1,a),(k2,b)])) g tb D σ H:=by
 refine⟨λi m σ H=>m=xs.length-i/\i<=xs.length/\Pv i σ H,⟨xs.length,by simp,MG _,h0⟩,?_⟩
 rintro i m σ H ⟨rfl,hi,p⟩;obtain⟨q1,q2⟩:=hl i σ H p;by_cases hlt:i<xs.length
 ·have hl2:i<ys.length:=by lia
  refine .inr ⟨⟨[xs[i],ys[i]],.cons ⟨xs,q1,by simp[hlt]⟩ (.cons ⟨ys,q2,by simp[hl2]⟩ .nil)⟩,Pv (i+1),λσ' H' p'=>⟨xs.length-(i+1),by lia,rfl,hlt,p'⟩,λx H' z=>?_⟩
  obtain⟨c',vs,pr,fr,rfl,rfl⟩:=z;obtain⟨v1,vs,rfl,e1,pr⟩:=Paired.iI pr;obtain⟨v2,vs,rfl,e2,pr⟩:=Paired.iI pr;cases pr;exact hs i v1 v2 σ H c' (e1 xs q1) (e2 ys q2) p fr
 ·have e:i=xs.length:=by lia
  subst e;exact .inl ⟨⟨[],(k1,n,a),_,[],rfl,.nil,xs,q1,rfl⟩,hd σ H p⟩
def mx{ka kb:Bool}{n:Nat}(hn:xs.length<=sizeLine)(hyx:xs.length<=ys.length)(Pv:Addr->Nat->List V->Hp->Prop)(h0:∀D,H D=none->Pv D 0 [] (upd H D (.lst [])))(hD:∀D i ws H',Pv D i ws H'->H' D=some (.lst ws)/\ws.length=i)
  (hl:∀D i ws H',Pv D i ws H'->jw K ka H' a xs/\jw K kb H' b ys)
  (hs:∀D i ws H' x y p (R:VK),xs[i]?=some x->ys[i]?=some y->Pv D i ws H'->H' p=none->(∀v H5,H5 D=some (.lst ws)->Pv D (i+1) (ws++[v]) (upd H5 D (.lst (ws++[v])))->R v H5)->te (some x::some y::σ) (upd H' p (.tup [x,y])) R) (hd:∀D ws H',Pv D (xs.length) ws H'->Q (.ref D) H') :
  ib (E3 K (fT n [(ka,a),(kb,b)])) 2 (nW K 2 (e8 (aL 0) (e8 (aL 1) nY))) dP te Q σ H:=by
 intro D hD0;refine⟨λi m ws σ' H'=>m=xs.length-i/\i<=xs.length/\Pv D i ws H'/\∃o1 o2,σ'=o1::o2::σ,⟨xs.length,by simp,MG _,h0 D hD0,none,none,rfl⟩,?_⟩
 rintro i m ws σ' H' ⟨rfl,hi,p,o1,o2,rfl⟩;obtain⟨hDi,hly⟩:=hD _ _ _ _ p;obtain⟨q1,q2⟩:=hl _ _ _ _ p;refine⟨hDi,?_⟩;by_cases hlt:i<xs.length
 ·have hl1:i<ys.length:=by lia
  refine .inr ⟨⟨[xs[i],ys[i]],.cons ⟨xs,q1,by simp[hlt]⟩ (.cons ⟨ys,q2,by simp[hl1]⟩ .nil)⟩,by lia,λx H2 z=>?_⟩
  obtain⟨c,vs,pr,fr,rfl,rfl⟩:=z;obtain⟨y1,vs,rfl,e1,pr⟩:=Paired.iI pr;obtain⟨y2,vs,rfl,e2,pr⟩:=Paired.iI pr;cases pr;refine KN ?_;unfold dP;dsimp only;rw[if_pos rfl];exact hs D i ws H' y1 y2 c _ (e1 xs q1) (e2 ys q2) p fr λv H5 g1 g2=>⟨g1,xs.length-(i+1),by lia,rfl,hlt,g2,_,_,rfl⟩
 ·have e:i=xs.length:=by lia
  subst e;exact .inl ⟨⟨[],(ka,n,a),_,[],rfl,.nil,xs,q1,rfl⟩,hd D ws H' p⟩
def Gg:mK->Option Int
 |.jump g=>some g
 |.zero _ g=>some g
 |_=>none
def qF(r:mK):V:=match Gg r with
 |some g=>.int g
 |none=>.aN
def lB:Sp:=λvs H Q _=>∃(p:Addr) (r:mK),vs=[.ref p]/\H p=some (.tup r.vs)/\Q (qF r) H
def Ak(T:Txt K mg)(F:HasFn K mg "goal_of" jP ["row"]):ao P w K mg base aF 1 "goal_of" ["row"] lB:=by
 obtain⟨dS,wT,hd0⟩:=T.m9;have P3:jv K dS aQ:=hd0;refine F.dH uq (by ac_rfl) ?_
 left
 obtain⟨p,r,rfl,hp,q⟩:=h;refine⟨_,(Z.ay (Z.ret (Z.Ag (Z.aK (Z.Ft K rfl) Z.str (Z.LQ K rfl rfl wT P3 (Z.ix (Z.aD K rfl hu) (Z.v 0) Z.int))) (Z.ix (Z.aD K rfl hu) (Z.v 0) (Z.un cB Z.int)) Z.aN))),?_⟩;have sp:=a8 hp;have kt1:∀{pk:Addr} {xs:List V},JM K pk xs->aT K H pk xs\/aW K H pk xs:=λh=>.inr (.inr h);obtain⟨w,ws,e0,ed,ef,h⟩:∃(w:Str) (ws:List Str),bQ r.vs 0=some (.str w)/\KTD.datumAt w aQ=some ws/\(ws.map V.str).all cw=true/\(jA (.str "goal") (ws.map V.str)=true/\bQ r.vs (-1)=some (qF r)\/jA (.str "goal") (ws.map V.str)=false/\qF r=.aN):=by
  cases r with
  |jump g=>exact⟨_,_,rfl,(by decide +kernel:KTD.datumAt ("jump":Str) aQ=some [("goal":Str)]),rfl,.inl ⟨by decide +kernel,rfl⟩⟩
  |zero b g=>exact⟨_,_,rfl,(by decide +kernel:KTD.datumAt ("zero":Str) aQ=some [("box":Str),"goal"]),rfl,.inl ⟨by decide +kernel,rfl⟩⟩
  |put b n=>exact⟨_,_,rfl,(by decide +kernel:KTD.datumAt ("put":Str) aQ=some [("box":Str),"number"]),rfl,.inr ⟨by decide +kernel,rfl⟩⟩
  |two u b c=>exact⟨_,_,rfl,(by decide +kernel:∀u:_root_.Fin 3,KTD.datumAt (w2 u) aQ=some [("box":Str),"box"]) u,rfl,.inr ⟨by decide +kernel,rfl⟩⟩
  |one u b=>exact⟨_,_,rfl,(by decide +kernel:∀u:_root_.Fin 2,KTD.datumAt (w1 u) aQ=some [("box":Str)]) u,rfl,.inr ⟨by decide +kernel,rfl⟩⟩
  |halt=>exact⟨_,_,rfl,(by decide +kernel:KTD.datumAt ("halt":Str) aQ=some ([]:List Str)),rfl,.inr ⟨by decide +kernel,rfl⟩⟩
 exists sp,e0;refine⟨_,_,rfl,ed,λpk kt=>⟨pk,_,rfl,kt1 kt,rfl,ef,?_⟩⟩;refine⟨_,rfl,?_⟩;rcases h with ⟨h1,h2⟩|⟨h1,h2⟩
 ·rw[M4 ML,h1,MD rfl];simp only[sp,h2];exact q
 ·rw[M4 ML,h1,M4 ML];rw[h2] at q;exact q
def KL{e:Expr}{x:Str}{apos p:Pos}{d:Addr}{D:List (Str×List Str)}(K:W.Frag)(hK:X.K=K)(hg:Gl X x)(hm:X.mg x=some (.ref d))(hd:jv K d D)(he:QE X e te)
  (hbase:autoParam (attributeBase (.Name x p) "get" X.env (eval (.Name x p) X.env)=eval (.Name x p) X.env) ℜ0) (hline:autoParam ((apos.endLine == pos.line)=true) ℜ0) (hs:autoParam (starEach [e] X.env=(false,eval e X.env)::starEach [] X.env) ℜ0) (hdb:autoParam ((x ==("__debug__":Str))=false) ℜ1):QE X (.Call (.Attribute (.Name x p) "get" apos) [e] [] pos) (BU K D te):=by
 subst hK;exact⟨De (pK hg hm rfl hdb) hd he.h ⟨hbase,by rw[hs];rfl,hline,by rw[hs];rfl⟩⟩
def II(z:Str):Bool:=jA (.str z) [.str "a",.str "b",.str "c",.str "d",.str "e",.str "f",.str "g",.str "h"]
def tL(k z:Str)(g:Nat):V:=if k="box" then (if II z=true then .str z else .aN) else LP (gY z (if k="number" then 65535 else g))
def sN:Sp:=λvs H Q _=>∃(k z:Str) (g:Nat),vs=[.str k,.str z,.int (g:Nat)]/\z.length<=100000/\g<=100000/\∀H',KB [] H H'->Q (tL k z g) H'
def xN(T:Txt K mg)(F:HasFn K mg "read_part" ie ["kind","part","greatest_goal"])(T1:ao P w K mg base aF 2 "read_number" ["text","greatest"] qM):ao P w K mg base aF 3 "read_part" ["kind","part","greatest_goal"] sN:=by
 obtain⟨aB,wP,ah8⟩:=T.l9;have R0:RelV (.ref aB) (.ref aB):=rfl;obtain⟨uW,ai0,ah9⟩:=T.DS;refine F.dH qa (by ac_rfl) ?_
 left
 obtain⟨k,z,g,rfl,hz,hg,q⟩:=h;refine⟨_,(Z.aq (Z.dz (Z.aK aY (Z.v 0) Z.str) (Z.ay (Z.ret (Z.Ag (Z.aK (Z.Ft K rfl) (Z.v 1) (Z.glob rfl wP R0)) (Z.v 1) Z.aN))) Z.bp)
   (Z.ay (Z.ret (Z.fc T1 (Z.cons (Z.v 1) (Z.cons (Z.Ag (Z.aK aY (Z.v 0) Z.str) (Z.op d7 (Z.glob rfl ai0 ah9) Z.int) (Z.v 2)) Z.nil)))))),?_⟩
 symm;unfold tL at q;by_cases h0:k=Str.ofString "box"
 ·rw[MD (show k="box" from h0)] at q;exists MD h0;refine⟨aB,_,rfl,.inr (ah8 H),rfl,rfl,_,rfl,?_⟩;rw[M4 ML];show if II z=true then _ else _
  have:=q H (KB.refl _ _)
  split at this
  ·rename_i hb;rw[MD hb];exact this
  ·rename_i hb;rw[M4 hb];exact this
 ·rw[M4 (show ¬ k="box" from h0)] at q;exists M4 h0;rw[hN];by_cases h1:k=Str.ofString "number"
  ·rw[MD (show k="number" from h1)] at q;exists MD h1;exact⟨z,65535,rfl,hz,by decide,q⟩
  ·rw[M4 (show ¬ k="number" from h1)] at q;exists M4 h1;exact⟨z,g,rfl,hz,hg,q⟩
def nH(g:Nat):List Str->List Str->List V:=List.zipWith λk z=>tL k z g
def AM:V->Bool
 |.aN=>true
 |_=>false
def xw(g:Nat)(ws:List Str):Option (List V):=match ws with
 |[]=>none
 |w::ps=>(match KTD.datumAt w aQ with
  |none=>none
  |some ks=>if ps.length=ks.length then (if (nH g ks ps).any AM=true then none else some (.str w::nH g ks ps)) else none)
def AU(k z:Str)(g:Nat):cw (tL k z g)=true:=by
 unfold tL;split
 ·split<;>rfl
 ·cases gY z (if k="number" then 65535 else g)<;>rfl
theorem sM(g:Nat):∀(ks ps:List Str),(nH g ks ps).all cw=true
 |[],_=>rfl
 |_::_,[]=>rfl
 |k::ks,p::ps=>by
  show (tL k p g::nH g ks ps).all cw=true;rw[NY,AU,sM g ks ps];rfl
theorem xo:∀{xs:List V},jA .aN xs=xs.any AM
 |[]=>rfl
 |x::xs=>by
  have ih:=xo (xs:=xs);unfold jA at ih ⊢;rw[OM,OM,ih]
  cases x<;>rfl
def EK{w:Str}{ks:List Str}(h:KTD.datumAt w aQ=some ks):ks.length<=2:=by
 unfold aQ at h;simp only[KTD.datumAt] at h
 repeat' split at h
 all_goals first | (cases h;decide)|cases h
def mP(x:V)(xs:List V):cC (x::xs) (some 1) none=xs:=by
 unfold cC;rw[HT.bW,show (some (1:Int))=some ((1:Nat):Int) from rfl,HT.dn];simp
def JQ(x:V)(xs:List V):cC (x::xs) none (some 1)=[x]:=by
 unfold cC;rw[HT.bW,show (some (1:Int))=some ((1:Nat):Int) from rfl,HT.dn];simp
def BR(h:H a=some (.lst xs))(q:∀p,H p=none->Q (.ref p) (upd H p (.lst (cC xs lo hi)))):Y.xZ K (.ref a) lo hi H Q:=.inl ⟨a,xs,rfl,aT.of h,q⟩
def w6:Sp:=λvs H Q _=>∃(z:Str) (g:Nat),vs=[.str z,.int (g:Nat)]/\z.length<=90000/\g<=100000/\(xw g (Txt.split z " ")=none->∀H',KB [] H H'->Q .aN H')/\∀xs,xw g (Txt.split z " ")=some xs->∀a H',KB [] H H'->H' a=some (.tup xs)->Q (.ref a) H'
def zc(T:Txt K mg)(F:HasFn K mg "read_row" gr ["line","greatest_goal"])(af0:ao P w K mg base aF 3 "read_part" ["kind","part","greatest_goal"] sN):ao P w K mg base aF 4 "read_row" ["line","greatest_goal"] w6:=by
 obtain⟨dS,wT,hd0⟩:=T.m9;have P3:jv K dS aQ:=hd0;refine F.dH eU (by ac_rfl) ?_
 left
 obtain⟨z,g,rfl,hz,hg,q1,q2⟩:=h;refine⟨_,(Z.aq (Z.se (i:=2) eU.nd (Z.bm K rfl PySem.F.plainAttrs_str PySem.F.slot_str_split PySem.F.type_str_split so (Z.v 0) (Z.cons Z.str Z.nil)))
   (Z.aq (Z.se (i:=3) eU.nd (KL K rfl rfl wT P3 (Z.ix (Z.aD K rfl hu) (Z.v 2) Z.int)))
   (Z.aq (Z.dz (Z.tw (Z.Gd (Z.aK g_ (Z.v 3) Z.aN) (Z.sj (Z.aK AL (Z.cb (Z.bL K rfl) rfl T.bA ∅ (Z.cons (Z.v 2) Z.nil)) (Z.op (Z.aI K rfl) Z.int (Z.cb (Z.v9 K rfl) rfl T.bA ∅ (Z.cons (Z.v 3) Z.nil))))))) (Z.ay (Z.ret Z.aN)) Z.bp)
   (Z.aq (Z.sec (j:=4) eU.nd (osc:=ab gr) (ON:=["line","greatest_goal","parts","shape","values"]) (own:=["kind","part"]) (N:=["kind","part","line","greatest_goal","parts","shape","values"]) (az.of rfl ∅) (xh K rfl rfl T.rP (Z.cons (Z.v 3) (Z.cons (Z.slice (Y.vm K rfl) (Z.v 2) (Z.nG Z.int) Z.nI) Z.nil))) (λnd _ _ _ _=>(Z.kP (n:=2) K rfl rfl (Z.bq (Z.aA (i:=0) nd rfl (by right)) (Z.bq (Z.aA (i:=1) nd rfl (by right)) Z.gR)))) (λ_ _ _ _=>Z.je) (λ_ _ _ _=>(Z.fc af0 (Z.cons (Z.v 0) (Z.cons (Z.v 1) (Z.cons (Z.v 3) Z.nil))))))
   (Z.aq (Z.dz (Z.aK (Z.yB K rfl hu) Z.aN (Z.v 4)) (Z.ay (Z.ret Z.aN)) Z.bp)
   (Z.ay (Z.ret (Z.ct (Z.c7 K rfl) rfl T.cy ∅ (Z.cons (Z.op (Z.aI K rfl) (Z.slice (Y.vm K rfl) (Z.v 2) Z.nI (Z.nG Z.int)) (Z.v 4)) Z.nil))))))))),?_⟩
 symm;nofun;have hsl:=PyProof.Rows.split_le z " ";have hpl:∀p∈Txt.split z " ",p.length<=90000:=λp hp=>Mz (PyProof.Rows.part_short hp) hz;have hne:=Ru z " ";refine⟨rfl,z," ",rfl,rfl,by decide,Mz hz ⋯,Mz hsl (Mz (show _<=100000 by lia) ⋯),λl hl=>?_⟩
 change N [_,_,some (V.ref l),_,_] (upd H l (.lst ((Txt.split z " ").map V.str)))
 generalize Txt.split z " "=ws at *;obtain⟨k1,s1⟩:=bS hl (.lst (ws.map V.str));generalize upd H l _=H1 at *
 cases ws with
 |nil=>exact absurd hne ⋯
 |cons w ps =>
  rw[hN];symm;rw[Nb] at s1;exists au s1,uK;unfold BU;exists au s1,uK;refine⟨λks p hd kt=>?_,λhd=>?_⟩
  ·have hk2:=EK hd;have kt':∀G,aW K G p (ks.map V.str):=λG=>.inr kt;have er:xw g (w::ps)=if ps.length=ks.length then (if (nH g ks ps).any AM=true then none else some (.str w::nH g ks ps)) else none:=by unfold xw;simp only[hd]
   rw[er] at q1 q2;rw[hN];symm;exists au s1;rw[M4 (show ¬ V.ref p=V.aN from λz=>nomatch z)];refine⟨_,ks.length,rfl,.inr ⟨_,kt' H1,by rw[Ms]⟩,?_⟩
   by_cases hl:ps.length=ks.length
   ·rw[MD hl] at q1 q2;rw[M4 (by rw[Ms];lia),hN]
    symm;exists jr;refine BR s1 λp1 hp1=>?_;rw[mP];obtain⟨k2,s2⟩:=bS hp1 (.lst (ps.map V.str));generalize upd H1 p1 _=H2 at *;refine⟨(false,p),(true,p1),⟨rfl,rfl⟩,⟨_,kt' H2⟩,⟨_,aT.of s2⟩,λn'=>?_⟩;refine mx (xs:=ks.map V.str) (ys:=ps.map V.str) (Mz (show _<=2 by rw[Ms];exact hk2) ⋯) (by rw[Ms,Ms,hl];exact M8 _) (λD i ws G=>H2 D=none/\G D=some (.lst ws)/\KB [] H2 G/\i<=ks.length/\ws=(nH g ks ps).take i) (λD hD=>⟨hD,aa,KB.new hD,MG _,rfl⟩) (λD i ws G h=>⟨h.2.1,by rw[h.2.2.2.2,MB,nH,Qk];have:=h.2.2.2.1;lia⟩) (λD i ws G h=>⟨kt' G,aT.of (h.2.2.1.n s2)⟩) ?_ ?_
    ·rintro D i ws G x y p' R hx hy ⟨g0,g1,gk,hi,rfl⟩ hp' kk;rw[M7] at hx hy;obtain⟨k',ek,rfl⟩:=MT.mp hx;obtain⟨z',ez,rfl⟩:=MT.mp hy;obtain⟨kz,_⟩:=bS hp' (.tup [V.str k',V.str z']);nofun;refine⟨k',z',g,rfl,Mz (hpl z' (MF _ (N1 ez))) ⋯,hg,λG2 k2'=>?_⟩
     have kz2:=kz.trans k2';refine kk _ _ (kz2.n g1) ⟨g0,aa,λu o e _=>by rw[af (ae e g0)];exact kz2.n (gk.n e),(Mw.mp ek).1,?_⟩
     rw[Ni];unfold nH;rw[RA,ek,ez];rfl
    rintro D ws G ⟨_,g1,gk,_,rfl⟩;have hvl:(nH g ks ps).length=ks.length:=by unfold nH;rw[Qk,hl,Pa]
    rw[Ms,Ng (by rw[hvl];exact M8 _)] at g1
    rw[hN];symm;exists au g1,xo;refine⟨rfl,sM g ks ps,?_⟩;have k1g:=k1.trans (k2.trans gk);by_cases hn:(nH g ks ps).any AM=true
    ·rw[MD hn] at q1;rw[MD hn];exact q1 rfl _ k1g
    ·rw[M4 hn] at q2;rw[M4 hn,hN];nofun;refine BR ((k2.trans gk).n s1) λp2 hp2=>?_;rw[JQ];obtain⟨k3,s3⟩:=bS hp2 (.lst [V.str w]);generalize upd G p2 _=G3 at *;have g3:=k3.n g1;exists s3,g3;refine⟨Mz (show _<=10 by lia) ⋯,λd hd=>?_⟩
     obtain⟨k4,s4⟩:=bS hd (.lst (V.str w::nH g ks ps));generalize upd G3 d _=G4 at *;exists au s4;intro t ht;exact q2 _ rfl t _ (k1g.trans (k3.trans (k4.trans (KB.new ht)))) aa
   ·rw[M4 hl] at q1;rw[MD (by rw[Ms];lia)]
    exact q1 rfl _ k1
  ·rw[hN];symm;nofun;exact q1 (by unfold xw;simp only[hd]) _ k1
def fJ{g:Nat}{w:Str}{ps ks:List Str}(h:KTD.datumAt w aQ=some ks):xw g (w::ps)=if ps.length=ks.length then (if (nH g ks ps).any AM=true then none else some (.str w::nH g ks ps)) else none:=by unfold xw;simp only[h]
def bc(n:Nat):Str:=Str.ofString (toString ((n:Nat):Int))
def iG.x:iG->Str
 |.s z=>z
 |.n k=>bc k
def Row.line(r:Row):Str:=Str.join " " (r.ps.map iG.x)
def iW(n:Nat):cp (bc n)=(Nat.toDigits 10 n).map Char.toNat:=W.KIN.signs_num n
def kC:∀(g n:Nat),n<=g->(Nat.toDigits 10 n).length<=(Nat.toDigits 10 g).length:=by
 intro g
 induction g using Nat.strongRecOn with
 |_ g ih =>
  intro n hn;by_cases h:g<10
  ·rw[OL h,OL (show n<10 by omega)];exact M8 _
  ·rw[P0 (b:=10) ⋯ (by omega:10<=g),Mx]
   by_cases h2:n<10
   ·rw[OL h2];simp
   ·rw[P0 (b:=10) ⋯ (by omega:10<=n),Mx]
    have:=ih (g / 10) (by omega) (n / 10) (by omega)
    simp only[MJ,N0]
    omega
def Fs:∀n:Nat,0<n->∃c r,Nat.toDigits 10 n=c::r/\c.toNat≠48:=by
 intro n
 induction n using Nat.strongRecOn with
 |_ n ih =>
  intro h0;by_cases h:n<10
  ·rw[OL h];have e:=W.KIN.digit_back n h;exact⟨_,[],rfl,by omega⟩
  ·obtain⟨c,r,e,hc⟩:=ih (n / 10) (by omega) (by omega)
   rw[P0 (b:=10) ⋯ (by omega),e]
   exact⟨c,r++_,rfl,hc⟩
def AW{n:Nat}(h:c∈cp (bc n)):48<=c/\c<=57:=by
 rw[iW] at h;obtain⟨ch,hch,rfl⟩:=Nc.mp h;exact digit_range (Nat.isDigit_of_mem_toDigits ⋯ ⋯ hch)
def Co:bc 0="0":=by decide +kernel
def Fp(z:Str):Txt.startswith z "0"=true ↔ ∃r,cp z=48::r:=by
 have e:Txt.startswith z "0"=decide ([48] <+: cp z):=by
  unfold Txt.startswith;have e0:cp ("0":Str)=[48]:=by decide +kernel
  have e:Builtin.Str.subAt z "0" 0=decide ((cp z).take 1=[48]):=by
   unfold Builtin.Str.subAt;rw[OO,Py,O7,<- PF,Array.toList_extract,QC,NH,<- e0];rfl
  rw[e,OO,NB,O7,O7,O7,List.prefix_iff_eq_take];refine⟨λh=>h.2.symm,λh=>⟨?_,h.symm⟩⟩;have:=Nw List.length h;rw[MB,gu] at this;have:("0":Str).length=1:=by decide +kernel
  simp at *
  omega
 rw[e,O7];exact⟨λ⟨r,h⟩=>⟨r,h.symm⟩,λ⟨r,h⟩=>⟨r,h.symm⟩⟩
def mq(n:Nat):jN (bc n)=true:=by
 have hne:bc n≠"":=λe=>by
  have:=Nw cp e;rw[iW] at this;exact absurd (List.map_eq_nil_iff.mp this) (λz=>by
   have h:=Nat.length_toDigits_pos (b:=10) (n:=n);rw[z] at h;exact absurd h ⋯)
 have hd:u_ (bc n)=true:=rD.mpr λc hc=>AW hc;unfold jN;rw[MW hne,hd];rcases Nat.eq_zero_or_pos n with rfl|h0
 ·rw[Co];decide +kernel
 ·have:Txt.startswith (bc n) "0"=false:=by
   refine Bool.eq_false_iff.mpr λhs=>?_;obtain⟨r,e⟩:=(Fp _).mp hs;obtain⟨c,t,e2,hc⟩:=Fs n h0;rw[iW,e2] at e;exact hc (List.cons.inj e).1
  rw[this];simp
def tE(n:Nat):valN (bc n)=n:=by unfold valN;rw[iW];exact W.KIN.val_back n
def jX{n g:Nat}(h:n<=g):gY (bc n) g=some n:=by
 have hl:(bc n).length<=(bc g).length:=by
  rw[<- gu,<- gu,iW,iW,Ms,Ms];exact kC g n h
 unfold gY;rw[MD ⟨mq n,hl⟩,tE,MD h]
def GY:∀b,b<8->II (bD b)=true:=by decide +kernel
def ni(n:Nat)(h:c<48):c∉cp (bc n):=λm=>by have:=AW m;omega
def AE(b:Nat)(h:c<97):c∉cp (bD b):=by
 intro m;have m':c∈[97+b]:=m;have:=MH.mp m'
 omega
def zY:∀z∈(["put","add","sub","copy","tell","hear","jump","zero","halt"]:List Str),∀c∈cp z,97<=c:=by decide +kernel
def IV:∀u,w2 u∈(["put","add","sub","copy","tell","hear","jump","zero","halt"]:List Str):=by decide +kernel
def GZ:∀u,w1 u∈(["put","add","sub","copy","tell","hear","jump","zero","halt"]:List Str):=by decide +kernel
def parts_free(r:Row)(h:c<48):∀z∈r.ps.map iG.x,c∉cp z:=by
 have lf:∀z∈(["put","add","sub","copy","tell","hear","jump","zero","halt"]:List Str),c∉cp z:=λz hz m=>by have:=zY z hz c m;omega
 have bf:∀b,c∉cp (bD b):=λb=>AE b (by omega)
 have nf:∀n,c∉cp (bc n):=λn=>ni n h;intro z hz
 cases r<;>simp only[Row.ps,Nb,Oz,iG.x,M0,MP,Nl] at hz
 case put b n=>rcases hz with rfl|rfl|rfl;(exact lf _ (by simp));(exact bf _);exact nf _
 case two u a b=>rcases hz with rfl|rfl|rfl;(exact lf _ (IV u));(exact bf _);exact bf _
 case one u b=>rcases hz with rfl|rfl;(exact lf _ (GZ u));exact bf _
 case jump g=>rcases hz with rfl|rfl;(exact lf _ (by simp));exact nf _
 case zero b g=>rcases hz with rfl|rfl|rfl;(exact lf _ (by simp));(exact bf _);exact nf _
 case halt=>rcases hz with rfl;exact lf _ (by simp)
def blank:(" ":Str)=⟨#[32]⟩:=by decide +kernel
def mO(r:Row):Txt.split r.line " "=r.ps.map iG.x:=by
 unfold Row.line;rw[blank];exact iQ (by cases r<;>simp[Row.ps]) λz hz=>parts_free r ⋯ z hz
def Kj:∀u,KTD.datumAt (w2 u) aQ=some ([("box":Str),("box":Str)]):=by decide +kernel
def JK:∀u,KTD.datumAt (w1 u) aQ=some ([("box":Str)]):=by decide +kernel
def me{b g:Nat}(h:b<8):tL "box" (bD b) g=.str (bD b):=by unfold tL;rw[MD rfl,MD (GY b h)]
def Hu{n g:Nat}(h:n<65536):tL "number" (bc n) g=.int (n:Nat):=by
 unfold tL;rw[M4 ∅,MD rfl,jX (show n<=65535 by omega)];rfl
def xy{n g:Nat}(h:n<=g):tL "goal" (bc n) g=.int (n:Nat):=by
 unfold tL;rw[M4 ∅,M4 ∅,jX h];rfl
def vZ(g:Nat)(k p:Str):nH g [k] [p]=[tL k p g]:=rfl
def pY(g:Nat)(k p l q:Str):nH g [k,l] [p,q]=[tL k p g,tL l q g]:=rfl
def xa{r:Row}{g:Nat}(h:r.Ok g):xw g (r.ps.map iG.x)=some r.vs:=by
 cases r with
 |put b n =>
  show xw g ["put",bD b,bc n]=_;rw[fJ (show KTD.datumAt ("put":Str) aQ=some (["box","number"]:List Str) by decide +kernel)]
  have e:nH g ["box","number"] [bD b,bc n]=[.str (bD b),.int (n:Nat)]:=by rw[pY,me h.1,Hu h.2]
  rw[e];rfl
 |two u a b =>
  show xw g [w2 u,bD a,bD b]=_;rw[fJ (Kj u)];have e:nH g ["box","box"] [bD a,bD b]=[.str (bD a),.str (bD b)]:=by rw[pY,me h.1,me h.2]
  rw[e];rfl
 |one u b =>
  show xw g [w1 u,bD b]=_;rw[fJ (JK u)];have e:nH g ["box"] [bD b]=[.str (bD b)]:=by rw[vZ,me h]
  rw[e];rfl
 |jump n =>
  show xw g ["jump",bc n]=_;rw[fJ (show KTD.datumAt ("jump":Str) aQ=some (["goal"]:List Str) by decide +kernel)]
  have e:nH g ["goal"] [bc n]=[.int (n:Nat)]:=by rw[vZ,xy h]
  rw[e];rfl
 |zero b n =>
  show xw g ["zero",bD b,bc n]=_;rw[fJ (show KTD.datumAt ("zero":Str) aQ=some (["box","goal"]:List Str) by decide +kernel)]
  have e:nH g ["box","goal"] [bD b,bc n]=[.str (bD b),.int (n:Nat)]:=by rw[pY,me h.1,xy h.2]
  rw[e];rfl
 |halt =>
  show xw g ["halt"]=_;rw[fJ (show KTD.datumAt ("halt":Str) aQ=some ([]:List Str) by decide +kernel)]
  rfl
theorem Bs(c:Nat):∀ls:List (List Nat),(jn c ls).length<=(ls.map List.length).sum+ls.length
 |[]=>M8 _
 |[a]=>by simp[jn]
 |a::b::r=>by
  have ih:=Bs c (b::r);show (a++c::jn c (b::r)).length<=_;rw[Mx,MJ,Nb,NF,MJ]
  omega
def lN(c:Nat)(xs:List Str):(Str.join ⟨#[c]⟩ xs).length<=(xs.map (·.length)).sum+xs.length:=by
 rw[<- gu,lj];have:=Bs c (xs.map cp);have e:(xs.map cp).map List.length=xs.map (·.length):=by rw[NI];exact List.map_congr_left λz _=>gu z
 rw[e,Ms] at this;exact this
def Hh:∀u,(w2 u).length<=4:=by decide +kernel
def GF:∀u,(w1 u).length<=4:=by decide +kernel
def dQ{n:Nat}(h:n<=100000):(bc n).length<=10:=oz h
def fI{r:Row}(h:r.Ok 100000):((r.ps.map iG.x).map (·.length)).sum<=20/\r.ps.length<=3:=by
 have b1:∀b,(bD b).length=1:=λb=>rfl;have l1:(Str.ofString "put").length=3/\(Str.ofString "jump").length=4/\(Str.ofString "zero").length=4/\(Str.ofString "halt").length=4:=by decide +kernel
 cases r<;>simp only[Row.ps,Nb,Oz,iG.x,NF,List.sum_nil,b1,MJ,N0,Row.Ok] at h ⊢
 case put b n=>have:=dQ (show n<=100000 by omega);omega
 case two u a b=>have:=Hh u;omega
 case one u b=>have:=GF u;omega
 case jump g=>have:=dQ h;omega
 case zero b g=>have:=dQ h.2;omega
 case halt=>omega
def sZ{r:Row}(h:r.Ok 100000):r.line.length<=40:=by
 unfold Row.line;rw[blank];have:=lN 32 (r.ps.map iG.x);obtain⟨h1,h2⟩:=fI h;rw[Ms] at this
 omega
def sV(xs:List Str):List V:=xs.map V.str
def m8:Sp:=λvs H Q _=>∃(a:Addr) (r:Row),vs=[.ref a]/\H a=some (.tup r.vs)/\r.Ok 100000/\∀H',KB [] H H'->Q (.str r.line) H'
def IC{r:Row}(aH:r.Ok 100000):∀k,iG.n k∈r.ps->k<=100000:=λk hk=>by
 cases r<;>simp only[Row.ps,Row.Ok,M0,MP,Nl,iG.n.injEq,reduceCtorEq,false_or] at hk aH<;>omega
def pw{r:Row}(ha:H a=some (.tup (r.ps.map iG.v)))(aH:r.Ok 100000)(q:∀H',KB [] H H'->Q (.str r.line) H'):ib (uQ K a) 1 (aL 0) dP (yT xC (iK (t9 0) iA)) (λx H1=>rJoin K (.str (Str.ofString " ")) [x] H1 Q) σ H:=by
 obtain⟨p1,p2⟩:=fI aH;refine aU (xs:=r.ps.map iG.v) (Mz (show _<=3 by rw[Ms];exact p2) ⋯) (λD i ys G=>H D=none/\G D=some (.lst ys)/\KB [] H G/\i<=r.ps.length/\ys=sV ((r.ps.take i).map iG.x)) (λD hD=>⟨hD,aa,KB.new hD,MG _,rfl⟩) (λD i ys G h=>⟨h.2.1,by rw[h.2.2.2.2,sV,Ms,Ms,MB];have:=h.2.2.2.1;lia⟩) (λD i ys G h=>aW.of (h.2.2.1.n ha)) ?_ ?_
 ·rintro D i ys G x R hx ⟨g0,g1,gk,hi,rfl⟩ kk;rw[M7] at hx;obtain⟨t,et,rfl⟩:=MT.mp hx;have fin:R (.str t.x) G:=kk _ _ g1 ⟨g0,aa,λu o e _=>by rw[af (ae e g0)];exact gk.n e,(Mw.mp et).1,by rw[Ni,et];unfold sV;rw[MI,MI];rfl⟩
  cases t with
  |s z =>
   unfold iG.v;nofun;exact fin
  |n m =>
   unfold iG.v;nofun;exact⟨fM (IC aH m (N1 et)),fin⟩
 rintro D ys G ⟨_,g1,gk,_,rfl⟩;rw[Ms,Na] at g1;refine⟨" ",D,r.ps.map iG.x,rfl,rfl,aT.of g1,?_,q _ gk⟩;have:(Str.ofString " ").length=1:=by decide +kernel
 show _+_*(Str.ofString " ").length<=_;rw[this,Ms];lia
def Dk(T:Txt K mg)(F:HasFn K mg "_law_line" fu ["row"]):ao P w K mg base aF 1 "_law_line" ["row"] m8:=by
 refine F.dH qd (by ac_rfl) ?_
 left
 obtain⟨a,r,rfl,ha,aH,q⟩:=h;refine⟨_,(Z.ay (Z.ret (Z.bm K rfl PySem.F.plainAttrs_str PySem.F.slot_str_join PySem.F.type_str_join (Z.iO K rfl) Z.str (Z.cons (Z.mT (osc:=ab fu) (ON:=["row"]) (own:=["part"]) (N:=["part","row"]) (az.of rfl ∅) (Z.any K rfl (Z.v 0)) (λnd _ _ _ _=>(Z.aA (i:=0) nd rfl (by right))) (λ_ _ _ _=>Z.je) (λ_ _ _ _=>(Z.ct cz rfl T.iq ∅ (Z.cons (Z.v 0) Z.nil)))) Z.nil)))),?_⟩
 unfold Row.vs at ha;exists a8 ha;exact⟨rfl,pw ha aH q⟩
def CC(T:Txt K mg)(F:HasFn K mg "row_shown" fk ["row"]):ao P w K mg base aF 1 "row_shown" ["row"] m8:=by
 refine F.dH qK (by ac_rfl) ?_
 left
 obtain⟨a,r,rfl,ha,aH,q⟩:=h;refine⟨_,(Z.ay (Z.ret (Z.bm K rfl PySem.F.plainAttrs_str PySem.F.slot_str_join PySem.F.type_str_join (Z.iO K rfl) Z.str (Z.cons (Z.mT (osc:=ab fk) (ON:=["row"]) (own:=["part"]) (N:=["part","row"]) (az.of rfl ∅) (Z.any K rfl (Z.v 0)) (λnd _ _ _ _=>(Z.aA (i:=0) nd rfl (by right))) (λ_ _ _ _=>Z.je) (λ_ _ _ _=>(Z.ct cz rfl T.iq ∅ (Z.cons (Z.v 0) Z.nil)))) Z.nil)))),?_⟩
 unfold Row.vs at ha;exists a8 ha;exact⟨rfl,pw ha aH q⟩
def EU(n:Int):Str:=Str.ofString (toString n)
def spS(l:List Int):Str:=Str.join " " (l.map EU)
def Jj(n:Int):Prop:=n.natAbs.log2<1920/\(EU n).length<=30
def wQ{n:Nat}(h:n<=100000):Jj (n:Nat):=⟨fM h,Mz (dQ h) ⋯⟩
def j1:Sp:=λvs H Q _=>∃(kb:Bool) (a:Addr) (l:List Int),vs=[.ref a]/\H a=some (if kb then .lst (iV l) else .tup (iV l))/\l.length<=1000/\(∀n∈l,Jj n)/\∀H',KB [] H H'->Q (.str (spS l)) H'
def HG{l:List Int}(h:∀n∈l,Jj n):((l.map EU).map (·.length)).sum<=30*l.length:=by
 induction l with
 |nil=>exact M8 _
 |cons x l ih =>
  have:=ih λn hn=>h n (MF _ hn);have h1:=(h x MK).2;rw[Nb,Nb,NF,MJ];lia
def tB{l:List Int}{kb:Bool}(ha:H a=some (if kb then .lst (iV l) else .tup (iV l)))(hl:l.length<=1000)(hs:∀n∈l,Jj n)(q:∀H',KB [] H H'->Q (.str (spS l)) H'):ib (if kb then tQ K a else uQ K a) 1 (aL 0) dP (yT xC (iK (t9 0) iA)) (λx H1=>rJoin K (.str (Str.ofString " ")) [x] H1 Q) σ H:=by
 have e:=HG hs;have hn:(iV l).length<=sizeLine:=Mz (show _<=1000 by rw[cu];exact hl) ⋯
 have h0:∀D,H D=none->(λ(D:Addr) (i:Nat) (ys:List V) (G:Hp)=>H D=none/\G D=some (.lst ys)/\KB [] H G/\i<=l.length/\ys=sV ((l.take i).map EU)) D 0 [] (upd H D (.lst [])):=λD hD=>⟨hD,aa,KB.new hD,MG _,rfl⟩;have hD:∀(D:Addr) (i:Nat) (ys:List V) (G:Hp),(H D=none/\G D=some (.lst ys)/\KB [] H G/\i<=l.length/\ys=sV ((l.take i).map EU))->G D=some (.lst ys)/\ys.length=i:=λD i ys G h=>⟨h.2.1,by rw[h.2.2.2.2,sV,Ms,Ms,MB];have:=h.2.2.2.1;lia⟩
 have step:∀(D:Addr) (i:Nat) (ys:List V) (G:Hp) (x:V) (R:VK),(iV l)[i]?=some x->(H D=none/\G D=some (.lst ys)/\KB [] H G/\i<=l.length/\ys=sV ((l.take i).map EU))->(∀v H5,H5 D=some (.lst ys)->(H D=none/\upd H5 D (.lst (ys++[v])) D=some (.lst (ys++[v]))/\KB [] H (upd H5 D (.lst (ys++[v])))/\i+1<=l.length/\ys++[v]=sV ((l.take (i+1)).map EU))->R v H5)->xC [x] G R:=by
  rintro D i ys G x R hx ⟨g0,g1,gk,hi,rfl⟩ kk;obtain⟨hlt,rfl⟩:=qG hx;have et:=Mt hlt;refine⟨(hs _ (MQ hlt)).1,kk _ _ g1 ⟨g0,aa,λu o e _=>by rw[af (ae e g0)];exact gk.n e,hlt,by rw[Ni,et];unfold sV;rw[MI,MI];rfl⟩⟩
 have fin:∀(D:Addr) (ys:List V) (G:Hp),(H D=none/\G D=some (.lst ys)/\KB [] H G/\(iV l).length<=l.length/\ys=sV ((l.take (iV l).length).map EU))->rJoin K (.str (Str.ofString " ")) [.ref D] G Q:=by
  rintro D ys G ⟨_,g1,gk,_,rfl⟩;rw[cu,Na] at g1;refine⟨" ",D,l.map EU,rfl,rfl,aT.of g1,?_,q _ gk⟩;have:(Str.ofString " ").length=1:=by decide +kernel
  show _+_*(Str.ofString " ").length<=_;rw[this,Ms];lia
 cases kb with
 |true=>exact cP hn _ h0 hD (λD i ys G h=>aT.of (h.2.2.1.n ha)) (λD i ys G x R hx h kk=>by nofun;exact step D i ys G x R hx h kk) fin
 |false=>exact aU hn _ h0 hD (λD i ys G h=>aW.of (h.2.2.1.n ha)) (λD i ys G x R hx h kk=>by nofun;exact step D i ys G x R hx h kk) fin
def xI(T:Txt K mg)(F:HasFn K mg "_law_spaced" dB ["numbers"]):ao P w K mg base aF 1 "_law_spaced" ["numbers"] j1:=by
 refine F.dH lI (by ac_rfl) ?_
 left
 obtain⟨kb,a,l,rfl,ha,hl,hs,q⟩:=h;refine⟨_,(Z.ay (Z.ret (Z.bm K rfl PySem.F.plainAttrs_str PySem.F.slot_str_join PySem.F.type_str_join (Z.iO K rfl) Z.str (Z.cons (Z.mT (osc:=ab dB) (ON:=["numbers"]) (own:=["number"]) (N:=["number","numbers"]) (az.of rfl ∅) (Z.any K rfl (Z.v 0)) (λnd _ _ _ _=>(Z.aA (i:=0) nd rfl (by right))) (λ_ _ _ _=>Z.je) (λ_ _ _ _=>(Z.ct cz rfl T.iq ∅ (Z.cons (Z.v 0) Z.nil)))) Z.nil)))),?_⟩
 have e:=λσ=>tB (K:=K) (σ:=σ) ha hl hs q
 cases kb with
 |true =>
  exists au ha;exact⟨rfl,e _⟩
 |false =>
  exists a8 ha;exact⟨rfl,e _⟩
def Ff(T:Txt K mg)(F:HasFn K mg "numbers_shown" cJ ["numbers"]):ao P w K mg base aF 1 "numbers_shown" ["numbers"] j1:=by
 refine F.dH jI (by ac_rfl) ?_
 left
 obtain⟨kb,a,l,rfl,ha,hl,hs,q⟩:=h;refine⟨_,(Z.ay (Z.ret (Z.bm K rfl PySem.F.plainAttrs_str PySem.F.slot_str_join PySem.F.type_str_join (Z.iO K rfl) Z.str (Z.cons (Z.mT (osc:=ab cJ) (ON:=["numbers"]) (own:=["number"]) (N:=["number","numbers"]) (az.of rfl ∅) (Z.any K rfl (Z.v 0)) (λnd _ _ _ _=>(Z.aA (i:=0) nd rfl (by right))) (λ_ _ _ _=>Z.je) (λ_ _ _ _=>(Z.ct cz rfl T.iq ∅ (Z.cons (Z.v 0) Z.nil)))) Z.nil)))),?_⟩
 have e:=λσ=>tB (K:=K) (σ:=σ) ha hl hs q
 cases kb with
 |true =>
  exists au ha;exact⟨rfl,e _⟩
 |false =>
  exists a8 ha;exact⟨rfl,e _⟩
def yw(xs:List Nat)(n:Nat):Y.sR xs none (some (n:Int))=xs.take n:=by
 unfold Y.sR;rw[HT.bW,HT.dn,NH,OB];rcases QY n xs.length with h|h
 ·rw[Oo h]
 ·rw[QZ h,Ng h,Ng (M8 _)]
def BL:Sp:=λvs H Q _=>∃z:Str,vs=[.str z]/\z.length<=100000/\jN z=true/\∀H',KB [] H H'->Q (.str z) H'
def Dp(T:Txt K mg)(F:HasFn K mg "asked_figures" dJ ["text"])(V5:ao P w K mg base aF 1 "is_number" ["text"] qJ):ao P w K mg base aF 2 "asked_figures" ["text"] BL:=by
 refine F.dH ke (by ac_rfl) ?_
 left
 obtain⟨z,rfl,hz,hn,q⟩:=h;refine⟨_,(Z.aq (Z.dz (Z.j7 (Z.j6 K rfl (Z.fc V5 (Z.cons (Z.v 0) Z.nil)))) (Z.ay Z.vL) Z.bp)
   (Z.ay (Z.ret (Z.v 0)))),?_⟩
 nofun;refine⟨z,rfl,hz,λH1 k1=>?_⟩;rw[hn];refine⟨_,rfl,?_⟩;rw[M4 ⋯]
 nofun;exact q _ k1
def mR:Sp:=λvs H Q _=>∃n:Nat,vs=[.str (bc n)]/\n<=100000/\∀H',KB [] H H'->Q (.int (n:Nat)) H'
def E7(T:Txt K mg)(F:HasFn K mg "asked_place" fB ["text"])(aa0:ao P w K mg base aF 2 "asked_figures" ["text"] BL):ao P w K mg base aF 3 "asked_place" ["text"] mR:=by
 refine F.dH mL (by ac_rfl) ?_
 left
 obtain⟨n,rfl,hn,q⟩:=h;refine⟨_,(Z.ay (Z.ret (Z.ct Y.o_ rfl T.qV ∅ (Z.cons (Z.slice Y.pE (Z.fc aa0 (Z.cons (Z.v 0) Z.nil)) Z.nI (Z.nG Z.int)) Z.nil)))),?_⟩
 have hl:(bc n).length<=9:=by
  rw[<- gu,iW,Ms];exact Mz (kC 100000 n hn) ∅
 have ec:Y.jH (bc n) none (some 9)=bc n:=by
  refine qz ?_;show cp ⟨(Y.sR (cp (bc n)) none (some ((9:Nat):Int))).toArray⟩=_;rw[JR,yw,Ng (by rw[gu];exact hl)]
 nofun;refine⟨_,rfl,Mz (dQ hn) ⋯,mq n,λH1 k1=>?_⟩
 refine⟨_,rfl,Mz hl ⋯,?_⟩
 rw[ec];refine .inr ⟨_,n,rfl,?_,by lia,q _ k1⟩
 rw[vF (mq n) (by lia),tE]
def setG:Row->Nat->Row
 |.jump _,g=>.jump g
 |.zero b _,g=>.zero b g
 |r,_=>r
def yY(f:Nat)(r:Row):Row:=match a7 r with
 |none=>r
 |some t=>if t<f then r else setG r (t+1)
def DC(f:Nat)(r:Row):Row:=match a7 r with
 |none=>r
 |some t=>if t<f then r else setG r (t-1)
def iU(k:Nat)(x:Row)(rs:List Row):List Row:=(rs.map (yY k)).take k++[x]++(rs.map (yY k)).drop k
def qx(k:Nat)(rs:List Row):List Row:=(rs.take k++rs.drop (k+1)).map (DC (k+1))
def zx{r:Row}{n m:Nat}(g:Nat)(h:a7 r=some t)(ho:r.Ok n)(hg:g<=m):(setG r g).Ok m:=by
 cases r with
 |jump _=>exact hg
 |zero b _=>exact⟨ho.1,hg⟩
 |put=>cases h
 |two=>cases h
 |one=>cases h
 |halt=>cases h
def FJ{r:Row}{n m:Nat}(h:r.Ok n)(hm:n<=m):r.Ok m:=by
 cases r with
 |jump g=>exact Mz h hm
 |zero b g=>exact⟨h.1,Mz h.2 hm⟩
 |put=>exact h
 |two=>exact h
 |one=>exact h
 |halt=>exact h
def HY{r:Row}{n:Nat}(f:Nat)(h:r.Ok n):(yY f r).Ok (n+1):=by
 unfold yY
 cases c:a7 r with
 |none=>exact FJ h (NX n)
 |some t =>
  dsimp only;have ht:=f6 h c;split
  ·exact FJ h (NX n)
  ·exact zx _ c h (by lia)
def k_{x:Row}{rs:List Row}(hk:k<=rs.length):(iU k x rs).length=rs.length+1:=by
 unfold iU;rw[Mx,Mx,MB,Nk,Ms];simp;lia
def Ao{x:Row}{rs:List Row}(hk:k<=rs.length)(hx:x.Ok (rs.length+1))(h:∀r∈rs,r.Ok rs.length):∀r∈iU k x rs,r.Ok (iU k x rs).length:=by
 rw[k_ hk];have hm:∀r∈rs.map (yY k),r.Ok (rs.length+1):=λr hr=>by
  obtain⟨r',h1,rfl⟩:=Nc.mp hr;exact HY k (h r' h1)
 intro r hr;unfold iU at hr;rcases N2.mp hr with hr|hr
 ·rcases N2.mp hr with hr|hr
  ·exact hm r (Qd hr)
  ·rw[MH.mp hr];exact hx
 ·exact hm r (List.mem_of_mem_drop hr)
def Ht{r:Row}{n:Nat}(h:r.Ok (n+1))(hk:k<=n):(DC (k+1) r).Ok n:=by
 unfold DC
 cases c:a7 r with
 |none=>exact FY h λt e=>by rw[c] at e;cases e
 |some t =>
  dsimp only;have ht:=f6 h c;split
  ·exact FY h λu e=>by rw[c] at e;cases e;lia
  ·exact zx _ c h (by lia)
def xq{rs:List Row}(hk:k<rs.length):(qx k rs).length=rs.length-1:=by
 unfold qx;rw[Ms,Mx,MB,Nk];lia
def Hz{rs:List Row}(hk:k<rs.length)(h:∀r∈rs,r.Ok rs.length):∀r∈qx k rs,r.Ok (qx k rs).length:=by
 rw[xq hk];intro r hr;obtain⟨r',h1,rfl⟩:=Nc.mp hr;have hm:r'∈rs:=(N2.mp h1).elim Qd List.mem_of_mem_drop;refine Ht (n:=rs.length-1) ?_ (by lia)
 rw[show rs.length-1+1=rs.length by lia]
 exact h r' hm
def Ah(xs:List V)(v:V):cC (xs++[v]) none (some (-1))=xs:=by
 unfold cC;rw[HT.bW,NH,OB];have:HT.bH (xs++[v]).length (xs++[v]).length (some (-1))=xs.length:=by
  unfold HT.bH;simp only[show ((-1:Int)<0)=True from eq_true ⋯,OZ,Mx,MJ,N0]
  lia
 rw[this,R3]
def Bx:Sp:=λvs H Q _=>∃(a:Addr) (xs:List V) (v:V) (g:Int),vs=[.ref a,.int g]/\H a=some (.tup (xs++[v]))/\xs≠[]/\xs.length<=2/\∀p H',KB [] H H'->H' p=some (.tup (xs++[.int g]))->Q (.ref p) H'
def Fo(T:Txt K mg)(F:HasFn K mg "with_goal" iu ["row","goal"]):ao P w K mg base aF 1 "with_goal" ["row","goal"] Bx:=by
 refine F.dH pZ (by ac_rfl) ?_
 left
 obtain⟨a,xs,v,g,rfl,ha,hne,hl,q⟩:=h;refine⟨_,(Z.ay (Z.ret (Z.op (Z.aI K rfl) (Z.slice (Z.pL K rfl) (Z.v 0) Z.nI (Z.nG (Z.un cB Z.int))) (Z.tup (Z.cons (Z.v 1) Z.nil))))),?_⟩;exists a8 ha;refine⟨a,_,rfl,aW.of ha,λz=>?_,λp hp=>?_⟩
 ·have h1:=z.2;have:HT.bH (xs++[v]).length (xs++[v]).length (some (-1))=xs.length:=by
   unfold HT.bH;simp only[show ((-1:Int)<0)=True from eq_true ⋯,OZ,Mx,MJ,N0]
   lia
  rw[this,Mx] at h1;simp at h1
 rw[Ah];obtain⟨k1,s1⟩:=bS hp (.tup xs);generalize upd H p _=H1 at *;refine⟨by decide,λp2 hp2=>?_⟩
 obtain⟨k2,s2⟩:=bS hp2 (.tup [.int g]);have s12:=k2.n s1;generalize upd H1 p2 _=H2 at *;simp only[L2.Ap.addRef,s12,s2];refine⟨hne,by simp,Mz (show _<=3 by simp;lia) ⋯,λp3 hp3=>?_⟩
 exact q _ _ (k1.trans (k2.trans (KB.new hp3))) aa
def kl.cut{rs:List Row}(hp:PA H as rs)(k:Nat):PA H (as.take k) (rs.take k):=by
 refine⟨by rw[MB,MB,hp.1],λi q r e1 e2=>?_⟩
 rw[O0] at e1 e2
 split at e1
 ·rename_i c;rw[MD c] at e2;exact hp.2 i q r e1 e2
 ·cases e1
def Bj{rs:List Row}(h:kl H a rs)(q:∀u G,KB [] H G->kl G u (rs.take k)->Q (.ref u) G):Y.xZ K (.ref a) none (some (k:Int)) H Q:=by
 obtain⟨as,ha,hp⟩:=h;refine qm ha (λe=>q a H (KB.refl _ _) ⟨as.take k,?_,kl.cut hp k⟩) (λp hp'=>q p _ (KB.new hp') ⟨as.take k,?_,(kl.cut hp k).keep (KB.new hp') (NT.nil _)⟩)
 ·rw[tu] at e;rw[ha,PD,e]
 ·rw[aa,tu,PD]
def xB:Option Nat->Nat->V
 |none,_=>.aN
 |some _,w=>.int (w:Nat)
def j8(gs:List (Option Nat))(ws:List Nat):List V:=List.zipWith xB gs ws
def Aj(h:ws.length=gs.length):(j8 gs ws).length=gs.length:=by unfold j8;rw[Qk];lia
def qf{w:Nat}(h1:gs[i]?=some g)(h2:ws[i]?=some w):(j8 gs ws)[i]?=some (xB g w):=by
 unfold j8;rw[RA,h1,h2]
def FA:Sp:=λvs H Q _=>∃(g:Option Nat) (w:Nat),vs=[xB g w]/\w<3/\Q (.int (addW g w:Nat)) H
def IK(T:Txt K mg)(F:HasFn K mg "own_part" iY ["width"]):ao P w K mg base aF 1 "own_part" ["width"] FA:=by
 obtain⟨ah,Z9,Z7⟩:=T.wH;obtain⟨aw,X2,W9⟩:=T.qW;have Z8:RelV (.ref ah) (.ref ah):=rfl;have X0:RelV (.ref aw) (.ref aw):=rfl;refine F.dH qZ (by ac_rfl) ?_
 left
 obtain⟨g,k,rfl,hk,q⟩:=h;refine⟨_,(Z.ay (Z.ret (Z.Ag (Z.aK g_ (Z.v 0) Z.aN) Z.int (Z.op (Z.aI K rfl) (Z.cb (Z.bL K rfl) rfl T.bA ∅ (Z.cons (Z.ix (Z.si K rfl) (Z.glob rfl Z9 Z8) (Z.v 0)) Z.nil)) (Z.ix (Z.si K rfl) (Z.glob rfl X2 X0) (Z.v 0)))))),?_⟩
 cases g with
 |none =>
  unfold xB;nofun;exact q
 |some t =>
  have p2:bQ [V.str (Str.ofString "0"),.str (Str.ofString "10"),.str (Str.ofString "11")] (k:Int)=some (.str (wd (eL k))):=by
   rcases qQ hk with rfl|rfl|rfl
   ·exact Nw (λz=>some (V.str z)) ∅
   ·exact Nw (λz=>some (V.str z)) ∅
   ·exact Nw (λz=>some (V.str z)) ∅
  have p3:bQ [V.int 4,.int 8,.int 16] (k:Int)=some (.int ((dG k:Nat):Int)):=by rcases qQ hk with rfl|rfl|rfl<;>rfl
  unfold xB;nofun;rw[M4 (show ¬ V.int (k:Nat)=V.aN from λz=>nomatch z)];refine⟨ah,_,_,_,rfl,rfl,Z7 H,p2,?_⟩;nofun;rw[bu];refine⟨Mz (show (eL k).length<=2 by rcases qQ hk with rfl|rfl|rfl<;>decide) ⋯,aw,_,_,_,rfl,rfl,W9 H,p3,?_⟩
  nofun;rw[show ((eL k).length:Int)+(dG k:Nat)=((addW (some t) k:Nat):Int) by rcases qQ hk with rfl|rfl|rfl<;>rfl]
  exact q
def EF{v:V}(h:(iV (nZ l))[i]?=some v):∃x:Nat,l[i]?=some x/\v=.int (x:Nat):=by
 unfold iV nZ at h;rw[NI,M7] at h;obtain⟨x,e,rfl⟩:=MT.mp h;exact⟨x,e,rfl⟩
def gc(l:List Nat):(iV (nZ l)).length=l.length:=by rw[cu,uC]
def B1(h:i<l.length):bQ (iV (nZ l)) (i:Int)=some (.int ((l.getD i 0:Nat):Int)):=aV (by unfold iV nZ;rw[NI,M7,Mt h,M9,Mt h];rfl)
def ED(h:i<l.length):bQ (iV (nZ (l.take (i+1)))) (-1)=some (.int ((l.getD i 0:Nat):Int)):=by
 have hi2:(l.take (i+1)).length=i+1:=by rw[MB];lia
 unfold bQ jE;rw[M4 ⋯,MD (by rw[gc,hi2];lia),gc,hi2,show -1+((i+1:Nat):Int)=(i:Int) by lia]
 show (iV (nZ (l.take (i+1))))[((i:Nat):Int).toNat]?=_;rw[MY];unfold iV nZ;rw[NI,M7,Nx (OA i),Mt h,M9,Mt h];rfl
def mw(K:W.Frag):Sp:=λvs H Q _=>∃(a b:Addr) (k:Bool) (ss:List Nat) (gs:List (Option Nat)) (ws:List Nat),vs=[.ref a,.ref b]/\H a=some (.lst (iV (nZ ss)))/\jw K k H b (j8 gs ws)/\(∀H',KB [] H H'->jw K k H' b (j8 gs ws))/\gs.length=ss.length/\ws.length=ss.length/\ss.length<=64/\(∀w∈ws,w<3)/\∀d H',H d=none->KB [] H H'->H' d=some (.lst (iV (nZ (dy 0 ss gs ws))))->Q (.ref d) H'
def ya(T:Txt K mg)(F:HasFn K mg "row_starts" gC ["sizes","widths"])(ag7:ao P w K mg base aF 1 "own_part" ["width"] FA):ao P w K mg base aF 2 "row_starts" ["sizes","widths"] (mw K):=by
 refine F.dH dA (by ac_rfl) ?_
 left
 obtain⟨a,b,k,ss,gs,ws,rfl,ha,hb,hbk,h1,h2,h3,h4,q⟩:=h;have hl:=ff ss gs ws 0 h1 h2;have hat:=jW ss gs ws 0;obtain⟨l0,e0⟩:=tT 0 ss gs ws;refine⟨_,(Z.aq (Z.se (i:=2) dA.nd (Z.lst (Z.cons Z.int Z.nil)))
   (Z.aq (Z.fQ Nd rfl (xh K rfl rfl T.rP (Z.cons (Z.v 0) (Z.cons (Z.v 1) Z.nil))) (Z.kP (n:=2) K rfl rfl (Z.bq (Z.aA (i:=3) dA.nd rfl (by right)) (Z.bq (Z.aA (i:=4) dA.nd rfl (by right)) Z.gR))) (Z.ay (Z.expr (Z.app K (Z.v 2) (Z.cons (Z.op (Z.aI K rfl) (Z.op (Z.aI K rfl) (Z.ix (Z.aD K rfl hu) (Z.v 2) (Z.un cB Z.int)) (Z.v 3)) (Z.fc ag7 (Z.cons (Z.v 4) Z.nil))) Z.nil)))))
   (Z.ay (Z.ret (Z.v 2))))),?_⟩
 generalize vS:dy 0 ss gs ws=sp at *;symm;nofun;refine⟨by decide,λfd hfd=>?_⟩
 have k1:=KB.new (ex:=[]) (o:=.lst [.int 0]) hfd;have s1:upd H fd (.lst [.int 0]) fd=some (.lst (iV (nZ (sp.take 1)))):=by rw[aa,e0];rfl
 generalize upd H fd (.lst [.int 0])=H1 at *;subst hN;symm;exists jr;refine⟨(true,a),(k,b),⟨rfl,rfl⟩,⟨_,aT.of (k1.n ha)⟩,⟨_,hbk _ k1⟩,λn=>?_⟩;refine oV (xs:=iV (nZ ss)) (ys:=j8 gs ws) (by rw[gc,Aj (by lia),h1]) (λi σ H'=>∃o3 o4:Option V,i<=ss.length/\KB [] H H'/\H' fd=some (.lst (iV (nZ (sp.take (i+1)))))/\σ=[some (.ref a),some (.ref b),some (.ref fd),o3,o4]) ⟨none,none,MG _,k1,s1,rfl⟩ (λi σ H' ⟨_,_,_,k,_⟩=>⟨aT.of (k.n ha),hbk _ k⟩) ?_ ?_
 ·rintro i x y σ H' p hx hy ⟨o3,o4,hi,hk,gf,rfl⟩ hp;obtain⟨s0,es,rfl⟩:=EF hx;have hlt:i<ss.length:=(Mw.mp es).1;have eg:=Mt (show i<gs.length by lia)
  have ew:=Mt (show i<ws.length by lia)
  have lw:=h4 _ (MQ (show i<ws.length by lia))
  generalize gs[i]'_=g at eg;generalize ws[i]'_=w0 at ew lw;have en:=hat i s0 g w0 es eg ew;rw[qf eg ew] at hy;cases hy;unfold aL;refine⟨p,_,rfl,aW.of aa,rfl,_,_,rfl,_,_,rfl,rfl,?_⟩;have k2:=hk.trans (KB.new (o:=.tup [.int (s0:Nat),xB g w0]) hp);have gf2:upd H' p (.tup [.int (s0:Nat),xB g w0]) fd=some (.lst (iV (nZ (sp.take (i+1))))):=by rw[af (ae gf hp)];exact gf
  generalize upd H' p (.tup [.int (s0:Nat),xB g w0])=H2 at *;have et:sp.take (i+1+1)=sp.take (i+1)++[sp.getD (i+1) 0]:=by
   rw[Ni,M9,Mt (show i+1<sp.length by lia)];rfl
  have lst:=ED (l:=sp) (i:=i) (by lia)
  dsimp only;refine nV λM hM=>?_;exists au gf2,lst;refine⟨.inl ⟨rfl,_,aT.of gf2⟩,g,w0,rfl,lw,?_⟩;nofun;refine⟨fd,_,_,rfl,rfl,gf2,Nat.lt_of_le_of_lt (show _<=1000 by rw[gc,List.length_take];lia) ⋯,?_⟩
  rw[hM];refine⟨_,_,hlt,λu o e _=>by rw[af (ae e hfd)];exact k2.n e,?_,rfl⟩
  rw[aa,et,en];unfold nZ;rw[MI,pG];rfl
 ·rintro σ H' ⟨o3,o4,hi,hk,gf,rfl⟩;show N _ _;subst hN;nofun;rw[Ng (by rw[hl,gc];exact M8 _)] at gf
  exact q fd H' hfd hk gf
def vz:Sp:=λvs H Q _=>∃(a b:Addr) (sp:List Nat) (gs:List (Option Nat)) (k t:Nat),vs=[.ref a,.ref b,.int (k:Nat)]/\H a=some (.lst (iV (nZ sp)))/\H b=some (.lst (gs.map aJ))/\gs[k]?=some (some t)/\t<sp.length/\k+1<sp.length/\Q (.int (cf sp t k)) H
def Em(T:Txt K mg)(F:HasFn K mg "distance_of" f9 ["starts","goals","row"]):ao P w K mg base aF 1 "distance_of" ["starts","goals","row"] vz:=by
 refine F.dH lW (by ac_rfl) ?_
 left
 obtain⟨a,b,sp,gs,k,t,rfl,ha,hb,hg,ht,hk,q⟩:=h;refine⟨_,(Z.ay (Z.ret (Z.op d7 (Z.ix (Z.aD K rfl hu) (Z.v 0) (Z.ix (Z.aD K rfl hu) (Z.v 1) (Z.v 2))) (Z.ix (Z.aD K rfl hu) (Z.v 0) (Z.op (Z.aI K rfl) (Z.v 2) Z.int))))),?_⟩;have ag:bQ (gs.map aJ) (k:Int)=some (.int (t:Nat)):=aV (by rw[M7,hg];rfl)
 have as1:=B1 ht;have as2:bQ (iV (nZ sp)) ((k:Int)+1)=some (.int ((sp.getD (k+1) 0:Nat):Int)):=B1 hk;exists au hb,ag,au ha,as1,as2;exact q
def Bn:Sp:=λvs H Q _=>∃(a b c:Addr) (sp:List Nat) (gs:List (Option Nat)) (ws:List Nat) (k t w:Nat),vs=[.ref a,.ref b,.ref c,.int (k:Nat)]/\H a=some (.lst (iV (nZ sp)))/\H b=some (.lst (gs.map aJ))/\H c=some (.lst (j8 gs ws))/\gs[k]?=some (some t)/\ws[k]?=some w/\w<3/\t<sp.length/\k+1<sp.length/\Q (.bl (kX w (cf sp t k))) H
def Ep(T:Txt K mg)(F:HasFn K mg "fits" u7 ["starts","goals","widths","row"])(T3:ao P w K mg base aF 1 "distance_of" ["starts","goals","row"] vz):ao P w K mg base aF 2 "fits" ["starts","goals","widths","row"] Bn:=by
 obtain⟨ah,ag9,ag1⟩:=T.B5;have ag6:RelV (.ref ah) (.ref ah):=rfl;refine F.dH xl (by ac_rfl) ?_
 left
 obtain⟨a,b,c,sp,gs,ws,k,t,w0,rfl,ha,hb,hc,hg,hw,lw,ht,hk,q⟩:=h;refine⟨_,(Z.aq (Z.se (i:=4) xl.nd (Z.ix (Z.si K rfl) (Z.glob rfl ag9 ag6) (Z.ix (Z.aD K rfl hu) (Z.v 2) (Z.v 3))))
   (Z.ay (Z.ret (Z.chain (C8) (e_) (Z.un cB (Z.v 4)) (Z.fc T3 (Z.cons (Z.v 0) (Z.cons (Z.v 1) (Z.cons (Z.v 3) Z.nil)))) (Z.v 4))))),?_⟩
 have aw:bQ (j8 gs ws) (k:Int)=some (.int (w0:Nat)):=aV (qf hg hw);have ah':bQ [V.int 8,.int 128,.int 32768] (w0:Int)=some (.int (eY w0)):=by rcases qQ lw with rfl|rfl|rfl<;>rfl
 symm;exists au hc,aw;refine⟨ah,_,_,_,rfl,rfl,ag1 H,ah',?_⟩;subst hN;nofun;refine⟨a,b,sp,gs,k,t,rfl,ha,hb,hg,ht,hk,?_⟩;nofun;unfold kX at q;by_cases c1:-eY w0<=cf sp t k
 ·rw[MD c1];rw[Nq c1,Qz] at q;exact q
 ·rw[M4 c1];rw[MW c1,Px] at q;exact q
def kO(sp:List Nat)(gs:List (Option Nat))(ws:List Nat)(k:Nat):Bool:=match gs[k]?,ws[k]? with
 |some (some t),some w=>!kX w (cf sp t k)
 |_,_=>false
def dI(ss:List Nat)(gs:List (Option Nat))(ws:List Nat):Option Nat:=(List.range' 0 gs.length).find? (kO (dy 0 ss gs ws) gs ws)
def xm(K:W.Frag):Sp:=λvs H Q _=>∃(a b c:Addr) (ss:List Nat) (gs:List (Option Nat)) (ws:List Nat),vs=[.ref a,.ref b,.ref c]/\H a=some (.lst (iV (nZ ss)))/\H b=some (.lst (gs.map aJ))/\H c=some (.lst (j8 gs ws))/\gs.length=ss.length/\ws.length=ss.length/\ss.length<=64/\(∀t,some t∈gs->t<=ss.length)/\(∀w∈ws,w<3)/\∀H',KB [] H H'->Q (ER (dI ss gs ws)) H'
def An(T:Txt K mg)(F:HasFn K mg "first_too_narrow" cQ ["sizes","goals","widths"])(U1:ao P w K mg base aF 2 "row_starts" ["sizes","widths"] (mw K))(hfits:ao P w K mg base aF 2 "fits" ["starts","goals","widths","row"] Bn):ao P w K mg base aF 3 "first_too_narrow" ["sizes","goals","widths"] (xm K):=by
 refine F.dH bN (by ac_rfl) ?_
 left
 obtain⟨a,b,c,ss,gs,ws,rfl,ha,hb,hc,h1,h2,h3,h5,h4,q⟩:=h;refine⟨_,(Z.aq (Z.se (i:=3) bN.nd (Z.fc U1 (Z.cons (Z.v 0) (Z.cons (Z.v 2) Z.nil))))
   (Z.aq (Z.fQ Nd rfl (Z.Fu K rfl rfl T.hJ (Z.cons (Z.v 1) Z.nil)) (Z.kP (n:=2) K rfl rfl (Z.bq (Z.aA (i:=4) bN.nd rfl (by right)) (Z.bq (Z.aA (i:=5) bN.nd rfl (by right)) Z.gR))) (Z.ay (Z.dz (Z.tw (Z.rj (Z.aK f_ (Z.v 5) Z.aN) (Z.ko (Z.j7 (Z.j6 K rfl (Z.fc hfits (Z.cons (Z.v 3) (Z.cons (Z.v 1) (Z.cons (Z.v 2) (Z.cons (Z.v 4) Z.nil)))))))))) (Z.ay (Z.ret (Z.v 4))) Z.bp)))
   (Z.ay (Z.ret Z.aN)))),?_⟩
 symm;nofun;refine⟨a,c,true,ss,gs,ws,rfl,ha,aT.of hc,λH' k=>aT.of (k.n hc),h1,h2,h3,h4,λd H1 hd k1 g1=>?_⟩;subst hN;have sl:=ff ss gs ws 0 h1 h2;unfold dI at q;generalize dy 0 ss gs ws=sp at *;symm;nofun;refine⟨⟨_,aT.of (k1.n hb)⟩,?_⟩;refine lG (xs:=gs.map aJ) (λi σ H'=>∃o4 o5:Option V,KB [] H H'/\H' d=some (.lst (iV (nZ sp)))/\i<=gs.length/\(List.range' i (gs.length-i)).find? (kO sp gs ws)=(List.range' 0 gs.length).find? (kO sp gs ws)/\σ=[some (.ref a),some (.ref b),some (.ref c),some (.ref d),o4,o5]) ⟨none,none,k1,g1,MG _,rfl,rfl⟩ (λi σ H' _ h=>by obtain⟨_,_,k,_⟩:=h;exact aT.of (k.n hb)) ?_ ?_
 ·rintro i x σ H' p hx ⟨o4,o5,hk,gd,hi,ef,rfl⟩ hp;have hlt:i<gs.length:=by have:=(Mw.mp hx).1;rw[Ms] at this;exact this
  have eg:=Mt hlt;have gm:=MQ hlt;have ew:=Mt (show i<ws.length by lia)
  have lw:=h4 _ (MQ (show i<ws.length by lia))
  generalize gs[i]'_=g at eg gm;generalize ws[i]'_=w0 at ew lw;rw[M7,eg] at hx;cases hx;rw[show gs.length-i=(gs.length-(i+1))+1 by lia,Ow,O2] at ef
  unfold aL;refine⟨p,_,rfl,aW.of aa,rfl,_,_,rfl,_,_,rfl,rfl,?_⟩;have kz:=KB.new (ex:=[]) (o:=.tup [.int i,aJ g]) hp;generalize upd H' p (.tup [.int i,aJ g])=H2 at *;have hk2:=hk.trans kz;have gd2:=kz.n gd;dsimp only;refine nV λM hM=>?_;refine vI λA B hA hB=>?_;nofun;have go:kO sp gs ws i=false->∀G:Hp,KB [] H G->G d=some (.lst (iV (nZ sp)))->B [some (.ref a),some (.ref b),some (.ref c),some (.ref d),some (.int (i:Int)),some (aJ g)] G:=λhf G kG gG=>by
   rw[hB];show M _ _;rw[hM];rw[hf] at ef;exact⟨_,_,kG,gG,hlt,ef,rfl⟩
  cases g with
  |none =>
   rw[M4 (show ¬ ¬ aJ none=V.aN from λz=>z rfl)];exact go (by unfold kO;rw[eg]) _ hk2 gd2
  |some t =>
   rw[MD (show ¬ aJ (some t)=V.aN from λz=>nomatch z)];have ht:t<=ss.length:=h5 t gm;refine⟨d,b,c,sp,gs,ws,i,t,w0,rfl,gd2,hk2.n hb,hk2.n hc,eg,ew,lw,by lia,by lia,?_⟩
   have et:kO sp gs ws i=!kX w0 (cf sp t i):=by unfold kO;rw[eg,ew]
   refine⟨_,rfl,?_⟩
   cases co:kX w0 (cf sp t i) with
   |true=>
    rw[M4 ⋯]
    exact go (by rw[et,co];rfl) _ hk2 gd2
   |false =>
    rw[MD rfl,hA];rw[et,co] at ef;have ef':some i=(List.range' 0 gs.length).find? (kO sp gs ws):=ef;rw[<- ef'] at q;nofun;exact q _ hk2
 ·rintro σ H' ⟨o4,o5,hk,gd,hi,ef,rfl⟩;show N _ _;subst hN;rw[Ms,NN] at ef;have ef':none=(List.range' 0 gs.length).find? (kO sp gs ws):=ef;rw[<- ef'] at q;nofun;exact q _ hk
def rB:Sp:=λvs H Q _=>∃(b:Addr) (gs:List (Option Nat)),vs=[.ref b]/\H b=some (.lst (gs.map aJ))/\gs.length<=64/\∀d H',H d=none->KB [] H H'->H' d=some (.lst (j8 gs (List.replicate gs.length 0)))->Q (.ref d) H'
def DD(gs:List (Option Nat)):j8 gs (List.replicate gs.length 0)=gs.map λg=>xB g 0:=by
 induction gs with
 |nil=>rfl
 |cons g gs ih=>rw[MJ,Nz,Nb,<- ih];rfl
def yR(T:Txt K mg)(F:HasFn K mg "narrowest" fb ["goals"]):ao P w K mg base aF 1 "narrowest" ["goals"] rB:=by
 refine F.dH p7 (by ac_rfl) ?_
 left
 obtain⟨b,gs,rfl,hb,hl,q⟩:=h;refine⟨_,(Z.ay (Z.ret (Z.mT (osc:=ab fb) (ON:=["goals"]) (own:=["goal"]) (N:=["goal","goals"]) (az.of rfl ∅) (Z.any K rfl (Z.v 0)) (λnd _ _ _ _=>(Z.aA (i:=0) nd rfl (by right))) (λ_ _ _ _=>Z.je) (λ_ _ _ _=>(Z.Ag (Z.aK g_ (Z.v 0) Z.aN) Z.aN Z.int))))),?_⟩
 exists au hb;refine cP (xs:=gs.map aJ) (Mz (show _<=64 by rw[Ms];exact hl) ⋯) (λD i ys H'=>H D=none/\H' D=some (.lst ys)/\KB [] H H'/\ys=((gs.take i).map λg=>xB g 0)/\i<=gs.length) (λD hD=>⟨hD,aa,KB.new hD,rfl,MG _⟩) (λD i ys H' h=>⟨h.2.1,by rw[h.2.2.2.1,Ms,MB];have:=h.2.2.2.2;lia⟩) (λD i ys H' h=>aT.of (h.2.2.1 _ _ hb (by simp))) ?_ ?_
 ·rintro D i ys H' x R hx ⟨g0,g1,gk,rfl,hi⟩ kk;have hlt:i<gs.length:=by have:=(Mw.mp hx).1;rw[Ms] at this;exact this
  have eg:=Mt hlt;have et:gs.take (i+1)=gs.take i++[gs[i]]:=by rw[Ni,eg];rfl
  rw[M7,eg] at hx;cases hx;have fin:R (xB gs[i] 0) H':=kk _ _ g1 ⟨g0,aa,λu o e _=>by rw[af (ae e g0)];exact gk.n e,by rw[et,MI];rfl,hlt⟩
  nofun
  cases hg:gs[i] with
  |none=>rw[hg] at fin;rw[MD (show aJ none=V.aN from rfl)];exact fin
  |some t=>rw[hg] at fin;rw[M4 (show ¬ aJ (some t)=V.aN from λz=>nomatch z)];exact fin
 ·rintro D ys H' ⟨g0,g1,gk,rfl,hi⟩;refine q D H' g0 gk ?_;rw[g1,Ms,Na,DD]
def zO:Sp:=λvs H Q _=>∃(n m:Int),vs=[.int n,.int m]/\-1<=m/\m<=40/\Q (.str (wd (bT n m.toNat []))) H
def HU(T:Txt K mg)(F:HasFn K mg "last_figures" dY ["number","many"]):ao P w K mg base aF 1 "last_figures" ["number","many"] zO:=by
 refine F.dH bE (by ac_rfl) ?_
 left
 obtain⟨n,m,rfl,hm0,hm,q⟩:=h;refine⟨_,(Z.aq (Z.se (i:=2) bE.nd Z.str)
   (Z.aq (Z.se (i:=3) bE.nd (Z.v 0))
   (Z.aq (Z.fQ Nd rfl (Z.my rfl T.cK (Z.cons (Z.v 1) Z.nil)) (Z.aA (i:=4) bE.nd rfl (by right)) (Z.aq (Z.se (i:=2) bE.nd (Z.op (Z.aI K rfl) (Z.ct cz rfl T.iq ∅ (Z.cons (Z.op eF (Z.v 3) Z.int) Z.nil)) (Z.v 2)))
   (Z.ay (Z.se (i:=3) bE.nd (Z.op lu (Z.v 3) Z.int)))))
   (Z.ay (Z.ret (Z.v 2)))))),?_⟩
 symm;nofun;rw[hN];symm;nofun;rw[hN];symm;nofun;refine⟨by lia,by lia,?_⟩
 have hk:m.toNat<=40:=by lia
 generalize m.toNat=k at *;refine bB (λi σ H'=>∃(l:Int) (acc:List Nat) (o:Option V),H'=H/\i<=k/\bT l (k-i) acc=bT n k []/\acc.length=i/\σ=[some (.int n),some (.int m),some (.str (wd acc)),some (.int l),o]) ⟨n,[],none,rfl,MG _,rfl,rfl,by rw[lL]⟩ ?_ ?_
 ·rintro i σ H' hi ⟨l,acc,o,rfl,_,e,hl,rfl⟩;unfold aL;refine ax λM hM=>?_;exists Ig;rw[dM,bu,bu];refine⟨by decide,by rcases Int.emod_two_eq l with h|h<;>rw[h]<;>decide,Mz (show _<=50 by simp;lia) ⋯,?_⟩
  rw[hM];refine nV λM hM=>?_;nofun;refine⟨⟨by decide,by decide⟩,?_⟩
  rw[hM];refine⟨l / 2,dg l::acc,some _,rfl,hi,?_,by rw[MJ,hl],rfl⟩
  rw[<- e,show k-i=(k-(i+1))+1 by lia]
  rfl
 ·rintro σ H' ⟨l,acc,o,rfl,_,e,_,rfl⟩;show N _ _;rw[hN];nofun;rw[NN] at e;rw[<- e] at q;exact q
def uR(n:Nat):bT (n:Int) (((dm n:Nat):Int)-1).toNat []=(jJ n).tail:=by
 unfold jJ
 cases e:dm n with
 |zero=>rfl
 |succ b =>
  obtain⟨d,ed⟩:=n9 b (n:Int) [];rw[ed,show (((b+1:Nat):Int)-1).toNat=b by lia];rfl
def oH:Sp:=λvs H Q _=>∃(n:Nat),vs=[.int (n:Nat)]/\n<65536/\Q (.str (wd (jJ n).tail)) H
def tW(T:Txt K mg)(F:HasFn K mg "figures_behind_first" bV ["number"])(S5:ao P w K mg base aF 1 "last_figures" ["number","many"] zO):ao P w K mg base aF 2 "figures_behind_first" ["number"] oH:=by
 refine F.dH fK (by ac_rfl) ?_
 left
 obtain⟨n,rfl,hn,q⟩:=h;have hb:=kZ hn;refine⟨_,(Z.ay (Z.ret (Z.fc S5 (Z.cons (Z.v 0) (Z.cons (Z.op d7 (Z.Lv K rfl PySem.F.plainAttrs_int PySem.F.slot_int_bit_length PySem.F.type_int_bit_length Y.qy (Z.v 0)) Z.int) Z.nil))))),?_⟩;nofun;refine⟨rfl,?_⟩;refine⟨_,rfl,rfl,?_⟩;nofun;refine⟨_,_,rfl,?_,?_,?_⟩
 ·show (-1:Int)<=((dm n:Nat):Int)-1;lia
 ·show ((dm n:Nat):Int)-1<=40;lia
 ·show Q (.str (wd (bT (n:Int) (((dm n:Nat):Int)-1).toNat []))) H;rw[uR];exact q
def wu:Sp:=λvs H Q _=>∃(k:Nat) (d:Int),vs=[.int (k:Nat),.int d]/\k<3/\Q (.str (wd (iC k d))) H
def zU(T:Txt K mg)(F:HasFn K mg "jump_written" eB ["width","distance"])(S5:ao P w K mg base aF 1 "last_figures" ["number","many"] zO):ao P w K mg base aF 2 "jump_written" ["width","distance"] wu:=by
 obtain⟨ah,Z9,Z7⟩:=T.wH;obtain⟨aw,X2,W9⟩:=T.qW;have Z8:RelV (.ref ah) (.ref ah):=rfl;have X0:RelV (.ref aw) (.ref aw):=rfl;refine F.dH kR (by ac_rfl) ?_
 left
 obtain⟨k,d,rfl,hk,q⟩:=h;refine⟨_,(Z.ay (Z.ret (Z.op (Z.aI K rfl) (Z.ix (Z.si K rfl) (Z.glob rfl Z9 Z8) (Z.v 0)) (Z.fc S5 (Z.cons (Z.v 1) (Z.cons (Z.ix (Z.si K rfl) (Z.glob rfl X2 X0) (Z.v 0)) Z.nil)))))),?_⟩;nofun;have p2:bQ [V.str (Str.ofString "0"),.str (Str.ofString "10"),.str (Str.ofString "11")] (k:Int)=some (.str (wd (eL k))):=by
  rcases qQ hk with rfl|rfl|rfl
  ·exact Nw (λz=>some (V.str z)) ∅
  ·exact Nw (λz=>some (V.str z)) ∅
  ·exact Nw (λz=>some (V.str z)) ∅
 have p3:bQ [V.int 4,.int 8,.int 16] (k:Int)=some (.int ((dG k:Nat):Int)):=by rcases qQ hk with rfl|rfl|rfl<;>rfl
 have p4:dG k<=16/\(eL k).length<=2:=by rcases qQ hk with rfl|rfl|rfl<;>decide
 refine⟨ah,_,_,_,rfl,rfl,Z7 H,p2,aw,_,_,_,rfl,rfl,W9 H,p3,_,_,rfl,by lia,by lia,?_⟩
 rw[MY];nofun;rw[dM,bu,bu,dW];exact⟨Mz (show _<=30 by simp;lia) ⋯,q⟩
def CH(H:Hp)(ps:List Addr)(l:List (Nat×Nat)):Prop:=ps.length=l.length/\∀(j:Nat) (q:Addr) (x:Nat×Nat),ps[j]?=some q->l[j]?=some x->H q=some (.tup [.int (x.1:Nat),.int (x.2:Nat)])
def CH.snoc{ps:List Addr}{l:List (Nat×Nat)}{q:Addr}{x:Nat×Nat}(h:CH H ps l)(e:H q=some (.tup [.int (x.1:Nat),.int (x.2:Nat)])):CH H (ps++[q]) (l++[x]):=by
 refine⟨by rw[Mx,Mx,h.1];rfl,λi q' r' e1 e2=>?_⟩
 rcases Nt i ps.length with hi|hi
 ·rw[MU hi] at e1;rw[MU (by rw[<- h.1];exact hi)] at e2
  exact h.2 i q' r' e1 e2
 ·have h1:=h.1;rw[MR hi] at e1;rw[MR (by lia),<- h1] at e2
  obtain⟨hj,rfl⟩:=Mw.mp e1;obtain⟨hj2,rfl⟩:=Mw.mp e2;have:i-ps.length=0:=by simp at hj;lia
  simp only[this,P8];exact e
def EY{D:Addr}(h:H D=some (.lst ys)):NT [D] H:=λb hb xs e=>by
 rw[MH.mp hb,h] at e;cases e
def CH.keep{ps:List Addr}{l:List (Nat×Nat)}(h:CH H ps l)(k:KB ex H H')(hx:NT ex H):CH H' ps l:=⟨h.1,λi q r e1 e2=>k _ _ (h.2 i q r e1 e2) λz=>hx q z _ (h.2 i q r e1 e2)⟩
def LB(x:V)(xs:List V):cC (x::xs) (some 1) none=xs:=by
 unfold cC;rw[HT.bW,show (some (1:Int))=some ((1:Nat):Int) from rfl,HT.dn];simp
def Ll{x:V}(h:H a=some (.tup (x::xs)))(q:∀p,H p=none->Q (.ref p) (upd H p (.tup xs))):vh K (.ref a) (some 1) none H Q:=⟨a,x::xs,rfl,aW.of h,λz=>by
 have:=z.1;rw[show (some (1:Int))=some ((1:Nat):Int) from rfl,HT.dn] at this;simp at this,by rw[LB];exact q⟩
def rY:Sp:=λvs H Q _=>∃(ra:Addr) (r:Row) (k:Nat),vs=[.ref ra]/\H ra=some (.tup r.vs)/\r.Ok k/\∀D ps H',H D=none->KB [] H H'->H' D=some (.lst (ps.map V.ref))->CH H' ps (eA r)->Q (.ref D) H'
def y6(T:Txt K mg)(F:HasFn K mg "coded_things" eI ["row"]):ao P w K mg base aF 1 "coded_things" ["row"] rY:=by
 obtain⟨u0,ad3,ac9⟩:=T.uF;obtain⟨u1,aa8,aa5⟩:=T.pC;obtain⟨u2,ad4,ad0⟩:=T.uM;obtain⟨aB,wP,sB⟩:=T.l9;have R0:RelV (.ref aB) (.ref aB):=rfl;obtain⟨_,oB,hmB,hoB,hdB⟩:=T.DF;rw[wP] at hmB;cases hmB;have tyB:∀H,Jp K "tuple" (.ref aB) H:=λH=>.inr (.inl ⟨rfl,oB,hoB,by
  rcases sB (λ_=>none) with h|⟨o,_,_,h1,h2,_⟩
  ·rcases h with h|⟨_,h⟩
   ·cases h
   ·cases h
  ·rw[hoB] at h1;cases h1;exact h2,hdB⟩)
 obtain⟨dS,wT,hd0⟩:=T.m9;have P3:jv K dS lE:=hd0;have ag5:RelV (.ref dS) (.ref dS):=rfl;refine F.dH cI (by ac_rfl) ?_
 left
 obtain⟨ra,r,k,rfl,hra,aH,q⟩:=h;refine⟨_,(Z.aq (Z.se (i:=1) cI.nd (Z.lst (Z.cons (Z.tup (Z.cons (Z.glob rfl ad3 ac9) (Z.cons (Z.bm K rfl PySem.F.plainAttrs_list PySem.F.slot_list_index PySem.F.type_list_index Y.wk (Z.ct (vk (D:=lE) K rfl rfl) rfl T.pW ∅ (Z.cons (Z.glob rfl wT ag5) Z.nil)) (Z.cons (Z.ix (Z.aD K rfl hu) (Z.v 0) Z.int) Z.nil)) Z.nil))) Z.nil)))
   (Z.aq (Z.fQ Nd rfl (xh K rfl rfl T.rP (Z.cons (Z.LQ K rfl rfl wT P3 (Z.ix (Z.aD K rfl hu) (Z.v 0) Z.int)) (Z.cons (Z.slice (Z.pL K rfl) (Z.v 0) (Z.nG Z.int) Z.nI) Z.nil))) (Z.kP (n:=2) K rfl rfl (Z.bq (Z.aA (i:=2) cI.nd rfl (by right)) (Z.bq (Z.aA (i:=3) cI.nd rfl (by right)) Z.gR))) (Z.ay (Z.dz (Z.aK aY (Z.v 2) Z.str) (Z.ay (Z.expr (Z.app K (Z.v 1) (Z.cons (Z.tup (Z.cons (Z.glob rfl ad4 ad0) (Z.cons (Z.bm K rfl PySem.F.plainAttrs_tuple PySem.F.slot_tuple_index PySem.F.type_tuple_index (Ih (X:=_)) (Z.glob rfl wP R0) (Z.cons (Z.v 3) Z.nil)) Z.nil))) Z.nil)))) (Z.ay (Z.dz (Z.aK aY (Z.v 2) Z.str) (Z.ay (Z.expr (Z.app K (Z.v 1) (Z.cons (Z.tup (Z.cons (Z.glob rfl aa8 aa5) (Z.cons (Z.Lv K rfl PySem.F.plainAttrs_int PySem.F.slot_int_bit_length PySem.F.type_int_bit_length Y.qy (Z.v 3)) Z.nil))) Z.nil)))) Z.bp)))))
   (Z.ay (Z.ret (Z.v 1))))),?_⟩
 have a0:bQ r.vs 0=some (.str r.wd):=by cases r<;>rfl
 symm;exists a8 hra,a0;refine⟨dS,rfl,P3,by decide,λl hl=>?_⟩
 obtain⟨k1,s1⟩:=bS hl (.lst (lE.map λp=>V.str p.1));generalize upd H l _=H1 at *;refine⟨.inl ⟨rfl,_,aT.of s1⟩,?_⟩;have hra1:=k1.n hra;exists a8 hra1,a0;refine⟨l,eH,r.wd,r.wi,rfl,s1,rfl,(vG r).1,(vG r).2,⟨by decide,λp1 hp1=>⟨by decide,λD hD=>?_⟩⟩⟩
 obtain⟨kp1,sp1⟩:=bS hp1 (.tup [.int 0,.int (r.wi:Nat)]);generalize upd H1 p1 _=H2 at *;obtain⟨kD,sD⟩:=bS hD (.lst [.ref p1]);generalize upd H2 D _=H3 at *;have hDH:H D=none:=(k1.trans kp1).free (by simp) hD
 have th3:CH H3 [p1] [(0,r.wi)]:=⟨rfl,λj q x e1 e2=>by
  have hj:j<1:=(Mw.mp e1).1;obtain rfl:j=0:=by lia
  cases e1;cases e2
  exact kD.n sp1⟩
 have k03:=(k1.trans kp1).trans kD;subst hN;clear sp1 hp1 s1 hl hD hra1;symm;have hra3:=k03.n hra;exists jr,a8 hra3,a0;refine⟨_,_,rfl,yo r,λpk kt=>?_⟩;rw[Row.Gb] at hra3;refine Ll hra3 λtl htl=>?_;obtain⟨kt3,st3⟩:=bS htl (.tup (r.eR.map Pk.v));generalize upd H3 tl _=H4 at *;have k04:=k03.trans kt3;have ktq:∀G:Hp,aW K G pk ((r.eR.map Pk.kd).map V.str):=λG=>.inr kt;refine⟨(false,pk),(false,tl),⟨rfl,rfl⟩,⟨_,ktq _⟩,⟨_,aW.of st3⟩,λn=>?_⟩;refine oV (xs:=(r.eR.map Pk.kd).map V.str) (ys:=r.eR.map Pk.v) (by rw[Ms,Ms,Ms]) (λi σ H'=>∃(ps:List Addr) (o2 o3:Option V),i<=r.eR.length/\KB [] H H'/\H' tl=some (.tup (r.eR.map Pk.v))/\H' D=some (.lst (ps.map V.ref))/\CH H' ps ((0,r.wi)::(r.eR.take i).flatMap Pk.BN)/\σ=[some (.ref ra),some (.ref D),o2,o3]) ⟨[p1],none,none,MG _,k04,st3,kt3.n sD,th3.keep kt3 (NT.nil _),rfl⟩ (λi σ H' h=>by obtain⟨_,_,_,_,_,h1,_⟩:=h;exact⟨ktq _,aW.of h1⟩) ?_ ?_
 ·rintro i x y σ H' z hx hy ⟨ps,o2,o3,hi,hk,h1,h2,h3,rfl⟩ hz;have hlt:i<r.eR.length:=by have:=(Mw.mp hy).1;rw[Ms] at this;exact this
  have ep:=Mt hlt;have pok:=Row.uy aH _ (MQ hlt);have et:(r.eR.take (i+1)).flatMap Pk.BN=(r.eR.take i).flatMap Pk.BN++(r.eR[i]).BN:=by rw[Ni,ep,List.flatMap_append];simp
  rw[M7,M7,ep] at hx;rw[M7,ep] at hy;generalize r.eR[i]=pt at *
  cases hx;cases hy
  unfold aL;refine⟨z,_,rfl,aW.of aa,rfl,_,_,rfl,_,_,rfl,rfl,?_⟩;have kz:=KB.new (ex:=[]) (o:=.tup [.str pt.kd,pt.v]) hz;generalize upd H' z (.tup [.str pt.kd,pt.v])=H5 at *;have hk5:=hk.trans kz;have h15:=kz.n h1;have h25:=kz.n h2;have h35:=h3.keep kz (NT.nil _);dsimp only;refine nV λM hM=>?_;have psl:ps.length<=4:=by
   have e:=h3.1;rw[e];have c:=pQ r;unfold eA at c;rw[MJ] at c ⊢;have:((r.eR.take i).flatMap Pk.BN).length<=(r.eR.flatMap Pk.BN).length:=by
    rw[<- Pb i r.eR,List.flatMap_append,Mx,Pb];exact Nat.le_add_right _ _
   lia
  have fin:∀(u v:Nat) (G:Hp) (t:Addr),pt.BN=[(u,v)]->KB [] H5 G->G t=none->M [some (.ref ra),some (.ref D),some (.str pt.kd),some pt.v] (upd (upd G t (.tup [.int (u:Nat),.int (v:Nat)])) D (.lst (ps.map V.ref++[.ref t]))):=λu v G t ec kG ht=>by
   rw[hM];obtain⟨kt',st'⟩:=bS ht (.tup [.int (u:Nat),.int (v:Nat)]);generalize upd G t _=G2 at *;have k52:=kG.trans kt';have hD2:=k52.n h25;have nt:=EY hD2;refine⟨ps++[t],_,_,hlt,λb o e _=>by rw[af (ae e hDH)];exact k52.n (hk5.n e),by rw[af (λz=>by rw[z] at h15;rw[h25] at h15;cases h15)];exact k52.n h15,by rw[aa,MI];rfl,?_,rfl⟩
   rw[et,ec,<- NL];exact ((h35.keep k52 (NT.nil _)).snoc (q:=t) (x:=(u,v)) st').keep (KB.set (ex:=[D]) (by simp)) nt
  cases pt with
  |box b =>
   obtain⟨e1,e2⟩:=GH (b:=b) pok;nofun;rw[MD (show (Pk.box b).kd=Str.ofString "box" from rfl)];refine⟨.inl ⟨rfl,_,aT.of h25⟩,tyB _,aB,Kf,bD b,b,rfl,sB _,rfl,e1,e2,by decide,λt ht=>?_⟩
   have h26:upd H5 t (.tup [.int 2,.int (b:Nat)]) D=some (.lst (ps.map V.ref)):=by rw[af (ae h25 ht)];exact h25
   exact⟨D,_,_,rfl,rfl,h26,N3 (show _<=10 by rw[Ms];lia) ⋯,fin 2 b H5 t rfl (KB.refl _ _) ht⟩
  |num n =>
   nofun;rw[M4 (show ¬ (Pk.num n).kd=Str.ofString "box" from (by decide +kernel:¬ Str.ofString "number"=Str.ofString "box")),MD (show (Pk.num n).kd=Str.ofString "number" from rfl)]
   refine⟨.inl ⟨rfl,_,aT.of h25⟩,rfl,(n:Int),rfl,rfl,by decide,λt ht=>?_⟩
   have h26:upd H5 t (.tup [.int 1,.int (dm n:Nat)]) D=some (.lst (ps.map V.ref)):=by rw[af (ae h25 ht)];exact h25
   exact⟨D,_,_,rfl,rfl,h26,N3 (show _<=10 by rw[Ms];lia) ⋯,fin 1 (dm n) H5 t rfl (KB.refl _ _) ht⟩
  |goal g =>
   nofun;rw[M4 (show ¬ (Pk.goal g).kd=Str.ofString "box" from (by decide +kernel:¬ Str.ofString "goal"=Str.ofString "box")),M4 (show ¬ (Pk.goal g).kd=Str.ofString "number" from (by decide +kernel:¬ Str.ofString "goal"=Str.ofString "number"))]
   rw[hM];exact⟨ps,_,_,hlt,hk5,h15,h25,by rw[et];show CH H5 ps ((0,r.wi)::((r.eR.take i).flatMap Pk.BN++[]));rw[Nm];exact h35,rfl⟩
 ·rintro σ H' ⟨ps,o2,o3,hi,hk,h1,h2,h3,rfl⟩;show N _ _;subst hN;nofun;refine q D ps H' hDH hk h2 ?_;rw[Ms,Ms,Na] at h3;exact h3
def sy(hn:xs.length<=sizeLine)(Pv:Addr->Nat->List V->Hp->Prop)(h0:∀D,H D=none->Pv D 0 [] (upd H D (.lst [])))(hD:∀D i ys H',Pv D i ys H'->H' D=some (.lst ys)/\ys.length=i)
  (hl:∀D i ys H',Pv D i ys H'->aT K H' a xs)
  (hs:∀D i ys H' x,xs[i]?=some x->Pv D i ys H'->∃q u v,x=.ref q/\H' q=some (.tup [u,v])/\∀R:VK,(∀v H5,H5 D=some (.lst ys)->Pv D (i+1) (ys++[v]) (upd H5 D (.lst (ys++[v])))->R v H5)->te (some u::some v::σ) H' R) (hd:∀D ys H',Pv D xs.length ys H'->Q (.ref D) H') :
  ib (tQ K a) 2 (nW K 2 (e8 (aL 0) (e8 (aL 1) nY))) dP te Q σ H:=by
 intro D hD0;refine⟨λi m ys σ' H'=>m=xs.length-i/\i<=xs.length/\Pv D i ys H'/\∃o1 o2,σ'=o1::o2::σ,⟨xs.length,by simp,MG _,h0 D hD0,none,none,rfl⟩,?_⟩
 rintro i m ys σ' H' ⟨rfl,hi,p,o1,o2,rfl⟩;obtain⟨hDi,hly⟩:=hD _ _ _ _ p;have q:=hl _ _ _ _ p;refine⟨hDi,?_⟩;by_cases hlt:i<xs.length
 ·refine .inr ⟨⟨xs,xs[i],q,by simp[hlt]⟩,by lia,λx H2 y=>?_⟩
  obtain⟨rfl,y⟩:=y;obtain⟨t,u,v,rfl,ht,h⟩:=hs D i ys H2 x (y xs q) p;refine⟨t,[u,v],rfl,aW.of ht,rfl,u,[v],rfl,v,[],rfl,rfl,?_⟩;unfold dP;dsimp only;rw[if_pos rfl];exact h _ λv H5 q1 q2=>⟨q1,xs.length-(i+1),by lia,rfl,hlt,q2,_,_,rfl⟩
 ·have e:i=xs.length:=by lia
  subst e;exact .inl ⟨⟨xs,q,M8 _⟩,hd D ys H' p⟩
def wO(K:W.Frag):Sp:=λvs H Q _=>∃(ra ca:Addr) (r:Row) (k:Nat) (cd:List (List (List Nat))),vs=[.ref ra,.ref ca]/\H ra=some (.tup r.vs)/\r.Ok k/\Eo H ca cd/\Cd cd/\∀H',KB [] H H'->Q (.str (wd (b8 cd r))) H'
def zL(T:Txt K mg)(F:HasFn K mg "bits_ahead_of_goal" bG ["row","codes"])(aa9:ao P w K mg base aF 1 "coded_things" ["row"] rY)(T7:ao P w K mg base aF 2 "figures_behind_first" ["number"] oH):ao P w K mg base aF 3 "bits_ahead_of_goal" ["row","codes"] (wO K):=by
 refine F.dH d6 (by ac_rfl) ?_
 left
 obtain⟨ra,ca,r,k,cd,rfl,hra,aH,kB,hC,q⟩:=h;refine⟨_,(Z.aq (Z.se (i:=2) d6.nd (Z.bm K rfl PySem.F.plainAttrs_str PySem.F.slot_str_join PySem.F.type_str_join (Z.iO K rfl) Z.str (Z.cons (Z.mT (osc:=ab bG) (ON:=["row","codes","bits"]) (own:=["which","thing"]) (N:=["which","thing","row","codes","bits"]) (az.of rfl ∅) (Z.any K rfl (Z.fc aa9 (Z.cons (Z.v 0) Z.nil))) (λnd _ _ _ _=>(Z.kP (n:=2) K rfl rfl (Z.bq (Z.aA (i:=0) nd rfl (by right)) (Z.bq (Z.aA (i:=1) nd rfl (by right)) Z.gR)))) (λ_ _ _ _=>Z.je) (λ_ _ _ _=>(Z.ix (Z.aD K rfl hu) (Z.ix (Z.aD K rfl hu) (Z.v 3) (Z.v 0)) (Z.v 1)))) Z.nil)))
   (Z.ay (Z.ret (Z.Ag (Z.aK aY (Z.ix (Z.aD K rfl hu) (Z.v 0) Z.int) Z.str) (Z.op (Z.aI K rfl) (Z.v 2) (Z.fc T7 (Z.cons (Z.ix (Z.aD K rfl hu) (Z.v 0) (Z.un cB Z.int)) Z.nil))) (Z.v 2))))),?_⟩
 have a0:bQ r.vs 0=some (.str r.wd):=by cases r<;>rfl
 symm;nofun;refine⟨rfl,ra,r,k,rfl,hra,aH,λD ps H1 hD k1 hD1 th=>?_⟩;exists au hD1;have hcd1:Eo H1 ca cd:=kB.keep k1 (by simp) (λb hb=>nomatch hb)
 have thl:=th.1;have cl:=pQ r;refine sy (xs:=ps.map V.ref) (Mz (show _<=3 by rw[Ms];lia) ⋯) (λL i ys H'=>H1 L=none/\H' L=some (.lst ys)/\KB [] H1 H'/\i<=(eA r).length/\ys=(((eA r).take i).map λp=>wd (fS cd p)).map V.str) (λL hL=>⟨hL,aa,KB.new hL,MG _,rfl⟩) (λL i ys H' h=>⟨h.2.1,by rw[h.2.2.2.2,Ms,Ms,MB];have:=h.2.2.2.1;lia⟩) (λL i ys H' h=>aT.of (h.2.2.1 _ _ hD1 (by simp))) ?_ ?_
 ·rintro L i ys H' x hx ⟨g0,g1,gk,hi,rfl⟩;obtain⟨c,ec,rfl⟩:∃c,ps[i]?=some c/\x=.ref c:=by
   rw[M7] at hx;obtain⟨c,e,rfl⟩:=MT.mp hx;exact⟨c,e,rfl⟩
  have hlt:i<(eA r).length:=by have:=(Mw.mp ec).1;lia
  have er:=Mt hlt;have et:(eA r).take (i+1)=(eA r).take i++[(eA r)[i]]:=by rw[Ni,er];rfl
  have hc:=gk.n (th.2 i c _ ec er);have ck:=zr aH _ (MQ hlt);generalize (eA r)[i]=pr at *;refine⟨c,_,_,rfl,hc,λR kk=>?_⟩;have g:=hC.at ck;obtain⟨a0',a1',a2',y1,y2,y3,y4⟩:=hcd1;have y1':=gk.n y1;obtain⟨ai,e1,e2⟩:∃ai,bQ [V.ref a0',.ref a1',.ref a2'] (pr.1:Int)=some (.ref ai)/\H' ai=some (.tup (wV (cd.getD pr.1 []))):=by
   rcases ck with ⟨h,_⟩|⟨h,_⟩|⟨h,_⟩<;>rw[h]
   ·exact⟨a0',rfl,gk.n y2⟩
   ·exact⟨a1',rfl,gk.n y3⟩
   ·exact⟨a2',rfl,gk.n y4⟩
  have e3:bQ (wV (cd.getD pr.1 [])) (pr.2:Int)=some (.str (wd (fS cd pr))):=aV (by unfold wV;rw[M7,g.2.1];rfl)
  exists au y1',e1,a8 e2,e3;exact kk _ _ g1 ⟨g0,aa,λu o e _=>by rw[af (ae e g0)];exact gk.n e,hlt,by rw[et,MI,MI];rfl⟩
 rintro L ys H2 ⟨_,gL,k2,_,rfl⟩;rw[Ms,thl,Na] at gL;have k02:=k1.trans k2;have hl:=qS hC aH;have e1:((eA r).map λp=>wd (fS cd p))=((eA r).map (fS cd)).map wd:=by rw[NI];rfl
 have e2:(((eA r).map λp=>wd (fS cd p)).map λx=>x.length).sum=((eA r).flatMap (fS cd)).length:=by
  rw[List.length_flatMap,NI];rfl
 refine⟨_,L,_,rfl,rfl,aT.of gL,?_,?_⟩
 ·rw[e2,show (Str.ofString "").length=0 from by decide +kernel];lia
 rw[e1,qI,<- List.flatMap_def];subst hN;have hra2:=k02.n hra;exists a8 hra2,a0;have hh:b8 cd r=(eA r).flatMap (fS cd)++oT r:=rfl;have qq:=q H2 k02;rw[hh] at qq;generalize (eA r).flatMap (fS cd)=y at *;by_cases hp:r.wd=Str.ofString "put"
 ·obtain⟨b,n,rfl⟩:∃b n,r=.put b n:=by
   cases r with
   |put b n=>exact⟨b,n,rfl⟩
   |two u b c=>exact absurd hp ((by decide +kernel:∀u,¬ w2 u=Str.ofString "put") u)
   |one u b=>exact absurd hp ((by decide +kernel:∀u,¬ w1 u=Str.ofString "put") u)
   |jump g=>exact absurd hp (show ¬ Str.ofString "jump"=Str.ofString "put" from by decide +kernel)
   |zero b g=>exact absurd hp (show ¬ Str.ofString "zero"=Str.ofString "put" from by decide +kernel)
   |halt=>exact absurd hp (show ¬ Str.ofString "halt"=Str.ofString "put" from by decide +kernel)
  rw[MD hp];refine⟨n,rfl,aH.2,?_⟩;nofun;rw[dM,bu,bu];exact⟨Mz (show _<=200 by have:=hl.2;show y.length+(oT (.put b n)).length<=200;lia) ⋯,qq⟩
 ·rw[M4 hp];have et:oT r=[]:=by cases r<;>first|rfl|exact absurd rfl hp
  rw[et,Nm] at qq;exact qq
def uV(ss:List Nat)(gs:List (Option Nat)):Nat->List Nat->List Nat
 |0,ws=>ws
 |m+1,ws=>match dI ss gs ws with
  |none=>ws
  |some k=>uV ss gs m (ws.set k (ws.getD k 0+1))
def yU(ss:List Nat)(gs:List (Option Nat)):List Nat:=uV ss gs (2*ss.length+1) (List.replicate ss.length 0)
def Ha{gs:List (Option Nat)}{ws:List Nat}(hs:∀s∈ss,s<=150)(hn:ss.length<=64)(t k:Nat):kX 2 (cf (dy 0 ss gs ws) t k)=true:=by
 have h3:=wF (gs:=gs) (ws:=ws) hs t;have h4:=wF (gs:=gs) (ws:=ws) hs (k+1);unfold kX cf;rw[Nq (show -eY 2<=_ by show -32768<=_;lia),Nq (show _<eY 2 by show _<32768;lia)]
 rfl
def lR(hs:∀s∈ss,s<=150)(hn:ss.length<=64)(hl:ws.length=ss.length)(hg:gs.length=ss.length)(hw:∀w∈ws,w<3)(h:dI ss gs ws=some k):∃t w,gs[k]?=some (some t)/\ws[k]?=some w/\w<2:=by
 have h1:=List.find?_some h;have h2:=List.mem_of_find?_eq_some h;unfold kO at h1;have hk:k<gs.length:=by have:=List.mem_range'.mp h2;obtain⟨i,hi,e⟩:=this;lia
 have eg:=Mt hk;have ew:=Mt (show k<ws.length by lia)
 have lw:=hw _ (MQ (show k<ws.length by lia))
 rw[eg,ew] at h1;generalize gs[k]'_=g at *;generalize ws[k]'_=w at *
 cases g with
 |none=>cases h1
 |some t =>
  refine⟨t,w,eg,ew,?_⟩;rcases Nt w 2 with c|c
  ·exact c
  ·have:w=2:=by lia
   subst this
   replace h1:(!kX 2 (cf (dy 0 ss gs ws) t k))=true:=h1
   rw[Ha hs hn t k] at h1;cases h1
def vt(h:dI ss gs ws=none):qw ss gs ws:=λk t w h1 h2=>by
 have hk:k<gs.length:=(Mw.mp h1).1;have:=List.find?_eq_none.mp h k (List.mem_range'.mpr ⟨k,hk,by lia⟩)
 unfold kO at this;rw[h1,h2] at this
 simpa using this
def Fe{w:Nat}(h:l[k]?=some w):(l.set k (l.getD k 0+1)).sum=l.sum+1:=by
 induction l generalizing k with
 |nil=>cases h
 |cons x l ih =>
  cases k with
  |zero=>show ((x+1)::l).sum=_;rw[NF,NF];lia
  |succ k=>show (x::l.set k (l.getD k 0+1)).sum=_;rw[NF,NF,ih (by simpa using h)];lia
def Hv{v:Nat}(h:gs[k]?=some (some t)):(j8 gs ws).set k (.int (v:Nat))=j8 gs (ws.set k v):=by
 induction gs generalizing ws k with
 |nil=>cases h
 |cons g gs ih =>
  cases ws with
  |nil=>rfl
  |cons w ws =>
   cases k with
   |zero=>cases h;rfl
   |succ k=>show xB g w::(j8 gs ws).set k _=xB g w::j8 gs (ws.set k v);rw[ih (by simpa using h)]
structure Wy (ss:List Nat) (gs:List (Option Nat)) (ws:List Nat):Prop where
 len:ws.length=ss.length
 lt:∀w∈ws,w<3
 to:uV ss gs (2*ss.length+1-ws.sum) ws=yU ss gs
def Wy.zero(ss:List Nat)(gs:List (Option Nat)):Wy ss gs (List.replicate ss.length 0):=⟨MO ..,λw hw=>by rw[(NV.mp hw).2];decide,by rw[P9,RT];rfl⟩
def Wy.next(h:Wy ss gs ws)(hs:∀s∈ss,s<=150)(hn:ss.length<=64)(hg:gs.length=ss.length)(hf:dI ss gs ws=some k):Wy ss gs (ws.set k (ws.getD k 0+1))/\(ws.set k (ws.getD k 0+1)).sum=ws.sum+1/\ws.sum<2*ss.length:=by
 obtain⟨t,w,e1,e2,e3⟩:=lR hs hn h.len hg h.lt hf;have es:=Fe e2;have eg:ws.getD k 0=w:=by rw[M9,e2];rfl
 have hlt:∀x∈ws.set k (ws.getD k 0+1),x<3:=λx hx=>by
  rcases O8 hx with z|z
  ·exact h.lt x z
  ·rw[z,eg];lia
 have hb:=jh hlt;rw[Oa,h.len,es] at hb;refine⟨⟨by rw[Oa,h.len],hlt,?_⟩,es,by lia⟩
 rw[es,<- h.to,show 2*ss.length+1-ws.sum=(2*ss.length+1-(ws.sum+1))+1 by lia,uV,hf]
def Wy.done(h:Wy ss gs ws)(hf:dI ss gs ws=none):yU ss gs=ws:=by
 rw[<- h.to];have hb:=jh h.lt;rw[h.len] at hb;rw[show 2*ss.length+1-ws.sum=(2*ss.length-ws.sum)+1 by lia,uV,hf]
theorem Wy.fit(hs:∀s∈ss,s<=150)(hn:ss.length<=64)(hg:gs.length=ss.length):∀(m:Nat) (ws:List Nat),Wy ss gs ws->2*ss.length+1-ws.sum<=m->Wy ss gs (yU ss gs)/\qw ss gs (yU ss gs)
 |0,ws,h,hm=>by
  have hb:=jh h.lt;rw[h.len] at hb;lia
 |m+1,ws,h,hm=>by
  cases hf:dI ss gs ws with
  |none=>rw[h.done hf];exact⟨h,vt hf⟩
  |some k =>
   obtain⟨h1,h2,h3⟩:=h.next hs hn hg hf;exact Wy.fit hs hn hg m _ h1 (by lia)
def zp(hs:∀s∈ss,s<=150)(hn:ss.length<=64)(hg:gs.length=ss.length):(yU ss gs).length=ss.length/\(∀w∈yU ss gs,w<3)/\qw ss gs (yU ss gs):=by
 obtain⟨h1,h2⟩:=Wy.fit hs hn hg _ _ (Wy.zero ss gs) (M8 _);exact⟨h1.len,h1.lt,h2⟩
def r9(K:W.Frag):Sp:=λvs H Q _=>∃(a b:Addr) (ss:List Nat) (gs:List (Option Nat)),vs=[.ref a,.ref b]/\H a=some (.lst (iV (nZ ss)))/\H b=some (.lst (gs.map aJ))/\gs.length=ss.length/\ss.length<=64/\(∀s∈ss,s<=150)/\(∀t,some t∈gs->t<=ss.length)/\∀t u v H',KB [] H H'->H' t=some (.tup [.ref u,v])->H' u=some (.tup (j8 gs (yU ss gs)))->Q (.ref t) H'
def xW(T:Txt K mg)(F:HasFn K mg "raised_till_good" cS ["sizes","goals"])(hnarrowest:ao P w K mg base aF 1 "narrowest" ["goals"] rB)(S4:ao P w K mg base aF 3 "first_too_narrow" ["sizes","goals","widths"] (xm K)):ao P w K mg base aF 4 "raised_till_good" ["sizes","goals"] (r9 K):=by
 obtain⟨uW,ag8,ag4⟩:=T.B4;refine F.dH bt (by ac_rfl) ?_
 left
 obtain⟨a,b,ss,gs,rfl,ha,hb,hg,hn,hs,ht,q⟩:=h;refine⟨_,(Z.aq (Z.se (i:=2) bt.nd (Z.fc hnarrowest (Z.cons (Z.v 1) Z.nil)))
   (Z.aq (Z.se (i:=3) bt.nd (Z.lst Z.nil))
   (Z.aq (Z.se (i:=4) bt.nd (Z.fc S4 (Z.cons (Z.v 0) (Z.cons (Z.v 1) (Z.cons (Z.v 2) Z.nil)))))
   (Z.aq (Z.uO Nd (Z.aK f_ (Z.v 4) Z.aN) (Z.aq (Z.dz (Z.aK aY (Z.ix (Z.aD K rfl hu) (Z.v 2) (Z.v 4)) (Z.glob rfl ag8 ag4)) (Z.ay Z.vL) Z.bp)
   (Z.aq (Z.asg (Z.op (Z.aI K rfl) (Z.ix (Z.aD K rfl hu) (Z.v 2) (Z.v 4)) Z.int) (Z.nK (Z.v 2) (Z.v 4)))
   (Z.aq (Z.expr (Z.app K (Z.v 3) (Z.cons (Z.v 4) Z.nil)))
   (Z.ay (Z.se (i:=4) bt.nd (Z.fc S4 (Z.cons (Z.v 0) (Z.cons (Z.v 1) (Z.cons (Z.v 2) Z.nil))))))))))
   (Z.ay (Z.ret (Z.tup (Z.cons (Z.ct (Z.c7 K rfl) rfl T.cy ∅ (Z.cons (Z.v 2) Z.nil)) (Z.cons (Z.ct (Z.c7 K rfl) rfl T.cy ∅ (Z.cons (Z.v 3) Z.nil)) Z.nil))))))))),?_⟩
 symm;nofun;refine⟨b,gs,rfl,hb,by lia,λd H1 hd k1 g1=>?_⟩
 rw[hg] at g1;subst hN;symm;nofun;refine⟨MG _,λpp hpp=>?_⟩;obtain⟨k2,s2⟩:=bS hpp (.lst []);generalize upd H1 pp _=H2 at *;have g2:=k2.n g1;have k02:=k1.trans k2;have hppH:H pp=none:=k1.free (by simp) hpp
 have dpp:d≠pp:=λz=>by rw[z,hpp] at g1;cases g1
 subst hN;symm;nofun;have wy0:=Wy.zero ss gs;refine⟨a,b,d,ss,gs,_,rfl,k02.n ha,k02.n hb,g2,hg,wy0.len,hn,ht,wy0.lt,λH3 k3=>?_⟩;subst hN;have k03:=k02.trans k3;have g3:=k3.n g2;have s3:=k3.n s2;symm;refine⟨λm σ H'=>∃(ws pa:List Nat),m=2*ss.length-ws.sum/\Wy ss gs ws/\pa.length=ws.sum/\KB [] H H'/\H' d=some (.lst (j8 gs ws))/\H' pp=some (.lst (iV (nZ pa)))/\σ=[some (.ref a),some (.ref b),some (.ref d),some (.ref pp),some (ER (dI ss gs ws))],⟨2*ss.length,_,[],by rw[P9,RT];rfl,wy0,by rw[P9,RT];rfl,k03,g3,s3,rfl⟩,?_⟩
 rintro m σ H' ⟨ws,pa,rfl,wy,hpa,hk,gd,gp,rfl⟩;nofun
 cases hf:dI ss gs ws with
 |none =>
  rw[M4 (show ¬ ¬ ER none=V.aN from λz=>z rfl)];show N _ _;subst hN;rw[wy.done hf] at q;exists au gd;intro u hu';obtain⟨k5,s5⟩:=bS hu' (.tup (j8 gs ws));have gp5:=k5.n gp;generalize upd H' u _=H5 at *;exists au gp5;intro u2 hu2;have k6:=KB.new (ex:=[]) (o:=.tup (iV (nZ pa))) hu2;have s6:=k6.n s5;generalize upd H5 u2 (.tup (iV (nZ pa)))=H6 at *;refine⟨by decide,λt ht=>?_⟩
  have k7:=KB.new (ex:=[]) (o:=.tup [.ref u,.ref u2]) ht;exact q t u _ _ (hk.trans (k5.trans (k6.trans k7))) aa (k7.n s6)
 |some k =>
  rw[MD (show ¬ ER (some k)=V.aN from λz=>nomatch z)];obtain⟨t,w0,e1,e2,e3⟩:=lR hs hn wy.len hg wy.lt hf;obtain⟨wn,ws1,ws2⟩:=wy.next hs hn hg hf;refine⟨λσ' H'=>∃m',m'<2*ss.length-ws.sum/\∃(ws pa:List Nat),m'=2*ss.length-ws.sum/\Wy ss gs ws/\pa.length=ws.sum/\KB [] H H'/\H' d=some (.lst (j8 gs ws))/\H' pp=some (.lst (iV (nZ pa)))/\σ'=[some (.ref a),some (.ref b),some (.ref d),some (.ref pp),some (ER (dI ss gs ws))],λ_ _ h=>h,?_⟩;have aw:bQ (j8 gs ws) (k:Int)=some (.int (w0:Nat)):=aV (qf e1 e2);have eg:ws.getD k 0=w0:=by rw[M9,e2];rfl
  rw[eg] at wn ws1;show Fj K (V.ref d) (.int (k:Nat)) H' _;exists au gd,aw;have c2:¬ (w0:Int)=2:=by lia
  have c3:jE (j8 gs ws).length (k:Int)=some k:=by
   have hkl:=(Mw.mp e2).1;have:=wy.len;rw[Aj (by lia)]
   unfold jE;rw[MD (by lia),MD (by lia),MY]
  rw[M4 c2];show Fj K (V.ref d) (.int (k:Nat)) H' _;exists au gd,aw;show zA (V.ref d) (.int (k:Nat)) (.int ((w0:Int)+1)) H' _;exists gd,c3;rw[show ((w0:Int)+1)=((w0+1:Nat):Int) from rfl,Hv e1];have hdd:H d=none:=hd;have kd:KB [] H (upd H' d (.lst (j8 gs (ws.set k (w0+1))))):=λu o e z=>by rw[af (ae e hdd)];exact hk _ _ e z
  have gd5:upd H' d (.lst (j8 gs (ws.set k (w0+1)))) d=_:=aa;have gp5:upd H' d (.lst (j8 gs (ws.set k (w0+1)))) pp=some (.lst (iV (nZ pa))):=by rw[af dpp.symm];exact gp
  generalize upd H' d (.lst (j8 gs (ws.set k (w0+1))))=H5 at *;refine⟨.inl ⟨rfl,_,aT.of gp5⟩,pp,_,_,rfl,rfl,gp5,N3 (show _<=1000 by rw[gc,hpa];lia) ⋯,?_⟩
  have kp:KB [] H (upd H5 pp (.lst (iV (nZ pa)++[ER (some k)]))):=λu o e z=>by rw[af (ae e hppH)];exact kd _ _ e z
  have gd6:upd H5 pp (.lst (iV (nZ pa)++[ER (some k)])) d=some (.lst (j8 gs (ws.set k (w0+1)))):=by rw[af dpp];exact gd5
  have gp6:upd H5 pp (.lst (iV (nZ pa)++[ER (some k)])) pp=some (.lst (iV (nZ (pa++[k])))):=by rw[aa];unfold nZ;rw[MI,pG];rfl
  generalize upd H5 pp (.lst (iV (nZ pa)++[ER (some k)]))=H6 at *;refine⟨a,b,d,ss,gs,_,rfl,kp.n ha,kp.n hb,gd6,hg,wn.len,hn,ht,wn.lt,λH7 k7=>?_⟩;exact⟨2*ss.length-(ws.sum+1),by lia,ws.set k (w0+1),pa++[k],by rw[ws1],wn,by rw[Mx,ws1,hpa];rfl,kp.trans k7,k7.n gd6,k7.n gp6,rfl⟩
def rC(K:W.Frag):Sp:=λvs H Q _=>∃(a b:Addr) (ss:List Nat) (gs:List (Option Nat)),vs=[.ref a,.ref b]/\H a=some (.lst (iV (nZ ss)))/\H b=some (.lst (gs.map aJ))/\gs.length=ss.length/\ss.length<=64/\(∀s∈ss,s<=150)/\(∀t,some t∈gs->t<=ss.length)/\∀u H',KB [] H H'->H' u=some (.tup (j8 gs (yU ss gs)))->Q (.ref u) H'
def x_(T:Txt K mg)(F:HasFn K mg "least_widths" d_ ["sizes","goals"])(W1:ao P w K mg base aF 4 "raised_till_good" ["sizes","goals"] (r9 K)):ao P w K mg base aF 5 "least_widths" ["sizes","goals"] (rC K):=by
 refine F.dH kT (by ac_rfl) ?_
 left
 obtain⟨a,b,ss,gs,rfl,ha,hb,hg,hn,hs,ht,q⟩:=h;refine⟨_,(Z.ay (Z.ret (Z.ix (Z.aD K rfl hu) (Z.fc W1 (Z.cons (Z.v 0) (Z.cons (Z.v 1) Z.nil))) Z.int))),?_⟩;nofun;refine⟨a,b,ss,gs,rfl,ha,hb,hg,hn,hs,ht,λt u v H' k h1 h2=>?_⟩;exists a8 h1,uK;exact q u H' k h2
def y_(cd:List (List (List Nat)))(rs:List Row):List V:=rs.map λr=>.str (wd (b8 cd r))
def GQ(r:Row):r.vs=(r.m (((a7 r).getD 0:Nat):Int)).vs:=by cases r<;>rfl
def vx(r:Row):qF (r.m (((a7 r).getD 0:Nat):Int))=aJ (a7 r):=by cases r<;>rfl
def nL(bk:List (List Int))(rs:List Row):List Nat:=yU (eW (d5 bk) rs) (rs.map a7)
def hW(bk:List (List Int))(rs:List Row):List Nat:=dy 0 (eW (d5 bk) rs) (rs.map a7) (nL bk rs)
def dO(bk:List (List Int))(rs:List Row):List Nat:=tM (d5 bk) (hW bk rs) 0 rs (nL bk rs)
def E2{bk:List (List Int)}{rs:List Row}(hB:Bk bk)(h2:rs.length<=64)(h3:∀r∈rs,r.Ok rs.length):Laid (d5 bk) rs (nL bk rs) (hW bk rs) (dO bk rs):=by
 have sl:(eW (d5 bk) rs).length=rs.length:=Ms ..;have gl:(rs.map a7).length=rs.length:=Ms ..;obtain⟨l1,l2,l3⟩:=zp (ss:=eW (d5 bk) rs) (gs:=rs.map a7) (λs hs=>by
  obtain⟨r,hr,rfl⟩:=Nc.mp hs;have:=dh hB.cd (h3 r hr)
  lia) (by rw[sl];exact h2) (by rw[gl,sl])
 exact⟨(Cr hB).1,by unfold nL;rw[l1,sl],h2,h3,l2,rfl,l3,rfl⟩
def p9(xs:List V):cC xs none (some (-1))=xs.dropLast:=by
 unfold cC;rw[HT.bW,NH,OB,R9];congr 1;unfold HT.bH;simp only[show ((-1:Int)<0)=True from eq_true ⋯,OZ]
 lia
def pR:Sp:=λvs H Q _=>∃(a b:Addr) (bk:List (List Int)) (rs:List Row),vs=[.ref a,.ref b]/\kl H a rs/\yV H b bk/\Bk bk/\rs.length<=64/\(∀r∈rs,r.Ok rs.length)/\∀t u H',KB [] H H'->H' t=some (.tup [.str (wd (dO bk rs)),.ref u])->H' u=some (.tup (iV (nZ (hW bk rs)).dropLast))->Q (.ref t) H'
def Dx(T:Txt K mg)(F:HasFn K mg "pack_rows" cU ["program","book"])(ah0:ao P w K mg base aF 6 "codes_of" ["book"] (vK K))(V1:ao P w K mg base aF 3 "bits_ahead_of_goal" ["row","codes"] (wO K))(U3:ao P w K mg base aF 1 "goal_of" ["row"] lB)(aa6:ao P w K mg base aF 5 "least_widths" ["sizes","goals"] (rC K))(U1:ao P w K mg base aF 2 "row_starts" ["sizes","widths"] (mw K))(aa7:ao P w K mg base aF 2 "jump_written" ["width","distance"] wu)(T3:ao P w K mg base aF 1 "distance_of" ["starts","goals","row"] vz):ao P w K mg base aF 7 "pack_rows" ["program","book"] pR:=by
 refine F.dH bj (by ac_rfl) ?_
 left
 obtain⟨a,b,bk,rs,rfl,hp,hb,hB,h2,h3,q⟩:=h;have hC:=hB.cd;have L:=E2 hB h2 h3;unfold dO at q L;have ew:nL bk rs=yU (eW (d5 bk) rs) (rs.map a7):=rfl;have es:hW bk rs=dy 0 (eW (d5 bk) rs) (rs.map a7) (nL bk rs):=rfl;refine⟨_,(Z.aq (Z.se (i:=2) bj.nd (Z.fc ah0 (Z.cons (Z.v 1) Z.nil)))
   (Z.aq (Z.sec (j:=3) bj.nd (osc:=ab cU) (ON:=["program","book","codes","firsts","sizes","goals","widths","starts","bits","row","first"]) (own:=["row"]) (N:=["row","program","book","codes","firsts","sizes","goals","widths","starts","bits",".row","first"]) (az.of rfl ∅) (Z.any K rfl (Z.v 0)) (λnd _ _ _ _=>(Z.aA (i:=0) nd rfl (by right))) (λ_ _ _ _=>Z.je) (λ_ _ _ _=>(Z.fc V1 (Z.cons (Z.v 0) (Z.cons (Z.v 3) Z.nil)))))
   (Z.aq (Z.sec (j:=4) bj.nd (osc:=ab cU) (ON:=["program","book","codes","firsts","sizes","goals","widths","starts","bits","row","first"]) (own:=["first"]) (N:=["first","program","book","codes","firsts","sizes","goals","widths","starts","bits","row",".first"]) (az.of rfl ∅) (Z.any K rfl (Z.v 3)) (λnd _ _ _ _=>(Z.aA (i:=0) nd rfl (by right))) (λ_ _ _ _=>Z.je) (λ_ _ _ _=>(Z.cb (Z.bL K rfl) rfl T.bA ∅ (Z.cons (Z.v 0) Z.nil))))
   (Z.aq (Z.sec (j:=5) bj.nd (osc:=ab cU) (ON:=["program","book","codes","firsts","sizes","goals","widths","starts","bits","row","first"]) (own:=["row"]) (N:=["row","program","book","codes","firsts","sizes","goals","widths","starts","bits",".row","first"]) (az.of rfl ∅) (Z.any K rfl (Z.v 0)) (λnd _ _ _ _=>(Z.aA (i:=0) nd rfl (by right))) (λ_ _ _ _=>Z.je) (λ_ _ _ _=>(Z.fc U3 (Z.cons (Z.v 0) Z.nil))))
   (Z.aq (Z.se (i:=6) bj.nd (Z.fc aa6 (Z.cons (Z.v 4) (Z.cons (Z.v 5) Z.nil))))
   (Z.aq (Z.se (i:=7) bj.nd (Z.fc U1 (Z.cons (Z.v 4) (Z.cons (Z.v 6) Z.nil))))
   (Z.aq (Z.se (i:=8) bj.nd (Z.lst Z.nil))
   (Z.aq (Z.fQ Nd rfl (Z.Fu K rfl rfl T.hJ (Z.cons (Z.v 3) Z.nil)) (Z.kP (n:=2) K rfl rfl (Z.bq (Z.aA (i:=9) bj.nd rfl (by right)) (Z.bq (Z.aA (i:=10) bj.nd rfl (by right)) Z.gR))) (Z.aq (Z.expr (Z.app K (Z.v 8) (Z.cons (Z.v 10) Z.nil)))
   (Z.ay (Z.dz (Z.aK f_ (Z.ix (Z.aD K rfl hu) (Z.v 5) (Z.v 9)) Z.aN) (Z.ay (Z.expr (Z.app K (Z.v 8) (Z.cons (Z.fc aa7 (Z.cons (Z.ix (Z.aD K rfl hu) (Z.v 6) (Z.v 9)) (Z.cons (Z.fc T3 (Z.cons (Z.v 7) (Z.cons (Z.v 5) (Z.cons (Z.v 9) Z.nil)))) Z.nil))) Z.nil)))) Z.bp))))
   (Z.ay (Z.ret (Z.tup (Z.cons (Z.bm K rfl PySem.F.plainAttrs_str PySem.F.slot_str_join PySem.F.type_str_join (Z.iO K rfl) Z.str (Z.cons (Z.v 8) Z.nil)) (Z.cons (Z.ct (Z.c7 K rfl) rfl T.cy ∅ (Z.cons (Z.slice (Z.pL K rfl) (Z.v 7) Z.nI (Z.nG (Z.un cB Z.int))) Z.nil)) Z.nil))))))))))))),?_⟩
 symm;nofun;refine⟨b,bk,rfl,hb,hB,λca H1 hca k1 cdl=>?_⟩;subst hN;generalize d5 bk=cd at *;generalize nL bk rs=ws at *;generalize hW bk rs=sp at *;have hp1:=hp.kb k1;symm;obtain⟨ps,hps,hpa⟩:=hp1;have hpl:=hpa.1;exists a8 hps;refine aU (xs:=ps.map V.ref) (Mz (show _<=64 by rw[Ms];lia) ⋯) (λD i ys H'=>H1 D=none/\H' D=some (.lst ys)/\KB [] H1 H'/\ys=y_ cd (rs.take i)/\i<=rs.length) (λD hD=>⟨hD,aa,KB.new hD,rfl,MG _⟩) (λD i ys H' h=>⟨h.2.1,by rw[h.2.2.2.1,y_,Ms,MB];have:=h.2.2.2.2;lia⟩) (λD i ys H' h=>aW.of (h.2.2.1 _ _ hps (by simp))) ?_ ?_
 ·rintro D i ys H' x R hx ⟨g0,g1,gk,rfl,hi⟩ kk;obtain⟨u,eu,rfl⟩:∃u,ps[i]?=some u/\x=.ref u:=by
   rw[M7] at hx;obtain⟨u,e,rfl⟩:=MT.mp hx;exact⟨u,e,rfl⟩
  have hlt:i<rs.length:=by have:=(Mw.mp eu).1;lia
  have er:=Mt hlt;have et:rs.take (i+1)=rs.take i++[rs[i]]:=by rw[Ni,er];rfl
  nofun;refine⟨u,ca,rs[i],rs.length,cd,rfl,gk.n (hpa.2 i u _ eu er),h3 _ (MQ hlt),cdl.kb gk,hC,λH5 k5=>?_⟩;exact kk _ _ (k5.n g1) ⟨g0,aa,λu o e _=>by rw[af (ae e g0)];exact k5.n (gk.n e),by rw[et];unfold y_;rw[MI];rfl,hlt⟩
 rintro pl ys H2 ⟨_,gp,k2,rfl,_⟩;rw[Ms,hpl,Na] at gp;show N _ _;subst hN;have k02:=k1.trans k2;symm;exists au gp;refine cP (xs:=y_ cd rs) (Mz (show _<=64 by rw[y_,Ms];exact h2) ⋯) (λD i ys H'=>H2 D=none/\H' D=some (.lst ys)/\KB [] H2 H'/\ys=iV (nZ (eW cd (rs.take i)))/\i<=rs.length) (λD hD=>⟨hD,aa,KB.new hD,rfl,MG _⟩) (λD i ys H' h=>⟨h.2.1,by rw[h.2.2.2.1,gc,eW,Ms,MB];have:=h.2.2.2.2;lia⟩) (λD i ys H' h=>aT.of (h.2.2.1 _ _ gp (by simp))) ?_ ?_
 ·rintro D i ys H' x R hx ⟨g0,g1,gk,rfl,hi⟩ kk;have hlt:i<rs.length:=by have:=(Mw.mp hx).1;rw[y_,Ms] at this;exact this
  have er:=Mt hlt;have et:rs.take (i+1)=rs.take i++[rs[i]]:=by rw[Ni,er];rfl
  have ex:x=.str (wd (b8 cd rs[i])):=by
   unfold y_ at hx;rw[M7,er] at hx;exact (Option.some.inj hx).symm
  subst ex;have h136:=dh hC (h3 _ (MQ hlt));exists bu;exact⟨Mz h136 ⋯,kk _ _ g1 ⟨g0,aa,λu o e _=>by rw[af (ae e g0)];exact gk.n e,by rw[et];unfold eW nZ iV;rw[MI,MI,MI];rfl,hlt⟩⟩
 rintro sa ys H3 ⟨_,gsz,k3,rfl,_⟩;rw[show (y_ cd rs).length=rs.length from Ms ..,Na] at gsz;show N _ _;subst hN;have k03:=k02.trans k3;have gp3:=k3.n gp;symm;obtain⟨ps,hps,hpa⟩:=hp.kb k03;have hpl:=hpa.1;exists a8 hps;refine aU (xs:=ps.map V.ref) (Mz (show _<=64 by rw[Ms];lia) ⋯) (λD i ys H'=>H3 D=none/\H' D=some (.lst ys)/\KB [] H3 H'/\ys=((rs.take i).map a7).map aJ/\i<=rs.length) (λD hD=>⟨hD,aa,KB.new hD,rfl,MG _⟩) (λD i ys H' h=>⟨h.2.1,by rw[h.2.2.2.1,Ms,Ms,MB];have:=h.2.2.2.2;lia⟩) (λD i ys H' h=>aW.of (h.2.2.1 _ _ hps (by simp))) ?_ ?_
 ·rintro D i ys H' x R hx ⟨g0,g1,gk,rfl,hi⟩ kk;obtain⟨u,eu,rfl⟩:∃u,ps[i]?=some u/\x=.ref u:=by
   rw[M7] at hx;obtain⟨u,e,rfl⟩:=MT.mp hx;exact⟨u,e,rfl⟩
  have hlt:i<rs.length:=by have:=(Mw.mp eu).1;lia
  have er:=Mt hlt;have et:rs.take (i+1)=rs.take i++[rs[i]]:=by rw[Ni,er];rfl
  have hu':=gk.n (hpa.2 i u _ eu er);rw[GQ] at hu';nofun;refine⟨u,_,rfl,hu',?_⟩;rw[vx];exact kk _ _ g1 ⟨g0,aa,λu o e _=>by rw[af (ae e g0)];exact gk.n e,by rw[et,MI,MI];rfl,hlt⟩
 rintro ga ys H4 ⟨_,gg,k4,rfl,_⟩;rw[Ms,hpl,Na] at gg;show N _ _;subst hN;have k04:=k03.trans k4;have gp4:=k4.n gp3;have gsz4:=k4.n gsz;have sl1:(eW cd rs).length=rs.length:=Ms ..;have gl1:(rs.map a7).length=rs.length:=Ms ..;have sb:∀s∈eW cd rs,s<=150:=λs hs=>by
  obtain⟨r,hr',rfl⟩:=Nc.mp hs;have:=dh hC (h3 r hr');lia
 have gb:∀t,some t∈rs.map a7->t<=(eW cd rs).length:=λt ht=>by
  obtain⟨r,hr',e⟩:=Nc.mp ht;rw[sl1];exact f6 (h3 r hr') e
 symm;nofun;refine⟨sa,ga,eW cd rs,rs.map a7,rfl,gsz4,gg,by rw[gl1,sl1],by rw[sl1];exact h2,sb,gb,λwa H5 k5 g5=>?_⟩
 rw[<- ew] at g5;subst hN;have wl:=L.len;have wt:=L.lt;symm;nofun;refine⟨sa,wa,false,eW cd rs,rs.map a7,ws,rfl,k5.n gsz4,aW.of g5,λH' k=>aW.of (k.n g5),by rw[gl1,sl1],by rw[wl,sl1],by rw[sl1];exact h2,wt,λpa H6 _ k6 g6=>?_⟩
 rw[<- es] at g6;subst hN;have spl:=L.sl;have k56:=k5.trans k6;have k06:=k04.trans k56;have gp6:=k56.n gp4;have gg6:=k56.n gg;have gw6:=k6.n g5;symm;nofun;refine⟨MG _,λbl hbl=>?_⟩;obtain⟨k7,s7⟩:=bS hbl (.lst []);generalize upd H6 bl _=H7 at *;have hblH:H bl=none:=k06.free (by simp) hbl
 subst hN;symm;nofun;have gp7:=k7.n gp6;refine⟨⟨_,aT.of gp7⟩,?_⟩;have keepB:∀{G:Hp} {o:HO},KB [] H6 G->KB [] H6 (upd G bl o):=λk u o' e z=>by rw[af (ae e hbl)];exact k u o' e z
 refine lG (xs:=y_ cd rs) (λi σ H'=>∃(acc:List (List Nat)) (o9 o10:Option V),i<=rs.length/\KB [] H6 H'/\H' bl=some (.lst ((acc.map wd).map V.str))/\acc.flatten++tM cd sp i (rs.drop i) (ws.drop i)=tM cd sp 0 rs ws/\acc.length<=2*i/\acc.flatten.length<=200*i/\σ=[some (.ref a),some (.ref b),some (.ref ca),some (.ref pl),some (.ref sa),some (.ref ga),some (.ref wa),some (.ref pa),some (.ref bl),o9,o10]) ⟨[],none,none,MG _,k7,s7,rfl,MG _,MG _,rfl⟩ (λi σ H' _ h=>by obtain⟨_,_,_,_,k,_⟩:=h;exact aT.of (k.n gp6)) ?_ ?_
 ·rintro i x σ H' p hx ⟨acc,o9,o10,hi,hk,gb,ex,hx1,hx2,rfl⟩ hp';have hlt:i<rs.length:=by have:=(Mw.mp hx).1;rw[y_,Ms] at this;exact this
  have er:=Mt hlt;have ewi:=Mt (show i<ws.length by lia)
  have lw:=wt _ (MQ (show i<ws.length by lia))
  have okr:=h3 _ (MQ hlt);rw[ND hlt,ND (show i<ws.length by lia),tM] at ex
  unfold y_ at hx;rw[M7,er] at hx;generalize rs[i]'_=r at *;generalize ws[i]'_=w0 at *;cases hx;have h136:=dh hC okr;have ag:bQ ((rs.map a7).map aJ) (i:Int)=some (aJ (a7 r)):=aV (by rw[M7,M7,er];rfl)
  unfold aL;refine⟨p,_,rfl,aW.of aa,rfl,_,_,rfl,_,_,rfl,rfl,?_⟩;have kz:=KB.new (ex:=[]) (o:=.tup [.int i,.str (wd (b8 cd r))]) hp';generalize upd H' p (.tup [.int i,.str (wd (b8 cd r))])=G1 at *;have hk1:=hk.trans kz;have gb1:=kz.n gb;dsimp only;refine ax λM hM=>?_;nofun;refine⟨.inl ⟨rfl,_,aT.of gb1⟩,bl,_,_,rfl,rfl,gb1,Nat.lt_of_le_of_lt (show _<=1000 by rw[List.length_map,List.length_map];lia) ⋯,?_⟩
  have gb2:upd G1 bl (.lst ((acc.map wd).map V.str++[.str (wd (b8 cd r))])) bl=some (.lst (((acc++[b8 cd r]).map wd).map V.str)):=by rw[aa,MI,MI];rfl
  have hk2:=keepB (o:=.lst ((acc.map wd).map V.str++[.str (wd (b8 cd r))])) hk1;generalize upd G1 bl (.lst ((acc.map wd).map V.str++[.str (wd (b8 cd r))]))=G2 at *;subst hM;dsimp only;refine nV λM hM=>?_;refine vI λA B hA hB'=>?_;exists au (hk2.n gg6),ag;have f1:(acc++[b8 cd r]).flatten=acc.flatten++b8 cd r:=by simp
  cases eg:a7 r with
  |none =>
   rw[M4 (show ¬ ¬ aJ none=V.aN from λz=>z rfl),hB'];show M _ _;rw[hM];refine⟨acc++[b8 cd r],_,_,hlt,hk2,gb2,?_,by rw[Mx];simp;lia,by rw[f1,Mx];lia,rfl⟩
   rw[<- ex,eg,f1];simp[tV]
  |some g =>
   rw[eg] at ag;rw[MD (show ¬ aJ (some g)=V.aN from λz=>nomatch z),hA];have hg:g<=rs.length:=f6 okr eg;have egs:(rs.map a7)[i]?=some (some g):=by rw[M7,er];exact Nw some eg
   have aw:bQ (j8 (rs.map a7) ws) (i:Int)=some (.int (w0:Nat)):=aV (qf egs ewi);exists a8 (hk2.n gw6),aw;refine⟨.inl ⟨rfl,_,aT.of gb2⟩,pa,ga,sp,rs.map a7,i,g,rfl,hk2.n g6,hk2.n gg6,egs,by lia,by lia,w0,cf sp g i,rfl,lw,?_⟩
   refine⟨bl,_,_,rfl,rfl,gb2,N3 (show _<=1000 by rw[Ms,Ms,Mx];simp;lia) ⋯,?_⟩
   rw[hM];have jl:=CU lw (cf sp g i);have f2:(acc++[b8 cd r]++[iC w0 (cf sp g i)]).flatten=acc.flatten++b8 cd r++iC w0 (cf sp g i):=by simp
   have jl2:Dd w0<=18:=by rcases qQ lw with rfl|rfl|rfl<;>decide
   refine⟨acc++[b8 cd r]++[iC w0 (cf sp g i)],_,_,hlt,keepB hk2,by rw[aa];simp only[MI,Nb,Oz],?_,by rw[Mx,Mx];simp;lia,by rw[f2,Mx,Mx,jl];lia,rfl⟩
   rw[<- ex,eg,f2];simp[tV]
 ·rintro σ H' ⟨acc,o9,o10,hi,hk,gb,ex,hx1,hx2,rfl⟩;show N _ _;subst hN;rw[show (y_ cd rs).length=rs.length from Ms ..] at *;rw[Oh] at ex;have ex':acc.flatten=tM cd sp 0 rs ws:=by rw[<- ex];unfold tM;exact (Nm _).symm
  nofun;have e2:((acc.map wd).map λx=>x.length).sum=acc.flatten.length:=by
   rw[List.length_flatten,NI];rfl
  refine⟨rfl,_,bl,_,rfl,rfl,aT.of gb,?_,?_⟩
  ·rw[e2,show (Str.ofString "").length=0 from by decide +kernel];lia
  rw[qI,ex'];exists au (hk.n g6);rw[p9];intro q1 hq1 l2 hl2;have k8:=KB.new (ex:=[]) (o:=.lst (iV (nZ sp)).dropLast) hq1;generalize upd H' q1 (.lst (iV (nZ sp)).dropLast)=G1 at *;obtain⟨k9,s9⟩:=bS hl2 (.tup (iV (nZ sp)).dropLast);generalize upd G1 l2 _=G2 at *;refine⟨by decide,λt ht=>?_⟩
  have k10:=KB.new (ex:=[]) (o:=.tup [.str (wd (tM cd sp 0 rs ws)),.ref l2]) ht;refine q t l2 _ (k06.trans (hk.trans (k8.trans (k9.trans k10)))) aa ?_;rw[k10.n s9];unfold iV;rw[List.map_dropLast]
def tI(f:Nat)(by':Int)(r:Row):Row:=match a7 r with
 |none=>r
 |some t=>if t<f then r else setG r ((t:Int)+by').toNat
def FR(f:Nat)(r:Row):tI f 1 r=yY f r:=by
 unfold tI yY
 cases a7 r with
 |none=>rfl
 |some t=>dsimp only;rw[show ((t:Int)+1).toNat=t+1 by lia]
def FW(f:Nat)(r:Row):tI f (-1) r=DC f r:=by
 unfold tI DC
 cases a7 r with
 |none=>rfl
 |some t=>dsimp only;rw[show ((t:Int)+-1).toNat=t-1 by lia]
def PA.drop{rs:List Row}(hp:PA H as rs)(k:Nat):PA H (as.drop k) (rs.drop k):=by
 refine⟨by rw[Nk,Nk,hp.1],λi q r e1 e2=>?_⟩
 rw[Nu] at e1 e2;exact hp.2 (k+i) q r e1 e2
def vM{rs:List Row}(h:kl H a rs)(q:∀u G,KB [] H G->kl G u (rs.drop k)->Q (.ref u) G):Y.xZ K (.ref a) (some (k:Int)) none H Q:=by
 obtain⟨as,ha,hp⟩:=h;refine qm ha (λe=>q a H (KB.refl _ _) ⟨as.drop k,?_,hp.drop k⟩) (λp hp'=>q p _ (KB.new hp') ⟨as.drop k,?_,(hp.drop k).keep (KB.new hp') (NT.nil _)⟩)
 ·rw[tq] at e;rw[ha,Q2,e]
 ·rw[aa,tq,Q2]
def PA.app{bs:List Addr}{rs ts:List Row}(h1:PA H as rs)(h2:PA H bs ts):PA H (as++bs) (rs++ts):=by
 have l1:=h1.1;refine⟨by rw[Mx,Mx,h1.1,h2.1],λi q r e1 e2=>?_⟩
 rcases Nt i as.length with hi|hi
 ·rw[MU hi] at e1;rw[MU (by lia)] at e2
  exact h1.2 i q r e1 e2
 ·rw[MR hi] at e1;rw[MR (by lia),<- l1] at e2
  exact h2.2 _ q r e1 e2
def CV(ha:H a=some (.tup xs))(hb:H b=some (.tup ys))(hl:xs.length+ys.length<=1000)(q:∀u G,KB [] H G->G u=some (.tup (xs++ys))->Q (.ref u) G):Y.Aa K (.ref a) (.ref b) H Q:=
 .inr (.inr (.inr ⟨a,b,xs,ys,rfl,rfl,aW.of ha,aW.of hb,Mz hl ⋯,λe=>q b H (KB.refl _ _) (by rw[hb,e];rfl),λ_ e=>q a H (KB.refl _ _) (by rw[ha,e,Nm]),λ_ _ p hp=>q p _ (KB.new hp) aa⟩))
def vg{rs ts:List Row}(h1:kl H a rs)(h2:kl H b ts)(hl:rs.length+ts.length<=1000)(q:∀u G,KB [] H G->kl G u (rs++ts)->Q (.ref u) G):Y.Aa K (.ref a) (.ref b) H Q:=by
 obtain⟨as,ha,hp⟩:=h1;obtain⟨bs,hb,hp'⟩:=h2;refine CV ha hb (by rw[Ms,Ms,hp.1,hp'.1];exact hl) λu G k e=>q u G k ⟨as++bs,by rw[e,MI],(hp.app hp').keep k (NT.nil _)⟩
def xn:Sp:=λvs H Q _=>∃(a:Addr) (r:Row) (f:Nat) (by':Int),vs=[.ref a,.int (f:Nat),.int by']/\H a=some (.tup r.vs)/\(∀t,a7 r=some t->f<=t->0<=(t:Int)+by')/\∀p H',KB [] H H'->H' p=some (.tup (tI f by' r).vs)->Q (.ref p) H'
def Be{r:Row}(h:a7 r=some t):∃xs:List V,xs≠[]/\xs.length<=2/\r.vs=xs++[.int (t:Nat)]/\∀g:Nat,(setG r g).vs=xs++[.int (g:Nat)]:=by
 cases r with
 |jump _=>cases h;exact⟨[.str "jump"],by simp,by simp,rfl,λ_=>rfl⟩
 |zero b _=>cases h;exact⟨[.str "zero",.str (bD b)],by simp,by simp,rfl,λ_=>rfl⟩
 |put=>cases h
 |two=>cases h
 |one=>cases h
 |halt=>cases h
def yQ(T:Txt K mg)(F:HasFn K mg "goal_moved" gw ["row","first","by"])(U3:ao P w K mg base aF 1 "goal_of" ["row"] lB)(ae8:ao P w K mg base aF 1 "with_goal" ["row","goal"] Bx):ao P w K mg base aF 2 "goal_moved" ["row","first","by"] xn:=by
 refine F.dH iJ (by ac_rfl) ?_
 left
 obtain⟨a,r,fi,by',rfl,ha,hg,q⟩:=h
 refine⟨_,(Z.aq (Z.se (i:=3) iJ.nd (Z.fc U3 (Z.cons (Z.v 0) Z.nil)))
   (Z.ay (Z.ret (Z.Ag (Z.tw (Z.Gd (Z.aK g_ (Z.v 3) Z.aN) (Z.sj (Z.aK e_ (Z.v 3) (Z.v 1))))) (Z.v 0) (Z.fc ae8 (Z.cons (Z.v 0) (Z.cons (Z.op (Z.aI K rfl) (Z.v 3) (Z.v 2)) Z.nil))))))),?_⟩
 symm;nofun;have ha':=ha;rw[GQ] at ha';refine⟨a,_,rfl,ha',?_⟩;rw[hN,vx];clear hN N
 cases c:a7 r with
 |none =>
  nofun;exact q _ _ (KB.refl _ _) (by rw[ha];unfold tI;rw[c])
 |some t =>
  rw[show aJ (some t)=V.int (t:Nat) from rfl];have nn:¬ V.int (t:Nat)=V.aN:=V.noConfusion;by_cases h:(t:Int)<(fi:Int)
  ·exists if_neg nn,if_pos h;exact q _ _ (KB.refl _ _) (by rw[ha];unfold tI;rw[c];dsimp only;rw[if_pos (by lia)])
  ·exists M4 nn,M4 h;obtain⟨xs,x1,x2,x3,x4⟩:=Be c;rw[x3] at ha;refine⟨a,xs,_,_,rfl,ha,x1,x2,λp H' k e=>q p H' k ?_⟩;have h0:=hg t c (by lia)
   rw[e];unfold tI;rw[c];dsimp only;rw[if_neg (by lia),x4,Int.toNat_of_nonneg h0]
def nk:Sp:=λvs H Q _=>∃(a:Addr) (rs:List Row) (f:Nat) (by':Int),vs=[.ref a,.int (f:Nat),.int by']/\kl H a rs/\rs.length<=64/\(∀t:Nat,f<=t->0<=(t:Int)+by')/\∀p H',KB [] H H'->kl H' p (rs.map (tI f by'))->Q (.ref p) H'
def zP(T:Txt K mg)(F:HasFn K mg "goals_moved" dC ["rows","first","by"])(ad2:ao P w K mg base aF 2 "goal_moved" ["row","first","by"] xn):ao P w K mg base aF 3 "goals_moved" ["rows","first","by"] nk:=by
 refine F.dH lJ (by ac_rfl) ?_
 left
 obtain⟨a,rs,fi,by',rfl,⟨as,ha,hp⟩,hl,hg,q⟩:=h
 have hpl:=hp.1;refine⟨_,(Z.ay (Z.ret (Z.ct (Z.c7 K rfl) rfl T.cy ∅ (Z.cons (Z.mT (osc:=ab dC) (ON:=["rows","first","by"]) (own:=["row"]) (N:=["row","rows","first","by"]) (az.of rfl ∅) (Z.any K rfl (Z.v 0)) (λnd _ _ _ _=>(Z.aA (i:=0) nd rfl (by right))) (λ_ _ _ _=>Z.je) (λ_ _ _ _=>(Z.fc ad2 (Z.cons (Z.v 0) (Z.cons (Z.v 2) (Z.cons (Z.v 3) Z.nil)))))) Z.nil)))),?_⟩
 exists a8 ha;refine aU (xs:=as.map V.ref) (Mz (show _<=64 by rw[Ms];lia) ⋯) (λD i ys G=>H D=none/\G D=some (.lst ys)/\KB [] H G/\i<=rs.length/\∃ps:List Addr,ys=ps.map V.ref/\PA G ps ((rs.take i).map (tI fi by'))) (λD hD=>⟨hD,aa,KB.new hD,MG _,[],rfl,rfl,λj p r e=>nomatch e⟩) (λD i ys G h=>⟨h.2.1,by obtain⟨_,_,_,hi,ps,rfl,e,_⟩:=h;rw[Ms,e,Ms,MB];lia⟩) (λD i ys G h=>aW.of (h.2.2.1 _ _ ha (by simp))) ?_ ?_
 ·rintro D i ys G x R hx ⟨g0,g1,gk,hi,ps,rfl,pa⟩ kk;obtain⟨u,eu,rfl⟩:∃u,as[i]?=some u/\x=.ref u:=by
   rw[M7] at hx;obtain⟨u,e,rfl⟩:=MT.mp hx;exact⟨u,e,rfl⟩
  have hlt:i<rs.length:=by have:=(Mw.mp eu).1;lia
  have er:=Mt hlt;nofun;refine⟨u,rs[i],fi,by',rfl,gk.n (hp.2 i u _ eu er),λt _ h=>hg t h,λc G2 kc hc=>?_⟩
  have g2:=kc.n g1;refine kk _ _ g2 ⟨g0,aa,λu o e _=>by rw[af (ae e g0)];exact kc.n (gk.n e),hlt,ps++[c],by rw[MI];rfl,?_⟩
  rw[show rs.take (i+1)=rs.take i++[rs[i]] by rw[Ni,er];rfl,MI]
  exact ((pa.keep kc (NT.nil _)).snoc hc).keep (KB.set (ex:=[D]) (by simp)) (Jb g2)
 ·rintro D ys G ⟨g0,g1,gk,_,ps,rfl,pa⟩;rw[Ms,hpl,Na] at pa;exists au g1;intro t ht;have kt:=KB.new (ex:=[]) (o:=.tup (ps.map V.ref)) ht;exact q t _ (gk.trans kt) ⟨ps,aa,pa.keep kt (NT.nil _)⟩
structure va (C:Addr) (H:Hp) (x dx b:Addr) (bk:List (List Int)) (rs:List Row):Prop where
 bk:yV H b bk
 od:H dx=some (.own x)
 ex:∃ra,H x=some (.ins C dx [("book",.ref b),("rows",.ref ra)])/\kl H ra rs
def va.keep{x:Addr}{bk:List (List Int)}{rs:List Row}(h:va C H x dx b bk rs)(k:KB ex H H')(hx:NT ex H)(n1:x∉ex)(n2:dx∉ex):va C H' x dx b bk rs:=by
 obtain⟨h1,h2,ra,h3,h4⟩:=h;exact⟨h1.keep k hx,k _ _ h2 n2,ra,k _ _ h3 n1,h4.keep k hx⟩
def va.kb{x:Addr}{bk:List (List Int)}{rs:List Row}(h:va C H x dx b bk rs)(k:KB [] H H'):va C H' x dx b bk rs:=h.keep k (NT.nil _) (by simp) (by simp)
def iS{x:Addr}{fs:List (Str×V)}(h:H x=some (.ins C dx fs)):NT [x] H:=λb hb xs e=>by
 rw[MH.mp hb,h] at e;cases e
def qH(b r:V):([("book",b),("rows",r)]:List (Str×V)).lookup ("book":Str)=some b:=rfl
def dF(b r:V):([("book",b),("rows",r)]:List (Str×V)).lookup ("rows":Str)=some r:=rfl
def pB(C:Addr):Sp:=λvs H Q _=>∃(x dx b:Addr) (bk:List (List Int)),vs=[.ref x,.ref b]/\H x=some (.ins C dx [])/\H dx=some (.own x)/\yV H b bk/\∀H',va C H' x dx b bk []->KB [x] H H'->Q .aN H'
def Bv(T:Txt K mg)(cM:gX K C)(cc:aP K C "book")(v4:aP K C "rows")(F:kj K "__init__" "Kept.__init__" cL f fd):aZ P w K mg base aF 1 f fd ["self","book"] (pB C):=by
 refine tJ F jY (by ac_rfl) ?_
 rfl'
 obtain⟨x,dx,b,bk,rfl,ox,od,hb,q⟩:=h;refine⟨_,(Z.aq (Z.qu K rfl (Z.v 0) (Z.v 1))
   (Z.ay (Z.qu K rfl (Z.v 0) (Z.tup Z.nil)))),?_⟩
 have ndx:dx≠x:=by rintro rfl;rw[ox] at od;cases od
 symm;nofun;refine⟨x,C,dx,_,rfl,ox,cM,cc,by decide,?_⟩
 subst hN;have k1:KB [x] H (upd H x (.ins C dx (cR "book" (.ref b) []))):=KB.set (by simp)
 have s1:upd H x (.ins C dx (cR "book" (.ref b) [])) x=some (.ins C dx [("book",.ref b)]):=aa;have hb1:=hb.keep k1 (iS ox);have od1:=k1 _ _ od (by simpa using ndx)
 generalize upd H x (.ins C dx (cR "book" (.ref b) []))=H1 at *;nofun;refine⟨MG _,λe he=>?_⟩;obtain⟨k2,s2⟩:=bS he (.tup []);have s12:=k2.n s1;have hb2:=hb1.kb k2;have od2:=k2.n od1;generalize upd H1 e _=H2 at *;refine⟨x,C,dx,_,rfl,s12,cM,v4,(show 1<1000 by decide),?_⟩
 have k3:KB [x] H2 (upd H2 x (.ins C dx (cR "rows" (.ref e) [("book",.ref b)]))):=KB.set (by simp)
 have nt:=iS s12;refine q _ ⟨hb2.keep k3 nt,k3 _ _ od2 (by simpa using ndx),e,aa,⟨[],k3 _ _ s2 λz=>nt _ z _ s2,rfl,λi q r e=>nomatch e⟩⟩ (k1.trans (k2.all.trans k3))
def wb(C:Addr):Sp:=λvs H Q _=>∃(x dx b:Addr) (bk:List (List Int)) (rs:List Row),vs=[.ref x]/\va C H x dx b bk rs/\∀ra,kl H ra rs->Q (.ref ra) H
def z_(T:Txt K mg)(cM:gX K C)(v4:aP K C "rows")(F:kj K "program" "Kept.program" cZ f fd):aZ P w K mg base aF 1 f fd ["self"] (wb C):=by
 refine tJ F kQ (by ac_rfl) ?_
 rfl'
 obtain⟨x,dx,b,bk,rs,rfl,⟨_,_,ra,ox,hp⟩,q⟩:=h;refine⟨_,(Z.ay (Z.ret (Z.fld K rfl (Z.v 0)))),?_⟩;nofun;exact⟨x,C,dx,_,_,rfl,ox,cM,v4,dF _ _,q ra hp⟩
def vY(C:Addr):Sp:=λvs H Q _=>∃(x dx b:Addr) (bk:List (List Int)) (rs:List Row),vs=[.ref x]/\va C H x dx b bk rs/\Bk bk/\rs.length<=64/\(∀r∈rs,r.Ok rs.length)/\∀H',KB [] H H'->Q (.str (wd (dO bk rs))) H'
def By(T:Txt K mg)(cM:gX K C)(cc:aP K C "book")(v4:aP K C "rows")(V4:ao P w K mg base aF 7 "pack_rows" ["program","book"] pR)(F:kj K "bits" "Kept.bits" fe f fd):aZ P w K mg base aF 8 f fd ["self"] (vY C):=by
 refine tJ F ql (by ac_rfl) ?_
 rfl'
 obtain⟨x,dx,b,bk,rs,rfl,⟨hb,_,ra,ox,hp⟩,hB,hl,aH,q⟩:=h;refine⟨_,(Z.ay (Z.ret (Z.ix (Z.aD K rfl hu) (Z.fc V4 (Z.cons (Z.fld K rfl (Z.v 0)) (Z.cons (Z.fld K rfl (Z.v 0)) Z.nil))) Z.int))),?_⟩;nofun;refine⟨x,C,dx,_,_,rfl,ox,cM,v4,dF _ _,x,C,dx,_,_,rfl,ox,cM,cc,qH _ _,ra,b,bk,rs,rfl,hp,hb,hB,hl,aH,λt u H' k e1 _=>?_⟩;exists a8 e1;exact q H' k
def oF(C:Addr):Sp:=λvs H Q _=>∃(x dx b:Addr) (bk:List (List Int)) (rs:List Row),vs=[.ref x]/\va C H x dx b bk rs/\Bk bk/\rs.length<=64/\(∀r∈rs,r.Ok rs.length)/\∀u H',KB [] H H'->H' u=some (.tup (iV (nZ (hW bk rs)).dropLast))->Q (.ref u) H'
def uX(T:Txt K mg)(cM:gX K C)(cc:aP K C "book")(v4:aP K C "rows")(V4:ao P w K mg base aF 7 "pack_rows" ["program","book"] pR)(F:kj K "places" "Kept.places" dD f fd):aZ P w K mg base aF 8 f fd ["self"] (oF C):=by
 refine tJ F mB (by ac_rfl) ?_
 rfl'
 obtain⟨x,dx,b,bk,rs,rfl,⟨hb,_,ra,ox,hp⟩,hB,hl,aH,q⟩:=h;refine⟨_,(Z.ay (Z.ret (Z.ix (Z.aD K rfl hu) (Z.fc V4 (Z.cons (Z.fld K rfl (Z.v 0)) (Z.cons (Z.fld K rfl (Z.v 0)) Z.nil))) Z.int))),?_⟩;nofun;refine⟨x,C,dx,_,_,rfl,ox,cM,v4,dF _ _,x,C,dx,_,_,rfl,ox,cM,cc,qH _ _,ra,b,bk,rs,rfl,hp,hb,hB,hl,aH,λt u H' k e1 e2=>?_⟩;exists a8 e1;exact q u H' k e2
def AK(C:Addr):Sp:=λvs H Q _=>∃(x dx b qr:Addr) (bk:List (List Int)) (rs:List Row) (k:Nat) (r:Row),vs=[.ref x,.int (k:Nat),.ref qr]/\va C H x dx b bk rs/\k<=rs.length/\rs.length<=60/\H qr=some (.tup r.vs)/\r.Ok (rs.length+1)/\∀H',va C H' x dx b bk (iU k r rs)->KB [x] H H'->Q .aN H'
def Fi(T:Txt K mg)(cM:gX K C)(v4:aP K C "rows")(U3:ao P w K mg base aF 1 "goal_of" ["row"] lB)(T2:ao P w K mg base aF 3 "goals_moved" ["rows","first","by"] nk)(F:kj K "put_in" "Kept.put_in" dE f fd):aZ P w K mg base aF 4 f fd ["self","place","row"] (AK C):=by
 refine tJ F dk (by ac_rfl) ?_
 rfl'
 obtain⟨x,dx,b,qr,bk,rs,k,r,rfl,⟨hb,od,ra,ox,hp⟩,hk,hl,hq,hro,q⟩:=h;refine⟨_,(Z.aq (Z.se (i:=3) dk.nd (Z.cb (Z.bL K rfl) rfl T.bA ∅ (Z.cons (Z.fld K rfl (Z.v 0)) Z.nil)))
   (Z.aq (Z.dz (Z.tw (Z.Gd (Z.aK e_ (Z.v 1) Z.int) (Z.sj (Z.aK rT (Z.v 1) (Z.v 3))))) (Z.ay Z.vL) Z.bp)
   (Z.aq (Z.se (i:=4) dk.nd (Z.fc U3 (Z.cons (Z.v 2) Z.nil)))
   (Z.aq (Z.dz (Z.tw (Z.rj (Z.aK f_ (Z.v 4) Z.aN) (Z.ko (Z.tw (Z.Gd (Z.aK e_ (Z.v 4) Z.int) (Z.sj (Z.aK rT (Z.v 4) (Z.op (Y.fm K rfl) (Z.v 3) Z.int)))))))) (Z.ay Z.vL) Z.bp)
   (Z.aq (Z.se (i:=5) dk.nd (Z.fc T2 (Z.cons (Z.fld K rfl (Z.v 0)) (Z.cons (Z.v 1) (Z.cons Z.int Z.nil)))))
   (Z.ay (Z.qu K rfl (Z.v 0) (Z.op (Y.fm K rfl) (Z.op (Y.fm K rfl) (Z.slice (Y.vm K rfl) (Z.v 5) Z.nI (Z.nG (Z.v 1))) (Z.tup (Z.cons (Z.v 2) Z.nil))) (Z.slice (Y.vm K rfl) (Z.v 5) (Z.nG (Z.v 1)) Z.nI))))))))),?_⟩
 have hp':=hp;obtain⟨as,ha,hpl,_⟩:=hp';have ndx:dx≠x:=by rintro rfl;rw[ox] at od;cases od
 symm;nofun;refine⟨x,C,dx,_,_,rfl,ox,cM,v4,dF _ _,?_⟩;exists a8 ha,Ms,hpl;rw[hN];symm;exists M4 (show ¬ ((k:Nat):Int)<0 by lia),M4 (show ¬ ((rs.length:Nat):Int)<((k:Nat):Int) by lia)
 rw[hN];symm;nofun;have hq':=hq;rw[GQ] at hq';refine⟨qr,_,rfl,hq',?_⟩;rw[hN,vx];symm;have step:N [some (.ref x),some (.int (k:Nat)),some (.ref qr),some (.int (rs.length:Nat)),some (aJ (a7 r)),none] H:=by
  rw[hN];symm;nofun;refine⟨x,C,dx,_,_,rfl,ox,cM,v4,dF _ _,ra,rs,k,1,rfl,hp,by lia,λt _=>by lia,λmo H1 k1 hm=>?_⟩
  rw[hN];rw[show tI k 1=yY k from funext λr=>FR k r] at hm;have hml:(rs.map (yY k)).length=rs.length:=Ms ..;nofun;refine Bj (k:=k) hm λu2 H2 k2 h2=>⟨by decide,λc hc=>?_⟩
  have k3:=KB.new (ex:=[]) (o:=.tup [.ref qr]) hc;have k03:=k1.trans (k2.trans k3);have h3:kl (upd H2 c (.tup [.ref qr])) c [r]:=⟨[qr],aa,rfl,λi q' r' e1 e2=>by
   cases i with
   |zero=>cases e1;cases e2;exact k03 _ _ hq (by simp)
   |succ i=>cases e1⟩
  have h23:=h2.kb k3;have hm3:=hm.kb (k2.trans k3);generalize upd H2 c (.tup [.ref qr])=H3 at *;refine vg h23 h3 (by rw[MB];simp;lia) λu4 H4 k4 h4=>?_
  refine vM (k:=k) (hm3.kb k4) λu5 H5 k5 h5=>?_;refine vg (h4.kb k5) h5 (by rw[Mx,MB,Nk];simp;lia) λu6 H6 k6 h6=>?_
  have k06:=k03.trans (k4.trans (k5.trans k6));have ox6:=k06 _ _ ox (by simp)
  refine⟨x,C,dx,_,rfl,ox6,cM,v4,(show 2<1000 by decide),?_⟩
  have k7:KB [x] H6 (upd H6 x (.ins C dx (cR "rows" (.ref u6) [("book",.ref b),("rows",.ref ra)]))):=KB.set (by simp)
  have nt:=iS ox6;exact q _ ⟨(hb.kb k06).keep k7 nt,k7 _ _ (k06 _ _ od (by simp)) (by simpa using ndx),u6,aa,h6.keep k7 nt⟩ (k06.all.trans k7)
 cases c:a7 r with
 |none =>
  rw[c] at step;exists M4 (show ¬ ¬ aJ none=V.aN from λz=>z rfl);exact step
 |some t =>
  rw[c] at step;have ht:=f6 hro c;rw[show aJ (some t)=V.int (t:Nat) from rfl] at step ⊢;exists MD (show ¬ V.int (t:Nat)=V.aN from V.noConfusion),M4 (show ¬ ((t:Nat):Int)<0 by lia)
  refine .inl ⟨_,_,rfl,rfl,?_⟩;exists M4 (show ¬ ((rs.length:Nat):Int)+1<((t:Nat):Int) by lia)
  exact step
def wY(C:Addr):Sp:=λvs H Q _=>∃(x dx b:Addr) (bk:List (List Int)) (rs:List Row) (k:Nat),vs=[.ref x,.int (k:Nat)]/\va C H x dx b bk rs/\k<rs.length/\rs.length<=64/\∀H',va C H' x dx b bk (qx k rs)->KB [x] H H'->Q .aN H'
def Ai(T:Txt K mg)(cM:gX K C)(v4:aP K C "rows")(T2:ao P w K mg base aF 3 "goals_moved" ["rows","first","by"] nk)(F:kj K "take_out" "Kept.take_out" cG f fd):aZ P w K mg base aF 4 f fd ["self","place"] (wY C):=by
 refine tJ F fH (by ac_rfl) ?_
 rfl'
 obtain⟨x,dx,b,bk,rs,k,rfl,⟨hb,od,ra,ox,hp⟩,hk,hl,q⟩:=h;refine⟨_,(Z.aq (Z.se (i:=2) fH.nd (Z.cb (Z.bL K rfl) rfl T.bA ∅ (Z.cons (Z.fld K rfl (Z.v 0)) Z.nil)))
   (Z.aq (Z.dz (Z.tw (Z.Gd (Z.aK e_ (Z.v 1) Z.int) (Z.sj (Z.aK vP (Z.v 1) (Z.v 2))))) (Z.ay Z.vL) Z.bp)
   (Z.ay (Z.qu K rfl (Z.v 0) (Z.fc T2 (Z.cons (Z.op (Y.fm K rfl) (Z.slice (Y.vm K rfl) (Z.fld K rfl (Z.v 0)) Z.nI (Z.nG (Z.v 1))) (Z.slice (Y.vm K rfl) (Z.fld K rfl (Z.v 0)) (Z.nG (Z.op (Y.fm K rfl) (Z.v 1) Z.int)) Z.nI)) (Z.cons (Z.op (Y.fm K rfl) (Z.v 1) Z.int) (Z.cons (Z.un cB Z.int) Z.nil)))))))),?_⟩
 have hp':=hp;obtain⟨as,ha,hpl,_⟩:=hp';have ndx:dx≠x:=by rintro rfl;rw[ox] at od;cases od
 symm;nofun;refine⟨x,C,dx,_,_,rfl,ox,cM,v4,dF _ _,?_⟩;exists a8 ha,Ms,hpl;rw[hN];symm;exists M4 (show ¬ ((k:Nat):Int)<0 by lia),M4 (show ¬ ((rs.length:Nat):Int)<=((k:Nat):Int) by lia)
 rw[hN];nofun;refine⟨x,C,dx,_,_,rfl,ox,cM,v4,dF _ _,?_⟩;refine Bj (k:=k) hp λu1 H1 k1 h1=>?_;have ox1:=k1 _ _ ox (by simp)
 refine⟨x,C,dx,_,_,rfl,ox1,cM,v4,dF _ _,?_⟩;refine .inl ⟨_,_,rfl,rfl,_,rfl,?_⟩;rw[show ((k:Nat):Int)+1=((k+1:Nat):Int) from rfl];refine vM (k:=k+1) (hp.kb k1) λu2 H2 k2 h2=>?_;refine vg (h1.kb k2) h2 (by rw[MB,Nk];lia) λu3 H3 k3 h3=>?_
 refine .inl ⟨_,_,rfl,rfl,?_⟩;refine⟨u3,_,k+1,-1,rfl,h3,by rw[Mx,MB,Nk];lia,λt _=>by lia,λu4 H4 k4 h4=>?_⟩
 rw[show tI (k+1) (-1)=DC (k+1) from funext λr=>FW (k+1) r] at h4;have k04:=k1.trans (k2.trans (k3.trans k4));have ox4:=k04 _ _ ox (by simp)
 refine⟨x,C,dx,_,rfl,ox4,cM,v4,(show 2<1000 by decide),?_⟩
 have k7:KB [x] H4 (upd H4 x (.ins C dx (cR "rows" (.ref u4) [("book",.ref b),("rows",.ref ra)]))):=KB.set (by simp)
 have nt:=iS ox4;exact q _ ⟨(hb.kb k04).keep k7 nt,k7 _ _ (k04 _ _ od (by simp)) (by simpa using ndx),u4,aa,h4.keep k7 nt⟩ (k04.all.trans k7)
structure kg (CD CK:Addr) (H:Hp) (dd k dxk b:Addr) (bk:List (List Int)) (rs:List Row):Prop where
 d:∃dx,H dd=some (.ins CD dx [("kept",.ref k)])
 s:va CK H k dxk b bk rs
def kg.ne{dd k dxk:Addr}{bk:List (List Int)}{rs:List Row}(D:kg CD CK H dd k dxk b bk rs):dd≠k:=λz=>by
 obtain⟨dx,e⟩:=D.d;obtain⟨ra,e2,_⟩:=D.s.ex;rw[z,e2] at e;cases e
def kg.kb{dd k dxk:Addr}{bk:List (List Int)}{rs:List Row}(h:kg CD CK H dd k dxk b bk rs)(kb:KB [] H H'):kg CD CK H' dd k dxk b bk rs:=by
 obtain⟨⟨dx,e⟩,s⟩:=h;exact⟨⟨dx,kb.n e⟩,s.kb kb⟩
structure KM (P:Program) (w:World) (K:W.Frag) (mg:Str->Option Value) (base:Heap) (C:Addr):Prop where
 cM:gX K C
 cc:aP K C "book"
 put:∃f fd,Meth K C "put_in" f/\aZ P w K mg base aF 4 f fd ["self","place","row"] (AK C)/\Binds K fd ["self","place","row"] []
 take:∃f fd,Meth K C "take_out" f/\aZ P w K mg base aF 4 f fd ["self","place"] (wY C)/\Binds K fd ["self","place"] []
 prog:∃f fd,Meth K C "program" f/\aZ P w K mg base aF 1 f fd ["self"] (wb C)/\Binds K fd ["self"] []
 bits:∃f fd,Meth K C "bits" f/\aZ P w K mg base aF 8 f fd ["self"] (vY C)/\Binds K fd ["self"] []
 places:∃f fd,Meth K C "places" f/\aZ P w K mg base aF 8 f fd ["self"] (oF C)/\Binds K fd ["self"] []
def DB{m a:Str}{x:V}(h1:m≠a):List.lookup m [(a,x)]=none:=by
 rw[Ny,Nh.mpr h1];rfl
def gK{m a b:Str}{x y:V}(h1:m≠a)(h2:m≠b):List.lookup m [(a,x),(b,y)]=none:=by
 rw[Ny,Nh.mpr h1];exact DB h2
def fN(CD CK:Addr):Sp:=λvs H Q _=>∃(dd k dxk b pa:Addr) (bk:List (List Int)) (rs:List Row) (p:Nat) (r:Row),vs=[.ref dd,.ref pa]/\kg CD CK H dd k dxk b bk rs/\H pa=some (.lst (sV (bc p::r.ps.map iG.x)))/\p<=rs.length/\rs.length<60/\r.Ok (rs.length+1)/\∀H',kg CD CK H' dd k dxk b bk (iU p r rs)->KB [k] H H'->Q .aN H'
def HP(r:Row):1<=r.ps.length:=by cases r<;>simp[Row.ps]
def rZ(z:Str)(zs:List Str):bQ (sV (z::zs)) 0=some (.str z):=uK ..
def AQ(z:Str)(zs:List Str):cC (sV (z::zs)) (some 1) none=sV zs:=mP _ _
def xV(T:Txt K mg)(M:KM P w K mg base CK)(v0:gX K CD)(u5:aP K CD "kept")(T4:ao P w K mg base aF 3 "asked_place" ["text"] mR)(ag3:ao P w K mg base aF 4 "read_row" ["line","greatest_goal"] w6)(F:kj K "put_row" "Desk.put_row" dc f fd):aZ P w K mg base aF 6 f fd ["self","parts"] (fN CD CK):=by
 obtain⟨u_MOST_ROWS,W3,W2⟩:=T.rS;obtain⟨f_p,d_p,W5,ah2,X5⟩:=M.put;obtain⟨f_q,d_q,wE,S1,sK⟩:=M.prog;have xL:=M.cM;refine tJ F dN (by ac_rfl) ?_
 rfl'
 obtain⟨dd,k,dxk,b,pa,bk,rs,p,r,rfl,D,hpa,hp,h60,hro,q⟩:=h;refine⟨_,(Z.aq (Z.dz (Z.aK e_ (Z.cb (Z.bL K rfl) rfl T.bA ∅ (Z.cons (Z.v 1) Z.nil)) Z.int) (Z.ay Z.vL) Z.bp)
   (Z.aq (Z.se (i:=2) dN.nd (Z.fc T4 (Z.cons (Z.ix (Z.aD K rfl hu) (Z.v 1) Z.int) Z.nil)))
   (Z.aq (Z.se (i:=3) dN.nd (Z.fc ag3 (Z.cons (Z.bm K rfl PySem.F.plainAttrs_str PySem.F.slot_str_join PySem.F.type_str_join (Z.iO K rfl) Z.str (Z.cons (Z.slice (Z.pL K rfl) (Z.v 1) (Z.nG Z.int) Z.nI) Z.nil)) (Z.cons (Z.glob rfl W3 W2) Z.nil))))
   (Z.aq (Z.dz (Z.aK g_ (Z.v 3) Z.aN) (Z.ay Z.vL) Z.bp)
   (Z.aq (Z.dz (Z.aK vP (Z.cb (Z.bL K rfl) rfl T.bA ∅ (Z.cons (Z.mZ K rfl (Z.fld K rfl (Z.v 0)) xL wE S1 (hr.mono ⋯) sK cg) Z.nil)) (Z.glob rfl W3 W2)) (Z.ay Z.vL) Z.bp)
   (Z.ay (Z.expr (Z.nM K rfl (Z.fld K rfl (Z.v 0)) xL W5 ah2 (hr.mono ⋯) X5 cg (Z.cons (Z.v 2) (Z.cons (Z.v 3) Z.nil)))))))))),?_⟩
 symm;nofun;simp only[au hpa];have hps:=HP r;rw[M4 (show ¬ ((sV (bc p::r.ps.map iG.x)).length:Int)<2 by unfold sV;rw[Ms,MJ,Ms];lia)]
 rw[hN];symm;nofun;simp only[au hpa,rZ];refine⟨p,rfl,by lia,λH1 k1=>?_⟩
 rw[hN];have pa1:=k1.n hpa;have d1:=D.kb k1;symm;nofun;simp only[au pa1];refine⟨rfl,λl hl=>?_⟩;rw[AQ];obtain⟨k2,l2⟩:=bS hl (.lst (sV (r.ps.map iG.x)));generalize upd H1 l _=H2 at *;have rok:r.Ok 60:=hro.mono (by lia)
 have pl:=fI (rok.mono (show 60<=100000 by decide))
 have ll:=sZ (rok.mono (show 60<=100000 by decide))
 refine⟨_,l,r.ps.map iG.x,rfl,rfl,aT.of l2,?_,?_⟩
 ·rw[show (Str.ofString " ").length=1 by decide +kernel,Ms];lia
 refine⟨r.line,60,rfl,by lia,by decide,λe=>absurd e (by rw[mO,xa rok];exactλz=>nomatch z),λxs e ra H3 k3 r3=>?_⟩
 rw[mO,xa rok] at e;cases e;rw[hN];have d3:=d1.kb (k2.trans k3);symm;nofun;rw[M4 (show ¬ V.ref ra=V.aN from λz=>nomatch z),hN];obtain⟨⟨dx,od⟩,s3⟩:=d3;obtain⟨a0,ok0,pr0⟩:=s3.ex;have d3:kg CD CK H3 dd k dxk b bk rs:=⟨⟨dx,od⟩,s3⟩;symm;nofun;refine⟨dd,CD,dx,_,_,rfl,od,v0,u5,rfl,k,dxk,_,rfl,ok0,gK ∅ ∅,k,dxk,b,bk,rs,rfl,s3,λra' pr=>?_⟩
 obtain⟨as,o1,o2⟩:=pr;exists a8 o1;rw[Ms,o2.1,M4 (by lia),hN]
 nofun;refine⟨dd,CD,dx,_,_,rfl,od,v0,u5,rfl,k,dxk,_,rfl,ok0,gK ∅ ∅,?_⟩
 refine⟨k,dxk,b,ra,bk,rs,p,r,rfl,s3,hp,by lia,r3,hro,λH4 s4 k4=>?_⟩
 exact q H4 ⟨⟨dx,k4 _ _ od (by simpa using d3.ne)⟩,s4⟩ ((k1.trans (k2.trans k3)).all.trans k4)
def dX(CD CK:Addr):Sp:=λvs H Q _=>∃(dd k dxk b pa:Addr) (bk:List (List Int)) (rs:List Row) (p:Nat),vs=[.ref dd,.ref pa]/\kg CD CK H dd k dxk b bk rs/\H pa=some (.lst (sV [bc p]))/\p<rs.length/\rs.length<=60/\∀H',kg CD CK H' dd k dxk b bk (qx p rs)->KB [k] H H'->Q .aN H'
def vp(T:Txt K mg)(M:KM P w K mg base CK)(v0:gX K CD)(u5:aP K CD "kept")(T4:ao P w K mg base aF 3 "asked_place" ["text"] mR)(F:kj K "take_row" "Desk.take_row" cO f fd):aZ P w K mg base aF 6 f fd ["self","parts"] (dX CD CK):=by
 obtain⟨f_p,d_p,T9,ae2,U7⟩:=M.take;have xL:=M.cM;refine tJ F jO (by ac_rfl) ?_
 rfl'
 obtain⟨dd,k,dxk,b,pa,bk,rs,p,rfl,D,hpa,hp,h60,q⟩:=h;refine⟨_,(Z.aq (Z.dz (Z.aK AL (Z.cb (Z.bL K rfl) rfl T.bA ∅ (Z.cons (Z.v 1) Z.nil)) Z.int) (Z.ay Z.vL) Z.bp)
   (Z.ay (Z.expr (Z.nM K rfl (Z.fld K rfl (Z.v 0)) xL T9 ae2 (hr.mono ⋯) U7 cg (Z.cons (Z.fc T4 (Z.cons (Z.ix (Z.aD K rfl hu) (Z.v 1) Z.int) Z.nil)) Z.nil))))),?_⟩
 obtain⟨dx,od⟩:=D.d;obtain⟨a0,ok0,pr0⟩:=D.s.ex;symm;nofun;simp only[au hpa,L2.Ap.Ki];rw[show ((sV [bc p]).length:Int)=1 from rfl];simp only[decide_true,Bool.not_true,Oj,not_true_eq_false,O3];rw[hN];nofun;refine⟨dd,CD,dx,_,_,rfl,od,v0,u5,rfl,k,dxk,_,rfl,ok0,gK ∅ ∅,?_⟩
 simp only[au hpa,rZ];refine⟨p,rfl,by lia,λH1 k1=>?_⟩
 have D1:=D.kb k1;refine⟨k,dxk,b,bk,rs,p,rfl,D1.s,hp,by lia,λH4 s4 k4=>?_⟩
 exact q H4 ⟨⟨dx,k4 _ _ (k1.n od) (by simpa using D.ne)⟩,s4⟩ (k1.all.trans k4)
def Fw(CD CK:Addr):Sp:=λvs H Q E=>∃dd pa,(vs=[.ref dd,.str "put",.ref pa]/\fN CD CK [.ref dd,.ref pa] H Q E)\/(vs=[.ref dd,.str "take",.ref pa]/\dX CD CK [.ref dd,.ref pa] H Q E)
def Kw{dd pa:Addr}(h:fN CD CK [.ref dd,.ref pa] H Q E):∃dx k,H dd=some (.ins CD dx [("kept",.ref k)]):=by
 obtain⟨dd',k,dxk,b,pa',bk,rs,p,r,e,⟨⟨dx,D⟩,_⟩,_⟩:=h
 cases e;exact⟨dx,k,D⟩
def K6{dd pa:Addr}(h:dX CD CK [.ref dd,.ref pa] H Q E):∃dx k,H dd=some (.ins CD dx [("kept",.ref k)]):=by
 obtain⟨dd',k,dxk,b,pa',bk,rs,p,e,⟨⟨dx,D⟩,_⟩,_⟩:=h
 cases e;exact⟨dx,k,D⟩
def L9{vs:List V}(h:fN CD CK vs H Q E)(hq:∀H',Q .aN H'->Q' .aN H'):fN CD CK vs H Q' E':=by
 obtain⟨dd,k,dxk,b,pa,bk,rs,p,r,e,h1,h2,h3,h4,h5,q⟩:=h;exact⟨dd,k,dxk,b,pa,bk,rs,p,r,e,h1,h2,h3,h4,h5,λH' a b=>hq H' (q H' a b)⟩
def LJ{vs:List V}(h:dX CD CK vs H Q E)(hq:∀H',Q .aN H'->Q' .aN H'):dX CD CK vs H Q' E':=by
 obtain⟨dd,k,dxk,b,pa,bk,rs,p,e,h1,h2,h3,h4,q⟩:=h;exact⟨dd,k,dxk,b,pa,bk,rs,p,e,h1,h2,h3,h4,λH' a b=>hq H' (q H' a b)⟩
def Hf{f_p f_t:Addr}{d_p d_t:FuncData}(T:Txt K mg)(v0:gX K CD)(V2:Meth K CD "put_row" f_p)(af7:aZ P w K mg base aF 6 f_p d_p ["self","parts"] (fN CD CK))(V9:Binds K d_p ["self","parts"] [])(T8:Meth K CD "take_row" f_t)(ae1:aZ P w K mg base aF 6 f_t d_t ["self","parts"] (dX CD CK))(U6:Binds K d_t ["self","parts"] [])(F:kj K "change" "Desk.change" bY f fd):aZ P w K mg base aF 7 f fd ["self","word","parts"] (Fw CD CK):=by
 refine F.ok lQ (λvs H Q E h=>?_) (λcdv A outer s H vs Q E hr h=>?_)
 ·obtain⟨dd,pa,h⟩:=h;rcases h with ⟨rfl,_⟩|⟨rfl,_⟩<;>rfl
 ·have hu:=a9 hr;obtain⟨dd,pa,h⟩:=h;have key:∀z:Str,vs=[.ref dd,.str z,.ref pa]->∃t,QB (kM aF P w K mg base ["self","word","parts"] "Desk.change" (ab bY) f cdv A outer s H E).CI (bC bY) t/\t {nx:=λ_ H'=>Q .aN H',rt:=Q} (start ["self","word","parts"] [.ref dd,.str z,.ref pa]) H:=by
   intro z hz;refine⟨_,(Z.ay (Z.dz (Z.aK aY (Z.v 1) Z.str) (Z.ay (Z.expr (Z.nM K rfl (Z.v 0) v0 V2 af7 (hr.mono ⋯) V9 cg (Z.cons (Z.v 2) Z.nil)))) (Z.ay (Z.dz (Z.aK aY (Z.v 1) Z.str) (Z.ay (Z.expr (Z.nM K rfl (Z.v 0) v0 T8 ae1 (hr.mono ⋯) U6 cg (Z.cons (Z.v 2) Z.nil)))) (Z.ay (Z.dz (Z.aK aY (Z.v 1) Z.str) (Z.ay Z.vL) (Z.ay (Z.dz (Z.aK aY (Z.v 1) Z.str) (Z.ay Z.vL) (Z.ay Z.vL))))))))),?_⟩
   rcases h with ⟨rfl,h⟩|⟨rfl,h⟩
   ·cases hz;obtain⟨dx,k,hd⟩:=Kw h;nofun;exact⟨dd,dx,_,rfl,hd,DB ∅,L9 h λH' q=>q⟩
   ·cases hz;obtain⟨dx,k,hd⟩:=K6 h;nofun;rw[M4 ∅]
    exact⟨dd,dx,_,rfl,hd,DB ∅,LJ h λH' q=>q⟩
  rcases h with ⟨rfl,h⟩|⟨rfl,h⟩
  ·obtain⟨t,hb,ht⟩:=key _ rfl;exact⟨t,hb.h,ht⟩
  ·obtain⟨t,hb,ht⟩:=key _ rfl;exact⟨t,hb.h,ht⟩
def Jr:List Key:=[.inr "a",.inr "b",.inr "c",.inr "d",.inr "e",.inr "f",.inr "g",.inr "h"]
structure yZ where
 given:List Int
 heard:Nat
 told:List Int
 bs:List Int
structure MA where
 m:Addr
 dx:Addr
 gv:Addr
 tl:Addr
 bx:Addr
def Ku(a:MA)(h:Nat):List (Str×V):=[("given",.ref a.gv),("heard",.int (h:Nat)),("told",.ref a.tl),("boxes",.ref a.bx)]
structure MS (K:W.Frag) (C:Addr) (H:Hp) (a:MA) (st:yZ):Prop where
 om:H a.m=some (.ins C a.dx (Ku a st.heard))
 od:H a.dx=some (.own a.m)
 og:H a.gv=some (.tup (iV st.given))
 ot:H a.tl=some (.lst (iV st.told))
 ob:H a.bx=some (.dK (Jr.zip (iV st.bs)))
 l8:st.bs.length=8
 hh:st.heard<=st.given.length
def E_(a:MA)(h:Nat):(Ku a h).lookup ("told":Str)=some (.ref a.tl):=rfl
def B_(a:MA)(h:Nat):(Ku a h).lookup ("boxes":Str)=some (.ref a.bx):=rfl
def Dr(bs:List Int)(b:Nat):Int:=bs[b]?.getD 0
def Hj:∀(b:Nat),b<8->∀bs:List Int,bs.length=8->iR (Jr.zip (iV bs)) (.inr (bD b))=some (.int (Dr bs b)):=by
 intro b hb bs hl;obtain⟨x0,x1,x2,x3,x4,x5,x6,x7,rfl⟩:=Ld hl;rcases Ji hb with rfl|rfl|rfl|rfl|rfl|rfl|rfl|rfl<;>rfl
def FU(st:yZ):Int×yZ:=match st.given[st.heard]? with
 |some x=>(x,{st with heard:=st.heard+1})
 |none=>(0,st)
def gy(st:yZ):mK->Int×yZ
 |.put _ n=>((n:Nat),st)
 |.two w a b=>((match w with
  |0=>(Dr st.bs a+Dr st.bs b) % 65536
  |1=>(Dr st.bs a-Dr st.bs b) % 65536
  |2=>Dr st.bs b % 65536),st)
 |.one _ _=>((FU st).1 % 65536,(FU st).2)
 |_=>(0,st)
def carry(st:yZ):mK->Bool×yZ
 |.jump _=>(true,st)
 |.zero b _=>(decide (Dr st.bs b=0),st)
 |.one 0 b=>(false,{st with told:=st.told++[Dr st.bs b]})
 |.halt=>(false,st)
 |.put b n=>(false,{(gy st (.put b n)).2 with bs:=(gy st (.put b n)).2.bs.set b (gy st (.put b n)).1})
 |.two w a b=>(false,{(gy st (.two w a b)).2 with bs:=(gy st (.two w a b)).2.bs.set a (gy st (.two w a b)).1})
 |.one 1 b=>(false,{(gy st (.one 1 b)).2 with bs:=(gy st (.one 1 b)).2.bs.set b (gy st (.one 1 b)).1})
def place(st:yZ)(r:mK)(bh en:Int):Int:=match r with
 |.halt=>en
 |r=>if (carry st r).1=true then ((Gg r).getD 0) else bh
def Hx(K:W.Frag)(C:Addr):Sp:=λvs H Q _=>∃(a:MA) (st:yZ),vs=[.ref a.m]/\MS K C H a st/\∀p,H p=none->Q (.ref p) (upd H p (.tup (iV st.told)))
def D_(T:Txt K mg)(cM:gX K C)(U8:aP K C "told")(F:kj K "told_numbers" "Machine.told_numbers" b7 f fd):aZ P w K mg base aF 1 f fd ["self"] (Hx K C):=by
 refine tJ F fU (by ac_rfl) ?_
 rfl'
 obtain⟨a,st,rfl,M,q⟩:=h;refine⟨_,(Z.ay (Z.ret (Z.ct (Z.c7 K rfl) rfl T.cy ∅ (Z.cons (Z.fld K rfl (Z.v 0)) Z.nil)))),?_⟩
 have e1:sq H a.tl=some (true,iV st.told):=au M.ot;nofun;refine⟨a.m,C,a.dx,_,_,rfl,M.om,cM,U8,E_ a _,?_⟩;simp only[L2.Ap.uv,e1];exactλp hp=>q p hp
def Jk:List Str:=["a","b","c","d","e","f","g","h"]
def EJ(K:W.Frag)(C:Addr):Sp:=λvs H Q _=>∃(a:MA) (st:yZ),vs=[.ref a.m]/\MS K C H a st/\∀p H',H p=none->H' p=some (.tup (iV st.bs))->KB [] H H'->Q (.ref p) H'
def BW(T:Txt K mg)(cM:gX K C)(S6:aP K C "boxes")(F:kj K "box_numbers" "Machine.box_numbers" a_ f fd):aZ P w K mg base aF 1 f fd ["self"] (EJ K C):=by
 obtain⟨b,wP,kt0⟩:=T.l9;have R0:RelV (.ref b) (.ref b):=rfl;have kt:∀H,aW K H b (Jk.map V.str):=kt0;refine tJ F fW (by ac_rfl) ?_
 rfl'
 obtain⟨a,st,rfl,M,q⟩:=h;refine⟨_,(Z.ay (Z.ret (Z.ct (Z.c7 K rfl) rfl T.cy ∅ (Z.cons (Z.mT (osc:=ab a_) (ON:=["self"]) (own:=["box"]) (N:=["box","self"]) (az.of rfl ∅) (Z.seq K rfl (Z.glob rfl wP R0)) (λnd _ _ _ _=>(Z.aA (i:=0) nd rfl (by right))) (λ_ _ _ _=>Z.je) (λ_ _ _ _=>(Z.LH hu (Z.fld K rfl (Z.v 1)) (Z.v 0)))) Z.nil)))),?_⟩
 nofun;refine .inr ⟨⟨_,kt _⟩,?_⟩;have l8:=M.l8;refine aU (xs:=Jk.map V.str) ⋯ (λD i ys H'=>H D=none/\KB [] H H'/\H' D=some (.lst ys)/\ys=iV (st.bs.take i)/\i<=8) (λD hD=>⟨hD,KB.new hD,aa,by simp[iV],by decide⟩) (λD i ys H' ⟨h1,h2,h3,h4,h5⟩=>⟨h3,by rw[h4];unfold iV;rw[Ms,MB];omega⟩) (λD i ys H' _=>kt _) ?_ ?_
 ·rintro D i ys H' x R hx ⟨h1,h2,h3,h4,h5⟩ k;have hi:i<8:=by
   rcases Nt i 8 with c|c
   ·exact c
   ·rw[Nv.mpr (by exact c)] at hx;cases hx
  have ex:x=.str (bD i):=by
   rcases Ji hi with rfl|rfl|rfl|rfl|rfl|rfl|rfl|rfl<;>exact (Option.some.inj hx).symm
  subst ex;have om':=h2 _ _ M.om (by simp)
  have ob':=h2 _ _ M.ob (by simp)
  nofun;refine⟨a.m,C,a.dx,_,_,rfl,om',cM,S6,B_ a _,a.bx,_,rfl,.inl ⟨_,.inr (bD i),.inl ob',rfl,(Hj i hi st.bs l8).symm⟩,?_⟩;refine k _ H' h3 ⟨h1,λb o e _=>?_,aa,?_,by omega⟩
  ·rw[af (ae e h1)];exact h2 b o e (by simp)
  ·have hb:i<st.bs.length:=by omega
   rw[h4,PH hb];unfold iV Dr;rw[MI,Mt hb];rfl
 ·rintro D ys H' ⟨h1,h2,h3,h4,h5⟩;have e1:sq H' D=some (true,ys):=au h3;simp only[L2.Ap.uv,e1];refineλp hp=>q p _ (h2.free (by simp) hp) ?_ (h2.trans (KB.new hp))
  rw[aa,h4];have:st.bs.take (Jk.map V.str).length=st.bs:=Ng (by rw[l8];decide)
  rw[this]
def Jn(g:List Int):yZ:=⟨g,0,[],[0,0,0,0,0,0,0,0]⟩
def IE(K:W.Frag)(C:Addr):Sp:=λvs H Q _=>∃(x dx gv:Addr) (g:List Int),vs=[.ref x,.ref gv]/\H x=some (.ins C dx [])/\H dx=some (.own x)/\H gv=some (.tup (iV g)) /\
 ∀H' tl bx,H tl=none->H bx=none->MS K C H' ⟨x,dx,gv,tl,bx⟩ (Jn g)->KB [x] H H'->Q .aN H'
def CM(T:Txt K mg)(cM:gX K C)(Z1:aP K C "given")(Z0:aP K C "heard")(U8:aP K C "told")(S6:aP K C "boxes")(F:kj K "__init__" "Machine.__init__" b9 f fd):aZ P w K mg base aF 1 f fd ["self","given"] (IE K C):=by
 obtain⟨b,wP,kt0⟩:=T.l9;have R0:RelV (.ref b) (.ref b):=rfl;have kt:∀H,aW K H b (Jk.map V.str):=kt0;refine tJ F iB (by ac_rfl) ?_
 rfl'
 obtain⟨x,dx,gv,g,rfl,ox,od,og,q⟩:=h;refine⟨_,(Z.aq (Z.qu K rfl (Z.v 0) (Z.v 1))
   (Z.aq (Z.qu K rfl (Z.v 0) Z.int)
   (Z.aq (Z.qu K rfl (Z.v 0) (Z.lst Z.nil))
   (Z.ay (Z.qu K rfl (Z.v 0) (Z.ct (sU K rfl) rfl T.He ∅ (Z.cons (Z.mT (osc:=ab b9) (ON:=["self","given"]) (own:=["box"]) (N:=["box","self","given"]) (az.of rfl ∅) (Z.seq K rfl (Z.glob rfl wP R0)) (λnd _ _ _ _=>(Z.aA (i:=0) nd rfl (by right))) (λ_ _ _ _=>Z.je) (λ_ _ _ _=>(Z.tup (Z.cons (Z.v 0) (Z.cons Z.int Z.nil))))) Z.nil))))))),?_⟩
 have ndx:dx≠x:=by rintro rfl;rw[ox] at od;cases od
 have ngx:gv≠x:=by rintro rfl;rw[ox] at og;cases og
 symm;nofun;refine⟨x,C,dx,_,rfl,ox,cM,Z1,by decide,?_⟩
 rw[hN];symm;nofun;refine⟨x,C,dx,_,rfl,aa,cM,Z0,(show 1<1000 by decide),?_⟩
 rw[hN];rw[pz];symm;nofun;refine⟨by decide,λtl htl=>?_⟩
 have ntl:tl≠x:=by rintro rfl;rw[aa] at htl;cases htl
 have htl0:H tl=none:=by rw[af ntl] at htl;exact htl
 refine⟨x,C,dx,cR "heard" (.int 0) (cR "given" (.ref gv) []),rfl,by rw[af ntl.symm];exact aa,cM,U8,(show 2<1000 by decide),?_⟩
 rw[hN];have ntd:tl≠dx:=λe=>by rw[e,od] at htl0;cases htl0
 have ntg:tl≠gv:=λe=>by rw[e,og] at htl0;cases htl0
 obtain⟨H3,e3⟩:∃H3,H3=upd (upd (upd H x (.ins C dx (cR "heard" (.int 0) (cR "given" (.ref gv) [])))) tl (.lst [])) x (.ins C dx (cR "told" (.ref tl) (cR "heard" (.int 0) (cR "given" (.ref gv) [])))):=⟨_,rfl⟩;rw[<- e3];have x3:H3 x=some (.ins C dx [("given",.ref gv),("heard",.int 0),("told",.ref tl)]):=by rw[e3];exact aa
 have t3:H3 tl=some (.lst []):=by rw[e3,af ntl];exact aa
 have d3:H3 dx=some (.own x):=by rw[e3,af ndx,af ntd.symm,af ndx];exact od
 have g3:H3 gv=some (.tup (iV g)):=by rw[e3,af ngx,af ntg.symm,af ngx];exact og
 have k3:KB [x] H H3:=by
  rw[e3];exact ((KB.set (by simp)).trans (KB.new htl)).trans (KB.set (by simp))
 nofun;refine .inr ⟨⟨_,kt _⟩,?_⟩;refine aU (xs:=Jk.map V.str) ⋯ (λD i ys H'=>H3 D=none/\KB [] H3 H'/\H' D=some (.lst ys)/\ys.length=i/\i<=8/\∀j,j<i->∃p,ys[j]?=some (.ref p)/\H' p=some (.tup [.str (bD j),.int 0])) (λD hD=>⟨hD,KB.new hD,aa,rfl,by decide,λj hj=>absurd hj (Po _)⟩) (λD i ys H' ⟨h1,h2,h3,h4,h5⟩=>⟨h3,h4⟩) (λD i ys H' _=>kt _) ?_ ?_
 ·rintro D i ys H' z R hx ⟨h1,h2,h3,h4,h5,h6⟩ k;have hi:i<8:=by
   rcases Nt i 8 with c|c
   ·exact c
   ·rw[Nv.mpr (by exact c)] at hx;cases hx
  have ex:z=.str (bD i):=by
   rcases Ji hi with rfl|rfl|rfl|rfl|rfl|rfl|rfl|rfl<;>exact (Option.some.inj hx).symm
  subst ex;nofun;refine⟨by decide,λp hp=>?_⟩
  have npD:p≠D:=by rintro rfl;rw[h3] at hp;cases hp
  refine k _ _ (by rw[af npD.symm];exact h3) ⟨h1,λc o e _=>?_,aa,by rw[Mx,h4];rfl,by omega,λj hj=>?_⟩
  ·have hc:=h2 c o e (by simp)
   rw[af (ae e h1),af (ae hc hp)];exact hc
  ·rcases Nt j i with c|c
   ·obtain⟨p',e1,e2⟩:=h6 j c;have n1:p'≠D:=by rintro rfl;rw[h3] at e2;cases e2
    exact⟨p',by rw[MU (by omega)];exact e1,by rw[af n1,af (ae e2 hp)];exact e2⟩
   ·have:j=i:=by omega
    subst this;exact⟨p,by rw[MR (by omega),h4];simp,by rw[af npD];exact aa⟩
 ·rintro D ys H' ⟨h1,h2,h3,h4,h5,h6⟩;have hl:(Jk.map V.str).length=8:=rfl;rw[hl] at h4 h6;refine⟨D,ys,Jr.zip (iV (Jn g).bs),rfl,h3,⟨h4,λj k z e=>?_⟩,(show 8<=20000 by decide),λp hp=>?_⟩
  ·have hj:j<8:=by
    rcases Nt j 8 with c|c
    ·exact c
    ·rw[Nv.mpr (by exact c)] at e;cases e
   obtain⟨p,e1,e2⟩:=h6 j hj;refine⟨p,e1,?_⟩;rw[e2];rcases Ji hj with rfl|rfl|rfl|rfl|rfl|rfl|rfl|rfl<;>(cases e;rfl)
  ·have hm:h_ [] (Jr.zip (iV (Jn g).bs))=Jr.zip (iV (Jn g).bs):=by
    rw[Y.oQ _ [] ?_,Ob];show (Jr.map λk=>k).Nodup
    decide +kernel
   rw[hm];have x4:=h2 _ _ x3 (by simp)
   have t4:=h2 _ _ t3 (by simp)
   have d4:=h2 _ _ d3 (by simp)
   have g4:=h2 _ _ g3 (by simp)
   have px:p≠x:=λe=>by rw[e,x4] at hp;cases hp
   have pt:p≠tl:=λe=>by rw[e,t4] at hp;cases hp
   have pd:p≠dx:=λe=>by rw[e,d4] at hp;cases hp
   have pg:p≠gv:=λe=>by rw[e,g4] at hp;cases hp
   have hp3:H3 p=none:=h2.free (by simp) hp
   have hp0:H p=none:=k3.free (by simpa using px) hp3
   refine⟨x,C,dx,[("given",.ref gv),("heard",.int 0),("told",.ref tl)],rfl,by rw[af px.symm];exact x4,cM,S6,(show 3<1000 by decide),?_⟩
   refine q _ tl p htl0 hp0 ⟨aa,by rw[af ndx,af pd.symm];exact d4,by rw[af ngx,af pg.symm];exact g4,by rw[af ntl,af pt.symm];exact t4,by rw[af px];exact aa,rfl,MG _⟩ ?_
   exact ((k3.trans h2.all).trans (KB.new hp)).trans (KB.set (by simp))
def Kn{m:Str}{a:MA}{h:Nat}(h1:m≠"given")(h2:m≠"heard")(h3:m≠"told")(h4:m≠"boxes"):(Ku a h).lookup m=none:=by
 unfold Ku;rw[Ny,Nh.mpr h1,Ny,Nh.mpr h2,Ny,Nh.mpr h3,Ny,Nh.mpr h4];rfl
def MS.kb{a:MA}{st:yZ}(M:MS K C H a st)(k:KB [] H H'):MS K C H' a st:=⟨k _ _ M.om (by simp),k _ _ M.od (by simp),k _ _ M.og (by simp),k _ _ M.ot (by simp),k _ _ M.ob (by simp),M.l8,M.hh⟩
def Cj(rs:List Row):Str:=if 0<rs.length then "more" else "halt"
def Bg:Sp:=λvs H Q _=>∃(a gv:Addr) (rs:List Row),vs=[.ref a,.ref gv,.int 0]/\kl H a rs/\H gv=some (.tup [])/\rs.length<=64/\∀t p1 p2 p3 H',KB [] H H'->H' t=some (.tup [.str (Cj rs),.ref p1,.ref p2,.ref p3])->H' p1=some (.tup [])->Q (.ref t) H'
def Dj(T:Txt K mg)(F:HasFn K mg "run_rows" gA ["program","given","most"]):ao P w K mg base aF 7 "run_rows" ["program","given","most"] Bg:=by
 obtain⟨C_Machine,af6,cM,Z1,Z0,U8,S6,⟨V7,V8,v6,wS,f8⟩,⟨ab9,ac0,aa4,FM_place_next,ab1⟩,⟨f_told_numbers,d_told_numbers,Y4,Y8,Y6⟩,⟨f_box_numbers,d_box_numbers,Z2,aa3,aa1⟩⟩:=T.mc;have ab2:aZ P w K mg base aF 1 ab9 ac0 ["self","row","behind","end"] (λ_ _ _ _=>False):=FM_place_next.ok gS (λvs H Q E h=>h.elim) (λcdv A outer s H vs Q E hr h=>h.elim);have Y7:=D_ (P:=P) (w:=w) (mg:=mg) (base:=base) T cM U8 Y8;have aa2:=BW (P:=P) (w:=w) (mg:=mg) (base:=base) T cM S6 aa3;have dL:=CM (P:=P) (w:=w) (mg:=mg) (base:=base) T cM Z1 Z0 U8 S6 wS;refine F.dH bR (by ac_rfl) ?_
 left
 obtain⟨pa,gv,rs,rfl,hp,og1,hl,q⟩:=h;refine⟨_,(Z.aq (Z.se (i:=3) bR.nd (Z.make K rfl v6 dL (hr.mono ⋯) rfl af6 f8 cg (Z.cons (Z.v 1) Z.nil)))
   (Z.aq (Z.sec (j:=4) bR.nd (osc:=ab gA) (ON:=["program","given","most","machine","turns","at","done","how"]) (own:=["row"]) (N:=["row","program","given","most","machine","turns","at","done","how"]) (az.of rfl ∅) (Z.any K rfl (Z.v 0)) (λnd _ _ _ _=>(Z.aA (i:=0) nd rfl (by right))) (λ_ _ _ _=>Z.je) (λ_ _ _ _=>Z.int))
   (Z.aq (Z.se (i:=5) bR.nd Z.int)
   (Z.aq (Z.se (i:=6) bR.nd Z.int)
   (Z.aq (Z.uO Nd (Z.tw (Z.rj (Z.aK e_ (Z.v 5) (Z.cb (Z.bL K rfl) rfl T.bA ∅ (Z.cons (Z.v 0) Z.nil))) (Z.ko (Z.aK e_ (Z.v 6) (Z.v 2))))) (Z.aq (Z.asg (Z.op (Z.aI K rfl) (Z.ix (Z.aD K rfl hu) (Z.v 4) (Z.v 5)) Z.int) (Z.nK (Z.v 4) (Z.v 5)))
   (Z.aq (Z.se (i:=6) bR.nd (Z.op (Z.aI K rfl) (Z.v 6) Z.int))
   (Z.ay (Z.se (i:=5) bR.nd (Z.nM K rfl (Z.v 3) cM aa4 ab2 (hr.mono ⋯) ab1 cg (Z.cons (Z.ix (Z.aD K rfl hu) (Z.v 0) (Z.v 5)) (Z.cons (Z.op (Z.aI K rfl) (Z.v 5) Z.int) (Z.cons (Z.cb (Z.bL K rfl) rfl T.bA ∅ (Z.cons (Z.v 0) Z.nil)) Z.nil)))))))))
   (Z.aq (Z.se (i:=7) bR.nd (Z.Ag (Z.aK e_ (Z.v 5) (Z.cb (Z.bL K rfl) rfl T.bA ∅ (Z.cons (Z.v 0) Z.nil))) Z.str Z.str))
   (Z.ay (Z.ret (Z.tup (Z.cons (Z.v 7) (Z.cons (Z.mZ K rfl (Z.v 3) cM Y4 Y7 (hr.mono ⋯) Y6 cg) (Z.cons (Z.ct (Z.c7 K rfl) rfl T.cy ∅ (Z.cons (Z.v 4) Z.nil)) (Z.cons (Z.mZ K rfl (Z.v 3) cM Z2 aa2 (hr.mono ⋯) aa1 cg) Z.nil))))))))))))),?_⟩
 symm;nofun;intro x dx hx0 hdx0 hxd;have gx:gv≠x:=λzz=>by rw[zz,hx0] at og1;cases og1
 have gd:gv≠dx:=λzz=>by rw[zz,hdx0] at og1;cases og1
 refine⟨x,dx,gv,[],rfl,aa,by rw[af hxd];exact aa,by rw[af gx,af gd];exact og1,λH2 tl bx _ _ M2 kb2=>⟨rfl,?_⟩⟩
 have k12:KB [] H H2:=λc o e _=>kb2 c o (by rw[af (ae e hx0),af (ae e hdx0)];exact e) (by simpa using ae e hx0)
 obtain⟨a,ea⟩:∃a:MA,a=⟨x,dx,gv,tl,bx⟩:=⟨_,rfl⟩;have em:x=a.m:=by rw[ea]
 rw[<- ea] at M2;rw[em];rw[hN];symm;obtain⟨ps,hps,hpa⟩:=hp.kb k12;have hpl:=hpa.1;exists a8 hps;refine aU (xs:=ps.map V.ref) (Mz (show _<=64 by rw[Ms];lia) ⋯) (λD i ys H'=>H2 D=none/\H' D=some (.lst ys)/\KB [] H2 H'/\ys.length=i) (λD hD=>⟨hD,aa,KB.new hD,rfl⟩) (λD i ys H' h=>⟨h.2.1,h.2.2.2⟩) (λD i ys H' h=>aW.of (h.2.2.1.n hps)) ?_ ?_
 ·rintro D i ys H' z R hz ⟨g0,g1,gk,e⟩ kk;nofun;exact kk _ _ g1 ⟨g0,aa,λu o e _=>by rw[af (ae e g0)];exact gk.n e,by rw[Mx,e];rfl⟩
 rintro tn ys H3 ⟨_,gtn,k3,_⟩;have M3:=M2.kb k3;have hps3:=k3.n hps;show N _ _;rw[hN];symm;nofun;rw[hN];symm;nofun;rw[hN];symm;refine⟨λm σ H'=>σ=[some (V.ref pa),some (V.ref gv),some (V.int 0),some (V.ref a.m),some (V.ref tn),some (V.int 0),some (V.int 0),none]/\H'=H3,⟨0,rfl,rfl⟩,?_⟩;rintro m σ H4 ⟨rfl,rfl⟩;have fin:N [some (V.ref pa),some (V.ref gv),some (V.int 0),some (V.ref a.m),some (V.ref tn),some (V.int 0),some (V.int 0),none] H4:=by
  rw[hN];symm;have ret:N [some (V.ref pa),some (V.ref gv),some (V.int 0),some (V.ref a.m),some (V.ref tn),some (V.int 0),some (V.int 0),some (V.str (Cj rs))] H4:=by
   rw[hN];nofun;refine⟨a.m,a.dx,_,rfl,M3.om,Kn ∅ ∅ ∅ ∅,a,_,rfl,M3,λp1 hp1=>?_⟩
   obtain⟨k5,t5⟩:=bS hp1 (.tup (iV (Jn []).told));generalize upd H4 p1 (.tup (iV (Jn []).told))=H5 at *;have M5:=M3.kb k5;exists au (k5.n gtn);intro p2 hp2;obtain⟨k6,t6⟩:=bS hp2 (.tup ys);generalize upd H5 p2 _=H6 at *;have M6:=M5.kb k6;refine⟨a.m,a.dx,_,rfl,M6.om,Kn ∅ ∅ ∅ ∅,a,_,rfl,M6,λp3 H7 hp3 t7 k7=>?_⟩
   refine⟨by decide,λp4 hp4=>?_⟩
   obtain⟨k8,t8⟩:=bS hp4 (.tup [.str (Cj rs),.ref p1,.ref p2,.ref p3]);generalize upd H7 p4 _=H8 at *;exact q _ _ _ _ _ (k12.trans (k3.trans (k5.trans (k6.trans (k7.trans k8))))) t8 ((k6.trans (k7.trans k8)).n t5)
  exists a8 hps3,Ms,hpl;unfold Cj at ret;by_cases c1:0<rs.length
  ·rw[MD c1] at ret;rw[MD (show (0:Int)<(rs.length:Nat) by lia)]
   exact ret
  ·rw[M4 c1] at ret;rw[M4 (show ¬ (0:Int)<(rs.length:Nat) by lia)]
   exact ret
 exists a8 hps3,Ms,hpl;by_cases c1:(0:Int)<(rs.length:Nat)
 ·rw[MD c1,M4 (show ¬ (0:Int)<0 by decide)]
  exact fin
 ·rw[M4 c1];exact fin
def wI(CD CK:Addr):Sp:=λvs H Q _=>∃(dd k dxk b pa:Addr) (bk:List (List Int)) (rs:List Row),vs=[.ref dd,.ref pa]/\kg CD CK H dd k dxk b bk rs/\rs.length<=60/\H pa=some (.lst (sV [bc 0]))/\∀t p1 p2 p3 H',KB [] H H'->H' t=some (.tup [.str (Cj rs),.ref p1,.ref p2,.ref p3])->H' p1=some (.tup [])->Q (.ref t) H'
def CP(T:Txt K mg)(M:KM P w K mg base CK)(v0:gX K CD)(u5:aP K CD "kept")(T1:ao P w K mg base aF 2 "read_number" ["text","greatest"] qM)(ab0:ao P w K mg base aF 3 "asked_number" ["text"] (λ_ _ _ _=>False))(ag2:ao P w K mg base aF 7 "run_rows" ["program","given","most"] Bg)(F:kj K "asked_run" "Desk.asked_run" bP f fd):aZ P w K mg base aF 8 f fd ["self","parts"] (wI CD CK):=by
 obtain⟨u_M,V0,U9⟩:=T.jd;obtain⟨f_q,d_q,wE,S1,sK⟩:=M.prog;have xL:=M.cM;refine tJ F eV (by ac_rfl) ?_
 rfl'
 obtain⟨dd,k,dxk,b,pa,bk,rs,rfl,D,h60,hpa,q⟩:=h;refine⟨_,(Z.aq (Z.se (i:=2) eV.nd (Z.Ag (Z.aK (Y.mI K rfl (Oq hu)) (Z.v 1) (Z.lst Z.nil)) Z.aN (Z.fc T1 (Z.cons (Z.ix (Z.aD K rfl hu) (Z.v 1) Z.int) (Z.cons (Z.glob rfl V0 U9) Z.nil)))))
   (Z.aq (Z.dz (Z.aK g_ (Z.v 2) Z.aN) (Z.ay Z.vL) Z.bp)
   (Z.ay (Z.ret (Z.fc ag2 (Z.cons (Z.mZ K rfl (Z.fld K rfl (Z.v 0)) xL wE S1 (hr.mono ⋯) sK cg) (Z.cons (Z.ct (Z.c7 K rfl) rfl T.cy ∅ (Z.cons (Z.mT (osc:=ab bP) (ON:=["self","parts","most"]) (own:=["part"]) (N:=["part","self","parts","most"]) (az.of rfl ∅) (Z.any K rfl (Z.slice (Z.pL K rfl) (Z.v 1) (Z.nG Z.int) Z.nI)) (λnd _ _ _ _=>(Z.aA (i:=0) nd rfl (by right))) (λ_ _ _ _=>Z.je) (λ_ _ _ _=>(Z.fc ab0 (Z.cons (Z.v 0) Z.nil)))) Z.nil)) (Z.cons (Z.v 2) Z.nil)))))))),?_⟩
 symm;nofun;refine⟨MG _,λe0 he0=>?_⟩;obtain⟨k1,z1⟩:=bS he0 (.lst []);generalize upd H e0 _=H1 at *;have pa1:=k1.n hpa;refine⟨pa,e0,_,rfl,rfl,aT.of pa1,aT.of z1,_,rfl,?_⟩;rw[M4 (show ¬ (sV [bc 0]).isEmpty=true from ML)];simp only[L2.Ap.Ge,au pa1,rZ];refine⟨bc 0,400,rfl,by decide +kernel,by decide,λH2 k2=>?_⟩
 rw[jX ⋯]
 show N [_,_,some (V.int 0)] _;rw[hN];have pa2:=k2.n pa1;have D2:=D.kb (k1.trans k2);obtain⟨dx,od⟩:=D2.d;obtain⟨a0,ok0,pr0⟩:=D2.s.ex;symm;nofun;rw[M4 (show ¬ V.int 0=V.aN from λz=>nomatch z),hN];nofun;refine⟨dd,CD,dx,_,_,rfl,od,v0,u5,rfl,k,dxk,_,rfl,ok0,gK ∅ ∅,k,dxk,b,bk,rs,rfl,D2.s,λra pr=>?_⟩
 exists au pa2;intro l hl;rw[AQ];obtain⟨k3,l3⟩:=bS hl (.lst []);have:(.lst (sV []):HO)=.lst []:=rfl;rw[this];generalize upd H2 l _=H3 at *;refine cP (xs:=[]) (MG _) (λD' i ys H'=>H' D'=some (.lst [])/\KB [] H3 H'/\ys=[]/\i=0) (λD' hD=>⟨aa,KB.new hD,rfl,rfl⟩) ?_ ?_ ?_ ?_
 ·rintro D' i ys H' ⟨h2,h3,rfl,rfl⟩;exact⟨h2,rfl⟩
 ·rintro D' i ys H' ⟨h2,h3,_⟩;exact aT.of (h3.n l3)
 ·rintro D' i ys H' x R ex;cases ex
 rintro D' ys H4 ⟨h2,h3,rfl,_⟩;exists au h2;intro tp htp;obtain⟨k5,t5⟩:=bS htp (.tup []);generalize upd H4 tp _=H5 at *;have k25:=k3.trans (h3.trans k5);exact⟨ra,tp,rs,rfl,pr.kb k25,t5,by lia,λt p1 p2 p3 H6 k6 t6 p6=>q t p1 p2 p3 H6 (k1.trans (k2.trans (k25.trans k6))) t6 p6⟩
def w_(CD CK:Addr):Sp:=λvs H Q _=>∃(dd k dxk b pa:Addr) (bk:List (List Int)) (rs:List Row),vs=[.ref dd,.ref pa]/\kg CD CK H dd k dxk b bk rs/\rs.length<=60/\H pa=some (.lst (sV [bc 0]))/\∀l H',H l=none->KB [] H H'->H' l=some (.lst (sV [Cj rs]))->Q (.ref l) H'
def DL(T:Txt K mg)(v0:gX K CD)(S8:Meth K CD "asked_run" f_a)(ac3:aZ P w K mg base aF 8 f_a d_a ["self","parts"] (wI CD CK))(T6:Binds K d_a ["self","parts"] [])(F:kj K "run_shown" "Desk.run_shown" bO f fd):aZ P w K mg base aF 9 f fd ["self","parts"] (w_ CD CK):=by
 refine tJ F fj (by ac_rfl) ?_
 rfl'
 obtain⟨dd,k,dxk,b,pa,bk,rs,rfl,D,h60,hpa,q⟩:=h;refine⟨_,(Z.aq (Z.se (i:=2) fj.nd (Z.nM K rfl (Z.v 0) v0 S8 ac3 (hr.mono ⋯) T6 cg (Z.cons (Z.v 1) Z.nil)))
   (Z.ay (Z.ret (Z.op (Z.aI K rfl) (Z.lst (Z.cons (Z.ix (Z.aD K rfl hu) (Z.v 2) Z.int) Z.nil)) (Z.mT (osc:=ab bO) (ON:=["self","parts","run"]) (own:=["number"]) (N:=["number","self","parts","run"]) (az.of rfl ∅) (Z.any K rfl (Z.ix (Z.aD K rfl hu) (Z.v 2) Z.int)) (λnd _ _ _ _=>(Z.aA (i:=0) nd rfl (by right))) (λ_ _ _ _=>Z.je) (λ_ _ _ _=>(Z.ct cz rfl T.iq ∅ (Z.cons (Z.v 0) Z.nil)))))))),?_⟩
 obtain⟨dx,od⟩:=D.d;symm;nofun;refine⟨dd,dx,_,rfl,od,DB ∅,dd,k,dxk,b,pa,bk,rs,rfl,D,h60,hpa,λt p1 p2 p3 H1 k1 a1 a2=>?_⟩
 rw[hN];exists a8 a1,uK,Hk;refine⟨by decide,λf1 hf1=>?_⟩
 obtain⟨k2,s2⟩:=bS hf1 (.lst [V.str (Cj rs)]);generalize upd H1 f1 _=H2 at *;have a12:=k2.n a1;have a22:=k2.n a2;exists a8 a12,Hk,a8 a22;refine aU (xs:=[]) (MG _) (λD' i ys H'=>H2 D'=none/\H' D'=some (.lst [])/\KB [] H2 H'/\ys=[]/\i=0) (λD' hD=>⟨hD,aa,KB.new hD,rfl,rfl⟩) (λD' i ys H' h=>by obtain⟨_,h1,_,rfl,rfl⟩:=h;exact⟨h1,rfl⟩) (λD' i ys H' h=>aW.of (h.2.2.1.n a22)) ?_ ?_
 ·rintro D' i ys H' x R ex;cases ex
 rintro D2 ys H3 ⟨hD2,s3,k3,rfl,_⟩;have s23:=k3.n s2;exists s23,s3;refine⟨by decide,λl hl=>?_⟩
 exact q l _ ((k1.trans (k2.trans k3)).free (by simp) hl) (k1.trans (k2.trans (k3.trans (KB.new hl)))) aa
def putL(p:Nat)(r:Row):Str:=Str.join " " ("put"::bc p::r.ps.map iG.x)
def sG(p:Nat):Str:=Str.join " " ["take",bc p]
def jM(z:Str)(ws:List Str):Prop:=z=Str.join " " ws/\ws≠[]/\∀x∈ws,32∉cp x
def cT{ws:List Str}(h:jM z ws):Txt.split z " "=ws:=by
 obtain⟨rfl,h1,h2⟩:=h;rw[blank];exact iQ h1 h2
def ji{w:Str}{ws:List Str}(h:jM z (w::ws))(h0:ws≠[]){y:Str}(hy:32∉cp y):z≠y:=λe=>by
 have hs:=cT h;rw[e] at hs;have h1:=iQ (c:=32) (xs:=[y]) (by simp) (by simpa using hy)
 rw[blank,show y=Str.join ⟨#[32]⟩ [y] from rfl,h1] at hs
 cases ws with
 |nil=>exact h0 rfl
 |cons a ws=>cases hs
def mh(p:Nat)(r:Row):jM (putL p r) ("put"::bc p::r.ps.map iG.x):=⟨rfl,by simp,λx hx=>by
 rcases M0.mp hx with rfl|hx
 ·decide +kernel
 ·rcases M0.mp hx with rfl|hx
  ·exact ni p ⋯
  ·exact parts_free r ⋯ x hx⟩
def jS(p:Nat):jM (sG p) ["take",bc p]:=⟨rfl,by simp,λx hx=>by
 rcases M0.mp hx with rfl|hx
 ·decide +kernel
 ·rw[MH.mp hx];exact ni p ⋯⟩
def lH:jM "run 0" ["run",bc 0]:=⟨by decide +kernel,by simp,by decide +kernel⟩
def ny{bk:List (List Int)}{rs:List Row}(hB:Bk bk)(h60:rs.length<=60)(aH:∀r∈rs,r.Ok rs.length):(nZ (hW bk rs)).dropLast.length<=1000/\∀n∈(nZ (hW bk rs)).dropLast,Jj n:=by
 have sl:(eW (d5 bk) rs).length=rs.length:=Ms ..;have gl:(rs.map a7).length=rs.length:=Ms ..;have hs:∀s∈eW (d5 bk) rs,s<=150:=λs hs=>by
  obtain⟨r,hr,rfl⟩:=Nc.mp hs;have:=dh hB.cd (aH r hr);lia
 obtain⟨l1,_⟩:=zp (ss:=eW (d5 bk) rs) (gs:=rs.map a7) hs (by lia) (by rw[gl,sl])
 refine⟨?_,λn hn=>?_⟩
 ·rw[Qf,uC];unfold hW nL;rw[ff _ _ _ _ (by rw[gl,sl]) (by rw[l1])]
  lia
 ·obtain⟨v,hv,rfl⟩:=Nc.mp ((List.dropLast_sublist _).subset hn);have:=(ug _ _ _ _ hs v hv).2;exact wQ (by lia)
def r_{bk:List (List Int)}(h:Bk bk):∀l∈bk,l.length<=1000/\∀n∈l,Jj n:=by
 obtain⟨l0,l1,l2,rfl,e0,e1,e2,h4⟩:=h;intro l hl;have h5:=(h4 l hl).1.2.2;refine⟨by simp only[M0,MP,Nl] at hl;rcases hl with rfl|rfl|rfl<;>lia,λn hn=>?_⟩
 have:=h5 n hn;obtain⟨m,rfl⟩:∃m:Nat,n=m:=⟨n.toNat,by lia⟩
 exact wQ (by lia)
def oA(CD CK:Addr):Sp:=λvs H Q _=>∃(dd k dxk b:Addr) (bk:List (List Int)) (rs:List Row) (z:Str),vs=[.ref dd,.str z]/\kg CD CK H dd k dxk b bk rs/\Bk bk/\(∀r∈rs,r.Ok rs.length)/\rs.length<=60 /\
  ((z="rows"/\∀l H',H l=none->KB [] H H'->H' l=some (.lst (sV (rs.map Row.line)))->Q (.ref l) H') \/
   (z="bits"/\∀l H',H l=none->KB [] H H'->H' l=some (.lst (sV [wd (dO bk rs)]))->Q (.ref l) H') \/
   (z="places"/\∀l H',H l=none->KB [] H H'->H' l=some (.lst (sV [spS (nZ (hW bk rs)).dropLast]))->Q (.ref l) H') \/
   (z="book"/\∀l H',H l=none->KB [] H H'->H' l=some (.lst (sV (bk.map spS)))->Q (.ref l) H') \/
   (∃(p:Nat) (r:Row),z=putL p r/\p<=rs.length/\rs.length<60/\r.Ok (rs.length+1)/\∀l H',H l=none->H' l=some (.lst [])->kg CD CK H' dd k dxk b bk (iU p r rs)->KB [k] H H'->Q (.ref l) H') \/
   (∃p:Nat,z=sG p/\p<rs.length/\∀l H',H l=none->H' l=some (.lst [])->kg CD CK H' dd k dxk b bk (qx p rs)->KB [k] H H'->Q (.ref l) H') \/
   (z="run 0"/\∀l H',H l=none->KB [] H H'->H' l=some (.lst (sV [Cj rs]))->Q (.ref l) H'))
def Ib{f_r f_c:Addr}{d_r d_c:FuncData}(T:Txt K mg)(M:KM P w K mg base CK)(v0:gX K CD)(u5:aP K CD "kept")(ae9:ao P w K mg base aF 1 "row_shown" ["row"] m8)(U2:ao P w K mg base aF 1 "numbers_shown" ["numbers"] j1)(S7:Meth K CD "run_shown" f_r)(ac2:aZ P w K mg base aF 9 f_r d_r ["self","parts"] (w_ CD CK))(T5:Binds K d_r ["self","parts"] [])(W7:Meth K CD "change" f_c)(ah4:aZ P w K mg base aF 7 f_c d_c ["self","word","parts"] (Fw CD CK))(X7:Binds K d_c ["self","word","parts"] [])(F:kj K "ask" "Desk.ask" d9 f fd):aZ P w K mg base aF 10 f fd ["self","line"] (oA CD CK):=by
 obtain⟨f_q,d_q,wE,S1,sK⟩:=M.prog;obtain⟨f_b,d_b,ab4,aj6,ac1⟩:=M.bits;obtain⟨f_p,d_p,W6,ah3,X6⟩:=M.places;have xL:=M.cM;have cc:=M.cc;refine tJ F ki (by ac_rfl) ?_
 rfl'
 obtain⟨dd,k,dxk,b,bk,rs,z,rfl,D,hB,aH,h60,h⟩:=h;obtain⟨dx,od⟩:=D.d;obtain⟨a0,ok0,pr0⟩:=D.s.ex;refine⟨_,(Z.aq (Z.dz (Z.aK aY (Z.v 1) Z.str) (Z.ay (Z.ret (Z.mT (osc:=ab d9) (ON:=["self","line","parts"]) (own:=["row"]) (N:=["row","self","line","parts"]) (az.of rfl ∅) (Z.any K rfl (Z.mZ K rfl (Z.fld K rfl (Z.v 0)) xL wE S1 (hr.mono ⋯) sK cg)) (λnd _ _ _ _=>(Z.aA (i:=0) nd rfl (by right))) (λ_ _ _ _=>Z.je) (λ_ _ _ _=>(Z.fc ae9 (Z.cons (Z.v 0) Z.nil)))))) Z.bp)
   (Z.aq (Z.dz (Z.aK aY (Z.v 1) Z.str) (Z.ay (Z.ret (Z.lst (Z.cons (Z.mZ K rfl (Z.fld K rfl (Z.v 0)) xL ab4 aj6 (hr.mono ⋯) ac1 cg) Z.nil)))) Z.bp)
   (Z.aq (Z.dz (Z.aK aY (Z.v 1) Z.str) (Z.ay (Z.ret (Z.lst (Z.cons (Z.fc U2 (Z.cons (Z.mZ K rfl (Z.fld K rfl (Z.v 0)) xL W6 ah3 (hr.mono ⋯) X6 cg) Z.nil)) Z.nil)))) Z.bp)
   (Z.aq (Z.dz (Z.aK aY (Z.v 1) Z.str) (Z.ay (Z.ret (Z.mT (osc:=ab d9) (ON:=["self","line","parts"]) (own:=["lengths"]) (N:=["lengths","self","line","parts"]) (az.of rfl ∅) (Z.any K rfl (Z.fld K rfl (Z.fld K rfl (Z.v 0)))) (λnd _ _ _ _=>(Z.aA (i:=0) nd rfl (by right))) (λ_ _ _ _=>Z.je) (λ_ _ _ _=>(Z.fc U2 (Z.cons (Z.v 0) Z.nil)))))) Z.bp)
   (Z.aq (Z.se (i:=2) ki.nd (Z.bm K rfl PySem.F.plainAttrs_str PySem.F.slot_str_split PySem.F.type_str_split so (Z.v 1) (Z.cons Z.str Z.nil)))
   (Z.aq (Z.dz (Z.aK aY (Z.ix (Z.aD K rfl hu) (Z.v 2) Z.int) Z.str) (Z.ay (Z.ret (Z.nM K rfl (Z.v 0) v0 S7 ac2 (hr.mono ⋯) T5 cg (Z.cons (Z.slice (Z.pL K rfl) (Z.v 2) (Z.nG Z.int) Z.nI) Z.nil)))) Z.bp)
   (Z.aq (Z.expr (Z.nM K rfl (Z.v 0) v0 W7 ah4 (hr.mono ⋯) X7 cg (Z.cons (Z.ix (Z.aD K rfl hu) (Z.v 2) Z.int) (Z.cons (Z.slice (Z.pL K rfl) (Z.v 2) (Z.nG Z.int) Z.nI) Z.nil))))
   (Z.ay (Z.ret (Z.lst Z.nil)))))))))),?_⟩
 rcases h with ⟨rfl,q⟩|h
 ·symm;nofun;refine⟨dd,CD,dx,_,_,rfl,od,v0,u5,rfl,k,dxk,_,rfl,ok0,gK ∅ ∅,k,dxk,b,bk,rs,rfl,D.s,λra pr=>?_⟩
  obtain⟨as,o1,o2⟩:=pr;have hal:=o2.1;exists a8 o1;refine aU (xs:=as.map V.ref) (Mz (show _<=64 by rw[Ms];lia) ⋯) (λD' i ys H'=>H D'=none/\H' D'=some (.lst ys)/\KB [] H H'/\ys=sV ((rs.take i).map Row.line)/\i<=rs.length) (λD' hD=>⟨hD,aa,KB.new hD,rfl,MG _⟩) (λD' i ys H' h=>⟨h.2.1,by rw[h.2.2.2.1,sV,Ms,Ms,MB];have:=h.2.2.2.2;lia⟩) (λD' i ys H' h=>aW.of (h.2.2.1.n o1)) ?_ ?_
  ·rintro D' i ys H' x R hx ⟨g0,g1,gk,rfl,hi⟩ kk;obtain⟨c,ec,rfl⟩:∃c,as[i]?=some c/\x=.ref c:=by
    rw[M7] at hx;obtain⟨c,e,rfl⟩:=MT.mp hx;exact⟨c,e,rfl⟩
   have hlt:i<rs.length:=by have:=(Mw.mp ec).1;lia
   have er:=Mt hlt;nofun;refine⟨c,rs[i],rfl,gk.n (o2.2 i c _ ec er),(aH _ (MQ hlt)).mono (by lia),λH5 k5=>?_⟩
   exact kk _ _ (k5.n g1) ⟨g0,aa,λu o e _=>by rw[af (ae e g0)];exact k5.n (gk.n e),by rw[Ni,er];unfold sV;rw[MI,MI];rfl,hlt⟩
  rintro D' ys H' ⟨g0,g1,gk,rfl,_⟩;rw[Ms,hal,Na] at g1;exact q D' H' g0 gk g1
 rcases h with ⟨rfl,q⟩|h
 ·symm;nofun;rw[M4 ∅,hN]
  symm;nofun;refine⟨dd,CD,dx,_,_,rfl,od,v0,u5,rfl,k,dxk,_,rfl,ok0,gK ∅ ∅,k,dxk,b,bk,rs,rfl,D.s,hB,by lia,aH,λH1 k1=>⟨by decide,λl hl=>?_⟩⟩
  exact q l _ (k1.free (by simp) hl) (k1.trans (KB.new hl)) aa
 rcases h with ⟨rfl,q⟩|h
 ·symm;nofun;rw[M4 ∅,hN]
  symm;nofun;rw[M4 ∅,hN]
  symm;nofun;refine⟨dd,CD,dx,_,_,rfl,od,v0,u5,rfl,k,dxk,_,rfl,ok0,gK ∅ ∅,k,dxk,b,bk,rs,rfl,D.s,hB,by lia,aH,λu H1 k1 e1=>?_⟩
  refine⟨false,u,(nZ (hW bk rs)).dropLast,rfl,e1,?_,?_,λH2 k2=>⟨by decide,λl hl=>?_⟩⟩
  ·exact (ny hB h60 aH).1
  ·exact (ny hB h60 aH).2
  exact q l _ ((k1.trans k2).free (by simp) hl) (k1.trans (k2.trans (KB.new hl))) aa
 rcases h with ⟨rfl,q⟩|h
 ·symm;nofun;rw[M4 ∅,hN]
  symm;nofun;rw[M4 ∅,hN]
  symm;nofun;rw[M4 ∅,hN]
  symm;nofun;refine⟨dd,CD,dx,_,_,rfl,od,v0,u5,rfl,k,CK,dxk,_,_,rfl,ok0,xL,cc,qH _ _,?_⟩;obtain⟨as,hb1,hb2,hb3⟩:=D.s.bk;have sm:=r_ hB;have bl:bk.length=3:=by obtain⟨l0,l1,l2,rfl,_⟩:=hB;rfl
  exists a8 hb1;refine aU (xs:=as.map V.ref) (Mz (show _<=3 by rw[Ms];lia) ⋯) (λD' i ys H'=>H D'=none/\H' D'=some (.lst ys)/\KB [] H H'/\ys=sV ((bk.take i).map spS)/\i<=bk.length) (λD' hD=>⟨hD,aa,KB.new hD,rfl,MG _⟩) (λD' i ys H' h=>⟨h.2.1,by rw[h.2.2.2.1,sV,Ms,Ms,MB];have:=h.2.2.2.2;lia⟩) (λD' i ys H' h=>aW.of (h.2.2.1.n hb1)) ?_ ?_
  ·rintro D' i ys H' x R hx ⟨g0,g1,gk,rfl,hi⟩ kk;obtain⟨c,ec,rfl⟩:∃c,as[i]?=some c/\x=.ref c:=by
    rw[M7] at hx;obtain⟨c,e,rfl⟩:=MT.mp hx;exact⟨c,e,rfl⟩
   have hlt:i<bk.length:=by have:=(Mw.mp ec).1;lia
   have er:=Mt hlt;have sm1:=sm _ (MQ hlt);have hc:=hb3 i c ec;rw[M9,er] at hc;nofun;refine⟨false,c,bk[i],rfl,gk.n hc,sm1.1,sm1.2,λH5 k5=>?_⟩;exact kk _ _ (k5.n g1) ⟨g0,aa,λu o e _=>by rw[af (ae e g0)];exact k5.n (gk.n e),by rw[Ni,er];unfold sV;rw[MI,MI];rfl,hlt⟩
  rintro D' ys H' ⟨g0,g1,gk,rfl,_⟩;rw[Ms,hb2,bl,<- bl,Na] at g1;exact q D' H' g0 gk g1
 have n4:∀y∈(["rows","bits","places","book"]:List Str),32∉cp y:=by decide +kernel
 have b1:(Str.ofString " ").length=1:=by decide +kernel
 have small:z≠"rows"/\z≠"bits"/\z≠"places"/\z≠"book"/\z.length<=100000/\(Txt.split z " ").length<=200:=by
  have no:∀{w:Str} {ws:List Str},jM z (w::ws)->ws≠[]->z≠"rows"/\z≠"bits"/\z≠"places"/\z≠"book":=λh h0=>⟨ji h h0 (n4 _ (by simp)),ji h h0 (n4 _ (by simp)),ji h h0 (n4 _ (by simp)),ji h h0 (n4 _ (by simp))⟩
  rcases h with ⟨p,r,rfl,hp,h59,hro,_⟩|⟨p,rfl,hp,_⟩|⟨rfl,_⟩
  ·have:=no (mh p r) (by simp)
   refine⟨this.1,this.2.1,this.2.2.1,this.2.2.2,?_,?_⟩
   ·have pl:=fI (hro.mono (show rs.length+1<=100000 by lia))
    have:=lN 32 ("put"::bc p::r.ps.map iG.x);have n1:=dQ (show p<=100000 by lia)
    rw[Nb,Nb,NF,NF,MJ,MJ,Ms] at this;have e3:(Str.ofString "put").length=3:=by decide +kernel
    unfold putL;rw[blank];lia
   ·rw[cT (mh p r)];have pl:=fI (hro.mono (show rs.length+1<=100000 by lia))
    simp;lia
  ·have:=no (jS p) (by simp)
   refine⟨this.1,this.2.1,this.2.2.1,this.2.2.2,?_,?_⟩
   ·have:=lN 32 ["take",bc p];have n1:=dQ (show p<=100000 by lia)
    simp only[Nb,Oz,NF,List.sum_nil,MJ,N0] at this;have e3:(Str.ofString "take").length=4:=by decide +kernel
    unfold sG;rw[blank];lia
   ·rw[cT (jS p)];simp
  ·have:=no lH (by simp)
   exact⟨this.1,this.2.1,this.2.2.1,this.2.2.2,by decide +kernel,by rw[cT lH];decide⟩
 obtain⟨m1,m2,m3,m4,m5,m6⟩:=small;symm;nofun;rw[M4 m1,hN];symm;nofun;rw[M4 m2,hN];symm;nofun;rw[M4 m3,hN];symm;nofun;rw[M4 m4,hN];symm;nofun;refine⟨rfl,z,_,rfl,rfl,by rw[b1];rfl,Mz m5 ⋯,Mz m6 ⋯,λl hl=>?_⟩
 obtain⟨k1,l1⟩:=bS hl (.lst ((Txt.split z " ").map V.str));generalize upd H l (.lst ((Txt.split z " ").map V.str))=H1 at *;rw[hN];have d1:=D.kb k1;have D1:=k1.n od;symm;nofun;have l1':H1 l=some (.lst (sV (Txt.split z " "))):=l1;rcases h with ⟨p,r,rfl,hp,h59,hro,q⟩|⟨p,rfl,hp,q⟩|⟨rfl,q⟩
 ·rw[cT (mh p r)] at l1';simp only[au l1',rZ,L2.Ap.D9];refine⟨_,rfl,?_⟩;rw[M4 ∅,hN]
  symm;nofun;simp only[au l1',rZ];refine⟨dd,dx,_,rfl,D1,DB ∅,λl2 hl2=>?_⟩
  rw[AQ];obtain⟨k2,e2⟩:=bS hl2 (.lst (sV (bc p::r.ps.map iG.x)));generalize upd H1 l2 (.lst (sV (bc p::r.ps.map iG.x)))=H2 at *;refine⟨dd,l2,.inl ⟨rfl,dd,k,dxk,b,l2,bk,rs,p,r,rfl,d1.kb k2,e2,hp,h59,hro,λH3 d3 k3=>?_⟩⟩;rw[hN];nofun;refine⟨MG _,λa ha=>?_⟩;have k12:=k1.trans k2;obtain⟨a3,e3,_⟩:=d3.s.ex;have kn:a≠k:=λz=>by rw[z,e3] at ha;cases ha
  have h3:H2 a=none:=k3.free (by simpa using kn) ha
  exact q a _ (k12.free (by simp) h3) aa (d3.kb (KB.new (ex:=[]) ha)) (k12.all.trans (k3.trans (KB.new ha)))
 ·rw[cT (jS p)] at l1';simp only[au l1',rZ,L2.Ap.D9];refine⟨_,rfl,?_⟩;rw[M4 ∅,hN]
  symm;nofun;simp only[au l1',rZ];refine⟨dd,dx,_,rfl,D1,DB ∅,λl2 hl2=>?_⟩
  rw[AQ];obtain⟨k2,e2⟩:=bS hl2 (.lst (sV [bc p]));generalize upd H1 l2 (.lst (sV [bc p]))=H2 at *;refine⟨dd,l2,.inr ⟨rfl,dd,k,dxk,b,l2,bk,rs,p,rfl,d1.kb k2,e2,hp,h60,λH3 d3 k3=>?_⟩⟩;rw[hN];nofun;refine⟨MG _,λa ha=>?_⟩;have k12:=k1.trans k2;obtain⟨a3,e3,_⟩:=d3.s.ex;have kn:a≠k:=λz=>by rw[z,e3] at ha;cases ha
  have h3:H2 a=none:=k3.free (by simpa using kn) ha
  exact q a _ (k12.free (by simp) h3) aa (d3.kb (KB.new (ex:=[]) ha)) (k12.all.trans (k3.trans (KB.new ha)))
 ·rw[cT lH] at l1';simp only[au l1',rZ,L2.Ap.D9];refine⟨_,rfl,?_⟩;rw[MD ⋯]
  refine⟨dd,dx,_,rfl,D1,DB ∅,λl2 hl2=>?_⟩
  rw[AQ];obtain⟨k2,e2⟩:=bS hl2 (.lst (sV [bc 0]));generalize upd H1 l2 (.lst (sV [bc 0]))=H2 at *;have k12:=k1.trans k2;exact⟨dd,k,dxk,b,l2,bk,rs,rfl,d1.kb k2,h60,e2,λa H3 ha k3 h3=>q a H3 (k12.free (by simp) ha) (k12.trans k3) h3⟩
def i9:List (List Int):=[List.replicate 9 4,List.replicate 17 5,List.replicate 8 3]
def eG:Bk i9:=by
 refine⟨_,_,_,rfl,rfl,rfl,rfl,λl hl=>?_⟩;have hl':l∈[List.replicate 9 (4:Int),List.replicate 17 5,List.replicate 8 3]:=hl;simp only[M0,MP,Nl] at hl';rcases hl' with rfl|rfl|rfl<;>exact⟨⟨by decide,by decide,by decide⟩,by decide +kernel⟩
def vA(CD CK:Addr):Sp:=λvs H Q _=>∃(x dx:Addr),vs=[.ref x]/\H x=some (.ins CD dx [])/\∀H' k dxk b,H k=none->kg CD CK H' x k dxk b i9 []->KB [x] H H'->Q .aN H'
def Ad{f_i:Addr}(T:Txt K mg)(v0:gX K CD)(u5:aP K CD "kept")(ab8:mg "Kept"=some (.ref CK))(v6:Mk K CK f_i)(dL:aZ P w K mg base aF 1 f_i d_i ["self","book"] (pB CK))(f8:Binds K d_i ["self","book"] [])(F:kj K "__init__" "Desk.__init__" bX f fd):aZ P w K mg base aF 3 f fd ["self"] (vA CD CK):=by
 obtain⟨aE,X3,kt_E⟩:=T.kU;obtain⟨aM,ad5,kt_M⟩:=T.uu;have X1:RelV (.ref aE) (.ref aE):=rfl;have ad1:RelV (.ref aM) (.ref aM):=rfl;refine tJ F j_ (by ac_rfl) ?_
 rfl'
 obtain⟨x,dx,rfl,ox,q⟩:=h;refine⟨_,(Z.ay (Z.qu K rfl (Z.v 0) (Z.make K rfl v6 dL (hr.mono ⋯) rfl ab8 f8 cg (Z.cons (Z.ct (Z.c7 K rfl) rfl T.cy ∅ (Z.cons (Z.mT (osc:=ab bX) (ON:=["self"]) (own:=["length","many"]) (N:=["length","many","self"]) (az.of rfl ∅) (xh K rfl rfl T.rP (Z.cons (Z.glob rfl X3 X1) (Z.cons (Z.glob rfl ad5 ad1) Z.nil))) (λnd _ _ _ _=>(Z.kP (n:=2) K rfl rfl (Z.bq (Z.aA (i:=0) nd rfl (by right)) (Z.bq (Z.aA (i:=1) nd rfl (by right)) Z.gR)))) (λ_ _ _ _=>Z.je) (λ_ _ _ _=>(Z.op (Y.lh K rfl) (Z.tup (Z.cons (Z.v 0) Z.nil)) (Z.v 1)))) Z.nil)) Z.nil)))),?_⟩
 exists jr;refine⟨(false,aE),(false,aM),⟨rfl,rfl⟩,⟨_,kt_E H⟩,⟨_,kt_M H⟩,λn=>?_⟩;refine mx (xs:=iV [4,5,3]) (ys:=iV [9,17,8]) ⋯ ⋯ (λD i ws G=>H D=none/\G D=some (.lst ws)/\KB [] H G/\∃as:List Addr,ws=as.map V.ref/\as.length=i/\∀(j:Nat) (c:Addr),as[j]?=some c->G c=some (.tup (iV (i9.getD j [])))) (λD hD=>⟨hD,aa,KB.new hD,[],rfl,rfl,λj c e=>by simp at e⟩) (λD i ws G h=>⟨h.2.1,by obtain⟨_,_,_,as,rfl,e,_⟩:=h;rw[Ms,e]⟩) (λD i ws G h=>⟨kt_E G,kt_M G⟩) ?_ ?_
 ·rintro D i ws G x1 x2 p1 R hx hy ⟨g0,g1,gk,as,rfl,e1,e2⟩ hp kk;obtain⟨a,m,rfl,rfl,hm,eb⟩:∃(a:Int) (m:Nat),x1=.int a/\x2=.int (m:Nat)/\(1<m/\m<=17)/\i9.getD i []=List.replicate m a:=by
   rcases i with _|_|_|i
   ·exact⟨4,9,(Option.some.inj hx).symm,(Option.some.inj hy).symm,by decide,rfl⟩
   ·exact⟨5,17,(Option.some.inj hx).symm,(Option.some.inj hy).symm,by decide,rfl⟩
   ·exact⟨3,8,(Option.some.inj hx).symm,(Option.some.inj hy).symm,by decide,rfl⟩
   ·cases hx
  obtain⟨k1,_⟩:=bS hp (.tup [V.int a,V.int (m:Nat)]);generalize upd G p1 _=G1 at *;nofun;refine⟨by decide,λp2 hp2=>.inr ?_⟩
  obtain⟨k2,s2⟩:=bS hp2 (.tup [V.int a]);generalize upd G1 p2 _=G2 at *;refine⟨p2,(m:Int),[V.int a],rfl,rfl,aW.of s2,by simp,by simp,by lia,by lia,λp3 hp3=>?_⟩
  have er:(List.replicate ((m:Nat):Int).toNat [V.int a]).flatten=iV (i9.getD i []):=by
   rw[MY,eb];unfold iV;rw[OS,PL]
  rw[er];obtain⟨k3,s3⟩:=bS hp3 (.tup (iV (i9.getD i [])));generalize upd G2 p3 _=G3 at *;have k13:=k1.trans (k2.trans k3);have gD:=k13.n g1;refine kk _ _ gD ⟨g0,aa,λu o e _=>by rw[af (ae e g0)];exact k13.n (gk.n e),as++[p3],by rw[MI];rfl,by rw[Mx,e1];rfl,λj c e=>?_⟩
  have nD:∀{c:Addr} {xs:List V},G3 c=some (.tup xs)->upd G3 D (.lst (as.map V.ref++[V.ref p3])) c=some (.tup xs):=λ{c xs} e=>by
   rw[af (λz=>by rw[z,gD] at e;cases e)];exact e
  rcases Nt j as.length with c1|c1
  ·rw[MU c1] at e;exact nD (k13.n (e2 j c e))
  ·rw[MR c1] at e;have hj:=(Mw.mp e).1;have:j=i:=by simp at hj;lia
   subst this;rw[e1,NN] at e;cases e;exact nD s3
 rintro D ws G ⟨g0,g1,gk,as,rfl,e1,e2⟩;exists au g1;intro b hb;obtain⟨k1,s1⟩:=bS hb (.tup (as.map V.ref));generalize upd G b _=G1 at *;intro k dxk hk hdx hne;have k01:=gk.trans k1;have ox1:=k01.n ox;have nxk:x≠k:=ae ox1 hk;have nxd:x≠dxk:=ae ox1 hdx;have kk2:KB [] G1 (upd (upd G1 dxk (.own k)) k (.ins CK dxk [])):=λu o e _=>by rw[af (ae e hk),af (ae e hdx)];exact e
 have ok2:upd (upd G1 dxk (.own k)) k (.ins CK dxk []) k=some (.ins CK dxk []):=aa;have od2:upd (upd G1 dxk (.own k)) k (.ins CK dxk []) dxk=some (.own k):=by rw[af hne,aa]
 generalize upd (upd G1 dxk (.own k)) k (.ins CK dxk [])=G2 at *;refine⟨k,dxk,b,i9,rfl,ok2,od2,⟨as,kk2.n s1,e1,λj c e=>(k1.trans kk2).n (e2 j c e)⟩,λH3 s3 k3=>⟨rfl,?_⟩⟩;have ox3:H3 x=some (.ins CD dx []):=k3 _ _ (kk2.n ox1) (by simpa using nxk)
 refine⟨x,CD,dx,[],rfl,ox3,v0,u5,by decide,?_⟩
 obtain⟨a3,e3,_⟩:=s3.ex;have kx:KB [x] H3 (upd H3 x (.ins CD dx (cR (Str.ofString "kept") (V.ref k) []))):=KB.set (by simp)
 refine q _ k dxk b (k01.free (by simp) hk) ⟨⟨dx,aa⟩,s3.keep kx (iS ox3) (by simpa using nxk.symm) (by simpa using nxd.symm)⟩ ?_
 refineλu o e z=>?_;rw[af (by simpa using z)]
 exact k3 _ _ (kk2.n (k01.n e)) (by simpa using ae (k01.n e) hk)
def s_{tc:TT}(hn:xs.length<=sizeLine)(Pv:Addr->Nat->List V->Hp->Prop)(h0:∀D,H D=none->Pv D 0 [] (upd H D (.lst [])))(hD:∀D i ys H',Pv D i ys H'->H' D=some (.lst ys)/\ys.length<=i)
  (hl:∀D i ys H',Pv D i ys H'->aT K H' a xs)
  (hs:∀D i ys H' x (R:Bool->Hp->Prop),xs[i]?=some x->Pv D i ys H'->(∀H4,Pv D (i+1) ys H4->R false H4)->(∀H4,(te (some x::σ) H4 λv H5=>H5 D=some (.lst ys)/\Pv D (i+1) (ys++[v]) (upd H5 D (.lst (ys++[v]))))->R true H4)->tc (some x::σ) H' R) (hd:∀D ys H',Pv D xs.length ys H'->Q (.ref D) H')
  (mono:∀σ H (A B:VK),(∀v H,A v H->B v H)->te σ H A->te σ H B):ib (tQ K a) 1 (aL 0) tc te Q σ H:=by
 intro D hD0;refine⟨λi m ys σ' H'=>m=xs.length-i/\i<=xs.length/\Pv D i ys H'/\∃o,σ'=o::σ,⟨xs.length,by simp,MG _,h0 D hD0,none,rfl⟩,?_⟩
 rintro i m ys σ' H' ⟨rfl,hi,p,o,rfl⟩;obtain⟨hDi,hly⟩:=hD _ _ _ _ p;have q:=hl _ _ _ _ p;refine⟨hDi,?_⟩;by_cases hlt:i<xs.length
 ·refine .inr ⟨⟨xs,xs[i],q,by simp[hlt]⟩,by lia,λx H2 y=>?_⟩
  obtain⟨rfl,y⟩:=y;unfold aL;dsimp only;refine hs D i ys H2 x _ (y xs q) p (λH4 p4=>?_) (λH4 p4=>?_)
  ·rw[M4 ML];exact⟨xs.length-(i+1),by lia,rfl,hlt,p4,_,rfl⟩
  ·rw[MD rfl];exact mono _ _ _ _ (λv H5 h=>⟨h.1,xs.length-(i+1),by lia,rfl,hlt,h.2,_,rfl⟩) p4
 ·have e:i=xs.length:=by lia
  subst e;exact .inl ⟨⟨xs,q,M8 _⟩,hd D ys H' p⟩
def lg(xs:List Str):(sV xs).all cw=true:=NU.mpr λt ht=>by
 obtain⟨z,_,rfl⟩:=Nc.mp ht;rfl
def xg(xs:List Str):((sV xs).length ==(sV xs).length && (List.range (min (sV xs).length (sV xs).length)).all λj=>match (sV xs)[j]?,(sV xs)[j]? with|some x,some y=>yW x y|_,_=>true)=true:=by
 rw[Of,Qz];refine NU.mpr λj hj=>?_;have:(sV xs)[j]?=(xs[j]?).map V.str:=M7 ..;rw[this]
 cases xs[j]? with
 |none=>rfl
 |some z=>exact Of z
def wg:Sp:=λvs H Q _=>∃(a:Addr) (ws:List Str),vs=[.ref a]/\H a=some (.lst (sV ws))/\ws.length<=2000/\∀H',KB [] H H'->Q (.bl true) H'
def AY(T:Txt K mg)(F:HasFn K mg "_law_are_texts" cx ["found"]):ao P w K mg base aF 1 "_law_are_texts" ["found"] wg:=by
 refine F.dH jq (by ac_rfl) ?_
 left
 obtain⟨a,ws,rfl,ha,hl,q⟩:=h;refine⟨_,(Z.ay (Z.ret (Z.and (Z.cb (Z.zQ K rfl) rfl T.gq Pd (Z.cons (Z.v 0) (Z.cons (Z.Lg (T:="list") rfl T.pW ∅) Z.nil))) (Z.one (Z.cmp (Y.mI K rfl (Oq hu)) (Z.mT (osc:=ab cx) (ON:=["found"]) (own:=["one"]) (N:=["one","found"]) (az.of rfl ∅) (Z.any K rfl (Z.v 0)) (λnd _ _ _ _=>(Z.aA (i:=0) nd rfl (by right))) (λ_ _ _ _=>(Z.LV (Z.j7 (Z.j6 K rfl (Z.cb (Z.zQ K rfl) rfl T.gq Pd (Z.cons (Z.v 0) (Z.cons (Z.Lg (T:="str") rfl T.iq ∅) Z.nil))))))) (λ_ _ _ _=>(Z.v 0))) (Z.lst Z.nil)))))),?_⟩
 exists au ha;rw[ha];refine⟨by decide,?_⟩
 dsimp only;rw[if_pos ∅]
 refine s_ (xs:=sV ws) (Mz (show _<=2000 by unfold sV;rw[Ms];exact hl) ⋯) (λD i ys G=>H D=none/\G D=some (.lst ys)/\KB [] H G/\ys=[]) (λD hD=>⟨hD,aa,KB.new hD,rfl⟩) (λD i ys G h=>⟨h.2.1,by rw[h.2.2.2];exact MG _⟩) (λD i ys G h=>aT.of (h.2.2.1.n ha)) ?_ ?_ ?_
 ·rintro D i ys G x R hx ⟨g0,g1,gk,rfl⟩ k0 k1;unfold sV at hx;rw[M7] at hx;obtain⟨z,_,rfl⟩:=MT.mp hx;nofun;refine⟨by decide,?_⟩
  rw[show (!vf "str" "str")=false by decide +kernel]
  exact k0 G ⟨g0,g1,gk,rfl⟩
 ·rintro D ys G ⟨g0,g1,gk,rfl⟩;refine⟨MG _,λp hp=>?_⟩;obtain⟨k2,s2⟩:=bS hp (.lst []);generalize upd G p _=G2 at *;refine⟨D,p,[],rfl,rfl,aT.of (k2.n g1),aT.of s2,?_⟩;exact q _ (gk.trans k2)
 ·intro σ G A B h;nofun;rintro⟨v,e,q⟩;exact⟨v,e,h _ _ q⟩
def qL(CD CK:Addr):Sp:=λvs H Q E=>∃(dd dx k du:Addr) (z:Str) (ws:List Str),vs=[.ref dd,.str z,.ref du]/\H dd=some (.ins CD dx [("kept",.ref k)])/\ws.length<=2000/\oA CD CK [.ref dd,.str z] H (λv H'=>∃l,v=.ref l/\H l=none/\H' l=some (.lst (sV ws))/\H' du=some (.lst (sV ws))/\∀H'',KB [l] H' H''->Q (.bl true) H'') E
def K9{vs:List V}(h:oA CD CK vs H Q E)(hq:∀v H',Q v H'->Q' v H'):oA CD CK vs H Q' E':=by
 obtain⟨dd,k,dxk,b,bk,rs,z,e,D,hB,aH,h60,h⟩:=h;refine⟨dd,k,dxk,b,bk,rs,z,e,D,hB,aH,h60,?_⟩;rcases h with ⟨e1,q⟩|⟨e1,q⟩|⟨e1,q⟩|⟨e1,q⟩|⟨p,r,e1,e2,e3,e4,q⟩|⟨p,e1,e2,q⟩|⟨e1,q⟩
 ·exact .inl ⟨e1,λl H' a b c=>hq _ _ (q l H' a b c)⟩
 ·exact .inr (.inl ⟨e1,λl H' a b c=>hq _ _ (q l H' a b c)⟩)
 ·exact .inr (.inr (.inl ⟨e1,λl H' a b c=>hq _ _ (q l H' a b c)⟩))
 ·exact .inr (.inr (.inr (.inl ⟨e1,λl H' a b c=>hq _ _ (q l H' a b c)⟩)))
 ·exact .inr (.inr (.inr (.inr (.inl ⟨p,r,e1,e2,e3,e4,λl H' a b c d=>hq _ _ (q l H' a b c d)⟩))))
 ·exact .inr (.inr (.inr (.inr (.inr (.inl ⟨p,e1,e2,λl H' a b c d=>hq _ _ (q l H' a b c d)⟩)))))
 ·exact .inr (.inr (.inr (.inr (.inr (.inr ⟨e1,λl H' a b c=>hq _ _ (q l H' a b c)⟩)))))
def Dm(T:Txt K mg)(F:HasFn K mg "_law_asked" gJ ["desk","line","due"])(v0:gX K CD)(W8:Meth K CD "ask" f_a)(af8:aZ P w K mg base aF 10 f_a d_a ["self","line"] (oA CD CK))(X8:Binds K d_a ["self","line"] [])(Y5:ao P w K mg base aF 1 "_law_are_texts" ["found"] wg):ao P w K mg base aF 11 "_law_asked" ["desk","line","due"] (qL CD CK):=by
 refine F.dH f7 (by ac_rfl) ?_
 left
 obtain⟨dd,dx,k,du,z,ws,rfl,od,hl,h⟩:=h;refine⟨_,(Z.aq (Z.se (i:=3) f7.nd (Z.nM K rfl (Z.v 0) v0 W8 af8 (hr.mono ⋯) X8 cg (Z.cons (Z.v 1) Z.nil)))
   (Z.aq (Z.se (i:=4) f7.nd (Z.and (Z.fc Y5 (Z.cons (Z.v 3) Z.nil)) (Z.one (Z.cmp (Y.Gq K rfl (Oq hu)) (Z.v 3) (Z.v 2)))))
   (Z.aq (Z.expr (Z.app K (Z.v 3) (Z.cons Z.str Z.nil)))
   (Z.ay (Z.ret (Z.v 4)))))),?_⟩
 symm;nofun;refine⟨dd,dx,_,rfl,od,DB ∅,K9 h λv H1 ⟨l,e,l0,l1,d1,q⟩=>?_⟩
 subst e;rw[hN];symm;nofun;refine⟨l,ws,rfl,l1,hl,λH2 k2=>?_⟩;refine⟨true,rfl,?_⟩;rw[MD rfl];have l2:=k2.n l1;refine .inr ⟨l,du,sV ws,sV ws,rfl,rfl,.inl ⟨aT.of l2,aT.of (k2.n d1)⟩,lg ws,lg ws,λc ec=>?_⟩;have ec':c=true:=ec.trans (xg ws);subst ec';rw[hN];symm;nofun;refine⟨.inl ⟨rfl,_,aT.of l2⟩,l,_,_,rfl,rfl,l2,N3 (show _<=2000 by unfold sV;rw[Ms];exact hl) ⋯,?_⟩
 rw[hN];nofun;exact q _ λu o e z=>by rw[af (by simpa using z)];exact k2.n e
def bM.yX{x:Addr}{n:Nat}{o:HO}(D:bM H p dq n)(hx:H x=some o)(ho:∀ys,o≠.lst ys):x∉[p,dq]:=λz=>by
 obtain⟨ys,e⟩:=D.lst x z;rw[hx] at e;exact ho ys (Option.some.inj e)
def zJ{l:List α}{x:α}{p:Nat}(hp:p<=l.length)(h:j<p):(l.take p++[x]++l.drop p)[j]?=l[j]?:=by
 rw[MX,MU (by rw[MB];lia),Nx h]
def AX{l:List α}{x:α}{p:Nat}(hp:p<=l.length):(l.take p++[x]++l.drop p)[p]?=some x:=by
 have t1:(l.take p).length=p:=by rw[MB];lia
 rw[MX,MR (by lia),t1,NN];rfl
def Cq{l:List α}{x:α}{p:Nat}(hp:p<=l.length)(h:p<=j):(l.take p++[x]++l.drop p)[j+1]?=l[j]?:=by
 have t1:(l.take p).length=p:=by rw[MB];lia
 rw[MX,MR (by lia),t1,show j+1-p=(j-p)+1 by lia,R8,Pz,Nu,show p+(j-p)=j by lia]
def EO{l:List α}{x:α}{p:Nat}(hp:p<=l.length){a:α}(h:(l.take p++[x]++l.drop p)[j]?=some a):(j=p/\a=x)\/∃m:Nat,l[m]?=some a/\∀{β:Type} (l2:List β) (y:β),p<=l2.length->(l2.take p++[y]++l2.drop p)[j]?=l2[m]?:=by
 rcases OX j p with c|c|c
 ·rw[zJ hp c] at h;exact .inr ⟨j,h,λl2 y hl=>zJ hl c⟩
 ·subst c;rw[AX hp] at h;exact .inl ⟨rfl,(Option.some.inj h).symm⟩
 ·obtain⟨m,rfl⟩:∃m,j=m+1:=⟨j-1,by lia⟩
  rw[Cq hp (by lia)] at h
  exact .inr ⟨m,h,λl2 y hl=>Cq hl (by lia)⟩
def tG(H:Hp)(p:Addr)(rs:List Row):Prop:=∃as:List Addr,H p=some (.lst (as.map V.ref))/\PA H as rs
def mf:Sp:=λvs H Q _=>∃(a:Addr) (r:Row) (f:Nat) (by':Int),vs=[.ref a,.int (f:Nat),.int by']/\H a=some (.tup r.vs)/\(∀t,a7 r=some t->f<=t->0<=(t:Int)+by')/\∀p H',KB [] H H'->H' p=some (.tup (tI f by' r).vs)->Q (.ref p) H'
def oY(T:Txt K mg)(F:HasFn K mg "_law_moved" gj ["row","place","by"]):ao P w K mg base aF 1 "_law_moved" ["row","place","by"] mf:=by
 refine F.dH nU (by ac_rfl) ?_
 left
 obtain⟨a,r,n,by',rfl,ha,hb,q⟩:=h
 refine⟨_,(Z.aq (Z.dz (Z.tw (Z.rj (Z.aK (Z.yB K rfl hu) (Z.ix (Z.aD K rfl hu) (Z.v 0) Z.int) (Z.tup (Z.consts rfl))) (Z.ko (Z.aK vP (Z.ix (Z.aD K rfl hu) (Z.v 0) (Z.un cB Z.int)) (Z.v 1))))) (Z.ay (Z.ret (Z.op (Y.fm K rfl) (Z.slice (Y.vm K rfl) (Z.v 0) Z.nI (Z.nG (Z.un cB Z.int))) (Z.tup (Z.cons (Z.op (Y.fm K rfl) (Z.ix (Z.aD K rfl hu) (Z.v 0) (Z.un cB Z.int)) (Z.v 2)) Z.nil))))) Z.bp)
   (Z.ay (Z.ret (Z.v 0)))),?_⟩
 rcases hG:a7 r with _|t
 ·nofun;obtain⟨z,e0,hz⟩:∃z:Str,bQ r.vs 0=some (.str z)/\jA (.str z) [.str "jump",.str "zero"]=false:=by
   cases r with
   |jump g=>cases hG
   |zero b g=>cases hG
   |put b n=>exact⟨_,rfl,by decide +kernel⟩
   |two u b c=>exact⟨_,rfl,(show ∀u,jA (.str (w2 u)) [.str "jump",.str "zero"]=false by decide +kernel) u⟩
   |one u b=>exact⟨_,rfl,(show ∀u,jA (.str (w1 u)) [.str "jump",.str "zero"]=false by decide +kernel) u⟩
   |halt=>exact⟨_,rfl,by decide +kernel⟩
  exists a8 ha,e0;refine⟨by decide,λp hp=>⟨rfl,rfl,?_⟩⟩
  rw[M4 (by rw[hz];exact ML)]
  have k1:=KB.new (ex:=[]) (o:=.tup [.str "jump",.str "zero"]) hp;have:=q a _ k1;unfold tI at this;rw[hG] at this;exact this (k1.n ha)
 ·obtain⟨z,e0,hz⟩:∃z:Str,bQ r.vs 0=some (.str z)/\jA (.str z) [.str "jump",.str "zero"]=true:=by
   cases r with
   |jump g=>exact⟨_,rfl,by decide +kernel⟩
   |zero b g=>exact⟨_,rfl,by decide +kernel⟩
   |put b n=>cases hG
   |two u b c=>cases hG
   |one u b=>cases hG
   |halt=>cases hG
  obtain⟨xs,x0,x2,ex,es⟩:=Be hG;have e9:bQ r.vs (-1)=some (.int (t:Nat)):=by
   cases r with
   |jump g=>cases hG;rfl
   |zero b g=>cases hG;rfl
   |put b n=>cases hG
   |two u b c=>cases hG
   |one u b=>cases hG
   |halt=>cases hG
  exists a8 ha,e0;refine⟨by decide,λp hp=>⟨rfl,rfl,?_⟩⟩
  obtain⟨k1,s1⟩:=bS hp (.tup [V.str "jump",V.str "zero"]);rw[MD hz];generalize upd H p _=H1 at *;have ha1:=k1.n ha;exists a8 ha1,e9;by_cases c:(n:Int)<=(t:Int)
  ·rw[MD c];have sl:∀{R:VK},(∀p2 G,KB [] H1 G->G p2=some (.tup xs)->R (.ref p2) G)->Y.xZ K (.ref a) none (some (-1)) H1 R:=λh=>by
    have ec:cC r.vs none (some (-1))=xs:=by rw[ex,p9,List.dropLast_concat]
    exact qm ha1 (λe=>h a H1 (KB.refl _ _) (by rw[ha1,<- e,ec])) (λp2 hp2=>by
     have:=h p2 (upd H1 p2 (.tup xs)) (KB.new hp2) aa
     rwa [ec])
   refine sl λp2 H2 k2 s2=>?_;have ha2:=k2.n ha1;exists a8 ha2,e9;refine .inl ⟨_,_,rfl,rfl,by decide,λp3 hp3=>?_⟩
   obtain⟨k3,s3⟩:=bS hp3 (.tup [V.int ((t:Int)+by')])
   generalize upd H2 p3 _=H3 at *;refine .inr (.inr (.inr ?_));have s23:=k3.n s2;have h0:=hb t hG (by lia)
   have q4:=λp4 (hp4:H3 p4=none)=>q p4 (upd H3 p4 (.tup (xs++[V.int ((t:Int)+by')]))) (k1.trans (k2.trans (k3.trans (KB.new hp4)))) (by
    rw[aa];unfold tI;rw[hG];dsimp only;rw[if_neg (by lia),es,Int.toNat_of_nonneg h0])
   exact⟨p2,p3,xs,_,rfl,rfl,aW.of s23,aW.of s3,Mz (show _<=3 by simp;lia) ⋯,λe=>absurd e x0,λ_ e=>by simp at e,λ_ _ p4 hp4=>q4 p4 hp4⟩
  ·rw[if_neg c];have:=q a H1 k1;unfold tI at this;rw[hG] at this;dsimp only at this;rw[if_pos (by lia)] at this
   exact this ha1
def tG.keep{rs:List Row}(h:tG H p rs)(k:KB ex H H')(hx:NT ex H)(n:p∉ex):tG H' p rs:=by
 obtain⟨as,h1,h2⟩:=h;exact⟨as,k _ _ h1 n,h2.1,λi c r e1 e2=>k _ _ (h2.2 i c r e1 e2) λz=>hx _ z _ (h2.2 i c r e1 e2)⟩
def kg.keep{dd k dxk:Addr}{bk:List (List Int)}{rs:List Row}(h:kg CD CK H dd k dxk b bk rs)(kb:KB ex H H')(hx:NT ex H)(n1:dd∉ex)(n2:k∉ex)(n3:dxk∉ex):kg CD CK H' dd k dxk b bk rs:=by
 obtain⟨⟨dx,e⟩,s⟩:=h;exact⟨⟨dx,kb _ _ e n1⟩,s.keep kb hx n2 n3⟩
def gi(h:H p=some (.lst xs)):NT [p] H:=λb hb ys e=>by
 rw[MH.mp hb,h] at e;cases e
def Eu(q:Nat)(r:Row):Str.ofString "put "++bc q++Str.ofString " "++r.line=putL q r:=by
 have ca:∀a b:Str,cp (a++b)=cp a++cp b:=λa b=>by
  show (a.cps++b.cps).toList=_;rw[Ou];rfl
 have e1:Str.ofString "put "=Str.ofString "put"++⟨#[32]⟩:=by decide +kernel
 unfold putL Row.line;rw[blank,e1]
 cases e:r.ps.map iG.x with
 |nil=>cases r<;>cases e
 |cons x xs =>
  show _=Str.ofString "put"++⟨#[32]⟩++(bc q++⟨#[32]⟩++Str.join ⟨#[32]⟩ (x::xs));refine qz ?_;simp only[ca,MX]
def tY(CD CK:Addr):Sp:=λvs H Q _=>∃(p dq dd k dxk b rp:Addr) (n:Nat) (bk:List (List Int)) (rs:List Row),vs=[.ref p,.ref dd,.ref rp]/\bM H p dq n/\n<2^30/\kg CD CK H dd k dxk b bk rs/\Bk bk/\tG H rp rs/\rs.length<60/\(∀r∈rs,r.Ok rs.length)/\rp∉[p,dq,dd,k,dxk]/\∀(q:Nat) (r:Row) H',q<=rs.length->r.Ok (rs.length+1)->kg CD CK H' dd k dxk b bk (iU q r rs)->tG H' rp (iU q r rs)->bM H' p dq (n+20)->KB [p,dq,k,rp] H H'->Q (.bl true) H'
def Ea(T:Txt K mg)(F:HasFn K mg "_law_put" ja ["deck","desk","rows"])(o0:ao P w K mg base aF 2 "_law_draw" ["deck","most"] gO)(ah1:ao P w K mg base aF 4 "_law_row" ["deck","goals"] (FH K))(U5:ao P w K mg base aF 1 "_law_moved" ["row","place","by"] mf)(V6:ao P w K mg base aF 1 "_law_line" ["row"] m8)(u8:ao P w K mg base aF 11 "_law_asked" ["desk","line","due"] (qL CD CK)):ao P w K mg base aF 12 "_law_put" ["deck","desk","rows"] (tY CD CK):=by
 refine F.dH fq (by ac_rfl) ?_
 left
 obtain⟨p,dq,dd,k,dxk,b,rp,n,bk,rs,rfl,D,hn,dsk,hB,hR,h60,aH,hx,q⟩:=h;refine⟨_,(Z.aq (Z.se (i:=3) fq.nd (Z.fc o0 (Z.cons (Z.v 0) (Z.cons (Z.op (Z.aI K rfl) (Z.cb (Z.bL K rfl) rfl T.bA ∅ (Z.cons (Z.v 2) Z.nil)) Z.int) Z.nil))))
   (Z.aq (Z.se (i:=4) fq.nd (Z.fc ah1 (Z.cons (Z.v 0) (Z.cons (Z.op (Z.aI K rfl) (Z.cb (Z.bL K rfl) rfl T.bA ∅ (Z.cons (Z.v 2) Z.nil)) Z.int) Z.nil))))
   (Z.aq (Z.fQ Nd rfl (Z.my rfl T.cK (Z.cons (Z.cb (Z.bL K rfl) rfl T.bA ∅ (Z.cons (Z.v 2) Z.nil)) Z.nil)) (Z.aA (i:=5) fq.nd rfl (by right)) (Z.ay (Z.asg (Z.fc U5 (Z.cons (Z.ix (Z.aD K rfl hu) (Z.v 2) (Z.v 5)) (Z.cons (Z.v 3) (Z.cons Z.int Z.nil)))) (Z.nK (Z.v 2) (Z.v 5)))))
   (Z.aq (Z.expr (Z.bm K rfl PySem.F.plainAttrs_list PySem.F.slot_list_insert PySem.F.type_list_insert yA (Z.v 2) (Z.cons (Z.v 3) (Z.cons (Z.v 4) Z.nil))))
   (Z.ay (Z.ret (Z.fc u8 (Z.cons (Z.v 1) (Z.cons (Z.op (Z.aI K rfl) (Z.op (Z.aI K rfl) (Z.op (Z.aI K rfl) Z.str (Z.ct cz rfl T.iq ∅ (Z.cons (Z.v 3) Z.nil))) Z.str) (Z.fc V6 (Z.cons (Z.v 4) Z.nil))) (Z.cons (Z.lst Z.nil) Z.nil)))))))))),?_⟩
 symm;obtain⟨as,r1,r2⟩:=id hR;exists au r1;have hal:=r2.1;have hdd:=dsk.d;have nd:dd∉[p,dq]/\k∉[p,dq]/\dxk∉[p,dq]:=by
  obtain⟨dx,od⟩:=hdd;obtain⟨ra,ox,_⟩:=dsk.s.ex;exact⟨D.yX od λ_=>by simp,D.yX ox λ_=>by simp,D.yX dsk.s.od λ_=>by simp⟩
 refine⟨p,dq,_,_,rfl,D,by lia,by rw[Ms];lia,by rw[Ms];lia,λq0 H1 hq0 D1 k1=>?_⟩
 rw[hN];have hq0':q0<=rs.length:=by rw[Ms,hal] at hq0;lia
 have dsk1:=dsk.keep k1 D.nt nd.1 nd.2.1 nd.2.2;have nr:rp∉[p,dq]:=by simp only[M0,MP,Nl,OR] at hx ⊢;exact⟨hx.1,hx.2.1⟩
 have hR1:=hR.keep k1 D.nt nr;obtain⟨as1,r11,r12⟩:=id hR1;have hal1:=r12.1;symm;exists au r11;rw[Ms,hal1];refine⟨p,dq,rs.length+1,_,rfl,D1,by lia,by lia,λr qr H2 hro hqr D2 k2=>?_⟩
 rw[hN];have dsk2:=dsk1.keep k2 D1.nt nd.1 nd.2.1 nd.2.2;have hR2:=hR1.keep k2 D1.nt nr;obtain⟨as2,r21,r22⟩:=id hR2;have hal2:=r22.1;symm;exists au r21;rw[Ms,hal2];refine⟨by lia,by lia,?_⟩
 rw[MY];have nrl:NT [rp] H2:=gi r21;refine bB (λj σ G=>KB [rp] H2 G/\tG G rp ((rs.take j).map (yY q0)++rs.drop j)/\j<=rs.length/\∃o,σ=[some (.ref p),some (.ref dd),some (.ref rp),some (.int (q0:Nat)),some (.ref qr),o]) ⟨KB.refl _ _,hR2,MG _,_,rfl⟩ ?_ ?_
 ·rintro j σ G hj ⟨kG,⟨asj,g1,g2⟩,_,o,rfl⟩;rw[Q_];have hl:asj.length=rs.length:=by have:=g2.1;rw[Mx,Ms,MB,Nk] at this;lia
  have ej:=Mt (show j<asj.length by lia)
  have er:=Mt hj;have em:((rs.take j).map (yY q0)++rs.drop j)[j]?=some rs[j]:=by
   rw[MR (by rw[Ms,MB];lia),Ms,MB,Oo (by lia),NN,Nu,QX,er]
  have hc:=g2.2 j _ _ ej em;have at1:bQ (asj.map V.ref) (j:Int)=some (.ref (asj[j]'(by lia))):=aV (by rw[M7,ej];rfl)
  unfold aL;dsimp only;exists au g1,at1;refine⟨_,rs[j],q0,1,rfl,hc,λt _ _=>by lia,λp2 G2 k2' s2=>?_⟩
  have g12:=k2'.n g1;have c3:jE (asj.map V.ref).length (j:Int)=some j:=by
   rw[Ms];unfold jE;rw[MD (by lia),MD (by lia),MY]
  rw[FR] at s2;simp only[g12,c3];have gT:∀{u:Addr} {xs:List V},G2 u=some (.tup xs)->upd G2 rp (.lst ((asj.map V.ref).set j (.ref p2))) u=some (.tup xs):=λ{u xs} e=>by
   rw[af (λz=>by rw[z,g12] at e;cases e)];exact e
  refine⟨(kG.trans k2'.all).trans (KB.set (by simp)),⟨asj.set j p2,by rw[aa,Pc],by rw[Oa,Mx,Ms,MB,Nk];lia,λi c r' e1 e2=>?_⟩,hj,_,rfl⟩
  rcases OX i j with h|rfl|h
  ·rw[NK (by lia)] at e1
   rw[MU (by rw[Ms,MB];lia),M7,Nx (by lia)] at e2
   exact gT (k2'.n (g2.2 i c r' e1 (by rw[MU (by rw[Ms,MB];lia),M7,Nx (by lia)];exact e2)))
  ·rw[NO (by lia)] at e1
   rw[MU (by rw[Ms,MB];lia),M7,Nx (by lia),er] at e2
   cases e1;cases e2
   exact gT s2
  ·rw[NK (by lia)] at e1
   refine gT (k2'.n (g2.2 i c r' e1 ?_));rw[MR (by rw[Ms,MB];lia),Ms,MB,Oo (by lia),Nu] at e2 ⊢
   rw[show j+(i-j)=j+1+(i-(j+1)) by lia]
   exact e2
 ·rintro σ G ⟨kG,hRG,_,o,rfl⟩;rw[Na,Oh,Nm] at hRG;show N _ _;rw[hN];have nrp:rp≠p/\rp≠dq/\rp≠dd/\rp≠k/\rp≠dxk:=by simpa using hx
  have D3:=D2.keep kG (by simpa using MV nrp.1) (by simpa using MV nrp.2.1)
  have dsk3:=dsk2.keep kG nrl (by simpa using MV nrp.2.2.1) (by simpa using MV nrp.2.2.2.1) (by simpa using MV nrp.2.2.2.2)
  obtain⟨as3,r31,r32⟩:=id hRG;have hl3:as3.length=rs.length:=by rw[r32.1,Ms]
  have qr3:G qr=some (.tup r.vs):=kG _ _ hqr (λz=>nrl _ z _ hqr);symm;exists au r31;refine⟨.inl ⟨rfl,_,aT.of r31⟩,rp,_,(q0:Int),_,rfl,rfl,r31,by lia,by lia,N3 (show _<=60 by rw[Ms];lia) ⋯,?_⟩
  have ei:v5 (as3.map V.ref) (min ((q0:Int)).toNat (as3.map V.ref).length) (.ref qr)=(as3.take q0++[qr]++as3.drop q0).map V.ref:=by
   rw[MY,Ms,Oo (by lia)]
   unfold v5;rw[MI,MI,PD,Q2,MX];rfl
  rw[ei];show N _ _;have k4:KB [rp] G (upd G rp (.lst ((as3.take q0++[qr]++as3.drop q0).map V.ref))):=KB.set (by simp)
  have s4:upd G rp (.lst ((as3.take q0++[qr]++as3.drop q0).map V.ref)) rp=_:=aa;generalize upd G rp (.lst ((as3.take q0++[qr]++as3.drop q0).map V.ref))=H4 at *;have nt3:NT [rp] G:=gi r31;have D4:=D3.keep k4 (by simpa using MV nrp.1) (by simpa using MV nrp.2.1)
  have dsk4:=dsk3.keep k4 nt3 (by simpa using MV nrp.2.2.1) (by simpa using MV nrp.2.2.2.1) (by simpa using MV nrp.2.2.2.2)
  have qr4:H4 qr=some (.tup r.vs):=k4 _ _ qr3 (λz=>nt3 _ z _ qr3);have hR4:tG H4 rp (iU q0 r rs):=by
   refine⟨_,s4,by unfold iU;simp[hl3],λi c r' e1 e2=>?_⟩
   unfold iU at e2;rcases EO (by lia) e1 with ⟨rfl,rfl⟩|⟨k',ek,f⟩
   ·rw[AX (by rw[Ms];exact hq0')] at e2
    cases e2;exact qr4
   ·rw[f (rs.map (yY q0)) r (by rw[Ms];lia)] at e2
    have:=r32.2 k' c r' ek e2;exact k4 _ _ this λz=>nt3 _ z _ this
  rw[hN];nofun;have ok5:r.Ok 100000:=hro.mono (by lia)
  have ln:=sZ ok5;have nl:=dQ (show q0<=100000 by lia)
  have lp:(Str.ofString "put ").length=4/\(Str.ofString " ").length=1:=by decide +kernel
  have la:∀x y:Str,(x++y).length=x.length+y.length:=λx y=>by
   show (x.cps++y.cps).size=_;rw[Q3];rfl
  have enq:Str.ofString (toString ((q0:Nat):Int))=bc q0:=rfl;rw[enq];refine⟨fM (by lia),Mz (show _<=100 by lia) ⋯,Mz (show _<=100 by rw[la];lia) ⋯,?_⟩
  refine⟨qr,r,rfl,qr4,ok5,λH5 k5=>?_⟩;nofun;refine⟨Mz (show _<=200 by rw[la,la];lia) ⋯,MG _,λdu hdu=>?_⟩
  obtain⟨k6,s6⟩:=bS hdu (.lst []);generalize upd H5 du _=H6 at *;have k56:=k5.trans k6;have dsk6:=dsk4.kb k56;obtain⟨dx,od6⟩:=dsk6.d;refine⟨dd,dx,k,du,_,[],rfl,od6,by decide,dd,k,dxk,b,bk,rs,_,rfl,dsk6,hB,aH,by lia,.inr (.inr (.inr (.inr (.inl ⟨q0,r,Eu q0 r,hq0',h60,hro,λl H7 l0 l1 dsk7 k7=>?_⟩))))⟩
  obtain⟨ra6,ok6,_⟩:=dsk6.s.ex;obtain⟨_,_,_,_,e1,e2,_⟩:=D4.kb k56;have m4:=(tG.keep hR4 k56 (NT.nil _) (by simp))
  obtain⟨_,m4e,_⟩:=id m4;have fr:∀{u:Addr} {o:HO},H6 u=some o->u∉[l]:=λe z=>by rw[MH.mp z,l0] at e;cases e
  have ndk:du∉[k]:=λz=>by rw[MH.mp z,ok6] at s6;cases s6
  have pk:p∉[k]:=λz=>nd.2.1 (by rw[<- MH.mp z];simp)
  have qk:dq∉[k]:=λz=>nd.2.1 (by rw[<- MH.mp z];simp)
  have rk:rp∉[k]:=by simpa using nrp.2.2.2.1
  have D7:=(D4.kb k56).keep k7 pk qk;have m7:=m4.keep k7 (iS ok6) rk;refine⟨l,rfl,l0,l1,k7 _ _ s6 ndk,λH8 k8=>?_⟩;refine q q0 r H8 hq0' hro (dsk7.keep k8 (gi l1) (fr od6) (fr ok6) (fr dsk6.s.od)) (m7.keep k8 (gi l1) (fr m4e)) ((D7.keep k8 (fr e1) (fr e2)).mono (by lia)) λu o e z=>?_
  simp only[M0,MP,Nl,OR] at z;have z1:u∉[p,dq]:=by simp[z.1,z.2.1]
  have z2:u∉[k]:=by simp[z.2.2.1]
  have z3:u∉[rp]:=by simp[z.2.2.2]
  have e6:H6 u=some o:=k56.n (k4 _ _ (kG _ _ (k2 _ _ (k1 _ _ e z1) z1) z3) z3);exact k8 _ _ (k7 _ _ e6 z2) (fr e6)
def B7(q:Nat):Str.ofString "take "++bc q=sG q:=by
 have ca:∀a b:Str,cp (a++b)=cp a++cp b:=λa b=>by
  show (a.cps++b.cps).toList=_;rw[Ou];rfl
 have e1:Str.ofString "take "=Str.ofString "take"++⟨#[32]⟩:=by decide +kernel
 unfold sG;rw[blank,e1];show _=Str.ofString "take"++⟨#[32]⟩++bc q;rfl
def vN(CD CK:Addr):Sp:=λvs H Q _=>∃(p dq dd k dxk b rp:Addr) (n:Nat) (bk:List (List Int)) (rs:List Row),vs=[.ref p,.ref dd,.ref rp]/\bM H p dq n/\n<2^29/\kg CD CK H dd k dxk b bk rs/\Bk bk/\tG H rp rs/\rs.length<=60/\(∀r∈rs,r.Ok rs.length)/\rp∉[p,dq,dd,k,dxk]/\∀(rs':List Row) H',rs'.length<=60->(∀r∈rs',r.Ok rs'.length)->kg CD CK H' dd k dxk b bk rs'->tG H' rp rs'->bM H' p dq (n+30)->KB [p,dq,k,rp] H H'->Q (.bl true) H'
def Am(T:Txt K mg)(F:HasFn K mg "_law_deed" iw ["deck","desk","rows"])(o0:ao P w K mg base aF 2 "_law_draw" ["deck","most"] gO)(U5:ao P w K mg base aF 1 "_law_moved" ["row","place","by"] mf)(X4:ao P w K mg base aF 12 "_law_put" ["deck","desk","rows"] (tY CD CK))(u8:ao P w K mg base aF 11 "_law_asked" ["desk","line","due"] (qL CD CK)):ao P w K mg base aF 13 "_law_deed" ["deck","desk","rows"] (vN CD CK):=by
 refine F.dH gH (by ac_rfl) ?_
 left
 obtain⟨p,dq,dd,k,dxk,b,rp,n,bk,rs,rfl,D,hn,dsk,hB,hR,h60,aH,hx,q⟩:=h;refine⟨_,(Z.aq (Z.dz (Z.tw (Z.rj (Z.aK e_ (Z.cb (Z.bL K rfl) rfl T.bA ∅ (Z.cons (Z.v 2) Z.nil)) Z.int) (Z.ko (Z.tw (Z.Gd (Z.aK (Y.mI K rfl (Oq hu)) (Z.v 2) (Z.lst Z.nil)) (Z.sj (Z.aK rT (Z.fc o0 (Z.cons (Z.v 0) (Z.cons Z.int Z.nil))) Z.int))))))) (Z.ay (Z.ret (Z.fc X4 (Z.cons (Z.v 0) (Z.cons (Z.v 1) (Z.cons (Z.v 2) Z.nil)))))) Z.bp)
   (Z.aq (Z.se (i:=3) gH.nd (Z.fc o0 (Z.cons (Z.v 0) (Z.cons (Z.cb (Z.bL K rfl) rfl T.bA ∅ (Z.cons (Z.v 2) Z.nil)) Z.nil))))
   (Z.aq (Z.expr (Z.bm K rfl PySem.F.plainAttrs_list PySem.F.slot_list_pop PySem.F.type_list_pop Bi (Z.v 2) (Z.cons (Z.v 3) Z.nil)))
   (Z.aq (Z.fQ Nd rfl (Z.my rfl T.cK (Z.cons (Z.cb (Z.bL K rfl) rfl T.bA ∅ (Z.cons (Z.v 2) Z.nil)) Z.nil)) (Z.aA (i:=4) gH.nd rfl (by right)) (Z.ay (Z.asg (Z.fc U5 (Z.cons (Z.ix (Z.aD K rfl hu) (Z.v 2) (Z.v 4)) (Z.cons (Z.op (Z.aI K rfl) (Z.v 3) Z.int) (Z.cons (Z.un cB Z.int) Z.nil)))) (Z.nK (Z.v 2) (Z.v 4)))))
   (Z.ay (Z.ret (Z.fc u8 (Z.cons (Z.v 1) (Z.cons (Z.op (Z.aI K rfl) Z.str (Z.ct cz rfl T.iq ∅ (Z.cons (Z.v 3) Z.nil))) (Z.cons (Z.lst Z.nil) Z.nil)))))))))),?_⟩
 obtain⟨as,r1,r2⟩:=id hR;have hal:=r2.1;symm;refine vI λA' B' hA hB'=>?_;have nrp:rp≠p/\rp≠dq/\rp≠dd/\rp≠k/\rp≠dxk:=by simpa using hx
 have nr:rp∉[p,dq]:=by simp[nrp.1,nrp.2.1]
 have nd:dd∉[p,dq]/\k∉[p,dq]/\dxk∉[p,dq]:=by
  obtain⟨dx,od⟩:=dsk.d;obtain⟨ra,ox,_⟩:=dsk.s.ex;exact⟨D.yX od λ_=>by simp,D.yX ox λ_=>by simp,D.yX dsk.s.od λ_=>by simp⟩
 have up:∀{G G':Hp},KB [p,dq] G G'->KB [p,dq,k,rp] G G':=λh u o e z=>h u o e λc=>z (by
  simp only[M0,MP,Nl] at c ⊢;rcases c with c|c<;>simp[c])
 have goA:∀G,bM G p dq (n+1)->KB [p,dq] H G->rs.length<60->A' [some (.ref p),some (.ref dd),some (.ref rp),none,none] G:=λG DG kG hlt=>by
  rw[hA];nofun;exact⟨p,dq,dd,k,dxk,b,rp,_,bk,rs,rfl,DG,by lia,dsk.keep kG D.nt nd.1 nd.2.1 nd.2.2,hB,hR.keep kG D.nt nr,hlt,aH,hx,λq0 r G2 hq hro dsk2 hR2 D2 k2=>q (iU q0 r rs) G2 (by rw[k_ hq];lia) (Ao hq hro aH) dsk2 hR2 (D2.mono (by lia)) ((up kG).trans k2)⟩
 have goB:∀G,bM G p dq (n+1)->KB [p,dq] H G->rs≠[]->B' [some (.ref p),some (.ref dd),some (.ref rp),none,none] G:=λG DG kG hne=>by
  rw[hB'];show N _ _;have dskG:=dsk.keep kG D.nt nd.1 nd.2.1 nd.2.2;obtain⟨asG,g1,g2⟩:=hR.keep kG D.nt nr;have hlG:asG.length=rs.length:=g2.1;have pos:0<rs.length:=List.length_pos_iff.mpr hne;rw[hN];symm;exists au g1;rw[Ms,hlG];refine⟨p,dq,_,_,rfl,DG,by lia,by lia,by lia,λq0 H2 hq0 D2 k2=>?_⟩
  have hq:q0<rs.length:=by lia
  rw[hN];have dsk2:=dskG.keep k2 DG.nt nd.1 nd.2.1 nd.2.2;have g12:=k2 _ _ g1 nr;symm;exists au g12;have es:seqIndex? ((q0:Nat):Int) (asG.map V.ref).length=some q0:=by
   unfold seqIndex?;rw[Ms];simp;lia
  have eq0:=Mt (show q0<asG.length by lia)
  refine⟨.inl ⟨rfl,_,aT.of g12⟩,rp,_,(q0:Int),q0,.ref (asG[q0]'(by lia)),rfl,rfl,g12,by lia,by lia,es,by rw[M7,eq0];rfl,?_⟩
  have ee:(asG.map V.ref).eraseIdx q0=(asG.take q0++asG.drop (q0+1)).map V.ref:=by
   rw[OJ,MI,PD,Q2]
  rw[ee];show N _ _;have k3:KB [rp] H2 (upd H2 rp (.lst ((asG.take q0++asG.drop (q0+1)).map V.ref))):=KB.set (by simp)
  have s3:upd H2 rp (.lst ((asG.take q0++asG.drop (q0+1)).map V.ref)) rp=_:=aa;generalize upd H2 rp (.lst ((asG.take q0++asG.drop (q0+1)).map V.ref))=H3 at *;have nt2:NT [rp] H2:=gi g12;have gT:∀{c:Addr} {xs:List V},G c=some (.tup xs)->H3 c=some (.tup xs):=λ{c xs} e=>by
   have e2:=k2 _ _ e (λz=>DG.nt _ z _ e);exact k3 _ _ e2 (λz=>nt2 _ z _ e2)
  have hP3:PA H3 (asG.take q0++asG.drop (q0+1)) (rs.take q0++rs.drop (q0+1)):=by
   rw[<- OJ,<- OJ];refine⟨by rw[List.length_eraseIdx,List.length_eraseIdx,hlG],λi c r' e1 e2=>?_⟩
   rw[List.getElem?_eraseIdx] at e1 e2;by_cases h:i<q0
   ·rw[MD h] at e1 e2;exact gT (g2.2 _ _ _ e1 e2)
   ·rw[M4 h] at e1 e2;exact gT (g2.2 _ _ _ e1 e2)
  have hR3:tG H3 rp (rs.take q0++rs.drop (q0+1)):=⟨_,s3,hP3⟩;have l1:(rs.take q0++rs.drop (q0+1)).length=rs.length-1:=by rw[Mx,MB,Nk];lia
  have tk:qx q0 rs=(rs.take q0++rs.drop (q0+1)).map (DC (q0+1)):=rfl;generalize rs.take q0++rs.drop (q0+1)=R1 at *;rw[hN];symm;obtain⟨as3',r31',r32'⟩:=id hR3;exists au r31';rw[Ms,r32'.1];refine⟨by lia,by lia,?_⟩
  rw[MY];have nrl:NT [rp] H3:=gi s3;refine bB (λj σ G=>KB [rp] H3 G/\tG G rp ((R1.take j).map (DC (q0+1))++R1.drop j)/\j<=R1.length/\∃o,σ=[some (.ref p),some (.ref dd),some (.ref rp),some (.int (q0:Nat)),o]) ⟨KB.refl _ _,hR3,MG _,_,rfl⟩ ?_ ?_
  ·rintro j σ G hj ⟨kG,⟨asj,g1,g2⟩,_,o,rfl⟩;rw[Q_];have hl:asj.length=R1.length:=by have:=g2.1;rw[Mx,Ms,MB,Nk] at this;lia
   have ej:=Mt (show j<asj.length by lia)
   have er:=Mt hj;have em:((R1.take j).map (DC (q0+1))++R1.drop j)[j]?=some R1[j]:=by
    rw[MR (by rw[Ms,MB];lia),Ms,MB,Oo (by lia),NN,Nu,QX,er]
   have hc:=g2.2 j _ _ ej em;have at1:bQ (asj.map V.ref) (j:Int)=some (.ref (asj[j]'(by lia))):=aV (by rw[M7,ej];rfl)
   unfold aL;dsimp only;exists au g1,at1;refine⟨_,R1[j],q0+1,-1,rfl,hc,λt _ _=>by lia,λp2 G2 k2' s2=>?_⟩
   have g12:=k2'.n g1;have c3:jE (asj.map V.ref).length (j:Int)=some j:=by
    rw[Ms];unfold jE;rw[MD (by lia),MD (by lia),MY]
   rw[FW] at s2;simp only[g12,c3];have gT:∀{u:Addr} {xs:List V},G2 u=some (.tup xs)->upd G2 rp (.lst ((asj.map V.ref).set j (.ref p2))) u=some (.tup xs):=λ{u xs} e=>by
    rw[af (λz=>by rw[z,g12] at e;cases e)];exact e
   refine⟨(kG.trans k2'.all).trans (KB.set (by simp)),⟨asj.set j p2,by rw[aa,Pc],by rw[Oa,Mx,Ms,MB,Nk];lia,λi c r' e1 e2=>?_⟩,hj,_,rfl⟩
   rcases OX i j with h|rfl|h
   ·rw[NK (by lia)] at e1
    rw[MU (by rw[Ms,MB];lia),M7,Nx (by lia)] at e2
    exact gT (k2'.n (g2.2 i c r' e1 (by rw[MU (by rw[Ms,MB];lia),M7,Nx (by lia)];exact e2)))
   ·rw[NO (by lia)] at e1
    rw[MU (by rw[Ms,MB];lia),M7,Nx (by lia),er] at e2
    cases e1;cases e2
    exact gT s2
   ·rw[NK (by lia)] at e1
    refine gT (k2'.n (g2.2 i c r' e1 ?_));rw[MR (by rw[Ms,MB];lia),Ms,MB,Oo (by lia),Nu] at e2 ⊢
    rw[show j+(i-j)=j+1+(i-(j+1)) by lia]
    exact e2
  ·rintro σ G' ⟨kG',hRG,_,o,rfl⟩;rw[Na,Oh,Nm,<- tk] at hRG;show N _ _;have D3:=(D2.keep k3 (by simpa using MV nrp.1) (by simpa using MV nrp.2.1)).keep kG' (by simpa using MV nrp.1) (by simpa using MV nrp.2.1)
   have dsk3:=(dsk2.keep k3 nt2 (by simpa using MV nrp.2.2.1) (by simpa using MV nrp.2.2.2.1) (by simpa using MV nrp.2.2.2.2)).keep kG' nrl (by simpa using MV nrp.2.2.1) (by simpa using MV nrp.2.2.2.1) (by simpa using MV nrp.2.2.2.2)
   rw[hN];nofun;have nl:=dQ (show q0<=100000 by lia)
   have lp:(Str.ofString "take ").length=5:=by decide +kernel
   have enq:Str.ofString (toString ((q0:Nat):Int))=bc q0:=rfl;rw[enq];refine⟨fM (by lia),Mz (show _<=100 by lia) ⋯,MG _,λdu hdu=>?_⟩
   obtain⟨k6,s6⟩:=bS hdu (.lst []);generalize upd G' du _=H6 at *;have dsk6:=dsk3.kb k6;obtain⟨dx,od6⟩:=dsk6.d;refine⟨dd,dx,k,du,_,[],rfl,od6,by decide,dd,k,dxk,b,bk,rs,_,rfl,dsk6,hB,aH,h60,.inr (.inr (.inr (.inr (.inr (.inl ⟨q0,B7 q0,hq,λl H7 l0 l1 dsk7 k7=>?_⟩)))))⟩
   obtain⟨ra6,ok6,_⟩:=dsk6.s.ex;obtain⟨_,_,_,_,e1,e2,_⟩:=D3.kb k6;have m4:=(tG.keep hRG k6 (NT.nil _) (by simp))
   obtain⟨_,m4e,_⟩:=id m4;have fr:∀{u:Addr} {o:HO},H6 u=some o->u∉[l]:=λe z=>by rw[MH.mp z,l0] at e;cases e
   have ndk:du∉[k]:=λz=>by rw[MH.mp z,ok6] at s6;cases s6
   have pk:p∉[k]:=λz=>nd.2.1 (by rw[<- MH.mp z];simp)
   have qk:dq∉[k]:=λz=>nd.2.1 (by rw[<- MH.mp z];simp)
   have rk:rp∉[k]:=by simpa using nrp.2.2.2.1
   have D7:=(D3.kb k6).keep k7 pk qk;have m7:=m4.keep k7 (iS ok6) rk;refine⟨l,rfl,l0,l1,k7 _ _ s6 ndk,λH8 k8=>?_⟩;refine q (qx q0 rs) H8 (by rw[xq hq];lia) (Hz hq aH) (dsk7.keep k8 (gi l1) (fr od6) (fr ok6) (fr dsk6.s.od)) (m7.keep k8 (gi l1) (fr m4e)) ((D7.keep k8 (fr e1) (fr e2)).mono (by lia)) λu o e z=>?_
   simp only[M0,MP,Nl,OR] at z;have z1:u∉[p,dq]:=by simp[z.1,z.2.1]
   have z2:u∉[k]:=by simp[z.2.2.1]
   have z3:u∉[rp]:=by simp[z.2.2.2]
   have e6:H6 u=some o:=k6.n (kG' _ _ (k3 _ _ (k2 _ _ (kG _ _ e z1) z1) z3) z3);exact k8 _ _ (k7 _ _ e6 z2) (fr e6)
 exists au r1;rw[Ms,hal];by_cases c60:(rs.length:Int)<60
 ·rw[MD c60];refine⟨MG _,λp1 hp1=>?_⟩;obtain⟨k1,s1⟩:=bS hp1 (.lst []);generalize upd H p1 _=H1 at *;refine⟨rp,p1,as.map V.ref,rfl,rfl,aT.of (k1.n r1),aT.of s1,_,rfl,?_⟩
  cases rs with
  |nil =>
   have:as=[]:=NZ.mp hal;subst this;rw[MD (show (List.map V.ref ([]:List Addr)).isEmpty=true from rfl)];exact goA H1 ((D.kb k1).mono (by lia)) k1.all (by lia)
  |cons r0 rs =>
   cases as with
   |nil=>cases hal
   |cons a0 as =>
    rw[M4 (by simp)]
    refine⟨p,dq,3,_,rfl,D.kb k1,by lia,by decide,by decide,λv H2 hv D2 k2=>?_⟩
    nofun;have k12:=k1.all.trans k2;by_cases c:(0:Int)<(v:Int)
    ·rw[MD c];exact goA H2 (D2.mono (by lia)) k12 (by lia)
    ·rw[M4 c];exact goB H2 (D2.mono (by lia)) k12 (by simp)
 ·rw[M4 c60];exact goB H (D.mono (by lia)) (KB.refl _ _) (λe=>by subst e;exact c60 ⋯)
def vC:Sp:=λvs H Q _=>∃(a:Addr) (rs:List Row),vs=[.ref a]/\kl H a rs/\rs.length<=64/\∀b H',H b=none->KB [] H H'->H' b=some (.lst ((rs.map a7).map aJ))->Q (.ref b) H'
def zG(T:Txt K mg)(F:HasFn K mg "_law_goals" dU ["program"]):ao P w K mg base aF 1 "_law_goals" ["program"] vC:=by
 refine F.dH nN (by ac_rfl) ?_
 left
 obtain⟨a,rs,rfl,⟨as,ha,hp⟩,hl,q⟩:=h;have hp1:=hp.1;refine⟨_,(Z.ay (Z.ret (Z.mT (osc:=ab dU) (ON:=["program"]) (own:=["row"]) (N:=["row","program"]) (az.of rfl ∅) (Z.any K rfl (Z.v 0)) (λnd _ _ _ _=>(Z.aA (i:=0) nd rfl (by right))) (λ_ _ _ _=>Z.je) (λ_ _ _ _=>(Z.Ag (Z.aK (Z.yB K rfl hu) (Z.ix (Z.aD K rfl hu) (Z.v 0) Z.int) (Z.tup (Z.consts rfl))) (Z.ix (Z.aD K rfl hu) (Z.v 0) (Z.un cB Z.int)) Z.aN))))),?_⟩
 exists a8 ha;refine aU (xs:=as.map V.ref) (Mz (show _<=64 by rw[Ms];lia) ⋯) (λD i ys H'=>H D=none/\H' D=some (.lst ys)/\KB [] H H'/\ys=((rs.take i).map a7).map aJ/\i<=rs.length) (λD hD=>⟨hD,aa,KB.new hD,rfl,MG _⟩) (λD i ys H' h=>⟨h.2.1,by rw[h.2.2.2.1,Ms,Ms,MB];have:=h.2.2.2.2;lia⟩) (λD i ys H' h=>aW.of (h.2.2.1 _ _ ha (by simp))) ?_ ?_
 ·rintro D i ys H' x R hx ⟨g0,g1,gk,rfl,hi⟩ kk;obtain⟨c,ec,rfl⟩:∃c,as[i]?=some c/\x=.ref c:=by
   rw[M7] at hx;obtain⟨c,e,rfl⟩:=MT.mp hx;exact⟨c,e,rfl⟩
  have hlt:i<rs.length:=by have:=(Mw.mp ec).1;lia
  have er:=Mt hlt;have hc:=gk.n (hp.2 i c _ ec er);have et:rs.take (i+1)=rs.take i++[rs[i]]:=by rw[Ni,er];rfl
  have fin:∀G:Hp,KB [] H' G->R (aJ (a7 rs[i])) G:=λG kG=>by
   have g1':=kG.n g1;refine kk _ _ g1' ⟨g0,aa,λu o e _=>by rw[af (ae e g0)];exact kG.n (gk.n e),by rw[et,MI,MI];rfl,hlt⟩
  generalize rs[i]=r at *;have sc:=a8 hc;obtain⟨z,e0,h⟩:∃z:Str,bQ r.vs 0=some (.str z)/\(jA (.str z) [.str "jump",.str "zero"]=true/\bQ r.vs (-1)=some (aJ (a7 r))\/jA (.str z) [.str "jump",.str "zero"]=false/\aJ (a7 r)=.aN):=by
   cases r with
   |jump g=>exact⟨_,rfl,.inl ⟨by decide +kernel,rfl⟩⟩
   |zero b g=>exact⟨_,rfl,.inl ⟨by decide +kernel,rfl⟩⟩
   |put b n=>exact⟨_,rfl,.inr ⟨by decide +kernel,rfl⟩⟩
   |two u b c=>exact⟨_,rfl,.inr ⟨(show ∀u,jA (.str (w2 u)) [.str "jump",.str "zero"]=false by decide +kernel) u,rfl⟩⟩
   |one u b=>exact⟨_,rfl,.inr ⟨(show ∀u,jA (.str (w1 u)) [.str "jump",.str "zero"]=false by decide +kernel) u,rfl⟩⟩
   |halt=>exact⟨_,rfl,.inr ⟨by decide +kernel,rfl⟩⟩
  exists sc,e0;refine⟨by decide,λt ht=>⟨rfl,rfl,?_⟩⟩
  have k6:=KB.new (ex:=[]) (o:=.tup [.str "jump",.str "zero"]) ht;rcases h with ⟨h1,h2⟩|⟨h1,h2⟩
  ·exists h1,a8 (k6.n hc),h2;exact fin _ k6
  ·exists h1;rw[h2] at fin;exact fin _ k6
 ·rintro D ys H' ⟨g0,g1,gk,rfl,hi⟩;refine q D H' g0 gk ?_;rw[g1,Ms,hp1,Na]
def KH{tk:Nat}{tp:Pos}{e1 e2 e3:Expr}{ta:TA}{p:Pos}(K:W.Frag)(hK:X.K=K)(hg:Gl X "zip")(hm:X.mg "zip"=none)(ha:QA X [e1,e2,e3] ta)(h1:autoParam (fF e1=true) ℜ0)(h2:autoParam (fF e2=true) ℜ0)(h3:autoParam (fF e3=true) ℜ0):QI X (.Tuple es tk tp) (.Call (.Name "zip" p) [e1,e2,e3] [] pos) (BP K ta):=by
 subst hK;exact⟨EH hg hm ha.h h1 h2 h3⟩
def B3(K:W.Frag)(ta:TA)(σ:L2.St)(H:Hp)(R:It->Hp->Prop):L2.BP K ta σ H R=ta σ H λvs H1=>∃p q r:Bool×Addr,vs=[V.ref p.2,V.ref q.2,V.ref r.2]/\(∃xs,jw K p.1 H1 p.2 xs)/\(∃ys,jw K q.1 H1 q.2 ys)/\(∃zs,jw K r.1 H1 r.2 zs)/\∀n,R (E3 K (fT n [p,q,r])) H1:=rfl
def xM{g:TG}{tb:TS}{D:Ends}{c:Addr}{zs:List V}{n:Nat}(hxy:xs.length=ys.length)(hxz:xs.length=zs.length)(Pv:Nat->L2.St->Hp->Prop)(h0:Pv 0 σ H)(hl:∀i σ H,Pv i σ H->aT K H a xs/\aT K H b ys/\aT K H c zs)
  (hs:∀i x y z σ H p,xs[i]?=some x->ys[i]?=some y->zs[i]?=some z->Pv i σ H->H p=none->g (.ref p) σ (upd H p (.tup [x,y,z])) λσ2 H2=>tb {D with nx:=Pv (i+1),ct:=Pv (i+1),bk:=D.nx} σ2 H2) (hd:∀σ H,Pv xs.length σ H->D.nx σ H):sX (E3 K (fT n [(true,a),(true,b),(true,c)])) g tb D σ H:=by
 refine⟨λi m σ H=>m=xs.length-i/\i<=xs.length/\Pv i σ H,⟨xs.length,by simp,MG _,h0⟩,?_⟩
 rintro i m σ H ⟨rfl,hi,p⟩;obtain⟨q1,q2,q3⟩:=hl i σ H p;have q1':jw K true H a xs:=q1;have q2':jw K true H b ys:=q2;have q3':jw K true H c zs:=q3;by_cases hlt:i<xs.length
 ·have hl2:i<ys.length:=by lia
  have hl3:i<zs.length:=by lia
  refine .inr ⟨⟨[xs[i],ys[i],zs[i]],.cons ⟨xs,q1',by simp[hlt]⟩ (.cons ⟨ys,q2',by simp[hl2]⟩ (.cons ⟨zs,q3',by simp[hl3]⟩ .nil))⟩,Pv (i+1),λσ' H' p'=>⟨xs.length-(i+1),by lia,rfl,hlt,p'⟩,λx H' z=>?_⟩
  obtain⟨c',vs,pr,fr,rfl,rfl⟩:=z;obtain⟨v1,vs,rfl,e1,pr⟩:=Paired.iI pr;obtain⟨v2,vs,rfl,e2,pr⟩:=Paired.iI pr;obtain⟨v3,vs,rfl,e3,pr⟩:=Paired.iI pr;cases pr;exact hs i v1 v2 v3 σ H c' (e1 xs q1') (e2 ys q2') (e3 zs q3') p fr
 ·have e:i=xs.length:=by lia
  subst e;exact .inl ⟨⟨[],(true,n,a),_,[],rfl,.nil,xs,q1',rfl⟩,hd σ H p⟩
def wz(h:i<l.length):bQ (iV (nZ l)) (i:Int)=some (.int ((l.getD i 0:Nat):Int)):=aV (by unfold iV nZ;rw[NI,M7,Mt h,M9,Mt h];rfl)
def BQ{v:V}(h:(iV (nZ l))[i]?=some v):∃x:Nat,l[i]?=some x/\v=.int (x:Nat):=by
 unfold iV nZ at h;rw[NI,M7] at h;obtain⟨x,e,rfl⟩:=MT.mp h;exact⟨x,e,rfl⟩
def ID{l:List (Option Nat)}{v:V}(h:(l.map aJ)[i]?=some v):∃x,l[i]?=some x/\v=aJ x:=by
 rw[M7] at h;obtain⟨x,e,rfl⟩:=MT.mp h;exact⟨x,e,rfl⟩
def qp(K:W.Frag):Sp:=λvs H Q _=>∃(a b c:Addr) (ss:List Nat) (gs:List (Option Nat)) (ws:List Nat),vs=[.ref a,.ref b,.ref c]/\H a=some (.lst (iV (nZ ss)))/\H b=some (.lst (gs.map aJ))/\H c=some (.lst (iV (nZ ws)))/\gs.length=ss.length/\ws.length=ss.length/\ss.length<=64/\(∀w∈ws,w<3)/\∀d H',H d=none->KB [] H H'->H' d=some (.lst (iV (nZ (dy 0 ss gs ws))))->Q (.ref d) H'
def CA(T:Txt K mg)(F:HasFn K mg "_law_spots" gE ["sizes","goals","widths"]):ao P w K mg base aF 1 "_law_spots" ["sizes","goals","widths"] (qp K):=by
 refine F.dH cE (by ac_rfl) ?_
 left
 obtain⟨a,b,c,ss,gs,ws,rfl,ha,hb,hc,h1,h2,h3,h4,q⟩:=h;have hl:=ff ss gs ws 0 h1 h2;have hat:=jW ss gs ws 0;obtain⟨l0,e0⟩:=tT 0 ss gs ws;refine⟨_,(Z.aq (Z.se (i:=3) cE.nd (Z.lst (Z.cons Z.int Z.nil)))
   (Z.aq (Z.fQ Nd rfl (KH K rfl rfl T.rP (Z.cons (Z.v 0) (Z.cons (Z.v 1) (Z.cons (Z.v 2) Z.nil)))) (Z.kP (n:=3) K rfl rfl (Z.bq (Z.aA (i:=4) cE.nd rfl (by right)) (Z.bq (Z.aA (i:=5) cE.nd rfl (by right)) (Z.bq (Z.aA (i:=6) cE.nd rfl (by right)) Z.gR)))) (Z.ay (Z.expr (Z.app K (Z.v 3) (Z.cons (Z.op (Z.aI K rfl) (Z.op (Z.aI K rfl) (Z.ix (Z.aD K rfl hu) (Z.v 3) (Z.un cB Z.int)) (Z.v 4)) (Z.ix (Z.aD K rfl hu) (Z.lst (Z.cons Z.int (Z.cons (Z.ix (Z.aD K rfl hu) (Z.lst (Z.consts rfl)) (Z.v 6)) Z.nil))) (Z.ct i6 rfl T.qV ∅ (Z.cons (Z.cmp f_ (Z.v 5) Z.aN) Z.nil)))) Z.nil)))))
   (Z.ay (Z.ret (Z.v 3))))),?_⟩
 generalize vS:dy 0 ss gs ws=sp at *;symm;nofun;refine⟨by decide,λfd hfd=>?_⟩
 have k1:=KB.new (ex:=[]) (o:=.lst [.int 0]) hfd;have s1:upd H fd (.lst [.int 0]) fd=some (.lst (iV (nZ (sp.take 1)))):=by rw[aa,e0];rfl
 generalize upd H fd (.lst [.int 0])=H1 at *;subst hN;symm;exists B3;have ha1:=k1.n ha;have hb1:=k1.n hb;have hc1:=k1.n hc;refine⟨(true,a),(true,b),(true,c),⟨rfl,rfl,rfl⟩,⟨_,aT.of ha1⟩,⟨_,aT.of hb1⟩,⟨_,aT.of hc1⟩,λn=>?_⟩;refine xM (xs:=iV (nZ ss)) (ys:=gs.map aJ) (zs:=iV (nZ ws)) (by rw[eC,Ms,h1]) (by rw[eC,eC,h2]) (λi σ H'=>∃o4 o5 o6:Option V,i<=ss.length/\KB [] H H'/\H' fd=some (.lst (iV (nZ (sp.take (i+1)))))/\σ=[some (.ref a),some (.ref b),some (.ref c),some (.ref fd),o4,o5,o6]) ⟨none,none,none,MG _,k1,s1,rfl⟩ (λi σ H' ⟨_,_,_,_,k,_⟩=>⟨aT.of (k.n ha),aT.of (k.n hb),aT.of (k.n hc)⟩) ?_ ?_
 ·rintro i x y z σ H' p hx hy hz ⟨o4,o5,o6,hi,hk,gf,rfl⟩ hp;obtain⟨s0,es,rfl⟩:=BQ hx;obtain⟨g,eg,rfl⟩:=ID hy;obtain⟨w0,ew,rfl⟩:=BQ hz;have hlt:i<ss.length:=(Mw.mp es).1;have lw:=h4 _ (N1 ew);have en:=hat i s0 g w0 es eg ew;unfold aL;refine⟨p,_,rfl,aW.of aa,rfl,_,_,rfl,_,_,rfl,_,_,rfl,rfl,?_⟩;have k2:=hk.trans (KB.new (o:=.tup [.int (s0:Nat),aJ g,.int (w0:Nat)]) hp);have gf2:upd H' p (.tup [.int (s0:Nat),aJ g,.int (w0:Nat)]) fd=some (.lst (iV (nZ (sp.take (i+1))))):=by rw[af (ae gf hp)];exact gf
  generalize upd H' p (.tup [.int (s0:Nat),aJ g,.int (w0:Nat)])=H2 at *;have et:sp.take (i+1+1)=sp.take (i+1)++[sp.getD (i+1) 0]:=by
   rw[Ni,M9,Mt (show i+1<sp.length by lia)];rfl
  have lst:bQ (iV (nZ (sp.take (i+1)))) (-1)=some (.int ((sp.getD i 0:Nat):Int)):=by
   have hi2:(sp.take (i+1)).length=i+1:=by rw[MB];lia
   unfold bQ jE;rw[M4 ⋯,MD (by rw[eC,hi2];lia),eC,hi2,show -1+((i+1:Nat):Int)=(i:Int) by lia]
   show (iV (nZ (sp.take (i+1))))[((i:Nat):Int).toNat]?=_;rw[MY];unfold iV nZ;rw[NI,M7,Nx (OA i),Mt (show i<sp.length by lia),M9,Mt (show i<sp.length by lia)];rfl
  dsimp only;refine nV λM hM=>?_;exists au gf2,lst;have a1:bQ [V.int 5,.int 10,.int 18] (w0:Int)=some (.int ((Dd w0:Nat):Int)):=by rcases qQ lw with rfl|rfl|rfl<;>rfl
  refine⟨.inl ⟨rfl,_,aT.of gf2⟩,by decide,λp1 hp1=>?_⟩
  rw[a1];refine⟨by decide,λp2 hp2=>?_⟩
  have a2:bQ [V.int 0,.int ((Dd w0:Nat):Int)] (if ¬ aJ g=V.aN then 1 else 0)=some (.int ((addW g w0:Nat):Int)):=by cases g<;>rfl
  rw[a2];have k3:=(KB.new (ex:=[]) (o:=.lst [.int 5,.int 10,.int 18]) hp1).trans (KB.new (o:=.lst [.int 0,.int ((Dd w0:Nat):Int)]) hp2);generalize upd (upd H2 p1 _) p2 _=H3 at *;have gf3:=k3.n gf2;nofun;refine⟨fd,_,_,rfl,rfl,gf3,N3 (show _<=1000 by rw[eC,MB];lia) ⋯,?_⟩
  rw[hM];refine⟨_,_,_,hlt,λu o e _=>by rw[af (ae e hfd)];exact k3.n (k2.n e),?_,rfl⟩
  rw[aa,et,en];unfold nZ;rw[MI,pG];rfl
 ·rintro σ H' ⟨o4,o5,o6,hi,hk,gf,rfl⟩;show N _ _;subst hN;nofun;rw[Ng (by rw[hl,eC];exact M8 _)] at gf
  exact q fd H' hfd hk gf
def wR(K:W.Frag):Sp:=λvs H Q _=>∃(a b c:Addr) (ss:List Nat) (gs:List (Option Nat)) (ws:List Nat),vs=[.ref a,.ref b,.ref c]/\H a=some (.lst (iV (nZ ss)))/\H b=some (.lst (gs.map aJ))/\H c=some (.lst (iV (nZ ws)))/\gs.length=ss.length/\ws.length=ss.length/\ss.length<=64/\(∀t,some t∈gs->t<=ss.length)/\(∀w∈ws,w<3)/\∀d H',H d=none->KB [] H H'->H' d=some (.lst (iV (nZ (jF ss gs ws))))->Q (.ref d) H'
def IP(l:List Nat)(i v:Nat):(iV (nZ l)).set i (.int (v:Int))=iV (nZ (l.set i v)):=by
 unfold iV nZ;rw[Pc,Pc]
def Ck(T:Txt K mg)(F:HasFn K mg "_law_least" fX ["sizes","goals","widths"])(U4:ao P w K mg base aF 1 "_law_spots" ["sizes","goals","widths"] (qp K)):ao P w K mg base aF 2 "_law_least" ["sizes","goals","widths"] (wR K):=by
 refine F.dH bI (by ac_rfl) ?_
 left
 obtain⟨a,b,c,ss,gs,ws,rfl,ha,hb,hc,h1,h2,h3,h5,h6,q⟩:=h;refine⟨_,(Z.aq (Z.se (i:=2) bI.nd (Z.ct (Z.zj K rfl) rfl T.pW ∅ (Z.cons (Z.v 2) Z.nil)))
   (Z.aq (Z.fQ Nd rfl (Z.my rfl T.cK (Z.cons (Z.op (Z.aI K rfl) (Z.op cN Z.int (Z.cb (Z.bL K rfl) rfl T.bA ∅ (Z.cons (Z.v 0) Z.nil))) Z.int) Z.nil)) (Z.aA (i:=3) bI.nd rfl (by right)) (Z.aq (Z.se (i:=4) bI.nd (Z.fc U4 (Z.cons (Z.v 0) (Z.cons (Z.v 1) (Z.cons (Z.v 2) Z.nil)))))
   (Z.ay (Z.fQ Nd rfl (Z.my rfl T.cK (Z.cons (Z.cb (Z.bL K rfl) rfl T.bA ∅ (Z.cons (Z.v 0) Z.nil)) Z.nil)) (Z.aA (i:=5) bI.nd rfl (by right)) (Z.ay (Z.dz (Z.aK f_ (Z.ix (Z.aD K rfl hu) (Z.v 1) (Z.v 5)) Z.aN) (Z.aq (Z.se (i:=6) bI.nd (Z.ix (Z.aD K rfl hu) (Z.lst (Z.consts rfl)) (Z.ix (Z.aD K rfl hu) (Z.v 2) (Z.v 5))))
   (Z.aq (Z.se (i:=7) bI.nd (Z.op d7 (Z.ix (Z.aD K rfl hu) (Z.v 4) (Z.ix (Z.aD K rfl hu) (Z.v 1) (Z.v 5))) (Z.ix (Z.aD K rfl hu) (Z.v 4) (Z.op (Z.aI K rfl) (Z.v 5) Z.int))))
   (Z.ay (Z.dz (Z.j7 (Z.IA (C8) (e_) (Z.op d7 Z.int (Z.v 6)) (Z.v 7) (Z.v 6))) (Z.ay (Z.asg (Z.cb (ow rfl) rfl T.FO ∅ (Z.cons (Z.op (Z.aI K rfl) (Z.ix (Z.aD K rfl hu) (Z.v 2) (Z.v 5)) Z.int) (Z.cons Z.int Z.nil))) (Z.nK (Z.v 2) (Z.v 5)))) Z.bp)))) Z.bp))))))
   (Z.ay (Z.ret (Z.v 2))))),?_⟩
 symm;nofun;refine⟨c,_,rfl,.inl (aT.of hc),λd hd=>?_⟩;obtain⟨k1,s1⟩:=bS hd (.lst (iV (nZ ws)));generalize upd H d _=H1 at *;subst hN;symm;have ha1:=k1.n ha;exists au ha1,eC;refine⟨.inl ⟨by decide,by decide⟩,by lia,by lia,?_⟩
 rw[show (2*(ss.length:Int)+1).toNat=2*ss.length+1 by lia]
 refine bB (λm σ H'=>∃o3 o4 o5 o6 o7:Option V,KB [] H H'/\H' d=some (.lst (iV (nZ (bz ss gs ws m))))/\σ=[some (.ref a),some (.ref b),some (.ref d),o3,o4,o5,o6,o7]) ⟨none,none,none,none,none,k1,s1,rfl⟩ ?_ ?_
 ·rintro m σ H' hm ⟨o3,o4,o5,o6,o7,hk,gd,rfl⟩;generalize (0:Int)+((m:Nat):Int)=kI;have wl:=fR ss gs ws m;have wt:=h9 (ss:=ss) (gs:=gs) h6 m;rw[h2] at wl;unfold aL;have en:bz ss gs ws (m+1)=eX (dy 0 ss gs (bz ss gs ws m)) 0 gs (bz ss gs ws m):=rfl;generalize bz ss gs ws m=wm at *;refine ax λM hM=>?_;nofun;refine⟨a,b,d,ss,gs,wm,rfl,hk.n ha,hk.n hb,gd,h1,wl,h3,wt,λsd H2 hsd k2 g2=>?_⟩;subst hM;have sl:=ff ss gs wm 0 h1 wl;generalize dy 0 ss gs wm=sp at *;have dsd:sd≠d:=λz=>by rw[z,gd] at hsd;cases hsd
  have hk2:=hk.trans k2;have gd2:=k2.n gd;have ha2:=hk2.n ha;dsimp only;refine nV λM hM=>?_;exists au ha2,eC;refine⟨by lia,by lia,?_⟩
  rw[MY];have hsdH:H sd=none:=hk.free (by simp) hsd
  refine bB (λi σ G=>∃o5 o6 o7:Option V,KB [] H G/\G sd=some (.lst (iV (nZ sp)))/\G d=some (.lst (iV (nZ (gM sp gs wm i))))/\σ=[some (.ref a),some (.ref b),some (.ref d),some (.int kI),some (.ref sd),o5,o6,o7]) ⟨o5,o6,o7,hk2,g2,gd2,rfl⟩ ?_ ?_
  ·rintro i σ G hi ⟨o5,o6,o7,hkG,gs3,gd3,rfl⟩;rw[show (0:Int)+((i:Nat):Int)=(i:Int) from Q_ _];have eg:=Mt (show i<gs.length by lia)
   have ew:=Mt (show i<wm.length by lia)
   have lw:=wt _ (MQ (show i<wm.length by lia))
   have gm:=MQ (show i<gs.length by lia)
   generalize gs[i]'_=g at eg gm;generalize wm[i]'_=w0 at ew lw;have hbG:=au (hkG.n hb);have ag:bQ (gs.map aJ) (i:Int)=some (aJ g):=aV (by rw[M7,eg];rfl)
   have aw:bQ (iV (nZ (gM sp gs wm i))) (i:Int)=some (.int (w0:Nat)):=aV (by unfold iV nZ;rw[NI,M7,Cm ew];rfl)
   dsimp only;refine nV λM2 hM2=>?_;have DP:∀(G':Hp) (o6 o7:Option V),KB [] H G'->G' sd=some (.lst (iV (nZ sp)))->G' d=some (.lst (iV (nZ (gM sp gs wm (i+1)))))->M2 [some (.ref a),some (.ref b),some (.ref d),some (.int kI),some (.ref sd),some (.int (i:Int)),o6,o7] G':=λG' o6 o7 g1 g2 g3=>by rw[hM2];exact⟨_,o6,o7,g1,g2,g3,rfl⟩
   refine vI λA B hA hB=>?_;exists hbG,ag
   cases g with
   |none =>
    rw[M4 (show ¬ ¬ aJ none=V.aN from λz=>z rfl),hB];rw[<- sx (sp:=sp) eg ew rfl] at gd3;exact DP G _ _ hkG gs3 gd3
   |some t =>
    have ht:t<=ss.length:=h5 t gm;have as1:=wz (l:=sp) (i:=t) (by lia)
    have as2:bQ (iV (nZ sp)) ((i:Int)+1)=some (.int ((sp.getD (i+1) 0:Nat):Int)):=wz (l:=sp) (i:=i+1) (by lia)
    rw[MD (show ¬ aJ (some t)=V.aN from λz=>nomatch z),hA];have ah:bQ [V.int 8,.int 128,.int 32768] (w0:Int)=some (.int (eY w0)):=by rcases qQ lw with rfl|rfl|rfl<;>rfl
    refine ax λM3 hM3=>?_;nofun;refine⟨by decide,λl hl=>?_⟩
    obtain⟨k4,s4⟩:=bS hl (.lst [.int 8,.int 128,.int 32768]);have gd4:=k4.n gd3;exists au gd4,aw,au s4,ah;have gs4:=k4.n gs3;have hkG4:=hkG.trans k4;generalize upd G l _=G4 at *;rw[hM3];refine ax λM3 hM3=>?_;have hbG4:=au (hkG4.n hb);have ag':bQ (gs.map aJ) (i:Int)=some (.int (t:Nat)):=ag;exists hbG4,ag',au gs4,as1,as2;rw[hM3];have bad:kX w0 (cf sp t i)=false->M2 [some (.ref a),some (.ref b),some (.ref d),some (.int kI),some (.ref sd),some (.int (i:Int)),some (.int (eY w0)),some (.int (((sp.getD t 0:Nat):Int)-((sp.getD (i+1) 0:Nat):Int)))] (upd G4 d (.lst ((iV (nZ (gM sp gs wm i))).set i (.int (if 2<(w0:Int)+1 then 2 else (w0:Int)+1))))):=λc=>by
     have e3:gM sp gs wm (i+1)=(gM sp gs wm i).set i (min (w0+1) 2):=by
      rw[sS eg ew];show (gM sp gs wm i).set i (if kX w0 (cf sp t i)=true then w0 else min (w0+1) 2)=_
      rw[c,M4 ⋯]
     refine DP _ _ _ (λu o e _=>by rw[af (ae e hd)];exact hkG4.n e) (by rw[af dsd];exact gs4) ?_
     rw[aa,show (if 2<(w0:Int)+1 then 2 else (w0:Int)+1)=((min (w0+1) 2:Nat):Int) by split<;>lia,IP,<- e3]
    exists au gd4,aw;have ex:jE (iV (nZ (gM sp gs wm i))).length (i:Int)=some i:=by
     rw[eC,DT];unfold jE;rw[MD (by lia),MD (by lia),MY]
    rw[gd4];simp only[ex];by_cases c1:0-eY w0<=((sp.getD t 0:Nat):Int)-((sp.getD (i+1) 0:Nat):Int)
    ·rw[MD c1];by_cases c2:((sp.getD t 0:Nat):Int)-((sp.getD (i+1) 0:Nat):Int)<eY w0
     ·rw[M4 (λz=>z c2)];rw[<- sx (sp:=sp) eg ew (by
       show (if kX w0 (cf sp t i)=true then w0 else min (w0+1) 2)=w0
       rw[MD];unfold kX cf;rw[Nq (by lia),Nq c2];rfl)] at gd4
      exact DP _ _ _ hkG4 gs4 gd4
     ·rw[MD c2];refine bad ?_;unfold kX cf;rw[MW c2,Bool.and_false]
    ·rw[M4 c1];refine bad ?_;unfold kX cf;rw[MW (by lia),Px]
  ·rintro σ G ⟨o5,o6,o7,hkG,gs3,gd3,rfl⟩;show M _ _;rw[hM];rw[<- wl,EV] at gd3;exact⟨_,_,o5,o6,o7,hkG,by rw[en];exact gd3,rfl⟩
 ·rintro σ H' ⟨o3,o4,o5,o6,o7,hk,gd,rfl⟩;show N _ _;subst hN;nofun;exact q d H' hd hk gd
def vV:Sp:=λvs H Q _=>vs=[]/\∀l,H l=none->Q (.ref l) (upd H l (.lst (eH.map V.str)))
def xH(F:HasFn K mg "_law_words" gN []):ao P w K mg base aF 1 "_law_words" [] vV:=by
 refine F.dH nJ (by ac_rfl) (λf cdv A outer s H vs Q E hr h=>?_)
 obtain⟨rfl,q⟩:=h;refine⟨_,(Z.ay (Z.ret (Z.lst (Z.consts rfl)))),?_⟩;nofun;exact⟨by decide,λp hp=>q p hp⟩
def l7:Sp:=λvs H Q _=>∃(n:Int) (k:Nat),vs=[.int n,.int (k:Nat)]/\k<=40/\Q (.str (wd (bT n k []))) H
def Bz(T:Txt K mg)(F:HasFn K mg "_law_bits" ik ["number","many"]):ao P w K mg base aF 1 "_law_bits" ["number","many"] l7:=by
 refine F.dH c_ (by ac_rfl) ?_
 left
 obtain⟨n,k,rfl,hk,q⟩:=h;refine⟨_,(Z.aq (Z.se (i:=2) c_.nd Z.str)
   (Z.aq (Z.fQ Nd rfl (Z.my rfl T.cK (Z.cons (Z.v 1) Z.nil)) (Z.aA (i:=3) c_.nd rfl (by right)) (Z.aq (Z.se (i:=2) c_.nd (Z.op (Z.aI K rfl) (Z.ix (Z.aD K rfl hu) Z.str (Z.op eF (Z.v 0) Z.int)) (Z.v 2)))
   (Z.ay (Z.se (i:=0) c_.nd (Z.op lu (Z.v 0) Z.int)))))
   (Z.ay (Z.ret (Z.v 2))))),?_⟩
 symm;nofun;subst hN;symm;nofun;refine⟨by lia,by lia,?_⟩
 rw[MY];refine bB (λi σ H'=>∃(m:Int) (acc:List Nat) (o:Option V),H'=H/\i<=k/\bT m (k-i) acc=bT n k []/\acc.length=i/\σ=[some (.int m),some (.int (k:Nat)),some (.str (wd acc)),o]) ⟨n,[],none,rfl,MG _,rfl,rfl,by rw[lL]⟩ ?_ ?_
 ·rintro i σ H' hi ⟨m,acc,o,rfl,_,e,hl,rfl⟩;unfold aL;refine ax λM hM=>?_;exists Kz;refine⟨by decide,by decide +kernel,?_⟩
  rw[show (⟨#[dg m]⟩:Str)=wd [dg m] from rfl,bu,bu,dM];refine⟨Mz (show _<=50 by simp;lia) ⋯,?_⟩
  subst hM;refine nV λM hM=>?_;nofun;refine⟨⟨by decide,by decide⟩,?_⟩
  rw[hM];refine⟨m / 2,dg m::acc,some _,rfl,hi,?_,by rw[MJ,hl],rfl⟩
  rw[<- e,show k-i=(k-(i+1))+1 by lia]
  rfl
 ·rintro σ H' ⟨m,acc,o,rfl,_,e,_,rfl⟩;rw[NN] at e;show N _ _;subst hN;nofun;rw[<- e] at q;exact q
def BE{n:Nat}(h:n<3):bQ [V.str (Str.ofString "0"),.str (Str.ofString "10"),.str (Str.ofString "11")] (n:Int)=some (.str (wd (eL n))):=by
 rcases qQ h with rfl|rfl|rfl
 ·exact Nw (λz=>some (V.str z)) ∅
 ·exact Nw (λz=>some (V.str z)) ∅
 ·exact Nw (λz=>some (V.str z)) ∅
def LY(H:Hp)(ca:Addr)(cd:List (List (List Nat))):Prop:=∃a0 a1 a2,H ca=some (.lst [.ref a0,.ref a1,.ref a2])/\H a0=some (.lst (wV (cd.getD 0 [])))/\H a1=some (.lst (wV (cd.getD 1 [])))/\H a2=some (.lst (wV (cd.getD 2 [])))
def tm(cd:List (List (List Nat))):Pk->List Nat
 |.box b=>fS cd (2,b)
 |.num n=>fS cd (1,dm n)++(jJ n).tail
 |.goal _=>[]
def Pk.of(w:Str):Pk->Prop
 |.box _=>True
 |.num _=>w=Str.ofString "put"
 |.goal _=>w≠Str.ofString "put"
def Gs(r:Row):∀p∈r.eR,p.of r.wd:=by
 cases r with
 |put b n=>intro p hp;simp only[Row.eR,M0,MP,Nl] at hp;rcases hp with rfl|rfl;exact trivial;exact rfl
 |two u a b=>intro p hp;simp only[Row.eR,M0,MP,Nl] at hp;rcases hp with rfl|rfl<;>exact trivial
 |one u b=>intro p hp;simp only[Row.eR,M0,MP,Nl] at hp;subst hp;exact trivial
 |jump g=>intro p hp;simp only[Row.eR,M0,MP,Nl] at hp;subst hp;show Str.ofString "jump"≠Str.ofString "put";decide +kernel
 |zero b g=>intro p hp;simp only[Row.eR,M0,MP,Nl] at hp;rcases hp with rfl|rfl;exact trivial;show Str.ofString "zero"≠Str.ofString "put";decide +kernel
 |halt=>intro p hp;cases hp
def u9(cd:List (List (List Nat)))(r:Row):b8 cd r=fS cd (0,r.wi)++r.eR.flatMap (tm cd):=by
 cases r<;>simp[b8,eA,Row.eR,Pk.BN,tm,oT]
def CN(l:List Nat):Y.jH (wd l) (some 1) none=wd l.tail:=by
 unfold Y.jH wd;congr 2;show Y.sR l (some 1) none=l.tail;unfold Y.sR;rw[HT.bW,show (some (1:Int))=some ((1:Nat):Int) from rfl,HT.dn]
 cases l with
 |nil=>rfl
 |cons x l=>simp
def yt(x:V)(xs:List V):cC (x::xs) (some 1) none=xs:=by
 unfold cC;rw[HT.bW,show (some (1:Int))=some ((1:Nat):Int) from rfl,HT.dn];simp
def zi{ws:List (List Nat)}{x:List Nat}(h:ws[i]?=some x):bQ (wV ws) (i:Int)=some (.str (wd x)):=aV (by unfold wV;rw[M7,h];rfl)
def wA(K:W.Frag):Sp:=λvs H Q _=>∃(ra ca:Addr) (r:Row) (k:Nat) (cd:List (List (List Nat))),vs=[.ref ra,.ref ca]/\H ra=some (.tup r.vs)/\LY H ca cd/\r.Ok k/\Cd cd/\∀H',KB [] H H'->Q (.str (wd (b8 cd r))) H'
def BD(T:Txt K mg)(F:HasFn K mg "_law_plain" gz ["row","codes"])(ad6:ao P w K mg base aF 1 "_law_words" [] vV)(S0:ao P w K mg base aF 1 "_law_bits" ["number","many"] l7):ao P w K mg base aF 2 "_law_plain" ["row","codes"] (wA K):=by
 refine F.dH b_ (by ac_rfl) ?_
 left
 obtain⟨ra,ca,r,k,cd,rfl,hra,hca,aH,hC,q⟩:=h;obtain⟨a0,a1,a2,g,g0,g1,g2⟩:=hca;rw[Row.Gb] at hra;rw[u9] at q;refine⟨_,(Z.aq (Z.se (i:=2) b_.nd (Z.ix (Z.aD K rfl hu) (Z.ix (Z.aD K rfl hu) (Z.v 1) Z.int) (Z.bm K rfl PySem.F.plainAttrs_list PySem.F.slot_list_index PySem.F.type_list_index Y.wk (Z.Md ad6 (hr.mono ⋯) rfl cg) (Z.cons (Z.ix (Z.aD K rfl hu) (Z.v 0) Z.int) Z.nil))))
   (Z.aq (Z.fQ Nd rfl (Z.any K rfl (Z.slice (Z.pL K rfl) (Z.v 0) (Z.nG Z.int) Z.nI)) (Z.aA (i:=3) b_.nd rfl (by right)) (Z.ay (Z.dz (Z.j6 K rfl (Z.cb (Z.zQ K rfl) rfl T.gq Pd (Z.cons (Z.v 3) (Z.cons (Z.Lg (T:="str") rfl T.iq ∅) Z.nil)))) (Z.ay (Z.se (i:=2) b_.nd (Z.op (Z.aI K rfl) (Z.v 2) (Z.ix (Z.aD K rfl hu) (Z.ix (Z.aD K rfl hu) (Z.v 1) Z.int) (Z.bm K rfl PySem.F.plainAttrs_str PySem.F.slot_str_index PySem.F.type_str_index Y.C1 Z.str (Z.cons (Z.v 3) Z.nil)))))) (Z.ay (Z.dz (Z.aK aY (Z.ix (Z.aD K rfl hu) (Z.v 0) Z.int) Z.str) (Z.aq (Z.se (i:=4) b_.nd (Z.Lv K rfl PySem.F.plainAttrs_int PySem.F.slot_int_bit_length PySem.F.type_int_bit_length Y.qy (Z.v 3)))
   (Z.ay (Z.se (i:=2) b_.nd (Z.op (Z.aI K rfl) (Z.op (Z.aI K rfl) (Z.v 2) (Z.ix (Z.aD K rfl hu) (Z.ix (Z.aD K rfl hu) (Z.v 1) Z.int) (Z.v 4))) (Z.slice Y.pE (Z.fc S0 (Z.cons (Z.v 3) (Z.cons (Z.v 4) Z.nil))) (Z.nG Z.int) Z.nI))))) Z.bp)))))
   (Z.ay (Z.ret (Z.v 2))))),?_⟩
 obtain⟨c0,c1,c2,rfl,l0,l1,l2⟩:=hC.ex;have w0:=hC.at (p:=(0,r.wi)) (.inl ⟨rfl,r.zd⟩);symm;exists au g;refine⟨rfl,λl hl=>?_⟩;obtain⟨k1,s1⟩:=bS hl (.lst (eH.map V.str));generalize upd H l _=H1 at *;exists a8 (k1.n hra);refine⟨.inl ⟨rfl,_,aT.of s1⟩,l,eH,r.wd,r.wi,rfl,s1,rfl,(vG r).1,(vG r).2,?_⟩;exists au (k1.n g0),zi w0.2.1;subst hN;symm;have hra1:=k1.n hra;exists a8 hra1;refine⟨ra,_,rfl,aW.of hra1,by rw[show (some (1:Int))=some ((1:Nat):Int) from rfl,HT.dn,MJ];lia,λt ht=>?_⟩
 rw[yt];obtain⟨k2,s2⟩:=bS ht (.tup (r.eR.map Pk.v));generalize upd H1 t _=H2 at *;have k02:=k1.trans k2;simp only[a8 s2];have G:=k02.n g;have G1:=k02.n g1;have G2:=k02.n g2;have GR:=k02.n hra;refine BK (xs:=r.eR.map Pk.v) (λi σ H'=>H'=H2/\∃(x:List Nat) (o3 o4:Option V),x.length+60*(r.eR.drop i).length<=200/\fS [c0,c1,c2] (0,r.wi)++r.eR.flatMap (tm [c0,c1,c2])=x++(r.eR.drop i).flatMap (tm [c0,c1,c2])/\σ=[some (.ref ra),some (.ref ca),some (.str (wd x)),o3,o4]) ⟨rfl,_,none,none,?_,rfl,rfl⟩ (λi σ H' _ h=>by rw[h.1];exact aW.of s2) ?_ ?_
 ·have h1:r.eR.length<=2:=by cases r<;>simp[Row.eR]
  have h2:=w0.2.2;rw[NH];lia
 ·rintro i x σ H' hx ⟨rfl,y,o3,o4,hy,ea,rfl⟩;have hi:i<r.eR.length:=by have:=(Mw.mp hx).1;rw[Ms] at this;exact this
  obtain rfl:x=(r.eR[i]).v:=by
   rw[M7,Mt hi] at hx;exact (Option.some.inj hx).symm
  have hp0:=Row.uy aH _ (List.getElem_mem hi);have hp1:=Gs r _ (List.getElem_mem hi);rw[List.drop_eq_getElem_cons hi] at hy ea;rw[List.length_cons] at hy;generalize r.eR[i]=pk at *;unfold aL;dsimp only;refine nV λM hM=>?_
  cases pk with
  |box b =>
   have hb:b<8:=hp0;have w2:=hC.at (p:=(2,b)) (.inr (.inr ⟨rfl,hb⟩));show qo _ _ _ _ [_,_,_,some (V.str (bD b)),_] _;exists (show vf "str" "str"=true from by decide +kernel),au G
   refine⟨by decide,rfl,_,_,b,[],rfl,rfl,Lq hb,?_⟩
   exists au G2,zi w2.2.1;rw[bu,bu,dM];refine⟨Mz (show _<=240 by have:=w2.2.2;lia) ⋯,?_⟩
   rw[hM];exact⟨rfl,y++fS [c0,c1,c2] (2,b),some _,o4,by rw[Mx];have:=w2.2.2;lia,by rw[ea,P4,MX];rfl,rfl⟩
  |num n =>
   have hn:n<65536:=hp0;have hb:=kZ hn;have w1:=hC.at (p:=(1,dm n)) (.inr (.inl ⟨rfl,hb⟩));show qo _ _ _ _ [_,_,_,some (V.int (n:Nat)),_] _;exists (show vf "int" "str"=false from by decide +kernel),a8 GR,MD (show r.wd=Str.ofString "put" from hp1)
   refine⟨by decide,rfl,(n:Int),rfl,rfl,?_⟩
   rw[show ((Builtin.Int.intBits (n:Int):Nat):Int)=(dm n:Int) from rfl];exists au G,au G1,zi w1.2.1;have fl:(jJ n).length=dm n:=Dl n;have ft:(jJ n).tail.length<=16:=by rw[List.length_tail];lia
   have h3:=w1.2.2;refine⟨by rw[bu,bu];exact Mz (show _<=300 by lia) ⋯,(n:Int),dm n,rfl,by lia,?_⟩
   rw[show bT (n:Int) (dm n) []=jJ n from rfl];refine⟨_,rfl,by rw[bu];exact Mz (show _<=20 by lia) ⋯,?_⟩
   rw[CN,dM];exists bu;rw[dM];refine⟨Mz (show _<=300 by rw[Mx];lia) ⋯,?_⟩
   rw[hM];exact⟨rfl,y++fS [c0,c1,c2] (1,dm n)++(jJ n).tail,some _,some _,by rw[Mx,Mx];lia,by rw[ea,P4];simp[tm],rfl⟩
  |goal n =>
   show qo _ _ _ _ [_,_,_,some (V.int (n:Nat)),_] _;exists (show vf "int" "str"=false from by decide +kernel),a8 GR,M4 (show r.wd≠Str.ofString "put" from hp1)
   refine⟨by decide,?_⟩
   rw[hM];exact⟨rfl,y,some _,o4,by lia,by rw[ea,P4];rfl,rfl⟩
 ·rintro σ H' ⟨rfl,x,o3,o4,_,ea,rfl⟩;rw[Ms,Oh,List.flatMap_nil,Nm] at ea;show N _ _;subst hN;nofun;rw[ea] at q;exact q _ k02
def ye{β:Type}{R:α->β->Prop}{d:α}{e:β}{vs:List α}{ps:List β}(h:Paired R vs ps):∀i,i<ps.length->R (vs.getD i d) (ps.getD i e):=by
 induction h with
 |nil=>exactλi hi=>nomatch hi
 |cons h _ ih =>
  intro i hi
  cases i with
  |zero=>exact h
  |succ i=>exact ih i (Nat.lt_of_succ_lt_succ hi)
def map_getD:(List.range ((List.range ls.length).map (qP ls)).length).map (λi=>((List.range ls.length).map (qP ls)).getD i (0,0))=(List.range ls.length).map (qP ls):=by
 refine O5 λi=>?_;rw[M7];rcases Nt i ls.length with c|c
 ·rw[OF (by simpa using c),M7,OF c];simp[c]
 ·rw[Nv.mpr (by simpa using c),Nv.mpr (by simpa using c)];rfl
def wN(K:W.Frag):Sp:=λvs H Q _=>∃(a:Addr) (ls:List Int),vs=[.ref a]/\H a=some (.tup (iV ls))/\pJ ls/\uJ ls=true/\∀b H',H b=none->KB [] H H'->H' b=some (.lst (wV (wordsOf Cw.gW ls)))->Q (.ref b) H'
def A6(T:Txt K mg)(F:HasFn K mg "_law_code" fw ["lengths"])(S0:ao P w K mg base aF 1 "_law_bits" ["number","many"] l7):ao P w K mg base aF 2 "_law_code" ["lengths"] (wN K):=by
 refine F.dH bg (by ac_rfl) ?_
 left
 obtain⟨a,ls,rfl,ha,hL,ho,q⟩:=h;refine⟨_,(Z.aq (Z.se (i:=1) bg.nd (Z.op cN (Z.lst (Z.cons Z.str Z.nil)) (Z.cb (Z.bL K rfl) rfl T.bA ∅ (Z.cons (Z.v 0) Z.nil))))
   (Z.aq (Z.se (i:=2) bg.nd Z.int)
   (Z.aq (Z.se (i:=3) bg.nd Z.int)
   (Z.aq (Z.fQ Nd rfl (Z.any K rfl (Z.cb (Y.uz K rfl) rfl T.mS ∅ (Z.cons (Z.mT (osc:=ab fw) (ON:=["lengths","found","number","size","length","thing","k"]) (own:=["thing","length"]) (N:=["thing","length","lengths","found","number","size",".length",".thing","k"]) (az.of rfl ∅) (Z.enum K rfl rfl T.hJ (Z.cons (Z.v 0) Z.nil)) (λnd _ _ _ _=>(Z.kP (n:=2) K rfl rfl (Z.bq (Z.aA (i:=0) nd rfl (by right)) (Z.bq (Z.aA (i:=1) nd rfl (by right)) Z.gR)))) (λ_ _ _ _=>Z.je) (λ_ _ _ _=>(Z.tup (Z.cons (Z.v 1) (Z.cons (Z.v 0) Z.nil))))) Z.nil))) (Z.kP (n:=2) K rfl rfl (Z.bq (Z.aA (i:=4) bg.nd rfl (by right)) (Z.bq (Z.aA (i:=5) bg.nd rfl (by right)) Z.gR))) (Z.aq (Z.fQ Nd rfl (Z.my rfl T.cK (Z.cons (Z.op d7 (Z.v 4) (Z.v 3)) Z.nil)) (Z.aA (i:=6) bg.nd rfl (by right)) (Z.ay (Z.se (i:=2) bg.nd (Z.op cN (Z.v 2) Z.int))))
   (Z.aq (Z.se (i:=3) bg.nd (Z.v 4))
   (Z.aq (Z.asg (Z.fc S0 (Z.cons (Z.v 2) (Z.cons (Z.v 4) Z.nil))) (Z.nK (Z.v 1) (Z.v 5)))
   (Z.ay (Z.se (i:=2) bg.nd (Z.op (Z.aI K rfl) (Z.v 2) Z.int)))))))
   (Z.ay (Z.ret (Z.v 1))))))),?_⟩
 have hl20:=hL.2.1;symm;nofun;refine⟨by decide,λp0 hp0=>?_⟩
 obtain⟨k1,s1⟩:=bS hp0 (.lst [.str (Str.ofString "")]);generalize upd H p0 _=H1 at *;have ha1:=k1.n ha;exists a8 ha1,cu;refine⟨p0,_,_,rfl,rfl,s1,by lia,by lia,Mz (show _<=20 by simp;lia) ⋯,λfd hfd=>?_⟩
 have er:(List.replicate ls.length [V.str (Str.ofString "")]).flatten=wV (List.replicate ls.length []):=by
  rw[lL];unfold wV;rw[OS];generalize ls.length=n
  induction n with
  |zero=>rfl
  |succ n ih=>rw[Nz,OU,ih];rfl
 rw[MY,er];obtain⟨k2,s2⟩:=bS hfd (.lst (wV (List.replicate ls.length [])));generalize upd H1 fd _=H2 at *;have fd0:H fd=none:=k1.free (by simp) hfd
 have h02:=k1.trans k2;clear k1 s1 hp0 ha1 er k2 hfd;rw[hN];clear hN N H1;symm;nofun;subst hN;symm;nofun;subst hN;symm;nofun;have ha2:=h02.n ha;refine⟨⟨_,aW.of ha2⟩,?_⟩;refine sO (xs:=iV ls) (Mz (show _<=20 by rw[cu];exact hl20) ⋯) (λD i ys H'=>H2 D=none/\H' D=some (.lst ys)/\KB [] H2 H'/\i<=ls.length/\ys.length=i/\Paired (Y.K1 H') ys ((List.range i).map (qP ls))) (λD hD=>⟨hD,aa,KB.new hD,MG _,rfl,.nil⟩) (λD i ys H' h=>⟨h.2.1,h.2.2.2.2.1⟩) (λD i ys H' h=>aW.of (h.2.2.1 _ _ ha2 (by simp))) ?_ ?_
 ·rintro D i ys H' x p R hx ⟨g0,g1,g2,g3,g4,g5⟩ hp kk;obtain⟨hi,rfl⟩:=qG hx;have k3:KB [] H' (upd H' p (.tup [.int (i:Nat),.int ls[i]])):=KB.new hp;generalize upd H' p (.tup [.int (i:Nat),.int ls[i]])=H3 at *;nofun;refine⟨by decide,λt ht=>?_⟩
  obtain⟨k4,s4⟩:=bS ht (.tup [.int ls[i],.int (i:Nat)]);generalize upd H3 t _=H4 at *;have k34:=k3.trans k4;have gD:=k34.n g1;have tD:t≠D:=λz=>by rw[z,gD] at s4;cases s4
  have up:∀{v:V} {q:Int×Int},Y.K1 H4 v q->Y.K1 (upd H4 D (.lst (ys++[.ref t]))) v q:=λ{v q} h=>by
   obtain⟨r,e1,e2⟩:=h;exact⟨r,e1,by rw[af (λz=>by rw[z,gD] at e2;cases e2)];exact e2⟩
  refine kk _ _ gD ⟨g0,aa,λb o e _=>by rw[af (ae e g0)];exact k34.n (g2.n e),hi,by rw[Mx,g4];rfl,?_⟩
  rw[Qa,MI];refine Paired.snoc (Paired.Fq g5 λ_ _ h=>up ?_) (up ⟨t,rfl,?_⟩)
  ·obtain⟨r,e1,e2⟩:=h;exact⟨r,e1,k34.n e2⟩
  ·rw[s4];unfold qP;simp[hi]
 rintro D ys H3 ⟨g0,g1,g2,_,g4,g5⟩;rw[cu] at g4 g5;have hpl:((List.range ls.length).map (qP ls)).length=ls.length:=by rw[Ms,Nr]
 refine⟨D,ys,_,rfl,aT.of g1,g5,by rw[hpl];lia,λix hix hup l hl=>?_⟩
 have hpm:=hix.map λi=>((List.range ls.length).map (qP ls)).getD i (0,0);rw[map_getD] at hpm;obtain⟨eo,hR⟩:=yI hpm hup;have hup2:=GL hR;have k4:KB [] H3 (upd H3 l (.lst (ix.map λi=>ys.getD i .aN))):=KB.new hl;have s4:upd H3 l (.lst (ix.map λi=>ys.getD i .aN)) l=_:=aa;have hit:∀(j:Nat) (x:V),(ix.map λi=>ys.getD i .aN)[j]?=some x->∃(hj:j<(aC ls).length) (r:Addr),x=.ref r/\H3 r=some (.tup [.int (ls.getD (aC ls)[j] 0),.int ((aC ls)[j]:Nat)]):=λj x hx=>by
  rw[M7] at hx;obtain⟨i,ei,rfl⟩:=MT.mp hx;have hi:i<((List.range ls.length).map (qP ls)).length:=Ov.mp (hix.mem_iff.mp (N1 ei));obtain⟨r,e1,e2⟩:=ye (d:=V.aN) (e:=(0,0)) g5 i hi;have e3:(ix.map λi=>((List.range ls.length).map (qP ls)).getD i (0,0))[j]?=some (((List.range ls.length).map (qP ls)).getD i (0,0)):=by rw[M7,ei];rfl
  rw[eo,M7] at e3;obtain⟨t,et,e4⟩:=MT.mp e3;obtain⟨hj,rfl⟩:=Mw.mp et;exact⟨hj,r,e1,by rw[e2,<- e4];rfl⟩
 have hxl:(ix.map λi=>ys.getD i .aN).length=(aC ls).length:=by
  have:=Nw List.length eo;rw[Ms,Ms] at this;rw[Ms,this]
 generalize (ix.map λi=>ys.getD i .aN)=xs at *;generalize upd H3 l (.lst xs)=H4 at *;have gF:=k4.n (g2.n s2);have lF:l≠fd:=λz=>by
  have:=g2.n s2;rw[<- z,hl] at this;cases this
 have h04:KB [] H H4:=h02.trans (g2.trans k4);have hit4:∀(j:Nat) (x:V),xs[j]?=some x->∃(hj:j<(aC ls).length) (r:Addr),x=.ref r/\H4 r=some (.tup [.int (ls.getD (aC ls)[j] 0),.int ((aC ls)[j]:Nat)]):=λj x hx=>by
  obtain⟨hj,r,e1,e2⟩:=hit j x hx;exact⟨hj,r,e1,k4.n e2⟩
 clear hit g0 g1 g2 g4 g5 hpl hix hup hl k4 hpm eo hR h02 ha2 s2;have h40:∀t∈aC ls,ls.getD t 0=(aR ls t:Int)/\aR ls t<=40/\t<ls.length:=λt ht=>by
  have h:=j0 ht;have:=hL.2.2 _ (MQ h);unfold aR;rw[M9,Mt h];show ls[t]=((ls[t].toNat:Nat):Int)/\ls[t].toNat<=40/\_;exact⟨by lia,by lia,h⟩
 exists au s4;refine jR (xs:=xs) (λi σ H'=>∃(a':Option (List Nat)) (ws:List (List Nat)) (n h:Int) (o4 o5 o6:Option V),At ls ((aC ls).take i) ((aC ls).drop i) a' n h/\Cw.along Cw.fP (aR ls) ((aC ls).take i) (none,List.replicate ls.length [])=(a',ws)/\ws.length=ls.length/\KB [fd] H4 H'/\KB [] H H'/\H' fd=some (.lst (wV ws))/\σ=[some (.ref a),some (.ref fd),some (.int (n+1)),some (.int h),o4,o5,o6]) ⟨none,_,-1,0,none,none,none,⟨rfl,.inl ⟨rfl,rfl,rfl,rfl⟩⟩,rfl,MO ..,KB.refl _ _,h04,gF,rfl⟩ (λi σ H' _ h=>by obtain⟨_,_,_,_,_,_,_,_,_,_,kF,_⟩:=h;exact aT.of (kF _ _ s4 (by simpa using lF))) ?_ ?_
 ·rintro i x σ H' hx ⟨a',ws,n,h,o4,o5,o6,hA,hal,hwl,kF,h0',gF',rfl⟩;obtain⟨hj,r,rfl,er⟩:=hit4 i x hx;have rF:r≠fd:=λz=>by rw[z,gF] at er;cases er
  have er':=kF _ _ er (by simpa using rF)
  have ed:(aC ls).drop i=(aC ls)[i]::(aC ls).drop (i+1):=ND hj;have eT:(aC ls).take (i+1)=(aC ls).take i++[(aC ls)[i]]:=by rw[Ni,Mt hj];rfl
  rw[ed] at hA;rw[eT];obtain⟨hx1,hx2,hx3⟩:=h40 _ (MQ hj);obtain⟨d,e1,e0,e2,e3,e4,hA2⟩:=hA.next hL ho hup2;have hal2:Cw.along Cw.fP (aR ls) ((aC ls).take i++[(aC ls)[i]]) (none,List.replicate ls.length [])=(some (nF a' (aR ls (aC ls)[i])),ws.set (aC ls)[i] (nF a' (aR ls (aC ls)[i]))):=by
   rw[Cw.gn,hal]
   cases a'<;>rfl
  rw[hx1] at er';generalize (aC ls)[i]=t at *;generalize aR ls t=l at *;generalize hw':nF a' l=w' at *;refine⟨r,_,rfl,aW.of er',rfl,_,_,rfl,_,_,rfl,rfl,?_⟩;refine ax λM hM=>?_;exists e1;refine⟨by lia,by lia,?_⟩
  rw[MY];refine bB (λj σ G=>G=H'/\∃o6:Option V,σ=[some (.ref a),some (.ref fd),some (.int ((n+1)*2^j)),some (.int h),some (.int (l:Nat)),some (.int (t:Nat)),o6]) ⟨rfl,o6,by rw[Int.pow_zero,Int.mul_one]⟩ ?_ ?_
  ·rintro j σ G hj ⟨rfl,o6,rfl⟩;unfold aL;refine nV λM hM=>?_;nofun;refine⟨.inr ⋯,?_⟩
   rw[hM];exact⟨rfl,some _,by rw[show (n+1)*2^j*2=(n+1)*2^(j+1) from by rw[RS,<- Int.mul_assoc]]⟩
  ·rintro σ G ⟨rfl,o6,rfl⟩;rw[e2];show M _ _;subst hM;refine ax λM hM=>?_;nofun;subst hM;refine ax λM hM=>?_;nofun;refine⟨_,l,rfl,hx2,?_⟩;rw[yn l w' [] e3 e4,Nm];have ixw:jE (wV ws).length (t:Int)=some t:=by rw[vo (by lia) (by rw[qc,hwl];lia)];simp
   have sw:(wV ws).set t (.str (wd w'))=wV (ws.set t w'):=by unfold wV;rw[Pc]
   exists gF',ixw,sw;subst hM;dsimp only;refine nV λM hM=>?_;nofun;rw[hM];refine⟨some w',ws.set t w',_,_,some _,some _,o6,hA2,hal2,by rw[List.length_set,hwl],λb o e z=>?_,λb o e _=>?_,aa,rfl⟩
   ·rw[af (by simpa using z)];exact kF _ _ e z
   ·rw[af (ae e fd0)];exact h0'.n e
 ·rintro σ H' ⟨a',ws,n,h,o4,o5,o6,hA,hal,_,_,h0',gF',rfl⟩;rw[hxl,Na] at hal;have ew:wordsOf Cw.gW ls=ws:=by
   unfold wordsOf;rw[Cw.jc (aC ls) [] none _ hup2 (λt ht=>(h40 t ht).2.1) (λv z=>by cases z) (λ_=>rfl) (by rw[Ob,Bh];exact NR ho),hal]
  show N _ _;subst hN;nofun;rw[ew] at q;exact q fd H' fd0 h0' gF'
def hV(cd:List (List (List Nat)))(rs:List Row):List V:=rs.map λr=>.str (wd (b8 cd r))
def rW(K:W.Frag):Sp:=λvs H Q _=>∃(a b c:Addr) (bk:List (List Int)) (rs:List Row) (ws:List Nat),vs=[.ref a,.ref b,.ref c]/\kl H a rs/\yV H b bk/\Bk bk/\H c=some (.lst (iV (nZ ws)))/\ws.length=rs.length/\rs.length<=64/\(∀r∈rs,r.Ok rs.length)/\(∀w∈ws,w<3)/\∀t u H',KB [] H H'->H' t=some (.tup [.str (wd (vQ bk rs ws)),.ref u])->H' u=some (.tup (iV (nZ (dy 0 (eW (d5 bk) rs) (rs.map a7) (jF (eW (d5 bk) rs) (rs.map a7) ws))).dropLast))->Q (.ref t) H'
def yg(T:Txt K mg)(F:HasFn K mg "_law_packed" bZ ["program","book","widths"])(af5:ao P w K mg base aF 2 "_law_code" ["lengths"] (wN K))(ad8:ao P w K mg base aF 2 "_law_plain" ["row","codes"] (wA K))(ae0:ao P w K mg base aF 1 "_law_goals" ["program"] vC)(ad9:ao P w K mg base aF 2 "_law_least" ["sizes","goals","widths"] (wR K))(U4:ao P w K mg base aF 1 "_law_spots" ["sizes","goals","widths"] (qp K))(S0:ao P w K mg base aF 1 "_law_bits" ["number","many"] l7):ao P w K mg base aF 3 "_law_packed" ["program","book","widths"] (rW K):=by
 refine F.dH aG (by ac_rfl) ?_
 left
 obtain⟨a,b,c,bk,rs,ws,rfl,hp,hb,hB,hc,h1,h2,h3,h4,q⟩:=h;have hC:=hB.cd;obtain⟨as,hb1,hb2,hb3⟩:=hb;have ebk:bk.length=3:=by obtain⟨_,_,_,e,_⟩:=hB;rw[e];rfl
 have hl:∀l∈bk,pJ l/\uJ l=true:=by obtain⟨_,_,_,e,_,_,_,h⟩:=hB;exact h
 refine⟨_,(Z.aq (Z.asg (Z.mT (osc:=ab bZ) (ON:=["program","book","widths","codes","plain","goals","sizes","spots","bits","k","span","far"]) (own:=["lengths"]) (N:=["lengths","program","book","widths","codes","plain","goals","sizes","spots","bits","k","span","far"]) (az.of rfl ∅) (Z.any K rfl (Z.v 1)) (λnd _ _ _ _=>(Z.aA (i:=0) nd rfl (by right))) (λ_ _ _ _=>Z.je) (λ_ _ _ _=>(Z.fc af5 (Z.cons (Z.v 0) Z.nil)))) (Z.aA (i:=3) aG.nd rfl (by right)))
   (Z.aq (Z.sec (j:=4) aG.nd (osc:=ab bZ) (ON:=["program","book","widths","codes","plain","goals","sizes","spots","bits","k","span","far"]) (own:=["row"]) (N:=["row","program","book","widths","codes","plain","goals","sizes","spots","bits","k","span","far"]) (az.of rfl ∅) (Z.any K rfl (Z.v 0)) (λnd _ _ _ _=>(Z.aA (i:=0) nd rfl (by right))) (λ_ _ _ _=>Z.je) (λ_ _ _ _=>(Z.fc ad8 (Z.cons (Z.v 0) (Z.cons (Z.v 4) Z.nil)))))
   (Z.aq (Z.se (i:=5) aG.nd (Z.fc ae0 (Z.cons (Z.v 0) Z.nil)))
   (Z.aq (Z.sec (j:=6) aG.nd (osc:=ab bZ) (ON:=["program","book","widths","codes","plain","goals","sizes","spots","bits","k","span","far"]) (own:=["text"]) (N:=["text","program","book","widths","codes","plain","goals","sizes","spots","bits","k","span","far"]) (az.of rfl ∅) (Z.any K rfl (Z.v 4)) (λnd _ _ _ _=>(Z.aA (i:=0) nd rfl (by right))) (λ_ _ _ _=>Z.je) (λ_ _ _ _=>(Z.cb (Z.bL K rfl) rfl T.bA ∅ (Z.cons (Z.v 0) Z.nil))))
   (Z.aq (Z.se (i:=2) aG.nd (Z.fc ad9 (Z.cons (Z.v 6) (Z.cons (Z.v 5) (Z.cons (Z.v 2) Z.nil)))))
   (Z.aq (Z.se (i:=7) aG.nd (Z.fc U4 (Z.cons (Z.v 6) (Z.cons (Z.v 5) (Z.cons (Z.v 2) Z.nil)))))
   (Z.aq (Z.se (i:=8) aG.nd Z.str)
   (Z.aq (Z.fQ Nd rfl (Z.my rfl T.cK (Z.cons (Z.cb (Z.bL K rfl) rfl T.bA ∅ (Z.cons (Z.v 0) Z.nil)) Z.nil)) (Z.aA (i:=9) aG.nd rfl (by right)) (Z.aq (Z.se (i:=8) aG.nd (Z.op (Z.aI K rfl) (Z.v 8) (Z.ix (Z.aD K rfl hu) (Z.v 4) (Z.v 9))))
   (Z.ay (Z.dz (Z.aK f_ (Z.ix (Z.aD K rfl hu) (Z.v 5) (Z.v 9)) Z.aN) (Z.aq (Z.se (i:=10) aG.nd (Z.ix (Z.aD K rfl hu) (Z.lst (Z.consts rfl)) (Z.ix (Z.aD K rfl hu) (Z.v 2) (Z.v 9))))
   (Z.aq (Z.se (i:=11) aG.nd (Z.op eF (Z.op d7 (Z.ix (Z.aD K rfl hu) (Z.v 7) (Z.ix (Z.aD K rfl hu) (Z.v 5) (Z.v 9))) (Z.ix (Z.aD K rfl hu) (Z.v 7) (Z.op (Z.aI K rfl) (Z.v 9) Z.int))) (Z.v 10)))
   (Z.ay (Z.se (i:=8) aG.nd (Z.op (Z.aI K rfl) (Z.op (Z.aI K rfl) (Z.v 8) (Z.ix (Z.aD K rfl hu) (Z.lst (Z.consts rfl)) (Z.ix (Z.aD K rfl hu) (Z.v 2) (Z.v 9)))) (Z.fc S0 (Z.cons (Z.v 11) (Z.cons (Z.ix (Z.aD K rfl hu) (Z.lst (Z.consts rfl)) (Z.ix (Z.aD K rfl hu) (Z.v 2) (Z.v 9))) Z.nil)))))))) Z.bp))))
   (Z.ay (Z.ret (Z.tup (Z.cons (Z.v 8) (Z.cons (Z.ct (Z.c7 K rfl) rfl T.cy ∅ (Z.cons (Z.slice (Z.pL K rfl) (Z.v 7) Z.nI (Z.nG (Z.un cB Z.int))) Z.nil)) Z.nil))))))))))))),?_⟩
 symm;exists a8 hb1;refine aU (xs:=as.map V.ref) (Mz (show _<=3 by rw[Ms,hb2,ebk];exact M8 3) ⋯) (λD i ys H'=>H D=none/\H' D=some (.lst ys)/\KB [] H H'/\∃cs:List Addr,ys=cs.map V.ref/\cs.length=i/\∀(j:Nat) (c:Addr),cs[j]?=some c->c≠D/\H' c=some (.lst (wV (wordsOf Cw.gW (bk.getD j []))))) (λD hD=>⟨hD,aa,KB.new hD,[],rfl,rfl,λj c e=>nomatch e⟩) (λD i ys H' h=>⟨h.2.1,by obtain⟨_,_,_,cs,rfl,e,_⟩:=h;rw[Ms,e]⟩) (λD i ys H' h=>aW.of (h.2.2.1 _ _ hb1 (by simp))) ?_ ?_
 ·rintro D i ys H' x R hx ⟨g0,g1,g2,cs,rfl,g4,g5⟩ kk;obtain⟨u,eu,rfl⟩:∃u,as[i]?=some u/\x=.ref u:=by
   rw[M7] at hx;obtain⟨u,e,rfl⟩:=MT.mp hx;exact⟨u,e,rfl⟩
  have hi:i<bk.length:=by have:=(Mw.mp eu).1;lia
  have hm:bk.getD i []∈bk:=by rw[M9,Mt hi];exact MQ hi
  nofun;refine⟨u,_,rfl,g2.n (hb3 i u eu),(hl _ hm).1,(hl _ hm).2,λc H5 c0 k5 e5=>?_⟩;have gD:=k5.n g1;have cD:c≠D:=λz=>by rw[z,g1] at c0;cases c0
  refine kk _ _ gD ⟨g0,aa,λu o e _=>by rw[af (ae e g0)];exact k5.n (g2.n e),cs++[c],by rw[MI];rfl,by rw[Mx,g4];rfl,λj d e=>?_⟩
  rcases Nt j cs.length with hj|hj
  ·rw[MU hj] at e;obtain⟨q2,q3⟩:=g5 j d e;exact⟨q2,by rw[af q2];exact k5.n q3⟩
  ·rw[MR hj] at e;obtain⟨hj2,rfl⟩:=Mw.mp e;have:j=i:=by simp at hj2;lia
   subst this;simp only[g4,NN,P8];exact⟨cD,by rw[af cD];exact e5⟩
 rintro ca ys H1 ⟨g0,g1,g2,cs,rfl,g4,g5⟩;rw[Ms,hb2,ebk] at g4;obtain⟨c0,c1,c2,rfl⟩:=yN g4;have cdl:LY H1 ca (d5 bk):=by
  obtain⟨l0,l1,l2,rfl⟩:=yN ebk;exact⟨c0,c1,c2,g1,(g5 0 c0 rfl).2,(g5 1 c1 rfl).2,(g5 2 c2 rfl).2⟩
 show N _ _;subst hN;have hp1:=hp.kb g2;unfold vQ at q;generalize d5 bk=cd at *;symm;obtain⟨ps,hps,hpa⟩:=hp1;have hpl:=hpa.1;exists a8 hps;refine aU (xs:=ps.map V.ref) (Mz (show _<=64 by rw[Ms];lia) ⋯) (λD i ys H'=>H1 D=none/\H' D=some (.lst ys)/\KB [] H1 H'/\ys=hV cd (rs.take i)/\i<=rs.length) (λD hD=>⟨hD,aa,KB.new hD,rfl,MG _⟩) (λD i ys H' h=>⟨h.2.1,by rw[h.2.2.2.1,hV,Ms,MB];have:=h.2.2.2.2;lia⟩) (λD i ys H' h=>aW.of (h.2.2.1 _ _ hps (by simp))) ?_ ?_
 ·rintro D i ys H' x R hx ⟨g0,g1,gk,rfl,hi⟩ kk;obtain⟨u,eu,rfl⟩:∃u,ps[i]?=some u/\x=.ref u:=by
   rw[M7] at hx;obtain⟨u,e,rfl⟩:=MT.mp hx;exact⟨u,e,rfl⟩
  have hlt:i<rs.length:=by have:=(Mw.mp eu).1;lia
  have er:=Mt hlt;have et:rs.take (i+1)=rs.take i++[rs[i]]:=by rw[Ni,er];rfl
  nofun;refine⟨u,ca,rs[i],rs.length,cd,rfl,gk.n (hpa.2 i u _ eu er),?_,h3 _ (MQ hlt),hC,λH5 k5=>?_⟩
  ·obtain⟨x0,x1,x2,y1,y2,y3,y4⟩:=cdl;exact⟨x0,x1,x2,gk.n y1,gk.n y2,gk.n y3,gk.n y4⟩
  ·exact kk _ _ (k5.n g1) ⟨g0,aa,λu o e _=>by rw[af (ae e g0)];exact k5.n (gk.n e),by rw[et];unfold hV;rw[MI];rfl,hlt⟩
 rintro pl ys H2 ⟨_,gp,k2,rfl,_⟩;rw[Ms,hpl,Na] at gp;show N _ _;subst hN;have k02:=g2.trans k2;symm;nofun;refine⟨a,rs,rfl,hp.kb k02,h2,λga H3 hga k3 gg=>?_⟩;subst hN;have k03:=k02.trans k3;have gp3:=k3.n gp;symm;exists au gp3;refine cP (xs:=hV cd rs) (Mz (show _<=64 by rw[hV,Ms];exact h2) ⋯) (λD i ys H'=>H3 D=none/\H' D=some (.lst ys)/\KB [] H3 H'/\ys=iV (nZ (eW cd (rs.take i)))/\i<=rs.length) (λD hD=>⟨hD,aa,KB.new hD,rfl,MG _⟩) (λD i ys H' h=>⟨h.2.1,by rw[h.2.2.2.1,eC,eW,Ms,MB];have:=h.2.2.2.2;lia⟩) (λD i ys H' h=>aT.of (h.2.2.1 _ _ gp3 (by simp))) ?_ ?_
 ·rintro D i ys H' x R hx ⟨g0,g1,gk,rfl,hi⟩ kk;have hlt:i<rs.length:=by have:=(Mw.mp hx).1;rw[hV,Ms] at this;exact this
  have er:=Mt hlt;have et:rs.take (i+1)=rs.take i++[rs[i]]:=by rw[Ni,er];rfl
  have ex:x=.str (wd (b8 cd rs[i])):=by
   unfold hV at hx;rw[M7,er] at hx;exact (Option.some.inj hx).symm
  subst ex;have h136:=dh hC (h3 _ (MQ hlt));exists bu;exact⟨Mz h136 ⋯,kk _ _ g1 ⟨g0,aa,λu o e _=>by rw[af (ae e g0)];exact gk.n e,by rw[et];unfold eW nZ iV;rw[MI,MI,MI];rfl,hlt⟩⟩
 rintro sa ys H4 ⟨_,gsz,k4,rfl,_⟩;rw[show (hV cd rs).length=rs.length from Ms ..,Na] at gsz;show N _ _;subst hN;have k04:=k03.trans k4;have gg4:=k4.n gg;have gp4:=k4.n gp3;have sl1:(eW cd rs).length=rs.length:=Ms ..;have gl1:(rs.map a7).length=rs.length:=Ms ..;have sb:∀s∈eW cd rs,s<=150:=λs hs=>by
  obtain⟨r,hr',rfl⟩:=Nc.mp hs;have:=dh hC (h3 r hr');lia
 have gb:∀t,some t∈rs.map a7->t<=(eW cd rs).length:=λt ht=>by
  obtain⟨r,hr',e⟩:=Nc.mp ht;rw[sl1];exact f6 (h3 r hr') e
 symm;nofun;refine⟨sa,ga,c,eW cd rs,rs.map a7,ws,rfl,gsz,gg4,k04.n hc,by rw[gl1,sl1],by rw[h1,sl1],by rw[sl1];exact h2,gb,h4,λwa H5 _ k5 g5=>?_⟩
 subst hN;have wl:=w8 (eW cd rs) (rs.map a7) ws;have wt:=tO (ss:=eW cd rs) (gs:=rs.map a7) h4;rw[h1] at wl;generalize jF (eW cd rs) (rs.map a7) ws=w' at *;symm;nofun;refine⟨sa,ga,wa,eW cd rs,rs.map a7,w',rfl,k5.n gsz,k5.n gg4,g5,by rw[gl1,sl1],by rw[wl,sl1],by rw[sl1];exact h2,wt,λpa H6 _ k6 g6=>?_⟩
 subst hN;have spl:=ff (eW cd rs) (rs.map a7) w' 0 (by rw[gl1,sl1]) (by rw[wl,sl1])
 rw[sl1] at spl;generalize dy 0 (eW cd rs) (rs.map a7) w'=sp at *;have k56:=k5.trans k6;have k06:=k04.trans k56;have gp6:=k56.n gp4;have gg6:=k56.n gg4;have gw6:=k6.n g5;symm;nofun;subst hN;symm;obtain⟨as2,ha2,hpa2⟩:=hp.kb k06;have hpl2:=hpa2.1;exists a8 ha2,Ms,hpl2;refine⟨by lia,by lia,?_⟩
 rw[MY];refine bB (λi σ H'=>∃(x:List Nat) (o9 o10 o11:Option V),KB [] H6 H'/\x++tM cd sp i (rs.drop i) (w'.drop i)=tM cd sp 0 rs w'/\x.length<=200*i/\σ=[some (.ref a),some (.ref b),some (.ref wa),some (.ref ca),some (.ref pl),some (.ref ga),some (.ref sa),some (.ref pa),some (.str (wd x)),o9,o10,o11]) ⟨[],none,none,none,KB.refl _ _,rfl,MG _,by rw[<- lL]⟩ ?_ ?_
 ·rintro i σ H' hlt ⟨x,o9,o10,o11,hk,ex,hx,rfl⟩;rw[show (0:Int)+((i:Nat):Int)=(i:Int) from Q_ _];have er:=Mt hlt;have ew:=Mt (show i<w'.length by lia)
  have lw:=wt _ (MQ (show i<w'.length by lia))
  have okr:=h3 _ (MQ hlt);rw[ND hlt,ND (show i<w'.length by lia),tM] at ex
  generalize rs[i]'_=r at *;generalize w'[i]'_=w0 at *;have ap:bQ (hV cd rs) (i:Int)=some (.str (wd (b8 cd r))):=aV (by unfold hV;rw[M7,er];rfl)
  have ag:bQ ((rs.map a7).map aJ) (i:Int)=some (aJ (a7 r)):=aV (by rw[M7,M7,er];rfl)
  have aw:bQ (iV (nZ w')) (i:Int)=some (.int (w0:Nat)):=aV (by unfold iV nZ;rw[NI,M7,ew];rfl)
  have h136:=dh hC okr;have gpH:=au (hk.n gp6);have ggH:=au (hk.n gg6);unfold aL;refine ax λM hM=>?_;exists gpH,ap;rw[dM,bu,bu];refine⟨Mz (show _<=20000 by lia) ⋯,?_⟩
  subst hM;dsimp only;refine nV λM hM=>?_;have fin:∀(G:Hp) (o10 o11:Option V),KB [] H6 G->(tV sp i w0 (a7 r)).length<=18->M [some (.ref a),some (.ref b),some (.ref wa),some (.ref ca),some (.ref pl),some (.ref ga),some (.ref sa),some (.ref pa),some (.str (wd (x++b8 cd r++tV sp i w0 (a7 r)))),some (.int (i:Int)),o10,o11] G:=λG o10 o11 g1 hj=>by
   rw[hM];exact⟨_,_,o10,o11,g1,by rw[<- ex];simp,by rw[Mx,Mx];lia,rfl⟩
  refine vI λA B hA hB=>?_;exists ggH,ag
  cases eg:a7 r with
  |none =>
   rw[eg] at fin;rw[M4 (show ¬ ¬ aJ none=V.aN from λz=>z rfl),hB];have:=fin H' o10 o11 hk (MG _);rw[show tV sp i w0 none=[] from rfl,Nm] at this;exact this
  |some g =>
   rw[eg] at fin ag;rw[MD (show ¬ aJ (some g)=V.aN from λz=>nomatch z),hA];have hg:g<=rs.length:=f6 okr eg;have as1:=wz (l:=sp) (i:=g) (by lia)
   have as2:bQ (iV (nZ sp)) ((i:Int)+1)=some (.int ((sp.getD (i+1) 0:Nat):Int)):=wz (l:=sp) (i:=i+1) (by lia)
   have p1:bQ [V.int 16,.int 256,.int 65536] (w0:Int)=some (.int (2^dG w0)):=by rcases qQ lw with rfl|rfl|rfl<;>rfl
   have p2:=BE lw;have p3:bQ [V.int 4,.int 8,.int 16] (w0:Int)=some (.int ((dG w0:Nat):Int)):=by rcases qQ lw with rfl|rfl|rfl<;>rfl
   have p4:0<dG w0/\dG w0<=16/\(eL w0).length<=2:=by rcases qQ lw with rfl|rfl|rfl<;>decide
   refine ax λM3 hM3=>?_;nofun;refine⟨by decide,λl1 hl1=>?_⟩
   obtain⟨k7,s7⟩:=bS hl1 (.lst [.int 16,.int 256,.int 65536]);exists au (k7.n (hk.n gw6)),aw,au s7,p1;have hk7:=hk.trans k7;generalize upd H' l1 _=H7 at *;rw[hM3];refine ax λM3 hM3=>?_;have ag':bQ ((rs.map a7).map aJ) (i:Int)=some (.int (g:Nat)):=ag;exists au (hk7.n gg6),ag',au (hk7.n g6),as1,as2;refine⟨Int.pow_pos ⋯,?_⟩
   rw[hM3];nofun;refine⟨by decide,λl2 hl2=>?_⟩
   obtain⟨k8,s8⟩:=bS hl2 (.lst [.str (Str.ofString "0"),.str (Str.ofString "10"),.str (Str.ofString "11")]);exists au (k8.n (hk7.n gw6)),aw,au s8,p2;have hk8:=hk7.trans k8;generalize upd H7 l2 _=H8 at *;have hxl:(x++b8 cd r).length<=13000:=by rw[Mx];lia
   have ll:(bT (cf sp g i) (dG w0) []).length=dG w0:=by rw[dW];rfl
   rw[bu,bu];refine⟨Mz (show _<=20000 by lia) ⋯,by decide,λl3 hl3=>?_⟩
   have k9:=KB.new (ex:=[]) (o:=.lst [.int 4,.int 8,.int 16]) hl3;have s9:upd H8 l3 (.lst [.int 4,.int 8,.int 16]) l3=_:=aa;exists au (k9.n (hk8.n gw6)),aw,au s9,p3;refine⟨_,dG w0,rfl,by lia,?_⟩
   rw[ou,dM];nofun;rw[dM,bu,bu];have hfin:=fin (upd H8 l3 (.lst [.int 4,.int 8,.int 16])) (some (.int (2^dG w0))) (some (.int ((((sp.getD g 0:Nat):Int)-((sp.getD (i+1) 0:Nat):Int)) % 2^dG w0))) (hk8.trans k9) (by show (iC w0 (cf sp g i)).length<=18;unfold iC;rw[Mx,ll];lia)
   rw[show x++b8 cd r++tV sp i w0 (some g)=x++b8 cd r++eL w0++bT (((sp.getD g 0:Nat):Int)-((sp.getD (i+1) 0:Nat):Int)) (dG w0) [] by show x++b8 cd r++(eL w0++bT (cf sp g i) (dG w0) [])=_;rw[MX (x++b8 cd r)];rfl] at hfin
   exact⟨Mz (show _<=20000 by rw[Mx];unfold cf at ll;lia) ⋯,hfin⟩
 ·rintro σ H' ⟨x,o9,o10,o11,hk,ex,hx,rfl⟩;show N _ _;subst hN;rw[Oh] at ex;have ex':x=tM cd sp 0 rs w':=by rw[<- ex];unfold tM;exact (Nm x).symm
  exists au (hk.n g6);rw[p9];intro q1 hq1 l2 hl2;refine⟨by decide,λt ht=>?_⟩
  rw[<- ex'] at q;exact q t _ _ (k06.trans (hk.trans ((KB.new hq1).trans ((KB.new hl2).trans (KB.new ht))))) aa (by rw[af (ae aa ht),aa];unfold iV;rw[List.map_dropLast])
def yz(ws zs:List Nat):Prop:=ws.length=zs.length/\∀i,ws.getD i 0<=zs.getD i 0
def yz.Lz{zs:List Nat}(h:yz ws zs)(g:yz zs ws):ws=zs:=by
 refine Ox h.1 λi h1 h2=>?_;have a:=h.2 i;have b:=g.2 i;rw[M9,M9,Mt h1,Mt h2] at a b;exact Nat.le_antisymm a b
def Cz{v w:Nat}(h:v<=w)(hw:w<3):Dd v<=Dd w:=by
 rcases qQ hw with rfl|rfl|rfl
 ·obtain rfl:v=0:=by lia
  exact M8 _
 ·rcases (show v=0\/v=1 by lia) with rfl|rfl<;>decide
 ·rcases (show v=0\/v=1\/v=2 by lia) with rfl|rfl|rfl<;>decide
def rH(w:Nat):0<eY w:=by
 unfold eY;split
 ·decide
 ·split<;>decide
section
variable {ss:List Nat} {gs:List (Option Nat)} {ws zs:List Nat}
def Kt(hg:gs.length=ss.length)(hl:ws.length=ss.length)(h:yz ws zs)(hz:∀w∈zs,w<3)(hi:i<ss.length):(dy 0 ss gs ws).getD (i+1) 0+(dy 0 ss gs zs).getD i 0<=(dy 0 ss gs zs).getD (i+1) 0+(dy 0 ss gs ws).getD i 0:=by
 have h1:=h.1;have es:=Mt hi;have eg:=Mt (show i<gs.length by lia)
 have ew:=Mt (show i<ws.length by lia)
 have ez:=Mt (show i<zs.length by lia)
 have le:=h.2 i;rw[M9,M9,ew,ez] at le;have lt:=hz _ (MQ (show i<zs.length by lia))
 rw[jW ss gs ws 0 i _ _ _ es eg ew,jW ss gs zs 0 i _ _ _ es eg ez];have:addW gs[i] ws[i]<=addW gs[i] zs[i]:=by
  cases gs[i] with
  |none=>exact M8 _
  |some t=>exact Cz le lt
 lia
theorem uE(hg:gs.length=ss.length)(hl:ws.length=ss.length)(h:yz ws zs)(hz:∀w∈zs,w<3)(i:Nat):∀d,i+d<=ss.length->(dy 0 ss gs ws).getD (i+d) 0+(dy 0 ss gs zs).getD i 0<=(dy 0 ss gs zs).getD (i+d) 0+(dy 0 ss gs ws).getD i 0
 |0,_=>by rw[QX];lia
 |d+1,hd=>by
  have a:=uE hg hl h hz i d (by lia)
  have b:=Kt hg hl h hz (i:=i+d) (by lia)
  rw[<- RI];lia
theorem pI(hg:gs.length=ss.length)(hl:ws.length=ss.length)(i:Nat):∀d,i+d<=ss.length->(dy 0 ss gs ws).getD i 0<=(dy 0 ss gs ws).getD (i+d) 0
 |0,_=>M8 _
 |d+1,hd=>by
  have a:=pI hg hl i d (by lia)
  have e:=jW ss gs ws 0 (i+d) _ _ _ (Mt (show i+d<ss.length by lia)) (Mt (show i+d<gs.length by lia)) (Mt (show i+d<ws.length by lia))
  rw[<- RI];lia
def DQ(hg:gs.length=ss.length)(hl:ws.length=ss.length)(h:yz ws zs)(hz:∀w∈zs,w<3){w:Nat}(ht:t<=ss.length)(hk:k<ss.length)(e:kX w (cf (dy 0 ss gs zs) t k)=true):kX w (cf (dy 0 ss gs ws) t k)=true:=by
 have h1:=h.1;unfold kX cf at e ⊢;rw[NB,Qs,Qs] at e ⊢;rcases QY t (k+1) with c|c
 ·have a:=uE hg hl h hz t (k+1-t) (by lia)
  have b:=pI (ws:=ws) hg hl t (k+1-t) (by lia)
  rw[show t+(k+1-t)=k+1 by lia] at a b
  have hp:=rH w;lia
 ·have a:=uE hg hl h hz (k+1) (t-(k+1)) (by lia)
  have b:=pI (ws:=ws) hg hl (k+1) (t-(k+1)) (by lia)
  rw[show k+1+(t-(k+1))=t by lia] at a b
  have hp:=rH w;lia
def ze(hg:gs.length=ss.length)(hl:ws.length=ss.length)(h:yz ws zs)(hz:∀w∈zs,w<3)(hgt:∀t,some t∈gs->t<=ss.length)(hf:qw ss gs zs){w:Nat}(eg:gs[k]?=some (some t))(ew:ws[k]?=some w)(e:kX w (cf (dy 0 ss gs ws) t k)=false):w<zs.getD k 0:=by
 have h1:=h.1;have hk:k<ws.length:=(Mw.mp ew).1;have ez:=Mt (show k<zs.length by lia)
 have le:=h.2 k;rw[M9,M9,ew,ez] at le;have le':w<=zs[k]:=le;rw[M9,ez];show w<zs[k];rcases Nt w zs[k] with c|c
 ·exact c
 ·have fz:=DQ hg hl h hz (hgt t (N1 eg)) (by lia) (hf k t _ eg ez)
  rw[show zs[k]=w by lia,e] at fz
  cases fz
theorem zD(hg:gs.length=ss.length)(hz:∀w∈zs,w<3)(hgt:∀t,some t∈gs->t<=ss.length)(hf:qw ss gs zs):∀(m:Nat) (ws:List Nat),ws.length=ss.length->yz ws zs->yz (uV ss gs m ws) zs
 |0,ws,_,h=>h
 |m+1,ws,hl,h=>by
  rw[uV]
  cases e:dI ss gs ws with
  |none=>exact h
  |some k =>
   dsimp only;refine zD hg hz hgt hf m _ (by rw[List.length_set];exact hl) ⟨by rw[List.length_set];exact h.1,λi=>?_⟩
   have h1:=List.find?_some e;unfold kO at h1;by_cases c:i=k
   ·subst c
    cases eg:gs[i]? with
    |none=>rw[eg] at h1;cases h1
    |some g =>
     cases g with
     |none=>rw[eg] at h1;cases h1
     |some t =>
      cases ew:ws[i]? with
      |none=>rw[eg,ew] at h1;cases h1
      |some w =>
       rw[eg,ew] at h1;have h2:kX w (cf (dy 0 ss gs ws) t i)=false:=by simpa using h1
       have:=ze hg hl h hz hgt hf eg ew h2;have hi:i<ws.length:=(Mw.mp ew).1;rw[M9,NO hi,M9,ew];exact this
   ·rw[M9,NK (λz=>c z.symm),<- M9];exact h.2 i
theorem sC(hg:gs.length=ss.length)(hz:∀w∈zs,w<3)(hgt:∀t,some t∈gs->t<=ss.length)(hf:qw ss gs zs)(hl:ws.length=ss.length)(h:yz ws zs):∀m,yz (bz ss gs ws m) zs
 |0=>h
 |m+1=>by
  have ih:=sC hg hz hgt hf hl h m;have ll:=fR ss gs ws m;rw[bz];generalize bz ss gs ws m=vs at *;unfold fO;refine⟨by rw[cF];exact ih.1,λi=>?_⟩
  rcases Nt i vs.length with hi|hi
  ·have eg:=Mt (show i<gs.length by lia)
   have ew:=Mt hi;have le:=ih.2 i;rw[M9,ew] at le;rw[M9,step_at _ 0 gs vs i _ _ eg ew,OC];show hU (dy 0 ss gs vs) i gs[i] vs[i]<=_
   cases c:gs[i] with
   |none=>exact le
   |some t =>
    rw[c] at eg;show (if kX vs[i] (cf (dy 0 ss gs vs) t i)=true then vs[i] else min (vs[i]+1) 2)<=_
    cases ok:kX vs[i] (cf (dy 0 ss gs vs) t i) with
    |true=>rw[MD rfl];exact le
    |false =>
     have:=ze hg (by lia) ih hz hgt hf eg ew ok
     rw[M4 ⋯]
     lia
  ·rw[M9,RB (by rw[cF];exact hi)]
   exact MG _
def Hl(hs:∀s∈ss,s<=150)(hn:ss.length<=64)(hg:gs.length=ss.length)(hgt:∀t,some t∈gs->t<=ss.length):yU ss gs=jF ss gs (List.replicate ss.length 0):=by
 have r0:∀zs:List Nat,zs.length=ss.length->yz (List.replicate ss.length 0) zs:=λzs h=>⟨by rw[MO,h],λi=>by
  rcases Nt i ss.length with c|c
  ·rw[M9,List.getElem?_replicate_of_lt c];exact MG _
  ·rw[M9,RB (by rw[MO];exact c)];exact MG _⟩
 have z3:∀w∈List.replicate ss.length 0,w<3:=λw hw=>by rw[(NV.mp hw).2];decide
 have zl:(List.replicate ss.length 0).length=ss.length:=MO ..;obtain⟨a1,a2,a3⟩:=zp hs hn hg;have b1:=w8 ss gs (List.replicate ss.length 0);have b2:=tO (ss:=ss) (gs:=gs) z3;have b3:=EN (gs:=gs) hs hn zl z3;rw[zl] at b1;exact yz.Lz (zD hg b2 hgt b3 _ _ zl (r0 _ b1)) (sC hg a2 hgt a3 zl (r0 _ a1) _)
end
def yP{bk:List (List Int)}{rs:List Row}(hB:Bk bk)(h2:rs.length<=64)(h3:∀r∈rs,r.Ok rs.length):vQ bk rs (List.replicate rs.length 0)=dO bk rs/\dy 0 (eW (d5 bk) rs) (rs.map a7) (jF (eW (d5 bk) rs) (rs.map a7) (List.replicate rs.length 0))=hW bk rs:=by
 have sl:(eW (d5 bk) rs).length=rs.length:=Ms ..;have e:nL bk rs=jF (eW (d5 bk) rs) (rs.map a7) (List.replicate rs.length 0):=by
  unfold nL;rw[Hl (λs hs=>by
   obtain⟨r,hr,rfl⟩:=Nc.mp hs;have:=dh hB.cd (h3 r hr)
   lia) (by rw[sl];exact h2) (by rw[sl,Ms]) λt ht=>by
    obtain⟨r,hr,e⟩:=Nc.mp ht;rw[sl];exact f6 (h3 r hr) e,sl]
 unfold vQ dO hW;rw[e];exact⟨rfl,rfl⟩
def sT(CD CK:Addr):Sp:=λvs H Q _=>∃(p dq dd k dxk b rp:Addr) (n:Nat) (rs:List Row),vs=[.ref p,.ref dd,.ref rp]/\bM H p dq n/\n<2^29/\kg CD CK H dd k dxk b i9 rs/\tG H rp rs/\rs.length<=60/\(∀r∈rs,r.Ok rs.length)/\rp∉[p,dq,dd,k,dxk]/\∀H',bM H' p dq (n+3)->KB [p,dq] H H'->Q (.bl true) H'
def xS(T:Txt K mg)(F:HasFn K mg "_law_right" de ["deck","desk","rows"])(o0:ao P w K mg base aF 2 "_law_draw" ["deck","most"] gO)(V6:ao P w K mg base aF 1 "_law_line" ["row"] m8)(W4:ao P w K mg base aF 1 "_law_spaced" ["numbers"] j1)(ab6:ao P w K mg base aF 3 "_law_packed" ["program","book","widths"] (rW K))(u8:ao P w K mg base aF 11 "_law_asked" ["desk","line","due"] (qL CD CK)):ao P w K mg base aF 12 "_law_right" ["deck","desk","rows"] (sT CD CK):=by
 refine F.dH bK (by ac_rfl) ?_
 left
 obtain⟨p,dq,dd,k,dxk,b,rp,n,rs,rfl,D,hn,dsk,hR,h60,aH,hx,q⟩:=h;refine⟨_,(Z.aq (Z.se (i:=3) bK.nd (Z.tup (Z.cons (Z.op (Y.lh K rfl) (Z.tup (Z.cons Z.int Z.nil)) Z.int) (Z.cons (Z.op (Y.lh K rfl) (Z.tup (Z.cons Z.int Z.nil)) Z.int) (Z.cons (Z.op (Y.lh K rfl) (Z.tup (Z.cons Z.int Z.nil)) Z.int) Z.nil)))))
   (Z.aq (Z.fQ Nd rfl (Z.my rfl T.cK (Z.cons Z.int Z.nil)) (Z.aA (i:=4) bK.nd rfl (by right)) (Z.aq (Z.se (i:=5) bK.nd (Z.fc o0 (Z.cons (Z.v 0) (Z.cons Z.int Z.nil))))
   (Z.aq (Z.dz (Z.tw (Z.rj (Z.aK aY (Z.v 5) Z.int) (Z.ko (Z.j7 (Z.j6 K rfl (Z.fc u8 (Z.cons (Z.v 1) (Z.cons Z.str (Z.cons (Z.mT (osc:=ab de) (ON:=["deck","desk","rows","book","turn","way","due","bits","spots"]) (own:=["row"]) (N:=["row","deck","desk","rows","book","turn","way","due","bits","spots"]) (az.of rfl ∅) (Z.any K rfl (Z.v 2)) (λnd _ _ _ _=>(Z.aA (i:=0) nd rfl (by right))) (λ_ _ _ _=>Z.je) (λ_ _ _ _=>(Z.fc V6 (Z.cons (Z.v 0) Z.nil)))) Z.nil))))))))) (Z.ay (Z.ret Z.bl)) Z.bp)
   (Z.aq (Z.dz (Z.aK aY (Z.v 5) Z.int) (Z.aq (Z.sec (j:=6) bK.nd (osc:=ab de) (ON:=["deck","desk","rows","book","turn","way","due","bits","spots"]) (own:=["lengths"]) (N:=["lengths","deck","desk","rows","book","turn","way","due","bits","spots"]) (az.of rfl ∅) (Z.any K rfl (Z.v 3)) (λnd _ _ _ _=>(Z.aA (i:=0) nd rfl (by right))) (λ_ _ _ _=>Z.je) (λ_ _ _ _=>(Z.fc W4 (Z.cons (Z.v 0) Z.nil))))
   (Z.ay (Z.dz (Z.j7 (Z.j6 K rfl (Z.fc u8 (Z.cons (Z.v 1) (Z.cons Z.str (Z.cons (Z.v 6) Z.nil)))))) (Z.ay (Z.ret Z.bl)) Z.bp))) Z.bp)
   (Z.aq (Z.dz (Z.tw (Z.rj (Z.aK aY (Z.v 5) Z.int) (Z.ko (Z.j7 (Z.j6 K rfl (Z.fc u8 (Z.cons (Z.v 1) (Z.cons Z.str (Z.cons (Z.ix (Z.aD K rfl hu) (Z.lst (Z.cons (Z.lst (Z.cons Z.str Z.nil)) (Z.cons (Z.lst (Z.cons Z.str Z.nil)) Z.nil))) (Z.ct i6 rfl T.qV ∅ (Z.cons (Z.cmp (Y.mI K rfl (Oq hu)) (Z.v 2) (Z.lst Z.nil)) Z.nil))) Z.nil))))))))) (Z.ay (Z.ret Z.bl)) Z.bp)
   (Z.ay (Z.dz (Z.aK rT (Z.v 5) Z.int) (Z.aq (Z.asg (Z.fc ab6 (Z.cons (Z.ct (Z.c7 K rfl) rfl T.cy ∅ (Z.cons (Z.v 2) Z.nil)) (Z.cons (Z.v 3) (Z.cons (Z.op cN (Z.lst (Z.cons Z.int Z.nil)) (Z.cb (Z.bL K rfl) rfl T.bA ∅ (Z.cons (Z.v 2) Z.nil))) Z.nil)))) (Z.kP (n:=2) K rfl rfl (Z.bq (Z.aA (i:=7) bK.nd rfl (by right)) (Z.bq (Z.aA (i:=8) bK.nd rfl (by right)) Z.gR))))
   (Z.ay (Z.dz (Z.j7 (Z.j6 K rfl (Z.fc u8 (Z.cons (Z.v 1) (Z.cons (Z.ix (Z.aD K rfl hu) (Z.lst (Z.consts rfl)) (Z.op d7 (Z.v 5) Z.int)) (Z.cons (Z.ix (Z.aD K rfl hu) (Z.lst (Z.cons (Z.lst (Z.cons (Z.v 7) Z.nil)) (Z.cons (Z.lst (Z.cons (Z.fc W4 (Z.cons (Z.v 8) Z.nil)) Z.nil)) Z.nil))) (Z.op d7 (Z.v 5) Z.int)) Z.nil)))))) (Z.ay (Z.ret Z.bl)) Z.bp))) Z.bp)))))))
   (Z.ay (Z.ret Z.bl)))),?_⟩
 symm;nofun;refine⟨by decide,λc1 hc1=>.inr ?_⟩
 obtain⟨k1,s1⟩:=bS hc1 (.tup [V.int 4]);generalize upd H c1 _=H1 at *;refine⟨c1,9,[V.int 4],rfl,rfl,aW.of s1,by simp,by simp,by lia,by lia,λc2 hc2=>?_⟩
 rw[show (List.replicate ((9:Int)).toNat [V.int 4]).flatten=iV (List.replicate 9 4) from rfl];obtain⟨k2,s2⟩:=bS hc2 (.tup (iV (List.replicate 9 4)));generalize upd H1 c2 _=H2 at *;refine⟨by decide,λc3 hc3=>.inr ?_⟩
 obtain⟨k3,s3⟩:=bS hc3 (.tup [V.int 5]);generalize upd H2 c3 _=H3 at *;refine⟨c3,17,[V.int 5],rfl,rfl,aW.of s3,by simp,by simp,by lia,by lia,λc4 hc4=>?_⟩
 rw[show (List.replicate ((17:Int)).toNat [V.int 5]).flatten=iV (List.replicate 17 5) from rfl];obtain⟨k4,s4⟩:=bS hc4 (.tup (iV (List.replicate 17 5)));generalize upd H3 c4 _=H4 at *;refine⟨by decide,λc5 hc5=>.inr ?_⟩
 obtain⟨k5,s5⟩:=bS hc5 (.tup [V.int 3]);generalize upd H4 c5 _=H5 at *;refine⟨c5,8,[V.int 3],rfl,rfl,aW.of s5,by simp,by simp,by lia,by lia,λc6 hc6=>?_⟩
 rw[show (List.replicate ((8:Int)).toNat [V.int 3]).flatten=iV (List.replicate 8 3) from rfl];obtain⟨k6,s6⟩:=bS hc6 (.tup (iV (List.replicate 8 3)));generalize upd H5 c6 _=H6 at *;refine⟨by decide,λbb hbb=>?_⟩
 obtain⟨k7,s7⟩:=bS hbb (.tup [.ref c2,.ref c4,.ref c6]);generalize upd H6 bb _=H7 at *;have hb:yV H7 bb i9:=⟨[c2,c4,c6],s7,rfl,λi c e=>by
  rcases i with _|_|_|i
  ·cases e;exact (k3.trans (k4.trans (k5.trans (k6.trans k7)))).n s2
  ·cases e;exact (k5.trans (k6.trans k7)).n s4
  ·cases e;exact k7.n s6
  ·cases e⟩
 have k07:KB [] H H7:=k1.trans (k2.trans (k3.trans (k4.trans (k5.trans (k6.trans k7)))));rw[hN];symm;nofun;refine⟨by decide,by decide,?_⟩
 have D7:=D.kb k07;have dsk7:=dsk.kb k07;have hR7:=hR.keep k07 (NT.nil _) (by simp)
 refine bB (λj σ G=>bM G p dq (n+j)/\KB [p,dq] H7 G/\∃o4 o5 o6 o7 o8,σ=[some (.ref p),some (.ref dd),some (.ref rp),some (.ref bb),o4,o5,o6,o7,o8]) ⟨D7,KB.refl _ _,_,_,_,_,_,rfl⟩ ?_ ?_
 ·rintro j σ G hj ⟨DG,kG,o4,o5,o6,o7,o8,rfl⟩;generalize (0:Int)+((j:Nat):Int)=kI;unfold aL;dsimp only;refine ax λM hM=>?_;nofun;refine⟨p,dq,5,_,rfl,DG,by lia,by decide,by decide,λv G1 hv D1 k1=>?_⟩
  rw[hM];have nrp:rp≠p/\rp≠dq/\rp≠dd/\rp≠k/\rp≠dxk:=by simpa using hx
  have nr:rp∉[p,dq]:=by simp[nrp.1,nrp.2.1]
  have nd:dd∉[p,dq]/\k∉[p,dq]/\dxk∉[p,dq]:=by
   obtain⟨dx,od⟩:=dsk7.d;obtain⟨ra,ox,_⟩:=dsk7.s.ex;exact⟨D7.yX od λ_=>by simp,D7.yX ox λ_=>by simp,D7.yX dsk7.s.od λ_=>by simp⟩
  have kG1:=kG.trans k1;have dsk1:=dsk7.keep kG1 D7.nt nd.1 nd.2.1 nd.2.2;have hR1:=hR7.keep kG1 D7.nt nr;have hb1:=hb.keep kG1 D7.nt;obtain⟨dx,od1⟩:=dsk1.d;have asked:∀{H2 H3:Hp} {l:Addr},KB [] G1 H2->H2 l=none->KB [] H2 H3->∀H4,KB [l] H3 H4->KB [] G1 H4:=λk2 l0 k3 H4 k4 u o e _=>k4 _ _ (k3.n (k2.n e)) (by simpa using ae (k2.n e) l0)
  refine ax λM hM=>?_;have n1:∀G2,KB [] G1 G2->M [some (.ref p),some (.ref dd),some (.ref rp),some (.ref bb),some (.int kI),some (.int (v:Nat)),o6,o7,o8] G2:=λG2 kG2=>by
   rw[hM];refine ax λM hM=>?_;have n2:∀G3 o6,KB [] G1 G3->M [some (.ref p),some (.ref dd),some (.ref rp),some (.ref bb),some (.int kI),some (.int (v:Nat)),o6,o7,o8] G3:=λG3 o6 kG3=>by
    rw[hM];refine ax λM hM=>?_;have n3:∀G4,KB [] G1 G4->M [some (.ref p),some (.ref dd),some (.ref rp),some (.ref bb),some (.int kI),some (.int (v:Nat)),o6,o7,o8] G4:=λG4 kG4=>by
     rw[hM];refine nV λM hM=>?_;have n4:∀G5 o7 o8,KB [] G1 G5->M [some (.ref p),some (.ref dd),some (.ref rp),some (.ref bb),some (.int kI),some (.int (v:Nat)),o6,o7,o8] G5:=λG5 o7 o8 kG5=>by
      rw[hM];exact⟨(D1.kb kG5).mono (by lia),kG1.trans (kG5.mono (by simp)),_,_,_,_,_,rfl⟩
     refine vI λA B hA hB=>?_;nofun;by_cases c2:(2:Int)<(v:Int)
     ·rw[MD c2,hA];have hv34:v=3\/v=4:=by lia
      have dsk4:=dsk1.kb kG4;have hR4:=hR1.keep kG4 (NT.nil _) (by simp)
      have hb4:=hb1.kb kG4;refine ax λM2 hM2=>?_;obtain⟨as,r1,r2⟩:=id hR4;have hal:=r2.1;exists au r1;intro ra hra;obtain⟨k5,s5⟩:=bS hra (.tup (as.map V.ref));generalize upd G4 ra _=G5 at *;have hpr:kl G5 ra rs:=⟨as,s5,r2.1,λi c r e1 e2=>k5.n (r2.2 i c r e1 e2)⟩;refine⟨by decide,λz1 hz1=>?_⟩
      obtain⟨k6,s6⟩:=bS hz1 (.lst [.int 0]);generalize upd G5 z1 _=G6 at *;exists au (k6.n (k5.n r1)),Ms,hal;refine⟨z1,_,_,rfl,rfl,s6,by lia,by lia,Mz (show _<=60 by simp;lia) ⋯,λza hza=>?_⟩
      have er:(List.replicate rs.length [V.int 0]).flatten=iV (nZ (List.replicate rs.length 0)):=by
       generalize rs.length=n;unfold iV nZ;rw[OS,OS,PL];rfl
      rw[MY,er];obtain⟨k7',s7'⟩:=bS hza (.lst (iV (nZ (List.replicate rs.length 0))));generalize upd G6 za _=G7 at *;refine⟨ra,bb,za,i9,rs,List.replicate rs.length 0,rfl,hpr.kb (k6.trans k7'),(hb4.kb k5).kb (k6.trans k7'),eG,s7',MO ..,by lia,aH,λw hw=>by rw[(NV.mp hw).2];decide,λt u G8 k8 g1 g2=>?_⟩
      obtain⟨bp1,bp2⟩:=yP eG (by lia) aH
      rw[bp1] at g1;rw[bp2] at g2;refine⟨t,_,rfl,aW.of g1,rfl,_,_,rfl,_,_,rfl,rfl,?_⟩;have k48:=(k5.trans (k6.trans k7')).trans k8;rw[hM2];refine nV λM2 hM2=>?_;refine vI λA B hA hB=>?_;nofun;have sm:=ny eG h60 aH;have k08:=kG4.trans k48;have dsk8:=dsk1.kb k08;refine⟨by decide,λl1 hl1=>?_⟩
      obtain⟨k9,s9⟩:=bS hl1 (.lst [.str (Str.ofString "bits"),.str (Str.ofString "places")]);generalize upd G8 l1 _=G9 at *;obtain⟨z,e1,hz⟩:∃z,bQ [V.str (Str.ofString "bits"),V.str (Str.ofString "places")] ((v:Int)-3)=some (.str z)/\((v=3/\z="bits")\/(v=4/\z="places")):=by
       rcases hv34 with rfl|rfl
       ·exact⟨_,rfl,.inl ⟨rfl,rfl⟩⟩
       ·exact⟨_,rfl,.inr ⟨rfl,rfl⟩⟩
      exists au s9,e1;refine⟨by decide,λp1 hp1=>?_⟩
      obtain⟨k10,s10⟩:=bS hp1 (.lst [.str (wd (dO i9 rs))]);generalize upd G9 p1 _=G10 at *;refine⟨false,u,(nZ (hW i9 rs)).dropLast,rfl,k10.n (k9.n g2),sm.1,sm.2,λG11 k11=>?_⟩;refine⟨by decide,λp2 hp2=>?_⟩
      obtain⟨k12,s12⟩:=bS hp2 (.lst [.str (spS (nZ (hW i9 rs)).dropLast)]);generalize upd G11 p2 _=G12 at *;refine⟨by decide,λp3 hp3=>?_⟩
      obtain⟨k13,s13⟩:=bS hp3 (.lst [.ref p1,.ref p2]);generalize upd G12 p3 _=G13 at *;obtain⟨du,ws,e2,edu,hws⟩:∃du ws,bQ [V.ref p1,V.ref p2] ((v:Int)-3)=some (.ref du)/\G13 du=some (.lst (sV ws))/\((z="bits"/\ws=[wd (dO i9 rs)])\/(z="places"/\ws=[spS (nZ (hW i9 rs)).dropLast])):=by
       rcases hz with ⟨rfl,rfl⟩|⟨rfl,rfl⟩
       ·exact⟨p1,[wd (dO i9 rs)],rfl,(k11.trans (k12.trans k13)).n s10,.inl ⟨rfl,rfl⟩⟩
       ·exact⟨p2,[spS (nZ (hW i9 rs)).dropLast],rfl,k13.n s12,.inr ⟨rfl,rfl⟩⟩
      exists au s13,e2;have k013:=k08.trans (k9.trans (k10.trans (k11.trans (k12.trans k13))));refine⟨dd,dx,k,du,z,ws,rfl,k013.n od1,by rcases hws with ⟨_,rfl⟩|⟨_,rfl⟩<;>exact RC rfl,dd,k,dxk,b,i9,rs,_,rfl,dsk1.kb k013,eG,aH,h60,?_⟩
      have told:∀l G14,G13 l=none->KB [] G13 G14->G14 l=some (.lst (sV ws))->∃l',V.ref l=.ref l'/\G13 l'=none/\G14 l'=some (.lst (sV ws))/\G14 du=some (.lst (sV ws))/\∀H'',KB [l'] G14 H''->∃k,xE K (.bl true) H'' k/\if k=false then A [some (.ref p),some (.ref dd),some (.ref rp),some (.ref bb),some (.int kI),some (.int (v:Nat)),o6,some (.str (wd (dO i9 rs))),some (.ref u)] H'' else B [some (.ref p),some (.ref dd),some (.ref rp),some (.ref bb),some (.int kI),some (.int (v:Nat)),o6,some (.str (wd (dO i9 rs))),some (.ref u)] H'':=λl G14 l0 k14 l1=>⟨l,rfl,l0,l1,k14.n edu,λG15 k15=>by
       refine⟨true,rfl,?_⟩;rw[M4 ⋯,hB]
       show M2 _ _;rw[hM2];exact n4 _ _ _ (asked k013 l0 k14 G15 k15)⟩
      rcases hws with ⟨rfl,rfl⟩|⟨rfl,rfl⟩
      ·exact .inr (.inl ⟨rfl,told⟩)
      ·exact .inr (.inr (.inl ⟨rfl,told⟩))
     ·rw[M4 c2,hB];exact n4 _ _ _ kG4
    refine vI λA B hA hB=>?_;nofun;by_cases c2:(v:Int)=2
    ·rw[MD c2];refine⟨by decide,λl1 h1=>?_⟩
     obtain⟨k4,s4⟩:=bS h1 (.lst [.str (Str.ofString "more")]);generalize upd G3 l1 _=G4 at *;refine⟨by decide,λl2 h2=>?_⟩
     obtain⟨k5,s5⟩:=bS h2 (.lst [.str (Str.ofString "halt")]);generalize upd G4 l2 _=G5 at *;refine⟨by decide,λl3 h3=>?_⟩
     obtain⟨k6,s6⟩:=bS h3 (.lst [.ref l1,.ref l2]);generalize upd G5 l3 _=G6 at *;refine⟨by decide,λl4 h4=>?_⟩
     obtain⟨k7,s7⟩:=bS h4 (.lst []);generalize upd G6 l4 _=G7 at *;have k47:=k4.trans (k5.trans (k6.trans k7));have k07:=kG3.trans k47;obtain⟨as,r1,r2⟩:=(hR1.keep k07 (NT.nil _) (by simp))
     have hal:=r2.1;refine⟨rp,l4,as.map V.ref,rfl,rfl,aT.of r1,aT.of s7,?_⟩;obtain⟨lx,hx1,hx2⟩:∃lx,bQ [V.ref l1,V.ref l2] (if (as.map V.ref).isEmpty=true then 1 else 0)=some (.ref lx)/\G7 lx=some (.lst (sV [Cj rs])):=by
      cases as with
      |nil =>
       have:rs=[]:=NZ.mp hal.symm;subst this;exact⟨l2,rfl,(k6.trans k7).n s5⟩
      |cons a0 as =>
       have:0<rs.length:=by rw[<- hal];exact Nat.zero_lt_succ _
       refine⟨l1,rfl,?_⟩;unfold Cj;rw[MD this];exact (k5.trans (k6.trans k7)).n s4
     exists au (k7.n s6),hx1;refine⟨dd,dx,k,lx,_,[Cj rs],rfl,k07.n od1,RC rfl,dd,k,dxk,b,i9,rs,_,rfl,dsk1.kb k07,eG,aH,h60,.inr (.inr (.inr (.inr (.inr (.inr ⟨rfl,λl G8 l0 k8 l8=>?_⟩)))))⟩;refine⟨l,rfl,l0,l8,k8.n hx2,λG9 k9=>⟨true,rfl,?_⟩⟩;rw[M4 ⋯,hB]
     show M _ _;exact n3 _ (asked k07 l0 k8 G9 k9)
    ·rw[M4 c2,hB];exact n3 _ kG3
   refine vI λA B hA hB=>?_;nofun;by_cases c1:(v:Int)=1
   ·rw[MD c1,hA];refine ax λM3 hM3=>?_;obtain⟨as,r1,r2,r3⟩:=hb1.kb kG2;have sm:=r_ eG;exists a8 r1;refine aU (xs:=as.map V.ref) (Mz (show _<=3 by rw[Ms,r2];decide) ⋯) (λD' i ys H'=>G2 D'=none/\H' D'=some (.lst ys)/\KB [] G2 H'/\ys=sV ((i9.take i).map spS)/\i<=i9.length) (λD' hD=>⟨hD,aa,KB.new hD,rfl,MG _⟩) (λD' i ys H' h=>⟨h.2.1,by rw[h.2.2.2.1,sV,Ms,Ms,MB];have:=h.2.2.2.2;lia⟩) (λD' i ys H' h=>aW.of (h.2.2.1.n r1)) ?_ ?_
    ·rintro D' i ys H' x R hx ⟨g0,g1,gk,rfl,hi⟩ kk;obtain⟨c,ec,rfl⟩:∃c,as[i]?=some c/\x=.ref c:=by
      rw[M7] at hx;obtain⟨c,e,rfl⟩:=MT.mp hx;exact⟨c,e,rfl⟩
     have hlt:i<i9.length:=by have:=(Mw.mp ec).1;lia
     have er:=Mt hlt;have sm1:=sm _ (MQ hlt);have hc:=r3 i c ec;rw[M9,er] at hc;nofun;refine⟨false,c,i9[i],rfl,gk.n hc,sm1.1,sm1.2,λH5 k5=>?_⟩;exact kk _ _ (k5.n g1) ⟨g0,aa,λu o e _=>by rw[af (ae e g0)];exact k5.n (gk.n e),by rw[Ni,er];unfold sV;rw[MI,MI];rfl,hlt⟩
    rintro du ys H2 ⟨g0,g1,gk,rfl,_⟩;rw[Ms,r2,Na] at g1;show M3 _ _;rw[hM3];refine nV λM3 hM3=>?_;refine vI λA B hA hB=>?_;nofun;have k2:=kG2.trans gk;have dsk2:=dsk1.kb k2;refine⟨dd,dx,k,du,_,i9.map spS,rfl,k2.n od1,by decide,dd,k,dxk,b,i9,rs,_,rfl,dsk2,eG,aH,h60,.inr (.inr (.inr (.inl ⟨rfl,λl H3 l0 k3 l1=>⟨l,rfl,l0,l1,k3.n g1,λH4 k4=>?_⟩⟩)))⟩
    have kF:=asked k2 l0 k3 H4 k4;refine⟨true,rfl,?_⟩;rw[M4 ⋯,hB]
    show M3 _ _;rw[hM3];exact n2 _ _ kF
   ·rw[M4 c1,hB];exact n2 _ _ kG2
  refine vI λA B hA hB=>?_;nofun;by_cases c0:(v:Int)=0
  ·rw[MD c0];obtain⟨as,r1,r2⟩:=id hR1;have hal:=r2.1;exists au r1;refine cP (xs:=as.map V.ref) (Mz (show _<=64 by rw[Ms];lia) ⋯) (λD' i ys H'=>G1 D'=none/\H' D'=some (.lst ys)/\KB [] G1 H'/\ys=sV ((rs.take i).map Row.line)/\i<=rs.length) (λD' hD=>⟨hD,aa,KB.new hD,rfl,MG _⟩) (λD' i ys H' h=>⟨h.2.1,by rw[h.2.2.2.1,sV,Ms,Ms,MB];have:=h.2.2.2.2;lia⟩) (λD' i ys H' h=>aT.of (h.2.2.1.n r1)) ?_ ?_
   ·rintro D' i ys H' x R hx ⟨g0,g1,gk,rfl,hi⟩ kk;obtain⟨c,ec,rfl⟩:∃c,as[i]?=some c/\x=.ref c:=by
     rw[M7] at hx;obtain⟨c,e,rfl⟩:=MT.mp hx;exact⟨c,e,rfl⟩
    have hlt:i<rs.length:=by have:=(Mw.mp ec).1;lia
    have er:=Mt hlt;nofun;refine⟨c,rs[i],rfl,gk.n (r2.2 i c _ ec er),(aH _ (MQ hlt)).mono (by lia),λH5 k5=>?_⟩
    exact kk _ _ (k5.n g1) ⟨g0,aa,λu o e _=>by rw[af (ae e g0)];exact k5.n (gk.n e),by rw[Ni,er];unfold sV;rw[MI,MI];rfl,hlt⟩
   rintro du ys H2 ⟨g0,g1,gk,rfl,_⟩;rw[Ms,hal,Na] at g1;refine⟨dd,dx,k,du,_,rs.map Row.line,rfl,gk.n od1,by rw[Ms];lia,dd,k,dxk,b,i9,rs,_,rfl,dsk1.kb gk,eG,aH,h60,.inl ⟨rfl,λl H3 l0 k3 l1=>⟨l,rfl,l0,l1,k3.n g1,λH4 k4=>?_⟩⟩⟩
   have kF:=asked gk l0 k3 H4 k4;refine⟨true,rfl,?_⟩;rw[M4 ⋯,hB]
   show M _ _;exact n1 _ kF
  ·rw[M4 c0,hB];exact n1 _ (KB.refl _ _)
 ·rintro σ G ⟨DG,kG,o4,o5,o6,o7,o8,rfl⟩;show N _ _;rw[hN];nofun;exact q G DG (k07.all.trans kG)
def qE{tc:TT}(hn:xs.length<=sizeLine)(ha:H a=some (.lst xs))(hs:∀x∈xs,∃q u v,x=.ref q/\H q=some (.tup [u,v])/\∀H' (R:Bool->Hp->Prop),KB [] H H'->R false H'->tc (some u::some v::σ) H' R)(hd:∀D H',H D=none->KB [] H H'->H' D=some (.lst [])->Q (.ref D) H'):
  ib (tQ K a) 2 (nW K 2 (e8 (aL 0) (e8 (aL 1) nY))) tc te Q σ H:=by
 intro D hD0;refine⟨λi m ys σ' H'=>m=xs.length-i/\i<=xs.length/\(KB [] H H'/\H' D=some (.lst [])/\ys=[])/\∃o1 o2,σ'=o1::o2::σ,⟨xs.length,by simp,MG _,⟨KB.new hD0,aa,rfl⟩,none,none,rfl⟩,?_⟩
 rintro i m ys σ' H' ⟨rfl,hi,⟨kH,hDi,rfl⟩,o1,o2,rfl⟩;have q:aT K H' a xs:=aT.of (kH.n ha);refine⟨hDi,?_⟩;by_cases hlt:i<xs.length
 ·refine .inr ⟨⟨xs,xs[i],q,by simp[hlt]⟩,Nat.zero_lt_of_ne_zero (by simp[sizeLine]),λx H2 y=>?_⟩
  obtain⟨rfl,y⟩:=y;have ex:=y xs q;obtain⟨t,u,v,rfl,ht,h⟩:=hs x (N1 ex);refine⟨t,[u,v],rfl,aW.of (kH.n ht),rfl,u,[v],rfl,v,[],rfl,rfl,?_⟩;refine h _ _ kH ?_;rw[M4 ML];exact⟨xs.length-(i+1),by lia,rfl,hlt,⟨kH,hDi,rfl⟩,_,_,rfl⟩
 ·have e:i=xs.length:=by lia
  subst e;exact .inl ⟨⟨xs,q,M8 _⟩,hd D H' hD0 kH hDi⟩
def bM.ne{n:Nat}(D:bM H p dq n):p≠dq:=λz=>by
 obtain⟨cells,i,t,m,e1,e2,_⟩:=D;rw[z,e2] at e1;have e3:=HO.lst.inj (Option.some.inj e1)
 cases cells with
 |nil=>cases e3
 |cons c cs=>cases (List.cons.inj e3).1
structure Me (CD CK:Addr) (H:Hp) (dl rl:Addr) (dd k dxk b rp:Nat->Addr) (rs:Nat->List Row):Prop where
 dl:H dl=some (.lst [.ref (dd 0),.ref (dd 1)])
 rl:H rl=some (.lst [.ref (rp 0),.ref (rp 1)])
 ds:∀i,i<2->kg CD CK H (dd i) (k i) (dxk i) (b i) i9 (rs i)
 rw:∀i,i<2->tG H (rp i) (rs i)
 le:∀i,i<2->(rs i).length<=60
 ok:∀i,i<2->∀r∈rs i,r.Ok (rs i).length
def Hd(H:Hp)(hp:Addr)(ex:List Addr)(n:Nat):Prop:=∃ts:List Addr,H hp=some (.lst (ts.map V.ref))/\ts.length<=n/\∀t∈ts,∃u c ws,H t=some (.tup [.ref u,.ref c])/\H u=some (.lst (sV ws))/\H c=some (.lst (sV ws))/\u∉ex/\c∉ex
structure zb (p dq dl rl hp:Addr) (k rp:Nat->Addr):Prop where
 k:k 0≠k 1
 nd:[p,dq,rp 0,rp 1,dl,rl,hp].Nodup
structure dR (CD CK:Addr) (H:Hp) (p dq dl rl hp:Addr) (dd k dxk b rp:Nat->Addr) (rs:Nat->List Row) (n m:Nat):Prop where
 D:bM H p dq n
 tw:Me CD CK H dl rl dd k dxk b rp rs
 hd:Hd H hp [p,dq,rp 0,rp 1,hp] m
def two(h:i<2):i=0\/i=1:=by lia
def zb.ap{k:Nat->Addr}(A:zb p dq dl rl hp k rp)(hi:i<2):rp i≠p/\rp i≠dq/\rp i≠dl/\rp i≠rl/\rp i≠hp/\rp i∈[rp 0,rp 1]:=by
 have h:=A.nd;simp only[N9,M0,MP,Nl,OR] at h;obtain⟨⟨_,a1,a2,_⟩,⟨b1,b2,_⟩,⟨c1,c2,c3,c4⟩,⟨d1,d2,d3⟩,_⟩:=h;rcases two hi with rfl|rfl
 ·exact⟨λz=>a1 z.symm,λz=>b1 z.symm,c2,c3,c4,by simp⟩
 ·exact⟨λz=>a2 z.symm,λz=>b2 z.symm,d1,d2,d3,by simp⟩
def zb.ij{k:Nat->Addr}(A:zb p dq dl rl hp k rp)(hi:i<2)(hj:j<2)(h:j≠i):rp j≠rp i/\k j≠k i:=by
 have hn:=A.nd;simp only[N9,M0,MP,Nl,OR] at hn;have c1:=hn.2.2.1.1;have c2:=A.k;rcases two hi with rfl|rfl<;>rcases two hj with rfl|rfl
 ·exact absurd rfl h
 ·exact⟨MV c1,MV c2⟩
 ·exact⟨c1,c2⟩
 ·exact absurd rfl h
def zb.lists{k:Nat->Addr}(A:zb p dq dl rl hp k rp):dl≠p/\dl≠dq/\dl≠hp/\rl≠p/\rl≠dq/\rl≠hp/\hp≠p/\hp≠dq:=by
 have hn:=A.nd;simp only[N9,M0,MP,Nl,OR] at hn;obtain⟨⟨_,_,_,a4,a5,a6⟩,⟨_,_,b4,b5,b6⟩,_,_,⟨_,c⟩,d,_⟩:=hn;exact⟨MV a4,MV b4,c,MV a5,MV b5,d,MV a6,MV b6⟩
def JH(i:Nat)(x:List Row)(rs:Nat->List Row):Nat->List Row:=λj=>if j=i then x else rs j
def df{x:List Row}{rs:Nat->List Row}:JH i x rs i=x:=MD rfl
def zV{x:List Row}{rs:Nat->List Row}(h:j≠i):JH i x rs j=rs j:=M4 h
def dR.keep{G:Hp}{k b:Nat->Addr}{rs rs':Nat->List Row}{n n' m:Nat}(A:zb p dq dl rl hp k rp)(h:dR CD CK H p dq dl rl hp dd k dxk b rp rs n m)(hi:i<2)(kG:KB [p,dq,k i,rp i] H G)(D':bM G p dq n')(d':kg CD CK G (dd i) (k i) (dxk i) (b i) i9 (rs' i))(r':tG G (rp i) (rs' i))(le:(rs' i).length<=60)(ok:∀r∈rs' i,r.Ok (rs' i).length)(hrs:∀j,j≠i->rs' j=rs j):dR CD CK G p dq dl rl hp dd k dxk b rp rs' n' m:=by
 obtain⟨hD,tw,hd⟩:=h;have na:=A.ap hi;have nl:=A.lists;obtain⟨yp,ep⟩:=hD.lst p (by simp)
 obtain⟨yq,eq⟩:=hD.lst dq (by simp)
 obtain⟨ra,ek,_⟩:=(tw.ds i hi).s.ex;obtain⟨as,er,_⟩:=tw.rw i hi;have out:∀{u:Addr} {o:HO},H u=some o->u≠p->u≠dq->u≠k i->u≠rp i->G u=some o:=λ{u o} e a b c d=>kG _ _ e (by simp[a,b,c,d])
 have ol:∀{u:Addr} {xs:List V},H u=some (.lst xs)->u≠p->u≠dq->u≠rp i->G u=some (.lst xs):=λ{u xs} e a b d=>out e a b (λz=>by rw[z,ek] at e;cases e) d
 have ot:∀{u:Addr} {xs:List V},H u=some (.tup xs)->G u=some (.tup xs):=λ{u xs} e=>out e (λz=>by rw[z,ep] at e;cases e) (λz=>by rw[z,eq] at e;cases e) (λz=>by rw[z,ek] at e;cases e) (λz=>by rw[z,er] at e;cases e)
 have nt:NT [p,dq,k i,rp i] H:=λu hu xs e=>by
  simp only[M0,MP,Nl] at hu;rcases hu with rfl|rfl|rfl|rfl
  ·rw[ep] at e;cases e
  ·rw[eq] at e;cases e
  ·rw[ek] at e;cases e
  ·rw[er] at e;cases e
 have fr:∀{u:Addr} {o:HO},H u=some o->(∀xs,o≠.lst xs)->u≠k i->u∉[p,dq,k i,rp i]:=λ{u o} e ho hk z=>by
  simp only[M0,MP,Nl] at z;rcases z with rfl|rfl|rfl|rfl
  ·rw[ep] at e;exact ho _ (Option.some.inj e).symm
  ·rw[eq] at e;exact ho _ (Option.some.inj e).symm
  ·exact hk rfl
  ·rw[er] at e;exact ho _ (Option.some.inj e).symm
 refine⟨D',⟨ol tw.dl nl.1 nl.2.1 (MV na.2.2.1),ol tw.rl nl.2.2.2.1 nl.2.2.2.2.1 (MV na.2.2.2.1),λj hj=>?_,λj hj=>?_,λj hj=>?_,λj hj=>?_⟩,?_⟩
 ·by_cases c:j=i
  ·subst c;exact d'
  ·rw[hrs j c];have dj:=tw.ds j hj;obtain⟨dx,e1⟩:=dj.d;obtain⟨ra2,e2,_⟩:=dj.s.ex;exact dj.keep kG nt (fr e1 (λ_=>by simp) λz=>by rw[z,ek] at e1;cases e1) (fr e2 (λ_=>by simp) (A.ij hi hj c).2) (fr dj.s.od (λ_=>by simp) λz=>by rw[<- z,dj.s.od] at ek;cases ek)
 ·by_cases c:j=i
  ·subst c;exact r'
  ·rw[hrs j c];refine (tw.rw j hj).keep kG nt ?_;obtain⟨as2,e2,_⟩:=tw.rw j hj;have nj:=A.ap hj;simp only[M0,MP,Nl,OR];exact⟨nj.1,nj.2.1,(λz=>by rw[z,ek] at e2;cases e2),(A.ij hi hj c).1⟩
 ·by_cases c:j=i
  ·subst c;exact le
  ·rw[hrs j c];exact tw.le j hj
 ·by_cases c:j=i
  ·subst c;exact ok
  ·rw[hrs j c];exact tw.ok j hj
 ·obtain⟨ts,e1,e2,e3⟩:=hd;refine⟨ts,ol e1 nl.2.2.2.2.2.2.1 nl.2.2.2.2.2.2.2 (MV na.2.2.2.2.1),e2,λt ht=>?_⟩;obtain⟨u,c,ws,f1,f2,f3,f4,f5⟩:=e3 t ht;have ri:∀{u:Addr},u∉[p,dq,rp 0,rp 1,hp]->u≠p/\u≠dq/\u≠rp i:=λ{u} z=>by
   simp only[M0,MP,Nl,OR] at z;refine⟨z.1,z.2.1,?_⟩;rcases two hi with rfl|rfl
   ·exact z.2.2.1
   ·exact z.2.2.2.1
  have r4:=ri f4;have r5:=ri f5;exact⟨u,c,ws,ot f1,ol f2 r4.1 r4.2.1 r4.2.2,ol f3 r5.1 r5.2.1 r5.2.2,f4,f5⟩
def dR.deck{G:Hp}{k b:Nat->Addr}{rs:Nat->List Row}{n n' m:Nat}(A:zb p dq dl rl hp k rp)(h:dR CD CK H p dq dl rl hp dd k dxk b rp rs n m)(kG:KB [p,dq] H G)(D':bM G p dq n'):dR CD CK G p dq dl rl hp dd k dxk b rp rs n' m:=by
 have na:=A.ap (i:=0) ⋯
 have tw:=h.tw;have hD:=h.D;have dj:=tw.ds 0 ⋯
 obtain⟨dx,e1⟩:=dj.d;obtain⟨ra2,e2,_⟩:=dj.s.ex;refine h.keep A (i:=0) ⋯ (λu o e z=>kG u o e λc=>z ?_) D' (dj.keep kG hD.nt (hD.yX e1 λ_=>by simp) (hD.yX e2 λ_=>by simp) (hD.yX dj.s.od λ_=>by simp)) ((tw.rw 0 ⋯).keep kG hD.nt (by simp[na.1,na.2.1])) (tw.le 0 ⋯) (tw.ok 0 ⋯) λj _=>rfl
 simp only[M0,MP,Nl] at c ⊢;rcases c with c|c<;>simp[c]
def dR.kb{G:Hp}{k b:Nat->Addr}{rs:Nat->List Row}{n m:Nat}(A:zb p dq dl rl hp k rp)(h:dR CD CK H p dq dl rl hp dd k dxk b rp rs n m)(kG:KB [] H G):dR CD CK G p dq dl rl hp dd k dxk b rp rs n m:=h.deck A kG.all (h.D.kb kG)
def dR.LF{k b:Nat->Addr}{rs:Nat->List Row}{n m:Nat}(A:zb p dq dl rl hp k rp)(h:dR CD CK H p dq dl rl hp dd k dxk b rp rs n m)(hi:i<2):rp i∉[p,dq,dd i,k i,dxk i]:=by
 have na:=A.ap hi;have dj:=h.tw.ds i hi;obtain⟨dx,e1⟩:=dj.d;obtain⟨ra2,e2,_⟩:=dj.s.ex;have e3:=dj.s.od;obtain⟨as,er,_⟩:=h.tw.rw i hi;simp only[M0,MP,Nl,OR];exact⟨na.1,na.2.1,(λz=>by rw[z,e1] at er;cases er),(λz=>by rw[z,e2] at er;cases er),(λz=>by rw[z,e3] at er;cases er)⟩
def pF{a:Nat->Addr}{v:Nat}(hv:v<2):bQ [V.ref (a 0),.ref (a 1)] (v:Int)=some (.ref (a v)):=by
 rcases two hv with rfl|rfl<;>rfl
def pk(a b:α)(i:Nat):α:=if i=0 then a else b
def dR.lst{k b:Nat->Addr}{rs:Nat->List Row}{n m:Nat}(h:dR CD CK H p dq dl rl hp dd k dxk b rp rs n m){u:Addr}(hu:u∈[p,dq,rp 0,rp 1,hp]):∃xs,H u=some (.lst xs):=by
 simp only[M0,MP,Nl] at hu;rcases hu with rfl|rfl|rfl|rfl|rfl
 ·exact h.D.lst _ (by simp)
 ·exact h.D.lst _ (by simp)
 ·obtain⟨as,e,_⟩:=h.tw.rw 0 ⋯;exact⟨_,e⟩
 ·obtain⟨as,e,_⟩:=h.tw.rw 1 ⋯;exact⟨_,e⟩
 ·obtain⟨ts,e,_⟩:=h.hd;exact⟨_,e⟩
def dR.new{k b:Nat->Addr}{rs:Nat->List Row}{n m:Nat}(h:dR CD CK H p dq dl rl hp dd k dxk b rp rs n m){u:Addr}(hu:H u=none):u∉[p,dq,rp 0,rp 1,hp]:=λz=>by
 obtain⟨xs,e⟩:=h.lst z;rw[hu] at e;cases e
def dR.told{G:Hp}{k b:Nat->Addr}{rs:Nat->List Row}{n m:Nat}(A:zb p dq dl rl hp k rp)(h:dR CD CK H p dq dl rl hp dd k dxk b rp rs n m)(kG:KB [hp] H G)(e:Hd G hp [p,dq,rp 0,rp 1,hp] (m+1)):dR CD CK G p dq dl rl hp dd k dxk b rp rs n (m+1):=by
 obtain⟨hD,tw,hd⟩:=h;have nl:=A.lists;obtain⟨ts,eh,_⟩:=hd;have nt:NT [hp] H:=gi eh;refine⟨hD.keep kG (by simpa using MV nl.2.2.2.2.2.2.1) (by simpa using MV nl.2.2.2.2.2.2.2),⟨kG _ _ tw.dl (by simpa using nl.2.2.1),kG _ _ tw.rl (by simpa using nl.2.2.2.2.2.1),λj hj=>?_,λj hj=>(tw.rw j hj).keep kG nt (by simpa using (A.ap hj).2.2.2.2.1),tw.le,tw.ok⟩,e⟩
 have dj:=tw.ds j hj;obtain⟨dx,e1⟩:=dj.d;obtain⟨ra2,e2,_⟩:=dj.s.ex;have e3:=dj.s.od;have fr:∀{u:Addr} {o:HO},H u=some o->(∀xs,o≠.lst xs)->u∉[hp]:=λ{u o} e ho z=>by
  rw[MH.mp z,eh] at e;exact ho _ (Option.some.inj e).symm
 exact dj.keep kG nt (fr e1 λ_=>by simp) (fr e2 λ_=>by simp) (fr e3 λ_=>by simp)
def Hm{f_i:Addr}(T:Txt K mg)(F:kj K "law" "law" iD f fd)(Y9:mg "Desk"=some (.ref CD))(v0:gX K CD)(v6:Mk K CD f_i)(dL:aZ P w K mg base aF 3 f_i d_i ["self"] (vA CD CK))(f8:Binds K d_i ["self"] [])(W8:Meth K CD "ask" f_a)(af8:aZ P w K mg base aF 10 f_a d_a ["self","line"] (oA CD CK))(X8:Binds K d_a ["self","line"] [])(af4:ao P w K mg base aF 1 "_law_deck" ["script"] (AZ K))(o0:ao P w K mg base aF 2 "_law_draw" ["deck","most"] gO)(X4:ao P w K mg base aF 12 "_law_put" ["deck","desk","rows"] (tY CD CK))(af3:ao P w K mg base aF 13 "_law_deed" ["deck","desk","rows"] (vN CD CK))(ad7:ao P w K mg base aF 12 "_law_right" ["deck","desk","rows"] (sT CD CK)):aZ P w K mg base aF 14 f fd ["script"] (rL K):=by
 refine tJ F fD (by ac_rfl) ?_
 rfl'
 obtain⟨a,ns,rfl,hS,hl,q⟩:=h;refine⟨_,(Z.aq (Z.se (i:=1) fD.nd (Z.fc af4 (Z.cons (Z.v 0) Z.nil)))
   (Z.aq (Z.se (i:=2) fD.nd (Z.lst (Z.cons (Z.F_ K rfl v6 dL (hr.mono ⋯) rfl Y9 f8 cg) (Z.cons (Z.F_ K rfl v6 dL (hr.mono ⋯) rfl Y9 f8 cg) Z.nil))))
   (Z.aq (Z.se (i:=3) fD.nd (Z.lst (Z.cons (Z.lst Z.nil) (Z.cons (Z.lst Z.nil) Z.nil))))
   (Z.aq (Z.se (i:=4) fD.nd (Z.lst Z.nil))
   (Z.aq (Z.fQ Nd rfl (Z.my rfl T.cK (Z.cons (Z.ix (Z.aD K rfl hu) (Z.lst (Z.cons (Z.fc o0 (Z.cons (Z.v 1) (Z.cons Z.int Z.nil))) (Z.cons Z.int Z.nil))) (Z.ct i6 rfl T.qV ∅ (Z.cons (Z.cmp aY (Z.fc o0 (Z.cons (Z.v 1) (Z.cons Z.int Z.nil))) Z.int) Z.nil))) Z.nil)) (Z.aA (i:=5) fD.nd rfl (by right)) (Z.ay (Z.dz (Z.j7 (Z.j6 K rfl (Z.fc X4 (Z.cons (Z.v 1) (Z.cons (Z.ix (Z.aD K rfl hu) (Z.v 2) Z.int) (Z.cons (Z.ix (Z.aD K rfl hu) (Z.v 3) Z.int) Z.nil)))))) (Z.ay (Z.ret Z.bl)) Z.bp)))
   (Z.aq (Z.fQ Nd rfl (Z.my rfl T.cK (Z.cons (Z.op (Z.aI K rfl) Z.int (Z.cb (ow rfl) rfl T.FO ∅ (Z.cons (Z.cb (Z.v9 K rfl) rfl T.bA ∅ (Z.cons (Z.v 0) Z.nil)) (Z.cons Z.int Z.nil)))) Z.nil)) (Z.aA (i:=5) fD.nd rfl (by right)) (Z.aq (Z.se (i:=6) fD.nd (Z.fc o0 (Z.cons (Z.v 1) (Z.cons Z.int Z.nil))))
   (Z.aq (Z.dz (Z.j7 (Z.j6 K rfl (Z.fc af3 (Z.cons (Z.v 1) (Z.cons (Z.ix (Z.aD K rfl hu) (Z.v 2) (Z.v 6)) (Z.cons (Z.ix (Z.aD K rfl hu) (Z.v 3) (Z.v 6)) Z.nil)))))) (Z.ay (Z.ret Z.bl)) Z.bp)
   (Z.aq (Z.se (i:=6) fD.nd (Z.ix (Z.aD K rfl hu) (Z.lst (Z.cons (Z.v 6) (Z.cons (Z.v 6) (Z.cons (Z.op d7 Z.int (Z.v 6)) Z.nil)))) (Z.fc o0 (Z.cons (Z.v 1) (Z.cons Z.int Z.nil)))))
   (Z.aq (Z.dz (Z.j7 (Z.j6 K rfl (Z.fc ad7 (Z.cons (Z.v 1) (Z.cons (Z.ix (Z.aD K rfl hu) (Z.v 2) (Z.v 6)) (Z.cons (Z.ix (Z.aD K rfl hu) (Z.v 3) (Z.v 6)) Z.nil)))))) (Z.ay (Z.ret Z.bl)) Z.bp)
   (Z.aq (Z.se (i:=7) fD.nd (Z.nM K rfl (Z.ix (Z.aD K rfl hu) (Z.v 2) (Z.v 6)) v0 W8 af8 (hr.mono ⋯) X8 cg (Z.cons (Z.ix (Z.aD K rfl hu) (Z.lst (Z.consts rfl)) (Z.fc o0 (Z.cons (Z.v 1) (Z.cons Z.int Z.nil)))) Z.nil)))
   (Z.ay (Z.expr (Z.app K (Z.v 4) (Z.cons (Z.tup (Z.cons (Z.v 7) (Z.cons (Z.ct (Z.zj K rfl) rfl T.pW ∅ (Z.cons (Z.v 7) Z.nil)) Z.nil))) Z.nil))))))))))
   (Z.ay (Z.ret (Z.cmp (Y.mI K rfl (Oq hu)) (Z.mT (osc:=ab iD) (ON:=["script","deck","desks","rows","held","turn","at","told"]) (own:=["told","copy"]) (N:=["told","copy","script","deck","desks","rows","held","turn","at",".told"]) (az.of rfl ∅) (Z.any K rfl (Z.v 4)) (λnd _ _ _ _=>(Z.kP (n:=2) K rfl rfl (Z.bq (Z.aA (i:=0) nd rfl (by right)) (Z.bq (Z.aA (i:=1) nd rfl (by right)) Z.gR)))) (λ_ _ _ _=>(Z.LV (Z.aK (Y.Hy K rfl (Oq hu)) (Z.v 0) (Z.v 1)))) (λ_ _ _ _=>Z.int)) (Z.lst Z.nil)))))))))),?_⟩
 symm;nofun;refine⟨a,ns,rfl,hS,λp dq H1 D1 k1 hp0 hq0=>?_⟩;rw[hN];clear hN N;symm;nofun;intro d0 dx0 hd0 hdx0 hne0;refine⟨d0,dx0,rfl,aa,λH2 x0 dxk0 b0 hx0 dsk0 kb0=>⟨rfl,?_⟩⟩;have k12:KB [] H1 H2:=λc o e _=>kb0 c o (by rw[af (ae e hd0),af (ae e hdx0)];exact e) (by simpa using ae e hd0)
 have z0:H1 x0=none:=by
  have n1:x0≠d0:=λz=>by rw[z,aa] at hx0;cases hx0
  have n2:x0≠dx0:=λz=>by rw[af n1,z,aa] at hx0;cases hx0
  rwa [af n1,af n2] at hx0
 intro d1 dx1 hd1 hdx1 hne1;refine⟨d1,dx1,rfl,aa,λH3 x1 dxk1 b1 hx1 dsk1 kb1=>⟨rfl,?_⟩⟩;have k23:KB [] H2 H3:=λc o e _=>kb1 c o (by rw[af (ae e hd1),af (ae e hdx1)];exact e) (by simpa using ae e hd1)
 have z1:H2 x1=none:=by
  have n1:x1≠d1:=λz=>by rw[z,aa] at hx1;cases hx1
  have n2:x1≠dx1:=λz=>by rw[af n1,z,aa] at hx1;cases hx1
  rwa [af n1,af n2] at hx1
 have nx:x0≠x1:=by
  obtain⟨_,e,_⟩:=dsk0.s.ex;exact ae e z1
 refine⟨by decide,λdl hdl=>?_⟩
 obtain⟨k34,s4⟩:=bS hdl (.lst [.ref d0,.ref d1]);generalize upd H3 dl _=H4 at *;rw[hN];clear hN N;symm;nofun;refine⟨by decide,λr0 hr0=>?_⟩
 obtain⟨k45,s5⟩:=bS hr0 (.lst []);generalize upd H4 r0 _=H5 at *;refine⟨by decide,λr1 hr1=>?_⟩
 obtain⟨k56,s6⟩:=bS hr1 (.lst []);generalize upd H5 r1 _=H6 at *;refine⟨by decide,λrl hrl=>?_⟩
 obtain⟨k67,s7⟩:=bS hrl (.lst [.ref r0,.ref r1]);generalize upd H6 rl _=H7 at *;rw[hN];clear hN N;symm;nofun;refine⟨by decide,λhp hhp=>?_⟩
 obtain⟨k78,s8⟩:=bS hhp (.lst []);generalize upd H7 hp _=H8 at *;rw[hN];clear hN N;have k24:=k23.trans k34;have k46:=k45.trans k56;have k48:=(k46.trans k67).trans k78;have k14:=k12.trans k24;have D3:=D1.kb (k12.trans k23);have D4:=D3.kb k34;have D5:=D4.kb k45;have D6:=D5.kb k56;have D7:=D6.kb k67;have D8:=D7.kb k78;have apt:zb p dq dl rl hp (pk x0 x1) (pk r0 r1):=by
  have m0:=D3.new hdl;have m1:=D4.new hr0;have m2:=D5.new hr1;have m3:=D6.new hrl;have m4:=D7.new hhp;simp only[M0,MP,Nl,OR] at m0 m1 m2 m3 m4;have ne:∀{u v:Addr} {G:Hp} {o:HO},G u=some o->G v=none->u≠v:=λe h=>ae e h;refine⟨nx,?_⟩;simp only[N9,M0,MP,Nl,OR,not_false_eq_true,List.nodup_nil,and_true];exact⟨⟨D1.ne,MV m1.1,MV m2.1,MV m0.1,MV m3.1,MV m4.1⟩,⟨MV m1.2,MV m2.2,MV m0.2,MV m3.2,MV m4.2⟩,⟨ne s5 hr1,MV (ne s4 hr0),ne (k56.n s5) hrl,ne ((k56.trans k67).n s5) hhp⟩,⟨MV (ne (k45.n s4) hr1),ne s6 hrl,ne (k67.n s6) hhp⟩,⟨ne (k46.n s4) hrl,ne ((k46.trans k67).n s4) hhp⟩,ne s7 hhp⟩
 have k38:=k34.trans k48;have A8:dR CD CK H8 p dq dl rl hp (pk d0 d1) (pk x0 x1) (pk dxk0 dxk1) (pk b0 b1) (pk r0 r1) (pk [] []) 2000 0:=by
  refine⟨D8.mono (by lia),⟨k48.n s4,k78.n s7,λi hi=>?_,λi hi=>?_,λi hi=>?_,λi hi=>?_⟩,[],s8,M8 _,λt ht=>absurd ht MP⟩
  ·rcases two hi with rfl|rfl
   ·exact dsk0.kb (k23.trans k38)
   ·exact dsk1.kb k38
  ·have e0:PA H8 [] []:=⟨rfl,λi c r e _=>nomatch e⟩;rcases two hi with rfl|rfl
   ·exact⟨[],(k56.trans (k67.trans k78)).n s5,e0⟩
   ·exact⟨[],(k67.trans k78).n s6,e0⟩
  ·rcases two hi with rfl|rfl<;>exact MG _
  ·rcases two hi with rfl|rfl<;>exactλr hr=>absurd hr MP
 have kH8:KB [] H H8:=k1.trans (k14.trans k48);have zk:∀i,i<2->H (pk x0 x1 i)=none/\H (pk r0 r1 i)=none:=λi hi=>by
  rcases two hi with rfl|rfl
  ·exact⟨k1.free (by simp) z0,(k1.trans k14).free (by simp) hr0⟩
  ·exact⟨(k1.trans k12).free (by simp) z1,((k1.trans k14).trans k45).free (by simp) hr1⟩
 clear D1 D3 D4 D5 D6 D7 D8 k1 k12 k23 k34 k45 k56 k67 k78 k24 k46 k48 k14 k38 s4 s5 s6 s7 s8 hdl hr0 hr1 hrl hhp dsk0 dsk1 kb0 kb1 hx0 hx1 z0 z1 nx hd0 hdx0 hne0 hd1 hdx1 hne1;have e0:(pk [] []:Nat->List Row) 0=[]:=rfl;generalize pk d0 d1=dd at *;generalize pk x0 x1=k at *;generalize pk dxk0 dxk1=dxk at *;generalize pk b0 b1=b at *;generalize pk r0 r1=rp at *;generalize (pk [] []:Nat->List Row)=rs0 at *;have kd:∀{G G':Hp},KB [] H G->KB [p,dq] G G'->KB [] H G':=λk k' u o e _=>k' u o (k u o e (by simp)) (by simp only[M0,MP,Nl,OR];exact⟨ae e hp0,ae e hq0⟩)
 have kq:∀{G G':Hp} {i:Nat},i<2->KB [] H G->KB [p,dq,k i,rp i] G G'->KB [] H G':=λhi k k' u o e _=>k' u o (k u o e (by simp)) (by simp only[M0,MP,Nl,OR];exact⟨ae e hp0,ae e hq0,ae e (zk _ hi).1,ae e (zk _ hi).2⟩)
 symm;nofun;refine⟨p,dq,7,_,rfl,A8.D,by lia,by decide,by decide,λv1 G1 hv1 D1 k1=>?_⟩
 nofun;refine⟨by decide,λl1 hl1=>?_⟩
 obtain⟨k2,s2⟩:=bS hl1 (.lst [.int (v1:Nat),.int 50]);generalize upd G1 l1 _=G2 at *;have n1:=D1.new hl1;have D2:=D1.kb k2;refine⟨p,dq,6,_,rfl,D2,by lia,by decide,by decide,λv2 G3 hv2 D3 k3=>?_⟩
 obtain⟨m,hm,em⟩:∃m:Nat,m<=50/\bQ [V.int (v1:Nat),.int 50] (if (v2:Int)=0 then 1 else 0)=some (.int (m:Nat)):=by
  by_cases c:(v2:Int)=0
  ·rw[MD c];exact⟨50,by decide,rfl⟩
  ·rw[M4 c];exact⟨v1,by lia,rfl⟩
 exists au (k3 _ _ s2 n1),em;have A3:dR CD CK G3 p dq dl rl hp dd k dxk b rp rs0 2010 0:=(((A8.deck apt k1 D1).kb apt k2).deck apt k3 (D3.mono (by lia)))
 have kH3:KB [] H G3:=kd ((kd kH8 k1).trans k2) k3;clear A8 kH8 D1 D2 D3 k1 k2 k3 s2 n1 hl1 em;refine⟨by lia,by lia,?_⟩
 rw[MY];refine bB (λj σ G=>∃(rs:Nat->List Row) (s5:Option V),(rs 0).length=j/\dR CD CK G p dq dl rl hp dd k dxk b rp rs (2010+20*j) 0/\KB [] H G/\σ=[some (.ref a),some (.ref p),some (.ref dl),some (.ref rl),some (.ref hp),s5,none,none]) ⟨rs0,none,by rw[e0];rfl,A3,kH3,rfl⟩ ?_ ?_
 ·clear A3 kH3 e0;rintro j σ G hj ⟨rs,s5,hrl,AG,kH,rfl⟩;unfold aL;dsimp only;refine nV λM hM=>?_;refine vI λA B hA hB=>?_;exists au AG.tw.dl,uK,au AG.tw.rl;refine⟨p,dq,dd 0,k 0,dxk 0,b 0,rp 0,_,i9,rs 0,rfl,AG.D,by lia,AG.tw.ds 0 ⋯,eG,AG.tw.rw 0 ⋯,by lia,AG.tw.ok 0 ⋯,AG.LF apt ⋯,λq0 r G2 hq hro d2 r2 D2 k2=>⟨true,rfl,?_⟩⟩
  rw[M4 ⋯,hB]
  show M _ _;rw[hM];exact⟨JH 0 (iU q0 r (rs 0)) rs,_,by rw[df,k_ hq,hrl],AG.keep apt (i:=0) ⋯ k2 (D2.mono (by lia)) (by rw[df];exact d2) (by rw[df];exact r2) (by rw[df,k_ hq];lia) (by rw[df];exact Ao hq hro (AG.tw.ok 0 ⋯)) (λj' hj'=>zV hj'),kq ⋯ kH k2,rfl⟩
 rintro σ G ⟨rs,s5,hrl,AG,kH,rfl⟩
 replace AG:dR CD CK G p dq dl rl hp dd k dxk b rp rs 4000 0:=⟨AG.D.mono (by lia),AG.tw,AG.hd⟩
 show N _ _;rw[hN];clear hN N A3 kH3 e0 hrl;symm;nofun;refine⟨.ref a,ns.length,rfl,.inl ⟨_,kH.GK (by simp) hS,by rw[Ms]⟩,by split<;>lia,by split<;>lia,?_⟩
 obtain⟨m2,hm2,em2⟩:∃m2:Nat,m2<=16/\(8+if (8:Int)<(ns.length:Int) then (8:Int) else (ns.length:Int)).toNat=m2:=⟨_,by split<;>lia,rfl⟩
 rw[em2];clear em2 kH kd kq zk hp0 hq0;refine bB (λj σ G=>∃(rs:Nat->List Row) (s5 s6 s7:Option V),dR CD CK G p dq dl rl hp dd k dxk b rp rs (4000+100*j) j/\j<=m2/\σ=[some (.ref a),some (.ref p),some (.ref dl),some (.ref rl),some (.ref hp),s5,s6,s7]) ⟨rs,_,_,_,AG,MG _,rfl⟩ ?_ ?_
 ·clear AG rs;rintro j σ G hj ⟨rs,s5,s6,s7,AG,_,rfl⟩;generalize (0:Int)+((j:Nat):Int)=kI;unfold aL;dsimp only;refine ax λM hM=>?_;nofun;refine⟨p,dq,2,_,rfl,AG.D,by lia,by decide,by decide,λv G1 hv D1 k1=>?_⟩
  have A1:=AG.deck apt k1 D1;rw[hM];clear hM M AG D1 k1;have hv2:v<2:=by lia
  refine ax λM hM=>?_;refine vI λA B hA hB=>?_;have ed:=pF (a:=dd) hv2;have er:=pF (a:=rp) hv2;exists au A1.tw.dl,ed,au A1.tw.rl,er;refine⟨p,dq,dd v,k v,dxk v,b v,rp v,_,i9,rs v,rfl,A1.D,by lia,A1.tw.ds v hv2,eG,A1.tw.rw v hv2,A1.tw.le v hv2,A1.tw.ok v hv2,A1.LF apt hv2,λrs' G2 hl' ho' d2 r2 D2 k2=>⟨true,rfl,?_⟩⟩
  rw[M4 ⋯,hB]
  show M _ _;have A2:dR CD CK G2 p dq dl rl hp dd k dxk b rp (JH v rs' rs) (4000+100*j+40) j:=A1.keep apt hv2 k2 (D2.mono (by lia)) (by rw[df];exact d2) (by rw[df];exact r2) (by rw[df];exact hl') (by rw[df];exact ho') (λj' hj'=>zV hj')
  rw[hM];clear hM M hA hB A B A1 d2 r2 D2 k2 hl' ho';generalize JH v rs' rs=rs2 at *;clear rs rs';refine ax λM hM=>?_;nofun;refine⟨by decide,λl2 hl2=>?_⟩
  obtain⟨k3,s3⟩:=bS hl2 (.lst [.int (v:Nat),.int (v:Nat),.int (1-((v:Nat):Int))]);generalize upd G2 l2 _=G3 at *;have n3:=A2.D.new hl2;refine⟨p,dq,3,_,rfl,A2.D.kb k3,by lia,by decide,by decide,λv3 G4 hv3 D4 k4=>?_⟩
  obtain⟨u,hu2,eu⟩:∃u:Nat,u<2/\bQ [V.int (v:Nat),.int (v:Nat),.int (1-((v:Nat):Int))] (v3:Int)=some (.int (u:Nat)):=by
   rcases (show v3=0\/v3=1\/v3=2 by lia) with rfl|rfl|rfl
   ·exact⟨v,hv2,rfl⟩
   ·exact⟨v,hv2,rfl⟩
   ·rcases two hv2 with rfl|rfl
    ·exact⟨1,by decide,rfl⟩
    ·exact⟨0,by decide,rfl⟩
  exists au (k4 _ _ s3 n3),eu;have A4:=(A2.kb apt k3).deck apt k4 D4;rw[hM];clear hM M A2 k3 s3 n3 D4 k4 hl2 eu;refine ax λM hM=>?_;refine vI λA B hA hB=>?_;have ed:=pF (a:=dd) hu2;have er:=pF (a:=rp) hu2;exists au A4.tw.dl,ed,au A4.tw.rl,er;refine⟨p,dq,dd u,k u,dxk u,b u,rp u,_,rs2 u,rfl,A4.D,by lia,A4.tw.ds u hu2,A4.tw.rw u hu2,A4.tw.le u hu2,A4.tw.ok u hu2,A4.LF apt hu2,λG5 D5 k5=>⟨true,rfl,?_⟩⟩
  rw[M4 ⋯,hB]
  show M _ _;have A5:=A4.deck apt k5 D5;rw[hM];clear hM M hA hB A B A4 D5 k5;refine ax λM hM=>?_;exists au A5.tw.dl,ed;have hd5:=A5.tw.ds u hu2;obtain⟨dx5,o5⟩:=hd5.d;refine⟨dd u,dx5,_,rfl,o5,DB ∅,by decide,λl6 hl6=>?_⟩
  obtain⟨k6,s6⟩:=bS hl6 (.lst [.str (Str.ofString "rows"),.str (Str.ofString "bits"),.str (Str.ofString "places"),.str (Str.ofString "book")]);generalize upd G5 l6 _=G6 at *;have n6:=A5.D.new hl6;refine⟨p,dq,4,_,rfl,A5.D.kb k6,by lia,by decide,by decide,λv7 G7 hv7 D7 k7=>?_⟩
  have A7:=(A5.kb apt k6).deck apt k7 D7;obtain⟨z,ez,hz⟩:∃z,bQ [V.str (Str.ofString "rows"),.str (Str.ofString "bits"),.str (Str.ofString "places"),.str (Str.ofString "book")] (v7:Int)=some (.str z)/\(z="rows"\/z="bits"\/z="places"\/z="book"):=by
   rcases (show v7=0\/v7=1\/v7=2\/v7=3 by lia) with rfl|rfl|rfl|rfl
   ·exact⟨_,rfl,.inl rfl⟩
   ·exact⟨_,rfl,.inr (.inl rfl)⟩
   ·exact⟨_,rfl,.inr (.inr (.inl rfl))⟩
   ·exact⟨_,rfl,.inr (.inr (.inr rfl))⟩
  exists au (k7 _ _ s6 n6),ez;clear k6 s6 k7 D7 n6 hl6 A5 hd5 o5 ez;have told:∀(ws:List Str) l G8,G7 l=none->KB [] G7 G8->G8 l=some (.lst (sV ws))->M [some (.ref a),some (.ref p),some (.ref dl),some (.ref rl),some (.ref hp),some (.int kI),some (.int (u:Nat)),some (.ref l)] G8:=λws l G8 l0 k8 l8=>by
   rw[hM];clear hM M;have A8:=A7.kb apt k8;refine nV λM hM=>?_;obtain⟨ts,e1,e2,e3⟩:=A8.hd;nofun;refine⟨.inl ⟨rfl,_,aT.of e1⟩,l,sV ws,rfl,.inl (aT.of l8),λc9 hc9=>?_⟩;obtain⟨k9,s9⟩:=bS hc9 (.lst (sV ws));generalize upd G8 c9 _=G9 at *;refine⟨by decide,λt10 ht10=>?_⟩
   obtain⟨k10,s10⟩:=bS ht10 (.tup [.ref l,.ref c9]);generalize upd G9 t10 _=G10 at *;have k810:=k9.trans k10;have e1':=k810.n e1;refine⟨hp,_,_,rfl,rfl,e1',N3 (show _<=100 by rw[Ms];lia) ⋯,?_⟩
   rw[hM];have ks:KB [hp] G10 (upd G10 hp (.lst (ts.map V.ref++[V.ref t10]))):=KB.set (by simp)
   have A10:=A8.kb apt k810;have nl:=A7.new l0;have nc:=A8.new hc9;have nt:t10≠hp:=λz=>by
    rw[z,e1'] at s10;cases s10
   have ol:∀{u:Addr} {xs:List V},G10 u=some (.lst xs)->u∉[p,dq,rp 0,rp 1,hp]->upd G10 hp (.lst (ts.map V.ref++[V.ref t10])) u=some (.lst xs):=λ{u xs} e z=>ks _ _ e λy=>z (by rw[MH.mp y];simp)
   have ot:∀{u:Addr} {xs:List V},G10 u=some (.tup xs)->upd G10 hp (.lst (ts.map V.ref++[V.ref t10])) u=some (.tup xs):=λ{u xs} e=>ks _ _ e λy=>by rw[MH.mp y,e1'] at e;cases e
   have A11:=A10.told apt ks ⟨ts++[t10],by rw[aa,MI];rfl,by rw[Mx];exact Nat.succ_le_succ e2,λt ht=>by
    rcases N2.mp ht with ht|ht
    ·obtain⟨u',c',ws',f1,f2,f3,f4,f5⟩:=e3 t ht;exact⟨u',c',ws',ot (k810.n f1),ol (k810.n f2) f4,ol (k810.n f3) f5,f4,f5⟩
    ·rw[MH.mp ht];exact⟨l,c9,ws,ot s10,ol (k810.n l8) nl,ol (k10.n s9) nc,nl,nc⟩⟩
   exact⟨rs2,_,_,_,⟨A11.D.mono (by lia),A11.tw,A11.hd⟩,hj,rfl⟩
  refine⟨dd u,k u,dxk u,b u,i9,rs2 u,z,rfl,A7.tw.ds u hu2,eG,A7.tw.ok u hu2,A7.tw.le u hu2,?_⟩;rcases hz with rfl|rfl|rfl|rfl
  ·exact .inl ⟨rfl,told _⟩
  ·exact .inr (.inl ⟨rfl,told _⟩)
  ·exact .inr (.inr (.inl ⟨rfl,told _⟩))
  ·exact .inr (.inr (.inr (.inl ⟨rfl,told _⟩)))
 rintro σ G' ⟨rs',s5',s6,s7,A9,_,rfl⟩;show N _ _;rw[hN];clear hN N;obtain⟨ts,e1,e2,e3⟩:=A9.hd;exists au e1;refine qE (xs:=ts.map V.ref) (Mz (show _<=100 by rw[Ms];lia) ⋯) e1 (λx hx=>?_) λD G2 _ k2 g2=>?_
 ·obtain⟨t,ht,rfl⟩:=Nc.mp hx;obtain⟨u,c,ws,f1,f2,f3,_⟩:=e3 t ht;refine⟨t,_,_,rfl,f1,λH2 R k2 hR=>?_⟩;nofun;refine .inr ⟨u,c,sV ws,sV ws,rfl,rfl,.inl ⟨aT.of (k2.n f2),aT.of (k2.n f3)⟩,lg ws,lg ws,λb eb=>?_⟩;have eb':b=true:=eb.trans (xg ws);subst eb';exact⟨_,rfl,hR⟩
 ·refine⟨MG _,λp3 hp3=>?_⟩;obtain⟨k3,s3⟩:=bS hp3 (.lst []);generalize upd G2 p3 _=G3 at *;refine⟨D,p3,[],rfl,rfl,aT.of (k3.n g2),aT.of s3,?_⟩;exact q _
local macro_rules | `(tactic| walk_at "b1") => `(tactic| (intro _ _ _ _ _ _ us hl; obtain ⟨_, e⟩ := L2.Y.GS hl; subst e; rfl))
def LA{x:Str}{ps:List Str}{oc:Value}{kV pm ct:Value}(X:K.In h)(G:h.Ns mainGlobals mg)(a:W.nsIn K mainGlobals x=some (some (.ref f)))
  (l:K.lookup f=some ⟨oc,od,.func (W.fnOf x x (cH st) (bC st) (ab st) .none kV doc pm an cdv ct),osl⟩) (c:W.codeIn K cdv x=true) (k:W.keepIn K (.ref f)=true)
  (hb:∀(kV doc pm:Value) (an:Option Addr) (cdv ct:Value) (us:List Value),us.length=ps.length->bindArgs (W.fnOf x x (cH st) (bC st) (ab st) .none kV doc pm an cdv ct) ⟨us,[]⟩=pure (ps.zip us)):HasFn K mg x st ps:=
 ⟨f,_,mJ l c k,(mJ l c k).binds hb,NP X G a⟩
def Ma{x q:Str}{ps:List Str}{oc:Value}{kV pm ct:Value}(a:W.findIn K (.ref C) x=some (some (.ref f)))(b:W.isFn K (.ref f)=true)(k:W.keepIn K (.ref f)=true)
  (l:K.lookup f=some ⟨oc,od,.func (W.fnOf x q (cH st) (bC st) (ab st) .none kV doc pm an cdv ct),osl⟩) (c:W.codeIn K cdv q=true)
  (hb:∀(kV doc pm:Value) (an:Option Addr) (cdv ct:Value) (us:List Value),us.length=ps.length->bindArgs (W.fnOf x q (cH st) (bC st) (ab st) .none kV doc pm an cdv ct) ⟨us,[]⟩=pure (ps.zip us)):cX K C x q st ps:=
 ⟨f,_,⟨a,b,k⟩,mJ l c k,(mJ l c k).binds hb⟩
def Mn{q:Str}{ps:List Str}(h:cX K C "__init__" q st ps)(m:W.makesIn K C=true)(k:W.keepIn K (.ref C)=true):uD K C q st ps:=by
 obtain⟨f,fd,⟨a,b,c⟩,F,B⟩:=h;exact⟨f,fd,⟨m,a,b,k⟩,F,B⟩
set_option autoImplicit true in
def all_mk{l:W.OpenLaw}{w:World}{fa:Addr}(X:K.In h)(G:h.Ns mainGlobals mg)(hfa:mg "law"=some (.ref fa))
  (F0:HasFn K mg "goal_of" jP ["row"])
  (F1:HasFn K mg "with_goal" iu ["row","goal"])
  (F2:HasFn K mg "can_be" lU ["lengths"])
  (a3:W.nsIn K mainGlobals "by_worth"=some (some (.ref f3))) (l3:K.lookup f3=some ⟨oc3,od3,.func (W.fnOf "by_worth" "by_worth" (cH gh) (bC gh) (ab gh) .none kV3 dc3 pm3 an3 cd3 ct3),sl3⟩) (c3:W.codeIn K cd3 "by_worth"=true) (k3:W.keepIn K (.ref f3)=true)
  (a4:W.nsIn K mainGlobals "code_of"=some (some (.ref f4))) (l4:K.lookup f4=some ⟨oc4,od4,.func (W.fnOf "code_of" "code_of" (cH d8) (bC d8) (ab d8) .none kV4 dc4 pm4 an4 cd4 ct4),sl4⟩) (c4:W.codeIn K cd4 "code_of"=true) (k4:W.keepIn K (.ref f4)=true)
  (F5:HasFn K mg "word_behind" fC ["ahead","length"])
  (F6:HasFn K mg "least_widths" d_ ["sizes","goals"])
  (F7:HasFn K mg "raised_till_good" cS ["sizes","goals"])
  (F8:HasFn K mg "narrowest" fb ["goals"])
  (F9:HasFn K mg "first_too_narrow" cQ ["sizes","goals","widths"])
  (F10:HasFn K mg "fits" u7 ["starts","goals","widths","row"])
  (F11:HasFn K mg "distance_of" f9 ["starts","goals","row"])
  (F12:HasFn K mg "row_starts" gC ["sizes","widths"])
  (F13:HasFn K mg "own_part" iY ["width"])
  (F14:HasFn K mg "coded_things" eI ["row"])
  (F15:HasFn K mg "codes_of" fZ ["book"])
  (F16:HasFn K mg "pack_rows" cU ["program","book"])
  (F17:HasFn K mg "bits_ahead_of_goal" bG ["row","codes"])
  (F18:HasFn K mg "figures_behind_first" bV ["number"])
  (F19:HasFn K mg "jump_written" eB ["width","distance"])
  (F20:HasFn K mg "last_figures" dY ["number","many"])
  (F21:HasFn K mg "goals_moved" dC ["rows","first","by"])
  (F22:HasFn K mg "goal_moved" gw ["row","first","by"])
  (F23:HasFn K mg "run_rows" gA ["program","given","most"])
  (F24:HasFn K mg "row_shown" fk ["row"])
  (F25:HasFn K mg "read_row" gr ["line","greatest_goal"])
  (F26:HasFn K mg "read_part" ie ["kind","part","greatest_goal"])
  (F27:HasFn K mg "read_number" fG ["text","greatest"])
  (F28:HasFn K mg "is_number" fv ["text"])
  (F29:HasFn K mg "asked_place" fB ["text"])
  (F30:HasFn K mg "asked_number" ia ["text"])
  (F31:HasFn K mg "asked_figures" dJ ["text"])
  (F32:HasFn K mg "numbers_shown" cJ ["numbers"])
  (F33:HasFn K mg "_law_deck" fo ["script"])
  (F34:HasFn K mg "_law_mix" iX ["number","turn"])
  (F35:HasFn K mg "_law_draw" hZ ["deck","most"])
  (F36:HasFn K mg "_law_words" gN [])
  (F37:HasFn K mg "_law_bits" ik ["number","many"])
  (F38:HasFn K mg "_law_code" fw ["lengths"])
  (F39:HasFn K mg "_law_number" fA ["deck"])
  (F40:HasFn K mg "_law_row" iP ["deck","goals"])
  (F41:HasFn K mg "_law_goals" dU ["program"])
  (F42:HasFn K mg "_law_plain" gz ["row","codes"])
  (F43:HasFn K mg "_law_spots" gE ["sizes","goals","widths"])
  (F44:HasFn K mg "_law_least" fX ["sizes","goals","widths"])
  (F45:HasFn K mg "_law_packed" bZ ["program","book","widths"])
  (F46:HasFn K mg "_law_line" fu ["row"])
  (F47:HasFn K mg "_law_spaced" dB ["numbers"])
  (F48:HasFn K mg "_law_are_texts" cx ["found"])
  (F49:HasFn K mg "_law_asked" gJ ["desk","line","due"])
  (F50:HasFn K mg "_law_moved" gj ["row","place","by"])
  (F51:HasFn K mg "_law_put" ja ["deck","desk","rows"])
  (F52:HasFn K mg "_law_deed" iw ["deck","desk","rows"])
  (F53:HasFn K mg "_law_right" de ["deck","desk","rows"])
  (a54:W.nsIn K mainGlobals "law"=some (some (.ref f54))) (l54:K.lookup f54=some ⟨oc54,od54,.func (W.fnOf "law" "law" (cH iD) (bC iD) (ab iD) .none kV54 dc54 pm54 an54 cd54 ct54),sl54⟩) (c54:W.codeIn K cd54 "law"=true) (k54:W.keepIn K (.ref f54)=true)
  (z0:W.nsIn K mainGlobals "abs"=some none)
  (z1:W.nsIn K mainGlobals "all"=some none)
  (z2:W.nsIn K mainGlobals "dict"=some none)
  (z3:W.nsIn K mainGlobals "enumerate"=some none)
  (z4:W.nsIn K mainGlobals "int"=some none)
  (z5:W.nsIn K mainGlobals "isinstance"=some none)
  (z6:W.nsIn K mainGlobals "len"=some none)
  (z7:W.nsIn K mainGlobals "list"=some none)
  (z8:W.nsIn K mainGlobals "min"=some none)
  (z9:W.nsIn K mainGlobals "range"=some none)
  (z10:W.nsIn K mainGlobals "sorted"=some none)
  (z11:W.nsIn K mainGlobals "str"=some none)
  (z12:W.nsIn K mainGlobals "sum"=some none)
  (z13:W.nsIn K mainGlobals "tuple"=some none)
  (z14:W.nsIn K mainGlobals "zip"=some none)
  (g0:W.nsIn K mainGlobals "BOXES"=some (some (.ref q0))) (m0:K.lookup q0=some ⟨.type "tuple",none,.seq #[.str "a" w0_0,.str "b" w0_1,.str "c" w0_2,.str "d" w0_3,.str "e" w0_4,.str "f" w0_5,.str "g" w0_6,.str "h" w0_7] qn0,qs0⟩)
  (g1:W.nsIn K mainGlobals "EQUAL_LENGTHS"=some (some (.ref q1))) (m1:K.lookup q1=some ⟨.type "tuple",qd1,.seq #[.int 4 w1_0,.int 5 w1_1,.int 3 w1_2] qn1,qs1⟩)
  (g2:W.nsIn K mainGlobals "FIGURES"=some (some (.str "0123456789" w2_0)))
  (g3:W.nsIn K mainGlobals "HALVES"=some (some (.ref q3))) (m3:K.lookup q3=some ⟨.type "tuple",qd3,.seq #[.int 8 w3_0,.int 128 w3_1,.int 32768 w3_2] qn3,qs3⟩)
  (g4:W.nsIn K mainGlobals "HEADS"=some (some (.ref q4))) (m4:K.lookup q4=some ⟨.type "tuple",qd4,.seq #[.str "0" w4_0,.str "10" w4_1,.str "11" w4_2] qn4,qs4⟩)
  (g5:W.nsIn K mainGlobals "HOW_MANY"=some (some (.ref q5))) (m5:K.lookup q5=some ⟨.type "tuple",qd5,.seq #[.int 9 w5_0,.int 17 w5_1,.int 8 w5_2] qn5,qs5⟩)
  (g6:W.nsIn K mainGlobals "LONGEST"=some (some (.int 12 w6_0)))
  (g7:W.nsIn K mainGlobals "MOST_CARRIED_OUT"=some (some (.int 400 w7_0)))
  (g8:W.nsIn K mainGlobals "MOST_ROWS"=some (some (.int 60 w8_0)))
  (g9:W.nsIn K mainGlobals "OF_BOXES"=some (some (.int 2 w9_0)))
  (g10:W.nsIn K mainGlobals "OF_CLASSES"=some (some (.int 1 w10_0)))
  (g11:W.nsIn K mainGlobals "OF_WORDS"=some (some (.int 0 w11_0)))
  (g12:W.nsIn K mainGlobals "WHOLE"=some (some (.int 65536 w12_0)))
  (g13:W.nsIn K mainGlobals "WIDEST"=some (some (.int 2 w13_0)))
  (g14:W.nsIn K mainGlobals "WIDTHS"=some (some (.ref q14))) (m14:K.lookup q14=some ⟨.type "tuple",qd14,.seq #[.int 4 al0,.int 8 ak9,.int 16 ak8] qn14,qs14⟩)
  (dg0:W.nsIn K mainGlobals "SHAPES"=some (some (.ref dd0))) (dz0:(dd0 == sysModules)=false) (dl0:K.lookup dd0=some ⟨.type "dict",none,.dict #[⟨dh0_0,.str "put" dt0_0,.ref ak6⟩,⟨dh0_1,.str "add" dt0_1,.ref ak5⟩,⟨dh0_2,.str "sub" dt0_2,.ref ak4⟩,⟨dh0_3,.str "copy" dt0_3,.ref ak3⟩,⟨dh0_4,.str "tell" dt0_4,.ref ak2⟩,⟨dh0_5,.str "hear" dt0_5,.ref ak1⟩,⟨dh0_6,.str "jump" dt0_6,.ref ak0⟩,⟨dh0_7,.str "zero" dt0_7,.ref aj9⟩,⟨dh0_8,.str "halt" dt0_8,.ref aj8⟩] dh0_ep,#[]⟩)
  (dm0_0:K.lookup ak6=some ⟨.type "tuple",do0_0,.seq #[.str "box" aj5,.str "number" aj4] dn0_0,ds0_0⟩)
  (dm0_1:K.lookup ak5=some ⟨.type "tuple",do0_1,.seq #[.str "box" aj3,.str "box" aj2] dn0_1,ds0_1⟩)
  (dm0_2:K.lookup ak4=some ⟨.type "tuple",do0_2,.seq #[.str "box" aj1,.str "box" aj0] dn0_2,ds0_2⟩)
  (dm0_3:K.lookup ak3=some ⟨.type "tuple",do0_3,.seq #[.str "box" ai9,.str "box" ai8] dn0_3,ds0_3⟩)
  (dm0_4:K.lookup ak2=some ⟨.type "tuple",do0_4,.seq #[.str "box" ai7] dn0_4,ds0_4⟩)
  (dm0_5:K.lookup ak1=some ⟨.type "tuple",do0_5,.seq #[.str "box" ai6] dn0_5,ds0_5⟩)
  (dm0_6:K.lookup ak0=some ⟨.type "tuple",do0_6,.seq #[.str "goal" ai5] dn0_6,ds0_6⟩)
  (dm0_7:K.lookup aj9=some ⟨.type "tuple",do0_7,.seq #[.str "box" ai4,.str "goal" ai3] dn0_7,ds0_7⟩)
  (dm0_8:K.lookup aj8=some ⟨.type "tuple",do0_8,.seq #[] dn0_8,ds0_8⟩)
  (q0z0:W.nsIn K mainGlobals "Machine"=some (some (.ref q0C)))
  (q0z1:W.plainGet K q0C Str.empty=true)
  (q0z2:W.hasDictIn K q0C=true)
  (q0z3:W.plainOver K q0C=true)
  (q0z4:W.findIn K (.ref q0C) "__setattr__"=some (some (.builtin "object.__setattr__")))
  (q0z5:W.findIn K (.ref q0C) "given"=some none)
  (q0z6:W.findIn K (.ref q0C) "heard"=some none)
  (q0z7:W.findIn K (.ref q0C) "told"=some none)
  (q0z8:W.findIn K (.ref q0C) "boxes"=some none)
  (q0M0:uD K q0C "Machine.__init__" b9 ["self","given"])
  (q0M1:cX K q0C "place_next" "Machine.place_next" cm ["self","row","behind","end"])
  (q0M2:cX K q0C "told_numbers" "Machine.told_numbers" b7 ["self"])
  (q0M3:cX K q0C "box_numbers" "Machine.box_numbers" a_ ["self"])
  (q1z0:W.nsIn K mainGlobals "Kept"=some (some (.ref q1C)))
  (q1z1:W.plainGet K q1C Str.empty=true)
  (q1z2:W.hasDictIn K q1C=true)
  (q1z3:W.plainOver K q1C=true)
  (q1z4:W.findIn K (.ref q1C) "__setattr__"=some (some (.builtin "object.__setattr__")))
  (q1z5:W.findIn K (.ref q1C) "book"=some none)
  (q1z6:W.findIn K (.ref q1C) "rows"=some none)
  (q1M0:uD K q1C "Kept.__init__" cL ["self","book"])
  (q1M1:cX K q1C "put_in" "Kept.put_in" dE ["self","place","row"])
  (q1M2:cX K q1C "take_out" "Kept.take_out" cG ["self","place"])
  (q1M3:cX K q1C "program" "Kept.program" cZ ["self"])
  (q1M4:cX K q1C "bits" "Kept.bits" fe ["self"])
  (q1M5:cX K q1C "places" "Kept.places" dD ["self"])
  (q2z0:W.nsIn K mainGlobals "Desk"=some (some (.ref q2C)))
  (q2z1:W.plainGet K q2C Str.empty=true)
  (q2z2:W.hasDictIn K q2C=true)
  (q2z3:W.plainOver K q2C=true)
  (q2z4:W.findIn K (.ref q2C) "__setattr__"=some (some (.builtin "object.__setattr__")))
  (q2z5:W.findIn K (.ref q2C) "kept"=some none)
  (q2M0:uD K q2C "Desk.__init__" bX ["self"])
  (q2M1:cX K q2C "ask" "Desk.ask" d9 ["self","line"])
  (q2M2:cX K q2C "change" "Desk.change" bY ["self","word","parts"])
  (q2M3:cX K q2C "put_row" "Desk.put_row" dc ["self","parts"])
  (q2M4:cX K q2C "take_row" "Desk.take_row" cO ["self","parts"])
  (q2M5:cX K q2C "run_shown" "Desk.run_shown" bO ["self","parts"])
  (q2M6:cX K q2C "asked_run" "Desk.asked_run" bP ["self","parts"])
  (le_by_worth:cd3=.ref S3) (lk_by_worth:K.lookup S3=some ⟨Y2,Y3,.fields S2,Y1⟩) (lw_by_worth:S2[11]?=some (.ref U0))
  (le_code_of:cd4=.ref T0) (lk_code_of:K.lookup T0=some ⟨Z5,Z6,.fields S9,Z4⟩) (lw_code_of:S9[11]?=some (.ref V3))
  : ∃fd:FuncData,(∀(s:Shared) (v:Value),BindsTo s fd ⟨[v],[]⟩ [("script",v)])/\∀base:Heap,K.In base->base.Ns mainGlobals mg->aZ l.prog w K mg base aF 30 fa fd ["script"] (rL K):=by
 have e:=hfa.symm.trans (NP X G a54);cases e
 have T:Txt K mg:=⟨NA X G z0,NA X G z1,NA X G z2,NA X G z3,NA X G z4,NA X G z5,NA X G z6,NA X G z7,NA X G z8,NA X G z9,NA X G z10,NA X G z11,NA X G z12,NA X G z13,NA X G z14,⟨q0,NP X G g0,λH=>.inr ⟨_,_,_,m0,rfl,rfl,(by show 8<=sizeLine;decide),(.cons ⟨w0_0,rfl⟩ (.cons ⟨w0_1,rfl⟩ (.cons ⟨w0_2,rfl⟩ (.cons ⟨w0_3,rfl⟩ (.cons ⟨w0_4,rfl⟩ (.cons ⟨w0_5,rfl⟩ (.cons ⟨w0_6,rfl⟩ (.cons ⟨w0_7,rfl⟩ .nil))))))))⟩⟩,⟨q1,NP X G g1,λH=>.inr ⟨_,_,_,m1,rfl,rfl,(by show 3<=sizeLine;decide),(.cons ⟨w1_0,rfl⟩ (.cons ⟨w1_1,rfl⟩ (.cons ⟨w1_2,rfl⟩ .nil)))⟩⟩,⟨_,NP X G g2,⟨_,rfl⟩⟩,⟨q3,NP X G g3,λH=>.inr ⟨_,_,_,m3,rfl,rfl,(by show 3<=sizeLine;decide),(.cons ⟨w3_0,rfl⟩ (.cons ⟨w3_1,rfl⟩ (.cons ⟨w3_2,rfl⟩ .nil)))⟩⟩,⟨q4,NP X G g4,λH=>.inr ⟨_,_,_,m4,rfl,rfl,(by show 3<=sizeLine;decide),(.cons ⟨w4_0,rfl⟩ (.cons ⟨w4_1,rfl⟩ (.cons ⟨w4_2,rfl⟩ .nil)))⟩⟩,⟨q5,NP X G g5,λH=>.inr ⟨_,_,_,m5,rfl,rfl,(by show 3<=sizeLine;decide),(.cons ⟨w5_0,rfl⟩ (.cons ⟨w5_1,rfl⟩ (.cons ⟨w5_2,rfl⟩ .nil)))⟩⟩,⟨_,NP X G g6,⟨_,rfl⟩⟩,⟨_,NP X G g7,⟨_,rfl⟩⟩,⟨_,NP X G g8,⟨_,rfl⟩⟩,⟨_,NP X G g9,⟨_,rfl⟩⟩,⟨_,NP X G g10,⟨_,rfl⟩⟩,⟨_,NP X G g11,⟨_,rfl⟩⟩,⟨_,NP X G g12,⟨_,rfl⟩⟩,⟨_,NP X G g13,⟨_,rfl⟩⟩,⟨q14,NP X G g14,λH=>.inr ⟨_,_,_,m14,rfl,rfl,(by show 3<=sizeLine;decide),(.cons ⟨al0,rfl⟩ (.cons ⟨ak9,rfl⟩ (.cons ⟨ak8,rfl⟩ .nil)))⟩⟩,⟨q0,_,NP X G g0,m0,rfl⟩,⟨dd0,NP X G dg0,dz0,_,_,_,dl0,⟨rfl,rfl,rfl⟩,rfl,(.cons rfl ⟨ak6,rfl,⟨_,_,_,dm0_0,rfl,rfl,(by show 2<=sizeLine;decide),(.cons ⟨aj5,rfl⟩ (.cons ⟨aj4,rfl⟩ .nil))⟩⟩ (.cons rfl ⟨ak5,rfl,⟨_,_,_,dm0_1,rfl,rfl,(by show 2<=sizeLine;decide),(.cons ⟨aj3,rfl⟩ (.cons ⟨aj2,rfl⟩ .nil))⟩⟩ (.cons rfl ⟨ak4,rfl,⟨_,_,_,dm0_2,rfl,rfl,(by show 2<=sizeLine;decide),(.cons ⟨aj1,rfl⟩ (.cons ⟨aj0,rfl⟩ .nil))⟩⟩ (.cons rfl ⟨ak3,rfl,⟨_,_,_,dm0_3,rfl,rfl,(by show 2<=sizeLine;decide),(.cons ⟨ai9,rfl⟩ (.cons ⟨ai8,rfl⟩ .nil))⟩⟩ (.cons rfl ⟨ak2,rfl,⟨_,_,_,dm0_4,rfl,rfl,(by show 1<=sizeLine;decide),(.cons ⟨ai7,rfl⟩ .nil)⟩⟩ (.cons rfl ⟨ak1,rfl,⟨_,_,_,dm0_5,rfl,rfl,(by show 1<=sizeLine;decide),(.cons ⟨ai6,rfl⟩ .nil)⟩⟩ (.cons rfl ⟨ak0,rfl,⟨_,_,_,dm0_6,rfl,rfl,(by show 1<=sizeLine;decide),(.cons ⟨ai5,rfl⟩ .nil)⟩⟩ (.cons rfl ⟨aj9,rfl,⟨_,_,_,dm0_7,rfl,rfl,(by show 2<=sizeLine;decide),(.cons ⟨ai4,rfl⟩ (.cons ⟨ai3,rfl⟩ .nil))⟩⟩ (.cons rfl ⟨aj8,rfl,⟨_,_,_,dm0_8,rfl,rfl,(by show 0<=sizeLine;decide),.nil⟩⟩ .nil)))))))))⟩,⟨q0C,NP X G q0z0,⟨q0z1,q0z2,q0z3,q0z4⟩,q0z5,q0z6,q0z7,q0z8,q0M0,q0M1,q0M2,q0M3⟩,⟨q1C,NP X G q1z0,⟨q1z1,q1z2,q1z3,q1z4⟩,q1z5,q1z6,q1M0,q1M1,q1M2,q1M3,q1M4,q1M5⟩,⟨q2C,NP X G q2z0,⟨q2z1,q2z2,q2z3,q2z4⟩,q2z5,q2M0,q2M1,q2M2,q2M3,q2M4,q2M5,q2M6⟩,oJ.mk' X G (jg a3 l3 le_by_worth lk_by_worth lw_by_worth),oJ.mk' X G (jg a4 l4 le_code_of lk_code_of lw_code_of)⟩
 have F3:HasFn K mg "by_worth" gh ["shelf"]:=LA X G a3 l3 c3 k3 (by walk_at "b1")
 have F4:HasFn K mg "code_of" d8 ["lengths"]:=LA X G a4 l4 c4 k4 (by walk_at "b1")
 refine⟨W.fnOf "law" "law" (cH iD) (bC iD) (ab iD) .none kV54 dc54 pm54 an54 cd54 ct54,λs v=>.of_eq rfl,λbase _ _=>(show aZ l.prog w K mg base aF 14 _ _ ["script"] (rL K) from ?_).mono ⋯⟩
 have dr:=CY (P:=l.prog) (w:=w) (base:=base) T F35 (Gv F34);have lr:=HK (P:=l.prog) (w:=w) (base:=base) T F40 dr (yy T F39 dr);have cs:=Ac T F15 (CS (P:=l.prog) (w:=w) (base:=base) T F4 (Hg T F2) (yM T F5));have go:=Ak (P:=l.prog) (w:=w) (base:=base) T F0;have fg:=HU (P:=l.prog) (w:=w) (base:=base) T F20;have st:=ya (P:=l.prog) (w:=w) (base:=base) T F12 (IK T F13);have di:=Em (P:=l.prog) (w:=w) (base:=base) T F11;have pk:=Dx T F16 cs (zL T F17 (y6 T F14) (tW T F18 fg)) go (x_ T F6 (xW T F7 (yR T F8) (An T F9 st (Ep T F10 di)))) st (zU T F19 fg) di;have mv:=zP T F21 (yQ T F22 go (Fo T F1));have isn:=Au (P:=l.prog) (w:=w) (base:=base) T F28;have rn:=zh (P:=l.prog) (w:=w) (base:=base) T F27 isn;have rr:=zc (P:=l.prog) (w:=w) (base:=base) T F25 (xN T F26 rn);have fi:=Dp (P:=l.prog) (w:=w) (base:=base) T F31 isn;have ap:=E7 (P:=l.prog) (w:=w) (base:=base) T F29 fi;have run:=Dj (P:=l.prog) (w:=w) (base:=base) T F23;obtain⟨CK,hCK,f_ki,d_ki,al1,al4,al5,M⟩:∃CK,mg "Kept"=some (.ref CK)/\∃f_i d_i,Mk K CK f_i/\aZ _ _ K mg base aF 1 f_i d_i ["self","book"] (pB CK)/\Binds K d_i ["self","book"] []/\KM _ _ K mg base CK:=by
  obtain⟨C_Kept,ab8,cM,cc,v4,⟨V7,V8,v6,wS,f8⟩,⟨f_put_in,d_put_in,W5,ah5,X5⟩,⟨f_take_out,d_take_out,T9,ae4,U7⟩,⟨f_program,d_program,wE,ag0,sK⟩,⟨f_bits,d_bits,ab4,aj7,ac1⟩,⟨f_places,d_places,W6,ah6,X6⟩⟩:=T.L_;exact⟨C_Kept,ab8,V7,V8,v6,Bv T cM cc v4 wS,f8,cM,cc,⟨_,_,W5,Fi T cM v4 go mv ah5,X5⟩,⟨_,_,T9,Ai T cM v4 mv ae4,U7⟩,⟨_,_,wE,z_ T cM v4 ag0,sK⟩,⟨_,_,ab4,By T cM cc v4 pk aj7,ac1⟩,⟨_,_,W6,uX T cM cc v4 pk ah6,X6⟩⟩
 obtain⟨C_Desk,Y9,cM,u5,⟨V7,V8,v6,wS,f8⟩,⟨f_ask,d_ask,W8,ak7,X8⟩,⟨f_change,d_change,W7,ah7,X7⟩,⟨f_put_row,d_put_row,V2,af9,V9⟩,⟨f_take_row,d_take_row,T8,ae3,U6⟩,⟨f_run_shown,d_run_shown,S7,ac4,T5⟩,⟨f_asked_run,d_asked_run,S8,ac5,T6⟩⟩:=T.Mf;have pr:=xV (P:=l.prog) (w:=w) (base:=base) T M cM u5 ap rr af9;have tr:=vp (P:=l.prog) (w:=w) (base:=base) T M cM u5 ap ae3;have ar:=CP (P:=l.prog) (w:=w) (base:=base) T M cM u5 rn (F30.dH kL (λvs H Q E h=>h.elim) (λf cdv A outer s H vs Q E hr h=>h.elim)) run ac5;have rs:=DL (P:=l.prog) (w:=w) (base:=base) T cM S8 ar T6 ac4;have ch:=Hf (P:=l.prog) (w:=w) (base:=base) T cM V2 pr V9 T8 tr U6 ah7;have ak:=Ib (P:=l.prog) (w:=w) (base:=base) T M cM u5 (CC T F24) (Ff T F32) S7 rs T5 W7 ch X7 ak7;have la:=Dm (P:=l.prog) (w:=w) (base:=base) T F49 cM W8 ak X8 (AY T F48);have li:=Dk (P:=l.prog) (w:=w) (base:=base) T F46;have lp:=Ea (P:=l.prog) (w:=w) (base:=base) T F51 dr lr (oY T F50) li la;have lb:=Bz (P:=l.prog) (w:=w) (base:=base) T F37;have ls:=CA (P:=l.prog) (w:=w) (base:=base) T F43;have lk:=yg (P:=l.prog) (w:=w) (base:=base) T F45 (A6 T F38 lb) (BD T F42 (xH F36) lb) (zG T F41) (Ck T F44 ls) ls lb;exact Hm T (mJ (st:=iD) l54 c54 k54) Y9 cM v6 (Ad T cM u5 hCK al1 al4 al5 wS) f8 W8 ak X8 (CQ T F33) dr lp (Am T F52 dr (oY T F50) lp la) (xS T F53 dr li (xI T F47) lk la)
def walk{l:W.OpenLaw}{q:Program}{loose:List Str}{XP:(Str->Option Value)->Heap->Prop}{YP:World->Heap->Prop}{d:DefRec}{K:Params->W.Frag}(hn:l.most=some 63)(hdf:d.params.defaults=[])
  (hY:∀(w:World) (h:Heap),YP w h->(K w.params).In h)
  (F:∀(w:World) (mg:Str->Option Value) (fa:Addr) (h:Heap),(K w.params).In h->h.Ns mainGlobals mg->mg d.name=some (.ref fa)->∃fd:FuncData,(∀(s:Shared) (u:Value),BindsTo s fd ⟨[u],[]⟩ [("script",u)])/\∀base:Heap,(K w.params).In base->base.Ns mainGlobals mg->aZ l.prog w (K w.params) mg base aF 30 fa fd ["script"] (rL (K w.params))) (hL:∀(w:World) (h:Heap),(K w.params).In h->jz q (K w.params)) :
  W.WalkO q loose XP YP l.row.toRowW d [] (λf vs=>PySem.call f vs):=
 L2.Ee (n:=63) (k:=30) (x:="script") (CX:=λ_=>aF) (sp:=λw=>rL (K w.params)) hn ⋯ hdf ⟨rfl,by decide,by decide,rfl⟩ hY F (λ_ _ a ns hl _ hS=>⟨a,ns,rfl,hS,hl,λ_=>rfl⟩) (λ_ _ _ _ _ z=>z) hL
def Iz{q:Program}(_:K.In h){Y0 S3 U0:Addr}{ac7 Y2:Value}{ac8 Y3:Option Addr}{W0:FuncData}{S2:Array Value}{ac6 Y1:Array (Option Value)}{Z3 T0 V3:Addr}{ae6 Z5:Value}{ae7 Z6:Option Addr}{X9:FuncData}{S9:Array Value}{ae5 Z4:Array (Option Value)}(nt:W.noTabs K=true)
  (ma_by_worth:W.nsIn K mainGlobals "by_worth"=some (some (.ref Y0))) (ml_by_worth:K.lookup Y0=some ⟨ac7,ac8,.func W0,ac6⟩) (mc_by_worth:W0.code=.ref S3) (mk_by_worth:K.lookup S3=some ⟨Y2,Y3,.fields S2,Y1⟩) (mw_by_worth:S2[11]?=some (.ref U0)) (mr_by_worth:((recsOf q).find? (λe=>e.name ==("by_worth":Str))).isSome=true)
  (ma_by_weight:W.nsIn K mainGlobals "by_weight"=some none)
  (ma_code_of:W.nsIn K mainGlobals "code_of"=some (some (.ref Z3))) (ml_code_of:K.lookup Z3=some ⟨ae6,ae7,.func X9,ae5⟩) (mc_code_of:X9.code=.ref T0) (mk_code_of:K.lookup T0=some ⟨Z5,Z6,.fields S9,Z4⟩) (mw_code_of:S9[11]?=some (.ref V3)) (mr_code_of:((recsOf q).find? (λe=>e.name ==("code_of":Str))).isSome=true)
  (mn:[U0,V3].Nodup)
  : jz q K:=jz.of nt (jg ma_by_worth ml_by_worth mc_by_worth mk_by_worth mw_by_worth) (tP ma_by_weight) (jg ma_code_of ml_code_of mc_code_of mk_code_of mw_code_of) (by first|exact mn|simp) (.inr mr_by_worth) (.inl rfl) (.inr mr_code_of)
end
end G
open PySem PySem.W PyProof.Rows
local macro_rules | `(tactic| walk_at "b") => `(tactic| (intro _ _ _ _ _ _ us hl; first | (obtain ⟨_, e⟩ := L2.Y.GS hl; subst e; rfl) | (obtain ⟨_, _, e⟩ := L2.Y.Kk hl; subst e; rfl) | (obtain ⟨_, _, _, e⟩ := L2.Y.yN hl; subst e; rfl) | (obtain ⟨_, _, _, _, e⟩ := L2.Y.Ln hl; subst e; rfl) | (match us, hl with | [], _ => rfl)))
local macro_rules | `(tactic| walk_at "f") => `(tactic| (refine' G.LA ‹_› ‹_› ?a ?l ?c ?k ?b; (case a|l|c|k => k_is); case b => walk_at "b"))
local macro_rules | `(tactic| walk_at "m") => `(tactic| (refine' G.Ma ?a ?b ?k ?l ?c ?d; (case a|b|k|l|c => k_is); case d => walk_at "b"))
local macro_rules | `(tactic| walk_at "h") => `(tactic| (refine' G.Mn ?a ?m ?k; (case a => walk_at "m"); (case m|k => k_is)))
set_option maxRecDepth 100000 in
set_option maxHeartbeats 0 in
theorem PySem.Challenge.cw_shortrows_k42_desk_rows_holds : PySem.Challenge.rw_shortrows_k42_desk_rows.Holds := by
 w_on;o_law;k_head;(case hw=>w_witness2)
 k_fill
 refine G.walk (l:=PySem.Challenge.rw_shortrows_k42_desk_rows) rfl rfl (λw h Y=>by first|exact W.kIn_of Y|exact W.km_in_of Y) ?F ?L
 case F =>
  intro w mg fa h KX GN hmg
  refine' G.all_mk KX GN hmg ?F0 ?F1 ?F2 ?a3 ?l3 ?c3 ?k3 ?a4 ?l4 ?c4 ?k4 ?F5 ?F6 ?F7 ?F8 ?F9 ?F10 ?F11 ?F12 ?F13 ?F14 ?F15 ?F16 ?F17 ?F18 ?F19 ?F20 ?F21 ?F22 ?F23 ?F24 ?F25 ?F26 ?F27 ?F28 ?F29 ?F30 ?F31 ?F32 ?F33 ?F34 ?F35 ?F36 ?F37 ?F38 ?F39 ?F40 ?F41 ?F42 ?F43 ?F44 ?F45 ?F46 ?F47 ?F48 ?F49 ?F50 ?F51 ?F52 ?F53 ?a54 ?l54 ?c54 ?k54 ?z0 ?z1 ?z2 ?z3 ?z4 ?z5 ?z6 ?z7 ?z8 ?z9 ?z10 ?z11 ?z12 ?z13 ?z14 ?gq0 ?mq0 ?gq1 ?mq1 ?gq2 ?gq3 ?mq3 ?gq4 ?mq4 ?gq5 ?mq5 ?gq6 ?gq7 ?gq8 ?gq9 ?gq10 ?gq11 ?gq12 ?gq13 ?gq14 ?mq14 ?dg0 ?dz0 ?dl0 ?dm0_0 ?dm0_1 ?dm0_2 ?dm0_3 ?dm0_4 ?dm0_5 ?dm0_6 ?dm0_7 ?dm0_8 ?gq0z0 ?gq0z1 ?gq0z2 ?gq0z3 ?gq0z4 ?gq0z5 ?gq0z6 ?gq0z7 ?gq0z8 ?gq0M0 ?gq0M1 ?gq0M2 ?gq0M3 ?gq1z0 ?gq1z1 ?gq1z2 ?gq1z3 ?gq1z4 ?gq1z5 ?gq1z6 ?gq1M0 ?gq1M1 ?gq1M2 ?gq1M3 ?gq1M4 ?gq1M5 ?gq2z0 ?gq2z1 ?gq2z2 ?gq2z3 ?gq2z4 ?gq2z5 ?gq2M0 ?gq2M1 ?gq2M2 ?gq2M3 ?gq2M4 ?gq2M5 ?gq2M6 ?le_by_worth ?lk_by_worth ?lw_by_worth ?le_code_of ?lk_code_of ?lw_code_of
  (case F0|F1|F2|F5|F6|F7|F8|F9|F10|F11|F12|F13|F14|F15|F16|F17|F18|F19|F20|F21|F22|F23|F24|F25|F26|F27|F28|F29|F30|F31|F32|F33|F34|F35|F36|F37|F38|F39|F40|F41|F42|F43|F44|F45|F46|F47|F48|F49|F50|F51|F52|F53=>walk_at "f")
  (case a3|l3|c3|k3|a4|l4|c4|k4|a54|l54|c54|k54|z0|z1|z2|z3|z4|z5|z6|z7|z8|z9|z10|z11|z12|z13|z14|gq0|mq0|gq1|mq1|gq2|gq3|mq3|gq4|mq4|gq5|mq5|gq6|gq7|gq8|gq9|gq10|gq11|gq12|gq13|gq14|mq14|dg0|dl0|dm0_0|dm0_1|dm0_2|dm0_3|dm0_4|dm0_5|dm0_6|dm0_7|dm0_8=>k_is)
  (case dz0=>rfl)
  (case gq0z0|gq0z1|gq0z2|gq0z3|gq0z4|gq0z5|gq0z6|gq0z7|gq0z8=>k_is)
  (case gq0M1|gq0M2|gq0M3=>walk_at "m")
  (case gq0M0=>walk_at "h")
  (case gq1z0|gq1z1|gq1z2|gq1z3|gq1z4|gq1z5|gq1z6=>k_is)
  (case gq1M1|gq1M2|gq1M3|gq1M4|gq1M5=>walk_at "m")
  (case gq1M0=>walk_at "h")
  (case gq2z0|gq2z1|gq2z2|gq2z3|gq2z4|gq2z5=>k_is)
  (case gq2M1|gq2M2|gq2M3|gq2M4|gq2M5|gq2M6=>walk_at "m")
  (case gq2M0=>walk_at "h")
  (case le_by_worth=>exact rfl)
  (case lk_by_worth=>k_is)
  (case lw_by_worth|le_code_of=>exact rfl)
  (case lk_code_of=>k_is)
  (case lw_code_of=>exact rfl)
 case L =>
  intro w h KX
  refine' G.Iz KX (by kernel_rfl) ?ma_by_worth ?ml_by_worth ?mc_by_worth ?mk_by_worth ?mw_by_worth ?mr_by_worth ?ma_by_weight ?ma_code_of ?ml_code_of ?mc_code_of ?mk_code_of ?mw_code_of ?mr_code_of ?mn
  (case ma_by_worth|ml_by_worth=>k_is)
  (case mc_by_worth=>exact rfl)
  (case mk_by_worth=>k_is)
  (case mw_by_worth=>exact rfl)
  (case mr_by_worth=>exact rfl)
  (case ma_by_weight|ma_code_of|ml_code_of=>k_is)
  (case mc_code_of=>exact rfl)
  (case mk_code_of=>k_is)
  (case mw_code_of=>exact rfl)
  (case mr_code_of=>exact rfl)
  (case mn=>decide)
end
