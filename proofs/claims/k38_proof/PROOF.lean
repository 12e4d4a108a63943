import PyProof.Rows.All
import Wide.All
import OpenK.AllK
import Wide.FinOn
import Lean
import PyProof.EqAt
import PyProof.EqKinds
import PyProof.TupleCall
import KE.KSortKey
import KE.KLam
import PySem.Challenge.RW_shortrows_k38_kept_rows
namespace PySem.W.Fast
noncomputable def tw10534097693100973380:=0
noncomputable def tw14444412082299933713:=0
noncomputable def tw1147855063629413614:=0
noncomputable def tw2147886936834664349:=0
noncomputable def tw6538358638919342230:=0
noncomputable def tw12446453785774034331:=0
noncomputable def tw18014654300021926674:=0
noncomputable def tw18362147305762938587:=0
noncomputable def tw14907014557993720034:=0
noncomputable def tw9735700191536541776:=0
noncomputable def tw7710934264599205433:=0
noncomputable def tw16517568189864524008:=0
noncomputable def tw11581658700468511031:=0
noncomputable def tw2109135074527843922:=0
noncomputable def tw14085460235630353336:=0
noncomputable def tw3301163994098521889:=0
noncomputable def tw2694839791308001863:=0
noncomputable def tw11712450662639677264:=0
noncomputable def tw9009658220350623044:=0
noncomputable def tw14660775218765458138:=0
noncomputable def tw7836327605084000366:=0
noncomputable def tw2945826902133999482:=0
noncomputable def tw3456735073064211271:=0
noncomputable def tw3723113062572099568:=0
noncomputable def tw2840171631416796720:=0
noncomputable def tw12577562340142698678:=0
noncomputable def tw8327775450388935961:=0
noncomputable def tw7240632278553375520:=0
noncomputable def tw11727473661014420062:=0
noncomputable def tw16667682669153868398:=0
noncomputable def tw1826345141010927533:=0
noncomputable def tw6525477723539720509:=0
noncomputable def tw7373355806953013434:=0
noncomputable def tw12790962477320963809:=0
noncomputable def tw166119373610041510:=0
noncomputable def tw15249985108742610922:=0
noncomputable def tw7985811842702832289:=0
noncomputable def tw14379816548897117372:=0
noncomputable def tw807527500949261813:=0
noncomputable def tw5167650557719154687:=0
noncomputable def tw1449712444677590853:=0
noncomputable def tw1203813886418954038:=0
noncomputable def tw1684537510894745348:=0
noncomputable def tw9464238850262327898:=0
noncomputable def tw1224995863746016315:=0
noncomputable def tw11986885346245311128:=0
noncomputable def tw9668030312336154734:=0
noncomputable def tw16376836604122018216:=0
noncomputable def tw5800671756561076025:=0
noncomputable def tw8272002266221953542:=0
noncomputable def tw10517698762490371671:=0
noncomputable def tw10382583661965548246:=0
noncomputable def tw13578772208580759539:=0
noncomputable def tw14715256882895878888:=0
noncomputable def tw17107452990107629390:=0
noncomputable def tw3541982433931814024:=0
noncomputable def tw10299005601852209404:=0
noncomputable def tw14634903136909532903:=0
noncomputable def tw4634534816477696278:=0
noncomputable def tw12881648827067046186:=0
noncomputable def tw9048551355829317897:=0
noncomputable def tw5982903657670682351:=0
noncomputable def tw13021911520846542339:=0
noncomputable def tw14956172412903546099:=0
noncomputable def tw4652101485774384698:=0
noncomputable def tw6846967374535597536:=0
noncomputable def tw9087874007885467656:=0
noncomputable def tw2462580141618536156:=0
noncomputable def tw6573146008916998519:=0
noncomputable def tw9974774007356273630:=0
noncomputable def tw6679250147210544343:=0
noncomputable def tw4602830448711518313:=0
noncomputable def tw13042928355519205751:=0
noncomputable def tw6196978619926906860:=0
noncomputable def tw774579389012018908:=0
noncomputable def tw12082603799258068228:=0
noncomputable def tw16839819321022192540:=0
noncomputable def tw6451028364971344777:=0
noncomputable def tw901821873547350998:=0
noncomputable def tw13798884669380805265:=0
noncomputable def tw12863913403111471580:=0
noncomputable def tw4942842887639182793:=0
noncomputable def tw12151595777311653393:=0
noncomputable def tw5925467987804845756:=0
noncomputable def tw5450330534981261861:=0
noncomputable def tw7411435085399343193:=0
noncomputable def tw13932282254656508823:=0
noncomputable def tw8437254952556599229:=0
noncomputable def tw17937929933628322743:=0
noncomputable def tw10135513587892121257:=0
noncomputable def tw13261109572426615121:=0
noncomputable def tw10789183025812854353:=0
noncomputable def tw16483244447217814520:=0
noncomputable def tw5472383996555101456:=0
noncomputable def tw9542021685644951470:=0
noncomputable def tw2017199002717180454:=0
noncomputable def tw3428828151050649133:=0
noncomputable def tw8917202130320792347:=0
noncomputable def tw3625128447010080515:=0
noncomputable def tw10591091601817796932:=0
noncomputable def tw2822145680056249383:=0
noncomputable def tw11060531568490990920:=0
noncomputable def tw9148278330677583852:=0
noncomputable def tw6444462605738199098:=0
noncomputable def tw5663526574666626535:=0
noncomputable def tw3738255648314947366:=0
noncomputable def tw1525736446110112232:=0
noncomputable def tw2024310157001018681:=0
noncomputable def tw10633089188210786970:=0
noncomputable def tw4669950233525252025:=0
noncomputable def tw2485215920898233446:=0
noncomputable def tw9026108900165368833:=0
noncomputable def tw11614762024139673949:=0
noncomputable def tw16407549519513459981:=0
noncomputable def tw8661331923951001585:=0
noncomputable def tw867085402533945093:=0
noncomputable def tw7782205812534501749:=0
noncomputable def tw3786771603012276535:=0
noncomputable def tw11970142895634710498:=0
noncomputable def tw4491659169454338478:=0
noncomputable def tw2850692642342757576:=0
noncomputable def tw5361518432421714155:=0
noncomputable def tw13594363830771048014:=0
noncomputable def tw17249732370681288440:=0
noncomputable def tw9026470742068182857:=0
noncomputable def tw13220179274163642201:=0
noncomputable def tw9381404237911589749:=0
noncomputable def tw727487412608115485:=0
noncomputable def tw17904027295064399192:=0
noncomputable def tw16565267103562503723:=0
noncomputable def tw13758588878495508761:=0
noncomputable def tw3886665492945719052:=0
noncomputable def tw15853673875449739547:=0
noncomputable def tw8772149108850019073:=0
noncomputable def tw16552866088445003161:=0
noncomputable def tw5141021070768328262:=0
noncomputable def tw10041829704257574765:=0
noncomputable def tw9577956066343757770:=0
noncomputable def tw3765098131896694477:=0
noncomputable def tw7400323419451201432:=0
noncomputable def tw15202849517849481280:=0
noncomputable def tw7935601305904458513:=0
noncomputable def tw17108645011514798426:=0
noncomputable def tw2357867865392809046:=0
noncomputable def tw18394829790787130574:=0
noncomputable def tw10094263254070716920:=0
noncomputable def tw16576783383402570134:=0
noncomputable def tw10550321932947142895:=0
noncomputable def tw161468497399067455:=0
noncomputable def tw17818687363265985197:=0
noncomputable def tw18347353235307367756:=0
noncomputable def tw13957414854720627718:=0
noncomputable def tw12618803921241411257:=0
noncomputable def tw17783799088056957131:=0
noncomputable def tw3075528265751519611:=0
noncomputable def tw7066686904490455619:=0
noncomputable def tw17946231278234405189:=0
noncomputable def tw12844637264366194533:=0
noncomputable def tw14011061981621107413:=0
noncomputable def tw9507790204518583565:=0
noncomputable def tw6502915561356575305:=0
noncomputable def tw4457610615285133780:=0
noncomputable def tw1720814053602036682:=0
noncomputable def tw10294001470169247999:=0
noncomputable def tw14701771325320193805:=0
noncomputable def tw9941083640856635432:=0
noncomputable def tw8144033652862743985:=0
noncomputable def tw3389192914244431383:=0
noncomputable def tw9814705640797521400:=0
noncomputable def tw2850315949788006245:=0
noncomputable def tw10091929099040797935:=0
noncomputable def tw15903934074637749491:=0
noncomputable def tw18019402486856085888:=0
noncomputable def tw14160095447805354778:=0
noncomputable def tw18427176332725444852:=0
noncomputable def tw15285532585561649409:=0
noncomputable def tw15543915050790980785:=0
noncomputable def tw8845395167897735368:=0
noncomputable def tw14201268356255518905:=0
noncomputable def tw1850752989160652906:=0
noncomputable def tw10419727169105886400:=0
noncomputable def tw18013671354939589114:=0
noncomputable def tw17665047280650724777:=0
noncomputable def tw5213417253312831962:=0
noncomputable def tw5345456217010249997:=0
noncomputable def tw2671673841313971141:=0
noncomputable def tw14816235248732070007:=0
noncomputable def tw14661963712405794489:=0
noncomputable def tw17479028194129004061:=0
noncomputable def tw13162102489950693853:=0
noncomputable def tw1761981991469744741:=0
noncomputable def tw963938036665271889:=0
noncomputable def tw10579249490994998195:=0
noncomputable def tw3474352000435311379:=0
noncomputable def tw14099790300882904062:=0
noncomputable def tw14860615186540540553:=0
noncomputable def tw14833262378726659537:=0
noncomputable def tw7980637108762266987:=0
noncomputable def tw1291739027169183817:=0
noncomputable def tw16714178405389150113:=0
noncomputable def tw7031459339241677017:=0
noncomputable def tw18358563973866613670:=0
noncomputable def tw17033136120526967219:=0
noncomputable def tw6057421583234330363:=0
noncomputable def tw3174086398424537907:=0
noncomputable def tw10708391930024817824:=0
noncomputable def tw7203257839593116821:=0
noncomputable def tw1220365852044214449:=0
noncomputable def tw3800520526829529508:=0
noncomputable def tw10217200486337426369:=0
noncomputable def tw16972207538171039150:=0
noncomputable def tw14300990359782759232:=0
noncomputable def tw15242252584280659615:=0
noncomputable def tw6909125705984855339:=0
noncomputable def tw8837431859254248155:=0
noncomputable def tw7718030867648361494:=0
noncomputable def tw868796995582325484:=0
noncomputable def tw5547296885172161735:=0
noncomputable def tw11675823026609213826:=0
noncomputable def tw8982358807751010152:=0
noncomputable def tw1104482417203526485:=0
noncomputable def tw5546377580998844000:=0
noncomputable def tw15294764442462314846:=0
noncomputable def tw4980056837599079571:=0
noncomputable def tw17375908013587148854:=0
noncomputable def tw7310368706452218961:=0
noncomputable def tw1143071424260878385:=0
noncomputable def tw7601049199693202213:=0
noncomputable def tw18271368534869481167:=0
noncomputable def tw8773238114809261340:=0
noncomputable def tw2328834365177864987:=0
noncomputable def tw502641099253369118:=0
noncomputable def tw5152564413260449121:=0
noncomputable def tw17993358857500150588:=0
noncomputable def tw12691663359048649800:=0
noncomputable def tw9841383851642105582:=0
noncomputable def tw8559949142401884721:=0
noncomputable def tw7251039428280206842:=0
noncomputable def tw10945071352412781723:=0
noncomputable def tw14057498041110795164:=0
noncomputable def tw17629451507596564239:=0
noncomputable def tw5001294320109019824:=0
noncomputable def tw1499183102694521731:=0
noncomputable def tw1947463080350576721:=0
noncomputable def tw16559547409108191871:=0
noncomputable def tw14175861270601629416:=0
noncomputable def tw12009670425004110446:=0
noncomputable def tw7843338067315494438:=0
noncomputable def tw15281218331476078205:=0
end PySem.W.Fast
set_option Elab.async false
set_option linter.all false
set_option maxRecDepth 100000
set_option maxHeartbeats 4000000
noncomputable section
set_option compiler.extract_closed false
theorem ℜz0(_:True:=by rfl):True:=⟨⟩
def ℜ0:Lean.Syntax:=ℜz0._auto_1
theorem ℜz1(_:True:=by decide):True:=⟨⟩
def ℜ1:Lean.Syntax:=ℜz1._auto_1
theorem ℜz2(_:True:=by first|exact .inl rfl|exact .inr rfl|assumption):True:=⟨⟩
def ℜ2:Lean.Syntax:=ℜz2._auto_1
theorem ℜz3(_:True:=by intro _;rfl):True:=⟨⟩
def ℜ3:Lean.Syntax:=ℜz3._auto_1
theorem ℜz4(_:True:=by first|exact Or.inl rfl|exact Or.inr (Or.inl rfl)|exact Or.inr (Or.inr rfl)):True:=⟨⟩
def ℜ4:Lean.Syntax:=ℜz4._auto_1
theorem ℜz6(_:True:=by decide +kernel):True:=⟨⟩
def ℜ6:Lean.Syntax:=ℜz6._auto_1
namespace L2
open PySem PySem.Spec PyProof.Rows
variable{us:List Value}{x:Str}{u:Value}{C a b:Addr}{o:Option Value}{base h:Heap}{items:Array Value}{P:Program}{w:World}{g':Array GenState}{ch fp:List Addr}{e tg:Expr}{N:List Str}{i j k n:Nat}{M:Model}{E Q:Value->Shared->Prop}{s s':Shared}{pos:Pos}{pins:List (Addr×Obj)}{f:Value->Value->Sem Value}{es:List Expr}{pl:Sem Bool}{body:List Stmt}{mA mg:Str->Option Value}{kw:List (Str×Value)}{fd:FuncData}{outer:List Env}{kindOf:Str->Option NameKind}{scope:Scope}
noncomputable def EA:=@PySem.wpAny_bind
noncomputable def EB:=@if_neg
noncomputable def EC:=@PySem.Heap.get?_push_of_some
noncomputable def ED:=@List.mem_cons_of_mem
noncomputable def EE:=@List.size_toArray
noncomputable def EF:=@Bool.false_ne_true
noncomputable def EG:=@List.mem_cons
noncomputable def EH:=@Nat.le_refl
noncomputable def EI:=@if_pos
noncomputable def EJ:=@List.length_map
noncomputable def EK:=@List.getElem?_eq_getElem
noncomputable def EL:=@PySem.wpAny_pure
noncomputable def EM:=@List.getElem?_eq_some_iff
noncomputable def EN:=@List.mem_cons_self
noncomputable def EO:=@Nat.lt_of_lt_of_le
noncomputable def ER:=@PySem.Heap.lt_size
noncomputable def ES:=@Nat.le_trans
noncomputable def ET:=@List.mem_singleton
noncomputable def EU:=@List.length_append
noncomputable def EV:=@PySem.Heap.get?_push_size
noncomputable def EW:=@List.not_mem_nil
noncomputable def EX:=@decide_eq_false
noncomputable def EY:=@List.nodup_cons
noncomputable def EZ:=@Nat.lt_of_succ_lt
noncomputable def E_:=@List.length_cons
noncomputable def Fb:=@beq_eq_false_iff_ne
noncomputable def Fc:=@congrArg
noncomputable def Fd:=@Nat.ne_of_lt
noncomputable def Fe:=@List.length_singleton
noncomputable def Ff:=@List.map_append
noncomputable def Fg:=@List.length_take
noncomputable def Fh:=@List.getElem?_map
noncomputable def Fi:=@List.mem_append_right
noncomputable def Fj:=@List.getElem?_append_right
noncomputable def Fm:=@List.getElem?_set_ne
noncomputable def Fn:=@List.mem_append
noncomputable def Fo:=@Nat.zero_le
noncomputable def Fp:=@Int.toNat_natCast
noncomputable def Fq:=@decide_eq_true
noncomputable def Fs:=@List.nodup_nil
noncomputable def Ft:=@Array.getElem?_eq_some_iff
noncomputable def Fu:=@List.lookup_cons
noncomputable def Fv:=@PySem.wpAny_field
noncomputable def Fw:=@List.getElem?_append_left
noncomputable def Fy:=@List.map_cons
noncomputable def Fz:=@List.length_set
noncomputable def FA:=@List.getElem?_drop
noncomputable def FC:=@Bool.and_eq_true
noncomputable def FD:=@List.getElem_mem
noncomputable def FE:=@PySem.wpAny_holding
noncomputable def FF:=@List.eraseIdx_eq_take_drop_succ
noncomputable def FG:=@List.getElem?_set_self
noncomputable def FH:=@List.replicate_succ
noncomputable def FI:=@or_false
noncomputable def FJ:=@PySem.wpAny_mono
noncomputable def FK:=@List.mem_map
noncomputable def FL:=@List.mem_of_getElem?
noncomputable def FN:=@List.mem_of_mem_take
noncomputable def FO:=@List.mem_of_mem_drop
noncomputable def FP:=@PySem.wpAny_callSpecial?_slot
noncomputable def FQ:=@List.all_cons
noncomputable def FR:=@List.length_replicate
noncomputable def FT:=@List.getElem?_eq_none_iff
noncomputable def FU:=@PyProof.Rows.slot_tuple_getitem
noncomputable def FV:=@List.append_nil
noncomputable def FW:=@PySem.call_meets
noncomputable def FX:=@List.flatten_cons
noncomputable def FY:=@List.append_assoc
noncomputable def FZ:=@PySem.wpAny_pyIter_list
noncomputable def F_:=@Nat.lt_irrefl
noncomputable def Ga:=@List.length_drop
noncomputable def Gb:=@List.all_eq_true
noncomputable def Gd:=@PySem.wpAny_seqItems
noncomputable def Ge:=@Nat.lt_of_le_of_lt
noncomputable def Gf:=@PySem.wpAny_pyIter_tuple
noncomputable def Gg:=@PySem.wpAny_setField_rec
noncomputable def Gh:=@PySem.F.slot_tuple_iterator_next
noncomputable def Gi:=@PySem.wpAny_newObj_type
noncomputable def Gj:=@PySem.wpAny_binaryOp_repeat_ref
noncomputable def Gk:=@PySem.Heap.size_push
noncomputable def Gm:=@List.getElem?_take_of_lt
noncomputable def Gn:=@PySem.wpAny_call_entry
noncomputable def Gp:=@List.set_eq_of_length_le
noncomputable def Gq:=@List.take_length
noncomputable def Gr:=@List.getElem?_replicate
noncomputable def Gs:=@PySem.wpAny_getItem_str_slice
noncomputable def Gu:=@PySem.typeIs_int
noncomputable def Gv:=@Int.emod_lt_of_pos
noncomputable def Gw:=@PySem.PassesOwn.never
noncomputable def Gx:=@List.take_of_length_le
noncomputable def Gy:=@List.getElem?_set
noncomputable def Gz:=@List.take_add_one
noncomputable def G0:=@PyProof.Rows.boot_isinstance
noncomputable def GA:=@List.drop_zero
noncomputable def GB:=@List.getElem?_toArray
noncomputable def GC:=@PyProof.Rows.callWith_type1
noncomputable def GD:=@beq_iff_eq
noncomputable def GF:=@Nat.pow_le_pow_right
noncomputable def GG:=@List.map_take
noncomputable def GH:=@List.map_drop
noncomputable def GI:=@PySem.wpAny_passesOwn
noncomputable def GJ:=@List.drop_eq_getElem_cons
noncomputable def GK:=@Int.emod_nonneg
noncomputable def GL:=@PySem.wpAny_Call_Name_kw
noncomputable def GO:=@PySem.AutoSeq1.wpAny_loadPart'
noncomputable def GP:=@Nat.sub_self
noncomputable def GQ:=@if_true
noncomputable def GR:=@List.getElem?_cons_succ
noncomputable def GS:=@PySem.wpAny_truthy_bool
noncomputable def GU:=@PySem.Heap.get?_update_other
noncomputable def GV:=@beq_self_eq_true
noncomputable def GW:=@Nat.le_add_right
noncomputable def GX:=@PySem.Heap.get?_update_self
noncomputable def GY:=@List.take_append_drop
noncomputable def GZ:=@List.eraseIdx_sublist
noncomputable def G_:=@List.mem_append_left
noncomputable def Ha:=@Nat.ne_of_gt
noncomputable def Hb:=@Bool.eq_iff_iff
noncomputable def Hc:=@PySem.codeAny_mono
noncomputable def Hd:=@PySem.wpAny_updateSeq_pair
noncomputable def He:=@PySem.post_val_or_str
noncomputable def Hf:=@List.getElem?_of_mem
noncomputable def Hg:=@List.take_append_of_le_length
noncomputable def Hh:=@List.drop_append_of_le_length
noncomputable def Hi:=@List.filterMap_cons
noncomputable def Hj:=@Array.length_toList
noncomputable def Hk:=@PySem.F.args_tuple_iterator_next_1
noncomputable def Hl:=@List.mem_filterMap
noncomputable def Hm:=@Bool.false_eq_true
noncomputable def Hn:=@PySem.F.entry_tuple_iterator_next
noncomputable def Ho:=@PySem.Obj.data_mapFields
noncomputable def Hq:=@PySem.Calls.Name_function_global
noncomputable def Hr:=@List.any_cons
noncomputable def Hs:=@PySem.wpAny_onRaise
noncomputable def Ht:=@PySem.SeqAt.RcNeAt.lists_lengths
noncomputable def Hu:=@Array.getElem?_eq_getElem
noncomputable def Hw:=@List.mem_take_iff_getElem
noncomputable def Hx:=@Option.isSome_iff_exists
noncomputable def Hy:=@not_or
noncomputable def Hz:=@Nat.sub_zero
noncomputable def HA:=@Option.bind_some
noncomputable def HB:=@List.map_set
noncomputable def HC:=@List.perm_middle
noncomputable def HD:=@List.length_eq_zero_iff
noncomputable def HE:=@PySem.wpAny_execs_nil
noncomputable def HF:=@List.of_mem_zip
noncomputable def HG:=@List.forIn_cons
noncomputable def HH:=@PySem.wpAny_pyNext_list_item
noncomputable def HI:=@PySem.sizeLine_eq
noncomputable def HK:=@List.map_id
noncomputable def HL:=@Bool.false_and
noncomputable def HN:=@PySem.fitsIndex_both
noncomputable def HP:=@PySem.wpAny_setField
noncomputable def HR:=@Nat.le_of_ble_eq_true
noncomputable def HS:=@List.singleton_append
noncomputable def HU:=@List.drop_drop
noncomputable def HV:=@PySem.wpAny_call
noncomputable def HW:=@if_false
noncomputable def HX:=@PySem.wpAny_rule
noncomputable def HY:=@PySem.wpAny_standAt
noncomputable def H_:=@PySem.wpAny_attempt
noncomputable def Ia:=@Nat.le_of_lt
noncomputable def Ib:=@PySem.seqIndex_neg
noncomputable def Ic:=@Nat.lt_or_ge
noncomputable def Ie:=@Nat.min_self
noncomputable def Ig:=@Nat.add_zero
abbrev Ih:=PySem.W.Frag
variable{K:Ih}
abbrev Key:=Sum Int Str
noncomputable def wM:Key->Value->Bool
 |.inl k,v=>Value.isInt k v
 |.inr x,v=>Value.isStrOf x v
noncomputable def DR(w:World):Key->Int
 |.inl k=>hashInt k
 |.inr x=>hashStr w x
theorem aS:∀{k:Key} {v:Value},wM k v=true->(∃ i t,k=Sum.inl i/\v=Value.int i t)\/(∃ x t,k=Sum.inr x/\v=Value.str x t)
 |.inl i,v,h=>by
  obtain⟨t,e⟩:=Value.isInt_shape (k:=i) (v:=v) h;exact .inl ⟨i,t,rfl,e⟩
 |.inr x,v,h=>by
  obtain⟨t,e⟩:=Value.isStrOf_shape (x:=x) (v:=v) h;exact .inr ⟨x,t,rfl,e⟩
theorem yy(a b:Int):decide ((Sum.inl a:Key)=Sum.inl b)=(a == b):=by
 by_cases e:a=b
 ·subst e;simp
 ·have h:¬ (Sum.inl a:Key)=Sum.inl b:=fun q=>e (Sum.inl.inj q);rw[EX h];exact (Fb.mpr e).symm
theorem xB(a b:Str):decide ((Sum.inr a:Key)=Sum.inr b)=decide (a=b):=by
 by_cases e:a=b
 ·subst e;simp
 ·have h:¬ (Sum.inr a:Key)=Sum.inr b:=fun q=>e (Sum.inr.inj q);rw[EX h,EX e]
theorem x9(a:Int)(b:Str):decide ((Sum.inl a:Key)=Sum.inr b)=false:=EX (fun q=>nomatch q)
theorem yn(a:Str)(b:Int):decide ((Sum.inr a:Key)=Sum.inl b)=false:=EX (fun q=>nomatch q)
noncomputable def jN(prog:Program)(w:World):PySem.KeyKind prog w Key where
 is:=wM
 hash:=DR w
 inj:=fun v a b ha hb=>by
  rcases aS ha with ⟨i,t,rfl,rfl⟩|⟨x,t,rfl,rfl⟩
  ·rcases aS hb with ⟨j,u,rfl,e⟩|⟨y,u,rfl,e⟩
   ·injection e with e1 _;rw[e1]
   ·exact nomatch e
  ·rcases aS hb with ⟨j,u,rfl,e⟩|⟨y,u,rfl,e⟩
   ·exact nomatch e
   ·injection e with e1 _;rw[e1]
 byValue:=fun k v h=>by
  rcases aS h with ⟨i,t,rfl,rfl⟩|⟨x,t,rfl,rfl⟩<;>rfl
 pyHash:=fun hv h=>by
  rcases aS hv with ⟨i,t,rfl,rfl⟩|⟨x,t,rfl,rfl⟩
  ·exact wpAny_pyHash_int h
  ·exact wpAny_pyHash_str h
 eqBool:=fun hu hv h=>by
  rcases aS hu with ⟨i,t,rfl,rfl⟩|⟨x,t,rfl,rfl⟩
  ·rcases aS hv with ⟨j,u,rfl,rfl⟩|⟨y,u,rfl,rfl⟩
   ·rw[yy] at h;exact wpAny_eqBool_int h
   ·rw[x9] at h;exact SeqAt.EqAt.int_str i t y u _ _ _ _ h
  ·rcases aS hv with ⟨j,u,rfl,rfl⟩|⟨y,u,rfl,rfl⟩
   ·rw[yn] at h;exact SeqAt.EqAt.str_int x t j u _ _ _ _ h
   ·rw[xB] at h;exact wpAny_eqBool_str h
 «strs»:=fun k x t v h=>by
  rcases aS h with ⟨i,u,rfl,e⟩|⟨y,u,rfl,e⟩
  ·exact nomatch e
  ·injection e with e1 _
   subst e1
   cases v<;>rfl
inductive V where
 |ay|bl (b:Bool)|int (i:Int)|str (x:Str)|ly (b:Array UInt8)|xu (b:UInt64)|ref (a:Addr)|ty (n:String)
 deriving DecidableEq
variable{vs xs:List V}
noncomputable def RelV:V->Value->Prop
 |.ay,u=>u=Value.none
 |.bl b,u=>u=Value.bool b
 |.int i,u=>∃ t,u=Value.int i t
 |.str x,u=>∃ t,u=Value.str x t
 |.ly b,u=>∃ t,u=Value.bytes b t
 |.xu b,u=>∃ t,u=Value.float b t
 |.ref a,u=>u=Value.ref a
 |.ty n,u=>u=Value.type n
abbrev Vals:List V->List Value->Prop:=Paired RelV
theorem Vals.length(r:Vals xs us):xs.length=us.length:=Paired.length r
theorem Vals.get:∀{xs:List V} {us:List Value} {i:Nat} {x:V},Vals xs us->xs[i]?=some x->∃ u,us[i]?=some u/\RelV x u
 |_,_,_,_,.nil,e=>by simp at e
 |_,_,0,_,.cons r _,e=>by simp at e;subst e;exact⟨_,rfl,r⟩
 |_,_,i+1,x,.cons _ t,e=>by
  obtain⟨u,h1,h2⟩:=Vals.get (i:=i) (x:=x) t (by simpa using e)
  exact⟨u,by simpa using h1,h2⟩
theorem Vals.set{x:V}(r:RelV x u):∀{xs:List V} {us:List Value} (i:Nat),Vals xs us->Vals (xs.set i x) (us.set i u)
 |_,_,_,.nil=>.nil
 |_,_,0,.cons _ t=>.cons r t
 |_,_,i+1,.cons q t=>.cons q (Vals.set r i t)
theorem Vals.append:∀{xs ys:List V} {us ws:List Value},Vals xs us->Vals ys ws->Vals (xs++ys) (us++ws)
 |_,_,_,_,.nil,s=>s
 |_,_,_,_,.cons r t,s=>.cons r (Vals.append t s)
theorem Vals.take:∀{xs:List V} {us:List Value} (n:Nat),Vals xs us->Vals (xs.take n) (us.take n)
 |_,_,0,_=>.nil
 |_,_,_+1,.nil=>.nil
 |_,_,n+1,.cons r t=>.cons r (Vals.take n t)
theorem Vals.drop:∀{xs:List V} {us:List Value} (n:Nat),Vals xs us->Vals (xs.drop n) (us.drop n)
 |_,_,0,r=>r
 |_,_,_+1,.nil=>.nil
 |_,_,n+1,.cons _ t=>Vals.drop n t
noncomputable def i5:Option V->Option Value->Prop
 |some v,some u=>RelV v u
 |none,none=>True
 |_,_=>False
noncomputable def KV{κ:Type}:List (κ×V)->List (κ×Value)->Prop:=Paired fun (p:κ×V) (q:κ×Value)=>p.1=q.1/\RelV p.2 q.2
noncomputable def kV:Key->V
 |.inl i=>.int i
 |.inr x=>.str x
inductive HO where
 |lst (xs:List V)
 |tup (xs:List V)
 |dK (kvs:List (Key×V))|dT (kvs:List (List Key×V))
 |set (S:Int->Bool) (n:Nat)
 |ins (C dx:Addr) (fs:List (Str×V))
 |own (x:Addr)
 |xd (fs:List (Str×V))
 |met (f x:Addr)
 |jQ (lo hi:Int)
 |gM (o:Obj) (u:HO)
 |pO (ps:Array Value)
 |ext (φ:Heap->Prop)
abbrev Hp:=Addr->Option HO
variable{H:Hp}
noncomputable def upd(H:Hp)(a:Addr)(o:HO):Hp:=fun b=>if b=a then some o else H b
theorem ae{o:HO}:upd H a o a=some o:=by unfold upd;rw[EI rfl]
theorem af{o:HO}(h:b≠a):upd H a o b=H b:=by unfold upd;rw[EB h]
theorem vG{o u:HO}:upd (upd H a o) a u=upd H a u:=by
 funext b;unfold upd;split<;>rfl
theorem aw{o:HO}(h:H a=some o)(h':H b=none):a≠b:=by
 intro e;subst e;rw[h] at h';cases h'
noncomputable def Dq:List Value->Str
 |.str q _::_=>q
 |_=>Str.ofString ""
noncomputable def AA(ps:Array Value):Str:=Dq ps.toList
noncomputable def zZ(H:Hp)(q:Str)(cv:Value):Prop:=∃(c:Addr) (oc:Obj) (vs:Array Value) (t:Tok),cv=.ref c/\H c=some (.gM oc (.own c))/\oc.data=.fields vs/\vs[1]?=some (.str q t)
noncomputable def cu(h:Heap)(a:Addr)(items:Array Value):Prop:=∃ o:Obj,h.get? a=some o/\o.cls=.type "tuple"/\∃ n,o.data=.seq items n/\o.dict=none
theorem cu.to(x:cu h a items):IsTup h a items:=let ⟨o,e,c,n,d,_⟩:=x;⟨o,e,c,n,d⟩
theorem cu.new(h:Heap)(items:Array Value):cu (h.push {cls:=.type "tuple",data:=.seq items}) h.objs.size items:=⟨_,EV h rfl,rfl,_,rfl,rfl⟩
theorem cu.lt(x:cu h a items):a<h.objs.size:=x.to.lt
section
variable (P:Program) (w:World)
noncomputable def bu(H:Hp)(h:Heap)(a:Addr):HO->Prop
 |.lst xs=>xs.length<=sizeLine/\∃(ah:List Value) (n:Nat),Vals xs ah/\h.get? a=some {cls:=.type "list",data:=.seq ah.toArray n}
 |.tup xs=>xs.length<=sizeLine/\∃ ah:List Value,Vals xs ah/\cu h a ah.toArray
 |.dK kvs=>kvs.length<=sizeLine/\(a == sysModules)=false/\∃ vs,KV kvs vs/\h.DictOf (jN P w) a vs
 |.dT kvs=>kvs.length<=sizeLine/\(a == sysModules)=false/\∃ xs:List (List Key×Addr×Value),
   Paired (fun (p:List Key×V) (q:List Key×Addr×Value)=>p.1=q.1/\H q.2.1=some (.tup (p.1.map kV))/\RelV p.2 q.2.2) kvs xs /\
   ∃ o es ep,h.get? a=some o/\o.ExactDict/\o.data=.dict es ep/\es.toList=xs.map (entryOfKey (tupleKind (jN P w)))/\(xs.map (·.1)).Nodup
 |.set S n=>h.SetOf (intKind P w) a S n
 |.ins C dx fs=>H dx=some (.own a)/\fs.length<=1000/\dx≠a/\h.get? a=some (PySem.W.instObj C dx) /\
   ∃ mA,h.Ns1 dx mA/\(∀ f,i5 (fs.lookup f) (mA f))/\PySem.Within mA (fs.map (·.1))
 |.own _=>∃ o,h.get? a=some o
 |.xd fs=>∃ mA,h.Ns1 a mA/\∀ f,i5 (fs.lookup f) (mA f)
 |.jQ lo hi=>∃ t u v,h.get? a=some {cls:=.type "range",data:=.fields #[.int lo t,.int hi u,.int 1 v]}
 |.gM o u=>h.get? a=some o/\bu H h a u
 |.pO ps=>∃ qs:Array Value,h.get? a=some {cls:=.none,data:=.fields qs}/\TriplesOk qs.toList/\∀ pos cv,codeAmong pos qs.toList=some cv->zZ H (AA ps) cv
 |.met f x=>h.get? a=some (PySem.W.methodObj (.ref f) (.ref x))
 |.ext φ=>φ h/\(∃ o,h.get? a=some o)/\∀ h1 h2:Heap,φ h1->(∀ o,h1.get? a=some o->h2.get? a=some o)->φ h2
noncomputable def e7(H:Hp)(h:Heap):Prop:=∀ a o,H a=some o->bu P w H h a o
end
section
variable {P:Program} {w:World} {H H':Hp} {h h':Heap} {a:Addr} {o:HO}
theorem bu.lt(x:bu P w H h a o):a<h.objs.size:=by
 cases o with
 |lst xs=>obtain⟨_,_,_,_,e⟩:=x;exact ER e
 |tup xs=>obtain⟨_,_,_,p⟩:=x;exact p.lt
 |dK kvs=>obtain⟨_,_,_,_,o,_,_,e,_⟩:=x;exact ER e
 |dT kvs=>obtain⟨_,_,_,_,o,_,_,e,_⟩:=x;exact ER e
 |set S n=>obtain⟨o,_,_,_,e,_⟩:=x;exact ER e
 |ins C dx fs=>obtain⟨_,_,_,e,_⟩:=x;exact ER e
 |own y=>obtain⟨_,e⟩:=x;exact ER e
 |xd fs=>obtain⟨_,⟨_,_,_,e,_⟩,_⟩:=x;exact ER e
 |jQ lo hi=>obtain⟨_,_,_,e⟩:=x;exact ER e
 |gM ob u=>obtain⟨e,_⟩:=x;exact ER e
 |pO ps=>obtain⟨_,e,_⟩:=x;exact ER e
 |met f y=>exact ER (show h.get? a=some _ from x)
 |ext φ=>obtain⟨_,⟨_,e⟩,_⟩:=x;exact ER e
theorem Paired.kN{α β:Type}{F G:α->β->Prop}:∀{l₁:List α} {l₂:List β},Paired F l₁ l₂->(∀ a b,F a b->G a b)->Paired G l₁ l₂
 |_,_,.nil,_=>.nil
 |_,_,.cons r t,f=>.cons (f _ _ r) (Paired.kN t f)
theorem bu.hW(x:bu P w H h a o)(k:∀ b u,(b=a\/H b=some (.own a))->h.get? b=some u->h'.get? b=some u)
  (ho:∀ b,H b=some (.own a)->H' b=some (.own a)) (ht:∀ b xs,H b=some (.tup xs)->H' b=some (.tup xs)) (hz:∀ b o u,H b=some (.gM o u)->H' b=some (.gM o u)):bu P w H' h' a o:=by
 induction o with
 |lst xs=>obtain⟨z,ah,n,r,e⟩:=x;exact⟨z,ah,n,r,k _ _ (.inl rfl) e⟩
 |tup xs=>obtain⟨z,ah,r,ob,e,c⟩:=x;exact⟨z,ah,r,ob,k _ _ (.inl rfl) e,c⟩
 |dK kvs=>obtain⟨z,y,vs,r,ob,es,ep,e,c⟩:=x;exact⟨z,y,vs,r,ob,es,ep,k _ _ (.inl rfl) e,c⟩
 |dT kvs =>
  obtain⟨z,y,xs,r,ob,es,ep,e,c⟩:=x;exact⟨z,y,xs,Paired.kN r fun p q z=>⟨z.1,ht _ _ z.2.1,z.2.2⟩,ob,es,ep,k _ _ (.inl rfl) e,c⟩
 |set S n=>obtain⟨ob,es,ep,t,e,c⟩:=x;exact⟨ob,es,ep,t,k _ _ (.inl rfl) e,c⟩
 |ins C dx fs =>
  obtain⟨d,z,ne,e,mA,⟨od,es,ep,e2,c⟩,r⟩:=x;exact⟨ho _ d,z,ne,k _ _ (.inl rfl) e,mA,⟨od,es,ep,k _ _ (.inr d) e2,c⟩,r⟩
 |own y=>obtain⟨ob,e⟩:=x;exact⟨ob,k _ _ (.inl rfl) e⟩
 |xd fs=>obtain⟨mA,⟨od,es,ep,e,c⟩,r⟩:=x;exact⟨mA,⟨od,es,ep,k _ _ (.inl rfl) e,c⟩,r⟩
 |jQ lo hi=>obtain⟨t,u,v,e⟩:=x;exact⟨t,u,v,k _ _ (.inl rfl) e⟩
 |gM ob u ih=>obtain⟨e,q⟩:=x;exact⟨k _ _ (.inl rfl) e,ih q⟩
 |pO ps =>
  obtain⟨qs,e,t,f⟩:=x;exact⟨qs,k a _ (.inl rfl) e,t,fun pos cv q=>let ⟨c,oc,vs,t',e1,e2,e3⟩:=f pos cv q;⟨c,oc,vs,t',e1,hz _ _ _ e2,e3⟩⟩
 |met f y =>
  have e:h.get? a=some (PySem.W.methodObj (.ref f) (.ref y)):=x;show h'.get? a=some (PySem.W.methodObj (.ref f) (.ref y));exact k a _ (.inl rfl) e
 |ext φ=>obtain⟨p,⟨o,e⟩,st⟩:=x;exact⟨st _ _ p fun o q=>k _ _ (.inl rfl) q,⟨o,k _ _ (.inl rfl) e⟩,st⟩
theorem e7.lt(x:e7 P w H h)(e:H a=some o):a<h.objs.size:=(x a o e).lt
theorem e7.fresh(x:e7 P w H h)(e:h.objs.size<=a):H a=none:=by
 cases q:H a with
 |none=>rfl
 |some u=>exact absurd (EO (x.lt q) e) (F_ _)
theorem e7.kept(x:e7 P w H h)(k:∀ b u,h.get? b=some u->h'.get? b=some u):e7 P w H h':=fun a o e =>
 (x a o e).hW (fun b u _ q=>k b u q) (fun _ q=>q) (fun _ _ q=>q) fun _ _ _ q=>q
theorem e7.laid(x:e7 P w H h)(k:∀ b u,h.get? b=some u->h'.get? b=some u)(hp:h.objs.size<=a)(new:bu P w (upd H a o) h' a o):e7 P w (upd H a o) h':=fun b u e=>by
 have hn:=x.fresh hp;by_cases hb:b=a
 ·subst hb;rw[ae] at e;cases e;exact new
 ·rw[af hb] at e;exact (x b u e).hW (fun c v _ q=>k c v q) (fun c q=>by rw[af (aw q hn)];exact q) (fun c xs q=>by rw[af (aw q hn)];exact q) fun c _ _ q=>by rw[af (aw q hn)];exact q
end
noncomputable def Rd(H:Hp)(a:Addr)(u:HO):Prop:=H a=some u\/∃ o,H a=some (.gM o u)
theorem Rd.ok{u:HO}(r:Rd H a u)(x:e7 P w H h):bu P w H h a u:=by
 rcases r with r|⟨o,r⟩
 ·exact x a u r
 ·obtain⟨_,q⟩:=x a _ r;exact q
noncomputable def CF:Option HO->Prop
 |some (.lst _)=>True
 |some (.dK _)=>True
 |some (.dT _)=>True
 |some (.set _ _)=>True
 |some (.ins _ _ _)=>True
 |some (.ext _)=>True
 |_=>False
section
variable {P:Program} {w:World} {H:Hp} {h h':Heap} {x e:Addr} {o':HO}
theorem e7.write(ok:e7 P w H h)(mu:CF (H x))(he:e=x\/H e=some (.own x))(k:∀ b u,b≠e->h.get? b=some u->h'.get? b=some u)(heo:∃ u,h'.get? e=some u)
  (new:bu P w (upd H x o') h' x o'):e7 P w (upd H x o') h':=fun b u q=>by
 have nown:∀ c y,H c=some (.own y)->c≠x:=fun c y r z=>by subst z;rw[r] at mu;exact mu
 have ntup:∀ c xs,H c=some (.tup xs)->c≠x:=fun c xs r z=>by subst z;rw[r] at mu;exact mu
 have nfrz:∀ c o1 u1,H c=some (.gM o1 u1)->c≠x:=fun c _ _ r z=>by subst z;rw[r] at mu;exact mu
 by_cases hb:b=x
 ·subst hb;rw[ae] at q;cases q;exact new
 ·rw[af hb] at q;by_cases hbe:b=e
  ·have q':H b=some (.own x):=by
    rcases he with z|z
    ·exact absurd (hbe.trans z) hb
    ·rw[hbe];exact z
   rw[q] at q';cases q';obtain⟨v,hv⟩:=heo;exact⟨v,by rw[hbe];exact hv⟩
  ·refine (ok b u q).hW (fun c v hc r=>k c v ?_ r) (fun c r=>by rw[af (nown c b r)];exact r) (fun c xs r=>by rw[af (ntup c xs r)];exact r) fun c _ _ r=>by rw[af (nfrz c _ _ r)];exact r
   rcases hc with rfl|hc
   ·exact hbe
   ·rintro rfl;rcases he with z|z
    ·exact nown c b hc z
    ·rw[hc] at z;cases z;exact hb rfl
end
structure Un (fs ex:List Addr) (H H':Hp) (h h':Heap):Prop where
 keep:∀ b o,h.get? b=some o->H b=none->b∉fs->b∉ex->h'.get? b=some o
 slot:∀ b o,h.get? b=some o->H b=none->b∈fs->b∉ex->∃ sl,h'.get? b=some {o with slots:=sl}
 free:∀ b o,h.get? b=some o->H b=none->b∉ex->H' b=none
 there:∀ b o,h.get? b=some o->b∉ex->∃ o',h'.get? b=some o'
 gr:∀ b xs,H b=some (.tup xs)->H' b=some (.tup xs)
 fL:∀ b o u,H b=some (.gM o u)->H' b=some (.gM o u)
 fj:∀ b ps,H b=some (.pO ps)->∃ more,H' b=some (.pO (ps++more))
section
variable {fs fs' ex ex':List Addr} {H H1 H2:Hp} {h h1 h2 h':Heap} {a x e:Addr} {o:HO}
theorem Un.any(u:Un fs ex H H1 h h1){ob:Obj}(q:h.get? b=some ob)(n:H b=none)(hx:b∉ex):∃ sl,h1.get? b=some {ob with slots:=sl}:=by
 by_cases hb:b∈fs
 ·exact u.slot b ob q n hb hx
 ·exact⟨ob.slots,u.keep b ob q n hb hx⟩
theorem Un.kept(k:∀ b u,h.get? b=some u->h'.get? b=some u):Un fs ex H H h h':=
 ⟨fun b ob q _ _ _=>k b ob q,fun b ob q _ _ _=>⟨ob.slots,k b ob q⟩,fun _ _ _ n _=>n,fun b ob q _=>⟨ob,k b ob q⟩,fun _ _ q=>q,fun _ _ _ q=>q,fun _ ps q=>⟨#[],by rw[q];simp⟩⟩
theorem Un.refl:Un fs ex H H h h:=Un.kept fun _ _ q=>q
theorem Un.laid(k:∀ b u,h.get? b=some u->h'.get? b=some u)(hp:h.objs.size<=a)(hn:H a=none):Un fs ex H (upd H a o) h h' where
 keep:=fun b u q _ _ _=>k b u q
 slot:=fun b u q _ _ _=>⟨u.slots,k b u q⟩
 free:=fun b u q n _=>by rw[af (Fd (EO (ER q) hp))];exact n
 there:=fun b u q _=>⟨u,k b u q⟩
 gr:=fun b xs q=>by rw[af (aw q hn)];exact q
 fL:=fun b u xs q=>by rw[af (aw q hn)];exact q
 fj:=fun b ps q=>⟨#[],by rw[af (aw q hn),q];simp⟩
theorem Un.write(mu:CF (H x))(he:e=x\/H e=some (.own x))(k:∀ b u,b≠e->h.get? b=some u->h'.get? b=some u)(heo:∃ u,h'.get? e=some u):Un fs ex H (upd H x o) h h':=by
 have hx:∀ b,H b=none->b≠x:=fun b n z=>by subst z;rw[n] at mu;exact mu
 have hb:∀ b,H b=none->b≠e:=fun b n z=>by
  subst z;rcases he with r|r
  ·exact hx b n r
  ·rw[n] at r;cases r
 have hm:∀ b u,H b=some u->¬ CF (some u)->b≠x:=fun b u q nm z=>by subst z;rw[q] at mu;exact nm mu
 refine⟨fun b u q n _ _=>k b u (hb b n) q,fun b u q n _ _=>⟨u.slots,k b u (hb b n) q⟩,fun b u q n _=>by rw[af (hx b n)];exact n,fun b u q _=>?_,
  fun b xs q=>by rw[af (hm b _ q fun z=>z)];exact q,fun b u xs q=>by rw[af (hm b _ q fun z=>z)];exact q,fun b ps q=>⟨#[],by rw[af (hm b _ q fun z=>z),q];simp⟩⟩
 by_cases hbe:b=e
 ·subst hbe;exact heo
 ·exact⟨u,k b u hbe q⟩
end
noncomputable def aU(h:Heap)(H:Hp):List Addr:=(List.range h.objs.size).filter fun a=>(H a).isSome
noncomputable def i4(h:Heap)(H:Hp):Heap:=PySem.W.hideAll h (aU h H)
theorem pF(h:Heap)(H:Hp):(i4 h H).objs.size=h.objs.size:=PySem.W.hideAll_size _ _
theorem fq{o:Obj}(e:h.get? b=some o)(n:H b=none):(i4 h H).get? b=some o:=
 PySem.W.hideAll_get _ e fun hm=>by
  have q:(H b).isSome=true:=(List.mem_filter.mp hm).2;rw[n] at q;simp at q
theorem v7{o:Obj}(e:(i4 h H).get? b=some o):h.get? b=some o/\H b=none:=by
 have e':h.get? b=some o:=PySem.W.of_hideAll (aU h H) e;refine⟨e',?_⟩
 cases q:H b with
 |none=>rfl
 |some x =>
  have hm:b∈aU h H:=List.mem_filter.mpr ⟨List.mem_range.mpr (ER e'),by simp[q]⟩
  have z:(i4 h H).get? b=none:=PySem.W.hideAll_none (aU h H) hm;rw[z] at e;cases e
noncomputable def vx(g h:Heap)(L:Addr):List (Addr×Obj):=(List.range h.objs.size).filterMap fun a=>if a=L\/(g.get? a).isSome=true then none else (h.get? a).map fun o=>(a,o)
noncomputable def rest(g h:Heap)(L d:Addr):List (Addr×Obj):=(vx g h L).filter fun p=>decide (p.1≠d)
noncomputable def e_:List Str:=["by_worth","by_weight","code_of"]
noncomputable def bt(K:Ih):List (Addr×Addr×Str):=e_.filterMap fun x=>(PySem.W.tabIn K x).map fun p=>(p.1,p.2,(x++".<locals>.")++"<lambda>")
noncomputable def TabsOk(K:Ih)(H:Hp):Prop:=∀ t∈bt K,∃ more,H t.2.1=some (.pO (#[.str t.2.2 0]++more))
theorem TabsOk.un{fs ex:List Addr}{H1:Hp}{h1:Heap}(x:TabsOk K H)(u:Un fs ex H H1 h h1):TabsOk K H1:=fun t ht=>by
 obtain⟨m,e⟩:=x t ht;obtain⟨m2,e2⟩:=u.fj _ _ e;exact⟨m++m2,by rw[e2,Array.append_assoc]⟩
noncomputable def y9(mg:Str->Option Value)(h:Heap):Prop:=∃ bm ob,mg "__builtins__"=some (.ref bm)/\bm≠builtinsNs/\h.get? bm=some ob/\ob.cls=.type "module"/\ob.dict=some builtinsNs/\ob.data=.plain
structure Mod (K:Ih) (mg:Str->Option Value) (base:Heap):Prop where
 lJ:K.In base
 glob:base.Ns mainGlobals mg
 blt:∃ mb,base.Ns builtinsNs mb/\∀ x:Str,x≠"__name__"->mb x=bootBuiltins x
 nolimit:base.NoLimit
 codes:∀ t∈bt K,PySem.W.CodeHd base t.1 t.2.1
 bm:y9 mg base
structure Cx where
 prog:Program
 w:World
 K:Ih
 mg:Str->Option Value
 base:Heap
 A:Around
 N:List Str
 s₀:Shared
 H₀:Hp
 env:Env
 outer:List Env
 stack:List Env
 ex:List Addr
 fn:Str->Bool
 calm:Bool
 pn:List (Addr×Obj)
 xe:Value->Shared->Prop
variable{X:Cx}
noncomputable def fW(l:List Env):List Addr:=l.filterMap (·.frame)
abbrev Cx.fs(X:Cx):List Addr:=fW X.outer
noncomputable def zI(sc:Scope)(x:Str):Prop:=sc.names.lookup x=some .local\/sc.names.lookup x=some .cell\/sc.names.lookup x=some .free
noncomputable def Loc(sc:Scope)(x:Str):Prop:=sc.names.lookup x=some .local\/sc.names.lookup x=some .cell
noncomputable def Look(env:Env)(h:Heap)(m:Str->Option Value)(x:Str)(u:Value):Prop:=
 (env.kindOf x=some .local/\m x=some u)\/((env.kindOf x=some .cell\/env.kindOf x=some .free)/\∃ c,env.cells.lookup x=some c/\h.IsCell c (some u))
structure Cx.Ok (X:Cx):Prop where
 mod:Mod X.K X.mg X.base
 kind:X.env.scope.kind=.function
 glob:X.env.globals=mainGlobals
 blt:X.env.builtins=builtinsNs
 above:X.s₀.heap.objs.size<=X.env.locals
 inj:∀ x y c,X.env.cells.lookup x=some c->X.env.cells.lookup y=some c->x=y
 has:∀ x,(X.env.kindOf x=some .cell\/X.env.kindOf x=some .free)->∃ c,X.env.cells.lookup x=some c
 uP:∀ x c,X.fn x=true->X.env.cells.lookup x=some c->X.s₀.heap.objs.size<=c
 hd:X.calm=true->X.A.handled=none
 frames:X.A.frames=some X.stack
 wK:X.stack=X.outer\/(X.stack=X.env::X.outer/\X.env.frame=some X.env.locals)
 zT:∀ b∈X.ex,b≠X.env.locals/\∀ x c,X.env.cells.lookup x=some c->c≠b
 bs:∀ b o,X.base.get? b=some o->X.s₀.heap.get? b=some o/\X.H₀ b=none
 pw:X.base.objs.size<=X.s₀.heap.objs.size
 jC:∀ b o,X.base.get? b=some o->b∉X.ex
 ku:∀ b∈X.ex,b∉X.fs
 e8:X.s₀.heap.FunFrames X.base X.outer
 rq:∀ b∈X.fs,X.H₀ b=none
 tabs:TabsOk X.K X.H₀
structure Inv (X:Cx) (pins:List (Addr×Obj)) (σ:List (Option V)) (H:Hp) (s:Shared):Prop where
 ok:X.Ok
 os:s.os=X.s₀.os
 bare:AllBare s.gens
 base:Un X.fs X.ex X.H₀ H X.s₀.heap s.heap
 loc:∃ m,s.heap.Ns X.env.locals m/\∀(i:Nat) (x:Str) (v:V),X.N[i]?=some x->σ[i]?=some (some v)->zI X.env.scope x->∃ u,RelV v u/\Look X.env s.heap m x u
 cell:∀ x c,X.env.cells.lookup x=some c->∃ v,s.heap.IsCell c v
 free:H X.env.locals=none
 bH:∀ x c,X.env.cells.lookup x=some c->H c=none
 pin:∀ p∈X.pn++pins,s.heap.get? p.1=some p.2/\H p.1=none/\p.1≠X.env.locals/\p.1∉X.fs/\∀ v,p.2.data≠.cell v
 aM:e7 X.prog X.w H s.heap
 len:σ.length=X.N.length
section
variable {X:Cx} {pins:List (Addr×Obj)} {σ:List (Option V)} {H H':Hp} {s:Shared} {h':Heap}
theorem Cx.Ok.CN(ok:X.Ok){o:Obj}(e:X.base.get? b=some o):b∉X.fs:=fun hb=>by
 have:=(ok.e8.mem hb).1;rw[e] at this;cases this
theorem Inv.bs(I:Inv X pins σ H s):∀ b o,X.base.get? b=some o->s.heap.get? b=some o/\H b=none:=fun b o e =>
 ⟨I.base.keep b o (I.ok.bs b o e).1 (I.ok.bs b o e).2 (I.ok.CN e) (I.ok.jC b o e),I.base.free b o (I.ok.bs b o e).1 (I.ok.bs b o e).2 (I.ok.jC b o e)⟩
theorem Inv.bk(I:Inv X pins σ H s):∀ b o,X.base.get? b=some o->s.heap.get? b=some o:=fun b o e=>(I.bs b o e).1
theorem Inv.mod(I:Inv X pins σ H s):Mod X.K X.mg X.base:=I.ok.mod
theorem Inv.dn(I:Inv X pins σ H s):X.K.In s.heap:=I.ok.mod.lJ.keeps I.bk
theorem Inv.lt(I:Inv X pins σ H s):X.env.locals<s.heap.objs.size:=let ⟨_,hn,_⟩:=I.loc;hn.lt
theorem Inv.sz(I:Inv X pins σ H s):X.s₀.heap.objs.size<=s.heap.objs.size:=ES I.ok.above (Ia I.lt)
theorem Inv.Ds(I:Inv X pins σ H s)(h:s.heap.objs.size<=a):a∉X.fs:=fun hb=>by
 obtain⟨_,o,ho,_⟩:=I.ok.e8.mem hb;exact absurd (EO (ER ho) (ES I.sz h)) (F_ _)
theorem Inv.pM(I:Inv X pins σ H s):∀ x c,X.env.cells.lookup x=some c->c≠X.env.locals:=fun x c e z=>by
 obtain⟨v,o,ho,hd⟩:=I.cell x c e;obtain⟨m,⟨o',es,ep,ho',hd',_⟩,_⟩:=I.loc;rw[z,ho'] at ho;cases ho;rw[hd'] at hd;cases hd
theorem Inv.e8(I:Inv X pins σ H s):s.heap.FunFrames X.base X.outer:=by
 have all:∀(l:List Env),(∀ b∈fW l,b∈X.fs)->X.s₀.heap.FunFrames X.base l->s.heap.FunFrames X.base l:=by
  intro l
  induction l with
  |nil=>intro _ _;trivial
  |cons env r ih =>
   intro hs hl;obtain⟨hk,⟨L,o,hf,hn,ho,hd⟩,hr⟩:=hl;have hL:L∈X.fs:=hs L (by unfold fW;rw[Hi,hf];exact EN)
   obtain⟨sl,e⟩:=I.base.slot L o ho (I.ok.rq L hL) hL fun z=>I.ok.ku L z hL;exact⟨hk,⟨L,_,hf,hn,e,hd⟩,ih (fun b hb=>hs b (by unfold fW;rw[Hi,hf];exact ED _ hb)) hr⟩
 exact all X.outer (fun _ hb=>hb) I.ok.e8
theorem Inv.stack(I:Inv X pins σ H s):s.heap.FunFrames X.base X.stack:=by
 rcases I.ok.wK with e|⟨e,hf⟩
 ·rw[e];exact I.e8
 ·rw[e];obtain⟨m,hn,_⟩:=I.loc;refine .cons (by rw[I.ok.kind];decide) hf hn ?_ I.e8
  exact Heap.get?_none_of_le (ES I.ok.pw I.ok.above)
theorem Inv.hJ(I:Inv X pins σ H s):∀ b∈fW X.stack,b∈X.env.locals::X.fs:=fun b hb=>by
 rcases I.ok.wK with e|⟨e,hf⟩
 ·rw[e] at hb;exact ED _ hb
 ·rw[e] at hb;unfold fW at hb;rw[Hi,hf] at hb;exact hb
theorem Inv.jx(I:Inv X pins σ H s):∀ b∈fW X.stack,H b=none:=fun b hb=>by
 rcases EG.mp (I.hJ b hb) with e|hb
 ·rw[e];exact I.free
 ·obtain⟨_,o,ho,_⟩:=I.ok.e8.mem hb;exact I.base.free b o ho (I.ok.rq b hb) fun z=>I.ok.ku b z hb
theorem Inv.step{t':Nat}{d':Drawn}(I:Inv X pins σ H s)
  (hch:∀ b∈ch,(b∈X.ex\/X.s₀.heap.objs.size<=b)/\b≠X.env.locals/\(∀ x c,X.env.cells.lookup x=some c->c≠b)/\∀ p∈X.pn++pins,p.1≠b)
  (keep:∀ b o,b≠X.env.locals->b∉X.fs->b∉ch->s.heap.get? b=some o->H b=none->h'.get? b=some o)
  (slot:∀ b o,b≠X.env.locals->b∈X.fs->b∉ch->s.heap.get? b=some o->H b=none->∃ sl,h'.get? b=some {o with slots:=sl}) (free:∀ b o,b∉ch->s.heap.get? b=some o->H b=none->H' b=none)
  (there:∀ b o,b∉ch->s.heap.get? b=some o->∃ o',h'.get? b=some o')
  (gr:∀ b xs,H b=some (.tup xs)->H' b=some (.tup xs)) (fL:∀ b o u,H b=some (.gM o u)->H' b=some (.gM o u)) (fj:∀ b ps,H b=some (.pO ps)->∃ more,H' b=some (.pO (ps++more)))
  (ns:∀ m,s.heap.Ns X.env.locals m->h'.Ns X.env.locals m) (aM:e7 X.prog X.w H' h') (hg:AllBare g') :
  Inv X pins σ H' {s with heap:=h',gens:=g',drawn:=d',toks:=t'}:=by
 have neL:∀ b o,X.s₀.heap.get? b=some o->b≠X.env.locals:=fun b o e=>Fd (EO (ER e) I.ok.above);have neC:∀ b o,X.s₀.heap.get? b=some o->b∉X.ex->b∉ch:=fun b o e hx hb=>by
  rcases (hch b hb).1 with z|z
  ·exact hx z
  ·exact absurd (EO (ER e) z) (F_ _)
 have cellK:∀ x c,X.env.cells.lookup x=some c->∀ v,s.heap.IsCell c v->h'.IsCell c v:=fun x c e v ⟨o,ho,hd⟩=>by
  have nch:c∉ch:=fun z=>(hch c z).2.2.1 x c e rfl;by_cases hc:c∈X.fs
  ·obtain⟨sl,q⟩:=slot c o (I.pM x c e) hc nch ho (I.bH x c e);exact⟨_,q,hd⟩
  ·exact⟨o,keep c o (I.pM x c e) hc nch ho (I.bH x c e),hd⟩
 refine⟨I.ok,I.os,hg,⟨fun b o e n hb hx=>?_,fun b o e n hb hx=>?_,fun b o e n hx=>?_,fun b o e hx=>?_,fun b xs e=>gr b xs (I.base.gr b xs e),fun b o xs e=>fL b o xs (I.base.fL b o xs e),fun b ps e=>?_⟩,?_,fun x c e=>?_,?_,fun x c e=>?_,fun p hp=>?_,aM,I.len⟩
 ·exact keep b o (neL b o e) hb (neC b o e hx) (I.base.keep b o e n hb hx) (I.base.free b o e n hx)
 ·obtain⟨sl,e1⟩:=I.base.slot b o e n hb hx;obtain⟨sl',e2⟩:=slot b _ (neL b o e) hb (neC b o e hx) e1 (I.base.free b o e n hx);exact⟨sl',e2⟩
 ·obtain⟨o',e1⟩:=I.base.there b o e hx;exact free b o' (neC b o e hx) e1 (I.base.free b o e n hx)
 ·obtain⟨o',e1⟩:=I.base.there b o e hx;exact there b o' (neC b o e hx) e1
 ·obtain⟨m1,e1⟩:=I.base.fj b ps e;obtain⟨m2,e2⟩:=fj b _ e1;exact⟨m1++m2,by rw[e2,Array.append_assoc]⟩
 ·obtain⟨m,hn,hl⟩:=I.loc;refine⟨m,ns m hn,fun i x v e1 e2 e3=>?_⟩;obtain⟨u,r,l⟩:=hl i x v e1 e2 e3;refine⟨u,r,?_⟩;rcases l with l|⟨k,c,e,z⟩
  ·exact .inl l
  ·exact .inr ⟨k,c,e,cellK x c e _ z⟩
 ·obtain⟨v,z⟩:=I.cell x c e;exact⟨v,cellK x c e v z⟩
 ·obtain⟨m,⟨o,_,_,ho,_⟩,_⟩:=I.loc;exact free _ o (fun z=>(hch _ z).2.1 rfl) ho I.free
 ·obtain⟨v,o,ho,hd⟩:=I.cell x c e;exact free c o (fun z=>(hch c z).2.2.1 x c e rfl) ho (I.bH x c e)
 ·obtain⟨e,n,ne,nf,d⟩:=I.pin p hp;have nch:p.1∉ch:=fun z=>(hch p.1 z).2.2.2 p hp rfl;exact⟨keep p.1 p.2 ne nf nch e n,free p.1 p.2 nch e n,ne,nf,d⟩
theorem Inv.un{t':Nat}(I:Inv X pins σ H s)(u:Un X.fs [] H H' s.heap h')(aM:e7 X.prog X.w H' h'):Inv X pins σ H' {s with heap:=h',toks:=t'}:=by
 obtain⟨m,⟨o,es,ep,ho,r⟩,_⟩:=id I.loc;obtain⟨sl,hL⟩:=u.any ho I.free (by simp)
 exact I.step (g':=s.gens) (d':=s.drawn) (ch:=[]) (fun _ z=>nomatch z) (fun b o _ hb _ e n=>u.keep b o e n hb (by simp)) (fun b o _ hb _ e n=>u.slot b o e n hb (by simp)) (fun b o _ e n=>u.free b o e n (by simp)) (fun b o _ e=>u.there b o e (by simp)) u.gr u.fL u.fj (fun m' hm=>by
  obtain⟨o',es',ep',ho',r'⟩:=hm;rw[ho] at ho';cases ho';exact⟨_,es',ep',hL,r'⟩) aM I.bare
theorem Inv.call{t':Nat}{d':Drawn}{ch:List Addr}(I:Inv X pins σ H s)(u:Un (fW X.stack) ch H H' s.heap h')(aM:e7 X.prog X.w H' h')(hg:AllBare g')
  (hch:∀ b∈ch,(b∈X.ex\/X.s₀.heap.objs.size<=b)/\b≠X.env.locals/\(∀ x c,X.env.cells.lookup x=some c->c≠b)/\∀ p∈X.pn++pins,p.1≠b) :
  Inv X pins σ H' {s with heap:=h',gens:=g',drawn:=d',toks:=t'}:=by
 obtain⟨m,⟨o,es,ep,ho,r⟩,_⟩:=id I.loc;obtain⟨sl,hL⟩:=u.any ho I.free fun z=>(hch _ z).2.1 rfl;exact I.step (ch:=ch) hch (fun b o hL hb hc e n=>u.keep b o e n (fun z=>(EG.mp (I.hJ b z)).elim hL hb) hc) (fun b o _ _ hc e n=>u.any e n hc) (fun b o hc e n=>u.free b o e n hc) (fun b o hc e=>u.there b o e hc) u.gr u.fL u.fj (fun m' hm=>by
  obtain⟨o',es',ep',ho',r'⟩:=hm;rw[ho] at ho';cases ho';exact⟨_,es',ep',hL,r'⟩) aM hg
theorem Inv.turned{t':Nat}{it:Addr}(I:Inv X pins σ H s)(k:∀ b o,b≠it->s.heap.get? b=some o->h'.get? b=some o)(hn:H it=none)(hL:it≠X.env.locals)
  (h1:it∈X.ex\/X.s₀.heap.objs.size<=it) (h2:∀ x c,X.env.cells.lookup x=some c->c≠it) (h3:∀ p∈X.pn++pins,p.1≠it):Inv X pins σ H {s with heap:=h',toks:=t'}:=by
 have nit:∀ b u,H b=some u->b≠it:=fun b u e z=>by rw[z,hn] at e;cases e
 refine I.step (g':=s.gens) (d':=s.drawn) (ch:=[it]) (fun b hb=>?_) (fun b o _ _ hc e _=>k b o (fun z=>hc (by simp[z])) e) (fun b o _ _ hc e _=>⟨o.slots,k b o (fun z=>hc (by simp[z])) e⟩) (fun _ _ _ _ n=>n)
  (fun b o hc e=>⟨o,k b o (fun z=>hc (by simp[z])) e⟩) (fun _ _ e=>e) (fun _ _ _ e=>e) (fun b ps e=>⟨#[],by rw[e];simp⟩) (fun m hm=>?_) (fun b u e=>?_) I.bare
 ·have e:b=it:=by simpa using hb
  subst e;exact⟨h1,hL,h2,h3⟩
 ·obtain⟨o,es,ep,ho,r⟩:=hm;exact⟨o,es,ep,k _ o (Ne.symm hL) ho,r⟩
 ·refine (I.aM b u e).hW (fun c v hc q=>k c v ?_ q) (fun _ q=>q) (fun _ _ q=>q) fun _ _ _ q=>q;rcases hc with z|z
  ·rw[z];exact nit b u e
  ·exact nit c _ z
theorem Inv.tok(I:Inv X pins σ H s)(t:Nat):Inv X pins σ H {s with toks:=t}:=I.un (h':=s.heap) (t':=t) Un.refl I.aM
theorem Inv.kept{t':Nat}(I:Inv X pins σ H s)(k:∀ b u,s.heap.get? b=some u->h'.get? b=some u):Inv X pins σ H {s with heap:=h',toks:=t'}:=I.un (Un.kept k) (I.aM.kept k)
theorem Inv.laid{o:HO}{t':Nat}(I:Inv X pins σ H s)(k:∀ b u,s.heap.get? b=some u->h'.get? b=some u)(hp:s.heap.objs.size<=a)(new:bu X.prog X.w (upd H a o) h' a o):
  Inv X pins σ (upd H a o) {s with heap:=h',toks:=t'}:=I.un (Un.laid k hp (I.aM.fresh hp)) (I.aM.laid k hp new)
theorem Inv.write{x e:Addr}{o:HO}{t':Nat}(I:Inv X pins σ H s)(mu:CF (H x))(he:e=x\/H e=some (.own x))(k:∀ b u,b≠e->s.heap.get? b=some u->h'.get? b=some u)(heo:∃ u,h'.get? e=some u)
  (new:bu X.prog X.w (upd H x o) h' x o):Inv X pins σ (upd H x o) {s with heap:=h',toks:=t'}:=I.un (Un.write mu he k heo) (I.aM.write mu he k heo new)
theorem Inv.mJ{pins':List (Addr×Obj)}(I:Inv X pins σ H s)(h:∀ p∈pins',s.heap.get? p.1=some p.2/\H p.1=none/\p.1≠X.env.locals/\p.1∉X.fs/\∀ v,p.2.data≠.cell v):Inv X pins' σ H s:=
 ⟨I.ok,I.os,I.bare,I.base,I.loc,I.cell,I.free,I.bH,fun p hp=>(Fn.mp hp).elim (fun z=>I.pin p (G_ _ z)) (h p),I.aM,I.len⟩
theorem gK(hN:N.Nodup)(a:N[i]?=some x)(b:N[j]?=some x):i=j:=by
 obtain⟨h1,e1⟩:=EM.mp a;obtain⟨h2,e2⟩:=EM.mp b;exact (List.getElem_inj hN).mp (e1.trans e2.symm)
theorem oR{A:Around}{v:V}{Q:Unit->Shared->Prop}(I:Inv X pins σ H s)(hN:X.N.Nodup)(hi:X.N[i]?=some x)(hx:Loc X.env.scope x)(r:RelV v u)
  (h:∀ s',Inv X pins (σ.set i (some v)) H s'->(∃ a,Heap.SameBut a s.heap s'.heap/\(a=X.env.locals\/X.env.cells.lookup x=some a))->Q () s') (hf:autoParam (X.fn x=true\/X.env.scope.names.lookup x=some .local) ℜ2):wpAny M A (storeName X.env x u) Q E s:=by
 obtain⟨m,hn,hl⟩:=id I.loc;have hcls:(X.env.scope.kind == .class || (X.env.scope.kind == .module && X.env.locals != X.env.globals))=false:=by rw[I.ok.kind];rfl
 have hiσ:i<σ.length:=by rw[I.len];exact (EM.mp hi).1
 have pM:=I.pM;have tracked:∀{a:Addr} {h':Heap},(∃ o,s.heap.get? a=some o/\H a=none)->Heap.SameBut a s.heap h'->e7 X.prog X.w H h':=fun {a h'} ha hs b ob e=>by
  obtain⟨_,_,hfree⟩:=ha;refine (I.aM b ob e).hW (fun c w' hc q=>(hs.2 c ?_).trans q) (fun _ q=>q) (fun _ _ q=>q) fun _ _ _ q=>q;rintro rfl;rcases hc with rfl|hc
  ·rw[hfree] at e;cases e
  ·rw[hfree] at hc;cases hc
 rcases hx with hk|hk
 ·refine wpAny_storeName_local hk hn (fun h' hn' hs=>?_) hcls;obtain⟨oL,_,_,hoL,_⟩:=id hn;refine h _ ⟨I.ok,I.os,I.bare,⟨fun b o e n hb hx=>?_,fun b o e n hb hx=>?_,I.base.free,fun b o e hx=>?_,I.base.gr,I.base.fL,I.base.fj⟩,⟨_,hn',fun j y v' e1 e2 e3=>?_⟩,fun y c e=>?_,I.free,I.bH,fun p hp=>?_,tracked ⟨oL,hoL,I.free⟩ hs,by simpa using I.len⟩ ⟨_,hs,.inl rfl⟩
  ·exact (hs.2 b (Fd (EO (ER e) I.ok.above))).trans (I.base.keep b o e n hb hx)
  ·obtain⟨sl,e1⟩:=I.base.slot b o e n hb hx;exact⟨sl,(hs.2 b (Fd (EO (ER e) I.ok.above))).trans e1⟩
  ·obtain⟨o',e1⟩:=I.base.there b o e hx;exact⟨o',(hs.2 b (Fd (EO (ER e) I.ok.above))).trans e1⟩
  ·by_cases hj:j=i
   ·subst hj;rw[hi] at e1;cases e1;rw[FG hiσ] at e2;cases e2;exact⟨u,r,.inl ⟨hk,by simp⟩⟩
   ·rw[Fm (Ne.symm hj)] at e2;obtain⟨u',r',q⟩:=hl j y v' e1 e2 e3;refine⟨u',r',?_⟩;rcases q with ⟨k,e⟩|⟨k,c,e,z⟩
    ·refine .inl ⟨k,?_⟩;have:y≠x:=fun e=>hj (gK hN e1 (e ▸ hi));simp[this,e]
    ·exact .inr ⟨k,c,e,z.sameBut hs (pM y c e)⟩
  ·obtain⟨w',z⟩:=I.cell y c e;exact⟨w',z.sameBut hs (pM y c e)⟩
  ·obtain⟨e,n,ne,nf,d⟩:=I.pin p hp;exact⟨(hs.2 p.1 ne).trans e,n,ne,nf,d⟩
 ·have hfn:X.fn x=true:=by
   rcases hf with z|z
   ·exact z
   ·rw[z] at hk;cases hk
  obtain⟨c,hc⟩:=I.ok.has x (.inl hk);obtain⟨w',z⟩:=I.cell x c hc;refine wpAny_storeName_cell I.ok.kind hk hc z (fun h' hc' hs=>?_);obtain⟨oc,hoc,hocd⟩:=id z;refine h {s with heap:=h'} ⟨I.ok,I.os,I.bare,⟨fun b o e n hb hx=>?_,fun b o e n hb hx=>?_,I.base.free,fun b o e hx=>?_,I.base.gr,I.base.fL,I.base.fj⟩,⟨m,hn.sameBut hs (Ne.symm (pM x c hc)),fun j y v' e1 e2 e3=>?_⟩,fun y c' e=>?_,I.free,I.bH,fun p hp=>?_,tracked ⟨oc,hoc,I.bH x c hc⟩ hs,by simpa using I.len⟩ ⟨c,hs,.inr hc⟩
  ·exact (hs.2 b (Fd (EO (ER e) (I.ok.uP x c hfn hc)))).trans (I.base.keep b o e n hb hx)
  ·obtain⟨sl,e1⟩:=I.base.slot b o e n hb hx;exact⟨sl,(hs.2 b (Fd (EO (ER e) (I.ok.uP x c hfn hc)))).trans e1⟩
  ·obtain⟨o',e1⟩:=I.base.there b o e hx;exact⟨o',(hs.2 b (Fd (EO (ER e) (I.ok.uP x c hfn hc)))).trans e1⟩
  ·by_cases hj:j=i
   ·subst hj;rw[hi] at e1;cases e1;rw[FG hiσ] at e2;cases e2;exact⟨u,r,.inr ⟨.inl hk,c,hc,hc'⟩⟩
   ·rw[Fm (Ne.symm hj)] at e2;obtain⟨u',r',q⟩:=hl j y v' e1 e2 e3;refine⟨u',r',?_⟩;rcases q with q|⟨k,c',e,z'⟩
    ·exact .inl q
    ·refine .inr ⟨k,c',e,z'.sameBut hs ?_⟩;rintro rfl;exact hj (gK hN e1 (I.ok.inj _ _ _ e hc ▸ hi))
  ·by_cases hcc:c'=c
   ·subst hcc;exact⟨_,hc'⟩
   ·obtain⟨w2,z2⟩:=I.cell y c' e;exact⟨w2,z2.sameBut hs hcc⟩
  ·obtain⟨e,n,ne,nf,d⟩:=I.pin p hp;refine⟨(hs.2 p.1 ?_).trans e,n,ne,nf,d⟩;intro q;rw[q,hoc] at e;have q':oc=p.2:=Option.some.inj e;exact d w' (by rw[<- q'];exact hocd)
theorem iu{A:Around}{v:V}{Q:Unit->Shared->Prop}(I:Inv X pins σ H s)(hN:X.N.Nodup)(hi:X.N[i]?=some x)(hx:Loc X.env.scope x)(r:RelV v u)
  (h:∀ s',Inv X pins (σ.set i (some v)) H s'->Q () s') (hf:autoParam (X.fn x=true\/X.env.scope.names.lookup x=some .local) ℜ2):wpAny M A (storeName X.env x u) Q E s:=
 oR I hN hi hx r (fun s' I' _=>h s' I') hf
theorem Inv.wD(I:Inv X pins σ H s)(ho:s'.os=s.os)(u:Un (fW X.stack) ch H H' s.heap s'.heap)(aM:e7 X.prog X.w H' s'.heap)(hg:AllBare s'.gens)
  (hch:∀ b∈ch,(b∈X.ex\/X.s₀.heap.objs.size<=b)/\b≠X.env.locals/\(∀ x c,X.env.cells.lookup x=some c->c≠b)/\∀ p∈X.pn++pins,p.1≠b):Inv X pins σ H' s':=by
 obtain⟨h',g',d',t',o'⟩:=s';have e:o'=s.os:=ho;subst e;exact I.call (g':=g') (t':=t') (d':=d') u aM hg hch
end
abbrev XK:=Value->Option Addr->Hp->Prop
abbrev St:=List (Option V)
variable{σ:St}
abbrev VK:=V->Hp->Prop
abbrev TE:=St->Hp->VK->Prop
abbrev TT:=St->Hp->(Bool->Hp->Prop)->Prop
abbrev TA:=St->Hp->(List V->Hp->Prop)->Prop
structure Ends where
 nx:St->Hp->Prop
 rt:VK
 bk:St->Hp->Prop:=fun _ _=>False
 ct:St->Hp->Prop:=fun _ _=>False
variable{D:Ends}
abbrev TS:=Ends->St->Hp->Prop
variable{tb:TS}
noncomputable def EP(X:Cx)(pins:List (Addr×Obj))(σ:St)(Q:VK)(u:Value)(s':Shared):Prop:=∃ v H',Inv X pins σ H' s'/\RelV v u/\Q v H'
noncomputable def TP(X:Cx)(pins:List (Addr×Obj))(σ:St)(Q:Bool->Hp->Prop)(b:Bool)(s':Shared):Prop:=∃ H',Inv X pins σ H' s'/\Q b H'
noncomputable def AP(X:Cx)(pins:List (Addr×Obj))(σ:St)(Q:List V->Hp->Prop)(us:List Value)(s':Shared):Prop:=∃ vs H',Inv X pins σ H' s'/\Vals vs us/\Q vs H'
noncomputable def SP(X:Cx)(pins:List (Addr×Obj))(D:Ends)(f:Flow)(s':Shared):Prop:=
 match f with
 |.next=>∃ σ' H',Inv X pins σ' H' s'/\D.nx σ' H'
 |.brk=>∃ σ' H',Inv X pins σ' H' s'/\D.bk σ' H'
 |.cont=>∃ σ' H',Inv X pins σ' H' s'/\D.ct σ' H'
 |.ret u=>∃ v σ' H',Inv X pins σ' H' s'/\RelV v u/\D.rt v H'
noncomputable def PE(X:Cx)(e:Expr)(t:TE):Prop:=
 ∀(pins:List (Addr×Obj)) (s:Shared) (σ:St) (H:Hp) (Q:VK),Inv X pins σ H s->t σ H Q->wpAny (model X.prog X.w) X.A (eval e X.env) (EP X pins σ Q) X.xe s
noncomputable def PT(X:Cx)(e:Expr)(t:TT):Prop:=
 ∀(pins:List (Addr×Obj)) (s:Shared) (σ:St) (H:Hp) (Q:Bool->Hp->Prop),Inv X pins σ H s->t σ H Q->wpAny (model X.prog X.w) X.A (isTrue e X.env (eval e X.env)) (TP X pins σ Q) X.xe s
noncomputable def PW(X:Cx)(e:Expr)(t:TT):Prop:=
 ∀(whole:Sem Value) (pins:List (Addr×Obj)) (s:Shared) (σ:St) (H:Hp) (Q:Bool->Hp->Prop),Inv X pins σ H s->t σ H Q->wpAny (model X.prog X.w) X.A (isTrue e X.env whole) (TP X pins σ Q) X.xe s
theorem PW.pt{t:TT}(h:PW X e t):PT X e t:=h _
noncomputable def PA(X:Cx)(es:List Expr)(t:TA):Prop:=
 ∀(pos:Pos) (pins:List (Addr×Obj)) (s:Shared) (σ:St) (H:Hp) (Q:List V->Hp->Prop),Inv X pins σ H s->t σ H Q->wpAny (model X.prog X.w) X.A (spliced (backTo pos (starEach es X.env))) (AP X pins σ Q) X.xe s
noncomputable def PS(X:Cx)(st:Stmt)(t:TS):Prop:=
 ∀(pins:List (Addr×Obj)) (s:Shared) (σ:St) (H:Hp) (D:Ends),Inv X pins σ H s->t D σ H->wpAny (model X.prog X.w) X.A (exec st X.env) (SP X pins D) X.xe s
noncomputable def nJ(X:Cx)(st:List Stmt)(t:TS):Prop:=
 ∀(pins:List (Addr×Obj)) (s:Shared) (σ:St) (H:Hp) (D:Ends),Inv X pins σ H s->t D σ H->wpAny (model X.prog X.w) X.A (execs st X.env) (SP X pins D) X.xe s
theorem bg{α:Type}{t:Sem α}{Q Q':α->Shared->Prop}{A:Around}(h:wpAny M A t Q E s)(hQ:∀ a s,Q a s->Q' a s):wpAny M A t Q' E s:=FJ h hQ fun _ _ x=>x
section
variable {X:Cx}
noncomputable def lP(i:Nat):TE:=fun σ H Q=>∃ v,σ[i]?=some (some v)/\Q v H
noncomputable def tC(v:V):TE:=fun _ H Q=>Q v H
theorem yT(hN:X.N[i]?=some x)(hv:zI X.env.scope x)(hd:autoParam ((x ==("__debug__":Str))=false) ℜ1)(hcd:autoParam ((x ==("__classdict__":Str))=false) ℜ1):PE X (.Name x pos) (lP i):=by
 intro pins s σ H Q I h;obtain⟨v,e,h⟩:=h;obtain⟨m,hn,hl⟩:=I.loc;obtain⟨u,r,l⟩:=hl i x v hN e hv;have fin:EP X pins σ Q u s:=⟨v,H,I,r,h⟩;rcases l with ⟨hk,hm⟩|⟨hk,c,hc,hcell⟩
 ·exact wpAny_Name (wpAny_loadName_local I.ok.kind hk hn hm fin) hd
 ·rcases hk with hk|hk
  ·exact wpAny_Name (wpAny_loadName_cell I.ok.kind hk hc hcell fin) hd
  ·exact wpAny_Name (wpAny_loadName_free I.ok.kind hk hc hcell fin hcd) hd
theorem sR{i j pos}:PE X (.Constant (.int i) j pos) (tC (.int i)):=fun _ _ _ H _ I h=>wpAny_Constant_int ⟨.int i,H,I.tok _,⟨_,rfl⟩,h⟩
theorem wO{b j pos}:PE X (.Constant (.bool b) j pos) (tC (.bl b)):=fun _ _ _ H _ I h=>Constant_bool ⟨.bl b,H,I,rfl,h⟩
theorem qR{j pos}:PE X (.Constant .none j pos) (tC .ay):=fun _ _ _ H _ I h=>Constant_none ⟨.ay,H,I,rfl,h⟩
theorem si{x j pos}:PE X (.Constant (.str x) j pos) (tC (.str x)):=fun _ _ _ H _ I h=>Calls.Constant_str ⟨.str x,H,I.tok _,⟨_,rfl⟩,h⟩
noncomputable def Gl(X:Cx)(x:Str):Prop:=X.env.kindOf x=some .globalImplicit
theorem fA(I:Inv X pins σ H s)(hg:Gl X x)(hm:X.mg x=some u)(h:Q u s)
  (hd:autoParam ((x ==("__debug__":Str))=false) ℜ1):wpAny (model X.prog X.w) X.A (eval (.Name x pos) X.env) Q E s:=
 Hq I.ok.kind hg (Calls.loadGlobal_global (by rw[I.ok.glob];exact I.mod.glob.keeps I.bk) hm h) hd
theorem hZ(I:Inv X pins σ H s)(hg:Gl X x)(hm:X.mg x=none)(hv:bootBuiltins x=some u)(h:Q u s)
  (hn:autoParam (x≠"__name__") ℜ1) (hd:autoParam ((x ==("__debug__":Str))=false) ℜ1):wpAny (model X.prog X.w) X.A (eval (.Name x pos) X.env) Q E s:=by
 obtain⟨mb,h1,h2⟩:=I.mod.blt;exact Hq I.ok.kind hg (Calls.loadGlobal_builtin (by rw[I.ok.glob];exact I.mod.glob.keeps I.bk) hm (by rw[I.ok.blt];exact h1.keeps I.bk) ((h2 x hn).trans hv) h) hd
theorem mY{v:V}(hg:Gl X x)(hm:X.mg x=some u)(r:RelV v u)(hd:autoParam ((x ==("__debug__":Str))=false) ℜ1):PE X (.Name x pos) (tC v):=
 fun _ _ _ H _ I h=>fA I hg hm ⟨v,H,I,r,h⟩ hd
theorem vK{v:V}(hg:Gl X x)(hm:X.mg x=none)(hv:bootBuiltins x=some u)(r:RelV v u)(hn:autoParam (x≠"__name__") ℜ1)(hd:autoParam ((x ==("__debug__":Str))=false) ℜ1):PE X (.Name x pos) (tC v):=
 fun _ _ _ H _ I h=>hZ I hg hm hv ⟨v,H,I,r,h⟩ hn hd
noncomputable def Ep(ta tb:TE)(k:Int->Int->Hp->Prop):St->Hp->Prop:=fun σ H=>ta σ H fun x H1=>tb σ H1 fun y H2=>∃ i j,x=.int i/\y=.int j/\k i j H2
variable {a b:Expr} {ta tb:TE} {pos:Pos}
noncomputable def BQ(p:Int->Int->Bool)(ta tb:TE):TE:=fun σ H Q=>Ep ta tb (fun i j H2=>Q (.bl (p i j)) H2) σ H
abbrev AQ:TE->TE->TE:=BQ fun i j=>decide (i=j)
abbrev BA:TE->TE->TE:=BQ fun i j=>!decide (i=j)
noncomputable def kl(ta:TE):TE:=fun σ H Q=>ta σ H fun x H1=>Q (.bl (decide (x=.ay))) H1
variable {tA tB':TT} {rest:List Expr}
noncomputable def oY(t u:TT):TT:=fun σ H Q=>t σ H fun c H1=>if c=true then u σ H1 Q else Q false H1
noncomputable def zQ(t u:TT):TT:=fun σ H Q=>t σ H fun c H1=>if c=true then Q true H1 else u σ H1 Q
noncomputable def sP(t:TT):TT:=fun σ H Q=>t σ H fun c H1=>Q (!c) H1
theorem vQ(ha:PT X a tA):PW X (.BoolOp .And [a] pos) tA:=by
 intro wh pins s σ H Q I h;refine isTrue_and (bg (ha pins s σ H Q I h) fun c s1 e=>?_)
 cases c with
 |true=>exact isTrue_and_nil e
 |false=>exact e
theorem xn(ha:PT X a tA):PW X (.BoolOp .Or [a] pos) tA:=by
 intro wh pins s σ H Q I h;refine isTrue_or (bg (ha pins s σ H Q I h) fun c s1 e=>?_)
 cases c with
 |false=>exact isTrue_or_nil e
 |true=>exact e
theorem xo(ha:PT X a tA)(hb:PW X (.BoolOp .And (b::rest) pos) tB'):PW X (.BoolOp .And (a::b::rest) pos) (oY tA tB'):=by
 intro wh pins s σ H Q I h;refine isTrue_and (bg (ha pins s σ H _ I h) fun c s1 hq7=>?_);obtain⟨H1,I1,q1⟩:=hq7
 cases c with
 |true=>exact hb wh pins s1 σ H1 Q I1 q1
 |false=>exact⟨H1,I1,q1⟩
theorem BW(ha:PT X a tA)(hb:PW X (.BoolOp .Or (b::rest) pos) tB'):PW X (.BoolOp .Or (a::b::rest) pos) (zQ tA tB'):=by
 intro wh pins s σ H Q I h;refine isTrue_or (bg (ha pins s σ H _ I h) fun c s1 hq8=>?_);obtain⟨H1,I1,q1⟩:=hq8
 cases c with
 |true=>exact⟨H1,I1,q1⟩
 |false=>exact hb wh pins s1 σ H1 Q I1 q1
theorem yb(ha:PT X a tA):PT X (.UnaryOp .Not a pos) (sP tA):=by
 intro pins s σ H Q I h;exact isTrue_not (ha pins s σ H (fun c H1=>Q (!c) H1) I h)
noncomputable def wI(ta tb:TE):TE:=fun σ H Q=>ta σ H fun x H1=>∃ c,x=.bl c/\if c=true then tb σ H1 Q else Q (.bl false) H1
noncomputable def w_(ta:TE):TE:=fun σ H Q=>ta σ H fun x H1=>∃ c,x=.bl c/\Q (.bl (!c)) H1
theorem yL{op}{t:TE}(h:PE X a t):PE X (.BoolOp op [a] pos) t:=fun pins s σ H Q I hw=>BoolOp_one (h pins s σ H Q I hw)
theorem xw(ha:PE X a ta)(hb:PE X (.BoolOp .And (b::rest) pos) tb):PE X (.BoolOp .And (a::b::rest) pos) (wI ta tb):=by
 intro pins s σ H Q I h;refine BoolOp_and (bg (ha pins s σ H _ I h) fun v s1 hq9=>?_);obtain⟨x,H1,I1,r1,q1⟩:=hq9;obtain⟨c,rfl,q1⟩:=q1;cases r1;refine GS ?_
 cases c with
 |true=>exact hb pins s1 σ H1 Q I1 q1
 |false=>exact⟨.bl false,H1,I1,rfl,q1⟩
theorem yM(ha:PE X a ta):PE X (.UnaryOp .Not a pos) (w_ ta):=by
 intro pins s σ H Q I h;refine UnaryOp_ (bg (ha pins s σ H _ I h) fun v s1 hq11=>?_);obtain⟨x,H1,I1,r1,q1⟩:=hq11;obtain⟨c,rfl,q1⟩:=q1;cases r1;exact not_of (GS ⟨.bl (!c),H1,I1,rfl,q1⟩)
noncomputable def Eg(t:TT)(ta tb:TE):TE:=fun σ H Q=>t σ H fun c H1=>if c=true then ta σ H1 Q else tb σ H1 Q
theorem qT{c:Expr}(hc:PT X c tA)(ha:PE X a ta)(hb:PE X b tb):PE X (.IfExp c a b pos) (Eg tA ta tb):=by
 intro pins s σ H Q I h;refine wpAny_IfExp (bg (hc pins s σ H _ I h) fun d s1 hq12=>?_);obtain⟨H1,I1,q1⟩:=hq12
 cases d with
 |true=>exact ha pins s1 σ H1 Q I1 q1
 |false=>exact hb pins s1 σ H1 Q I1 q1
end
noncomputable def a_(K:Ih)(H:Hp)(a:Addr)(xs:List V):Prop:=
 Rd H a (.lst xs) \/
  ∃(o:Obj) (ah:Array Value) (n:Nat),K.lookup a=some o/\o.cls=.type "list"/\o.dict=none/\o.data=.seq ah n/\ah.size<=sizeLine/\Vals xs ah.toList
noncomputable def b6(K:Ih)(H:Hp)(a:Addr)(xs:List V):Prop:=
 Rd H a (.tup xs) \/
  ∃(o:Obj) (ah:Array Value) (n:Nat),K.lookup a=some o/\o.cls=.type "tuple"/\o.data=.seq ah n/\ah.size<=sizeLine/\Vals xs ah.toList
noncomputable def Eb:Value->Option V
 |.none=>some .ay
 |.bool b=>some (.bl b)
 |.int i _=>some (.int i)
 |.str x _=>some (.str x)
 |.bytes b _=>some (.ly b)
 |.float b _=>some (.xu b)
 |.ref a=>some (.ref a)
 |.type n=>some (.ty n)
 |_=>none
theorem RelV.abs{x:V}(r:RelV x u):Eb u=some x:=by
 cases x with
 |ay=>cases r;rfl
 |bl _=>cases r;rfl
 |int _=>obtain⟨t,rfl⟩:=r;rfl
 |str _=>obtain⟨t,rfl⟩:=r;rfl
 |ly _=>obtain⟨t,rfl⟩:=r;rfl
 |xu _=>obtain⟨t,rfl⟩:=r;rfl
 |ref _=>cases r;rfl
 |ty _=>cases r;rfl
theorem RelV.inj{x y:V}(r:RelV x u)(q:RelV y u):x=y:=Option.some.inj (r.abs.symm.trans q.abs)
theorem Vals.inj:∀{xs ys:List V} {us:List Value},Vals xs us->Vals ys us->xs=ys
 |_,_,_,.nil,.nil=>rfl
 |_,_,_,.cons r t,.cons r' t'=>by rw[r.inj r',Vals.inj t t']
section
variable {X:Cx} {pins:List (Addr×Obj)} {σ:St} {H:Hp} {s:Shared} {a:Addr} {xs ys:List V}
theorem a_.of(h:H a=some (.lst xs)):a_ K H a xs:=.inl (.inl h)
theorem b6.of(h:H a=some (.tup xs)):b6 K H a xs:=.inl (.inl h)
theorem Inv.list(I:Inv X pins σ H s)(h:a_ X.K H a xs):∃ ah:List Value,Vals xs ah/\PlainL s.heap a ah.toArray/\xs.length<=sizeLine:=by
 rcases h with h|⟨o,ah,n,hk,hc,hd,hs,hz,r⟩
 ·obtain⟨z,ah,n,r,e⟩:=h.ok I.aM;exact⟨ah,r,⟨_,n,e,rfl,rfl,rfl⟩,z⟩
 ·refine⟨ah.toList,r,⟨o,n,I.dn a o hk,hc,hd,by simpa using hs⟩,?_⟩
  have e:=r.length;simp only[Hj] at e;lia
theorem Inv.tuple(I:Inv X pins σ H s)(h:b6 X.K H a xs):∃ ah:List Value,Vals xs ah/\IsTup s.heap a ah.toArray/\xs.length<=sizeLine:=by
 rcases h with h|⟨o,ah,n,hk,hc,hs,hz,r⟩
 ·obtain⟨z,ah,r,p⟩:=h.ok I.aM;exact⟨ah,r,p.to,z⟩
 ·refine⟨ah.toList,r,⟨o,I.dn a o hk,hc,n,by simpa using hs⟩,?_⟩
  have e:=r.length;simp only[Hj] at e;lia
theorem Inv.kj(I:Inv X pins σ H s)(h:a_ X.K H a xs)(h':a_ X.K H a ys):xs=ys:=by
 obtain⟨ah,r,⟨o,n,e,_,_,d⟩,_⟩:=I.list h;obtain⟨its',r',⟨o',n',e',_,_,d'⟩,_⟩:=I.list h';rw[e] at e';cases e';rw[d] at d'
 injection d' with d1 _
 have:ah=its':=by simpa using Fc Array.toList d1
 subst this;exact r.inj r'
theorem Inv.iQ(I:Inv X pins σ H s)(h:b6 X.K H a xs)(h':b6 X.K H a ys):xs=ys:=by
 obtain⟨ah,r,⟨o,e,_,n,d⟩,_⟩:=I.tuple h;obtain⟨its',r',⟨o',e',_,n',d'⟩,_⟩:=I.tuple h';rw[e] at e';cases e';rw[d] at d'
 injection d' with d1 _
 have:ah=its':=by simpa using Fc Array.toList d1
 subst this;exact r.inj r'
end
abbrev Cx.iE(X:Cx)(E:Value->Shared->Prop):Cx:={X with xe:=E}
abbrev Cx.pd(X:Cx):Cx:=X.iE fun _ _=>False
theorem Cx.Ok.iE(ok:X.Ok)(E:Value->Shared->Prop):(X.iE E).Ok:=
 ⟨ok.mod,ok.kind,ok.glob,ok.blt,ok.above,ok.inj,ok.has,ok.uP,ok.hd,ok.frames,ok.wK,ok.zT,ok.bs,ok.pw,ok.jC,ok.ku,ok.e8,ok.rq,ok.tabs⟩
theorem Cx.Ok.dE(ok:(X.iE E).Ok):X.Ok:=
 ⟨ok.mod,ok.kind,ok.glob,ok.blt,ok.above,ok.inj,ok.has,ok.uP,ok.hd,ok.frames,ok.wK,ok.zT,ok.bs,ok.pw,ok.jC,ok.ku,ok.e8,ok.rq,ok.tabs⟩
section
variable {X:Cx} {pins:List (Addr×Obj)} {σ:St} {H:Hp} {s:Shared} {E:Value->Shared->Prop}
theorem Inv.iE(I:Inv X pins σ H s)(E:Value->Shared->Prop):Inv (X.iE E) pins σ H s:=⟨I.ok.iE E,I.os,I.bare,I.base,I.loc,I.cell,I.free,I.bH,I.pin,I.aM,I.len⟩
theorem Inv.dE(I:Inv (X.iE E) pins σ H s):Inv X pins σ H s:=⟨I.ok.dE,I.os,I.bare,I.base,I.loc,I.cell,I.free,I.bH,I.pin,I.aM,I.len⟩
theorem SP.dE{f:Flow}(h:SP (X.iE E) pins D f s'):SP X pins D f s':=by
 cases f with
 |next=>obtain⟨σ',H',I,q⟩:=h;exact⟨σ',H',I.dE,q⟩
 |brk=>obtain⟨σ',H',I,q⟩:=h;exact⟨σ',H',I.dE,q⟩
 |cont=>obtain⟨σ',H',I,q⟩:=h;exact⟨σ',H',I.dE,q⟩
 |ret u=>obtain⟨v,σ',H',I,r,q⟩:=h;exact⟨v,σ',H',I.dE,r,q⟩
theorem nJ.pd{st:List Stmt}{t:TS}(h:nJ X.pd st t):nJ X st t:=fun pins s σ H D I hw =>
 FJ (h pins s σ H D (I.iE _) hw) (fun _ _ q=>q.dE) fun _ _ z=>False.elim z
end
section
variable {X:Cx} {st:Stmt} {rest:List Stmt} {t u:TS} {e:Expr} {te:TE} {pos:Pos}
noncomputable def kH:TS:=fun D σ H=>D.nx σ H
noncomputable def yN(t u:TS):TS:=fun D σ H=>t {D with nx:=u D} σ H
theorem tP:nJ X [] kH:=fun _ _ σ H _ I h=>HE ⟨σ,H,I,h⟩
theorem p_(h1:PS X st t)(h2:nJ X rest u):nJ X (st::rest) (yN t u):=by
 intro pins s σ H D I h;refine wpAny_execs_cons (bg (h1 pins s σ H {D with nx:=u D} I h) fun f s1 q=>?_)
 cases f with
 |next =>
  obtain⟨σ',H',I',q⟩:=q;exact h2 pins s1 σ' H' D I' q
 |ret v=>exact q
 |brk=>exact q
 |cont=>exact q
theorem vi(h1:PS X st t):nJ X [st] t:=by
 intro pins s σ H D I h;refine wpAny_execs_cons (bg (h1 pins s σ H D I h) fun f s1 q=>?_)
 cases f with
 |next=>exact HE q
 |ret v=>exact q
 |brk=>exact q
 |cont=>exact q
theorem Inv.quiet(I:Inv X pins σ H s):interactive X.env=false:=by simp[interactive,I.ok.kind]
noncomputable def kP(te:TE):TS:=fun D σ H=>te σ H fun _ H1=>D.nx σ H1
theorem vV(he:PE X e te)(hs:autoParam (swapsWith e none pos.line X.env=pure false) ℜ0):PS X (.Expr e pos) (kP te):=by
 intro pins s σ H D I h;exact wpAny_Expr_any (bg (he pins s σ H _ I h) fun v s1 ⟨x,H1,I1,r1,q1⟩=>⟨σ,H1,I1,q1⟩) I.quiet hs
noncomputable def qp(te:TE):TS:=fun D σ H=>te σ H D.rt
theorem zA(he:PE X e te):PS X (.Return (some e) pos) (qp te):=by
 intro pins s σ H D I h;exact wpAny_Return_some (bg (he pins s σ H _ I h) fun v s1 ⟨x,H1,I1,r1,q1⟩=>⟨x,σ,H1,I1,r1,q1⟩)
noncomputable def sv(c:TT)(t u:TS):TS:=fun D σ H=>c σ H fun b H1=>if b=true then t D σ H1 else u D σ H1
theorem BO{c:Expr}{a b:List Stmt}{tc:TT}(hc:PT X c tc)(ha:nJ X a t)(hb:nJ X b u):PS X (.If c a b pos) (sv tc t u):=by
 intro pins s σ H D I h;refine wpAny_If (bg (hc pins s σ H _ I h) fun d s1 hq13=>?_);obtain⟨H1,I1,q1⟩:=hq13
 cases d with
 |true=>exact ha pins s1 σ H1 D I1 q1
 |false=>exact hb pins s1 σ H1 D I1 q1
end
abbrev TG:=V->St->Hp->(St->Hp->Prop)->Prop
abbrev pD:=List V->St->Hp->(St->Hp->Prop)->Prop
noncomputable def PG(X:Cx)(target:Expr)(t:TG):Prop:=
 ∀(pins:List (Addr×Obj)) (s:Shared) (σ:St) (H:Hp) (v:V) (u:Value) (Q:St->Hp->Prop),Inv X pins σ H s->RelV v u->t v σ H Q ->
  wpAny (model X.prog X.w) X.A (assign target X.env u) (fun _ s'=>∃ σ' H',Inv X pins σ' H' s'/\Q σ' H') X.xe s
noncomputable def zY(X:Cx)(ts:List Expr)(t:pD):Prop:=
 ∀(pins:List (Addr×Obj)) (s:Shared) (σ:St) (H:Hp) (vs:List V) (us:List Value) (Q:St->Hp->Prop),Inv X pins σ H s->Vals vs us->t vs σ H Q ->
  wpAny (model X.prog X.w) X.A (assignInOrder ((assignEach ts X.env).map (·.2)) us) (fun _ s'=>∃ σ' H',Inv X pins σ' H' s'/\Q σ' H') X.xe s
abbrev sJ:=V->V->V->Hp->(Hp->Prop)->Prop
noncomputable def uE(X:Cx)(t:sJ):Prop:=
 ∀(pins:List (Addr×Obj)) (s:Shared) (σ:St) (H:Hp) (o i v:V) (ov iv u:Value) (Q:Hp->Prop),Inv X pins σ H s->RelV o ov->RelV i iv->RelV v u->t o i v H Q ->
  wpAny (model X.prog X.w) X.A (setItem ov iv u) (fun _ s'=>∃ H',Inv X pins σ H' s'/\Q H') X.xe s
section
variable {X:Cx} {pos:Pos}
noncomputable def bU(i:Nat):TG:=fun v σ H Q=>Q (σ.set i (some v)) H
theorem vB(hN:X.N.Nodup)(hi:X.N[i]?=some x)(hx:Loc X.env.scope x)(hf:autoParam (X.fn x=true\/X.env.scope.names.lookup x=some .local) ℜ2):PG X (.Name x pos) (bU i):=by
 intro pins s σ H v u Q I r h;exact wpAny_assign_Name (iu I hN hi hx r (fun s' I'=>⟨_,H,I',h⟩) hf)
noncomputable def tZ:pD:=fun vs σ H Q=>vs=[]/\Q σ H
noncomputable def iJ(t:TG)(u:pD):pD:=fun vs σ H Q=>∃ v r,vs=v::r/\t v σ H fun σ' H'=>u r σ' H' Q
theorem u_:zY X [] tZ:=by
 intro pins s σ H vs us Q I r h;obtain⟨e,h⟩:=h;subst e;cases r;exact assignInOrder_nil ⟨σ,H,I,h⟩
theorem rO{t:TG}{u:pD}(h1:PG X e t)(h2:zY X es u)
  (hs:autoParam ((assignEach (e::es) X.env).map (·.2)=assign e X.env::(assignEach es X.env).map (·.2)) ℜ0):zY X (e::es) (iJ t u):=by
 intro pins s σ H vs us Q I r h;obtain⟨v,vr,e1,h⟩:=h;subst e1
 cases r with
 |cons r rr =>
  rw[hs];refine assignInOrder_cons (bg (h1 pins s σ H _ _ _ I r h) fun _ s1 hq14=>?_);obtain⟨σ1,H1,I1,q1⟩:=hq14;exact h2 pins s1 σ1 H1 _ _ Q I1 rr q1
noncomputable def wa(K:Ih)(n:Nat)(t:pD):TG:=fun v σ H Q=>∃ a xs,v=.ref a/\b6 K H a xs/\xs.length=n/\t xs σ H Q
theorem rG{t:pD}(hc:X.calm=true)(h:zY X es t)
  (hn:autoParam ((assignEach es X.env).length=n) ℜ0) (hst:autoParam ((assignEach es X.env).findIdx? (·.1)=none) ℜ0):PG X (.Tuple es k pos) (wa X.K n t):=by
 intro pins s σ H v u Q I r hw;obtain⟨a,xs,e1,hq,hl,hw⟩:=hw;subst e1;cases r;obtain⟨ah,rv,ht,hz⟩:=I.tuple hq;refine assign_Tuple_tuple (I.ok.hd hc) ht (by simp[hn,<- hl,rv.length]) hst fun h' hx=>?_
 have I1:Inv X pins σ H {s with heap:=h'}:=I.kept (t':=s.toks) fun b o e=>hx b o (Fd (ER e)) e
 exact h pins _ σ H xs _ Q I1 (by simpa using rv) hw
noncomputable def oK(to ti:TE)(t:sJ):TG:=fun v σ H Q=>to σ H fun o H1=>ti σ H1 fun i H2=>t o i v H2 fun H3=>Q σ H3
theorem rC{o i:Expr}{to ti:TE}{t:sJ}(ho:PE X o to)(hi:PE X i ti)(hs:uE X t)
  (ha:autoParam (∀ v,assign (.Subscript o i pos) X.env v=(do
   let ov <- holding [v] (eval o X.env)
   let iv <- holding [v,ov] (eval i X.env)
   standAt pos
   holding [v,ov,iv] (setItem ov iv v)
   release [v,ov,iv] [])) ℜ3):PG X (.Subscript o i pos) (oK to ti t):=by
 intro pins s σ H v u Q I r h;rw[ha];refine EA (FE (bg (ho pins s σ H _ I h) fun ov s1 hq15=>?_));obtain⟨x,H1,I1,r1,q1⟩:=hq15;refine EA (FE (bg (hi pins s1 σ H1 _ I1 q1) fun iv s2 hq16=>?_));obtain⟨y,H2,I2,r2,q2⟩:=hq16;refine EA (HY (EA (FE (bg (hs pins s2 σ H2 x y v ov iv u _ I2 r1 r2 r q2) fun _ s3 hq17=>?_))));obtain⟨H3,I3,q3⟩:=hq17;exact wpAny_release ⟨σ,H3,I3,q3⟩
noncomputable def lj(te:TE)(g:TG):TS:=fun D σ H=>te σ H fun x H1=>g x σ H1 D.nx
theorem xV{te:TE}{g:TG}(he:PE X e te)(hg:PG X tg g)(hs:autoParam (swapsWithSole [tg] e pos.line X.env=pure false) ℜ0)(hw:autoParam (swappedStores [tg] e X.env=pure none) ℜ0)
  (h1:autoParam ((assignEach [tg] X.env).map (·.2)=[assign tg X.env]) ℜ0):PS X (.Assign [tg] e pos) (lj te g):=by
 intro pins s σ H D I h;refine wpAny_Assign_stores (bg (he pins s σ H _ I h) fun v s1 hq18=>?_) hs hw;obtain⟨x,H1,I1,r1,q1⟩:=hq18;rw[h1];exact bg (hg pins s1 σ H1 x v _ I1 r1 q1) fun _ s2 q=>q
theorem xH{te:TE}{pos':Pos}(hN:X.N.Nodup)(hi:X.N[i]?=some x)(hx:Loc X.env.scope x)(he:PE X e te)(hs:autoParam (swapsWith e (some (.Name x pos')) pos.line X.env=pure false) ℜ0)(hf:autoParam (X.fn x=true\/X.env.scope.names.lookup x=some .local) ℜ2):
  PS X (.Assign [.Name x pos'] e pos) (lj te (bU i)):=by
 intro pins s σ H D I h;refine wpAny_Assign_Name (bg (he pins s σ H _ I h) fun v s1 hq19=>?_) hs;obtain⟨y,H1,I1,r1,q1⟩:=hq19;exact iu I1 hN hi hx r1 (fun s2 I2=>⟨_,H1,I2,q1⟩) hf
end
structure It where
 go:Nat->Hp->Prop
 tJ:Nat->Hp->V->Hp->Prop
 stop:Nat->Hp->Prop
noncomputable def i7(X:Cx)(pins:List (Addr×Obj))(H:Hp)(b:Addr):Prop:=
 H b=none/\b≠X.env.locals/\b∉X.fs/\(b∈X.ex\/X.s₀.heap.objs.size<=b)/\(∀ x c,X.env.cells.lookup x=some c->c≠b)/\∀ p∈X.pn++pins,p.1≠b
theorem Inv.oX{H':Hp}(I:Inv X pins σ H s)(hb:s.heap.objs.size<=b)(hn:H' b=none):i7 X pins H' b:=by
 refine⟨hn,Ha (EO I.lt hb),I.Ds hb,.inr (ES I.sz hb),fun x c e z=>?_,fun p hp z=>?_⟩
 ·obtain⟨v,q⟩:=I.cell x c e;exact absurd (EO q.lt (by rw[z];exact hb)) (F_ _)
 ·exact absurd (EO (ER (I.pin p hp).1) (by rw[z];exact hb)) (F_ _)
structure Turn (P:Program) (w:World) (K:Ih) (tg:Expr) (J:It) (fp:List Addr) (it:Addr) (tn:Nat->Heap->Prop):Prop where
 mem:it∈fp
 obj:∀ i h,tn i h->∀ b∈fp,∃ o,h.get? b=some o/\∀ v,o.data≠.cell v
 keep:∀ i h h',tn i h->(∀ b∈fp,∀ o,h.get? b=some o->h'.get? b=some o)->tn i h'
 item:∀(X:Cx),X.prog=P->X.w=w->X.K=K->X.calm=true->∀(i:Nat) (pins:List (Addr×Obj)) (s:Shared) (σ:St) (H:Hp) (E:Value->Shared->Prop),Inv X pins σ H s->(∀ b∈fp,i7 X pins H b)->tn i s.heap->J.go i H ->
  wpAny (model P w) X.A (pyNext (.ref it)) (fun r s1=>∃ u,r=some u /\
   wpAny (model P w) X.A (letOwnedTupleGo tg (.ref it) u) (fun _ s2=>∃ x H',Inv X pins σ H' s2/\RelV x u/\J.tJ i H x H'/\tn (i+1) s2.heap/\∀ b∈fp,H' b=none) E s1) E s
 done:∀(X:Cx),X.prog=P->X.w=w->X.K=K->X.calm=true->∀(i:Nat) (pins:List (Addr×Obj)) (s:Shared) (σ:St) (H:Hp) (E:Value->Shared->Prop),Inv X pins σ H s->(∀ b∈fp,i7 X pins H b)->tn i s.heap->J.stop i H ->
  wpAny (model P w) X.A (pyNext (.ref it)) (fun r s1=>r=none/\Inv X pins σ H s1) E s
 self:∀(A:Around) (i:Nat) (s:Shared) (Q:Value->Shared->Prop) (E:Value->Shared->Prop),tn i s.heap->Q (.ref it) s->wpAny (model P w) A (pyIter (.ref it)) Q E s
abbrev TI:=St->Hp->(It->Hp->Prop)->Prop
noncomputable def Ee(X:Cx)(pins:List (Addr×Obj))(σ:St)(tg:Expr)(R:It->Hp->Prop)(itv:Value)(s2:Shared):Prop:=
 ∃(it:Addr) (fp:List Addr) (tn:Nat->Heap->Prop) (J:It) (H':Hp),itv=.ref it/\Inv X pins σ H' s2/\Turn X.prog X.w X.K tg J fp it tn/\tn 0 s2.heap/\(∀ b∈fp,i7 X pins H' b)/\R J H'
noncomputable def PI(X:Cx)(tg iter:Expr)(wi:TI):Prop:=
 ∀(pins:List (Addr×Obj)) (s:Shared) (σ:St) (H:Hp) (R:It->Hp->Prop),Inv X pins σ H s->wi σ H R ->
  wpAny (model X.prog X.w) X.A (eval iter X.env) (fun v s1=>wpAny (model X.prog X.w) X.A (pyIter v) (Ee X pins σ tg R) X.xe s1) X.xe s
theorem sF{A:Around}{it:Addr}{o:Obj}{n:String}{vs:Array Value}{Q:Unit->Shared->Prop}(ho:s.heap.get? it=some o)(hc:o.cls=.type n)(hd:o.data=.fields vs)
    (hn:["enumerate","zip","dict_itemiterator","dict_reverseitemiterator","odict_iterator","itertools.zip_longest","itertools.pairwise"].contains n=false) (hQ:Q () s):wpAny M A (letOwnedTupleGo tg (.ref it) u) Q E s:=by
  unfold letOwnedTupleGo
  cases tg<;>first
    |exact EL hQ
    | (cases u<;>first
        |exact EL hQ
        | (refine EA (wpAny_load ho ?_)
           rw[hc,hd];show wpAny M A (if (["enumerate","zip","dict_itemiterator","dict_reverseitemiterator","odict_iterator","itertools.zip_longest","itertools.pairwise"].contains n && vs[0]? == some (rawInt _))=true then _ else _) Q E s
           rw[EB (by intro h;rw[hn,HL] at h;cases h)]
           exact EL hQ))
noncomputable def nU(K:Ih)(a:Addr):It:=
 ⟨fun i H=>∃ xs x,a_ K H a xs/\xs[i]?=some x,fun i H x H'=>H'=H/\∀ xs,a_ K H a xs->xs[i]?=some x,fun i H=>∃ xs,a_ K H a xs/\xs.length<=i⟩
noncomputable def tD(K:Ih)(a:Addr):It:=
 ⟨fun i H=>∃ xs x,b6 K H a xs/\xs[i]?=some x,fun i H x H'=>H'=H/\∀ xs,b6 K H a xs->xs[i]?=some x,fun i H=>∃ xs,b6 K H a xs/\xs.length<=i⟩
noncomputable def t5(lo:Int)(n:Nat):It:=⟨fun i _=>i<n,fun i H x H'=>H'=H/\x=.int (lo+i),fun i _=>n<=i⟩
theorem iP(a it:Addr):Turn P w K tg (nU K a) [it] it (fun i h=>h.IsListIter it a i) where
 mem:=by simp
 obj:=fun i h st b hb=>by
  have e:b=it:=by simpa using hb
  subst e;obtain⟨o,e,c,d⟩:=st;exact⟨o,e,fun v z=>by rw[d] at z;cases z⟩
 keep:=fun i h h' st k=>st.at fun o e=>k it (by simp) o e
 item:=by
  intro X hP hw hK hc i pins s σ H E I hf st hg;subst hP hw hK;obtain⟨xs,x,hq,hx⟩:=hg;obtain⟨ah,rv,p,hz⟩:=I.list hq;obtain⟨u,hu,ru⟩:=rv.get hx;obtain⟨f0,f1,f2,f3,f4,f5⟩:=hf it (by simp)
  refine HH st p.isList (x:=u) (by simpa using hu) fun h' st' sb=>?_
  have I1:Inv X pins σ H {s with heap:=h'}:=I.turned (t':=s.toks) (fun b o hb e=>(sb.2 b hb).trans e) f0 f1 f3 f4 f5
  obtain⟨o,e,c,d⟩:=id st';exact⟨u,rfl,sF (s:={s with heap:=h'}) e c d (by decide) ⟨x,H,I1,ru,⟨rfl,fun ys hy=>by rw[I.kj hy hq];exact hx⟩,st',fun b hb=>(hf b hb).1⟩⟩
 done:=by
  intro X hP hw hK hc i pins s σ H E I hf st hg;subst hP hw hK;obtain⟨xs,hq,hx⟩:=hg;obtain⟨ah,rv,p,hz⟩:=I.list hq;obtain⟨f0,f1,f2,f3,f4,f5⟩:=hf it (by simp)
  have hl:=rv.length;exact wpAny_pyNext_list_end (I.ok.hd hc) st p.isList (by simp;lia) fun h' eb=>⟨rfl,I.turned (t':=s.toks) (fun b o hb e=>eb b o hb e) f0 f1 f3 f4 f5⟩
 self:=fun _ _ _ _ _ st h=>wpAny_pyIter_listiter st h
theorem gW(a it:Addr):Turn P w K tg (tD K a) [it] it (fun i h=>h.IsTupleIter it a i) where
 mem:=by simp
 obj:=fun i h st b hb=>by
  have e:b=it:=by simpa using hb
  subst e;obtain⟨o,e,c,d⟩:=st;exact⟨o,e,fun v z=>by rw[d] at z;cases z⟩
 keep:=fun i h h' st k=>st.at fun o e=>k it (by simp) o e
 item:=by
  intro X hP hw hK hc i pins s σ H E I hf st hg;subst hP hw hK;obtain⟨xs,x,hq,hx⟩:=hg;obtain⟨ah,rv,p,hz⟩:=I.tuple hq;obtain⟨u,hu,ru⟩:=rv.get hx;obtain⟨f0,f1,f2,f3,f4,f5⟩:=hf it (by simp)
  refine wpAny_pyNext_tuple_item st (show s.heap.IsTuple a ah.toArray from p) (x:=u) (by simpa using hu) fun h' st' sb=>?_
  have I1:Inv X pins σ H {s with heap:=h'}:=I.turned (t':=s.toks) (fun b o hb e=>(sb.2 b hb).trans e) f0 f1 f3 f4 f5
  obtain⟨o,e,c,d⟩:=id st';exact⟨u,rfl,sF (s:={s with heap:=h'}) e c d (by decide) ⟨x,H,I1,ru,⟨rfl,fun ys hy=>by rw[I.iQ hy hq];exact hx⟩,st',fun b hb=>(hf b hb).1⟩⟩
 done:=by
  intro X hP hw hK hc i pins s σ H E I hf st hg;subst hP hw hK;obtain⟨xs,hq,hx⟩:=hg;obtain⟨ah,rv,p,hz⟩:=I.tuple hq;obtain⟨f0,f1,f2,f3,f4,f5⟩:=hf it (by simp)
  have hl:=rv.length;exact wpAny_pyNext_tuple_end (I.ok.hd hc) st (show s.heap.IsTuple a ah.toArray from p) (by simp;lia) fun h' eb=>⟨rfl,I.turned (t':=s.toks) (fun b o hb e=>eb b o hb e) f0 f1 f3 f4 f5⟩
 self:=fun _ _ _ _ _ st h=>wpAny_pyIter_tupleiter st h
theorem m9{w:World}(it:Addr)(lo:Int)(n:Nat):Turn P w K tg (t5 lo n) [it] it (fun i h=>IsRangeIter h it (lo+(i:Nat)*1) ((n:Int)-(i:Nat)) 1) where
 mem:=by simp
 obj:=fun i h st b hb=>by
  have e:b=it:=by simpa using hb
  subst e;exact⟨_,st,fun v z=>by
   have z':Data.fields _=Data.cell v:=z
   cases z'⟩
 keep:=fun i h h' st k=>k it (by simp) _ st
 item:=by
  intro X hP hw hK hc i pins s σ H E I hf st hg;subst hP hw hK;obtain⟨f0,f1,f2,f3,f4,f5⟩:=hf it (by simp)
  have W:=Walks.range (prog:=X.prog) (w:=X.w) (I.ok.hd hc) it lo 1 n;refine W.item i s _ _ hg st fun v h' tk hv st' kk=>?_;obtain⟨t,rfl⟩:=hv;have I1:Inv X pins σ H {s with heap:=h',toks:=tk}:=I.turned (fun b o hb e=>kk b o (by simpa using hb) e) f0 f1 f3 f4 f5
  refine⟨_,rfl,sF (s:={s with heap:=h',toks:=tk}) (n:="range_iterator") st' rfl rfl (by decide) ⟨.int (lo+i),H,I1,⟨t,?_⟩,⟨rfl,rfl⟩,st',fun b hb=>(hf b hb).1⟩⟩
  rw[Int.mul_one]
 done:=by
  intro X hP hw hK hc i pins s σ H E I hf st hg;subst hP hw hK;obtain⟨f0,f1,f2,f3,f4,f5⟩:=hf it (by simp)
  exact wpAny_pyNext_range_end (I.ok.hd hc) st (by have:n<=i:=hg;lia) fun h' eb=>⟨rfl,I.turned (t':=s.toks) (fun b o hb e=>eb b o hb e) f0 f1 f3 f4 f5⟩
 self:=fun _ _ _ _ _ st h=>wpAny_pyIter_rangeiter st h
section
variable {X:Cx} {tg:Expr}
theorem qu{R:It->Hp->Prop}{lo hi:Int}{t u v:Tok}{tk:Nat}(I:Inv X pins σ H s)(h1:-(2^62)<=lo)(h2:lo<2^62)(h3:-(2^62)<=hi)(h4:hi<2^62)
  (q:R (t5 lo (hi-lo).toNat) H):wpAny (model X.prog X.w) X.A (pyIter (.ref s.heap.objs.size)) (Ee X pins σ tg R) E {s with heap:=s.heap.push {cls:=.type "range",data:=.fields #[.int lo t,.int hi u,.int 1 v]},toks:=tk}:=by
 refine wpAny_pyIter_range (IsRange.new ..) (small_one h1 h2 h3 h4) ?_;have I1:Inv X pins σ H {s with heap:=s.heap.push {cls:=.type "range",data:=.fields #[.int lo t,.int hi u,.int 1 v]},toks:=tk}:=I.kept fun b o e=>EC _ e
 refine⟨(s.heap.push {cls:=.type "range",data:=.fields #[.int lo t,.int hi u,.int 1 v]}).objs.size,[(s.heap.push {cls:=.type "range",data:=.fields #[.int lo t,.int hi u,.int 1 v]}).objs.size],_,_,H,rfl,
  I1.kept (t':=tk) fun b o e=>EC _ e,m9 _ lo (hi-lo).toNat,?_,fun b hb=>?_,q⟩
 ·have e1:lo+((0:Nat):Int)*1=lo:=by simp
  have e2:(((hi-lo).toNat:Nat):Int)-((0:Nat):Int)=Builtin.Range.rangeSize lo hi 1:=by rw[rangeSize_one];split<;>lia
  show IsRangeIter _ _ (lo+((0:Nat):Int)*1) ((((hi-lo).toNat:Nat):Int)-((0:Nat):Int)) 1;rw[e1,e2];exact EV _ rfl
 ·have e:b=(s.heap.push {cls:=.type "range",data:=.fields #[.int lo t,.int hi u,.int 1 v]}).objs.size:=by simpa using hb
  subst e;exact I1.oX (EH _) (I1.aM.fresh (EH _))
noncomputable def jj(ta:TA):TI:=fun σ H R=>ta σ H fun vs H1=>∃ j:Int,vs=[.int j]/\-(2^62)<=j/\j<2^62/\R (t5 0 j.toNat) H1
theorem oU{a:Expr}{ta:TA}{p:Pos}(hg:Gl X "range")(hm:X.mg "range"=none)(ha:PA X [a] ta)(hs:autoParam (starEach [a] X.env=[(false,eval a X.env)]) ℜ0):PI X tg (.Call (.Name "range" p) [a] [] pos) (jj ta):=by
 intro pins s σ H R I h;refine Call_ (hZ I hg hm boot_range (GC (bg (ha pos pins s σ H _ I h) fun us s1 hq31=>?_) hs rfl));obtain⟨vs,H1,I1,r1,q1⟩:=hq31;obtain⟨j,e,q1,q2,q⟩:=q1;subst e
 cases r1 with
 |cons r rr =>
  cases rr;obtain⟨t,rfl⟩:=r;exact call_range_1 (qu I1 (by lia) (by lia) q1 q2 (by simpa using q))
noncomputable def yk(wi:TI)(g:TG)(tb:TS):TS:=fun D σ H=>wi σ H fun J H1=>∃ W:Nat->Nat->St->Hp->Prop,(∃ m,W 0 m σ H1)/\∀ i m σ H,W i m σ H ->
 (J.stop i H/\D.nx σ H)\/(J.go i H/\∃ N:St->Hp->Prop,(∀ σ' H',N σ' H'->∃ m',m'<m/\W (i+1) m' σ' H')/\∀ x H',J.tJ i H x H'->g x σ H' fun σ2 H2=>tb {D with nx:=N,ct:=N,bk:=D.nx} σ2 H2)
noncomputable def ic(fp:List Addr)(h:Heap):List (Addr×Obj):=fp.filterMap fun b=>(h.get? b).map fun o=>(b,o)
theorem dA{o:Obj}(hb:b∈fp)(e:h.get? b=some o):(b,o)∈ic fp h:=Hl.mpr ⟨b,hb,by rw[e];rfl⟩
theorem oi{p:Addr×Obj}(hp:p∈ic fp h):p.1∈fp/\h.get? p.1=some p.2:=by
 obtain⟨b,hb,e⟩:=Hl.mp hp
 cases q:h.get? b with
 |none=>rw[q] at e;cases e
 |some o =>
  rw[q] at e;have e':(b,o)=p:=Option.some.inj e;subst e';exact⟨hb,q⟩
theorem Inv.pinned(I:Inv X pins σ H s)(hf:∀ b∈fp,i7 X pins H b)(ho:∀ b∈fp,∃ o,s.heap.get? b=some o/\∀ v,o.data≠.cell v):Inv X (pins++ic fp s.heap) σ H s:=
 I.mJ fun p hp=>(Fn.mp hp).elim (fun z=>I.pin p (Fi _ z)) fun z=>by
  obtain⟨hb,e⟩:=oi z;obtain⟨f0,f1,f2,_⟩:=hf p.1 hb;obtain⟨o,e',d⟩:=ho p.1 hb;rw[e] at e';cases e';exact⟨e,f0,f1,f2,d⟩
theorem Inv.dG{pl:List (Addr×Obj)}(I:Inv X (pins++pl) σ H s):Inv X pins σ H s:=I.mJ fun p hp=>I.pin p (Fi _ (G_ _ hp))
theorem xG{iter:Expr}{wi:TI}{g:TG}(hp:PassesOwn (model X.prog X.w) X.A X.env X.xe)(hc:X.calm=true)(hi:PI X tg iter wi)(hg:PG X tg g)(hb:nJ X body tb)
  (hs:autoParam (∀ x,foldedSetIterable iter X.env x=pure x) ℜ3):PS X (.For tg iter body [] pos) (yk wi g tb):=by
 intro pins s σ H D I h;refine wpAny_For (bg (hi pins s σ H _ I h) fun v s1 h1=>bg h1 fun itv s2 h2=>?_) hs;obtain⟨it,fp,tn,J,H2,e,I2,T,st2,f2,W,⟨m0,w0⟩,turn⟩:=h2;subst e;have stat:∀{H':Hp},(∀ b∈fp,H' b=none)->∀ b∈fp,i7 X pins H' b:=fun hn b hb=>⟨hn b hb,(f2 b hb).2⟩;refine codeAny_forLoop_any (fun n s'=>∃ i σ' H',Inv X pins σ' H' s'/\tn i s'.heap/\(∀ b∈fp,H' b=none)/\W i n σ' H') ?_ m0 ⟨0,σ,H2,I2,st2,fun b hb=>(f2 b hb).1,w0⟩;rintro n s3 ⟨i,σ3,H3,I3,st3,fr3,w3⟩;rcases turn i n σ3 H3 w3 with ⟨stop,qn⟩|⟨go,N,hN,step⟩
 ·refine GI hp (bg (T.done X rfl rfl rfl hc i pins s3 σ3 H3 X.xe I3 (stat fr3) st3 stop) fun r s4 hq33=>?_);obtain⟨hr,I4⟩:=hq33;subst hr;exact HE ⟨σ3,H3,I4,qn⟩
 ·refine GI hp (bg (T.item X rfl rfl rfl hc i pins s3 σ3 H3 X.xe I3 (stat fr3) st3 go) fun r s4 hq34=>?_);obtain⟨u,hr,h4⟩:=hq34;subst hr;refine GI hp (bg h4 fun _ s5 hq35=>?_);obtain⟨x,H5,I5,r5,y5,st5,fr5⟩:=hq35;have I5':=I5.pinned (stat fr5) (T.obj _ _ st5);refine GI hp (bg (hg _ s5 σ3 H5 x u _ I5' r5 (step x H5 y5)) fun _ s6 hq36=>?_);obtain⟨σ6,H6,I6,q6⟩:=hq36;refine GI hp (bg (hb _ s6 σ6 H6 _ I6 q6) fun f s7 q7=>?_);have again:∀{σ7:St} {H7:Hp},Inv X (pins++ic fp s5.heap) σ7 H7 s7->N σ7 H7->∃ m,m<n/\∃ i σ' H',Inv X pins σ' H' s7/\tn i s7.heap/\(∀ b∈fp,H' b=none)/\W i m σ' H':=fun {σ7 H7} I7 n7=>by
   obtain⟨m',hm,w7⟩:=hN σ7 H7 n7;refine⟨m',hm,i+1,σ7,H7,I7.dG,T.keep _ _ _ st5 fun b hb o e=>(I7.pin (b,o) (Fi _ (Fi _ (dA hb e)))).1,fun b hb=>?_,w7⟩;obtain⟨o,e,d⟩:=T.obj _ _ st5 b hb;exact (I7.pin (b,o) (Fi _ (Fi _ (dA hb e)))).2.1
  cases f with
  |next=>obtain⟨σ7,H7,I7,n7⟩:=q7;exact again I7 n7
  |cont=>obtain⟨σ7,H7,I7,n7⟩:=q7;exact again I7 n7
  |brk=>obtain⟨σ7,H7,I7,q7⟩:=q7;exact⟨σ7,H7,I7.dG,q7⟩
  |ret v=>obtain⟨x7,σ7,H7,I7,r7,q7⟩:=q7;exact⟨x7,σ7,H7,I7.dG,r7,q7⟩
end
theorem qU{g:TG}(Pv:Nat->St->Hp->Prop)(h0:Pv 0 σ H)(hl:∀ i σ H,i<=xs.length->Pv i σ H->a_ K H a xs)
  (hs:∀ i x σ H,xs[i]?=some x->Pv i σ H->g x σ H fun σ2 H2=>tb {D with nx:=Pv (i+1),ct:=Pv (i+1),bk:=D.nx} σ2 H2) (hd:∀ σ H,Pv xs.length σ H->D.nx σ H) :
  ∃ W:Nat->Nat->St->Hp->Prop,(∃ m,W 0 m σ H)/\∀ i m σ H,W i m σ H ->
   ((nU K a).stop i H/\D.nx σ H)\/((nU K a).go i H/\∃ N:St->Hp->Prop,(∀ σ' H',N σ' H'->∃ m',m'<m/\W (i+1) m' σ' H')/\∀ x H',(nU K a).tJ i H x H'->g x σ H' fun σ2 H2=>tb {D with nx:=N,ct:=N,bk:=D.nx} σ2 H2):=by
 refine⟨fun i m σ H=>m=xs.length-i/\i<=xs.length/\Pv i σ H,⟨xs.length,by simp,Fo _,h0⟩,?_⟩
 rintro i m σ H ⟨rfl,hi,p⟩;have q:=hl i σ H hi p;by_cases hlt:i<xs.length
 ·refine .inr ⟨⟨xs,xs[i],q,by simp[hlt]⟩,Pv (i+1),fun σ' H' p'=>⟨xs.length-(i+1),by lia,rfl,hlt,p'⟩,fun x H' y=>?_⟩
  obtain⟨e,y⟩:=y;subst e;exact hs i x σ _ (y xs q) p
 ·have e:i=xs.length:=by lia
  subst e;exact .inl ⟨⟨xs,q,EH _⟩,hd σ H p⟩
theorem pH{lo:Int}{g:TG}(Pv:Nat->St->Hp->Prop)(h0:Pv 0 σ H)
  (hs:∀ i σ H,i<n->Pv i σ H->g (.int (lo+i)) σ H fun σ2 H2=>tb {D with nx:=Pv (i+1),ct:=Pv (i+1),bk:=D.nx} σ2 H2) (hd:∀ σ H,Pv n σ H->D.nx σ H) :
  ∃ W:Nat->Nat->St->Hp->Prop,(∃ m,W 0 m σ H)/\∀ i m σ H,W i m σ H ->
   ((t5 lo n).stop i H/\D.nx σ H)\/((t5 lo n).go i H/\∃ N:St->Hp->Prop,(∀ σ' H',N σ' H'->∃ m',m'<m/\W (i+1) m' σ' H')/\∀ x H',(t5 lo n).tJ i H x H'->g x σ H' fun σ2 H2=>tb {D with nx:=N,ct:=N,bk:=D.nx} σ2 H2):=by
 refine⟨fun i m σ H=>m=n-i/\i<=n/\Pv i σ H,⟨n,by simp,Fo _,h0⟩,?_⟩
 rintro i m σ H ⟨rfl,hi,p⟩;by_cases hlt:i<n
 ·refine .inr ⟨hlt,Pv (i+1),fun σ' H' p'=>⟨n-(i+1),by lia,rfl,hlt,p'⟩,fun x H' y=>?_⟩
  obtain⟨e,y⟩:=y;subst e y;exact hs i σ _ hlt p
 ·have e:i=n:=by lia
  subst e;exact .inl ⟨EH _,hd σ H p⟩
abbrev R2:=V->V->Hp->VK->Prop
variable{r:R2}
noncomputable def bZ(X:Cx)(f:Value->Value->Sem Value)(r:R2):Prop:=
 ∀(pins:List (Addr×Obj)) (s:Shared) (σ:St) (H:Hp) (x y:V) (v u:Value) (Q:VK),Inv X pins σ H s->RelV x v->RelV y u->r x y H Q ->
  wpAny (model X.prog X.w) X.A (f v u) (EP X pins σ Q) X.xe s
noncomputable def CD(X:Cx)(f:Value->Sem Value)(r:V->Hp->VK->Prop):Prop:=
 ∀(pins:List (Addr×Obj)) (s:Shared) (σ:St) (H:Hp) (x:V) (v:Value) (Q:VK),Inv X pins σ H s->RelV x v->r x H Q ->
  wpAny (model X.prog X.w) X.A (f v) (EP X pins σ Q) X.xe s
noncomputable def aP(X:Cx)(f:Value)(r:List V->Hp->VK->Prop):Prop:=
 ∀(pins:List (Addr×Obj)) (s:Shared) (σ:St) (H:Hp) (xs:List V) (us:List Value) (Q:VK),Inv X pins σ H s->Vals xs us->r xs H Q ->
  wpAny (model X.prog X.w) X.A (call f us) (EP X pins σ Q) X.xe s
noncomputable def Dh(X:Cx)(r:V->Hp->(Bool->Hp->Prop)->Prop):Prop:=
 ∀(pins:List (Addr×Obj)) (s:Shared) (σ:St) (H:Hp) (x:V) (v:Value) (Q:Bool->Hp->Prop),Inv X pins σ H s->RelV x v->r x H Q ->
  wpAny (model X.prog X.w) X.A (truthy v) (TP X pins σ Q) X.xe s
noncomputable def pq(r:R2)(ta tb:TE):TE:=fun σ H Q=>ta σ H fun x H1=>tb σ H1 fun y H2=>r x y H2 Q
noncomputable def AW(r:V->Hp->VK->Prop)(ta:TE):TE:=fun σ H Q=>ta σ H fun x H1=>r x H1 Q
noncomputable def rI(C:Int->Int->Prop)(g:Int->Int->V):R2:=fun x y H Q=>∃ i j,x=.int i/\y=.int j/\C i j/\Q (g i j) H
noncomputable def pR(g:Int->Int->V):R2:=fun x y H Q=>∃ i j,x=.int i/\y=.int j/\Q (g i j) H
noncomputable def rU(g:Int->V):V->Hp->VK->Prop:=fun x H Q=>∃ i,x=.int i/\Q (g i) H
section
variable {X:Cx} {a b c:Expr} {ta tb tc:TE} {pos:Pos}
theorem zp(ha:PE X a ta)(hb:PE X b tb){R:V->V->Hp->Prop}(I:Inv X pins σ H s)
  (h:ta σ H fun x H1=>tb σ H1 fun y H2=>R x y H2)  
  (hf:∀ v u s2 x y H2,Inv X pins σ H2 s2->RelV x v->RelV y u->R x y H2->wpAny (model X.prog X.w) X.A (f v u) Q X.xe s2) :
  wpAny (model X.prog X.w) X.A (eval a X.env) (fun v s₁=>wpAny (model X.prog X.w) X.A (eval b X.env) (fun u s₂=>wpAny (model X.prog X.w) X.A (f v u) Q X.xe s₂) X.xe s₁) X.xe s:=by
 refine bg (ha pins s σ H _ I h) fun v s1 hq37=>?_;obtain⟨x,H1,I1,r1,q1⟩:=hq37;refine bg (hb pins s1 σ H1 _ I1 q1) fun u s2 hq38=>?_;obtain⟨y,H2,I2,r2,q2⟩:=hq38;exact hf v u s2 x y H2 I2 r1 r2 q2
theorem Ci{op:Operator}(ho:bZ X (binaryOp op) r)(ha:PE X a ta)(hb:PE X b tb):PE X (.BinOp a op b pos) (pq r ta tb):=by
 intro pins s σ H Q I h;exact wpAny_BinOp (zp ha hb I h fun v u s2 x y H2 I2 rx ry q=>ho pins s2 σ H2 x y v u Q I2 rx ry q)
theorem AV{op:UnaryOp}{r:V->Hp->VK->Prop}(ho:CD X (unaryOp op) r)(ha:PE X a ta):PE X (.UnaryOp op a pos) (AW r ta):=by
 intro pins s σ H Q I h;exact UnaryOp_ (bg (ha pins s σ H _ I h) fun v s1 ⟨x,H1,I1,r1,q1⟩=>ho pins s1 σ H1 x v Q I1 r1 q1)
theorem Be{C:Int->Int->Prop}{g:Int->Int->Int}
  (rule:∀(i j:Int) (t u:Tok) (s:Shared) (Q:Value->Shared->Prop) (E:Value->Shared->Prop),C i j->Q (.int (g i j) s.toks) {s with toks:=s.toks+1}->wpAny (model X.prog X.w) X.A (f (.int i t) (.int j u)) Q E s) :
  bZ X f (rI C fun i j=>.int (g i j)):=by
 intro pins s σ H x y v u Q I rx ry h;obtain⟨i,j,rfl,rfl,hc,q⟩:=h;obtain⟨t,rfl⟩:=rx;obtain⟨t',rfl⟩:=ry;exact rule i j t t' s _ _ hc ⟨.int (g i j),H,I.tok _,⟨_,rfl⟩,q⟩
theorem AN{g:Int->Int->Int}
  (rule:∀(i j:Int) (t u:Tok) (s:Shared) (Q:Value->Shared->Prop) (E:Value->Shared->Prop),Q (.int (g i j) s.toks) {s with toks:=s.toks+1}->wpAny (model X.prog X.w) X.A (f (.int i t) (.int j u)) Q E s) :
  bZ X f (pR fun i j=>.int (g i j)):=by
 intro pins s σ H x y v u Q I rx ry h;obtain⟨i,j,rfl,rfl,q⟩:=h;obtain⟨t,rfl⟩:=rx;obtain⟨t',rfl⟩:=ry;exact rule i j t t' s _ _ ⟨.int (g i j),H,I.tok _,⟨_,rfl⟩,q⟩
theorem yU{g:Int->Int->Bool}
  (rule:∀(i j:Int) (t u:Tok) (s:Shared) (Q:Value->Shared->Prop) (E:Value->Shared->Prop),Q (.bool (g i j)) s->wpAny (model X.prog X.w) X.A (f (.int i t) (.int j u)) Q E s) :
  bZ X f (pR fun i j=>.bl (g i j)):=by
 intro pins s σ H x y v u Q I rx ry h;obtain⟨i,j,rfl,rfl,q⟩:=h;obtain⟨t,rfl⟩:=rx;obtain⟨t',rfl⟩:=ry;exact rule i j t t' s _ _ ⟨.bl (g i j),H,I,rfl,q⟩
noncomputable def Bp(i j:Int):Prop:=0<=j/\j<=1000000/\i.natAbs<2^64
noncomputable def lg(i j:Int):Prop:=(-(2^64)<i/\i<2^64)\/(-(2^64)<j/\j<2^64)
theorem lg.ok{i j:Int}(h:lg i j):IntMulOk i j:=by
 rcases h with ⟨h1,h2⟩|⟨h1,h2⟩
 ·exact .of_left (intBits_le_64 h1 h2)
 ·exact .of_right (intBits_le_64 h1 h2)
theorem qI:bZ X (binaryOp .Add) (pR fun i j=>.int (i+j)):=AN fun _ _ _ _ _ _ _ q=>add_int q
theorem dO:bZ X (binaryOp .Sub) (pR fun i j=>.int (i-j)):=AN fun _ _ _ _ _ _ _ q=>sub_int q
theorem xZ:bZ X (binaryOp .Mult) (rI lg fun i j=>.int (i*j)):=Be fun _ _ _ _ _ _ _ hc q=>mul_int q hc.ok
theorem dq:bZ X (binaryOp .Mod) (rI (fun _ j=>0<j) fun i j=>.int (i % j)):=Be fun i j _ _ _ _ _ hc q=>by
 have h1:(0:Int)<j:=hc;exact mod_int' (by lia) (by rw[Int.fmod_eq_emod_of_nonneg i (by lia)];exact q)
theorem sL:bZ X (binaryOp .Pow) (rI Bp fun i j=>.int (i^j.toNat)):=Be fun _ _ _ _ _ _ _ hc q=>pow_int_small hc.1 hc.2.1 hc.2.2 q
theorem xj:bZ X (binaryOp .LShift) (rI Bp fun i j=>.int (i*2^j.toNat)):=Be fun _ _ _ _ _ _ _ hc q=>lshift_int_small hc.1 hc.2.1 hc.2.2 q
theorem E2{f:Value->Sem Value}{g:Int->Int}
  (rule:∀(i:Int) (t:Tok) (s:Shared) (Q:Value->Shared->Prop) (E:Value->Shared->Prop),Q (.int (g i) s.toks) {s with toks:=s.toks+1}->wpAny (model X.prog X.w) X.A (f (.int i t)) Q E s) :
  CD X f (rU fun i=>.int (g i)):=by
 intro pins s σ H x v Q I rx h;obtain⟨i,rfl,q⟩:=h;obtain⟨t,rfl⟩:=rx;exact rule i t s _ _ ⟨.int (g i),H,I.tok _,⟨_,rfl⟩,q⟩
theorem eL:CD X (unaryOp .USub) (rU fun i=>.int (-i)):=E2 fun _ _ _ _ _ q=>neg_int q
end
noncomputable def Al:V->V->Bool
 |.ay,.ay=>true|.ay,.int _=>true|.int _,.ay=>true|.ay,.bl _=>true|.bl _,.ay=>true|.ay,.str _=>true|.str _,.ay=>true
 |.int _,.int _=>true|.bl _,.bl _=>true|.str _,.str _=>true|.ly _,.ly _=>true
 |.int _,.str _=>true|.str _,.int _=>true|.bl _,.str _=>true|.str _,.bl _=>true
 |_,_=>false
noncomputable def Ag:R2:=fun x y H Q=>Al x y=true/\Q (.bl (decide (x=y))) H
noncomputable def Ek:R2:=fun x y H Q=>Al x y=true/\Q (.bl (!decide (x=y))) H
theorem nO{i j:Int}:decide (V.int i=V.int j)=(i == j):=by
 rw[Hb];simp
theorem qk{i j:Bool}:decide (V.bl i=V.bl j)=(i == j):=by
 rw[Hb];simp
theorem mM{i j:Str}:decide (V.str i=V.str j)=(i == j):=by
 rw[Hb];simp
theorem mH{i j:Array UInt8}:decide (V.ly i=V.ly j)=(i.toList == j.toList):=by
 rw[Hb];cases i;cases j;simp
section
variable {X:Cx} {a b c:Expr} {ta tb tc:TE} {pos:Pos}
theorem az{Q:VK}{k k':Bool}(I:Inv X pins σ H s)(q:Q (.bl k) H)(e:k=k'):EP X pins σ Q (.bool k') s:=by
 subst e;exact⟨.bl k,H,I,rfl,q⟩
theorem wQ:bZ X (compareOp .Eq) Ag:=by
 intro pins s σ H x y v u Q I rx ry h;obtain⟨hs,q⟩:=h
 cases x with
 |ay =>
  cases rx
  cases y with
  |ay=>cases ry;exact PySem.EqNone.eq_none_none (az I q (by simp))
  |bl j=>cases ry;exact PySem.EqNone.eq_none_bool (az I q (by simp))
  |int j=>obtain⟨t',rfl⟩:=ry;exact PySem.EqNone.eq_none_int (az I q (by simp))
  |str j=>obtain⟨t',rfl⟩:=ry;exact PySem.EqNone.eq_none_str (az I q (by simp))
  |_=>exact absurd (show false=true from hs) EF
 |bl i =>
  cases rx
  cases y with
  |ay=>cases ry;exact PySem.EqNone.eq_bool_none (az I q (by simp))
  |bl j=>cases ry;exact eq_bool (az I q qk)
  |str j=>obtain⟨t',rfl⟩:=ry;exact PySem.EqMixed.eq_bool_str (az I q (by simp))
  |_=>exact absurd (show false=true from hs) EF
 |int i =>
  obtain⟨t,rfl⟩:=rx
  cases y with
  |ay=>cases ry;exact PySem.EqNone.eq_int_none (az I q (by simp))
  |int j=>obtain⟨t',rfl⟩:=ry;exact eq_int (az I q nO)
  |str j=>obtain⟨t',rfl⟩:=ry;exact PySem.EqMixed.eq_int_str (az I q (by simp))
  |_=>exact absurd (show false=true from hs) EF
 |str i =>
  obtain⟨t,rfl⟩:=rx
  cases y with
  |ay=>cases ry;exact PySem.EqNone.eq_str_none (az I q (by simp))
  |bl j=>cases ry;exact PySem.EqMixed.eq_str_bool (az I q (by simp))
  |int j=>obtain⟨t',rfl⟩:=ry;exact PySem.EqMixed.eq_str_int (az I q (by simp))
  |str j=>obtain⟨t',rfl⟩:=ry;exact eq_str (az I q mM)
  |_=>exact absurd (show false=true from hs) EF
 |ly i =>
  obtain⟨t,rfl⟩:=rx
  cases y with
  |ly j=>obtain⟨t',rfl⟩:=ry;exact PySem.W.eq_bytes (az I q mH)
  |_=>exact absurd (show false=true from hs) EF
 |_=>cases y<;>exact absurd (show false=true from hs) EF
theorem Ay:bZ X (compareOp .NotEq) Ek:=by
 intro pins s σ H x y v u Q I rx ry h;obtain⟨hs,q⟩:=h
 cases x with
 |ay =>
  cases rx
  cases y with
  |ay=>cases ry;exact PySem.EqNone.ne_none_none (az I q (by simp))
  |bl j=>cases ry;exact PySem.EqNone.ne_none_bool (az I q (by simp))
  |int j=>obtain⟨t',rfl⟩:=ry;exact PySem.EqNone.ne_none_int (az I q (by simp))
  |str j=>obtain⟨t',rfl⟩:=ry;exact PySem.EqNone.ne_none_str (az I q (by simp))
  |_=>exact absurd (show false=true from hs) EF
 |bl i =>
  cases rx
  cases y with
  |ay=>cases ry;exact PySem.EqNone.ne_bool_none (az I q (by simp))
  |bl j=>cases ry;exact ne_bool (az I q (Fc not qk))
  |str j=>obtain⟨t',rfl⟩:=ry;exact PySem.EqMixed.ne_bool_str (az I q (by simp))
  |_=>exact absurd (show false=true from hs) EF
 |int i =>
  obtain⟨t,rfl⟩:=rx
  cases y with
  |ay=>cases ry;exact PySem.EqNone.ne_int_none (az I q (by simp))
  |int j=>obtain⟨t',rfl⟩:=ry;exact ne_int (az I q (Fc not nO))
  |str j=>obtain⟨t',rfl⟩:=ry;exact PySem.EqMixed.ne_int_str (az I q (by simp))
  |_=>exact absurd (show false=true from hs) EF
 |str i =>
  obtain⟨t,rfl⟩:=rx
  cases y with
  |ay=>cases ry;exact PySem.EqNone.ne_str_none (az I q (by simp))
  |bl j=>cases ry;exact PySem.EqMixed.ne_str_bool (az I q (by simp))
  |int j=>obtain⟨t',rfl⟩:=ry;exact PySem.EqMixed.ne_str_int (az I q (by simp))
  |str j=>obtain⟨t',rfl⟩:=ry;exact ne_str (az I q (Fc not mM))
  |_=>exact absurd (show false=true from hs) EF
 |ly i =>
  obtain⟨t,rfl⟩:=rx
  cases y with
  |ly j=>obtain⟨t',rfl⟩:=ry;exact PySem.W.ne_bytes (az I q (Fc not mH))
  |_=>exact absurd (show false=true from hs) EF
 |_=>cases y<;>exact absurd (show false=true from hs) EF
theorem kx:bZ X (compareOp .Lt) (pR fun i j=>.bl (decide (i<j))):=yU fun _ _ _ _ _ _ _ q=>lt_int q
theorem wW:bZ X (compareOp .Gt) (pR fun i j=>.bl (decide (j<i))):=yU fun _ _ _ _ _ _ _ q=>gt_int q
theorem Bw:bZ X (compareOp .GtE) (pR fun i j=>.bl (decide (j<=i))):=yU fun _ _ _ _ _ _ _ q=>ge_int q
theorem iI:bZ X (compareOp .In) (fun x y H Q=>∃ i j,x=.str i/\y=.str j/\Q (.bl (!(Builtin.Str.occurrences j i 0 j.length 1).isEmpty)) H):=by
 intro pins s σ H x y v u Q I rx ry h;obtain⟨i,j,rfl,rfl,q⟩:=h;obtain⟨t,rfl⟩:=rx;obtain⟨t',rfl⟩:=ry;exact in_str (az I q rfl)
theorem gL:bZ X (compareOp .Is) (fun x y H Q=>y=.ay/\Q (.bl (decide (x=.ay))) H):=by
 intro pins s σ H x y v u Q I rx ry h;obtain⟨rfl,q⟩:=h;cases ry;refine is_none_gen (az I q ?_)
 cases x<;>first
  | (cases rx;rfl)
  | (obtain⟨t,rfl⟩:=rx;rfl)
theorem tH:bZ X (compareOp .IsNot) (fun x y H Q=>y=.ay/\Q (.bl (!decide (x=.ay))) H):=by
 intro pins s σ H x y v u Q I rx ry h;obtain⟨rfl,q⟩:=h;cases ry;refine isnot_none_gen (az I q ?_)
 cases x<;>first
  | (cases rx;rfl)
  | (obtain⟨t,rfl⟩:=rx;rfl)
theorem bZ.or{r':R2}(h:bZ X f r)(h':bZ X f r'):bZ X f (fun x y H Q=>r x y H Q\/r' x y H Q):=by
 intro pins s σ H x y v u Q I rx ry q;rcases q with q|q
 ·exact h pins s σ H x y v u Q I rx ry q
 ·exact h' pins s σ H x y v u Q I rx ry q
theorem wb{op:CmpOp}(ho:bZ X (compareOp op) r)(ha:PE X a ta)(hb:PE X b tb)(hm:behindInMarks op b=false):PE X (.Compare a [op] [b] pos) (pq r ta tb):=by
 intro pins s σ H Q I h;exact wpAny_Compare1 (zp ha hb I h fun v u s2 x y H2 I2 rx ry q=>ho pins s2 σ H2 x y v u Q I2 rx ry q) hm
noncomputable def jk(t:TE):TT:=fun σ H Q=>t σ H fun x H'=>∃ k,x=.bl k/\Q k H'
theorem uf{op:CmpOp}(ho:bZ X (compareOp op) r)(ha:PE X a ta)(hb:PE X b tb)(hm:behindInMarks op b=false):PT X (.Compare a [op] [b] pos) (jk (pq r ta tb)):=by
 intro pins s σ H Q I h;refine wpAny_isTrue_Compare1 (bg (ha pins s σ H _ I h) fun v s1 ⟨x,H1,I1,r1,q1⟩=>bg (hb pins s1 σ H1 _ I1 q1) fun u s2 ⟨y,H2,I2,r2,q2⟩=>
  bg (ho pins s2 σ H2 x y v u _ I2 r1 r2 q2) fun c s3 ⟨z,H3,I3,r3,k,e,q3⟩=>?_) hm
 subst e;cases r3;exact GS ⟨H3,I3,q3⟩
noncomputable def pf(K:Ih)(x:V)(H:Hp)(k:Bool):Prop:=
 match x with
 |.ay=>k=false
 |.bl b=>k=b
 |.int i=>k=(i != 0)
 |.str y=>y.length<=sizeLine/\k=((y.length:Int) != 0)
 |.ly y=>y.size<=sizeLine/\k=((y.size:Int) != 0)
 |.ref p=>(∃ xs,a_ K H p xs/\k=!xs.isEmpty)\/(∃ xs,b6 K H p xs/\k=!xs.isEmpty)\/∃ kvs,H p=some (.dK kvs)/\k=!kvs.isEmpty
 |_=>False
theorem mj{κ:Type}{kvs:List (κ×V)}{vs:List (κ×Value)}(r:KV kvs vs):(!vs.isEmpty)=!kvs.isEmpty:=by
 cases r<;>rfl
theorem gZ{ah:List Value}(r:Vals xs ah):(!ah.toArray.isEmpty)=!xs.isEmpty:=by
 cases r<;>simp
theorem dM:(sizeLine:Nat)<2^63:=by rw[HI];decide
theorem xP:Dh X (fun x H Q=>∃ k,pf X.K x H k/\Q k H):=by
 intro pins s σ H x v Q I rx h;obtain⟨k,e,q⟩:=h;have hl:=dM;have hs:sizeLine=16777216:=HI
 cases x with
 |ay =>
  cases rx;have e':k=false:=e;subst e';exact truthy_none ⟨H,I,q⟩
 |bl b =>
  cases rx;have e':k=b:=e;subst e';exact GS ⟨H,I,q⟩
 |int i =>
  obtain⟨t,rfl⟩:=rx;have e':k=(i != 0):=e;subst e';exact PySem.P.truthy_int ⟨H,I,q⟩
 |str y =>
  obtain⟨t,rfl⟩:=rx;obtain⟨hy,e'⟩:y.length<=sizeLine/\k=((y.length:Int) != 0):=e;subst e';exact PySem.P.truthy_str (by lia) ⟨H,I.tok _,q⟩
 |ly y =>
  obtain⟨t,rfl⟩:=rx;obtain⟨hy,e'⟩:y.size<=sizeLine/\k=((y.size:Int) != 0):=e;subst e';exact PySem.W.truthy_bytes (by lia) ⟨H,I.tok _,q⟩
 |ref p =>
  cases rx;have e':(∃ xs,a_ X.K H p xs/\k=!xs.isEmpty)\/(∃ xs,b6 X.K H p xs/\k=!xs.isEmpty)\/∃ kvs,H p=some (.dK kvs)/\k=!kvs.isEmpty:=e;rcases e' with ⟨xs,hx,e'⟩|⟨xs,hx,e'⟩|⟨kvs,hx,e'⟩
  ·subst e';obtain⟨ah,r,pl,hz⟩:=I.list hx;have hlen:=r.length;exact wpAny_truthy_list pl.isList (by simp only[EE];lia) ⟨H,I.tok _,by rw[gZ r];exact q⟩
  ·subst e';obtain⟨ah,r,pl,hz⟩:=I.tuple hx;have hlen:=r.length;exact truthy_tuple pl (by simp only[EE];lia) ⟨H,I.tok _,by rw[gZ r];exact q⟩
  ·subst e';obtain⟨hz,hS,vs,r,m⟩:kvs.length<=sizeLine/\(p == sysModules)=false/\∃ vs,KV kvs vs/\s.heap.DictOf (jN X.prog X.w) p vs:=I.aM p _ hx;have hlen:kvs.length=vs.length:=Paired.length r;exact wpAny_truthy_dict hS m (by lia) ⟨H,I.tok _,by rw[mj r];exact q⟩
 |_=>exact (show False from e).elim
theorem sx(ha:PE X a ta)(he:∀ whole,isTrue a X.env whole=(do let v <- whole;standAt a.pos;holding [v] (truthy v))):
  PT X a (fun σ H Q=>ta σ H fun x H'=>∃ k,pf X.K x H' k/\Q k H'):=by
 intro pins s σ H Q I h;exact isTrue_plain (bg (ha pins s σ H _ I h) fun v s1 ⟨x,H1,I1,r1,q1⟩=>xP pins s1 σ H1 x v Q I1 r1 q1) (he _)
theorem iw:bZ X (binaryOp .Add) (fun x y H Q=>∃ i j,x=.str i/\y=.str j/\i.length+j.length<=sizeLine/\Q (.str (i++j)) H):=by
 intro pins s σ H x y v u Q I rx ry h;obtain⟨i,j,rfl,rfl,hz,q⟩:=h;obtain⟨t,rfl⟩:=rx;obtain⟨t',rfl⟩:=ry;exact add_str (fun t' tk=>⟨.str (i++j),H,I.tok _,⟨_,rfl⟩,q⟩) hz
theorem vals1{x:V}(r:Vals [x] us):∃ u,us=[u]/\RelV x u:=by
 cases r with
 |cons r1 r2=>cases r2;exact⟨_,rfl,r1⟩
theorem vals2{x y:V}(r:Vals [x,y] us):∃ u w',us=[u,w']/\RelV x u/\RelV y w':=by
 cases r with
 |cons r1 r2 =>
  cases r2 with
  |cons r3 r4=>cases r4;exact⟨_,_,rfl,r1,r3⟩
theorem sQ:aP X (.builtin "abs") (fun xs H Q=>∃ i,xs=[.int i]/\Q (.int (if i<0 then -i else i)) H):=by
 intro pins s σ H xs us Q I r h;obtain⟨i,rfl,q⟩:=h;obtain⟨u,rfl,t,rfl⟩:=vals1 r;exact call_abs_int fun u tk=>⟨.int (if i<0 then -i else i),H,I.tok _,⟨_,rfl⟩,q⟩
theorem pz(hc:X.calm=true):aP X (.builtin "min") (fun xs H Q=>∃ i j,xs=[.int i,.int j]/\Q (.int (if j<i then j else i)) H):=by
 intro pins s σ H xs us Q I r h;obtain⟨i,j,rfl,q⟩:=h;obtain⟨u,w',rfl,⟨t,rfl⟩,⟨t',rfl⟩⟩:=vals2 r;refine min_two_ints (I.ok.hd hc) fun h' tk k=>⟨_,H,I.kept k,?_,q⟩;by_cases hj:j<i
 ·rw[EI hj,EI hj];exact⟨_,rfl⟩
 ·rw[EB hj,EB hj];exact⟨_,rfl⟩
noncomputable def Ad(K:Ih)(x:V)(H:Hp)(n:Nat):Prop:=
 match x with
 |.str y=>y.length<=sizeLine/\n=y.length
 |.ly y=>y.size<=sizeLine/\n=y.size
 |.ref p=>(∃ xs,a_ K H p xs/\n=xs.length)\/∃ xs,b6 K H p xs/\n=xs.length
 |_=>False
theorem fB:aP X (.builtin "len") (fun xs H Q=>∃ x n,xs=[x]/\Ad X.K x H n/\Q (.int n) H):=by
 intro pins s σ H xs us Q I r h;obtain⟨x,n,rfl,e,q⟩:=h;obtain⟨u,rfl,rx⟩:=vals1 r;have hl:=dM;have hs:sizeLine=16777216:=HI
 cases x with
 |str y =>
  obtain⟨t,rfl⟩:=rx;obtain⟨hy,e'⟩:y.length<=sizeLine/\n=y.length:=e;subst e';exact len_str (by lia) ⟨.int _,H,I.tok _,⟨_,rfl⟩,q⟩
 |ly y =>
  obtain⟨t,rfl⟩:=rx;obtain⟨hy,e'⟩:y.size<=sizeLine/\n=y.size:=e;subst e';exact PySem.W.len_bytes (by lia) ⟨.int _,H,I.tok _,⟨_,rfl⟩,q⟩
 |ref p =>
  cases rx;have e':(∃ xs,a_ X.K H p xs/\n=xs.length)\/∃ xs,b6 X.K H p xs/\n=xs.length:=e;rcases e' with ⟨xs,hx,e'⟩|⟨xs,hx,e'⟩
  ·subst e';obtain⟨ah,r',pl,hz⟩:=I.list hx;have hlen:=r'.length;exact Calls.call_len_list pl.isList (by simp only[EE];lia) ⟨.int xs.length,H,I.tok _,⟨_,by simp only[EE];rw[hlen]⟩,q⟩
  ·subst e';obtain⟨ah,r',pl,hz⟩:=I.tuple hx;have hlen:=r'.length;exact len_tuple pl (by simp only[EE];lia) ⟨.int xs.length,H,I.tok _,⟨_,by simp only[EE];rw[hlen]⟩,q⟩
 |_=>exact (show False from e).elim
end
structure lI (h:Heap) (x dx C:Addr) (mA:Str->Option Value):Prop where
 obj:h.get? x=some (PySem.W.instObj C dx)
 ns:h.Ns1 dx mA
 ne:dx≠x
theorem oE{dx:Addr}(n:h.Ns1 dx mA):∃ od,h.get? dx=some od/\∀ name,PySem.W.lookIn name od=some (mA name):=by
 obtain⟨o,es,ep,ho,hd,hk,_,hm⟩:=n;refine⟨o,ho,fun name=>?_⟩;have e:=hm name;unfold nsFind findBy at e;rw[<- Array.find?_toList] at e;unfold PySem.W.lookIn;rw[hd];dsimp only;split
 ·rename_i y q;rw[q] at e;exact Fc some e
 ·rename_i q;rw[q] at e;have a:es.toList.any (·.refKey)=false:=by
   rw[List.any_eq_false];intro y hy;obtain⟨z,t,hkey⟩:=hk y (Array.mem_toList_iff.mp hy);simp[DictEntry.refKey,hkey]
  have a':¬ es.toList.any (·.refKey)=true:=by rw[a];exact EF
  rw[EB a'];exact Fc some e
theorem lI.look{x dx:Addr}(I:lI h x dx C mA):∃ od,PySem.W.InstAt h x (PySem.W.instObj C dx) C (some od)/\∀ name,PySem.W.lookIn name od=some (mA name):=
 let ⟨od,ho,hl⟩:=oE I.ns
 ⟨od,⟨I.obj,rfl,rfl,ho⟩,hl⟩
section
variable {prog:Program} {w:World} {A:Around} {E:Value->Shared->Prop} {s:Shared} {K:Ih} {x dx C f:Addr} {mA:Str->Option Value} {name:Str} {v:Value}
theorem get_map{expr:Bool}(X:K.In s.heap)(I:lI s.heap x dx C mA)(hg:PySem.W.plainGet K C name=true)(hh:PySem.W.hasDictIn K C=true)
  (ha:PySem.W.findIn K (.ref C) name=some none) (hv:mA name=some v) (hv':PySem.W.handedIn v=true) (h:Q v {s with toks:=s.toks+1}) :
  wpAny (model prog w) A (getAttr (.ref x) name expr) Q E s:=by
 obtain⟨od,J,hl⟩:=I.look;exact PySem.W.get_value X J (PySem.W.plainGet_of hg).1 (PySem.W.findObj_own hh ha rfl (by rw[hl,hv])) hv' h
theorem sM{Q:Value×List Value->Shared->Prop}(X:K.In s.heap)(I:lI s.heap x dx C mA)(hg:PySem.W.plainGet K C name=true)
  (hf:PySem.W.findIn K (.ref C) name=some (some (.ref f))) (ht:PySem.W.isFn K (.ref f)=true) (hv:mA name=none) (h:Q (.ref f,[.ref x]) s) :
  wpAny (model prog w) A (getMethod (.ref x) name pl) Q E s:=by
 obtain⟨od,J,hl⟩:=I.look;exact PySem.W.method_fn X J (PySem.W.plainGet_of hg).1 (PySem.W.plainGet_of hg).2 hf (GD.mp ht) (by show (PySem.W.lookIn name od).map (·.isSome)=some false;rw[hl,hv];rfl) h
theorem wd{ns:List Str}{Q:Unit->Shared->Prop}(X:K.In s.heap)(I:lI s.heap x dx C mA)
  (hs:PySem.W.findIn K (.ref C) "__setattr__"=some (some (.builtin "object.__setattr__"))) (hp:PySem.W.plainOver K C=true) (ht:PySem.W.takerIn K C name=some none) (hh:PySem.W.hasDictIn K C=true)
  (hw:PySem.Within mA ns) (hsz:ns.length<=sizeLine)
  (h:∀ h',lI h' x dx C (fun y=>if y=name then some v else mA y)->Heap.SameBut dx s.heap h'->Q () {s with heap:=h',toks:=s.toks+2}) :
  wpAny (model prog w) A (setAttr (.ref x) name v) Q E s:=by
 obtain⟨od,J,hl⟩:=I.look;refine PySem.W.set_plain X J hs (PySem.W.osa_open (s:={s with toks:=s.toks+1}) (r:=none) X J hp ht fun b=>?_)
 obtain⟨cd,hc,hd'⟩:=PySem.W.any_some hh;have hx:s.heap.get? x=some ⟨.ref C,some dx,.plain,#[]⟩:=I.obj;refine EA (EL (EA (EA (wpAny_loadPart hx (EA (PySem.W.Looks.here (s:={s with toks:=s.toks+1}) (PySem.W.looks_clsIn X hc) ?_))))))
 rw[hd'];refine EL (a:=some dx) (EA (EL (EA ?_)));refine wpAny_nsSet1 (s:={s with toks:=s.toks+1}) I.ns fun h' hn2 hs2=>?_
 obtain⟨oD,esD,epD,hoD,hdD,hcD⟩:=hn2.count (PySem.Within.cons name v hw);refine EA (wpAny_lookBehind hoD (by rw[hdD];exact pastItsLine_dict (ES hcD (by rw[E_];lia))) ?_)
 exact EL (h _ ⟨(hs2.2 _ (Ne.symm I.ne)).trans I.obj,hn2,I.ne⟩ hs2)
theorem qA{R:Result->Shared->Prop}{vs:List Value}(X:K.In s.heap)(hm:PySem.W.makesIn K C=true)
  (hi:PySem.W.findIn K (.ref C) "__init__"=some (some (.ref f))) (hf:PySem.W.typeIn K (.ref f)=some (.type "function"))
  (h:codeAny (model prog w) (A.under (.builtin "type.__call__" ⟨.ref C::vs,kw⟩)) (.call (.ref f) ⟨.ref (s.heap.objs.size+1)::vs,kw⟩) (PySem.W.InitBack (s.heap.objs.size+1) R)
   {s with heap:=(s.heap.push PySem.W.emptyDict).push (PySem.W.instObj C s.heap.objs.size)}) :
  codeAny (model prog w) A (.call (.ref C) ⟨vs,kw⟩) R s:=by
 obtain⟨hh,g,d,t,os⟩:=s;exact PySem.W.make_core (PySem.W.makes_of X hm) (PySem.W.looks_findIn X hi) (fun self=>PySem.W.bind_fn X self hf) (.inl rfl) h
end
noncomputable def dh(f:Str)(v:V):List (Str×V)->List (Str×V)
 |[]=>[(f,v)]
 | (g,x)::r=>if g=f then (g,v)::r else (g,x)::dh f v r
theorem fZ(f g:Str)(v:V):∀ fs:List (Str×V),(dh f v fs).lookup g=if g=f then some v else fs.lookup g
 |[]=>by
  show List.lookup g [(f,v)]=_;by_cases h:g=f
  ·have hb:(g == f)=true:=GD.mpr h;simp only[List.lookup,hb,EI h]
  ·have hb:(g == f)=false:=Fb.mpr h;simp only[List.lookup,hb,EB h]
 | (k,x)::r=>by
  have ih:=fZ f g v r;rw[show dh f v ((k,x)::r)=(if k=f then (k,v)::r else (k,x)::dh f v r) from rfl]
  by_cases hk:k=f
  ·rw[EI hk];by_cases h:g=k
   ·have hb:(g == k)=true:=GD.mpr h;simp only[List.lookup,hb,EI (h.trans hk)]
   ·have hb:(g == k)=false:=Fb.mpr h;simp only[List.lookup,hb,EB (fun e:g=f=>h (e.trans hk.symm))]
  ·rw[EB hk];by_cases h:g=k
   ·have hb:(g == k)=true:=GD.mpr h;simp only[List.lookup,hb,EB (fun e:g=f=>hk (h.symm.trans e))]
   ·have hb:(g == k)=false:=Fb.mpr h;simp only[List.lookup,hb];exact ih
theorem fF(f:Str)(v:V):∀ fs:List (Str×V),f∈(dh f v fs).map (·.1)/\∀ g,g∈fs.map (·.1)->g∈(dh f v fs).map (·.1)
 |[]=>⟨by simp[dh],fun g h=>by simp at h⟩
 | (k,x)::r=>by
  obtain⟨i1,i2⟩:=fF f v r;rw[show dh f v ((k,x)::r)=(if k=f then (k,v)::r else (k,x)::dh f v r) from rfl]
  by_cases hk:k=f
  ·rw[EI hk];subst hk;exact⟨by simp,fun g h=>by simpa using h⟩
  ·rw[EB hk];refine⟨?_,fun g h=>?_⟩
   ·rw[Fy];exact ED _ i1
   ·rw[Fy] at h ⊢;rcases EG.mp h with e|e
    ·exact EG.mpr (.inl e)
    ·exact ED _ (i2 g e)
theorem f_(f:Str)(v:V):∀ fs:List (Str×V),(dh f v fs).length<=fs.length+1
 |[]=>by simp[dh]
 | (k,x)::r=>by
  have ih:=f_ f v r;rw[show dh f v ((k,x)::r)=(if k=f then (k,v)::r else (k,x)::dh f v r) from rfl]
  by_cases hk:k=f
  ·rw[EI hk,E_,E_];lia
  ·rw[EB hk,E_,E_];lia
theorem i5.some_of{v:V}(r:i5 (some v) o):∃ u,o=some u/\RelV v u:=by
 cases o with
 |none=>exact (show False from r).elim
 |some u=>exact⟨u,rfl,r⟩
theorem i5.none_of(r:i5 none o):o=none:=by
 cases o with
 |none=>rfl
 |some u=>exact (show False from r).elim
theorem oW{v:V}(r:RelV v u):PySem.W.handedIn u=true:=by
 cases v with
 |ay=>cases (show u=Value.none from r);rfl
 |bl b=>cases (show u=Value.bool b from r);rfl
 |int i=>obtain⟨t,e⟩:=(show ∃ t,u=Value.int i t from r);cases e;rfl
 |str x=>obtain⟨t,e⟩:=(show ∃ t,u=Value.str x t from r);cases e;rfl
 |ly b=>obtain⟨t,e⟩:=(show ∃ t,u=Value.bytes b t from r);cases e;rfl
 |xu b=>obtain⟨t,e⟩:=(show ∃ t,u=Value.float b t from r);cases e;rfl
 |ref a=>cases (show u=Value.ref a from r);rfl
 |ty n=>cases (show u=Value.type n from r);rfl
section
variable {P:Program} {w:World} {H H':Hp} {h h':Heap} {a C dx:Addr} {fs fs':List (Str×V)}
theorem gG(aM:e7 P w H h)(e:H a=some (.ins C dx fs)):∃ mA,lI h a dx C mA/\(∀ f,i5 (fs.lookup f) (mA f))/\PySem.Within mA (fs.map (·.1))/\fs.length<=1000/\H dx=some (.own a):=by
 obtain⟨d,z,ne,ob,mA,n,r,q⟩:=(show bu P w H h a (.ins C dx fs) from aM a _ e);exact⟨mA,⟨ob,n,ne⟩,r,q,z,d⟩
end
structure gy (K:Ih) (C:Addr):Prop where
 pg:PySem.W.plainGet K C Str.empty=true
 hd:PySem.W.hasDictIn K C=true
 po:PySem.W.plainOver K C=true
 sa:PySem.W.findIn K (.ref C) "__setattr__"=some (some (.builtin "object.__setattr__"))
theorem gy.get(c:gy K C)(f:Str):PySem.W.plainGet K C f=true:=c.pg
noncomputable def bo(K:Ih)(C:Addr)(f:Str):Prop:=PySem.W.findIn K (.ref C) f=some none
theorem bo.Ah{f:Str}(n:bo K C f):PySem.W.takerIn K C f=some none:=by
 unfold PySem.W.takerIn;rw[show PySem.W.findIn K (.ref C) f=some none from n];rfl
structure Meth (K:Ih) (C:Addr) (m:Str) (f:Addr):Prop where
 at_:PySem.W.findIn K (.ref C) m=some (some (.ref f))
 fn:PySem.W.isFn K (.ref f)=true
 kp:PySem.W.keepIn K (.ref f)=true
section
variable {X:Cx} {pins:List (Addr×Obj)} {σ:St} {H:Hp} {s:Shared} {a C dx:Addr} {fs:List (Str×V)} {f:Str} {v:V} {A:Around} {E:Value->Shared->Prop}
theorem lW{b:Bool}(I:Inv X pins σ H s)(e:H a=some (.ins C dx fs))(c:gy X.K C)(n:bo X.K C f)(l:fs.lookup f=some v)
  (h:∀ u s',Inv X pins σ H s'->RelV v u->Q u s'):wpAny (model X.prog X.w) A (getAttr (.ref a) f b) Q E s:=by
 obtain⟨mA,O,r,_,_,_⟩:=gG I.aM e;obtain⟨u,hu,ru⟩:=i5.some_of (v:=v) (o:=mA f) (by rw[<- l];exact r f)
 exact get_map I.dn O (c.get f) c.hd n hu (oW ru) (h u _ (I.tok _) ru)
theorem eK{m:Str}{g:Addr}{Q:Value×List Value->Shared->Prop}(I:Inv X pins σ H s)(e:H a=some (.ins C dx fs))(c:gy X.K C)(k:Meth X.K C m g)(l:fs.lookup m=none)
  (h:Q (.ref g,[.ref a]) s):wpAny (model X.prog X.w) A (getMethod (.ref a) m pl) Q E s:=by
 obtain⟨mA,O,r,_,_,_⟩:=gG I.aM e;have hn:mA m=none:=i5.none_of (by rw[<- l];exact r m)
 exact sM I.dn O (c.get m) k.at_ k.fn hn h
theorem lE{y:V}{Q:Unit->Shared->Prop}(I:Inv X pins σ H s)(e:H a=some (.ins C dx fs))(c:gy X.K C)(n:bo X.K C f)(hl:fs.length<1000)(ry:RelV y u)
  (h:∀ s',Inv X pins σ (upd H a (.ins C dx (dh f y fs))) s'->Q () s'):wpAny (model X.prog X.w) A (setAttr (.ref a) f u) Q E s:=by
 obtain⟨mA,O,r,wi,_,ho⟩:=gG I.aM e;have hz:(fs.map (·.1)).length<=sizeLine:=by rw[EJ,HI];lia
 refine wd I.dn O c.sa c.po n.Ah c.hd wi hz fun h' O' sb=>h _ ?_;have hd:∃ o,h'.get? dx=some o:=let ⟨o,_,_,e',_⟩:=O'.ns;⟨o,e'⟩
 refine I.write (x:=a) (e:=dx) (by rw[e];exact True.intro) (.inr ho) (fun b q hb z=>(sb.2 b hb).trans z) hd ?_
 refine⟨by rw[af O.ne];exact ho,?_,O.ne,O'.obj,_,O'.ns,fun g=>?_,fun g hg=>?_⟩
 ·have:=f_ f y fs;lia
 ·show i5 ((dh f y fs).lookup g) (if g=f then some u else mA g)
  rw[fZ];by_cases q:g=f
  ·rw[EI q,EI q];exact ry
  ·rw[EB q,EB q];exact r g
 ·by_cases q:g=f
  ·rw[q];exact (fF f y fs).1
  ·refine (fF f y fs).2 g (wi g fun z=>hg ?_);show (if g=f then some u else mA g)=none
   rw[EB q];exact z
theorem Inv.made(I:Inv X pins σ H s):Inv X pins σ (upd (upd H s.heap.objs.size (.own (s.heap.objs.size+1))) (s.heap.objs.size+1) (.ins C s.heap.objs.size []))
  {s with heap:=(s.heap.push PySem.W.emptyDict).push (PySem.W.instObj C s.heap.objs.size)}:=by
 have e1:(s.heap.push PySem.W.emptyDict).get? s.heap.objs.size=some PySem.W.emptyDict:=EV s.heap rfl;have e2:((s.heap.push PySem.W.emptyDict).push (PySem.W.instObj C s.heap.objs.size)).get? (s.heap.objs.size+1)=some (PySem.W.instObj C s.heap.objs.size):=by
  have:=EV (s.heap.push PySem.W.emptyDict) (o:=PySem.W.instObj C s.heap.objs.size) rfl
  rwa [Gk] at this
 have e3:(s.heap.push PySem.W.emptyDict).Ns s.heap.objs.size (fun _=>none):=⟨PySem.W.emptyDict,#[],_,e1,rfl,(fun e he=>absurd he (by simp)),fun _=>rfl⟩
 have I1:=I.laid (a:=s.heap.objs.size) (o:=.own (s.heap.objs.size+1)) (h':=s.heap.push PySem.W.emptyDict) (t':=s.toks) (fun b u q=>EC _ q) (EH _) ⟨_,e1⟩;refine I1.laid (a:=s.heap.objs.size+1) (o:=.ins C s.heap.objs.size []) (t':=s.toks) (fun b u q=>EC _ q) (Nat.le_of_eq (Gk _ _)) ?_;have ne:s.heap.objs.size≠s.heap.objs.size+1:=Fd (Nat.lt_succ_self _);refine⟨by rw[af ne,ae],Fo _,ne,e2,fun _=>none,(Heap.Ns1.of_empty e3).at fun o q=>EC _ q,fun _=>True.intro,fun y hy=>absurd rfl hy⟩
theorem tX{prog:Program}{env:Env}{f:Str}(hb:attributeBase e f env (eval e env)=eval e env)
  (h:wpAny (model prog w) A (eval e env) (fun o s₁=>wpAny (model prog w) A (getAttr o f true) Q E s₁) E s):wpAny (model prog w) A (eval (.Attribute e f pos) env) Q E s:=
 Attribute_any_ h (by rw[arm_eval_Attribute,hb])
end
noncomputable def rA(K:Ih)(ta:TE)(f:Str):TE:=fun σ H Q=>ta σ H fun x H1=>∃ a C dx fs v,x=.ref a/\H1 a=some (.ins C dx fs)/\gy K C/\bo K C f/\fs.lookup f=some v/\Q v H1
noncomputable def qC(K:Ih)(ta tv:TE)(f:Str):TS:=fun D σ H=>tv σ H fun y H1=>ta σ H1 fun x H2=>∃ a C dx fs,x=.ref a/\H2 a=some (.ins C dx fs)/\gy K C/\bo K C f/\fs.length<1000 /\
 D.nx σ (upd H2 a (.ins C dx (dh f y fs)))
section
variable {X:Cx} {o e value:Expr} {f:Str} {pos pos' tpos:Pos} {ta tv:TE}
theorem zB(he:PE X e ta)(hb:attributeBase e f X.env (eval e X.env)=eval e X.env):PE X (.Attribute e f pos) (rA X.K ta f):=by
 intro pins s σ H Q I h;refine tX hb (bg (he pins s σ H _ I h) fun u s1 hq40=>?_);obtain⟨x,H1,I1,rx,a,C,dx,fs,v,ex,ea,c,n,l,q⟩:=hq40;subst ex;obtain rfl:u=Value.ref a:=rx;exact lW I1 ea c n l fun u' s2 I2 ru=>⟨v,H1,I2,ru,q⟩
theorem zH(ha:PE X o ta)(hv:PE X value tv)(hs:swapsWith value (some (.Attribute o f pos')) pos.line X.env=pure false):PS X (.Assign [.Attribute o f pos'] value pos) (qC X.K ta tv f):=by
 intro pins s σ H D I h;refine plainObj_wpAny_Assign_Attribute (bg (hv pins s σ H _ I h) fun u s1 ⟨y,H1,I1,ry,q⟩=>bg (ha pins s1 σ H1 _ I1 q) fun ov s2 hq42=>?_) hs;obtain⟨x,H2,I2,rx,a,C,dx,fs,ex,ea,c,n,l,q2⟩:=hq42;subst ex;obtain rfl:ov=Value.ref a:=rx;exact lE I2 ea c n l ry fun s3 I3=>⟨σ,_,I3,q2⟩
end
section
variable {X:Cx} {pins:List (Addr×Obj)} {σ:St} {H:Hp} {s:Shared} {A:Around} {E:Value->Shared->Prop} {Q:Value->Shared->Prop} {c:Value} {b:Bool}
inductive fc (K:Ih) (H:Hp):V->Value->Prop where
 |ay:fc K H .ay (.type "NoneType")
 |bl (x:Bool):fc K H (.bl x) (.type "bool")
 |int (i:Int):fc K H (.int i) (.type "int")
 |str (x:Str):fc K H (.str x) (.type "str")
 |xu (x:UInt64):fc K H (.xu x) (.type "float")
 |lst {a:Addr} {xs:List V} (e:H a=some (.lst xs)):fc K H (.ref a) (.type "list")
 |gM {a:Addr} {o:Obj} {xs:List V} (e:H a=some (.gM o (.lst xs))):fc K H (.ref a) (.type "list")
 |tup {a:Addr} {xs:List V} (e:H a=some (.tup xs)):fc K H (.ref a) (.type "tuple")
 |dK {a:Addr} {kvs:List (Key×V)} (e:H a=some (.dK kvs)):fc K H (.ref a) (.type "dict")
 |dT {a:Addr} {kvs:List (List Key×V)} (e:H a=some (.dT kvs)):fc K H (.ref a) (.type "dict")
 |ins {a C dx:Addr} {fs:List (Str×V)} (e:H a=some (.ins C dx fs)) (cl:gy K C) (ha:PySem.W.findIn K (.ref C) "__class__"=some (some (.builtin "object.__class__")))
   (hn:PySem.W.specialIn K (.builtin "object.__class__") "__get__"=some (some (.builtin "getset_descriptor.__get__"))) (htk:PySem.W.takesIn K (.builtin "object.__class__")=some true)
   (hm:PySem.W.mroIn K C (.type "object")=some true):fc K H (.ref a) (.ref C)
theorem i_{x:V}{t:Value}(I:Inv X pins σ H s)(rx:RelV x u)(ty:fc X.K H x t)(e:PySem.W.kitOne X.K t c=some b)(h:∀ tk,Q (.bool b) {s with toks:=tk}):
  wpAny (model X.prog X.w) A (call (.builtin "isinstance") [u,c]) Q E s:=by
 cases ty with
 |ay=>cases (show u=Value.none from rx);exact PySem.W.kia_one PySem.W.kitx_none I.dn True.intro e (fun z=>nomatch z) h
 |bl y=>cases (show u=Value.bool y from rx);exact PySem.W.kia_one PySem.W.kitx_bool I.dn True.intro e (fun z=>nomatch z) h
 |int i=>obtain⟨t,q⟩:=(show ∃ t,u=Value.int i t from rx);cases q;exact PySem.W.kia_one PySem.W.kitx_int I.dn True.intro e (fun z=>nomatch z) h
 |str y=>obtain⟨t,q⟩:=(show ∃ t,u=Value.str y t from rx);cases q;exact PySem.W.kia_one PySem.W.kitx_str I.dn True.intro e (fun z=>nomatch z) h
 |xu y=>obtain⟨t,q⟩:=(show ∃ t,u=Value.float y t from rx);cases q;exact PySem.W.kia_one PySem.W.kitx_float I.dn True.intro e (fun z=>nomatch z) h
 |@lst a xs ea =>
  cases (show u=Value.ref a from rx)
  obtain⟨_,_,n,_,h1⟩:=(show bu X.prog X.w H s.heap a (.lst xs) from I.aM a _ ea);exact PySem.W.kia_one PySem.W.kitx_list I.dn ⟨_,h1,rfl⟩ e (fun z=>nomatch z) h
 |@gM a ob xs ea =>
  cases (show u=Value.ref a from rx)
  obtain⟨_,_,_,n,_,h1⟩:=(show bu X.prog X.w H s.heap a (.gM ob (.lst xs)) from I.aM a _ ea);exact PySem.W.kia_one PySem.W.kitx_list I.dn ⟨_,h1,rfl⟩ e (fun z=>nomatch z) h
 |@tup a xs ea =>
  cases (show u=Value.ref a from rx)
  obtain⟨_,_,_,p⟩:=(show bu X.prog X.w H s.heap a (.tup xs) from I.aM a _ ea);obtain⟨o,h1,h2,_⟩:=p;exact PySem.W.kia_one PySem.W.kitx_tuple I.dn ⟨o,h1,h2⟩ e (fun z=>nomatch z) h
 |@dK a kvs ea =>
  cases (show u=Value.ref a from rx)
  obtain⟨_,_,vs,_,p⟩:=(show bu X.prog X.w H s.heap a (.dK kvs) from I.aM a _ ea);obtain⟨o,es,ep,h1,h2,_⟩:=p;exact PySem.W.kia_one PySem.W.kitx_dict I.dn ⟨o,h1,h2.1⟩ e (fun z=>nomatch z) h
 |@dT a kvs ea =>
  cases (show u=Value.ref a from rx)
  obtain⟨_,_,xs,_,o,es,ep,h1,h2,_⟩:=(show bu X.prog X.w H s.heap a (.dT kvs) from I.aM a _ ea);exact PySem.W.kia_one PySem.W.kitx_dict I.dn ⟨o,h1,h2.1⟩ e (fun z=>nomatch z) h
 |@ins a C dx fs ea cl ha hn htk hm =>
  cases (show u=Value.ref a from rx)
  obtain⟨mA,O,_⟩:=gG I.aM ea;obtain⟨od,J,_⟩:=O.look;exact PySem.W.kia_one (PySem.W.kitx_own (cl.get _) cl.hd ha hn htk hm) I.dn J e (fun z=>nomatch z) h
end
structure aY (k:Nat) (A:Around):Prop where
 hd:A.handled=none
 dp:A.depth+3*k+5<recursionLimit
 un:A.units+16*k+200<cLine
 gd:A.guards=some []
theorem aY.mono{A:Around}(r:aY k A)(h:j<=k):aY j A:=⟨r.hd,by have:=r.dp;lia,by have:=r.un;lia,r.gd⟩
theorem aY.deeper{A:Around}(r:aY (k+1) A)(env:Env):aY k (A.deeper env):=
 ⟨r.hd,by have:=r.dp;show A.depth+1+3*k+5<_;lia,by have:=r.un;show A.units+3+16*k+200<_;lia,r.gd⟩
theorem l_{A:Around}:(A.under (.builtin "type.__call__" ⟨.ref C::us,kw⟩)).depth=A.depth+1:=by
 first|rfl|simp[Around.under,Code.weight,Code.isCreation,Code.isGuard,Code.isCaller,Code.frames,Code.isFrame,guardIds]
theorem lS{A:Around}:(A.under (.builtin "type.__call__" ⟨.ref C::us,kw⟩)).units=A.units+1:=by
 first|rfl|simp[Around.under,Code.cUnits,Code.frames,Code.isFrame]
theorem aY.make{A:Around}(r:aY (k+1) A)(C:Addr)(us:List Value)(kw:List (Str×Value)):aY k (A.under (.builtin "type.__call__" ⟨.ref C::us,kw⟩)):=
 ⟨r.hd,by have:=r.dp;rw[l_];lia,by have:=r.un;rw[lS];lia,by have h:=r.gd;first|exact h | (simp[Around.under,Code.guards,Code.isGuard,guardIds];exact h)⟩
theorem aY.depth{A:Around}(r:aY k A):A.depth<recursionLimit:=by have:=r.dp;lia
theorem aY.units{A:Around}(r:aY k A):A.units+64<cLine:=by have:=r.un;lia
noncomputable def lM:TA:=fun _ H Q=>Q [] H
noncomputable def iy(ta:TE)(tr:TA):TA:=fun σ H Q=>ta σ H fun x H1=>tr σ H1 fun xs H2=>Q (x::xs) H2
section
variable {X:Cx} {e:Expr} {es:List Expr} {te:TE} {t:TA} {pos:Pos}
theorem sT:PA X [] lM:=fun _ _ _ _ H Q I h=>Calls.spliced_nil ⟨[],H,I,.nil,h⟩
theorem nA(ha:PE X e te)(hr:PA X es t)(hs:autoParam (starEach (e::es) X.env=(false,eval e X.env)::starEach es X.env) ℜ0):PA X (e::es) (iy te t):=by
 intro pos pins s σ H Q I h;rw[hs];show wpAny _ _ (spliced ((false,eval e X.env)::backTo pos (starEach es X.env))) _ _ s;refine Calls.spliced_cons (bg (ha pins s σ H _ I h) fun u s1 hq46=>?_);obtain⟨x,H1,I1,r1,q1⟩:=hq46;exact bg (hr pos pins s1 σ H1 _ I1 q1) fun us s2 ⟨xs,H2,I2,r2,q2⟩=>⟨x::xs,H2,I2,.cons r1 r2,q2⟩
noncomputable def sG(t:TA):TE:=fun σ H Q=>t σ H fun xs H1=>xs.length<=sizeLine/\∀ p,H1 p=none->Q (.ref p) (upd H1 p (.tup xs))
noncomputable def pk(t:TA):TE:=fun σ H Q=>t σ H fun xs H1=>xs.length<=sizeLine/\∀ p,H1 p=none->Q (.ref p) (upd H1 p (.lst xs))
theorem zf{x1}(h:PA X es t):PE X (.Tuple es x1 pos) (sG t):=by
 intro pins s σ H Q I hq;refine wpAny_Tuple_spliced (bg (h pos pins s σ H _ I hq) fun us s1 ⟨xs,H1,I1,r,z,q⟩=>⟨by rw[<- r.length];exact z,?_⟩)
 have hf:H1 s1.heap.objs.size=none:=I1.aM.fresh (EH _);refine⟨.ref s1.heap.objs.size,upd H1 s1.heap.objs.size (.tup xs),I1.laid (t':=s1.toks) (fun b u e=>EC _ e) (EH _) ?_,rfl,q _ hf⟩;exact⟨z,us,r,⟨_,EV _ rfl,rfl,_,rfl,rfl⟩⟩
theorem xM(h:PA X es t):PE X (.List es pos) (pk t):=by
 intro pins s σ H Q I hq;refine wpAny_List_spliced (bg (h pos pins s σ H _ I hq) fun us s1 ⟨xs,H1,I1,r,z,q⟩=>⟨by rw[<- r.length];exact z,?_⟩)
 have hf:H1 s1.heap.objs.size=none:=I1.aM.fresh (EH _);refine⟨.ref s1.heap.objs.size,upd H1 s1.heap.objs.size (.lst xs),I1.laid (t':=s1.toks) (fun b u e=>EC _ e) (EH _) ?_,rfl,q _ hf⟩;exact⟨z,us,0,r,EV _ rfl⟩
end
abbrev Sp:=List V->Hp->VK->XK->Prop
variable{sp:Sp}
abbrev ke:=List Env->Hp->Shared->XK->Value->Shared->Prop
variable{CX:ke}
structure lU (P:Program) (w:World) (K:Ih) (mg:Str->Option Value) (base:Heap) (A:Around) (outer:List Env) (s:Shared) (H:Hp):Prop where
 frames:A.frames=some outer
 mod:Mod K mg base
 bs:∀ b o,base.get? b=some o->s.heap.get? b=some o/\H b=none
 pw:base.objs.size<=s.heap.objs.size
 e8:s.heap.FunFrames base outer
 rq:∀ b∈fW outer,H b=none
 aM:e7 P w H s.heap
 bare:AllBare s.gens
 tabs:TabsOk K H
noncomputable def CE(outer:List Env)(P:Program)(w:World)(H:Hp)(s:Shared)(Q:VK)(u:Value)(s':Shared):Prop:=
 ∃ v H',s'.os=s.os/\AllBare s'.gens/\Un (fW outer) [] H H' s.heap s'.heap/\e7 P w H' s'.heap/\RelV v u/\Q v H'
noncomputable def CR(CX:ke)(outer:List Env)(P:Program)(w:World)(H:Hp)(s:Shared)(Q:VK)(E:XK)(r:Result)(s':Shared):Prop:=
 match r with
 |.ok (.ret u)=>CE outer P w H s Q u s'
 |.ok _=>False
 |.error e=>CX outer H s E e s'
structure aX (P:Program) (w:World) (K:Ih) (mg:Str->Option Value) (base:Heap) (CX:ke) (k:Nat) (f:Addr) (fd:FuncData) (ps:List Str) (sp:Sp):Prop where
 len:∀ vs H Q E,sp vs H Q E->vs.length=ps.length
 run:∀(A:Around) (outer:List Env) (s:Shared) (H:Hp) (args:Args) (us:List Value) (vs:List V) (Q:VK) (E:XK),aY k A->lU P w K mg base A outer s H->BindsTo s fd args (ps.zip us)->Vals vs us->sp vs H Q E ->
  codeAny (model P w) A (.call (.ref f) args) (CR CX outer P w H s Q E) s
theorem aX.mono{f:Addr}{ps:List Str}(F:aX P w K mg base CX j f fd ps sp)(h:j<=k):
  aX P w K mg base CX k f fd ps sp:=⟨F.len,fun A outer s H args us vs Q E hr=>F.run A outer s H args us vs Q E (hr.mono h)⟩
theorem aX.imp{f:Addr}{ps:List Str}{sp':Sp}(F:aX P w K mg base CX k f fd ps sp)
  (h:∀ vs H Q E,sp' vs H Q E->sp vs H Q E):aX P w K mg base CX k f fd ps sp':=
 ⟨fun vs H Q E q=>F.len vs H Q E (h _ _ _ _ q),fun A outer s H args us vs Q E hr he hb hv hs=>F.run A outer s H args us vs Q E hr he hb hv (h _ _ _ _ hs)⟩
theorem lU.make{A:Around}(e:lU P w K mg base A outer s H)(C:Addr)(us:List Value)(kw:List (Str×Value)):
  lU P w K mg base (A.under (.builtin "type.__call__" ⟨.ref C::us,kw⟩)) outer s H:=⟨by first|exact e.frames | (simpa[Around.under,Code.envs,Code.isFrame,pushEnvs] using e.frames),e.mod,e.bs,e.pw,e.e8,e.rq,e.aM,e.bare,e.tabs⟩
section
variable {X:Cx} {pins:List (Addr×Obj)} {σ:St} {H:Hp} {s s':Shared}
theorem Inv.xU(I:Inv X pins σ H s):lU X.prog X.w X.K X.mg X.base X.A X.stack s H:=
 ⟨I.ok.frames,I.ok.mod,I.bs,ES I.ok.pw I.sz,I.stack,I.jx,I.aM,I.bare,I.ok.tabs.un I.base⟩
theorem Inv.after{Q:VK}(I:Inv X pins σ H s)(h:CE X.stack X.prog X.w H s Q u s'):EP X pins σ Q u s':=by
 obtain⟨v,H',os,bare,un,aM,r,q⟩:=h;obtain⟨hh,g,d,t,os'⟩:=s';obtain rfl:os'=s.os:=os;exact⟨v,H',I.call (h':=hh) (g':=g) (d':=d) (t':=t) (ch:=[]) un aM bare (fun b z=>absurd z (by simp)),r,q⟩
end
noncomputable def ik(sp:Sp)(dvs:List V)(E:XK)(t:TA):TE:=fun σ H Q=>t σ H fun vs H1=>sp (vs++dvs) H1 Q E
noncomputable def iq(C:Addr)(m:Str)(sp:Sp)(dvs:List V)(E:XK)(ta:TE)(t:TA):TE:=fun σ H Q=>ta σ H fun x H1=>∃ a dx fs,x=.ref a/\H1 a=some (.ins C dx fs)/\fs.lookup m=none /\
 t σ H1 fun vs H2=>sp (x::(vs++dvs)) H2 Q E
noncomputable def kM(C:Addr)(sp:Sp)(dvs:List V)(E:XK)(t:TA):TE:=fun σ H Q=>t σ H fun vs H1=>∀ x dx,H1 x=none->H1 dx=none->dx≠x ->
 sp (.ref x::(vs++dvs)) (upd (upd H1 dx (.own x)) x (.ins C dx [])) (fun v H2=>v=.ay/\Q (.ref x) H2) E
noncomputable def Binds(K:Ih)(fd:FuncData)(ps:List Str)(ds:List Value):Prop:=
 ∀(s:Shared) (us:List Value),K.In s.heap->(us++ds).length=ps.length->BindsTo s fd ⟨us,[]⟩ (ps.zip (us++ds))
theorem Binds.all{ps:List Str}(h:∀ us:List Value,us.length=ps.length->bindArgs fd ⟨us,[]⟩=pure (ps.zip us)):Binds K fd ps []:=fun s us _ hl=>by
 rw[FV] at hl ⊢;exact .of_eq (h us hl)
noncomputable def Passes(CX:ke)(X:Cx)(E:XK):Prop:=∀(pins:List (Addr×Obj)) (σ:St) (H:Hp) (s:Shared) (e:Value) (s':Shared),Inv X pins σ H s->CX X.stack H s E e s'->X.xe e s'
section
variable {X:Cx} {CX:ke} {k:Nat} {f C:Addr} {fd:FuncData} {ps:List Str} {sp:Sp} {dvs:List V} {ds:List Value} {E:XK} {x m:Str} {p pos apos:Pos} {e o:Expr} {es:List Expr} {ta:TE} {t:TA}
theorem lF{Q:VK}(F:aX X.prog X.w X.K X.mg X.base CX k f fd ps sp)(hr:aY k X.A)(hb:Binds X.K fd ps ds)(hd:Vals dvs ds)(hx:Passes CX X E)
  (I:Inv X pins σ H s) (r:Vals vs us) (h:sp (vs++dvs) H Q E):wpAny (model X.prog X.w) X.A (call (.ref f) us) (EP X pins σ Q) X.xe s:=by
 have r2:Vals (vs++dvs) (us++ds):=r.append hd;have hl:(us++ds).length=ps.length:=by rw[<- r2.length];exact F.len _ _ _ _ h
 refine HV (Hc (F.run X.A X.stack s H ⟨us,[]⟩ (us++ds) (vs++dvs) Q E hr I.xU (hb s us I.dn hl) r2 h) fun r s' hq=>?_)
 cases r with
 |error e=>exact hx pins σ H s e s' I hq
 |ok fl =>
  cases fl with
  |ret u=>exact I.after hq
  |next=>exact False.elim hq
  |brk=>exact False.elim hq
  |cont=>exact False.elim hq
theorem t_(F:aX X.prog X.w X.K X.mg X.base CX k f fd ps sp)(hr:aY k X.A)(hg:Gl X x)(hm:X.mg x=some (.ref f))(hk:PySem.W.keepIn X.K (.ref f)=true)(hb:Binds X.K fd ps ds)(hd:Vals dvs ds)(hx:Passes CX X E)
  (ha:PA X (e::es) t) (hdb:autoParam ((x ==("__debug__":Str))=false) ℜ1) (he:autoParam (starEach (e::es) X.env=(false,eval e X.env)::starEach es X.env) ℜ0) (hpl:autoParam ((backTo pos (starEach es X.env)).any (·.1)=false) ℜ0) :
  PE X (.Call (.Name x p) (e::es) [] pos) (ik sp dvs E t):=by
 intro pins s σ H Q I h;refine GL (fA I hg hm ?_ hdb);refine PySem.W.callWith_K (h₀:=X.base) I.ok.mod.lJ hk (bg (ha pos pins s σ H _ I h) fun us s1 ⟨vs,H1,I1,r,q⟩=>⟨I1.dn,?_⟩) he hpl;exact lF F hr hb hd hx I1 r q
theorem vP{pl:Sem Bool}(he:PE X o ta)(c:gy X.K C)(hm:Meth X.K C m f)(F:aX X.prog X.w X.K X.mg X.base CX k f fd ps sp)(hr:aY k X.A)(hb:Binds X.K fd ps ds)(hd:Vals dvs ds)(hx:Passes CX X E)(ha:PA X (e::es) t)
  (hst:autoParam (starEach (e::es) X.env=(false,eval e X.env)::starEach es X.env) ℜ0) (hpl:autoParam ((backTo pos (starEach es X.env)).any (·.1)=false) ℜ0)
  (ht:autoParam (eval (.Call (.Attribute o m apos) (e::es) [] pos) X.env=(do
   let ov <- eval o X.env
   standAt apos.atName
   let (f,first) <- holding [ov] (getMethod ov m pl)
   callWith pos f first (backTo pos (starEach (e::es) X.env)) (backToKw pos (keywordEach [] X.env)))) ℜ0) :
  PE X (.Call (.Attribute o m apos) (e::es) [] pos) (iq C m sp dvs E ta t):=by
 intro pins s σ H Q I h;refine PySem.W.methodCall_KW (pl:=pl) (bg (he pins s σ H _ I h) fun u s1 hq47=>?_) ht;obtain⟨x,H1,I1,rx,a,dx,fs,ex,ea,l,q⟩:=hq47;subst ex;obtain rfl:u=Value.ref a:=rx;refine eK I1 ea c hm l ?_;refine PySem.W.callWith_K (first:=[.ref a]) (h₀:=X.base) I.ok.mod.lJ hm.kp (bg (ha pos pins s1 σ H1 _ I1 q) fun us s2 ⟨vs,H2,I2,r,q2⟩=>⟨I2.dn,?_⟩) hst hpl
 exact lF (us:=.ref a::us) (vs:=.ref a::vs) F hr hb hd hx I2 (.cons rfl r) q2
theorem rY{pl:Sem Bool}(he:PE X o ta)(c:gy X.K C)(hm:Meth X.K C m f)(F:aX X.prog X.w X.K X.mg X.base CX k f fd ps sp)(hr:aY k X.A)(hb:Binds X.K fd ps ds)(hd:Vals dvs ds)(hx:Passes CX X E)
  (ht:autoParam (eval (.Call (.Attribute o m apos) [] [] pos) X.env=(do
   let ov <- eval o X.env
   standAt apos.atName
   let (f,first) <- holding [ov] (getMethod ov m pl)
   callWith pos f first (backTo pos (starEach [] X.env)) (backToKw pos (keywordEach [] X.env)))) ℜ0) :
  PE X (.Call (.Attribute o m apos) [] [] pos) (iq C m sp dvs E ta lM):=by
 intro pins s σ H Q I h;refine PySem.W.methodCall_KW (pl:=pl) (bg (he pins s σ H _ I h) fun u s1 hq48=>?_) ht;obtain⟨x,H1,I1,rx,a,dx,fs,ex,ea,l,q⟩:=hq48;subst ex;obtain rfl:u=Value.ref a:=rx;refine eK I1 ea c hm l ?_;exact PySem.W.callWith_K0 (first:=[.ref a]) I1.dn hm.kp (lF (us:=[.ref a]) (vs:=[.ref a]) F hr hb hd hx I1 (.cons rfl .nil) q)
structure Mk (K:Ih) (C f:Addr):Prop where
 makes:PySem.W.makesIn K C=true
 init:PySem.W.findIn K (.ref C) "__init__"=some (some (.ref f))
 fn:PySem.W.isFn K (.ref f)=true
 kp:PySem.W.keepIn K (.ref C)=true
theorem pX{Q:VK}(M:Mk X.K C f)(F:aX X.prog X.w X.K X.mg X.base CX k f fd ps sp)(hr:aY (k+1) X.A)(hb:Binds X.K fd ps ds)(hd:Vals dvs ds)
  (hx:Passes CX X E) (I:Inv X pins σ H s) (r:Vals vs us)
  (h:∀ x dx,H x=none->H dx=none->dx≠x->sp (.ref x::(vs++dvs)) (upd (upd H dx (.own x)) x (.ins C dx [])) (fun v H2=>v=.ay/\Q (.ref x) H2) E) :
  wpAny (model X.prog X.w) X.A (call (.ref C) us) (EP X pins σ Q) X.xe s:=by
 have hq:=h (s.heap.objs.size+1) s.heap.objs.size (I.aM.fresh (Nat.le_succ _)) (I.aM.fresh (EH _)) (Fd (Nat.lt_succ_self _));have I2:=Inv.made (C:=C) I;have r2:Vals (V.ref (s.heap.objs.size+1)::(vs++dvs)) (Value.ref (s.heap.objs.size+1)::(us++ds)):=.cons rfl (r.append hd);have hl:(Value.ref (s.heap.objs.size+1)::us++ds).length=ps.length:=by
  have e:=r2.length;rw[F.len _ _ _ _ hq] at e;exact e.symm
 refine HV (qA (f:=f) I.dn M.makes M.init (GD.mp M.fn) (Hc (F.run _ X.stack _ _ ⟨Value.ref (s.heap.objs.size+1)::us,[]⟩ (Value.ref (s.heap.objs.size+1)::(us++ds)) _ _ E (hr.make C us [])
  (I2.xU.make C us []) (hb _ (Value.ref (s.heap.objs.size+1)::us) I2.dn hl) r2 hq) fun r s' hq'=>?_))
 cases r with
 |error e=>exact hx pins σ _ _ e s' I2 hq'
 |ok fl =>
  cases fl with
  |ret u =>
   obtain⟨v,H',I3,rv,ev,q3⟩:=I2.after hq';subst ev;exact⟨rv,⟨V.ref (s.heap.objs.size+1),H',I3,rfl,q3⟩⟩
  |next=>exact False.elim hq'
  |brk=>exact False.elim hq'
  |cont=>exact False.elim hq'
theorem vz(M:Mk X.K C f)(F:aX X.prog X.w X.K X.mg X.base CX k f fd ps sp)(hr:aY (k+1) X.A)(hg:Gl X x)(hm:X.mg x=some (.ref C))(hb:Binds X.K fd ps ds)(hd:Vals dvs ds)(hx:Passes CX X E)
  (ha:PA X (e::es) t) (hdb:autoParam ((x ==("__debug__":Str))=false) ℜ1) (he:autoParam (starEach (e::es) X.env=(false,eval e X.env)::starEach es X.env) ℜ0) (hpl:autoParam ((backTo pos (starEach es X.env)).any (·.1)=false) ℜ0) :
  PE X (.Call (.Name x p) (e::es) [] pos) (kM C sp dvs E t):=by
 intro pins s σ H Q I h;refine GL (fA I hg hm ?_ hdb);refine PySem.W.callWith_K (h₀:=X.base) I.ok.mod.lJ M.kp (bg (ha pos pins s σ H _ I h) fun us s1 ⟨vs,H1,I1,r,q⟩=>⟨I1.dn,?_⟩) he hpl;exact pX M F hr hb hd hx I1 r q
end
structure av (N P:List Str) (sc:Scope):Prop where
 kind:sc.kind=.function
 co:sc.isCoroutine=false
 gen:sc.isGenerator=false
 nd:N.Nodup
 pre:N.take P.length=P
 par:∀ x∈P,sc.names.lookup x=some .local\/sc.names.lookup x=some .cell
 zk:∀ y∈sc.names,y.2≠.free
theorem jd:∀{binds:List (Str×Value)} {m:Str->Option Value},(∀ v,(x,v)∉binds)->bindL kindOf binds m x=m x
 |[],_,_=>rfl
 | (n,v)::r,m,h=>by
  unfold bindL;rw[jd fun w hw=>h w (ED _ hw)];split
  ·have:x≠n:=by rintro rfl;exact h v EN
   simp[this]
  ·rfl
theorem jq:∀{binds:List (Str×Value)} {m:Str->Option Value},(∀ v,(x,v)∉binds)->bindC kindOf binds m x=m x
 |[],_,_=>rfl
 | (n,v)::r,m,h=>by
  unfold bindC;rw[jq fun w hw=>h w (ED _ hw)];split
  ·rfl
  ·have:x≠n:=by rintro rfl;exact h v EN
   simp[this]
theorem jr{v:Value}:∀{P:List Str} {vs:List Value} {i:Nat} {m:Str->Option Value},P.Nodup->P[i]?=some x->vs[i]?=some v->kindOf x=some .local ->
  bindL kindOf (P.zip vs) m x=some v
 |[],_,_,_,_,h,_,_=>by simp at h
 |_::_,[],_,_,_,_,h,_=>by simp at h
 |p::P,w::vs,0,m,nd,h1,h2,hk=>by
  simp at h1 h2;subst h1;subst h2;show bindL kindOf ((p,w)::P.zip vs) m p=_;unfold bindL;rw[jd fun v hv=>(EY.mp nd).1 (HF hv).1,EI hk];simp
 |p::P,w::vs,i+1,m,nd,h1,h2,hk=>by
  show bindL kindOf ((p,w)::P.zip vs) m x=_;unfold bindL;exact jr (i:=i) (EY.mp nd).2 (by simpa using h1) (by simpa using h2) hk
theorem ja{v:Value}:∀{P:List Str} {vs:List Value} {i:Nat} {m:Str->Option Value},P.Nodup->P[i]?=some x->vs[i]?=some v->kindOf x≠some .local ->
  bindC kindOf (P.zip vs) m x=some v
 |[],_,_,_,_,h,_,_=>by simp at h
 |_::_,[],_,_,_,_,h,_=>by simp at h
 |p::P,w::vs,0,m,nd,h1,h2,hk=>by
  simp at h1 h2;subst h1;subst h2;show bindC kindOf ((p,w)::P.zip vs) m p=_;unfold bindC;rw[jq fun v hv=>(EY.mp nd).1 (HF hv).1,EB hk];simp
 |p::P,w::vs,i+1,m,nd,h1,h2,hk=>by
  show bindC kindOf ((p,w)::P.zip vs) m x=_;unfold bindC;exact ja (i:=i) (EY.mp nd).2 (by simpa using h1) (by simpa using h2) hk
noncomputable def start(N:List Str)(vs:List V):St:=vs.map some++List.replicate (N.length-vs.length) none
noncomputable def dH(CX:ke)(P:Program)(w:World)(K:Ih)(mg:Str->Option Value)(base:Heap)(N:List Str)(qual:Str)(scope:Scope)(f:Addr)(cd:Value)(A:Around)(outer:List Env)(s:Shared)(H:Hp)(E:XK):Cx where
 prog:=P
 w:=w
 K:=K
 mg:=mg
 base:=base
 A:=A.deeper (envOfC qual scope s.heap.objs.size f cd)
 N:=N
 s₀:=s
 H₀:=H
 env:=envOfC qual scope s.heap.objs.size f cd
 outer:=outer
 stack:=envOfC qual scope s.heap.objs.size f cd::outer
 ex:=[]
 calm:=true
 fn:=fun _=>true
 pn:=[]
 xe:=fun e s'=>wpAny (model P w) (A.deeper (envOfC qual scope s.heap.objs.size f cd)) (leaving (envOfC qual scope s.heap.objs.size f cd) e) (fun _ s''=>CX outer H s E e s'') (fun e' s''=>CX outer H s E e' s'') s'
theorem kR{sc:Scope}(h:sc.names.lookup x=some .cell):∃ c,(cellsFrom n sc.names []).lookup x=some c:=by
 have q:=PySem.W.cellsFrom_some sc.names n [] (.inl h);exact Hx.mp q
theorem pL{ps:List Str}{qual:Str}{f:Addr}{cd:Value}{A:Around}{s1:Shared}{E:XK}
  (S:av N ps scope) (hd:A.handled=none) (e0:lU P w K mg base A outer s H) (hl:vs.length=ps.length) (r:Vals vs us)
  (x:InCallC s s.heap.objs.size (bindL (envOfC qual scope s.heap.objs.size f cd).kindOf (ps.zip us) fun _=>none) (cellsFrom (s.heap.objs.size+1) scope.names []) (bindC (envOfC qual scope s.heap.objs.size f cd).kindOf (ps.zip us) fun _=>none) s1) :
  Inv (dH CX P w K mg base N qual scope f cd A outer s H E) [] (start N vs) H s1:=by
 have hpl:ps.length<=N.length:=by have:=Fc List.length S.pre;rw[Fg] at this;lia
 obtain⟨h1,tk,rfl,hk⟩:=x.done;have noA:∀ b:Addr,b∉(dH CX P w K mg base N qual scope f cd A outer s H E).ex:=fun b z=>absurd (show b∈([]:List Addr) from z) (by simp)
 refine⟨⟨e0.mod,S.kind,rfl,rfl,EH _,fun y z c h1 h2=>?_,fun y hy=>?_,fun y c _ h=>?_,fun _=>hd,Around.frames_deeper e0.frames,.inr ⟨rfl,rfl⟩,fun b z=>absurd z (noA b),e0.bs,e0.pw,fun b _ _=>noA b,fun b z=>absurd z (noA b),e0.e8,e0.rq,e0.tabs⟩,
  rfl,e0.bare,Un.kept hk,⟨_,x.toInCall.ns,fun i y v h1 h2 h3=>?_⟩,fun y c h=>⟨_,x.cell y c h⟩,e0.aM.fresh (EH _),fun y c h=>?_,fun p hp=>absurd (show p∈([]:List (Addr×Obj)) from hp) (by simp),e0.aM.kept hk,?_⟩
 ·exact name_of_addr x.apart (PySem.mem_of_lookup h1) (PySem.mem_of_lookup h2)
 ·have hy:scope.names.lookup y=some .cell\/scope.names.lookup y=some .free:=hy;rcases hy with hy|hy
  ·exact kR hy
  ·exact absurd rfl (S.zk _ (PySem.mem_of_lookup hy))
 ·exact Ia (x.above y c (PySem.mem_of_lookup h))
 ·have hi:i<vs.length:=by
   unfold start at h2;by_cases hi:i<vs.length
   ·exact hi
   ·rw[Fj (by simpa using hi)] at h2
    rw[Gr] at h2
    split at h2<;>cases h2
  have ha:vs[i]?=some v:=by
   unfold start at h2;rw[Fw (by simpa using hi),Fh] at h2
   cases e:vs[i]? with
   |none=>rw[e] at h2;cases h2
   |some a=>rw[e] at h2;cases h2;rfl
  obtain⟨u,hu,rv⟩:=r.get ha;have hp:ps[i]?=some y:=by
   rw[<- S.pre,Gm (by lia)];exact h1
  have ndP:ps.Nodup:=by rw[<- S.pre];exact S.nd.sublist (List.take_sublist _ _)
  refine⟨u,rv,?_⟩;rcases S.par y (FL hp) with k|k
  ·exact .inl ⟨k,jr ndP hp hu k⟩
  ·obtain⟨c,e⟩:=kR (n:=s.heap.objs.size+1) k;refine .inr ⟨.inl k,c,e,?_⟩;have q:=x.cell y c e;rw[ja ndP hp hu (by show scope.names.lookup y≠_;rw[k];decide)] at q
   exact q
 ·exact e0.aM.fresh (Ia (x.above y c (PySem.mem_of_lookup h)))
 ·unfold start;show _=N.length;rw[EU,EJ,FR];lia
theorem r_{f:Addr}{name qual:Str}{params:Arguments}{dV kV doc pm cdv ct oc:Value}{an od:Option Addr}
  {osl:Array (Option Value)} {ps:List Str}  (lk:K.lookup f=some ⟨oc,od,.func (PySem.W.fnOf name qual params body scope dV kV doc pm an cdv ct),osl⟩) (hcd:PySem.W.codeIn K cdv qual=true) (S:av N ps scope)
  (len:∀ vs H Q E,sp vs H Q E->vs.length=ps.length)
  (hbody:∀(A:Around) (outer:List Env) (s:Shared) (H:Hp) (vs:List V) (Q:VK) (E:XK),aY k (A.deeper (envOfC qual scope s.heap.objs.size f cdv))->sp vs H Q E ->
   ∃ t,nJ (dH CX P w K mg base N qual scope f cdv A outer s H E) body t/\t {nx:=fun _ H'=>Q .ay H',rt:=Q} (start N vs) H) :
  aX P w K mg base CX (k+1) f (PySem.W.fnOf name qual params body scope dV kV doc pm an cdv ct) ps sp:=by
 refine⟨len,fun A outer s H args us vs Q E hr e0 hb r hsp=>?_⟩;have hl:=len _ _ _ _ hsp;have KX:K.In s.heap:=e0.mod.lJ.keeps fun b o e=>(e0.bs b o e).1;have lim:s.heap.NoLimit:=e0.mod.nolimit.keeps fun b o e=>(e0.bs b o e).1;have hkind:∀ y∈ps.zip us,scope.names.lookup y.1=some .local\/(scope.names.lookup y.1=some .cell/\((cellsFrom (s.heap.objs.size+1) scope.names []).lookup y.1).isSome=true):=fun⟨n,v⟩ hy=>by
  rcases S.par n (HF hy).1 with q|q
  ·exact .inl q
  ·exact .inr ⟨q,PySem.W.cellsFrom_some _ _ _ (.inl q)⟩
 refine codeAny_call_function hr.depth (KX _ _ lk) rfl S.co S.gen rfl (PySem.W.codeRec_of KX hcd) (hb _ _ _ _ ?_);refine wpAny_newFunctionEnv_cells S.kind hkind fun env he s1 x=>?_;subst he;refine⟨lim.keeps x.toInCall.keep,codeAny_func ?_⟩;obtain⟨t,ht,hq⟩:=hbody A outer s H vs Q E (hr.deeper _) hsp;have I:Inv (dH CX P w K mg base N qual scope f cdv A outer s H E) [] (start N vs) H s1:=pL S hr.hd e0 hl r x;refine FJ (ht [] s1 (start N vs) H _ I hq) (fun fl s' hs=>?_) fun e s' hs=>hs;have fin:∀{σ':St} {H':Hp} {v:V} {u:Value},Inv (dH CX P w K mg base N qual scope f cdv A outer s H E) [] σ' H' s'->RelV v u->Q v H'->CE outer P w H s Q u s':=
  fun {σ' H' v u} J rv q=>⟨v,H',J.os,J.bare,J.base,J.aM,rv,q⟩
 cases fl with
 |ret u =>
  obtain⟨v,σ',H',J,rv,q⟩:=hs;exact fin J rv q
 |next =>
  obtain⟨σ',H',J,q⟩:=hs;exact fin (v:=V.ay) (u:=Value.none) J rfl q
 |brk =>
  obtain⟨_,_,_,q⟩:=hs;exact False.elim q
 |cont =>
  obtain⟨_,_,_,q⟩:=hs;exact False.elim q
section
variable {X:Cx} {x:Str} {p pos:Pos} {e:Expr} {es:List Expr} {t:TA} {id T:String} {r:List V->Hp->VK->Prop}
noncomputable def t6(r:List V->Hp->VK->Prop)(t:TA):TE:=fun σ H Q=>t σ H fun vs H1=>r vs H1 Q
theorem sS(hc:aP X (.builtin id) r)(hg:Gl X x)(hm:X.mg x=none)(hv:bootBuiltins x=some (.builtin id))(ha:PA X (e::es) t)(hn:autoParam (x≠"__name__") ℜ1)(hdb:autoParam ((x ==("__debug__":Str))=false) ℜ1)
  (he:autoParam (starEach (e::es) X.env=(false,eval e X.env)::starEach es X.env) ℜ0) (hpl:autoParam ((backTo pos (starEach es X.env)).any (·.1)=false) ℜ0):PE X (.Call (.Name x p) (e::es) [] pos) (t6 r t):=by
 intro pins s σ H Q I h;refine GL (hZ I hg hm hv ?_ hn hdb);exact PyProof.Rows.callWith_builtin1 (bg (ha pos pins s σ H _ I h) fun us s1 ⟨vs,H1,I1,r1,q1⟩=>hc pins s1 σ H1 vs us Q I1 r1 q1) he hpl
theorem o9(hc:aP X (.type T) r)(hg:Gl X x)(hm:X.mg x=none)(hv:bootBuiltins x=some (.type T))(ha:PA X (e::es) t)(hn:autoParam (x≠"__name__") ℜ1)(hdb:autoParam ((x ==("__debug__":Str))=false) ℜ1)
  (he:autoParam (starEach (e::es) X.env=(false,eval e X.env)::starEach es X.env) ℜ0) (hpl:autoParam ((backTo pos (starEach es X.env)).any (·.1)=false) ℜ0):PE X (.Call (.Name x p) (e::es) [] pos) (t6 r t):=by
 intro pins s σ H Q I h;refine GL (hZ I hg hm hv ?_ hn hdb);exact GC (bg (ha pos pins s σ H _ I h) fun us s1 ⟨vs,H1,I1,r1,q1⟩=>hc pins s1 σ H1 vs us Q I1 r1 q1) he hpl
end
end L2
namespace HT
open PySem PyProof.Rows
section
variable {prog:Program} {w:World} {A:Around} {E:Value->Shared->Prop} {s:Shared}
theorem vo{t b:Addr}{vs ws:List Value}{Q:Value->Shared->Prop}(ht:IsTup s.heap t vs.toArray)(hb:IsTup s.heap b ws.toArray)(hv:vs≠[])
  (h1:ws=[]->Q (.ref t) s) (h2:ws≠[]->Q (.ref s.heap.objs.size) {s with heap:=s.heap.push {cls:=.type "tuple",data:=.seq (vs++ws).toArray}})
  (hsz:vs.length+ws.length<=sizeLine):wpAny (model prog w) A (binaryOp .Add (.ref t) (.ref b)) Q E s:=by
 obtain⟨⟨cls,dd,data,sl⟩,ho,hc,n,hd⟩:=id ht;obtain⟨⟨cls2,dd2,data2,sl2⟩,ho2,hc2,n2,hd2⟩:=id hb;simp only at hc hd hc2 hd2;subst hc hd hc2 hd2;have e:vs.toArray++ws.toArray=(vs++ws).toArray:=by simp
 by_cases hw:ws=[]
 ·exact concat_meets ⟨_,ho,rfl⟩ ⟨_,ho2,rfl⟩ noFill_tuple_add seq_tuple_add PySem.F.slot_tuple_add PySem.F.entry_tuple_add (PySem.F.args_tuple_add_2 _ _)
   (tuple_addW1 t b vs.toArray ws.toArray n n2 dd dd2 sl sl2 (by simpa using hv) (by simp[hw])) ⟨ho,ho2,h1 hw⟩
 ·refine concat_meets ⟨_,ho,rfl⟩ ⟨_,ho2,rfl⟩ noFill_tuple_add seq_tuple_add PySem.F.slot_tuple_add PySem.F.entry_tuple_add (PySem.F.args_tuple_add_2 _ _)
   (tuple_addW2 t b vs.toArray ws.toArray n n2 dd dd2 sl sl2 (by simpa using hv) (by simpa using hw) (by rw[List.size_toArray,List.size_toArray];exact hsz)) ⟨ho,ho2,?_⟩
  rw[e];exact h2 hw
noncomputable def aR(n d:Nat):Option Int->Nat
 |none=>d
 |some v=>if v<0 then (v+(n:Int)).toNat else min v.toNat n
theorem fz(n d:Nat):aR n d none=d:=rfl
theorem jz(n d k:Nat):aR n d (some (k:Int))=min k n:=by
 show (if (k:Int)<0 then ((k:Int)+(n:Int)).toNat else min (k:Int).toNat n)=min k n
 rw[if_neg (by lia),Int.toNat_natCast]
theorem mh(n d:Nat)(hd:d<=n)(o:Option Int):aR n d o<=n:=by
 cases o with
 |none=>exact hd
 |some v =>
  show (if v<0 then (v+(n:Int)).toNat else min v.toNat n)<=n
  by_cases hv:v<0
  ·rw[if_pos hv];lia
  ·rw[if_neg hv];exact Nat.min_le_right _ _
theorem nG(v:Int)(n d:Nat):(if v<0 then max (v+(n:Int)) 0 else min v (n:Int))=((aR n d (some v):Nat):Int):=by
 show (if v<0 then max (v+(n:Int)) 0 else min v (n:Int))=(((if v<0 then (v+(n:Int)).toNat else min v.toNat n):Nat):Int)
 by_cases hv:v<0
 ·simp only[if_pos hv];lia
 ·simp only[if_neg hv];lia
theorem m7(lo hi:Option Int)(n:Nat):Builtin.Slice.sliceAdjust lo hi 1 (n:Int)=(((aR n 0 lo:Nat):Int),((aR n n hi:Nat):Int)):=by
 have h1:¬ ((1:Int)<0):=by lia
 unfold Builtin.Slice.sliceAdjust;simp only[h1,if_false];refine Prod.ext ?_ ?_
 ·cases lo with
  |none=>rfl
  |some v=>exact nG v n 0
 ·cases hi with
  |none=>rfl
  |some v=>exact nG v n n
theorem lH(i j:Nat):Builtin.Slice.slicePlaces (i:Int) (j:Int) 1=j-i:=by
 unfold Builtin.Slice.slicePlaces;have h1:(1:Int) > 0:=by lia
 simp only[h1,if_true,Int.ediv_one]
 split<;>lia
theorem h9{v:Value}{o:Option Int}{Q:Option Int->Shared->Prop}(p:IsPart v o)(h:Q o s):wpAny (model prog w) A (Builtin.Slice.slicePartIndex v) Q E s:=by
 cases p with
 |none=>exact slicePart_none h
 |int i t=>exact slicePart_int h
theorem dc{sl:Addr}{vl vu:Value}{lo hi:Option Int}{n:Nat}{Q:Int×Int×Nat->Shared->Prop}(hs:s.heap.IsSliceOf sl vl vu .none)(pl:IsPart vl lo)(pu:IsPart vu hi)
  (h:Q (((aR n 0 lo:Nat):Int),1,aR n n hi-aR n 0 lo) s):wpAny (model prog w) A (Builtin.Slice.sliceApplied (.ref sl) (pure (n:Int))) Q E s:=by
 obtain⟨os,hos,hcs,hds⟩:=id hs;unfold Builtin.Slice.sliceApplied Builtin.Slice.sliceFields;refine wpAny_bind (wpAny_bind (wpAny_field hos hds (x:=vl) rfl (wpAny_bind (wpAny_field hos hds (x:=vu) rfl (wpAny_bind (wpAny_field hos hds (x:=.none) rfl (wpAny_pure ?_)))))));refine wpAny_bind (slicePart_none ?_);show wpAny _ _ (if ((1:Int) == 0)=true then _ else _) _ _ s
 rw[if_neg (by decide)]
 refine wpAny_bind (h9 pl (wpAny_bind (h9 pu (wpAny_bind (wpAny_pure ?_)))));show wpAny _ _ (match Builtin.Slice.sliceAdjust lo hi 1 (n:Int) with | (lo,hi)=>pure (lo,(1:Int),Builtin.Slice.slicePlaces lo hi 1)) _ _ s
 rw[m7 lo hi n];show wpAny _ _ (pure (((aR n 0 lo:Nat):Int),(1:Int),Builtin.Slice.slicePlaces ((aR n 0 lo:Nat):Int) ((aR n n hi:Nat):Int) 1)) _ _ s;rw[lH];exact wpAny_pure h
theorem sO(xs:Array Value)(i k:Nat):((List.range k).filterMap fun (m:Nat)=>xs[((i:Int)+(m:Int)*1).toNat]?).toArray=((xs.toList.drop i).take k).toArray:=by
 have e:(fun (m:Nat)=>xs[((i:Int)+(m:Int)*1).toNat]?)=fun m=>xs[i+m]?:=by
  funext m
  have:((i:Int)+(m:Int)*1).toNat=i+m:=by lia
  rw[this]
 rw[e];have:=pick_run xs i k;rw[List.filterMap_map] at this;have e2:((fun x=>xs[x]?) ∘ fun x=>i+x)=fun m=>xs[i+m]?:=rfl;rw[e2] at this;rw[this]
theorem eW{t sl:Addr}{items:Array Value}{vl vu:Value}{lo hi:Option Int}{Q:Value->Shared->Prop}(ht:IsTup s.heap t items)(hs:s.heap.IsSliceOf sl vl vu .none)(pl:IsPart vl lo)(pu:IsPart vu hi)
  (hw:¬ (aR items.size 0 lo=0/\aR items.size items.size hi=items.size))
  (h:Q (.ref s.heap.objs.size) {s with heap:=s.heap.push {cls:=.type "tuple",data:=.seq ((items.toList.drop (aR items.size 0 lo)).take (aR items.size items.size hi-aR items.size 0 lo)).toArray}})
  (hsz:items.size<=sizeLine):wpAny (model prog w) A (getItem (.ref t) (.ref sl)) Q E s:=by
 have htake:sizeOk (.seq ((items.toList.drop (aR items.size 0 lo)).take (aR items.size items.size hi-aR items.size 0 lo)).toArray):=by
  show ((items.toList.drop (aR items.size 0 lo)).take (aR items.size items.size hi-aR items.size 0 lo)).toArray.size<=sizeLine;rw[List.size_toArray,List.length_take,List.length_drop,Array.length_toList];exact Nat.le_trans (Nat.min_le_right _ _) (Nat.le_trans (Nat.sub_le _ _) hsz)
 have hj:aR items.size items.size hi<=items.size:=mh _ _ (Nat.le_refl _) hi;obtain⟨os,hos,hcs,hds⟩:=id hs;have hTs:s.TypeIs (.ref sl) "slice":=⟨os,hos,hcs⟩;unfold getItem
 try with_reducible refine wpAny_holding ?_
 first|refine wpAny_bind (wpAny_pure ?_)|skip
 refine wpAny_bind (wpAny_sequenceKey ht.typeIs (by decide) ?_)
 refine wpAny_bind (wpAny_callSpecial?_slot (name:=Str.ofString "__getitem__") ht.typeIs PyProof.Rows.slot_tuple_getitem
  (wpAny_call_entry PyProof.Rows.slot_tuple_getitem ht.typeIs entry_tuple_getitem ?_ (args_tuple_getitem _ _)))
 show wpAny _ _ (Builtin.Tuple.tupleItemsOf (.ref t) >>= _) _ _ s;refine wpAny_bind (tupleItemsOf_ ht ?_);refine wpAny_bind (wpAny_typeOf hTs ?_);rw[if_pos (by decide)]
 refine wpAny_bind (dc hs pl pu ?_);have hno:¬ ((((aR items.size 0 lo:Nat):Int) == 0 && (1:Int) == 1 && (aR items.size items.size hi-aR items.size 0 lo) == items.size)=true):=by
  intro q;rw[Bool.and_eq_true,Bool.and_eq_true] at q;have q1:((aR items.size 0 lo:Nat):Int)=0:=eq_of_beq q.1.1;have q2:aR items.size items.size hi-aR items.size 0 lo=items.size:=eq_of_beq q.2;exact hw ⟨by lia,by lia⟩
 show wpAny _ _ (if (((aR items.size 0 lo:Nat):Int) == 0 && (1:Int) == 1 && (aR items.size items.size hi-aR items.size 0 lo) == items.size)=true then _ else _) _ _ s
 rw[if_neg hno,sO]
 first
  |exact wpAny_bind (m:=Builtin.Tuple.tupleExact _) (wpAny_newObj_type (wpAny_pure ⟨_,rfl,wpAny_pure h⟩) htake)
  |exact wpAny_bind (m:=Builtin.Tuple.tupleExact _) (wpAny_newObj_type (wpAny_bind (wpAny_pure (wpAny_pure ⟨_,rfl,wpAny_pure h⟩))) htake)
  |exact wpAny_bind (wpAny_bind (m:=Builtin.Tuple.tupleExact _) (wpAny_newObj_type (wpAny_pure (wpAny_pure ⟨_,rfl,wpAny_pure h⟩)) htake))
  |exact wpAny_bind (wpAny_bind (m:=Builtin.Tuple.tupleExact _) (wpAny_newObj_type (wpAny_pure ⟨_,rfl,wpAny_pure h⟩) htake))
end
end HT
namespace L2
open PySem PySem.Spec PyProof.Rows
variable{r:V->Option Int->Option Int->Hp->VK->Prop}{xs:List V}{ah its' us:List Value}{α:Type}{n:Nat}{pins:List (Addr×Obj)}{σ:St}{H:Hp}{s:Shared}{x:V}
abbrev TO:=St->Hp->(Option Int->Hp->Prop)->Prop
noncomputable def PO(X:Cx)(e:Option Expr)(t:TO):Prop:=
 ∀(pins:List (Addr×Obj)) (s:Shared) (σ:St) (H:Hp) (Q:Option Int->Hp->Prop),Inv X pins σ H s->t σ H Q ->
  wpAny (model X.prog X.w) X.A (evalPart e X.env) (fun u s'=>∃ o H',Inv X pins σ H' s'/\IsPart u o/\Q o H') X.xe s
noncomputable def eZ:TO:=fun _ H Q=>Q none H
noncomputable def kD(t:TE):TO:=fun σ H Q=>t σ H fun x H1=>∃ i,x=.int i/\Q (some i) H1
theorem intsAre_of{ns:List Int}:∀{us:List Value},Vals (ns.map V.int) us->IntsAre us ns:=by
 induction ns with
 |nil=>intro us r;rw[List.map_nil] at r;cases r;exact .nil
 |cons n ns ih =>
  intro us r;rw[Fy] at r
  cases r with
  |cons r1 r2 =>
   obtain⟨t,e⟩:=r1;subst e;exact .cons n t (ih r2)
section
variable {X:Cx} {e:Expr} {te:TE} {lo hi:Option Expr} {tl th:TO} {pos p2:Pos}
theorem vC:PO X none eZ:=by
 intro pins s σ H Q I h;rw[evalPart_none];exact EL ⟨none,H,I,.none,h⟩
theorem uW(h:PE X e te):PO X (some e) (kD te):=by
 intro pins s σ H Q I hw;rw[evalPart_some];refine bg (h pins s σ H _ I hw) fun u s1 hq50=>?_;obtain⟨x,H1,I1,r1,q1⟩:=hq50;obtain⟨i,rfl,q⟩:=q1;obtain⟨t,rfl⟩:=r1;exact⟨some i,H1,I1,.int i t,q⟩
noncomputable def mT(X:Cx)(r:V->Option Int->Option Int->Hp->VK->Prop):Prop:=
 ∀(pins:List (Addr×Obj)) (s:Shared) (σ:St) (H:Hp) (x:V) (v vl vu:Value) (lo hi:Option Int) (sl:Addr) (Q:VK),Inv X pins σ H s->RelV x v->s.heap.IsSliceOf sl vl vu .none->IsPart vl lo->IsPart vu hi->r x lo hi H Q ->
  ∃ T id,typeLookup (.type T) "__getitem__"=pure (some (.builtin id))/\s.TypeIs v T/\wpAny (model X.prog X.w) X.A (getItem v (.ref sl)) (EP X pins σ Q) X.xe s
theorem mT.or{r':V->Option Int->Option Int->Hp->VK->Prop}(h:mT X r)(h':mT X r'):mT X (fun x lo hi H Q=>r x lo hi H Q\/r' x lo hi H Q):=by
 intro pins s σ H x v vl vu lo hi sl Q I rx hs pl pu q;rcases q with q|q
 ·exact h pins s σ H x v vl vu lo hi sl Q I rx hs pl pu q
 ·exact h' pins s σ H x v vl vu lo hi sl Q I rx hs pl pu q
noncomputable def Ca(r:V->Option Int->Option Int->Hp->VK->Prop)(te:TE)(tl th:TO):TE:=fun σ H Q=>te σ H fun x H1=>tl σ H1 fun l H2=>th σ H2 fun u H3=>r x l u H3 Q
theorem qB(hr:mT X r)(he:PE X e te)(hl:PO X lo tl)(hu:PO X hi th):PE X (.Subscript e (.Slice lo hi none p2) pos) (Ca r te tl th):=by
 intro pins s σ H Q I h;refine Subscript_ (bg (he pins s σ H _ I h) fun v s1 hq51=>?_);obtain⟨x,H1,I1,r1,q1⟩:=hq51;refine wpAny_Slice (bg (hl pins s1 σ H1 _ I1 q1) fun vl s2 ⟨l,H2,I2,pl,q2⟩=>bg (hu pins s2 σ H2 _ I2 q2) fun vu s3 hq52=>?_);obtain⟨u,H3,I3,pu,q3⟩:=hq52;rw[evalPart_none];refine EL ?_;have I4:Inv X pins σ H3 {s3 with heap:=s3.heap.push {cls:=.type "slice",data:=.fields #[vl,vu,.none]}}:=I3.kept (t':=s3.toks) fun b ob q=>EC _ q
 obtain⟨T,id,hT,ht,hg⟩:=hr pins {s3 with heap:=s3.heap.push {cls:=.type "slice",data:=.fields #[vl,vu,.none]}} σ H3 x v vl vu l u s3.heap.objs.size Q I4 r1 (Heap.IsSliceOf.new ..) pl pu q3
 show wpAny (model X.prog X.w) X.A (subscriptTail e (.Slice lo hi none p2) v (.ref s3.heap.objs.size)) (EP X pins σ Q) X.xe {s3 with heap:=s3.heap.push {cls:=.type "slice",data:=.fields #[vl,vu,.none]}}
 exact tail_any (ops:=[.ref s3.heap.objs.size,v]) ht hT hg (by with_unfolding_all rfl)
noncomputable def gY(xs:List V)(lo hi:Option Int):List V:=(xs.drop (HT.aR xs.length 0 lo)).take (HT.aR xs.length xs.length hi-HT.aR xs.length 0 lo)
theorem fX(xs:List V)(lo hi:Option Int):(gY xs lo hi).length<=xs.length:=by
 unfold gY;rw[Fg,Ga];exact ES (Nat.min_le_right _ _) (Nat.sub_le _ _)
noncomputable def oG(K:Ih):V->Option Int->Option Int->Hp->VK->Prop:=fun x lo hi H Q=>∃ a xs,x=.ref a/\b6 K H a xs /\
 ¬ (HT.aR xs.length 0 lo=0/\HT.aR xs.length xs.length hi=xs.length)/\∀ p,H p=none->Q (.ref p) (upd H p (.tup (gY xs lo hi)))
theorem lY:mT X (oG X.K):=by
 intro pins s σ H x v vl vu lo hi sl Q I rx hs pl pu h;obtain⟨a,xs,rfl,hx,hw,q⟩:=h;cases rx;obtain⟨ah,r,ht,hz⟩:=I.tuple hx;have hlen:ah.toArray.size=xs.length:=by rw[EE];exact r.length.symm
 refine⟨"tuple",_,FU.lookup,ht.typeIs,?_⟩;refine HT.eW ht hs pl pu (by rw[hlen];exact hw) ?_ (by rw[hlen];exact hz)
 rw[hlen];refine⟨.ref s.heap.objs.size,_,I.laid (t':=s.toks) (o:=.tup (gY xs lo hi)) (fun b ob q=>EC _ q) (EH _) ?_,rfl,q _ (I.aM.fresh (EH _))⟩;exact⟨ES (fX xs lo hi) hz,_,(r.drop (HT.aR xs.length 0 lo)).take (HT.aR xs.length xs.length hi-HT.aR xs.length 0 lo),cu.new _ _⟩
noncomputable def BV(K:Ih):R2:=fun x y H Q=>∃ a b xs ys,x=.ref a/\y=.ref b/\b6 K H a xs/\b6 K H b ys/\xs≠[]/\xs.length+ys.length<=sizeLine /\
 (ys=[]->Q (.ref a) H)/\(ys≠[]->∀ p,H p=none->Q (.ref p) (upd H p (.tup (xs++ys))))
theorem Vals.j5(r:Vals xs us):us=[] ↔ xs=[]:=by
 cases r with
 |nil=>simp
 |cons _ _=>simp
theorem mZ:bZ X (binaryOp .Add) (BV X.K):=by
 intro pins s σ H x y v u Q I rx ry h;obtain⟨a,b,xs,ys,rfl,rfl,ha,hb,hx,hz,q1,q2⟩:=h;cases rx;cases ry;obtain⟨ah,r1,p1,_⟩:=I.tuple ha;obtain⟨its2,r2,p2,_⟩:=I.tuple hb;refine HT.vo p1 p2 (fun z=>hx (r1.j5.mp z)) (fun z=>⟨.ref a,H,I,rfl,q1 (r2.j5.mp z)⟩) (fun z=>?_) (by rw[<- r1.length,<- r2.length];exact hz)
 refine⟨.ref s.heap.objs.size,_,I.laid (t':=s.toks) (o:=.tup (xs++ys)) (fun b ob q=>EC _ q) (EH _) ?_,rfl,q2 (fun w=>z (r2.j5.mpr w)) _ (I.aM.fresh (EH _))⟩;exact⟨by rw[EU];exact hz,_,r1.append r2,cu.new _ _⟩
end
noncomputable def i3(n:Nat)(i:Int):Option Nat:=if 0<=i then (if i<n then some i.toNat else none) else if -(n:Int)<=i then some (i+n).toNat else none
noncomputable def bN(xs:List α)(i:Int):Option α:=(i3 xs.length i).bind fun j=>xs[j]?
theorem nv{i:Int}{j:Nat}(h:i3 n i=some j):seqIndex? i n=some j/\j<n/\-(n:Int)<=i/\i<n:=by
 unfold i3 at h;by_cases h0:0<=i
 ·rw[EI h0] at h;by_cases h1:i<n
  ·rw[EI h1] at h;have e:i.toNat=j:=Option.some.inj h;exact⟨by rw[seqIndex_of h0 h1,e],by lia,by lia,h1⟩
  ·rw[EB h1] at h;cases h
 ·rw[EB h0] at h;by_cases h1:-(n:Int)<=i
  ·rw[EI h1] at h;have e:(i+n).toNat=j:=Option.some.inj h;exact⟨by rw[Ib (by lia) h1,e],by lia,h1,by lia⟩
  ·rw[EB h1] at h;cases h
theorem jX{xs:List α}{i:Int}{v:α}(h:bN xs i=some v):∃ j,seqIndex? i xs.length=some j/\xs[j]?=some v/\j<xs.length/\-(xs.length:Int)<=i/\i<xs.length:=by
 unfold bN at h
 cases e:i3 xs.length i with
 |none=>rw[e] at h;cases h
 |some j =>
  rw[e] at h;obtain⟨h1,h2,h3,h4⟩:=nv e;exact⟨j,h1,h,h2,h3,h4⟩
theorem cA{xs:List α}{j:Nat}{v:α}(h:xs[j]?=some v):bN xs (j:Int)=some v:=by
 have hj:j<xs.length:=(EM.mp h).1;have e:i3 xs.length (j:Int)=some j:=by
  unfold i3;rw[EI (by lia),EI (by lia)];simp
 unfold bN;rw[e];exact h
noncomputable def mG(b:Expr):Prop:=∀ o i,subscripted b false o i=operate [o,i] (getItem o i)
noncomputable def lK(X:Cx)(r:R2):Prop:=
 ∀(value slice:Expr) (pins:List (Addr×Obj)) (s:Shared) (σ:St) (H:Hp) (x y:V) (v u:Value) (Q:VK),Inv X pins σ H s->RelV x v->RelV y u->r x y H Q ->
  subscripted slice false v u=operate [v,u] (getItem v u)->wpAny (model X.prog X.w) X.A (subscriptTail value slice v u) (EP X pins σ Q) X.xe s
noncomputable def Bh(X:Cx)(id:String)(r:V->List V->Hp->VK->Prop):Prop:=
 ∀(pins:List (Addr×Obj)) (s:Shared) (σ:St) (H:Hp) (x:V) (xs:List V) (v:Value) (us:List Value) (Q:VK),Inv X pins σ H s->RelV x v->Vals xs us->r x xs H Q ->
  wpAny (model X.prog X.w) X.A (call (.builtin id) (v::us)) (EP X pins σ Q) X.xe s
section
variable {X:Cx} {a b:Expr} {ta tb:TE} {pos:Pos}
theorem lK.or{r r':R2}(h:lK X r)(h':lK X r'):lK X (fun x y H Q=>r x y H Q\/r' x y H Q):=by
 intro value slice pins s σ H x y v u Q I rx ry q hs;rcases q with q|q
 ·exact h value slice pins s σ H x y v u Q I rx ry q hs
 ·exact h' value slice pins s σ H x y v u Q I rx ry q hs
theorem Aq{r:R2}(hr:lK X r)(ha:PE X a ta)(hb:PE X b tb)(hs:mG b):PE X (.Subscript a b pos) (pq r ta tb):=by
 intro pins s σ H Q I h;exact Subscript_ (zp ha hb I h fun v u s2 x y H2 I2 rx ry q=>hr a b pins s2 σ H2 x y v u Q I2 rx ry q (hs _ _))
noncomputable def AZ(K:Ih):R2:=fun x y H Q=>∃ p xs i v,x=.ref p/\y=.int i/\a_ K H p xs/\bN xs i=some v/\Q v H
noncomputable def BZ(K:Ih):R2:=fun x y H Q=>∃ p xs i v,x=.ref p/\y=.int i/\b6 K H p xs/\bN xs i=some v/\Q v H
noncomputable def Bu:R2:=fun x y H Q=>∃ z i c,x=.str z/\y=.int i/\z.length<=sizeLine/\bN z.cps.toList i=some c/\Q (.str ⟨#[c]⟩) H
theorem nu:lK X (AZ X.K):=by
 intro value slice pins s σ H x y v u Q I rx ry h hs;obtain⟨p,xs,i,z,rfl,rfl,hq,he,q⟩:=h;cases rx;obtain⟨t,rfl⟩:=ry;obtain⟨ah,r,pl,hz⟩:=I.list hq;obtain⟨j,h1,h2,h3,h4,h5⟩:=jX he;obtain⟨w,ew,rw'⟩:=r.get h2;have hl:=r.length;have hn:=dM;have fin:EP X pins σ Q w s:=⟨z,H,I,rw',q⟩;by_cases h0:0<=i
 ·have hj:i.toNat=j:=by
   rw[seqIndex_of h0 h5] at h1;exact Option.some.inj h1
  exact item_listR pl.isList h0 (by lia) (by rw[hj];simpa using ew) fin hs
 ·have hj:(i+(ah.toArray.size:Int)).toNat=j:=by
   rw[Ib (by lia) h4] at h1
   rw[EE,<- hl];exact Option.some.inj h1
  exact subscriptTail_builtinR (x:=w) pl.isList.typeIs slot_list_getitem.lookup
   (wpAny_getItem_list_neg (Q:=fun r s'=>r=w/\EP X pins σ Q r s') pl.isList (by lia) (by rw[EE]<;>lia) (by lia) (by rw[hj];simpa using ew) ⟨rfl,fin⟩) hs
theorem yR:lK X (BZ X.K):=by
 intro value slice pins s σ H x y v u Q I rx ry h hs;obtain⟨p,xs,i,z,rfl,rfl,hq,he,q⟩:=h;cases rx;obtain⟨t,rfl⟩:=ry;obtain⟨ah,r,pl,hz⟩:=I.tuple hq;obtain⟨j,h1,h2,h3,h4,h5⟩:=jX he;obtain⟨w,ew,rw'⟩:=r.get h2;have hl:=r.length;have hn:=dM;have fin:EP X pins σ Q w s:=⟨z,H,I,rw',q⟩;exact subscriptTail_builtinR (x:=w) pl.typeIs slot_tuple_getitem.lookup
  (getItem_tuple (j:=j) (Q:=fun r s'=>r=w/\EP X pins σ Q r s') pl (by lia) (by lia) (by rw[EE,<- hl];exact h1) (by simpa using ew) ⟨rfl,fin⟩) hs
theorem zl:lK X Bu:=by
 intro value slice pins s σ H x y v u Q I rx ry h hs;obtain⟨z,i,c,rfl,rfl,hz,he,q⟩:=h;obtain⟨t,rfl⟩:=rx;obtain⟨t',rfl⟩:=ry;obtain⟨j,h1,h2,h3,h4,h5⟩:=jX he;have hl:z.cps.toList.length=z.length:=by simp[Str.length]
 rw[hl] at h1 h4 h5;have hn:=dM;exact tail_any (typeIs_str s z t) slot_str_getitem.lookup (getItem_str (c:=c) (by
  have e1:decide (i < -(2^63:Int))=false:=EX (by lia)
  have e2:decide (i >= 2^63)=false:=EX (by lia)
  rw[e1,e2,Bool.or_false]) (by rw[h1];simpa using h2) ⟨.str ⟨#[c]⟩,H,I.tok _,⟨_,rfl⟩,q⟩) hs
noncomputable def Dl(K:Ih):R2:=fun x y H Q=>AZ K x y H Q\/BZ K x y H Q\/Bu x y H Q
theorem rm:lK X (Dl X.K):=nu.or (yR.or zl)
theorem ml(ah:List Value)(n j:Nat)(u:Value):Obj.mapSeq (·.setIfInBounds j u) {cls:=.type "list",data:=.seq ah.toArray n}={cls:=.type "list",data:=.seq (ah.set j u).toArray n}:=by
 simp[Obj.mapSeq]
theorem Inv.lst{p:Addr}(I:Inv X pins σ H s)(h:H p=some (.lst xs)):
  ∃(ah:List Value) (n:Nat),Vals xs ah/\s.heap.get? p=some {cls:=.type "list",data:=.seq ah.toArray n}/\xs.length<=sizeLine:=by
 obtain⟨z,ah,n,r,e⟩:=I.aM p _ h;exact⟨ah,n,r,e,z⟩
theorem Inv.yu{p:Addr}{ys:List V}{n':Nat}{f:Obj->Obj}(I:Inv X pins σ H s)(h:H p=some (.lst xs))
  (ho:s.heap.get? p=some {cls:=.type "list",data:=.seq ah.toArray n}) (hf:f {cls:=.type "list",data:=.seq ah.toArray n}={cls:=.type "list",data:=.seq its'.toArray n'}) (r:Vals ys its') (hz:ys.length<=sizeLine) (t:Nat) :
  Inv X pins σ (upd H p (.lst ys)) {s with heap:=s.heap.update p f,toks:=t}:=by
 have e:(s.heap.update p f).get? p=some {cls:=.type "list",data:=.seq its'.toArray n'}:=by
  rw[GX f ho (by rw[hf]<;>rfl),hf]
 refine I.write (x:=p) (e:=p) (by rw[h];trivial) (.inl rfl) (fun b u hb q=>(GU _ _ (Ne.symm hb)).trans q) ⟨_,e⟩ ?_
 exact⟨hz,its',n',r,e⟩
noncomputable def B_:V->V->V->Hp->(Hp->Prop)->Prop:=fun o i v H Q=>∃ p xs k j,o=.ref p/\i=.int k/\H p=some (.lst xs)/\i3 xs.length k=some j/\Q (upd H p (.lst (xs.set j v)))
theorem set_list:uE X B_:=by
 intro pins s σ H o i v ov iv u Q I ro ri rv h;obtain⟨p,xs,k,j,rfl,rfl,hp,hj,q⟩:=h;cases ro;obtain⟨t,rfl⟩:=ri;obtain⟨ah,n,r,ho,hz⟩:=I.lst hp;obtain⟨h1,h2,h3,h4⟩:=nv hj;have hl:=r.length;have hn:=dM;have I':Inv X pins σ (upd H p (.lst (xs.set j v))) {s with heap:=s.heap.update p (Obj.mapSeq (·.setIfInBounds j u))}:=
  I.yu hp ho (ml ah n j u) (r.set rv j) (by rw[Fz];exact hz) s.toks
 by_cases h0:0<=k
 ·have hk:k.toNat=j:=by
   rw[seqIndex_of h0 h4] at h1;exact Option.some.inj h1
  exact PySem.W.ki_setAt ho h0 (by lia) (by rw[EE,<- hl];exact h4) (by rw[hk];exact⟨_,I',q⟩)
 ·have hk:(k+(ah.toArray.size:Int)).toNat=j:=by
   rw[Ib (by lia) h3] at h1
   rw[EE,<- hl];exact Option.some.inj h1
  exact PySem.W.ki_setBack ho (by lia) (by rw[EE,<- hl];exact h3) (by lia) (by rw[hk];exact⟨_,I',q⟩)
theorem jO(lo hi:Option Int)(n:Nat):(sliceBounds lo hi none n).1=((HT.aR n 0 lo:Nat):Int)/\(sliceBounds lo hi none n).2.1=((HT.aR n n hi:Nat):Int)/\(sliceBounds lo hi none n).2.2=1:=by
 refine⟨?_,?_,rfl⟩
 ·cases lo with
  |none=>simp[sliceBounds,HT.aR]
  |some i =>
   simp only[sliceBounds,HT.aR,Option.getD_none,show (1:Int) > 0 by decide,GQ]
   by_cases h:i<0
   ·simp only[h,GQ]<;>lia
   ·simp only[h,HW]<;>lia
 ·cases hi with
  |none=>simp[sliceBounds,HT.aR]
  |some i =>
   simp only[sliceBounds,HT.aR,Option.getD_none,show (1:Int) > 0 by decide,GQ]
   by_cases h:i<0
   ·simp only[h,GQ]<;>lia
   ·simp only[h,HW]<;>lia
theorem iC(ah:List Value)(lo hi:Option Int):slicePick ah.toArray lo hi none=((ah.drop (HT.aR ah.length 0 lo)).take (HT.aR ah.length ah.length hi-HT.aR ah.length 0 lo)).toArray:=by
 obtain⟨h1,h2,h3⟩:=jO lo hi ah.toArray.size;unfold slicePick;rw[h1,h2,h3];simp only[sliceRange_one,pick_run,EE]<;>rfl
noncomputable def BS(K:Ih):V->Option Int->Option Int->Hp->VK->Prop:=fun x lo hi H Q=>∃ a xs,x=.ref a/\a_ K H a xs/\∀ p,H p=none->Q (.ref p) (upd H p (.lst (gY xs lo hi)))
theorem nD:mT X (BS X.K):=by
 intro pins s σ H x v vl vu lo hi sl Q I rx hs pl pu h;obtain⟨a,xs,rfl,hx,q⟩:=h;cases rx;obtain⟨ah,r,ht,hz⟩:=I.list hx;have hlen:=r.length;refine⟨"list",_,slot_list_getitem.lookup,ht.isList.typeIs,?_⟩;refine wpAny_getItem_list_slice ht.isList hs pl pu .none (by simp) ?_ (by rw[EE]<;>lia)
 rw[iC,<- hlen];refine⟨.ref s.heap.objs.size,_,I.laid (t':=s.toks) (o:=.lst (gY xs lo hi)) (fun b ob q=>EC _ q) (EH _) ?_,rfl,q _ (I.aM.fresh (EH _))⟩;exact⟨ES (fX xs lo hi) hz,_,0,(r.drop (HT.aR xs.length 0 lo)).take (HT.aR xs.length xs.length hi-HT.aR xs.length 0 lo),EV _ rfl⟩
noncomputable def b9:V->Bool
 |.ay=>true
 |.bl _=>true
 |.int _=>true
 |.str _=>true
 |_=>false
noncomputable def pE:V->V->Bool
 |.ay,.ay=>true
 |.bl a,.bl b=>a == b
 |.bl a,.int b=>(if a then 1 else 0) == b
 |.int a,.bl b=>a ==(if b then 1 else 0)
 |.int a,.int b=>a == b
 |.str a,.str b=>a == b
 |_,_=>false
theorem lT{A:Around}{y:V}{u v:Value}(ry:RelV y u)(rx:RelV x v)(fy:b9 y=true)(fx:b9 x=true):SeqAt.EqAt A s u v (pE y x):=by
 cases y with
 |ay =>
  cases ry
  cases x with
  |ay=>cases rx;exact SeqAt.EqAt.same _
  |bl b=>cases rx;exact SeqAt.EqAt.none_bool b
  |int b=>obtain⟨t,rfl⟩:=rx;exact SeqAt.EqAt.none_int b t
  |str b=>obtain⟨t,rfl⟩:=rx;exact SeqAt.EqAt.none_str b t
  |_=>exact absurd (show false=true from fx) EF
 |bl a =>
  cases ry
  cases x with
  |ay=>cases rx;exact SeqAt.EqAt.bool_none a
  |bl b=>cases rx;exact SeqAt.EqAt.bool_bool a b
  |int b=>obtain⟨t,rfl⟩:=rx;exact SeqAt.EqAt.bool_int a b t
  |str b=>obtain⟨t,rfl⟩:=rx;exact SeqAt.EqAt.bool_str a b t
  |_=>exact absurd (show false=true from fx) EF
 |int a =>
  obtain⟨t',rfl⟩:=ry
  cases x with
  |ay=>cases rx;exact SeqAt.EqAt.int_none a t'
  |bl b=>cases rx;exact SeqAt.EqAt.int_bool a t' b
  |int b=>obtain⟨t,rfl⟩:=rx;exact SeqAt.EqAt.int_int a t' b t
  |str b=>obtain⟨t,rfl⟩:=rx;exact SeqAt.EqAt.int_str a t' b t
  |_=>exact absurd (show false=true from fx) EF
 |str a =>
  obtain⟨t',rfl⟩:=ry
  cases x with
  |ay=>cases rx;exact SeqAt.EqAt.str_none a t'
  |bl b=>cases rx;exact SeqAt.EqAt.str_bool a t' b
  |int b=>obtain⟨t,rfl⟩:=rx;exact SeqAt.EqAt.str_int a t' b t
  |str b=>obtain⟨t,rfl⟩:=rx;exact SeqAt.EqAt.str_str a t' b t
  |_=>exact absurd (show false=true from fx) EF
 |_=>exact absurd (show false=true from fy) EF
noncomputable def vY(x:V)(u:Value):Bool:=match u with
 |.none=>pE .ay x
 |.bool b=>pE (.bl b) x
 |.int i _=>pE (.int i) x
 |.str z _=>pE (.str z) x
 |_=>false
theorem pV{y:V}{u:Value}(r:RelV y u)(f:b9 y=true):vY x u=pE y x:=by
 cases y with
 |ay=>cases r;rfl
 |bl b=>cases r;rfl
 |int i=>obtain⟨t,rfl⟩:=r;rfl
 |str z=>obtain⟨t,rfl⟩:=r;rfl
 |_=>exact absurd (show false=true from f) EF
theorem jU:∀{xs:List V} {us:List Value},Vals xs us->xs.all b9=true->us.any (vY x)=xs.any fun y=>pE y x
 |_,_,.nil,_=>rfl
 |y::xs,u::us,.cons r t,f=>by
  rw[FQ,FC] at f;rw[Hr,Hr,pV r f.1,jU t f.2]
theorem gJ{A:Around}{v:Value}(rx:RelV x v)(fx:b9 x=true):∀{xs:List V} {us:List Value},Vals xs us->xs.all b9=true->∀ u∈us,SeqAt.EqAt A s u v (vY x u)
 |_,_,.nil,_=>fun u hu=>by cases hu
 |y::xs,u::us,.cons r t,f=>fun u' hu=>by
  rw[FQ,FC] at f;rcases EG.mp hu with rfl|hu
  ·rw[pV r f.1];exact lT r rx f.1 fx
  ·exact gJ rx fx t f.2 u' hu
noncomputable def jY(x:V)(xs:List V):Bool:=xs.any fun y=>pE y x
noncomputable def DV(K:Ih)(neg:Bool):R2:=fun x y H Q=>∃ p xs,y=.ref p/\(a_ K H p xs\/b6 K H p xs)/\b9 x=true/\xs.all b9=true/\Q (.bl (if neg then !jY x xs else jY x xs)) H
theorem iX:bZ X (compareOp .In) (DV X.K false):=by
 intro pins s σ H x y v u Q I rx ry h;obtain⟨p,xs,rfl,hq,fx,fs,q⟩:=h;cases ry;rcases hq with hq|hq
 ·obtain⟨ah,r,pl,hz⟩:=I.list hq;refine SeqAt.in_listAt (vY x) pl.isList (fun w hw=>gJ rx fx r fs w (by simpa using hw)) ⟨.bl _,H,I,rfl,?_⟩
  rw[show ah.toArray.any (vY x)=ah.any (vY x) by simp,jU r fs]
  exact q
 ·obtain⟨ah,r,pl,hz⟩:=I.tuple hq;refine SeqAt.in_tupleAt (vY x) pl (fun w hw=>gJ rx fx r fs w (by simpa using hw)) ⟨.bl _,H,I,rfl,?_⟩
  rw[show ah.toArray.any (vY x)=ah.any (vY x) by simp,jU r fs]
  exact q
theorem eV:aP X (.builtin "len") (fun xs H Q=>∃ p ys,xs=[.ref p]/\(a_ X.K H p ys\/b6 X.K H p ys)/\Q (.int ys.length) H):=by
 intro pins s σ H xs us Q I r h;obtain⟨p,ys,rfl,hq,q⟩:=h;obtain⟨u,rfl,rx⟩:=vals1 r;cases rx;have hn:=dM;rcases hq with hq|hq
 ·obtain⟨ah,r',pl,hz⟩:=I.list hq;have hlen:=r'.length;exact Calls.call_len_list pl.isList (by simp only[EE]<;>lia) ⟨.int ys.length,H,I.tok _,⟨s.toks+1,by rw[EE,hlen]⟩,q⟩
 ·obtain⟨ah,r',pl,hz⟩:=I.tuple hq;have hlen:=r'.length;exact len_tuple pl (by simp only[EE]<;>lia) ⟨.int ys.length,H,I.tok _,⟨s.toks+1,by rw[EE,hlen]⟩,q⟩
theorem jS:aP X (.builtin "len") (fun xs H Q=>∃ z,xs=[.str z]/\z.length<=sizeLine/\Q (.int z.length) H):=by
 intro pins s σ H xs us Q I r h;obtain⟨z,rfl,hz,q⟩:=h;obtain⟨u,rfl,t,rfl⟩:=vals1 r;have hn:=dM;exact len_str (by lia) ⟨.int z.length,H,I.tok _,⟨_,rfl⟩,q⟩
theorem aP.or{f:Value}{r r':List V->Hp->VK->Prop}(h:aP X f r)(h':aP X f r'):aP X f (fun xs H Q=>r xs H Q\/r' xs H Q):=by
 intro pins s σ H xs us Q I rs q;rcases q with q|q
 ·exact h pins s σ H xs us Q I rs q
 ·exact h' pins s σ H xs us Q I rs q
theorem iB:aP X (.type "tuple") (fun xs H Q=>∃ p ys,xs=[.ref p]/\((a_ X.K H p ys/\∀ l,H l=none->Q (.ref l) (upd H l (.tup ys)))\/(b6 X.K H p ys/\Q (.ref p) H))):=by
 intro pins s σ H xs us Q I r h;obtain⟨p,ys,rfl,h⟩:=h;obtain⟨u,rfl,rx⟩:=vals1 r;cases rx;rcases h with ⟨hq,q⟩|⟨hq,q⟩
 ·obtain⟨ah,r',pl,hz⟩:=I.list hq;have hlen:=r'.length;refine call_tuple_list pl.isList (fun h' kp=>?_) (by simp only[EE]<;>lia)
  have I1:Inv X pins σ H {s with heap:=h'}:=I.kept (t':=s.toks) kp
  have I2:Inv X pins σ (upd H h'.objs.size (.tup ys)) {s with heap:=h'.push {cls:=.type "tuple",data:=.seq ah.toArray}}:=
   I1.laid (t':=s.toks) (fun b o e=>EC _ e) (EH _) (show bu X.prog X.w _ _ _ (.tup ys) from⟨hz,ah,r',cu.new _ _⟩)
  exact⟨.ref h'.objs.size,_,I2,rfl,q _ (I1.aM.fresh (EH _))⟩
 ·obtain⟨ah,r',pl,hz⟩:=I.tuple hq;exact call_tuple_same pl ⟨.ref p,H,I,rfl,q⟩
noncomputable def DT(K:Ih)(T:String)(x:V)(H:Hp):Prop:=match x with
 |.str _=>T="str"
 |.int _=>T="int"
 |.ref p=>(T="list"/\∃ xs,a_ K H p xs)\/(T="tuple"/\∃ o,K.lookup p=some o/\o.cls=.type "tuple"/\o.dict=none) \/
   (T="dict"/\((∃ kvs,H p=some (.dK kvs))\/∃ kvs,H p=some (.dT kvs)))\/(T="set"/\∃ S n,H p=some (.set S n))
 |_=>False
theorem zg{T:String}{v:Value}(I:Inv X pins σ H s)(r:RelV x v)(ty:DT X.K T x H):
  s.TypeIs v T/\∀ a,v=.ref a->∃ ob,s.heap.get? a=some ob/\ob.dict=none:=by
 cases x with
 |str z =>
  obtain⟨t,rfl⟩:=r
  cases (show T="str" from ty)
  exact⟨typeIs_str s z t,fun _ e=>nomatch e⟩
 |int i =>
  obtain⟨t,rfl⟩:=r
  cases (show T="int" from ty)
  exact⟨Gu s i t,fun _ e=>nomatch e⟩
 |ref p =>
  cases r;rcases ty with ⟨rfl,xs,hq⟩|⟨rfl,o,hk,hc,hd⟩|⟨rfl,hk⟩|⟨rfl,S,n,hk⟩
  ·obtain⟨ah,_,pl,_⟩:=I.list hq;refine⟨pl.isList.typeIs,fun a e=>?_⟩;cases e;obtain⟨o,n,e,c,hd,_⟩:=pl;exact⟨o,e,hd⟩
  ·refine⟨⟨o,I.dn p o hk,hc⟩,fun a e=>?_⟩;cases e;exact⟨o,I.dn _ o hk,hd⟩
  ·have z:∃ o,s.heap.get? p=some o/\o.ExactDict:=by
    rcases hk with ⟨kvs,hk⟩|⟨kvs,hk⟩
    ·obtain⟨_,_,_,_,o,_,_,e,ex,_⟩:=I.aM p _ hk;exact⟨o,e,ex⟩
    ·obtain⟨_,_,_,_,o,_,_,e,ex,_⟩:=I.aM p _ hk;exact⟨o,e,ex⟩
   obtain⟨o,e,ex⟩:=z;refine⟨⟨o,e,ex.1⟩,fun a e2=>?_⟩;cases e2;exact⟨o,e,ex.2.1⟩
  ·obtain⟨o,_,_,_,e,ex,_⟩:=I.aM p _ hk;refine⟨⟨o,e,ex.1⟩,fun a e2=>?_⟩;cases e2;exact⟨o,e,ex.2.1⟩
 |_=>exact False.elim ty
noncomputable def zS(K:Ih)(T:String)(r:V->List V->Hp->VK->Prop)(to:TE)(t:TA):TE:=fun σ H Q=>to σ H fun x H1=>DT K T x H1/\t σ H1 fun xs H2=>r x xs H2 Q
variable {o e:Expr} {es:List Expr} {to:TE} {t:TA} {name:Str} {apos cpos:Pos} {T id:String} {r:V->List V->Hp->VK->Prop}
theorem AS(pa:PlainAttrs T)(slot:Slot T name id)(hty:typeOf (.builtin id)=pure (.type "method_descriptor"))(hm:Bh X id r)(ho:PE X o to)(ha:PA X (e::es) t)
  (hbase:autoParam (attributeBase o name X.env (eval o X.env)=eval o X.env) ℜ0)
  (hfew:autoParam (((backTo cpos (starEach (e::es) X.env)).all (fun x=>!x.1) && (backToKw cpos (keywordEach [] X.env)).all (fun x=>x.1.isSome)
   && decide ((e::es).length+([]:List Keyword).length+(if ([]:List Keyword).isEmpty then 0 else 1)<30))=true) ℜ0)
  (hline:autoParam ((apos.endLine == cpos.line)=true) ℜ0) (hs:autoParam (starEach (e::es) X.env=(false,eval e X.env)::starEach es X.env) ℜ0) (hplain:autoParam ((backTo cpos (starEach es X.env)).any (·.1)=false) ℜ0) :
  PE X (.Call (.Attribute o name apos) (e::es) [] cpos) (zS X.K T r to t):=by
 intro pins s σ H Q I h;refine wpAny_Call_method_late hbase hfew hline rfl (bg (ho pins s σ H _ I h) fun v s1 hq54=>?_);obtain⟨x,H1,I1,r1,ty,q1⟩:=hq54;obtain⟨h1,h2⟩:=zg I1 r1 ty;refine⟨T,id,pa,slot,hty,h1,h2,?_⟩;have hA:=ha cpos pins s1 σ H1 _ I1 q1;rw[hs] at hA ⊢;refine Calls.callWith_builtin (by show (false || (backTo cpos (starEach es X.env)).any (·.1))=false;rw[hplain]<;>rfl) (Calls.evalArgs_plain ?_)
 exact bg hA fun us s2 ⟨vs,H2,I2,r2,q2⟩=>hm pins s2 σ H2 x vs v us Q I2 r1 r2 q2
/- xs.append(e),list.index on a module's tuple .. are Bh facts of 06m -/
end
noncomputable def Ct(X:Cx)(id:String)(r:V->List V->Hp->VK->Prop):Prop:=
 ∀(pins:List (Addr×Obj)) (s:Shared) (σ:St) (H:Hp) (x:V) (xs:List V) (v:Value) (us:List Value) (Q:VK),Inv X pins σ H s->RelV x v->Vals xs us->r x xs H Q ->
  wpAny (model X.prog X.w) X.A (call (.builtin id) (v::us)) (EP X pins σ Q) X.xe s
theorem Vals.one:∀{x:V} {us:List Value},Vals [x] us->∃ u,us=[u]/\RelV x u
 |_,_,.cons r .nil=>⟨_,rfl,r⟩
theorem Vals.eraseIdx:∀{xs:List V} {us:List Value} (i:Nat),Vals xs us->Vals (xs.eraseIdx i) (us.eraseIdx i)
 |_,_,_,.nil=>.nil
 |_,_,0,.cons _ t=>t
 |_,_,i+1,.cons r t=>.cons r (Vals.eraseIdx i t)
theorem Vals.rep(h:Vals xs us):∀ k:Nat,Vals (List.replicate k xs).flatten (List.replicate k us).flatten
 |0=>.nil
 |k+1=>by
  rw[FH,FH,FX,FX];exact Vals.append h (Vals.rep h k)
theorem jm:∀(l:List α) (i:Nat),(l.eraseIdx i).length<=l.length
 |[],_=>EH _
 |_::_,0=>Nat.le_succ _
 |_::r,i+1=>Nat.succ_le_succ (jm r i)
theorem foldl_rep(ah:List Value):∀(k:Nat) (acc:List Value),
  List.foldl (fun x1 x2=>x1++x2) acc.toArray (List.replicate k ah.toArray)=(acc++(List.replicate k ah).flatten).toArray
 |0,acc=>by simp
 |k+1,acc=>by
  have e:acc.toArray++ah.toArray=(acc++ah).toArray:=by simp
  have e2:(acc++ah)++(List.replicate k ah).flatten=acc++(List.replicate (k+1) ah).flatten:=by
   rw[FH,FX,FY]
  rw[<- e2,<- foldl_rep ah k (acc++ah),<- e,FH,List.foldl_cons]
section
variable {X:Cx} {pins:List (Addr×Obj)} {σ:St} {H:Hp} {s:Shared} {l b:Addr} {xs ys zs:List V}
theorem Inv.yv{f:Array Value->Array Value}{t':Nat}(I:Inv X pins σ H s)(hH:H l=some (.lst xs))
  (e:s.heap.get? l=some {cls:=.type "list",data:=.seq ah.toArray n}) (hf:f ah.toArray=its'.toArray) (hv:Vals ys its') (hz:ys.length<=sizeLine) :
  Inv X pins σ (upd H l (.lst ys)) {s with heap:=s.heap.update l (Obj.mapSeq f),toks:=t'}:=by
 have q:=PySem.IsL.update e f;rw[hf] at q;refine I.write (x:=l) (e:=l) (by rw[hH];exact trivial) (.inl rfl) (fun b' u hb hu=>(GU s.heap (Obj.mapSeq f) (Ne.symm hb)).trans hu) ⟨_,q⟩ ?_
 exact⟨hz,its',_,hv,q⟩
theorem Inv.xx{t':Nat}(I:Inv X pins σ H s)(hv:Vals ys ah)(hz:ys.length<=sizeLine):
  Inv X pins σ (upd H s.heap.objs.size (.lst ys)) {s with heap:=s.heap.push {cls:=.type "list",data:=.seq ah.toArray},toks:=t'}:=
 I.laid (fun _ _ q=>EC _ q) (EH _) ⟨hz,ah,0,hv,EV _ rfl⟩
theorem Inv.fresh(I:Inv X pins σ H s):H s.heap.objs.size=none:=I.aM.fresh (EH _)
theorem Inv.mB(I:Inv X pins σ H s)(hH:H l=some (.lst xs)):xs.length<=sizeLine/\∃(ah:List Value) (n:Nat),Vals xs ah/\xs.length=ah.length/\s.heap.get? l=some {cls:=.type "list",data:=.seq ah.toArray n}:=by
 obtain⟨z,ah,n,r,e⟩:=I.aM l _ hH;exact⟨z,ah,n,r,r.length,e⟩
theorem rT(h:n<=sizeLine):Builtin.List.listTooLong n=false:=by
 unfold Builtin.List.listTooLong;exact EX (by lia)
end
section
variable {X:Cx}
noncomputable def nW:V->List V->Hp->VK->Prop:=fun x vs H Q=>∃ l xs y,x=.ref l/\vs=[y]/\H l=some (.lst xs)/\xs.length<sizeLine/\Q .ay (upd H l (.lst (xs++[y])))
theorem fI:Ct X "list.append" nW:=by
 intro pins s σ H x vs v us Q I rx rv h;obtain⟨l,xs,y,rfl,rfl,hH,hz,q⟩:=h;cases rx;obtain⟨u,rfl,ru⟩:=rv.one;obtain⟨z,ah,n,r,hl,e⟩:=I.mB hH;refine FW F.slot_list_append ⟨_,e,rfl⟩ F.entry_list_append (F.args_list_append_2 _ _) (PySem.list_append l ah.toArray n u (by rw[EE];lia)) ⟨e,?_⟩
 refine⟨.ay,_,I.yv (its':=ah++[u]) hH e (by simp) (r.append (.cons ru .nil)) ?_,rfl,q⟩
 rw[EU,Fe];lia
noncomputable def qP:V->List V->Hp->VK->Prop:=fun x vs H Q=>∃ l xs i k y,x=.ref l/\vs=[.int i]/\H l=some (.lst xs)/\-(2^63)<=i/\i<2^63/\seqIndex? i xs.length=some k/\xs[k]?=some y/\Q y (upd H l (.lst (xs.eraseIdx k)))
theorem km:Ct X "list.pop" qP:=by
 intro pins s σ H x vs v us Q I rx rv h;obtain⟨l,xs,i,k,y,rfl,rfl,hH,h1,h2,hk,hy,q⟩:=h;cases rx;obtain⟨u,rfl,ru⟩:=rv.one;obtain⟨t,rfl⟩:=ru;obtain⟨z,ah,n,r,hl,e⟩:=I.mB hH;obtain⟨w,hw,rw'⟩:=r.get hy;refine FW F.slot_list_pop ⟨_,e,rfl⟩ F.entry_list_pop (F.args_list_pop_2 _ _)
  (MeetsSeq.list_pop_at l ah.toArray n i t k w (HN h1 h2) (by rw[EE,<- hl];exact hk) (by rw[<- Array.getElem?_toList];exact hw) (by rw[EE];lia)) ⟨e,?_⟩
 refine⟨y,_,I.yv (its':=ah.eraseIdx k) hH e ?_ (r.eraseIdx k) ?_,rw',q⟩
 ·show ah.toArray.eraseIdxIfInBounds k=(ah.eraseIdx k).toArray;rw[List.eraseIdxIfInBounds_toArray]
 ·have:=jm xs k;lia
noncomputable def BJ:R2:=fun x y H Q=>∃ l b xs zs,x=.ref l/\y=.ref b/\H l=some (.lst xs)/\H b=some (.lst zs)/\xs.length+zs.length<=sizeLine/\∀ p,H p=none->Q (.ref p) (upd H p (.lst (xs++zs)))
theorem q_:bZ X (binaryOp .Add) BJ:=by
 intro pins s σ H x y v u Q I rx ry h;obtain⟨l,b,xs,zs,rfl,rfl,hH,hB,hz,q⟩:=h;cases rx;cases ry;obtain⟨z,ah,n,r,hl,e⟩:=I.mB hH;obtain⟨z2,its2,n2,r2,hl2,e2⟩:=I.mB hB;refine PySem.P.add_list e e2 ?_ (by rw[EE,EE];lia)
 have ea:ah.toArray++its2.toArray=(ah++its2).toArray:=by simp
 rw[ea];exact⟨.ref _,_,I.xx (t':=s.toks) (r.append r2) (by rw[EU];lia),rfl,q _ I.fresh⟩
noncomputable def Ae:R2:=fun x y H Q=>∃ l k xs,x=.ref l/\y=.int k/\H l=some (.lst xs)/\-(2^63)<=k/\k<2^63/\xs.length*k.toNat<=sizeLine /\
 ∀ p,H p=none->Q (.ref p) (upd H p (.lst (List.replicate k.toNat xs).flatten))
theorem len_rep(xs:List α)(k:Nat):(List.replicate k xs).flatten.length=k*xs.length:=by
 induction k with
 |zero=>simp
 |succ k ih=>rw[FH,FX,EU,ih,Nat.succ_mul,Nat.add_comm]
theorem yY:bZ X (binaryOp .Mult) Ae:=by
 intro pins s σ H x y v u Q I rx ry h;obtain⟨l,k,xs,rfl,rfl,hH,h1,h2,hz,q⟩:=h;cases rx;obtain⟨t,rfl⟩:=ry;obtain⟨z,ah,n,r,hl,e⟩:=I.mB hH;have hlen:ah.toArray.size*k.toNat<=sizeLine:=by rw[EE,<- hl];exact hz
 have hcap:¬ ah.toArray.size*k.toNat >(2^63-1) / 8:=by
  have:(sizeLine:Nat)<=(2^63-1) / 8:=by decide
  lia
 have hfit:¬ (!Builtin.List.listFitsIndex k)=true:=by
  rw[HN h1 h2];exact EF
 have hlong:¬ Builtin.List.listTooLong (ah.toArray.size*k.toNat)=true:=by
  rw[rT hlen];exact EF
 have hnew:List.foldl (fun x1 x2=>x1++x2) #[] (List.replicate (if ah.toArray.isEmpty=true then 0 else k.toNat) ah.toArray)=(List.replicate k.toNat ah).flatten.toArray:=by
  have f0:∀ m:Nat,List.foldl (fun x1 x2=>x1++x2) #[] (List.replicate m ah.toArray)=(List.replicate m ah).flatten.toArray:=fun m=>by
   have:=foldl_rep ah m [];rw[List.nil_append] at this;exact this
  rw[f0]
  cases ah with
  |nil=>simp
  |cons a r'=>rw[EB (by simp)]
 refine Gj (T:="list") (U:="int") (by decide) ⟨_,e,rfl⟩ (fun s'=>Gu s' k t) noFill_list_mul F.fills_int_mul F.slot_int_rmul repeat_list F.slot_int_index.lookup
  (FW F.slot_int_rmul (Gu s k t) F.entry_int_rmul (F.args_int_rmul_2 _ _) (int___rmul___int_list k t l ah.toArray n)
   ⟨e,rfl,⟨_,e,rfl⟩,FW F.slot_list_mul ⟨_,e,rfl⟩ F.entry_list_mul (F.args_list_mul_2 _ _) (AutoListH.list___mul___list_int_3 l ah.toArray n k t hfit hcap hlong) ⟨e,?_⟩⟩)
 rw[hnew];exact⟨.ref _,_,I.xx (t':=s.toks) (r.rep k.toNat) (by rw[len_rep,Nat.mul_comm];exact hz),rfl,q _ I.fresh⟩
end
noncomputable def xi(i:Expr):Prop:=∀ ov iv,subscripted i false ov iv=operate [ov,iv] (getItem ov iv)
theorem vE{prog:Program}{w:World}{A:Around}{E:Value->Shared->Prop}{env:Env}{value slice:Expr}{pos:Pos}{T id:String}{Q:Value->Shared->Prop}
  (hl:typeLookup (.type T) "__getitem__"=pure (some (.builtin id))) (hs:xi slice)
  (h:wpAny (model prog w) A (eval value env) (fun o s₁=>wpAny (model prog w) A (eval slice env) (fun i s₂=>s₂.TypeIs o T/\wpAny (model prog w) A (getItem o i) Q E s₂) E s₁) E s) :
  wpAny (model prog w) A (eval (.Subscript value slice pos) env) Q E s:=by
 refine Subscript_ (FJ h (fun o s₁ h₁=>FJ h₁ (fun i s₂ h₂=>?_) fun _ _ x=>x) fun _ _ x=>x);obtain⟨hT,h₂⟩:=h₂;unfold subscriptTail;refine EA ?_;rw[getitemInPython_of_ne hT.not_modules];refine EA (wpAny_specialOf hT hl ?_);have fin:wpAny (model prog w) A (subscripted slice false o i) (fun r s₃=>wpAny (model prog w) A (letTemporaryGo value o r >>= fun _=>pure r) Q E s₃) E s₂:=by
  rw[hs o i];exact wpAny_operating (FJ h₂ (fun r s₃ h₃=>EA (wpAny_letTemporaryGo (EL h₃))) fun _ _ x=>x)
 first
  |exact EL (EA fin)
  |exact EA (EL (EA fin))
  |exact EA fin
end L2
namespace Att
open PySem PySem.W PySem.Calls PyProof.Rows
variable{l:OpenLaw}
theorem gq{P:Params}{h:Heap}:∀(ns:List Int) (vs:List Value),WellAll P h vs (ns.map WData.int)->IntsAre vs ns:=by
 intro ns
 induction ns with
 |nil =>
  intro vs w;rw[List.map_nil] at w;cases w;exact .nil
 |cons n ns ih =>
  intro vs w;rw[List.map_cons] at w
  cases w with
  |cons a b =>
   cases a;exact .cons _ _ (ih _ b)
theorem pj{n:Nat}(hn:l.most=some n){P:Params}{h:Heap}{args:List WData}{vals:List Value}
  (hpre:l.row.toRowW.claim.pre args=true) (hwl:WellAll P h vals args) :
  ∃ a vs ns,vals=[Value.ref a]/\args=[WData.list (ns.map WData.int)]/\h.get? a=some {cls:=.type "list",data:=.seq vs.toArray}/\IntsAre vs ns/\ns.length<=n:=by
 have hsh:WShape.hasAll [] args [.list .int]=true:=(pre_splitW hpre).1;have hc:l.pre.holds [] {args:=args}=true:=(pre_splitW hpre).2;obtain⟨d,r,rfl,h1,h2⟩:=hasAllW_cons hsh;obtain rfl:=hasAllW_nil h2;obtain⟨xs,rfl,h3⟩:=hasW_list h1;obtain⟨ns,rfl⟩:=items_int h3;have hlen:ns.length<=n:=by
  unfold OpenLaw.pre at hc;have h4:(WTm.not (.lt (.lit (.int (n:Int))) (.len (.arg 0)))).holds [] {args:=[.list (ns.map .int)]}=true:=by
   have h4:=(holds_andW hc).1;rw[hn] at h4;exact h4
  have h5:=condW_of h4 (w_not (w_lt w_lit (w_len_list (w_arg rfl))));rw[List.length_map] at h5;refine Nat.le_of_not_lt fun q=>?_;have q':(n:Int)<((ns.length:Nat):Int):=by lia
  first
   | (rw[decide_eq_true q'] at h5;exact absurd h5 (by decide))
   | (simp at h5;lia)
 cases hwl with
 |cons w1 w2 =>
  cases w2
  cases w1 with
  |list ho hall=>exact⟨_,_,ns,rfl,rfl,ho,gq ns _ hall,hlen⟩
theorem p6(l:OpenLaw)(args:List WData):l.row.toRowW.claim.post args (.bool true) args=true:=
 postW_of (r:=l.row.toRowW) (X:=(true == true))
  (show WShape.has [] (.bool true) .bool=true by first|rfl|decide|simp[WShape.has,WShape.arms,WShape.armsAll])
  (show (WTm.eq .res (.lit (.bool true))).value [] {args:=args,res:=some (.bool true),after:=args}=some (.bool (true == true)) from w_eq_bool (w_res rfl) w_lit) rfl
theorem kA{n:Nat}{q:Program}{loose:List Str}{XP:(Str->Option Value)->Heap->Prop}{YP:World->Heap->Prop}{d:DefRec}
  (hn:l.most=some n) (hdf:d.params.defaults=[])
  (call:∀(w:World) (s₀ s₁:Shared) (mg mb:Str->Option Value) (fa:Addr) (o:Obj) (pm cd doc:Value) (a:Addr) (vs:List Value) (ns:List Int),
   Ground q loose [] XP w s₀ mg mb s₁.heap->YP w s₁.heap ->
   s₁.heap.get? fa=some o->o.data=.func (docDef d.name d.params d.body d.scope pm cd doc)->s₁.heap.CodeRec cd d.name->mg d.name=some (.ref fa) ->
   s₁.heap.get? a=some {cls:=.type "list",data:=.seq vs.toArray}->IntsAre vs ns->ns.length<=n->s₁.gens=#[] ->
   codeAny (model l.prog w) callerA (.call (.ref fa) ⟨[.ref a],[]⟩) (fun r s'=>r=.ok (.ret (.bool true))/\OldK s₁.heap s'.heap/\s'.os=s₁.os/\AllBare s'.gens) s₁) :
  WalkO q loose XP YP l.row.toRowW d [] (fun f vs=>PySem.call f vs):=by
 intro w s₀ s₁ mg mb G Y fa o pm cd doc dV kV ho hd hcd hD hmg hg args vals as hpre hlay hrd hwl hlo;obtain rfl:dV=.none:=Dflts.none hD hdf;obtain rfl:kV=.none:=Dflts.noKw hD;obtain⟨a,vs,ns,rfl,rfl,hobj,hints,hlen⟩:=pj hn hpre hwl;refine enter_call (codeAny_mono (call w s₀ s₁ mg mb fa o pm cd doc a vs ns G Y ho (fd_plain hd) hcd hmg hobj hints hlen hg) fun r s' hq=>?_);obtain⟨rfl,h2,h3,h4⟩:=hq;exact⟨.inl ⟨.bool true,.bool true,[],rfl,fun _=>rfl,.bool true,p6 l _,fun _=>⟨List.Pairwise.nil,fun _ hm=>(nomatch hm)⟩⟩,h2,h3,h4⟩
end Att
namespace L2
open PySem PySem.Spec PyProof.Rows
variable{P prog q:Program}{K:Ih}{N ON loose:List Str}{mb mg:Str->Option Value}{base h h':Heap}{b:Bool}{o:HO}{w:World}{i j k n:Nat}{C a e f i1 i2 it l1 l2 p z:Addr}{fd:FuncData}{name qual x:Str}{sp:Sp}{vs xs ys:List V}{elt iter l tg:Expr}{X:Cx}{st:Stmt}{cpos np pos:Pos}{osc scope:Scope}{env:Env}{cells:List (Str×Addr)}{s:Shared}{es ifs:List Expr}{wi:TI}{tc:TT}{te tl:TE}{pins:List (Addr×Obj)}{σ:St}{H H' H1:Hp}{Q:Unit->Shared->Prop}{r:List V->Hp->VK->Prop}{items:Array Value}{ex fp:List Addr}{hi lo:Option Expr}{α β:Type}{D:Ends}{E:Value->Shared->Prop}{ad:Nat->Addr}{shA:(Nat->Addr)->Nat->Addr}{md:List Bool}{P1 P2:Nat->Value->Prop}{S1 S2:Nat->Heap->Prop}{cls:Value}{To:Option Addr}
theorem iR:∀{vs:List Value} {ns:List Int},IntsAre vs ns->Vals (ns.map V.int) vs
 |_,_,.nil=>.nil
 |_,_,.cons n t h=>.cons ⟨t,rfl⟩ (iR h)
structure fv (q:Program) (K:Ih):Prop where
 nt:PySem.W.noTabs K=true
 nd:((bt K).map (·.2.1)).Nodup
 fd:∀ x∈e_,PySem.W.tabIn K x=none\/((recsOf q).find? (fun e=>e.name == x)).isSome=true
theorem fv.at{mean:ExcName->Option Value}(L:fv q K)(T:Top q loose mean mg mb h)(X:K.In h):∀ t∈bt K,PySem.W.CodeHd h t.1 t.2.1/\h.get? t.2.1=some (PySem.W.tabObj #[]):=fun t ht=>by
 unfold bt at ht;obtain⟨x,hx,e⟩:=Hl.mp ht;obtain⟨p,e1,e2⟩:=Option.map_eq_some_iff.mp e;obtain⟨c,Pt⟩:=p;subst e2;rcases L.fd x hx with z|z
 ·rw[z] at e1;cases e1
 ·obtain⟨d,hd⟩:=Hx.mp z;exact PySem.W.tab_of T X hd e1
noncomputable def jy:List (Addr×Addr×Str)->Addr->Option HO
 |[],_=>none
 |t::r,b=>if b=t.2.1 then some (.pO #[.str t.2.2 0]) else jy r b
theorem dY{b:Addr}:∀{l:List (Addr×Addr×Str)},jy l b=some o->∃ t∈l,b=t.2.1/\o=.pO #[.str t.2.2 0]
 |t::r,e=>by
  unfold jy at e;by_cases z:b=t.2.1
  ·rw[EI z] at e;cases e;exact⟨t,.head _,z,rfl⟩
  ·rw[EB z] at e;obtain⟨u,hu,q⟩:=dY e;exact⟨u,.tail _ hu,q⟩
theorem kI{t:Addr×Addr×Str}:∀{l:List (Addr×Addr×Str)},(l.map (·.2.1)).Nodup->t∈l->jy l t.2.1=some (.pO #[.str t.2.2 0])
 |u::r,nd,m=>by
  obtain⟨n1,n2⟩:=EY.mp nd;unfold jy;rcases EG.mp m with rfl|m
  ·rw[EI rfl]
  ·rw[EB fun z=>n1 (FK.mpr ⟨t,m,z⟩)];exact kI n2 m
theorem qw{CX:ke}{fa:Addr}{s₁:Shared}{vs:List Value}{ns:List Int}
  (KX:K.In s₁.heap) (hns:s₁.heap.Ns mainGlobals mg) (hb:s₁.heap.Ns builtinsNs mb) (hbb:∀ x:Str,x≠"__name__"->mb x=bootBuiltins x) (hlim:s₁.heap.NoLimit) (hbm:y9 mg s₁.heap)
  (hT:∀ t∈bt K,PySem.W.CodeHd s₁.heap t.1 t.2.1/\s₁.heap.get? t.2.1=some (PySem.W.tabObj #[])) (L:fv q K) (hg:s₁.gens=#[])
  (ha:s₁.heap.get? a=some {cls:=.type "list",data:=.seq vs.toArray}) (hi:IntsAre vs ns) (hl:ns.length<=sizeLine) (hr:aY k callerA)
  (F:∀ base:Heap,K.In base->base.Ns mainGlobals mg->aX P w K mg base CX k fa fd [x] sp) (hbind:∀(s:Shared) (u:Value),BindsTo s fd ⟨[u],[]⟩ [(x,u)])
  (hsp:∀ H:Hp,True->a_ K H a (ns.map V.int)->sp [.ref a] H (fun v _=>v=.bl true) fun _ _ _=>False)
  (hCX:∀ H e s',CX [] H s₁ (fun _ _ _=>False) e s'->False) :
  codeAny (model P w) callerA (.call (.ref fa) ⟨[.ref a],[]⟩) (fun r s'=>r=.ok (.ret (.bool true))/\OldK s₁.heap s'.heap/\s'.os=s₁.os/\AllBare s'.gens) s₁:=by
 have rv:=iR hi;have lenV:=hi.length;have naT:∀ t∈bt K,t.2.1≠a:=fun t ht z=>by
  have e:=(hT t ht).2;rw[z,ha] at e;cases e
 let oS:Obj:={cls:=.type "list",data:=.seq vs.toArray}
 have core:∀ S:Option HO,(S=none\/S=some (.gM oS (.lst (ns.map V.int))))->(S≠none->K.lookup a=none)->a_ K (fun b=>if b=a then S else jy (bt K) b) a (ns.map V.int) ->
   codeAny (model P w) callerA (.call (.ref fa) ⟨[.ref a],[]⟩) (fun r s'=>r=.ok (.ret (.bool true))/\OldK s₁.heap s'.heap/\s'.os=s₁.os/\AllBare s'.gens) s₁:=by
  intro S hS hK hSq;generalize hH:(fun b=>if b=a then S else jy (bt K) b)=H at hSq
  have hA:H a=S:=by rw[<- hH];exact EI rfl
  have hB:∀ b,b≠a->H b=jy (bt K) b:=fun b z=>by rw[<- hH];exact EB z
  have free:∀{b:Addr} {o:Obj},s₁.heap.get? b=some o->o≠PySem.W.tabObj #[]->(b=a->S=none)->H b=none:=fun {b o} e hn hz=>by
   by_cases z:b=a
   ·rw[z,hA];exact hz z
   ·rw[hB b z]
    cases q:jy (bt K) b with
    |none=>rfl
    |some u =>
     obtain⟨t,ht,e1,_⟩:=dY q;have e2:=(hT t ht).2;rw[<- e1,e] at e2;exact absurd (Option.some.inj e2) hn
  have nsK:∀{b:Addr} {m:Str->Option Value},s₁.heap.Ns b m->(i4 s₁.heap H).Ns b m:=fun {b m} ⟨o,es,ep,e,d,r⟩=>⟨o,es,ep,fq e (free e (fun z=>by rw[z] at d;cases d) fun z=>by rw[z,ha] at e;cases e;cases d),d,r⟩
  have hKb:K.In (i4 s₁.heap H):=fun b o e=>fq (KX b o e) (free (KX b o e) (fun z=>by
    have h2:=Gb.mp L.nt (b,o) (PySem.W.mem_of_lookupK e);subst z;exact absurd (show false=true from h2) EF) fun z=>by
    cases q:S with
    |none=>rfl
    |some u=>rw[z,hK (by rw[q];simp)] at e;cases e)
  have hcd:∀ t∈bt K,PySem.W.CodeHd (i4 s₁.heap H) t.1 t.2.1:=fun t ht=>by
   obtain⟨o,us,fl,tf,fg,tg,g_,tx,tt,e1,e2,r⟩:=(hT t ht).1;exact⟨o,us,fl,tf,fg,tg,g_,tx,tt,fq e1 (free e1 (fun z=>by rw[z] at e2;cases e2) fun z=>by rw[z,ha] at e1;cases e1;exact absurd (Value.type.inj e2) (by decide)),e2,r⟩
  have hbm':y9 mg (i4 s₁.heap H):=by
   obtain⟨bm,ob,b1,b2,b3,b4,b5⟩:=hbm;exact⟨bm,ob,b1,b2,fq b3 (free b3 (fun z=>by rw[z] at b4;cases b4) fun z=>by rw[z,ha] at b3;cases b3;exact absurd (Value.type.inj b4) (by decide)),b4,b5⟩
  have aM:e7 P w H s₁.heap:=fun b u e=>by
   by_cases z:b=a
   ·rw[z,hA] at e;rcases hS with h0|h0
    ·rw[h0] at e;cases e
    ·rw[h0] at e;cases e;subst z;exact⟨ha,by rw[EJ];exact hl,vs,_,rv,ha⟩
   ·rw[hB b z] at e;obtain⟨t,ht,e1,e2⟩:=dY e;subst e2;exact⟨#[],by rw[e1];exact (hT t ht).2,trivial,fun pos cv c=>by cases (show (none:Option Value)=some cv from c)⟩
  have hM:Mod K mg (i4 s₁.heap H):=⟨hKb,nsK hns,⟨mb,nsK hb,hbb⟩,let ⟨mc,h1,h2⟩:=hlim;⟨mc,nsK h1,h2⟩,hcd,hbm'⟩
  have e0:lU P w K mg (i4 s₁.heap H) callerA [] s₁ H:=⟨rfl,hM,fun b o e=>v7 e,Nat.le_of_eq (pF _ _),trivial,fun b hb=>absurd (show b∈([]:List Addr) from hb) (by simp),aM,.of_eq hg,fun t ht=>⟨#[],by
   rw[hB _ (naT t ht),kI L.nd ht,Array.append_empty]⟩⟩
  refine Hc ((F _ hKb (nsK hns)).run callerA [] s₁ H ⟨[.ref a],[]⟩ [.ref a] [.ref a] _ _ hr e0 (hbind s₁ (.ref a)) (.cons rfl .nil) (hsp H trivial hSq)) fun r s' h=>?_
  cases r with
  |error e=>exact (hCX H e s' h).elim
  |ok fl =>
   cases fl with
   |next=>exact False.elim h
   |brk=>exact False.elim h
   |cont=>exact False.elim h
   |ret u =>
    obtain⟨v,H',os,bare,un,hok',r',qv⟩:=h;have q':v=.bl true:=qv;subst q';obtain rfl:u=Value.bool true:=r';have each:∀ b o,s₁.heap.get? b=some o->s'.heap.get? b=some o\/∃ c,PySem.W.CodeHd s₁.heap c b/\o=PySem.W.tabObj #[]/\∃ ps,s'.heap.get? b=some (PySem.W.tabObj ps):=fun b o e=>by
     cases qb:H b with
     |none=>exact .inl (un.keep b o e qb (by intro z;exact absurd (show b∈([]:List Addr) from z) (by simp)) (by simp))
     |some u =>
      by_cases z:b=a
      ·rw[z,hA] at qb;rcases hS with h0|h0
       ·rw[h0] at qb;cases qb
       ·have z2:=un.fL a oS _ (by rw[hA,h0])
        obtain⟨e2,_⟩:=hok' a _ z2;rw[z,ha] at e;cases e;exact .inl (by rw[z];exact e2)
      ·have qt:=qb;rw[hB b z] at qt;obtain⟨t,ht,e1,e2⟩:=dY qt;obtain⟨h1,h2⟩:=hT t ht;rw[<- e1] at h1 h2;rw[e] at h2;cases h2;subst e2;obtain⟨more,e3⟩:=un.fj b _ qb;obtain⟨qs,e4,_⟩:=hok' b _ e3;exact .inr ⟨_,h1,rfl,qs,e4⟩
    refine⟨rfl,⟨fun b o e=>?_,fun b o e=>?_⟩,os,bare⟩
    ·rcases each b o e with z|⟨c,hc,z,ps,hp⟩
     ·exact .inl z
     ·subst z;exact .inr (.inl ⟨(hc.tab e).isCodeTable,rfl,#[],ps,rfl,by rw[Array.empty_append];exact hp⟩)
    ·rcases each b o e with z|⟨c,hc,z,ps,hp⟩
     ·exact⟨o,z⟩
     ·exact⟨_,hp⟩
 cases hk:K.lookup a with
 |some o =>
  have e:=KX a o hk;rw[ha] at e;cases e;exact core none (.inl rfl) (fun z=>absurd rfl z) (.inr ⟨_,vs.toArray,_,hk,rfl,rfl,rfl,by rw[EE,lenV];exact hl,by simpa using rv⟩)
 |none=>exact core (some (.gM oS (.lst (ns.map V.int)))) (.inr rfl) (fun _=>hk) (.inl (.inr ⟨oS,EI rfl⟩))
theorem uJ{l:PySem.W.OpenLaw}{XP:(Str->Option Value)->Heap->Prop}{YP:World->Heap->Prop}{d:DefRec}{K:Params->Ih}{CX:World->ke}{sp:World->Sp}
  (hn:l.most=some n) (hn2:n<=sizeLine) (hdf:d.params.defaults=[]) (hr:aY k callerA)
  (hY:∀(w:World) (h:Heap),YP w h->(K w.params).In h)
  (F:∀(w:World) (mg:Str->Option Value) (fa:Addr) (h:Heap),(K w.params).In h->h.Ns mainGlobals mg->mg d.name=some (.ref fa) ->
   ∃ fd:FuncData,(∀(s:Shared) (u:Value),BindsTo s fd ⟨[u],[]⟩ [(x,u)]) /\
    ∀ base:Heap,(K w.params).In base->base.Ns mainGlobals mg->aX l.prog w (K w.params) mg base (CX w) k fa fd [x] (sp w))
  (hsp:∀(w:World) (H:Hp) (a:Addr) (ns:List Int),ns.length<=n->True->a_ (K w.params) H a (ns.map V.int)->sp w [.ref a] H (fun v _=>v=.bl true) fun _ _ _=>False)
  (hCX:∀(w:World) (H:Hp) (s:Shared) (e:Value) (s':Shared),CX w [] H s (fun _ _ _=>False) e s'->False) (hL:∀(w:World) (h:Heap),(K w.params).In h->fv q (K w.params)) :
  PySem.W.WalkO q loose XP YP l.row.toRowW d [] (fun f vs=>PySem.call f vs):=by
 refine Att.kA hn hdf fun w s₀ s₁ mg mb fa o pm cd doc a vs ns G Y ho hd hcd hmg hobj hints hlen hg=>?_;have KX:=hY w _ Y;obtain⟨fd,hb,hF⟩:=F w mg fa _ KX G.T.g hmg;have L:=hL w _ KX;exact qw KX G.T.g G.T.b G.T.builtins G.T.nolimit G.T.bmain (L.at G.T KX) L hg hobj hints (ES hlen hn2) hr hF hb (fun H hO hS=>hsp w H a ns hlen hO hS) fun H e s'=>hCX w H s₁ e s'
noncomputable def inClass(s:Stmt)(j:Nat):Stmt:=match s with
 |.ClassDef _ _ _ body _ _ _ _ _ _ _=>body.getD j (.Pass ⟨0,0,0,0⟩)
 |_=>.Pass ⟨0,0,0,0⟩
noncomputable def bD(s:Stmt):Arguments:=match s with
 |.FunctionDef _ a _ _ _ _ _ _ _ _=>a
 |_=>{posonlyargs:=[],args:=[],vararg:=none,kwonlyargs:=[],kw_defaults:=[],kwarg:=none,defaults:=[]}
noncomputable def aG(s:Stmt):List Stmt:=match s with
 |.FunctionDef _ _ b _ _ _ _ _ _ _=>b
 |_=>[]
noncomputable def aa(s:Stmt):Scope:=match s with
 |.FunctionDef _ _ _ _ _ _ sc _ _ _=>sc
 |_=>{kind:=.function,names:=[],isGenerator:=false,isCoroutine:=false}
abbrev aW:ke:=fun _ _ _ _ _ _=>False
abbrev E0:XK:=fun _ _ _=>False
theorem au:Passes aW X E0:=fun _ _ _ _ _ _ _ h=>h.elim
structure jn (K:Ih) (x qual:Str) (st:Stmt) (f:Addr) (fd:FuncData):Prop where
 ex:∃(oc:Value) (od:Option Addr) (kV doc pm:Value) (an:Option Addr) (cdv ct:Value) (osl:Array (Option Value)),
  fd=PySem.W.fnOf x qual (bD st) (aG st) (aa st) .none kV doc pm an cdv ct/\K.lookup f=some ⟨oc,od,.func fd,osl⟩/\PySem.W.codeIn K cdv qual=true
 kp:PySem.W.keepIn K (.ref f)=true
section
variable {P:Program} {w:World} {K:Ih} {mg:Str->Option Value} {base:Heap}
theorem jn.ok{ps:List Str}(F:jn K x qual st f fd)(S:av N ps (aa st))(len:∀ vs H Q E,sp vs H Q E->vs.length=ps.length)
  (hbody:∀(cdv:Value) (A:Around) (outer:List Env) (s:Shared) (H:Hp) (vs:List V) (Q:VK) (E:XK),aY k (A.deeper (envOfC qual (aa st) s.heap.objs.size f cdv))->sp vs H Q E ->
   ∃ t,nJ (dH aW P w K mg base N qual (aa st) f cdv A outer s H E).pd (aG st) t/\t {nx:=fun _ H'=>Q .ay H',rt:=Q} (start N vs) H):aX P w K mg base aW (k+1) f fd ps sp:=by
 obtain⟨oc,od,kV,doc,pm,an,cdv,ct,osl,rfl,lk,hcd⟩:=F.ex;refine r_ lk hcd S len fun A outer s H vs Q E hr hsp=>?_;obtain⟨t,h,q⟩:=hbody cdv A outer s H vs Q E hr hsp;exact⟨t,h.pd,q⟩
theorem jn.binds{ps:List Str}(F:jn K x qual st f fd)
  (h:∀(kV doc pm:Value) (an:Option Addr) (cdv ct:Value) (us:List Value),us.length=ps.length->bindArgs (PySem.W.fnOf x qual (bD st) (aG st) (aa st) .none kV doc pm an cdv ct) ⟨us,[]⟩=pure (ps.zip us)):Binds K fd ps []:=by
 obtain⟨oc,od,kV,doc,pm,an,cdv,ct,osl,rfl,lk,hcd⟩:=F.ex;exact .all (h kV doc pm an cdv ct)
theorem cE{oc:Value}{od an:Option Addr}{osl:Array (Option Value)}{kV doc pm cdv ct:Value}(l:K.lookup f=some ⟨oc,od,.func (PySem.W.fnOf x qual (bD st) (aG st) (aa st) .none kV doc pm an cdv ct),osl⟩)
  (c:PySem.W.codeIn K cdv qual=true) (k:PySem.W.keepIn K (.ref f)=true):jn K x qual st f (PySem.W.fnOf x qual (bD st) (aG st) (aa st) .none kV doc pm an cdv ct):=⟨⟨oc,od,kV,doc,pm,an,cdv,ct,osl,rfl,l,c⟩,k⟩
end
theorem bz{A:Around}(hr:aY k A):A.units+1<cLine:=Ge (Nat.add_le_add_left (by decide:1<=64) _) hr.units
section
variable {X:Cx}
theorem pv(i:Nat)(hN:autoParam (X.N[i]?=some x) ℜ0)(hv:autoParam (zI X.env.scope x) ℜ4)(hd:autoParam ((x ==("__debug__":Str))=false) ℜ1)
  (hcd:autoParam ((x ==("__classdict__":Str))=false) ℜ1):PE X (.Name x pos) (lP i):=yT hN hv hd hcd
end
noncomputable def bK(H H':Hp):Prop:=∀ b o,H b=some o->H' b=some o
theorem bK.refl(H:Hp):bK H H:=fun _ _ h=>h
noncomputable def cO(cells:List (Str×Addr)):List (Str×NameKind)->List (Str×Addr)->List (Str×Addr)
 |[],acc=>acc
 | (n,k)::r,acc=>if k=.free then cO cells r ((n,(cells.lookup n).getD 0)::acc) else cO cells r acc
theorem i9(h:∀ x∈scope.names,x.2=.free->∃ c,env.cells.lookup x.1=some c):closureFor scope env=pure (cO env.cells scope.names []):=by
 have all:∀(l:List (Str×NameKind)) (acc:List (Str×Addr)),(∀ x∈l,x.2=.free->∃ c,env.cells.lookup x.1=some c) ->
   (forIn l acc fun (x:Str×NameKind) (cs:List (Str×Addr))=>(match x with | (name,kind)=>if (kind == NameKind.free)=true then (do let c <- cellOf env name;pure (ForInStep.yield ((name,c)::cs))) else pure (ForInStep.yield cs):Sem (ForInStep (List (Str×Addr)))))=(pure (cO env.cells l acc):Sem (List (Str×Addr))):=by
  intro l
  induction l with
  |nil=>intro acc _;rfl
  |cons x r ih =>
   intro acc hl;obtain⟨n,k⟩:=x;rw[HG];by_cases hk:k=.free
   ·subst hk;obtain⟨c,hc⟩:=hl (n,.free) EN rfl;have e:cellOf env n=pure c:=by unfold cellOf;rw[hc]
    simp only[GV,GQ,e,cO,pure_bind];rw[ih _ fun y hy=>hl y (ED _ hy),hc];rfl
   ·have hb:(k == NameKind.free)=false:=by simpa using hk
    simp only[hb,Hm,HW,cO,hk,pure_bind];exact ih _ fun y hy=>hl y (ED _ hy)
 unfold closureFor;simp only[bind_pure];exact all scope.names [] h
theorem fP:∀{l:List (Str×NameKind)} {acc:List (Str×Addr)},(∀ x∈l,x.2=.free->∃ c,cells.lookup x.1=some c)->(∀ x c,acc.lookup x=some c->cells.lookup x=some c) ->
  ∀ x c,(cO cells l acc).lookup x=some c->cells.lookup x=some c
 |[],_,_,h,x,c,e=>h x c e
 | (n,k)::r,acc,hl,h,x,c,e=>by
  unfold cO at e;have hr:∀ y∈r,y.2=.free->∃ c,cells.lookup y.1=some c:=fun y hy=>hl y (ED _ hy)
  split at e
  ·rename_i hk;refine fP hr (fun y d q=>?_) x c e;rw[Fu] at q
   split at q
   ·rename_i hy;obtain⟨c',hc'⟩:=hl (n,k) EN hk;have hy':y=n:=by simpa using hy
    subst hy';simp only[] at hc';rw[hc'] at q ⊢;exact q
   ·exact h y d q
  ·exact fP hr h x c e
theorem fG:∀{l:List (Str×NameKind)} {acc:List (Str×Addr)},(∃ c,acc.lookup x=some c)->∃ c,(cO cells l acc).lookup x=some c
 |[],_,h=>h
 | (n,k)::r,acc,h=>by
  unfold cO;split
  ·refine fG ?_;rw[Fu];split
   ·exact⟨_,rfl⟩
   ·exact h
  ·exact fG h
theorem dS:∀{l:List (Str×NameKind)} {acc:List (Str×Addr)},(x,NameKind.free)∈l->∃ c,(cO cells l acc).lookup x=some c
 |[],_,h=>by simp at h
 | (n,k)::r,acc,h=>by
  unfold cO;rcases EG.mp h with e|h
  ·cases e;rw[EI rfl];exact fG ⟨(cells.lookup x).getD 0,by rw[Fu];simp⟩
  ·split
   ·exact dS h
   ·exact dS h
noncomputable def aQ(X:Cx)(scope:Scope)(N:List Str)(C:Addr)(s:Shared)(H:Hp)(fp:List Addr):Cx where
 prog:=X.prog
 w:=X.w
 K:=X.K
 mg:=X.mg
 base:=X.base
 A:=X.A
 N:=N
 s₀:=s
 H₀:=H
 env:=compEnvC scope (cO X.env.cells scope.names []) C X.env
 outer:=X.stack
 stack:=X.stack
 ex:=fp
 calm:=X.calm
 fn:=fun _=>false
 pn:=[]
 xe:=fun _ _=>False
structure df (osc:Scope) (ON:List Str) (scope:Scope) (own N:List Str):Prop where
 kind:scope.kind=.function
 nd:N.Nodup
 len:N.length=own.length+ON.length
 gR:∀ y∈scope.names,y.2≠.cell
 loc:∀ y∈scope.names,y.2=.local->scope.names.lookup y.1=some .local
 free:∀ y∈scope.names,y.2=.free->osc.names.lookup y.1=some .cell\/osc.names.lookup y.1=some .free
 out:∀ p∈ON.zip (N.drop own.length),p.1=p.2\/scope.names.lookup p.2=none
 own:∀ x∈N.drop own.length,scope.names.lookup x≠some .local
theorem bQ(x:Str)(hn:∀ y∈scope.names,y.2≠.cell):((relabel scope env).names.lookup x=some .local->scope.names.lookup x=some .local) /\
  ((relabel scope env).names.lookup x=some .cell\/(relabel scope env).names.lookup x=some .free->scope.names.lookup x=some .free):=by
 unfold relabel;simp only;revert hn;generalize scope.names=l;intro hn
 induction l with
 |nil=>simp
 |cons y r ih =>
  obtain⟨n,k⟩:=y;have ih:=ih fun y hy=>hn y (ED _ hy);have hk:k≠.cell:=hn (n,k) EN;rw[Fy];simp only;by_cases hc:(k == NameKind.free && env.scope.kind == ScopeKind.function && env.kindOf n == some NameKind.cell)=true
  ·rw[EI hc,Fu,Fu];have hf:k=.free:=by
    simp only[FC] at hc
    simpa using hc.1.1
   split
   ·subst hf;simp
   ·exact ih
  ·rw[EB hc,Fu,Fu];split
   ·constructor
    ·exact fun h=>h
    ·rintro (h|h)
     ·exact absurd (Option.some.inj h) hk
     ·exact h
   ·exact ih
noncomputable def AU(X:Cx)(ifs:List Expr)(t:TT):Prop:=
 ∀(pins:List (Addr×Obj)) (s:Shared) (σ:St) (H:Hp) (Q:Bool->Hp->Prop),Inv X pins σ H s->t σ H Q ->
  wpAny (model X.prog X.w) X.A (forIn ifs true fun c r=>if r=true then do let ok <- isTrue c X.env (eval c X.env);pure (ForInStep.yield ok) else pure (ForInStep.yield r)) (TP X pins σ Q) X.xe s
noncomputable def kG:TT:=fun _ H Q=>Q true H
theorem vf:AU X [] kG:=fun _ _ _ H _ I h=>wpAny_tests_nil ⟨H,I,h⟩
theorem vd{c:Expr}{t:TT}(h:PT X c t):AU X [c] t:=fun pins s σ H Q I hw=>wpAny_tests_one (h pins s σ H Q I hw)
theorem jD{A:Around}{R:Result->Shared->Prop}{target:Expr}{it acc:Value}(I:Nat->Shared->Prop)
  (turn:∀ n s,I n s->wpAny (model prog w) A (pyNext it) (fun r s₁=>match r with
   |none=>R (.ok .next) s₁
   |some v=>wpAny (model prog w) A (letOwnedTupleGo target it v) (fun _ s₁'=>wpAny (model prog w) A (assign target env v) (fun _ s₂ =>
     wpAny (model prog w) A (forIn ifs true fun c r=>if r=true then do let ok <- isTrue c env (eval c env);pure (ForInStep.yield ok) else pure (ForInStep.yield r)) (fun ok s₃ =>
      if ok=true then wpAny (model prog w) A (eval elt env) (fun x s₄ =>
       wpAny (model prog w) A (call (.builtin "list.append") [acc,x]) (fun _ s₅=>∃ m,m<n/\I m s₅) (fun _ _=>False) s₄) (fun _ _=>False) s₃
      else ∃ m,m<n/\I m s₃) (fun _ _=>False) s₂) (fun _ _=>False) s₁') (fun _ _=>False) s₁) (fun _ _=>False) s)
  (n:Nat) (h:I n s):codeAny (model prog w) A (.compLoop (.ListComp elt [⟨target,iter,ifs,0⟩] scope pos) 0 it acc env) R s:=by
 refine codeAny_loop rfl I (fun n s hI=>?_) n h;show wpAny _ A ((compTurn (.ListComp elt [⟨target,iter,ifs,0⟩] scope pos) 0 it acc env).onRaise (fun x=>do noteFrame x env;theTreesLotGoes x)) _ _ s
 refine wpAny_noted ?_;rw[compTurn_list];refine EA (HY (EA (FJ (turn n s hI) (fun r s₁ h₁=>?_) fun _ _ h'=>h'.elim)))
 cases r with
 |none=>exact EL h₁
 |some v =>
  refine EA (FJ h₁ (fun _ s₁' h₁'=>?_) fun _ _ h'=>h'.elim);refine EA (FJ h₁' (fun _ s₂ h₂=>EA (FJ h₂ (fun ok s₃ h₃=>?_) fun _ _ h'=>h'.elim)) fun _ _ h'=>h'.elim)
  cases ok with
  |false=>exact EL ⟨rfl,h₃⟩
  |true =>
   exact EA (EA (FJ h₃ (fun x s₄ h₄=>EA (FJ h₄ (fun _ s₅ h₅=>EL (EL ⟨rfl,h₅⟩)) fun _ _ h'=>h'.elim)) fun _ _ h'=>h'.elim))
noncomputable def iT(wi:TI)(k:Nat)(g:TG)(tc:TT)(te:TE):TE:=fun σ H Q=>wi σ H fun J H1=>∀ D,H1 D=none ->
 ∃ W:Nat->Nat->List V->St->Hp->Prop,(∃ m,W 0 m [] (List.replicate k none++σ) (upd H1 D (.lst [])))/\∀ i m ys σ' H',W i m ys σ' H'->H' D=some (.lst ys) /\
  ((J.stop i H'/\Q (.ref D) H')\/(J.go i H'/\ys.length<sizeLine/\∀ x H2,J.tJ i H' x H2->g x σ' H2 fun σ3 H3=>tc σ3 H3 fun b H4 =>
   if b=true then te σ3 H4 fun v H5=>H5 D=some (.lst ys)/\∃ m',m'<m/\W (i+1) m' (ys++[v]) σ3 (upd H5 D (.lst (ys++[v])))
   else ∃ m',m'<m/\W (i+1) m' ys σ3 H4))
theorem oy{own:List Str}{g:TG}(S:df osc ON scope own N)(hosc:X.env.scope=osc)(hON:X.N=ON)(hc:X.calm=true)(hi:PI X tg iter wi)
  (hg:∀ C s H fp,PG (aQ X scope N C s H fp) tg g) (ht:∀ C s H fp,AU (aQ X scope N C s H fp) ifs tc) (he:∀ C s H fp,PE (aQ X scope N C s H fp) elt te)
      {Q:VK} (I:Inv X pins σ H s) (h:iT wi own.length g tc te σ H Q) {RR:Value->Addr->Result->Shared->Prop}
  (fin:∀(D C:Addr) (H':Hp) (s':Shared) (m:Str->Option Value),Inv X pins σ H' s'->Q (.ref D) H'->H' C=none->X.s₀.heap.objs.size<=C->C≠X.env.locals->(∀ x c,X.env.cells.lookup x=some c->c≠C)->(∀ p∈X.pn++pins,p.1≠C) ->
   s'.heap.Ns C m->RR (.ref D) C (.ok .next) s') :
  wpAny (model X.prog X.w) X.A (eval iter X.env) (fun x s₁=>wpAny (model X.prog X.w) X.A (pyIter x) (fun it s₂=>wpAny (model X.prog X.w) X.A (newList []) (fun acc s₃ =>
   wpAny (model X.prog X.w) X.A (newFunctionEnv scope X.env.globals (cO X.env.cells scope.names []) [] X.env.qual none .none (some X.env)) (fun cenv s₄ =>
    codeAny (model X.prog X.w) X.A (.compStart (.ListComp elt [⟨tg,iter,ifs,0⟩] scope pos) 0 it acc {cenv with scope:=relabel scope X.env}) (RR acc cenv.locals) s₄) X.xe s₃) X.xe s₂) X.xe s₁) X.xe s:=by
 refine bg (hi pins s σ H _ I h) fun v s1 h1=>bg h1 fun itv s2 h2=>?_;obtain⟨it,fp,tn,J,H2,e,I2,T,st2,f2,q⟩:=h2;subst e;refine Gi (wpAny_newFunctionEnv S.gR (by intro y hy;simp at hy) (fun h₁ hns₁ hsb₁=>?_) S.kind)
 dsimp only at hns₁ hsb₁ ⊢;have I3:Inv X pins σ (upd H2 s2.heap.objs.size (.lst [])) {s2 with heap:=s2.heap.push {cls:=.type "list",data:=.seq ([]:List Value).toArray},toks:=s2.toks}:=I2.xx (t':=s2.toks) .nil (Nat.zero_le _)
 have hD2:H2 s2.heap.objs.size=none:=I2.fresh;obtain⟨W,⟨m0,w0⟩,turn⟩:=q _ hD2;generalize hs3:({s2 with heap:=s2.heap.push {cls:=.type "list",data:=.seq ([]:List Value).toArray},toks:=s2.toks}:Shared)=s3 at I3
 have eh3:s3.heap=s2.heap.push {cls:=.type "list",data:=.seq ([]:List Value).toArray}:=by rw[<- hs3]
 generalize hD:s2.heap.objs.size=D at I3 turn w0 hD2 ⊢;generalize hH3:upd H2 D (.lst [])=H3 at I3 w0;rw[<- eh3] at hns₁ hsb₁ ⊢;have hC3:H3 s3.heap.objs.size=none:=I3.fresh;have hsz3:s3.heap.objs.size=D+1:=by rw[eh3,Gk,hD]
 have fp2:∀ b∈fp,b<s2.heap.objs.size:=fun b hb=>by
  obtain⟨o,e,_⟩:=T.obj _ _ st2 b hb;exact ER e
 have f3:∀ b∈fp,i7 X pins H3 b:=fun b hb=>by
  obtain⟨g0,g1⟩:=f2 b hb;refine⟨?_,g1⟩;rw[<- hH3,af (by rw[<- hD];exact Fd (fp2 b hb))]
  exact g0
 have neC:∀ b o,s3.heap.get? b=some o->b≠s3.heap.objs.size:=fun b o e=>Fd (ER e);have old:∀ b o,s3.heap.get? b=some o->h₁.get? b=some o:=fun b o e=>hsb₁.extBut b o (neC b o e) (EC _ e);have hk:=S.kind;have hfr:∀ y∈scope.names,y.2=.free->∃ c,X.env.cells.lookup y.1=some c:=fun y hy hf=>I3.ok.has _ (by subst hosc;exact S.free y hy hf)
 have sub:=fP (acc:=[]) hfr (by intro x c e;simp at e)
 have JB:∀ tk,Inv (aQ X scope N s3.heap.objs.size s3 H3 fp) [] (List.replicate own.length none++σ) H3 {s3 with heap:=h₁,toks:=tk}:=fun tk=>by
  refine⟨⟨I3.ok.mod,S.kind,I3.ok.glob,I3.ok.blt,EH _,fun x y c e1 e2=>I3.ok.inj x y c (sub x c e1) (sub y c e2),fun x hx=>?_,fun x c hf _=>(by cases hf),I3.ok.hd,I3.ok.frames,.inl rfl,fun b hb=>?_,I3.bs,ES I3.ok.pw I3.sz,fun b o e hb=>?_,fun b hb hf=>?_,I3.stack,I3.jx,I3.ok.tabs.un I3.base⟩,
   rfl,I3.bare,Un.kept old,⟨_,hns₁,fun i x v e1 e2 e3=>?_⟩,fun x c e=>?_,hC3,fun x c e=>I3.bH x c (sub x c e),fun p hp=>absurd (show p∈([]:List (Addr×Obj)) from hp) (by simp),I3.aM.kept old,?_⟩
  ·have q:=(bQ (env:=X.env) x S.gR).2 hx;exact dS (PySem.mem_of_lookup q)
  ·have hb:b∈fp:=hb;obtain⟨_,g1,g2,g3,g4,g5⟩:=f3 b hb;refine⟨?_,fun x c e=>g4 x c (sub x c e)⟩;have:=fp2 b hb;show b≠s3.heap.objs.size;rw[hsz3,<- hD];exact Fd (Nat.lt_succ_of_lt this)
  ·have hb:b∈fp:=hb;obtain⟨_,g1,g2,g3,g4,g5⟩:=f3 b hb;rcases g3 with g3|g3
   ·exact I3.ok.jC b o e g3
   ·exact absurd (EO (ER e) (ES I3.ok.pw g3)) (F_ _)
  ·have hb:b∈fp:=hb;obtain⟨_,g1,g2,g3,g4,g5⟩:=f3 b hb;rcases EG.mp (I3.hJ b hf) with z|z
   ·exact g1 z
   ·exact g2 z
  ·have hi:own.length<=i:=by
    rcases Ic i own.length with hlt|hge
    ·rw[Fw (by simpa using hlt),Gr] at e2
     split at e2<;>cases e2
    ·exact hge
   rw[Fj (by simpa using hi),FR] at e2
   have e1:N[own.length+(i-own.length)]?=some x:=by rw[Nat.add_sub_cancel' hi];exact e1
   have e1d:(N.drop own.length)[i-own.length]?=some x:=by rw[FA];exact e1
   have nl:scope.names.lookup x≠some .local:=S.own x (FL e1d);have vis:scope.names.lookup x=some .free:=by
    rcases e3 with z|z
    ·exact absurd ((bQ (env:=X.env) x S.gR).1 z) nl
    ·exact (bQ (env:=X.env) x S.gR).2 z
   have hlen:=I3.len;have hlt:i-own.length<X.N.length:=by
    rw[<- hlen];exact (EM.mp e2).1
   have hxN:X.N[i-own.length]?=some x:=by
    rw[EK hlt];have mz:(X.N[i-own.length],x)∈ON.zip (N.drop own.length):=by
     rw[<- hON];refine FL (i:=i-own.length) ?_;rw[List.getElem?_zip_eq_some];exact⟨EK hlt,e1d⟩
    rcases S.out _ mz with z|z
    ·exact Fc some z
    ·exact absurd z (by rw[vis];simp)
   have hko:X.env.scope.names.lookup x=some .cell\/X.env.scope.names.lookup x=some .free:=by subst hosc;exact S.free _ (PySem.mem_of_lookup vis) rfl
   obtain⟨m,hn,hl⟩:=I3.loc;have hv:zI X.env.scope x:=by
    rcases hko with z|z
    ·exact .inr (.inl z)
    ·exact .inr (.inr z)
   obtain⟨u,ru,lk⟩:=hl _ x v hxN e2 hv;refine⟨u,ru,.inr ⟨?_,?_⟩⟩
   ·rcases e3 with z|z
    ·exact absurd ((bQ (env:=X.env) x S.gR).1 z) nl
    ·exact z
   ·rcases lk with ⟨k,_⟩|⟨_,c,ec,hcell⟩
    ·exfalso
     have k':X.env.scope.names.lookup x=some .local:=k;rcases hko with z|z
     ·rw[k'] at z;cases z
     ·rw[k'] at z;cases z
    ·obtain⟨c',ec'⟩:=dS (cells:=X.env.cells) (acc:=[]) (PySem.mem_of_lookup vis);have:=sub x c' ec';rw[ec] at this;cases this;obtain⟨o,ho,hd⟩:=hcell;exact⟨c,ec',o,old c o ho,hd⟩
  ·obtain⟨v,o,ho,hd⟩:=I3.cell x c (sub x c e);exact⟨v,o,old c o ho,hd⟩
  ·show (List.replicate own.length none++σ).length=N.length;rw[S.len,EU,FR,I3.len,hON]
 have stat:∀{H':Hp},(∀ b∈fp,H' b=none)->∀ b∈fp,i7 (aQ X scope N s3.heap.objs.size s3 H3 fp) [] H' b:=fun {H'} hn b hb=>by
  obtain⟨_,g1,g2,g3,g4,g5⟩:=f3 b hb;refine⟨hn b hb,?_,fun hf=>?_,.inl hb,fun x c e=>g4 x c (sub x c e),fun p hp=>absurd (show p∈([]:List (Addr×Obj)) from hp) (by simp)⟩
  ·have:=fp2 b hb;show b≠s3.heap.objs.size;rw[hsz3,<- hD];exact Fd (Nat.lt_succ_of_lt this)
  ·rcases EG.mp (I3.hJ b hf) with z|z
   ·exact g1 z
   ·exact g2 z
 have st4:tn 0 h₁:=T.keep _ _ _ st2 fun b hb o e=>old b o (by rw[eh3];exact EC _ e)
 have loop:∀ s4:Shared,s4={s3 with heap:=h₁,toks:=s2.toks+([]:List (Str×Value)).length} ->
   codeAny (model X.prog X.w) X.A (.compLoop (.ListComp elt [⟨tg,iter,ifs,0⟩] scope pos) 0 (.ref it) (.ref D) (aQ X scope N s3.heap.objs.size s3 H3 fp).env) (RR (.ref D) s3.heap.objs.size) s4:=by
  rintro s4 rfl;refine jD (fun n s'=>∃ i ys σ' H',Inv (aQ X scope N s3.heap.objs.size s3 H3 fp) [] σ' H' s'/\tn i s'.heap/\(∀ b∈fp,H' b=none)/\W i n ys σ' H') ?_ m0 ⟨0,[],_,H3,JB _,st4,fun b hb=>(f3 b hb).1,w0⟩;rintro n s5 ⟨i,ys,σ5,H5,I5,st5,fr5,w5⟩;obtain⟨hD5,ways⟩:=turn i n ys σ5 H5 w5;rcases ways with ⟨stop,qn⟩|⟨go,hys,step⟩
  ·refine bg (T.done (aQ X scope N s3.heap.objs.size s3 H3 fp) rfl rfl rfl hc i [] s5 σ5 H5 _ I5 (stat fr5) st5 stop) fun r s6 hq1=>?_;obtain⟨hr,I6⟩:=hq1;subst hr;obtain⟨m,hn,_⟩:=I6.loc;refine fin D _ H5 s6 m ?_ qn I6.free (ES I3.sz (EH _)) ?_ (fun x c e z=>?_) (fun p hp z=>?_) hn
   ·refine I3.wD (ch:=fp) I6.os I6.base I6.aM I6.bare fun b hb=>?_;obtain⟨_,g1,g2,g3,g4,g5⟩:=f3 b hb;exact⟨g3,g1,g4,g5⟩
   ·exact Ha I3.lt
   ·obtain⟨v,o,ho,_⟩:=I3.cell x c e;exact absurd (ER ho) (by rw[z];exact F_ _)
   ·exact absurd (ER (I3.pin p hp).1) (by rw[z];exact F_ _)
  ·refine bg (T.item (aQ X scope N s3.heap.objs.size s3 H3 fp) rfl rfl rfl hc i [] s5 σ5 H5 _ I5 (stat fr5) st5 go) fun r s6 hq2=>?_;obtain⟨u,hr,h6⟩:=hq2;subst hr;refine bg h6 fun _ s7 hq3=>?_;obtain⟨x,H7,I7,r7,y7,st7,fr7⟩:=hq3;have I7':=I7.pinned (stat fr7) (T.obj _ _ st7);have back:∀{σ8:St} {H8:Hp} {s8:Shared},Inv (aQ X scope N s3.heap.objs.size s3 H3 fp) ([]++ic fp s7.heap) σ8 H8 s8->tn (i+1) s8.heap/\∀ b∈fp,H8 b=none:=fun {σ8 H8 s8} I8=>by
    refine⟨T.keep _ _ _ st7 fun b hb o e=>(I8.pin (b,o) (Fi _ (Fi _ (dA hb e)))).1,fun b hb=>?_⟩;obtain⟨o,e,d⟩:=T.obj _ _ st7 b hb;exact (I8.pin (b,o) (Fi _ (Fi _ (dA hb e)))).2.1
   refine bg (hg _ _ _ _ _ s7 σ5 H7 x u _ I7' r7 (step x H7 y7)) fun _ s8 hq4=>?_;obtain⟨σ8,H8,I8,q8⟩:=hq4;refine bg (ht _ _ _ _ _ s8 σ8 H8 _ I8 q8) fun ok s9 hq5=>?_;obtain⟨H9,I9,q9⟩:=hq5
   cases ok with
   |false =>
    rw[EB (by simp)] at q9 ⊢
    obtain⟨m',hm,w9⟩:=q9;exact⟨m',hm,i+1,ys,σ8,H9,I9.dG,(back I9).1,(back I9).2,w9⟩
   |true =>
    rw[EI rfl] at q9 ⊢;refine bg (he _ _ _ _ _ s9 σ8 H9 _ I9 q9) fun y s10 hq6=>?_;obtain⟨v10,H10,I10,r10,hD10,m',hm,w10⟩:=hq6;refine bg (fI _ s10 σ8 H10 (.ref D) [v10] (.ref D) [y] (fun r H11=>r=.ay/\H11=upd H10 D (.lst (ys++[v10]))) I10 rfl (.cons r10 .nil) ⟨D,ys,v10,rfl,rfl,hD10,hys,rfl,rfl⟩) fun _ s11 hq7=>?_;obtain⟨_,H11,I11,_,_,e11⟩:=hq7;subst e11;exact⟨m',hm,i+1,_,σ8,_,I11.dG,(back I11).1,(back I11).2,w10⟩
 have start:=codeAny_compStart_list (R:=RR (.ref D) s3.heap.objs.size) (loop _ rfl) (T.self X.A 0 _ _ _ st4 (loop _ rfl));subst hs3;exact start
theorem tU{own:List Str}{g:TG}(S:df osc ON scope own N)(hosc:X.env.scope=osc)(hON:X.N=ON)(hc:X.calm=true)(hi:PI X tg iter wi)
  (hg:∀ C s H fp,PG (aQ X scope N C s H fp) tg g) (ht:∀ C s H fp,AU (aQ X scope N C s H fp) ifs tc) (he:∀ C s H fp,PE (aQ X scope N C s H fp) elt te)
  (hs:autoParam (∀ x,foldedSetIterable iter X.env x=pure x) ℜ3) :
  PE X (.ListComp elt [⟨tg,iter,ifs,0⟩] scope pos) (iT wi own.length g tc te):=by
 intro pins s σ H Q I h;have hfr:∀ y∈scope.names,y.2=.free->∃ c,X.env.cells.lookup y.1=some c:=fun y hy hf=>I.ok.has _ (by subst hosc;exact S.free y hy hf)
 rw[eval_ListComp];refine wpAny_comprehension_free (use:=none) rfl hs (i9 hfr) S.kind S.loc ?_;refine oy S hosc hON hc hi hg ht he I h (RR:=fun acc C=>compPost (model X.prog X.w) X.A X.xe none (EP X pins σ Q) acc C) ?_;intro D C H' s' m I' q h1 h2 h3 h4 h5 hn;exact⟨m,hn,fun h'' hs''=>⟨.ref D,H',I'.turned (t':=s'.toks) (fun b o hb e=>(hs''.2 b hb).trans e) h1 h3 (.inr h2) h4 h5,rfl,q⟩⟩
noncomputable def cN(e:Expr):Bool:=match e with
 |.Starred ..=>false
 |_=>true
theorem dC{e:Expr}(h:cN e=true):starEach (e::es) env=(false,eval e env)::starEach es env:=by
 cases e<;>first|rfl|cases h
theorem plain_any:∀{es:List Expr},es.all cN=true->(backTo pos (starEach es env)).any (·.1)=false
 |[],_=>rfl
 |e::es,h=>by
  rw[FQ,FC] at h;rw[dC h.1];show (false || (backTo pos (starEach es env)).any (·.1))=false;rw[plain_any h.2];rfl
theorem plain_all:∀{es:List Expr},es.all cN=true->(backTo pos (starEach es env)).all (fun x=>!x.1)=true
 |[],_=>rfl
 |e::es,h=>by
  rw[FQ,FC] at h;rw[dC h.1];show (true && (backTo pos (starEach es env)).all (fun x=>!x.1))=true;rw[plain_all h.2];rfl
theorem x_{e:Expr}(h:(e::es).all cN=true)(hl:(e::es).length<30):
  ((backTo cpos (starEach (e::es) env)).all (fun x=>!x.1) && (backToKw cpos (keywordEach [] env)).all (fun x=>x.1.isSome) && decide ((e::es).length+([]:List Keyword).length+(if ([]:List Keyword).isEmpty then 0 else 1)<30))=true:=by
 rw[plain_all h];have e2:(backToKw cpos (keywordEach [] env)).all (fun x=>x.1.isSome)=true:=rfl;rw[e2];have e3:(e::es).length+([]:List Keyword).length+(if ([]:List Keyword).isEmpty then 0 else 1)<30:=hl
 rw[Fq e3];rfl
section
variable {X:Cx} {e:Expr} {es:List Expr} {te:TE} {t:TA}
theorem CT(ha:PE X e te)(hr:PA X es t)(h:autoParam (cN e=true) ℜ0):PA X (e::es) (iy te t):=nA ha hr (dC h)
theorem Cc{id:String}{p:Pos}(hc:aP X (.builtin id) r)(hg:Gl X x)(hm:X.mg x=none)(hv:bootBuiltins x=some (.builtin id))(ha:PA X (e::es) t)(h1:autoParam (cN e=true) ℜ0)(h2:autoParam (es.all cN=true) ℜ0)(hn:autoParam (x≠"__name__") ℜ1)(hdb:autoParam ((x ==("__debug__":Str))=false) ℜ1):
  PE X (.Call (.Name x p) (e::es) [] pos) (t6 r t):=sS hc hg hm hv ha hn hdb (dC h1) (plain_any h2)
theorem A_{T:String}{p:Pos}(hc:aP X (.type T) r)(hg:Gl X x)(hm:X.mg x=none)(hv:bootBuiltins x=some (.type T))(ha:PA X (e::es) t)(h1:autoParam (cN e=true) ℜ0)(h2:autoParam (es.all cN=true) ℜ0)(hn:autoParam (x≠"__name__") ℜ1)(hdb:autoParam ((x ==("__debug__":Str))=false) ℜ1):
  PE X (.Call (.Name x p) (e::es) [] pos) (t6 r t):=o9 hc hg hm hv ha hn hdb (dC h1) (plain_any h2)
theorem yf{o:Expr}{to:TE}{apos:Pos}{T id:String}{r:V->List V->Hp->VK->Prop}(pa:PlainAttrs T)(slot:Slot T name id)(hty:typeOf (.builtin id)=pure (.type "method_descriptor"))(hm:Bh X id r)(ho:PE X o to)(ha:PA X (e::es) t)
  (hbase:attributeBase o name X.env (eval o X.env)=eval o X.env) (hline:(apos.endLine == cpos.line)=true) (h:(e::es).all cN=true) (hl:(e::es).length<30):PE X (.Call (.Attribute o name apos) (e::es) [] cpos) (zS X.K T r to t):=by
 have h':=h;rw[FQ,FC] at h';exact AS pa slot hty hm ho ha hbase (x_ h hl) hline (dC h'.1) (plain_any h'.2)
theorem lZ{a:Expr}{ta:TA}{p:Pos}(hg:Gl X "range")(hm:X.mg "range"=none)(ha:PA X [a] ta)(h:autoParam (cN a=true) ℜ0):PI X tg (.Call (.Name "range" p) [a] [] pos) (jj ta):=oU hg hm ha (dC h)
end
structure HasFn (K:Ih) (mg:Str->Option Value) (x:Str) (st:Stmt) (ps:List Str):Prop where
 ex:∃(f:Addr) (fd:FuncData),jn K x x st f fd/\Binds K fd ps []/\mg x=some (.ref f)
structure aj (P:Program) (w:World) (K:Ih) (mg:Str->Option Value) (base:Heap) (CX:ke) (k:Nat) (x:Str) (ps:List Str) (sp:Sp):Prop where
 ex:∃(f:Addr) (fd:FuncData),mg x=some (.ref f)/\PySem.W.keepIn K (.ref f)=true/\Binds K fd ps []/\aX P w K mg base CX k f fd ps sp
section
variable {P:Program} {w:World} {K:Ih} {mg:Str->Option Value} {base:Heap}
theorem HasFn.ok{ps:List Str}(F:HasFn K mg x st ps)(S:av N ps (aa st))(len:∀ vs H Q E,sp vs H Q E->vs.length=ps.length)
  (hbody:∀(f:Addr) (cdv:Value) (A:Around) (outer:List Env) (s:Shared) (H:Hp) (vs:List V) (Q:VK) (E:XK),aY k (A.deeper (envOfC x (aa st) s.heap.objs.size f cdv))->sp vs H Q E ->
   ∃ t,nJ (dH aW P w K mg base N x (aa st) f cdv A outer s H E).pd (aG st) t/\t {nx:=fun _ H'=>Q .ay H',rt:=Q} (start N vs) H):aj P w K mg base aW (k+1) x ps sp:=by
 obtain⟨f,fd,F1,b,m⟩:=F.ex;exact⟨f,fd,m,F1.kp,b,F1.ok S len fun cdv A outer s H vs Q E hr h=>hbody f cdv A outer s H vs Q E hr h⟩
end
section
variable {X:Cx} {CX:ke} {k:Nat} {ps:List Str} {sp:Sp} {E:XK} {x:Str} {p pos:Pos} {e:Expr} {es:List Expr} {t:TA}
theorem AG(F:aj X.prog X.w X.K X.mg X.base CX k x ps sp)(hr:aY k X.A)(hg:Gl X x)(hx:Passes CX X E)(ha:PA X (e::es) t)(h1:autoParam (cN e=true) ℜ0)(h2:autoParam (es.all cN=true) ℜ0)(hdb:autoParam ((x ==("__debug__":Str))=false) ℜ1):
  PE X (.Call (.Name x p) (e::es) [] pos) (ik sp [] E t):=by
 obtain⟨f,fd,m,kp,b,G⟩:=F.ex;exact t_ G hr hg m kp b .nil hx ha hdb (dC h1) (plain_any h2)
end
noncomputable def yH:Expr->Option V
 |.Constant (.int i) _ _=>some (.int i)
 |.Constant (.str x) _ _=>some (.str x)
 |.Constant (.bool b) _ _=>some (.bl b)
 |.Constant .none _ _=>some .ay
 |_=>none
noncomputable def jc:List Expr->Option (List V)
 |[]=>some []
 |e::es=>match yH e,jc es with
  |some v,some vs=>some (v::vs)
  |_,_=>none
noncomputable def tK(vs:List V):TA:=fun _ H Q=>Q vs H
theorem xK{e:Expr}{v:V}(h:yH e=some v):PE X e (tC v)/\∀ es,starEach (e::es) X.env=(false,eval e X.env)::starEach es X.env:=by
 unfold yH at h
 split at h
 ·cases h;exact⟨sR,fun _=>rfl⟩
 ·cases h;exact⟨si,fun _=>rfl⟩
 ·cases h;exact⟨wO,fun _=>rfl⟩
 ·cases h;exact⟨qR,fun _=>rfl⟩
 ·cases h
theorem iY{X:Cx}:∀{es:List Expr} {vs:List V},jc es=some vs->PA X es (tK vs)
 |[],vs,h=>by cases h;exact sT
 |e::es,vs,h=>by
  unfold jc at h
  split at h
  ·rename_i v ws e1 e2;cases h;have p:=xK (X:=X) e1;exact nA (te:=tC v) (t:=tK ws) p.1 (iY e2) (p.2 es)
  ·cases h
noncomputable def sq(H:Hp)(p:Addr):Option (Bool×List V):=match H p with
 |some (.lst xs)=>some (true,xs)
 |some (.tup xs)=>some (false,xs)
 |some (.gM _ (.lst xs))=>some (true,xs)
 |some (.gM _ (.tup xs))=>some (false,xs)
 |_=>none
theorem fC(h:sq H p=some (true,xs)):a_ K H p xs:=by
 unfold sq at h
 split at h
 ·rename_i e;cases h;exact .inl (.inl e)
 ·cases h
 ·rename_i e;cases h;exact .inl (.inr ⟨_,e⟩)
 ·cases h
 ·cases h
theorem eU(h:sq H p=some (false,xs)):b6 K H p xs:=by
 unfold sq at h
 split at h
 ·cases h
 ·rename_i e;cases h;exact .inl (.inl e)
 ·cases h
 ·rename_i e;cases h;exact .inl (.inr ⟨_,e⟩)
 ·cases h
theorem zw(h:sq H p=some (b,xs)):a_ K H p xs\/b6 K H p xs:=by
 cases b with
 |true=>exact .inl (fC h)
 |false=>exact .inr (eU h)
theorem aI(h:H p=some (.lst xs)):sq H p=some (true,xs):=by unfold sq;rw[h]
theorem jv(h:H p=some (.tup xs)):sq H p=some (false,xs):=by unfold sq;rw[h]
section
variable {X:Cx}
noncomputable def kE(K:Ih):R2:=fun x y H Q=>match x,y with
 |.int i,.int j=>Q (.int (i+j)) H
 |.str i,.str j=>i.length+j.length<=sizeLine/\Q (.str (i++j)) H
 |.ref a,.ref b=>match H a,H b with
  |some (.lst xs),some (.lst ys)=>xs.length+ys.length<=sizeLine/\∀ p,H p=none->Q (.ref p) (upd H p (.lst (xs++ys)))
  |some (.tup xs),some (.tup ys)=>xs≠[]/\ys≠[]/\xs.length+ys.length<=sizeLine/\∀ p,H p=none->Q (.ref p) (upd H p (.tup (xs++ys)))
  |_,_=>False
 |_,_=>False
theorem uX:bZ X (binaryOp .Add) (kE X.K):=by
 intro pins s σ H x y v u Q I rx ry h
 cases x with
 |int i=>cases y with
  |int j=>exact qI pins s σ H _ _ v u Q I rx ry ⟨i,j,rfl,rfl,h⟩
  |_=>exact (show False from h).elim
 |str i=>cases y with
  |str j=>exact iw pins s σ H _ _ v u Q I rx ry ⟨i,j,rfl,rfl,h.1,h.2⟩
  |_=>exact (show False from h).elim
 |ref a=>cases y with
  |ref b =>
   unfold kE at h;simp only at h
   split at h
   ·rename_i xs ys e1 e2;exact q_ pins s σ H _ _ v u Q I rx ry ⟨a,b,xs,ys,rfl,rfl,e1,e2,h.1,h.2⟩
   ·rename_i xs ys e1 e2;obtain⟨h1,h2,h3,h4⟩:=h;exact mZ pins s σ H _ _ v u Q I rx ry ⟨a,b,xs,ys,rfl,rfl,b6.of e1,b6.of e2,h1,h3,fun z=>absurd z h2,fun _=>h4⟩
   ·exact h.elim
  |_=>exact (show False from h).elim
 |_=>exact (show False from h).elim
noncomputable def xT:R2:=fun x y H Q=>match x,y with
 |.int i,.int j=>lg i j/\Q (.int (i*j)) H
 |.ref a,.int j=>Ae (.ref a) (.int j) H Q
 |_,_=>False
theorem uQ:bZ X (binaryOp .Mult) xT:=by
 intro pins s σ H x y v u Q I rx ry h
 cases x with
 |int i=>cases y with
  |int j=>exact xZ pins s σ H _ _ v u Q I rx ry ⟨i,j,rfl,rfl,h.1,h.2⟩
  |_=>exact (show False from h).elim
 |ref a=>cases y with
  |int j=>exact yY pins s σ H _ _ v u Q I rx ry h
  |_=>exact (show False from h).elim
 |_=>exact (show False from h).elim
theorem jG:bZ X (compareOp .Eq) Ag:=wQ
noncomputable def Co(K:Ih)(neg:Bool):R2:=fun x y H Q=>match y with
 |.str j=>∃ i,x=.str i/\Q (.bl (if neg then !(!(Builtin.Str.occurrences j i 0 j.length 1).isEmpty) else !(Builtin.Str.occurrences j i 0 j.length 1).isEmpty)) H
 |.ref p=>match sq H p with
  |some (_,xs)=>b9 x=true/\xs.all b9=true/\Q (.bl (if neg then !jY x xs else jY x xs)) H
  |none=>∃ xs,b6 K H p xs/\b9 x=true/\xs.all b9=true/\Q (.bl (if neg then !jY x xs else jY x xs)) H
 |_=>False
theorem xC{neg:Bool}{x:V}{Q:VK}(h:Co K neg x (.ref p) H Q):DV K neg x (.ref p) H Q:=by
 unfold Co at h;simp only at h
 split at h
 ·rename_i xs e;exact⟨p,_,rfl,zw e,h.1,h.2.1,h.2.2⟩
 ·obtain⟨xs,hq,h⟩:=h;exact⟨p,xs,rfl,.inr hq,h.1,h.2.1,h.2.2⟩
theorem yw(hu:k<cLine):bZ X (compareOp .In) (Co X.K false):=by
 intro pins s σ H x y v u Q I rx ry h
 match y,h with
 |.str j,h =>
  obtain⟨i,rfl,h'⟩:=h;exact iI pins s σ H _ _ v u Q I rx ry ⟨i,j,rfl,rfl,h'⟩
 |.ref p,h=>exact iX pins s σ H _ _ v u Q I rx ry (xC h)
noncomputable def xW(K:Ih):R2:=fun x y H Q=>match x,y with
 |.str z,.int i=>z.length<=sizeLine/\(match bN z.cps.toList i with|some c=>Q (.str ⟨#[c]⟩) H|none=>False)
 |.ref p,.int i=>match sq H p with
  |some (_,xs)=>(match bN xs i with|some v=>Q v H|none=>False)
  |none=>∃ xs v,b6 K H p xs/\bN xs i=some v/\Q v H
 |_,_=>False
theorem Eu(hu:k<cLine):lK X (xW X.K):=by
 intro value slice pins s σ H x y v u Q I rx ry h hs;refine rm value slice pins s σ H x y v u Q I rx ry ?_ hs
 cases x with
 |str z=>cases y with
  |int i =>
   obtain⟨hz,h⟩:=h
   split at h
   ·rename_i c e;exact .inr (.inr ⟨z,i,c,rfl,rfl,hz,e,h⟩)
   ·exact h.elim
  |_=>exact (show False from h).elim
 |ref p=>cases y with
  |int i =>
   unfold xW at h;simp only at h
   split at h
   ·rename_i b xs e
    split at h
    ·rename_i w' e'
     cases b with
     |true=>exact .inl ⟨p,xs,i,w',rfl,rfl,fC e,e',h⟩
     |false=>exact .inr (.inl ⟨p,xs,i,w',rfl,rfl,eU e,e',h⟩)
    ·exact h.elim
   ·obtain⟨xs,w',hq,e',h⟩:=h;exact .inr (.inl ⟨p,xs,i,w',rfl,rfl,hq,e',h⟩)
  |_=>exact (show False from h).elim
 |_=>exact (show False from h).elim
noncomputable def yq(K:Ih):V->Option Int->Option Int->Hp->VK->Prop:=fun x lo hi H Q=>match x with
 |.ref p=>match sq H p with
  |some (true,xs)=>∀ q,H q=none->Q (.ref q) (upd H q (.lst (gY xs lo hi)))
  |some (false,xs)=>oG K (.ref p) lo hi H Q
  |none=>oG K (.ref p) lo hi H Q
 |_=>False
theorem vT:mT X (yq X.K):=by
 intro pins s σ H x v vl vu lo hi sl Q I rx hs pl pu h
 match x,h with
 |.ref p,h =>
  unfold yq at h;simp only at h
  split at h
  ·rename_i xs e;exact nD pins s σ H _ v vl vu lo hi sl Q I rx hs pl pu ⟨p,xs,rfl,fC e,h⟩
  ·exact lY pins s σ H _ v vl vu lo hi sl Q I rx hs pl pu h
  ·exact lY pins s σ H _ v vl vu lo hi sl Q I rx hs pl pu h
noncomputable def rR:V->V->V->Hp->(Hp->Prop)->Prop:=fun o i v H Q=>match o,i with
 |.ref p,.int k=>match H p with
  |some (.lst xs)=>(match i3 xs.length k with|some j=>Q (upd H p (.lst (xs.set j v)))|none=>False)
  |_=>False
 |_,_=>False
theorem uset:uE X rR:=by
 intro pins s σ H o i v ov iv u Q I ro ri rv h
 cases o with
 |ref p=>cases i with
  |int k =>
   unfold rR at h;simp only at h
   split at h
   ·rename_i xs e
    split at h
    ·rename_i j e';exact set_list pins s σ H _ _ v ov iv u Q I ro ri rv ⟨p,xs,k,j,rfl,rfl,e,e',h⟩
    ·exact h.elim
   ·exact h.elim
  |_=>exact (show False from h).elim
 |_=>exact (show False from h).elim
noncomputable def uD(K:Ih):List V->Hp->VK->Prop:=fun xs H Q=>match xs with
 |[.str y]=>y.length<=sizeLine/\Q (.int y.length) H
 |[.ref p]=>match sq H p with
  |some (_,ys)=>Q (.int ys.length) H
  |none=>∃ ys,b6 K H p ys/\Q (.int ys.length) H
 |_=>False
theorem oZ:aP X (.builtin "len") (uD X.K):=by
 intro pins s σ H xs us Q I r h;rcases xs with _|⟨x,_|⟨y,xs⟩⟩
 ·exact (show False from h).elim
 rotate_left
 ·cases x<;>exact (show False from h).elim
 cases x with
 |str y=>exact fB pins s σ H _ us Q I r ⟨.str y,_,rfl,⟨h.1,rfl⟩,h.2⟩
 |ref p =>
  unfold uD at h;simp only at h
  split at h
  ·rename_i b ys e;refine fB pins s σ H _ us Q I r ⟨.ref p,ys.length,rfl,?_,h⟩
   cases b with
   |true=>exact .inl ⟨ys,fC e,rfl⟩
   |false=>exact .inr ⟨ys,eU e,rfl⟩
  ·obtain⟨ys,hq,h⟩:=h;exact fB pins s σ H _ us Q I r ⟨.ref p,ys.length,rfl,.inr ⟨ys,hq,rfl⟩,h⟩
 |_=>exact (show False from h).elim
noncomputable def yt:List V->Hp->VK->Prop:=fun xs H Q=>match xs with
 |[.int i,.int j]=>Q (.int (if j<i then j else i)) H
 |_=>False
theorem jo(hc:X.calm=true):aP X (.builtin "min") yt:=by
 intro pins s σ H xs us Q I r h;rcases xs with _|⟨x,_|⟨y,_|⟨z,xs⟩⟩⟩
 ·exact (show False from h).elim
 ·cases x<;>exact (show False from h).elim
 ·cases x with
  |int i=>cases y with
   |int j=>exact pz hc pins s σ H _ us Q I r ⟨i,j,rfl,h⟩
   |_=>exact (show False from h).elim
  |_=>exact (show False from h).elim
 ·cases x with
  |int i=>cases y<;>exact (show False from h).elim
  |_=>exact (show False from h).elim
noncomputable def fN(K:Ih):List V->Hp->VK->Prop:=fun xs H Q=>match xs with
 |[.ref p]=>match sq H p with
  |some (true,ys)=>∀ l,H l=none->Q (.ref l) (upd H l (.tup ys))
  |some (false,_)=>Q (.ref p) H
  |none=>∃ ys,b6 K H p ys/\Q (.ref p) H
 |_=>False
theorem p7(hc:X.calm=true):aP X (.builtin "sum") (fun xs H Q=>∃(p:Addr) (ns:List Int),xs=[.ref p]/\a_ X.K H p (ns.map V.int)/\Q (.int ns.sum) H):=by
 intro pins s σ H xs us Q I r h;obtain⟨p,ns,rfl,hq,q⟩:=h;obtain⟨u,rfl,ru⟩:=vals1 r;cases ru;obtain⟨ah,rv,pl,hz⟩:=I.list hq;have hi:=intsAre_of rv;obtain⟨xs,hx⟩:=hi.allInts.items;have hl':s.heap.IsList p (intItems xs):=by rw[<- hx];exact pl.isList
 refine sum_intListG (I.ok.hd hc) hl' fun h' tk t' hk=>?_;have e1:ns=xs.toList.map (·.1):=by rw[<- nums_intItems,<- hx];exact hi.numsOf.symm
 have e2:preSum (numAt xs) xs.size=ns.sum:=by rw[preSum_eq,Gx (by simp),e1]
 rw[e2];exact⟨.int ns.sum,H,I.kept hk,⟨_,rfl⟩,q⟩
noncomputable def wC(H:Hp):V->Option String
 |.ay=>some "NoneType"
 |.bl _=>some "bool"
 |.int _=>some "int"
 |.str _=>some "str"
 |.ref a=>match H a with
  |some (.lst _)=>some "list"
  |some (.tup _)=>some "tuple"
  |some (.dK _)=>some "dict"
  |_=>none
 |_=>none
theorem y3{x:V}{t:String}(h:wC H x=some t):fc K H x (.type t):=by
 unfold wC at h
 split at h
 ·cases h;exact .ay
 ·cases h;exact .bl _
 ·cases h;exact .int _
 ·cases h;exact .str _
 ·split at h
  ·rename_i e;cases h;exact .lst e
  ·rename_i e;cases h;exact .tup e
  ·rename_i e;cases h;exact .dK e
  ·cases h
 ·cases h
noncomputable def dQ(t c:String):Bool:=decide (t=c) || (t == "bool" && c == "int")
theorem sY{t c:String}(ht:t∈["NoneType","bool","int","str","list","tuple","dict"])(hc:c∈["bool","int","str","list","tuple","dict"]):PySem.W.kitOne K (.type t) (.type c)=some (dQ t c):=by
 simp only[EG,EW,FI] at ht hc;rcases ht with rfl|rfl|rfl|rfl|rfl|rfl|rfl<;>rcases hc with rfl|rfl|rfl|rfl|rfl|rfl<;>rfl
theorem xR{x:V}{t:String}(h:wC H x=some t):t∈["NoneType","bool","int","str","list","tuple","dict"]:=by
 unfold wC at h
 split at h
 ·cases h;decide
 ·cases h;decide
 ·cases h;decide
 ·cases h;decide
 ·split at h
  ·cases h;decide
  ·cases h;decide
  ·cases h;decide
  ·cases h
 ·cases h
noncomputable def lu(K:Ih):List V->Hp->VK->Prop:=fun xs H Q=>match xs with
 |[x,.ty T]=>T∈["bool","int","str","list","tuple","dict"]/\match wC H x with
  |some t=>Q (.bl (dQ t T)) H
  |none=>∃ t b,fc K H x t/\PySem.W.kitOne K t (.type T)=some b/\Q (.bl b) H
 |_=>False
theorem oB:aP X (.builtin "isinstance") (lu X.K):=by
 intro pins s σ H xs us Q I r h;rcases xs with _|⟨x,_|⟨y,_|⟨z,xs⟩⟩⟩
 ·exact (show False from h).elim
 ·exact (show False from h).elim
 rotate_left
 ·cases y<;>exact (show False from h).elim
 cases y with
 |ty T =>
  obtain⟨u,w',rfl,r1,r2⟩:=vals2 r;cases r2;obtain⟨hT,h⟩:=h
  split at h
  ·rename_i t e;exact i_ I r1 (y3 e) (sY (xR e) hT) fun tk=>⟨.bl _,H,I.tok _,rfl,h⟩
  ·obtain⟨t,b,ty,k,q⟩:=h;exact i_ I r1 ty k fun tk=>⟨.bl b,H,I.tok _,rfl,q⟩
 |_=>exact (show False from h).elim
theorem yQ{T:String}(hg:Gl X x)(hm:X.mg x=none)(hv:bootBuiltins x=some (.type T))(hn:autoParam (x≠"__name__") ℜ1)(hd:autoParam ((x ==("__debug__":Str))=false) ℜ1):PE X (.Name x pos) (tC (.ty T)):=vK hg hm hv rfl hn hd
end
open AutoSeq1 (wpAny_loadPart')
section
variable {prog:Program} {w:World} {A:Around} {E:Value->Shared->Prop} {s:Shared}
theorem gu{l:Addr}{x:Value}{Q:Value->Shared->Prop}(hit:s.heap.IsTupleIter it l i)(hl:s.heap.IsTuple l items)(hx:items[i]?=some x)
  (hQ:∀ h',h'.IsTupleIter it l (i+1)->Heap.SameBut it s.heap h'->Q x {s with heap:=h'}):wpAny (model prog w) A (Builtin.SmallTypes.nextOf (.ref it)) Q E s:=by
 obtain⟨o,ho,hc,hd⟩:=id hit;obtain⟨ol,hol,_,nl,hdl⟩:=hl;unfold Builtin.SmallTypes.nextOf;refine EA (FP (name:=Str.ofString "__next__") hit.typeIs Gh (Gn Gh hit.typeIs Hn ?_ (Hk _)));show wpAny _ _ (field (.ref it) 0 >>= _) _ _ s;refine EA (Fv ho hd (x:=.ref l) rfl ?_);show wpAny _ _ (if (Value.ref l == Value.none)=true then _ else _) _ _ s
 rw[EB (show ¬ ((Value.ref l == Value.none)=true) from EF)];show wpAny _ _ (field (.ref it) 1 >>= _) _ _ s;refine EA (Fv ho hd (x:=.int i 0) rfl ?_);show wpAny _ _ (seqItems? (.ref l) >>= _) _ _ s;refine EA (Gd hol hdl ?_);simp only[Fp,hx];refine EA (HP ho hd (by simp) (EL ⟨x,rfl,EL (hQ _ ?_ (Heap.SameBut.update ..))⟩))
 exact⟨_,GX _ ho (Obj.isFreed_of_fields (Ho hd _)),(Obj.cls_mapFields ..).trans hc,by rw[Ho hd];simp[rawInt]⟩
theorem gU{l:Addr}{Q:Value->Shared->Prop}(hh:A.handled=none)(hit:s.heap.IsTupleIter it l i)(hl:s.heap.IsTuple l items)(hx:items[i]?=none)
  (hE:∀ h' e,Heap.ExtBut it s.heap h'->(∃ o,h'.get? e=some o/\o.cls=.type "StopIteration")->E (.ref e) {s with heap:=h'}):wpAny (model prog w) A (Builtin.SmallTypes.nextOf (.ref it)) Q E s:=by
 obtain⟨o,ho,hc,hd⟩:=id hit;obtain⟨ol,hol,_,nl,hdl⟩:=hl;unfold Builtin.SmallTypes.nextOf;refine EA (FP (name:=Str.ofString "__next__") hit.typeIs Gh (Gn Gh hit.typeIs Hn ?_ (Hk _)));show wpAny _ _ (field (.ref it) 0 >>= _) _ _ s;refine EA (Fv ho hd (x:=.ref l) rfl ?_);show wpAny _ _ (if (Value.ref l == Value.none)=true then _ else _) _ _ s
 rw[EB (show ¬ ((Value.ref l == Value.none)=true) from EF)];show wpAny _ _ (field (.ref it) 1 >>= _) _ _ s;refine EA (Fv ho hd (x:=.int i 0) rfl ?_);show wpAny _ _ (seqItems? (.ref l) >>= _) _ _ s;refine EA (Gd hol hdl ?_);simp only[Fp,hx];refine EA (HX (EA (HP ho hd (by simp) ?_)))
 show wpAny _ _ (newExc (.type "StopIteration") [] >>= _) _ _ _;refine EA ?_;simp only[newExc,newTuple];refine EA (Gi ?_ (by size_fits))
 refine EA (m:=firstArgMember _ _) (wpAny_of_eq (a:=Value.none) (by first|rfl | (simp only[firstArgMember];rfl)) ?_)
 refine Gi ?_ (by size_fits)
 simp only[raiseNew];refine EA (wpAny_handled ?_)
 first|rw[show A.in1.handled=none from hh]|rw[hh]
 refine EA (EL (wpAny_throw ?_));exact hE _ _ (((Heap.SameBut.update ..).extBut.push _).push _) ⟨_,EV _ rfl,rfl⟩
theorem oo(hh:A.handled=none)(it l:Addr)(hne:l≠it)(items:Array Value):
  Draws prog w A it [it,l] items.size (fun i v=>items[i]?=some v) (fun i h=>h.IsTupleIter it l i/\h.IsTuple l items) where
 live:=fun _ _ st=>let ⟨o,ho,_⟩:=st.1;⟨o,ho⟩
 frame:=fun _ _ _ st hk=>⟨let ⟨o,e,r⟩:=st.1;⟨o,hk it (by simp) o e,r⟩,let ⟨o,e,r⟩:=st.2;⟨o,hk l (by simp) o e,r⟩⟩
 item:=fun i s Q E hi st hQ=>by
  refine gu st.1 st.2 (x:=items[i]) (by simp[hi]) fun h' hit' hs'=>?_
  exact hQ _ h' s.toks (by simp[hi]) ⟨hit',st.2.extBut hs'.extBut hne⟩ hs'
 done:=fun s Q E st hE=>gU hh st.1 st.2 (by simp) hE
end
section
variable {X:Cx} {pins:List (Addr×Obj)} {σ:St} {H:Hp} {s:Shared} {h':Heap}
theorem Inv.turns{t':Nat}(I:Inv X pins σ H s)(hf:∀ b∈fp,i7 X pins H b)(k:∀ b o,b∉fp->s.heap.get? b=some o->h'.get? b=some o):Inv X pins σ H {s with heap:=h',toks:=t'}:=by
 have nf:∀ b u,H b=some u->b∉fp:=fun b u e z=>by rw[(hf b z).1] at e;cases e
 refine I.step (g':=s.gens) (d':=s.drawn) (ch:=fp) (fun b hb=>?_) (fun b o _ _ hc e _=>k b o hc e) (fun b o _ _ hc e _=>⟨o.slots,k b o hc e⟩) (fun _ _ _ _ n=>n)
  (fun b o hc e=>⟨o,k b o hc e⟩) (fun _ _ e=>e) (fun _ _ _ e=>e) (fun b ps e=>⟨#[],by rw[e];simp⟩) (fun m hm=>?_) (fun b u e=>?_) I.bare
 ·obtain⟨_,g1,g2,g3,g4,g5⟩:=hf b hb;exact⟨g3,g1,g4,g5⟩
 ·obtain⟨o,es,ep,ho,r⟩:=hm;exact⟨o,es,ep,k _ o (fun z=>(hf _ z).2.1 rfl) ho,r⟩
 ·refine (I.aM b u e).hW (fun c v hc q=>k c v ?_ q) (fun _ q=>q) (fun _ _ q=>q) fun _ _ _ q=>q;rcases hc with z|z
  ·rw[z];exact nf b u e
  ·exact nf c _ z
theorem Inv.vL{t':Nat}(I:Inv X pins σ H s)(hf:∀ b∈fp,i7 X pins H b)(hp:s.heap.objs.size<=p)(k:∀ b o,b∉fp->s.heap.get? b=some o->h'.get? b=some o)
  (new:bu X.prog X.w (upd H p o) h' p o):Inv X pins σ (upd H p o) {s with heap:=h',toks:=t'}:=by
 have nf:∀ b u,H b=some u->b∉fp:=fun b u e z=>by rw[(hf b z).1] at e;cases e
 have fr:H p=none:=I.aM.fresh hp;have np:∀ b u,H b=some u->b≠p:=fun b u e=>aw e fr;have ne:∀ b o,s.heap.get? b=some o->b≠p:=fun b o e z=>by rw[z] at e;exact absurd (EO (ER e) hp) (F_ _)
 refine I.step (g':=s.gens) (d':=s.drawn) (ch:=fp) (fun b hb=>?_) (fun b o _ _ hc e _=>k b o hc e) (fun b o _ _ hc e _=>⟨o.slots,k b o hc e⟩) (fun b o _ e n=>by rw[af (ne b o e)];exact n)
  (fun b o hc e=>⟨o,k b o hc e⟩) (fun b xs e=>by rw[af (np b _ e)];exact e) (fun b o u e=>by rw[af (np b _ e)];exact e) (fun b ps e=>⟨#[],by rw[af (np b _ e),e];simp⟩) (fun m hm=>?_) (fun b u e=>?_) I.bare
 ·obtain⟨_,g1,g2,g3,g4,g5⟩:=hf b hb;exact⟨g3,g1,g4,g5⟩
 ·obtain⟨o,es,ep,ho,r⟩:=hm;exact⟨o,es,ep,k _ o (fun z=>(hf _ z).2.1 rfl) ho,r⟩
 ·by_cases hb:b=p
  ·subst hb;rw[ae] at e;cases e;exact new
  ·rw[af hb] at e;refine (I.aM b u e).hW (fun c v hc q=>k c v ?_ q) (fun c q=>by rw[af (np c _ q)];exact q) (fun c xs q=>by rw[af (np c _ q)];exact q) fun c _ _ q=>by rw[af (np c _ q)];exact q
   rcases hc with z|z
   ·rw[z];exact nf b u e
   ·exact nf c _ z
end
section
variable {X:Cx} {es:List Expr} {tk:Nat} {tp:Pos}
noncomputable def sf(K:Ih)(tl:TE):TI:=fun σ H R=>tl σ H fun x H1=>match x with
 |.ref a=>match sq H1 a with
  |some (true,_)=>R (nU K a) H1
  |some (false,_)=>R (tD K a) H1
  |none=>(∃ xs,b6 K H1 a xs)/\R (tD K a) H1
 |_=>False
theorem zq(hl:PE X l tl):PI X tg l (sf X.K tl):=by
 intro pins s σ H R I h;refine bg (hl pins s σ H _ I h) fun v s1 hq2=>?_;obtain⟨x,H1,I1,r1,q1⟩:=hq2;obtain⟨a,rfl,q⟩:∃ a,x=V.ref a/\(((∃ xs,a_ X.K H1 a xs)/\R (nU X.K a) H1)\/((∃ xs,b6 X.K H1 a xs)/\R (tD X.K a) H1)):=by
  match x,q1 with
  |.ref a,q1 =>
   simp only at q1
   split at q1
   ·rename_i xs e;exact⟨a,rfl,.inl ⟨⟨xs,fC e⟩,q1⟩⟩
   ·rename_i xs e;exact⟨a,rfl,.inr ⟨⟨xs,eU e⟩,q1⟩⟩
   ·exact⟨a,rfl,.inr q1⟩
 cases r1;rcases q with ⟨⟨xs,hq⟩,q⟩|⟨⟨xs,hq⟩,q⟩
 ·obtain⟨ah,rv,p,hz⟩:=I1.list hq;refine FZ p.isList ?_;refine⟨s1.heap.objs.size,[s1.heap.objs.size],_,_,H1,rfl,I1.kept (t':=s1.toks) fun b o e=>EC _ e,iP a _,⟨_,EV _ rfl,rfl,rfl⟩,fun b hb=>?_,q⟩;have e:b=s1.heap.objs.size:=by simpa using hb
  subst e;exact I1.oX (EH _) (I1.aM.fresh (EH _))
 ·obtain⟨ah,rv,p,hz⟩:=I1.tuple hq;refine Gf (show s1.heap.IsTuple a ah.toArray from p) ?_;refine⟨s1.heap.objs.size,[s1.heap.objs.size],_,_,H1,rfl,I1.kept (t':=s1.toks) fun b o e=>EC _ e,gW a _,⟨_,EV _ rfl,rfl,rfl⟩,fun b hb=>?_,q⟩;have e:b=s1.heap.objs.size:=by simpa using hb
  subst e;exact I1.oX (EH _) (I1.aM.fresh (EH _))
end
noncomputable def zu(J:It)(g:TG)(tb:TS)(D:Ends)(σ:St)(H:Hp):Prop:=∃ W:Nat->Nat->St->Hp->Prop,(∃ m,W 0 m σ H)/\∀ i m σ H,W i m σ H ->
 (J.stop i H/\D.nx σ H)\/(J.go i H/\∃ N:St->Hp->Prop,(∀ σ' H',N σ' H'->∃ m',m'<m/\W (i+1) m' σ' H')/\∀ x H',J.tJ i H x H'->g x σ H' fun σ2 H2=>tb {D with nx:=N,ct:=N,bk:=D.nx} σ2 H2)
theorem vq(wi:TI)(g:TG)(tb:TS)(D:Ends)(σ:St)(H:Hp):yk wi g tb D σ H=wi σ H fun J H1=>zu J g tb D σ H1:=rfl
noncomputable def sN(J:It)(k:Nat)(g:TG)(tc:TT)(te:TE)(Q:VK)(σ:St)(H1:Hp):Prop:=∀ D,H1 D=none ->
 ∃ W:Nat->Nat->List V->St->Hp->Prop,(∃ m,W 0 m [] (List.replicate k none++σ) (upd H1 D (.lst [])))/\∀ i m ys σ' H',W i m ys σ' H'->H' D=some (.lst ys) /\
  ((J.stop i H'/\Q (.ref D) H')\/(J.go i H'/\ys.length<sizeLine/\∀ x H2,J.tJ i H' x H2->g x σ' H2 fun σ3 H3=>tc σ3 H3 fun b H4 =>
   if b=true then te σ3 H4 fun v H5=>H5 D=some (.lst ys)/\∃ m',m'<m/\W (i+1) m' (ys++[v]) σ3 (upd H5 D (.lst (ys++[v])))
   else ∃ m',m'<m/\W (i+1) m' ys σ3 H4))
theorem qd(wi:TI)(k:Nat)(g:TG)(tc:TT)(te:TE)(σ:St)(H:Hp)(Q:VK):iT wi k g tc te σ H Q=wi σ H fun J H1=>sN J k g tc te Q σ H1:=rfl
section
variable {K:Ih} {g:TG} {tb:TS} {D:Ends} {σ:St} {H:Hp} {te:TE} {Q:VK}
theorem iV(Pv:Nat->St->Hp->Prop)(h0:Pv 0 σ H)(hl:∀ i σ H,i<=xs.length->Pv i σ H->a_ K H a xs)
  (hs:∀ i x σ H,xs[i]?=some x->Pv i σ H->g x σ H fun σ2 H2=>tb {D with nx:=Pv (i+1),ct:=Pv (i+1),bk:=D.nx} σ2 H2) (hd:∀ σ H,Pv xs.length σ H->D.nx σ H):zu (nU K a) g tb D σ H:=qU Pv h0 hl hs hd
theorem hU{lo:Int}(Pv:Nat->St->Hp->Prop)(h0:Pv 0 σ H)
  (hs:∀ i σ H,i<n->Pv i σ H->g (.int (lo+i)) σ H fun σ2 H2=>tb {D with nx:=Pv (i+1),ct:=Pv (i+1),bk:=D.nx} σ2 H2) (hd:∀ σ H,Pv n σ H->D.nx σ H):zu (t5 lo n) g tb D σ H:=pH Pv h0 hs hd
end
namespace Ap
theorem lP(i:Nat)(σ:St)(H:Hp)(Q:VK):L2.lP i σ H Q=∃ v,σ[i]?=some (some v)/\Q v H:=rfl
theorem tC(v:V)(σ:St)(H:Hp)(Q:VK):L2.tC v σ H Q=Q v H:=rfl
theorem pq(r:R2)(ta tb:TE)(σ:St)(H:Hp)(Q:VK):L2.pq r ta tb σ H Q=ta σ H fun x H1=>tb σ H1 fun y H2=>r x y H2 Q:=rfl
theorem AW(r:V->Hp->VK->Prop)(ta:TE)(σ:St)(H:Hp)(Q:VK):L2.AW r ta σ H Q=ta σ H fun x H1=>r x H1 Q:=rfl
theorem jk(t:TE)(σ:St)(H:Hp)(Q:Bool->Hp->Prop):L2.jk t σ H Q=t σ H fun x H'=>∃ k,x=.bl k/\Q k H':=rfl
theorem oY(t u:TT)(σ:St)(H:Hp)(Q:Bool->Hp->Prop):L2.oY t u σ H Q=t σ H fun c H1=>if c=true then u σ H1 Q else Q false H1:=rfl
theorem zQ(t u:TT)(σ:St)(H:Hp)(Q:Bool->Hp->Prop):L2.zQ t u σ H Q=t σ H fun c H1=>if c=true then Q true H1 else u σ H1 Q:=rfl
theorem sP(t:TT)(σ:St)(H:Hp)(Q:Bool->Hp->Prop):L2.sP t σ H Q=t σ H fun c H1=>Q (!c) H1:=rfl
theorem tK(vs:List V)(σ:St)(H:Hp)(Q:List V->Hp->Prop):L2.tK vs σ H Q=Q vs H:=rfl
theorem lM(σ:St)(H:Hp)(Q:List V->Hp->Prop):L2.lM σ H Q=Q [] H:=rfl
theorem iy(ta:TE)(tr:TA)(σ:St)(H:Hp)(Q:List V->Hp->Prop):L2.iy ta tr σ H Q=ta σ H fun x H1=>tr σ H1 fun xs H2=>Q (x::xs) H2:=rfl
theorem sG(t:TA)(σ:St)(H:Hp)(Q:VK):L2.sG t σ H Q=t σ H fun xs H1=>xs.length<=sizeLine/\∀ p,H1 p=none->Q (.ref p) (upd H1 p (.tup xs)):=rfl
theorem pk(t:TA)(σ:St)(H:Hp)(Q:VK):L2.pk t σ H Q=t σ H fun xs H1=>xs.length<=sizeLine/\∀ p,H1 p=none->Q (.ref p) (upd H1 p (.lst xs)):=rfl
theorem ik(sp:Sp)(dvs:List V)(E:XK)(t:TA)(σ:St)(H:Hp)(Q:VK):L2.ik sp dvs E t σ H Q=t σ H fun vs H1=>sp (vs++dvs) H1 Q E:=rfl
theorem t6(r:List V->Hp->VK->Prop)(t:TA)(σ:St)(H:Hp)(Q:VK):L2.t6 r t σ H Q=t σ H fun vs H1=>r vs H1 Q:=rfl
theorem zS(K:Ih)(T:String)(r:V->List V->Hp->VK->Prop)(to:TE)(t:TA)(σ:St)(H:Hp)(Q:VK):L2.zS K T r to t σ H Q=to σ H fun x H1=>DT K T x H1/\t σ H1 fun xs H2=>r x xs H2 Q:=rfl
theorem Ca(r:V->Option Int->Option Int->Hp->VK->Prop)(te:TE)(tl th:TO)(σ:St)(H:Hp)(Q:VK):L2.Ca r te tl th σ H Q=te σ H fun x H1=>tl σ H1 fun l H2=>th σ H2 fun u H3=>r x l u H3 Q:=rfl
theorem eZ(σ:St)(H:Hp)(Q:Option Int->Hp->Prop):L2.eZ σ H Q=Q none H:=rfl
theorem kD(t:TE)(σ:St)(H:Hp)(Q:Option Int->Hp->Prop):L2.kD t σ H Q=t σ H fun x H1=>∃ i,x=.int i/\Q (some i) H1:=rfl
theorem lj(te:TE)(g:TG)(D:Ends)(σ:St)(H:Hp):L2.lj te g D σ H=te σ H fun x H1=>g x σ H1 D.nx:=rfl
theorem bU(i:Nat)(v:V)(σ:St)(H:Hp)(Q:St->Hp->Prop):L2.bU i v σ H Q=Q (σ.set i (some v)) H:=rfl
theorem oK(to ti:TE)(t:sJ)(v:V)(σ:St)(H:Hp)(Q:St->Hp->Prop):L2.oK to ti t v σ H Q=to σ H fun o H1=>ti σ H1 fun i H2=>t o i v H2 fun H3=>Q σ H3:=rfl
theorem qp(te:TE)(D:Ends)(σ:St)(H:Hp):L2.qp te D σ H=te σ H D.rt:=rfl
theorem kP(te:TE)(D:Ends)(σ:St)(H:Hp):L2.kP te D σ H=te σ H fun _ H1=>D.nx σ H1:=rfl
theorem sv(c:TT)(t u:TS)(D:Ends)(σ:St)(H:Hp):L2.sv c t u D σ H=c σ H fun b H1=>if b=true then t D σ H1 else u D σ H1:=rfl
theorem kH(D:Ends)(σ:St)(H:Hp):L2.kH D σ H=D.nx σ H:=rfl
theorem jj(ta:TA)(σ:St)(H:Hp)(R:It->Hp->Prop):L2.jj ta σ H R=ta σ H fun vs H1=>∃ j:Int,vs=[.int j]/\-(2^62)<=j/\j<2^62/\R (t5 0 j.toNat) H1:=rfl
theorem sf(K:Ih)(tl:TE)(σ:St)(H:Hp)(R:It->Hp->Prop):L2.sf K tl σ H R=tl σ H fun x H1=>match x with
 |.ref a=>match sq H1 a with
  |some (true,_)=>R (nU K a) H1
  |some (false,_)=>R (tD K a) H1
  |none=>(∃ xs,b6 K H1 a xs)/\R (tD K a) H1
 |_=>False:=rfl
theorem pR(g:Int->Int->V)(i j:Int)(H:Hp)(Q:VK):L2.pR g (.int i) (.int j) H Q=Q (g i j) H:=by
 refine propext ⟨fun hq3=>?_,fun h=>⟨i,j,rfl,rfl,h⟩⟩;obtain⟨a,b,e1,e2,h⟩:=hq3
 cases e1;cases e2;exact h
theorem rU(g:Int->V)(i:Int)(H:Hp)(Q:VK):L2.rU g (.int i) H Q=Q (g i) H:=by
 refine propext ⟨fun hq4=>?_,fun h=>⟨i,rfl,h⟩⟩;obtain⟨a,e1,h⟩:=hq4
 cases e1;exact h
theorem A9(K:Ih)(i j:Int)(H:Hp)(Q:VK):kE K (.int i) (.int j) H Q=Q (.int (i+j)) H:=rfl
theorem se(i j:Int)(H:Hp)(Q:VK):Ag (.int i) (.int j) H Q=Q (.bl (decide (i=j))) H:=by
 have e:decide (V.int i=V.int j)=decide (i=j):=by rw[decide_eq_decide];constructor<;>intro h<;>(try cases h)<;>(try rw[h])<;>rfl
 unfold Ag;rw[e];exact propext ⟨fun h=>h.2,fun h=>⟨rfl,h⟩⟩
theorem Dj(K:Ih)(b:Bool)(H:Hp)(k:Bool):pf K (.bl b) H k=(k=b):=rfl
theorem D5(K:Ih)(i:Int)(H:Hp)(k:Bool):pf K (.int i) H k=(k=(i != 0)):=rfl
end Ap
noncomputable def KB(ex:List Addr)(H H':Hp):Prop:=∀ b o,H b=some o->b∉ex->H' b=some o
theorem KB.refl(ex:List Addr)(H:Hp):KB ex H H:=fun _ _ e _=>e
theorem KB.trans{H2:Hp}(a:KB ex H H1)(b:KB ex H1 H2):KB ex H H2:=fun c o e n=>b c o (a c o e n) n
theorem KB.mono{ex':List Addr}(h:KB ex H H')(s:∀ b∈ex,b∈ex'):KB ex' H H':=fun b o e n=>h b o e fun z=>n (s b z)
theorem KB.all(h:KB [] H H'):KB ex H H':=h.mono (by simp)
theorem KB.new(h:H p=none):KB ex H (upd H p o):=fun b u e _=>by rw[af (aw e h)];exact e
theorem KB.set(h:p∈ex):KB ex H (upd H p o):=fun b u e n=>by rw[af (fun (z:b=p)=>n (by rw[z];exact h))];exact e
theorem KB.free(h:KB ex H H'){b:Addr}(n:b∉ex)(e:H' b=none):H b=none:=by
 cases q:H b with
 |none=>rfl
 |some o=>rw[h b o q n] at e;cases e
theorem KB.DM(h:KB ex H H')(n:a∉ex)(q:a_ K H a xs):a_ K H' a xs:=by
 rcases q with (q|⟨o,q⟩)|q
 ·exact .inl (.inl (h _ _ q n))
 ·exact .inl (.inr ⟨o,h _ _ q n⟩)
 ·exact .inr q
theorem ow(x:α)(r:List α):bN (x::r) 0=some x:=cA (j:=0) rfl
theorem Cj(a x:α)(r:List α):bN (a::x::r) 1=some x:=cA (j:=1) rfl
theorem y4(a b x:α)(r:List α):bN (a::b::x::r) 2=some x:=cA (j:=2) rfl
theorem Aw(a b c x:α)(r:List α):bN (a::b::c::x::r) 3=some x:=cA (j:=3) rfl
theorem yF{i:Int}(h0:0<=i)(h:i<n):i3 n i=some i.toNat:=by unfold i3;rw[EI h0,EI h]
namespace Ap
theorem kT(K:Ih)(p:Addr)(i:Int)(H:Hp)(Q:VK):xW K (.ref p) (.int i) H Q=(match sq H p with
  |some (_,xs)=>(match bN xs i with|some v=>Q v H|none=>False)
  |none=>∃ xs v,b6 K H p xs/\bN xs i=some v/\Q v H):=rfl
theorem setRef(p:Addr)(k:Int)(v:V)(H:Hp)(Q:Hp->Prop):rR (.ref p) (.int k) v H Q=(match H p with
  |some (.lst xs)=>(match i3 xs.length k with|some j=>Q (upd H p (.lst (xs.set j v)))|none=>False)
  |_=>False):=rfl
theorem sI(K:Ih)(p:Addr)(H:Hp)(Q:VK):uD K [.ref p] H Q=(match sq H p with
  |some (_,ys)=>Q (.int ys.length) H
  |none=>∃ ys,b6 K H p ys/\Q (.int ys.length) H):=rfl
theorem Bz(i j:Int)(H:Hp)(Q:VK):yt [.int i,.int j] H Q=Q (.int (if j<i then j else i)) H:=rfl
theorem Bd(K:Ih)(p:Addr)(lo hi:Option Int)(H:Hp)(Q:VK):yq K (.ref p) lo hi H Q=(match sq H p with
  |some (true,xs)=>∀ q,H q=none->Q (.ref q) (upd H q (.lst (gY xs lo hi)))
  |some (false,xs)=>oG K (.ref p) lo hi H Q
  |none=>oG K (.ref p) lo hi H Q):=rfl
theorem BK(K:Ih)(neg:Bool)(x:V)(p:Addr)(H:Hp)(Q:VK):Co K neg x (.ref p) H Q=(match sq H p with
  |some (_,xs)=>b9 x=true/\xs.all b9=true/\Q (.bl (if neg then !jY x xs else jY x xs)) H
  |none=>∃ xs,b6 K H p xs/\b9 x=true/\xs.all b9=true/\Q (.bl (if neg then !jY x xs else jY x xs)) H):=rfl
theorem addRef(K:Ih)(a b:Addr)(H:Hp)(Q:VK):kE K (.ref a) (.ref b) H Q=(match H a,H b with
  |some (.lst xs),some (.lst ys)=>xs.length+ys.length<=sizeLine/\∀ p,H p=none->Q (.ref p) (upd H p (.lst (xs++ys)))
  |some (.tup xs),some (.tup ys)=>xs≠[]/\ys≠[]/\xs.length+ys.length<=sizeLine/\∀ p,H p=none->Q (.ref p) (upd H p (.tup (xs++ys)))
  |_,_=>False):=rfl
theorem yi(H:Hp)(p:Addr)(xs:List V):sq (upd H p (.lst xs)) p=some (true,xs):=aI ae
theorem uU(H:Hp)(p:Addr)(xs:List V):sq (upd H p (.tup xs)) p=some (false,xs):=jv ae
end Ap
theorem bF{t u:TS}(h:∀ N,N=u D->t {D with nx:=N} σ H):yN t u D σ H:=h _ rfl
structure QE (X:Cx) (e:Expr) (t:TE):Prop where h:PE X e t
structure QT (X:Cx) (e:Expr) (t:TT):Prop where h:PT X e t
structure QW (X:Cx) (e:Expr) (t:TT):Prop where h:PW X e t
structure QA (X:Cx) (es:List Expr) (t:TA):Prop where h:PA X es t
structure QS (X:Cx) (st:Stmt) (t:TS):Prop where h:PS X st t
structure QB (X:Cx) (sts:List Stmt) (t:TS):Prop where h:nJ X sts t
structure QI (X:Cx) (tg it:Expr) (t:TI):Prop where h:PI X tg it t
structure QG (X:Cx) (e:Expr) (t:TG):Prop where h:PG X e t
structure Am (X:Cx) (es:List Expr) (t:pD):Prop where h:zY X es t
structure QO (X:Cx) (e:Option Expr) (t:TO):Prop where h:PO X e t
structure By (X:Cx) (es:List Expr) (t:TT):Prop where h:AU X es t
namespace Z
noncomputable def sim(b:Expr):Bool:=match b with
 |.Name .. |.Constant .. |.Call .. |.BinOp .. |.Subscript .. |.Attribute .. |.UnaryOp .. |.Compare .. |.IfExp ..=>true
 |_=>false
theorem Ez{b:Expr}(h:sim b=true):mG b:=by
 cases b<;>first | (intro _ _;rfl)|cases h
noncomputable def CC(b:Expr):Bool:=match b with
 |.Name .. |.Call .. |.Subscript .. |.Attribute ..=>true
 |_=>false
theorem ptr{b:Expr}(h:CC b=true):∀ whole,isTrue b env whole=(do let v <- whole;standAt b.pos;holding [v] (truthy v)):=by
 cases b<;>first | (intro _;rfl)|cases h
noncomputable def za(b:Expr):Bool:=match b with
 |.ListComp .. |.SetComp .. |.DictComp ..=>false
 |_=>true
theorem Ei{b:Expr}{tg:Option Expr}{l:Nat}(h:za b=true):swapsWith b tg l env=pure false:=by
 cases b<;>first|rfl|cases h
section
variable {X:Cx}
theorem ib(K:Ih)(hK:X.K=K):bZ X (binaryOp .Add) (kE K):=by subst hK;exact uX
theorem Dn(K:Ih)(hK:X.K=K)(hu:k<cLine):bZ X (compareOp .In) (Co K false):=by subst hK;exact yw hu
theorem c_(K:Ih)(hK:X.K=K)(hu:k<cLine):lK X (xW K):=by subst hK;exact Eu hu
theorem CO(K:Ih)(hK:X.K=K):mT X (yq K):=by subst hK;exact vT
theorem iN(K:Ih)(hK:X.K=K):aP X (.builtin "len") (uD K):=by subst hK;exact oZ
theorem xA(K:Ih)(hK:X.K=K):aP X (.builtin "len") (fun xs H Q=>∃ x n,xs=[x]/\Ad K x H n/\Q (.int n) H):=by subst hK;exact fB
theorem AI(K:Ih)(hK:X.K=K):aP X (.builtin "isinstance") (lu K):=by subst hK;exact oB
end
section
variable {X:Cx} {a b c e o:Expr} {es:List Expr} {ta tb tc te to:TE} {t:TA} {pos p p2:Pos} {tA tB':TT} {rest:List Expr} {x:Str}
theorem int{i:Int}:QE X (.Constant (.int i) j pos) (tC (.int i)):=⟨sR⟩
theorem bl{i:Bool}:QE X (.Constant (.bool i) j pos) (tC (.bl i)):=⟨wO⟩
theorem ay:QE X (.Constant .none j pos) (tC .ay):=⟨qR⟩
theorem str{i:Str}:QE X (.Constant (.str i) j pos) (tC (.str i)):=⟨si⟩
theorem v(i:Nat)(hN:autoParam (X.N[i]?=some x) ℜ0)(hv:autoParam (zI X.env.scope x) ℜ4)(hd:autoParam ((x ==("__debug__":Str))=false) ℜ1)
  (hcd:autoParam ((x ==("__classdict__":Str))=false) ℜ1):QE X (.Name x pos) (lP i):=⟨pv i hN hv hd hcd⟩
theorem glob{w:V}{u:Value}(hg:Gl X x)(hm:X.mg x=some u)(r:RelV w u)(hd:autoParam ((x ==("__debug__":Str))=false) ℜ1):QE X (.Name x pos) (tC w):=⟨mY hg hm r hd⟩
theorem op{o:Operator}{r:R2}(ho:bZ X (binaryOp o) r)(ha:QE X a ta)(hb:QE X b tb):QE X (.BinOp a o b pos) (pq r ta tb):=⟨Ci ho ha.h hb.h⟩
theorem un{o:UnaryOp}{r:V->Hp->VK->Prop}(ho:CD X (unaryOp o) r)(ha:QE X a ta):QE X (.UnaryOp o a pos) (AW r ta):=⟨AV ho ha.h⟩
theorem cmp{o:CmpOp}{r:R2}(ho:bZ X (compareOp o) r)(ha:QE X a ta)(hb:QE X b tb)(hm:autoParam (behindInMarks o b=false) ℜ0):QE X (.Compare a [o] [b] pos) (pq r ta tb):=⟨wb ho ha.h hb.h hm⟩
theorem and(ha:QE X a ta)(hb:QE X (.BoolOp .And (b::rest) pos) tb):QE X (.BoolOp .And (a::b::rest) pos) (wI ta tb):=⟨xw ha.h hb.h⟩
theorem one{o:BoolOp}(ha:QE X a ta):QE X (.BoolOp o [a] pos) ta:=⟨yL ha.h⟩
theorem not(ha:QE X a ta):QE X (.UnaryOp .Not a pos) (w_ ta):=⟨yM ha.h⟩
theorem Cr(hc:QT X c tA)(ha:QE X a ta)(hb:QE X b tb):QE X (.IfExp c a b pos) (Eg tA ta tb):=⟨qT hc.h ha.h hb.h⟩
theorem slice{r:V->Option Int->Option Int->Hp->VK->Prop}{tl th:TO}(hr:mT X r)(he:QE X e te)(hl:QO X lo tl)(hu:QO X hi th):QE X (.Subscript e (.Slice lo hi none p2) pos) (Ca r te tl th):=⟨qB hr he.h hl.h hu.h⟩
theorem t4:QO X none eZ:=⟨vC⟩
theorem tE(he:QE X e te):QO X (some e) (kD te):=⟨uW he.h⟩
theorem ix{r:R2}(hr:lK X r)(ha:QE X a ta)(hb:QE X b tb)(hs:autoParam (sim b=true) ℜ0):QE X (.Subscript a b pos) (pq r ta tb):=⟨Aq hr ha.h hb.h (Ez hs)⟩
theorem tup(h:QA X es t):QE X (.Tuple es k pos) (sG t):=⟨zf h.h⟩
theorem lst(h:QA X es t):QE X (.List es pos) (pk t):=⟨xM h.h⟩
theorem nil:QA X [] lM:=⟨sT⟩
theorem cons(ha:QE X e te)(hr:QA X es t)(h:autoParam (cN e=true) ℜ0):QA X (e::es) (iy te t):=⟨CT ha.h hr.h h⟩
theorem consts(h:jc es=some vs):QA X es (tK vs):=⟨iY h⟩
theorem cb{id:String}(hc:aP X (.builtin id) r)(hg:Gl X x)(hm:X.mg x=none)(hv:bootBuiltins x=some (.builtin id))(ha:QA X (e::es) t)(h1:autoParam (cN e=true) ℜ0)(h2:autoParam (es.all cN=true) ℜ0)(hn:autoParam (x≠"__name__") ℜ1)(hdb:autoParam ((x ==("__debug__":Str))=false) ℜ1):
  QE X (.Call (.Name x p) (e::es) [] pos) (t6 r t):=⟨Cc hc hg hm hv ha.h h1 h2 hn hdb⟩
theorem ct{T:String}(hc:aP X (.type T) r)(hg:Gl X x)(hm:X.mg x=none)(hv:bootBuiltins x=some (.type T))(ha:QA X (e::es) t)(h1:autoParam (cN e=true) ℜ0)(h2:autoParam (es.all cN=true) ℜ0)(hn:autoParam (x≠"__name__") ℜ1)(hdb:autoParam ((x ==("__debug__":Str))=false) ℜ1):
  QE X (.Call (.Name x p) (e::es) [] pos) (t6 r t):=⟨A_ hc hg hm hv ha.h h1 h2 hn hdb⟩
theorem Eh{T:String}(hg:Gl X x)(hm:X.mg x=none)(hv:bootBuiltins x=some (.type T))(hn:autoParam (x≠"__name__") ℜ1)(hd:autoParam ((x ==("__debug__":Str))=false) ℜ1):QE X (.Name x pos) (tC (.ty T)):=⟨yQ hg hm hv hn hd⟩
theorem fn{CX:ke}{ps:List Str}{E:XK}(F:aj X.prog X.w X.K X.mg X.base CX k x ps sp)(hr:aY k X.A)(hg:Gl X x)(hx:Passes CX X E)(ha:QA X (e::es) t)(h1:autoParam (cN e=true) ℜ0)(h2:autoParam (es.all cN=true) ℜ0)(hdb:autoParam ((x ==("__debug__":Str))=false) ℜ1):
  QE X (.Call (.Name x p) (e::es) [] pos) (ik sp [] E t):=⟨AG F hr hg hx ha.h h1 h2 hdb⟩
theorem bm(K:Ih)(hK:X.K=K){apos:Pos}{T id:String}{r:V->List V->Hp->VK->Prop}(pa:PlainAttrs T)(slot:Slot T name id)(hty:typeOf (.builtin id)=pure (.type "method_descriptor"))(hm:Bh X id r)(ho:QE X o to)(ha:QA X (e::es) t)
  (hbase:autoParam (attributeBase o name X.env (eval o X.env)=eval o X.env) ℜ0) (hline:autoParam ((apos.endLine == pos.line)=true) ℜ0) (h:autoParam ((e::es).all cN=true) ℜ0) (hl:autoParam ((e::es).length<30) ℜ1):QE X (.Call (.Attribute o name apos) (e::es) [] pos) (zS K T r to t):=by
 subst hK;exact⟨yf pa slot hty hm ho.h ha.h hbase hline h hl⟩
theorem comp{own:List Str}{g:TG}{tc:TT}(S:df osc ON scope own N)(hosc:X.env.scope=osc)(hON:X.N=ON)(hc:X.calm=true)(hi:QI X tg iter wi)
  (hg:∀ C s H fp,QG (aQ X scope N C s H fp) tg g) (ht:∀ C s H fp,By (aQ X scope N C s H fp) ifs tc) (he:∀ C s H fp,QE (aQ X scope N C s H fp) elt te) (hs:autoParam (∀ x,foldedSetIterable iter X.env x=pure x) ℜ3) :
  QE X (.ListComp elt [⟨tg,iter,ifs,0⟩] scope pos) (iT wi own.length g tc te):=⟨tU S hosc hON hc hi.h (fun C s H fp=>(hg C s H fp).h) (fun C s H fp=>(ht C s H fp).h) (fun C s H fp=>(he C s H fp).h) hs⟩
theorem aZ{o:CmpOp}{r:R2}(ho:bZ X (compareOp o) r)(ha:QE X a ta)(hb:QE X b tb)(hm:autoParam (behindInMarks o b=false) ℜ0):QT X (.Compare a [o] [b] pos) (jk (pq r ta tb)):=⟨uf ho ha.h hb.h hm⟩
theorem tw(h:QW X e tA):QT X e tA:=⟨h.h.pt⟩
theorem iD(ha:QT X a tA):QT X (.UnaryOp .Not a pos) (sP tA):=⟨yb ha.h⟩
noncomputable def vX(K:Ih)(ta:TE):TT:=fun σ H Q=>ta σ H fun x H'=>∃ k,pf K x H' k/\Q k H'
theorem j7(K:Ih)(hK:X.K=K)(ha:QE X a ta)(he:autoParam (CC a=true) ℜ0):QT X a (vX K ta):=by subst hK;exact⟨sx ha.h (ptr he)⟩
theorem nN(ha:QT X a tA):QW X (.BoolOp .And [a] pos) tA:=⟨vQ ha.h⟩
theorem j3(ha:QT X a tA):QW X (.BoolOp .Or [a] pos) tA:=⟨xn ha.h⟩
theorem tO(ha:QT X a tA)(hb:QW X (.BoolOp .And (b::rest) pos) tB'):QW X (.BoolOp .And (a::b::rest) pos) (oY tA tB'):=⟨xo ha.h hb.h⟩
theorem tY(ha:QT X a tA)(hb:QW X (.BoolOp .Or (b::rest) pos) tB'):QW X (.BoolOp .Or (a::b::rest) pos) (zQ tA tB'):=⟨BW ha.h hb.h⟩
theorem bW(hN:X.N.Nodup)(hi:X.N[i]?=some x)(hx:Loc X.env.scope x)(hf:autoParam (X.fn x=true\/X.env.scope.names.lookup x=some .local) ℜ2):QG X (.Name x pos) (bU i):=⟨vB hN hi hx hf⟩
theorem xc(K:Ih)(hK:X.K=K){tg:pD}(hc:X.calm=true)(h:Am X es tg)(hn:autoParam ((assignEach es X.env).length=n) ℜ0)(hst:autoParam ((assignEach es X.env).findIdx? (·.1)=none) ℜ0):QG X (.Tuple es k pos) (wa K n tg):=by subst hK;exact⟨rG hc h.h hn hst⟩
theorem mW:Am X [] tZ:=⟨u_⟩
theorem eM{g:TG}{u:pD}(h1:QG X e g)(h2:Am X es u)(hs:autoParam ((assignEach (e::es) X.env).map (·.2)=assign e X.env::(assignEach es X.env).map (·.2)) ℜ0):Am X (e::es) (iJ g u):=⟨rO h1.h h2.h hs⟩
theorem lL{i:Expr}{ti:TE}(ho:QE X o to)(hi:QE X i ti)
  (ha:autoParam (∀ v,assign (.Subscript o i pos) X.env v=(do
   let ov <- holding [v] (eval o X.env)
   let iv <- holding [v,ov] (eval i X.env)
   standAt pos
   holding [v,ov,iv] (setItem ov iv v)
   release [v,ov,iv] [])) ℜ3):QG X (.Subscript o i pos) (oK to ti rR):=⟨rC ho.h hi.h uset ha⟩
theorem rD{ta:TA}(hg:Gl X "range")(hm:X.mg "range"=none)(ha:QA X [a] ta)(h:autoParam (cN a=true) ℜ0):QI X tg (.Call (.Name "range" p) [a] [] pos) (jj ta):=⟨lZ hg hm ha.h h⟩
theorem any(K:Ih)(hK:X.K=K)(hl:QE X l tl):QI X tg l (sf K tl):=by subst hK;exact⟨zq hl.h⟩
theorem wg:By X [] kG:=⟨vf⟩
theorem Dr(h:QT X c tA):By X [c] tA:=⟨vd h.h⟩
end
section
variable {X:Cx} {e o tg:Expr} {te to:TE} {st:Stmt} {sts xs ys:List Stmt} {t u:TS} {pos pos':Pos} {x:Str}
theorem bM:QB X [] kH:=⟨tP⟩
theorem aE(h:QS X st t):QB X [st] t:=⟨vi h.h⟩
theorem ao(h:QS X st t)(h2:QB X sts u):QB X (st::sts) (yN t u):=⟨p_ h.h h2.h⟩
theorem set(hN:X.N.Nodup)(hi:X.N[i]?=some x)(hx:Loc X.env.scope x)(he:QE X e te)(hs:autoParam (za e=true) ℜ0)(hf:autoParam (X.fn x=true\/X.env.scope.names.lookup x=some .local) ℜ2):
  QS X (.Assign [.Name x pos'] e pos) (lj te (bU i)):=⟨xH hN hi hx he.h (Ei hs) hf⟩
theorem asg{g:TG}(he:QE X e te)(hg:QG X tg g)(hs:autoParam (swapsWithSole [tg] e pos.line X.env=pure false) ℜ0)(hw:autoParam (swappedStores [tg] e X.env=pure none) ℜ0)
  (h1:autoParam ((assignEach [tg] X.env).map (·.2)=[assign tg X.env]) ℜ0):QS X (.Assign [tg] e pos) (lj te g):=⟨xV he.h hg.h hs hw h1⟩
theorem ret(he:QE X e te):QS X (.Return (some e) pos) (qp te):=⟨zA he.h⟩
theorem expr(he:QE X e te)(hs:autoParam (za e=true) ℜ0):QS X (.Expr e pos) (kP te):=⟨vV he.h (Ei hs)⟩
theorem fh{c:Expr}(hc:QT X c tc)(ha:QB X xs t)(hb:QB X ys u):QS X (.If c xs ys pos) (sv tc t u):=⟨BO hc.h ha.h hb.h⟩
theorem kY{g:TG}(hp:PassesOwn (model X.prog X.w) X.A X.env X.xe)(hc:X.calm=true)(hi:QI X tg iter wi)(hg:QG X tg g)(hb:QB X xs t)(hs:autoParam (∀ x,foldedSetIterable iter X.env x=pure x) ℜ3):QS X (.For tg iter xs [] pos) (yk wi g t):=⟨xG hp hc hi.h hg.h hb.h hs⟩
end
end Z
namespace Ap
theorem vX(K:Ih)(ta:TE)(σ:St)(H:Hp)(Q:Bool->Hp->Prop):L2.Z.vX K ta σ H Q=ta σ H fun x H'=>∃ k,pf K x H' k/\Q k H':=rfl
end Ap
theorem HasFn.C1{ps:List Str}(F:HasFn K mg x st ps)(S:av N ps (aa st))(len:∀ vs H Q E,sp vs H Q E->vs.length=ps.length)
  (hbody:∀(f:Addr) (cdv:Value) (A:Around) (outer:List Env) (s:Shared) (H:Hp) (vs:List V) (Q:VK) (E:XK),aY k (A.deeper (envOfC x (aa st) s.heap.objs.size f cdv))->sp vs H Q E ->
   ∃ t,QB (dH aW P w K mg base N x (aa st) f cdv A outer s H E).pd (aG st) t/\t {nx:=fun _ H'=>Q .ay H',rt:=Q} (start N vs) H):aj P w K mg base aW (k+1) x ps sp:=
 F.ok S len fun f cdv A outer s H vs Q E hr h=>let ⟨t,q,r⟩:=hbody f cdv A outer s H vs Q E hr h;⟨t,q.h,r⟩
theorem vH{ps:List Str}(F:jn K x x st f fd)(S:av N ps (aa st))(len:∀ vs H Q E,sp vs H Q E->vs.length=ps.length)
  (hbody:∀(cdv:Value) (A:Around) (outer:List Env) (s:Shared) (H:Hp) (vs:List V) (Q:VK) (E:XK),aY k (A.deeper (envOfC x (aa st) s.heap.objs.size f cdv))->sp vs H Q E ->
   ∃ t,QB (dH aW P w K mg base N x (aa st) f cdv A outer s H E).pd (aG st) t/\t {nx:=fun _ H'=>Q .ay H',rt:=Q} (start N vs) H):aX P w K mg base aW (k+1) f fd ps sp:=
 F.ok S len fun cdv A outer s H vs Q E hr h=>let ⟨t,q,r⟩:=hbody cdv A outer s H vs Q E hr h;⟨t,q.h,r⟩
noncomputable def eQ(e:Addr)(cls:Value)(d:Option Addr)(h:Heap):Prop:=∃ o vs,h.get? e=some o/\o.cls=cls/\o.dict=d/\o.data=.fields vs
noncomputable def eS(c:Addr)(n:Nat)(h:Heap):Prop:=∃(ah:List Value) (m:Nat),h.get? c=some {cls:=.type "list",data:=.seq ah.toArray m}/\ah.length=n/\∀ v∈ah,∃(i:Int) (t:Tok),v=.int i t/\0<=i
inductive T where
 |il (n:Nat)|ay|bl (b:Bool)|int (i:Int)|str (x:Str)|tup (ts:List T)|lst (ts:List T)|eu (ts:List T)|jQ (lo hi:Int)|dW (ts:List T)|kf (ks:List Key) (ts:List T)|exc (c:Value) (f:Option (Str×Int))|adr (a:Addr)|ins (a c:Addr) (ks:List Str) (ts:List T)
variable{c:T}{args ts us:List T}
abbrev aB:=Addr->Prop
variable{B B' B1:aB}
noncomputable def zG(K:Ih)(a:Addr)(xs:List V):Prop:=∃(o:Obj) (ah:Array Value) (n:Nat),K.lookup a=some o/\o.cls=.type "tuple"/\o.data=.seq ah n/\ah.size<=sizeLine/\Vals xs ah.toList
noncomputable def Ew(K:Ih)(a:Addr)(xs:List V):Prop:=∃(o:Obj) (ah:Array Value) (n:Nat),K.lookup a=some o/\o.cls=.type "list"/\o.dict=none/\o.data=.seq ah n/\ah.size<=sizeLine/\Vals xs ah.toList
noncomputable def LB(K:Ih)(H:Hp)(B:aB)(a:Addr)(xs:List V):Prop:=(¬ B a/\Rd H a (.lst xs))\/Ew K a xs
mutual
inductive Rep (K:Ih) (H:Hp) (B:aB):V->T->Prop
 |ay:Rep K H B .ay .ay
 |bl (b:Bool):Rep K H B (.bl b) (.bl b)
 |int (i:Int):Rep K H B (.int i) (.int i)
 |str (x:Str):Rep K H B (.str x) (.str x)
 |tup {a:Addr} {vs:List V} {ts:List T} (n:¬ B a) (h:H a=some (.tup vs)) (r:ak K H B vs ts):Rep K H B (.ref a) (.tup ts)
 |dW {a:Addr} {vs:List V} {ts:List T} (h:zG K a vs) (r:ak K H B vs ts):Rep K H B (.ref a) (.dW ts)
 |lst {a:Addr} {vs:List V} {ts:List T} (n:¬ B a) (h:H a=some (.lst vs)) (r:ak K H B vs ts):Rep K H B (.ref a) (.lst ts)
 |eu {a:Addr} {vs:List V} {ts:List T} (h:LB K H B a vs) (r:ak K H B vs ts):Rep K H B (.ref a) (.eu ts)
 |jQ {a:Addr} {lo hi:Int} (n:¬ B a) (h:H a=some (.jQ lo hi)):Rep K H B (.ref a) (.jQ lo hi)
 |kf {a:Addr} {ks:List Key} {vs:List V} {ts:List T} (n:¬ B a) (h:Rd H a (.dK (ks.zip vs))) (l:ks.length=vs.length) (r:ak K H B vs ts):Rep K H B (.ref a) (.kf ks ts)
 |exc {a:Addr} {c:Value} (n:¬ B a) (h:H a=some (.ext (eQ a c none))):Rep K H B (.ref a) (.exc c none)
 |wm {a d:Addr} {c:Value} {x:Str} {i:Int} (n:¬ B a) (h:H a=some (.ext (eQ a c (some d)))) (m:¬ B d) (g:H d=some (.xd [(x,.int i)])):Rep K H B (.ref a) (.exc c (some (x,i)))
 |il {a:Addr} {n:Nat} (m:¬ B a) (h:H a=some (.ext (eS a n))):Rep K H B (.ref a) (.il n)
 |adr (a:Addr):Rep K H B (.ref a) (.adr a)
 |ins {a dx c:Addr} {ks:List Str} {vs:List V} {ts:List T} (n:¬ B a) (h:H a=some (.ins c dx (ks.zip vs))) (l:ks.length=vs.length) (r:ak K H B vs ts):Rep K H B (.ref a) (.ins a c ks ts)
inductive ak (K:Ih) (H:Hp) (B:aB):List V->List T->Prop
 |nil:ak K H B [] []
 |cons {v:V} {t:T} {vs:List V} {ts:List T} (h:Rep K H B v t) (r:ak K H B vs ts):ak K H B (v::vs) (t::ts)
end
section
variable {K:Ih} {H:Hp} {B:aB} {v:V}
theorem Rep.uI(h:Rep K H B v .ay):v=.ay:=by cases h;rfl
theorem Rep.pQ(h:Rep K H B v (.bl b)):v=.bl b:=by cases h;rfl
theorem Rep.bf{i:Int}(h:Rep K H B v (.int i)):v=.int i:=by cases h;rfl
theorem Rep.e9(h:Rep K H B v (.str x)):v=.str x:=by cases h;rfl
theorem Rep.tupI(h:Rep K H B v (.tup ts)):∃ a vs,v=.ref a/\¬ B a/\H a=some (.tup vs)/\ak K H B vs ts:=by cases h with|tup n h r=>exact⟨_,_,rfl,n,h,r⟩
theorem Rep.om(h:Rep K H B v (.dW ts)):∃ a vs,v=.ref a/\zG K a vs/\ak K H B vs ts:=by cases h with|dW h r=>exact⟨_,_,rfl,h,r⟩
theorem Rep.cW(h:Rep K H B v (.lst ts)):∃ a vs,v=.ref a/\¬ B a/\H a=some (.lst vs)/\ak K H B vs ts:=by cases h with|lst n h r=>exact⟨_,_,rfl,n,h,r⟩
theorem Rep.qM(h:Rep K H B v (.eu ts)):∃ a vs,v=.ref a/\LB K H B a vs/\ak K H B vs ts:=by cases h with|eu h r=>exact⟨_,_,rfl,h,r⟩
theorem Rep.mD(h:Rep K H B (.ref a) (.tup ts)):∃ vs,¬ B a/\H a=some (.tup vs)/\ak K H B vs ts:=by obtain⟨_,vs,e,r⟩:=h.tupI;cases e;exact⟨vs,r⟩
theorem Rep.Cf(h:Rep K H B (.ref a) (.lst ts)):∃ vs,¬ B a/\H a=some (.lst vs)/\ak K H B vs ts:=by obtain⟨_,vs,e,r⟩:=h.cW;cases e;exact⟨vs,r⟩
theorem Rep.CU(h:Rep K H B (.ref a) (.dW ts)):∃ vs,zG K a vs/\ak K H B vs ts:=by obtain⟨_,vs,e,r⟩:=h.om;cases e;exact⟨vs,r⟩
theorem Rep.DG(h:Rep K H B (.ref a) (.eu ts)):∃ vs,LB K H B a vs/\ak K H B vs ts:=by obtain⟨_,vs,e,r⟩:=h.qM;cases e;exact⟨vs,r⟩
theorem ak.cI(h:ak K H B vs []):vs=[]:=by cases h;rfl
theorem ak.aC{t:T}(h:ak K H B vs (t::ts)):∃ v ws,vs=v::ws/\Rep K H B v t/\ak K H B ws ts:=by cases h with|cons h r=>exact⟨_,_,rfl,h,r⟩
end
theorem Paired.cI{P:α->β->Prop}{xs:List α}(h:Paired P xs []):xs=[]:=by cases h;rfl
theorem Paired.aC{P:α->β->Prop}{xs:List α}{y:β}{ys:List β}(h:Paired P xs (y::ys)):∃ x zs,xs=x::zs/\P x y/\Paired P zs ys:=by cases h with|cons h r=>exact⟨_,_,rfl,h,r⟩
theorem Paired.B4{P:α->β->Prop}{ys:List β}(h:Paired P [] ys):ys=[]:=by cases h;rfl
noncomputable def Fr(B:aB)(H:Hp)(B':aB)(H':Hp):Prop:=∀ b o,H b=some o->¬ B b->H' b=some o/\¬ B' b
theorem Fr.refl:Fr B H B H:=fun _ _ h n=>⟨h,n⟩
theorem Fr.trans{B2:aB}{H2:Hp}(a:Fr B H B1 H1)(b:Fr B1 H1 B2 H2):Fr B H B2 H2:=fun c o h n=>let ⟨h1,n1⟩:=a c o h n;b c o h1 n1
theorem Fr.same(s:bK H H'):Fr B H B H':=fun b o h n=>⟨s b o h,n⟩
theorem Fr.less(s:∀ b,B' b->B b):Fr B H B' H:=fun b o h n=>⟨h,fun z=>n (s b z)⟩
theorem Fr.set(h:B a):Fr B H B (upd H a o):=fun b u e n=>⟨by rw[af (by rintro rfl;exact n h)];exact e,n⟩
theorem bK.new(h:H p=none):bK H (upd H p o):=fun b u e=>by rw[af (aw e h)];exact e
theorem Fr.more(h:H p=none):Fr B H (fun b=>b=p\/B b) (upd H p o):=fun b u e n=>⟨bK.new h b u e,fun z=>z.elim (aw e h) n⟩
theorem Rd.fr{u:HO}(f:Fr B H B' H')(n:¬ B a)(h:Rd H a u):¬ B' a/\Rd H' a u:=by
 rcases h with h|⟨o,h⟩
 ·exact⟨(f a _ h n).2,.inl (f a _ h n).1⟩
 ·exact⟨(f a _ h n).2,.inr ⟨o,(f a _ h n).1⟩⟩
section
variable {K:Ih} {H H':Hp} {B B':aB}
theorem LB.fr(f:Fr B H B' H')(h:LB K H B a xs):LB K H' B' a xs:=h.elim (fun z=>.inl (z.2.fr f z.1)) .inr
theorem LB.sq(h:LB K H B a xs):a_ K H a xs:=h.elim (fun z=>.inl z.2) .inr
theorem Rep.fr(f:Fr B H B' H'){v:V}{t:T}(h:Rep K H B v t):Rep K H' B' v t:=
 Rep.rec (motive_1:=fun v t _=>Rep K H' B' v t) (motive_2:=fun vs ts _=>ak K H' B' vs ts) .ay .bl .int .str (fun n h _ r=>.tup (f _ _ h n).2 (f _ _ h n).1 r) (fun h _ r=>.dW h r) (fun n h _ r=>.lst (f _ _ h n).2 (f _ _ h n).1 r) (fun h _ r=>.eu (h.fr f) r)
  (fun n h=>.jQ (f _ _ h n).2 (f _ _ h n).1) (fun n h l _ r=>.kf (Rd.fr f n h).1 (Rd.fr f n h).2 l r) (fun n h=>.exc (f _ _ h n).2 (f _ _ h n).1) (fun n h m g=>.wm (f _ _ h n).2 (f _ _ h n).1 (f _ _ g m).2 (f _ _ g m).1) (fun n h=>.il (f _ _ h n).2 (f _ _ h n).1) .adr (fun n h l _ r=>.ins (f _ _ h n).2 (f _ _ h n).1 l r) .nil (fun _ _ h r=>.cons h r) h
theorem ak.fr(f:Fr B H B' H')(r:ak K H B vs ts):ak K H' B' vs ts:=by
 induction ts generalizing vs with
 |nil=>rw[r.cI];exact .nil
 |cons t ts ih=>obtain⟨v,vs,rfl,h,r⟩:=r.aC;exact .cons (h.fr f) (ih r)
theorem ak.length(r:ak K H B vs ts):vs.length=ts.length:=by
 induction ts generalizing vs with
 |nil=>obtain rfl:=r.cI;rfl
 |cons t ts ih=>obtain⟨v,ws,rfl,_,r⟩:=r.aC;exact Fc (·+1) (ih r)
theorem ak.get{vs:List V}{i:Nat}{t:T}(r:ak K H B vs ts)(e:ts[i]?=some t):∃ v,vs[i]?=some v/\Rep K H B v t:=by
 induction ts generalizing vs i with
 |nil=>cases e
 |cons u ts ih =>
  obtain⟨v,ws,rfl,h,r⟩:=r.aC
  cases i with
  |zero=>cases e;exact⟨_,rfl,h⟩
  |succ i=>exact ih (vs:=ws) (i:=i) r e
theorem ak.append{ws:List V}(r:ak K H B vs ts)(s:ak K H B ws us):ak K H B (vs++ws) (ts++us):=by
 induction ts generalizing vs with
 |nil=>rw[r.cI];exact s
 |cons t ts ih=>obtain⟨v,vs,rfl,h,r⟩:=r.aC;exact .cons h (ih r)
theorem ak.take(n:Nat)(r:ak K H B vs ts):ak K H B (vs.take n) (ts.take n):=by
 induction ts generalizing vs n with
 |nil=>rw[r.cI,List.take_nil,List.take_nil];exact .nil
 |cons t ts ih =>
  obtain⟨v,vs,rfl,h,r⟩:=r.aC
  cases n with
  |zero=>exact .nil
  |succ n=>exact .cons h (ih n r)
theorem ak.drop(n:Nat)(r:ak K H B vs ts):ak K H B (vs.drop n) (ts.drop n):=by
 induction n generalizing vs ts with
 |zero=>exact r
 |succ n ih =>
  cases ts with
  |nil=>rw[r.cI];exact .nil
  |cons t ts=>obtain⟨v,vs,rfl,h,r⟩:=r.aC;exact ih r
theorem ak.set{v:V}{t:T}(i:Nat)(h:Rep K H B v t)(r:ak K H B vs ts):ak K H B (vs.set i v) (ts.set i t):=by
 induction ts generalizing vs i with
 |nil=>rw[r.cI];exact .nil
 |cons u ts ih =>
  obtain⟨w,vs,rfl,q,r⟩:=r.aC
  cases i with
  |zero=>exact .cons h r
  |succ i=>exact .cons q (ih i r)
theorem ak.rep(r:ak K H B vs ts):∀ n:Nat,ak K H B (List.replicate n vs).flatten (List.replicate n ts).flatten
 |0=>.nil
 |n+1=>by rw[FH,FH,FX,FX];exact r.append (ak.rep r n)
theorem ak.erase(i:Nat)(r:ak K H B vs ts):ak K H B (vs.eraseIdx i) (ts.eraseIdx i):=by
 induction ts generalizing vs i with
 |nil=>rw[r.cI];exact .nil
 |cons t ts ih =>
  obtain⟨v,vs,rfl,h,r⟩:=r.aC
  cases i with
  |zero=>exact r
  |succ i=>exact .cons h (ih i r)
theorem ak.bN{i:Int}{t:T}(r:ak K H B vs ts)(e:L2.bN ts i=some t):∃ v,L2.bN vs i=some v/\Rep K H B v t:=by
 unfold L2.bN at e ⊢;rw[r.length]
 cases q:i3 ts.length i with
 |none=>rw[q] at e;cases e
 |some j=>rw[q] at e;exact r.get e
end
noncomputable def aD:T->Bool
 |.ay|.bl _|.int _|.str _=>true
 |_=>false
theorem Rep.flat{v:V}{t:T}(h:Rep K H B v t)(f:aD t=true):Rep K H' B' v t:=by
 cases h with
 |ay=>exact .ay
 |bl b=>exact .bl b
 |int i=>exact .int i
 |str x=>exact .str x
 |tup=>cases f
 |dW=>cases f
 |lst=>cases f
 |eu=>cases f
 |jQ=>cases f
 |kf=>cases f
 |exc=>cases f
 |wm=>cases f
 |il=>cases f
 |adr=>cases f
 |ins=>cases f
theorem ak.flat(r:ak K H B vs ts)(f:ts.all aD=true):ak K H' B' vs ts:=by
 induction ts generalizing vs with
 |nil=>rw[r.cI];exact .nil
 |cons t ts ih =>
  obtain⟨v,vs,rfl,h,r⟩:=r.aC;rw[FQ,FC] at f;exact .cons (h.flat f.1) (ih r f.2)
noncomputable def Bx(K:Ih)(H:Hp)(B:aB)(a:Addr)(c:T):Prop:=match c with
 |.lst ts=>∃ vs,H a=some (.lst vs)/\ak K H B vs ts
 |.kf ks ts=>∃ vs,H a=some (.dK (ks.zip vs))/\ks.length=vs.length/\ak K H B vs ts
 |_=>False
theorem Bx.aU(h:Bx K H B a c):∃ o,H a=some o:=by
 unfold Bx at h
 split at h
 ·obtain⟨vs,e,_⟩:=h;exact⟨_,e⟩
 ·obtain⟨vs,e,_⟩:=h;exact⟨_,e⟩
 ·exact h.elim
theorem Bx.of(h:Bx K H B a c)(e:H' a=H a)(f:Fr B H B' H'):Bx K H' B' a c:=by
 unfold Bx at h ⊢
 split at h
 ·obtain⟨vs,q,r⟩:=h;exact⟨vs,e.trans q,r.fr f⟩
 ·obtain⟨vs,q,l,r⟩:=h;exact⟨vs,e.trans q,l,r.fr f⟩
 ·exact h.elim
theorem Bx.is(h:Bx K H B a c):(∃ ts vs,c=.lst ts/\H a=some (.lst vs)/\ak K H B vs ts)\/∃ ks ts vs,c=.kf ks ts/\H a=some (.dK (ks.zip vs))/\ks.length=vs.length/\ak K H B vs ts:=by
 unfold Bx at h
 split at h
 ·obtain⟨vs,q,r⟩:=h;exact .inl ⟨_,vs,rfl,q,r⟩
 ·obtain⟨vs,q,l,r⟩:=h;exact .inr ⟨_,_,vs,rfl,q,l,r⟩
 ·exact h.elim
theorem Bx.rep(h:Bx K H B a c)(n:¬ B a):Rep K H B (.ref a) c:=by
 rcases h.is with ⟨ts,vs,rfl,e,r⟩|⟨ks,ts,vs,rfl,e,l,r⟩
 ·exact .lst n e r
 ·exact .kf n (.inl e) l r
inductive Sl where
 |un|tr (t:T)|bx (c:T)|pb (c:T)
abbrev Mu:=List Sl
variable{μ μ' μ1:Mu}{dr:Mu->Mu}
inductive R where
 |tr (t:T)|br (i:Nat)|fr (c:T)
variable{Qt:R->Mu->Prop}
structure Fx where
 K:Ih
 H0:Hp
 P:Nat->Option Addr
 Bc:aB
 bh:∀ b,Bc b->∃ o,H0 b=some o
 G:Addr->Option HO
variable{F:Fx}{shF:Fx->Fx}
noncomputable def fU(F:Fx)(ad:Nat->Addr)(B:aB)(H:Hp)(i:Nat)(s:Sl)(x:Option (Option V)):Prop:=match s with
 |.un=>True
 |.tr t=>∃ v,x=some (some v)/\Rep F.K H B v t
 |.bx c=>x=some (some (.ref (ad i)))/\B (ad i)/\F.H0 (ad i)=none/\F.P i=none/\Bx F.K H B (ad i) c
 |.pb c=>x=some (some (.ref (ad i)))/\B (ad i)/\F.P i=some (ad i)/\Bx F.K H B (ad i) c
noncomputable def Sl.box:Sl->Option T
 |.bx c=>some c
 |.pb c=>some c
 |_=>none
structure Rl (F:Fx) (ad:Nat->Addr) (B:aB) (σ:St) (H:Hp) (μ:Mu):Prop where
 len:μ.length=σ.length
 slot:∀ i s,μ[i]?=some s->fU F ad B H i s σ[i]?
 inj:∀ i j s u c d,μ[i]?=some s->μ[j]?=some u->s.box=some c->u.box=some d->ad i=ad j->i=j
 par:∀ i a,F.P i=some a->(∃ c,μ[i]?=some (.pb c))/\ad i=a
 bc:∀ b,F.Bc b->B b
 aU:∀ b,B b->∃ o,H b=some o
 old:∀ b o,F.H0 b=some o->(∀ i,F.P i≠some b)->H b=some o
 gh:∀ a vs,F.G a=some vs->H a=some vs/\B a/\∀(i:Nat) (s:Sl) (c:T),μ[i]?=some s->s.box=some c->ad i≠a
theorem fU.boxed{s:Sl}{x:Option (Option V)}(h:fU F ad B H i s x)(e:s.box=some c):x=some (some (.ref (ad i)))/\B (ad i)/\Bx F.K H B (ad i) c/\(F.P i=some (ad i)\/F.H0 (ad i)=none):=by
 unfold fU at h
 split at h
 ·cases e
 ·cases e
 ·cases e;exact⟨h.1,h.2.1,h.2.2.2.2,.inr h.2.2.1⟩
 ·cases e;exact⟨h.1,h.2.1,h.2.2.2,.inl h.2.2.1⟩
noncomputable def Hv(F:Fx)(ad:Nat->Addr)(B:aB)(H:Hp)(μ:Mu)(v:V)(r:R):Prop:=match r with
 |.tr t=>Rep F.K H B v t
 |.br i=>v=.ref (ad i)/\∃ s c,μ[i]?=some s/\s.box=some c
 |.fr _=>False
noncomputable def more(B:aB)(a:Addr):aB:=fun b=>b=a\/B b
noncomputable def Vr(F:Fx)(ad:Nat->Addr)(B:aB)(σ:St)(H:Hp)(μ:Mu)(v:V)(r:R):Prop:=match r with
 |.fr c=>Rl F ad B σ H μ/\∃ a,v=.ref a/\¬ B a/\F.H0 a=none/\Rl F ad (more B a) σ H μ/\Bx F.K H (more B a) a c
 |r=>Rl F ad B σ H μ/\Hv F ad B H μ v r
noncomputable def R.d:R->R
 |.fr c=>.tr c
 |r=>r
section
variable {F:Fx} {ad:Nat->Addr} {B B':aB} {σ:St} {H H':Hp} {μ:Mu} {v:V} {r:R}
theorem Rl.qK(h:Rl F ad B σ H μ)(e:H p=none):F.H0 p=none:=by
 cases q:F.H0 p with
 |none=>rfl
 |some o =>
  by_cases z:∃ i,F.P i=some p
  ·obtain⟨i,z⟩:=z;obtain⟨⟨c,hc⟩,ha⟩:=h.par i p z;have:=(h.slot i _ hc).boxed (c:=c) rfl;obtain⟨o',e'⟩:=h.aU _ this.2.1;rw[ha,e] at e';cases e'
  ·have:=h.old p o q fun i zi=>z ⟨i,zi⟩;rw[e] at this;cases this
theorem Rl.kg(h:Rl F ad B σ H μ)(e:H p=none):¬ B p:=fun z=>by
 obtain⟨o,q⟩:=h.aU p z;rw[e] at q;cases q
theorem Rl.fr(h:Rl F ad B σ H μ)(s:bK H H')(hB:∀ b,B b->B' b)(hT:∀ b,B' b->∃ o,H' b=some o)(f:Fr B H B' H'):Rl F ad B' σ H' μ:=by
 refine⟨h.len,fun i s' e=>?_,h.inj,h.par,fun b z=>hB b (h.bc b z),hT,fun b o e n=>s b o (h.old b o e n),fun a vs e=>let ⟨g1,g2,g3⟩:=h.gh a vs e;⟨s a _ g1,hB a g2,g3⟩⟩
 have k:=h.slot i s' e;unfold fU at k ⊢
 split at k
 ·trivial
 ·obtain⟨v,e1,r⟩:=k;exact⟨v,e1,r.fr f⟩
 ·obtain⟨e1,b,z,p,x⟩:=k;obtain⟨o,q⟩:=x.aU;exact⟨e1,hB _ b,z,p,x.of ((s _ _ q).trans q.symm) f⟩
 ·obtain⟨e1,b,p,x⟩:=k;obtain⟨o,q⟩:=x.aU;exact⟨e1,hB _ b,p,x.of ((s _ _ q).trans q.symm) f⟩
theorem Rl.same(h:Rl F ad B σ H μ)(s:bK H H'):Rl F ad B σ H' μ:=h.fr s (fun _ z=>z) (fun b z=>let ⟨o,e⟩:=h.aU b z;⟨o,s b o e⟩) (Fr.same s)
theorem Rl.new(h:Rl F ad B σ H μ)(e:H p=none):Rl F ad (more B p) σ (upd H p o) μ:=
 h.fr (bK.new e) (fun _ z=>.inr z) (fun b z=>z.elim (fun q=>by subst q;exact⟨o,ae⟩) fun q=>let ⟨u,w⟩:=h.aU b q;⟨u,bK.new e b u w⟩) (Fr.more e)
theorem Rl.less(h:Rl F ad B σ H μ)(s:∀ b,B' b->B b)(hb:∀ b,F.Bc b->B' b)(own:∀ i s' c,μ[i]?=some s'->s'.box=some c->B' (ad i))(hg:∀ a vs,F.G a=some vs->B' a):Rl F ad B' σ H μ:=by
 refine⟨h.len,fun i s' e=>?_,h.inj,h.par,hb,fun b z=>h.aU b (s b z),h.old,fun a vs e=>let ⟨g1,g2,g3⟩:=h.gh a vs e;⟨g1,hg a vs e,g3⟩⟩
 have k:=h.slot i s' e;unfold fU at k ⊢
 split at k
 ·trivial
 ·obtain⟨v,e1,r⟩:=k;exact⟨v,e1,r.fr (Fr.less s)⟩
 ·obtain⟨e1,b,z,p,x⟩:=k;exact⟨e1,own i _ _ e rfl,z,p,x.of rfl (Fr.less s)⟩
 ·obtain⟨e1,b,p,x⟩:=k;exact⟨e1,own i _ _ e rfl,p,x.of rfl (Fr.less s)⟩
theorem Vr.rl(h:Vr F ad B σ H μ v r):Rl F ad B σ H μ:=by
 cases r with
 |tr t=>exact h.1
 |br i=>exact h.1
 |fr c=>exact h.1
theorem Vr.hv(h:Vr F ad B σ H μ v r):Hv F ad B H μ v r.d:=by
 cases r with
 |tr t=>exact h.2
 |br i=>exact h.2
 |fr c =>
  obtain⟨_,a,rfl,n,_,_,x⟩:=h;exact (x.of rfl (Fr.less fun _ z=>.inr z)).rep n
noncomputable def Kp(μ μ':Mu):Prop:=∀ i:Nat,((μ[i]?).bind Sl.box).isSome=((μ'[i]?).bind Sl.box).isSome
theorem Kp.refl(μ:Mu):Kp μ μ:=fun i=>rfl
theorem Kp.trans{μ2:Mu}(a:Kp μ μ1)(b:Kp μ1 μ2):Kp μ μ2:=fun i=>(a i).trans (b i)
theorem Kp.symm(a:Kp μ μ1):Kp μ1 μ:=fun i=>(a i).symm
theorem Kp.fwd(k:Kp μ μ'):∀(i:Nat) (s:Sl) (c:T),μ[i]?=some s->s.box=some c->∃(s':Sl) (c':T),μ'[i]?=some s'/\s'.box=some c':=fun i s c e b=>by
 have h:=k i;rw[e] at h;have h1:(s.box).isSome=((μ'[i]?).bind Sl.box).isSome:=h;rw[b] at h1
 cases q:μ'[i]? with
 |none=>rw[q] at h1;cases h1
 |some s' =>
  rw[q] at h1;have h2:true=(s'.box).isSome:=h1
  cases q2:s'.box with
  |none=>rw[q2] at h2;cases h2
  |some c'=>exact⟨s',c',rfl,q2⟩
theorem Kp.set{s s':Sl}{d:T}(e:μ[i]?=some s)(b:s.box=some c)(b':s'.box=some d):Kp μ (μ.set i s'):=fun j=>by
 have hi:i<μ.length:=(EM.mp e).1;by_cases z:i=j
 ·subst z;rw[FG hi,e];show (s.box).isSome=(s'.box).isSome;rw[b,b'];rfl
 ·rw[Fm z]
theorem Hv.fr(h:Hv F ad B H μ v r)(f:Fr B H B' H')(k:Kp μ μ'):Hv F ad B' H' μ' v r:=by
 cases r with
 |tr t=>exact Rep.fr f h
 |br i=>obtain⟨e,s,c,h1,h2⟩:=h;exact⟨e,k.fwd i s c h1 h2⟩
 |fr c=>exact h.elim
noncomputable def cont(μ:Mu):R->Option T
 |.tr t=>some t
 |.br i=>(μ[i]?).bind Sl.box
 |.fr c=>some c
inductive Vw (K:Ih) (H:Hp) (B:aB):V->T->Prop
 |ay:Vw K H B .ay .ay
 |bl (b:Bool):Vw K H B (.bl b) (.bl b)
 |int (i:Int):Vw K H B (.int i) (.int i)
 |str (x:Str):Vw K H B (.str x) (.str x)
 |tup {a:Addr} {vs:List V} {ts:List T} (h:H a=some (.tup vs)) (r:ak K H B vs ts):Vw K H B (.ref a) (.tup ts)
 |dW {a:Addr} {vs:List V} {ts:List T} (h:zG K a vs) (r:ak K H B vs ts):Vw K H B (.ref a) (.dW ts)
 |lst {a:Addr} {vs:List V} {ts:List T} (h:H a=some (.lst vs)) (r:ak K H B vs ts):Vw K H B (.ref a) (.lst ts)
 |eu {a:Addr} {vs:List V} {ts:List T} (h:a_ K H a vs) (r:ak K H B vs ts):Vw K H B (.ref a) (.eu ts)
 |jQ {a:Addr} {lo hi:Int} (h:H a=some (.jQ lo hi)):Vw K H B (.ref a) (.jQ lo hi)
 |kf {a:Addr} {ks:List Key} {vs:List V} {ts:List T} (h:Rd H a (.dK (ks.zip vs))) (l:ks.length=vs.length) (r:ak K H B vs ts):Vw K H B (.ref a) (.kf ks ts)
 |exc {a:Addr} {c:Value} (h:H a=some (.ext (eQ a c none))):Vw K H B (.ref a) (.exc c none)
 |wm {a d:Addr} {c:Value} {x:Str} {i:Int} (h:H a=some (.ext (eQ a c (some d)))) (g:H d=some (.xd [(x,.int i)])):Vw K H B (.ref a) (.exc c (some (x,i)))
 |il {a:Addr} {n:Nat} (h:H a=some (.ext (eS a n))):Vw K H B (.ref a) (.il n)
 |adr (a:Addr):Vw K H B (.ref a) (.adr a)
 |ins {a dx c:Addr} {ks:List Str} {vs:List V} {ts:List T} (h:H a=some (.ins c dx (ks.zip vs))) (l:ks.length=vs.length) (r:ak K H B vs ts):Vw K H B (.ref a) (.ins a c ks ts)
theorem Rep.vw{t:T}(h:Rep K H B v t):Vw K H B v t:=by
 cases h with
 |ay=>exact .ay
 |bl b=>exact .bl b
 |int i=>exact .int i
 |str x=>exact .str x
 |tup n h r=>exact .tup h r
 |dW h r=>exact .dW h r
 |lst n h r=>exact .lst h r
 |eu h r=>exact .eu h.sq r
 |jQ n h=>exact .jQ h
 |kf n h l r=>exact .kf h l r
 |exc n h=>exact .exc h
 |wm n h m g=>exact .wm h g
 |il n h=>exact .il h
 |adr a=>exact .adr a
 |ins n h l r=>exact .ins h l r
theorem Hv.vw{t:T}(l:Rl F ad B σ H μ)(h:Hv F ad B H μ v r)(e:cont μ r=some t):Vw F.K H B v t:=by
 cases r with
 |tr u=>cases e;exact Rep.vw h
 |br i =>
  obtain⟨rfl,s,c,h1,h2⟩:=h;have e2:(μ[i]?).bind Sl.box=some t:=e;rw[h1] at e2;have e':s.box=some t:=e2;rcases ((l.slot i s h1).boxed e').2.2.1.is with ⟨ts,vs,rfl,q,rr⟩|⟨ks,ts,vs,rfl,q,ll,rr⟩
  ·exact .lst q rr
  ·exact .kf (.inl q) ll rr
 |fr c=>exact h.elim
noncomputable def Sl.put:Sl->T->Sl
 |.bx _,c=>.bx c
 |.pb _,c=>.pb c
 |s,_=>s
theorem Sl.gA{s:Sl}{d:T}(e:s.box=some c):(s.put d).box=some d:=by
 cases s<;>first|rfl|cases e
theorem Rl.put{s:Sl}(l:Rl F ad B σ H μ)(e:μ[i]?=some s)(hb:s.box=some c)(r:ak F.K H B vs ts):Rl F ad B σ (upd H (ad i) (.lst vs)) (μ.set i (s.put (.lst ts))):=by
 have k0:=(l.slot i s e).boxed hb;have hi:i<μ.length:=(EM.mp e).1;have f:Fr B H B (upd H (ad i) (.lst vs)):=Fr.set k0.2.1;have get:∀ j,(μ.set i (s.put (.lst ts)))[j]?=if j=i then some (s.put (.lst ts)) else μ[j]?:=fun j=>by
  rw[Gy];by_cases z:i=j
  ·subst z;simp[hi]
  ·rw[EB z,EB (fun q=>z q.symm)]
 refine⟨by rw[Fz];exact l.len,fun j s' e'=>?_,fun j k s1 s2 c1 c2 e1 e2 b1 b2 q=>?_,fun j a p=>?_,l.bc,fun b z=>?_,fun b o e' n=>?_,fun a ws ga=>?_⟩
 ·rw[get] at e';by_cases z:j=i
  ·subst z;rw[EI rfl] at e';cases e';have k:=l.slot j s e
   cases s with
   |un=>cases hb
   |tr t=>cases hb
   |bx d=>exact⟨k.1,k.2.1,k.2.2.1,k.2.2.2.1,vs,ae,r.fr f⟩
   |pb d=>exact⟨k.1,k.2.1,k.2.2.1,vs,ae,r.fr f⟩
  ·rw[EB z] at e';have k:=l.slot j s' e';have ne:∀ d,s'.box=some d->ad j≠ad i:=fun d hd q=>z (l.inj j i s' s d c e' e hd hb q);unfold fU at k ⊢
   split at k
   ·trivial
   ·obtain⟨v,e1,r1⟩:=k;exact⟨v,e1,r1.fr f⟩
   ·obtain⟨e1,b,z0,p,x⟩:=k;exact⟨e1,b,z0,p,x.of (af (ne _ rfl)) f⟩
   ·obtain⟨e1,b,p,x⟩:=k;exact⟨e1,b,p,x.of (af (ne _ rfl)) f⟩
 ·rw[get] at e1 e2;have h1:∃ u d,μ[j]?=some u/\u.box=some d:=by
   by_cases z:j=i
   ·subst z;exact⟨s,c,e,hb⟩
   ·rw[EB z] at e1;exact⟨_,_,e1,b1⟩
  have h2:∃ u d,μ[k]?=some u/\u.box=some d:=by
   by_cases z:k=i
   ·subst z;exact⟨s,c,e,hb⟩
   ·rw[EB z] at e2;exact⟨_,_,e2,b2⟩
  obtain⟨u1,d1,g1,g2⟩:=h1;obtain⟨u2,d2,g3,g4⟩:=h2;exact l.inj j k u1 u2 d1 d2 g1 g3 g2 g4 q
 ·obtain⟨⟨d,hd⟩,ha⟩:=l.par j a p;refine⟨?_,ha⟩;rw[get];by_cases z:j=i
  ·subst z;rw[e] at hd;cases hd;rw[EI rfl];exact⟨_,rfl⟩
  ·rw[EB z];exact⟨d,hd⟩
 ·by_cases z':b=ad i
  ·subst z';exact⟨_,ae⟩
  ·rw[af z'];exact l.aU b z
 ·have ne:b≠ad i:=by
   rintro rfl;rcases k0.2.2.2 with z|z
   ·exact n i z
   ·rw[z] at e';cases e'
  rw[af ne];exact l.old b o e' n
 ·obtain⟨g1,g2,g3⟩:=l.gh a ws ga;refine⟨by rw[af (fun z=>g3 i s c e hb z.symm)];exact g1,g2,fun j s' d e' b'=>?_⟩
  rw[get] at e';by_cases z:j=i
  ·subst z;exact g3 j s c e hb
  ·rw[EB z] at e';exact g3 j s' d e' b'
theorem Rl.vZ{t:T}(l:Rl F ad B σ H μ)(hp:∀ c,μ[i]?≠some (.pb c))(h:Rep F.K H B v t):Rl F ad B (σ.set i (some v)) H (μ.set i (.tr t)):=by
 have get:∀ j,i<μ.length->(μ.set i (.tr t))[j]?=if j=i then some (.tr t) else μ[j]?:=fun j hi=>by
  rw[Gy];by_cases z:i=j
  ·subst z;simp[hi]
  ·rw[EB z,EB (fun q=>z q.symm)]
 by_cases hi:i<μ.length
 ·refine⟨by rw[Fz,Fz];exact l.len,fun j s' e'=>?_,fun j k s1 s2 c1 c2 e1 e2 b1 b2 q=>?_,fun j a p=>?_,l.bc,l.aU,l.old,fun a ws ga=>?_⟩
  ·rw[get j hi] at e';by_cases z:j=i
   ·subst z;rw[EI rfl] at e';cases e';exact⟨v,by rw[FG (by rw[<- l.len];exact hi)],h⟩
   ·rw[EB z] at e';rw[Fm (Ne.symm z)];exact l.slot j s' e'
  ·rw[get j hi] at e1;rw[get k hi] at e2;by_cases z:j=i
   ·rw[EI z] at e1;cases e1;cases b1
   ·by_cases z2:k=i
    ·rw[EI z2] at e2;cases e2;cases b2
    ·rw[EB z] at e1;rw[EB z2] at e2;exact l.inj j k _ _ _ _ e1 e2 b1 b2 q
  ·obtain⟨⟨d,hd⟩,ha⟩:=l.par j a p;refine⟨⟨d,?_⟩,ha⟩;rw[get j hi];by_cases z:j=i
   ·subst z;exact absurd hd (hp d)
   ·rw[EB z];exact hd
  ·obtain⟨g1,g2,g3⟩:=l.gh a ws ga;refine⟨g1,g2,fun j s' d e' b'=>?_⟩;rw[get j hi] at e';by_cases z:j=i
   ·rw[EI z] at e';cases e';cases b'
   ·rw[EB z] at e';exact g3 j s' d e' b'
 ·have hs:σ.length<=i:=by rw[<- l.len];lia
  rw[Gp (show μ.length<=i by lia),Gp hs]
  exact l
theorem Rl.setB(l:Rl F ad (more B a) σ H μ)(hp:∀ c,μ[i]?≠some (.pb c))(h0:F.H0 a=none)(n:¬ B a)(own:∀ j s c,μ[j]?=some s->s.box=some c->B (ad j))(gB:∀ b vs,F.G b=some vs->B b)(x:Bx F.K H (more B a) a c):
  Rl F (fun j=>if j=i then a else ad j) (more B a) (σ.set i (some (.ref a))) H (μ.set i (.bx c)):=by
 have get:∀ j,i<μ.length->(μ.set i (.bx c))[j]?=if j=i then some (.bx c) else μ[j]?:=fun j hi=>by
  rw[Gy];by_cases z:i=j
  ·subst z;simp[hi]
  ·rw[EB z,EB (fun q=>z q.symm)]
 have pi:F.P i=none:=by
  cases q:F.P i with
  |none=>rfl
  |some b =>
   obtain⟨⟨d,hd⟩,_⟩:=l.par i b q;exact absurd hd (hp d)
 by_cases hi:i<μ.length
 ·refine⟨by rw[Fz,Fz];exact l.len,fun j s' e'=>?_,fun j k s1 s2 c1 c2 e1 e2 b1 b2 q=>?_,fun j a' p=>?_,l.bc,l.aU,l.old,fun b ws ga=>?_⟩
  ·rw[get j hi] at e';by_cases z:j=i
   ·subst z;rw[EI rfl] at e';cases e';show _/\_;simp only[EI];exact⟨by rw[FG (by rw[<- l.len];exact hi)],.inl rfl,h0,pi,x⟩
   ·rw[EB z] at e';rw[Fm (Ne.symm z)];have k:=l.slot j s' e';unfold fU at k ⊢;simp only[EB z];exact k
  ·rw[get j hi] at e1;rw[get k hi] at e2;by_cases z:j=i
   ·by_cases z2:k=i
    ·rw[z,z2]
    ·rw[EI z,EB z2] at q;rw[EB z2] at e2;exact absurd (own k _ _ e2 b2) (by rw[<- q];exact n)
   ·by_cases z2:k=i
    ·rw[EI z2,EB z] at q;rw[EB z] at e1;exact absurd (own j _ _ e1 b1) (by rw[q];exact n)
    ·rw[EB z] at e1;rw[EB z2] at e2;rw[EB z,EB z2] at q;exact l.inj j k _ _ _ _ e1 e2 b1 b2 q
  ·obtain⟨⟨d,hd⟩,ha⟩:=l.par j a' p;have z:j≠i:=by rintro rfl;exact hp d hd
   rw[get j hi,EB z];exact⟨⟨d,hd⟩,by simp only[EB z];exact ha⟩
  ·obtain⟨g1,g2,g3⟩:=l.gh b ws ga;refine⟨g1,g2,fun j s' d e' b'=>?_⟩;rw[get j hi] at e';by_cases z:j=i
   ·simp only[EI z];rintro rfl;exact n (gB _ ws ga)
   ·rw[EB z] at e';simp only[EB z];exact g3 j s' d e' b'
 ·have hs:σ.length<=i:=by rw[<- l.len];lia
  rw[Gp (show μ.length<=i by lia),Gp hs]
  have ne:∀ j s,μ[j]?=some s->j≠i:=fun j s e q=>by
   have:=(EM.mp e).1;lia
  refine⟨l.len,fun j s' e'=>?_,fun j k s1 s2 c1 c2 e1 e2 b1 b2 q=>?_,fun j a' p=>?_,l.bc,l.aU,l.old,fun b ws ga=>?_⟩
  ·have k:=l.slot j s' e';unfold fU at k ⊢;simp only[EB (ne j s' e')];exact k
  ·simp only[EB (ne j _ e1),EB (ne k _ e2)] at q;exact l.inj j k _ _ _ _ e1 e2 b1 b2 q
  ·obtain⟨⟨d,hd⟩,ha⟩:=l.par j a' p;exact⟨⟨d,hd⟩,by simp only[EB (ne j _ hd)];exact ha⟩
  ·obtain⟨g1,g2,g3⟩:=l.gh b ws ga;refine⟨g1,g2,fun j s' d e' b'=>?_⟩;simp only[EB (ne j _ e')];exact g3 j s' d e' b'
theorem Rl.gB(l:Rl F ad B σ H μ):∀ b vs,F.G b=some vs->B b:=fun b vs e=>(l.gh b vs e).2.1
theorem Rl.own(l:Rl F ad B σ H μ):∀ j s c,μ[j]?=some s->s.box=some c->B (ad j):=fun j s c e b=>((l.slot j s e).boxed b).2.1
theorem Rl.freeze(l:Rl F ad B σ H μ)(e:μ[i]?=some (.bx c))(hc:¬ F.Bc (ad i)):Rl F ad (fun b=>B b/\b≠ad i) σ H (μ.set i (.tr c))/\Rep F.K H (fun b=>B b/\b≠ad i) (.ref (ad i)) c:=by
 have k0:=l.slot i _ e;have hi:i<μ.length:=(EM.mp e).1;have rp:Rep F.K H (fun b=>B b/\b≠ad i) (.ref (ad i)) c:=((k0.2.2.2.2).of rfl (Fr.less fun _ z=>z.1)).rep (fun z=>z.2 rfl);have get:∀ j,(μ.set i (.tr c))[j]?=if j=i then some (.tr c) else μ[j]?:=fun j=>by
  rw[Gy];by_cases z:i=j
  ·subst z;simp[hi]
  ·rw[EB z,EB (fun q=>z q.symm)]
 have pi:F.P i=none:=k0.2.2.2.1;refine⟨⟨by rw[Fz];exact l.len,fun j s' e'=>?_,fun j k s1 s2 c1 c2 e1 e2 b1 b2 q=>?_,fun j a p=>?_,fun b z=>⟨l.bc b z,by rintro rfl;exact hc z⟩,fun b z=>l.aU b z.1,l.old,fun a ws ga=>?_⟩,rp⟩
 ·rw[get] at e';by_cases z:j=i
  ·subst z;rw[EI rfl] at e';cases e';exact⟨_,k0.1,rp⟩
  ·rw[EB z] at e';have k:=l.slot j s' e';have ne:∀ d,s'.box=some d->ad j≠ad i:=fun d hd q=>z (l.inj j i s' _ d c e' e hd rfl q);unfold fU at k ⊢
   split at k
   ·trivial
   ·obtain⟨v,e1,r1⟩:=k;exact⟨v,e1,r1.fr (Fr.less fun _ z=>z.1)⟩
   ·obtain⟨e1,b,z0,p,x⟩:=k;exact⟨e1,⟨b,ne _ rfl⟩,z0,p,x.of rfl (Fr.less fun _ z=>z.1)⟩
   ·obtain⟨e1,b,p,x⟩:=k;exact⟨e1,⟨b,ne _ rfl⟩,p,x.of rfl (Fr.less fun _ z=>z.1)⟩
 ·rw[get] at e1 e2;by_cases z:j=i
  ·rw[EI z] at e1;cases e1;cases b1
  ·by_cases z2:k=i
   ·rw[EI z2] at e2;cases e2;cases b2
   ·rw[EB z] at e1;rw[EB z2] at e2;exact l.inj j k _ _ _ _ e1 e2 b1 b2 q
 ·obtain⟨⟨d,hd⟩,ha⟩:=l.par j a p;refine⟨⟨d,?_⟩,ha⟩;rw[get];by_cases z:j=i
  ·subst z;rw[pi] at p;cases p
  ·rw[EB z];exact hd
 ·obtain⟨g1,g2,g3⟩:=l.gh a ws ga;refine⟨g1,⟨g2,(g3 i _ c e rfl).symm⟩,fun j s' d e' b'=>?_⟩;rw[get] at e';by_cases z:j=i
  ·rw[EI z] at e';cases e';cases b'
  ·rw[EB z] at e';exact g3 j s' d e' b'
end
section
variable {K:Ih} {H:Hp} {B:aB} {v:V}
theorem Vw.uI(h:Vw K H B v .ay):v=.ay:=by cases h;rfl
theorem Vw.pQ(h:Vw K H B v (.bl b)):v=.bl b:=by cases h;rfl
theorem Vw.bf{i:Int}(h:Vw K H B v (.int i)):v=.int i:=by cases h;rfl
theorem Vw.e9(h:Vw K H B v (.str x)):v=.str x:=by cases h;rfl
theorem Vw.tupI(h:Vw K H B v (.tup ts)):∃ a vs,v=.ref a/\H a=some (.tup vs)/\ak K H B vs ts:=by cases h with|tup h r=>exact⟨_,_,rfl,h,r⟩
theorem Vw.om(h:Vw K H B v (.dW ts)):∃ a vs,v=.ref a/\zG K a vs/\ak K H B vs ts:=by cases h with|dW h r=>exact⟨_,_,rfl,h,r⟩
theorem Vw.cW(h:Vw K H B v (.lst ts)):∃ a vs,v=.ref a/\H a=some (.lst vs)/\ak K H B vs ts:=by cases h with|lst h r=>exact⟨_,_,rfl,h,r⟩
theorem Vw.qM(h:Vw K H B v (.eu ts)):∃ a vs,v=.ref a/\a_ K H a vs/\ak K H B vs ts:=by cases h with|eu h r=>exact⟨_,_,rfl,h,r⟩
end
abbrev UE:=Mu->(R->Mu->Prop)->Prop
variable{ue:UE}
abbrev UT:=Mu->(Bool->Mu->Prop)->Prop
variable{ut:UT}
abbrev UA:=Mu->(List R->Mu->Prop)->Prop
abbrev UO:=Mu->(Option Int->Mu->Prop)->Prop
abbrev U2:=R->R->Mu->(R->Mu->Prop)->Prop
variable{u:U2}
abbrev UC:=List R->Mu->(R->Mu->Prop)->Prop
structure Ed where
 nx:Mu->Prop
 rt:R->Mu->Prop
 bk:Mu->Prop:=fun _=>False
 ct:Mu->Prop:=fun _=>False
abbrev US:=Ed->Mu->Prop
noncomputable def Bv(B:aB)(v:V):R->aB
 |.fr _=>(match v with|.ref a=>more B a|_=>B)
 |_=>B
theorem Fr.d{v:V}{r:R}(f:Fr B H (Bv B v r) H'):Fr B H B H':=fun b o h n=>⟨(f b o h n).1,n⟩
noncomputable def RE(K:Ih)(te:TE)(ue:UE):Prop:=∀(F:Fx) (ad:Nat->Addr) (B:aB) (σ:St) (H:Hp) (μ:Mu) (Q:VK) (Qt:R->Mu->Prop),F.K=K->Rl F ad B σ H μ->ue μ Qt ->
 (∀ v H' r μ',Vr F ad B σ H' μ' v r->Fr B H (Bv B v r) H'->Kp μ μ'->Qt r μ'->Q v H')->te σ H Q
noncomputable def RT(K:Ih)(tt:TT)(ut:UT):Prop:=∀(F:Fx) (ad:Nat->Addr) (B:aB) (σ:St) (H:Hp) (μ:Mu) (Q:Bool->Hp->Prop) (Qt:Bool->Mu->Prop),F.K=K->Rl F ad B σ H μ->ut μ Qt ->
 (∀ b H' μ',Rl F ad B σ H' μ'->Fr B H B H'->Kp μ μ'->Qt b μ'->Q b H')->tt σ H Q
noncomputable def RA(K:Ih)(ta:TA)(ua:UA):Prop:=∀(F:Fx) (ad:Nat->Addr) (B:aB) (σ:St) (H:Hp) (μ:Mu) (Q:List V->Hp->Prop) (Qt:List R->Mu->Prop),F.K=K->Rl F ad B σ H μ->ua μ Qt ->
 (∀ vs H' rs μ',Rl F ad B σ H' μ'->Paired (Hv F ad B H' μ') vs rs->Fr B H B H'->Kp μ μ'->Qt rs μ'->Q vs H')->ta σ H Q
noncomputable def RO(K:Ih)(tt:TO)(ut:UO):Prop:=∀(F:Fx) (ad:Nat->Addr) (B:aB) (σ:St) (H:Hp) (μ:Mu) (Q:Option Int->Hp->Prop) (Qt:Option Int->Mu->Prop),F.K=K->Rl F ad B σ H μ->ut μ Qt ->
 (∀ b H' μ',Rl F ad B σ H' μ'->Fr B H B H'->Kp μ μ'->Qt b μ'->Q b H')->tt σ H Q
noncomputable def ji(K:Ih)(r:R2)(u:U2):Prop:=∀(F:Fx) (ad:Nat->Addr) (B:aB) (σ:St) (H:Hp) (μ:Mu) (Q:VK) (Qt:R->Mu->Prop) (x y:V) (r1 r2:R),F.K=K->Rl F ad B σ H μ->Hv F ad B H μ x r1->Hv F ad B H μ y r2->u r1 r2 μ Qt ->
 (∀ v H' r μ',Vr F ad B σ H' μ' v r->Fr B H (Bv B v r) H'->Kp μ μ'->Qt r μ'->Q v H')->r x y H Q
noncomputable def RC(K:Ih)(r:List V->Hp->VK->Prop)(u:UC):Prop:=∀(F:Fx) (ad:Nat->Addr) (B:aB) (σ:St) (H:Hp) (μ:Mu) (Q:VK) (Qt:R->Mu->Prop) (xs:List V) (rs:List R),F.K=K->Rl F ad B σ H μ->Paired (Hv F ad B H μ) xs rs->u rs μ Qt ->
 (∀ v H' r μ',Vr F ad B σ H' μ' v r->Fr B H (Bv B v r) H'->Kp μ μ'->Qt r μ'->Q v H')->r xs H Q
section
variable {F:Fx} {ad:Nat->Addr} {B:aB} {σ:St} {H:Hp} {μ:Mu} {Q:VK} {Qt:R->Mu->Prop}
theorem Vr.flat{v:V}{t:T}(l:Rl F ad B σ H μ)(r:Rep F.K H B v t):Vr F ad B σ H μ v (.tr t):=⟨l,r⟩
theorem Vr.rJ(l:Rl F ad B σ H μ)(r:ak F.K H B vs ts)(e:H p=none):Vr F ad B σ (upd H p (.lst vs)) μ (.ref p) (.fr (.lst ts)):=
 ⟨l.same (bK.new e),p,rfl,l.kg e,l.qK e,l.new e,vs,ae,r.fr (Fr.more e)⟩
theorem Vr.pK(l:Rl F ad B σ H μ)(r:ak F.K H B vs ts)(e:H p=none):Vr F ad B σ (upd H p (.tup vs)) μ (.ref p) (.tr (.tup ts)):=
 ⟨l.same (bK.new e),.tup (l.kg e) ae (r.fr (Fr.same (bK.new e)))⟩
end
structure YE (X:Cx) (e:Expr) (u:UE):Prop where
 ex:∃ t,QE X e t/\RE X.K t u
structure YT (X:Cx) (e:Expr) (u:UT):Prop where
 ex:∃ t,QT X e t/\RT X.K t u
structure YW (X:Cx) (e:Expr) (u:UT):Prop where
 ex:∃ t,QW X e t/\RT X.K t u
structure YA (X:Cx) (es:List Expr) (u:UA):Prop where
 ex:∃ t,QA X es t/\RA X.K t u
structure YO (X:Cx) (e:Option Expr) (u:UO):Prop where
 ex:∃ t,QO X e t/\RO X.K t u
structure zN (X:Cx) (es:List Expr) (u:UT):Prop where
 ex:∃ t,By X es t/\RT X.K t u
namespace Y
noncomputable def uC(t:T):UE:=fun μ Q=>Q (.tr t) μ
noncomputable def wA(u:U2)(ua ub:UE):UE:=fun μ Q=>ua μ fun r1 μ1=>ub μ1 fun r2 μ2=>u r1.d r2.d μ2 Q
section
variable {X:Cx} {a b c e o:Expr} {es rest:List Expr} {ua ub uc ue uo:UE} {uA uB:UT} {us:UA} {pos p p2:Pos} {x:Str}
theorem uH{v:V}{t:T}(h:∀ H B,Rep K H B v t):RE K (tC v) (uC t):=fun F ad B σ H μ Q Qt hK l q k=>k v H (.tr t) μ ⟨l,show Rep F.K H B v t from hK ▸ h H B⟩ Fr.refl (Kp.refl μ) q
theorem int{i:Int}:YE X (.Constant (.int i) j pos) (uC (.int i)):=⟨_,Z.int,uH fun _ _=>.int i⟩
theorem bl{i:Bool}:YE X (.Constant (.bool i) j pos) (uC (.bl i)):=⟨_,Z.bl,uH fun _ _=>.bl i⟩
theorem ay:YE X (.Constant .none j pos) (uC .ay):=⟨_,Z.ay,uH fun _ _=>.ay⟩
theorem str{i:Str}:YE X (.Constant (.str i) j pos) (uC (.str i)):=⟨_,Z.str,uH fun _ _=>.str i⟩
theorem mU{r:R2}{ta tb:TE}(h:ji K r u)(ha:RE K ta ua)(hb:RE K tb ub):RE K (pq r ta tb) (wA u ua ub):=fun F ad B σ H μ Q Qt hK l q k =>
 ha F ad B σ H μ _ _ hK l q fun x H1 r1 μ1 v1 f1 k1 q1=>hb F ad B σ H1 μ1 _ _ hK v1.rl q1 fun y H2 r2 μ2 v2 f2 k2 q2 =>
  h F ad B σ H2 μ2 _ _ x y r1.d r2.d hK v2.rl (v1.hv.fr f2.d k2) v2.hv q2 fun v H' r μ' v3 f3 k3 q3=>k v H' r μ' v3 ((f1.d.trans f2.d).trans f3) ((k1.trans k2).trans k3) q3
theorem op{o:Operator}{r:R2}(ho:bZ X (binaryOp o) r)(h:ji X.K r u)(ha:YE X a ua)(hb:YE X b ub):YE X (.BinOp a o b pos) (wA u ua ub):=by
 obtain⟨ta,qa,ra⟩:=ha;obtain⟨tb,qb,rb⟩:=hb;exact⟨_,Z.op ho qa qb,mU h ra rb⟩
theorem cmp{o:CmpOp}{r:R2}(ho:bZ X (compareOp o) r)(h:ji X.K r u)(ha:YE X a ua)(hb:YE X b ub)(hm:autoParam (behindInMarks o b=false) ℜ0):YE X (.Compare a [o] [b] pos) (wA u ua ub):=by
 obtain⟨ta,qa,ra⟩:=ha;obtain⟨tb,qb,rb⟩:=hb;exact⟨_,Z.cmp ho qa qb hm,mU h ra rb⟩
theorem ix{r:R2}(hr:lK X r)(h:ji X.K r u)(ha:YE X a ua)(hb:YE X b ub)(hs:autoParam (Z.sim b=true) ℜ0):YE X (.Subscript a b pos) (wA u ua ub):=by
 obtain⟨ta,qa,ra⟩:=ha;obtain⟨tb,qb,rb⟩:=hb;exact⟨_,Z.ix hr qa qb hs,mU h ra rb⟩
noncomputable def kh(ue:UE):UT:=fun μ Q=>ue μ fun r μ'=>match r with
 |.tr (.bl b)=>Q b μ'
 |_=>False
theorem uF{t:TE}(h:RE K t ue):RT K (jk t) (kh ue):=fun F ad B σ H μ Q Qt hK l q k =>
 h F ad B σ H μ _ _ hK l q fun v H' r μ' v1 f k1 q1=>by
  split at q1
  ·rename_i b;have rp:=v1.2;obtain rfl:=Rep.pQ rp;exact⟨b,rfl,k b H' μ' v1.rl f.d k1 q1⟩
  ·exact q1.elim
theorem aZ{o:CmpOp}{r:R2}(ho:bZ X (compareOp o) r)(h:ji X.K r u)(ha:YE X a ua)(hb:YE X b ub)(hm:autoParam (behindInMarks o b=false) ℜ0):YT X (.Compare a [o] [b] pos) (kh (wA u ua ub)):=by
 obtain⟨ta,qa,ra⟩:=ha;obtain⟨tb,qb,rb⟩:=hb;exact⟨_,Z.aZ ho qa qb hm,uF (mU h ra rb)⟩
noncomputable def uk(ut:UT):UT:=fun μ Q=>ut μ fun b μ'=>Q (!b) μ'
theorem iD(ha:YT X a uA):YT X (.UnaryOp .Not a pos) (uk uA):=by
 obtain⟨ta,qa,ra⟩:=ha;exact⟨_,Z.iD qa,fun F ad B σ H μ Q Qt hK l q k=>ra F ad B σ H μ _ _ hK l q fun b H' μ' l' f k1 q1=>k _ H' μ' l' f k1 q1⟩
theorem tw(h:YW X e uA):YT X e uA:=by
 obtain⟨t,q,r⟩:=h;exact⟨t,Z.tw q,r⟩
theorem nN(ha:YT X a uA):YW X (.BoolOp .And [a] pos) uA:=by obtain⟨t,q,r⟩:=ha;exact⟨t,Z.nN q,r⟩
theorem j3(ha:YT X a uA):YW X (.BoolOp .Or [a] pos) uA:=by obtain⟨t,q,r⟩:=ha;exact⟨t,Z.j3 q,r⟩
noncomputable def rH(u w:UT):UT:=fun μ Q=>u μ fun b μ'=>if b=true then w μ' Q else Q false μ'
noncomputable def Ba(u w:UT):UT:=fun μ Q=>u μ fun b μ'=>if b=true then Q true μ' else w μ' Q
theorem xr{t u:TT}(ha:RT K t uA)(hb:RT K u uB):RT K (oY t u) (rH uA uB):=fun F ad B σ H μ Q Qt hK l q k=>ha F ad B σ H μ _ _ hK l q fun b H' μ' l' f k1 q1=>by
 cases b with
 |true=>rw[EI rfl] at q1 ⊢;exact hb F ad B σ H' μ' _ _ hK l' q1 fun b2 H2 μ2 l2 f2 k2 q2=>k b2 H2 μ2 l2 (f.trans f2) (k1.trans k2) q2
 |false=>rw[EB EF] at q1 ⊢;exact k _ H' μ' l' f k1 q1
theorem Ak{t u:TT}(ha:RT K t uA)(hb:RT K u uB):RT K (zQ t u) (Ba uA uB):=fun F ad B σ H μ Q Qt hK l q k=>ha F ad B σ H μ _ _ hK l q fun b H' μ' l' f k1 q1=>by
 cases b with
 |false=>rw[EB EF] at q1 ⊢;exact hb F ad B σ H' μ' _ _ hK l' q1 fun b2 H2 μ2 l2 f2 k2 q2=>k b2 H2 μ2 l2 (f.trans f2) (k1.trans k2) q2
 |true=>rw[EI rfl] at q1 ⊢;exact k _ H' μ' l' f k1 q1
theorem tO(ha:YT X a uA)(hb:YW X (.BoolOp .And (b::rest) pos) uB):YW X (.BoolOp .And (a::b::rest) pos) (rH uA uB):=by
 obtain⟨t,q,r⟩:=ha;obtain⟨t',q',r'⟩:=hb;exact⟨_,Z.tO q q',xr r r'⟩
theorem tY(ha:YT X a uA)(hb:YW X (.BoolOp .Or (b::rest) pos) uB):YW X (.BoolOp .Or (a::b::rest) pos) (Ba uA uB):=by
 obtain⟨t,q,r⟩:=ha;obtain⟨t',q',r'⟩:=hb;exact⟨_,Z.tY q q',Ak r r'⟩
noncomputable def kU(ue:UE):UT:=fun μ Q=>ue μ fun r μ'=>match r with
 |.tr (.bl b)=>Q b μ'
 |.tr (.int i)=>Q (i != 0) μ'
 |_=>False
theorem j7(K:Ih)(hK:X.K=K)(ha:YE X a ua)(he:autoParam (Z.CC a=true) ℜ0):YT X a (kU ua):=by
 obtain⟨t,q,r⟩:=ha;refine⟨_,Z.j7 K hK q he,fun F ad B σ H μ Q Qt hK l q k=>r F ad B σ H μ _ _ hK l q fun v H' r1 μ' v1 f k1 q1=>?_⟩
 split at q1
 ·have rp:=v1.2;obtain rfl:=Rep.pQ rp;exact⟨_,(Ap.Dj ..).symm ▸ rfl,k _ H' μ' v1.rl f.d k1 q1⟩
 ·have rp:=v1.2;obtain rfl:=Rep.bf rp;exact⟨_,(Ap.D5 ..).symm ▸ rfl,k _ H' μ' v1.rl f.d k1 q1⟩
 ·exact q1.elim
noncomputable def m_(ue:UE):UE:=fun μ Q=>ue μ fun r μ'=>match r with
 |.tr (.bl b)=>Q (.tr (.bl (!b))) μ'
 |_=>False
theorem not(ha:YE X a ua):YE X (.UnaryOp .Not a pos) (m_ ua):=by
 obtain⟨t,q,r⟩:=ha;refine⟨_,Z.not q,fun F ad B σ H μ Q Qt hK l q k=>r F ad B σ H μ _ _ hK l q fun v H' r1 μ' v1 f k1 q1=>?_⟩
 split at q1
 ·have rp:=v1.2;obtain rfl:=Rep.pQ rp;exact⟨_,rfl,k _ H' _ μ' (Vr.flat v1.rl (.bl _)) f.d k1 q1⟩
 ·exact q1.elim
noncomputable def ny(ua ub:UE):UE:=fun μ Q=>ua μ fun r μ'=>match r with
 |.tr (.bl true)=>ub μ' Q
 |.tr (.bl false)=>Q (.tr (.bl false)) μ'
 |_=>False
theorem and(ha:YE X a ua)(hb:YE X (.BoolOp .And (b::rest) pos) ub):YE X (.BoolOp .And (a::b::rest) pos) (ny ua ub):=by
 obtain⟨t,q,r⟩:=ha;obtain⟨t',q',r'⟩:=hb;refine⟨_,Z.and q q',fun F ad B σ H μ Q Qt hK l q k=>r F ad B σ H μ _ _ hK l q fun v H' r1 μ' v1 f k1 q1=>?_⟩
 split at q1
 ·have rp:=v1.2;obtain rfl:=Rep.pQ rp;refine⟨_,rfl,?_⟩;rw[EI rfl];exact r' F ad B σ H' μ' _ _ hK v1.rl q1 fun v2 H2 r2 μ2 v3 f2 k2 q2=>k v2 H2 r2 μ2 v3 (f.d.trans f2) (k1.trans k2) q2
 ·have rp:=v1.2;obtain rfl:=Rep.pQ rp;refine⟨_,rfl,?_⟩;rw[EB EF];exact k _ H' _ μ' (Vr.flat v1.rl (.bl _)) f.d k1 q1
 ·exact q1.elim
theorem one{o:BoolOp}(ha:YE X a ua):YE X (.BoolOp o [a] pos) ua:=by obtain⟨t,q,r⟩:=ha;exact⟨t,Z.one q,r⟩
noncomputable def C4(uc:UT)(ua ub:UE):UE:=fun μ Q=>uc μ fun b μ'=>if b=true then ua μ' Q else ub μ' Q
theorem Cr(hc:YT X c uA)(ha:YE X a ua)(hb:YE X b ub):YE X (.IfExp c a b pos) (C4 uA ua ub):=by
 obtain⟨tc,qc,rc⟩:=hc;obtain⟨t,q,r⟩:=ha;obtain⟨t',q',r'⟩:=hb;refine⟨_,Z.Cr qc q q',fun F ad B σ H μ Q Qt hK l q k=>rc F ad B σ H μ _ _ hK l q fun b H' μ' l1 f k1 q1=>?_⟩
 cases b with
 |true=>rw[EI rfl] at q1 ⊢;exact r F ad B σ H' μ' _ _ hK l1 q1 fun v2 H2 r2 μ2 v3 f2 k2 q2=>k v2 H2 r2 μ2 v3 (f.trans f2) (k1.trans k2) q2
 |false=>rw[EB EF] at q1 ⊢;exact r' F ad B σ H' μ' _ _ hK l1 q1 fun v2 H2 r2 μ2 v3 f2 k2 q2=>k v2 H2 r2 μ2 v3 (f.trans f2) (k1.trans k2) q2
noncomputable def tN(ue:UE):UE:=fun μ Q=>ue μ fun r μ'=>match r with
 |.tr (.int i)=>Q (.tr (.int (-i))) μ'
 |_=>False
theorem neg(ha:YE X a ua):YE X (.UnaryOp .USub a pos) (tN ua):=by
 obtain⟨t,q,r⟩:=ha;refine⟨_,Z.un eL q,fun F ad B σ H μ Q Qt hK l q k=>r F ad B σ H μ _ _ hK l q fun v H' r1 μ' v1 f k1 q1=>?_⟩
 split at q1
 ·have rp:=v1.2;obtain rfl:=Rep.bf rp;exact⟨_,rfl,k _ H' _ μ' (Vr.flat v1.rl (.int _)) f.d k1 q1⟩
 ·exact q1.elim
noncomputable def uu:UA:=fun μ Q=>Q [] μ
noncomputable def mR(ue:UE)(us:UA):UA:=fun μ Q=>ue μ fun r μ1=>us μ1 fun rs μ2=>Q (r.d::rs) μ2
noncomputable def uK(ts:List T):UA:=fun μ Q=>Q (ts.map R.tr) μ
theorem nil:YA X [] uu:=⟨_,Z.nil,fun F ad B σ H μ Q Qt hK l q k=>k [] H [] μ l .nil Fr.refl (Kp.refl μ) q⟩
theorem cons(ha:YE X e ue)(hr:YA X es us)(h:autoParam (cN e=true) ℜ0):YA X (e::es) (mR ue us):=by
 obtain⟨t,q,r⟩:=ha;obtain⟨t',q',r'⟩:=hr;exact⟨_,Z.cons q q' h,fun F ad B σ H μ Q Qt hK l q k=>r F ad B σ H μ _ _ hK l q fun v H' r1 μ' v1 f k1 q1=>r' F ad B σ H' μ' _ _ hK v1.rl q1 fun vs H2 rs μ2 l2 ps f2 k2 q2 =>
  k (v::vs) H2 (r1.d::rs) μ2 l2 (.cons (v1.hv.fr f2 k2) ps) (f.d.trans f2) (k1.trans k2) q2⟩
noncomputable def sy:V->Option T
 |.ay=>some .ay
 |.bl b=>some (.bl b)
 |.int i=>some (.int i)
 |.str x=>some (.str x)
 |_=>none
theorem qS{v:V}{t:T}(h:sy v=some t):Rep K H B v t:=by
 unfold sy at h
 split at h
 ·cases h;exact .ay
 ·cases h;exact .bl _
 ·cases h;exact .int _
 ·cases h;exact .str _
 ·cases h
theorem consts(h:jc es=some vs)(h2:vs.map sy=ts.map some):YA X es (uK ts):=by
 refine⟨_,Z.consts h,fun F ad B σ H μ Q Qt hK l q k=>k vs H _ μ l ?_ Fr.refl (Kp.refl μ) q⟩;clear h q k
 induction vs generalizing ts with
 |nil=>cases ts with
  |nil=>exact .nil
  |cons t ts=>cases h2
 |cons v vs ih=>cases ts with
  |nil=>cases h2
  |cons t ts =>
   rw[Fy,Fy] at h2
   injection h2 with e1 e2
   exact .cons (qS e1) (ih e2)
noncomputable def trees:List R->Option (List T)
 |[]=>some []
 |.tr t::rs=>(trees rs).map (t::·)
 |_=>none
theorem gv:∀{vs:List V} {rs:List R} {ts:List T},Paired (Hv F ad B H μ) vs rs->trees rs=some ts->ak F.K H B vs ts
 |_,_,_,.nil,e=>by cases e;exact .nil
 |_,r::rs,ts,.cons h p,e=>by
  cases r with
  |tr t =>
   unfold trees at e
   cases q:trees rs with
   |none=>rw[q] at e;cases e
   |some us=>rw[q] at e;cases e;exact .cons h (gv p q)
  |br i=>cases e
  |fr c=>cases e
noncomputable def vW(us:UA):UE:=fun μ Q=>us μ fun rs μ'=>match trees rs with
 |some ts=>ts.length<=sizeLine/\Q (.tr (.tup ts)) μ'
 |none=>False
noncomputable def uR(us:UA):UE:=fun μ Q=>us μ fun rs μ'=>match trees rs with
 |some ts=>ts.length<=sizeLine/\Q (.fr (.lst ts)) μ'
 |none=>False
theorem tup(h:YA X es us):YE X (.Tuple es k pos) (vW us):=by
 obtain⟨t,q,r⟩:=h;refine⟨_,Z.tup q,fun F ad B σ H μ Q Qt hK l q k=>r F ad B σ H μ _ _ hK l q fun vs H' rs μ' l1 ps f k1 q1=>?_⟩
 split at q1
 ·rename_i ts e;have rp:=gv ps e;exact⟨by rw[rp.length];exact q1.1,fun p hp=>k _ _ _ μ' (Vr.pK l1 rp hp) (f.trans (Fr.same (bK.new hp))) k1 q1.2⟩
 ·exact q1.elim
theorem lst(h:YA X es us):YE X (.List es pos) (uR us):=by
 obtain⟨t,q,r⟩:=h;refine⟨_,Z.lst q,fun F ad B σ H μ Q Qt hK l q k=>r F ad B σ H μ _ _ hK l q fun vs H' rs μ' l1 ps f k1 q1=>?_⟩
 split at q1
 ·rename_i ts e;have rp:=gv ps e;exact⟨by rw[rp.length];exact q1.1,fun p hp=>k _ _ _ μ' (Vr.rJ l1 rp hp) (f.trans (Fr.more hp)) k1 q1.2⟩
 ·exact q1.elim
noncomputable def zK(u:UC)(us:UA):UE:=fun μ Q=>us μ fun rs μ'=>u rs μ' Q
theorem w4{u:UC}{t:TA}(h:RC K r u)(ha:RA K t us):RE K (t6 r t) (zK u us):=fun F ad B σ H μ Q Qt hK l q k =>
 ha F ad B σ H μ _ _ hK l q fun vs H' rs μ' l1 ps f k1 q1=>h F ad B σ H' μ' _ _ vs rs hK l1 ps q1 fun v H2 r2 μ2 v2 f2 k2 q2=>k v H2 r2 μ2 v2 (f.trans f2) (k1.trans k2) q2
theorem cb{id:String}{u:UC}(hc:aP X (.builtin id) r)(h:RC X.K r u)(hg:Gl X x)(hm:X.mg x=none)(hv:bootBuiltins x=some (.builtin id))(ha:YA X (e::es) us)(h1:autoParam (cN e=true) ℜ0)(h2:autoParam (es.all cN=true) ℜ0)(hn:autoParam (x≠"__name__") ℜ1)(hdb:autoParam ((x ==("__debug__":Str))=false) ℜ1):
  YE X (.Call (.Name x p) (e::es) [] pos) (zK u us):=by
 obtain⟨t,q,rr⟩:=ha;exact⟨_,Z.cb hc hg hm hv q h1 h2 hn hdb,w4 h rr⟩
theorem ct{T:String}{u:UC}(hc:aP X (.type T) r)(h:RC X.K r u)(hg:Gl X x)(hm:X.mg x=none)(hv:bootBuiltins x=some (.type T))(ha:YA X (e::es) us)(h1:autoParam (cN e=true) ℜ0)(h2:autoParam (es.all cN=true) ℜ0)(hn:autoParam (x≠"__name__") ℜ1)(hdb:autoParam ((x ==("__debug__":Str))=false) ℜ1):
  YE X (.Call (.Name x p) (e::es) [] pos) (zK u us):=by
 obtain⟨t,q,rr⟩:=ha;exact⟨_,Z.ct hc hg hm hv q h1 h2 hn hdb,w4 h rr⟩
noncomputable def gz:UO:=fun μ Q=>Q none μ
noncomputable def nK(ue:UE):UO:=fun μ Q=>ue μ fun r μ'=>match r with
 |.tr (.int i)=>Q (some i) μ'
 |_=>False
theorem t4:YO X none gz:=⟨_,Z.t4,fun F ad B σ H μ Q Qt hK l q k=>k none H μ l Fr.refl (Kp.refl μ) q⟩
theorem tE(he:YE X e ue):YO X (some e) (nK ue):=by
 obtain⟨t,q,r⟩:=he;refine⟨_,Z.tE q,fun F ad B σ H μ Q Qt hK l q k=>r F ad B σ H μ _ _ hK l q fun v H' r1 μ' v1 f k1 q1=>?_⟩
 split at q1
 ·have rp:=v1.2;obtain rfl:=Rep.bf rp;exact⟨_,rfl,k _ H' μ' v1.rl f.d k1 q1⟩
 ·exact q1.elim
end
noncomputable def oj(f:T->T->Mu->(R->Mu->Prop)->Prop):U2:=fun r1 r2 μ Q=>match cont μ r1,cont μ r2 with
 |some t,some u=>f t u μ Q
 |_,_=>False
theorem dR{r:R2}{f:T->T->Mu->(R->Mu->Prop)->Prop}
  (h:∀(F:Fx) (ad:Nat->Addr) (B:aB) (σ:St) (H:Hp) (μ:Mu) (Q:VK) (Qt:R->Mu->Prop) (x y:V) (t u:T),F.K=K->Rl F ad B σ H μ->Vw F.K H B x t->Vw F.K H B y u->f t u μ Qt ->
   (∀ v H' r,Vr F ad B σ H' μ v r->Fr B H (Bv B v r) H'->Qt r μ->Q v H')->r x y H Q):ji K r (oj f):=by
 intro F ad B σ H μ Q Qt x y r1 r2 hK l h1 h2 q k;unfold oj at q
 split at q
 ·rename_i t u e1 e2;exact h F ad B σ H μ Q Qt x y t u hK l (h1.vw l e1) (h2.vw l e2) q fun v H' r v1 s q1=>k v H' r μ v1 s (Kp.refl μ) q1
 ·exact q.elim
noncomputable def rd(C:Int->Int->Prop)(g:Int->Int->Int):T->T->Mu->(R->Mu->Prop)->Prop:=fun t u μ Q=>match t,u with
 |.int i,.int j=>C i j/\Q (.tr (.int (g i j))) μ
 |_,_=>False
theorem bS{C:Int->Int->Prop}{g:Int->Int->Int}:ji K (rI C fun i j=>.int (g i j)) (oj (rd C g)):=dR fun F ad B σ H μ Q Qt x y t u hK l v1 v2 q k=>by
 unfold rd at q
 split at q
 ·obtain rfl:=Vw.bf v1;obtain rfl:=Vw.bf v2;exact⟨_,_,rfl,rfl,q.1,k _ H _ (Vr.flat l (.int _)) Fr.refl q.2⟩
 ·exact q.elim
theorem dy{g:Int->Int->Int}:ji K (pR fun i j=>.int (g i j)) (oj (rd (fun _ _=>True) g)):=dR fun F ad B σ H μ Q Qt x y t u hK l v1 v2 q k=>by
 unfold rd at q
 split at q
 ·obtain rfl:=Vw.bf v1;obtain rfl:=Vw.bf v2;exact⟨_,_,rfl,rfl,k _ H _ (Vr.flat l (.int _)) Fr.refl q.2⟩
 ·exact q.elim
noncomputable def DX(g:Int->Int->Bool):T->T->Mu->(R->Mu->Prop)->Prop:=fun t u μ Q=>match t,u with
 |.int i,.int j=>Q (.tr (.bl (g i j))) μ
 |_,_=>False
theorem gi{g:Int->Int->Bool}:ji K (pR fun i j=>.bl (g i j)) (oj (DX g)):=dR fun F ad B σ H μ Q Qt x y t u hK l v1 v2 q k=>by
 unfold DX at q
 split at q
 ·obtain rfl:=Vw.bf v1;obtain rfl:=Vw.bf v2;exact⟨_,_,rfl,rfl,k _ H _ (Vr.flat l (.bl _)) Fr.refl q⟩
 ·exact q.elim
noncomputable def wV(K:Ih):R2:=fun x y H Q=>∃ a b xs ys,x=.ref a/\y=.ref b/\b6 K H a xs/\b6 K H b ys/\xs.length+ys.length<=sizeLine /\
 (xs=[]->Q (.ref b) H)/\(xs≠[]->ys=[]->Q (.ref a) H)/\(xs≠[]->ys≠[]->∀ p,H p=none->Q (.ref p) (upd H p (.tup (xs++ys))))
theorem sE{A:Around}{t b:Addr}{ws:List Value}{Q:Value->Shared->Prop}(ht:IsTup s.heap t ([]:List Value).toArray)(hb:IsTup s.heap b ws.toArray)(h0:Q (.ref b) s):wpAny (model prog w) A (binaryOp .Add (.ref t) (.ref b)) Q E s:=by
 obtain⟨⟨cls,dd,data,sl⟩,ho,hc,n,hd⟩:=id ht;obtain⟨⟨cls2,dd2,data2,sl2⟩,ho2,hc2,n2,hd2⟩:=id hb;simp only at hc hd hc2 hd2;subst hc hd hc2 hd2;exact concat_meets ⟨_,ho,rfl⟩ ⟨_,ho2,rfl⟩ noFill_tuple_add seq_tuple_add PySem.F.slot_tuple_add PySem.F.entry_tuple_add (PySem.F.args_tuple_add_2 _ _)
   (tuple_addW0 t b _ ws.toArray n n2 dd dd2 sl sl2 (by simp)) ⟨ho,ho2,h0⟩
theorem vk:bZ X (binaryOp .Add) (wV X.K):=by
 intro pins s σ H x y v u Q I rx ry h;obtain⟨a,b,xs,ys,rfl,rfl,ha,hb,hz,q0,q1,q2⟩:=h;by_cases hx:xs=[]
 ·subst hx
  cases rx;cases ry
  obtain⟨ah,r1,p1,_⟩:=I.tuple ha;obtain⟨its2,r2,p2,_⟩:=I.tuple hb;obtain rfl:=Paired.B4 r1;exact sE p1 p2 ⟨.ref b,H,I,rfl,q0 rfl⟩
 ·exact mZ pins s σ H _ _ v u Q I rx ry ⟨a,b,xs,ys,rfl,rfl,ha,hb,hx,hz,q1 hx,q2 hx⟩
noncomputable def wu(K:Ih):R2:=fun x y H Q=>(∃ i j,x=.int i/\y=.int j/\Q (.int (i+j)) H)\/(∃ i j,x=.str i/\y=.str j/\i.length+j.length<=sizeLine/\Q (.str (i++j)) H)\/BJ x y H Q\/wV K x y H Q
theorem ar(K:Ih)(hK:X.K=K):bZ X (binaryOp .Add) (wu K):=by subst hK;exact qI.or (iw.or (q_.or vk))
noncomputable def cV{v:V}{t:T}(h:Hv F ad B H μ v (.tr t)):Rep F.K H B v t:=h
noncomputable def kE:U2:=fun r1 r2 μ Q=>match cont μ r1,cont μ r2 with
 |some (.int i),some (.int j)=>Q (.tr (.int (i+j))) μ
 |some (.str i),some (.str j)=>i.length+j.length<=sizeLine/\Q (.tr (.str (i++j))) μ
 |some (.lst xs),some (.lst ys)=>xs.length+ys.length<=sizeLine/\Q (.fr (.lst (xs++ys))) μ
 |some (.tup xs),some (.tup ys)=>xs.length+ys.length<=sizeLine/\Q (.tr (.tup (xs++ys))) μ
 |_,_=>False
theorem Hv.mD{v:V}{r:R}{xs:List T}(l:Rl F ad B σ H μ)(h:Hv F ad B H μ v r)(e:cont μ r=some (.tup xs)):Rep F.K H B v (.tup xs):=by
 cases r with
 |tr t=>cases e;exact h
 |br i =>
  obtain⟨rfl,s,c,h1,h2⟩:=h;have e2:(μ[i]?).bind Sl.box=some (.tup xs):=e;rw[h1] at e2;have e':s.box=some (.tup xs):=e2;rcases ((l.slot i s h1).boxed e').2.2.1.is with ⟨ts,vs,z,_⟩|⟨ks,ts,vs,z,_⟩<;>cases z
 |fr c=>exact h.elim
noncomputable def nR:U2:=fun r1 r2 μ Q=>match cont μ r1,cont μ r2 with
 |some (.int i),some (.int j)=>lg i j/\Q (.tr (.int (i*j))) μ
 |some (.lst xs),some (.int k)=>-(2^63)<=k/\k<2^63/\xs.length*k.toNat<=sizeLine/\Q (.fr (.lst (List.replicate k.toNat xs).flatten)) μ
 |_,_=>False
theorem qE:ji K xT nR:=by
 intro F ad B σ H μ Q Qt x y r1 r2 hK l h1 h2 q k;unfold nR at q
 split at q
 ·rename_i i j e1 e2;have a:=h1.vw l e1;have b:=h2.vw l e2;obtain rfl:=Vw.bf a;obtain rfl:=Vw.bf b;exact⟨q.1,k _ H _ μ (Vr.flat l (.int _)) Fr.refl (Kp.refl μ) q.2⟩
 ·rename_i xs j e1 e2;have a:=h1.vw l e1;have b:=h2.vw l e2;obtain rfl:=Vw.bf b;obtain⟨_,_,rfl,ha,ra⟩:=Vw.cW a;exact⟨_,_,_,rfl,rfl,ha,q.1,q.2.1,by rw[ra.length];exact q.2.2.1,fun p hp=>k _ _ _ μ (Vr.rJ l (ra.rep _) hp) (Fr.more hp) (Kp.refl μ) q.2.2.2⟩
 ·exact q.elim
theorem cX(K:Ih)(hK:X.K=K):lK X (Dl K):=by subst hK;exact rm
noncomputable def kl(neg:Bool):T->T->Mu->(R->Mu->Prop)->Prop:=fun t u μ Q=>match u with
 |.ay=>Q (.tr (.bl (match t with|.ay=>!neg|_=>neg))) μ
 |_=>False
theorem mf:ji K (fun x y H Q=>y=.ay/\Q (.bl (decide (x=.ay))) H) (oj (kl false)):=dR fun F ad B σ H μ Q Qt x y t u hK l v1 v2 q k=>by
 unfold kl at q
 split at q
 ·obtain rfl:=Vw.uI v2;refine⟨rfl,?_⟩
  cases v1<;>exact k _ H _ (Vr.flat l (.bl _)) Fr.refl q
 ·exact q.elim
theorem tV:ji K (fun x y H Q=>y=.ay/\Q (.bl (!decide (x=.ay))) H) (oj (kl true)):=dR fun F ad B σ H μ Q Qt x y t u hK l v1 v2 q k=>by
 unfold kl at q
 split at q
 ·obtain rfl:=Vw.uI v2;refine⟨rfl,?_⟩
  cases v1<;>exact k _ H _ (Vr.flat l (.bl _)) Fr.refl q
 ·exact q.elim
noncomputable def Dk:T->T->Bool
 |.ay,.ay=>true
 |.bl a,.bl b=>a == b
 |.bl a,.int b=>(if a then 1 else 0) == b
 |.int a,.bl b=>a ==(if b then 1 else 0)
 |.int a,.int b=>a == b
 |.str a,.str b=>a == b
 |_,_=>false
noncomputable def lX(xs ys:List T):Bool:=xs.length == ys.length && (List.range (min xs.length ys.length)).all fun j=>match xs[j]?,ys[j]? with
 |some x,some y=>Dk x y
 |_,_=>true
theorem wj{x y:V}{t u:T}(h1:Rep K H B x t)(h2:Rep K H B y u)(f1:aD t=true)(f2:aD u=true):b9 x=true/\b9 y=true/\pE x y=Dk t u:=by
 cases h1<;>first | (cases f1;done) | (cases h2<;>first | (cases f2;done)|exact⟨rfl,rfl,rfl⟩)
noncomputable def tT(K:Ih)(neg:Bool):R2:=fun x y H Q=>∃ a b xs ys,x=.ref a/\y=.ref b/\((a_ K H a xs/\a_ K H b ys)\/(b6 K H a xs/\b6 K H b ys))/\xs.all b9=true/\ys.all b9=true /\
 ∀ c,c=(xs.length == ys.length && (List.range (min xs.length ys.length)).all fun j=>match xs[j]?,ys[j]? with|some x,some y=>pE x y|_,_=>true)->Q (.bl (if neg then !c else c)) H
theorem yA(hu:X.A.units<cLine):bZ X (compareOp .Eq) (tT X.K false):=by
 intro pins s σ H x y v u Q I rx ry h;obtain⟨a,b,xs,ys,rfl,rfl,hq,fx,fy,q⟩:=h
 cases rx;cases ry
 have item:∀(ah its2:List Value),Vals xs ah->Vals ys its2->∀ j (h1:j<ah.toArray.size) (h2:j<its2.toArray.size),SeqAt.EqAt X.A.in1 s ah.toArray[j] its2.toArray[j] (match xs[j]?,ys[j]? with|some x,some y=>pE x y|_,_=>true):=fun ah its2 r1 r2 j h1 h2=>by
  have l1:=r1.length;have l2:=r2.length;rw[EE] at h1 h2;obtain⟨u1,e1,g1⟩:=r1.get (i:=j) (x:=xs[j]) (EK (by lia))
  obtain⟨u2,e2,g2⟩:=r2.get (i:=j) (x:=ys[j]) (EK (by lia))
  rw[EK (show j<xs.length by lia),EK (show j<ys.length by lia)]
  have z1:ah.toArray[j]=u1:=by
   rw[EK h1] at e1;simpa using e1
  have z2:its2.toArray[j]=u2:=by
   rw[EK h2] at e2;simpa using e2
  rw[z1,z2];exact lT g1 g2 (Gb.mp fx _ (FD _)) (Gb.mp fy _ (FD _))
 rcases hq with ⟨ha,hb⟩|⟨ha,hb⟩
 ·obtain⟨ah,r1,p1,_⟩:=I.list ha;obtain⟨its2,r2,p2,_⟩:=I.list hb;have l1:=r1.length;have l2:=r2.length;by_cases e:xs.length=ys.length
  ·refine SeqAt.eq_listAt p1.isList p2.isList (by rw[EE,EE];lia) hu (item ah its2 r1 r2) ⟨.bl _,H,I,rfl,q _ ?_⟩
   rw[EE,<- l1,<- e,Ie,GV,Bool.true_and]
  ·refine SeqAt.eq_list_lengthsAt p1.isList p2.isList (by rw[EE,EE,bne_iff_ne];lia) hu ⟨.bl _,H,I,rfl,q _ ?_⟩
   rw[Fb.mpr e,HL]
 ·obtain⟨ah,r1,p1,_⟩:=I.tuple ha;obtain⟨its2,r2,p2,_⟩:=I.tuple hb;have l1:=r1.length;have l2:=r2.length;refine SeqAt.eq_tupleAt p1 p2 hu (item ah its2 r1 r2) ⟨.bl _,H,I,rfl,q _ ?_⟩;rw[EE,EE,<- l1,<- l2,Bool.and_comm];rfl
theorem bA:∀{xs:List V} {ts:List T},ak K H B xs ts->ts.all aD=true->xs.all b9=true
 |_,_,.nil,_=>rfl
 |_,_,.cons h r,f=>by
  rw[FQ,FC] at f ⊢;refine⟨?_,bA r f.2⟩;have f1:=f.1
  cases h<;>first|rfl|cases f1
theorem jM(h1:ak K H B xs ts)(h2:ak K H B ys us)(f1:ts.all aD=true)(f2:us.all aD=true):
  lX ts us=(xs.length == ys.length && (List.range (min xs.length ys.length)).all fun j=>match xs[j]?,ys[j]? with|some x,some y=>pE x y|_,_=>true):=by
 unfold lX;have l1:=h1.length;have l2:=h2.length;rw[l1,l2];congr 1;refine List.all_congr rfl ?_ |>.symm;intro j
 cases a1:ts[j]? with
 |none =>
  have:xs[j]?=none:=FT.mpr (by have:=FT.mp a1;lia)
  rw[this]
 |some t =>
  obtain⟨v1,e1,r1⟩:=h1.get a1;rw[e1]
  cases a2:us[j]? with
  |none =>
   have:ys[j]?=none:=FT.mpr (by have:=FT.mp a2;lia)
   rw[this]
  |some u =>
   obtain⟨v2,e2,r2⟩:=h2.get a2;rw[e2];exact (wj r1 r2 (Gb.mp f1 _ (FL a1)) (Gb.mp f2 _ (FL a2))).2.2
noncomputable def Bm(K:Ih):R2:=fun x y H Q=>Ag x y H Q\/tT K false x y H Q
theorem bj(K:Ih)(hK:X.K=K)(hu:X.A.units<cLine):bZ X (compareOp .Eq) (Bm K):=by subst hK;exact wQ.or (yA hu)
noncomputable def AO(neg:Bool):T->T->Mu->(R->Mu->Prop)->Prop:=fun t u μ Q=>match t,u with
 |.int i,.int j=>Q (.tr (.bl (if neg then !decide (i=j) else decide (i=j)))) μ
 |.str i,.str j=>Q (.tr (.bl (if neg then !decide (i=j) else decide (i=j)))) μ
 |.bl i,.bl j=>Q (.tr (.bl (if neg then !decide (i=j) else decide (i=j)))) μ
 |.lst xs,.lst ys=>neg=false/\xs.all aD=true/\ys.all aD=true/\Q (.tr (.bl (lX xs ys))) μ
 |.tup xs,.tup ys=>neg=false/\xs.all aD=true/\ys.all aD=true/\Q (.tr (.bl (lX xs ys))) μ
 |_,_=>False
theorem dV[DecidableEq α]{f:α->V}(hf:∀ a b,f a=f b->a=b)(a b:α):decide (f a=f b)=decide (a=b):=by
 rw[decide_eq_decide];exact⟨hf a b,fun h=>by rw[h]⟩
theorem bV:ji K (Bm K) (oj (AO false)):=dR fun F ad B σ H μ Q Qt x y t u hK l v1 v2 q k=>by
 subst hK;unfold AO at q
 split at q
 ·obtain rfl:=Vw.bf v1;obtain rfl:=Vw.bf v2;refine .inl ⟨rfl,?_⟩;rw[dV (f:=V.int) (fun a b h=>by injection h)]
  exact k _ H _ (Vr.flat l (.bl _)) Fr.refl q
 ·obtain rfl:=Vw.e9 v1;obtain rfl:=Vw.e9 v2;refine .inl ⟨rfl,?_⟩;rw[dV (f:=V.str) (fun a b h=>by injection h)]
  exact k _ H _ (Vr.flat l (.bl _)) Fr.refl q
 ·obtain rfl:=Vw.pQ v1;obtain rfl:=Vw.pQ v2;refine .inl ⟨rfl,?_⟩;rw[dV (f:=V.bl) (fun a b h=>by injection h)]
  exact k _ H _ (Vr.flat l (.bl _)) Fr.refl q
 ·obtain⟨_,_,rfl,ha,ra⟩:=Vw.cW v1;obtain⟨_,_,rfl,hb,rb⟩:=Vw.cW v2;exact .inr ⟨_,_,_,_,rfl,rfl,.inl ⟨a_.of ha,a_.of hb⟩,bA ra q.2.1,bA rb q.2.2.1,fun c hc=>by
   rw[<- jM ra rb q.2.1 q.2.2.1] at hc;subst hc;exact k _ H _ (Vr.flat l (.bl _)) Fr.refl q.2.2.2⟩
 ·obtain⟨_,_,rfl,ha,ra⟩:=Vw.tupI v1;obtain⟨_,_,rfl,hb,rb⟩:=Vw.tupI v2;exact .inr ⟨_,_,_,_,rfl,rfl,.inr ⟨b6.of ha,b6.of hb⟩,bA ra q.2.1,bA rb q.2.2.1,fun c hc=>by
   rw[<- jM ra rb q.2.1 q.2.2.1] at hc;subst hc;exact k _ H _ (Vr.flat l (.bl _)) Fr.refl q.2.2.2⟩
 ·exact q.elim
noncomputable def yZ(f:T->Mu->(R->Mu->Prop)->Prop):UC:=fun rs μ Q=>match rs with
 |[r]=>(match cont μ r with|some t=>f t μ Q|none=>False)
 |_=>False
theorem qz{f:T->Mu->(R->Mu->Prop)->Prop}
  (h:∀(F:Fx) (ad:Nat->Addr) (B:aB) (σ:St) (H:Hp) (μ:Mu) (Q:VK) (Qt:R->Mu->Prop) (x:V) (t:T),F.K=K->Rl F ad B σ H μ->Vw F.K H B x t->f t μ Qt ->
   (∀ v H' r,Vr F ad B σ H' μ v r->Fr B H (Bv B v r) H'->Qt r μ->Q v H')->r [x] H Q):RC K r (yZ f):=by
 intro F ad B σ H μ Q Qt xs rs hK l p q k;unfold yZ at q
 split at q
 ·split at q
  ·rename_i r0 _ t e;obtain⟨_,_,rfl,h1,p⟩:=Paired.aC p
   cases p;exact h F ad B σ H μ Q Qt _ t hK l (h1.vw l e) q fun v H' r v1 s q1=>k v H' r μ v1 s (Kp.refl μ) q1
  ·exact q.elim
 ·exact q.elim
noncomputable def qo(K:Ih):List V->Hp->VK->Prop:=fun xs H Q=>(∃ p ys,xs=[.ref p]/\(a_ K H p ys\/b6 K H p ys)/\Q (.int ys.length) H)\/(∃ z,xs=[.str z]/\z.length<=sizeLine/\Q (.int z.length) H)
theorem bI(K:Ih)(hK:X.K=K):aP X (.builtin "len") (qo K):=by subst hK;exact eV.or jS
noncomputable def fN:UC:=fun rs μ Q=>match rs with
 |[r]=>(match cont μ r with
  |some (.lst xs)=>Q (.tr (.tup xs)) μ
  |some (.tup xs)=>Q (.tr (.tup xs)) μ
  |_=>False)
 |_=>False
noncomputable def wN(K:Ih):List V->Hp->VK->Prop:=fun xs H Q=>∃ p ys,xs=[.ref p]/\((a_ K H p ys/\∀ l,H l=none->Q (.ref l) (upd H l (.tup ys)))\/(b6 K H p ys/\Q (.ref p) H))
theorem dZ(K:Ih)(hK:X.K=K):aP X (.type "tuple") (wN K):=by subst hK;exact iB
theorem fe:RC K (wN K) fN:=by
 intro F ad B σ H μ Q Qt xs rs hK l p q k;subst hK;unfold fN at q
 split at q
 ·obtain⟨_,_,rfl,h1,p⟩:=Paired.aC p;obtain rfl:=Paired.cI p
  split at q
  ·rename_i e;have v1:=h1.vw l e;obtain⟨_,_,rfl,ha,ra⟩:=Vw.cW v1;exact⟨_,_,rfl,.inl ⟨a_.of ha,fun p hp=>k _ _ _ μ (Vr.pK l ra hp) (Fr.same (bK.new hp)) (Kp.refl μ) q⟩⟩
  ·rename_i e;have rp:=Hv.mD l h1 e;have rp':=rp;obtain⟨_,_,rfl,na,ha,ra⟩:=Rep.tupI rp;exact⟨_,_,rfl,.inr ⟨b6.of ha,k _ H _ μ (Vr.flat l rp') Fr.refl (Kp.refl μ) q⟩⟩
  ·exact q.elim
 ·exact q.elim
noncomputable def zL(g:Int->Int->Int):UC:=fun rs μ Q=>match rs with
 |[.tr (.int i),.tr (.int j)]=>Q (.tr (.int (g i j))) μ
 |_=>False
theorem Af{g:Int->Int->Int}(h:∀ i j H Q,Q (.int (g i j)) H->r [.int i,.int j] H Q):RC K r (zL g):=by
 intro F ad B σ H μ Q Qt xs rs hK l p q k;unfold zL at q
 split at q
 ·obtain⟨_,_,rfl,h1,p⟩:=Paired.aC p;obtain⟨_,_,rfl,h2,p⟩:=Paired.aC p
  cases p;cases cV h1;cases cV h2;exact h _ _ _ _ (k _ H _ μ (Vr.flat l (.int _)) Fr.refl (Kp.refl μ) q)
 ·exact q.elim
theorem yG:RC K yt (zL fun i j=>if j<i then j else i):=Af fun i j H Q q=>q
noncomputable def vN:T->String->Option Bool
 |.ay,c=>some (dQ "NoneType" c)
 |.bl _,c=>some (dQ "bool" c)
 |.int _,c=>some (dQ "int" c)
 |.str _,c=>some (dQ "str" c)
 |.lst _,c=>some (dQ "list" c)
 |.tup _,c=>some (dQ "tuple" c)
 |_,_=>none
noncomputable def lu(ue:UE)(c:String):UE:=fun μ Q=>ue μ fun r μ'=>match cont μ' r with
 |some t=>(match vN t c with|some b=>Q (.tr (.bl b)) μ'|none=>False)
 |none=>False
theorem Vw.ty{v:V}{t:T}{c:String}(h:Vw K H B v t)(e:vN t c=some b):∃ s,wC H v=some s/\dQ s c=b:=by
 cases h with
 |ay=>cases e;exact⟨_,rfl,rfl⟩
 |bl=>cases e;exact⟨_,rfl,rfl⟩
 |int=>cases e;exact⟨_,rfl,rfl⟩
 |str=>cases e;exact⟨_,rfl,rfl⟩
 |tup h r=>cases e;exact⟨_,by unfold wC;simp only[h],rfl⟩
 |lst h r=>cases e;exact⟨_,by unfold wC;simp only[h],rfl⟩
 |eu=>cases e
 |jQ=>cases e
 |kf=>cases e
 |exc=>cases e
 |wm=>cases e
 |il=>cases e
 |adr=>cases e
 |ins=>cases e
 |dW=>cases e
theorem Vr.vw{v:V}{r:R}{t:T}(h:Vr F ad B σ H μ v r)(e:cont μ r=some t):Vw F.K H B v t:=by
 have e':cont μ r.d=some t:=by cases r<;>exact e
 exact h.hv.vw h.rl e'
section
variable {X:Cx} {a b c e o:Expr} {es rest:List Expr} {ua ub uc ue uo:UE} {uA uB:UT} {us:UA} {pos p p2 p3:Pos} {x:Str}
theorem zW{C:String}(K:Ih)(hK:X.K=K)(hg:Gl X "isinstance")(hm:X.mg "isinstance"=none)(ha:YE X a ua)(hgc:Gl X x)(hmc:X.mg x=none)(hvc:bootBuiltins x=some (.type C))(hc:autoParam (C∈["bool","int","str","list","tuple","dict"]) ℜ1)(h1:autoParam (cN a=true) ℜ0)
  (hnx:autoParam (x≠"__name__") ℜ1) (hdx:autoParam ((x ==("__debug__":Str))=false) ℜ1):YE X (.Call (.Name "isinstance" p) [a,.Name x p3] [] pos) (lu ua C):=by
 obtain⟨t,q,r⟩:=ha;refine⟨_,Z.cb (Z.AI K hK) hg hm G0 (Z.cons q (Z.cons (Z.Eh hgc hmc hvc hnx hdx) Z.nil) h1) h1,fun F ad B σ H μ Q Qt hK l q k=>r F ad B σ H μ _ _ hK l q fun v H' r1 μ' v1 f k1 q1=>?_⟩;show L2.lu K [v,.ty C] H' Q;refine⟨hc,?_⟩
 split at q1
 ·rename_i t e
  split at q1
  ·rename_i b e2;obtain⟨s,e3,e4⟩:=Vw.ty (Vr.vw v1 e) e2;rw[e3];subst e4;exact k _ H' (.tr (.bl _)) μ' (Vr.flat v1.rl (.bl _)) f.d k1 q1
  ·exact q1.elim
 ·exact q1.elim
noncomputable def bJ(xs:List α)(lo hi:Option Int):List α:=(xs.drop (HT.aR xs.length 0 lo)).take (HT.aR xs.length xs.length hi-HT.aR xs.length 0 lo)
theorem ak.cut(r:ak K H B vs ts)(lo hi:Option Int):ak K H B (gY vs lo hi) (bJ ts lo hi):=by
 unfold gY bJ;rw[r.length];exact (r.drop _).take _
noncomputable def BB(K:Ih):V->Option Int->Option Int->Hp->VK->Prop:=fun x lo hi H Q=>∃ a xs,x=.ref a/\b6 K H a xs/\HT.aR xs.length 0 lo=0/\HT.aR xs.length xs.length hi=xs.length/\Q (.ref a) H
theorem fw{A:Around}{t sl:Addr}{vl vu:Value}{lo hi:Option Int}{Q:Value->Shared->Prop}(ht:IsTup s.heap t items)(hs:s.heap.IsSliceOf sl vl vu .none)(pl:IsPart vl lo)(pu:IsPart vu hi)
  (h1:HT.aR items.size 0 lo=0) (h2:HT.aR items.size items.size hi=items.size) (h:Q (.ref t) s):wpAny (model prog w) A (getItem (.ref t) (.ref sl)) Q E s:=by
 obtain⟨os,hos,hcs,hds⟩:=id hs;have hTs:s.TypeIs (.ref sl) "slice":=⟨os,hos,hcs⟩;unfold getItem
 try with_reducible refine FE ?_
 first|refine EA (EL ?_)|skip
 refine EA (wpAny_sequenceKey ht.typeIs (by decide) ?_)
 refine EA (FP (name:=Str.ofString "__getitem__") ht.typeIs FU
  (Gn FU ht.typeIs entry_tuple_getitem ?_ (args_tuple_getitem _ _)))
 show wpAny _ _ (Builtin.Tuple.tupleItemsOf (.ref t) >>= _) _ _ s;refine EA (tupleItemsOf_ ht ?_);refine EA (wpAny_typeOf hTs ?_);rw[EI (by decide)]
 refine EA (HT.dc hs pl pu ?_);show wpAny _ _ (if (((HT.aR items.size 0 lo:Nat):Int) == 0 && (1:Int) == 1 && (HT.aR items.size items.size hi-HT.aR items.size 0 lo) == items.size)=true then _ else _) _ _ s
 rw[EI (by rw[h1,h2];simp)]
 unfold Builtin.Tuple.tupleIsExact;refine EA ?_;refine EA (wpAny_typeOf ht.typeIs (EL ?_));rw[EI (by decide)]
 exact EA (HX (EL ⟨_,rfl,EL h⟩))
theorem yx:mT X (BB X.K):=by
 intro pins s σ H x v vl vu lo hi sl Q I rx hs pl pu h;obtain⟨a,xs,rfl,hx,h1,h2,q⟩:=h;cases rx;obtain⟨ah,r,ht,hz⟩:=I.tuple hx;have hlen:ah.toArray.size=xs.length:=by rw[EE];exact r.length.symm
 exact⟨"tuple",_,FU.lookup,ht.typeIs,fw ht hs pl pu (by rw[hlen];exact h1) (by rw[hlen];exact h2) ⟨.ref a,H,I,rfl,q⟩⟩
noncomputable def AB(K:Ih):V->Option Int->Option Int->Hp->VK->Prop:=fun x lo hi H Q=>BS K x lo hi H Q\/oG K x lo hi H Q\/BB K x lo hi H Q
theorem DE(K:Ih)(hK:X.K=K):mT X (AB K):=by subst hK;exact nD.or (lY.or yx)
noncomputable def yq(ue:UE)(ul uh:UO):UE:=fun μ Q=>ue μ fun r μ1=>ul μ1 fun lo μ2=>uh μ2 fun hi μ3=>match cont μ3 r.d with
 |some (.lst xs)=>Q (.fr (.lst (bJ xs lo hi))) μ3
 |some (.eu xs)=>Q (.fr (.lst (bJ xs lo hi))) μ3
 |some (.tup xs)=>Q (.tr (.tup (bJ xs lo hi))) μ3
 |_=>False
end
end Y
structure kL (F:Fx) (B:aB) (H:Hp) (D:Ends) (E:Ed):Prop where
 nx:∀ ad' B' σ' H' μ',Rl F ad' B' σ' H' μ'->Fr B H B' H'->E.nx μ'->D.nx σ' H'
 rt:∀ ad' B' σ' H' μ' v r,Vr F ad' B' σ' H' μ' v r->E.rt r μ'->D.rt v H'
 bk:∀ ad' B' σ' H' μ',Rl F ad' B' σ' H' μ'->Fr B H B' H'->E.bk μ'->D.bk σ' H'
 ct:∀ ad' B' σ' H' μ',Rl F ad' B' σ' H' μ'->Fr B H B' H'->E.ct μ'->D.ct σ' H'
theorem kL.step{E:Ed}(h:kL F B H D E)(f:Fr B H B1 H1):kL F B1 H1 D E:=
 ⟨fun ad' B' σ' H' μ' l g q=>h.nx ad' B' σ' H' μ' l (f.trans g) q,h.rt,fun ad' B' σ' H' μ' l g q=>h.bk ad' B' σ' H' μ' l (f.trans g) q,fun ad' B' σ' H' μ' l g q=>h.ct ad' B' σ' H' μ' l (f.trans g) q⟩
noncomputable def RS(K:Ih)(ts:TS)(us:US):Prop:=∀(F:Fx) (D:Ends) (E:Ed) (ad:Nat->Addr) (B:aB) (σ:St) (H:Hp) (μ:Mu),F.K=K->Rl F ad B σ H μ->us E μ->kL F B H D E->ts D σ H
abbrev UG:=R->Mu->(Mu->Prop)->Prop
abbrev nj:=List T->Mu->(Mu->Prop)->Prop
noncomputable def RG(K:Ih)(g:TG)(ug:UG):Prop:=∀(F:Fx) (ad:Nat->Addr) (B:aB) (σ:St) (H:Hp) (μ:Mu) (v:V) (r:R) (B0:aB) (H0:Hp) (Q:St->Hp->Prop) (Qt:Mu->Prop),F.K=K->Vr F ad B σ H μ v r->Fr B0 H0 (Bv B v r) H->ug r μ Qt ->
 (∀ ad' B' σ' H' μ',Rl F ad' B' σ' H' μ'->Fr B0 H0 B' H'->Qt μ'->Q σ' H')->g v σ H Q
noncomputable def E6(K:Ih)(g:pD)(ug:nj):Prop:=∀(F:Fx) (ad:Nat->Addr) (B:aB) (σ:St) (H:Hp) (μ:Mu) (vs:List V) (ts:List T) (B0:aB) (H0:Hp) (Q:St->Hp->Prop) (Qt:Mu->Prop),F.K=K->Rl F ad B σ H μ->ak F.K H B vs ts->Fr B0 H0 B H->ug ts μ Qt ->
 (∀ ad' B' σ' H' μ',Rl F ad' B' σ' H' μ'->Fr B0 H0 B' H'->Qt μ'->Q σ' H')->g vs σ H Q
structure YG (X:Cx) (e:Expr) (u:UG):Prop where
 ex:∃ t,QG X e t/\RG X.K t u
structure Br (X:Cx) (es:List Expr) (u:nj):Prop where
 ex:∃ t,Am X es t/\E6 X.K t u
structure YS (X:Cx) (st:Stmt) (u:US):Prop where
 ex:∃ t,QS X st t/\RS X.K t u
structure YB (X:Cx) (sts:List Stmt) (u:US):Prop where
 ex:∃ t,QB X sts t/\RS X.K t u
namespace Y
noncomputable def kv(μ:Mu)(i:Nat):Prop:=match μ[i]? with
 |some (.pb _)=>False
 |_=>True
theorem fJ(h:kv μ i):∀ c,μ[i]?≠some (.pb c):=fun c e=>by unfold kv at h;rw[e] at h;exact h
noncomputable def gN(i:Nat):UG:=fun r μ Q=>match r with
 |.tr t=>kv μ i/\Q (μ.set i (.tr t))
 |.fr c=>kv μ i/\Q (μ.set i (.bx c))
 |.br _=>False
section
variable {X:Cx} {a b c e o tg:Expr} {es rest:List Expr} {ua ub uc ue uo:UE} {uA uB:UT} {us:UA} {pos pos' p p2 p3:Pos} {x:Str} {st:Stmt} {sts xs ys:List Stmt} {u w:US}
theorem nM:RG K (bU i) (gN i):=fun F ad B σ H μ v r B0 H0 Q Qt hK h f q k=>by
 cases r with
 |tr t=>exact k ad B _ H _ (h.1.vZ (fJ q.1) h.2) f q.2
 |br i=>exact q.elim
 |fr c =>
  obtain⟨l,a,rfl,n,h0,l2,x⟩:=h;exact k _ _ _ H _ (l2.setB (fJ q.1) h0 n l.own l.gB x) f q.2
theorem bW(hN:X.N.Nodup)(hi:X.N[i]?=some x)(hx:Loc X.env.scope x)(hf:autoParam (X.fn x=true\/X.env.scope.names.lookup x=some .local) ℜ2):YG X (.Name x pos) (gN i):=⟨_,Z.bW hN hi hx hf,nM⟩
noncomputable def CJ:nj:=fun ts μ Q=>match ts with
 |[]=>Q μ
 |_=>False
noncomputable def C0(g:UG)(gs:nj):nj:=fun ts μ Q=>match ts with
 |[]=>False
 |t::ts=>g (.tr t) μ fun μ'=>gs ts μ' Q
theorem mW:Br X [] CJ:=⟨_,Z.mW,fun F ad B σ H μ vs ts B0 H0 Q Qt hK l r f q k=>by
 cases r with
 |nil=>exact⟨rfl,k ad B σ H μ l f q⟩
 |cons=>exact q.elim⟩
theorem eM{g:UG}{gs:nj}(h1:YG X e g)(h2:Br X es gs)(hs:autoParam ((assignEach (e::es) X.env).map (·.2)=assign e X.env::(assignEach es X.env).map (·.2)) ℜ0):Br X (e::es) (C0 g gs):=by
 obtain⟨t,q,r⟩:=h1;obtain⟨t',q',r'⟩:=h2;refine⟨_,Z.eM q q' hs,fun F ad B σ H μ vs ts B0 H0 Q Qt hK l rs f q k=>?_⟩
 cases rs with
 |nil=>exact q.elim
 |cons h hr=>exact⟨_,_,rfl,r F ad B σ H μ _ (.tr _) B H _ _ hK ⟨l,h⟩ Fr.refl q fun ad' B' σ' H' μ' l' f' q'=>r' F ad' B' σ' H' μ' _ _ B0 H0 _ _ hK l' (hr.fr f') (f.trans f') q' k⟩
noncomputable def gT(n:Nat)(gs:nj):UG:=fun r μ Q=>match cont μ r.d with
 |some (.tup ts)=>ts.length=n/\gs ts μ Q
 |some (.lst ts)=>ts.length=n/\gs ts μ Q
 |_=>False
noncomputable def BE(K:Ih)(n:Nat)(t:pD):TG:=fun v σ H Q=>∃ a xs,v=.ref a/\(b6 K H a xs\/a_ K H a xs)/\xs.length=n/\t xs σ H Q
theorem jh{prog:Program}{w:World}{A:Around}{E:Value->Shared->Prop}{t:Addr}(hne:t≠it):∀(n i:Nat) (s:Shared) (Q:List Value->Shared->Prop),s.heap.IsListIter it t i->s.heap.IsList t items->i+n<=items.size ->
  (∀ h',h'.IsListIter it t (i+n)->Heap.SameBut it s.heap h'->Q ((items.toList.drop i).take n) {s with heap:=h'})->wpAny (model prog w) A (draw (.ref it) n) Q E s
 |0,i,s,Q,hit,_,_,hQ=>by
  show wpAny _ _ (pure []) Q E s;exact EL (by simpa using hQ s.heap hit (Heap.SameBut.refl ..))
 |n+1,i,s,Q,hit,ht,hle,hQ=>by
  have hlt:i<items.size:=by lia
  show wpAny _ _ (pyNext (.ref it) >>= _) Q E s;refine EA (HH hit ht (x:=items[i]) (by simp[hlt]) fun h₁ hit₁ hs₁=>?_)
  refine EA (FE (jh hne n (i+1) _ _ hit₁ (ht.extBut hs₁.extBut hne) (by lia) fun h₂ hit₂ hs₂=>EL ?_))
  have hd:items.toList.drop i=items[i]::items.toList.drop (i+1):=by simp[GJ,hlt]
  have:=hQ h₂ (by rw[show i+(n+1)=i+1+n by lia];exact hit₂) (hs₁.trans hs₂)
  rw[hd,List.take_succ_cons] at this;exact this
theorem fS{w:World}{A:Around}{t:Addr}{Q:List Value->Shared->Prop}(hh:A.handled=none)(ht:s.heap.IsList t items)
  (hQ:∀ h',Heap.ExtBut s.heap.objs.size s.heap h'->Q items.toList {s with heap:=h'}):wpAny (model prog w) A (unpackItems (.ref t) items.size none) Q E s:=by
 have hlt:t≠s.heap.objs.size:=by obtain⟨o,ho,_⟩:=ht;exact Fd (ER ho)
 unfold unpackItems;refine EA ?_
 ·unfold notIterableAtAll;refine EA (wpAny_specialOf ht.typeIs F.slot_list_iter.lookup ?_);refine EL ?_;simp only[Hm,HW];refine EA (FE (FZ ht ?_));refine EA (FE (jh hlt items.size 0 _ _ ⟨_,EV _ rfl,rfl,rfl⟩ (ht.push _) (by lia) fun h₁ hit₁ hs₁=>?_))
  have hall:List.take items.size (List.drop 0 items.toList)=items.toList:=by
   rw[GA];exact Gx (by simp)
  rw[hall];rw[EB (by simp)]
  have ht₁:h₁.IsList t items:=(ht.push _).extBut hs₁.extBut hlt;refine EA (FE (wpAny_pyNext_list_end hh hit₁ ht₁ (by simp) fun h₂ he₂=>?_))
  simp only[Option.isSome_none,Hm,HW];refine EL (hQ h₂ fun b o hb e=>he₂ b o hb (hs₁.extBut b o hb (EC _ e)))
theorem uV{t:pD}(hc:X.calm=true)(h:zY X es t)
  (hn:autoParam ((assignEach es X.env).length=n) ℜ0) (hst:autoParam ((assignEach es X.env).findIdx? (·.1)=none) ℜ0):PG X (.Tuple es k pos) (BE X.K n t):=by
 intro pins s σ H v u Q I r hw;obtain⟨a,xs,e1,hq,hl,hw⟩:=hw;rcases hq with hq|hq
 ·exact rG hc h hn hst pins s σ H v u Q I r ⟨a,xs,e1,hq,hl,hw⟩
 ·subst e1;cases r;obtain⟨ah,rv,ht,hz⟩:=I.list hq;rw[assign_Tuple];refine EA (HY ?_);unfold unpack;have hsz:(assignEach es X.env).length=ah.toArray.size:=by rw[hn,<- hl,rv.length];simp
  rw[hsz,hst];refine EA (FE (fS (I.ok.hd hc) ht.isList fun h' hx=>?_));have I1:Inv X pins σ H {s with heap:=h'}:=I.kept (t':=s.toks) fun b o e=>hx b o (Fd (ER e)) e
  exact h pins _ σ H xs _ Q I1 (by simpa using rv) hw
theorem xc(K:Ih)(hK:X.K=K){gs:nj}(hc:X.calm=true)(h:Br X es gs)(hn:autoParam ((assignEach es X.env).length=n) ℜ0)(hst:autoParam ((assignEach es X.env).findIdx? (·.1)=none) ℜ0):YG X (.Tuple es k pos) (gT n gs):=by
 obtain⟨t,q,r⟩:=h;subst hK;refine⟨_,⟨uV hc q.h hn hst⟩,fun F ad B σ H μ v rr B0 H0 Q Qt hF h f q k=>?_⟩;have l:=h.rl;have f':Fr B0 H0 B H:=fun b o h n=>⟨(f b o h n).1,fun z=>(f b o h n).2 (by cases rr<;>first|exact z | (cases v<;>first|exact z|exact .inr z))⟩
 unfold gT at q
 split at q
 ·rename_i ts e;have w:=h.hv.vw l e;rw[hF] at w;obtain⟨_,_,rfl,ha,ra⟩:=Vw.tupI w;exact⟨_,_,rfl,.inl (b6.of ha),by rw[ra.length];exact q.1,r F ad B σ H μ _ ts B0 H0 Q Qt hF l (by rw[hF];exact ra) f' q.2 k⟩
 ·rename_i ts e;have w:=h.hv.vw l e;rw[hF] at w;obtain⟨_,_,rfl,ha,ra⟩:=Vw.cW w;exact⟨_,_,rfl,.inr (a_.of ha),by rw[ra.length];exact q.1,r F ad B σ H μ _ ts B0 H0 Q Qt hF l (by rw[hF];exact ra) f' q.2 k⟩
 ·exact q.elim
theorem bM:YB X [] (fun E μ=>E.nx μ):=⟨_,Z.bM,fun F D E ad B σ H μ hK l q h=>h.nx ad B σ H μ l Fr.refl q⟩
theorem aE(h:YS X st u):YB X [st] u:=by obtain⟨t,q,r⟩:=h;exact⟨t,Z.aE q,r⟩
noncomputable def zo(u w:US):US:=fun E μ=>u {E with nx:=w E} μ
theorem ao(h:YS X st u)(h2:YB X sts w):YB X (st::sts) (zo u w):=by
 obtain⟨t,q,r⟩:=h;obtain⟨t',q',r'⟩:=h2;exact⟨_,Z.ao q q',fun F D E ad B σ H μ hK l q h=>r F {D with nx:=t' D} {E with nx:=w E} ad B σ H μ hK l q
  ⟨fun ad1 B1 σ1 H1 μ1 l1 f1 q1=>r' F D E ad1 B1 σ1 H1 μ1 hK l1 q1 (h.step f1),h.rt,h.bk,h.ct⟩⟩
noncomputable def jE(ue:UE)(g:UG):US:=fun E μ=>ue μ fun r μ'=>g r μ' E.nx
theorem m6{tg:TG}{g:UG}(he:RE K te ue)(hg:RG K tg g):RS K (lj te tg) (jE ue g):=fun F D E ad B σ H μ hK l q h =>
 he F ad B σ H μ _ _ hK l q fun v H' r μ' v1 f k1 q1=>hg F ad B σ H' μ' v r B H _ _ hK v1 f q1 fun ad' B' σ' H2 μ2 l2 f2 q2=>h.nx ad' B' σ' H2 μ2 l2 f2 q2
theorem set(hN:X.N.Nodup)(hi:X.N[i]?=some x)(hx:Loc X.env.scope x)(he:YE X e ue)(hs:autoParam (Z.za e=true) ℜ0)(hf:autoParam (X.fn x=true\/X.env.scope.names.lookup x=some .local) ℜ2):
  YS X (.Assign [.Name x pos'] e pos) (jE ue (gN i)):=by
 obtain⟨t,q,r⟩:=he;exact⟨_,Z.set hN hi hx q hs hf,m6 r nM⟩
theorem asg{g:UG}(he:YE X e ue)(hg:YG X tg g)(hs:autoParam (swapsWithSole [tg] e pos.line X.env=pure false) ℜ0)(hw:autoParam (swappedStores [tg] e X.env=pure none) ℜ0)
  (h1:autoParam ((assignEach [tg] X.env).map (·.2)=[assign tg X.env]) ℜ0):YS X (.Assign [tg] e pos) (jE ue g):=by
 obtain⟨t,q,r⟩:=he;obtain⟨t',q',r'⟩:=hg;exact⟨_,Z.asg q q' hs hw h1,m6 r r'⟩
noncomputable def tQ(ue:UE):US:=fun E μ=>ue μ E.rt
theorem ret(he:YE X e ue):YS X (.Return (some e) pos) (tQ ue):=by
 obtain⟨t,q,r⟩:=he;exact⟨_,Z.ret q,fun F D E ad B σ H μ hK l q h=>r F ad B σ H μ _ _ hK l q fun v H' r1 μ' v1 f k1 q1=>h.rt ad B σ H' μ' v r1 v1 q1⟩
noncomputable def nY(ue:UE):US:=fun E μ=>ue μ fun _ μ'=>E.nx μ'
theorem expr(he:YE X e ue)(hs:autoParam (Z.za e=true) ℜ0):YS X (.Expr e pos) (nY ue):=by
 obtain⟨t,q,r⟩:=he;exact⟨_,Z.expr q hs,fun F D E ad B σ H μ hK l q h=>r F ad B σ H μ _ _ hK l q fun v H' r1 μ' v1 f k1 q1=>h.nx ad B σ H' μ' v1.rl f.d q1⟩
noncomputable def ud(c:UT)(u w:US):US:=fun E μ=>c μ fun b μ'=>if b=true then u E μ' else w E μ'
theorem fh(hc:YT X c uA)(ha:YB X xs u)(hb:YB X ys w):YS X (.If c xs ys pos) (ud uA u w):=by
 obtain⟨tc,qc,rc⟩:=hc;obtain⟨t,q,r⟩:=ha;obtain⟨t',q',r'⟩:=hb;refine⟨_,Z.fh qc q q',fun F D E ad B σ H μ hK l q h=>rc F ad B σ H μ _ _ hK l q fun b H' μ' l1 f k1 q1=>?_⟩
 cases b with
 |true=>rw[EI rfl] at q1 ⊢;exact r F D E ad B σ H' μ' hK l1 q1 (h.step f)
 |false=>rw[EB EF] at q1 ⊢;exact r' F D E ad B σ H' μ' hK l1 q1 (h.step f)
end
end Y
structure ju (K:Ih) (J:It) (Src:Hp->aB->Prop) (items:List T):Prop where
 step:∀ H B i t,(∀ b,B b->∃ o,H b=some o)->Src H B->items[i]?=some t->J.go i H/\∀ x H2,J.tJ i H x H2->bK H H2/\Rep K H2 B x t
 stop:∀ H B,Src H B->J.stop items.length H
theorem ju.imp{J:It}{Src Src':Hp->aB->Prop}{items:List T}(h:ju K J Src items)(f:∀ H B,Src' H B->Src H B):ju K J Src' items:=⟨fun H B i t hb s e=>h.step H B i t hb (f H B s) e,fun H B s=>h.stop H B (f H B s)⟩
noncomputable def Ao(F:Fx)(ad:Nat->Addr)(Src:Hp->aB->Prop):Option (Nat×List T)->Prop
 |none=>∀ B1 H1 B2 H2,Fr B1 H1 B2 H2->Src H1 B1->Src H2 B2
 |some (j,ls)=>(∀ B' σ' H' μ',Rl F ad B' σ' H' μ'->cont μ' (.br j)=some (.lst ls)->Src H' B')/\∀ B' H',Rep F.K H' B' (.ref (ad j)) (.lst ls)->Src H' B'
abbrev UI:=Mu->(List T->Option (Nat×List T)->Mu->Prop)->Prop
variable{ui:UI}
noncomputable def RI(K:Ih)(wi:TI)(ui:UI):Prop:=∀(F:Fx) (ad:Nat->Addr) (B:aB) (σ:St) (H:Hp) (μ:Mu) (R:It->Hp->Prop) (Rt:List T->Option (Nat×List T)->Mu->Prop),F.K=K->Rl F ad B σ H μ->ui μ Rt ->
 (∀ J H' μ' items gd Src,Rl F ad B σ H' μ'->Fr B H B H'->Kp μ μ'->ju K J Src items->Src H' B->Ao F ad Src gd->(∀ j ls,gd=some (j,ls)->cont μ' (.br j)=some (.lst ls))->Rt items gd μ'->R J H')->wi σ H R
structure YI (X:Cx) (tg it:Expr) (u:UI):Prop where
 ex:∃ t,QI X tg it t/\RI X.K t u
theorem sk:ju K (nU K a) (fun H B=>∃ vs,a_ K H a vs/\ak K H B vs ts) ts:=
 ⟨fun H B i t hb ⟨vs,h,r⟩ e=>by
  obtain⟨v,e1,rv⟩:=r.get e;refine⟨⟨vs,v,h,e1⟩,fun x H2 y=>?_⟩;obtain⟨rfl,y⟩:=y;have:=y vs h;rw[e1] at this;cases this;exact⟨bK.refl _,rv⟩,fun H B ⟨vs,h,r⟩=>⟨vs,h,by rw[r.length];exact EH _⟩⟩
theorem ye:ju K (tD K a) (fun H B=>∃ vs,b6 K H a vs/\ak K H B vs ts) ts:=
 ⟨fun H B i t hb ⟨vs,h,r⟩ e=>by
  obtain⟨v,e1,rv⟩:=r.get e;refine⟨⟨vs,v,h,e1⟩,fun x H2 y=>?_⟩;obtain⟨rfl,y⟩:=y;have:=y vs h;rw[e1] at this;cases this;exact⟨bK.refl _,rv⟩,fun H B ⟨vs,h,r⟩=>⟨vs,h,by rw[r.length];exact EH _⟩⟩
theorem yg{lo:Int}:ju K (t5 lo n) (fun _ _=>True) ((List.range n).map fun k=>T.int (lo+(k:Nat))):=
 ⟨fun H B i t hb _ e=>by
  rw[Fh] at e;have hi:i<n:=by
   rcases Ic i n with z|z
   ·exact z
   ·rw[FT.mpr (by simpa using z)] at e;cases e
  rw[List.getElem?_range hi] at e;refine⟨hi,fun x H2 y=>?_⟩;obtain⟨rfl,rfl⟩:=y;cases e;exact⟨bK.refl _,.int _⟩,fun H B _=>by simp[t5]⟩
noncomputable def Df(K:Ih)(tl:TE):TI:=fun σ H R=>tl σ H fun x H1=>∃ a,x=V.ref a/\(((∃ xs,a_ K H1 a xs)/\R (nU K a) H1)\/((∃ xs,b6 K H1 a xs)/\R (tD K a) H1))
theorem y_(hl:PE X l tl):PI X tg l (Df X.K tl):=by
 intro pins s σ H R I h;refine bg (hl pins s σ H _ I h) fun v s1 hq2=>?_;obtain⟨x,H1,I1,r1,q1⟩:=hq2;obtain⟨a,rfl,q⟩:=q1;cases r1;rcases q with ⟨⟨xs,hq⟩,q⟩|⟨⟨xs,hq⟩,q⟩
 ·obtain⟨ah,rv,p,hz⟩:=I1.list hq;refine FZ p.isList ?_;refine⟨s1.heap.objs.size,[s1.heap.objs.size],_,_,H1,rfl,I1.kept (t':=s1.toks) fun b o e=>EC _ e,iP a _,⟨_,EV _ rfl,rfl,rfl⟩,fun b hb=>?_,q⟩;have e:b=s1.heap.objs.size:=by simpa using hb
  subst e;exact I1.oX (EH _) (I1.aM.fresh (EH _))
 ·obtain⟨ah,rv,p,hz⟩:=I1.tuple hq;refine Gf (show s1.heap.IsTuple a ah.toArray from p) ?_;refine⟨s1.heap.objs.size,[s1.heap.objs.size],_,_,H1,rfl,I1.kept (t':=s1.toks) fun b o e=>EC _ e,gW a _,⟨_,EV _ rfl,rfl,rfl⟩,fun b hb=>?_,q⟩;have e:b=s1.heap.objs.size:=by simpa using hb
  subst e;exact I1.oX (EH _) (I1.aM.fresh (EH _))
namespace Y
section
variable {X:Cx} {a b c e o tg it:Expr} {es rest:List Expr} {ua ub uc ue uo:UE} {uA uB:UT} {us:UA} {pos pos' p p2 p3:Pos} {x:Str} {st:Stmt} {sts xs ys:List Stmt} {u w:US}
noncomputable def we(ue:UE):UI:=fun μ Rt=>ue μ fun r μ'=>match r with
 |.br j=>(match cont μ' (.br j) with|some (.lst ts)=>Rt ts (some (j,ts)) μ'|_=>False)
 |.tr (.lst ts)=>Rt ts none μ'
 |.fr (.lst ts)=>Rt ts none μ'
 |.tr (.tup ts)=>Rt ts none μ'
 |.tr (.eu ts)=>Rt ts none μ'
 |.tr (.dW ts)=>Rt ts none μ'
 |_=>False
theorem any(K:Ih)(hK:X.K=K)(he:YE X e ue):YI X tg e (we ue):=by
 obtain⟨t,q,r⟩:=he;subst hK;refine⟨_,⟨y_ q.h⟩,fun F ad B σ H μ R Rt hF l q k=>r F ad B σ H μ _ _ hF l q fun v H' r1 μ' v1 f k1 q1=>?_⟩;have hv:=v1.hv;have l1:=v1.rl;have go:∀(ts:List T) (a:Addr) (t:T),v=.ref a->Rep F.K H' B (.ref a) t->(t=.lst ts\/t=.eu ts)->Rt ts none μ'->∃ a,v=V.ref a/\(((∃ xs,a_ X.K H' a xs)/\R (nU X.K a) H')\/((∃ xs,b6 X.K H' a xs)/\R (tD X.K a) H')):=fun ts a t ev rp et q=>by
  have sr:∀ H B,Rep F.K H B (.ref a) t->∃ vs,a_ X.K H a vs/\ak X.K H B vs ts:=fun H B h=>by
   rw[hF] at h;rcases et with rfl|rfl
   ·obtain⟨_,n,h,r⟩:=Rep.Cf h;exact⟨_,a_.of h,r⟩
   ·obtain⟨_,h,r⟩:=Rep.DG h;exact⟨_,h.sq,r⟩
  obtain⟨vs,h1,_⟩:=sr _ _ rp;exact⟨a,ev,.inl ⟨⟨vs,h1⟩,k _ H' μ' ts none (fun H B=>Rep F.K H B (.ref a) t) l1 f.d k1 (sk.imp sr) rp (fun B1 H1 B2 H2 f h=>h.fr f) (fun j ls z=>by cases z) q⟩⟩
 have goT:∀(ts:List T) (a:Addr) (t:T),v=.ref a->Rep F.K H' B (.ref a) t->(t=.tup ts\/t=.dW ts)->Rt ts none μ'->∃ a,v=V.ref a/\(((∃ xs,a_ X.K H' a xs)/\R (nU X.K a) H')\/((∃ xs,b6 X.K H' a xs)/\R (tD X.K a) H')):=fun ts a t ev rp et q=>by
  have sr:∀ H B,Rep F.K H B (.ref a) t->∃ vs,b6 X.K H a vs/\ak X.K H B vs ts:=fun H B h=>by
   rw[hF] at h;rcases et with rfl|rfl
   ·obtain⟨_,n,h,r⟩:=Rep.mD h;exact⟨_,b6.of h,r⟩
   ·obtain⟨_,h,r⟩:=Rep.CU h;exact⟨_,.inr h,r⟩
  obtain⟨vs,h1,_⟩:=sr _ _ rp;exact⟨a,ev,.inr ⟨⟨vs,h1⟩,k _ H' μ' ts none (fun H B=>Rep F.K H B (.ref a) t) l1 f.d k1 (ye.imp sr) rp (fun B1 H1 B2 H2 f h=>h.fr f) (fun j ls z=>by cases z) q⟩⟩
 split at q1
 ·rename_i j
  split at q1
  ·rename_i ts e;obtain⟨ev,s,c,e1,e2⟩:=hv;have src:∀ B' σ' H' μ',Rl F ad B' σ' H' μ'->cont μ' (.br j)=some (.lst ts)->∃ vs,a_ X.K H' (ad j) vs/\ak X.K H' B' vs ts:=fun B' σ' H' μ' l e=>by
    have e3:(μ'[j]?).bind Sl.box=some (.lst ts):=e
    cases q:μ'[j]? with
    |none=>rw[q] at e3;cases e3
    |some s' =>
     rw[q] at e3;have bx:=((l.slot j s' q).boxed (c:=.lst ts) e3).2.2.1;rw[hF] at bx;obtain⟨vs,h1,h2⟩:=bx;exact⟨vs,a_.of h1,h2⟩
   obtain⟨vs,h1,h2⟩:=src _ _ _ _ l1 e;refine⟨ad j,ev,.inl ⟨⟨vs,h1⟩,k _ H' μ' ts (some (j,ts)) _ l1 f.d k1 sk ⟨vs,h1,h2⟩ ⟨src,fun B' H' h=>?_⟩ (fun j' ls z=>by cases z;exact e) q1⟩⟩
   rw[hF] at h;obtain⟨_,n,h,r⟩:=Rep.Cf h;exact⟨_,a_.of h,r⟩
  ·exact q1.elim
 ·have rp:Rep F.K H' B v _:=hv;obtain⟨_,_,rfl,n,h,r⟩:=Rep.cW rp;exact go _ _ _ rfl (.lst n h r) (.inl rfl) q1
 ·have rp:Rep F.K H' B v _:=hv;obtain⟨_,_,rfl,n,h,r⟩:=Rep.cW rp;exact go _ _ _ rfl (.lst n h r) (.inl rfl) q1
 ·have rp:Rep F.K H' B v _:=hv;obtain⟨_,_,rfl,n,h,r⟩:=Rep.tupI rp;exact goT _ _ _ rfl (.tup n h r) (.inl rfl) q1
 ·have rp:Rep F.K H' B v _:=hv;obtain⟨_,_,rfl,h,r⟩:=Rep.qM rp;exact go _ _ _ rfl (.eu h r) (.inr rfl) q1
 ·have rp:Rep F.K H' B v _:=hv;obtain⟨_,_,rfl,h,r⟩:=Rep.om rp;exact goT _ _ _ rfl (.dW h r) (.inr rfl) q1
 ·exact q1.elim
noncomputable def Cz(us:UA):UI:=fun μ Rt=>us μ fun rs μ'=>match rs with
 |[.tr (.int j)]=>-(2^62)<=j/\j<2^62/\Rt ((List.range j.toNat).map fun k=>T.int (0+(k:Nat))) none μ'
 |_=>False
theorem rD(hg:Gl X "range")(hm:X.mg "range"=none)(ha:YA X [a] us)(h:autoParam (cN a=true) ℜ0):YI X tg (.Call (.Name "range" p) [a] [] pos) (Cz us):=by
 obtain⟨t,q,r⟩:=ha;refine⟨_,Z.rD hg hm q h,fun F ad B σ H μ R Rt hF l q k=>r F ad B σ H μ _ _ hF l q fun vs H' rs μ' l1 ps f k1 q1=>?_⟩
 split at q1
 ·obtain⟨_,_,rfl,h1,ps⟩:=Paired.aC ps
  cases ps;cases cV h1;exact⟨_,rfl,q1.1,q1.2.1,k _ H' μ' _ none _ l1 f k1 yg trivial (fun _ _ _ _ _ _=>trivial) (fun j ls z=>by cases z) q1.2.2⟩
 ·exact q1.elim
noncomputable def eC(g:UG)(body:US)(E:Ed):List T->Mu->Prop
 |[],μ=>E.nx μ
 |t::ts,μ=>g (.tr t) μ fun μ1=>body {E with nx:=eC g body E ts,ct:=eC g body E ts,bk:=E.nx} μ1
noncomputable def uy(ui:UI)(g:UG)(body:US):US:=fun E μ=>ui μ fun items gd μ'=>match gd with
 |none=>eC g body E items μ'
 |some (j,_)=>(match μ'[j]? with
  |some (.bx c)=>eC g body E items (μ'.set j (.tr c))
  |_=>False)
theorem kK{g:TG}{ug:UG}{tb:TS}{body:US}{E:Ed}{J:It}{Src:Hp->aB->Prop}{items:List T}{B0:aB}{H0:Hp}(hF:F.K=K)(hg:RG K g ug)(hb:RS K tb body)(it:ju K J Src items)
  (pe:∀ B1 H1 B2 H2,Fr B1 H1 B2 H2->Src H1 B1->Src H2 B2) (hE:kL F B0 H0 D E)      (l:Rl F ad B σ H μ) (f:Fr B0 H0 B H) (sr:Src H B) (q:eC ug body E items μ) :
  ∃ W:Nat->Nat->St->Hp->Prop,(∃ m,W 0 m σ H)/\∀ i m σ H,W i m σ H ->
   (J.stop i H/\D.nx σ H)\/(J.go i H/\∃ N:St->Hp->Prop,(∀ σ' H',N σ' H'->∃ m',m'<m/\W (i+1) m' σ' H')/\∀ x H',J.tJ i H x H'->g x σ H' fun σ2 H2=>tb {D with nx:=N,ct:=N,bk:=D.nx} σ2 H2):=by
 refine⟨fun i m σ H=>m=items.length-i/\i<=items.length/\∃ ad B μ,Rl F ad B σ H μ/\Fr B0 H0 B H/\Src H B/\eC ug body E (items.drop i) μ,⟨items.length,by simp,Fo _,ad,B,μ,l,f,sr,q⟩,?_⟩
 rintro i m σ H ⟨rfl,hi,ad,B,μ,l,f,sr,q⟩;by_cases hlt:i<items.length
 ·have ei:items[i]?=some items[i]:=EK hlt;rw[GJ hlt] at q;obtain⟨go,yl⟩:=it.step H B i _ l.aU sr ei;refine .inr ⟨go,fun σ' H'=>∃ ad' B' μ',Rl F ad' B' σ' H' μ'/\Fr B0 H0 B' H'/\Src H' B'/\eC ug body E (items.drop (i+1)) μ',fun σ' H' h=>⟨items.length-(i+1),by lia,rfl,hlt,h⟩,fun x H2 y=>?_⟩
  obtain⟨sm,rp⟩:=yl x H2 y;refine hg F ad B σ H2 μ x (.tr _) B H2 _ _ hF ⟨l.same sm,by show Rep F.K H2 B x _;rw[hF];exact rp⟩ Fr.refl q fun ad3 B3 σ3 H3 μ3 l3 f3 q3=>?_
  have f03:Fr B0 H0 B3 H3:=(f.trans (Fr.same sm)).trans f3;have s3:Src H3 B3:=pe _ _ _ _ ((Fr.same sm).trans f3) sr;exact hb F _ _ ad3 B3 σ3 H3 μ3 hF l3 q3 ⟨fun ad' B' σ' H' μ' l' f' q'=>⟨ad',B',μ',l',f03.trans f',pe _ _ _ _ f' s3,q'⟩,hE.rt,fun ad' B' σ' H' μ' l' f' q'=>hE.nx ad' B' σ' H' μ' l' (f03.trans f') q',fun ad' B' σ' H' μ' l' f' q'=>⟨ad',B',μ',l',f03.trans f',pe _ _ _ _ f' s3,q'⟩⟩
 ·have e:i=items.length:=by lia
  subst e;rw[List.drop_length] at q;exact .inl ⟨it.stop H B sr,hE.nx ad B σ H μ l f q⟩
theorem kY{g:UG}(hp:PassesOwn (model X.prog X.w) X.A X.env X.xe)(hc:X.calm=true)(hi:YI X tg it ui)(hg:YG X tg g)(hb:YB X xs u)(hs:autoParam (∀ x,foldedSetIterable it X.env x=pure x) ℜ3):YS X (.For tg it xs [] pos) (uy ui g u):=by
 obtain⟨ti,qi,ri⟩:=hi;obtain⟨tg',qg,rg⟩:=hg;obtain⟨t,q,r⟩:=hb;refine⟨_,Z.kY hp hc qi qg q hs,fun F D E ad B σ H μ hF l q h=>ri F ad B σ H μ _ _ hF l q fun J H' μ' items gd Src l1 f1 k1 it sr so gok q1=>?_⟩
 split at q1
 ·exact kK hF rg r it so h l1 f1 sr q1
 ·rename_i j ls
  split at q1
  ·rename_i c ej;have bx:=l1.slot j _ ej;have hc:¬ F.Bc (ad j):=fun z=>by
    obtain⟨o,e⟩:=F.bh _ z;rw[bx.2.2.1] at e;cases e
   obtain⟨l2,rp⟩:=l1.freeze ej hc;have ec:c=.lst ls:=by
    have:=gok j ls rfl;have e2:(μ'[j]?).bind Sl.box=some (.lst ls):=this;rw[ej] at e2;exact Option.some.inj e2
   subst ec;exact kK (Src:=fun H B=>Rep F.K H B (.ref (ad j)) (.lst ls)) hF rg r (it.imp fun H B h=>so.2 B H h) (fun B1 H1 B2 H2 f h=>h.fr f) h l2 (f1.trans (Fr.less fun b z=>z.1)) rp q1
  ·exact q1.elim
end
end Y
noncomputable def vU(K:Ih)(u:UE):TE:=fun σ H Q=>∃(F:Fx) (ad:Nat->Addr) (B:aB) (μ:Mu) (Qt:R->Mu->Prop),F.K=K/\Rl F ad B σ H μ/\u μ Qt/\∀ v H' r μ',Vr F ad B σ H' μ' v r->Fr B H (Bv B v r) H'->Kp μ μ'->Qt r μ'->Q v H'
noncomputable def uj(K:Ih)(u:UT):TT:=fun σ H Q=>∃(F:Fx) (ad:Nat->Addr) (B:aB) (μ:Mu) (Qt:Bool->Mu->Prop),F.K=K/\Rl F ad B σ H μ/\u μ Qt/\∀ b H' μ',Rl F ad B σ H' μ'->Fr B H B H'->Kp μ μ'->Qt b μ'->Q b H'
theorem YE.lz{e:Expr}{u:UE}(h:YE X e u):QE X e (vU X.K u):=⟨fun pins s σ H Q I hh=>by
 obtain⟨F,ad,B,μ,Qt,hF,l,q,k⟩:=hh;obtain⟨t,qe,r⟩:=h;exact qe.h pins s σ H Q I (r F ad B σ H μ Q Qt hF l q k)⟩
theorem zN.lz{e:List Expr}{u:UT}(h:zN X e u):By X e (uj X.K u):=⟨fun pins s σ H Q I hh=>by
 obtain⟨F,ad,B,μ,Qt,hF,l,q,k⟩:=hh;obtain⟨t,qe,r⟩:=h;exact qe.h pins s σ H Q I (r F ad B σ H μ Q Qt hF l q k)⟩
theorem wt{u:UE}:RE K (vU K u) u:=fun F ad B σ H μ Q Qt hF l q k=>⟨F,ad,B,μ,Qt,hF,l,q,k⟩
theorem wZ{u:UT}:RT K (uj K u) u:=fun F ad B σ H μ Q Qt hF l q k=>⟨F,ad,B,μ,Qt,hF,l,q,k⟩
noncomputable def Fx.sh(F:Fx):Fx:={F with P:=fun i=>match i with|0=>none|i+1=>F.P i}
noncomputable def Ai(ad:Nat->Addr):Nat->Addr:=fun i=>match i with|0=>0|i+1=>ad i
theorem Rl.push{x:V}{t:T}(l:Rl F ad B σ H μ)(h:Rep F.K H B x t):Rl F.sh (Ai ad) B (some x::σ) H (.tr t::μ):=by
 refine⟨Fc (·+1) l.len,fun i s e=>?_,fun i j s u c d e1 e2 b1 b2 q=>?_,fun i a p=>?_,l.bc,l.aU,fun b o e n=>l.old b o e fun i z=>n (i+1) z,fun a ws ga=>?_⟩
 ·cases i with
  |zero =>
   have e':Sl.tr t=s:=by simpa using e
   subst e';exact⟨x,rfl,h⟩
  |succ i=>exact l.slot i s (by simpa using e)
 ·cases i with
  |zero =>
   have e':Sl.tr t=s:=by simpa using e1
   subst e';cases b1
  |succ i=>cases j with
   |zero =>
    have e':Sl.tr t=u:=by simpa using e2
    subst e';cases b2
   |succ j=>exact Fc (·+1) (l.inj i j s u c d (by simpa using e1) (by simpa using e2) b1 b2 q)
 ·cases i with
  |zero=>cases p
  |succ i=>obtain⟨⟨c,e⟩,z⟩:=l.par i a p;exact⟨⟨c,by simpa using e⟩,z⟩
 ·obtain⟨g1,g2,g3⟩:=l.gh a ws ga;refine⟨g1,g2,fun i s c e b=>?_⟩
  cases i with
  |zero =>
   have e':Sl.tr t=s:=by simpa using e
   subst e';cases b
  |succ i=>exact g3 i s c (by simpa using e) b
theorem Rl.ze{y:Option V}(l:Rl F.sh (Ai ad) B (y::σ) H μ):Rl F ad B σ H μ.tail:=by
 have get:∀ i,μ.tail[i]?=μ[i+1]?:=fun i=>by cases μ<;>simp
 refine⟨?_,fun i s e=>?_,fun i j s u c d e1 e2 b1 b2 q=>?_,fun i a p=>?_,l.bc,l.aU,fun b o e n=>l.old b o e fun i z=>?_,fun a ws ga=>let ⟨g1,g2,g3⟩:=l.gh a ws ga;⟨g1,g2,fun i s c e b=>g3 (i+1) s c (by rw[<- get];exact e) b⟩⟩
 ·have:=l.len;rw[List.length_tail,this];rfl
 ·rw[get] at e;exact l.slot (i+1) s e
 ·rw[get] at e1 e2;exact Nat.succ.inj (l.inj (i+1) (j+1) s u c d e1 e2 b1 b2 q)
 ·obtain⟨⟨c,e⟩,z⟩:=l.par (i+1) a p;exact⟨⟨c,by rw[get];exact e⟩,z⟩
 ·cases i with
  |zero=>cases z
  |succ i=>exact n i z
theorem Kp.tail{s:Sl}(k:Kp (s::μ) μ'):Kp μ μ'.tail:=fun i=>by
 have:=k (i+1);rw[GR] at this;rw[this]
 cases μ'<;>simp
noncomputable def Fx.g(F:Fx)(D:Addr)(ys:List V):Fx:={F with G:=fun b=>if b=D then some (.lst ys) else F.G b}
section
variable {F:Fx} {ad:Nat->Addr} {B:aB} {σ:St} {H:Hp} {μ:Mu} {D:Addr} {ys zs:List V}
theorem Rl.Dc(l:Rl F ad B σ H μ)(h:H D=some (.lst ys))(hb:B D)(n:∀(i:Nat) (s:Sl) (c:T),μ[i]?=some s->s.box=some c->ad i≠D):Rl (F.g D ys) ad B σ H μ:=by
 refine⟨l.len,l.slot,l.inj,l.par,l.bc,l.aU,l.old,fun a vs e=>?_⟩;have e':(if a=D then some (HO.lst ys) else F.G a)=some vs:=e
 by_cases z:a=D
 ·rw[EI z] at e';cases e';subst z;exact⟨h,hb,n⟩
 ·rw[EB z] at e';exact l.gh a vs e'
theorem Rl.Dt(l:Rl (F.g D ys) ad B σ H μ):H D=some (.lst ys)/\B D/\∀(i:Nat) (s:Sl) (c:T),μ[i]?=some s->s.box=some c->ad i≠D:=l.gh D (.lst ys) (show (if D=D then some (HO.lst ys) else F.G D)=some (.lst ys) from EI rfl)
theorem Rl.wR(l:Rl (F.g D ys) ad B σ H μ)(hg:F.G D=none):Rl F ad B σ H μ:=by
 refine⟨l.len,l.slot,l.inj,l.par,l.bc,l.aU,l.old,fun a vs e=>l.gh a vs ?_⟩;show (if a=D then some (HO.lst ys) else F.G a)=some vs
 rw[EB (by rintro rfl;rw[hg] at e;cases e)]
 exact e
theorem Rl.setG(l:Rl (F.g D ys) ad B σ H μ)(h0:F.H0 D=none):Rl (F.g D zs) ad B σ (upd H D (.lst zs)) μ:=by
 obtain⟨g1,g2,g3⟩:=l.Dt;have f:Fr B H B (upd H D (.lst zs)):=Fr.set g2;refine⟨l.len,fun i s e=>?_,l.inj,l.par,l.bc,fun b z=>?_,fun b o e n=>?_,fun a vs e=>?_⟩
 ·have k:=l.slot i s e;unfold fU at k ⊢
  split at k
  ·trivial
  ·obtain⟨v,e1,r1⟩:=k;exact⟨v,e1,r1.fr f⟩
  ·obtain⟨e1,b,z0,p,x⟩:=k;exact⟨e1,b,z0,p,x.of (af (g3 i _ _ e rfl)) f⟩
  ·obtain⟨e1,b,p,x⟩:=k;exact⟨e1,b,p,x.of (af (g3 i _ _ e rfl)) f⟩
 ·by_cases z':b=D
  ·subst z';exact⟨_,ae⟩
  ·rw[af z'];exact l.aU b z
 ·rw[af (by rintro rfl;have e':F.H0 _=some o:=e;rw[h0] at e';cases e')]
  exact l.old b o e n
 ·have e':(if a=D then some (HO.lst zs) else F.G a)=some vs:=e
  by_cases z:a=D
  ·rw[EI z] at e';cases e';subst z;exact⟨ae,g2,g3⟩
  ·rw[EB z] at e';obtain⟨a1,a2,a3⟩:=l.gh a vs (show (if a=D then some (HO.lst ys) else F.G a)=some vs by rw[EB z];exact e')
   exact⟨by rw[af z];exact a1,a2,a3⟩
end
namespace Y
noncomputable def Az:Option (Nat×List T)->Mu->Prop
 |none,_=>True
 |some (j,ls),μ=>cont μ (.br j)=some (.lst ls)
noncomputable def kQ(gd:Option (Nat×List T))(own:T->Mu->Option Mu)(dr:Mu->Mu)(ut:UT)(ue:UE)(Q:R->Mu->Prop):List T->List T->Mu->Prop
 |[],acc,μ=>Az gd μ/\Q (.fr (.lst acc)) μ
 |t::r,acc,μ=>Az gd μ/\acc.length<sizeLine/\(match own t μ with
  |none=>False
  |some μ1=>ut μ1 fun b μ2=>if b=true then ue μ2 fun rr μ3=>(match rr.d with
    |.tr t'=>kQ gd own dr ut ue Q r (acc++[t']) (dr μ3)
    |_=>False) else kQ gd own dr ut ue Q r acc (dr μ2))
noncomputable def zy(t:T)(μ:Mu):Option Mu:=some (.tr t::μ)
noncomputable def rM(t:T)(μ:Mu):Option Mu:=match t with
 |.tup [a,b]=>some (.tr a::.tr b::μ)
 |_=>none
noncomputable def CQ(μ:Mu):Mu:=μ.tail
noncomputable def Di(μ:Mu):Mu:=μ.tail.tail
noncomputable def hG(own:T->Mu->Option Mu)(dr:Mu->Mu)(ui:UI)(ut:UT)(ue:UE):UE:=fun μ Q=>ui μ fun items gd μ'=>kQ gd own dr ut ue Q items [] μ'
structure mQ (K:Ih) (k:Nat) (g:TG) (own:T->Mu->Option Mu) (dr:Mu->Mu) (shF:Fx->Fx) (shA:(Nat->Addr)->Nat->Addr):Prop where
 fK:∀ F,(shF F).K=F.K
 step:∀(F:Fx) (ad:Nat->Addr) (B:aB) (σ:St) (H:Hp) (μ μ1:Mu) (x:V) (t:T) (σ':St) (Q:St->Hp->Prop),F.K=K->Rl F ad B σ H μ->Rep F.K H B x t->own t μ=some μ1->σ'.length=k->(∀ σ1,σ1.length=k->Rl (shF F) (shA ad) B (σ1++σ) H μ1->Q (σ1++σ) H)->g x (σ'++σ) H Q
 back:∀(F:Fx) (ad:Nat->Addr) (B:aB) (σ σ1:St) (H:Hp) (μ:Mu),σ1.length=k->Rl (shF F) (shA ad) B (σ1++σ) H μ->Rl F ad B σ H (dr μ)
 kp:∀(μ μ1 μ2:Mu) (t:T),own t μ=some μ1->Kp μ1 μ2->Kp μ (dr μ2)
theorem rV{α:Type _}{l:List α}(h:l.length=1):∃ y,l=[y]:=by
 rcases l with _|⟨a,_|⟨b,t⟩⟩
 ·cases h
 ·exact⟨a,rfl⟩
 ·cases h
theorem lC{α:Type _}{l:List α}(h:l.length=2):∃ y z,l=[y,z]:=by
 rcases l with _|⟨a,t⟩
 ·cases h
 ·obtain⟨b,rfl⟩:=rV (Nat.succ.inj h);exact⟨a,b,rfl⟩
theorem tG{α:Type _}{l:List α}(h:l.length=3):∃ x y z,l=[x,y,z]:=by
 rcases l with _|⟨a,t⟩
 ·cases h
 ·obtain⟨b,c,rfl⟩:=lC (Nat.succ.inj h);exact⟨a,b,c,rfl⟩
theorem D_{α:Type _}{l:List α}(h:l.length=4):∃ w x y z,l=[w,x,y,z]:=by
 rcases l with _|⟨a,t⟩
 ·cases h
 ·obtain⟨b,c,d,rfl⟩:=tG (Nat.succ.inj h);exact⟨a,b,c,d,rfl⟩
theorem vA:mQ K 1 (bU 0) zy CQ Fx.sh Ai where
 fK:=fun F=>rfl
 step:=fun F ad B σ H μ μ1 x t σ' Q hF l r e hk h=>by
  cases e;obtain⟨y,rfl⟩:∃ y,σ'=[y]:=by
   exact rV hk
  exact h [some x] rfl (l.push r)
 back:=fun F ad B σ σ1 H μ hk l=>by
  obtain⟨y,rfl⟩:∃ y,σ1=[y]:=by
   exact rV hk
  exact l.ze
 kp:=fun μ μ1 μ2 t e k=>by cases e;exact k.tail
theorem v5:mQ K 2 (wa K 2 (iJ (bU 0) (iJ (bU 1) tZ))) rM Di (fun F=>F.sh.sh) (fun ad=>Ai (Ai ad)) where
 fK:=fun F=>rfl
 step:=fun F ad B σ H μ μ1 x t σ' Q hF l r e hk h=>by
  unfold rM at e
  split at e
  ·rename_i a b;cases e;obtain⟨y,z,rfl⟩:∃ y z,σ'=[y,z]:=by
    exact lC hk
   obtain⟨_,_,rfl,n,hh,rr⟩:=Rep.tupI r;obtain⟨_,_,rfl,r1,rr⟩:=ak.aC rr;obtain⟨_,_,rfl,r2,rr⟩:=ak.aC rr;obtain rfl:=ak.cI rr;exact⟨_,_,rfl,b6.of hh,rfl,_,_,rfl,_,_,rfl,rfl,h [some _,some _] rfl ((l.push r2).push (F:=F.sh) r1)⟩
  ·cases e
 back:=fun F ad B σ σ1 H μ hk l=>by
  obtain⟨y,z,rfl⟩:∃ y z,σ1=[y,z]:=by
   exact lC hk
  exact (Rl.ze (F:=F.sh) l).ze
 kp:=fun μ μ1 μ2 t e k=>by
  unfold rM at e
  split at e
  ·cases e;exact k.tail.tail
  ·cases e
theorem tm{g:TG}{own:T->Mu->Option Mu}{Q:VK}(O:mQ K k g own dr shF shA)(hi:RI K wi ui)(ht:RT K tc ut)
  (he:∀(D:Addr) (ys:List V) (σ1:St) (H':Hp) (μ':Mu) (Q:VK) (Qt:R->Mu->Prop),F.G D=none->σ1.length=k->Fr B H (more B D) H'->(∀ μ2,Kp μ' μ2->Kp μ (dr μ2))->Rl (shF (F.g D ys)) (shA ad) (more B D) (σ1++σ) H' μ'->ue μ' Qt->(∀ v H2 r μ2,Vr (shF (F.g D ys)) (shA ad) (more B D) (σ1++σ) H2 μ2 v r->Fr (more B D) H' (Bv (more B D) v r) H2->Kp μ' μ2->Qt r μ2->Q v H2)->te (σ1++σ) H' Q)
  (hF:F.K=K) (l:Rl F ad B σ H μ) (q:hG own dr ui ut ue μ Qt) (kk:∀ v H' r μ',Vr F ad B σ H' μ' v r->Fr B H (Bv B v r) H'->Kp μ μ'->Qt r μ'->Q v H'):iT wi k g tc te σ H Q:=by
 refine hi F ad B σ H μ _ _ hF l q fun J H1 μ1 items gd Src l1 f1 k1 it sr so gk q1=>?_;intro D hD;have hnB:=l1.kg hD;have h0D:=l1.qK hD;have hGD:F.G D=none:=by
  cases q:F.G D with
  |none=>rfl
  |some vs=>have:=(l1.gh D vs q).1;rw[hD] at this;cases this
 have nbx:∀(μ':Mu),Kp μ μ'->∀(i:Nat) (s:Sl) (c:T),μ'[i]?=some s->s.box=some c->B (ad i):=fun μ' k i s c e b=>by
  obtain⟨s',c',e',b'⟩:=k.symm.fwd i s c e b;exact l.own i s' c' e' b'
 refine⟨fun i m ys σ' H'=>m=items.length-i/\i<=items.length/\∃ σ1 μ' acc,σ'=σ1++σ/\σ1.length=k/\Rl (F.g D ys) ad (more B D) σ H' μ'/\ak F.K H' (more B D) ys acc/\Fr B H (more B D) H'/\Kp μ μ'/\(gd=none->Src H' (more B D))/\kQ gd own dr ut ue Qt (items.drop i) acc μ',
  ⟨items.length,by simp,Fo _,_,μ1,[],rfl,FR,(l1.new hD).Dc ae (.inl rfl) (fun i s c e b z=>hnB (z ▸ nbx μ1 k1 i s c e b)),.nil,f1.trans (Fr.more hD),k1,fun z=>?_,q1⟩,?_⟩
 ·subst z;exact so _ _ _ _ (Fr.more hD) sr
 rintro i m ys σ' H' ⟨rfl,hi',σ1,μ',acc,rfl,hk,l2,ra,f2,k2,s2,q2⟩;have hD2:=l2.Dt.1;refine⟨hD2,?_⟩;have src:Az gd μ'->Src H' (more B D):=fun hg=>by
  cases gd with
  |none=>exact s2 rfl
  |some jl=>obtain⟨j,ls⟩:=jl;exact so.1 _ _ _ _ (l2.wR hGD) hg
 by_cases hlt:i<items.length
 ·have ei:items[i]?=some items[i]:=EK hlt;rw[GJ hlt] at q2;obtain⟨hg,hz,q2⟩:=q2;have sr2:=src hg;obtain⟨go,yl⟩:=it.step H' (more B D) i _ l2.aU sr2 ei;refine .inr ⟨go,by rw[ra.length];exact hz,fun x H3 y=>?_⟩
  obtain⟨sm,rp⟩:=yl x H3 y
  split at q2
  ·exact q2.elim
  ·rename_i μ3 eo;have f3:Fr (more B D) H' (more B D) H3:=Fr.same sm;have hF2:(F.g D ys).K=K:=hF;refine O.step (F.g D ys) ad (more B D) σ H3 μ' μ3 x _ σ1 _ hF2 (l2.same sm) (by rw[hF2];exact rp) eo hk fun σ4 hk4 l4=>?_
   refine ht (shF (F.g D ys)) (shA ad) (more B D) _ H3 μ3 _ _ ((O.fK _).trans hF2) l4 q2 fun b H5 μ5 l5 f5 k5 q5=>?_
   cases b with
   |true =>
    rw[EI rfl] at q5 ⊢;refine he D ys σ4 H5 μ5 _ _ hGD hk4 (f2.trans (f3.trans f5)) (fun μ2 k7=>k2.trans (O.kp μ' μ3 μ2 _ eo (k5.trans k7))) l5 q5 fun v H6 r6 μ6 v6 f6 k6 q6=>?_;have l6:=O.back (F.g D ys) ad (more B D) σ σ4 H6 μ6 hk4 v6.rl;refine⟨l6.Dt.1,?_⟩;have hv:=v6.hv
    split at q6
    ·rename_i t' e6;rw[e6] at hv;have rv:Rep F.K H6 (more B D) v t':=by have:=hv;unfold Hv at this;rw[O.fK] at this;exact this
     have fa:=(f3.trans f5).trans f6.d;have fs:Fr (more B D) H6 (more B D) (upd H6 D (.lst (ys++[v]))):=Fr.set (.inl rfl);refine⟨items.length-(i+1),by lia,rfl,hlt,σ4,dr μ6,acc++[t'],rfl,hk4,l6.setG h0D,((ra.fr fa).append (.cons rv .nil)).fr fs,(f2.trans fa).trans fs,k2.trans (O.kp μ' μ3 μ6 _ eo (k5.trans k6)),fun z=>?_,q6⟩
     subst z;exact so _ _ _ _ (fa.trans fs) (s2 rfl)
    ·exact q6.elim
   |false =>
    rw[EB EF] at q5 ⊢;have l6:=O.back (F.g D ys) ad (more B D) σ σ4 H5 μ5 hk4 l5;have fa:=f3.trans f5;refine⟨items.length-(i+1),by lia,rfl,hlt,σ4,dr μ5,acc,rfl,hk4,l6,ra.fr fa,f2.trans fa,k2.trans (O.kp μ' μ3 μ5 _ eo k5),fun z=>?_,q5⟩
    subst z;exact so _ _ _ _ fa (s2 rfl)
 ·have e:i=items.length:=by lia
  subst e;rw[List.drop_length] at q2;obtain⟨hg,q2⟩:=q2;have l3:=l2.wR hGD;refine .inl ⟨it.stop H' (more B D) (src hg),kk (.ref D) H' (.fr (.lst acc)) μ' ⟨l3.less (fun b z=>.inr z) l.bc (nbx μ' k2) (fun a vs ga=>?_),D,rfl,hnB,h0D,l3,ys,hD2,ra⟩ f2 k2 q2⟩;exact l.gB a vs ga
theorem mL{g:TG}{own:T->Mu->Option Mu}(O:mQ K k g own dr shF shA)(hi:RI K wi ui)(ht:RT K tc ut)(he:RE K te ue):RE K (iT wi k g tc te) (hG own dr ui ut ue):=
 fun F ad B σ H μ Q Qt hF l q kk=>tm O hi ht (fun D ys σ1 H' μ' Q' Qt' _ _ _ _ l' q' k'=>he (shF (F.g D ys)) _ _ _ _ _ _ _ ((O.fK _).trans (show (F.g D ys).K=K from hF)) l' q' k') hF l q kk
section
variable {X:Cx} {elt tg iter:Expr} {ifs:List Expr} {ue:UE} {ut:UT} {ui:UI} {pos pos' p2:Pos} {x:Str} {osc scope:Scope} {ON own N:List Str}
theorem mO(S:df osc ON scope own N)(hosc:X.env.scope=osc)(hON:X.N=ON)(hc:X.calm=true)(ho:own.length=1)(hi:YI X tg iter ui)
  (hg:∀ C s H fp,QG (aQ X scope N C s H fp) tg (bU 0)) (ht:∀ C s H fp,zN (aQ X scope N C s H fp) ifs ut) (he:∀ C s H fp,YE (aQ X scope N C s H fp) elt ue) (hs:autoParam (∀ x,foldedSetIterable iter X.env x=pure x) ℜ3) :
  YE X (.ListComp elt [⟨tg,iter,ifs,0⟩] scope pos) (hG zy CQ ui ut ue):=by
 obtain⟨t,q,r⟩:=hi;have h:=Z.comp (pos:=pos) (tc:=uj X.K ut) (te:=vU X.K ue) S hosc hON hc q hg (fun C s H fp=>(ht C s H fp).lz) (fun C s H fp=>(he C s H fp).lz) hs;rw[ho] at h;exact⟨_,h,mL vA r wZ wt⟩
theorem AJ(K:Ih)(hK:X.K=K)(S:df osc ON scope own N)(hosc:X.env.scope=osc)(hON:X.N=ON)(hc:X.calm=true)(ho:own.length=2)(hi:YI X tg iter ui)
  (hg:∀ C s H fp,QG (aQ X scope N C s H fp) tg (wa K 2 (iJ (bU 0) (iJ (bU 1) tZ)))) (ht:∀ C s H fp,zN (aQ X scope N C s H fp) ifs ut) (he:∀ C s H fp,YE (aQ X scope N C s H fp) elt ue) (hs:autoParam (∀ x,foldedSetIterable iter X.env x=pure x) ℜ3) :
  YE X (.ListComp elt [⟨tg,iter,ifs,0⟩] scope pos) (hG rM Di ui ut ue):=by
 obtain⟨t,q,r⟩:=hi;subst hK;have h:=Z.comp (pos:=pos) (tc:=uj X.K ut) (te:=vU X.K ue) S hosc hON hc q hg (fun C s H fp=>(ht C s H fp).lz) (fun C s H fp=>(he C s H fp).lz) hs;rw[ho] at h;exact⟨_,h,mL v5 r wZ wt⟩
theorem wg:zN X [] (fun μ Q=>Q true μ):=⟨_,Z.wg,fun F ad B σ H μ Q Qt hK l q k=>k true H μ l Fr.refl (Kp.refl μ) q⟩
theorem Dr{c:Expr}(h:YT X c ut):zN X [c] ut:=by obtain⟨t,q,r⟩:=h;exact⟨t,Z.Dr q,r⟩
end
end Y
noncomputable def cC(μ:Mu)(j:Nat)(c:T):Mu:=match μ[j]? with
 |some s=>μ.set j (s.put c)
 |none=>μ
namespace Y
section
variable {X:Cx} {a b c e o tg it i:Expr} {es rest:List Expr} {ua ub uc ue uo ui:UE} {uA uB:UT} {us:UA} {pos pos' p p2 p3 apos:Pos} {x:Str} {st:Stmt} {sts xs ys:List Stmt} {u w:US}
noncomputable def gS(uo ui:UE):UG:=fun r μ Q=>match r.d with
 |.tr t=>uo μ fun ro μ1=>ui μ1 fun ri μ2=>(match ro,ri with
  |.br j,.tr (.int k)=>(match (μ2[j]?).bind Sl.box with
   |some (.lst ts)=>(match i3 ts.length k with
    |some n=>Q (cC μ2 j (.lst (ts.set n t)))
    |none=>False)
   |_=>False)
  |_,_=>False)
 |_=>False
theorem lL(ho:YE X o uo)(hi:YE X i ui)
  (ha:autoParam (∀ v,assign (.Subscript o i pos) X.env v=(do
   let ov <- holding [v] (eval o X.env)
   let iv <- holding [v,ov] (eval i X.env)
   standAt pos
   holding [v,ov,iv] (setItem ov iv v)
   release [v,ov,iv] [])) ℜ3):YG X (.Subscript o i pos) (gS uo ui):=by
 obtain⟨t,q,r⟩:=ho;obtain⟨t',q',r'⟩:=hi;refine⟨_,Z.lL q q' ha,fun F ad B σ H μ v rr B0 H0 Q Qt hF h f q k=>?_⟩;unfold gS at q;have f0:Fr B0 H0 B H:=fun b o h n=>⟨(f b o h n).1,fun z=>(f b o h n).2 (by cases rr<;>first|exact z | (cases v<;>first|exact z|exact .inr z))⟩
 have hv:=h.hv
 split at q
 ·rename_i t0 e0;rw[e0] at hv;refine r F ad B σ H μ _ _ hF h.rl q fun ov H1 r1 μ1 v1 f1 k1 q1=>r' F ad B σ H1 μ1 _ _ hF v1.rl q1 fun iv H2 r2 μ2 v2 f2 k2 q2=>?_
  split at q2
  ·rename_i j kk;have rp:=v2.2;obtain rfl:=Rep.bf rp;obtain⟨rfl,_⟩:=(v1.hv.fr f2.d k2)
   split at q2
   ·rename_i ts e
    split at q2
    ·rename_i n en
     cases ej:μ2[j]? with
     |none=>rw[ej] at e;cases e
     |some s =>
      rw[ej] at e;have e':s.box=some (.lst ts):=e;have l2:=v2.rl;obtain⟨vs,hl,rs⟩:=((l2.slot j s ej).boxed e').2.2.1;have rv:Rep F.K H2 B v t0:=(show Rep F.K H B v t0 from hv).fr (f1.d.trans f2.d);have l3:=l2.put ej e' (rs.set n rv);show rR (.ref (ad j)) (.int kk) v H2 _;rw[Ap.setRef,hl];simp only;rw[rs.length,en];simp only;unfold cC at q2;rw[ej] at q2;exact k ad B σ _ _ l3 ((f0.trans (f1.d.trans f2.d)).trans (Fr.set ((l2.slot j s ej).boxed e').2.1)) q2
    ·exact q2.elim
   ·exact q2.elim
  ·exact q2.elim
 ·exact q.elim
abbrev UM:=Nat->List R->Mu->(R->Mu->Prop)->Prop
noncomputable def Cs:Option T->Prop->Prop
 |some (.lst _),p=>p
 |_,_=>False
noncomputable def CG(um:UM)(uo:UE)(us:UA):UE:=fun μ Q=>uo μ fun ro μ1=>match ro with
 |.br j=>Cs ((μ1[j]?).bind Sl.box) (us μ1 fun rs μ2=>um j rs μ2 Q)
 |_=>False
noncomputable def RM(K:Ih)(r:V->List V->Hp->VK->Prop)(um:UM):Prop:=∀(F:Fx) (ad:Nat->Addr) (B:aB) (σ:St) (H:Hp) (μ:Mu) (Q:VK) (Qt:R->Mu->Prop) (j:Nat) (s:Sl) (c:T) (xs:List V) (rs:List R),F.K=K->Rl F ad B σ H μ->μ[j]?=some s->s.box=some c->Paired (Hv F ad B H μ) xs rs->um j rs μ Qt ->
 (∀ v H' r μ',Vr F ad B σ H' μ' v r->Fr B H (Bv B v r) H'->Kp μ μ'->Qt r μ'->Q v H')->r (.ref (ad j)) xs H Q
theorem bm(K:Ih)(hK:X.K=K){id:String}{r:V->List V->Hp->VK->Prop}{um:UM}(slot:Slot "list" name id)(hty:typeOf (.builtin id)=pure (.type "method_descriptor"))(hm:Bh X id r)(hr:RM X.K r um)(ho:YE X o uo)(ha:YA X (e::es) us)
  (hbase:autoParam (attributeBase o name X.env (eval o X.env)=eval o X.env) ℜ0) (hline:autoParam ((apos.endLine == pos.line)=true) ℜ0) (h:autoParam ((e::es).all cN=true) ℜ0) (hl:autoParam ((e::es).length<30) ℜ1):YE X (.Call (.Attribute o name apos) (e::es) [] pos) (CG um uo us):=by
 obtain⟨t,q,rr⟩:=ho;obtain⟨t',q',r'⟩:=ha;refine⟨_,Z.bm K hK PySem.F.plainAttrs_list slot hty hm q q' hbase hline h hl,fun F ad B σ H μ Q Qt hF l q k=>rr F ad B σ H μ _ _ hF l q fun v H1 r1 μ1 v1 f1 k1 q1=>?_⟩
 split at q1
 ·rename_i j;obtain⟨l1,rfl,s,c,e1,e2⟩:=v1;rw[e1] at q1;have q1':Cs s.box _:=q1;rw[e2] at q1';rcases ((l1.slot j s e1).boxed e2).2.2.1.is with ⟨ts,vs,rfl,hl,_⟩|⟨_,_,_,rfl,_⟩
  case inr=>exact q1'.elim
  have q1:=(show us μ1 _ from q1');refine⟨.inl ⟨rfl,vs,a_.of hl⟩,?_⟩;refine r' F ad B σ H1 μ1 _ _ hF l1 q1 fun xs H2 rs μ2 l2 ps f2 k2 q2=>?_;obtain⟨s',c',e3,e4⟩:=k2.fwd j s _ e1 e2;exact hr F ad B σ H2 μ2 _ _ j s' c' xs rs hF l2 e3 e4 ps q2 fun v H3 r3 μ3 v3 f3 k3 q3=>k v H3 r3 μ3 v3 ((f1.d.trans f2).trans f3) ((k1.trans k2).trans k3) q3
 ·exact q1.elim
noncomputable def fu:UM:=fun j rs μ Q=>match rs with
 |[.tr t]=>(match (μ[j]?).bind Sl.box with
  |some (.lst ts)=>ts.length<sizeLine/\Q (.tr .ay) (cC μ j (.lst (ts++[t])))
  |_=>False)
 |_=>False
theorem p9:RM K nW fu:=by
 intro F ad B σ H μ Q Qt j s c xs rs hF l e b ps q k;unfold fu at q
 split at q
 ·obtain⟨_,_,rfl,h,ps⟩:=Paired.aC ps;obtain rfl:=Paired.cI ps;rw[e] at q;have q':(match s.box with|some (.lst ts)=>ts.length<sizeLine/\Qt (.tr .ay) (cC μ j (.lst (ts++[_])))|_=>False):=q
  rw[b] at q';rcases ((l.slot j s e).boxed b).2.2.1.is with ⟨ts,vs,rfl,hl,rv⟩|⟨_,_,_,rfl,_⟩
  case inr=>exact q'.elim
  simp only at q';refine⟨_,_,_,rfl,rfl,hl,by rw[rv.length];exact q'.1,?_⟩
  have l3:=l.put e b (rv.append (.cons (cV h) .nil));have q2:=q'.2;unfold cC at q2;rw[e] at q2;exact k _ _ (.tr .ay) _ (Vr.flat l3 .ay) (Fr.set ((l.slot j s e).boxed b).2.1) (Kp.set e b (Sl.gA b)) q2
 ·exact q.elim
end
end Y
noncomputable def iS:List Bool->List V->List Addr
 |true::md,.ref a::vs=>a::iS md vs
 |_::md,_::vs=>iS md vs
 |_,_=>[]
noncomputable def dF(K:Ih)(H:Hp)(B:aB):List Bool->List V->List T->Prop
 |[],[],[]=>True
 |false::md,v::vs,t::ts=>Rep K H B v t/\dF K H B md vs ts
 |true::md,v::vs,t::ts=>(∃ a,v=.ref a/\B a/\Bx K H B a t)/\dF K H B md vs ts
 |_,_,_=>False
abbrev fT:=List T->(R->List T->Prop)->Prop
variable{tsp:fT}
noncomputable def A6(K:Ih)(H H':Hp)(B:aB)(as:List Addr)(v:V)(outs:List T):R->Prop
 |.tr t=>Rep K H' B v t/\Paired (Bx K H' B) as outs
 |.fr c=>∃ a,v=.ref a/\H a=none/\¬ B a/\Bx K H' (more B a) a c/\Paired (Bx K H' (more B a)) as outs
 |.br _=>False
noncomputable def spT(K:Ih)(md:List Bool)(tsp:fT):Sp:=fun vs H Q _=>∃(B:aB) (args:List T) (Qt:R->List T->Prop),dF K H B md vs args/\(∀ b,B b->∃ o,H b=some o)/\(iS md vs).Nodup/\tsp args Qt /\
 ∀ v H' r outs,Qt r outs->(∀ b o,H b=some o->b∉iS md vs->H' b=some o)->A6 K H H' B (iS md vs) v outs r->Q v H'
theorem dF.len:∀{md:List Bool} {vs:List V} {ts:List T},dF K H B md vs ts->vs.length=md.length/\ts.length=md.length
 |[],[],[],_=>⟨rfl,rfl⟩
 |false::md,v::vs,t::ts,h=>⟨Fc (·+1) (dF.len h.2).1,Fc (·+1) (dF.len h.2).2⟩
 |true::md,v::vs,t::ts,h=>⟨Fc (·+1) (dF.len h.2).1,Fc (·+1) (dF.len h.2).2⟩
theorem dF.get:∀{md:List Bool} {vs:List V} {ts:List T} {i:Nat} {b:Bool},dF K H B md vs ts->md[i]?=some b->∃ v t,vs[i]?=some v/\ts[i]?=some t/\(if b=true then ∃ a,v=.ref a/\B a/\Bx K H B a t else Rep K H B v t)
 |[],[],[],i,b,_,e=>by simp at e
 |c::md,[],_,_,_,h,_=>by cases c<;>exact h.elim
 |c::md,v::vs,[],_,_,h,_=>by cases c<;>exact h.elim
 |c::md,v::vs,t::ts,0,b,h,e=>by
  have e':c=b:=by simpa using e
  subst e'
  cases c with
  |false=>exact⟨v,t,rfl,rfl,by rw[EB EF];exact h.1⟩
  |true=>exact⟨v,t,rfl,rfl,by rw[EI rfl];exact h.1⟩
 |c::md,v::vs,t::ts,i+1,b,h,e=>by
  have h2:dF K H B md vs ts:=by cases c<;>exact h.2
  obtain⟨v',t',e1,e2,q⟩:=dF.get h2 (show md[i]?=some b by simpa using e)
  exact⟨v',t',by simpa using e1,by simpa using e2,q⟩
theorem gx:∀{md:List Bool} {vs:List V} {i:Nat} {a:Addr},md[i]?=some true->vs[i]?=some (.ref a)->a∈iS md vs
 |[],_,_,_,e,_=>by simp at e
 |c::md,[],_,_,_,e=>by simp at e
 |c::md,v::vs,0,a,e1,e2=>by
  have e1':c=true:=by simpa using e1
  have e2':v=.ref a:=by simpa using e2
  subst e1' e2';exact EN
 |c::md,v::vs,i+1,a,e1,e2=>by
  have:=gx (md:=md) (vs:=vs) (i:=i) (a:=a) (by simpa using e1) (by simpa using e2)
  cases c with
  |false=>exact this
  |true=>cases v<;>first|exact ED _ this|exact this
theorem mI:∀{md:List Bool} {vs:List V} {i j:Nat} {a:Addr},(iS md vs).Nodup->md[i]?=some true->md[j]?=some true->vs[i]?=some (.ref a)->vs[j]?=some (.ref a)->i=j
 |[],_,_,_,_,_,e,_,_,_=>by simp at e
 |c::md,[],_,_,_,_,_,_,e,_=>by simp at e
 |c::md,v::vs,i,j,a,nd,e1,e2,e3,e4=>by
  have tl:(iS md vs).Nodup:=by
   cases c with
   |false=>exact nd
   |true=>cases v<;>first|exact (EY.mp nd).2|exact nd
  cases i with
  |zero =>
   have e1':c=true:=by simpa using e1
   have e3':v=.ref a:=by simpa using e3
   subst e1' e3'
   cases j with
   |zero=>rfl
   |succ j=>exact absurd (gx (md:=md) (vs:=vs) (i:=j) (a:=a) (by simpa using e2) (by simpa using e4)) (EY.mp nd).1
  |succ i=>cases j with
   |zero =>
    have e1':c=true:=by simpa using e2
    have e3':v=.ref a:=by simpa using e4
    subst e1' e3';exact absurd (gx (md:=md) (vs:=vs) (i:=i) (a:=a) (by simpa using e1) (by simpa using e3)) (EY.mp nd).1
   |succ j=>exact Fc (·+1) (mI tl (by simpa using e1) (by simpa using e2) (by simpa using e3) (by simpa using e4))
noncomputable def bX:List Bool->Nat->Mu->List T
 |[],_,_=>[]
 |true::md,i,μ=>(match μ[i]? with
  |some (.pb c)=>c::bX md (i+1) μ
  |_=>bX md (i+1) μ)
 |false::md,i,μ=>bX md (i+1) μ
theorem vv{P:Addr->T->Prop}:∀{md:List Bool} {vs:List V} {i:Nat},vs.length=md.length->(∀ n,md[n]?=some true->∃ a c,vs[n]?=some (.ref a)/\μ[i+n]?=some (.pb c)/\P a c)->Paired P (iS md vs) (bX md i μ)
 :=by
  intro md
  induction md with
  |nil =>
    intro vs i hl h
    cases vs with
    |nil=>exact .nil
    |cons v vs=>cases hl
  |cons b md ih =>
    intro vs i hl h
    cases vs with
    |nil=>cases hl
    |cons v vs =>
      have rest:=ih (vs:=vs) (i:=i+1) (Nat.succ.inj hl) fun n e=>by
        obtain⟨a,c,e1,e2,p⟩:=h (n+1) e;exact⟨a,c,e1,by rw[Nat.add_assoc,Nat.add_comm 1 n];exact e2,p⟩
      cases b with
      |false=>exact rest
      |true =>
        obtain⟨a,c,e1,e2,p⟩:=h 0 rfl;have e1':v=.ref a:=Option.some.inj e1;subst e1';rw[Ig] at e2;show Paired P (a::iS md vs) (match μ[i]? with|some (.pb c)=>c::bX md (i+1) μ|_=>bX md (i+1) μ)
        rw[e2];exact .cons p rest
noncomputable def startM:List Bool->List T->Nat->Mu
 |b::md,t::ts,n=>(if b=true then .pb t else .tr t)::startM md ts (n-1)
 |_,_,n=>List.replicate n .un
noncomputable def va(md:List Bool)(Qt:R->List T->Prop):Ed where
 nx:=fun μ=>Qt (.tr .ay) (bX md 0 μ)
 rt:=fun r μ=>match r with
  |.tr t=>Qt (.tr t) (bX md 0 μ)
  |.fr c=>Qt (.fr c) (bX md 0 μ)
  |.br i=>(match μ[i]? with
   |some (.bx c)=>Qt (.fr c) (bX md 0 μ)
   |_=>False)
theorem ij:∀{md:List Bool} {ts:List T} {n:Nat},ts.length=md.length->md.length<=n->(startM md ts n).length=n
 |[],[],n,_,_=>FR
 |b::md,t::ts,n,h,hn=>by
  cases n with
  |zero=>simp at hn
  |succ n=>exact Fc (·+1) (ij (by simpa using h) (by simpa using hn))
theorem eI:∀{md:List Bool} {ts:List T} {n i:Nat} {s:Sl},(startM md ts n)[i]?=some s->s=.un\/∃ b t,md[i]?=some b/\ts[i]?=some t/\s=(if b=true then .pb t else .tr t)
 |[],ts,n,i,s,e=>by
  have e':(List.replicate n Sl.un)[i]?=some s:=by cases ts<;>exact e
  rw[Gr] at e'
  split at e'
  ·exact .inl (Option.some.inj e').symm
  ·cases e'
 |b::md,[],n,i,s,e=>by
  have e':(List.replicate n Sl.un)[i]?=some s:=e;rw[Gr] at e'
  split at e'
  ·exact .inl (Option.some.inj e').symm
  ·cases e'
 |b::md,t::ts,n,0,s,e=>.inr ⟨b,t,rfl,rfl,by have e':some (if b=true then Sl.pb t else .tr t)=some s:=e;exact (Option.some.inj e').symm⟩
 |b::md,t::ts,n,i+1,s,e=>by
  rcases eI (md:=md) (ts:=ts) (n:=n-1) (i:=i) (s:=s) (by simpa[startM] using e) with h|⟨b',t',h1,h2,h3⟩
  ·exact .inl h
  ·exact .inr ⟨b',t',by simpa using h1,by simpa using h2,h3⟩
theorem iH:∀{md:List Bool} {ts:List T} {n i:Nat} {b:Bool} {t:T},md[i]?=some b->ts[i]?=some t->(startM md ts n)[i]?=some (if b=true then .pb t else .tr t)
 |[],_,_,_,_,_,e,_=>by simp at e
 |b::md,[],_,_,_,_,_,e=>by simp at e
 |b::md,t::ts,n,0,b',t',e1,e2=>by
  have e1':b=b':=by simpa using e1
  have e2':t=t':=by simpa using e2
  subst e1' e2';rfl
 |b::md,t::ts,n,i+1,b',t',e1,e2=>by
  have:=iH (md:=md) (ts:=ts) (n:=n-1) (i:=i) (b:=b') (t:=t') (by simpa using e1) (by simpa using e2)
  simpa[startM] using this
noncomputable def lQ(vs:List V)(i:Nat):Addr:=match vs[i]? with
 |some (.ref a)=>a
 |_=>0
noncomputable def Ab(md:List Bool)(vs:List V)(i:Nat):Option Addr:=match md[i]?,vs[i]? with
 |some true,some (.ref a)=>some a
 |_,_=>none
theorem m4(h:Ab md vs i=some a):md[i]?=some true/\vs[i]?=some (.ref a):=by
 unfold Ab at h
 split at h
 ·rename_i e1 e2;cases h;exact⟨e1,e2⟩
 ·cases h
theorem qL(h1:md[i]?=some true)(h2:vs[i]?=some (.ref a)):Ab md vs i=some a:=by
 unfold Ab;rw[h1,h2]
noncomputable def oV(K:Ih)(H:Hp)(md:List Bool)(vs:List V)(B:aB)(bh:∀ b,B b->∃ o,H b=some o):Fx:=⟨K,H,Ab md vs,B,bh,fun _=>none⟩
theorem ip(ag:dF K H B md vs args)(bh:∀ b,B b->∃ o,H b=some o)(nd:(iS md vs).Nodup)(hN:md.length<=N.length):
  Rl (oV K H md vs B bh) (lQ vs) B (start N vs) H (startM md args N.length):=by
 obtain⟨l1,l2⟩:=ag.len;have sget:∀ i v,vs[i]?=some v->(start N vs)[i]?=some (some v):=fun i v e=>by
  have hi:=(EM.mp e).1;unfold start;rw[Fw (by simpa using hi),Fh,e];rfl
 refine⟨?_,fun i s e=>?_,fun i j s u c d e1 e2 b1 b2 q=>?_,fun i a p=>?_,fun b z=>z,bh,fun b o e n=>e,fun a ws ga=>by cases ga⟩
 ·rw[ij l2 hN];unfold start;rw[EU,EJ,FR];lia
 ·rcases eI e with rfl|⟨b,t,h1,h2,rfl⟩
  ·trivial
  ·obtain⟨v,t',e1,e2,q⟩:=ag.get h1;rw[h2] at e2;cases e2
   cases b with
   |false =>
    rw[EB EF] at q;rw[EB EF];exact⟨v,sget i v e1,q⟩
   |true =>
    rw[EI rfl] at q;rw[EI rfl];obtain⟨a,rfl,hb,x⟩:=q;have ea:lQ vs i=a:=by unfold lQ;rw[e1]
    show _/\_/\_/\_;rw[ea];exact⟨sget i _ e1,hb,qL h1 e1,x⟩
 ·have one:∀{i:Nat} {s:Sl} {c:T},(startM md args N.length)[i]?=some s->s.box=some c->md[i]?=some true/\∃ a,vs[i]?=some (.ref a)/\lQ vs i=a:=fun {i s c} e b=>by
   rcases eI e with rfl|⟨b',t,h1,h2,rfl⟩
   ·cases b
   ·cases b' with
    |false=>rw[EB EF] at b;cases b
    |true =>
     obtain⟨v,t',e1,e2,q⟩:=ag.get h1;rw[EI rfl] at q;obtain⟨a,rfl,_⟩:=q;exact⟨h1,a,e1,by unfold lQ;rw[e1]⟩
  obtain⟨m1,a1,v1,z1⟩:=one e1 b1;obtain⟨m2,a2,v2,z2⟩:=one e2 b2;rw[z1,z2] at q;subst q;exact mI nd m1 m2 v1 v2
 ·obtain⟨h1,h2⟩:=m4 p;obtain⟨v,t',e1,e2,q⟩:=ag.get h1;refine⟨⟨t',?_⟩,by unfold lQ;rw[h2]⟩
  have:=iH (n:=N.length) h1 e2;rw[EI rfl] at this;exact this
noncomputable def nQ(K:Ih)(f:Addr)(cdv:Value):Prop:=∃(o:Obj) (fd:FuncData),K.lookup f=some o/\o.data=.func fd/\fd.code=cdv
theorem qH{N ps:List Str}(F:jn K x x st f fd)(S:av N ps (aa st))(md:List Bool)(hm:md.length=ps.length)(hN:md.length<=N.length)
  (hbody:∀(args:List T) (Qt:R->List T->Prop),args.length=ps.length->tsp args Qt->∀(cdv:Value) (A:Around) (outer:List Env) (s:Shared) (H:Hp) (E:XK),aY k (A.deeper (envOfC x (aa st) s.heap.objs.size f cdv))->nQ K f cdv ->
   ∃ us,YB (dH aW P w K mg base N x (aa st) f cdv A outer s H E).pd (aG st) us/\us (va md Qt) (startM md args N.length)):aX P w K mg base aW (k+1) f fd ps (spT K md tsp):=by
 obtain⟨oc,od,kV,doc,pm,an,cdv,ct,osl,rfl,lk,hcd⟩:=F.ex;refine r_ (CX:=aW) lk hcd S (fun vs H Q E h=>?_) (fun A outer s H vs Q E hr h=>?_)
 ·obtain⟨B,args,Qt,ag,_⟩:=h;rw[ag.len.1,hm]
 ·obtain⟨B,args,Qt,ag,bh,nd,ht,fin⟩:=h;obtain⟨us,⟨t,q,r⟩,hu⟩:=hbody args Qt (by rw[ag.len.2,hm]) ht cdv A outer s H E hr ⟨_,_,lk,rfl,rfl⟩
  refine⟨t,q.h.pd,?_⟩;have l0:=ip (N:=N) ag bh nd hN;have outs:∀ ad' B' σ' H' μ' (B2:aB),Rl (oV K H md vs B bh) ad' B' σ' H' μ'->(∀ b,B2 b->B' b)->Paired (Bx K H' B2) (iS md vs) (bX md 0 μ'):=fun ad' B' σ' H' μ' B2 l hB=>by
   refine vv (ag.len.1) fun n e=>?_;obtain⟨v,t',e1,e2,q⟩:=ag.get e;rw[EI rfl] at q;obtain⟨a,rfl,_⟩:=q;obtain⟨⟨c,hc⟩,ha⟩:=l.par n a (qL e e1);have sl:=l.slot n _ hc;refine⟨a,c,e1,by rw[Nat.zero_add];exact hc,?_⟩
   rw[<- ha];exact (sl.2.2.2).of rfl (Fr.less hB)
  have keep:∀ ad' B' σ' H' μ',Rl (oV K H md vs B bh) ad' B' σ' H' μ'->∀ b o,H b=some o->b∉iS md vs->H' b=some o:=fun ad' B' σ' H' μ' l b o e n=>l.old b o e fun i z=>n (gx (m4 z).1 (m4 z).2);refine r (oV K H md vs B bh) _ _ (lQ vs) B (start N vs) H _ rfl l0 hu ⟨fun ad' B' σ' H' μ' l _ q=>?_,fun ad' B' σ' H' μ' v rr h q=>?_,fun _ _ _ _ _ _ _ z=>z.elim,fun _ _ _ _ _ _ _ z=>z.elim⟩
  ·exact fin .ay H' (.tr .ay) _ q (keep _ _ _ _ _ l) ⟨.ay,outs _ _ _ _ _ _ l l.bc⟩
  ·cases rr with
   |tr t=>exact fin v H' (.tr t) _ q (keep _ _ _ _ _ h.1) ⟨(show Rep K H' B' v t from h.2).fr (Fr.less h.1.bc),outs _ _ _ _ _ _ h.1 h.1.bc⟩
   |fr c =>
    obtain⟨l,a,rfl,n,h0,l2,x⟩:=h;have sub:∀ b,more B a b->more B' a b:=fun b z=>z.imp id (l.bc b);exact fin _ H' (.fr c) _ q (keep _ _ _ _ _ l) ⟨a,rfl,h0,fun z=>n (l.bc a z),x.of rfl (Fr.less sub),outs _ _ _ _ _ _ l2 sub⟩
   |br i =>
    have q':(match μ'[i]? with|some (.bx c)=>Qt (.fr c) (bX md 0 μ')|_=>False):=q
    obtain⟨l,rfl,s',c',e1,e2⟩:=h
    split at q'
    ·rename_i c ec;have sl:=l.slot i _ ec;have sub:∀ b,more B (ad' i) b->B' b:=fun b z=>z.elim (fun z=>by rw[z];exact sl.2.1) (l.bc b)
     refine fin _ H' (.fr c) _ q' (keep _ _ _ _ _ l) ⟨ad' i,rfl,sl.2.2.1,fun z=>?_,(sl.2.2.2.2).of rfl (Fr.less sub),outs _ _ _ _ _ _ l sub⟩;obtain⟨o,e⟩:=bh _ z;have:H (ad' i)=none:=sl.2.2.1;rw[this] at e;cases e
    ·exact q'.elim
theorem HasFn.DU{ps:List Str}(F:HasFn K mg x st ps)(S:av N ps (aa st))(md:List Bool)(hm:md.length=ps.length)(hN:md.length<=N.length)
  (hbody:∀(args:List T) (Qt:R->List T->Prop),args.length=ps.length->tsp args Qt->∀(f:Addr) (cdv:Value) (A:Around) (outer:List Env) (s:Shared) (H:Hp) (E:XK),aY k (A.deeper (envOfC x (aa st) s.heap.objs.size f cdv))->mg x=some (.ref f)->nQ K f cdv ->
   ∃ us,YB (dH aW P w K mg base N x (aa st) f cdv A outer s H E).pd (aG st) us/\us (va md Qt) (startM md args N.length)):aj P w K mg base aW (k+1) x ps (spT K md tsp):=by
 obtain⟨f,fd,F1,bnd,m⟩:=F.ex;exact⟨f,fd,m,F1.kp,bnd,qH F1 S md hm hN fun args Qt hl h cdv A outer s H E hr c=>hbody args Qt hl h f cdv A outer s H E hr m c⟩
theorem HasFn.lA{ps:List Str}(F:HasFn K mg x st ps)(S:av N ps (aa st))(md:List Bool)(hm:md.length=ps.length)(hN:md.length<=N.length)
  (hbody:∀(args:List T) (Qt:R->List T->Prop),args.length=ps.length->tsp args Qt->∀(f:Addr) (cdv:Value) (A:Around) (outer:List Env) (s:Shared) (H:Hp) (E:XK),aY k (A.deeper (envOfC x (aa st) s.heap.objs.size f cdv)) ->
   ∃ us,YB (dH aW P w K mg base N x (aa st) f cdv A outer s H E).pd (aG st) us/\us (va md Qt) (startM md args N.length)):aj P w K mg base aW (k+1) x ps (spT K md tsp):=
 F.DU S md hm hN fun args Qt hl h f cdv A outer s H E hr _ _=>hbody args Qt hl h f cdv A outer s H E hr
noncomputable def sU(μ:Mu):List Bool->List R->Option (List T)
 |[],[]=>some []
 |false::md,r::rs=>(match cont μ r,sU μ md rs with
  |some t,some ts=>some (t::ts)
  |_,_=>none)
 |true::md,.br j::rs=>(match cont μ (.br j),sU μ md rs with
  |some t,some ts=>some (t::ts)
  |_,_=>none)
 |_,_=>none
noncomputable def eR:List Bool->List R->List Nat
 |true::md,.br j::rs=>j::eR md rs
 |_::md,_::rs=>eR md rs
 |_,_=>[]
noncomputable def gm:List Bool->List R->List Nat
 |false::md,.br j::rs=>j::gm md rs
 |_::md,_::rs=>gm md rs
 |_,_=>[]
noncomputable def gg:T->Bool
 |.lst ts=>ts.all aD
 |.kf _ ts=>ts.all aD
 |t=>aD t
noncomputable def fm:R->Bool
 |.tr t=>aD t
 |.fr c=>gg c
 |.br _=>false
noncomputable def putAll:List Nat->List T->Mu->Mu
 |j::js,c::cs,μ=>putAll js cs (cC μ j c)
 |_,_,μ=>μ
theorem mS(h:i≠j):(cC μ j c)[i]?=μ[i]?:=by
 unfold cC;split
 ·rw[Fm (Ne.symm h)]
 ·rfl
theorem vI{s:Sl}(e:μ[j]?=some s):(cC μ j c)[j]?=some (s.put c):=by
 unfold cC;rw[e];exact FG (EM.mp e).1
theorem rP:(cC μ j c).length=μ.length:=by
 unfold cC;split
 ·exact Fz
 ·rfl
theorem gQ:∀{js:List Nat} {cs:List T} {μ:Mu},(putAll js cs μ).length=μ.length
 |[],_,_=>rfl
 |_::_,[],_=>rfl
 |j::js,c::cs,μ=>(gQ (js:=js)).trans rP
theorem dm:∀{js:List Nat} {cs:List T} {μ:Mu} {i:Nat},i∉js->(putAll js cs μ)[i]?=μ[i]?
 |[],_,_,_,_=>rfl
 |_::_,[],_,_,_=>rfl
 |j::js,c::cs,μ,i,h=>(dm (js:=js) (fun z=>h (ED _ z))).trans (mS fun z=>h (z ▸ EN))
theorem cF{P:Addr->T->Prop}:∀{js:List Nat} {cs:List T} {μ:Mu} {i:Nat} {s:Sl},js.Nodup->Paired P (js.map ad) cs->i∈js->μ[i]?=some s->∃ c,(putAll js cs μ)[i]?=some (s.put c)/\P (ad i) c
 |[],_,_,_,_,_,_,h,_=>by cases h
 |j::js,c::cs,μ,i,s,nd,.cons p ps,h,e=>by
  rw[EY] at nd;by_cases z:i=j
  ·subst z;refine⟨c,?_,p⟩;show (putAll js cs (cC μ i c))[i]?=_;rw[dm nd.1];exact vI e
  ·rcases EG.mp h with z'|z'
   ·exact absurd z' z
   ·exact cF (js:=js) nd.2 ps z' (by rw[mS z];exact e)
theorem Rl.call{B2:aB}{js:List Nat}{outs:List T}(l:Rl F ad B σ H μ)(hb:∀ j∈js,∃(s:Sl) (c:T),μ[j]?=some s/\s.box=some c)(nd:js.Nodup)
  (keep:∀ b o,H b=some o->b∉js.map ad->H' b=some o) (sB:∀ b,B b->B2 b) (nB:∀ b o,H b=some o->¬ B b->¬ B2 b) (tB:∀ b,B2 b->¬ B b->∃ o,H' b=some o) (ps:Paired (Bx F.K H' B2) (js.map ad) outs) :
  Rl F ad B2 σ H' (putAll js outs μ)/\Kp μ (putAll js outs μ)/\Fr B H B2 H':=by
 have inB:∀ b∈js.map ad,B b:=fun b hb'=>by
  obtain⟨j,hj,rfl⟩:=FK.mp hb';obtain⟨s,c,e,q⟩:=hb j hj;exact l.own j s c e q
 have f:Fr B H B2 H':=fun b o e n=>⟨keep b o e fun z=>n (inB b z),nB b o e n⟩;have cases':∀ i s,(putAll js outs μ)[i]?=some s->(i∉js/\μ[i]?=some s)\/(i∈js/\∃ s0 c0 c,μ[i]?=some s0/\s0.box=some c0/\s=s0.put c/\Bx F.K H' B2 (ad i) c):=fun i s e=>by
  by_cases z:i∈js
  ·obtain⟨s0,c0,e0,q0⟩:=hb i z;obtain⟨c,e1,p⟩:=cF nd ps z e0;rw[e1] at e;exact .inr ⟨z,s0,c0,c,e0,q0,(Option.some.inj e).symm,p⟩
  ·rw[dm z] at e;exact .inl ⟨z,e⟩
 have boxOld:∀(i:Nat) (s:Sl) (c:T),(putAll js outs μ)[i]?=some s->s.box=some c->∃(s0:Sl) (c0:T),μ[i]?=some s0/\s0.box=some c0:=fun i s c e b=>by
  rcases cases' i s e with ⟨_,e'⟩|⟨_,s0,c0,_,e0,q0,_⟩
  ·exact⟨s,c,e',b⟩
  ·exact⟨s0,c0,e0,q0⟩
 have ne:∀(i:Nat) (s:Sl) (c:T),i∉js->μ[i]?=some s->s.box=some c->ad i∉js.map ad:=fun i s c z e b hm=>by
  obtain⟨j,hj,q⟩:=FK.mp hm;obtain⟨s0,c0,e0,q0⟩:=hb j hj;exact z (l.inj i j s s0 c c0 e e0 b q0 q.symm ▸ hj)
 refine⟨⟨by rw[gQ];exact l.len,fun i s e=>?_,fun i j s u c d e1 e2 b1 b2 q=>?_,fun i a p=>?_,fun b z=>sB b (l.bc b z),fun b z=>?_,fun b o e n=>?_,fun a ws ga=>?_⟩,fun i=>?_,f⟩
 ·rcases cases' i s e with ⟨z,e'⟩|⟨z,s0,c0,c,e0,q0,rfl,x⟩
  ·have k:=l.slot i s e';unfold fU at k ⊢
   split at k
   ·trivial
   ·obtain⟨v,e1,r1⟩:=k;exact⟨v,e1,r1.fr f⟩
   ·obtain⟨e1,b,z0,p,x⟩:=k;obtain⟨o,eo⟩:=x.aU;exact⟨e1,sB _ b,z0,p,x.of ((keep _ o eo (ne i _ _ z e' rfl)).trans eo.symm) f⟩
   ·obtain⟨e1,b,p,x⟩:=k;obtain⟨o,eo⟩:=x.aU;exact⟨e1,sB _ b,p,x.of ((keep _ o eo (ne i _ _ z e' rfl)).trans eo.symm) f⟩
  ·have k:=l.slot i s0 e0
   cases s0 with
   |un=>cases q0
   |tr t=>cases q0
   |bx d=>exact⟨k.1,sB _ k.2.1,k.2.2.1,k.2.2.2.1,x⟩
   |pb d=>exact⟨k.1,sB _ k.2.1,k.2.2.1,x⟩
 ·obtain⟨s1,c1,g1,g2⟩:=boxOld i s c e1 b1;obtain⟨s2,c2,g3,g4⟩:=boxOld j u d e2 b2;exact l.inj i j s1 s2 c1 c2 g1 g3 g2 g4 q
 ·obtain⟨⟨c,e⟩,ha⟩:=l.par i a p;refine⟨?_,ha⟩;by_cases z:i∈js
  ·obtain⟨c',e1,_⟩:=cF nd ps z e;exact⟨c',e1⟩
  ·exact⟨c,by rw[dm z];exact e⟩
 ·by_cases zb:B b
  ·obtain⟨o,e⟩:=l.aU b zb;by_cases z2:b∈js.map ad
   ·obtain⟨j,hj,rfl⟩:=FK.mp z2;obtain⟨s0,c0,e0,q0⟩:=hb j hj;obtain⟨c,_,x⟩:=cF nd ps hj e0;exact x.aU
   ·exact⟨o,keep b o e z2⟩
  ·exact tB b z zb
 ·have e2:=l.old b o e n;refine keep b o e2 fun hm=>?_;obtain⟨j,hj,rfl⟩:=FK.mp hm;obtain⟨s0,c0,e0,q0⟩:=hb j hj;rcases ((l.slot j s0 e0).boxed q0).2.2.2 with z|z
  ·exact n j z
  ·rw[z] at e;cases e
 ·obtain⟨g1,g2,g3⟩:=l.gh a ws ga;refine⟨keep a _ g1 fun hm=>?_,sB a g2,fun i s c e b=>?_⟩
  ·obtain⟨j,hj,q⟩:=FK.mp hm;obtain⟨s0,c0,e0,q0⟩:=hb j hj;exact g3 j s0 c0 e0 q0 q
  ·obtain⟨s0,c0,e0,q0⟩:=boxOld i s c e b;exact g3 i s0 c0 e0 q0
 ·by_cases z:i∈js
  ·obtain⟨s0,c0,e0,q0⟩:=hb i z;obtain⟨c,e1,_⟩:=cF nd ps z e0;rw[e0,e1];show (s0.box).isSome=((s0.put c).box).isSome;rw[q0,Sl.gA q0];rfl
  ·rw[dm z]
theorem wF(l:Rl F ad B σ H μ)(ro:List Nat):∀{md:List Bool} {xs:List V} {rs:List R} {args:List T},Paired (Hv F ad B H μ) xs rs->sU μ md rs=some args->(∀ j∈gm md rs,j∈ro)->(∀ j∈eR md rs,j∉ro) ->
  (∀ j∈ro,∃(s:Sl) (c:T),μ[j]?=some s/\s.box=some c) ->
  dF F.K H (fun b=>B b/\∀ j∈ro,b≠ad j) md xs args/\iS md xs=(eR md rs).map ad/\∀ j∈eR md rs,∃(s:Sl) (c:T),μ[j]?=some s/\s.box=some c:=by
 intro md
 induction md with
 |nil =>
  intro xs rs args p e _ _ _
  cases p with
  |nil=>cases e;exact⟨trivial,rfl,fun j h=>by cases h⟩
  |cons h p=>cases e
 |cons bb md ih =>
  intro xs rs args pp e h1 h2 h3
  cases pp with
  |nil=>cases bb<;>cases e
  |cons h p =>
   rename_i x r xs2 rs
   cases bb with
   |false =>
    unfold sU at e
    split at e
    ·rename_i t ts e1 e2;cases e;have sub:∀ j∈gm md rs,j∈ro:=fun j hj=>h1 j (by cases r<;>first|exact hj|exact ED _ hj)
     obtain⟨g1,g2,g3⟩:=ih p e2 sub h2 h3;refine⟨⟨?_,g1⟩,?_,g3⟩
     ·cases r with
      |tr t' =>
       have e1':t'=t:=Option.some.inj e1;subst e1';exact (show Rep F.K H B x t' from h).fr (Fr.less fun _ z=>z.1)
      |br j =>
       obtain⟨rfl,s,c,q1,q2⟩:=h;have e1':(μ[j]?).bind Sl.box=some t:=e1;rw[q1] at e1';have bx:=((l.slot j s q1).boxed (c:=t) e1').2.2.1;exact (bx.of rfl (Fr.less fun _ z=>z.1)).rep fun z=>z.2 j (h1 j EN) rfl
      |fr c=>exact h.elim
     ·show iS (false::md) (_::_)=_;rw[show eR (false::md) (r::rs)=eR md rs by cases r<;>rfl]
      exact g2
    ·cases e
   |true =>
    cases r with
    |tr t=>cases e
    |fr c=>cases e
    |br j =>
     unfold sU at e
     split at e
     ·rename_i t ts e1 e2;cases e;obtain⟨g1,g2,g3⟩:=ih p e2 h1 (fun i hi=>h2 i (ED _ hi)) h3;obtain⟨rfl,s,c,q1,q2⟩:=h;have e1':(μ[j]?).bind Sl.box=some t:=e1;rw[q1] at e1';have bx:=(l.slot j s q1).boxed (c:=t) e1';refine⟨⟨⟨ad j,rfl,⟨bx.2.1,fun i hi z=>?_⟩,bx.2.2.1.of rfl (Fr.less fun _ z=>z.1)⟩,g1⟩,Fc (ad j::·) g2,fun i hi=>?_⟩
      ·obtain⟨s',c',q3,q4⟩:=h3 i hi;have:=l.inj j i s s' t c' q1 q3 e1' q4 z;subst this;exact h2 j EN hi
      ·rcases EG.mp hi with z|z
       ·subst z;exact⟨s,t,q1,e1'⟩
       ·exact g3 i z
     ·cases e
theorem gP:∀{md:List Bool} {xs:List V} {rs:List R},Paired (Hv F ad B H μ) xs rs->∀ j∈gm md rs,∃(s:Sl) (c:T),μ[j]?=some s/\s.box=some c
 |[],_,_,_,j,h=>by cases h
 |b::md,_,_,.nil,j,h=>by cases b<;>cases h
 |b::md,_,r::rs,.cons h p,j,hj=>by
  cases b with
  |true=>exact gP (md:=md) p j (by cases r<;>exact hj)
  |false =>
   cases r with
   |tr t=>exact gP (md:=md) p j hj
   |fr c=>exact h.elim
   |br i =>
    rcases EG.mp hj with z|z
    ·subst z;exact h.2
    ·exact gP (md:=md) p j z
theorem Bx.flat(h:Bx K H B a c)(f:gg c=true):Bx K H B' a c:=by
 rcases h.is with ⟨ts,vs,rfl,e,r⟩|⟨ks,ts,vs,rfl,e,l,r⟩
 ·exact⟨vs,e,r.flat f⟩
 ·exact⟨vs,e,l,r.flat f⟩
theorem Paired.k_:∀{as:List Addr} {outs:List T},Paired (Bx K H B) as outs->outs.all gg=true->Paired (Bx K H B') as outs
 |_,_,.nil,_=>.nil
 |_,_,.cons h p,f=>by
  rw[FQ,FC] at f;exact .cons (h.flat f.1) (Paired.k_ p f.2)
namespace Y
noncomputable def AY(md:List Bool)(tsp:fT)(us:UA):UE:=fun μ Q=>us μ fun rs μ1=>match sU μ1 md rs with
 |some args=>(eR md rs).Nodup/\(∀ j∈eR md rs,j∉gm md rs)/\tsp args fun r outs=>(gm md rs=[]\/(fm r=true/\outs.all gg=true))/\Q r (putAll (eR md rs) outs μ1)
 |none=>False
theorem Bq{md:List Bool}{E:XK}{t:TA}{us:UA}(ha:RA K t us):RE K (ik (spT K md tsp) [] E t) (AY md tsp us):=by
 intro F ad B σ H μ Q Qt hF l q k;refine ha F ad B σ H μ _ _ hF l q fun vs H1 rs μ1 l1 ps f1 k1 q1=>?_
 split at q1
 ·rename_i args ea;obtain⟨nd,dj,q1⟩:=q1;have hro:=gP (md:=md) ps;obtain⟨ag,eb,hb⟩:=wF l1 (gm md rs) ps ea (fun j h=>h) dj hro;rw[hF] at ag;show spT K md tsp (vs++[]) H1 Q E;rw[FV];have inj:∀{js:List Nat},js.Nodup->(∀ j∈js,∃(s:Sl) (c:T),μ1[j]?=some s/\s.box=some c)->(js.map ad).Nodup:=fun {js}=>by
   induction js with
   |nil=>exact fun _ _=>Fs
   |cons j js ih =>
    intro nd hb;rw[EY] at nd;rw[Fy,EY];refine⟨fun hm=>?_,ih nd.2 fun i hi=>hb i (ED _ hi)⟩;obtain⟨i,hi,z⟩:=FK.mp hm;obtain⟨s1,c1,e1,b1⟩:=hb j EN;obtain⟨s2,c2,e2,b2⟩:=hb i (ED _ hi);exact nd.1 (l1.inj i j s2 s1 c2 c1 e2 e1 b2 b1 z ▸ hi)
  refine⟨_,args,_,ag,fun b z=>l1.aU b z.1,by rw[eb];exact inj nd hb,q1,fun v H2 r outs hq keep res=>?_⟩
  rw[eb] at keep res;obtain⟨hfl,hq⟩:=hq;have nro:∀{b:Addr},gm md rs=[]->B b->B b/\∀ j∈gm md rs,b≠ad j:=fun {b} z h=>⟨h,fun j hj=>by rw[z] at hj;cases hj⟩
  cases r with
  |br i=>exact res.elim
  |tr t =>
   obtain⟨rv,po⟩:=res;have rv':Rep F.K H2 B v t:=by
    rw[hF];rcases hfl with z|z
    ·exact rv.fr (Fr.less fun b h=>nro z h)
    ·exact rv.flat z.1
   have po':Paired (Bx F.K H2 B) ((eR md rs).map ad) outs:=by
    rw[hF];rcases hfl with z|z
    ·exact Paired.kN po fun a c h=>h.of rfl (Fr.less fun b h=>nro z h)
    ·exact Paired.k_ po z.2
   obtain⟨l2,k2,f2⟩:=l1.call hb nd keep (fun _ z=>z) (fun _ _ _ z=>z) (fun b z n=>absurd z n) po';exact k v H2 (.tr t) _ ⟨l2,rv'⟩ (f1.trans f2) (k1.trans k2) hq
  |fr c =>
   obtain⟨a,rfl,ha0,nBa,x,po⟩:=res;have nBa':¬ B a:=l1.kg ha0;have sub:gm md rs=[]->∀ b,more B a b->more (fun b=>B b/\∀ j∈gm md rs,b≠ad j) a b:=fun z b h=>h.imp id fun h=>nro z h;have x':Bx F.K H2 (more B a) a c:=by
    rw[hF];rcases hfl with z|z
    ·exact x.of rfl (Fr.less (sub z))
    ·exact x.flat z.1
   have po':Paired (Bx F.K H2 (more B a)) ((eR md rs).map ad) outs:=by
    rw[hF];rcases hfl with z|z
    ·exact Paired.kN po fun a' c h=>h.of rfl (Fr.less (sub z))
    ·exact Paired.k_ po z.2
   have po2:Paired (Bx F.K H2 B) ((eR md rs).map ad) outs:=Paired.kN po' fun a' c h=>h.of rfl (Fr.less fun _ z=>.inr z);obtain⟨l2,k2,f2⟩:=l1.call hb nd keep (fun _ z=>z) (fun _ _ _ z=>z) (fun b z n=>absurd z n) po2;obtain⟨l3,_,f3⟩:=l1.call (B2:=more B a) hb nd keep (fun _ z=>.inr z) (fun b o e n z=>z.elim (fun z=>by rw[z,ha0] at e;cases e) n) (fun b z n=>z.elim (fun z=>by rw[z];exact x'.aU) fun z=>absurd z n) po'
   exact k _ H2 (.fr c) _ ⟨l2,a,rfl,nBa',l1.qK ha0,l3,x'⟩ (f1.trans f3) (k1.trans k2) hq
 ·exact q1.elim
section
variable {X:Cx} {e:Expr} {es:List Expr} {us:UA} {pos p:Pos} {x:Str} {k:Nat} {ps:List Str} {md:List Bool} {tsp:fT} {E:XK}
theorem fn(K:Ih)(hK:X.K=K)(F:aj X.prog X.w X.K X.mg X.base aW k x ps (spT K md tsp))(hr:aY k X.A)(hg:Gl X x)(hx:Passes aW X E)(ha:YA X (e::es) us)(h1:autoParam (cN e=true) ℜ0)(h2:autoParam (es.all cN=true) ℜ0)(hdb:autoParam ((x ==("__debug__":Str))=false) ℜ1):
  YE X (.Call (.Name x p) (e::es) [] pos) (AY md tsp us):=by
 obtain⟨t,q,r⟩:=ha;subst hK;exact⟨_,Z.fn F hr hg hx q h1 h2 hdb,Bq r⟩
end
end Y
section
variable {prog:Program} {w:World} {A:Around} {E:Value->Shared->Prop} {s:Shared}
structure ZA (z TI TO i1 i2 l1 l2:Addr):Prop where
 a1:TI≠z
 a2:TO≠z
 a3:i1≠z
 a4:i2≠z
 a5:TO≠i1
 a6:TO≠i2
 a7:i1≠i2
 a8:l1≠z/\l1≠TO/\l1≠i1/\l1≠i2
 a9:l2≠z/\l2≠TO/\l2≠i1/\l2≠i2
 b1:TI≠TO/\TI≠i1/\TI≠i2
theorem ZA.f1{TI TO:Addr}(D:ZA z TI TO i1 i2 l1 l2)(he:e=z\/e=TO\/e=i2):∀ b∈[i1,l1],b≠e:=fun b hb=>by
 rcases EG.mp hb with rfl|hb
 ·rcases he with rfl|rfl|rfl
  ·exact D.a3
  ·exact D.a5.symm
  ·exact D.a7
 ·have hb:b=l1:=by simpa using hb
  subst hb;rcases he with rfl|rfl|rfl
  ·exact D.a8.1
  ·exact D.a8.2.1
  ·exact D.a8.2.2.2
theorem ZA.f2{TI TO:Addr}(D:ZA z TI TO i1 i2 l1 l2)(he:e=z\/e=TO\/e=i1):∀ b∈[i2,l2],b≠e:=fun b hb=>by
 rcases EG.mp hb with rfl|hb
 ·rcases he with rfl|rfl|rfl
  ·exact D.a4
  ·exact D.a6.symm
  ·exact D.a7.symm
 ·have hb:b=l2:=by simpa using hb
  subst hb;rcases he with rfl|rfl|rfl
  ·exact D.a9.1
  ·exact D.a9.2.1
  ·exact D.a9.2.2.1
theorem dg{l:Addr}{P:Nat->Value->Prop}{S:Nat->Heap->Prop}{A':Around}(D:Draws prog w A' it [it,l] n P S)(st:S i h)(hs:Heap.ExtBut e h h')(ne:∀ b∈[it,l],b≠e):S i h':=D.frame i h h' st fun b hb o q=>hs b o (ne b hb) q
theorem pJ{TI TO:Addr}{n1 n2:Nat}{a b:Value}{Q:Value->Shared->Prop}(D:ZA z TI TO i1 i2 l1 l2)(D1:Draws prog w A i1 [i1,l1] n1 P1 S1)(D2:Draws prog w A i2 [i2,l2] n2 P2 S2)
  (hz:IsZip s.heap z TI TO .none) (hTI:IsPair s.heap TI (.ref i1) (.ref i2)) (hTO:IsPair s.heap TO a b) (st1:S1 k s.heap) (st2:S2 k s.heap) (hk1:k<n1) (hk2:k<n2)
  (hQ:∀ x y h' tk,P1 k x->P2 k y->IsZip h' z TI TO (rawInt s.heap.objs.size)->IsPair h' TO x y->S1 (k+1) h'->S2 (k+1) h'->IsPair h' s.heap.objs.size x y ->
   (∀ c o,c≠z->c≠TO->c≠i1->c≠i2->s.heap.get? c=some o->h'.get? c=some o)->Q (.ref s.heap.objs.size) {s with heap:=h',toks:=tk}) :
  wpAny (model prog w) A (Builtin.«zip.__next__» ⟨[.ref z],[]⟩) (fun fin s'=>∃ v,fin=.done (.ret v)/\Q v s') E s:=by
 have zrec:=hz;show wpAny _ _ (field (.ref z) 2 >>= _) _ _ _;refine EA (Fv zrec rfl (x:=.bool false) rfl ?_);show wpAny _ _ (field (.ref z) 3 >>= _) _ _ _;refine EA (Fv zrec rfl (x:=.ref TI) rfl ?_);have tirec:=hTI;refine EA (Gd tirec rfl ?_);show wpAny _ _ (Builtin.SmallTypes.ownedTupleIsFree (.ref z) >>= _) _ _ _;refine EA ?_;unfold Builtin.SmallTypes.ownedTupleIsFree;refine EA (Fv zrec rfl (x:=.none) rfl (EL ?_));simp only[GQ];refine EA (HX ?_);refine EA (Fv zrec rfl (x:=.ref TO) rfl ?_);refine EA (Gg zrec (by simp) fun g1 zr1 sb1=>?_)
 replace zr1:IsZip g1 z TI TO .ellipsis:=zr1
 refine EA ?_;simp only[List.zipIdx_cons,List.zipIdx_nil,HG,List.forIn_nil];refine EA (EA (Hs ?_));show wpAny _ _ (Builtin.SmallTypes.nextOf (.ref i1) >>= _) _ _ _;refine EA (D1.item k _ _ _ hk1 (dg D1 st1 sb1.extBut (D.f1 (.inl rfl))) fun x g2 tk2 px st1b sb2=>EL ?_);have to2:IsPair g2 TO a b:=sb2.extBut _ _ D.a5 (sb1.extBut _ _ D.a2 hTO);refine EA (Gd to2 rfl ?_);refine EA (Hd to2 fun g3 to3 sb3=>?_)
 replace to3:IsPair g3 TO x b:=to3
 refine EA (wpAny_letGo (EL ?_));refine EA (EA (Hs ?_));show wpAny _ _ (Builtin.SmallTypes.nextOf (.ref i2) >>= _) _ _ _;have st2c:S2 k g3:=dg D2 (dg D2 (dg D2 st2 sb1.extBut (D.f2 (.inl rfl))) sb2.extBut (D.f2 (.inr (.inr rfl)))) sb3.extBut (D.f2 (.inr (.inl rfl)));refine EA (D2.item k _ _ _ hk2 st2c fun y g4 tk4 py st2d sb4=>EL ?_);have to4:IsPair g4 TO x b:=sb4.extBut _ _ D.a6 to3;refine EA (Gd to4 rfl ?_);refine EA (Hd to4 fun g5 to5 sb5=>?_)
 replace to5:IsPair g5 TO x y:=to5
 refine EA (wpAny_letGo (EL (EL ?_)));refine EA (Gd to5 rfl ?_);refine EA (wpAny_newTuple ?_);have size5:g5.objs.size=s.heap.objs.size:=by rw[sb5.1,sb4.1,sb3.1,sb2.1,sb1.1]
 have zr5:IsZip g5 z TI TO .ellipsis:=sb5.extBut _ _ D.a2.symm (sb4.extBut _ _ D.a4.symm (sb3.extBut _ _ D.a2.symm (sb2.extBut _ _ D.a3.symm zr1)));have keep5:∀ c o,c≠z->c≠TO->c≠i1->c≠i2->s.heap.get? c=some o->g5.get? c=some o:=fun c o e1 e2 e3 e4 q =>
  sb5.extBut _ _ e2 (sb4.extBut _ _ e4 (sb3.extBut _ _ e2 (sb2.extBut _ _ e3 (sb1.extBut _ _ e1 q))))
 have s1e:S1 (k+1) g5:=dg D1 (dg D1 (dg D1 st1b sb3.extBut (D.f1 (.inr (.inl rfl)))) sb4.extBut (D.f1 (.inr (.inr rfl)))) sb5.extBut (D.f1 (.inr (.inl rfl)));have s2e:S2 (k+1) g5:=dg D2 st2d sb5.extBut (D.f2 (.inr (.inl rfl)));have zlt:z<g5.objs.size:=ER zr5;show wpAny _ _ (Builtin.SmallTypes.ownedTupleHandOut (.ref z) (.ref g5.objs.size) >>= _) _ _ _;refine EA ?_;unfold Builtin.SmallTypes.ownedTupleHandOut;have zr6:IsZip (g5.push {cls:=.type "tuple",data:=.seq #[x,y]}) z TI TO .ellipsis:=EC _ zr5;refine EA (Gg zr6 (by simp) fun g7 zr7 sb7=>?_)
 replace zr7:IsZip g7 z TI TO (rawInt g5.objs.size):=zr7
 refine Gg zr7 (by simp) fun g8 zr8 sb8=>?_
 replace zr8:IsZip g8 z TI TO (rawInt g5.objs.size):=zr8
 have up:∀ c o,c≠z->g5.get? c=some o->g8.get? c=some o:=fun c o e1 q=>sb8.extBut _ _ e1 (sb7.extBut _ _ e1 (EC _ q));have pr8:IsPair g8 g5.objs.size x y:=sb8.extBut _ _ (Ha zlt) (sb7.extBut _ _ (Ha zlt) (EV _ rfl));rw[size5] at zr8 pr8;refine EL ⟨_,rfl,?_⟩;show Q (.ref g5.objs.size) _;rw[size5];exact hQ x y g8 _ px py zr8 (up _ _ D.a2 to5) (D1.frame _ _ _ s1e fun b hb o q=>up b o (D.f1 (.inl rfl) b hb) q) (D2.frame _ _ _ s2e fun b hb o q=>up b o (D.f2 (.inl rfl) b hb) q) pr8 fun c o e1 e2 e3 e4 q=>up c o e1 (keep5 c o e1 e2 e3 e4 q)
theorem qX{TI TO:Addr}{n1 n2:Nat}{a b:Value}{Q:Fin->Shared->Prop}(D:ZA z TI TO i1 i2 l1 l2)(D1:Draws prog w A i1 [i1,l1] n1 P1 S1)(D2:Draws prog w A i2 [i2,l2] n2 P2 S2)
  (hz:IsZip s.heap z TI TO .none) (hTI:IsPair s.heap TI (.ref i1) (.ref i2)) (hTO:IsPair s.heap TO a b) (st1:S1 k s.heap) (st2:S2 k s.heap) (hk:k=n1\/(k<n1/\k=n2))
  (hE:∀ h' e tk,(∀ c o,c≠z->c≠TO->c≠i1->c≠i2->s.heap.get? c=some o->h'.get? c=some o)->(∃ o,h'.get? e=some o/\o.cls=.type "StopIteration")->E (.ref e) {s with heap:=h',toks:=tk}) :
  wpAny (model prog w) A (Builtin.«zip.__next__» ⟨[.ref z],[]⟩) Q E s:=by
 have zrec:=hz;show wpAny _ _ (field (.ref z) 2 >>= _) _ _ _;refine EA (Fv zrec rfl (x:=.bool false) rfl ?_);show wpAny _ _ (field (.ref z) 3 >>= _) _ _ _;refine EA (Fv zrec rfl (x:=.ref TI) rfl ?_);have tirec:=hTI;refine EA (Gd tirec rfl ?_);show wpAny _ _ (Builtin.SmallTypes.ownedTupleIsFree (.ref z) >>= _) _ _ _;refine EA ?_;unfold Builtin.SmallTypes.ownedTupleIsFree;refine EA (Fv zrec rfl (x:=.none) rfl (EL ?_));simp only[GQ];refine EA (HX ?_);refine EA (Fv zrec rfl (x:=.ref TO) rfl ?_);refine EA (Gg zrec (by simp) fun g1 zr1 sb1=>?_)
 replace zr1:IsZip g1 z TI TO .ellipsis:=zr1
 refine EA ?_;simp only[List.zipIdx_cons,List.zipIdx_nil,HG,List.forIn_nil];refine EA (EA (Hs ?_));show wpAny _ _ (Builtin.SmallTypes.nextOf (.ref i1) >>= _) _ _ _;rcases hk with hk|⟨hk1,hk2⟩
 ·subst hk;refine EA (D1.done _ _ _ (dg D1 st1 sb1.extBut (D.f1 (.inl rfl))) fun g2 e sb2 he=>?_);obtain⟨oe,hoe,hce⟩:=he;have zr2:IsZip g2 z TI TO .ellipsis:=sb2 _ _ D.a3.symm zr1;have nez:e≠z:=fun q=>by subst q;rw[zr2] at hoe;cases hoe;simp at hce
  refine Gg zr2 (by simp) fun g3 _ sb3=>hE g3 e _ (fun c o e1 _ e3 _ q=>sb3.extBut _ _ e1 (sb2 _ _ e3 (sb1.extBut _ _ e1 q))) ⟨oe,sb3.extBut _ _ nez hoe,hce⟩
 ·subst hk2;refine EA (D1.item k _ _ _ hk1 (dg D1 st1 sb1.extBut (D.f1 (.inl rfl))) fun x g2 tk2 px st1b sb2=>EL ?_);have to2:IsPair g2 TO a b:=sb2.extBut _ _ D.a5 (sb1.extBut _ _ D.a2 hTO);refine EA (Gd to2 rfl ?_);refine EA (Hd to2 fun g3 to3 sb3=>?_);refine EA (wpAny_letGo (EL ?_));refine EA (EA (Hs ?_));show wpAny _ _ (Builtin.SmallTypes.nextOf (.ref i2) >>= _) _ _ _;have st2c:S2 k g3:=dg D2 (dg D2 (dg D2 st2 sb1.extBut (D.f2 (.inl rfl))) sb2.extBut (D.f2 (.inr (.inr rfl)))) sb3.extBut (D.f2 (.inr (.inl rfl)));refine EA (D2.done _ _ _ st2c fun g4 e sb4 he=>?_);obtain⟨oe,hoe,hce⟩:=he;have zr4:IsZip g4 z TI TO .ellipsis:=sb4 _ _ D.a4.symm (sb3.extBut _ _ D.a2.symm (sb2.extBut _ _ D.a3.symm zr1));have nez:e≠z:=fun q=>by subst q;rw[zr4] at hoe;cases hoe;simp at hce
  refine Gg zr4 (by simp) fun g5 _ sb5=>hE g5 e _ (fun c o e1 e2 e3 e4 q=>sb5.extBut _ _ e1 (sb4 _ _ e4 (sb3.extBut _ _ e2 (sb2.extBut _ _ e3 (sb1.extBut _ _ e1 q))))) ⟨oe,sb5.extBut _ _ nez hoe,hce⟩
end
noncomputable def nr(K:Ih)(k:Bool)(H:Hp)(a:Addr)(xs:List V):Prop:=if k=true then a_ K H a xs else b6 K H a xs
noncomputable def fV(k:Bool)(h:Heap)(it a:Addr)(i:Nat):Prop:=if k=true then h.IsListIter it a i else h.IsTupleIter it a i
noncomputable def gj(k:Bool)(h:Heap)(a:Addr)(items:Array Value):Prop:=if k=true then h.IsList a items else h.IsTuple a items
theorem gF{A:Around}(k:Bool)(hh:A.handled=none)(it l:Addr)(hne:l≠it)(items:Array Value):Draws prog w A it [it,l] items.size (fun i v=>items[i]?=some v) (fun i h=>fV k h it l i/\gj k h l items):=by
 cases k with
 |true=>exact Draws.list hh it l hne items
 |false=>exact oo hh it l hne items
theorem Inv.oI{k:Bool}(I:Inv X pins σ H s)(h:nr X.K k H a xs):∃ ah:List Value,Vals xs ah/\gj k s.heap a ah.toArray:=by
 cases k with
 |true=>obtain⟨ah,r,p,_⟩:=I.list h;exact⟨ah,r,p.isList⟩
 |false=>obtain⟨ah,r,p,_⟩:=I.tuple h;exact⟨ah,r,p⟩
theorem Inv.kq{k:Bool}(I:Inv X pins σ H s)(h:nr X.K k H a xs)(h':nr X.K k H a ys):xs=ys:=by
 cases k with
 |true=>exact I.kj h h'
 |false=>exact I.iQ h h'
noncomputable def xN(K:Ih)(k1 k2:Bool)(a b:Addr):It:=
  ⟨fun i H=>∃ xs ys x y,nr K k1 H a xs/\nr K k2 H b ys/\xs[i]?=some x/\ys[i]?=some y,
   fun i H v H'=>∃ p x y,(∀ xs,nr K k1 H a xs->xs[i]?=some x)/\(∀ ys,nr K k2 H b ys->ys[i]?=some y)/\H p=none/\v=.ref p/\H'=upd H p (.tup [x,y]),
   fun i H=>∃ xs ys,nr K k1 H a xs/\nr K k2 H b ys/\i=min xs.length ys.length⟩
theorem gj.ty{k:Bool}(x:gj k h a items):∃ o,h.get? a=some o/\(o.cls=.type "list"\/o.cls=.type "tuple")/\∃ n,o.data=.seq items n:=by
 cases k with
 |true=>obtain⟨o,e,c,n,d⟩:=(show h.IsList a items from x);exact⟨o,e,.inl c,n,d⟩
 |false=>obtain⟨o,e,c,n,d⟩:=(show h.IsTuple a items from x);exact⟨o,e,.inr c,n,d⟩
theorem fV.ty{k:Bool}(x:fV k h it a i):∃ o,h.get? it=some o/\(o.cls=.type "list_iterator"\/o.cls=.type "tuple_iterator")/\o.data=.fields #[.ref a,.int i 0]:=by
 cases k with
 |true=>obtain⟨o,e,c,d⟩:=(show h.IsListIter it a i from x);exact⟨o,e,.inl c,d⟩
 |false=>obtain⟨o,e,c,d⟩:=(show h.IsTupleIter it a i from x);exact⟨o,e,.inr c,d⟩
noncomputable def Dm(k:Bool):String:=if k=true then "list_iterator" else "tuple_iterator"
abbrev Cw(h:Heap)(k1:Bool)(a:Addr):Heap:=h.push {cls:=.type (Dm k1),data:=.fields #[.ref a,.int 0 0]}
abbrev C7(h:Heap)(k1 k2:Bool)(a b:Addr):Heap:=(Cw h k1 a).push {cls:=.type (Dm k2),data:=.fields #[.ref b,.int 0 0]}
abbrev Cu(h:Heap)(k1 k2:Bool)(a b:Addr):Heap:=(C7 h k1 k2 a b).push {cls:=.type "tuple",data:=.seq #[.ref h.objs.size,.ref (Cw h k1 a).objs.size]}
abbrev C8(h:Heap)(k1 k2:Bool)(a b:Addr):Heap:=(Cu h k1 k2 a b).push {cls:=.type "tuple",data:=.seq #[.none,.none]}
abbrev zV(h:Heap)(k1 k2:Bool)(a b:Addr):Heap:=(C8 h k1 k2 a b).push {cls:=.type "zip",data:=.fields #[.none,.bool false,.bool false,.ref (C7 h k1 k2 a b).objs.size,.ref (Cu h k1 k2 a b).objs.size]}
theorem kX(x:h.IsTuple a items)(o:Obj):(h.push o).IsTuple a items:=by
 obtain⟨ob,e,r⟩:=x;exact⟨ob,EC _ e,r⟩
theorem m5(k1 k2:Bool)(a b:Addr)(xs ys:Array Value):
  Meets (Builtin.«zip.__new__» ⟨[.type "zip",.ref a,.ref b],[]⟩) (fun _ R s=>gj k1 s.heap a xs/\gj k2 s.heap b ys /\
   R (.ok (.ret (.ref (C8 s.heap k1 k2 a b).objs.size))) {s with heap:=zV s.heap k1 k2 a b}):=
 .of_wp fun prog w A R s h=>by
  obtain⟨hp,g,d,tk,os⟩:=s;obtain⟨q1,q2,h⟩:=h;have hsub:=sub_zip
  cases k1 with
  |true =>
   have w1:Heap.IsList (Shared.heap ⟨hp,g,d,tk,os⟩) a xs:=q1
   cases k2 with
   |true =>
    have w2:Heap.IsList (Shared.heap ⟨hp.push {cls:=.type "list_iterator",data:=.fields #[.ref a,.int 0 0]},g,d,tk,os⟩) b ys:=Heap.IsList.push q2 _;wp_walk using FZ w1,FZ w2;exact⟨_,rfl,h⟩
   |false =>
    have w2:Heap.IsTuple (Shared.heap ⟨hp.push {cls:=.type "list_iterator",data:=.fields #[.ref a,.int 0 0]},g,d,tk,os⟩) b ys:=kX q2 _;wp_walk using FZ w1,Gf w2;exact⟨_,rfl,h⟩
  |false =>
   have w1:Heap.IsTuple (Shared.heap ⟨hp,g,d,tk,os⟩) a xs:=q1
   cases k2 with
   |true =>
    have w2:Heap.IsList (Shared.heap ⟨hp.push {cls:=.type "tuple_iterator",data:=.fields #[.ref a,.int 0 0]},g,d,tk,os⟩) b ys:=Heap.IsList.push q2 _;wp_walk using Gf w1,FZ w2;exact⟨_,rfl,h⟩
   |false =>
    have w2:Heap.IsTuple (Shared.heap ⟨hp.push {cls:=.type "tuple_iterator",data:=.fields #[.ref a,.int 0 0]},g,d,tk,os⟩) b ys:=kX q2 _;wp_walk using Gf w1,Gf w2;exact⟨_,rfl,h⟩
theorem wJ{k:Bool}(e:h.get? it=some {cls:=.type (Dm k),data:=.fields #[.ref a,.int 0 0]}):fV k h it a 0:=by
 cases k with
 |true=>exact⟨_,e,rfl,rfl⟩
 |false=>exact⟨_,e,rfl,rfl⟩
section
variable {prog:Program} {w:World} {A:Around} {E:Value->Shared->Prop} {s:Shared}
theorem oz{k1 k2:Bool}{b:Addr}{xs ys:Array Value}{Q:Value->Shared->Prop}(h1:gj k1 s.heap a xs)(h2:gj k2 s.heap b ys)
  (h:∀ h',IsZip h' (s.heap.objs.size+4) (s.heap.objs.size+2) (s.heap.objs.size+3) .none->IsPair h' (s.heap.objs.size+2) (.ref s.heap.objs.size) (.ref (s.heap.objs.size+1))->IsPair h' (s.heap.objs.size+3) .none .none ->
   fV k1 h' s.heap.objs.size a 0->fV k2 h' (s.heap.objs.size+1) b 0->(∀ c o,s.heap.get? c=some o->h'.get? c=some o)->Q (.ref (s.heap.objs.size+4)) {s with heap:=h'}) :
  wpAny (model prog w) A (call (.type "zip") [.ref a,.ref b]) Q E s:=by
 refine callType_new F.called_zip (by decide) (F.typeCall_zip_2 _ _) (F.newCall_zip_2 _ _) (fun obj=>F.args_object_init_3 obj _ _) F.entry_zip_new (m5 k1 k2 a b xs ys) ⟨h1,h2,?_⟩
 have e1:(Cw s.heap k1 a).objs.size=s.heap.objs.size+1:=Gk ..;have e2:(C7 s.heap k1 k2 a b).objs.size=s.heap.objs.size+2:=by rw[Gk,e1]
 have e3:(Cu s.heap k1 k2 a b).objs.size=s.heap.objs.size+3:=by rw[Gk,e2]
 have e4:(C8 s.heap k1 k2 a b).objs.size=s.heap.objs.size+4:=by rw[Gk,e3]
 have p5:(zV s.heap k1 k2 a b).get? (C8 s.heap k1 k2 a b).objs.size=some _:=EV _ rfl;have p4:(zV s.heap k1 k2 a b).get? (Cu s.heap k1 k2 a b).objs.size=some _:=EC _ (EV _ rfl);have p3:(zV s.heap k1 k2 a b).get? (C7 s.heap k1 k2 a b).objs.size=some _:=EC _ (EC _ (EV _ rfl));have p2:(zV s.heap k1 k2 a b).get? (Cw s.heap k1 a).objs.size=some _:=EC _ (EC _ (EC _ (EV _ rfl)));have p1:(zV s.heap k1 k2 a b).get? s.heap.objs.size=some _:=EC _ (EC _ (EC _ (EC _ (EV _ rfl))));show _/\_;rw[e2,e3,e4] at p5;rw[e1,e2] at p3;rw[e3] at p4;rw[e1] at p2;rw[e4];exact⟨⟨_,p5,rfl⟩,h _ p5 p3 p4 (wJ p1) (wJ p2) fun c o x=>EC _ (EC _ (EC _ (EC _ (EC _ x))))⟩
end
theorem oq{w:World}{tk:Nat}{tp:Pos}(k1 k2:Bool)(a b z TI TO i1 i2:Addr)(D:ZA z TI TO i1 i2 a b):
  Turn P w K (.Tuple es tk tp) (xN K k1 k2 a b) [z,TI,TO,i1,i2] z (fun i h=>IsZip h z TI TO .none/\IsPair h TI (.ref i1) (.ref i2)/\(∃ x y,IsPair h TO x y)/\fV k1 h i1 a i/\fV k2 h i2 b i) where
 mem:=by simp
 obj:=fun i h st c hc=>by
  obtain⟨s1,s2,⟨x,y,s3⟩,s4,s5⟩:=st;simp only[EG,EW,FI] at hc;rcases hc with rfl|rfl|rfl|rfl|rfl
  ·exact⟨_,s1,fun v q=>by cases q⟩
  ·exact⟨_,s2,fun v q=>by cases q⟩
  ·exact⟨_,s3,fun v q=>by cases q⟩
  ·obtain⟨o,e,_,d⟩:=s4.ty;exact⟨o,e,fun v q=>by rw[d] at q;cases q⟩
  ·obtain⟨o,e,_,d⟩:=s5.ty;exact⟨o,e,fun v q=>by rw[d] at q;cases q⟩
 keep:=fun i h h' st k=>by
  obtain⟨s1,s2,⟨x,y,s3⟩,s4,s5⟩:=st;refine⟨k z (by simp) _ s1,k TI (by simp) _ s2,⟨x,y,k TO (by simp) _ s3⟩,?_,?_⟩
  ·cases k1 with
   |true=>obtain⟨o,e,r⟩:=(show h.IsListIter i1 a i from s4);exact⟨o,k i1 (by simp) o e,r⟩
   |false=>obtain⟨o,e,r⟩:=(show h.IsTupleIter i1 a i from s4);exact⟨o,k i1 (by simp) o e,r⟩
  ·cases k2 with
   |true=>obtain⟨o,e,r⟩:=(show h.IsListIter i2 b i from s5);exact⟨o,k i2 (by simp) o e,r⟩
   |false=>obtain⟨o,e,r⟩:=(show h.IsTupleIter i2 b i from s5);exact⟨o,k i2 (by simp) o e,r⟩
 item:=by
  intro X hP hw hK hc i pins s σ H E I hf st hg;subst hP hw hK;obtain⟨xs,ys,x,y,q1,q2,ex,ey⟩:=hg;obtain⟨s1,s2,⟨x0,y0,s3⟩,s4,s5⟩:=st;obtain⟨its1,rv1,p1⟩:=I.oI q1;obtain⟨its2,rv2,p2⟩:=I.oI q2;obtain⟨u1,hu1,ru1⟩:=rv1.get ex;obtain⟨u2,hu2,ru2⟩:=rv2.get ey;have lt1:i<its1.toArray.size:=by have:=(EM.mp hu1).1;simpa using this
  have lt2:i<its2.toArray.size:=by have:=(EM.mp hu2).1;simpa using this
  have hT:s.TypeIs (.ref z) "zip":=⟨_,s1,rfl⟩;have D1:=gF (prog:=X.prog) (w:=X.w) (A:=X.A.in1) k1 (I.ok.hd hc) i1 a D.a8.2.2.1 its1.toArray;have D2:=gF (prog:=X.prog) (w:=X.w) (A:=X.A.in1) k2 (I.ok.hd hc) i2 b D.a9.2.2.2 its2.toArray;unfold pyNext;refine EA (H_ (FP (name:=Str.ofString "__next__") hT PySem.F.slot_zip_next (Gn PySem.F.slot_zip_next hT PySem.F.entry_zip_next
   (pJ D D1 D2 s1 s2 s3 ⟨s4,p1⟩ ⟨s5,p2⟩ lt1 lt2 fun v1 v2 h' tk' px py z1 t1 w1 w2 pr kp=>EL ?_) (PySem.F.args_zip_next_1 _))))
  have fr:H s.heap.objs.size=none:=I.aM.fresh (EH _);have ev1:v1=u1:=by rw[GB,hu1] at px;exact (Option.some.inj px).symm
  have ev2:v2=u2:=by rw[GB,hu2] at py;exact (Option.some.inj py).symm
  subst ev1 ev2;have lt:∀{c o},s.heap.get? c=some o->s.heap.objs.size≠c:=fun e=>Ha (ER e);refine⟨.ref s.heap.objs.size,rfl,wpAny_letOwnedTupleGo_zip z1 fun h2 z2 sb2=>?_⟩;have pr2:IsPair h2 s.heap.objs.size v1 v2:=sb2.extBut _ _ (lt s1) pr;have I2:Inv X pins σ (upd H s.heap.objs.size (.tup [x,y])) {s with heap:=h2,toks:=tk'}:=by
   refine I.vL (fp:=[z,TI,TO,i1,i2]) hf (EH _) (fun c o hcm ec=>?_) ⟨by show 2<=sizeLine;decide,[v1,v2],.cons ru1 (.cons ru2 .nil),⟨_,pr2,rfl,_,rfl,rfl⟩⟩
   simp only[EG,EW,FI,Hy] at hcm;exact sb2.extBut _ _ hcm.1 (kp c o hcm.1 hcm.2.2.1 hcm.2.2.2.1 hcm.2.2.2.2 ec)
  refine⟨.ref s.heap.objs.size,_,I2,rfl,⟨s.heap.objs.size,x,y,fun zs hz=>by rw[I.kq hz q1];exact ex,fun zs hz=>by rw[I.kq hz q2];exact ey,fr,rfl,rfl⟩,⟨z2,?_,⟨v1,v2,?_⟩,?_,?_⟩,fun c hcm=>?_⟩
  ·exact sb2.extBut _ _ D.a1 (kp _ _ D.a1 D.b1.1 D.b1.2.1 D.b1.2.2 s2)
  ·exact sb2.extBut _ _ D.a2 t1
  ·have:=D1.frame (i+1) h' h2 w1 fun c hcm o q=>sb2.extBut _ _ (D.f1 (.inl rfl) c hcm) q;exact this.1
  ·have:=D2.frame (i+1) h' h2 w2 fun c hcm o q=>sb2.extBut _ _ (D.f2 (.inl rfl) c hcm) q;exact this.1
  ·have hn:=(hf c hcm).1;rw[af]
   ·exact hn
   ·simp only[EG,EW,FI] at hcm;rcases hcm with rfl|rfl|rfl|rfl|rfl
    ·exact (lt s1).symm
    ·exact (lt s2).symm
    ·exact (lt s3).symm
    ·obtain⟨o,e,_⟩:=s4.ty;exact (lt e).symm
    ·obtain⟨o,e,_⟩:=s5.ty;exact (lt e).symm
 done:=by
  intro X hP hw hK hc i pins s σ H E I hf st hg;subst hP hw hK;obtain⟨xs,ys,q1,q2,hi⟩:=hg;obtain⟨s1,s2,⟨x0,y0,s3⟩,s4,s5⟩:=st;obtain⟨its1,rv1,p1⟩:=I.oI q1;obtain⟨its2,rv2,p2⟩:=I.oI q2;have n1:its1.toArray.size=xs.length:=by rw[EE];exact rv1.length.symm
  have n2:its2.toArray.size=ys.length:=by rw[EE];exact rv2.length.symm
  have hT:s.TypeIs (.ref z) "zip":=⟨_,s1,rfl⟩;have D1:=gF (prog:=X.prog) (w:=X.w) (A:=X.A.in1) k1 (I.ok.hd hc) i1 a D.a8.2.2.1 its1.toArray;have D2:=gF (prog:=X.prog) (w:=X.w) (A:=X.A.in1) k2 (I.ok.hd hc) i2 b D.a9.2.2.2 its2.toArray;unfold pyNext;refine EA (H_ (FP (name:=Str.ofString "__next__") hT PySem.F.slot_zip_next (Gn PySem.F.slot_zip_next hT PySem.F.entry_zip_next
   (qX D D1 D2 s1 s2 s3 ⟨s4,p1⟩ ⟨s5,p2⟩ (by rw[n1,n2];lia) fun h' e tk' kp he=>?_) (PySem.F.args_zip_next_1 _))))
  obtain⟨o,ho,hcl⟩:=he;refine EA (wpAny_isInstance (T:="StopIteration") (b:=true) ⟨o,ho,hcl⟩ isSubtype_stop (EL ⟨rfl,?_⟩));refine I.turns (t':=tk') hf fun c o hcm ec=>?_;simp only[EG,EW,FI,Hy] at hcm;exact kp c o hcm.1 hcm.2.2.1 hcm.2.2.2.1 hcm.2.2.2.2 ec
 self:=fun A i s Q E st h=>wpAny_pyIter_zip st.1 h
section
variable {X:Cx} {es:List Expr} {tk:Nat} {tp:Pos}
noncomputable def Av(K:Ih)(ta:TA):TI:=fun σ H R=>ta σ H fun vs H1=>∃ a b k1 k2,vs=[.ref a,.ref b]/\(∃ xs,nr K k1 H1 a xs)/\(∃ ys,nr K k2 H1 b ys)/\R (xN K k1 k2 a b) H1
theorem uT{e1 e2:Expr}{ta:TA}{p:Pos}(hg:Gl X "zip")(hm:X.mg "zip"=none)(ha:PA X [e1,e2] ta)(h1:autoParam (cN e1=true) ℜ0)(h2:autoParam (cN e2=true) ℜ0)(hv:autoParam (bootBuiltins "zip"=some (.type "zip")) ℜ6):
  PI X (.Tuple es tk tp) (.Call (.Name "zip" p) [e1,e2] [] pos) (Av X.K ta):=by
 intro pins s σ H R I h;refine Call_ (hZ I hg hm hv (GC (bg (ha pos pins s σ H _ I h) fun us s1 hq1=>?_) (by rw[dC h1,dC h2]) (by rw[dC h2];rfl)))
 obtain⟨vs,H1,I1,r1,q1⟩:=hq1;obtain⟨a,b,k1,k2,e,⟨xs,hx⟩,⟨ys,hy⟩,q⟩:=q1;subst e;obtain⟨u,w',rfl,ru,rw'⟩:=vals2 r1
 cases ru;cases rw'
 obtain⟨its1,rv1,p1⟩:=I1.oI hx;obtain⟨its2,rv2,p2⟩:=I1.oI hy;obtain⟨o1,eo1,_⟩:=p1.ty;obtain⟨o2,eo2,_⟩:=p2.ty;have l1:a<s1.heap.objs.size:=ER eo1;have l2:b<s1.heap.objs.size:=ER eo2;refine oz p1 p2 fun h' z1 z2 z3 z4 z5 kp=>wpAny_pyIter_zip z1 ?_;have I2:Inv X pins σ H1 {s1 with heap:=h'}:=I1.kept (t':=s1.toks) kp
 have ne:∀(m n c:Nat),m≠n->c+m≠c+n:=fun m n c h=>by lia
 have nl:∀(x c m:Nat),x<c->x≠c+m:=fun x c m h=>by lia
 have D:ZA (s1.heap.objs.size+4) (s1.heap.objs.size+2) (s1.heap.objs.size+3) s1.heap.objs.size (s1.heap.objs.size+1) a b:=
  ⟨ne 2 4 _ (by decide),ne 3 4 _ (by decide),ne 0 4 _ (by decide),ne 1 4 _ (by decide),ne 3 0 _ (by decide),ne 3 1 _ (by decide),ne 0 1 _ (by decide),⟨nl _ _ 4 l1,nl _ _ 3 l1,nl _ _ 0 l1,nl _ _ 1 l1⟩,⟨nl _ _ 4 l2,nl _ _ 3 l2,nl _ _ 0 l2,nl _ _ 1 l2⟩,ne 2 3 _ (by decide),ne 2 0 _ (by decide),ne 2 1 _ (by decide)⟩
 refine⟨s1.heap.objs.size+4,[s1.heap.objs.size+4,s1.heap.objs.size+2,s1.heap.objs.size+3,s1.heap.objs.size,s1.heap.objs.size+1],_,_,H1,rfl,I2,oq k1 k2 a b _ _ _ _ _ D,⟨z1,z2,⟨_,_,z3⟩,z4,z5⟩,fun c hc=>?_,q⟩;have hc':s1.heap.objs.size<=c:=by
  simp only[EG,EW,FI] at hc;rcases hc with rfl|rfl|rfl|rfl|rfl
  ·exact GW _ _
  ·exact GW _ _
  ·exact GW _ _
  ·exact EH _
  ·exact GW _ _
 exact I1.oX hc' (I1.aM.fresh hc')
end
noncomputable def ph(ts us:List T):List T:=List.zipWith (fun t u=>.tup [t,u]) ts us
noncomputable def p8:T->Option (List T)
 |.lst ts=>some ts
 |.tup ts=>some ts
 |.eu ts=>some ts
 |.dW ts=>some ts
 |_=>none
noncomputable def kdOf:T->Bool
 |.lst _=>true
 |.eu _=>true
 |_=>false
theorem Vw.sq{v:V}{t:T}(h:Vw K H B v t)(e:p8 t=some ts):∃ a vs,v=.ref a/\nr K (kdOf t) H a vs/\ak K H B vs ts:=by
 cases h with
 |ay=>cases e
 |bl=>cases e
 |int=>cases e
 |str=>cases e
 |jQ=>cases e
 |kf=>cases e
 |exc=>cases e
 |wm=>cases e
 |il=>cases e
 |adr=>cases e
 |ins=>cases e
 |tup h r=>cases e;exact⟨_,_,rfl,b6.of h,r⟩
 |dW h r=>cases e;exact⟨_,_,rfl,.inr h,r⟩
 |lst h r=>cases e;exact⟨_,_,rfl,a_.of h,r⟩
 |eu h r=>cases e;exact⟨_,_,rfl,h,r⟩
theorem xl{k1 k2:Bool}{b:Addr}:ju K (xN K k1 k2 a b) (fun H B=>(∃ vs,nr K k1 H a vs/\ak K H B vs ts)/\∃ ws,nr K k2 H b ws/\ak K H B ws us) (ph ts us):=by
 refine⟨fun H B i t hb hq2 e=>?_,fun H B ⟨⟨vs,h1,r1⟩,ws,h2,r2⟩=>⟨vs,ws,h1,h2,by rw[r1.length,r2.length];simp[ph]⟩⟩
 obtain⟨⟨vs,h1,r1⟩,ws,h2,r2⟩:=hq2;unfold ph at e;rw[List.getElem?_zipWith] at e
 cases e1:ts[i]? with
 |none=>rw[e1] at e;cases e
 |some t1=>cases e2:us[i]? with
  |none=>rw[e1,e2] at e;cases e
  |some t2 =>
   rw[e1,e2] at e;have e':T.tup [t1,t2]=t:=Option.some.inj e;subst e';obtain⟨v1,g1,rv1⟩:=r1.get e1;obtain⟨v2,g2,rv2⟩:=r2.get e2;refine⟨⟨vs,ws,v1,v2,h1,h2,g1,g2⟩,fun x H2 y=>?_⟩;obtain⟨p,x',y',hx,hy,hp,rfl,rfl⟩:=y;have z1:=hx vs h1;have z2:=hy ws h2;rw[g1] at z1;rw[g2] at z2
   cases z1;cases z2
   have fs:Fr B H B (upd H p (.tup [v1,v2])):=Fr.same (bK.new hp);refine⟨bK.new hp,.tup (fun z=>?_) ae (.cons (rv1.fr fs) (.cons (rv2.fr fs) .nil))⟩;obtain⟨o,q⟩:=hb p z;rw[hp] at q;cases q
namespace Y
section
variable {X:Cx} {e1 e2:Expr} {es:List Expr} {us:UA} {pos p tp:Pos} {k:Nat}
noncomputable def iZ(us:UA):UI:=fun μ Rt=>us μ fun rs μ'=>match rs with
 |[.tr t1,.tr t2]=>(match p8 t1,p8 t2 with
  |some ts,some vs=>Rt (ph ts vs) none μ'
  |_,_=>False)
 |_=>False
theorem zip(K:Ih)(hK:X.K=K)(hg:Gl X "zip")(hm:X.mg "zip"=none)(ha:YA X [e1,e2] us)(h1:autoParam (cN e1=true) ℜ0)(h2:autoParam (cN e2=true) ℜ0):YI X (.Tuple es k tp) (.Call (.Name "zip" p) [e1,e2] [] pos) (iZ us):=by
 obtain⟨t,q,r⟩:=ha;subst hK;refine⟨_,⟨uT hg hm q.h h1 h2⟩,fun F ad B σ H μ R Rt hF l q k=>r F ad B σ H μ _ _ hF l q fun vs H' rs μ' l1 ps f k1 q1=>?_⟩
 split at q1
 ·rename_i t1 t2;obtain⟨_,_,rfl,h1,ps⟩:=Paired.aC ps;obtain⟨_,_,rfl,h2,ps⟩:=Paired.aC ps;obtain rfl:=Paired.cI ps;have r1:=cV h1;have r2:=cV h2
  split at q1
  ·rename_i ts us e1 e2;obtain⟨a,vs,rfl,s1,_⟩:=Vw.sq r1.vw e1;obtain⟨b,ws,rfl,s2,_⟩:=Vw.sq r2.vw e2;rw[hF] at s1 s2;refine⟨a,b,kdOf t1,kdOf t2,rfl,⟨vs,s1⟩,⟨ws,s2⟩,k _ H' μ' _ none (fun H B=>Rep F.K H B (.ref a) t1/\Rep F.K H B (.ref b) t2) l1 f k1 (xl.imp fun H B h=>?_) ⟨r1,r2⟩ (fun B1 H1 B2 H2 f h=>⟨h.1.fr f,h.2.fr f⟩) (fun j ls z=>by cases z) q1⟩
   obtain⟨g1,g2⟩:=h;obtain⟨a',vs',ea,sa,ra⟩:=Vw.sq g1.vw e1;obtain⟨b',ws',eb,sb,rb⟩:=Vw.sq g2.vw e2
   cases ea;cases eb
   rw[hF] at sa sb ra rb;exact⟨⟨vs',sa,ra⟩,ws',sb,rb⟩
  ·exact q1.elim
 ·exact q1.elim
end
section
variable {X:Cx} {es:List Expr} {pos:Pos} {x:Str}
noncomputable def mK:List V->Option (List T)
 |[]=>some []
 |v::vs=>match sy v,mK vs with
  |some t,some ts=>some (t::ts)
  |_,_=>none
theorem iO:∀{vs:List V} {ts:List T},mK vs=some ts->vs.map sy=ts.map some
 |[],ts,h=>by cases h;rfl
 |v::vs,ts,h=>by
  unfold mK at h
  split at h
  ·rename_i t us e1 e2;cases h;rw[Fy,Fy,e1,iO e2]
  ·cases h
theorem dw(h:jc es=some vs)(h2:mK vs=some ts):YA X es (uK ts):=consts h (iO h2)
end
end Y
noncomputable def A1(o:Option (Prop×R))(Q:R->Prop):Prop:=match o with
 |some (C,r)=>C/\Q r
 |none=>False
noncomputable def A2(o:Option (List T×Option (Nat×List T)))(Q:List T->Option (Nat×List T)->Prop):Prop:=match o with
 |some (ts,g)=>Q ts g
 |none=>False
noncomputable def nb:Option Sl->Prop
 |some (.pb _)=>False
 |_=>True
noncomputable def sl:Option T->Sl
 |none=>.un
 |some t=>.tr t
noncomputable def s_:R->Option Bool
 |.tr (.bl b)=>some b
 |.tr (.int i)=>some (i != 0)
 |_=>none
noncomputable def Eo(a b:Option T):Option (Prop×R):=match a,b with
 |some (.int i),some (.int j)=>some (True,.tr (.int (i+j)))
 |some (.str i),some (.str j)=>some (i.length+j.length<=sizeLine,.tr (.str (i++j)))
 |some (.lst xs),some (.lst ys)=>some (xs.length+ys.length<=sizeLine,.fr (.lst (xs++ys)))
 |some (.tup xs),some (.tup ys)=>some (xs.length+ys.length<=sizeLine,.tr (.tup (xs++ys)))
 |_,_=>none
noncomputable def oT(o:Option T):Option (Prop×R):=match o with
 |some t=>some (True,.tr t)
 |none=>none
noncomputable def E9(a b:Option T):Option (Prop×R):=match a,b with
 |some (.lst xs),some (.int i)=>oT (bN xs i)
 |some (.tup xs),some (.int i)=>oT (bN xs i)
 |some (.dW xs),some (.int i)=>oT (bN xs i)
 |some (.str z),some (.int i)=>(match bN z.cps.toList i with|some c=>some (z.length<=sizeLine,.tr (.str ⟨#[c]⟩))|none=>none)
 |_,_=>none
noncomputable def m3(a:Option T):Option (Prop×R):=match a with
 |some (.lst xs)=>some (True,.tr (.tup xs))
 |some (.tup xs)=>some (True,.tr (.tup xs))
 |_=>none
noncomputable def rE(a:Option T):Option (List T):=match a with
 |some (.tup ts)=>some ts
 |some (.lst ts)=>some ts
 |_=>none
noncomputable def zr(r:R)(μ:Mu):Option (List T×Option (Nat×List T)):=match r with
 |.br j=>(match cont μ (.br j) with|some (.lst ts)=>some (ts,some (j,ts))|_=>none)
 |.tr (.lst ts)=>some (ts,none)
 |.fr (.lst ts)=>some (ts,none)
 |.tr (.tup ts)=>some (ts,none)
 |.tr (.eu ts)=>some (ts,none)
 |.tr (.dW ts)=>some (ts,none)
 |_=>none
namespace A
open Y
theorem uC(t:T)(μ:Mu)(Q:R->Mu->Prop):Y.uC t μ Q=Q (.tr t) μ:=rfl
theorem kh(ue:UE)(μ:Mu)(Q:Bool->Mu->Prop):Y.kh ue μ Q=ue μ fun r μ'=>match r with|.tr (.bl b)=>Q b μ'|_=>False:=rfl
theorem uk(ut:UT)(μ:Mu)(Q:Bool->Mu->Prop):Y.uk ut μ Q=ut μ fun b μ'=>Q (!b) μ':=rfl
theorem rH(u w:UT)(μ:Mu)(Q:Bool->Mu->Prop):Y.rH u w μ Q=u μ fun b μ'=>if b=true then w μ' Q else Q false μ':=rfl
theorem Ba(u w:UT)(μ:Mu)(Q:Bool->Mu->Prop):Y.Ba u w μ Q=u μ fun b μ'=>if b=true then Q true μ' else w μ' Q:=rfl
theorem kU(ue:UE)(μ:Mu)(Q:Bool->Mu->Prop):Y.kU ue μ Q=ue μ fun r μ'=>match s_ r with|some b=>Q b μ'|none=>False:=by
 unfold Y.kU s_;congr 1
 funext r μ'
 cases r with
 |tr t=>cases t<;>rfl
 |br i=>rfl
 |fr c=>rfl
theorem m_(ue:UE)(μ:Mu)(Q:R->Mu->Prop):Y.m_ ue μ Q=ue μ fun r μ'=>match r with|.tr (.bl b)=>Q (.tr (.bl (!b))) μ'|_=>False:=rfl
theorem ny(ua ub:UE)(μ:Mu)(Q:R->Mu->Prop):Y.ny ua ub μ Q=ua μ fun r μ'=>match r with|.tr (.bl true)=>ub μ' Q|.tr (.bl false)=>Q (.tr (.bl false)) μ'|_=>False:=rfl
theorem C4(uc:UT)(ua ub:UE)(μ:Mu)(Q:R->Mu->Prop):Y.C4 uc ua ub μ Q=uc μ fun b μ'=>if b=true then ua μ' Q else ub μ' Q:=rfl
theorem tN(ue:UE)(μ:Mu)(Q:R->Mu->Prop):Y.tN ue μ Q=ue μ fun r μ'=>match r with|.tr (.int i)=>Q (.tr (.int (-i))) μ'|_=>False:=rfl
theorem uu(μ:Mu)(Q:List R->Mu->Prop):Y.uu μ Q=Q [] μ:=rfl
theorem uK(ts:List T)(μ:Mu)(Q:List R->Mu->Prop):Y.uK ts μ Q=Q (ts.map R.tr) μ:=rfl
theorem vW(us:UA)(μ:Mu)(Q:R->Mu->Prop):Y.vW us μ Q=us μ fun rs μ'=>match trees rs with|some ts=>ts.length<=sizeLine/\Q (.tr (.tup ts)) μ'|none=>False:=rfl
theorem uR(us:UA)(μ:Mu)(Q:R->Mu->Prop):Y.uR us μ Q=us μ fun rs μ'=>match trees rs with|some ts=>ts.length<=sizeLine/\Q (.fr (.lst ts)) μ'|none=>False:=rfl
theorem zK(u:UC)(us:UA)(μ:Mu)(Q:R->Mu->Prop):Y.zK u us μ Q=us μ fun rs μ'=>u rs μ' Q:=rfl
theorem gz(μ:Mu)(Q:Option Int->Mu->Prop):Y.gz μ Q=Q none μ:=rfl
theorem nK(ue:UE)(μ:Mu)(Q:Option Int->Mu->Prop):Y.nK ue μ Q=ue μ fun r μ'=>match r with|.tr (.int i)=>Q (some i) μ'|_=>False:=rfl
theorem oj(f:T->T->Mu->(R->Mu->Prop)->Prop)(r1 r2:R)(μ:Mu)(Q:R->Mu->Prop):Y.oj f r1 r2 μ Q=(match cont μ r1,cont μ r2 with|some t,some u=>f t u μ Q|_,_=>False):=rfl
theorem BR(C:Int->Int->Prop)(g:Int->Int->Int)(i j:Int)(μ:Mu)(Q:R->Mu->Prop):rd C g (.int i) (.int j) μ Q=(C i j/\Q (.tr (.int (g i j))) μ):=rfl
theorem DC(g:Int->Int->Bool)(i j:Int)(μ:Mu)(Q:R->Mu->Prop):DX g (.int i) (.int j) μ Q=Q (.tr (.bl (g i j))) μ:=rfl
theorem kl(neg:Bool)(t:T)(μ:Mu)(Q:R->Mu->Prop):Y.kl neg t .ay μ Q=Q (.tr (.bl (match t with|.ay=>!neg|_=>neg))) μ:=rfl
theorem AQ(neg:Bool)(i j:Int)(μ:Mu)(Q:R->Mu->Prop):Y.AO neg (.int i) (.int j) μ Q=Q (.tr (.bl (if neg then !decide (i=j) else decide (i=j)))) μ:=rfl
theorem Dd(neg:Bool)(i j:Str)(μ:Mu)(Q:R->Mu->Prop):Y.AO neg (.str i) (.str j) μ Q=Q (.tr (.bl (if neg then !decide (i=j) else decide (i=j)))) μ:=rfl
theorem DL(neg:Bool)(xs ys:List T)(μ:Mu)(Q:R->Mu->Prop):Y.AO neg (.lst xs) (.lst ys) μ Q=(neg=false/\xs.all aD=true/\ys.all aD=true/\Q (.tr (.bl (lX xs ys))) μ):=rfl
theorem yZ(f:T->Mu->(R->Mu->Prop)->Prop)(r:R)(μ:Mu)(Q:R->Mu->Prop):Y.yZ f [r] μ Q=(match cont μ r with|some t=>f t μ Q|none=>False):=rfl
theorem fN(r:R)(μ:Mu)(Q:R->Mu->Prop):Y.fN [r] μ Q=A1 (m3 (cont μ r)) fun r=>Q r μ:=by
 show (match cont μ r with|some (.lst xs)=>Q (.tr (.tup xs)) μ|some (.tup xs)=>Q (.tr (.tup xs)) μ|_=>False)=_
 unfold m3
 cases cont μ r with
 |none=>rfl
 |some t=>cases t<;>first|rfl|exact propext ⟨fun h=>⟨trivial,h⟩,fun h=>h.2⟩
theorem zL(g:Int->Int->Int)(i j:Int)(μ:Mu)(Q:R->Mu->Prop):Y.zL g [.tr (.int i),.tr (.int j)] μ Q=Q (.tr (.int (g i j))) μ:=rfl
theorem lu(ue:UE)(c:String)(μ:Mu)(Q:R->Mu->Prop):Y.lu ue c μ Q=ue μ fun r μ'=>match cont μ' r with|some t=>(match vN t c with|some b=>Q (.tr (.bl b)) μ'|none=>False)|none=>False:=rfl
theorem jE(ue:UE)(g:UG)(E:Ed)(μ:Mu):Y.jE ue g E μ=ue μ fun r μ'=>g r μ' E.nx:=rfl
theorem Es(i:Nat)(t:T)(μ:Mu)(Q:Mu->Prop):Y.gN i (.tr t) μ Q=(kv μ i/\Q (μ.set i (.tr t))):=rfl
theorem Ey(i:Nat)(t:T)(μ:Mu)(Q:Mu->Prop):Y.gN i (.fr t) μ Q=(kv μ i/\Q (μ.set i (.bx t))):=rfl
theorem kv(μ:Mu)(i:Nat):Y.kv μ i=nb μ[i]?:=rfl
theorem AM(t:T):nb (some (.tr t))=True:=rfl
theorem BX:nb (some .un)=True:=rfl
theorem A8(o:Option T):nb (some (sl o))=True:=by cases o<;>rfl
theorem gT(n:Nat)(gs:nj)(r:R)(μ:Mu)(Q:Mu->Prop):Y.gT n gs r μ Q=(match rE (cont μ r.d) with|some ts=>ts.length=n/\gs ts μ Q|none=>False):=by
 unfold Y.gT rE
 cases cont μ r.d with
 |none=>rfl
 |some t=>cases t<;>rfl
theorem C0(g:UG)(gs:nj)(t:T)(ts:List T)(μ:Mu)(Q:Mu->Prop):Y.C0 g gs (t::ts) μ Q=g (.tr t) μ fun μ'=>gs ts μ' Q:=rfl
theorem CJ(μ:Mu)(Q:Mu->Prop):Y.CJ [] μ Q=Q μ:=rfl
theorem gS(uo ui:UE)(t:T)(μ:Mu)(Q:Mu->Prop):Y.gS uo ui (.tr t) μ Q=uo μ fun ro μ1=>ui μ1 fun ri μ2=>(match ro,ri with
  |.br j,.tr (.int k)=>(match (μ2[j]?).bind Sl.box with
   |some (.lst ts)=>(match i3 ts.length k with
    |some n=>Q (cC μ2 j (.lst (ts.set n t)))
    |none=>False)
   |_=>False)
  |_,_=>False):=rfl
theorem tQ(ue:UE)(E:Ed)(μ:Mu):Y.tQ ue E μ=ue μ E.rt:=rfl
theorem nY(ue:UE)(E:Ed)(μ:Mu):Y.nY ue E μ=ue μ fun _ μ'=>E.nx μ':=rfl
theorem ud(c:UT)(u w:US)(E:Ed)(μ:Mu):Y.ud c u w E μ=c μ fun b μ'=>if b=true then u E μ' else w E μ':=rfl
theorem we(ue:UE)(μ:Mu)(Rt:List T->Option (Nat×List T)->Mu->Prop):Y.we ue μ Rt=ue μ fun r μ'=>A2 (zr r μ') fun ts g=>Rt ts g μ':=by
 unfold Y.we zr;congr 1
 funext r μ'
 cases r with
 |tr t=>cases t<;>rfl
 |br j =>
  show (match cont μ' (.br j) with|some (.lst ts)=>Rt ts (some (j,ts)) μ'|_=>False)=A2 (match cont μ' (.br j) with|some (.lst ts)=>some (ts,some (j,ts))|_=>none) fun ts g=>Rt ts g μ'
  cases cont μ' (.br j) with
  |none=>rfl
  |some t=>cases t<;>rfl
 |fr c=>cases c<;>rfl
theorem Cz(us:UA)(μ:Mu)(Rt:List T->Option (Nat×List T)->Mu->Prop):Y.Cz us μ Rt=us μ fun rs μ'=>match rs with
 |[.tr (.int j)]=>-(2^62)<=j/\j<2^62/\Rt ((List.range j.toNat).map fun k=>T.int (0+(k:Nat))) none μ'
 |_=>False:=rfl
theorem iZ(us:UA)(μ:Mu)(Rt:List T->Option (Nat×List T)->Mu->Prop):Y.iZ us μ Rt=us μ fun rs μ'=>match rs with
 |[.tr t1,.tr t2]=>(match p8 t1,p8 t2 with|some ts,some vs=>Rt (ph ts vs) none μ'|_,_=>False)
 |_=>False:=rfl
theorem uy(ui:UI)(g:UG)(body:US)(E:Ed)(μ:Mu):Y.uy ui g body E μ=ui μ fun items gd μ'=>match gd with
 |none=>eC g body E items μ'
 |some (j,_)=>(match μ'[j]? with
  |some (.bx c)=>eC g body E items (μ'.set j (.tr c))
  |_=>False):=rfl
theorem hG(own:T->Mu->Option Mu)(dr:Mu->Mu)(ui:UI)(ut:UT)(ue:UE)(μ:Mu)(Q:R->Mu->Prop):Y.hG own dr ui ut ue μ Q=ui μ fun items gd μ'=>kQ gd own dr ut ue Q items [] μ':=rfl
theorem CG(um:UM)(uo:UE)(us:UA)(μ:Mu)(Q:R->Mu->Prop):Y.CG um uo us μ Q=uo μ fun ro μ1=>match ro with|.br j=>Y.Cs ((μ1[j]?).bind Sl.box) (us μ1 fun rs μ2=>um j rs μ2 Q)|_=>False:=rfl
theorem fu(j:Nat)(t:T)(μ:Mu)(Q:R->Mu->Prop):Y.fu j [.tr t] μ Q=(match (μ[j]?).bind Sl.box with|some (.lst ts)=>ts.length<sizeLine/\Q (.tr .ay) (cC μ j (.lst (ts++[t])))|_=>False):=rfl
theorem AY(md:List Bool)(tsp:fT)(us:UA)(μ:Mu)(Q:R->Mu->Prop):Y.AY md tsp us μ Q=us μ fun rs μ1=>match sU μ1 md rs with
 |some args=>(eR md rs).Nodup/\(∀ j∈eR md rs,j∉gm md rs)/\tsp args fun r outs=>(gm md rs=[]\/(fm r=true/\outs.all gg=true))/\Q r (putAll (eR md rs) outs μ1)
 |none=>False:=rfl
theorem E5(ts:List T):p8 (.tup ts)=some ts:=rfl
theorem DO(xs:List T):m3 (some (.lst xs))=some (True,.tr (.tup xs)):=rfl
theorem D3(xs:List T):rE (some (.lst xs))=some xs:=rfl
theorem Au(ts:List T)(μ:Mu):zr (.tr (.lst ts)) μ=some (ts,none):=rfl
theorem BD(ts:List T)(μ:Mu):zr (.fr (.lst ts)) μ=some (ts,none):=rfl
theorem AR(ts:List T)(μ:Mu):zr (.tr (.tup ts)) μ=some (ts,none):=rfl
theorem DH(μ:Mu)(t:T):cont μ (.tr t)=some t:=rfl
theorem DB(μ:Mu)(i:Nat):cont μ (.br i)=(μ[i]?).bind Sl.box:=rfl
theorem D0(t:T):R.d (.tr t)=.tr t:=rfl
theorem D8(b:Bool):s_ (.tr (.bl b))=some b:=rfl
end A
theorem mF{g:UG}{body:US}{E:Ed}(I:List T->Mu->Prop){items:List T}(h0:I items μ)(hn:∀ μ,I [] μ->E.nx μ)
  (hs:∀ t ts μ (N:Mu->Prop),I (t::ts) μ->(∀ μ',I ts μ'->N μ')->g (.tr t) μ fun μ1=>body {E with nx:=N,ct:=N,bk:=E.nx} μ1):Y.eC g body E items μ:=by
 induction items generalizing μ with
 |nil=>exact hn μ h0
 |cons t ts ih=>exact hs t ts μ _ h0 fun μ' h=>ih h
theorem gw{gd:Option (Nat×List T)}{own:T->Mu->Option Mu}{Q:R->Mu->Prop}(I:List T->List T->Mu->Prop){items acc:List T}(h0:I items acc μ)(hn:∀ acc μ,I [] acc μ->Y.Az gd μ/\Q (.fr (.lst acc)) μ)
  (hs:∀ t r acc μ (N:List T->Mu->Prop),I (t::r) acc μ->(∀ acc' μ',I r acc' μ'->N acc' μ')->Y.Az gd μ/\acc.length<sizeLine/\(match own t μ with
   |none=>False
   |some μ1=>ut μ1 fun b μ2=>if b=true then ue μ2 fun rr μ3=>(match rr.d with
     |.tr t'=>N (acc++[t']) (dr μ3)
     |_=>False) else N acc (dr μ2))):Y.kQ gd own dr ut ue Q items acc μ:=by
 induction items generalizing μ acc with
 |nil=>exact hn acc μ h0
 |cons t ts ih=>exact hs t ts acc μ (fun a m=>Y.kQ gd own dr ut ue Q ts a m) h0 fun a' μ' h=>ih h
noncomputable def la(K:Ih):Sp:=fun vs H Q _=>∃(a:Addr) (ns:List Int),vs=[.ref a]/\a_ K H a (ns.map V.int)/\ns.length<=63/\∀ H',Q (.bl true) H'
theorem jf:∀ ns:List Int,ak K H B (ns.map V.int) (ns.map T.int)
 |[]=>.nil
 |n::ns=>.cons (.int n) (jf ns)
namespace Y
theorem xD(hu:X.A.units<cLine):bZ X (compareOp .NotEq) (tT X.K true):=by
 intro pins s σ H x y v u Q I rx ry h;obtain⟨a,b,xs,ys,rfl,rfl,hq,fx,fy,q⟩:=h
 cases rx;cases ry
 have item:∀(ah its2:List Value),Vals xs ah->Vals ys its2->∀ j (h1:j<ah.toArray.size) (h2:j<its2.toArray.size),SeqAt.EqAt X.A.in1 s ah.toArray[j] its2.toArray[j] (match xs[j]?,ys[j]? with|some x,some y=>pE x y|_,_=>true):=fun ah its2 r1 r2 j h1 h2=>by
  have l1:=r1.length;have l2:=r2.length;rw[EE] at h1 h2;obtain⟨u1,e1,g1⟩:=r1.get (i:=j) (x:=xs[j]) (EK (by lia))
  obtain⟨u2,e2,g2⟩:=r2.get (i:=j) (x:=ys[j]) (EK (by lia))
  rw[EK (show j<xs.length by lia),EK (show j<ys.length by lia)]
  have z1:ah.toArray[j]=u1:=by
   rw[EK h1] at e1;simpa using e1
  have z2:its2.toArray[j]=u2:=by
   rw[EK h2] at e2;simpa using e2
  rw[z1,z2];exact lT g1 g2 (Gb.mp fx _ (FD _)) (Gb.mp fy _ (FD _))
 rcases hq with ⟨ha,hb⟩|⟨ha,hb⟩
 ·obtain⟨ah,r1,p1,_⟩:=I.list ha;obtain⟨its2,r2,p2,_⟩:=I.list hb;have l1:=r1.length;have l2:=r2.length;by_cases e:xs.length=ys.length
  ·refine SeqAt.RcNeAt.lists p1.isList p2.isList (by rw[EE,EE];lia) hu (item ah its2 r1 r2) X.prog X.w X.xe _ ⟨.bl _,H,I,rfl,q _ ?_⟩
   rw[EE,<- l1,<- e,Ie,GV,Bool.true_and]
   try rfl
  ·refine Ht p1.isList p2.isList (by rw[EE,EE,bne_iff_ne];lia) hu X.prog X.w X.xe _ ⟨.bl true,H,I,rfl,?_⟩
   exact q false (by rw[Fb.mpr e,HL])
 ·obtain⟨ah,r1,p1,_⟩:=I.tuple ha;obtain⟨its2,r2,p2,_⟩:=I.tuple hb;have l1:=r1.length;have l2:=r2.length;refine SeqAt.RcNeAt.tuples p1 p2 hu (item ah its2 r1 r2) X.prog X.w X.xe _ ⟨.bl _,H,I,rfl,q _ ?_⟩;rw[EE,EE,<- l1,<- l2,Bool.and_comm]
  try rfl
noncomputable def BH(K:Ih):R2:=fun x y H Q=>Ek x y H Q\/tT K true x y H Q
theorem sD(K:Ih)(hK:X.K=K)(hu:X.A.units<cLine):bZ X (compareOp .NotEq) (BH K):=by subst hK;exact Ay.or (xD hu)
noncomputable def Dg:T->T->Mu->(R->Mu->Prop)->Prop:=fun t u μ Q=>match t,u with
 |.int i,.int j=>Q (.tr (.bl (!decide (i=j)))) μ
 |.str i,.str j=>Q (.tr (.bl (!decide (i=j)))) μ
 |.bl i,.bl j=>Q (.tr (.bl (!decide (i=j)))) μ
 |.lst xs,.lst ys=>xs.all aD=true/\ys.all aD=true/\Q (.tr (.bl (!lX xs ys))) μ
 |.tup xs,.tup ys=>xs.all aD=true/\ys.all aD=true/\Q (.tr (.bl (!lX xs ys))) μ
 |_,_=>False
theorem qQ:ji K (BH K) (oj Dg):=dR fun F ad B σ H μ Q Qt x y t u hK l v1 v2 q k=>by
 subst hK;unfold Dg at q
 split at q
 ·obtain rfl:=Vw.bf v1;obtain rfl:=Vw.bf v2;refine .inl ⟨rfl,?_⟩;rw[dV (f:=V.int) (fun a b h=>by injection h)]
  exact k _ H _ (Vr.flat l (.bl _)) Fr.refl q
 ·obtain rfl:=Vw.e9 v1;obtain rfl:=Vw.e9 v2;refine .inl ⟨rfl,?_⟩;rw[dV (f:=V.str) (fun a b h=>by injection h)]
  exact k _ H _ (Vr.flat l (.bl _)) Fr.refl q
 ·obtain rfl:=Vw.pQ v1;obtain rfl:=Vw.pQ v2;refine .inl ⟨rfl,?_⟩;rw[dV (f:=V.bl) (fun a b h=>by injection h)]
  exact k _ H _ (Vr.flat l (.bl _)) Fr.refl q
 ·obtain⟨_,_,rfl,ha,ra⟩:=Vw.cW v1;obtain⟨_,_,rfl,hb,rb⟩:=Vw.cW v2;exact .inr ⟨_,_,_,_,rfl,rfl,.inl ⟨a_.of ha,a_.of hb⟩,bA ra q.1,bA rb q.2.1,fun c hc=>by
   rw[<- jM ra rb q.1 q.2.1] at hc;subst hc;exact k _ H _ (Vr.flat l (.bl _)) Fr.refl q.2.2⟩
 ·obtain⟨_,_,rfl,ha,ra⟩:=Vw.tupI v1;obtain⟨_,_,rfl,hb,rb⟩:=Vw.tupI v2;exact .inr ⟨_,_,_,_,rfl,rfl,.inr ⟨b6.of ha,b6.of hb⟩,bA ra q.1,bA rb q.2.1,fun c hc=>by
   rw[<- jM ra rb q.1 q.2.1] at hc;subst hc;exact k _ H _ (Vr.flat l (.bl _)) Fr.refl q.2.2⟩
 ·exact q.elim
theorem cK:fillsNumberSlot (.type "tuple") "mul"=pure false:=
 PySem.fillsNumberSlot_seq (id:="tuple.__mul__") (r:=some (.builtin "tuple.__rmul__")) PySem.F.slot_tuple_mul.lookup (by decide +kernel) PySem.F.slot_tuple_rmul.lookup (by decide +kernel)
theorem eE:seqRepeat? (.type "tuple")=pure (some (.builtin "tuple.__mul__")):=by
 unfold seqRepeat?;rw[PySem.seqSlot_of (T:="tuple") (name:="__mul__") (id:="tuple.__mul__") PySem.F.slot_tuple_mul.lookup (by decide +kernel),PySem.seqSlot_of (T:="tuple") (name:="__rmul__") (id:="tuple.__rmul__") PySem.F.slot_tuple_rmul.lookup (by decide +kernel)];rfl
theorem hV(a:Int)(t:Tok)(l:Addr)(ob:Obj)(items:Array Value)(n:Nat)(hc:ob.cls=.type "tuple")(hd:ob.data=.seq items n):
  Meets (Builtin.«int.__rmul__» ⟨[.int a t,.ref l],[]⟩) (fun _ R s=>s.heap.get? l=some ob/\R (.ok (.ret Value.notImplemented)) s):=
 .of_wp fun prog w A R s h=>by
  obtain⟨hp,g,d,tk,os⟩:=s;obtain⟨hl,h⟩:=h;obtain⟨c,dd,da,sl⟩:=ob;simp only at hc hd;subst hc hd
  wp_walk
  exact⟨_,rfl,h⟩
theorem tR(l:Addr)(items:Array Value)(ob:Obj)(n:Nat)(k:Int)(t:Tok)(hc:ob.cls=.type "tuple")(hd:ob.data=.seq items n)(hne:items.isEmpty=false)(h1:1<k)(h2:k<=1000)(hsz:items.size<=1000):
  Meets (Builtin.«tuple.__mul__» ⟨[.ref l,.int k t],[]⟩) (fun _ R s=>s.heap.get? l=some ob/\R (.ok (.ret (.ref s.heap.objs.size))) {s with heap:=s.heap.push {cls:=.type "tuple",data:=.seq ((List.replicate k.toNat items).foldl (·++·) #[])}}):=
 .of_wp fun prog w A R s h=>by
  obtain⟨hp,g,d,tk,os⟩:=s;obtain⟨hl,h⟩:=h;obtain⟨c,dd,da,sl⟩:=ob;simp only at hc hd;subst hc hd;have e1:(decide (k < -(2^63)) || decide (k >= 2^63))=false:=by rw[EX (by lia),EX (by lia)];rfl
  have e2:(items.isEmpty || k == 1)=false:=by rw[hne,Fb.mpr (by lia)];rfl
  have e3:(decide (k<=0) || items.isEmpty)=false:=by rw[hne,EX (by lia)];rfl
  wp_walk using GO hl;rw[EB (by rw[e1];exact EF)]
  have ht:IsTup (Shared.heap ⟨hp,g,d,tk,os⟩) l items:=⟨_,hl,rfl,n,rfl⟩;show wpAny _ _ (Builtin.Tuple.tupleItemsOf (.ref l) >>= _) _ _ _;refine EA (tupleItemsOf_ ht ?_);rw[EB (by rw[e2];exact EF)]
  show wpAny _ _ (if (decide (k<=0) || items.isEmpty)=true then _ else _) _ _ _
  rw[EB (by rw[e3];exact EF)]
  have hm:(items.size:Int)*k<=1000*1000:=Int.mul_le_mul (by lia) h2 (by lia) (by lia)
  show wpAny _ _ (if (items.size:Int)*k >(2^63-1) / 8 then _ else _) _ _ _
  rw[EB (by lia)]
  show wpAny _ _ (if Builtin.Tuple.tupleTooMany ((items.size:Int)*k)=true then _ else _) _ _ _
  have e4:Builtin.Tuple.tupleTooMany ((items.size:Int)*k)=false:=EX (by
   have:((sizeLine:Nat):Int) >= 1000000:=by decide
   lia)
  rw[EB (by rw[e4];exact EF)]
  have hl2:((List.replicate k.toNat items).foldl (·++·) #[]).size<=sizeLine:=by
   have fs:∀(m:Nat) (acc:Array Value),((List.replicate m items).foldl (·++·) acc).size=acc.size+m*items.size:=fun m=>by
    induction m with
    |zero=>intro acc;simp
    |succ m ih=>intro acc;rw[FH,List.foldl_cons,ih,Array.size_append,Nat.succ_mul];lia
   rw[fs];have h3:k.toNat*items.size<=1000*1000:=Nat.mul_le_mul (by lia) hsz
   have h4:(1000000:Nat)<=sizeLine:=by decide
   simp;lia
  exact EA (m:=Builtin.Tuple.tupleExact _) (Gi (EL ⟨_,rfl,h⟩) hl2)
theorem o_(ah:List Value):∀(m:Nat) (acc:List Value),(List.replicate m ah.toArray).foldl (·++·) acc.toArray=(acc++(List.replicate m ah).flatten).toArray:=fun m acc=>foldl_rep ah m acc
noncomputable def wY(K:Ih):R2:=fun x y H Q=>∃ a k xs,x=.ref a/\y=.int k/\b6 K H a xs/\xs≠[]/\xs.length<=1000/\1<k/\k<=1000/\∀ p,H p=none->Q (.ref p) (upd H p (.tup (List.replicate k.toNat xs).flatten))
theorem vn:bZ X (binaryOp .Mult) (wY X.K):=by
 intro pins s σ H x y v u Q I rx ry h;obtain⟨a,k,xs,rfl,rfl,hx,hne,hsz,h1,h2,q⟩:=h;cases rx;obtain⟨t,rfl⟩:=ry;obtain⟨ah,r,p,hz⟩:=I.tuple hx;obtain⟨ob,ho,hc,n,hd⟩:=id p;have hlen:=r.length;have hemp:ah.toArray.isEmpty=false:=by
  cases ah with
  |nil=>cases r;exact absurd rfl hne
  |cons a b=>rfl
 refine Gj (T:="tuple") (U:="int") (by decide) ⟨_,ho,hc⟩ (fun s'=>Gu s' k t) cK PySem.F.fills_int_mul PySem.F.slot_int_rmul eE PySem.F.slot_int_index.lookup
  (FW PySem.F.slot_int_rmul (Gu s k t) PySem.F.entry_int_rmul (PySem.F.args_int_rmul_2 _ _) (hV k t a ob ah.toArray n hc hd)
   ⟨ho,rfl,⟨_,ho,hc⟩,FW PySem.F.slot_tuple_mul ⟨_,ho,hc⟩ PySem.F.entry_tuple_mul (PySem.F.args_tuple_mul_2 _ _) (tR a ah.toArray ob n k t hc hd hemp h1 h2 (by rw[EE];lia)) ⟨ho,?_⟩⟩)
 have e0:=o_ ah k.toNat [];rw[List.nil_append] at e0;have e0':(List.replicate k.toNat ah.toArray).foldl (·++·) #[]=(List.replicate k.toNat ah).flatten.toArray:=e0;rw[e0'];refine⟨.ref s.heap.objs.size,_,I.laid (t':=s.toks) (o:=.tup (List.replicate k.toNat xs).flatten) (fun b ob q=>EC _ q) (EH _) ?_,rfl,q _ (I.aM.fresh (EH _))⟩;refine⟨?_,_,r.rep k.toNat,cu.new _ _⟩;rw[len_rep];have h3:k.toNat*xs.length<=1000*1000:=Nat.mul_le_mul (by lia) hsz
 exact ES h3 (by decide)
noncomputable def rW(K:Ih):R2:=fun x y H Q=>xT x y H Q\/wY K x y H Q
theorem d9(K:Ih)(hK:X.K=K):bZ X (binaryOp .Mult) (rW K):=by subst hK;exact uQ.or vn
noncomputable def iK:U2:=fun r1 r2 μ Q=>match cont μ r1,cont μ r2 with
 |some (.int i),some (.int j)=>lg i j/\Q (.tr (.int (i*j))) μ
 |some (.lst xs),some (.int k)=>-(2^63)<=k/\k<2^63/\xs.length*k.toNat<=sizeLine/\Q (.fr (.lst (List.replicate k.toNat xs).flatten)) μ
 |some (.tup xs),some (.int k)=>(xs≠[]/\xs.length<=1000/\1<k/\k<=1000)/\Q (.tr (.tup (List.replicate k.toNat xs).flatten)) μ
 |_,_=>False
theorem cy:ji K (rW K) iK:=by
 intro F ad B σ H μ Q Qt x y r1 r2 hK l h1 h2 q k;unfold iK at q
 split at q
 ·rename_i i j e1 e2;exact .inl (qE F ad B σ H μ Q Qt x y r1 r2 hK l h1 h2 (by unfold nR;rw[e1,e2];exact q) k)
 ·rename_i xs j e1 e2;exact .inl (qE F ad B σ H μ Q Qt x y r1 r2 hK l h1 h2 (by unfold nR;rw[e1,e2];exact q) k)
 ·rename_i xs j e1 e2;have a:=h1.vw l e1;have b:=h2.vw l e2;subst hK;obtain rfl:=Vw.bf b;obtain⟨_,_,rfl,ha,ra⟩:=Vw.tupI a;refine .inr ⟨_,_,_,rfl,rfl,b6.of ha,?_,by rw[ra.length];exact q.1.2.1,q.1.2.2.1,q.1.2.2.2,fun p hp=>k _ _ _ μ (Vr.pK l (ra.rep _) hp) (Fr.same (bK.new hp)) (Kp.refl μ) q.2⟩
  rintro rfl;cases ra;exact q.1.1 rfl
 ·exact q.elim
end Y
namespace A
theorem xE(i j:Int)(μ:Mu)(Q:R->Mu->Prop):Y.iK (.tr (.int i)) (.tr (.int j)) μ Q=(lg i j/\Q (.tr (.int (i*j))) μ):=rfl
theorem BA(i j:Int)(μ:Mu)(Q:R->Mu->Prop):Y.Dg (.int i) (.int j) μ Q=Q (.tr (.bl (!decide (i=j)))) μ:=rfl
end A
open PySem PySem.Spec PyProof PyProof.Rows
namespace Y
theorem ee:∀{ns:List Int} {vs:List V},ak K H B vs (ns.map T.int)->vs=ns.map V.int
 |[],_,.nil=>rfl
 |n::ns,_,.cons h r=>by cases h;rw[ee r];rfl
noncomputable def B9(K:Ih):List V->Hp->VK->Prop:=fun xs H Q=>∃(p:Addr) (ns:List Int),xs=[.ref p]/\a_ K H p (ns.map V.int)/\Q (.int ns.sum) H
theorem oJ(K:Ih)(hK:X.K=K)(hc:X.calm=true):aP X (.builtin "sum") (B9 K):=by subst hK;exact p7 hc
noncomputable def xg:T->Mu->(R->Mu->Prop)->Prop:=fun t μ Q=>match t with
 |.lst xs=>∃ ns:List Int,xs=ns.map T.int/\Q (.tr (.int ns.sum)) μ
 |_=>False
theorem zj:RC K (B9 K) (yZ xg):=qz fun F ad B σ H μ Q Qt x t hK l v1 q k=>by
 subst hK;unfold xg at q
 split at q
 ·obtain⟨ns,rfl,q⟩:=q;obtain⟨_,_,rfl,ha,ra⟩:=Vw.cW v1;exact⟨_,ns,rfl,by rw[<- ee ra];exact a_.of ha,k _ _ _ (Vr.flat l (.int _)) Fr.refl q⟩
 ·exact q.elim
noncomputable def AD(i j:Int):Prop:=0<j/\j<4611686018427387904
theorem kB:bZ X (binaryOp .FloorDiv) (rI AD fun i j=>.int (i / j)):=Be fun i j _ _ _ _ _ hc q=>by
 have h1:(0:Int)<j:=hc.1;have h2:j<4611686018427387904:=hc.2;exact floordiv_int (by lia) (by rw[Int.fdiv_eq_ediv_of_nonneg i (by lia)];exact q) (.inl (PyProof.noPylong_of_log2 (Nat.lt_trans ((Nat.log2_lt (k:=62) (by lia)).mpr (by lia)) (by decide))))
end Y
namespace A
theorem AH(xs:List T)(μ:Mu)(Q:R->Mu->Prop):Y.xg (.lst xs) μ Q=(∃ ns:List Int,xs=ns.map T.int/\Q (.tr (.int ns.sum)) μ):=rfl
end A
namespace Y
theorem iW:∀ ns:List Str,ak K H B (ns.map V.str) (ns.map T.str)
 |[]=>.nil
 |n::ns=>.cons (.str _) (iW ns)
theorem qZ(l:List Nat):∀(n a:Nat),((List.range n).map (fun k=>a+k)).filterMap (l[·]?)=(l.drop a).take n
 |0,_=>by simp
 |n+1,a=>by
  rw[List.range_succ,Ff,List.filterMap_append,qZ l n a,Gz,FA]
  cases h:l[a+n]?<;>simp[h]
theorem kC(lo hi:Option Int)(n:Nat):Builtin.Str.strSliceIndices lo hi 1 n=(List.range (HT.aR n n hi-HT.aR n 0 lo)).map (fun k=>HT.aR n 0 lo+k):=by
 have ea:∀(v:Int),max 0 (min (if v<0 then v+(n:Int) else v) (n:Int))=(((if v<0 then (v+(n:Int)).toNat else min v.toNat n):Nat):Int):=by
  intro v;split<;>lia
 have e:Builtin.Str.strSliceIndices lo hi 1 n=sliceRange (HT.aR n 0 lo) (HT.aR n n hi) 1:=by
  cases lo with
  |none=>cases hi with
   |none=>rfl
   |some j=>show sliceRange 0 (max 0 (min (if j<0 then j+(n:Int) else j) (n:Int))) 1=_;rw[ea];rfl
  |some i=>cases hi with
   |none=>show sliceRange (max 0 (min (if i<0 then i+(n:Int) else i) (n:Int))) n 1=_;rw[ea];rfl
   |some j=>show sliceRange (max 0 (min (if i<0 then i+(n:Int) else i) (n:Int))) (max 0 (min (if j<0 then j+(n:Int) else j) (n:Int))) 1=_;rw[ea,ea];rfl
 rw[e];generalize HT.aR n 0 lo=a;generalize HT.aR n n hi=b;unfold sliceRange;simp only[show ((1:Int) > 0)=True from by simp,GQ,Int.one_mul]
 have c:(if (a:Int)<(b:Int) then ((b:Int)-a+1-1) / 1 else 0).toNat=b-a:=by split<;>lia
 rw[c];refine List.map_congr_left fun k _=>?_;lia
theorem mx(z:Str)(lo hi:Option Int):Txt.slice z lo hi=⟨((z.cps.toList.drop (HT.aR z.cps.toList.length 0 lo)).take (HT.aR z.cps.toList.length z.cps.toList.length hi-HT.aR z.cps.toList.length 0 lo)).toArray⟩:=by
 have hl:z.cps.toList.length=z.length:=Hj;rw[hl];have hp:(Builtin.Str.strSliceIndices lo hi 1 z.length).filterMap (z.cps[·]?)=(z.cps.toList.drop (HT.aR z.length 0 lo)).take (HT.aR z.length z.length hi-HT.aR z.length 0 lo):=by
  rw[kC];have:=qZ z.cps.toList (HT.aR z.length z.length hi-HT.aR z.length 0 lo) (HT.aR z.length 0 lo)
  simpa using this
 unfold Txt.slice;split
 ·rename_i h;rw[kC] at h;simp at h;have h2:=HT.mh z.length z.length (EH _) hi;have h3:=HT.mh z.length 0 (Fo _) lo;have a0:HT.aR z.length 0 lo=0:=by lia
  have b0:HT.aR z.length z.length hi=z.length:=by lia
  rw[a0,b0,GA,Hz,<- hl,Gq]
 ·rw[hp]
noncomputable def uS(z:Str)(lo hi:Option Int):Str:=⟨(bJ z.cps.toList lo hi).toArray⟩
theorem pC(z:Str)(lo hi:Option Int):Txt.slice z lo hi=uS z lo hi:=mx z lo hi
noncomputable def BI:V->Option Int->Option Int->Hp->VK->Prop:=fun x lo hi H Q=>∃ z,x=.str z/\z.length<=sizeLine/\Q (.str (uS z lo hi)) H
theorem zc:mT X BI:=by
 intro pins s σ H x v vl vu lo hi sl Q I rx hs pl pu h;obtain⟨z,rfl,hz,q⟩:=h;rw[<- pC] at q;obtain⟨t,rfl⟩:=rx;refine⟨"str",_,PySem.F.slot_str_getitem.lookup,typeIs_str _ _ _,?_⟩
 cases pl<;>cases pu
 ·exact Gs (l:=none) (u:=none) (st:=none) hs rfl (He ⟨ES (Txt.slice_le z _ _) hz,fun t' k=>⟨.str _,H,I.tok _,⟨_,rfl⟩,q⟩⟩)
 ·exact Gs (l:=none) (u:=some (_,_)) (st:=none) hs rfl (He ⟨ES (Txt.slice_le z _ _) hz,fun t' k=>⟨.str _,H,I.tok _,⟨_,rfl⟩,q⟩⟩)
 ·exact Gs (l:=some (_,_)) (u:=none) (st:=none) hs rfl (He ⟨ES (Txt.slice_le z _ _) hz,fun t' k=>⟨.str _,H,I.tok _,⟨_,rfl⟩,q⟩⟩)
 ·exact Gs (l:=some (_,_)) (u:=some (_,_)) (st:=none) hs rfl (He ⟨ES (Txt.slice_le z _ _) hz,fun t' k=>⟨.str _,H,I.tok _,⟨_,rfl⟩,q⟩⟩)
noncomputable def DD(K:Ih):V->Option Int->Option Int->Hp->VK->Prop:=fun x lo hi H Q=>AB K x lo hi H Q\/BI x lo hi H Q
theorem DP(K:Ih)(hK:X.K=K):mT X (DD K):=(DE K hK).or zc
noncomputable def zD(a:Option T)(lo hi:Option Int):Option (Prop×R):=match a with
 |some (.lst xs)=>some (True,.fr (.lst (bJ xs lo hi)))
 |some (.eu xs)=>some (True,.fr (.lst (bJ xs lo hi)))
 |some (.tup xs)=>some (True,.tr (.tup (bJ xs lo hi)))
 |some (.str z)=>some (z.length<=sizeLine,.tr (.str (uS z lo hi)))
 |_=>none
noncomputable def yC(ue:UE)(ul uh:UO):UE:=fun μ Q=>ue μ fun r μ1=>ul μ1 fun lo μ2=>uh μ2 fun hi μ3=>A1 (zD (cont μ3 r.d) lo hi) fun r=>Q r μ3
theorem xt{e:Expr}{p2:Pos}{ul uh:UO}(K:Ih)(hK:X.K=K)(he:YE X e ue)(hl:YO X lo ul)(hu:YO X hi uh):YE X (.Subscript e (.Slice lo hi none p2) pos) (yC ue ul uh):=by
 obtain⟨t,q,r⟩:=he;obtain⟨tl,ql,rl⟩:=hl;obtain⟨th,qh,rh⟩:=hu;refine⟨_,Z.slice (DP K hK) q ql qh,fun F ad B σ H μ Q Qt hF l q k=>r F ad B σ H μ _ _ hF l q fun v H1 r1 μ1 v1 f1 k1 q1=>rl F ad B σ H1 μ1 _ _ hF v1.rl q1 fun i H2 μ2 l2 f2 k2 q2=>rh F ad B σ H2 μ2 _ _ hF l2 q2 fun j H3 μ3 l3 f3 k3 q3=>?_⟩;have hF':F.K=K:=hF.trans hK;clear hF;subst hF';have hv:=v1.hv.fr (f2.trans f3) (k2.trans k3);have ff:=(f1.d.trans f2).trans f3;have kk:=(k1.trans k2).trans k3;generalize eo:cont μ3 r1.d=o at q3;unfold zD A1 at q3
 cases o with
 |none=>exact q3.elim
 |some o=>cases o with
  |il n=>exact q3.elim
  |adr a=>exact q3.elim
  |ins a c ks ts=>exact q3.elim
  |lst xs =>
   have w:=hv.vw l3 eo;obtain⟨_,_,rfl,ha,ra⟩:=Vw.cW w;exact .inl (.inl ⟨_,_,rfl,a_.of ha,fun p hp=>k _ _ _ μ3 (Vr.rJ l3 (ak.cut ra i j) hp) (ff.trans (Fr.more hp)) kk q3.2⟩)
  |eu xs =>
   have w:=hv.vw l3 eo;obtain⟨_,_,rfl,ha,ra⟩:=Vw.qM w;exact .inl (.inl ⟨_,_,rfl,ha,fun p hp=>k _ _ _ μ3 (Vr.rJ l3 (ak.cut ra i j) hp) (ff.trans (Fr.more hp)) kk q3.2⟩)
  |tup xs =>
   have w:=Hv.mD l3 hv eo;have w':=w;obtain⟨_,_,rfl,na,ha,ra⟩:=Rep.tupI w;by_cases z:HT.aR xs.length 0 i=0/\HT.aR xs.length xs.length j=xs.length
   ·have e0:bJ xs i j=xs:=by unfold bJ;rw[z.1,z.2,Hz,GA,Gq]
    have q4:=q3.2;rw[e0] at q4;exact .inl (.inr (.inr ⟨_,_,rfl,b6.of ha,by rw[ra.length];exact z.1,by rw[ra.length];exact z.2,k _ H3 _ μ3 (Vr.flat l3 w') ff kk q4⟩))
   ·exact .inl (.inr (.inl ⟨_,_,rfl,b6.of ha,by rw[ra.length];exact z,fun p hp=>k _ _ _ μ3 (Vr.pK l3 (ak.cut ra i j) hp) (ff.trans (Fr.same (bK.new hp))) kk q3.2⟩))
  |str z =>
   have w:=hv.vw l3 eo;obtain rfl:=Vw.e9 w;exact .inr ⟨z,rfl,q3.1,k _ H3 _ μ3 (Vr.flat l3 (.str _)) ff kk q3.2⟩
  |ay=>exact q3.elim
  |bl b=>exact q3.elim
  |int n=>exact q3.elim
  |jQ a b=>exact q3.elim
  |kf a b=>exact q3.elim
  |exc a b=>exact q3.elim
  |dW xs=>exact q3.elim
noncomputable def gO:UM:=fun j rs μ Q=>match rs with
 |[.tr (.int i)]=>(match (μ[j]?).bind Sl.box with
  |some (.lst ts)=>-(2^63)<=i/\i<2^63/\∃ k t,seqIndex? i ts.length=some k/\ts[k]?=some t/\Q (.tr t) (cC μ j (.lst (ts.eraseIdx k)))
  |_=>False)
 |_=>False
theorem rS:RM K qP gO:=by
 intro F ad B σ H μ Q Qt j s c xs rs hF l e b ps q k;unfold gO at q
 split at q
 ·rename_i i;obtain⟨_,_,rfl,h,ps⟩:=Paired.aC ps;obtain rfl:=Paired.cI ps;rw[e] at q
  cases cV h
  have q':(match s.box with|some (.lst ts)=>-(2^63)<=i/\i<2^63/\∃ k t,seqIndex? i ts.length=some k/\ts[k]?=some t/\Qt (.tr t) (cC μ j (.lst (ts.eraseIdx k)))|_=>False):=q
  rw[b] at q';rcases ((l.slot j s e).boxed b).2.2.1.is with ⟨ts,vs,rfl,hl,rv⟩|⟨_,_,_,rfl,_⟩
  case inr=>exact q'.elim
  simp only at q';obtain⟨h1,h2,n,t,hk,ht,q2⟩:=q';obtain⟨y,hy,ry⟩:=rv.get ht;have fs:Fr B H B (upd H (ad j) (.lst (vs.eraseIdx n))):=Fr.set ((l.slot j s e).boxed b).2.1;refine⟨_,_,i,n,y,rfl,rfl,hl,h1,h2,by rw[rv.length];exact hk,hy,?_⟩
  have l3:=l.put e b (rv.erase n);unfold cC at q2;rw[e] at q2;exact k _ _ (.tr t) _ (Vr.flat l3 (ry.fr fs)) fs (Kp.set e b (Sl.gA b)) q2
 ·exact q.elim
noncomputable def CP(i:Nat):UG:=fun r μ Q=>match r with
 |.tr t=>kv μ i/\Q (μ.set i (.tr t))
 |.fr t=>kv μ i/\Q (μ.set i (.tr t))
 |.br _=>False
theorem qF:RG K (bU i) (CP i):=fun F ad B σ H μ v r B0 H0 Q Qt hK h f q k=>by
 cases r with
 |tr t=>exact k ad B _ H _ (h.1.vZ (fJ q.1) h.2) f q.2
 |br i=>exact q.elim
 |fr c =>
  refine k ad B _ H _ (h.rl.vZ (fJ q.1) h.hv) (f.trans (Fr.less fun b z=>?_)) q.2;obtain⟨_,a,rfl,_⟩:=h;exact Or.inr z
section
variable {X:Cx} {e elt tg iter:Expr} {ifs:List Expr} {ue:UE} {ut:UT} {ui:UI} {pos pos' p2:Pos} {x:Str} {osc scope:Scope} {ON own N:List Str}
theorem Ea(hN:X.N.Nodup)(hi:X.N[i]?=some x)(hx:Loc X.env.scope x)(he:YE X e ue)(hs:autoParam (Z.za e=true) ℜ0)(hf:autoParam (X.fn x=true\/X.env.scope.names.lookup x=some .local) ℜ2):
  YS X (.Assign [.Name x pos'] e pos) (jE ue (CP i)):=by
 obtain⟨t,q,r⟩:=he;exact⟨_,Z.set hN hi hx q hs hf,m6 r qF⟩
end
end Y
namespace A
theorem gO(j:Nat)(i:Int)(μ:Mu)(Q:R->Mu->Prop):Y.gO j [.tr (.int i)] μ Q=(match (μ[j]?).bind Sl.box with
  |some (.lst ts)=>-(2^63)<=i/\i<2^63/\∃ k t,seqIndex? i ts.length=some k/\ts[k]?=some t/\Q (.tr t) (cC μ j (.lst (ts.eraseIdx k)))
  |_=>False):=rfl
theorem Dw(i:Nat)(t:T)(μ:Mu)(Q:Mu->Prop):Y.CP i (.fr t) μ Q=(Y.kv μ i/\Q (μ.set i (.tr t))):=rfl
end A
namespace Y
theorem rf(l:Addr)(items:Array Value)(ob:Obj)(n:Nat)(k:Int)(t:Tok)(hc:ob.cls=.type "tuple")(hd:ob.data=.seq items n)(h1:k=1):
  Meets (Builtin.«tuple.__mul__» ⟨[.ref l,.int k t],[]⟩) (fun _ R s=>s.heap.get? l=some ob/\R (.ok (.ret (.ref l))) s):=
 .of_wp fun prog w A R s h=>by
  obtain⟨hp,g,d,tk,os⟩:=s;obtain⟨hl,h⟩:=h;obtain⟨c,dd,da,sl⟩:=ob;simp only at hc hd;subst hc hd;have e1:(decide (k < -(2^63)) || decide (k >= 2^63))=false:=by rw[EX (by lia),EX (by lia)];rfl
  have e2:(items.isEmpty || k == 1)=true:=by rw[GD.mpr h1,Bool.or_true]
  wp_walk using GO hl;exact⟨_,rfl,h⟩
theorem tj(l:Addr)(items:Array Value)(ob:Obj)(n:Nat)(k:Int)(t:Tok)(hc:ob.cls=.type "tuple")(hd:ob.data=.seq items n)(hne:items.isEmpty=false)(h1:k<=0)(h2:-(2^63)<=k):
  Meets (Builtin.«tuple.__mul__» ⟨[.ref l,.int k t],[]⟩) (fun _ R s=>s.heap.get? l=some ob/\R (.ok (.ret (.ref s.heap.objs.size))) {s with heap:=s.heap.push {cls:=.type "tuple",data:=.seq #[]}}):=
 .of_wp fun prog w A R s h=>by
  obtain⟨hp,g,d,tk,os⟩:=s;obtain⟨hl,h⟩:=h;obtain⟨c,dd,da,sl⟩:=ob;simp only at hc hd;subst hc hd;have e1:(decide (k < -(2^63)) || decide (k >= 2^63))=false:=by rw[EX (by lia),EX (by lia)];rfl
  have e2:(items.isEmpty || k == 1)=false:=by rw[hne,Fb.mpr (by lia)];rfl
  have e3:(decide (k<=0) || items.isEmpty)=true:=by rw[Fq h1];rfl
  wp_walk using GO hl;rw[EB (by rw[e1];exact EF)]
  have ht:IsTup (Shared.heap ⟨hp,g,d,tk,os⟩) l items:=⟨_,hl,rfl,n,rfl⟩;show wpAny _ _ (Builtin.Tuple.tupleItemsOf (.ref l) >>= _) _ _ _;refine EA (tupleItemsOf_ ht ?_);rw[EB (by rw[e2];exact EF)]
  show wpAny _ _ (if (decide (k<=0) || items.isEmpty)=true then _ else _) _ _ _
  rw[EI e3];exact EA (m:=Builtin.Tuple.tupleExact _) (Gi (EL ⟨_,rfl,h⟩) (show (#[]:Array Value).size<=sizeLine by decide))
noncomputable def wG(K:Ih):R2:=fun x y H Q=>∃ a k xs,x=.ref a/\y=.int k/\b6 K H a xs/\xs≠[]/\k<=1/\-(2^63)<=k/\(k=1->Q (.ref a) H)/\(k<=0->∀ p,H p=none->Q (.ref p) (upd H p (.tup [])))
theorem vO:bZ X (binaryOp .Mult) (wG X.K):=by
 intro pins s σ H x y v u Q I rx ry h;obtain⟨a,k,xs,rfl,rfl,hx,hne,h1,h2,q1,q0⟩:=h;cases rx;obtain⟨t,rfl⟩:=ry;obtain⟨ah,r,p,hz⟩:=I.tuple hx;obtain⟨ob,ho,hc,n,hd⟩:=id p;have hlen:=r.length;have hemp:ah.toArray.isEmpty=false:=by
  cases ah with
  |nil=>cases r;exact absurd rfl hne
  |cons a b=>rfl
 by_cases c:k=1
 ·exact Gj (T:="tuple") (U:="int") (by decide) ⟨_,ho,hc⟩ (fun s'=>Gu s' k t) cK PySem.F.fills_int_mul PySem.F.slot_int_rmul eE PySem.F.slot_int_index.lookup
   (FW PySem.F.slot_int_rmul (Gu s k t) PySem.F.entry_int_rmul (PySem.F.args_int_rmul_2 _ _) (hV k t a ob ah.toArray n hc hd)
    ⟨ho,rfl,⟨_,ho,hc⟩,FW PySem.F.slot_tuple_mul ⟨_,ho,hc⟩ PySem.F.entry_tuple_mul (PySem.F.args_tuple_mul_2 _ _) (rf a ah.toArray ob n k t hc hd c) ⟨ho,⟨.ref a,H,I,rfl,q1 c⟩⟩⟩)
 ·refine Gj (T:="tuple") (U:="int") (by decide) ⟨_,ho,hc⟩ (fun s'=>Gu s' k t) cK PySem.F.fills_int_mul PySem.F.slot_int_rmul eE PySem.F.slot_int_index.lookup
   (FW PySem.F.slot_int_rmul (Gu s k t) PySem.F.entry_int_rmul (PySem.F.args_int_rmul_2 _ _) (hV k t a ob ah.toArray n hc hd)
    ⟨ho,rfl,⟨_,ho,hc⟩,FW PySem.F.slot_tuple_mul ⟨_,ho,hc⟩ PySem.F.entry_tuple_mul (PySem.F.args_tuple_mul_2 _ _) (tj a ah.toArray ob n k t hc hd hemp (by lia) h2) ⟨ho,?_⟩⟩)
  refine⟨.ref s.heap.objs.size,_,I.laid (t':=s.toks) (o:=.tup []) (fun b ob q=>EC _ q) (EH _) ?_,rfl,q0 (by lia) _ (I.aM.fresh (EH _))⟩
  exact⟨Fo _,[],.nil,cu.new _ _⟩
noncomputable def wB(K:Ih):R2:=fun x y H Q=>rW K x y H Q\/wG K x y H Q
theorem jB(K:Ih)(hK:X.K=K):bZ X (binaryOp .Mult) (wB K):=by subst hK;exact (d9 X.K rfl).or vO
noncomputable def pZ:U2:=fun r1 r2 μ Q=>match cont μ r1,cont μ r2 with
 |some (.int i),some (.int j)=>lg i j/\Q (.tr (.int (i*j))) μ
 |some (.lst xs),some (.int k)=>-(2^63)<=k/\k<2^63/\xs.length*k.toNat<=sizeLine/\Q (.fr (.lst (List.replicate k.toNat xs).flatten)) μ
 |some (.tup xs),some (.int k)=>(xs≠[]/\xs.length<=1000/\-(2^63)<=k/\k<=1000)/\Q (.tr (.tup (List.replicate k.toNat xs).flatten)) μ
 |_,_=>False
theorem jR:ji K (wB K) pZ:=by
 intro F ad B σ H μ Q Qt x y r1 r2 hK l h1 h2 q k;unfold pZ at q
 split at q
 ·rename_i i j e1 e2;exact .inl (cy F ad B σ H μ Q Qt x y r1 r2 hK l h1 h2 (by unfold iK;rw[e1,e2];exact q) k)
 ·rename_i xs j e1 e2;exact .inl (cy F ad B σ H μ Q Qt x y r1 r2 hK l h1 h2 (by unfold iK;rw[e1,e2];exact q) k)
 ·rename_i xs j e1 e2;by_cases c:1<j
  ·exact .inl (cy F ad B σ H μ Q Qt x y r1 r2 hK l h1 h2 (by unfold iK;rw[e1,e2];exact⟨⟨q.1.1,q.1.2.1,c,q.1.2.2.2⟩,q.2⟩) k)
  ·have a:=Hv.mD l h1 e1;have b:=h2.vw l e2;subst hK;obtain rfl:=Vw.bf b;have a':=a;obtain⟨_,_,rfl,na,ha,ra⟩:=Rep.tupI a;refine .inr ⟨_,_,_,rfl,rfl,b6.of ha,?_,by lia,q.1.2.2.1,fun e=>?_,fun e p hp=>?_⟩
   ·rintro rfl;cases ra;exact q.1.1 rfl
   ·subst e;have q2:=q.2;rw[show (1:Int).toNat=1 from rfl] at q2;simp only[List.replicate,FX,List.flatten_nil,FV] at q2;exact k _ H _ μ (Vr.flat l a') Fr.refl (Kp.refl μ) q2
   ·have q2:=q.2;rw[show j.toNat=0 by lia] at q2
    exact k _ _ _ μ (Vr.pK l .nil hp) (Fr.same (bK.new hp)) (Kp.refl μ) q2
 ·exact q.elim
end Y
namespace A
theorem zm(xs:List T)(k:Int)(μ:Mu)(Q:R->Mu->Prop):Y.pZ (.tr (.tup xs)) (.tr (.int k)) μ Q=((xs≠[]/\xs.length<=1000/\-(2^63)<=k/\k<=1000)/\Q (.tr (.tup (List.replicate k.toNat xs).flatten)) μ):=rfl
end A
noncomputable def Fl(h:Heap)(e:Addr)(cls:Value)(d:Option Addr):Option Addr->Prop
 |none=>∃ oe vs,h.get? e=some oe/\oe.cls=cls/\oe.dict=d/\oe.data=.fields vs/\vs[1]?=some Value.none
 |some T=>∃ oe vs oT ts,h.get? e=some oe/\oe.cls=cls/\oe.dict=d/\oe.data=.fields vs/\vs[1]?=some (.ref T)/\T≠e/\h.get? T=some oT/\oT.data=.fields ts/\3<ts.size
theorem Fl.is{d:Option Addr}(f:Fl h e cls d To):eQ e cls d h:=by
 cases To with
 |none=>obtain⟨oe,vs,h1,h2,h3,h4,_⟩:=f;exact⟨oe,vs,h1,h2,h3,h4⟩
 |some T=>obtain⟨oe,vs,_,_,h1,h2,h3,h4,_⟩:=f;exact⟨oe,vs,h1,h2,h3,h4⟩
theorem eQ.ok{d:Option Addr}(x:eQ e cls d h):bu P w H h e (.ext (eQ e cls d)):=
 ⟨x,let ⟨o,_,h1,_⟩:=x;⟨o,h1⟩,fun h1 h2 ⟨o,vs,a,b,c,d⟩ k=>⟨o,vs,k o a,b,c,d⟩⟩
theorem eQ.one{cls':Value}{d d':Option Addr}(x:eQ e cls d h)(y:eQ e cls' d' h):cls=cls'/\d=d':=by
 obtain⟨o,_,h1,h2,h3,_⟩:=x;obtain⟨o',_,g1,g2,g3,_⟩:=y;rw[h1] at g1;cases g1;exact⟨h2.symm.trans g2,h3.symm.trans g3⟩
structure Mv (h h':Heap) (e:Addr) (To:Option Addr) (fs:List Addr) (T':Addr):Prop where
 keep:∀ b o,b≠e->(∀ T,To=some T->b≠T)->b∉fs->h.get? b=some o->h'.get? b=some o
 slot:∀ b o,b∈fs->h.get? b=some o->∃ sl,h'.get? b=some {o with slots:=sl}
 new:(h.get? T'=none\/To=some T')/\T'∉fs
section
variable {h:Heap} {e:Addr} {cls:Value} {d:Option Addr} {base:Heap} {l:List Env}
theorem Fl.r9{T:Addr}(f:Fl h e cls d (some T))(hl:h.FunFrames base l):T∉fW l:=fun m=>by
 obtain⟨_,o,ho,hd⟩:=hl.mem m;obtain⟨_,_,oT,ts,_,_,_,_,_,_,hT,iA,_⟩:=f;rw[hT] at ho;cases ho;exact hd ts iA
theorem rB{o:Obj}{vs:Array Value}(q:o.data=.fields vs)(g:Array Value->Array Value):o.mapFields g={o with data:=.fields (g vs)}:=by
 obtain⟨c,dd,dt,sl⟩:=o;cases q;rfl
end
section
variable {M:Model} {A:Around} {E:Value->Shared->Prop} {s:Shared} {env:Env} {outer:List Env} {L e:Addr} {cls:Value} {d:Option Addr} {base:Heap}
theorem j_{o:Obj}{vs:Array Value}{x:Value}(ho:s.heap.get? a=some o)(hd:o.data=.fields vs)(hi:i<vs.size)
  (hq:∀ h':Heap,(∀ b,b≠a->h'.get? b=s.heap.get? b)->h'.get? a=some {o with data:=.fields (vs.setIfInBounds i x)}->Q () {s with heap:=h'}):wpAny M A (setField (.ref a) i x) Q E s:=by
 have hm:=rB hd (·.setIfInBounds i x);refine HP ho hd hi (hq _ (fun b n=>GU _ _ (Ne.symm n)) ?_);have:=GX (Obj.mapFields (·.setIfInBounds i x)) ho (Obj.isFreed_of_fields (Ho hd _));rw[hm] at this;exact this
theorem fR{T:Addr}{fl:Value}{oe oT:Obj}{vs ts:Array Value}(he:s.heap.get? e=some oe)(hd:oe.data=.fields vs)(h1:vs[1]?=some (.ref T))(hne:T≠e)(hT:s.heap.get? T=some oT)(iA:oT.data=.fields ts)(h3:ts[3]?=some fl)
  (hq:∀ h':Heap,(∀ b,b≠T->h'.get? b=s.heap.get? b)->h'.get? T=some {oT with data:=.fields (ts.setIfInBounds 3 .none)}->Q () {s with heap:=h'}):wpAny M A (setFlight (.ref e) none) Q E s:=by
 unfold setFlight;refine EA (Fv he hd h1 ?_);rw[EI (by simp)]
 exact j_ hT iA (Ft.mp h3).1 hq
theorem nL{oe:Obj}{vs:Array Value}{head:Value}{hn:Bool}(hfr:A.frames=some (env::outer))(hf:env.frame=some L)(hl:s.heap.FunFrames base (env::outer))(he:s.heap.get? e=some oe)(hd:oe.data=.fields vs)(hsz:1<vs.size)
  (hq:∀(h':Heap) (T':Addr) (oT:Obj) (ts:Array Value),(∀ b o,b≠e->b∉fW (env::outer)->s.heap.get? b=some o->h'.get? b=some o)->(∀ b o,b∈fW (env::outer)->s.heap.get? b=some o->∃ sl,h'.get? b=some {o with slots:=sl}) ->
   s.heap.get? T'=none->h'.get? e=some {oe with data:=.fields (vs.setIfInBounds 1 (.ref T'))}->h'.get? T'=some oT->oT.data=.fields ts->ts[3]?=some (rawInt L)->T'≠e->T'∉fW (env::outer)->Q () {s with heap:=h'}) :
  wpAny M A (frameOf env >>= fun a=>entryPlaceOf L hn >>= fun pl=>EntryCells.newEntry head a .none (rawInt L) .none pl >>= fun b=>setField (.ref e) 1 b) Q E s:=by
 have nfe:e∉fW (env::outer):=fun m=>by
  obtain⟨_,o,ho,hnf⟩:=hl.mem m;rw[he] at ho;cases ho;exact hnf vs hd
 refine EA (wpAny_frameOf_fun hfr hl hf fun h1 hs=>?_);obtain⟨hs1,hs2,hs3⟩:=hs;refine EA (wpAny_entryPlaceOf fun pl hpl=>?_);unfold EntryCells.newEntry newFields;refine EA (Gi ?_ (hpl.sizeOk5 _ _ _ _ _));have e1:h1.get? e=some oe:=(hs2 e nfe).trans he;have hsize:∀ b o,h1.get? b=some o->b≠h1.objs.size:=fun b o q=>Fd (ER q);refine j_ (EC _ e1) hd hsz fun h2 k1 k2=>?_;have nfT:h1.objs.size∉fW (env::outer):=fun m=>by
  obtain⟨_,o,ho,_⟩:=hl.mem m;obtain⟨sl,q⟩:=hs3 _ o ho;exact hsize _ _ q rfl
 refine hq h2 h1.objs.size _ _ (fun b o n1 n2 q=>?_) (fun b o m q=>?_) ?_ k2 ((k1 _ (Ne.symm (hsize _ _ e1))).trans (EV h1 rfl)) rfl ?_ (Ne.symm (hsize _ _ e1)) nfT
 ·rw[k1 b n1];exact EC _ ((hs2 b n2).trans q)
 ·obtain⟨sl,q1⟩:=hs3 b o q;exact⟨sl,(k1 b fun z=>nfe (by rw[<- z];exact m)).trans (EC _ q1)⟩
 ·cases q:s.heap.get? h1.objs.size with
  |none=>rfl
  |some o =>
   obtain⟨sl,q1⟩:=hs3 _ o q;exact absurd rfl (hsize _ _ q1)
 ·rcases hpl with rfl|⟨_,_,_,_,_,_,_,rfl⟩<;>simp
theorem ky{T:Addr}{l:List Env}(hl:s.heap.FunFrames base l)(f:Fl s.heap e cls d (some T))
  (hq:∀ h' T',Mv s.heap h' e (some T) (fW l) T'->Fl h' e cls d (some T')->Q () {s with heap:=h'}):wpAny M A (setFlight (.ref e) none) Q E s:=by
 have nfT:=f.r9 hl;obtain⟨oe,vs,oT,ts,g1,g2,g3,g4,g5,g6,g7,g8,g9⟩:=id f;refine fR g1 g4 g5 g6 g7 g8 (Hu g9) fun h2 j1 j2=>?_;refine hq h2 T ⟨fun b o n1 n2 n3 q=>(j1 b (n2 T rfl)).trans q,fun b o m q=>⟨o.slots,(j1 b fun z=>nfT (by rw[<- z];exact m)).trans q⟩,.inr rfl,nfT⟩ ⟨_,_,_,_,(j1 e (Ne.symm g6)).trans g1,g2,g3,g4,g5,g6,j2,rfl,?_⟩
 simp[g9]
theorem ki(hfr:A.frames=some (env::outer))(hf:env.frame=some L)(hl:s.heap.FunFrames base (env::outer))(f:Fl s.heap e cls d To)
  (hq:∀ h' T',Mv s.heap h' e To (fW (env::outer)) T'->Fl h' e cls d (some T')->Q () {s with heap:=h'}):wpAny M A (noteFrame (.ref e) env) (fun _ s2=>wpAny M A (setFlight (.ref e) none) Q E s2) E s:=by
 unfold noteFrame;simp only[hf]
 cases To with
 |none =>
  obtain⟨oe,vs,g1,g2,g3,g4,g5⟩:=id f;have hsz:=(Ft.mp g5).1;refine EA (Fv g1 g4 g5 ?_);rw[EB (by decide)]
  refine nL hfr hf hl g1 g4 hsz fun h1 T' oT ts k1 k2 k3 k4 k5 k6 k7 k8 k9=>?_;refine fR (s:={s with heap:=h1}) k4 rfl (by simp[hsz]) k8 k5 k6 k7 fun h2 j1 j2=>?_
  have nT:∀ b o,s.heap.get? b=some o->b≠T':=fun b o q z=>by rw[z,k3] at q;cases q
  refine hq h2 T' ⟨fun b o n1 _ n3 q=>?_,fun b o m q=>?_,.inl k3,k9⟩ ⟨_,_,_,_,(j1 e (Ne.symm k8)).trans k4,g2,g3,rfl,by simp[hsz],k8,j2,rfl,?_⟩
  ·exact (j1 b (nT b o q)).trans (k1 b o n1 n3 q)
  ·obtain⟨sl,q1⟩:=k2 b o m q;exact⟨sl,(j1 b (nT b o q)).trans q1⟩
  ·have:=(Ft.mp k7).1;simp[this]
 |some T =>
  obtain⟨oe,vs,oT,ts,g1,g2,g3,g4,g5,g6,g7,g8,g9⟩:=id f;have hsz:=(Ft.mp g5).1;have nfT:=f.r9 hl;refine EA (Fv g1 g4 g5 ?_);rw[EI (by simp)]
  refine EA (Fv g7 g8 (Hu g9) ?_);by_cases cL:(ts[3] == rawInt L)=true
  ·rw[EI cL];exact EL (ky hl f hq)
  rw[EB cL];refine EA (j_ g7 g8 g9 fun h0 i1 i2=>?_);have hl0:h0.FunFrames base (env::outer):=hl.of_keeps fun b o q hn=>⟨o,(i1 b fun z=>by rw[z,g7] at q;cases q;exact hn ts g8).trans q,rfl⟩
  refine nL (s:={s with heap:=h0}) hfr hf hl0 ((i1 e (Ne.symm g6)).trans g1) g4 hsz fun h1 T' oT' ts' k1 k2 k3 k4 k5 k6 k7 k8 k9=>?_
  refine fR (s:={s with heap:=h1}) k4 rfl (by simp[hsz]) k8 k5 k6 k7 fun h2 j1 j2=>?_
  have nTT:T'≠T:=fun z=>by
   have k3':h0.get? T'=none:=k3;rw[z,i2] at k3';cases k3'
  have nT:∀ b o,s.heap.get? b=some o->b≠T':=fun b o q z=>by
   have k3':h0.get? T'=none:=k3;rw[<- z] at k3';by_cases z2:b=T
   ·exact nTT (z.symm.trans z2)
   ·rw[i1 b z2,q] at k3';cases k3'
  refine hq h2 T' ⟨fun b o n1 n2 n3 q=>?_,fun b o m q=>?_,.inl ?_,k9⟩ ⟨_,_,_,_,(j1 e (Ne.symm k8)).trans k4,g2,g3,rfl,by simp[hsz],k8,j2,rfl,?_⟩
  ·exact (j1 b (nT b o q)).trans (k1 b o n1 n3 ((i1 b (n2 T rfl)).trans q))
  ·have nbT:b≠T:=fun z=>nfT (by rw[<- z];exact m)
   obtain⟨sl,q1⟩:=k2 b o m ((i1 b nbT).trans q);exact⟨sl,(j1 b (nT b o q)).trans q1⟩
  ·exact (i1 T' nTT).symm.trans k3
  ·have:=(Ft.mp k7).1;simp[this]
theorem pB(hfr:A.frames=some (env::outer))(hf:env.frame=some L)(hl:s.heap.FunFrames base (env::outer))(f:Fl s.heap e cls d To)
  (hq:∀ h' T',Mv s.heap h' e To (fW (env::outer)) T'->Fl h' e cls d (some T')->Q () {s with heap:=h'}):wpAny M A (leaving env (.ref e)) Q E s:=by
 unfold leaving;exact EA (ki hfr hf hl f hq)
end
theorem e7.sC(x:e7 P w H h)(k:∀ b u,h.get? b=some u->h'.get? b=some u)(hn:H a=none)(new:bu P w (upd H a o) h' a o):e7 P w (upd H a o) h':=fun b u e=>by
 by_cases z:b=a
 ·subst z;rw[ae] at e;cases e;exact new
 ·rw[af z] at e;exact (x b u e).hW (fun c v _ q=>k c v q) (fun c q=>by rw[af (aw q hn)];exact q) (fun c xs q=>by rw[af (aw q hn)];exact q) fun c _ _ q=>by rw[af (aw q hn)];exact q
theorem Un.sC{fs:List Addr}(k:∀ b u,h.get? b=some u->h'.get? b=some u)(h0:h.get? a=none)(hn:H a=none):Un fs ex H (upd H a o) h h' where
 keep:=fun b u q _ _ _=>k b u q
 slot:=fun b u q _ _ _=>⟨u.slots,k b u q⟩
 free:=fun b u q n _=>by rw[af (fun z=>by rw[z,h0] at q;cases q)];exact n
 there:=fun b u q _=>⟨u,k b u q⟩
 gr:=fun b xs q=>by rw[af (aw q hn)];exact q
 fL:=fun b u xs q=>by rw[af (aw q hn)];exact q
 fj:=fun b ps q=>⟨#[],by rw[af (aw q hn),q];simp⟩
theorem e7.none_of(x:e7 P w H h)(e:h.get? a=none):H a=none:=by
 cases q:H a with
 |none=>rfl
 |some u =>
  have:=x a u q;obtain⟨o,ho⟩:∃ o,h.get? a=some o:=by
   clear q
   induction u with
   |lst xs=>obtain⟨_,_,_,_,z⟩:=this;exact⟨_,z⟩
   |tup xs=>obtain⟨_,_,_,o,z,_⟩:=this;exact⟨_,z⟩
   |dK kvs=>obtain⟨_,_,_,_,o,_,_,z,_⟩:=this;exact⟨_,z⟩
   |dT kvs=>obtain⟨_,_,_,_,o,_,_,z,_⟩:=this;exact⟨_,z⟩
   |set S n=>obtain⟨o,_,_,_,z,_⟩:=this;exact⟨_,z⟩
   |ins C dx fs=>obtain⟨_,_,_,z,_⟩:=this;exact⟨_,z⟩
   |own x=>exact this
   |xd fs=>obtain⟨_,⟨o,_,_,z,_⟩,_⟩:=this;exact⟨_,z⟩
   |met f x=>exact⟨_,this⟩
   |jQ lo hi=>obtain⟨_,_,_,z⟩:=this;exact⟨_,z⟩
   |gM o u ih=>exact⟨_,this.1⟩
   |pO ps=>obtain⟨_,z,_⟩:=this;exact⟨_,z⟩
   |ext φ=>exact this.2.1
  rw[e] at ho;cases ho
theorem e7.moved{T':Addr}{d:Option Addr}{fs:List Addr}(x:e7 P w H h)(mv:Mv h h' e To fs T')(f':eQ e cls d h')(he:H e=some (.ext (eQ e cls d)))(hT:∀ T,To=some T->H T=none)(hf:∀ b∈fs,H b=none):e7 P w H h':=fun b u q=>by
 by_cases z:b=e
 ·subst z;rw[he] at q;cases q;exact f'.ok
 ·refine (x b u q).hW (fun c v hc r=>?_) (fun _ q=>q) (fun _ _ q=>q) fun _ _ _ q=>q;have tr:∃ o,H c=some o:=by
   rcases hc with rfl|hc
   ·exact⟨u,q⟩
   ·exact⟨_,hc⟩
  obtain⟨o,tr⟩:=tr;refine mv.keep c v (fun z2=>?_) (fun T hT' z2=>?_) (fun m=>?_) r
  ·rcases hc with rfl|hc
   ·exact z z2
   ·rw[z2,he] at hc;cases hc
  ·rw[z2,hT T hT'] at tr;cases tr
  ·rw[hf c m] at tr;cases tr
section
variable {X:Cx} {pins:List (Addr×Obj)} {σ:St} {H H':Hp} {s:Shared} {h':Heap}
theorem Inv.Bi{ch:List Addr}(I:Inv X pins σ H s)
  (hch:∀ b∈ch,X.s₀.heap.get? b=none/\b≠X.env.locals/\(∀ x c,X.env.cells.lookup x=some c->c≠b)/\∀ p∈X.pn++pins,p.1≠b)
  (keep:∀ b o,b≠X.env.locals->b∉X.fs->b∉ch->s.heap.get? b=some o->H b=none->h'.get? b=some o)
  (slot:∀ b o,b≠X.env.locals->b∈X.fs->b∉ch->s.heap.get? b=some o->H b=none->∃ sl,h'.get? b=some {o with slots:=sl})
  (there:∀ b o,b∉ch->s.heap.get? b=some o->∃ o',h'.get? b=some o')
  (ns:∀ m,s.heap.Ns X.env.locals m->h'.Ns X.env.locals m) (aM:e7 X.prog X.w H h') :
  Inv X pins σ H {s with heap:=h'}:=by
 have neL:∀ b o,X.s₀.heap.get? b=some o->b≠X.env.locals:=fun b o e=>Fd (EO (ER e) I.ok.above);have neC:∀ b o,X.s₀.heap.get? b=some o->b∉ch:=fun b o e hb=>by rw[(hch b hb).1] at e;cases e
 have cellK:∀ x c,X.env.cells.lookup x=some c->∀ v,s.heap.IsCell c v->h'.IsCell c v:=fun x c e v ⟨o,ho,hd⟩=>by
  have nch:c∉ch:=fun z=>(hch c z).2.2.1 x c e rfl;by_cases hc:c∈X.fs
  ·obtain⟨sl,q⟩:=slot c o (I.pM x c e) hc nch ho (I.bH x c e);exact⟨_,q,hd⟩
  ·exact⟨o,keep c o (I.pM x c e) hc nch ho (I.bH x c e),hd⟩
 refine⟨I.ok,I.os,I.bare,⟨fun b o e n hb hx=>?_,fun b o e n hb hx=>?_,I.base.free,fun b o e hx=>?_,I.base.gr,I.base.fL,I.base.fj⟩,?_,fun x c e=>?_,I.free,I.bH,fun p hp=>?_,aM,I.len⟩
 ·exact keep b o (neL b o e) hb (neC b o e) (I.base.keep b o e n hb hx) (I.base.free b o e n hx)
 ·obtain⟨sl,e1⟩:=I.base.slot b o e n hb hx;obtain⟨sl',e2⟩:=slot b _ (neL b o e) hb (neC b o e) e1 (I.base.free b o e n hx);exact⟨sl',e2⟩
 ·obtain⟨o',e1⟩:=I.base.there b o e hx;exact there b o' (neC b o e) e1
 ·obtain⟨m,hn,hl⟩:=I.loc;refine⟨m,ns m hn,fun i x v e1 e2 e3=>?_⟩;obtain⟨u,r,l⟩:=hl i x v e1 e2 e3;refine⟨u,r,?_⟩;rcases l with l|⟨k,c,e,z⟩
  ·exact .inl l
  ·exact .inr ⟨k,c,e,cellK x c e _ z⟩
 ·obtain⟨v,z⟩:=I.cell x c e;exact⟨v,cellK x c e v z⟩
 ·obtain⟨e,n,ne,nf,d⟩:=I.pin p hp;have nch:p.1∉ch:=fun z=>(hch p.1 z).2.2.2 p hp rfl;exact⟨keep p.1 p.2 ne nf nch e n,n,ne,nf,d⟩
structure Nw (X:Cx) (pins:List (Addr×Obj)) (H:Hp) (e:Addr) (cls:Value) (d To:Option Addr):Prop where
 tr:H e=some (.ext (eQ e cls d))
 e0:X.s₀.heap.get? e=none
 d0:∀ a,d=some a->X.s₀.heap.get? a=none
 t0:∀ T,To=some T->H T=none/\X.s₀.heap.get? T=none/\∀ p∈X.pn++pins,p.1≠T
theorem Inv.moved{T':Addr}{d:Option Addr}(I:Inv X pins σ H s)(hex:X.ex=[])(f:Fl s.heap e cls d To)(nw:Nw X pins H e cls d To)(mv:Mv s.heap h' e To (fW X.stack) T')(f':Fl h' e cls d (some T')):
  Inv X pins σ H {s with heap:=h'}/\Nw X pins H e cls d (some T'):=by
 have hfr:=I.jx;have teT:∀ T o,To=some T->s.heap.get? T=some o->T∉fW X.stack:=fun T o hT _=>by subst hT;exact f.r9 I.stack
 have hne:∀ b o,s.heap.get? b=some o->H b=none->b≠e:=fun b o _ n z=>by rw[z,nw.tr] at n;cases n
 refine⟨I.Bi (ch:=To.toList) (fun b hb=>?_) (fun b o hL hb hc q n=>?_) (fun b o _ hb hc q n=>?_) (fun b o hc q=>?_) (fun m hm=>?_) (I.aM.moved mv f'.is nw.tr (fun T hT=>(nw.t0 T hT).1) hfr),nw.tr,nw.e0,nw.d0,fun T hT=>?_⟩
 ·cases To with
  |none=>cases hb
  |some T =>
   have:b=T:=by simpa using hb
   subst this;obtain⟨h1,h2,h3⟩:=nw.t0 b rfl;obtain⟨_,_,oT,ts,_,_,_,_,_,_,hT,iA,_⟩:=f;refine⟨h2,fun z=>?_,fun x c hc z=>?_,h3⟩
   ·obtain⟨m,⟨o,es,ep,ho,hd,_⟩,_⟩:=I.loc;rw[<- z,hT] at ho;cases ho;rw[iA] at hd;cases hd
   ·obtain⟨v,o,ho,hd⟩:=I.cell x c hc;rw[z,hT] at ho;cases ho;rw[iA] at hd;cases hd
 ·refine mv.keep b o (hne b o q n) (fun T hT z=>hc (by rw[hT,z];simp)) (fun m=>?_) q
  exact (EG.mp (I.hJ b m)).elim hL hb
 ·by_cases m:b∈fW X.stack
  ·exact mv.slot b o m q
  ·exact⟨o.slots,mv.keep b o (hne b o q n) (fun T hT z=>hc (by rw[hT,z];simp)) m q⟩
 ·by_cases z:b=e
  ·obtain⟨o',_,q',_⟩:=f'.is;exact⟨o',by rw[z];exact q'⟩
  ·by_cases m:b∈fW X.stack
   ·obtain⟨sl,q2⟩:=mv.slot b o m q;exact⟨_,q2⟩
   ·exact⟨o,mv.keep b o z (fun T hT z=>hc (by rw[hT,z];simp)) m q⟩
 ·obtain⟨o,es,ep,ho,r⟩:=hm;have n:=I.free;by_cases mm:X.env.locals∈fW X.stack
  ·obtain⟨sl,q2⟩:=mv.slot _ o mm ho;exact⟨_,es,ep,q2,r⟩
  ·refine⟨o,es,ep,mv.keep _ o (hne _ o ho n) (fun T hT z=>?_) mm ho,r⟩;subst hT;obtain⟨_,_,oT,ts,_,_,_,_,_,_,hT,iA,_⟩:=f;rw[z,hT] at ho;cases ho;obtain⟨hd,_⟩:=r;rw[iA] at hd;cases hd
 ·cases hT;rcases mv.new.1 with q|q
  ·refine⟨I.aM.none_of q,?_,fun p hp z=>?_⟩
   ·cases q2:X.s₀.heap.get? T' with
    |none=>rfl
    |some o =>
     obtain⟨o',q3⟩:=I.base.there T' o q2 (by rw[hex];simp)
     rw[q] at q3;cases q3
   ·rw[<- z,(I.pin p hp).1] at q;cases q
  ·exact nw.t0 T' q
noncomputable def jL(X:Cx)(cls:Value)(d:Option Addr)(e:Addr)(σ:St)(H:Hp):Prop:=∀(pins:List (Addr×Obj)) (s:Shared) (To:Option Addr),Inv X pins σ H s->Fl s.heap e cls d To->Nw X pins H e cls d To->X.xe (.ref e) s
noncomputable def pS(P:Program)(w:World):ke:=fun outer H s E x s'=>∃(e T:Addr) (cls:Value) (d:Option Addr) (H':Hp),x=.ref e/\s'.os=s.os/\AllBare s'.gens/\Un (fW outer) [] H H' s.heap s'.heap/\e7 P w H' s'.heap/\Fl s'.heap e cls d (some T)/\s.heap.get? e=none/\(∀ a,d=some a->s.heap.get? a=none)/\s.heap.get? T=none/\H' e=some (.ext (eQ e cls d))/\H' T=none/\E cls (some e) H'
end
theorem kS{base:Heap}{cd:Value}{A:Around}{outer:List Env}{s0:Shared}{H0:Hp}{E:XK}{d:Option Addr}(hE:E cls (some e) H):
  jL (dH (pS P w) P w K mg base N qual scope f cd A outer s0 H0 E) cls d e σ H:=by
 intro pins s To I fl nw;refine pB (base:=base) I.ok.frames rfl I.stack fl fun h' T' mv f'=>?_;obtain⟨I2,nw2⟩:=I.moved rfl fl nw mv f';exact⟨e,T',cls,d,H,rfl,I.os,I.bare,I2.base,I2.aM,f',nw.e0,nw.d0,(nw2.t0 T' rfl).2.1,nw.tr,(nw2.t0 T' rfl).1,hE⟩
section
variable {X:Cx}
noncomputable def BU(X:Cx)(σ:St)(H:Hp):XK:=fun cls de H'=>∃(e:Addr) (d:Option Addr),de=some e/\H' e=some (.ext (eQ e cls d))/\(H e=none->(∀ a,d=some a->H a=none)->jL X cls d e σ H')
structure fH (K:Ih) (C:Addr):Prop where
 q:PySem.W.excIn K C [.type "ValueError",.type "Exception",.type "BaseException",.type "object"] "ValueError.__new__"=true
theorem fH.obj(c:fH K C):∃ bm N nm qn bs hd sn sub ab col dd k0 k1 k2 k3 k5,K.lookup C=some (excClassObj nm qn C N bs bm hd sn sub ab col dd k0 k1 k2 k3 k5 "ValueError.__new__") /\
  (∀ h:Heap,K.In h->OwnTail h [.type "ValueError",.type "Exception",.type "BaseException",.type "object"] bm)/\(∃ oN,K.lookup N=some oN)/\∀ h:Heap,K.In h->∃ mN,h.Ns N mN/\mN "__init__"=none:=by
 have q:=c.q;unfold PySem.W.excIn at q
 split at q
 ·rename_i dd cd sl ho
  split at q
  ·rename_i C2 bm k0 k1 k2 k3 nw k5 hm hs;simp only[beq_iff_eq,Bool.not_eq_true',Bool.and_eq_true] at q;obtain⟨⟨⟨⟨⟨z1,z2⟩,z3⟩,z4⟩,z5⟩,z6⟩:=q;subst z1;subst z2;obtain⟨nm,bs,mr,ns,qn,hd,sn,sub,ab,col,dl⟩:=cd;dsimp only at hm z3 z5 z6 ho;subst hm;subst z3;obtain⟨l⟩:=sl;have hs':l=[k0,k1,k2,k3,some (.builtin "ValueError.__new__"),k5]:=hs;subst hs';refine⟨bm,ns,nm,qn,bs,hd,sn,sub,ab,col,dd,k0,k1,k2,k3,k5,ho,fun h lJ=>PySem.W.tail_of_in lJ z4,?_,fun h lJ=>⟨_,.of_isNs (PySem.W.isNs_of_in lJ z5),PySem.W.nsMap_none_of_in lJ z5 z6⟩⟩;unfold PySem.W.nsOkIn at z5
   split at z5
   ·rename_i hN;exact⟨_,hN⟩
   ·cases z5
  ·cases q
 ·cases q
noncomputable def zx(X:Cx)(C:Addr)(t:TA):TS:=fun D σ H=>t σ H fun vs H1=>vs.length<=sizeLine/\∀ e,H1 e=none->jL X (.ref C) none e σ (upd H1 e (.ext (eQ e (.ref C) none)))
theorem rZ{C:Addr}{e:Expr}{t:TA}(hg:Gl X x)(hm:X.mg x=some (.ref C))(hk:fH X.K C)(hc:X.calm=true)(hex:X.ex=[])(ha:PA X (e::es) t)(h1:autoParam (cN e=true) ℜ0)(h2:autoParam (es.all cN=true) ℜ0)(hdb:autoParam ((x ==("__debug__":Str))=false) ℜ1):
  PS X (.Raise (some (.Call (.Name x np) (e::es) [] cpos)) none pos) (zx X C t):=by
 intro pins s σ H D I h;obtain⟨bm,N,nm,qn,bs,hd,sn,sub,ab,col,dd,k0,k1,k2,k3,k5,lk,tl,⟨oN,lN⟩,hns⟩:=hk.obj;obtain⟨mN,hN,hni⟩:=hns s.heap I.dn;have FB:=PySem.F.excBase_ValueError;have hstar:starEach (e::es) X.env=(false,eval e X.env)::starEach es X.env:=dC h1;refine wpAny_Raise_call_subU (C:=C) (nm:=nm) (q:=qn) (N:=N) (bs:=bs) (bm:=bm) (hdct:=hd) (sn:=sn) (sub:=sub) (ab:=ab) (col:=col) (dd:=dd) (k0:=k0) (k1:=k1) (k2:=k2) (k3:=k3) (k5:=k5) FB FB.hasB FB (mN:=mN) ((tl s.heap I.dn).hasType FB.hasBase) (I.ok.hd hc) ?_ hni (fA I hg hm ⟨rfl,?_⟩ hdb)
 ·rw[hstar];show (false || (backTo cpos (starEach es X.env)).any (·.1))=false;rw[plain_any h2];rfl
 ·have hp:=ha cpos pins s σ H _ I h;rw[hstar] at hp ⊢;refine Calls.evalArgs_plain (FJ hp (fun us s2 hq1=>?_) fun _ _ y=>y);obtain⟨vs,H1,I1,r,hl,q⟩:=hq1;refine⟨rfl,by rw[<- r.length];exact hl,I1.dn _ _ lk,?_,tl _ I1.dn,fun h' ea hm2=>?_⟩
  ·obtain⟨o,es',ep,ho,rr⟩:=hN;have z1:=I.dn _ _ lN;rw[ho] at z1;cases z1;exact⟨_,es',ep,I1.dn _ _ lN,rr⟩
  ·have hne:=I1.aM.none_of hm2.new;obtain⟨tt,g1,g2,g3⟩:=hm2.there;have fl:Fl h' ea (.ref C) none none:=⟨_,_,g1,rfl,rfl,rfl,rfl⟩;have I2:Inv X pins σ (upd H1 ea (.ext (eQ ea (.ref C) none))) {s2 with heap:=h'}:=I1.un (t':=s2.toks) (Un.sC hm2.keeps hm2.new hne) (I1.aM.sC hm2.keeps hne fl.is.ok)
   refine q ea hne pins _ none I2 fl ⟨ae,?_,(fun a z=>by cases z),fun T z=>by cases z⟩
   cases q2:X.s₀.heap.get? ea with
   |none=>rfl
   |some o =>
    obtain⟨o',q3⟩:=I1.base.there ea o q2 (by rw[hex];simp)
    rw[hm2.new] at q3;cases q3
end
noncomputable def XH(H:Hp)(e:Addr)(x:T)(cls:Value)(d:Option Addr):Prop:=H e=some (.ext (eQ e cls d))/\match x with
 |.exc c none=>c=cls/\d=none
 |.exc c (some (n,i))=>c=cls/\∃ a,d=some a/\H a=some (.xd [(n,.int i)])
 |_=>False
abbrev Xw:=T->Mu->Prop
abbrev Cv:=Value->Option Addr->Addr->St->Hp->Prop
abbrev UX:=Mu->(R->Mu->Prop)->Xw->Prop
abbrev jw:=Ed->Xw->Mu->Prop
noncomputable def kr(F:Fx)(B:aB)(H:Hp)(Dx:Cv)(Xt:Xw):Prop:=∀(ad:Nat->Addr) (B':aB) (σ':St) (H':Hp) (μ':Mu) (x:T) (cls:Value) (d:Option Addr) (e:Addr),Rl F ad B' σ' H' μ'->Fr B H B' H'->XH H' e x cls d->¬ B' e->(∀ a,d=some a->¬ B' a)->Xt x μ'->Dx cls d e σ' H'
theorem kr.step{Dx:Cv}{Xt:Xw}(h:kr F B H Dx Xt)(f:Fr B H B1 H1):kr F B1 H1 Dx Xt:=fun ad B' σ' H' μ' x cls d e l f' tr n1 n2 q=>h ad B' σ' H' μ' x cls d e l (f.trans f') tr n1 n2 q
noncomputable def RX(K:Ih)(Dx:Cv)(te:TE)(ux:UX):Prop:=∀(F:Fx) (ad:Nat->Addr) (B:aB) (σ:St) (H:Hp) (μ:Mu) (Q:VK) (Qt:R->Mu->Prop) (Xt:Xw),F.K=K->Rl F ad B σ H μ->ux μ Qt Xt ->
 (∀ v H' r μ',Vr F ad B σ H' μ' v r->Fr B H (Bv B v r) H'->Kp μ μ'->Qt r μ'->Q v H')->kr F B H Dx Xt->te σ H Q
noncomputable def El(K:Ih)(Dx:Cv)(ts:TS)(us:jw):Prop:=∀(F:Fx) (D:Ends) (E:Ed) (Xt:Xw) (ad:Nat->Addr) (B:aB) (σ:St) (H:Hp) (μ:Mu),F.K=K->Rl F ad B σ H μ->us E Xt μ->kL F B H D E->kr F B H Dx Xt->ts D σ H
structure YX (X:Cx) (e:Expr) (u:UX):Prop where
 ex:∃ t,QE X e t/\RX X.K (jL X) t u
structure pP (X:Cx) (st:Stmt) (u:jw):Prop where
 ex:∃ t,QS X st t/\El X.K (jL X) t u
structure xa (X:Cx) (sts:List Stmt) (u:jw):Prop where
 ex:∃ t,QB X sts t/\El X.K (jL X) t u
namespace Y
section
variable {X:Cx} {a b c e o tg:Expr} {es rest:List Expr} {ua ub uc ue uo:UE} {uA uB:UT} {us:UA} {pos pos' p p2 p3:Pos} {x:Str} {st:Stmt} {sts xs ys:List Stmt} {u w:US} {ux:UX} {uxs wxs:jw}
theorem zO(h:YS X st u):pP X st (fun E _ μ=>u E μ):=by
 obtain⟨t,q,r⟩:=h;exact⟨t,q,fun F D E Xt ad B σ H μ hF l q h _=>r F D E ad B σ H μ hF l q h⟩
theorem C9(h:xa X sts uxs):YB X sts (fun E μ=>uxs E (fun _ _=>False) μ):=by
 obtain⟨t,q,r⟩:=h;exact⟨t,q,fun F D E ad B σ H μ hF l q h=>r F D E _ ad B σ H μ hF l q h fun _ _ _ _ _ _ _ _ _ _ _ _ _ _ z=>z.elim⟩
noncomputable def BY(u w:jw):jw:=fun E Xt μ=>u {E with nx:=w E Xt} Xt μ
theorem bL(h:pP X st uxs):xa X [st] uxs:=by obtain⟨t,q,r⟩:=h;exact⟨t,Z.aE q,r⟩
theorem qN:xa X [] (fun E _ μ=>E.nx μ):=⟨_,Z.bM,fun F D E Xt ad B σ H μ hK l q h _=>h.nx ad B σ H μ l Fr.refl q⟩
theorem fM(h:pP X st uxs)(h2:xa X sts wxs):xa X (st::sts) (BY uxs wxs):=by
 obtain⟨t,q,r⟩:=h;obtain⟨t',q',r'⟩:=h2;exact⟨_,Z.ao q q',fun F D E Xt ad B σ H μ hK l q h hX=>r F {D with nx:=t' D} {E with nx:=wxs E Xt} Xt ad B σ H μ hK l q
  ⟨fun ad1 B1 σ1 H1 μ1 l1 f1 q1=>r' F D E Xt ad1 B1 σ1 H1 μ1 hK l1 q1 (h.step f1) (hX.step f1),h.rt,h.bk,h.ct⟩ hX⟩
noncomputable def ng(ux:UX):jw:=fun E Xt μ=>ux μ (fun _ μ'=>E.nx μ') Xt
theorem gb(he:YX X e ux)(hs:autoParam (Z.za e=true) ℜ0):pP X (.Expr e pos) (ng ux):=by
 obtain⟨t,q,r⟩:=he;exact⟨_,Z.expr q hs,fun F D E Xt ad B σ H μ hK l q h hX=>r F ad B σ H μ _ _ Xt hK l q (fun v H' rr μ' v1 f _ q1=>h.nx ad B σ H' μ' v1.rl f.d q1) hX⟩
noncomputable def C6(c:UT)(u w:jw):jw:=fun E Xt μ=>c μ fun b μ'=>if b=true then u E Xt μ' else w E Xt μ'
theorem i8(hc:YT X c uA)(ha:xa X xs uxs)(hb:xa X ys wxs):pP X (.If c xs ys pos) (C6 uA uxs wxs):=by
 obtain⟨t,q,r⟩:=hc;obtain⟨t1,q1,r1⟩:=ha;obtain⟨t2,q2,r2⟩:=hb;refine⟨_,Z.fh q q1 q2,fun F D E Xt ad B σ H μ hK l q h hX=>r F ad B σ H μ _ _ hK l q fun b H' μ' l' f k1 qq=>?_⟩
 cases b with
 |true=>exact r1 F D E Xt ad B σ H' μ' hK l' (by simpa using qq) (h.step f) (hX.step f)
 |false=>exact r2 F D E Xt ad B σ H' μ' hK l' (by simpa using qq) (h.step f) (hX.step f)
end
end Y
abbrev zJ:=List T->(R->List T->Prop)->(T->Prop)->Prop
noncomputable def DF(K:Ih)(md:List Bool)(tsp:zJ):Sp:=fun vs H Q E=>∃ Et:T->Prop,spT K md (fun args Qt=>tsp args Qt Et) vs H Q E/\∀ x cls d e H',Et x->(∀ b o,H b=some o->b∉iS md vs->H' b=some o)->XH H' e x cls d->E cls (some e) H'
theorem ko:∀{md:List Bool} {vs:List V},md.all (fun b=>!b)=true->iS md vs=[]
 |[],_,_=>rfl
 |true::_,_,h=>by simp at h
 |false::md,[],_=>rfl
 |false::md,v::vs,h=>ko (md:=md) (vs:=vs) (by simpa using h)
namespace Y
theorem vc{md:List Bool}{E:XK}{Q:VK}{rs:List R}(hF:F.K=K)(l1:Rl F ad B σ H1 μ1)(ps:Paired (Hv F ad B H1 μ1) vs rs)(ea:sU μ1 md rs=some args)
  (nd:(eR md rs).Nodup) (dj:∀ j∈eR md rs,j∉gm md rs) (q1:tsp args fun r outs=>(gm md rs=[]\/(fm r=true/\outs.all gg=true))/\Qt r (putAll (eR md rs) outs μ1))
  (k:∀ v H' r μ',Vr F ad B σ H' μ' v r->Fr B H1 (Bv B v r) H'->Kp μ1 μ'->Qt r μ'->Q v H'):spT K md tsp vs H1 Q E:=by
 have hro:=gP (md:=md) ps;obtain⟨ag,eb,hb⟩:=wF l1 (gm md rs) ps ea (fun j h=>h) dj hro;rw[hF] at ag;have inj:∀{js:List Nat},js.Nodup->(∀ j∈js,∃(s:Sl) (c:T),μ1[j]?=some s/\s.box=some c)->(js.map ad).Nodup:=fun {js}=>by
  induction js with
  |nil=>exact fun _ _=>Fs
  |cons j js ih =>
   intro nd hb;rw[EY] at nd;rw[Fy,EY];refine⟨fun hm=>?_,ih nd.2 fun i hi=>hb i (ED _ hi)⟩;obtain⟨i,hi,z⟩:=FK.mp hm;obtain⟨s1,c1,e1,b1⟩:=hb j EN;obtain⟨s2,c2,e2,b2⟩:=hb i (ED _ hi);exact nd.1 (l1.inj i j s2 s1 c2 c1 e2 e1 b2 b1 z ▸ hi)
 refine⟨_,args,_,ag,fun b z=>l1.aU b z.1,by rw[eb];exact inj nd hb,q1,fun v H2 r outs hq keep res=>?_⟩
 rw[eb] at keep res;obtain⟨hfl,hq⟩:=hq;have nro:∀{b:Addr},gm md rs=[]->B b->B b/\∀ j∈gm md rs,b≠ad j:=fun {b} z h=>⟨h,fun j hj=>by rw[z] at hj;cases hj⟩
 cases r with
 |br i=>exact res.elim
 |tr t =>
  obtain⟨rv,po⟩:=res;have rv':Rep F.K H2 B v t:=by
   rw[hF];rcases hfl with z|z
   ·exact rv.fr (Fr.less fun b h=>nro z h)
   ·exact rv.flat z.1
  have po':Paired (Bx F.K H2 B) ((eR md rs).map ad) outs:=by
   rw[hF];rcases hfl with z|z
   ·exact Paired.kN po fun a c h=>h.of rfl (Fr.less fun b h=>nro z h)
   ·exact Paired.k_ po z.2
  obtain⟨l2,k2,f2⟩:=l1.call hb nd keep (fun _ z=>z) (fun _ _ _ z=>z) (fun b z n=>absurd z n) po';exact k v H2 (.tr t) _ ⟨l2,rv'⟩ f2 k2 hq
 |fr c =>
  obtain⟨a,rfl,ha0,nBa,x,po⟩:=res;have nBa':¬ B a:=l1.kg ha0;have sub:gm md rs=[]->∀ b,more B a b->more (fun b=>B b/\∀ j∈gm md rs,b≠ad j) a b:=fun z b h=>h.imp id fun h=>nro z h;have x':Bx F.K H2 (more B a) a c:=by
   rw[hF];rcases hfl with z|z
   ·exact x.of rfl (Fr.less (sub z))
   ·exact x.flat z.1
  have po':Paired (Bx F.K H2 (more B a)) ((eR md rs).map ad) outs:=by
   rw[hF];rcases hfl with z|z
   ·exact Paired.kN po fun a' c h=>h.of rfl (Fr.less (sub z))
   ·exact Paired.k_ po z.2
  have po2:Paired (Bx F.K H2 B) ((eR md rs).map ad) outs:=Paired.kN po' fun a' c h=>h.of rfl (Fr.less fun _ z=>.inr z);obtain⟨l2,k2,f2⟩:=l1.call hb nd keep (fun _ z=>z) (fun _ _ _ z=>z) (fun b z n=>absurd z n) po2;obtain⟨l3,_,f3⟩:=l1.call (B2:=more B a) hb nd keep (fun _ z=>.inr z) (fun b o e n z=>z.elim (fun z=>by rw[z,ha0] at e;cases e) n) (fun b z n=>z.elim (fun z=>by rw[z];exact x'.aU) fun z=>absurd z n) po'
  exact k _ H2 (.fr c) _ ⟨l2,a,rfl,nBa',l1.qK ha0,l3,x'⟩ f3 k2 hq
noncomputable def jZ(C:Addr)(us:UA):jw:=fun _ Xt μ=>us μ fun rs μ'=>rs.length<=10/\Xt (.exc (.ref C) none) μ'
theorem lG{e:Expr}{us:UA}(hg:Gl X x)(hm:X.mg x=some (.ref C))(hk:fH X.K C)(hc:X.calm=true)(hex:X.ex=[])(ha:YA X (e::es) us)(h1:autoParam (cN e=true) ℜ0)(h2:autoParam (es.all cN=true) ℜ0)(hdb:autoParam ((x ==("__debug__":Str))=false) ℜ1):
  pP X (.Raise (some (.Call (.Name x np) (e::es) [] cpos)) none pos) (jZ C us):=by
 obtain⟨t,q,r⟩:=ha;refine⟨_,⟨rZ hg hm hk hc hex q.h h1 h2 hdb⟩,fun F D E Xt ad B σ H μ hF l q h hX=>?_⟩;refine r F ad B σ H μ _ _ hF l q fun vs H1 rs μ1 l1 ps f1 k1 q1=>⟨by rw[ps.length];exact ES q1.1 (by decide),fun ea hn=>?_⟩
 have sm:bK H1 (upd H1 ea (.ext (eQ ea (.ref C) none))):=bK.new hn;exact hX ad B σ _ μ1 (.exc (.ref C) none) (.ref C) none ea (l1.same sm) (f1.trans (Fr.same sm)) ⟨ae,rfl,rfl⟩ (l1.kg hn) (fun a z=>by cases z) q1.2
end Y
abbrev qJ(X:Cx)(pins:List (Addr×Obj))(E:Value->Shared->Prop):Cx:={X with xe:=E,pn:=X.pn++pins}
abbrev yh(X:Cx)(e:Addr):Cx:={X with A:=X.A.mark (some (.ref e)),calm:=false,xe:=fun _ _=>False}
section
variable {X:Cx} {pins pins':List (Addr×Obj)} {σ:St} {H:Hp} {s:Shared} {E:Value->Shared->Prop} {e:Addr}
theorem Inv.B6(I:Inv X pins σ H s):Inv (qJ X pins E) [] σ H s:=
 ⟨⟨I.ok.mod,I.ok.kind,I.ok.glob,I.ok.blt,I.ok.above,I.ok.inj,I.ok.has,I.ok.uP,I.ok.hd,I.ok.frames,I.ok.wK,I.ok.zT,I.ok.bs,I.ok.pw,I.ok.jC,I.ok.ku,I.ok.e8,I.ok.rq,I.ok.tabs⟩,
  I.os,I.bare,I.base,I.loc,I.cell,I.free,I.bH,fun p hp=>I.pin p (by simpa using hp),I.aM,I.len⟩
theorem Inv.gc(I:Inv (qJ X pins E) pins' σ H s):Inv X pins σ H s:=
 ⟨⟨I.ok.mod,I.ok.kind,I.ok.glob,I.ok.blt,I.ok.above,I.ok.inj,I.ok.has,I.ok.uP,I.ok.hd,I.ok.frames,I.ok.wK,I.ok.zT,I.ok.bs,I.ok.pw,I.ok.jC,I.ok.ku,I.ok.e8,I.ok.rq,I.ok.tabs⟩,
  I.os,I.bare,I.base,I.loc,I.cell,I.free,I.bH,fun p hp=>I.pin p (G_ _ hp),I.aM,I.len⟩
theorem Inv.A5(I:Inv X pins σ H s):Inv (yh X e) pins σ H s:=
 ⟨⟨I.ok.mod,I.ok.kind,I.ok.glob,I.ok.blt,I.ok.above,I.ok.inj,I.ok.has,I.ok.uP,(fun z=>nomatch z),I.ok.frames,I.ok.wK,I.ok.zT,I.ok.bs,I.ok.pw,I.ok.jC,I.ok.ku,I.ok.e8,I.ok.rq,I.ok.tabs⟩,
  I.os,I.bare,I.base,I.loc,I.cell,I.free,I.bH,I.pin,I.aM,I.len⟩
theorem SP.gc{f:Flow}(h:SP (qJ X pins E) pins' D f s):SP X pins D f s:=by
 cases f with
 |next=>obtain⟨σ',H',I,q⟩:=h;exact⟨σ',H',I.gc,q⟩
 |brk=>obtain⟨σ',H',I,q⟩:=h;exact⟨σ',H',I.gc,q⟩
 |cont=>obtain⟨σ',H',I,q⟩:=h;exact⟨σ',H',I.gc,q⟩
 |ret u=>obtain⟨v,σ',H',I,r,q⟩:=h;exact⟨v,σ',H',I.gc,r,q⟩
theorem SP.Dv{f:Flow}(hd:X.A.handled=none)(hc:X.calm=true)(h:SP (yh X e) pins D f s):SP X pins D f s:=by
 have go:∀{σ':St} {H':Hp} {s':Shared},Inv (yh X e) pins σ' H' s'->Inv X pins σ' H' s':=fun I =>
  ⟨⟨I.ok.mod,I.ok.kind,I.ok.glob,I.ok.blt,I.ok.above,I.ok.inj,I.ok.has,I.ok.uP,fun _=>hd,I.ok.frames,I.ok.wK,I.ok.zT,I.ok.bs,I.ok.pw,I.ok.jC,I.ok.ku,I.ok.e8,I.ok.rq,I.ok.tabs⟩,
   I.os,I.bare,I.base,I.loc,I.cell,I.free,I.bH,I.pin,I.aM,I.len⟩
 cases f with
 |next=>obtain⟨σ',H',I,q⟩:=h;exact⟨σ',H',go I,q⟩
 |brk=>obtain⟨σ',H',I,q⟩:=h;exact⟨σ',H',go I,q⟩
 |cont=>obtain⟨σ',H',I,q⟩:=h;exact⟨σ',H',go I,q⟩
 |ret u=>obtain⟨v,σ',H',I,r,q⟩:=h;exact⟨v,σ',H',go I,r,q⟩
end
abbrev UJ:=Mu->(Mu->Prop)->Prop
structure YJ (X:Cx) (vs:List Expr) (u:UJ):Prop where
 run:∀(F:Fx) (ad:Nat->Addr) (B:aB) (σ:St) (H:Hp) (μ:Mu) (Qt:Mu->Prop) (pins:List (Addr×Obj)) (s:Shared) (acc:Str) (k:Nat) (R:Str->Shared->Prop),F.K=X.K->Rl F ad B σ H μ->u μ Qt->Inv X pins σ H s->acc.length<=2000*k->k+vs.length<=20 ->
  (∀ H' μ' s' (out:Str),Rl F ad B σ H' μ'->Fr B H B H'->Kp μ μ'->Qt μ'->Inv X pins σ H' s'->out.length<=40000->R out s')->Joins (model X.prog X.w) X.A X.xe (evalEach vs X.env) acc R s
theorem gX(a b:Str):(a++b).length=a.length+b.length:=Array.size_append
theorem jt(h:n<=40000):n<=sizeLine:=ES h (by decide)
namespace Y
section
variable {X:Cx} {e:Expr} {vs:List Expr} {ue:UE} {u:UJ} {pos p:Pos}
theorem xb:YJ X [] (fun μ Q=>Q μ):=⟨fun F ad B σ H μ Qt pins s acc k R hF l q I ha hk h=>h H μ s acc l Fr.refl (Kp.refl μ) q I (by simp at hk;lia)⟩
theorem jP{c:Str}{j:Nat}(h:YJ X vs u)(hc:autoParam (c.length<=2000) ℜ1)(he:autoParam (evalEach (.Constant (.str c) j p::vs) X.env=eval (.Constant (.str c) j p) X.env::evalEach vs X.env) ℜ0):YJ X (.Constant (.str c) j p::vs) u:=by
 refine⟨fun F ad B σ H μ Qt pins s acc k R hF l q I ha hk hR=>?_⟩;rw[he];refine bg ((Z.str (X:=X) (i:=c) (j:=j) (pos:=p)).h pins s σ H (fun v H1=>v=.str c/\H1=H) I ⟨rfl,rfl⟩) fun v s1 hq1=>?_;obtain⟨v',H1,I1,r1,e1,e2⟩:=hq1;subst e1;subst e2;obtain⟨t,rfl⟩:=r1;have hl:(acc++c).length<=2000*(k+1):=by rw[gX];lia
 rw[E_] at hk;exact⟨c,t,rfl,jt (by lia),h.run F ad B σ H1 μ Qt pins s1 (acc++c) (k+1) R hF l q I1 hl (by lia) hR⟩
noncomputable def Cy(ue:UE)(u:UJ):UJ:=fun μ Q=>ue μ fun r μ'=>match r with
 |.tr (.int i)=>i.natAbs<2^1900/\u μ' Q
 |_=>False
theorem ot(he:YE X e ue)(h:YJ X vs u)(hev:autoParam (evalEach (.FormattedValue e (-1) none p::vs) X.env=eval (.FormattedValue e (-1) none p) X.env::evalEach vs X.env) ℜ0):YJ X (.FormattedValue e (-1) none p::vs) (Cy ue u):=by
 obtain⟨t,qe,r⟩:=he;refine⟨fun F ad B σ H μ Qt pins s acc k R hF l q I ha hk hR=>?_⟩;rw[hev];refine wpAny_FormattedValue_plain ?_;refine bg (qe.h pins s σ H (fun v H1=>∃ r1 μ1,Vr F ad B σ H1 μ1 v r1/\Fr B H (Bv B v r1) H1/\Kp μ μ1/\(match r1 with
  |.tr (.int i)=>i.natAbs<2^1900/\u μ1 Qt
  |_=>False)) I (r F ad B σ H μ _ _ hF l q fun v H1 r1 μ1 w f k1 q1=>⟨r1,μ1,w,f,k1,q1⟩)) fun v s1 ⟨v',H1,I1,rv,r1,μ1,w,f,k1,q1⟩=>?_
 split at q1
 ·rename_i i;obtain⟨l1,rp⟩:=w;obtain rfl:=Rep.bf rp;obtain⟨t',rfl⟩:=rv;obtain⟨hi,q1⟩:=q1;have hlog:i.natAbs.log2<1920:=by
   by_cases z:i.natAbs=0
   ·rw[z];decide
   ·exact (Nat.log2_lt z).mpr (EO hi (GF (by decide) (by decide)))
  have hlen:(Str.ofString (toString i)).length<=1921:=by
   have:=int_text_length_le (k:=1920) (by decide) hlog
   rw[PySem.ofString_length];exact this
  refine wpAny_formatField_int hlog ⟨_,_,rfl,?_,?_⟩
  ·rw[gX];exact jt (by rw[E_] at hk;lia)
  ·rw[E_] at hk;exact h.run F ad B σ H1 μ1 Qt pins _ (acc++Str.ofString (toString i)) (k+1) R hF l1 q1 (I1.tok _) (by rw[gX];lia) (by lia) fun H' μ' s' out l' f' k'=>hR H' μ' s' out l' (f.trans f') (k1.trans k')
 ·exact q1.elim
noncomputable def CB(u:UJ):UE:=fun μ Q=>u μ fun μ'=>∀ z:Str,z.length<=40000->Q (.tr (.str z)) μ'
theorem yc{v1 v2:Expr}{rest:List Expr}(h:YJ X (v1::v2::rest) u)(hn:autoParam ((v1::v2::rest).length<=20) ℜ1):YE X (.JoinedStr (v1::v2::rest) pos) (CB u):=by
 refine⟨fun σ H Q=>∀ pins s,Inv X pins σ H s->wpAny (model X.prog X.w) X.A (eval (.JoinedStr (v1::v2::rest) pos) X.env) (EP X pins σ Q) X.xe s,⟨fun pins s σ H Q I h=>h pins s I⟩,?_⟩;intro F ad B σ H μ Q Qt hF l q k pins s I;refine wpAny_JoinedStr (h.run F ad B σ H μ _ pins s Str.empty 0 _ hF l q I (by decide) (by rw[Nat.zero_add];exact hn) fun H' μ' s' out l' f' k' q' I' ho=>⟨jt ho,?_⟩)
 exact⟨.str out,H',I'.tok _,⟨_,rfl⟩,k _ H' (.tr (.str out)) μ' ⟨l',.str out⟩ f' k' (q' out ho)⟩
end
end Y
namespace A
theorem Cy(ue:UE)(u:UJ)(μ:Mu)(Q:Mu->Prop):Y.Cy ue u μ Q=ue μ fun r μ'=>match r with
 |.tr (.int i)=>i.natAbs<2^1900/\u μ' Q
 |_=>False:=rfl
theorem CB(u:UJ)(μ:Mu)(Q:R->Mu->Prop):Y.CB u μ Q=u μ fun μ'=>∀ z:Str,z.length<=40000->Q (.tr (.str z)) μ':=rfl
theorem ng(ux:UX)(E:Ed)(Xt:Xw)(μ:Mu):Y.ng ux E Xt μ=ux μ (fun _ μ'=>E.nx μ') Xt:=rfl
theorem C6(c:UT)(u w:jw)(E:Ed)(Xt:Xw)(μ:Mu):Y.C6 c u w E Xt μ=c μ fun b μ'=>if b=true then u E Xt μ' else w E Xt μ':=rfl
theorem jZ(C:Addr)(us:UA)(E:Ed)(Xt:Xw)(μ:Mu):Y.jZ C us E Xt μ=us μ fun rs μ'=>rs.length<=10/\Xt (.exc (.ref C) none) μ':=rfl
end A
theorem oP{u w:jw}{E:Ed}{Xt:Xw}(h:∀ N,N=w E Xt->u {E with nx:=N} Xt μ):Y.BY u w E Xt μ:=h _ rfl
namespace Y
noncomputable def g_(t:T)(xs:List T):Bool:=xs.any fun y=>Dk y t
theorem nS{x:V}{t:T}(h:Rep K H B x t)(f:aD t=true):∀{ys:List V} {us:List T},ak K H B ys us->us.all aD=true->b9 x=true/\ys.all b9=true/\jY x ys=g_ t us
 |_,_,.nil,_=>by
  refine⟨?_,rfl,rfl⟩
  cases h<;>first|rfl|cases f
 |_,_,.cons h2 r,f2=>by
  rw[FQ,FC] at f2;obtain⟨a1,a2,a3⟩:=nS h f r f2.2;obtain⟨b1,b2,b3⟩:=wj h2 h f2.1 f;refine⟨a1,by rw[FQ,b1,a2];rfl,?_⟩
  unfold jY g_ at a3 ⊢;rw[Hr,Hr,b3,a3]
noncomputable def Ck(K:Ih)(neg:Bool):R2:=fun x y H Q=>DV K neg x y H Q\/∃ i j,x=.str i/\y=.str j/\Q (.bl (if neg then !(!(Builtin.Str.occurrences j i 0 j.length 1).isEmpty) else !(Builtin.Str.occurrences j i 0 j.length 1).isEmpty)) H
theorem lB(K:Ih)(hK:X.K=K):bZ X (compareOp .In) (Ck K false):=by subst hK;exact iX.or iI
noncomputable def Ej(i j:Str):Bool:=!(Builtin.Str.occurrences j i 0 j.length 1).isEmpty
noncomputable def CK(neg:Bool):T->T->Mu->(R->Mu->Prop)->Prop:=fun t u μ Q=>match u with
 |.tup xs=>aD t=true/\xs.all aD=true/\Q (.tr (.bl (if neg then !g_ t xs else g_ t xs))) μ
 |.lst xs=>aD t=true/\xs.all aD=true/\Q (.tr (.bl (if neg then !g_ t xs else g_ t xs))) μ
 |.dW xs=>aD t=true/\xs.all aD=true/\Q (.tr (.bl (if neg then !g_ t xs else g_ t xs))) μ
 |.str j=>(match t with|.str i=>Q (.tr (.bl (if neg then !Ej i j else Ej i j))) μ|_=>False)
 |_=>False
theorem Vw.fm{v:V}{t:T}(h:Vw K H B v t)(f:aD t=true):Rep K H B v t:=by
 cases h with
 |ay=>exact .ay
 |bl b=>exact .bl b
 |int i=>exact .int i
 |str x=>exact .str x
 |tup=>cases f
 |dW=>cases f
 |lst=>cases f
 |eu=>cases f
 |jQ=>cases f
 |kf=>cases f
 |exc=>cases f
 |wm=>cases f
 |il=>cases f
 |adr=>cases f
 |ins=>cases f
theorem rK{neg:Bool}:ji K (Ck K neg) (oj (CK neg)):=dR fun F ad B σ H μ Q Qt x y t u hK l v1 v2 q k=>by
 subst hK;unfold CK at q
 split at q
 ·obtain⟨f1,f2,q⟩:=q;obtain⟨_,_,rfl,ha,ra⟩:=Vw.tupI v2;obtain⟨a1,a2,a3⟩:=nS (Vw.fm v1 f1) f1 ra f2;exact .inl ⟨_,_,rfl,.inr (b6.of ha),a1,a2,by rw[a3];exact k _ H _ (Vr.flat l (.bl _)) Fr.refl q⟩
 ·obtain⟨f1,f2,q⟩:=q;obtain⟨_,_,rfl,ha,ra⟩:=Vw.cW v2;obtain⟨a1,a2,a3⟩:=nS (Vw.fm v1 f1) f1 ra f2;exact .inl ⟨_,_,rfl,.inl (a_.of ha),a1,a2,by rw[a3];exact k _ H _ (Vr.flat l (.bl _)) Fr.refl q⟩
 ·obtain⟨f1,f2,q⟩:=q;obtain⟨_,_,rfl,ha,ra⟩:=Vw.om v2;obtain⟨a1,a2,a3⟩:=nS (Vw.fm v1 f1) f1 ra f2;exact .inl ⟨_,_,rfl,.inr (.inr ha),a1,a2,by rw[a3];exact k _ H _ (Vr.flat l (.bl _)) Fr.refl q⟩
 ·split at q
  ·obtain rfl:=Vw.e9 v1;obtain rfl:=Vw.e9 v2;exact .inr ⟨_,_,rfl,rfl,k _ H _ (Vr.flat l (.bl _)) Fr.refl q⟩
  ·exact q.elim
 ·exact q.elim
end Y
namespace A
theorem DY(neg:Bool)(t:T)(xs:List T)(μ:Mu)(Q:R->Mu->Prop):Y.CK neg t (.tup xs) μ Q=(aD t=true/\xs.all aD=true/\Q (.tr (.bl (if neg then !Y.g_ t xs else Y.g_ t xs))) μ):=rfl
theorem CL(neg:Bool)(t:T)(xs:List T)(μ:Mu)(Q:R->Mu->Prop):Y.CK neg t (.dW xs) μ Q=(aD t=true/\xs.all aD=true/\Q (.tr (.bl (if neg then !Y.g_ t xs else Y.g_ t xs))) μ):=rfl
end A
structure my (K:Ih) (C:Addr):Prop where
 ga:PySem.W.findIn K (.ref C) "__getattribute__"=some (some (.builtin "BaseException.__getattribute__"))
 gt:PySem.W.findIn K (.ref C) "__getattr__"=some none
 ck:PySem.W.findIn K (.ref C) "__class__"=some (some (.builtin "object.__class__"))
 sp:PySem.W.specialIn K (.builtin "object.__class__") "__get__"=some (some (.builtin "getset_descriptor.__get__"))
 tk:PySem.W.takesIn K (.builtin "object.__class__")=some true
 mo:PySem.W.mroIn K C (.type "object")=some true
 mb:PySem.W.mroIn K C (.type "BaseException")=some true
section
variable {prog:Program} {w:World} {A:Around} {E:Value->Shared->Prop} {s:Shared} {K:Ih} {x C:Addr} {ox:Obj}
theorem jb{tk:Tok}{Q:Fin->Shared->Prop}(KX:my K C)(X:K.In s.heap)(I:PySem.W.InstAt s.heap x ox C none)(h:Q (.done (.ret (.ref C))) s):wpAny (model prog w) A (Builtin.«object.__getattribute__» ⟨[.ref x,.str "__class__" tk],[]⟩) Q E s:=by
 obtain⟨cd,hcd⟩:∃ cd,PySem.W.clsIn K C=some cd:=by
  have:=KX.mo;unfold PySem.W.mroIn at this
  cases q:PySem.W.clsIn K C with
  |none=>rw[q] at this;cases this
  |some cd=>exact⟨cd,rfl⟩
 have hf:PySem.W.findObj K C none "__class__"=some (.bind (.builtin "getset_descriptor.__get__") (.builtin "object.__class__")):=by
  unfold PySem.W.findObj;rw[hcd,HA,KX.ck,HA];simp[KX.sp,KX.tk]
 have L0:=I.type (M:=model prog w);have L1:=PySem.W.looks_find (M:=model prog w) X I hf;obtain⟨hh,g,d,t,os⟩:=s;unfold Builtin.«object.__getattribute__»
 repeat (any_goals (first|assumption|with_reducible refine EA (L0.at ?_)|with_reducible refine EA (L1.at ?_)|wp_step))
 exact PySem.W.class_get X I KX.mo (EL h)
theorem pG{Q:Option Value->Shared->Prop}(KX:my K C)(X:K.In s.heap)(I:PySem.W.InstAt s.heap x ox C none)(h:Q (some (.ref C)) {s with toks:=s.toks+1}):wpAny (model prog w) A (getAttr? (.ref x) "__class__") Q E s:=by
 have L0:=I.type (M:=model prog w);have L1:=PySem.W.looks_findIn (M:=model prog w) X KX.ga;have L2:=PySem.W.looks_findIn (M:=model prog w) X KX.gt;have LB:PySem.W.Looks (model prog w) s.heap (isInstance (.ref x) (.type "BaseException")) true:=L0.andThen (PySem.W.looks_mroIn (M:=model prog w) X KX.mb);have fb:=PySem.F.attr_ValueError.ga.bind (.ref x);have n1:(onTheHeap (Value.ref C) && Value.builtin "BaseException.__getattribute__" == Value.builtin "object.__getattribute__")=false:=by
  rw[show (Value.builtin "BaseException.__getattribute__" == Value.builtin "object.__getattribute__")=false from by decide +kernel];rfl
 obtain⟨hh,g,d,t,os⟩:=s;unfold getAttr? getAttrBy? getAttrBy;refine wpAny_bind (wpAny_mkText (wpAny_bind (wpAny_attempt (wpAny_holding (wpAny_bind (L0.at (wpAny_bind (L1.at ?_))))))));dsimp only;rw[if_neg (by rw[n1];decide)]
 unfold getAttrByItsOwn hookBefore;rw[EI (show onTheHeap (Value.ref C)=true from rfl)];refine EA (L2.at (EA (H_ (FE ?_))));unfold callGetattribute boundAndCalled;rw[EB (by decide),fb]
 refine EA (EL (HV ?_));refine codeAny_call_builtin PySem.F.attr_ValueError.ga.plain PySem.F.entry_bexc_ga ?_;have hk:builtinKind "BaseException.__getattribute__"=some .slot:=by decide +kernel
 have hsp:splitId "BaseException.__getattribute__"=some ("BaseException","__getattribute__"):=by decide +kernel
 have ha:=PySem.F.args_bexc_ga (.ref x) (.str "__class__" t);simp only[checkBuiltinCall,hk,hsp];show wpAny _ _ (isInstance (.ref x) (.type "BaseException") >>= _) _ _ _;refine EA (LB.at ?_);rw[EB (by decide)]
 unfold argsOk at ha
 cases q:Manifest.signature? "BaseException.__getattribute__" with
 |none =>
  refine EL (jb (s:=⟨hh,g,d,t+1,os⟩) KX X I ?_);exact EL (EL h)
 |some sg =>
  rw[q] at ha;have ha':Bind.checkArgs "BaseException.__getattribute__" sg ⟨[.ref x,.str "__class__" t],[]⟩=pure ():=ha;show wpAny _ _ (Bind.checkArgs "BaseException.__getattribute__" sg ⟨[.ref x,.str "__class__" t],[]⟩) _ _ _;rw[ha'];refine EL (jb (s:=⟨hh,g,d,t+1,os⟩) KX X I ?_);exact EL (EL h)
end
theorem eQ.inst{x:Addr}(p:eQ x (.ref C) none h):∃ ox,PySem.W.InstAt h x ox C none:=by
 obtain⟨o,vs,h1,h2,h3,h4⟩:=p;refine⟨o,h1,h2,by unfold PySem.W.notCls;rw[h4],?_⟩
 rw[h3];trivial
theorem iz{v:Value}(e:PySem.W.mroIn K C v=some b):∃ c d cd sl,K.lookup C=some ⟨c,d,.cls cd,sl⟩:=by
 unfold PySem.W.mroIn PySem.W.clsIn at e
 split at e
 ·rename_i c d cd sl q;exact⟨c,d,cd,sl,q⟩
 ·cases e
theorem lq{x:Addr}(KX:my K C):PySem.W.KitX K (.ref x) (.ref C) (eQ x (.ref C) none) where
 ty:=fun M h _ p=>by
  obtain⟨o,I⟩:=p.inst;exact I.type
 it:=fun M h X _=>by
  obtain⟨c,d,cd,sl,q⟩:=iz KX.mo;intro A' Q' E' s' k z;unfold isType loadHead;exact EA (wpAny_loadPart (k _ _ (X _ _ q)) (EL z))
 ne:=fun h tp dd ah n sl X htp=>by
  obtain⟨c,d,cd,sl',q⟩:=iz KX.mo;refine Bool.eq_false_iff.mpr fun z=>?_;have e:C=tp:=Value.ref.inj (GD.mp z);subst e;have:=(X _ _ q).symm.trans htp;cases this
 ca:=fun X p k=>by
  obtain⟨o,I⟩:=p.inst;exact pG KX X I k
noncomputable def C5(K:Ih)(H:Hp)(x:V)(t:Value):Prop:=(x=.ay/\t=.type "NoneType")\/∃ a C,x=.ref a/\t=.ref C/\H a=some (.ext (eQ a (.ref C) none))/\my K C
noncomputable def Ar(K:Ih)(y:V)(c:Value):List V->Hp->VK->Prop:=fun xs H Q=>∃ x t b,xs=[x,y]/\C5 K H x t/\PySem.W.kitOne K t c=some b/\Q (.bl b) H
noncomputable def Bn(K:Ih)(ds:List Addr):List V->Hp->VK->Prop:=fun xs H Q=>∃ x t b p,xs=[x,.ref p]/\H p=some (.tup (ds.map V.ref))/\C5 K H x t/\PySem.W.kitAny K t (ds.map Value.ref)=some b/\Q (.bl b) H
theorem iM:∀{ds:List Addr} {us:List Value},Vals (ds.map V.ref) us->us=ds.map Value.ref
 |[],_,.nil=>rfl
 |d::ds,u::us,.cons h r=>by
  have h':u=Value.ref d:=h;rw[h',iM r];rfl
section
variable {X:Cx}
theorem ou{y:V}{c:Value}(hy:∀ u,RelV y u->u=c):aP X (.builtin "isinstance") (Ar X.K y c):=by
 rintro pins s σ H xs us Q I r ⟨x,t,b,rfl,ty,e,q⟩;obtain⟨u,w',rfl,r1,r2⟩:=vals2 r
 cases hy _ r2
 rcases ty with ⟨rfl,rfl⟩|⟨a,C,rfl,rfl,ha,KX⟩
 ·cases (show u=Value.none from r1)
  exact PySem.W.kia_one PySem.W.kitx_none I.dn True.intro e (fun z=>nomatch z) fun tk=>⟨.bl b,H,I.tok _,rfl,q⟩
 ·cases (show u=Value.ref a from r1)
  exact PySem.W.kia_one (lq KX) I.dn (show eQ a (.ref C) none s.heap from (I.aM _ _ ha).1) e (fun z=>nomatch z) fun tk=>⟨.bl b,H,I.tok _,rfl,q⟩
theorem oA{ds:List Addr}:aP X (.builtin "isinstance") (Bn X.K ds):=by
 rintro pins s σ H xs us Q I r ⟨x,t,b,p,rfl,hp,ty,e,q⟩;obtain⟨u,w',rfl,r1,r2⟩:=vals2 r
 cases (show w'=Value.ref p from r2)
 obtain⟨_,ah,hv,⟨⟨oc,od,oda,osl⟩,h1,h2,n,h3,_⟩⟩:=(show bu X.prog X.w H s.heap p (.tup (ds.map V.ref)) from I.aM _ _ hp);cases h2;cases h3
 cases iM hv
 rcases ty with ⟨rfl,rfl⟩|⟨a,C,rfl,rfl,ha,KX⟩
 ·cases (show u=Value.none from r1)
  exact PySem.W.kia_tup PySem.W.kitx_none I.dn True.intro h1 e (fun z=>nomatch z) fun tk=>⟨.bl b,H,I.tok _,rfl,q⟩
 ·cases (show u=Value.ref a from r1)
  exact PySem.W.kia_tup (lq KX) I.dn (show eQ a (.ref C) none s.heap from (I.aM _ _ ha).1) h1 e (fun z=>nomatch z) fun tk=>⟨.bl b,H,I.tok _,rfl,q⟩
end
namespace Y
noncomputable def rn(K:Ih)(ans:Value->Option Bool)(t:T)(Q:Bool->Prop):Prop:=match t with
 |.ay=>(match ans (.type "NoneType") with|some b=>Q b|none=>False)
 |.exc c none=>(∃ C,c=.ref C/\my K C)/\(match ans c with|some b=>Q b|none=>False)
 |_=>False
noncomputable def lb(K:Ih)(ans:Value->Option Bool)(ue:UE):UE:=fun μ Q=>ue μ fun r μ'=>match r with
 |.tr t=>rn K ans t fun b=>Q (.tr (.bl b)) μ'
 |_=>False
theorem sW{ans:Value->Option Bool}{v:V}{t:T}{Q:Bool->Prop}(h:Rep K H B v t)(q:rn K ans t Q):∃ c b,C5 K H v c/\ans c=some b/\Q b:=by
 unfold rn at q
 split at q
 ·obtain rfl:=Rep.uI h
  split at q
  ·rename_i b e;exact⟨_,b,.inl ⟨rfl,rfl⟩,e,q⟩
  ·exact q.elim
 ·obtain⟨⟨C,rfl,KX⟩,q⟩:=q
  cases h with
  |exc n h =>
   split at q
   ·rename_i b e;exact⟨_,b,.inr ⟨_,C,rfl,rfl,h,KX⟩,e,q⟩
   ·exact q.elim
 ·exact q.elim
section
variable {X:Cx} {a:Expr} {es:List Expr} {ua:UE} {pos p p3:Pos} {x:Str}
theorem AF{y:V}{c:Value}{tc:Expr}(K:Ih)(hK:X.K=K)(hg:Gl X "isinstance")(hm:X.mg "isinstance"=none)(ha:YE X a ua)(hc:QE X tc (tC y))(hy:∀ u,RelV y u->u=c)(h1:autoParam (cN a=true) ℜ0)(h2:autoParam (cN tc=true) ℜ0):
  YE X (.Call (.Name "isinstance" p) [a,tc] [] pos) (lb K (fun t=>PySem.W.kitOne K t c) ua):=by
 obtain⟨t,q,r⟩:=ha;subst hK;refine⟨_,Z.cb (ou hy) hg hm G0 (Z.cons q (Z.cons hc Z.nil h2) h1) h1 (by simp[h2]),fun F ad B σ H μ Q Qt hF l q k=>r F ad B σ H μ _ _ hF l q fun v H' r1 μ' v1 f k1 q1=>?_⟩
 cases r1 with
 |tr t =>
  have hr:Rep X.K H' B v t:=by rw[<- hF];exact v1.2
  obtain⟨c',b,ty,e,q2⟩:=sW hr q1;exact⟨v,c',b,rfl,ty,e,k _ H' (.tr (.bl b)) μ' (Vr.flat v1.rl (.bl _)) f.d k1 q2⟩
 |fr c=>exact q1.elim
 |br j=>exact q1.elim
theorem CY{ds:List Addr}{t:TA}(K:Ih)(hK:X.K=K)(hg:Gl X "isinstance")(hm:X.mg "isinstance"=none)(ha:YE X a ua)(hq:QA X es t)(ht:∀ σ H Q,Q (ds.map V.ref) H->t σ H Q)(hd:ds.length<=100)(h1:autoParam (cN a=true) ℜ0):
  YE X (.Call (.Name "isinstance" p) [a,.Tuple es n p3] [] pos) (lb K (fun t=>PySem.W.kitAny K t (ds.map Value.ref)) ua):=by
 obtain⟨t',q,r⟩:=ha;subst hK;refine⟨_,Z.cb (oA (ds:=ds)) hg hm G0 (Z.cons q (Z.cons (Z.tup hq) Z.nil) h1) h1 rfl,fun F ad B σ H μ Q Qt hF l q k=>r F ad B σ H μ _ _ hF l q fun v H' r1 μ' v1 f k1 q1=>?_⟩;refine ht _ _ _ ⟨by rw[EJ];exact ES hd (by decide),fun pp hp=>?_⟩
 cases r1 with
 |tr t =>
  have hr:Rep X.K H' B v t:=by rw[<- hF];exact v1.2
  obtain⟨c',b,ty,e,q2⟩:=sW hr q1;have sm:bK H' (upd H' pp (.tup (ds.map V.ref))):=bK.new hp;have ty':C5 X.K (upd H' pp (.tup (ds.map V.ref))) v c':=by
   rcases ty with z|⟨a,C,z1,z2,z3,z4⟩
   ·exact .inl z
   ·exact .inr ⟨a,C,z1,z2,sm _ _ z3,z4⟩
  exact⟨v,c',b,pp,rfl,ae,ty',e,k _ _ (.tr (.bl b)) μ' (Vr.flat (v1.rl.same sm) (.bl _)) (f.d.trans (Fr.same sm)) k1 q2⟩
 |fr c=>exact q1.elim
 |br j=>exact q1.elim
end
end Y
section
variable {X:Cx} {pins:List (Addr×Obj)} {σ:St} {H:Hp} {s:Shared}
theorem name_goes{M:Model}{A:Around}(I:Inv X pins σ H s)(hN:X.N.Nodup)(hi:X.N[i]?=some x)(hk:X.env.kindOf x=some .local)
  (hq:∀ s',Inv X pins (σ.set i none) H s'->Q () s'):wpAny M A (do bindName X.env x .none;unbindBehindTheSuite X.env x pos) Q E s:=by
 obtain⟨m,hn,hl⟩:=id I.loc;have hcls:(X.env.scope.kind == .class || (X.env.scope.kind == .module && X.env.locals != X.env.globals))=false:=by rw[I.ok.kind];rfl
 have pM:=I.pM;refine wpAny_nameGoes_keeps hk hn hcls fun h' v hn' hs=>hq _ ?_;have keep:∀ b o,b≠X.env.locals->s.heap.get? b=some o->h'.get? b=some o:=fun b o n q=>(hs.2 b n).trans q;have neL:∀ b o,X.s₀.heap.get? b=some o->b≠X.env.locals:=fun b o e=>Fd (EO (ER e) I.ok.above);refine⟨I.ok,I.os,I.bare,⟨fun b o e n hb hx=>keep b o (neL b o e) (I.base.keep b o e n hb hx),fun b o e n hb hx=>?_,I.base.free,fun b o e hx=>?_,I.base.gr,I.base.fL,I.base.fj⟩,⟨_,hn',fun j y v' e1 e2 e3=>?_⟩,fun y c e=>?_,I.free,I.bH,fun p hp=>?_,fun b ob e=>?_,by simpa using I.len⟩
 ·obtain⟨sl,e1⟩:=I.base.slot b o e n hb hx;exact⟨sl,keep b _ (neL b o e) e1⟩
 ·obtain⟨o',e1⟩:=I.base.there b o e hx;exact⟨o',keep b _ (neL b o e) e1⟩
 ·by_cases hj:j=i
  ·subst hj;have:j<σ.length:=by rw[I.len];exact (EM.mp hi).1
   rw[FG this] at e2;cases e2
  ·rw[Fm (Ne.symm hj)] at e2;obtain⟨u',r',q⟩:=hl j y v' e1 e2 e3;refine⟨u',r',?_⟩;rcases q with ⟨k,e⟩|⟨k,c,e,z⟩
   ·refine .inl ⟨k,?_⟩;have:y≠x:=fun e=>hj (gK hN e1 (e ▸ hi));simp[this,e]
   ·exact .inr ⟨k,c,e,z.sameBut hs (pM y c e)⟩
 ·obtain⟨w',z⟩:=I.cell y c e;exact⟨w',z.sameBut hs (pM y c e)⟩
 ·obtain⟨e,n,ne,nf,d⟩:=I.pin p hp;exact⟨keep _ _ ne e,n,ne,nf,d⟩
 ·refine (I.aM b ob e).hW (fun c w' hc q=>keep c w' ?_ q) (fun _ q=>q) (fun _ _ q=>q) fun _ _ _ q=>q;rintro rfl;rcases hc with rfl|hc
  ·rw[I.free] at e;cases e
  ·rw[I.free] at hc;cases hc
end
theorem oM{M:Model}{A:Around}{g:Array GenState}{d:Drawn}{t:Nat}{os:OsState}{D:Addr}{d0:Option Addr}{Q:Bool->Shared->Prop}(lJ:K.In h)(hC:fH K C)(hD:fH K D)(he:eQ e (.ref C) d0 h)(hs:PySem.W.mroIn K C (.ref D)=some true)
  (hq:Q true ⟨h,g,d,t,os⟩):wpAny M A (excMatches (.ref e) (.ref D)) Q E ⟨h,g,d,t,os⟩:=by
 obtain⟨bm,N,nm,qn,bs,hd,sn,sub,ab,col,dd,k0,k1,k2,k3,k5,lk,tl,_,_⟩:=hC.obj;obtain⟨bm',N',nm',qn',bs',hd',sn',sub',ab',col',dd',k0',k1',k2',k3',k5',lk',tl',_,_⟩:=hD.obj;have gC:=lJ _ _ lk;have gD:=lJ _ _ lk';obtain⟨oe,vs,h1,h2,_,_⟩:=he;have c1:(Value.ref D::bm').contains (.type "BaseException")=true:=by rw[List.contains_cons,(tl' _ lJ).hasType PySem.F.excBase_ValueError.hasBase,Bool.or_true]
 have c2:(Value.ref C::bm).contains (.ref D)=true:=by
  unfold PySem.W.mroIn PySem.W.clsIn at hs;rw[lk] at hs;simp only[excClassObj,HA] at hs
  split at hs
  ·cases hs
  ·exact Option.some.inj hs
 have f:=tc_notTuple;unfold excMatches
 repeat (first | (with_reducible refine wpAny_loadPart_at h1 ?_;rw[h2])|with_reducible refine wpAny_loadPart_at gD ?_ | (with_reducible refine wpAny_isSubtype_exc gD ?_;rw[c1]) | (with_reducible refine wpAny_isSubtype_exc gC ?_;rw[c2])|wp_step)
 exact hq
theorem Rl.unset(l:Rl F ad B σ H μ)(hp:∀ c,μ[i]?≠some (.pb c)):Rl F ad B (σ.set i none) H (μ.set i .un):=by
 have get:∀(j:Nat) (s':Sl),(μ.set i .un)[j]?=some s'->(j=i/\s'=.un)\/(j≠i/\μ[j]?=some s'):=fun j s' e=>by
  by_cases z:i=j
  ·subst z;rw[Gy] at e;by_cases hi:i<μ.length
   ·simp[hi] at e;exact .inl ⟨rfl,e.symm⟩
   ·simp[hi] at e
  ·rw[Fm z] at e;exact .inr ⟨fun q=>z q.symm,e⟩
 have back:∀(j:Nat) (c:T),μ[j]?=some (.pb c)->(μ.set i .un)[j]?=some (.pb c):=fun j c e=>by
  rw[Fm (fun z=>hp c (by rw[z];exact e))];exact e
 refine⟨by rw[Fz,Fz];exact l.len,fun j s' e=>?_,fun j k s1 s2 c1 c2 e1 e2 b1 b2 q=>?_,fun j a p=>?_,l.bc,l.aU,l.old,fun a ws ga=>?_⟩
 ·rcases get j s' e with ⟨_,rfl⟩|⟨z,e⟩
  ·trivial
  ·rw[Fm (Ne.symm z)];exact l.slot j s' e
 ·rcases get j s1 e1 with ⟨_,rfl⟩|⟨_,e1⟩
  ·cases b1
  ·rcases get k s2 e2 with ⟨_,rfl⟩|⟨_,e2⟩
   ·cases b2
   ·exact l.inj j k _ _ _ _ e1 e2 b1 b2 q
 ·obtain⟨⟨d,hd⟩,ha⟩:=l.par j a p;exact⟨⟨d,back j d hd⟩,ha⟩
 ·obtain⟨g1,g2,g3⟩:=l.gh a ws ga;refine⟨g1,g2,fun j s' d e b'=>?_⟩;rcases get j s' e with ⟨_,rfl⟩|⟨_,e⟩
  ·cases b'
  ·exact g3 j s' d e b'
namespace Y
noncomputable def jW(K:Ih)(ub:jw)(D:Addr)(i:Nat)(uh:US):jw:=fun E _ μ=>ub E (fun x μ'=>(∃ C,x=.exc (.ref C) none/\fH K C/\PySem.W.mroIn K C (.ref D)=some true)/\kv μ' i/\uh {nx:=fun μ2=>kv μ2 i/\E.nx (μ2.set i .un),rt:=fun _ _=>False} (μ'.set i (.tr x))) μ
theorem y8{X:Cx}{body suite:List Stmt}{b0:Stmt}{nm:Str}{DA:Addr}{hpos:Pos}{ub:jw}{uh:US}(K:Ih)(hK:X.K=K)(hg:Gl X x)(hm:X.mg x=some (.ref DA))(hkD:fH X.K DA)(hc:X.calm=true)(hex:X.ex=[])(hst:X.stack=X.env::X.outer)(hfm:X.env.frame=some X.env.locals)
  (hN:X.N.Nodup) (hi:X.N[i]?=some nm) (hx:X.env.scope.names.lookup nm=some .local)
  (hb:∀ pins E,xa (qJ X pins E) body ub) (hh:∀ e,YB (yh X e) (b0::suite) uh) (hdb:autoParam ((x ==("__debug__":Str))=false) ℜ1) :
  pP X (.Try body [.ExceptHandler (some (.Name x np)) (some nm) (b0::suite) hpos] [] [] pos) (jW K ub DA i uh):=by
 subst hK;have hkl:X.env.kindOf nm=some .local:=hx;refine⟨fun D σ H=>∀ pins s,Inv X pins σ H s->wpAny (model X.prog X.w) X.A (exec (.Try body [.ExceptHandler (some (.Name x np)) (some nm) (b0::suite) hpos] [] [] pos) X.env) (SP X pins D) X.xe s,⟨fun pins s σ H D I h=>h pins s I⟩,?_⟩;intro F D E Xt ad B σ H μ hF l q hE hX pins s I;have hh0:X.A.handled=none:=I.ok.hd hc;refine wpAny_Try_except ?_;obtain⟨t,qb,rb⟩:=hb pins (fun y s1=>wpAny (model X.prog X.w) X.A (noteFrame y X.env) (fun _ s2=>wpAny (model X.prog X.w) X.A (setFlight y none) (fun _ s3=>wpAny (model X.prog X.w) X.A (handleBy y X.env [.ExceptHandler (some (.Name x np)) (some nm) (b0::suite) hpos]) (SP X pins D) X.xe s3) X.xe s2) X.xe s1);refine FJ (qb.h [] s σ H D I.B6 (rb F D E _ ad B σ H μ hF l q hE ?_)) (fun f s1 h1=>?_) (fun y s1 h1=>h1)
 ·rintro ad' B' σ' H' μ' x0 cls d e l' f' ⟨tr,hx0⟩ nB _ ⟨⟨C,rfl,hkC,hsub⟩,hp,hu⟩;obtain⟨rfl,rfl⟩:=(show Value.ref C=cls/\d=none from hx0);intro pins' s' To I' fl nw;have hex':(qJ X pins (fun y s1=>wpAny (model X.prog X.w) X.A (noteFrame y X.env) (fun _ s2=>wpAny (model X.prog X.w) X.A (setFlight y none) (fun _ s3=>wpAny (model X.prog X.w) X.A (handleBy y X.env [.ExceptHandler (some (.Name x np)) (some nm) (b0::suite) hpos]) (SP X pins D) X.xe s3) X.xe s2) X.xe s1)).ex=[]:=hex;have hfr:X.A.frames=some (X.env::X.outer):=by rw[<- hst];exact I.ok.frames
  have hstk:=I'.stack;have hstk2:s'.heap.FunFrames X.base (X.env::X.outer):=by rw[<- hst];exact hstk
  refine ki hfr hfm hstk2 fl fun h2 T2 mv f2=>?_;rw[<- hst] at mv;obtain⟨I2,nw2⟩:=I'.moved hex' fl nw mv f2;have J2:Inv (yh X e) pins σ' H' {s' with heap:=h2}:=I2.gc.A5
  refine wpAny_handleBy_cons (codeAny_handlers_test (fA J2 hg hm ?_ hdb)) (by intro z;cases z)
  refine oM J2.dn hkC hkD f2.is hsub (codeAny_handlers_suite_as ?_);refine ky (base:=X.base) (l:=X.stack) (s:={s' with heap:=h2}) I2.stack f2 fun h3 T3 mv3 f3=>?_
  obtain⟨I3,nw3⟩:=I2.moved (h':=h3) hex' f2 nw2 mv3 f3;obtain⟨th,qh,rh⟩:=hh e;have J3:Inv (yh X e) pins σ' H' {s' with heap:=h3}:=I3.gc.A5
  refine iu (X:=yh X e) (v:=.ref e) J3 hN hi (.inl hx) rfl (fun s4 I4=>?_) (.inr hx);have l4:Rl F ad' B' (σ'.set i (some (.ref e))) H' (μ'.set i (.tr (.exc (.ref C) none))):=l'.vZ (fJ hp) (.exc nB tr);refine FJ (qh.h pins _ _ H' {nx:=fun σ1 H1=>D.nx (σ1.set i none) H1,rt:=fun _ _=>False} I4 (rh F _ {nx:=fun μ2=>kv μ2 i/\E.nx (μ2.set i .un),rt:=fun _ _=>False} ad' B' _ H' _ hF l4 hu ⟨fun ad1 B1 σ1 H1 μ1 l1 f1 q1=>?_,fun _ _ _ _ _ _ _ _ z=>z.elim,fun _ _ _ _ _ _ _ z=>z.elim,fun _ _ _ _ _ _ _ z=>z.elim⟩)) (fun f s5 h5=>?_) (fun _ _ z=>z.elim)
  ·exact hE.nx ad1 B1 _ H1 _ (l1.unset (fJ q1.1)) (f'.trans f1) q1.2
  ·have h6:=SP.Dv hh0 hc h5
   cases f with
   |next =>
    obtain⟨σ1,H1,I6,q6⟩:=h6;exact name_goes I6 hN hi hkl fun s7 I7=>⟨_,H1,I7,q6⟩
   |brk=>obtain⟨_,_,_,z⟩:=h6;exact z.elim
   |cont=>obtain⟨_,_,_,z⟩:=h6;exact z.elim
   |ret u=>obtain⟨_,_,_,_,_,z⟩:=h6;exact z.elim
 ·have h2:=SP.gc h1
  cases f with
  |next=>exact EL h2
  |brk=>exact h2
  |cont=>exact h2
  |ret u=>exact h2
end Y
namespace A
theorem lb(K:Ih)(ans:Value->Option Bool)(ue:UE)(μ:Mu)(Q:R->Mu->Prop):Y.lb K ans ue μ Q=ue μ fun r μ'=>match r with
 |.tr t=>Y.rn K ans t fun b=>Q (.tr (.bl b)) μ'
 |_=>False:=rfl
theorem DI(K:Ih)(ans:Value->Option Bool)(c:Value)(Q:Bool->Prop):Y.rn K ans (.exc c none) Q=((∃ C,c=.ref C/\my K C)/\(match ans c with|some b=>Q b|none=>False)):=rfl
theorem jW(K:Ih)(ub:jw)(D:Addr)(i:Nat)(uh:US)(E:Ed)(Xt:Xw)(μ:Mu):Y.jW K ub D i uh E Xt μ=ub E (fun x μ'=>(∃ C,x=.exc (.ref C) none/\fH K C/\PySem.W.mroIn K C (.ref D)=some true)/\Y.kv μ' i/\uh {nx:=fun μ2=>Y.kv μ2 i/\E.nx (μ2.set i .un),rt:=fun _ _=>False} (μ'.set i (.tr x))) μ:=rfl
end A
open Builtin Builtin.Str
open PySem PySem.Spec PyProof PyProof.Rows
noncomputable def xq(K:Ih)(ws:List Str)(v:Value):Prop:=∃ p,v=.ref p/\zG K p (ws.map V.str)
structure mi (K:Ih) (a:Addr) (D:List (Str×List Str)):Prop where
 low:(a == sysModules)=false
 ex:∃ o es ep,K.lookup a=some o/\o.ExactDict/\o.data=.dict es ep/\KTD.Rows (xq K) es.toList D
section
variable {prog:Program} {w:World} {A:Around} {E:Value->Shared->Prop} {s:Shared} {K:Ih} {a:Addr} {D:List (Str×List Str)} {k:Str} {tk:Tok}
theorem mi.typeIs(T:mi K a D)(X:K.In s.heap):s.TypeIs (.ref a) "dict":=let ⟨o,_,_,ho,hc,_⟩:=T.ex;⟨o,X _ _ ho,hc.1⟩
theorem qV{Q:Option Value->Shared->Prop}(T:mi K a D)(X:K.In s.heap)(h1:∀ d v,KTD.datumAt k D=some d->xq K d v->Q (some v) {s with toks:=s.toks+1})(h2:KTD.datumAt k D=none->Q none {s with toks:=s.toks+1}):
  wpAny (model prog w) A (dictGet a (.str k tk)) Q E s:=by
 obtain⟨o,es,ep,ho,hc,hd,hr⟩:=T.ex;have ho:=X _ _ ho;unfold dictGet
 try with_reducible refine FE ?_
 refine EA (wpAny_pyHash_str (EA (KTD.kt_dictFind_strs (s:={s with toks:=s.toks+1}) ho hd (by obtain⟨l⟩:=es;simpa using hr.exact) ?_)))
 have hq:Q (findBy (fun k v=>v.isStr k) es k) {s with toks:=s.toks+1}:=by
  have hf:findBy (fun k v=>v.isStr k) es k=(es.toList.find? fun e=>e.key.isStr k).map (·.val):=by
   obtain⟨l⟩:=es;simp[findBy]
  rw[hf]
  cases hat:KTD.datumAt k D with
  |some d=>obtain⟨v,hv,hfl⟩:=hr.find_some hat;rw[hv];exact h1 d v hat hfl
  |none=>rw[hr.find_none hat];exact h2 hat
 rw[findBy_of_findIdx?] at hq
 cases hi:es.findIdx? fun e=>e.key.isStr k with
 |none=>rw[hi] at hq;exact EL hq
 |some i=>rw[hi] at hq;exact EA (wpAny_dictEntries (s:={s with toks:=s.toks+1}) ho hd (EL hq))
end
noncomputable def cZ{α:Type}(xs:List α)(i:Nat)(y:α):List α:=xs.take i++y::xs.drop i
noncomputable def mE:V->List V->Hp->VK->Prop:=fun x vs H Q=>∃ l xs i y,x=.ref l/\vs=[.int i,y]/\H l=some (.lst xs)/\0<=i/\i<2^63/\xs.length<sizeLine/\Q .ay (upd H l (.lst (cZ xs (min i.toNat xs.length) y)))
theorem fO{X:Cx}:Ct X "list.insert" mE:=by
 intro pins s σ H x vs v us Q I rx rv h;obtain⟨l,xs,i,y,rfl,rfl,hH,h0,h1,hz,q⟩:=h;cases rx;obtain⟨u,w',rfl,⟨t,rfl⟩,rw'⟩:=vals2 rv;obtain⟨z,ah,n,r,hl,e⟩:=I.mB hH;have hfit:¬ (!Builtin.List.listFitsIndex i)=true:=by
  have:=HN (k:=i) (by lia) h1
  rw[this];exact EF
 refine FW F.slot_list_insert ⟨_,e,rfl⟩ F.entry_list_insert (F.args_list_insert_3 _ _ _) (AutoSeq1.list_insert_list_int_val_1 l ah.toArray n i t w' hfit (by rw[EE];lia)) ⟨e,?_⟩
 have el:ah.length=xs.length:=hl.symm;refine⟨.ay,_,I.yv (its':=cZ ah (min i.toNat ah.length) w') hH e ?_ ?_ ?_,rfl,q⟩
 ·show (have k:=if i<0 then _ else min i.toNat ah.toArray.size;(ah.toArray.extract 0 k).push w'++ah.toArray.extract k)=_
  rw[EB (by lia)]
  apply Array.toList_inj.mp;unfold cZ;simp[List.extract_eq_take_drop,Gx]
 ·rw[el];unfold cZ;exact (r.take _).append (.cons rw' (r.drop _))
 ·unfold cZ;rw[EU,E_,Fg,Ga];lia
namespace Y
noncomputable def eY:UM:=fun j rs μ Q=>match rs with
 |[.tr (.int i),.tr t]=>(match (μ[j]?).bind Sl.box with
  |some (.lst ts)=>0<=i/\i<2^63/\ts.length<sizeLine/\Q (.tr .ay) (cC μ j (.lst (cZ ts (min i.toNat ts.length) t)))
  |_=>False)
 |_=>False
theorem je{K:Ih}:RM K mE eY:=by
 intro F ad B σ H μ Q Qt j s c xs rs hF l e b ps q k;unfold eY at q
 split at q
 ·rename_i i t;obtain⟨_,_,rfl,h1,ps⟩:=Paired.aC ps;obtain⟨_,_,rfl,h2,ps⟩:=Paired.aC ps;obtain rfl:=Paired.cI ps
  cases cV h1
  have rt:=cV h2;rw[e] at q;have q':(match s.box with|some (.lst ts)=>0<=i/\i<2^63/\ts.length<sizeLine/\Qt (.tr .ay) (cC μ j (.lst (cZ ts (min i.toNat ts.length) t)))|_=>False):=q
  rw[b] at q';rcases ((l.slot j s e).boxed b).2.2.1.is with ⟨ts,vs,rfl,hl,rv⟩|⟨_,_,_,rfl,_⟩
  case inr=>exact q'.elim
  obtain⟨h0,h1,hz,q2⟩:=(show 0<=i/\i<2^63/\ts.length<sizeLine/\_ from q');refine⟨_,vs,i,_,rfl,rfl,hl,h0,h1,by rw[rv.length];exact hz,?_⟩
  have l3:=l.put e b (show ak F.K H B (cZ vs (min i.toNat vs.length) _) (cZ ts (min i.toNat ts.length) t) from by rw[rv.length];exact (rv.take _).append (.cons rt (rv.drop _)))
  unfold cC at q2;rw[e] at q2;exact k _ _ (.tr .ay) _ (Vr.flat l3 .ay) (Fr.set ((l.slot j s e).boxed b).2.1) (Kp.set e b (Sl.gA b)) q2
 ·exact q.elim
end Y
namespace A
theorem eY(j:Nat)(i:Int)(t:T)(μ:Mu)(Q:R->Mu->Prop):Y.eY j [.tr (.int i),.tr t] μ Q=(match (μ[j]?).bind Sl.box with
  |some (.lst ts)=>0<=i/\i<2^63/\ts.length<sizeLine/\Q (.tr .ay) (cC μ j (.lst (cZ ts (min i.toNat ts.length) t)))
  |_=>False):=rfl
end A
open Builtin Builtin.Str
open PySem PySem.Spec PyProof PyProof.Rows
variable{X:Cx}{pos:Pos}{a b:Option T}{Q:R->Prop}{K:Ih}
inductive Ou where
 |no
 |ok (r:R)
 |ck (c:Prop) (r:R)
noncomputable def lh(o:Ou)(Q:R->Prop):Prop:=match o with
 |.no=>False
 |.ok r=>Q r
 |.ck c r=>c/\Q r
noncomputable def qr(o:Option Sl)(i:Nat):Ou:=match o with
 |some (.tr t)=>.ok (.tr t)
 |some (.bx _)=>.ok (.br i)
 |some (.pb _)=>.ok (.br i)
 |_=>.no
noncomputable def oF(a b:Option T):Ou:=match a,b with
 |some (.int i),some (.int j)=>.ok (.tr (.int (i+j)))
 |some (.str i),some (.str j)=>.ck (i.length+j.length<=sizeLine) (.tr (.str (i++j)))
 |some (.lst xs),some (.lst ys)=>.ck (xs.length+ys.length<=sizeLine) (.fr (.lst (xs++ys)))
 |some (.tup xs),some (.tup ys)=>.ck (xs.length+ys.length<=sizeLine) (.tr (.tup (xs++ys)))
 |_,_=>.no
noncomputable def oQ(o:Option T):Ou:=match o with
 |some t=>.ok (.tr t)
 |none=>.no
noncomputable def zR(a b:Option T):Ou:=match a,b with
 |some (.lst xs),some (.int i)=>oQ (bN xs i)
 |some (.tup xs),some (.int i)=>oQ (bN xs i)
 |some (.dW xs),some (.int i)=>oQ (bN xs i)
 |some (.str z),some (.int i)=>(match bN z.cps.toList i with|some c=>.ck (z.length<=sizeLine) (.tr (.str ⟨#[c]⟩))|none=>.no)
 |_,_=>.no
noncomputable def tq(a:T):Ou:=match a with
 |.lst xs=>.ok (.tr (.int xs.length))
 |.tup xs=>.ok (.tr (.int xs.length))
 |.eu xs=>.ok (.tr (.int xs.length))
 |.dW xs=>.ok (.tr (.int xs.length))
 |.str z=>.ck (z.length<=sizeLine) (.tr (.int z.length))
 |_=>.no
noncomputable def z_(a:Option T)(lo hi:Option Int):Ou:=match a with
 |some (.lst xs)=>.ok (.fr (.lst (Y.bJ xs lo hi)))
 |some (.eu xs)=>.ok (.fr (.lst (Y.bJ xs lo hi)))
 |some (.tup xs)=>.ok (.tr (.tup (Y.bJ xs lo hi)))
 |some (.str z)=>.ck (z.length<=sizeLine) (.tr (.str (Y.uS z lo hi)))
 |_=>.no
theorem xS(p:Prop):(True/\p)=p:=propext ⟨fun h=>h.2,fun h=>⟨trivial,h⟩⟩
theorem E3(a:Option T)(lo hi:Option Int)(Q:R->Prop):A1 (Y.zD a lo hi) Q=lh (z_ a lo hi) Q:=by
 cases a with
 |none=>rfl
 |some a=>cases a<;>first|rfl|exact xS _
namespace Y
noncomputable def qm(i:Nat):UE:=fun μ Q=>lh (qr μ[i]? i) fun r=>Q r μ
noncomputable def wo:U2:=fun r1 r2 μ Q=>lh (oF (cont μ r1) (cont μ r2)) fun r=>Q r μ
noncomputable def Cd:U2:=fun r1 r2 μ Q=>lh (zR (cont μ r1) (cont μ r2)) fun r=>Q r μ
noncomputable def wx(t:T)(μ:Mu)(Q:R->Mu->Prop):Prop:=lh (tq t) fun r=>Q r μ
noncomputable def uZ(ue:UE)(ul uh:UO):UE:=fun μ Q=>ue μ fun r μ1=>ul μ1 fun lo μ2=>uh μ2 fun hi μ3=>lh (z_ (cont μ3 r.d) lo hi) fun r=>Q r μ3
noncomputable def qy(ue:UE):UI:=fun μ Rt=>ue μ fun r μ'=>A2 (zr r μ') fun ts g=>Rt ts g μ'
noncomputable def D4(n:Nat)(gs:nj):UG:=fun r μ Q=>match rE (cont μ r.d) with|some ts=>ts.length=n/\gs ts μ Q|none=>False
noncomputable def qW(ue:UE):UT:=fun μ Q=>ue μ fun r μ'=>match s_ r with|some b=>Q b μ'|none=>False
theorem En(ue:UE)(ul uh:UO):yC ue ul uh=uZ ue ul uh:=funext fun μ=>funext fun Q=>by
 unfold yC uZ;congr 1;funext r μ1;congr 1;funext lo μ2;congr 1;funext hi μ3;exact E3 _ _ _ _
theorem E8(ue:UE):we ue=qy ue:=funext fun μ=>funext fun Rt=>A.we ue μ Rt
theorem eT(n:Nat)(gs:nj):gT n gs=D4 n gs:=funext fun r=>funext fun μ=>funext fun Q=>A.gT n gs r μ Q
theorem D7(ue:UE):kU ue=qW ue:=funext fun μ=>funext fun Q=>A.kU ue μ Q
theorem vS{x:Str}(i:Nat)(hN:autoParam (X.N[i]?=some x) ℜ0)(hv:autoParam (zI X.env.scope x) ℜ4)(hd:autoParam ((x ==("__debug__":Str))=false) ℜ1)
  (hcd:autoParam ((x ==("__classdict__":Str))=false) ℜ1):YE X (.Name x pos) (qm i):=by
 refine⟨_,Z.v i hN hv hd hcd,fun F ad B σ H μ Q Qt hK l q k=>?_⟩;unfold qm at q
 cases e:μ[i]? with
 |none=>rw[e] at q;exact (show False from q).elim
 |some z =>
  rw[e] at q
  cases z with
  |un=>exact (show False from q).elim
  |tr t =>
   obtain⟨v,e1,r⟩:=l.slot i _ e;exact⟨v,e1,k v H (.tr t) μ ⟨l,r⟩ Fr.refl (Kp.refl μ) q⟩
  |bx t=>exact⟨_,(l.slot i _ e).1,k _ H (.br i) μ ⟨l,rfl,_,_,e,rfl⟩ Fr.refl (Kp.refl μ) q⟩
  |pb t=>exact⟨_,(l.slot i _ e).1,k _ H (.br i) μ ⟨l,rfl,_,_,e,rfl⟩ Fr.refl (Kp.refl μ) q⟩
theorem vm(h:lh (oF a b) Q):(∃ i j,a=some (.int i)/\b=some (.int j)/\Q (.tr (.int (i+j))))\/(∃ i j,a=some (.str i)/\b=some (.str j)/\i.length+j.length<=sizeLine/\Q (.tr (.str (i++j)))) \/
  (∃ xs ys,a=some (.lst xs)/\b=some (.lst ys)/\xs.length+ys.length<=sizeLine/\Q (.fr (.lst (xs++ys))))\/∃ xs ys,a=some (.tup xs)/\b=some (.tup ys)/\xs.length+ys.length<=sizeLine/\Q (.tr (.tup (xs++ys))):=by
 cases a with
 |none=>exact (show False from h).elim
 |some a =>
  cases b with
  |none=>cases a<;>exact (show False from h).elim
  |some b =>
   cases a with
   |int i=>cases b<;>first|exact (show False from h).elim|exact .inl ⟨_,_,rfl,rfl,h⟩
   |str i=>cases b<;>first|exact (show False from h).elim|exact .inr (.inl ⟨_,_,rfl,rfl,h⟩)
   |lst i=>cases b<;>first|exact (show False from h).elim|exact .inr (.inr (.inl ⟨_,_,rfl,rfl,h⟩))
   |tup i=>cases b<;>first|exact (show False from h).elim|exact .inr (.inr (.inr ⟨_,_,rfl,rfl,h⟩))
   |_=>exact (show False from h).elim
theorem aq:ji K (wu K) wo:=by
 intro F ad B σ H μ Q Qt x y r1 r2 hK l h1 h2 q k;subst hK;rcases vm q with ⟨i,j,e1,e2,q⟩|⟨i,j,e1,e2,q0,q⟩|⟨xs,ys,e1,e2,q0,q⟩|⟨xs,ys,e1,e2,q0,q⟩
 ·obtain rfl:=Vw.bf (h1.vw l e1);obtain rfl:=Vw.bf (h2.vw l e2);exact .inl ⟨_,_,rfl,rfl,k _ H _ μ (Vr.flat l (.int _)) Fr.refl (Kp.refl μ) q⟩
 ·obtain rfl:=Vw.e9 (h1.vw l e1);obtain rfl:=Vw.e9 (h2.vw l e2);exact .inr (.inl ⟨_,_,rfl,rfl,q0,k _ H _ μ (Vr.flat l (.str _)) Fr.refl (Kp.refl μ) q⟩)
 ·obtain⟨_,_,rfl,ha,ra⟩:=Vw.cW (h1.vw l e1);obtain⟨_,_,rfl,hb,rb⟩:=Vw.cW (h2.vw l e2);exact .inr (.inr (.inl ⟨_,_,_,_,rfl,rfl,ha,hb,by rw[ra.length,rb.length];exact q0,fun p hp=>k _ _ _ μ (Vr.rJ l (ra.append rb) hp) (Fr.more hp) (Kp.refl μ) q⟩))
 ·have a:=Hv.mD l h1 e1;have b:=Hv.mD l h2 e2;have a':=a;have b':=b;obtain⟨_,_,rfl,na,ha,ra⟩:=Rep.tupI a;obtain⟨_,_,rfl,nb,hb,rb⟩:=Rep.tupI b;refine .inr (.inr (.inr ⟨_,_,_,_,rfl,rfl,b6.of ha,b6.of hb,by rw[ra.length,rb.length];exact q0,fun z=>?_,fun z1 z2=>?_,fun z1 z2 p hp=>k _ _ _ μ (Vr.pK l (ra.append rb) hp) (Fr.same (bK.new hp)) (Kp.refl μ) q⟩))
  ·subst z;have e:xs=[]:=HD.mp ra.length.symm;subst e;exact k _ H _ μ (Vr.flat l b') Fr.refl (Kp.refl μ) q
  ·subst z2;have e:ys=[]:=HD.mp rb.length.symm;subst e;rw[FV] at q;exact k _ H _ μ (Vr.flat l a') Fr.refl (Kp.refl μ) q
theorem sV{o:Option T}(h:lh (oQ o) Q):∃ t,o=some t/\Q (.tr t):=by
 cases o with
 |none=>exact (show False from h).elim
 |some t=>exact⟨t,rfl,h⟩
theorem xJ(h:lh (zR a b) Q):(∃ xs i t,a=some (.lst xs)/\b=some (.int i)/\bN xs i=some t/\Q (.tr t))\/(∃ xs i t,(a=some (.tup xs)\/a=some (.dW xs))/\b=some (.int i)/\bN xs i=some t/\Q (.tr t)) \/
  ∃ z i c,a=some (.str z)/\b=some (.int i)/\z.length<=sizeLine/\bN z.cps.toList i=some c/\Q (.tr (.str ⟨#[c]⟩)):=by
 cases a with
 |none=>exact (show False from h).elim
 |some a =>
  cases b with
  |none=>cases a<;>exact (show False from h).elim
  |some b =>
   cases a with
   |lst xs=>cases b<;>first|exact (show False from h).elim | (obtain⟨t,e,q⟩:=sV h;exact .inl ⟨_,_,t,rfl,rfl,e,q⟩)
   |tup xs=>cases b<;>first|exact (show False from h).elim | (obtain⟨t,e,q⟩:=sV h;exact .inr (.inl ⟨_,_,t,.inl rfl,rfl,e,q⟩))
   |dW xs=>cases b<;>first|exact (show False from h).elim | (obtain⟨t,e,q⟩:=sV h;exact .inr (.inl ⟨_,_,t,.inr rfl,rfl,e,q⟩))
   |str z =>
    cases b with
    |int i =>
     cases c:bN z.cps.toList i with
     |none =>
      have h':lh (match bN z.cps.toList i with|some c=>.ck (z.length<=sizeLine) (.tr (.str ⟨#[c]⟩))|none=>.no) Q:=h
      rw[c] at h';exact (show False from h').elim
     |some c' =>
      have h':lh (match bN z.cps.toList i with|some c=>.ck (z.length<=sizeLine) (.tr (.str ⟨#[c]⟩))|none=>.no) Q:=h
      rw[c] at h';exact .inr (.inr ⟨_,_,c',rfl,rfl,h'.1,c,h'.2⟩)
    |_=>exact (show False from h).elim
   |_=>exact (show False from h).elim
theorem aT:ji K (Dl K) Cd:=by
 intro F ad B σ H μ Q Qt x y r1 r2 hK l h1 h2 q k;subst hK;rcases xJ q with ⟨xs,i,t,e1,e2,e3,q⟩|⟨xs,i,t,e1,e2,e3,q⟩|⟨z,i,c,e1,e2,q0,e3,q⟩
 ·obtain rfl:=Vw.bf (h2.vw l e2);obtain⟨_,_,rfl,ha,ra⟩:=Vw.cW (h1.vw l e1);obtain⟨v,e4,rv⟩:=ra.bN e3;exact .inl ⟨_,_,_,v,rfl,rfl,a_.of ha,e4,k _ H _ μ (Vr.flat l rv) Fr.refl (Kp.refl μ) q⟩
 ·obtain rfl:=Vw.bf (h2.vw l e2);have hh:∃ a vs,x=.ref a/\b6 F.K H a vs/\ak F.K H B vs xs:=by
   rcases e1 with e1|e1
   ·obtain⟨a,vs,e,ha,ra⟩:=Vw.tupI (h1.vw l e1);exact⟨a,vs,e,b6.of ha,ra⟩
   ·obtain⟨a,vs,e,ha,ra⟩:=Vw.om (h1.vw l e1);exact⟨a,vs,e,.inr ha,ra⟩
  obtain⟨a,vs,rfl,ha,ra⟩:=hh;obtain⟨v,e4,rv⟩:=ra.bN e3;exact .inr (.inl ⟨_,_,_,v,rfl,rfl,ha,e4,k _ H _ μ (Vr.flat l rv) Fr.refl (Kp.refl μ) q⟩)
 ·obtain rfl:=Vw.bf (h2.vw l e2);obtain rfl:=Vw.e9 (h1.vw l e1);exact .inr (.inr ⟨_,_,_,rfl,rfl,q0,e3,k _ H _ μ (Vr.flat l (.str _)) Fr.refl (Kp.refl μ) q⟩)
theorem cP:RC K (qo K) (yZ wx):=qz fun F ad B σ H μ Q Qt x t hK l v1 q k=>by
 subst hK;have go:∀(a:Addr) (vs:List V) (xs:List T),x=.ref a->(a_ F.K H a vs\/b6 F.K H a vs)->ak F.K H B vs xs->Qt (.tr (.int xs.length)) μ->qo F.K [x] H Q:=fun a vs xs e ha ra q=>by
  subst e;exact .inl ⟨_,_,rfl,ha,by rw[ra.length];exact k _ H _ (Vr.flat l (.int _)) Fr.refl q⟩
 cases t with
 |lst xs=>obtain⟨a,vs,e,ha,ra⟩:=Vw.cW v1;exact go a vs xs e (.inl (a_.of ha)) ra q
 |tup xs=>obtain⟨a,vs,e,ha,ra⟩:=Vw.tupI v1;exact go a vs xs e (.inr (b6.of ha)) ra q
 |eu xs=>obtain⟨a,vs,e,ha,ra⟩:=Vw.qM v1;exact go a vs xs e (.inl ha) ra q
 |dW xs=>obtain⟨a,vs,e,ha,ra⟩:=Vw.om v1;exact go a vs xs e (.inr (.inr ha)) ra q
 |str z =>
  obtain rfl:=Vw.e9 v1;have q':_/\_:=q;exact .inr ⟨_,rfl,q'.1,k _ H _ (Vr.flat l (.int _)) Fr.refl q'.2⟩
 |_=>exact (show False from q).elim
theorem eP{e:Expr}{ue:UE}{p2:Pos}{lo hi:Option Expr}{ul uh:UO}(K:Ih)(hK:X.K=K)(he:YE X e ue)(hl:YO X lo ul)(hu:YO X hi uh):YE X (.Subscript e (.Slice lo hi none p2) pos) (uZ ue ul uh):=En ue ul uh ▸ xt K hK he hl hu
theorem anyS{tg e:Expr}{ue:UE}(K:Ih)(hK:X.K=K)(he:YE X e ue):YI X tg e (qy ue):=E8 ue ▸ any K hK he
theorem Bo{es:List Expr}(K:Ih)(hK:X.K=K){k n:Nat}{gs:nj}(hc:X.calm=true)(h:Br X es gs)(hn:autoParam ((assignEach es X.env).length=n) ℜ0)(hst:autoParam ((assignEach es X.env).findIdx? (·.1)=none) ℜ0):YG X (.Tuple es k pos) (D4 n gs):=eT n gs ▸ xc K hK hc h hn hst
theorem kJ{a:Expr}{ua:UE}(K:Ih)(hK:X.K=K)(ha:YE X a ua)(he:autoParam (Z.CC a=true) ℜ0):YT X a (qW ua):=D7 ua ▸ j7 K hK ha he
end Y
namespace A3
theorem uv(t:T):oQ (some t)=.ok (.tr t):=rfl
theorem CV(i:Nat)(μ:Mu)(Q:R->Mu->Prop):Y.qm i μ Q=lh (qr μ[i]? i) fun r=>Q r μ:=rfl
theorem kE(r1 r2:R)(μ:Mu)(Q:R->Mu->Prop):Y.wo r1 r2 μ Q=lh (oF (cont μ r1) (cont μ r2)) fun r=>Q r μ:=rfl
theorem xW(r1 r2:R)(μ:Mu)(Q:R->Mu->Prop):Y.Cd r1 r2 μ Q=lh (zR (cont μ r1) (cont μ r2)) fun r=>Q r μ:=rfl
theorem DS(t:T)(μ:Mu)(Q:R->Mu->Prop):Y.wx t μ Q=lh (tq t) fun r=>Q r μ:=rfl
theorem yq(ue:UE)(ul uh:UO)(μ:Mu)(Q:R->Mu->Prop):Y.uZ ue ul uh μ Q=ue μ fun r μ1=>ul μ1 fun lo μ2=>uh μ2 fun hi μ3=>lh (z_ (cont μ3 r.d) lo hi) fun r=>Q r μ3:=rfl
theorem we(ue:UE)(μ:Mu)(Rt:List T->Option (Nat×List T)->Mu->Prop):Y.qy ue μ Rt=ue μ fun r μ'=>A2 (zr r μ') fun ts g=>Rt ts g μ':=rfl
theorem gT(n:Nat)(gs:nj)(r:R)(μ:Mu)(Q:Mu->Prop):Y.D4 n gs r μ Q=(match rE (cont μ r.d) with|some ts=>ts.length=n/\gs ts μ Q|none=>False):=rfl
theorem kU(ue:UE)(μ:Mu)(Q:Bool->Mu->Prop):Y.qW ue μ Q=ue μ fun r μ'=>match s_ r with|some b=>Q b μ'|none=>False:=rfl
theorem Dy(t:T)(i:Nat):qr (some (.tr t)) i=.ok (.tr t):=rfl
theorem Du(t:T)(i:Nat):qr (some (.bx t)) i=.ok (.br i):=rfl
theorem CM(t:T)(i:Nat):qr (some (.pb t)) i=.ok (.br i):=rfl
theorem BC(i j:Int):oF (some (.int i)) (some (.int j))=.ok (.tr (.int (i+j))):=rfl
theorem add_l(xs ys:List T):oF (some (.lst xs)) (some (.lst ys))=.ck (xs.length+ys.length<=sizeLine) (.fr (.lst (xs++ys))):=rfl
theorem B8(xs ys:List T):oF (some (.tup xs)) (some (.tup ys))=.ck (xs.length+ys.length<=sizeLine) (.tr (.tup (xs++ys))):=rfl
theorem CW(xs:List T)(i:Int):zR (some (.lst xs)) (some (.int i))=oQ (bN xs i):=rfl
theorem DK(xs:List T)(i:Int):zR (some (.tup xs)) (some (.int i))=oQ (bN xs i):=rfl
theorem D9(z:Str)(i:Int):zR (some (.str z)) (some (.int i))=(match bN z.cps.toList i with|some c=>.ck (z.length<=sizeLine) (.tr (.str ⟨#[c]⟩))|none=>.no):=rfl
theorem Cm(xs:List T):tq (.lst xs)=.ok (.tr (.int xs.length)):=rfl
theorem BM(xs:List T):tq (.tup xs)=.ok (.tr (.int xs.length)):=rfl
theorem Ce(xs:List T):tq (.eu xs)=.ok (.tr (.int xs.length)):=rfl
theorem D6(xs:List T)(lo hi:Option Int):z_ (some (.eu xs)) lo hi=.ok (.fr (.lst (Y.bJ xs lo hi))):=rfl
theorem CZ(xs:List T)(lo hi:Option Int):z_ (some (.tup xs)) lo hi=.ok (.tr (.tup (Y.bJ xs lo hi))):=rfl
end A3
open Builtin Builtin.Str
open PySem PySem.Spec PyProof PyProof.Rows
namespace Z
section
variable {X:Cx} {CX:ke} {k:Nat} {f C:Addr} {fd:FuncData} {ps:List Str} {sp:Sp} {E:XK} {x m nm:Str} {p pos pos' apos:Pos} {e o i value:Expr} {es:List Expr} {ta tv td ty:TE} {t:TA}
theorem fld(K:Ih)(hK:X.K=K)(he:QE X e ta)(hb:autoParam (attributeBase e nm X.env (eval e X.env)=eval e X.env) ℜ0):QE X (.Attribute e nm pos) (rA K ta nm):=by subst hK;exact⟨zB he.h hb⟩
theorem tW(K:Ih)(hK:X.K=K)(ha:QE X o ta)(hv:QE X value tv)(hs:autoParam (swapsWith value (some (.Attribute o nm pos')) pos.line X.env=pure false) ℜ0):QS X (.Assign [.Attribute o nm pos'] value pos) (qC K ta tv nm):=by subst hK;exact⟨zH ha.h hv.h hs⟩
theorem Bs(K:Ih)(hK:X.K=K){pl:Sem Bool}(he:QE X o ta)(c:gy K C)(hm:Meth K C m f)(F:aX X.prog X.w K X.mg X.base CX k f fd ps sp)(hr:aY k X.A)(hb:Binds K fd ps [])(hx:Passes CX X E)(ha:QA X (e::es) t)
  (hst:autoParam (starEach (e::es) X.env=(false,eval e X.env)::starEach es X.env) ℜ0) (hpl:autoParam ((backTo pos (starEach es X.env)).any (·.1)=false) ℜ0)
  (ht:autoParam (eval (.Call (.Attribute o m apos) (e::es) [] pos) X.env=(do
   let ov <- eval o X.env
   standAt apos.atName
   let (f,first) <- holding [ov] (getMethod ov m pl)
   callWith pos f first (backTo pos (starEach (e::es) X.env)) (backToKw pos (keywordEach [] X.env)))) ℜ0) :
  QE X (.Call (.Attribute o m apos) (e::es) [] pos) (iq C m sp [] E ta t):=by subst hK;exact⟨vP (pl:=pl) he.h c hm F hr hb .nil hx ha.h hst hpl ht⟩
theorem Bk(K:Ih)(hK:X.K=K){pl:Sem Bool}(he:QE X o ta)(c:gy K C)(hm:Meth K C m f)(F:aX X.prog X.w K X.mg X.base CX k f fd ps sp)(hr:aY k X.A)(hb:Binds K fd ps [])(hx:Passes CX X E)
  (ht:autoParam (eval (.Call (.Attribute o m apos) [] [] pos) X.env=(do
   let ov <- eval o X.env
   standAt apos.atName
   let (f,first) <- holding [ov] (getMethod ov m pl)
   callWith pos f first (backTo pos (starEach [] X.env)) (backToKw pos (keywordEach [] X.env)))) ℜ0) :
  QE X (.Call (.Attribute o m apos) [] [] pos) (iq C m sp [] E ta lM):=by subst hK;exact⟨rY (pl:=pl) he.h c hm F hr hb .nil hx ht⟩
theorem make(K:Ih)(hK:X.K=K)(M:Mk K C f)(F:aX X.prog X.w K X.mg X.base CX k f fd ps sp)(hr:aY (k+1) X.A)(hg:Gl X x)(hm:X.mg x=some (.ref C))(hb:Binds K fd ps [])(hx:Passes CX X E)
  (ha:QA X (e::es) t) (hdb:autoParam ((x ==("__debug__":Str))=false) ℜ1) (he:autoParam (starEach (e::es) X.env=(false,eval e X.env)::starEach es X.env) ℜ0) (hpl:autoParam ((backTo pos (starEach es X.env)).any (·.1)=false) ℜ0) :
  QE X (.Call (.Name x p) (e::es) [] pos) (kM C sp [] E t):=by subst hK;exact⟨vz M F hr hg hm hb .nil hx ha.h hdb he hpl⟩
end
end Z
namespace Ap
theorem rA(K:Ih)(ta:TE)(f:Str)(σ:St)(H:Hp)(Q:VK):L2.rA K ta f σ H Q=ta σ H fun x H1=>∃ a C dx fs v,x=.ref a/\H1 a=some (.ins C dx fs)/\gy K C/\bo K C f/\fs.lookup f=some v/\Q v H1:=rfl
theorem qC(K:Ih)(ta tv:TE)(f:Str)(D:Ends)(σ:St)(H:Hp):L2.qC K ta tv f D σ H=tv σ H fun y H1=>ta σ H1 fun x H2=>∃ a C dx fs,x=.ref a/\H2 a=some (.ins C dx fs)/\gy K C/\bo K C f/\fs.length<1000/\D.nx σ (upd H2 a (.ins C dx (dh f y fs))):=rfl
theorem iq(C:Addr)(m:Str)(sp:Sp)(dvs:List V)(E:XK)(ta:TE)(t:TA)(σ:St)(H:Hp)(Q:VK):L2.iq C m sp dvs E ta t σ H Q=ta σ H fun x H1=>∃ a dx fs,x=.ref a/\H1 a=some (.ins C dx fs)/\fs.lookup m=none/\t σ H1 fun vs H2=>sp (x::(vs++dvs)) H2 Q E:=rfl
theorem kM(C:Addr)(sp:Sp)(dvs:List V)(E:XK)(t:TA)(σ:St)(H:Hp)(Q:VK):L2.kM C sp dvs E t σ H Q=t σ H fun vs H1=>∀ x dx,H1 x=none->H1 dx=none->dx≠x->sp (.ref x::(vs++dvs)) (upd (upd H1 dx (.own x)) x (.ins C dx [])) (fun v H2=>v=.ay/\Q (.ref x) H2) E:=rfl
end Ap
section
variable {prog:Program} {w:World} {A:Around} {E:Value->Shared->Prop} {s:Shared} {K:Ih} {a:Addr} {D:List (Str×List Str)} {k:Str} {tk:Tok}
theorem oC{ws:List Str}{Q:Value->Shared->Prop}(T:mi K a D)(X:K.In s.heap)(hk:KTD.datumAt k D=some ws)(h:∀ v,xq K ws v->Q v {s with toks:=s.toks+1}):wpAny (model prog w) A (getItem (.ref a) (.str k tk)) Q E s:=by
 have hT:=T.typeIs X;unfold getItem
 try with_reducible refine FE ?_
 refine EA (wpAny_sequenceKey hT (by decide) ?_)
 refine EA (FP (name:=Str.ofString "__getitem__") hT PySem.F.slot_dict_getitem
  (Gn PySem.F.slot_dict_getitem hT PySem.F.entry_dict_getitem ?_ (args_dict_getitem _ _)))
 show wpAny _ _ (dictGet a (.str k tk) >>= _) _ _ s;refine EA (qV T X (fun d v e r=>?_) fun e=>?_)
 ·rw[hk] at e;cases e;exact EL ⟨v,rfl,EL (h v r)⟩
 ·rw[hk] at e;cases e
end
variable{D:List (Str×List Str)}
noncomputable def DQ(K:Ih)(D:List (Str×List Str))(te:TE):TE:=fun σ H Q=>te σ H fun y H1=>∃ k ws,y=.str k/\KTD.datumAt k D=some ws/\∀ p,zG K p (ws.map V.str)->Q (.ref p) H1
theorem yD{X:Cx}{o e:Expr}{te:TE}{pos:Pos}{d:Addr}(ho:PE X o (tC (.ref d)))(hD:mi X.K d D)(he:PE X e te)(hs:xi e):PE X (.Subscript o e pos) (DQ X.K D te):=by
 intro pins s σ H Q I h;refine vE PySem.F.slot_dict_getitem.lookup hs (bg (ho pins s σ H (fun v H'=>v=.ref d/\H'=H) I ⟨rfl,rfl⟩) fun u s1 hq1=>?_);obtain⟨x,H1,I1,rx,ex,eh⟩:=hq1;subst ex eh;obtain rfl:u=Value.ref d:=rx;refine bg (he pins s1 σ H1 _ I1 h) fun iv s2 hq2=>?_;obtain⟨y,H2,I2,ry,k,ws,ek,e1,q⟩:=hq2;subst ek;obtain⟨t,rfl⟩:=ry;refine⟨hD.typeIs I2.dn,oC hD I2.dn e1 fun v r=>?_⟩;obtain⟨p,rfl,r⟩:=r;exact⟨.ref p,H2,I2.tok _,rfl,q p r⟩
namespace Y
noncomputable def u6(D:List (Str×List Str))(ue:UE):UE:=fun μ Q=>ue μ fun r μ'=>match r with
 |.tr (.str k)=>(match KTD.datumAt k D with
  |some ws=>Q (.tr (.dW (ws.map T.str))) μ'
  |none=>False)
 |_=>False
theorem Er{X:Cx}{e:Expr}{ue:UE}{x:Str}{pos p:Pos}(K:Ih)(hK:X.K=K)(hg:Gl X x)(hd:∃ d,X.mg x=some (.ref d)/\mi K d D)(he:YE X e ue)(hs:xi e:=by exact fun _ _=>rfl)(hdb:autoParam ((x ==("__debug__":Str))=false) ℜ1):
  YE X (.Subscript (.Name x p) e pos) (u6 D ue):=by
 obtain⟨t,q,r⟩:=he;obtain⟨d,hm,hd⟩:=hd;subst hK;refine⟨_,⟨yD (mY hg hm rfl hdb) hd q.h hs⟩,fun F ad B σ H μ Q Qt hF l q k=>r F ad B σ H μ _ _ hF l q fun v H' r1 μ' v1 f k1 q1=>?_⟩
 split at q1
 ·rename_i z;obtain⟨l1,rp⟩:=v1;obtain rfl:=Rep.e9 rp
  cases e1:KTD.datumAt z D with
  |none=>rw[e1] at q1;exact q1.elim
  |some ws =>
   rw[e1] at q1;exact⟨z,ws,rfl,e1,fun p kt=>k _ H' (.tr (.dW (ws.map T.str))) μ' ⟨l1,.dW (by rw[hF];exact kt) (iW ws)⟩ f.d k1 q1⟩
 ·exact q1.elim
end Y
namespace A
theorem u6(D:List (Str×List Str))(ue:UE)(μ:Mu)(Q:R->Mu->Prop):Y.u6 D ue μ Q=ue μ fun r μ'=>match r with
 |.tr (.str k)=>(match KTD.datumAt k D with
  |some ws=>Q (.tr (.dW (ws.map T.str))) μ'
  |none=>False)
 |_=>False:=rfl
end A
open PySem PySem.Spec PyProof PyProof.Rows PySem.W
namespace SP
section
variable (k:Nat->Int)
noncomputable def R(i j:Nat):Prop:=k i<k j\/(k i=k j/\i<j)
variable {k}
end
end SP
theorem eO{K:Ih}{x:Str}(a:PySem.W.nsIn K mainGlobals x=some none):PySem.W.tabIn K x=none:=by
 unfold PySem.W.tabIn;rw[a]
theorem fv.of{q:Program}{K:Ih}{o1 o2 o3:Option (Addr×Addr)}(nt:PySem.W.noTabs K=true)(t1:PySem.W.tabIn K "by_worth"=o1)(t2:PySem.W.tabIn K "by_weight"=o2)(t3:PySem.W.tabIn K "code_of"=o3)(nd:((o1.toList++(o2.toList++o3.toList)).map (·.2)).Nodup)
  (f1:o1=none\/((recsOf q).find? (fun e=>e.name ==("by_worth":Str))).isSome=true) (f2:o2=none\/((recsOf q).find? (fun e=>e.name ==("by_weight":Str))).isSome=true) (f3:o3=none\/((recsOf q).find? (fun e=>e.name ==("code_of":Str))).isSome=true):fv q K:=by
 refine⟨nt,?_,fun x hx=>?_⟩
 ·have e:(bt K).map (·.2.1)=(o1.toList++(o2.toList++o3.toList)).map (·.2):=by
   unfold bt e_
   cases o1<;>cases o2<;>cases o3<;>simp[List.filterMap,t1,t2,t3]
  rw[e];exact nd
 ·unfold e_ at hx;rcases EG.mp hx with rfl|hx
  ·rw[t1];exact f1
  ·rcases EG.mp hx with rfl|hx
   ·rw[t2];exact f2
   ·rw[ET.mp hx,t3];exact f3
theorem aV{u w:US}{E:Ed}{μ:Mu}(h:∀ N:Mu->Prop,(∀ μ',w E μ'->N μ')->u {E with nx:=N} μ):Y.zo u w E μ:=h _ fun _ z=>z
section
variable {K:Ih} {g:TG} {tb:TS} {D:Ends} {σ:St} {H:Hp} {te:TE} {Q:VK}
theorem lD{a:Addr}{xs:List V}(hn:xs.length<=sizeLine)(Pv:Addr->Nat->List V->Hp->Prop)(h0:∀ D,H D=none->Pv D 0 [] (upd H D (.lst [])))(hD:∀ D i ys H',Pv D i ys H'->H' D=some (.lst ys)/\ys.length=i)
  (hl:∀ D i ys H',Pv D i ys H'->a_ K H' a xs)
  (hs:∀ D i ys H' x (R:VK),xs[i]?=some x->Pv D i ys H'->(∀ v H5,H5 D=some (.lst ys)->Pv D (i+1) (ys++[v]) (upd H5 D (.lst (ys++[v])))->R v H5)->te (some x::σ) H' R) (hd:∀ D ys H',Pv D xs.length ys H'->Q (.ref D) H') :
  sN (nU K a) 1 (bU 0) kG te Q σ H:=by
 intro D hD0;refine⟨fun i m ys σ' H'=>m=xs.length-i/\i<=xs.length/\Pv D i ys H'/\∃ o,σ'=o::σ,⟨xs.length,by simp,Fo _,h0 D hD0,none,rfl⟩,?_⟩
 rintro i m ys σ' H' ⟨rfl,hi,p,o,rfl⟩;obtain⟨hDi,hly⟩:=hD _ _ _ _ p;have q:=hl _ _ _ _ p;refine⟨hDi,?_⟩;by_cases hlt:i<xs.length
 ·refine .inr ⟨⟨xs,xs[i],q,by simp[hlt]⟩,by lia,fun x H2 y=>?_⟩
  obtain⟨rfl,y⟩:=y;unfold bU kG;dsimp only;rw[if_pos rfl];exact hs D i ys H2 x _ (y xs q) p fun v H5 q1 q2=>⟨q1,xs.length-(i+1),by lia,rfl,hlt,q2,_,rfl⟩
 ·have e:i=xs.length:=by lia
  subst e;exact .inl ⟨⟨xs,q,EH _⟩,hd D ys H' p⟩
end
noncomputable def but(B:aB)(a:Addr):aB:=fun b=>B b/\b≠a
noncomputable def t9(d:Addr)(o:Obj)(kvs:List (Key×V)):It:=⟨fun i H=>H d=some (.gM o (.dK kvs))/\i<kvs.length,fun i H x H'=>H'=H/\∃ p,kvs[i]?=some p/\x=kV p.1,fun i H=>H d=some (.gM o (.dK kvs))/\i=kvs.length⟩
open Builtin Builtin.Str
open PySem PySem.Spec PyProof PyProof.Rows
open Builtin Builtin.Str
open PySem PySem.Spec PyProof PyProof.Rows
open PySem PySem.Spec PyProof PyProof.Rows PySem.W
namespace A4
noncomputable def lt(r:R)(k:R->Prop):Prop:=k r
theorem Em(t:T)(k:R->Prop):lt (R.d (.tr t)) k=k (.tr t):=rfl
theorem Ex(t:T)(k:R->Prop):lt (R.d (.fr t)) k=k (.tr t):=rfl
theorem E1(i:Nat)(k:R->Prop):lt (R.d (.br i)) k=k (.br i):=rfl
theorem Aa(o:Ou)(Q:R->Prop):lh o Q=(match o with|.no=>False|.ok r=>Q r|.ck c r=>c/\Q r):=rfl
theorem B7(o:Option (Prop×R))(Q:R->Prop):A1 o Q=(match o with|some (C,r)=>C/\Q r|none=>False):=rfl
theorem Cp(o:Option (List T×Option (Nat×List T)))(Q:List T->Option (Nat×List T)->Prop):A2 o Q=(match o with|some (ts,g)=>Q ts g|none=>False):=rfl
theorem Bj(o:Option T)(p:Prop):Y.Cs o p=(match o with|some (.lst _)=>p|_=>False):=by
 cases o with|none=>rfl|some t=>cases t<;>rfl
theorem wA(u:U2)(ua ub:UE)(μ:Mu)(Q:R->Mu->Prop):Y.wA u ua ub μ Q=ua μ fun r1 μ1=>ub μ1 fun r2 μ2=>lt r1.d fun x=>lt r2.d fun y=>u x y μ2 Q:=rfl
theorem mR(ue:UE)(us:UA)(μ:Mu)(Q:List R->Mu->Prop):Y.mR ue us μ Q=ue μ fun r μ1=>us μ1 fun rs μ2=>lt r.d fun x=>Q (x::rs) μ2:=rfl
end A4
variable{X:Cx}{C c f:Addr}{H:Hp}{e o:Expr}{K:Ih}{ue uo:UE}{apos pos:Pos}{es:List Expr}{st:Stmt}{P:Program}{mg:Str->Option Value}{base:Heap}{fd:FuncData}{k:Nat}{sp:Sp}{m:Str}
theorem ints_get:∀{ns:List Int} {ah:List Value},Vals (ns.map V.int) ah->∀(m:Nat) (y:Int),ns[m]?=some y->∃ t,ah[m]?=some (.int y t):=fun r m y e=>by
 obtain⟨u,h1,h2⟩:=r.get (i:=m) (x:=V.int y) (by rw[Fh,e];rfl)
 obtain⟨t,rfl⟩:=(show RelV (.int y) u from h2);exact⟨t,h1⟩
namespace Y
noncomputable def BN:V->List V->Hp->VK->Prop:=fun x vs H Q=>∃(a:Addr) (ws:List Int) (k:Int) (j:Nat),x=.ref a/\H a=some (.lst (ws.map V.int))/\vs=[.int k]/\ws[j]?=some k/\(∀ m,m<j->ws[m]?≠some k)/\Q (.int (j:Nat)) H
theorem uq:Ct X "list.index" BN:=by
 intro pins s σ H x xs v us Q I rx rs h;obtain⟨a,ws,k,j,rfl,hH,rfl,hj,hno,q⟩:=h;cases rx;obtain⟨u,rfl,t,rfl⟩:=vals1 rs;obtain⟨z,ah,n,r,hl,e⟩:=I.mB hH;obtain⟨t',hit⟩:=ints_get r j k hj;have hjl:j<ws.length:=(EM.mp hj).1;rw[EJ] at z hl;have hji:j<ah.toArray.size:=by rw[EE];lia
 have sz:(sizeLine:Int)<2^63-1:=by decide
 have hje:ah.toArray[j]=.int k t':=by
  have:ah.toArray[j]?=some (.int k t'):=by rw[GB];exact hit
  exact (Ft.mp this).2
 have hall:∀(m:Nat) (hm:m<ah.toArray.size),∃ y ty,ah.toArray[m]=.int y ty/\ws[m]?=some y:=fun m hm=>by
  have hm':m<ws.length:=by rw[EE] at hm;lia
  have e1:=EK hm';obtain⟨ty,hy⟩:=ints_get r m _ e1;have:ah.toArray[m]?=some (.int ws[m] ty):=by rw[GB];exact hy
  exact⟨_,ty,(Ft.mp this).2,e1⟩
 refine FW PySem.F.slot_list_index ⟨_,e,rfl⟩ PySem.F.entry_list_index (PySem.F.args_list_index_2 _ _) (SeqAt.list_indexAt a ah.toArray n none _ (.int k t) (fun y=>match y with|.int y _=>y == k|_=>false) j hji (by lia) (by rw[hje];exact GV k) fun m hm hmj=>?_) ⟨e,fun y hy=>?_,⟨.int (j:Nat),H,I.tok _,⟨_,rfl⟩,q⟩⟩
 ·obtain⟨y,ty,ey,ew⟩:=hall m hm;rw[ey];exact Fb.mpr fun z=>hno m hmj (by rw[ew,z])
 ·obtain⟨m,hm,rfl⟩:=Array.mem_iff_getElem.mp hy;obtain⟨y,ty,ey,ew⟩:=hall m hm;rw[ey];exact SeqAt.EqAt.int_int _ _ _ _
end Y
section
variable {X:Cx} {pins:List (Addr×Obj)} {σ:List (Option V)} {H:Hp} {s:Shared}
noncomputable def soft:HO->Bool
 |.lst _=>true
 |.ext _=>true
 |_=>false
theorem Inv.alter(I:Inv X pins σ H s){o1 o2:HO}(h1:H c=some o1)(k1:soft o1=true)(ok:bu X.prog X.w (upd H c o2) s.heap c o2):Inv X pins σ (upd H c o2) s:=by
 have ne:∀{b o},H b=some o->soft o=false->b≠c:=fun {b o} e k z=>by
  subst z;rw[h1] at e;cases e;rw[k1] at k;cases k
 have nn:∀{b},H b=none->b≠c:=fun {b} e z=>by subst z;rw[h1] at e;cases e
 refine⟨I.ok,I.os,I.bare,⟨I.base.keep,I.base.slot,fun b o e e2 n=>?_,I.base.there,fun b xs e=>?_,fun b o u e=>?_,fun b ps e=>?_⟩,I.loc,I.cell,?_,fun x d e=>?_,fun p hp=>?_,fun b o e=>?_,I.len⟩
 ·have:=I.base.free b o e e2 n;rw[af (nn this)];exact this
 ·have:=I.base.gr b xs e;rw[af (ne this rfl)];exact this
 ·have:=I.base.fL b o u e;rw[af (ne this rfl)];exact this
 ·obtain⟨m,this⟩:=I.base.fj b ps e;exact⟨m,by rw[af (ne this rfl)];exact this⟩
 ·rw[af (nn I.free)];exact I.free
 ·rw[af (nn (I.bH x d e))];exact I.bH x d e
 ·obtain⟨p1,p2,p3⟩:=I.pin p hp;exact⟨p1,by rw[af (nn p2)];exact p2,p3⟩
 ·by_cases z:b=c
  ·subst z;rw[ae] at e;cases e;exact ok
  ·rw[af z] at e;exact (I.aM b o e).hW (fun _ _ _ q=>q) (fun b' q=>by rw[af (ne q rfl)];exact q) (fun b' xs q=>by rw[af (ne q rfl)];exact q) (fun b' o' u q=>by rw[af (ne q rfl)];exact q)
noncomputable def intOf:Value->Int
 |.int i _=>i
 |_=>0
theorem mV:∀{ah:List Value},(∀ v∈ah,∃(i:Int) (t:Tok),v=.int i t/\0<=i)->Vals ((ah.map intOf).map V.int) ah/\∀ z∈ah.map intOf,0<=z
 |[],_=>⟨.nil,fun z hz=>by cases hz⟩
 |v::ah,h=>by
  obtain⟨i,t,rfl,h0⟩:=h v EN;obtain⟨r,q⟩:=mV fun w hw=>h w (ED _ hw);refine⟨.cons ⟨t,rfl⟩ r,fun z hz=>?_⟩;rcases EG.mp hz with rfl|hz
  ·exact h0
  ·exact q z hz
theorem eJ:∀{ns:List Int} {ah:List Value},Vals (ns.map V.int) ah->(∀ z∈ns,0<=z)->ah.length=ns.length/\∀ v∈ah,∃(i:Int) (t:Tok),v=.int i t/\0<=i
 |[],[],_,_=>⟨rfl,fun v hv=>by cases hv⟩
 |[],_::_,r,_=>by cases r
 |_::_,[],r,_=>by cases r
 |n::ns,v::ah,.cons h r,hz=>by
  obtain⟨e,q⟩:=eJ r fun z hz'=>hz z (ED _ hz');refine⟨Fc (·+1) e,fun w hw=>?_⟩;rcases EG.mp hw with rfl|hw
  ·obtain⟨t,rfl⟩:=(show RelV (.int n) w from h);exact⟨n,t,rfl,hz n EN⟩
  ·exact q w hw
theorem mP(c:Addr)(n:Nat):∀ h1 h2:Heap,eS c n h1->(∀ o,h1.get? c=some o->h2.get? c=some o)->eS c n h2:=fun h1 h2 ⟨ah,m,e,q⟩ k=>⟨ah,m,k _ e,q⟩
theorem Inv.Dz(I:Inv X pins σ H s){n:Nat}(hc:H c=some (.ext (eS c n)))(hn:n<=sizeLine):∃ ns:List Int,ns.length=n/\(∀ z∈ns,0<=z)/\Inv X pins σ (upd H c (.lst (ns.map V.int))) s:=by
 obtain⟨⟨ah,m,e,hl,q⟩,_,_⟩:=I.aM c _ hc;obtain⟨r,h0⟩:=mV q;refine⟨ah.map intOf,by rw[EJ];exact hl,h0,I.alter hc rfl ⟨by rw[EJ,EJ,hl];exact hn,ah,m,r,e⟩⟩
theorem pW{o o':HO}(h:H c=some o):upd (upd H c o') c o=H:=by
 funext b
 unfold upd;split
 ·rename_i z;rw[z,h]
 ·rfl
theorem Inv.DW{n:Nat}{ns:List Int}(I:Inv X pins σ (upd H c (.lst (ns.map V.int))) s)(hc:H c=some (.ext (eS c n)))(hl:ns.length=n)(h0:∀ z∈ns,0<=z):Inv X pins σ H s:=by
 obtain⟨z,ah,m,r,e⟩:=I.aM c _ ae;obtain⟨el,q⟩:=eJ r h0;have:=I.alter (o2:=.ext (eS c n)) ae rfl ⟨⟨ah,m,e,el.trans hl,q⟩,⟨_,e⟩,mP c n⟩;rw[pW hc] at this;exact this
end
noncomputable def Cg:R2:=fun x y H Q=>∃(c:Addr) (n:Nat) (i:Int),x=.ref c/\y=.int i/\H c=some (.ext (eS c n))/\n<=1000/\0<=i/\i<n/\∀ v:Int,0<=v->Q (.int v) H
theorem AK:lK X Cg:=by
 intro value slice pins s σ H x y v u Q I rx ry h hsub;obtain⟨c,n,i,rfl,rfl,hc,hn,i0,i1,q⟩:=h;obtain⟨ns,hl,h0,I2⟩:=I.Dz hc (ES hn (by decide))
 obtain⟨j,rfl⟩:∃ j:Nat,i=j:=⟨i.toNat,by lia⟩
 have hj:j<ns.length:=by lia
 refine bg (nu value slice pins s σ _ _ _ v u (fun v H'=>H'=upd H c (.lst (ns.map V.int))/\v=.int ns[j]) I2 rx ry ⟨c,_,j,.int ns[j],rfl,rfl,a_.of ae,cA (by rw[Fh,EK hj];rfl),rfl,rfl⟩ hsub) fun u' s' ⟨v',H',I',rv,e1,e2⟩=>?_
 subst e1 e2;exact⟨_,H,I'.DW hc hl h0,rv,q _ (h0 _ (FD hj))⟩
noncomputable def wU:sJ:=fun o i v H Q=>∃(c:Addr) (n:Nat) (k z:Int),o=.ref c/\i=.int k/\v=.int z/\H c=some (.ext (eS c n))/\n<=1000/\0<=k/\k<n/\0<=z/\Q H
theorem yI:uE X wU:=by
 intro pins s σ H o i v ov iv u Q I ro ri rv h;obtain⟨c,n,k,z,rfl,rfl,rfl,hc,hn,k0,k1,z0,q⟩:=h;obtain⟨ns,hl,h0,I2⟩:=I.Dz hc (ES hn (by decide))
 obtain⟨j,rfl⟩:∃ j:Nat,k=j:=⟨k.toNat,by lia⟩
 have hj:j<ns.length:=by lia
 refine bg (set_list pins s σ _ _ _ _ ov iv u (fun H'=>H'=upd H c (.lst ((ns.set j z).map V.int))) I2 ro ri rv ⟨c,_,j,j,rfl,rfl,ae,by rw[EJ];unfold i3;rw[EI (by lia),EI (by lia)];simp,?_⟩) fun _ s' ⟨H',I',e⟩=>?_
 ·funext b
  unfold upd;split
  ·rw[HB]
  ·rfl
 ·subst e;refine⟨H,I'.DW hc (by rw[Fz];exact hl) fun w hw=>?_,q⟩
  rcases List.mem_or_eq_of_mem_set hw with hw|rfl
  ·exact h0 w hw
  ·exact z0
noncomputable def wy:List V->Hp->VK->Prop:=fun xs H Q=>∃(c:Addr) (n:Nat),xs=[.ref c]/\H c=some (.ext (eS c n))/\n<=1000/\Q (.int (n:Nat)) H
theorem oO:aP X (.builtin "len") wy:=by
 intro pins s σ H xs us Q I r h;obtain⟨c,n,rfl,hc,hn,q⟩:=h;obtain⟨ns,hl,h0,I2⟩:=I.Dz hc (ES hn (by decide))
 refine bg (eV pins s σ _ _ us (fun v H'=>H'=upd H c (.lst (ns.map V.int))/\v=.int (n:Nat)) I2 r ⟨c,_,rfl,.inl (a_.of ae),rfl,by rw[EJ,hl]⟩) fun u' s' hq1=>?_
 obtain⟨v',H',I',rv,e1,e2⟩:=hq1;subst e1 e2;exact⟨_,H,I'.DW hc hl h0,rv,q⟩
noncomputable def A7(t:TE):TE:=fun σ H Q=>t σ H fun v H'=>∃(c:Addr) (ns:List Int),H' c=some (.lst (ns.map V.int))/\(∀ z∈ns,0<=z)/\Q v (upd H' c (.ext (eS c ns.length)))
theorem yW{t:TE}(h:PE X e t):PE X e (A7 t):=by
 intro pins s σ H Q I q;refine bg (h pins s σ H _ I q) fun u s' hq2=>?_;obtain⟨v,H',I',rv,c,ns,hc,h0,q'⟩:=hq2;obtain⟨z,ah,m,r,e⟩:=I'.aM c _ hc;obtain⟨el,qq⟩:=eJ r h0;exact⟨v,_,I'.alter (o2:=.ext (eS c ns.length)) hc rfl ⟨⟨ah,m,e,el,qq⟩,⟨_,e⟩,mP c _⟩,rv,q'⟩
namespace Y
noncomputable def rk:U2:=fun r1 r2 μ Q=>match r1,r2 with
 |.tr (.il n),.tr (.int i)=>n<=1000/\0<=i/\i<n/\∀ v:Int,0<=v->Q (.tr (.int v)) μ
 |_,_=>False
theorem zh:ji K Cg rk:=by
 intro F ad B σ H μ Q Qt x y r1 r2 hF l h1 h2 q k;unfold rk at q
 split at q
 ·cases h1 with
  |il m h =>
   obtain rfl:=Rep.bf h2;obtain⟨hn,i0,i1,q⟩:=q;exact⟨_,_,_,rfl,rfl,h,hn,i0,i1,fun v hv=>k _ H _ μ (Vr.flat l (.int _)) Fr.refl (Kp.refl μ) (q v hv)⟩
 ·exact q.elim
noncomputable def kF:UC:=fun rs μ Q=>match rs with
 |[.tr (.il n)]=>n<=1000/\Q (.tr (.int (n:Nat))) μ
 |_=>False
theorem vF:RC K wy kF:=by
 intro F ad B σ H μ Q Qt xs rs hF l ps q k;unfold kF at q
 split at q
 ·obtain⟨_,_,rfl,h,ps⟩:=Paired.aC ps;obtain rfl:=Paired.cI ps
  cases h with
  |il m h=>exact⟨_,_,rfl,h,q.1,k _ H _ μ (Vr.flat l (.int _)) Fr.refl (Kp.refl μ) q.2⟩
 ·exact q.elim
noncomputable def Aj(uo ui:UE):UG:=fun r μ Q=>match r.d with
 |.tr (.int z)=>uo μ fun ro μ1=>ui μ1 fun ri μ2=>(match ro,ri with
  |.tr (.il n),.tr (.int k)=>n<=1000/\0<=k/\k<n/\0<=z/\Q μ2
  |_,_=>False)
 |_=>False
theorem Cq{i:Expr}{ui:UE}(ho:YE X o uo)(hi:YE X i ui)
  (ha:autoParam (∀ v,assign (.Subscript o i pos) X.env v=(do
   let ov <- holding [v] (eval o X.env)
   let iv <- holding [v,ov] (eval i X.env)
   standAt pos
   holding [v,ov,iv] (setItem ov iv v)
   release [v,ov,iv] [])) ℜ3):YG X (.Subscript o i pos) (Aj uo ui):=by
 obtain⟨t,q,r⟩:=ho;obtain⟨t',q',r'⟩:=hi;refine⟨_,(⟨rC q.h q'.h yI ha⟩:QG X (.Subscript o i pos) (oK t t' wU)),fun F ad B σ H μ v rr B0 H0 Q Qt hF h f q k=>?_⟩;unfold Aj at q;have f0:Fr B0 H0 B H:=fun b o h n=>⟨(f b o h n).1,fun z=>(f b o h n).2 (by cases rr<;>first|exact z | (cases v<;>first|exact z|exact .inr z))⟩
 have hv:=h.hv
 split at q
 ·rename_i z e0;rw[e0] at hv
  cases (show Rep F.K H B v (.int z) from hv)
  refine r F ad B σ H μ _ _ hF h.rl q fun ov H1 r1 μ1 v1 f1 k1 q1=>r' F ad B σ H1 μ1 _ _ hF v1.rl q1 fun iv H2 r2 μ2 v2 f2 k2 q2=>?_
  split at q2
  ·rename_i n kk;have rp:=v2.2;obtain rfl:=Rep.bf rp;have ro:=(v1.hv.fr f2.d k2)
   cases (show Rep F.K H2 B ov (.il n) from ro) with
   |il m hc =>
    obtain⟨hn,k0,k1',z0,q3⟩:=q2;exact⟨_,n,kk,z,rfl,rfl,rfl,hc,hn,k0,k1',z0,k ad B σ _ _ v2.rl (f0.trans (f1.d.trans f2.d)) q3⟩
  ·exact q2.elim
 ·exact q.elim
noncomputable def su:UC:=fun rs μ Q=>match rs with
 |[.tr (.int i)]=>Q (.tr (.int (if i<0 then -i else i))) μ
 |_=>False
theorem xy:RC K (fun xs H Q=>∃ i,xs=[.int i]/\Q (.int (if i<0 then -i else i)) H) su:=by
 intro F ad B σ H μ Q Qt xs rs hF l ps q k;unfold su at q
 split at q
 ·obtain⟨_,_,rfl,h,ps⟩:=Paired.aC ps;obtain rfl:=Paired.cI ps
  cases cV h
  exact⟨_,rfl,k _ H _ μ (Vr.flat l (.int _)) Fr.refl (Kp.refl μ) q⟩
 ·exact q.elim
noncomputable def n_(ue:UE)(us:UA):UE:=fun μ Q=>ue μ fun r μ1=>match r with
 |.fr (.lst ts)=>us μ1 fun rs μ2=>(match trees rs with
  |some us'=>(∃ ms:List Int,ts=ms.map T.int/\∀ z∈ms,0<=z)/\us'.length<1000/\Q (.fr (.lst (.il ts.length::us'))) μ2
  |none=>False)
 |_=>False
theorem qY{F:Fx}{ad:Nat->Addr}{B B':aB}{σ:St}{μ:Mu}{p:Addr}{o o':HO}{vs0:List V}(l:Rl {F with G:=fun a=>if a=c then some (HO.lst vs0) else F.G a} ad (more B c) σ H μ)(hc:¬ B c)(h0:F.H0 c=none)(hg:∀ a vs,F.G a=some vs->B a)(hp:H p=none)
  (b1:∀ b,B b->B' b) (b2:∀ b,B' b->b=p\/B b):Rl F ad B' σ (upd (upd H p o) c o') μ/\Fr (more B c) H B' (upd (upd H p o) c o'):=by
 obtain⟨gc1,_,gc3⟩:=l.gh c (.lst vs0) (EI rfl);have cp:c≠p:=fun z=>by rw[z,hp] at gc1;cases gc1
 have st:∀{b u},H b=some u->b≠c->upd (upd H p o) c o' b=some u:=fun {b u} e n=>by
  rw[af n,af (fun z=>by rw[z,hp] at e;cases e)];exact e
 have f:Fr (more B c) H B' (upd (upd H p o) c o'):=fun b u e n=>⟨st e fun z=>n (.inl z),fun z=>(b2 b z).elim (fun z=>by rw[z,hp] at e;cases e) fun z=>n (.inr z)⟩
 refine⟨⟨l.len,fun i s e=>?_,l.inj,l.par,fun b z=>?_,fun b z=>?_,fun b u e n=>?_,fun a vs e=>?_⟩,f⟩
 ·have k:=l.slot i s e;have nb:∀ d,s.box=some d->ad i≠c:=fun d hd=>gc3 i s d e hd;have bb:∀ d,s.box=some d->more B c (ad i)->B' (ad i):=fun d hd z=>z.elim (fun z=>absurd z (nb d hd)) (b1 _);unfold fU at k ⊢
  split at k
  ·trivial
  ·obtain⟨v,e1,r⟩:=k;exact⟨v,e1,r.fr f⟩
  ·obtain⟨e1,b,z,pp,x⟩:=k;obtain⟨u,q⟩:=x.aU;exact⟨e1,bb _ rfl b,z,pp,x.of ((st q (nb _ rfl)).trans q.symm) f⟩
  ·obtain⟨e1,b,pp,x⟩:=k;obtain⟨u,q⟩:=x.aU;exact⟨e1,bb _ rfl b,pp,x.of ((st q (nb _ rfl)).trans q.symm) f⟩
 ·rcases l.bc b z with rfl|z'
  ·obtain⟨u,e⟩:=F.bh _ z;rw[h0] at e;cases e
  ·exact b1 b z'
 ·rcases b2 b z with rfl|z
  ·exact⟨o,by rw[af (Ne.symm cp),ae]⟩
  ·obtain⟨u,e⟩:=l.aU b (.inr z);exact⟨u,st e fun z'=>hc (z' ▸ z)⟩
 ·exact st (l.old b u e n) fun z=>by rw[z,h0] at e;cases e
 ·have ac:a≠c:=fun z=>hc (z ▸ hg a vs e);obtain⟨g1,g2,g3⟩:=l.gh a vs (show (if a=c then some (HO.lst vs0) else F.G a)=some vs by rw[EB ac];exact e)
  exact⟨st g1 ac,b1 _ (g2.elim (fun z=>absurd z ac) id),g3⟩
theorem cW{us:UA}{pos:Pos}(he:YE X e ue)(hs:YA X es us)(h1:autoParam (cN e=true) ℜ0):YE X (.List (e::es) pos) (n_ ue us):=by
 obtain⟨t,q,r⟩:=he;obtain⟨t',q',r'⟩:=hs;refine⟨_,⟨yW (Z.lst (pos:=pos) (Z.cons q q' h1)).h⟩,fun F ad B σ H μ Q Qt hF l q k=>?_⟩;unfold A7;rw[Ap.pk,Ap.iy];refine r F ad B σ H μ _ _ hF l q fun x H1 r1 μ1 v1 f1 k1 q1=>?_
 split at q1
 ·rename_i ts;obtain⟨l1,c,rfl,nc,h0,l2,vs0,hc,rp0⟩:=v1;have gh0:=l.gh;have l3:Rl {F with G:=fun a=>if a=c then some (HO.lst vs0) else F.G a} ad (more B c) σ H1 μ1:=⟨l2.len,l2.slot,l2.inj,l2.par,l2.bc,l2.aU,l2.old,fun a vs e=>by
   have e:(if a=c then some (HO.lst vs0) else F.G a)=some vs:=e
   by_cases z:a=c
   ·subst z;rw[EI rfl] at e;cases e;exact⟨hc,.inl rfl,fun i s d e1 e2 z=>nc (z ▸ ((l1.slot i s e1).boxed e2).2.1)⟩
   ·rw[EB z] at e;exact l2.gh a vs e⟩
  refine r' {F with G:=fun a=>if a=c then some (HO.lst vs0) else F.G a} ad (more B c) σ H1 μ1 _ _ hF l3 q1 fun vs H2 rs μ2 l4 ps f2 k2 q2=>?_
  split at q2
  ·rename_i us' e;obtain⟨⟨ms,rfl,hz⟩,hl,q3⟩:=q2;have rp:=gv ps e;have e0:vs0=ms.map V.int:=ee rp0;refine⟨by rw[E_,rp.length];exact ES (show _<=1000 by lia) (by decide),fun p hp=>?_⟩
   obtain⟨g1,_,_⟩:=l4.gh c (.lst vs0) (EI rfl);have cp:c≠p:=fun z=>by rw[z,hp] at g1;cases g1
   refine⟨c,ms,by rw[af cp,g1,e0],hz,?_⟩
   have hg:∀ a vs,F.G a=some vs->B a:=fun a vs e=>(l.gh a vs e).2.1;obtain⟨m1,_⟩:=qY (o:=.lst (.ref c::vs)) (o':=.ext (eS c ms.length)) (B':=B) l4 nc h0 hg hp (fun _ z=>z) (fun _ z=>.inr z);obtain⟨m2,f3⟩:=qY (o:=.lst (.ref c::vs)) (o':=.ext (eS c ms.length)) (B':=more B p) l4 nc h0 hg hp (fun _ z=>.inr z) (fun _ z=>z);have np:¬ B p:=fun z=>by
    obtain⟨u,e⟩:=l4.aU p (.inr z);rw[hp] at e;cases e
   have hp0:=Rl.qK l4 hp;rw[EJ] at q3;refine k (.ref p) _ (.fr (.lst (.il ms.length::us'))) μ2 ⟨m1,p,rfl,np,hp0,m2,.ref c::vs,by rw[af (Ne.symm cp),ae],.cons (.il (fun z=>z.elim cp nc) ae) (rp.fr f3)⟩ ((f1.trans f2).trans f3) (k1.trans k2) q3
  ·exact q2.elim
 ·exact q1.elim
end Y
namespace A
theorem su(i:Int)(μ:Mu)(Q:R->Mu->Prop):Y.su [.tr (.int i)] μ Q=Q (.tr (.int (if i<0 then -i else i))) μ:=rfl
theorem n_(ue:UE)(us:UA)(μ:Mu)(Q:R->Mu->Prop):Y.n_ ue us μ Q=ue μ fun r μ1=>match r with
 |.fr (.lst ts)=>us μ1 fun rs μ2=>(match Y.trees rs with
  |some us'=>(∃ ms:List Int,ts=ms.map T.int/\∀ z∈ms,0<=z)/\us'.length<1000/\Q (.fr (.lst (.il ts.length::us'))) μ2
  |none=>False)
 |_=>False:=rfl
theorem rk(n:Nat)(i:Int)(μ:Mu)(Q:R->Mu->Prop):Y.rk (.tr (.il n)) (.tr (.int i)) μ Q=(n<=1000/\0<=i/\i<n/\∀ v:Int,0<=v->Q (.tr (.int v)) μ):=rfl
theorem kF(n:Nat)(μ:Mu)(Q:R->Mu->Prop):Y.kF [.tr (.il n)] μ Q=(n<=1000/\Q (.tr (.int (n:Nat))) μ):=rfl
theorem Aj(uo ui:UE)(z:Int)(μ:Mu)(Q:Mu->Prop):Y.Aj uo ui (.tr (.int z)) μ Q=uo μ fun ro μ1=>ui μ1 fun ri μ2=>(match ro,ri with
  |.tr (.il n),.tr (.int k)=>n<=1000/\0<=k/\k<n/\0<=z/\Q μ2
  |_,_=>False):=rfl
end A
open PySem PySem.Calls PySem.NumText PySem.Spec PyProof PyProof.Rows
abbrev Src:=Bool×Addr×Addr
theorem mX{α:Type}{own:T->Mu->Option Mu}{dr:Mu->Mu}{ut:UT}{Q:R->Mu->Prop}(g f:α->T)(xs:List α){μ:Mu}(hl:xs.length<=20000)
  (hs:∀ x∈xs,∀(acc:List T) (N:List T->Mu->Prop),N (acc++[f x]) μ->(match own (g x) μ with
   |none=>False
   |some μ1=>ut μ1 fun b μ2=>if b=true then ue μ2 fun rr μ3=>(match rr.d with
     |.tr t'=>N (acc++[t']) (dr μ3)
     |_=>False) else N acc (dr μ2))) (fin:Q (.fr (.lst (xs.map f))) μ):Y.kQ none own dr ut ue Q (xs.map g) [] μ:=by
 refine gw (fun rest acc μ'=>∃ done todo:List α,done++todo=xs/\rest=todo.map g/\acc=done.map f/\μ'=μ) ⟨[],xs,rfl,rfl,rfl,rfl⟩ ?_ ?_
 ·rintro acc μ' ⟨done,todo,e1,e2,rfl,rfl⟩;have e3:todo=[]:=List.map_eq_nil_iff.mp e2.symm;subst e3;rw[FV] at e1;subst e1;exact⟨trivial,fin⟩
 ·rintro t r acc μ' M ⟨done,todo,e1,e2,rfl,rfl⟩ k
  cases todo with
  |nil=>cases e2
  |cons x todo =>
   obtain⟨rfl,rfl⟩:=List.cons.inj e2;refine⟨trivial,?_,hs x (by rw[<- e1];simp) (done.map f) M (k _ _ ⟨done++[x],todo,by rw[<- e1];simp,rfl,by rw[Ff];rfl,rfl⟩)⟩
   rw[EJ];have:=Fc List.length e1;rw[EU] at this;exact Ge (show done.length<=20000 by lia) (by decide)
namespace Y
noncomputable def oh(uo ue:UE):UE:=fun μ Q=>uo μ fun ro μ1=>match ro with
 |.tr (.lst ts)=>ue μ1 fun r μ2=>(match r with
  |.tr (.int k)=>∃(ws:List Int) (i:Nat),ts=ws.map T.int/\ws[i]?=some k/\(∀ m,m<i->ws[m]?≠some k)/\Q (.tr (.int (i:Nat))) μ2
  |_=>False)
 |_=>False
theorem CS(K:Ih)(hK:X.K=K)(ho:YE X o uo)(he:YE X e ue)(h1:autoParam (cN e=true) ℜ0)
  (hbase:autoParam (attributeBase o "index" X.env (eval o X.env)=eval o X.env) ℜ0) (hline:autoParam ((apos.endLine == pos.line)=true) ℜ0):YE X (.Call (.Attribute o "index" apos) [e] [] pos) (oh uo ue):=by
 obtain⟨t,q,r⟩:=ho;obtain⟨t',q',r'⟩:=he;refine⟨_,Z.bm K hK PySem.F.plainAttrs_list PySem.F.slot_list_index PySem.F.type_list_index uq q (Z.cons q' Z.nil (h:=h1)) hbase hline (by simp[h1]) (show 1<30 by decide),fun F ad B σ H μ Q Qt hF l q k=>r F ad B σ H μ _ _ hF l q fun v H1 r1 μ1 v1 f1 k1 q1=>?_⟩
 split at q1
 ·rename_i ts;obtain⟨l1,rp⟩:=v1;obtain⟨a,vs,rfl,nb,hl,rv⟩:=Rep.cW rp;refine⟨.inl ⟨rfl,_,a_.of hl⟩,r' F ad B σ H1 μ1 _ _ hF l1 q1 fun v2 H2 r2 μ2 v2r f2 k2 q2=>?_⟩
  split at q2
  ·rename_i z;obtain⟨l2,rp⟩:=v2r;obtain rfl:=Rep.bf rp;obtain⟨ws,i,rfl,h2,h3,q3⟩:=q2;rw[ee rv] at hl;exact⟨a,ws,z,i,rfl,(f2.d a _ hl nb).1,rfl,h2,h3,k _ H2 _ μ2 (Vr.flat l2 (.int _)) (f1.d.trans f2.d) (k1.trans k2) q3⟩
  ·exact q2.elim
 ·exact q1.elim
end Y
theorem A.oh(uo ue:UE)(μ:Mu)(Q:R->Mu->Prop):Y.oh uo ue μ Q=uo μ fun ro μ1=>match ro with
 |.tr (.lst ts)=>ue μ1 fun r μ2=>(match r with
  |.tr (.int k)=>∃(ws:List Int) (i:Nat),ts=ws.map T.int/\ws[i]?=some k/\(∀ m,m<i->ws[m]?≠some k)/\Q (.tr (.int (i:Nat))) μ2
  |_=>False)
 |_=>False:=rfl
noncomputable def Cn(K:Ih)(u:US):TS:=fun D σ H=>∃(F:Fx) (E:Ed) (ad:Nat->Addr) (B:aB) (μ:Mu),F.K=K/\Rl F ad B σ H μ/\u E μ/\kL F B H D E
theorem YS.lz{u:US}(h:YS X st u):QS X st (Cn X.K u):=⟨fun pins s σ H D I hh=>by
 obtain⟨F,E,ad,B,μ,hF,l,q,k⟩:=hh;obtain⟨t,qe,r⟩:=h;exact qe.h pins s σ H D I (r F D E ad B σ H μ hF l q k)⟩
noncomputable def Ac(X:Cx)(u:jw):TS:=fun D σ H=>∃(F:Fx) (E:Ed) (Xt:Xw) (ad:Nat->Addr) (B:aB) (μ:Mu),F.K=X.K/\Rl F ad B σ H μ/\u E Xt μ/\kL F B H D E/\kr F B H (jL X) Xt
theorem pP.lz{u:jw}(h:pP X st u):QS X st (Ac X u):=⟨fun pins s σ H D I hh=>by
 obtain⟨F,E,Xt,ad,B,μ,hF,l,q,k,hX⟩:=hh;obtain⟨t,qe,r⟩:=h;exact qe.h pins s σ H D I (r F D E Xt ad B σ H μ hF l q k hX)⟩
section
variable {K:Ih} {F:Fx} {ad:Nat->Addr} {B:aB} {σ:St} {H H':Hp} {μ:Mu}
theorem nF{u:US}{D:Ends}(hF:F.K=K)(l:Rl F ad B σ H μ)(N:Mu->Prop)(q:u {nx:=N,rt:=fun _ _=>False} μ)(k:∀ ad' B' σ' H' μ',Rl F ad' B' σ' H' μ'->Fr B H B' H'->N μ'->D.nx σ' H'):Cn K u D σ H:=
 ⟨F,_,ad,B,μ,hF,l,q,k,fun _ _ _ _ _ _ _ _ z=>z.elim,fun _ _ _ _ _ _ _ z=>z.elim,fun _ _ _ _ _ _ _ z=>z.elim⟩
theorem h_{u:jw}{D:Ends}(hF:F.K=X.K)(l:Rl F ad B σ H μ)(N:Mu->Prop)(Xt:Xw)(q:u {nx:=N,rt:=fun _ _=>False} Xt μ)(k:∀ ad' B' σ' H' μ',Rl F ad' B' σ' H' μ'->Fr B H B' H'->N μ'->D.nx σ' H')(hX:kr F B H (jL X) Xt):Ac X u D σ H:=
 ⟨F,_,Xt,ad,B,μ,hF,l,q,⟨k,fun _ _ _ _ _ _ _ _ z=>z.elim,fun _ _ _ _ _ _ _ z=>z.elim,fun _ _ _ _ _ _ _ z=>z.elim⟩,hX⟩
end
theorem jn.Ec{w:World}{x qual:Str}{N ps:List Str}(F:jn K x qual st f fd)(S:av N ps (aa st))(len:∀ vs H Q E,sp vs H Q E->vs.length=ps.length)
  (hbody:∀(cdv:Value) (A:Around) (outer:List Env) (s:Shared) (H:Hp) (vs:List V) (Q:VK) (E:XK),aY k (A.deeper (envOfC qual (aa st) s.heap.objs.size f cdv))->sp vs H Q E ->
   ∃ t,QB (dH (pS P w) P w K mg base N qual (aa st) f cdv A outer s H E) (aG st) t/\t {nx:=fun _ H'=>Q .ay H',rt:=Q} (start N vs) H):aX P w K mg base (pS P w) (k+1) f fd ps sp:=by
 obtain⟨oc,od,kV,doc,pm,an,cdv,ct,osl,rfl,lk,hcd⟩:=F.ex;exact r_ (CX:=pS P w) lk hcd S len fun A outer s H vs Q E hr hsp=>let ⟨t,q,r⟩:=hbody cdv A outer s H vs Q E hr hsp;⟨t,q.h,r⟩
theorem aX.calm{w:World}{ps:List Str}{sp':Sp}(G:aX P w K mg base (pS P w) k f fd ps sp)(to:∀ vs H Q E,sp' vs H Q E->sp vs H Q (fun _ _ _=>False)):aX P w K mg base aW k f fd ps sp':=by
 refine⟨fun vs H Q E q=>G.len vs H Q _ (to _ _ _ _ q),fun A outer s H args us vs Q E hr e0 hb r q=>Hc (G.run A outer s H args us vs Q _ hr e0 hb r (to _ _ _ _ q)) fun r s' hq=>?_⟩
 cases r with
 |error e =>
  obtain⟨_,_,_,_,_,_,_,_,_,_,_,_,_,_,_,_,z⟩:=hq;exact z.elim
 |ok fl=>cases fl<;>exact hq
noncomputable def xv(X:Cx)(C:Addr)(m:Str)(sp:Sp)(ta:TE)(t:TA):TE:=fun σ H Q=>ta σ H fun x H1=>∃ a dx fs,x=.ref a/\H1 a=some (.ins C dx fs)/\fs.lookup m=none/\t σ H1 fun vs H2=>sp (x::vs) H2 Q (BU X σ H2)
theorem qf{pl:Sem Bool}{ps:List Str}{ta:TE}{t:TA}(he:PE X o ta)(c:gy X.K C)(hm:Meth X.K C m f)(G:aX X.prog X.w X.K X.mg X.base (pS X.prog X.w) k f fd ps sp)(hr:aY k X.A)(hb:Binds X.K fd ps [])(hex:X.ex=[])(ha:PA X (e::es) t)
  (hst:autoParam (starEach (e::es) X.env=(false,eval e X.env)::starEach es X.env) ℜ0) (hpl:autoParam ((backTo pos (starEach es X.env)).any (·.1)=false) ℜ0)
  (ht:autoParam (eval (.Call (.Attribute o m apos) (e::es) [] pos) X.env=(do
   let ov <- eval o X.env
   standAt apos.atName
   let (f,first) <- holding [ov] (getMethod ov m pl)
   callWith pos f first (backTo pos (starEach (e::es) X.env)) (backToKw pos (keywordEach [] X.env)))) ℜ0) :
  PE X (.Call (.Attribute o m apos) (e::es) [] pos) (xv X C m sp ta t):=by
 intro pins s σ H Q I h;refine PySem.W.methodCall_KW (pl:=pl) (bg (he pins s σ H _ I h) fun u s1 hq47=>?_) ht;obtain⟨x,H1,I1,rx,a,dx,fs,ex,ea,l,q⟩:=hq47;subst ex;obtain rfl:u=Value.ref a:=rx;refine eK I1 ea c hm l ?_;refine PySem.W.callWith_K (first:=[.ref a]) (h₀:=X.base) I.ok.mod.lJ hm.kp (bg (ha pos pins s1 σ H1 _ I1 q) fun us s2 ⟨vs,H2,I2,r,q2⟩=>⟨I2.dn,?_⟩) hst hpl
 have r2:Vals (.ref a::vs) (.ref a::us):=.cons rfl r;have hl:(Value.ref a::us).length=ps.length:=by rw[<- r2.length];exact G.len _ _ _ _ q2
 have hb2:=hb s2 (.ref a::us) I2.dn (by rw[FV];exact hl)
 rw[FV] at hb2;refine HV (Hc (G.run X.A X.stack s2 H2 ⟨.ref a::us,[]⟩ (.ref a::us) (.ref a::vs) Q (BU X σ H2) hr I2.xU hb2 r2 q2) fun r s' hq=>?_)
 cases r with
 |error e =>
  obtain⟨ea,T,cls,d,H',rfl,ho,hbare,un,aM,fl,n1,n3,n2,tr,nT,ea',d',hea,tr',hd⟩:=hq;cases hea;obtain⟨_,rfl⟩:=fl.is.one (show eQ ea cls d' s'.heap from (aM _ _ tr').1);have I3:=I2.wD (ch:=[]) ho un aM hbare (fun b z=>absurd z (by simp))
  have n0:∀ b,s2.heap.get? b=none->X.s₀.heap.get? b=none:=fun b z=>by
   cases q2:X.s₀.heap.get? b with
   |none=>rfl
   |some o =>
    obtain⟨o',q3⟩:=I2.base.there b o q2 (by rw[hex];simp)
    rw[z] at q3;cases q3
  exact hd (I2.aM.none_of n1) (fun a z=>I2.aM.none_of (n3 a z)) pins s' (some T) I3 fl ⟨tr,n0 _ n1,fun a z=>n0 _ (n3 a z),fun T' hT=>by
   cases hT;exact⟨nT,n0 _ n2,fun p hp z=>by rw[<- z,(I2.pin p hp).1] at n2;cases n2⟩⟩
 |ok fl =>
  cases fl with
  |ret u=>exact I2.after hq
  |next=>exact False.elim hq
  |brk=>exact False.elim hq
  |cont=>exact False.elim hq
namespace Y
noncomputable def gf(f:Str):List Str->List T->Option T
 |k::ks,t::ts=>if k=f then some t else gf f ks ts
 |_,_=>none
theorem pA{f:Str}{B:aB}{t:T}{ks:List Str}{vs:List V}{ts:List T}(r:ak K H B vs ts)(e:gf f ks ts=some t):∃ v,(ks.zip vs).lookup f=some v/\Rep K H B v t:=by
 induction ks generalizing vs ts with
 |nil=>cases e
 |cons k ks ih=>cases ts with
  |nil=>cases e
  |cons u ts =>
   obtain⟨v,ws,rfl,h,r⟩:=r.aC;rw[List.zip_cons_cons,Fu];by_cases c:k=f
   ·have e':(if k=f then some u else gf f ks ts)=some t:=e
    rw[EI c] at e';cases e';rw[show (f == k)=true from GD.mpr c.symm];exact⟨v,rfl,h⟩
   ·have e':(if k=f then some u else gf f ks ts)=some t:=e
    rw[EB c] at e';rw[show (f == k)=false from Fb.mpr fun z=>c z.symm];exact ih r e'
noncomputable def tL(C:Addr)(f:Str)(ue:UE):UE:=fun μ Q=>ue μ fun r μ'=>match r with
 |.tr (.ins _ c ks ts)=>c=C/\(match gf f ks ts with
  |some t=>Q (.tr t) μ'
  |none=>False)
 |_=>False
theorem pU{nm:Str}(K:Ih)(hK:X.K=K)(cM:gy K C)(na:bo K C nm)(he:YE X e ue)(hb:autoParam (attributeBase e nm X.env (eval e X.env)=eval e X.env) ℜ0):YE X (.Attribute e nm pos) (tL C nm ue):=by
 obtain⟨t,q,r⟩:=he;refine⟨_,Z.fld K hK q hb,fun F ad B σ H μ Q Qt hF l q k=>r F ad B σ H μ _ _ hF l q fun v H1 r1 μ1 v1 f1 k1 q1=>?_⟩
 split at q1
 ·rename_i a0 c ks ts;obtain⟨rfl,q1⟩:=q1
  split at q1
  ·rename_i t e1;have rp:Rep F.K H1 B v (.ins a0 c ks ts):=v1.2
   cases rp with
   |ins n h ll rr =>
    obtain⟨w,e2,rw'⟩:=pA rr e1;exact⟨_,_,_,_,w,rfl,h,cM,na,e2,k w H1 (.tr t) μ1 ⟨v1.rl,rw'⟩ f1.d k1 q1⟩
  ·exact q1.elim
 ·exact q1.elim
end Y
namespace A
theorem tL(C:Addr)(f:Str)(ue:UE)(μ:Mu)(Q:R->Mu->Prop):Y.tL C f ue μ Q=ue μ fun r μ'=>match r with
 |.tr (.ins _ c ks ts)=>c=C/\(match Y.gf f ks ts with
  |some t=>Q (.tr t) μ'
  |none=>False)
 |_=>False:=rfl
end A
namespace Y
noncomputable def DJ(K:Ih):R2:=fun x y H Q=>∃ a b xs,x=.ref a/\y=.ref b/\a_ K H a xs/\a_ K H b []/\Q (.bl (!xs.isEmpty)) H
theorem y2(K:Ih)(hK:X.K=K)(hu:X.A.units<cLine):bZ X (compareOp .NotEq) (DJ K):=by
 subst hK;intro pins s σ H x y v u Q I rx ry h;obtain⟨a,b,xs,rfl,rfl,ha,hb,q⟩:=h
 cases rx;cases ry
 obtain⟨ah,r1,p1,_⟩:=I.list ha;obtain⟨its2,r2,p2,_⟩:=I.list hb;obtain rfl:=Paired.B4 r2
 cases r1 with
 |nil=>exact SeqAt.RcNeAt.lists (e:=fun _=>true) p1.isList p2.isList rfl hu (fun j h1=>absurd h1 (Nat.not_lt_zero _)) X.prog X.w X.xe _ ⟨.bl false,H,I,rfl,q⟩
 |cons h r=>exact Ht p1.isList p2.isList (by simp) hu X.prog X.w X.xe _ ⟨.bl true,H,I,rfl,q⟩
noncomputable def CA(C:Addr)(m:Str)(md:List Bool)(tsp:zJ)(uo:UE)(us:UA):UX:=fun μ Q Xt=>uo μ fun r μ0=>match r with
 |.tr (.ins a c ks ts)=>c=C/\m∉ks/\us μ0 fun rs μ1=>match sU μ1 md (.tr (.ins a c ks ts)::rs) with
  |some args=>(eR md (.tr (.ins a c ks ts)::rs)).Nodup/\(∀ j∈eR md (.tr (.ins a c ks ts)::rs),j∉gm md (.tr (.ins a c ks ts)::rs))/\tsp args (fun r outs=>(gm md (.tr (.ins a c ks ts)::rs)=[]\/(fm r=true/\outs.all gg=true))/\Q r (putAll (eR md (.tr (.ins a c ks ts)::rs)) outs μ1)) (fun x=>Xt x μ1)
  |none=>False
 |_=>False
theorem qj:∀{ks:List Str} {vs:List V},m∉ks->(ks.zip vs).lookup m=none:=by
 intro ks
 induction ks with
 |nil=>intro vs _;rfl
 |cons k ks ih =>
  intro vs h
  cases vs with
  |nil=>rfl
  |cons v vs =>
   rw[List.zip_cons_cons,Fu,show (m == k)=false from Fb.mpr fun z=>h (z ▸ EN)];exact ih fun z=>h (ED _ z)
theorem fY{pl:Sem Bool}{ps:List Str}{md:List Bool}{tsp:zJ}{us:UA}(K:Ih)(hK:X.K=K)(ho:YE X o uo)(c:gy K C)(hm:Meth K C m f)(G:aX X.prog X.w X.K X.mg X.base (pS X.prog X.w) k f fd ps (DF K md tsp))(hr:aY k X.A)(hb:Binds K fd ps [])(hex:X.ex=[])(ha:YA X (e::es) us)
  (hst:autoParam (starEach (e::es) X.env=(false,eval e X.env)::starEach es X.env) ℜ0) (hpl:autoParam ((backTo pos (starEach es X.env)).any (·.1)=false) ℜ0) (hmd:autoParam (md.all (fun b=>!b)=true) ℜ0)
  (ht:autoParam (eval (.Call (.Attribute o m apos) (e::es) [] pos) X.env=(do
   let ov <- eval o X.env
   standAt apos.atName
   let (f,first) <- holding [ov] (getMethod ov m pl)
   callWith pos f first (backTo pos (starEach (e::es) X.env)) (backToKw pos (keywordEach [] X.env)))) ℜ0) :
  YX X (.Call (.Attribute o m apos) (e::es) [] pos) (CA C m md tsp uo us):=by
 subst hK;obtain⟨t0,q0,r0⟩:=ho;obtain⟨t,q,r⟩:=ha;refine⟨_,⟨qf q0.h c hm G hr hb hex q.h hst hpl ht⟩,fun F ad B σ H μ Q Qt Xt hF l q k hX=>?_⟩;refine r0 F ad B σ H μ _ _ hF l q fun v H0 x μ0 v0 f0 k0 q0=>?_
 split at q0
 ·rename_i a c0 ks ts;obtain⟨rfl,nk,q0⟩:=q0;have rp:Rep F.K H0 B v (.ins a c0 ks ts):=v0.2
  cases rp with
  |ins n h ll rr =>
  refine⟨a,_,_,rfl,h,qj nk,?_⟩;refine r F ad B σ H0 μ0 _ _ hF v0.rl q0 fun vs H1 rs μ1 l1 ps f1 k1 q1=>?_
  split at q1
  ·rename_i args ea;obtain⟨nd,dj,q1⟩:=q1;have ps':Paired (Hv F ad B H1 μ1) (.ref a::vs) (.tr (.ins a c0 ks ts)::rs):=.cons ((show Rep F.K H0 B (.ref a) (.ins a c0 ks ts) from .ins n h ll rr).fr f1) ps;refine⟨fun x=>Xt x μ1,vc (tsp:=fun args Qt=>tsp args Qt fun x=>Xt x μ1) hF l1 ps' ea nd dj q1 fun v H' r μ' w f k2 q2=>k v H' r μ' w (f0.d.trans (f1.trans f)) (k0.trans (k1.trans k2)) q2,fun x cls d e H' he keep tr=>⟨e,d,rfl,tr.1,fun ne nd=>?_⟩⟩;have sm:bK H1 H':=fun b o z=>keep b o z (by rw[ko hmd];simp)
   exact hX ad B σ H' μ1 x cls d e (l1.same sm) ((f0.d.trans f1).trans (Fr.same sm)) tr (l1.kg ne) (fun a z=>l1.kg (nd a z)) he
  ·exact q1.elim
 ·exact q0.elim
end Y
namespace A
theorem CA(C:Addr)(m:Str)(md:List Bool)(tsp:zJ)(uo:UE)(us:UA)(μ:Mu)(Q:R->Mu->Prop)(Xt:Xw):Y.CA C m md tsp uo us μ Q Xt=uo μ fun r μ0=>match r with
 |.tr (.ins a c ks ts)=>c=C/\m∉ks/\us μ0 fun rs μ1=>match sU μ1 md (.tr (.ins a c ks ts)::rs) with
  |some args=>(eR md (.tr (.ins a c ks ts)::rs)).Nodup/\(∀ j∈eR md (.tr (.ins a c ks ts)::rs),j∉gm md (.tr (.ins a c ks ts)::rs))/\tsp args (fun r outs=>(gm md (.tr (.ins a c ks ts)::rs)=[]\/(fm r=true/\outs.all gg=true))/\Q r (putAll (eR md (.tr (.ins a c ks ts)::rs)) outs μ1)) (fun x=>Xt x μ1)
  |none=>False
 |_=>False:=rfl
end A
end L2
namespace G
local macro_rules|`(tactic|and_intros)=>`(tactic|exact ⟨rfl,rfl,rfl,by decide +kernel,rfl,by decide +kernel,by decide +kernel⟩)
open PySem L2 PySem.Spec PyProof.Rows
variable{c i:Int}{m n p:Nat}{C C_NoRow a dk k mo:Addr}{α:Type}{H H':Hp}{B B':aB}{fd:FuncData}{l:PySem.W.OpenLaw}{ids th:List Int}{ex pl:List Addr}{Q:VK}{E:XK}{K:Ih}{h:Heap}{mg:Str->Option Value}{q:Program}
noncomputable def top(i:Nat):Stmt:=PySem.Challenge.pw_shortrows_k38_kept_rows.main.body.getD i (.Pass ⟨0,0,0,0⟩)
abbrev dU:Stmt:=top 11
theorem lR:av ["row"] ["row"] (aa dU):=by and_intros
abbrev cS:Stmt:=top 12
theorem jK:av ["row","goal"] ["row","goal"] (aa cS):=by and_intros
abbrev ax:Stmt:=inClass (top 14) 0
theorem fQ:av ["self","book"] ["self","book"] (aa ax):=by and_intros
abbrev aJ:Stmt:=inClass (top 14) 1
theorem bR:av ["self","place","row","many","goal","moved"] ["self","place","row"] (aa aJ):=by and_intros
abbrev aF:Stmt:=inClass (top 14) 2
theorem cY:av ["self","place","many"] ["self","place"] (aa aF):=by and_intros
abbrev aA:Stmt:=inClass (top 14) 3
theorem gp:av ["self"] ["self"] (aa aA):=by and_intros
abbrev bC:Stmt:=top 15
theorem gH:av ["rows","first","by"] ["rows","first","by"] (aa bC):=by and_intros
abbrev cz:Stmt:=top 16
theorem eA:av ["row","first","by","goal"] ["row","first","by"] (aa cz):=by and_intros
abbrev cf:Stmt:=top 18
theorem jJ:av ["script"] ["script"] (aa cf):=by and_intros
abbrev dB:Stmt:=top 19
theorem dI:av ["number","turn","one"] ["number","turn"] (aa dB):=by and_intros
abbrev cT:Stmt:=top 20
theorem fE:av ["deck","most","number"] ["deck","most"] (aa cT):=by and_intros
abbrev fk:Stmt:=top 21
theorem iF:av [] [] (aa fk):=by and_intros
abbrev bP:Stmt:=top 24
theorem ba:av ["deck","many","depths","k","deep","at"] ["deck","many"] (aa bP):=by and_intros
abbrev cm:Stmt:=top 25
theorem j9:av ["deck"] ["deck"] (aa cm):=by and_intros
abbrev bY:Stmt:=top 26
theorem cG:av ["deck","size","top"] ["deck"] (aa bY):=by and_intros
abbrev dv:Stmt:=top 27
theorem cQ:av ["deck","goals","some","word","box"] ["deck","goals"] (aa dv):=by and_intros
abbrev bG:Stmt:=top 29
theorem eX:av ["found","due"] ["found","due"] (aa bG):=by and_intros
abbrev cJ:Stmt:=top 30
theorem cU:av ["deck","kept","model","ids","place","row","told"] ["deck","kept","model","ids"] (aa cJ):=by and_intros
abbrev b_:Stmt:=top 31
theorem bB:av ["deck","kept","model","at","there","told","gone","one"] ["deck","kept","model"] (aa b_):=by and_intros
abbrev cH:Stmt:=top 32
theorem bw:av ["model","there","found","own","row","goal"] ["model"] (aa cH):=by and_intros
abbrev cR:Stmt:=top 33
theorem jT:av ["deck","kept","model","ids"] ["deck","kept","model","ids"] (aa cR):=by and_intros
abbrev bT:Stmt:=top 34
theorem aL:av ["deck","kept","many","way","far","error","e"] ["deck","kept","many"] (aa bT):=by and_intros
abbrev cx:Stmt:=top 35
theorem eD:av ["kepts","models","first","k"] ["kepts","models","first"] (aa cx):=by and_intros
abbrev eB:Stmt:=top 36
theorem du:av ["script","deck","book","kepts","models","ids","turn","at"] ["script"] (aa eB):=by and_intros
structure Txt (K:Ih) (mg:Str->Option Value):Prop where
 j4:mg "ValueError"=none
 A0:mg "abs"=none
 yz:mg "bool"=none
 wq:mg "enumerate"=none
 AL:mg "int"=none
 aN:mg "isinstance"=none
 cw:mg "len"=none
 wL:mg "min"=none
 j8:mg "range"=none
 Cb:mg "sorted"=none
 wz:mg "str"=none
 Bb:mg "sum"=none
 dX:mg "tuple"=none
 Bl:mg "zip"=none
 sA:∃ d,mg "SHAPES"=some (.ref d)/\mi K d [("put",["box","number"]),("add",["box","box"]),("sub",["box","box"]),("copy",["box","box"]),("tell",["box"]),("hear",["box"]),("jump",["goal"]),("zero",["box","goal"]),("halt",[])]
 mc:∃(C_Kept f___init__ f_put_in f_take_out f_program:Addr) (d___init__ d_put_in d_take_out d_program:FuncData),mg "Kept"=some (.ref C_Kept)/\gy K C_Kept/\bo K C_Kept "book"/\bo K C_Kept "rows"/\Mk K C_Kept f___init__/\jn K "__init__" "Kept.__init__" ax f___init__ d___init__/\Binds K d___init__ ["self","book"] []/\Meth K C_Kept "put_in" f_put_in/\jn K "put_in" "Kept.put_in" aJ f_put_in d_put_in/\Binds K d_put_in ["self","place","row"] []/\Meth K C_Kept "take_out" f_take_out/\jn K "take_out" "Kept.take_out" aF f_take_out d_take_out/\Binds K d_take_out ["self","place"] []/\Meth K C_Kept "program" f_program/\jn K "program" "Kept.program" aA f_program d_program/\Binds K d_program ["self"] []
 xs:∃ C_ShortError C_NoRow C_NoAsk C_NoBits C_NoCode C_NoProgram C_NoReach:Addr,mg "ShortError"=some (.ref C_ShortError)/\mg "NoRow"=some (.ref C_NoRow)/\mg "NoAsk"=some (.ref C_NoAsk)/\mg "NoBits"=some (.ref C_NoBits)/\mg "NoCode"=some (.ref C_NoCode)/\mg "NoProgram"=some (.ref C_NoProgram)/\mg "NoReach"=some (.ref C_NoReach)/\fH K C_ShortError/\fH K C_NoRow/\my K C_NoRow/\PySem.W.mroIn K C_NoRow (.ref C_ShortError)=some true/\PySem.W.kitOne K (.ref C_NoRow) (.ref C_NoRow)=some true/\PySem.W.kitOne K (.ref C_NoRow) (.type "ValueError")=some true/\PySem.W.kitAny K (.ref C_NoRow) [(.ref C_NoAsk),(.ref C_NoBits),(.ref C_NoCode),(.ref C_NoProgram),(.ref C_NoReach)]=some false
section
variable {P:Program} {w:World} {K:Ih} {mg:Str->Option Value} {base:Heap}
local macro_rules | `(tactic| walk_at "lc") => `(tactic| first | exact Or.inl rfl | exact Or.inr rfl)
local macro_rules | `(tactic| wp_walk using $ts,*) => do
  let ids := ("L2.A.CA L2.A.tL L2.A.oh L2.A.rk L2.A.kF L2.A.Aj L2.A.su L2.A.n_ L2.A.u6 L2.A3.uv L2.A3.CV L2.A3.kE L2.A3.xW L2.A3.DS L2.A3.yq L2.A3.we L2.A3.gT L2.A3.kU L2.A3.Dy L2.A3.Du L2.A3.CM L2.A3.BC L2.A3.add_l L2.A3.B8 L2.A3.CW L2.A3.DK L2.A3.D9 L2.A3.Cm L2.A3.BM L2.A3.Ce L2.A3.D6 L2.A3.CZ L2.A.eY L2.A.uC L2.A.kh L2.A.uk L2.A.rH L2.A.Ba L2.A.m_ L2.A.ny L2.A.C4 L2.A.tN L2.A.uu L2.A.uK L2.A.vW L2.A.uR L2.A.zK L2.A.gz L2.A.nK L2.A.oj L2.A.BR L2.A.DC L2.A.xE L2.A.AH L2.A.BA L2.A.kl L2.A.AQ L2.A.Dd L2.A.DL L2.A.yZ L2.A.fN L2.A.zL L2.A.lu L2.A.Dw L2.A.DY L2.A.CL L2.A.Cy L2.A.CB L2.A.ng L2.A.C6 L2.A.jZ L2.A.jW L2.A.lb L2.A.DI L2.A.zm L2.A.gO L2.A.jE L2.A.Es L2.A.Ey L2.A.kv L2.A.AM L2.A.BX L2.A.A8 L2.A.C0 L2.A.CJ L2.A.gS L2.A.tQ L2.A.nY L2.A.ud L2.A.Cz L2.A.iZ L2.A.uy L2.A.hG L2.A.CG L2.A.fu L2.A.AY L2.A.E5 L2.A.DO L2.A.D3 L2.A.Au L2.A.BD L2.A.AR L2.A.DH L2.A.DB L2.A.D0 L2.A.D8 Sl.box Sl.put cC L2.putAll sU eR gm L2.Y.trees L2.Y.vN L2.Y.zy L2.Y.rM L2.Y.CQ L2.Y.Di List.tail_cons Nat.zero_le startM va bX Option.bind_some Option.map_some List.map_cons List.map_nil List.length_cons List.length_nil List.length_map List.replicate List.cons_append List.nil_append List.append_nil List.getElem?_cons_zero List.getElem?_cons_succ List.set_cons_zero List.set_cons_succ List.nodup_nil List.nodup_cons List.not_mem_nil List.mem_cons not_false_eq_true false_implies implies_true forall_eq or_false and_true true_and and_self true_or ow Cj y4 Aw Nat.reduceAdd Nat.reduceSub Nat.reduceLeDiff Nat.reduceLT Bool.false_eq_true Bool.not_true Bool.not_false decide_eq_true_eq Bool.not_eq_true' decide_eq_false_iff_not Int.reduceToNat Int.reducePow exists_eq_left' L2.A4.Em L2.A4.Ex L2.A4.E1 L2.A4.Aa L2.A4.B7 L2.A4.Cp L2.A4.Bj L2.A4.wA L2.A4.mR".splitOn " ").toArray.map fun n => Lean.mkIdent n.toName
  let pre:=ids.filter fun n=>n.getId.toString.startsWith "L2.A"
  `(tactic| simp only [↓reduceIte, $[↓$ts:term],*, $[↓$pre:term],*, $[$ids:ident],*, $[$ts:term],*])
local macro_rules | `(tactic| walk_at "rt") => `(tactic| wp_walk using and_self)
local macro_rules|`(tactic|rfl')=>`(tactic|wp_walk using and_self)
local macro_rules|`(tactic|symm)=>do
  let n:=Lean.mkIdent `N
  let h:=Lean.mkIdent `hN
  `(tactic|(refine $h _ ?_;clear $h $n;refine aV fun $n $h=>?_))
local macro_rules|`(tactic|ac_rfl)=>do
  let n:=Lean.mkIdent `N
  let h:=Lean.mkIdent `hN
  `(tactic|(refine $h _ ?_;clear $h $n))
local macro_rules|`(tactic|right)=>`(tactic|walk_at "lc")
local macro_rules|`(tactic|exists $ts,*)=>`(tactic|wp_walk using $ts,*)
local macro_rules|`(tactic|left)=>do
  let i:=#[`args,`Qt,`hl,`h,`f,`cdv,`A,`outer,`s,`H,`E,`hr].map Lean.mkIdent
  let u:=Lean.mkIdent `hu
  `(tactic|(intro $[$i:ident]*;have $u:ident:=bz $(Lean.mkIdent `hr)))
noncomputable def nI:List Int->List L2.T:=List.map L2.T.int
theorem dz(xs:List Int):(nI xs).length=xs.length:=EJ ..
theorem yS(xs ys:List Int):nI (xs++ys)=nI xs++nI ys:=Ff
theorem An{xs:List Int}{v:Int}(h:bN xs i=some v):bN (nI xs) i=some (.int v):=by
 unfold bN at h ⊢;unfold nI;rw[EJ]
 cases e:i3 xs.length i with
 |none=>rw[e] at h;cases h
 |some j=>rw[e] at h;have h':xs[j]?=some v:=h;show (List.map L2.T.int xs)[j]?=_;rw[Fh,h'];rfl
theorem uN(xs:List Int)(a b:Option Int):Y.bJ (nI xs) a b=nI (Y.bJ xs a b):=by
 unfold Y.bJ nI;rw[EJ,GG,GH]
noncomputable def cq(n:Nat)(d:L2.T):Prop:=∃(m:Nat) (i t z:Int),d=.lst [.il m,.int i,.int t,.int z]/\0<=i/\i<=m/\m<=63/\0<=t/\t<=n
theorem cq.mono{d:L2.T}(h:cq n d)(hm:n<=m):cq m d:=by
 obtain⟨k,i,t,z,h1,h2,h3,h4,h5,h6⟩:=h;exact⟨k,i,t,z,h1,h2,h3,h4,h5,by lia⟩
noncomputable def Bg:fT:=fun args Q=>∃ c k:Int,args=[.int c,.int k]/\0<=k/\k<2^60/\∀ v:Int,Q (.tr (.int v)) []
abbrev k7z(P w K mg base):=aj P w K mg base aW 1 "_law_mix" ["number","turn"] (spT K [false,false] Bg)
theorem zt(T:Txt K mg)(F:HasFn K mg "_law_mix" dB ["number","turn"]):k7z P w K mg base:=by
 refine F.lA dI [false,false] rfl (by decide) ?_;left;obtain⟨c,k,rfl,h0,h1,q⟩:=h;refine⟨_,(Y.ao (Y.set (i:=2) dI.nd rfl (by right) (Y.op dq Y.bS (Y.op (Y.ar K rfl) Y.aq (Y.op (Y.ar K rfl) Y.aq (Y.op (Y.ar K rfl) Y.aq (Y.op dq Y.bS (Y.vS 0) Y.int) (Y.op (Y.d9 K rfl) Y.cy (Y.op (Y.d9 K rfl) Y.cy Y.int (Y.vS 1)) (Y.vS 1))) (Y.op (Y.d9 K rfl) Y.cy Y.int (Y.vS 1))) Y.int) Y.int))
   (Y.ao (Y.set (i:=2) dI.nd rfl (by right) (Y.op dq Y.bS (Y.op (Y.d9 K rfl) Y.cy (Y.vS 2) (Y.vS 2)) Y.int))
   (Y.aE (Y.ret (Y.op Y.kB Y.bS (Y.op dq Y.bS (Y.op (Y.ar K rfl) Y.aq (Y.op (Y.d9 K rfl) Y.cy (Y.vS 2) Y.int) (Y.vS 1)) Y.int) Y.int))))),?_⟩
 refine aV fun N hN=>?_;rfl';refine⟨by decide,.inl (by decide),.inr ⟨by lia,by lia⟩,.inl (by decide),by decide,?_⟩
 ac_rfl;generalize hx:(c % 1999999927+7001*k*k+40009*k+17) % 2147483629=x;have hx1:0<=x/\x<2147483629:=by rw[<- hx];exact⟨GK _ (by decide),Gv _ (by decide)⟩
 refine aV fun N hN=>?_;rfl';refine⟨.inl ⟨by lia,by lia⟩,by decide,?_⟩
 ac_rfl;generalize hy:x*x % 2147483587=y;have hy1:0<=y/\y<2147483587:=by rw[<- hy];exact⟨GK _ (by decide),Gv _ (by decide)⟩
 rfl';exact⟨.inr (by decide),by decide,⟨by decide,by decide⟩,q _⟩
noncomputable def pT:fT:=fun args Q=>∃ ns:List Int,args=[.eu (nI ns)]/\∀ d,cq 0 d->Q (.fr d) []
theorem uG(T:Txt K mg)(F:HasFn K mg "_law_deck" cf ["script"]):aj P w K mg base aW 1 "_law_deck" ["script"] (spT K [false] pT):=by
 refine F.lA jJ [false] rfl (by decide) ?_;left;obtain⟨ns,rfl,q⟩:=h;refine⟨_,(Y.aE (Y.ret (Y.cW (Y.mO (osc:=aa cf) (ON:=["script"]) (own:=["cell"]) (N:=["cell","script"]) ⟨rfl,by decide +kernel,rfl,by decide +kernel,by decide +kernel,by decide +kernel,by decide +kernel,by decide +kernel⟩ rfl rfl rfl rfl (Y.anyS K rfl (Y.eP K rfl (Y.vS 0) Y.t4 (Y.tE Y.int))) (fun _ _ _ _=>(Z.bW (i:=0) (show List.Nodup (["cell","script"]:List Str) by decide +kernel) rfl (by right))) (fun _ _ _ _=>Y.wg) (fun _ _ _ _=>(Y.cb sQ Y.xy rfl T.A0 (by decide +kernel) (Y.cons (Y.vS 0) Y.nil)))) (Y.cons Y.int (Y.cons Y.int (Y.cons (Y.op dq Y.bS (Y.op (Y.ar K rfl) Y.aq (Y.cb (Y.oJ K rfl rfl) Y.zj rfl T.Bb (by decide +kernel) (Y.cons (Y.eP K rfl (Y.vS 0) Y.t4 (Y.tE Y.int)) Y.nil)) (Y.op (Y.d9 K rfl) Y.cy Y.int (Y.cb (Y.bI K rfl) Y.cP rfl T.cw (by decide +kernel) (Y.cons (Y.vS 0) Y.nil)))) Y.int) Y.nil)))))),?_⟩
 obtain⟨ms,ec,hm⟩:∃ ms:List Int,Y.bJ (nI ns) none (some 63)=nI ms/\ms.length<=63:=by
  refine⟨Y.bJ ns none (some 63),uN _ _ _,?_⟩;unfold Y.bJ;rw[show (some (63:Int))=some ((63:Nat):Int) from rfl,HT.fz,HT.jz,Fg];lia
 exists ec;refine gw (fun rest acc μ=>∃(as bs:List Int),rest=nI as/\acc=nI bs/\bs.length+as.length=ms.length/\(∀ z∈bs,0<=z)/\μ=[.tr (.eu (nI ns))]) ⟨ms,[],rfl,rfl,by simp,fun z hz=>(nomatch hz),rfl⟩ ?_ ?_
 ·rintro acc μ ⟨as,bs,e,rfl,h1,h2,rfl⟩;refine⟨trivial,?_⟩;exists ec;exact⟨ms,rfl,.inl (by decide),by decide,⟨bs,rfl,h2⟩,q _ ⟨bs.length,0,0,_,by rw[dz],by decide,by lia,by lia,by decide,by decide⟩⟩
 ·rintro t r acc μ M ⟨as,bs,e,rfl,h1,h2,rfl⟩ k
  cases as with
  |nil=>cases e
  |cons a as =>
   cases e;refine⟨trivial,?_,?_⟩
   ·rw[dz];exact EO (show bs.length<64 by rw[E_] at h1;lia) (by decide)
   ·rfl';refine k _ _ ⟨as,bs++[if a<0 then -a else a],rfl,(yS bs [if a<0 then -a else a]).symm,?_,fun z hz=>?_,rfl⟩
    ·rw[EU,<- h1];simp only[E_,List.length_nil];lia
    ·rcases Fn.mp hz with hz|hz
     ·exact h2 z hz
     ·rw[ET.mp hz];split<;>lia
noncomputable def dD:fT:=fun args Q=>∃(d:L2.T) (m:Int) (n:Nat),args=[d,.int m]/\cq n d/\n<2^50/\0<m/\m<2^50/\∀(v:Int) (d':L2.T),0<=v->v<m->cq (n+1) d'->Q (.tr (.int v)) [d']
abbrev k0z(P w K mg base):=aj P w K mg base aW 2 "_law_draw" ["deck","most"] (spT K [true,false] dD)
theorem wc(T:Txt K mg)(F:HasFn K mg "_law_draw" cT ["deck","most"])(h_law_mix:k7z P w K mg base):k0z P w K mg base:=by
 refine F.lA fE [true,false] rfl (by decide) ?_;left;obtain⟨_,m,n,rfl,⟨k,i,t,z,rfl,i0,i1,k63,t0,t1⟩,hn,hm0,hm1,q⟩:=h;refine⟨_,(Y.ao (Y.asg (Y.op (Y.ar K rfl) Y.aq (Y.ix (Y.cX K rfl) Y.aT (Y.vS 0) Y.int) Y.int) (Y.lL (Y.vS 0) Y.int))
   (Y.ao (Y.fh (Y.aZ (Y.bj K rfl (EZ hu)) Y.bV (Y.ix (Y.cX K rfl) Y.aT (Y.vS 0) Y.int) (Y.cb oO Y.vF rfl T.cw (by decide +kernel) (Y.cons (Y.ix (Y.cX K rfl) Y.aT (Y.vS 0) Y.int) Y.nil))) (Y.aE (Y.ret (Y.op dq Y.bS (Y.fn K rfl h_law_mix (hr.mono (by decide)) rfl au (Y.cons (Y.ix (Y.cX K rfl) Y.aT (Y.vS 0) Y.int) (Y.cons (Y.ix (Y.cX K rfl) Y.aT (Y.vS 0) Y.int) Y.nil))) (Y.vS 1)))) Y.bM)
   (Y.ao (Y.set (i:=2) fE.nd rfl (by right) (Y.ix AK Y.zh (Y.ix (Y.cX K rfl) Y.aT (Y.vS 0) Y.int) (Y.ix (Y.cX K rfl) Y.aT (Y.vS 0) Y.int)))
   (Y.ao (Y.fh (Y.aZ kx Y.gi (Y.vS 2) (Y.op sL Y.bS Y.int Y.int)) (Y.ao (Y.asg (Y.op (Y.ar K rfl) Y.aq (Y.ix (Y.cX K rfl) Y.aT (Y.vS 0) Y.int) Y.int) (Y.lL (Y.vS 0) Y.int))
   (Y.aE (Y.ret (Y.op dq Y.bS (Y.fn K rfl h_law_mix (hr.mono (by decide)) rfl au (Y.cons (Y.vS 2) (Y.cons (Y.ix (Y.cX K rfl) Y.aT (Y.vS 0) Y.int) Y.nil))) (Y.vS 1))))) Y.bM)
   (Y.ao (Y.asg (Y.op Y.kB Y.bS (Y.vS 2) (Y.vS 1)) (Y.Cq (Y.ix (Y.cX K rfl) Y.aT (Y.vS 0) Y.int) (Y.ix (Y.cX K rfl) Y.aT (Y.vS 0) Y.int)))
   (Y.aE (Y.ret (Y.op dq Y.bS (Y.vS 2) (Y.vS 1))))))))),?_⟩
 have x1:i3 4 1=some 1:=by decide
 have x2:i3 4 2=some 2:=by decide
 refine aV fun N hN=>?_;exists x2;symm;rfl';by_cases e1:i=k
 ·exists EI e1;refine⟨by lia,_,_,rfl,by lia,by lia,fun v=>?_⟩
  rfl';exact⟨hm0,q _ _ (GK _ (by lia)) (Gv _ hm0) ⟨k,i,t+1,z,rfl,i0,i1,k63,by lia,by lia⟩⟩
 ·exists EB e1;refine⟨by lia,hN _ ?_⟩;clear hN N
  refine aV fun N hN=>?_;rfl';refine⟨by lia,i0,by lia,fun v v0=>hN _ ?_⟩;clear hN N
  refine aV fun N hN=>?_;rfl';refine⟨⟨by decide,by decide,by decide⟩,?_⟩
  by_cases e2:v<1000000000000000000
  ·rw[EI e2];refine aV fun M hM=>?_;exists x1;refine hM _ ?_;clear hM M;rfl';refine⟨_,_,rfl,by lia,by lia,fun v=>?_⟩
   rfl';exact⟨hm0,q _ _ (GK _ (by lia)) (Gv _ hm0) ⟨k,i+1,t+1,z,rfl,by lia,by lia,k63,by lia,by lia⟩⟩
  ·rw[EB e2];ac_rfl;refine aV fun M hM=>?_;rfl';refine⟨⟨hm0,by lia⟩,by lia,i0,by lia,Int.ediv_nonneg v0 (by lia),hM _ ?_⟩;clear hM M
   rfl';exact⟨hm0,q _ _ (GK _ (by lia)) (Gv _ hm0) ⟨k,i,t+1,z,rfl,i0,i1,k63,by lia,by lia⟩⟩
theorem BG(u:_root_.Fin 2):u=0\/u=1:=by revert u;decide
theorem AE(u:_root_.Fin 3):u=0\/u=1\/u=2:=by revert u;decide
theorem E7{b:Nat}(h:b<8):b=0\/b=1\/b=2\/b=3\/b=4\/b=5\/b=6\/b=7:=by lia
inductive Row where
 |put (b n:Nat)|two (w:Fin 3) (a b:Nat)|one (w:Fin 2) (b:Nat)|jump (g:Nat)|zero (b g:Nat)|halt
 deriving DecidableEq
noncomputable def dP(i:Nat):Str:=⟨#[97+i]⟩
noncomputable def w2:Fin 3->Str
 |0=>"add"
 |1=>"sub"
 |2=>"copy"
noncomputable def w1:Fin 2->Str
 |0=>"tell"
 |1=>"hear"
inductive CI where
 |s (z:Str)|n (k:Nat)
noncomputable def CI.t:CI->L2.T
 |.s z=>.str z
 |.n k=>.int (k:Nat)
noncomputable def Row.ps:Row->List CI
 |.put b n=>[.s "put",.s (dP b),.n n]
 |.two w a b=>[.s (w2 w),.s (dP a),.s (dP b)]
 |.one w b=>[.s (w1 w),.s (dP b)]
 |.jump g=>[.s "jump",.n g]
 |.zero b g=>[.s "zero",.s (dP b),.n g]
 |.halt=>[.s "halt"]
noncomputable def Row.t(r:Row):L2.T:=.tup (r.ps.map CI.t)
noncomputable def Row.Ok(size:Nat):Row->Prop
 |.put b n=>b<8/\n<65536
 |.two _ a b=>a<8/\b<8
 |.one _ b=>b<8
 |.jump g=>g<=size
 |.zero b g=>b<8/\g<=size
 |.halt=>True
theorem Row.Ok.mono{a b:Nat}{r:Row}(h:r.Ok a)(hm:a<=b):r.Ok b:=by
 cases r<;>simp only[Row.Ok] at h ⊢<;>lia
theorem rN{k:Int}(h0:0<=k)(h1:k<8):bN (Str.ofString "abcdefgh").cps.toList k=some (97+k.toNat):=by
 have e:(Str.ofString "abcdefgh").cps.toList=[97,98,99,100,101,102,103,104]:=by decide +kernel
 rw[e];obtain⟨n,rfl⟩:∃ n:Nat,k=n:=⟨k.toNat,by lia⟩
 unfold bN i3;have hn:n<8:=by lia
 rw[EI (by lia),EI (by simp;lia)]
 show [97,98,99,100,101,102,103,104][((n:Nat):Int).toNat]?=some (97+((n:Nat):Int).toNat);rw[Fp];rcases E7 hn with rfl|rfl|rfl|rfl|rfl|rfl|rfl|rfl<;>rfl
theorem yp{xs:List L2.T}(h0:0<=i)(h1:i<xs.length):∃ t,t∈xs/\bN xs i=some t:=by
 obtain⟨n,rfl⟩:∃ n:Nat,i=n:=⟨i.toNat,by lia⟩
 have hn:n<xs.length:=by lia
 exact⟨xs[n],FD hn,cA (EK hn)⟩
noncomputable def tM:fT:=fun args Q=>args=[]/\Q (.fr (.lst [.str "put",.str "add",.str "sub",.str "copy",.str "tell",.str "hear",.str "jump",.str "zero",.str "halt"])) []
theorem zM(T:Txt K mg)(F:HasFn K mg "_law_words" fk []):aj P w K mg base aW 1 "_law_words" [] (spT K [] tM):=by
 refine F.lA iF [] rfl (by decide) (fun args Qt hl h f cdv A outer s H E hr=>?_)
 obtain⟨rfl,q⟩:=h;refine⟨_,(Y.aE (Y.ret (Y.lst (Y.dw rfl rfl)))),?_⟩;rfl';exact⟨by decide,q⟩
noncomputable def oa:fT:=fun args Q=>∃(d:L2.T) (n:Nat),args=[d]/\cq n d/\n<2^40/\∀(v:Nat) (d':L2.T),cq (n+2) d'->v<65536->Q (.tr (.int (v:Int))) [d']
theorem oH(T:Txt K mg)(F:HasFn K mg "_law_number" bY ["deck"])(h_law_draw:k0z P w K mg base):aj P w K mg base aW 3 "_law_number" ["deck"] (spT K [true] oa):=by
 refine F.lA cG [true] rfl (by decide) ?_;left;obtain⟨sd,n,rfl,hs,hn,q⟩:=h;refine⟨_,(Y.ao (Y.set (i:=1) cG.nd rfl (by right) (Y.fn K rfl h_law_draw (hr.mono (by decide)) rfl au (Y.cons (Y.vS 0) (Y.cons Y.int Y.nil))))
   (Y.ao (Y.fh (Y.aZ (Y.bj K rfl (EZ hu)) Y.bV (Y.vS 1) Y.int) (Y.aE (Y.ret Y.int)) Y.bM)
   (Y.ao (Y.set (i:=2) cG.nd rfl (by right) (Y.op xj Y.bS Y.int (Y.op dO Y.dy (Y.vS 1) Y.int)))
   (Y.aE (Y.ret (Y.op (Y.ar K rfl) Y.aq (Y.vS 2) (Y.fn K rfl h_law_draw (hr.mono (by decide)) rfl au (Y.cons (Y.vS 0) (Y.cons (Y.vS 2) Y.nil))))))))),?_⟩
 refine aV fun N hN=>?_;rfl';refine⟨sd,17,n,rfl,hs,by lia,by decide,by decide,fun z s1 z0 z1 hs1=>?_⟩
 rfl';symm;by_cases a0:z=0
 ·exists EI a0;exact q 0 s1 (hs1.mono (by lia)) (by decide)
 ·exists EB a0;symm;rfl';refine⟨⟨by lia,by lia,by decide⟩,hN _ ?_⟩;clear hN N
  obtain⟨j,ej,hj⟩:∃ j:Nat,(z-1).toNat=j/\j<=15:=⟨_,rfl,by lia⟩
  rw[ej,Int.one_mul];have p1:(0:Int)<2^j:=Int.pow_pos (by decide)
  have p2:(2:Int)^j<=2^15:=by
   have:2^j<=2^15:=GF (by decide) hj
   exact_mod_cast this
  generalize (2:Int)^j=p at p1 p2;rfl';refine⟨s1,p,n+1,rfl,hs1,by lia,p1,by lia,fun v s2 v0 v1 hs2=>?_⟩
  rfl';obtain⟨k,ek⟩:∃ k:Nat,p+v=k:=⟨(p+v).toNat,by lia⟩
  rw[ek];exact q k s2 hs2 (by lia)
theorem two8(h0:0<=c)(h1:c<2):∃ m:Int,bN [L2.T.int 2,.int 8] c=some (.int m)/\0<m/\m<=8:=by
 have:c=0\/c=1:=by lia
 rcases this with rfl|rfl
 ·exact⟨2,rfl,by decide,by decide⟩
 ·exact⟨8,rfl,by decide,by decide⟩
noncomputable def uw:fT:=fun args Q=>∃(d:L2.T) (many n:Nat),args=[d,.int (many:Int)]/\cq n d/\n<2^38/\many<1000/\∀(r:Row) (d':L2.T),r.Ok many->cq (n+5) d'->Q (.tr r.t) [d']
abbrev k2z(P w K mg base):=aj P w K mg base aW 4 "_law_row" ["deck","goals"] (spT K [true,false] uw)
theorem zd(T:Txt K mg)(F:HasFn K mg "_law_row" dv ["deck","goals"])(h_law_draw:k0z P w K mg base)(h_law_number:aj P w K mg base aW 3 "_law_number" ["deck"] (spT K [true] oa)):
  k2z P w K mg base:=by
 refine F.lA cQ [true,false] rfl (by decide) ?_;left;obtain⟨sd,many,n,rfl,hs,hn,hmy,q⟩:=h;refine⟨_,(Y.ao (Y.set (i:=2) cQ.nd rfl (by right) (Y.lst (Y.dw rfl rfl)))
   (Y.ao (Y.set (i:=3) cQ.nd rfl (by right) (Y.ix (Y.cX K rfl) Y.aT (Y.vS 2) (Y.fn K rfl h_law_draw (hr.mono (by decide)) rfl au (Y.cons (Y.vS 0) (Y.cons Y.int Y.nil)))))
   (Y.ao (Y.set (i:=4) cQ.nd rfl (by right) (Y.ix (Y.cX K rfl) Y.aT Y.str (Y.fn K rfl h_law_draw (hr.mono (by decide)) rfl au (Y.cons (Y.vS 0) (Y.cons (Y.ix (Y.cX K rfl) Y.aT (Y.lst (Y.dw rfl rfl)) (Y.fn K rfl h_law_draw (hr.mono (by decide)) rfl au (Y.cons (Y.vS 0) (Y.cons Y.int Y.nil)))) Y.nil)))))
   (Y.ao (Y.fh (Y.aZ (Y.bj K rfl (EZ hu)) Y.bV (Y.vS 3) Y.str) (Y.aE (Y.ret (Y.tup (Y.cons (Y.vS 3) (Y.cons (Y.vS 4) (Y.cons (Y.fn K rfl h_law_number (hr.mono (by decide)) rfl au (Y.cons (Y.vS 0) Y.nil)) Y.nil)))))) Y.bM)
   (Y.ao (Y.fh (Y.aZ (Y.lB K rfl) Y.rK (Y.vS 3) (Y.tup (Y.dw rfl rfl))) (Y.aE (Y.ret (Y.tup (Y.cons (Y.vS 3) (Y.cons (Y.vS 4) (Y.cons (Y.ix (Y.cX K rfl) Y.aT Y.str (Y.fn K rfl h_law_draw (hr.mono (by decide)) rfl au (Y.cons (Y.vS 0) (Y.cons (Y.ix (Y.cX K rfl) Y.aT (Y.lst (Y.dw rfl rfl)) (Y.fn K rfl h_law_draw (hr.mono (by decide)) rfl au (Y.cons (Y.vS 0) (Y.cons Y.int Y.nil)))) Y.nil)))) Y.nil)))))) Y.bM)
   (Y.ao (Y.fh (Y.aZ (Y.lB K rfl) Y.rK (Y.vS 3) (Y.tup (Y.dw rfl rfl))) (Y.aE (Y.ret (Y.tup (Y.cons (Y.vS 3) (Y.cons (Y.vS 4) Y.nil))))) Y.bM)
   (Y.ao (Y.fh (Y.aZ (Y.bj K rfl (EZ hu)) Y.bV (Y.vS 3) Y.str) (Y.aE (Y.ret (Y.tup (Y.cons (Y.vS 3) (Y.cons (Y.fn K rfl h_law_draw (hr.mono (by decide)) rfl au (Y.cons (Y.vS 0) (Y.cons (Y.op (Y.ar K rfl) Y.aq (Y.vS 1) Y.int) Y.nil))) Y.nil))))) Y.bM)
   (Y.ao (Y.fh (Y.aZ (Y.bj K rfl (EZ hu)) Y.bV (Y.vS 3) Y.str) (Y.aE (Y.ret (Y.tup (Y.cons (Y.vS 3) (Y.cons (Y.vS 4) (Y.cons (Y.fn K rfl h_law_draw (hr.mono (by decide)) rfl au (Y.cons (Y.vS 0) (Y.cons (Y.op (Y.ar K rfl) Y.aq (Y.vS 1) Y.int) Y.nil))) Y.nil)))))) Y.bM)
   (Y.aE (Y.ret (Y.tup (Y.cons (Y.vS 3) Y.nil)))))))))))),?_⟩
 refine aV fun N hN=>?_;rfl';refine⟨by decide,hN _ ?_⟩;clear hN N
 refine aV fun N hN=>?_;rfl';refine⟨sd,12,n,rfl,hs,by lia,by decide,by decide,fun c s1 c0 c1 hs1=>?_⟩
 obtain⟨v,hv,ha⟩:=yp (xs:=[.str "put",.str "put",.str "add",.str "sub",.str "copy",.str "tell",.str "tell",.str "hear",.str "jump",.str "zero",.str "zero",.str "halt"]) c0 c1;exists ha;clear ha c0 c1;symm;rfl';refine⟨by decide,s1,2,n+1,rfl,hs1,by lia,by decide,by decide,fun c s2 c0 c1 hs2=>?_⟩
 obtain⟨m,em,m0,m8⟩:=two8 c0 c1;exists em;refine⟨s2,m,n+2,rfl,hs2,by lia,m0,by lia,fun b s3 b0 b1 hs3=>?_⟩
 have hb:=rN b0 (by lia)
 exists hb;refine⟨by decide +kernel,?_⟩
 refine hN _ ?_;clear hN N em c0 c1;obtain⟨bn,rfl⟩:∃ bn:Nat,b=bn:=⟨b.toNat,by lia⟩
 have hb8:bn<8:=by lia
 rw[Fp];generalize hS:Sl.bx _=S0;show Y.zo _ _ _ [.pb s3,.tr (.int (many:Int)),S0,.tr v,.tr (.str (dP bn))];have hv6:v=.str "put"\/(∃ w,v=.str (w2 w))\/(∃ w,v=.str (w1 w))\/v=.str "jump"\/v=.str "zero"\/v=.str "halt":=by
  simp only[EG,EW,FI] at hv;rcases hv with h|h|h|h|h|h|h|h|h|h|h|h<;>subst h<;>first|exact .inl rfl|exact .inr (.inl ⟨0,rfl⟩)|exact .inr (.inl ⟨1,rfl⟩)|exact .inr (.inl ⟨2,rfl⟩)|exact .inr (.inr (.inl ⟨0,rfl⟩))|exact .inr (.inr (.inl ⟨1,rfl⟩))|exact .inr (.inr (.inr (.inl rfl)))|exact .inr (.inr (.inr (.inr (.inl rfl))))|exact .inr (.inr (.inr (.inr (.inr rfl))))
 clear hv;refine aV fun N hN=>?_;rcases hv6 with rfl|⟨u,rfl⟩|⟨u,rfl⟩|hv
 ·exists (show (Str.ofString "put"=Str.ofString "put")=True from eq_true rfl),GQ;refine⟨s3,n+3,rfl,hs3,by lia,fun k s4 hs4 k1=>?_⟩
  rfl';exact⟨by decide,q (.put bn k) s4 ⟨hb8,k1⟩ hs4⟩
 ·have n1:∀ u,w2 u≠"put":=by decide +kernel
  have i1:∀ u,Y.g_ (.str (w2 u)) [.str "add",.str "sub",.str "copy"]=true:=by decide +kernel
  exists EB (n1 u);symm;exists i1 u;refine⟨by decide,rfl,rfl,by decide,s3,2,n+3,rfl,hs3,by lia,by decide,by decide,fun c s4 c0 c1 hs4=>?_⟩
  obtain⟨m,em,m0,m8⟩:=two8 c0 c1;exists em;refine⟨s4,m,n+4,rfl,hs4,by lia,m0,by lia,fun b s5 b0 b1 hs5=>?_⟩
  have hb:=rN b0 (by lia)
  exists hb;exact⟨by decide +kernel,by decide,q (.two u bn b.toNat) s5 ⟨hb8,by lia⟩ hs5⟩
 ·have n1:∀ u,w1 u≠"put":=by decide +kernel
  have i1:∀ u,Y.g_ (.str (w1 u)) [.str "add",.str "sub",.str "copy"]=false:=by decide +kernel
  have i2:∀ u,Y.g_ (.str (w1 u)) [.str "tell",.str "hear"]=true:=by decide +kernel
  exists EB (n1 u);symm;exists i1 u;refine⟨by decide,rfl,rfl,?_⟩
  symm;exists i2 u;exact⟨by decide,rfl,rfl,by decide,q (.one u bn) s3 hb8 (hs3.mono (by lia))⟩
 ·have n1:∀ z∈([("jump"),("zero"),("halt")]:List Str),z≠"put"/\Y.g_ (.str z) [.str "add",.str "sub",.str "copy"]=false/\Y.g_ (.str z) [.str "tell",.str "hear"]=false:=by decide +kernel
  obtain⟨z,hz,rfl⟩:∃ z∈([("jump"),("zero"),("halt")]:List Str),v=.str z:=by rcases hv with rfl|rfl|rfl<;>exact⟨_,by simp,rfl⟩
  obtain⟨e1,e2,e3⟩:=n1 z hz;exists EB e1;symm;exists e2;refine⟨by decide,rfl,rfl,?_⟩
  symm;exists e3;refine⟨by decide,rfl,rfl,?_⟩
  symm;rcases hv with hv|hv
  ·cases hv;exists EI (rfl:Str.ofString "jump"=Str.ofString "jump");refine⟨s3,(many:Int)+1,n+3,rfl,hs3,by lia,by lia,by lia,fun g s4 g0 g1 hs4=>?_⟩
   obtain⟨gn,rfl⟩:∃ gn:Nat,g=gn:=⟨g.toNat,by lia⟩
   rfl';exact⟨by decide,q (.jump gn) s4 (show gn<=many by lia) (hs4.mono (by lia))⟩
  ·have nh:z≠"jump":=by rcases hv with hv|hv<;>cases hv<;>decide +kernel
   exists EB nh;symm;rcases hv with hv|hv
   ·cases hv;exists EI (rfl:Str.ofString "zero"=Str.ofString "zero");refine⟨s3,(many:Int)+1,n+3,rfl,hs3,by lia,by lia,by lia,fun g s4 g0 g1 hs4=>?_⟩
    obtain⟨gn,rfl⟩:∃ gn:Nat,g=gn:=⟨g.toNat,by lia⟩
    rfl';exact⟨by decide,q (.zero bn gn) s4 ⟨hb8,(show gn<=many by lia)⟩ (hs4.mono (by lia))⟩
   ·cases hv;have nz:Str.ofString "halt"≠Str.ofString "zero":=by decide +kernel
    exists EB nz;ac_rfl;rfl';exact⟨by decide,q .halt s3 trivial (hs3.mono (by lia))⟩
noncomputable def E4:fT:=fun _ _=>False
theorem Ax{x:Str}{st:Stmt}{N ps:List Str}{k:Nat}{md:List Bool}(F:HasFn K mg x st ps)(S:av N ps (aa st))(hmd:md.length=ps.length)(hnd:md.length<=N.length):aj P w K mg base aW (k+1) x ps (spT K md E4):=by
 refine F.lA S md hmd hnd (fun args Qt hl h f cdv A outer s H E hr=>h.elim)
noncomputable def leaf:L2.T->Prop
 |.int _=>True
 |.str _=>True
 |_=>False
noncomputable def Dp:Nat->L2.T->Prop
 |0,t=>leaf t
 |n+1,t=>leaf t\/∃ ts,t=.tup ts/\∀ u∈ts,Dp n u
noncomputable def nH(n:Nat):fT:=fun args Q=>∃ x,args=[x,x]/\Dp n x/\Q (.tr (.bl true)) []
section
local macro_rules | `(tactic| decide) => `(tactic| exact Nat.le_refl _)
theorem d_(T:Txt K mg)(F:HasFn K mg "_law_same" bG ["found","due"])(n j:Nat){ts:fT}(h_law_same:aj P w K mg base aW j "_law_same" ["found","due"] (spT K [false,false] ts))(hts:∀ u Q,(n=0->False)->Dp (n-1) u->Q (.tr (.bl true)) []->ts [u,u] Q):aj P w K mg base aW (j+1) "_law_same" ["found","due"] (spT K [false,false] (nH n)):=by
 refine F.lA eX [false,false] rfl (by decide) ?_;left;obtain⟨x,rfl,hx,q⟩:=h;refine⟨_,(Y.ao (Y.fh (Y.aZ gL Y.mf (Y.vS 1) Y.ay) (Y.aE (Y.ret (Y.cmp gL Y.mf (Y.vS 0) Y.ay))) Y.bM)
   (Y.ao (Y.fh (Y.kJ K rfl (Y.zW (C:="tuple") K rfl rfl T.aN (Y.vS 1) rfl T.dX (by decide +kernel))) (Y.ao (Y.fh (Y.tw (Y.tY (Y.iD (Y.kJ K rfl (Y.zW (C:="tuple") K rfl rfl T.aN (Y.vS 0) rfl T.dX (by decide +kernel)))) (Y.j3 (Y.aZ (Y.sD K rfl (EZ hu)) Y.qQ (Y.cb (Y.bI K rfl) Y.cP rfl T.cw (by decide +kernel) (Y.cons (Y.vS 0) Y.nil)) (Y.cb (Y.bI K rfl) Y.cP rfl T.cw (by decide +kernel) (Y.cons (Y.vS 1) Y.nil)))))) (Y.aE (Y.ret Y.bl)) Y.bM)
   (Y.aE (Y.ret (Y.cmp (Y.bj K rfl (EZ hu)) Y.bV (Y.AJ K rfl (osc:=aa bG) (ON:=["found","due"]) (own:=["one","other"]) (N:=["one","other","found","due"]) ⟨rfl,by decide +kernel,rfl,by decide +kernel,by decide +kernel,by decide +kernel,by decide +kernel,by decide +kernel⟩ rfl rfl rfl rfl (Y.zip K rfl rfl T.Bl (Y.cons (Y.vS 0) (Y.cons (Y.vS 1) Y.nil))) (fun _ _ _ _=>(Z.xc (n:=2) K rfl rfl (Z.eM (Z.bW (i:=0) (show List.Nodup (["one","other","found","due"]:List Str) by decide +kernel) rfl (by right)) (Z.eM (Z.bW (i:=1) (show List.Nodup (["one","other","found","due"]:List Str) by decide +kernel) rfl (by right)) Z.mW)))) (fun _ _ _ _=>(Y.Dr (Y.iD (Y.kJ K rfl (Y.fn K rfl h_law_same (hr.mono (by decide)) rfl au (Y.cons (Y.vS 0) (Y.cons (Y.vS 1) Y.nil))))))) (fun _ _ _ _=>Y.int)) (Y.lst Y.nil))))) Y.bM)
   (Y.ao (Y.fh (Y.kJ K rfl (Y.zW (C:="str") K rfl rfl T.aN (Y.vS 1) rfl T.wz (by decide +kernel))) (Y.aE (Y.ret (Y.and (Y.zW (C:="str") K rfl rfl T.aN (Y.vS 0) rfl T.wz (by decide +kernel)) (Y.one (Y.cmp (Y.bj K rfl (EZ hu)) Y.bV (Y.vS 0) (Y.vS 1)))))) Y.bM)
   (Y.aE (Y.ret (Y.and (Y.zW (C:="int") K rfl rfl T.aN (Y.vS 0) rfl T.AL (by decide +kernel)) (Y.and (Y.not (Y.zW (C:="bool") K rfl rfl T.aN (Y.vS 0) rfl T.yz (by decide +kernel))) (Y.one (Y.cmp (Y.bj K rfl (EZ hu)) Y.bV (Y.vS 0) (Y.vS 1)))))))))),?_⟩
 have hx2:leaf x\/∃ us,x=.tup us/\(n=0->False)/\∀ u∈us,Dp (n-1) u:=by
  cases n with
  |zero=>exact .inl hx
  |succ n =>
   rcases hx with h|⟨us,e,h2⟩
   ·exact .inl h
   ·exact .inr ⟨us,e,(fun z=>by cases z),h2⟩
 refine aV fun N hN=>?_;rcases hx2 with hx|⟨us,rfl,hn0,hus⟩
 ·cases x<;>first|exact hx.elim|skip
  ·rename_i i;rfl';symm;exists (show dQ "int" "tuple"=false from by decide +kernel)
   symm;exists (show dQ "int" "str"=false from by decide +kernel)
   ac_rfl;exists (show dQ "int" "int"=true from by decide +kernel),(show dQ "int" "bool"=false from by decide +kernel)
   exact q
  ·rename_i z;rfl';symm;exists (show dQ "str" "tuple"=false from by decide +kernel)
   symm;exists (show dQ "str" "str"=true from by decide +kernel)
   exact q
 ·rfl';symm;exists (show dQ "tuple" "tuple"=true from by decide +kernel)
  refine aV fun M hM=>?_;exists (show dQ "tuple" "tuple"=true from by decide +kernel)
  rw[EB (by simp)]
  refine hM _ ?_;clear hM M;rfl';refine gw (fun rest acc μ=>∃ vs:List L2.T,(∀ u∈vs,u∈us)/\rest=ph vs vs/\acc=[]/\μ=[.tr (.tup us),.tr (.tup us)]) ⟨us,fun u h=>h,rfl,rfl,rfl⟩ ?_ ?_
  ·rintro acc μ ⟨vs,_,_,rfl,rfl⟩;refine⟨trivial,?_⟩;rfl';exact⟨rfl,rfl,q⟩
  ·rintro t r acc μ M ⟨vs,hvs,e,rfl,rfl⟩ k
   cases vs with
   |nil=>cases e
   |cons v vs =>
    obtain⟨rfl,rfl⟩:=List.cons.inj e;refine⟨trivial,EO (show 0<1 from Nat.zero_lt_one) (show 1<=sizeLine from HR rfl),?_⟩;rfl';refine hts v _ hn0 (hus v (hvs v EN)) ?_;show (if true=false then _ else M [] [Sl.tr (L2.T.tup us),Sl.tr (L2.T.tup us)])
    rw[EB (by simp)]
    exact k _ _ ⟨vs,fun u h=>hvs u (ED _ h),rfl,rfl,rfl⟩
end
abbrev k5z(P w K mg base):=aj P w K mg base aW 5 "_law_same" ["found","due"] (spT K [false,false] (nH 3))
theorem v_(T:Txt K mg)(F:HasFn K mg "_law_same" bG ["found","due"]):k5z P w K mg base:=
 d_ T F 3 4 (d_ T F 2 3 (d_ T F 1 2 (d_ T F 0 1 (Ax F eX rfl (by decide)) fun u Q h=>(h rfl).elim) fun u Q _ h q=>⟨u,rfl,h,q⟩) fun u Q _ h q=>⟨u,rfl,h,q⟩) fun u Q _ h q=>⟨u,rfl,h,q⟩
noncomputable def wH:fT:=fun args Q=>∃(ts:List L2.T) (g:Int),args=[.tup ts,.int g]/\ts≠[]/\ts.length<=100/\Q (.tr (.tup (ts.dropLast++[.int g]))) []
theorem qD(ts:List α):Y.bJ ts none (some (-1))=ts.dropLast:=by
 unfold Y.bJ;rw[HT.fz,GA,Hz,List.dropLast_eq_take];congr 1;unfold HT.aR;simp only[show ((-1:Int)<0)=True from eq_true (by decide),GQ]
 lia
abbrev k8z(P w K mg base):=aj P w K mg base aW 1 "with_goal" ["row","goal"] (spT K [false,false] wH)
theorem vp(T:Txt K mg)(F:HasFn K mg "with_goal" cS ["row","goal"]):k8z P w K mg base:=by
 refine F.lA jK [false,false] rfl (by decide) ?_;left;obtain⟨ts,g,rfl,h0,h1,q⟩:=h;refine⟨_,(Y.aE (Y.ret (Y.op (Y.ar K rfl) Y.aq (Y.eP K rfl (Y.vS 0) Y.t4 (Y.tE (Y.neg Y.int))) (Y.tup (Y.cons (Y.vS 1) Y.nil))))),?_⟩;exists qD;exact⟨by decide,by rw[List.length_dropLast];exact ES (show _<=101 by lia) (by decide),q⟩
inductive ai where
 |put (b n:Nat)|two (w:Fin 3) (a b:Nat)|one (w:Fin 2) (b:Nat)|jump (g:Int)|zero (b:Nat) (g:Int)|halt
inductive bE where
 |s (z:Str)|n (k:Int)
noncomputable def bE.t:bE->L2.T
 |.s z=>.str z
 |.n k=>.int k
noncomputable def ai.ps:ai->List bE
 |.put b n=>[.s "put",.s (dP b),.n (n:Nat)]
 |.two w a b=>[.s (w2 w),.s (dP a),.s (dP b)]
 |.one w b=>[.s (w1 w),.s (dP b)]
 |.jump g=>[.s "jump",.n g]
 |.zero b g=>[.s "zero",.s (dP b),.n g]
 |.halt=>[.s "halt"]
noncomputable def ai.t(r:ai):L2.T:=.tup (r.ps.map bE.t)
noncomputable def ai.Ok:ai->Prop
 |.put b _=>b<8
 |.two _ a b=>a<8/\b<8
 |.one _ b=>b<8
 |.jump _=>True
 |.zero b _=>b<8
 |.halt=>True
noncomputable def pN:Row->ai
 |.put b n=>.put b n
 |.two w a b=>.two w a b
 |.one w b=>.one w b
 |.jump g=>.jump (g:Nat)
 |.zero b g=>.zero b (g:Nat)
 |.halt=>.halt
theorem me(r:Row):r.t=(pN r).t:=by cases r<;>rfl
noncomputable def bq:ai->Option Int
 |.jump g=>some g
 |.zero _ g=>some g
 |_=>none
noncomputable def cD(r:ai):L2.T:=match bq r with
 |some g=>.int g
 |none=>.ay
noncomputable def lO:fT:=fun args Q=>∃ r:ai,args=[r.t]/\Q (.tr (cD r)) []
abbrev k3z(P w K mg base):=aj P w K mg base aW 1 "goal_of" ["row"] (spT K [false] lO)
theorem rj(T:Txt K mg)(F:HasFn K mg "goal_of" dU ["row"]):k3z P w K mg base:=by
 refine F.lA lR [false] rfl (by decide) ?_;left;obtain⟨r,rfl,q⟩:=h;refine⟨_,(Y.aE (Y.ret (Y.Cr (Y.aZ (Y.lB K rfl) Y.rK Y.str (Y.Er K rfl rfl T.sA (Y.ix (Y.cX K rfl) Y.aT (Y.vS 0) Y.int))) (Y.ix (Y.cX K rfl) Y.aT (Y.vS 0) (Y.neg Y.int)) Y.ay))),?_⟩;unfold ai.t;have yes:∀{ws:List L2.T} {P1 P2:Prop},ws.all aD=true->Y.g_ (.str "goal") ws=true->P1->aD (.str "goal")=true/\ws.all aD=true/\(if Y.g_ (.str "goal") ws=true then P1 else P2):=fun h1 h2 p=>⟨rfl,h1,by rw[EI h2];exact p⟩
 have no:∀{ws:List L2.T} {P1 P2:Prop},ws.all aD=true->Y.g_ (.str "goal") ws=false->P2->aD (.str "goal")=true/\ws.all aD=true/\(if Y.g_ (.str "goal") ws=true then P1 else P2):=fun h1 h2 p=>⟨rfl,h1,by rw[EB (by rw[h2];decide)];exact p⟩
 cases r with
 |jump g=>rfl';exact yes rfl (by decide +kernel) q
 |zero b g=>rfl';exact yes rfl (by decide +kernel) q
 |put b n=>rfl';exact no rfl (by decide +kernel) q
 |two u b c =>
  rfl';rcases AE u with rfl|rfl|rfl<;>exact no rfl (by decide +kernel) q
 |one u b =>
  rfl';rcases BG u with rfl|rfl<;>exact no rfl (by decide +kernel) q
 |halt=>rfl';exact no rfl (by decide +kernel) q
noncomputable def ai.to(g:Int):ai->ai
 |.jump _=>.jump g
 |.zero b _=>.zero b g
 |r=>r
noncomputable def mv(first by':Int)(r:ai):ai:=match bq r with
 |none=>r
 |some g=>if g<first then r else r.to (g+by')
noncomputable def Ef:fT:=fun args Q=>∃(r:ai) (first by':Int),args=[r.t,.int first,.int by']/\Q (.tr (mv first by' r).t) []
abbrev k4z(P w K mg base):=aj P w K mg base aW 2 "goal_moved" ["row","first","by"] (spT K [false,false,false] Ef)
theorem Bt(T:Txt K mg)(F:HasFn K mg "goal_moved" cz ["row","first","by"])(hgoal_of:k3z P w K mg base)(hwith_goal:k8z P w K mg base):k4z P w K mg base:=by
 refine F.lA eA [false,false,false] rfl (by decide) ?_;left;obtain⟨r,first,by',rfl,q⟩:=h
 refine⟨_,(Y.ao (Y.set (i:=3) eA.nd rfl (by right) (Y.fn K rfl hgoal_of (hr.mono (by decide)) rfl au (Y.cons (Y.vS 0) Y.nil)))
   (Y.aE (Y.ret (Y.Cr (Y.tw (Y.tY (Y.aZ gL Y.mf (Y.vS 3) Y.ay) (Y.j3 (Y.aZ kx Y.gi (Y.vS 3) (Y.vS 1))))) (Y.vS 0) (Y.fn K rfl hwith_goal (hr.mono (by decide)) rfl au (Y.cons (Y.vS 0) (Y.cons (Y.op (Y.ar K rfl) Y.aq (Y.vS 3) (Y.vS 2)) Y.nil))))))),?_⟩
 refine aV fun N hN=>?_;rfl';refine⟨r,rfl,?_⟩;rfl';ac_rfl;unfold mv at q;unfold cD
 cases hg:bq r with
 |none =>
  rw[hg] at q;rfl';exact q
 |some g =>
  rw[hg] at q;dsimp only at q ⊢;by_cases c:g<first
  ·rw[EI c] at q;exists Fq c;exact q
  ·rw[EB c] at q;exists EX c
   cases r with
   |jump g'=>cases hg;exact⟨_,g+by',rfl,by simp[ai.ps],(show 2<=100 by decide),q⟩
   |zero b g'=>cases hg;exact⟨_,g+by',rfl,by simp[ai.ps],(show 3<=100 by decide),q⟩
   |put b n=>cases hg
   |two u a b=>cases hg
   |one u b=>cases hg
   |halt=>cases hg
noncomputable def ym:fT:=fun args Q=>∃(rows:List ai) (first by':Int),args=[.tup (rows.map ai.t),.int first,.int by']/\rows.length<=1000/\Q (.tr (.tup ((rows.map (mv first by')).map ai.t))) []
abbrev k1z(P w K mg base):=aj P w K mg base aW 3 "goals_moved" ["rows","first","by"] (spT K [false,false,false] ym)
theorem y6(T:Txt K mg)(F:HasFn K mg "goals_moved" bC ["rows","first","by"])(hgoal_moved:k4z P w K mg base):k1z P w K mg base:=by
 refine F.lA gH [false,false,false] rfl (by decide) ?_;left;obtain⟨rows,first,by',rfl,hl,q⟩:=h
 refine⟨_,(Y.aE (Y.ret (Y.ct (Y.dZ K rfl) Y.fe rfl T.dX (by decide +kernel) (Y.cons (Y.mO (osc:=aa bC) (ON:=["rows","first","by"]) (own:=["row"]) (N:=["row","rows","first","by"]) ⟨rfl,by decide +kernel,rfl,by decide +kernel,by decide +kernel,by decide +kernel,by decide +kernel,by decide +kernel⟩ rfl rfl rfl rfl (Y.anyS K rfl (Y.vS 0)) (fun _ _ _ _=>(Z.bW (i:=0) (show List.Nodup (["row","rows","first","by"]:List Str) by decide +kernel) rfl (by right))) (fun _ _ _ _=>Y.wg) (fun _ _ _ _=>(Y.fn K rfl hgoal_moved (hr.mono (by decide)) rfl au (Y.cons (Y.vS 0) (Y.cons (Y.vS 2) (Y.cons (Y.vS 3) Y.nil)))))) Y.nil)))),?_⟩
 rfl';refine mX ai.t (fun r=>(mv first by' r).t) rows (by lia) (fun r hr' acc M hM=>?_) ?_
 ·rfl';refine⟨r,first,by',rfl,?_⟩
  rfl';exact hM
 rfl';rw[List.map_map] at q;exact q
local macro_rules | `(tactic| walk_at "rz") => do
  let ids := ("Nat.reduceAdd Nat.reduceSub Nat.reduceLeDiff L2.Ap.lP L2.Ap.tC L2.Ap.pq L2.Ap.AW L2.Ap.jk L2.Ap.oY L2.Ap.zQ L2.Ap.sP L2.Ap.lM L2.Ap.tK L2.Ap.vX L2.Ap.iy L2.Ap.sG L2.Ap.pk L2.Ap.ik L2.Ap.t6 L2.Ap.zS L2.Ap.Ca L2.Ap.eZ L2.Ap.kD L2.Ap.lj L2.Ap.bU L2.Ap.oK L2.Ap.qp L2.Ap.kP L2.Ap.sv L2.Ap.kH L2.Ap.jj L2.Ap.sf vq qd L2.Ap.pR L2.Ap.rU L2.Ap.A9 L2.Ap.se L2.Ap.kT L2.Ap.setRef L2.Ap.sI L2.Ap.Bz L2.Ap.Bd L2.Ap.BK L2.Ap.yi L2.Ap.uU L2.start ow Cj y4 Aw List.map_cons List.map_nil List.length_cons List.length_nil List.replicate List.cons_append List.nil_append List.append_nil List.getElem?_cons_zero List.getElem?_cons_succ List.set_cons_zero List.set_cons_succ Option.some.injEq exists_eq_left' V.int.injEq V.bl.injEq V.ref.injEq List.cons.injEq and_true true_and decide_eq_true_eq Bool.not_eq_true' decide_eq_false_iff_not Bool.false_eq_true L2.Ap.qC L2.Ap.iq L2.Ap.kM L2.Ap.rA".splitOn " ").toArray.map fun n => Lean.mkIdent n.toName
  `(tactic| simp only [↓reduceIte, $[$ids:ident],*])
noncomputable def aH(rows:List ai):L2.T:=.tup (rows.map ai.t)
theorem jA{v:V}{r:ai}(hk:∀ a vs,H a=some (.tup vs)->H' a=some (.tup vs)/\¬ B' a)(h:Rep K H B v r.t):Rep K H' B' v r.t:=by
 obtain⟨a,vs,rfl,n,ha,rr⟩:=Rep.tupI h;refine .tup (hk a vs ha).2 (hk a vs ha).1 ?_;clear h ha n;generalize r.ps=ps at rr ⊢
 induction ps generalizing vs with
 |nil=>rw[rr.cI];exact .nil
 |cons x ps ih =>
  obtain⟨v,ws,rfl,h,rr⟩:=rr.aC;refine .cons ?_ (ih ws rr)
  cases x with
  |s z=>rw[Rep.e9 h];exact .str z
  |n k=>rw[Rep.bf h];exact .int k
theorem aK{v:V}{rows:List ai}(hk:∀ a vs,H a=some (.tup vs)->H' a=some (.tup vs)/\¬ B' a)(h:Rep K H B v (aH rows)):Rep K H' B' v (aH rows):=by
 obtain⟨a,vs,rfl,n,ha,rr⟩:=Rep.tupI h;refine .tup (hk a vs ha).2 (hk a vs ha).1 ?_;clear h ha n
 induction rows generalizing vs with
 |nil=>rw[rr.cI];exact .nil
 |cons x ps ih =>
  obtain⟨v,ws,rfl,h,rr⟩:=rr.aC;exact .cons (jA hk h) (ih ws rr)
noncomputable def f7(rows:List ai)(place:Int)(r:ai):Prop:=0<=place/\place<=rows.length/\∀ g,bq r=some g->0<=g/\g<=(rows.length:Int)+1
noncomputable def ig(rows:List ai)(p:Nat)(r:ai):List ai:=(rows.map (mv (p:Nat) 1)).take p++[r]++(rows.map (mv (p:Nat) 1)).drop p
noncomputable def nq(K:Ih)(C CR:Addr):Sp:=fun vs H Q E=>∃(k dx b:Addr) (vr vrow:V) (rows:List ai) (place:Int) (r:ai),vs=[.ref k,.int place,vrow]/\H k=some (.ins C dx [("book",.ref b),("rows",vr)])/\Rep K H (fun _=>False) vr (aH rows)/\Rep K H (fun _=>False) vrow r.t/\rows.length<=100/\-10000000<place/\place<10000000/\(∀ g,bq r=some g->-10000000<g/\g<10000000) /\
 (f7 rows place r->∀ H' vr',H' k=some (.ins C dx [("book",.ref b),("rows",vr')])->Rep K H' (fun _=>False) vr' (aH (ig rows place.toNat r))->(∀ c o,H c=some o->c≠k->H' c=some o)->Q .ay H') /\
 (¬ f7 rows place r->∀ e H',(∀ c o,H c=some o->H' c=some o)->H' e=some (.ext (eQ e (.ref CR) none))->E (.ref CR) (some e) H')
noncomputable def lx(k C b:Addr)(rows:List ai)(place:Int)(r:ai)(m g mo:Sl):Mu:=[.tr (.ins k C ["book","rows"] [.adr b,aH rows]),.tr (.int place),.tr r.t,m,g,mo]
theorem gE(x y:L2.T):Y.gf "rows" ["book","rows"] [x,y]=some y:=by
 have h:∀{f a b:Str} {x y:L2.T},a≠f->b=f->Y.gf f [a,b] [x,y]=some y:=fun n e=>by subst e;exact (EB n).trans (EI rfl)
 exact h (by decide +kernel) rfl
theorem iL(xs:List α)(n:Nat):Y.bJ xs none (some (n:Int))=xs.take n:=by
 unfold Y.bJ;rw[HT.fz,HT.jz,GA,Hz];exact (List.take_eq_take_min ..).symm
theorem jg(xs:List α)(n:Nat):Y.bJ xs (some (n:Int)) none=xs.drop n:=by
 unfold Y.bJ;rw[HT.fz,HT.jz];rcases Ic n xs.length with z|z
 ·rw[Nat.min_eq_left (by lia),Gx (by rw[Ga];exact EH _)]
 ·rw[Nat.min_eq_right z,GP,List.take_zero,List.drop_eq_nil_of_le z]
theorem yB{f:Addr}(T:Txt K mg)(cM:gy K C)(aO:bo K C "rows")(hC_NoRow:mg "NoRow"=some (.ref C_NoRow))(kC_NoRow:fH K C_NoRow)(hgoal_of:k3z P w K mg base)(hgoals_moved:k1z P w K mg base)(F:jn K "put_in" "Kept.put_in" aJ f fd):aX P w K mg base (pS P w) 4 f fd ["self","place","row"] (nq K C C_NoRow):=by
 refine F.Ec bR (fun vs H Q E h=>?_) (fun cdv A outer s H vs Q E hr h=>?_)
 ·obtain⟨k,dx,b,vr,vrow,rows,place,r,rfl,_⟩:=h;rfl
 ·obtain⟨k,dx,b,vr,vrow,rows,place,r,rfl,hk,rr,rv,hl,hp0,hp1,hg,q,qx⟩:=h;have hu:=bz hr;have ag:dF K H (fun _=>False) [false,false,false] [.ref k,.int place,vrow] [.ins k C ["book","rows"] [.adr b,aH rows],.int place,r.t]:=⟨.ins (vs:=[.ref b,vr]) (fun z=>z) hk rfl (.cons (.adr b) (.cons rr .nil)),.int _,rv,trivial⟩;have l0:=ip (N:=["self","place","row","many","goal","moved"]) ag (fun b z=>z.elim) (by show List.Nodup [];exact Fs) (by decide)
  refine⟨_,(Z.ao (YS.lz (Y.set (i:=3) bR.nd rfl (by right) (Y.cb (Y.bI K rfl) Y.cP rfl T.cw (by decide +kernel) (Y.cons (Y.pU K rfl cM aO (Y.vS 0)) Y.nil))))
   (Z.ao (pP.lz (Y.i8 (Y.tw (Y.tY (Y.aZ kx Y.gi (Y.vS 1) Y.int) (Y.j3 (Y.aZ wW Y.gi (Y.vS 1) (Y.vS 3))))) (Y.bL (Y.lG rfl hC_NoRow kC_NoRow rfl rfl (Y.cons (Y.yc (Y.jP (Y.ot (Y.vS 1) (Y.jP (Y.ot (Y.vS 3) (Y.jP Y.xb)))))) Y.nil))) Y.qN))
   (Z.ao (YS.lz (Y.set (i:=4) bR.nd rfl (by right) (Y.fn K rfl hgoal_of (hr.mono (by decide)) rfl au (Y.cons (Y.vS 2) Y.nil))))
   (Z.ao (pP.lz (Y.i8 (Y.tw (Y.tO (Y.aZ tH Y.tV (Y.vS 4) Y.ay) (Y.nN (Y.tw (Y.tY (Y.aZ kx Y.gi (Y.vS 4) Y.int) (Y.j3 (Y.aZ wW Y.gi (Y.vS 4) (Y.op (Y.ar K rfl) Y.aq (Y.vS 3) Y.int)))))))) (Y.bL (Y.lG rfl hC_NoRow kC_NoRow rfl rfl (Y.cons (Y.yc (Y.jP (Y.ot (Y.vS 4) (Y.jP (Y.ot (Y.vS 3) (Y.jP Y.xb)))))) Y.nil))) Y.qN))
   (Z.ao (YS.lz (Y.set (i:=5) bR.nd rfl (by right) (Y.fn K rfl hgoals_moved (hr.mono (by decide)) rfl au (Y.cons (Y.pU K rfl cM aO (Y.vS 0)) (Y.cons (Y.vS 1) (Y.cons Y.int Y.nil))))))
   (Z.aE (Z.tW K rfl (Z.v 0) (YE.lz (Y.op (Y.ar K rfl) Y.aq (Y.op (Y.ar K rfl) Y.aq (Y.eP K rfl (Y.vS 5) Y.t4 (Y.tE (Y.vS 1))) (Y.tup (Y.cons (Y.vS 2) Y.nil))) (Y.eP K rfl (Y.vS 5) (Y.tE (Y.vS 1)) Y.t4)))))))))),?_⟩
  obtain⟨F0,eF⟩:∃ F0,F0=oV K H [false,false,false] [.ref k,.int place,vrow] (fun _=>False) (fun b z=>z.elim):=⟨_,rfl⟩;rw[<- eF] at l0;have hK:F0.K=K:=by rw[eF];rfl
  have old:∀{ad:Nat->Addr} {B:aB} {σ:L2.St} {H':Hp} {μ:Mu},Rl F0 ad B σ H' μ->∀ c o,H c=some o->H' c=some o:=fun l c o e=>l.old c o (by rw[eF];exact e) (fun i zi=>by rw[eF] at zi;rcases i with _|_|_|i<;>cases zi)
  have hrl:(rows.map ai.t).length=rows.length:=EJ ..;refine bF fun N hN=>?_;refine nF hK l0 (fun μ=>μ=lx k C b rows place r (.tr (.int (rows.length:Nat))) .un .un) ?_ fun ad1 B1 σ1 H1 μ1 l1 f1 e1=>?_
  ·show Y.jE _ _ _ [.tr (.ins k C ["book","rows"] [.adr b,aH rows]),.tr (.int place),.tr r.t,.un,.un,.un];exists gE;unfold aH;exists hrl;rfl
  subst e1;show N _ _;rw[hN];clear hN N;refine bF fun N hN=>?_;have xd:¬ f7 rows place r->∀{B:aB} {H1:Hp},kr F0 B H1 (jL (dH (pS P w) P w K mg base ["self","place","row","many","goal","moved"] "Kept.put_in" (aa aJ) f cdv A outer s H E)) (fun x _=>x=.exc (.ref C_NoRow) none):=fun hno B H1 ad' B' σ' H' μ' x cls d e l _ xh _ _ hx=>by
   subst hx;obtain⟨he,rfl,rfl⟩:=xh;exact kS (qx hno e H' (old l) he)
  have big:∀ x:Int,-10000000<x->x<10000000->x.natAbs<2^1900:=fun x h1 h2=>EO (EO (show x.natAbs<10000000 by lia) (show 10000000<=2^24 by decide)) (GF (by decide) (by decide))
  by_cases c1:place<0\/(rows.length:Int)<place
  ·have hno:¬ f7 rows place r:=fun h=>by obtain⟨h1,h2,_⟩:=h;lia
   refine h_ (by exact hK) l1 (fun _=>False) (fun x _=>x=.exc (.ref C_NoRow) none) ?_ (fun _ _ _ _ _ _ _ z=>z.elim) (xd hno)
   unfold lx;by_cases c2:place<0
   ·exists Fq c2;exact⟨big _ hp0 hp1,big _ (by lia) (by lia)⟩
   ·exists EX c2,Fq (show ((rows.length:Nat):Int)<place by lia)
    exact⟨big _ hp0 hp1,big _ (by lia) (by lia)⟩
  refine h_ (by exact hK) l1 (fun μ=>μ=lx k C b rows place r (.tr (.int (rows.length:Nat))) .un .un) (fun _ _=>False) ?_ (fun ad2 B2 σ2 H2 μ2 l2 f2 e2=>?_) (fun _ _ _ _ _ _ _ _ _ _ _ _ _ _ z=>z.elim)
  ·unfold lx;exists EX (show ¬ place<0 by lia),EX (show ¬ ((rows.length:Nat):Int)<place by lia)<;>rfl
  subst e2;show N _ _;rw[hN];clear hN N;refine bF fun N hN=>?_;refine nF hK l2 (fun μ=>μ=lx k C b rows place r (.tr (.int (rows.length:Nat))) (.tr (cD r)) .un) (by unfold lx;rfl';refine⟨r,rfl,?_⟩;rfl'<;>rfl) fun ad3 B3 σ3 H3 μ3 l3 f3 e3=>?_
  subst e3;show N _ _;rw[hN];clear hN N;refine bF fun N hN=>?_;obtain⟨p,ep⟩:∃ p:Nat,place=(p:Int):=⟨place.toNat,by lia⟩
  have go:∀{ad:Nat->Addr} {B:aB} {σ:L2.St} {H4:Hp},Rl F0 ad B σ H4 (lx k C b rows place r (.tr (.int (rows.length:Nat))) (.tr (cD r)) .un)->f7 rows place r->N σ H4:=by
   intro ad B σ H4 l4 aM;rw[hN];clear hN N;refine bF fun N hN=>?_;refine nF hK l4 (fun μ=>μ=lx k C b rows place r (.tr (.int (rows.length:Nat))) (.tr (cD r)) (.tr (.tup ((rows.map (mv place 1)).map ai.t)))) (by unfold lx;exists gE;refine⟨rows,place,1,rfl,by lia,?_⟩;rfl'<;>rfl) fun ad5 B5 σ5 H5 μ5 l5 f5 e5=>?_
   subst e5;show N _ _;rw[hN];clear hN N;refine⟨F0,ad5,B5,_,fun r' μ=>r'=.tr (aH (ig rows p r))/\μ=lx k C b rows place r (.tr (.int (rows.length:Nat))) (.tr (cD r)) (.tr (.tup ((rows.map (mv place 1)).map ai.t))),by exact hK,l5,?_,?_⟩
   ·unfold lx;rfl';have hpl:p<=rows.length:=by have:=aM.2.1;lia
    rw[ep,iL,jg];refine⟨by decide,?_,?_,?_⟩
    ·exact ES (show _<=1000 by rw[Fg,EJ,EJ];lia) (by decide)
    ·exact ES (show _<=1000 by rw[EU,Fg,Ga,EJ,EJ,Fe];lia) (by decide)
    ·unfold aH ig;rw[Ff,Ff,GG,GH];rfl
   rintro v H6 _ _ w6 f6 k6 ⟨rfl,rfl⟩;have l6:=w6.1;have rv6:=w6.2;obtain⟨v0,e0,r0⟩:=l6.slot 0 _ rfl
   cases r0 with
   |ins n0 h0 ll rr0 =>
   have hk6:=old l6 k _ hk;refine⟨_,e0,k,C,dx,_,rfl,hk6,cM,aO,(show 2<1000 by decide),?_⟩
   have tu:∀ a' vs',H6 a'=some (.tup vs')->upd H6 k (.ins C dx (dh "rows" v [("book",.ref b),("rows",vr)])) a'=some (.tup vs')/\¬ (fun _:Addr=>False) a':=fun a' vs' e=>⟨by rw[af (fun z=>by rw[z,hk6] at e;cases e)];exact e,id⟩
   refine q aM _ v (by rw[ae];rfl) ?_ (fun c' o' e' n'=>by rw[af n'];exact old l6 c' o' e')
   have h:Rep F0.K H6 B5 v (aH (ig rows p r)):=rv6;rw[hK] at h;rw[ep,Fp];exact aK tu h
  cases hgo:bq r with
  |none =>
   have aM:f7 rows place r:=⟨by lia,by lia,fun g h=>by rw[hgo] at h;cases h⟩
   refine h_ (by exact hK) l3 (fun μ=>μ=lx k C b rows place r (.tr (.int (rows.length:Nat))) (.tr (cD r)) .un) (fun _ _=>False) ?_ (fun ad2 B2 σ2 H2 μ2 l2 f2 e2=>by subst e2;exact go l2 aM) (fun _ _ _ _ _ _ _ _ _ _ _ _ _ _ z=>z.elim)
   unfold lx cD;rw[hgo];rfl'<;>rfl
  |some g =>
   obtain⟨g0,g1⟩:=hg g hgo;by_cases c3:g<0\/(rows.length:Int)+1<g
   ·have hno:¬ f7 rows place r:=fun h=>by have:=h.2.2 g hgo;lia
    refine h_ (by exact hK) l3 (fun _=>False) (fun x _=>x=.exc (.ref C_NoRow) none) ?_ (fun _ _ _ _ _ _ _ z=>z.elim) (xd hno)
    unfold lx cD;rw[hgo];dsimp only;by_cases c4:g<0
    ·exists Fq c4;exact⟨big _ g0 g1,big _ (by lia) (by lia)⟩
    ·exists EX c4,Fq (show ((rows.length:Nat):Int)+1<g by lia)
     exact⟨big _ g0 g1,big _ (by lia) (by lia)⟩
   ·have aM:f7 rows place r:=⟨by lia,by lia,fun g' h=>by rw[hgo] at h;cases h;lia⟩
    refine h_ (by exact hK) l3 (fun μ=>μ=lx k C b rows place r (.tr (.int (rows.length:Nat))) (.tr (cD r)) .un) (fun _ _=>False) ?_ (fun ad2 B2 σ2 H2 μ2 l2 f2 e2=>by subst e2;exact go l2 aM) (fun _ _ _ _ _ _ _ _ _ _ _ _ _ _ z=>z.elim)
    unfold lx cD;rw[hgo];dsimp only;exists decide_eq_false (show ¬ g<0 by lia),decide_eq_false (show ¬ ((rows.length:Nat):Int)+1<g by lia)<;>rfl
noncomputable def dN(rows:List ai)(p:Nat):List ai:=(rows.take p++rows.drop (p+1)).map (mv ((p:Int)+1) (-1))
noncomputable def j0(K:Ih)(C CR:Addr):Sp:=fun vs H Q E=>∃(k dx b:Addr) (vr:V) (rows:List ai) (place:Int),vs=[.ref k,.int place]/\H k=some (.ins C dx [("book",.ref b),("rows",vr)])/\Rep K H (fun _=>False) vr (aH rows)/\rows.length<=100/\-10000000<place/\place<10000000 /\
 (0<=place/\place<rows.length->∀ H' vr',H' k=some (.ins C dx [("book",.ref b),("rows",vr')])->Rep K H' (fun _=>False) vr' (aH (dN rows place.toNat))->(∀ c o,H c=some o->c≠k->H' c=some o)->Q .ay H') /\
 (¬ (0<=place/\place<rows.length)->∀ e H',(∀ c o,H c=some o->H' c=some o)->H' e=some (.ext (eQ e (.ref CR) none))->E (.ref CR) (some e) H')
noncomputable def zX(k C b:Addr)(rows:List ai)(place:Int)(m:Sl):Mu:=[.tr (.ins k C ["book","rows"] [.adr b,aH rows]),.tr (.int place),m]
theorem uO{f:Addr}(T:Txt K mg)(cM:gy K C)(aO:bo K C "rows")(hC_NoRow:mg "NoRow"=some (.ref C_NoRow))(kC_NoRow:fH K C_NoRow)(hgoals_moved:k1z P w K mg base)(F:jn K "take_out" "Kept.take_out" aF f fd):aX P w K mg base (pS P w) 4 f fd ["self","place"] (j0 K C C_NoRow):=by
 refine F.Ec cY (fun vs H Q E h=>?_) (fun cdv A outer s H vs Q E hr h=>?_)
 ·obtain⟨k,dx,b,vr,rows,place,rfl,_⟩:=h;rfl
 ·obtain⟨k,dx,b,vr,rows,place,rfl,hk,rr,hl,hp0,hp1,q,qx⟩:=h;have hu:=bz hr;have ag:dF K H (fun _=>False) [false,false] [.ref k,.int place] [.ins k C ["book","rows"] [.adr b,aH rows],.int place]:=⟨.ins (vs:=[.ref b,vr]) (fun z=>z) hk rfl (.cons (.adr b) (.cons rr .nil)),.int _,trivial⟩;have l0:=ip (N:=["self","place","many"]) ag (fun b z=>z.elim) (by show List.Nodup [];exact Fs) (by decide)
  refine⟨_,(Z.ao (YS.lz (Y.set (i:=2) cY.nd rfl (by right) (Y.cb (Y.bI K rfl) Y.cP rfl T.cw (by decide +kernel) (Y.cons (Y.pU K rfl cM aO (Y.vS 0)) Y.nil))))
   (Z.ao (pP.lz (Y.i8 (Y.tw (Y.tY (Y.aZ kx Y.gi (Y.vS 1) Y.int) (Y.j3 (Y.aZ Bw Y.gi (Y.vS 1) (Y.vS 2))))) (Y.bL (Y.lG rfl hC_NoRow kC_NoRow rfl rfl (Y.cons (Y.yc (Y.jP (Y.ot (Y.vS 1) (Y.jP (Y.ot (Y.vS 2) (Y.jP Y.xb)))))) Y.nil))) Y.qN))
   (Z.aE (Z.tW K rfl (Z.v 0) (YE.lz (Y.fn K rfl hgoals_moved (hr.mono (by decide)) rfl au (Y.cons (Y.op (Y.ar K rfl) Y.aq (Y.eP K rfl (Y.pU K rfl cM aO (Y.vS 0)) Y.t4 (Y.tE (Y.vS 1))) (Y.eP K rfl (Y.pU K rfl cM aO (Y.vS 0)) (Y.tE (Y.op (Y.ar K rfl) Y.aq (Y.vS 1) Y.int)) Y.t4)) (Y.cons (Y.op (Y.ar K rfl) Y.aq (Y.vS 1) Y.int) (Y.cons (Y.neg Y.int) Y.nil))))))))),?_⟩
  obtain⟨F0,eF⟩:∃ F0,F0=oV K H [false,false] [.ref k,.int place] (fun _=>False) (fun b z=>z.elim):=⟨_,rfl⟩;rw[<- eF] at l0;have hK:F0.K=K:=by rw[eF];rfl
  have old:∀{ad:Nat->Addr} {B:aB} {σ:L2.St} {H':Hp} {μ:Mu},Rl F0 ad B σ H' μ->∀ c o,H c=some o->H' c=some o:=fun l c o e=>l.old c o (by rw[eF];exact e) (fun i zi=>by rw[eF] at zi;rcases i with _|_|i<;>cases zi)
  have hrl:(rows.map ai.t).length=rows.length:=EJ ..;refine bF fun N hN=>?_;refine nF hK l0 (fun μ=>μ=zX k C b rows place (.tr (.int (rows.length:Nat)))) ?_ fun ad1 B1 σ1 H1 μ1 l1 f1 e1=>?_
  ·show Y.jE _ _ _ [.tr (.ins k C ["book","rows"] [.adr b,aH rows]),.tr (.int place),.un];exists gE;unfold aH;exists hrl;rfl
  subst e1;show N _ _;rw[hN];clear hN N;refine bF fun N hN=>?_;have big:∀ x:Int,-10000000<x->x<10000000->x.natAbs<2^1900:=fun x h1 h2=>EO (EO (show x.natAbs<10000000 by lia) (show 10000000<=2^24 by decide)) (GF (by decide) (by decide))
  by_cases c1:place<0\/(rows.length:Int)<=place
  ·refine h_ (by exact hK) l1 (fun _=>False) (fun x _=>x=.exc (.ref C_NoRow) none) ?_ (fun _ _ _ _ _ _ _ z=>z.elim) (fun ad' B' σ' H' μ' x cls d e l _ xh _ _ hx=>by
    subst hx;obtain⟨he,rfl,rfl⟩:=xh;exact kS (qx (by lia) e H' (old l) he))
   unfold zX;by_cases c2:place<0
   ·exists Fq c2;exact⟨big _ hp0 hp1,big _ (by lia) (by lia)⟩
   ·exists EX c2,Fq (show ((rows.length:Nat):Int)<=place by lia)
    exact⟨big _ hp0 hp1,big _ (by lia) (by lia)⟩
  refine h_ (by exact hK) l1 (fun μ=>μ=zX k C b rows place (.tr (.int (rows.length:Nat)))) (fun _ _=>False) ?_ (fun ad2 B2 σ2 H2 μ2 l2 f2 e2=>?_) (fun _ _ _ _ _ _ _ _ _ _ _ _ _ _ z=>z.elim)
  ·unfold zX;exists EX (show ¬ place<0 by lia),EX (show ¬ ((rows.length:Nat):Int)<=place by lia)<;>rfl
  subst e2;show N _ _;rw[hN];clear hN N;obtain⟨p,ep⟩:∃ p:Nat,place=(p:Int):=⟨place.toNat,by lia⟩
  refine⟨F0,ad2,B2,_,fun r' μ=>r'=.tr (aH (dN rows p))/\μ=zX k C b rows place (.tr (.int (rows.length:Nat))),by exact hK,l2,?_,?_⟩
  ·unfold zX;exists gE;unfold aH;rfl';have hpl:p<rows.length:=by lia
   have h1:Y.bJ (rows.map ai.t) none (some place)=(rows.take p).map ai.t:=by rw[ep,iL,GG]
   have h2:Y.bJ (rows.map ai.t) (some (place+1)) none=(rows.drop (p+1)).map ai.t:=by rw[ep,show ((p:Nat):Int)+1=((p+1:Nat):Int) from rfl,jg,GH]
   rw[h1,h2];refine⟨ES (show _<=1000 by rw[EJ,EJ,Fg,Ga];lia) (by decide),rows.take p++rows.drop (p+1),place+1,-1,by rw[Ff],by rw[EU,Fg,Ga];lia,?_⟩
   unfold dN;rw[ep]
  rintro v H6 _ _ w6 f6 k6 ⟨rfl,rfl⟩;have l6:=w6.1;obtain⟨v0,e0,r0⟩:=l6.slot 0 _ rfl
  cases r0 with
  |ins n0 h0 ll rr0 =>
  have hk6:=old l6 k _ hk;refine⟨_,e0,k,C,dx,_,rfl,hk6,cM,aO,(show 2<1000 by decide),?_⟩
  have tu:∀ a' vs',H6 a'=some (.tup vs')->upd H6 k (.ins C dx (dh "rows" v [("book",.ref b),("rows",vr)])) a'=some (.tup vs')/\¬ (fun _:Addr=>False) a':=fun a' vs' e=>⟨by rw[af (fun z=>by rw[z,hk6] at e;cases e)];exact e,id⟩
  refine q ⟨by lia,by lia⟩ _ v (by rw[ae];rfl) ?_ (fun c' o' e' n'=>by rw[af n'];exact old l6 c' o' e')
  have h:Rep F0.K H6 B2 v (aH (dN rows p)):=w6.2;rw[hK] at h;rw[ep,Fp];exact aK tu h
noncomputable def rL(K:Ih)(C:Addr):Sp:=fun vs H Q _=>∃(k dx b:Addr) (vr:V),vs=[.ref k]/\H k=some (.ins C dx [("book",.ref b),("rows",vr)])/\Q vr H
theorem vt{f:Addr}(T:Txt K mg)(cM:gy K C)(aO:bo K C "rows")(F:jn K "program" "Kept.program" aA f fd):aX P w K mg base aW 1 f fd ["self"] (rL K C):=by
 refine F.ok gp (fun vs H Q E h=>?_) (fun cdv A outer s H vs Q E hr h=>?_)
 ·obtain⟨k,dx,b,vr,rfl,_⟩:=h;rfl
 ·obtain⟨k,dx,b,vr,rfl,hk,q⟩:=h;have hu:=bz hr;have key:∃ t,QB (dH aW P w K mg base ["self"] "Kept.program" (aa aA) f cdv A outer s H E).pd (aG aA) t/\t {nx:=fun _ H'=>Q .ay H',rt:=Q} (start ["self"] [.ref k]) H:=by
   refine⟨_,(Z.aE (Z.ret (Z.fld K rfl (Z.v 0)))),?_⟩;walk_at "rz";exact⟨k,C,dx,_,_,rfl,hk,cM,aO,rfl,q⟩
  obtain⟨t,hb,ht⟩:=key;exact⟨t,hb.h,ht⟩
noncomputable def kc(K:Ih)(C:Addr):Sp:=fun vs H Q _=>∃(x dx:Addr) (vb:V),vs=[.ref x,vb]/\H x=some (.ins C dx [])/\∀ p H',H p=none->H' p=some (.tup [])->H' x=some (.ins C dx [("book",vb),("rows",.ref p)])->(∀ c o,H c=some o->c≠x->H' c=some o)->Q .ay H'
theorem sX{f:Addr}(T:Txt K mg)(cM:gy K C)(fD:bo K C "book")(aO:bo K C "rows")(F:jn K "__init__" "Kept.__init__" ax f fd):aX P w K mg base aW 1 f fd ["self","book"] (kc K C):=by
 refine F.ok fQ (fun vs H Q E h=>?_) (fun cdv A outer s H vs Q E hr h=>?_)
 ·obtain⟨x,dx,vb,rfl,_⟩:=h;rfl
 ·obtain⟨x,dx,vb,rfl,ox,q⟩:=h;have hu:=bz hr;have key:∃ t,QB (dH aW P w K mg base ["self","book"] "Kept.__init__" (aa ax) f cdv A outer s H E).pd (aG ax) t/\t {nx:=fun _ H'=>Q .ay H',rt:=Q} (start ["self","book"] [.ref x,vb]) H:=by
   refine⟨_,(Z.ao (Z.tW K rfl (Z.v 0) (Z.v 1))
   (Z.aE (Z.tW K rfl (Z.v 0) (Z.tup Z.nil)))),?_⟩
   refine bF fun N hN=>?_;walk_at "rz";refine⟨x,C,dx,_,rfl,ox,cM,fD,by decide,?_⟩
   rw[hN];clear hN N;walk_at "rz";refine⟨by decide,fun p hp=>?_⟩
   have np:p≠x:=by rintro rfl;rw[ae] at hp;cases hp
   have hp0:H p=none:=by rw[af np] at hp;exact hp
   refine⟨x,C,dx,dh "book" vb [],rfl,by rw[af np.symm];exact ae,cM,aO,(show 1<1000 by decide),?_⟩
   refine q p _ hp0 (by rw[af np];exact ae) ae (fun c o e n=>?_)
   have nc:c≠p:=fun z=>by rw[z,hp0] at e;cases e
   rw[af n,af nc,af n];exact e
  obtain⟨t,hb,ht⟩:=key;exact⟨t,hb.h,ht⟩
noncomputable def nZ(l:List Nat):List Int:=l.map fun k:Nat=>(k:Int)
theorem eG(l:List Nat):(nZ l).length=l.length:=EJ ..
structure Pt (l:List Nat):Prop where
 le:∀ x∈l,x+1<=l.length
 pos:1<=l.length
theorem Pt.next{l l3:List Nat}{a:Nat}(h:Pt l)(ha:a<l.length)(hp:l3.Perm ((l[a]+1)::(l[a]+1)::l.eraseIdx a)):Pt l3/\l3.length=l.length+1:=by
 have hle:=l.length_eraseIdx_of_lt ha;have hx:=h.le _ (FD ha);have h3:l3.length=l.length+1:=by
  rw[hp.length_eq,E_,E_,hle];lia
 refine⟨⟨fun y hy=>?_,by lia⟩,h3⟩
 rw[h3];rcases EG.mp (hp.mem_iff.mp hy) with rfl|z
 ·lia
 ·rcases EG.mp z with rfl|z
  ·lia
  ·have:=h.le y (List.mem_of_mem_eraseIdx z);lia
theorem BP(l:List Nat)(a:Nat):(nI (nZ l)).eraseIdx a=nI (nZ (l.eraseIdx a)):=by
 unfold nI nZ;simp only[FF,Ff,GG,GH]
theorem r8(l:List Nat)(n k:Nat):cZ (nI (nZ l)) n (L2.T.int (k:Int))=nI (nZ (cZ l n k)):=by
 unfold cZ nI nZ;simp only[Ff,GG,GH,Fy]
theorem v8(l:List α)(n:Nat)(x:α):(cZ l n x).length=l.length+1:=by
 unfold cZ;rw[EU,E_,Fg,Ga];lia
theorem kW(l:List α)(n:Nat)(x:α):(cZ l n x).Perm (x::l):=by
 unfold cZ;refine HC.trans ?_;rw[GY]
noncomputable def wX:fT:=fun args Q=>∃(d:L2.T) (m n:Nat),args=[d,.int (m:Int)]/\cq n d/\n<2^40/\2<=m/\m<=17/\∀(ls:List Int) (d':L2.T),cq (n+60) d'->Q (.tr (.tup (nI ls))) [d']
abbrev k6z(P w K mg base):=aj P w K mg base aW 3 "_law_lengths" ["deck","many"] (spT K [true,false] wX)
theorem rQ(T:Txt K mg)(F:HasFn K mg "_law_lengths" bP ["deck","many"])(h_law_draw:k0z P w K mg base):k6z P w K mg base:=by
 refine F.lA ba [true,false] rfl (by decide) ?_;left;obtain⟨sd,m,n,rfl,hsd,hn,hm2,hm,q⟩:=h;refine⟨_,(Y.ao (Y.set (i:=2) ba.nd rfl (by right) (Y.lst (Y.cons Y.int Y.nil)))
   (Y.ao (Y.kY Gw rfl (Y.rD rfl T.j8 (Y.cons (Y.op dO Y.dy (Y.vS 1) Y.int) Y.nil)) (Y.bW (i:=3) ba.nd rfl (by right)) (Y.ao (Y.set (i:=4) ba.nd rfl (by right) (Y.op (Y.ar K rfl) Y.aq (Y.bm K rfl PySem.F.slot_list_pop PySem.F.type_list_pop km Y.rS (Y.vS 2) (Y.cons (Y.fn K rfl h_law_draw (hr.mono (by decide)) rfl au (Y.cons (Y.vS 0) (Y.cons (Y.cb (Y.bI K rfl) Y.cP rfl T.cw (by decide +kernel) (Y.cons (Y.vS 2) Y.nil)) Y.nil))) Y.nil)) Y.int))
   (Y.ao (Y.expr (Y.bm K rfl PySem.F.slot_list_insert PySem.F.type_list_insert fO Y.je (Y.vS 2) (Y.cons (Y.fn K rfl h_law_draw (hr.mono (by decide)) rfl au (Y.cons (Y.vS 0) (Y.cons (Y.op (Y.ar K rfl) Y.aq (Y.cb (Y.bI K rfl) Y.cP rfl T.cw (by decide +kernel) (Y.cons (Y.vS 2) Y.nil)) Y.int) Y.nil))) (Y.cons (Y.vS 4) Y.nil))))
   (Y.aE (Y.expr (Y.bm K rfl PySem.F.slot_list_insert PySem.F.type_list_insert fO Y.je (Y.vS 2) (Y.cons (Y.fn K rfl h_law_draw (hr.mono (by decide)) rfl au (Y.cons (Y.vS 0) (Y.cons (Y.op (Y.ar K rfl) Y.aq (Y.cb (Y.bI K rfl) Y.cP rfl T.cw (by decide +kernel) (Y.cons (Y.vS 2) Y.nil)) Y.int) Y.nil))) (Y.cons (Y.vS 4) Y.nil))))))))
   (Y.ao (Y.fh (Y.aZ (Y.bj K rfl (EZ hu)) Y.bV (Y.fn K rfl h_law_draw (hr.mono (by decide)) rfl au (Y.cons (Y.vS 0) (Y.cons Y.int Y.nil))) Y.int) (Y.ao (Y.set (i:=5) ba.nd rfl (by right) (Y.fn K rfl h_law_draw (hr.mono (by decide)) rfl au (Y.cons (Y.vS 0) (Y.cons (Y.vS 1) Y.nil))))
   (Y.aE (Y.asg (Y.cb (jo rfl) Y.yG rfl T.wL (by decide +kernel) (Y.cons Y.int (Y.cons (Y.op (Y.ar K rfl) Y.aq (Y.op (Y.ar K rfl) Y.aq (Y.ix (Y.cX K rfl) Y.aT (Y.vS 2) (Y.vS 5)) Y.int) (Y.fn K rfl h_law_draw (hr.mono (by decide)) rfl au (Y.cons (Y.vS 0) (Y.cons Y.int Y.nil)))) Y.nil))) (Y.lL (Y.vS 2) (Y.vS 5))))) Y.bM)
   (Y.aE (Y.ret (Y.ct (Y.dZ K rfl) Y.fe rfl T.dX (by decide +kernel) (Y.cons (Y.vS 2) Y.nil))))))),?_⟩
 refine aV fun N hN=>?_;rfl';refine⟨by decide,?_⟩
 symm;rfl';refine⟨by lia,by lia,?_⟩
 refine mF (fun rest μ=>∃(l:List Nat) (d:L2.T) (o3 o4:Option L2.T),Pt l/\l.length+rest.length=m/\cq (n+3*l.length) d/\μ=[.pb d,.tr (.int (m:Int)),.bx (.lst (nI (nZ l))),sl o3,sl o4,.un]) ⟨[0],sd,none,none,⟨by simp,by decide⟩,by simp;lia,hsd.mono (by lia),rfl⟩ ?_ ?_
 ·rintro μ ⟨l,d,o3,o4,hl,hlm,hd,rfl⟩;rw[List.length_nil,Ig] at hlm;show N _;symm;rfl';refine⟨d,2,_,rfl,hd,by lia,by decide,by decide,fun v d1 v0 v1 hd1=>?_⟩
  by_cases c:v=0
  ·exists EI c;refine aV fun M hM=>?_;rfl';refine⟨d1,(m:Int),_,rfl,hd1,by lia,by lia,by lia,fun a d2 a0 a1 hd2=>?_⟩
   obtain⟨a,rfl⟩:∃ k:Nat,a=k:=⟨a.toNat,by lia⟩
   rfl';refine hM _ ?_;clear hM M;have ha:a<l.length:=by lia
   have ea:bN (nI (nZ l)) (a:Int)=some (.int ((l[a]:Nat):Int)):=An (cA (by unfold nZ;rw[Fh,EK ha];rfl))
   exists ea;refine⟨d2,5,_,rfl,hd2,by lia,by decide,by decide,fun v d3 v0 v1 hd3=>?_⟩
   obtain⟨nz,enz,hnz⟩:∃ nz:Nat,(if ((l[a]:Nat):Int)+1+v<20 then ((l[a]:Nat):Int)+1+v else 20)=(nz:Int)/\l[a]<=nz/\nz<=20:=by
    have:=hl.le _ (FD ha);by_cases c:((l[a]:Nat):Int)+1+v<20
    ·rw[EI c];exact⟨l[a]+1+v.toNat,by lia,by lia,by lia⟩
    ·rw[EB c];exact⟨20,rfl,by lia,by lia⟩
   exists enz;have ei:i3 (nI (nZ l)).length (a:Int)=some a:=by
    rw[dz,eG];unfold i3;rw[EI (by lia),EI (by lia),Fp]
   rw[ei];ac_rfl;rfl';rw[show (nI (nZ l)).set a (.int (nz:Int))=nI (nZ (l.set a nz)) by unfold nI nZ;rw[HB,HB]]
   exact q _ d3 (hd3.mono (by lia))
  ·exists EB c;ac_rfl;rfl';exact q _ d1 (hd1.mono (by lia))
 ·rintro t r μ M ⟨l,d,o3,o4,hl,hlm,hd,rfl⟩ k;rw[E_] at hlm;have hp:=hl.pos;rfl';refine aV fun M2 h2=>?_;exists dz,eG;refine⟨d,(l.length:Int),_,rfl,hd,by lia,by lia,by lia,fun v d1 v0 v1 hd1=>?_⟩
  obtain⟨a,rfl⟩:∃ a:Nat,v=a:=⟨v.toNat,by lia⟩
  have ha:a<l.length:=by lia
  have hle:=l.length_eraseIdx_of_lt ha;rfl';have six:seqIndex? (a:Int) (nI (nZ l)).length=some a:=by
   rw[dz,eG];unfold seqIndex?
   simp;lia
  have enZ:(nI (nZ l))[a]?=some (.int ((l[a]:Nat):Int)):=by unfold nI nZ;rw[Fh,Fh,EK ha];rfl
  refine⟨by lia,by lia,a,_,six,enZ,?_⟩
  rw[BP];rfl';rw[show ((l[a]:Nat):Int)+1=((l[a]+1:Nat):Int) from rfl];refine h2 _ ?_;clear h2 M2;refine aV fun M2 h2=>?_;exists dz,eG;rw[hle];refine⟨d1,_,_,rfl,hd1,by lia,by lia,by lia,fun v d2 v0 v1 hd2=>?_⟩
  rfl';rw[dz,eG,r8,hle];refine⟨v0,by lia,Ge (show _<=20 by lia) (by decide),h2 _ ?_⟩;clear h2 M2
  generalize hl2:cZ (l.eraseIdx a) (min v.toNat (l.length-1)) (l[a]+1)=l2;have le2:l2.length=l.length:=by rw[<- hl2,v8,hle];lia
  have pe2:l2.Perm ((l[a]+1)::l.eraseIdx a):=by rw[<- hl2];exact kW ..
  clear hl2;exists dz,eG;refine⟨d2,_,_,rfl,hd2,by lia,by lia,by lia,fun v d3 v0 v1 hd3=>?_⟩
  rfl';rw[dz,eG,r8];obtain⟨hP3,hL3⟩:=hl.next ha ((kW l2 (min v.toNat l2.length) (l[a]+1)).trans (List.Perm.cons _ pe2));exact⟨v0,by lia,Ge (show _<=20 by lia) (by decide),k _ ⟨_,d3,some _,some _,hP3,by lia,hd3.mono (by lia),rfl⟩⟩
noncomputable def sj:fT:=fun args Q=>∃(d:L2.T) (n:Nat),args=[d]/\cq n d/\n<2^38/\∀(ts:List L2.T) (d':L2.T),cq (n+200) d'->Q (.tr (.tup ts)) [d']
theorem tS(T:Txt K mg)(F:HasFn K mg "_law_book" cm ["deck"])(h_law_draw:k0z P w K mg base)(h_law_lengths:k6z P w K mg base):aj P w K mg base aW 4 "_law_book" ["deck"] (spT K [true] sj):=by
 refine F.lA j9 [true] rfl (by decide) ?_;left;obtain⟨sd,n,rfl,hs,hn,q⟩:=h;refine⟨_,(Y.ao (Y.fh (Y.aZ (Y.bj K rfl (EZ hu)) Y.bV (Y.fn K rfl h_law_draw (hr.mono (by decide)) rfl au (Y.cons (Y.vS 0) (Y.cons Y.int Y.nil))) Y.int) (Y.aE (Y.ret (Y.tup (Y.cons (Y.op (Y.jB K rfl) Y.jR (Y.tup (Y.cons Y.int Y.nil)) Y.int) (Y.cons (Y.op (Y.jB K rfl) Y.jR (Y.tup (Y.cons Y.int Y.nil)) Y.int) (Y.cons (Y.op (Y.jB K rfl) Y.jR (Y.tup (Y.cons Y.int Y.nil)) Y.int) Y.nil)))))) Y.bM)
   (Y.aE (Y.ret (Y.ct (Y.dZ K rfl) Y.fe rfl T.dX (by decide +kernel) (Y.cons (Y.mO (osc:=aa cm) (ON:=["deck"]) (own:=["many"]) (N:=["many","deck"]) ⟨rfl,by decide +kernel,rfl,by decide +kernel,by decide +kernel,by decide +kernel,by decide +kernel,by decide +kernel⟩ rfl rfl rfl rfl (Y.anyS K rfl (Y.tup (Y.dw rfl rfl))) (fun _ _ _ _=>(Z.bW (i:=0) (show List.Nodup (["many","deck"]:List Str) by decide +kernel) rfl (by right))) (fun _ _ _ _=>Y.wg) (fun _ _ _ _=>(Y.fn K rfl h_law_lengths (hr.mono (by decide)) rfl au (Y.cons (Y.vS 1) (Y.cons (Y.vS 0) Y.nil))))) Y.nil))))),?_⟩
 refine aV fun N hN=>?_;rfl';refine⟨sd,4,_,rfl,hs,by lia,by decide,by decide,fun v s2 v0 v1 hs2=>?_⟩
 by_cases c:v=0
 ·exists EI c;refine⟨by decide,⟨by simp,by decide,by decide⟩,by decide,⟨by simp,by decide,by decide⟩,by decide,⟨by simp,by decide,by decide⟩,by decide,q _ s2 (hs2.mono (by lia))⟩
 ·exists EB c;ac_rfl;rfl';refine⟨by decide,?_⟩
  refine gw (fun rest acc μ=>∃(todo:List Nat) (d:L2.T),acc.length+todo.length=3/\(∀ x∈todo,2<=x/\x<=17)/\(rest=todo.map fun k:Nat=>L2.T.int (k:Int))/\cq (n+1+60*acc.length) d/\μ=[.pb d]) ⟨[9,17,8],s2,rfl,by decide,rfl,hs2,rfl⟩ ?_ ?_
  ·rintro acc μ ⟨todo,d,e1,_,e2,hs3,rfl⟩;refine⟨trivial,?_⟩;rfl';exact q _ d (hs3.mono (by lia))
  ·rintro t r acc μ M ⟨todo,d,e1,ht,e2,hs3,rfl⟩ k
   cases todo with
   |nil=>cases e2
   |cons x todo =>
    obtain⟨rfl,rfl⟩:=List.cons.inj e2;rw[E_] at e1;have hx:=ht x EN;refine⟨trivial,EO (show acc.length<4 by lia) (by decide),?_⟩
    rfl';refine⟨d,x,_,rfl,hs3,by lia,hx.1,hx.2,fun ls d' hd'=>?_⟩
    rfl';exact k _ _ ⟨todo,d',by rw[EU,Fe];lia,fun y hy=>ht y (ED _ hy),rfl,by rw[EU,Fe];exact hd'.mono (by lia),rfl⟩
structure It where
 i:Int
 ps:List L2.T
 g:Int
noncomputable def It.t(x:It):L2.T:=.lst [.int x.i,.tup x.ps,.int x.g]
noncomputable def pI(ah:List It):List Int:=ah.map It.i++[-1]
noncomputable def due(th:List Int)(x:It):L2.T:=.tup (if x.g=0 then x.ps else x.ps++[.int (th.idxOf x.g:Nat)])
noncomputable def xY:fT:=fun args Q=>∃ ah:List It,args=[.lst (ah.map It.t)]/\ah.length<=100/\(∀ x∈ah,x.ps.length<=5/\(x.g≠0->x.g∈pI ah))/\Q (.tr (.tup (ah.map (due (pI ah))))) []
theorem yJ{g:Int}{l:List Int}(h:g∈l):l[l.idxOf g]?=some g/\∀ m,m<l.idxOf g->l[m]?≠some g:=by
 induction l with
 |nil=>cases h
 |cons a l ih =>
  by_cases c:a=g
  ·subst c;rw[List.idxOf_cons_self];exact⟨rfl,fun m hm=>absurd hm (Nat.not_lt_zero _)⟩
  ·rw[List.idxOf_cons,show (a == g)=false from Fb.mpr c,cond_false];have:=ih ((EG.mp h).resolve_left fun e=>c e.symm);refine⟨this.1,fun m hm=>?_⟩
   cases m with
   |zero=>exact fun e=>c (Option.some.inj e)
   |succ m=>exact this.2 m (Nat.lt_of_succ_lt_succ hm)
theorem yP(T:Txt K mg)(F:HasFn K mg "_law_due" cH ["model"]):aj P w K mg base aW 1 "_law_due" ["model"] (spT K [false] xY):=by
 refine F.lA bw [false] rfl (by decide) ?_;left;obtain⟨ah,rfl,hn,hx,q⟩:=h;refine⟨_,(Y.ao (Y.Ea (i:=1) bw.nd rfl (by right) (Y.op (Y.ar K rfl) Y.aq (Y.mO (osc:=aa cH) (ON:=["model","there","found","own","row","goal"]) (own:=["one"]) (N:=["one","model","there","found","own","row","goal"]) ⟨rfl,by decide +kernel,rfl,by decide +kernel,by decide +kernel,by decide +kernel,by decide +kernel,by decide +kernel⟩ rfl rfl rfl rfl (Y.anyS K rfl (Y.vS 0)) (fun _ _ _ _=>(Z.bW (i:=0) (show List.Nodup (["one","model","there","found","own","row","goal"]:List Str) by decide +kernel) rfl (by right))) (fun _ _ _ _=>Y.wg) (fun _ _ _ _=>(Y.ix (Y.cX K rfl) Y.aT (Y.vS 0) Y.int))) (Y.lst (Y.cons (Y.neg Y.int) Y.nil))))
   (Y.ao (Y.set (i:=2) bw.nd rfl (by right) (Y.lst Y.nil))
   (Y.ao (Y.kY Gw rfl (Y.anyS K rfl (Y.vS 0)) (Y.Bo (n:=3) K rfl rfl (Y.eM (Y.bW (i:=3) bw.nd rfl (by right)) (Y.eM (Y.bW (i:=4) bw.nd rfl (by right)) (Y.eM (Y.bW (i:=5) bw.nd rfl (by right)) Y.mW)))) (Y.ao (Y.fh (Y.aZ (Y.sD K rfl (EZ hu)) Y.qQ (Y.vS 5) Y.int) (Y.aE (Y.set (i:=4) bw.nd rfl (by right) (Y.op (Y.ar K rfl) Y.aq (Y.vS 4) (Y.tup (Y.cons (Y.CS K rfl (Y.vS 1) (Y.vS 5)) Y.nil))))) Y.bM)
   (Y.aE (Y.expr (Y.bm K rfl PySem.F.slot_list_append PySem.F.type_list_append fI Y.p9 (Y.vS 2) (Y.cons (Y.vS 4) Y.nil))))))
   (Y.aE (Y.ret (Y.ct (Y.dZ K rfl) Y.fe rfl T.dX (by decide +kernel) (Y.cons (Y.vS 2) Y.nil))))))),?_⟩
 refine aV fun N hN=>?_;rfl';refine mX It.t (fun x=>.int x.i) ah (by lia) (fun x hx' acc M k=>?_) ?_
 ·unfold It.t;rfl';exact k
 refine⟨by decide,?_⟩
 rfl';refine⟨ES (show _<=1000 by lia) (by decide),?_⟩
 rw[show ah.map (fun x=>L2.T.int x.i)++[.int (-1)]=nI (pI ah) by unfold nI pI;rw[Ff,List.map_map];rfl]
 symm;rfl';symm;rfl';refine mF (fun rest μ=>∃(done todo:List It) (o3 o4 o5:Option L2.T),done++todo=ah/\rest=todo.map It.t/\μ=[.tr (.lst (ah.map It.t)),.tr (.lst (nI (pI ah))),.bx (.lst (done.map (due (pI ah)))),sl o3,sl o4,sl o5]) ⟨[],ah,none,none,none,rfl,rfl,rfl⟩ ?_ ?_
 ·rintro μ ⟨done,todo,o3,o4,o5,e1,e2,rfl⟩;obtain rfl:=List.map_eq_nil_iff.mp e2.symm;rw[FV] at e1;subst e1;show N _;ac_rfl;rfl';exact q
 ·rintro t r μ M ⟨done,todo,o3,o4,o5,e1,e2,rfl⟩ k
  cases todo with
  |nil=>cases e2
  |cons x todo =>
  obtain⟨rfl,rfl⟩:=List.cons.inj e2;have hxx:=hx x (by rw[<- e1];simp)
  have ex:It.t x=.lst [.int x.i,.tup x.ps,.int x.g]:=rfl;exists ex;refine aV fun M2 h2=>?_;have go:∀ y,y=due (pI ah) x->M2 [.tr (.lst (ah.map It.t)),.tr (.lst (nI (pI ah))),.bx (.lst (done.map (due (pI ah)))),.tr (.int x.i),.tr y,.tr (.int x.g)]:=by
   rintro _ rfl;refine h2 _ ?_;clear h2 M2;rfl';refine⟨Ge (show _<=1000 by have:=Fc List.length e1;rw[EU] at this;lia) (by decide),k _ ⟨done++[x],todo,some _,some _,some _,by rw[FY];exact e1,rfl,by rw[Ff];rfl⟩⟩
  by_cases c:x.g=0
  ·exists Fq c;exact go _ (by unfold due;rw[EI c])
  ·have ha:=yJ (hxx.2 c);exists EX c;exact⟨pI ah,_,rfl,ha.1,ha.2,by decide,ES (show _<=1000 by have:=hxx.1;lia) (by decide),go _ (by unfold due;rw[EB c])⟩
noncomputable def iA:ai->List L2.T
 |.jump _=>[.str "jump"]
 |.zero b _=>[.str "zero",.str (dP b)]
 |r=>r.ps.map bE.t
noncomputable def cB(th:List Int)(r:ai):Int:=match bq r with
 |none=>0
 |some g=>th.getD g.toNat 0
noncomputable def eH(th:List Int)(i:Int)(r:ai):It:=⟨i,iA r,cB th r⟩
noncomputable def tI(n:Nat)(r:ai):Prop:=∀ g,bq r=some g->0<=g/\g<n
theorem ur{r:ai}(h:bq r=none):r.t=.tup (iA r):=by cases r<;>first|rfl|cases h
theorem vh{r:ai}{g:Int}(h:bq r=some g):r.t=.tup (iA r++[.int g]):=by cases r<;>first|cases h;rfl|cases h
theorem jI{r:ai}{g g':Int}(h:bq r=some g):bq (r.to g')=some g'/\iA (r.to g')=iA r:=by cases r<;>first|exact⟨rfl,rfl⟩|cases h
theorem ya(r:ai):(iA r).length<=3:=by cases r<;>simp[iA,ai.ps]
theorem getD_mem(h:n<th.length):th.getD n 0=th[n]:=by rw[List.getD_eq_getElem?_getD,EK h];rfl
theorem zF{r:ai}(i:Int)(nd:th.Nodup)(h0:(0:Int)∉th)(hg:tI th.length r):due th (eH th i r)=r.t:=by
 unfold due eH;dsimp only
 cases e:bq r with
 |none=>rw[ur e,EI (by unfold cB;rw[e])]
 |some g =>
  obtain⟨n,rfl⟩:∃ n:Nat,g=n:=⟨g.toNat,by have:=hg g e;lia⟩
  have hn:n<th.length:=by have:=hg _ e;lia
  have eg:cB th r=th[n]:=by unfold cB;rw[e];exact getD_mem hn
  rw[vh e,eg,EB (fun z=>h0 (by rw[<- z];exact FD hn)),nd.idxOf_getElem]
theorem u0{r:ai}(hg:tI th.length r)(c:cB th r≠0):cB th r∈th:=by
 unfold cB at c ⊢
 cases e:bq r with
 |none=>rw[e] at c;exact absurd rfl c
 |some g =>
  have hn:g.toNat<th.length:=by have:=hg g e;lia
  dsimp only;rw[getD_mem hn];exact List.getElem_mem hn
theorem xQ{r:ai}(c i:Int)(hp:p<=th.length)(hg:tI th.length r):eH (th.take p++[c]++th.drop p) i (mv (p:Nat) 1 r)=eH th i r:=by
 unfold eH mv
 cases e:bq r with
 |none=>unfold cB;dsimp only;rw[e]
 |some g =>
  obtain⟨n,rfl⟩:∃ n:Nat,g=n:=⟨g.toNat,by have:=hg g e;lia⟩
  have hn:n<th.length:=by have:=hg _ e;lia
  dsimp only;by_cases k:(n:Int)<(p:Nat)
  ·rw[if_pos k];unfold cB;rw[e];dsimp only;rw[List.getD_eq_getElem?_getD,List.getD_eq_getElem?_getD,Int.toNat_natCast,List.append_assoc,List.getElem?_append_left (by rw[List.length_take];lia),List.getElem?_take_of_lt (by lia)]
  ·rw[if_neg k];have tg:=jI (g':=(n:Int)+1) e;rw[tg.2];unfold cB;rw[e,tg.1];dsimp only;rw[List.getD_eq_getElem?_getD,List.getD_eq_getElem?_getD,Int.toNat_natCast,show ((n:Int)+1).toNat=n+1 by lia,List.getElem?_append_right (by rw[List.length_append,List.length_take,List.length_singleton];lia),List.length_append,List.length_take,List.length_singleton,List.getElem?_drop,show p+(n+1-(min p th.length+1))=n by lia]
noncomputable def yV(c d:Int)(x:It):It:=if x.g=c then {x with g:=d} else x
theorem vD{r:ai}(i c d:Int)(nd:th.Nodup)(h0:(0:Int)∉th)(hc:th[p]?=some c)(hd:th[p+1]?=some d)(hg:tI th.length r):eH (th.take p++th.drop (p+1)) i (mv ((p:Int)+1) (-1) r)=yV c d (eH th i r):=by
 have hp:p+1<th.length:=(EM.mp hd).1;have ec:th[p]=c:=(EM.mp hc).2;unfold eH mv yV
 cases e:bq r with
 |none =>
  dsimp only;have z:∀ th,cB th r=0:=fun th=>by unfold cB;rw[e]
  rw[z,z,EB (fun z=>h0 (by rw[z,<- ec];exact FD _))]
 |some g =>
  obtain⟨n,rfl⟩:∃ n:Nat,g=n:=⟨g.toNat,by have:=hg g e;lia⟩
  have hn:n<th.length:=by have:=hg _ e;lia
  have eg:cB th r=th[n]:=by unfold cB;rw[e];exact getD_mem hn
  dsimp only;rw[eg];have un:n≠p->th[n]≠c:=fun h z=>h (by rw[<- nd.idxOf_getElem n hn,z,<- ec,nd.idxOf_getElem])
  have lt:(th.take p).length=p:=by rw[Fg];lia
  by_cases k:(n:Int)<(p:Int)+1
  ·rw[EI k];have eg':cB (th.take p++th.drop (p+1)) r=if n=p then d else th[n]:=by
    unfold cB;rw[e];dsimp only;rw[List.getD_eq_getElem?_getD,Int.toNat_natCast];by_cases k2:n=p
    ·rw[EI k2,k2,Fj (by lia),lt,GP,FA,Ig,hd];rfl
    ·rw[EB k2,Fw (by lia),Gm (by lia),EK hn];rfl
   rw[eg'];by_cases k2:n=p
   ·subst k2;rw[EI rfl,EI ec]
   ·rw[EB k2,EB (un k2)]
  ·rw[EB k,EB (un (by lia))]
   have tg:=jI (g':=(n:Int)+-1) e;rw[tg.2];have:cB (th.take p++th.drop (p+1)) (r.to ((n:Int)+-1))=th[n]:=by
    unfold cB;rw[tg.1];dsimp only;rw[List.getD_eq_getElem?_getD,show ((n:Int)+-1).toNat=n-1 by lia,List.getElem?_append_right (by lia),lt,List.getElem?_drop,show p+1+(n-1-p)=n by lia,List.getElem?_eq_getElem hn];rfl
   rw[this]
noncomputable def f9(ids:List Int)(rows:List ai):List It:=List.zipWith (eH (ids++[-1])) ids rows
structure Md (ids:List Int) (rows:List ai):Prop where
 len:ids.length=rows.length
 nd:(ids++[-1]).Nodup
 CH:(0:Int)∉ids++[-1]
 zP:∀ r∈rows,tI (ids++[-1]).length r
theorem uY{rows:List ai}(h:Md ids rows):(f9 ids rows).length=rows.length:=by
 unfold f9;rw[List.length_zipWith,h.len,Ie]
theorem DN(th:List Int):∀{ids:List Int} {rows:List ai},ids.length=rows.length->(List.zipWith (eH th) ids rows).map It.i=ids:=by
 intro ids
 induction ids with
 |nil=>intro rows h;rfl
 |cons a ids ih =>
  intro rows h
  cases rows with
  |nil=>cases h
  |cons r rows=>exact Fc (a::·) (ih (Nat.succ.inj h))
theorem nV{rows:List ai}(h:Md ids rows):pI (f9 ids rows)=ids++[-1]:=by unfold pI f9;rw[DN _ h.len]
theorem zz{f:It->L2.T}{g:ai->L2.T}:∀{ids:List Int} {rows:List ai},ids.length=rows.length->(∀ r∈rows,∀ i,f (eH th i r)=g r)->(List.zipWith (eH th) ids rows).map f=rows.map g:=by
 intro ids
 induction ids with
 |nil=>intro rows h _;cases rows with
  |nil=>rfl
  |cons=>cases h
 |cons a ids ih =>
  intro rows h hf
  cases rows with
  |nil=>cases h
  |cons r rows =>
   rw[List.zipWith_cons_cons,Fy,Fy,hf r EN,ih (Nat.succ.inj h) fun r hr=>hf r (ED _ hr)]
theorem ve{rows:List ai}(h:Md ids rows):(f9 ids rows).map (due (pI (f9 ids rows)))=rows.map ai.t:=by
 rw[nV h];exact zz h.len fun r hr i=>zF i h.nd h.CH (h.zP r hr)
theorem sH{r:ai}{a b:Int}(h:tI n r)(h1:∀ g:Int,0<=g->g<n->g<a->g<m)(h2:∀ g:Int,0<=g->g<n->¬ g<a->0<=g+b/\g+b<m):tI m (mv a b r):=by
 unfold mv
 cases e:bq r with
 |none=>intro g hg;dsimp only at hg;rw[e] at hg;cases hg
 |some g0 =>
  have k:=h g0 e;dsimp only;by_cases c:g0<a
  ·rw[EI c];intro g hg;rw[e] at hg;cases hg;exact⟨k.1,h1 _ k.1 k.2 c⟩
  ·rw[EB c];intro g hg;rw[(jI e).1] at hg;cases hg;exact h2 _ k.1 k.2 c
theorem Md.put{rows:List ai}{r:ai}(h:Md ids rows)(hp:p<=rows.length)(hc:c∉ids)(c0:0<c)(hr:tI (rows.length+2) r):Md (ids.take p++[c]++ids.drop p) (ig rows p r):=by
 have hl:=h.len;have ll:(ids.take p++[c]++ids.drop p).length=rows.length+1:=by simp;lia
 have lr:(ig rows p r).length=rows.length+1:=by unfold ig;simp;lia
 have pm:(ids.take p++[c]++ids.drop p++[-1]).Perm (c::(ids++[-1])):=by
  have:(ids.take p++[c]++ids.drop p).Perm (c::ids):=by
   rw[FY];refine HC.trans ?_;exact List.Perm.of_eq (Fc (c::·) (GY p ids))
  exact this.append_right [-1]
 have nc:c∉ids++[-1]:=fun z=>by
  rcases Fn.mp z with z|z
  ·exact hc z
  ·have:=ET.mp z;lia
 refine⟨ll.trans lr.symm,pm.nodup_iff.mpr (EY.mpr ⟨nc,h.nd⟩),fun z=>?_,fun x hx=>?_⟩
 ·rcases EG.mp (pm.mem_iff.mp z) with z|z
  ·lia
  ·exact h.CH z
 ·rw[EU,ll,Fe];have mvd:∀ y∈rows.map (mv (p:Nat) 1),tI (rows.length+1+1) y:=fun y hy=>by
   obtain⟨z,hz,rfl⟩:=FK.mp hy;have:=h.zP z hz;rw[EU,hl,Fe] at this;exact sH this (fun g a b c=>by lia) (fun g a b c=>by lia)
  unfold ig at hx;rcases Fn.mp hx with hx|hx
  ·rcases Fn.mp hx with hx|hx
   ·exact mvd x (FN hx)
   ·rw[ET.mp hx];exact hr
  ·exact mvd x (FO hx)
theorem Md.take{rows:List ai}(h:Md ids rows)(hp:p<rows.length):Md (ids.take p++ids.drop (p+1)) (dN rows p):=by
 have hl:=h.len;have ll:(ids.take p++ids.drop (p+1)).length=rows.length-1:=by simp;lia
 have lr:(dN rows p).length=rows.length-1:=by unfold dN;simp;lia
 have sl:(ids.take p++ids.drop (p+1)++[-1]).Sublist (ids++[-1]):=by
  rw[<- FF];exact (GZ ..).append (List.Sublist.refl _)
 refine⟨ll.trans lr.symm,h.nd.sublist sl,fun z=>h.CH (sl.subset z),fun x hx=>?_⟩;rw[EU,ll,Fe];unfold dN at hx;obtain⟨z,hz,rfl⟩:=FK.mp hx;have hz':z∈rows:=by
  rcases Fn.mp hz with z|z
  ·exact FN z
  ·exact FO z
 have:=h.zP z hz';rw[EU,hl,Fe] at this;exact sH this (fun g a b c=>by lia) (fun g a b c=>by lia)
structure KM (P:Program) (w:World) (K:Ih) (mg:Str->Option Value) (base:Heap) (C CR:Addr):Prop where
 cM:gy K C
 fD:bo K C "book"
 aO:bo K C "rows"
 put:∃ f fd,Meth K C "put_in" f/\aX P w K mg base (pS P w) 4 f fd ["self","place","row"] (nq K C CR)/\Binds K fd ["self","place","row"] []
 take:∃ f fd,Meth K C "take_out" f/\aX P w K mg base (pS P w) 4 f fd ["self","place"] (j0 K C CR)/\Binds K fd ["self","place"] []
 prog:∃ f fd,Meth K C "program" f/\aX P w K mg base aW 1 f fd ["self"] (rL K C)/\Binds K fd ["self"] []
noncomputable def C9(S:Sp):Sp:=fun vs H Q _=>S vs H Q fun _ _ _=>False
noncomputable def yj:ai->List bE
 |.jump _=>[.s "jump"]
 |.zero b _=>[.s "zero",.s (dP b)]
 |r=>r.ps
theorem kZ(r:ai):iA r=(yj r).map bE.t:=by cases r<;>rfl
theorem dJ{v:V}{ps:List bE}(hk:∀ a vs,H a=some (.tup vs)->H' a=some (.tup vs)/\¬ B' a)(h:Rep K H B v (.tup (ps.map bE.t))):Rep K H' B' v (.tup (ps.map bE.t)):=by
 obtain⟨a,vs,rfl,n,ha,rr⟩:=Rep.tupI h;refine .tup (hk a vs ha).2 (hk a vs ha).1 ?_;clear h ha n
 induction ps generalizing vs with
 |nil=>rw[rr.cI];exact .nil
 |cons x ps ih =>
  obtain⟨v,ws,rfl,h,rr⟩:=rr.aC;refine .cons ?_ (ih ws rr)
  cases x with
  |s z=>rw[Rep.e9 h];exact .str z
  |n k=>rw[Rep.bf h];exact .int k
noncomputable def t9(K:Ih)(H:Hp)(a:Addr)(i:Int)(r:ai)(g:Int):Prop:=∃ v,H a=some (.lst [.int i,v,.int g])/\Rep K H (fun _=>False) v (.tup (iA r))
theorem t9.keep{g:Int}{r:ai}(h:t9 K H a i r g)(ha:H' a=H a)(hk:∀ a vs,H a=some (.tup vs)->H' a=some (.tup vs)):t9 K H' a i r g:=by
 obtain⟨v,h1,h2⟩:=h;refine⟨v,ha.trans h1,?_⟩;rw[kZ] at h2 ⊢;exact dJ (fun a vs e=>⟨hk a vs e,id⟩) h2
noncomputable def bp(K:Ih)(H:Hp)(f:ai->Int):List Addr->List Int->List ai->Prop
 |a::pl,i::ids,r::rows=>t9 K H a i r (f r)/\bp K H f pl ids rows
 |[],[],[]=>True
 |_,_,_=>False
abbrev xp(K:Ih)(H:Hp)(th:List Int):List Addr->List Int->List ai->Prop:=bp K H (cB th)
structure nE (K:Ih) (H:Hp) (mo:Addr) (pl:List Addr) (ids:List Int) (rows:List ai):Prop where
 at':H mo=some (.lst (pl.map V.ref))
 nd:(mo::pl).Nodup
 ah:xp K H (ids++[-1]) pl ids rows
theorem xp.C_(hB:∀ a vs,H a=some (.tup vs)->¬ B a):∀{pl:List Addr} {ids:List Int} {rows:List ai},xp K H th pl ids rows->(∀ a∈pl,¬ B a)->ak K H B (pl.map V.ref) ((List.zipWith (eH th) ids rows).map It.t):=by
 intro pl
 induction pl with
 |nil =>
  intro ids rows h _
  cases ids<;>cases rows<;>first|exact .nil|exact h.elim
 |cons a pl ih =>
  intro ids rows h hb
  cases ids with
  |nil=>exact h.elim
  |cons i ids =>
  cases rows with
  |nil=>exact h.elim
  |cons r rows =>
  obtain⟨⟨v,h1,h2⟩,h3⟩:=h;refine .cons (.lst (hb a EN) h1 (.cons (.int _) (.cons ?_ (.cons (.int _) .nil)))) (ih h3 fun a ha=>hb a (ED _ ha));show Rep K H B v (.tup (iA r));rw[kZ] at h2 ⊢;exact dJ (fun a vs e=>⟨e,hB a vs e⟩) h2
theorem nE.rep{rows:List ai}(h:nE K H mo pl ids rows)(hB:∀ a vs,H a=some (.tup vs)->¬ B a)(hb:∀ a∈mo::pl,¬ B a):Rep K H B (.ref mo) (.lst ((f9 ids rows).map It.t)):=
 .lst (hb mo EN) h.at' (h.ah.C_ hB fun a ha=>hb a (ED _ ha))
theorem bp.len{f:ai->Int}:∀{pl:List Addr} {ids:List Int} {rows:List ai},bp K H f pl ids rows->pl.length=ids.length/\ids.length=rows.length:=by
 intro pl
 induction pl with
 |nil=>intro ids rows h;cases ids<;>cases rows<;>first|exact⟨rfl,rfl⟩|exact h.elim
 |cons a pl ih =>
  intro ids rows h
  cases ids with
  |nil=>exact h.elim
  |cons i ids =>
  cases rows with
  |nil=>exact h.elim
  |cons r rows=>exact⟨Fc (·+1) (ih h.2).1,Fc (·+1) (ih h.2).2⟩
theorem bp.to{f f':ai->Int}{u:ai->ai}(hk:∀ a vs,H a=some (.tup vs)->H' a=some (.tup vs)):∀{pl:List Addr} {ids:List Int} {rows:List ai},bp K H f pl ids rows->(∀ a∈pl,H' a=H a)->(∀ r∈rows,f' (u r)=f r/\iA (u r)=iA r)->bp K H' f' pl ids (rows.map u):=by
 intro pl
 induction pl with
 |nil=>intro ids rows h _ _;cases ids<;>cases rows<;>first|trivial|exact h.elim
 |cons a pl ih =>
  intro ids rows h hp hr
  cases ids with
  |nil=>exact h.elim
  |cons i ids =>
  cases rows with
  |nil=>exact h.elim
  |cons r rows =>
  refine⟨?_,ih h.2 (fun a ha=>hp a (ED _ ha)) fun r h=>hr r (ED _ h)⟩;have e:=hr r EN;rw[e.1];obtain⟨v,h1,h2⟩:=h.1.keep (hp a EN) hk;exact⟨v,h1,by rw[e.2];exact h2⟩
theorem bp.app{f:ai->Int}{pl2:List Addr}{ids2:List Int}{rows2:List ai}(g:bp K H f pl2 ids2 rows2):∀{pl:List Addr} {ids:List Int} {rows:List ai},bp K H f pl ids rows->bp K H f (pl++pl2) (ids++ids2) (rows++rows2):=by
 intro pl
 induction pl with
 |nil=>intro ids rows h;cases ids<;>cases rows<;>first|exact g|exact h.elim
 |cons a pl ih =>
  intro ids rows h
  cases ids with
  |nil=>exact h.elim
  |cons i ids =>
  cases rows with
  |nil=>exact h.elim
  |cons r rows=>exact⟨h.1,ih h.2⟩
theorem bp.cut{f:ai->Int}(n:Nat):∀{pl:List Addr} {ids:List Int} {rows:List ai},bp K H f pl ids rows->bp K H f (pl.take n) (ids.take n) (rows.take n)/\bp K H f (pl.drop n) (ids.drop n) (rows.drop n):=by
 induction n with
 |zero=>intro pl ids rows h;exact⟨by simp only[List.take_zero];trivial,by simp only[GA];exact h⟩
 |succ n ih =>
  intro pl ids rows h
  cases pl with
  |nil=>cases ids<;>cases rows<;>first|exact⟨trivial,trivial⟩|exact h.elim
  |cons a pl =>
  cases ids with
  |nil=>exact h.elim
  |cons i ids =>
  cases rows with
  |nil=>exact h.elim
  |cons r rows=>exact⟨⟨h.1,(ih h.2).1⟩,(ih h.2).2⟩
theorem nE.put{n:Addr}{pl:List Addr}{rows:List ai}{p:Nat}{r:ai}(h:nE K H mo pl ids rows)(m:Md ids rows)(hp:p<=rows.length)(hm:H' mo=some (.lst ((pl.take p++[n]++pl.drop p).map V.ref)))(hn:n∉mo::pl)
  (hpl:∀ a∈pl,H' a=H a) (hk:∀ a vs,H a=some (.tup vs)->H' a=some (.tup vs)) (hi:t9 K H' n c r (cB (ids.take p++[c]++ids.drop p++[-1]) r)):nE K H' mo (pl.take p++[n]++pl.drop p) (ids.take p++[c]++ids.drop p) (ig rows p r):=by
 have hl:=m.len;have et:(ids++[-1]).take p++[c]++(ids++[-1]).drop p=ids.take p++[c]++ids.drop p++[-1]:=by
  rw[Hg (by lia),Hh (by lia)];simp
 have k:=bp.to (f':=cB (ids.take p++[c]++ids.drop p++[-1])) (u:=mv (p:Nat) 1) hk h.ah hpl fun r hr=>by
  have e:=xQ (p:=p) c 0 (by rw[EU];lia) (m.zP r hr)
  rw[et] at e;exact⟨Fc It.g e,Fc It.ps e⟩
 have pm:(mo::(pl.take p++[n]++pl.drop p)).Perm (n::mo::pl):=by
  refine List.Perm.trans (List.Perm.cons _ ?_) (List.Perm.swap ..);rw[FY];exact HC.trans (List.Perm.of_eq (Fc (n::·) (GY p pl)))
 exact⟨hm,pm.nodup_iff.mpr (EY.mpr ⟨hn,h.nd⟩),(k.cut p).2.app (bp.app (pl:=pl.take p) (pl2:=[n]) (ids2:=[c]) (rows2:=[r]) ⟨hi,trivial⟩ (k.cut p).1)⟩
theorem nE.take{rows:List ai}{d:Int}(h:nE K H mo pl ids rows)(m:Md ids rows)(hp:p<rows.length)(hc:ids[p]?=some c)(hd:(ids++[-1])[p+1]?=some d)(hm:H' mo=some (.lst ((pl.take p++pl.drop (p+1)).map V.ref)))
  (g:bp K H' (fun r=>if cB (ids++[-1]) r=c then d else cB (ids++[-1]) r) (pl.take p++pl.drop (p+1)) (ids.take p++ids.drop (p+1)) (rows.take p++rows.drop (p+1))):nE K H' mo (pl.take p++pl.drop (p+1)) (ids.take p++ids.drop (p+1)) (dN rows p):=by
 have hl:=m.len;have et:(ids++[-1]).take p++(ids++[-1]).drop (p+1)=ids.take p++ids.drop (p+1)++[-1]:=by
  rw[Hg (by lia),Hh (by lia)];simp
 have sl:(pl.take p++pl.drop (p+1)).Sublist pl:=by
  rw[<- FF];exact GZ ..
 refine⟨hm,h.nd.sublist (sl.cons_cons mo),bp.to (u:=mv ((p:Int)+1) (-1)) (fun _ _ e=>e) g (fun _ _=>rfl) fun r hr=>?_⟩;have hr':r∈rows:=by
  rcases Fn.mp hr with z|z
  ·exact FN z
  ·exact FO z
 have e:=vD 0 c d m.nd m.CH (by rw[Fw (by lia)];exact hc) hd (m.zP r hr')
 rw[et] at e;have e1:=Fc It.g e;have e2:=Fc It.ps e;unfold yV at e1 e2;constructor
 ·refine Eq.trans (show _=_ from e1) ?_;show It.g (if cB (ids++[-1]) r=c then _ else _)=_
  by_cases k:cB (ids++[-1]) r=c
  ·rw[EI k,EI k]
  ·rw[EB k,EB k];rfl
 ·refine Eq.trans (show _=_ from e2) ?_;show It.ps (if cB (ids++[-1]) r=c then _ else _)=_
  by_cases k:cB (ids++[-1]) r=c
  ·rw[EI k];rfl
  ·rw[EB k];rfl
noncomputable def gI(K:Ih)(H:Hp)(dk:Addr)(n:Nat):Prop:=∃ d,cq n d/\Bx K H (fun a=>a=dk) dk d
theorem gI.mono(h:gI K H dk n)(hm:n<=m):gI K H dk m:=by
 obtain⟨d,hd,hb⟩:=h;exact⟨d,hd.mono hm,hb⟩
theorem gI.aU(h:gI K H dk n):∃ xs,H dk=some (.lst xs):=by
 obtain⟨d,⟨m,i,t,z,rfl,_⟩,hb⟩:=h;obtain⟨vs,e,_⟩:=hb;exact⟨vs,e⟩
theorem gI.keep(h:gI K H dk n)(k:KB ex H H')(n1:dk∉ex)(nx:∀ a∈ex,∀ P,H a≠some (.ext P)):gI K H' dk n:=by
 obtain⟨d,hd,hb⟩:=h;obtain⟨m,i,t,z,rfl,h2⟩:=hd;obtain⟨vs,e,r⟩:=hb;refine⟨_,⟨m,i,t,z,rfl,h2⟩,vs,k _ _ e n1,?_⟩;obtain⟨v0,ws,rfl,r0,r⟩:=r.aC;obtain⟨v1,ws,rfl,r1,r⟩:=r.aC;obtain⟨v2,ws,rfl,r2,r⟩:=r.aC;obtain⟨v3,ws,rfl,r3,r⟩:=r.aC;obtain rfl:=r.cI;obtain rfl:=Rep.bf r1;obtain rfl:=Rep.bf r2;obtain rfl:=Rep.bf r3;refine .cons ?_ (.cons (.int _) (.cons (.int _) (.cons (.int _) .nil)))
 cases r0 with
 |il nb ho=>exact .il nb (k _ _ ho fun z=>nx _ z _ ho)
theorem bO{m:Int}(h:gI K H dk n)(hn:n<2^50)(m0:0<m)(m1:m<2^50)(q:∀(v:Int) (H':Hp),0<=v->v<m->KB [dk] H H'->gI K H' dk (n+1)->Q (.int v) H'):spT K [true,false] dD [.ref dk,.int m] H Q E:=by
 obtain⟨d,hd,hb⟩:=h;refine⟨fun a=>a=dk,[d,.int m],fun r outs=>∃(v:Int) (d':L2.T),r=.tr (.int v)/\outs=[d']/\0<=v/\v<m/\cq (n+1) d',⟨⟨dk,rfl,rfl,hb⟩,.int m,trivial⟩,fun b z=>by subst z;exact hb.aU,EY.mpr ⟨EW,Fs⟩,⟨d,m,n,rfl,hd,hn,m0,m1,fun v d' v0 v1 hd'=>⟨v,d',rfl,rfl,v0,v1,hd'⟩⟩,?_⟩
 rintro v H' _ _ ⟨i,d',rfl,rfl,v0,v1,hd'⟩ kp ⟨rv,pr⟩;obtain rfl:=Rep.bf rv;obtain⟨_,_,e,hb',_⟩:=Paired.aC pr;cases e;exact q i H' v0 v1 kp ⟨d',hd',hb'⟩
theorem zC{many:Nat}(h:gI K H dk n)(hn:n<2^38)(m1:many<1000)(q:∀(r:Row) (v:V) (H':Hp),r.Ok many->KB [dk] H H'->gI K H' dk (n+5)->Rep K H' (fun _=>False) v (pN r).t->Q v H'):spT K [true,false] uw [.ref dk,.int (many:Int)] H Q E:=by
 obtain⟨d,hd,hb⟩:=h;refine⟨fun a=>a=dk,[d,.int (many:Int)],fun x outs=>∃(r:Row) (d':L2.T),x=.tr r.t/\outs=[d']/\r.Ok many/\cq (n+5) d',⟨⟨dk,rfl,rfl,hb⟩,.int _,trivial⟩,fun b z=>by subst z;exact hb.aU,EY.mpr ⟨EW,Fs⟩,⟨d,many,n,rfl,hd,hn,m1,fun r d' hr hd'=>⟨r,d',rfl,rfl,hr,hd'⟩⟩,?_⟩
 rintro v H' _ _ ⟨r,d',rfl,rfl,hr,hd'⟩ kp ⟨rv,pr⟩;obtain⟨_,_,e,hb',_⟩:=Paired.aC pr;cases e;rw[me] at rv;exact q r v H' hr kp ⟨d',hd',hb'⟩ (Rep.fr (Fr.less fun b z=>z.elim) rv)
noncomputable def bE.v:bE->V
 |.s z=>.str z
 |.n k=>.int k
theorem yE{v:V}{ps:List bE}(h:Rep K H B v (.tup (ps.map bE.t))):∃ a,v=.ref a/\¬ B a/\H a=some (.tup (ps.map bE.v)):=by
 obtain⟨a,vs,rfl,n,ha,rr⟩:=Rep.tupI h;refine⟨a,rfl,n,?_⟩;rw[ha];congr 2;clear h ha n
 induction ps generalizing vs with
 |nil=>exact rr.cI
 |cons x ps ih =>
  obtain⟨v,ws,rfl,h,rr⟩:=rr.aC;rw[ih ws rr]
  cases x with
  |s z=>rw[Rep.e9 h];rfl
  |n k=>rw[Rep.bf h];rfl
theorem qG{ps:List bE}(n:¬ B a)(h:H a=some (.tup (ps.map bE.v))):Rep K H B (.ref a) (.tup (ps.map bE.t)):=by
 refine .tup n h ?_;clear h n
 induction ps with
 |nil=>exact .nil
 |cons x ps ih =>
  refine .cons ?_ ih
  cases x with
  |s z=>exact .str z
  |n k=>exact .int k
theorem eN(k:KB ex H H')(nt:∀ a∈ex,∀ vs,H a≠some (.tup vs)):∀ a vs,H a=some (.tup vs)->H' a=some (.tup vs):=fun a vs e=>k a _ e fun z=>nt a z vs e
theorem nE.keep{rows:List ai}(h:nE K H mo pl ids rows)(hm:H' mo=H mo)(hp:∀ a∈pl,H' a=H a)(hk:∀ a vs,H a=some (.tup vs)->H' a=some (.tup vs)):nE K H' mo pl ids rows:=by
 refine⟨hm.trans h.at',h.nd,?_⟩;have:=bp.to (f':=cB (ids++[-1])) (u:=id) hk h.ah hp fun r _=>⟨rfl,rfl⟩
 rwa [HK] at this
theorem bp.get{f:ai->Int}:∀{pl:List Addr} {ids:List Int} {rows:List ai} {n:Nat} {a:Addr},bp K H f pl ids rows->pl[n]?=some a->∃ i r,ids[n]?=some i/\rows[n]?=some r/\t9 K H a i r (f r):=by
 intro pl
 induction pl with
 |nil=>intro ids rows n a h e;cases e
 |cons b pl ih =>
  intro ids rows n a h e
  cases ids with
  |nil=>exact h.elim
  |cons i ids =>
  cases rows with
  |nil=>exact h.elim
  |cons r rows =>
  cases n with
  |zero=>cases e;exact⟨i,r,rfl,rfl,h.1⟩
  |succ n=>obtain⟨i',r',e1,e2,e3⟩:=ih h.2 (show pl[n]?=some a from e);exact⟨i',r',e1,e2,e3⟩
theorem nE.aU{rows:List ai}(h:nE K H mo pl ids rows):∀ a∈mo::pl,∃ xs,H a=some (.lst xs):=fun a ha=>by
 rcases EG.mp ha with rfl|ha
 ·exact⟨_,h.at'⟩
 ·obtain⟨n,e⟩:=Hf ha;obtain⟨i,r,_,_,v,h1,_⟩:=h.ah.get e;exact⟨_,h1⟩
structure One (K:Ih) (C:Addr) (H:Hp) (k mo:Addr) (pl:List Addr) (ids:List Int) (rows:List ai):Prop where
 kp:∃ dx b vr,H k=some (.ins C dx [("book",.ref b),("rows",vr)])/\Rep K H (fun _=>False) vr (aH rows)
 md:nE K H mo pl ids rows
 mm:Md ids rows
theorem One.keep{rows:List ai}(h:One K C H k mo pl ids rows)(kb:KB ex H H')(nt:∀ a∈ex,∀ vs,H a≠some (.tup vs))(n1:k∉ex)(n2:∀ a∈mo::pl,a∉ex):One K C H' k mo pl ids rows:=by
 obtain⟨dx,b,vr,h1,h2⟩:=h.kp;have tu:=eN kb nt;have at':∀ a∈mo::pl,H' a=H a:=fun a ha=>by
  obtain⟨xs,e⟩:=h.md.aU a ha;rw[e];exact kb _ _ e (n2 a ha)
 exact⟨⟨dx,b,vr,kb _ _ h1 n1,aK (fun a vs e=>⟨tu a vs e,id⟩) h2⟩,h.md.keep (at' mo EN) (fun a ha=>at' a (ED _ ha)) tu,h.mm⟩
theorem One.len{rows:List ai}(h:One K C H k mo pl ids rows):pl.length=rows.length/\ids.length=rows.length:=by
 have:=h.md.ah.len;exact⟨this.1.trans this.2,this.2⟩
noncomputable def nums(c:Nat):List Int:=(List.range c).map fun i:Nat=>(i:Int)+1
noncomputable def zE(K:Ih)(C:Addr)(H:Hp)(dk k mo ia:Addr)(pl:List Addr)(n c M:Nat)(Q:VK):Prop:=∀(H':Hp) (c':Nat) (pl':List Addr) (ids':List Int) (rows':List ai),gI K H' dk (n+20)->One K C H' k mo pl' ids' rows'->rows'.length<=M->H' ia=some (.lst ((nums c').map V.int))->c<=c'->c'<=c+1->(∀ i∈ids',i<=c')->(∀ a∈pl',a∈pl\/H a=none)->KB (dk::k::mo::ia::pl) H H'->Q (.bl true) H'
structure Pre (K:Ih) (C:Addr) (H:Hp) (dk k mo ia:Addr) (pl:List Addr) (ids:List Int) (rows:List ai) (n c:Nat):Prop where
 deck:gI K H dk n
 hn:n<2^30
 one:One K C H k mo pl ids rows
 at':H ia=some (.lst ((nums c).map V.int))
 hc:c<1000
 le:∀ i∈ids,i<=c
 di:dk≠ia
 sep:∀ a∈mo::pl,a≠dk/\a≠ia
noncomputable def jV(K:Ih)(C:Addr):Sp:=fun vs H Q _=>∃ dk k mo ia pl ids rows n c,vs=[.ref dk,.ref k,.ref mo,.ref ia]/\Pre K C H dk k mo ia pl ids rows n c/\rows.length<=59/\zE K C H dk k mo ia pl n c (rows.length+1) Q
theorem j6{m a b:Str}{x y:V}(h1:m≠a)(h2:m≠b):List.lookup m [(a,x),(b,y)]=none:=by
 rw[Fu,Fb.mpr h1,Fu,Fb.mpr h2];rfl
theorem ie(c:Nat):((nums c).map V.int).length=c:=by rw[EJ];unfold nums;rw[EJ,List.length_range]
theorem iU(c:Nat):(nums c).map V.int++[V.int ((c:Int)+1)]=(nums (c+1)).map V.int:=by
 unfold nums;rw[List.range_succ,Ff,Ff];rfl
theorem iG(c:Nat):bN ((nums (c+1)).map V.int) (-1)=some (V.int ((c:Int)+1)):=by
 rw[<- iU];have hl:=ie c;unfold bN i3;rw[EB (by decide),EU,hl,Fe,EI (by lia)]
 show ((nums c).map V.int++[V.int ((c:Int)+1)])[((-1:Int)+((c+1:Nat):Int)).toNat]?=_;rw[show ((-1:Int)+((c+1:Nat):Int)).toNat=c by lia,Fj (by lia),hl,GP];rfl
theorem xI(r:ai):∃ z rest,r.ps.map bE.v=V.str z::rest/\jY (.str z) [V.str "jump",V.str "zero"]=(bq r).isSome:=by
 cases r with
 |put b n=>refine⟨_,_,rfl,?_⟩;show jY _ _=false;decide +kernel
 |two u a b=>rcases AE u with rfl|rfl|rfl<;>(refine⟨_,_,rfl,?_⟩;show jY _ _=false;decide +kernel)
 |one u b=>rcases BG u with rfl|rfl<;>(refine⟨_,_,rfl,?_⟩;show jY _ _=false;decide +kernel)
 |jump g=>refine⟨_,_,rfl,?_⟩;show jY _ _=true;decide +kernel
 |zero b g=>refine⟨_,_,rfl,?_⟩;show jY _ _=true;decide +kernel
 |halt=>refine⟨_,_,rfl,?_⟩;show jY _ _=false;decide +kernel
theorem rX{r:ai}{g:Int}(h:bq r=some g):gY (r.ps.map bE.v) none (some (-1))=(yj r).map bE.v/\¬ (HT.aR (r.ps.map bE.v).length 0 none=0/\HT.aR (r.ps.map bE.v).length (r.ps.map bE.v).length (some (-1))=(r.ps.map bE.v).length)/\bN (r.ps.map bE.v) (-1)=some (.int g):=by
 cases r<;>cases h
 ·exact⟨rfl,(show ¬ (HT.aR 2 0 none=0/\HT.aR 2 2 (some (-1))=2) by decide),rfl⟩
 ·exact⟨rfl,(show ¬ (HT.aR 3 0 none=0/\HT.aR 3 3 (some (-1))=3) by decide),rfl⟩
theorem v9{r:ai}(h:bq r=none):yj r=r.ps:=by cases r<;>first|rfl|cases h
theorem kz{σ:L2.St}(hm:H mo=some (.lst (pl.map V.ref)))(hl:pl.length<=1000)(hi:∀(j:Nat) (a:Addr),pl[j]?=some a->∃(i:Int) (rest:List V),ids[j]?=some i/\H a=some (.lst (.int i::rest)))(hn:ids.length=pl.length)(q:∀ D,H D=none->Q (.ref D) (upd H D (.lst (ids.map V.int)))):sN (nU K mo) 1 (bU 0) kG (pq (xW K) (lP 0) (tC (V.int 0))) Q σ H:=by
 refine lD (xs:=pl.map V.ref) (ES (show _<=1000 by rw[EJ];exact hl) (by decide)) (fun D i ys H'=>H D=none/\H'=upd H D (.lst ys)/\ys=(ids.take i).map V.int/\i<=ids.length) (fun D hD=>⟨hD,rfl,rfl,Fo _⟩) ?_ ?_ ?_ ?_
 ·rintro D i ys H' ⟨h1,rfl,rfl,h2⟩;exact⟨ae,by rw[EJ,Fg];lia⟩
 ·rintro D i ys H' ⟨h1,rfl,rfl,h2⟩;exact a_.of (by rw[af (fun z=>by rw[z,h1] at hm;cases hm)];exact hm)
 ·rintro D i ys H' x R ex ⟨h1,rfl,rfl,h2⟩ kk;rw[Fh] at ex
  cases ea:pl[i]? with
  |none=>rw[ea] at ex;cases ex
  |some a =>
  rw[ea] at ex;cases ex;obtain⟨i0,rest,e1,e2⟩:=hi i a ea;have e3:upd H D (.lst ((ids.take i).map V.int)) a=some (.lst (.int i0::rest)):=by rw[af (fun z=>by rw[z,h1] at e2;cases e2)];exact e2
  walk_at "rz";simp only[aI e3,ow];have e4:(ids.take i).map V.int++[V.int i0]=(ids.take (i+1)).map V.int:=by rw[Gz,e1,Ff];rfl
  refine kk _ _ ae ⟨h1,vG,e4,(EM.mp e1).1⟩
 ·rintro D ys H' ⟨h1,rfl,rfl,h2⟩;rw[EJ,<- hn,Gq];exact q D h1
theorem vJ{β:Type}{l:List α}{l2:List β}{x a:α}{y:β}{j:Nat}(hl:l2.length=l.length)(hp:p<=l.length)(h:(l.take p++[x]++l.drop p)[j]?=some a):(a=x/\(l2.take p++[y]++l2.drop p)[j]?=some y)\/∃ m:Nat,l[m]?=some a/\(l2.take p++[y]++l2.drop p)[j]?=l2[m]?:=by
 have t1:(l.take p).length=p:=by rw[Fg];lia
 have t2:(l2.take p).length=p:=by rw[Fg];lia
 rw[FY] at h ⊢;rcases Nat.lt_trichotomy j p with c|c|c
 ·rw[Fw (by lia),Gm c] at h
  exact .inr ⟨j,h,by rw[Fw (by lia),Gm c]⟩
 ·rw[Fj (by lia),t1,c,GP] at h
  cases h;exact .inl ⟨rfl,by rw[Fj (by lia),t2,c,GP];rfl⟩
 ·obtain⟨m,em⟩:∃ m,j-p=m+1:=⟨j-p-1,by lia⟩
  rw[Fj (by lia),t1,em,HS,GR,FA] at h
  exact .inr ⟨p+m,h,by rw[Fj (by lia),t2,em,HS,GR,FA]⟩
theorem uL{l:List α}{x y:α}(hp:p<=l.length):(l.take p++[x]++l.drop p).set p y=l.take p++[y]++l.drop p:=by
 have t1:(l.take p).length=p:=by rw[Fg];lia
 rw[FY,List.set_append_right _ _ (by lia),t1,GP,FY];rfl
theorem uM{CR:Addr}(T:Txt K mg)(M:KM P w K mg base C CR)(h_law_draw:k0z P w K mg base)(h_law_row:k2z P w K mg base)(F:HasFn K mg "_law_put" cJ ["deck","kept","model","ids"]):aj P w K mg base aW 6 "_law_put" ["deck","kept","model","ids"] (jV K C):=by
 obtain⟨f_t,d_t,mm_put_in,fo,bm_put_in⟩:=M.put;have FO_put_in:=fo.calm (sp':=C9 (nq K C CR)) (fun _ _ _ _ h=>h);have cM:=M.cM;refine F.C1 cU (fun vs H Q E h=>?_) (fun f cdv A outer s H vs Q E hr h=>?_)
 ·obtain⟨dk,k,mo,ia,pl,ids,rows,n,c,rfl,_⟩:=h;rfl
 ·obtain⟨dk,k,mo,ia,pl,ids,rows,n,c,rfl,pre,h59,q⟩:=h;have hu:=bz hr;refine⟨_,(Z.ao (Z.set (i:=4) cU.nd rfl (by right) (Z.fn h_law_draw (hr.mono (by decide)) rfl au (Z.cons (Z.v 0) (Z.cons (Z.op (Z.ib K rfl) (Z.cb (Z.iN K rfl) rfl T.cw (by decide +kernel) (Z.cons (Z.v 2) Z.nil)) Z.int) Z.nil))))
   (Z.ao (Z.set (i:=5) cU.nd rfl (by right) (Z.fn h_law_row (hr.mono (by decide)) rfl au (Z.cons (Z.v 0) (Z.cons (Z.op (Z.ib K rfl) (Z.cb (Z.iN K rfl) rfl T.cw (by decide +kernel) (Z.cons (Z.v 2) Z.nil)) Z.int) Z.nil))))
   (Z.ao (Z.set (i:=6) cU.nd rfl (by right) (Z.Bs K rfl (Z.v 1) cM mm_put_in FO_put_in (hr.mono (by decide)) bm_put_in au (Z.cons (Z.v 4) (Z.cons (Z.v 5) Z.nil))))
   (Z.ao (Z.expr (Z.bm K rfl PySem.F.plainAttrs_list PySem.F.slot_list_append PySem.F.type_list_append fI (Z.v 3) (Z.cons (Z.op (Z.ib K rfl) (Z.cb (Z.iN K rfl) rfl T.cw (by decide +kernel) (Z.cons (Z.v 3) Z.nil)) Z.int) Z.nil)))
   (Z.ao (Z.expr (Z.bm K rfl PySem.F.plainAttrs_list PySem.F.slot_list_insert PySem.F.type_list_insert fO (Z.v 2) (Z.cons (Z.v 4) (Z.cons (Z.lst (Z.cons (Z.ix (Z.c_ K rfl hu) (Z.v 3) (Z.un eL Z.int)) (Z.cons (Z.v 5) (Z.cons Z.int Z.nil)))) Z.nil))))
   (Z.ao (Z.fh (Z.aZ (Z.Dn K rfl hu) (Z.ix (Z.c_ K rfl hu) (Z.v 5) Z.int) (Z.tup (Z.consts rfl))) (Z.aE (Z.asg (Z.lst (Z.cons (Z.ix (Z.c_ K rfl hu) (Z.v 3) (Z.un eL Z.int)) (Z.cons (Z.slice (Z.CO K rfl) (Z.v 5) Z.t4 (Z.tE (Z.un eL Z.int))) (Z.cons (Z.ix (Z.c_ K rfl hu) (Z.op (Z.ib K rfl) (Z.comp (osc:=aa cJ) (ON:=["deck","kept","model","ids","place","row","told"]) (own:=["one"]) (N:=["one","deck","kept","model","ids","place","row","told"]) ⟨rfl,by decide +kernel,rfl,by decide +kernel,by decide +kernel,by decide +kernel,by decide +kernel,by decide +kernel⟩ rfl rfl rfl (Z.any K rfl (Z.v 2)) (fun _ _ _ _=>(Z.bW (i:=0) (show List.Nodup (["one","deck","kept","model","ids","place","row","told"]:List Str) by decide +kernel) rfl (by right))) (fun _ _ _ _=>Z.wg) (fun _ _ _ _=>(Z.ix (Z.c_ K rfl hu) (Z.v 0) Z.int))) (Z.lst (Z.cons (Z.un eL Z.int) Z.nil))) (Z.ix (Z.c_ K rfl hu) (Z.v 5) (Z.un eL Z.int))) Z.nil)))) (Z.lL (Z.v 2) (Z.v 4)))) Z.bM)
   (Z.aE (Z.ret (Z.cmp gL (Z.v 6) Z.ay))))))))),?_⟩
  have hmo:sq H mo=some (true,pl.map V.ref):=aI pre.one.md.at';refine bF fun N hN=>?_;walk_at "rz";simp only[hmo];have hlen:=pre.one.len;have hn:=pre.hn;rw[EJ];refine bO pre.deck (by lia) (by lia) (by lia) fun place H1 p0 p1 k1 d1=>?_
  obtain⟨p,rfl⟩:∃ p:Nat,place=p:=⟨place.toNat,by lia⟩
  rw[hN];clear hN N;have kdk:dk≠k:=fun z=>by
   obtain⟨xs,e⟩:=pre.deck.aU;obtain⟨dx,b,vr,h1,_⟩:=pre.one.kp;rw[z,h1] at e;cases e
  have smo:=pre.sep mo EN;have m1:H1 mo=some (.lst (pl.map V.ref)):=k1 _ _ pre.one.md.at' (by simpa using smo.1)
  refine bF fun N hN=>?_;walk_at "rz";simp only[aI m1];rw[EJ,show ((pl.length:Nat):Int)+1=((rows.length+1:Nat):Int) by rw[hlen.1];rfl]
  refine zC d1 (by lia) (by lia) fun r0 vrow H2 hr0 k2 d2 rrow=>?_
  rw[hN];clear hN N;have k12:KB [dk] H H2:=k1.trans k2;obtain⟨dx,b,vr,h1,h2⟩:=pre.one.kp;have ht:∀ a∈[dk],∀ vs,H a≠some (.tup vs):=fun a ha vs e=>by
   rw[ET.mp ha] at e;obtain⟨xs,e'⟩:=pre.deck.aU;rw[e'] at e;cases e
  have hk2:=k12 _ _ h1 (by simpa using kdk.symm)
  have hv2:=aK (B':=fun _=>False) (fun a vs e=>⟨eN k12 ht a vs e,id⟩) h2;generalize hr:pN r0=r at rrow;have hg:∀ g,bq r=some g->0<=g/\g<=(rows.length:Int)+1:=fun g e=>by
   rw[<- hr] at e
   cases r0<;>cases e
   ·have:_<=rows.length+1:=hr0;lia
   ·have:=hr0.2;lia
  refine bF fun N hN=>?_;walk_at "rz";refine⟨k,dx,_,rfl,hk2,j6 (by decide +kernel) (by decide +kernel),?_⟩
  refine⟨k,dx,b,vr,vrow,rows,p,r,rfl,hk2,hv2,rrow,by lia,by lia,by lia,fun g e=>by have:=hg g e;lia,fun _ H3 vr' e3 r3 k3=>?_,fun no=>absurd ⟨by lia,by lia,hg⟩ no⟩
  rw[hN];clear hN N;have kia:k≠ia:=fun z=>by
   rw[z,pre.at'] at h1;cases h1
  have kmo:k≠mo:=fun z=>by
   rw[z,pre.one.md.at'] at h1;cases h1
  have k23:KB [k] H2 H3:=fun c o e n=>k3 c o e (by simpa using n)
  have ia3:H3 ia=some (.lst ((nums c).map V.int)):=k3 _ _ (k12 _ _ pre.at' (by simpa using pre.di.symm)) kia.symm
  have mo3:H3 mo=some (.lst (pl.map V.ref)):=k3 _ _ (k12 _ _ pre.one.md.at' (by simpa using smo.1)) kmo.symm
  refine bF fun N hN=>?_;walk_at "rz";simp only[aI ia3];have hc:=pre.hc;refine⟨.inl ⟨rfl,_,a_.of ia3⟩,_,_,_,rfl,rfl,ia3,by rw[ie];exact EO hc (by decide),?_⟩
  rw[ie,iU];obtain⟨H4,e4⟩:∃ H4,H4=upd H3 ia (.lst ((nums (c+1)).map V.int)):=⟨_,rfl⟩;rw[<- e4];have ia4:H4 ia=some (.lst ((nums (c+1)).map V.int)):=by rw[e4];exact ae
  have k34:KB [ia] H3 H4:=by rw[e4];exact KB.set (by simp)
  clear e4;have mo4:H4 mo=some (.lst (pl.map V.ref)):=k34 _ _ mo3 (by simpa using smo.2)
  rw[hN];clear hN N;refine bF fun N hN=>?_;walk_at "rz";simp only[aI ia4,iG];refine⟨.inl ⟨rfl,_,a_.of mo4⟩,by decide,fun nw hnw=>?_⟩
  have n4:nw≠mo:=fun z=>by rw[z,mo4] at hnw;cases hnw
  refine⟨mo,_,p,.ref nw,rfl,rfl,by rw[af n4.symm];exact mo4,by lia,by lia,by rw[EJ];exact Ge (show _<=60 by lia) (by decide),?_⟩
  rw[hN];clear hN N;rw[Fp,EJ,Nat.min_eq_left (by lia)]
  have ei:cZ (pl.map V.ref) p (.ref nw)=(pl.take p++[nw]++pl.drop p).map V.ref:=by unfold cZ;simp
  rw[ei];obtain⟨H5,e5⟩:∃ H5,H5=upd (upd H4 nw (.lst [.int ((c:Int)+1),vrow,.int 0])) mo (.lst ((pl.take p++[nw]++pl.drop p).map V.ref)):=⟨_,rfl⟩;rw[<- e5];have mo5:H5 mo=some (.lst ((pl.take p++[nw]++pl.drop p).map V.ref)):=by rw[e5];exact ae
  have nw5:H5 nw=some (.lst [.int ((c:Int)+1),vrow,.int 0]):=by rw[e5,af n4];exact ae
  have k45:KB [mo] H4 H5:=by rw[e5];exact (KB.new hnw).trans (KB.set (by simp))
  clear e5;refine bF fun N hN=>?_;have lk:∀ a∈[dk],∀ P,H a≠some (.ext P):=fun a ha P e=>by
   rw[ET.mp ha] at e;obtain⟨xs,e'⟩:=pre.deck.aU;rw[e'] at e;cases e
  have h3k:∀ a∈[mo,ia],∃ xs,H3 a=some (.lst xs):=fun a ha=>by
   rcases EG.mp ha with rfl|ha
   ·exact⟨_,mo3⟩
   ·rw[ET.mp ha];exact⟨_,ia3⟩
  have lists:∀ a∈[dk,k,mo,ia],∀ vs,H a≠some (.tup vs):=fun a ha vs e=>by
   simp only[EG,EW,FI] at ha;rcases ha with rfl|rfl|rfl|rfl
   ·exact ht _ (by simp) vs e
   ·rw[h1] at e;cases e
   ·rw[pre.one.md.at'] at e;cases e
   ·rw[pre.at'] at e;cases e
  have fin:∀(H9:Hp) (n9:Addr),H n9=none->H9 mo=some (.lst ((pl.take p++[n9]++pl.drop p).map V.ref))->t9 K H9 n9 ((c:Int)+1) r (cB (ids.take p++[(c:Int)+1]++ids.drop p++[-1]) r)->H9 ia=some (.lst ((nums (c+1)).map V.int))->KB [mo,ia] H3 H9->N [some (V.ref dk),some (V.ref k),some (V.ref mo),some (V.ref ia),some (V.int (p:Nat)),some vrow,some V.ay] H9:=by
   intro H9 n9 hn9 mo9 it9 ia9 k39;rw[hN];clear hN N;walk_at "rz";have all:KB [dk,k,mo,ia] H H9:=((k12.mono (by simp)).trans (k23.mono (by simp))).trans (k39.mono (by simp))
   have tu:=eN all lists;have nin:n9∉mo::pl:=fun z=>by
    obtain⟨xs,e⟩:=pre.one.md.aU n9 z;rw[hn9] at e;cases e
   have plk:∀ a∈pl,H9 a=H a:=fun a ha=>by
    obtain⟨xs,e⟩:=pre.one.md.aU a (ED _ ha);have s:=pre.sep a (ED _ ha);rw[e];refine all _ _ e ?_;simp only[EG,EW,FI];rintro (z|z|z|z)
    ·exact s.1 z
    ·rw[z,h1] at e;cases e
    ·exact (EY.mp pre.one.md.nd).1 (z ▸ ha)
    ·exact s.2 z
   refine q H9 (c+1) (pl.take p++[n9]++pl.drop p) (ids.take p++[(c:Int)+1]++ids.drop p) (ig rows p r) (((d2.keep k23 (by simpa using kdk) fun a ha P e=>by rw[ET.mp ha,hk2] at e;cases e).keep k39 (by simpa using⟨smo.1.symm,pre.di⟩) fun a ha P e=>by obtain⟨xs,e'⟩:=h3k a ha;rw[e'] at e;cases e).mono (by lia)) ⟨⟨dx,b,vr',k39 _ _ e3 (by simpa using⟨kmo,kia⟩),aK (fun a vs e=>⟨eN k39 (fun a ha vs e=>by obtain⟨xs,e'⟩:=h3k a ha;rw[e'] at e;cases e) a vs e,id⟩) r3⟩,pre.one.md.put pre.one.mm (by lia) mo9 nin plk tu it9,pre.one.mm.put (by lia) (fun z=>?_) (by lia) fun g e=>by have:=hg g e;lia⟩ ?_ ia9 (by lia) (by lia) (fun i hi=>?_) (fun a ha=>?_) (all.mono (by simp))
   ·have:=pre.le _ z;lia
   ·unfold ig;simp;lia
   ·simp only[Fn,ET] at hi;rcases hi with (hi|hi)|hi
    ·have:=pre.le _ (FN hi);lia
    ·lia
    ·have:=pre.le _ (FO hi);lia
   ·simp only[Fn,ET] at ha;rcases ha with (ha|ha)|ha
    ·exact .inl (FN ha)
    ·rw[ha];exact .inr hn9
    ·exact .inl (FO ha)
  obtain⟨ra,rfl,_,o2⟩:=yE (show Rep K H2 (fun _=>False) vrow (.tup (r.ps.map bE.t)) from rrow);have o3:=k23 _ _ o2 (fun z=>by rw[ET.mp z,hk2] at o2;cases o2)
  have o4:=k34 _ _ o3 (fun z=>by rw[ET.mp z,ia3] at o3;cases o3)
  have o5:=k45 _ _ o4 (fun z=>by rw[ET.mp z,mo4] at o4;cases o4)
  have k35:KB [mo,ia] H3 H5:=(k34.mono (by simp)).trans (k45.mono (by simp))
  have ia5:=k45 _ _ ia4 (by simpa using smo.2.symm)
  obtain⟨z,rest,ez,hz⟩:=xI r;have s5:sq H5 ra=some (false,V.str z::rest):=by rw[<- ez];exact jv o5
  have fr:∀ b,H4 b=none->H b=none:=fun b e=>by
   refine (((k12.mono (by simp)).trans (k23.mono (by simp))).trans (k34.mono (by simp)):KB [dk,k,ia] H H4).free ?_ e
   simp only[EG,EW,FI];rintro (rfl|rfl|rfl)
   ·obtain⟨xs,e'⟩:=d2.aU;rw[k34 _ _ (k23 _ _ e' (by simpa using kdk)) (by simpa using pre.di)] at e;cases e
   ·rw[k34 _ _ e3 (by simpa using kia)] at e;cases e
   ·rw[ia4] at e;cases e
  have hnw0:=fr nw hnw;have fr5:∀ b,H5 b=none->H4 b=none:=fun b e=>by
   refine k45.free ?_ e;intro z;rw[ET.mp z,mo5] at e;cases e
  walk_at "rz";simp only[s5,ow];refine⟨by decide,fun tt htt=>⟨rfl,rfl,?_⟩⟩
  rw[hz];have k6:KB [mo,ia] H3 (upd H5 tt (.tup [V.str "jump",V.str "zero"])):=k35.trans (KB.new htt);have up:∀{b:Addr} {o:HO},H5 b=some o->upd H5 tt (.tup [V.str "jump",V.str "zero"]) b=some o:=fun e=>by rw[af (aw e htt)];exact e
  cases hgo:bq r with
  |none =>
   rw[EB (by decide)]
   have g0:cB (ids.take p++[(c:Int)+1]++ids.drop p++[-1]) r=0:=by unfold cB;rw[hgo]
   refine fin _ nw hnw0 (up mo5) ⟨_,by rw[g0];exact up nw5,?_⟩ (up ia5) k6
   rw[kZ,v9 hgo];exact qG id (up o5)
  |some g =>
   rw[EI (by rfl)]
   obtain⟨c1,c2,c3⟩:=rX hgo;have fr6:∀ b,upd H5 tt (.tup [V.str "jump",V.str "zero"]) b=none->H5 b=none:=fun b e=>by
    by_cases z:b=tt
    ·rw[z];exact htt
    ·rw[af z] at e;exact e
   generalize upd H5 tt (.tup [V.str "jump",V.str "zero"])=H6 at *;simp only[aI (up ia5),iG,jv (up o5)];refine⟨ra,_,rfl,b6.of (up o5),c2,fun sl hsl=>?_⟩;rw[c1];have u7:KB [] H6 (upd H6 sl (.tup ((yj r).map bE.v))):=KB.new hsl;have s7:upd H6 sl (.tup ((yj r).map bE.v)) sl=some (.tup ((yj r).map bE.v)):=ae;generalize upd H6 sl (.tup ((yj r).map bE.v))=H7 at *;have up7:∀{b:Addr} {o:HO},H5 b=some o->H7 b=some o:=fun e=>u7 _ _ (up e) (by simp)
   simp only[aI (up7 mo5)];have hpl:∀(b:Addr) (o:HO),H b=some o->b∈pl->H7 b=some o:=fun b o e hb=>by
    have s:=pre.sep b (ED _ hb);have nk:b≠k:=fun z=>by
     obtain⟨xs,e'⟩:=pre.one.md.aU b (ED _ hb);rw[z,h1] at e';cases e'
    have nm:b≠mo:=fun z=>(EY.mp pre.one.md.nd).1 (z ▸ hb);exact up7 (k35 _ _ (k3 _ _ (k12 _ _ e (by simpa using s.1)) nk) (by simpa using⟨nm,s.2⟩))
   have il:(ids.take p++[(c:Int)+1]++ids.drop p).length=rows.length+1:=by simp;lia
   refine kz (pl:=pl.take p++[nw]++pl.drop p) (ids:=ids.take p++[(c:Int)+1]++ids.drop p) (up7 mo5) (by simp;lia) (fun j a ha=>?_) (by rw[il];simp;lia) fun D hD=>?_
   ·rcases vJ (l2:=ids) (y:=(c:Int)+1) (by lia) (by lia) ha with ⟨rfl,e⟩|⟨m,e1,e2⟩
    ·exact⟨_,_,e,up7 nw5⟩
    ·obtain⟨i,r',e4,e5,v,e6,_⟩:=pre.one.md.ah.get e1;exact⟨i,_,e2.trans e4,hpl _ _ e6 (FL e1)⟩
   have u8:KB [] H7 (upd H7 D (.lst ((ids.take p++[(c:Int)+1]++ids.drop p).map V.int))):=KB.new hD;have s8:upd H7 D (.lst ((ids.take p++[(c:Int)+1]++ids.drop p).map V.int)) D=some (.lst ((ids.take p++[(c:Int)+1]++ids.drop p).map V.int)):=ae;generalize upd H7 D (.lst ((ids.take p++[(c:Int)+1]++ids.drop p).map V.int))=H8 at *;refine⟨by decide,fun e1 he1=>?_⟩
   have u9:KB [] H8 (upd H8 e1 (.lst [V.int (-1)])):=KB.new he1;have s9:upd H8 e1 (.lst [V.int (-1)]) e1=some (.lst [V.int (-1)]):=ae;generalize upd H8 e1 (.lst [V.int (-1)])=H9 at *;simp only[L2.Ap.addRef,s9,u9 _ _ s8 (by simp)]
   refine⟨ES (show _<=100 by rw[EJ,il];simp;lia) (by decide),fun e2 he2=>?_⟩
   have u10:KB [] H9 (upd H9 e2 (.lst ((ids.take p++[(c:Int)+1]++ids.drop p).map V.int++[V.int (-1)]))):=KB.new he2;have s10:upd H9 e2 (.lst ((ids.take p++[(c:Int)+1]++ids.drop p).map V.int++[V.int (-1)])) e2=some (.lst ((ids.take p++[(c:Int)+1]++ids.drop p).map V.int++[V.int (-1)])):=ae;generalize upd H9 e2 (.lst ((ids.take p++[(c:Int)+1]++ids.drop p).map V.int++[V.int (-1)]))=H10 at *;have u710:KB [] H7 H10:=(u8.trans u9).trans u10;simp only[jv (u710 _ _ (up7 o5) (by simp)),c3]
   have hgg:=hg g hgo;have eg:bN ((ids.take p++[(c:Int)+1]++ids.drop p).map V.int++[V.int (-1)]) g=some (.int (cB (ids.take p++[(c:Int)+1]++ids.drop p++[-1]) r)):=by
    obtain⟨gn,rfl⟩:∃ gn:Nat,g=gn:=⟨g.toNat,by lia⟩
    have hl:gn<(ids.take p++[(c:Int)+1]++ids.drop p++[-1]).length:=by rw[EU,il,Fe];lia
    rw[show (ids.take p++[(c:Int)+1]++ids.drop p).map V.int++[V.int (-1)]=(ids.take p++[(c:Int)+1]++ids.drop p++[-1]).map V.int from (List.map_append (l₂:=[-1])).symm];unfold cB;rw[hgo];refine cA ?_;rw[List.getElem?_map,List.getElem?_eq_getElem hl];dsimp only;rw[Int.toNat_natCast,getD_mem hl];rfl
   simp only[L2.Ap.kT,aI s10,eg];refine⟨by decide,fun n2 hn2=>?_⟩
   have mo10:=u710 _ _ (up7 mo5) (by simp)
   have n2m:n2≠mo:=fun z=>by rw[z,mo10] at hn2;cases hn2
   rw[af n2m.symm,mo10];have lp:p<((pl.take p++[nw]++pl.drop p).map V.ref).length:=by simp;lia
   simp only[yF (show (0:Int)<=(p:Nat) by lia) (show ((p:Nat):Int)<((pl.take p++[nw]++pl.drop p).map V.ref).length by lia),Fp]
   rw[<- HB,uL (by lia)]
   have u610:KB [] H6 H10:=u7.trans u710;have n20:H n2=none:=fr _ (fr5 _ (fr6 _ (u610.free (by simp) hn2)))
   have ne:∀{b:Addr} {o:HO},H10 b=some o->b≠mo->upd (upd H10 n2 (.lst [.int ((c:Int)+1),.ref sl,.int (cB (ids.take p++[(c:Int)+1]++ids.drop p++[-1]) r)])) mo (.lst ((pl.take p++[n2]++pl.drop p).map V.ref)) b=some o:=fun {b o} e n=>by rw[af n,af (aw e hn2)];exact e
   refine fin _ n2 n20 ae ⟨.ref sl,by rw[af n2m];exact ae,?_⟩ (ne (u610 _ _ (up ia5) (by simp)) smo.2.symm) (k6.trans ((u610.all).trans ((KB.new hn2).trans (KB.set (by simp)))))
   rw[kZ];exact qG id (ne (u710 _ _ s7 (by simp)) fun z=>by rw[z,up7 mo5] at s7;cases s7)
theorem jF{l:List Addr}(nd:l.Nodup){i j:Nat}(hi:i<l.length)(hj:j<l.length)(e:l[i]=l[j]):i=j:=by rw[<- nd.idxOf_getElem i hi,e,nd.idxOf_getElem]
theorem bp.next{f1 f2:ai->Int}{rows:List ai}{i:Nat}{j:Int}{r:ai}(e:pl[i]?=some a)(ei:ids[i]?=some j)(er:rows[i]?=some r)(nd:pl.Nodup)(t:bp K H f2 (pl.take i) (ids.take i) (rows.take i))(d:bp K H f1 (pl.drop i) (ids.drop i) (rows.drop i))(hk:∀ b,b≠a->H' b=H b)(ht:∀ a vs,H a=some (.tup vs)->H' a=some (.tup vs))(h:t9 K H' a j r (f2 r)):bp K H' f2 (pl.take (i+1)) (ids.take (i+1)) (rows.take (i+1))/\bp K H' f1 (pl.drop (i+1)) (ids.drop (i+1)) (rows.drop (i+1)):=by
 obtain⟨hi,ea⟩:=EM.mp e;constructor
 ·rw[Gz,Gz,Gz,e,ei,er];refine bp.app (pl2:=[a]) (ids2:=[j]) (rows2:=[r]) ⟨h,trivial⟩ ?_;have:=bp.to (f':=f2) (u:=id) ht t (fun b hb=>hk b fun z=>?_) fun r _=>⟨rfl,rfl⟩
  ·rwa [HK] at this
  ·obtain⟨n,hn,en⟩:=Hw.mp hb;have hn':n<i:=by lia
   have:=jF nd (by lia) hi (show pl[n]'(by lia)=pl[i] by rw[en,ea,z])
   lia
 ·have d':=(d.cut 1).2;rw[HU,HU,HU] at d';have:=bp.to (f':=f1) (u:=id) ht d' (fun b hb=>hk b fun z=>?_) fun r _=>⟨rfl,rfl⟩
  ·rwa [HK] at this
  ·obtain⟨n,hn⟩:=Hf hb;rw[FA] at hn;obtain⟨hn1,hn2⟩:=EM.mp hn;have:=jF nd hn1 hi (show pl[i+1+n]=pl[i] by rw[hn2,ea,z])
   lia
noncomputable def n8(K:Ih)(C:Addr):Sp:=fun vs H Q _=>∃ dk k mo ia pl ids rows n c,vs=[.ref dk,.ref k,.ref mo]/\Pre K C H dk k mo ia pl ids rows n c/\1<=rows.length/\rows.length<=60/\zE K C H dk k mo ia pl n c rows.length Q
theorem sZ{CR:Addr}(T:Txt K mg)(M:KM P w K mg base C CR)(h_law_draw:k0z P w K mg base)(F:HasFn K mg "_law_take" b_ ["deck","kept","model"]):aj P w K mg base aW 6 "_law_take" ["deck","kept","model"] (n8 K C):=by
 obtain⟨f_t,d_t,mm_take_out,fo,bm_take_out⟩:=M.take;have FO_take_out:=fo.calm (sp':=C9 (j0 K C CR)) (fun _ _ _ _ h=>h);have cM:=M.cM;refine F.C1 bB (fun vs H Q E h=>?_) (fun f cdv A outer s H vs Q E hr h=>?_)
 ·obtain⟨dk,k,mo,ia,pl,ids,rows,n,c,rfl,_⟩:=h;rfl
 ·obtain⟨dk,k,mo,ia,pl,ids,rows,n,c,rfl,pre,h1r,h60,q⟩:=h;have hu:=bz hr;refine⟨_,(Z.ao (Z.set (i:=3) bB.nd rfl (by right) (Z.fn h_law_draw (hr.mono (by decide)) rfl au (Z.cons (Z.v 0) (Z.cons (Z.cb (Z.iN K rfl) rfl T.cw (by decide +kernel) (Z.cons (Z.v 2) Z.nil)) Z.nil))))
   (Z.ao (Z.set (i:=4) bB.nd rfl (by right) (Z.op (Z.ib K rfl) (Z.comp (osc:=aa b_) (ON:=["deck","kept","model","at","there","told","gone","one"]) (own:=["one"]) (N:=["one","deck","kept","model","at","there","told","gone",".one"]) ⟨rfl,by decide +kernel,rfl,by decide +kernel,by decide +kernel,by decide +kernel,by decide +kernel,by decide +kernel⟩ rfl rfl rfl (Z.any K rfl (Z.v 2)) (fun _ _ _ _=>(Z.bW (i:=0) (show List.Nodup (["one","deck","kept","model","at","there","told","gone",".one"]:List Str) by decide +kernel) rfl (by right))) (fun _ _ _ _=>Z.wg) (fun _ _ _ _=>(Z.ix (Z.c_ K rfl hu) (Z.v 0) Z.int))) (Z.lst (Z.cons (Z.un eL Z.int) Z.nil))))
   (Z.ao (Z.set (i:=5) bB.nd rfl (by right) (Z.Bs K rfl (Z.v 1) cM mm_take_out FO_take_out (hr.mono (by decide)) bm_take_out au (Z.cons (Z.v 3) Z.nil)))
   (Z.ao (Z.set (i:=6) bB.nd rfl (by right) (Z.bm K rfl PySem.F.plainAttrs_list PySem.F.slot_list_pop PySem.F.type_list_pop km (Z.v 2) (Z.cons (Z.v 3) Z.nil)))
   (Z.ao (Z.kY Gw rfl (Z.any K rfl (Z.v 2)) (Z.bW (i:=7) bB.nd rfl (by right)) (Z.aE (Z.fh (Z.aZ jG (Z.ix (Z.c_ K rfl hu) (Z.v 7) Z.int) (Z.ix (Z.c_ K rfl hu) (Z.v 6) Z.int)) (Z.aE (Z.asg (Z.ix (Z.c_ K rfl hu) (Z.v 4) (Z.op (Z.ib K rfl) (Z.v 3) Z.int)) (Z.lL (Z.v 7) Z.int))) Z.bM)))
   (Z.aE (Z.ret (Z.cmp gL (Z.v 5) Z.ay)))))))),?_⟩
  have hmo:sq H mo=some (true,pl.map V.ref):=aI pre.one.md.at';refine bF fun N hN=>?_;walk_at "rz";simp only[hmo];have hlen:=pre.one.len;have hn:=pre.hn;rw[EJ];refine bO pre.deck (by lia) (by lia) (by lia) fun place H1 p0 p1 k1 d1=>?_
  obtain⟨p,rfl⟩:∃ p:Nat,place=p:=⟨place.toNat,by lia⟩
  rw[hN];clear hN N;obtain⟨dx,b,vr,h1,h2⟩:=pre.one.kp;have kdk:dk≠k:=fun z=>by
   obtain⟨xs,e⟩:=pre.deck.aU;rw[z,h1] at e;cases e
  have smo:=pre.sep mo EN;have ht:∀ a∈[dk],∀ vs,H a≠some (.tup vs):=fun a ha vs e=>by
   rw[ET.mp ha] at e;obtain⟨xs,e'⟩:=pre.deck.aU;rw[e'] at e;cases e
  have o1:=pre.one.keep k1 ht (by simpa using kdk.symm) fun a ha=>by simpa using (pre.sep a ha).1
  refine bF fun N hN=>?_;walk_at "rz";simp only[aI o1.md.at'];refine kz (pl:=pl) (ids:=ids) o1.md.at' (by lia) (fun j a ha=>?_) (by lia) fun D hD=>?_
  ·obtain⟨i,r',e4,e5,v,e6,_⟩:=o1.md.ah.get ha;exact⟨i,_,e4,e6⟩
  have u2:KB [] H1 (upd H1 D (.lst (ids.map V.int))):=KB.new hD;have s2:upd H1 D (.lst (ids.map V.int)) D=some (.lst (ids.map V.int)):=ae;generalize upd H1 D (.lst (ids.map V.int))=H2 at *;refine⟨by decide,fun e1 he1=>?_⟩
  have u3:KB [] H2 (upd H2 e1 (.lst [V.int (-1)])):=KB.new he1;have s3:upd H2 e1 (.lst [V.int (-1)]) e1=some (.lst [V.int (-1)]):=ae;generalize upd H2 e1 (.lst [V.int (-1)])=H3 at *;simp only[L2.Ap.addRef,s3,u3 _ _ s2 (by simp)]
  refine⟨ES (show _<=100 by rw[EJ];simp;lia) (by decide),fun th hth=>?_⟩
  have u4:KB [] H3 (upd H3 th (.lst (ids.map V.int++[V.int (-1)]))):=KB.new hth;have s4:upd H3 th (.lst (ids.map V.int++[V.int (-1)])) th=some (.lst (ids.map V.int++[V.int (-1)])):=ae;generalize upd H3 th (.lst (ids.map V.int++[V.int (-1)]))=H4 at *;have u14:KB [] H1 H4:=(u2.trans u3).trans u4;have th1:H1 th=none:=(u2.trans u3).free (by simp) hth
  rw[hN];clear hN N;have o4:=o1.keep u14 (by simp) (by simp) (by simp)
  have d4:=d1.keep u14 (by simp) (by simp)
  obtain⟨dx4,b4,vr4,h4,r4⟩:=o4.kp;refine bF fun N hN=>?_;walk_at "rz";refine⟨k,dx4,_,rfl,h4,j6 (by decide +kernel) (by decide +kernel),?_⟩
  refine⟨k,dx4,b4,vr4,rows,p,rfl,h4,r4,by lia,by lia,by lia,fun _ H5 vr5 e5 r5 k5=>?_,fun no=>absurd ⟨by lia,by lia⟩ no⟩
  rw[hN];clear hN N;have k45:KB [k] H4 H5:=fun c o e n=>k5 c o e (by simpa using n)
  have kmo:k≠mo:=fun z=>by
   rw[z,pre.one.md.at'] at h1;cases h1
  have mo5:H5 mo=some (.lst (pl.map V.ref)):=k5 _ _ o4.md.at' kmo.symm;refine bF fun N hN=>?_;walk_at "rz";have hpl:p<pl.length:=by lia
  refine⟨.inl ⟨rfl,_,a_.of mo5⟩,mo,_,p,p,.ref pl[p],rfl,rfl,mo5,by lia,by lia,?_,?_,?_⟩
  ·rw[EJ];unfold seqIndex?;simp;lia
  ·rw[Fh,EK hpl];rfl
  rw[hN];clear hN N;rw[FF,<- GG,<- GH,<- Ff];have mo6:upd H5 mo (.lst ((pl.take p++pl.drop (p+1)).map V.ref)) mo=some (.lst ((pl.take p++pl.drop (p+1)).map V.ref)):=ae;have k56:KB [mo] H5 (upd H5 mo (.lst ((pl.take p++pl.drop (p+1)).map V.ref))):=KB.set (by simp)
  generalize upd H5 mo (.lst ((pl.take p++pl.drop (p+1)).map V.ref))=H6 at *;have all6:KB [dk,k,mo] H H6:=(((k1.mono (by simp)).trans u14.all).trans (k45.mono (by simp))).trans (k56.mono (by simp))
  have lists:∀ a∈[dk,k,mo],∀ vs,H a≠some (.tup vs):=fun a ha vs e=>by
   simp only[EG,EW,FI] at ha;rcases ha with rfl|rfl|rfl
   ·exact ht _ (by simp) vs e
   ·rw[h1] at e;cases e
   ·rw[pre.one.md.at'] at e;cases e
  have mnd:=EY.mp pre.one.md.nd;have ple:∀ a∈pl,a∉[dk,k,mo]:=fun a ha=>by
   obtain⟨xs,e⟩:=pre.one.md.aU a (ED _ ha);simp only[EG,EW,FI];rintro (z|z|z)
   ·exact (pre.sep a (ED _ ha)).1 z
   ·rw[z,h1] at e;cases e
   ·exact mnd.1 (z ▸ ha)
  have plk:∀ a∈pl,H6 a=H a:=fun a ha=>by
   obtain⟨xs,e⟩:=pre.one.md.aU a (ED _ ha);rw[e];exact all6 _ _ e (ple a ha)
  have i6:bp K H6 (cB (ids++[-1])) pl ids rows:=by
   have:=bp.to (f':=cB (ids++[-1])) (u:=id) (eN all6 lists) pre.one.md.ah plk fun r _=>⟨rfl,rfl⟩
   rwa [HK] at this
  obtain⟨cc,rg,ec,eg,vg,og,_⟩:=i6.get (EK hpl);have i6':=(i6.cut (p+1)).2.app (i6.cut p).1;clear i6;have th6:H6 th=some (.lst (ids.map V.int++[V.int (-1)])):=by
   refine k56 _ _ (k5 _ _ s4 fun z=>?_) fun z=>?_
   ·obtain⟨_,_,_,h,_⟩:=o1.kp;rw[z,h] at th1;cases th1
   ·rw[ET.mp z,o1.md.at'] at th1;cases th1
  have thp:th∉pl:=fun z=>by
   obtain⟨xs,e⟩:=o1.md.aU th (ED _ z);rw[th1] at e;cases e
  obtain⟨d,ed⟩:∃ d,(ids++[-1])[p+1]?=some d:=⟨_,EK (by rw[EU,Fe];lia)⟩
  have ath:bN (ids.map V.int++[V.int (-1)]) ((p:Int)+1)=some (.int d):=by
   rw[show ids.map V.int++[V.int (-1)]=(ids++[-1]).map V.int from (Ff (l₂:=[-1])).symm,show (p:Int)+1=((p+1:Nat):Int) from rfl];refine cA ?_;rw[Fh,ed];rfl
  have sub:∀ a∈pl.take p++pl.drop (p+1),a∈pl:=fun a ha=>by
   rcases Fn.mp ha with z|z
   ·exact FN z
   ·exact FO z
  have sl:(pl.take p++pl.drop (p+1)).Sublist pl:=by
   rw[<- FF];exact GZ ..
  have nd':=mnd.2.sublist sl;have npp:pl[p]∉pl.take p++pl.drop (p+1):=fun z=>by
   rcases Fn.mp z with z|z
   ·obtain⟨m,hm,em⟩:=Hw.mp z;have:=jF mnd.2 (by lia) hpl em
    lia
   ·obtain⟨m,hm⟩:=Hf z;rw[FA] at hm;obtain⟨hm1,hm2⟩:=EM.mp hm;have:=jF mnd.2 hm1 hpl hm2;lia
  generalize hpl':pl.take p++pl.drop (p+1)=pl' at *;generalize hids':ids.take p++ids.drop (p+1)=ids' at *;generalize hrows':rows.take p++rows.drop (p+1)=rows' at *;have tu6:∀ a∈pl',∀ vs,H6 a≠some (.tup vs):=fun a ha vs e=>by
   obtain⟨xs,e'⟩:=pre.one.md.aU a (ED _ (sub a ha));rw[plk a (sub a ha),e'] at e;cases e
  refine bF fun N hN=>?_;walk_at "rz";simp only[aI mo6];refine iV (xs:=pl'.map V.ref) (fun i σ H'=>∃ o,σ=[some (V.ref dk),some (V.ref k),some (V.ref mo),some (V.int (p:Nat)),some (V.ref th),some V.ay,some (V.ref pl[p]),o]/\KB pl' H6 H'/\bp K H' (fun r=>if cB (ids++[-1]) r=cc then d else cB (ids++[-1]) r) (pl'.take i) (ids'.take i) (rows'.take i)/\bp K H' (cB (ids++[-1])) (pl'.drop i) (ids'.drop i) (rows'.drop i)) ⟨none,rfl,KB.refl _ _,trivial,i6'⟩ ?_ ?_ ?_
  ·rintro i σ H' _ ⟨o,rfl,kk,_⟩;exact a_.of (kk _ _ mo6 fun z=>mnd.1 (sub _ z))
  ·rintro i x σ H7 ex ⟨o,rfl,kk,t7,d7⟩;rw[Fh] at ex
   cases ea:pl'[i]? with
   |none=>rw[ea] at ex;cases ex
   |some a =>
   rw[ea] at ex;cases ex;obtain⟨j,r,ej,er,v,o7,rv⟩:=d7.get (n:=0) (by rw[FA];exact ea)
   rw[FA] at ej er;have tk:=eN kk tu6;walk_at "rz";simp only[aI o7,aI (kk _ _ og npp),y4,ow,L2.Ap.se];refine⟨_,rfl,?_⟩;have go:∀ H8:Hp,(∀ b,b≠a->H8 b=H7 b)->H8 a=some (.lst [.int j,v,.int (if cB (ids++[-1]) r=cc then d else cB (ids++[-1]) r)])->KB pl' H6 H8/\bp K H8 (fun r=>if cB (ids++[-1]) r=cc then d else cB (ids++[-1]) r) (pl'.take (i+1)) (ids'.take (i+1)) (rows'.take (i+1))/\bp K H8 (cB (ids++[-1])) (pl'.drop (i+1)) (ids'.drop (i+1)) (rows'.drop (i+1)):=by
    intro H8 h8 o8;have t8:∀ b vs,H7 b=some (.tup vs)->H8 b=some (.tup vs):=fun b vs e=>by
     rw[h8 b fun z=>by rw[z,o7] at e;cases e];exact e
    have rv8:t9 K H8 a j r (if cB (ids++[-1]) r=cc then d else cB (ids++[-1]) r):=⟨v,o8,by
     rw[kZ] at rv ⊢;exact dJ (fun a vs e=>⟨t8 a vs e,id⟩) rv⟩
    refine⟨fun b o e n=>?_,bp.next (f2:=fun r=>if cB (ids++[-1]) r=cc then d else cB (ids++[-1]) r) ea ej er nd' t7 d7 h8 t8 rv8⟩
    rw[h8 b fun z=>n (z ▸ FL ea)];exact kk b o e n
   by_cases cg:cB (ids++[-1]) r=cc
   ·rw[EI (Fq cg)];simp only[aI (kk _ _ th6 fun z=>thp (sub _ z)),ath,o7];exact go (upd H7 a (.lst [.int j,v,.int d])) (fun b n=>af n) (by rw[EI cg];exact ae)
   ·rw[EB (by simpa using cg)]
    exact go H7 (fun b _=>rfl) (by rw[EB cg];exact o7)
  ·rintro σ H7 ⟨o,rfl,kk,t7,_⟩;rw[EJ] at t7;have l':pl'.length=ids'.length/\ids'.length=rows'.length:=i6'.len;rw[Gq,l'.1,Gq,l'.2,Gq] at t7;show N _ H7;rw[hN];clear hN N;walk_at "rz";have all7:KB (dk::k::mo::ia::pl) H H7:=(all6.mono (by simp)).trans (kk.mono fun b hb=>by simp[sub b hb])
   have k57:KB (mo::pl') H5 H7:=(k56.mono (by simp)).trans (kk.mono fun b hb=>ED _ hb)
   have ls5:∀ a∈mo::pl',∃ xs,H5 a=some (.lst xs):=fun a ha=>by
    rcases EG.mp ha with rfl|ha
    ·exact⟨_,mo5⟩
    ·obtain⟨xs,e⟩:=o4.md.aU a (ED _ (sub a ha));exact⟨xs,k5 _ _ e fun z=>ple a (sub a ha) (by simp[z])⟩
   have knm:k∉mo::pl':=fun z=>by
    obtain⟨xs,e⟩:=ls5 k z;rw[e5] at e;cases e
   have dnm:dk∉mo::pl':=fun z=>by
    rcases EG.mp z with z|z
    ·exact smo.1 z.symm
    ·exact (pre.sep dk (ED _ (sub _ z))).1 rfl
   refine q H7 c pl' ids' (dN rows p) (((d4.keep k45 (by simpa using kdk) fun a ha P e=>by rw[ET.mp ha,h4] at e;cases e).keep k57 dnm fun a ha P e=>by obtain⟨xs,e'⟩:=ls5 a ha;rw[e'] at e;cases e).mono (by lia)) ⟨⟨dx4,b4,vr5,k57 _ _ e5 knm,aK (fun a vs e=>⟨eN k57 (fun a ha vs e=>by obtain⟨xs,e'⟩:=ls5 a ha;rw[e'] at e;cases e) a vs e,id⟩) r5⟩,?_,?_⟩ ?_ ?_ (by lia) (by lia) (fun i hi=>?_) (fun a ha=>.inl (sub a ha)) all7
   ·rw[<- hpl',<- hids'];rw[<- hpl',<- hids',<- hrows'] at t7;exact pre.one.md.take pre.one.mm (by lia) ec ed (by rw[hpl'];exact kk _ _ mo6 fun z=>mnd.1 (sub _ z)) t7
   ·rw[<- hids'];exact pre.one.mm.take (by lia)
   ·unfold dN;simp;lia
   ·refine all6 _ _ pre.at' ?_ |> fun e=>kk _ _ e fun z=>(pre.sep ia (ED _ (sub _ z))).2 rfl;simp only[EG,EW,FI];rintro (z|z|z)
    ·exact pre.di z.symm
    ·have e:=pre.at';rw[z,h1] at e;cases e
    ·exact smo.2 z.symm
   ·rw[<- hids'] at hi;rcases Fn.mp hi with z|z
    ·exact pre.le _ (FN z)
    ·exact pre.le _ (FO z)
noncomputable def mw(K:Ih)(C:Addr):Sp:=fun vs H Q _=>∃ dk k mo ia pl ids rows n c,vs=[.ref dk,.ref k,.ref mo,.ref ia]/\Pre K C H dk k mo ia pl ids rows n c/\n<2^29/\rows.length<=60/\zE K C H dk k mo ia pl (n+1) c 60 Q
theorem Pre.draw{H1:Hp}{ia:Addr}{rows:List ai}{c:Nat}(pre:Pre K C H dk k mo ia pl ids rows n c)(k1:KB [dk] H H1)(d1:gI K H1 dk m)(hn:m<2^30):Pre K C H1 dk k mo ia pl ids rows m c:=by
 have kdk:k≠dk:=fun z=>by
  obtain⟨xs,e⟩:=pre.deck.aU;obtain⟨dx,b,vr,h1,_⟩:=pre.one.kp;rw[<- z,h1] at e;cases e
 refine⟨d1,hn,pre.one.keep k1 (fun a ha vs e=>?_) (by simpa using kdk) fun a ha=>by simpa using (pre.sep a ha).1,k1 _ _ pre.at' (by simpa using pre.di.symm),pre.hc,pre.le,pre.di,pre.sep⟩
 rw[ET.mp ha] at e;obtain⟨xs,e'⟩:=pre.deck.aU;rw[e'] at e;cases e
theorem zE.draw{H1:Hp}{ia:Addr}{c M M':Nat}(q:zE K C H dk k mo ia pl n c M Q)(hM:M'<=M)(hm:m<=n)(k1:KB [dk] H H1)(hd:∃ o,H1 dk=some o):zE K C H1 dk k mo ia pl m c M' Q:=by
 intro H' c' pl' ids' rows' h1 h2 h3 h4 h45 h5 h6 h7 h8;refine q H' c' pl' ids' rows' (h1.mono (by lia)) h2 (ES h3 hM) h4 h45 h5 h6 (fun a ha=>(h7 a ha).imp id fun e=>k1.free (fun z=>by
  rw[ET.mp z] at e;obtain⟨o,e'⟩:=hd;rw[e'] at e;cases e) e) ((k1.mono (by simp)).trans h8)
theorem uz(T:Txt K mg)(h_law_draw:k0z P w K mg base)(h_law_put:aj P w K mg base aW 6 "_law_put" ["deck","kept","model","ids"] (jV K C))(h_law_take:aj P w K mg base aW 6 "_law_take" ["deck","kept","model"] (n8 K C))(F:HasFn K mg "_law_deed" cR ["deck","kept","model","ids"]):aj P w K mg base aW 7 "_law_deed" ["deck","kept","model","ids"] (mw K C):=by
 refine F.C1 jT (fun vs H Q E h=>?_) (fun f cdv A outer s H vs Q E hr h=>?_)
 ·obtain⟨dk,k,mo,ia,pl,ids,rows,n,c,rfl,_⟩:=h;rfl
 ·obtain⟨dk,k,mo,ia,pl,ids,rows,n,c,rfl,pre,h29,h60,q⟩:=h;have hu:=bz hr;refine⟨_,(Z.ao (Z.fh (Z.tw (Z.tY (Z.aZ jG (Z.cb (Z.iN K rfl) rfl T.cw (by decide +kernel) (Z.cons (Z.v 2) Z.nil)) Z.int) (Z.j3 (Z.tw (Z.tO (Z.aZ (Y.y2 K rfl (EZ hu)) (Z.v 2) (Z.lst Z.nil)) (Z.nN (Z.aZ jG (Z.fn h_law_draw (hr.mono (by decide)) rfl au (Z.cons (Z.v 0) (Z.cons Z.int Z.nil))) Z.int))))))) (Z.aE (Z.ret (Z.fn h_law_take (hr.mono (by decide)) rfl au (Z.cons (Z.v 0) (Z.cons (Z.v 1) (Z.cons (Z.v 2) Z.nil)))))) Z.bM)
   (Z.aE (Z.ret (Z.fn h_law_put (hr.mono (by decide)) rfl au (Z.cons (Z.v 0) (Z.cons (Z.v 1) (Z.cons (Z.v 2) (Z.cons (Z.v 3) Z.nil)))))))),?_⟩
  have hmo:sq H mo=some (true,pl.map V.ref):=aI pre.one.md.at';have hlen:=pre.one.len;refine bF fun N hN=>?_;walk_at "rz";simp only[hmo,EJ,L2.Ap.se];have hdk:∃ o,H dk=some o:=by obtain⟨xs,e⟩:=pre.deck.aU;exact⟨_,e⟩
  have hn:=pre.hn;by_cases c60:((pl.length:Nat):Int)=60
  ·rw[EI c60];exact⟨dk,k,mo,ia,pl,ids,rows,n,c,rfl,pre,by lia,by lia,q.draw (by lia) (by lia) (KB.refl _ _) hdk⟩
  ·rw[EB c60];refine⟨Fo _,fun e0 he0=>?_⟩;have k1:KB [dk] H (upd H e0 (.lst [])):=KB.new he0;have z1:upd H e0 (.lst []) e0=some (.lst []):=ae;have d1:=pre.deck.keep (KB.new (ex:=[]) (o:=.lst []) he0) (by simp) (by simp)
   generalize upd H e0 (.lst [])=H1 at *;have p1:=pre.draw k1 d1 hn;have q1:=q.draw (EH _) (EH _) k1 (by obtain⟨xs,e⟩:=d1.aU;exact⟨_,e⟩)
   have put:∀{H2:Hp} {m:Nat},m<=n+1->Pre K C H2 dk k mo ia pl ids rows m c->zE K C H2 dk k mo ia pl (n+1) c 60 Q->N [some (V.ref dk),some (V.ref k),some (V.ref mo),some (V.ref ia)] H2:=by
    intro H2 m hm p2 q2;rw[hN];clear hN N;walk_at "rz";exact⟨dk,k,mo,ia,pl,ids,rows,m,c,rfl,p2,by lia,q2.draw (by lia) hm (KB.refl _ _) (by obtain⟨xs,e⟩:=p2.deck.aU;exact⟨_,e⟩)⟩
   refine⟨mo,e0,_,rfl,rfl,a_.of p1.one.md.at',a_.of z1,_,rfl,?_⟩;by_cases c0:pl=[]
   ·rw[EB (by rw[c0];decide)]
    exact put (by lia) p1 q1
   ·rw[EI (by cases pl with|nil=>exact absurd rfl c0|cons=>rfl)]
    refine bO d1 (by lia) (by decide) (by decide) fun v H2 v0 v1 k2 d2=>?_
    have p2:=p1.draw k2 d2 (by lia)
    have q2:=q1.draw (EH _) (EH _) k2 (by obtain⟨xs,e⟩:=d2.aU;exact⟨_,e⟩)
    simp only[L2.Ap.se];refine⟨_,rfl,?_⟩;by_cases cv:v=0
    ·rw[EI (Fq cv)];exact⟨dk,k,mo,ia,pl,ids,rows,n+1,c,rfl,p2,by cases pl with|nil=>exact absurd rfl c0|cons=>rw[E_] at hlen;lia,by lia,q2.draw (by lia) (EH _) (KB.refl _ _) (by obtain⟨xs,e⟩:=d2.aU;exact⟨_,e⟩)⟩
    ·rw[EB (by simpa using cv)]
     exact put (EH _) p2 q2
noncomputable def jH(K:Ih)(C:Addr):Sp:=fun vs H Q _=>∃(kk mm k0 k1 mo0 mo1:Addr) (pl0 pl1:List Addr) (ids0 ids1:List Int) (rows0 rows1:List ai) (f:Int),vs=[.ref kk,.ref mm,.int f]/\(f=0\/f=1)/\H kk=some (.lst [.ref k0,.ref k1])/\H mm=some (.lst [.ref mo0,.ref mo1])/\One K C H k0 mo0 pl0 ids0 rows0/\One K C H k1 mo1 pl1 ids1 rows1/\rows0.length<=60/\rows1.length<=60/\∀ H',KB [] H H'->Q (.bl true) H'
theorem vj(rows:List ai):Dp 3 (aH rows):=by
 refine .inr ⟨_,rfl,fun u hu=>?_⟩;obtain⟨r,_,rfl⟩:=FK.mp hu;refine .inr ⟨_,rfl,fun u hu=>?_⟩;obtain⟨x,_,rfl⟩:=FK.mp hu
 cases x<;>exact .inl trivial
theorem yd:∀{ids:List Int} {rows:List ai} {x:It},x∈List.zipWith (eH th) ids rows->∃ i r,r∈rows/\x=eH th i r:=by
 intro ids
 induction ids with
 |nil=>intro rows x h;cases h
 |cons a ids ih =>
  intro rows x h
  cases rows with
  |nil=>cases h
  |cons r rows =>
   rcases EG.mp h with rfl|h
   ·exact⟨a,r,EN,rfl⟩
   ·obtain⟨i,r',h1,h2⟩:=ih h;exact⟨i,r',ED _ h1,h2⟩
theorem xO{rows:List ai}(h:One K C H k mo pl ids rows)(h60:rows.length<=60)(q:∀(v:V) (H':Hp),KB [] H H'->Rep K H' (fun _=>False) v (aH rows)->Q v H'):spT K [false] xY [.ref mo] H Q E:=by
 refine⟨fun _=>False,[.lst ((f9 ids rows).map It.t)],fun r _=>r=.tr (aH rows),⟨h.md.rep (fun _ _ _ z=>z) (fun _ _ z=>z),trivial⟩,fun _ z=>z.elim,Fs,⟨f9 ids rows,rfl,by rw[uY h.mm];lia,fun x hx=>?_,?_⟩,?_⟩
 ·rw[nV h.mm];obtain⟨i,r,hr,rfl⟩:=yd hx;exact⟨ES (ya r) (by decide),fun c=>u0 (h.mm.zP r hr) c⟩
 ·show R.tr _=R.tr _;rw[ve h.mm];rfl
 ·rintro v H' _ _ rfl kp ⟨rv,_⟩;exact q v H' (fun b o e _=>kp b o e (by simp[iS])) rv
theorem vR{x y:V}{rows:List ai}(h1:Rep K H (fun _=>False) x (aH rows))(h2:Rep K H (fun _=>False) y (aH rows))(q:∀ H',KB [] H H'->Q (.bl true) H'):spT K [false,false] (nH 3) [x,y] H Q E:=by
 refine⟨fun _=>False,[aH rows,aH rows],fun r _=>r=.tr (.bl true),⟨h1,h2,trivial⟩,fun _ z=>z.elim,Fs,⟨_,rfl,vj rows,rfl⟩,?_⟩;rintro v H' _ _ rfl kp ⟨rv,_⟩;obtain rfl:=Rep.pQ rv;exact q H' (fun b o e _=>kp b o e (by simp[iS]))
theorem rF{CR:Addr}(T:Txt K mg)(M:KM P w K mg base C CR)(h_law_due:aj P w K mg base aW 1 "_law_due" ["model"] (spT K [false] xY))(h_law_same:k5z P w K mg base)(F:HasFn K mg "_law_right" cx ["kepts","models","first"]):aj P w K mg base aW 7 "_law_right" ["kepts","models","first"] (jH K C):=by
 obtain⟨f_t,d_t,mm_program,FO_program,bm_program⟩:=M.prog;have cM:=M.cM;refine F.C1 eD (fun vs H Q E h=>?_) (fun f cdv A outer s H vs Q E hr h=>?_)
 ·obtain⟨kk,mm,k0,k1,mo0,mo1,pl0,pl1,ids0,ids1,rows0,rows1,f,rfl,_⟩:=h;rfl
 ·obtain⟨kk,mm,k0,k1,mo0,mo1,pl0,pl1,ids0,ids1,rows0,rows1,fi,rfl,hf,hkk,hmm,o0,o1,h0,h1,q⟩:=h;have hu:=bz hr;refine⟨_,(Z.ao (Z.kY Gw rfl (Z.any K rfl (Z.lst (Z.cons (Z.v 2) (Z.cons (Z.op dO Z.int (Z.v 2)) Z.nil)))) (Z.bW (i:=3) eD.nd rfl (by right)) (Z.aE (Z.fh (Z.iD (Z.j7 K rfl (Z.fn h_law_same (hr.mono (by decide)) rfl au (Z.cons (Z.Bk K rfl (Z.ix (Z.c_ K rfl hu) (Z.v 0) (Z.v 3)) cM mm_program FO_program (hr.mono (by decide)) bm_program au) (Z.cons (Z.fn h_law_due (hr.mono (by decide)) rfl au (Z.cons (Z.ix (Z.c_ K rfl hu) (Z.v 1) (Z.v 3)) Z.nil)) Z.nil))))) (Z.aE (Z.ret Z.bl)) Z.bM)))
   (Z.aE (Z.ret Z.bl))),?_⟩
  refine bF fun N hN=>?_;walk_at "rz";refine⟨by decide,fun l hl=>?_⟩
  have u1:KB [] H (upd H l (.lst [V.int fi,V.int (1-fi)])):=KB.new hl;have l1:upd H l (.lst [V.int fi,V.int (1-fi)]) l=some (.lst [V.int fi,V.int (1-fi)]):=ae;generalize upd H l (.lst [V.int fi,V.int (1-fi)])=H1 at *;refine iV (xs:=[V.int fi,V.int (1-fi)]) (fun i σ H'=>∃ o,σ=[some (V.ref kk),some (V.ref mm),some (V.int fi),o]/\KB [] H1 H') ⟨none,rfl,KB.refl _ _⟩ ?_ ?_ ?_
  ·rintro i σ H' _ ⟨o,rfl,k⟩;exact a_.of (k _ _ l1 (by simp))
  ·rintro i x σ H2 ex ⟨o,rfl,k2⟩;obtain⟨j,rfl,k,mo,pl,ids,rows,ek,em,on,hr60⟩:∃ j,x=V.int j/\∃ k mo pl ids rows,bN [V.ref k0,V.ref k1] j=some (V.ref k)/\bN [V.ref mo0,V.ref mo1] j=some (V.ref mo)/\One K C H k mo pl ids rows/\rows.length<=60:=by
    have:x=.int fi\/x=.int (1-fi):=by
     rcases i with _|_|i
     ·cases ex;exact .inl rfl
     ·cases ex;exact .inr rfl
     ·cases ex
    have:x=.int 0\/x=.int 1:=by rcases this with rfl|rfl<;>rcases hf with rfl|rfl<;>first|exact .inl rfl|exact .inr rfl
    rcases this with rfl|rfl
    ·exact⟨0,rfl,k0,mo0,pl0,ids0,rows0,rfl,rfl,o0,h0⟩
    ·exact⟨1,rfl,k1,mo1,pl1,ids1,rows1,rfl,rfl,o1,h1⟩
   have k02:=u1.trans k2;have on2:=on.keep k02 (by simp) (by simp) (by simp)
   obtain⟨dx,b,vr,e1,e2⟩:=on2.kp;walk_at "rz";simp only[aI (k02 _ _ hkk (by simp)),ek]
   refine⟨k,dx,_,rfl,e1,j6 (by decide +kernel) (by decide +kernel),k,dx,b,vr,rfl,e1,?_⟩
   simp only[aI (k02 _ _ hmm (by simp)),em]
   refine xO on2 hr60 fun v H3 k3 r3=>vR (aK (fun a vs e=>⟨k3 _ _ e (by simp),id⟩) e2) r3 fun H4 k4=>⟨true,rfl,?_⟩
   rw[EB (by decide)]
   exact k2.trans (k3.trans k4)
  ·rintro σ H2 ⟨o,rfl,k2⟩;show N _ H2;rw[hN];clear hN N;walk_at "rz";exact q H2 (u1.trans k2)
noncomputable def AX(C CR:Addr):zJ:=fun args _ Et=>∃(k b:Addr) (rows:List ai) (place:Int) (r:ai),args=[.ins k C ["book","rows"] [.adr b,aH rows],.int place,r.t]/\rows.length<=100/\-10000000<place/\place<10000000/\(∀ g,bq r=some g->-10000000<g/\g<10000000)/\¬ f7 rows place r/\Et (.exc (.ref CR) none)
noncomputable def yO(C CR:Addr):zJ:=fun args _ Et=>∃(k b:Addr) (rows:List ai) (place:Int),args=[.ins k C ["book","rows"] [.adr b,aH rows],.int place]/\rows.length<=100/\-10000000<place/\place<10000000/\¬ (0<=place/\place<rows.length)/\Et (.exc (.ref CR) none)
theorem pY{v:V}{b:Addr}{rows:List ai}(h:Rep K H B v (.ins k C ["book","rows"] [.adr b,aH rows])):v=.ref k/\∃ dx vr,H k=some (.ins C dx [("book",.ref b),("rows",vr)])/\Rep K H (fun _=>False) vr (aH rows):=by
 cases h with
 |ins n h l r =>
  obtain⟨v1,ws,rfl,r1,r⟩:=r.aC;obtain⟨v2,ws,rfl,r2,r⟩:=r.aC;obtain rfl:=r.cI;cases r1;exact⟨rfl,_,v2,h,r2.fr (Fr.less fun _ z=>z.elim)⟩
theorem As{CR:Addr}(vs:List V)(H:Hp)(Q:VK)(E:XK)(h:DF K [false,false,false] (AX C CR) vs H Q E):nq K C CR vs H Q E:=by
 obtain⟨Et,⟨B,args,Qt,ag,hB,nd,⟨k,b,rows,place,r,rfl,h1,h2,h3,h4,no,het⟩,_⟩,hx⟩:=h;obtain⟨v1,v2,v3,rfl⟩:=Y.tG ag.len.1;obtain⟨r1,r2,r3,_⟩:=ag;obtain⟨rfl,dx,vr,hk,rr⟩:=pY r1;obtain rfl:=Rep.bf r2;exact⟨k,dx,b,vr,v3,rows,place,r,rfl,hk,rr,r3.fr (Fr.less fun _ z=>z.elim),h1,h2,h3,h4,fun ok=>absurd ok no,fun _ e H' keep he=>hx (.exc (.ref CR) none) (.ref CR) none e H' het (fun b o e _=>keep b o e) ⟨he,rfl,rfl⟩⟩
theorem yo{CR:Addr}(vs:List V)(H:Hp)(Q:VK)(E:XK)(h:DF K [false,false] (yO C CR) vs H Q E):j0 K C CR vs H Q E:=by
 obtain⟨Et,⟨B,args,Qt,ag,hB,nd,⟨k,b,rows,place,rfl,h1,h2,h3,no,het⟩,_⟩,hx⟩:=h;obtain⟨v1,v2,rfl⟩:=Y.lC ag.len.1;obtain⟨r1,r2,_⟩:=ag;obtain⟨rfl,dx,vr,hk,rr⟩:=pY r1;obtain rfl:=Rep.bf r2;exact⟨k,dx,b,vr,rows,place,rfl,hk,rr,h1,h2,h3,fun ok=>absurd ok no,fun _ e H' keep he=>hx (.exc (.ref CR) none) (.ref CR) none e H' het (fun b o e _=>keep b o e) ⟨he,rfl,rfl⟩⟩
noncomputable def yr(C:Addr):fT:=fun args Q=>∃(d:L2.T) (n:Nat) (k b:Addr) (rows:List ai),args=[d,.ins k C ["book","rows"] [.adr b,aH rows],.int (rows.length:Nat)]/\cq n d/\n<2^30/\rows.length<=60/\∀ d',cq (n+20) d'->Q (.tr (.bl true)) [d']
theorem mq{C:Addr}(T:Txt K mg)(M:∀ CR,mg "NoRow"=some (.ref CR)->KM P w K mg base C CR)(h_law_draw:k0z P w K mg base)(h_law_row:k2z P w K mg base)(F:HasFn K mg "_law_refused" bT ["deck","kept","many"]):aj P w K mg base aW 7 "_law_refused" ["deck","kept","many"] (spT K [true,false,false] (yr C)):=by
 obtain⟨C_ShortError,C_NoRow,C_NoAsk,C_NoBits,C_NoCode,C_NoProgram,C_NoReach,hC_ShortError,hC_NoRow,hC_NoAsk,hC_NoBits,hC_NoCode,hC_NoProgram,hC_NoReach,kC_ShortError,kC_NoRow,xC_NoRow,p0,p1,p2,p3⟩:=T.xs;have M:=M _ hC_NoRow;have cM:=M.cM;obtain⟨f_p,d_p,mm_put_in,fp,bm_put_in⟩:=M.put;obtain⟨f_t,d_t,mm_take_out,ft,bm_take_out⟩:=M.take;have FX_put_in:=fp.imp (As (K:=K) (C:=C) (CR:=C_NoRow));have FX_take_out:=ft.imp (yo (K:=K) (C:=C) (CR:=C_NoRow));refine F.lA aL [true,false,false] rfl (by decide) ?_;left;obtain⟨d,n,k,b,rows,rfl,hd,hn,h60,q⟩:=h;refine⟨_,(Y.C9 (Y.fM (Y.zO (Y.set (i:=3) aL.nd rfl (by right) (Y.fn K rfl h_law_draw (hr.mono (by decide)) rfl au (Y.cons (Y.vS 0) (Y.cons Y.int Y.nil)))))
   (Y.fM (Y.zO (Y.fh (Y.aZ (Y.bj K rfl (EZ hu)) Y.bV (Y.vS 2) Y.int) (Y.aE (Y.set (i:=3) aL.nd rfl (by right) (Y.op (Y.ar K rfl) Y.aq Y.int (Y.op dq Y.bS (Y.vS 3) Y.int)))) Y.bM))
   (Y.fM (Y.zO (Y.set (i:=4) aL.nd rfl (by right) (Y.op (Y.ar K rfl) Y.aq Y.int (Y.fn K rfl h_law_draw (hr.mono (by decide)) rfl au (Y.cons (Y.vS 0) (Y.cons (Y.ix (Y.cX K rfl) Y.aT (Y.lst (Y.cons Y.int (Y.cons (Y.op sL Y.bS Y.int Y.int) Y.nil))) (Y.fn K rfl h_law_draw (hr.mono (by decide)) rfl au (Y.cons (Y.vS 0) (Y.cons Y.int Y.nil)))) Y.nil))))))
   (Y.fM (Y.zO (Y.set (i:=5) aL.nd rfl (by right) Y.ay))
   (Y.fM (Y.y8 (i:=6) K rfl rfl hC_ShortError kC_ShortError rfl rfl rfl rfl aL.nd rfl rfl (fun _ _=>(Y.bL (Y.i8 (Y.aZ (Y.bj K rfl (EZ hu)) Y.bV (Y.vS 3) Y.int) (Y.bL (Y.gb (Y.fY K rfl (Y.vS 1) cM mm_put_in FX_put_in (hr.mono (by decide)) bm_put_in rfl (Y.cons (Y.op (Y.ar K rfl) Y.aq (Y.vS 2) (Y.vS 4)) (Y.cons (Y.fn K rfl h_law_row (hr.mono (by decide)) rfl au (Y.cons (Y.vS 0) (Y.cons (Y.op (Y.ar K rfl) Y.aq (Y.vS 2) Y.int) Y.nil))) Y.nil))))) (Y.bL (Y.i8 (Y.aZ (Y.bj K rfl (EZ hu)) Y.bV (Y.vS 3) Y.int) (Y.bL (Y.gb (Y.fY K rfl (Y.vS 1) cM mm_put_in FX_put_in (hr.mono (by decide)) bm_put_in rfl (Y.cons (Y.op dO Y.dy Y.int (Y.vS 4)) (Y.cons (Y.fn K rfl h_law_row (hr.mono (by decide)) rfl au (Y.cons (Y.vS 0) (Y.cons (Y.op (Y.ar K rfl) Y.aq (Y.vS 2) Y.int) Y.nil))) Y.nil))))) (Y.bL (Y.i8 (Y.aZ (Y.bj K rfl (EZ hu)) Y.bV (Y.vS 3) Y.int) (Y.bL (Y.gb (Y.fY K rfl (Y.vS 1) cM mm_put_in FX_put_in (hr.mono (by decide)) bm_put_in rfl (Y.cons (Y.fn K rfl h_law_draw (hr.mono (by decide)) rfl au (Y.cons (Y.vS 0) (Y.cons (Y.op (Y.ar K rfl) Y.aq (Y.vS 2) Y.int) Y.nil))) (Y.cons (Y.tup (Y.cons Y.str (Y.cons (Y.op (Y.ar K rfl) Y.aq (Y.op (Y.ar K rfl) Y.aq (Y.vS 2) Y.int) (Y.vS 4)) Y.nil))) Y.nil))))) (Y.bL (Y.i8 (Y.aZ (Y.bj K rfl (EZ hu)) Y.bV (Y.vS 3) Y.int) (Y.bL (Y.gb (Y.fY K rfl (Y.vS 1) cM mm_put_in FX_put_in (hr.mono (by decide)) bm_put_in rfl (Y.cons (Y.fn K rfl h_law_draw (hr.mono (by decide)) rfl au (Y.cons (Y.vS 0) (Y.cons (Y.op (Y.ar K rfl) Y.aq (Y.vS 2) Y.int) Y.nil))) (Y.cons (Y.tup (Y.cons Y.str (Y.cons Y.str (Y.cons (Y.op (Y.ar K rfl) Y.aq (Y.op (Y.ar K rfl) Y.aq (Y.vS 2) Y.int) (Y.vS 4)) Y.nil)))) Y.nil))))) (Y.bL (Y.i8 (Y.aZ (Y.bj K rfl (EZ hu)) Y.bV (Y.vS 3) Y.int) (Y.bL (Y.gb (Y.fY K rfl (Y.vS 1) cM mm_put_in FX_put_in (hr.mono (by decide)) bm_put_in rfl (Y.cons (Y.fn K rfl h_law_draw (hr.mono (by decide)) rfl au (Y.cons (Y.vS 0) (Y.cons (Y.op (Y.ar K rfl) Y.aq (Y.vS 2) Y.int) Y.nil))) (Y.cons (Y.tup (Y.cons Y.str (Y.cons (Y.op dO Y.dy Y.int (Y.vS 4)) Y.nil))) Y.nil))))) (Y.bL (Y.i8 (Y.aZ (Y.bj K rfl (EZ hu)) Y.bV (Y.vS 3) Y.int) (Y.bL (Y.gb (Y.fY K rfl (Y.vS 1) cM mm_put_in FX_put_in (hr.mono (by decide)) bm_put_in rfl (Y.cons (Y.fn K rfl h_law_draw (hr.mono (by decide)) rfl au (Y.cons (Y.vS 0) (Y.cons (Y.op (Y.ar K rfl) Y.aq (Y.vS 2) Y.int) Y.nil))) (Y.cons (Y.tup (Y.cons Y.str (Y.cons Y.str (Y.cons (Y.op dO Y.dy Y.int (Y.vS 4)) Y.nil)))) Y.nil))))) (Y.bL (Y.i8 (Y.aZ (Y.bj K rfl (EZ hu)) Y.bV (Y.vS 3) Y.int) (Y.bL (Y.gb (Y.fY K rfl (Y.vS 1) cM mm_take_out FX_take_out (hr.mono (by decide)) bm_take_out rfl (Y.cons (Y.op (Y.ar K rfl) Y.aq (Y.op dO Y.dy (Y.vS 2) Y.int) (Y.vS 4)) Y.nil)))) (Y.bL (Y.gb (Y.fY K rfl (Y.vS 1) cM mm_take_out FX_take_out (hr.mono (by decide)) bm_take_out rfl (Y.cons (Y.op dO Y.dy Y.int (Y.vS 4)) Y.nil))))))))))))))))))) (fun _=>(Y.aE (Y.set (i:=5) aL.nd rfl (by right) (Y.vS 6)))))
   (Y.fM (Y.zO (Y.fh (Y.kJ K rfl (Y.CY (ds:=[C_NoAsk,C_NoBits,C_NoCode,C_NoProgram,C_NoReach]) K rfl rfl T.aN (Y.vS 5) (Z.cons (Z.glob (w:=.ref C_NoAsk) rfl hC_NoAsk rfl) (Z.cons (Z.glob (w:=.ref C_NoBits) rfl hC_NoBits rfl) (Z.cons (Z.glob (w:=.ref C_NoCode) rfl hC_NoCode rfl) (Z.cons (Z.glob (w:=.ref C_NoProgram) rfl hC_NoProgram rfl) (Z.cons (Z.glob (w:=.ref C_NoReach) rfl hC_NoReach rfl) Z.nil))))) (fun _ _ _ h=>h) (HR rfl))) (Y.aE (Y.ret Y.bl)) Y.bM))
   (Y.bL (Y.zO (Y.ret (Y.and (Y.AF (y:=.ref C_NoRow) (c:=.ref C_NoRow) K rfl rfl T.aN (Y.vS 5) (Z.glob rfl hC_NoRow rfl) (fun _ h=>h)) (Y.one (Y.AF (y:=.ty "ValueError") (c:=.type "ValueError") K rfl rfl T.aN (Y.vS 5) (Z.Eh rfl T.j4 (by decide +kernel)) (fun _ h=>h)))))))))))))),?_⟩
 refine oP fun N hN=>?_;rfl';refine⟨d,8,n,rfl,hd,by lia,by decide,by decide,fun w0 d1 w00 w01 hd1=>?_⟩
 rfl';rw[hN];clear hN N;refine oP fun N hN=>?_;have go:∀ w1:Int,0<=w1->w1<8->(rows.length=60->6<=w1)->N [.pb d1,.tr (.ins k C ["book","rows"] [.adr b,aH rows]),.tr (.int (rows.length:Nat)),.tr (.int w1),.un,.un,.un]:=by
  intro w1 w10 w18 w16;rw[hN];clear hN N;refine oP fun N hN=>?_;rfl';refine⟨⟨by decide,by decide,by decide⟩,by decide,d1,2,n+1,rfl,hd1,by lia,by decide,by decide,fun c d2 c0 c1 hd2=>?_⟩
  obtain⟨m,em,m0,m8⟩:∃ m:Int,bN [L2.T.int 2,.int 1000000] c=some (.int m)/\0<m/\m<=1000000:=by
   have:c=0\/c=1:=by lia
   rcases this with rfl|rfl
   ·exact⟨2,rfl,by decide,by decide⟩
   ·exact⟨1000000,rfl,by decide,by decide⟩
  exists em;refine⟨d2,m,n+2,rfl,hd2,by lia,m0,by lia,fun f0 d3 f00 f01 hd3=>?_⟩
  rfl';obtain⟨far,ef⟩:∃ far,far=1+f0:=⟨_,rfl⟩;have hf:1<=far/\far<=1000000:=by lia
  rw[<- ef,hN];clear hN N ef f00 f01 hd1 hd2 em m0 m8 c0 c1 c d1 d2 f0 m w0 w00 w01 hd hl d;refine oP fun N hN=>?_;rfl';rw[hN];clear hN N;refine oP fun N hN=>?_;have caught:∀ d5,cq (n+20) d5->N [.pb d5,.tr (.ins k C ["book","rows"] [.adr b,aH rows]),.tr (.int (rows.length:Nat)),.tr (.int w1),.tr (.int far),.tr (.exc (.ref C_NoRow) none),.un]:=fun d5 h5=>by
   rw[hN];clear hN N;refine oP fun N hN=>?_;exists p3;refine⟨⟨_,rfl,xC_NoRow⟩,?_⟩;rw[hN];clear hN N;exists p1,p2;exact⟨⟨_,rfl,xC_NoRow⟩,⟨_,rfl,xC_NoRow⟩,q _ h5⟩
  have b1:dP 1=Str.ofString "b":=by decide +kernel
  have b7:dP 7=Str.ofString "h":=by decide +kernel
  have nP:¬ (Str.ofString "put_in"=Str.ofString "book"\/Str.ofString "put_in"=Str.ofString "rows"):=by decide +kernel
  have nT:¬ (Str.ofString "take_out"=Str.ofString "book"\/Str.ofString "take_out"=Str.ofString "rows"):=by decide +kernel
  have hg0:∀(r:Row) (g:Int),r.Ok (rows.length+1)->bq (pN r)=some g->-10000000<g/\g<10000000:=fun r g h e=>by
   cases r<;>cases e
   ·have:_<=rows.length+1:=h;lia
   ·have:=h.2;lia
  by_cases x0:w1=0
  ·exists EI x0;refine⟨nP,d3,rows.length+1,n+3,rfl,hd3,by lia,by lia,fun r d4 hr0 hd4=>?_⟩
   rfl';exact⟨k,b,rows,_,pN r,by rw[me],by lia,by lia,by lia,fun g e=>hg0 r g hr0 e,fun h=>by have:=h.2.1;lia,⟨⟨_,rfl,kC_NoRow,p0⟩,caught d4 (hd4.mono (by lia))⟩⟩
  by_cases x1:w1=1
  ·exists EB x0,EI x1;refine⟨nP,d3,rows.length+1,n+3,rfl,hd3,by lia,by lia,fun r d4 hr0 hd4=>?_⟩
   rfl';exact⟨k,b,rows,_,pN r,by rw[me],by lia,by lia,by lia,fun g e=>hg0 r g hr0 e,fun h=>by have:=h.1;lia,⟨⟨_,rfl,kC_NoRow,p0⟩,caught d4 (hd4.mono (by lia))⟩⟩
  by_cases x2:w1=2
  ·exists EB x0,EB x1,EI x2;refine⟨nP,d3,(rows.length:Int)+1,n+3,rfl,hd3,by lia,by lia,by lia,fun pl d4 pl0 pl1 hd4=>?_⟩
   rfl';refine⟨by decide,k,b,rows,_,.jump ((rows.length:Nat)+1+far),rfl,by lia,by lia,by lia,fun g e=>by cases e;lia,fun h=>by have:=h.2.2 _ rfl;lia,⟨⟨_,rfl,kC_NoRow,p0⟩,caught d4 (hd4.mono (by lia))⟩⟩
  by_cases x3:w1=3
  ·exists EB x0,EB x1,EB x2,EI x3;refine⟨nP,d3,(rows.length:Int)+1,n+3,rfl,hd3,by lia,by lia,by lia,fun pl d4 pl0 pl1 hd4=>?_⟩
   rfl';refine⟨by decide,k,b,rows,_,.zero 1 ((rows.length:Nat)+1+far),by rw[show (ai.zero 1 ((rows.length:Nat)+1+far)).t=.tup [.str "zero",.str (dP 1),.int ((rows.length:Nat)+1+far)] from rfl,b1],by lia,by lia,by lia,fun g e=>by cases e;lia,fun h=>by have:=h.2.2 _ rfl;lia,⟨⟨_,rfl,kC_NoRow,p0⟩,caught d4 (hd4.mono (by lia))⟩⟩
  by_cases x4:w1=4
  ·exists EB x0,EB x1,EB x2,EB x3,EI x4;refine⟨nP,d3,(rows.length:Int)+1,n+3,rfl,hd3,by lia,by lia,by lia,fun pl d4 pl0 pl1 hd4=>?_⟩
   rfl';refine⟨by decide,k,b,rows,_,.jump (0-far),rfl,by lia,by lia,by lia,fun g e=>by cases e;lia,fun h=>by have:=h.2.2 _ rfl;lia,⟨⟨_,rfl,kC_NoRow,p0⟩,caught d4 (hd4.mono (by lia))⟩⟩
  by_cases x5:w1=5
  ·exists EB x0,EB x1,EB x2,EB x3,EB x4,EI x5;refine⟨nP,d3,(rows.length:Int)+1,n+3,rfl,hd3,by lia,by lia,by lia,fun pl d4 pl0 pl1 hd4=>?_⟩
   rfl';refine⟨by decide,k,b,rows,_,.zero 7 (0-far),by rw[show (ai.zero 7 (0-far)).t=.tup [.str "zero",.str (dP 7),.int (0-far)] from rfl,b7],by lia,by lia,by lia,fun g e=>by cases e;lia,fun h=>by have:=h.2.2 _ rfl;lia,⟨⟨_,rfl,kC_NoRow,p0⟩,caught d4 (hd4.mono (by lia))⟩⟩
  by_cases x6:w1=6
  ·exists EB x0,EB x1,EB x2,EB x3,EB x4,EB x5,EI x6;exact⟨nT,k,b,rows,_,rfl,by lia,by lia,by lia,fun h=>by lia,⟨⟨_,rfl,kC_NoRow,p0⟩,caught d3 (hd3.mono (by lia))⟩⟩
  exists EB x0,EB x1,EB x2,EB x3,EB x4,EB x5,EB x6;exact⟨nT,k,b,rows,_,rfl,by lia,by lia,by lia,fun h=>by lia,⟨⟨_,rfl,kC_NoRow,p0⟩,caught d3 (hd3.mono (by lia))⟩⟩
 by_cases c:((rows.length:Nat):Int)=60
 ·exists EI c;exact⟨by decide,go _ (by lia) (by lia) (by lia)⟩
 ·exists EB c;exact go _ (by lia) (by lia) (by lia)
structure WS (K:Ih) (C:Addr) (H0 H:Hp) (dk ia kk mm:Addr) (xk xm:List V) (k0 k1 mo0 mo1:Addr) (pl0 pl1:List Addr) (ids0 ids1:List Int) (rows0 rows1:List ai) (n c:Nat):Prop where
 deck:gI K H dk n
 zU:H ia=some (.lst ((nums c).map V.int))
 xX:H kk=some (.lst xk)
 x8:H mm=some (.lst xm)
 o0:One K C H k0 mo0 pl0 ids0 rows0
 o1:One K C H k1 mo1 pl1 ids1 rows1
 C3:∀ i∈ids0,i<=(c:Int)
 DZ:∀ i∈ids1,i<=(c:Int)
 fx:[dk,ia,kk,mm].Nodup
 tF:∀ a∈mo0::pl0,a∉[dk,ia,kk,mm]
 Bf:∀ a∈mo1::pl1,a∉[dk,ia,kk,mm]
 ap:∀ a∈mo0::pl0,a∉mo1::pl1
 kn:k0≠k1
 old:∀ b o,H0 b=some o->H b=some o
 BF:H0 dk=none/\H0 ia=none
 wk:∀ a∈k0::mo0::pl0,H0 a=none
 De:∀ a∈k1::mo1::pl1,H0 a=none
noncomputable def WX(K:Ih)(C:Addr)(H0 H:Hp)(dk ia kk mm:Addr)(xk xm:List V)(k0 k1 mo0 mo1:Addr)(r0 r1 n c:Nat):Prop:=∃ pl0 pl1 ids0 ids1 rows0 rows1,WS K C H0 H dk ia kk mm xk xm k0 k1 mo0 mo1 pl0 pl1 ids0 ids1 rows0 rows1 n c/\rows0.length<=r0/\rows1.length<=r1
section
variable {C:Addr} {H0 H H':Hp} {dk ia kk mm:Addr} {xk xm:List V} {k0 k1 mo0 mo1:Addr} {pl0 pl1:List Addr} {ids0 ids1:List Int} {rows0 rows1:List ai} {r0 r1 n c:Nat}
theorem WS.swap(h:WS K C H0 H dk ia kk mm xk xm k0 k1 mo0 mo1 pl0 pl1 ids0 ids1 rows0 rows1 n c):WS K C H0 H dk ia kk mm xk xm k1 k0 mo1 mo0 pl1 pl0 ids1 ids0 rows1 rows0 n c:=
 ⟨h.deck,h.zU,h.xX,h.x8,h.o1,h.o0,h.DZ,h.C3,h.fx,h.Bf,h.tF,fun a ha hb=>h.ap a hb ha,h.kn.symm,h.old,h.BF,h.De,h.wk⟩
theorem WX.swap(h:WX K C H0 H dk ia kk mm xk xm k0 k1 mo0 mo1 r0 r1 n c):WX K C H0 H dk ia kk mm xk xm k1 k0 mo1 mo0 r1 r0 n c:=by
 obtain⟨pl0,pl1,ids0,ids1,rows0,rows1,h,h0,h1⟩:=h;exact⟨pl1,pl0,ids1,ids0,rows1,rows0,h.swap,h1,h0⟩
theorem WX.mono{s0 s1:Nat}(h:WX K C H0 H dk ia kk mm xk xm k0 k1 mo0 mo1 r0 r1 n c)(h0:r0<=s0)(h1:r1<=s1)(hm:n<=m):WX K C H0 H dk ia kk mm xk xm k0 k1 mo0 mo1 s0 s1 m c:=by
 obtain⟨pl0,pl1,ids0,ids1,rows0,rows1,h,h2,h3⟩:=h;exact⟨pl0,pl1,ids0,ids1,rows0,rows1,⟨h.deck.mono hm,h.zU,h.xX,h.x8,h.o0,h.o1,h.C3,h.DZ,h.fx,h.tF,h.Bf,h.ap,h.kn,h.old,h.BF,h.wk,h.De⟩,ES h2 h0,ES h3 h1⟩
theorem WS.qO(h:WS K C H0 H dk ia kk mm xk xm k0 k1 mo0 mo1 pl0 pl1 ids0 ids1 rows0 rows1 n c):dk≠ia/\dk≠kk/\dk≠mm/\ia≠kk/\ia≠mm:=by
 have f:=h.fx;simp only[EY,EG,EW,FI,Hy] at f;exact⟨f.1.1,f.1.2.1,f.1.2.2,f.2.1.1,f.2.1.2⟩
theorem WS.yK{n' c':Nat}{pl':List Addr}{ids':List Int}{rows':List ai}(h:WS K C H0 H dk ia kk mm xk xm k0 k1 mo0 mo1 pl0 pl1 ids0 ids1 rows0 rows1 n c)(hd:gI K H' dk n')(ho:One K C H' k0 mo0 pl' ids' rows')(hi:H' ia=some (.lst ((nums c').map V.int)))(hc:c<=c')(hl:∀ i∈ids',i<=(c':Int))(hf:∀ a∈pl',a∈pl0\/H a=none)(kb:KB (dk::k0::mo0::ia::pl0) H H'):WS K C H0 H' dk ia kk mm xk xm k0 k1 mo0 mo1 pl' pl1 ids' ids1 rows' rows1 n' c':=by
 have ins0:∀ k' mo' pl' ids' rows',One K C H k' mo' pl' ids' rows'->∀ xs,H k'≠some (.lst xs):=fun k' _ _ _ _ o xs e=>by
  obtain⟨dx,b,vr,e',_⟩:=o.kp;rw[e'] at e;cases e
 have ne:=h.qO;have lst:∀ a∈dk::mo0::ia::pl0,∃ xs,H a=some (.lst xs):=fun a ha=>by
  simp only[EG] at ha;rcases ha with rfl|rfl|rfl|ha
  ·exact h.deck.aU
  ·exact h.o0.md.aU _ EN
  ·exact⟨_,h.zU⟩
  ·exact h.o0.md.aU _ (ED _ ha)
 have out:∀ a,(∃ xs,H a=some (.lst xs))->a≠dk->a≠ia->a∉mo0::pl0->a∉dk::k0::mo0::ia::pl0:=fun a ⟨xs,e⟩ h1 h2 h3 z=>by
  simp only[EG,Hy] at z h3;rcases z with z|z|z|z|z
  ·exact h1 z
  ·exact ins0 _ _ _ _ _ h.o0 xs (z ▸ e)
  ·exact h3.1 z
  ·exact h2 z
  ·exact h3.2 z
 have nk:∀ a∈[dk,ia,kk,mm],∀ b∈mo0::pl0,a≠b:=fun a ha b hb z=>h.tF b hb (z ▸ ha);refine⟨hd,hi,kb _ _ h.xX (out _ ⟨_,h.xX⟩ ne.2.1.symm ne.2.2.2.1.symm fun z=>h.tF _ z (by simp)),kb _ _ h.x8 (out _ ⟨_,h.x8⟩ ne.2.2.1.symm ne.2.2.2.2.symm fun z=>h.tF _ z (by simp)),ho,?_,hl,fun i hi=>by have:=h.DZ i hi;lia,h.fx,fun a ha=>?_,h.Bf,fun a ha=>?_,h.kn,fun b o e=>kb b o (h.old b o e) fun z=>?_,h.BF,fun a ha=>?_,h.De⟩
 ·refine h.o1.keep kb (fun a ha vs e=>?_) (fun z=>?_) fun a ha=>out a (h.o1.md.aU a ha) (fun z=>h.Bf a ha (by simp[z])) (fun z=>h.Bf a ha (by simp[z])) fun z=>h.ap a z ha
  ·simp only[EG] at ha;rcases ha with ha|ha|ha|ha|ha
   ·obtain⟨xs,e'⟩:=lst a (by simp[ha]);rw[e'] at e;cases e
   ·obtain⟨dx,b,vr,e',_⟩:=h.o0.kp;rw[ha,e'] at e;cases e
   ·obtain⟨xs,e'⟩:=lst a (by simp[ha]);rw[e'] at e;cases e
   ·obtain⟨xs,e'⟩:=lst a (by simp[ha]);rw[e'] at e;cases e
   ·obtain⟨xs,e'⟩:=lst a (by simp[ha]);rw[e'] at e;cases e
  ·simp only[EG] at z;rcases z with z|z|z|z|z
   ·obtain⟨xs,e'⟩:=lst dk (by simp);exact ins0 _ _ _ _ _ h.o1 xs (z ▸ e')
   ·exact h.kn z.symm
   ·obtain⟨xs,e'⟩:=lst mo0 (by simp);exact ins0 _ _ _ _ _ h.o1 xs (z ▸ e')
   ·obtain⟨xs,e'⟩:=lst ia (by simp);exact ins0 _ _ _ _ _ h.o1 xs (z ▸ e')
   ·obtain⟨xs,e'⟩:=lst k1 (by simp[z]);exact ins0 _ _ _ _ _ h.o1 xs e'
 ·rcases EG.mp ha with rfl|ha
  ·exact h.tF _ EN
  ·rcases hf a ha with z|z
   ·exact h.tF a (ED _ z)
   ·intro y;simp only[EG,EW,FI] at y;rcases y with rfl|rfl|rfl|rfl
    ·obtain⟨xs,e⟩:=h.deck.aU;rw[e] at z;cases z
    ·rw[h.zU] at z;cases z
    ·rw[h.xX] at z;cases z
    ·rw[h.x8] at z;cases z
 ·rcases EG.mp ha with rfl|ha
  ·exact h.ap _ EN
  ·rcases hf a ha with z|z
   ·exact h.ap a (ED _ z)
   ·intro y;obtain⟨xs,e⟩:=h.o1.md.aU a y;rw[z] at e;cases e
 ·have:H0 b=none:=by
   simp only[EG] at z;rcases z with rfl|rfl|rfl|rfl|z
   ·exact h.BF.1
   ·exact h.wk _ (by simp)
   ·exact h.wk _ (by simp)
   ·exact h.BF.2
   ·exact h.wk _ (by simp[z])
  rw[this] at e;cases e
 ·simp only[EG] at ha;rcases ha with rfl|rfl|ha
  ·exact h.wk _ (by simp)
  ·exact h.wk _ (by simp)
  ·rcases hf a ha with z|z
   ·exact h.wk _ (by simp[z])
   ·cases e:H0 a with
    |none=>rfl
    |some o=>rw[h.old a o e] at z;cases z
theorem WX.draw(h:WX K C H0 H dk ia kk mm xk xm k0 k1 mo0 mo1 r0 r1 n c)(k:KB [dk] H H')(d:gI K H' dk m):WX K C H0 H' dk ia kk mm xk xm k0 k1 mo0 mo1 r0 r1 m c:=by
 obtain⟨pl0,pl1,ids0,ids1,rows0,rows1,h,h2,h3⟩:=h;have kdk:k0≠dk:=fun z=>by
  obtain⟨xs,e⟩:=h.deck.aU;obtain⟨dx,b,vr,h1,_⟩:=h.o0.kp;rw[<- z,h1] at e;cases e
 refine⟨pl0,pl1,ids0,ids1,rows0,rows1,h.yK d (h.o0.keep k (fun a ha vs e=>?_) (by simpa using kdk) fun a ha z=>h.tF a ha (by simp[ET.mp z])) (k _ _ h.zU (by simpa using h.qO.1.symm)) (EH _) h.C3 (fun a ha=>.inl ha) (k.mono (by simp)),h2,h3⟩
 rw[ET.mp ha] at e;obtain⟨xs,e'⟩:=h.deck.aU;rw[e'] at e;cases e
theorem WX.same(h:WX K C H0 H dk ia kk mm xk xm k0 k1 mo0 mo1 r0 r1 n c)(k:KB [] H H'):WX K C H0 H' dk ia kk mm xk xm k0 k1 mo0 mo1 r0 r1 n c:=by
 refine h.draw k.all ?_;obtain⟨pl0,pl1,ids0,ids1,rows0,rows1,h,h2,h3⟩:=h;exact h.deck.keep k (by simp) (by simp)
theorem WX.deck(h:WX K C H0 H dk ia kk mm xk xm k0 k1 mo0 mo1 r0 r1 n c):gI K H dk n:=by
 obtain⟨pl0,pl1,ids0,ids1,rows0,rows1,h,h2,h3⟩:=h;exact h.deck
theorem WX.old(h:WX K C H0 H dk ia kk mm xk xm k0 k1 mo0 mo1 r0 r1 n c):KB [] H0 H:=by
 obtain⟨pl0,pl1,ids0,ids1,rows0,rows1,h,h2,h3⟩:=h;exact fun b o e _=>h.old b o e
theorem WX.lists(h:WX K C H0 H dk ia kk mm xk xm k0 k1 mo0 mo1 r0 r1 n c):H kk=some (.lst xk)/\H mm=some (.lst xm):=by
 obtain⟨pl0,pl1,ids0,ids1,rows0,rows1,h,h2,h3⟩:=h;exact⟨h.xX,h.x8⟩
theorem WS.pre(h:WS K C H0 H dk ia kk mm xk xm k0 k1 mo0 mo1 pl0 pl1 ids0 ids1 rows0 rows1 n c)(hn:n<2^28)(hc:c<900):Pre K C H dk k0 mo0 ia pl0 ids0 rows0 n c:=
 ⟨h.deck,by lia,h.o0,h.zU,by lia,h.C3,h.qO.1,fun a ha=>⟨fun z=>h.tF a ha (by simp[z]),fun z=>h.tF a ha (by simp[z])⟩⟩
theorem xF(h:WX K C H0 H dk ia kk mm xk xm k0 k1 mo0 mo1 r0 r1 n c)(hn:n<2^28)(hc:c<900)(h59:r0<=59)(q:∀(H':Hp) (c':Nat),c'<=c+1->WX K C H0 H' dk ia kk mm xk xm k0 k1 mo0 mo1 (r0+1) r1 (n+20) c'->Q (.bl true) H'):jV K C [.ref dk,.ref k0,.ref mo0,.ref ia] H Q E:=by
 obtain⟨pl0,pl1,ids0,ids1,rows0,rows1,h,h2,h3⟩:=h;exact⟨dk,k0,mo0,ia,pl0,ids0,rows0,n,c,rfl,h.pre hn hc,by lia,fun H' c' pl' ids' rows' d o rl i cc c1 le fr kb=>q H' c' c1 ⟨pl',pl1,ids',ids1,rows',rows1,h.yK d o i cc le fr kb,by lia,h3⟩⟩
theorem vy(h:WX K C H0 H dk ia kk mm xk xm k0 k1 mo0 mo1 60 r1 n c)(hn:n<2^28)(hc:c<900)(q:∀(H':Hp) (c':Nat),c'<=c+1->WX K C H0 H' dk ia kk mm xk xm k0 k1 mo0 mo1 60 r1 (n+21) c'->Q (.bl true) H'):mw K C [.ref dk,.ref k0,.ref mo0,.ref ia] H Q E:=by
 obtain⟨pl0,pl1,ids0,ids1,rows0,rows1,h,h2,h3⟩:=h;exact⟨dk,k0,mo0,ia,pl0,ids0,rows0,n,c,rfl,h.pre hn hc,by lia,by lia,fun H' c' pl' ids' rows' d o rl i cc c1 le fr kb=>q H' c' c1 ⟨pl',pl1,ids',ids1,rows',rows1,h.yK (d.mono (by lia)) o i cc le fr kb,rl,h3⟩⟩
theorem kO{f:Int}(h:WX K C H0 H dk ia kk mm [.ref k0,.ref k1] [.ref mo0,.ref mo1] k0 k1 mo0 mo1 60 60 n c)(hf:f=0\/f=1)(q:∀ H':Hp,KB [] H H'->Q (.bl true) H'):jH K C [.ref kk,.ref mm,.int f] H Q E:=by
 obtain⟨pl0,pl1,ids0,ids1,rows0,rows1,h,h2,h3⟩:=h;exact⟨kk,mm,k0,k1,mo0,mo1,pl0,pl1,ids0,ids1,rows0,rows1,f,rfl,hf,h.xX,h.x8,h.o0,h.o1,h2,h3,q⟩
theorem lV(h:WX K C H0 H dk ia kk mm xk xm k0 k1 mo0 mo1 60 r1 n c)(hn:n<2^28):∃ pl:List Addr,H mo0=some (.lst (pl.map V.ref))/\∀(Q:VK) (E:XK),(∀ H':Hp,KB [dk] H H'->gI K H' dk (n+20)->Q (.bl true) H')->spT K [true,false,false] (yr C) [.ref dk,.ref k0,.int (pl.length:Nat)] H Q E:=by
 obtain⟨pl0,pl1,ids0,ids1,rows0,rows1,h,h2,h3⟩:=h;refine⟨pl0,h.o0.md.at',fun Q E q=>?_⟩;have ld:=h.deck.aU;obtain⟨d,hd,hb⟩:=h.deck;obtain⟨dx,b,vr,hk,rr⟩:=h.o0.kp;have kdk:k0≠dk:=fun z=>by
  obtain⟨xs,e⟩:=ld;rw[<- z,hk] at e;cases e
 rw[h.o0.len.1];refine⟨fun a=>a=dk,[d,.ins k0 C ["book","rows"] [.adr b,aH rows0],.int (rows0.length:Nat)],fun r outs=>∃ d',r=.tr (.bl true)/\outs=[d']/\cq (n+20) d',⟨⟨dk,rfl,rfl,hb⟩,.ins (vs:=[.ref b,vr]) kdk hk rfl (.cons (.adr b) (.cons (aK (fun a vs e=>⟨e,fun z=>?_⟩) rr) .nil)),.int _,trivial⟩,fun b z=>by subst z;exact hb.aU,EY.mpr ⟨EW,Fs⟩,⟨d,n,k0,b,rows0,rfl,hd,by lia,h2,fun d' hd'=>⟨d',rfl,rfl,hd'⟩⟩,?_⟩
 ·obtain⟨xs,e'⟩:=ld;have z':a=dk:=z;rw[z',e'] at e;cases e
 ·rintro v H' _ _ ⟨d',rfl,rfl,hd'⟩ kp ⟨rv,pr⟩;obtain rfl:=Rep.pQ rv;obtain⟨_,_,e,hb',_⟩:=Paired.aC pr;cases e;exact q H' kp ⟨d',hd',hb'⟩
end
theorem vM{ns:List Int}(hs:a_ K H a (ns.map V.int))(q:∀(dk:Addr) (H':Hp),H dk=none->KB [] H H'->gI K H' dk 0->Q (.ref dk) H'):spT K [false] pT [.ref a] H Q E:=by
 refine⟨fun _=>False,[.eu (nI ns)],fun r _=>∃ d,r=.fr d/\cq 0 d,⟨.eu ?_ (jf ns),trivial⟩,fun _ z=>z.elim,Fs,⟨ns,rfl,fun d hd=>⟨d,rfl,hd⟩⟩,?_⟩
 ·rcases hs with hs|hs
  ·exact .inl ⟨fun z=>z,hs⟩
  ·exact .inr hs
 ·rintro v H' _ _ ⟨d,rfl,hd⟩ kp ⟨dk,rfl,h0,_,hb,_⟩;exact q dk H' h0 (fun b o e _=>kp b o e (by simp[iS])) ⟨d,hd,hb.of rfl (Fr.less fun b z=>.inl z)⟩
theorem nC(h:gI K H dk n)(hn:n<2^38)(q:∀(b:Addr) (H':Hp),KB [dk] H H'->gI K H' dk (n+200)->Q (.ref b) H'):spT K [true] sj [.ref dk] H Q E:=by
 obtain⟨d,hd,hb⟩:=h;refine⟨fun a=>a=dk,[d],fun x outs=>∃(ts:List L2.T) (d':L2.T),x=.tr (.tup ts)/\outs=[d']/\cq (n+200) d',⟨⟨dk,rfl,rfl,hb⟩,trivial⟩,fun b z=>by subst z;exact hb.aU,EY.mpr ⟨EW,Fs⟩,⟨d,n,rfl,hd,hn,fun ts d' hd'=>⟨ts,d',rfl,rfl,hd'⟩⟩,?_⟩
 rintro v H' _ _ ⟨ts,d',rfl,rfl,hd'⟩ kp ⟨rv,pr⟩;obtain⟨_,_,e,hb',_⟩:=Paired.aC pr;cases e;obtain⟨b,_,rfl,_⟩:=Rep.tupI rv;exact q b H' kp ⟨d',hd',hb'⟩
noncomputable def BL(K:Ih)(C:Addr)(H:Hp)(x:Addr):Prop:=∃ dx b vr,H x=some (.ins C dx [("book",.ref b),("rows",vr)])/\Rep K H (fun _=>False) vr (aH [])
theorem BL.keep{x:Addr}(h:BL K C H x)(kb:KB ex H H')(nx:∀ a∈ex,∃ xs,H a=some (.lst xs)):BL K C H' x:=by
 obtain⟨dx,b,vr,h1,h2⟩:=h;refine⟨dx,b,vr,kb _ _ h1 fun z=>?_,aK (fun a vs e=>⟨kb _ _ e fun z=>?_,id⟩) h2⟩
 ·obtain⟨xs,e⟩:=nx _ z;rw[h1] at e;cases e
 ·obtain⟨xs,e'⟩:=nx _ z;rw[e] at e';cases e'
theorem nX{b:Addr}{Q:Addr->Hp->Prop}(q:∀(x:Addr) (H':Hp),H x=none->KB [] H H'->BL K C H' x->Q x H'):∀ x dx,H x=none->H dx=none->dx≠x->kc K C [.ref x,.ref b] (upd (upd H dx (.own x)) x (.ins C dx [])) (fun v H2=>v=.ay/\Q x H2) E:=by
 intro x dx hx hdx hne;refine⟨x,dx,.ref b,rfl,ae,fun p H' hp hp' hx' kp=>⟨rfl,q x H' hx (fun c o e _=>kp c o ?_ (aw e hx)) ⟨dx,b,_,hx',.tup id hp' .nil⟩⟩⟩;rw[af (aw e hx),af (aw e hdx)];exact e
theorem One.new(h:BL K C H k)(hm:H mo=some (.lst [])):One K C H k mo [] [] []:=
 ⟨h,⟨hm,EY.mpr ⟨EW,Fs⟩,trivial⟩,⟨rfl,by decide,by decide,fun r h=>nomatch h⟩⟩
theorem xf{f:Addr}{f_i:Addr}{d_i:FuncData}(T:Txt K mg)(F:jn K "law" "law" eB f fd)(hC_Kept:mg "Kept"=some (.ref C))(cM:gy K C)(mm___init__:Mk K C f_i)(FO___init__:aX P w K mg base aW 1 f_i d_i ["self","book"] (kc K C))(bm___init__:Binds K d_i ["self","book"] [])
  (h_law_deck:aj P w K mg base aW 1 "_law_deck" ["script"] (spT K [false] pT)) (h_law_book:aj P w K mg base aW 4 "_law_book" ["deck"] (spT K [true] sj)) (h_law_draw:k0z P w K mg base) (h_law_put:aj P w K mg base aW 6 "_law_put" ["deck","kept","model","ids"] (jV K C)) (h_law_deed:aj P w K mg base aW 7 "_law_deed" ["deck","kept","model","ids"] (mw K C)) (h_law_right:aj P w K mg base aW 7 "_law_right" ["kepts","models","first"] (jH K C)) (h_law_refused:aj P w K mg base aW 7 "_law_refused" ["deck","kept","many"] (spT K [true,false,false] (yr C))):aX P w K mg base aW 9 f fd ["script"] (la K):=by
 refine vH F du (fun vs H Q E h=>?_) (fun cdv A outer s H vs Q E hr h=>?_)
 ·obtain⟨a,ns,rfl,_⟩:=h;rfl
 ·obtain⟨a,ns,rfl,hS,hl,q⟩:=h;have hu:=bz hr;refine⟨_,(Z.ao (Z.set (i:=1) du.nd rfl (by right) (Z.fn h_law_deck (hr.mono (by decide)) rfl au (Z.cons (Z.v 0) Z.nil)))
   (Z.ao (Z.set (i:=2) du.nd rfl (by right) (Z.fn h_law_book (hr.mono (by decide)) rfl au (Z.cons (Z.v 1) Z.nil)))
   (Z.ao (Z.set (i:=3) du.nd rfl (by right) (Z.lst (Z.cons (Z.make K rfl mm___init__ FO___init__ (hr.mono (by decide)) rfl hC_Kept bm___init__ au (Z.cons (Z.v 2) Z.nil)) (Z.cons (Z.make K rfl mm___init__ FO___init__ (hr.mono (by decide)) rfl hC_Kept bm___init__ au (Z.cons (Z.ix (Z.c_ K rfl hu) (Z.lst (Z.cons (Z.v 2) (Z.cons (Z.fn h_law_book (hr.mono (by decide)) rfl au (Z.cons (Z.v 1) Z.nil)) Z.nil))) (Z.fn h_law_draw (hr.mono (by decide)) rfl au (Z.cons (Z.v 1) (Z.cons Z.int Z.nil)))) Z.nil)) Z.nil))))
   (Z.ao (Z.set (i:=4) du.nd rfl (by right) (Z.lst (Z.cons (Z.lst Z.nil) (Z.cons (Z.lst Z.nil) Z.nil))))
   (Z.ao (Z.set (i:=5) du.nd rfl (by right) (Z.lst Z.nil))
   (Z.ao (Z.kY Gw rfl (Z.rD rfl T.j8 (Z.cons (Z.ix (Z.c_ K rfl hu) (Z.lst (Z.cons (Z.fn h_law_draw (hr.mono (by decide)) rfl au (Z.cons (Z.v 1) (Z.cons Z.int Z.nil))) (Z.cons (Z.fn h_law_draw (hr.mono (by decide)) rfl au (Z.cons (Z.v 1) (Z.cons Z.int Z.nil))) (Z.cons (Z.fn h_law_draw (hr.mono (by decide)) rfl au (Z.cons (Z.v 1) (Z.cons Z.int Z.nil))) (Z.cons Z.int Z.nil))))) (Z.fn h_law_draw (hr.mono (by decide)) rfl au (Z.cons (Z.v 1) (Z.cons Z.int Z.nil)))) Z.nil)) (Z.bW (i:=6) du.nd rfl (by right)) (Z.aE (Z.fh (Z.iD (Z.j7 K rfl (Z.fn h_law_put (hr.mono (by decide)) rfl au (Z.cons (Z.v 1) (Z.cons (Z.ix (Z.c_ K rfl hu) (Z.v 3) Z.int) (Z.cons (Z.ix (Z.c_ K rfl hu) (Z.v 4) Z.int) (Z.cons (Z.v 5) Z.nil))))))) (Z.aE (Z.ret Z.bl)) Z.bM)))
   (Z.ao (Z.kY Gw rfl (Z.rD rfl T.j8 (Z.cons (Z.op (Z.ib K rfl) Z.int (Z.cb (jo rfl) rfl T.wL (by decide +kernel) (Z.cons (Z.cb (Z.xA K rfl) rfl T.cw (by decide +kernel) (Z.cons (Z.v 0) Z.nil)) (Z.cons Z.int Z.nil)))) Z.nil)) (Z.bW (i:=6) du.nd rfl (by right)) (Z.ao (Z.set (i:=7) du.nd rfl (by right) (Z.fn h_law_draw (hr.mono (by decide)) rfl au (Z.cons (Z.v 1) (Z.cons Z.int Z.nil))))
   (Z.ao (Z.fh (Z.aZ jG (Z.fn h_law_draw (hr.mono (by decide)) rfl au (Z.cons (Z.v 1) (Z.cons Z.int Z.nil))) Z.int) (Z.aE (Z.fh (Z.tw (Z.tY (Z.iD (Z.j7 K rfl (Z.fn h_law_refused (hr.mono (by decide)) rfl au (Z.cons (Z.v 1) (Z.cons (Z.ix (Z.c_ K rfl hu) (Z.v 3) (Z.v 7)) (Z.cons (Z.cb (Z.iN K rfl) rfl T.cw (by decide +kernel) (Z.cons (Z.ix (Z.c_ K rfl hu) (Z.v 4) (Z.v 7)) Z.nil)) Z.nil)))))) (Z.j3 (Z.iD (Z.j7 K rfl (Z.fn h_law_right (hr.mono (by decide)) rfl au (Z.cons (Z.v 3) (Z.cons (Z.v 4) (Z.cons (Z.v 7) Z.nil))))))))) (Z.aE (Z.ret Z.bl)) Z.bM)) Z.bM)
   (Z.ao (Z.fh (Z.iD (Z.j7 K rfl (Z.fn h_law_deed (hr.mono (by decide)) rfl au (Z.cons (Z.v 1) (Z.cons (Z.ix (Z.c_ K rfl hu) (Z.v 3) (Z.v 7)) (Z.cons (Z.ix (Z.c_ K rfl hu) (Z.v 4) (Z.v 7)) (Z.cons (Z.v 5) Z.nil))))))) (Z.aE (Z.ret Z.bl)) Z.bM)
   (Z.aE (Z.fh (Z.iD (Z.j7 K rfl (Z.fn h_law_right (hr.mono (by decide)) rfl au (Z.cons (Z.v 3) (Z.cons (Z.v 4) (Z.cons (Z.fn h_law_draw (hr.mono (by decide)) rfl au (Z.cons (Z.v 1) (Z.cons Z.int Z.nil))) Z.nil)))))) (Z.aE (Z.ret Z.bl)) Z.bM))))))
   (Z.aE (Z.ret Z.bl))))))))),?_⟩
  refine bF fun N hN=>?_;walk_at "rz";refine vM hS fun dk H1 dk0 k1 d1=>?_;rw[hN];clear hN N;refine bF fun N hN=>?_;walk_at "rz";refine nC d1 (by decide) fun b H2 k2 d2=>?_
  rw[hN];clear hN N;have k02:KB [dk] H H2:=k1.all.trans k2;have fr:∀{G:Hp} {x:Addr},KB [dk] H G->(∃ xs,G dk=some (.lst xs))->G x=none->H x=none:=fun {G x} kb dt e=>kb.free (fun z=>by
   obtain⟨xs,e'⟩:=dt;rw[ET.mp z,e'] at e;cases e) e
  refine bF fun N hN=>?_;walk_at "rz";refine nX fun k0 H3 k00 k3 n3=>?_;have d3:=d2.keep k3 (by simp) (by simp)
  have y0:=fr k02 d2.aU k00;have k03:=k02.trans k3.all;refine nC d3 (by decide) fun b2 H4 k4 d4=>?_
  have k04:=k03.trans k4;refine⟨by decide,fun e1 he1=>?_⟩
  have n4:=n3.keep k4 (fun a ha=>by rw[ET.mp ha];exact d3.aU)
  have u5:KB [] H4 (upd H4 e1 (.lst [.ref b,.ref b2])):=KB.new he1;have s5:upd H4 e1 (.lst [.ref b,.ref b2]) e1=some (.lst [.ref b,.ref b2]):=ae;generalize upd H4 e1 (.lst [.ref b,.ref b2])=H5 at *;have d5:=d4.keep u5 (by simp) (by simp)
  have n5:=n4.keep u5 (by simp)
  refine bO d5 (by decide) (by decide) (by decide) fun v H6 v0 v1 k6 d6=>?_
  have n6:=n5.keep k6 (fun a ha=>by rw[ET.mp ha];exact d5.aU)
  have dke:e1≠dk:=fun z=>by
   obtain⟨xs,e⟩:=d4.aU;rw[z,e] at he1;cases he1
  obtain⟨b3,eb⟩:∃ b3,bN [V.ref b,V.ref b2] v=some (.ref b3):=by
   have:v=0\/v=1:=by lia
   rcases this with rfl|rfl<;>exact⟨_,rfl⟩
  simp only[L2.Ap.kT,aI (k6 _ _ s5 (by simpa using dke)),eb]
  refine nX fun k1' H7 k10 k7 n7=>?_;have k06:=k04.trans (u5.all.trans k6);have y1:=fr k06 d6.aU k10;have k07:=k06.trans k7.all;have n67:=n6.keep k7 (by simp)
  have d7:=d6.keep k7 (by simp) (by simp)
  have kn:k0≠k1':=fun z=>by
   obtain⟨_,_,_,e,_⟩:=n6;rw[z,k10] at e;cases e
  refine⟨by decide,fun kk hkk=>?_⟩
  have u8:KB [] H7 (upd H7 kk (.lst [.ref k0,.ref k1'])):=KB.new hkk;have s8:upd H7 kk (.lst [.ref k0,.ref k1']) kk=some (.lst [.ref k0,.ref k1']):=ae;have kdk:kk≠dk:=fun z=>by
   obtain⟨xs,e⟩:=d7.aU;rw[z,e] at hkk;cases hkk
  generalize upd H7 kk (.lst [.ref k0,.ref k1'])=H8 at *;rw[hN];clear hN N;have a8:=n67.keep u8 (by simp)
  have b8:=n7.keep u8 (by simp)
  have d8:=d7.keep u8 (by simp) (by simp)
  refine bF fun N hN=>?_;walk_at "rz";refine⟨Fo _,fun mo0 hm0=>⟨Fo _,fun mo1 hm1=>⟨by decide,fun mm hmm=>?_⟩⟩⟩
  have tk:∀{G:Hp} {x y:Addr} {o:HO},G x=some o->G y=none->x≠y:=fun e z y=>by rw[y,z] at e;cases e
  have u9:KB [] H8 (upd H8 mo0 (.lst [])):=KB.new hm0;have s9:upd H8 mo0 (.lst []) mo0=some (.lst []):=ae;generalize upd H8 mo0 (.lst [])=H9 at *;have u10:KB [] H9 (upd H9 mo1 (.lst [])):=KB.new hm1;have s10:upd H9 mo1 (.lst []) mo1=some (.lst []):=ae;have m01:=tk s9 hm1;generalize upd H9 mo1 (.lst [])=H10 at *;have u11:KB [] H10 (upd H10 mm (.lst [.ref mo0,.ref mo1])):=KB.new hmm;have s11:upd H10 mm (.lst [.ref mo0,.ref mo1]) mm=some (.lst [.ref mo0,.ref mo1]):=ae;generalize upd H10 mm (.lst [.ref mo0,.ref mo1])=H11 at *;rw[hN];clear hN N;refine bF fun N hN=>?_;walk_at "rz";refine⟨Fo _,fun ia hia=>?_⟩;have u12:KB [] H11 (upd H11 ia (.lst [])):=KB.new hia;have s12:upd H11 ia (.lst []) ia=some (.lst []):=ae;generalize upd H11 ia (.lst [])=H12 at *;rw[hN];clear hN N;have W0:WX K C H H12 dk ia kk mm [.ref k0,.ref k1'] [.ref mo0,.ref mo1] k0 k1' mo0 mo1 0 60 1000 0:=by
   obtain⟨xd,ed⟩:=d8.aU;have k08:=k07.trans u8.all;have z0:=fr k08 ⟨_,ed⟩ hm0;have z1:=fr (k08.trans u9.all) ⟨_,u9 _ _ ed (by simp)⟩ hm1
   have z2:=fr (k08.trans (u9.trans (u10.trans u11)).all) ⟨_,(u9.trans (u10.trans u11)) _ _ ed (by simp)⟩ hia
   have u810:=u9.trans u10;have u811:=u810.trans u11;have u812:=u811.trans u12;have ni:∀{x:Addr} {o:HO},H11 x=some o->x≠ia:=fun e=>tk e hia;have nm:∀{x:Addr} {o:HO},H10 x=some o->x≠mm:=fun e=>tk e hmm;have mmia:=ni s11;have a12:=a8.keep u812 (by simp)
   have b12:=b8.keep u812 (by simp)
   have m10:=u10 _ _ s9 (by simp)
   have e1:=tk ed hm0;have e2:=tk (u9 _ _ ed (by simp)) hm1
   have e3:=nm (u810 _ _ ed (by simp))
   have e4:=ni (u811 _ _ ed (by simp))
   have f1:=tk s8 hm0;have f2:=tk (u9 _ _ s8 (by simp)) hm1
   have f3:=nm (u810 _ _ s8 (by simp))
   have f4:=ni (u811 _ _ s8 (by simp))
   have g3:=nm m10;have g4:=ni (u11 _ _ m10 (by simp))
   have h3:=nm s10;have h4:=ni (u11 _ _ s10 (by simp))
   refine⟨[],[],[],[],[],[],⟨(d8.keep u812 (by simp) (by simp)).mono (by decide),s12,u812 _ _ s8 (by simp),u12 _ _ s11 (by simp),One.new a12 ((u11.trans u12) _ _ m10 (by simp)),One.new b12 ((u11.trans u12) _ _ s10 (by simp)),by simp,by simp,?_,?_,?_,?_,kn,fun b o e=>(k08.trans u812.all) b o e fun z=>?_,⟨dk0,z2⟩,by simpa using⟨y0,z0⟩,by simpa using⟨y1,z1⟩⟩,by simp,by simp⟩
   ·simp only[EY,EG,EW,FI,Hy,not_false_eq_true,Fs,and_true];exact⟨⟨e4,kdk.symm,e3⟩,⟨f4.symm,mmia.symm⟩,f3⟩
   ·simp only[EG,EW,FI,Hy,forall_eq];exact⟨e1.symm,g4,f1.symm,g3⟩
   ·simp only[EG,EW,FI,Hy,forall_eq];exact⟨e2.symm,h4,f2.symm,h3⟩
   ·simp only[EG,EW,FI,Hy,forall_eq];exact m01
   ·rw[ET.mp z,dk0] at e;cases e
  clear a8 b8 d8 n7 n67 d7 n6 d6 k6 n5 d5 u5 s5 n4 d4 k4 d3 n3 k3 d2 k2 d1 k1 k7 u8 s8 u9 s9 u10 s10 u11 s11 u12 s12;clear hm0 hm1 hmm hia hkk m01 kdk kn k10 eb dke he1 k00 dk0 k02 k03 k04 k06 k07 y0 y1 fr;refine bF fun N hN=>?_;walk_at "rz";refine bO W0.deck (by decide) (by decide) (by decide) fun z0 G1 a0 a1 w1 q1=>bO q1 (by decide) (by decide) (by decide) fun z1 G2 b0 b1 w2 q2=>bO q2 (by decide) (by decide) (by decide) fun z2 G3 c0 c1 w3 q3=>⟨by decide,fun e1 he1=>?_⟩
  have W3:=W0.draw (w1.trans (w2.trans w3)) q3;clear W0 w1 w2 w3 q1 q2;have u4:KB [] G3 (upd G3 e1 (.lst [.int z0,.int z1,.int z2,.int 58])):=KB.new he1;have s4:upd G3 e1 (.lst [.int z0,.int z1,.int z2,.int 58]) e1=some (.lst [.int z0,.int z1,.int z2,.int 58]):=ae;have ed:e1≠dk:=fun z=>by
   obtain⟨xs,e⟩:=q3.aU;rw[z,e] at he1;cases he1
  generalize upd G3 e1 (.lst [.int z0,.int z1,.int z2,.int 58])=G4 at *;have W4:=W3.same u4;refine bO W4.deck (by decide) (by decide) (by decide) fun z3 G5 d0 d1 w5 q5=>?_
  have W5:=W4.draw w5 q5;obtain⟨m,em,hm0,hm1⟩:∃ m:Nat,bN [V.int z0,V.int z1,V.int z2,V.int 58] z3=some (.int (m:Nat))/\0<=m/\m<=58:=by
   have:z3=0\/z3=1\/z3=2\/z3=3:=by lia
   rcases this with rfl|rfl|rfl|rfl
   ·exact⟨z0.toNat,by rw[show ((z0.toNat:Nat):Int)=z0 by lia];rfl,Fo _,by lia⟩
   ·exact⟨z1.toNat,by rw[show ((z1.toNat:Nat):Int)=z1 by lia];rfl,Fo _,by lia⟩
   ·exact⟨z2.toNat,by rw[show ((z2.toNat:Nat):Int)=z2 by lia];rfl,Fo _,by lia⟩
   ·exact⟨58,rfl,Fo _,by decide⟩
  simp only[L2.Ap.kT,aI (w5 _ _ s4 (by simpa using ed)),em]
  refine⟨_,rfl,by lia,by lia,?_⟩
  rw[Fp];clear W3 W4 w5 q5 s4 u4 ed he1 q3 em d0 d1 z3 a0 a1 b0 b1 c0 c1 z0 z1 z2;refine hU (fun i σ H'=>∃(c:Nat) (o:Option V),c<=i/\WX K C H H' dk ia kk mm [.ref k0,.ref k1'] [.ref mo0,.ref mo1] k0 k1' mo0 mo1 i 60 (2000+20*i) c/\σ=[some (V.ref a),some (V.ref dk),some (V.ref b),some (V.ref kk),some (V.ref mm),some (V.ref ia),o,none]) ⟨0,none,EH _,W5.mono (EH _) (EH _) (by decide),rfl⟩ ?_ ?_
  ·rintro i σ G6 hi ⟨c,o,hc,W6,rfl⟩;have wl:=W6.lists;walk_at "rz";simp only[aI wl.1,aI wl.2,ow];refine xF W6 (by lia) (by lia) (by lia) fun G7 c' hc' W7=>⟨true,rfl,?_⟩
   rw[EB (by decide)]
   exact⟨c',_,by lia,W7.mono (EH _) (EH _) (by lia),rfl⟩
  rintro σ G6 ⟨c,o,hc,W6,rfl⟩;show N _ _;rw[hN];clear hN N;refine bF fun N hN=>?_;walk_at "rz";refine⟨_,ns.length,rfl,?_,?_⟩
  ·have:=W6.old.DM (by simp) hS
   exact .inl ⟨_,this,by rw[EJ]⟩
  obtain⟨t,et,ht⟩:∃ t:Nat,(16+if (20:Int)<(ns.length:Nat) then 20 else ((ns.length:Nat):Int))=(t:Nat)/\t<=36:=by
   by_cases cl:(20:Int)<(ns.length:Nat)
   ·rw[EI cl];exact⟨36,rfl,EH _⟩
   ·rw[EB cl];exact⟨16+ns.length,by lia,by lia⟩
  rw[et];refine⟨by lia,by lia,?_⟩
  rw[Fp];refine hU (fun i σ H'=>∃(c:Nat) (o6 o7:Option V),c<=60+i/\WX K C H H' dk ia kk mm [.ref k0,.ref k1'] [.ref mo0,.ref mo1] k0 k1' mo0 mo1 60 60 (4000+50*i) c/\σ=[some (V.ref a),some (V.ref dk),some (V.ref b),some (V.ref kk),some (V.ref mm),some (V.ref ia),o6,o7]) ⟨c,o,none,by lia,W6.mono (by lia) (EH _) (by lia),rfl⟩ ?_ ?_
  ·clear W6 hc et;rintro i σ G7 hi ⟨c,o6,o7,hc,W7,rfl⟩;unfold bU;refine bF fun M hM=>?_;walk_at "rz";refine bO W7.deck (by lia) (by decide) (by decide) fun v G8 v0 v1 w8 q8=>?_
   have W8:=W7.draw w8 q8;rw[hM];clear hM M;obtain⟨ka,kb,ma,mb,ek,em,sw1,sw2⟩:∃ ka kb ma mb,bN [V.ref k0,V.ref k1'] v=some (.ref ka)/\bN [V.ref mo0,V.ref mo1] v=some (.ref ma)/\(∀{G:Hp} {n c:Nat},WX K C H G dk ia kk mm [.ref k0,.ref k1'] [.ref mo0,.ref mo1] k0 k1' mo0 mo1 60 60 n c->WX K C H G dk ia kk mm [.ref k0,.ref k1'] [.ref mo0,.ref mo1] ka kb ma mb 60 60 n c)/\(∀{G:Hp} {n c:Nat},WX K C H G dk ia kk mm [.ref k0,.ref k1'] [.ref mo0,.ref mo1] ka kb ma mb 60 60 n c->WX K C H G dk ia kk mm [.ref k0,.ref k1'] [.ref mo0,.ref mo1] k0 k1' mo0 mo1 60 60 n c):=by
    have:v=0\/v=1:=by lia
    rcases this with rfl|rfl
    ·exact⟨k0,k1',mo0,mo1,rfl,rfl,id,id⟩
    ·exact⟨k1',k0,mo1,mo0,rfl,rfl,WX.swap,WX.swap⟩
   have hv:v=0\/v=1:=by lia
   refine bF fun M hM=>?_;have go:∀(G:Hp),WX K C H G dk ia kk mm [.ref k0,.ref k1'] [.ref mo0,.ref mo1] k0 k1' mo0 mo1 60 60 (4000+50*i+22) c->M [some (V.ref a),some (V.ref dk),some (V.ref b),some (V.ref kk),some (V.ref mm),some (V.ref ia),some (V.int (0+(i:Nat))),some (V.int v)] G:=by
    intro G W;rw[hM];clear hM M;refine bF fun M hM=>?_;have wl:=W.lists;walk_at "rz";simp only[aI wl.1,aI wl.2,ek,em];refine vy (sw1 W) (by lia) (by lia) fun G9 c' hc' W9=>⟨true,rfl,?_⟩
    rw[EB (by decide),hM];clear hM M
    have W9:=sw2 W9;walk_at "rz";refine bO W9.deck (by lia) (by decide) (by decide) fun v2 G10 v20 v21 w10 q10=>?_
    have W10:=W9.draw w10 q10;refine kO W10 (by lia) fun G11 w11=>⟨true,rfl,?_⟩
    rw[EB (by decide)]
    exact⟨c',_,_,by lia,(W10.same w11).mono (EH _) (EH _) (by lia),rfl,rfl⟩
   walk_at "rz";refine bO q8 (by lia) (by decide) (by decide) fun v3 G9 v30 v31 w9 q9=>?_
   have W9:=W8.draw w9 q9;simp only[L2.Ap.se];refine⟨_,rfl,?_⟩;by_cases c3:v3=0
   ·rw[EI (Fq c3)];have wl:=W9.lists;simp only[L2.Ap.kT,aI wl.1,aI wl.2,ek,em];obtain⟨pl,epl,rs⟩:=lV (sw1 W9) (by lia)
    simp only[L2.Ap.sI,aI epl,EJ];refine rs _ _ fun G10 w10 q10=>⟨true,rfl,?_⟩;have W10:=W9.draw w10 q10;rw[EB (by decide)]
    refine kO W10 hv fun G11 w11=>⟨true,rfl,?_⟩;rw[EB (by decide)]
    exact go _ ((W10.same w11).mono (EH _) (EH _) (by lia))
   ·rw[EB (by simpa using c3)]
    exact go _ (W9.mono (EH _) (EH _) (by lia))
  ·rintro σ G7 ⟨c,o6,o7,hc,W7,rfl⟩;show N _ _;rw[hN];clear hN N;walk_at "rz";exact q _
theorem zv{f:Addr}(T:Txt K mg)(f_goal_of:HasFn K mg "goal_of" dU ["row"])(f_with_goal:HasFn K mg "with_goal" cS ["row","goal"])(f_goals_moved:HasFn K mg "goals_moved" bC ["rows","first","by"])(f_goal_moved:HasFn K mg "goal_moved" cz ["row","first","by"])(l_deck:HasFn K mg "_law_deck" cf ["script"])(l_mix:HasFn K mg "_law_mix" dB ["number","turn"])(l_draw:HasFn K mg "_law_draw" cT ["deck","most"])(l_lengths:HasFn K mg "_law_lengths" bP ["deck","many"])(l_book:HasFn K mg "_law_book" cm ["deck"])(l_number:HasFn K mg "_law_number" bY ["deck"])(l_row:HasFn K mg "_law_row" dv ["deck","goals"])(l_same:HasFn K mg "_law_same" bG ["found","due"])(l_put:HasFn K mg "_law_put" cJ ["deck","kept","model","ids"])(l_take:HasFn K mg "_law_take" b_ ["deck","kept","model"])(l_due:HasFn K mg "_law_due" cH ["model"])(l_deed:HasFn K mg "_law_deed" cR ["deck","kept","model","ids"])(l_refused:HasFn K mg "_law_refused" bT ["deck","kept","many"])(l_right:HasFn K mg "_law_right" cx ["kepts","models","first"])(F:jn K "law" "law" eB f fd):aX P w K mg base aW 9 f fd ["script"] (la K):=by
 obtain⟨C_Kept,f___init__,f_put_in,f_take_out,f_program,d___init__,d_put_in,d_take_out,d_program,hC_Kept,cM,fD,aO,mm___init__,FM___init__,bm___init__,mm_put_in,FM_put_in,bm_put_in,mm_take_out,FM_take_out,bm_take_out,mm_program,FM_program,bm_program⟩:=T.mc;have dr:=wc (P:=P) (w:=w) (base:=base) T l_draw (zt T l_mix);have go:=rj (P:=P) (w:=w) (base:=base) T f_goal_of;have mv:=y6 (P:=P) (w:=w) (base:=base) T f_goals_moved (Bt T f_goal_moved go (vp T f_with_goal));have M:∀ CR,mg "NoRow"=some (.ref CR)->KM P w K mg base C_Kept CR:=fun CR hCR=>by
  obtain⟨C_ShortError,C_NoRow,C_NoAsk,C_NoBits,C_NoCode,C_NoProgram,C_NoReach,hC_ShortError,hC_NoRow,hC_NoAsk,hC_NoBits,hC_NoCode,hC_NoProgram,hC_NoReach,kC_ShortError,kC_NoRow,xC_NoRow,p0,p1,p2,p3⟩:=T.xs;rw[hC_NoRow] at hCR;cases hCR;exact⟨cM,fD,aO,⟨_,_,mm_put_in,yB T cM aO hC_NoRow kC_NoRow go mv FM_put_in,bm_put_in⟩,⟨_,_,mm_take_out,uO T cM aO hC_NoRow kC_NoRow mv FM_take_out,bm_take_out⟩,⟨_,_,mm_program,vt T cM aO FM_program,bm_program⟩⟩
 obtain⟨CR,hCR⟩:∃ CR,mg "NoRow"=some (.ref CR):=by
  obtain⟨C_ShortError,C_NoRow,C_NoAsk,C_NoBits,C_NoCode,C_NoProgram,C_NoReach,hC_ShortError,hC_NoRow,hC_NoAsk,hC_NoBits,hC_NoCode,hC_NoProgram,hC_NoReach,kC_ShortError,kC_NoRow,xC_NoRow,p0,p1,p2,p3⟩:=T.xs;exact⟨_,hC_NoRow⟩
 have ro:=zd (P:=P) (w:=w) (base:=base) T l_row dr (oH T l_number dr);have pu:=uM T (M CR hCR) dr ro l_put;have ta:=sZ T (M CR hCR) dr l_take;exact xf T F hC_Kept cM mm___init__ (sX T cM fD aO FM___init__) bm___init__ (uG T l_deck) (tS T l_book dr (rQ T l_lengths dr)) dr pu (uz T dr pu ta l_deed) (rF T (M CR hCR) (yP T l_due) (v_ T l_same) l_right) (mq T M dr ro l_refused)
theorem kd{x:Str}{st:Stmt}{ps:List Str}{f:Addr}{oc:Value}{od an:Option Addr}{osl:Array (Option Value)}{kV doc pm cdv ct:Value}(X:K.In h)(G:h.Ns mainGlobals mg)(a:PySem.W.nsIn K mainGlobals x=some (some (.ref f)))
  (l:K.lookup f=some ⟨oc,od,.func (PySem.W.fnOf x x (bD st) (aG st) (aa st) .none kV doc pm an cdv ct),osl⟩) (c:PySem.W.codeIn K cdv x=true) (k:PySem.W.keepIn K (.ref f)=true)
  (hb:∀(kV doc pm:Value) (an:Option Addr) (cdv ct:Value) (us:List Value),us.length=ps.length->bindArgs (PySem.W.fnOf x x (bD st) (aG st) (aa st) .none kV doc pm an cdv ct) ⟨us,[]⟩=pure (ps.zip us)):HasFn K mg x st ps:=
 ⟨f,_,cE l c k,(cE l c k).binds hb,PySem.W.mg_of X G a⟩
theorem all_mk{w:World}{fa:Addr}(X:K.In h)(G:h.Ns mainGlobals mg)(hfa:mg "law"=some (.ref fa))
  {f18:Addr} {od18 an18:Option Addr} {sl18:Array (Option Value)} {oc18 kV18 dc18 pm18 cd18 ct18:Value}
  {dd0:Addr} {dh0_ep:Nat} {dh0_0 dh0_1 dh0_2 dh0_3 dh0_4 dh0_5 dh0_6 dh0_7 dh0_8:Int} {dp0_0 dp0_1 dp0_2 dp0_3 dp0_4 dp0_5 dp0_6 dp0_7 dp0_8:Addr} {do0_0 do0_1 do0_2 do0_3 do0_4 do0_5 do0_6 do0_7 do0_8:Option Addr} {dn0_0 dn0_1 dn0_2 dn0_3 dn0_4 dn0_5 dn0_6 dn0_7 dn0_8:Nat} {ds0_0 ds0_1 ds0_2 ds0_3 ds0_4 ds0_5 ds0_6 ds0_7 ds0_8:Array (Option Value)} {dt0_0 dt0_1 dt0_2 dt0_3 dt0_4 dt0_5 dt0_6 dt0_7 dt0_8 dw0_0_0 dw0_0_1 dw0_1_0 dw0_1_1 dw0_2_0 dw0_2_1 dw0_3_0 dw0_3_1 dw0_4_0 dw0_5_0 dw0_6_0 dw0_7_0 dw0_7_1:Tok}
  {mC mf0 mf1 mf2 mf3:Addr} {mod0 man0 mod1 man1 mod2 man2 mod3 man3:Option Addr} {msl0 msl1 msl2 msl3:Array (Option Value)} {moc0 mkV0 mdc0 mpm0 mcd0 mct0 moc1 mkV1 mdc1 mpm1 mcd1 mct1 moc2 mkV2 mdc2 mpm2 mcd2 mct2 moc3 mkV3 mdc3 mpm3 mcd3 mct3:Value}
  {xd_ShortError xd_NoRow xd_NoAsk xd_NoBits xd_NoCode xd_NoProgram xd_NoReach:Addr}
  (F0:HasFn K mg "goal_of" dU ["row"])
  (F1:HasFn K mg "with_goal" cS ["row","goal"])
  (F2:HasFn K mg "goals_moved" bC ["rows","first","by"])
  (F3:HasFn K mg "goal_moved" cz ["row","first","by"])
  (F4:HasFn K mg "_law_deck" cf ["script"])
  (F5:HasFn K mg "_law_mix" dB ["number","turn"])
  (F6:HasFn K mg "_law_draw" cT ["deck","most"])
  (F7:HasFn K mg "_law_lengths" bP ["deck","many"])
  (F8:HasFn K mg "_law_book" cm ["deck"])
  (F9:HasFn K mg "_law_number" bY ["deck"])
  (F10:HasFn K mg "_law_row" dv ["deck","goals"])
  (F11:HasFn K mg "_law_same" bG ["found","due"])
  (F12:HasFn K mg "_law_put" cJ ["deck","kept","model","ids"])
  (F13:HasFn K mg "_law_take" b_ ["deck","kept","model"])
  (F14:HasFn K mg "_law_due" cH ["model"])
  (F15:HasFn K mg "_law_deed" cR ["deck","kept","model","ids"])
  (F16:HasFn K mg "_law_refused" bT ["deck","kept","many"])
  (F17:HasFn K mg "_law_right" cx ["kepts","models","first"])
  (a18:PySem.W.nsIn K mainGlobals "law"=some (some (.ref f18))) (l18:K.lookup f18=some ⟨oc18,od18,.func (PySem.W.fnOf "law" "law" (bD eB) (aG eB) (aa eB) .none kV18 dc18 pm18 an18 cd18 ct18),sl18⟩) (c18:PySem.W.codeIn K cd18 "law"=true) (k18:PySem.W.keepIn K (.ref f18)=true)
  (z0:PySem.W.nsIn K mainGlobals "ValueError"=some none)
  (z1:PySem.W.nsIn K mainGlobals "abs"=some none)
  (z2:PySem.W.nsIn K mainGlobals "bool"=some none)
  (z3:PySem.W.nsIn K mainGlobals "enumerate"=some none)
  (z4:PySem.W.nsIn K mainGlobals "int"=some none)
  (z5:PySem.W.nsIn K mainGlobals "isinstance"=some none)
  (z6:PySem.W.nsIn K mainGlobals "len"=some none)
  (z7:PySem.W.nsIn K mainGlobals "min"=some none)
  (z8:PySem.W.nsIn K mainGlobals "range"=some none)
  (z9:PySem.W.nsIn K mainGlobals "sorted"=some none)
  (z10:PySem.W.nsIn K mainGlobals "str"=some none)
  (z11:PySem.W.nsIn K mainGlobals "sum"=some none)
  (z12:PySem.W.nsIn K mainGlobals "tuple"=some none)
  (z13:PySem.W.nsIn K mainGlobals "zip"=some none)
  (dg0:PySem.W.nsIn K mainGlobals "SHAPES"=some (some (.ref dd0))) (dz0:(dd0 == sysModules)=false) (dl0:K.lookup dd0=some ⟨.type "dict",none,.dict #[⟨dh0_0,.str "put" dt0_0,.ref dp0_0⟩,⟨dh0_1,.str "add" dt0_1,.ref dp0_1⟩,⟨dh0_2,.str "sub" dt0_2,.ref dp0_2⟩,⟨dh0_3,.str "copy" dt0_3,.ref dp0_3⟩,⟨dh0_4,.str "tell" dt0_4,.ref dp0_4⟩,⟨dh0_5,.str "hear" dt0_5,.ref dp0_5⟩,⟨dh0_6,.str "jump" dt0_6,.ref dp0_6⟩,⟨dh0_7,.str "zero" dt0_7,.ref dp0_7⟩,⟨dh0_8,.str "halt" dt0_8,.ref dp0_8⟩] dh0_ep,#[]⟩)
  (dm0_0:K.lookup dp0_0=some ⟨.type "tuple",do0_0,.seq #[.str "box" dw0_0_0,.str "number" dw0_0_1] dn0_0,ds0_0⟩)
  (dm0_1:K.lookup dp0_1=some ⟨.type "tuple",do0_1,.seq #[.str "box" dw0_1_0,.str "box" dw0_1_1] dn0_1,ds0_1⟩)
  (dm0_2:K.lookup dp0_2=some ⟨.type "tuple",do0_2,.seq #[.str "box" dw0_2_0,.str "box" dw0_2_1] dn0_2,ds0_2⟩)
  (dm0_3:K.lookup dp0_3=some ⟨.type "tuple",do0_3,.seq #[.str "box" dw0_3_0,.str "box" dw0_3_1] dn0_3,ds0_3⟩)
  (dm0_4:K.lookup dp0_4=some ⟨.type "tuple",do0_4,.seq #[.str "box" dw0_4_0] dn0_4,ds0_4⟩)
  (dm0_5:K.lookup dp0_5=some ⟨.type "tuple",do0_5,.seq #[.str "box" dw0_5_0] dn0_5,ds0_5⟩)
  (dm0_6:K.lookup dp0_6=some ⟨.type "tuple",do0_6,.seq #[.str "goal" dw0_6_0] dn0_6,ds0_6⟩)
  (dm0_7:K.lookup dp0_7=some ⟨.type "tuple",do0_7,.seq #[.str "box" dw0_7_0,.str "goal" dw0_7_1] dn0_7,ds0_7⟩)
  (dm0_8:K.lookup dp0_8=some ⟨.type "tuple",do0_8,.seq #[] dn0_8,ds0_8⟩)
  (mq0:PySem.W.nsIn K mainGlobals "Kept"=some (some (.ref mC)))
  (mq1:PySem.W.plainGet K mC Str.empty=true)
  (mq2:PySem.W.hasDictIn K mC=true)
  (mq3:PySem.W.plainOver K mC=true)
  (mq4:PySem.W.findIn K (.ref mC) "__setattr__"=some (some (.builtin "object.__setattr__")))
  (mq5:PySem.W.findIn K (.ref mC) "book"=some none)
  (mq6:PySem.W.findIn K (.ref mC) "rows"=some none)
  (mq7:PySem.W.findIn K (.ref mC) "__init__"=some (some (.ref mf0)))
  (mq8:PySem.W.isFn K (.ref mf0)=true)
  (mq9:PySem.W.keepIn K (.ref mf0)=true)
  (mq10:K.lookup mf0=some ⟨moc0,mod0,.func (PySem.W.fnOf "__init__" "Kept.__init__" (bD ax) (aG ax) (aa ax) .none mkV0 mdc0 mpm0 man0 mcd0 mct0),msl0⟩)
  (mq11:PySem.W.codeIn K mcd0 "Kept.__init__"=true)
  (mq12:PySem.W.makesIn K mC=true)
  (mq13:PySem.W.keepIn K (.ref mC)=true)
  (mq14:PySem.W.findIn K (.ref mC) "put_in"=some (some (.ref mf1)))
  (mq15:PySem.W.isFn K (.ref mf1)=true)
  (mq16:PySem.W.keepIn K (.ref mf1)=true)
  (mq17:K.lookup mf1=some ⟨moc1,mod1,.func (PySem.W.fnOf "put_in" "Kept.put_in" (bD aJ) (aG aJ) (aa aJ) .none mkV1 mdc1 mpm1 man1 mcd1 mct1),msl1⟩)
  (mq18:PySem.W.codeIn K mcd1 "Kept.put_in"=true)
  (mq19:PySem.W.findIn K (.ref mC) "take_out"=some (some (.ref mf2)))
  (mq20:PySem.W.isFn K (.ref mf2)=true)
  (mq21:PySem.W.keepIn K (.ref mf2)=true)
  (mq22:K.lookup mf2=some ⟨moc2,mod2,.func (PySem.W.fnOf "take_out" "Kept.take_out" (bD aF) (aG aF) (aa aF) .none mkV2 mdc2 mpm2 man2 mcd2 mct2),msl2⟩)
  (mq23:PySem.W.codeIn K mcd2 "Kept.take_out"=true)
  (mq24:PySem.W.findIn K (.ref mC) "program"=some (some (.ref mf3)))
  (mq25:PySem.W.isFn K (.ref mf3)=true)
  (mq26:PySem.W.keepIn K (.ref mf3)=true)
  (mq27:K.lookup mf3=some ⟨moc3,mod3,.func (PySem.W.fnOf "program" "Kept.program" (bD aA) (aG aA) (aa aA) .none mkV3 mdc3 mpm3 man3 mcd3 mct3),msl3⟩)
  (mq28:PySem.W.codeIn K mcd3 "Kept.program"=true)
  (xf0:PySem.W.nsIn K mainGlobals "ShortError"=some (some (.ref xd_ShortError)))
  (xf1:PySem.W.nsIn K mainGlobals "NoRow"=some (some (.ref xd_NoRow)))
  (xf2:PySem.W.nsIn K mainGlobals "NoAsk"=some (some (.ref xd_NoAsk)))
  (xf3:PySem.W.nsIn K mainGlobals "NoBits"=some (some (.ref xd_NoBits)))
  (xf4:PySem.W.nsIn K mainGlobals "NoCode"=some (some (.ref xd_NoCode)))
  (xf5:PySem.W.nsIn K mainGlobals "NoProgram"=some (some (.ref xd_NoProgram)))
  (xf6:PySem.W.nsIn K mainGlobals "NoReach"=some (some (.ref xd_NoReach)))
  (xf7:PySem.W.excIn K xd_ShortError [.type "ValueError",.type "Exception",.type "BaseException",.type "object"] "ValueError.__new__"=true)
  (xf8:PySem.W.excIn K xd_NoRow [.type "ValueError",.type "Exception",.type "BaseException",.type "object"] "ValueError.__new__"=true)
  (xf9:PySem.W.findIn K (.ref xd_NoRow) "__getattribute__"=some (some (.builtin "BaseException.__getattribute__")))
  (xf10:PySem.W.findIn K (.ref xd_NoRow) "__getattr__"=some none)
  (xf11:PySem.W.findIn K (.ref xd_NoRow) "__class__"=some (some (.builtin "object.__class__")))
  (xf12:PySem.W.specialIn K (.builtin "object.__class__") "__get__"=some (some (.builtin "getset_descriptor.__get__")))
  (xf13:PySem.W.takesIn K (.builtin "object.__class__")=some true)
  (xf14:PySem.W.mroIn K xd_NoRow (.type "object")=some true)
  (xf15:PySem.W.mroIn K xd_NoRow (.type "BaseException")=some true)
  (xf16:PySem.W.mroIn K xd_NoRow (.ref xd_ShortError)=some true)
  (xf17:PySem.W.kitOne K (.ref xd_NoRow) (.ref xd_NoRow)=some true)
  (xf18:PySem.W.kitOne K (.ref xd_NoRow) (.type "ValueError")=some true)
  (xf19:PySem.W.kitAny K (.ref xd_NoRow) [(.ref xd_NoAsk),(.ref xd_NoBits),(.ref xd_NoCode),(.ref xd_NoProgram),(.ref xd_NoReach)]=some false)
  : ∃ fd:FuncData,(∀(s:Shared) (v:Value),BindsTo s fd ⟨[v],[]⟩ [("script",v)])/\∀ base:Heap,K.In base->base.Ns mainGlobals mg->aX l.prog w K mg base aW 30 fa fd ["script"] (la K):=by
 have e:=hfa.symm.trans (PySem.W.mg_of X G a18);cases e;have T:Txt K mg:=⟨PySem.W.mg_none_of X G z0,PySem.W.mg_none_of X G z1,PySem.W.mg_none_of X G z2,PySem.W.mg_none_of X G z3,PySem.W.mg_none_of X G z4,PySem.W.mg_none_of X G z5,PySem.W.mg_none_of X G z6,PySem.W.mg_none_of X G z7,PySem.W.mg_none_of X G z8,PySem.W.mg_none_of X G z9,PySem.W.mg_none_of X G z10,PySem.W.mg_none_of X G z11,PySem.W.mg_none_of X G z12,PySem.W.mg_none_of X G z13,⟨dd0,PySem.W.mg_of X G dg0,dz0,_,_,_,dl0,⟨rfl,rfl,rfl⟩,rfl,(.cons rfl ⟨dp0_0,rfl,⟨_,_,_,dm0_0,rfl,rfl,(by show 2<=sizeLine;decide),(.cons ⟨dw0_0_0,rfl⟩ (.cons ⟨dw0_0_1,rfl⟩ .nil))⟩⟩ (.cons rfl ⟨dp0_1,rfl,⟨_,_,_,dm0_1,rfl,rfl,(by show 2<=sizeLine;decide),(.cons ⟨dw0_1_0,rfl⟩ (.cons ⟨dw0_1_1,rfl⟩ .nil))⟩⟩ (.cons rfl ⟨dp0_2,rfl,⟨_,_,_,dm0_2,rfl,rfl,(by show 2<=sizeLine;decide),(.cons ⟨dw0_2_0,rfl⟩ (.cons ⟨dw0_2_1,rfl⟩ .nil))⟩⟩ (.cons rfl ⟨dp0_3,rfl,⟨_,_,_,dm0_3,rfl,rfl,(by show 2<=sizeLine;decide),(.cons ⟨dw0_3_0,rfl⟩ (.cons ⟨dw0_3_1,rfl⟩ .nil))⟩⟩ (.cons rfl ⟨dp0_4,rfl,⟨_,_,_,dm0_4,rfl,rfl,(by show 1<=sizeLine;decide),(.cons ⟨dw0_4_0,rfl⟩ .nil)⟩⟩ (.cons rfl ⟨dp0_5,rfl,⟨_,_,_,dm0_5,rfl,rfl,(by show 1<=sizeLine;decide),(.cons ⟨dw0_5_0,rfl⟩ .nil)⟩⟩ (.cons rfl ⟨dp0_6,rfl,⟨_,_,_,dm0_6,rfl,rfl,(by show 1<=sizeLine;decide),(.cons ⟨dw0_6_0,rfl⟩ .nil)⟩⟩ (.cons rfl ⟨dp0_7,rfl,⟨_,_,_,dm0_7,rfl,rfl,(by show 2<=sizeLine;decide),(.cons ⟨dw0_7_0,rfl⟩ (.cons ⟨dw0_7_1,rfl⟩ .nil))⟩⟩ (.cons rfl ⟨dp0_8,rfl,⟨_,_,_,dm0_8,rfl,rfl,(by show 0<=sizeLine;decide),.nil⟩⟩ .nil)))))))))⟩,⟨_,_,_,_,_,_,_,_,_,PySem.W.mg_of X G mq0,⟨mq1,mq2,mq3,mq4⟩,mq5,mq6,⟨mq12,mq7,mq8,mq13⟩,cE (st:=ax) mq10 mq11 mq9,(cE (st:=ax) mq10 mq11 mq9).binds (ps:=["self","book"]) (fun _ _ _ _ _ _ us hl=>by obtain⟨_,_,rfl⟩:=Y.lC hl;rfl),⟨mq14,mq15,mq16⟩,cE (st:=aJ) mq17 mq18 mq16,(cE (st:=aJ) mq17 mq18 mq16).binds (ps:=["self","place","row"]) (fun _ _ _ _ _ _ us hl=>by obtain⟨_,_,_,rfl⟩:=Y.tG hl;rfl),⟨mq19,mq20,mq21⟩,cE (st:=aF) mq22 mq23 mq21,(cE (st:=aF) mq22 mq23 mq21).binds (ps:=["self","place"]) (fun _ _ _ _ _ _ us hl=>by obtain⟨_,_,rfl⟩:=Y.lC hl;rfl),⟨mq24,mq25,mq26⟩,cE (st:=aA) mq27 mq28 mq26,(cE (st:=aA) mq27 mq28 mq26).binds (ps:=["self"]) (fun _ _ _ _ _ _ us hl=>by obtain⟨_,rfl⟩:=Y.rV hl;rfl)⟩,⟨_,_,_,_,_,_,_,PySem.W.mg_of X G xf0,PySem.W.mg_of X G xf1,PySem.W.mg_of X G xf2,PySem.W.mg_of X G xf3,PySem.W.mg_of X G xf4,PySem.W.mg_of X G xf5,PySem.W.mg_of X G xf6,⟨xf7⟩,⟨xf8⟩,⟨xf9,xf10,xf11,xf12,xf13,xf14,xf15⟩,xf16,xf17,xf18,xf19⟩⟩
 exact⟨PySem.W.fnOf "law" "law" (bD eB) (aG eB) (aa eB) .none kV18 dc18 pm18 an18 cd18 ct18,fun s v=>.of_eq rfl,fun base _ _=>(zv T F0 F1 F2 F3 F4 F5 F6 F7 F8 F9 F10 F11 F12 F13 F14 F15 F16 F17 (cE (st:=eB) l18 c18 k18)).mono (by decide)⟩
theorem walk{loose:List Str}{XP:(Str->Option Value)->Heap->Prop}{YP:World->Heap->Prop}{d:DefRec}{K:Params->Ih}(hn:l.most=some 63)(hdf:d.params.defaults=[])
  (hY:∀(w:World) (h:Heap),YP w h->(K w.params).In h)
  (F:∀(w:World) (mg:Str->Option Value) (fa:Addr) (h:Heap),(K w.params).In h->h.Ns mainGlobals mg->mg d.name=some (.ref fa)->∃ fd:FuncData,(∀(s:Shared) (u:Value),BindsTo s fd ⟨[u],[]⟩ [("script",u)])/\∀ base:Heap,(K w.params).In base->base.Ns mainGlobals mg->aX l.prog w (K w.params) mg base aW 30 fa fd ["script"] (la (K w.params))) (hL:∀(w:World) (h:Heap),(K w.params).In h->fv q (K w.params)) :
  PySem.W.WalkO q loose XP YP l.row.toRowW d [] (fun f vs=>PySem.call f vs):=
 L2.uJ (n:=63) (k:=30) (x:="script") (CX:=fun _=>aW) (sp:=fun w=>la (K w.params)) hn (by decide) hdf ⟨rfl,by decide,by decide,rfl⟩ hY F (fun _ _ a ns hl _ hS=>⟨a,ns,rfl,hS,hl,fun _=>rfl⟩) (fun _ _ _ _ _ z=>z) hL
theorem yX(_:K.In h) (nt:PySem.W.noTabs K=true)
  (ma_by_worth:PySem.W.nsIn K mainGlobals "by_worth"=some none)
  (ma_by_weight:PySem.W.nsIn K mainGlobals "by_weight"=some none)
  (ma_code_of:PySem.W.nsIn K mainGlobals "code_of"=some none)
  : fv q K:=fv.of nt (eO ma_by_worth) (eO ma_by_weight) (eO ma_code_of) (by first|exact mn|simp) (.inl rfl) (.inl rfl) (.inl rfl)
end
end G
open PySem PySem.W PyProof.Rows
local macro_rules | `(tactic| walk_at "b1") => `(tactic| (intro _ _ _ _ _ _ us hl; obtain ⟨_, e⟩ := L2.Y.rV hl; subst e; rfl))
local macro_rules | `(tactic| walk_at "b2") => `(tactic| (intro _ _ _ _ _ _ us hl; obtain ⟨_, _, e⟩ := L2.Y.lC hl; subst e; rfl))
local macro_rules | `(tactic| walk_at "b3") => `(tactic| (intro _ _ _ _ _ _ us hl; obtain ⟨_, _, _, e⟩ := L2.Y.tG hl; subst e; rfl))
local macro_rules | `(tactic| walk_at "b4") => `(tactic| (intro _ _ _ _ _ _ us hl; obtain ⟨_, _, _, _, e⟩ := L2.Y.D_ hl; subst e; rfl))
set_option maxRecDepth 100000 in
set_option maxHeartbeats 0 in
theorem PySem.Challenge.cw_shortrows_k38_kept_rows_holds : PySem.Challenge.rw_shortrows_k38_kept_rows.Holds := by
 w_on;o_law;k_head;(case hw=>w_witness2)
 k_fill
 refine G.walk (l:=PySem.Challenge.rw_shortrows_k38_kept_rows) rfl rfl (fun w h Y=>by first|exact PySem.W.kIn_of Y|exact PySem.W.km_in_of Y) ?F ?L
 case F =>
  intro w mg fa h KX GN hmg
  refine' G.all_mk KX GN hmg (G.kd KX GN ?a0 ?l0 ?c0 ?k0 (by walk_at "b1")) (G.kd KX GN ?a1 ?l1 ?c1 ?k1 (by walk_at "b2")) (G.kd KX GN ?a2 ?l2 ?c2 ?k2 (by walk_at "b3")) (G.kd KX GN ?a3 ?l3 ?c3 ?k3 (by walk_at "b3")) (G.kd KX GN ?a4 ?l4 ?c4 ?k4 (by walk_at "b1")) (G.kd KX GN ?a5 ?l5 ?c5 ?k5 (by walk_at "b2")) (G.kd KX GN ?a6 ?l6 ?c6 ?k6 (by walk_at "b2")) (G.kd KX GN ?a7 ?l7 ?c7 ?k7 (by walk_at "b2")) (G.kd KX GN ?a8 ?l8 ?c8 ?k8 (by walk_at "b1")) (G.kd KX GN ?a9 ?l9 ?c9 ?k9 (by walk_at "b1")) (G.kd KX GN ?a10 ?l10 ?c10 ?k10 (by walk_at "b2")) (G.kd KX GN ?a11 ?l11 ?c11 ?k11 (by walk_at "b2")) (G.kd KX GN ?a12 ?l12 ?c12 ?k12 (by walk_at "b4")) (G.kd KX GN ?a13 ?l13 ?c13 ?k13 (by walk_at "b3")) (G.kd KX GN ?a14 ?l14 ?c14 ?k14 (by walk_at "b1")) (G.kd KX GN ?a15 ?l15 ?c15 ?k15 (by walk_at "b4")) (G.kd KX GN ?a16 ?l16 ?c16 ?k16 (by walk_at "b3")) (G.kd KX GN ?a17 ?l17 ?c17 ?k17 (by walk_at "b3")) ?a18 ?l18 ?c18 ?k18 ?z0 ?z1 ?z2 ?z3 ?z4 ?z5 ?z6 ?z7 ?z8 ?z9 ?z10 ?z11 ?z12 ?z13 ?dg0 ?dz0 ?dl0 ?dm0_0 ?dm0_1 ?dm0_2 ?dm0_3 ?dm0_4 ?dm0_5 ?dm0_6 ?dm0_7 ?dm0_8 ?mq_0 ?mq_1 ?mq_2 ?mq_3 ?mq_4 ?mq_5 ?mq_6 ?mq_7 ?mq_8 ?mq_9 ?mq_10 ?mq_11 ?mq_12 ?mq_13 ?mq_14 ?mq_15 ?mq_16 ?mq_17 ?mq_18 ?mq_19 ?mq_20 ?mq_21 ?mq_22 ?mq_23 ?mq_24 ?mq_25 ?mq_26 ?mq_27 ?mq_28 ?xf0 ?xf1 ?xf2 ?xf3 ?xf4 ?xf5 ?xf6 ?xf7 ?xf8 ?xf9 ?xf10 ?xf11 ?xf12 ?xf13 ?xf14 ?xf15 ?xf16 ?xf17 ?xf18 ?xf19
  (case a0|l0|c0|k0|a1|l1|c1|k1|a2|l2|c2|k2|a3|l3|c3|k3|a4|l4|c4|k4|a5|l5|c5|k5|a6|l6|c6|k6|a7|l7|c7|k7|a8|l8|c8|k8|a9|l9|c9|k9|a10|l10|c10|k10|a11|l11|c11|k11|a12|l12|c12|k12|a13|l13|c13|k13|a14|l14|c14|k14|a15|l15|c15|k15|a16|l16|c16|k16|a17|l17|c17|k17|a18|l18|c18|k18=>k_is)
  (case z0=>k_is)
  (case z1=>k_is)
  (case z2=>k_is)
  (case z3=>k_is)
  (case z4=>k_is)
  (case z5=>k_is)
  (case z6=>k_is)
  (case z7=>k_is)
  (case z8=>k_is)
  (case z9=>k_is)
  (case z10=>k_is)
  (case z11=>k_is)
  (case z12=>k_is)
  (case z13=>k_is)
  (case dg0=>k_is)
  (case dl0=>k_is)
  (case dm0_0=>k_is)
  (case dm0_1=>k_is)
  (case dm0_2=>k_is)
  (case dm0_3=>k_is)
  (case dm0_4=>k_is)
  (case dm0_5=>k_is)
  (case dm0_6=>k_is)
  (case dm0_7=>k_is)
  (case dm0_8=>k_is)
  (case dz0=>rfl)
  (case mq_0=>k_is)
  (case mq_1=>k_is)
  (case mq_2=>k_is)
  (case mq_3=>k_is)
  (case mq_4=>k_is)
  (case mq_5=>k_is)
  (case mq_6=>k_is)
  (case mq_7=>k_is)
  (case mq_8=>k_is)
  (case mq_9=>k_is)
  (case mq_10=>k_is)
  (case mq_11=>k_is)
  (case mq_12=>k_is)
  (case mq_13=>k_is)
  (case mq_14=>k_is)
  (case mq_15=>k_is)
  (case mq_16=>k_is)
  (case mq_17=>k_is)
  (case mq_18=>k_is)
  (case mq_19=>k_is)
  (case mq_20=>k_is)
  (case mq_21=>k_is)
  (case mq_22=>k_is)
  (case mq_23=>k_is)
  (case mq_24=>k_is)
  (case mq_25=>k_is)
  (case mq_26=>k_is)
  (case mq_27=>k_is)
  (case mq_28=>k_is)
  (case xf0=>k_is)
  (case xf1=>k_is)
  (case xf2=>k_is)
  (case xf3=>k_is)
  (case xf4=>k_is)
  (case xf5=>k_is)
  (case xf6=>k_is)
  (case xf7=>k_exc)
  (case xf8=>k_exc)
  (case xf9=>k_is)
  (case xf10=>k_is)
  (case xf11=>k_is)
  (case xf12=>k_is)
  (case xf13=>k_is)
  (case xf14=>k_is)
  (case xf15=>k_is)
  (case xf16=>k_is)
  (case xf17=>kit_is)
  (case xf18=>kit_is)
  (case xf19=>kit_is)
 case L =>
  intro w h KX
  refine' G.yX KX (by kernel_rfl) ?ma_by_worth ?ma_by_weight ?ma_code_of
  (case ma_by_worth=>k_is)
  (case ma_by_weight=>k_is)
  (case ma_code_of=>k_is)
end
